import PyProof.Rows.All
import Wide.All
import OpenK.AllK
import Wide.FinOn
import Lean
import PyProof.EqAt
import PyProof.EqKinds
import PyProof.TupleCall
import PySem.Challenge.RW_undivide_k51_rules_of_signed_sums
set_option Elab.async false
set_option linter.all false
set_option maxRecDepth 100000
set_option compiler.extract_closed false
local macro_rules | `(tactic| omega) => `(tactic| lia)
namespace L2
open PySem PySem.Spec PyProof.Rows
abbrev qa:=@wpAny_bind
abbrev qb:=@wpAny_pure
abbrev qc:=PySem.W.Frag
abbrev qd:=@Heap.get?_push_of_some
abbrev qe:=@Nat.le_refl
abbrev qf:=@Bool.false_ne_true
abbrev qg:=@Heap.get?_push_size
abbrev qh:=@Heap.lt_size
abbrev qi:=@Nat.lt_of_lt_of_le
abbrev qj:=@Nat.ne_of_lt
abbrev qk.{u}:=@List.getElem?_eq_some_iff.{u}
abbrev ql.{u}:=@List.getElem?_eq_getElem.{u}
abbrev qm.{u}:=@List.mem_cons_of_mem.{u}
abbrev qo.{u}:=@List.mem_cons_self.{u}
abbrev qp.{u}:=@List.mem_singleton.{u}
abbrev qq.{u,v}:=@Option.map_eq_some_iff.{u,v}
abbrev qr.{u}:=@List.length_append.{u}
abbrev qt.{u}:=@List.length_cons.{u}
abbrev qu.{u}:=@List.mem_cons.{u}
abbrev qv.{u}:=@List.mem_append_right.{u}
abbrev qw.{u}:=@Option.some.inj.{u}
abbrev qx:=@Nat.le_trans
abbrev qy:=@wpAny_newObj_type
abbrev qA.{u}:=@List.getD_eq_getElem?_getD.{u}
abbrev qB.{u}:=@List.getElem?_set_ne.{u}
abbrev Key:=Sum Int Str
def zic:Key->Value->Bool
 | .inl k,v=>Value.isInt k v
 | .inr x,v=>Value.isStrOf x v
def zyD(w:World):Key->Int
 | .inl k=>hashInt k
 | .inr x=>hashStr w x
theorem zap:∀ {k:Key} {v:Value},zic k v=true->(∃ i t,k=Sum.inl i/\v=Value.int i t)\/(∃ x t,k=Sum.inr x/\v=Value.str x t)
 | .inl i,v,h=>by
  obtain⟨t,e⟩:=Value.isInt_shape (k:=i) (v:=v) h;exact .inl ⟨i,t,rfl,e⟩
 | .inr x,v,h=>by
  obtain⟨t,e⟩:=Value.isStrOf_shape (x:=x) (v:=v) h;exact .inr ⟨x,t,rfl,e⟩
theorem zot(i:Int)(t:Tok):zic (.inl i) (.int i t)=true:=by simp [zic,Value.isInt]
theorem zou(x:Str)(t:Tok):zic (.inr x) (.str x t)=true:=by simp [zic,Value.isStrOf]
theorem zwg(a b:Int):decide ((Sum.inl a:Key)=Sum.inl b)=(a==b):=by
 by_cases e:a=b
 ·subst e; simp
 ·have h:¬(Sum.inl a:Key)=Sum.inl b:=fun q=>e (Sum.inl.inj q)
  rw [decide_eq_false h];exact(beq_eq_false_iff_ne.mpr e).symm
theorem zwh(a b:Str):decide ((Sum.inr a:Key)=Sum.inr b)=decide (a=b):=by
 by_cases e:a=b
 ·subst e; simp
 ·have h:¬(Sum.inr a:Key)=Sum.inr b:=fun q=>e (Sum.inr.inj q)
  rw [decide_eq_false h,decide_eq_false e]
theorem zwi(a:Int)(b:Str):decide ((Sum.inl a:Key)=Sum.inr b)=false:=decide_eq_false (fun q=>nomatch q)
theorem zwj(a:Str)(b:Int):decide ((Sum.inr a:Key)=Sum.inl b)=false:=decide_eq_false (fun q=>nomatch q)
def zT(prog:Program)(w:World):PySem.KeyKind prog w Key where
 is:=zic
 hash:=zyD w
 inj:=fun v a b ha hb=>by
  rcases zap ha with ⟨i,t,rfl,rfl⟩ | ⟨x,t,rfl,rfl⟩
  ·rcases zap hb with ⟨j,u,rfl,e⟩ | ⟨y,u,rfl,e⟩
   ·injection e with e1 _; rw [e1]
   ·exact nomatch e
  ·rcases zap hb with ⟨j,u,rfl,e⟩ | ⟨y,u,rfl,e⟩
   ·exact nomatch e
   ·injection e with e1 _; rw [e1]
 byValue:=fun k v h=>by
  rcases zap h with ⟨i,t,rfl,rfl⟩ | ⟨x,t,rfl,rfl⟩<;>rfl
 pyHash:=fun hv h=>by
  rcases zap hv with ⟨i,t,rfl,rfl⟩ | ⟨x,t,rfl,rfl⟩
  ·exact wpAny_pyHash_int h
  ·exact wpAny_pyHash_str h
 eqBool:=fun hu hv h=>by
  rcases zap hu with ⟨i,t,rfl,rfl⟩ | ⟨x,t,rfl,rfl⟩
  ·rcases zap hv with ⟨j,u,rfl,rfl⟩ | ⟨y,u,rfl,rfl⟩
   ·rw [zwg]at h; exact wpAny_eqBool_int h
   ·rw [zwi]at h; exact SeqAt.EqAt.int_str i t y u _ _ _ _ h
  ·rcases zap hv with ⟨j,u,rfl,rfl⟩ | ⟨y,u,rfl,rfl⟩
   ·rw [zwj]at h; exact SeqAt.EqAt.str_int x t j u _ _ _ _ h
   ·rw [zwh]at h; exact wpAny_eqBool_str h
 «strs»:=fun k x t v h=>by
  rcases zap h with ⟨i,u,rfl,e⟩ | ⟨y,u,rfl,e⟩
  ·exact nomatch e
  ·injection e with e1 _
   subst e1;cases v<;>rfl
theorem zj6(prog:Program)(w:World)(i:Int)(t:Tok):(zT prog w).is (.inl i) (.int i t)=true:=zot i t
theorem zj7(prog:Program)(w:World)(x:Str)(t:Tok):(zT prog w).is (.inr x) (.str x t)=true:=zou x t
inductive V where
 | non | bl (b:Bool) | int (i:Int) | str (x:Str) | byt (b:Array UInt8) | flt (b:UInt64) | ref (a:Addr) | ty (n:String)
 deriving DecidableEq
def zJ:V->Value->Prop
 | .non,u=>u=Value.none
 | .bl b,u=>u=Value.bool b
 | .int i,u=>∃ t,u=Value.int i t
 | .str x,u=>∃ t,u=Value.str x t
 | .byt b,u=>∃ t,u=Value.bytes b t
 | .flt b,u=>∃ t,u=Value.float b t
 | .ref a,u=>u=Value.ref a
 | .ty n,u=>u=Value.type n
abbrev zH:List V->List Value->Prop:=Paired zJ
theorem zH.length{xs:List V}{us:List Value}(r:zH xs us):xs.length=us.length:=Paired.length r
theorem zH.get:∀ {xs:List V} {us:List Value} {i:Nat} {x:V},zH xs us->xs[i]?=some x->∃ u,us[i]?=some u/\zJ x u
 | _,_,_,_,.nil,e=>by simp at e
 | _,_,0,_,.cons r _,e=>by simp at e; subst e; exact⟨_,rfl,r⟩
 | _,_,i+1,x,.cons _ t,e=>by
  obtain⟨u,h1,h2⟩:=zH.get (i:=i) (x:=x) t (by simpa using e);exact⟨u,by simpa using h1,h2⟩
theorem zH.set{x:V}{u:Value}(r:zJ x u):∀ {xs:List V} {us:List Value} (i:Nat),zH xs us->zH (xs.set i x) (us.set i u)
 | _,_,_,.nil=>.nil
 | _,_,0,.cons _ t=>.cons r t
 | _,_,i+1,.cons q t=>.cons q (zH.set r i t)
theorem zH.append:∀ {xs ys:List V} {us ws:List Value},zH xs us->zH ys ws->zH (xs++ys) (us++ws)
 | _,_,_,_,.nil,s=>s
 | _,_,_,_,.cons r t,s=>.cons r (zH.append t s)
theorem zH.take:∀ {xs:List V} {us:List Value} (n:Nat),zH xs us->zH (xs.take n) (us.take n)
 | _,_,0,_=>.nil
 | _,_,_+1,.nil=>.nil
 | _,_,n+1,.cons r t=>.cons r (zH.take n t)
theorem zH.drop:∀ {xs:List V} {us:List Value} (n:Nat),zH xs us->zH (xs.drop n) (us.drop n)
 | _,_,0,r=>r
 | _,_,_+1,.nil=>.nil
 | _,_,n+1,.cons _ t=>zH.drop n t
def zeJ:Option V->Option Value->Prop
 | some v,some u=>zJ v u
 | none,none=>True
 | _,_=>False
def KV{κ:Type}:List (κ×V)->List (κ×Value)->Prop:=Paired fun(p:κ×V) (q:κ×Value)=>p.1=q.1/\zJ p.2 q.2
def kV:Key->V
 | .inl i=>.int i
 | .inr x=>.str x
inductive HO where
 | lst (xs:List V)
 | tup (xs:List V)
 | dK (kvs:List (Key×V)) | dT (kvs:List (List Key×V))
 | set (S:Int->Bool) (n:Nat)
 | ins (C dx:Addr) (fs:List (Str×V))
 | own (x:Addr)
 | xd (fs:List (Str×V))
 | met (f x:Addr)
 | rng (lo hi:Int)
 | frz (o:Obj) (u:HO)
 | tbl (ps:Array Value)
 | ext (φ:Heap->Prop)
abbrev Hp:=Addr->Option HO
def upd(H:Hp)(a:Addr)(o:HO):Hp:=fun b=>if b=a then some o else H b
theorem zt{H:Hp}{a:Addr}{o:HO}:upd H a o a=some o:=by unfold upd; rw [if_pos rfl]
theorem zu{H:Hp}{a b:Addr}{o:HO}(h:b≠a):upd H a o b=H b:=by unfold upd; rw [if_neg h]
theorem zgv{H:Hp}{a:Addr}{o u:HO}:upd (upd H a o) a u=upd H a u:=by
 funext b; unfold upd; split<;>rfl
theorem ze4{H:Hp}{a b:Addr}{o u:HO}(h:H a=some o)(h':H b=some u)(d:o≠u):a≠b:=by
 intro e; subst e; rw [h]at h'; exact d (qw h')
theorem zP{H:Hp}{a b:Addr}{o:HO}(h:H a=some o)(h':H b=none):a≠b:=by
 intro e; subst e; rw [h]at h'; cases h'
def zAk(K:qc)(a:Addr)(xs:List V):Prop:=∃ (o:Obj) (its:Array Value) (n:Nat),K.lookup a=some o/\o.cls=.type "tuple"/\o.data=.seq its n/\its.size<=sizeLine/\zH xs its.toList/\∃ i r,xs=.int i::r
def TpK(K:qc)(H:Hp)(a:Addr)(xs:List V):Prop:=H a=some (.tup xs)\/zAk K a xs
theorem TpK.keeps{K:qc}{H H':Hp}{a:Addr}{xs:List V}(h:TpK K H a xs)(ht:∀ b ys,H b=some (.tup ys)->H' b=some (.tup ys)):TpK K H' a xs:=h.imp (ht _ _) id
def zdb(h:Heap)(a:Addr)(items:Array Value):Prop:=∃ o,h.get? a=some o/\o.cls=.type "tuple"/\(∃ n,o.data=.seq items n)/\(o.dict=none\/∃ i t r,items.toList=.int i t::r)
theorem zdb.tup{h:Heap}{a:Addr}{items:Array Value}(x:zdb h a items):IsTup h a items:=let ⟨o,e,c,d,_⟩:=x; ⟨o,e,c,d⟩
theorem zdb.lt{h:Heap}{a:Addr}{items:Array Value}(x:zdb h a items):a < h.objs.size:=x.tup.lt
theorem zdb.new(h:Heap)(items:Array Value):zdb (h.push { cls:=.type "tuple",data:=.seq items }) h.objs.size items:=⟨_,qg _ rfl,rfl,⟨_,rfl⟩,.inl rfl⟩
section
variable (P:Program) (w:World) (K:qc)
def zX(H:Hp)(h:Heap)(a:Addr):HO->Prop
 | .lst xs=>xs.length<=sizeLine/\∃ (its:List Value) (n:Nat),zH xs its/\h.get? a=some { cls:=.type "list",data:=.seq its.toArray n }
 | .tup xs=>xs.length<=sizeLine/\∃ its:List Value,zH xs its/\zdb h a its.toArray
 | .dK kvs=>kvs.length<=sizeLine/\(a==sysModules)=false/\∃ vs,KV kvs vs/\h.DictOf (zT P w) a vs
 | .dT kvs=>kvs.length<=sizeLine/\(a==sysModules)=false/\∃ xs:List (List Key×Addr×Value),
   Paired (fun(p:List Key×V) (q:List Key×Addr×Value)=>p.1=q.1/\TpK K H q.2.1 (p.1.map kV)/\zJ p.2 q.2.2) kvs xs /\
   ∃ o es ep,h.get? a=some o/\o.ExactDict/\o.data=.dict es ep/\es.toList=xs.map (entryOfKey (tupleKind (zT P w)))/\(xs.map (·.1)).Nodup
 | .set S n=>h.SetOf (intKind P w) a S n
 | .ins C dx fs=>H dx=some (.own a)/\fs.length<=1000/\dx≠a/\h.get? a=some (PySem.W.instObj C dx) /\
   ∃ mA,h.Ns1 dx mA/\(∀ f,zeJ (fs.lookup f) (mA f))/\PySem.Within mA (fs.map (·.1))
 | .own _=>∃ o,h.get? a=some o
 | .xd fs=>∃ mA,h.Ns1 a mA/\∀ f,zeJ (fs.lookup f) (mA f)
 | .rng lo hi=>∃ t u v,h.get? a=some { cls:=.type "range",data:=.fields #[.int lo t,.int hi u,.int 1 v] }
 | .frz o u=>h.get? a=some o/\zX H h a u
 | .tbl ps=>h.get? a=some { cls:=.none,data:=.fields ps }
 | .met f x=>h.get? a=some (PySem.W.methodObj (.ref f) (.ref x))
 | .ext φ=>φ h/\(∃ o,h.get? a=some o)/\∀ h1 h2:Heap,φ h1->(∀ o,h1.get? a=some o->h2.get? a=some o)->φ h2
def HOk(H:Hp)(h:Heap):Prop:=∀ a o,H a=some o->zX P w K H h a o
end
section
variable {P:Program} {w:World} {K:qc} {H H':Hp} {h h':Heap} {a:Addr} {o:HO}
theorem zX.lt(x:zX P w K H h a o):a < h.objs.size:=by
 cases o with
 | lst xs=>obtain⟨_,_,_,_,e⟩:=x; exact qh e
 | tup xs=>obtain⟨_,_,_,p⟩:=x; exact p.lt
 | dK kvs=>obtain⟨_,_,_,_,o,_,_,e,_⟩:=x; exact qh e
 | dT kvs=>obtain⟨_,_,_,_,o,_,_,e,_⟩:=x; exact qh e
 | set S n=>obtain⟨o,_,_,_,e,_⟩:=x; exact qh e
 | ins C dx fs=>obtain⟨_,_,_,e,_⟩:=x; exact qh e
 | own y=>obtain⟨_,e⟩:=x; exact qh e
 | xd fs=>obtain⟨_,⟨_,_,_,e,_⟩,_⟩:=x; exact qh e
 | rng lo hi=>obtain⟨_,_,_,e⟩:=x; exact qh e
 | frz ob u=>obtain⟨e,_⟩:=x; exact qh e
 | tbl ps=>exact qh (show h.get? a=some _ from x)
 | met f y=>exact qh (show h.get? a=some _ from x)
 | ext φ=>obtain⟨_,⟨_,e⟩,_⟩:=x; exact qh e
theorem Paired.mapP{α β:Type}{F G:α->β->Prop}:∀ {l₁:List α} {l₂:List β},Paired F l₁ l₂->(∀ a b,F a b->G a b)->Paired G l₁ l₂
 | _,_,.nil,_=>.nil
 | _,_,.cons r t,f=>.cons (f _ _ r) (Paired.mapP t f)
theorem zX.stay(x:zX P w K H h a o)(k:∀ b u,(b=a\/H b=some (.own a))->h.get? b=some u->h'.get? b=some u)
  (ho:∀ b,H b=some (.own a)->H' b=some (.own a)) (ht:∀ b xs,H b=some (.tup xs)->H' b=some (.tup xs)):zX P w K H' h' a o:=by
 induction o with
 | lst xs=>obtain⟨z,its,n,r,e⟩:=x; exact⟨z,its,n,r,k _ _ (.inl rfl) e⟩
 | tup xs=>obtain⟨z,its,r,ob,e,c⟩:=x; exact⟨z,its,r,ob,k _ _ (.inl rfl) e,c⟩
 | dK kvs=>obtain⟨z,y,vs,r,ob,es,ep,e,c⟩:=x; exact⟨z,y,vs,r,ob,es,ep,k _ _ (.inl rfl) e,c⟩
 | dT kvs =>
  obtain⟨z,y,xs,r,ob,es,ep,e,c⟩:=x;exact⟨z,y,xs,Paired.mapP r fun p q z=>⟨z.1,z.2.1.keeps ht,z.2.2⟩,ob,es,ep,k _ _ (.inl rfl) e,c⟩
 | set S n=>obtain⟨ob,es,ep,t,e,c⟩:=x; exact⟨ob,es,ep,t,k _ _ (.inl rfl) e,c⟩
 | ins C dx fs =>
  obtain⟨d,z,ne,e,mA,⟨od,es,ep,e2,c⟩,r⟩:=x;exact⟨ho _ d,z,ne,k _ _ (.inl rfl) e,mA,⟨od,es,ep,k _ _ (.inr d) e2,c⟩,r⟩
 | own y=>obtain⟨ob,e⟩:=x; exact⟨ob,k _ _ (.inl rfl) e⟩
 | xd fs=>obtain⟨mA,⟨od,es,ep,e,c⟩,r⟩:=x; exact⟨mA,⟨od,es,ep,k _ _ (.inl rfl) e,c⟩,r⟩
 | rng lo hi=>obtain⟨t,u,v,e⟩:=x; exact⟨t,u,v,k _ _ (.inl rfl) e⟩
 | frz ob u ih=>obtain⟨e,q⟩:=x; exact⟨k _ _ (.inl rfl) e,ih q⟩
 | tbl ps =>
  have e:h.get? a=some { cls:=.none,data:=.fields ps }:=x;show h'.get? a=some { cls:=.none,data:=.fields ps };exact k a _ (.inl rfl) e
 | met f y =>
  have e:h.get? a=some (PySem.W.methodObj (.ref f) (.ref y)):=x;show h'.get? a=some (PySem.W.methodObj (.ref f) (.ref y));exact k a _ (.inl rfl) e
 | ext φ=>obtain⟨p,⟨o,e⟩,st⟩:=x; exact⟨st _ _ p fun o q=>k _ _ (.inl rfl) q,⟨o,k _ _ (.inl rfl) e⟩,st⟩
theorem HOk.lt(x:HOk P w K H h)(e:H a=some o):a < h.objs.size:=(x a o e).lt
theorem HOk.fresh(x:HOk P w K H h)(e:h.objs.size<=a):H a=none:=by
 cases q:H a with
 | none=>rfl
 | some u=>exact absurd (qi (x.lt q) e) (Nat.lt_irrefl _)
theorem HOk.kept(x:HOk P w K H h)(k:∀ b u,h.get? b=some u->h'.get? b=some u):HOk P w K H h':=fun a o e =>
 (x a o e).stay (fun b u _ q=>k b u q) (fun _ q=>q) fun _ _ q=>q
theorem HOk.laid(x:HOk P w K H h)(k:∀ b u,h.get? b=some u->h'.get? b=some u)(hp:h.objs.size<=a)(new:zX P w K (upd H a o) h' a o):HOk P w K (upd H a o) h':=fun b u e=>by
 have hn:=x.fresh hp
 by_cases hb:b=a
 ·subst hb; rw [zt]at e; cases e; exact new
 ·rw [zu hb]at e
  exact(x b u e).stay (fun c v _ q=>k c v q) (fun c q=>by rw [zu (zP q hn)]; exact q) fun c xs q=>by rw [zu (zP q hn)]; exact q
end
def Rd(H:Hp)(a:Addr)(u:HO):Prop:=H a=some u\/∃ o,H a=some (.frz o u)
theorem Rd.ok{P:Program}{w:World}{K:qc}{H:Hp}{h:Heap}{a:Addr}{u:HO}(r:Rd H a u)(x:HOk P w K H h):zX P w K H h a u:=by
 rcases r with r | ⟨o,r⟩
 ·exact x a u r
 ·obtain⟨_,q⟩:=x a _ r
  exact q
def Mut:Option HO->Prop
 | some (.lst _)=>True
 | some (.dK _)=>True
 | some (.dT _)=>True
 | some (.set _ _)=>True
 | some (.ins _ _ _)=>True
 | some (.ext _)=>True
 | _=>False
section
variable {P:Program} {w:World} {K:qc} {H:Hp} {h h':Heap} {x e:Addr} {o':HO}
theorem HOk.write(ok:HOk P w K H h)(mu:Mut (H x))(he:e=x\/H e=some (.own x))(k:∀ b u,b≠e->h.get? b=some u->h'.get? b=some u)(heo:∃ u,h'.get? e=some u)
  (new:zX P w K (upd H x o') h' x o'):HOk P w K (upd H x o') h':=fun b u q=>by
 have nown:∀ c y,H c=some (.own y)->c≠x:=fun c y r z=>by subst z; rw [r]at mu; exact mu
 have ntup:∀ c xs,H c=some (.tup xs)->c≠x:=fun c xs r z=>by subst z; rw [r]at mu; exact mu
 by_cases hb:b=x
 ·subst hb; rw [zt]at q; cases q; exact new
 ·rw [zu hb]at q
  by_cases hbe:b=e
  ·have q':H b=some (.own x):=by
    rcases he with z | z
    ·exact absurd (hbe.trans z) hb
    ·rw [hbe]; exact z
   rw [q]at q'; cases q';obtain⟨v,hv⟩:=heo;exact⟨v,by rw [hbe]; exact hv⟩
  ·refine(ok b u q).stay (fun c v hc r=>k c v ?_ r) (fun c r=>by rw [zu (nown c b r)]; exact r) fun c xs r=>by rw [zu (ntup c xs r)]; exact r
   rcases hc with rfl | hc
   ·exact hbe
   ·rintro rfl
    rcases he with z | z
    ·exact nown c b hc z
    ·rw [hc]at z; cases z; exact hb rfl
end
structure Un (fs ex:List Addr) (H H':Hp) (h h':Heap):Prop where
 keep:∀ b o,h.get? b=some o->H b=none->b∉fs->b∉ex->h'.get? b=some o
 slot:∀ b o,h.get? b=some o->H b=none->b∈fs->b∉ex->∃ sl,h'.get? b=some { o with slots:=sl }
 free:∀ b o,h.get? b=some o->H b=none->b∉ex->H' b=none
 there:∀ b o,h.get? b=some o->b∉ex->∃ o',h'.get? b=some o'
 tups:∀ b xs,H b=some (.tup xs)->H' b=some (.tup xs)
 frzs:∀ b o u,H b=some (.frz o u)->H' b=some (.frz o u)
 tbls:∀ b ps,H b=some (.tbl ps)->∃ more,H' b=some (.tbl (ps++more))
section
variable {fs fs' ex ex':List Addr} {H H1 H2:Hp} {h h1 h2 h':Heap} {a x e:Addr} {o:HO}
theorem Un.any(u:Un fs ex H H1 h h1){b:Addr}{ob:Obj}(q:h.get? b=some ob)(n:H b=none)(hx:b∉ex):∃ sl,h1.get? b=some { ob with slots:=sl }:=by
 by_cases hb:b∈fs
 ·exact u.slot b ob q n hb hx
 ·exact⟨ob.slots,u.keep b ob q n hb hx⟩
theorem Un.kept(k:∀ b u,h.get? b=some u->h'.get? b=some u):Un fs ex H H h h' :=
 ⟨fun b ob q _ _ _=>k b ob q,fun b ob q _ _ _=>⟨ob.slots,k b ob q⟩,fun _ _ _ n _=>n,fun b ob q _=>⟨ob,k b ob q⟩,fun _ _ q=>q,fun _ _ _ q=>q,fun _ ps q=>⟨#[],by rw [q]; simp⟩⟩
theorem Un.refl:Un fs ex H H h h:=Un.kept fun _ _ q=>q
theorem Un.laid(k:∀ b u,h.get? b=some u->h'.get? b=some u)(hp:h.objs.size<=a)(hn:H a=none):Un fs ex H (upd H a o) h h' where
 keep:=fun b u q _ _ _=>k b u q
 slot:=fun b u q _ _ _=>⟨u.slots,k b u q⟩
 free:=fun b u q n _=>by rw [zu (qj (qi (qh q) hp))]; exact n
 there:=fun b u q _=>⟨u,k b u q⟩
 tups:=fun b xs q=>by rw [zu (zP q hn)]; exact q
 frzs:=fun b u xs q=>by rw [zu (zP q hn)]; exact q
 tbls:=fun b ps q=>⟨#[],by rw [zu (zP q hn),q]; simp⟩
theorem Un.write(mu:Mut (H x))(he:e=x\/H e=some (.own x))(k:∀ b u,b≠e->h.get? b=some u->h'.get? b=some u)(heo:∃ u,h'.get? e=some u):Un fs ex H (upd H x o) h h':=by
 have hx:∀ b,H b=none->b≠x:=fun b n z=>by subst z; rw [n]at mu; exact mu
 have hb:∀ b,H b=none->b≠e:=fun b n z=>by
  subst z;rcases he with r | r
  ·exact hx b n r
  ·rw [n]at r; cases r
 have hm:∀ b u,H b=some u->¬Mut (some u)->b≠x:=fun b u q nm z=>by subst z; rw [q]at mu; exact nm mu
 refine⟨fun b u q n _ _=>k b u (hb b n) q,fun b u q n _ _=>⟨u.slots,k b u (hb b n) q⟩,fun b u q n _=>by rw [zu (hx b n)]; exact n,fun b u q _=>?_,
  fun b xs q=>by rw [zu (hm b _ q fun z=>z)]; exact q,fun b u xs q=>by rw [zu (hm b _ q fun z=>z)]; exact q,fun b ps q=>⟨#[],by rw [zu (hm b _ q fun z=>z),q]; simp⟩⟩
 by_cases hbe:b=e
 ·subst hbe; exact heo
 ·exact⟨u,k b u hbe q⟩
end
def trk(h:Heap)(H:Hp):List Addr:=(List.range h.objs.size).filter fun a=>(H a).isSome
def ziT(h:Heap)(H:Hp):Heap:=PySem.W.hideAll h (trk h H)
theorem zov(h:Heap)(H:Hp):(ziT h H).objs.size=h.objs.size:=PySem.W.hideAll_size _ _
theorem zpt{h:Heap}{H:Hp}{b:Addr}{o:Obj}(e:h.get? b=some o)(n:H b=none):(ziT h H).get? b=some o :=
 PySem.W.hideAll_get _ e fun hm=>by
  have q:(H b).isSome=true:=(List.mem_filter.mp hm).2;rw [n]at q; simp at q
theorem zsV{h:Heap}{H:Hp}{b:Addr}{o:Obj}(e:(ziT h H).get? b=some o):h.get? b=some o/\H b=none:=by
 have e':h.get? b=some o:=PySem.W.of_hideAll (trk h H) e;refine⟨e',?_⟩;cases q:H b with
 | none=>rfl
 | some x =>
  have hm:b∈trk h H:=List.mem_filter.mpr ⟨List.mem_range.mpr (qh e'),by simp [q]⟩;have z:(ziT h H).get? b=none:=PySem.W.hideAll_none (trk h H) hm;rw [z]at e; cases e
def zsW(g h:Heap)(L:Addr):List (Addr×Obj):=(List.range h.objs.size).filterMap fun a=>if a=L\/(g.get? a).isSome=true then none else(h.get? a).map fun o=>(a,o)
def zbA(g h:Heap)(L d:Addr):List (Addr×Obj):=(zsW g h L).filter fun p=>decide (p.1≠d)
structure Mod (K:qc) (mg:Str->Option Value) (base:Heap):Prop where
 kin:K.In base
 glob:base.Ns mainGlobals mg
 blt:∃ mb,base.Ns builtinsNs mb/\∀ x:Str,x ≠ "__name__"->mb x=bootBuiltins x
 nolimit:base.NoLimit
structure Cx where
 prog:Program
 w:World
 K:qc
 mg:Str->Option Value
 base:Heap
 A:Around
 N:List Str
 s₀:Shared
 H₀:Hp
 env:Env
 outer:List Env
 stack:List Env
 ex:List Addr
 fn:Str->Bool
 calm:Bool
 pn:List (Addr×Obj)
 xe:Value->Shared->Prop
def frs(l:List Env):List Addr:=l.filterMap (·.frame)
abbrev Cx.fs(X:Cx):List Addr:=frs X.outer
def Vis(sc:Scope)(x:Str):Prop:=sc.names.lookup x=some .local\/sc.names.lookup x=some .cell\/sc.names.lookup x=some .free
def Loc(sc:Scope)(x:Str):Prop:=sc.names.lookup x=some .local\/sc.names.lookup x=some .cell
def zAl(env:Env)(h:Heap)(m:Str->Option Value)(x:Str)(u:Value):Prop :=
 (env.kindOf x=some .local/\m x=some u)\/((env.kindOf x=some .cell\/env.kindOf x=some .free)/\∃ c,env.cells.lookup x=some c/\h.IsCell c (some u))
structure Cx.Ok (X:Cx):Prop where
 mod:Mod X.K X.mg X.base
 kind:X.env.scope.kind=.function
 glob:X.env.globals=mainGlobals
 blt:X.env.builtins=builtinsNs
 above:X.s₀.heap.objs.size<=X.env.locals
 inj:∀ x y c,X.env.cells.lookup x=some c->X.env.cells.lookup y=some c->x=y
 has:∀ x,(X.env.kindOf x=some .cell\/X.env.kindOf x=some .free)->∃ c,X.env.cells.lookup x=some c
 cab:∀ x c,X.fn x=true->X.env.cells.lookup x=some c->X.s₀.heap.objs.size<=c
 hd:X.calm=true->X.A.handled=none
 frames:X.A.frames=some X.stack
 stk:X.stack=X.outer\/(X.stack=X.env::X.outer/\X.env.frame=some X.env.locals)
 exf:∀ b∈X.ex,b≠X.env.locals/\∀ x c,X.env.cells.lookup x=some c->c≠b
 bs:∀ b o,X.base.get? b=some o->X.s₀.heap.get? b=some o/\X.H₀ b=none
 bsz:X.base.objs.size<=X.s₀.heap.objs.size
 noex:∀ b o,X.base.get? b=some o->b∉X.ex
 exfs:∀ b∈X.ex,b∉X.fs
 funs:X.s₀.heap.FunFrames X.base X.outer
 frf:∀ b∈X.fs,X.H₀ b=none
structure Inv (X:Cx) (pins:List (Addr×Obj)) (σ:List (Option V)) (H:Hp) (s:Shared):Prop where
 ok:X.Ok
 os:s.os=X.s₀.os
 bare:AllBare s.gens
 base:Un X.fs X.ex X.H₀ H X.s₀.heap s.heap
 loc:∃ m,s.heap.Ns X.env.locals m/\∀ (i:Nat) (x:Str) (v:V),X.N[i]?=some x->σ[i]?=some (some v)->Vis X.env.scope x->∃ u,zJ v u/\zAl X.env s.heap m x u
 cell:∀ x c,X.env.cells.lookup x=some c->∃ v,s.heap.IsCell c v
 free:H X.env.locals=none
 freeC:∀ x c,X.env.cells.lookup x=some c->H c=none
 pin:∀ p∈X.pn++pins,s.heap.get? p.1=some p.2/\H p.1=none/\p.1≠X.env.locals/\p.1∉X.fs/\∀ v,p.2.data≠.cell v
 hok:HOk X.prog X.w X.K H s.heap
 len:σ.length=X.N.length
section
variable {X:Cx} {pins:List (Addr×Obj)} {σ:List (Option V)} {H H':Hp} {s:Shared} {h':Heap}
theorem Cx.Ok.nofr(ok:X.Ok){b:Addr}{o:Obj}(e:X.base.get? b=some o):b∉X.fs:=fun hb=>by
 have:=(ok.funs.mem hb).1;rw [e]at this; cases this
theorem Inv.bs(I:Inv X pins σ H s):∀ b o,X.base.get? b=some o->s.heap.get? b=some o/\H b=none:=fun b o e =>
 ⟨I.base.keep b o (I.ok.bs b o e).1 (I.ok.bs b o e).2 (I.ok.nofr e) (I.ok.noex b o e),I.base.free b o (I.ok.bs b o e).1 (I.ok.bs b o e).2 (I.ok.noex b o e)⟩
theorem Inv.bk(I:Inv X pins σ H s):∀ b o,X.base.get? b=some o->s.heap.get? b=some o:=fun b o e=>(I.bs b o e).1
theorem Inv.mod(I:Inv X pins σ H s):Mod X.K X.mg X.base:=I.ok.mod
theorem Inv.kIn(I:Inv X pins σ H s):X.K.In s.heap:=I.ok.mod.kin.keeps I.bk
theorem Inv.nolimit(I:Inv X pins σ H s):s.heap.NoLimit:=I.ok.mod.nolimit.keeps I.bk
theorem Inv.fr(I:Inv X pins σ H s):∃ m,Fr X.base X.env.locals s.heap m :=
 let ⟨m,hn,_⟩:=I.loc
 ⟨m,hn,I.bk,qx I.ok.bsz I.ok.above⟩
theorem Inv.lt(I:Inv X pins σ H s):X.env.locals < s.heap.objs.size:=let ⟨_,hn,_⟩:=I.loc; hn.lt
theorem Inv.sz(I:Inv X pins σ H s):X.s₀.heap.objs.size<=s.heap.objs.size:=qx I.ok.above (Nat.le_of_lt I.lt)
theorem Inv.nofs(I:Inv X pins σ H s){a:Addr}(h:s.heap.objs.size<=a):a∉X.fs:=fun hb=>by
 obtain⟨_,o,ho,_⟩:=I.ok.funs.mem hb;exact absurd (qi (qh ho) (qx I.sz h)) (Nat.lt_irrefl _)
theorem Inv.cne(I:Inv X pins σ H s):∀ x c,X.env.cells.lookup x=some c->c≠X.env.locals:=fun x c e z=>by
 obtain⟨v,o,ho,hd⟩:=I.cell x c e;obtain⟨m,⟨o',es,ep,ho',hd',_⟩,_⟩:=I.loc;rw [z,ho']at ho; cases ho; rw [hd']at hd; cases hd
theorem Inv.funs(I:Inv X pins σ H s):s.heap.FunFrames X.base X.outer:=by
 have all:∀ (l:List Env),(∀ b∈frs l,b∈X.fs)->X.s₀.heap.FunFrames X.base l->s.heap.FunFrames X.base l:=by
  intro l
  induction l with
  | nil=>intro _ _; trivial
  | cons env r ih =>
   intro hs hl;obtain⟨hk,⟨L,o,hf,hn,ho,hd⟩,hr⟩:=hl;have hL:L∈X.fs:=hs L (by unfold frs; rw [List.filterMap_cons,hf]; exact qo);obtain⟨sl,e⟩:=I.base.slot L o ho (I.ok.frf L hL) hL fun z=>I.ok.exfs L z hL;exact⟨hk,⟨L,_,hf,hn,e,hd⟩,ih (fun b hb=>hs b (by unfold frs; rw [List.filterMap_cons,hf]; exact qm _ hb)) hr⟩
 exact all X.outer (fun _ hb=>hb) I.ok.funs
theorem Inv.stack(I:Inv X pins σ H s):s.heap.FunFrames X.base X.stack:=by
 rcases I.ok.stk with e | ⟨e,hf⟩
 ·rw [e]; exact I.funs
 ·rw [e]
  obtain⟨m,hn,_⟩:=I.loc;refine .cons (by rw [I.ok.kind]; decide) hf hn ?_ I.funs;exact Heap.get?_none_of_le (qx I.ok.bsz I.ok.above)
theorem Inv.stkSub(I:Inv X pins σ H s):∀ b∈frs X.stack,b∈X.env.locals::X.fs:=fun b hb=>by
 rcases I.ok.stk with e | ⟨e,hf⟩
 ·rw [e]at hb; exact qm _ hb
 ·rw [e]at hb
  unfold frs at hb;rw [List.filterMap_cons,hf]at hb;exact hb
theorem Inv.stkFree(I:Inv X pins σ H s):∀ b∈frs X.stack,H b=none:=fun b hb=>by
 rcases qu.mp (I.stkSub b hb)with e | hb
 ·rw [e]; exact I.free
 ·obtain⟨_,o,ho,_⟩:=I.ok.funs.mem hb
  exact I.base.free b o ho (I.ok.frf b hb) fun z=>I.ok.exfs b z hb
theorem Inv.step{g':Array GenState}{t':Nat}{d':Drawn}{ch:List Addr}(I:Inv X pins σ H s)
  (hch:∀ b∈ch,(b∈X.ex\/X.s₀.heap.objs.size<=b)/\b≠X.env.locals/\(∀ x c,X.env.cells.lookup x=some c->c≠b)/\∀ p∈X.pn++pins,p.1≠b)
  (keep:∀ b o,b≠X.env.locals->b∉X.fs->b∉ch->s.heap.get? b=some o->H b=none->h'.get? b=some o)
  (slot:∀ b o,b≠X.env.locals->b∈X.fs->b∉ch->s.heap.get? b=some o->H b=none->∃ sl,h'.get? b=some { o with slots:=sl }) (free:∀ b o,b∉ch->s.heap.get? b=some o->H b=none->H' b=none)
  (there:∀ b o,b∉ch->s.heap.get? b=some o->∃ o',h'.get? b=some o')
  (tups:∀ b xs,H b=some (.tup xs)->H' b=some (.tup xs)) (frzs:∀ b o u,H b=some (.frz o u)->H' b=some (.frz o u)) (tbls:∀ b ps,H b=some (.tbl ps)->∃ more,H' b=some (.tbl (ps++more)))
  (ns:∀ m,s.heap.Ns X.env.locals m->h'.Ns X.env.locals m) (hok:HOk X.prog X.w X.K H' h') (hg:AllBare g') :
  Inv X pins σ H' { s with heap:=h',gens:=g',drawn:=d',toks:=t' }:=by
 have neL:∀ b o,X.s₀.heap.get? b=some o->b≠X.env.locals:=fun b o e=>qj (qi (qh e) I.ok.above);have neC:∀ b o,X.s₀.heap.get? b=some o->b∉X.ex->b∉ch:=fun b o e hx hb=>by
  rcases(hch b hb).1 with z | z
  ·exact hx z
  ·exact absurd (qi (qh e) z) (Nat.lt_irrefl _)
 have cellK:∀ x c,X.env.cells.lookup x=some c->∀ v,s.heap.IsCell c v->h'.IsCell c v:=fun x c e v ⟨o,ho,hd⟩=>by
  have nch:c∉ch:=fun z=>(hch c z).2.2.1 x c e rfl
  by_cases hc:c∈X.fs
  ·obtain⟨sl,q⟩:=slot c o (I.cne x c e) hc nch ho (I.freeC x c e)
   exact⟨_,q,hd⟩
  ·exact⟨o,keep c o (I.cne x c e) hc nch ho (I.freeC x c e),hd⟩
 refine⟨I.ok,I.os,hg,⟨fun b o e n hb hx=>?_,fun b o e n hb hx=>?_,fun b o e n hx=>?_,fun b o e hx=>?_,fun b xs e=>tups b xs (I.base.tups b xs e),fun b o xs e=>frzs b o xs (I.base.frzs b o xs e),fun b ps e=>?_⟩,?_,fun x c e=>?_,?_,fun x c e=>?_,fun p hp=>?_,hok,I.len⟩
 ·exact keep b o (neL b o e) hb (neC b o e hx) (I.base.keep b o e n hb hx) (I.base.free b o e n hx)
 ·obtain⟨sl,e1⟩:=I.base.slot b o e n hb hx
  obtain⟨sl',e2⟩:=slot b _ (neL b o e) hb (neC b o e hx) e1 (I.base.free b o e n hx);exact⟨sl',e2⟩
 ·obtain⟨o',e1⟩:=I.base.there b o e hx
  exact free b o' (neC b o e hx) e1 (I.base.free b o e n hx)
 ·obtain⟨o',e1⟩:=I.base.there b o e hx
  exact there b o' (neC b o e hx) e1
 ·obtain⟨m1,e1⟩:=I.base.tbls b ps e
  obtain⟨m2,e2⟩:=tbls b _ e1;exact⟨m1++m2,by rw [e2,Array.append_assoc]⟩
 ·obtain⟨m,hn,hl⟩:=I.loc
  refine⟨m,ns m hn,fun i x v e1 e2 e3=>?_⟩;obtain⟨u,r,l⟩:=hl i x v e1 e2 e3;refine⟨u,r,?_⟩;rcases l with l | ⟨k,c,e,z⟩
  ·exact .inl l
  ·exact .inr ⟨k,c,e,cellK x c e _ z⟩
 ·obtain⟨v,z⟩:=I.cell x c e
  exact⟨v,cellK x c e v z⟩
 ·obtain⟨m,⟨o,_,_,ho,_⟩,_⟩:=I.loc
  exact free _ o (fun z=>(hch _ z).2.1 rfl) ho I.free
 ·obtain⟨v,o,ho,hd⟩:=I.cell x c e
  exact free c o (fun z=>(hch c z).2.2.1 x c e rfl) ho (I.freeC x c e)
 ·obtain⟨e,n,ne,nf,d⟩:=I.pin p hp
  have nch:p.1∉ch:=fun z=>(hch p.1 z).2.2.2 p hp rfl;exact⟨keep p.1 p.2 ne nf nch e n,free p.1 p.2 nch e n,ne,nf,d⟩
theorem Inv.un{t':Nat}(I:Inv X pins σ H s)(u:Un X.fs [] H H' s.heap h')(hok:HOk X.prog X.w X.K H' h'):Inv X pins σ H' { s with heap:=h',toks:=t' }:=by
 obtain⟨m,⟨o,es,ep,ho,r⟩,_⟩:=id I.loc;obtain⟨sl,hL⟩:=u.any ho I.free (by simp);exact I.step (g':=s.gens) (d':=s.drawn) (ch:=[]) (fun _ z=>nomatch z) (fun b o _ hb _ e n=>u.keep b o e n hb (by simp)) (fun b o _ hb _ e n=>u.slot b o e n hb (by simp)) (fun b o _ e n=>u.free b o e n (by simp)) (fun b o _ e=>u.there b o e (by simp)) u.tups u.frzs u.tbls (fun m' hm=>by
  obtain⟨o',es',ep',ho',r'⟩:=hm;rw [ho]at ho'; cases ho';exact⟨_,es',ep',hL,r'⟩) hok I.bare
theorem Inv.call{g':Array GenState}{t':Nat}{d':Drawn}{ch:List Addr}(I:Inv X pins σ H s)(u:Un (frs X.stack) ch H H' s.heap h')(hok:HOk X.prog X.w X.K H' h')(hg:AllBare g')
  (hch:∀ b∈ch,(b∈X.ex\/X.s₀.heap.objs.size<=b)/\b≠X.env.locals/\(∀ x c,X.env.cells.lookup x=some c->c≠b)/\∀ p∈X.pn++pins,p.1≠b) :
  Inv X pins σ H' { s with heap:=h',gens:=g',drawn:=d',toks:=t' }:=by
 obtain⟨m,⟨o,es,ep,ho,r⟩,_⟩:=id I.loc;obtain⟨sl,hL⟩:=u.any ho I.free fun z=>(hch _ z).2.1 rfl;exact I.step (ch:=ch) hch (fun b o hL hb hc e n=>u.keep b o e n (fun z=>(qu.mp (I.stkSub b z)).elim hL hb) hc) (fun b o _ _ hc e n=>u.any e n hc) (fun b o hc e n=>u.free b o e n hc) (fun b o hc e=>u.there b o e hc) u.tups u.frzs u.tbls (fun m' hm=>by
  obtain⟨o',es',ep',ho',r'⟩:=hm;rw [ho]at ho'; cases ho';exact⟨_,es',ep',hL,r'⟩) hok hg
theorem Inv.turned{t':Nat}{it:Addr}(I:Inv X pins σ H s)(k:∀ b o,b≠it->s.heap.get? b=some o->h'.get? b=some o)(hn:H it=none)(hL:it≠X.env.locals)
  (h1:it∈X.ex\/X.s₀.heap.objs.size<=it) (h2:∀ x c,X.env.cells.lookup x=some c->c≠it) (h3:∀ p∈X.pn++pins,p.1≠it):Inv X pins σ H { s with heap:=h',toks:=t' }:=by
 have nit:∀ b u,H b=some u->b≠it:=fun b u e z=>by rw [z,hn]at e; cases e
 refine I.step (g':=s.gens) (d':=s.drawn) (ch:=[it]) (fun b hb=>?_) (fun b o _ _ hc e _=>k b o (fun z=>hc (by simp [z])) e) (fun b o _ _ hc e _=>⟨o.slots,k b o (fun z=>hc (by simp [z])) e⟩) (fun _ _ _ _ n=>n)
  (fun b o hc e=>⟨o,k b o (fun z=>hc (by simp [z])) e⟩) (fun _ _ e=>e) (fun _ _ _ e=>e) (fun b ps e=>⟨#[],by rw [e]; simp⟩) (fun m hm=>?_) (fun b u e=>?_) I.bare
 ·have e:b=it:=by simpa using hb
  subst e;exact⟨h1,hL,h2,h3⟩
 ·obtain⟨o,es,ep,ho,r⟩:=hm
  exact⟨o,es,ep,k _ o (Ne.symm hL) ho,r⟩
 ·refine(I.hok b u e).stay (fun c v hc q=>k c v ?_ q) (fun _ q=>q) fun _ _ q=>q
  rcases hc with z | z
  ·rw [z]; exact nit b u e
  ·exact nit c _ z
theorem Inv.tok(I:Inv X pins σ H s)(t:Nat):Inv X pins σ H { s with toks:=t }:=I.un (h':=s.heap) (t':=t) Un.refl I.hok
theorem Inv.kept{t':Nat}(I:Inv X pins σ H s)(k:∀ b u,s.heap.get? b=some u->h'.get? b=some u):Inv X pins σ H { s with heap:=h',toks:=t' }:=I.un (Un.kept k) (I.hok.kept k)
theorem Inv.laid{a:Addr}{o:HO}{t':Nat}(I:Inv X pins σ H s)(k:∀ b u,s.heap.get? b=some u->h'.get? b=some u)(hp:s.heap.objs.size<=a)(new:zX X.prog X.w X.K (upd H a o) h' a o) :
  Inv X pins σ (upd H a o) { s with heap:=h',toks:=t' }:=I.un (Un.laid k hp (I.hok.fresh hp)) (I.hok.laid k hp new)
theorem Inv.write{x e:Addr}{o:HO}{t':Nat}(I:Inv X pins σ H s)(mu:Mut (H x))(he:e=x\/H e=some (.own x))(k:∀ b u,b≠e->s.heap.get? b=some u->h'.get? b=some u)(heo:∃ u,h'.get? e=some u)
  (new:zX X.prog X.w X.K (upd H x o) h' x o):Inv X pins σ (upd H x o) { s with heap:=h',toks:=t' }:=I.un (Un.write mu he k heo) (I.hok.write mu he k heo new)
theorem Inv.weak{σ':List (Option V)}(I:Inv X pins σ H s)(hl:σ'.length=σ.length)(w:∀ (i:Nat) v,σ'[i]?=some (some v)->σ[i]?=some (some v)):Inv X pins σ' H s :=
 ⟨I.ok,I.os,I.bare,I.base,let ⟨m,hn,hl'⟩:=I.loc; ⟨m,hn,fun i x v e1 e2 e3=>hl' i x v e1 (w i v e2) e3⟩,I.cell,I.free,I.freeC,I.pin,I.hok,hl.trans I.len⟩
theorem Inv.pins_of{pins':List (Addr×Obj)}(I:Inv X pins σ H s)(h:∀ p∈pins',s.heap.get? p.1=some p.2/\H p.1=none/\p.1≠X.env.locals/\p.1∉X.fs/\∀ v,p.2.data≠.cell v):Inv X pins' σ H s :=
 ⟨I.ok,I.os,I.bare,I.base,I.loc,I.cell,I.free,I.freeC,fun p hp=>(List.mem_append.mp hp).elim (fun z=>I.pin p (List.mem_append_left _ z)) (h p),I.hok,I.len⟩
theorem zj8{N:List Str}(hN:N.Nodup){i j:Nat}{x:Str}(a:N[i]?=some x)(b:N[j]?=some x):i=j:=by
 obtain⟨h1,e1⟩:=qk.mp a;obtain⟨h2,e2⟩:=qk.mp b;exact(List.getElem_inj hN).mp (e1.trans e2.symm)
theorem zfO{M:Model}{A:Around}{E:Value->Shared->Prop}{i:Nat}{x:Str}{v:V}{u:Value}{Q:Unit->Shared->Prop}(I:Inv X pins σ H s)(hN:X.N.Nodup)(hi:X.N[i]?=some x)(hx:Loc X.env.scope x)(r:zJ v u)
  (h:∀ s',Inv X pins (σ.set i (some v)) H s'->(∃ a,Heap.SameBut a s.heap s'.heap/\(a=X.env.locals\/X.env.cells.lookup x=some a))->Q () s') (hf:X.fn x=true\/X.env.scope.names.lookup x=some .local:=by first | exact .inl rfl | exact .inr rfl | assumption):wpAny M A (storeName X.env x u) Q E s:=by
 obtain⟨m,hn,hl⟩:=id I.loc;have hcls:(X.env.scope.kind==.class || (X.env.scope.kind==.module && X.env.locals != X.env.globals))=false:=by rw [I.ok.kind]; rfl
 have hiσ:i < σ.length:=by rw [I.len]; exact(qk.mp hi).1
 have cne:=I.cne;have tracked:∀ {a:Addr} {h':Heap},(∃ o,s.heap.get? a=some o/\H a=none)->Heap.SameBut a s.heap h'->HOk X.prog X.w X.K H h':=fun{a h'} ha hs b ob e=>by
  obtain⟨_,_,hfree⟩:=ha;refine(I.hok b ob e).stay (fun c w' hc q=>(hs.2 c ?_).trans q) (fun _ q=>q) fun _ _ q=>q;rintro rfl;rcases hc with rfl | hc
  ·rw [hfree]at e; cases e
  ·rw [hfree]at hc; cases hc
 rcases hx with hk | hk
 ·refine wpAny_storeName_local hk hn (fun h' hn' hs=>?_) hcls
  obtain⟨oL,_,_,hoL,_⟩:=id hn;refine h _ ⟨I.ok,I.os,I.bare,⟨fun b o e n hb hx=>?_,fun b o e n hb hx=>?_,I.base.free,fun b o e hx=>?_,I.base.tups,I.base.frzs,I.base.tbls⟩,⟨_,hn',fun j y v' e1 e2 e3=>?_⟩,fun y c e=>?_,I.free,I.freeC,fun p hp=>?_,tracked ⟨oL,hoL,I.free⟩ hs,by simpa using I.len⟩ ⟨_,hs,.inl rfl⟩
  ·exact(hs.2 b (qj (qi (qh e) I.ok.above))).trans (I.base.keep b o e n hb hx)
  ·obtain⟨sl,e1⟩:=I.base.slot b o e n hb hx
   exact⟨sl,(hs.2 b (qj (qi (qh e) I.ok.above))).trans e1⟩
  ·obtain⟨o',e1⟩:=I.base.there b o e hx
   exact⟨o',(hs.2 b (qj (qi (qh e) I.ok.above))).trans e1⟩
  ·by_cases hj:j=i
   ·subst hj
    rw [hi]at e1; cases e1;rw [List.getElem?_set_self hiσ]at e2;cases e2;exact⟨u,r,.inl ⟨hk,by simp⟩⟩
   ·rw [qB (Ne.symm hj)]at e2
    obtain⟨u',r',q⟩:=hl j y v' e1 e2 e3;refine⟨u',r',?_⟩;rcases q with ⟨k,e⟩ | ⟨k,c,e,z⟩
    ·refine .inl ⟨k,?_⟩
     have:y≠x:=fun e=>hj (zj8 hN e1 (e▸hi));simp [this,e]
    ·exact .inr ⟨k,c,e,z.sameBut hs (cne y c e)⟩
  ·obtain⟨w',z⟩:=I.cell y c e
   exact⟨w',z.sameBut hs (cne y c e)⟩
  ·obtain⟨e,n,ne,nf,d⟩:=I.pin p hp
   exact⟨(hs.2 p.1 ne).trans e,n,ne,nf,d⟩
 ·have hfn:X.fn x=true:=by
   rcases hf with z | z
   ·exact z
   ·rw [z]at hk; cases hk
  obtain⟨c,hc⟩:=I.ok.has x (.inl hk);obtain⟨w',z⟩:=I.cell x c hc;refine wpAny_storeName_cell I.ok.kind hk hc z (fun h' hc' hs=>?_);obtain⟨oc,hoc,hocd⟩:=id z;refine h { s with heap:=h' } ⟨I.ok,I.os,I.bare,⟨fun b o e n hb hx=>?_,fun b o e n hb hx=>?_,I.base.free,fun b o e hx=>?_,I.base.tups,I.base.frzs,I.base.tbls⟩,⟨m,hn.sameBut hs (Ne.symm (cne x c hc)),fun j y v' e1 e2 e3=>?_⟩,fun y c' e=>?_,I.free,I.freeC,fun p hp=>?_,tracked ⟨oc,hoc,I.freeC x c hc⟩ hs,by simpa using I.len⟩ ⟨c,hs,.inr hc⟩
  ·exact(hs.2 b (qj (qi (qh e) (I.ok.cab x c hfn hc)))).trans (I.base.keep b o e n hb hx)
  ·obtain⟨sl,e1⟩:=I.base.slot b o e n hb hx
   exact⟨sl,(hs.2 b (qj (qi (qh e) (I.ok.cab x c hfn hc)))).trans e1⟩
  ·obtain⟨o',e1⟩:=I.base.there b o e hx
   exact⟨o',(hs.2 b (qj (qi (qh e) (I.ok.cab x c hfn hc)))).trans e1⟩
  ·by_cases hj:j=i
   ·subst hj
    rw [hi]at e1; cases e1;rw [List.getElem?_set_self hiσ]at e2;cases e2;exact⟨u,r,.inr ⟨.inl hk,c,hc,hc'⟩⟩
   ·rw [qB (Ne.symm hj)]at e2
    obtain⟨u',r',q⟩:=hl j y v' e1 e2 e3;refine⟨u',r',?_⟩;rcases q with q | ⟨k,c',e,z'⟩
    ·exact .inl q
    ·refine .inr ⟨k,c',e,z'.sameBut hs ?_⟩
     rintro rfl;exact hj (zj8 hN e1 (I.ok.inj _ _ _ e hc▸hi))
  ·by_cases hcc:c'=c
   ·subst hcc; exact⟨_,hc'⟩
   ·obtain⟨w2,z2⟩:=I.cell y c' e
    exact⟨w2,z2.sameBut hs hcc⟩
  ·obtain⟨e,n,ne,nf,d⟩:=I.pin p hp
   refine⟨(hs.2 p.1 ?_).trans e,n,ne,nf,d⟩;intro q;rw [q,hoc]at e;have q':oc=p.2:=qw e;exact d w' (by rw [<-q']; exact hocd)
theorem ze5{M:Model}{A:Around}{E:Value->Shared->Prop}{i:Nat}{x:Str}{v:V}{u:Value}{Q:Unit->Shared->Prop}(I:Inv X pins σ H s)(hN:X.N.Nodup)(hi:X.N[i]?=some x)(hx:Loc X.env.scope x)(r:zJ v u)
  (h:∀ s',Inv X pins (σ.set i (some v)) H s'->Q () s') (hf:X.fn x=true\/X.env.scope.names.lookup x=some .local:=by first | exact .inl rfl | exact .inr rfl | assumption):wpAny M A (storeName X.env x u) Q E s :=
 zfO I hN hi hx r (fun s' I' _=>h s' I') hf
theorem Inv.call'{s':Shared}{ch:List Addr}(I:Inv X pins σ H s)(ho:s'.os=s.os)(u:Un (frs X.stack) ch H H' s.heap s'.heap)(hok:HOk X.prog X.w X.K H' s'.heap)(hg:AllBare s'.gens)
  (hch:∀ b∈ch,(b∈X.ex\/X.s₀.heap.objs.size<=b)/\b≠X.env.locals/\(∀ x c,X.env.cells.lookup x=some c->c≠b)/\∀ p∈X.pn++pins,p.1≠b):Inv X pins σ H' s':=by
 obtain⟨h',g',d',t',o'⟩:=s';have e:o'=s.os:=ho;subst e;exact I.call (g':=g') (t':=t') (d':=d') u hok hg hch
end
abbrev XK:=Value->Option Addr->Hp->Prop
abbrev St:=List (Option V)
abbrev VK:=V->Hp->Prop
abbrev TE:=St->Hp->VK->Prop
abbrev TT:=St->Hp->(Bool->Hp->Prop)->Prop
abbrev TA:=St->Hp->(List V->Hp->Prop)->Prop
structure Ends where
 nx:St->Hp->Prop
 rt:VK
 bk:St->Hp->Prop:=fun _ _=>False
 ct:St->Hp->Prop:=fun _ _=>False
abbrev TS:=Ends->St->Hp->Prop
def EP(X:Cx)(pins:List (Addr×Obj))(σ:St)(Q:VK)(u:Value)(s':Shared):Prop:=∃ v H',Inv X pins σ H' s'/\zJ v u/\Q v H'
def TP(X:Cx)(pins:List (Addr×Obj))(σ:St)(Q:Bool->Hp->Prop)(b:Bool)(s':Shared):Prop:=∃ H',Inv X pins σ H' s'/\Q b H'
def AP(X:Cx)(pins:List (Addr×Obj))(σ:St)(Q:List V->Hp->Prop)(us:List Value)(s':Shared):Prop:=∃ vs H',Inv X pins σ H' s'/\zH vs us/\Q vs H'
def SP(X:Cx)(pins:List (Addr×Obj))(D:Ends)(f:Flow)(s':Shared):Prop :=
 match f with
 | .next=>∃ σ' H',Inv X pins σ' H' s'/\D.nx σ' H'
 | .brk=>∃ σ' H',Inv X pins σ' H' s'/\D.bk σ' H'
 | .cont=>∃ σ' H',Inv X pins σ' H' s'/\D.ct σ' H'
 | .ret u=>∃ v σ' H',Inv X pins σ' H' s'/\zJ v u/\D.rt v H'
def PE(X:Cx)(e:Expr)(t:TE):Prop :=
 ∀ (pins:List (Addr×Obj)) (s:Shared) (σ:St) (H:Hp) (Q:VK),Inv X pins σ H s->t σ H Q->wpAny (model X.prog X.w) X.A (eval e X.env) (EP X pins σ Q) X.xe s
def PT(X:Cx)(e:Expr)(t:TT):Prop :=
 ∀ (pins:List (Addr×Obj)) (s:Shared) (σ:St) (H:Hp) (Q:Bool->Hp->Prop),Inv X pins σ H s->t σ H Q->wpAny (model X.prog X.w) X.A (isTrue e X.env (eval e X.env)) (TP X pins σ Q) X.xe s
def PW(X:Cx)(e:Expr)(t:TT):Prop :=
 ∀ (whole:Sem Value) (pins:List (Addr×Obj)) (s:Shared) (σ:St) (H:Hp) (Q:Bool->Hp->Prop),Inv X pins σ H s->t σ H Q->wpAny (model X.prog X.w) X.A (isTrue e X.env whole) (TP X pins σ Q) X.xe s
theorem PW.pt{X:Cx}{e:Expr}{t:TT}(h:PW X e t):PT X e t:=h _
def PA(X:Cx)(es:List Expr)(t:TA):Prop :=
 ∀ (pos:Pos) (pins:List (Addr×Obj)) (s:Shared) (σ:St) (H:Hp) (Q:List V->Hp->Prop),Inv X pins σ H s->t σ H Q->wpAny (model X.prog X.w) X.A (spliced (backTo pos (starEach es X.env))) (AP X pins σ Q) X.xe s
def PS(X:Cx)(st:Stmt)(t:TS):Prop :=
 ∀ (pins:List (Addr×Obj)) (s:Shared) (σ:St) (H:Hp) (D:Ends),Inv X pins σ H s->t D σ H->wpAny (model X.prog X.w) X.A (exec st X.env) (SP X pins D) X.xe s
def PSs(X:Cx)(st:List Stmt)(t:TS):Prop :=
 ∀ (pins:List (Addr×Obj)) (s:Shared) (σ:St) (H:Hp) (D:Ends),Inv X pins σ H s->t D σ H->wpAny (model X.prog X.w) X.A (execs st X.env) (SP X pins D) X.xe s
theorem thn{α:Type}{t:Sem α}{Q Q':α->Shared->Prop}{M:Model}{A:Around}{E:Value->Shared->Prop}{s:Shared}(h:wpAny M A t Q E s)(hQ:∀ a s,Q a s->Q' a s):wpAny M A t Q' E s:=wpAny_mono h hQ fun _ _ x=>x
section
variable {X:Cx}
theorem bin{a b:Expr}{ta tb:TE}(ha:PE X a ta)(hb:PE X b tb){pins:List (Addr×Obj)}{s:Shared}{σ:St}{H:Hp}{R:V->V->Hp->Prop}(I:Inv X pins σ H s)(h:ta σ H fun x H1=>tb σ H1 fun y H2=>R x y H2)
  {α:Type} {Q:α->Shared->Prop} {f:Value->Value->Sem α}
  (hf:∀ v u s2 x y H2,Inv X pins σ H2 s2->zJ x v->zJ y u->R x y H2->wpAny (model X.prog X.w) X.A (f v u) Q X.xe s2) :
  wpAny (model X.prog X.w) X.A (eval a X.env) (fun v s₁=>wpAny (model X.prog X.w) X.A (eval b X.env) (fun u s₂=>wpAny (model X.prog X.w) X.A (f v u) Q X.xe s₂) X.xe s₁) X.xe s:=by
 refine thn (ha pins s σ H _ I h) fun v s1 ⟨x,H1,I1,r1,q1⟩=>?_;refine thn (hb pins s1 σ H1 _ I1 q1) fun u s2 ⟨y,H2,I2,r2,q2⟩=>?_;exact hf v u s2 x y H2 I2 r1 r2 q2
def ze6(i:Nat):TE:=fun σ H Q=>∃ v,σ[i]?=some (some v)/\Q v H
def tC(v:V):TE:=fun _ H Q=>Q v H
theorem zwk{i:Nat}{x:Str}{pos:Pos}(hN:X.N[i]?=some x)(hv:Vis X.env.scope x)(hd:(x==("__debug__":Str))=false:=by decide)(hcd:(x==("__classdict__":Str))=false:=by decide):PE X (.Name x pos) (ze6 i):=by
 intro pins s σ H Q I h;obtain⟨v,e,h⟩:=h;obtain⟨m,hn,hl⟩:=I.loc;obtain⟨u,r,l⟩:=hl i x v hN e hv;have fin:EP X pins σ Q u s:=⟨v,H,I,r,h⟩;rcases l with ⟨hk,hm⟩ | ⟨hk,c,hc,hcell⟩
 ·exact wpAny_Name (wpAny_loadName_local I.ok.kind hk hn hm fin) hd
 ·rcases hk with hk | hk
  ·exact wpAny_Name (wpAny_loadName_cell I.ok.kind hk hc hcell fin) hd
  ·exact wpAny_Name (wpAny_loadName_free I.ok.kind hk hc hcell fin hcd) hd
theorem zwl{i j pos}:PE X (.Constant (.int i) j pos) (tC (.int i)):=fun _ _ _ H _ I h=>wpAny_Constant_int ⟨.int i,H,I.tok _,⟨_,rfl⟩,h⟩
theorem zyE{b j pos}:PE X (.Constant (.bool b) j pos) (tC (.bl b)):=fun _ _ _ H _ I h=>Constant_bool ⟨.bl b,H,I,rfl,h⟩
theorem zwm{j pos}:PE X (.Constant .none j pos) (tC .non):=fun _ _ _ H _ I h=>Constant_none ⟨.non,H,I,rfl,h⟩
theorem zwn{x j pos}:PE X (.Constant (.str x) j pos) (tC (.str x)):=fun _ _ _ H _ I h=>Calls.Constant_str ⟨.str x,H,I.tok _,⟨_,rfl⟩,h⟩
def Gl(X:Cx)(x:Str):Prop:=X.env.kindOf x=some .globalImplicit
theorem ziU{E:Value->Shared->Prop}{pins:List (Addr×Obj)}{s:Shared}{σ:St}{H:Hp}{x:Str}{u:Value}{pos:Pos}{Q:Value->Shared->Prop}(I:Inv X pins σ H s)(hg:Gl X x)(hm:X.mg x=some u)(h:Q u s)
  (hd:(x==("__debug__":Str))=false:=by decide):wpAny (model X.prog X.w) X.A (eval (.Name x pos) X.env) Q E s :=
 Calls.Name_function_global I.ok.kind hg (Calls.loadGlobal_global (by rw [I.ok.glob]; exact I.mod.glob.keeps I.bk) hm h) hd
theorem zfP{E:Value->Shared->Prop}{pins:List (Addr×Obj)}{s:Shared}{σ:St}{H:Hp}{x:Str}{u:Value}{pos:Pos}{Q:Value->Shared->Prop}(I:Inv X pins σ H s)(hg:Gl X x)(hm:X.mg x=none)(hv:bootBuiltins x=some u)(h:Q u s)
  (hn:x ≠ "__name__":=by decide) (hd:(x==("__debug__":Str))=false:=by decide):wpAny (model X.prog X.w) X.A (eval (.Name x pos) X.env) Q E s:=by
 obtain⟨mb,h1,h2⟩:=I.mod.blt;exact Calls.Name_function_global I.ok.kind hg (Calls.loadGlobal_builtin (by rw [I.ok.glob]; exact I.mod.glob.keeps I.bk) hm (by rw [I.ok.blt]; exact h1.keeps I.bk) ((h2 x hn).trans hv) h) hd
theorem zsX{x:Str}{v:V}{u:Value}{pos:Pos}(hg:Gl X x)(hm:X.mg x=some u)(r:zJ v u)(hd:(x==("__debug__":Str))=false:=by decide):PE X (.Name x pos) (tC v) :=
 fun _ _ _ H _ I h=>ziU I hg hm ⟨v,H,I,r,h⟩ hd
variable {a b:Expr} {ta tb:TE} {pos:Pos}
def PC(X:Cx)(op:CmpOp)(a b:Expr)(t:TE):Prop :=
 ∀ (pins:List (Addr×Obj)) (s:Shared) (σ:St) (H:Hp) (Q:VK),Inv X pins σ H s->t σ H Q ->
  wpAny (model X.prog X.w) X.A (eval a X.env) (fun v s₁=>wpAny (model X.prog X.w) X.A (eval b X.env) (fun u s₂=>wpAny (model X.prog X.w) X.A (compareOp op v u) (EP X pins σ Q) X.xe s₂) X.xe s₁) X.xe s
theorem zpu(b:Expr){op:CmpOp}(h:op≠.In)(h2:op≠.NotIn):behindInMarks op b=false:=by
 have e1:(op==CmpOp.In)=false:=by cases op<;>first | rfl | exact absurd rfl h
 have e2:(op==CmpOp.NotIn)=false:=by cases op<;>first | rfl | exact absurd rfl h2
 cases b<;>simp [behindInMarks,e1,e2]
def tB(t:TE):TT:=fun σ H Q=>t σ H fun x H1=>∃ c,x=.bl c/\Q c H1
theorem zAm{op:CmpOp}{t:TE}(h:PC X op a b t)(h1:behindInMarks op b=false:=by first | exact zpu _ (by decide) (by decide) | rfl):PT X (.Compare a [op] [b] pos) (tB t):=by
 intro pins s σ H Q I hw;refine wpAny_isTrue_Compare1 (thn (h pins s σ H _ I hw) fun v s1 h1=>thn h1 fun u s2 h2=>thn h2 fun c s3 ⟨x,H1,I1,r1,q1⟩=>?_) h1;obtain⟨d,rfl,q⟩:=q1;cases r1;exact wpAny_truthy_bool ⟨H1,I1,q⟩
theorem zwo{e:Expr}{t:TE}(h:PE X e t)(he:∀ whole,isTrue e X.env whole=(do let v <-whole; standAt e.pos; holding [v] (truthy v)):=by intro _; rfl):PT X e (tB t):=by
 intro pins s σ H Q I hw;refine isTrue_plain (thn (h pins s σ H _ I hw) fun v s1 ⟨x,H1,I1,r1,q1⟩=>?_) (he _);obtain⟨d,rfl,q⟩:=q1;cases r1;exact wpAny_truthy_bool ⟨H1,I1,q⟩
variable {tA tB':TT} {zbA:List Expr}
def zwp(t u:TT):TT:=fun σ H Q=>t σ H fun c H1=>if c=true then u σ H1 Q else Q false H1
def tOr(t u:TT):TT:=fun σ H Q=>t σ H fun c H1=>if c=true then Q true H1 else u σ H1 Q
def zwq(t:TT):TT:=fun σ H Q=>t σ H fun c H1=>Q (!c) H1
theorem zsY(ha:PT X a tA):PW X (.BoolOp .And [a] pos) tA:=by
 intro wh pins s σ H Q I h;refine isTrue_and (thn (ha pins s σ H Q I h) fun c s1 e=>?_);cases c with
 | true=>exact isTrue_and_nil e
 | false=>exact e
theorem zwr(ha:PT X a tA):PW X (.BoolOp .Or [a] pos) tA:=by
 intro wh pins s σ H Q I h;refine isTrue_or (thn (ha pins s σ H Q I h) fun c s1 e=>?_);cases c with
 | false=>exact isTrue_or_nil e
 | true=>exact e
theorem zws(ha:PT X a tA)(hb:PW X (.BoolOp .And (b::zbA) pos) tB'):PW X (.BoolOp .And (a::b::zbA) pos) (zwp tA tB'):=by
 intro wh pins s σ H Q I h;refine isTrue_and (thn (ha pins s σ H _ I h) fun c s1 ⟨H1,I1,q1⟩=>?_);cases c with
 | true=>exact hb wh pins s1 σ H1 Q I1 q1
 | false=>exact⟨H1,I1,q1⟩
theorem zyF(ha:PT X a tA)(hb:PW X (.BoolOp .Or (b::zbA) pos) tB'):PW X (.BoolOp .Or (a::b::zbA) pos) (tOr tA tB'):=by
 intro wh pins s σ H Q I h;refine isTrue_or (thn (ha pins s σ H _ I h) fun c s1 ⟨H1,I1,q1⟩=>?_);cases c with
 | true=>exact⟨H1,I1,q1⟩
 | false=>exact hb wh pins s1 σ H1 Q I1 q1
theorem zwt(ha:PT X a tA):PT X (.UnaryOp .Not a pos) (zwq tA):=by
 intro pins s σ H Q I h;exact isTrue_not (ha pins s σ H (fun c H1=>Q (!c) H1) I h)
def zpv(ta tb:TE):TE:=fun σ H Q=>ta σ H fun x H1=>∃ c,x=.bl c/\if c=true then tb σ H1 Q else Q (.bl false) H1
def zuZ(ta:TE):TE:=fun σ H Q=>ta σ H fun x H1=>∃ c,x=.bl c/\Q (.bl (!c)) H1
theorem zwu{op}{t:TE}(h:PE X a t):PE X (.BoolOp op [a] pos) t:=fun pins s σ H Q I hw=>BoolOp_one (h pins s σ H Q I hw)
theorem zwv(ha:PE X a ta)(hb:PE X (.BoolOp .And (b::zbA) pos) tb):PE X (.BoolOp .And (a::b::zbA) pos) (zpv ta tb):=by
 intro pins s σ H Q I h;refine BoolOp_and (thn (ha pins s σ H _ I h) fun v s1 ⟨x,H1,I1,r1,q1⟩=>?_);obtain⟨c,rfl,q1⟩:=q1;cases r1;refine wpAny_truthy_bool ?_;cases c with
 | true=>exact hb pins s1 σ H1 Q I1 q1
 | false=>exact⟨.bl false,H1,I1,rfl,q1⟩
theorem zww(ha:PE X a ta):PE X (.UnaryOp .Not a pos) (zuZ ta):=by
 intro pins s σ H Q I h;refine UnaryOp_ (thn (ha pins s σ H _ I h) fun v s1 ⟨x,H1,I1,r1,q1⟩=>?_);obtain⟨c,rfl,q1⟩:=q1;cases r1;exact not_of (wpAny_truthy_bool ⟨.bl (!c),H1,I1,rfl,q1⟩)
def tIf(t:TT)(ta tb:TE):TE:=fun σ H Q=>t σ H fun c H1=>if c=true then ta σ H1 Q else tb σ H1 Q
theorem zpw{c:Expr}(hc:PT X c tA)(ha:PE X a ta)(hb:PE X b tb):PE X (.IfExp c a b pos) (tIf tA ta tb):=by
 intro pins s σ H Q I h;refine wpAny_IfExp (thn (hc pins s σ H _ I h) fun d s1 ⟨H1,I1,q1⟩=>?_);cases d with
 | true=>exact ha pins s1 σ H1 Q I1 q1
 | false=>exact hb pins s1 σ H1 Q I1 q1
end
def SqL(K:qc)(H:Hp)(a:Addr)(xs:List V):Prop :=
 Rd H a (.lst xs) \/
  ∃ (o:Obj) (its:Array Value) (n:Nat),K.lookup a=some o/\o.cls=.type "list"/\o.dict=none/\o.data=.seq its n/\its.size<=sizeLine/\zH xs its.toList
def SqT(K:qc)(H:Hp)(a:Addr)(xs:List V):Prop :=
 Rd H a (.tup xs) \/
  ∃ (o:Obj) (its:Array Value) (n:Nat),K.lookup a=some o/\o.cls=.type "tuple"/\o.data=.seq its n/\its.size<=sizeLine/\zH xs its.toList
def zAn:Value->Option V
 | .none=>some .non
 | .bool b=>some (.bl b)
 | .int i _=>some (.int i)
 | .str x _=>some (.str x)
 | .bytes b _=>some (.byt b)
 | .float b _=>some (.flt b)
 | .ref a=>some (.ref a)
 | .type n=>some (.ty n)
 | _=>none
theorem zJ.abs{x:V}{u:Value}(r:zJ x u):zAn u=some x:=by
 cases x with
 | non=>cases r; rfl
 | bl _=>cases r; rfl
 | int _=>obtain⟨t,rfl⟩:=r; rfl
 | str _=>obtain⟨t,rfl⟩:=r; rfl
 | byt _=>obtain⟨t,rfl⟩:=r; rfl
 | flt _=>obtain⟨t,rfl⟩:=r; rfl
 | ref _=>cases r; rfl
 | ty _=>cases r; rfl
theorem zJ.inj{x y:V}{u:Value}(r:zJ x u)(q:zJ y u):x=y:=qw (r.abs.symm.trans q.abs)
theorem zH.inj:∀ {xs ys:List V} {us:List Value},zH xs us->zH ys us->xs=ys
 | _,_,_,.nil,.nil=>rfl
 | _,_,_,.cons r t,.cons r' t'=>by rw [r.inj r',zH.inj t t']
section
variable {X:Cx} {pins:List (Addr×Obj)} {σ:St} {H:Hp} {s:Shared} {a:Addr} {xs ys:List V}
theorem SqL.of{K:qc}(h:H a=some (.lst xs)):SqL K H a xs:=.inl (.inl h)
theorem SqT.of{K:qc}(h:H a=some (.tup xs)):SqT K H a xs:=.inl (.inl h)
theorem Inv.list(I:Inv X pins σ H s)(h:SqL X.K H a xs):∃ its:List Value,zH xs its/\PlainL s.heap a its.toArray/\xs.length<=sizeLine:=by
 rcases h with h | ⟨o,its,n,hk,hc,hd,hs,hz,r⟩
 ·obtain⟨z,its,n,r,e⟩:=h.ok I.hok
  exact⟨its,r,⟨_,n,e,rfl,rfl,rfl⟩,z⟩
 ·refine⟨its.toList,r,⟨o,n,I.kIn a o hk,hc,hd,by simpa using hs⟩,?_⟩
  have e:=r.length;simp only [Array.length_toList]at e;omega
theorem Inv.tuple(I:Inv X pins σ H s)(h:SqT X.K H a xs):∃ its:List Value,zH xs its/\IsTup s.heap a its.toArray/\xs.length<=sizeLine:=by
 rcases h with h | ⟨o,its,n,hk,hc,hs,hz,r⟩
 ·obtain⟨z,its,r,p⟩:=h.ok I.hok
  exact⟨its,r,p.tup,z⟩
 ·refine⟨its.toList,r,⟨o,I.kIn a o hk,hc,n,by simpa using hs⟩,?_⟩
  have e:=r.length;simp only [Array.length_toList]at e;omega
theorem Inv.list_inj(I:Inv X pins σ H s)(h:SqL X.K H a xs)(h':SqL X.K H a ys):xs=ys:=by
 obtain⟨its,r,⟨o,n,e,_,_,d⟩,_⟩:=I.list h;obtain⟨its',r',⟨o',n',e',_,_,d'⟩,_⟩:=I.list h';rw [e]at e'; cases e';rw [d]at d';injection d' with d1 _;have:its=its':=by simpa using congrArg Array.toList d1
 subst this;exact r.inj r'
theorem Inv.tuple_inj(I:Inv X pins σ H s)(h:SqT X.K H a xs)(h':SqT X.K H a ys):xs=ys:=by
 obtain⟨its,r,⟨o,e,_,n,d⟩,_⟩:=I.tuple h;obtain⟨its',r',⟨o',e',_,n',d'⟩,_⟩:=I.tuple h';rw [e]at e'; cases e';rw [d]at d';injection d' with d1 _;have:its=its':=by simpa using congrArg Array.toList d1
 subst this;exact r.inj r'
end
abbrev Cx.wish(X:Cx)(E:Value->Shared->Prop):Cx:={ X with xe:=E }
abbrev Cx.nox(X:Cx):Cx:=X.wish fun _ _=>False
theorem Cx.Ok.wish{X:Cx}(ok:X.Ok)(E:Value->Shared->Prop):(X.wish E).Ok :=
 ⟨ok.mod,ok.kind,ok.glob,ok.blt,ok.above,ok.inj,ok.has,ok.cab,ok.hd,ok.frames,ok.stk,ok.exf,ok.bs,ok.bsz,ok.noex,ok.exfs,ok.funs,ok.frf⟩
theorem Cx.Ok.unwish{X:Cx}{E:Value->Shared->Prop}(ok:(X.wish E).Ok):X.Ok :=
 ⟨ok.mod,ok.kind,ok.glob,ok.blt,ok.above,ok.inj,ok.has,ok.cab,ok.hd,ok.frames,ok.stk,ok.exf,ok.bs,ok.bsz,ok.noex,ok.exfs,ok.funs,ok.frf⟩
section
variable {X:Cx} {pins:List (Addr×Obj)} {σ:St} {H:Hp} {s:Shared} {E:Value->Shared->Prop}
theorem Inv.wish(I:Inv X pins σ H s)(E:Value->Shared->Prop):Inv (X.wish E) pins σ H s:=⟨I.ok.wish E,I.os,I.bare,I.base,I.loc,I.cell,I.free,I.freeC,I.pin,I.hok,I.len⟩
theorem Inv.unwish(I:Inv (X.wish E) pins σ H s):Inv X pins σ H s:=⟨I.ok.unwish,I.os,I.bare,I.base,I.loc,I.cell,I.free,I.freeC,I.pin,I.hok,I.len⟩
theorem SP.unwish{D:Ends}{f:Flow}{s':Shared}(h:SP (X.wish E) pins D f s'):SP X pins D f s':=by
 cases f with
 | next=>obtain⟨σ',H',I,q⟩:=h; exact⟨σ',H',I.unwish,q⟩
 | brk=>obtain⟨σ',H',I,q⟩:=h; exact⟨σ',H',I.unwish,q⟩
 | cont=>obtain⟨σ',H',I,q⟩:=h; exact⟨σ',H',I.unwish,q⟩
 | ret u=>obtain⟨v,σ',H',I,r,q⟩:=h; exact⟨v,σ',H',I.unwish,r,q⟩
theorem PSs.nox{st:List Stmt}{t:TS}(h:PSs X.nox st t):PSs X st t:=fun pins s σ H D I hw =>
 wpAny_mono (h pins s σ H D (I.wish _) hw) (fun _ _ q=>q.unwish) fun _ _ z=>False.elim z
end
section
variable {X:Cx} {st:Stmt} {zbA:List Stmt} {t u:TS} {e:Expr} {te:TE} {pos:Pos}
def zpx:TS:=fun D σ H=>D.nx σ H
def zpy(t u:TS):TS:=fun D σ H=>t { D with nx:=u D } σ H
theorem zsZ:PSs X [] zpx:=fun _ _ σ H _ I h=>wpAny_execs_nil ⟨σ,H,I,h⟩
theorem zgN(h1:PS X st t)(h2:PSs X zbA u):PSs X (st::zbA) (zpy t u):=by
 intro pins s σ H D I h;refine wpAny_execs_cons (thn (h1 pins s σ H { D with nx:=u D } I h) fun f s1 q=>?_);cases f with
 | next =>
  obtain⟨σ',H',I',q⟩:=q;exact h2 pins s1 σ' H' D I' q
 | ret v=>exact q
 | brk=>exact q
 | cont=>exact q
theorem zmQ(h1:PS X st t):PSs X [st] t:=by
 intro pins s σ H D I h;refine wpAny_execs_cons (thn (h1 pins s σ H D I h) fun f s1 q=>?_);cases f with
 | next=>exact wpAny_execs_nil q
 | ret v=>exact q
 | brk=>exact q
 | cont=>exact q
theorem Inv.quiet{pins:List (Addr×Obj)}{σ:St}{H:Hp}{s:Shared}(I:Inv X pins σ H s):interactive X.env=false:=by simp [interactive,I.ok.kind]
def zpz(te:TE):TS:=fun D σ H=>te σ H fun _ H1=>D.nx σ H1
theorem zs0(he:PE X e te)(hs:swapsWith e none pos.line X.env=pure false:=by rfl):PS X (.Expr e pos) (zpz te):=by
 intro pins s σ H D I h;exact wpAny_Expr_any (thn (he pins s σ H _ I h) fun v s1 ⟨x,H1,I1,r1,q1⟩=>⟨σ,H1,I1,q1⟩) I.quiet hs
def zs1(te:TE):TS:=fun D σ H=>te σ H D.rt
theorem zwx(he:PE X e te):PS X (.Return (some e) pos) (zs1 te):=by
 intro pins s σ H D I h;exact wpAny_Return_some (thn (he pins s σ H _ I h) fun v s1 ⟨x,H1,I1,r1,q1⟩=>⟨x,σ,H1,I1,r1,q1⟩)
def zwy(c:TT)(t u:TS):TS:=fun D σ H=>c σ H fun b H1=>if b=true then t D σ H1 else u D σ H1
theorem zyG{c:Expr}{a b:List Stmt}{tc:TT}(hc:PT X c tc)(ha:PSs X a t)(hb:PSs X b u):PS X (.If c a b pos) (zwy tc t u):=by
 intro pins s σ H D I h;refine wpAny_If (thn (hc pins s σ H _ I h) fun d s1 ⟨H1,I1,q1⟩=>?_);cases d with
 | true=>exact ha pins s1 σ H1 D I1 q1
 | false=>exact hb pins s1 σ H1 D I1 q1
end
abbrev TG:=V->St->Hp->(St->Hp->Prop)->Prop
abbrev TGs:=List V->St->Hp->(St->Hp->Prop)->Prop
def PG(X:Cx)(target:Expr)(t:TG):Prop :=
 ∀ (pins:List (Addr×Obj)) (s:Shared) (σ:St) (H:Hp) (v:V) (u:Value) (Q:St->Hp->Prop),Inv X pins σ H s->zJ v u->t v σ H Q ->
  wpAny (model X.prog X.w) X.A (assign target X.env u) (fun _ s'=>∃ σ' H',Inv X pins σ' H' s'/\Q σ' H') X.xe s
def PGs(X:Cx)(ts:List Expr)(t:TGs):Prop :=
 ∀ (pins:List (Addr×Obj)) (s:Shared) (σ:St) (H:Hp) (vs:List V) (us:List Value) (Q:St->Hp->Prop),Inv X pins σ H s->zH vs us->t vs σ H Q ->
  wpAny (model X.prog X.w) X.A (assignInOrder ((assignEach ts X.env).map (·.2)) us) (fun _ s'=>∃ σ' H',Inv X pins σ' H' s'/\Q σ' H') X.xe s
abbrev zs2:=V->V->V->Hp->(Hp->Prop)->Prop
def zwz(X:Cx)(t:zs2):Prop :=
 ∀ (pins:List (Addr×Obj)) (s:Shared) (σ:St) (H:Hp) (o i v:V) (ov iv u:Value) (Q:Hp->Prop),Inv X pins σ H s->zJ o ov->zJ i iv->zJ v u->t o i v H Q ->
  wpAny (model X.prog X.w) X.A (setItem ov iv u) (fun _ s'=>∃ H',Inv X pins σ H' s'/\Q H') X.xe s
section
variable {X:Cx} {pos:Pos}
def zcX(i:Nat):TG:=fun v σ H Q=>Q (σ.set i (some v)) H
theorem zs3{i:Nat}{x:Str}(hN:X.N.Nodup)(hi:X.N[i]?=some x)(hx:Loc X.env.scope x)(hf:X.fn x=true\/X.env.scope.names.lookup x=some .local:=by first | exact .inl rfl | exact .inr rfl | assumption):PG X (.Name x pos) (zcX i):=by
 intro pins s σ H v u Q I r h;exact wpAny_assign_Name (ze5 I hN hi hx r (fun s' I'=>⟨_,H,I',h⟩) hf)
def zs4:TGs:=fun vs σ H Q=>vs=[]/\Q σ H
def zj9(t:TG)(u:TGs):TGs:=fun vs σ H Q=>∃ v r,vs=v::r/\t v σ H fun σ' H'=>u r σ' H' Q
theorem zs5:PGs X [] zs4:=by
 intro pins s σ H vs us Q I r h;obtain⟨e,h⟩:=h;subst e;cases r;exact assignInOrder_nil ⟨σ,H,I,h⟩
theorem zpA{e:Expr}{es:List Expr}{t:TG}{u:TGs}(h1:PG X e t)(h2:PGs X es u)
  (hs:(assignEach (e::es) X.env).map (·.2)=assign e X.env::(assignEach es X.env).map (·.2):=by rfl):PGs X (e::es) (zj9 t u):=by
 intro pins s σ H vs us Q I r h;obtain⟨v,vr,e1,h⟩:=h;subst e1;cases r with
 | cons r rr =>
  rw [hs];refine assignInOrder_cons (thn (h1 pins s σ H _ _ _ I r h) fun _ s1 ⟨σ1,H1,I1,q1⟩=>?_);exact h2 pins s1 σ1 H1 _ _ Q I1 rr q1
def zs6(K:qc)(n:Nat)(t:TGs):TG:=fun v σ H Q=>∃ a xs,v=.ref a/\SqT K H a xs/\xs.length=n/\t xs σ H Q
theorem zwA{es:List Expr}{k:Nat}{t:TGs}{n:Nat}(hc:X.calm=true)(h:PGs X es t)
  (hn:(assignEach es X.env).length=n:=by rfl) (hst:(assignEach es X.env).findIdx? (·.1)=none:=by rfl):PG X (.Tuple es k pos) (zs6 X.K n t):=by
 intro pins s σ H v u Q I r hw;obtain⟨a,xs,e1,hq,hl,hw⟩:=hw;subst e1;cases r;obtain⟨its,rv,ht,hz⟩:=I.tuple hq;refine assign_Tuple_tuple (I.ok.hd hc) ht (by simp [hn,<-hl,rv.length]) hst fun h' hx=>?_;have I1:Inv X pins σ H { s with heap:=h' }:=I.kept (t':=s.toks) fun b o e=>hx b o (qj (qh e)) e;exact h pins _ σ H xs _ Q I1 (by simpa using rv) hw
def zwB(to ti:TE)(t:zs2):TG:=fun v σ H Q=>to σ H fun o H1=>ti σ H1 fun i H2=>t o i v H2 fun H3=>Q σ H3
theorem zwC{o i:Expr}{to ti:TE}{t:zs2}(ho:PE X o to)(hi:PE X i ti)(hs:zwz X t)
  (ha:∀ v,assign (.Subscript o i pos) X.env v=(do
   let ov <-holding [v] (eval o X.env)
   let iv <-holding [v,ov] (eval i X.env)
   standAt pos
   holding [v,ov,iv] (setItem ov iv v)
   release [v,ov,iv] []):=by intro _; rfl):PG X (.Subscript o i pos) (zwB to ti t):=by
 intro pins s σ H v u Q I r h;rw [ha];refine qa (wpAny_holding (thn (ho pins s σ H _ I h) fun ov s1 ⟨x,H1,I1,r1,q1⟩=>?_));refine qa (wpAny_holding (thn (hi pins s1 σ H1 _ I1 q1) fun iv s2 ⟨y,H2,I2,r2,q2⟩=>?_));refine qa (wpAny_standAt (qa (wpAny_holding (thn (hs pins s2 σ H2 x y v ov iv u _ I2 r1 r2 r q2) fun _ s3 ⟨H3,I3,q3⟩=>?_))));exact wpAny_release ⟨σ,H3,I3,q3⟩
def ziV(te:TE)(g:TG):TS:=fun D σ H=>te σ H fun x H1=>g x σ H1 D.nx
theorem zwD{tg e:Expr}{te:TE}{g:TG}(he:PE X e te)(hg:PG X tg g)(hs:swapsWithSole [tg] e pos.line X.env=pure false:=by rfl)(hw:swappedStores [tg] e X.env=pure none:=by rfl)
  (h1:(assignEach [tg] X.env).map (·.2)=[assign tg X.env]:=by rfl):PS X (.Assign [tg] e pos) (ziV te g):=by
 intro pins s σ H D I h;refine wpAny_Assign_stores (thn (he pins s σ H _ I h) fun v s1 ⟨x,H1,I1,r1,q1⟩=>?_) hs hw;rw [h1];exact thn (hg pins s1 σ H1 x v _ I1 r1 q1) fun _ s2 q=>q
theorem zwE{i:Nat}{x:Str}{e:Expr}{te:TE}{pos':Pos}(hN:X.N.Nodup)(hi:X.N[i]?=some x)(hx:Loc X.env.scope x)(he:PE X e te)(hs:swapsWith e (some (.Name x pos')) pos.line X.env=pure false:=by rfl)(hf:X.fn x=true\/X.env.scope.names.lookup x=some .local:=by first | exact .inl rfl | exact .inr rfl | assumption) :
  PS X (.Assign [.Name x pos'] e pos) (ziV te (zcX i)):=by
 intro pins s σ H D I h;refine wpAny_Assign_Name (thn (he pins s σ H _ I h) fun v s1 ⟨y,H1,I1,r1,q1⟩=>?_) hs;exact ze5 I1 hN hi hx r1 (fun s2 I2=>⟨_,H1,I2,q1⟩) hf
def zwF(i j:Nat)(ta:TA):TS:=fun D σ H=>ta σ H fun vs H1=>∃ v w,vs=[v,w]/\D.nx ((σ.set i (some v)).set j (some w)) H1
theorem zwG{i j:Nat}{x y:Str}{a b:Expr}{ta:TA}{px py pt:Pos}{kt k2 pt2}(hc:X.calm=true)(hN:X.N.Nodup)(hi:X.N[i]?=some x)(hj:X.N[j]?=some y)(hij:i≠j)
  (hx:X.env.scope.names.lookup x=some .local) (hy:X.env.scope.names.lookup y=some .local) (ha:PA X [a,b] ta)
  (hw:swappedStores [.Tuple [.Name x px,.Name y py] kt pt] (.Tuple [a,b] k2 pt2) X.env=pure (some [x,y]))
  (hs:swapsWithSole [.Tuple [.Name x px,.Name y py] kt pt] (.Tuple [a,b] k2 pt2) pos.line X.env=pure false:=by rfl) :
  PS X (.Assign [.Tuple [.Name x px,.Name y py] kt pt] (.Tuple [a,b] k2 pt2) pos) (zwF i j ta):=by
 intro pins s σ H D I h;rw [exec_Assign_arm];refine qa (wpAny_standAt ?_);rw [hs];refine qa (qb ?_);rw [if_neg (by decide)];refine qa (Tuple_ (thn (ha _ pins s σ H _ I h) fun us s1 ⟨vs,H1,I1,r1,q1⟩=>?_));obtain⟨v,w,e1,q1⟩:=q1;subst e1;obtain⟨u1,u2,rfl,rv,rw'⟩:∃ u1 u2,us=[u1,u2]/\zJ v u1/\zJ w u2:=by
  cases r1 with
  | cons p q =>
   cases q with
   | cons p' q' =>
    cases q';exact⟨_,_,rfl,p,p'⟩
 refine qy ?_ (by show 2<=sizeLine; decide);have I2:Inv X pins σ H1 { s1 with heap:=s1.heap.push { cls:=.type "tuple",data:=.seq [u1,u2].toArray } }:=I1.kept (t':=s1.toks) fun b o e=>qd _ e;rw [hw];refine qa (qb ?_);show wpAny (model X.prog X.w) X.A (do rule "assign.swapped-stores"; let items <-unpackItems (.ref s1.heap.objs.size) 2 none; assignInOrder [fun v=>bindName X.env y v,fun v=>bindName X.env x v] items.reverse; pure Flow.next) _ _ _;refine qa (wpAny_rule (qa (unpackItems_tuple (items:=#[u1,u2]) (I.ok.hd hc) (IsTup.new s1.heap _) fun h' hx'=>?_)));have I3:=I2.kept (h':=h') (t':=s1.toks) fun b o e=>hx' b o (qj (qh e)) e;show wpAny _ _ (assignInOrder [fun v=>bindName X.env y v,fun v=>bindName X.env x v] [u2,u1] >>= fun _=>pure Flow.next) _ _ _;refine qa (assignInOrder_cons (wpAny_bindName (ze5 I3 hN hj (.inl hy) rw' (fun s2 I4=>?_) (.inr hy))));refine assignInOrder_cons (wpAny_bindName (ze5 I4 hN hi (.inl hx) rv (fun s3 I5=>assignInOrder_nil (qb ?_)) (.inr hx)));rw [List.set_comm _ _ (Ne.symm hij)]at I5;exact⟨_,H1,I5,q1⟩
end
section
variable {X:Cx} {pos:Pos}
def zlE(c:TT)(tb:TS):TS:=fun D σ H=>∃ W:Nat->St->Hp->Prop,(∃ m,W m σ H)/\∀ m σ H,W m σ H ->
 c σ H fun b H1=>if b=true then ∃ N:St->Hp->Prop,(∀ σ' H',N σ' H'->∃ m',m' < m/\W m' σ' H')/\tb { D with nx:=N,ct:=N,bk:=D.nx } σ H1 else D.nx σ H1
theorem zpB{c:Expr}{body:List Stmt}{tc:TT}{tb:TS}(hp:PassesOwn (model X.prog X.w) X.A X.env X.xe)(hc:PT X c tc)(hb:PSs X body tb):PS X (.While c body [] pos) (zlE tc tb):=by
 intro pins s σ H D I h;obtain⟨W,⟨m0,w0⟩,turn⟩:=h;refine wpAny_While (codeAny_whileLoop (fun n s'=>∃ σ' H',Inv X pins σ' H' s'/\W n σ' H') ?_ m0 ⟨σ,H,I,w0⟩);rintro n s1 ⟨σ1,H1,I1,w1⟩;refine wpAny_passesOwn hp (thn (hc pins s1 σ1 H1 _ I1 (turn n σ1 H1 w1)) fun b s2 ⟨H2,I2,q2⟩=>?_);cases b with
 | true =>
  obtain⟨N,hN,q2⟩:=q2;rw [if_pos rfl];refine wpAny_passesOwn hp (thn (hb pins s2 σ1 H2 _ I2 q2) fun f s3 q3=>?_);cases f with
  | next =>
   obtain⟨σ3,H3,I3,n3⟩:=q3;obtain⟨m',hm,w3⟩:=hN σ3 H3 n3;exact⟨m',hm,σ3,H3,I3,w3⟩
  | cont =>
   obtain⟨σ3,H3,I3,n3⟩:=q3;obtain⟨m',hm,w3⟩:=hN σ3 H3 n3;exact⟨m',hm,σ3,H3,I3,w3⟩
  | brk=>exact q3
  | ret v=>exact q3
 | false =>
  rw [if_neg qf];exact wpAny_execs_nil ⟨σ1,H2,I2,q2⟩
end
structure It where
 go:Nat->Hp->Prop
 yld:Nat->Hp->V->Hp->Prop
 stop:Nat->Hp->Prop
def zcc(X:Cx)(pins:List (Addr×Obj))(H:Hp)(b:Addr):Prop :=
 H b=none/\b≠X.env.locals/\b∉X.fs/\(b∈X.ex\/X.s₀.heap.objs.size<=b)/\(∀ x c,X.env.cells.lookup x=some c->c≠b)/\∀ p∈X.pn++pins,p.1≠b
theorem Inv.fpOk{X:Cx}{pins:List (Addr×Obj)}{σ:St}{H H':Hp}{s:Shared}{b:Addr}(I:Inv X pins σ H s)(hb:s.heap.objs.size<=b)(hn:H' b=none):zcc X pins H' b:=by
 refine⟨hn,Nat.ne_of_gt (qi I.lt hb),I.nofs hb,.inr (qx I.sz hb),fun x c e z=>?_,fun p hp z=>?_⟩
 ·obtain⟨v,q⟩:=I.cell x c e
  exact absurd (qi q.lt (by rw [z]; exact hb)) (Nat.lt_irrefl _)
 ·exact absurd (qi (qh (I.pin p hp).1) (by rw [z]; exact hb)) (Nat.lt_irrefl _)
structure Turn (P:Program) (w:World) (K:qc) (tg:Expr) (J:It) (fp:List Addr) (it:Addr) (tn:Nat->Heap->Prop):Prop where
 mem:it∈fp
 obj:∀ i h,tn i h->∀ b∈fp,∃ o,h.get? b=some o/\∀ v,o.data≠.cell v
 keep:∀ i h h',tn i h->(∀ b∈fp,∀ o,h.get? b=some o->h'.get? b=some o)->tn i h'
 item:∀ (X:Cx),X.prog=P->X.w=w->X.K=K->X.calm=true->∀ (i:Nat) (pins:List (Addr×Obj)) (s:Shared) (σ:St) (H:Hp) (E:Value->Shared->Prop),Inv X pins σ H s->(∀ b∈fp,zcc X pins H b)->tn i s.heap->J.go i H ->
  wpAny (model P w) X.A (pyNext (.ref it)) (fun r s1=>∃ u,r=some u /\
   wpAny (model P w) X.A (letOwnedTupleGo tg (.ref it) u) (fun _ s2=>∃ x H',Inv X pins σ H' s2/\zJ x u/\J.yld i H x H'/\tn (i+1) s2.heap/\∀ b∈fp,H' b=none) E s1) E s
 done:∀ (X:Cx),X.prog=P->X.w=w->X.K=K->X.calm=true->∀ (i:Nat) (pins:List (Addr×Obj)) (s:Shared) (σ:St) (H:Hp) (E:Value->Shared->Prop),Inv X pins σ H s->(∀ b∈fp,zcc X pins H b)->tn i s.heap->J.stop i H ->
  wpAny (model P w) X.A (pyNext (.ref it)) (fun r s1=>r=none/\Inv X pins σ H s1) E s
 self:∀ (A:Around) (i:Nat) (s:Shared) (Q:Value->Shared->Prop) (E:Value->Shared->Prop),tn i s.heap->Q (.ref it) s->wpAny (model P w) A (pyIter (.ref it)) Q E s
abbrev TI:=St->Hp->(It->Hp->Prop)->Prop
def PIE(X:Cx)(pins:List (Addr×Obj))(σ:St)(tg:Expr)(R:It->Hp->Prop)(itv:Value)(s2:Shared):Prop :=
 ∃ (it:Addr) (fp:List Addr) (tn:Nat->Heap->Prop) (J:It) (H':Hp),itv=.ref it/\Inv X pins σ H' s2/\Turn X.prog X.w X.K tg J fp it tn/\tn 0 s2.heap/\(∀ b∈fp,zcc X pins H' b)/\R J H'
def PI(X:Cx)(tg iter:Expr)(wi:TI):Prop :=
 ∀ (pins:List (Addr×Obj)) (s:Shared) (σ:St) (H:Hp) (R:It->Hp->Prop),Inv X pins σ H s->wi σ H R ->
  wpAny (model X.prog X.w) X.A (eval iter X.env) (fun v s1=>wpAny (model X.prog X.w) X.A (pyIter v) (PIE X pins σ tg R) X.xe s1) X.xe s
theorem zka{M:Model}{A:Around}{E:Value->Shared->Prop}{s:Shared}{tg:Expr}{it:Addr}{u:Value}{o:Obj}{n:String}{vs:Array Value}{Q:Unit->Shared->Prop}(ho:s.heap.get? it=some o)(hc:o.cls=.type n)(hd:o.data=.fields vs)
  (hn:["enumerate", "zip", "dict_itemiterator", "dict_reverseitemiterator", "odict_iterator", "itertools.zip_longest", "itertools.pairwise"].contains n=false) (hQ:Q () s):wpAny M A (letOwnedTupleGo tg (.ref it) u) Q E s:=by
 unfold letOwnedTupleGo;cases tg<;>first
  | exact qb hQ
  | (cases u<;>first
    | exact qb hQ
    | (refine qa (wpAny_load ho ?_)
       rw [hc,hd];show wpAny M A (if(["enumerate", "zip", "dict_itemiterator", "dict_reverseitemiterator", "odict_iterator", "itertools.zip_longest", "itertools.pairwise"].contains n && vs[0]?==some (rawInt _))=true then _ else _) Q E s;rw [if_neg (by intro h; rw [hn,Bool.false_and]at h; cases h)];exact qb hQ))
def Itl(K:qc)(a:Addr):It :=
 ⟨fun i H=>∃ xs x,SqL K H a xs/\xs[i]?=some x,fun i H x H'=>H'=H/\∀ xs,SqL K H a xs->xs[i]?=some x,fun i H=>∃ xs,SqL K H a xs/\xs.length<=i⟩
def Itt(K:qc)(a:Addr):It :=
 ⟨fun i H=>∃ xs x,SqT K H a xs/\xs[i]?=some x,fun i H x H'=>H'=H/\∀ xs,SqT K H a xs->xs[i]?=some x,fun i H=>∃ xs,SqT K H a xs/\xs.length<=i⟩
def Itr(lo:Int)(n:Nat):It:=⟨fun i _=>i < n,fun i H x H'=>H'=H/\x=.int (lo+i),fun i _=>n<=i⟩
theorem zow{P:Program}{w:World}{K:qc}{tg:Expr}(a it:Addr):Turn P w K tg (Itl K a) [it] it (fun i h=>h.IsListIter it a i) where
 mem:=by simp
 obj:=fun i h st b hb=>by
  have e:b=it:=by simpa using hb
  subst e;obtain⟨o,e,c,d⟩:=st;exact⟨o,e,fun v z=>by rw [d]at z; cases z⟩
 keep:=fun i h h' st k=>st.at fun o e=>k it (by simp) o e
 item:=by
  intro X hP hw hK hc i pins s σ H E I hf st hg;subst hP hw hK;obtain⟨xs,x,hq,hx⟩:=hg;obtain⟨its,rv,p,hz⟩:=I.list hq;obtain⟨u,hu,ru⟩:=rv.get hx;obtain⟨f0,f1,f2,f3,f4,f5⟩:=hf it (by simp);refine wpAny_pyNext_list_item st p.isList (x:=u) (by simpa using hu) fun h' st' sb=>?_;have I1:Inv X pins σ H { s with heap:=h' }:=I.turned (t':=s.toks) (fun b o hb e=>(sb.2 b hb).trans e) f0 f1 f3 f4 f5;obtain⟨o,e,c,d⟩:=id st';exact⟨u,rfl,zka (s:={ s with heap:=h' }) e c d (by decide) ⟨x,H,I1,ru,⟨rfl,fun ys hy=>by rw [I.list_inj hy hq]; exact hx⟩,st',fun b hb=>(hf b hb).1⟩⟩
 done:=by
  intro X hP hw hK hc i pins s σ H E I hf st hg;subst hP hw hK;obtain⟨xs,hq,hx⟩:=hg;obtain⟨its,rv,p,hz⟩:=I.list hq;obtain⟨f0,f1,f2,f3,f4,f5⟩:=hf it (by simp);have hl:=rv.length;exact wpAny_pyNext_list_end (I.ok.hd hc) st p.isList (by simp; omega) fun h' eb=>⟨rfl,I.turned (t':=s.toks) (fun b o hb e=>eb b o hb e) f0 f1 f3 f4 f5⟩
 self:=fun _ _ _ _ _ st h=>wpAny_pyIter_listiter st h
theorem zlF{P:Program}{w:World}{K:qc}{tg:Expr}(a it:Addr):Turn P w K tg (Itt K a) [it] it (fun i h=>h.IsTupleIter it a i) where
 mem:=by simp
 obj:=fun i h st b hb=>by
  have e:b=it:=by simpa using hb
  subst e;obtain⟨o,e,c,d⟩:=st;exact⟨o,e,fun v z=>by rw [d]at z; cases z⟩
 keep:=fun i h h' st k=>st.at fun o e=>k it (by simp) o e
 item:=by
  intro X hP hw hK hc i pins s σ H E I hf st hg;subst hP hw hK;obtain⟨xs,x,hq,hx⟩:=hg;obtain⟨its,rv,p,hz⟩:=I.tuple hq;obtain⟨u,hu,ru⟩:=rv.get hx;obtain⟨f0,f1,f2,f3,f4,f5⟩:=hf it (by simp);refine wpAny_pyNext_tuple_item st (show s.heap.IsTuple a its.toArray from p) (x:=u) (by simpa using hu) fun h' st' sb=>?_;have I1:Inv X pins σ H { s with heap:=h' }:=I.turned (t':=s.toks) (fun b o hb e=>(sb.2 b hb).trans e) f0 f1 f3 f4 f5;obtain⟨o,e,c,d⟩:=id st';exact⟨u,rfl,zka (s:={ s with heap:=h' }) e c d (by decide) ⟨x,H,I1,ru,⟨rfl,fun ys hy=>by rw [I.tuple_inj hy hq]; exact hx⟩,st',fun b hb=>(hf b hb).1⟩⟩
 done:=by
  intro X hP hw hK hc i pins s σ H E I hf st hg;subst hP hw hK;obtain⟨xs,hq,hx⟩:=hg;obtain⟨its,rv,p,hz⟩:=I.tuple hq;obtain⟨f0,f1,f2,f3,f4,f5⟩:=hf it (by simp);have hl:=rv.length;exact wpAny_pyNext_tuple_end (I.ok.hd hc) st (show s.heap.IsTuple a its.toArray from p) (by simp; omega) fun h' eb=>⟨rfl,I.turned (t':=s.toks) (fun b o hb e=>eb b o hb e) f0 f1 f3 f4 f5⟩
 self:=fun _ _ _ _ _ st h=>wpAny_pyIter_tupleiter st h
theorem zlG{P:Program}{w:World}{K:qc}{tg:Expr}(it:Addr)(lo:Int)(n:Nat):Turn P w K tg (Itr lo n) [it] it (fun i h=>IsRangeIter h it (lo+(i:Nat) * 1) ((n:Int) - (i:Nat)) 1) where
 mem:=by simp
 obj:=fun i h st b hb=>by
  have e:b=it:=by simpa using hb
  subst e;exact⟨_,st,fun v z=>by
   have z':Data.fields _=Data.cell v:=z;cases z'⟩
 keep:=fun i h h' st k=>k it (by simp) _ st
 item:=by
  intro X hP hw hK hc i pins s σ H E I hf st hg;subst hP hw hK;obtain⟨f0,f1,f2,f3,f4,f5⟩:=hf it (by simp);have W:=Walks.range (prog:=X.prog) (w:=X.w) (I.ok.hd hc) it lo 1 n;refine W.item i s _ _ hg st fun v h' tk hv st' kk=>?_;obtain⟨t,rfl⟩:=hv;have I1:Inv X pins σ H { s with heap:=h',toks:=tk }:=I.turned (fun b o hb e=>kk b o (by simpa using hb) e) f0 f1 f3 f4 f5;refine⟨_,rfl,zka (s:={ s with heap:=h',toks:=tk }) (n := "range_iterator") st' rfl rfl (by decide) ⟨.int (lo+i),H,I1,⟨t,?_⟩,⟨rfl,rfl⟩,st',fun b hb=>(hf b hb).1⟩⟩;rw [Int.mul_one]
 done:=by
  intro X hP hw hK hc i pins s σ H E I hf st hg;subst hP hw hK;obtain⟨f0,f1,f2,f3,f4,f5⟩:=hf it (by simp);exact wpAny_pyNext_range_end (I.ok.hd hc) st (by have:n<=i:=hg; omega) fun h' eb=>⟨rfl,I.turned (t':=s.toks) (fun b o hb e=>eb b o hb e) f0 f1 f3 f4 f5⟩
 self:=fun _ _ _ _ _ st h=>wpAny_pyIter_rangeiter st h
section
variable {X:Cx} {tg:Expr}
def zpC(K:qc)(tl:TE):TI:=fun σ H R=>tl σ H fun x H1=>∃ a,x=.ref a/\(∃ xs,SqL K H1 a xs)/\R (Itl K a) H1
def zwH(K:qc)(tl:TE):TI:=fun σ H R=>tl σ H fun x H1=>∃ a,x=.ref a/\(∃ xs,SqT K H1 a xs)/\R (Itt K a) H1
theorem zs7{l:Expr}{tl:TE}(hl:PE X l tl):PI X tg l (zpC X.K tl):=by
 intro pins s σ H R I h;refine thn (hl pins s σ H _ I h) fun v s1 ⟨x,H1,I1,r1,q1⟩=>?_;obtain⟨a,e,⟨xs,hq⟩,q⟩:=q1;subst e;cases r1;obtain⟨its,rv,p,hz⟩:=I1.list hq;refine wpAny_pyIter_list p.isList ?_;refine⟨s1.heap.objs.size,[s1.heap.objs.size],_,_,H1,rfl,I1.kept (t':=s1.toks) fun b o e=>qd _ e,zow a _,⟨_,qg _ rfl,rfl,rfl⟩,fun b hb=>?_,q⟩;have e:b=s1.heap.objs.size:=by simpa using hb
 subst e;exact I1.fpOk (qe _) (I1.hok.fresh (qe _))
theorem zwI{l:Expr}{tl:TE}(hl:PE X l tl):PI X tg l (zwH X.K tl):=by
 intro pins s σ H R I h;refine thn (hl pins s σ H _ I h) fun v s1 ⟨x,H1,I1,r1,q1⟩=>?_;obtain⟨a,e,⟨xs,hq⟩,q⟩:=q1;subst e;cases r1;obtain⟨its,rv,p,hz⟩:=I1.tuple hq;refine wpAny_pyIter_tuple (show s1.heap.IsTuple a its.toArray from p) ?_;refine⟨s1.heap.objs.size,[s1.heap.objs.size],_,_,H1,rfl,I1.kept (t':=s1.toks) fun b o e=>qd _ e,zlF a _,⟨_,qg _ rfl,rfl,rfl⟩,fun b hb=>?_,q⟩;have e:b=s1.heap.objs.size:=by simpa using hb
 subst e;exact I1.fpOk (qe _) (I1.hok.fresh (qe _))
theorem zpD{pins:List (Addr×Obj)}{σ:St}{H:Hp}{s:Shared}{R:It->Hp->Prop}{E:Value->Shared->Prop}{lo hi:Int}{t u v:Tok}{tk:Nat}(I:Inv X pins σ H s)(h1:-(2^62)<=lo)(h2:lo < 2^62)(h3:-(2^62)<=hi)(h4:hi < 2^62)
  (q:R (Itr lo (hi - lo).toNat) H):wpAny (model X.prog X.w) X.A (pyIter (.ref s.heap.objs.size)) (PIE X pins σ tg R) E { s with heap:=s.heap.push { cls:=.type "range",data:=.fields #[.int lo t,.int hi u,.int 1 v] },toks:=tk }:=by
 refine wpAny_pyIter_range (IsRange.new ..) (small_one h1 h2 h3 h4) ?_;have I1:Inv X pins σ H { s with heap:=s.heap.push { cls:=.type "range",data:=.fields #[.int lo t,.int hi u,.int 1 v] },toks:=tk }:=I.kept fun b o e=>qd _ e;refine⟨(s.heap.push { cls:=.type "range",data:=.fields #[.int lo t,.int hi u,.int 1 v] }).objs.size,[(s.heap.push { cls:=.type "range",data:=.fields #[.int lo t,.int hi u,.int 1 v] }).objs.size],_,_,H,rfl,
  I1.kept (t':=tk) fun b o e=>qd _ e,zlG _ lo (hi - lo).toNat,?_,fun b hb=>?_,q⟩
 ·have e1:lo+((0:Nat):Int) * 1=lo:=by simp
  have e2:(((hi - lo).toNat:Nat):Int) - ((0:Nat):Int)=Builtin.Range.rangeSize lo hi 1:=by rw [rangeSize_one]; split<;>omega
  show IsRangeIter _ _ (lo+((0:Nat):Int) * 1) ((((hi - lo).toNat:Nat):Int) - ((0:Nat):Int)) 1;rw [e1,e2];exact qg _ rfl
 ·have e:b=(s.heap.push { cls:=.type "range",data:=.fields #[.int lo t,.int hi u,.int 1 v] }).objs.size:=by simpa using hb
  subst e;exact I1.fpOk (qe _) (I1.hok.fresh (qe _))
def zpE(ta:TA):TI:=fun σ H R=>ta σ H fun vs H1=>∃ j:Int,vs=[.int j]/\-(2^62)<=j/\j < 2^62/\R (Itr 0 j.toNat) H1
theorem zox{a:Expr}{ta:TA}{p pos:Pos}(hg:Gl X "range")(hm:X.mg "range"=none)(ha:PA X [a] ta)(hs:starEach [a] X.env=[(false,eval a X.env)]:=by rfl):PI X tg (.Call (.Name "range" p) [a] [] pos) (zpE ta):=by
 intro pins s σ H R I h;refine Call_ (zfP I hg hm boot_range (PyProof.Rows.callWith_type1 (thn (ha pos pins s σ H _ I h) fun us s1 ⟨vs,H1,I1,r1,q1⟩=>?_) hs rfl));obtain⟨j,e,q1,q2,q⟩:=q1;subst e;cases r1 with
 | cons r rr =>
  cases rr;obtain⟨t,rfl⟩:=r;exact call_range_1 (zpD I1 (by omega) (by omega) q1 q2 (by simpa using q))
def zwJ(wi:TI)(g:TG)(tb:TS):TS:=fun D σ H=>wi σ H fun J H1=>∃ W:Nat->Nat->St->Hp->Prop,(∃ m,W 0 m σ H1)/\∀ i m σ H,W i m σ H ->
 (J.stop i H/\D.nx σ H)\/(J.go i H/\∃ N:St->Hp->Prop,(∀ σ' H',N σ' H'->∃ m',m' < m/\W (i+1) m' σ' H')/\∀ x H',J.yld i H x H'->g x σ H' fun σ2 H2=>tb { D with nx:=N,ct:=N,bk:=D.nx } σ2 H2)
def zfQ(fp:List Addr)(h:Heap):List (Addr×Obj):=fp.filterMap fun b=>(h.get? b).map fun o=>(b,o)
theorem za9{fp:List Addr}{h:Heap}{b:Addr}{o:Obj}(hb:b∈fp)(e:h.get? b=some o):(b,o)∈zfQ fp h:=List.mem_filterMap.mpr ⟨b,hb,by rw [e]; rfl⟩
theorem zoy{fp:List Addr}{h:Heap}{p:Addr×Obj}(hp:p∈zfQ fp h):p.1∈fp/\h.get? p.1=some p.2:=by
 obtain⟨b,hb,e⟩:=List.mem_filterMap.mp hp;cases q:h.get? b with
 | none=>rw [q]at e; cases e
 | some o =>
  rw [q]at e;have e':(b,o)=p:=qw e;subst e';exact⟨hb,q⟩
theorem Inv.pinned{pins:List (Addr×Obj)}{σ:St}{H:Hp}{s:Shared}{fp:List Addr}(I:Inv X pins σ H s)(hf:∀ b∈fp,zcc X pins H b)(ho:∀ b∈fp,∃ o,s.heap.get? b=some o/\∀ v,o.data≠.cell v):Inv X (pins++zfQ fp s.heap) σ H s :=
 I.pins_of fun p hp=>(List.mem_append.mp hp).elim (fun z=>I.pin p (qv _ z)) fun z=>by
  obtain⟨hb,e⟩:=zoy z;obtain⟨f0,f1,f2,_⟩:=hf p.1 hb;obtain⟨o,e',d⟩:=ho p.1 hb;rw [e]at e'; cases e';exact⟨e,f0,f1,f2,d⟩
theorem Inv.unpinned{pins pl:List (Addr×Obj)}{σ:St}{H:Hp}{s:Shared}(I:Inv X (pins++pl) σ H s):Inv X pins σ H s:=I.pins_of fun p hp=>I.pin p (qv _ (List.mem_append_left _ hp))
theorem zwK{iter:Expr}{body:List Stmt}{wi:TI}{g:TG}{tb:TS}{pos:Pos}(hp:PassesOwn (model X.prog X.w) X.A X.env X.xe)(hc:X.calm=true)(hi:PI X tg iter wi)(hg:PG X tg g)(hb:PSs X body tb)
  (hs:∀ x,foldedSetIterable iter X.env x=pure x:=by intro _; rfl):PS X (.For tg iter body [] pos) (zwJ wi g tb):=by
 intro pins s σ H D I h;refine wpAny_For (thn (hi pins s σ H _ I h) fun v s1 h1=>thn h1 fun itv s2 h2=>?_) hs;obtain⟨it,fp,tn,J,H2,e,I2,T,st2,f2,W,⟨m0,w0⟩,turn⟩:=h2;subst e;have stat:∀ {H':Hp},(∀ b∈fp,H' b=none)->∀ b∈fp,zcc X pins H' b:=fun hn b hb=>⟨hn b hb,(f2 b hb).2⟩;refine codeAny_forLoop_any (fun n s'=>∃ i σ' H',Inv X pins σ' H' s'/\tn i s'.heap/\(∀ b∈fp,H' b=none)/\W i n σ' H') ?_ m0 ⟨0,σ,H2,I2,st2,fun b hb=>(f2 b hb).1,w0⟩;rintro n s3 ⟨i,σ3,H3,I3,st3,fr3,w3⟩;rcases turn i n σ3 H3 w3 with ⟨stop,qn⟩ | ⟨go,N,hN,step⟩
 ·refine wpAny_passesOwn hp (thn (T.done X rfl rfl rfl hc i pins s3 σ3 H3 X.xe I3 (stat fr3) st3 stop) fun r s4 ⟨hr,I4⟩=>?_)
  subst hr;exact wpAny_execs_nil ⟨σ3,H3,I4,qn⟩
 ·refine wpAny_passesOwn hp (thn (T.item X rfl rfl rfl hc i pins s3 σ3 H3 X.xe I3 (stat fr3) st3 go) fun r s4 ⟨u,hr,h4⟩=>?_)
  subst hr;refine wpAny_passesOwn hp (thn h4 fun _ s5 ⟨x,H5,I5,r5,y5,st5,fr5⟩=>?_);have I5':=I5.pinned (stat fr5) (T.obj _ _ st5);refine wpAny_passesOwn hp (thn (hg _ s5 σ3 H5 x u _ I5' r5 (step x H5 y5)) fun _ s6 ⟨σ6,H6,I6,q6⟩=>?_);refine wpAny_passesOwn hp (thn (hb _ s6 σ6 H6 _ I6 q6) fun f s7 q7=>?_);have again:∀ {σ7:St} {H7:Hp},Inv X (pins++zfQ fp s5.heap) σ7 H7 s7->N σ7 H7->∃ m,m < n/\∃ i σ' H',Inv X pins σ' H' s7/\tn i s7.heap/\(∀ b∈fp,H' b=none)/\W i m σ' H':=fun{σ7 H7} I7 n7=>by
   obtain⟨m',hm,w7⟩:=hN σ7 H7 n7;refine⟨m',hm,i+1,σ7,H7,I7.unpinned,T.keep _ _ _ st5 fun b hb o e=>(I7.pin (b,o) (qv _ (qv _ (za9 hb e)))).1,fun b hb=>?_,w7⟩;obtain⟨o,e,d⟩:=T.obj _ _ st5 b hb;exact(I7.pin (b,o) (qv _ (qv _ (za9 hb e)))).2.1
  cases f with
  | next=>obtain⟨σ7,H7,I7,n7⟩:=q7; exact again I7 n7
  | cont=>obtain⟨σ7,H7,I7,n7⟩:=q7; exact again I7 n7
  | brk=>obtain⟨σ7,H7,I7,q7⟩:=q7; exact⟨σ7,H7,I7.unpinned,q7⟩
  | ret v=>obtain⟨x7,σ7,H7,I7,r7,q7⟩:=q7; exact⟨x7,σ7,H7,I7.unpinned,r7,q7⟩
end
abbrev R2:=V->V->Hp->VK->Prop
def OpR(X:Cx)(f:Value->Value->Sem Value)(r:R2):Prop :=
 ∀ (pins:List (Addr×Obj)) (s:Shared) (σ:St) (H:Hp) (x y:V) (v u:Value) (Q:VK),Inv X pins σ H s->zJ x v->zJ y u->r x y H Q ->
  wpAny (model X.prog X.w) X.A (f v u) (EP X pins σ Q) X.xe s
def UnR(X:Cx)(f:Value->Sem Value)(r:V->Hp->VK->Prop):Prop :=
 ∀ (pins:List (Addr×Obj)) (s:Shared) (σ:St) (H:Hp) (x:V) (v:Value) (Q:VK),Inv X pins σ H s->zJ x v->r x H Q ->
  wpAny (model X.prog X.w) X.A (f v) (EP X pins σ Q) X.xe s
def zaN(X:Cx)(f:Value)(r:List V->Hp->VK->Prop):Prop :=
 ∀ (pins:List (Addr×Obj)) (s:Shared) (σ:St) (H:Hp) (xs:List V) (us:List Value) (Q:VK),Inv X pins σ H s->zH xs us->r xs H Q ->
  wpAny (model X.prog X.w) X.A (call f us) (EP X pins σ Q) X.xe s
def zAo(X:Cx)(r:V->Hp->(Bool->Hp->Prop)->Prop):Prop :=
 ∀ (pins:List (Addr×Obj)) (s:Shared) (σ:St) (H:Hp) (x:V) (v:Value) (Q:Bool->Hp->Prop),Inv X pins σ H s->zJ x v->r x H Q ->
  wpAny (model X.prog X.w) X.A (truthy v) (TP X pins σ Q) X.xe s
def tOp(r:R2)(ta tb:TE):TE:=fun σ H Q=>ta σ H fun x H1=>tb σ H1 fun y H2=>r x y H2 Q
def tUn(r:V->Hp->VK->Prop)(ta:TE):TE:=fun σ H Q=>ta σ H fun x H1=>r x H1 Q
def rI(C:Int->Int->Prop)(g:Int->Int->V):R2:=fun x y H Q=>∃ i j,x=.int i/\y=.int j/\C i j/\Q (g i j) H
def rI0(g:Int->Int->V):R2:=fun x y H Q=>∃ i j,x=.int i/\y=.int j/\Q (g i j) H
def rU(g:Int->V):V->Hp->VK->Prop:=fun x H Q=>∃ i,x=.int i/\Q (g i) H
section
variable {X:Cx} {a b c:Expr} {ta tb tc:TE} {pos:Pos}
theorem zwL(ha:PE X a ta)(hb:PE X b tb){pins:List (Addr×Obj)}{s:Shared}{σ:St}{H:Hp}{R:V->V->Hp->Prop}(I:Inv X pins σ H s)
  (h:ta σ H fun x H1=>tb σ H1 fun y H2=>R x y H2) {Q:Value->Shared->Prop} {f:Value->Value->Sem Value}
  (hf:∀ v u s2 x y H2,Inv X pins σ H2 s2->zJ x v->zJ y u->R x y H2->wpAny (model X.prog X.w) X.A (f v u) Q X.xe s2) :
  wpAny (model X.prog X.w) X.A (eval a X.env) (fun v s₁=>wpAny (model X.prog X.w) X.A (eval b X.env) (fun u s₂=>wpAny (model X.prog X.w) X.A (f v u) Q X.xe s₂) X.xe s₁) X.xe s:=by
 refine thn (ha pins s σ H _ I h) fun v s1 ⟨x,H1,I1,r1,q1⟩=>?_;refine thn (hb pins s1 σ H1 _ I1 q1) fun u s2 ⟨y,H2,I2,r2,q2⟩=>?_;exact hf v u s2 x y H2 I2 r1 r2 q2
theorem zyH{op:Operator}{r:R2}(ho:OpR X (binaryOp op) r)(ha:PE X a ta)(hb:PE X b tb):PE X (.BinOp a op b pos) (tOp r ta tb):=by
 intro pins s σ H Q I h;exact wpAny_BinOp (zwL ha hb I h fun v u s2 x y H2 I2 rx ry q=>ho pins s2 σ H2 x y v u Q I2 rx ry q)
theorem zyI{op:UnaryOp}{r:V->Hp->VK->Prop}(ho:UnR X (unaryOp op) r)(ha:PE X a ta):PE X (.UnaryOp op a pos) (tUn r ta):=by
 intro pins s σ H Q I h;exact UnaryOp_ (thn (ha pins s σ H _ I h) fun v s1 ⟨x,H1,I1,r1,q1⟩=>ho pins s1 σ H1 x v Q I1 r1 q1)
theorem opI{f:Value->Value->Sem Value}{C:Int->Int->Prop}{g:Int->Int->Int}
  (rule:∀ (i j:Int) (t u:Tok) (s:Shared) (Q:Value->Shared->Prop) (E:Value->Shared->Prop),C i j->Q (.int (g i j) s.toks) { s with toks:=s.toks+1 }->wpAny (model X.prog X.w) X.A (f (.int i t) (.int j u)) Q E s) :
  OpR X f (rI C fun i j=>.int (g i j)):=by
 intro pins s σ H x y v u Q I rx ry h;obtain⟨i,j,rfl,rfl,hc,q⟩:=h;obtain⟨t,rfl⟩:=rx;obtain⟨t',rfl⟩:=ry;exact rule i j t t' s _ _ hc ⟨.int (g i j),H,I.tok _,⟨_,rfl⟩,q⟩
theorem zwM{f:Value->Value->Sem Value}{g:Int->Int->Int}
  (rule:∀ (i j:Int) (t u:Tok) (s:Shared) (Q:Value->Shared->Prop) (E:Value->Shared->Prop),Q (.int (g i j) s.toks) { s with toks:=s.toks+1 }->wpAny (model X.prog X.w) X.A (f (.int i t) (.int j u)) Q E s) :
  OpR X f (rI0 fun i j=>.int (g i j)):=by
 intro pins s σ H x y v u Q I rx ry h;obtain⟨i,j,rfl,rfl,q⟩:=h;obtain⟨t,rfl⟩:=rx;obtain⟨t',rfl⟩:=ry;exact rule i j t t' s _ _ ⟨.int (g i j),H,I.tok _,⟨_,rfl⟩,q⟩
theorem zs8{f:Value->Value->Sem Value}{g:Int->Int->Bool}
  (rule:∀ (i j:Int) (t u:Tok) (s:Shared) (Q:Value->Shared->Prop) (E:Value->Shared->Prop),Q (.bool (g i j)) s->wpAny (model X.prog X.w) X.A (f (.int i t) (.int j u)) Q E s) :
  OpR X f (rI0 fun i j=>.bl (g i j)):=by
 intro pins s σ H x y v u Q I rx ry h;obtain⟨i,j,rfl,rfl,q⟩:=h;obtain⟨t,rfl⟩:=rx;obtain⟨t',rfl⟩:=ry;exact rule i j t t' s _ _ ⟨.bl (g i j),H,I,rfl,q⟩
def zs9(i j:Int):Prop:=0<=j/\j<=1000000/\i.natAbs < 2^64
def zoz(i j:Int):Prop:=(-(2^64) < i/\i < 2^64)\/(-(2^64) < j/\j < 2^64)
theorem zoz.ok{i j:Int}(h:zoz i j):IntMulOk i j:=by
 rcases h with ⟨h1,h2⟩ | ⟨h1,h2⟩
 ·exact .of_left (intBits_le_64 h1 h2)
 ·exact .of_right (intBits_le_64 h1 h2)
theorem zar:OpR X (binaryOp .Add) (rI0 fun i j=>.int (i+j)):=zwM fun _ _ _ _ _ _ _ q=>add_int q
theorem zgO:OpR X (binaryOp .Sub) (rI0 fun i j=>.int (i - j)):=zwM fun _ _ _ _ _ _ _ q=>sub_int q
theorem zcK:OpR X (binaryOp .Mult) (rI zoz fun i j=>.int (i * j)):=opI fun _ _ _ _ _ _ _ hc q=>mul_int q hc.ok
theorem zbT:OpR X (binaryOp .Mod) (rI (fun _ j=>0 < j) fun i j=>.int (i % j)):=opI fun i j _ _ _ _ _ hc q=>by
 have h1:(0:Int) < j:=hc;exact mod_int' (by omega) (by rw [Int.fmod_eq_emod_of_nonneg i (by omega)]; exact q)
theorem zwN:OpR X (binaryOp .Pow) (rI zs9 fun i j=>.int (i^j.toNat)):=opI fun _ _ _ _ _ _ _ hc q=>pow_int_small hc.1 hc.2.1 hc.2.2 q
theorem zwO:OpR X (binaryOp .BitAnd) (rI0 fun i j=>.int (Builtin.bitAnd i j)):=zwM fun _ _ _ _ _ _ _ q=>and_int q
theorem unI{f:Value->Sem Value}{g:Int->Int}
  (rule:∀ (i:Int) (t:Tok) (s:Shared) (Q:Value->Shared->Prop) (E:Value->Shared->Prop),Q (.int (g i) s.toks) { s with toks:=s.toks+1 }->wpAny (model X.prog X.w) X.A (f (.int i t)) Q E s) :
  UnR X f (rU fun i=>.int (g i)):=by
 intro pins s σ H x v Q I rx h;obtain⟨i,rfl,q⟩:=h;obtain⟨t,rfl⟩:=rx;exact rule i t s _ _ ⟨.int (g i),H,I.tok _,⟨_,rfl⟩,q⟩
theorem ziW:UnR X (unaryOp .USub) (rU fun i=>.int (-i)):=unI fun _ _ _ _ _ q=>neg_int q
end
def zwP:V->V->Bool
 | .non,.non=>true | .non,.int _=>true | .int _,.non=>true | .non,.bl _=>true | .bl _,.non=>true | .non,.str _=>true | .str _,.non=>true
 | .int _,.int _=>true | .bl _,.bl _=>true | .str _,.str _=>true | .byt _,.byt _=>true
 | .int _,.str _=>true | .str _,.int _=>true | .bl _,.str _=>true | .str _,.bl _=>true
 | _,_=>false
def rEq:R2:=fun x y H Q=>zwP x y=true/\Q (.bl (decide (x=y))) H
def rNe:R2:=fun x y H Q=>zwP x y=true/\Q (.bl (!decide (x=y))) H
theorem zmR{i j:Int}:decide (V.int i=V.int j)=(i==j):=by
 rw [Bool.eq_iff_iff];simp
theorem zpF{i j:Bool}:decide (V.bl i=V.bl j)=(i==j):=by
 rw [Bool.eq_iff_iff];simp
theorem zmS{i j:Str}:decide (V.str i=V.str j)=(i==j):=by
 rw [Bool.eq_iff_iff];simp
theorem zmT{i j:Array UInt8}:decide (V.byt i=V.byt j)=(i.toList==j.toList):=by
 rw [Bool.eq_iff_iff];cases i;cases j;simp
section
variable {X:Cx} {a b c:Expr} {ta tb tc:TE} {pos:Pos}
theorem zU{pins:List (Addr×Obj)}{σ:St}{H:Hp}{s:Shared}{Q:VK}{k k':Bool}(I:Inv X pins σ H s)(q:Q (.bl k) H)(e:k=k'):EP X pins σ Q (.bool k') s:=by
 subst e;exact⟨.bl k,H,I,rfl,q⟩
theorem zid:OpR X (compareOp .Eq) rEq:=by
 intro pins s σ H x y v u Q I rx ry h;obtain⟨hs,q⟩:=h;cases x with
 | non =>
  cases rx;cases y with
  | non=>cases ry; exact PySem.EqNone.eq_none_none (zU I q (by simp))
  | bl j=>cases ry; exact PySem.EqNone.eq_none_bool (zU I q (by simp))
  | int j=>obtain⟨t',rfl⟩:=ry; exact PySem.EqNone.eq_none_int (zU I q (by simp))
  | str j=>obtain⟨t',rfl⟩:=ry; exact PySem.EqNone.eq_none_str (zU I q (by simp))
  | _=>exact absurd (show false=true from hs) qf
 | bl i =>
  cases rx;cases y with
  | non=>cases ry; exact PySem.EqNone.eq_bool_none (zU I q (by simp))
  | bl j=>cases ry; exact eq_bool (zU I q zpF)
  | str j=>obtain⟨t',rfl⟩:=ry; exact PySem.EqMixed.eq_bool_str (zU I q (by simp))
  | _=>exact absurd (show false=true from hs) qf
 | int i =>
  obtain⟨t,rfl⟩:=rx;cases y with
  | non=>cases ry; exact PySem.EqNone.eq_int_none (zU I q (by simp))
  | int j=>obtain⟨t',rfl⟩:=ry; exact eq_int (zU I q zmR)
  | str j=>obtain⟨t',rfl⟩:=ry; exact PySem.EqMixed.eq_int_str (zU I q (by simp))
  | _=>exact absurd (show false=true from hs) qf
 | str i =>
  obtain⟨t,rfl⟩:=rx;cases y with
  | non=>cases ry; exact PySem.EqNone.eq_str_none (zU I q (by simp))
  | bl j=>cases ry; exact PySem.EqMixed.eq_str_bool (zU I q (by simp))
  | int j=>obtain⟨t',rfl⟩:=ry; exact PySem.EqMixed.eq_str_int (zU I q (by simp))
  | str j=>obtain⟨t',rfl⟩:=ry; exact eq_str (zU I q zmS)
  | _=>exact absurd (show false=true from hs) qf
 | byt i =>
  obtain⟨t,rfl⟩:=rx;cases y with
  | byt j=>obtain⟨t',rfl⟩:=ry; exact PySem.W.eq_bytes (zU I q zmT)
  | _=>exact absurd (show false=true from hs) qf
 | _=>cases y<;>exact absurd (show false=true from hs) qf
theorem zkb:OpR X (compareOp .NotEq) rNe:=by
 intro pins s σ H x y v u Q I rx ry h;obtain⟨hs,q⟩:=h;cases x with
 | non =>
  cases rx;cases y with
  | non=>cases ry; exact PySem.EqNone.ne_none_none (zU I q (by simp))
  | bl j=>cases ry; exact PySem.EqNone.ne_none_bool (zU I q (by simp))
  | int j=>obtain⟨t',rfl⟩:=ry; exact PySem.EqNone.ne_none_int (zU I q (by simp))
  | str j=>obtain⟨t',rfl⟩:=ry; exact PySem.EqNone.ne_none_str (zU I q (by simp))
  | _=>exact absurd (show false=true from hs) qf
 | bl i =>
  cases rx;cases y with
  | non=>cases ry; exact PySem.EqNone.ne_bool_none (zU I q (by simp))
  | bl j=>cases ry; exact ne_bool (zU I q (congrArg not zpF))
  | str j=>obtain⟨t',rfl⟩:=ry; exact PySem.EqMixed.ne_bool_str (zU I q (by simp))
  | _=>exact absurd (show false=true from hs) qf
 | int i =>
  obtain⟨t,rfl⟩:=rx;cases y with
  | non=>cases ry; exact PySem.EqNone.ne_int_none (zU I q (by simp))
  | int j=>obtain⟨t',rfl⟩:=ry; exact ne_int (zU I q (congrArg not zmR))
  | str j=>obtain⟨t',rfl⟩:=ry; exact PySem.EqMixed.ne_int_str (zU I q (by simp))
  | _=>exact absurd (show false=true from hs) qf
 | str i =>
  obtain⟨t,rfl⟩:=rx;cases y with
  | non=>cases ry; exact PySem.EqNone.ne_str_none (zU I q (by simp))
  | bl j=>cases ry; exact PySem.EqMixed.ne_str_bool (zU I q (by simp))
  | int j=>obtain⟨t',rfl⟩:=ry; exact PySem.EqMixed.ne_str_int (zU I q (by simp))
  | str j=>obtain⟨t',rfl⟩:=ry; exact ne_str (zU I q (congrArg not zmS))
  | _=>exact absurd (show false=true from hs) qf
 | byt i =>
  obtain⟨t,rfl⟩:=rx;cases y with
  | byt j=>obtain⟨t',rfl⟩:=ry; exact PySem.W.ne_bytes (zU I q (congrArg not zmT))
  | _=>exact absurd (show false=true from hs) qf
 | _=>cases y<;>exact absurd (show false=true from hs) qf
theorem zpG:OpR X (compareOp .Lt) (rI0 fun i j=>.bl (decide (i < j))):=zs8 fun _ _ _ _ _ _ _ q=>lt_int q
theorem zyJ:OpR X (compareOp .LtE) (rI0 fun i j=>.bl (decide (i<=j))):=zs8 fun _ _ _ _ _ _ _ q=>le_int q
theorem zmU:OpR X (compareOp .Gt) (rI0 fun i j=>.bl (decide (j < i))):=zs8 fun _ _ _ _ _ _ _ q=>gt_int q
theorem zyK:OpR X (compareOp .GtE) (rI0 fun i j=>.bl (decide (j<=i))):=zs8 fun _ _ _ _ _ _ _ q=>ge_int q
theorem zwQ:OpR X (compareOp .Is) (fun x y H Q=>y=.non/\Q (.bl (decide (x=.non))) H):=by
 intro pins s σ H x y v u Q I rx ry h;obtain⟨rfl,q⟩:=h;cases ry;refine is_none_gen (zU I q ?_);cases x<;>first
  | (cases rx; rfl)
  | (obtain⟨t,rfl⟩:=rx; rfl)
theorem zpH(b:Expr){op:CmpOp}(h:op≠.In:=by decide)(h2:op≠.NotIn:=by decide):behindInMarks op b=false:=by
 have e1:(op==CmpOp.In)=false:=by cases op<;>first | rfl | exact absurd rfl h
 have e2:(op==CmpOp.NotIn)=false:=by cases op<;>first | rfl | exact absurd rfl h2
 cases b<;>simp [behindInMarks,e1,e2]
theorem zta{op:CmpOp}{r:R2}(ho:OpR X (compareOp op) r)(ha:PE X a ta)(hb:PE X b tb)(hm:behindInMarks op b=false):PE X (.Compare a [op] [b] pos) (tOp r ta tb):=by
 intro pins s σ H Q I h;exact wpAny_Compare1 (zwL ha hb I h fun v u s2 x y H2 I2 rx ry q=>ho pins s2 σ H2 x y v u Q I2 rx ry q) hm
def zpI(t:TE):TT:=fun σ H Q=>t σ H fun x H'=>∃ k,x=.bl k/\Q k H'
theorem ztb{op:CmpOp}{r:R2}(ho:OpR X (compareOp op) r)(ha:PE X a ta)(hb:PE X b tb)(hm:behindInMarks op b=false):PT X (.Compare a [op] [b] pos) (zpI (tOp r ta tb)):=by
 intro pins s σ H Q I h;refine wpAny_isTrue_Compare1 (thn (ha pins s σ H _ I h) fun v s1 ⟨x,H1,I1,r1,q1⟩=>thn (hb pins s1 σ H1 _ I1 q1) fun u s2 ⟨y,H2,I2,r2,q2⟩ =>
  thn (ho pins s2 σ H2 x y v u _ I2 r1 r2 q2) fun c s3 ⟨z,H3,I3,r3,k,e,q3⟩=>?_) hm
 subst e;cases r3;exact wpAny_truthy_bool ⟨H3,I3,q3⟩
def zwR(K:qc)(x:V)(H:Hp)(k:Bool):Prop :=
 match x with
 | .non=>k=false
 | .bl b=>k=b
 | .int i=>k=(i != 0)
 | .str y=>y.length<=sizeLine/\k=((y.length:Int) != 0)
 | .byt y=>y.size<=sizeLine/\k=((y.size:Int) != 0)
 | .ref p=>(∃ xs,SqL K H p xs/\k=!xs.isEmpty)\/(∃ xs,SqT K H p xs/\k=!xs.isEmpty)\/∃ kvs,H p=some (.dK kvs)/\k=!kvs.isEmpty
 | _=>False
theorem zlH{κ:Type}{kvs:List (κ×V)}{vs:List (κ×Value)}(r:KV kvs vs):(!vs.isEmpty)=!kvs.isEmpty:=by
 cases r<;>rfl
theorem zgP{xs:List V}{its:List Value}(r:zH xs its):(!its.toArray.isEmpty)=!xs.isEmpty:=by
 cases r<;>simp
theorem zfR:(sizeLine:Nat) < 2^63:=by rw [sizeLine_eq]; decide
theorem zwS:zAo X (fun x H Q=>∃ k,zwR X.K x H k/\Q k H):=by
 intro pins s σ H x v Q I rx h;obtain⟨k,e,q⟩:=h;have hl:=zfR;have hs:sizeLine=16777216:=sizeLine_eq;cases x with
 | non =>
  cases rx;have e':k=false:=e;subst e';exact truthy_none ⟨H,I,q⟩
 | bl b =>
  cases rx;have e':k=b:=e;subst e';exact wpAny_truthy_bool ⟨H,I,q⟩
 | int i =>
  obtain⟨t,rfl⟩:=rx;have e':k=(i != 0):=e;subst e';exact PySem.P.truthy_int ⟨H,I,q⟩
 | str y =>
  obtain⟨t,rfl⟩:=rx;obtain⟨hy,e'⟩:y.length<=sizeLine/\k=((y.length:Int) != 0):=e;subst e';exact PySem.P.truthy_str (by omega) ⟨H,I.tok _,q⟩
 | byt y =>
  obtain⟨t,rfl⟩:=rx;obtain⟨hy,e'⟩:y.size<=sizeLine/\k=((y.size:Int) != 0):=e;subst e';exact PySem.W.truthy_bytes (by omega) ⟨H,I.tok _,q⟩
 | ref p =>
  cases rx;have e':(∃ xs,SqL X.K H p xs/\k=!xs.isEmpty)\/(∃ xs,SqT X.K H p xs/\k=!xs.isEmpty)\/∃ kvs,H p=some (.dK kvs)/\k=!kvs.isEmpty:=e;rcases e' with ⟨xs,hx,e'⟩ | ⟨xs,hx,e'⟩ | ⟨kvs,hx,e'⟩
  ·subst e'
   obtain⟨its,r,pl,hz⟩:=I.list hx;have hlen:=r.length;exact wpAny_truthy_list pl.isList (by simp only [List.size_toArray]; omega) ⟨H,I.tok _,by rw [zgP r]; exact q⟩
  ·subst e'
   obtain⟨its,r,pl,hz⟩:=I.tuple hx;have hlen:=r.length;exact truthy_tuple pl (by simp only [List.size_toArray]; omega) ⟨H,I.tok _,by rw [zgP r]; exact q⟩
  ·subst e'
   obtain⟨hz,hS,vs,r,m⟩:kvs.length<=sizeLine/\(p==sysModules)=false/\∃ vs,KV kvs vs/\s.heap.DictOf (zT X.prog X.w) p vs:=I.hok p _ hx;have hlen:kvs.length=vs.length:=Paired.length r;exact wpAny_truthy_dict hS m (by omega) ⟨H,I.tok _,by rw [zlH r]; exact q⟩
 | _=>exact(show False from e).elim
theorem zpJ(ha:PE X a ta)(he:∀ whole,isTrue a X.env whole=(do let v <-whole; standAt a.pos; holding [v] (truthy v))) :
  PT X a (fun σ H Q=>ta σ H fun x H'=>∃ k,zwR X.K x H' k/\Q k H'):=by
 intro pins s σ H Q I h;exact isTrue_plain (thn (ha pins s σ H _ I h) fun v s1 ⟨x,H1,I1,r1,q1⟩=>zwS pins s1 σ H1 x v Q I1 r1 q1) (he _)
theorem zdc:OpR X (binaryOp .Add) (fun x y H Q=>∃ i j,x=.str i/\y=.str j/\i.length+j.length<=sizeLine/\Q (.str (i++j)) H):=by
 intro pins s σ H x y v u Q I rx ry h;obtain⟨i,j,rfl,rfl,hz,q⟩:=h;obtain⟨t,rfl⟩:=rx;obtain⟨t',rfl⟩:=ry;exact add_str (fun t' tk=>⟨.str (i++j),H,I.tok _,⟨_,rfl⟩,q⟩) hz
theorem zcd{x:V}{us:List Value}(r:zH [x] us):∃ u,us=[u]/\zJ x u:=by
 cases r with
 | cons r1 r2=>cases r2; exact⟨_,rfl,r1⟩
theorem zpK{x y:V}{us:List Value}(r:zH [x,y] us):∃ u w',us=[u,w']/\zJ x u/\zJ y w':=by
 cases r with
 | cons r1 r2 =>
  cases r2 with
  | cons r3 r4=>cases r4; exact⟨_,_,rfl,r1,r3⟩
theorem ze7:zaN X (.builtin "abs") (fun xs H Q=>∃ i,xs=[.int i]/\Q (.int (if i < 0 then -i else i)) H):=by
 intro pins s σ H xs us Q I r h;obtain⟨i,rfl,q⟩:=h;obtain⟨u,rfl,t,rfl⟩:=zcd r;exact call_abs_int fun u tk=>⟨.int (if i < 0 then -i else i),H,I.tok _,⟨_,rfl⟩,q⟩
theorem zfS(hc:X.calm=true):zaN X (.builtin "max") (fun xs H Q=>∃ i j,xs=[.int i,.int j]/\Q (.int (if j > i then j else i)) H):=by
 intro pins s σ H xs us Q I r h;obtain⟨i,j,rfl,q⟩:=h;obtain⟨u,w',rfl,⟨t,rfl⟩,⟨t',rfl⟩⟩:=zpK r;refine max_two_ints (I.ok.hd hc) fun h' tk k=>⟨_,H,I.kept k,?_,q⟩
 by_cases hj:j > i
 ·rw [if_pos hj,if_pos hj]; exact⟨_,rfl⟩
 ·rw [if_neg hj,if_neg hj]; exact⟨_,rfl⟩
theorem zoA:zaN X (.type "int") (fun xs H Q=>(∃ i,xs=[.int i]/\Q (.int i) H)\/∃ k,xs=[.bl k]/\Q (.int (if k then 1 else 0)) H):=by
 intro pins s σ H xs us Q I r h;rcases h with ⟨i,rfl,q⟩ | ⟨k,rfl,q⟩
 ·obtain⟨u,rfl,t,rfl⟩:=zcd r
  exact call_int_int ⟨.int i,H,I,⟨_,rfl⟩,q⟩
 ·obtain⟨u,rfl,r1⟩:=zcd r
  cases r1;exact call_int_bool ⟨.int (if k then 1 else 0),H,I.tok _,⟨_,rfl⟩,q⟩
end
structure ObjM (h:Heap) (x dx C:Addr) (mA:Str->Option Value):Prop where
 obj:h.get? x=some (PySem.W.instObj C dx)
 ns:h.Ns1 dx mA
 ne:dx≠x
theorem zoB{h:Heap}{dx:Addr}{mA:Str->Option Value}(n:h.Ns1 dx mA):∃ od,h.get? dx=some od/\∀ name,PySem.W.lookIn name od=some (mA name):=by
 obtain⟨o,es,ep,ho,hd,hk,_,hm⟩:=n;refine⟨o,ho,fun name=>?_⟩;have e:=hm name;unfold nsFind findBy at e;rw [<-Array.find?_toList]at e;unfold PySem.W.lookIn;rw [hd];dsimp only;split
 ·rename_i y q
  rw [q]at e;exact congrArg some e
 ·rename_i q
  rw [q]at e;have a:es.toList.any (·.refKey)=false:=by
   rw [List.any_eq_false];intro y hy;obtain⟨z,t,hkey⟩:=hk y (Array.mem_toList_iff.mp hy);simp [DictEntry.refKey,hkey]
  have a':¬es.toList.any (·.refKey)=true:=by rw [a]; exact qf
  rw [if_neg a'];exact congrArg some e
theorem ObjM.look{h:Heap}{x dx C:Addr}{mA:Str->Option Value}(I:ObjM h x dx C mA):∃ od,PySem.W.InstAt h x (PySem.W.instObj C dx) C (some od)/\∀ name,PySem.W.lookIn name od=some (mA name) :=
 let ⟨od,ho,hl⟩:=zoB I.ns
 ⟨od,⟨I.obj,rfl,rfl,ho⟩,hl⟩
section
variable {prog:Program} {w:World} {A:Around} {E:Value->Shared->Prop} {s:Shared} {K:qc} {x dx C f:Addr} {mA:Str->Option Value} {name:Str} {v:Value}
theorem ztc{expr:Bool}{Q:Value->Shared->Prop}(X:K.In s.heap)(I:ObjM s.heap x dx C mA)(hg:PySem.W.plainGet K C name=true)(hh:PySem.W.hasDictIn K C=true)
  (ha:PySem.W.findIn K (.ref C) name=some none) (hv:mA name=some v) (hv':PySem.W.handedIn v=true) (h:Q v { s with toks:=s.toks+1 }) :
  wpAny (model prog w) A (getAttr (.ref x) name expr) Q E s:=by
 obtain⟨od,J,hl⟩:=I.look;exact PySem.W.get_value X J (PySem.W.plainGet_of hg).1 (PySem.W.findObj_own hh ha rfl (by rw [hl,hv])) hv' h
theorem ztd{ns:List Str}{Q:Unit->Shared->Prop}(X:K.In s.heap)(I:ObjM s.heap x dx C mA)
  (hs:PySem.W.findIn K (.ref C) "__setattr__"=some (some (.builtin "object.__setattr__"))) (hp:PySem.W.plainOver K C=true) (ht:PySem.W.takerIn K C name=some none) (hh:PySem.W.hasDictIn K C=true)
  (hw:PySem.Within mA ns) (hsz:ns.length<=sizeLine)
  (h:∀ h',ObjM h' x dx C (fun y=>if y=name then some v else mA y)->Heap.SameBut dx s.heap h'->Q () { s with heap:=h',toks:=s.toks+2 }) :
  wpAny (model prog w) A (setAttr (.ref x) name v) Q E s:=by
 obtain⟨od,J,hl⟩:=I.look;refine PySem.W.set_plain X J hs (PySem.W.osa_open (s:={ s with toks:=s.toks+1 }) (r:=none) X J hp ht fun b=>?_);obtain⟨cd,hc,hd'⟩:=PySem.W.any_some hh;have hx:s.heap.get? x=some ⟨.ref C,some dx,.plain,#[]⟩:=I.obj;refine qa (qb (qa (qa (wpAny_loadPart hx (qa (PySem.W.Looks.here (s:={ s with toks:=s.toks+1 }) (PySem.W.looks_clsIn X hc) ?_))))));rw [hd'];refine qb (a:=some dx) (qa (qb (qa ?_)));refine wpAny_nsSet1 (s:={ s with toks:=s.toks+1 }) I.ns fun h' hn2 hs2=>?_;obtain⟨oD,esD,epD,hoD,hdD,hcD⟩:=hn2.count (PySem.Within.cons name v hw);refine qa (wpAny_lookBehind hoD (by rw [hdD]; exact pastItsLine_dict (qx hcD (by rw [qt]; omega))) ?_);exact qb (h _ ⟨(hs2.2 _ (Ne.symm I.ne)).trans I.obj,hn2,I.ne⟩ hs2)
theorem zpL{R:Result->Shared->Prop}{vs:List Value}{kw:List (Str×Value)}(X:K.In s.heap)(hm:PySem.W.makesIn K C=true)
  (hi:PySem.W.findIn K (.ref C) "__init__"=some (some (.ref f))) (hf:PySem.W.typeIn K (.ref f)=some (.type "function"))
  (h:codeAny (model prog w) (A.under (.builtin "type.__call__" ⟨.ref C::vs,kw⟩)) (.call (.ref f) ⟨.ref (s.heap.objs.size+1)::vs,kw⟩) (PySem.W.InitBack (s.heap.objs.size+1) R)
   { s with heap:=(s.heap.push PySem.W.emptyDict).push (PySem.W.instObj C s.heap.objs.size) }) :
  codeAny (model prog w) A (.call (.ref C) ⟨vs,kw⟩) R s:=by
 obtain⟨hh,g,d,t,os⟩:=s;exact PySem.W.make_core (PySem.W.makes_of X hm) (PySem.W.looks_findIn X hi) (fun self=>PySem.W.bind_fn X self hf) (.inl rfl) h
end
def zce(f:Str)(v:V):List (Str×V)->List (Str×V)
 | []=>[(f,v)]
 | (g,x)::r=>if g=f then(g,v)::r else(g,x)::zce f v r
theorem zga(f g:Str)(v:V):∀ fs:List (Str×V),(zce f v fs).lookup g=if g=f then some v else fs.lookup g
 | []=>by
  show List.lookup g [(f,v)]=_
  by_cases h:g=f
  ·have hb:(g==f)=true:=beq_iff_eq.mpr h
   simp only [List.lookup,hb,if_pos h]
  ·have hb:(g==f)=false:=beq_eq_false_iff_ne.mpr h
   simp only [List.lookup,hb,if_neg h]
 | (k,x)::r=>by
  have ih:=zga f g v r;rw [show zce f v ((k,x)::r)=(if k=f then(k,v)::r else(k,x)::zce f v r) from rfl]
  by_cases hk:k=f
  ·rw [if_pos hk]
   by_cases h:g=k
   ·have hb:(g==k)=true:=beq_iff_eq.mpr h
    simp only [List.lookup,hb,if_pos (h.trans hk)]
   ·have hb:(g==k)=false:=beq_eq_false_iff_ne.mpr h
    simp only [List.lookup,hb,if_neg (fun e:g=f=>h (e.trans hk.symm))]
  ·rw [if_neg hk]
   by_cases h:g=k
   ·have hb:(g==k)=true:=beq_iff_eq.mpr h
    simp only [List.lookup,hb,if_neg (fun e:g=f=>hk (h.symm.trans e))]
   ·have hb:(g==k)=false:=beq_eq_false_iff_ne.mpr h
    simp only [List.lookup,hb];exact ih
theorem zfT(f:Str)(v:V):∀ fs:List (Str×V),f∈(zce f v fs).map (·.1)/\∀ g,g∈fs.map (·.1)->g∈(zce f v fs).map (·.1)
 | []=>⟨by simp [zce],fun g h=>by simp at h⟩
 | (k,x)::r=>by
  obtain⟨i1,i2⟩:=zfT f v r;rw [show zce f v ((k,x)::r)=(if k=f then(k,v)::r else(k,x)::zce f v r) from rfl]
  by_cases hk:k=f
  ·rw [if_pos hk]
   subst hk;exact⟨by simp,fun g h=>by simpa using h⟩
  ·rw [if_neg hk]
   refine⟨?_,fun g h=>?_⟩
   ·rw [List.map_cons]
    exact qm _ i1
   ·rw [List.map_cons]at h ⊢
    rcases qu.mp h with e | e
    ·exact qu.mpr (.inl e)
    ·exact qm _ (i2 g e)
theorem zgb(f:Str)(v:V):∀ fs:List (Str×V),(zce f v fs).length<=fs.length+1
 | []=>by simp [zce]
 | (k,x)::r=>by
  have ih:=zgb f v r;rw [show zce f v ((k,x)::r)=(if k=f then(k,v)::r else(k,x)::zce f v r) from rfl]
  by_cases hk:k=f
  ·rw [if_pos hk,qt,qt]; omega
  ·rw [if_neg hk,qt,qt]; omega
theorem zeJ.some_of{v:V}{o:Option Value}(r:zeJ (some v) o):∃ u,o=some u/\zJ v u:=by
 cases o with
 | none=>exact(show False from r).elim
 | some u=>exact⟨u,rfl,r⟩
theorem zoC{v:V}{u:Value}(r:zJ v u):PySem.W.handedIn u=true:=by
 cases v with
 | non=>cases(show u=Value.none from r); rfl
 | bl b=>cases(show u=Value.bool b from r); rfl
 | int i=>obtain⟨t,e⟩:=(show ∃ t,u=Value.int i t from r); cases e; rfl
 | str x=>obtain⟨t,e⟩:=(show ∃ t,u=Value.str x t from r); cases e; rfl
 | byt b=>obtain⟨t,e⟩:=(show ∃ t,u=Value.bytes b t from r); cases e; rfl
 | flt b=>obtain⟨t,e⟩:=(show ∃ t,u=Value.float b t from r); cases e; rfl
 | ref a=>cases(show u=Value.ref a from r); rfl
 | ty n=>cases(show u=Value.type n from r); rfl
section
variable {P:Program} {w:World} {K:qc} {H H':Hp} {h h':Heap} {a C dx:Addr} {fs fs':List (Str×V)}
theorem zte(hok:HOk P w K H h)(e:H a=some (.ins C dx fs)):∃ mA,ObjM h a dx C mA/\(∀ f,zeJ (fs.lookup f) (mA f))/\PySem.Within mA (fs.map (·.1))/\fs.length<=1000/\H dx=some (.own a):=by
 obtain⟨d,z,ne,ob,mA,n,r,q⟩:=(show zX P w K H h a (.ins C dx fs) from hok a _ e);exact⟨mA,⟨ob,n,ne⟩,r,q,z,d⟩
end
structure Cls (K:qc) (C:Addr):Prop where
 pg:PySem.W.plainGet K C Str.empty=true
 hd:PySem.W.hasDictIn K C=true
 po:PySem.W.plainOver K C=true
 sa:PySem.W.findIn K (.ref C) "__setattr__"=some (some (.builtin "object.__setattr__"))
theorem Cls.get{K:qc}{C:Addr}(c:Cls K C)(f:Str):PySem.W.plainGet K C f=true:=c.pg
def zaY(K:qc)(C:Addr)(f:Str):Prop:=PySem.W.findIn K (.ref C) f=some none
theorem zaY.taker{K:qc}{C:Addr}{f:Str}(n:zaY K C f):PySem.W.takerIn K C f=some none:=by
 unfold PySem.W.takerIn;rw [show PySem.W.findIn K (.ref C) f=some none from n];rfl
section
variable {X:Cx} {pins:List (Addr×Obj)} {σ:St} {H:Hp} {s:Shared} {a C dx:Addr} {fs:List (Str×V)} {f:Str} {v:V} {A:Around} {E:Value->Shared->Prop}
theorem zlI{y:V}{u:Value}{Q:Unit->Shared->Prop}(I:Inv X pins σ H s)(e:H a=some (.ins C dx fs))(c:Cls X.K C)(n:zaY X.K C f)(hl:fs.length < 1000)(ry:zJ y u)
  (h:∀ s',Inv X pins σ (upd H a (.ins C dx (zce f y fs))) s'->Q () s'):wpAny (model X.prog X.w) A (setAttr (.ref a) f u) Q E s:=by
 obtain⟨mA,O,r,wi,_,ho⟩:=zte I.hok e;have hz:(fs.map (·.1)).length<=sizeLine:=by rw [List.length_map,sizeLine_eq]; omega
 refine ztd I.kIn O c.sa c.po n.taker c.hd wi hz fun h' O' sb=>h _ ?_;have hd:∃ o,h'.get? dx=some o:=let ⟨o,_,_,e',_⟩:=O'.ns; ⟨o,e'⟩;refine I.write (x:=a) (e:=dx) (by rw [e]; exact True.intro) (.inr ho) (fun b q hb z=>(sb.2 b hb).trans z) hd ?_;refine⟨by rw [zu O.ne]; exact ho,?_,O.ne,O'.obj,_,O'.ns,fun g=>?_,fun g hg=>?_⟩
 ·have:=zgb f y fs; omega
 ·show zeJ ((zce f y fs).lookup g) (if g=f then some u else mA g)
  rw [zga]
  by_cases q:g=f
  ·rw [if_pos q,if_pos q]; exact ry
  ·rw [if_neg q,if_neg q]; exact r g
 ·by_cases q:g=f
  ·rw [q]; exact(zfT f y fs).1
  ·refine(zfT f y fs).2 g (wi g fun z=>hg ?_)
   show(if g=f then some u else mA g)=none;rw [if_neg q]; exact z
theorem Inv.made(I:Inv X pins σ H s):Inv X pins σ (upd (upd H s.heap.objs.size (.own (s.heap.objs.size+1))) (s.heap.objs.size+1) (.ins C s.heap.objs.size []))
  { s with heap:=(s.heap.push PySem.W.emptyDict).push (PySem.W.instObj C s.heap.objs.size) }:=by
 have e1:(s.heap.push PySem.W.emptyDict).get? s.heap.objs.size=some PySem.W.emptyDict:=qg s.heap rfl;have e2:((s.heap.push PySem.W.emptyDict).push (PySem.W.instObj C s.heap.objs.size)).get? (s.heap.objs.size+1)=some (PySem.W.instObj C s.heap.objs.size):=by
  have:=qg (s.heap.push PySem.W.emptyDict) (o:=PySem.W.instObj C s.heap.objs.size) rfl
  rwa [Heap.size_push]at this
 have e3:(s.heap.push PySem.W.emptyDict).Ns s.heap.objs.size (fun _=>none):=⟨PySem.W.emptyDict,#[],_,e1,rfl,(fun e he=>absurd he (by simp)),fun _=>rfl⟩;have I1:=I.laid (a:=s.heap.objs.size) (o:=.own (s.heap.objs.size+1)) (h':=s.heap.push PySem.W.emptyDict) (t':=s.toks) (fun b u q=>qd _ q) (qe _) ⟨_,e1⟩;refine I1.laid (a:=s.heap.objs.size+1) (o:=.ins C s.heap.objs.size []) (t':=s.toks) (fun b u q=>qd _ q) (Nat.le_of_eq (Heap.size_push _ _)) ?_;have ne:s.heap.objs.size≠s.heap.objs.size+1:=qj (Nat.lt_succ_self _);refine⟨by rw [zu ne,zt],Nat.zero_le _,ne,e2,fun _=>none,(Heap.Ns1.of_empty e3).at fun o q=>qd _ q,fun _=>True.intro,fun y hy=>absurd rfl hy⟩
theorem ztf{prog:Program}{w:World}{env:Env}{e:Expr}{f:Str}{pos:Pos}{s:Shared}{Q:Value->Shared->Prop}(hb:attributeBase e f env (eval e env)=eval e env)
  (h:wpAny (model prog w) A (eval e env) (fun o s₁=>wpAny (model prog w) A (getAttr o f true) Q E s₁) E s):wpAny (model prog w) A (eval (.Attribute e f pos) env) Q E s :=
 Attribute_any_ h (by rw [arm_eval_Attribute,hb])
end
def ztg(K:qc)(ta tv:TE)(f:Str):TS:=fun D σ H=>tv σ H fun y H1=>ta σ H1 fun x H2=>∃ a C dx fs,x=.ref a/\H2 a=some (.ins C dx fs)/\Cls K C/\zaY K C f/\fs.length < 1000 /\
 D.nx σ (upd H2 a (.ins C dx (zce f y fs)))
section
variable {X:Cx} {o e value:Expr} {f:Str} {pos pos' tpos:Pos} {ta tv:TE}
theorem zlJ(ha:PE X o ta)(hv:PE X value tv)(hs:swapsWith value (some (.Attribute o f pos')) pos.line X.env=pure false):PS X (.Assign [.Attribute o f pos'] value pos) (ztg X.K ta tv f):=by
 intro pins s σ H D I h;refine plainObj_wpAny_Assign_Attribute (thn (hv pins s σ H _ I h) fun u s1 ⟨y,H1,I1,ry,q⟩=>thn (ha pins s1 σ H1 _ I1 q) fun ov s2 ⟨x,H2,I2,rx,a,C,dx,fs,ex,ea,c,n,l,q2⟩=>?_) hs;subst ex;obtain rfl:ov=Value.ref a:=rx;exact zlI I2 ea c n l ry fun s3 I3=>⟨σ,_,I3,q2⟩
end
section
variable {X:Cx} {pins:List (Addr×Obj)} {σ:St} {H:Hp} {s:Shared} {A:Around} {E:Value->Shared->Prop} {Q:Value->Shared->Prop} {c:Value} {b:Bool}
end
structure Room (k:Nat) (A:Around):Prop where
 hd:A.handled=none
 dp:A.depth+3 * k+5 < recursionLimit
 un:A.units+16 * k+200 < cLine
 gd:A.guards=some []
theorem Room.mono{j k:Nat}{A:Around}(r:Room k A)(h:j<=k):Room j A:=⟨r.hd,by have:=r.dp; omega,by have:=r.un; omega,r.gd⟩
theorem Room.deeper{k:Nat}{A:Around}(r:Room (k+1) A)(env:Env):Room k (A.deeper env) :=
 ⟨r.hd,by have:=r.dp; show A.depth+1+3 * k+5 < _; omega,by have:=r.un; show A.units+3+16 * k+200 < _; omega,r.gd⟩
theorem Room.in1{k:Nat}{A:Around}(r:Room (k+1) A):Room k A.in1 :=
 ⟨r.hd,by have:=r.dp; show A.depth+3 * k+5 < _; omega,by have:=r.un; show A.units+1+16 * k+200 < _; omega,r.gd⟩
theorem zlK{A:Around}{C:Addr}{us:List Value}{kw:List (Str×Value)}:(A.under (.builtin "type.__call__" ⟨.ref C::us,kw⟩)).depth=A.depth+1:=by
 first | rfl | simp [Around.under,Code.weight,Code.isCreation,Code.isGuard,Code.isCaller,Code.frames,Code.isFrame,guardIds]
theorem zlL{A:Around}{C:Addr}{us:List Value}{kw:List (Str×Value)}:(A.under (.builtin "type.__call__" ⟨.ref C::us,kw⟩)).units=A.units+1:=by
 first | rfl | simp [Around.under,Code.cUnits,Code.frames,Code.isFrame]
theorem Room.make{k:Nat}{A:Around}(r:Room (k+1) A)(C:Addr)(us:List Value)(kw:List (Str×Value)):Room k (A.under (.builtin "type.__call__" ⟨.ref C::us,kw⟩)) :=
 ⟨r.hd,by have:=r.dp; rw [zlK]; omega,by have:=r.un; rw [zlL]; omega,by have:=r.gd; first | exact this | simpa [Around.under,Code.isGuard,guardIds] using this⟩
theorem Room.depth{k:Nat}{A:Around}(r:Room k A):A.depth < recursionLimit:=by have:=r.dp; omega
theorem Room.units{k:Nat}{A:Around}(r:Room k A):A.units+64 < cLine:=by have:=r.un; omega
def zoD:TA:=fun _ H Q=>Q [] H
def zgQ(ta:TE)(tr:TA):TA:=fun σ H Q=>ta σ H fun x H1=>tr σ H1 fun xs H2=>Q (x::xs) H2
section
variable {X:Cx} {e:Expr} {es:List Expr} {te:TE} {t:TA} {pos:Pos}
theorem zwT:PA X [] zoD:=fun _ _ _ _ H Q I h=>Calls.spliced_nil ⟨[],H,I,.nil,h⟩
theorem zth(ha:PE X e te)(hr:PA X es t)(hs:starEach (e::es) X.env=(false,eval e X.env)::starEach es X.env:=by rfl):PA X (e::es) (zgQ te t):=by
 intro pos pins s σ H Q I h;rw [hs];show wpAny _ _ (spliced ((false,eval e X.env)::backTo pos (starEach es X.env))) _ _ s;refine Calls.spliced_cons (thn (ha pins s σ H _ I h) fun u s1 ⟨x,H1,I1,r1,q1⟩=>?_);exact thn (hr pos pins s1 σ H1 _ I1 q1) fun us s2 ⟨xs,H2,I2,r2,q2⟩=>⟨x::xs,H2,I2,.cons r1 r2,q2⟩
def zwU(t:TA):TE:=fun σ H Q=>t σ H fun xs H1=>xs.length<=sizeLine/\∀ p,H1 p=none->Q (.ref p) (upd H1 p (.tup xs))
def zwV(t:TA):TE:=fun σ H Q=>t σ H fun xs H1=>xs.length<=sizeLine/\∀ p,H1 p=none->Q (.ref p) (upd H1 p (.lst xs))
theorem zwW{x1}(h:PA X es t):PE X (.Tuple es x1 pos) (zwU t):=by
 intro pins s σ H Q I hq;refine wpAny_Tuple_spliced (thn (h pos pins s σ H _ I hq) fun us s1 ⟨xs,H1,I1,r,z,q⟩=>⟨by rw [<-r.length]; exact z,?_⟩);have hf:H1 s1.heap.objs.size=none:=I1.hok.fresh (qe _);refine⟨.ref s1.heap.objs.size,upd H1 s1.heap.objs.size (.tup xs),I1.laid (t':=s1.toks) (fun b u e=>qd _ e) (qe _) ?_,rfl,q _ hf⟩;exact⟨z,us,r,⟨_,qg _ rfl,rfl,⟨_,rfl⟩,.inl rfl⟩⟩
theorem zwX(h:PA X es t):PE X (.List es pos) (zwV t):=by
 intro pins s σ H Q I hq;refine wpAny_List_spliced (thn (h pos pins s σ H _ I hq) fun us s1 ⟨xs,H1,I1,r,z,q⟩=>⟨by rw [<-r.length]; exact z,?_⟩);have hf:H1 s1.heap.objs.size=none:=I1.hok.fresh (qe _);refine⟨.ref s1.heap.objs.size,upd H1 s1.heap.objs.size (.lst xs),I1.laid (t':=s1.toks) (fun b u e=>qd _ e) (qe _) ?_,rfl,q _ hf⟩;exact⟨z,us,0,r,qg _ rfl⟩
end
abbrev Sp:=List V->Hp->VK->XK->Prop
abbrev CXT:=List Env->Hp->Shared->XK->Value->Shared->Prop
structure Env0 (P:Program) (w:World) (K:qc) (mg:Str->Option Value) (base:Heap) (A:Around) (outer:List Env) (s:Shared) (H:Hp):Prop where
 frames:A.frames=some outer
 mod:Mod K mg base
 bs:∀ b o,base.get? b=some o->s.heap.get? b=some o/\H b=none
 bsz:base.objs.size<=s.heap.objs.size
 funs:s.heap.FunFrames base outer
 frf:∀ b∈frs outer,H b=none
 hok:HOk P w K H s.heap
 bare:AllBare s.gens
def CE(outer:List Env)(P:Program)(w:World)(K:qc)(H:Hp)(s:Shared)(Q:VK)(u:Value)(s':Shared):Prop :=
 ∃ v H',s'.os=s.os/\AllBare s'.gens/\Un (frs outer) [] H H' s.heap s'.heap/\HOk P w K H' s'.heap/\zJ v u/\Q v H'
def CR(CX:CXT)(outer:List Env)(P:Program)(w:World)(K:qc)(H:Hp)(s:Shared)(Q:VK)(E:XK)(r:Result)(s':Shared):Prop :=
 match r with
 | .ok (.ret u)=>CE outer P w K H s Q u s'
 | .ok _=>False
 | .error e=>CX outer H s E e s'
structure FnOk (P:Program) (w:World) (K:qc) (mg:Str->Option Value) (base:Heap) (CX:CXT) (k:Nat) (f:Addr) (fd:FuncData) (ps:List Str) (sp:Sp):Prop where
 len:∀ vs H Q E,sp vs H Q E->vs.length=ps.length
 run:∀ (A:Around) (outer:List Env) (s:Shared) (H:Hp) (args:Args) (us:List Value) (vs:List V) (Q:VK) (E:XK),Room k A->Env0 P w K mg base A outer s H->BindsTo s fd args (ps.zip us)->zH vs us->sp vs H Q E ->
  codeAny (model P w) A (.call (.ref f) args) (CR CX outer P w K H s Q E) s
theorem FnOk.imp{P:Program}{w:World}{K:qc}{mg:Str->Option Value}{base:Heap}{CX:CXT}{k:Nat}{f:Addr}{fd:FuncData}{ps:List Str}{sp sp':Sp}(F:FnOk P w K mg base CX k f fd ps sp)
  (h:∀ vs H Q E,sp' vs H Q E->sp vs H Q E):FnOk P w K mg base CX k f fd ps sp' :=
 ⟨fun vs H Q E q=>F.len vs H Q E (h _ _ _ _ q),fun A outer s H args us vs Q E hr he hb hv hs=>F.run A outer s H args us vs Q E hr he hb hv (h _ _ _ _ hs)⟩
theorem Env0.make{P:Program}{w:World}{K:qc}{mg:Str->Option Value}{base:Heap}{A:Around}{outer:List Env}{s:Shared}{H:Hp}(e:Env0 P w K mg base A outer s H)(C:Addr)(us:List Value)(kw:List (Str×Value)) :
  Env0 P w K mg base (A.under (.builtin "type.__call__" ⟨.ref C::us,kw⟩)) outer s H:=⟨by first | exact e.frames | (simpa [Around.under,Code.envs,Code.isFrame,pushEnvs] using e.frames),e.mod,e.bs,e.bsz,e.funs,e.frf,e.hok,e.bare⟩
theorem Env0.in1{P:Program}{w:World}{K:qc}{mg:Str->Option Value}{base:Heap}{A:Around}{outer:List Env}{s:Shared}{H:Hp}(e:Env0 P w K mg base A outer s H) :
  Env0 P w K mg base A.in1 outer s H:=⟨e.frames,e.mod,e.bs,e.bsz,e.funs,e.frf,e.hok,e.bare⟩
section
variable {X:Cx} {pins:List (Addr×Obj)} {σ:St} {H:Hp} {s s':Shared}
theorem Inv.env0(I:Inv X pins σ H s):Env0 X.prog X.w X.K X.mg X.base X.A X.stack s H :=
 ⟨I.ok.frames,I.ok.mod,I.bs,qx I.ok.bsz I.sz,I.stack,I.stkFree,I.hok,I.bare⟩
theorem Inv.after{Q:VK}{u:Value}(I:Inv X pins σ H s)(h:CE X.stack X.prog X.w X.K H s Q u s'):EP X pins σ Q u s':=by
 obtain⟨v,H',os,bare,un,hok,r,q⟩:=h;obtain⟨hh,g,d,t,os'⟩:=s';obtain rfl:os'=s.os:=os;exact⟨v,H',I.call (h':=hh) (g':=g) (d':=d) (t':=t) (ch:=[]) un hok bare (fun b z=>absurd z (by simp)),r,q⟩
end
def zyL(sp:Sp)(dvs:List V)(E:XK)(t:TA):TE:=fun σ H Q=>t σ H fun vs H1=>sp (vs++dvs) H1 Q E
def zu0(C:Addr)(sp:Sp)(dvs:List V)(E:XK)(t:TA):TE:=fun σ H Q=>t σ H fun vs H1=>∀ x dx,H1 x=none->H1 dx=none->dx≠x ->
 sp (.ref x::(vs++dvs)) (upd (upd H1 dx (.own x)) x (.ins C dx [])) (fun v H2=>v=.non/\Q (.ref x) H2) E
def zej(K:qc)(fd:FuncData)(ps:List Str)(ds:List Value):Prop :=
 ∀ (s:Shared) (us:List Value),K.In s.heap->(us++ds).length=ps.length->BindsTo s fd ⟨us,[]⟩ (ps.zip (us++ds))
theorem zej.all{K:qc}{fd:FuncData}{ps:List Str}(h:∀ us:List Value,us.length=ps.length->bindArgs fd ⟨us,[]⟩=pure (ps.zip us)):zej K fd ps []:=fun s us _ hl=>by
 rw [List.append_nil]at hl ⊢;exact .of_eq (h us hl)
def zgR(CX:CXT)(X:Cx)(E:XK):Prop:=∀ (pins:List (Addr×Obj)) (σ:St) (H:Hp) (s:Shared) (e:Value) (s':Shared),Inv X pins σ H s->CX X.stack H s E e s'->X.xe e s'
section
variable {X:Cx} {CX:CXT} {k:Nat} {f C:Addr} {fd:FuncData} {ps:List Str} {sp:Sp} {dvs:List V} {ds:List Value} {E:XK} {x m:Str} {p pos apos:Pos} {e o:Expr} {es:List Expr} {ta:TE} {t:TA}
theorem zwY{pins:List (Addr×Obj)}{σ:St}{H:Hp}{s:Shared}{Q:VK}{us:List Value}{vs:List V}(F:FnOk X.prog X.w X.K X.mg X.base CX k f fd ps sp)(hr:Room k X.A)(hb:zej X.K fd ps ds)(hd:zH dvs ds)(hx:zgR CX X E)
  (I:Inv X pins σ H s) (r:zH vs us) (h:sp (vs++dvs) H Q E):wpAny (model X.prog X.w) X.A (call (.ref f) us) (EP X pins σ Q) X.xe s:=by
 have r2:zH (vs++dvs) (us++ds):=r.append hd;have hl:(us++ds).length=ps.length:=by rw [<-r2.length]; exact F.len _ _ _ _ h
 refine wpAny_call (codeAny_mono (F.run X.A X.stack s H ⟨us,[]⟩ (us++ds) (vs++dvs) Q E hr I.env0 (hb s us I.kIn hl) r2 h) fun r s' hq=>?_);cases r with
 | error e=>exact hx pins σ H s e s' I hq
 | ok fl =>
  cases fl with
  | ret u=>exact I.after hq
  | next=>exact False.elim hq
  | brk=>exact False.elim hq
  | cont=>exact False.elim hq
theorem zti(F:FnOk X.prog X.w X.K X.mg X.base CX k f fd ps sp)(hr:Room k X.A)(hg:Gl X x)(hm:X.mg x=some (.ref f))(hk:PySem.W.keepIn X.K (.ref f)=true)(hb:zej X.K fd ps ds)(hd:zH dvs ds)(hx:zgR CX X E)
  (ha:PA X (e::es) t) (hdb:(x==("__debug__":Str))=false:=by decide) (he:starEach (e::es) X.env=(false,eval e X.env)::starEach es X.env:=by rfl) (hpl:(backTo pos (starEach es X.env)).any (·.1)=false:=by rfl) :
  PE X (.Call (.Name x p) (e::es) [] pos) (zyL sp dvs E t):=by
 intro pins s σ H Q I h;refine wpAny_Call_Name_kw (ziU I hg hm ?_ hdb);refine PySem.W.callWith_K (h₀:=X.base) I.ok.mod.kin hk (thn (ha pos pins s σ H _ I h) fun us s1 ⟨vs,H1,I1,r,q⟩=>⟨I1.kIn,?_⟩) he hpl;exact zwY F hr hb hd hx I1 r q
structure Mk (K:qc) (C f:Addr):Prop where
 makes:PySem.W.makesIn K C=true
 init:PySem.W.findIn K (.ref C) "__init__"=some (some (.ref f))
 fn:PySem.W.isFn K (.ref f)=true
 kp:PySem.W.keepIn K (.ref C)=true
theorem zpM{pins:List (Addr×Obj)}{σ:St}{H:Hp}{s:Shared}{Q:VK}{us:List Value}{vs:List V}(M:Mk X.K C f)(F:FnOk X.prog X.w X.K X.mg X.base CX k f fd ps sp)(hr:Room (k+1) X.A)(hb:zej X.K fd ps ds)(hd:zH dvs ds)
  (hx:zgR CX X E) (I:Inv X pins σ H s) (r:zH vs us)
  (h:∀ x dx,H x=none->H dx=none->dx≠x->sp (.ref x::(vs++dvs)) (upd (upd H dx (.own x)) x (.ins C dx [])) (fun v H2=>v=.non/\Q (.ref x) H2) E) :
  wpAny (model X.prog X.w) X.A (call (.ref C) us) (EP X pins σ Q) X.xe s:=by
 have hq:=h (s.heap.objs.size+1) s.heap.objs.size (I.hok.fresh (Nat.le_succ _)) (I.hok.fresh (qe _)) (qj (Nat.lt_succ_self _));have I2:=Inv.made (C:=C) I;have r2:zH (V.ref (s.heap.objs.size+1)::(vs++dvs)) (Value.ref (s.heap.objs.size+1)::(us++ds)):=.cons rfl (r.append hd);have hl:(Value.ref (s.heap.objs.size+1)::us++ds).length=ps.length:=by
  have e:=r2.length;rw [F.len _ _ _ _ hq]at e;exact e.symm
 refine wpAny_call (zpL (f:=f) I.kIn M.makes M.init (beq_iff_eq.mp M.fn) (codeAny_mono (F.run _ X.stack _ _ ⟨Value.ref (s.heap.objs.size+1)::us,[]⟩ (Value.ref (s.heap.objs.size+1)::(us++ds)) _ _ E (hr.make C us [])
  (I2.env0.make C us []) (hb _ (Value.ref (s.heap.objs.size+1)::us) I2.kIn hl) r2 hq) fun r s' hq'=>?_))
 cases r with
 | error e=>exact hx pins σ _ _ e s' I2 hq'
 | ok fl =>
  cases fl with
  | ret u =>
   obtain⟨v,H',I3,rv,ev,q3⟩:=I2.after hq';subst ev;exact⟨rv,⟨V.ref (s.heap.objs.size+1),H',I3,rfl,q3⟩⟩
  | next=>exact False.elim hq'
  | brk=>exact False.elim hq'
  | cont=>exact False.elim hq'
theorem ztj(M:Mk X.K C f)(F:FnOk X.prog X.w X.K X.mg X.base CX k f fd ps sp)(hr:Room (k+1) X.A)(hg:Gl X x)(hm:X.mg x=some (.ref C))(hb:zej X.K fd ps ds)(hd:zH dvs ds)(hx:zgR CX X E)
  (ha:PA X (e::es) t) (hdb:(x==("__debug__":Str))=false:=by decide) (he:starEach (e::es) X.env=(false,eval e X.env)::starEach es X.env:=by rfl) (hpl:(backTo pos (starEach es X.env)).any (·.1)=false:=by rfl) :
  PE X (.Call (.Name x p) (e::es) [] pos) (zu0 C sp dvs E t):=by
 intro pins s σ H Q I h;refine wpAny_Call_Name_kw (ziU I hg hm ?_ hdb);refine PySem.W.callWith_K (h₀:=X.base) I.ok.mod.kin M.kp (thn (ha pos pins s σ H _ I h) fun us s1 ⟨vs,H1,I1,r,q⟩=>⟨I1.kIn,?_⟩) he hpl;exact zpM M F hr hb hd hx I1 r q
end
section
variable {X:Cx} {CX:CXT} {k:Nat} {f C:Addr} {fd:FuncData} {ps ks:List Str} {sp:Sp} {E:XK} {x m:Str} {p pos apos kpos:Pos} {e o:Expr} {es:List Expr} {kws:List Keyword} {te ta:TE} {t tk:TA} {nm:Option Str}
variable {g:List Value->List Value->List Value} {gV:List V->List V->List V}
end
structure FnScope (N P:List Str) (sc:Scope):Prop where
 kind:sc.kind=.function
 co:sc.isCoroutine=false
 gen:sc.isGenerator=false
 nd:N.Nodup
 pre:N.take P.length=P
 par:∀ x∈P,sc.names.lookup x=some .local\/sc.names.lookup x=some .cell
 nofree:∀ y∈sc.names,y.2≠.free
theorem zie{kindOf:Str->Option NameKind}{x:Str}:∀ {binds:List (Str×Value)} {m:Str->Option Value},(∀ v,(x,v)∉binds)->bindL kindOf binds m x=m x
 | [],_,_=>rfl
 | (n,v)::r,m,h=>by
  unfold bindL;rw [zie fun w hw=>h w (qm _ hw)];split
  ·have:x≠n:=by rintro rfl; exact h v qo
   simp [this]
  ·rfl
theorem zif{kindOf:Str->Option NameKind}{x:Str}:∀ {binds:List (Str×Value)} {m:Str->Option Value},(∀ v,(x,v)∉binds)->bindC kindOf binds m x=m x
 | [],_,_=>rfl
 | (n,v)::r,m,h=>by
  unfold bindC;rw [zif fun w hw=>h w (qm _ hw)];split
  ·rfl
  ·have:x≠n:=by rintro rfl; exact h v qo
   simp [this]
theorem zig{kindOf:Str->Option NameKind}{x:Str}{v:Value}:∀ {P:List Str} {vs:List Value} {i:Nat} {m:Str->Option Value},P.Nodup->P[i]?=some x->vs[i]?=some v->kindOf x=some .local ->
  bindL kindOf (P.zip vs) m x=some v
 | [],_,_,_,_,h,_,_=>by simp at h
 | _::_,[],_,_,_,_,h,_=>by simp at h
 | p::P,w::vs,0,m,nd,h1,h2,hk=>by
  simp at h1 h2; subst h1; subst h2;show bindL kindOf ((p,w)::P.zip vs) m p=_;unfold bindL;rw [zie fun v hv=>(List.nodup_cons.mp nd).1 (List.of_mem_zip hv).1,if_pos hk];simp
 | p::P,w::vs,i+1,m,nd,h1,h2,hk=>by
  show bindL kindOf ((p,w)::P.zip vs) m x=_;unfold bindL;exact zig (i:=i) (List.nodup_cons.mp nd).2 (by simpa using h1) (by simpa using h2) hk
theorem zih{kindOf:Str->Option NameKind}{x:Str}{v:Value}:∀ {P:List Str} {vs:List Value} {i:Nat} {m:Str->Option Value},P.Nodup->P[i]?=some x->vs[i]?=some v->kindOf x≠some .local ->
  bindC kindOf (P.zip vs) m x=some v
 | [],_,_,_,_,h,_,_=>by simp at h
 | _::_,[],_,_,_,_,h,_=>by simp at h
 | p::P,w::vs,0,m,nd,h1,h2,hk=>by
  simp at h1 h2; subst h1; subst h2;show bindC kindOf ((p,w)::P.zip vs) m p=_;unfold bindC;rw [zif fun v hv=>(List.nodup_cons.mp nd).1 (List.of_mem_zip hv).1,if_neg hk];simp
 | p::P,w::vs,i+1,m,nd,h1,h2,hk=>by
  show bindC kindOf ((p,w)::P.zip vs) m x=_;unfold bindC;exact zih (i:=i) (List.nodup_cons.mp nd).2 (by simpa using h1) (by simpa using h2) hk
def zbw(N:List Str)(vs:List V):St:=vs.map some++List.replicate (N.length - vs.length) none
def ziX(CX:CXT)(P:Program)(w:World)(K:qc)(mg:Str->Option Value)(base:Heap)(N:List Str)(qual:Str)(scope:Scope)(f:Addr)(cd:Value)(A:Around)(outer:List Env)(s:Shared)(H:Hp)(E:XK):Cx where
 prog:=P
 w:=w
 K:=K
 mg:=mg
 base:=base
 A:=A.deeper (envOfC qual scope s.heap.objs.size f cd)
 N:=N
 s₀:=s
 H₀:=H
 env:=envOfC qual scope s.heap.objs.size f cd
 outer:=outer
 stack:=envOfC qual scope s.heap.objs.size f cd::outer
 ex:=[]
 calm:=true
 fn:=fun _=>true
 pn:=[]
 xe:=fun e s'=>wpAny (model P w) (A.deeper (envOfC qual scope s.heap.objs.size f cd)) (leaving (envOfC qual scope s.heap.objs.size f cd) e) (fun _ s''=>CX outer H s E e s'') (fun e' s''=>CX outer H s E e' s'') s'
theorem zkc{sc:Scope}{n:Nat}{x:Str}(h:sc.names.lookup x=some .cell):∃ c,(cellsFrom n sc.names []).lookup x=some c:=by
 have q:=PySem.W.cellsFrom_some sc.names n [] (.inl h);exact Option.isSome_iff_exists.mp q
theorem zoE{CX:CXT}{P:Program}{w:World}{K:qc}{mg:Str->Option Value}{base:Heap}{N ps:List Str}{qual:Str}{scope:Scope}{f:Addr}{cd:Value}{A:Around}{outer:List Env}{s s1:Shared}{H:Hp}{E:XK}{us:List Value}{vs:List V}
  (S:FnScope N ps scope) (hd:A.handled=none) (e0:Env0 P w K mg base A outer s H) (hl:vs.length=ps.length) (r:zH vs us)
  (x:InCallC s s.heap.objs.size (bindL (envOfC qual scope s.heap.objs.size f cd).kindOf (ps.zip us) fun _=>none) (cellsFrom (s.heap.objs.size+1) scope.names []) (bindC (envOfC qual scope s.heap.objs.size f cd).kindOf (ps.zip us) fun _=>none) s1) :
  Inv (ziX CX P w K mg base N qual scope f cd A outer s H E) [] (zbw N vs) H s1:=by
 have hpl:ps.length<=N.length:=by have:=congrArg List.length S.pre; rw [List.length_take]at this; omega
 obtain⟨h1,tk,rfl,hk⟩:=x.done;have noA:∀ b:Addr,b∉(ziX CX P w K mg base N qual scope f cd A outer s H E).ex:=fun b z=>absurd (show b∈([]:List Addr) from z) (by simp);refine⟨⟨e0.mod,S.kind,rfl,rfl,qe _,fun y z c h1 h2=>?_,fun y hy=>?_,fun y c _ h=>?_,fun _=>hd,Around.frames_deeper e0.frames,.inr ⟨rfl,rfl⟩,fun b z=>absurd z (noA b),e0.bs,e0.bsz,fun b _ _=>noA b,fun b z=>absurd z (noA b),e0.funs,e0.frf⟩,
  rfl,e0.bare,Un.kept hk,⟨_,x.toInCall.ns,fun i y v h1 h2 h3=>?_⟩,fun y c h=>⟨_,x.cell y c h⟩,e0.hok.fresh (qe _),fun y c h=>?_,fun p hp=>absurd (show p∈([]:List (Addr×Obj)) from hp) (by simp),e0.hok.kept hk,?_⟩
 ·exact name_of_addr x.apart (PySem.mem_of_lookup h1) (PySem.mem_of_lookup h2)
 ·have hy:scope.names.lookup y=some .cell\/scope.names.lookup y=some .free:=hy
  rcases hy with hy | hy
  ·exact zkc hy
  ·exact absurd rfl (S.nofree _ (PySem.mem_of_lookup hy))
 ·exact Nat.le_of_lt (x.above y c (PySem.mem_of_lookup h))
 ·have hi:i < vs.length:=by
   unfold zbw at h2
   by_cases hi:i < vs.length
   ·exact hi
   ·rw [List.getElem?_append_right (by simpa using hi)]at h2
    rw [List.getElem?_replicate]at h2;split at h2<;>cases h2
  have ha:vs[i]?=some v:=by
   unfold zbw at h2;rw [List.getElem?_append_left (by simpa using hi),List.getElem?_map]at h2;cases e:vs[i]? with
   | none=>rw [e]at h2; cases h2
   | some a=>rw [e]at h2; cases h2; rfl
  obtain⟨u,hu,rv⟩:=r.get ha;have hp:ps[i]?=some y:=by
   rw [<-S.pre,List.getElem?_take_of_lt (by omega)]; exact h1
  have ndP:ps.Nodup:=by rw [<-S.pre]; exact S.nd.sublist (List.take_sublist _ _)
  refine⟨u,rv,?_⟩;rcases S.par y (List.mem_of_getElem? hp)with k | k
  ·exact .inl ⟨k,zig ndP hp hu k⟩
  ·obtain⟨c,e⟩:=zkc (n:=s.heap.objs.size+1) k
   refine .inr ⟨.inl k,c,e,?_⟩;have q:=x.cell y c e;rw [zih ndP hp hu (by show scope.names.lookup y≠_; rw [k]; decide)]at q;exact q
 ·exact e0.hok.fresh (Nat.le_of_lt (x.above y c (PySem.mem_of_lookup h)))
 ·unfold zbw
  show _=N.length;rw [qr,List.length_map,List.length_replicate];omega
theorem zyM{CX:CXT}{P:Program}{w:World}{K:qc}{mg:Str->Option Value}{base:Heap}{k:Nat}{f:Addr}{name qual:Str}{params:Arguments}{body:List Stmt}{scope:Scope}{dV kV doc pm cdv ct oc:Value}{an od:Option Addr}
  {osl:Array (Option Value)} {N ps:List Str} {sp:Sp} (lk:K.lookup f=some ⟨oc,od,.func (PySem.W.fnOf name qual params body scope dV kV doc pm an cdv ct),osl⟩) (hcd:PySem.W.codeIn K cdv qual=true) (S:FnScope N ps scope)
  (len:∀ vs H Q E,sp vs H Q E->vs.length=ps.length)
  (hbody:∀ (A:Around) (outer:List Env) (s:Shared) (H:Hp) (vs:List V) (Q:VK) (E:XK),Room k (A.deeper (envOfC qual scope s.heap.objs.size f cdv))->sp vs H Q E ->
   ∃ t,PSs (ziX CX P w K mg base N qual scope f cdv A outer s H E) body t/\t { nx:=fun _ H'=>Q .non H',rt:=Q } (zbw N vs) H) :
  FnOk P w K mg base CX (k+1) f (PySem.W.fnOf name qual params body scope dV kV doc pm an cdv ct) ps sp:=by
 refine⟨len,fun A outer s H args us vs Q E hr e0 hb r hsp=>?_⟩;have hl:=len _ _ _ _ hsp;have KX:K.In s.heap:=e0.mod.kin.keeps fun b o e=>(e0.bs b o e).1;have lim:s.heap.NoLimit:=e0.mod.nolimit.keeps fun b o e=>(e0.bs b o e).1;have hkind:∀ y∈ps.zip us,scope.names.lookup y.1=some .local\/(scope.names.lookup y.1=some .cell/\((cellsFrom (s.heap.objs.size+1) scope.names []).lookup y.1).isSome=true):=fun⟨n,v⟩ hy=>by
  rcases S.par n (List.of_mem_zip hy).1 with q | q
  ·exact .inl q
  ·exact .inr ⟨q,PySem.W.cellsFrom_some _ _ _ (.inl q)⟩
 refine codeAny_call_function hr.depth (KX _ _ lk) rfl S.co S.gen rfl (PySem.W.codeRec_of KX hcd) (hb _ _ _ _ ?_);refine wpAny_newFunctionEnv_cells S.kind hkind fun env he s1 x=>?_;subst he;refine⟨lim.keeps x.toInCall.keep,codeAny_func ?_⟩;obtain⟨t,ht,hq⟩:=hbody A outer s H vs Q E (hr.deeper _) hsp;have I:Inv (ziX CX P w K mg base N qual scope f cdv A outer s H E) [] (zbw N vs) H s1:=zoE S hr.hd e0 hl r x;refine wpAny_mono (ht [] s1 (zbw N vs) H _ I hq) (fun fl s' hs=>?_) fun e s' hs=>hs;have fin:∀ {σ':St} {H':Hp} {v:V} {u:Value},Inv (ziX CX P w K mg base N qual scope f cdv A outer s H E) [] σ' H' s'->zJ v u->Q v H'->CE outer P w K H s Q u s' :=
  fun{σ' H' v u} J rv q=>⟨v,H',J.os,J.bare,J.base,J.hok,rv,q⟩
 cases fl with
 | ret u =>
  obtain⟨v,σ',H',J,rv,q⟩:=hs;exact fin J rv q
 | next =>
  obtain⟨σ',H',J,q⟩:=hs;exact fin (v:=V.non) (u:=Value.none) J rfl q
 | brk =>
  obtain⟨_,_,_,q⟩:=hs;exact False.elim q
 | cont =>
  obtain⟨_,_,_,q⟩:=hs;exact False.elim q
section
variable {X:Cx} {x:Str} {p pos:Pos} {e:Expr} {es:List Expr} {t:TA} {id T:String} {r:List V->Hp->VK->Prop}
def tCB(r:List V->Hp->VK->Prop)(t:TA):TE:=fun σ H Q=>t σ H fun vs H1=>r vs H1 Q
theorem zpN(hc:zaN X (.builtin id) r)(hg:Gl X x)(hm:X.mg x=none)(hv:bootBuiltins x=some (.builtin id))(ha:PA X (e::es) t)(hn:x ≠ "__name__":=by decide)(hdb:(x==("__debug__":Str))=false:=by decide)
  (he:starEach (e::es) X.env=(false,eval e X.env)::starEach es X.env:=by rfl) (hpl:(backTo pos (starEach es X.env)).any (·.1)=false:=by rfl):PE X (.Call (.Name x p) (e::es) [] pos) (tCB r t):=by
 intro pins s σ H Q I h;refine wpAny_Call_Name_kw (zfP I hg hm hv ?_ hn hdb);exact PyProof.Rows.callWith_builtin1 (thn (ha pos pins s σ H _ I h) fun us s1 ⟨vs,H1,I1,r1,q1⟩=>hc pins s1 σ H1 vs us Q I1 r1 q1) he hpl
theorem zoF(hc:zaN X (.type T) r)(hg:Gl X x)(hm:X.mg x=none)(hv:bootBuiltins x=some (.type T))(ha:PA X (e::es) t)(hn:x ≠ "__name__":=by decide)(hdb:(x==("__debug__":Str))=false:=by decide)
  (he:starEach (e::es) X.env=(false,eval e X.env)::starEach es X.env:=by rfl) (hpl:(backTo pos (starEach es X.env)).any (·.1)=false:=by rfl):PE X (.Call (.Name x p) (e::es) [] pos) (tCB r t):=by
 intro pins s σ H Q I h;refine wpAny_Call_Name_kw (zfP I hg hm hv ?_ hn hdb);exact PyProof.Rows.callWith_type1 (thn (ha pos pins s σ H _ I h) fun us s1 ⟨vs,H1,I1,r1,q1⟩=>hc pins s1 σ H1 vs us Q I1 r1 q1) he hpl
end
end L2
namespace HT
open PySem PyProof.Rows
section
open PySem.SeqAt
open PySem.AutoSeq1 (wpAny_loadPart')
open PySem.MeetsSeq PySem.MeetsSeq2 PySem.MeetsSeq3
end
section
variable {prog:Program} {w:World} {A:Around} {E:Value->Shared->Prop} {s:Shared}
theorem cat_tup{t b:Addr}{vs ws:List Value}{Q:Value->Shared->Prop}(ht:IsTup s.heap t vs.toArray)(hb:IsTup s.heap b ws.toArray)(hv:vs≠[])
  (h1:ws=[]->Q (.ref t) s) (h2:ws≠[]->Q (.ref s.heap.objs.size) { s with heap:=s.heap.push { cls:=.type "tuple",data:=.seq (vs++ws).toArray } })
  (hsz:vs.length+ws.length<=sizeLine):wpAny (model prog w) A (binaryOp .Add (.ref t) (.ref b)) Q E s:=by
 obtain⟨⟨cls,dd,data,sl⟩,ho,hc,n,hd⟩:=id ht;obtain⟨⟨cls2,dd2,data2,sl2⟩,ho2,hc2,n2,hd2⟩:=id hb;simp only at hc hd hc2 hd2;subst hc hd hc2 hd2;have e:vs.toArray++ws.toArray=(vs++ws).toArray:=by simp
 by_cases hw:ws=[]
 ·exact concat_meets ⟨_,ho,rfl⟩ ⟨_,ho2,rfl⟩ noFill_tuple_add seq_tuple_add PySem.F.slot_tuple_add PySem.F.entry_tuple_add (PySem.F.args_tuple_add_2 _ _)
   (tuple_addW1 t b vs.toArray ws.toArray n n2 dd dd2 sl sl2 (by simpa using hv) (by simp [hw])) ⟨ho,ho2,h1 hw⟩
 ·refine concat_meets ⟨_,ho,rfl⟩ ⟨_,ho2,rfl⟩ noFill_tuple_add seq_tuple_add PySem.F.slot_tuple_add PySem.F.entry_tuple_add (PySem.F.args_tuple_add_2 _ _)
   (tuple_addW2 t b vs.toArray ws.toArray n n2 dd dd2 sl sl2 (by simpa using hv) (by simpa using hw) (by rw [List.size_toArray,List.size_toArray]; exact hsz)) ⟨ho,ho2,?_⟩
  rw [e];exact h2 hw
def sIx(n d:Nat):Option Int->Nat
 | none=>d
 | some v=>if v < 0 then(v+(n:Int)).toNat else min v.toNat n
end
end HT
namespace L2
open PySem PySem.Spec PyProof.Rows
abbrev TO:=St->Hp->(Option Int->Hp->Prop)->Prop
def PO(X:Cx)(e:Option Expr)(t:TO):Prop :=
 ∀ (pins:List (Addr×Obj)) (s:Shared) (σ:St) (H:Hp) (Q:Option Int->Hp->Prop),Inv X pins σ H s->t σ H Q ->
  wpAny (model X.prog X.w) X.A (evalPart e X.env) (fun u s'=>∃ o H',Inv X pins σ H' s'/\IsPart u o/\Q o H') X.xe s
def ziY:TO:=fun _ H Q=>Q none H
def zpO(t:TE):TO:=fun σ H Q=>t σ H fun x H1=>∃ i,x=.int i/\Q (some i) H1
theorem zgS{ns:List Int}:∀ {us:List Value},zH (ns.map V.int) us->IntsAre us ns:=by
 induction ns with
 | nil=>intro us r; rw [List.map_nil]at r; cases r; exact .nil
 | cons n ns ih =>
  intro us r;rw [List.map_cons]at r;cases r with
  | cons r1 r2 =>
   obtain⟨t,e⟩:=r1;subst e;exact .cons n t (ih r2)
section
variable {X:Cx} {e:Expr} {te:TE} {lo hi:Option Expr} {tl th:TO} {pos p2:Pos}
theorem ztk:PO X none ziY:=by
 intro pins s σ H Q I h;rw [evalPart_none];exact qb ⟨none,H,I,.none,h⟩
theorem ztl(h:PE X e te):PO X (some e) (zpO te):=by
 intro pins s σ H Q I hw;rw [evalPart_some];refine thn (h pins s σ H _ I hw) fun u s1 ⟨x,H1,I1,r1,q1⟩=>?_;obtain⟨i,rfl,q⟩:=q1;obtain⟨t,rfl⟩:=r1;exact⟨some i,H1,I1,.int i t,q⟩
def SlR(X:Cx)(r:V->Option Int->Option Int->Hp->VK->Prop):Prop :=
 ∀ (pins:List (Addr×Obj)) (s:Shared) (σ:St) (H:Hp) (x:V) (v vl vu:Value) (lo hi:Option Int) (sl:Addr) (Q:VK),Inv X pins σ H s->zJ x v->s.heap.IsSliceOf sl vl vu .none->IsPart vl lo->IsPart vu hi->r x lo hi H Q ->
  ∃ T id,typeLookup (.type T) "__getitem__"=pure (some (.builtin id))/\s.TypeIs v T/\wpAny (model X.prog X.w) X.A (getItem v (.ref sl)) (EP X pins σ Q) X.xe s
def tSl(r:V->Option Int->Option Int->Hp->VK->Prop)(te:TE)(tl th:TO):TE:=fun σ H Q=>te σ H fun x H1=>tl σ H1 fun l H2=>th σ H2 fun u H3=>r x l u H3 Q
theorem zpP{r:V->Option Int->Option Int->Hp->VK->Prop}(hr:SlR X r)(he:PE X e te)(hl:PO X lo tl)(hu:PO X hi th):PE X (.Subscript e (.Slice lo hi none p2) pos) (tSl r te tl th):=by
 intro pins s σ H Q I h;refine Subscript_ (thn (he pins s σ H _ I h) fun v s1 ⟨x,H1,I1,r1,q1⟩=>?_);refine wpAny_Slice (thn (hl pins s1 σ H1 _ I1 q1) fun vl s2 ⟨l,H2,I2,pl,q2⟩=>thn (hu pins s2 σ H2 _ I2 q2) fun vu s3 ⟨u,H3,I3,pu,q3⟩=>?_);rw [evalPart_none];refine qb ?_;have I4:Inv X pins σ H3 { s3 with heap:=s3.heap.push { cls:=.type "slice",data:=.fields #[vl,vu,.none] } }:=I3.kept (t':=s3.toks) fun b ob q=>qd _ q;obtain⟨T,id,hT,ht,hg⟩:=hr pins { s3 with heap:=s3.heap.push { cls:=.type "slice",data:=.fields #[vl,vu,.none] } } σ H3 x v vl vu l u s3.heap.objs.size Q I4 r1 (Heap.IsSliceOf.new ..) pl pu q3;show wpAny (model X.prog X.w) X.A (subscriptTail e (.Slice lo hi none p2) v (.ref s3.heap.objs.size)) (EP X pins σ Q) X.xe { s3 with heap:=s3.heap.push { cls:=.type "slice",data:=.fields #[vl,vu,.none] } };exact tail_any (ops:=[.ref s3.heap.objs.size,v]) ht hT hg (by with_unfolding_all rfl)
def zkd(xs:List V)(lo hi:Option Int):List V:=(xs.drop (HT.sIx xs.length 0 lo)).take (HT.sIx xs.length xs.length hi - HT.sIx xs.length 0 lo)
theorem zke(xs:List V)(lo hi:Option Int):(zkd xs lo hi).length<=xs.length:=by
 unfold zkd;rw [List.length_take,List.length_drop];omega
def zpQ(K:qc):R2:=fun x y H Q=>∃ a b xs ys,x=.ref a/\y=.ref b/\SqT K H a xs/\SqT K H b ys/\xs≠[]/\xs.length+ys.length<=sizeLine /\
 (ys=[]->Q (.ref a) H)/\(ys≠[]->∀ p,H p=none->Q (.ref p) (upd H p (.tup (xs++ys))))
theorem zH.nil_iff{xs:List V}{us:List Value}(r:zH xs us):us=[]↔xs=[]:=by
 cases r with
 | nil=>simp
 | cons _ _=>simp
theorem ztm:OpR X (binaryOp .Add) (zpQ X.K):=by
 intro pins s σ H x y v u Q I rx ry h;obtain⟨a,b,xs,ys,rfl,rfl,ha,hb,hx,hz,q1,q2⟩:=h;cases rx;cases ry;obtain⟨its,r1,p1,_⟩:=I.tuple ha;obtain⟨its2,r2,p2,_⟩:=I.tuple hb;refine HT.cat_tup p1 p2 (fun z=>hx (r1.nil_iff.mp z)) (fun z=>⟨.ref a,H,I,rfl,q1 (r2.nil_iff.mp z)⟩) (fun z=>?_) (by rw [<-r1.length,<-r2.length]; exact hz);refine⟨.ref s.heap.objs.size,_,I.laid (t':=s.toks) (o:=.tup (xs++ys)) (fun b ob q=>qd _ q) (qe _) ?_,rfl,q2 (fun w=>z (r2.nil_iff.mpr w)) _ (I.hok.fresh (qe _))⟩;exact⟨by rw [qr]; exact hz,_,r1.append r2,zdb.new _ _⟩
end
def ixN(n:Nat)(i:Int):Option Nat:=if 0<=i then(if i < n then some i.toNat else none)else if -(n:Int)<=i then some (i+n).toNat else none
def atI{α:Type}(xs:List α)(i:Int):Option α:=(ixN xs.length i).bind fun j=>xs[j]?
theorem zmV{n:Nat}{i:Int}{j:Nat}(h:ixN n i=some j):seqIndex? i n=some j/\j < n/\-(n:Int)<=i/\i < n:=by
 unfold ixN at h
 by_cases h0:0<=i
 ·rw [if_pos h0]at h
  by_cases h1:i < n
  ·rw [if_pos h1]at h
   have e:i.toNat=j:=qw h;exact⟨by rw [seqIndex_of h0 h1,e],by omega,by omega,h1⟩
  ·rw [if_neg h1]at h; cases h
 ·rw [if_neg h0]at h
  by_cases h1:-(n:Int)<=i
  ·rw [if_pos h1]at h
   have e:(i+n).toNat=j:=qw h;exact⟨by rw [seqIndex_neg (by omega) h1,e],by omega,h1,by omega⟩
  ·rw [if_neg h1]at h; cases h
theorem ziZ{α:Type}{xs:List α}{i:Int}{v:α}(h:atI xs i=some v):∃ j,seqIndex? i xs.length=some j/\xs[j]?=some v/\j < xs.length/\-(xs.length:Int)<=i/\i < xs.length:=by
 unfold atI at h;cases e:ixN xs.length i with
 | none=>rw [e]at h; cases h
 | some j =>
  rw [e]at h;obtain⟨h1,h2,h3,h4⟩:=zmV e;exact⟨j,h1,h,h2,h3,h4⟩
theorem zd0{α:Type}{xs:List α}{j:Nat}{v:α}(h:xs[j]?=some v):atI xs (j:Int)=some v:=by
 have hj:j < xs.length:=(qk.mp h).1;have e:ixN xs.length (j:Int)=some j:=by
  unfold ixN;rw [if_pos (by omega),if_pos (by omega)]; simp
 unfold atI; rw [e]; exact h
def zmW(b:Expr):Prop:=∀ o i,subscripted b false o i=operate [o,i] (getItem o i)
def IxR(X:Cx)(r:R2):Prop :=
 ∀ (value slice:Expr) (pins:List (Addr×Obj)) (s:Shared) (σ:St) (H:Hp) (x y:V) (v u:Value) (Q:VK),Inv X pins σ H s->zJ x v->zJ y u->r x y H Q ->
  subscripted slice false v u=operate [v,u] (getItem v u)->wpAny (model X.prog X.w) X.A (subscriptTail value slice v u) (EP X pins σ Q) X.xe s
def MtR(X:Cx)(id:String)(r:V->List V->Hp->VK->Prop):Prop :=
 ∀ (pins:List (Addr×Obj)) (s:Shared) (σ:St) (H:Hp) (x:V) (xs:List V) (v:Value) (us:List Value) (Q:VK),Inv X pins σ H s->zJ x v->zH xs us->r x xs H Q ->
  wpAny (model X.prog X.w) X.A (call (.builtin id) (v::us)) (EP X pins σ Q) X.xe s
section
variable {X:Cx} {a b:Expr} {ta tb:TE} {pos:Pos}
theorem zyN{r:R2}(hr:IxR X r)(ha:PE X a ta)(hb:PE X b tb)(hs:zmW b):PE X (.Subscript a b pos) (tOp r ta tb):=by
 intro pins s σ H Q I h;exact Subscript_ (zwL ha hb I h fun v u s2 x y H2 I2 rx ry q=>hr a b pins s2 σ H2 x y v u Q I2 rx ry q (hs _ _))
def ztn(K:qc):R2:=fun x y H Q=>∃ p xs i v,x=.ref p/\y=.int i/\SqL K H p xs/\atI xs i=some v/\Q v H
def zto(K:qc):R2:=fun x y H Q=>∃ p xs i v,x=.ref p/\y=.int i/\SqT K H p xs/\atI xs i=some v/\Q v H
def zyO:R2:=fun x y H Q=>∃ z i c,x=.str z/\y=.int i/\z.length<=sizeLine/\atI z.cps.toList i=some c/\Q (.str ⟨#[c]⟩) H
theorem ztp:IxR X (ztn X.K):=by
 intro value slice pins s σ H x y v u Q I rx ry h hs;obtain⟨p,xs,i,z,rfl,rfl,hq,he,q⟩:=h;cases rx;obtain⟨t,rfl⟩:=ry;obtain⟨its,r,pl,hz⟩:=I.list hq;obtain⟨j,h1,h2,h3,h4,h5⟩:=ziZ he;obtain⟨w,ew,rw'⟩:=r.get h2;have hl:=r.length;have hn:=zfR;have fin:EP X pins σ Q w s:=⟨z,H,I,rw',q⟩
 by_cases h0:0<=i
 ·have hj:i.toNat=j:=by
   rw [seqIndex_of h0 h5]at h1;exact qw h1
  exact item_listR pl.isList h0 (by omega) (by rw [hj]; simpa using ew) fin hs
 ·have hj:(i+(its.toArray.size:Int)).toNat=j:=by
   rw [seqIndex_neg (by omega) h4]at h1;rw [List.size_toArray,<-hl];exact qw h1
  exact subscriptTail_builtinR (x:=w) pl.isList.typeIs slot_list_getitem.lookup
   (wpAny_getItem_list_neg (Q:=fun r s'=>r=w/\EP X pins σ Q r s') pl.isList (by omega) (by rw [List.size_toArray]<;>omega) (by omega) (by rw [hj]; simpa using ew) ⟨rfl,fin⟩) hs
theorem zwZ:IxR X (zto X.K):=by
 intro value slice pins s σ H x y v u Q I rx ry h hs;obtain⟨p,xs,i,z,rfl,rfl,hq,he,q⟩:=h;cases rx;obtain⟨t,rfl⟩:=ry;obtain⟨its,r,pl,hz⟩:=I.tuple hq;obtain⟨j,h1,h2,h3,h4,h5⟩:=ziZ he;obtain⟨w,ew,rw'⟩:=r.get h2;have hl:=r.length;have hn:=zfR;have fin:EP X pins σ Q w s:=⟨z,H,I,rw',q⟩;exact subscriptTail_builtinR (x:=w) pl.typeIs slot_tuple_getitem.lookup
  (getItem_tuple (j:=j) (Q:=fun r s'=>r=w/\EP X pins σ Q r s') pl (by omega) (by omega) (by rw [List.size_toArray,<-hl]; exact h1) (by simpa using ew) ⟨rfl,fin⟩) hs
theorem zlM:IxR X zyO:=by
 intro value slice pins s σ H x y v u Q I rx ry h hs;obtain⟨z,i,c,rfl,rfl,hz,he,q⟩:=h;obtain⟨t,rfl⟩:=rx;obtain⟨t',rfl⟩:=ry;obtain⟨j,h1,h2,h3,h4,h5⟩:=ziZ he;have hl:z.cps.toList.length=z.length:=by simp [Str.length]
 rw [hl]at h1 h4 h5;have hn:=zfR;exact tail_any (typeIs_str s z t) slot_str_getitem.lookup (getItem_str (c:=c) (by
  have e1:decide (i < -(2^63:Int))=false:=decide_eq_false (by omega);have e2:decide (i>=2^63)=false:=decide_eq_false (by omega);rw [e1,e2,Bool.or_false]) (by rw [h1]; simpa using h2) ⟨.str ⟨#[c]⟩,H,I.tok _,⟨_,rfl⟩,q⟩) hs
theorem zlN(its:List Value)(n j:Nat)(u:Value):Obj.mapSeq (·.setIfInBounds j u) { cls:=.type "list",data:=.seq its.toArray n }={ cls:=.type "list",data:=.seq (its.set j u).toArray n }:=by
 simp [Obj.mapSeq]
theorem Inv.lst{pins:List (Addr×Obj)}{σ:St}{H:Hp}{s:Shared}{p:Addr}{xs:List V}(I:Inv X pins σ H s)(h:H p=some (.lst xs)) :
  ∃ (its:List Value) (n:Nat),zH xs its/\s.heap.get? p=some { cls:=.type "list",data:=.seq its.toArray n }/\xs.length<=sizeLine:=by
 obtain⟨z,its,n,r,e⟩:=I.hok p _ h;exact⟨its,n,r,e,z⟩
theorem Inv.lstUpd{pins:List (Addr×Obj)}{σ:St}{H:Hp}{s:Shared}{p:Addr}{xs ys:List V}{its its':List Value}{n n':Nat}{f:Obj->Obj}(I:Inv X pins σ H s)(h:H p=some (.lst xs))
  (ho:s.heap.get? p=some { cls:=.type "list",data:=.seq its.toArray n }) (hf:f { cls:=.type "list",data:=.seq its.toArray n }={ cls:=.type "list",data:=.seq its'.toArray n' }) (r:zH ys its') (hz:ys.length<=sizeLine) (t:Nat) :
  Inv X pins σ (upd H p (.lst ys)) { s with heap:=s.heap.update p f,toks:=t }:=by
 have e:(s.heap.update p f).get? p=some { cls:=.type "list",data:=.seq its'.toArray n' }:=by
  rw [Heap.get?_update_self f ho (by rw [hf]<;>rfl),hf]
 refine I.write (x:=p) (e:=p) (by rw [h]; trivial) (.inl rfl) (fun b u hb q=>(Heap.get?_update_other _ _ (Ne.symm hb)).trans q) ⟨_,e⟩ ?_;exact⟨hz,its',n',r,e⟩
def zu1:V->V->V->Hp->(Hp->Prop)->Prop:=fun o i v H Q=>∃ p xs k j,o=.ref p/\i=.int k/\H p=some (.lst xs)/\ixN xs.length k=some j/\Q (upd H p (.lst (xs.set j v)))
theorem zbk:zwz X zu1:=by
 intro pins s σ H o i v ov iv u Q I ro ri rv h;obtain⟨p,xs,k,j,rfl,rfl,hp,hj,q⟩:=h;cases ro;obtain⟨t,rfl⟩:=ri;obtain⟨its,n,r,ho,hz⟩:=I.lst hp;obtain⟨h1,h2,h3,h4⟩:=zmV hj;have hl:=r.length;have hn:=zfR;have I':Inv X pins σ (upd H p (.lst (xs.set j v))) { s with heap:=s.heap.update p (Obj.mapSeq (·.setIfInBounds j u)) } :=
  I.lstUpd hp ho (zlN its n j u) (r.set rv j) (by rw [List.length_set]; exact hz) s.toks
 by_cases h0:0<=k
 ·have hk:k.toNat=j:=by
   rw [seqIndex_of h0 h4]at h1;exact qw h1
  exact PySem.W.ki_setAt ho h0 (by omega) (by rw [List.size_toArray,<-hl]; exact h4) (by rw [hk]; exact⟨_,I',q⟩)
 ·have hk:(k+(its.toArray.size:Int)).toNat=j:=by
   rw [seqIndex_neg (by omega) h3]at h1;rw [List.size_toArray,<-hl];exact qw h1
  exact PySem.W.ki_setBack ho (by omega) (by rw [List.size_toArray,<-hl]; exact h3) (by omega) (by rw [hk]; exact⟨_,I',q⟩)
theorem zi0(lo hi:Option Int)(n:Nat):(sliceBounds lo hi none n).1=((HT.sIx n 0 lo:Nat):Int)/\(sliceBounds lo hi none n).2.1=((HT.sIx n n hi:Nat):Int)/\(sliceBounds lo hi none n).2.2=1:=by
 refine⟨?_,?_,rfl⟩
 ·cases lo with
  | none=>simp [sliceBounds,HT.sIx]
  | some i =>
   simp only [sliceBounds,HT.sIx,Option.getD_none,show(1:Int) > 0 by decide,if_true]
   by_cases h:i < 0
   ·simp only [h,if_true]<;>omega
   ·simp only [h,if_false]<;>omega
 ·cases hi with
  | none=>simp [sliceBounds,HT.sIx]
  | some i =>
   simp only [sliceBounds,HT.sIx,Option.getD_none,show(1:Int) > 0 by decide,if_true]
   by_cases h:i < 0
   ·simp only [h,if_true]<;>omega
   ·simp only [h,if_false]<;>omega
theorem zhQ(its:List Value)(lo hi:Option Int):slicePick its.toArray lo hi none=((its.drop (HT.sIx its.length 0 lo)).take (HT.sIx its.length its.length hi - HT.sIx its.length 0 lo)).toArray:=by
 obtain⟨h1,h2,h3⟩:=zi0 lo hi its.toArray.size;unfold slicePick;rw [h1,h2,h3];simp only [sliceRange_one,pick_run,List.size_toArray]<;>rfl
def zw0(K:qc):V->Option Int->Option Int->Hp->VK->Prop:=fun x lo hi H Q=>∃ a xs,x=.ref a/\SqL K H a xs/\∀ p,H p=none->Q (.ref p) (upd H p (.lst (zkd xs lo hi)))
theorem ztq:SlR X (zw0 X.K):=by
 intro pins s σ H x v vl vu lo hi sl Q I rx hs pl pu h;obtain⟨a,xs,rfl,hx,q⟩:=h;cases rx;obtain⟨its,r,ht,hz⟩:=I.list hx;have hlen:=r.length;refine⟨"list",_,slot_list_getitem.lookup,ht.isList.typeIs,?_⟩;refine wpAny_getItem_list_slice ht.isList hs pl pu .none (by simp) ?_ (by rw [List.size_toArray]<;>omega);rw [zhQ,<-hlen];refine⟨.ref s.heap.objs.size,_,I.laid (t':=s.toks) (o:=.lst (zkd xs lo hi)) (fun b ob q=>qd _ q) (qe _) ?_,rfl,q _ (I.hok.fresh (qe _))⟩;exact⟨qx (zke xs lo hi) hz,_,0,(r.drop (HT.sIx xs.length 0 lo)).take (HT.sIx xs.length xs.length hi - HT.sIx xs.length 0 lo),qg _ rfl⟩
def zek:V->Bool
 | .non=>true
 | .bl _=>true
 | .int _=>true
 | .str _=>true
 | _=>false
def eqV:V->V->Bool
 | .non,.non=>true
 | .bl a,.bl b=>a==b
 | .bl a,.int b=>(if a then 1 else 0)==b
 | .int a,.bl b=>a==(if b then 1 else 0)
 | .int a,.int b=>a==b
 | .str a,.str b=>a==b
 | _,_=>false
theorem zw1{A:Around}{s:Shared}{y x:V}{u v:Value}(ry:zJ y u)(rx:zJ x v)(fy:zek y=true)(fx:zek x=true):SeqAt.EqAt A s u v (eqV y x):=by
 cases y with
 | non =>
  cases ry;cases x with
  | non=>cases rx; exact SeqAt.EqAt.same _
  | bl b=>cases rx; exact SeqAt.EqAt.none_bool b
  | int b=>obtain⟨t,rfl⟩:=rx; exact SeqAt.EqAt.none_int b t
  | str b=>obtain⟨t,rfl⟩:=rx; exact SeqAt.EqAt.none_str b t
  | _=>exact absurd (show false=true from fx) qf
 | bl a =>
  cases ry;cases x with
  | non=>cases rx; exact SeqAt.EqAt.bool_none a
  | bl b=>cases rx; exact SeqAt.EqAt.bool_bool a b
  | int b=>obtain⟨t,rfl⟩:=rx; exact SeqAt.EqAt.bool_int a b t
  | str b=>obtain⟨t,rfl⟩:=rx; exact SeqAt.EqAt.bool_str a b t
  | _=>exact absurd (show false=true from fx) qf
 | int a =>
  obtain⟨t',rfl⟩:=ry;cases x with
  | non=>cases rx; exact SeqAt.EqAt.int_none a t'
  | bl b=>cases rx; exact SeqAt.EqAt.int_bool a t' b
  | int b=>obtain⟨t,rfl⟩:=rx; exact SeqAt.EqAt.int_int a t' b t
  | str b=>obtain⟨t,rfl⟩:=rx; exact SeqAt.EqAt.int_str a t' b t
  | _=>exact absurd (show false=true from fx) qf
 | str a =>
  obtain⟨t',rfl⟩:=ry;cases x with
  | non=>cases rx; exact SeqAt.EqAt.str_none a t'
  | bl b=>cases rx; exact SeqAt.EqAt.str_bool a t' b
  | int b=>obtain⟨t,rfl⟩:=rx; exact SeqAt.EqAt.str_int a t' b t
  | str b=>obtain⟨t,rfl⟩:=rx; exact SeqAt.EqAt.str_str a t' b t
  | _=>exact absurd (show false=true from fx) qf
 | _=>exact absurd (show false=true from fy) qf
def eqU(x:V)(u:Value):Bool:=match u with
 | .none=>eqV .non x
 | .bool b=>eqV (.bl b) x
 | .int i _=>eqV (.int i) x
 | .str z _=>eqV (.str z) x
 | _=>false
theorem zpR{x y:V}{u:Value}(r:zJ y u)(f:zek y=true):eqU x u=eqV y x:=by
 cases y with
 | non=>cases r; rfl
 | bl b=>cases r; rfl
 | int i=>obtain⟨t,rfl⟩:=r; rfl
 | str z=>obtain⟨t,rfl⟩:=r; rfl
 | _=>exact absurd (show false=true from f) qf
theorem ze8{x:V}:∀ {xs:List V} {us:List Value},zH xs us->xs.all zek=true->us.any (eqU x)=xs.any fun y=>eqV y x
 | _,_,.nil,_=>rfl
 | y::xs,u::us,.cons r t,f=>by
  rw [List.all_cons,Bool.and_eq_true]at f;rw [List.any_cons,List.any_cons,zpR r f.1,ze8 t f.2]
theorem zds{A:Around}{s:Shared}{x:V}{v:Value}(rx:zJ x v)(fx:zek x=true):∀ {xs:List V} {us:List Value},zH xs us->xs.all zek=true->∀ u∈us,SeqAt.EqAt A s u v (eqU x u)
 | _,_,.nil,_=>fun u hu=>by cases hu
 | y::xs,u::us,.cons r t,f=>fun u' hu=>by
  rw [List.all_cons,Bool.and_eq_true]at f;rcases qu.mp hu with rfl | hu
  ·rw [zpR r f.1]; exact zw1 r rx f.1 fx
  ·exact zds rx fx t f.2 u' hu
def inV(x:V)(xs:List V):Bool:=xs.any fun y=>eqV y x
def rIn(K:qc)(neg:Bool):R2:=fun x y H Q=>∃ p xs,y=.ref p/\(SqL K H p xs\/SqT K H p xs)/\zek x=true/\xs.all zek=true/\Q (.bl (if neg then !inV x xs else inV x xs)) H
theorem zoG:OpR X (compareOp .In) (rIn X.K false):=by
 intro pins s σ H x y v u Q I rx ry h;obtain⟨p,xs,rfl,hq,fx,fs,q⟩:=h;cases ry;rcases hq with hq | hq
 ·obtain⟨its,r,pl,hz⟩:=I.list hq
  refine SeqAt.in_listAt (eqU x) pl.isList (fun w hw=>zds rx fx r fs w (by simpa using hw)) ⟨.bl _,H,I,rfl,?_⟩;rw [show its.toArray.any (eqU x)=its.any (eqU x) by simp,ze8 r fs];exact q
 ·obtain⟨its,r,pl,hz⟩:=I.tuple hq
  refine SeqAt.in_tupleAt (eqU x) pl (fun w hw=>zds rx fx r fs w (by simpa using hw)) ⟨.bl _,H,I,rfl,?_⟩;rw [show its.toArray.any (eqU x)=its.any (eqU x) by simp,ze8 r fs];exact q
theorem zi1:OpR X (compareOp .NotIn) (rIn X.K true):=by
 intro pins s σ H x y v u Q I rx ry h;obtain⟨p,xs,rfl,hq,fx,fs,q⟩:=h;cases ry;rcases hq with hq | hq
 ·obtain⟨its,r,pl,hz⟩:=I.list hq
  refine SeqAt.notIn_listAt (eqU x) pl.isList (fun w hw=>zds rx fx r fs w (by simpa using hw)) ⟨.bl _,H,I,rfl,?_⟩;rw [show its.toArray.any (eqU x)=its.any (eqU x) by simp,ze8 r fs];exact q
 ·obtain⟨its,r,pl,hz⟩:=I.tuple hq
  refine SeqAt.notIn_tupleAt (eqU x) pl (fun w hw=>zds rx fx r fs w (by simpa using hw)) ⟨.bl _,H,I,rfl,?_⟩;rw [show its.toArray.any (eqU x)=its.any (eqU x) by simp,ze8 r fs];exact q
theorem zi2:zaN X (.builtin "len") (fun xs H Q=>∃ p ys,xs=[.ref p]/\(SqL X.K H p ys\/SqT X.K H p ys)/\Q (.int ys.length) H):=by
 intro pins s σ H xs us Q I r h;obtain⟨p,ys,rfl,hq,q⟩:=h;obtain⟨u,rfl,rx⟩:=zcd r;cases rx;have hn:=zfR;rcases hq with hq | hq
 ·obtain⟨its,r',pl,hz⟩:=I.list hq
  have hlen:=r'.length;exact Calls.call_len_list pl.isList (by simp only [List.size_toArray]<;>omega) ⟨.int ys.length,H,I.tok _,⟨s.toks+1,by rw [List.size_toArray,hlen]⟩,q⟩
 ·obtain⟨its,r',pl,hz⟩:=I.tuple hq
  have hlen:=r'.length;exact len_tuple pl (by simp only [List.size_toArray]<;>omega) ⟨.int ys.length,H,I.tok _,⟨s.toks+1,by rw [List.size_toArray,hlen]⟩,q⟩
theorem zi3:zaN X (.type "list") (fun xs H Q=>∃ p ys,xs=[.ref p]/\(SqL X.K H p ys\/SqT X.K H p ys)/\∀ l,H l=none->Q (.ref l) (upd H l (.lst ys))):=by
 intro pins s σ H xs us Q I r h;obtain⟨p,ys,rfl,hq,q⟩:=h;obtain⟨u,rfl,rx⟩:=zcd r;cases rx;have fin:∀ (its:List Value),zH ys its->ys.length<=sizeLine->∀ (h':Heap) (c':Nat),(∀ b o',s.heap.get? b=some o'->h'.get? b=some o') ->
   h'.get? s.heap.objs.size=some { cls:=.type "list",dict:=none,data:=.seq its.toArray c',slots:=#[] }->EP X pins σ Q (.ref s.heap.objs.size) { s with heap:=h' }:=fun its r' hz h' c' kp e =>
  ⟨.ref s.heap.objs.size,_,I.laid (t':=s.toks) kp (qe _) (show zX X.prog X.w X.K _ h' _ (.lst ys) from⟨hz,its,c',r',e⟩),rfl,q _ (I.hok.fresh (qe _))⟩
 rcases hq with hq | hq
 ·obtain⟨its,r',pl,hz⟩:=I.list hq
  have hlen:=r'.length;obtain⟨o,ho,hc,n,hd⟩:=pl.isList;exact call_list_seq p (.inl rfl) ho hc hd (fun h' c' kp e=>fin its r' hz h' c' kp e) (by simp only [List.size_toArray]<;>omega)
 ·obtain⟨its,r',pl,hz⟩:=I.tuple hq
  have hlen:=r'.length;obtain⟨o,ho,hc,n,hd⟩:=pl;exact call_list_seq p (.inr rfl) ho hc hd (fun h' c' kp e=>fin its r' hz h' c' kp e) (by simp only [List.size_toArray]<;>omega)
theorem zhR:zaN X (.type "tuple") (fun xs H Q=>∃ p ys,xs=[.ref p]/\((SqL X.K H p ys/\∀ l,H l=none->Q (.ref l) (upd H l (.tup ys)))\/(SqT X.K H p ys/\Q (.ref p) H))):=by
 intro pins s σ H xs us Q I r h;obtain⟨p,ys,rfl,h⟩:=h;obtain⟨u,rfl,rx⟩:=zcd r;cases rx;rcases h with ⟨hq,q⟩ | ⟨hq,q⟩
 ·obtain⟨its,r',pl,hz⟩:=I.list hq
  have hlen:=r'.length;refine call_tuple_list pl.isList (fun h' kp=>?_) (by simp only [List.size_toArray]<;>omega);have I1:Inv X pins σ H { s with heap:=h' }:=I.kept (t':=s.toks) kp;have I2:Inv X pins σ (upd H h'.objs.size (.tup ys)) { s with heap:=h'.push { cls:=.type "tuple",data:=.seq its.toArray } } :=
   I1.laid (t':=s.toks) (fun b o e=>qd _ e) (qe _) (show zX X.prog X.w X.K _ _ _ (.tup ys) from⟨hz,its,r',zdb.new _ _⟩)
  exact⟨.ref h'.objs.size,_,I2,rfl,q _ (I1.hok.fresh (qe _))⟩
 ·obtain⟨its,r',pl,hz⟩:=I.tuple hq
  exact call_tuple_same pl ⟨.ref p,H,I,rfl,q⟩
def tyV(K:qc)(T:String)(x:V)(H:Hp):Prop:=match x with
 | .str _=>T = "str"
 | .int _=>T = "int"
 | .ref p=>(T = "list"/\∃ xs,SqL K H p xs)\/(T = "tuple"/\∃ o,K.lookup p=some o/\o.cls=.type "tuple"/\o.dict=none) \/
   (T = "dict"/\((∃ kvs,H p=some (.dK kvs))\/∃ kvs,H p=some (.dT kvs)))\/(T = "set"/\∃ S n,H p=some (.set S n))
 | _=>False
theorem zpS{pins:List (Addr×Obj)}{σ:St}{H:Hp}{s:Shared}{T:String}{x:V}{v:Value}(I:Inv X pins σ H s)(r:zJ x v)(ty:tyV X.K T x H) :
  s.TypeIs v T/\∀ a,v=.ref a->∃ ob,s.heap.get? a=some ob/\ob.dict=none:=by
 cases x with
 | str z =>
  obtain⟨t,rfl⟩:=r;cases(show T = "str" from ty);exact⟨typeIs_str s z t,fun _ e=>nomatch e⟩
 | int i =>
  obtain⟨t,rfl⟩:=r;cases(show T = "int" from ty);exact⟨typeIs_int s i t,fun _ e=>nomatch e⟩
 | ref p =>
  cases r;rcases ty with ⟨rfl,xs,hq⟩ | ⟨rfl,o,hk,hc,hd⟩ | ⟨rfl,hk⟩ | ⟨rfl,S,n,hk⟩
  ·obtain⟨its,_,pl,_⟩:=I.list hq
   refine⟨pl.isList.typeIs,fun a e=>?_⟩;cases e;obtain⟨o,n,e,c,hd,_⟩:=pl;exact⟨o,e,hd⟩
  ·refine⟨⟨o,I.kIn p o hk,hc⟩,fun a e=>?_⟩
   cases e;exact⟨o,I.kIn _ o hk,hd⟩
  ·have z:∃ o,s.heap.get? p=some o/\o.ExactDict:=by
    rcases hk with ⟨kvs,hk⟩ | ⟨kvs,hk⟩
    ·obtain⟨_,_,_,_,o,_,_,e,ex,_⟩:=I.hok p _ hk
     exact⟨o,e,ex⟩
    ·obtain⟨_,_,_,_,o,_,_,e,ex,_⟩:=I.hok p _ hk
     exact⟨o,e,ex⟩
   obtain⟨o,e,ex⟩:=z;refine⟨⟨o,e,ex.1⟩,fun a e2=>?_⟩;cases e2;exact⟨o,e,ex.2.1⟩
  ·obtain⟨o,_,_,_,e,ex,_⟩:=I.hok p _ hk
   refine⟨⟨o,e,ex.1⟩,fun a e2=>?_⟩;cases e2;exact⟨o,e,ex.2.1⟩
 | _=>exact False.elim ty
def zw2(K:qc)(T:String)(r:V->List V->Hp->VK->Prop)(to:TE):TE:=fun σ H Q=>to σ H fun x H1=>tyV K T x H1/\r x [] H1 Q
def tBM(K:qc)(T:String)(r:V->List V->Hp->VK->Prop)(to:TE)(t:TA):TE:=fun σ H Q=>to σ H fun x H1=>tyV K T x H1/\t σ H1 fun xs H2=>r x xs H2 Q
variable {o e:Expr} {es:List Expr} {to:TE} {t:TA} {name:Str} {apos cpos:Pos} {T id:String} {r:V->List V->Hp->VK->Prop}
theorem zw3(pa:PlainAttrs T)(slot:Slot T name id)(hty:typeOf (.builtin id)=pure (.type "method_descriptor"))(hm:MtR X id r)(ho:PE X o to)
  (hbase:attributeBase o name X.env (eval o X.env)=eval o X.env:=by rfl) (hline:(apos.endLine==cpos.line)=true:=by rfl):PE X (.Call (.Attribute o name apos) [] [] cpos) (zw2 X.K T r to):=by
 intro pins s σ H Q I h;refine wpAny_Call_method0_late hbase hline (thn (ho pins s σ H _ I h) fun v s1 ⟨x,H1,I1,r1,ty,q1⟩=>?_);obtain⟨h1,h2⟩:=zpS I1 r1 ty;exact⟨T,id,pa,slot,hty,h1,h2,Calls.callWith_builtin rfl (PySem.evalArgs_none (hm pins s1 σ H1 x [] v [] Q I1 r1 .nil q1))⟩
theorem zyP(pa:PlainAttrs T)(slot:Slot T name id)(hty:typeOf (.builtin id)=pure (.type "method_descriptor"))(hm:MtR X id r)(ho:PE X o to)(ha:PA X (e::es) t)
  (hbase:attributeBase o name X.env (eval o X.env)=eval o X.env:=by rfl)
  (hfew:((backTo cpos (starEach (e::es) X.env)).all (fun x=>!x.1) && (backToKw cpos (keywordEach [] X.env)).all (fun x=>x.1.isSome)
   && decide ((e::es).length+([]:List Keyword).length+(if([]:List Keyword).isEmpty then 0 else 1) < 30))=true:=by rfl)
  (hline:(apos.endLine==cpos.line)=true:=by rfl) (hs:starEach (e::es) X.env=(false,eval e X.env)::starEach es X.env:=by rfl) (hplain:(backTo cpos (starEach es X.env)).any (·.1)=false:=by rfl) :
  PE X (.Call (.Attribute o name apos) (e::es) [] cpos) (tBM X.K T r to t):=by
 intro pins s σ H Q I h;refine wpAny_Call_method_late hbase hfew hline rfl (thn (ho pins s σ H _ I h) fun v s1 ⟨x,H1,I1,r1,ty,q1⟩=>?_);obtain⟨h1,h2⟩:=zpS I1 r1 ty;refine⟨T,id,pa,slot,hty,h1,h2,?_⟩;have hA:=ha cpos pins s1 σ H1 _ I1 q1;rw [hs]at hA ⊢;refine Calls.callWith_builtin (by show(false || (backTo cpos (starEach es X.env)).any (·.1))=false; rw [hplain]<;>rfl) (Calls.evalArgs_plain ?_);exact thn hA fun us s2 ⟨vs,H2,I2,r2,q2⟩=>hm pins s2 σ H2 x vs v us Q I2 r1 r2 q2
end
def MtM(X:Cx)(id:String)(r:V->List V->Hp->VK->Prop):Prop :=
 ∀ (pins:List (Addr×Obj)) (s:Shared) (σ:St) (H:Hp) (x:V) (xs:List V) (v:Value) (us:List Value) (Q:VK),Inv X pins σ H s->zJ x v->zH xs us->r x xs H Q ->
  wpAny (model X.prog X.w) X.A (call (.builtin id) (v::us)) (EP X pins σ Q) X.xe s
theorem zH.one:∀ {x:V} {us:List Value},zH [x] us->∃ u,us=[u]/\zJ x u
 | _,_,.cons r .nil=>⟨_,rfl,r⟩
theorem zH.two:∀ {x y:V} {us:List Value},zH [x,y] us->∃ u v,us=[u,v]/\zJ x u/\zJ y v
 | _,_,_,.cons r (.cons q .nil)=>⟨_,_,rfl,r,q⟩
theorem zH.reverse{xs:List V}{us:List Value}(h:zH xs us):zH xs.reverse us.reverse:=by
 induction h with
 | nil=>exact .nil
 | cons r t ih=>rw [List.reverse_cons,List.reverse_cons]; exact zH.append ih (.cons r .nil)
theorem zH.rep{xs:List V}{us:List Value}(h:zH xs us):∀ k:Nat,zH (List.replicate k xs).flatten (List.replicate k us).flatten
 | 0=>.nil
 | k+1=>by
  rw [List.replicate_succ,List.replicate_succ,List.flatten_cons,List.flatten_cons];exact zH.append h (zH.rep h k)
theorem zfU(its:List Value):∀ (k:Nat) (acc:List Value),
  List.foldl (fun x1 x2=>x1++x2) acc.toArray (List.replicate k its.toArray)=(acc++(List.replicate k its).flatten).toArray
 | 0,acc=>by simp
 | k+1,acc=>by
  have e:acc.toArray++its.toArray=(acc++its).toArray:=by simp
  have e2:(acc++its)++(List.replicate k its).flatten=acc++(List.replicate (k+1) its).flatten:=by
   rw [List.replicate_succ,List.flatten_cons,List.append_assoc]
  rw [<-e2,<-zfU its k (acc++its),<-e,List.replicate_succ,List.foldl_cons]
section
variable {X:Cx} {pins:List (Addr×Obj)} {σ:St} {H:Hp} {s:Shared} {l b:Addr} {xs ys zs:List V}
theorem Inv.lset{its its':List Value}{n:Nat}{f:Array Value->Array Value}{t':Nat}(I:Inv X pins σ H s)(hH:H l=some (.lst xs))
  (e:s.heap.get? l=some { cls:=.type "list",data:=.seq its.toArray n }) (hf:f its.toArray=its'.toArray) (hv:zH ys its') (hz:ys.length<=sizeLine) :
  Inv X pins σ (upd H l (.lst ys)) { s with heap:=s.heap.update l (Obj.mapSeq f),toks:=t' }:=by
 have q:=PySem.IsL.update e f;rw [hf]at q;refine I.write (x:=l) (e:=l) (by rw [hH]; exact trivial) (.inl rfl) (fun b' u hb hu=>(Heap.get?_update_other s.heap (Obj.mapSeq f) (Ne.symm hb)).trans hu) ⟨_,q⟩ ?_;exact⟨hz,its',_,hv,q⟩
theorem Inv.lnew{its:List Value}{t':Nat}(I:Inv X pins σ H s)(hv:zH ys its)(hz:ys.length<=sizeLine) :
  Inv X pins σ (upd H s.heap.objs.size (.lst ys)) { s with heap:=s.heap.push { cls:=.type "list",data:=.seq its.toArray },toks:=t' } :=
 I.laid (fun _ _ q=>qd _ q) (qe _) ⟨hz,its,0,hv,qg _ rfl⟩
theorem Inv.fresh(I:Inv X pins σ H s):H s.heap.objs.size=none:=I.hok.fresh (qe _)
theorem Inv.lstM(I:Inv X pins σ H s)(hH:H l=some (.lst xs)):xs.length<=sizeLine/\∃ (its:List Value) (n:Nat),zH xs its/\xs.length=its.length/\s.heap.get? l=some { cls:=.type "list",data:=.seq its.toArray n }:=by
 obtain⟨z,its,n,r,e⟩:=I.hok l _ hH;exact⟨z,its,n,r,r.length,e⟩
theorem zpT{n:Nat}(h:n<=sizeLine):Builtin.List.listTooLong n=false:=by
 unfold Builtin.List.listTooLong;exact decide_eq_false (by omega)
end
section
variable {X:Cx}
def zmX:V->List V->Hp->VK->Prop:=fun x vs H Q=>∃ l xs y,x=.ref l/\vs=[y]/\H l=some (.lst xs)/\xs.length < sizeLine/\Q .non (upd H l (.lst (xs++[y])))
theorem zd1:MtM X "list.append" zmX:=by
 intro pins s σ H x vs v us Q I rx rv h;obtain⟨l,xs,y,rfl,rfl,hH,hz,q⟩:=h;cases rx;obtain⟨u,rfl,ru⟩:=rv.one;obtain⟨z,its,n,r,hl,e⟩:=I.lstM hH;refine call_meets F.slot_list_append ⟨_,e,rfl⟩ F.entry_list_append (F.args_list_append_2 _ _) (PySem.list_append l its.toArray n u (by rw [List.size_toArray]; omega)) ⟨e,?_⟩;refine⟨.non,_,I.lset (its':=its++[u]) hH e (by simp) (r.append (.cons ru .nil)) ?_,rfl,q⟩;rw [qr,List.length_singleton];omega
def zyQ:R2:=fun x y H Q=>∃ l k xs,x=.ref l/\y=.int k/\H l=some (.lst xs)/\-(2^63)<=k/\k < 2^63/\xs.length * k.toNat<=sizeLine /\
 ∀ p,H p=none->Q (.ref p) (upd H p (.lst (List.replicate k.toNat xs).flatten))
theorem zi4{α:Type}(xs:List α)(k:Nat):(List.replicate k xs).flatten.length=k * xs.length:=by
 induction k with
 | zero=>simp
 | succ k ih=>rw [List.replicate_succ,List.flatten_cons,qr,ih,Nat.succ_mul,Nat.add_comm]
theorem zw4:OpR X (binaryOp .Mult) zyQ:=by
 intro pins s σ H x y v u Q I rx ry h;obtain⟨l,k,xs,rfl,rfl,hH,h1,h2,hz,q⟩:=h;cases rx;obtain⟨t,rfl⟩:=ry;obtain⟨z,its,n,r,hl,e⟩:=I.lstM hH;have hlen:its.toArray.size * k.toNat<=sizeLine:=by rw [List.size_toArray,<-hl]; exact hz
 have hcap:¬its.toArray.size * k.toNat > (2^63 - 1) / 8:=by
  have:(sizeLine:Nat)<=(2^63 - 1) / 8:=by decide
  omega
 have hfit:¬(!Builtin.List.listFitsIndex k)=true:=by
  rw [fitsIndex_both h1 h2];exact qf
 have hlong:¬Builtin.List.listTooLong (its.toArray.size * k.toNat)=true:=by
  rw [zpT hlen];exact qf
 have hnew:List.foldl (fun x1 x2=>x1++x2) #[] (List.replicate (if its.toArray.isEmpty=true then 0 else k.toNat) its.toArray)=(List.replicate k.toNat its).flatten.toArray:=by
  have f0:∀ m:Nat,List.foldl (fun x1 x2=>x1++x2) #[] (List.replicate m its.toArray)=(List.replicate m its).flatten.toArray:=fun m=>by
   have:=zfU its m [];rw [List.nil_append]at this;exact this
  rw [f0];cases its with
  | nil=>simp
  | cons a r'=>rw [if_neg (by simp)]
 refine wpAny_binaryOp_repeat_ref (T := "list") (U := "int") (by decide) ⟨_,e,rfl⟩ (fun s'=>typeIs_int s' k t) noFill_list_mul F.fills_int_mul F.slot_int_rmul repeat_list F.slot_int_index.lookup
  (call_meets F.slot_int_rmul (typeIs_int s k t) F.entry_int_rmul (F.args_int_rmul_2 _ _) (int___rmul___int_list k t l its.toArray n)
   ⟨e,rfl,⟨_,e,rfl⟩,call_meets F.slot_list_mul ⟨_,e,rfl⟩ F.entry_list_mul (F.args_list_mul_2 _ _) (AutoListH.list___mul___list_int_3 l its.toArray n k t hfit hcap hlong) ⟨e,?_⟩⟩)
 rw [hnew];exact⟨.ref _,_,I.lnew (t':=s.toks) (r.rep k.toNat) (by rw [zi4,Nat.mul_comm]; exact hz),rfl,q _ I.fresh⟩
end
section
variable {prog:Program} {w:World} {A:Around} {E:Value->Shared->Prop} {s:Shared}
end
section
variable {X:Cx}
end
section
variable {κ:Type} [DecidableEq κ]
def zef(kvs:List (κ×V))(k:κ):Option V:=(kvs.find? fun kv=>decide (kv.1=k)).map (·.2)
def zbB(kvs:List (κ×V))(k:κ)(v:V):List (κ×V) :=
 if(kvs.any fun kv=>decide (kv.1=k))=true then kvs.map (fun kv=>if kv.1=k then(kv.1,v)else kv)else kvs++[(k,v)]
theorem zgT{p:κ×V}{r:List (κ×V)}{k:κ}(e:p.1=k):zef (p::r) k=some p.2:=by simp [zef,List.find?_cons,e]
theorem zgU{p:κ×V}{r:List (κ×V)}{k:κ}(e:¬p.1=k):zef (p::r) k=zef r k:=by simp [zef,List.find?_cons,e]
theorem zkf(k:κ):∀ kvs:List (κ×V),(kvs.any fun kv=>decide (kv.1=k))=(zef kvs k).isSome
 | []=>rfl
 | p::r=>by
  rw [List.any_cons]
  by_cases e:p.1=k
  ·simp only [zgT e,decide_eq_true e,Bool.true_or,Option.isSome_some]
  ·rw [zgU e,decide_eq_false e,Bool.false_or]; exact zkf k r
theorem zct(kvs:List (κ×V))(k:κ)(v:V):(zbB kvs k v).length<=kvs.length+1:=by
 unfold zbB;split
 ·rw [List.length_map]; omega
 ·rw [qr,qt,List.length_nil]; omega
theorem zeJ.isSome_eq{o:Option V}{u:Option Value}(r:zeJ o u):o.isSome=u.isSome:=by
 cases o with
 | none=>cases u with
  | none=>rfl
  | some _=>exact(show False from r).elim
 | some _=>cases u with
  | none=>exact(show False from r).elim
  | some _=>rfl
theorem zeJ.getD{o:Option V}{u:Option Value}{d:V}{d':Value}(r:zeJ o u)(rd:zJ d d'):zJ (o.getD d) (u.getD d'):=by
 cases o with
 | none=>cases u with
  | none=>exact rd
  | some _=>exact(show False from r).elim
 | some _=>cases u with
  | none=>exact(show False from r).elim
  | some _=>exact r
theorem KV.val{kvs:List (κ×V)}{vs:List (κ×Value)}(r:KV kvs vs)(k:κ):zeJ (zef kvs k) (valueAt vs k):=by
 unfold KV at r
 induction r with
 | nil=>exact True.intro
 | @cons p q ps qs h t ih =>
  obtain⟨h1,h2⟩:=h
  by_cases e:p.1=k
  ·have e':q.1=k:=h1.symm.trans e
   have b:valueAt (q::qs) k=some q.2:=by simp [valueAt,List.find?_cons,e']
   rw [zgT e,b]; exact h2
  ·have e':¬q.1=k:=fun z=>e (h1.trans z)
   have b:valueAt (q::qs) k=valueAt qs k:=by simp [valueAt,List.find?_cons,e']
   rw [zgU e,b]; exact ih
theorem KV.any{kvs:List (κ×V)}{vs:List (κ×Value)}(r:KV kvs vs)(k:κ):(kvs.any fun kv=>decide (kv.1=k))=vs.any fun kv=>decide (kv.1=k):=by
 unfold KV at r
 induction r with
 | nil=>rfl
 | cons h t ih=>rw [List.any_cons,List.any_cons,ih,h.1]
theorem KV.repl{kvs:List (κ×V)}{vs:List (κ×Value)}(r:KV kvs vs)(k:κ){y:V}{u:Value}(ry:zJ y u) :
  KV (kvs.map fun kv=>if kv.1=k then(kv.1,y)else kv) (vs.map fun kv=>if kv.1=k then(kv.1,u)else kv):=by
 unfold KV at r ⊢
 induction r with
 | nil=>exact .nil
 | @cons p q ps qs h t ih =>
  rw [List.map_cons,List.map_cons];refine .cons ?_ ih;obtain⟨h1,h2⟩:=h
  by_cases e:p.1=k
  ·rw [if_pos e,if_pos (h1.symm.trans e)]; exact⟨h1,ry⟩
  ·rw [if_neg e,if_neg (fun z=>e (h1.trans z))]; exact⟨h1,h2⟩
theorem KV.put{kvs:List (κ×V)}{vs:List (κ×Value)}(r:KV kvs vs)(k:κ){y:V}{u:Value}(ry:zJ y u):KV (zbB kvs k y) (stored vs k u):=by
 unfold zbB stored;rw [r.any k]
 by_cases e:(vs.any fun kv=>decide (kv.1=k))=true
 ·rw [if_pos e,if_pos e]; exact r.repl k ry
 ·rw [if_neg e,if_neg e]; exact Paired.snoc r ⟨rfl,ry⟩
theorem KV.length{kvs:List (κ×V)}{vs:List (κ×Value)}(r:KV kvs vs):kvs.length=vs.length:=Paired.length r
end
theorem zmY{P:Program}{w:World}{k:Key}{u:Value}(r:zJ (kV k) u):(zT P w).is k u=true:=by
 cases k with
 | inl i=>obtain⟨t,e⟩:=(show ∃ t,u=Value.int i t from r); subst e; exact zj6 P w i t
 | inr x=>obtain⟨t,e⟩:=(show ∃ t,u=Value.str x t from r); subst e; exact zj7 P w x t
theorem zfV{P:Program}{w:World}:∀ {ks:List Key} {us:List Value},zH (ks.map kV) us->ItemsAre (zT P w) ks us
 | [],_,r=>by rw [List.map_nil]at r; cases r; exact .nil
 | k::ks,_,r=>by
  rw [List.map_cons]at r;cases r with
  | cons h t=>exact .cons (zmY h) (zfV t)
abbrev KT(K:qc)(H:Hp):List (List Key×V)->List (List Key×Addr×Value)->Prop:=Paired fun p q=>p.1=q.1/\TpK K H q.2.1 (p.1.map kV)/\zJ p.2 q.2.2
theorem KT.val{K:qc}{H:Hp}{kvs:List (List Key×V)}{xs:List (List Key×Addr×Value)}(r:KT K H kvs xs)(k:List Key):zeJ (zef kvs k) ((atKey xs k).map (·.2)):=by
 induction r with
 | nil=>exact True.intro
 | @cons p q ps qs h t ih =>
  obtain⟨h1,_,h2⟩:=h
  by_cases e:p.1=k
  ·have e':q.1=k:=h1.symm.trans e
   have b:atKey (q::qs) k=some q.2:=by simp [atKey,List.find?_cons,e']
   rw [zgT e,b]; exact h2
  ·have e':¬q.1=k:=fun z=>e (h1.trans z)
   have b:atKey (q::qs) k=atKey qs k:=by simp [atKey,List.find?_cons,e']
   rw [zgU e,b]; exact ih
theorem KT.repl{K:qc}{H:Hp}{kvs:List (List Key×V)}{xs:List (List Key×Addr×Value)}(r:KT K H kvs xs)(k:List Key){y:V}{u:Value}(ry:zJ y u) :
  KT K H (kvs.map fun kv=>if kv.1=k then(kv.1,y)else kv) (xs.map (putAt k u)):=by
 induction r with
 | nil=>exact .nil
 | @cons p q ps qs h t ih =>
  rw [List.map_cons,List.map_cons];refine .cons ?_ ih;obtain⟨h1,h2,h3⟩:=h;unfold putAt
  by_cases e:p.1=k
  ·rw [if_pos e,if_pos (h1.symm.trans e)]; exact⟨h1,h2,ry⟩
  ·rw [if_neg e,if_neg (fun z=>e (h1.trans z))]; exact⟨h1,h2,h3⟩
theorem KT.put{K:qc}{H:Hp}{kvs:List (List Key×V)}{xs:List (List Key×Addr×Value)}(r:KT K H kvs xs)(k:List Key){b:Addr}{y:V}{u:Value}(hb:TpK K H b (k.map kV))(ry:zJ y u) :
  KT K H (zbB kvs k y) (storedH xs k b u):=by
 have e:(kvs.any fun kv=>decide (kv.1=k))=(atKey xs k).isSome:=by
  rw [zkf,(r.val k).isSome_eq,Option.isSome_map]
 unfold zbB storedH;rw [e]
 by_cases q:(atKey xs k).isSome=true
 ·rw [if_pos q,if_pos q]; exact r.repl k ry
 ·rw [if_neg q,if_neg q]; exact Paired.snoc r ⟨rfl,hb,ry⟩
theorem KT.keeps{K:qc}{H H':Hp}{kvs:List (List Key×V)}{xs:List (List Key×Addr×Value)}(r:KT K H kvs xs)(ht:∀ b ys,H b=some (.tup ys)->H' b=some (.tup ys)):KT K H' kvs xs :=
 Paired.mapP r fun _ _ z=>⟨z.1,z.2.1.keeps ht,z.2.2⟩
section
variable {P:Program} {w:World} {K:qc} {H:Hp} {h:Heap} {a:Addr}
theorem zkg{u:HO}(ok:HOk P w K H h)(e:Rd H a u):zX P w K H h a u:=e.ok ok
theorem zkh{kvs:List (Key×V)}(ok:HOk P w K H h)(e:Rd H a (.dK kvs)):kvs.length<=sizeLine/\(a==sysModules)=false/\∃ vs,KV kvs vs/\h.DictOf (zT P w) a vs :=
 show zX P w K H h a (.dK kvs) from zkg ok e
theorem zyR{kvs:List (Key×V)}(ok:HOk P w K H h)(e:H a=some (.dK kvs)):kvs.length<=sizeLine/\(a==sysModules)=false/\∃ vs,KV kvs vs/\h.DictOf (zT P w) a vs:=zkh ok (.inl e)
theorem zdt{ks:List Key}(kin:K.In h)(ok:HOk P w K H h)(e:TpK K H a (ks.map kV)):(tupleKind (zT P w)).is h ks a:=by
 rcases e with e | ⟨o,its,n,hk,hc,hs,_,r,_⟩
 case inr=>exact⟨o,its,n,kin a o hk,hc,hs,by simpa using zfV r⟩
 obtain⟨_,its,r,o,h1,h2,⟨n,h3⟩,_⟩:=(show zX P w K H h a (.tup (ks.map kV)) from ok a _ e);exact⟨o,its.toArray,n,h1,h2,h3,by simpa using zfV r⟩
theorem zgc{kvs:List (List Key×V)}(kin:K.In h)(ok:HOk P w K H h)(e:Rd H a (.dT kvs)):kvs.length<=sizeLine/\(a==sysModules)=false /\
  ∃ xs,KT K H kvs xs/\h.DictOfH (tupleKind (zT P w)) a xs:=by
 obtain⟨z,y,xs,r,o,es,ep,h1,h2,h3,h4,h5⟩:=(show zX P w K H h a (.dT kvs) from zkg ok e);refine⟨z,y,xs,r,o,es,ep,h1,h2,h3,h4,fun x hx=>?_,h5⟩;have all:∀ {l:List (List Key×V)} {m:List (List Key×Addr×Value)},KT K H l m->∀ x∈m,(tupleKind (zT P w)).is h x.1 x.2.1:=by
  intro l m q
  induction q with
  | nil=>intro x hx; exact nomatch hx
  | @cons p q ps qs hq t ih =>
   intro x hx;rcases qu.mp hx with e | hx
   ·subst e
    exact zdt kin ok (by rw [<-hq.1]; exact hq.2.1)
   ·exact ih x hx
 exact all r x hx
theorem zpU{kvs:List (List Key×V)}(kin:K.In h)(ok:HOk P w K H h)(e:H a=some (.dT kvs)):kvs.length<=sizeLine/\(a==sysModules)=false /\
  ∃ xs,KT K H kvs xs/\h.DictOfH (tupleKind (zT P w)) a xs:=zgc kin ok (.inl e)
end
def zlO(K:qc)(H:Hp)(a:Addr)(y:V)(r:Option V):Prop :=
 (∃ kvs k,Rd H a (.dK kvs)/\y=kV k/\r=zef kvs k)\/∃ kvs k b,Rd H a (.dT kvs)/\y=.ref b/\TpK K H b (k.map kV)/\r=zef kvs k
def zki(K:qc)(H:Hp)(a:Addr)(y v:V)(H':Hp):Prop :=
 (∃ kvs k,H a=some (.dK kvs)/\y=kV k/\kvs.length < sizeLine/\H'=upd H a (.dK (zbB kvs k v))) \/
 ∃ kvs k b,H a=some (.dT kvs)/\y=.ref b/\TpK K H b (k.map kV)/\kvs.length < sizeLine/\H'=upd H a (.dT (zbB kvs k v))
theorem zki.k{K:qc}{H:Hp}{a:Addr}{kvs:List (Key×V)}{k:Key}{v:V}(e:H a=some (.dK kvs))(hl:kvs.length < sizeLine):zki K H a (kV k) v (upd H a (.dK (zbB kvs k v))):=.inl ⟨kvs,k,e,rfl,hl,rfl⟩
theorem zki.t{K:qc}{H:Hp}{a b:Addr}{kvs:List (List Key×V)}{k:List Key}{v:V}(e:H a=some (.dT kvs))(eb:TpK K H b (k.map kV))(hl:kvs.length < sizeLine) :
  zki K H a (.ref b) v (upd H a (.dT (zbB kvs k v))):=.inr ⟨kvs,k,b,e,rfl,eb,hl,rfl⟩
section
variable {X:Cx} {pins:List (Addr×Obj)} {σ:St} {H:Hp} {s:Shared} {a:Addr} {y v:V} {u r:Value} {o:Option V} {A:Around} {E:Value->Shared->Prop}
theorem Inv.big(I:Inv X pins σ H s):sysModules < s.heap.objs.size:=by
 have h:mainGlobals < s.heap.objs.size:=(I.mod.glob.keeps I.bk).lt;exact Nat.lt_trans (by decide) h
theorem zoH{Q:Value->Shared->Prop}(hu:A.units+1 < cLine)(I:Inv X pins σ H s)(g:zlO X.K H a y (some v))(ry:zJ y u)(h:∀ w' s',Inv X pins σ H s'->zJ v w'->Q w' s') :
  wpAny (model X.prog X.w) A (getItem (.ref a) u) Q E s:=by
 rcases g with ⟨kvs,k,e,ey,l⟩ | ⟨kvs,k,b,e,ey,eb,l⟩
 ·subst ey
  obtain⟨z,hd,vs,rel,dd⟩:=zkh I.hok e;obtain⟨w',hw,rw'⟩:=zeJ.some_of (v:=v) (o:=valueAt vs k) (by rw [l]; exact rel.val k);exact wpAny_getItem_of (zmY ry) dd.mapOf hw (h w' _ (I.tok _) rw')
 ·subst ey
  cases(show u=Value.ref b from ry);obtain⟨z,hd,xs,rel,dd⟩:=zgc I.kIn I.hok e;obtain⟨w',hw,rw'⟩:=zeJ.some_of (v:=v) (o:=(atKey xs k).map (·.2)) (by rw [l]; exact rel.val k);obtain⟨p,hp,hp2⟩:=qq.mp hw;refine wpAny_getItem_heap (tupleKind_room_in1 hu) (zdt I.kIn I.hok eb) dd hp ?_;rw [hp2];exact h w' _ (I.tok _) rw'
theorem zgw{h':Heap}{t':Nat}{ob:HO}(I:Inv X pins σ H s)(mu:Mut (H a))(hs:Heap.SameBut a s.heap h')(he:∃ q,h'.get? a=some q)(new:zX X.prog X.w X.K (upd H a ob) h' a ob) :
  Inv X pins σ (upd H a ob) { s with heap:=h',toks:=t' } :=
 I.write (x:=a) (e:=a) mu (.inl rfl) (fun b q hb z=>(hs.2 b hb).trans z) he new
theorem zw5{P:Program}{w:World}{K:qc}{H':Hp}{h':Heap}{kvs:List (Key×V)}{vs:List (Key×Value)}(z:kvs.length<=sizeLine)(hd:(a==sysModules)=false)(rel:KV kvs vs)(dd:h'.DictOf (zT P w) a vs) :
  zX P w K H' h' a (.dK kvs):=⟨z,hd,vs,rel,dd⟩
theorem zoI{H':Hp}{Q:Unit->Shared->Prop}(hu:A.units+1 < cLine)(I:Inv X pins σ H s)(g:zki X.K H a y v H')(ry:zJ y u)(rv:zJ v r)(h:∀ s',Inv X pins σ H' s'->Q () s') :
  wpAny (model X.prog X.w) A (setItem (.ref a) u r) Q E s:=by
 rcases g with ⟨kvs,k,e,ey,l,eH⟩ | ⟨kvs,k,b,e,ey,eb,l,eH⟩
 ·subst ey eH
  obtain⟨z,hd,vs,rel,dd⟩:=zyR I.hok e;have hz:vs.length<=sizeLine:=by rw [<-rel.length]; exact z
  have hl:(zbB kvs k v).length<=sizeLine:=by have:=zct kvs k v; omega
  refine wpAny_setItem_pairs (hsz:=hz) (zmY ry) dd fun h' dd' hs=>h _ ?_;have he:∃ q,h'.get? a=some q:=let ⟨q,_,_,hq,_⟩:=dd'; ⟨q,hq⟩;exact zgw I (by rw [e]; exact True.intro) hs he (zw5 hl hd (rel.put k rv) dd')
 ·subst ey eH
  cases(show u=Value.ref b from ry);obtain⟨z,hd,xs,rel,dd⟩:=zpU I.kIn I.hok e;have hz:xs.length<=sizeLine:=by rw [<-Paired.length rel]; exact z
  have hl:(zbB kvs k v).length<=sizeLine:=by have:=zct kvs k v; omega
  refine wpAny_setItem_heap (hsz:=hz) (tupleKind_room_in1 hu) (zdt I.kIn I.hok eb) dd fun h' dd' hs=>h _ ?_;obtain⟨q,es,ep,hq,h2,h3,h4,_,h5⟩:=dd';refine zgw I (by rw [e]; exact True.intro) hs ⟨q,hq⟩ ⟨hl,hd,_,(rel.put k eb rv).keeps fun c ys ec=>?_,q,es,ep,hq,h2,h3,h4,h5⟩;rw [zu (ze4 ec e (fun z=>nomatch z))];exact ec
end
section
variable {X:Cx} {pins:List (Addr×Obj)} {σ:St} {H:Hp} {s:Shared} {a:Addr} {kvs:List (Key×V)} {k:Key} {u:Value} {A:Around} {E:Value->Shared->Prop}
end
def zw6(i:Expr):Prop:=∀ ov iv,subscripted i false ov iv=operate [ov,iv] (getItem ov iv)
theorem ztr{prog:Program}{w:World}{A:Around}{E:Value->Shared->Prop}{s:Shared}{env:Env}{value slice:Expr}{pos:Pos}{T id:String}{Q:Value->Shared->Prop}
  (hl:typeLookup (.type T) "__getitem__"=pure (some (.builtin id))) (hs:zw6 slice)
  (h:wpAny (model prog w) A (eval value env) (fun o s₁=>wpAny (model prog w) A (eval slice env) (fun i s₂=>s₂.TypeIs o T/\wpAny (model prog w) A (getItem o i) Q E s₂) E s₁) E s) :
  wpAny (model prog w) A (eval (.Subscript value slice pos) env) Q E s:=by
 refine Subscript_ (wpAny_mono h (fun o s₁ h₁=>wpAny_mono h₁ (fun i s₂ h₂=>?_) fun _ _ x=>x) fun _ _ x=>x);obtain⟨hT,h₂⟩:=h₂;unfold subscriptTail;refine qa ?_;rw [getitemInPython_of_ne hT.not_modules];refine qa (wpAny_specialOf hT hl ?_);have fin:wpAny (model prog w) A (subscripted slice false o i) (fun r s₃=>wpAny (model prog w) A (letTemporaryGo value o r >>= fun _=>pure r) Q E s₃) E s₂:=by
  rw [hs o i];exact wpAny_operating (wpAny_mono h₂ (fun r s₃ h₃=>qa (wpAny_letTemporaryGo (qb h₃))) fun _ _ x=>x)
 first
  | exact qb (qa fin)
  | exact qa (qb (qa fin))
  | exact qa fin
theorem zkj{X:Cx}{pins:List (Addr×Obj)}{σ:St}{H:Hp}{s:Shared}{a:Addr}{y:V}{o:Option V}(I:Inv X pins σ H s)(g:zlO X.K H a y o):s.TypeIs (.ref a) "dict":=by
 rcases g with ⟨kvs,k,e,_,_⟩ | ⟨kvs,k,b,e,_,_,_⟩
 ·obtain⟨_,_,vs,_,dd⟩:=zkh I.hok e
  exact dd.typeIs
 ·obtain⟨_,_,xs,_,dd⟩:=zgc I.kIn I.hok e
  exact dd.typeIs
def zpV(K:qc)(td ty:TE):TE:=fun σ H Q=>td σ H fun x H1=>ty σ H1 fun y H2=>∃ a v,x=.ref a/\zlO K H2 a y (some v)/\Q v H2
def zpW(K:qc)(td ty tv:TE):TS:=fun D σ H=>tv σ H fun v H1=>td σ H1 fun x H2=>ty σ H2 fun y H3=>∃ a H4,x=.ref a/\zki K H3 a y v H4/\D.nx σ H4
section
variable {X:Cx} {o i e value:Expr} {pos pos' tpos:Pos} {td ty tv:TE}
theorem zts(hu:X.A.units+1 < cLine)(ho:PE X o td)(hi:PE X i ty)(hs:zw6 i):PE X (.Subscript o i pos) (zpV X.K td ty):=by
 intro pins s σ H Q I h;refine ztr PySem.F.slot_dict_getitem.lookup hs (thn (ho pins s σ H _ I h) fun u s1 ⟨x,H1,I1,rx,q1⟩=>thn (hi pins s1 σ H1 _ I1 q1) fun iv s2 ⟨y,H2,I2,ry,a,v,ex,g,q2⟩=>?_);subst ex;obtain rfl:u=Value.ref a:=rx;exact⟨zkj I2 g,zoH hu I2 g ry fun w' s3 I3 rw'=>⟨v,H2,I3,rw',q2⟩⟩
theorem ztt(hu:X.A.units+1 < cLine)(ho:PE X o td)(hi:PE X i ty)(hv:PE X value tv)(hs:swapsWith value (some (.Subscript o i pos')) pos.line X.env=pure false) :
  PS X (.Assign [.Subscript o i pos'] value pos) (zpW X.K td ty tv):=by
 intro pins s σ H D I h;refine wpAny_Assign_Subscript (thn (hv pins s σ H _ I h) fun r s1 ⟨v,H1,I1,rv,q1⟩=>thn (ho pins s1 σ H1 _ I1 q1) fun u s2 ⟨x,H2,I2,rx,q2⟩=>thn (hi pins s2 σ H2 _ I2 q2) fun iv s3 ⟨y,H3,I3,ry,a,H4,ex,g,q3⟩=>?_) hs;subst ex;obtain rfl:u=Value.ref a:=rx;exact zoI hu I3 g ry rv fun s4 I4=>⟨σ,H4,I4,q3⟩
end
theorem ze9{P:Program}{w:World}{K:qc}{H:Hp}(h:Heap)(hb:sysModules < h.objs.size):zX P w K H (h.push { cls:=.type "dict",data:=.dict #[] }) h.objs.size (.dT []) :=
 ⟨Nat.zero_le _,beq_eq_false_iff_ne.mpr (Ne.symm (qj hb)),[],.nil,_,#[],0,qg _ rfl,⟨rfl,rfl,rfl⟩,rfl,rfl,List.nodup_nil⟩
def zlP:TE:=fun _ H Q=>∀ p,H p=none->Q (.ref p) (upd H p (.dT []))
section
variable {X:Cx} {pos:Pos}
theorem zpX:PE X (.Dict [] [] pos) zlP:=fun pins s σ H Q I h =>
 wpAny_Dict_empty ⟨.ref s.heap.objs.size,_,I.laid (a:=s.heap.objs.size) (o:=.dT []) (t':=s.toks) (fun _ _ q=>qd _ q) (qe _) (ze9 s.heap I.big),rfl,h _ (I.hok.fresh (qe _))⟩
end
def zw7(kvs more:List (Key×V)):List (Key×V):=more.foldl (fun acc kv=>zbB acc kv.1 kv.2) kvs
theorem KV.merge:∀ {more:List (Key×V)} {rs:List (Key×Value)} {kvs:List (Key×V)} {vs:List (Key×Value)},KV more rs->KV kvs vs->KV (zw7 kvs more) (merged vs rs):=by
 intro more rs kvs vs r;unfold KV at r
 induction r generalizing kvs vs with
 | nil=>intro q; exact q
 | @cons p q ps qs h t ih =>
  intro r0;have e:KV (zbB kvs p.1 p.2) (stored vs q.1 q.2):=by
   have:=r0.put p.1 h.2;rw [<-h.1]; exact this
  exact ih e
structure M2 (X:Cx) (o:Expr) (m:Str) (apos:Pos) (e f:Expr) (cpos:Pos):Prop where
 base:attributeBase o m X.env (eval o X.env)=eval o X.env
 few:((backTo cpos (starEach [e,f] X.env)).all (fun x=>!x.1) && (backToKw cpos (keywordEach [] X.env)).all (fun x=>x.1.isSome)
  && decide (([e,f]:List Expr).length+([]:List Keyword).length+(if([]:List Keyword).isEmpty then 0 else 1) < 30))=true
 line:(apos.endLine==cpos.line)=true
 trees:backTo cpos (starEach [e,f] X.env)=[(false,eval e X.env),(false,eval f X.env)]
def IsD(H:Hp)(a:Addr):Prop:=(∃ kvs,Rd H a (.dK kvs))\/∃ kvs,Rd H a (.dT kvs)
theorem zw8{X:Cx}{pins:List (Addr×Obj)}{σ:St}{H:Hp}{s:Shared}{a:Addr}(I:Inv X pins σ H s)(d:IsD H a) :
  s.TypeIs (.ref a) "dict"/\(∀ b,Value.ref a=.ref b->∃ ob,s.heap.get? b=some ob/\ob.dict=none)/\(a==sysModules)=false:=by
 rcases d with ⟨kvs,e⟩ | ⟨kvs,e⟩
 ·obtain⟨_,hd,vs,_,dd⟩:=zkh I.hok e
  refine⟨dd.typeIs,fun b q=>?_,hd⟩;cases q;obtain⟨ob,_,_,h1,h2,_⟩:=dd;exact⟨ob,h1,h2.2.1⟩
 ·obtain⟨_,hd,xs,_,dd⟩:=zgc I.kIn I.hok e
  refine⟨dd.typeIs,fun b q=>?_,hd⟩;cases q;obtain⟨ob,_,_,h1,h2,_⟩:=dd;exact⟨ob,h1,h2.2.1⟩
section
variable {X:Cx} {pins:List (Addr×Obj)} {σ:St} {H:Hp} {s:Shared} {a:Addr} {y d:V} {u r:Value} {o:Option V} {A:Around} {E:Value->Shared->Prop}
theorem zw9{Q:Value->Shared->Prop}(hu:A.units+1 < cLine)(I:Inv X pins σ H s)(g:zlO X.K H a y o)(ry:zJ y u)(rd:zJ d r)(h:∀ w' s',Inv X pins σ H s'->zJ (o.getD d) w'->Q w' s') :
  wpAny (model X.prog X.w) A (call (.builtin "dict.get") [.ref a,u,r]) Q E s:=by
 rcases g with ⟨kvs,k,e,ey,l⟩ | ⟨kvs,k,b,e,ey,eb,l⟩
 ·subst ey
  obtain⟨z,hd,vs,rel,dd⟩:=zkh I.hok e;refine call_meetsIn PySem.F.slot_dict_get dd.typeIs PySem.F.entry_dict_get (PySem.F.args_dict_get_3 _ _ _) (meets_dict_get_default (zT X.prog X.w) a (zmY ry) hd r) ⟨_,dd.mapOf,h _ _ (I.tok _) ?_⟩;rw [l];exact(rel.val k).getD rd
 ·subst ey
  cases(show u=Value.ref b from ry);obtain⟨z,hd,xs,rel,dd⟩:=zgc I.kIn I.hok e;refine call_meetsIn PySem.F.slot_dict_get dd.typeIs PySem.F.entry_dict_get (PySem.F.args_dict_get_3 _ _ _) (meetsH_dict_get_default (tupleKind (zT X.prog X.w)) a b hd r) ⟨tupleKind_room_in1 hu,k,xs,zdt I.kIn I.hok eb,dd,h _ _ (I.tok _) ?_⟩;rw [l];exact(rel.val k).getD rd
end
def zlQ(K:qc)(td ty tx:TE):TE:=fun σ H Q=>td σ H fun x H1=>∃ a,x=.ref a/\IsD H1 a/\ty σ H1 fun y H2=>tx σ H2 fun z H3=>∃ o,zlO K H3 a y o/\Q (o.getD z) H3
section
variable {X:Cx} {o e f:Expr} {apos cpos:Pos} {td ty tx:TE}
theorem zpY(hu:X.A.units+1 < cLine)(ho:PE X o td)(he:PE X e ty)(hf:PE X f tx)(m:M2 X o "get" apos e f cpos):PE X (.Call (.Attribute o "get" apos) [e,f] [] cpos) (zlQ X.K td ty tx):=by
 intro pins s σ H Q I h;refine wpAny_Call_method m.base m.few m.line PySem.F.plainAttrs_dict PySem.F.slot_dict_get PySem.F.type_dict_get (thn (ho pins s σ H _ I h) fun u s1 ⟨x,H1,I1,rx,a,ex,d,q1⟩=>?_);subst ex;obtain rfl:u=Value.ref a:=rx;obtain⟨t1,t2,_⟩:=zw8 I1 d;refine⟨t1,t2,?_⟩;rw [m.trees];refine Calls.callWith_builtin rfl (Calls.evalArgs_plain (Calls.spliced_cons (thn (he pins s1 σ H1 _ I1 q1) fun iv s2 ⟨y,H2,I2,ry,q2⟩ =>
  Calls.spliced_cons (thn (hf pins s2 σ H2 _ I2 q2) fun fv s3 ⟨z,H3,I3,rz,ov,g,q3⟩=>Calls.spliced_nil ?_))))
 exact zw9 hu I3 g ry rz fun w' s4 I4 rw'=>⟨_,H3,I4,rw',q3⟩
end
section
variable {X:Cx} {pins:List (Addr×Obj)} {σ:St} {H:Hp} {s:Shared} {a:Addr} {kvs:List (Key×V)} {A:Around} {E:Value->Shared->Prop}
end
section
variable {X:Cx} {pins:List (Addr×Obj)} {σ:St} {H:Hp} {s:Shared} {a:Addr} {y:V} {u:Value} {A:Around} {E:Value->Shared->Prop}
end
end L2
namespace Att
open PySem PySem.W PySem.Calls PyProof.Rows
theorem zgq{P:Params}{h:Heap}:∀ (ns:List Int) (vs:List Value),WellAll P h vs (ns.map WData.int)->IntsAre vs ns:=by
 intro ns
 induction ns with
 | nil =>
  intro vs w;rw [List.map_nil]at w;cases w;exact .nil
 | cons n ns ih =>
  intro vs w;rw [List.map_cons]at w;cases w with
  | cons a b =>
   cases a;exact .cons _ _ (ih _ b)
theorem zoJ{l:OpenLaw}{n:Nat}(hn:l.most=some n){P:Params}{h:Heap}{args:List WData}{vals:List Value}
  (hpre:l.row.toRowW.claim.pre args=true) (hwl:WellAll P h vals args) :
  ∃ a vs ns,vals=[Value.ref a]/\args=[WData.list (ns.map WData.int)]/\h.get? a=some { cls:=.type "list",data:=.seq vs.toArray }/\IntsAre vs ns/\ns.length<=n:=by
 have hsh:WShape.hasAll [] args [.list .int]=true:=(pre_splitW hpre).1;have hc:l.pre.holds [] { args:=args }=true:=(pre_splitW hpre).2;obtain⟨d,r,rfl,h1,h2⟩:=hasAllW_cons hsh;obtain rfl:=hasAllW_nil h2;obtain⟨xs,rfl,h3⟩:=hasW_list h1;obtain⟨ns,rfl⟩:=items_int h3;have hlen:ns.length<=n:=by
  unfold OpenLaw.pre at hc;have h4:(WTm.not (.lt (.lit (.int (n:Int))) (.len (.arg 0)))).holds [] { args:=[.list (ns.map .int)] }=true:=by
   have h4:=(holds_andW hc).1;rw [hn]at h4;exact h4
  have h5:=condW_of h4 (w_not (w_lt w_lit (w_len_list (w_arg rfl))));rw [List.length_map]at h5;refine Nat.le_of_not_lt fun q=>?_;have q':(n:Int) < ((ns.length:Nat):Int):=by omega
  first
   | (rw [decide_eq_true q']at h5; exact absurd h5 (by decide))
   | (simp at h5; omega)
 cases hwl with
 | cons w1 w2 =>
  cases w2;cases w1 with
  | list ho hall=>exact⟨_,_,ns,rfl,rfl,ho,zgq ns _ hall,hlen⟩
theorem zoK(l:OpenLaw)(args:List WData):l.row.toRowW.claim.post args (.bool true) args=true :=
 postW_of (r:=l.row.toRowW) (X:=(true==true))
  (show WShape.has [] (.bool true) .bool=true by first | rfl | decide | simp [WShape.has,WShape.arms,WShape.armsAll])
  (show(WTm.eq .res (.lit (.bool true))).value [] { args:=args,res:=some (.bool true),after:=args }=some (.bool (true==true)) from w_eq_bool (w_res rfl) w_lit) rfl
theorem attach_call{l:OpenLaw}{n:Nat}{q:Program}{loose:List Str}{XP:(Str->Option Value)->Heap->Prop}{YP:World->Heap->Prop}{d:DefRec}
  (hn:l.most=some n) (hdf:d.params.defaults=[])
  (call:∀ (w:World) (s₀ s₁:Shared) (mg mb:Str->Option Value) (fa:Addr) (o:Obj) (pm cd doc:Value) (a:Addr) (vs:List Value) (ns:List Int),
   Ground q loose [] XP w s₀ mg mb s₁.heap->YP w s₁.heap ->
   s₁.heap.get? fa=some o->o.data=.func (docDef d.name d.params d.body d.scope pm cd doc)->s₁.heap.CodeRec cd d.name->mg d.name=some (.ref fa) ->
   s₁.heap.get? a=some { cls:=.type "list",data:=.seq vs.toArray }->IntsAre vs ns->ns.length<=n->s₁.gens=#[] ->
   codeAny (model l.prog w) callerA (.call (.ref fa) ⟨[.ref a],[]⟩) (fun r s'=>r=.ok (.ret (.bool true))/\OldK s₁.heap s'.heap/\s'.os=s₁.os/\AllBare s'.gens) s₁) :
  WalkO q loose XP YP l.row.toRowW d [] (fun f vs=>PySem.call f vs):=by
 intro w s₀ s₁ mg mb G Y fa o pm cd doc dV kV ho hd hcd hD hmg hg args vals as hpre hlay hrd hwl hlo;obtain rfl:dV=.none:=Dflts.none hD hdf;obtain rfl:kV=.none:=Dflts.noKw hD;obtain⟨a,vs,ns,rfl,rfl,hobj,hints,hlen⟩:=zoJ hn hpre hwl;refine enter_call (codeAny_mono (call w s₀ s₁ mg mb fa o pm cd doc a vs ns G Y ho (fd_plain hd) hcd hmg hobj hints hlen hg) fun r s' hq=>?_);obtain⟨rfl,h2,h3,h4⟩:=hq;exact⟨.inl ⟨.bool true,.bool true,[],rfl,fun _=>rfl,.bool true,zoK l _,fun _=>⟨List.Pairwise.nil,fun _ hm=>(nomatch hm)⟩⟩,h2,h3,h4⟩
section
variable {prog:Program} {w:World} {A:Around} {E:Value->Shared->Prop} {s:Shared} {K:Frag}
end
end Att
namespace L2
open PySem PySem.Spec PyProof.Rows
theorem zfW:∀ {vs:List Value} {ns:List Int},IntsAre vs ns->zH (ns.map V.int) vs
 | _,_,.nil=>.nil
 | _,_,.cons n t h=>.cons ⟨t,rfl⟩ (zfW h)
def ztu(H:Hp):Prop:=∀ b,H b=none\/∃ o xs,H b=some (.frz o (.lst xs))
theorem zpZ{P:Program}{w:World}{K:qc}{mg mb:Str->Option Value}{CX:CXT}{k:Nat}{fa a:Addr}{fd:FuncData}{x:Str}{sp:Sp}{s₁:Shared}{vs:List Value}{ns:List Int}
  (KX:K.In s₁.heap) (hns:s₁.heap.Ns mainGlobals mg) (hb:s₁.heap.Ns builtinsNs mb) (hbb:∀ x:Str,x ≠ "__name__"->mb x=bootBuiltins x) (hlim:s₁.heap.NoLimit) (hg:s₁.gens=#[])
  (ha:s₁.heap.get? a=some { cls:=.type "list",data:=.seq vs.toArray }) (hi:IntsAre vs ns) (hl:ns.length<=sizeLine) (hr:Room k callerA)
  (F:∀ base:Heap,K.In base->base.Ns mainGlobals mg->FnOk P w K mg base CX k fa fd [x] sp) (hbind:∀ (s:Shared) (u:Value),BindsTo s fd ⟨[u],[]⟩ [(x,u)])
  (hsp:∀ H:Hp,ztu H->SqL K H a (ns.map V.int)->sp [.ref a] H (fun v _=>v=.bl true) fun _ _ _=>False)
  (hCX:∀ H e s',CX [] H s₁ (fun _ _ _=>False) e s'->False) :
  codeAny (model P w) callerA (.call (.ref fa) ⟨[.ref a],[]⟩) (fun r s'=>r=.ok (.ret (.bool true))/\OldK s₁.heap s'.heap/\s'.os=s₁.os/\AllBare s'.gens) s₁:=by
 have rv:=zfW hi;have lenV:=hi.length;have core:∀ H:Hp,ztu H->SqL K H a (ns.map V.int)->HOk P w K H s₁.heap->(∀ b,H b≠none->b=a)->(H a≠none->K.lookup a=none) ->
   codeAny (model P w) callerA (.call (.ref fa) ⟨[.ref a],[]⟩) (fun r s'=>r=.ok (.ret (.bool true))/\OldK s₁.heap s'.heap/\s'.os=s₁.os/\AllBare s'.gens) s₁:=by
  intro H hO hS hok hA hK;have base_of:∀ {b:Addr} {o:Obj},s₁.heap.get? b=some o->H b=none->(ziT s₁.heap H).get? b=some o:=fun e n=>zpt e n;have noA:∀ {b:Addr} {o:Obj} {es:Array DictEntry} {ep:Nat},s₁.heap.get? b=some o->o.data=.dict es ep->H b=none:=fun{b o es ep} e d=>by
   cases q:H b with
   | none=>rfl
   | some u =>
    have e':b=a:=hA b (by rw [q]; simp);subst e';rw [ha]at e; cases e;have d':Data.seq vs.toArray _=Data.dict es ep:=d;cases d'
  have nsK:∀ {b:Addr} {m:Str->Option Value},s₁.heap.Ns b m->(ziT s₁.heap H).Ns b m:=fun{b m} ⟨o,es,ep,e,d,r⟩=>⟨o,es,ep,base_of e (noA e d),d,r⟩;have hKb:K.In (ziT s₁.heap H):=fun b o e=>base_of (KX b o e) (by
   cases q:H b with
   | none=>rfl
   | some u =>
    have e':b=a:=hA b (by rw [q]; simp);subst e';rw [hK (by rw [q]; simp)]at e; cases e)
  have hM:Mod K mg (ziT s₁.heap H):=⟨hKb,nsK hns,⟨mb,nsK hb,hbb⟩,let ⟨mc,h1,h2⟩:=hlim; ⟨mc,nsK h1,h2⟩⟩;have e0:Env0 P w K mg (ziT s₁.heap H) callerA [] s₁ H:=⟨rfl,hM,fun b o e=>zsV e,Nat.le_of_eq (zov _ _),trivial,fun b hb=>absurd (show b∈([]:List Addr) from hb) (by simp),hok,.of_eq hg⟩;refine codeAny_mono ((F _ hKb (nsK hns)).run callerA [] s₁ H ⟨[.ref a],[]⟩ [.ref a] [.ref a] _ _ hr e0 (hbind s₁ (.ref a)) (.cons rfl .nil) (hsp H hO hS)) fun r s' h=>?_;cases r with
  | error e=>exact(hCX H e s' h).elim
  | ok fl =>
   cases fl with
   | next=>exact False.elim h
   | brk=>exact False.elim h
   | cont=>exact False.elim h
   | ret u =>
    obtain⟨v,H',os,bare,un,hok',r',q⟩:=h;have q':v=.bl true:=q;subst q';obtain rfl:u=Value.bool true:=r';refine⟨rfl,OldK.of_keep fun b o e=>?_,os,bare⟩;cases q:H b with
    | none=>exact un.keep b o e q (by intro z; exact absurd (show b∈([]:List Addr) from z) (by simp)) (by simp)
    | some u =>
     rcases hO b with z | ⟨ob,xs,z⟩
     ·rw [q]at z; cases z
     ·have z2:=un.frzs b ob _ z
      obtain⟨e1,_⟩:=hok b _ z;obtain⟨e2,_⟩:=hok' b _ z2;rw [e]at e1; cases e1;exact e2
 cases hk:K.lookup a with
 | some o =>
  have e:=KX a o hk;rw [ha]at e;cases e;refine core (fun _=>none) (fun _=>.inl rfl) (.inr ⟨_,vs.toArray,_,hk,rfl,rfl,rfl,by rw [List.size_toArray,lenV]; exact hl,by simpa using rv⟩) (fun b u z=>by have z':(none:Option HO)=some u:=z; cases z') (fun b z=>absurd rfl z) fun z=>absurd rfl z
 | none =>
  refine core (fun b=>if b=a then some (.frz { cls:=.type "list",data:=.seq vs.toArray } (.lst (ns.map V.int)))else none) (fun b=>?_) (.inl (.inr ⟨{ cls:=.type "list",data:=.seq vs.toArray },if_pos rfl⟩)) (fun b u z=>?_) (fun b z=>?_) fun _=>hk
  ·by_cases hb:b=a
   ·exact .inr ⟨_,_,if_pos hb⟩
   ·exact .inl (if_neg hb)
  ·by_cases hb:b=a
   ·have z':=(if_pos hb).symm.trans z
    cases z';subst hb;exact⟨ha,by rw [List.length_map]; exact hl,vs,_,rv,ha⟩
   ·have z':=(if_neg hb).symm.trans z
    cases z'
  ·by_cases hb:b=a
   ·exact hb
   ·exact absurd (if_neg hb) z
theorem walk_of{l:PySem.W.OpenLaw}{n k:Nat}{q:Program}{loose:List Str}{XP:(Str->Option Value)->Heap->Prop}{YP:World->Heap->Prop}{d:DefRec}{K:Params->qc}{CX:World->CXT}{sp:World->Sp}{x:Str}
  (hn:l.most=some n) (hn2:n<=sizeLine) (hdf:d.params.defaults=[]) (hr:Room k callerA)
  (hY:∀ (w:World) (h:Heap),YP w h->(K w.params).In h)
  (F:∀ (w:World) (mg:Str->Option Value) (fa:Addr) (h:Heap),(K w.params).In h->h.Ns mainGlobals mg->mg d.name=some (.ref fa) ->
   ∃ fd:FuncData,(∀ (s:Shared) (u:Value),BindsTo s fd ⟨[u],[]⟩ [(x,u)]) /\
    ∀ base:Heap,(K w.params).In base->base.Ns mainGlobals mg->FnOk l.prog w (K w.params) mg base (CX w) k fa fd [x] (sp w))
  (hsp:∀ (w:World) (H:Hp) (a:Addr) (ns:List Int),ns.length<=n->ztu H->SqL (K w.params) H a (ns.map V.int)->sp w [.ref a] H (fun v _=>v=.bl true) fun _ _ _=>False)
  (hCX:∀ (w:World) (H:Hp) (s:Shared) (e:Value) (s':Shared),CX w [] H s (fun _ _ _=>False) e s'->False) :
  PySem.W.WalkO q loose XP YP l.row.toRowW d [] (fun f vs=>PySem.call f vs):=by
 refine Att.attach_call hn hdf fun w s₀ s₁ mg mb fa o pm cd doc a vs ns G Y ho hd hcd hmg hobj hints hlen hg=>?_;have KX:=hY w _ Y;obtain⟨fd,hb,hF⟩:=F w mg fa _ KX G.T.g hmg;exact zpZ KX G.T.g G.T.b G.T.builtins G.T.nolimit hg hobj hints (qx hlen hn2) hr hF hb (fun H hO hS=>hsp w H a ns hlen hO hS) fun H e s'=>hCX w H s₁ e s'
def zdd(s:Stmt):Arguments:=match s with
 | .FunctionDef _ a _ _ _ _ _ _ _ _=>a
 | _=>{ posonlyargs:=[],args:=[],vararg:=none,kwonlyargs:=[],kw_defaults:=[],kwarg:=none,defaults:=[] }
def zbl(s:Stmt):List Stmt:=match s with
 | .FunctionDef _ _ b _ _ _ _ _ _ _=>b
 | _=>[]
def zS(s:Stmt):Scope:=match s with
 | .FunctionDef _ _ _ _ _ _ sc _ _ _=>sc
 | _=>{ kind:=.function,names:=[],isGenerator:=false,isCoroutine:=false }
abbrev CX0:CXT:=fun _ _ _ _ _ _=>False
abbrev E0:XK:=fun _ _ _=>False
theorem zu2{X:Cx}:zgR CX0 X E0:=fun _ _ _ _ _ _ _ h=>h.elim
structure Fun (K:qc) (x qual:Str) (st:Stmt) (f:Addr) (fd:FuncData):Prop where
 ex:∃ (oc:Value) (od:Option Addr) (kV doc pm:Value) (an:Option Addr) (cdv ct:Value) (osl:Array (Option Value)),
  fd=PySem.W.fnOf x qual (zdd st) (zbl st) (zS st) .none kV doc pm an cdv ct/\K.lookup f=some ⟨oc,od,.func fd,osl⟩/\PySem.W.codeIn K cdv qual=true
 kp:PySem.W.keepIn K (.ref f)=true
section
variable {P:Program} {w:World} {K:qc} {mg:Str->Option Value} {base:Heap}
theorem Fun.ok{x qual:Str}{st:Stmt}{f:Addr}{fd:FuncData}{N ps:List Str}{k:Nat}{sp:Sp}(F:Fun K x qual st f fd)(S:FnScope N ps (zS st))(len:∀ vs H Q E,sp vs H Q E->vs.length=ps.length)
  (hbody:∀ (cdv:Value) (A:Around) (outer:List Env) (s:Shared) (H:Hp) (vs:List V) (Q:VK) (E:XK),Room k (A.deeper (envOfC qual (zS st) s.heap.objs.size f cdv))->sp vs H Q E ->
   ∃ t,PSs (ziX CX0 P w K mg base N qual (zS st) f cdv A outer s H E).nox (zbl st) t/\t { nx:=fun _ H'=>Q .non H',rt:=Q } (zbw N vs) H):FnOk P w K mg base CX0 (k+1) f fd ps sp:=by
 obtain⟨oc,od,kV,doc,pm,an,cdv,ct,osl,rfl,lk,hcd⟩:=F.ex;refine zyM lk hcd S len fun A outer s H vs Q E hr hsp=>?_;obtain⟨t,h,q⟩:=hbody cdv A outer s H vs Q E hr hsp;exact⟨t,h.nox,q⟩
theorem Fun.binds{x qual:Str}{st:Stmt}{f:Addr}{fd:FuncData}{ps:List Str}(F:Fun K x qual st f fd)
  (h:∀ (kV doc pm:Value) (an:Option Addr) (cdv ct:Value) (us:List Value),us.length=ps.length->bindArgs (PySem.W.fnOf x qual (zdd st) (zbl st) (zS st) .none kV doc pm an cdv ct) ⟨us,[]⟩=pure (ps.zip us)):zej K fd ps []:=by
 obtain⟨oc,od,kV,doc,pm,an,cdv,ct,osl,rfl,lk,hcd⟩:=F.ex;exact .all (h kV doc pm an cdv ct)
theorem zp0{x qual:Str}{st:Stmt}{f:Addr}{oc:Value}{od an:Option Addr}{osl:Array (Option Value)}{kV doc pm cdv ct:Value}(l:K.lookup f=some ⟨oc,od,.func (PySem.W.fnOf x qual (zdd st) (zbl st) (zS st) .none kV doc pm an cdv ct),osl⟩)
  (c:PySem.W.codeIn K cdv qual=true) (k:PySem.W.keepIn K (.ref f)=true):Fun K x qual st f (PySem.W.fnOf x qual (zdd st) (zbl st) (zS st) .none kV doc pm an cdv ct):=⟨⟨oc,od,kV,doc,pm,an,cdv,ct,osl,rfl,l,c⟩,k⟩
end
theorem zkk{A:Around}{k:Nat}(hr:Room k A):A.units+1 < cLine:=Nat.lt_of_le_of_lt (Nat.add_le_add_left (by decide:1<=64) _) hr.units
section
variable {X:Cx}
theorem pv(i:Nat){x:Str}{pos:Pos}(hN:X.N[i]?=some x:=by rfl)(hv:Vis X.env.scope x:=by first | exact Or.inl rfl | exact Or.inr (Or.inl rfl) | exact Or.inr (Or.inr rfl))(hd:(x==("__debug__":Str))=false:=by decide)
  (hcd:(x==("__classdict__":Str))=false:=by decide):PE X (.Name x pos) (ze6 i):=zwk hN hv hd hcd
end
def zaZ(H H':Hp):Prop:=∀ b o,H b=some o->H' b=some o
theorem zaZ.refl(H:Hp):zaZ H H:=fun _ _ h=>h
theorem zaZ.trans{H H1 H2:Hp}(a:zaZ H H1)(b:zaZ H1 H2):zaZ H H2:=fun c o h=>b c o (a c o h)
theorem zaZ.seq{K:qc}{H H':Hp}{a:Addr}{xs:List V}(e:zaZ H H')(h:SqL K H a xs):SqL K H' a xs:=by
 rcases h with (h | ⟨o,h⟩) | h
 ·exact .inl (.inl (e _ _ h))
 ·exact .inl (.inr ⟨o,e _ _ h⟩)
 ·exact .inr h
section
variable {X:Cx}
end
section
variable {κ:Type} [DecidableEq κ]
end
end L2
set_option maxHeartbeats 4000000
namespace L2
open PySem PySem.Spec PyProof.Rows
inductive Frees (X:Cx):List (Str×Addr)->List Str->List Nat->Prop where
 | nil:Frees X [] [] []
 | cons {x:Str} {c:Addr} {j:Nat} {cl:List (Str×Addr)} {xs:List Str} {js:List Nat} (hN:X.N[j]?=some x) (hk:X.env.scope.names.lookup x=some .cell\/X.env.scope.names.lookup x=some .free)
   (hc:X.env.cells.lookup x=some c) (t:Frees X cl xs js):Frees X ((x,c)::cl) (x::xs) (j::js)
def zG(X:Cx)(scope:Scope)(cl:List (Str×Addr))(Nc:List Str)(C:Addr)(s:Shared)(H:Hp)(ex:List Addr):Cx :=
 { X with s₀:=s,H₀:=H,env:=compEnvC scope (cellsFrom (C+1) scope.names cl) C X.env,N:=Nc,outer:=X.stack,stack:=X.stack,ex:=ex,fn:=fun x=>scope.names.lookup x==some .cell,pn:=[],xe:=fun _ _=>False }
def c0(nt:Nat)(js:List Nat)(σ:St):St:=List.replicate nt none++js.map fun j=>σ.getD j none
def Wk(a b:St):Prop:=a.length=b.length/\∀ (i:Nat) (v:V),a[i]?=some (some v)->b[i]?=some (some v)
theorem zxa{a:St}{i:Nat}{x:Option V}(h:a[i]?=some none):Wk a (a.set i x):=by
 refine⟨by simp,fun j v e=>?_⟩;have ne:i≠j:=by intro z; rw [z,e]at h; cases h
 rw [qB ne];exact e
theorem zi5{nt:Nat}{js:List Nat}{σ:St}{i:Nat}(h:i < nt):(c0 nt js σ)[i]?=some none:=by
 unfold c0;rw [List.getElem?_append_left (by simpa using h),List.getElem?_replicate,if_pos h]
theorem zbi{X:Cx}{cl:List (Str×Addr)}{xs:List Str}{js:List Nat}(f:Frees X cl xs js):∀ x c,cl.lookup x=some c->X.env.cells.lookup x=some c:=by
 induction f with
 | nil=>intro x c e; cases e
 | @cons y d j cl xs js hN hk hc t ih =>
  intro x c e;rw [List.lookup_cons]at e
  by_cases q:x=y
  ·subst q
   rw [beq_self_eq_true]at e;injection e with e1;rw [<-e1];exact hc
  ·rw [beq_eq_false_iff_ne.mpr q]at e
   exact ih x c e
theorem zii{X:Cx}{cl:List (Str×Addr)}{xs:List Str}{js:List Nat}(f:Frees X cl xs js):∀ x,x∈xs->∃ c,cl.lookup x=some c:=by
 induction f with
 | nil=>intro x m; cases m
 | @cons y d j cl xs js hN hk hc t ih =>
  intro x m;rw [List.lookup_cons]
  by_cases q:x=y
  ·subst q
   rw [beq_self_eq_true];exact⟨d,rfl⟩
  ·rw [beq_eq_false_iff_ne.mpr q]
   rcases qu.mp m with z | z
   ·exact absurd z q
   ·exact ih x z
theorem zp1{X:Cx}{cl:List (Str×Addr)}{xs:List Str}{js:List Nat}(f:Frees X cl xs js):∀ (i:Nat) (x:Str) (σ:St) (v:V),xs[i]?=some x->(js.map fun j=>σ.getD j none)[i]?=some (some v) ->
  ∃ j:Nat,X.N[j]?=some x/\σ[j]?=some (some v)/\(X.env.scope.names.lookup x=some .cell\/X.env.scope.names.lookup x=some .free)/\(∃ c,X.env.cells.lookup x=some c):=by
 induction f with
 | nil=>intro i x σ v e; simp at e
 | @cons y d j cl xs js hN hk hc t ih =>
  intro i x σ v e1 e2;cases i with
  | zero =>
   simp only [List.getElem?_cons_zero,Option.some.injEq]at e1;subst e1;refine⟨j,hN,?_,hk,d,hc⟩;simp only [List.map_cons,List.getElem?_cons_zero,Option.some.injEq]at e2;rw [qA]at e2;cases q:σ[j]? with
   | none=>rw [q]at e2; cases e2
   | some o=>rw [q]at e2; simp at e2; rw [e2]
  | succ i =>
   exact ih i x σ v (by simpa using e1) (by simpa using e2)
theorem zde{env:Env}:∀ {names:List (Str×NameKind)} {x:Str} {k:NameKind},
  (names.map fun(n,k)=>if(k==NameKind.free && env.scope.kind==.function && env.kindOf n==some .cell)then(n,NameKind.cell)else(n,k)).lookup x=some k ->
  ∃ k0,names.lookup x=some k0/\(x,k0)∈names/\(k=k0\/(k0=.free/\k=.cell)):=by
 intro names
 induction names with
 | nil=>intro x k e; cases e
 | cons p r ih =>
  intro x k e;obtain⟨n,kn⟩:=p
  by_cases q:x=n
  ·subst q
   refine⟨kn,by rw [List.lookup_cons,beq_self_eq_true],qo,?_⟩;rw [List.map_cons]at e;change List.lookup x ((if(kn==NameKind.free && env.scope.kind==.function && env.kindOf x==some .cell)=true then(x,NameKind.cell)else(x,kn))::_)=_ at e
   by_cases hh:(kn==NameKind.free && env.scope.kind==.function && env.kindOf x==some .cell)=true
   ·rw [if_pos hh,List.lookup_cons,beq_self_eq_true]at e
    injection e with e1;refine .inr ⟨?_,e1.symm⟩;simp only [Bool.and_eq_true]at hh;exact by simpa using hh.1.1
   ·rw [if_neg hh,List.lookup_cons,beq_self_eq_true]at e
    injection e with e1;exact .inl e1.symm
  ·rw [List.map_cons]at e
   change List.lookup x ((if(kn==NameKind.free && env.scope.kind==.function && env.kindOf n==some .cell)=true then(n,NameKind.cell)else(n,kn))::_)=_ at e;have e':(r.map fun(n,k)=>if(k==NameKind.free && env.scope.kind==.function && env.kindOf n==some .cell)then(n,NameKind.cell)else(n,k)).lookup x=some k:=by
    by_cases hh:(kn==NameKind.free && env.scope.kind==.function && env.kindOf n==some .cell)=true
    ·rw [if_pos hh,List.lookup_cons,beq_eq_false_iff_ne.mpr q]at e
     exact e
    ·rw [if_neg hh,List.lookup_cons,beq_eq_false_iff_ne.mpr q]at e
     exact e
   obtain⟨k0,h1,h2,h3⟩:=ih e';refine⟨k0,by rw [List.lookup_cons,beq_eq_false_iff_ne.mpr q]; exact h1,qm _ h2,h3⟩
theorem zoL{X:Cx}{cl:List (Str×Addr)}{xs:List Str}{js:List Nat}(f:Frees X cl xs js):js.length=xs.length:=by
 induction f with
 | nil=>rfl
 | cons _ _ _ _ ih=>simp [ih]
structure ScC (scope:Scope) (xs:List Str):Prop where
 kind:scope.kind=.function
 cell:∀ y∈scope.names,y.2=.cell->scope.names.lookup y.1=some .cell
 names:∀ y∈scope.names,y.2=.local->scope.names.lookup y.1=some .local
 free:∀ y∈scope.names,y.2=.free->y.1∈xs
 fk:∀ x∈xs,scope.names.lookup x=some .free
theorem zcL:∀ (ns:List (Str×NameKind)) (n:Nat) (acc:List (Str×Addr)),cellsFrom n ns acc=cellsFrom n ns []++acc
 | [],_,_=>rfl
 | (x,k)::r,n,acc=>by
  unfold cellsFrom;split
  ·rw [zcL r (n+1) ((x,n)::acc),zcL r (n+1) [(x,n)],List.append_assoc]
   rfl
  ·exact zcL r n acc
theorem zlR:∀ (ns:List (Str×NameKind)) (n:Nat) {x:Str} {c:Addr},(x,c)∈cellsFrom n ns []->(x,NameKind.cell)∈ns
 | [],_,_,_,h=>by cases h
 | (y,k)::r,n,x,c,h=>by
  unfold cellsFrom at h;split at h
  ·rename_i hk
   rw [zcL,List.mem_append]at h;rcases h with h | h
   ·exact qm _ (zlR r _ h)
   ·cases qp.mp h
    cases eq_of_beq hk;exact qo
  ·exact qm _ (zlR r _ h)
theorem zi6:∀ (ns:List (Str×NameKind)) (n:Nat) {x:Str},(x,NameKind.cell)∈ns->∃ c,(cellsFrom n ns []).lookup x=some c
 | [],_,_,h=>by cases h
 | (y,k)::r,n,x,h=>by
  unfold cellsFrom;rcases qu.mp h with e | h'
  ·cases e
   rw [if_pos (by rfl:(NameKind.cell==NameKind.cell)=true),zcL,List.lookup_append];cases(cellsFrom (n+1) r []).lookup y with
   | none=>exact⟨n,by rw [List.lookup_cons,beq_self_eq_true]; rfl⟩
   | some c=>exact⟨c,rfl⟩
  ·split
   ·obtain⟨c,e⟩:=zi6 r (n+1) h'
    rw [zcL,List.lookup_append,e];exact⟨c,rfl⟩
   ·exact zi6 r n h'
theorem zd2{ns:List (Str×NameKind)}{n:Nat}{acc:List (Str×Addr)}{x:Str}{c:Addr}(h:(cellsFrom n ns acc).lookup x=some c):(cellsFrom n ns []).lookup x=some c\/(acc.lookup x=some c/\(cellsFrom n ns []).lookup x=none):=by
 rw [zcL,List.lookup_append]at h;cases e:(cellsFrom n ns []).lookup x with
 | none=>rw [e]at h; exact .inr ⟨h,rfl⟩
 | some d=>rw [e]at h; exact .inl h
theorem zu3{ns:List (Str×NameKind)}{n:Nat}{acc:List (Str×Addr)}{x:Str}{c:Addr}(h:(cellsFrom n ns []).lookup x=some c):(cellsFrom n ns acc).lookup x=some c:=by
 rw [zcL,List.lookup_append,h];rfl
theorem zkl{M:Model}{A:Around}{E:Value->Shared->Prop}{s:Shared}{scope:Scope}{globals:Addr}{cl:List (Str×Addr)}{qual:Str}{env:Env}{bs:Addr}{Q:Env->Shared->Prop}
  (hQ:∀ h1,h1.Ns s.heap.objs.size (fun _=>none)->(∀ b o,s.heap.get? b=some o->h1.get? b=some o)->CellsOk h1 (s.heap.objs.size+1) (cellsFrom (s.heap.objs.size+1) scope.names []) ->
   Q (newEnv scope s.heap.objs.size globals (cellsFrom (s.heap.objs.size+1) scope.names cl) qual none .none (some env) bs) { s with heap:=h1 }) :
  wpAny M A (newFunctionEnv scope globals cl [] qual none .none (some env) bs) Q E s:=by
 simp only [newFunctionEnv,Option.isSome_some,if_true];refine qa (wpAny_alloc ?_);refine qa (wpAny_layCells _ (fun name kind cells=>by cases hkc:kind==NameKind.cell<;>simp [hkc]) _ _ _ _ ?_);have ok:=cellsFrom_ok scope.names (s.heap.push { cls:=.type "dict",data:=.dict #[] }) (s.heap.objs.size+1) [] ⟨fun _ _ hm=>(nomatch hm),List.Pairwise.nil⟩ (by rw [Heap.size_push]; exact qe _);rw [Heap.size_push]at ok;rw [show({ s with heap:=s.heap.push { cls:=.type "dict",data:=.dict #[] } }:Shared).heap.objs.size=s.heap.objs.size+1 from Heap.size_push ..];rw [List.forIn_nil];exact qa (qb (qb (hQ _ ((Heap.Ns.new s.heap (.type "dict")).keeps (pushCells_keeps _ _)) (fun b o e=>pushCells_keeps _ _ b o (qd _ e)) ok)))
section
variable {X:Cx} {pins:List (Addr×Obj)} {σ:St} {H:Hp} {s:Shared} {scope:Scope} {cl:List (Str×Addr)} {xs:List Str} {js:List Nat} {nt:Nat} {ts:List Str} {fp:List Addr} {C:Addr}
theorem zi7{hx:Heap}(I:Inv X pins σ H s)(S:ScC scope xs)(f:Frees X cl xs js)(ck:CellsOk hx (C+1) (cellsFrom (C+1) scope.names []))(hC:s.heap.objs.size<=C)(hf:∀ b∈fp,zcc X pins H b)(hl:∀ b∈fp,b < s.heap.objs.size) :
  (zG X scope cl (ts++xs) C s H fp).Ok where
 mod:=I.ok.mod
 kind:=S.kind
 glob:=I.ok.glob
 blt:=I.ok.blt
 above:=hC
 inj:=fun x y c e1 e2=>by
  have no:∀ {x y:Str},(cellsFrom (C+1) scope.names []).lookup x=some c->cl.lookup y=some c->False:=fun z1 z2=>by
   obtain⟨v,o,q,_⟩:=I.cell _ c (zbi f _ c z2);have q1:=qh q;have q2:=(ck.empty _ _ (mem_of_lookup z1)).2;exact Nat.lt_irrefl _ (qi q1 (qx hC (qx (Nat.le_succ C) q2)))
  rcases zd2 e1 with z1 | ⟨z1,_⟩<;>rcases zd2 e2 with z2 | ⟨z2,_⟩
  ·exact name_of_addr ck.apart (mem_of_lookup z1) (mem_of_lookup z2)
  ·exact(no z1 z2).elim
  ·exact(no z2 z1).elim
  ·exact I.ok.inj x y c (zbi f x c z1) (zbi f y c z2)
 has:=fun x h=>by
  have z:∃ k0,scope.names.lookup x=some k0/\(x,k0)∈scope.names/\(k0=NameKind.free\/k0=NameKind.cell):=by
   rcases h with h | h
   ·obtain⟨k0,h1,h2,h3⟩:=zde (env:=X.env) (names:=scope.names) h
    rcases h3 with h3 | h3
    ·exact⟨k0,h1,h2,.inr h3.symm⟩
    ·exact⟨k0,h1,h2,.inl h3.1⟩
   ·obtain⟨k0,h1,h2,h3⟩:=zde (env:=X.env) (names:=scope.names) h
    rcases h3 with h3 | h3
    ·exact⟨k0,h1,h2,.inl h3.symm⟩
    ·cases h3.2
  obtain⟨k0,_,h2,h3⟩:=z;show ∃ c,(cellsFrom (C+1) scope.names cl).lookup x=some c;rcases h3 with h3 | h3
  ·obtain⟨c,e⟩:=zii f x (S.free _ h2 h3)
   rw [zcL,List.lookup_append,e];cases(cellsFrom (C+1) scope.names []).lookup x with
   | none=>exact⟨c,rfl⟩
   | some d=>exact⟨d,rfl⟩
  ·subst h3
   obtain⟨c,e⟩:=zi6 scope.names (C+1) h2;exact⟨c,zu3 e⟩
 cab:=fun x c h e=>by
  obtain⟨d,q⟩:=zi6 scope.names (C+1) (mem_of_lookup (eq_of_beq h));have e':(cellsFrom (C+1) scope.names cl).lookup x=some c:=e;rw [zu3 q]at e';cases e';have:=(ck.empty _ _ (mem_of_lookup q)).2;show s.heap.objs.size<=c;omega
 hd:=I.ok.hd
 frames:=I.ok.frames
 stk:=.inl rfl
 exf:=fun b hb=>⟨qj (qi (hl b hb) hC),fun x c e=>by
  rcases zd2 e with z | ⟨z,_⟩
  ·have q1:=(ck.empty _ _ (mem_of_lookup z)).2
   exact Nat.ne_of_gt (qi (hl b hb) (qx hC (qx (Nat.le_succ C) q1)))
  ·exact(hf b hb).2.2.2.2.1 x c (zbi f x c z)⟩
 bs:=I.bs
 bsz:=qx I.ok.bsz I.sz
 noex:=fun b o e hb=>by
  rcases(hf b hb).2.2.2.1 with z | z
  ·exact I.ok.noex b o e z
  ·exact absurd (qi (qh (I.ok.bs b o e).1) z) (Nat.lt_irrefl _)
 exfs:=fun b hb z=>by
  rcases qu.mp (I.stkSub b z)with q | q
  ·exact(hf b hb).2.1 q
  ·exact(hf b hb).2.2.1 q
 funs:=I.stack
 frf:=I.stkFree
theorem zkm{m:Str->Option Value}{h1:Heap}{tk:Nat}(I:Inv X pins σ H s)(S:ScC scope xs)(f:Frees X cl xs js)(hts:ts.length=nt)(hC:s.heap.objs.size<=C)(hf:∀ b∈fp,zcc X pins H b)(hl:∀ b∈fp,b < s.heap.objs.size)
  (hk:∀ b o,s.heap.get? b=some o->h1.get? b=some o) (hn:h1.Ns C m) (ck:CellsOk h1 (C+1) (cellsFrom (C+1) scope.names [])):Inv (zG X scope cl (ts++xs) C s H fp) [] (c0 nt js σ) H { s with heap:=h1,toks:=tk } where
 ok:=zi7 I S f ck hC hf hl
 os:=rfl
 bare:=I.bare
 base:=Un.kept hk
 loc:=by
  refine⟨m,hn,fun i x v e1 e2 e3=>?_⟩;have hi:nt<=i:=by
   rcases Nat.lt_or_ge i nt with z | z
   ·rw [zi5 z]at e2; cases e2
   ·exact z
  have e1':xs[i - nt]?=some x:=by
   have z:(ts++xs)[i]?=some x:=e1;rw [List.getElem?_append_right (by omega),hts]at z;exact z
  have e2':(js.map fun j=>σ.getD j none)[i - nt]?=some (some v):=by
   unfold c0 at e2;rw [List.getElem?_append_right (by simpa using hi),List.length_replicate]at e2;exact e2
  obtain⟨j,hN,hσ,hkk,c,hc⟩:=zp1 f (i - nt) x σ v e1' e2';obtain⟨m0,_,hl0⟩:=I.loc;obtain⟨u,r,lk⟩:=hl0 j x v hN hσ (.inr hkk);refine⟨u,r,.inr ⟨?_,?_⟩⟩
  ·rcases e3 with z | z | z
   ·have hx:x∈xs:=List.mem_of_getElem? e1'
    obtain⟨k0,h1,h2,h3⟩:=zde (env:=X.env) (names:=scope.names) z;have q:=S.fk x hx;rw [h1]at q;cases q;rcases h3 with h3 | h3
    ·cases h3
    ·cases h3.2
   ·exact .inl z
   ·exact .inr z
  ·obtain⟨c',hc'⟩:=zii f x (List.mem_of_getElem? e1')
   have no:(cellsFrom (C+1) scope.names []).lookup x=none:=by
    cases e:(cellsFrom (C+1) scope.names []).lookup x with
    | none=>rfl
    | some d =>
     have z:=S.cell _ (zlR _ _ (mem_of_lookup e)) rfl;rw [S.fk x (List.mem_of_getElem? e1')]at z;cases z
   refine⟨c',?_,?_⟩
   ·show(cellsFrom (C+1) scope.names cl).lookup x=some c'
    rw [zcL,List.lookup_append,no,hc'];rfl
   have q:=zbi f x c' hc';rcases lk with ⟨l1,_⟩ | ⟨_,c'',l2,l3⟩
   ·exfalso
    have l1':X.env.scope.names.lookup x=some .local:=l1;rcases hkk with z | z<;>rw [z]at l1'<;>cases l1'
   ·rw [q]at l2
    cases l2;exact l3.keeps hk
 cell:=fun x c e=>by
  rcases zd2 e with z | ⟨z,_⟩
  ·exact⟨_,(ck.empty _ _ (mem_of_lookup z)).1⟩
  ·obtain⟨v,z⟩:=I.cell x c (zbi f x c z)
   exact⟨v,z.keeps hk⟩
 free:=I.hok.fresh hC
 freeC:=fun x c e=>by
  rcases zd2 e with z | ⟨z,_⟩
  ·exact I.hok.fresh (by have:=(ck.empty _ _ (mem_of_lookup z)).2; omega)
  ·exact I.freeC x c (zbi f x c z)
 pin:=fun p hp=>by cases hp
 hok:=I.hok.kept hk
 len:=by
  show(c0 nt js σ).length=(ts++xs).length;unfold c0;rw [qr,qr,List.length_replicate,List.length_map,hts];rw [zoL f]
theorem zij{P:Program}{w:World}{K:qc}{H:Hp}{h:Heap}{a:Addr}{o:HO}(x:HOk P w K H h)(hn:H a=none)(new:zX P w K (upd H a o) h a o):HOk P w K (upd H a o) h:=fun b u e=>by
 by_cases hb:b=a
 ·subst hb; rw [zt]at e; cases e; exact new
 ·rw [zu hb]at e
  exact(x b u e).stay (fun _ _ _ q=>q) (fun c q=>(zu (zP q hn)).trans q) fun c ys q=>(zu (zP q hn)).trans q
theorem zkn{fs ex:List Addr}{H H1:Hp}{h h1:Heap}{a:Addr}{o:HO}(u:Un fs ex H H1 h h1)(hn:H1 a=none)(ha:h.objs.size<=a):Un fs ex H (upd H1 a o) h h1 where
 keep:=u.keep
 slot:=u.slot
 free:=fun b ob q n hx=>(zu (qj (qi (qh q) ha))).trans (u.free b ob q n hx)
 there:=u.there
 tups:=fun b ys q=>(zu (zP (u.tups b ys q) hn)).trans (u.tups b ys q)
 frzs:=fun b ob ys q=>(zu (zP (u.frzs b ob ys q) hn)).trans (u.frzs b ob ys q)
 tbls:=fun b ps q=>by
  obtain⟨more,e⟩:=u.tbls b ps q;exact⟨more,(zu (zP e hn)).trans e⟩
def zgV(X:Cx)(ifs:List Expr)(t:TT):Prop :=
 ∀ (pins:List (Addr×Obj)) (s:Shared) (σ:St) (H:Hp) (Q:Bool->Hp->Prop),Inv X pins σ H s->t σ H Q ->
  wpAny (model X.prog X.w) X.A (forIn ifs true fun c r=>if r=true then do let ok <-isTrue c X.env (eval c X.env); pure (ForInStep.yield ok)else pure (ForInStep.yield r)) (TP X pins σ Q) X.xe s
def zxb:TT:=fun _ H Q=>Q true H
theorem zp2{X:Cx}:zgV X [] zxb:=fun _ _ _ H _ I h=>wpAny_tests_nil ⟨H,I,h⟩
theorem zp3{X:Cx}{c:Expr}{t:TT}(h:PT X c t):zgV X [c] t:=fun pins s σ H Q I q=>wpAny_tests_one (h pins s σ H Q I q)
theorem zlS{α:Type}{t:Sem α}{Q Q':α->Shared->Prop}{M:Model}{A:Around}{E:Value->Shared->Prop}{s:Shared}(h:wpAny M A t Q (fun _ _=>False) s)(hQ:∀ a s,Q a s->Q' a s):wpAny M A t Q' E s:=wpAny_mono h hQ fun _ _ x=>x.elim
theorem zlT{prog:Program}{w:World}{A:Around}{R:Result->Shared->Prop}{s:Shared}{elt target iter:Expr}{ifs:List Expr}{scope:Scope}{pos:Pos}{it acc:Value}{env:Env}(I:Nat->Shared->Prop)
  (turn:∀ n s,I n s->∀ E,wpAny (model prog w) A (pyNext it) (fun r s1=>match r with
   | none=>R (.ok .next) s1
   | some v=>wpAny (model prog w) A (letOwnedTupleGo target it v) (fun _ s2=>wpAny (model prog w) A (assign target env v) (fun _ s3 =>
     wpAny (model prog w) A (forIn ifs true fun c r=>if r=true then do let ok <-isTrue c env (eval c env); pure (ForInStep.yield ok)else pure (ForInStep.yield r)) (fun ok s4 =>
      (ok=true->wpAny (model prog w) A (eval elt env) (fun x s5=>wpAny (model prog w) A (call (.builtin "list.append") [acc,x]) (fun _ s6=>∃ m,m < n/\I m s6) E s5) E s4) /\
      (ok=false->∃ m,m < n/\I m s4)) E s3) E s2) E s1) E s)
  (n:Nat) (h:I n s):codeAny (model prog w) A (.compLoop (.ListComp elt [⟨target,iter,ifs,0⟩] scope pos) 0 it acc env) R s:=by
 refine codeAny_loop rfl I (fun n s hI=>?_) n h;show wpAny _ A ((compTurn _ 0 it acc env).onRaise (fun x=>do noteFrame x env; theTreesLotGoes x)) _ _ s;refine wpAny_noted ?_;rw [compTurn_list];refine qa (wpAny_standAt (qa (wpAny_mono (turn n s hI _) (fun r s1 h1=>?_) fun _ _ z=>z)));cases r with
 | none=>exact qb h1
 | some v =>
  refine qa (wpAny_mono h1 (fun _ s2 h2=>?_) fun _ _ z=>z);refine qa (wpAny_mono h2 (fun _ s3 h3=>?_) fun _ _ z=>z);refine qa (wpAny_mono h3 (fun ok s4 h4=>?_) fun _ _ z=>z);cases ok with
  | false=>exact qb ⟨rfl,h4.2 rfl⟩
  | true =>
   refine qa (qa (wpAny_mono (h4.1 rfl) (fun x s5 h5=>?_) fun _ _ z=>z));exact qa (wpAny_mono h5 (fun _ s6 h6=>qb (qb ⟨rfl,h6⟩)) fun _ _ z=>z)
def zyS(J:It)(σc:St)(g:TG)(tt:TT)(te:TE)(Z:List V->Hp->Prop)(H1:Hp):Prop :=
 ∃ W:Nat->Nat->List V->Hp->Prop,(∃ m,W 0 m [] H1)/\∀ i m ys H,W i m ys H ->
  (J.stop i H/\Z ys H)\/(J.go i H/\ys.length < sizeLine/\∃ N:List V->Hp->Prop,(∀ ys' H',N ys' H'->∃ m',m' < m/\W (i+1) m' ys' H') /\
   ∀ x H',J.yld i H x H'->g x σc H' fun σ2 H2=>tt σ2 H2 fun b H3=>if b=true then te σ2 H3 fun y H4=>N (ys++[y]) H4 else N ys H3)
def GW(σc:St)(g:TG):Prop:=∀ x H (Q:St->Hp->Prop),g x σc H Q->g x σc H fun σ2 H2=>Wk σc σ2/\Q σ2 H2
theorem zgW{elt iter tg:Expr}{ifs:List Expr}{pos:Pos}{J:It}{it:Addr}{tn:Nat->Heap->Prop}{g:TG}{tt:TT}{te:TE}{Z:List V->Hp->Prop}{RR:Value->Addr->Result->Shared->Prop}{E:Value->Shared->Prop}
  (hc:X.calm=true) (I:Inv X pins σ H s) (S:ScC scope xs) (f:Frees X cl xs js) (hts:ts.length=nt) (T:Turn X.prog X.w X.K tg J fp it tn) (st:tn 0 s.heap) (hf:∀ b∈fp,zcc X pins H b)
  (hg:∀ C s H ex,PG (zG X scope cl (ts++xs) C s H ex) tg g) (ht:∀ C s H ex,zgV (zG X scope cl (ts++xs) C s H ex) ifs tt) (he:∀ C s H ex,PE (zG X scope cl (ts++xs) C s H ex) elt te)
  (gw:GW (c0 nt js σ) g) (h:zyS J (c0 nt js σ) g tt te Z H)
  (hRR:∀ (D C:Addr) (m:Str->Option Value) (s':Shared) (ys:List V) (H':Hp),Z ys H'->H' D=none->Inv X pins σ (upd H' D (.lst ys)) s'->s'.heap.Ns C m->upd H' D (.lst ys) C=none->C≠X.env.locals ->
   (∀ x c,X.env.cells.lookup x=some c->c≠C)->X.s₀.heap.objs.size<=C->(∀ p∈X.pn++pins,p.1≠C)->RR (.ref D) C (.ok .next) s') :
  wpAny (model X.prog X.w) X.A (newList []) (fun acc s3=>wpAny (model X.prog X.w) X.A (newFunctionEnv scope X.env.globals cl [] X.env.qual none .none (some X.env)) (fun cenv s4 =>
   codeAny (model X.prog X.w) X.A (.compStart (.ListComp elt [⟨tg,iter,ifs,0⟩] scope pos) 0 (.ref it) acc { cenv with scope:=relabel scope X.env }) (RR acc cenv.locals) s4) E s3) E s:=by
 refine qy (zkl fun h1 hn1 hsb1 ck=>?_);dsimp only at hn1 hsb1 ck ⊢;generalize hH2:s.heap.push { cls:=.type "list",dict:=none,data:=.seq ([]:List Value).toArray }=G at hn1 hsb1 ck ⊢;have hCs:G.objs.size=s.heap.objs.size+1:=by rw [<-hH2,Heap.size_push]
 have hC:s.heap.objs.size<=G.objs.size:=by rw [hCs]; exact Nat.le_succ _
 have hDC:s.heap.objs.size≠G.objs.size:=by rw [hCs]; exact qj (Nat.lt_succ_self _)
 have hl:∀ b∈fp,b < s.heap.objs.size:=fun b hb=>by
  obtain⟨o,e,_⟩:=T.obj _ _ st b hb;exact qh e
 have old:∀ b o,s.heap.get? b=some o->h1.get? b=some o:=fun b o e =>
  hsb1 b o (hH2▸qd _ e)
 have hD1:h1.get? s.heap.objs.size=some { cls:=.type "list",data:=.seq ([]:List Value).toArray }:=hsb1 _ _ (hH2▸qg _ rfl);have J0:Inv (zG X scope cl (ts++xs) G.objs.size s H fp) [] (c0 nt js σ) H { s with heap:=h1 }:=zkm (tk:=s.toks) I S f hts hC hf hl old hn1 ck;obtain⟨W,⟨m0,w0⟩,turn⟩:=h;have st1:tn 0 h1:=T.keep _ _ _ st fun b hb o e=>old b o e;have hDn:H s.heap.objs.size=none:=I.hok.fresh (qe _);have Dnot:∀ b∈fp,s.heap.objs.size≠b:=fun b hb z=>absurd (hl b hb) (by rw [<-z]; exact Nat.lt_irrefl _);have fpk:∀ {H':Hp} {pl:List (Addr×Obj)},(∀ b∈fp,H' b=none)->(∀ p∈pl,p.1=s.heap.objs.size)->∀ b∈fp,zcc (zG X scope cl (ts++xs) G.objs.size s H fp) pl H' b:=fun{H' pl} hn hp b hb=>by
  refine⟨hn b hb,qj (qi (hl b hb) hC),fun z=>?_,.inl hb,fun x c e=>((zi7 I S f ck hC hf hl (ts:=ts)).exf b hb).2 x c e,fun p hpp z=>?_⟩
  ·rcases qu.mp (I.stkSub b z)with q | q
   ·exact(hf b hb).2.1 q
   ·exact(hf b hb).2.2.1 q
  ·rcases List.mem_append.mp hpp with q | q
   ·cases q
   ·exact Dnot b hb ((hp p q).symm.trans z)
 have loop:codeAny (model X.prog X.w) X.A (.compLoop (.ListComp elt [⟨tg,iter,ifs,0⟩] scope pos) 0 (.ref it) (.ref s.heap.objs.size) (compEnvC scope (cellsFrom (G.objs.size+1) scope.names cl) G.objs.size X.env)) (RR (.ref s.heap.objs.size) G.objs.size)
   { s with heap:=h1 }:=by
  refine zlT (fun n s'=>∃ i ys its nn H',Inv (zG X scope cl (ts++xs) G.objs.size s H fp) [] (c0 nt js σ) H' s'/\tn i s'.heap/\(∀ b∈fp,H' b=none)/\H' s.heap.objs.size=none /\
   s'.heap.get? s.heap.objs.size=some { cls:=.type "list",data:=.seq (List.toArray its) nn }/\zH ys its/\ys.length<=sizeLine/\W i n ys H') ?_ m0
   ⟨0,[],[],0,H,J0,st1,fun b hb=>(hf b hb).1,hDn,hD1,.nil,Nat.zero_le _,w0⟩
  rintro n s3 ⟨i,ys,its,nn,H3,I3,st3,fr3,d3,o3,r3,z3,w3⟩ E';have cne:s.heap.objs.size≠(zG X scope cl (ts++xs) G.objs.size s H fp).env.locals:=hDC;have I3p:Inv (zG X scope cl (ts++xs) G.objs.size s H fp) [(s.heap.objs.size,{ cls:=.type "list",data:=.seq its.toArray nn })] (c0 nt js σ) H3 s3:=I3.pins_of fun p hp=>by
   have e:p=(s.heap.objs.size,{ cls:=.type "list",data:=.seq its.toArray nn }):=by simpa using hp
   subst e;refine⟨o3,d3,cne,fun z=>?_,fun v z=>by cases z⟩;obtain⟨_,ob,e,_⟩:=I.stack.mem z;exact absurd (qh e) (Nat.lt_irrefl _)
  have pl1:∀ p∈[(s.heap.objs.size,({ cls:=.type "list",data:=.seq its.toArray nn }:Obj))],p.1=s.heap.objs.size:=fun p hp=>by
   have e:p=(s.heap.objs.size,{ cls:=.type "list",data:=.seq its.toArray nn }):=by simpa using hp
   rw [e]
  rcases turn i n ys H3 w3 with ⟨stop,qz⟩ | ⟨go,hsz,N,hN,step⟩
  ·refine thn (T.done (zG X scope cl (ts++xs) G.objs.size s H fp) rfl rfl rfl hc i _ s3 _ H3 E' I3p (fpk fr3 pl1) st3 stop) fun r s4 ⟨hr,I4⟩=>?_
   subst hr;have o4:s4.heap.get? s.heap.objs.size=some { cls:=.type "list",data:=.seq its.toArray nn }:=(I4.pin _ (qv _ qo)).1;obtain⟨m4,n4,_⟩:=I4.loc;have hk4:HOk X.prog X.w X.K (upd H3 s.heap.objs.size (.lst ys)) s4.heap:=zij I4.hok d3 ⟨z3,its,nn,r3,o4⟩;have un4:Un (frs X.stack) fp H (upd H3 s.heap.objs.size (.lst ys)) s.heap s4.heap:=zkn I4.base d3 (qe _);refine hRR _ _ m4 s4 ys H3 qz d3 (I.call' I4.os un4 hk4 I4.bare fun b hb=>⟨(hf b hb).2.2.2.1,(hf b hb).2.1,(hf b hb).2.2.2.2.1,fun p hp=>(hf b hb).2.2.2.2.2 p hp⟩) n4 ?_ ?_ ?_ ?_ ?_
   ·rw [zu (Ne.symm hDC)]
    exact I4.free
   ·exact fun z=>absurd I.lt (by rw [<-z]; exact Nat.not_lt.mpr hC)
   ·intro x c e z
    obtain⟨v,ob,q,_⟩:=I.cell x c e;exact absurd (qh q) (by rw [z]; exact Nat.not_lt.mpr hC)
   ·exact qx I.sz hC
   ·intro p hp z
    have q:=(I.pin p hp).1;exact absurd (qh q) (by rw [z]; exact Nat.not_lt.mpr hC)
  ·refine thn (T.item (zG X scope cl (ts++xs) G.objs.size s H fp) rfl rfl rfl hc i _ s3 _ H3 E' I3p (fpk fr3 pl1) st3 go) fun r s4 ⟨u,hr,h4⟩=>?_
   subst hr;refine thn h4 fun _ s5 ⟨x,H5,I5,r5,y5,st5,fr5⟩=>?_;have I5':=I5.pinned (fpk fr5 pl1) (T.obj _ _ st5);refine zlS (hg _ _ _ _ _ s5 _ H5 x u _ I5' r5 (gw _ _ _ (step x H5 y5))) fun _ s6 ⟨σ6,H6,I6,wk6,q6⟩=>?_;refine zlS (ht _ _ _ _ _ s6 σ6 H6 _ I6 q6) fun ok s7 ⟨H7,I7,q7⟩=>?_;have after:∀ {H8:Hp} {s8:Shared},Inv (zG X scope cl (ts++xs) G.objs.size s H fp) ([(s.heap.objs.size,({ cls:=.type "list",data:=.seq its.toArray nn }:Obj))]++zfQ fp s5.heap) σ6 H8 s8 ->
     tn (i+1) s8.heap/\(∀ b∈fp,H8 b=none)/\H8 s.heap.objs.size=none/\s8.heap.get? s.heap.objs.size=some { cls:=.type "list",data:=.seq its.toArray nn } /\
      Inv (zG X scope cl (ts++xs) G.objs.size s H fp) [] (c0 nt js σ) H8 s8:=fun{H8 s8} I8=>by
    have dd:=I8.pin (s.heap.objs.size,({ cls:=.type "list",data:=.seq its.toArray nn }:Obj)) (qv _ (List.mem_append_left _ qo));refine⟨T.keep _ _ _ st5 fun b hb o e=>(I8.pin (b,o) (qv _ (qv _ (za9 hb e)))).1,fun b hb=>?_,dd.2.1,dd.1,?_⟩
    ·obtain⟨o,e,d⟩:=T.obj _ _ st5 b hb
     exact(I8.pin (b,o) (qv _ (qv _ (za9 hb e)))).2.1
    ·exact(I8.weak wk6.1 wk6.2).pins_of fun p hp=>by cases hp
   refine⟨fun hok=>?_,fun hok=>?_⟩
   ·subst hok
    rw [if_pos rfl]at q7;refine zlS (he _ _ _ _ _ s7 σ6 H7 _ I7 q7) fun v s8 ⟨y,H8,I8,ry,q8⟩=>?_;obtain⟨st8,fr8,d8,o8,I8'⟩:=after I8;obtain⟨m',hm,w8⟩:=hN _ _ q8;refine call_meets F.slot_list_append ⟨_,o8,rfl⟩ F.entry_list_append (F.args_list_append_2 _ _) (PySem.list_append s.heap.objs.size its.toArray nn v (by rw [List.size_toArray,<-r3.length]; omega)) ⟨o8,?_⟩;obtain⟨_,f1,_,f3,f4,_⟩:=(⟨d8,cne,trivial,.inr (qe _),fun x c e=>by
     rcases zd2 e with z | ⟨z,_⟩
     ·exact Nat.ne_of_gt (qi (Nat.lt_of_le_of_lt hC (Nat.lt_succ_self _)) (ck.empty _ _ (mem_of_lookup z)).2)
     ·obtain⟨v0,ob,q,_⟩:=I.cell x c (zbi f x c z)
      exact Nat.ne_of_gt (qh q) |>.symm,trivial⟩:H8 s.heap.objs.size=none/\s.heap.objs.size≠(zG X scope cl (ts++xs) G.objs.size s H fp).env.locals/\True/\(s.heap.objs.size∈fp\/s.heap.objs.size<=s.heap.objs.size) /\
      (∀ x c,(cellsFrom (G.objs.size+1) scope.names cl).lookup x=some c->c≠s.heap.objs.size)/\True)
    have q:=PySem.IsL.update o8 (fun x=>x.push v);have hp:its.toArray.push v=(its++[v]).toArray:=by simp
    rw [hp]at q;refine⟨m',hm,i+1,ys++[y],its++[v],_,H8,I8'.turned (t':=s8.toks) (it:=s.heap.objs.size) (fun b o hb e=>(Heap.get?_update_other s8.heap _ (Ne.symm hb)).trans e) d8 f1 f3 f4 (fun p hp=>by cases hp),?_,fr8,d8,q,r3.append (.cons ry .nil),?_,w8⟩
    ·exact T.keep _ _ _ st8 fun b hb o e=>(Heap.get?_update_other s8.heap _ (Dnot b hb)).trans e
    ·rw [qr,List.length_singleton]
     omega
   ·subst hok
    rw [if_neg qf]at q7;obtain⟨st7,fr7,d7,o7,I7'⟩:=after I7;obtain⟨m',hm,w7⟩:=hN _ _ q7;exact⟨m',hm,i+1,ys,its,nn,H7,I7',st7,fr7,d7,o7,r3,z3,w7⟩
 exact codeAny_compStart_list loop (T.self _ _ _ _ _ st1 loop)
def tLC(wi:TI)(nt:Nat)(js:List Nat)(g:TG)(tt:TT)(te:TE):TE:=fun σ H Q=>wi σ H fun J H1 =>
 zyS J (c0 nt js σ) g tt te (fun ys H2=>∀ D,H2 D=none->Q (.ref D) (upd H2 D (.lst ys))) H1
theorem zyT{elt iter tg:Expr}{ifs:List Expr}{pos:Pos}{wi:TI}{g:TG}{tt:TT}{te:TE}(nt:Nat)(ts:List Str)(hts:ts.length=nt)(hc:X.calm=true)(S:ScC scope xs)(f:Frees X cl xs js)(hclos:closureFor scope X.env=pure cl)
  (hi:PI X tg iter wi) (hg:∀ C s H ex,PG (zG X scope cl (ts++xs) C s H ex) tg g) (gw:∀ σ:St,GW (c0 nt js σ) g) (ht:∀ C s H ex,zgV (zG X scope cl (ts++xs) C s H ex) ifs tt)
  (he:∀ C s H ex,PE (zG X scope cl (ts++xs) C s H ex) elt te) (hs:∀ x,foldedSetIterable iter X.env x=pure x:=by intro _; rfl) :
  PE X (.ListComp elt [⟨tg,iter,ifs,0⟩] scope pos) (tLC wi nt js g tt te):=by
 intro pins s σ H Q I h;rw [eval_ListComp];refine wpAny_comprehension_free (use:=none) rfl hs hclos S.kind S.names (thn (hi pins s σ H _ I h) fun v s1 h1=>thn h1 fun itv s2 h2=>?_);obtain⟨it,fp,tn,J,H2,e,I2,T,st2,f2,q⟩:=h2;subst e;refine zgW (RR:=fun acc C=>compPost (model X.prog X.w) X.A X.xe none (EP X pins σ Q) acc C) hc I2 S f hts T st2 f2 hg ht he (gw σ) q ?_;intro D C m s' ys H' z hD I' hn hCn hCL hCc hCs hCp;refine⟨m,hn,fun h' hs'=>⟨.ref D,_,I'.turned (it:=C) (fun b o hb e=>hs'.extBut b o hb e) hCn hCL (.inr hCs) hCc hCp,rfl,z D hD⟩⟩
end
section
variable {X:Cx}
def zik(_ j:Int):Prop:=0 < j/\j.natAbs.log2 < 9000
theorem zfa:OpR X (binaryOp .FloorDiv) (rI zik fun i j=>.int (i / j)):=opI fun i j _ _ _ _ _ hc q=>by
 have h1:(0:Int) < j:=hc.1;exact floordiv_int (by omega) (by rw [Int.fdiv_eq_ediv_of_nonneg i (by omega)]; exact q) (.inl (PyProof.noPylong_of_log2 hc.2))
def zgX(_ j:Int):Prop:=j≠0/\j.natAbs.log2 < 9000
theorem zcY:OpR X (binaryOp .FloorDiv) (rI zgX fun i j=>.int (i.fdiv j)):=opI fun i j _ _ _ _ _ hc q =>
 floordiv_int hc.1 q (.inl (PyProof.noPylong_of_log2 hc.2))
theorem zba{n:Nat}{k:Nat}(hk:0 < k)(h:n < 2^k):n.log2 < k:=by
 by_cases hn:n=0
 ·subst hn; exact hk
 ·exact(Nat.log2_lt hn).mpr h
theorem ztv{i j:Int}(h:0 < j)(h2:j<=2^128):zik i j:=⟨h,Nat.lt_trans (zba (k:=129) (by decide) (by omega)) (by decide)⟩
end
theorem zi8{nt:Nat}{js:List Nat}{i:Nat}(h:i < nt):∀ σ:St,GW (c0 nt js σ) (zcX i):=fun σ x H Q q=>⟨zxa (zi5 h),q⟩
def SameBut(p:Addr)(H H':Hp):Prop:=∀ b o,b≠p->H b=some o->H' b=some o
theorem zF{H:Hp}{p:Addr}(h:H p=none)(o:HO):zaZ H (upd H p o):=fun b u q=>by rw [zu (zP q h)]; exact q
def Bl(mg:Str->Option Value)(xs:List Str):Prop:=∀ x,x∈xs->mg x=none
theorem Bl.nil{mg:Str->Option Value}:Bl mg []:=fun _ h=>by cases h
theorem Bl.cons{mg:Str->Option Value}{x:Str}{xs:List Str}(h:mg x=none)(t:Bl mg xs):Bl mg (x::xs):=fun y m=>by
 rcases qu.mp m with e | e
 ·rw [e]; exact h
 ·exact t y e
def zR:Expr->Bool
 | .Starred _ _=>false
 | _=>true
theorem zcf{e:Expr}{es:List Expr}{env:Env}(h:zR e=true):starEach (e::es) env=(false,eval e env)::starEach es env:=by
 cases e<;>first | rfl | cases h
theorem zbN{pos:Pos}{env:Env}:∀ {es:List Expr},es.all zR=true->(backTo pos (starEach es env)).any (·.1)=false
 | [],_=>rfl
 | e::es,h=>by
  rw [List.all_cons,Bool.and_eq_true]at h;rw [zcf h.1];show(false || (backTo pos (starEach es env)).any (·.1))=false;rw [Bool.false_or];exact zbN h.2
section
variable {X:Cx} {e:Expr} {es:List Expr} {te:TE} {t:TA} {r:List V->Hp->VK->Prop} {x:Str} {id T:String} {p pos:Pos}
theorem zAp(ha:PE X e te)(hr:PA X es t)(hs:zR e=true:=by rfl):PA X (e::es) (zgQ te t):=zth ha hr (zcf hs)
theorem zyU(hc:zaN X (.builtin id) r)(hg:Gl X x)(hm:X.mg x=none)(hv:bootBuiltins x=some (.builtin id))(ha:PA X (e::es) t)(hn:x ≠ "__name__":=by decide)(hdb:(x==("__debug__":Str))=false:=by decide)
  (he:zR e=true:=by rfl) (hpl:es.all zR=true:=by rfl):PE X (.Call (.Name x p) (e::es) [] pos) (tCB r t):=zpN hc hg hm hv ha hn hdb (zcf he) (zbN hpl)
theorem zyV(hc:zaN X (.type T) r)(hg:Gl X x)(hm:X.mg x=none)(hv:bootBuiltins x=some (.type T))(ha:PA X (e::es) t)(hn:x ≠ "__name__":=by decide)(hdb:(x==("__debug__":Str))=false:=by decide)
  (he:zR e=true:=by rfl) (hpl:es.all zR=true:=by rfl):PE X (.Call (.Name x p) (e::es) [] pos) (tCB r t):=zoF hc hg hm hv ha hn hdb (zcf he) (zbN hpl)
end
structure Cal (P:Program) (w:World) (K:qc) (mg:Str->Option Value) (base:Heap) (x:Str) (k:Nat) (ps:List Str) (sp:Sp):Prop where
 ex:∃ (f:Addr) (fd:FuncData),FnOk P w K mg base CX0 k f fd ps sp/\zej K fd ps []/\PySem.W.keepIn K (.ref f)=true/\mg x=some (.ref f)
def zxc(sp:Sp)(t:TA):TE:=fun σ H Q=>t σ H fun vs H1=>sp vs H1 Q E0
section
variable {X:Cx} {k:Nat} {ps:List Str} {sp:Sp} {x:Str} {p pos:Pos} {e:Expr} {es:List Expr} {t:TA}
theorem zxd(C:Cal X.prog X.w X.K X.mg X.base x k ps sp)(hr:Room k X.A)(hg:Gl X x)(ha:PA X (e::es) t)(hdb:(x==("__debug__":Str))=false:=by decide)
  (he:zR e=true:=by rfl) (hpl:es.all zR=true:=by rfl):PE X (.Call (.Name x p) (e::es) [] pos) (zxc sp t):=by
 obtain⟨f,fd,F,hb,hk,hm⟩:=C.ex;intro pins s σ H Q I h;refine zti (dvs:=[]) (E:=E0) F hr hg hm hk hb .nil zu2 ha hdb (zcf he) (zbN hpl) pins s σ H Q I ?_;show t σ H fun vs H1=>sp (vs++[]) H1 Q E0;have z:(fun(vs:List V) (H1:Hp)=>sp (vs++[]) H1 Q E0)=fun vs H1=>sp vs H1 Q E0:=by
  funext vs H1
  rw [List.append_nil]
 rw [z];exact h
end
def zp4(t:TS):TS:=fun D σ H=>∃ J:St->Hp->Prop,t { D with nx:=J } σ H/\∀ σ' H',J σ' H'->D.nx σ' H'
theorem ztw{X:Cx}{st:Stmt}{t:TS}(h:PS X st t):PS X st (zp4 t):=by
 intro pins s σ H D I ⟨J,q,z⟩;refine thn (h pins s σ H _ I q) fun f s' r=>?_;cases f with
 | next=>obtain⟨σ',H',I',j⟩:=r; exact⟨σ',H',I',z _ _ j⟩
 | brk=>exact r
 | cont=>exact r
 | ret u=>exact r
theorem zko(x y:Int)(hx:0<=x)(hy:0 < y):Int.gcd y (x % y)=Int.gcd x y:=by
 obtain⟨a,rfl⟩:=Int.eq_ofNat_of_zero_le hx;obtain⟨b,rfl⟩:=Int.eq_ofNat_of_zero_le (Int.le_of_lt hy);rw [<-Int.natCast_emod];show Nat.gcd b (a % b)=Nat.gcd a b;rw [Nat.gcd_comm a b,Nat.gcd_comm b (a % b)];exact(Nat.gcd_rec b a).symm
theorem zi9(x y:Int):Int.gcd (if x < 0 then -x else x) y=Int.gcd x y:=by
 split
 ·exact Int.neg_gcd
 ·rfl
structure Wr (p:Prop):Prop where
 run:p
theorem zil{mg:Str->Option Value}{xs:List Str}{x:Str}(h:Bl mg xs)(m:x∈xs):mg x=none:=h x m
theorem zfb{X:Cx}{scope:Scope}{cl:List (Str×Addr)}{C:Addr}{s:Shared}{H:Hp}{ex:List Addr}{N:List Str}(h:decide N.Nodup=true):(zG X scope cl N C s H ex).N.Nodup:=of_decide_eq_true h
def zdu(X:Cx)(js:List Nat):List Str:=js.map fun j=>X.N.getD j ""
def zeg(X:Cx)(js:List Nat):List (Str×Addr):=(zdu X js).map fun x=>(x,(X.env.cells.lookup x).getD 0)
def tgN:Expr->List Str
 | .Name x _=>[x]
 | .Tuple es _ _=>es.flatMap fun e=>match e with
  | .Name x _=>[x]
  | .Tuple fs _ _=>fs.filterMap fun e=>match e with
   | .Name x _=>some x
   | _=>none
  | _=>[]
 | _=>[]
def GWx(nt:Nat)(g:TG):Prop:=∀ (js:List Nat) (σ σ1:St),Wk (c0 nt js σ) σ1->∀ x H (Q:St->Hp->Prop),g x σ1 H Q->g x σ1 H fun σ2 H2=>Wk (c0 nt js σ) σ2/\Q σ2 H2
def zoM(nt:Nat)(g:TGs):Prop:=∀ (js:List Nat) (σ σ1:St),Wk (c0 nt js σ) σ1->∀ x H (Q:St->Hp->Prop),g x σ1 H Q->g x σ1 H fun σ2 H2=>Wk (c0 nt js σ) σ2/\Q σ2 H2
theorem zp5{nt i:Nat}(h:i < nt):GWx nt (zcX i):=by
 intro js σ σ1 w x H Q q;refine⟨⟨by rw [List.length_set]; exact w.1,fun j v e=>?_⟩,q⟩;have ne:i≠j:=by
  rintro rfl;rw [zi5 h]at e;cases e
 rw [qB ne];exact w.2 j v e
theorem zgY{nt:Nat}:zoM nt zs4:=fun js σ σ1 w x H Q q=>⟨q.1,w,q.2⟩
theorem zoN{nt:Nat}{g:TG}{gs:TGs}(h1:GWx nt g)(h2:zoM nt gs)(mono:∀ v σ H (Q Q':St->Hp->Prop),(∀ σ' H',Q σ' H'->Q' σ' H')->g v σ H Q->g v σ H Q'):zoM nt (zj9 g gs):=by
 intro js σ σ1 w x H Q q;obtain⟨v,r,e,k⟩:=q;refine⟨v,r,e,mono _ _ _ _ _ (fun σ' H' ⟨w',q'⟩=>?_) (h1 js σ σ1 w v H _ k)⟩;exact h2 js σ σ' w' r H' Q q'
theorem zja{K:qc}{nt n:Nat}{gs:TGs}(h:zoM nt gs):GWx nt (zs6 K n gs):=by
 intro js σ σ1 w x H Q q;obtain⟨a,xs,e,s,l,k⟩:=q;exact⟨a,xs,e,s,l,h js σ σ1 w xs H Q k⟩
theorem zp6{nt:Nat}{js:List Nat}{g:TG}(h:GWx nt g):∀ σ:St,GW (c0 nt js σ) g:=fun σ x H Q q=>h js σ _ ⟨rfl,fun _ _ e=>e⟩ x H Q q
theorem zoO{i:Nat}:∀ v σ H (Q Q':St->Hp->Prop),(∀ σ' H',Q σ' H'->Q' σ' H')->zcX i v σ H Q->zcX i v σ H Q':=fun v σ H Q Q' h q=>h _ _ q
theorem zfX{nt i:Nat}{gs:TGs}(h:i < nt)(h2:zoM nt gs):zoM nt (zj9 (zcX i) gs):=zoN (zp5 h) h2 zoO
section
variable {X:Cx} {pos p pos':Pos} {e a b c o:Expr} {es zbA:List Expr} {te ta tb:TE} {t:TA} {r:List V->Hp->VK->Prop} {rd:R2} {x:Str} {id T:String} {i j:Nat} {tA tB':TT} {st:Stmt} {sts body:List Stmt} {ts us:TS} {g:TG} {gs:TGs} {wi:TI} {tg:Expr}
theorem w_v{i:Nat}(hN:X.N[i]?=some x:=by rfl)(hv:Vis X.env.scope x:=by first | exact Or.inl rfl | exact Or.inr (Or.inl rfl) | exact Or.inr (Or.inr rfl))(hd:(x==("__debug__":Str))=false:=by decide)
  (hcd:(x==("__classdict__":Str))=false:=by decide):Wr (PE X (.Name x pos) (ze6 i)):=⟨pv i hN hv hd hcd⟩
theorem zn{n:Int}:Wr (PE X (.Constant (.int n) j pos) (tC (.int n))):=⟨zwl⟩
theorem zp7{n:Bool}:Wr (PE X (.Constant (.bool n) j pos) (tC (.bl n))):=⟨zyE⟩
theorem zim:Wr (PE X (.Constant .none j pos) (tC .non)):=⟨zwm⟩
theorem zbx{n:Str}:Wr (PE X (.Constant (.str n) j pos) (tC (.str n))):=⟨zwn⟩
theorem zI{op:Operator}(ho:OpR X (binaryOp op) rd)(ha:Wr (PE X a ta))(hb:Wr (PE X b tb)):Wr (PE X (.BinOp a op b pos) (tOp rd ta tb)):=⟨zyH ho ha.run hb.run⟩
theorem ztx{op:UnaryOp}{r:V->Hp->VK->Prop}(ho:UnR X (unaryOp op) r)(ha:Wr (PE X a ta)):Wr (PE X (.UnaryOp op a pos) (tUn r ta)):=⟨zyI ho ha.run⟩
theorem w_not(ha:Wr (PE X a ta)):Wr (PE X (.UnaryOp .Not a pos) (zuZ ta)):=⟨zww ha.run⟩
theorem zmZ{op:CmpOp}(ho:OpR X (compareOp op) rd)(ha:Wr (PE X a ta))(hb:Wr (PE X b tb))(hm:behindInMarks op b=false:=by first | exact zpH _ | rfl):Wr (PE X (.Compare a [op] [b] pos) (tOp rd ta tb)):=⟨zta ho ha.run hb.run hm⟩
theorem zV{op:CmpOp}(ho:OpR X (compareOp op) rd)(ha:Wr (PE X a ta))(hb:Wr (PE X b tb))(hm:behindInMarks op b=false:=by first | exact zpH _ | rfl):Wr (PT X (.Compare a [op] [b] pos) (zpI (tOp rd ta tb))):=⟨ztb ho ha.run hb.run hm⟩
theorem zyW{op}(h:Wr (PE X a te)):Wr (PE X (.BoolOp op [a] pos) te):=⟨zwu h.run⟩
theorem zyX(ha:Wr (PE X a ta))(hb:Wr (PE X (.BoolOp .And (b::zbA) pos) tb)):Wr (PE X (.BoolOp .And (a::b::zbA) pos) (zpv ta tb)):=⟨zwv ha.run hb.run⟩
theorem zfc(ha:Wr (PT X a tA)):Wr (PW X (.BoolOp .And [a] pos) tA):=⟨zsY ha.run⟩
theorem zp8(ha:Wr (PT X a tA)):Wr (PW X (.BoolOp .Or [a] pos) tA):=⟨zwr ha.run⟩
theorem zgZ(ha:Wr (PT X a tA))(hb:Wr (PW X (.BoolOp .And (b::zbA) pos) tB')):Wr (PW X (.BoolOp .And (a::b::zbA) pos) (zwp tA tB')):=⟨zws ha.run hb.run⟩
theorem zu4(ha:Wr (PT X a tA))(hb:Wr (PW X (.BoolOp .Or (b::zbA) pos) tB')):Wr (PW X (.BoolOp .Or (a::b::zbA) pos) (tOr tA tB')):=⟨zyF ha.run hb.run⟩
theorem zlU(h:Wr (PW X e tA)):Wr (PT X e tA):=⟨h.run.pt⟩
theorem zxe(ha:Wr (PT X a tA)):Wr (PT X (.UnaryOp .Not a pos) (zwq tA)):=⟨zwt ha.run⟩
theorem zxf(h:Wr (PE X e te))(he:∀ whole,isTrue e X.env whole=(do let v <-whole; standAt e.pos; holding [v] (truthy v)):=by intro _; rfl):Wr (PT X e (tB te)):=⟨zwo h.run he⟩
def zyY(K:qc)(ta:TE):TT:=fun σ H Q=>ta σ H fun x H'=>∃ k,zwR K x H' k/\Q k H'
theorem zu5(hc:Wr (PT X c tA))(ha:Wr (PE X a ta))(hb:Wr (PE X b tb)):Wr (PE X (.IfExp c a b pos) (tIf tA ta tb)):=⟨zpw hc.run ha.run hb.run⟩
theorem zj:Wr (PA X [] zoD):=⟨zwT⟩
theorem w_a(ha:Wr (PE X e te))(hr:Wr (PA X es t))(hs:zR e=true:=by rfl):Wr (PA X (e::es) (zgQ te t)):=⟨zAp ha.run hr.run hs⟩
theorem zag{x1}(h:Wr (PA X es t)):Wr (PE X (.Tuple es x1 pos) (zwU t)):=⟨zwW h.run⟩
theorem zel(h:Wr (PA X es t)):Wr (PE X (.List es pos) (zwV t)):=⟨zwX h.run⟩
theorem zbO(hc:zaN X (.builtin id) r)(hv:bootBuiltins x=some (.builtin id))(ha:Wr (PA X (e::es) t))(hg:Gl X x:=by exact rfl)(hm:X.mg x=none:=by exact zil ‹Bl _ _› (by decide))(hn:x ≠ "__name__":=by decide)(hdb:(x==("__debug__":Str))=false:=by decide)
  (he:zR e=true:=by rfl) (hpl:es.all zR=true:=by rfl):Wr (PE X (.Call (.Name x p) (e::es) [] pos) (tCB r t)):=⟨zyU hc hg hm hv ha.run hn hdb he hpl⟩
theorem zcM(hc:zaN X (.type T) r)(hv:bootBuiltins x=some (.type T))(ha:Wr (PA X (e::es) t))(hg:Gl X x:=by exact rfl)(hm:X.mg x=none:=by exact zil ‹Bl _ _› (by decide))(hn:x ≠ "__name__":=by decide)(hdb:(x==("__debug__":Str))=false:=by decide)
  (he:zR e=true:=by rfl) (hpl:es.all zR=true:=by rfl):Wr (PE X (.Call (.Name x p) (e::es) [] pos) (tCB r t)):=⟨zyV hc hg hm hv ha.run hn hdb he hpl⟩
theorem zC{k:Nat}{ps:List Str}{sp:Sp}(ha:Wr (PA X (e::es) t))(C:Cal X.prog X.w X.K X.mg X.base x k ps sp:=by assumption)(hr:Room k X.A:=by exact Room.mono ‹Room _ _› (by decide))(hg:Gl X x:=by exact rfl)(hdb:(x==("__debug__":Str))=false:=by decide)
  (he:zR e=true:=by rfl) (hpl:es.all zR=true:=by rfl):Wr (PE X (.Call (.Name x p) (e::es) [] pos) (zxc sp t)):=⟨zxd C hr hg ha.run hdb he hpl⟩
theorem zam(hr:IxR X rd)(ha:Wr (PE X a ta))(hb:Wr (PE X b tb))(hs:zmW b:=by exact fun _ _=>rfl):Wr (PE X (.Subscript a b pos) (tOp rd ta tb)):=⟨zyN hr ha.run hb.run hs⟩
theorem zm0:Wr (PO X none ziY):=⟨ztk⟩
theorem zm1(h:Wr (PE X e te)):Wr (PO X (some e) (zpO te)):=⟨ztl h.run⟩
theorem zm2{r:V->Option Int->Option Int->Hp->VK->Prop}{lo hi:Option Expr}{tl th:TO}{p2:Pos}(hr:SlR X r)(he:Wr (PE X e te))(hl:Wr (PO X lo tl))(hu:Wr (PO X hi th)):Wr (PE X (.Subscript e (.Slice lo hi none p2) pos) (tSl r te tl th)):=⟨zpP hr he.run hl.run hu.run⟩
theorem zdv{ta:TA}(ha:Wr (PA X [a] ta))(hg:Gl X "range":=by exact rfl)(hm:X.mg "range"=none:=by exact zil ‹Bl _ _› (by decide))(hs:zR a=true:=by rfl):Wr (PI X tg (.Call (.Name "range" p) [a] [] pos) (zpE ta)):=⟨zox hg hm ha.run (zcf hs)⟩
theorem zv(hN:X.N.Nodup:=by first | assumption | exact zfb rfl)(hi:X.N[i]?=some x:=by rfl)(hx:Loc X.env.scope x:=by first | exact Or.inl rfl | exact Or.inr rfl)(hf:X.fn x=true\/X.env.scope.names.lookup x=some .local:=by first | exact .inl rfl | exact .inr rfl | assumption):Wr (PG X (.Name x pos) (zcX i)):=⟨zs3 hN hi hx hf⟩
theorem zbb:Wr (PGs X [] zs4):=⟨zs5⟩
theorem w_g(h1:Wr (PG X e g))(h2:Wr (PGs X es gs))(hs:(assignEach (e::es) X.env).map (·.2)=assign e X.env::(assignEach es X.env).map (·.2):=by rfl):Wr (PGs X (e::es) (zj9 g gs)):=⟨zpA h1.run h2.run hs⟩
theorem zdf{ti:TE}{tset:zs2}(ho:Wr (PE X o ta))(hi:Wr (PE X e ti))(hs:zwz X tset)
  (hh:∀ v,assign (.Subscript o e pos) X.env v=(do
   let ov <-holding [v] (eval o X.env)
   let iv <-holding [v,ov] (eval e X.env)
   standAt pos
   holding [v,ov,iv] (setItem ov iv v)
   release [v,ov,iv] []):=by intro _; rfl):Wr (PG X (.Subscript o e pos) (zwB ta ti tset)):=⟨zwC ho.run hi.run hs hh⟩
theorem zbc:Wr (zgV X [] zxb):=⟨zp2⟩
theorem zp9(h:Wr (PT X c tA)):Wr (zgV X [c] tA):=⟨zp3 h.run⟩
theorem zhS{elt iter:Expr}{ifs:List Expr}{scope:Scope}{js:List Nat}{tt:TT}{nt:Nat}(hi:Wr (PI X tg iter wi))(hg:∀ {C s H ex},Wr (PG (zG X scope (zeg X js) (tgN tg++zdu X js) C s H ex) tg g))(ht:∀ {C s H ex},Wr (zgV (zG X scope (zeg X js) (tgN tg++zdu X js) C s H ex) ifs tt))
  (he:∀ {C s H ex},Wr (PE (zG X scope (zeg X js) (tgN tg++zdu X js) C s H ex) elt te))
  (f:Frees X (zeg X js) (zdu X js) js:=by repeat (first | exact Frees.nil | refine Frees.cons rfl (by first | exact Or.inl rfl | exact Or.inr rfl) rfl ?_)) (hclos:closureFor scope X.env=pure (zeg X js):=by rfl) (S:ScC scope (zdu X js):=by exact⟨rfl,of_decide_eq_true rfl,of_decide_eq_true rfl,of_decide_eq_true rfl,of_decide_eq_true rfl⟩) (hts:(tgN tg).length=nt:=by rfl) (hc:X.calm=true:=by rfl) (gw:∀ σ:St,GW (c0 nt js σ) g:=by first | exact zi8 (by decide) | exact zp6 (zja (by repeat (first | exact zgY | refine zfX (by decide) ?_)))) (hs:∀ x,foldedSetIterable iter X.env x=pure x:=by intro _; rfl) :
  Wr (PE X (.ListComp elt [⟨tg,iter,ifs,0⟩] scope pos) (tLC wi nt js g tt te)):=⟨zyT nt (tgN tg) hts hc S f hclos hi.run (fun C s H ex=>hg.run) gw (fun C s H ex=>ht.run) (fun C s H ex=>he.run) hs⟩
def zyZ(K:qc):List V->Hp->VK->Prop:=fun xs H Q=>∃ p ys,xs=[.ref p]/\(SqL K H p ys\/SqT K H p ys)/\Q (.int ys.length) H
def zm3(K:qc):List V->Hp->VK->Prop:=fun xs H Q=>∃ p ys,xs=[.ref p]/\(SqL K H p ys\/SqT K H p ys)/\∀ l,H l=none->Q (.ref l) (upd H l (.lst ys))
def zkp(K:qc):List V->Hp->VK->Prop:=fun xs H Q=>∃ p ys,xs=[.ref p]/\((SqL K H p ys/\∀ l,H l=none->Q (.ref l) (upd H l (.tup ys)))\/(SqT K H p ys/\Q (.ref p) H))
theorem zbZ{K:qc}(hK:X.K=K:=by rfl):zaN X (.builtin "len") (zyZ K):=hK▸zi2
theorem zcZ{K:qc}(hK:X.K=K:=by rfl):zaN X (.type "list") (zm3 K):=hK▸zi3
theorem zaS{K:qc}(hK:X.K=K:=by rfl):zaN X (.type "tuple") (zkp K):=hK▸zhR
theorem zb0{K:qc}(hK:X.K=K:=by rfl):IxR X (ztn K):=hK▸ztp
theorem zaB{K:qc}(hK:X.K=K:=by rfl):IxR X (zto K):=hK▸zwZ
theorem zy0{K:qc}(hK:X.K=K:=by rfl):OpR X (compareOp .In) (rIn K false):=hK▸zoG
theorem zm4{K:qc}(hK:X.K=K:=by rfl):OpR X (compareOp .NotIn) (rIn K true):=hK▸zi1
theorem zu6{K:qc}(hK:X.K=K:=by rfl):SlR X (zw0 K):=hK▸ztq
theorem zd3{l:Expr}{tl:TE}{K:qc}(hl:Wr (PE X l tl))(hK:X.K=K:=by rfl):Wr (PI X tg l (zpC K tl)):=hK▸⟨zs7 hl.run⟩
theorem zjb{l:Expr}{tl:TE}{K:qc}(hl:Wr (PE X l tl))(hK:X.K=K:=by rfl):Wr (PI X tg l (zwH K tl)):=hK▸⟨zwI hl.run⟩
theorem zbd{k n:Nat}{K:qc}(h:Wr (PGs X es gs))(hK:X.K=K:=by rfl)(hc:X.calm=true:=by rfl)(hn:(assignEach es X.env).length=n:=by rfl)(hst:(assignEach es X.env).findIdx? (·.1)=none:=by rfl):Wr (PG X (.Tuple es k pos) (zs6 K n gs)):=hK▸⟨zwA hc h.run hn hst⟩
theorem zu7{K:qc}(ha:Wr (PE X a ta))(hK:X.K=K:=by rfl)(he:∀ whole,isTrue a X.env whole=(do let v <-whole; standAt a.pos; holding [v] (truthy v)):=by intro _; rfl):Wr (PT X a (zyY K ta)):=hK▸⟨zpJ ha.run he⟩
theorem zaw:Wr (PSs X [] zpx):=⟨zsZ⟩
theorem w_s(h1:Wr (PS X st ts))(h2:Wr (PSs X sts us)):Wr (PSs X (st::sts) (zpy ts us)):=⟨zgN h1.run h2.run⟩
theorem zO(h1:Wr (PS X st ts)):Wr (PSs X [st] ts):=⟨zmQ h1.run⟩
theorem zjc(he:Wr (PE X e te))(hs:swapsWith e none pos.line X.env=pure false:=by rfl):Wr (PS X (.Expr e pos) (zpz te)):=⟨zs0 he.run hs⟩
theorem zab(he:Wr (PE X e te)):Wr (PS X (.Return (some e) pos) (zs1 te)):=⟨zwx he.run⟩
theorem zcN{sa sb:List Stmt}(hc:Wr (PT X c tA))(ha:Wr (PSs X sa ts))(hb:Wr (PSs X sb us)):Wr (PS X (.If c sa sb pos) (zwy tA ts us)):=⟨zyG hc.run ha.run hb.run⟩
theorem zdw(h:Wr (PS X st ts)):Wr (PS X st (zp4 ts)):=⟨ztw h.run⟩
theorem zm5(hc:Wr (PT X c tA))(hb:Wr (PSs X body ts))(hp:PassesOwn (model X.prog X.w) X.A X.env X.xe:=by first | exact PassesOwn.never | exact PassesOwn.leaving):Wr (PS X (.While c body [] pos) (zlE tA ts)):=⟨zpB hp hc.run hb.run⟩
theorem zb1{iter:Expr}(hi:Wr (PI X tg iter wi))(hg:Wr (PG X tg g))(hb:Wr (PSs X body ts))(hp:PassesOwn (model X.prog X.w) X.A X.env X.xe:=by first | exact PassesOwn.never | exact PassesOwn.leaving)(hc:X.calm=true:=by rfl)(hs:∀ x,foldedSetIterable iter X.env x=pure x:=by intro _; rfl) :
  Wr (PS X (.For tg iter body [] pos) (zwJ wi g ts)):=⟨zwK hp hc hi.run hg.run hb.run hs⟩
theorem zD(he:Wr (PE X e te))(hN:X.N.Nodup:=by first | assumption | exact zfb rfl)(hi:X.N[i]?=some x:=by rfl)(hx:Loc X.env.scope x:=by first | exact Or.inl rfl | exact Or.inr rfl)(hs:swapsWith e (some (.Name x pos')) pos.line X.env=pure false:=by rfl)(hf:X.fn x=true\/X.env.scope.names.lookup x=some .local:=by first | exact .inl rfl | exact .inr rfl | assumption) :
  Wr (PS X (.Assign [.Name x pos'] e pos) (ziV te (zcX i))):=⟨zwE hN hi hx he.run hs hf⟩
theorem zdx(he:Wr (PE X e te))(hg:Wr (PG X tg g))(hs:swapsWithSole [tg] e pos.line X.env=pure false:=by rfl)(hw:swappedStores [tg] e X.env=pure none:=by rfl)(h1:(assignEach [tg] X.env).map (·.2)=[assign tg X.env]:=by rfl) :
  Wr (PS X (.Assign [tg] e pos) (ziV te g)):=⟨zwD he.run hg.run hs hw h1⟩
theorem zqa{x y:Str}{ta:TA}{px py pt:Pos}{kt k2 pt2}(ha:Wr (PA X [a,b] ta))(hc:X.calm=true:=by rfl)(hN:X.N.Nodup:=by first | assumption | exact zfb rfl)(hi:X.N[i]?=some x:=by rfl)(hj:X.N[j]?=some y:=by rfl)(hij:i≠j:=by decide)
  (hx:X.env.scope.names.lookup x=some .local:=by rfl) (hy:X.env.scope.names.lookup y=some .local:=by rfl)
  (hw:swappedStores [.Tuple [.Name x px,.Name y py] kt pt] (.Tuple [a,b] k2 pt2) X.env=pure (some [x,y]):=by rfl)
  (hs:swapsWithSole [.Tuple [.Name x px,.Name y py] kt pt] (.Tuple [a,b] k2 pt2) pos.line X.env=pure false:=by rfl) :
  Wr (PS X (.Assign [.Tuple [.Name x px,.Name y py] kt pt] (.Tuple [a,b] k2 pt2) pos) (zwF i j ta)):=⟨zwG hc hN hi hj hij hx hy ha.run hw hs⟩
end
theorem Fun.okW{P:Program}{w:World}{K:qc}{mg:Str->Option Value}{base:Heap}{x qual:Str}{st:Stmt}{f:Addr}{fd:FuncData}{N ps:List Str}{k:Nat}{sp:Sp}(F:Fun K x qual st f fd)(S:FnScope N ps (zS st))(len:∀ vs H Q E,sp vs H Q E->vs.length=ps.length)
  (hbody:∀ (cdv:Value) (A:Around) (outer:List Env) (s:Shared) (H:Hp) (vs:List V) (Q:VK) (E:XK),Room k (A.deeper (envOfC qual (zS st) s.heap.objs.size f cdv))->sp vs H Q E ->
   ∃ t,Wr (PSs (ziX CX0 P w K mg base N qual (zS st) f cdv A outer s H E).nox (zbl st) t)/\t { nx:=fun _ H'=>Q .non H',rt:=Q } (zbw N vs) H):FnOk P w K mg base CX0 (k+1) f fd ps sp :=
 F.ok S len fun cdv A outer s H vs Q E hr h=>let ⟨t,w,q⟩:=hbody cdv A outer s H vs Q E hr h; ⟨t,w.run,q⟩
mutual
inductive DV (K:qc) (H:Hp):V->PyData->Prop
 | non:DV K H .non .none
 | bl (b:Bool):DV K H (.bl b) (.bool b)
 | int (i:Int):DV K H (.int i) (.int i)
 | str (x:Str):DV K H (.str x) (.str x)
 | lst {a:Addr} {xs:List V} {ds:List PyData} (h:SqL K H a xs) (t:DVs K H xs ds):DV K H (.ref a) (.list ds)
 | tup {a:Addr} {xs:List V} {ds:List PyData} (h:SqT K H a xs) (t:DVs K H xs ds):DV K H (.ref a) (.tuple ds)
inductive DVs (K:qc) (H:Hp):List V->List PyData->Prop
 | nil:DVs K H [] []
 | cons {v:V} {d:PyData} {vs:List V} {ds:List PyData} (h:DV K H v d) (t:DVs K H vs ds):DVs K H (v::vs) (d::ds)
end
theorem zaZ.seqT{K:qc}{H H':Hp}{a:Addr}{xs:List V}(e:zaZ H H')(h:SqT K H a xs):SqT K H' a xs:=by
 rcases h with (h | ⟨o,h⟩) | h
 ·exact .inl (.inl (e _ _ h))
 ·exact .inl (.inr ⟨o,e _ _ h⟩)
 ·exact .inr h
mutual
theorem DV.same{K:qc}{H H':Hp}(e:zaZ H H'):∀ {v:V} {d:PyData},DV K H v d->DV K H' v d
 | _,_,.non=>.non
 | _,_,.bl b=>.bl b
 | _,_,.int i=>.int i
 | _,_,.str x=>.str x
 | _,_,.lst h t=>.lst (e.seq h) (DVs.same e t)
 | _,_,.tup h t=>.tup (e.seqT h) (DVs.same e t)
theorem DVs.same{K:qc}{H H':Hp}(e:zaZ H H'):∀ {v:List V} {d:List PyData},DVs K H v d->DVs K H' v d
 | _,_,.nil=>.nil
 | _,_,.cons h t=>.cons (DV.same e h) (DVs.same e t)
end
section
variable {X:Cx} {pins:List (Addr×Obj)} {σ:St} {H:Hp} {s:Shared}
mutual
theorem DV.reads(I:Inv X pins σ H s):∀ {v:V} {d:PyData} {u:Value},DV X.K H v d->zJ v u->∃ as,Reads s.heap u d as
 | _,_,_,.non,r=>by cases r; exact⟨_,.none⟩
 | _,_,_,.bl b,r=>by cases r; exact⟨_,.bool b⟩
 | _,_,_,.int i,r=>by obtain⟨t,rfl⟩:=r; exact⟨_,.int i t⟩
 | _,_,_,.str x,r=>by obtain⟨t,rfl⟩:=r; exact⟨_,.str x t⟩
 | _,_,_,.lst h t,r=>by
  cases r;obtain⟨its,rv,⟨o,n,e1,e2,e3,e4⟩,hz⟩:=I.list h;obtain⟨as,q⟩:=DVs.reads I t rv;exact⟨_,.list e1 e2 e4 q⟩
 | _,_,_,.tup h t,r=>by
  cases r;obtain⟨its,rv,⟨o,e1,e2,n,e4⟩,hz⟩:=I.tuple h;obtain⟨as,q⟩:=DVs.reads I t rv;exact⟨_,.tuple e1 e2 e4 q⟩
theorem DVs.reads(I:Inv X pins σ H s):∀ {v:List V} {d:List PyData} {u:List Value},DVs X.K H v d->zH v u->∃ as,ReadsAll s.heap u d as
 | _,_,_,.nil,r=>by cases r; exact⟨_,.nil⟩
 | _,_,_,.cons h t,r=>by
  cases r with
  | cons r1 r2 =>
   obtain⟨a1,q1⟩:=DV.reads I h r1;obtain⟨a2,q2⟩:=DVs.reads I t r2;exact⟨_,.cons q1 q2⟩
end
end
section
variable {X:Cx} {pos p pos':Pos} {e a b c o:Expr} {es zbA:List Expr} {te ta tb:TE} {t:TA} {r:List V->Hp->VK->Prop} {rd:R2} {x:Str} {id T:String} {i j:Nat} {tA tB':TT} {st:Stmt} {sts body:List Stmt} {ts us:TS} {g:TG} {gs:TGs} {wi:TI} {tg:Expr}
theorem zm6{y:Str}{py spos:Pos}{elt iter:Expr}{ifs:List Expr}{scope:Scope}{js:List Nat}{tt:TT}{nt:Nat}(hi:Wr (PI X tg iter wi))(hg:∀ {C s H ex},Wr (PG (zG X scope (zeg X js) (tgN tg++zdu X js) C s H ex) tg g))(ht:∀ {C s H ex},Wr (zgV (zG X scope (zeg X js) (tgN tg++zdu X js) C s H ex) ifs tt))
  (he:∀ {C s H ex},Wr (PE (zG X scope (zeg X js) (tgN tg++zdu X js) C s H ex) elt te))
  (hN:X.N.Nodup:=by first | assumption | exact zfb rfl) (hi':X.N[i]?=some y:=by rfl) (hy:Loc X.env.scope y:=by first | exact Or.inl rfl | exact Or.inr rfl)
  (f:Frees X (zeg X js) (zdu X js) js:=by repeat (first | exact Frees.nil | refine Frees.cons rfl (by first | exact Or.inl rfl | exact Or.inr rfl) rfl ?_)) (hclos:closureFor scope X.env=pure (zeg X js):=by rfl) (S:ScC scope (zdu X js):=by exact⟨rfl,of_decide_eq_true rfl,of_decide_eq_true rfl,of_decide_eq_true rfl,of_decide_eq_true rfl⟩) (hts:(tgN tg).length=nt:=by rfl) (hc:X.calm=true:=by rfl) (gw:∀ σ:St,GW (c0 nt js σ) g:=by first | exact zi8 (by decide) | exact zp6 (zja (by repeat (first | exact zgY | refine zfX (by decide) ?_)))) (hs:∀ x,foldedSetIterable iter X.env x=pure x:=by intro _; rfl)
  (hsw:swapsWith (.ListComp elt [⟨tg,iter,ifs,0⟩] scope pos) (some (.Name y py)) spos.line X.env=pure true:=by rfl)
  (hf:X.fn y=true\/X.env.scope.names.lookup y=some .local:=by first | exact .inl rfl | exact .inr rfl | assumption) :
  Wr (PS X (.Assign [.Name y py] (.ListComp elt [⟨tg,iter,ifs,0⟩] scope pos) spos) (ziV (tLC wi nt js g tt te) (zcX i))):=by
 refine⟨?_⟩;intro pins s σ H D I h;rw [exec_Assign_Name_used _ _ _ _ hsw];refine qa (wpAny_standAt (qa ?_));show wpAny _ X.A (do let _ <-comprehension (.ListComp elt [⟨tg,iter,ifs,0⟩] scope pos) scope X.env _ (newList []) false (eval iter X.env) (some (assign (.Name y py) X.env))) _ _ s;refine qa (wpAny_mono (wpAny_comprehension_free (use:=some (assign (.Name y py) X.env)) (Q:=fun _ s'=>SP X pins D .next s') rfl hs hclos S.kind S.names
  (thn (hi.run pins s σ H _ I h) fun v s1 h1=>thn h1 fun itv s2 h2=>?_)) (fun _ s' hq=>qb (qb hq)) fun _ _ e=>e)
 obtain⟨it,fp,tn,J,H2,e,I2,T,st2,f2,q⟩:=h2;subst e;refine zgW (RR:=fun acc C=>compPost (model X.prog X.w) X.A X.xe (some (assign (.Name y py) X.env)) (fun _ s'=>SP X pins D .next s') acc C) hc I2 S f hts T st2 f2 (fun C s H ex=>hg.run) (fun C s H ex=>ht.run) (fun C s H ex=>he.run) (gw σ) q ?_;intro D' C m s' ys H' z hD I' hn hCn hCL hCc hCs hCp;show wpAny _ _ (assign (.Name y py) X.env (.ref D')) _ _ _;refine wpAny_assign_Name (zfO (v:=.ref D') I' hN hi' hy rfl (fun s'' I'' ⟨a,sb,ha⟩=>?_) hf);have ne:C≠a:=by
  rcases ha with rfl | ha
  ·exact hCL
  ·exact(hCc _ _ ha).symm
 exact⟨m,hn.sameBut sb ne,fun h' hs'=>⟨_,_,I''.turned (it:=C) (fun b o hb e=>hs'.extBut b o hb e) hCn hCL (.inr hCs) hCc hCp,z D' hD⟩⟩
theorem zoP{name:Str}{r:V->List V->Hp->VK->Prop}{apos cpos:Pos}(K:qc)(hK:X.K=K)(pa:PlainAttrs T)(slot:Slot T name id)(hty:typeOf (.builtin id)=pure (.type "method_descriptor"))(hm:MtM X id r)(ho:Wr (PE X o te))(ha:Wr (PA X (e::es) t))
  (hbase:attributeBase o name X.env (eval o X.env)=eval o X.env:=by rfl)
  (hfew:((backTo cpos (starEach (e::es) X.env)).all (fun x=>!x.1) && (backToKw cpos (keywordEach [] X.env)).all (fun x=>x.1.isSome)
   && decide ((e::es).length+([]:List Keyword).length+(if([]:List Keyword).isEmpty then 0 else 1) < 30))=true:=by rfl)
  (hline:(apos.endLine==cpos.line)=true:=by rfl) (hs:zR e=true:=by rfl) (hpl:es.all zR=true:=by rfl) :
  Wr (PE X (.Call (.Attribute o name apos) (e::es) [] cpos) (tBM K T r te t)):=hK▸⟨zyP pa slot hty hm ho.run ha.run hbase hfew hline (zcf hs) (zbN hpl)⟩
theorem zu8{name:Str}{r:V->List V->Hp->VK->Prop}{apos cpos:Pos}(K:qc)(hK:X.K=K)(pa:PlainAttrs T)(slot:Slot T name id)(hty:typeOf (.builtin id)=pure (.type "method_descriptor"))(hm:MtM X id r)(ho:Wr (PE X o te))
  (hbase:attributeBase o name X.env (eval o X.env)=eval o X.env:=by rfl) (hline:(apos.endLine==cpos.line)=true:=by rfl) :
  Wr (PE X (.Call (.Attribute o name apos) [] [] cpos) (zw2 K T r te)):=hK▸⟨zw3 pa slot hty hm ho.run hbase hline⟩
theorem zfY{v:V}{u:Value}(hg:Gl X x)(hm:X.mg x=some u)(r:zJ v u)(hd:(x==("__debug__":Str))=false:=by decide):Wr (PE X (.Name x pos) (tC v)):=⟨zsX hg hm r hd⟩
theorem zm7:∀ {ys:List Str} {us:List Value},zH (ys.map V.str) us->StrsAre us ys
 | [],_,r=>by cases r; exact .nil
 | y::ys,_,r=>by
  cases r with
  | cons r1 r2 =>
   obtain⟨t,rfl⟩:=r1;exact .cons y t (zm7 r2)
def zu9(K:qc):V->List V->Hp->VK->Prop:=fun x vs H Q=>∃ sep a ys,x=.str sep/\vs=[.ref a]/\SqL K H a (ys.map V.str)/\(ys.map (·.length)).sum+ys.length * sep.length<=16777216/\Q (.str (Txt.join sep ys)) H
theorem zm8(K:qc)(hK:X.K=K:=by rfl):MtM X "str.join" (zu9 K):=by
 intro pins s σ H x vs v us Q I rx rv h;obtain⟨sep,a,ys,rfl,rfl,hS,hz,q⟩:=h;obtain⟨t,rfl⟩:=rx;obtain⟨u,rfl,ru⟩:=rv.one;cases ru;subst hK;obtain⟨its,r,pl,_⟩:=I.list hS;exact join_list pl.isList (by simpa using zm7 r) hz fun t' k=>⟨.str _,H,I.tok _,⟨_,rfl⟩,q⟩
def zoQ(x:Str)(n:Int):Str:=if n < 1 then Str.empty else if(n==1 || x.length==0)=true then x else⟨(List.replicate n.toNat x.cps).foldl (·++·) #[]⟩
theorem zlV:OpR X (binaryOp .Mult) (fun x y H Q=>∃ z n,x=.str z/\y=.int n/\0<=n/\n<=1/\Q (.str (zoQ z n)) H):=by
 intro pins s σ H x y v u Q I rx ry h;obtain⟨z,n,rfl,rfl,h0,h1,q⟩:=h;obtain⟨t,rfl⟩:=rx;obtain⟨t',rfl⟩:=ry;rcases(by omega:n=0\/n=1)with rfl | rfl
 ·exact PySem.P.mul_str_none (by decide) (by decide) ⟨.str _,H,I.tok _,⟨_,rfl⟩,q⟩
 ·refine PySem.P.mul_str (by decide) (fun _ z=>by simp at z) (fun _ z=>by simp at z) ?_
  rw [if_neg (by decide),if_pos (by rfl)];exact⟨.str _,H,I,⟨_,rfl⟩,q⟩
end
structure Kp (H H':Hp):Prop where
 tup:∀ b xs,H b=some (.tup xs)->H' b=some (.tup xs)
 frz:∀ b o u,H b=some (.frz o u)->H' b=some (.frz o u)
theorem Kp.refl(H:Hp):Kp H H:=⟨fun _ _ h=>h,fun _ _ _ h=>h⟩
theorem Kp.trans{H H1 H2:Hp}(a:Kp H H1)(b:Kp H1 H2):Kp H H2:=⟨fun x y h=>b.tup x y (a.tup x y h),fun x y z h=>b.frz x y z (a.frz x y z h)⟩
theorem zaZ.kp{H H':Hp}(s:zaZ H H'):Kp H H':=⟨fun _ _ h=>s _ _ h,fun _ _ _ h=>s _ _ h⟩
mutual
inductive DT (K:qc) (H:Hp):V->PyData->Prop
 | non:DT K H .non .none
 | bl (b:Bool):DT K H (.bl b) (.bool b)
 | int (i:Int):DT K H (.int i) (.int i)
 | str (x:Str):DT K H (.str x) (.str x)
 | tup {a:Addr} {xs:List V} {ds:List PyData} (h:SqT K H a xs) (t:DTs K H xs ds):DT K H (.ref a) (.tuple ds)
inductive DTs (K:qc) (H:Hp):List V->List PyData->Prop
 | nil:DTs K H [] []
 | cons {v:V} {d:PyData} {vs:List V} {ds:List PyData} (h:DT K H v d) (t:DTs K H vs ds):DTs K H (v::vs) (d::ds)
end
theorem DTs.cons_inv{K:qc}{H:Hp}{vs:List V}{d:PyData}{ds:List PyData}(h:DTs K H vs (d::ds)):∃ v ws,vs=v::ws/\DT K H v d/\DTs K H ws ds:=by
 cases h with
 | cons h t=>exact⟨_,_,rfl,h,t⟩
end L2
namespace HT
open PySem PyProof.Rows
open PySem.SeqAt
open PySem.MeetsSeq PySem.MeetsSeq2 PySem.MeetsSeq3
section
variable {prog:Program} {w:World} {A:Around} {E:Value->Shared->Prop} {s:Shared}
end
end HT
namespace L2
open PySem PySem.Spec PyProof.Rows
section
variable {X:Cx}
end
section
variable {X:Cx} {tg:Expr}
end
section
variable {X:Cx}
end
section
variable {X:Cx}
end
section
variable {prog:Program} {w:World} {A:Around} {R:Result->Shared->Prop} {it:Addr} {fp wr:List Addr} {n:Nat} {P:Nat->Value->Prop} {St:Nat->Heap->Prop}
end
section
variable {prog:Program} {w:World} {A:Around} {E:Value->Shared->Prop} {s:Shared}
end
section
variable {X:Cx}
end
section
variable {prog:Program} {w:World} {A:Around} {E:Value->Shared->Prop} {s:Shared}
theorem zeK{it t:Addr}{i:Nat}{items:Array Value}{x:Value}{Q:Value->Shared->Prop}(hi:s.heap.IsTupleIter it t i)(ht:s.heap.IsTuple t items)(hx:items[i]?=some x)
  (q:∀ h',h'.IsTupleIter it t (i+1)->Heap.SameBut it s.heap h'->Q x { s with heap:=h' }):wpAny (model prog w) A (Builtin.SmallTypes.nextOf (.ref it)) Q E s:=by
 obtain⟨oi,e1,e2,e3⟩:=id hi;obtain⟨ot,f1,f2,nt,f3⟩:=ht;unfold Builtin.SmallTypes.nextOf;refine qa (wpAny_callSpecial?_slot (name:=Str.ofString "__next__") hi.typeIs slot_tupleiter_next
  (wpAny_call_entry slot_tupleiter_next hi.typeIs entry_tupleiter_next ?_ (args_tupleiter_next _)))
 show wpAny _ _ (field (.ref it) 0 >>= _) _ _ s;refine qa (wpAny_field e1 e3 (x:=.ref t) rfl ?_);show wpAny _ _ (if(Value.ref t==Value.none)=true then _ else _) _ _ s;rw [if_neg (show ¬((Value.ref t==Value.none)=true) from qf)];show wpAny _ _ (field (.ref it) 1 >>= _) _ _ s;refine qa (wpAny_field e1 e3 (x:=.int i 0) rfl ?_);show wpAny _ _ (seqItems? (.ref t) >>= _) _ _ s;refine qa (wpAny_seqItems f1 f3 ?_);simp only [Int.toNat_natCast,hx];refine qa (wpAny_setField e1 e3 (by simp) (qb ⟨x,rfl,qb (q _ ?_ (Heap.SameBut.update ..))⟩));refine⟨_,Heap.get?_update_self _ e1 (Obj.isFreed_of_fields (Obj.data_mapFields e3 _)),(Obj.cls_mapFields ..).trans e2,?_⟩;rw [Obj.data_mapFields e3];simp [rawInt]
theorem zin{it t:Addr}{i:Nat}{items:Array Value}{Q:Value->Shared->Prop}(hh:A.handled=none)(hi:s.heap.IsTupleIter it t i)(ht:s.heap.IsTuple t items)(hx:items[i]?=none)
  (q:∀ h' e,Heap.ExtBut it s.heap h'->(∃ o,h'.get? e=some o/\o.cls=.type "StopIteration")->E (.ref e) { s with heap:=h' }):wpAny (model prog w) A (Builtin.SmallTypes.nextOf (.ref it)) Q E s:=by
 obtain⟨oi,e1,e2,e3⟩:=id hi;obtain⟨ot,f1,f2,nt,f3⟩:=ht;unfold Builtin.SmallTypes.nextOf;refine qa (wpAny_callSpecial?_slot (name:=Str.ofString "__next__") hi.typeIs slot_tupleiter_next
  (wpAny_call_entry slot_tupleiter_next hi.typeIs entry_tupleiter_next ?_ (args_tupleiter_next _)))
 show wpAny _ _ (field (.ref it) 0 >>= _) _ _ s;refine qa (wpAny_field e1 e3 (x:=.ref t) rfl ?_);show wpAny _ _ (if(Value.ref t==Value.none)=true then _ else _) _ _ s;rw [if_neg (show ¬((Value.ref t==Value.none)=true) from qf)];show wpAny _ _ (field (.ref it) 1 >>= _) _ _ s;refine qa (wpAny_field e1 e3 (x:=.int i 0) rfl ?_);show wpAny _ _ (seqItems? (.ref t) >>= _) _ _ s;refine qa (wpAny_seqItems f1 f3 ?_);simp only [Int.toNat_natCast,hx];refine qa (wpAny_rule (qa (wpAny_setField e1 e3 (by simp) ?_)));show wpAny _ _ (newExc (.type "StopIteration") [] >>= _) _ _ _;refine qa ?_;simp only [newExc,newTuple];refine qa (qy ?_ (by show(0:Nat)<=sizeLine; exact Nat.zero_le _));refine qa (m:=firstArgMember _ _) (wpAny_of_eq (a:=Value.none) (by first | rfl | (simp only [firstArgMember]; rfl)) ?_);refine qy ?_ (by first | trivial | size_fits);simp only [raiseNew];refine qa (wpAny_handled ?_)
 first | rw [show A.in1.handled=none from hh] | rw [hh]
 refine qa (qb (wpAny_throw ?_));exact q _ _ (((Heap.SameBut.update ..).extBut.push _).push _) ⟨_,qg _ rfl,rfl⟩
end
theorem zgd{prog:Program}{w:World}{A:Around}(hh:A.handled=none)(it t:Addr)(ne:t≠it)(items:Array Value) :
  Draws prog w A it [it,t] items.size (fun i v=>items[i]?=some v) (fun i h=>h.IsTupleIter it t i/\h.IsTuple t items) where
 live:=fun _ _ st=>let ⟨o,ho,_⟩:=st.1; ⟨o,ho⟩
 frame:=fun _ _ _ st hk=>by
  obtain⟨⟨o,a1,a2,a3⟩,⟨o2,b1,b2⟩⟩:=st;exact⟨⟨o,hk it (by simp) o a1,a2,a3⟩,⟨o2,hk t (by simp) o2 b1,b2⟩⟩
 item:=fun i s Q E hi st q=>by
  refine zeK st.1 st.2 (x:=items[i]) (by simp [hi]) fun h' hit' hs'=>?_;exact q _ h' s.toks (by simp [hi]) ⟨hit',st.2.extBut hs'.extBut ne⟩ hs'
 done:=fun s Q E st q=>zin hh st.1 st.2 (by simp) q
theorem zoR(t:Addr)(items:Array Value)(n:Nat)(dct:Option Addr)(sl:Array (Option Value)) :
  Meets (Builtin.«enumerate.__new__» ⟨[.type "enumerate",.ref t],[]⟩) (fun _ R s=>s.heap.get? t=some { cls:=.type "tuple",dict:=dct,data:=.seq items n,slots:=sl } /\
   R (.ok (.ret (.ref (s.heap.push { cls:=.type "tuple_iterator",data:=.fields #[.ref t,.int 0 0] }).objs.size)))
    { s with heap:=(s.heap.push { cls:=.type "tuple_iterator",data:=.fields #[.ref t,.int 0 0] }).push { cls:=.type "enumerate",data:=.fields #[.none,.bool false,.ref s.heap.objs.size,rawInt 0,.none,.none] } }) :=
 .of_wp fun prog w A R s h=>by
  obtain⟨hp,g,d,tk,os⟩:=s;obtain⟨hl,h⟩:=h;have hsub:=sub_enumerate;have hT:Heap.IsTuple (Shared.heap ⟨hp,g,d,tk,os⟩) t items:=⟨_,hl,rfl,n,rfl⟩
  wp_walk using PySem.AutoSeq1.wpAny_loadPart' hl
  refine wpAny_stack_any fun st=>qb ?_;split
  ·rename_i c _ _ _ _ _
   cases(c==Value.type "enumerate")
   ·wp_walk using PySem.AutoSeq1.wpAny_loadPart' hl,wpAny_pyIter_tuple hT
    exact⟨_,rfl,h⟩
   ·wp_walk using PySem.AutoSeq1.wpAny_loadPart' hl,wpAny_pyIter_tuple hT
    exact⟨_,rfl,h⟩
  ·wp_walk using PySem.AutoSeq1.wpAny_loadPart' hl,wpAny_pyIter_tuple hT
   exact⟨_,rfl,h⟩
section
variable {prog:Program} {w:World} {A:Around} {E:Value->Shared->Prop} {s:Shared}
theorem zlW{t:Addr}{items:Array Value}{Q:Value->Shared->Prop}(hT:s.heap.IsTuple t items)
  (h:∀ h',IsEnum h' (s.heap.objs.size+1) s.heap.objs.size 0 .none->h'.IsTupleIter s.heap.objs.size t 0->(∀ b o,s.heap.get? b=some o->h'.get? b=some o)->Q (.ref (s.heap.objs.size+1)) { s with heap:=h' }) :
  wpAny (model prog w) A (call (.type "enumerate") [.ref t]) Q E s:=by
 obtain⟨⟨c,dct,dt,sl⟩,hl,hc,n,hd⟩:=hT;replace hc:c=.type "tuple":=hc;replace hd:dt=.seq items n:=hd;subst hc hd;refine callType_new F.called_enumerate (by decide) (F.typeCall_enumerate_1 _) (F.newCall_enumerate_1 _) (fun obj=>F.args_object_init_2 obj _) F.entry_enumerate_new
  (zoR t items n dct sl) ⟨hl,?_⟩
 have hz:(s.heap.push { cls:=.type "tuple_iterator",data:=.fields #[.ref t,.int 0 0] }).objs.size=s.heap.objs.size+1:=Heap.size_push ..;show _/\_;rw [hz];have he:IsEnum ((s.heap.push { cls:=.type "tuple_iterator",data:=.fields #[.ref t,.int 0 0] }).push
   { cls:=.type "enumerate",data:=.fields #[.none,.bool false,.ref s.heap.objs.size,rawInt 0,.none,.none] }) (s.heap.objs.size+1) s.heap.objs.size 0 .none:=by
  have z:=qg (s.heap.push { cls:=.type "tuple_iterator",data:=.fields #[.ref t,.int 0 0] })
   (o:={ cls:=.type "enumerate",data:=.fields #[.none,.bool false,.ref s.heap.objs.size,rawInt 0,.none,.none] }) rfl
  rw [hz]at z;exact z
 exact⟨⟨_,he,rfl⟩,h _ he ⟨_,qd _ (qg _ rfl),rfl,rfl⟩ fun b o x=>qd _ (qd _ x)⟩
end
section
variable {X:Cx} {pins:List (Addr×Obj)} {σ:St} {H:Hp} {s:Shared} {h':Heap}
theorem Inv.turnedW{t':Nat}{wr:List Addr}(I:Inv X pins σ H s)(k:∀ b o,b∉wr->s.heap.get? b=some o->h'.get? b=some o)(hf:∀ b∈wr,zcc X pins H b):Inv X pins σ H { s with heap:=h',toks:=t' }:=by
 have nit:∀ b u,H b=some u->b∉wr:=fun b u e z=>by rw [(hf b z).1]at e; cases e
 refine I.step (g':=s.gens) (d':=s.drawn) (ch:=wr) (fun b hb=>?_) (fun b o _ _ hc e _=>k b o hc e) (fun b o _ _ hc e _=>⟨o.slots,k b o hc e⟩) (fun _ _ _ _ n=>n)
  (fun b o hc e=>⟨o,k b o hc e⟩) (fun _ _ e=>e) (fun _ _ _ e=>e) (fun b ps e=>⟨#[],by rw [e]; simp⟩) (fun m hm=>?_) (fun b u e=>?_) I.bare
 ·obtain⟨_,z1,_,z3,z4,z5⟩:=hf b hb
  exact⟨z3,z1,z4,z5⟩
 ·obtain⟨o,es,ep,ho,r⟩:=hm
  exact⟨o,es,ep,k _ o (fun z=>(hf _ z).2.1 rfl) ho,r⟩
 ·refine(I.hok b u e).stay (fun c v hc q=>k c v ?_ q) (fun _ q=>q) fun _ _ q=>q
  rcases hc with z | z
  ·rw [z]; exact nit b u e
  ·exact nit c _ z
theorem Inv.track{a:Addr}{o:HO}(I:Inv X pins σ H s)(f:zcc X pins H a)(ha:X.s₀.heap.objs.size<=a)(new:zX X.prog X.w X.K (upd H a o) s.heap a o):Inv X pins σ (upd H a o) s:=by
 obtain⟨f0,f1,f2,f3,f4,f5⟩:=f;refine⟨I.ok,I.os,I.bare,zkn I.base f0 ha,I.loc,I.cell,?_,fun x c e=>?_,fun p hp=>?_,zij I.hok f0 new,I.len⟩
 ·rw [zu (Ne.symm f1)]
  exact I.free
 ·rw [zu (f4 x c e)]
  exact I.freeC x c e
 ·obtain⟨p1,p2,p3⟩:=I.pin p hp
  refine⟨p1,?_,p3⟩;rw [zu (f5 p hp)];exact p2
end
def Ite(K:qc)(a:Addr):It :=
 ⟨fun i H=>∃ xs x,SqT K H a xs/\xs[i]?=some x,fun i H x H'=>∃ T,H T=none/\x=.ref T/\∀ xs v,SqT K H a xs->xs[i]?=some v->H'=upd H T (.tup [.int i,v]),fun i H=>∃ xs,SqT K H a xs/\xs.length=i⟩
theorem zoS{P:Program}{w:World}{K:qc}{elts:List Expr}{k:Nat}{pos:Pos}(e it t:Addr)(hei:e≠it)(hte:t≠e)(hti:t≠it) :
  Turn P w K (.Tuple elts k pos) (Ite K t) [e,it] e (fun i h=>(∃ old,IsEnum h e it i old)/\h.IsTupleIter it t i) where
 mem:=by simp
 obj:=fun i h st b hb=>by
  obtain⟨⟨old,he⟩,⟨o,ho,_,hd⟩⟩:=st;rcases qu.mp hb with z | z
  ·subst z
   exact⟨_,he,fun v q=>by
    have q':Data.fields _=Data.cell v:=q;cases q'⟩
  ·rw [qp.mp z]
   exact⟨o,ho,fun v q=>by rw [hd]at q; cases q⟩
 keep:=fun i h h' st kk=>by
  obtain⟨⟨old,he⟩,⟨o,ho,hc,hd⟩⟩:=st;exact⟨⟨old,kk e (by simp) _ he⟩,⟨o,kk it (by simp) _ ho,hc,hd⟩⟩
 item:=by
  intro X hP hw hK hc i pins s σ H E I hf st hg;subst hP hw hK;obtain⟨xs,x,hq,hx⟩:=hg;obtain⟨its,rv,ht,hz⟩:=I.tuple hq;have hi:i < its.toArray.size:=by
   rw [List.size_toArray,<-rv.length];exact(qk.mp hx).1
  have W:=WalksT.enumerateD (zgd (prog:=X.prog) (w:=X.w) (A:=X.A.in1) (I.ok.hd hc) it t hti its.toArray) e hei (by simp [hei,Ne.symm hte]) (by simp);refine W.item i s _ _ hi ⟨st.1,st.2,ht⟩ fun T vals h1 tk hP hT isT mid kk=>?_;refine⟨_,rfl,W.go elts k pos i T { s with heap:=h1,toks:=tk } _ _ mid fun h2 st2 kk2=>?_⟩;obtain⟨tt,u,hu,rfl⟩:=hP;have apart:=W.apart _ _ _ mid;have I2:Inv X pins σ H { s with heap:=h2,toks:=tk }:=I.turnedW (wr:=[e,it]) (fun b o hb q=>kk2 b o hb (kk b o hb q)) hf;have fT:zcc X pins H T:=I.fpOk hT (I.hok.fresh hT);have ru:zJ x u:=by
   obtain⟨u',eu,r⟩:=rv.get hx;have:u'=u:=by
    have z:its[i]?=some u:=by simpa using hu
    rw [eu]at z;exact qw z
   rw [<-this];exact r
  obtain⟨oT,g1,g2,nT,g3⟩:=isT;have I3:Inv X pins σ (upd H T (.tup [.int i,x])) { s with heap:=h2,toks:=tk }:=I2.track fT (qx I.sz hT) ⟨by show 2<=sizeLine; decide,[.int i tt,u],.cons ⟨tt,rfl⟩ (.cons ru .nil),oT,kk2 T oT apart g1,g2,⟨nT,g3⟩,.inr ⟨_,_,_,rfl⟩⟩;refine⟨.ref T,_,I3,rfl,⟨T,I.hok.fresh hT,rfl,fun xs' v hq' hv=>?_⟩,⟨?_,st2.2.1⟩,fun b hb=>?_⟩
  ·have:=I.tuple_inj hq hq'
   subst this;rw [hx]at hv;cases hv;rfl
  ·exact st2.1
  ·have ne:b≠T:=fun z=>apart (by rw [<-z]; exact hb)
   rw [zu ne];exact(hf b hb).1
 done:=by
  intro X hP hw hK hc i pins s σ H E I hf st hg;subst hP hw hK;obtain⟨xs,hq,hl⟩:=hg;obtain⟨its,rv,ht,hz⟩:=I.tuple hq;have hi:i=its.toArray.size:=by
   rw [List.size_toArray,<-rv.length];exact hl.symm
  have W:=WalksT.enumerateD (zgd (prog:=X.prog) (w:=X.w) (A:=X.A.in1) (I.ok.hd hc) it t hti its.toArray) e hei (by simp [hei,Ne.symm hte]) (by simp);refine W.done s _ _ ?_ fun h1 tk kk=>⟨rfl,I.turnedW (wr:=[e,it]) kk hf⟩;rw [<-hi];exact⟨st.1,st.2,ht⟩
 self:=fun _ _ _ _ _ st h=>by
  obtain⟨⟨old,he⟩,_⟩:=st;exact wpAny_pyIter_enum he h
section
variable {X:Cx} {elts:List Expr} {k:Nat} {tpos:Pos}
def zva(K:qc)(ta:TA):TI:=fun σ H R=>ta σ H fun vs H1=>∃ a,vs=[.ref a]/\(∃ xs,SqT K H1 a xs)/\R (Ite K a) H1
theorem zty{a:Expr}{ta:TA}{p pos:Pos}{K:qc}(ha:Wr (PA X [a] ta))(hK:X.K=K:=by rfl)(hg:Gl X "enumerate":=by exact rfl)(hm:X.mg "enumerate"=none:=by exact zil ‹Bl _ _› (by decide))(hs:zR a=true:=by rfl) :
  Wr (PI X (.Tuple elts k tpos) (.Call (.Name "enumerate" p) [a] [] pos) (zva K ta)):=by
 subst hK;refine⟨?_⟩;intro pins s σ H R I h;refine Call_ (zfP I hg hm boot_enumerate (PyProof.Rows.callWith_type1 (thn (ha.run pos pins s σ H _ I h) fun us s1 ⟨vs,H1,I1,r1,q1⟩=>?_) (zcf hs) rfl));obtain⟨t,e,⟨xs,hq⟩,q⟩:=q1;subst e;obtain⟨u,rfl,ru⟩:=zcd r1;cases ru;obtain⟨its,rv,ht,hz⟩:=I1.tuple hq;have tl:t < s1.heap.objs.size:=by
  obtain⟨o,e,_⟩:=ht;exact qh e
 refine zlW (show s1.heap.IsTuple t its.toArray from ht) fun h' he hit kk=>?_;have I2:Inv X pins σ H1 { s1 with heap:=h' }:=I1.kept (t':=s1.toks) kk;refine wpAny_pyIter_enum he ?_;refine⟨s1.heap.objs.size+1,[s1.heap.objs.size+1,s1.heap.objs.size],_,_,H1,rfl,I2,zoS (s1.heap.objs.size+1) s1.heap.objs.size t (Nat.succ_ne_self _) (qj (Nat.lt_succ_of_lt tl)) (qj tl),⟨⟨_,he⟩,hit⟩,fun b hb=>?_,q⟩;rcases qu.mp hb with z | z
 ·subst z
  exact I1.fpOk (Nat.le_succ _) (I1.hok.fresh (Nat.le_succ _))
 ·rw [qp.mp z]
  exact I1.fpOk (qe _) (I1.hok.fresh (qe _))
end
section
variable {X:Cx}
end
section
variable {X:Cx} {pos pos':Pos} {o i v:Expr} {td ty tv:TE} {k:Nat}
theorem zb3:Wr (PE X (.Dict [] [] pos) zlP):=⟨zpX⟩
theorem zdy(hr:Room k X.A)(ho:Wr (PE X o td))(hi:Wr (PE X i ty))(hs:zw6 i:=by intro _ _; rfl):Wr (PE X (.Subscript o i pos) (zpV X.K td ty)):=⟨zts (zkk hr) ho.run hi.run hs⟩
theorem zeL(hr:Room k X.A)(ho:Wr (PE X o td))(hi:Wr (PE X i ty))(hv:Wr (PE X v tv))(hs:swapsWith v (some (.Subscript o i pos')) pos.line X.env=pure false:=by rfl) :
  Wr (PS X (.Assign [.Subscript o i pos'] v pos) (zpW X.K td ty tv)):=⟨ztt (zkk hr) ho.run hi.run hv.run hs⟩
end
end L2
namespace L2
open PySem PySem.W PyProof.Rows
section
variable {α β:Type}
def zb4(lt:Nat->Nat->Bool)(n:Nat):KasT α->(α->Prop)->Prop
 | .ret a,Q=>Q a
 | .ask i j k,Q=>i < n/\j < n/\zb4 lt n (k (lt i j)) Q
theorem zb4.bind{lt:Nat->Nat->Bool}{n:Nat}{f:α->KasT β}{Q:β->Prop}:∀ {t:KasT α},zb4 lt n t (fun a=>zb4 lt n (f a) Q)->zb4 lt n (t.bind f) Q
 | .ret _,h=>h
 | .ask _ _ _,⟨h1,h2,h3⟩=>⟨h1,h2,zb4.bind h3⟩
theorem zb4.wp{lt:Nat->Nat->Bool}{n:Nat}{cmp:Nat->Nat->(Bool->Shared->Prop)->Shared->Prop}{Q:α->Prop}{Q':α->Shared->Prop}{s:Shared}(hc:∀ i j (C:Bool->Shared->Prop),i < n->j < n->C (lt i j) s->cmp i j C s)(hQ:∀ a,Q a->Q' a s) :
  ∀ {t:KasT α},zb4 lt n t Q->t.kasWp cmp Q' s
 | .ret _,h=>hQ _ h
 | .ask i j k,⟨h1,h2,h3⟩=>hc i j _ h1 h2 (zb4.wp hc hQ h3)
end
section
variable {rk:Nat->Int} {n:Nat}
def KR(rk:Nat->Int)(p:Array Nat)(i:Nat):Int:=rk (p.getD i 0)
def ltR(rk:Nat->Int)(i j:Nat):Bool:=decide (rk i < rk j)
def Pm(n:Nat)(p:Array Nat):Prop:=p.Perm (List.range n).toArray
theorem Pm.size{p:Array Nat}(h:Pm n p):p.size=n:=by
 have:=h.size_eq;simpa using this
theorem Pm.lt{p:Array Nat}(h:Pm n p){i:Nat}(hi:i < n):p.getD i 0 < n:=by
 have hs:=h.size;have hi':i < p.size:=by omega
 have e:p.getD i 0=p[i]:=by simp [Array.getD,hi']
 rw [e];have m:p[i]∈(List.range n).toArray:=(h.mem_iff).mp (Array.getElem_mem hi');simpa using m
theorem zdz{p q:Array Nat}{i j:Nat}(h:p[i]?=q[j]?):KR rk p i=KR rk q j:=by
 have e:∀ (x:Array Nat) (k:Nat),x.getD k 0=(x[k]?).getD 0:=fun x k=>by simp
 unfold KR;rw [e,e,h]
theorem zjd{p:Array Nat}{i j:Nat}(hj:j<=p.size)(k:Nat):KR rk (kas_rev p i j) k=if i<=k/\k < j then KR rk p (i+j - 1 - k)else KR rk p k:=by
 have e:=getElem?_mirror_all (xs:=p) (i:=i) hj k;unfold kas_rev
 by_cases h:i<=k/\k < j
 ·rw [if_pos h]at e ⊢
  exact zdz e
 ·rw [if_neg h]at e ⊢
  exact zdz e
theorem zio{p:Array Nat}{src d:Nat}(hs:src < p.size)(hd:d<=src)(k:Nat):KR rk (bubble p src d) k=if k=src - d then KR rk p src else if src - d < k/\k<=src then KR rk p (k - 1)else KR rk p k:=by
 have e:=getElem?_bubble hs d hd k
 by_cases h1:k=src - d
 ·rw [if_pos h1]at e ⊢; exact zdz e
 ·rw [if_neg h1]at e ⊢
  by_cases h2:src - d < k/\k<=src
  ·rw [if_pos h2]at e ⊢; exact zdz e
  ·rw [if_neg h2]at e ⊢; exact zdz e
theorem Pm.rev{p:Array Nat}(h:Pm n p)(i j:Nat):Pm n (kas_rev p i j):=(mirror_perm p i j _).trans h
theorem Pm.bubble{p:Array Nat}(h:Pm n p)(i d:Nat):Pm n (PyProof.Rows.bubble p i d):=(bubble_perm p i d).trans h
def Up(rk:Nat->Int)(p:Array Nat)(m:Nat):Prop:=∀ i j,i<=j->j < m->KR rk p i<=KR rk p j
def Dn(rk:Nat->Int)(p:Array Nat)(m:Nat):Prop:=∀ i j,i<=j->j < m->KR rk p j<=KR rk p i
theorem Up.more{p:Array Nat}{m:Nat}(h:Up rk p m)(h1:1<=m)(hm:KR rk p (m - 1)<=KR rk p m):Up rk p (m+1):=fun i j hij hj=>by
 by_cases e:j=m
 ·subst e
  by_cases e2:i=j
  ·subst e2; exact Int.le_refl _
  ·exact Int.le_trans (h i (j - 1) (by omega) (by omega)) hm
 ·exact h i j hij (by omega)
theorem Dn.more{p:Array Nat}{m:Nat}(h:Dn rk p m)(h1:1<=m)(hm:KR rk p m<=KR rk p (m - 1)):Dn rk p (m+1):=fun i j hij hj=>by
 by_cases e:j=m
 ·subst e
  by_cases e2:i=j
  ·subst e2; exact Int.le_refl _
  ·exact Int.le_trans hm (h i (j - 1) (by omega) (by omega))
 ·exact h i j hij (by omega)
theorem ltT{i j:Nat}(c:rk i < rk j):ltR rk i j=true:=decide_eq_true c
theorem ltF{i j:Nat}(c:¬rk i < rk j):ltR rk i j=false:=decide_eq_false c
theorem zg0{p:Array Nat}(hp:Pm n p){Q:Nat->Prop}:∀ (f m:Nat),1<=m->m+f<=n->Up rk p m->(∀ m',m<=m'->m'<=m+f->Up rk p m'->(m' < m+f->KR rk p m' < KR rk p (m' - 1))->Q m')->zb4 (ltR rk) n (kas_asc p f m) Q
 | 0,m,_,_,hu,h=>h m (qe _) (qe _) hu (fun z=>absurd z (Nat.lt_irrefl _))
 | f+1,m,h1,hf,hu,h=>by
  refine⟨hp.lt (by omega),hp.lt (by omega),?_⟩
  by_cases c:rk (p.getD m 0) < rk (p.getD (m - 1) 0)
  ·rw [ltT c]
   dsimp only;rw [if_pos rfl];exact h m (qe _) (by omega) hu fun _=>c
  ·rw [ltF c]
   dsimp only;rw [if_neg qf];exact zg0 hp f (m+1) (by omega) (by omega) (hu.more h1 (Int.not_lt.mp c)) fun m' a b c2 d=>h m' (by omega) (by omega) c2 fun z=>d (by omega)
def Eqs(rk:Nat->Int)(p:Array Nat)(m q:Nat):Prop:=q+1<=m/\∀ i,m - (q+1)<=i->i < m->KR rk p i=KR rk p (m - 1)
theorem zy1{p:Array Nat}{m:Nat}(h:1<=m):Eqs rk p m 0:=⟨h,fun i a b=>by
 have:i=m - 1:=by omega
 rw [this]⟩
theorem zm9{p:Array Nat}{m q:Nat}(hm:m<=p.size)(h:Eqs rk p m q)(k:Nat):KR rk (kas_rev p (m - (q+1)) m) k=KR rk p k:=by
 rw [zjd hm];split
 ·rw [h.2 _ (by omega) (by have:=h.1; omega),h.2 k (by omega) (by omega)]
 ·rfl
theorem Dn.congr{p p':Array Nat}{m:Nat}(h:Dn rk p m)(e:∀ k,KR rk p' k=KR rk p k):Dn rk p' m:=fun i j hij hj=>by
 rw [e,e];exact h i j hij hj
theorem zd4{Q:Array Nat×Nat×Nat->Prop}:∀ (f:Nat) (p:Array Nat) (m q:Nat),Pm n p->1<=m->m+f<=n->Dn rk p m->Eqs rk p m q ->
  (∀ p' m' q',Pm n p'->1<=m'->m'<=m+f->Dn rk p' m'->Eqs rk p' m' q'->Q (p',m',q'))->zb4 (ltR rk) n (kas_desc f p m q) Q
 | 0,p,m,q,hp,h1,_,hd,he,h=>h p m q hp h1 (qe _) hd he
 | f+1,p,m,q,hp,h1,hf,hd,he,h=>by
  have hs:=hp.size;refine⟨hp.lt (by omega),hp.lt (by omega),?_⟩
  by_cases c:rk (p.getD m 0) < rk (p.getD (m - 1) 0)
  ·rw [ltT c]
   dsimp only;rw [if_pos rfl];have hd2:Dn rk p (m+1):=hd.more h1 (Int.le_of_lt c);have one:∀ x:Array Nat,Eqs rk x (m+1) 0:=fun x=>zy1 (by omega)
   by_cases hq:q > 0
   ·rw [if_pos hq]
    have e:=zm9 (by omega) he;exact zd4 f _ (m+1) 0 (hp.rev _ _) (by omega) (by omega) (hd2.congr e) (one _) fun p' m' q' a b c d e=>h p' m' q' a b (by omega) d e
   ·rw [if_neg hq]
    exact zd4 f p (m+1) 0 hp (by omega) (by omega) hd2 (one _) fun p' m' q' a b c d e=>h p' m' q' a b (by omega) d e
  ·rw [ltF c]
   dsimp only;rw [if_neg qf];refine⟨hp.lt (by omega),hp.lt (by omega),?_⟩
   by_cases c2:rk (p.getD (m - 1) 0) < rk (p.getD m 0)
   ·rw [ltT c2]
    dsimp only;rw [if_pos rfl];exact h p m q hp h1 (by omega) hd he
   ·rw [ltF c2]
    dsimp only;rw [if_neg qf];have eq:KR rk p m=KR rk p (m - 1):=Int.le_antisymm (Int.not_lt.mp c2) (Int.not_lt.mp c);refine zd4 f p (m+1) (q+1) hp (by omega) (by omega) (hd.more h1 (Int.le_of_eq eq)) ⟨by have:=he.1; omega,fun i a b=>?_⟩ fun p' m' q' a b c d e=>h p' m' q' a b (by omega) d e;rw [show m+1 - 1=m by omega,eq]
    by_cases im:i=m
    ·rw [im,eq]
    ·exact he.2 i (by omega) (by omega)
def Run(rk:Nat->Int)(n:Nat)(r:Nat×Array Nat):Prop:=Pm n r.2/\r.1<=n/\Up rk r.2 r.1
theorem zg1{p:Array Nat}{m:Nat}(hp:Pm n p)(h1:1<=m)(hm:m<=n)(hd:Dn rk p m){Q:Nat×Array Nat->Prop}(h:∀ r,Run rk n r->Q r):zb4 (ltR rk) n (kas_tail3 m n p) Q:=by
 have hs:=hp.size;refine zb4.bind (zg0 (hp.rev 0 m) (n - m) m h1 (by omega) (fun i j hij hj=>?_) fun m' a b c _=>h (m',_) ⟨hp.rev 0 m,by show m'<=n; omega,c⟩);rw [zjd (by omega),zjd (by omega),if_pos ⟨by omega,by omega⟩,if_pos ⟨by omega,hj⟩];exact hd _ _ (by omega) (by omega)
theorem zem{p:Array Nat}{m:Nat}(hp:Pm n p)(h1:1<=m)(hm:m+1<=n)(hd:Dn rk p (m+1)){Q:Nat×Array Nat->Prop}(h:∀ r,Run rk n r->Q r):zb4 (ltR rk) n (kas_descPart m n p) Q:=by
 refine zb4.bind (zd4 (n - (m+1)) p (m+1) 0 hp (by omega) (by omega) hd (zy1 (by omega)) fun p' m' q' hp' a b d e=>?_);have hs:=hp'.size;show zb4 (ltR rk) n (if q' > 0 then _ else _) Q;split
 ·exact zg1 (hp'.rev _ _) a (by omega) (d.congr (zm9 (by omega) e)) h
 ·exact zg1 hp' a (by omega) d h
theorem zlX{p:Array Nat}(hp:Pm n p)(h1:1<=n){Q:Nat×Array Nat->Prop}(h:∀ r,Run rk n r->Q r):zb4 (ltR rk) n (kas_count n p) Q:=by
 have hs:=hp.size;refine zb4.bind (zg0 hp (n - 1) 1 (qe _) (by omega) (fun i j hij hj=>by
  have:i=j:=by omega
  subst this; exact Int.le_refl _) fun m a b u l=>?_)
 by_cases e:m=n
 ·rw [if_pos (by simpa using e)]
  exact h _ ⟨hp,by show m<=n; omega,u⟩
 rw [if_neg (by simpa using e)];have l:=l (by omega)
 by_cases m1:m > 1
 ·rw [if_pos m1]
  refine⟨hp.lt (by omega),hp.lt (by omega),?_⟩
  by_cases c:rk (p.getD 0 0) < rk (p.getD (m - 1) 0)
  ·rw [ltT c]
   dsimp only;rw [if_pos rfl];exact h _ ⟨hp,by show m<=n; omega,u⟩
  ·rw [ltF c]
   dsimp only;rw [if_neg qf];have all:∀ i,i < m->KR rk p i=KR rk p 0:=fun i hi=>Int.le_antisymm (Int.le_trans (u i (m - 1) (by omega) (by omega)) (Int.not_lt.mp c)) (u 0 i (by omega) hi);have ek:∀ k,KR rk (kas_rev p 0 m) k=KR rk p k:=fun k=>by
    rw [zjd (by omega)];split
    ·rw [all _ (by omega),all k (by omega)]
    ·rfl
   refine zem (hp.rev 0 m) (by omega) (by omega) (Dn.congr (p:=p) (fun i j hij hj=>?_) ek) h
   by_cases jm:j=m
   ·subst jm
    by_cases ij:i=j
    ·subst ij; exact Int.le_refl _
    ·rw [all i (by omega),<-all (j - 1) (by omega)]
     exact Int.le_of_lt l
   ·rw [all i (by omega),all j (by omega)]
    exact Int.le_refl _
 ·rw [if_neg m1]
  have:m=1:=by omega
  subst this;refine zem hp (by omega) (by omega) (fun i j hij hj=>?_) h
  by_cases ij:i=j
  ·subst ij; exact Int.le_refl _
  ·have e1:i=0:=by omega
   have e2:j=1:=by omega
   subst e1; subst e2;exact Int.le_of_lt l
theorem zeM{p:Array Nat}{k:Nat}(hp:Pm n p)(hk:k < n){Q:Nat->Prop}(h:∀ l,l<=k->(∀ i,i < l->KR rk p i<=KR rk p k)->(∀ i,l<=i->i < k->KR rk p k<=KR rk p i)->Q l)(hu:Up rk p k) :
  ∀ (f l r:Nat),l<=r->r<=k->r - l<=f->(∀ i,i < l->KR rk p i<=KR rk p k)->(∀ i,r<=i->i < k->KR rk p k<=KR rk p i)->zb4 (ltR rk) n (kas_place p k f l r) Q
 | 0,l,r,a,b,c,d,e=>h l (by omega) d fun i hi=>e i (by omega)
 | f+1,l,r,a,b,c,d,e=>by
  unfold kas_place
  by_cases g:l>=r
  ·rw [if_pos g]
   exact h l (by omega) d fun i hi=>e i (by omega)
  ·rw [if_neg g]
   refine⟨hp.lt hk,hp.lt (by omega),?_⟩
   by_cases x:rk (p.getD k 0) < rk (p.getD ((l+r) / 2) 0)
   ·rw [ltT x]
    dsimp only;rw [if_pos rfl];exact zeM hp hk h hu f l ((l+r) / 2) (by omega) (by omega) (by omega) d fun i hi hik=>Int.le_trans (Int.le_of_lt x) (hu _ i hi hik)
   ·rw [ltF x]
    dsimp only;rw [if_neg qf];exact zeM hp hk h hu f ((l+r) / 2+1) r (by omega) (by omega) (by omega) (fun i hi=>Int.le_trans (hu i ((l+r) / 2) (by omega) (by omega)) (Int.not_lt.mp x)) e
theorem zg2{Q:Array Nat->Prop}(h:∀ p,Pm n p->Up rk p n->Q p):∀ (f:Nat) (p:Array Nat) (k:Nat),Pm n p->1<=k->k+f=n->Up rk p k->zb4 (ltR rk) n (kas_bin f p k) Q
 | 0,p,k,hp,_,e,hu=>h p hp (by rw [<-e]; exact hu)
 | f+1,p,k,hp,h1,e,hu=>by
  have hs:=hp.size;refine zb4.bind (zeM hp (by omega) (fun l hl a b=>?_) hu k 0 k (by omega) (qe _) (by omega) (fun i hi=>absurd hi (Nat.not_lt_zero _)) fun i a b=>by omega);refine zg2 h f _ (k+1) (hp.bubble _ _) (by omega) (by omega) fun i j hij hj=>?_;rw [zio (by omega) (by omega),zio (by omega) (by omega),show k - (k - l)=l by omega]
  by_cases il:i=l
  ·rw [if_pos il]
   by_cases jl:j=l
   ·rw [if_pos jl]; exact Int.le_refl _
   ·rw [if_neg jl]
    split
    ·exact b _ (by omega) (by omega)
    ·omega
  ·rw [if_neg il]
   by_cases jl:j=l
   ·rw [if_pos jl]
    split
    ·omega
    ·exact a i (by omega)
   ·rw [if_neg jl]
    split<;>split
    ·exact hu _ _ (by omega) (by omega)
    ·omega
    ·exact hu _ _ (by omega) (by omega)
    ·exact hu _ _ (by omega) (by omega)
theorem zoT(h2:1<=n){Q:Array Nat->Prop}(h:∀ p,Pm n p->Up rk p n->Q p):zb4 (ltR rk) n (kas_sort n) Q:=by
 refine zb4.bind (zlX (Array.Perm.refl _) h2 fun r ⟨hp,hr,hu⟩=>?_);split
 ·rename_i c
  by_cases z:r.1=0
  ·rw [z]
   exact zg2 h (n - max 0 1) r.2 (max 0 1) hp (by decide) (by have:max 0 1=1:=rfl; omega) fun i j hij hj=>by
    have:max 0 1=1:=rfl;have:i=j:=by omega
    subst this; exact Int.le_refl _
  ·have e:max r.1 1=r.1:=by omega
   rw [e];exact zg2 h (n - r.1) r.2 r.1 hp (by omega) (by omega) hu
 ·have:r.1=n:=by omega
  exact h _ hp (by rw [<-this]; exact hu)
end
end L2
namespace L2
open PySem PySem.Spec PyProof.Rows
open PySem.AutoSeq1 (wpAny_loadPart')
open MeetsSeq MeetsSeq2 MeetsSeq3 SeqRoads2
def zbv:List Int->List Int->Bool
 | [],[]=>false
 | [],_::_=>true
 | _::_,[]=>false
 | a::as,b::bs=>if a=b then zbv as bs else decide (a < b)
theorem zoU{prog:Program}{w:World}{A:Around}{E:Value->Shared->Prop}{s:Shared}{a b:Int}{t u:Tok}{Q:Value->Shared->Prop}(h:Q (.bool (decide (a < b))) s):wpAny (model prog w) A (richCompare .Lt (.int a t) (.int b u)) Q E s:=wpAny_lt_int h
theorem zlY(l b:Addr)(items items2:Array Value)(n n2:Nat)(dd dd2:Option Addr)(sl sl2:Array (Option Value))(xs ys:List Int) :
  Meets (Builtin.«tuple.__lt__» ⟨[.ref l,.ref b],[]⟩)
   (fun A R s=>s.heap.get? l=some { cls:=.type "tuple",dict:=dd,data:=.seq items n,slots:=sl }/\s.heap.get? b=some { cls:=.type "tuple",dict:=dd2,data:=.seq items2 n2,slots:=sl2 } /\
    IntsAre items.toList xs/\IntsAre items2.toList ys/\R (.ok (.ret (.bool (zbv xs ys)))) s) :=
 .of_wp fun prog w A R s h=>by
  obtain⟨hp,g,d,tk,os⟩:=s;obtain⟨hl,hb,i1,i2,h⟩:=h;have f2:=AutoSeq1.sub_tuple_tuple
  wp_walk using wpAny_loadPart' hl,wpAny_loadPart' hb,wpAny_forIn_list _ (fun zbA b s'=>b.1=none/\s'=⟨hp,g,d,tk,os⟩/\∃ (vs us:List Value) (as bs:List Int),zbA=vs.zip us/\IntsAre vs as/\IntsAre us bs/\(items.size < items2.size↔as.length < bs.length) /\
   R (.ok (.ret (.bool (zbv as bs)))) ⟨hp,g,d,tk,os⟩) _
  case turn =>
   rintro⟨y,x⟩ zbA b s' ⟨hb',rfl,vs,us,as,bs,hz,j1,j2,hn,hR⟩;cases j1 with
   | nil=>cases hz
   | @cons a t vs as j1 =>
    cases j2 with
    | nil=>cases hz
    | @cons c u us bs j2 =>
     rw [List.zip_cons_cons]at hz;injection hz with hyx hrest;injection hyx with e1 e2;subst e1 e2;refine qa (wpAny_eqBool_int ?_)
     by_cases e:a=c
     ·subst e
      rw [beq_self_eq_true]
      wp_walk
      refine⟨rfl,rfl,vs,us,as,bs,hrest,j1,j2,?_,?_⟩
      ·rw [hn,qt,qt]
       omega
      ·simpa [zbv] using hR
     ·rw [beq_eq_false_iff_ne.mpr e]
      wp_walk using zoU
      exact⟨_,rfl,by simpa [zbv,e] using hR⟩
  case fin =>
   rintro⟨b1,b2⟩ s' ⟨hb',rfl,vs,us,as,bs,hz,j1,j2,hn,hR⟩;simp only at hb';subst hb'
   wp_walk
   refine⟨_,rfl,?_⟩;have e:decide (items.size < items2.size)=zbv as bs:=by
    cases j1 with
    | nil =>
     cases j2 with
     | nil=>exact decide_eq_false (fun z=>absurd (hn.mp z) (Nat.lt_irrefl _))
     | cons c u j2=>exact decide_eq_true (hn.mpr (Nat.zero_lt_succ _))
    | cons a t j1 =>
     cases j2 with
     | nil=>exact decide_eq_false (fun z=>absurd (hn.mp z) (Nat.not_lt_zero _))
     | cons c u j2=>cases hz
   show R (Except.ok (Flow.ret (Value.bool (decide (items.size < items2.size))))) _;rw [e];exact hR
  case h =>
   refine⟨rfl,rfl,items.toList,items2.toList,xs,ys,rfl,i1,i2,?_,h⟩;rw [<-IntsAre.length i1,<-IntsAre.length i2,Array.length_toList,Array.length_toList]
theorem zlZ{prog:Program}{w:World}{A:Around}{E:Value->Shared->Prop}{s:Shared}{l b:Addr}{items items2:Array Value}{xs ys:List Int}{Q:Value->Shared->Prop}(hl:s.heap.IsTuple l items)(hb:s.heap.IsTuple b items2)(i1:IntsAre items.toList xs)(i2:IntsAre items2.toList ys)(hu:A.units < cLine)
  (h:Q (.bool (zbv xs ys)) s):wpAny (model prog w) A (compareOp .Lt (.ref l) (.ref b)) Q E s:=by
 obtain⟨⟨cls,dd,data,sl⟩,ho,hc,n,hd⟩:=id hl;obtain⟨⟨cls2,dd2,data2,sl2⟩,ho2,hc2,n2,hd2⟩:=id hb;simp only at hc hd hc2 hd2;subst hc hd hc2 hd2;exact richCompare_meets_room (op:=.Lt) ⟨_,ho,rfl⟩ ⟨_,ho2,rfl⟩ F.slot_tuple_lt F.entry_tuple_lt (F.args_tuple_lt_2 _ _) (zlY l b items items2 n n2 dd dd2 sl sl2 xs ys) ⟨ho,ho2,i1,i2,⟨(fun x=>nomatch x),h⟩⟩ hu
end L2
namespace L2
open PySem PySem.Spec PySem.W PyProof.Rows
section
variable {prog:Program} {w:World} {A:Around} {E:Value->Shared->Prop} {s:Shared}
def zAq(prog:Program)(w:World)(A:Around)(rk:Nat->Int)(vs:List Value)(κ:SortKind)(s:Shared):Prop :=
 ∀ i j (C:Bool->Shared->Prop),i < vs.length->j < vs.length->C (ltR rk i j) s->wpAny (model prog w) A (keyLt' κ (vs.getD i Value.none) (vs.getD j Value.none)) C (fun _ _=>False) s
theorem zje{rk:Nat->Int}{a:Addr}{vs:List Value}{n:Nat}{P:PySem.Fin->Shared->Prop}(ho:s.heap.get? a=some (seqObj "list" vs.toArray n))(h64:vs.length < 64)
  (hk:2<=vs.length->∀ h':Heap,(∀ b o,b≠a->s.heap.get? b=some o->h'.get? b=some o)->∀ Q:SortKind->Shared->Prop,(∀ κ,zAq prog w A rk vs κ { s with heap:=h' }->Q κ { s with heap:=h' })->wpAny (model prog w) A (keyKind' vs.toArray) Q (fun _ _=>False) { s with heap:=h' })
  (h:∀ p:Array Nat,Pm vs.length p->Up rk p vs.length->P (.done (.ret .none)) { s with heap:=sortedHeap s.heap a vs (List.toArray (p.toList.map fun i=>vs.getD i Value.none)) }) :
  wpAny (model prog w) A (Builtin.«list.sort» ⟨[.ref a],[]⟩) P E s:=by
 have line:(64:Nat)<=sizeLine:=by decide
 have ha:a < s.heap.objs.size:=qh ho;obtain⟨e1,ho1⟩:∃ e1,(s.heap.update a (Obj.mapSeq fun _=>#[])).get? a=some (seqObj "list" #[] e1):=⟨_,get?_update_seq ho (fun _=>#[])⟩;have old:∀ b o,(s.heap.update a (Obj.mapSeq fun _=>#[])).get? b=some o->(((s.heap.update a (Obj.mapSeq fun _=>#[])).push (seqObj "tuple" vs.toArray 0)).push (seqObj "list" #[] 0)).get? b=some o :=
  fun b o e=>qd _ (qd _ e)
 have ho6:=old _ _ ho1;have keep:∀ b o,b≠a->s.heap.get? b=some o->(((s.heap.update a (Obj.mapSeq fun _=>#[])).push (seqObj "tuple" vs.toArray 0)).push (seqObj "list" #[] 0)).get? b=some o :=
  fun b o ne e=>old b o (by rw [Heap.get?_update_ne _ _ _ _ ne]; exact e)
 rw [list_sort_plain];refine qa (listItems_at ho rfl (qa (listUpdate_at ho rfl (qa (seqEpoch_at ho1 rfl (qa (wpAny_newTuple (qa (wpAny_newList (wpAny_holding ?_) ?_)) ?_)))) ?_ ?_)))
 case refine_2=>exact Nat.zero_le _
 case refine_3=>show vs.length<=_; omega
 case refine_4=>show vs.toArray.size<=_; rw [List.size_toArray]; omega
 case refine_5=>exact Nat.zero_le _
 show wpAny (model prog w) A _ P E { s with heap:=((s.heap.update a (Obj.mapSeq fun _=>#[])).push (seqObj "tuple" vs.toArray 0)).push (seqObj "list" #[] 0) };dsimp only;generalize hH:((s.heap.update a (Obj.mapSeq fun _=>#[])).push (seqObj "tuple" vs.toArray 0)).push (seqObj "list" #[] 0)=h6 at *;have hsz:vs.toArray.size=vs.length:=by simp
 have fin:∀ p:Array Nat,Pm vs.length p->Up rk p vs.length->P (.done (.ret .none)) { s with heap:=h6.update a (Obj.mapSeq fun _=>List.toArray (p.toList.map fun i=>vs.getD i Value.none)) }:=fun p a1 a2=>by
  have:=h p a1 a2;unfold sortedHeap at this;rw [hH]at this;exact this
 by_cases h2:vs.toArray.size < 2
 ·rw [if_pos h2,if_pos h2]
  refine qa (qb ?_);rw [StateT.run_pure];refine qa (qb ?_);dsimp only;have hz:(vs.toArray.zip vs.toArray).size=vs.length:=by simp
  have har:arrOf (SortSt.mk' general' (vs.toArray.zip vs.toArray) #[] 7 none)=(List.range vs.length).toArray.map (kas_item (vs.toArray.zip vs.toArray)):=by
   have:=kas_range (vs.toArray.zip vs.toArray);rw [hz]at this;exact this.symm
  have e:=kat_snds (ks:=vs) (vs:=vs) rfl har;rw [e];refine qa (seqEpoch_at ho6 rfl (qa (listUpdate_at ho6 rfl ?_ ?_ ?_)))
  ·show wpAny _ _ (if(e1 != e1)=true then _ else _) _ _ _
   rw [bne_self_eq_false,if_neg qf];refine qb (fin _ (Array.Perm.refl _) fun i j hij hj=>?_);have:i=j:=by omega
   subst this;exact Int.le_refl _
  ·exact Nat.zero_le _
  ·rw [List.size_toArray,List.length_map]
   simp;omega
 ·rw [if_neg h2,if_neg h2]
  have h2':2<=vs.length:=by omega
  refine qa (wpAny_mono (hk h2' h6 keep _ fun κ ask=>?_) (fun _ _ x=>x) fun _ _ x=>x.elim);refine qa (wpAny_mono (kat_run (ks:=vs) (Q:=fun st' s'=>s'={ s with heap:=h6 }/\∃ p:Array Nat,Pm vs.length p/\Up rk p vs.length/\arrOf st'=p.map (kas_item (vs.toArray.zip vs.toArray))/\failedOf st'=none) (G:=fun p s'=>s'={ s with heap:=h6 }/\Pm vs.length p/\Up rk p vs.length) rfl h2' h64
   (fun p st' s' _ a2 a3 a4=>⟨a4.1,p,a4.2.1,a4.2.2,a2,a3⟩) (zb4.wp (lt:=ltR rk) (n:=vs.length) ask (fun p hp=>⟨rfl,hp⟩) (zoT (by omega) fun p a1 a2=>⟨a1,a2⟩))) ?_ fun _ _ x=>x)
  rintro⟨⟨⟩,st'⟩ s' ⟨rfl,p,a1,a2,har,hf⟩;dsimp only;have e:=kat_snds (ks:=vs) (vs:=vs) rfl har;rw [e,hf];refine qa (seqEpoch_at ho6 rfl (qa (listUpdate_at ho6 rfl ?_ ?_ ?_)))
  ·show wpAny _ _ (if(e1 != e1)=true then _ else _) _ _ _
   rw [bne_self_eq_false,if_neg qf];exact qb (fin p a1 a2)
  ·exact Nat.zero_le _
  ·rw [List.size_toArray,List.length_map,Array.length_toList,a1.size]
   omega
end
theorem zdg:∀ a:List Int,zbv a a=false
 | []=>rfl
 | a::as=>by unfold zbv; rw [if_pos rfl]; exact zdg as
theorem zca:∀ {a b c:List Int},zbv a b=true->zbv b c=true->zbv a c=true
 | [],[],_,h,_=>by cases h
 | [],_::_,[],_,h=>by cases h
 | [],_::_,_::_,_,_=>rfl
 | _::_,[],_,h,_=>by cases h
 | _::_,_::_,[],_,h=>by cases h
 | a::as,b::bs,c::cs,h1,h2=>by
  unfold zbv at h1 h2 ⊢
  by_cases e1:a=b
  ·subst e1
   rw [if_pos rfl]at h1
   by_cases e2:a=c
   ·rw [if_pos e2]at h2 ⊢
    exact zca h1 h2
   ·rw [if_neg e2]at h2 ⊢
    exact h2
  ·rw [if_neg e1]at h1
   have l1:=of_decide_eq_true h1
   by_cases e2:b=c
   ·subst e2
    rw [if_neg e1];exact h1
   ·rw [if_neg e2]at h2
    have l2:=of_decide_eq_true h2;rw [if_neg (by omega)];exact decide_eq_true (by omega)
theorem zc0:∀ {a b:List Int},a≠b->zbv a b=true\/zbv b a=true
 | [],[],h=>absurd rfl h
 | [],_::_,_=>.inl rfl
 | _::_,[],_=>.inr rfl
 | a::as,b::bs,h=>by
  unfold zbv
  by_cases e:a=b
  ·subst e
   rw [if_pos rfl,if_pos rfl];exact zc0 fun z=>h (by rw [z])
  ·rw [if_neg e,if_neg (fun z=>e z.symm)]
   rcases(by omega:a < b\/b < a)with z | z
   ·exact .inl (decide_eq_true z)
   ·exact .inr (decide_eq_true z)
theorem zkq{α:Type}{p q:α->Bool}:∀ {l:List α} {x:α},(∀ y∈l,p y=true->q y=true)->x∈l->q x=true->p x=false->l.countP p < l.countP q
 | y::l,x,h,m,hq,hp=>by
  rw [List.countP_cons,List.countP_cons];have le:l.countP p<=l.countP q:=List.countP_mono_left fun z hz=>h z (qm _ hz);rcases qu.mp m with e | m
  ·subst e
   rw [hp,hq];simp;omega
  ·have:=zkq (fun z hz=>h z (qm _ hz)) m hq hp
   by_cases c:p y=true
   ·rw [c,h y qo c]
    simp;omega
   ·rw [if_neg c]
    split<;>omega
def zkr(ps:List (List Int))(i:Nat):Int:=((List.range ps.length).countP fun k=>zbv (ps.getD k []) (ps.getD i []):Nat)
theorem zg3{ps:List (List Int)}{i j:Nat}(hi:i < ps.length)(h:zbv (ps.getD i []) (ps.getD j [])=true):zkr ps i < zkr ps j:=by
 unfold zkr;have:=zkq (p:=fun k=>zbv (ps.getD k []) (ps.getD i [])) (q:=fun k=>zbv (ps.getD k []) (ps.getD j [])) (l:=List.range ps.length) (x:=i) (fun y _ hy=>zca hy h) (List.mem_range.mpr hi) h (zdg _);omega
theorem zeN{ps:List (List Int)}(h:ps.Nodup){i j:Nat}(hi:i < ps.length)(hj:j < ps.length)(ne:i≠j):ps.getD i []≠ps.getD j []:=by
 have e:∀ k (hk:k < ps.length),ps.getD k []=ps[k]:=fun k hk=>by simp [hk]
 rw [e i hi,e j hj];intro z;rcases Nat.lt_or_gt_of_ne ne with l | l
 ·exact List.pairwise_iff_getElem.mp h i j hi hj l z
 ·exact List.pairwise_iff_getElem.mp h j i hj hi l z.symm
theorem ztz{ps:List (List Int)}(h:ps.Nodup){i j:Nat}(hi:i < ps.length)(hj:j < ps.length):ltR (zkr ps) i j=zbv (ps.getD i []) (ps.getD j []):=by
 cases c:zbv (ps.getD i []) (ps.getD j [])with
 | true=>exact decide_eq_true (zg3 hi c)
 | false =>
  refine decide_eq_false fun z=>?_
  by_cases e:i=j
  ·subst e; omega
  ·rcases zc0 (zeN h hi hj e)with y | y
   ·rw [c]at y; cases y
   ·have:=zg3 hj y
    omega
theorem Pm.list{n:Nat}{p:Array Nat}(h:Pm n p):p.toList.Perm (List.range n):=by
 have:=h.toList;simpa using this
theorem zxg{ps:List (List Int)}(h:ps.Nodup){p:Array Nat}(hp:Pm ps.length p)(hu:Up (zkr ps) p ps.length):(p.toList.map fun i=>ps.getD i []).Pairwise fun a b=>zbv a b=true:=by
 have hs:=hp.size;have hl:=hp.list;have nd:p.toList.Nodup:=hl.nodup_iff.mpr List.nodup_range;refine List.pairwise_map.mpr (List.pairwise_iff_getElem.mpr fun i j hi hj hij=>?_);have e:∀ k (hk:k < p.toList.length),KR (zkr ps) p k=zkr ps p.toList[k]:=fun k hk=>by
  unfold KR;have hk':k < p.size:=by simpa using hk
  congr 1;simp [Array.getD,hk']
 have m:∀ k (hk:k < p.toList.length),p.toList[k] < ps.length:=fun k hk=>List.mem_range.mp (hl.mem_iff.mp (List.getElem_mem hk));have le:=hu i j (by omega) (by rw [Array.length_toList]at hj; omega);rw [e i hi,e j hj]at le;have ne:p.toList[i]≠p.toList[j]:=List.pairwise_iff_getElem.mp nd i j hi hj hij;rcases zc0 (zeN h (m i hi) (m j hj) ne)with z | z
 ·exact z
 ·have:=zg3 (m j hj) z
  omega
def zks(h:Heap)(v:Value)(ns:List Int):Prop:=∃ (a b:Addr) (u:Value) (its:Array Value),v=.ref a/\IsTup h a #[.ref b,u]/\IsTup h b its/\IntsAre its.toList ns
theorem zkt{h h':Heap}{a:Addr}{its:Array Value}(t:IsTup h a its)(k:∀ o,h.get? a=some o->h'.get? a=some o):IsTup h' a its:=by
 obtain⟨o,e,r⟩:=t;exact⟨o,k o e,r⟩
theorem zeO{prog:Program}{w:World}:∀ {vs:List Value} {ns:List Int},IntsAre vs ns->ItemsAre (zT prog w) (ns.map fun n=>(Sum.inl n:Key)) vs
 | _,_,.nil=>.nil
 | _,_,.cons n t h=>.cons (show Value.isInt n (.int n t)=true by simp [Value.isInt]) (zeO h)
theorem zjf{ns ms:List Int}:(ns.map fun n=>(Sum.inl n:Key))=(ms.map fun n=>(Sum.inl n:Key))↔ns=ms:=by
 constructor
 ·intro h
  have:=congrArg (List.map fun k:Key=>match k with | .inl n=>n | .inr _=>0) h;rw [List.map_map,List.map_map]at this;simpa [Function.comp_def] using this
 ·rintro rfl; rfl
section
variable {prog:Program} {w:World} {A:Around} {s:Shared}
theorem zy2{v v':Value}{ns ns':List Int}{C:Bool->Shared->Prop}(hu:A.units < cLine)(p:zks s.heap v ns)(p':zks s.heap v' ns')(ne:v=v'\/ns≠ns')(h:C (zbv ns ns') s):wpAny (model prog w) A (keyLt' (tuples' false) v v') C (fun _ _=>False) s:=by
 obtain⟨a,b,u,its,rfl,⟨oa,ea,ca,na,da⟩,tb,ib⟩:=p;obtain⟨a',b',u',its',rfl,⟨oa',ea',ca',na',da'⟩,tb',ib'⟩:=p';refine kat_lt ea da ea' da' ?_;show KatLex prog w A false _ C [(.ref b,.ref b'),(u,u')] 0 s;obtain⟨ob,eb,cb,nb,db⟩:=id tb;obtain⟨ob',eb',cb',nb',db'⟩:=id tb';refine kat_cons (wpAny_eqBool_tuple (knd:=zT prog w) hu ⟨ob,its,nb,eb,cb,db,zeO ib⟩ ⟨ob',its',nb',eb',cb',db',zeO ib'⟩ ?_)
 by_cases e:ns=ns'
 ·rw [decide_eq_true (zjf.mpr e)]
  rcases ne with z | z
  ·cases z
   rw [ea]at ea';cases ea';rw [da]at da';injection da' with d1 d2;have d3:=congrArg Array.toList d1;have e1:Value.ref b=.ref b'/\u=u':=by simpa using d3
   obtain⟨_,rfl⟩:=e1;refine kat_yes (kat_cons (SeqAt.EqAt.same u prog w _ _ (kat_yes (kat_nil ?_))));subst e;rw [zdg]at h;exact h
  ·exact absurd e z
 ·rw [decide_eq_false fun z=>e (zjf.mp z)]
  refine kat_no (kat_one _ _ (zlZ tb tb' ib ib' hu ?_));exact h
end
theorem zks.kept{h h':Heap}{v:Value}{ns:List Int}(p:zks h v ns)(k:∀ b o,h.get? b=some o->h'.get? b=some o):zks h' v ns:=by
 obtain⟨a,b,u,its,e,ta,tb,i⟩:=p;exact⟨a,b,u,its,e,zkt ta (k a),zkt tb (k b),i⟩
theorem ziq{h:Heap}:∀ {vs:List Value},(∀ v∈vs,∃ ns,zks h v ns)->∃ fs,KatTups h vs fs/\fs.length=vs.length/\∀ f∈fs,∃ (b:Addr) (its:Array Value),f=.ref b/\IsTup h b its
 | [],_=>⟨[],.nil,rfl,fun f hf=>by cases hf⟩
 | v::vs,hv=>by
  obtain⟨fs,k,l,q⟩:=ziq (vs:=vs) fun x hx=>hv x (qm _ hx);obtain⟨ns,a,b,u,its,rfl,⟨o,eo,co,n,dO⟩,tb,_⟩:=hv v qo;refine⟨.ref b::fs,.cons eo co dO rfl k,by rw [qt,qt,l],fun f hf=>?_⟩;rcases qu.mp hf with e | hf
  ·exact⟨b,its,e,tb⟩
  ·exact q f hf
def ztA(K:qc)(H:Hp)(vs:List V)(ps:List (List Int)):Prop:=vs.length=ps.length/\∀ i v,vs[i]?=some v->∃ (a b:Addr) (y:V),v=.ref a/\SqT K H a [.ref b,y]/\SqT K H b ((ps.getD i []).map V.int)
def zqb(K:qc):List V->Hp->VK->Prop:=fun xs H Q=>∃ (l:Addr) (vs:List V) (ps:List (List Int)),xs=[.ref l]/\SqL K H l vs/\vs.length < 64/\ztA K H vs ps/\ps.Nodup /\
 ∀ (is:List Nat) r,is.Perm (List.range vs.length)->(is.map fun i=>ps.getD i []).Pairwise (fun a b=>zbv a b=true)->H r=none->Q (.ref r) (upd H r (.lst (is.map fun i=>vs.getD i .non)))
theorem zir{vs:List V}{us:List Value}(r:zH vs us):∀ is:List Nat,(∀ i∈is,i < vs.length)->zH (is.map fun i=>vs.getD i .non) (is.map fun i=>us.getD i Value.none)
 | [],_=>.nil
 | i::is,h=>by
  have hi:=h i qo;obtain⟨u,e,ru⟩:=r.get (ql hi);refine .cons ?_ (zir r is fun j hj=>h j (qm _ hj));show zJ (vs.getD i .non) (us.getD i Value.none);rw [qA,qA,ql hi,e];exact ru
section
variable {X:Cx}
theorem zl0(K:qc)(hK:X.K=K){k:Nat}(hr:Room k X.A):zaN X (.builtin "sorted") (zqb K):=by
 subst hK;intro pins s σ H xs us Q I r h;obtain⟨l,vs,ps,rfl,hl,h64,⟨lp,hp⟩,nd,q⟩:=h;obtain⟨u,rfl,ru⟩:=zcd r;cases ru;obtain⟨its,rv,⟨o,n,eo,co,_,dO⟩,_⟩:=I.list hl;have line:(64:Nat)<=sizeLine:=by decide
 have lv:its.length=vs.length:=rv.length.symm;have pr:∀ i,i < its.length->zks s.heap (its.getD i Value.none) (ps.getD i []):=fun i hi=>by
  have hi':i < vs.length:=by omega
  obtain⟨a,b,y,ev,ha,hb⟩:=hp i _ (ql hi');obtain⟨u,eu,ru⟩:=rv.get (ql hi');rw [ev]at ru;cases ru;obtain⟨ia,ra,ta,_⟩:=I.tuple ha;obtain⟨u1,u2,rfl,r1,r2⟩:=ra.two;cases r1;obtain⟨ib,rb,tb,_⟩:=I.tuple hb;refine⟨a,b,u2,ib.toArray,?_,ta,tb,zgS rb⟩;rw [qA,eu];rfl
 refine Calls.call_function_entry kind_sorted plain_sorted entry_sorted (args_sorted1 _) ?_;unfold Builtin.«sorted»;refine qa (m:=checkCount "sorted" 1 1 _) (qb ?_);refine qa (collect_list (vs:=its) ⟨o,eo,co,n,dO⟩ (qa (wpAny_newList ?_ ?_)) (by omega))
 case refine_2=>omega
 generalize hH:(s.heap.push (seqObj "list" #[] 0)).update s.heap.objs.size (Obj.mapSeq (·++its.toArray))=h1 at *;have hsz:h1.objs.size=s.heap.objs.size+1:=by rw [<-hH,Heap.size_update,size_push']
 have keep1:∀ b o,s.heap.get? b=some o->h1.get? b=some o:=fun b o e=>by
  have hlt:b < s.heap.objs.size:=qh e;rw [<-hH,Heap.get?_update_ne _ _ _ _ (qj hlt),Heap.get?_push_ne _ _ _ (qj hlt)];exact e
 have I1:Inv X pins σ H { s with heap:=h1,toks:=s.toks }:=I.kept keep1;have hoL:(h1.push (seqObj "list" its.toArray 0)).get? h1.objs.size=some (seqObj "list" its.toArray 0):=qg _ rfl;have hu:X.A.units+64 < cLine:=hr.units;refine qa (wpAny_holding (wpAny_call_entry slot_list_sort ⟨_,hoL,rfl⟩ entry_list_sort (zje (rk:=zkr ps) (s:={ s with heap:=h1.push (seqObj "list" its.toArray 0) }) hoL (by omega) (fun h2 h' kp Q' hQ=>?_) fun p a1 a2=>⟨_,rfl,?_⟩) (args_list_sort _)))
 ·have kp':∀ b o,s.heap.get? b=some o->h'.get? b=some o:=fun b o e=>by
   have hlt:b < s.heap.objs.size:=qh e;exact kp b o (qj (by rw [hsz]; exact Nat.lt_succ_of_lt hlt)) (qd _ (keep1 b o e))
  have pr':∀ i,i < its.length->zks h' (its.getD i Value.none) (ps.getD i []):=fun i hi=>(pr i hi).kept kp';obtain⟨fs,kt,lf,tf⟩:=ziq (h:=h') (vs:=its) fun v hv=>by
   obtain⟨i,hi,e⟩:=List.getElem_of_mem hv;have:=pr' i hi;rw [show its.getD i Value.none=v by simp [hi,e]]at this;exact⟨_,this⟩
  refine kat_kind (fs:=fs) (T:=.type "tuple") kt (by omega) (fun v hv=>?_) (by decide) ?_
  ·obtain⟨b,ib,rfl,o,eo,co,_⟩:=tf v hv
   rw [<-co];exact(Looks.ld eo).andThen .now
  ·refine hQ _ fun i j C hi hj hc=>?_
   rw [ztz nd (by omega) (by omega)]at hc;refine zy2 (by show X.A.units+1+1 < cLine; omega) (pr' i hi) (pr' j hj) ?_ hc
   by_cases e:i=j
   ·exact .inl (by rw [e])
   ·exact .inr (zeN nd (by omega) (by omega) e)
 ·refine qb ⟨_,rfl,?_⟩
  obtain⟨en,ho⟩:=sortedHeap_at (vs:=its) (out:=List.toArray (p.toList.map fun i=>its.getD i Value.none)) hoL;have fresh:H h1.objs.size=none:=I1.hok.fresh (qe _);have perm:p.toList.Perm (List.range vs.length):=by
   have:=a1.list;rw [lv]at this;exact this
  have mem:∀ i∈p.toList,i < vs.length:=fun i hi=>List.mem_range.mp (perm.mem_iff.mp hi);have lm:p.toList.length=vs.length:=by
   have:=perm.length_eq;simpa using this
  rw [lv,lp]at a1 a2;refine⟨.ref h1.objs.size,_,I1.laid (t':=s.toks) (a:=h1.objs.size) (o:=.lst (p.toList.map fun i=>vs.getD i .non)) (fun b o e=>?_) (qe _) ⟨by rw [List.length_map]; omega,p.toList.map fun i=>its.getD i Value.none,en,zir rv p.toList mem,by simpa using ho⟩,rfl,q p.toList _ perm (zxg nd a1 a2) fresh⟩;have hb:b < h1.objs.size:=qh e;rw [sortedHeap_old (qj hb) (by rw [Heap.size_push]; exact Nat.lt_succ_of_lt hb)];exact qd _ e
end
end L2
namespace L2
open PySem PySem.Spec PyProof.Rows
def zcO(h:Heap)(d:Addr)(es:Array DictEntry)(ep:Nat):Prop:=∃ o,h.get? d=some o/\o.ExactDict/\o.data=.dict es ep
theorem zcO.typeIs{s:Shared}{d:Addr}{es:Array DictEntry}{ep:Nat}(r:zcO s.heap d es ep):s.TypeIs (.ref d) "dict":=by
 obtain⟨o,e,x,_⟩:=r;exact⟨o,e,x.1⟩
section
variable {prog:Program} {w:World} {A:Around} {E:Value->Shared->Prop} {s:Shared} {it d:Addr} {i ep:Nat} {es:Array DictEntry}
theorem zku{Q:Value->Shared->Prop}(hd:(d==sysModules)=false)(r:zcO s.heap d es ep)
  (q:∀ h':Heap,h'.IsKeyIter s.heap.objs.size d 0 es.size ep->(∀ b o,s.heap.get? b=some o->h'.get? b=some o)->Q (.ref s.heap.objs.size) { s with heap:=h' }):wpAny (model prog w) A (pyIter (.ref d)) Q E s:=by
 have hT:=r.typeIs;obtain⟨o,e,_,dat⟩:=r;refine wpAny_pyIter_slot hT F.slot_dict_iter (wpAny_call_entry F.slot_dict_iter hT F.entry_dict_iter ?_ (F.args_dict_iter_1 _));unfold Builtin.«dict.__iter__»;refine qa ?_;unfold Builtin.Dict.dictSlotNone;refine qa (wpAny_notOrdered_dict hT (qb ?_));show wpAny _ _ (Builtin.Dict.showsAll d >>= _) _ _ s;unfold Builtin.Dict.showsAll;rw [hd,if_neg qf];refine qa (qb (qa (wpAny_dictEntries e dat (qa (wpAny_dictEpoch e dat (qa (qy (qb ⟨_,rfl, "dict_keyiterator",_,⟨_,qg _ rfl,rfl⟩,F.slot_dict_keyiterator_next.lookup,?_⟩))))))));exact q _ ⟨_,qg _ rfl,rfl,by simp [rawInt]⟩ fun b o z=>qd _ z
theorem zkv{Q:Option Value->Shared->Prop}(k:s.heap.IsKeyIter it d i es.size ep)(r:zcO s.heap d es ep){x:DictEntry}(hx:es[i]?=some x)
  (q:∀ h':Heap,h'.IsKeyIter it d (i+1) es.size ep->Heap.SameBut it s.heap h'->Q (some x.key) { s with heap:=h' }):wpAny (model prog w) A (pyNext (.ref it)) Q E s:=by
 have kT:=k.typeIs;obtain⟨oi,ei,ci,fi⟩:=id k;obtain⟨o,e,_,dat⟩:=r;unfold pyNext;refine qa (wpAny_attempt (wpAny_callSpecial?_slot (name:=Str.ofString "__next__") kT F.slot_dict_keyiterator_next
  (wpAny_call_entry F.slot_dict_keyiterator_next kT F.entry_dict_keyiterator_next ?_ (F.args_dict_keyiterator_next_1 _))))
 refine qa (qb (qa (qa ?_)));refine qa (wpAny_typeNameOfWhole_keyiter kT (qb (qa (wpAny_fieldsOf ei fi ?_))));simp only [show Builtin.Dict_items.ownsTuple "dict_keyiterator"=false by decide,Bool.false_eq_true,if_false];show wpAny _ _ (if(Value.ref d==Value.none)=true then _ else _) _ _ s;rw [if_neg (show ¬((Value.ref d==Value.none)=true) from qf)];refine qa (qb (qa (wpAny_dictEntries e dat ?_)));rw [if_neg (by simp)];refine qa (qb (qa (wpAny_dictEpoch e dat ?_)));rw [if_neg (by simp)];refine qb ?_;simp only [show ¬((i:Int) < 0) from by omega,if_false,Int.toNat_natCast,hx];refine qa (qa (wpAny_typeNameOfWhole_keyiter kT (qb (qa (wpAny_isOneOf_keyiter kT ?_)))));show wpAny _ _ (setField (.ref it) 1 (rawInt ((i:Int)+1)) >>= _) _ _ s;refine qa (wpAny_setField ei fi (by simp) ?_);have k':(s.heap.update it (Obj.mapFields (·.setIfInBounds 1 (rawInt ((i:Int)+1))))).IsKeyIter it d (i+1) es.size ep :=
  ⟨_,Heap.get?_update_self _ ei (Obj.isFreed_of_fields (Obj.data_mapFields fi _)),(Obj.cls_mapFields ..).trans ci,by rw [Obj.data_mapFields fi]; simp [rawInt]⟩
 refine qa (wpAny_holding (qa (wpAny_isOneOf_keyiter (s:={ s with heap:=s.heap.update it (Obj.mapFields (·.setIfInBounds 1 (rawInt ((i:Int)+1)))) }) k'.typeIs ?_)));show wpAny _ _ (pure x.key) _ _ _;exact qb (qb ⟨_,rfl,qb (q _ k' (Heap.SameBut.update ..))⟩)
theorem zna{Q:Option Value->Shared->Prop}(hh:A.handled=none)(k:s.heap.IsKeyIter it d i es.size ep)(r:zcO s.heap d es ep)(hx:es.size<=i)
  (q:∀ h':Heap,Heap.ExtBut it s.heap h'->Q none { s with heap:=h' }):wpAny (model prog w) A (pyNext (.ref it)) Q E s:=by
 have kT:=k.typeIs;obtain⟨oi,ei,ci,fi⟩:=id k;obtain⟨o,e,_,dat⟩:=r;unfold pyNext;refine qa (wpAny_attempt (wpAny_callSpecial?_slot (name:=Str.ofString "__next__") kT F.slot_dict_keyiterator_next
  (wpAny_call_entry F.slot_dict_keyiterator_next kT F.entry_dict_keyiterator_next ?_ (F.args_dict_keyiterator_next_1 _))))
 refine qa (qb (qa (qa ?_)));refine qa (wpAny_typeNameOfWhole_keyiter kT (qb (qa (wpAny_fieldsOf ei fi ?_))));simp only [show Builtin.Dict_items.ownsTuple "dict_keyiterator"=false by decide,Bool.false_eq_true,if_false];show wpAny _ _ (if(Value.ref d==Value.none)=true then _ else _) _ _ s;rw [if_neg (show ¬((Value.ref d==Value.none)=true) from qf)];refine qa (qb (qa (wpAny_dictEntries e dat ?_)));rw [if_neg (by simp)];refine qa (qb (qa (wpAny_dictEpoch e dat ?_)));rw [if_neg (by simp)];refine qb ?_;simp only [show ¬((i:Int) < 0) from by omega,if_false,Int.toNat_natCast,Array.getElem?_eq_none hx];refine qa (qa (wpAny_typeNameOfWhole_keyiter kT (qb ?_)));show wpAny _ _ (setField (.ref it) 0 .none >>= _) _ _ s;refine qa (wpAny_setField ei fi (by simp) ?_);show wpAny _ _ (newExc (.type "StopIteration") [] >>= _) _ _ _;refine qa ?_;simp only [newExc,newTuple];refine qa (qy ?_ (by show(0:Nat)<=sizeLine; exact Nat.zero_le _));refine qa (m:=firstArgMember _ _) (wpAny_of_eq (a:=Value.none) (by first | rfl | (simp only [firstArgMember]; rfl)) ?_);refine qy ?_ (by first | trivial | size_fits);simp only [raiseNew];refine qa (wpAny_handled ?_);rw [show A.in1.handled=none from hh];refine qa (qb (wpAny_throw ?_));refine qa (wpAny_isInstance (T := "StopIteration") (b:=true) ⟨_,qg _ rfl,rfl⟩ isSubtype_stop ?_);exact qb (q _ (((Heap.SameBut.update ..).extBut.push _).push _))
end
theorem zeP{α β:Type}{R:α->β->Prop}:∀ {xs:List α} {ys:List β},Paired R xs ys->∀ (i:Nat) (x:α),xs[i]?=some x->∃ y,ys[i]?=some y/\R x y
 | _,_,.nil,i,x,h=>by simp at h
 | _,_,.cons r _,0,x,h=>by
  cases(show some _=some x from h);exact⟨_,rfl,r⟩
 | _,_,.cons _ t,i+1,x,h=>zeP t i x h
theorem zaC{α β:Type}{R:α->β->Prop}:∀ {xs:List α} {ys:List β},Paired R xs ys->xs.length=ys.length
 | _,_,.nil=>rfl
 | _,_,.cons _ t=>by rw [qt,qt,zaC t]
theorem zjg{X:Cx}{pins:List (Addr×Obj)}{σ:St}{H:Hp}{s:Shared}{a:Addr}{o:Obj}{kvs:List (List Key×V)}(I:Inv X pins σ H s)(e:H a=some (.frz o (.dT kvs))) :
  (a==sysModules)=false/\∃ (es:Array DictEntry) (ep:Nat),s.heap.get? a=some o/\o.ExactDict/\o.data=.dict es ep/\es.size=kvs.length/\∀ (i:Nat) (k:List Key) (v:V),kvs[i]?=some (k,v)->∃ (b:Addr) (x:DictEntry),es[i]?=some x/\x.key=.ref b/\TpK X.K H b (k.map kV):=by
 obtain⟨ea,z,y,xs,r,o',es,ep,h1,h2,h3,h4,h5⟩:=(show zX X.prog X.w X.K H s.heap a (.frz o (.dT kvs)) from I.hok a _ e);rw [ea]at h1;cases h1;refine⟨y,es,ep,ea,h2,h3,?_,fun i k v hi=>?_⟩
 ·have:=congrArg List.length h4
  rw [Array.length_toList,List.length_map,<-zaC r]at this;exact this
 ·obtain⟨q,hq,r1,r2,_⟩:=zeP r i (k,v) hi
  refine⟨q.2.1,entryOfKey (tupleKind (zT X.prog X.w)) q,?_,rfl,r2⟩;have:es.toList[i]?=some (entryOfKey (tupleKind (zT X.prog X.w)) q):=by rw [h4,List.getElem?_map,hq]; rfl
  simpa using this
def ItK(K:qc)(a:Addr)(o:Obj)(kvs:List (List Key×V)):It :=
 ⟨fun i H=>H a=some (.frz o (.dT kvs))/\i < kvs.length,fun i H x H'=>H'=H/\∀ k v,kvs[i]?=some (k,v)->∃ b,x=.ref b/\TpK K H b (k.map kV),fun i H=>H a=some (.frz o (.dT kvs))/\kvs.length<=i⟩
theorem zl1{P:Program}{w:World}{K:qc}{tg:Expr}(a it:Addr)(o:Obj)(kvs:List (List Key×V))(ep:Nat)(hep:∃ es,o.data=.dict es ep):Turn P w K tg (ItK K a o kvs) [it] it (fun i h=>h.IsKeyIter it a i kvs.length ep) where
 mem:=by simp
 obj:=fun i h st b hb=>by
  have e:b=it:=by simpa using hb
  subst e;obtain⟨oi,e,c,d⟩:=st;exact⟨oi,e,fun v z=>by rw [d]at z; cases z⟩
 keep:=fun i h h' st k=>st.at fun oi e=>k it (by simp) oi e
 item:=by
  intro X hP hw hK hc i pins s σ H E I hf st hg;subst hP hw hK;obtain⟨e,hi⟩:=hg;obtain⟨hsm,es,ep',ea,xd,dat,hsz,ent⟩:=zjg I e;have eep:ep'=ep:=by
   obtain⟨es',z⟩:=hep;rw [dat]at z;injection z
  subst eep;obtain⟨f0,f1,f2,f3,f4,f5⟩:=hf it (by simp);obtain⟨b,x,ex,kx,hb⟩:=ent i kvs[i].1 kvs[i].2 (ql hi);refine zkv (es:=es) (by rw [hsz]; exact st) ⟨o,ea,xd,dat⟩ ex fun h' st' sb=>?_;have I1:Inv X pins σ H { s with heap:=h' }:=I.turned (t':=s.toks) (fun b o hb e=>(sb.2 b hb).trans e) f0 f1 f3 f4 f5;obtain⟨oi,e',c',d'⟩:=id st';rw [kx];refine⟨.ref b,rfl,zka (s:={ s with heap:=h' }) e' c' d' (by decide) ⟨.ref b,H,I1,rfl,⟨rfl,fun k v hkv=>⟨b,rfl,?_⟩⟩,by rw [hsz]at st'; exact st',fun b hb=>(hf b hb).1⟩⟩;rw [ql hi]at hkv;rw [qw hkv]at hb;exact hb
 done:=by
  intro X hP hw hK hc i pins s σ H E I hf st hg;subst hP hw hK;obtain⟨e,hi⟩:=hg;obtain⟨hsm,es,ep',ea,xd,dat,hsz,ent⟩:=zjg I e;have eep:ep'=ep:=by
   obtain⟨es',z⟩:=hep;rw [dat]at z;injection z
  subst eep;obtain⟨f0,f1,f2,f3,f4,f5⟩:=hf it (by simp);exact zna (es:=es) (I.ok.hd hc) (by rw [hsz]; exact st) ⟨o,ea,xd,dat⟩ (by omega) fun h' eb=>⟨rfl,I.turned (t':=s.toks) (fun b o hb e=>eb b o hb e) f0 f1 f3 f4 f5⟩
 self:=fun _ _ _ _ _ st h=>wpAny_pyIter_keyiter st h
section
variable {X:Cx} {tg:Expr}
theorem Inv.freeze{pins:List (Addr×Obj)}{σ:St}{H:Hp}{s:Shared}{a:Addr}{kvs:List (List Key×V)}(I:Inv X pins σ H s)(e:H a=some (.dT kvs)):∃ o,s.heap.get? a=some o/\Inv X pins σ (upd H a (.frz o (.dT kvs))) s:=by
 have ok:=(show zX X.prog X.w X.K H s.heap a (.dT kvs) from I.hok a _ e);obtain⟨z,y,xs,r,o,es,ep,h1,h2⟩:=id ok;refine⟨o,h1,?_⟩;have ok2:zX X.prog X.w X.K (upd H a (.frz o (.dT kvs))) s.heap a (.dT kvs):=ok.stay (fun _ _ _ q=>q) (fun b q=>by rw [zu (ze4 q e (by intro z; cases z))]; exact q) fun b ys q=>by rw [zu (ze4 q e (by intro z; cases z))]; exact q
 exact I.write (t':=s.toks) (h':=s.heap) (by rw [e]; trivial) (.inl rfl) (fun _ _ _ q=>q) ⟨o,h1⟩ ⟨h1,ok2⟩
def zqc(K:qc)(td:TE):TI:=fun σ H R=>td σ H fun x H1=>∃ a kvs,x=.ref a/\((H1 a=some (.dT kvs)/\∀ o,R (ItK K a o kvs) (upd H1 a (.frz o (.dT kvs))))\/∃ o,H1 a=some (.frz o (.dT kvs))/\R (ItK K a o kvs) H1)
theorem zdA{d:Expr}{td:TE}(hd:Wr (PE X d td)):Wr (PI X tg d (zqc X.K td)):=by
 refine⟨?_⟩;intro pins s σ H R I h;refine thn (hd.run pins s σ H _ I h) fun v s1 ⟨x,H1,I1,r1,q1⟩=>?_;obtain⟨a,kvs,e,q⟩:=q1;subst e;cases r1;have key:∀ (H2:Hp) (o:Obj),Inv X pins σ H2 s1->H2 a=some (.frz o (.dT kvs))->R (ItK X.K a o kvs) H2->wpAny (model X.prog X.w) X.A (pyIter (.ref a)) (PIE X pins σ tg R) X.xe s1:=fun H2 o I2 e2 q2=>by
  obtain⟨hsm,es,ep,ea,xd,dat,hsz,_⟩:=zjg I2 e2;refine zku (es:=es) hsm ⟨o,ea,xd,dat⟩ fun h' hit kk=>?_;refine⟨s1.heap.objs.size,[s1.heap.objs.size],_,_,H2,rfl,I2.kept (t':=s1.toks) kk,zl1 a s1.heap.objs.size o kvs ep ⟨es,dat⟩,by rw [<-hsz]; exact hit,fun b hb=>?_,q2⟩;have e:b=s1.heap.objs.size:=by simpa using hb
  subst e;exact I2.fpOk (qe _) (I2.hok.fresh (qe _))
 rcases q with ⟨e1,q⟩ | ⟨o,e1,q⟩
 ·obtain⟨o,_,I2⟩:=I1.freeze e1
  exact key _ o I2 zt (q o)
 ·exact key H1 o I1 e1 q
end
end L2
namespace L2
open PySem PySem.Spec PyProof.Rows
open PySem.W (Looks)
def zAr(C p:Addr):Obj:={ cls:=.ref C,data:=.fields #[.ref p,.none,.none,.none,.bool false,.none] }
section
variable {prog:Program} {w:World} {A:Around} {E:Value->Shared->Prop} {h:Heap} {g:Array GenState} {d:Drawn} {t:Nat} {os:OsState}
variable {nm q:Str} {C N:Addr} {bs bm bmB:List Value} {hdct:Bool} {sn:List Str} {sub:List Value} {ab:Bool} {col:Option Bool} {dd:Option Addr} {k0 k1 k2 k3 k5:Option Value} {B newId initId:String}
end
abbrev xUp:List Value:=[.type "ValueError",.type "Exception",.type "BaseException",.type "object"]
structure XC (K:qc) (C:Addr):Prop where
 at_:∃ nm q N bs bm sn sub ab col dd k0 k1 k2 k3 k5,K.lookup C=some (excClassObj nm q C N bs bm true sn sub ab col dd k0 k1 k2 k3 k5 "ValueError.__new__")/\PySem.W.tailIn K xUp bm=true
 ga:PySem.W.findIn K (.ref C) "__getattribute__"=some (some (.builtin "BaseException.__getattribute__"))
 gh:PySem.W.findIn K (.ref C) "__getattr__"=some none
 sa:PySem.W.findIn K (.ref C) "__setattr__"=some (some (.builtin "object.__setattr__"))
section
variable {prog:Program} {w:World} {A:Around} {K:qc} {C x:Addr} {s:Shared} {R:Result->Shared->Prop}
end
end L2
namespace L2
open PySem PySem.Spec PyProof.Rows
open PySem.W (Looks InstAt)
section
variable {prog:Program} {w:World} {A:Around} {E:Value->Shared->Prop} {K:qc} {C x:Addr} {s:Shared} {R:Result->Shared->Prop}
theorem XC.cls(X:XC K C):∃ cd bm,PySem.W.clsIn K C=some cd/\cd.mro=.ref C::bm/\PySem.W.tailIn K xUp bm=true/\cd.hasDict=true:=by
 obtain⟨nm,q,N,bs,bm,sn,sub,ab,col,dd,k0,k1,k2,k3,k5,e,tl⟩:=X.at_;refine⟨{ name:=nm,bases:=bs,mro:=.ref C::bm,ns:=N,qualname:=q,hasDict:=true,slotNames:=sn,subclasses:=sub,abstract:=ab,collection:=col,hasDel:=false },bm,?_,rfl,tl,rfl⟩;unfold PySem.W.clsIn;rw [e]
end
end L2
namespace L2
open PySem PySem.Spec PyProof.Rows
open PySem.W (Looks InstAt)
structure XI (K:qc) (C:Addr):Prop where
 cl:XC K C
 ca:PySem.W.findIn K (.ref C) "__class__"=some (some (.builtin "object.__class__"))
 cg:PySem.W.specialIn K (.builtin "object.__class__") "__get__"=some (some (.builtin "getset_descriptor.__get__"))
 ct:PySem.W.takesIn K (.builtin "object.__class__")=some true
 cm:PySem.W.mroIn K C (.type "object")=some true
section
variable {prog:Program} {w:World} {A:Around} {E:Value->Shared->Prop} {K:qc} {C x:Addr} {s:Shared} {R:Result->Shared->Prop}
theorem XI.at_(Y:XI K C):∃ c d cd sl,K.lookup C=some ⟨c,d,.cls cd,sl⟩:=by
 obtain⟨nm,q,N,bs,bm,sn,sub,ab,col,dd,k0,k1,k2,k3,k5,e,tl⟩:=Y.cl.at_;exact⟨_,_,_,_,e⟩
end
end L2
namespace L2
open PySem PySem.Spec PyProof.Rows
open PySem.W (Looks InstAt)
def XV(H:Hp)(a C:Addr)(fs:List (Str×V)):Prop:=∃ ox,H a=some (.frz ox (.own 0))/\ox.cls=.ref C/\PySem.W.notCls ox=true /\
 ((fs=[]/\ox.dict=none)\/∃ od dx,ox.dict=some dx/\H dx=some (.frz od (.xd fs)))
section
variable {X:Cx} {pins:List (Addr×Obj)} {σ:St} {H:Hp} {s:Shared} {a C:Addr} {fs:List (Str×V)} {o e value:Expr} {f:Str} {pos pos':Pos} {ta tv:TE} {v:V}
end
section
variable {X:Cx} {CX:CXT} {k:Nat} {f C:Addr} {fd:FuncData} {ps:List Str} {sp:Sp} {E:XK} {x:Str} {p pos:Pos} {e:Expr} {es:List Expr} {t:TA}
end
end L2
namespace L2
open PySem PySem.Spec PyProof.Rows
open PySem.W (Looks InstAt)
section
variable {prog:Program} {w:World} {A:Around} {K:qc} {C x:Addr} {s:Shared} {R:Result->Shared->Prop}
end
section
variable {X:Cx} {C:Addr} {x:Str} {p pos:Pos}
end
end L2
namespace L2
open PySem PySem.Spec PyProof.Rows
open PySem.W (Looks InstAt)
def zAs(a C:Addr)(d tb:Option Addr)(h:Heap):Prop:=∃ oe vs,h.get? a=some oe/\oe.cls=.ref C/\oe.dict=d/\oe.data=.fields vs/\vs[1]?=some (tb.elim .none .ref)/\(tb=none->∃ p,oe={ zAr C p with dict:=d })
def pTb(T:Addr)(h:Heap):Prop:=∃ oT ts,h.get? T=some oT/\oT.data=.fields ts/\ts[3]?=some .none
def zAt(a C:Addr)(d tb:Option Addr):HO:=.ext (zAs a C d tb)
def xTb(T:Addr):HO:=.ext (pTb T)
def zAu(H:Hp)(a C:Addr)(fs:List (Str×V)):Prop:=∃ d tb,H a=some (zAt a C d tb)/\(∀ T,tb=some T->H T=some (xTb T)/\T≠a) /\
 ((fs=[]/\d=none)\/∃ od dx,d=some dx/\H dx=some (.frz od (.xd fs)))
section
variable {X:Cx} {pins:List (Addr×Obj)} {σ:St} {H:Hp} {s:Shared} {h':Heap}
theorem Inv.slots(I:Inv X pins σ H s)(z:Heap.SlotsOnly (frs X.stack) s.heap h'):Inv X pins σ H { s with heap:=h' }:=by
 obtain⟨z1,z2,z3⟩:=z;have sub:=I.stkSub;have sfree:=I.stkFree;have trk:∀ b u,H b=some u->h'.get? b=s.heap.get? b:=fun b u e=>z2 b fun hb=>by rw [sfree b hb]at e; cases e
 have old:∀ b o,X.s₀.heap.get? b=some o->b∉X.fs->b∉frs X.stack:=fun b o e hn hb=>by
  rcases qu.mp (sub b hb)with q | q
  ·have h1:=qh e
   have h2:=I.ok.above;rw [q]at h1;exact absurd (qi h1 h2) (Nat.lt_irrefl _)
  ·exact hn q
 refine⟨I.ok,I.os,I.bare,⟨fun b o e n hc hx=>?_,fun b o e n hc hx=>?_,I.base.free,fun b o e hx=>?_,I.base.tups,I.base.frzs,I.base.tbls⟩,?_,fun x c e=>?_,I.free,I.freeC,fun p hp=>?_,fun b u e=>?_,I.len⟩
 ·exact(z2 b (old b o e hc)).trans (I.base.keep b o e n hc hx)
 ·obtain⟨sl,q⟩:=I.base.slot b o e n hc hx
  obtain⟨sl',q'⟩:=z3 b _ q;exact⟨sl',q'⟩
 ·obtain⟨o',q⟩:=I.base.there b o e hx
  obtain⟨sl',q'⟩:=z3 b _ q;exact⟨_,q'⟩
 ·obtain⟨m,⟨o,es,ep,ho,hd,r⟩,hl⟩:=I.loc
  obtain⟨sl,hs⟩:=z3 _ _ ho;refine⟨m,⟨_,es,ep,hs,hd,r⟩,fun i x v e1 e2 e3=>?_⟩;obtain⟨u,ru,lk⟩:=hl i x v e1 e2 e3;refine⟨u,ru,?_⟩;rcases lk with lk | ⟨k,c,ec,oc,hoc,hdc⟩
  ·exact .inl lk
  ·obtain⟨sl,hs⟩:=z3 _ _ hoc
   exact .inr ⟨k,c,ec,_,hs,hdc⟩
 ·obtain⟨v,oc,hoc,hdc⟩:=I.cell x c e
  obtain⟨sl,hs⟩:=z3 _ _ hoc;exact⟨v,_,hs,hdc⟩
 ·obtain⟨h1,h2,h3,h4,h5⟩:=I.pin p hp
  refine⟨(z2 _ fun hb=>?_).trans h1,h2,h3,h4,h5⟩;rcases qu.mp (sub _ hb)with q | q
  ·exact h3 q
  ·exact h4 q
 ·refine(I.hok b u e).stay (fun c v hc r=>?_) (fun _ r=>r) fun _ _ r=>r
  rcases hc with rfl | hc
  ·exact(trk _ _ e).trans r
  ·exact(trk _ _ hc).trans r
end
end L2
namespace L2
open PySem PySem.Spec PyProof.Rows
open PySem.W (Looks InstAt)
abbrev EXT:=St->Addr->Hp->Prop
section
variable {X:Cx} {EX:EXT} {e:Expr} {te:TE} {pos:Pos}
end
section
variable {X:Cx} {C:Addr} {x:Str} {p pos:Pos}
end
def CXv(P:Program)(w:World)(K:qc):CXT:=fun outer H s E e s'=>∃ a H',e=.ref a/\s'.os=s.os/\AllBare s'.gens/\Un (frs outer) [] H H' s.heap s'.heap/\HOk P w K H' s'.heap/\E e none H'
section
variable {X:Cx} {EX:EXT} {k:Nat} {f:Addr} {fd:FuncData} {ps:List Str} {sp:Sp} {x:Str} {p pos:Pos} {e:Expr} {es:List Expr} {t:TA}
end
end L2
namespace L2
open PySem PySem.Spec PyProof.Rows
open PySem.W (Looks InstAt)
abbrev Cx.body(X:Cx)(pn:List (Addr×Obj))(E:Value->Shared->Prop):Cx:={ X with pn:=pn,xe:=E }
section
variable {X:Cx} {pins:List (Addr×Obj)} {σ:St} {H:Hp} {s:Shared} {E:Value->Shared->Prop} {a:Addr} {pn:List (Addr×Obj)}
theorem Cx.Ok.body(ok:X.Ok):(X.body pn E).Ok:=⟨ok.mod,ok.kind,ok.glob,ok.blt,ok.above,ok.inj,ok.has,ok.cab,ok.hd,ok.frames,ok.stk,ok.exf,ok.bs,ok.bsz,ok.noex,ok.exfs,ok.funs,ok.frf⟩
theorem Inv.body(I:Inv X pins σ H s):Inv (X.body (X.pn++pins) E) [] σ H s:=⟨I.ok.body,I.os,I.bare,I.base,I.loc,I.cell,I.free,I.freeC,fun p hp=>I.pin p (by simpa using hp),I.hok,I.len⟩
end
section
variable {prog:Program} {w:World} {A:Around} {E:Value->Shared->Prop} {K:qc} {C C':Addr}
end
section
variable {X:Cx} {i:Nat} {n cls:Str} {C':Addr} {body suite:List Stmt} {b₀:Stmt} {tb:EXT->TS} {th:TS} {np hpos pos:Pos}
end
end L2
namespace L2
open PySem PySem.Spec PyProof.Rows
abbrev D:=PyData
def k1D:Key->D
 | .inl i=>.int i
 | .inr x=>.str x
def kTD(ks:List Key):D:=.tuple (ks.map k1D)
def PL(K:qc)(H:Hp)(a:Addr)(xs:List V):Prop :=
 (∃ o,H a=some (.frz o (.lst xs)))\/∃ (o:Obj) (its:Array Value) (n:Nat),K.lookup a=some o/\o.cls=.type "list"/\o.dict=none/\o.data=.seq its n/\its.size<=sizeLine/\zH xs its.toList
def XN(K:qc)(n:Str)(C:Addr):Prop:=PySem.W.nsIn K mainGlobals n=some (some (.ref C))
def noX:List (D×D)->Bool
 | (.none,_)::_=>false
 | (.bool _,_)::_=>false
 | _=>true
theorem TpK.sq{K:qc}{H:Hp}{a:Addr}{xs:List V}(h:TpK K H a xs):SqT K H a xs:=h.imp .inl fun⟨o,i,n,a,b,c,d,e,_⟩=>⟨o,i,n,a,b,c,d,e⟩
theorem TpK.kp{K:qc}{H H':Hp}{a:Addr}{xs:List V}(e:Kp H H')(h:TpK K H a xs):TpK K H' a xs:=h.keeps e.tup
mutual
inductive DF (K:qc) (H:Hp):V->D->Prop
 | non:DF K H .non .none
 | bl (b:Bool):DF K H (.bl b) (.bool b)
 | int (i:Int):DF K H (.int i) (.int i)
 | str (x:Str):DF K H (.str x) (.str x)
 | tup {a:Addr} {xs:List V} {ds:List D} (h:TpK K H a xs) (t:DFs K H xs ds):DF K H (.ref a) (.tuple ds)
 | lst {a:Addr} {xs:List V} {ds:List D} (h:PL K H a xs) (t:DFs K H xs ds):DF K H (.ref a) (.list ds)
 | dct {a:Addr} {o:Obj} {ws:List (List Key×V)} {kvs:List (D×D)} (h:H a=some (.frz o (.dT ws))) (t:DFt K H ws kvs):DF K H (.ref a) (.dict kvs)
 | exc {a C:Addr} {n:Str} {fs:List (Str×V)} {ds:List (D×D)} (h:XV H a C fs) (e:XN K n C) (t:DFf K H fs ds):DF K H (.ref a) (.dict ((.none,.str n)::ds))
 | obj {a C dx:Addr} {o:Obj} {n:Str} {fs:List (Str×V)} {ds:List (D×D)} (h:H a=some (.frz o (.ins C dx fs))) (e:XN K n C) (t:DFf K H fs ds):DF K H (.ref a) (.dict ((.bool true,.str n)::ds))
inductive DFs (K:qc) (H:Hp):List V->List D->Prop
 | nil:DFs K H [] []
 | cons {v:V} {d:D} {vs:List V} {ds:List D} (h:DF K H v d) (t:DFs K H vs ds):DFs K H (v::vs) (d::ds)
inductive DFt (K:qc) (H:Hp):List (List Key×V)->List (D×D)->Prop
 | nil:DFt K H [] []
 | cons {k:List Key} {v:V} {d:D} {vs:List (List Key×V)} {ds:List (D×D)} (h:DF K H v d) (t:DFt K H vs ds):DFt K H ((k,v)::vs) ((kTD k,d)::ds)
inductive DFf (K:qc) (H:Hp):List (Str×V)->List (D×D)->Prop
 | nil:DFf K H [] []
 | cons {k:Str} {v:V} {d:D} {vs:List (Str×V)} {ds:List (D×D)} (h:DF K H v d) (t:DFf K H vs ds):DFf K H ((k,v)::vs) ((.str k,d)::ds)
end
theorem XV.kp{H H':Hp}{a C:Addr}{fs:List (Str×V)}(e:Kp H H')(h:XV H a C fs):XV H' a C fs:=by
 obtain⟨ox,h1,h2,h3,h4⟩:=h;refine⟨ox,e.frz _ _ _ h1,h2,h3,?_⟩;rcases h4 with h4 | ⟨od,dx,h5,h6⟩
 ·exact .inl h4
 ·exact .inr ⟨od,dx,h5,e.frz _ _ _ h6⟩
theorem PL.kp{K:qc}{H H':Hp}{a:Addr}{xs:List V}(e:Kp H H')(h:PL K H a xs):PL K H' a xs:=by
 rcases h with ⟨o,h⟩ | h
 ·exact .inl ⟨o,e.frz _ _ _ h⟩
 ·exact .inr h
theorem PL.sq{K:qc}{H:Hp}{a:Addr}{xs:List V}(h:PL K H a xs):SqL K H a xs:=by
 rcases h with ⟨o,h⟩ | h
 ·exact .inl (.inr ⟨o,h⟩)
 ·exact .inr h
mutual
theorem DF.kp{K:qc}{H H':Hp}(e:Kp H H'):∀ {v:V} {d:D},DF K H v d->DF K H' v d
 | _,_,.non=>.non
 | _,_,.bl b=>.bl b
 | _,_,.int i=>.int i
 | _,_,.str x=>.str x
 | _,_,.tup h t=>.tup (h.keeps e.tup) (DFs.kp e t)
 | _,_,.lst h t=>.lst (h.kp e) (DFs.kp e t)
 | _,_,.dct h t=>.dct (e.frz _ _ _ h) (DFt.kp e t)
 | _,_,.exc h n t=>.exc (h.kp e) n (DFf.kp e t)
 | _,_,.obj h n t=>.obj (e.frz _ _ _ h) n (DFf.kp e t)
theorem DFs.kp{K:qc}{H H':Hp}(e:Kp H H'):∀ {v:List V} {d:List D},DFs K H v d->DFs K H' v d
 | _,_,.nil=>.nil
 | _,_,.cons h t=>.cons (DF.kp e h) (DFs.kp e t)
theorem DFt.kp{K:qc}{H H':Hp}(e:Kp H H'):∀ {v:List (List Key×V)} {d:List (D×D)},DFt K H v d->DFt K H' v d
 | _,_,.nil=>.nil
 | _,_,.cons h t=>.cons (DF.kp e h) (DFt.kp e t)
theorem DFf.kp{K:qc}{H H':Hp}(e:Kp H H'):∀ {v:List (Str×V)} {d:List (D×D)},DFf K H v d->DFf K H' v d
 | _,_,.nil=>.nil
 | _,_,.cons h t=>.cons (DF.kp e h) (DFf.kp e t)
end
section
variable {K:qc} {H:Hp}
theorem DFs.snoc{v:V}{d:D}(h:DF K H v d):∀ {vs:List V} {ds:List D},DFs K H vs ds->DFs K H (vs++[v]) (ds++[d])
 | _,_,.nil=>.cons h .nil
 | _,_,.cons a t=>.cons a (DFs.snoc h t)
theorem DFs.app:∀ {vs ws:List V} {ds es:List D},DFs K H vs ds->DFs K H ws es->DFs K H (vs++ws) (ds++es)
 | _,_,_,_,.nil,q=>q
 | _,_,_,_,.cons a t,q=>.cons a (DFs.app t q)
theorem DFs.len:∀ {vs:List V} {ds:List D},DFs K H vs ds->vs.length=ds.length
 | _,_,.nil=>rfl
 | _,_,.cons _ t=>congrArg (·+1) (DFs.len t)
theorem DFs.get:∀ {vs:List V} {ds:List D} {i:Nat} {d:D},DFs K H vs ds->ds[i]?=some d->∃ v,vs[i]?=some v/\DF K H v d
 | _,_,0,_,.cons h _,e=>by
  cases(show some _=some _ from e);exact⟨_,rfl,h⟩
 | _,_,i+1,_,.cons _ t,e=>DFs.get (i:=i) t e
 | _,_,0,_,.nil,e=>by cases e
 | _,_,_+1,_,.nil,e=>by cases e
theorem DFs.get':∀ {vs:List V} {ds:List D} {i:Nat} {v:V},DFs K H vs ds->vs[i]?=some v->∃ d,ds[i]?=some d/\DF K H v d
 | _,_,0,_,.cons h _,e=>by
  cases(show some _=some _ from e);exact⟨_,rfl,h⟩
 | _,_,i+1,_,.cons _ t,e=>DFs.get' (i:=i) t e
 | _,_,0,_,.nil,e=>by cases e
 | _,_,_+1,_,.nil,e=>by cases e
theorem DFs.take:∀ {vs:List V} {ds:List D} (n:Nat),DFs K H vs ds->DFs K H (vs.take n) (ds.take n)
 | _,_,0,_=>by simpa using DFs.nil
 | _,_,n+1,.nil=>by simpa using DFs.nil
 | _,_,n+1,.cons h t=>.cons h (DFs.take n t)
theorem DFs.drop:∀ {vs:List V} {ds:List D} (n:Nat),DFs K H vs ds->DFs K H (vs.drop n) (ds.drop n)
 | _,_,0,q=>q
 | _,_,n+1,.nil=>by simpa using DFs.nil
 | _,_,n+1,.cons h t=>DFs.drop n t
theorem DFs.set{v:V}{d:D}(h:DF K H v d):∀ {vs:List V} {ds:List D} (n:Nat),DFs K H vs ds->DFs K H (vs.set n v) (ds.set n d)
 | _,_,_,.nil=>.nil
 | _,_,0,.cons _ t=>.cons h t
 | _,_,n+1,.cons a t=>.cons a (DFs.set h n t)
end
inductive U where
 | d (x:D)
 | l (xs:List D) | t (kvs:List (List Key×D)) | k (kvs:List (Key×D))
def U.own:U->Bool
 | .d _=>false
 | _=>true
def KVd{κ:Type}(K:qc)(H:Hp):List (κ×V)->List (κ×D)->Prop:=Paired fun p q=>p.1=q.1/\DF K H p.2 q.2
def Rp(K:qc)(H:Hp)(v:V):U->Prop
 | .d x=>DF K H v x
 | .l xs=>∃ a us,v=.ref a/\H a=some (.lst us)/\DFs K H us xs
 | .t kvs=>∃ a ws,v=.ref a/\H a=some (.dT ws)/\KVd K H ws kvs
 | .k kvs=>∃ a ws,v=.ref a/\H a=some (.dK ws)/\KVd K H ws kvs
def Mo:HO->Prop
 | .lst _=>True
 | .dT _=>True
 | .dK _=>True
 | _=>False
theorem Rp.own{K:qc}{H:Hp}{v:V}{u:U}(h:Rp K H v u)(o:u.own=true):∃ a c,v=.ref a/\H a=some c/\Mo c:=by
 cases u with
 | d x=>cases o
 | l xs=>obtain⟨a,us,e,q,_⟩:=h; exact⟨a,_,e,q,trivial⟩
 | t xs=>obtain⟨a,us,e,q,_⟩:=h; exact⟨a,_,e,q,trivial⟩
 | k xs=>obtain⟨a,us,e,q,_⟩:=h; exact⟨a,_,e,q,trivial⟩
theorem KVd.kp{κ:Type}{K:qc}{H H':Hp}(e:Kp H H'){ws:List (κ×V)}{kvs:List (κ×D)}(h:KVd K H ws kvs):KVd K H' ws kvs:=Paired.mapP h fun _ _ z=>⟨z.1,z.2.kp e⟩
theorem Rp.kp{K:qc}{H H':Hp}{v:V}{u:U}(h:Rp K H v u)(e:Kp H H')(o:u.own=true->∀ a c,v=.ref a->H a=some c->H' a=some c):Rp K H' v u:=by
 cases u with
 | d x=>exact DF.kp e h
 | l xs=>obtain⟨a,us,ev,q,t⟩:=h; exact⟨a,us,ev,o rfl a _ ev q,t.kp e⟩
 | t xs=>obtain⟨a,us,ev,q,t⟩:=h; exact⟨a,us,ev,o rfl a _ ev q,t.kp e⟩
 | k xs=>obtain⟨a,us,ev,q,t⟩:=h; exact⟨a,us,ev,o rfl a _ ev q,t.kp e⟩
abbrev En:=List (Option U)
def Ow(ρ:En)(σ:St)(a:Addr):Prop:=∃ (i:Nat) (u:U),ρ[i]?=some (some u)/\u.own=true/\σ[i]?=some (some (.ref a))
structure Rs (K:qc) (ρ:En) (σ:St) (H:Hp):Prop where
 len:ρ.length=σ.length
 rep:∀ (i:Nat) (u:U),ρ[i]?=some (some u)->∃ v,σ[i]?=some (some v)/\Rp K H v u
 apart:∀ (i j:Nat) (u w:U),ρ[i]?=some (some u)->ρ[j]?=some (some w)->u.own=true->w.own=true->σ[i]?=σ[j]?->i=j
def Fr'(A:Addr->Prop)(H H':Hp):Prop:=∀ a o,H a=some o->¬A a->H' a=some o
structure Shr (ρ ρ':En):Prop where
 len:ρ'.length=ρ.length
 own:∀ (i:Nat) (u:U),ρ'[i]?=some (some u)->u.own=true->∃ w,ρ[i]?=some (some w)/\w.own=true
 live:∀ (i:Nat) (u:U),ρ[i]?=some (some u)->∃ w,ρ'[i]?=some (some w)
def Nw(H:Hp)(v:V)(u:U):Prop:=u.own=true->∃ a,v=.ref a/\H a=none
structure Go (K:qc) (ρ:En) (σ:St) (H:Hp) (ρ':En) (H':Hp):Prop where
 rs:Rs K ρ' σ H'
 fr:Fr' (Ow ρ σ) H H'
 shr:Shr ρ ρ'
 dm:∀ a,H' a=none->H a=none
section
variable {K:qc} {ρ ρ' ρ'':En} {σ:St} {H H' H'':Hp} {a:Addr}
theorem Rs.ow(r:Rs K ρ σ H)(o:Ow ρ σ a):∃ c,H a=some c/\Mo c:=by
 obtain⟨i,u,e,ou,es⟩:=o;obtain⟨v,ev,p⟩:=r.rep i u e;rw [es]at ev;cases ev;obtain⟨b,c,eb,q,m⟩:=p.own ou;cases eb;exact⟨c,q,m⟩
theorem Fr'.kp(r:Rs K ρ σ H)(f:Fr' (Ow ρ σ) H H'):Kp H H':=by
 refine⟨fun b xs h=>f b _ h fun o=>?_,fun b ob u h=>f b _ h fun o=>?_⟩
 ·obtain⟨c,q,m⟩:=r.ow o
  rw [h]at q;cases q;exact m
 ·obtain⟨c,q,m⟩:=r.ow o
  rw [h]at q;cases q;exact m
theorem Shr.refl(ρ:En):Shr ρ ρ:=⟨rfl,fun i u e o=>⟨u,e,o⟩,fun i u e=>⟨u,e⟩⟩
theorem Shr.trans(a:Shr ρ ρ')(b:Shr ρ' ρ''):Shr ρ ρ'':=⟨b.1.trans a.1,fun i u e o=>let ⟨w,e',o'⟩:=b.2 i u e o; a.2 i w e' o',fun i u e=>let ⟨w,e'⟩:=a.3 i u e; b.3 i w e'⟩
theorem Shr.ow(s:Shr ρ ρ')(o:Ow ρ' σ a):Ow ρ σ a:=by
 obtain⟨i,u,e,ou,es⟩:=o;obtain⟨w,e',o'⟩:=s.2 i u e ou;exact⟨i,w,e',o',es⟩
theorem Go.refl(r:Rs K ρ σ H):Go K ρ σ H ρ H:=⟨r,fun _ _ h _=>h,Shr.refl _,fun _ h=>h⟩
theorem Go.trans(a:Go K ρ σ H ρ' H')(b:Go K ρ' σ H' ρ'' H''):Go K ρ σ H ρ'' H'' :=
 ⟨b.rs,fun c o h n=>b.fr c o (a.fr c o h n) fun z=>n (a.shr.ow z),a.shr.trans b.shr,fun c h=>a.dm c (b.dm c h)⟩
theorem Go.kp(r:Rs K ρ σ H)(g:Go K ρ σ H ρ' H'):Kp H H':=g.fr.kp r
theorem Go.stay{v:V}{u:U}(r:Rs K ρ σ H)(g:Go K ρ σ H ρ' H')(h:Rp K H v u)(n:u.own=true->∃ a,v=.ref a/\¬Ow ρ σ a):Rp K H' v u:=by
 refine h.kp (g.kp r) fun o a c ev q=>?_;obtain⟨b,eb,nb⟩:=n o;cases ev;cases eb;exact g.fr _ _ q nb
theorem Nw.out{v:V}{u:U}(r:Rs K ρ σ H)(n:Nw H v u):u.own=true->∃ a,v=.ref a/\¬Ow ρ σ a:=fun o=>by
 obtain⟨a,e,h⟩:=n o;refine⟨a,e,fun z=>?_⟩;obtain⟨c,q,_⟩:=r.ow z;rw [h]at q;cases q
theorem zaZ.dm(s:zaZ H H'):∀ a,H' a=none->H a=none:=fun a h=>by
 cases e:H a with
 | none=>rfl
 | some o=>rw [s a o e]at h; cases h
theorem Go.grow(r:Rs K ρ σ H)(s:zaZ H H'):Go K ρ σ H ρ H' :=
 ⟨⟨r.len,fun i u e=>let ⟨v,ev,p⟩:=r.rep i u e; ⟨v,ev,p.kp s.kp fun _ a c _ q=>s a c q⟩,r.apart⟩,fun a o h _=>s a o h,Shr.refl _,s.dm⟩
end
inductive Ar where
 | s (i:Nat) | u (x:U)
def Ar.get(ρ:En):Ar->Option U
 | .s i=>(ρ[i]?).join
 | .u x=>some x
def zhT(K:qc)(ρ:En)(σ:St)(H H':Hp)(v:V):Ar->Prop
 | .s i=>σ[i]?=some (some v)/\∃ u,ρ[i]?=some (some u)
 | .u x=>Rp K H' v x/\Nw H v x
abbrev ME:=En->Option (Ar×En)
abbrev MA:=En->Option (List Ar×En)
abbrev MT:=En->Option (Bool×En)
def VE(K:qc)(t:TE)(m:ME):Prop :=
 ∀ (ρ:En) (σ:St) (H:Hp) (a:Ar) (ρ':En) (Q:VK),Rs K ρ σ H->m ρ=some (a,ρ')->(∀ v H',Go K ρ σ H ρ' H'->zhT K ρ' σ H H' v a->Q v H')->t σ H Q
def VT(K:qc)(t:TT)(m:MT):Prop :=
 ∀ (ρ:En) (σ:St) (H:Hp) (b:Bool) (ρ':En) (Q:Bool->Hp->Prop),Rs K ρ σ H->m ρ=some (b,ρ')->(∀ H',Go K ρ σ H ρ' H'->Q b H')->t σ H Q
structure ArS (K:qc) (ρ:En) (σ:St) (H H':Hp) (vs:List V) (as:List Ar):Prop where
 len:vs.length=as.length
 ar:∀ (i:Nat) (a:Ar),as[i]?=some a->∃ v,vs[i]?=some v/\zhT K ρ σ H H' v a
 ap:∀ (i j:Nat) (x y:U),as[i]?=some (.u x)->as[j]?=some (.u y)->x.own=true->y.own=true->vs[i]?=vs[j]?->i=j
def VAs(K:qc)(t:TA)(m:MA):Prop :=
 ∀ (ρ:En) (σ:St) (H:Hp) (as:List Ar) (ρ':En) (Q:List V->Hp->Prop),Rs K ρ σ H->m ρ=some (as,ρ')->(∀ vs H',Go K ρ σ H ρ' H'->ArS K ρ' σ H H' vs as->Q vs H')->t σ H Q
section
variable {K:qc} {ρ ρ' ρ'':En} {σ:St} {H H' H'':Hp} {v:V} {a:Ar} {u:U}
theorem Nw.mono(n:Nw H' v u)(h:∀ a,H' a=none->H a=none):Nw H v u:=fun o=>let ⟨a,e,q⟩:=n o; ⟨a,e,h a q⟩
theorem Nw.out'(r:Rs K ρ σ H)(g:Go K ρ σ H ρ' H')(n:Nw H v u):u.own=true->∃ a,v=.ref a/\¬Ow ρ' σ a:=fun o=>by
 obtain⟨b,e,q⟩:=n.out r o;exact⟨b,e,fun z=>q (g.shr.ow z)⟩
theorem zhT.later(r:Rs K ρ σ H)(g1:Go K ρ σ H ρ' H')(g2:Go K ρ' σ H' ρ'' H'')(h:zhT K ρ' σ H H' v a)(e:a.get ρ''=some u):Rp K H'' v u:=by
 cases a with
 | s i =>
  obtain⟨es,_⟩:=h;have e':ρ''[i]?=some (some u):=by
   cases q:ρ''[i]? with
   | none=>rw [show Ar.get ρ'' (.s i)=(ρ''[i]?).join from rfl,q]at e; cases e
   | some o =>
    rw [show Ar.get ρ'' (.s i)=(ρ''[i]?).join from rfl,q]at e;cases o with
    | none=>cases e
    | some x=>cases e; rfl
  obtain⟨w,ew,p⟩:=g2.rs.rep i u e';rw [es]at ew;cases ew;exact p
 | u x =>
  cases(show some x=some u from e);exact g2.stay g1.rs h.1 (h.2.out' r g1)
theorem zhT.now(r:Rs K ρ σ H)(g1:Go K ρ σ H ρ' H')(h:zhT K ρ' σ H H' v a)(e:a.get ρ'=some u):Rp K H' v u:=h.later r g1 (Go.refl g1.rs) e
theorem Nw.data{x:D}:Nw H v (.d x):=fun o=>by cases o
def zi(i:Nat):ME:=fun ρ=>match ρ[i]? with
 | some (some _)=>some (.s i,ρ)
 | _=>none
theorem ze{i:Nat}:VE K (ze6 i) (zi i):=by
 intro ρ σ H a ρ' Q r e q;unfold zi at e;split at e
 ·rename_i u eu
  cases e;obtain⟨v,ev,p⟩:=r.rep i u eu;exact⟨v,ev,q v H (Go.refl r) ⟨ev,u,eu⟩⟩
 ·cases e
def mC(x:D):ME:=fun ρ=>some (.u (.d x),ρ)
theorem v_c{c:V}{x:D}(h:∀ H,DF K H c x):VE K (tC c) (mC x):=by
 intro ρ σ H a ρ' Q r e q;cases e;exact q _ _ (Go.refl r) ⟨h H,Nw.data⟩
theorem zm{n:Int}:VE K (tC (.int n)) (mC (.int n)):=v_c fun _=>.int n
theorem zby{n:Str}:VE K (tC (.str n)) (mC (.str n)):=v_c fun _=>.str n
theorem zqd{n:Bool}:VE K (tC (.bl n)) (mC (.bool n)):=v_c fun _=>.bl n
theorem zis:VE K (tC .non) (mC .none):=v_c fun _=>.non
def VO(K:qc)(r:R2)(f:U->U->Option U):Prop :=
 ∀ (x y:V) (a b u:U) (H:Hp) (Q:VK),Rp K H x a->Rp K H y b->f a b=some u->(∀ v H',zaZ H H'->Rp K H' v u->Nw H v u->Q v H')->r x y H Q
def mOp(f:U->U->Option U)(ma mb:ME):ME:=fun ρ=>(ma ρ).bind fun p=>(mb p.2).bind fun q=>(p.1.get q.2).bind fun x=>(q.1.get q.2).bind fun y=>(f x y).bind fun u=>some (.u u,q.2)
theorem zb{α β:Type}{o:Option α}{f:α->Option β}{b:β}(h:o.bind f=some b):∃ a,o=some a/\f a=some b:=Option.bind_eq_some_iff.mp h
theorem zp{r:R2}{f:U->U->Option U}{ta tb:TE}{ma mb:ME}(h:VO K r f)(ha:VE K ta ma)(hb:VE K tb mb):VE K (tOp r ta tb) (mOp f ma mb):=by
 intro ρ σ H a ρ' Q rs e q;obtain⟨⟨a1,ρ1⟩,e1,e⟩:=zb e;obtain⟨⟨b1,ρ2⟩,e2,e⟩:=zb e;obtain⟨x,ex,e⟩:=zb e;obtain⟨y,ey,e⟩:=zb e;obtain⟨u,eu,e⟩:=zb e;cases e;refine ha ρ σ H a1 ρ1 _ rs e1 fun v1 H1 g1 k1=>hb ρ1 σ H1 b1 ρ2 _ g1.rs e2 fun v2 H2 g2 k2=>?_;refine h _ _ x y u H2 _ (k1.later rs g1 g2 ex) (k2.now g1.rs g2 ey) eu fun v H3 s p n=>?_;exact q v H3 ((g1.trans g2).trans (Go.grow g2.rs s)) ⟨p,n.mono (g1.trans g2).dm⟩
def VU(K:qc)(r:V->Hp->VK->Prop)(f:U->Option U):Prop :=
 ∀ (x:V) (a u:U) (H:Hp) (Q:VK),Rp K H x a->f a=some u->(∀ v H',zaZ H H'->Rp K H' v u->Nw H v u->Q v H')->r x H Q
def mUn(f:U->Option U)(ma:ME):ME:=fun ρ=>(ma ρ).bind fun p=>(p.1.get p.2).bind fun x=>(f x).bind fun u=>some (.u u,p.2)
theorem zc1{r:V->Hp->VK->Prop}{f:U->Option U}{ta:TE}{ma:ME}(h:VU K r f)(ha:VE K ta ma):VE K (tUn r ta) (mUn f ma):=by
 intro ρ σ H a ρ' Q rs e q;obtain⟨⟨a1,ρ1⟩,e1,e⟩:=zb e;obtain⟨x,ex,e⟩:=zb e;obtain⟨u,eu,e⟩:=zb e;cases e;refine ha ρ σ H a1 ρ1 _ rs e1 fun v1 H1 g1 k1=>?_;refine h _ x u H1 _ (k1.now rs g1 ex) eu fun v H3 s p n=>?_;exact q v H3 (g1.trans (Go.grow g1.rs s)) ⟨p,n.mono g1.dm⟩
def zo:MA:=fun ρ=>some ([],ρ)
def zf(me:ME)(ma:MA):MA:=fun ρ=>(me ρ).bind fun p=>(ma p.2).bind fun q=>some (p.1::q.1,q.2)
theorem zk:VAs K zoD zo:=by
 intro ρ σ H as ρ' Q r e q;cases e;exact q [] H (Go.refl r) ⟨rfl,fun i a e=>by simp at e,fun i j x y e=>by simp at e⟩
theorem zd{te:TE}{t:TA}{me:ME}{ma:MA}(he:VE K te me)(ha:VAs K t ma):VAs K (zgQ te t) (zf me ma):=by
 intro ρ σ H as ρ' Q r e q;obtain⟨⟨a1,ρ1⟩,e1,e⟩:=zb e;obtain⟨⟨as2,ρ2⟩,e2,e⟩:=zb e;cases e;refine he ρ σ H a1 ρ1 _ r e1 fun v1 H1 g1 k1=>ha ρ1 σ H1 as2 _ _ g1.rs e2 fun vs H2 g2 s2=>?_;have own1:∀ x,a1=.u x->x.own=true->∃ b c,v1=.ref b/\H1 b=some c:=fun x ea o=>by
  subst ea;obtain⟨b,c,eb,hb,_⟩:=k1.1.own o;exact⟨b,c,eb,hb⟩
 have oth:∀ (j:Nat) (y:U),as2[j]?=some (.u y)->y.own=true->∃ b,vs[j]?=some (.ref b)/\H1 b=none:=fun j y ej o=>by
  obtain⟨v,ev,k⟩:=s2.ar j _ ej;obtain⟨b,eb,hb⟩:=k.2 o;subst eb;exact⟨b,ev,hb⟩
 have ne:∀ (x:U) (j:Nat) (y:U),a1=.u x->x.own=true->as2[j]?=some (.u y)->y.own=true->some v1≠vs[j]?:=fun x j y ea ox ej oy z=>by
  obtain⟨b,c,e1,h1⟩:=own1 x ea ox;obtain⟨b',e2,h2⟩:=oth j y ej oy;rw [e2,e1]at z;cases z;rw [h1]at h2;cases h2
 refine q (v1::vs) H2 (g1.trans g2) ⟨by simp [s2.len],fun i a ei=>?_,fun i j x y ei ej ox oy ev=>?_⟩
 ·cases i with
  | zero =>
   cases(show some a1=some a from ei);refine⟨v1,rfl,?_⟩;cases a1 with
   | s k =>
    obtain⟨es,w,ew⟩:=k1;exact⟨es,g2.shr.live k w ew⟩
   | u x=>exact⟨g2.stay g1.rs k1.1 (k1.2.out' r g1),k1.2⟩
  | succ i =>
   obtain⟨v,ev,k⟩:=s2.ar i a ei;refine⟨v,ev,?_⟩;cases a with
   | s k'=>exact k
   | u x=>exact⟨k.1,k.2.mono g1.dm⟩
 ·cases i with
  | zero =>
   cases j with
   | zero=>rfl
   | succ j=>exact absurd ev (ne x j y (qw ei) ox ej oy)
  | succ i =>
   cases j with
   | zero=>exact absurd ev.symm (ne y i x (qw ej) oy ei ox)
   | succ j=>exact congrArg (·+1) (s2.ap i j x y ei ej ox oy ev)
end
end L2
namespace L2
open PySem PySem.Spec PyProof.Rows
open Classical in
noncomputable def fIC(c:Int->Int->Prop)(g:Int->Int->D):U->U->Option U
 | .d (.int i),.d (.int j)=>if c i j then some (.d (g i j))else none
 | _,_=>none
def fI(g:Int->Int->D):U->U->Option U
 | .d (.int i),.d (.int j)=>some (.d (g i j))
 | _,_=>none
section
variable {K:qc}
theorem DF.int_inv{H:Hp}{v:V}{i:Int}(h:DF K H v (.int i)):v=.int i:=by cases h; rfl
theorem DF.str_inv{H:Hp}{v:V}{x:Str}(h:DF K H v (.str x)):v=.str x:=by cases h; rfl
theorem DF.bl_inv{H:Hp}{v:V}{b:Bool}(h:DF K H v (.bool b)):v=.bl b:=by cases h; rfl
theorem DF.tup_inv{H:Hp}{v:V}{ds:List D}(h:DF K H v (.tuple ds)):∃ a xs,v=.ref a/\TpK K H a xs/\DFs K H xs ds:=by cases h with | tup h t=>exact⟨_,_,rfl,h,t⟩
theorem DF.lst_inv{H:Hp}{v:V}{ds:List D}(h:DF K H v (.list ds)):∃ a xs,v=.ref a/\PL K H a xs/\DFs K H xs ds:=by cases h with | lst h t=>exact⟨_,_,rfl,h,t⟩
theorem DF.dct_inv{H:Hp}{v:V}{ds:List (D×D)}(h:DF K H v (.dict ds))(nx:noX ds=true):∃ a o ws,v=.ref a/\H a=some (.frz o (.dT ws))/\DFt K H ws ds:=by
 cases h with
 | dct h t=>exact⟨_,_,_,rfl,h,t⟩
 | exc h n t=>cases nx
 | obj h n t=>cases nx
theorem zit{c:Int->Int->Prop}{g:Int->Int->V}{gd:Int->Int->D}(h:∀ i j H,DF K H (g i j) (gd i j)):VO K (rI c g) (fIC c gd):=by
 intro x y a b u H Q ha hb e q;unfold fIC at e;split at e
 ·rename_i i j
  split at e
  ·rename_i hc
   cases e;exact⟨i,j,DF.int_inv ha,DF.int_inv hb,hc,q _ _ (fun _ _ z=>z) (h i j H) Nw.data⟩
  ·cases e
 ·cases e
theorem zl2{g:Int->Int->V}{gd:Int->Int->D}(h:∀ i j H,DF K H (g i j) (gd i j)):VO K (rI0 g) (fI gd):=by
 intro x y a b u H Q ha hb e q;unfold fI at e;split at e
 ·rename_i i j
  cases e;exact⟨i,j,DF.int_inv ha,DF.int_inv hb,q _ _ (fun _ _ z=>z) (h i j H) Nw.data⟩
 ·cases e
def zcg:=fI fun i j=>.int (i+j)
def zl3:=fI fun i j=>.int (i - j)
noncomputable def zfd:=fIC zoz fun i j=>.int (i * j)
noncomputable def zeQ:=fIC (fun _ j=>0 < j) fun i j=>.int (i % j)
noncomputable def zg4:=fIC zik fun i j=>.int (i / j)
noncomputable def zge:=fIC zgX fun i j=>.int (i.fdiv j)
noncomputable def ztB:=fIC zs9 fun i j=>.int (i^j.toNat)
def fLt:=fI fun i j=>.bool (decide (i < j))
def fLe:=fI fun i j=>.bool (decide (i<=j))
def fGt:=fI fun i j=>.bool (decide (j < i))
def fGe:=fI fun i j=>.bool (decide (j<=i))
theorem zas:VO K (rI0 fun i j=>.int (i+j)) zcg:=zl2 fun i j H=>.int _
theorem zg5:VO K (rI0 fun i j=>.int (i - j)) zl3:=zl2 fun i j H=>.int _
theorem zcP:VO K (rI zoz fun i j=>.int (i * j)) zfd:=zit fun i j H=>.int _
theorem zbU:VO K (rI (fun _ j=>0 < j) fun i j=>.int (i % j)) zeQ:=zit fun i j H=>.int _
theorem zgx:VO K (rI zik fun i j=>.int (i / j)) zg4:=zit fun i j H=>.int _
theorem zd5:VO K (rI zgX fun i j=>.int (i.fdiv j)) zge:=zit fun i j H=>.int _
theorem zxh:VO K (rI zs9 fun i j=>.int (i^j.toNat)) ztB:=zit fun i j H=>.int _
theorem zqe:VO K (rI0 fun i j=>.bl (decide (i < j))) fLt:=zl2 fun i j H=>.bl _
theorem zy3:VO K (rI0 fun i j=>.bl (decide (i<=j))) fLe:=zl2 fun i j H=>.bl _
theorem znb:VO K (rI0 fun i j=>.bl (decide (j < i))) fGt:=zl2 fun i j H=>.bl _
theorem zy4:VO K (rI0 fun i j=>.bl (decide (j<=i))) fGe:=zl2 fun i j H=>.bl _
def zl4:U->Option U
 | .d (.int i)=>some (.d (.int (-i)))
 | _=>none
theorem zjh:VU K (rU fun i=>.int (-i)) zl4:=by
 intro x a u H Q ha e q;unfold zl4 at e;split at e
 ·rename_i i
  cases e;exact⟨i,DF.int_inv ha,q _ _ (fun _ _ z=>z) (.int _) Nw.data⟩
 ·cases e
def U.py:U->Option D
 | .d x=>some x
 | .l xs=>some (.list xs)
 | _=>none
mutual
theorem DF.dv{H:Hp}:∀ {v:V} {d:D},DF K H v d->d.hasDict=false->DV K H v d
 | _,_,.non,_=>.non
 | _,_,.bl b,_=>.bl b
 | _,_,.int i,_=>.int i
 | _,_,.str x,_=>.str x
 | _,_,.tup h t,q=>.tup ((TpK.sq h)) (DFs.dv t (by simpa [PyData.hasDict] using q))
 | _,_,.lst h t,q=>.lst h.sq (DFs.dv t (by simpa [PyData.hasDict] using q))
 | _,_,.dct h t,q=>by simp [PyData.hasDict]at q
 | _,_,.exc h n t,q=>by simp [PyData.hasDict]at q
 | _,_,.obj h n t,q=>by simp [PyData.hasDict]at q
theorem DFs.dv{H:Hp}:∀ {v:List V} {d:List D},DFs K H v d->PyData.hasDictAll d=false->DVs K H v d
 | _,_,.nil,_=>.nil
 | _,_,.cons h t,q=>by
  simp only [PyData.hasDictAll,Bool.or_eq_false_iff]at q;exact .cons (DF.dv h q.1) (DFs.dv t q.2)
end
theorem Rp.dv{H:Hp}{v:V}{u:U}{x:D}(h:Rp K H v u)(e:u.py=some x)(q:x.hasDict=false):DV K H v x:=by
 cases u with
 | d y=>cases e; exact DF.dv h q
 | l xs =>
  cases e;obtain⟨a,us,rfl,h1,h2⟩:=h;exact .lst (SqL.of h1) (DFs.dv h2 (by simpa [PyData.hasDict] using q))
 | t=>cases e
 | k=>cases e
mutual
theorem zg6:∀ (x:D),x.canLay0=true->x.hasDict=false
 | .none,_=>rfl
 | .bool _,_=>rfl
 | .int _,_=>rfl
 | .str _,_=>rfl
 | .list xs,h=>by simp only [PyData.hasDict]; exact hasDictAll_of xs (by simpa [PyData.canLay0] using h)
 | .tuple xs,h=>by simp only [PyData.hasDict]; exact hasDictAll_of xs (by simpa [PyData.canLay0] using h)
 | .dict _,h=>by simp [PyData.canLay0]at h
theorem hasDictAll_of:∀ (xs:List D),PyData.canLayAll0 xs=true->PyData.hasDictAll xs=false
 | [],_=>rfl
 | x::xs,h=>by
  simp only [PyData.canLayAll0,Bool.and_eq_true]at h;simp only [PyData.hasDictAll,zg6 x h.1,hasDictAll_of xs h.2];rfl
end
def zy5(K:qc)(neg:Bool):R2:=fun x y H Q=>∃ a b,DV K H x a/\DV K H y b/\SeqAt.shaped a=true/\SeqAt.shaped b=true/\Q (.bl (if neg=true then !PyData.eqv a b else PyData.eqv a b)) H
theorem zxi{X:Cx}(K:qc)(hK:X.K=K){k:Nat}(hr:Room k X.A):OpR X (compareOp .NotEq) (zy5 K true):=by
 subst hK;intro pins s σ H x y v u Q I rx ry h;obtain⟨a,b,da,db,sa,sb,q⟩:=h;obtain⟨as,ra⟩:=DV.reads I da rx;obtain⟨bs,rb⟩:=DV.reads I db ry;exact SeqAt.compareNe_shaped ra rb sa sb hr.units ⟨.bl _,H,I,rfl,q⟩
def zy6(neg:Bool)(a b:U):Option U:=a.py.bind fun x=>b.py.bind fun y=>if SeqAt.shaped x=true/\SeqAt.shaped y=true then some (.d (.bool (if neg=true then !PyData.eqv x y else PyData.eqv x y)))else none
theorem DFs.atI{H:Hp}{xs:List V}{ds:List D}{i:Int}{d:D}(h:DFs K H xs ds)(e:L2.atI ds i=some d):∃ v,L2.atI xs i=some v/\DF K H v d:=by
 unfold L2.atI at e ⊢;obtain⟨j,ej,e⟩:=zb e;obtain⟨v,ev,k⟩:=h.get e;refine⟨v,?_,k⟩;rw [h.len,ej];exact ev
def zcQ:U->U->Option U
 | .l ds,.d (.int i)=>(atI ds i).map .d
 | .d (.list ds),.d (.int i)=>(atI ds i).map .d
 | _,_=>none
def zaO:U->U->Option U
 | .d (.tuple ds),.d (.int i)=>(atI ds i).map .d
 | _,_=>none
theorem za0:VO K (ztn K) zcQ:=by
 intro x y a b u H Q ha hb e q;unfold zcQ at e;split at e
 ·rename_i ds i
  obtain⟨d,ed,rfl⟩:=qq.mp e;obtain⟨p,us,rfl,h1,h2⟩:=ha;obtain⟨v,ev,k⟩:=h2.atI ed;exact⟨p,us,i,v,rfl,DF.int_inv hb,SqL.of h1,ev,q _ _ (fun _ _ z=>z) k Nw.data⟩
 ·rename_i ds i
  obtain⟨d,ed,rfl⟩:=qq.mp e;obtain⟨p,us,rfl,h1,h2⟩:=DF.lst_inv ha;obtain⟨v,ev,k⟩:=h2.atI ed;exact⟨p,us,i,v,rfl,DF.int_inv hb,h1.sq,ev,q _ _ (fun _ _ z=>z) k Nw.data⟩
 ·cases e
theorem zac:VO K (zto K) zaO:=by
 intro x y a b u H Q ha hb e q;unfold zaO at e;split at e
 ·rename_i ds i
  obtain⟨d,ed,rfl⟩:=qq.mp e;obtain⟨p,us,rfl,h1,h2⟩:=DF.tup_inv ha;obtain⟨v,ev,k⟩:=h2.atI ed;exact⟨p,us,i,v,rfl,DF.int_inv hb,(TpK.sq h1),ev,q _ _ (fun _ _ z=>z) k Nw.data⟩
 ·cases e
end
end L2
namespace L2
open PySem PySem.Spec PyProof.Rows
section
variable {K:qc} {ρ ρ':En} {σ:St} {H H':Hp}
theorem zbV{a:Addr}{c:HO}(h:H a=some c)(m:Mo c)(o:HO):Kp H (upd H a o):=by
 refine⟨fun b xs e=>?_,fun b ob u e=>?_⟩
 ·rw [zu (ze4 e h (by rintro rfl; exact m))]; exact e
 ·rw [zu (ze4 e h (by rintro rfl; exact m))]; exact e
theorem Go.own{i:Nat}{u u':U}{a:Addr}{o:HO}(r:Rs K ρ σ H)(e:ρ[i]?=some (some u))(ou:u.own=true)(es:σ[i]?=some (some (.ref a)))(p:Rp K (upd H a o) (.ref a) u'):Go K ρ σ H (ρ.set i (some u')) (upd H a o):=by
 have hi:i < ρ.length:=(qk.mp e).1;obtain⟨c,hc,mc⟩:=r.ow ⟨i,u,e,ou,es⟩;have kp:=zbV hc mc o;refine⟨⟨by rw [List.length_set]; exact r.len,fun j w ej=>?_,fun j k w w' ej ek oj ok es'=>?_⟩,fun b ob hb n=>?_,⟨List.length_set,fun j w ej oj=>?_,fun j w ej=>?_⟩,fun b hb=>?_⟩
 ·by_cases hj:i=j
  ·subst hj
   rw [List.getElem?_set_self hi]at ej;cases ej;exact⟨_,es,p⟩
  ·rw [qB hj]at ej
   obtain⟨v,ev,q⟩:=r.rep j w ej;refine⟨v,ev,q.kp kp fun ow b c' eb hb=>?_⟩;have ne:b≠a:=by
    rintro rfl;exact hj (r.apart i j u w e ej ou ow (by rw [es,ev,eb]))
   rw [zu ne];exact hb
 ·have own:∀ (j:Nat) (w:U),(ρ.set i (some u'))[j]?=some (some w)->w.own=true->∃ w',ρ[j]?=some (some w')/\w'.own=true:=fun j w ej oj=>by
   by_cases hj:i=j
   ·subst hj; exact⟨u,e,ou⟩
   ·rw [qB hj]at ej; exact⟨w,ej,oj⟩
  obtain⟨x,ex,ox⟩:=own j w ej oj;obtain⟨y,ey,oy⟩:=own k w' ek ok;exact r.apart j k x y ex ey ox oy es'
 ·have ne:b≠a:=by
   rintro rfl;exact n ⟨i,u,e,ou,es⟩
  rw [zu ne];exact hb
 ·by_cases hj:i=j
  ·subst hj; exact⟨u,e,ou⟩
  ·rw [qB hj]at ej; exact⟨w,ej,oj⟩
 ·by_cases hj:i=j
  ·subst hj; exact⟨u',List.getElem?_set_self hi⟩
  ·exact⟨w,by rw [qB hj]; exact ej⟩
 ·by_cases hb':b=a
  ·subst hb'; rw [zt]at hb; cases hb
  ·rw [zu hb']at hb; exact hb
theorem Rp.own_ref{v:V}{u:U}(h:Rp K H v u)(o:u.own=true):∃ a,v=.ref a:=let ⟨a,_,e,_⟩:=h.own o; ⟨a,e⟩
def Fz(K:qc)(H:Hp)(v:V)(H':Hp):Prop :=
 (∃ a xs o,v=.ref a/\K.lookup a=none/\H a=some (.lst xs)/\H'=upd H a (.frz o (.lst xs)))\/(∃ a xs o,v=.ref a/\K.lookup a=none/\H a=some (.dT xs)/\H'=upd H a (.frz o (.dT xs))) \/
  ((∀ a,v=.ref a->(∀ xs,H a≠some (.lst xs))/\∀ xs,H a≠some (.dT xs))/\H'=H)
def tFz(K:qc)(t:TE):TE:=fun σ H Q=>t σ H fun v H1=>∀ H2,Fz K H1 v H2->Q v H2
theorem Inv.freezeL{X:Cx}{pins:List (Addr×Obj)}{s:Shared}{a:Addr}{xs:List V}(I:Inv X pins σ H s)(e:H a=some (.lst xs)):∃ o,s.heap.get? a=some o/\Inv X pins σ (upd H a (.frz o (.lst xs))) s:=by
 have ok:=(show zX X.prog X.w X.K H s.heap a (.lst xs) from I.hok a _ e);obtain⟨z,its,n,r,h1⟩:=id ok;refine⟨_,h1,?_⟩;have ok2:zX X.prog X.w X.K (upd H a (.frz { cls:=.type "list",data:=.seq its.toArray n } (.lst xs))) s.heap a (.lst xs):=⟨z,its,n,r,h1⟩;exact I.write (t':=s.toks) (h':=s.heap) (by rw [e]; trivial) (.inl rfl) (fun _ _ _ q=>q) ⟨_,h1⟩ ⟨h1,ok2⟩
theorem zy7{X:Cx}{e:Expr}{t:TE}(h:PE X e t):PE X e (tFz X.K t):=by
 intro pins s σ H Q I q;refine thn (h pins s σ H _ I q) fun u s1 ⟨v,H1,I1,r,k⟩=>?_;have nk:∀ a c,H1 a=some c->X.K.lookup a=none:=fun a c ea=>by
  cases q:X.K.lookup a with
  | none=>rfl
  | some o=>rw [(I1.bs a o (I1.ok.mod.kin a o q)).2]at ea; cases ea
 by_cases c1:∃ a xs,v=.ref a/\H1 a=some (.lst xs)
 ·obtain⟨a,xs,ev,ea⟩:=c1
  obtain⟨o,_,I2⟩:=I1.freezeL ea;exact⟨v,_,I2,r,k _ (.inl ⟨a,xs,o,ev,nk a _ ea,ea,rfl⟩)⟩
 ·by_cases c2:∃ a xs,v=.ref a/\H1 a=some (.dT xs)
  ·obtain⟨a,xs,ev,ea⟩:=c2
   obtain⟨o,_,I2⟩:=I1.freeze ea;exact⟨v,_,I2,r,k _ (.inr (.inl ⟨a,xs,o,ev,nk a _ ea,ea,rfl⟩))⟩
  ·exact⟨v,H1,I1,r,k _ (.inr (.inr ⟨fun a ev=>⟨fun xs z=>c1 ⟨a,xs,ev,z⟩,fun xs z=>c2 ⟨a,xs,ev,z⟩⟩,rfl⟩))⟩
theorem zaK{X:Cx}{e:Expr}{t:TE}{K:qc}(h:Wr (PE X e t))(hK:X.K=K:=by rfl):Wr (PE X e (tFz K t)):=hK▸⟨zy7 h.run⟩
def U.fz:U->Option D
 | .d x=>some x
 | .l xs=>some (.list xs)
 | .t kvs=>some (.dict (kvs.map fun p=>(kTD p.1,p.2)))
 | .k _=>none
def mFz(me:ME):ME:=fun ρ=>(me ρ).bind fun p=>(p.1.get p.2).bind fun u=>u.fz.bind fun x=>some (.u (.d x),match p.1 with | .s i=>p.2.set i (some (.d x)) | .u _=>p.2)
theorem zxj{ws:List (List Key×V)}{kvs:List (List Key×D)}(h:KVd K H ws kvs):DFt K H ws (kvs.map fun p=>(kTD p.1,p.2)):=by
 induction h with
 | nil=>exact .nil
 | @cons p q ps qs hq t ih =>
  obtain⟨k,v⟩:=p;obtain⟨k',d⟩:=q;obtain⟨e,hd⟩:=hq;cases(show k=k' from e);exact .cons hd ih
theorem Fz.rp{v:V}{u:U}{x:D}(h:Fz K H v H')(p:Rp K H v u)(e:u.fz=some x):DF K H' v x/\(u.own=false->H'=H)/\(u.own=true->∃ a o,v=.ref a/\H'=upd H a o):=by
 cases u with
 | d y =>
  cases e;have k:H'=H:=by
   rcases h with ⟨a,xs,o,rfl,nk,ea,_⟩ | ⟨a,xs,o,rfl,nk,ea,_⟩ | ⟨_,rfl⟩
   ·exfalso
    cases(show DF K H _ _ from p)with
    | tup h _ =>
     rcases h with h | ⟨ob,its,n,hk,_⟩
     ·rw [ea]at h; cases h
     ·rw [nk]at hk; cases hk
    | lst h _ =>
     rcases h with ⟨o,h⟩ | ⟨ob,its,n,hk,_⟩
     ·rw [ea]at h; cases h
     ·rw [nk]at hk; cases hk
    | dct h _=>rw [ea]at h; cases h
    | exc h _ _=>obtain⟨_,h,_⟩:=h; rw [ea]at h; cases h
    | obj h _ _=>rw [ea]at h; cases h
   ·exfalso
    cases(show DF K H _ _ from p)with
    | tup h _ =>
     rcases h with h | ⟨ob,its,n,hk,_⟩
     ·rw [ea]at h; cases h
     ·rw [nk]at hk; cases hk
    | lst h _ =>
     rcases h with ⟨o,h⟩ | ⟨ob,its,n,hk,_⟩
     ·rw [ea]at h; cases h
     ·rw [nk]at hk; cases hk
    | dct h _=>rw [ea]at h; cases h
    | exc h _ _=>obtain⟨_,h,_⟩:=h; rw [ea]at h; cases h
    | obj h _ _=>rw [ea]at h; cases h
   ·rfl
  subst k;exact⟨p,fun _=>rfl,fun z=>by cases z⟩
 | l xs =>
  cases e;obtain⟨a,us,rfl,ea,ds⟩:=p;rcases h with ⟨a',xs',o,ev,_,ea',rfl⟩ | ⟨a',xs',o,ev,_,ea',_⟩ | ⟨z,_⟩
  ·cases ev
   rw [ea]at ea';cases ea';exact⟨.lst (.inl ⟨o,zt⟩) (ds.kp (zbV ea trivial _)),(fun z=>by cases z),fun _=>⟨a,_,rfl,rfl⟩⟩
  ·cases ev
   rw [ea]at ea';cases ea'
  ·exact absurd ea ((z a rfl).1 us)
 | t xs =>
  cases e;obtain⟨a,us,rfl,ea,ds⟩:=p;rcases h with ⟨a',xs',o,ev,_,ea',_⟩ | ⟨a',xs',o,ev,_,ea',rfl⟩ | ⟨z,_⟩
  ·cases ev
   rw [ea]at ea';cases ea'
  ·cases ev
   rw [ea]at ea';cases ea';exact⟨.dct zt (zxj (ds.kp (zbV ea trivial _))),(fun z=>by cases z),fun _=>⟨a,_,rfl,rfl⟩⟩
  ·exact absurd ea ((z a rfl).2 us)
 | k xs=>cases e
theorem zaL{t:TE}{m:ME}(h:VE K t m):VE K (tFz K t) (mFz m):=by
 intro ρ σ H a ρ' Q r e q;obtain⟨⟨b,ρ1⟩,e1,e⟩:=zb e;obtain⟨u,eu,e⟩:=zb e;obtain⟨x,ex,e⟩:=zb e;cases e;refine h ρ σ H b ρ1 _ r e1 fun v H1 g1 k1=>fun H2 fz=>?_;have p:=k1.now r g1 eu;obtain⟨d,f1,f2⟩:=fz.rp p ex;cases b with
 | s i =>
  have ei:ρ1[i]?=some (some u):=by
   have z:(ρ1[i]?).join=some u:=eu;cases q:ρ1[i]? with
   | none=>rw [q]at z; cases z
   | some o=>rw [q]at z; cases o with
    | none=>cases z
    | some w=>cases z; rfl
  have hi:i < ρ1.length:=(qk.mp ei).1
  by_cases ou:u.own=true
  ·obtain⟨a,o,rfl,rfl⟩:=f2 ou
   exact q _ _ (g1.trans (Go.own (u':=.d x) g1.rs ei ou k1.1 d)) ⟨d,Nw.data⟩
  ·have ou':u.own=false:=by simpa using ou
   cases f1 ou';cases u with
   | d y =>
    cases ex;have es:ρ1.set i (some (.d x))=ρ1:=by
     apply List.ext_getElem?;intro j
     by_cases hj:i=j
     ·subst hj; rw [List.getElem?_set_self hi,ei]
     ·rw [qB hj]
    show Q v H1;refine q v H1 ?_ ⟨d,Nw.data⟩;show Go K ρ σ H (ρ1.set i (some (.d x))) H1;rw [es];exact g1
   | l=>cases ou'
   | t=>cases ou'
   | k=>cases ou'
 | u w =>
  cases(show some w=some u from eu)
  by_cases ou:u.own=true
  ·obtain⟨a,o,rfl,rfl⟩:=f2 ou
   obtain⟨a',ea',na'⟩:=k1.2 ou;cases ea';obtain⟨c,hc,mc⟩:∃ c,H1 a=some c/\Mo c:=by
    obtain⟨b,c,eb,hb,m⟩:=p.own ou;cases eb;exact⟨c,hb,m⟩
   have nw:¬Ow ρ1 σ a:=by
    obtain⟨b,eb,nb⟩:=k1.2.out' r g1 ou;cases eb;exact nb
   have kp:=zbV hc mc o;refine q _ _ ⟨⟨g1.rs.len,fun j y ej=>?_,g1.rs.apart⟩,fun b ob hb n=>?_,g1.shr,fun b hb=>?_⟩ ⟨d,Nw.data⟩
   ·obtain⟨v,ev,p'⟩:=g1.rs.rep j y ej
    refine⟨v,ev,p'.kp kp fun oy b c' eb hb=>?_⟩;have ne:b≠a:=by
     rintro rfl;subst eb;exact nw ⟨j,y,ej,oy,ev⟩
    rw [zu ne];exact hb
   ·have ne:b≠a:=by
     rintro rfl;rw [na']at hb;cases hb
    rw [zu ne];exact g1.fr b ob hb n
   ·by_cases hb':b=a
    ·subst hb'; exact na'
    ·rw [zu hb']at hb; exact g1.dm b hb
  ·have ou':u.own=false:=by simpa using ou
   cases f1 ou';exact q v H1 g1 ⟨d,Nw.data⟩
end
section
variable {K:qc} {ρ ρ':En} {σ:St} {H H':Hp}
def zax(ρ:En):List Ar->Option (List U)
 | []=>some []
 | a::as=>(a.get ρ).bind fun u=>(zax ρ as).bind fun us=>some (u::us)
def zch:List U->Option (List D)
 | []=>some []
 | .d x::us=>(zch us).bind fun xs=>some (x::xs)
 | _::_=>none
def RpL(K:qc)(H:Hp):List V->List U->Prop:=Paired fun v u=>Rp K H v u
theorem zxk{vs:List V}{as:List Ar}{us:List U}(len:vs.length=as.length)(h:∀ (i:Nat) (a:Ar),as[i]?=some a->∃ v,vs[i]?=some v/\∀ u,a.get ρ=some u->Rp K H v u)(e:zax ρ as=some us):RpL K H vs us:=by
 induction as generalizing vs us with
 | nil =>
  cases e;cases vs with
  | nil=>exact .nil
  | cons=>simp at len
 | cons a as ih =>
  obtain⟨u,eu,e⟩:=zb e;obtain⟨us',eus,e⟩:=zb e;cases e;cases vs with
  | nil=>simp at len
  | cons v vs =>
   obtain⟨v',ev,k⟩:=h 0 a rfl;cases(show some v=some v' from ev);exact .cons (k u eu) (ih (by simpa using len) (fun i b eb=>h (i+1) b eb) eus)
theorem ArS.rpl{vs:List V}{as:List Ar}{us:List U}(r:Rs K ρ σ H)(g:Go K ρ σ H ρ' H')(s:ArS K ρ' σ H H' vs as)(e:zax ρ' as=some us):RpL K H' vs us :=
 zxk s.len (fun i a ea=>let ⟨v,ev,k⟩:=s.ar i a ea; ⟨v,ev,fun u eu=>k.now r g eu⟩) e
theorem zl5{vs:List V}{us:List U}{ds:List D}(h:RpL K H vs us)(e:zch us=some ds):DFs K H vs ds:=by
 induction h generalizing ds with
 | nil=>cases e; exact .nil
 | @cons v u vs us hv t ih =>
  cases u with
  | d x =>
   obtain⟨xs,ex,e⟩:=zb (show(zch us).bind (fun xs=>some (x::xs))=some ds from e);cases e;exact .cons hv (ih ex)
  | l=>cases e
  | t=>cases e
  | k=>cases e
def zaP(ma:MA):ME:=fun ρ=>(ma ρ).bind fun p=>(zax p.2 p.1).bind fun us=>(zch us).bind fun ds=>if ds.length<=sizeLine then some (.u (.d (.tuple ds)),p.2)else none
def zfZ(ma:MA):ME:=fun ρ=>(ma ρ).bind fun p=>(zax p.2 p.1).bind fun us=>(zch us).bind fun ds=>if ds.length<=sizeLine then some (.u (.l ds),p.2)else none
theorem zah{t:TA}{m:MA}(h:VAs K t m):VE K (zwU t) (zaP m):=by
 intro ρ σ H a ρ' Q r e q;obtain⟨⟨as,ρ1⟩,e1,e⟩:=zb e;obtain⟨us,eu,e⟩:=zb e;obtain⟨ds,ed,e⟩:=zb e;split at e
 ·rename_i hz
  cases e;refine h ρ σ H as _ _ r e1 fun vs H1 g1 s1=>?_;have dd:=zl5 (s1.rpl r g1 eu) ed;refine⟨by rw [dd.len]; exact hz,fun p hp=>?_⟩;have sm:=zF hp (.tup vs);exact q _ _ (g1.trans (Go.grow g1.rs sm)) ⟨.tup (.inl zt) (dd.kp sm.kp),Nw.data⟩
 ·cases e
theorem zen{t:TA}{m:MA}(h:VAs K t m):VE K (zwV t) (zfZ m):=by
 intro ρ σ H a ρ' Q r e q;obtain⟨⟨as,ρ1⟩,e1,e⟩:=zb e;obtain⟨us,eu,e⟩:=zb e;obtain⟨ds,ed,e⟩:=zb e;split at e
 ·rename_i hz
  cases e;refine h ρ σ H as _ _ r e1 fun vs H1 g1 s1=>?_;have dd:=zl5 (s1.rpl r g1 eu) ed;refine⟨by rw [dd.len]; exact hz,fun p hp=>?_⟩;have sm:=zF hp (.lst vs);exact q _ _ (g1.trans (Go.grow g1.rs sm)) ⟨⟨p,_,rfl,zt,dd.kp sm.kp⟩,fun _=>⟨p,rfl,g1.dm p hp⟩⟩
 ·cases e
def VC(K:qc)(r:List V->Hp->VK->Prop)(f:List U->Option U):Prop :=
 ∀ (vs:List V) (us:List U) (u:U) (H:Hp) (Q:VK),RpL K H vs us->f us=some u->(∀ v H',zaZ H H'->Rp K H' v u->Nw H v u->Q v H')->r vs H Q
def mCB(f:List U->Option U)(ma:MA):ME:=fun ρ=>(ma ρ).bind fun p=>(zax p.2 p.1).bind fun us=>(f us).bind fun u=>some (.u u,p.2)
theorem zan{r:List V->Hp->VK->Prop}{f:List U->Option U}{t:TA}{m:MA}(hc:VC K r f)(h:VAs K t m):VE K (tCB r t) (mCB f m):=by
 intro ρ σ H a ρ' Q rs e q;obtain⟨⟨as,ρ1⟩,e1,e⟩:=zb e;obtain⟨us,eu,e⟩:=zb e;obtain⟨u,ef,e⟩:=zb e;cases e;refine h ρ σ H as _ _ rs e1 fun vs H1 g1 s1=>hc vs us u H1 _ (s1.rpl rs g1 eu) ef fun v H2 s p n=>?_;exact q v H2 (g1.trans (Go.grow g1.rs s)) ⟨p,n.mono g1.dm⟩
def f1(f:U->Option U):List U->Option U
 | [u]=>f u
 | _=>none
theorem zg7{r:List V->Hp->VK->Prop}{f:U->Option U}(h:∀ (v:V) (a u:U) (H:Hp) (Q:VK),Rp K H v a->f a=some u->(∀ v H',zaZ H H'->Rp K H' v u->Nw H v u->Q v H')->r [v] H Q):VC K r (f1 f):=by
 intro vs us u H Q hr e q;cases hr with
 | nil=>cases e
 | cons h1 t =>
  cases t with
  | nil=>exact h _ _ _ _ _ h1 e q
  | cons=>cases e
def U.items:U->Option (List D)
 | .d (.tuple xs)=>some xs
 | .d (.list xs)=>some xs
 | .l xs=>some xs
 | _=>none
theorem Rp.items{v:V}{u:U}{xs:List D}(h:Rp K H v u)(e:u.items=some xs):∃ p ys,v=.ref p/\(SqL K H p ys\/SqT K H p ys)/\DFs K H ys xs:=by
 cases u with
 | d x =>
  cases x with
  | tuple ds=>cases e; obtain⟨a,ys,rfl,h1,h2⟩:=DF.tup_inv h; exact⟨a,ys,rfl,.inr ((TpK.sq h1)),h2⟩
  | list ds=>cases e; obtain⟨a,ys,rfl,h1,h2⟩:=DF.lst_inv h; exact⟨a,ys,rfl,.inl h1.sq,h2⟩
  | _=>cases e
 | l ds=>cases e; obtain⟨a,ys,rfl,h1,h2⟩:=h; exact⟨a,ys,rfl,.inl (SqL.of h1),h2⟩
 | t=>cases e
 | k=>cases e
def zcR(u:U):Option U:=u.items.map fun xs=>.d (.int xs.length)
theorem za1:VC K (zyZ K) (f1 zcR):=zg7 fun v a u H Q h e q=>by
 obtain⟨xs,ex,rfl⟩:=qq.mp e;obtain⟨p,ys,rfl,s,d⟩:=h.items ex;exact⟨p,ys,rfl,s,q _ _ (fun _ _ z=>z) (by rw [d.len]; exact .int _) Nw.data⟩
def zbm(u:U):Option U:=u.items.map fun xs=>.d (.tuple xs)
theorem zbn:VC K (zkp K) (f1 zbm):=zg7 fun v a u H Q h e q=>by
 obtain⟨xs,ex,rfl⟩:=qq.mp e;cases a with
 | d x =>
  cases x with
  | tuple ds =>
   cases ex;obtain⟨a,ys,rfl,h1,h2⟩:=DF.tup_inv h;exact⟨a,ys,rfl,.inr ⟨(TpK.sq h1),q _ _ (fun _ _ z=>z) (.tup h1 h2) Nw.data⟩⟩
  | list ds =>
   cases ex;obtain⟨a,ys,rfl,h1,h2⟩:=DF.lst_inv h;refine⟨a,ys,rfl,.inl ⟨h1.sq,fun l hl=>?_⟩⟩;have sm:=zF hl (.tup ys);exact q _ _ sm (.tup (.inl zt) (h2.kp sm.kp)) Nw.data
  | _=>cases ex
 | l ds =>
  cases ex;obtain⟨a,ys,rfl,h1,h2⟩:=h;refine⟨a,ys,rfl,.inl ⟨SqL.of h1,fun l hl=>?_⟩⟩;have sm:=zF hl (.tup ys);exact q _ _ sm (.tup (.inl zt) (h2.kp sm.kp)) Nw.data
 | t=>cases ex
 | k=>cases ex
def zdB(u:U):Option U:=u.items.map fun xs=>.l xs
theorem zd6:VC K (zm3 K) (f1 zdB):=zg7 fun v a u H Q h e q=>by
 obtain⟨xs,ex,rfl⟩:=qq.mp e;obtain⟨p,ys,rfl,s,d⟩:=h.items ex;refine⟨p,ys,rfl,s,fun l hl=>?_⟩;have sm:=zF hl (.lst ys);exact q _ _ sm ⟨l,ys,rfl,zt,d.kp sm.kp⟩ fun _=>⟨l,rfl,hl⟩
def zl6:U->Option U
 | .d (.int i)=>some (.d (.int (if i < 0 then -i else i)))
 | _=>none
theorem zji:VC K (fun xs H Q=>∃ i,xs=[.int i]/\Q (.int (if i < 0 then -i else i)) H) (f1 zl6):=zg7 fun v a u H Q h e q=>by
 unfold zl6 at e;split at e
 ·rename_i i
  cases e;cases DF.int_inv h;exact⟨i,rfl,q _ _ (fun _ _ z=>z) (.int _) Nw.data⟩
 ·cases e
def znc:U->Option U
 | .d (.int i)=>some (.d (.int i))
 | .d (.bool k)=>some (.d (.int (if k then 1 else 0)))
 | _=>none
theorem ztC:VC K (fun xs H Q=>(∃ i,xs=[.int i]/\Q (.int i) H)\/∃ k,xs=[.bl k]/\Q (.int (if k then 1 else 0)) H) (f1 znc):=zg7 fun v a u H Q h e q=>by
 unfold znc at e;split at e
 ·rename_i i
  cases e;cases DF.int_inv h;exact .inl ⟨i,rfl,q _ _ (fun _ _ z=>z) (.int _) Nw.data⟩
 ·rename_i i
  cases e;cases DF.bl_inv h;exact .inr ⟨i,rfl,q _ _ (fun _ _ z=>z) (.int _) Nw.data⟩
 ·cases e
def ziu:List U->Option U
 | [.d (.int i),.d (.int j)]=>some (.d (.int (if j > i then j else i)))
 | _=>none
theorem zjj:VC K (fun xs H Q=>∃ i j,xs=[.int i,.int j]/\Q (.int (if j > i then j else i)) H) ziu:=by
 intro vs us u H Q hr e q;unfold ziu at e;split at e
 ·rename_i i j
  cases e;cases hr with
  | cons h1 t =>
   cases t with
   | cons h2 t =>
    cases t;cases DF.int_inv h1;cases DF.int_inv h2;exact⟨i,j,rfl,q _ _ (fun _ _ z=>z) (.int _) Nw.data⟩
 ·cases e
def zfe:List D->Option (List Int)
 | []=>some []
 | .int i::xs=>(zfe xs).bind fun is=>some (i::is)
 | _::_=>none
theorem zkw{ys:List V}{xs:List D}{ns:List Int}(h:DFs K H ys xs)(e:zfe xs=some ns):ys=ns.map V.int:=by
 induction xs generalizing ys ns with
 | nil=>cases e; cases h; rfl
 | cons x xs ih =>
  cases h with
  | cons h1 t =>
   cases x with
   | int i =>
    obtain⟨is,ei,e⟩:=zb (show(zfe xs).bind (fun is=>some (i::is))=some ns from e);cases e;rw [ih t ei,DF.int_inv h1];rfl
   | _=>cases e
def mB(me:ME):MT:=fun ρ=>(me ρ).bind fun p=>(p.1.get p.2).bind fun u=>match u with | .d (.bool b)=>some (b,p.2) | _=>none
theorem zxl{t:TE}{m:ME}(h:VE K t m):VT K (tB t) (mB m):=by
 intro ρ σ H b ρ' Q r e q;obtain⟨⟨a,ρ1⟩,e1,e⟩:=zb e;obtain⟨u,eu,e⟩:=zb e;split at e
 ·cases e
  refine h ρ σ H a _ _ r e1 fun v H1 g1 k1=>?_;exact⟨_,DF.bl_inv (k1.now r g1 eu),q _ g1⟩
 ·cases e
theorem zL{t:TE}{m:ME}(h:VE K t m):VT K (zpI t) (mB m):=zxl h
def zkx(ma mb:MT):MT:=fun ρ=>(ma ρ).bind fun p=>if p.1=true then mb p.2 else some (false,p.2)
def mOr(ma mb:MT):MT:=fun ρ=>(ma ρ).bind fun p=>if p.1=true then some (true,p.2)else mb p.2
def ztD(ma:MT):MT:=fun ρ=>(ma ρ).bind fun p=>some (!p.1,p.2)
theorem zg8{ta tb:TT}{ma mb:MT}(ha:VT K ta ma)(hb:VT K tb mb):VT K (zwp ta tb) (zkx ma mb):=by
 intro ρ σ H b ρ' Q r e q;obtain⟨⟨c,ρ1⟩,e1,e⟩:=zb e;refine ha ρ σ H c ρ1 _ r e1 fun H1 g1=>?_;dsimp only at e;split at e
 ·rename_i hc
  rw [if_pos hc];exact hb ρ1 σ H1 b ρ' _ g1.rs e fun H2 g2=>q H2 (g1.trans g2)
 ·rename_i hc
  rw [if_neg hc];cases e;exact q H1 g1
theorem zvb{ta tb:TT}{ma mb:MT}(ha:VT K ta ma)(hb:VT K tb mb):VT K (tOr ta tb) (mOr ma mb):=by
 intro ρ σ H b ρ' Q r e q;obtain⟨⟨c,ρ1⟩,e1,e⟩:=zb e;refine ha ρ σ H c ρ1 _ r e1 fun H1 g1=>?_;dsimp only at e;split at e
 ·rename_i hc
  rw [if_pos hc];cases e;exact q H1 g1
 ·rename_i hc
  rw [if_neg hc];exact hb ρ1 σ H1 b ρ' _ g1.rs e fun H2 g2=>q H2 (g1.trans g2)
theorem zxm{ta:TT}{ma:MT}(ha:VT K ta ma):VT K (zwq ta) (ztD ma):=by
 intro ρ σ H b ρ' Q r e q;obtain⟨⟨c,ρ1⟩,e1,e⟩:=zb e;cases e;exact ha ρ σ H c _ _ r e1 fun H1 g1=>q H1 g1
def znd(ma mb:ME):ME:=fun ρ=>(mB ma ρ).bind fun p=>if p.1=true then mb p.2 else some (.u (.d (.bool false)),p.2)
theorem zxn{a:Ar}{v:V}{H1 H2:Hp}{ρ1 ρ2:En}(g1:Go K ρ σ H ρ1 H1)(h:zhT K ρ2 σ H1 H2 v a):zhT K ρ2 σ H H2 v a:=by
 cases a with
 | s i=>exact h
 | u x=>exact⟨h.1,h.2.mono g1.dm⟩
theorem zxo{ta tb:TE}{ma mb:ME}(ha:VE K ta ma)(hb:VE K tb mb):VE K (zpv ta tb) (znd ma mb):=by
 intro ρ σ H a ρ' Q r e q;obtain⟨⟨c,ρ1⟩,e1,e⟩:=zb e;refine zxl ha ρ σ H c ρ1 (fun c H1=>if c=true then tb σ H1 Q else Q (.bl false) H1) r e1 fun H1 g1=>?_;dsimp only at e;split at e
 ·rename_i hc
  rw [if_pos hc];exact hb ρ1 σ H1 a ρ' _ g1.rs e fun v H2 g2 k=>q v H2 (g1.trans g2) (zxn g1 k)
 ·rename_i hc
  rw [if_neg hc];cases e;exact q _ H1 g1 ⟨.bl _,Nw.data⟩
def mIf(mt:MT)(ma mb:ME):ME:=fun ρ=>(mt ρ).bind fun p=>if p.1=true then ma p.2 else mb p.2
theorem zy8{tt:TT}{ta tb:TE}{mt:MT}{ma mb:ME}(ht:VT K tt mt)(ha:VE K ta ma)(hb:VE K tb mb):VE K (tIf tt ta tb) (mIf mt ma mb):=by
 intro ρ σ H a ρ' Q r e q;obtain⟨⟨c,ρ1⟩,e1,e⟩:=zb e;refine ht ρ σ H c ρ1 _ r e1 fun H1 g1=>?_;dsimp only at e;split at e
 ·rename_i hc
  rw [if_pos hc];exact ha ρ1 σ H1 a ρ' _ g1.rs e fun v H2 g2 k=>q v H2 (g1.trans g2) (zxn g1 k)
 ·rename_i hc
  rw [if_neg hc];exact hb ρ1 σ H1 a ρ' _ g1.rs e fun v H2 g2 k=>q v H2 (g1.trans g2) (zxn g1 k)
def U.tru:U->Option Bool
 | .d .none=>some false
 | .d (.bool b)=>some b
 | .d (.int i)=>some (i != 0)
 | .d (.str x)=>if x.length<=sizeLine then some ((x.length:Int) != 0)else none
 | .d (.tuple xs)=>some (!xs.isEmpty)
 | .d (.list xs)=>some (!xs.isEmpty)
 | .l xs=>some (!xs.isEmpty)
 | _=>none
theorem zdC{ys:List V}{xs:List D}(h:DFs K H ys xs):(!xs.isEmpty)=!ys.isEmpty:=by cases h<;>rfl
def zqf(ma:ME):MT:=fun ρ=>(ma ρ).bind fun p=>(p.1.get p.2).bind fun u=>u.tru.bind fun b=>some (b,p.2)
theorem zqg{ta:TE}{ma:ME}(ha:VE K ta ma):VT K (zyY K ta) (zqf ma):=by
 intro ρ σ H b ρ' Q r e q;obtain⟨⟨a,ρ1⟩,e1,e⟩:=zb e;obtain⟨u,eu,e⟩:=zb e;obtain⟨c,ec,e⟩:=zb e;cases e;refine ha ρ σ H a _ _ r e1 fun v H1 g1 k1=>⟨_,?_,q _ g1⟩;have p:=k1.now r g1 eu;cases u with
 | d x =>
  cases(show DF K H1 v x from p)with
  | non=>cases ec; rfl
  | bl=>cases ec; rfl
  | int=>cases ec; rfl
  | str x =>
   unfold U.tru at ec;dsimp only at ec;split at ec
   ·cases ec; exact⟨by assumption,rfl⟩
   ·cases ec
  | tup h t=>cases ec; exact .inr (.inl ⟨_,(TpK.sq h),zdC t⟩)
  | lst h t=>cases ec; exact .inl ⟨_,h.sq,zdC t⟩
  | dct=>cases ec
  | exc=>cases ec
  | obj=>cases ec
 | l xs=>cases ec; obtain⟨a,us,rfl,h1,h2⟩:=p; exact .inl ⟨_,SqL.of h1,zdC h2⟩
 | t=>cases ec
 | k=>cases ec
end
section
variable {K:qc} {ρ ρ':En} {σ:St} {H H':Hp}
abbrev FD:=List U->Option (U×List U)
def sm(xs:List U):En:=xs.map some
def smV(vs:List V):St:=vs.map some
def spV(K:qc)(n:Nat)(f:FD):Sp:=fun vs H Q _=>∃ us r outs,us.length=n/\Rs K (sm us) (smV vs) H/\f us=some (r,outs) /\
 ∀ v H',Go K (sm us) (smV vs) H (sm outs) H'->Rp K H' v r->Nw H v r->Q v H'
def wb:En->List Ar->List U->En
 | ρ,.s j::as,o::os=>wb (ρ.set j (some o)) as os
 | ρ,.u _::as,_::os=>wb ρ as os
 | ρ,_,_=>ρ
def zdD(ρ:En):List Ar->Bool
 | []=>true
 | .s j::as=>(match ρ[j]? with | some (some u)=>!u.own || !(as.any fun a=>match a with | .s k=>decide (k=j) | _=>false) | _=>true) && zdD ρ as
 | .u _::as=>zdD ρ as
def zN(f:FD)(ma:MA):ME:=fun ρ=>(ma ρ).bind fun p=>if zdD p.2 p.1=true then(zax p.2 p.1).bind fun us=>(f us).bind fun o=>some (.u o.1,wb p.2 p.1 o.2)else none
theorem zff:∀ {as:List Ar} {us:List U},zax ρ as=some us->us.length=as.length
 | [],us,e=>by cases e; rfl
 | a::as,us,e=>by
  obtain⟨u,eu,e⟩:=zb e;obtain⟨us',eus,e⟩:=zb e;cases e;simp [zff eus]
theorem zne:∀ {as:List Ar} {us:List U} {i:Nat} {a:Ar},zax ρ as=some us->as[i]?=some a->∃ u,us[i]?=some u/\a.get ρ=some u
 | [],us,i,a,e,ea=>by simp at ea
 | b::as,us,i,a,e,ea=>by
  obtain⟨u,eu,e⟩:=zb e;obtain⟨us',eus,e⟩:=zb e;cases e;cases i with
  | zero=>cases(show some b=some a from ea); exact⟨u,rfl,eu⟩
  | succ i=>exact zne (i:=i) eus ea
theorem zg9:∀ {as:List Ar} {us:List U} {i:Nat} {u:U},zax ρ as=some us->us[i]?=some u->∃ a,as[i]?=some a/\a.get ρ=some u:=fun{as us i u} e eu=>by
 have hi:i < as.length:=by rw [<-zff e]; exact(qk.mp eu).1
 obtain⟨u',e1,e2⟩:=zne e (ql hi);rw [eu]at e1;cases e1;exact⟨_,ql hi,e2⟩
theorem zvc{j:Nat}{u:U}(e:Ar.get ρ (.s j)=some u):ρ[j]?=some (some u):=by
 have z:(ρ[j]?).join=some u:=e;cases q:ρ[j]? with
 | none=>rw [q]at z; cases z
 | some o =>
  rw [q]at z;cases o with
  | none=>cases z
  | some w=>cases z; rfl
theorem znf:∀ {as:List Ar} {p q j:Nat} {u:U},zdD ρ as=true->as[p]?=some (.s j)->as[q]?=some (.s j)->ρ[j]?=some (some u)->u.own=true->p=q
 | [],p,q,j,u,_,e,_,_,_=>by simp at e
 | a::as,p,q,j,u,d,ep,eq,ej,ou=>by
  have dd:zdD ρ as=true:=by
   cases a with
   | s k=>unfold zdD at d; rw [Bool.and_eq_true]at d; exact d.2
   | u=>exact d
  have nope:∀ {q':Nat},a=.s j->as[q']?=some (.s j)->False:=fun{q'} ea eq'=>by
   subst ea;unfold zdD at d;rw [Bool.and_eq_true,ej]at d;have d1:=d.1;dsimp only at d1;rw [ou]at d1;have m:(as.any fun a=>match a with | .s k=>decide (k=j) | _=>false)=true:=List.any_eq_true.mpr ⟨.s j,List.mem_of_getElem? eq',by simp⟩;rw [m]at d1;cases d1
  cases p with
  | zero =>
   cases q with
   | zero=>rfl
   | succ q=>exact(nope (qw ep) eq).elim
  | succ p =>
   cases q with
   | zero=>exact(nope (qw eq) ep).elim
   | succ q=>exact congrArg (·+1) (znf dd ep eq ej ou)
theorem zbo{us:List U}{i:Nat}{u:U}:(sm us)[i]?=some (some u)↔us[i]?=some u:=by
 unfold sm;rw [List.getElem?_map];cases us[i]?<;>simp
theorem zf0{vs:List V}{i:Nat}{v:V}:(smV vs)[i]?=some (some v)↔vs[i]?=some v:=by
 unfold smV;rw [List.getElem?_map];cases vs[i]?<;>simp
theorem zng:∀ {as:List Ar} {os:List U} {ρ:En} {j:Nat} {w:U},(wb ρ as os)[j]?=some (some w)->as.length=os.length->(∃ p:Nat,as[p]?=some (Ar.s j)/\os[p]?=some w)\/(ρ[j]?=some (some w)/\∀ p:Nat,as[p]?≠some (Ar.s j))
 | [],os,ρ,j,w,e,_=>.inr ⟨by cases os<;>exact e,fun p z=>by simp at z⟩
 | a::as,[],ρ,j,w,e,l=>by simp at l
 | .u x::as,o::os,ρ,j,w,e,l=>by
  rcases zng (as:=as) (os:=os) (ρ:=ρ) (show(wb ρ as os)[j]?=some (some w) from e) (by simpa using l)with ⟨p,h1,h2⟩ | ⟨h1,h2⟩
  ·exact .inl ⟨p+1,h1,h2⟩
  ·refine .inr ⟨h1,fun p z=>?_⟩
   cases p with
   | zero=>cases(show some (Ar.u x)=some (.s j) from z)
   | succ p=>exact h2 p z
 | .s k::as,o::os,ρ,j,w,e,l=>by
  rcases zng (as:=as) (os:=os) (ρ:=ρ.set k (some o)) (show(wb (ρ.set k (some o)) as os)[j]?=some (some w) from e) (by simpa using l)with ⟨p,h1,h2⟩ | ⟨h1,h2⟩
  ·exact .inl ⟨p+1,h1,h2⟩
  ·by_cases hk:k=j
   ·subst hk
    have hl:k < (ρ.set k (some o)).length:=(qk.mp h1).1;rw [List.length_set]at hl;rw [List.getElem?_set_self hl]at h1;exact .inl ⟨0,rfl,by cases h1; rfl⟩
   ·rw [qB hk]at h1
    refine .inr ⟨h1,fun p z=>?_⟩;cases p with
    | zero=>cases(show some (Ar.s k)=some (.s j) from z); exact hk rfl
    | succ p=>exact h2 p z
theorem zjk:∀ (ρ:En) (as:List Ar) (os:List U),(wb ρ as os).length=ρ.length
 | ρ,[],os=>by cases os<;>rfl
 | ρ,.s k::as,[]=>rfl
 | ρ,.u k::as,[]=>rfl
 | ρ,.s k::as,o::os=>by show(wb (ρ.set k (some o)) as os).length=_; rw [zjk]; exact List.length_set
 | ρ,.u k::as,o::os=>zjk ρ as os
theorem zgy:∀ {as:List Ar} {os:List U} {ρ:En} {j:Nat} {w:U},ρ[j]?=some (some w)->∃ w',(wb ρ as os)[j]?=some (some w')
 | [],os,ρ,j,w,e=>⟨w,by cases os<;>exact e⟩
 | .s k::as,[],ρ,j,w,e=>⟨w,e⟩
 | .u k::as,[],ρ,j,w,e=>⟨w,e⟩
 | .u k::as,o::os,ρ,j,w,e=>zgy (as:=as) (os:=os) e
 | .s k::as,o::os,ρ,j,w,e=>by
  by_cases hk:k=j
  ·subst hk
   exact zgy (as:=as) (os:=os) (w:=o) (List.getElem?_set_self (qk.mp e).1)
  ·exact zgy (as:=as) (os:=os) (w:=w) (by rw [qB hk]; exact e)
theorem zxp{as:List Ar}{us:List U}{vs:List V}{ρ1:En}{H1:Hp}(rs:Rs K ρ σ H)(g1:Go K ρ σ H ρ1 H1)(s1:ArS K ρ1 σ H H1 vs as)(dj:zdD ρ1 as=true)(eu:zax ρ1 as=some us) :
  Rs K (sm us) (smV vs) H1/\∀ (outs:List U) (H2:Hp),Go K (sm us) (smV vs) H1 (sm outs) H2->Go K ρ σ H (wb ρ1 as outs) H2:=by
 have rp:=s1.rpl rs g1 eu;have lus:=zff eu;have lvs:=s1.len;have adr:∀ (i:Nat) (u:U),us[i]?=some u->u.own=true->∃ b,vs[i]?=some (.ref b)/\((∃ j,as[i]?=some (.s j)/\σ[j]?=some (some (.ref b))/\ρ1[j]?=some (some u))\/(as[i]?=some (.u u)/\H b=none)):=fun i u ei ou=>by
  obtain⟨a,ea,eg⟩:=zg9 eu ei;obtain⟨v,ev,k⟩:=s1.ar i a ea;have p:=k.now rs g1 eg;obtain⟨b,rfl⟩:=p.own_ref ou;refine⟨b,ev,?_⟩;cases a with
  | s j=>exact .inl ⟨j,ea,k.1,zvc eg⟩
  | u x =>
   cases(show some x=some u from eg);obtain⟨b',eb,hb⟩:=k.2 ou;cases eb;exact .inr ⟨ea,hb⟩
 have apart:∀ (i j:Nat) (u w:U),us[i]?=some u->us[j]?=some w->u.own=true->w.own=true->vs[i]?=vs[j]?->i=j:=fun i j u w ei ej ou ow ev=>by
  obtain⟨b,vb,hb⟩:=adr i u ei ou;obtain⟨c,vc,hc⟩:=adr j w ej ow;have bc:b=c:=by rw [vb,vc]at ev; cases ev; rfl
  subst bc;rcases hb with ⟨x,ax,sx,rx⟩ | ⟨ax,nx⟩
  ·rcases hc with ⟨y,ay,sy,ry⟩ | ⟨ay,ny⟩
   ·have xy:x=y:=g1.rs.apart x y u w rx ry ou ow (by rw [sx,sy])
    subst xy;exact znf dj ax ay rx ou
   ·exfalso
    obtain⟨w',ew',ow'⟩:=g1.shr.own x u rx ou;obtain⟨c',hc',_⟩:=rs.ow ⟨x,w',ew',ow',sx⟩;rw [ny]at hc';cases hc'
  ·rcases hc with ⟨y,ay,sy,ry⟩ | ⟨ay,ny⟩
   ·exfalso
    obtain⟨w',ew',ow'⟩:=g1.shr.own y w ry ow;obtain⟨c',hc',_⟩:=rs.ow ⟨y,w',ew',ow',sy⟩;rw [nx]at hc';cases hc'
   ·exact s1.ap i j u w ax ay ou ow ev
 have rsA:Rs K (sm us) (smV vs) H1:=by
  refine⟨by unfold sm smV; rw [List.length_map,List.length_map]; omega,fun i u ei=>?_,fun i j u w ei ej ou ow ev=>?_⟩
  ·have ei':=zbo.mp ei
   obtain⟨a,ea,eg⟩:=zg9 eu ei';obtain⟨v,ev,k⟩:=s1.ar i a ea;exact⟨v,zf0.mpr ev,k.now rs g1 eg⟩
  ·have ei':=zbo.mp ei
   have ej':=zbo.mp ej;refine apart i j u w ei' ej' ou ow ?_;obtain⟨b,vb,_⟩:=adr i u ei' ou;obtain⟨c,vc,_⟩:=adr j w ej' ow;rw [zf0.mpr vb,zf0.mpr vc]at ev;rw [vb,vc];exact qw ev
 refine⟨rsA,fun outs H2 g2=>?_⟩;have lo:outs.length=us.length:=by have:=g2.shr.len; unfold sm at this; simpa using this
 have kp2:=g2.kp rsA;have owA:∀ b,Ow (sm us) (smV vs) b->Ow ρ1 σ b\/H b=none:=fun b ⟨i,u,ei,ou,es⟩=>by
  obtain⟨c,vc,hc⟩:=adr i u (zbo.mp ei) ou;rw [zf0.mp es]at vc;cases vc;rcases hc with ⟨j,_,sj,rj⟩ | ⟨_,nb⟩
  ·exact .inl ⟨j,u,rj,ou,sj⟩
  ·exact .inr nb
 have outsAt:∀ (i:Nat) (w:U),outs[i]?=some w->∃ x,vs[i]?=some x/\Rp K H2 x w:=fun i w ei=>by
  obtain⟨x,ex,px⟩:=g2.rs.rep i w (zbo.mpr ei);exact⟨x,zf0.mp ex,px⟩
 have lao:as.length=outs.length:=by omega
 have ownBack:∀ (j:Nat) (w:U),(wb ρ1 as outs)[j]?=some (some w)->w.own=true->∃ w',ρ1[j]?=some (some w')/\w'.own=true:=fun j w ej ow=>by
  rcases zng ej lao with ⟨p,ap,op⟩ | ⟨h1,_⟩
  ·obtain⟨w',ew',ow'⟩:=g2.shr.own p w (zbo.mpr op) ow
   obtain⟨a,ea,eg⟩:=zg9 eu (zbo.mp ew');rw [ap]at ea;cases ea;exact⟨w',zvc eg,ow'⟩
  ·exact⟨w,h1,ow⟩
 refine⟨⟨by rw [zjk]; exact g1.rs.len,fun j w ej=>?_,fun i j u w ei ej ou ow es=>?_⟩,fun b ob hb nb=>?_,?_,fun b hb=>g1.dm b (g2.dm b hb)⟩
 ·rcases zng ej lao with ⟨p,ap,op⟩ | ⟨h1,h2⟩
  ·obtain⟨x,vx,px⟩:=outsAt p w op
   obtain⟨v',ev',k'⟩:=s1.ar p _ ap;rw [vx]at ev';cases ev';exact⟨x,k'.1,px⟩
  ·obtain⟨x,ex,px⟩:=g1.rs.rep j w h1
   refine⟨x,ex,px.kp kp2 fun ow b c eb hb=>?_⟩;refine g2.fr b c hb fun⟨i,u,ei,ou,es⟩=>?_;obtain⟨c',vc',hc'⟩:=adr i u (zbo.mp ei) ou;rw [zf0.mp es]at vc';cases vc';subst eb;rcases hc' with ⟨k,ak,sk,rk⟩ | ⟨_,nb⟩
   ·have:k=j:=g1.rs.apart k j u w rk h1 ou ow (by rw [sk,ex])
    subst this;exact h2 i ak
   ·obtain⟨w',ew',ow'⟩:=g1.shr.own j w h1 ow
    obtain⟨c'',hc'',_⟩:=rs.ow ⟨j,w',ew',ow',ex⟩;rw [nb]at hc'';cases hc''
 ·obtain⟨x,ex,ox⟩:=ownBack i u ei ou
  obtain⟨y,ey,oy⟩:=ownBack j w ej ow;exact g1.rs.apart i j x y ex ey ox oy es
 ·refine g2.fr b ob (g1.fr b ob hb nb) fun z=>?_
  rcases owA b z with z | z
  ·exact nb (g1.shr.ow z)
  ·rw [z]at hb; cases hb
 ·refine⟨by rw [zjk]; exact g1.shr.len,fun j w ej ow=>?_,fun j w ej=>?_⟩
  ·obtain⟨x,ex,ox⟩:=ownBack j w ej ow
   exact g1.shr.own j x ex ox
  ·obtain⟨x,ex⟩:=g1.shr.live j w ej
   exact zgy ex
theorem zy9:∀ ρ as ρ',zo ρ=some (as,ρ')->as.length=0:=fun ρ as ρ' e=>by cases e; rfl
theorem zxq{n:Nat}{me:ME}{ma:MA}(h:∀ ρ as ρ',ma ρ=some (as,ρ')->as.length=n):∀ ρ as ρ',zf me ma ρ=some (as,ρ')->as.length=n+1:=fun ρ as ρ' e=>by
 obtain⟨⟨a1,ρ1⟩,e1,e⟩:=zb e;obtain⟨⟨as2,ρ2⟩,e2,e⟩:=zb e;cases e;simp [h _ _ _ e2]
theorem zE{f:FD}{t:TA}{m:MA}(n:Nat)(h:VAs K t m)(hn:∀ ρ as ρ',m ρ=some (as,ρ')->as.length=n:=by repeat (first | exact zy9 | refine zxq ?_)):VE K (zxc (spV K n f) t) (zN f m):=by
 intro ρ σ H a ρ' Q rs e q;obtain⟨⟨as,ρ1⟩,e1,e⟩:=zb e;dsimp only at e;split at e
 ·rename_i dj
  obtain⟨us,eu,e⟩:=zb e;obtain⟨⟨r,outs⟩,ef,e⟩:=zb e;cases e;refine h ρ σ H as ρ1 _ rs e1 fun vs H1 g1 s1=>?_;obtain⟨rsA,back⟩:=zxp rs g1 s1 dj eu;exact⟨us,r,outs,by rw [zff eu]; exact hn _ _ _ e1,rsA,ef,fun v H2 g2 p n2=>q v H2 (back outs H2 g2) ⟨p,n2.mono g1.dm⟩⟩
 ·cases e
end
inductive Fl where
 | nx (ρ:En) | bk (ρ:En) | ct (ρ:En) | rt (u:U) (ρ:En) | ex (x:D) (ρ:En)
def zza(K:qc)(H:Hp)(a:Addr)(x:D):Prop:=∃ n C fs ds,x=.dict ((.none,.str n)::ds)/\zAu H a C fs/\XN K n C/\DFf K H fs ds
structure Sn (K:qc) (pn:List Nat) (σ₀:St) (A:Addr->Prop) (H₀ H₁:Hp) (ρ:En) (σ:St) (H:Hp):Prop where
 rs:Rs K ρ σ H
 fr:Fr' A H₀ H
 ow:∀ (i:Nat) (u:U) (a:Addr),ρ[i]?=some (some u)->u.own=true->σ[i]?=some (some (.ref a))->(i∈pn/\A a)\/H₀ a=none
 pin:∀ i∈pn,σ[i]?=σ₀[i]?
 dm:∀ a,H a=none->H₀ a=none
 kp:Kp H₁ H
def EX0:EXT:=fun _ _ _=>False
def zAv(K:qc)(pn:List Nat)(EX:EXT)(σ₀:St)(A:Addr->Prop)(H₀ H₁:Hp)(D:Ends):Fl->Prop
 | .nx ρ=>∀ σ H,Sn K pn σ₀ A H₀ H₁ ρ σ H->D.nx σ H
 | .bk ρ=>∀ σ H,Sn K pn σ₀ A H₀ H₁ ρ σ H->D.bk σ H
 | .ct ρ=>∀ σ H,Sn K pn σ₀ A H₀ H₁ ρ σ H->D.ct σ H
 | .rt u ρ=>∀ v σ H,Sn K pn σ₀ A H₀ H₁ ρ σ H->Rp K H v u->Nw H₀ v u->D.rt v H
 | .ex x ρ=>∀ a σ H,Sn K pn σ₀ A H₀ H₁ ρ σ H->H₀ a=none->zza K H a x->EX σ a H
abbrev MS:=En->Option Fl
def VS(K:qc)(pn:List Nat)(EX:EXT)(t:TS)(m:MS):Prop :=
 ∀ (σ₀:St) (A:Addr->Prop) (H₀ H₁:Hp) (ρ:En) (σ:St) (H:Hp) (f:Fl) (D:Ends),Sn K pn σ₀ A H₀ H₁ ρ σ H->m ρ=some f->zAv K pn EX σ₀ A H₀ H₁ D f->t D σ H
section
variable {EX:EXT} {K:qc} {pn:List Nat} {σ₀:St} {A:Addr->Prop} {H₀ H₁ H₂:Hp} {ρ ρ':En} {σ:St} {H H':Hp}
theorem Sn.go(s:Sn K pn σ₀ A H₀ H₁ ρ σ H)(g:Go K ρ σ H ρ' H'):Sn K pn σ₀ A H₀ H₁ ρ' σ H':=by
 refine⟨g.rs,fun a o h n=>g.fr a o (s.fr a o h n) fun⟨i,u,e,ou,es⟩=>?_,fun i u a e o es=>?_,s.pin,fun a h=>s.dm a (g.dm a h),s.kp.trans (g.kp s.rs)⟩
 ·rcases s.ow i u a e ou es with z | z
  ·exact n z.2
  ·rw [z]at h; cases h
 ·obtain⟨w,e',o'⟩:=g.shr.own i u e o
  exact s.ow i w a e' o' es
theorem Sn.re(s:Sn K pn σ₀ A H₀ H₂ ρ σ H)(k:Kp H₁ H₂):Sn K pn σ₀ A H₀ H₁ ρ σ H:=⟨s.rs,s.fr,s.ow,s.pin,s.dm,k.trans s.kp⟩
theorem Sn.at(s:Sn K pn σ₀ A H₀ H₁ ρ σ H):Sn K pn σ₀ A H₀ H ρ σ H:=⟨s.rs,s.fr,s.ow,s.pin,s.dm,Kp.refl H⟩
theorem Sn.set{i:Nat}{v:V}{u:U}(s:Sn K pn σ₀ A H₀ H₁ ρ σ H)(hi:i∉pn)(p:Rp K H v u)(n:u.own=true->∃ a,v=.ref a/\H₀ a=none/\¬Ow ρ σ a):Sn K pn σ₀ A H₀ H₁ (ρ.set i (some u)) (σ.set i (some v)) H:=by
 have ll:=s.rs.len;have inv:∀ (j:Nat) (w:U),(ρ.set i (some u))[j]?=some (some w)->(j=i/\w=u/\i < ρ.length)\/(j≠i/\ρ[j]?=some (some w)):=fun j w e=>by
  by_cases hj:i=j
  ·subst hj
   have hl:=(qk.mp e).1;rw [List.length_set]at hl;rw [List.getElem?_set_self hl]at e;cases e;exact .inl ⟨rfl,rfl,hl⟩
  ·rw [qB hj]at e
   exact .inr ⟨Ne.symm hj,e⟩
 have sat:∀ j,j≠i->(σ.set i (some v))[j]?=σ[j]?:=fun j h=>qB (Ne.symm h);have sself:i < ρ.length->(σ.set i (some v))[i]?=some (some v):=fun h=>List.getElem?_set_self (by omega);refine⟨⟨by rw [List.length_set,List.length_set]; exact ll,fun j w e=>?_,fun j k x y ej ek ox oy es=>?_⟩,s.fr,fun j w a e o es=>?_,fun j hj=>?_,s.dm,s.kp⟩
 ·rcases inv j w e with ⟨rfl,rfl,hl⟩ | ⟨hj,e'⟩
  ·exact⟨v,sself hl,p⟩
  ·rw [sat j hj]
   exact s.rs.rep j w e'
 ·rcases inv j x ej with ⟨rfl,rfl,hl⟩ | ⟨hj,ej'⟩
  ·rcases inv k y ek with ⟨rfl,rfl,_⟩ | ⟨hk,ek'⟩
   ·rfl
   ·exfalso
    obtain⟨a,rfl,_,na⟩:=n ox;rw [sself hl,sat k hk]at es;exact na ⟨k,y,ek',oy,es.symm⟩
  ·rcases inv k y ek with ⟨rfl,rfl,hl⟩ | ⟨hk,ek'⟩
   ·exfalso
    obtain⟨a,rfl,_,na⟩:=n oy;rw [sself hl,sat j hj]at es;exact na ⟨j,x,ej',ox,es⟩
   ·rw [sat j hj,sat k hk]at es
    exact s.rs.apart j k x y ej' ek' ox oy es
 ·rcases inv j w e with ⟨rfl,rfl,hl⟩ | ⟨hj,e'⟩
  ·rw [sself hl]at es
   cases es;obtain⟨b,eb,hb,_⟩:=n o;cases eb;exact .inr hb
  ·rw [sat j hj]at es
   exact s.ow j w a e' o es
 ·rw [sat j (fun z=>hi (z▸hj))]
  exact s.pin j hj
theorem zhT.own{a:Ar}{v:V}{u:U}(r:Rs K ρ σ H)(g:Go K ρ σ H ρ' H')(k:zhT K ρ' σ H H' v a)(e:a.get ρ'=some u)(nc:∀ j,a=.s j->u.own=false):Nw H v u/\(u.own=true->∃ b,v=.ref b/\¬Ow ρ' σ b):=by
 cases a with
 | s j=>exact⟨(fun o=>by rw [nc j rfl]at o; cases o),fun o=>by rw [nc j rfl]at o; cases o⟩
 | u x =>
  cases(show some x=some u from e);exact⟨k.2,k.2.out' r g⟩
def put(p:Ar×En):Option (U×En):=match p.1 with
 | .s i=>match p.2[i]? with
  | some (some (.d x))=>some (.d x,p.2)
  | _=>none
 | .u u=>some (u,p.2)
theorem zqh{a:Ar}{u:U}{ρ1 ρ2:En}(e:put (a,ρ1)=some (u,ρ2)):ρ2=ρ1/\a.get ρ1=some u/\∀ j,a=.s j->u.own=false:=by
 cases a with
 | s i =>
  unfold put at e;dsimp only at e;split at e
  ·rename_i x ex
   cases e;refine⟨rfl,?_,fun _ _=>rfl⟩;show(ρ1[i]?).join=_;rw [ex];rfl
  ·cases e
 | u x =>
  cases e;exact⟨rfl,rfl,fun j z=>by cases z⟩
def zK(i:Nat)(me:ME):MS:=fun ρ=>(me ρ).bind fun p=>(put p).bind fun q=>some (.nx (q.2.set i (some q.1)))
theorem zx{i:Nat}{te:TE}{me:ME}(h:VE K te me)(hi:i∉pn:=by decide):VS K pn EX (ziV te (zcX i)) (zK i me):=by
 intro σ₀ A H₀ H₁ ρ σ H f D s e k;obtain⟨⟨a,ρ1⟩,e1,e⟩:=zb e;obtain⟨⟨u,ρ2⟩,e2,e3⟩:=zb e;clear e;obtain⟨rfl,eg,nc⟩:=zqh e2;cases e3;refine h ρ σ H a ρ2 _ s.rs e1 fun v H1 g1 k1=>?_;obtain⟨n1,n2⟩:=k1.own s.rs g1 eg nc;have s1:=s.go g1;refine k _ _ (s1.set hi (k1.now s.rs g1 eg) fun o=>?_);obtain⟨b,rfl,hb⟩:=n2 o;obtain⟨b',eb,hb'⟩:=n1 o;cases eb;exact⟨b,rfl,s.dm b hb',hb⟩
def zz(m1 m2:MS):MS:=fun ρ=>(m1 ρ).bind fun f=>match f with
 | .nx ρ'=>m2 ρ'
 | f=>some f
theorem zq{t1 t2:TS}{m1 m2:MS}(h1:VS K pn EX t1 m1)(h2:VS K pn EX t2 m2):VS K pn EX (zpy t1 t2) (zz m1 m2):=by
 intro σ₀ A H₀ H₁ ρ σ H f D s e k;obtain⟨f1,e1,e⟩:=zb e;refine h1 σ₀ A H₀ H₁ ρ σ H f1 _ s e1 ?_;cases f1 with
 | nx ρ1=>exact fun σ1 H1 s1=>h2 σ₀ A H₀ H₁ ρ1 σ1 H1 f D s1 e k
 | bk ρ1=>cases e; exact k
 | ct ρ1=>cases e; exact k
 | rt u ρ1=>cases e; exact k
 | ex x ρ1=>cases e; exact k
def zaG:MS:=fun ρ=>some (.nx ρ)
theorem zay:VS K pn EX zpx zaG:=fun σ₀ A H₀ H₁ ρ σ H f D s e k=>by cases e; exact k σ H s
def zbW(mt:MT)(m1 m2:MS):MS:=fun ρ=>(mt ρ).bind fun p=>if p.1=true then m1 p.2 else m2 p.2
theorem za4{tt:TT}{t1 t2:TS}{mt:MT}{m1 m2:MS}(ht:VT K tt mt)(h1:VS K pn EX t1 m1)(h2:VS K pn EX t2 m2):VS K pn EX (zwy tt t1 t2) (zbW mt m1 m2):=by
 intro σ₀ A H₀ H₁ ρ σ H f D s e k;obtain⟨⟨c,ρ1⟩,e1,e⟩:=zb e;refine ht ρ σ H c ρ1 _ s.rs e1 fun H1 g1=>?_;dsimp only at e;split at e
 ·rename_i hc
  rw [if_pos hc];exact h1 σ₀ A H₀ H₁ ρ1 σ H1 f D (s.go g1) e k
 ·rename_i hc
  rw [if_neg hc];exact h2 σ₀ A H₀ H₁ ρ1 σ H1 f D (s.go g1) e k
theorem zdE{t:TS}{m:MS}(h:VS K pn EX t m):VS K pn EX (zp4 t) m:=by
 intro σ₀ A H₀ H₁ ρ σ H f D s e k;cases f with
 | nx ρ1=>exact⟨fun σ' H'=>Sn K pn σ₀ A H₀ H₁ ρ1 σ' H',h σ₀ A H₀ H₁ ρ σ H _ _ s e (fun σ' H' s'=>s'),fun σ' H' s'=>k σ' H' s'⟩
 | bk ρ1=>exact⟨D.nx,h σ₀ A H₀ H₁ ρ σ H _ _ s e k,fun _ _ z=>z⟩
 | ct ρ1=>exact⟨D.nx,h σ₀ A H₀ H₁ ρ σ H _ _ s e k,fun _ _ z=>z⟩
 | rt u ρ1=>exact⟨D.nx,h σ₀ A H₀ H₁ ρ σ H _ _ s e k,fun _ _ z=>z⟩
 | ex x ρ1=>exact⟨D.nx,h σ₀ A H₀ H₁ ρ σ H _ _ s e k,fun _ _ z=>z⟩
def zha(me:ME):MS:=fun ρ=>(me ρ).bind fun p=>some (.nx p.2)
theorem zjl{te:TE}{me:ME}(h:VE K te me):VS K pn EX (zpz te) (zha me):=by
 intro σ₀ A H₀ H₁ ρ σ H f D s e k;obtain⟨⟨a,ρ1⟩,e1,e⟩:=zb e;cases e;exact h ρ σ H a _ _ s.rs e1 fun v H1 g1 k1=>k σ H1 (s.go g1)
def zaM(me:ME):MS:=fun ρ=>(me ρ).bind fun p=>(put p).bind fun q=>some (.rt q.1 q.2)
theorem zad{te:TE}{me:ME}(h:VE K te me):VS K pn EX (zs1 te) (zaM me):=by
 intro σ₀ A H₀ H₁ ρ σ H f D s e k;obtain⟨⟨a,ρ1⟩,e1,e⟩:=zb e;obtain⟨⟨u,ρ2⟩,e2,e3⟩:=zb e;clear e;obtain⟨rfl,eg,nc⟩:=zqh e2;cases e3;refine h ρ σ H a _ _ s.rs e1 fun v H1 g1 k1=>?_;obtain⟨n1,n2⟩:=k1.own s.rs g1 eg nc;exact k v σ H1 (s.go g1) (k1.now s.rs g1 eg) (n1.mono s.dm)
def zgf(pn:List Nat)(i:Nat):MS:=fun ρ=>if i∈pn then none else(match ρ[i]? with
 | some (some u)=>some (.rt u (ρ.set i none))
 | _=>none)
theorem zl7{i:Nat}:VS K pn EX (zs1 (ze6 i)) (zgf pn i):=by
 intro σ₀ A H₀ H₁ ρ σ H f D s e k;unfold zgf at e;split at e
 ·cases e
 rename_i hi;split at e
 ·rename_i u eu
  cases e;obtain⟨v,ev,p⟩:=s.rs.rep i u eu;have back:∀ (j:Nat) (w:U),(ρ.set i none)[j]?=some (some w)->ρ[j]?=some (some w):=fun j w e=>by
   by_cases hj:i=j
   ·subst hj
    have hl:=(qk.mp e).1;rw [List.length_set]at hl;rw [List.getElem?_set_self hl]at e;cases e
   ·rw [qB hj]at e
    exact e
  refine⟨v,ev,k v σ H ⟨⟨by rw [List.length_set]; exact s.rs.len,fun j w e=>s.rs.rep j w (back j w e),fun a b x y ea eb=>s.rs.apart a b x y (back a x ea) (back b y eb)⟩,s.fr,fun j w a e=>s.ow j w a (back j w e),s.pin,s.dm,s.kp⟩ p fun o=>?_⟩;obtain⟨a,rfl⟩:=p.own_ref o;rcases s.ow i u a eu o ev with z | z
  ·exact absurd z.1 hi
  ·exact⟨a,rfl,z⟩
 ·cases e
end
section
variable {EX:EXT} {K:qc} {pn:List Nat} {σ₀:St} {A:Addr->Prop} {H₀ H₁ H₂:Hp} {ρ ρ':En} {σ:St} {H H':Hp}
def zqi(K:qc)(J:It)(H₁:Hp)(ds:List D):Prop:=∀ H,Kp H₁ H->∀ i:Nat,(∀ d,ds[i]?=some d->J.go i H/\∀ x H',J.yld i H x H'->zaZ H H'/\DF K H' x d)/\(i=ds.length->J.stop i H)
abbrev MI:=En->Option (List D×En)
def VI(K:qc)(wi:TI)(mi:MI):Prop :=
 ∀ (ρ:En) (σ:St) (H:Hp) (ds:List D) (ρ':En) (R:It->Hp->Prop),Rs K ρ σ H->mi ρ=some (ds,ρ')->(∀ J H',Go K ρ σ H ρ' H'->zqi K J H' ds->R J H')->wi σ H R
def zjm:U->Option (List D)
 | .d (.list xs)=>some xs
 | _=>none
def zjn:U->Option (List D)
 | .d (.tuple xs)=>some xs
 | _=>none
def mIt(f:U->Option (List D))(me:ME):MI:=fun ρ=>(me ρ).bind fun p=>(p.1.get p.2).bind fun u=>(f u).bind fun ds=>some (ds,p.2)
theorem zd7{te:TE}{me:ME}(h:VE K te me):VI K (zpC K te) (mIt zjm me):=by
 intro ρ σ H ds ρ' R r e q;obtain⟨⟨a,ρ1⟩,e1,e⟩:=zb e;obtain⟨u,eu,e⟩:=zb e;obtain⟨xs,ex,e⟩:=zb e;cases e;refine h ρ σ H a _ _ r e1 fun v H1 g1 k1=>?_;have p:=k1.now r g1 eu;unfold zjm at ex;split at ex
 ·cases ex
  obtain⟨b,ys,rfl,h1,h2⟩:=DF.lst_inv p;refine⟨b,rfl,⟨ys,h1.sq⟩,q _ _ g1 fun H2 k i=>⟨fun d ed=>?_,fun ei=>?_⟩⟩
  ·obtain⟨v,ev,dv⟩:=(h2.kp k).get ed
   refine⟨⟨ys,v,(h1.kp k).sq,ev⟩,fun x H' y=>?_⟩;obtain⟨rfl,y⟩:=y;have:=y ys (h1.kp k).sq;rw [ev]at this;cases this;exact⟨fun _ _ z=>z,dv⟩
  ·exact⟨ys,(h1.kp k).sq,by rw [h2.len]; omega⟩
 ·cases ex
theorem zjo{te:TE}{me:ME}(h:VE K te me):VI K (zwH K te) (mIt zjn me):=by
 intro ρ σ H ds ρ' R r e q;obtain⟨⟨a,ρ1⟩,e1,e⟩:=zb e;obtain⟨u,eu,e⟩:=zb e;obtain⟨xs,ex,e⟩:=zb e;cases e;refine h ρ σ H a _ _ r e1 fun v H1 g1 k1=>?_;have p:=k1.now r g1 eu;unfold zjn at ex;split at ex
 ·cases ex
  obtain⟨b,ys,rfl,h1,h2⟩:=DF.tup_inv p;refine⟨b,rfl,⟨ys,(TpK.sq h1)⟩,q _ _ g1 fun H2 k i=>⟨fun d ed=>?_,fun ei=>?_⟩⟩
  ·obtain⟨v,ev,dv⟩:=(h2.kp k).get ed
   refine⟨⟨ys,v,(TpK.kp k h1).sq,ev⟩,fun x H' y=>?_⟩;obtain⟨rfl,y⟩:=y;have:=y ys ((TpK.kp k h1).sq);rw [ev]at this;cases this;exact⟨fun _ _ z=>z,dv⟩
  ·exact⟨ys,(TpK.kp k h1).sq,by rw [h2.len]; omega⟩
 ·cases ex
def zao(lo:Int)(n:Nat):List D:=(List.range n).map fun i=>.int (lo+(i:Nat))
theorem zhb(lo:Int)(n:Nat):(zao lo n).length=n:=by simp [zao]
theorem ziv{lo:Int}{n i:Nat}{d:D}(h:(zao lo n)[i]?=some d):i < n/\d=.int (lo+(i:Nat)):=by
 have hl:=(qk.mp h).1;rw [zhb]at hl;refine⟨hl,?_⟩;unfold zao at h;rw [List.getElem?_map,List.getElem?_range hl]at h;cases h;rfl
theorem zl8{lo:Int}{n:Nat}:zqi K (Itr lo n) H₁ (zao lo n):=fun H k i=>⟨fun d ed=>by
  obtain⟨hi,rfl⟩:=ziv ed;refine⟨hi,fun x H' y=>?_⟩;obtain⟨rfl,rfl⟩:=y;exact⟨fun _ _ z=>z,.int _⟩,fun ei=>by rw [zhb]at ei; exact Nat.le_of_eq ei.symm⟩
def zgg(ma:MA):MI:=fun ρ=>(ma ρ).bind fun p=>(zax p.2 p.1).bind fun us=>match us with
 | [.d (.int j)]=>if -(2^62)<=j/\j < 2^62 then some (zao 0 j.toNat,p.2)else none
 | _=>none
theorem zfg{ta:TA}{ma:MA}(h:VAs K ta ma):VI K (zpE ta) (zgg ma):=by
 intro ρ σ H ds ρ' R r e q;obtain⟨⟨as,ρ1⟩,e1,e⟩:=zb e;obtain⟨us,eu,e⟩:=zb e;refine h ρ σ H as ρ1 _ r e1 fun vs H1 g1 s1=>?_;have rp:=s1.rpl r g1 eu;dsimp only at e;split at e
 ·split at e
  ·rename_i j hc
   cases e;cases rp with
   | cons h1 t =>
    cases t;cases DF.int_inv h1;exact⟨j,rfl,hc.1,hc.2,q _ _ g1 zl8⟩
  ·cases e
 ·cases e
def zci:Nat->List D->List D
 | _,[]=>[]
 | i,d::ds=>.tuple [.int (i:Nat),d]::zci (i+1) ds
theorem zdF:∀ {ds:List D} {n i:Nat} {d:D},(zci n ds)[i]?=some d->∃ x,ds[i]?=some x/\d=.tuple [.int ((n+i:Nat):Int),x]
 | [],n,i,d,h=>by simp [zci]at h
 | x::ds,n,0,d,h=>by cases h; exact⟨x,rfl,rfl⟩
 | x::ds,n,i+1,d,h=>by
  obtain⟨y,ey,ed⟩:=zdF (ds:=ds) (n:=n+1) (i:=i) h;exact⟨y,ey,by rw [ed]; congr 3; omega⟩
theorem zdh:∀ (ds:List D) (n:Nat),(zci n ds).length=ds.length
 | [],_=>rfl
 | _::ds,n=>congrArg (·+1) (zdh ds (n+1))
def znh(ma:MA):MI:=fun ρ=>(ma ρ).bind fun p=>(zax p.2 p.1).bind fun us=>match us with
 | [.d (.tuple ds)]=>some (zci 0 ds,p.2)
 | _=>none
theorem ztE{ta:TA}{ma:MA}(h:VAs K ta ma):VI K (zva K ta) (znh ma):=by
 intro ρ σ H ds ρ' R r e q;obtain⟨⟨as,ρ1⟩,e1,e⟩:=zb e;obtain⟨us,eu,e⟩:=zb e;refine h ρ σ H as ρ1 _ r e1 fun vs H1 g1 s1=>?_;have rp:=s1.rpl r g1 eu;dsimp only at e;split at e
 ·rename_i xs
  cases e;cases rp with
  | cons h1 t =>
   cases t;obtain⟨b,ys,rfl,h1,h2⟩:=DF.tup_inv h1;refine⟨b,rfl,⟨ys,(TpK.sq h1)⟩,q _ _ g1 fun H2 k i=>⟨fun d ed=>?_,fun ei=>?_⟩⟩
   ·obtain⟨x,ex,rfl⟩:=zdF ed
    obtain⟨v,ev,dv⟩:=(h2.kp k).get ex;refine⟨⟨ys,v,(TpK.kp k h1).sq,ev⟩,fun x H' y=>?_⟩;obtain⟨T,nT,rfl,y⟩:=y;cases y ys v ((TpK.kp k h1).sq) ev;have sm:=zF nT (.tup [.int i,v]);refine⟨sm,.tup (.inl zt) (.cons ?_ (.cons (dv.kp sm.kp) .nil))⟩;rw [Nat.zero_add];exact .int _
   ·exact⟨ys,(TpK.kp k h1).sq,by rw [zdh]at ei; rw [h2.len]; exact ei.symm⟩
 ·cases e
abbrev MG:=D->En->Option En
def zAw(pn:List Nat)(mg:MG):Prop:=∀ d ρ ρ',mg d ρ=some ρ'->ρ'.length=ρ.length/\∀ i∈pn,ρ'[i]?=ρ[i]?
def zzb(pn:List Nat)(mg:List D->En->Option En):Prop:=∀ ds ρ ρ',mg ds ρ=some ρ'->ρ'.length=ρ.length/\∀ i∈pn,ρ'[i]?=ρ[i]?
structure VGt (K:qc) (pn:List Nat) (g:TG) (mg:MG):Prop where
 run:∀ (σ₀:St) (A:Addr->Prop) (H₀ H₁:Hp) (ρ:En) (σ:St) (H:Hp) (v:V) (d:D) (ρ':En) (Q:St->Hp->Prop),Sn K pn σ₀ A H₀ H₁ ρ σ H->DF K H v d->mg d ρ=some ρ'->(∀ σ',Sn K pn σ₀ A H₀ H₁ ρ' σ' H->Q σ' H)->g v σ H Q
 ok:zAw pn mg
structure VGs (K:qc) (pn:List Nat) (g:TGs) (mg:List D->En->Option En):Prop where
 run:∀ (σ₀:St) (A:Addr->Prop) (H₀ H₁:Hp) (ρ:En) (σ:St) (H:Hp) (vs:List V) (ds:List D) (ρ':En) (Q:St->Hp->Prop),Sn K pn σ₀ A H₀ H₁ ρ σ H->DFs K H vs ds->mg ds ρ=some ρ'->(∀ σ',Sn K pn σ₀ A H₀ H₁ ρ' σ' H->Q σ' H)->g vs σ H Q
 ok:zzb pn mg
def zy(i:Nat):MG:=fun d ρ=>some (ρ.set i (some (.d d)))
theorem zw{i:Nat}(hi:i∉pn:=by decide):VGt K pn (zcX i) (zy i) where
 run:=by
  intro σ₀ A H₀ H₁ ρ σ H v d ρ' Q s h e q;cases e;exact q _ (s.set hi (u:=.d d) h fun o=>by cases o)
 ok:=fun d ρ ρ' e=>by
  cases e;exact⟨List.length_set,fun j hj=>qB (by rintro rfl; exact hi hj)⟩
def zbz:List D->En->Option En:=fun ds ρ=>match ds with | []=>some ρ | _=>none
def zQ(g:MG)(gs:List D->En->Option En):List D->En->Option En:=fun ds ρ=>match ds with
 | d::ds=>(g d ρ).bind fun ρ1=>gs ds ρ1
 | []=>none
theorem zbe:VGs K pn zs4 zbz where
 run:=by
  intro σ₀ A H₀ H₁ ρ σ H vs ds ρ' Q s h e q;cases h with
  | nil=>cases e; exact⟨rfl,q σ s⟩
  | cons=>cases e
 ok:=fun ds ρ ρ' e=>by
  cases ds with
  | nil=>cases e; exact⟨rfl,fun _ _=>rfl⟩
  | cons=>cases e
theorem zM{g:TG}{gs:TGs}{mg:MG}{mgs:List D->En->Option En}(h1:VGt K pn g mg)(h2:VGs K pn gs mgs):VGs K pn (zj9 g gs) (zQ mg mgs) where
 run:=by
  intro σ₀ A H₀ H₁ ρ σ H vs ds ρ' Q s h e q;cases h with
  | nil=>cases e
  | @cons v d vs ds hv t =>
   obtain⟨ρ1,e1,e⟩:=zb (show(mg d ρ).bind (fun ρ1=>mgs ds ρ1)=some ρ' from e);exact⟨v,vs,rfl,h1.run σ₀ A H₀ H₁ ρ σ H v d ρ1 _ s hv e1 fun σ1 s1=>h2.run σ₀ A H₀ H₁ ρ1 σ1 H vs ds ρ' Q s1 t e q⟩
 ok:=fun ds ρ ρ' e=>by
  cases ds with
  | nil=>cases e
  | cons d ds =>
   obtain⟨ρ1,e1,e⟩:=zb (show(mg d ρ).bind (fun ρ1=>mgs ds ρ1)=some ρ' from e);obtain⟨a1,a2⟩:=h1.ok d ρ ρ1 e1;obtain⟨b1,b2⟩:=h2.ok ds ρ1 ρ' e;exact⟨b1.trans a1,fun i hi=>(b2 i hi).trans (a2 i hi)⟩
def zbj(n:Nat)(gs:List D->En->Option En):MG:=fun d ρ=>match d with
 | .tuple ds=>if ds.length=n then gs ds ρ else none
 | _=>none
theorem zbf{n:Nat}{gs:TGs}{mgs:List D->En->Option En}(h:VGs K pn gs mgs):VGt K pn (zs6 K n gs) (zbj n mgs) where
 run:=by
  intro σ₀ A H₀ H₁ ρ σ H v d ρ' Q s hd e q;unfold zbj at e;split at e
  ·split at e
   ·rename_i ds hl
    obtain⟨a,xs,rfl,h1,h2⟩:=DF.tup_inv hd;exact⟨a,xs,rfl,(TpK.sq h1),by rw [h2.len]; exact hl,h.run σ₀ A H₀ H₁ ρ σ H xs ds ρ' Q s h2 e q⟩
   ·cases e
  ·cases e
 ok:=fun d ρ ρ' e=>by
  unfold zbj at e;split at e
  ·split at e
   ·exact h.ok _ _ _ e
   ·cases e
  ·cases e
def zoV(me:ME)(mg:MG):MS:=fun ρ=>(me ρ).bind fun p=>(p.1.get p.2).bind fun u=>match u with
 | .d d=>(mg d p.2).bind fun ρ'=>some (.nx ρ')
 | _=>none
theorem zvd{te:TE}{g:TG}{me:ME}{mg:MG}(h:VE K te me)(hg:VGt K pn g mg):VS K pn EX (ziV te g) (zoV me mg):=by
 intro σ₀ A H₀ H₁ ρ σ H f D s e k;obtain⟨⟨a,ρ1⟩,e1,e⟩:=zb e;obtain⟨u,eu,e⟩:=zb e;refine h ρ σ H a ρ1 _ s.rs e1 fun v H1 g1 k1=>?_;have p:=k1.now s.rs g1 eu;dsimp only at e;split at e
 ·obtain⟨ρ2,e2,e3⟩:=zb e
  cases e3;exact hg.run σ₀ A H₀ H₁ ρ1 σ H1 v _ ρ2 _ (s.go g1) p e2 fun σ' s'=>k σ' H1 s'
 ·cases e
def zoW(i j:Nat)(ma:MA):MS:=fun ρ=>(ma ρ).bind fun p=>(zax p.2 p.1).bind fun us=>match us with
 | [.d x,.d y]=>some (.nx ((p.2.set i (some (.d x))).set j (some (.d y))))
 | _=>none
theorem zqj{i j:Nat}{ta:TA}{ma:MA}(h:VAs K ta ma)(hi:i∉pn:=by decide)(hj:j∉pn:=by decide):VS K pn EX (zwF i j ta) (zoW i j ma):=by
 intro σ₀ A H₀ H₁ ρ σ H f D s e k;obtain⟨⟨as,ρ1⟩,e1,e⟩:=zb e;obtain⟨us,eu,e⟩:=zb e;refine h ρ σ H as ρ1 _ s.rs e1 fun vs H1 g1 s1=>?_;have rp:=s1.rpl s.rs g1 eu;dsimp only at e;split at e
 ·rename_i x y
  cases e;cases rp with
  | @cons v _ vs _ h1 t =>
   cases t with
   | @cons w _ _ _ h2 t =>
    cases t;have sn:=(s.go g1).set hi (u:=.d x) h1 fun o=>by cases o
    exact⟨v,w,rfl,k _ _ (sn.set hj (u:=.d y) h2 fun o=>by cases o)⟩
 ·cases e
def zbP(mg:MG)(mb:MS):List D->En->Option Fl
 | [],ρ=>some (.nx ρ)
 | d::ds,ρ=>(mg d ρ).bind fun ρ1=>(mb ρ1).bind fun f=>match f with
  | .nx ρ2=>zbP mg mb ds ρ2
  | .ct ρ2=>zbP mg mb ds ρ2
  | .bk ρ2=>some (.nx ρ2)
  | .rt u ρ2=>some (.rt u ρ2)
  | .ex x ρ2=>some (.ex x ρ2)
def zdi(mi:MI)(mg:MG)(mb:MS):MS:=fun ρ=>(mi ρ).bind fun p=>zbP mg mb p.1 p.2
theorem zb2{wi:TI}{g:TG}{tb:TS}{mi:MI}{mg:MG}{mb:MS}(hi:VI K wi mi)(hg:VGt K pn g mg)(hb:VS K pn EX tb mb):VS K pn EX (zwJ wi g tb) (zdi mi mg mb):=by
 intro σ₀ A H₀ H₁ ρ σ H f D s e k;obtain⟨⟨ds,ρ1⟩,e1,e⟩:=zb e;refine hi ρ σ H ds ρ1 _ s.rs e1 fun J H1 g1 run=>?_;have s1:=(s.go g1).at;have kp01:Kp H₁ H1:=(s.go g1).kp;refine⟨fun i m σ' H'=>m=ds.length - i/\i<=ds.length/\∃ ρ',Sn K pn σ₀ A H₀ H1 ρ' σ' H'/\zbP mg mb (ds.drop i) ρ'=some f,⟨ds.length,by simp,Nat.zero_le _,ρ1,s1,e⟩,?_⟩;rintro i m σ' H' ⟨rfl,hi',ρ',s',el⟩
 by_cases hlt:i < ds.length
 ·rw [List.drop_eq_getElem_cons hlt]at el
  obtain⟨ρ2,e2,el⟩:=zb (show(mg ds[i] ρ').bind _=some f from el);obtain⟨fb,eb,el⟩:=zb el;obtain⟨go,yl⟩:=(run H' s'.kp i).1 ds[i] (ql hlt);refine .inr ⟨go,fun σ3 H3=>∃ ρ3,Sn K pn σ₀ A H₀ H1 ρ3 σ3 H3/\zbP mg mb (ds.drop (i+1)) ρ3=some f,fun σ3 H3 ⟨ρ3,s3,e3⟩=>⟨ds.length - (i+1),by omega,rfl,hlt,ρ3,s3,e3⟩,fun x H2 y=>?_⟩;obtain⟨sm,dx⟩:=yl x H2 y;have s2:=s'.go (Go.grow s'.rs sm);refine hg.run σ₀ A H₀ H1 ρ' σ' H2 x ds[i] ρ2 _ s2 dx e2 fun σ3 s3=>?_;refine hb σ₀ A H₀ H1 ρ2 σ3 H2 fb _ s3 eb ?_;cases fb with
  | nx ρ4=>exact fun σ4 H4 s4=>⟨ρ4,s4,el⟩
  | ct ρ4=>exact fun σ4 H4 s4=>⟨ρ4,s4,el⟩
  | bk ρ4=>cases el; exact fun σ4 H4 s4=>k σ4 H4 (s4.re kp01)
  | rt u ρ4=>cases el; exact fun v σ4 H4 s4 p n=>k v σ4 H4 (s4.re kp01) p n
  | ex x ρ4=>cases el; exact fun a σ4 H4 s4 p n=>k a σ4 H4 (s4.re kp01) p n
 ·have ei:i=ds.length:=by omega
  subst ei;rw [List.drop_length]at el;cases el;exact .inl ⟨(run H' s'.kp _).2 rfl,k σ' H' (s'.re kp01)⟩
def zaQ(mt:MT)(mb:MS):Nat->En->Option Fl
 | 0,_=>none
 | n+1,ρ=>(mt ρ).bind fun p=>if p.1=true then(mb p.2).bind fun f=>match f with
  | .nx ρ2=>zaQ mt mb n ρ2
  | .ct ρ2=>zaQ mt mb n ρ2
  | .bk ρ2=>some (.nx ρ2)
  | .rt u ρ2=>some (.rt u ρ2)
  | .ex x ρ2=>some (.ex x ρ2)else some (.nx p.2)
open Classical in
noncomputable def zeR(mt:MT)(mb:MS):MS:=fun ρ=>if h:∃ n,(zaQ mt mb n ρ).isSome=true then zaQ mt mb h.choose ρ else none
theorem zni{tt:TT}{tb:TS}{mt:MT}{mb:MS}(ht:VT K tt mt)(hb:VS K pn EX tb mb):VS K pn EX (zlE tt tb) (zeR mt mb):=by
 intro σ₀ A H₀ H₁ ρ σ H f D s e k;unfold zeR at e;split at e
 ·rename_i hn
  generalize hn.choose=n at e;refine⟨fun m σ' H'=>∃ ρ',Sn K pn σ₀ A H₀ H₁ ρ' σ' H'/\zaQ mt mb m ρ'=some f,⟨n,ρ,s,e⟩,?_⟩;rintro m σ' H' ⟨ρ',s',el⟩;cases m with
  | zero=>cases el
  | succ m =>
   obtain⟨⟨b,ρ1⟩,e1,el⟩:=zb (show(mt ρ').bind _=some f from el);refine ht ρ' σ' H' b ρ1 _ s'.rs e1 fun H1 g1=>?_;dsimp only at el;split at el
   ·rename_i hc
    rw [if_pos hc];obtain⟨fb,eb,el⟩:=zb el;refine⟨fun σ2 H2=>∃ ρ2,Sn K pn σ₀ A H₀ H₁ ρ2 σ2 H2/\zaQ mt mb m ρ2=some f,fun σ2 H2 ⟨ρ2,s2,e2⟩=>⟨m,Nat.lt_succ_self m,ρ2,s2,e2⟩,?_⟩;refine hb σ₀ A H₀ H₁ ρ1 σ' H1 fb _ (s'.go g1) eb ?_;cases fb with
    | nx ρ4=>exact fun σ4 H4 s4=>⟨ρ4,s4,el⟩
    | ct ρ4=>exact fun σ4 H4 s4=>⟨ρ4,s4,el⟩
    | bk ρ4=>cases el; exact fun σ4 H4 s4=>k σ4 H4 s4
    | rt u ρ4=>cases el; exact fun v σ4 H4 s4 p n=>k v σ4 H4 s4 p n
    | ex x ρ4=>cases el; exact fun a σ4 H4 s4 p n=>k a σ4 H4 s4 p n
   ·rename_i hc
    rw [if_neg hc];cases el;exact k σ' H1 (s'.go g1)
 ·cases e
theorem zcu{mt:MT}{mb:MS}:∀ {n:Nat} {ρ:En} {f:Fl},zaQ mt mb n ρ=some f->∀ k,zaQ mt mb (n+k) ρ=some f
 | 0,_,_,e,_=>by cases e
 | n+1,ρ,f,e,k=>by
  rw [show n+1+k=(n+k)+1 by omega];obtain⟨⟨b,ρ1⟩,e1,e⟩:=zb (show(mt ρ).bind _=some f from e);show(mt ρ).bind _=some f;rw [e1];show(if b=true then _ else _)=_;dsimp only at e;split at e
  ·rename_i hc
   rw [if_pos hc];obtain⟨fb,eb,e⟩:=zb e;rw [eb];cases fb with
   | nx ρ2=>exact zcu (n:=n) e k
   | ct ρ2=>exact zcu (n:=n) e k
   | bk ρ2=>exact e
   | rt u ρ2=>exact e
   | ex x ρ2=>exact e
  ·rename_i hc
   rw [if_neg hc];exact e
theorem zqk{mt:MT}{mb:MS}{n:Nat}{ρ:En}{f:Fl}(e:zaQ mt mb n ρ=some f):zeR mt mb ρ=some f:=by
 have h:∃ n,(zaQ mt mb n ρ).isSome=true:=⟨n,by rw [e]; rfl⟩;unfold zeR;rw [dif_pos h];obtain⟨f',ef'⟩:=Option.isSome_iff_exists.mp h.choose_spec;rw [ef'];have a:=zcu e h.choose;have b:=zcu ef' n;rw [Nat.add_comm,b]at a;exact a
end
section
variable {K:qc} {pn:List Nat} {σ₀:St} {A:Addr->Prop} {H₀ H₁ H₂:Hp} {ρ ρ':En} {σ:St} {H H':Hp}
def cEn(nt:Nat)(js:List Nat)(ρ:En):En:=List.replicate nt none++js.map fun j=>ρ.getD j none
def reset(nt:Nat)(ρ:En):En:=List.replicate nt none++ρ.drop nt
def back:List Nat->List (Option U)->En->En
 | j::js,some u::us,ρ=>back js us (ρ.set j (some u))
 | _::js,none::us,ρ=>back js us ρ
 | _,_,ρ=>ρ
def lcM(nt:Nat)(mg:MG)(mt:MT)(me:ME):List D->En->List D->Option (List D×En)
 | [],ρ,ys=>some (ys,ρ)
 | d::ds,ρ,ys=>if ys.length < sizeLine then(mg d ρ).bind fun ρ1=>(mt ρ1).bind fun b=>if b.1=true then(me b.2).bind fun p=>(p.1.get p.2).bind fun u=>(match u with
   | .d y=>lcM nt mg mt me ds (reset nt p.2) (ys++[y])
   | _=>none)else lcM nt mg mt me ds (reset nt b.2) ys else none
def mLC(mi:MI)(nt:Nat)(js:List Nat)(mg:MG)(mt:MT)(me:ME):ME:=fun ρ=>(mi ρ).bind fun p=>(lcM nt mg mt me p.1 (cEn nt js p.2) []).bind fun q=>some (.u (.l q.1),back js (q.2.drop nt) p.2)
def zdG(nt n:Nat):List Nat:=(List.range n).map (nt+·)
theorem zcv{nt n i:Nat}:i∈zdG nt n↔nt<=i/\i < nt+n:=by
 unfold zdG;rw [List.mem_map];constructor
 ·rintro⟨a,ha,rfl⟩
  have:=List.mem_range.mp ha;omega
 ·intro h
  exact⟨i - nt,List.mem_range.mpr (by omega),by omega⟩
theorem zf1{nt:Nat}{js:List Nat}{i:Nat}{u:U}(h:(cEn nt js ρ)[i]?=some (some u)):∃ p j,i=nt+p/\js[p]?=some j/\ρ[j]?=some (some u):=by
 unfold cEn at h
 by_cases hi:i < nt
 ·rw [List.getElem?_append_left (by simpa using hi),List.getElem?_replicate,if_pos hi]at h
  cases h
 ·rw [List.getElem?_append_right (by simp; omega),List.length_replicate,List.getElem?_map]at h
  obtain⟨j,ej,e⟩:=qq.mp h;refine⟨i - nt,j,by omega,ej,?_⟩;rw [qA]at e;cases q:ρ[j]? with
  | none=>rw [q]at e; cases e
  | some o=>rw [q]at e; exact congrArg some e
theorem zql{nt:Nat}{js:List Nat}{p j:Nat}(h:js[p]?=some j):(c0 nt js σ)[nt+p]?=some (σ.getD j none):=by
 unfold c0;rw [List.getElem?_append_right (by simp),List.length_replicate,Nat.add_sub_cancel_left,List.getElem?_map,h];rfl
theorem zl9{nt:Nat}{js:List Nat}:(c0 nt js σ).length=nt+js.length:=by unfold c0; simp
theorem zjp{nt:Nat}{js:List Nat}:(cEn nt js ρ).length=nt+js.length:=by unfold cEn; simp
def zhU(ρ:En)(σ:St)(js:List Nat)(a:Addr):Prop:=∃ (p j:Nat) (u:U),js[p]?=some j/\ρ[j]?=some (some u)/\u.own=true/\σ[j]?=some (some (.ref a))
theorem znj{nt:Nat}{js:List Nat}(r:Rs K ρ σ H)(nd:js.Nodup):Sn K (zdG nt js.length) (c0 nt js σ) (zhU ρ σ js) H H (cEn nt js ρ) (c0 nt js σ) H:=by
 have sat:∀ {p j:Nat} {v:V},js[p]?=some j->σ[j]?=some (some v)->(c0 nt js σ)[nt+p]?=some (some v):=fun{p j v} hp hv=>by
  rw [zql hp,qA,hv];rfl
 refine⟨⟨by rw [zjp,zl9],fun i u e=>?_,fun i k u w ei ek ou ow es=>?_⟩,fun _ _ h _=>h,fun i u a e o es=>?_,fun _ _=>rfl,fun _ h=>h,Kp.refl H⟩
 ·obtain⟨p,j,rfl,hj,hr⟩:=zf1 e
  obtain⟨v,ev,q⟩:=r.rep j u hr;exact⟨v,sat hj ev,q⟩
 ·obtain⟨p,j,rfl,hj,hr⟩:=zf1 ei
  obtain⟨p',j',rfl,hj',hr'⟩:=zf1 ek;obtain⟨v,ev,_⟩:=r.rep j u hr;obtain⟨v',ev',_⟩:=r.rep j' w hr';rw [sat hj ev,sat hj' ev']at es;have:j=j':=r.apart j j' u w hr hr' ou ow (by rw [ev,ev']; exact es);subst this;have l1:=(qk.mp hj);have l2:=(qk.mp hj');obtain⟨h1,e1⟩:=l1;obtain⟨h2,e2⟩:=l2;have:=(List.getElem_inj nd).mp (e1.trans e2.symm);omega
 ·obtain⟨p,j,rfl,hj,hr⟩:=zf1 e
  obtain⟨v,ev,_⟩:=r.rep j u hr;rw [sat hj ev]at es;cases es;exact .inl ⟨zcv.mpr ⟨by omega,by have:=(qk.mp hj).1; omega⟩,p,j,u,hj,hr,o,ev⟩
theorem Sn.reset{nt n:Nat}{σc:St}{ρ2:En}{σ2:St}(s:Sn K (zdG nt n) σc A H₀ H₁ ρ2 σ2 H)(l1:ρ2.length=nt+n)(l2:σc.length=nt+n):Sn K (zdG nt n) σc A H₀ H₁ (L2.reset nt ρ2) σc H:=by
 have bk:∀ (i:Nat) (u:U),(L2.reset nt ρ2)[i]?=some (some u)->nt<=i/\i < nt+n/\ρ2[i]?=some (some u):=fun i u e=>by
  unfold L2.reset at e
  by_cases hi:i < nt
  ·rw [List.getElem?_append_left (by simpa using hi),List.getElem?_replicate,if_pos hi]at e
   cases e
  ·rw [List.getElem?_append_right (by simp; omega),List.length_replicate,List.getElem?_drop,show nt+(i - nt)=i by omega]at e
   have:=(qk.mp e).1;exact⟨by omega,by omega,e⟩
 have pin:∀ i,nt<=i->i < nt+n->σc[i]?=σ2[i]?:=fun i h1 h2=>(s.pin i (zcv.mpr ⟨h1,h2⟩)).symm;have ll:(L2.reset nt ρ2).length=nt+n:=by unfold L2.reset; simp; omega
 refine⟨⟨by omega,fun i u e=>?_,fun i j u w ei ej ou ow es=>?_⟩,s.fr,fun i u a e o es=>?_,fun _ _=>rfl,s.dm,s.kp⟩
 ·obtain⟨h1,h2,e'⟩:=bk i u e
  rw [pin i h1 h2];exact s.rs.rep i u e'
 ·obtain⟨h1,h2,ei'⟩:=bk i u ei
  obtain⟨h3,h4,ej'⟩:=bk j w ej;rw [pin i h1 h2,pin j h3 h4]at es;exact s.rs.apart i j u w ei' ej' ou ow es
 ·obtain⟨h1,h2,e'⟩:=bk i u e
  rw [pin i h1 h2]at es;exact s.ow i u a e' o es
theorem zgz:∀ {js:List Nat} {us:List (Option U)} {ρ:En} {j:Nat} {w:U},(back js us ρ)[j]?=some (some w)->(∃ p:Nat,js[p]?=some j/\us[p]?=some (some w))\/(ρ[j]?=some (some w)/\∀ p:Nat,js[p]?=some j->∀ x,us[p]?≠some (some x))
 | [],us,ρ,j,w,e=>.inr ⟨by cases us<;>exact e,fun p z=>by simp at z⟩
 | k::js,[],ρ,j,w,e=>.inr ⟨e,fun p z x=>by simp⟩
 | k::js,none::us,ρ,j,w,e=>by
  rcases zgz (js:=js) (us:=us) (ρ:=ρ) (show(back js us ρ)[j]?=some (some w) from e)with ⟨p,h1,h2⟩ | ⟨h1,h2⟩
  ·exact .inl ⟨p+1,h1,h2⟩
  ·refine .inr ⟨h1,fun p z x=>?_⟩
   cases p with
   | zero=>intro q; cases q
   | succ p=>exact h2 p z x
 | k::js,some u::us,ρ,j,w,e=>by
  rcases zgz (js:=js) (us:=us) (ρ:=ρ.set k (some u)) (show(back js us (ρ.set k (some u)))[j]?=some (some w) from e)with ⟨p,h1,h2⟩ | ⟨h1,h2⟩
  ·exact .inl ⟨p+1,h1,h2⟩
  ·by_cases hk:k=j
   ·subst hk
    have hl:k < (ρ.set k (some u)).length:=(qk.mp h1).1;rw [List.length_set]at hl;rw [List.getElem?_set_self hl]at h1;exact .inl ⟨0,rfl,by cases h1; rfl⟩
   ·rw [qB hk]at h1
    refine .inr ⟨h1,fun p z x=>?_⟩;cases p with
    | zero=>cases(show some k=some j from z); exact absurd rfl hk
    | succ p=>exact h2 p z x
theorem zfh:∀ (js:List Nat) (us:List (Option U)) (ρ:En),(back js us ρ).length=ρ.length
 | [],us,ρ=>by cases us<;>rfl
 | _::js,[],ρ=>rfl
 | _::js,none::us,ρ=>zfh js us ρ
 | j::js,some u::us,ρ=>by show(back js us (ρ.set j (some u))).length=_; rw [zfh]; exact List.length_set
theorem zd8:∀ {js:List Nat} {us:List (Option U)} {ρ:En} {j:Nat} {w:U},ρ[j]?=some (some w)->∃ w',(back js us ρ)[j]?=some (some w')
 | [],us,ρ,j,w,e=>⟨w,by cases us<;>exact e⟩
 | _::js,[],ρ,j,w,e=>⟨w,e⟩
 | _::js,none::us,ρ,j,w,e=>zd8 (js:=js) (us:=us) e
 | k::js,some u::us,ρ,j,w,e=>by
  by_cases hk:k=j
  ·subst hk
   exact zd8 (js:=js) (us:=us) (w:=u) (List.getElem?_set_self (qk.mp e).1)
  ·exact zd8 (js:=js) (us:=us) (w:=w) (by rw [qB hk]; exact e)
theorem Sn.comp_back{nt:Nat}{js:List Nat}{ρ2:En}(r:Rs K ρ σ H)(s:Sn K (zdG nt js.length) (c0 nt js σ) (zhU ρ σ js) H H₁ ρ2 (c0 nt js σ) H')(l:ρ2.length=nt+js.length)(sh:Shr (cEn nt js ρ) ρ2) :
  Go K ρ σ H (back js (ρ2.drop nt) ρ) H':=by
 have usAt:∀ (p:Nat) (w:U),(ρ2.drop nt)[p]?=some (some w)->ρ2[nt+p]?=some (some w):=fun p w e=>by rw [List.getElem?_drop]at e; exact e
 have kp:Kp H H':=by
  refine⟨fun b xs h=>s.fr b _ h fun⟨p,j,u,hj,hr,ou,es⟩=>?_,fun b ob u h=>s.fr b _ h fun⟨p,j,u,hj,hr,ou,es⟩=>?_⟩
  ·obtain⟨c,q,m⟩:=r.ow ⟨j,u,hr,ou,es⟩
   rw [h]at q; cases q; exact m
  ·obtain⟨c,q,m⟩:=r.ow ⟨j,u,hr,ou,es⟩
   rw [h]at q; cases q; exact m
 have orig:∀ (p j:Nat) (w:U),js[p]?=some j->(ρ2.drop nt)[p]?=some (some w)->w.own=true->∃ x,ρ[j]?=some (some x)/\x.own=true:=fun p j w hj e o=>by
  obtain⟨x,ex,ox⟩:=sh.own (nt+p) w (usAt p w e) o;obtain⟨p',j',ep,hj',hr⟩:=zf1 ex;have:p'=p:=by omega
  subst this;rw [hj]at hj';cases hj';exact⟨x,hr,ox⟩
 have own:∀ (j:Nat) (w:U),(back js (ρ2.drop nt) ρ)[j]?=some (some w)->w.own=true->∃ x,ρ[j]?=some (some x)/\x.own=true:=fun j w e o=>by
  rcases zgz e with ⟨p,hj,hu⟩ | ⟨h1,_⟩
  ·exact orig p j w hj hu o
  ·exact⟨w,h1,o⟩
 refine⟨⟨by rw [zfh]; exact r.len,fun j w e=>?_,fun i j u w ei ej ou ow es=>?_⟩,fun a o h n=>s.fr a o h fun⟨p,j,u,hj,hr,ou,es⟩=>n ⟨j,u,hr,ou,es⟩,⟨zfh _ _ _,own,fun j w e=>zd8 e⟩,s.dm⟩
 ·rcases zgz e with ⟨p,hj,hu⟩ | ⟨h1,h2⟩
  ·obtain⟨v,ev,q⟩:=s.rs.rep (nt+p) w (usAt p w hu)
   rw [zql hj]at ev;refine⟨v,?_,q⟩;rw [qA]at ev;cases z:σ[j]? with
   | none=>rw [z]at ev; cases ev
   | some o=>rw [z]at ev; exact congrArg some (qw ev)
  ·obtain⟨v,ev,q⟩:=r.rep j w h1
   refine⟨v,ev,q.kp kp fun ow a c ea hc=>s.fr a c hc fun⟨p,j',u,hj,hr,ou,es⟩=>?_⟩;subst ea;have:j'=j:=r.apart j' j u w hr h1 ou ow (by rw [es,ev]);subst this;have e1:(cEn nt js ρ)[nt+p]?=some (some u):=by
    unfold cEn;rw [List.getElem?_append_right (by simp),List.length_replicate,Nat.add_sub_cancel_left,List.getElem?_map,hj];show some (ρ.getD j' none)=_;rw [qA,hr];rfl
   obtain⟨w',ew'⟩:=sh.live _ _ e1;exact h2 p hj w' (by rw [List.getElem?_drop]; exact ew')
 ·obtain⟨x,ex,ox⟩:=own i u ei ou
  obtain⟨y,ey,oy⟩:=own j w ej ow;exact r.apart i j x y ex ey ox oy es
theorem Shr.reset'{nt n:Nat}{ρc ρ1:En}(l:ρc.length=nt+n)(h0:∀ i,i < nt->ρc[i]?=some none)(l1:ρ1.length=nt+n)(own:∀ (i:Nat) (u:U),nt<=i->ρ1[i]?=some (some u)->u.own=true->∃ w,ρc[i]?=some (some w)/\w.own=true)(live:∀ (i:Nat) (u:U),nt<=i->ρc[i]?=some (some u)->∃ w,ρ1[i]?=some (some w)):Shr ρc (L2.reset nt ρ1):=by
 have at':∀ i,nt<=i->(L2.reset nt ρ1)[i]?=ρ1[i]?:=fun i hi=>by
  unfold L2.reset;rw [List.getElem?_append_right (by simp; omega),List.length_replicate,List.getElem?_drop,show nt+(i - nt)=i by omega]
 have lo:∀ i,i < nt->(L2.reset nt ρ1)[i]?=some none:=fun i hi=>by
  unfold L2.reset;rw [List.getElem?_append_left (by simpa using hi),List.getElem?_replicate,if_pos hi]
 refine⟨by unfold L2.reset; simp; omega,fun i u e o=>?_,fun i u e=>?_⟩
 ·by_cases hi:i < nt
  ·rw [lo i hi]at e; cases e
  ·rw [at' i (by omega)]at e
   exact own i u (by omega) e o
 ·by_cases hi:i < nt
  ·rw [h0 i hi]at e; cases e
  ·rw [at' i (by omega)]
   exact live i u (by omega) e
theorem zfi{nt:Nat}{ρ1:En}{i:Nat}(h:i < nt):(L2.reset nt ρ1)[i]?=some none:=by
 unfold L2.reset;rw [List.getElem?_append_left (by simpa using h),List.getElem?_replicate,if_pos h]
theorem zqm{nt:Nat}{js:List Nat}{i:Nat}(h:i < nt):(cEn nt js ρ)[i]?=some none:=by
 unfold cEn;rw [List.getElem?_append_left (by simpa using h),List.getElem?_replicate,if_pos h]
theorem zfj{wi:TI}{nt:Nat}{js:List Nat}{g:TG}{tt:TT}{te:TE}{mi:MI}{mg:MG}{mt:MT}{me:ME}(hi:VI K wi mi)(hg:VGt K (zdG nt js.length) g mg)(ht:VT K tt mt)(he:VE K te me)(nd:js.Nodup:=by decide) :
  VE K (tLC wi nt js g tt te) (mLC mi nt js mg mt me):=by
 intro ρ σ H a ρ' Q r e q;obtain⟨⟨ds,ρ1⟩,e1,e⟩:=zb e;obtain⟨⟨zs,ρz⟩,e2,e⟩:=zb e;cases e;refine hi ρ σ H ds ρ1 _ r e1 fun J H1 g1 run=>?_;have s1:=znj (nt:=nt) (js:=js) g1.rs nd;refine⟨fun i m ys H'=>m=ds.length - i/\i<=ds.length/\∃ ρc yd,Sn K (zdG nt js.length) (c0 nt js σ) (zhU ρ1 σ js) H1 H1 ρc (c0 nt js σ) H'/\Shr (cEn nt js ρ1) ρc/\(∀ k,k < nt->ρc[k]?=some none)/\DFs K H' ys yd/\lcM nt mg mt me (ds.drop i) ρc yd=some (zs,ρz),
  ⟨ds.length,by simp,Nat.zero_le _,_,[],s1,Shr.refl _,fun k hk=>zqm hk,.nil,e2⟩,?_⟩
 rintro i m ys H' ⟨rfl,hi',ρc,yd,s',sh,lo,dy,el⟩;have lc:ρc.length=nt+js.length:=by rw [sh.len,zjp]
 by_cases hlt:i < ds.length
 ·rw [List.drop_eq_getElem_cons hlt]at el
  unfold lcM at el;split at el
  ·rename_i hz
   obtain⟨ρ2,e3,el⟩:=zb el;obtain⟨⟨b,ρ3⟩,e4,el⟩:=zb el;obtain⟨l2,p2⟩:=hg.ok _ _ _ e3;obtain⟨go,yl⟩:=(run H' s'.kp i).1 ds[i] (ql hlt);refine .inr ⟨go,by rw [dy.len]; exact hz,fun ys' H2=>∃ ρc' yd',Sn K (zdG nt js.length) (c0 nt js σ) (zhU ρ1 σ js) H1 H1 ρc' (c0 nt js σ) H2/\Shr (cEn nt js ρ1) ρc'/\(∀ k,k < nt->ρc'[k]?=some none)/\DFs K H2 ys' yd'/\lcM nt mg mt me (ds.drop (i+1)) ρc' yd'=some (zs,ρz),
    fun ys' H2 ⟨ρc',yd',z⟩=>⟨ds.length - (i+1),by omega,rfl,hlt,ρc',yd',z⟩,fun x H2 y=>?_⟩
   obtain⟨sm,dx⟩:=yl x H2 y;have s2:=s'.go (Go.grow s'.rs sm);refine hg.run _ _ _ _ ρc _ H2 x ds[i] ρ2 _ s2 dx e3 fun σ3 s3=>?_;have toEnd:∀ {ρ4:En} {H4:Hp},Go K ρ2 σ3 H2 ρ4 H4->Sn K (zdG nt js.length) (c0 nt js σ) (zhU ρ1 σ js) H1 H1 (L2.reset nt ρ4) (c0 nt js σ) H4/\Shr (cEn nt js ρ1) (L2.reset nt ρ4):=fun{ρ4 H4} g4=>by
    have l4:ρ4.length=nt+js.length:=by rw [g4.shr.len,l2,lc]
    refine⟨(s3.go g4).reset l4 zl9,sh.trans (Shr.reset' lc lo l4 (fun k u hk ek ou=>?_) fun k u hk ek=>?_)⟩
    ·obtain⟨w,ew,ow⟩:=g4.shr.own k u ek ou
     have lk:k < nt+js.length:=by rw [<-l2.trans lc]; exact(qk.mp ew).1
     rw [p2 k (zcv.mpr ⟨hk,lk⟩)]at ew;exact⟨w,ew,ow⟩
    ·have lk:k < nt+js.length:=by rw [<-lc]; exact(qk.mp ek).1
     rw [<-p2 k (zcv.mpr ⟨hk,lk⟩)]at ek;exact g4.shr.live k u ek
   refine ht ρ2 σ3 H2 b ρ3 _ s3.rs e4 fun H3 g3=>?_;dsimp only at el;split at el
   ·rename_i hb
    rw [if_pos hb];obtain⟨⟨a4,ρ4⟩,e5,el⟩:=zb el;obtain⟨u,e6,el⟩:=zb el;refine he ρ3 σ3 H3 a4 ρ4 _ g3.rs e5 fun v H4 g4 k4=>?_;have pv:=k4.now g3.rs g4 e6;dsimp only at el;split at el
    ·rename_i yv
     obtain⟨sn,sr⟩:=toEnd (g3.trans g4);exact⟨_,_,sn,sr,fun k hk=>zfi hk,((dy.kp sm.kp).kp ((g3.trans g4).kp s3.rs)).snoc pv,el⟩
    ·cases el
   ·rename_i hb
    rw [if_neg hb];obtain⟨sn,sr⟩:=toEnd g3;exact⟨_,_,sn,sr,fun k hk=>zfi hk,(dy.kp sm.kp).kp (g3.kp s3.rs),el⟩
  ·cases el
 ·have ei:i=ds.length:=by omega
  subst ei;rw [List.drop_length]at el;cases el;refine .inl ⟨(run H' s'.kp _).2 rfl,fun Da hD=>?_⟩;have gb:=Sn.comp_back g1.rs s' lc sh;have sm:=zF hD (.lst ys);exact q _ _ ((g1.trans gb).trans (Go.grow gb.rs sm)) ⟨⟨Da,ys,rfl,zt,dy.kp sm.kp⟩,fun _=>⟨Da,rfl,(g1.trans gb).dm _ hD⟩⟩
end
section
variable {EX:EXT} {K:qc} {pn:List Nat} {σ₀:St} {A:Addr->Prop} {H₀ H₁ H₂:Hp} {ρ ρ':En} {σ:St} {H H':Hp}
def zaR(pn:List Nat)(ρ:En):Nat->List U->Option (List U)
 | _,[]=>some []
 | i,u::us=>(if i∈pn then(ρ[i]?).join.bind fun o=>if o.own=true/\u.own=false then none else some o else if u.own=true then none else some u).bind fun o=>(zaR pn ρ (i+1) us).bind fun os=>some (o::os)
def za2(n:Nat)(pn:List Nat)(m:MS):FD:=fun us=>(m (sm us++List.replicate (n - us.length) none)).bind fun f=>match f with
 | .rt u ρ=>(zaR pn ρ 0 us).bind fun os=>some (u,os)
 | .nx ρ=>(zaR pn ρ 0 us).bind fun os=>some (.d .none,os)
 | _=>none
theorem zky:∀ {us os:List U} {i:Nat},zaR pn ρ i us=some os->os.length=us.length
 | [],os,i,e=>by cases e; rfl
 | u::us,os,i,e=>by
  obtain⟨o,e1,e⟩:=zb e;obtain⟨os',e2,e⟩:=zb e;cases e;simp [zky e2]
theorem zfk:∀ {us os:List U} {i p:Nat} {o:U},zaR pn ρ i us=some os->os[p]?=some o->∃ u,us[p]?=some u/\((i+p∈pn/\ρ[i+p]?=some (some o)/\(o.own=true->u.own=true))\/(i+p∉pn/\o=u/\u.own=false))
 | [],os,i,p,o,e,ep=>by cases e; simp at ep
 | u::us,os,i,p,o,e,ep=>by
  obtain⟨o1,e1,e⟩:=zb e;obtain⟨os',e2,e⟩:=zb e;cases e;cases p with
  | zero =>
   cases(show some o1=some o from ep);refine⟨u,rfl,?_⟩;rw [Nat.add_zero];split at e1
   ·rename_i hi
    obtain⟨o2,e3,e1⟩:=zb e1;split at e1
    ·cases e1
    ·rename_i hc
     cases e1;refine .inl ⟨hi,?_,fun oo=>?_⟩
     ·cases q:ρ[i]? with
      | none=>rw [q]at e3; cases e3
      | some x=>rw [q]at e3; cases x with
       | none=>cases e3
       | some y=>cases e3; rfl
     ·cases hu:u.own with
      | true=>rfl
      | false=>exact absurd ⟨oo,hu⟩ hc
   ·rename_i hi
    split at e1
    ·cases e1
    ·rename_i hc
     cases e1;exact .inr ⟨hi,rfl,by simpa using hc⟩
  | succ p =>
   obtain⟨u',eu,h⟩:=zfk (i:=i+1) (p:=p) e2 ep;refine⟨u',eu,?_⟩;rw [show i+(p+1)=i+1+p by omega];exact h
theorem zkz:∀ {us os:List U} {i p:Nat} {u:U},zaR pn ρ i us=some os->us[p]?=some u->u.own=true->i+p∈pn
 | [],os,i,p,u,e,ep,_=>by simp at ep
 | u::us,os,i,p,u',e,ep,o=>by
  obtain⟨o1,e1,e⟩:=zb e;obtain⟨os',e2,e⟩:=zb e;cases p with
  | zero =>
   cases(show some u=some u' from ep);rw [Nat.add_zero];split at e1
   ·assumption
   ·first | cases e1 | (rw [if_pos o]at e1; cases e1)
  | succ p =>
   rw [show i+(p+1)=i+1+p by omega];exact zkz (i:=i+1) (p:=p) e2 ep o
theorem zdH{N:List Str}{vs:List V}{i:Nat}(h:i < vs.length):(zbw N vs)[i]?=(smV vs)[i]?:=by
 unfold zbw smV;rw [List.getElem?_append_left (by simpa using h)]
theorem zqn{N:List Str}{us os:List U}{vs:List V}{ρx:En}(r:Rs K (sm us) (smV vs) H)(hl:us.length<=N.length)(ho:zaR pn ρx 0 us=some os) :
  Sn K pn (zbw N vs) (Ow (sm us) (smV vs)) H H (sm us++List.replicate (N.length - us.length) none) (zbw N vs) H:=by
 have lv:us.length=vs.length:=by have:=r.len; unfold sm smV at this; simpa using this
 have inv:∀ (i:Nat) (u:U),(sm us++List.replicate (N.length - us.length) none)[i]?=some (some u)->i < us.length/\(sm us)[i]?=some (some u):=fun i u e=>by
  by_cases hi:i < us.length
  ·rw [List.getElem?_append_left (by unfold sm; simpa using hi)]at e
   exact⟨hi,e⟩
  ·rw [List.getElem?_append_right (by unfold sm; simp; omega),List.getElem?_replicate]at e
   split at e<;>cases e
 refine⟨⟨?_,fun i u e=>?_,fun i j u w ei ej ou ow es=>?_⟩,fun _ _ h _=>h,fun i u a e o es=>?_,fun _ _=>rfl,fun _ h=>h,Kp.refl H⟩
 ·unfold zbw sm; simp; omega
 ·obtain⟨hi,e'⟩:=inv i u e
  rw [zdH (by omega)];exact r.rep i u e'
 ·obtain⟨hi,ei'⟩:=inv i u ei
  obtain⟨hj,ej'⟩:=inv j w ej;rw [zdH (by omega),zdH (by omega)]at es;exact r.apart i j u w ei' ej' ou ow es
 ·obtain⟨hi,e'⟩:=inv i u e
  rw [zdH (by omega)]at es;have:=zkz ho (zbo.mp e') o;rw [Nat.zero_add]at this;exact .inl ⟨this,i,u,e',o,es⟩
theorem zqo{N:List Str}{us os:List U}{vs:List V}{σ':St}(r:Rs K (sm us) (smV vs) H)(s:Sn K pn (zbw N vs) (Ow (sm us) (smV vs)) H H ρ' σ' H')(ho:zaR pn ρ' 0 us=some os):Go K (sm us) (smV vs) H (sm os) H':=by
 have lv:us.length=vs.length:=by have:=r.len; unfold sm smV at this; simpa using this
 have lo:=zky ho;have bnd:∀ {p:Nat} {o:U},os[p]?=some o->p < vs.length:=fun{p o} e=>by have:=(qk.mp e).1; omega
 have pin:∀ {p:Nat} {o:U},os[p]?=some o->p∈pn->σ'[p]?=(smV vs)[p]?:=fun{p o} e hp=>by rw [s.pin p hp,zdH (bnd e)]
 refine⟨⟨by unfold sm smV; simp; omega,fun p o e=>?_,fun p q o o' ep eq oo oo' es=>?_⟩,s.fr,⟨by unfold sm; simp; omega,fun p o e oo=>?_,fun p u e=>?_⟩,s.dm⟩
 ·have e':=zbo.mp e
  obtain⟨u,eu,h⟩:=zfk ho e';rw [Nat.zero_add]at h;rcases h with ⟨hp,hr,_⟩ | ⟨_,rfl,ou⟩
  ·obtain⟨v,ev,q⟩:=s.rs.rep p o hr
   rw [pin e' hp]at ev;exact⟨v,ev,q⟩
  ·obtain⟨v,ev,q⟩:=r.rep p o (zbo.mpr eu)
   exact⟨v,ev,q.kp s.kp fun oo=>by rw [ou]at oo; cases oo⟩
 ·have ep':=zbo.mp ep
  have eq':=zbo.mp eq;obtain⟨u,eu,h⟩:=zfk ho ep';obtain⟨u',eu',h'⟩:=zfk ho eq';rw [Nat.zero_add]at h h';rcases h with ⟨hp,hr,_⟩ | ⟨_,rfl,ou⟩
  ·rcases h' with ⟨hq,hr',_⟩ | ⟨_,rfl,ou'⟩
   ·rw [<-pin ep' hp,<-pin eq' hq]at es
    exact s.rs.apart p q o o' hr hr' oo oo' es
   ·rw [ou']at oo'; cases oo'
  ·rw [ou]at oo; cases oo
 ·have e':=zbo.mp e
  obtain⟨u,eu,h⟩:=zfk ho e';rcases h with ⟨_,_,h⟩ | ⟨_,rfl,ou⟩
  ·exact⟨u,zbo.mpr eu,h oo⟩
  ·rw [ou]at oo; cases oo
 ·have e':=zbo.mp e
  have hp:p < os.length:=by have:=(qk.mp e').1; omega
  exact⟨os[p],zbo.mpr (ql hp)⟩
theorem Fun.okV{P:Program}{w:World}{mg:Str->Option Value}{base:Heap}{x qual:Str}{st:Stmt}{f:Addr}{fd:FuncData}{N ps:List Str}{k n nn:Nat}{m:MS}(F:Fun K x qual st f fd)(S:FnScope N ps (zS st))(hps:ps.length=n)(hN:N.length=nn)(hnn:n<=nn)
  (hbody:∀ (cdv:Value) (A:Around) (outer:List Env) (s:Shared) (H:Hp) (E:XK),Room k (A.deeper (envOfC qual (zS st) s.heap.objs.size f cdv)) ->
   ∃ t,Wr (PSs (ziX CX0 P w K mg base N qual (zS st) f cdv A outer s H E).nox (zbl st) t)/\VS K pn EX0 t m):FnOk P w K mg base CX0 (k+1) f fd ps (spV K n (za2 nn pn m)):=by
 refine F.okW S (fun vs H Q E h=>?_) (fun cdv A outer s H vs Q E hr h=>?_)
 ·obtain⟨us,r,outs,hl,rs,_⟩:=h
  have:=rs.len;unfold sm smV at this;simp at this;omega
 obtain⟨us,r,outs,hl,rs,ef,q⟩:=h;obtain⟨t,wt,vt⟩:=hbody cdv A outer s H E hr;refine⟨t,wt,?_⟩;obtain⟨fl,em,ef⟩:=zb ef;have go:∀ (ρ':En),zaR pn ρ' 0 us=some outs->Sn K pn (zbw N vs) (Ow (sm us) (smV vs)) H H (sm us++List.replicate (N.length - us.length) none) (zbw N vs) H:=fun ρ' ho=>zqn rs (by omega) ho;subst hN;cases fl with
 | nx ρ' =>
  obtain⟨os,eo,ef⟩:=zb (show(zaR pn ρ' 0 us).bind _=_ from ef);cases ef;refine vt _ _ _ _ _ _ _ (.nx ρ') _ (go ρ' eo) em fun σ' H' s'=>?_;exact q _ _ (zqo rs s' eo) .non Nw.data
 | rt u ρ' =>
  obtain⟨os,eo,ef⟩:=zb (show(zaR pn ρ' 0 us).bind _=_ from ef);cases ef;refine vt _ _ _ _ _ _ _ (.rt r ρ') _ (go ρ' eo) em fun v σ' H' s' p n'=>?_;exact q _ _ (zqo rs s' eo) p n'
 | bk=>cases ef
 | ct=>cases ef
 | ex=>cases ef
end
section
variable {EX:EXT} {K:qc} {pn:List Nat} {ρ ρ':En} {σ:St} {H H':Hp}
def zjq(i:Nat)(me:ME):ME:=fun ρ=>match ρ[i]? with
 | some (some (.l _))=>(me ρ).bind fun p=>(p.1.get p.2).bind fun u=>match u,p.2[i]? with
  | .d x,some (some (.l xs))=>if xs.length < sizeLine then some (.u (.d .none),p.2.set i (some (.l (xs++[x]))))else none
  | _,_=>none
 | _=>none
theorem znk{i:Nat}{te:TE}{me:ME}(h:VE K te me):VE K (tBM K "list" zmX (ze6 i) (zgQ te zoD)) (zjq i me):=by
 intro ρ σ H a ρ' Q r e q;unfold zjq at e;split at e
 ·rename_i xs0 e0
  obtain⟨⟨b,ρ1⟩,e1,e⟩:=zb e;obtain⟨u,eu,e⟩:=zb e;obtain⟨v0,ev0,p0⟩:=r.rep i _ e0;obtain⟨l,us0,rfl,hl0,_⟩:=p0;refine⟨_,ev0,.inl ⟨rfl,us0,SqL.of hl0⟩,?_⟩;refine h ρ σ H b ρ1 _ r e1 fun v H1 g1 k1=>?_;have pv:=k1.now r g1 eu;dsimp only at e;split at e
  ·rename_i x xs ex
   split at e
   ·rename_i hz
    cases e;obtain⟨w,ew,p1⟩:=g1.rs.rep i _ ex;obtain⟨l',us,rfl,hl,ds⟩:=p1;rw [ev0]at ew;cases ew;refine⟨l,us,v,rfl,rfl,hl,by rw [ds.len]; exact hz,q _ _ (g1.trans (Go.own (u':=.l (xs++[x])) g1.rs ex rfl ev0 ?_)) ⟨.non,Nw.data⟩⟩;have kp:=zbV hl trivial (.lst (us++[v]));exact⟨l,_,rfl,zt,(ds.kp kp).snoc (DF.kp kp pv)⟩
   ·cases e
  ·cases e
 ·cases e
theorem ziw{o:Option (Option U)}{u:U}(e:o.join=some u):o=some (some u):=by
 cases o with
 | none=>cases e
 | some x=>cases x with
  | none=>cases e
  | some y=>cases e; rfl
def zbC(i:Nat)(me mi:ME):MS:=fun ρ=>(ρ[i]?).join.bind fun _=>(me ρ).bind fun p=>(mi p.2).bind fun q=>(p.1.get q.2).bind fun u=>(q.1.get q.2).bind fun w=>match u,w,q.2[i]? with
 | .d x,.d (.int k),some (some (.l xs))=>(ixN xs.length k).bind fun j=>some (.nx (q.2.set i (some (.l (xs.set j x)))))
 | _,_,_=>none
theorem zb5{i:Nat}{te ti:TE}{me mi:ME}(h:VE K te me)(hi:VE K ti mi):VS K pn EX (ziV te (zwB (ze6 i) ti zu1)) (zbC i me mi):=by
 intro σ₀ A H₀ H₁ ρ σ H f D s e k;replace e:=zb e;obtain⟨w0,e0,e⟩:=e;replace e:=zb e;obtain⟨⟨a,ρ1⟩,e1,e⟩:=e;replace e:=zb e;obtain⟨⟨b,ρ2⟩,e2,e⟩:=e;replace e:=zb e;obtain⟨u,eu,e⟩:=e;replace e:=zb e;obtain⟨w,ew,e⟩:=e;obtain⟨v0,ev0,_⟩:=s.rs.rep i w0 (ziw e0);refine h ρ σ H a ρ1 _ s.rs e1 fun v H1 g1 k1=>⟨v0,ev0,?_⟩;refine hi ρ1 σ H1 b ρ2 _ g1.rs e2 fun y H2 g2 k2=>?_;have pv:=k1.later s.rs g1 g2 eu;have py:=k2.now g1.rs g2 ew;dsimp only at e;split at e
 ·rename_i x n xs ex
  replace e:=zb e;obtain⟨j,ej,e⟩:=e;cases e;obtain⟨w',ew',p1⟩:=g2.rs.rep i _ ex;obtain⟨l,us,rfl,hl,ds⟩:=p1;rw [ev0]at ew';cases ew';refine⟨l,us,n,j,rfl,DF.int_inv py,hl,by rw [ds.len]; exact ej,k _ _ ((s.go (g1.trans g2)).go (Go.own (u':=.l (xs.set j x)) g2.rs ex rfl ev0 ?_))⟩;have kp:=zbV hl trivial (.lst (us.set j v));exact⟨l,_,rfl,zt,(ds.kp kp).set (DF.kp kp pv) j⟩
 ·cases e
def zjr:List D->Option (List Key)
 | []=>some []
 | .int i::ds=>(zjr ds).bind fun ks=>some (.inl i::ks)
 | .str x::ds=>(zjr ds).bind fun ks=>some (.inr x::ks)
 | _::_=>none
def zae:D->Option (List Key)
 | .tuple ds=>zjr ds
 | _=>none
def zma:D->Option Key
 | .int i=>some (.inl i)
 | .str x=>some (.inr x)
 | _=>none
theorem zjs:∀ ks:List Key,zjr (ks.map k1D)=some ks
 | []=>rfl
 | .inl i::ks=>by show(zjr (ks.map k1D)).bind _=_; rw [zjs ks]; rfl
 | .inr x::ks=>by show(zjr (ks.map k1D)).bind _=_; rw [zjs ks]; rfl
theorem zfl(ks:List Key):zae (kTD ks)=some ks:=zjs ks
theorem zmb:∀ {ds:List D} {ks:List Key} {xs:List V},DFs K H xs ds->zjr ds=some ks->xs=ks.map kV
 | [],ks,xs,h,e=>by cases e; cases h; rfl
 | d::ds,ks,xs,h,e=>by
  cases h with
  | cons h1 t =>
   cases d with
   | int i =>
    obtain⟨ks',e1,e⟩:=zb (show(zjr ds).bind (fun ks=>some (Sum.inl i::ks))=some ks from e);cases e;rw [zmb t e1,DF.int_inv h1];rfl
   | str x =>
    obtain⟨ks',e1,e⟩:=zb (show(zjr ds).bind (fun ks=>some (Sum.inr x::ks))=some ks from e);cases e;rw [zmb t e1,DF.str_inv h1];rfl
   | _=>cases e
theorem zdj{d:D}{ks:List Key}{v:V}(h:DF K H v d)(e:zae d=some ks):∃ b,v=.ref b/\TpK K H b (ks.map kV):=by
 cases d with
 | tuple ds =>
  obtain⟨b,xs,rfl,h1,h2⟩:=DF.tup_inv h;exact⟨b,rfl,by rw [<-zmb h2 e]; exact h1⟩
 | _=>cases e
theorem zqp{d:D}{k:Key}{v:V}(h:DF K H v d)(e:zma d=some k):v=kV k:=by
 cases d with
 | int i=>cases e; exact DF.int_inv h
 | str x=>cases e; exact DF.str_inv h
 | _=>cases e
theorem zfm:∀ {ks:List Key},DFs K H (ks.map kV) (ks.map k1D)
 | []=>.nil
 | .inl i::ks=>.cons (.int i) zfm
 | .inr x::ks=>.cons (.str x) zfm
section
variable {κ:Type} [DecidableEq κ]
def zmc(kvs:List (κ×D))(k:κ):Option D:=(kvs.find? fun kv=>decide (kv.1=k)).map (·.2)
def zdq(kvs:List (κ×D))(k:κ)(d:D):List (κ×D):=if(kvs.any fun kv=>decide (kv.1=k))=true then kvs.map (fun kv=>if kv.1=k then(kv.1,d)else kv)else kvs++[(k,d)]
theorem KVd.val{ws:List (κ×V)}{kvs:List (κ×D)}(h:KVd K H ws kvs)(k:κ):(∃ v d,zef ws k=some v/\zmc kvs k=some d/\DF K H v d)\/(zef ws k=none/\zmc kvs k=none):=by
 induction h with
 | nil=>exact .inr ⟨rfl,rfl⟩
 | @cons p q ps qs hq t ih =>
  unfold zef zmc at ih ⊢;rw [List.find?_cons,List.find?_cons]
  by_cases hk:p.1=k
  ·have hk':q.1=k:=hq.1▸hk
   rw [decide_eq_true hk,decide_eq_true hk'];exact .inl ⟨_,_,rfl,rfl,hq.2⟩
  ·have hk':¬q.1=k:=fun z=>hk (hq.1.trans z)
   rw [decide_eq_false hk,decide_eq_false hk'];exact ih
theorem KVd.any{ws:List (κ×V)}{kvs:List (κ×D)}(h:KVd K H ws kvs)(k:κ):(ws.any fun kv=>decide (kv.1=k))=(kvs.any fun kv=>decide (kv.1=k)):=by
 induction h with
 | nil=>rfl
 | @cons p q ps qs hq t ih=>rw [List.any_cons,List.any_cons,ih,hq.1]
theorem KVd.repl{ws:List (κ×V)}{kvs:List (κ×D)}(h:KVd K H ws kvs)(k:κ){v:V}{d:D}(hd:DF K H v d):KVd K H (ws.map fun kv=>if kv.1=k then(kv.1,v)else kv) (kvs.map fun kv=>if kv.1=k then(kv.1,d)else kv):=by
 induction h with
 | nil=>exact .nil
 | @cons p q ps qs hq t ih =>
  refine .cons ?_ ih;dsimp only
  by_cases hk:p.1=k
  ·have hk':q.1=k:=hq.1▸hk
   rw [if_pos hk,if_pos hk'];exact⟨hq.1,hd⟩
  ·have hk':¬q.1=k:=fun z=>hk (hq.1.trans z)
   rw [if_neg hk,if_neg hk'];exact hq
theorem KVd.put{ws:List (κ×V)}{kvs:List (κ×D)}(h:KVd K H ws kvs)(k:κ){v:V}{d:D}(hd:DF K H v d):KVd K H (zbB ws k v) (zdq kvs k d):=by
 unfold zbB zdq;rw [h.any k];split
 ·exact h.repl k hd
 ·exact Paired.snoc h ⟨rfl,hd⟩
theorem KVd.len{ws:List (κ×V)}{kvs:List (κ×D)}(h:KVd K H ws kvs):ws.length=kvs.length:=Paired.length h
end
def zix(kvs:List (D×D))(k:List Key):Option D:=(kvs.find? fun kv=>decide (zae kv.1=some k)).map (·.2)
theorem DFt.val{ws:List (List Key×V)}{kvs:List (D×D)}(h:DFt K H ws kvs)(k:List Key):(∃ v d,zef ws k=some v/\zix kvs k=some d/\DF K H v d)\/(zef ws k=none/\zix kvs k=none):=by
 induction ws generalizing kvs with
 | nil=>cases h; exact .inr ⟨rfl,rfl⟩
 | cons p ws ih =>
  cases h with
  | @cons k' v d _ ds hv t =>
   unfold zef zix at ih ⊢;rw [List.find?_cons,List.find?_cons]
   by_cases hk:k'=k
   ·have hk':zae (kTD k')=some k:=by rw [zfl,hk]
    rw [decide_eq_true hk,decide_eq_true hk'];exact .inl ⟨_,_,rfl,rfl,hv⟩
   ·have hk':¬zae (kTD k')=some k:=by rw [zfl]; exact fun z=>hk (qw z)
    rw [decide_eq_false hk,decide_eq_false hk'];exact ih t
def zhV(u y:U):Option (Option D):=match u,y with
 | .t kvs,.d y=>(zae y).map fun k=>zmc kvs k
 | .k kvs,.d y=>(zma y).map fun k=>zmc kvs k
 | .d (.dict kvs),.d y=>if noX kvs=true then(zae y).map fun k=>zix kvs k else none
 | _,_=>none
theorem znl{u y:U}{o:Option D}{x v:V}(hu:Rp K H x u)(hy:Rp K H v y)(e:zhV u y=some o):∃ a,x=.ref a/\((∃ w d,o=some d/\zlO K H a v (some w)/\DF K H w d)\/(o=none/\zlO K H a v none)):=by
 unfold zhV at e;split at e
 ·rename_i kvs y
  obtain⟨k,ek,rfl⟩:=qq.mp e;obtain⟨a,ws,rfl,h1,h2⟩:=hu;obtain⟨b,rfl,hb⟩:=zdj hy ek;refine⟨a,rfl,?_⟩;rcases h2.val k with ⟨w,d,e1,e2,p⟩ | ⟨e1,e2⟩
  ·exact .inl ⟨w,d,e2,.inr ⟨ws,k,b,.inl h1,rfl,hb,e1.symm⟩,p⟩
  ·exact .inr ⟨e2,.inr ⟨ws,k,b,.inl h1,rfl,hb,e1.symm⟩⟩
 ·rename_i kvs y
  obtain⟨k,ek,rfl⟩:=qq.mp e;obtain⟨a,ws,rfl,h1,h2⟩:=hu;cases zqp hy ek;refine⟨a,rfl,?_⟩;rcases h2.val k with ⟨w,d,e1,e2,p⟩ | ⟨e1,e2⟩
  ·exact .inl ⟨w,d,e2,.inl ⟨ws,k,.inl h1,rfl,e1.symm⟩,p⟩
  ·exact .inr ⟨e2,.inl ⟨ws,k,.inl h1,rfl,e1.symm⟩⟩
 ·rename_i kvs y
  split at e
  rotate_left
  ·cases e
  rename_i nx;obtain⟨k,ek,rfl⟩:=qq.mp e;obtain⟨a,ob,ws,rfl,h1,h2⟩:=DF.dct_inv hu nx;obtain⟨b,rfl,hb⟩:=zdj hy ek;refine⟨a,rfl,?_⟩;rcases h2.val k with ⟨w,d,e1,e2,p⟩ | ⟨e1,e2⟩
  ·exact .inl ⟨w,d,e2,.inr ⟨ws,k,b,.inr ⟨ob,h1⟩,rfl,hb,e1.symm⟩,p⟩
  ·exact .inr ⟨e2,.inr ⟨ws,k,b,.inr ⟨ob,h1⟩,rfl,hb,e1.symm⟩⟩
 ·cases e
def zc2(md my:ME):ME:=fun ρ=>(md ρ).bind fun p=>(my p.2).bind fun q=>(p.1.get q.2).bind fun u=>(q.1.get q.2).bind fun y=>(zhV u y).bind fun o=>o.bind fun d=>some (.u (.d d),q.2)
theorem zdI{td ty:TE}{md my:ME}(hd:VE K td md)(hy:VE K ty my):VE K (zpV K td ty) (zc2 md my):=by
 intro ρ σ H a ρ' Q r e q;obtain⟨⟨a1,ρ1⟩,e1,e⟩:=zb e;obtain⟨⟨b1,ρ2⟩,e2,e⟩:=zb e;obtain⟨u,eu,e⟩:=zb e;obtain⟨y,ey,e⟩:=zb e;obtain⟨o,eo,e⟩:=zb e;obtain⟨d,ed,e⟩:=zb e;cases e;refine hd ρ σ H a1 ρ1 _ r e1 fun v1 H1 g1 k1=>hy ρ1 σ H1 b1 _ _ g1.rs e2 fun v2 H2 g2 k2=>?_;obtain⟨b,rfl,h⟩:=znl (k1.later r g1 g2 eu) (k2.now g1.rs g2 ey) eo;rcases h with ⟨w,d',rfl,g,p⟩ | ⟨rfl,_⟩
 ·cases ed
  exact⟨b,w,rfl,g,q w H2 (g1.trans g2) ⟨p,Nw.data⟩⟩
 ·cases ed
def zbX:ME:=fun ρ=>some (.u (.t []),ρ)
theorem zb6:VE K zlP zbX:=by
 intro ρ σ H a ρ' Q r e q;cases e;intro p hp;have sm:=zF hp (.dT []);exact q _ _ (Go.grow r sm) ⟨⟨p,[],rfl,zt,.nil⟩,fun _=>⟨p,rfl,hp⟩⟩
def zdn(i:Nat)(my mv:ME):MS:=fun ρ=>(ρ[i]?).join.bind fun _=>(mv ρ).bind fun p=>(my p.2).bind fun q=>(p.1.get q.2).bind fun x=>(q.1.get q.2).bind fun y=>match x,y,q.2[i]? with
 | .d x,.d y,some (some (.t kvs))=>(zae y).bind fun k=>if kvs.length < sizeLine then some (.nx (q.2.set i (some (.t (zdq kvs k x)))))else none
 | .d x,.d y,some (some (.k kvs))=>(zma y).bind fun k=>if kvs.length < sizeLine then some (.nx (q.2.set i (some (.k (zdq kvs k x)))))else none
 | _,_,_=>none
theorem zeS{i:Nat}{ty tv:TE}{my mv:ME}(hy:VE K ty my)(hv:VE K tv mv):VS K pn EX (zpW K (ze6 i) ty tv) (zdn i my mv):=by
 intro σ₀ A H₀ H₁ ρ σ H f D s e k;replace e:=zb e;obtain⟨w0,e0,e⟩:=e;replace e:=zb e;obtain⟨⟨a,ρ1⟩,e1,e⟩:=e;replace e:=zb e;obtain⟨⟨b,ρ2⟩,e2,e⟩:=e;replace e:=zb e;obtain⟨u,eu,e⟩:=e;replace e:=zb e;obtain⟨w,ew,e⟩:=e;obtain⟨v0,ev0,_⟩:=s.rs.rep i w0 (ziw e0);refine hv ρ σ H a ρ1 _ s.rs e1 fun v H1 g1 k1=>⟨v0,ev0,?_⟩;refine hy ρ1 σ H1 b ρ2 _ g1.rs e2 fun y H2 g2 k2=>?_;have pv:=k1.later s.rs g1 g2 eu;have py:=k2.now g1.rs g2 ew;dsimp only at e;split at e
 ·rename_i x yd kvs ex
  replace e:=zb e;obtain⟨ks,ek,e⟩:=e;split at e
  ·rename_i hz
   cases e;obtain⟨w',ew',p1⟩:=g2.rs.rep i _ ex;obtain⟨l,us,rfl,hl,ds⟩:=p1;rw [ev0]at ew';cases ew';obtain⟨kb,rfl,hkb⟩:=zdj py ek;refine⟨l,_,rfl,zki.t hl hkb (by rw [ds.len]; exact hz),k _ _ ((s.go (g1.trans g2)).go (Go.own (u':=.t (zdq kvs ks x)) g2.rs ex rfl ev0 ?_))⟩;have kp:=zbV hl trivial (.dT (zbB us ks v));exact⟨l,_,rfl,zt,(ds.kp kp).put ks (DF.kp kp pv)⟩
  ·cases e
 ·rename_i x yd kvs ex
  replace e:=zb e;obtain⟨ks,ek,e⟩:=e;split at e
  ·rename_i hz
   cases e;obtain⟨w',ew',p1⟩:=g2.rs.rep i _ ex;obtain⟨l,us,rfl,hl,ds⟩:=p1;rw [ev0]at ew';cases ew';cases zqp py ek;refine⟨l,_,rfl,zki.k hl (by rw [ds.len]; exact hz),k _ _ ((s.go (g1.trans g2)).go (Go.own (u':=.k (zdq kvs ks x)) g2.rs ex rfl ev0 ?_))⟩;have kp:=zbV hl trivial (.dK (zbB us ks v));exact⟨l,_,rfl,zt,(ds.kp kp).put ks (DF.kp kp pv)⟩
  ·cases e
 ·cases e
def zgh:U->Option (List D)
 | .d (.dict kvs)=>if noX kvs=true then some (kvs.map (·.1))else none
 | _=>none
theorem zkA:∀ {ws:List (List Key×V)} {kvs:List (D×D)},DFt K H ws kvs->kvs.map (·.1)=ws.map fun p=>kTD p.1
 | [],_,.nil=>rfl
 | _::_,_,.cons _ t=>by rw [List.map_cons,List.map_cons,zkA t]
theorem zfn{te:TE}{me:ME}(h:VE K te me):VI K (zqc K te) (mIt zgh me):=by
 intro ρ σ H ds ρ' R r e q;obtain⟨⟨a,ρ1⟩,e1,e⟩:=zb e;obtain⟨u,eu,e⟩:=zb e;obtain⟨xs,ex,e⟩:=zb e;cases e;refine h ρ σ H a _ _ r e1 fun v H1 g1 k1=>?_;have p:=k1.now r g1 eu;unfold zgh at ex;split at ex
 ·split at ex
  rotate_left
  ·cases ex
  rename_i nx;cases ex;obtain⟨b,o,ws,rfl,h1,h2⟩:=DF.dct_inv p nx;refine⟨b,ws,rfl,.inr ⟨o,h1,q _ _ g1 fun H2 k i=>?_⟩⟩;rw [zkA h2];have h1':=k.frz _ _ _ h1;refine⟨fun d ed=>?_,fun ei=>?_⟩
  ·rw [List.getElem?_map]at ed
   obtain⟨⟨ks,w⟩,ew,rfl⟩:=qq.mp ed;refine⟨⟨h1',(qk.mp ew).1⟩,fun x H' y=>?_⟩;obtain⟨rfl,y⟩:=y;obtain⟨kb,rfl,hkb⟩:=y ks w ew;exact⟨fun _ _ z=>z,.tup hkb zfm⟩
  ·rw [List.length_map]at ei
   exact⟨h1',Nat.le_of_eq ei.symm⟩
 ·cases ex
end
section
variable {K:qc} {pn:List Nat} {ρ ρ':En} {σ:St} {H H':Hp}
abbrev MO:=En->Option (Option Int×En)
def ztF(K:qc)(t:TO)(m:MO):Prop :=
 ∀ (ρ:En) (σ:St) (H:Hp) (o:Option Int) (ρ':En) (Q:Option Int->Hp->Prop),Rs K ρ σ H->m ρ=some (o,ρ')->(∀ H',Go K ρ σ H ρ' H'->Q o H')->t σ H Q
def zfo:MO:=fun ρ=>some (none,ρ)
def zkB(me:ME):MO:=fun ρ=>(me ρ).bind fun p=>(p.1.get p.2).bind fun u=>match u with | .d (.int i)=>some (some i,p.2) | _=>none
theorem znm:ztF K ziY zfo:=fun ρ σ H o ρ' Q r e q=>by cases e; exact q H (Go.refl r)
theorem znn{te:TE}{me:ME}(h:VE K te me):ztF K (zpO te) (zkB me):=by
 intro ρ σ H o ρ' Q r e q;replace e:=zb e;obtain⟨⟨a,ρ1⟩,e1,e⟩:=e;replace e:=zb e;obtain⟨u,eu,e⟩:=e;refine h ρ σ H a ρ1 _ r e1 fun v H1 g1 k1=>?_;have p:=k1.now r g1 eu;dsimp only at e;split at e
 ·rename_i i
  cases e;exact⟨i,DF.int_inv p,q _ g1⟩
 ·cases e
def zkC(xs:List D)(lo hi:Option Int):List D:=(xs.drop (HT.sIx xs.length 0 lo)).take (HT.sIx xs.length xs.length hi - HT.sIx xs.length 0 lo)
theorem DFs.cut{xs:List V}{ds:List D}(h:DFs K H xs ds)(lo hi:Option Int):DFs K H (zkd xs lo hi) (zkC ds lo hi):=by
 unfold zkd zkC;rw [h.len];exact(h.drop _).take _
def VSl(K:qc)(r:V->Option Int->Option Int->Hp->VK->Prop)(f:U->Option Int->Option Int->Option U):Prop :=
 ∀ (x:V) (a u:U) (lo hi:Option Int) (H:Hp) (Q:VK),Rp K H x a->f a lo hi=some u->(∀ v H',zaZ H H'->Rp K H' v u->Nw H v u->Q v H')->r x lo hi H Q
def mSl(f:U->Option Int->Option Int->Option U)(me:ME)(ml mh:MO):ME:=fun ρ=>(me ρ).bind fun p=>(ml p.2).bind fun l=>(mh l.2).bind fun h=>(p.1.get h.2).bind fun x=>(f x l.1 h.1).bind fun u=>some (.u u,h.2)
theorem zzc{r:V->Option Int->Option Int->Hp->VK->Prop}{f:U->Option Int->Option Int->Option U}{te:TE}{tl th:TO}{me:ME}{ml mh:MO}(hs:VSl K r f)(he:VE K te me)(hl:ztF K tl ml)(hh:ztF K th mh):VE K (tSl r te tl th) (mSl f me ml mh):=by
 intro ρ σ H a ρ' Q rs e q;obtain⟨⟨a1,ρ1⟩,e1,e⟩:=zb e;obtain⟨⟨lo,ρ2⟩,e2,e⟩:=zb e;obtain⟨⟨hi,ρ3⟩,e3,e⟩:=zb e;obtain⟨x,ex,e⟩:=zb e;obtain⟨u,eu,e⟩:=zb e;cases e;refine he ρ σ H a1 ρ1 _ rs e1 fun v1 H1 g1 k1=>hl ρ1 σ H1 lo ρ2 _ g1.rs e2 fun H2 g2=>hh ρ2 σ H2 hi _ _ g2.rs e3 fun H3 g3=>?_;refine hs _ x u lo hi H3 _ (k1.later rs g1 (g2.trans g3) ex) eu fun v H4 s p n=>?_;have g:=g1.trans (g2.trans g3);exact q v H4 (g.trans (Go.grow g.rs s)) ⟨p,n.mono g.dm⟩
def zqq(u:U)(lo hi:Option Int):Option U:=match u with
 | .l xs=>some (.l (zkC xs lo hi))
 | .d (.list xs)=>some (.l (zkC xs lo hi))
 | _=>none
theorem zno:VSl K (zw0 K) zqq:=by
 intro x a u lo hi H Q p e q;unfold zqq at e;split at e
 ·cases e
  obtain⟨b,us,rfl,h1,h2⟩:=p;refine⟨b,us,rfl,SqL.of h1,fun l hl=>?_⟩;have sm:=zF hl (.lst (zkd us lo hi));exact q _ _ sm ⟨l,_,rfl,zt,(h2.cut lo hi).kp sm.kp⟩ fun _=>⟨l,rfl,hl⟩
 ·cases e
  obtain⟨b,us,rfl,h1,h2⟩:=DF.lst_inv p;refine⟨b,us,rfl,h1.sq,fun l hl=>?_⟩;have sm:=zF hl (.lst (zkd us lo hi));exact q _ _ sm ⟨l,_,rfl,zt,(h2.cut lo hi).kp sm.kp⟩ fun _=>⟨l,rfl,hl⟩
 ·cases e
def zAM(u:U)(lo hi:Option Int):Option U:=match u with
 | .d (.tuple xs)=>some (.d (.tuple (zkC xs lo hi)))
 | _=>none
def zkD:U->U->Option U
 | .d (.tuple xs),.d (.tuple ys)=>if xs≠[]/\xs.length+ys.length<=sizeLine then some (.d (.tuple (xs++ys)))else none
 | _,_=>none
theorem ztG:VO K (zpQ K) zkD:=by
 intro x y a b u H Q ha hb e q;unfold zkD at e;split at e
 ·split at e
  ·rename_i xs ys hc
   cases e;obtain⟨p,us,rfl,h1,h2⟩:=DF.tup_inv ha;obtain⟨p',us',rfl,h1',h2'⟩:=DF.tup_inv hb;refine⟨p,p',us,us',rfl,rfl,(TpK.sq h1),(TpK.sq h1'),?_,by rw [h2.len,h2'.len]; exact hc.2,fun z=>?_,fun _ r hr=>?_⟩
   ·rintro rfl
    cases h2;exact hc.1 rfl
   ·subst z
    cases h2';exact q _ _ (fun _ _ z=>z) (by rw [List.append_nil]; exact .tup h1 h2) Nw.data
   ·have s:=zF hr (.tup (us++us'))
    exact q _ _ s (.tup (.inl zt) ((h2.app h2').kp s.kp)) Nw.data
  ·cases e
 ·cases e
def zzd:List Int->Int->Int
 | [],d=>d
 | n::ns,_=>ns.foldl (fun a b=>if a < b then b else a) n
def zAL:List U->List U->Option U
 | [u],[.d (.int d)]=>u.items.bind fun xs=>(zfe xs).map fun ns=>.d (.int (zzd ns d))
 | _,_=>none
theorem zgi{α:Type}{r:α->α->Prop}(as:∀ a b,r a b->¬r b a):∀ {L M:List α},L.Perm M->L.Pairwise r->M.Pairwise r->L=M
 | [],M,p,_,_=>(List.nil_perm.mp p).symm▸rfl
 | a::L,[],p,_,_=>by have:=p.length_eq; simp at this
 | a::L,b::M,p,h1,h2=>by
  obtain⟨a1,a2⟩:=List.pairwise_cons.mp h1;obtain⟨b1,b2⟩:=List.pairwise_cons.mp h2;have e:a=b:=by
   rcases qu.mp (p.mem_iff.mp (qo (a:=a) (l:=L)))with z | z
   ·exact z
   ·rcases qu.mp (p.mem_iff.mpr (qo (a:=b) (l:=M)))with y | y
    ·exact y.symm
    ·exact absurd (b1 a z) (as a b (a1 b y))
  subst e;rw [zgi as p.cons_inv a2 b2]
def pk:D->Option (List Int)
 | .tuple [.tuple ks,_]=>zfe ks
 | _=>none
def pks:List D->Option (List (List Int))
 | []=>some []
 | d::ds=>(pk d).bind fun k=>(pks ds).bind fun ks=>some (k::ks)
def LtP(a b:D):Prop:=∃ k m,pk a=some k/\pk b=some m/\zbv k m=true
theorem LtP.asym(a b:D)(h:LtP a b):¬LtP b a:=by
 rintro⟨k',m',e1,e2,h'⟩;obtain⟨k,m,e3,e4,h⟩:=h;rw [e3]at e2;rw [e4]at e1;cases e1;cases e2;have:=zca h h';rw [zdg]at this;cases this
open Classical in
noncomputable def znp(xs:List D):List D:=if h:∃ L,L.Perm xs/\L.Pairwise LtP then h.choose else []
theorem zkE{xs L:List D}(p:L.Perm xs)(s:L.Pairwise LtP):znp xs=L:=by
 have h:∃ L:List D,L.Perm xs/\L.Pairwise LtP:=⟨L,p,s⟩;unfold znp;rw [dif_pos h];exact zgi LtP.asym (h.choose_spec.1.trans p.symm) h.choose_spec.2 s
def U.lst:U->Option (List D)
 | .l xs=>some xs
 | .d (.list xs)=>some xs
 | _=>none
theorem Rp.lst{v:V}{u:U}{xs:List D}(h:Rp K H v u)(e:u.lst=some xs):∃ p ys,v=.ref p/\SqL K H p ys/\DFs K H ys xs:=by
 cases u with
 | d x =>
  cases x with
  | list ds=>cases e; obtain⟨a,ys,rfl,h1,h2⟩:=DF.lst_inv h; exact⟨a,ys,rfl,h1.sq,h2⟩
  | _=>cases e
 | l ds=>cases e; obtain⟨a,ys,rfl,h1,h2⟩:=h; exact⟨a,ys,rfl,SqL.of h1,h2⟩
 | t=>cases e
 | k=>cases e
noncomputable def zmd(u:U):Option U:=u.lst.bind fun xs=>(pks xs).bind fun ks=>if xs.length < 64/\ks.Nodup then some (.l (znp xs))else none
theorem znq:∀ {xs:List D} {ks:List (List Int)},pks xs=some ks->ks.length=xs.length
 | [],ks,e=>by cases e; rfl
 | x::xs,ks,e=>by
  obtain⟨k,e1,e⟩:=zb e;obtain⟨ks',e2,e⟩:=zb e;cases e;simp [znq e2]
theorem zjt:∀ {xs:List D} {ks:List (List Int)} {i:Nat} {x:D},pks xs=some ks->xs[i]?=some x->pk x=some (ks.getD i [])
 | [],ks,i,x,e,ex=>by simp at ex
 | y::xs,ks,i,x,e,ex=>by
  obtain⟨k,e1,e⟩:=zb e;obtain⟨ks',e2,e⟩:=zb e;cases e;cases i with
  | zero=>cases(show some y=some x from ex); exact e1
  | succ i=>exact zjt (i:=i) e2 ex
theorem zqr:VC K (zqb K) (f1 zmd):=zg7 fun v a u H Q h e q=>by
 obtain⟨xs,ex,e⟩:=zb e;obtain⟨ks,ek,e⟩:=zb e;split at e
 ·rename_i hc
  cases e;obtain⟨p,ys,rfl,sq,ds⟩:=h.lst ex;have ly:=ds.len;have lk:=znq ek;refine⟨p,ys,ks,rfl,sq,by omega,⟨by omega,fun i v ev=>?_⟩,hc.2,fun is r hp hs hr=>?_⟩
  ·obtain⟨d,ed,dv⟩:=ds.get' ev
   have kd:=zjt ek ed;unfold pk at kd;split at kd
   ·rename_i kk y
    obtain⟨a,zs,rfl,h1,h2⟩:=DF.tup_inv dv;cases h2 with
    | @cons z1 _ _ _ h3 t =>
     cases t with
     | @cons z2 _ _ _ h4 t =>
      cases t;obtain⟨b,ns,rfl,h5,h6⟩:=DF.tup_inv h3;exact⟨a,b,z2,rfl,(TpK.sq h1),by rw [<-zkw h6 kd]; exact(TpK.sq h5)⟩
   ·cases kd
  ·have sm:=zF hr (.lst (is.map fun i=>ys.getD i .non))
   have lt:∀ i∈is,i < xs.length:=fun i hi=>by
    have:=List.mem_range.mp (hp.mem_iff.mp hi);omega
   have ext:(List.range xs.length).map (fun i=>xs.getD i .none)=xs:=by
    apply List.ext_getElem?;intro j;rw [List.getElem?_map]
    by_cases hj:j < xs.length
    ·rw [List.getElem?_range hj,Option.map_some,qA,ql hj]
     rfl
    ·rw [List.getElem?_eq_none (by simpa using hj),List.getElem?_eq_none (by omega)]
     rfl
   have hperm:(is.map fun i=>xs.getD i .none).Perm xs:=by
    have:=hp.map fun i=>xs.getD i .none;rw [ly,ext]at this;exact this
   have hsort:(is.map fun i=>xs.getD i .none).Pairwise LtP:=by
    rw [List.pairwise_map]at hs ⊢;refine hs.imp_of_mem fun{i j} hi hj hij=>?_;have gi:=ql (lt i hi);have gj:=ql (lt j hj);refine⟨_,_,?_,?_,hij⟩
    ·rw [qA,gi]
     exact zjt ek gi
    ·rw [qA,gj]
     exact zjt ek gj
   rw [zkE hperm hsort]at q;refine q _ _ sm ⟨r,_,rfl,zt,?_⟩ fun _=>⟨r,rfl,hr⟩;refine DFs.kp sm.kp ?_;clear hs hp hperm hsort q sm
   induction is with
   | nil=>exact .nil
   | cons i is ih =>
    refine .cons ?_ (ih fun j hj=>lt j (qm _ hj));have gi:=ql (lt i qo);obtain⟨v,ev,dv⟩:=ds.get gi;dsimp only;rw [qA,qA,gi,ev];exact dv
 ·cases e
end
theorem zeT:∀ {xs:List V} {us:List Value},xs.length=us.length->(∀ (j:Nat) x u,xs[j]?=some x->us[j]?=some u->zJ x u)->zH xs us
 | [],[],_,_=>.nil
 | [],_::_,h,_=>by simp at h
 | _::_,[],h,_=>by simp at h
 | x::xs,u::us,h,a=>.cons (a 0 x u rfl rfl) (zeT (by simpa using h) fun j y v e1 e2=>a (j+1) y v e1 e2)
def zve:List V->Hp->VK->Prop:=fun xs H Q=>∃ n:Int,xs=[.int n]/\∀ p,H p=none->Q (.ref p) (upd H p (.rng 0 n))
theorem zoX{X:Cx}:zaN X (.type "range") zve:=by
 intro pins s σ H xs us Q I r h;obtain⟨n,rfl,q⟩:=h;obtain⟨u,rfl,ru⟩:=zcd r;obtain⟨t,rfl⟩:=ru;refine call_range_1 ⟨.ref s.heap.objs.size,_,I.laid (a:=s.heap.objs.size) (o:=.rng 0 n) (fun b o e=>qd _ e) (qe _) ?_,rfl,q _ I.fresh⟩;exact⟨_,_,_,qg _ rfl⟩
section
variable {K:qc} {pn:List Nat} {ρ ρ':En} {σ:St} {H H':Hp}
theorem zxr:∀ {n:Nat} {lo:Int},DFs K H ((List.range n).map fun i=>.int (lo+(i:Nat))) (zao lo n):=fun{n lo}=>by
 unfold zao;generalize List.range n=l
 induction l with
 | nil=>exact .nil
 | cons a l ih=>exact .cons (.int _) ih
def zze(ma:MA):ME:=fun ρ=>(ma ρ).bind fun p=>(zax p.2 p.1).bind fun us=>match us with
 | [.d (.int j)]=>if(-(2^62)<=j/\j < 2^62)/\j.toNat<=sizeLine then some (.u (.l (zao 0 j.toNat)),p.2)else none
 | _=>none
def zdk:MT:=fun ρ=>some (true,ρ)
theorem zbg:VT K zxb zdk:=fun ρ σ H b ρ' Q r e q=>by cases e; exact q H (Go.refl r)
def sV:D->Option V
 | .none=>some .non
 | .bool b=>some (.bl b)
 | .int i=>some (.int i)
 | .str x=>some (.str x)
 | _=>none
theorem ztH{x:D}{v w:V}(h:DF K H v x)(e:sV x=some w):v=w:=by
 cases h<;>cases e<;>rfl
def zdr(neg:Bool):U->U->Option U
 | .d x,.d y=>(sV x).bind fun v=>(sV y).bind fun w=>if zwP v w=true then some (.d (.bool (if neg=true then !decide (v=w)else decide (v=w))))else none
 | _,_=>none
theorem zf2:VO K rEq (zdr false):=by
 intro x y a b u H Q ha hb e q;unfold zdr at e;split at e
 ·obtain⟨v,ev,e⟩:=zb e
  obtain⟨w,ew,e⟩:=zb e;split at e
  ·rename_i hs
   cases e;cases ztH ha ev;cases ztH hb ew;exact⟨hs,q _ _ (fun _ _ z=>z) (.bl _) Nw.data⟩
  ·cases e
 ·cases e
theorem zhc:VO K rNe (zdr true):=by
 intro x y a b u H Q ha hb e q;unfold zdr at e;split at e
 ·obtain⟨v,ev,e⟩:=zb e
  obtain⟨w,ew,e⟩:=zb e;split at e
  ·rename_i hs
   cases e;cases ztH ha ev;cases ztH hb ew;exact⟨hs,q _ _ (fun _ _ z=>z) (.bl _) Nw.data⟩
  ·cases e
 ·cases e
def zhd:U->Bool
 | .d .none=>true
 | _=>false
def zqs(neg:Bool):U->U->Option U
 | a,.d .none=>some (.d (.bool (if neg=true then !zhd a else zhd a)))
 | _,_=>none
theorem ztI{a:U}{v:V}(h:Rp K H v a):decide (v=.non)=zhd a:=by
 cases a with
 | d x=>cases(show DF K H v x from h)<;>simp [zhd]
 | l=>obtain⟨_,_,rfl,_⟩:=h; simp [zhd]
 | t=>obtain⟨_,_,rfl,_⟩:=h; simp [zhd]
 | k=>obtain⟨_,_,rfl,_⟩:=h; simp [zhd]
theorem zxs:VO K (fun x y H Q=>y=.non/\Q (.bl (decide (x=.non))) H) (zqs false):=by
 intro x y a b u H Q ha hb e q;unfold zqs at e;split at e
 ·cases e
  refine⟨by cases hb; rfl,?_⟩;rw [ztI ha];exact q _ _ (fun _ _ z=>z) (.bl _) Nw.data
 ·cases e
theorem zxt{F:FD}{a:Addr}{ns:List Int}{E:XK}(hO:ztu H)(hS:SqL K H a (ns.map V.int))(h:∃ outs,F [.d (.list (ns.map .int))]=some (.d (.bool true),outs)):spV K 1 F [.ref a] H (fun v _=>v=.bl true) E:=by
 obtain⟨outs,ho⟩:=h;have pl:PL K H a (ns.map V.int):=by
  rcases hS with (h | ⟨o,h⟩) | h
  ·rcases hO a with z | ⟨o,xs,z⟩
   ·rw [z]at h; cases h
   ·rw [z]at h; cases h
  ·exact .inl ⟨o,h⟩
  ·exact .inr h
 have dd:DFs K H (ns.map V.int) (ns.map PyData.int):=by
  clear ho hS pl
  induction ns with
  | nil=>exact .nil
  | cons n ns ih=>exact .cons (.int n) ih
 refine⟨[.d (.list (ns.map .int))],.d (.bool true),outs,rfl,⟨rfl,fun i u e=>?_,fun i j u w ei ej ou ow es=>?_⟩,ho,fun v H' g p n=>DF.bl_inv p⟩
 ·have e':=zbo.mp e
  cases i with
  | zero=>cases e'; exact⟨.ref a,rfl,DF.lst pl dd⟩
  | succ i=>simp at e'
 ·have e':=zbo.mp ei
  cases i with
  | zero=>cases e'; cases ou
  | succ i=>simp at e'
end
section
variable {ρ:En} {me ma mb mk mi md my mv:ME} {mA mK:MA} {mt mu:MT} {m1 m2:MS} {i j:Nat} {u:U} {x:D} {f:U->U->Option U}
theorem bd{α β:Type}{a:α}{f:α->Option β}:(some a).bind f=f a:=rfl
theorem zvf{u:U}:Ar.get ρ (.u u)=some u:=rfl
theorem zqt:Ar.get ρ (.s i)=(ρ[i]?).join:=rfl
theorem znr{u:U}:(some (some u)).join=some u:=rfl
theorem zxu:zi i ρ=(ρ[i]?).join.bind fun _=>some (.s i,ρ):=by
 unfold zi;cases ρ[i]? with
 | none=>rfl
 | some o=>cases o<;>rfl
theorem zAx:mC x ρ=some (.u (.d x),ρ):=rfl
theorem zzf:mOp f ma mb ρ=(ma ρ).bind fun p=>(mb p.2).bind fun q=>(p.1.get q.2).bind fun x=>(q.1.get q.2).bind fun y=>(f x y).bind fun u=>some (.u u,q.2):=rfl
theorem zzg{f:U->Option U}:mUn f ma ρ=(ma ρ).bind fun p=>(p.1.get p.2).bind fun x=>(f x).bind fun u=>some (.u u,p.2):=rfl
theorem zxv:zo ρ=some ([],ρ):=rfl
theorem ztJ:zf me mA ρ=(me ρ).bind fun p=>(mA p.2).bind fun q=>some (p.1::q.1,q.2):=rfl
theorem zkF:zax ρ []=some []:=rfl
theorem ziy{a:Ar}{as:List Ar}:zax ρ (a::as)=(a.get ρ).bind fun u=>(zax ρ as).bind fun us=>some (u::us):=rfl
theorem ziz:zch []=some []:=rfl
theorem zhe{us:List U}:zch (.d x::us)=(zch us).bind fun xs=>some (x::xs):=rfl
theorem zxw:zaP mA ρ=(mA ρ).bind fun p=>(zax p.2 p.1).bind fun us=>(zch us).bind fun ds=>if ds.length<=sizeLine then some (.u (.d (.tuple ds)),p.2)else none:=rfl
theorem zxx:zfZ mA ρ=(mA ρ).bind fun p=>(zax p.2 p.1).bind fun us=>(zch us).bind fun ds=>if ds.length<=sizeLine then some (.u (.l ds),p.2)else none:=rfl
theorem zzh{f:List U->Option U}:mCB f mA ρ=(mA ρ).bind fun p=>(zax p.2 p.1).bind fun us=>(f us).bind fun u=>some (.u u,p.2):=rfl
theorem zxy{f:FD}:zN f mA ρ=(mA ρ).bind fun p=>if zdD p.2 p.1=true then(zax p.2 p.1).bind fun us=>(f us).bind fun o=>some (.u o.1,wb p.2 p.1 o.2)else none:=rfl
theorem zkG:zdD ρ []=true:=rfl
theorem zqu{as:List Ar}:zdD ρ (.u u::as)=zdD ρ as:=rfl
theorem zxz{as:List Ar}:zdD ρ (.s j::as)=((match ρ[j]? with | some (some u)=>!u.own || !(as.any fun a=>match a with | .s k=>decide (k=j) | _=>false) | _=>true) && zdD ρ as):=rfl
theorem zzi{as:List Ar}{o:U}{os:List U}:wb ρ (.s j::as) (o::os)=wb (ρ.set j (some o)) as os:=rfl
theorem zzj{as:List Ar}{o:U}{os:List U}:wb ρ (.u u::as) (o::os)=wb ρ as os:=rfl
theorem zqv:wb ρ [] []=ρ:=rfl
def ztK(m2:MS):Fl->Option Fl
 | .nx ρ'=>m2 ρ'
 | f=>some f
theorem bind_fn{α β:Type}{o:Option α}{f g:α->Option β}(h:∀ a,f a=g a):o.bind f=o.bind g:=by cases o with | none=>rfl | some a=>exact h a
theorem zxA:zz m1 m2 ρ=(m1 ρ).bind (ztK m2):=bind_fn fun f=>by cases f<;>rfl
theorem zns:ztK m2 (.nx ρ)=m2 ρ:=rfl
theorem znt:ztK m2 (.rt u ρ)=some (.rt u ρ):=rfl
def U.dat:U->Option U
 | .d x=>some (.d x)
 | _=>none
theorem zvg:U.dat (.d x)=some (.d x):=rfl
theorem zvh:put (.s i,ρ)=(ρ[i]?).join.bind fun u=>u.dat.bind fun d=>some (d,ρ):=by
 unfold put;dsimp only;cases ρ[i]? with
 | none=>rfl
 | some o =>
  cases o with
  | none=>rfl
  | some u=>cases u<;>rfl
theorem zvi:put (.u u,ρ)=some (u,ρ):=rfl
theorem zxB:zK i me ρ=(me ρ).bind fun p=>(put p).bind fun q=>some (.nx (q.2.set i (some q.1))):=rfl
theorem zxC:zaM me ρ=(me ρ).bind fun p=>(put p).bind fun q=>some (.rt q.1 q.2):=rfl
theorem ztL{pn:List Nat}:zgf pn i ρ=if i∈pn then none else(ρ[i]?).join.bind fun u=>some (.rt u (ρ.set i none)):=by
 unfold zgf;split
 ·rfl
 ·cases ρ[i]? with
  | none=>rfl
  | some o=>cases o<;>rfl
theorem ztM:zaG ρ=some (.nx ρ):=rfl
theorem ztN:zha me ρ=(me ρ).bind fun p=>some (.nx p.2):=rfl
theorem zxD:zbW mt m1 m2 ρ=(mt ρ).bind fun p=>if p.1=true then m1 p.2 else m2 p.2:=rfl
theorem zzk:mIf mt ma mb ρ=(mt ρ).bind fun p=>if p.1=true then ma p.2 else mb p.2:=rfl
def U.bol:U->Option Bool
 | .d (.bool b)=>some b
 | _=>none
theorem zvj{b:Bool}:U.bol (.d (.bool b))=some b:=rfl
theorem zAy:mB me ρ=(me ρ).bind fun p=>(p.1.get p.2).bind fun u=>u.bol.bind fun b=>some (b,p.2):=by
 unfold mB;congr 1
 funext p
 congr 1
 funext u
 cases u with
 | d x=>cases x<;>rfl
 | l=>rfl
 | t=>rfl
 | k=>rfl
theorem zxE:zkx mt mu ρ=(mt ρ).bind fun p=>if p.1=true then mu p.2 else some (false,p.2):=rfl
theorem zzl:mOr mt mu ρ=(mt ρ).bind fun p=>if p.1=true then some (true,p.2)else mu p.2:=rfl
theorem zxF:ztD mt ρ=(mt ρ).bind fun p=>some (!p.1,p.2):=rfl
theorem ztO:znd ma mb ρ=(mB ma ρ).bind fun p=>if p.1=true then mb p.2 else some (.u (.d (.bool false)),p.2):=rfl
theorem zxG:zqf ma ρ=(ma ρ).bind fun p=>(p.1.get p.2).bind fun u=>u.tru.bind fun b=>some (b,p.2):=rfl
theorem znu{n:Int}:U.tru (.d (.int n))=some (n != 0):=rfl
theorem zxH:zdk ρ=some (true,ρ):=rfl
def U.lo:U->Option (List D)
 | .l xs=>some xs
 | _=>none
theorem zzm{xs:List D}:U.lo (.l xs)=some xs:=rfl
def U.da:U->Option D
 | .d x=>some x
 | _=>none
theorem zzn:U.da (.d x)=some x:=rfl
def U.num:U->Option Int
 | .d (.int i)=>some i
 | _=>none
theorem zvk{n:Int}:U.num (.d (.int n))=some n:=rfl
theorem zxI:zjq i me ρ=(ρ[i]?).join.bind fun w=>w.lo.bind fun _=>(me ρ).bind fun p=>(p.1.get p.2).bind fun u=>u.da.bind fun x=>(p.2[i]?).join.bind fun w=>w.lo.bind fun xs=>if xs.length < sizeLine then some (.u (.d .none),p.2.set i (some (.l (xs++[x]))))else none:=by
 unfold zjq;cases ρ[i]? with
 | none=>rfl
 | some o =>
  cases o with
  | none=>rfl
  | some w =>
   cases w with
   | l xs0 =>
    show((me ρ).bind _)=((me ρ).bind _);congr 1
    funext p
    congr 1
    funext u
    cases u with
    | d x =>
     show(match U.d x,p.2[i]? with | .d x,some (some (.l xs))=>_ | _,_=>none)=((p.2[i]?).join.bind _);cases p.2[i]? with
     | none=>rfl
     | some o =>
      cases o with
      | none=>rfl
      | some w=>cases w<;>rfl
    | l=>rfl
    | t=>rfl
    | k=>rfl
   | d=>rfl
   | t=>rfl
   | k=>rfl
theorem zqw:zbC i me mi ρ=(ρ[i]?).join.bind fun _=>(me ρ).bind fun p=>(mi p.2).bind fun q=>(p.1.get q.2).bind fun u=>(q.1.get q.2).bind fun w=>u.da.bind fun x=>w.num.bind fun k=>(q.2[i]?).join.bind fun z=>z.lo.bind fun xs=>(ixN xs.length k).bind fun j=>some (.nx (q.2.set i (some (.l (xs.set j x))))):=by
 unfold zbC;congr 1; funext _; congr 1; funext p; congr 1; funext q; congr 1; funext u; congr 1; funext w;cases u with
 | d x =>
  cases w with
  | d y =>
   cases y with
   | int k =>
    show(match U.d x,U.d (.int k),q.2[i]? with | .d x,.d (.int k),some (some (.l xs))=>_ | _,_,_=>none)=((q.2[i]?).join.bind _);cases q.2[i]? with
    | none=>rfl
    | some o =>
     cases o with
     | none=>rfl
     | some w=>cases w<;>rfl
   | _=>rfl
  | l=>rfl
  | t=>rfl
  | k=>rfl
 | l=>rfl
 | t=>rfl
 | k=>rfl
theorem ztP:zc2 md my ρ=(md ρ).bind fun p=>(my p.2).bind fun q=>(p.1.get q.2).bind fun u=>(q.1.get q.2).bind fun y=>(zhV u y).bind fun o=>o.bind fun d=>some (.u (.d d),q.2):=rfl
theorem zqx:zbX ρ=some (.u (.t []),ρ):=rfl
def kFz(x:D):Ar×En->En
 | (.s i,ρ)=>ρ.set i (some (.d x))
 | (.u _,ρ)=>ρ
theorem zzo:mFz me ρ=(me ρ).bind fun p=>(p.1.get p.2).bind fun u=>u.fz.bind fun x=>some (.u (.d x),kFz x p):=by
 unfold mFz;congr 1; funext p; congr 1; funext u; congr 1; funext x;obtain⟨a,ρ1⟩:=p;cases a<;>rfl
theorem zvl:kFz x (.s i,ρ)=ρ.set i (some (.d x)):=rfl
theorem zvm:kFz x (.u u,ρ)=ρ:=rfl
theorem zzp:U.fz (.d x)=some x:=rfl
theorem zzq{xs:List D}:U.fz (.l xs)=some (.list xs):=rfl
theorem zzr{kvs:List (List Key×D)}:U.fz (.t kvs)=some (.dict (kvs.map fun p=>(kTD p.1,p.2))):=rfl
theorem zzs{g:U->Option (List D)}:mIt g me ρ=(me ρ).bind fun p=>(p.1.get p.2).bind fun u=>(g u).bind fun ds=>some (ds,p.2):=rfl
theorem zqy{xs:List D}:zjm (.d (.list xs))=some xs:=rfl
theorem zqz{xs:List D}:zjn (.d (.tuple xs))=some xs:=rfl
theorem znv{kvs:List (D×D)}:zgh (.d (.dict kvs))=if noX kvs=true then some (kvs.map (·.1))else none:=rfl
def ztQ:List U->Option (List D)
 | [.d (.int j)]=>if -(2^62)<=j/\j < 2^62 then some (zao 0 j.toNat)else none
 | _=>none
theorem zxJ{n:Int}:ztQ [.d (.int n)]=if -(2^62)<=n/\n < 2^62 then some (zao 0 n.toNat)else none:=rfl
theorem ztR:zgg mA ρ=(mA ρ).bind fun p=>(zax p.2 p.1).bind fun us=>(ztQ us).bind fun ds=>some (ds,p.2):=bind_fn fun p=>bind_fn fun us=>match us with
 | []=>rfl
 | [.d (.int j)]=>by
  show(if _ then _ else _)=(if _ then _ else _:Option (List D)).bind _;split<;>rfl
 | [.d .none]=>rfl
 | [.d (.bool _)]=>rfl
 | [.d (.str _)]=>rfl
 | [.d (.list _)]=>rfl
 | [.d (.tuple _)]=>rfl
 | [.d (.dict _)]=>rfl
 | [.l _]=>rfl
 | [.t _]=>rfl
 | [.k _]=>rfl
 | .d x::b::us=>by cases x<;>rfl
 | .l x::b::us=>rfl
 | .t x::b::us=>rfl
 | .k x::b::us=>rfl
theorem zxK{mI:MI}{mg:MG}:zdi mI mg m1 ρ=(mI ρ).bind fun p=>zbP mg m1 p.1 p.2:=rfl
theorem zzt{mI:MI}{nt:Nat}{js:List Nat}{mg:MG}:mLC mI nt js mg mt me ρ=(mI ρ).bind fun p=>(lcM nt mg mt me p.1 (cEn nt js p.2) []).bind fun q=>some (.u (.l q.1),back js (q.2.drop nt) p.2):=rfl
theorem zzu{f:U->Option Int->Option Int->Option U}{ml mh:MO}:mSl f me ml mh ρ=(me ρ).bind fun p=>(ml p.2).bind fun l=>(mh l.2).bind fun h=>(p.1.get h.2).bind fun x=>(f x l.1 h.1).bind fun u=>some (.u u,h.2):=rfl
theorem zoY:zfo ρ=some (none,ρ):=rfl
theorem ztS:zkB me ρ=(me ρ).bind fun p=>(p.1.get p.2).bind fun u=>u.num.bind fun i=>some (some i,p.2):=bind_fn fun p=>bind_fn fun u=>by
 cases u with
 | d x=>cases x<;>rfl
 | l=>rfl
 | t=>rfl
 | k=>rfl
def zxL:List U->Option (D×D)
 | [.d x,.d y]=>some (x,y)
 | _=>none
theorem zqA{y:D}:zxL [.d x,.d y]=some (x,y):=rfl
theorem zxM:zoW i j mA ρ=(mA ρ).bind fun p=>(zax p.2 p.1).bind fun us=>(zxL us).bind fun z=>some (.nx ((p.2.set i (some (.d z.1))).set j (some (.d z.2)))):=by
 refine bind_fn fun p=>bind_fn fun us=>?_
 match us with
 | []=>rfl
 | [a]=>cases a<;>rfl
 | [.d x,.d y]=>rfl
 | [.d x,.l y]=>rfl
 | [.d x,.t y]=>rfl
 | [.d x,.k y]=>rfl
 | [.l x,b]=>rfl
 | [.t x,b]=>rfl
 | [.k x,b]=>rfl
 | a::b::c::us=>cases a<;>(try rfl)<;>(cases b<;>rfl)
theorem zxN{mg:MG}:zoV me mg ρ=(me ρ).bind fun p=>(p.1.get p.2).bind fun u=>u.da.bind fun d=>(mg d p.2).bind fun ρ'=>some (.nx ρ'):=by
 unfold zoV;congr 1; funext p; congr 1; funext u;cases u<;>rfl
theorem zqB:zy i x ρ=some (ρ.set i (some (.d x))):=rfl
theorem ztT{n:Nat}{gs:List D->En->Option En}{ds:List D}:zbj n gs (.tuple ds) ρ=if ds.length=n then gs ds ρ else none:=rfl
theorem zqC{g:MG}{gs:List D->En->Option En}{ds:List D}:zQ g gs (x::ds) ρ=(g x ρ).bind fun ρ1=>gs ds ρ1:=rfl
theorem ztU:zbz [] ρ=some ρ:=rfl
theorem ziA{c:Int->Int->Prop}{g:Int->Int->D}{a b:Int}(h:c a b):fIC c g (.d (.int a)) (.d (.int b))=some (.d (g a b)):=by
 unfold fIC;dsimp only;rw [if_pos h]
theorem zvn{a b:Int}:zcg (.d (.int a)) (.d (.int b))=some (.d (.int (a+b))):=rfl
theorem zvo{a b:Int}:zl3 (.d (.int a)) (.d (.int b))=some (.d (.int (a - b))):=rfl
theorem zvp{a b:Int}(h:zoz a b):zfd (.d (.int a)) (.d (.int b))=some (.d (.int (a * b))):=ziA h
theorem zzv{a b:Int}(h:0 < b):zeQ (.d (.int a)) (.d (.int b))=some (.d (.int (a % b))):=ziA (c:=fun _ j=>0 < j) h
theorem zme{a b:Int}(h:zik a b):zg4 (.d (.int a)) (.d (.int b))=some (.d (.int (a / b))):=ziA h
theorem zf3{a b:Int}(h:zgX a b):zge (.d (.int a)) (.d (.int b))=some (.d (.int (a.fdiv b))):=ziA h
theorem zzw{a b:Int}(h:zs9 a b):ztB (.d (.int a)) (.d (.int b))=some (.d (.int (a^b.toNat))):=ziA h
theorem zzx{a b:Int}:fLt (.d (.int a)) (.d (.int b))=some (.d (.bool (decide (a < b)))):=rfl
theorem zzy{a b:Int}:fLe (.d (.int a)) (.d (.int b))=some (.d (.bool (decide (a<=b)))):=rfl
theorem zzz{a b:Int}:fGt (.d (.int a)) (.d (.int b))=some (.d (.bool (decide (b < a)))):=rfl
theorem zzA{a b:Int}:fGe (.d (.int a)) (.d (.int b))=some (.d (.bool (decide (b<=a)))):=rfl
theorem zvq{a:Int}:zl4 (.d (.int a))=some (.d (.int (-a))):=rfl
theorem zvr{a:Int}:zl6 (.d (.int a))=some (.d (.int (if a < 0 then -a else a))):=rfl
theorem zqD{b:Bool}:znc (.d (.bool b))=some (.d (.int (if b then 1 else 0))):=rfl
theorem zqE{a b:Int}:ziu [.d (.int a),.d (.int b)]=some (.d (.int (if b > a then b else a))):=rfl
theorem zzB{f:U->Option U}:f1 f [u]=f u:=rfl
theorem zvs{xs:List D}:zcR (.l xs)=some (.d (.int xs.length)):=rfl
theorem zvt{xs:List D}:zcR (.d (.tuple xs))=some (.d (.int xs.length)):=rfl
theorem zvu{xs:List D}:zcR (.d (.list xs))=some (.d (.int xs.length)):=rfl
theorem znw{xs:List D}:zbm (.l xs)=some (.d (.tuple xs)):=rfl
theorem zvv{xs:List D}{k:Int}:zcQ (.l xs) (.d (.int k))=(atI xs k).map .d:=rfl
theorem zvw{xs:List D}{k:Int}:zcQ (.d (.list xs)) (.d (.int k))=(atI xs k).map .d:=rfl
theorem zvx{xs:List D}{lo hi:Option Int}:zqq (.l xs) lo hi=some (.l (zkC xs lo hi)):=rfl
theorem zvy{a b:Int}:zdr false (.d (.int a)) (.d (.int b))=some (.d (.bool (decide (a=b)))):=by
 show some (U.d (.bool (decide (V.int a=V.int b))))=_;congr 3;exact decide_eq_decide.mpr ⟨fun h=>by cases h; rfl,fun h=>by rw [h]⟩
theorem zvz{a b:Int}:zdr true (.d (.int a)) (.d (.int b))=some (.d (.bool (!decide (a=b)))):=by
 show some (U.d (.bool (!decide (V.int a=V.int b))))=_;congr 4;exact decide_eq_decide.mpr ⟨fun h=>by cases h; rfl,fun h=>by rw [h]⟩
def zxO(pn:List Nat)(us:List U):Fl->Option (U×List U)
 | .rt u ρ=>(zaR pn ρ 0 us).bind fun os=>some (u,os)
 | .nx ρ=>(zaR pn ρ 0 us).bind fun os=>some (.d .none,os)
 | _=>none
theorem zxP{n:Nat}{pn:List Nat}{us:List U}:za2 n pn m1 us=(m1 (sm us++List.replicate (n - us.length) none)).bind (zxO pn us):=by
 exact bind_fn fun f=>by cases f<;>rfl
theorem znx{pn:List Nat}{us:List U}:zxO pn us (.rt u ρ)=(zaR pn ρ 0 us).bind fun os=>some (u,os):=rfl
theorem zkH{pn:List Nat}{n:Nat}:zaR pn ρ n []=some []:=rfl
theorem ziB{pn:List Nat}{n:Nat}{us:List U}:zaR pn ρ n (u::us)=(if n∈pn then(ρ[n]?).join.bind fun o=>if o.own=true/\u.own=false then none else some o else if u.own=true then none else some u).bind fun o=>(zaR pn ρ (n+1) us).bind fun os=>some (o::os):=rfl
theorem zvA:U.own (.d x)=false:=rfl
theorem zvB{xs:List D}:U.own (.l xs)=true:=rfl
theorem zqF:sm []=[]:=rfl
theorem zny{us:List U}:sm (u::us)=some u::sm us:=rfl
theorem zzC{α:Type}{a:α}{xs:List α}:atI (a::xs) 0=some a:=by
 unfold atI ixN;rw [if_pos (by decide),if_pos (by simp only [qt]; omega)];rfl
theorem zzD{α:Type}{a b:α}{xs:List α}:atI (a::b::xs) 1=some b:=by
 unfold atI ixN;rw [if_pos (by decide),if_pos (by simp only [qt]; omega)];rfl
theorem zzE{α:Type}{a b c:α}{xs:List α}:atI (a::b::c::xs) 2=some c:=by
 unfold atI ixN;rw [if_pos (by decide),if_pos (by simp only [qt]; omega)];rfl
theorem zzF{n:Nat}:ixN (n+1) 0=some 0:=by
 unfold ixN;rw [if_pos (by decide),if_pos (by omega)];rfl
theorem zzG{n:Nat}:ixN (n+1+1) 1=some 1:=by
 unfold ixN;rw [if_pos (by decide),if_pos (by omega)];rfl
theorem zzH{a b:Int}(h:b.natAbs < 18446744073709551616):zfd (.d (.int a)) (.d (.int b))=some (.d (.int (a * b))):=zvp (.inr ⟨by omega,by omega⟩)
theorem zzI{a b:Int}(h:a.natAbs < 18446744073709551616):zfd (.d (.int a)) (.d (.int b))=some (.d (.int (a * b))):=zvp (.inl ⟨by omega,by omega⟩)
theorem zzJ{a b:Int}(h:0 < b):zeQ (.d (.int a)) (.d (.int b))=some (.d (.int (a % b))):=zzv h
theorem zzK{a b:Int}(h:0 < b)(h2:b<=340282366920938463463374607431768211456):zg4 (.d (.int a)) (.d (.int b))=some (.d (.int (a / b))):=zme (ztv h (by omega))
theorem zzL{a b:Int}(h:0<=b)(h2:b<=1000000)(h3:a.natAbs < 18446744073709551616):ztB (.d (.int a)) (.d (.int b))=some (.d (.int (a^b.toNat))):=zzw ⟨h,h2,by omega⟩
theorem zl:sizeLine=16777216:=rfl
theorem znz{nt:Nat}:reset nt ρ=List.replicate nt none++ρ.drop nt:=rfl
theorem zvC{nt:Nat}{js:List Nat}:cEn nt js ρ=List.replicate nt none++js.map fun j=>ρ.getD j none:=rfl
def noS(j:Nat):List Ar->Bool
 | []=>true
 | .u _::as=>noS j as
 | .s k::as=>!decide (k=j) && noS j as
theorem zmf{j:Nat}:∀ {as:List Ar},noS j as=!(as.any fun a=>match a with | .s k=>decide (k=j) | _=>false)
 | []=>rfl
 | .u _::as=>by rw [List.any_cons]; exact zmf (as:=as)
 | .s k::as=>by
  unfold noS;rw [List.any_cons,zmf (as:=as),Bool.not_or]
def dAt:Option U->Bool
 | some u=>!u.own
 | none=>true
theorem zvD:dAt (some (.d x))=true:=rfl
theorem zvE{xs:List D}:dAt (some (.l xs))=false:=rfl
theorem zvF{xs:List (List Key×D)}:dAt (some (.t xs))=false:=rfl
theorem znA:noS j []=true:=rfl
theorem zvG{as:List Ar}:noS j (.u u::as)=noS j as:=rfl
theorem zvH{k:Nat}{as:List Ar}:noS j (.s k::as)=(!decide (k=j) && noS j as):=rfl
theorem znB{as:List Ar}:zdD ρ (.s j::as)=((noS j as || dAt (ρ[j]?).join) && zdD ρ as):=by
 rw [zxz,zmf];congr 1;cases ρ[j]? with
 | none=>simp [dAt]
 | some o =>
  cases o with
  | none=>simp [dAt]
  | some u=>simp [dAt,Bool.or_comm]
theorem zqG{js:List Nat}{us:List (Option U)}:back (j::js) (some u::us) ρ=back js us (ρ.set j (some u)):=rfl
theorem zqH{us:List (Option U)}:back [] us ρ=ρ:=by cases us<;>rfl
theorem zf4:∀ ks:List Int,zfe (ks.map PyData.int)=some ks
 | []=>rfl
 | k::ks=>by show(zfe (ks.map PyData.int)).bind _=_; rw [zf4 ks]; rfl
end
structure XT (K:qc) (tab:List (Str×List Str)) (fl:List Str):Prop where
 cl:∀ n ups C,tab.lookup n=some ups->XN K n C->XI K C/\∀ f∈fl,zaY K C f
 is:∀ n ups C,tab.lookup n=some ups->XN K n C->∀ c C',(tab.lookup c).isSome=true->XN K c C'->PySem.W.kitOne K (.ref C) (.ref C')=some (decide (c=n) || ups.contains c)
 isT:∀ n ups C,tab.lookup n=some ups->XN K n C->PySem.W.kitOne K (.ref C) (.type "ValueError")=some (ups.contains ("ValueError":Str))
def zmg(f:Str):List (D×D)->Option D
 | (.str g,d)::ds=>if f=g then some d else zmg f ds
 | _=>none
section
variable {K:qc} {tab:List (Str×List Str)} {fl:List Str} {f n:Str} {H:Hp}
theorem DFf.get:∀ {fs:List (Str×V)} {ds:List (D×D)} {d:D},DFf K H fs ds->zmg f ds=some d->∃ v,fs.lookup f=some v/\DF K H v d
 | _,_,_,.nil,e=>by cases e
 | _,_,d,.cons (k:=k) (v:=v) (vs:=vs) h t,e=>by
  unfold zmg at e;rw [List.lookup_cons];split at e
  ·rename_i q
   cases e;exact⟨v,by rw [show(f==k)=true from beq_iff_eq.mpr q],h⟩
  ·rename_i q
   obtain⟨w,e1,e2⟩:=DFf.get t e;exact⟨w,by rw [show(f==k)=false from beq_eq_false_iff_ne.mpr q]; exact e1,e2⟩
end
section
variable {K:qc} {tab:List (Str×List Str)} {fl:List Str} {f n:Str} {H:Hp}
end
section
variable {X:Cx} {K:qc} {tab:List (Str×List Str)} {fl:List Str} {c n:Str}
end
section
variable {K:qc}
def zfp:U->U->Option U
 | .d (.str i),.d (.str j)=>if i.length+j.length<=sizeLine then some (.d (.str (i++j)))else none
 | _,_=>none
theorem zgA:VO K (fun x y H Q=>∃ i j,x=.str i/\y=.str j/\i.length+j.length<=sizeLine/\Q (.str (i++j)) H) zfp:=by
 intro x y a b u H Q ha hb e q;unfold zfp at e;split at e
 ·split at e
  ·rename_i i j hc
   cases e;exact⟨i,j,DF.str_inv ha,DF.str_inv hb,hc,q _ _ (zaZ.refl H) (DF.str _) Nw.data⟩
  ·cases e
 ·cases e
def zmh:U->U->Option U
 | .d (.str z),.d (.int i)=>if z.length<=sizeLine then(atI z.cps.toList i).map fun c=>.d (.str ⟨#[c]⟩)else none
 | _,_=>none
theorem zmi:VO K zyO zmh:=by
 intro x y a b u H Q ha hb e q;unfold zmh at e;split at e
 ·split at e
  ·rename_i z i hc
   obtain⟨c,ec,rfl⟩:=qq.mp e;exact⟨z,i,c,DF.str_inv ha,DF.int_inv hb,hc,ec,q _ _ (zaZ.refl H) (DF.str _) Nw.data⟩
  ·cases e
 ·cases e
def mM1(ty:U->Bool)(f:U->U->Option U)(mo ma:ME):ME:=fun ρ=>(mo ρ).bind fun p=>(p.1.get p.2).bind fun x0=>if ty x0=true then(ma p.2).bind fun q=>(p.1.get q.2).bind fun x=>(q.1.get q.2).bind fun y=>(f x y).bind fun u=>some (.u u,q.2)else none
theorem zzM{T:String}{r:V->List V->Hp->VK->Prop}{ty:U->Bool}{f:U->U->Option U}{to ta:TE}{mo ma:ME}(ht:∀ (x:V) (a:U) (H:Hp),Rp K H x a->ty a=true->tyV K T x H)(h:VO K (fun x y H Q=>r x [y] H Q) f)
  (ho:VE K to mo) (ha:VE K ta ma):VE K (tBM K T r to (zgQ ta zoD)) (mM1 ty f mo ma):=by
 intro ρ σ H a ρ' Q rs e q;obtain⟨⟨a1,ρ1⟩,e1,e⟩:=zb e;obtain⟨x0,ex0,e⟩:=zb e;split at e
 rotate_left
 ·cases e
 rename_i hty;obtain⟨⟨b1,ρ2⟩,e2,e⟩:=zb e;obtain⟨x,ex,e⟩:=zb e;obtain⟨y,ey,e⟩:=zb e;obtain⟨u,eu,e⟩:=zb e;cases e;refine ho ρ σ H a1 ρ1 _ rs e1 fun v1 H1 g1 k1=>⟨ht _ _ _ (k1.now rs g1 ex0) hty,ha ρ1 σ H1 b1 ρ2 _ g1.rs e2 fun v2 H2 g2 k2=>?_⟩;refine h _ _ x y u H2 _ (k1.later rs g1 g2 ex) (k2.now g1.rs g2 ey) eu fun v H3 s p n=>?_;exact q v H3 ((g1.trans g2).trans (Go.grow g2.rs s)) ⟨p,n.mono (g1.trans g2).dm⟩
def tyL:U->Bool
 | .l _=>true
 | .d (.list _)=>true
 | _=>false
def tyS:U->Bool
 | .d (.str _)=>true
 | _=>false
theorem zqI(x:V)(a:U)(H:Hp)(h:Rp K H x a)(e:tyS a=true):tyV K "str" x H:=by
 unfold tyS at e;split at e
 ·cases DF.str_inv h; rfl
 ·cases e
def ztV:D->Option Str
 | .str x=>some x
 | _=>none
theorem zhf{H:Hp}:∀ {us:List V} {ds:List D} {ys:List Str},DFs K H us ds->ds.mapM ztV=some ys->us=ys.map V.str
 | _,_,ys,.nil,e=>by cases e; rfl
 | _,_,ys,.cons (d:=d) h t,e=>by
  rw [List.mapM_cons]at e;obtain⟨y,e1,e⟩:=zb e;obtain⟨ys',e2,e⟩:=zb e;cases e;cases d with
  | str x=>cases e1; cases DF.str_inv h; rw [zhf t e2]; rfl
  | _=>cases e1
def ziC:U->U->Option U
 | .d (.str sep),.l ds=>(ds.mapM ztV).bind fun ys=>if(ys.map (·.length)).sum+ys.length * sep.length<=16777216 then some (.d (.str (Txt.join sep ys)))else none
 | .d (.str sep),.d (.list ds)=>(ds.mapM ztV).bind fun ys=>if(ys.map (·.length)).sum+ys.length * sep.length<=16777216 then some (.d (.str (Txt.join sep ys)))else none
 | _,_=>none
theorem znC:VO K (fun x y H Q=>zu9 K x [y] H Q) ziC:=by
 intro x y a b u H Q ha hb e q;unfold ziC at e;split at e
 ·obtain⟨ys,ey,e⟩:=zb e
  split at e
  ·rename_i hc
   cases e;obtain⟨l,us,rfl,h1,h2⟩:=hb;cases zhf h2 ey;exact⟨_,l,ys,DF.str_inv ha,rfl,SqL.of h1,hc,q _ _ (zaZ.refl H) (DF.str _) Nw.data⟩
  ·cases e
 ·obtain⟨ys,ey,e⟩:=zb e
  split at e
  ·rename_i hc
   cases e;obtain⟨l,us,rfl,h1,h2⟩:=DF.lst_inv hb;cases zhf h2 ey;exact⟨_,l,ys,DF.str_inv ha,rfl,h1.sq,hc,q _ _ (zaZ.refl H) (DF.str _) Nw.data⟩
  ·cases e
 ·cases e
def flD:D->Option V
 | .none=>some .non
 | .bool b=>some (.bl b)
 | .int i=>some (.int i)
 | .str x=>some (.str x)
 | _=>none
theorem znD{H:Hp}{v w:V}{d:D}(h:DF K H v d)(e:flD d=some w):v=w/\zek w=true:=by
 cases d with
 | none=>cases e; cases h; exact⟨rfl,rfl⟩
 | bool b=>cases e; cases DF.bl_inv h; exact⟨rfl,rfl⟩
 | int i=>cases e; cases DF.int_inv h; exact⟨rfl,rfl⟩
 | str x=>cases e; cases DF.str_inv h; exact⟨rfl,rfl⟩
 | _=>cases e
theorem znE{H:Hp}:∀ {us:List V} {ds:List D} {ws:List V},DFs K H us ds->ds.mapM flD=some ws->us=ws/\ws.all zek=true
 | _,_,ws,.nil,e=>by cases e; exact⟨rfl,rfl⟩
 | _,_,ws,.cons h t,e=>by
  rw [List.mapM_cons]at e;obtain⟨y,e1,e⟩:=zb e;obtain⟨ys',e2,e⟩:=zb e;cases e;obtain⟨rfl,f1⟩:=znD h e1;obtain⟨rfl,f2⟩:=znE t e2;exact⟨rfl,by rw [List.all_cons,f1,f2]; rfl⟩
end
def zxQ(K:qc)(C:Addr):Bool:=match K.lookup C with
 | some ⟨.type "type",_,.cls cd,sl⟩=>(match cd.mro,sl.toList with
  | .ref C'::bm,[_,_,_,_,some (.builtin m),_]=>C'==C && m == "ValueError.__new__" && !cd.hasDel && cd.hasDict && PySem.W.tailIn K xUp bm
  | _,_=>false)
 | _=>false
def ztW(K:qc)(C:Addr):Bool:=zxQ K C && PySem.W.findIn K (.ref C) "__getattribute__"==some (some (.builtin "BaseException.__getattribute__")) && PySem.W.findIn K (.ref C) "__getattr__"==some none &&
 PySem.W.findIn K (.ref C) "__setattr__"==some (some (.builtin "object.__setattr__")) && PySem.W.findIn K (.ref C) "__class__"==some (some (.builtin "object.__class__")) &&
 PySem.W.specialIn K (.builtin "object.__class__") "__get__"==some (some (.builtin "getset_descriptor.__get__")) && PySem.W.takesIn K (.builtin "object.__class__")==some true && PySem.W.mroIn K C (.type "object")==some true
theorem zzN{K:qc}{C:Addr}(q:zxQ K C=true):∃ nm qn N bs bm sn sub ab col dd k0 k1 k2 k3 k5,K.lookup C=some (excClassObj nm qn C N bs bm true sn sub ab col dd k0 k1 k2 k3 k5 "ValueError.__new__")/\PySem.W.tailIn K xUp bm=true:=by
 unfold zxQ at q;split at q
 ·rename_i dd cd sl ho
  split at q
  ·rename_i C' bm k0 k1 k2 k3 m k5 hm hs
   simp only [Bool.and_eq_true,beq_iff_eq,Bool.not_eq_true']at q;obtain⟨⟨⟨⟨rfl,rfl⟩,hdel⟩,hdct⟩,ht⟩:=q;obtain⟨nm,bs,mro,ns,qn,hd,sn,sub,ab,col,del⟩:=cd;dsimp only at hm hdel hdct;subst hm hdel hdct;obtain⟨l⟩:=sl;dsimp only at hs;subst hs;exact⟨nm,qn,ns,bs,bm,sn,sub,ab,col,dd,k0,k1,k2,k3,k5,ho,ht⟩
  ·cases q
 ·cases q
theorem zzO{K:qc}{C:Addr}(q:ztW K C=true):XI K C:=by
 unfold ztW at q;simp only [Bool.and_eq_true,beq_iff_eq]at q;obtain⟨⟨⟨⟨⟨⟨⟨h1,h2⟩,h3⟩,h4⟩,h5⟩,h6⟩,h7⟩,h8⟩:=q;exact⟨⟨zzN h1,h2,h3,h4⟩,h5,h6,h7,h8⟩
def zqJ(K:qc)(n:Str):Option Addr:=match PySem.W.nsIn K mainGlobals n with
 | some (some (.ref C))=>some C
 | _=>none
theorem znF{K:qc}{n:Str}{C:Addr}(h:XN K n C):zqJ K n=some C:=by
 unfold zqJ;rw [show PySem.W.nsIn K mainGlobals n=some (some (.ref C)) from h]
def zxR(K:qc)(tab:List (Str×List Str))(fl:List Str):Bool:=tab.all fun p=>match zqJ K p.1 with
 | some C=>ztW K C && fl.all (fun f=>PySem.W.findIn K (.ref C) f==some none) && PySem.W.kitOne K (.ref C) (.type "ValueError")==some (p.2.contains ("ValueError":Str)) &&
   tab.all fun p'=>match zqJ K p'.1 with
    | some C'=>PySem.W.kitOne K (.ref C) (.ref C')==some (decide (p'.1=p.1) || p.2.contains p'.1)
    | none=>false
 | none=>false
theorem zeU{β:Type}:∀ {l:List (Str×β)} {n:Str} {b:β},l.lookup n=some b->(n,b)∈l
 | [],_,_,e=>by cases e
 | (m,c)::l,n,b,e=>by
  rw [List.lookup_cons]at e;cases q:(n==m)with
  | true =>
   rw [q]at e;cases e;rw [beq_iff_eq.mp q];exact qo
  | false =>
   rw [q]at e;exact qm _ (zeU e)
theorem zzP{K:qc}{tab:List (Str×List Str)}{fl:List Str}(h:zxR K tab fl=true):XT K tab fl:=by
 unfold zxR at h;have one:∀ n ups C,tab.lookup n=some ups->XN K n C->(ztW K C && fl.all (fun f=>PySem.W.findIn K (.ref C) f==some none) && PySem.W.kitOne K (.ref C) (.type "ValueError")==some (ups.contains ("ValueError":Str)) &&
   tab.all fun p'=>match zqJ K p'.1 with
    | some C'=>PySem.W.kitOne K (.ref C) (.ref C')==some (decide (p'.1=n) || ups.contains p'.1)
    | none=>false)=true:=fun n ups C hn xn=>by
  have z:=List.all_eq_true.mp h (n,ups) (zeU hn);dsimp only at z;rw [znF xn]at z;exact z
 refine⟨fun n ups C hn xn=>?_,fun n ups C hn xn c C' hc xc=>?_,fun n ups C hn xn=>?_⟩
 ·have z:=one n ups C hn xn
  simp only [Bool.and_eq_true]at z;refine⟨zzO z.1.1.1,fun f hf=>?_⟩;exact beq_iff_eq.mp (List.all_eq_true.mp z.1.1.2 f hf)
 ·have z:=one n ups C hn xn
  simp only [Bool.and_eq_true]at z;obtain⟨ups',hu'⟩:=Option.isSome_iff_exists.mp hc;have y:=List.all_eq_true.mp z.2 (c,ups') (zeU hu');dsimp only at y;rw [znF xc]at y;exact beq_iff_eq.mp y
 ·have z:=one n ups C hn xn
  simp only [Bool.and_eq_true]at z;exact beq_iff_eq.mp z.1.2
section
variable {X:Cx} {K:qc} {C:Addr} {x f:Str} {p pos:Pos} {e:Expr} {es:List Expr} {t:TA} {ta:TE}
end
abbrev RX(α:Type):=(α×En) ⊕ (D×En)
abbrev MX:=En->Option (RX Ar)
abbrev MXA:=En->Option (RX (List Ar))
section
variable {K:qc} {EX:EXT} {pn:List Nat} {ρ ρ':En} {σ σ₀:St} {H H' H₀ H₁:Hp} {A:Addr->Prop}
def mXR(n f:Str)(ma:MA):En->Option (D×En):=fun ρ=>(ma ρ).bind fun p=>(zax p.2 p.1).bind fun us=>(zch us).bind fun ds=>match ds with
 | [x]=>some (.dict [(.none,.str n),(.str f,x)],p.2)
 | _=>none
theorem Rs.mv{a:Addr}(r:Rs K ρ σ H)(ea:∃ φ,H a=some (.ext φ))(k:∀ b o,b≠a->H b=some o->H' b=some o):Rs K ρ σ H'/\Kp H H':=by
 obtain⟨φ,ea⟩:=ea;have kp:Kp H H':=⟨fun b xs h=>k b _ (fun z=>by rw [z,ea]at h; cases h) h,fun b ob u h=>k b _ (fun z=>by rw [z,ea]at h; cases h) h⟩;refine⟨⟨r.len,fun i u e=>?_,r.apart⟩,kp⟩;obtain⟨v,ev,p⟩:=r.rep i u e;refine⟨v,ev,p.kp kp fun o b c eb hb=>?_⟩;obtain⟨b',c',eb',hb',m⟩:=p.own o;rw [eb]at eb';cases eb';rw [hb]at hb';cases hb';exact k b c (fun z=>by rw [z,ea]at hb; cases hb; exact m) hb
theorem Sn.mv{a:Addr}(s:Sn K pn σ₀ A H₀ H₁ ρ σ H)(hn:H₀ a=none)(ea:∃ φ,H a=some (.ext φ))(k:∀ b o,b≠a->H b=some o->H' b=some o)(dm:∀ b,H' b=none->H b=none):Sn K pn σ₀ A H₀ H₁ ρ σ H':=by
 obtain⟨r,kp⟩:=s.rs.mv ea k;exact⟨r,fun b o h n=>k b o (fun z=>by rw [z,hn]at h; cases h) (s.fr b o h n),s.ow,s.pin,fun b h=>s.dm b (dm b h),s.kp.trans kp⟩
theorem Sn.clear{i:Nat}(s:Sn K pn σ₀ A H₀ H₁ ρ σ H)(hi:i∉pn):Sn K pn σ₀ A H₀ H₁ (ρ.set i none) (σ.set i none) H:=by
 have inv:∀ (j:Nat) (w:U),(ρ.set i none)[j]?=some (some w)->j≠i/\ρ[j]?=some (some w):=fun j w e=>by
  by_cases hj:i=j
  ·subst hj
   have hl:=(qk.mp e).1;rw [List.length_set]at hl;rw [List.getElem?_set_self hl]at e;cases e
  ·rw [qB hj]at e
   exact⟨Ne.symm hj,e⟩
 have sat:∀ j,j≠i->(σ.set i none)[j]?=σ[j]?:=fun j h=>qB (Ne.symm h);refine⟨⟨by rw [List.length_set,List.length_set]; exact s.rs.len,fun j w e=>?_,fun j k x y ej ek ox oy es=>?_⟩,s.fr,fun j w a e o es=>?_,fun j hj=>?_,s.dm,s.kp⟩
 ·obtain⟨hj,e'⟩:=inv j w e
  rw [sat j hj];exact s.rs.rep j w e'
 ·obtain⟨hj,ej'⟩:=inv j x ej
  obtain⟨hk,ek'⟩:=inv k y ek;rw [sat j hj,sat k hk]at es;exact s.rs.apart j k x y ej' ek' ox oy es
 ·obtain⟨hj,e'⟩:=inv j w e
  rw [sat j hj]at es;exact s.ow j w a e' o es
 ·rw [sat j (fun z=>hi (z▸hj))]
  exact s.pin j hj
def under(tab:List (Str×List Str))(c:Str):D->Bool
 | .dict ((.none,.str n)::_)=>match tab.lookup n with | some ups=>ups.contains c | none=>false
 | _=>false
end
abbrev FX:=List U->Option ((U×List U) ⊕ (D×List U))
def spX(K:qc)(n:Nat)(f:FX):Sp:=fun vs H Q E=>∃ us r,us.length=n/\Rs K (sm us) (smV vs) H/\f us=some r/\match r with
 | .inl o=>∀ v H',Go K (sm us) (smV vs) H (sm o.2) H'->Rp K H' v o.1->Nw H v o.1->Q v H'
 | .inr o=>∀ a H',Go K (sm us) (smV vs) H (sm o.2) H'->H a=none->zza K H' a o.1->E (.ref a) none H'
structure CalX (P:Program) (w:World) (K:qc) (mg:Str->Option Value) (base:Heap) (x:Str) (k:Nat) (ps:List Str) (sp:Sp):Prop where
 ex:∃ (f:Addr) (fd:FuncData),FnOk P w K mg base (CXv P w K) k f fd ps sp/\zej K fd ps []/\PySem.W.keepIn K (.ref f)=true/\mg x=some (.ref f)
section
variable {X:Cx} {EX:EXT} {k:Nat} {ps:List Str} {sp:Sp} {x:Str} {p pos:Pos} {e:Expr} {es:List Expr} {t:TA}
end
section
variable {K:qc} {EX:EXT} {pn:List Nat} {ρ ρ':En} {σ σ₀:St} {H H' H₀ H₁:Hp} {A:Addr->Prop}
end
section
variable {X:Cx} {K:qc} {C:Addr} {x f:Str} {p pos:Pos} {e:Expr} {es:List Expr} {t:TA} {te:TE} {EX:EXT}
end
def isT(t T:String):Bool:=t==T || (t == "bool" && T == "int")
section
variable {K:qc}
def zmj(x:D)(ds:List D):Option Bool:=(flD x).bind fun w=>(ds.mapM flD).bind fun ws=>some (inV w ws)
def fIn(neg:Bool)(a b:U):Option U:=match a with
 | .d x=>b.items.bind fun ds=>(zmj x ds).bind fun r=>some (.d (.bool (if neg=true then !r else r)))
 | _=>none
theorem znG(neg:Bool):VO K (rIn K neg) (fIn neg):=by
 intro x y a b u H Q ha hb e q;cases a with
 | d d =>
  obtain⟨ds,e1,e⟩:=zb (show b.items.bind _=some u from e);obtain⟨r,e2,e⟩:=zb e;obtain⟨w,e3,e2⟩:=zb e2;obtain⟨ws,e4,e2⟩:=zb e2;cases e2;cases e;obtain⟨p,ys,rfl,sq,df⟩:=hb.items e1;obtain⟨rfl,f1⟩:=znD ha e3;obtain⟨rfl,f2⟩:=znE df e4;exact⟨p,_,rfl,sq,f1,f2,q _ _ (zaZ.refl H) (by cases neg<;>exact DF.bl _) Nw.data⟩
 | _=>cases e
def zkI:U->U->Option U
 | .d (.str z),.d (.int n)=>if 0<=n/\n<=1 then some (.d (.str (zoQ z n)))else none
 | _,_=>none
theorem ztX:VO K (fun x y H Q=>∃ z n,x=.str z/\y=.int n/\0<=n/\n<=1/\Q (.str (zoQ z n)) H) zkI:=by
 intro x y a b u H Q ha hb e q;unfold zkI at e;split at e
 ·split at e
  ·rename_i z n hc
   cases e;exact⟨z,n,DF.str_inv ha,DF.int_inv hb,hc.1,hc.2,q _ _ (zaZ.refl H) (DF.str _) Nw.data⟩
  ·cases e
 ·cases e
end
section
variable {X:Cx} {K:qc}
end
section
variable {prog:Program} {w:World} {A:Around} {R:Result->Shared->Prop} {I:Addr} {fp wr:List Addr} {G:Array GenState->Array GenState->Prop} {ks:List Key} {P:Nat->Value->Prop} {St:Nat->Shared->Prop}
end
section
variable {prog:Program} {w:World} {A:Around} {E:Value->Shared->Prop} {s:Shared}
end
section
variable {X:Cx} {K:qc}
def zqK(K:qc):R2:=fun x y H Q=>zpQ K x y H Q\/∃ a b,x=.ref a/\y=.ref b/\SqT K H a []/\(∃ ys,SqT K H b ys)/\Q y H
end
section
variable {X:Cx} {K:qc}
theorem ztY{prog:Program}{w:World}{A:Around}{E:Value->Shared->Prop}{s:Shared}{t b:Addr}{ws:List Value}{Q:Value->Shared->Prop}(ht:IsTup s.heap t #[])(hb:IsTup s.heap b ws.toArray)(h:Q (.ref b) s):wpAny (model prog w) A (binaryOp .Add (.ref t) (.ref b)) Q E s:=by
 obtain⟨⟨c1,d1,o1,s1⟩,h1,z1,n1,y1⟩:=id ht;obtain⟨⟨c2,d2,o2,s2⟩,h2,z2,n2,y2⟩:=id hb;cases(show c1=_ from z1);cases(show c2=_ from z2);cases(show o1=_ from y1);cases(show o2=_ from y2);have mt:=tuple_addW0 t b #[] ws.toArray n1 n2 d1 d2 s1 s2 rfl;exact concat_meets ⟨_,h1,rfl⟩ ⟨_,h2,rfl⟩ noFill_tuple_add seq_tuple_add PySem.F.slot_tuple_add PySem.F.entry_tuple_add (PySem.F.args_tuple_add_2 _ _) mt ⟨h1,h2,h⟩
theorem zhg{K:qc}(hK:X.K=K:=by rfl):OpR X (binaryOp .Add) (zqK K):=by
 subst hK;intro pins s σ H x y v u Q I rx ry h;rcases h with h | ⟨a,b,rfl,rfl,ha,⟨ys,hb⟩,q⟩
 ·exact ztm pins s σ H x y v u Q I rx ry h
 ·cases rx
  cases ry;obtain⟨its,r1,p1,_⟩:=I.tuple ha;obtain⟨its2,r2,p2,_⟩:=I.tuple hb;cases r1;exact ztY p1 p2 ⟨.ref b,H,I,rfl,q⟩
def zeV:U->U->Option U
 | .d (.tuple []),.d (.tuple ys)=>some (.d (.tuple ys))
 | a,b=>zkD a b
theorem zhh:VO K (zqK K) zeV:=by
 intro x y a b u H Q ha hb e q;unfold zeV at e;split at e
 ·cases e
  obtain⟨p,us,rfl,h1,h2⟩:=DF.tup_inv ha;obtain⟨p',us',rfl,h1',h2'⟩:=DF.tup_inv hb;cases h2;exact .inr ⟨p,p',rfl,rfl,(TpK.sq h1),⟨us',(TpK.sq h1')⟩,q _ _ (zaZ.refl H) hb Nw.data⟩
 ·exact .inl (ztG x y _ _ u H Q ha hb e q)
end
def GTi(K:qc)(g:Addr)(ns:List Int):Prop:=∃ (o:Obj) (its:Array Value) (n:Nat),K.lookup g=some o/\o.cls=.type "tuple"/\o.data=.seq its n/\its.size<=sizeLine/\zH (ns.map V.int) its.toList
section
variable {X:Cx} {K:qc}
theorem GTi.sq{g:Addr}{ns:List Int}{H:Hp}(h:GTi K g ns):SqT K H g (ns.map V.int):=.inr h
theorem zkJ{H:Hp}:∀ (ns:List Int),DVs K H (ns.map V.int) (ns.map PyData.int)
 | []=>.nil
 | n::ns=>.cons (.int n) (zkJ ns)
theorem GTi.dv{g:Addr}{ns:List Int}{H:Hp}(h:GTi K g ns):DV K H (.ref g) (.tuple (ns.map PyData.int)):=.tup h.sq (zkJ ns)
def zxS(neg:Bool)(ns:List Int)(a:U):Option U:=zy6 neg a (.d (.tuple (ns.map PyData.int)))
theorem zzQ{neg:Bool}{g:Addr}{ns:List Int}{te:TE}{me:ME}(gt:GTi K g ns)(h:VE K te me):VE K (tOp (zy5 K neg) te (tC (.ref g))) (mUn (zxS neg ns) me):=by
 intro ρ σ H a ρ' Q rs e q;obtain⟨⟨a1,ρ1⟩,e1,e⟩:=zb e;obtain⟨x,ex,e⟩:=zb e;obtain⟨u,eu,e⟩:=zb e;cases e;refine h ρ σ H a1 _ _ rs e1 fun v1 H1 g1 k1=>?_;have p:=k1.now rs g1 ex;obtain⟨dx,e2,eu⟩:=zb eu;obtain⟨dy,e3,eu⟩:=zb eu;cases e3;split at eu
 ·rename_i hs
  cases eu;exact⟨dx,_,p.dv e2 (zg6 _ (SeqAt.canLay_of_shaped hs.1)),gt.dv,hs.1,hs.2,q _ _ g1 ⟨DF.bl _,Nw.data⟩⟩
 ·cases eu
end
theorem nr{α:Sort _}{a b:α}(h:a=b):a=b:=h
structure Ph {α:Type} (a:α):Type where
 n:Nat
def Wo{α:Type}(o:Option α)(Q:α->Prop):Prop:=∃ a,o=some a/\Q a
def Co{α β:Type}(f:α->Option β)(t:Ph f)(Q:β->Prop)(a:α):Prop:=Wo (f a) Q
section
variable {α β:Type} {a:α} {o:Option α} {f:α->Option β} {Q:α->Prop} {R:β->Prop}
theorem za7:Wo (some a) Q=Q a:=propext ⟨fun⟨_,e,h⟩=>(by cases e; exact h),fun h=>⟨a,rfl,h⟩⟩
theorem zr:Wo (o.bind f) R=Wo o (Co f ⟨0⟩ R):=propext (by
 cases o with
 | none=>exact⟨fun⟨_,e,_⟩=>(by cases e),fun⟨_,e,_⟩=>(by cases e)⟩
 | some a=>rw [za7]; exact Iff.rfl)
theorem zc3{t:Ph f}:Co f t R a=Wo (f a) R:=rfl
theorem ziD{c:Prop}[Decidable c]{x y:Option α}(h:c->Wo x Q)(h':¬c->Wo y Q):Wo (if c then x else y) Q:=by
 split
 ·exact h ‹_›
 ·exact h' ‹_›
end
section
variable {ρ:En} {me ma mb mc mk mi md my mv mo:ME} {mA mK:MA} {mt mu:MT} {mI:MI} {mg:MG} {m1 m2:MS} {i j n:Nat} {u:U} {x:D} {mx:MX} {mXA:MXA}
variable {QE:Ar×En->Prop} {QA:List Ar×En->Prop} {QT:Bool×En->Prop} {QS:Fl->Prop} {QI:List D×En->Prop} {QO:Option Int×En->Prop} {QG:En->Prop} {QX:RX Ar->Prop} {QXA:RX (List Ar)->Prop} {QR:D×En->Prop} {QF:U×List U->Prop} {QFX:(U×List U) ⊕ (D×List U)->Prop}
theorem zqL:Wo (zi i ρ) QE=Wo (ρ[i]?).join (Co (fun _=>some (.s i,ρ)) ⟨0⟩ QE):=by rw [zxu,zr]
theorem zzR:Wo (mC x ρ) QE=QE (.u (.d x),ρ):=by rw [zAx,za7]
def ztZ(f:U->U->Option U)(a:Ar)(q:Ar×En):Option (Ar×En):=(a.get q.2).bind fun x=>(q.1.get q.2).bind fun y=>(f x y).bind fun u=>some (.u u,q.2)
def kOp(f:U->U->Option U)(mb:ME)(p:Ar×En):Option (Ar×En):=(mb p.2).bind (ztZ f p.1)
theorem zvI{f:U->U->Option U}:Wo (mOp f ma mb ρ) QE=Wo (ma ρ) (Co (kOp f mb) ⟨0⟩ QE):=by rw [zzf,zr]; rfl
theorem zqM{f:U->U->Option U}{p:Ar×En}:Wo (kOp f mb p) QE=Wo (mb p.2) (Co (ztZ f p.1) ⟨0⟩ QE):=by unfold kOp; rw [zr]
theorem znH{f:U->U->Option U}{a:Ar}{q:Ar×En}:Wo (ztZ f a q) QE=Wo (a.get q.2) (Co (fun x=>(q.1.get q.2).bind fun y=>(f x y).bind fun u=>some (.u u,q.2)) ⟨0⟩ QE):=by unfold ztZ; rw [zr]
theorem zvJ{f:U->Option U}:Wo (mUn f ma ρ) QE=Wo (ma ρ) (Co (fun p=>(p.1.get p.2).bind fun x=>(f x).bind fun u=>some (.u u,p.2)) ⟨0⟩ QE):=by rw [zzg,zr]
theorem zqN:Wo (zo ρ) QA=QA ([],ρ):=by rw [zxv,za7]
theorem znI:Wo (zf me mA ρ) QA=Wo (me ρ) (Co (fun p=>(mA p.2).bind fun q=>some (p.1::q.1,q.2)) ⟨0⟩ QA):=by rw [ztJ,zr]
theorem zqO:Wo (zaP mA ρ) QE=Wo (mA ρ) (Co (fun p=>(zax p.2 p.1).bind fun us=>(zch us).bind fun ds=>if ds.length<=sizeLine then some (.u (.d (.tuple ds)),p.2)else none) ⟨0⟩ QE):=by rw [zxw,zr]
theorem zqP:Wo (zfZ mA ρ) QE=Wo (mA ρ) (Co (fun p=>(zax p.2 p.1).bind fun us=>(zch us).bind fun ds=>if ds.length<=sizeLine then some (.u (.l ds),p.2)else none) ⟨0⟩ QE):=by rw [zxx,zr]
theorem zvK{f:List U->Option U}:Wo (mCB f mA ρ) QE=Wo (mA ρ) (Co (fun p=>(zax p.2 p.1).bind fun us=>(f us).bind fun u=>some (.u u,p.2)) ⟨0⟩ QE):=by rw [zzh,zr]
theorem zqQ{f:FD}:Wo (zN f mA ρ) QE=Wo (mA ρ) (Co (fun p=>if zdD p.2 p.1=true then(zax p.2 p.1).bind fun us=>(f us).bind fun o=>some (.u o.1,wb p.2 p.1 o.2)else none) ⟨0⟩ QE):=by rw [zxy,zr]
theorem zqR:Wo (zz m1 m2 ρ) QS=Wo (m1 ρ) (Co (ztK m2) ⟨0⟩ QS):=by rw [zxA,zr]
theorem zqS:Wo (zK i me ρ) QS=Wo (me ρ) (Co (fun p=>(put p).bind fun q=>some (.nx (q.2.set i (some q.1)))) ⟨0⟩ QS):=by rw [zxB,zr]
theorem zqT:Wo (zaM me ρ) QS=Wo (me ρ) (Co (fun p=>(put p).bind fun q=>some (.rt q.1 q.2)) ⟨0⟩ QS):=by rw [zxC,zr]
theorem znJ{pn:List Nat}:Wo (zgf pn i ρ) QS=Wo (if i∈pn then none else(ρ[i]?).join.bind fun u=>some (.rt u (ρ.set i none))) QS:=by rw [ztL]
theorem znK:Wo (zaG ρ) QS=QS (.nx ρ):=by rw [ztM,za7]
theorem znL:Wo (zha me ρ) QS=Wo (me ρ) (Co (fun p=>some (.nx p.2)) ⟨0⟩ QS):=by rw [ztN,zr]
theorem zqU:Wo (zbW mt m1 m2 ρ) QS=Wo (mt ρ) (Co (fun p=>if p.1=true then m1 p.2 else m2 p.2) ⟨0⟩ QS):=by rw [zxD,zr]
theorem zqV:Wo (mIf mt ma mb ρ) QE=Wo (mt ρ) (Co (fun p=>if p.1=true then ma p.2 else mb p.2) ⟨0⟩ QE):=by rw [zzk,zr]
theorem zzS:Wo (mB me ρ) QT=Wo (me ρ) (Co (fun p=>(p.1.get p.2).bind fun u=>u.bol.bind fun b=>some (b,p.2)) ⟨0⟩ QT):=by rw [zAy,zr]
theorem zqW:Wo (zkx mt mu ρ) QT=Wo (mt ρ) (Co (fun p=>if p.1=true then mu p.2 else some (false,p.2)) ⟨0⟩ QT):=by rw [zxE,zr]
theorem zvL:Wo (mOr mt mu ρ) QT=Wo (mt ρ) (Co (fun p=>if p.1=true then some (true,p.2)else mu p.2) ⟨0⟩ QT):=by rw [zzl,zr]
theorem zqX:Wo (ztD mt ρ) QT=Wo (mt ρ) (Co (fun p=>some (!p.1,p.2)) ⟨0⟩ QT):=by rw [zxF,zr]
theorem znM:Wo (znd ma mb ρ) QE=Wo (mB ma ρ) (Co (fun p=>if p.1=true then mb p.2 else some (.u (.d (.bool false)),p.2)) ⟨0⟩ QE):=by rw [ztO,zr]
theorem zqY:Wo (zqf ma ρ) QT=Wo (ma ρ) (Co (fun p=>(p.1.get p.2).bind fun u=>u.tru.bind fun b=>some (b,p.2)) ⟨0⟩ QT):=by rw [zxG,zr]
theorem zqZ:Wo (zdk ρ) QT=QT (true,ρ):=by rw [zxH,za7]
theorem zq0:Wo (zjq i me ρ) QE=Wo (ρ[i]?).join (Co (fun w=>w.lo.bind fun _=>(me ρ).bind fun p=>(p.1.get p.2).bind fun u=>u.da.bind fun x=>(p.2[i]?).join.bind fun w=>w.lo.bind fun xs=>if xs.length < sizeLine then some (.u (.d .none),p.2.set i (some (.l (xs++[x]))))else none) ⟨0⟩ QE):=by rw [zxI,zr]
theorem zkK:Wo (zbC i me mi ρ) QS=Wo (ρ[i]?).join (Co (fun _=>(me ρ).bind fun p=>(mi p.2).bind fun q=>(p.1.get q.2).bind fun u=>(q.1.get q.2).bind fun w=>u.da.bind fun x=>w.num.bind fun k=>(q.2[i]?).join.bind fun z=>z.lo.bind fun xs=>(ixN xs.length k).bind fun j=>some (.nx (q.2.set i (some (.l (xs.set j x)))))) ⟨0⟩ QS):=by rw [zqw,zr]
def ziE(w:U)(y x:D):Option U:=match w with
 | .t kvs=>(zae y).bind fun k=>if kvs.length < sizeLine then some (.t (zdq kvs k x))else none
 | .k kvs=>(zma y).bind fun k=>if kvs.length < sizeLine then some (.k (zdq kvs k x))else none
 | _=>none
theorem zt0:zdn i my mv ρ=(ρ[i]?).join.bind fun _=>(mv ρ).bind fun p=>(my p.2).bind fun q=>(p.1.get q.2).bind fun x=>(q.1.get q.2).bind fun y=>x.da.bind fun x=>y.da.bind fun y=>(q.2[i]?).join.bind fun w=>(ziE w y x).bind fun z=>some (.nx (q.2.set i (some z))):=by
 unfold zdn;refine bind_fn fun _=>bind_fn fun p=>bind_fn fun q=>bind_fn fun x=>bind_fn fun y=>?_;cases x with
 | l=>rfl
 | t=>rfl
 | k=>rfl
 | d x =>
  cases y with
  | l=>rfl
  | t=>rfl
  | k=>rfl
  | d y =>
   show _=((q.2[i]?).join.bind _);cases q.2[i]? with
   | none=>rfl
   | some o =>
    cases o with
    | none=>rfl
    | some w =>
     cases w with
     | l=>rfl
     | d=>rfl
     | t kvs =>
      show(zae y).bind _=((zae y).bind _).bind _;cases zae y with
      | none=>rfl
      | some k =>
       show(if _ then _ else _)=(if _ then _ else _:Option U).bind _;split<;>rfl
     | k kvs =>
      show(zma y).bind _=((zma y).bind _).bind _;cases zma y with
      | none=>rfl
      | some k =>
       show(if _ then _ else _)=(if _ then _ else _:Option U).bind _;split<;>rfl
theorem znN:Wo (zdn i my mv ρ) QS=Wo (ρ[i]?).join (Co (fun _=>(mv ρ).bind fun p=>(my p.2).bind fun q=>(p.1.get q.2).bind fun x=>(q.1.get q.2).bind fun y=>x.da.bind fun x=>y.da.bind fun y=>(q.2[i]?).join.bind fun w=>(ziE w y x).bind fun z=>some (.nx (q.2.set i (some z)))) ⟨0⟩ QS):=by rw [zt0,zr]
theorem znO:Wo (zc2 md my ρ) QE=Wo (md ρ) (Co (fun p=>(my p.2).bind fun q=>(p.1.get q.2).bind fun u=>(q.1.get q.2).bind fun y=>(zhV u y).bind fun o=>o.bind fun d=>some (.u (.d d),q.2)) ⟨0⟩ QE):=by rw [ztP,zr]
theorem zkL:Wo (zbX ρ) QE=QE (.u (.t []),ρ):=by rw [zqx,za7]
theorem zvM:Wo (mFz me ρ) QE=Wo (me ρ) (Co (fun p=>(p.1.get p.2).bind fun u=>u.fz.bind fun x=>some (.u (.d x),kFz x p)) ⟨0⟩ QE):=by rw [zzo,zr]
theorem zvN{g:U->Option (List D)}:Wo (mIt g me ρ) QI=Wo (me ρ) (Co (fun p=>(p.1.get p.2).bind fun u=>(g u).bind fun ds=>some (ds,p.2)) ⟨0⟩ QI):=by rw [zzs,zr]
theorem zvO{n:Int}(h:-4611686018427387904<=n)(h2:n < 4611686018427387904):ztQ [.d (.int n)]=some (zao 0 n.toNat):=by rw [zxJ,if_pos ⟨by omega,by omega⟩]
theorem znP:Wo (zgg mA ρ) QI=Wo (mA ρ) (Co (fun p=>(zax p.2 p.1).bind fun us=>(ztQ us).bind fun ds=>some (ds,p.2)) ⟨0⟩ QI):=by rw [ztR,zr]
def zAN:List U->Option (List D)
 | [.d (.int i),.d (.int j)]=>if -(2^62)<=i/\i < 2^62/\-(2^62)<=j/\j < 2^62 then some (zao i (j - i).toNat)else none
 | _=>none
def zq1:List U->Option (List D)
 | [.d (.tuple ds)]=>some (zci 0 ds)
 | _=>none
theorem znQ{ds:List D}:zq1 [.d (.tuple ds)]=some (zci 0 ds):=rfl
theorem zt1:znh mA ρ=(mA ρ).bind fun p=>(zax p.2 p.1).bind fun us=>(zq1 us).bind fun ds=>some (ds,p.2):=bind_fn fun p=>bind_fn fun us=>by
 match us with
 | []=>rfl
 | [.d x]=>cases x<;>rfl
 | [.l _]=>rfl
 | [.t _]=>rfl
 | [.k _]=>rfl
 | .d x::b::us=>cases x<;>rfl
 | .l x::b::us=>rfl
 | .t x::b::us=>rfl
 | .k x::b::us=>rfl
theorem znR:Wo (znh mA ρ) QI=Wo (mA ρ) (Co (fun p=>(zax p.2 p.1).bind fun us=>(zq1 us).bind fun ds=>some (ds,p.2)) ⟨0⟩ QI):=by rw [zt1,zr]
theorem zq2:Wo (zdi mI mg m1 ρ) QS=Wo (mI ρ) (Co (fun p=>zbP mg m1 p.1 p.2) ⟨0⟩ QS):=by rw [zxK,zr]
theorem zq3{nt:Nat}{js:List Nat}:Wo (mLC mI nt js mg mt me ρ) QE=Wo (mI ρ) (Co (fun p=>(lcM nt mg mt me p.1 (cEn nt js p.2) []).bind fun q=>some (.u (.l q.1),back js (q.2.drop nt) p.2)) ⟨0⟩ QE):=by rw [zzt,zr]
theorem zvP{f:U->Option Int->Option Int->Option U}{ml mh:MO}:Wo (mSl f me ml mh ρ) QE=Wo (me ρ) (Co (fun p=>(ml p.2).bind fun l=>(mh l.2).bind fun h=>(p.1.get h.2).bind fun x=>(f x l.1 h.1).bind fun u=>some (.u u,h.2)) ⟨0⟩ QE):=by rw [zzu,zr]
theorem ziF:Wo (zfo ρ) QO=QO (none,ρ):=by rw [zoY,za7]
theorem znS:Wo (zkB me ρ) QO=Wo (me ρ) (Co (fun p=>(p.1.get p.2).bind fun u=>u.num.bind fun i=>some (some i,p.2)) ⟨0⟩ QO):=by rw [ztS,zr]
theorem zq4:Wo (zoW i j mA ρ) QS=Wo (mA ρ) (Co (fun p=>(zax p.2 p.1).bind fun us=>(zxL us).bind fun z=>some (.nx ((p.2.set i (some (.d z.1))).set j (some (.d z.2))))) ⟨0⟩ QS):=by rw [zxM,zr]
theorem zq5:Wo (zoV me mg ρ) QS=Wo (me ρ) (Co (fun p=>(p.1.get p.2).bind fun u=>u.da.bind fun d=>(mg d p.2).bind fun ρ'=>some (.nx ρ')) ⟨0⟩ QS):=by rw [zxN,zr]
theorem zkM:Wo (zy i x ρ) QG=QG (ρ.set i (some (.d x))):=by rw [zqB,za7]
theorem znT{gs:List D->En->Option En}{ds:List D}:Wo (zbj n gs (.tuple ds) ρ) QG=Wo (if ds.length=n then gs ds ρ else none) QG:=by rw [ztT]
theorem zkN{g:MG}{gs:List D->En->Option En}{ds:List D}:Wo (zQ g gs (x::ds) ρ) QG=Wo (g x ρ) (Co (fun ρ1=>gs ds ρ1) ⟨0⟩ QG):=by rw [zqC,zr]
theorem znU:Wo (zbz [] ρ) QG=QG ρ:=by rw [ztU,za7]
theorem zvQ{ty:U->Bool}{f:U->U->Option U}:Wo (mM1 ty f mo ma ρ) QE=Wo (mo ρ) (Co (fun p=>(p.1.get p.2).bind fun x0=>if ty x0=true then(ma p.2).bind fun q=>(p.1.get q.2).bind fun x=>(q.1.get q.2).bind fun y=>(f x y).bind fun u=>some (.u u,q.2)else none) ⟨0⟩ QE):=by
 show Wo (Option.bind _ _) QE=_;rw [zr]
theorem zvR{z:Str}:tyS (.d (.str z))=true:=rfl
def x1:List D->Option D
 | [x]=>some x
 | _=>none
theorem zq6{pn:List Nat}{us:List U}:Wo (za2 n pn m1 us) QF=Wo (m1 (sm us++List.replicate (n - us.length) none)) (Co (zxO pn us) ⟨0⟩ QF):=by rw [zxP,zr]
def zkO(Q:Fl->Prop)(P:En->Prop):Fl->Prop
 | .nx ρ=>P ρ
 | .ct ρ=>P ρ
 | .bk ρ=>Q (.nx ρ)
 | .rt u ρ=>Q (.rt u ρ)
 | .ex x ρ=>Q (.ex x ρ)
theorem zkP{Q:Fl->Prop}{P:En->Prop}:zkO Q P (.nx ρ)=P ρ:=rfl
theorem zgB{Q:Fl->Prop}(P:Nat->En->Prop){ds:List D}(h0:P 0 ρ)(st:∀ i d ρ,ds[i]?=some d->P i ρ->Wo (mg d ρ) (Co m1 ⟨0⟩ (zkO Q (P (i+1)))))(hQ:∀ ρ,P ds.length ρ->Q (.nx ρ)):Wo (zbP mg m1 ds ρ) Q:=by
 have main:∀ (es:List D) (n:Nat) (ρ:En),n+es.length=ds.length->(∀ i,es[i]?=ds[n+i]?)->P n ρ->Wo (zbP mg m1 es ρ) Q:=by
  intro es
  induction es with
  | nil =>
   intro n ρ hn _ hp;show Wo (some _) Q;rw [za7];rw [List.length_nil,Nat.add_zero]at hn;exact hQ ρ (hn▸hp)
  | cons d es ih =>
   intro n ρ hn he hp;have e0:=he 0;rw [List.getElem?_cons_zero,Nat.add_zero]at e0;obtain⟨ρ1,e1,f,e2,k⟩:=st n d ρ e0.symm hp;have nxt:∀ ρ2,P (n+1) ρ2->Wo (zbP mg m1 es ρ2) Q:=fun ρ2 z=>ih (n+1) ρ2 (by rw [qt]at hn; omega) (fun i=>by
    have:=he (i+1);rw [List.getElem?_cons_succ]at this;rw [this,show n+(i+1)=n+1+i by omega]) z
   unfold zbP;rw [zr];refine⟨ρ1,e1,?_⟩;rw [zc3,zr];refine⟨f,e2,?_⟩;rw [zc3];cases f with
   | nx ρ2=>exact nxt ρ2 k
   | ct ρ2=>exact nxt ρ2 k
   | bk ρ2=>exact⟨_,rfl,k⟩
   | rt u ρ2=>exact⟨_,rfl,k⟩
   | ex x ρ2=>exact⟨_,rfl,k⟩
 exact main ds 0 ρ (by omega) (fun i=>by rw [Nat.zero_add]) h0
theorem za5{α:Type}{g:α->D}{Q:Fl->Prop}(P:List α->List α->En->Prop){as:List α}(h0:P [] as ρ)(st:∀ bs a cs ρ,as=bs++a::cs->P bs (a::cs) ρ->Wo (mg (g a) ρ) (Co m1 ⟨0⟩ (zkO Q (P (bs++[a]) cs))))(hQ:∀ ρ,P as [] ρ->Q (.nx ρ)):Wo (zbP mg m1 (as.map g) ρ) Q:=by
 have main:∀ (cs bs:List α) (ρ:En),as=bs++cs->P bs cs ρ->Wo (zbP mg m1 (cs.map g) ρ) Q:=by
  intro cs
  induction cs with
  | nil =>
   intro bs ρ e hp;rw [List.append_nil]at e;subst e;exact⟨_,rfl,hQ ρ hp⟩
  | cons a cs ih =>
   intro bs ρ e hp;obtain⟨ρ1,e1,f,e2,k⟩:=st bs a cs ρ e hp;have nxt:∀ ρ2,P (bs++[a]) cs ρ2->Wo (zbP mg m1 (cs.map g) ρ2) Q:=fun ρ2 z=>ih (bs++[a]) ρ2 (by rw [e,List.append_assoc]; rfl) z;rw [List.map_cons];unfold zbP;rw [zr];refine⟨ρ1,e1,?_⟩;rw [zc3,zr];refine⟨f,e2,?_⟩;rw [zc3];cases f with
   | nx ρ2=>exact nxt ρ2 k
   | ct ρ2=>exact nxt ρ2 k
   | bk ρ2=>exact⟨_,rfl,k⟩
   | rt u ρ2=>exact⟨_,rfl,k⟩
   | ex x ρ2=>exact⟨_,rfl,k⟩
 exact main as [] ρ rfl h0
def kLC(nt:Nat)(me:ME)(ys:List D)(P:En->List D->Prop)(p:Bool×En):Prop:=if p.1=true then Wo (me p.2) (Co (fun q=>(q.1.get q.2).bind fun u=>u.da.bind fun y=>some (reset nt q.2,ys++[y])) ⟨0⟩ fun z=>P z.1 z.2)else P (reset nt p.2) ys
theorem zq7{nt:Nat}{ys:List D}{P:En->List D->Prop}:kLC nt me ys P (true,ρ)=Wo (me ρ) (Co (fun q=>(q.1.get q.2).bind fun u=>u.da.bind fun y=>some (reset nt q.2,ys++[y])) ⟨0⟩ fun z=>P z.1 z.2):=rfl
theorem zvS{nt:Nat}{ys:List D}{P:En->List D->Prop}:kLC nt me ys P (false,ρ)=P (reset nt ρ) ys:=rfl
theorem zq8{nt:Nat}{Q:List D×En->Prop}(P:Nat->En->List D->Prop){ds:List D}(hz:ds.length<=sizeLine)(hP:∀ i ρ ys,P i ρ ys->ys.length<=i)(h0:P 0 ρ [])(st:∀ i d ρ ys,ds[i]?=some d->P i ρ ys->Wo (mg d ρ) (Co mt ⟨0⟩ (kLC nt me ys (P (i+1)))))(hQ:∀ ρ ys,P ds.length ρ ys->Q (ys,ρ)):Wo (lcM nt mg mt me ds ρ []) Q:=by
 have main:∀ (es:List D) (n:Nat) (ρ:En) (ys:List D),n+es.length=ds.length->(∀ i,es[i]?=ds[n+i]?)->P n ρ ys->Wo (lcM nt mg mt me es ρ ys) Q:=by
  intro es
  induction es with
  | nil =>
   intro n ρ ys hn _ hp;rw [List.length_nil,Nat.add_zero]at hn;exact⟨_,rfl,hQ ρ ys (hn▸hp)⟩
  | cons d es ih =>
   intro n ρ ys hn he hp;have e0:=he 0;rw [List.getElem?_cons_zero,Nat.add_zero]at e0;obtain⟨ρ1,e1,⟨b,ρ2⟩,e2,k⟩:=st n d ρ ys e0.symm hp;have hl:=hP _ _ _ hp;rw [qt]at hn;have nxt:∀ ρ2 ys2,P (n+1) ρ2 ys2->Wo (lcM nt mg mt me es ρ2 ys2) Q:=fun ρ2 ys2 z=>ih (n+1) ρ2 ys2 (by omega) (fun i=>by
    have:=he (i+1);rw [List.getElem?_cons_succ]at this;rw [this,show n+(i+1)=n+1+i by omega]) z
   unfold lcM;rw [if_pos (by omega),zr];refine⟨ρ1,e1,?_⟩;rw [zc3,zr];refine⟨_,e2,?_⟩;rw [zc3];cases b with
   | false=>rw [if_neg qf]; exact nxt _ _ k
   | true =>
    rw [if_pos rfl,zr];obtain⟨q,e3,k⟩:=k;refine⟨q,e3,?_⟩;rw [zc3,zr]at k ⊢;obtain⟨u,e4,k⟩:=k;refine⟨u,e4,?_⟩;rw [zc3,zr]at k;obtain⟨y,e5,z,e6,k⟩:=k;cases u with
    | d y'=>cases e5; cases e6; exact nxt _ _ k
    | l=>cases e5
    | t=>cases e5
    | k=>cases e5
 exact main ds 0 ρ [] (by omega) (fun i=>by rw [Nat.zero_add]) h0
theorem zkQ{Q:Fl->Prop}(P:Nat->En->Prop)(k:Nat)(h0:P k ρ)(st:∀ k ρ,P k ρ->Wo (mt ρ) fun p=>if p.1=true then Wo (m1 p.2) (zkO Q fun ρ'=>∃ k',k' < k/\P k' ρ')else Q (.nx p.2)):Wo (zeR mt m1 ρ) Q:=by
 have main:∀ (k:Nat) (ρ:En),P k ρ->∃ n f,zaQ mt m1 n ρ=some f/\Q f:=by
  intro k
  induction k using Nat.strongRecOn with
  | ind k ih =>
   intro ρ hp;obtain⟨⟨b,ρ1⟩,e1,z⟩:=st k ρ hp;cases b with
   | false =>
    rw [if_neg qf]at z;exact⟨1,_,by unfold zaQ; rw [e1]; rfl,z⟩
   | true =>
    rw [if_pos rfl]at z;obtain⟨f,e2,z⟩:=z;have nxt:∀ ρ2,(∃ k',k' < k/\P k' ρ2)->f=.nx ρ2\/f=.ct ρ2->∃ n f,zaQ mt m1 n ρ=some f/\Q f:=by
     rintro ρ2 ⟨k',hk,hp'⟩ hf;obtain⟨n,f',e3,q⟩:=ih k' hk ρ2 hp';refine⟨n+1,f',?_,q⟩;unfold zaQ;rw [e1,bd,if_pos rfl,e2,bd];rcases hf with rfl | rfl<;>exact e3
    cases f with
    | nx ρ2=>exact nxt ρ2 z (.inl rfl)
    | ct ρ2=>exact nxt ρ2 z (.inr rfl)
    | bk ρ2=>exact⟨1,_,by unfold zaQ; rw [e1,bd,if_pos rfl,e2]; rfl,z⟩
    | rt u ρ2=>exact⟨1,_,by unfold zaQ; rw [e1,bd,if_pos rfl,e2]; rfl,z⟩
    | ex u ρ2=>exact⟨1,_,by unfold zaQ; rw [e1,bd,if_pos rfl,e2]; rfl,z⟩
 obtain⟨n,f,e,q⟩:=main k ρ h0;exact⟨f,zqk e,q⟩
end
theorem zW{α:Type}{o:Option α}{b:α}(h:Wo o (fun a=>a=b)):o=some b:=by
 obtain⟨a,e,rfl⟩:=h;exact e
theorem zoZ:sizeLine=16777216:=Eq.trans zl (Eq.symm (Eq.symm (Nat.add_zero _)))
theorem zq9{α:Type}{n:Nat}{dc:Decidable (n < 16777216)}{a b:Option α}(h:n < 16777216):(if n < 16777216 then a else b)=a:=if_pos h
theorem zju{α:Type}{xs:List α}{r:Int}(h0:0<=r)(h1:r < (xs.length:Int)):∃ a,atI xs r=some a/\a∈xs/\xs[r.toNat]?=some a:=by
 have hk:r.toNat < xs.length:=by omega
 have ek:r=((r.toNat:Nat):Int):=by omega
 have q:atI xs ((r.toNat:Nat):Int)=some xs[r.toNat]:=zd0 (ql hk);rw [<-ek]at q;exact⟨_,q,List.getElem_mem hk,ql hk⟩
theorem zxT{xs:List D}{r:Int}{Q:U->Prop}(h0:0<=r)(h1:r < (xs.length:Int))(k:∀ a∈xs,Q (.d a)):Wo ((atI xs r).map U.d) Q:=by
 obtain⟨a,e,m,_⟩:=zju h0 h1;rw [e];exact⟨_,rfl,k a m⟩
theorem zxU{α:Type}{f:α->D}{xs:List α}{r:Int}{Q:U->Prop}(h0:0<=r)(h1:r < (xs.length:Int))(k:∀ a∈xs,xs[r.toNat]?=some a->Q (.d (f a))):Wo ((atI (xs.map f) r).map U.d) Q:=by
 obtain⟨a,e,m,z⟩:=zju (xs:=xs.map f) h0 (by rw [List.length_map]; exact h1);rw [List.getElem?_map]at z;obtain⟨b,hb,rfl⟩:=qq.mp z;rw [e];exact⟨_,rfl,k b (List.mem_of_getElem? hb) hb⟩
theorem zvT{lo:Int}{n i:Nat}{d:D}(h:(zao lo n)[i]?=some d):i < n/\d=.int (lo+(i:Nat)):=ziv h
theorem zmk{lo:Int}{n:Nat}:(zao lo n).length=n:=by
 unfold zao;rw [List.length_map,List.length_range]
theorem zra{ρ:En}{mg:MG}{m1:MS}{n:Nat}{Q:Fl->Prop}(P:Nat->En->Prop)(h0:P 0 ρ)(st:∀ i ρ,i < n->P i ρ->Wo (mg (.int (0+(i:Nat))) ρ) (Co m1 ⟨0⟩ (zkO Q (P (i+1)))))(hQ:∀ ρ,P n ρ->Q (.nx ρ)):Wo (zbP mg m1 (zao 0 n) ρ) Q :=
 zgB P h0 (fun i d ρ hd hp=>by
  obtain⟨hi,rfl⟩:=zvT hd;exact st i ρ hi hp) fun ρ hp=>hQ ρ (by rw [zmk]at hp; exact hp)
theorem zt2{ρ:En}{mg:MG}{mt:MT}{me:ME}{nt n:Nat}{Q:List D×En->Prop}(P:Nat->En->List D->Prop)(hz:n<=sizeLine)(h0:P 0 ρ [])(hP:∀ i ρ ys,P i ρ ys->ys.length<=i)(st:∀ i ρ ys,i < n->P i ρ ys->Wo (mg (.int (0+(i:Nat))) ρ) (Co mt ⟨0⟩ (kLC nt me ys (P (i+1)))))(hQ:∀ ρ ys,P n ρ ys->Q (ys,ρ)):Wo (lcM nt mg mt me (zao 0 n) ρ []) Q :=
 zq8 P (by rw [zmk]; exact hz) hP h0 (fun i d ρ ys hd hp=>by
  obtain⟨hi,rfl⟩:=zvT hd;exact st i ρ ys hi hp) fun ρ ys hp=>hQ ρ ys (by rw [zmk]at hp; exact hp)
def Asc(n:Nat)(z:Str):Prop:=z.length<=n/\∀ c∈z.cps.toList,c < 128
theorem Asc.mono{n m:Nat}{z:Str}(h:Asc n z)(hm:n<=m):Asc m z:=⟨qx h.1 hm,h.2⟩
theorem Asc.app{n m:Nat}{x y:Str}(hx:Asc n x)(hy:Asc m y):Asc (n+m) (x++y):=⟨by rw [PySem.Str.length_append]; have:=hx.1; have:=hy.1; omega,fun c hc=>by
 rw [PySem.Str.cps_append,Array.toList_append,List.mem_append]at hc;exact hc.elim (hx.2 c) (hy.2 c)⟩
theorem Asc.one{c:Nat}(h:c < 128):Asc 1 ⟨#[c]⟩:=⟨qe _,fun d hd=>by
 cases qp.mp hd;exact h⟩
theorem Asc.join{n:Nat}:∀ {ys:List Str},(∀ z∈ys,Asc n z)->Asc (ys.length * n) (PySem.Str.join "" ys)
 | [],_=>⟨Nat.zero_le _,fun c hc=>by cases hc⟩
 | [x],h=>(h x qo).mono (by simp)
 | x::y::r,h=>by
  have:=((h x qo).app (show Asc 0 "" from⟨qe _,fun c hc=>by cases hc⟩)).app (Asc.join fun z hz=>h z (qm _ hz));exact this.mono (by simp only [qt,Nat.add_mul]; omega)
theorem zo0{n:Nat}{ys:List Str}(h:∀ z∈ys,Asc n z):Asc (ys.length * n) (Txt.join "" ys):=by
 show Asc _ (PySem.Builtin.Str.glued "" ys);rw [PySem.StrLaws.glued_eq_join];exact Asc.join h
theorem Asc.slice{n:Nat}{z:Str}(h:Asc n z)(lo hi:Option Int):Asc n (Txt.slice z lo hi):=by
 refine⟨qx (Txt.slice_le _ _ _) h.1,?_⟩;unfold Txt.slice;split
 ·exact h.2
 ·intro c hc
  rw [List.toList_toArray,List.mem_filterMap]at hc;obtain⟨i,_,e⟩:=hc;exact h.2 c (Array.mem_toList_iff.mpr (Array.mem_of_getElem? e))
theorem zxV{x y:Str}(h:x.length+y.length<=16777216):zfp (.d (.str x)) (.d (.str y))=some (.d (.str (x++y))):=by
 unfold zfp;dsimp only;rw [if_pos (by rw [zl]; exact h)]
theorem zhi{n m:Nat}{x y:Str}{Q:U->Prop}(hx:Asc n x)(hy:Asc m y)(hn:n+m<=1000)(k:Asc (n+m) (x++y)->Q (.d (.str (x++y)))):Wo (zfp (.d (.str x)) (.d (.str y))) Q:=by
 rw [zxV (by have:=hx.1; have:=hy.1; omega)];exact⟨_,rfl,k (hx.app hy)⟩
theorem zgC{z:Str}{r:Int}{Q:U->Prop}(h0:0<=r)(h1:r < (z.length:Int))(hz:z.length<=1000)(k:∀ c∈z.cps.toList,Q (.d (.str ⟨#[c]⟩))):Wo (zmh (.d (.str z)) (.d (.int r))) Q:=by
 have hl:z.length=z.cps.toList.length:=by rw [Array.length_toList]; rfl
 obtain⟨c,e,m,_⟩:=zju (xs:=z.cps.toList) h0 (by rw [<-hl]; exact h1);unfold zmh;dsimp only;rw [if_pos (by rw [zl]; omega),e];exact⟨_,rfl,k c m⟩
theorem ziG:∀ (zs:List Str),(zs.map PyData.str).mapM ztV=some zs
 | []=>rfl
 | z::zs=>by
  rw [List.map_cons,List.mapM_cons,ziG zs];rfl
theorem zkR{n:Nat}:∀ {ys:List Str},(∀ z∈ys,z.length<=n)->(ys.map (·.length)).sum<=ys.length * n
 | [],_=>by simp
 | y::ys,h=>by
  have:=zkR (ys:=ys) fun z hz=>h z (qm _ hz);have:=h y qo;simp only [List.map_cons,List.sum_cons,qt,Nat.add_mul];omega
theorem znV{n m:Nat}{zs:List Str}{Q:U->Prop}(h:∀ z∈zs,Asc n z)(hl:zs.length<=m)(hm:m * n<=1000)(k:Asc (m * n) (Txt.join "" zs)->Q (.d (.str (Txt.join "" zs)))):Wo (ziC (.d (.str "")) (.l (zs.map PyData.str))) Q:=by
 have h1:=zkR (n:=n) fun z hz=>(h z hz).1;have h2:zs.length * n<=m * n:=Nat.mul_le_mul_right _ hl;unfold ziC;dsimp only;rw [ziG,bd,if_pos (by rw [show(("":Str)).length=0 by decide,Nat.mul_zero]; omega)];exact⟨_,rfl,k ((zo0 h).mono h2)⟩
theorem zhj:∀ (zs:List Str),(zs.map PyData.str).mapM flD=some (zs.map V.str)
 | []=>rfl
 | z::zs=>by
  rw [List.map_cons,List.mapM_cons,zhj zs];rfl
theorem zjv{xs ys:List D}(h:xs.length+ys.length<=16777216):zeV (.d (.tuple xs)) (.d (.tuple ys))=some (.d (.tuple (xs++ys))):=by
 cases xs with
 | nil=>rfl
 | cons x xs =>
  show zkD (.d (.tuple (x::xs))) (.d (.tuple ys))=_;unfold zkD;dsimp only;rw [if_pos ⟨by simp,by rw [zl]; exact h⟩]
structure Nic (k M:Nat) (d:D):Prop where
 lay:d.canLay0=true
 dep:d.depth<=k
 shw:d.showable=true
 len:d.shown.length<=M
theorem Nic.shaped{k M:Nat}{d:D}(h:Nic k M d)(hk:k<=64):SeqAt.shaped d=true:=by
 unfold SeqAt.shaped;rw [h.lay,Bool.true_and];exact decide_eq_true (qx h.dep hk)
section
variable {X:Cx} {K:qc}
end
section
variable {X:Cx} {pos:Pos}
end
section
variable {K:qc}
def zAO:U->Option U
 | .d (.int i)=>if i.natAbs.log2 < 1920 then some (.d (.str (toString i)))else none
 | .d (.str z)=>if z.length<=sizeLine then some (.d (.str z))else none
 | _=>none
abbrev MJ:=En->Str->Option (Str×En)
def U.sr:U->Option Str
 | .d (.str z)=>some z
 | _=>none
end
section
variable {ρ:En} {me:ME} {mj:MJ} {QE:Ar×En->Prop} {QJ:Str×En->Prop} {acc z y:Str} {i:Int}
end
end L2
namespace L2
open PySem PySem.Spec PyProof.Rows PySem.NumText
abbrev ts(n:Int):Str:=PySem.Str.ofString (toString n)
end L2
namespace L2
open PySem PySem.Spec PyProof.Rows
section
variable {X:Cx} {o e f:Expr} {apos cpos:Pos} {td ty tx:TE} {k:Nat}
theorem zd9(hr:Room k X.A)(ho:Wr (PE X o td))(he:Wr (PE X e ty))(hf:Wr (PE X f tx))(m:M2 X o "get" apos e f cpos):Wr (PE X (.Call (.Attribute o "get" apos) [e,f] [] cpos) (zlQ X.K td ty tx)):=⟨zpY (zkk hr) ho.run he.run hf.run m⟩
end
section
variable {K:qc}
def zhk:U->Bool
 | .t _=>true
 | .k _=>true
 | .d (.dict kvs)=>noX kvs
 | _=>false
theorem zrb{H:Hp}{x:V}{u:U}(h:Rp K H x u)(e:zhk u=true):∃ a,x=.ref a/\IsD H a:=by
 unfold zhk at e;split at e
 ·obtain⟨a,ws,rfl,h1,_⟩:=h
  exact⟨a,rfl,.inr ⟨_,.inl h1⟩⟩
 ·obtain⟨a,ws,rfl,h1,_⟩:=h
  exact⟨a,rfl,.inl ⟨_,.inl h1⟩⟩
 ·obtain⟨a,ob,ws,rfl,h1,_⟩:=DF.dct_inv h e
  exact⟨a,rfl,.inr ⟨_,.inr ⟨ob,h1⟩⟩⟩
 ·cases e
def zcS(md my mx:ME):ME:=fun ρ=>(md ρ).bind fun p=>(p.1.get p.2).bind fun u0=>if zhk u0=true then(my p.2).bind fun q=>(mx q.2).bind fun z=>(p.1.get z.2).bind fun u=>(q.1.get z.2).bind fun y=>(z.1.get z.2).bind fun x=>(zhV u y).bind fun o=>match x with
 | .d x=>some (.u (.d (o.getD x)),z.2)
 | _=>none else none
theorem zea{td ty tx:TE}{md my mx:ME}(hd:VE K td md)(hy:VE K ty my)(hx:VE K tx mx):VE K (zlQ K td ty tx) (zcS md my mx):=by
 intro ρ σ H a ρ' Q r e q;obtain⟨⟨a1,ρ1⟩,e1,e⟩:=zb e;obtain⟨u0,e0,e⟩:=zb e;split at e
 rotate_left
 ·cases e
 rename_i hu0;obtain⟨⟨b1,ρ2⟩,e2,e⟩:=zb e;obtain⟨⟨c1,ρ3⟩,e3,e⟩:=zb e;obtain⟨u,eu,e⟩:=zb e;obtain⟨y,ey,e⟩:=zb e;obtain⟨x,ex,e⟩:=zb e;obtain⟨o,eo,e⟩:=zb e;split at e
 rotate_left
 ·cases e
 cases e;refine hd ρ σ H a1 ρ1 _ r e1 fun v1 H1 g1 k1=>?_;obtain⟨b,rfl,hb⟩:=zrb (k1.now r g1 e0) hu0;refine⟨b,rfl,hb,hy ρ1 σ H1 b1 _ _ g1.rs e2 fun v2 H2 g2 k2=>hx ρ2 σ H2 c1 _ _ g2.rs e3 fun v3 H3 g3 k3=>?_⟩;obtain⟨b',eb,h⟩:=znl (k1.later r g1 (g2.trans g3) eu) (k2.later g1.rs g2 g3 ey) eo;cases eb;have p3:=k3.now g2.rs g3 ex;rcases h with ⟨w,d',rfl,g,p⟩ | ⟨rfl,g⟩
 ·exact⟨_,g,q w H3 ((g1.trans g2).trans g3) ⟨p,Nw.data⟩⟩
 ·exact⟨_,g,q v3 H3 ((g1.trans g2).trans g3) ⟨p3,Nw.data⟩⟩
def zxW:=fI fun i j=>.int (Builtin.bitAnd i j)
theorem zxX:VO K (rI0 fun i j=>.int (Builtin.bitAnd i j)) zxW:=zl2 fun i j H=>.int _
end
theorem zrc:Manifest.canonical (String.map (fun c=>if(c.isAlphanum || c=='_' || c=='.')=true then c else '_') "dict_itemiterator.__iter__") ++ "" = "dict_keyiterator.__iter__":=by decide +kernel
theorem zrd:entryFor table "dict_itemiterator.__iter__"=some Builtin.«dict_keyiterator.__iter__»:=entryFor_alias (by kernel_rfl) (by kernel_rfl) zrc (by kernel_rfl)
section
variable {prog:Program} {w:World} {A:Around} {E:Value->Shared->Prop} {s:Shared} {it d:Addr} {i ep:Nat} {es:Array DictEntry} {ok ov:Value}
theorem zeo{T:Value}{vs:Array Value}{j:Nat}{x:Value}{Q:Unit->Shared->Prop}(e:s.heap.get? it=some { cls:=T,data:=.fields vs })(hj:j < vs.size)
  (q:∀ h':Heap,h'.get? it=some { cls:=T,data:=.fields (vs.setIfInBounds j x) }->h'.objs.size=s.heap.objs.size->(∀ b o,b≠it->s.heap.get? b=some o->h'.get? b=some o)->Q () { s with heap:=h' }):wpAny (model prog w) A (setField (.ref it) j x) Q E s:=by
 refine wpAny_setField e rfl hj (q _ ?_ ?_ fun b o hb z=>?_)
 ·exact Heap.get?_update_self _ e (Obj.isFreed_of_fields (Obj.data_mapFields rfl _))
 ·exact Heap.size_update ..
 ·exact((Heap.SameBut.update ..).2 b hb).trans z
theorem zo1{Q:Option Value->Shared->Prop}(k:IsItemIter s.heap it d i es.size ep ok ov)(r:zcO s.heap d es ep){x:DictEntry}(hx:es[i]?=some x)
  (q:∀ h':Heap,IsItemIterOut h' it d (i+1) es.size ep x.key x.val s.heap.objs.size->h'.get? s.heap.objs.size=some { cls:=.type "tuple",data:=.seq #[x.key,x.val] }->(∀ b o,b≠it->s.heap.get? b=some o->h'.get? b=some o)->Q (some (.ref s.heap.objs.size)) { s with heap:=h' }):wpAny (model prog w) A (pyNext (.ref it)) Q E s:=by
 have kT:s.TypeIs (.ref it) "dict_itemiterator":=⟨_,k,rfl⟩;obtain⟨o,e,_,dat⟩:=r;have nit:s.heap.objs.size≠it:=Ne.symm (qj (qh k));unfold pyNext;refine qa (wpAny_attempt (wpAny_callSpecial?_slot (name:=Str.ofString "__next__") kT F.slot_dict_itemiterator_next
  (wpAny_call_entry F.slot_dict_itemiterator_next kT F.entry_dict_itemiterator_next ?_ (F.args_dict_itemiterator_next_1 _))))
 refine qa (qb (qa (qa ?_)));refine qa (wpAny_typeNameOfWhole_itemiter kT (qb (qa (wpAny_fieldsOf k rfl ?_))));simp only [show Builtin.Dict_items.ownsTuple "dict_itemiterator"=true by decide,if_true];show wpAny _ _ (if(Value.ref d==Value.none)=true then _ else _) _ _ s;rw [if_neg (show ¬((Value.ref d==Value.none)=true) from qf)];refine qa (qb (qa (wpAny_dictEntries e dat ?_)));rw [if_neg (by simp)];refine qa (qb (qa (wpAny_dictEpoch e dat ?_)));rw [if_neg (by simp)];refine qb ?_;simp only [show ¬((i:Int) < 0) from by omega,if_false,Int.toNat_natCast,hx];refine qa (qa (wpAny_typeNameOfWhole_itemiter kT (qb (qa (wpAny_isOneOf_itemiter kT ?_)))));show wpAny _ _ (setField (.ref it) 3 (rawInt ((i:Int)+1)) >>= _) _ _ s;refine qa (zeo k (by simp) fun h1 k1 z1 f1=>?_);refine qa (wpAny_holding ?_);have kT1:Shared.TypeIs { s with heap:=h1 } (.ref it) "dict_itemiterator":=⟨_,k1,rfl⟩;refine qa (wpAny_isOneOf_itemiter kT1 ?_);show wpAny _ _ (Builtin.Dict_items.isOneOf (.ref it) _ >>= _) _ _ _;refine qa (wpAny_isOneOf_itemiter kT1 ?_);show wpAny _ _ (Builtin.Dict_items.pairFromOwner (.ref it) 6 x.key x.val) _ _ _;unfold Builtin.Dict_items.pairFromOwner;simp only [newTuple];refine qa (qy ?_ (by show(2:Nat)<=sizeLine; decide));have k2:(h1.push { cls:=.type "tuple",data:=.seq #[x.key,x.val] }).get? it=_:=qd _ k1;have t2:(h1.push { cls:=.type "tuple",data:=.seq #[x.key,x.val] }).get? h1.objs.size=_:=qg _ rfl;have f2:∀ b o,b≠it->s.heap.get? b=some o->(h1.push { cls:=.type "tuple",data:=.seq #[x.key,x.val] }).get? b=some o:=fun b o hb z=>qd _ (f1 b o hb z);rw [z1]at t2;show wpAny _ _ _ _ _ { s with heap:=h1.push { cls:=.type "tuple",data:=.seq #[x.key,x.val] } };generalize h1.push { cls:=.type "tuple",data:=.seq #[x.key,x.val] }=h2 at k2 t2 f2 ⊢;rw [z1];unfold Builtin.Dict_items.ownedTupleIsFree;refine qa (qa (wpAny_field k2 rfl (x:=.none) rfl (qb ?_)));show wpAny _ _ (if true=true then _ else _) _ _ _;rw [if_pos rfl];show wpAny _ _ (field (.ref it) 6 >>= _) _ _ _;refine qa (wpAny_field k2 rfl (x:=ok) rfl ?_);refine qa (wpAny_field k2 rfl (x:=ov) rfl ?_);refine qa (zeo k2 (by simp) fun h3 k3 z3 f3=>?_);refine qa (zeo k3 (by simp) fun h4 k4 z4 f4=>?_);refine qa (zeo k4 (by simp) fun h5 k5 z5 f5=>?_);refine qa (zeo k5 (by simp) fun h6 k6 z6 f6=>?_);refine qa (wpAny_letGo (qb (qb ⟨_,rfl,qb (q _ ?_ ?_ fun b o hb z=>?_)⟩)))
 ·show h6.get? it=_
  rw [k6];rfl
 ·exact f6 _ _ nit (f5 _ _ nit (f4 _ _ nit (f3 _ _ nit t2)))
 ·exact f6 b o hb (f5 b o hb (f4 b o hb (f3 b o hb (f2 b o hb z))))
theorem zre{Q:Option Value->Shared->Prop}(hh:A.handled=none)(k:IsItemIter s.heap it d i es.size ep ok ov)(r:zcO s.heap d es ep)(hx:es.size<=i)
  (q:∀ h':Heap,Heap.ExtBut it s.heap h'->Q none { s with heap:=h' }):wpAny (model prog w) A (pyNext (.ref it)) Q E s:=by
 have kT:s.TypeIs (.ref it) "dict_itemiterator":=⟨_,k,rfl⟩;obtain⟨o,e,_,dat⟩:=r;unfold pyNext;refine qa (wpAny_attempt (wpAny_callSpecial?_slot (name:=Str.ofString "__next__") kT F.slot_dict_itemiterator_next
  (wpAny_call_entry F.slot_dict_itemiterator_next kT F.entry_dict_itemiterator_next ?_ (F.args_dict_itemiterator_next_1 _))))
 refine qa (qb (qa (qa ?_)));refine qa (wpAny_typeNameOfWhole_itemiter kT (qb (qa (wpAny_fieldsOf k rfl ?_))));simp only [show Builtin.Dict_items.ownsTuple "dict_itemiterator"=true by decide,if_true];show wpAny _ _ (if(Value.ref d==Value.none)=true then _ else _) _ _ s;rw [if_neg (show ¬((Value.ref d==Value.none)=true) from qf)];refine qa (qb (qa (wpAny_dictEntries e dat ?_)));rw [if_neg (by simp)];refine qa (qb (qa (wpAny_dictEpoch e dat ?_)));rw [if_neg (by simp)];refine qb ?_;simp only [show ¬((i:Int) < 0) from by omega,if_false,Int.toNat_natCast,Array.getElem?_eq_none hx];refine qa (qa (wpAny_typeNameOfWhole_itemiter kT (qb ?_)));show wpAny _ _ (setField (.ref it) 2 .none >>= _) _ _ s;refine qa (wpAny_setField k rfl (by simp) ?_);show wpAny _ _ (newExc (.type "StopIteration") [] >>= _) _ _ _;refine qa ?_;simp only [newExc,newTuple];refine qa (qy ?_ (by show(0:Nat)<=sizeLine; exact Nat.zero_le _));refine qa (m:=firstArgMember _ _) (wpAny_of_eq (a:=Value.none) (by first | rfl | (simp only [firstArgMember]; rfl)) ?_);refine qy ?_ (by first | trivial | size_fits);simp only [raiseNew];refine qa (wpAny_handled ?_);rw [show A.in1.handled=none from hh];refine qa (qb (wpAny_throw ?_));refine qa (wpAny_isInstance (T := "StopIteration") (b:=true) ⟨_,qg _ rfl,rfl⟩ isSubtype_stop ?_);exact qb (q _ (((Heap.SameBut.update ..).extBut.push _).push _))
theorem zo2{Q:Value->Shared->Prop}(hd:(d==sysModules)=false)(r:zcO s.heap d es ep)
  (q:Q (.ref s.heap.objs.size) { s with heap:=s.heap.push { cls:=.type "dict_items",data:=.fields #[.ref d] } }):wpAny (model prog w) A (call (.builtin "dict.items") [.ref d]) Q E s:=by
 have hT:=r.typeIs;obtain⟨o,e,_,dat⟩:=r;refine wpAny_call_entry F.slot_dict_items hT F.entry_dict_items ?_ (F.args_dict_items_1 _);unfold Builtin.«dict.items» Builtin.Dict.noArgs;refine qa (qa (wpAny_notOrdered_dict hT ?_));refine qa (qb ?_);refine qa (qb (qb ?_));unfold Builtin.Dict.showsAll;rw [hd,if_neg qf];refine qa (qb ?_);unfold newFields;exact qa (qy (qb ⟨_,rfl,q⟩))
theorem zo3{v:Addr}{Q:Value->Shared->Prop}(hv:s.heap.IsItemsView v d)(r:zcO s.heap d es ep)
  (q:∀ h':Heap,IsItemIter h' s.heap.objs.size d 0 es.size ep .none .none->(∀ b o,s.heap.get? b=some o->h'.get? b=some o)->Q (.ref s.heap.objs.size) { s with heap:=h' }):wpAny (model prog w) A (pyIter (.ref v)) Q E s:=by
 obtain⟨o,e,_,dat⟩:=r;obtain⟨o2,e2,c2,d2⟩:=id hv;have hT:=hv.typeIs (s:=s);refine wpAny_pyIter_slot hT F.slot_dict_items_iter (wpAny_call_entry F.slot_dict_items_iter hT F.entry_dict_items_iter ?_ (F.args_dict_items_iter_1 _));unfold Builtin.«dict_items.__iter__»;refine qa (qb ?_);unfold Builtin.Dict_items.dictOf;refine qa (qa (wpAny_field e2 d2 (x:=.ref d) rfl (qb ?_)));unfold Builtin.Dict_items.newIterator;refine qa (qa (wpAny_dictEntries e dat (qa (wpAny_dictEpoch e dat ?_))));unfold newFields;refine qy (qb ⟨_,rfl, "dict_itemiterator",_,⟨_,qg _ rfl,rfl⟩,F.slot_dict_itemiterator_next.lookup,?_⟩) (by rw [show Builtin.Dict_items.ownsTuple "dict_itemiterator"=true by decide,if_pos rfl]; show(8:Nat)<=sizeLine+2; decide);exact q _ (qg _ rfl) fun b o z=>qd _ z
end
theorem zc4{X:Cx}{pins:List (Addr×Obj)}{σ:St}{H:Hp}{s:Shared}{a:Addr}{o:Obj}{kvs:List (List Key×V)}(I:Inv X pins σ H s)(e:H a=some (.frz o (.dT kvs))) :
  (a==sysModules)=false/\∃ (es:Array DictEntry) (ep:Nat),s.heap.get? a=some o/\o.ExactDict/\o.data=.dict es ep/\es.size=kvs.length/\∀ (i:Nat) (k:List Key) (v:V),kvs[i]?=some (k,v)->∃ (b:Addr) (x:DictEntry),es[i]?=some x/\x.key=.ref b/\TpK X.K H b (k.map kV)/\zJ v x.val:=by
 obtain⟨ea,z,y,xs,r,o',es,ep,h1,h2,h3,h4,h5⟩:=(show zX X.prog X.w X.K H s.heap a (.frz o (.dT kvs)) from I.hok a _ e);rw [ea]at h1;cases h1;refine⟨y,es,ep,ea,h2,h3,?_,fun i k v hi=>?_⟩
 ·have:=congrArg List.length h4
  rw [Array.length_toList,List.length_map,<-zaC r]at this;exact this
 ·obtain⟨q,hq,r1,r2,r3⟩:=zeP r i (k,v) hi
  refine⟨q.2.1,entryOfKey (tupleKind (zT X.prog X.w)) q,?_,rfl,r2,r3⟩;have:es.toList[i]?=some (entryOfKey (tupleKind (zT X.prog X.w)) q):=by rw [h4,List.getElem?_map,hq]; rfl
  simpa using this
def ItI(K:qc)(a:Addr)(o:Obj)(kvs:List (List Key×V)):It :=
 ⟨fun i H=>H a=some (.frz o (.dT kvs))/\i < kvs.length,fun i H x H'=>∃ T,H T=none/\x=.ref T/\∀ k v,kvs[i]?=some (k,v)->∃ b,TpK K H b (k.map kV)/\H'=upd H T (.tup [.ref b,v]),fun i H=>H a=some (.frz o (.dT kvs))/\kvs.length<=i⟩
theorem zml{P:Program}{w:World}{K:qc}{elts:List Expr}{k:Nat}{pos:Pos}(a it:Addr)(o:Obj)(kvs:List (List Key×V))(ep:Nat)(hep:∃ es,o.data=.dict es ep):Turn P w K (.Tuple elts k pos) (ItI K a o kvs) [it] it (fun i h=>∃ ok ov,IsItemIter h it a i kvs.length ep ok ov) where
 mem:=by simp
 obj:=fun i h st b hb=>by
  have e:b=it:=by simpa using hb
  subst e;obtain⟨ok,ov,e⟩:=st;exact⟨_,e,fun v z=>by
   have z':Data.fields _=Data.cell v:=z;cases z'⟩
 keep:=fun i h h' st k=>by
  obtain⟨ok,ov,e⟩:=st;exact⟨ok,ov,k it (by simp) _ e⟩
 item:=by
  intro X hP hw hK hc i pins s σ H E I hf st hg;subst hP hw hK;obtain⟨e,hi⟩:=hg;obtain⟨ok,ov,st⟩:=st;obtain⟨hsm,es,ep',ea,xd,dat,hsz,ent⟩:=zc4 I e;have eep:ep'=ep:=by
   obtain⟨es',z⟩:=hep;rw [dat]at z;injection z
  subst eep;obtain⟨b,x,ex,kx,hb,rv⟩:=ent i kvs[i].1 kvs[i].2 (ql hi);refine zo1 (es:=es) (by rw [hsz]; exact st) ⟨o,ea,xd,dat⟩ ex fun h1 st1 isT kk=>?_;refine⟨_,rfl,wpAny_letOwnedTupleGo_items (s:={ s with heap:=h1 }) st1 fun h2 st2 sb=>?_⟩;have nit:s.heap.objs.size≠it:=Ne.symm (qj (qh st));have I2:Inv X pins σ H { s with heap:=h2 }:=I.turnedW (t':=s.toks) (wr:=[it]) (fun b o hb q=>(sb.2 b (by simpa using hb)).trans (kk b o (by simpa using hb) q)) hf;have fT:zcc X pins H s.heap.objs.size:=I.fpOk (qe _) (I.hok.fresh (qe _));rw [kx]at isT;have I3:Inv X pins σ (upd H s.heap.objs.size (.tup [.ref b,kvs[i].2])) { s with heap:=h2 }:=I2.track fT I.sz ⟨by show 2<=sizeLine; decide,[.ref b,x.val],.cons rfl (.cons rv .nil),_,(sb.2 _ nit).trans isT,rfl,⟨_,rfl⟩,.inl rfl⟩;refine⟨.ref s.heap.objs.size,_,I3,rfl,⟨_,I.hok.fresh (qe _),rfl,fun k v hkv=>⟨b,?_,?_⟩⟩,⟨_,_,by rw [<-hsz]; exact st2⟩,fun c hc=>?_⟩
  ·rw [ql hi]at hkv
   rw [qw hkv]at hb;exact hb
  ·rw [ql hi]at hkv
   rw [qw hkv]
  ·have e:c=it:=by simpa using hc
   subst e;rw [zu (Ne.symm nit)];exact(hf c hc).1
 done:=by
  intro X hP hw hK hc i pins s σ H E I hf st hg;subst hP hw hK;obtain⟨e,hi⟩:=hg;obtain⟨ok,ov,st⟩:=st;obtain⟨hsm,es,ep',ea,xd,dat,hsz,ent⟩:=zc4 I e;have eep:ep'=ep:=by
   obtain⟨es',z⟩:=hep;rw [dat]at z;injection z
  subst eep;obtain⟨f0,f1,f2,f3,f4,f5⟩:=hf it (by simp);exact zre (es:=es) (I.ok.hd hc) (by rw [hsz]; exact st) ⟨o,ea,xd,dat⟩ (by omega) fun h' eb=>⟨rfl,I.turned (t':=s.toks) (fun b o hb e=>eb b o hb e) f0 f1 f3 f4 f5⟩
 self:=fun _ _ _ _ _ st h=>by
  obtain⟨ok,ov,st⟩:=st;exact wpAny_pyIter_slot ⟨_,st,rfl⟩ F.slot_dict_itemiterator_iter (wpAny_call_entry F.slot_dict_itemiterator_iter ⟨_,st,rfl⟩ zrd (qb ⟨_,rfl, "dict_itemiterator",_,⟨_,st,rfl⟩,F.slot_dict_itemiterator_next.lookup,h⟩) (F.args_dict_itemiterator_iter_1 _))
section
variable {X:Cx} {elts:List Expr} {kk:Nat} {tpos:Pos}
def zrf(K:qc)(td:TE):TI:=fun σ H R=>td σ H fun x H1=>∃ a o kvs,x=.ref a/\H1 a=some (.frz o (.dT kvs))/\R (ItI K a o kvs) H1
theorem zcw{d:Expr}{td:TE}{apos cpos:Pos}(hd:Wr (PE X d td))(hbase:attributeBase d "items" X.env (eval d X.env)=eval d X.env:=by rfl)(hline:(apos.endLine==cpos.line)=true:=by rfl):Wr (PI X (.Tuple elts kk tpos) (.Call (.Attribute d "items" apos) [] [] cpos) (zrf X.K td)):=by
 refine⟨?_⟩;intro pins s σ H R I h;refine wpAny_Call_method0_late hbase hline (thn (hd.run pins s σ H _ I h) fun v s1 ⟨x,H1,I1,r1,q1⟩=>?_);obtain⟨a,o,kvs,rfl,e,q⟩:=q1;cases r1;obtain⟨hsm,es,ep,ea,xd,dat,hsz,_⟩:=zc4 I1 e;have rw1:zcO s1.heap a es ep:=⟨o,ea,xd,dat⟩;refine⟨"dict", "dict.items",F.plainAttrs_dict,F.slot_dict_items,F.type_dict_items,rw1.typeIs,fun b hb=>?_,Calls.callWith_builtin rfl (PySem.evalArgs_none (zo2 hsm rw1 ?_))⟩
 ·cases hb
  exact⟨o,ea,xd.2.1⟩
 have I2:Inv X pins σ H1 { s1 with heap:=s1.heap.push { cls:=.type "dict_items",data:=.fields #[.ref a] } }:=I1.kept (t':=s1.toks) fun b o z=>qd _ z;refine zo3 (v:=s1.heap.objs.size) (s:={ s1 with heap:=s1.heap.push { cls:=.type "dict_items",data:=.fields #[.ref a] } }) ⟨_,qg _ rfl,rfl,rfl⟩ ⟨o,qd _ ea,xd,dat⟩ fun h' hit kk2=>?_;refine⟨_,_,_,_,H1,rfl,I2.kept (t':=s1.toks) kk2,zml a _ o kvs ep ⟨es,dat⟩,⟨_,_,by rw [<-hsz]; exact hit⟩,fun b hb=>?_,q⟩;rw [qp.mp hb];exact I2.fpOk (qe _) (I2.hok.fresh (qe _))
end
def zcj:U->Option (List D)
 | .d (.dict kvs)=>if noX kvs=true then some (kvs.map fun p=>.tuple [p.1,p.2])else none
 | _=>none
theorem zjw{K:qc}{H:Hp}:∀ {ws:List (List Key×V)} {kvs:List (D×D)},DFt K H ws kvs->∀ {i:Nat} {p:D×D},kvs[i]?=some p->∃ k v,ws[i]?=some (k,v)/\p.1=kTD k/\DF K H v p.2
 | _,_,.nil,i,p,h=>by simp at h
 | _,_,.cons hv t,0,p,h=>by cases h; exact⟨_,_,rfl,rfl,hv⟩
 | _,_,.cons hv t,i+1,p,h=>zjw t (i:=i) h
theorem zjx{K:qc}{H:Hp}:∀ {ws:List (List Key×V)} {kvs:List (D×D)},DFt K H ws kvs->ws.length=kvs.length
 | _,_,.nil=>rfl
 | _,_,.cons hv t=>congrArg (·+1) (zjx t)
theorem zbQ{K:qc}{te:TE}{me:ME}(h:VE K te me):VI K (zrf K te) (mIt zcj me):=by
 intro ρ σ H ds ρ' R r e q;obtain⟨⟨a,ρ1⟩,e1,e⟩:=zb e;obtain⟨u,eu,e⟩:=zb e;obtain⟨xs,ex,e⟩:=zb e;cases e;refine h ρ σ H a _ _ r e1 fun v H1 g1 k1=>?_;have p:=k1.now r g1 eu;unfold zcj at ex;split at ex
 ·split at ex
  rotate_left
  ·cases ex
  rename_i nx;cases ex;obtain⟨b,o,ws,rfl,h1,h2⟩:=DF.dct_inv p nx;refine⟨b,o,ws,rfl,h1,q _ _ g1 fun H2 k i=>?_⟩;have h1':=k.frz _ _ _ h1;refine⟨fun d ed=>?_,fun ei=>?_⟩
  ·rw [List.getElem?_map]at ed
   obtain⟨⟨kd,vd⟩,ew,rfl⟩:=qq.mp ed;obtain⟨ks,w,ew',rfl,dv⟩:=zjw h2 ew;refine⟨⟨h1',(qk.mp ew').1⟩,fun x H' y=>?_⟩;obtain⟨T,nT,rfl,y⟩:=y;obtain⟨kb,hkb,rfl⟩:=y ks w ew';have sm:=zF nT (.tup [.ref kb,w]);exact⟨sm,.tup (.inl zt) (.cons (DF.kp sm.kp (.tup hkb zfm)) (.cons ((dv.kp k).kp sm.kp) .nil))⟩
  ·rw [List.length_map,<-zjx h2]at ei
   exact⟨h1',Nat.le_of_eq ei.symm⟩
 ·cases ex
abbrev zh1(h:Heap)(t1:Addr):Heap:=h.push { cls:=.type "tuple_iterator",data:=.fields #[.ref t1,.int 0 0] }
abbrev zh2(h:Heap)(t1 t2:Addr):Heap:=(zh1 h t1).push { cls:=.type "tuple_iterator",data:=.fields #[.ref t2,.int 0 0] }
abbrev zh3(h:Heap)(t1 t2:Addr):Heap:=(zh2 h t1 t2).push { cls:=.type "tuple",data:=.seq #[.ref h.objs.size,.ref (zh1 h t1).objs.size] }
abbrev zh4(h:Heap)(t1 t2:Addr):Heap:=(zh3 h t1 t2).push { cls:=.type "tuple",data:=.seq #[.none,.none] }
abbrev zh5(h:Heap)(t1 t2:Addr):Heap:=(zh4 h t1 t2).push { cls:=.type "zip",data:=.fields #[.none,.bool false,.bool false,.ref (zh2 h t1 t2).objs.size,.ref (zh3 h t1 t2).objs.size] }
theorem zrg(t1 t2:Addr)(xs ys:Array Value) :
  Meets (Builtin.«zip.__new__» ⟨[.type "zip",.ref t1,.ref t2],[]⟩) (fun _ R s=>s.heap.IsTuple t1 xs/\s.heap.IsTuple t2 ys /\
   R (.ok (.ret (.ref (zh4 s.heap t1 t2).objs.size))) { s with heap:=zh5 s.heap t1 t2 }) :=
 .of_wp fun prog w A R s h=>by
  obtain⟨hp,g,d,tk,os⟩:=s;obtain⟨h1,h2,h⟩:=h;have h2':Heap.IsTuple (zh1 hp t1) t2 ys:=by
   obtain⟨o,e,r⟩:=h2;exact⟨o,qd _ e,r⟩
  have hsub:=sub_zip
  wp_walk using wpAny_pyIter_tuple h1,wpAny_pyIter_tuple h2'
  exact⟨_,rfl,h⟩
section
variable {prog:Program} {w:World} {A:Around} {E:Value->Shared->Prop} {s:Shared} {z TI TO i1 i2 t1 t2:Addr} {k:Nat} {xs ys:Array Value} {x y a b:Value}
theorem zo4{Q:Option Value->Shared->Prop}(ap:ZipApart z TI TO i1 i2 t1 t2)(hz:IsZip s.heap z TI TO .none)(hI:IsPair s.heap TI (.ref i1) (.ref i2))(hO:IsPair s.heap TO a b)
  (h1:s.heap.IsTupleIter i1 t1 k) (h2:s.heap.IsTupleIter i2 t2 k) (g1:s.heap.IsTuple t1 xs) (g2:s.heap.IsTuple t2 ys) (ex:xs[k]?=some x) (ey:ys[k]?=some y)
  (q:∀ h':Heap,IsZip h' z TI TO (rawInt s.heap.objs.size)->IsPair h' TO x y->h'.IsTupleIter i1 t1 (k+1)->h'.IsTupleIter i2 t2 (k+1)->IsPair h' s.heap.objs.size x y ->
   (∀ c o,c≠z->c≠TO->c≠i1->c≠i2->s.heap.get? c=some o->h'.get? c=some o)->Q (some (.ref s.heap.objs.size)) { s with heap:=h' }):wpAny (model prog w) A (pyNext (.ref z)) Q E s:=by
 have kT:s.TypeIs (.ref z) "zip":=⟨_,hz,rfl⟩;unfold pyNext;refine qa (wpAny_attempt (wpAny_callSpecial?_slot (name:=Str.ofString "__next__") kT F.slot_zip_next (wpAny_call_entry F.slot_zip_next kT F.entry_zip_next ?_ (F.args_zip_next_1 _))));unfold Builtin.«zip.__next__»;refine qa (qb ?_);refine qa (wpAny_field hz rfl (x:=.bool false) rfl ?_);refine qa (wpAny_field hz rfl (x:=.ref TI) rfl ?_);refine qa (wpAny_seqItems hI rfl ?_);show wpAny _ _ (Builtin.SmallTypes.ownedTupleIsFree (.ref z) >>= _) _ _ s;unfold Builtin.SmallTypes.ownedTupleIsFree;refine qa (qa (wpAny_field hz rfl (x:=.none) rfl (qb ?_)));show wpAny _ _ (if true=true then _ else _) _ _ _;rw [if_pos rfl];refine qa (wpAny_rule (qa (wpAny_field hz rfl (x:=.ref TO) rfl ?_)));refine qa (zeo hz (by simp) fun ha ka za fa=>?_);have hO1:IsPair ha TO a b:=fa _ _ ap.TOz hO;have h11:ha.IsTupleIter i1 t1 k:=by
  obtain⟨o,e,r⟩:=h1;exact⟨o,fa _ _ ap.i1z e,r⟩
 have g11:ha.IsTuple t1 xs:=by
  obtain⟨o,e,r⟩:=g1;exact⟨o,fa _ _ ap.l1z e,r⟩
 refine qa ?_;show wpAny _ _ (forIn [(Value.ref i1,0),(Value.ref i2,1)] (none,()) _) _ _ _;rw [List.forIn_cons];refine qa (qa (wpAny_onRaise ?_));show wpAny _ _ (Builtin.SmallTypes.nextOf (.ref i1) >>= _) _ _ _;refine qa (zeK (s:={ s with heap:=ha }) h11 g11 ex fun hb kb sb=>qb ?_);refine qa (wpAny_seqItems (s:={ s with heap:=hb }) (o:=_) ((sb.2 _ ap.TOi1).trans hO1) rfl ?_);refine qa (wpAny_updateSeq_pair (s:={ s with heap:=hb }) ((sb.2 _ ap.TOi1).trans hO1) fun hc kc sc=>?_);refine qa (wpAny_letGo (qb ?_));show wpAny _ _ (forIn [(Value.ref i2,1)] (none,()) _) _ _ _;rw [List.forIn_cons];have keepC:∀ c o,c≠z->c≠TO->c≠i1->s.heap.get? c=some o->hc.get? c=some o:=fun c o n1 n2 n3 e=>(sc.2 c n2).trans ((sb.2 c n3).trans (fa c o n1 e));have h22:hc.IsTupleIter i2 t2 k:=by
  obtain⟨o,e,r⟩:=h2;exact⟨o,keepC _ _ ap.i2z (Ne.symm ap.TOi2) (Ne.symm ap.i12) e,r⟩
 have g22:hc.IsTuple t2 ys:=by
  obtain⟨o,e,r⟩:=g2;exact⟨o,keepC _ _ ap.l2z ap.l2TO ap.l2i1 e,r⟩
 refine qa (qa (wpAny_onRaise ?_));show wpAny _ _ (Builtin.SmallTypes.nextOf (.ref i2) >>= _) _ _ _;refine qa (zeK (s:={ s with heap:=hc }) h22 g22 ey fun hd kd sd=>qb ?_);have hO3:IsPair hd TO x b:=(sd.2 _ ap.TOi2).trans kc;refine qa (wpAny_seqItems (s:={ s with heap:=hd }) hO3 rfl ?_);refine qa (wpAny_updateSeq_pair (s:={ s with heap:=hd }) hO3 fun he ke se=>?_);refine qa (wpAny_letGo (qb ?_));show wpAny _ _ (forIn ([]:List (Value×Nat)) (none,()) _) _ _ _;rw [List.forIn_nil];refine qb ?_;have hO4:IsPair he TO x y:=ke;show wpAny _ _ (seqItems? (.ref TO) >>= _) _ _ _;refine qa (wpAny_seqItems (s:={ s with heap:=he }) hO4 rfl ?_);simp only [newTuple];refine qa (qy ?_ (by show(2:Nat)<=sizeLine; decide));have sz:he.objs.size=s.heap.objs.size:=by rw [se.1,sd.1,sc.1,sb.1]; exact za
 show wpAny _ _ (Builtin.SmallTypes.ownedTupleHandOut (.ref z) (.ref he.objs.size) >>= _) _ _ { s with heap:=he.push { cls:=.type "tuple",data:=.seq #[x,y] } };have kz:(he.push { cls:=.type "tuple",data:=.seq #[x,y] }).get? z=some { cls:=.type "zip",data:=.fields #[.ellipsis,.bool false,.bool false,.ref TI,.ref TO] } :=
  qd _ ((se.2 _ (Ne.symm ap.TOz)).trans ((sd.2 _ (Ne.symm ap.i2z)).trans ((sc.2 _ (Ne.symm ap.TOz)).trans ((sb.2 _ (Ne.symm ap.i1z)).trans ka))))
 have kt:(he.push { cls:=.type "tuple",data:=.seq #[x,y] }).get? he.objs.size=some { cls:=.type "tuple",data:=.seq #[x,y] }:=qg _ rfl;have kO:(he.push { cls:=.type "tuple",data:=.seq #[x,y] }).get? TO=_:=qd _ hO4;have k1:Heap.IsTupleIter (he.push { cls:=.type "tuple",data:=.seq #[x,y] }) i1 t1 (k+1):=by
  obtain⟨o,e,r⟩:=kb;exact⟨o,qd _ ((se.2 _ (Ne.symm ap.TOi1)).trans ((sd.2 _ ap.i12).trans ((sc.2 _ (Ne.symm ap.TOi1)).trans e))),r⟩
 have k2:Heap.IsTupleIter (he.push { cls:=.type "tuple",data:=.seq #[x,y] }) i2 t2 (k+1):=by
  obtain⟨o,e,r⟩:=kd;exact⟨o,qd _ ((se.2 _ (Ne.symm ap.TOi2)).trans e),r⟩
 have kk:∀ c o,c≠z->c≠TO->c≠i1->c≠i2->s.heap.get? c=some o->(he.push { cls:=.type "tuple",data:=.seq #[x,y] }).get? c=some o:=fun c o n1 n2 n3 n4 e =>
  qd _ ((se.2 c n2).trans ((sd.2 c n4).trans (keepC c o n1 n2 n3 e)))
 have nz:he.objs.size≠z:=by
  rw [sz];exact Ne.symm (qj (qh hz))
 generalize he.push { cls:=.type "tuple",data:=.seq #[x,y] }=hf at kz kt kO k1 k2 kk ⊢;unfold Builtin.SmallTypes.ownedTupleHandOut;refine qa (qa (zeo (s:={ s with heap:=hf }) kz (by simp) fun hg kg zg fg=>?_));refine zeo (s:={ s with heap:=hg }) kg (by simp) fun hh kh zh fh=>?_;have up:∀ c o,c≠z->hf.get? c=some o->hh.get? c=some o:=fun c o n e=>fh c o n (fg c o n e);refine qb ⟨_,rfl,qb ?_⟩;rw [sz]at kt kh nz ⊢;refine q hh kh (up _ _ ap.TOz kO) ?_ ?_ (up _ _ nz kt) fun c o n1 n2 n3 n4 e=>up _ _ n1 (kk c o n1 n2 n3 n4 e)
 ·obtain⟨o,e,r⟩:=k1
  exact⟨o,up _ _ ap.i1z e,r⟩
 ·obtain⟨o,e,r⟩:=k2
  exact⟨o,up _ _ ap.i2z e,r⟩
theorem zrh{Q:Option Value->Shared->Prop}(hh:A.handled=none)(ap:ZipApart z TI TO i1 i2 t1 t2)(hz:IsZip s.heap z TI TO .none)(hI:IsPair s.heap TI (.ref i1) (.ref i2))(hO:IsPair s.heap TO a b)
  (h1:s.heap.IsTupleIter i1 t1 k) (h2:s.heap.IsTupleIter i2 t2 k) (g1:s.heap.IsTuple t1 xs) (g2:s.heap.IsTuple t2 ys) (en:xs[k]?=none)
  (q:∀ h':Heap,(∀ c o,c≠z->c≠TO->c≠i1->c≠i2->s.heap.get? c=some o->h'.get? c=some o)->Q none { s with heap:=h' }):wpAny (model prog w) A (pyNext (.ref z)) Q E s:=by
 have kT:s.TypeIs (.ref z) "zip":=⟨_,hz,rfl⟩;unfold pyNext;refine qa (wpAny_attempt (wpAny_callSpecial?_slot (name:=Str.ofString "__next__") kT F.slot_zip_next (wpAny_call_entry F.slot_zip_next kT F.entry_zip_next ?_ (F.args_zip_next_1 _))));unfold Builtin.«zip.__next__»;refine qa (qb ?_);refine qa (wpAny_field hz rfl (x:=.bool false) rfl ?_);refine qa (wpAny_field hz rfl (x:=.ref TI) rfl ?_);refine qa (wpAny_seqItems hI rfl ?_);show wpAny _ _ (Builtin.SmallTypes.ownedTupleIsFree (.ref z) >>= _) _ _ s;unfold Builtin.SmallTypes.ownedTupleIsFree;refine qa (qa (wpAny_field hz rfl (x:=.none) rfl (qb ?_)));show wpAny _ _ (if true=true then _ else _) _ _ _;rw [if_pos rfl];refine qa (wpAny_rule (qa (wpAny_field hz rfl (x:=.ref TO) rfl ?_)));refine qa (zeo hz (by simp) fun ha ka za fa=>?_);have h11:ha.IsTupleIter i1 t1 k:=by
  obtain⟨o,e,r⟩:=h1;exact⟨o,fa _ _ ap.i1z e,r⟩
 have g11:ha.IsTuple t1 xs:=by
  obtain⟨o,e,r⟩:=g1;exact⟨o,fa _ _ ap.l1z e,r⟩
 refine qa ?_;show wpAny _ _ (forIn [(Value.ref i1,0),(Value.ref i2,1)] (none,()) _) _ _ _;rw [List.forIn_cons];refine qa (qa (wpAny_onRaise ?_));show wpAny _ _ (Builtin.SmallTypes.nextOf (.ref i1) >>= _) _ _ _;refine qa (zin (s:={ s with heap:=ha }) hh h11 g11 en fun hb e sb ⟨oe,ge,ce⟩=>?_);have kb:=sb z _ (Ne.symm ap.i1z) ka;refine zeo (s:={ s with heap:=hb }) kb (by simp) fun hc kc zc fc=>?_;have nez:e≠z:=fun h=>by
  rw [h]at ge;have z1:=qw (ge.symm.trans kb);rw [z1]at ce;have z2 : "zip" = "StopIteration":=Value.type.inj ce;exact absurd z2 (by decide)
 show wpAny _ _ (isInstance (.ref e) (.type "StopIteration") >>= _) _ _ _;refine qa (wpAny_isInstance (T := "StopIteration") (b:=true) ⟨oe,fc _ _ nez ge,ce⟩ isSubtype_stop ?_);exact qb (q hc fun c o n1 n2 n3 n4 e=>fc c o n1 (sb c o n3 (fa c o n1 e)))
end
def Itz(K:qc)(a b:Addr):It :=
 ⟨fun i H=>∃ xs ys x y,SqT K H a xs/\SqT K H b ys/\xs[i]?=some x/\ys[i]?=some y,fun i H x H'=>∃ T,H T=none/\x=.ref T/\∀ xs ys v u,SqT K H a xs->SqT K H b ys->xs[i]?=some v->ys[i]?=some u->H'=upd H T (.tup [v,u]),fun i H=>∃ xs ys,SqT K H a xs/\SqT K H b ys/\xs.length=i⟩
abbrev ZSt(z TI TO i1 i2 t1 t2:Addr)(i:Nat)(h:Heap):Prop:=IsZip h z TI TO .none/\IsPair h TI (.ref i1) (.ref i2)/\(∃ a b,IsPair h TO a b)/\h.IsTupleIter i1 t1 i/\h.IsTupleIter i2 t2 i
theorem zri{P:Program}{w:World}{K:qc}{elts:List Expr}{k:Nat}{pos:Pos}(z TI TO i1 i2 t1 t2:Addr)(ap:ZipApart z TI TO i1 i2 t1 t2) :
  Turn P w K (.Tuple elts k pos) (Itz K t1 t2) [z,TI,TO,i1,i2] z (ZSt z TI TO i1 i2 t1 t2) where
 mem:=by simp
 obj:=fun i h st c hc=>by
  obtain⟨hz,hI,⟨a,b,hO⟩,⟨o1,e1,_,d1⟩,⟨o2,e2,_,d2⟩⟩:=st;simp only [qu,List.not_mem_nil,or_false]at hc;rcases hc with rfl | rfl | rfl | rfl | rfl
  ·exact⟨_,hz,fun v q=>by
    have q':Data.fields _=Data.cell v:=q;cases q'⟩
  ·exact⟨_,hI,fun v q=>by
    have q':Data.seq _ _=Data.cell v:=q;cases q'⟩
  ·exact⟨_,hO,fun v q=>by
    have q':Data.seq _ _=Data.cell v:=q;cases q'⟩
  ·exact⟨o1,e1,fun v q=>by rw [d1]at q; cases q⟩
  ·exact⟨o2,e2,fun v q=>by rw [d2]at q; cases q⟩
 keep:=fun i h h' st kk=>by
  obtain⟨hz,hI,⟨a,b,hO⟩,⟨o1,e1,r1⟩,⟨o2,e2,r2⟩⟩:=st;exact⟨kk z (by simp) _ hz,kk TI (by simp) _ hI,⟨a,b,kk TO (by simp) _ hO⟩,⟨o1,kk i1 (by simp) _ e1,r1⟩,⟨o2,kk i2 (by simp) _ e2,r2⟩⟩
 item:=by
  intro X hP hw hK hc i pins s σ H E I hf st hg;subst hP hw hK;obtain⟨xs,ys,x,y,hq1,hq2,hx,hy⟩:=hg;obtain⟨hz,hI,⟨a,b,hO⟩,h1,h2⟩:=st;obtain⟨its1,rv1,ht1,_⟩:=I.tuple hq1;obtain⟨its2,rv2,ht2,_⟩:=I.tuple hq2;obtain⟨u1,eu1,r1⟩:=rv1.get hx;obtain⟨u2,eu2,r2⟩:=rv2.get hy;refine zo4 ap hz hI hO h1 h2 ht1 ht2 (by simpa using eu1) (by simpa using eu2) fun h' z' O' k1 k2 isT kk=>?_;refine⟨_,rfl,wpAny_letOwnedTupleGo_zip (s:={ s with heap:=h' }) z' fun h2' z2 sb=>?_⟩;have nm:s.heap.objs.size∉[z,TI,TO,i1,i2]:=fun hm=>by
   have:s.heap.objs.size < s.heap.objs.size:=by
    simp only [qu,List.not_mem_nil,or_false]at hm;obtain⟨_,e1,_⟩:=h1;obtain⟨_,e2,_⟩:=h2;rcases hm with h | h | h | h | h
    ·exact qi (h▸qh hz) (qe _)
    ·exact qi (h▸qh hI) (qe _)
    ·exact qi (h▸qh hO) (qe _)
    ·exact qi (h▸qh e1) (qe _)
    ·exact qi (h▸qh e2) (qe _)
   exact Nat.lt_irrefl _ this
  have nz:s.heap.objs.size≠z:=fun h=>nm (by rw [h]; simp);have I2:Inv X pins σ H { s with heap:=h2' }:=I.turnedW (t':=s.toks) (wr:=[z,TI,TO,i1,i2]) (fun c o hc q=>by
   simp only [qu,List.not_mem_nil,or_false,not_or]at hc;exact(sb.2 c hc.1).trans (kk c o hc.1 hc.2.2.1 hc.2.2.2.1 hc.2.2.2.2 q)) hf
  have fT:zcc X pins H s.heap.objs.size:=I.fpOk (qe _) (I.hok.fresh (qe _));have I3:Inv X pins σ (upd H s.heap.objs.size (.tup [x,y])) { s with heap:=h2' }:=I2.track fT I.sz ⟨by show 2<=sizeLine; decide,[u1,u2],.cons r1 (.cons r2 .nil),_,(sb.2 _ nz).trans isT,rfl,⟨_,rfl⟩,.inl rfl⟩;refine⟨.ref s.heap.objs.size,_,I3,rfl,⟨_,I.hok.fresh (qe _),rfl,fun xs' ys' v u hq1' hq2' hv hu=>?_⟩,⟨z2,(sb.2 _ ap.TIz).trans (kk _ _ ap.TIz ap.TITO ap.TIi1 ap.TIi2 hI),⟨_,_,(sb.2 _ ap.TOz).trans O'⟩,?_,?_⟩,fun c hc=>?_⟩
  ·cases I.tuple_inj hq1 hq1'
   cases I.tuple_inj hq2 hq2';rw [hx]at hv;rw [hy]at hu;cases hv;cases hu;rfl
  ·obtain⟨o,e,r⟩:=k1
   exact⟨o,(sb.2 _ ap.i1z).trans e,r⟩
  ·obtain⟨o,e,r⟩:=k2
   exact⟨o,(sb.2 _ ap.i2z).trans e,r⟩
  ·have ne:c≠s.heap.objs.size:=fun h=>nm (h▸hc)
   rw [zu ne];exact(hf c hc).1
 done:=by
  intro X hP hw hK hc i pins s σ H E I hf st hg;subst hP hw hK;obtain⟨xs,ys,hq1,hq2,hl⟩:=hg;obtain⟨hz,hI,⟨a,b,hO⟩,h1,h2⟩:=st;obtain⟨its1,rv1,ht1,_⟩:=I.tuple hq1;obtain⟨its2,rv2,ht2,_⟩:=I.tuple hq2;refine zrh (I.ok.hd hc) ap hz hI hO h1 h2 ht1 ht2 (by
   have:=rv1.length;simp;omega) fun h' kk=>⟨rfl,I.turnedW (t':=s.toks) (wr:=[z,TI,TO,i1,i2]) (fun c o hc q=>by
   simp only [qu,List.not_mem_nil,or_false,not_or]at hc;exact kk c o hc.1 hc.2.2.1 hc.2.2.2.1 hc.2.2.2.2 q) hf⟩
 self:=fun _ _ _ _ _ st h=>wpAny_pyIter_zip st.1 h
section
variable {prog:Program} {w:World} {A:Around} {E:Value->Shared->Prop} {s:Shared}
theorem zo5{t1 t2:Addr}{xs ys:Array Value}{Q:Value->Shared->Prop}(h1:s.heap.IsTuple t1 xs)(h2:s.heap.IsTuple t2 ys)
  (h:∀ h':Heap,ZSt (s.heap.objs.size+4) (s.heap.objs.size+2) (s.heap.objs.size+3) s.heap.objs.size (s.heap.objs.size+1) t1 t2 0 h'->(∀ b o,s.heap.get? b=some o->h'.get? b=some o)->Q (.ref (s.heap.objs.size+4)) { s with heap:=h' }) :
  wpAny (model prog w) A (call (.type "zip") [.ref t1,.ref t2]) Q E s:=by
 refine callType_new F.called_zip (by decide) (F.typeCall_zip_2 _ _) (F.newCall_zip_2 _ _) (fun obj=>F.args_object_init_3 obj _ _) F.entry_zip_new (zrg t1 t2 xs ys) ⟨h1,h2,?_⟩;have z1:(zh1 s.heap t1).objs.size=s.heap.objs.size+1:=Heap.size_push ..;have z2:(zh2 s.heap t1 t2).objs.size=s.heap.objs.size+2:=by rw [Heap.size_push,z1]
 have z3:(zh3 s.heap t1 t2).objs.size=s.heap.objs.size+3:=by rw [Heap.size_push,z2]
 have z4:(zh4 s.heap t1 t2).objs.size=s.heap.objs.size+4:=by rw [Heap.size_push,z3]
 show _/\_;rw [z4];have ez:(zh5 s.heap t1 t2).get? (s.heap.objs.size+4)=some { cls:=.type "zip",data:=.fields #[.none,.bool false,.bool false,.ref (s.heap.objs.size+2),.ref (s.heap.objs.size+3)] }:=by
  have:=qg (zh4 s.heap t1 t2) (o:={ cls:=.type "zip",data:=.fields #[.none,.bool false,.bool false,.ref (zh2 s.heap t1 t2).objs.size,.ref (zh3 s.heap t1 t2).objs.size] }) rfl;rw [z4,z2,z3]at this;rw [<-this];unfold zh5;rw [z2,z3]
 refine⟨⟨_,ez,rfl⟩,h _ ⟨ez,?_,⟨.none,.none,?_⟩,⟨{ cls:=.type "tuple_iterator",data:=.fields #[.ref t1,.int 0 0] },?_,rfl,rfl⟩,⟨{ cls:=.type "tuple_iterator",data:=.fields #[.ref t2,.int 0 0] },?_,rfl,rfl⟩⟩ fun b o x=>?_⟩
 ·have:=qg (zh2 s.heap t1 t2) (o:={ cls:=.type "tuple",data:=.seq #[.ref s.heap.objs.size,.ref (zh1 s.heap t1).objs.size] }) rfl
  rw [z2,z1]at this;refine qd _ (qd _ ?_);unfold zh3;rw [z1];exact this
 ·have:=qg (zh3 s.heap t1 t2) (o:={ cls:=.type "tuple",data:=.seq #[.none,.none] }) rfl
  rw [z3]at this;exact qd _ this
 ·exact qd _ (qd _ (qd _ (qd _ (qg _ rfl))))
 ·have:=qg (zh1 s.heap t1) (o:={ cls:=.type "tuple_iterator",data:=.fields #[.ref t2,.int 0 0] }) rfl
  rw [z1]at this;exact qd _ (qd _ (qd _ this))
 ·exact qd _ (qd _ (qd _ (qd _ (qd _ x))))
end
section
variable {X:Cx} {elts:List Expr} {k:Nat} {tpos:Pos}
def zzT(K:qc)(ta:TA):TI:=fun σ H R=>ta σ H fun vs H1=>∃ a b,vs=[.ref a,.ref b]/\(∃ xs,SqT K H1 a xs)/\(∃ ys,SqT K H1 b ys)/\R (Itz K a b) H1
theorem zrj{a b:Expr}{ta:TA}{p pos:Pos}{K:qc}(ha:Wr (PA X [a,b] ta))(hK:X.K=K:=by rfl)(hg:Gl X "zip":=by exact rfl)(hm:X.mg "zip"=none:=by exact zil ‹Bl _ _› (by decide))(hs:zR a=true:=by rfl)(hs2:[b].all zR=true:=by rfl) :
  Wr (PI X (.Tuple elts k tpos) (.Call (.Name "zip" p) [a,b] [] pos) (zzT K ta)):=by
 subst hK;refine⟨?_⟩;intro pins s σ H R I h;refine Call_ (zfP I hg hm boot_zip (PyProof.Rows.callWith_type1 (thn (ha.run pos pins s σ H _ I h) fun us s1 ⟨vs,H1,I1,r1,q1⟩=>?_) (zcf hs) (zbN hs2)));obtain⟨t1,t2,e,⟨xs,hq1⟩,⟨ys,hq2⟩,q⟩:=q1;subst e;obtain⟨u1,u2,rfl,ru1,ru2⟩:=zpK r1;cases ru1;cases ru2;obtain⟨its1,rv1,ht1,hz1⟩:=I1.tuple hq1;obtain⟨its2,rv2,ht2,hz2⟩:=I1.tuple hq2;have tl1:t1 < s1.heap.objs.size:=by
  obtain⟨o,e,_⟩:=ht1;exact qh e
 have tl2:t2 < s1.heap.objs.size:=by
  obtain⟨o,e,_⟩:=ht2;exact qh e
 have lt_ne:∀ {x y:Nat},x < y->x≠y:=fun h=>qj h;refine zo5 (show s1.heap.IsTuple t1 its1.toArray from ht1) (show s1.heap.IsTuple t2 its2.toArray from ht2) fun h' hst kk=>?_;have I2:Inv X pins σ H1 { s1 with heap:=h' }:=I1.kept (t':=s1.toks) kk;refine wpAny_pyIter_zip hst.1 ?_;have f:∀ j:Nat,zcc X pins H1 (s1.heap.objs.size+j):=fun j=>I1.fpOk (Nat.le_add_right _ _) (I1.hok.fresh (Nat.le_add_right _ _));have ap:ZipApart (s1.heap.objs.size+4) (s1.heap.objs.size+2) (s1.heap.objs.size+3) s1.heap.objs.size (s1.heap.objs.size+1) t1 t2:=by
  generalize s1.heap.objs.size=n at tl1 tl2;constructor<;>(simp only [Addr]at *; omega)
 refine⟨_,_,_,_,H1,rfl,I2,zri _ _ _ _ _ t1 t2 ap,hst,fun c hc=>?_,q⟩;simp only [qu,List.not_mem_nil,or_false]at hc;rcases hc with rfl | rfl | rfl | rfl | rfl
 ·exact f 4
 ·exact f 2
 ·exact f 3
 ·exact f 0
 ·exact f 1
end
def zjy:List D->List D->List D
 | x::xs,y::ys=>.tuple [x,y]::zjy xs ys
 | _,_=>[]
theorem zjz:∀ {xs ys:List D} {i:Nat} {d:D},(zjy xs ys)[i]?=some d->∃ x y,xs[i]?=some x/\ys[i]?=some y/\d=.tuple [x,y]
 | [],ys,i,d,h=>by simp [zjy]at h
 | x::xs,[],i,d,h=>by simp [zjy]at h
 | x::xs,y::ys,0,d,h=>by cases h; exact⟨x,y,rfl,rfl,rfl⟩
 | x::xs,y::ys,i+1,d,h=>zjz (xs:=xs) (ys:=ys) (i:=i) h
theorem zhl:∀ (xs ys:List D),xs.length=ys.length->(zjy xs ys).length=xs.length
 | [],[],_=>rfl
 | [],y::ys,h=>by cases h
 | x::xs,[],h=>by cases h
 | x::xs,y::ys,h=>congrArg (·+1) (zhl xs ys (Nat.succ.inj h))
def zrk:List U->Option (List D)
 | [.d (.tuple xs),.d (.tuple ys)]=>if xs.length=ys.length then some (zjy xs ys)else none
 | _=>none
def zt3(ma:MA):MI:=fun ρ=>(ma ρ).bind fun p=>(zax p.2 p.1).bind fun us=>(zrk us).bind fun ds=>some (ds,p.2)
theorem zrl{K:qc}{ta:TA}{ma:MA}(h:VAs K ta ma):VI K (zzT K ta) (zt3 ma):=by
 intro ρ σ H ds ρ' R r e q;obtain⟨⟨as,ρ1⟩,e1,e⟩:=zb e;obtain⟨us,eu,e⟩:=zb e;obtain⟨zs,ez,e⟩:=zb e;cases e;refine h ρ σ H as ρ1 _ r e1 fun vs H1 g1 s1=>?_;have rp:=s1.rpl r g1 eu;unfold zrk at ez;split at ez
 ·split at ez
  rotate_left
  ·cases ez
  rename_i xs ys hl;cases ez;cases rp with
  | cons p1 t =>
   cases t with
   | cons p2 t =>
    cases t;obtain⟨a,vx,rfl,h1,d1⟩:=DF.tup_inv p1;obtain⟨b,vy,rfl,h2,d2⟩:=DF.tup_inv p2;refine⟨a,b,rfl,⟨vx,(TpK.sq h1)⟩,⟨vy,(TpK.sq h2)⟩,q _ _ g1 fun H2 kk i=>⟨fun d ed=>?_,fun ei=>?_⟩⟩
    ·obtain⟨x,y,ex,ey,rfl⟩:=zjz ed
     obtain⟨v,ev,dv⟩:=(d1.kp kk).get ex;obtain⟨w,ew,dw⟩:=(d2.kp kk).get ey;refine⟨⟨vx,vy,v,w,(TpK.kp kk h1).sq,(TpK.kp kk h2).sq,ev,ew⟩,fun z H' y=>?_⟩;obtain⟨T,nT,rfl,y⟩:=y;cases y vx vy v w ((TpK.kp kk h1).sq) ((TpK.kp kk h2).sq) ev ew;have sm:=zF nT (.tup [v,w]);exact⟨sm,.tup (.inl zt) (.cons (dv.kp sm.kp) (.cons (dw.kp sm.kp) .nil))⟩
    ·exact⟨vx,vy,(TpK.kp kk h1).sq,(TpK.kp kk h2).sq,by rw [zhl _ _ hl]at ei; rw [d1.len]; exact ei.symm⟩
 ·cases ez
section
variable {prog:Program} {w:World} {A:Around} {E:Value->Shared->Prop} {s:Shared}
theorem zkS{b:Addr}{Q:Bool->Shared->Prop}(hT:s.TypeIs (.ref b) "tuple")(h:Q false s):wpAny (model prog w) A (Builtin.Dict.quietEq (.ref b)) Q E s:=by
 unfold Builtin.Dict.quietEq;refine qa (wpAny_specialOf hT F.slot_tuple_eq.lookup (qb ?_));exact h
theorem zkT{id:String}{d:Addr}{o:Obj}{es:Array DictEntry}{ep:Nat}{Q:Array DictEntry->Shared->Prop}(ho:s.heap.get? d=some o)(hd:o.data=.dict es ep)
  (hk:∀ e∈es.toList,∃ b,e.key=.ref b/\s.TypeIs (.ref b) "tuple") (hh:∀ e∈es.toList,¬(es.filter (·.hash==e.hash)).size > 1) (h:Q es s) :
  wpAny (model prog w) A (Builtin.Dict.entriesForEmpty id d) Q E s:=by
 unfold Builtin.Dict.entriesForEmpty;refine qa (wpAny_dictEntries ho hd ?_);refine qa ?_;rw [<-Array.forIn_toList];refine wpAny_forIn_list _ (fun zbA _ s'=>s'=s/\∀ e∈zbA,e∈es.toList) _ ?_ ?_ _ _ ⟨rfl,fun e h=>h⟩
 ·rintro e zbA b s' ⟨rfl,hr⟩
  obtain⟨c,ec,tc⟩:=hk e (hr e qo);rw [ec];refine qa (zkS tc ?_);simp only [Bool.not_false,if_true];rw [if_neg (hh e (hr e qo))];exact qb ⟨rfl,fun e h=>hr e (qm _ h)⟩
 ·rintro b s' ⟨rfl,_⟩
  exact qb h
theorem zxY{es:Array DictEntry}(ne:es.isEmpty=false)(hk:∀ e∈es.toList,∃ b,e.key=.ref b):(decide (es.size<=8) && es.all fun e=>(keyPart e.key).isSome)=false:=by
 have:(es.all fun e=>(keyPart e.key).isSome)=false:=by
  rw [<-Array.all_toList];cases h:es.toList with
  | nil =>
   have:es=#[]:=by
    apply Array.ext';rw [h]
   rw [this]at ne;cases ne
  | cons e r =>
   obtain⟨b,eb⟩:=hk e (by rw [h]; exact qo);rw [List.all_cons,eb];rfl
 rw [this,Bool.and_false]
theorem zhW{d:Addr}{o:Obj}{es:Array DictEntry}{ep:Nat}{Q:Value->Shared->Prop}(hdS:(d==sysModules)=false)(ho:s.heap.get? d=some o)(hx:o.ExactDict)(hd:o.data=.dict es ep)(hz:es.size<=sizeLine)
  (hk:∀ e∈es.toList,∃ b,e.key=.ref b/\s.TypeIs (.ref b) "tuple") (hh:∀ e∈es.toList,¬(es.filter (·.hash==e.hash)).size > 1)
  (h:∀ h':Heap,(∃ o' ep',h'.get? s.heap.objs.size=some o'/\o'.ExactDict/\o'.data=.dict es ep')->(∀ b u,s.heap.get? b=some u->h'.get? b=some u)->Q (.ref s.heap.objs.size) { s with heap:=h' }) :
  wpAny (model prog w) A (call (.type "dict") [.ref d]) Q E s:=by
 refine callType_codes (Q₁:=fun obj s₁=>obj=.ref s.heap.objs.size/\s₁={ s with heap:=s.heap.push { cls:=.type "dict",data:=.dict #[] } }) F.kt_called_dict (F.kt_typeCall_dict_1 _) F.entry_dict_init (kt_code_dict_new _ ⟨rfl,rfl⟩) ?_;rintro obj s₁ ⟨rfl,rfl⟩;have nd:s.heap.objs.size≠d:=Ne.symm (qj (qh ho));have hn:(s.heap.push { cls:=.type "dict",data:=.dict #[] }).get? s.heap.objs.size=some { cls:=.type "dict",data:=.dict #[] }:=qg _ rfl;have ho':(s.heap.push { cls:=.type "dict",data:=.dict #[] }).get? d=some o:=qd _ ho;have kk:∀ b u,s.heap.get? b=some u->(s.heap.push { cls:=.type "dict",data:=.dict #[] }).get? b=some u:=fun b u e=>qd _ e;generalize s.heap.push { cls:=.type "dict",data:=.dict #[] }=h1 at hn ho' kk ⊢;have tn:Shared.TypeIs { s with heap:=h1 } (.ref s.heap.objs.size) "dict":=⟨_,hn,rfl⟩;have to:Shared.TypeIs { s with heap:=h1 } (.ref d) "dict":=⟨_,ho',hx.1⟩;refine⟨tn,F.args_dict_init_2 _ _,?_⟩;unfold Builtin.«dict.__init__»;refine qa ?_;unfold Builtin.Dict.selfAndRest;refine qa (wpAny_notOrdered_dict tn ?_);show wpAny _ _ (pure (s.heap.objs.size,[Value.ref d])) _ _ _;refine qb ?_;show wpAny _ _ (Builtin.Dict.updateFrom "dict.__init__" s.heap.objs.size (.ref d) [] .none) _ _ _;unfold Builtin.Dict.updateFrom;refine qa (wpAny_typeOf to ?_);rw [if_neg (by decide)];refine qa ?_;unfold Builtin.Dict.merge;refine qa ?_;unfold Builtin.Dict.readDirectly;refine qa (wpAny_isInstance to isSubtype_dict_dict ?_);simp only [Bool.not_true,Bool.false_eq_true,if_false];refine qa (wpAny_specialOf to F.slot_dict_iter.lookup (qb ?_));simp only [beq_self_eq_true,if_true];refine qa (qb ?_);unfold Builtin.Dict.mergeDict;rw [if_neg (by simpa using nd)];unfold Builtin.Dict.showsAll;rw [if_neg (by rw [hdS]; exact qf)];refine qa (qb ?_);refine qa (wpAny_dictEntries ho' hd ?_);cases ne:es.isEmpty with
 | true =>
  have e0:es=#[]:=Array.isEmpty_iff.mp ne;subst e0;have fw:(decide ((#[]:Array DictEntry).size<=8) && (#[]:Array DictEntry).all fun e=>(keyPart e.key).isSome)=true:=by rw [<-Array.all_toList]; rfl
  simp only [fw,Bool.not_true,Bool.false_eq_true,if_false];refine qa (wpAny_dictEpoch (s:={ s with heap:=h1 }) ho' hd ?_);refine qa (wpAny_dictEntries (s:={ s with heap:=h1 }) ho' hd ?_);refine qa ?_;rw [Std.Legacy.Range.forIn_eq_forIn_range'];simp only [Std.Legacy.Range.size,Nat.sub_zero,Nat.add_sub_cancel,Nat.div_one,Array.size_empty,List.range'_zero,List.forIn_nil];refine qb (qb ?_);exact qa (qb (qb ⟨rfl,h h1 ⟨_,0,hn,⟨rfl,rfl,rfl⟩,rfl⟩ kk⟩))
 | false =>
  have fw:=zxY ne fun e he=>let ⟨b,eb,_⟩:=hk e he; ⟨b,eb⟩;simp only [fw,Bool.not_false,if_true];refine qa (wpAny_dictEntries hn rfl ?_);simp only [Array.isEmpty_empty,if_true];refine qa (zkT (s:={ s with heap:=h1 }) ho' hd (fun e he=>?_) hh ?_)
  ·obtain⟨b,eb,o2,eo,ec⟩:=hk e he
   exact⟨b,eb,o2,kk _ _ eo,ec⟩
  simp only [ne,Bool.not_false,if_true];refine qa (wpAny_updateDictKeysTo hn rfl ?_ (by show es.size<=_; omega));refine qb (qa (qb (qb ⟨rfl,h _ ⟨_,_,Heap.get?_update_self _ hn rfl,⟨rfl,rfl,rfl⟩,rfl⟩ fun b u e=>?_⟩)));exact((Heap.SameBut.update ..).2 b (qj (qh e))).trans (kk b u e)
end
def hK:Key->Int
 | .inl i=>hashInt i
 | .inr _=>0
def hT(ks:List Key):Int:=reduceHash (Builtin.Tuple.tupleHashOf (ks.map hK))
def zxZ(ks:List Key):Bool:=ks.all fun k=>match k with | .inl _=>true | .inr _=>false
def zeW(kss:List (List Key)):Bool:=kss.all zxZ && decide ((kss.map hT).Nodup)
theorem zzU{P:Program}{w:World}:∀ {ks:List Key},zxZ ks=true->(tupleKind (zT P w)).hash ks=hT ks:=fun{ks} h=>by
 show reduceHash (Builtin.Tuple.tupleHashOf (ks.map (zyD w)))=_;unfold hT;congr 2;refine List.map_congr_left fun k hk=>?_;have:=List.all_eq_true.mp h k hk;cases k with
 | inl i=>rfl
 | inr x=>cases this
theorem zmm{es:List DictEntry}(hn:(es.map (·.hash)).Nodup){e:DictEntry}(he:e∈es):(es.filter (·.hash==e.hash)).length<=1:=by
 induction es with
 | nil=>cases he
 | cons x es ih =>
  rw [List.map_cons,List.nodup_cons]at hn;rw [List.filter_cons];rcases qu.mp he with rfl | he'
  ·rw [if_pos (by simp)]
   have:es.filter (·.hash==e.hash)=[]:=List.filter_eq_nil_iff.mpr fun y hy z=>hn.1 (List.mem_map.mpr ⟨y,hy,by simpa using z⟩);rw [this];simp
  ·have:¬((x.hash==e.hash)=true):=fun z=>hn.1 (List.mem_map.mpr ⟨e,he',by simpa using (beq_iff_eq.mp z).symm⟩)
   rw [if_neg this];exact ih hn.2 he'
section
variable {X:Cx} {pins:List (Addr×Obj)} {σ:St} {H:Hp} {s:Shared} {a:Addr} {kvs:List (List Key×V)} {A:Around} {E:Value->Shared->Prop}
theorem zt4{l:List (List Key×V)}{m:List (List Key×Addr×Value)}(r:KT X.K H l m):m.map (·.1)=l.map (·.1):=by
 induction r with
 | nil=>rfl
 | cons hq t ih=>rw [List.map_cons,List.map_cons,ih,hq.1]
theorem zt5{Q:Value->Shared->Prop}(I:Inv X pins σ H s)(e:Rd H a (.dT kvs))(hh:zeW (kvs.map (·.1))=true)(h:∀ p s',H p=none->Inv X pins σ (upd H p (.dT kvs)) s'->Q (.ref p) s'):wpAny (model X.prog X.w) A (call (.type "dict") [.ref a]) Q E s:=by
 obtain⟨z,y,xs,r,o,es,ep,h1,h2,h3,h4,h5⟩:=(show zX X.prog X.w X.K H s.heap a (.dT kvs) from zkg I.hok e);obtain⟨_,_,xs',r',dd⟩:=zgc I.kIn I.hok e;have hlen:es.size=kvs.length:=by
  have:=congrArg List.length h4;rw [Array.length_toList,List.length_map,<-zaC r]at this;exact this
 obtain⟨hi,hn⟩:=Bool.and_eq_true_iff.mp hh;have hn:=of_decide_eq_true hn;have keysEq:=zt4 r;have hashes:es.toList.map (·.hash)=(kvs.map (·.1)).map hT:=by
  rw [h4,<-keysEq,List.map_map,List.map_map];refine List.map_congr_left fun x hx=>?_;exact zzU (List.all_eq_true.mp hi x.1 (by rw [<-keysEq]; exact List.mem_map.mpr ⟨x,hx,rfl⟩))
 refine zhW y h1 h2 h3 (by omega) (fun q hq=>?_) (fun q hq=>?_) fun h' ⟨o',ep',n1,n2,n3⟩ kk=>?_
 ·rw [h4]at hq
  obtain⟨x,hx,rfl⟩:=List.mem_map.mp hq;have key:∀ {l:List (List Key×V)} {m:List (List Key×Addr×Value)},KT X.K H l m->∀ x∈m,TpK X.K H x.2.1 (x.1.map kV):=by
   intro l m q
   induction q with
   | nil=>intro x hx; cases hx
   | cons hq _ ih =>
    intro x hx;rcases qu.mp hx with e | hx
    ·subst e
     rw [<-hq.1];exact hq.2.1
    ·exact ih x hx
  exact⟨x.2.1,rfl,(zdt I.kIn I.hok (key r x hx)).typeIs⟩
 ·rw [<-hashes]at hn
  have:=zmm hn hq;rw [<-Array.length_toList,Array.toList_filter];omega
 ·refine h _ _ (I.hok.fresh (qe _)) (I.laid (a:=s.heap.objs.size) (o:=.dT kvs) (t':=s.toks) kk (qe _) ⟨z,beq_eq_false_iff_ne.mpr (Ne.symm (qj I.big)),xs,?_,o',es,ep',n1,n2,n3,h4,h5⟩)
  exact KT.keeps r fun b ys hb=>by rw [zu (fun z=>by rw [z,I.hok.fresh (qe _)]at hb; cases hb)]; exact hb
theorem zmn:zaN X (.type "dict") (fun xs H Q=>∃ a kvs,xs=[.ref a]/\Rd H a (.dT kvs)/\zeW (kvs.map (·.1))=true/\∀ p,H p=none->Q (.ref p) (upd H p (.dT kvs))):=by
 intro pins s σ H xs us Q I r h;obtain⟨a,kvs,rfl,hr,hh,q⟩:=h;obtain⟨u,rfl,ru⟩:=zcd r;cases ru;exact zt5 I hr hh fun p s' hp I'=>⟨.ref p,_,I',rfl,q p hp⟩
end
def zhm:List (D×D)->Option (List (List Key×D))
 | []=>some []
 | (k,d)::r=>(zae k).bind fun k=>(zhm r).bind fun r=>some ((k,d)::r)
def zeb:U->Option U
 | .t kvs=>if zeW (kvs.map (·.1))=true then some (.t kvs)else none
 | .d (.dict kvs)=>if noX kvs=true then(zhm kvs).bind fun kvs=>if zeW (kvs.map (·.1))=true then some (.t kvs)else none else none
 | _=>none
section
variable {K:qc} {H:Hp}
theorem zkU{ws:List (List Key×V)}{kvs:List (List Key×D)}(h:KVd K H ws kvs):ws.map (·.1)=kvs.map (·.1):=by
 induction h with
 | nil=>rfl
 | cons hq t ih=>rw [List.map_cons,List.map_cons,ih,hq.1]
theorem zhn:∀ {kvs:List (D×D)} {ws:List (List Key×V)} {r:List (List Key×D)},DFt K H ws kvs->zhm kvs=some r->KVd K H ws r
 | [],ws,r,h,e=>by cases h; cases e; exact .nil
 | (k,d)::kvs,ws,r,h,e=>by
  obtain⟨k',ek,e⟩:=zb (show(zae k).bind _=some r from e);obtain⟨r',er,e⟩:=zb e;cases e;cases h with
  | @cons k2 v _ vs ds hv t =>
   rw [zfl]at ek;cases ek;exact .cons ⟨rfl,hv⟩ (zhn t er)
theorem zo6:VC K (fun xs H Q=>∃ a kvs,xs=[.ref a]/\Rd H a (.dT kvs)/\zeW (kvs.map (·.1))=true/\∀ p,H p=none->Q (.ref p) (upd H p (.dT kvs))) (f1 zeb):=zg7 fun v a u H Q h e q=>by
 unfold zeb at e;split at e
 ·split at e
  rotate_left
  ·cases e
  rename_i kvs hh;cases e;obtain⟨b,ws,rfl,h1,h2⟩:=h;refine⟨b,ws,rfl,.inl h1,by rw [zkU h2]; exact hh,fun p hp=>?_⟩;have sm:=zF hp (.dT ws);exact q _ _ sm ⟨p,ws,rfl,zt,h2.kp sm.kp⟩ fun _=>⟨p,rfl,hp⟩
 ·split at e
  rotate_left
  ·cases e
  rename_i nx;obtain⟨r,er,e⟩:=zb e;split at e
  rotate_left
  ·cases e
  rename_i hh;cases e;obtain⟨b,o,ws,rfl,h1,h2⟩:=DF.dct_inv h nx;have kd:=zhn h2 er;refine⟨b,ws,rfl,.inr ⟨o,h1⟩,by rw [zkU kd]; exact hh,fun p hp=>?_⟩;have sm:=zF hp (.dT ws);exact q _ _ sm ⟨p,ws,rfl,zt,kd.kp sm.kp⟩ fun _=>⟨p,rfl,hp⟩
 ·cases e
end
def znW(i j:Int):Prop:=i.natAbs.log2 < 1000000/\j.natAbs.log2 < 1000000
theorem zkV{n:Int}(h:n.natAbs.log2 < 1000000):Builtin.Int.intBits n<=2^20:=by
 refine intBits_le ?_
 by_cases z:n.natAbs=0
 ·rw [z]; exact Nat.two_pow_pos _
 ·exact qi ((Nat.log2_lt z).mp h) (Nat.pow_le_pow_right (by decide) (by decide))
section
variable {X:Cx}
theorem zaT:OpR X (binaryOp .Mult) (rI znW fun i j=>.int (i * j)):=opI fun _ _ _ _ _ _ _ hc q=>mul_int q (IntMulOk.of_bits (zkV hc.1) (zkV hc.2))
end
section
variable {K:qc}
noncomputable def zck:=fIC znW fun i j=>.int (i * j)
theorem zaU:VO K (rI znW fun i j=>.int (i * j)) zck:=zit fun i j H=>.int _
end
section
variable {ρ:En} {me ma mb mc mk mi md my mv mx mo:ME} {mA mK:MA} {mt mu:MT} {mI:MI} {mg:MG} {m1 m2:MS} {i j n:Nat} {u:U} {x:D}
variable {QE:Ar×En->Prop} {QI:List D×En->Prop}
theorem zkW:Wo (zcS md my mx ρ) QE=Wo (md ρ) (Co (fun p=>(p.1.get p.2).bind fun u0=>if zhk u0=true then(my p.2).bind fun q=>(mx q.2).bind fun z=>(p.1.get z.2).bind fun u=>(q.1.get z.2).bind fun y=>(z.1.get z.2).bind fun x=>(zhV u y).bind fun o=>x.da.bind fun x=>some (.u (.d (o.getD x)),z.2)else none) ⟨0⟩ QE):=by
 have e:zcS md my mx ρ=(md ρ).bind fun p=>(p.1.get p.2).bind fun u0=>if zhk u0=true then(my p.2).bind fun q=>(mx q.2).bind fun z=>(p.1.get z.2).bind fun u=>(q.1.get z.2).bind fun y=>(z.1.get z.2).bind fun x=>(zhV u y).bind fun o=>x.da.bind fun x=>some (.u (.d (o.getD x)),z.2)else none:=by
  unfold zcS;refine bind_fn fun p=>bind_fn fun u0=>?_;split
  ·refine bind_fn fun q=>bind_fn fun z=>bind_fn fun u=>bind_fn fun y=>bind_fn fun x=>bind_fn fun o=>?_
   cases x<;>rfl
  ·rfl
 rw [e,zr]
theorem zrm:Wo (zt3 mA ρ) QI=Wo (mA ρ) (Co (fun p=>(zax p.2 p.1).bind fun us=>(zrk us).bind fun ds=>some (ds,p.2)) ⟨0⟩ QI):=by
 show Wo (Option.bind _ _) QI=_;rw [zr]
theorem znX{kvs:List (List Key×D)}:zhk (.t kvs)=true:=rfl
theorem zbD{a b:Int}(h:a.natAbs.log2 < 1000000)(h2:b.natAbs.log2 < 1000000):zck (.d (.int a)) (.d (.int b))=some (.d (.int (a * b))):=ziA (c:=znW) ⟨h,h2⟩
theorem znY{a:Int}:zxW (.d (.int a)) (.d (.int 1))=some (.d (.int (a % 2))):=by
 show some (U.d (.int (Builtin.bitAnd a 1)))=_;rw [bitAnd_m1]
theorem zrn{α:Type}{g:α->D}{nt:Nat}{b:α->Bool}{e:α->D}{as:List α}{Q:List D×En->Prop}(hz:as.length<=sizeLine)
  (st:∀ a∈as,∀ ys,Wo (mg (g a) ρ) (Co mt ⟨0⟩ (kLC nt me ys fun ρ' zs=>ρ'=ρ/\zs=if b a=true then ys++[e a]else ys))) (q:Q ((as.filter b).map e,ρ)):Wo (lcM nt mg mt me (as.map g) ρ []) Q:=by
 refine zq8 (fun i ρ' ys=>ρ'=ρ/\ys=((as.take i).filter b).map e) (by rw [List.length_map]; exact hz) (fun i ρ' ys h=>?_) ⟨rfl,rfl⟩ (fun i d ρ' ys hd h=>?_) fun ρ' ys h=>?_
 ·rw [h.2,List.length_map]
  exact qx (List.length_filter_le _ _) (by rw [List.length_take]; exact Nat.min_le_left _ _)
 ·obtain⟨rfl,rfl⟩:=h
  rw [List.getElem?_map]at hd;obtain⟨a,ha,rfl⟩:=qq.mp hd;have:=st a (List.mem_of_getElem? ha) (((as.take i).filter b).map e);have en:((as.take (i+1)).filter b).map e=if b a=true then((as.take i).filter b).map e++[e a]else((as.take i).filter b).map e:=by
   rw [List.take_succ,ha,List.filter_append,List.map_append];show _++(([a]:List α).filter b).map e=_;rw [List.filter_cons];split<;>simp
  rw [en];exact this
 ·obtain⟨rfl,rfl⟩:=h
  rw [List.length_map,List.take_of_length_le (qe _)];exact q
end
section
variable {X:Cx} {tg:Expr}
end
end L2
namespace L2
open PySem
def zhX(n d:Int):Int:=(if d < 0 then -n else n) / (Int.gcd n d:Nat)
def zho(n d:Int):Int:=(if d < 0 then -d else d) / (Int.gcd n d:Nat)
theorem zo7{n d:Int}(hd:d≠0):zhX n d * d=n * zho n d/\1<=zho n d/\Int.gcd (zhX n d) (zho n d)=1/\zho n d<=d.natAbs/\(zhX n d).natAbs<=n.natAbs:=by
 have hg:0 < Int.gcd n d:=Int.gcd_pos_of_ne_zero_right n hd;obtain⟨u,hu⟩:=Int.gcd_dvd_left n d;obtain⟨v,hv⟩:=Int.gcd_dvd_right n d;have hg':(0:Int) < (Int.gcd n d:Nat):=Int.natCast_pos.mpr hg;have hc:Int.gcd (n / (Int.gcd n d:Nat)) (d / (Int.gcd n d:Nat))=1:=Int.gcd_ediv_gcd_ediv_gcd hg;unfold zhX zho;generalize (Int.gcd n d:Nat)=g at *;have gne:(g:Int)≠0:=by omega
 have eu:n / (g:Int)=u:=by rw [hu]; exact Int.mul_ediv_cancel_left u gne
 have ev:d / (g:Int)=v:=by rw [hv]; exact Int.mul_ediv_cancel_left v gne
 have eu':(-n) / (g:Int)=-u:=by rw [hu,<-Int.mul_neg]; exact Int.mul_ediv_cancel_left (-u) gne
 have ev':(-d) / (g:Int)=-v:=by rw [hv,<-Int.mul_neg]; exact Int.mul_ediv_cancel_left (-v) gne
 rw [eu,ev]at hc;have g1:1<=g:=hg;have an:n.natAbs=g * u.natAbs:=by rw [hu,Int.natAbs_mul]; rfl
 have ad:d.natAbs=g * v.natAbs:=by rw [hv,Int.natAbs_mul]; rfl
 have lu:u.natAbs<=n.natAbs:=by rw [an]; exact Nat.le_mul_of_pos_left _ hg
 have lv:v.natAbs<=d.natAbs:=by rw [ad]; exact Nat.le_mul_of_pos_left _ hg
 by_cases c:d < 0
 ·rw [if_pos c,if_pos c,eu',ev']
  have hv0:v < 0:=by
   rcases(by omega:v < 0\/0<=v)with z | z
   ·exact z
   ·have:=Int.mul_nonneg (Int.le_of_lt hg') z
    omega
  refine⟨?_,by omega,?_,by omega,by omega⟩
  ·rw [hu,hv]
   simp only [Int.neg_mul,Int.mul_neg,Int.neg_inj]
   ac_rfl
  ·rw [Int.neg_gcd,Int.gcd_neg]
   exact hc
 ·rw [if_neg c,if_neg c,eu,ev]
  have hv0:0 < v:=by
   rcases(by omega:0 < v\/v<=0)with z | z
   ·exact z
   ·have:=Int.mul_nonneg (Int.le_of_lt hg') (show 0<=-v by omega)
    rw [Int.mul_neg,<-hv]at this;omega
  refine⟨?_,by omega,hc,by omega,by omega⟩;rw [hu,hv]
  ac_rfl
theorem zro{n d N D:Int}(hd:d≠0)(h1:1<=D)(hc:Int.gcd N D=1)(he:N * d=n * D):N=zhX n d/\D=zho n d:=by
 obtain⟨e,y1,c,_,_⟩:=zo7 (n:=n) hd;generalize zhX n d=x at *;generalize zho n d=y at *;have k:N * y=x * D:=by
  have z:(N * y) * d=(x * D) * d:=by grind
  exact Int.eq_of_mul_eq_mul_right hd z
 have d1:D∣y:=by
  have t:D∣N * y:=⟨x,by rw [k]; ac_rfl⟩;have u:=Int.dvd_gcd_mul_iff_dvd_mul.mpr t;rw [Int.gcd_comm,hc]at u;simpa using u
 have d2:y∣D:=by
  have t:y∣x * D:=⟨N,by rw [<-k]; ac_rfl⟩;have u:=Int.dvd_gcd_mul_iff_dvd_mul.mpr t;rw [Int.gcd_comm,c]at u;simpa using u
 have l1:=Int.le_of_dvd (by omega) d1;have l2:=Int.le_of_dvd (by omega) d2;have e2:D=y:=by omega
 refine⟨?_,e2⟩;rw [e2]at k;exact Int.eq_of_mul_eq_mul_right (by omega) k
theorem zkX(n d:Int){g:Int}(hg:0 < g):n.fdiv (if d < 0 then 0 - g else g)=(if d < 0 then -n else n) / g:=by
 split
 ·rw [Int.zero_sub,<-Int.fdiv_eq_ediv_of_nonneg _ (Int.le_of_lt hg)]
  have:=Int.neg_fdiv_neg (-n) g;rw [Int.neg_neg]at this;exact this
 ·rw [Int.fdiv_eq_ediv_of_nonneg _ (Int.le_of_lt hg)]
theorem zrp(x y:Int):Int.gcd (if x < 0 then -x else x) (if y < 0 then -y else y)=Int.gcd x y:=by
 rw [zi9];split
 ·exact Int.gcd_neg
 ·rfl
theorem zt6{n d:Int}(hd:d≠0):zhX n d=(Rat.divInt n d).num/\zho n d=((Rat.divInt n d).den:Int):=by
 have h:=zro (n:=n) (d:=d) (N:=(Rat.divInt n d).num) (D:=((Rat.divInt n d).den:Int)) hd (by have:=(Rat.divInt n d).den_pos; omega) (by
  have:=(Rat.divInt n d).reduced;exact this) (by
  have e:Rat.divInt (Rat.divInt n d).num ((Rat.divInt n d).den:Int)=Rat.divInt n d:=Rat.num_divInt_den _;rw [Rat.divInt_eq_divInt_iff (by have:=(Rat.divInt n d).den_pos; omega) hd]at e;rw [e])
 exact⟨h.1.symm,h.2.symm⟩
def fR(r:Rat):D:=.tuple [.int r.num,.int (r.den:Int)]
theorem zrq{n d:Int}(hd:d≠0):PyData.tuple [.int (zhX n d),.int (zho n d)]=fR (Rat.divInt n d):=by
 obtain⟨e1,e2⟩:=zt6 (n:=n) hd;rw [e1,e2];rfl
theorem zhp(r:Rat):1<=(r.den:Int):=by have:=r.den_pos; omega
theorem cop(r:Rat):Int.gcd r.num (r.den:Int)=1:=by
 have:=r.reduced;exact this
theorem zt7(a b:Rat):Rat.divInt (a.num * b.den+b.num * a.den) ((a.den:Int) * b.den)=a+b:=by
 rw [Rat.add_def',<-Rat.divInt_ofNat,Int.natCast_mul]
theorem zt8(a b:Rat):Rat.divInt (a.num * b.num) ((a.den:Int) * b.den)=a * b:=by
 rw [Rat.mul_def',<-Rat.divInt_ofNat,Int.natCast_mul]
theorem zhq(r:Rat):r * (r.den:Rat)=(r.num:Rat):=by
 have e:(r.num:Rat) / ((r.den:Int):Rat)=r:=by rw [<-Rat.divInt_eq_div]; exact Rat.num_divInt_den r
 have n:((r.den:Int):Rat)≠0:=fun h=>by
  have:=Rat.intCast_inj.mp (show((r.den:Int):Rat)=((0:Int):Rat) from h);have:=r.den_pos;omega
 have:=Rat.div_mul_cancel (a:=(r.num:Rat)) n;rw [e]at this;exact this
def Bd(M B:Nat)(r:Rat):Prop:=∃ k:Int,r * (M:Rat)=(k:Rat)/\k.natAbs<=B
section
variable {M N B C:Nat} {r s:Rat}
theorem Bd.le(h:Bd M B r)(c:B<=C):Bd M C r:=let ⟨k,e,b⟩:=h; ⟨k,e,qx b c⟩
theorem Bd.size(hM:0 < M)(h:Bd M B r):r.den<=M/\r.num.natAbs<=B:=by
 obtain⟨k,e,b⟩:=h;have e2:r.num * (M:Int)=k * (r.den:Int):=by
  have h1:=zhq r;have h2:((r.num * (M:Int):Int):Rat)=((k * (r.den:Int):Int):Rat):=by
   rw [Rat.intCast_mul,Rat.intCast_mul,<-h1,<-e,Rat.intCast_natCast,Rat.intCast_natCast,Rat.mul_assoc,Rat.mul_assoc,Rat.mul_comm (r.den:Rat)]
  exact Rat.intCast_inj.mp h2
 have dv:(r.den:Int)∣(M:Int):=by
  have t:(r.den:Int)∣r.num * (M:Int):=⟨k,by rw [e2,Int.mul_comm]⟩;have u:=Int.dvd_gcd_mul_iff_dvd_mul.mpr t;rw [Int.gcd_comm,cop]at u;simpa using u
 obtain⟨c,hc⟩:=dv;have dp:(0:Int) < r.den:=by have:=r.den_pos; omega
 have c0:0 < c:=by
  rcases(by omega:0 < c\/c<=0)with z | z
  ·exact z
  ·have:=Int.mul_nonneg (Int.le_of_lt dp) (show 0<=-c by omega)
   rw [Int.mul_neg,<-hc]at this;omega
 have ek:k=r.num * c:=by
  rw [hc]at e2;have:k * (r.den:Int)=(r.num * c) * (r.den:Int):=by rw [<-e2]; ac_rfl
  exact Int.eq_of_mul_eq_mul_right (by omega) this
 constructor
 ·have:(r.den:Int) * 1<=(r.den:Int) * c:=Int.mul_le_mul_of_nonneg_left (by omega) (by omega)
  omega
 ·rw [ek,Int.natAbs_mul]at b
  exact qx (Nat.le_mul_of_pos_right _ (by omega)) b
theorem Bd.add(h:Bd M B r)(h':Bd M C s):Bd M (B+C) (r+s):=by
 obtain⟨k,e,b⟩:=h;obtain⟨l,f,c⟩:=h';exact⟨k+l,by rw [Rat.add_mul,e,f,Rat.intCast_add],qx (Int.natAbs_add_le _ _) (Nat.add_le_add b c)⟩
theorem Bd.mul(h:Bd M B r)(h':Bd N C s):Bd (M * N) (B * C) (r * s):=by
 obtain⟨k,e,b⟩:=h;obtain⟨l,f,c⟩:=h';refine⟨k * l,?_,by rw [Int.natAbs_mul]; exact Nat.mul_le_mul b c⟩;rw [Rat.intCast_mul,<-e,<-f,Rat.natCast_mul];grind
theorem Bd.neg(h:Bd M B r):Bd M B (-r):=by
 obtain⟨k,e,b⟩:=h;exact⟨-k,by rw [Rat.neg_mul,e,Rat.intCast_neg],by rw [Int.natAbs_neg]; exact b⟩
theorem Bd.zero:Bd M B 0:=⟨0,by rw [Rat.zero_mul]; rfl,Nat.zero_le _⟩
theorem Bd.one:Bd 1 1 1:=⟨1,by rw [Rat.one_mul]; rfl,qe _⟩
theorem Bd.int(n:Int):Bd 1 n.natAbs (n:Rat):=⟨n,by rw [show((1:Nat):Rat)=1 from rfl,Rat.mul_one],qe _⟩
end
abbrev Pq(α:Type):=List (List Int×α)
section
variable {α β:Type}
def look(p:Pq α)(k:List Int):Option α:=(p.find? fun t=>decide (t.1=k)).map (·.2)
def zat(p:Pq α)(k:List Int)(x:α):Pq α:=if(p.any fun t=>decide (t.1=k))=true then p.map (fun t=>if t.1=k then(t.1,x)else t)else p++[(k,x)]
def NdK(p:Pq α):Prop:=(p.map (·.1)).Nodup
theorem zc5{p:Pq α}{k:List Int}:look p k=none↔(p.any fun t=>decide (t.1=k))=false:=by
 induction p with
 | nil=>simp [look]
 | cons t p ih =>
  unfold look at ih ⊢;rw [List.find?_cons,List.any_cons]
  by_cases h:t.1=k
  ·simp [h]
  ·rw [decide_eq_false h,Bool.false_or]
   exact ih
theorem zrr{p:Pq α}{k:List Int}:(look p k).isSome=(p.any fun t=>decide (t.1=k)):=by
 cases h:look p k with
 | none=>rw [zc5.mp h]; rfl
 | some x =>
  cases z:(p.any fun t=>decide (t.1=k))with
  | true=>rfl
  | false=>rw [zc5.mpr z]at h; cases h
theorem zrs(p:Pq α)(k:List Int)(x:α):(zat p k x).map (·.1)=if(p.any fun t=>decide (t.1=k))=true then p.map (·.1)else p.map (·.1)++[k]:=by
 unfold zat;split
 ·rw [List.map_map]
  refine List.map_congr_left fun t _=>?_;show(if t.1=k then(t.1,x)else t).1=t.1;split<;>rfl
 ·rw [List.map_append]
  rfl
theorem zgD{p:Pq α}{k:List Int}{x:α}{t:List Int×α}(h:t∈zat p k x):(t∈p/\t.1≠k)\/t=(k,x):=by
 unfold zat at h;split at h
 ·obtain⟨u,hu,rfl⟩:=List.mem_map.mp h
  by_cases c:u.1=k
  ·rw [if_pos c]; exact .inr (by rw [c])
  ·rw [if_neg c]; exact .inl ⟨hu,c⟩
 ·rename_i hn
  rcases List.mem_append.mp h with z | z
  ·exact .inl ⟨z,fun e=>hn (List.any_eq_true.mpr ⟨t,z,decide_eq_true e⟩)⟩
  ·exact .inr (qp.mp z)
theorem NdK.put{p:Pq α}(h:NdK p)(k:List Int)(x:α):NdK (zat p k x):=by
 unfold NdK;rw [zrs];split
 ·exact h
 ·rename_i hn
  refine List.nodup_append.mpr ⟨h,by simp,fun a ha b hb=>?_⟩;have:b=k:=by simpa using hb
  rw [this];obtain⟨t,ht,rfl⟩:=List.mem_map.mp ha;exact fun e=>hn (List.any_eq_true.mpr ⟨t,ht,decide_eq_true e⟩)
theorem zjA(p:Pq α)(k:List Int)(x:α):(zat p k x).length<=p.length+1:=by
 unfold zat;split
 ·rw [List.length_map]; omega
 ·rw [qr]; exact qe _
def gat[Add α][Zero α](acc:Pq α)(ts:Pq α):Pq α:=ts.foldl (fun a t=>zat a t.1 ((look a t.1).getD 0+t.2)) acc
end
section
variable {α:Type} [Add α] [Zero α]
theorem zcl(ts:Pq α):∀ {acc:Pq α},NdK acc->NdK (gat acc ts):=by
 induction ts with
 | nil=>exact fun h=>h
 | cons t ts ih=>exact fun h=>ih (h.put _ _)
theorem zcx(ts:Pq α):∀ (acc:Pq α),(gat acc ts).length<=acc.length+ts.length:=by
 induction ts with
 | nil=>intro acc; exact qe _
 | cons t ts ih =>
  intro acc;have h1:=ih (zat acc t.1 ((look acc t.1).getD 0+t.2));have h2:=zjA acc t.1 ((look acc t.1).getD 0+t.2);rw [qt];show(gat (zat acc t.1 ((look acc t.1).getD 0+t.2)) ts).length<=_;omega
theorem zfq(acc ts:Pq α)(t:List Int×α):gat acc (ts++[t])=zat (gat acc ts) t.1 ((look (gat acc ts) t.1).getD 0+t.2):=by
 unfold gat;rw [List.foldl_append];rfl
theorem zkY{Pk:List Int->Prop}(ts:Pq α):∀ {acc:Pq α},(∀ t∈acc,Pk t.1)->(∀ t∈ts,Pk t.1)->∀ t∈gat acc ts,Pk t.1:=by
 induction ts with
 | nil=>exact fun h _=>h
 | cons t ts ih =>
  intro acc h1 h2;refine ih (acc:=zat acc t.1 _) (fun u hu=>?_) fun u hu=>h2 u (qm _ hu);rcases zgD hu with ⟨z,_⟩ | rfl
  ·exact h1 u z
  ·exact h2 t qo
end
theorem zkZ{α:Type}{p:Pq α}{k:List Int}{x:α}(h:look p k=some x):(k,x)∈p:=by
 unfold look at h;obtain⟨t,ht,rfl⟩:=qq.mp h;have h1:=List.mem_of_find?_eq_some ht;have h2:t.1=k:=by simpa using List.find?_some ht
 rw [<-h2];exact h1
theorem zdl{α:Type}{p:Pq α}(nd:NdK p){t:List Int×α}(h:t∈p):look p t.1=some t.2:=by
 induction p with
 | nil=>cases h
 | cons u p ih =>
  have nd':u.1∉p.map (·.1)/\NdK p:=List.nodup_cons.mp nd;unfold look at ih ⊢;rw [List.find?_cons];rcases qu.mp h with rfl | h
  ·rw [decide_eq_true rfl]; rfl
  ·rw [decide_eq_false (fun e=>nd'.1 (List.mem_map.mpr ⟨t,h,e.symm⟩))]
   exact ih nd'.2 h
def lin(p:Pq Rat)(g:List Int->Rat):Rat:=(p.map fun t=>t.2 * g t.1).sum
theorem zaf(g:List Int->Rat):lin [] g=0:=rfl
theorem zB(t:List Int×Rat)(p:Pq Rat)(g:List Int->Rat):lin (t::p) g=t.2 * g t.1+lin p g:=rfl
theorem znZ(p q:Pq Rat)(g:List Int->Rat):lin (p++q) g=lin p g+lin q g:=by
 induction p with
 | nil=>rw [List.nil_append,zaf,Rat.zero_add]
 | cons t p ih=>rw [List.cons_append,zB,zB,ih,Rat.add_assoc]
theorem zk0{p q:Pq Rat}(h:p.Perm q)(g:List Int->Rat):lin p g=lin q g:=by
 induction h with
 | nil=>rfl
 | cons t _ ih=>rw [zB,zB,ih]
 | swap t u p=>rw [zB,zB,zB,zB]; grind
 | trans _ _ i1 i2=>exact i1.trans i2
theorem zjB(p:Pq Rat)(g:List Int->Rat):lin (p.filter fun t=>decide (t.2≠0)) g=lin p g:=by
 induction p with
 | nil=>rfl
 | cons t p ih =>
  rw [List.filter_cons]
  by_cases h:t.2=0
  ·rw [if_neg (by simp [h]),zB,h,ih]; grind
  ·rw [if_pos (by simp [h]),zB,zB,ih]
theorem zrt{p:Pq Rat}(nd:NdK p){k:List Int}{x:Rat}(h:look p k=some x)(y:Rat)(g:List Int->Rat):lin (p.map fun t=>if t.1=k then(t.1,x+y)else t) g=lin p g+y * g k:=by
 induction p with
 | nil=>cases h
 | cons t p ih =>
  have nd':t.1∉p.map (·.1)/\NdK p:=List.nodup_cons.mp nd;rw [List.map_cons,zB,zB]
  by_cases c:t.1=k
  ·have e:p.map (fun t=>if t.1=k then(t.1,x+y)else t)=p:=by
    have:∀ u∈p,(fun t:List Int×Rat=>if t.1=k then(t.1,x+y)else t) u=id u:=fun u hu=>if_neg fun z=>nd'.1 (List.mem_map.mpr ⟨u,hu,z.trans c.symm⟩);rw [List.map_congr_left this,List.map_id]
   have ex:t.2=x:=by
    unfold look at h;rw [List.find?_cons,decide_eq_true c]at h;exact qw h
   rw [e,if_pos c,ex,c];grind
  ·have h':look p k=some x:=by
    unfold look at h ⊢;rw [List.find?_cons,decide_eq_false c]at h;exact h
   rw [if_neg c,ih nd'.2 h'];grind
theorem zt9{p:Pq Rat}(nd:NdK p)(k:List Int)(y:Rat)(g:List Int->Rat):lin (zat p k ((look p k).getD 0+y)) g=lin p g+y * g k:=by
 unfold zat;cases h:look p k with
 | none =>
  rw [if_neg (by rw [zc5.mp h]; exact qf),znZ,zB,zaf,Option.getD_none];grind
 | some x =>
  rw [if_pos (by rw [<-zrr,h]; rfl),Option.getD_some];exact zrt nd h y g
theorem zfr(ts:Pq Rat)(g:List Int->Rat):∀ {acc:Pq Rat},NdK acc->lin (gat acc ts) g=lin acc g+lin ts g:=by
 induction ts with
 | nil=>intro acc _; rw [zaf,Rat.add_zero]; rfl
 | cons t ts ih =>
  intro acc nd;show lin (gat (zat acc t.1 _) ts) g=_;rw [ih (nd.put _ _),zt9 nd,zB,Rat.add_assoc]
def ltP{α:Type}(a b:List Int×α):Prop:=zbv a.1 b.1=true
def ins{α:Type}(x:List Int×α):Pq α->Pq α
 | []=>[x]
 | y::l=>if zbv x.1 y.1=true then x::y::l else y::ins x l
def srt{α:Type}:Pq α->Pq α
 | []=>[]
 | x::l=>ins x (srt l)
theorem zhr{α:Type}(x:List Int×α):∀ l:Pq α,(ins x l).Perm (x::l)
 | []=>.refl _
 | y::l=>by
  unfold ins;split
  ·exact .refl _
  ·exact((zhr x l).cons y).trans (List.Perm.swap x y l)
theorem zbp{α:Type}:∀ l:Pq α,(srt l).Perm l
 | []=>.refl _
 | x::l=>(zhr x (srt l)).trans ((zbp l).cons x)
theorem zk1{α:Type}(x:List Int×α):∀ {l:Pq α},l.Pairwise ltP->(∀ y∈l,x.1≠y.1)->(ins x l).Pairwise ltP
 | [],_,_=>by unfold ins; simp
 | y::l,h,ne=>by
  obtain⟨h1,h2⟩:=List.pairwise_cons.mp h;unfold ins;split
  ·rename_i c
   refine List.pairwise_cons.mpr ⟨fun w hw=>?_,h⟩;rcases qu.mp hw with rfl | hw
   ·exact c
   ·exact zca c (h1 w hw)
  ·rename_i c
   refine List.pairwise_cons.mpr ⟨fun w hw=>?_,zk1 x h2 fun w hw=>ne w (qm _ hw)⟩;rcases qu.mp ((zhr x l).mem_iff.mp hw)with rfl | hw
   ·exact(zc0 (ne y qo)).resolve_left c
   ·exact h1 w hw
theorem zfs{α:Type}:∀ {l:Pq α},NdK l->(srt l).Pairwise ltP
 | [],_=>.nil
 | x::l,nd=>by
  have nd':x.1∉l.map (·.1)/\NdK l:=List.nodup_cons.mp nd;exact zk1 x (zfs nd'.2) fun y hy e=>nd'.1 (List.mem_map.mpr ⟨y,(zbp l).mem_iff.mp hy,e.symm⟩)
structure Nf (p:Pq Rat):Prop where
 st:p.Pairwise ltP
 nz:∀ t∈p,t.2≠0
theorem zjC{p:Pq Rat}{k:List Int}(h:∀ t∈p,t.1≠k):lin p (fun e=>if e=k then 1 else 0)=0:=by
 induction p with
 | nil=>rfl
 | cons t p ih =>
  rw [zB,ih fun u hu=>h u (qm _ hu),if_neg (h t qo)];grind
theorem lt_ne{α:Type}{a b:List Int×α}(h:ltP a b):a.1≠b.1:=fun e=>by
 unfold ltP at h;rw [e,zdg]at h;cases h
theorem Nf.tail{t:List Int×Rat}{p:Pq Rat}(h:Nf (t::p)):Nf p:=⟨(List.pairwise_cons.mp h.st).2,fun u hu=>h.nz u (qm _ hu)⟩
theorem Nf.head0{t:List Int×Rat}{p:Pq Rat}(h:Nf (t::p)):lin (t::p) (fun e=>if e=t.1 then 1 else 0)=t.2:=by
 rw [zB,zjC fun u hu e=>lt_ne ((List.pairwise_cons.mp h.st).1 u hu) e.symm,if_pos rfl];grind
theorem zgE:∀ {p q:Pq Rat},Nf p->Nf q->(∀ g,lin p g=lin q g)->p=q
 | [],[],_,_,_=>rfl
 | [],t::q,_,hq,h=>by
  have:=h fun e=>if e=t.1 then 1 else 0;rw [hq.head0,zaf]at this;exact absurd this.symm (hq.nz t qo)
 | t::p,[],hp,_,h=>by
  have:=h fun e=>if e=t.1 then 1 else 0;rw [hp.head0,zaf]at this;exact absurd this (hp.nz t qo)
 | t::p,u::q,hp,hq,h=>by
  have key:t.1=u.1:=by
   by_cases c:t.1=u.1
   ·exact c
   ·exfalso
    rcases zc0 c with z | z
    ·have:=h fun e=>if e=t.1 then 1 else 0
     rw [hp.head0,zjC]at this
     ·exact hp.nz t qo this
     ·intro w hw e
      rcases qu.mp hw with rfl | hw
      ·exact c e.symm
      ·have:=zca z ((List.pairwise_cons.mp hq.st).1 w hw)
       rw [e,zdg]at this;cases this
    ·have:=h fun e=>if e=u.1 then 1 else 0
     rw [hq.head0,zjC]at this
     ·exact hq.nz u qo this.symm
     ·intro w hw e
      rcases qu.mp hw with rfl | hw
      ·exact c e
      ·have:=zca z ((List.pairwise_cons.mp hp.st).1 w hw)
       rw [e,zdg]at this;cases this
  have val:t.2=u.2:=by
   have:=h fun e=>if e=t.1 then 1 else 0;rw [hp.head0,key,hq.head0]at this;exact this
  have tl:∀ g,lin p g=lin q g:=fun g=>by
   have:=h g;rw [zB,zB,key,val]at this;grind
  rw [zgE hp.tail hq.tail tl,Prod.ext key val]
def nz(p:Pq Rat):Pq Rat:=p.filter fun t=>decide (t.2≠0)
theorem zk2{p:Pq Rat}(h:NdK p):NdK (nz p):=h.sublist (List.filter_sublist.map _)
theorem nd0:NdK ([]:Pq Rat):=List.nodup_nil
def PB(M B:Nat)(p:Pq Rat):Prop:=∀ t∈p,Bd M B t.2
theorem zjD{M B:Nat}{p:Pq Rat}(h:PB M B p)(k:List Int):Bd M B ((look p k).getD 0):=by
 cases e:look p k with
 | none=>exact Bd.zero
 | some x=>exact h _ (zkZ e)
theorem zjE{M B:Nat}(ts:Pq Rat):∀ {C:Nat} {acc:Pq Rat},PB M C acc->PB M B ts->PB M (C+ts.length * B) (gat acc ts):=by
 induction ts with
 | nil=>intro C acc h _ t ht; exact(h t ht).le (by rw [List.length_nil]; omega)
 | cons t ts ih =>
  intro C acc h h' u hu;have hp:PB M (C+B) (zat acc t.1 ((look acc t.1).getD 0+t.2)):=fun v hv=>by
   rcases zgD hv with ⟨z,_⟩ | rfl
   ·exact(h v z).le (by omega)
   ·exact(zjD h _).add (h' t qo)
  exact(ih hp (fun v hv=>h' v (qm _ hv)) u hu).le (by rw [qt,Nat.add_mul]; omega)
theorem pb0{M B:Nat}:PB M B []:=fun t ht=>by cases ht
def zua(p:Pq Rat):Pq Rat:=p.map fun t=>(t.1,-t.2)
def zaa(a b:List Int):List Int:=List.zipWith (·+·) a b
def zau{α:Type}[Mul α](p q:Pq α):Pq α:=p.flatMap fun s=>q.map fun t=>(zaa s.1 t.1,s.2 * t.2)
theorem zub(p:Pq Rat)(g:List Int->Rat):lin (zua p) g=-lin p g:=by
 induction p with
 | nil=>rfl
 | cons t p ih =>
  show lin ((t.1,-t.2)::zua p) g=_;rw [zB,zB,ih];grind
theorem zru(s:List Int×Rat)(q:Pq Rat)(g:List Int->Rat):lin (q.map fun t=>(zaa s.1 t.1,s.2 * t.2)) g=s.2 * lin q fun b=>g (zaa s.1 b):=by
 induction q with
 | nil=>rw [List.map_nil,zaf,zaf,Rat.mul_zero]
 | cons t q ih=>rw [List.map_cons,zB,zB,ih]; grind
theorem zuc(p q:Pq Rat)(g:List Int->Rat):lin (zau p q) g=lin p fun a=>lin q fun b=>g (zaa a b):=by
 induction p with
 | nil=>rfl
 | cons s p ih =>
  show lin (_++zau p q) g=_;rw [znZ,zru,ih,zB]
theorem zo8{p:Pq Rat}{g h:List Int->Rat}(e:∀ t∈p,g t.1=h t.1):lin p g=lin p h:=by
 induction p with
 | nil=>rfl
 | cons t p ih=>rw [zB,zB,e t qo,ih fun u hu=>e u (qm _ hu)]
theorem ziH(p:Pq Rat)(g:List Int->Rat)(c:Rat):(lin p fun e=>c * g e)=c * lin p g:=by
 induction p with
 | nil=>rw [zaf,zaf,Rat.mul_zero]
 | cons t p ih=>rw [zB,zB,ih]; grind
theorem zhs{α:Type}[Mul α](p q:Pq α):(zau p q).length=p.length * q.length:=by
 induction p with
 | nil=>simp [zau]
 | cons s p ih =>
  show(_++zau p q).length=_;rw [qr,ih,List.length_map,qt,Nat.add_mul,Nat.one_mul,Nat.add_comm]
theorem zud{α:Type}[Mul α]{p q:Pq α}{t:List Int×α}(h:t∈zau p q):∃ u∈p,∃ v∈q,t=(zaa u.1 v.1,u.2 * v.2):=by
 obtain⟨u,hu,h⟩:=List.mem_flatMap.mp h;obtain⟨v,hv,rfl⟩:=List.mem_map.mp h;exact⟨u,hu,v,hv,rfl⟩
def toR(c:Int)(p:Pq Int):Pq Rat:=p.map fun t=>(t.1,Rat.divInt t.2 c)
theorem zrv{α β:Type}(φ:α->β)(p:Pq α)(k:List Int):look (p.map fun t=>(t.1,φ t.2)) k=(look p k).map φ:=by
 unfold look
 induction p with
 | nil=>rfl
 | cons t p ih =>
  rw [List.map_cons,List.find?_cons,List.find?_cons]
  by_cases h:t.1=k
  ·rw [decide_eq_true h]; rfl
  ·rw [decide_eq_false h]; exact ih
theorem zue{α β:Type}(φ:α->β)(p:Pq α)(k:List Int)(x:α):(zat p k x).map (fun t=>(t.1,φ t.2))=zat (p.map fun t=>(t.1,φ t.2)) k (φ x):=by
 have any:((p.map fun t=>(t.1,φ t.2)).any fun t=>decide (t.1=k))=(p.any fun t=>decide (t.1=k)):=by rw [List.any_map]; rfl
 unfold zat;rw [any];split
 ·rw [List.map_map,List.map_map]
  refine List.map_congr_left fun t _=>?_;show(fun t:List Int×α=>(t.1,φ t.2)) (if t.1=k then(t.1,x)else t)=if t.1=k then(t.1,φ x)else(t.1,φ t.2);split<;>rfl
 ·rw [List.map_append]; rfl
theorem zn0{α β:Type}[Add α][Zero α][Add β][Zero β](φ:α->β)(h0:φ 0=0)(ha:∀ a b,φ (a+b)=φ a+φ b)(ts:Pq α):∀ acc:Pq α,(gat acc ts).map (fun t=>(t.1,φ t.2))=gat (acc.map fun t=>(t.1,φ t.2)) (ts.map fun t=>(t.1,φ t.2)):=by
 induction ts with
 | nil=>intro acc; rfl
 | cons t ts ih =>
  intro acc;show(gat (zat acc t.1 _) ts).map _=gat (zat _ t.1 _) _;rw [ih,zue,ha,zrv];cases look acc t.1 with
  | none=>rw [Option.getD_none,h0]; rfl
  | some x=>rfl
theorem zn1{c:Int}(hc:c≠0)(ts:Pq Int):toR c (gat [] ts)=gat [] (toR c ts):=zn0 (fun k=>Rat.divInt k c) (Rat.zero_divInt c) (fun a b=>by
 rw [Rat.divInt_eq_div,Rat.divInt_eq_div,Rat.divInt_eq_div,Rat.intCast_add,Rat.div_def,Rat.div_def,Rat.div_def,Rat.add_mul]) ts []
theorem zx0{c:Int}(hc:c≠0)(p:Pq Int):nz (toR c p)=toR c (p.filter fun t=>!decide (t.2=0)):=by
 unfold nz toR;rw [List.filter_map];congr 1;refine List.filter_congr fun t _=>?_;show decide (Rat.divInt t.2 c≠0)=!decide (t.2=0);rw [Bool.eq_iff_iff,Bool.not_eq_true',decide_eq_false_iff_not,decide_eq_true_iff];refine not_congr ⟨fun h=>?_,fun h=>by rw [h]; exact Rat.zero_divInt c⟩;rw [<-Rat.zero_divInt c,Rat.divInt_eq_divInt_iff hc hc]at h;rcases Int.mul_eq_zero.mp (show t.2 * c=0 by omega)with z | z
 ·exact z
 ·exact absurd z hc
def iv(m:Nat)(r:Rat):Int:=r.num * ((m:Int) / (r.den:Int))
theorem Bd.dvd{M B:Nat}{r:Rat}(h:Bd M B r):r.den∣M:=by
 obtain⟨k,e,b⟩:=h;have e2:r.num * (M:Int)=k * (r.den:Int):=by
  have h1:=zhq r;have h2:((r.num * (M:Int):Int):Rat)=((k * (r.den:Int):Int):Rat):=by
   rw [Rat.intCast_mul,Rat.intCast_mul,<-h1,<-e,Rat.intCast_natCast,Rat.intCast_natCast,Rat.mul_assoc,Rat.mul_assoc,Rat.mul_comm (r.den:Rat)]
  exact Rat.intCast_inj.mp h2
 have t:(r.den:Int)∣r.num * (M:Int):=⟨k,by rw [e2,Int.mul_comm]⟩;have u:=Int.dvd_gcd_mul_iff_dvd_mul.mpr t;rw [Int.gcd_comm,cop]at u;have u:(r.den:Int)∣(M:Int):=by simpa using u
 exact Int.natCast_dvd_natCast.mp u
def pwD(ks:List Int):D:=.tuple (ks.map PyData.int)
abbrev kL(ks:List Int):List Key:=ks.map Sum.inl
section
variable {α:Type} {c:α->D}
def kvG(c:α->D)(p:Pq α):List (List Key×D):=p.map fun t=>(kL t.1,c t.2)
def dcG(c:α->D)(p:Pq α):List (D×D):=p.map fun t=>(pwD t.1,c t.2)
def tmG(c:α->D)(p:Pq α):List D:=p.map fun t=>.tuple [pwD t.1,c t.2]
theorem zeX(p:Pq α):tmG c p=p.map fun t=>.tuple [pwD t.1,c t.2]:=rfl
theorem zf5{a b:List Int}:kL a=kL b↔a=b:=zjf
theorem zjF(k:List Int):kTD (kL k)=pwD k:=by
 unfold kTD pwD kL;rw [List.map_map];rfl
theorem zbq(k:List Int):zae (pwD k)=some (kL k):=by rw [<-zjF,zfl]
theorem zmo(p:Pq α):(kvG c p).map (fun p=>(kTD p.1,p.2))=dcG c p:=by
 unfold kvG dcG;rw [List.map_map];refine List.map_congr_left fun t _=>?_;show(kTD (kL t.1),c t.2)=_;rw [zjF]
theorem zb7{p:Pq α}:U.fz (.t (kvG c p))=some (.dict (dcG c p)):=by
 show some (PyData.dict _)=_;rw [zmo]
theorem zeY(p:Pq α):noX (dcG c p)=true:=by
 cases p with
 | nil=>rfl
 | cons t p=>rfl
theorem zuf(p:Pq α)(k:List Int):zmc (kvG c p) (kL k)=(look p k).map c:=by
 unfold zmc kvG look
 induction p with
 | nil=>rfl
 | cons t p ih =>
  rw [List.map_cons,List.find?_cons,List.find?_cons]
  by_cases h:t.1=k
  ·rw [decide_eq_true h,decide_eq_true (zf5.mpr h)]; rfl
  ·rw [decide_eq_false h,decide_eq_false (fun z=>h (zf5.mp z))]; exact ih
theorem zrw(p:Pq α)(k:List Int):zix (dcG c p) (kL k)=(look p k).map c:=by
 unfold zix dcG look
 induction p with
 | nil=>rfl
 | cons t p ih =>
  rw [List.map_cons,List.find?_cons,List.find?_cons]
  by_cases h:t.1=k
  ·rw [decide_eq_true h,decide_eq_true (show zae (pwD t.1)=some (kL k) by rw [zbq,h])]; rfl
  ·rw [decide_eq_false h,decide_eq_false (show ¬zae (pwD t.1)=some (kL k) by rw [zbq]; exact fun z=>h (zf5.mp (qw z)))]; exact ih
theorem zn2{p:Pq α}{k:List Int}:zhV (.t (kvG c p)) (.d (pwD k))=some ((look p k).map c):=by
 show(zae (pwD k)).map _=_;rw [zbq,Option.map_some,zuf]
theorem zn3{p:Pq α}{k:List Int}:zhV (.d (.dict (dcG c p))) (.d (pwD k))=some ((look p k).map c):=by
 show(if noX (dcG c p)=true then _ else _)=_;rw [if_pos (zeY p)];show(zae (pwD k)).map _=_;rw [zbq,Option.map_some,zrw]
theorem zrx{p:Pq α}:noX (dcG c p)=true:=zeY p
theorem zry{p:Pq α}:(dcG c p).map (fun x=>x.1)=p.map fun t=>pwD t.1:=by
 unfold dcG;rw [List.map_map];rfl
theorem zk3{k:List Int}:zae (pwD k)=some (kL k):=zbq k
theorem zrz{p:Pq α}:zhk (.d (.dict (dcG c p)))=true:=zeY p
theorem zjG(p:Pq α)(k:List Int)(x:α):zdq (kvG c p) (kL k) (c x)=kvG c (zat p k x):=by
 have any:((kvG c p).any fun kv=>decide (kv.1=kL k))=(p.any fun t=>decide (t.1=k)):=by
  unfold kvG;rw [List.any_map];congr 1
  funext t
  exact decide_eq_decide.mpr zf5
 unfold zdq zat;rw [any];split
 ·unfold kvG
  rw [List.map_map,List.map_map];refine List.map_congr_left fun t _=>?_;show(if kL t.1=kL k then _ else _)=(fun t:List Int×α=>(kL t.1,c t.2)) (if t.1=k then(t.1,x)else t)
  by_cases h:t.1=k
  ·rw [if_pos (zf5.mpr h),if_pos h]
  ·rw [if_neg (fun z=>h (zf5.mp z)),if_neg h]
 ·unfold kvG
  rw [List.map_append];rfl
theorem zrA(p:Pq α):(kvG c p).length=p.length:=List.length_map ..
theorem zmp{p:Pq α}{k:List Int}{x:α}(h:p.length < 16777216):ziE (.t (kvG c p)) (pwD k) (c x)=some (.t (kvG c (zat p k x))):=by
 show(zae (pwD k)).bind _=_;rw [zbq,bd,if_pos (by rw [zrA]; exact h),zjG]
theorem ziI{p:Pq α}:zcj (.d (.dict (dcG c p)))=some (tmG c p):=by
 show(if noX (dcG c p)=true then _ else _)=_;rw [if_pos (zeY p)];unfold dcG tmG;rw [List.map_map];rfl
theorem zht:∀ p:Pq α,zhm (dcG c p)=some (kvG c p)
 | []=>rfl
 | t::p=>by
  show(zae (pwD t.1)).bind _=_;rw [zbq,bd];show(zhm (dcG c p)).bind _=_;rw [zht p,bd];rfl
theorem zrB(p:Pq α):(kvG c p).map (·.1)=(p.map (·.1)).map kL:=by
 unfold kvG;rw [List.map_map,List.map_map];rfl
def zn4(p:Pq α):Prop:=zeW ((p.map (·.1)).map kL)=true
theorem zzV{p:Pq α}(h:zn4 p):zeb (.d (.dict (dcG c p)))=some (.t (kvG c p)):=by
 show(if noX (dcG c p)=true then _ else _)=_;rw [if_pos (zeY p),zht,bd,if_pos (by rw [zrB]; exact h)]
theorem zrC(k:List Int)(d:D):pk (.tuple [pwD k,d])=some k:=zf4 k
theorem zrD:∀ p:Pq α,pks (tmG c p)=some (p.map (·.1))
 | []=>rfl
 | t::p=>by
  show(pk (.tuple [pwD t.1,c t.2])).bind _=_;rw [zrC,bd];show(pks (tmG c p)).bind _=_;rw [zrD p];rfl
theorem zx1{p:Pq α}(nd:NdK p)(hl:p.length < 64):zmd (.l (tmG c p))=some (.l (tmG c (srt p))):=by
 have e:znp (tmG c p)=tmG c (srt p):=zkE ((zbp p).map _) (List.pairwise_map.mpr ((zfs nd).imp fun{a b} h=>⟨_,_,zrC a.1 _,zrC b.1 _,h⟩));show(some _).bind _=_;rw [bd,zrD,bd,if_pos ⟨by unfold tmG; rw [List.length_map]; exact hl,nd⟩,e]
end
theorem zvU{r:Rat}:zaO (.d (fR r)) (.d (.int 0))=some (.d (.int r.num)):=rfl
theorem zvV{r:Rat}:zaO (.d (fR r)) (.d (.int 1))=some (.d (.int (r.den:Int))):=rfl
theorem zrE(r:Rat):(!decide (r.num=0))=decide (r≠0):=by
 rw [Bool.eq_iff_iff,Bool.not_eq_true',decide_eq_false_iff_not,decide_eq_true_iff];exact not_congr Rat.num_eq_zero
theorem zhu{α β:Type}{f:α->D}{g:β->D}:∀ (as:List α) (bs:List β),zjy (as.map f) (bs.map g)=(as.zip bs).map fun t=>.tuple [f t.1,g t.2]
 | [],bs=>by cases bs<;>rfl
 | a::as,[]=>rfl
 | a::as,b::bs=>by rw [List.map_cons,List.map_cons,List.zip_cons_cons,List.map_cons,<-zhu as bs]; rfl
theorem zjH{α:Type}{f:α->D}{as:List α}{ks:List Int}(h:as.length=ks.length):zrk [.d (.tuple (as.map f)),.d (pwD ks)]=some ((as.zip ks).map fun t=>.tuple [f t.1,.int t.2]):=by
 show(if _ then _ else _)=_;rw [if_pos (by rw [List.length_map,List.length_map]; exact h),zhu]
theorem zft{as ks:List Int}(h:as.length=ks.length):zrk [.d (pwD as),.d (pwD ks)]=some ((as.zip ks).map fun t=>.tuple [.int t.1,.int t.2]):=zjH (f:=PyData.int) h
theorem zcT{α:Type}{g:α->D}{nt:Nat}{e:α->D}{as:List α}{mg:MG}{mt:MT}{me:ME}{ρ:En}{Q:List D×En->Prop}(hz:as.length<=16777216)
  (st:∀ a∈as,∀ ys,Wo (mg (g a) ρ) (Co mt ⟨0⟩ (kLC nt me ys fun ρ' zs=>ρ'=ρ/\zs=ys++[e a]))) (q:Q (as.map e,ρ)):Wo (lcM nt mg mt me (as.map g) ρ []) Q:=by
 refine zrn (b:=fun _=>true) (e:=e) (by rw [zoZ]; exact hz) (fun a ha ys=>?_) ?_
 ·simp only [if_true]
  exact st a ha ys
 ·rw [show as.filter (fun _=>true)=as from List.filter_eq_self.mpr fun _ _=>rfl]
  exact q
theorem ziJ(r:Rat):SeqAt.shaped (fR r)=true:=by
 unfold SeqAt.shaped fR;simp [PyData.canLay0,PyData.canLayAll0,PyData.depth,PyData.depthAll]
theorem zx2(a b:Rat):PyData.eqv (fR a) (fR b)=decide (a=b):=by
 unfold fR;simp only [PyData.eqv,PyData.eqvAll];rw [Bool.eq_iff_iff,decide_eq_true_iff];constructor
 ·intro h
  simp only [Bool.and_eq_true,beq_iff_eq]at h;exact Rat.ext h.1 (by omega)
 ·rintro rfl
  simp
theorem zmq{a b:Rat}{neg:Bool}:zy6 neg (.d (fR a)) (.d (fR b))=some (.d (.bool (if neg=true then !decide (a=b)else decide (a=b)))):=by
 show(some (fR a)).bind _=_;rw [bd];show(some (fR b)).bind _=_;rw [bd,if_pos ⟨ziJ a,ziJ b⟩,zx2]
theorem zrF{o:Option Rat}:(Option.map fR o).getD (.tuple [.int 0,.int 1])=fR (o.getD 0):=by cases o<;>rfl
theorem zo9{α:Type}[Mul α](p q:Pq α)(s:List Int×α):zau (p++[s]) q=zau p q++q.map fun t=>(zaa s.1 t.1,s.2 * t.2):=by
 unfold zau;rw [List.flatMap_append];simp
def psg(s:Int)(q:Pq Rat):Pq Rat:=q.map fun t=>(t.1,(s:Rat) * t.2)
theorem zx3{s:Int}(hs:s=1\/s=-1)(r:Rat):PyData.tuple [.int (s * r.num),.int (r.den:Int)]=fR ((s:Rat) * r):=by
 rcases hs with rfl | rfl
 ·rw [Int.one_mul,show((1:Int):Rat)=1 from rfl,Rat.one_mul]; rfl
 ·rw [show((-1:Int):Rat)=-1 from rfl,Rat.neg_mul,Rat.one_mul,Int.neg_mul,Int.one_mul]; rfl
theorem zrG{M B:Nat}{s:Int}(hs:s=1\/s=-1){q:Pq Rat}(h:PB M B q):PB M B (psg s q):=fun t ht=>by
 obtain⟨u,hu,rfl⟩:=List.mem_map.mp ht;rcases hs with rfl | rfl
 ·show Bd M B (((1:Int):Rat) * u.2)
  rw [show((1:Int):Rat)=1 from rfl,Rat.one_mul];exact h u hu
 ·show Bd M B (((-1:Int):Rat) * u.2)
  rw [show((-1:Int):Rat)=-1 from rfl,Rat.neg_mul,Rat.one_mul];exact(h u hu).neg
theorem zug(q:Pq Rat):psg 1 q=q:=by
 unfold psg;have:∀ t∈q,(fun t:List Int×Rat=>(t.1,((1:Int):Rat) * t.2)) t=id t:=fun t _=>by
  show(t.1,((1:Int):Rat) * t.2)=t;rw [show((1:Int):Rat)=1 from rfl,Rat.one_mul]
 rw [List.map_congr_left this,List.map_id]
theorem zuh(q:Pq Rat):psg (-1) q=zua q:=by
 unfold psg zua;refine List.map_congr_left fun t _=>?_;rw [show((-1:Int):Rat)=-1 from rfl,Rat.neg_mul,Rat.one_mul]
theorem zpa{α:Type}{p:Pq α}{k:List Int}{x:α}(h:∀ t∈p,t.1≠k):zat p k x=p++[(k,x)]:=by
 unfold zat;rw [if_neg];intro z;obtain⟨t,ht,e⟩:=List.any_eq_true.mp z;exact h t ht (of_decide_eq_true e)
theorem zrH{α:Type}{bs cs:Pq α}{t:List Int×α}(nd:NdK (bs++t::cs)):∀ u∈bs,u.1≠t.1:=fun u hu e=>by
 unfold NdK at nd;rw [List.map_append,List.map_cons]at nd;exact(List.nodup_append.mp nd).2.2 u.1 (List.mem_map.mpr ⟨u,hu,rfl⟩) t.1 qo e
theorem zn5(bs:Pq Rat)(t:List Int×Rat):nz (bs++[t])=if t.2=0 then nz bs else nz bs++[t]:=by
 unfold nz;rw [List.filter_append,List.filter_cons]
 by_cases h:t.2=0
 ·rw [if_pos h,if_neg (by simp [h])]; simp
 ·rw [if_neg h,if_pos (by simp [h])]; rfl
theorem zrI{bs cs:Pq Rat}{t:List Int×Rat}(nd:NdK (bs++t::cs)):zat (nz bs) t.1 t.2=nz bs++[t]:=zpa fun u hu=>zrH nd u (List.mem_filter.mp hu).1
theorem zjI{α β:Type}{f:α->β}:∀ {l:List α},(l.map f).Nodup->∀ a∈l,∀ b∈l,f a=f b->a=b
 | [],_,a,ha,_,_,_=>by cases ha
 | x::l,nd,a,ha,b,hb,e=>by
  rw [List.map_cons,List.nodup_cons]at nd;rcases qu.mp ha with h1 | h1
  ·rcases qu.mp hb with h2 | h2
   ·rw [h1,h2]
   ·exact(nd.1 (List.mem_map.mpr ⟨b,h2,by rw [<-e,h1]⟩)).elim
  ·rcases qu.mp hb with h2 | h2
   ·exact(nd.1 (List.mem_map.mpr ⟨a,h1,by rw [e,h2]⟩)).elim
   ·exact zjI nd.2 a h1 b h2 e
theorem zx4{n d:Int}{M:Nat}(hd:0 < d)(h:d∣(M:Int))(h0:0 < M):Bd M (n.natAbs * M) (Rat.divInt n d):=by
 obtain⟨c,hc⟩:=h;have c0:0 < c:=by
  rcases(by omega:0 < c\/c<=0)with z | z
  ·exact z
  ·have:=Int.mul_nonneg (Int.le_of_lt hd) (show 0<=-c by omega)
   rw [Int.mul_neg,<-hc]at this;omega
 have dr:((d:Int):Rat)≠0:=fun z=>by
  have:=Rat.intCast_inj.mp (show((d:Int):Rat)=((0:Int):Rat) from z);omega
 refine⟨n * c,?_,?_⟩
 ·have e:(M:Rat)=((d:Int):Rat) * ((c:Int):Rat):=by rw [<-Rat.intCast_mul,<-hc,Rat.intCast_natCast]
  rw [e,Rat.divInt_eq_div,Rat.intCast_mul];grind
 ·rw [Int.natAbs_mul]
  refine Nat.mul_le_mul_left _ ?_;have:1 * c<=d * c:=Int.mul_le_mul_of_nonneg_right (by omega) (by omega);omega
end L2
namespace L2
open PySem PySem.Spec PyProof.Rows
open PySem.AutoSeq1 (wpAny_loadPart')
theorem zmr(t:Addr)(items:Array Value)(n:Nat)(dd:Option Addr)(sl:Array (Option Value))(u:Tok) :
  Meets (Builtin.«tuple.__mul__» ⟨[.ref t,.int 1 u],[]⟩) (fun _ R s=>s.heap.get? t=some { cls:=.type "tuple",dict:=dd,data:=.seq items n,slots:=sl }/\R (.ok (.ret (.ref t))) s) :=
 .of_wp fun prog w A R s h=>by
  obtain⟨hp,g,d,tk,os⟩:=s;obtain⟨hl,h⟩:=h
  wp_walk using wpAny_loadPart' hl
  exact⟨_,rfl,h⟩
theorem zms(t:Addr)(items:Array Value)(n:Nat)(dd:Option Addr)(sl:Array (Option Value))(x:Int)(u:Tok)(hf:(decide (x < -2^63) || decide (x>=2^63))=false)(h1:(items.isEmpty || x==1)=false)(h0:(decide (x<=0) || items.isEmpty)=true) :
  Meets (Builtin.«tuple.__mul__» ⟨[.ref t,.int x u],[]⟩) (fun _ R s=>s.heap.get? t=some { cls:=.type "tuple",dict:=dd,data:=.seq items n,slots:=sl } /\
   R (.ok (.ret (.ref s.heap.objs.size))) { s with heap:=s.heap.push { cls:=.type "tuple",data:=.seq #[] } }) :=
 .of_wp fun prog w A R s h=>by
  obtain⟨hp,g,d,tk,os⟩:=s;obtain⟨hl,h⟩:=h
  wp_walk using wpAny_loadPart' hl
  refine wpAny_ite_false (by rw [hf]; rfl) ?_
  wp_walk using wpAny_loadPart' hl
  exact⟨_,rfl,h⟩
theorem zmt(t:Addr)(items:Array Value)(n:Nat)(dd:Option Addr)(sl:Array (Option Value))(x:Int)(u:Tok)(hf:(decide (x < -2^63) || decide (x>=2^63))=false)(h1:(items.isEmpty || x==1)=false)(h0:(decide (x<=0) || items.isEmpty)=false)
  (hm:¬((items.size:Int) * x > (2^63 - 1) / 8)) (ht:Builtin.Tuple.tupleTooMany ((items.size:Int) * x)=false) (hz:(List.foldl (fun x1 x2=>x1++x2) #[] (List.replicate x.toNat items)).size<=sizeLine) :
  Meets (Builtin.«tuple.__mul__» ⟨[.ref t,.int x u],[]⟩) (fun _ R s=>s.heap.get? t=some { cls:=.type "tuple",dict:=dd,data:=.seq items n,slots:=sl } /\
   R (.ok (.ret (.ref s.heap.objs.size))) { s with heap:=s.heap.push { cls:=.type "tuple",data:=.seq (List.foldl (fun x1 x2=>x1++x2) #[] (List.replicate x.toNat items)) } }) :=
 .of_wp fun prog w A R s h=>by
  obtain⟨hp,g,d,tk,os⟩:=s;obtain⟨hl,h⟩:=h
  wp_walk using wpAny_loadPart' hl
  refine wpAny_ite_false (by rw [hf]; rfl) ?_
  wp_walk using wpAny_loadPart' hl
  refine wpAny_ite_false (decide_eq_false hm) ?_
  wp_walk using wpAny_loadPart' hl
  exact⟨_,rfl,h⟩
theorem zf6:fillsNumberSlot (.type "tuple") "mul"=pure false :=
 PySem.fillsNumberSlot_seq (id := "tuple.__mul__") (r:=some (.builtin "tuple.__rmul__")) F.slot_tuple_mul.lookup (by decide +kernel) F.slot_tuple_rmul.lookup (by decide +kernel)
theorem zjJ:seqRepeat? (.type "tuple")=pure (some (.builtin "tuple.__mul__")):=by
 unfold seqRepeat?;rw [PySem.seqSlot_of (T := "tuple") (name := "__mul__") (id := "tuple.__mul__") F.slot_tuple_mul.lookup (by decide +kernel),PySem.seqSlot_of (T := "tuple") (name := "__rmul__") (id := "tuple.__rmul__") F.slot_tuple_rmul.lookup (by decide +kernel)];rfl
theorem zhv(a:Int)(t:Tok)(l:Addr)(items:Array Value)(n:Nat)(dd:Option Addr)(sl:Array (Option Value)) :
  Meets (Builtin.«int.__rmul__» ⟨[.int a t,.ref l],[]⟩) (fun _ R s=>s.heap.get? l=some { cls:=.type "tuple",dict:=dd,data:=.seq items n,slots:=sl }/\R (.ok (.ret Value.notImplemented)) s) :=
 .of_wp fun prog w A R s h=>by obtain⟨hp,g,d,tk,os⟩:=s; obtain⟨hl,h⟩:=h; wp_walk; exact⟨_,rfl,h⟩
section
variable {X:Cx}
def zvW(K:qc):R2:=fun x y H Q=>∃ l k xs,x=.ref l/\y=.int k/\SqT K H l xs/\xs≠[]/\k < 1000000/\-1000000 < k/\xs.length * k.toNat<=1000000 /\
 ((k=1/\Q x H)\/(k≠1/\∀ p,H p=none->Q (.ref p) (upd H p (.tup (List.replicate k.toNat xs).flatten))))
theorem zfu(K:qc)(hK:X.K=K:=by rfl):OpR X (binaryOp .Mult) (zvW K):=by
 subst hK;intro pins s σ H x y v u Q I rx ry h;obtain⟨l,k,xs,rfl,rfl,hq,hne,hk,hk0,hz,q⟩:=h;cases rx;obtain⟨t,rfl⟩:=ry;obtain⟨its,rv,ht,hzz⟩:=I.tuple hq;obtain⟨⟨c,dct,dt,sl⟩,hl,hc,n,hd⟩:=ht;replace hc:c=.type "tuple":=hc;replace hd:dt=.seq its.toArray n:=hd;subst hc hd;have lv:=rv.length;have ine:its.toArray.isEmpty=false:=by
  cases its with
  | nil=>cases rv; exact absurd rfl hne
  | cons a r=>rfl
 have hf:(decide (k < -2^63) || decide (k>=2^63))=false:=by
  rw [Bool.or_eq_false_iff];exact⟨decide_eq_false (by omega),decide_eq_false (by omega)⟩
 have f0:List.foldl (fun x1 x2=>x1++x2) #[] (List.replicate k.toNat its.toArray)=(List.replicate k.toNat its).flatten.toArray:=by
  have:=zfU its k.toNat [];rw [List.nil_append]at this;exact this
 have ln:(List.replicate k.toNat xs).flatten.length<=sizeLine:=by
  rw [zi4,Nat.mul_comm];have:sizeLine=16777216:=zoZ;omega
 refine wpAny_binaryOp_repeat_ref (T := "tuple") (U := "int") (by decide) ⟨_,hl,rfl⟩ (fun s'=>typeIs_int s' k t) zf6 F.fills_int_mul F.slot_int_rmul zjJ F.slot_int_index.lookup
  (call_meets F.slot_int_rmul (typeIs_int s k t) F.entry_int_rmul (F.args_int_rmul_2 _ _) (zhv k t l its.toArray n dct sl) ⟨hl,rfl,⟨_,hl,rfl⟩,?_⟩)
 rcases q with ⟨rfl,q⟩ | ⟨k1,q⟩
 ·exact call_meets F.slot_tuple_mul ⟨_,hl,rfl⟩ F.entry_tuple_mul (F.args_tuple_mul_2 _ _) (zmr l its.toArray n dct sl t) ⟨hl,.ref l,H,I,rfl,q⟩
 ·have h1:(its.toArray.isEmpty || k==1)=false:=by rw [ine,Bool.false_or]; simpa using k1
  by_cases k0:k<=0
  ·refine call_meets F.slot_tuple_mul ⟨_,hl,rfl⟩ F.entry_tuple_mul (F.args_tuple_mul_2 _ _) (zms l its.toArray n dct sl k t hf h1 (by rw [decide_eq_true k0]; rfl)) ⟨hl,.ref _,_,I.laid (t':=s.toks) (o:=.tup []) (fun _ _ q=>qd _ q) (qe _) ⟨Nat.zero_le _,[],.nil,_,qg _ rfl,rfl,⟨_,rfl⟩,.inl rfl⟩,rfl,?_⟩
   have:=q _ I.fresh;rw [show k.toNat=0 by omega]at this;exact this
  ·have m63:(its.toArray.size:Int) * k<=1000000:=by
    have e1:(its.toArray.size:Int)=(xs.length:Int):=by rw [List.size_toArray,lv]
    have e2:k=(k.toNat:Int):=by omega
    rw [e1,e2,<-Int.natCast_mul];omega
   refine call_meets F.slot_tuple_mul ⟨_,hl,rfl⟩ F.entry_tuple_mul (F.args_tuple_mul_2 _ _) (zmt l its.toArray n dct sl k t hf h1 (by rw [decide_eq_false k0,ine]; rfl) (by omega) (decide_eq_false (by rw [show((sizeLine:Nat):Int)=16777216 by rw [zoZ]; rfl]; omega)) ?_) ⟨hl,.ref _,_,I.laid (t':=s.toks) (o:=.tup (List.replicate k.toNat xs).flatten) (fun _ _ q=>qd _ q) (qe _) ⟨ln,(List.replicate k.toNat its).flatten,rv.rep k.toNat,_,qg _ rfl,rfl,⟨0,?_⟩,.inl rfl⟩,rfl,q _ I.fresh⟩
   ·rw [f0,List.size_toArray,zi4,Nat.mul_comm]
    have:sizeLine=16777216:=zoZ;rw [<-lv];omega
   ·show Data.seq (List.foldl (fun x1 x2=>x1++x2) #[] (List.replicate k.toNat its.toArray)) _=_
    rw [f0]
end
noncomputable def zep:U->U->Option U
 | .d (.tuple xs),.d (.int k)=>if xs≠[]/\k < 1000000/\-1000000 < k/\xs.length * k.toNat<=1000000 then some (.d (.tuple (List.replicate k.toNat xs).flatten))else none
 | _,_=>none
theorem zjK{K:qc}{H:Hp}{vs:List V}{ds:List D}(h:DFs K H vs ds):∀ n:Nat,DFs K H (List.replicate n vs).flatten (List.replicate n ds).flatten
 | 0=>.nil
 | n+1=>by
  rw [List.replicate_succ,List.replicate_succ,List.flatten_cons,List.flatten_cons];exact h.app (zjK h n)
theorem zfv{K:qc}:VO K (zvW K) zep:=by
 intro x y a b u H Q ha hb e q;unfold zep at e;split at e
 ·split at e
  rotate_left
  ·cases e
  rename_i xs k hc;cases e;obtain⟨l,vs,rfl,h1,h2⟩:=DF.tup_inv ha;cases DF.int_inv hb;have ln:=h2.len;refine⟨l,k,vs,rfl,rfl,(TpK.sq h1),fun z=>hc.1 (List.eq_nil_of_length_eq_zero (by rw [<-ln,z]; rfl)),hc.2.1,hc.2.2.1,by rw [ln]; exact hc.2.2.2,?_⟩
  by_cases k1:k=1
  ·subst k1
   refine .inl ⟨rfl,q _ _ (fun _ _ z=>z) ?_ Nw.data⟩;have e:(List.replicate (1:Int).toNat xs).flatten=xs:=by simp
   rw [e];exact DF.tup h1 h2
  ·refine .inr ⟨k1,fun p hp=>?_⟩
   have sm:=zF hp (.tup (List.replicate k.toNat vs).flatten);exact q _ _ sm (.tup (.inl zt) ((zjK h2 _).kp sm.kp)) Nw.data
 ·cases e
theorem zgF{xs:List D}{k:Int}(h:0 < xs.length)(h2:k < 1000)(h3:-1000 < k)(h4:xs.length < 1000):zep (.d (.tuple xs)) (.d (.int k))=some (.d (.tuple (List.replicate k.toNat xs).flatten)):=by
 show(if _ then _ else _)=_;rw [if_pos ⟨fun z=>by rw [z]at h; exact Nat.lt_irrefl _ h,by omega,by omega,qx (Nat.mul_le_mul (Nat.le_of_lt h4) (show k.toNat<=1000 by omega)) (by decide)⟩]
end L2
namespace L2
open PySem PySem.Spec PyProof.Rows
def zmu(K:qc)(tk tv:TE):TE:=fun σ H Q=>∀ p,H p=none->tk σ (upd H p (.dT [])) fun x H1=>tv σ H1 fun y H2=>H2 p=some (.dT [])/\∃ k b,x=.ref b/\TpK K H2 b (k.map kV)/\Q (.ref p) (upd H2 p (.dT [(k,y)]))
theorem zrJ{X:Cx}{pos:Pos}{k v:Expr}{tk tv:TE}(hu:X.A.units+1 < cLine)(hk:PE X k tk)(hv:PE X v tv):PE X (.Dict [some k] [v] pos) (zmu X.K tk tv):=by
 intro pins s σ H Q I q;have hn:=I.hok.fresh (qe s.heap.objs.size);have I1:=I.laid (a:=s.heap.objs.size) (o:=.dT []) (h':=s.heap.push { cls:=.type "dict",data:=.dict #[] }) (t':=s.toks) (fun _ _ q=>qd _ q) (qe _) (ze9 s.heap I.big);refine wpAny_Dict_any rfl rfl (by simp) (by show 1<=15; decide) (pairTrees_cons_walk (thn (hk pins _ σ _ _ I1 (q _ hn)) fun u s1 ⟨x,H1,I1,rx,q1⟩=>thn (hv pins s1 σ H1 _ I1 q1) fun w2 s2 ⟨y,H2,I2,ry,e,ks,b,ex,eb,q2⟩=>pairTrees_nil_walk ?_));subst ex;cases rx;unfold storeAll;rw [List.forIn_cons];obtain⟨z,hd,xs,rel,dd⟩:=zpU I2.kIn I2.hok e;cases rel;refine qa (qa (wpAny_dictSet_heap (hsz:=Nat.zero_le _) (show X.A.units < cLine from Nat.lt_of_succ_lt hu) (zdt I2.kIn I2.hok eb) dd fun h' dd' hs=>qb ?_));dsimp only;rw [List.forIn_nil];refine qb ?_;obtain⟨q',es,ep,hq,h2,h3,h4,_,h5⟩:=dd';refine⟨.ref s.heap.objs.size,_,zgw (ob:=.dT [(ks,y)]) I2 (by rw [e]; exact True.intro) hs ⟨q',hq⟩ ⟨by show 1<=sizeLine; decide,hd,_,(KT.put (kvs:=[]) .nil ks eb ry).keeps fun c ys ec=>?_,q',es,ep,hq,h2,h3,h4,h5⟩,rfl,q2⟩;rw [zu (ze4 ec e (fun z=>nomatch z))];exact ec
theorem zfw{X:Cx}{pos:Pos}{k v:Expr}{tk tv:TE}{n:Nat}(hr:Room n X.A)(hk:Wr (PE X k tk))(hv:Wr (PE X v tv)):Wr (PE X (.Dict [some k] [v] pos) (zmu X.K tk tv)):=⟨zrJ (zkk hr) hk.run hv.run⟩
section
variable {K:qc} {ρ ρ1 ρ':En} {σ:St} {H H':Hp}
theorem Rs.free{p:Addr}{c o:HO}(r:Rs K ρ σ H)(hc:H p=some c)(m:Mo c)(n:¬Ow ρ σ p):Rs K ρ σ (upd H p o):=by
 have kp:=zbV hc m o;refine⟨r.len,fun i u e=>?_,r.apart⟩;obtain⟨v,ev,q⟩:=r.rep i u e;refine⟨v,ev,q.kp kp fun ou a c' ea ha=>?_⟩;have ne:a≠p:=by
  rintro rfl;exact n ⟨i,u,e,ou,by rw [ev,ea]⟩
 rw [zu ne];exact ha
theorem Go.free{p:Addr}{c o:HO}(g:Go K ρ σ H ρ' H')(hp:H p=none)(hc:H' p=some c)(m:Mo c)(n:¬Ow ρ' σ p):Go K ρ σ H ρ' (upd H' p o):=by
 refine⟨g.rs.free hc m n,fun a ob ha hn=>?_,g.shr,fun a ha=>?_⟩
 ·have ne:a≠p:=by
   rintro rfl;rw [hp]at ha;cases ha
  rw [zu ne];exact g.fr a ob ha hn
 ·by_cases e:a=p
  ·subst e
   exact hp
  ·rw [zu e]at ha
   exact g.dm a ha
def zeZ(mk mv:ME):ME:=fun ρ=>(mk ρ).bind fun p=>(mv p.2).bind fun q=>(p.1.get q.2).bind fun k=>(q.1.get q.2).bind fun v=>k.da.bind fun k=>v.da.bind fun v=>(zae k).bind fun k=>some (.u (.t [(k,v)]),q.2)
theorem zgG{w:U}{x:D}(h:w.da=some x):w=.d x:=by
 cases w<;>first | (cases h; rfl) | cases h
theorem zfx{tk tv:TE}{mk mv:ME}(hk:VE K tk mk)(hv:VE K tv mv):VE K (zmu K tk tv) (zeZ mk mv):=by
 intro ρ σ H a ρ' Q r e q;obtain⟨⟨a1,ρ1⟩,e1,e⟩:=zb e;obtain⟨⟨b1,ρ2⟩,e2,e⟩:=zb e;obtain⟨uk,ek,e⟩:=zb e;obtain⟨uv,ev,e⟩:=zb e;obtain⟨dk,edk,e⟩:=zb e;obtain⟨dv,edv,e⟩:=zb e;obtain⟨ks,eks,e⟩:=zb e;cases e;cases zgG edk;cases zgG edv;intro p hp;have sm:=zF hp (.dT []);have g0:=Go.grow r sm;have n0:¬Ow ρ σ p:=fun z=>by
  obtain⟨c,hc,_⟩:=r.ow z;rw [hp]at hc;cases hc
 refine hk ρ σ (upd H p (.dT [])) a1 ρ1 _ g0.rs e1 fun x H1 g1 k1=>hv ρ1 σ H1 b1 _ _ g1.rs e2 fun y H2 g2 k2=>?_;have n1:¬Ow ρ1 σ p:=fun z=>n0 (g1.shr.ow z);have n2:¬Ow ρ2 σ p:=fun z=>n1 (g2.shr.ow z);have hp2:H2 p=some (.dT []):=g2.fr p _ (g1.fr p _ zt n0) n1;have pk:=k1.later g0.rs g1 g2 ek;have pv:=k2.now g1.rs g2 ev;obtain⟨b,rfl,hb⟩:=zdj pk eks;have kp:=zbV hp2 trivial (.dT [(ks,y)]);refine⟨hp2,ks,b,rfl,hb,q _ _ (((g0.trans g1).trans g2).free hp hp2 trivial n2) ⟨⟨p,[(ks,y)],rfl,zt,.cons ⟨rfl,DF.kp kp pv⟩ .nil⟩,fun _=>⟨p,rfl,hp⟩⟩⟩
end
section
variable {X:Cx} {elts:List Expr} {k:Nat} {tpos:Pos}
end
section
variable {ρ:En} {mk mv:ME} {mA:MA} {i:Nat} {f:List D->List D} {QE:Ar×En->Prop} {QI:List D×En->Prop}
theorem zk4:Wo (zeZ mk mv ρ) QE=Wo (mk ρ) (Co (fun p=>(mv p.2).bind fun q=>(p.1.get q.2).bind fun k=>(q.1.get q.2).bind fun v=>k.da.bind fun k=>v.da.bind fun v=>(zae k).bind fun k=>some (.u (.t [(k,v)]),q.2)) ⟨0⟩ QE):=by
 show Wo (Option.bind _ _) QE=_;rw [zr]
end
end L2
namespace L2
open PySem
def ch:Nat->Nat->Nat
 | _,0=>1
 | 0,_+1=>0
 | n+1,k+1=>ch n k+ch n (k+1)
theorem zx5{a b:List Int}(h:a.length+b.length<=1000):zeV (.d (pwD a)) (.d (pwD b))=some (.d (pwD (a++b))):=by
 have:=zjv (xs:=a.map PyData.int) (ys:=b.map PyData.int) (by rw [List.length_map,List.length_map]; omega);rw [<-List.map_append]at this;exact this
theorem zjL{k:Int}:PyData.tuple [.int k]=pwD [k]:=rfl
end L2
namespace L2
open PySem PySem.Spec PyProof.Rows
open PySem.AutoSeq1 (wpAny_loadPart')
open MeetsSeq MeetsSeq2 MeetsSeq3 SeqRoads2
end L2
namespace L2
open PySem PySem.Spec PyProof.Rows
section
variable {prog:Program} {w:World} {A:Around} {E:Value->Shared->Prop} {s:Shared} {l b:Addr} {items items2:Array Value} {xs ys:List Int} {Q:Value->Shared->Prop}
end
section
variable {X:Cx} {k:Nat}
end
section
variable {K:qc}
end
section
variable {X:Cx} {a b c d:Expr} {pos:Pos} {ta tb tc td:TE}
end
section
variable {K:qc}
end
section
variable {f f' f'':U->U->Option U} {ma mb mc md:ME} {ρ:En} {QE:Ar×En->Prop}
end
end L2
namespace HT
open PySem PySem.Spec PyProof.Rows
section
variable {prog:Program} {w:World} {A:Around} {E:Value->Shared->Prop} {s:Shared}
end
end HT
namespace L2
open PySem PySem.Spec PyProof.Rows
section
variable {X:Cx} {e st:Expr} {te ts:TE} {pos p2:Pos}
end
section
variable {K:qc}
end
section
variable {K:qc}
end
section
variable {K:qc}
end
end L2
namespace L2
open PySem PySem.Calls PySem.Spec PyProof.Rows
section
variable {prog:Program} {w:World} {A:Around} {E:Value->Shared->Prop} {s:Shared}
end
section
variable {K:qc}
end
end L2
namespace L2
open PySem PySem.Spec PyProof.Rows
section
variable {X:Cx} {CX:CXT} {k:Nat} {f C:Addr} {fd:FuncData} {ps:List Str} {sp:Sp} {dvs:List V} {ds:List Value} {E:XK} {x m:Str} {p pos apos:Pos} {e o:Expr} {es:List Expr} {ta:TE} {t:TA}
end
section
variable {X:Cx} {k:Nat} {ps:List Str} {sp:Sp} {x:Str} {p pos:Pos} {e:Expr} {es:List Expr} {t:TA}
end
section
variable {K:qc} {pn:List Nat}
end
section
variable {prog:Program} {w:World} {A:Around} {E:Value->Shared->Prop} {s:Shared}
end
section
variable {X:Cx} {elts:List Expr} {k:Nat} {tpos:Pos}
end
section
variable {K:qc}
end
end L2
namespace L2
open PySem
section
variable {mA:MA} {ρ:En} {QI:List D×En->Prop}
end
end L2
namespace L2
open PySem PySem.Spec PyProof.Rows
section
variable {K:qc} {pn:List Nat} {EX:EXT}
end
section
variable {mg:MG} {mb:MS} {ρ:En} {Q:Fl->Prop} {i:Nat}
end
theorem ziK{X:Cx}{pins:List (Addr×Obj)}{σ:St}{H:Hp}{s:Shared}{a b:Addr}{v:V}{r:Value}{A:Around}{E:Value->Shared->Prop}{kvs:List (List Key×V)}{k:List Key}{Q:Unit->Shared->Prop}(hu:A.units+1 < cLine)(I:Inv X pins σ H s)
  (e:H a=some (.dT kvs)) (eb:TpK X.K H b (k.map kV)) (l:kvs.length < sizeLine) (rv:zJ v r) (h:∀ s',Inv X pins σ (upd H a (.dT (zbB kvs k v))) s'->Q () s'):wpAny (model X.prog X.w) A (dictSet a (.ref b) r) Q E s:=by
 obtain⟨z,hd,xs,rel,dd⟩:=zpU I.kIn I.hok e;have hz:xs.length<=sizeLine:=by rw [<-Paired.length rel]; exact z
 have hl:(zbB kvs k v).length<=sizeLine:=by have:=zct kvs k v; omega
 refine wpAny_dictSet_heap (hsz:=hz) (show A.units < cLine from Nat.lt_of_succ_lt hu) (zdt I.kIn I.hok eb) dd fun h' dd' hs=>h _ ?_;obtain⟨q,es,ep,hq,h2,h3,h4,_,h5⟩:=dd';refine zgw I (by rw [e]; exact True.intro) hs ⟨q,hq⟩ ⟨hl,hd,_,(rel.put k eb rv).keeps fun c ys ec=>?_,q,es,ep,hq,h2,h3,h4,h5⟩;rw [zu (ze4 ec e (fun z=>nomatch z))];exact ec
theorem zk5{prog:Program}{w:World}{A:Around}{R:Result->Shared->Prop}{s:Shared}{kx vx target iter:Expr}{ifs:List Expr}{scope:Scope}{pos:Pos}{it:Value}{D:Addr}{env:Env}(I:Nat->Shared->Prop)
  (turn:∀ n s,I n s->∀ E,wpAny (model prog w) A (pyNext it) (fun r s1=>match r with
   | none=>R (.ok .next) s1
   | some v=>wpAny (model prog w) A (letOwnedTupleGo target it v) (fun _ s2=>wpAny (model prog w) A (assign target env v) (fun _ s3 =>
     wpAny (model prog w) A (forIn ifs true fun c r=>if r=true then do let ok <-isTrue c env (eval c env); pure (ForInStep.yield ok)else pure (ForInStep.yield r)) (fun ok s4 =>
      (ok=true->wpAny (model prog w) A (eval kx env) (fun k s5=>wpAny (model prog w) A (eval vx env) (fun v s6=>wpAny (model prog w) A (dictSet D k v) (fun _ s7=>∃ m,m < n/\I m s7) E s6) E s5) E s4) /\
      (ok=false->∃ m,m < n/\I m s4)) E s3) E s2) E s1) E s)
  (n:Nat) (h:I n s):codeAny (model prog w) A (.compLoop (.DictComp kx vx [⟨target,iter,ifs,0⟩] scope pos) 0 it (.ref D) env) R s:=by
 refine codeAny_loop rfl I (fun n s hI=>?_) n h;show wpAny _ A ((compTurn _ 0 it (.ref D) env).onRaise (fun x=>do noteFrame x env; theTreesLotGoes x)) _ _ s;refine wpAny_noted ?_;rw [compTurn_dict];refine qa (wpAny_standAt (qa (wpAny_mono (turn n s hI _) (fun r s1 h1=>?_) fun _ _ z=>z)));cases r with
 | none=>exact qb h1
 | some v =>
  refine qa (wpAny_mono h1 (fun _ s2 h2=>?_) fun _ _ z=>z);refine qa (wpAny_mono h2 (fun _ s3 h3=>?_) fun _ _ z=>z);refine qa (wpAny_mono h3 (fun ok s4 h4=>?_) fun _ _ z=>z);cases ok with
  | false=>exact qb ⟨rfl,h4.2 rfl⟩
  | true =>
   refine qa (qa (wpAny_mono (h4.1 rfl) (fun x s5 h5=>?_) fun _ _ z=>z));refine qa (wpAny_holding (wpAny_mono h5 (fun y s6 h6=>?_) fun _ _ z=>z));exact qa (wpAny_standAt (wpAny_holding (wpAny_mono h6 (fun _ s7 h7=>qb ⟨rfl,h7⟩) fun _ _ z=>z)))
def zx6(K:qc)(J:It)(σc:St)(g:TG)(tt:TT)(tk tv:TE)(D:Addr)(Z:Hp->Prop)(H1:Hp):Prop :=
 ∃ W:Nat->Nat->Hp->Prop,(∃ m,W 0 m H1)/\∀ i m H,W i m H ->
  (J.stop i H/\Z H)\/(J.go i H/\∃ N:Hp->Prop,(∀ H',N H'->∃ m',m' < m/\W (i+1) m' H') /\
   ∀ x H',J.yld i H x H'->g x σc H' fun σ2 H2=>tt σ2 H2 fun b H3=>if b=true then tk σ2 H3 fun y H4=>tv σ2 H4 fun v H5=>∃ kvs k p,y=.ref p/\H5 D=some (.dT kvs)/\TpK K H5 p (k.map kV)/\kvs.length < sizeLine/\N (upd H5 D (.dT (zbB kvs k v)))else N H3)
section
variable {X:Cx} {pins:List (Addr×Obj)} {σ:St} {H:Hp} {s:Shared} {scope:Scope} {cl:List (Str×Addr)} {xs:List Str} {js:List Nat} {nt:Nat} {ts:List Str} {fp:List Addr}
theorem zmv{kx vx iter tg:Expr}{ifs:List Expr}{pos:Pos}{J:It}{it D:Addr}{tn:Nat->Heap->Prop}{g:TG}{tt:TT}{tk tv:TE}{Z:Hp->Prop}{R:Result->Shared->Prop}{h1:Heap}{m1:Str->Option Value}{t1:Nat}
  (hu:X.A.units+1 < cLine) (hc:X.calm=true) (I:Inv X pins σ H s) (S:ScC scope xs) (f:Frees X cl xs js) (hts:ts.length=nt) (T:Turn X.prog X.w X.K tg J fp it tn) (st:tn 0 s.heap) (hf:∀ b∈fp,zcc X pins H b)
  (hg:∀ C s H ex,PG (zG X scope cl (ts++xs) C s H ex) tg g) (ht:∀ C s H ex,zgV (zG X scope cl (ts++xs) C s H ex) ifs tt) (hk:∀ C s H ex,PE (zG X scope cl (ts++xs) C s H ex) kx tk) (hv:∀ C s H ex,PE (zG X scope cl (ts++xs) C s H ex) vx tv)
  (gw:GW (c0 nt js σ) g) (h:zx6 X.K J (c0 nt js σ) g tt tk tv D Z H) (hn1:h1.Ns s.heap.objs.size m1) (old:∀ b o,s.heap.get? b=some o->h1.get? b=some o) (ck:CellsOk h1 (s.heap.objs.size+1) (cellsFrom (s.heap.objs.size+1) scope.names []))
  (hR:∀ (m:Str->Option Value) (s':Shared) (H':Hp),Z H'->Inv X pins σ H' s'->s'.heap.Ns s.heap.objs.size m->H' s.heap.objs.size=none->s.heap.objs.size≠X.env.locals ->
   (∀ x c,X.env.cells.lookup x=some c->c≠s.heap.objs.size)->X.s₀.heap.objs.size<=s.heap.objs.size->(∀ p∈X.pn++pins,p.1≠s.heap.objs.size)->R (.ok .next) s') :
  codeAny (model X.prog X.w) X.A (.compStart (.DictComp kx vx [⟨tg,iter,ifs,0⟩] scope pos) 0 (.ref it) (.ref D) (compEnvC scope (cellsFrom (s.heap.objs.size+1) scope.names cl) s.heap.objs.size X.env)) R { s with heap:=h1,toks:=t1 }:=by
 have hl:∀ b∈fp,b < s.heap.objs.size:=fun b hb=>by
  obtain⟨o,e,_⟩:=T.obj _ _ st b hb;exact qh e
 have J0:Inv (zG X scope cl (ts++xs) s.heap.objs.size s H fp) [] (c0 nt js σ) H { s with heap:=h1,toks:=t1 }:=zkm I S f hts (qe _) hf hl old hn1 ck;obtain⟨W,⟨m0,w0⟩,turn⟩:=h;have st1:tn 0 h1:=T.keep _ _ _ st fun b hb o e=>old b o e;have fpk:∀ {H':Hp},(∀ b∈fp,H' b=none)->∀ b∈fp,zcc (zG X scope cl (ts++xs) s.heap.objs.size s H fp) [] H' b:=fun{H'} hn b hb=>by
  refine⟨hn b hb,qj (hl b hb),fun z=>?_,.inl hb,fun x c e=>((zi7 I S f ck (qe _) hf hl (ts:=ts)).exf b hb).2 x c e,fun p hpp=>by cases hpp⟩;rcases qu.mp (I.stkSub b z)with q | q
  ·exact(hf b hb).2.1 q
  ·exact(hf b hb).2.2.1 q
 have loop:codeAny (model X.prog X.w) X.A (.compLoop (.DictComp kx vx [⟨tg,iter,ifs,0⟩] scope pos) 0 (.ref it) (.ref D) (compEnvC scope (cellsFrom (s.heap.objs.size+1) scope.names cl) s.heap.objs.size X.env)) R { s with heap:=h1,toks:=t1 }:=by
  refine zk5 (fun n s'=>∃ i H',Inv (zG X scope cl (ts++xs) s.heap.objs.size s H fp) [] (c0 nt js σ) H' s'/\tn i s'.heap/\(∀ b∈fp,H' b=none)/\W i n H') ?_ m0 ⟨0,H,J0,st1,fun b hb=>(hf b hb).1,w0⟩;rintro n s3 ⟨i,H3,I3,st3,fr3,w3⟩ E';rcases turn i n H3 w3 with ⟨stop,qz⟩ | ⟨go,N,hN,step⟩
  ·refine thn (T.done (zG X scope cl (ts++xs) s.heap.objs.size s H fp) rfl rfl rfl hc i _ s3 _ H3 E' I3 (fpk fr3) st3 stop) fun r s4 ⟨hr,I4⟩=>?_
   subst hr;obtain⟨m4,n4,_⟩:=I4.loc;refine hR m4 s4 H3 qz (I.call' I4.os I4.base I4.hok I4.bare fun b hb=>⟨(hf b hb).2.2.2.1,(hf b hb).2.1,(hf b hb).2.2.2.2.1,fun p hp=>(hf b hb).2.2.2.2.2 p hp⟩) n4 I4.free ?_ ?_ I.sz ?_
   ·exact fun z=>absurd I.lt (by rw [<-z]; exact Nat.lt_irrefl _)
   ·intro x c e z
    obtain⟨v,ob,q,_⟩:=I.cell x c e;exact absurd (qh q) (by rw [z]; exact Nat.lt_irrefl _)
   ·intro p hp z
    have q:=(I.pin p hp).1;exact absurd (qh q) (by rw [z]; exact Nat.lt_irrefl _)
  ·refine thn (T.item (zG X scope cl (ts++xs) s.heap.objs.size s H fp) rfl rfl rfl hc i _ s3 _ H3 E' I3 (fpk fr3) st3 go) fun r s4 ⟨u,hr,h4⟩=>?_
   subst hr;refine thn h4 fun _ s5 ⟨x,H5,I5,r5,y5,st5,fr5⟩=>?_;have I5':=I5.pinned (fpk fr5) (T.obj _ _ st5);refine zlS (hg _ _ _ _ _ s5 _ H5 x u _ I5' r5 (gw _ _ _ (step x H5 y5))) fun _ s6 ⟨σ6,H6,I6,wk6,q6⟩=>?_;refine zlS (ht _ _ _ _ _ s6 σ6 H6 _ I6 q6) fun ok s7 ⟨H7,I7,q7⟩=>?_;have after:∀ {H8:Hp} {s8:Shared},Inv (zG X scope cl (ts++xs) s.heap.objs.size s H fp) ([]++zfQ fp s5.heap) σ6 H8 s8 ->
     tn (i+1) s8.heap/\(∀ b∈fp,H8 b=none)/\Inv (zG X scope cl (ts++xs) s.heap.objs.size s H fp) [] (c0 nt js σ) H8 s8:=fun{H8 s8} I8=>by
    refine⟨T.keep _ _ _ st5 fun b hb o e=>(I8.pin (b,o) (qv _ (qv _ (za9 hb e)))).1,fun b hb=>?_,?_⟩
    ·obtain⟨o,e,d⟩:=T.obj _ _ st5 b hb
     exact(I8.pin (b,o) (qv _ (qv _ (za9 hb e)))).2.1
    ·exact(I8.weak wk6.1 wk6.2).pins_of fun p hp=>by cases hp
   refine⟨fun hok=>?_,fun hok=>?_⟩
   ·subst hok
    rw [if_pos rfl]at q7;refine zlS (hk _ _ _ _ _ s7 σ6 H7 _ I7 q7) fun kv s8 ⟨y,H8,I8,ry,q8⟩=>?_;refine zlS (hv _ _ _ _ _ s8 σ6 H8 _ I8 q8) fun vv s9 ⟨v,H9,I9,rv,q9⟩=>?_;obtain⟨kvs,k,p,ey,eD,ep,hz,q10⟩:=q9;subst ey;cases(show kv=Value.ref p from ry);refine ziK (X:=zG X scope cl (ts++xs) s.heap.objs.size s H fp) hu I9 eD ep hz rv fun s10 I10=>?_;obtain⟨st10,fr10,I10'⟩:=after I10;obtain⟨m',hm,w10⟩:=hN _ q10;exact⟨m',hm,i+1,_,I10',st10,fr10,w10⟩
   ·subst hok
    rw [if_neg qf]at q7;obtain⟨st7,fr7,I7'⟩:=after I7;obtain⟨m',hm,w7⟩:=hN _ q7;exact⟨m',hm,i+1,H7,I7',st7,fr7,w7⟩
 exact codeAny_compStart_dict loop (T.self _ _ _ _ _ st1 loop)
theorem zk6{kx vx iter tg:Expr}{ifs:List Expr}{pos:Pos}{J:It}{it:Addr}{tn:Nat->Heap->Prop}{g:TG}{tt:TT}{tk tv:TE}{Z:Addr->Hp->Prop}{RR:Value->Addr->Result->Shared->Prop}{E:Value->Shared->Prop}
  (hu:X.A.units+1 < cLine) (hc:X.calm=true) (I:Inv X pins σ H s) (S:ScC scope xs) (f:Frees X cl xs js) (hts:ts.length=nt) (T:Turn X.prog X.w X.K tg J fp it tn) (st:tn 0 s.heap) (hf:∀ b∈fp,zcc X pins H b)
  (hg:∀ C s H ex,PG (zG X scope cl (ts++xs) C s H ex) tg g) (ht:∀ C s H ex,zgV (zG X scope cl (ts++xs) C s H ex) ifs tt) (hk:∀ C s H ex,PE (zG X scope cl (ts++xs) C s H ex) kx tk) (hv:∀ C s H ex,PE (zG X scope cl (ts++xs) C s H ex) vx tv)
  (gw:GW (c0 nt js σ) g) (h:∀ D,H D=none->zx6 X.K J (c0 nt js σ) g tt tk tv D (Z D) (upd H D (.dT [])))
  (hRR:∀ (D C:Addr) (m:Str->Option Value) (s':Shared) (H':Hp),Z D H'->Inv X pins σ H' s'->s'.heap.Ns C m->H' C=none->C≠X.env.locals ->
   (∀ x c,X.env.cells.lookup x=some c->c≠C)->X.s₀.heap.objs.size<=C->(∀ p∈X.pn++pins,p.1≠C)->RR (.ref D) C (.ok .next) s') :
  wpAny (model X.prog X.w) X.A newDict (fun acc s3=>wpAny (model X.prog X.w) X.A (newFunctionEnv scope X.env.globals cl [] X.env.qual none .none (some X.env)) (fun cenv s4 =>
   codeAny (model X.prog X.w) X.A (.compStart (.DictComp kx vx [⟨tg,iter,ifs,0⟩] scope pos) 0 (.ref it) acc { cenv with scope:=relabel scope X.env }) (RR acc cenv.locals) s4) E s3) E s:=by
 refine qy (zkl fun h1 hn1 hsb1 ck=>?_);dsimp only at hn1 hsb1 ck ⊢;have hDn:H s.heap.objs.size=none:=I.hok.fresh (qe _);have I1:=I.laid (a:=s.heap.objs.size) (o:=.dT []) (h':=s.heap.push { cls:=.type "dict",data:=.dict #[] }) (t':=s.toks) (fun _ _ q=>qd _ q) (qe _) (ze9 s.heap I.big);have h2:=h _ hDn;have hl0:∀ b∈fp,b < s.heap.objs.size:=fun b hb=>by
  obtain⟨o,e,_⟩:=T.obj _ _ st b hb;exact qh e
 have st0:tn 0 (s.heap.push { cls:=.type "dict",data:=.dict #[] }):=T.keep _ _ _ st fun b hb o e=>qd _ e;have hf0:∀ b∈fp,zcc X pins (upd H s.heap.objs.size (.dT [])) b:=fun b hb=>⟨by rw [zu (qj (hl0 b hb))]; exact(hf b hb).1,(hf b hb).2⟩;have hp:s.heap.objs.size < (s.heap.push { cls:=.type "dict",data:=.dict #[] }).objs.size:=by rw [Heap.size_push]; exact Nat.lt_succ_self _
 refine zmv (s:={ s with heap:=s.heap.push { cls:=.type "dict",data:=.dict #[] },toks:=s.toks }) hu hc I1 S f hts T st0 hf0 hg ht hk hv gw h2 hn1 hsb1 ck fun m s' H' z I' hn hCn hCL hCc hCs hCp=>hRR _ _ m s' H' z I' hn hCn hCL hCc hCs hCp
def tDC(K:qc)(wi:TI)(nt:Nat)(js:List Nat)(g:TG)(tt:TT)(tk tv:TE):TE:=fun σ H Q=>wi σ H fun J H1 =>
 ∀ D,H1 D=none->zx6 K J (c0 nt js σ) g tt tk tv D (fun H2=>Q (.ref D) H2) (upd H1 D (.dT []))
theorem zrK{y:Str}{py spos:Pos}{i:Nat}{kx vx iter tg:Expr}{ifs:List Expr}{pos:Pos}{wi:TI}{g:TG}{tt:TT}{tk tv:TE}{n:Nat}(hr:Room n X.A){nt:Nat}(hi:Wr (PI X tg iter wi))(hg:∀ {C s H ex},Wr (PG (zG X scope (zeg X js) (tgN tg++zdu X js) C s H ex) tg g))(ht:∀ {C s H ex},Wr (zgV (zG X scope (zeg X js) (tgN tg++zdu X js) C s H ex) ifs tt))
  (hk:∀ {C s H ex},Wr (PE (zG X scope (zeg X js) (tgN tg++zdu X js) C s H ex) kx tk)) (hv:∀ {C s H ex},Wr (PE (zG X scope (zeg X js) (tgN tg++zdu X js) C s H ex) vx tv))
  (hN:X.N.Nodup:=by first | assumption | exact zfb rfl) (hi':X.N[i]?=some y:=by rfl) (hy:Loc X.env.scope y:=by first | exact Or.inl rfl | exact Or.inr rfl)
  (f:Frees X (zeg X js) (zdu X js) js:=by repeat (first | exact Frees.nil | refine Frees.cons rfl (by first | exact Or.inl rfl | exact Or.inr rfl) rfl ?_)) (hclos:closureFor scope X.env=pure (zeg X js):=by rfl) (S:ScC scope (zdu X js):=by exact⟨rfl,of_decide_eq_true rfl,of_decide_eq_true rfl,of_decide_eq_true rfl,of_decide_eq_true rfl⟩) (hts:(tgN tg).length=nt:=by rfl) (hc:X.calm=true:=by rfl) (gw:∀ σ:St,GW (c0 nt js σ) g:=by first | exact zi8 (by decide) | exact zp6 (zja (by repeat (first | exact zgY | refine zfX (by decide) ?_)))) (hs:∀ x,foldedSetIterable iter X.env x=pure x:=by intro _; rfl)
  (hsw:swapsWith (.DictComp kx vx [⟨tg,iter,ifs,0⟩] scope pos) (some (.Name y py)) spos.line X.env=pure true:=by rfl)
  (hf:X.fn y=true\/X.env.scope.names.lookup y=some .local:=by first | exact .inl rfl | exact .inr rfl | assumption) :
  Wr (PS X (.Assign [.Name y py] (.DictComp kx vx [⟨tg,iter,ifs,0⟩] scope pos) spos) (ziV (tDC X.K wi nt js g tt tk tv) (zcX i))):=by
 refine⟨?_⟩;intro pins s σ H D I h;rw [exec_Assign_Name_used _ _ _ _ hsw];refine qa (wpAny_standAt (qa ?_));show wpAny _ X.A (do let _ <-comprehension (.DictComp kx vx [⟨tg,iter,ifs,0⟩] scope pos) scope X.env _ newDict false (eval iter X.env) (some (assign (.Name y py) X.env))) _ _ s;refine qa (wpAny_mono (wpAny_comprehension_free (use:=some (assign (.Name y py) X.env)) (Q:=fun _ s'=>SP X pins D .next s') rfl hs hclos S.kind S.names
  (thn (hi.run pins s σ H _ I h) fun v s1 h1=>thn h1 fun itv s2 h2=>?_)) (fun _ s' hq=>qb (qb hq)) fun _ _ e=>e)
 obtain⟨it,fp,tn,J,H2,e,I2,T,st2,f2,q⟩:=h2;subst e;refine zk6 (RR:=fun acc C=>compPost (model X.prog X.w) X.A X.xe (some (assign (.Name y py) X.env)) (fun _ s'=>SP X pins D .next s') acc C) (zkk hr) hc I2 S f hts T st2 f2 (fun C s H ex=>hg.run) (fun C s H ex=>ht.run) (fun C s H ex=>hk.run) (fun C s H ex=>hv.run) (gw σ) q ?_;intro D' C m s' H' z I' hn hCn hCL hCc hCs hCp;show wpAny _ _ (assign (.Name y py) X.env (.ref D')) _ _ _;refine wpAny_assign_Name (zfO (v:=.ref D') I' hN hi' hy rfl (fun s'' I'' ⟨a,sb,ha⟩=>?_) hf);have ne:C≠a:=by
  rcases ha with rfl | ha
  ·exact hCL
  ·exact(hCc _ _ ha).symm
 exact⟨m,hn.sameBut sb ne,fun h' hs'=>⟨_,_,I''.turned (it:=C) (fun b o hb e=>hs'.extBut b o hb e) hCn hCL (.inr hCs) hCc hCp,z⟩⟩
end
section
variable {K:qc} {ρ ρ' ρ1:En} {σ:St} {H H' H1:Hp}
theorem Sn.free{pn:List Nat}{σ₀:St}{A:Addr->Prop}{H₀ H₁:Hp}{D:Addr}{c o:HO}(s:Sn K pn σ₀ A H₀ H₁ ρ σ H)(hc:H D=some c)(m:Mo c)(n:¬Ow ρ σ D)(hA:A D):Sn K pn σ₀ A H₀ H₁ ρ σ (upd H D o):=by
 refine⟨s.rs.free hc m n,fun a ob h nA=>?_,s.ow,s.pin,fun a h=>?_,s.kp.trans (zbV hc m o)⟩
 ·have ne:a≠D:=by rintro rfl; exact nA hA
  rw [zu ne];exact s.fr a ob h nA
 ·by_cases e:a=D
  ·subst e; rw [zt]at h; cases h
  ·rw [zu e]at h; exact s.dm a h
theorem zrL{nt:Nat}{js:List Nat}{D:Addr}{A:Addr->Prop}{ρx:En}{σx:St}{Hx:Hp}(r:Rs K ρ1 σ H1)(hD:H1 D=none)(s:Sn K (zdG nt js.length) (c0 nt js σ) A (upd H1 D (.dT [])) H1 ρx σx Hx)
  (own:∀ (i:Nat) (u:U),nt<=i->ρx[i]?=some (some u)->u.own=true->∃ w,(cEn nt js ρ1)[i]?=some (some w)/\w.own=true):¬Ow ρx σx D:=by
 rintro⟨i,u,e,ou,es⟩;rcases s.ow i u D e ou es with ⟨hi,_⟩ | z
 ·have hi':=zcv.mp hi
  obtain⟨w,ew,ow⟩:=own i u hi'.1 e ou;obtain⟨p,j,rfl,hj,hr⟩:=zf1 ew;rw [s.pin _ hi,zql hj]at es;have e2:σ[j]?=some (some (.ref D)):=by
   rw [qA]at es;cases q:σ[j]? with
   | none=>rw [q]at es; cases es
   | some o=>rw [q]at es; exact congrArg some (qw es)
  obtain⟨c,hc,_⟩:=r.ow ⟨j,w,hr,ow,e2⟩;rw [hD]at hc;cases hc
 ·rw [zt]at z; cases z
def dcM(nt:Nat)(mg:MG)(mt:MT)(mk mv:ME):List D->En->List (List Key×D)->Option (List (List Key×D)×En)
 | [],ρ,ys=>some (ys,ρ)
 | d::ds,ρ,ys=>if ys.length < sizeLine then(mg d ρ).bind fun ρ1=>(mt ρ1).bind fun b=>if b.1=true then(mk b.2).bind fun p=>(mv p.2).bind fun q=>(p.1.get q.2).bind fun uk=>(q.1.get q.2).bind fun uv=>uk.da.bind fun dk=>uv.da.bind fun dv=>(zae dk).bind fun k =>
   dcM nt mg mt mk mv ds (reset nt q.2) (zdq ys k dv)else dcM nt mg mt mk mv ds (reset nt b.2) ys else none
def mDC(mi:MI)(nt:Nat)(js:List Nat)(mg:MG)(mt:MT)(mk mv:ME):ME:=fun ρ=>(mi ρ).bind fun p=>(dcM nt mg mt mk mv p.1 (cEn nt js p.2) []).bind fun q=>some (.u (.t q.1),back js (q.2.drop nt) p.2)
theorem zx7{wi:TI}{nt:Nat}{js:List Nat}{g:TG}{tt:TT}{tk tv:TE}{mi:MI}{mg:MG}{mt:MT}{mk mv:ME}(hi:VI K wi mi)(hg:VGt K (zdG nt js.length) g mg)(ht:VT K tt mt)(hk:VE K tk mk)(hv:VE K tv mv)(nd:js.Nodup:=by decide) :
  VE K (tDC K wi nt js g tt tk tv) (mDC mi nt js mg mt mk mv):=by
 intro ρ σ H a ρ' Q r e q;obtain⟨⟨ds,ρ1⟩,e1,e⟩:=zb e;obtain⟨⟨zs,ρz⟩,e2,e⟩:=zb e;cases e;refine hi ρ σ H ds ρ1 _ r e1 fun J H1 g1 run=>fun D hD=>?_;have sm0:=zF hD (.dT []);have s0:=znj (nt:=nt) (js:=js) g1.rs nd;have s1:Sn K (zdG nt js.length) (c0 nt js σ) (fun a=>zhU ρ1 σ js a\/a=D) (upd H1 D (.dT [])) H1 (cEn nt js ρ1) (c0 nt js σ) (upd H1 D (.dT [])):=by
  have s2:=s0.go (Go.grow s0.rs sm0);refine⟨s2.rs,fun a o h n=>h,fun i u a e o es=>?_,s2.pin,fun a h=>h,s2.kp⟩;rcases s2.ow i u a e o es with z | z
  ·exact .inl ⟨z.1,.inl z.2⟩
  ·exact absurd z (by
    obtain⟨v,ev,p⟩:=s0.rs.rep i u e;rw [es]at ev;cases ev;obtain⟨b,c,eb,hb,_⟩:=p.own o;cases eb;rw [hb];exact fun z=>nomatch z)
 refine⟨fun i m H'=>m=ds.length - i/\i<=ds.length/\∃ ρc kd ws,Sn K (zdG nt js.length) (c0 nt js σ) (fun a=>zhU ρ1 σ js a\/a=D) (upd H1 D (.dT [])) H1 ρc (c0 nt js σ) H'/\Shr (cEn nt js ρ1) ρc/\(∀ k,k < nt->ρc[k]?=some none)/\H' D=some (.dT ws)/\KVd K H' ws kd/\dcM nt mg mt mk mv (ds.drop i) ρc kd=some (zs,ρz),
  ⟨ds.length,by simp,Nat.zero_le _,_,[],[],s1,Shr.refl _,fun k hk=>zqm hk,zt,.nil,e2⟩,?_⟩
 rintro i m H' ⟨rfl,hi',ρc,kd,ws,s',sh,lo,hw,dy,el⟩;have lc:ρc.length=nt+js.length:=by rw [sh.len,zjp]
 by_cases hlt:i < ds.length
 ·rw [List.drop_eq_getElem_cons hlt]at el
  unfold dcM at el;split at el
  ·rename_i hz
   obtain⟨ρ2,e3,el⟩:=zb el;obtain⟨⟨b,ρ3⟩,e4,el⟩:=zb el;obtain⟨l2,p2⟩:=hg.ok _ _ _ e3;obtain⟨go,yl⟩:=(run H' s'.kp i).1 ds[i] (ql hlt);refine .inr ⟨go,fun H2=>∃ ρc' kd' ws',Sn K (zdG nt js.length) (c0 nt js σ) (fun a=>zhU ρ1 σ js a\/a=D) (upd H1 D (.dT [])) H1 ρc' (c0 nt js σ) H2/\Shr (cEn nt js ρ1) ρc'/\(∀ k,k < nt->ρc'[k]?=some none)/\H2 D=some (.dT ws')/\KVd K H2 ws' kd'/\dcM nt mg mt mk mv (ds.drop (i+1)) ρc' kd'=some (zs,ρz),
    fun H2 ⟨ρc',kd',ws',z⟩=>⟨ds.length - (i+1),by omega,rfl,hlt,ρc',kd',ws',z⟩,fun x H2 y=>?_⟩
   obtain⟨sm,dx⟩:=yl x H2 y;have s2:=s'.go (Go.grow s'.rs sm);refine hg.run _ _ _ _ ρc _ H2 x ds[i] ρ2 _ s2 dx e3 fun σ3 s3=>?_;have own2:∀ (i:Nat) (u:U),nt<=i->ρ2[i]?=some (some u)->u.own=true->∃ w,(cEn nt js ρ1)[i]?=some (some w)/\w.own=true:=fun k u hk ek ou=>by
    have lk:k < nt+js.length:=by rw [<-l2.trans lc]; exact(qk.mp ek).1
    rw [p2 k (zcv.mpr ⟨hk,lk⟩)]at ek;exact sh.own k u ek ou
   have n2:¬Ow ρ2 σ3 D:=zrL g1.rs hD s3 own2;have toEnd:∀ {ρ4:En} {H4:Hp},Go K ρ2 σ3 H2 ρ4 H4->Sn K (zdG nt js.length) (c0 nt js σ) (fun a=>zhU ρ1 σ js a\/a=D) (upd H1 D (.dT [])) H1 (L2.reset nt ρ4) (c0 nt js σ) H4/\Shr (cEn nt js ρ1) (L2.reset nt ρ4):=fun{ρ4 H4} g4=>by
    have l4:ρ4.length=nt+js.length:=by rw [g4.shr.len,l2,lc]
    refine⟨(s3.go g4).reset l4 zl9,sh.trans (Shr.reset' lc lo l4 (fun k u hk ek ou=>?_) fun k u hk ek=>?_)⟩
    ·obtain⟨w,ew,ow⟩:=g4.shr.own k u ek ou
     have lk:k < nt+js.length:=by rw [<-l2.trans lc]; exact(qk.mp ew).1
     rw [p2 k (zcv.mpr ⟨hk,lk⟩)]at ew;exact⟨w,ew,ow⟩
    ·have lk:k < nt+js.length:=by rw [<-lc]; exact(qk.mp ek).1
     rw [<-p2 k (zcv.mpr ⟨hk,lk⟩)]at ek;exact g4.shr.live k u ek
   have hw2:H2 D=some (.dT ws):=sm _ _ hw;refine ht ρ2 σ3 H2 b ρ3 _ s3.rs e4 fun H3 g3=>?_;dsimp only at el;split at el
   ·rename_i hb
    rw [if_pos hb];obtain⟨⟨a4,ρ4⟩,e5,el⟩:=zb el;obtain⟨⟨a5,ρ5⟩,e6,el⟩:=zb el;obtain⟨uk,ek,el⟩:=zb el;obtain⟨uv,ev,el⟩:=zb el;obtain⟨dk,edk,el2⟩:=zb el;obtain⟨dv,edv,el3⟩:=zb el2;obtain⟨ks,eks,el4⟩:=zb el3;cases zgG edk;cases zgG edv;refine hk ρ3 σ3 H3 a4 ρ4 _ g3.rs e5 fun kx H4 g4 k4=>hv ρ4 σ3 H4 a5 ρ5 _ g4.rs e6 fun vx H5 g5 k5=>?_;have pk:=k4.later g3.rs g4 g5 ek;have pv:=k5.now g4.rs g5 ev;obtain⟨p,rfl,hp⟩:=zdj pk eks;have g35:=(g3.trans g4).trans g5;have hw5:H5 D=some (.dT ws):=g35.fr D _ hw2 n2;obtain⟨sn,sr⟩:=toEnd g35;have dy5:KVd K H5 ws kd:=(dy.kp sm.kp).kp (g35.kp s3.rs);have kp:=zbV hw5 trivial (.dT (zbB ws ks vx));have nE:¬Ow (L2.reset nt ρ5) (c0 nt js σ) D:=zrL g1.rs hD sn fun k u _ ek ou=>sr.own k u ek ou;exact⟨ws,ks,p,rfl,hw5,hp,by rw [dy5.len]; exact hz,_,_,_,sn.free hw5 trivial nE (.inr rfl),sr,fun k hk=>zfi hk,zt,(dy5.kp kp).put ks (DF.kp kp pv),el4⟩
   ·rename_i hb
    rw [if_neg hb];obtain⟨sn,sr⟩:=toEnd g3;exact⟨_,_,_,sn,sr,fun k hk=>zfi hk,g3.fr D _ hw2 n2,(dy.kp sm.kp).kp (g3.kp s3.rs),el⟩
  ·cases el
 ·have ei:i=ds.length:=by omega
  subst ei;rw [List.drop_length]at el;cases el;refine .inl ⟨(run H' s'.kp _).2 rfl,?_⟩;have nE:¬Ow ρz (c0 nt js σ) D:=zrL g1.rs hD s' fun k u _ ek ou=>sh.own k u ek ou;have s4:Sn K (zdG nt js.length) (c0 nt js σ) (zhU ρ1 σ js) H1 H1 ρz (c0 nt js σ) H':=by
   refine⟨s'.rs,fun a o h n=>?_,fun i u a e o es=>?_,s'.pin,fun a h=>?_,s'.kp⟩
   ·have ne:a≠D:=by rintro rfl; rw [hD]at h; cases h
    exact s'.fr a o (by rw [zu ne]; exact h) fun z=>z.elim n ne
   ·rcases s'.ow i u a e o es with ⟨z1,z2 | z2⟩ | z
    ·exact .inl ⟨z1,z2⟩
    ·subst z2; exact absurd ⟨i,u,e,o,es⟩ nE
    ·by_cases ea:a=D
     ·subst ea; exact .inr hD
     ·rw [zu ea]at z; exact .inr z
   ·have z:=s'.dm a h
    by_cases ea:a=D
    ·subst ea; exact hD
    ·rw [zu ea]at z; exact z
  have gb:=Sn.comp_back g1.rs s4 lc sh;exact q _ _ (g1.trans gb) ⟨⟨D,ws,rfl,hw,dy⟩,fun _=>⟨D,rfl,g1.dm _ hD⟩⟩
end
section
variable {prog:Program} {w:World} {A:Around} {E:Value->Shared->Prop} {s:Shared} {it d:Addr} {i ep:Nat} {es:Array DictEntry}
theorem zpb{Q:Option Value->Shared->Prop}(k:s.heap.IsValIter it d i es.size ep)(r:zcO s.heap d es ep){x:DictEntry}(hx:es[i]?=some x)
  (q:∀ h':Heap,h'.IsValIter it d (i+1) es.size ep->Heap.SameBut it s.heap h'->Q (some x.val) { s with heap:=h' }):wpAny (model prog w) A (pyNext (.ref it)) Q E s:=by
 have kT:=k.typeIs;obtain⟨oi,ei,ci,fi⟩:=id k;obtain⟨o,e,_,dat⟩:=r;unfold pyNext;refine qa (wpAny_attempt (wpAny_callSpecial?_slot (name:=Str.ofString "__next__") kT F.slot_dict_valueiterator_next
  (wpAny_call_entry F.slot_dict_valueiterator_next kT F.entry_dict_valueiterator_next ?_ (F.args_dict_valueiterator_next_1 _))))
 refine qa (qb (qa (qa ?_)));refine qa (wpAny_typeNameOfWhole_valiter kT (qb (qa (wpAny_fieldsOf ei fi ?_))));simp only [show Builtin.Dict_items.ownsTuple "dict_valueiterator"=false by decide,Bool.false_eq_true,if_false];show wpAny _ _ (if(Value.ref d==Value.none)=true then _ else _) _ _ s;rw [if_neg (show ¬((Value.ref d==Value.none)=true) from qf)];refine qa (qb (qa (wpAny_dictEntries e dat ?_)));rw [if_neg (by simp)];refine qa (qb (qa (wpAny_dictEpoch e dat ?_)));rw [if_neg (by simp)];refine qb ?_;simp only [show ¬((i:Int) < 0) from by omega,if_false,Int.toNat_natCast,hx];refine qa (qa (wpAny_typeNameOfWhole_valiter kT (qb (qa (wpAny_isOneOf_valiter kT ?_)))));show wpAny _ _ (setField (.ref it) 1 (rawInt ((i:Int)+1)) >>= _) _ _ s;refine qa (wpAny_setField ei fi (by simp) ?_);have k':(s.heap.update it (Obj.mapFields (·.setIfInBounds 1 (rawInt ((i:Int)+1))))).IsValIter it d (i+1) es.size ep :=
  ⟨_,Heap.get?_update_self _ ei (Obj.isFreed_of_fields (Obj.data_mapFields fi _)),(Obj.cls_mapFields ..).trans ci,by rw [Obj.data_mapFields fi]; simp [rawInt]⟩
 refine qa (wpAny_holding (qa (wpAny_isOneOf_valiter (s:={ s with heap:=s.heap.update it (Obj.mapFields (·.setIfInBounds 1 (rawInt ((i:Int)+1)))) }) k'.typeIs ?_)));refine qa (wpAny_isOneOf_valiter (s:={ s with heap:=s.heap.update it (Obj.mapFields (·.setIfInBounds 1 (rawInt ((i:Int)+1)))) }) k'.typeIs ?_);show wpAny _ _ (pure x.val) _ _ _;exact qb (qb ⟨_,rfl,qb (q _ k' (Heap.SameBut.update ..))⟩)
theorem zrM{Q:Option Value->Shared->Prop}(hh:A.handled=none)(k:s.heap.IsValIter it d i es.size ep)(r:zcO s.heap d es ep)(hx:es.size<=i)
  (q:∀ h':Heap,Heap.ExtBut it s.heap h'->Q none { s with heap:=h' }):wpAny (model prog w) A (pyNext (.ref it)) Q E s:=by
 have kT:=k.typeIs;obtain⟨oi,ei,ci,fi⟩:=id k;obtain⟨o,e,_,dat⟩:=r;unfold pyNext;refine qa (wpAny_attempt (wpAny_callSpecial?_slot (name:=Str.ofString "__next__") kT F.slot_dict_valueiterator_next
  (wpAny_call_entry F.slot_dict_valueiterator_next kT F.entry_dict_valueiterator_next ?_ (F.args_dict_valueiterator_next_1 _))))
 refine qa (qb (qa (qa ?_)));refine qa (wpAny_typeNameOfWhole_valiter kT (qb (qa (wpAny_fieldsOf ei fi ?_))));simp only [show Builtin.Dict_items.ownsTuple "dict_valueiterator"=false by decide,Bool.false_eq_true,if_false];show wpAny _ _ (if(Value.ref d==Value.none)=true then _ else _) _ _ s;rw [if_neg (show ¬((Value.ref d==Value.none)=true) from qf)];refine qa (qb (qa (wpAny_dictEntries e dat ?_)));rw [if_neg (by simp)];refine qa (qb (qa (wpAny_dictEpoch e dat ?_)));rw [if_neg (by simp)];refine qb ?_;simp only [show ¬((i:Int) < 0) from by omega,if_false,Int.toNat_natCast,Array.getElem?_eq_none hx];refine qa (qa (wpAny_typeNameOfWhole_valiter kT (qb ?_)));show wpAny _ _ (setField (.ref it) 0 .none >>= _) _ _ s;refine qa (wpAny_setField ei fi (by simp) ?_);show wpAny _ _ (newExc (.type "StopIteration") [] >>= _) _ _ _;refine qa ?_;simp only [newExc,newTuple];refine qa (qy ?_ (by show(0:Nat)<=sizeLine; exact Nat.zero_le _));refine qa (m:=firstArgMember _ _) (wpAny_of_eq (a:=Value.none) (by first | rfl | (simp only [firstArgMember]; rfl)) ?_);refine qy ?_ (by first | trivial | size_fits);simp only [raiseNew];refine qa (wpAny_handled ?_);rw [show A.in1.handled=none from hh];refine qa (qb (wpAny_throw ?_));refine qa (wpAny_isInstance (T := "StopIteration") (b:=true) ⟨_,qg _ rfl,rfl⟩ isSubtype_stop ?_);exact qb (q _ (((Heap.SameBut.update ..).extBut.push _).push _))
theorem zmw{Q:Value->Shared->Prop}(hd:(d==sysModules)=false)(r:zcO s.heap d es ep)
  (q:Q (.ref s.heap.objs.size) { s with heap:=s.heap.push { cls:=.type "dict_values",data:=.fields #[.ref d] } }):wpAny (model prog w) A (call (.builtin "dict.values") [.ref d]) Q E s:=by
 have hT:=r.typeIs;obtain⟨o,e,_,dat⟩:=r;refine wpAny_call_entry F.slot_dict_values hT F.entry_dict_values ?_ (F.args_dict_values_1 _);refine qa ?_;unfold Builtin.Dict.noArgs;refine qa (wpAny_notOrdered_dict hT ?_);show wpAny _ _ (pure d) _ _ s;refine qb ?_;show wpAny _ _ (Builtin.Dict.showsAll d >>= _) _ _ s;unfold Builtin.Dict.showsAll;rw [if_neg (by rw [hd]; exact qf)];refine qa (qb ?_);exact qa (qy (qb ⟨_,rfl,q⟩))
theorem zpc{v:Addr}{Q:Value->Shared->Prop}(hv:s.heap.IsValuesView v d)(r:zcO s.heap d es ep)
  (q:∀ h':Heap,h'.IsValIter s.heap.objs.size d 0 es.size ep->(∀ b o,s.heap.get? b=some o->h'.get? b=some o)->Q (.ref s.heap.objs.size) { s with heap:=h' }):wpAny (model prog w) A (pyIter (.ref v)) Q E s:=by
 obtain⟨o,e,_,dat⟩:=r;obtain⟨o2,e2,c2,d2⟩:=id hv;have hT:=hv.typeIs (s:=s);refine wpAny_pyIter_slot hT F.slot_dict_values_iter (wpAny_call_entry F.slot_dict_values_iter hT F.entry_dict_values_iter ?_ (F.args_dict_values_iter_1 _));unfold Builtin.«dict_values.__iter__»;refine qa (qb ?_);unfold Builtin.Dict_items.dictOf;refine qa (qa (wpAny_field e2 d2 (x:=.ref d) rfl (qb ?_)));unfold Builtin.Dict_items.newIterator;refine qa (qa (wpAny_dictEntries e dat (qa (wpAny_dictEpoch e dat ?_))));have hown:Builtin.Dict_items.ownsTuple "dict_valueiterator"=false:=by decide
 simp only [hown,Bool.false_eq_true,if_false];refine qy (qb ⟨_,rfl, "dict_valueiterator",_,⟨_,qg _ rfl,rfl⟩,F.slot_dict_valueiterator_next.lookup,?_⟩);exact q _ ⟨_,qg _ rfl,rfl,by simp [rawInt]⟩ fun b o z=>qd _ z
end
def ItV(a:Addr)(o:Obj)(kvs:List (List Key×V)):It :=
 ⟨fun i H=>H a=some (.frz o (.dT kvs))/\i < kvs.length,fun i H x H'=>H'=H/\∀ k v,kvs[i]?=some (k,v)->x=v,fun i H=>H a=some (.frz o (.dT kvs))/\kvs.length<=i⟩
theorem zpd{P:Program}{w:World}{K:qc}{tg:Expr}(a it:Addr)(o:Obj)(kvs:List (List Key×V))(ep:Nat)(hep:∃ es,o.data=.dict es ep):Turn P w K tg (ItV a o kvs) [it] it (fun i h=>h.IsValIter it a i kvs.length ep) where
 mem:=by simp
 obj:=fun i h st b hb=>by
  have e:b=it:=by simpa using hb
  subst e;obtain⟨oi,e,c,d⟩:=st;exact⟨oi,e,fun v z=>by rw [d]at z; cases z⟩
 keep:=fun i h h' st k=>by
  obtain⟨oi,e,c,d⟩:=st;exact⟨oi,k it (by simp) _ e,c,d⟩
 item:=by
  intro X hP hw hK hc i pins s σ H E I hf st hg;subst hP hw hK;obtain⟨e,hi⟩:=hg;obtain⟨hsm,es,ep',ea,xd,dat,hsz,ent⟩:=zc4 I e;have eep:ep'=ep:=by
   obtain⟨es',z⟩:=hep;rw [dat]at z;injection z
  subst eep;obtain⟨b,x,ex,kx,hb,rv⟩:=ent i kvs[i].1 kvs[i].2 (ql hi);obtain⟨f0,f1,f2,f3,f4,f5⟩:=hf it (by simp);refine zpb (es:=es) (by rw [hsz]; exact st) ⟨o,ea,xd,dat⟩ ex fun h' st' sb=>?_;have I1:Inv X pins σ H { s with heap:=h' }:=I.turned (t':=s.toks) (fun b o hb e=>(sb.2 b hb).trans e) f0 f1 f3 f4 f5;obtain⟨oi,e',c',d'⟩:=id st';refine⟨x.val,rfl,zka (s:={ s with heap:=h' }) e' c' d' (by decide) ⟨kvs[i].2,H,I1,rv,⟨rfl,fun k v hkv=>?_⟩,by rw [hsz]at st'; exact st',fun b hb=>(hf b hb).1⟩⟩;rw [ql hi]at hkv;rw [qw hkv]
 done:=by
  intro X hP hw hK hc i pins s σ H E I hf st hg;subst hP hw hK;obtain⟨e,hi⟩:=hg;obtain⟨hsm,es,ep',ea,xd,dat,hsz,ent⟩:=zc4 I e;have eep:ep'=ep:=by
   obtain⟨es',z⟩:=hep;rw [dat]at z;injection z
  subst eep;obtain⟨f0,f1,f2,f3,f4,f5⟩:=hf it (by simp);exact zrM (es:=es) (I.ok.hd hc) (by rw [hsz]; exact st) ⟨o,ea,xd,dat⟩ (by omega) fun h' eb=>⟨rfl,I.turned (t':=s.toks) (fun b o hb e=>eb b o hb e) f0 f1 f3 f4 f5⟩
 self:=fun _ _ _ _ _ st h=>wpAny_pyIter_valiter st h
section
variable {X:Cx} {tg:Expr}
def zvX(td:TE):TI:=fun σ H R=>td σ H fun x H1=>∃ a o kvs,x=.ref a/\H1 a=some (.frz o (.dT kvs))/\R (ItV a o kvs) H1
theorem zx8{d:Expr}{td:TE}{apos cpos:Pos}(hd:Wr (PE X d td))(hbase:attributeBase d "values" X.env (eval d X.env)=eval d X.env:=by rfl)(hline:(apos.endLine==cpos.line)=true:=by rfl):Wr (PI X tg (.Call (.Attribute d "values" apos) [] [] cpos) (zvX td)):=by
 refine⟨?_⟩;intro pins s σ H R I h;refine wpAny_Call_method0_late hbase hline (thn (hd.run pins s σ H _ I h) fun v s1 ⟨x,H1,I1,r1,q1⟩=>?_);obtain⟨a,o,kvs,rfl,e,q⟩:=q1;cases r1;obtain⟨hsm,es,ep,ea,xd,dat,hsz,_⟩:=zc4 I1 e;have rw1:zcO s1.heap a es ep:=⟨o,ea,xd,dat⟩;refine⟨"dict", "dict.values",F.plainAttrs_dict,F.slot_dict_values,F.type_dict_values,rw1.typeIs,fun b hb=>?_,Calls.callWith_builtin rfl (PySem.evalArgs_none (zmw hsm rw1 ?_))⟩
 ·cases hb
  exact⟨o,ea,xd.2.1⟩
 have I2:Inv X pins σ H1 { s1 with heap:=s1.heap.push { cls:=.type "dict_values",data:=.fields #[.ref a] } }:=I1.kept (t':=s1.toks) fun b o z=>qd _ z;refine zpc (v:=s1.heap.objs.size) (s:={ s1 with heap:=s1.heap.push { cls:=.type "dict_values",data:=.fields #[.ref a] } }) ⟨_,qg _ rfl,rfl,rfl⟩ ⟨o,qd _ ea,xd,dat⟩ fun h' hit kk2=>?_;refine⟨_,_,_,_,H1,rfl,I2.kept (t':=s1.toks) kk2,zpd a _ o kvs ep ⟨es,dat⟩,by rw [<-hsz]; exact hit,fun b hb=>?_,q⟩;rw [qp.mp hb];exact I2.fpOk (qe _) (I2.hok.fresh (qe _))
end
def zn6:U->Option (List D)
 | .d (.dict kvs)=>if noX kvs=true then some (kvs.map (·.2))else none
 | _=>none
theorem zui{K:qc}{te:TE}{me:ME}(h:VE K te me):VI K (zvX te) (mIt zn6 me):=by
 intro ρ σ H ds ρ' R r e q;obtain⟨⟨a,ρ1⟩,e1,e⟩:=zb e;obtain⟨u,eu,e⟩:=zb e;obtain⟨xs,ex,e⟩:=zb e;cases e;refine h ρ σ H a _ _ r e1 fun v H1 g1 k1=>?_;have p:=k1.now r g1 eu;unfold zn6 at ex;split at ex
 ·split at ex
  rotate_left
  ·cases ex
  rename_i nx;cases ex;obtain⟨b,o,ws,rfl,h1,h2⟩:=DF.dct_inv p nx;refine⟨b,o,ws,rfl,h1,q _ _ g1 fun H2 k i=>?_⟩;have h1':=k.frz _ _ _ h1;refine⟨fun d ed=>?_,fun ei=>?_⟩
  ·rw [List.getElem?_map]at ed
   obtain⟨⟨kd,vd⟩,ew,rfl⟩:=qq.mp ed;obtain⟨ks,w,ew',rfl,dv⟩:=zjw h2 ew;refine⟨⟨h1',(qk.mp ew').1⟩,fun x H' y=>?_⟩;obtain⟨rfl,y⟩:=y;rw [y ks w ew'];exact⟨fun _ _ z=>z,dv.kp k⟩
  ·rw [List.length_map,<-zjx h2]at ei
   exact⟨h1',Nat.le_of_eq ei.symm⟩
 ·cases ex
section
variable {X:Cx} {pins:List (Addr×Obj)} {σ:St} {H:Hp} {s:Shared} {a C dx:Addr} {fs:List (Str×V)} {f:Str} {v:V} {A:Around} {E:Value->Shared->Prop}
theorem Inv.frzI(I:Inv X pins σ H s)(e:H a=some (.ins C dx fs)):∃ o,Inv X pins σ (upd H a (.frz o (.ins C dx fs))) s:=by
 have ok:=(show zX X.prog X.w X.K H s.heap a (.ins C dx fs) from I.hok a _ e);obtain⟨d,z,ne,ob,_⟩:=id ok;refine⟨PySem.W.instObj C dx,?_⟩;have ok2:zX X.prog X.w X.K (upd H a (.frz (PySem.W.instObj C dx) (.ins C dx fs))) s.heap a (.ins C dx fs) :=
  ok.stay (fun _ _ _ q=>q) (fun b q=>by rw [zu (ze4 q e (by intro z; cases z))]; exact q) fun b ys q=>by rw [zu (ze4 q e (by intro z; cases z))]; exact q
 exact I.write (t':=s.toks) (h':=s.heap) (by rw [e]; trivial) (.inl rfl) (fun _ _ _ q=>q) ⟨_,ob⟩ ⟨ob,ok2⟩
theorem zk7{b:Bool}{o:Obj}{Q:Value->Shared->Prop}(I:Inv X pins σ H s)(e:H a=some (.frz o (.ins C dx fs)))(c:Cls X.K C)(n:zaY X.K C f)(l:fs.lookup f=some v)
  (h:∀ u s',Inv X pins σ H s'->zJ v u->Q u s'):wpAny (model X.prog X.w) A (getAttr (.ref a) f b) Q E s:=by
 obtain⟨_,d,z,ne,ob,mA,nn,r,q⟩:=(show zX X.prog X.w X.K H s.heap a (.frz o (.ins C dx fs)) from I.hok a _ e);obtain⟨u,hu,ru⟩:=zeJ.some_of (v:=v) (o:=mA f) (by rw [<-l]; exact r f);exact ztc I.kIn (⟨ob,nn,ne⟩:ObjM s.heap a dx C mA) (c.get f) c.hd n hu (zoC ru) (h u _ (I.tok _) ru)
end
def zvY(K:qc)(f:Str):V->Hp->VK->Prop:=fun x H Q=>∃ a C dx o fs v,x=.ref a/\H a=some (.frz o (.ins C dx fs))/\Cls K C/\zaY K C f/\fs.lookup f=some v/\Q v H
section
variable {X:Cx} {o e value:Expr} {f:Str} {pos pos' tpos:Pos} {ta tv:TE}
theorem za3(K:qc)(hK:X.K=K)(he:Wr (PE X e ta))(hb:attributeBase e f X.env (eval e X.env)=eval e X.env):Wr (PE X (.Attribute e f pos) (tUn (zvY K f) ta)):=by
 subst hK;refine⟨?_⟩;intro pins s σ H Q I h;refine ztf hb (thn (he.run pins s σ H _ I h) fun u s1 ⟨x,H1,I1,rx,a,C,dx,oo,fs,v,ex,ea,c,n,l,q⟩=>?_);subst ex;obtain rfl:u=Value.ref a:=rx;exact zk7 I1 ea c n l fun u' s2 I2 ru=>⟨v,H1,I2,ru,q⟩
end
def spO(K:qc)(C:Addr)(fl:List Str):Sp:=fun vs H Q _=>∃ a dx us,vs=.ref a::us/\us.length=fl.length/\H a=some (.ins C dx [])/\Q .non (upd H a (.ins C dx (fl.zip us)))
theorem zuj{K:qc}{C:Addr}{fl:List Str}{vs:List V}{H:Hp}{Q:VK}{E:XK}(h:spO K C fl vs H Q E):vs.length=fl.length+1:=by
 obtain⟨a,dx,us,rfl,l,_⟩:=h;rw [qt,l]
theorem zrN{K:qc}{C:Addr}{f g h:Str}{N:List Str}{vs:List V}{H:Hp}{Q:VK}{E:XK}(c:Cls K C)(n1:zaY K C f)(n2:zaY K C g)(n3:zaY K C h)(d1:¬f=g)(d2:¬f=h)(d3:¬g=h)(q:spO K C [f,g,h] vs H Q E) :
  zpy (ztg K (ze6 0) (ze6 1) f) (zpy (ztg K (ze6 0) (ze6 2) g) (ztg K (ze6 0) (ze6 3) h)) { nx:=fun _ H'=>Q .non H',rt:=Q } (zbw N vs) H:=by
 obtain⟨a,dx,us,rfl,l,e,q⟩:=q
 match us,l with
 | [u,v,w],_ =>
  refine⟨u,rfl,.ref a,rfl,a,C,dx,[],rfl,e,c,n1,by decide,?_⟩;refine⟨v,rfl,.ref a,rfl,a,C,dx,_,rfl,zt,c,n2,?_,?_⟩
  ·show(zce f u []).length < 1000
   simp [zce]
  refine⟨w,rfl,.ref a,rfl,a,C,dx,_,rfl,zt,c,n3,?_,?_⟩
  ·simp only [zce]
   split<;>simp
  ·show Q .non _
   rw [zgv,zgv];have e3:zce h w (zce g v (zce f u []))=[f,g,h].zip [u,v,w]:=by
    simp [zce,d1,d2,d3,List.zip]
   rw [e3];exact q
def zzW(K:qc)(C:Addr)(fl:List Str)(t:TA):TE:=fun σ H Q=>zu0 C (spO K C fl) [] E0 t σ H fun v H2=>∃ a dx fs,v=.ref a/\H2 a=some (.ins C dx fs)/\∀ o,Q v (upd H2 a (.frz o (.ins C dx fs)))
structure OCal (P:Program) (w:World) (K:qc) (mg:Str->Option Value) (base:Heap) (n:Str) (C:Addr) (fl:List Str):Prop where
 xn:XN K n C
 cl:Cls K C
 na:∀ f∈fl,zaY K C f
 gm:mg n=some (.ref C)
 fn:∃ (f:Addr) (fd:FuncData) (ps:List Str),Mk K C f/\zej K fd ps []/\FnOk P w K mg base CX0 1 f fd ps (spO K C fl)
section
variable {X:Cx} {C:Addr} {fl:List Str} {k:Nat} {x:Str} {p pos:Pos} {e:Expr} {es:List Expr} {t:TA}
theorem zrO(O:OCal X.prog X.w X.K X.mg X.base x C fl)(ha:Wr (PA X (e::es) t))(hr:Room 2 X.A:=by exact Room.mono ‹Room _ _› (by decide))(hg:Gl X x:=by exact rfl)(hdb:(x==("__debug__":Str))=false:=by decide)
  (he:zR e=true:=by rfl) (hpl:es.all zR=true:=by rfl):Wr (PE X (.Call (.Name x p) (e::es) [] pos) (zzW X.K C fl t)):=by
 obtain⟨f,fd,ps,M,hb,F⟩:=O.fn;refine⟨fun pins s σ H Q I h=>?_⟩;refine thn (ztj (p:=p) (pos:=pos) (dvs:=[]) (E:=E0) M F hr hg O.gm hb .nil zu2 ha.run hdb (zcf he) (zbN hpl) pins s σ H _ I h) fun u s1 ⟨v,H2,I2,r,a,dx,fs,ev,e,q⟩=>?_;obtain⟨o,I3⟩:=I2.frzI e;exact⟨v,_,I3,r,q o⟩
end
section
variable {K:qc} {n:Str} {C:Addr} {fl:List Str} {f:Str}
def mkF:List Str->List D->List (D×D)
 | f::fl,d::ds=>(.str f,d)::mkF fl ds
 | _,_=>[]
theorem zrP{H:Hp}:∀ {fl:List Str} {vs:List V} {ds:List D},DFs K H vs ds->DFf K H (fl.zip vs) (mkF fl ds)
 | [],_,_,_=>.nil
 | _::_,_,_,.nil=>.nil
 | _::_,_,_,.cons h t=>.cons h (zrP t)
def zmx(n:Str)(fl:List Str)(ds:List D):D:=.dict ((.bool true,.str n)::mkF fl ds)
def zpe(n:Str)(fl:List Str)(ma:MA):ME:=fun ρ=>(ma ρ).bind fun p=>(zax p.2 p.1).bind fun us=>(zch us).bind fun ds=>if ds.length=fl.length then some (.u (.d (zmx n fl ds)),p.2)else none
theorem zrQ{t:TA}{m:MA}(xn:XN K n C)(h:VAs K t m):VE K (zzW K C fl t) (zpe n fl m):=by
 intro ρ σ H a ρ' Q rs e q;obtain⟨⟨as,ρ1⟩,e1,e⟩:=zb e;obtain⟨us,eu,e⟩:=zb e;obtain⟨ds,ed,e⟩:=zb e;split at e
 rotate_left
 ·cases e
 rename_i hl;cases e;refine h ρ σ H as ρ1 _ rs e1 fun vs H1 g1 s1=>?_;have df:=zl5 (s1.rpl rs g1 eu) ed;intro x dx hx hdx ne;refine⟨x,dx,vs,by rw [List.append_nil],by rw [df.len,hl],zt,rfl,x,dx,_,rfl,zt,fun o=>?_⟩;rw [zgv,zgv];have sm:zaZ H1 (upd (upd H1 dx (.own x)) x (.frz o (.ins C dx (fl.zip vs)))):=fun b u hb=>by
  rw [zu (zP hb hx),zu (zP hb hdx)];exact hb
 exact q _ _ (g1.trans (Go.grow g1.rs sm)) ⟨DF.obj zt xn (zrP (df.kp sm.kp)),Nw.data⟩
theorem DF.obj_inv{H:Hp}{v:V}{ds:List (D×D)}(h:DF K H v (.dict ((.bool true,.str n)::ds))):∃ a C dx o fs,v=.ref a/\H a=some (.frz o (.ins C dx fs))/\XN K n C/\DFf K H fs ds:=by
 generalize eq:(PyData.dict ((.bool true,.str n)::ds))=z at h;cases h with
 | dct h t =>
  cases eq;generalize eq2:((PyData.bool true,PyData.str n)::ds)=y at t;cases t with
  | nil=>cases eq2
  | cons=>cases eq2
 | exc h e t=>cases eq
 | obj h e t=>cases eq; exact⟨_,_,_,_,_,rfl,h,e,t⟩
 | _=>cases eq
def zaH(n f:Str):U->Option U
 | .d (.dict ((.bool true,.str m)::ds))=>if m=n then(zmg f ds).map .d else none
 | _=>none
theorem zav(xn:XN K n C)(c:Cls K C)(na:zaY K C f):VU K (zvY K f) (zaH n f):=by
 intro x a u H Q h e q;unfold zaH at e;split at e
 ·rename_i m ds
  split at e
  ·rename_i hn
   subst hn;obtain⟨d,ed,rfl⟩:=qq.mp e;obtain⟨a,C',dx,o,fs,rfl,ha,xn',t⟩:=DF.obj_inv h;obtain⟨v,ev,hv⟩:=t.get ed;have:C'=C:=by
    have z:=(show PySem.W.nsIn K mainGlobals m=some (some (.ref C')) from xn').symm.trans (show PySem.W.nsIn K mainGlobals m=some (some (.ref C)) from xn);injection z with z;injection z with z;injection z
   subst this;exact⟨a,C',dx,o,fs,v,rfl,ha,c,na,ev,q v H (zaZ.refl H) hv Nw.data⟩
  ·cases e
 ·cases e
end
section
variable {X:Cx} {K:qc}
theorem zhw{H:Hp}:∀ (ns:List Int),DFs K H (ns.map V.int) (ns.map PyData.int)
 | []=>.nil
 | n::ns=>.cons (.int n) (zhw ns)
theorem zrR{g:Addr}{ns:List Int}(gt:GTi K g ns)(hn:ns≠[]:=by decide):VE K (tC (.ref g)) (mC (.tuple (ns.map PyData.int))):=by
 intro ρ σ H a ρ' Q rs e q;cases e;obtain⟨o,i,n,z1,z2,z3,z4,z5⟩:=gt;refine q _ _ (Go.refl rs) ⟨DF.tup (.inr ⟨o,i,n,z1,z2,z3,z4,z5,?_⟩) (zhw ns),Nw.data⟩;cases ns with
 | nil=>exact absurd rfl hn
 | cons a r=>exact⟨a,_,rfl⟩
def zfy(i:Int):Int:=(Builtin.Int.intBits i:Nat)
def zvZ:V->List V->Hp->VK->Prop:=fun x xs H Q=>∃ i,x=.int i/\xs=[]/\Q (.int (zfy i)) H
theorem zn7:MtM X "int.bit_length" zvZ:=by
 intro pins s σ H x xs v us Q I rx rv h;obtain⟨i,rfl,rfl,q⟩:=h;obtain⟨t,rfl⟩:=rx;cases rv;exact call_int_bit_length ⟨.int (zfy i),H,I.tok _,⟨_,rfl⟩,q⟩
def zk8:U->Option U
 | .d (.int i)=>some (.d (.int (zfy i)))
 | _=>none
theorem zrS{to:TE}{mo:ME}(h:VE K to mo):VE K (zw2 K "int" zvZ to) (mUn zk8 mo):=by
 intro ρ σ H a ρ' Q rs e q;obtain⟨⟨a1,ρ1⟩,e1,e⟩:=zb e;obtain⟨x,ex,e⟩:=zb e;obtain⟨u,eu,e⟩:=zb e;cases e;refine h ρ σ H a1 _ _ rs e1 fun v1 H1 g1 k1=>?_;have p:=k1.now rs g1 ex;unfold zk8 at eu;split at eu
 ·rename_i z
  cases eu;cases DF.int_inv p;exact⟨rfl,z,rfl,rfl,q _ _ g1 ⟨DF.int _,Nw.data⟩⟩
 ·cases eu
theorem zmy{prog:Program}{w:World}{A:Around}{E:Value->Shared->Prop}{s:Shared}{d:Addr}{es:Array DictEntry}{ep:Nat}{Q:Bool->Shared->Prop}(hd:(d==sysModules)=false)(r:zcO s.heap d es ep)(hfit:(es.size:Int) < 2^63)
  (h:Q (es.size != 0) { s with toks:=s.toks+1+1 }):wpAny (model prog w) A (truthy (.ref d)) Q E s:=by
 have hT:=r.typeIs;obtain⟨o,e,_,dat⟩:=r;have hne:((es.size:Int) != 0)=(es.size != 0):=by
  cases z:es.size with
  | zero=>rfl
  | succ n =>
   rw [bne_iff_ne.mpr (by omega),bne_iff_ne.mpr (by omega)]
 have key:wpAny (model prog w) A (runValue (.builtin "len" ⟨[.ref d],[]⟩)) (fun r s'=>r=.int es.size (s.toks+1)/\Q (es.size != 0) s') E s:=by
  refine wpAny_runValue (codeAny_builtin entry_len ?_);rw [Around.under_plainId plain_len _];unfold Builtin.«len»;refine qa (m:=oneArg "len" _) (qb ?_);refine qa (m:=callSpecial? (.ref d) (Str.ofString "__len__")) (wpAny_callSpecial?_slot (name:=Str.ofString "__len__") hT F.slot_dict_len
   (wpAny_call_entry F.slot_dict_len hT F.entry_dict_len ?_ (F.args_dict_len_1 _)))
  show wpAny _ _ (dictSize d >>= _) _ _ s;unfold dictSize;refine qa (qa (wpAny_dictEntries e dat (qb ?_)));show wpAny _ _ (Builtin.Dict.pendingCount d >>= _) _ _ s;refine qa (wpAny_pendingCount_other hd ?_);refine wpAny_ret_mkInt ?_;show wpAny _ _ _ _ _ { s with toks:=s.toks+1 };refine qa (wpAny_holding (qb ?_));refine qa (wpAny_letGo ?_);show wpAny _ _ (if((es.size+0:Nat):Int) < 0 then _ else _) _ _ _;rw [if_neg (by omega)];show wpAny _ _ (if((es.size+0:Nat):Int)>=2^63 then _ else _) _ _ _;rw [if_neg (by rw [Nat.add_zero]; omega)];exact qa (wpAny_mkInt (qb ⟨rfl,h⟩))
 unfold truthy
 first
  | refine qa (wpAny_callSpecial?_none (name:=Str.ofString "__bool__") hT noBool_dict ?_)
  | refine qa (qb (qa (wpAny_callSpecial?_none (name:=Str.ofString "__bool__") hT noBool_dict ?_)))
 first
  | refine qa (wpAny_specialOf (name:=Str.ofString "__len__") hT F.slot_dict_len.lookup ?_)
  | refine qa (qb (qa (wpAny_specialOf (name:=Str.ofString "__len__") hT F.slot_dict_len.lookup ?_)))
 first
  | exact qa (wpAny_mono key (fun r s' h'=>by obtain⟨rfl,hq⟩:=h'; exact qb (hne▸hq)) fun _ _ e=>e)
  | exact qa (qb (qa (wpAny_mono key (fun r s' h'=>by obtain⟨rfl,hq⟩:=h'; exact qb (hne▸hq)) fun _ _ e=>e)))
def zv0(ta:TE):TT:=fun σ H Q=>ta σ H fun x H1=>∃ p kvs,x=.ref p/\H1 p=some (.dT kvs)/\Q (!kvs.isEmpty) H1
theorem zx9{a:Expr}{ta:TE}(ha:Wr (PE X a ta))(he:∀ whole,isTrue a X.env whole=(do let v <-whole; standAt a.pos; holding [v] (truthy v)):=by intro _; rfl):Wr (PT X a (zv0 ta)):=by
 refine⟨?_⟩;intro pins s σ H Q I h;refine isTrue_plain (thn (ha.run pins s σ H _ I h) fun v s1 ⟨x,H1,I1,r1,p,kvs,ex,ep,q1⟩=>?_) (he _);subst ex;cases r1;obtain⟨z,y,xs,r,o,es,eq,h1,h2,h3,h4,h5⟩:=(show zX X.prog X.w X.K H1 s1.heap p (.dT kvs) from I1.hok p _ ep);have hl:es.size=kvs.length:=by
  have:=congrArg List.length h4;rw [Array.length_toList,List.length_map,<-zaC r]at this;exact this
 have hs:sizeLine=16777216:=sizeLine_eq;refine zmy y ⟨o,h1,h2,h3⟩ (by omega) ⟨H1,I1.tok _,?_⟩;have e2:(es.size != 0)=!kvs.isEmpty:=by
  rw [hl];cases kvs<;>rfl
 rw [e2];exact q1
def zk9(ma:ME):MT:=fun ρ=>(ma ρ).bind fun p=>(p.1.get p.2).bind fun u=>match u with
 | .t kvs=>some (!kvs.isEmpty,p.2)
 | _=>none
theorem zuk{ta:TE}{ma:ME}(ha:VE K ta ma):VT K (zv0 ta) (zk9 ma):=by
 intro ρ σ H b ρ' Q r e q;obtain⟨⟨a,ρ1⟩,e1,e⟩:=zb e;obtain⟨u,eu,e⟩:=zb e;refine ha ρ σ H a _ _ r e1 fun v H1 g1 k1=>?_;have p:=k1.now r g1 eu;cases u with
 | t kvs =>
  cases e;obtain⟨a,ws,rfl,h1,h2⟩:=p;refine⟨a,ws,rfl,h1,?_⟩;have e2:(!ws.isEmpty)=!kvs.isEmpty:=by cases h2<;>rfl
  rw [e2];exact q _ g1
 | _=>cases e
def zrT(K:qc):List V->Hp->VK->Prop:=fun xs H Q=>∃ (d:Addr) (ns:List Int),xs=[.ref d]/\SqT K H d (ns.map V.int)/\ns.length < 64 /\
 ∀ (ms:List Int) l,ms.Perm ns->ms.Pairwise (·<=·)->H l=none->Q (.ref l) (upd H l (.lst (ms.map V.int)))
theorem zmz{K:qc}(hK:X.K=K:=by rfl):zaN X (.builtin "sorted") (zrT K):=by
 subst hK;intro pins s σ H xs us Q I r h;obtain⟨d,ns,rfl,hd,h64,q⟩:=h;obtain⟨u,rfl,ru⟩:=zcd r;cases ru;obtain⟨its,rv,⟨o,eo,co,n,dO⟩,_⟩:=I.tuple hd;have hI:=zgS rv;have lv:its.length=ns.length:=by
  have:=rv.length;rw [List.length_map]at this;exact this.symm
 have line:(64:Nat)<=sizeLine:=by decide
 refine Calls.call_function_entry kind_sorted plain_sorted entry_sorted (args_sorted1 _) ?_;unfold Builtin.«sorted»;refine qa (m:=checkCount "sorted" 1 1 _) (qb ?_);refine qa (wpAny_collect_seq d (.inr rfl) eo co dO (fun h1 keep=>?_) (by rw [List.size_toArray]; omega));rw [List.toList_toArray];refine qa (wpAny_newList ?_ (by omega));have I1:Inv X pins σ H { s with heap:=h1,toks:=s.toks }:=I.kept keep;have hoL:(h1.push (seqObj "list" its.toArray 0)).get? h1.objs.size=some (seqObj "list" its.toArray 0):=qg _ rfl;refine qa (wpAny_holding (wpAny_call_entry slot_list_sort ⟨_,hoL,rfl⟩ entry_list_sort (list_sort_tree (s:={ s with heap:=h1.push (seqObj "list" its.toArray 0) }) hoL hI (by omega) fun out ms a1 a2 a3=>⟨_,rfl,?_⟩) (args_list_sort _)));refine qb ⟨_,rfl,?_⟩;obtain⟨en,ho⟩:=sortedHeap_at (vs:=its) (out:=out) hoL;have fresh:H h1.objs.size=none:=I1.hok.fresh (qe _);have lm:ms.length=ns.length:=a2.length_eq;refine⟨.ref h1.objs.size,_,I1.laid (t':=s.toks) (a:=h1.objs.size) (o:=.lst (ms.map V.int)) (fun b o e=>?_) (qe _) ⟨by rw [List.length_map]; omega,out.toList,en,zfW a1,by simpa using ho⟩,rfl,q ms _ a2 a3 fresh⟩;have hb:b < h1.objs.size:=qh e;rw [sortedHeap_old (qj hb) (by rw [Heap.size_push]; exact Nat.lt_succ_of_lt hb)];exact qd _ e
def zpf(x:Int):List Int->List Int
 | []=>[x]
 | y::ys=>if x<=y then x::y::ys else y::zpf x ys
def zaz:List Int->List Int
 | []=>[]
 | x::xs=>zpf x (zaz xs)
theorem zf7(x:Int):∀ xs,(zpf x xs).Perm (x::xs)
 | []=>.refl _
 | y::ys=>by
  unfold zpf;split
  ·exact .refl _
  ·exact((zf7 x ys).cons y).trans (.swap x y ys)
theorem ze0:∀ xs,(zaz xs).Perm xs
 | []=>.refl _
 | x::xs=>(zf7 x _).trans ((ze0 xs).cons x)
theorem zn8(x:Int):∀ {xs:List Int},xs.Pairwise (·<=·)->(zpf x xs).Pairwise (·<=·)
 | [],_=>List.pairwise_singleton _ _
 | y::ys,h=>by
  obtain⟨h1,h2⟩:=List.pairwise_cons.mp h;unfold zpf;split
  ·rename_i le
   refine List.pairwise_cons.mpr ⟨fun z hz=>?_,h⟩;rcases qu.mp hz with e | hz
   ·omega
   ·have:=h1 z hz
    omega
  ·rename_i le
   refine List.pairwise_cons.mpr ⟨fun z hz=>?_,zn8 x h2⟩;rcases qu.mp ((zf7 x ys).mem_iff.mp hz)with e | hz
   ·omega
   ·exact h1 z hz
theorem zla:∀ xs,(zaz xs).Pairwise (·<=·)
 | []=>.nil
 | x::xs=>zn8 x (zla xs)
theorem zrU{xs ys:List Int}(p:ys.Perm xs)(s:ys.Pairwise (·<=·)):ys=zaz xs:=by
 refine List.Perm.eq_of_pairwise (le:=(·<=·)) (fun a b _ _ h1 h2=>Int.le_antisymm h1 h2) s (zla xs) (p.trans (ze0 xs).symm)
def zjM(u:U):Option U:=match u with
 | .d (.tuple xs)=>(zfe xs).bind fun ns=>if ns.length < 64 then some (.l ((zaz ns).map .int))else none
 | _=>none
theorem zrV:VC K (zrT K) (f1 zjM):=zg7 fun v a u H Q h e q=>by
 unfold zjM at e;split at e
 ·obtain⟨ns,en,e⟩:=zb e
  split at e
  ·rename_i hz
   cases e;obtain⟨b,xs,rfl,h1,h2⟩:=DF.tup_inv h;refine⟨b,ns,rfl,by rw [<-zkw h2 en]; exact h1.sq,hz,fun ms l hp hs hl=>?_⟩;rw [zrU hp hs];have sm:=zF hl (.lst ((zaz ns).map V.int));exact q _ _ sm ⟨l,_,rfl,zt,zhw _⟩ fun _=>⟨l,rfl,hl⟩
  ·cases e
 ·cases e
theorem zlb{prog:Program}{w:World}{A:Around}{E:Value->Shared->Prop}{s:Shared}{Q:List Value->Shared->Prop}{r:Addr}{a b c:Int}{t u v:Tok}{n:Nat}(hh:A.handled=none)(hr:IsRange s.heap r a b c t u v)(hsmall:Builtin.Range.small a b c=true)
  (hn:Builtin.Range.rangeSize a b c=n) (hlen:n<=2^24)
  (hQ:∀ h' tk acc,(∀ b o,s.heap.get? b=some o->h'.get? b=some o)->ItemsOf (fun i v=>∃ t,v=.int (a+i * c) t) acc n->Q acc.toList { s with heap:=h',toks:=tk }) :
  wpAny (model prog w) A (collect (.ref r)) Q E s:=by
 unfold collect;refine qa (wpAny_runValue (codeAny_builtin F.entry_proto_collect ?_));rw [Around.under_plainId F.plain_proto_collect _];show wpAny _ A.in1 (newList [] >>= fun l=>again (.builtin "list.__iadd__" ⟨[l,.ref r],[]⟩)) _ _ s;refine qa (qy ?_);refine qb ⟨plainId_quiet F.plain_list_iadd _,codeAny_builtin F.entry_list_iadd ?_⟩;rw [Around.under_plainId F.plain_list_iadd _];show wpAny _ A.in1 (Builtin.List.listExtendWith (.ref s.heap.objs.size) (.ref r) (.ref s.heap.objs.size)) _ _ _;have hS:(s.heap.push { cls:=.type "list",data:=.seq ([]:List Value).toArray }).get? s.heap.objs.size=some { cls:=.type "list",data:=.seq #[] 0 }:=qg _ rfl;have fin':∀ (s':Shared),(∃ h' tk acc c',s'={ s with heap:=h',toks:=tk }/\(∀ b o,b≠s.heap.objs.size->(s.heap.push { cls:=.type "list",data:=.seq ([]:List Value).toArray }).get? b=some o->h'.get? b=some o) /\
   h'.get? s.heap.objs.size=some { cls:=.type "list",dict:=none,data:=.seq acc c',slots:=#[] }/\ItemsOf (fun i v=>∃ t,v=.int (a+i * c) t) acc n)->wpAny (model prog w) A (match Value.ref s.heap.objs.size with
   | Value.ref a=>do
    match (<-load a).data with
     | Data.seq xs _=>pure xs.toList
     | _=>unsupported "internal:collect"
   | _=>unsupported "internal:collect") Q E s':=by
  rintro s' ⟨h',tk,acc,c',rfl,hk,hS',hacc⟩;show wpAny _ A (load s.heap.objs.size >>= _) _ _ _;refine qa (wpAny_load hS' (qb ?_));exact hQ h' tk acc (fun b o e=>hk b o (qj (qh e)) (qd _ e)) hacc
 refine wpAny_mono (wpAny_extend_range (A:=A) (R:=fun r s'=>r=.ok (.ret (.ref s.heap.objs.size))/\∃ h' tk acc c',s'={ s with heap:=h',toks:=tk }/\(∀ b o,b≠s.heap.objs.size->(s.heap.push { cls:=.type "list",data:=.seq ([]:List Value).toArray }).get? b=some o->h'.get? b=some o) /\
   h'.get? s.heap.objs.size=some { cls:=.type "list",dict:=none,data:=.seq acc c',slots:=#[] }/\ItemsOf (fun i v=>∃ t,v=.int (a+i * c) t) acc n)
  (s:={ s with heap:=s.heap.push { cls:=.type "list",data:=.seq ([]:List Value).toArray } }) hh (qd _ hr) hsmall hn hlen s.heap.objs.size _ 0 hS fun h' tk acc c' hk hS' hacc=>⟨rfl,h',tk,acc,c',rfl,hk,hS',hacc⟩) (fun fin s' h=>?_) (fun e s' h=>?_)
 ·cases fin with
  | done f =>
   obtain⟨e,h⟩:=h;cases e;exact fin' s' h
  | again c'=>exact⟨h.1,codeAny_mono h.2 fun r s'' hr=>by obtain⟨rfl,h⟩:=hr; exact fin' s'' h⟩
 ·exact absurd h.1 (by simp)
theorem zgr{r:Addr}{a b c:Int}{t u v:Tok}{n:Nat}(hsmall:Builtin.Range.small a b c=true)(hn:Builtin.Range.rangeSize a b c=n)(hlen:n<=2^24) :
  Meets (Builtin.«tuple.__new__» ⟨[.type "tuple",.ref r],[]⟩)
   (fun A R s=>A.handled=none/\IsRange s.heap r a b c t u v/\∀ (h':Heap) (tk:Nat) (acc:Array Value),(∀ b o,s.heap.get? b=some o->h'.get? b=some o)->ItemsOf (fun i v=>∃ t,v=.int (a+i * c) t) acc n ->
    R (.ok (.ret (.ref h'.objs.size))) { s with heap:=h'.push { cls:=.type "tuple",data:=.seq acc },toks:=tk }) :=
 .of_wp fun prog w A R s h=>by
  obtain⟨hp,g,d,tk,os⟩:=s;obtain⟨hh,hr,h⟩:=h;have hsub:=sub_tuple_self;have hinit:=init_tuple_lookup;have hmh:=madeHere_tuple;have hT:Shared.TypeIs ⟨hp,g,d,tk,os⟩ (.ref r) "range":=⟨_,hr,rfl⟩;have hh1:A.in1.handled=none:=hh
  wp_walk using AutoSeq1.wpAny_loadPart' hr,wpAny_typeOf hT,zlb (A:=A.in1) hh1 hr hsmall hn hlen
  intro h' tk' acc hk hacc;show wpAny _ _ (Builtin.Tuple.tupleExact acc.toList.toArray >>= fun v=>ret v) _ _ _;unfold Builtin.Tuple.tupleExact;refine qa (qy ?_ (show acc.toList.toArray.size<=sizeLine by simp only [Array.toArray_toList]; rw [hacc.1,sizeLine_eq]; omega));refine qb ⟨_,rfl,?_⟩;have e:acc.toList.toArray=acc:=by simp
  rw [e];exact h h' tk' acc hk hacc
def zv1:List V->Hp->VK->Prop:=fun xs H Q=>∃ (p:Addr) (lo hi:Int),xs=[.ref p]/\H p=some (.rng lo hi)/\(-(2^62)<=lo/\lo < 2^62/\-(2^62)<=hi/\hi < 2^62)/\(hi - lo).toNat<=sizeLine /\
 ∀ l,H l=none->Q (.ref l) (upd H l (.tup ((List.range (hi - lo).toNat).map fun i=>.int (lo+(i:Nat)))))
theorem zpg(hc:X.calm=true):zaN X (.type "tuple") zv1:=by
 intro pins s σ H xs us Q I r h;obtain⟨p,lo,hi,rfl,hp,⟨b1,b2,b3,b4⟩,hz,q⟩:=h;obtain⟨u,rfl,ru⟩:=zcd r;cases ru;obtain⟨t,u',v,e⟩:=I.hok p _ hp;have hs:sizeLine=2^24:=rfl;refine callType_new F.called_tuple (by decide) (F.typeCall_tuple_1 _) (F.newCall_tuple_1 _) (fun obj=>F.args_object_init_2 obj _) F.entry_tuple_new
  (zgr (n:=(hi - lo).toNat) (small_one b1 b2 b3 b4) (by rw [rangeSize_one]; split<;>omega) (by omega)) ⟨I.ok.hd hc,e,fun h' tk acc hk hacc=>⟨⟨_,qg _ rfl,rfl⟩,?_⟩⟩
 have I1:Inv X pins σ H { s with heap:=h',toks:=tk }:=I.kept hk;refine⟨.ref h'.objs.size,_,I1.laid (t':=tk) (a:=h'.objs.size) (o:=.tup ((List.range (hi - lo).toNat).map fun i=>.int (lo+(i:Nat)))) (fun b o e=>qd _ e) (qe _) ?_,rfl,q _ (I1.hok.fresh (qe _))⟩;refine⟨by simpa using hz,acc.toList,?_,_,qg _ rfl,rfl,⟨0,by simp⟩,.inl rfl⟩;obtain⟨hl,ha⟩:=hacc;refine zeT (by simpa using hl.symm) fun j x w e1 e2=>?_;obtain⟨t2,rfl⟩:=ha j w (by simpa using e2);rw [List.getElem?_map]at e1;obtain⟨k,ek,rfl⟩:=qq.mp e1;have hj:j < (hi - lo).toNat:=by
  have:=(qk.mp ek).1;simpa using this
 rw [List.getElem?_range hj]at ek;cases ek;exact⟨t2,by rw [Int.mul_one]⟩
def zul:List U->Option U
 | [.d (.int j)]=>if(-(2^62)<=j/\j < 2^62)/\j.toNat<=sizeLine then some (.d (.tuple (zao 0 j.toNat)))else none
 | _=>none
def zfz(ma:MA):ME:=fun ρ=>(ma ρ).bind fun p=>(zax p.2 p.1).bind fun us=>(zul us).bind fun u=>some (.u u,p.2)
theorem zph{ta:TA}{ma:MA}(h:VAs K ta ma):VE K (tCB zv1 (zgQ (tCB zve ta) zoD)) (zfz ma):=by
 intro ρ σ H a ρ' Q rs e q;replace e:=zb e;obtain⟨⟨as,ρ1⟩,e1,e⟩:=e;replace e:=zb e;obtain⟨us,eu,e⟩:=e;obtain⟨uu,et,e⟩:=zb e;cases e;refine h ρ σ H as ρ1 _ rs e1 fun vs H1 g1 s1=>?_;have rp:=s1.rpl rs g1 eu;unfold zul at et;split at et
 ·split at et
  ·rename_i j hc
   cases et;cases rp with
   | cons h1 t =>
    cases t;cases DF.int_inv h1;refine⟨j,rfl,fun p hp=>?_⟩;have sm1:=zF hp (.rng 0 j);refine⟨p,0,j,rfl,zt,⟨by decide,by decide,hc.1.1,hc.1.2⟩,by rw [Int.sub_zero]; exact hc.2,fun l hl=>?_⟩;have sm2:=zF hl (.tup ((List.range (j - 0).toNat).map fun i=>.int (0+(i:Nat))));have s12:=sm1.trans sm2;refine q _ _ (g1.trans (Go.grow g1.rs s12)) ⟨DF.tup (.inl zt) ?_,Nw.data⟩;rw [Int.sub_zero];exact zxr
  ·cases et
 ·cases et
end
theorem na3{K:qc}{C:Addr}{f g h:Str}(a:zaY K C f)(b:zaY K C g)(c:zaY K C h):∀ x∈[f,g,h],zaY K C x:=fun x hx=>by
 rcases qu.mp hx with rfl | hx
 ·exact a
 rcases qu.mp hx with rfl | hx
 ·exact b
 rcases qu.mp hx with rfl | hx
 ·exact c
 cases hx
section
variable {α β:Type} {c:β->D} {mI:MI} {mg:MG} {mt:MT} {mk mv me ma:ME} {mA:MA} {ρ:En} {QE:Ar×En->Prop} {QT:Bool×En->Prop} {nt:Nat} {js:List Nat}
theorem zrW:Wo (mDC mI nt js mg mt mk mv ρ) QE=Wo (mI ρ) (Co (fun p=>(dcM nt mg mt mk mv p.1 (cEn nt js p.2) []).bind fun q=>some (.u (.t q.1),back js (q.2.drop nt) p.2)) ⟨0⟩ QE):=by
 unfold mDC;rw [zr]
def zya(nt:Nat)(mk mv:ME)(ys:List (List Key×D))(P:En->List (List Key×D)->Prop)(p:Bool×En):Prop :=
 if p.1=true then Wo (mk p.2) (Co (fun p=>(mv p.2).bind fun q=>(p.1.get q.2).bind fun uk=>(q.1.get q.2).bind fun uv=>uk.da.bind fun dk=>uv.da.bind fun dv=>(zae dk).bind fun k=>some (reset nt q.2,zdq ys k dv)) ⟨0⟩ fun z=>P z.1 z.2)else P (reset nt p.2) ys
theorem zrX{ys:List (List Key×D)}{P:En->List (List Key×D)->Prop}:zya nt mk mv ys P (true,ρ)=Wo (mk ρ) (Co (fun p=>(mv p.2).bind fun q=>(p.1.get q.2).bind fun uk=>(q.1.get q.2).bind fun uv=>uk.da.bind fun dk=>uv.da.bind fun dv=>(zae dk).bind fun k=>some (reset nt q.2,zdq ys k dv)) ⟨0⟩ fun z=>P z.1 z.2):=rfl
theorem zrY{ys:List (List Key×D)}{P:En->List (List Key×D)->Prop}:zya nt mk mv ys P (false,ρ)=P (reset nt ρ) ys:=rfl
def dcP(l:Pq β):Pq β:=l.foldl (fun ys t=>zat ys t.1 t.2) []
theorem zum{l:Pq β}:∀ {acc:Pq β},NdK (acc++l)->l.foldl (fun ys t=>zat ys t.1 t.2) acc=acc++l:=by
 induction l with
 | nil=>intro acc _; simp
 | cons t l ih =>
  intro acc h;have e:zat acc t.1 t.2=acc++[t]:=by
   unfold zat;rw [if_neg];intro z;obtain⟨u,hu,e⟩:=List.any_eq_true.mp z;have e:=of_decide_eq_true e;have:(acc++t::l).map (·.1)=acc.map (·.1)++t.1::l.map (·.1):=by simp
   rw [NdK,this,List.nodup_append]at h;exact h.2.2 u.1 (List.mem_map.mpr ⟨u,hu,rfl⟩) t.1 (by simp) e
  rw [List.foldl_cons,e,ih (by rw [List.append_assoc]; exact h)];simp
theorem zmA{l:Pq β}(h:NdK l):dcP l=l:=zum (acc:=[]) h
theorem zhx{g:α->D}{b:α->Bool}{k:α->List Int}{v:α->β}{as:List α}{Q:List (List Key×D)×En->Prop}(hz:as.length<=16777216)
  (st:∀ a∈as,∀ ys:Pq β,Wo (mg (g a) ρ) (Co mt ⟨0⟩ (zya nt mk mv (kvG c ys) fun ρ' zs=>ρ'=ρ/\zs=kvG c (if b a=true then zat ys (k a) (v a)else ys))))
  (q:Q (kvG c (dcP ((as.filter b).map fun a=>(k a,v a))),ρ)):Wo (dcM nt mg mt mk mv (as.map g) ρ []) Q:=by
 have main:∀ (es:List α) (acc:Pq β),(∀ a∈es,a∈as)->acc.length+es.length<=16777216->Q (kvG c (((es.filter b).map fun a=>(k a,v a)).foldl (fun ys t=>zat ys t.1 t.2) acc),ρ)->Wo (dcM nt mg mt mk mv (es.map g) ρ (kvG c acc)) Q:=by
  intro es
  induction es with
  | nil=>intro acc _ _ q; exact⟨_,rfl,q⟩
  | cons a es ih =>
   intro acc hm hl q;rw [qt]at hl;obtain⟨ρ1,e1,⟨bb,ρ2⟩,e2,kk⟩:=st a (hm a qo) acc;rw [List.map_cons];unfold dcM;rw [if_pos (by rw [zrA]; show _ < 16777216; omega),zr];refine⟨ρ1,e1,?_⟩;rw [zc3,zr];refine⟨_,e2,?_⟩;rw [zc3];rw [List.filter_cons]at q;have pl:=zjA acc (k a) (v a);cases bb with
   | false =>
    obtain⟨e3,e4⟩:=kk;rw [if_neg qf,e3,e4]
    by_cases hb:b a=true
    ·rw [if_pos hb]
     rw [if_pos hb]at q;exact ih _ (fun x hx=>hm x (qm _ hx)) (by omega) q
    ·rw [if_neg hb]
     rw [if_neg hb]at q;exact ih _ (fun x hx=>hm x (qm _ hx)) (by omega) q
   | true =>
    rw [if_pos rfl,zr];obtain⟨p,e3,kk⟩:=kk;refine⟨p,e3,?_⟩;rw [zc3];obtain⟨z,e4,e5,e6⟩:=kk;obtain⟨q1,f1,e4⟩:=zb e4;obtain⟨uk,f2,e4⟩:=zb e4;obtain⟨uv,f3,e4⟩:=zb e4;obtain⟨dk,f4,e4⟩:=zb e4;obtain⟨dv,f5,e4⟩:=zb e4;obtain⟨kk,f6,e4⟩:=zb e4;cases e4;rw [f1,bd,f2,bd,f3,bd,f4,bd,f5,bd,f6,bd];dsimp only at e5 e6;rw [e5,e6]
    by_cases hb:b a=true
    ·rw [if_pos hb]
     rw [if_pos hb]at q;exact ih _ (fun x hx=>hm x (qm _ hx)) (by omega) q
    ·rw [if_neg hb]
     rw [if_neg hb]at q;exact ih _ (fun x hx=>hm x (qm _ hx)) (by omega) q
 exact main as [] (fun _ h=>h) (by simpa using hz) q
theorem zrZ{n:Str}{fl:List Str}:Wo (zpe n fl mA ρ) QE=Wo (mA ρ) (Co (fun p=>(zax p.2 p.1).bind fun us=>(zch us).bind fun ds=>if ds.length=fl.length then some (.u (.d (zmx n fl ds)),p.2)else none) ⟨0⟩ QE):=by
 unfold zpe;rw [zr]
def fmD(p:Pq Int)(b r:Int):D:=zmx "Form" ["numbers", "beneath", "room"] [.dict (dcG .int p),.int b,.int r]
theorem zr0{p:Pq Int}{b r:Int}:zmx "Form" ["numbers", "beneath", "room"] [.dict (dcG .int p),.int b,.int r]=fmD p b r:=id rfl
theorem zr1{p:Pq Int}{b r:Int}:zaH "Form" "numbers" (.d (fmD p b r))=some (.d (.dict (dcG .int p))):=by
 unfold fmD zmx;simp [zaH,mkF,zmg]
theorem zr2{p:Pq Int}{b r:Int}:zaH "Form" "beneath" (.d (fmD p b r))=some (.d (.int b)):=by
 unfold fmD zmx;simp only [zaH,mkF,zmg,if_true];rw [if_neg (by decide)];rfl
theorem zr3{p:Pq Int}{b r:Int}:zaH "Form" "room" (.d (fmD p b r))=some (.d (.int r)):=by
 unfold fmD zmx;simp only [zaH,mkF,zmg,if_true];rw [if_neg (by decide),if_neg (by decide)];rfl
def zr4:U->Option Bool
 | .t kvs=>some (!kvs.isEmpty)
 | _=>none
theorem zn9:Wo (zk9 ma ρ) QT=Wo (ma ρ) (Co (fun p=>(p.1.get p.2).bind fun u=>(zr4 u).bind fun b=>some (b,p.2)) ⟨0⟩ QT):=by
 have e:zk9 ma ρ=(ma ρ).bind fun p=>(p.1.get p.2).bind fun u=>(zr4 u).bind fun b=>some (b,p.2):=by
  unfold zk9;congr 1
  funext p
  congr 1
  funext u
  cases u<;>rfl
 rw [e,zr]
theorem zoa{p:Pq β}:zr4 (.t (kvG c p))=some (!p.isEmpty):=by
 show some (!(kvG c p).isEmpty)=_;unfold kvG;rw [List.isEmpty_map]
theorem zlc{p:Pq β}:zn6 (.d (.dict (dcG c p)))=some (p.map fun t=>c t.2):=by
 show(if noX (dcG c p)=true then _ else _)=_;rw [if_pos (zeY p)];unfold dcG;rw [List.map_map];rfl
theorem zob{i:Int}:zk8 (.d (.int i))=some (.d (.int (zfy i))):=id rfl
theorem zoc:Wo (zfz mA ρ) QE=Wo (mA ρ) (Co (fun p=>(zax p.2 p.1).bind fun us=>(zul us).bind fun u=>some (.u u,p.2)) ⟨0⟩ QE):=by
 unfold zfz;rw [zr]
theorem zjN{j:Int}(h:j < 1000)(h2:-1000 < j):zul [.d (.int j)]=some (.d (pwD ((List.range j.toNat).map fun i:Nat=>(i:Int)))):=by
 have hs:sizeLine=16777216:=rfl;show(if _ then _ else _)=_;rw [if_pos ⟨⟨by omega,by omega⟩,by omega⟩];unfold zao pwD;rw [List.map_map];congr 3;simp [Function.comp_def]
theorem zhy{ks:List Int}(h:ks.length < 64):zjM (.d (pwD ks))=some (.l ((zaz ks).map .int)):=by
 show(zfe (ks.map PyData.int)).bind _=_;rw [zf4,bd,if_pos h]
theorem zjO{ks:List Int}(h:ks.length < 64):zbm (.l (ks.map .int))=some (.d (pwD ks)):=by
 have hs:sizeLine=16777216:=rfl
 first | rfl | (unfold zbm; simp; unfold pwD; rfl)
end
section
variable {X:Cx} {pos pos' apos cpos:Pos} {o i v e f tg:Expr} {td ty tv tx:TE} {k n:Nat} (K:qc) (hK:X.K=K)
include hK
end
theorem zhY:typeLookup (.type "tuple") "keys"=pure none:=by rw [typeLookup_type,builtinLookup_eq_fast]; kernel_rfl
theorem zhz:isSubtype (.type "AttributeError") (.type "AttributeError")=pure true:=by rw [isSubtype_type]; kernel_rfl
section
variable {prog:Program} {w:World} {A:Around} {E:Value->Shared->Prop} {s:Shared}
theorem zpi{e:Addr}{x o nm:Value}{dct:Option Addr}{sl:Array (Option Value)}{Q:Unit->Shared->Prop}(he:s.heap.get? e=some ⟨.type "AttributeError",dct,.fields (#[x,.none,.none,.none,.bool false,.none]++#[unsetMember,unsetMember]),sl⟩)
  (hq:Q () { s with heap:=s.heap.update e (Obj.mapFields fun vs=>vs.extract 0 6++#[nm,o]) }):wpAny (model prog w) A (noteAttr (.ref e) o nm) Q E s:=by
 have hT:s.TypeIs (.ref e) "AttributeError":=⟨_,he,rfl⟩;unfold noteAttr;refine qa ?_;unfold lacksNameAndObj;refine qa (wpAny_isInstance hT zhz ?_);simp only [Bool.not_true,Bool.false_eq_true,if_false];refine qa (wpAny_load he ?_);refine qb ?_;show wpAny _ _ (rule _ >>= _) _ _ _;refine qa (wpAny_rule (qa (wpAny_typeOf hT ?_)));show wpAny _ _ (layMembers e 6 #[nm,o]) _ _ _;unfold layMembers;refine qa (wpAny_load he ?_);exact wpAny_update he hq
end
def zun(h h':Heap)(e:Addr):Prop:=(∀ b o,h.get? b=some o->h'.get? b=some o)/\∃ ob,h'.get? e=some ob/\ob.cls=.type "AttributeError"
section
variable {prog:Program} {w:World} {A:Around} {E:Value->Shared->Prop} {s:Shared}
theorem zmB{α:Type}{o:Value}{nm msg:Str}{Q:α->Shared->Prop}(hh:A.handled=none)(hm:msg.length<=sizeLine)(hq:∀ h' tk e,zun s.heap h' e->E (.ref e) { s with heap:=h',toks:=tk }) :
  wpAny (model prog w) A (raiseAttrError o nm msg:Sem α) Q E s:=by
 unfold raiseAttrError;refine qa (wpAny_mkStr (qa ?_) hm);unfold newExc newTuple;refine qa (qy ?_);refine qa (m:=firstArgMember _ _) (wpAny_of_eq (a:=Value.none) (by kernel_rfl) ?_);refine qy ?_;refine qa (wpAny_mkText ?_);refine qa (zpi (qg _ rfl) ?_);unfold raiseNew;refine qa (wpAny_handled ?_);rw [hh]
 first
  | refine wpAny_throw ?_
  | refine qa (qb (wpAny_throw ?_))
 refine hq _ _ _ ⟨fun b o hb=>?_,_,Heap.get?_update_self _ (qg _ rfl) rfl,Obj.cls_mapFields _ _⟩;rw [Heap.get?_update_other _ _ (Nat.ne_of_gt (qi (qh hb) (by simp)))];exact qd _ (qd _ hb)
end
section
variable {prog:Program} {w:World} {A:Around} {E:Value->Shared->Prop} {h:Heap} {g:Array GenState} {d:Drawn} {t:Nat} {os:OsState} {a:Addr} {items:Array Value} {n:Nat} {sl:Array (Option Value)}
theorem zyb:(Str.ofString (toString "'"++toString ((Manifest.find? "tuple").elim "tuple" fun x=>x.tpName)++toString "' object has no attribute '")++Str.ofString "keys"++Str.ofString "'").length<=sizeLine:=by decide +kernel
theorem zr5{tk:Tok}{Q:Fin->Shared->Prop}(hx:h.get? a=some ⟨.type "tuple",none,.seq items n,sl⟩)(hh:A.handled=none)
  (hq:∀ h' tk e,zun h h' e->E (.ref e) ⟨h',g,d,tk,os⟩) :
  wpAny (model prog w) A (Builtin.«object.__getattribute__» ⟨[.ref a,.str "keys" tk],[]⟩) Q E ⟨h,g,d,t,os⟩:=by
 have hT:(⟨h,g,d,t,os⟩:Shared).TypeIs (.ref a) "tuple":=⟨_,hx,rfl⟩;have f4:=zhY
 repeat (any_goals (first | assumption | wp_step))
 exact zmB hh zyb hq
theorem zuo{tk:Tok}{R:Result->Shared->Prop}(hx:h.get? a=some ⟨.type "tuple",none,.seq items n,sl⟩)(hh:A.handled=none)
  (hq:∀ h' tk e,zun h h' e->R (.error (.ref e)) ⟨h',g,d,tk,os⟩) :
  codeAny (model prog w) A (.call (.builtin "tuple.__getattribute__") ⟨[.ref a,.str "keys" tk],[]⟩) R ⟨h,g,d,t,os⟩ :=
 codeAny_call_builtin F.slot_tuple_getattribute.plain F.entry_tuple_ga (F.slot_tuple_getattribute.check _ _ _ _ _ _ _ _ (show(⟨h,g,d,t,os⟩:Shared).TypeIs (.ref a) "tuple" from⟨_,hx,rfl⟩) (F.args_tuple_getattribute_2 _ _) (zr5 hx hh hq))
theorem zld:typeLookup (.type "tuple") "__getattr__"=pure none:=by rw [typeLookup_type,builtinLookup_eq_fast]; kernel_rfl
theorem zzX{tk:Tok}{Q:Value->Shared->Prop}(hx:h.get? a=some ⟨.type "tuple",none,.seq items n,sl⟩)(hh:A.handled=none)(hq:∀ h' tk e,zun h h' e->E (.ref e) ⟨h',g,d,tk,os⟩) :
  wpAny (model prog w) A (getAttrBy (.ref a) (.str "keys" tk) false) Q E ⟨h,g,d,t,os⟩:=by
 have hT:(⟨h,g,d,t,os⟩:Shared).TypeIs (.ref a) "tuple":=⟨_,hx,rfl⟩;have f2:=F.slot_tuple_getattribute.lookup;have f3:=F.slot_tuple_getattribute.bind (.ref a);have f5:=zld
 repeat (any_goals (first | assumption | wp_step))
 refine zuo hx hh fun h' tk' e lk=>?_;obtain⟨kk,ob,eo,ec⟩:=id lk;show wpAny _ _ (getattributeRaised _ _ _ _ _ _ _) _ _ _;unfold getattributeRaised;refine qa (wpAny_isInstance (T := "AttributeError") ⟨_,eo,ec⟩ zhz ?_);rw [if_pos rfl];refine qa ?_;show wpAny _ _ (typeLookup (.type "tuple") "__getattr__") _ _ _;refine wpAny_of_eq f5 ?_;exact wpAny_throw (hq _ _ _ lk)
theorem zup{s:Shared}{Q:Option Value->Shared->Prop}(hx:s.heap.get? a=some ⟨.type "tuple",none,.seq items n,sl⟩)(hh:A.handled=none)(hq:∀ h' tk,(∀ b o,s.heap.get? b=some o->h'.get? b=some o)->Q none { s with heap:=h',toks:=tk }) :
  wpAny (model prog w) A (getAttr? (.ref a) "keys") Q E s:=by
 unfold getAttr?;refine qa (wpAny_mkText ?_);unfold getAttrBy?;refine qa (wpAny_attempt ?_);refine zzX (t:=s.toks+1) (g:=s.gens) (d:=s.drawn) (os:=s.os) hx hh fun h' tk e ⟨kk,ob,eo,ec⟩=>?_;refine qa (wpAny_isInstance (T := "AttributeError") ⟨_,eo,ec⟩ zhz ?_);rw [if_pos rfl];exact qb (hq _ _ kk)
end
theorem zdJ:entryFor table "dict.update.loop"=some Builtin.«dict.update.loop»:=entryFor_of_tree (by kernel_rfl)
theorem zbr:plainId "dict.update.loop"=true:=by decide +kernel
def zbh(acc:List (List Key×V))(kvs:List (List Key×V)):List (List Key×V):=kvs.foldl (fun a p=>zbB a p.1 p.2) acc
inductive PrsAt (K:qc) (H:Hp):List V->List (List Key×V)->Prop where
 | nil:PrsAt K H [] []
 | cons {q k:Addr} {ks:List Key} {v:V} {xs:List V} {kvs:List (List Key×V)} (hq:SqT K H q [.ref k,v]) (hk:TpK K H k (ks.map kV)) (t:PrsAt K H xs kvs):PrsAt K H (.ref q::xs) ((ks,v)::kvs)
theorem PrsAt.at{K:qc}{H:Hp}{xs:List V}{kvs:List (List Key×V)}(h:PrsAt K H xs kvs):∀ {i:Nat},i < xs.length->∃ q k ks v,xs[i]?=some (.ref q)/\kvs[i]?=some (ks,v)/\SqT K H q [.ref k,v]/\TpK K H k (ks.map kV):=by
 induction h with
 | nil=>intro i hi; cases hi
 | @cons q k ks v xs kvs hq hk t ih =>
  intro i hi;cases i with
  | zero=>exact⟨q,k,ks,v,rfl,rfl,hq,hk⟩
  | succ i=>exact ih (by simpa using hi)
theorem PrsAt.len{K:qc}{H:Hp}{xs:List V}{kvs:List (List Key×V)}(h:PrsAt K H xs kvs):kvs.length=xs.length:=by
 induction h with
 | nil=>rfl
 | cons _ _ _ ih=>simp [ih]
theorem zmC(kvs:List (List Key×V)):∀ acc:List (List Key×V),(zbh acc kvs).length<=acc.length+kvs.length:=by
 induction kvs with
 | nil=>intro acc; exact qe _
 | cons p r ih =>
  intro acc;have:=ih (zbB acc p.1 p.2);have h2:=zct acc p.1 p.2;show(zbh (zbB acc p.1 p.2) r).length<=_;rw [qt];omega
theorem zjP{K:qc}{H:Hp}{D a:Addr}{o:HO}{xs:List V}(hD:H D=none)(h:SqT K H a xs):SqT K (upd H D o) a xs:=by
 rcases h with (h | ⟨ob,h⟩) | h
 ·exact .inl (.inl (by rw [zu (zP h hD)]; exact h))
 ·exact .inl (.inr ⟨ob,by rw [zu (zP h hD)]; exact h⟩)
 ·exact .inr h
theorem zAz{k:Addr}{v:V}{qs:List Value}(h:zH [.ref k,v] qs):∃ u2,qs=[.ref k,u2]/\zJ v u2:=by
 cases h with
 | cons r1 t =>
  cases t with
  | cons r2 t =>
   cases t;cases r1;exact⟨_,rfl,r2⟩
section
variable {X:Cx} {pins:List (Addr×Obj)} {σ:St} {H:Hp} {A:Around} {D it a:Addr} {xs:List V} {kvs:List (List Key×V)} {R:Result->Shared->Prop}
theorem zmD(hh:A.handled=none)(hu:A.units+2 < cLine)(hD:H D=none)(e:SqT X.K H a xs)(hz:xs.length < sizeLine)(pa:PrsAt X.K H xs kvs)
  (hR:∀ s',Inv X pins σ (upd H D (.dT (zbh [] kvs))) s'->R (.ok (.ret .none)) s') :
  ∀ (m i:Nat) (s:Shared),i+m=xs.length->Inv X pins σ (upd H D (.dT (zbh [] (kvs.take i)))) s->s.heap.IsTupleIter it a i->(∀ o,zcc X pins (upd H D o) it)->codeAny (model X.prog X.w) A (.builtin "dict.update.loop" ⟨[.ref D,.ref it,rawInt (i:Int),.none],[]⟩) R s:=by
 intro m
 induction m with
 | zero =>
  intro i s hi I st fp;cases(show i=xs.length by omega);obtain⟨its,rv,p,_⟩:=I.tuple (zjP hD e);obtain⟨f0,f1,f2,f3,f4,f5⟩:=fp (.dT (zbh [] (kvs.take xs.length)));refine codeAny_builtin zdJ ?_;rw [Around.under_plainId zbr _];show wpAny _ A.in1 (pyNext (.ref it) >>= _) _ _ s;refine qa (wpAny_pyNext_tuple_end hh st (show s.heap.IsTuple a its.toArray from p) (by have:=rv.length; simp; omega) fun h' eb=>?_);have I1:Inv X pins σ (upd H D (.dT (zbh [] (kvs.take xs.length)))) { s with heap:=h' }:=I.turned (t':=s.toks) (fun b o hb e=>eb b o hb e) f0 f1 f3 f4 f5;rw [<-pa.len,List.take_length]at I1;show wpAny _ A.in1 (Builtin.Dict.addKeywords D [] >>= _) _ _ _;refine qa (qb (qb ?_));exact hR _ I1
 | succ m ih =>
  intro i s hi I st fp;obtain⟨q,k,ks,v,ex,ek,hq,hk⟩:=pa.at (i:=i) (by omega);obtain⟨its,rv,p,_⟩:=I.tuple (zjP hD e);obtain⟨u,hu1,ru⟩:=rv.get ex;cases ru;obtain⟨f0,f1,f2,f3,f4,f5⟩:=fp (.dT (zbh [] (kvs.take i)));refine codeAny_builtin zdJ ?_;rw [Around.under_plainId zbr _];show wpAny _ A.in1 (pyNext (.ref it) >>= _) _ _ s;refine qa (wpAny_pyNext_tuple_item st (show s.heap.IsTuple a its.toArray from p) (x:=.ref q) (by simpa using hu1) fun h' st' sb=>?_);have I1:Inv X pins σ (upd H D (.dT (zbh [] (kvs.take i)))) { s with heap:=h' }:=I.turned (t':=s.toks) (fun b o hb e=>(sb.2 b hb).trans e) f0 f1 f3 f4 f5;obtain⟨oi,ei,ci,di⟩:=id st';have I2:=I1.pinned (fp:=[it]) (fun b hb=>by rw [qp.mp hb]; exact fp _) (fun b hb=>by rw [qp.mp hb]; exact⟨oi,ei,fun v z=>by rw [di]at z; cases z⟩);obtain⟨qs,rq,pq,_⟩:=I1.tuple (zjP hD hq);obtain⟨oq,eq,cq,nq,dq⟩:=id pq;obtain⟨u2,rfl,r2⟩:=zAz rq;refine qa (wpAny_holding (qa (wpAny_tryCatch ?_)));unfold Builtin.Dict.pairItems;refine qa (wpAny_typeOf (T := "tuple") ⟨_,eq,cq⟩ ?_);rw [if_pos (by decide:(Value.type "tuple"==Value.type "list" || Value.type "tuple"==Value.type "tuple")=true)];refine qa (wpAny_seqItems eq dq (qb ?_));show wpAny _ A.in1 (holding [Value.ref k,u2] (dictSet D (.ref k) u2)) _ _ _;have tk:=zmC (kvs.take i) [];have lt:=List.length_take_le i kvs;refine wpAny_holding (ziK (X:=X) (show A.units+1+1 < cLine by omega) I2 zt (hk.keeps fun b ys hb=>by rw [zu (zP hb hD)]; exact hb) (by have:=pa.len; simp only [List.length_nil,Nat.zero_add]at tk; omega) r2 fun s3 I3=>?_);have ups:upd (upd H D (.dT (zbh [] (kvs.take i)))) D (.dT (zbB (zbh [] (kvs.take i)) ks v))=upd H D (.dT (zbh [] (kvs.take (i+1)))):=by
   funext b
   by_cases hb:b=D
   ·subst hb
    rw [zt,zt,List.take_add_one,ek];show _=some (HO.dT ((kvs.take i++[(ks,v)]).foldl _ _));rw [List.foldl_append];rfl
   ·rw [zu hb,zu hb,zu hb]
  rw [ups]at I3;have pin:=(I3.pin (it,oi) (qv _ (qv _ (za9 (qp.mpr rfl) ei)))).1;refine qb ⟨plainId_quiet zbr _,ih (i+1) s3 (by omega) (I3.pins_of fun p hp=>I3.pin p (qv _ (List.mem_append_left _ hp))) ⟨oi,pin,ci,di⟩ fp⟩
end
section
variable {X:Cx}
def zr6(K:qc):List V->Hp->VK->Prop:=fun xs H Q=>∃ a ys kvs,xs=[.ref a]/\H a=some (.tup ys)/\ys.length < sizeLine/\PrsAt K H ys kvs/\∀ p,H p=none->Q (.ref p) (upd H p (.dT (zbh [] kvs)))
theorem zr7{K:qc}{H:Hp}{ys:List V}{kvs:List (List Key×V)}{its:List Value}(pa:PrsAt K H ys kvs)(rv:zH ys its):¬∃ i t r,its.toArray.toList=.int i t::r:=by
 rintro⟨i,t,r,e⟩;have e:its=.int i t::r:=e;subst e;cases pa with
 | nil=>cases rv
 | cons hq hk tl =>
  cases rv with
  | cons r1 _=>cases r1
theorem zmE{k:Nat}(K:qc)(hK:X.K=K)(hr:Room k X.A)(hc:X.calm=true):zaN X (.type "dict") (zr6 K):=by
 subst hK;intro pins s σ H xs us Q I r h;obtain⟨a,ys,kvs,rfl,ha,hz,pa,q⟩:=h;obtain⟨u,rfl,ru⟩:=zcd r;cases ru;obtain⟨_,its,rv,⟨oc,od,odt,osl⟩,ho,hcl,⟨n,hd⟩,hb⟩:=(show zX X.prog X.w X.K H s.heap a (.tup ys) from I.hok a _ ha);have hb':=hb.resolve_right (zr7 pa rv);clear hb;dsimp only at hcl hd hb';subst hcl hd hb';have hD:H s.heap.objs.size=none:=I.hok.fresh (qe _);have hh:=I.ok.hd hc;refine callType_codes (Q₁:=fun obj s₁=>obj=.ref s.heap.objs.size/\s₁={ s with heap:=s.heap.push { cls:=.type "dict",data:=.dict #[] } }) F.kt_called_dict (F.kt_typeCall_dict_1 _) F.entry_dict_init (kt_code_dict_new _ ⟨rfl,rfl⟩) ?_;rintro obj s₁ ⟨rfl,rfl⟩;have tn:Shared.TypeIs { s with heap:=s.heap.push { cls:=.type "dict",data:=.dict #[] } } (.ref s.heap.objs.size) "dict":=⟨_,qg _ rfl,rfl⟩;have ho1:(s.heap.push { cls:=.type "dict",data:=.dict #[] }).get? a=some ⟨.type "tuple",none,.seq its.toArray n,osl⟩:=qd _ ho;have I1:=I.laid (a:=s.heap.objs.size) (o:=.dT []) (h':=s.heap.push { cls:=.type "dict",data:=.dict #[] }) (t':=s.toks) (fun _ _ q=>qd _ q) (qe _) (ze9 s.heap I.big);refine⟨tn,F.args_dict_init_2 _ _,?_⟩;unfold Builtin.«dict.__init__»;refine qa ?_;unfold Builtin.Dict.selfAndRest;refine qa (wpAny_notOrdered_dict tn ?_);show wpAny _ _ (pure (s.heap.objs.size,[Value.ref a])) _ _ _;refine qb ?_;show wpAny _ _ (Builtin.Dict.updateFrom "dict.__init__" s.heap.objs.size (.ref a) [] .none) _ _ _;unfold Builtin.Dict.updateFrom;refine qa (wpAny_typeOf (T := "tuple") ⟨_,ho1,rfl⟩ ?_);rw [if_pos (by decide)];refine qa (zup (s:={ s with heap:=s.heap.push { cls:=.type "dict",data:=.dict #[] } }) ho1 hh fun h2 tk2 kk2=>?_);have I2:Inv X pins σ (upd H s.heap.objs.size (.dT [])) { s with heap:=h2,toks:=tk2 }:=I1.kept (t':=tk2) kk2;rw [if_pos (by rfl:(Option.isNone (none:Option Value))=true)];refine qa (wpAny_rule (qa (wpAny_pyIter_tuple (show Heap.IsTuple h2 a its.toArray from⟨_,kk2 _ _ ho1,rfl,n,rfl⟩) ?_)));have I3:=I2.kept (t':=tk2) (h':=h2.push { cls:=.type "tuple_iterator",data:=.fields #[.ref a,.int 0 0] }) fun b o e=>qd _ e;refine qb ⟨plainId_quiet zbr _,?_⟩;refine zmD (A:=X.A.in1) (H:=H) (xs:=ys) (kvs:=kvs) hh (by show X.A.units+1+2 < cLine; have:=hr.units; omega) hD (SqT.of ha) hz pa (fun s' I'=>⟨rfl,.ref _,_,I',rfl,q _ hD⟩) ys.length 0 _ (Nat.zero_add _) I3 ⟨_,qg _ rfl,rfl,rfl⟩ fun o=>?_;refine I2.fpOk (qe _) ?_;have nz:H h2.objs.size=none:=by
  have:=I2.hok.fresh (qe _)
  by_cases z:h2.objs.size=s.heap.objs.size
  ·rw [z]; exact hD
  ·rw [zu z]at this; exact this
 have ne:h2.objs.size≠s.heap.objs.size:=Nat.ne_of_gt (qh (kk2 _ _ (qg _ rfl)));rw [zu ne];exact nz
end
def zjQ:D->Option (List Key×D)
 | .tuple [k,v]=>(zae k).bind fun k=>some (k,v)
 | _=>none
def zr8(kvs:List (List Key×D)):List (List Key×D):=kvs.foldl (fun a p=>zdq a p.1 p.2) []
def zjR:U->Option U
 | .d (.tuple ds)=>(ds.mapM zjQ).bind fun kvs=>if ds.length < sizeLine then some (.t (zr8 kvs))else none
 | _=>none
section
variable {K:qc} {H:Hp}
theorem zuq{v:V}{d:D}{k:List Key}{x:D}(h:DF K H v d)(e:zjQ d=some (k,x)):∃ q b y,v=.ref q/\SqT K H q [.ref b,y]/\TpK K H b (k.map kV)/\DF K H y x:=by
 unfold zjQ at e;split at e
 ·rename_i dk dx
  obtain⟨k',ek,e⟩:=zb e;cases e;obtain⟨q,vs,rfl,tp,ts⟩:=DF.tup_inv h;cases ts with
  | cons h1 ts =>
   cases ts with
   | cons h2 ts =>
    cases ts;obtain⟨b,rfl,tb⟩:=zdj h1 ek;exact⟨q,b,_,rfl,tp.sq,tb,h2⟩
 ·cases e
theorem zr9:∀ {vs:List V} {ds:List D} {kvs:List (List Key×D)},DFs K H vs ds->ds.mapM zjQ=some kvs->∃ ws,PrsAt K H vs ws/\KVd K H ws kvs
 | _,_,kvs,.nil,e=>by
  cases(show some []=some kvs from e);exact⟨[],.nil,.nil⟩
 | _,_,kvs,.cons (d:=d) (ds:=ds) h t,e=>by
  rw [List.mapM_cons]at e;obtain⟨p,ep,e⟩:=zb (show(zjQ d).bind _=some kvs from e);obtain⟨r,er,e⟩:=zb (show(ds.mapM zjQ).bind _=some kvs from e);cases(show some (p::r)=some kvs from e);obtain⟨q,b,y,rfl,h1,h2,h3⟩:=zuq (k:=p.1) (x:=p.2) h ep;obtain⟨ws,h4,h5⟩:=zr9 t er;exact⟨(p.1,y)::ws,.cons h1 h2 h4,.cons ⟨rfl,h3⟩ h5⟩
theorem zur{ws:List (List Key×V)}{kvs:List (List Key×D)}(h:KVd K H ws kvs):∀ {a:List (List Key×V)} {b:List (List Key×D)},KVd K H a b->KVd K H (zbh a ws) (kvs.foldl (fun a p=>zdq a p.1 p.2) b):=by
 induction h with
 | nil=>intro a b q; exact q
 | @cons p q ws kvs hq t ih =>
  intro a b z;show KVd K H (zbh (zbB a p.1 p.2) ws) (kvs.foldl _ (zdq b q.1 q.2));rw [hq.1];exact ih (z.put q.1 hq.2)
theorem zsa:VC K (zr6 K) (f1 zjR):=zg7 fun v a u H Q h e q=>by
 unfold zjR at e;split at e
 ·rename_i ds
  obtain⟨kvs,ek,e⟩:=zb e;split at e
  rotate_left
  ·cases e
  rename_i hz;cases e;obtain⟨c,vs,rfl,tp,ts⟩:=DF.tup_inv h;obtain⟨ws,pa,kd⟩:=zr9 ts ek;rcases tp with tp | ⟨o,its,n,_,_,_,_,_,i,r,rfl⟩
  ·refine⟨c,vs,ws,rfl,tp,by rw [ts.len]; exact hz,pa,fun p hp=>?_⟩
   have sm:=zF hp (.dT (zbh [] ws));exact q _ _ sm ⟨p,_,rfl,zt,(zur kd .nil).kp sm.kp⟩ fun _=>⟨p,rfl,hp⟩
  ·cases pa
 ·cases e
end
end L2
namespace L2
open PySem PySem.Calls PySem.Spec PyProof.Rows
abbrev KKs:=List (List Key×List Key)
def vAt(g:KKs)(k:List Key):Option (List Key):=(g.find? fun q=>decide (q.1=k)).map (·.2)
def eqF(f g:KKs):Bool:=(f.length==g.length) && f.all fun p=>decide (vAt g p.1=some p.2)
theorem zsb{α β:Type}{F:α->β->Prop}{l:List α}{m:List β}(h:Paired F l m):∀ {i:Nat} {x:α},l[i]?=some x->∃ y,m[i]?=some y/\F x y:=by
 induction h with
 | nil=>intro i x e; cases e
 | cons hq t ih =>
  intro i x e;cases i with
  | zero=>cases(show some _=some x from e); exact⟨_,rfl,hq⟩
  | succ i=>exact ih e
theorem zhA{α β:Type}{F:α->β->Prop}{l:List α}{m:List β}(h:Paired F l m):l.length=m.length:=by
 induction h with
 | nil=>rfl
 | cons _ _ ih=>simp [ih]
theorem zle{g:KKs}(hn:(g.map (·.1)).Nodup){j:Nat}{k v:List Key}(e:g[j]?=some (k,v)):vAt g k=some v:=by
 induction g generalizing j with
 | nil=>cases e
 | cons q r ih =>
  rw [List.map_cons,List.nodup_cons]at hn;cases j with
  | zero =>
   cases(show some q=some (k,v) from e);unfold vAt;rw [List.find?_cons,decide_eq_true rfl];rfl
  | succ j =>
   have m:k∈r.map (·.1):=List.mem_map.mpr ⟨_,List.mem_of_getElem? (show r[j]?=some (k,v) from e),rfl⟩;have ne:¬q.1=k:=fun z=>hn.1 (z▸m);unfold vAt;rw [List.find?_cons,decide_eq_false ne];exact ih hn.2 (show r[j]?=some (k,v) from e)
theorem zsc{g:KKs}{k:List Key}(h:∀ (j:Nat) (v:List Key),g[j]?≠some (k,v)):vAt g k=none:=by
 unfold vAt;rw [List.find?_eq_none.mpr]
 ·rfl
 ·intro q hq z
  obtain⟨j,hj⟩:=List.mem_iff_getElem?.mp hq;exact h j q.2 (by rw [hj,<-of_decide_eq_true z])
section
variable {prog:Program} {w:World} {A:Around} {E:Value->Shared->Prop} {s:Shared}
abbrev TK(prog:Program)(w:World):=tupleKind (zT prog w)
def VVs(prog:Program)(w:World)(h:Heap)(xs:List (List Key×Addr×Value))(f:KKs):Prop:=Paired (fun x p=>x.1=p.1/\∃ c,x.2.2=.ref c/\(TK prog w).is h p.2 c) xs f
theorem zsd{h:Heap}{xs:List (List Key×Addr×Value)}{f:KKs}(v:VVs prog w h xs f):f.map (·.1)=xs.map (·.1):=by
 induction v with
 | nil=>rfl
 | cons hq _ ih=>rw [List.map_cons,List.map_cons,ih,hq.1]
theorem zlf{nm:String}{a b:Addr}{oa ob:Obj}{es fs:Array DictEntry}{ep ep':Nat}{xs ys:List (List Key×Addr×Value)}{f g:KKs}{Q:Bool->Shared->Prop}(hu:(TK prog w).room A)(ha:(a==sysModules)=false)(hb:(b==sysModules)=false)
  (hoa:s.heap.get? a=some oa) (hda:oa.data=.dict es ep) (hob:s.heap.get? b=some ob) (hdb:ob.data=.dict fs ep') (hx:es.toList=xs.map (entryOfKey (TK prog w))) (hy:fs.toList=ys.map (entryOfKey (TK prog w)))
  (isx:∀ x∈xs,(TK prog w).is s.heap x.1 x.2.1) (isy:∀ x∈ys,(TK prog w).is s.heap x.1 x.2.1) (ny:(ys.map (·.1)).Nodup) (vx:VVs prog w s.heap xs f) (vy:VVs prog w s.heap ys g) (h:Q (eqF f g) s) :
  wpAny (model prog w) A (Builtin.Dict.samePairs nm a b) Q E s:=by
 have sx:es.size=f.length:=(size_of_entries hx).trans (zhA vx);have sy:fs.size=g.length:=(size_of_entries hy).trans (zhA vy);have ng:(g.map (·.1)).Nodup:=by rw [zsd vy]; exact ny
 unfold Builtin.Dict.samePairs Builtin.Dict.showsAll;rw [if_neg (show ¬(a==sysModules)=true by rw [ha]; exact qf),if_neg (show ¬(b==sysModules)=true by rw [hb]; exact qf)];refine qa (qb (qa (qb ?_)));refine qa (wpAny_dictEntries hoa hda ?_);dsimp only;refine qa (wpAny_dictEntries hob hdb ?_)
 by_cases hsz:es.size=fs.size
 ·rw [if_neg (by simpa using hsz)]
  refine qa (wpAny_dictEpoch hoa hda ?_);refine qa ?_;rw [Std.Legacy.Range.forIn_eq_forIn_range'];simp only [Std.Legacy.Range.size,Nat.sub_zero,Nat.add_sub_cancel,Nat.div_one];have hlen:(f.length==g.length)=true:=by rw [<-sx,<-sy,hsz]; exact beq_self_eq_true _
  refine wpAny_forIn_list _ (fun zbA r s'=>s'=s/\r=(none,())/\∃ i,i<=f.length/\zbA=List.range' i (f.length - i)/\∀ j p,j < i->f[j]?=some p->vAt g p.1=some p.2) _ ?_ ?_ _ _ ⟨rfl,rfl,0,Nat.zero_le _,by rw [sx,Nat.sub_zero],fun j p hj=>absurd hj (Nat.not_lt_zero _)⟩
  ·rintro x zbA r s' ⟨rfl,rfl,i,hi,hr,hok⟩
   have hlt:i < f.length:=by
    rcases Nat.lt_or_ge i f.length with z | z
    ·exact z
    ·rw [Nat.sub_eq_zero_of_le z]at hr; cases hr
   obtain⟨n,hn⟩:∃ n,f.length - i=n+1:=⟨f.length - i - 1,by omega⟩;rw [hn,List.range'_succ]at hr;injection hr with hr1 hr2;subst hr1;obtain⟨⟨k,c,v⟩,hkv⟩:∃ y,xs[x]?=some y:=⟨xs[x]'(by rw [zhA vx]; exact hlt),ql _⟩;obtain⟨⟨k',kv⟩,hf,e1,cv,e2,hcv⟩:=zsb vx hkv;cases(show k=k' from e1);cases(show v=.ref cv from e2);have hex:es[x]?=some ⟨(TK prog w).hash k,.ref c,.ref cv⟩:=by rw [entry_at hx x,hkv]; rfl
   refine qa (wpAny_dictEntries hoa hda ?_);rw [hex];dsimp only;have bad:¬vAt g k=some kv->Q false s':=fun hne=>by
    have:eqF f g=false:=by
     unfold eqF;rw [hlen,Bool.true_and];exact List.all_eq_false.mpr ⟨_,List.mem_of_getElem? hf,by rw [decide_eq_false hne]; exact qf⟩
    rw [<-this];exact h
   refine qa (wpAny_holding (qa (wpAny_dictFind_heap hu (isx _ (List.mem_of_getElem? hkv)) hob hdb hy isy ny (fun hno=>?_) fun j p hj=>?_)))
   ·refine qb ?_
    simp only [Bool.not_false,if_true];refine qb ?_;refine qb (bad ?_);rw [zsc fun j v z=>?_]
    ·intro z; cases z
    ·obtain⟨y,hy1,hy2⟩:∃ y,ys[j]?=some y/\y.1=k:=by
      obtain⟨y,hy1⟩:∃ y,ys[j]?=some y:=⟨ys[j]'(by rw [zhA vy]; exact(qk.mp z).1),ql _⟩;obtain⟨q,hq1,hq2,_⟩:=zsb vy hy1;rw [z]at hq1;cases hq1;exact⟨y,hy1,hq2⟩
     exact hno j y.2 (by rw [hy1,<-hy2])
   ·obtain⟨⟨k2,kb⟩,hg,e3,cb,e4,hcb⟩:=zsb vy hj
    obtain⟨pa,vb⟩:=p;cases(show k=k2 from e3);cases(show vb=.ref cb from e4);have hfj:fs[j]?=some ⟨(TK prog w).hash k,.ref pa,.ref cb⟩:=by rw [entry_at hy j,hj]; rfl
    refine qa (wpAny_dictEntries hob hdb ?_);rw [hfj];dsimp only;refine wpAny_holding ((TK prog w).eqBool hu hcv hcb ?_);have va:=zle ng hg
    by_cases q:kv=kb
    ·rw [decide_eq_true q]
     simp only [Bool.not_true,Bool.false_eq_true,if_false];refine qa (wpAny_dictEpoch hoa hda ?_);rw [if_neg (by simp)];refine qb ⟨rfl,rfl,x+1,hlt,?_,fun j p hj hp=>?_⟩
     ·rw [hr2,show f.length - (x+1)=n by omega]
     ·rcases Nat.lt_or_ge j x with z | z
      ·exact hok j p z hp
      ·cases(show j=x by omega)
       rw [hf]at hp;cases hp;rw [q];exact va
    ·rw [decide_eq_false q]
     simp only [Bool.not_false,if_true];refine qb ?_;refine qb (bad ?_);rw [va];intro z;cases z;exact q rfl
  ·rintro r s' ⟨rfl,rfl,i,hi,hr,hok⟩
   have hi2:f.length<=i:=by
    rcases Nat.lt_or_ge i f.length with z | z
    ·obtain⟨n,hn⟩:∃ n,f.length - i=n+1:=⟨f.length - i - 1,by omega⟩
     rw [hn,List.range'_succ]at hr;cases hr
    ·exact z
   have:eqF f g=true:=by
    unfold eqF;rw [hlen,Bool.true_and];refine List.all_eq_true.mpr fun p hp=>?_;obtain⟨j,hj⟩:=List.mem_iff_getElem?.mp hp;exact decide_eq_true (hok j p (qi (qk.mp hj).1 hi2) hj)
   rw [this]at h;exact qb h
 ·rw [if_pos (by simpa using hsz)]
  have hbf:eqF f g=false:=by
   unfold eqF;rw [show(f.length==g.length)=false by rw [<-sx,<-sy]; simpa using hsz,Bool.false_and]
  rw [hbf]at h;exact qa (wpAny_rule (qb h))
theorem zzY{op:CmpOp}{wanted:Bool}{nm:String}{a b:Addr}{xs ys:List (List Key×Addr×Value)}{f g:KKs}{Q:Value->Shared->Prop}(hop:(op=.Eq/\wanted=true)\/(op=.NotEq/\wanted=false))(ha:(a==sysModules)=false)(hb:(b==sysModules)=false)
  (da:s.heap.DictOfH (TK prog w) a xs) (db:s.heap.DictOfH (TK prog w) b ys) (vx:VVs prog w s.heap xs f) (vy:VVs prog w s.heap ys g) (hu:A.units+8 < cLine) (h:Q (.bool (eqF f g==wanted)) s) :
  wpAny (model prog w) A (compareOp op (.ref a) (.ref b)) Q E s:=by
 obtain⟨oa,es,ep,hoa,ca,hda,hx,isx,nx⟩:=da;obtain⟨ob,fs,ep',hob,cb,hdb,hy,isy,ny⟩:=db;have ta:s.TypeIs (.ref a) "dict":=⟨_,hoa,ca.1⟩;have tb:s.TypeIs (.ref b) "dict":=⟨_,hob,cb.1⟩;rcases hop with ⟨rfl,rfl⟩ | ⟨rfl,rfl⟩
 ·refine wpAny_richCompare_same_room (op:=.Eq) ta tb PySem.F.slot_dict_eq (wpAny_call_entry PySem.F.slot_dict_eq ta PySem.F.entry_dict_eq ?_ (PySem.F.args_dict_eq_2 _ _)) (Nat.lt_of_le_of_lt (Nat.le_add_right _ 8) hu)
  show wpAny _ _ (Builtin.Dict.dictSlotArgs "__eq__" ⟨[.ref a,.ref b],[]⟩ >>= _) _ _ s;refine qa ?_;unfold Builtin.Dict.dictSlotArgs;refine qa (wpAny_notOrdered_dict ta ?_);show wpAny _ _ (pure (Value.ref a,Value.ref b)) _ _ s;refine qb ?_;refine qa (wpAny_isInstance (T := "dict") tb PySem.F.sub_dict_dict ?_);simp only [Bool.not_true,Bool.false_eq_true,if_false];refine qa (qb (qa (qb ?_)));refine qa (zlf (show _ < cLine from by dsimp only [Around.in1]; omega) ha hb hoa hda hob hdb hx hy isx isy ny vx vy ?_);refine qb ⟨_,rfl,?_,?_⟩
  ·exact fun x=>nomatch x
  ·simpa using h
 ·refine wpAny_richCompare_same_room (op:=.NotEq) ta tb PySem.F.slot_dict_ne (wpAny_call_entry PySem.F.slot_dict_ne ta PySem.F.entry_dict_ne ?_ (PySem.F.args_dict_ne_2 _ _)) (Nat.lt_of_le_of_lt (Nat.le_add_right _ 8) hu)
  show wpAny _ _ (Builtin.Dict.dictSlotArgs "__ne__" ⟨[.ref a,.ref b],[]⟩ >>= _) _ _ s;refine qa ?_;unfold Builtin.Dict.dictSlotArgs;refine qa (wpAny_notOrdered_dict ta ?_);show wpAny _ _ (pure (Value.ref a,Value.ref b)) _ _ s;refine qb ?_;refine qa (wpAny_isInstance (T := "dict") tb PySem.F.sub_dict_dict ?_);simp only [Bool.not_true,Bool.false_eq_true,if_false];refine qa (qb (qa (qb ?_)));refine qa (zlf (show _ < cLine from by dsimp only [Around.in1]; omega) ha hb hoa hda hob hdb hx hy isx isy ny vx vy ?_);refine qb ⟨_,rfl,?_,?_⟩
  ·exact fun x=>nomatch x
  ·simpa using h
end
def TVs(K:qc)(H:Hp)(kvs:List (List Key×V))(f:KKs):Prop:=Paired (fun p q=>p.1=q.1/\∃ c,p.2=.ref c/\TpK K H c (q.2.map kV)) kvs f
theorem zmF{P:Program}{w:World}{K:qc}{H:Hp}{h:Heap}(kin:K.In h)(ok:HOk P w K H h):∀ {kvs:List (List Key×V)} {xs:List (List Key×Addr×Value)} {f:KKs},KT K H kvs xs->TVs K H kvs f->VVs P w h xs f
 | _,_,_,.nil,.nil=>.nil
 | _,_,_,.cons hq t,.cons hp u=>by
  obtain⟨e1,_,rv⟩:=hq;obtain⟨e2,c,e3,tp⟩:=hp;rw [e3]at rv;exact .cons ⟨e1.symm.trans e2,c,rv,zdt kin ok tp⟩ (zmF kin ok t u)
def zv2(K:qc)(wanted:Bool):R2:=fun x y H Q=>∃ a b kvs lvs f g,x=.ref a/\y=.ref b/\Rd H a (.dT kvs)/\Rd H b (.dT lvs)/\TVs K H kvs f/\TVs K H lvs g/\Q (.bl (eqF f g==wanted)) H
theorem zcy{X:Cx}{k:Nat}{op:CmpOp}{wanted:Bool}(hop:(op=.Eq/\wanted=true)\/(op=.NotEq/\wanted=false))(K:qc)(hK:X.K=K)(hr:Room k X.A):OpR X (compareOp op) (zv2 K wanted):=by
 subst hK;intro pins s σ H x y v u Q I rx ry h;obtain⟨a,b,kvs,lvs,f,g,rfl,rfl,ea,eb,tf,tg,q⟩:=h;cases rx;cases ry;obtain⟨_,ya,xs,ra,da⟩:=zgc I.kIn I.hok ea;obtain⟨_,yb,ys,rb,db⟩:=zgc I.kIn I.hok eb;exact zzY (nm := "") hop ya yb da db (zmF I.kIn I.hok ra tf) (zmF I.kIn I.hok rb tg) (by have:=hr.units; omega) ⟨.bl _,H,I,rfl,q⟩
section
variable {K:qc}
def dOf:U->Option (List (List Key×D))
 | .t kvs=>some kvs
 | .d (.dict ds)=>if noX ds=true then zhm ds else none
 | _=>none
def kks:List (List Key×D)->Option KKs
 | []=>some []
 | (k,d)::r=>(zae d).bind fun v=>(kks r).bind fun r=>some ((k,v)::r)
def zdK(wanted:Bool)(u v:U):Option U:=(dOf u).bind fun a=>(dOf v).bind fun b=>(kks a).bind fun f=>(kks b).bind fun g=>some (.d (.bool (eqF f g==wanted)))
theorem zjS{H:Hp}{v:V}{u:U}{kvs:List (List Key×D)}(h:Rp K H v u)(e:dOf u=some kvs):∃ a ws,v=.ref a/\Rd H a (.dT ws)/\KVd K H ws kvs:=by
 unfold dOf at e;split at e
 ·cases e
  obtain⟨a,ws,rfl,h1,h2⟩:=h;exact⟨a,ws,rfl,.inl h1,h2⟩
 ·split at e
  ·rename_i nx
   obtain⟨a,o,ws,rfl,h1,h2⟩:=DF.dct_inv h nx;exact⟨a,ws,rfl,.inr ⟨o,h1⟩,zhn h2 e⟩
  ·cases e
 ·cases e
theorem zmG{H:Hp}:∀ {ws:List (List Key×V)} {kvs:List (List Key×D)} {f:KKs},KVd K H ws kvs->kks kvs=some f->TVs K H ws f
 | _,_,f,.nil,e=>by cases e; exact .nil
 | _,(k,d)::r,f,.cons hq t,e=>by
  obtain⟨v,ev,e⟩:=zb (show(zae d).bind _=some f from e);obtain⟨r',er,e⟩:=zb e;cases e;obtain⟨b,e2,tb⟩:=zdj hq.2 ev;exact .cons ⟨hq.1,b,e2,tb⟩ (zmG t er)
theorem zcz{wanted:Bool}:VO K (zv2 K wanted) (zdK wanted):=by
 intro x y a b u H Q ha hb e q;obtain⟨k1,e1,e⟩:=zb e;obtain⟨k2,e2,e⟩:=zb e;obtain⟨f,e3,e⟩:=zb e;obtain⟨g,e4,e⟩:=zb e;cases e;obtain⟨c,ws,rfl,h1,h2⟩:=zjS ha e1;obtain⟨c',ws',rfl,h3,h4⟩:=zjS hb e2;exact⟨c,c',ws,ws',f,g,rfl,rfl,h1,h3,zmG h2 e3,zmG h4 e4,q _ _ (fun _ _ z=>z) (.bl _) Nw.data⟩
end
end L2
namespace L2
open PySem PySem.Spec PyProof.Rows
section
variable {X:Cx}
theorem zus{prog:Program}{w:World}{A:Around}{E:Value->Shared->Prop}{s:Shared}{d:Addr}{es:Array DictEntry}{ep:Nat}{Q:Value->Shared->Prop}(hd:(d==sysModules)=false)(r:zcO s.heap d es ep)(hfit:(es.size:Int) < 2^63)
  (h:Q (.int es.size (s.toks+1)) { s with toks:=s.toks+1+1 }):wpAny (model prog w) A (call (.builtin "len") [.ref d]) Q E s:=by
 have hT:=r.typeIs;obtain⟨o,e,_,dat⟩:=r;refine Calls.call_function_entry kind_len plain_len entry_len (args_len1 _) ?_;unfold Builtin.«len»;refine qa (m:=oneArg "len" _) (qb ?_);refine qa (m:=callSpecial? (.ref d) (Str.ofString "__len__")) (wpAny_callSpecial?_slot (name:=Str.ofString "__len__") hT F.slot_dict_len
  (wpAny_call_entry F.slot_dict_len hT F.entry_dict_len ?_ (F.args_dict_len_1 _)))
 show wpAny _ _ (dictSize d >>= _) _ _ s;unfold dictSize;refine qa (qa (wpAny_dictEntries e dat (qb ?_)));show wpAny _ _ (Builtin.Dict.pendingCount d >>= _) _ _ s;refine qa (wpAny_pendingCount_other hd ?_);refine wpAny_ret_mkInt ?_;show wpAny _ _ _ _ _ { s with toks:=s.toks+1 };refine qa (wpAny_holding (qb ?_));refine qa (wpAny_letGo ?_);show wpAny _ _ (if((es.size+0:Nat):Int) < 0 then _ else _) _ _ _;rw [if_neg (by omega)];show wpAny _ _ (if((es.size+0:Nat):Int)>=2^63 then _ else _) _ _ _;rw [if_neg (by rw [Nat.add_zero]; omega)];exact qa (wpAny_mkInt (qb ⟨_,rfl,h⟩))
def zv3:List V->Hp->VK->Prop:=fun xs H Q=>∃ a kvs,xs=[V.ref a]/\Rd H a (.dT kvs)/\Q (.int kvs.length) H
theorem zpj:zaN X (.builtin "len") zv3:=by
 intro pins s σ H xs us Q I r h;obtain⟨a,kvs,rfl,ha,q⟩:=h;obtain⟨u,rfl,ru⟩:=zcd r;cases ru;obtain⟨z,y,xs,rr,o,es,ep,h1,h2,h3,h4,h5⟩:=(show zX X.prog X.w X.K H s.heap a (.dT kvs) from zkg I.hok ha);have hl:es.size=kvs.length:=by
  have:=congrArg List.length h4;rw [Array.length_toList,List.length_map,<-zaC rr]at this;exact this
 have hs:sizeLine=16777216:=sizeLine_eq;refine zus y ⟨o,h1,h2,h3⟩ (by omega) ⟨.int kvs.length,H,I.tok _,⟨_,by rw [hl]⟩,q⟩
end
section
variable {K:qc}
def zod(u:U):Option U:=(dOf u).map fun kvs=>.d (.int kvs.length)
theorem zut:VC K zv3 (f1 zod):=zg7 fun v a u H Q h e q=>by
 obtain⟨kvs,ek,rfl⟩:=qq.mp e;obtain⟨b,ws,rfl,h1,h2⟩:=zjS h ek;refine⟨b,ws,rfl,h1,?_⟩;rw [zhA h2];exact q _ _ (fun _ _ z=>z) (.int _) Nw.data
def zpk:U->U->Option U
 | .l xs,.d (.int k)=>if -1000000 < k/\k < 1000000/\xs.length * k.toNat<=sizeLine then some (.l (List.replicate k.toNat xs).flatten)else none
 | _,_=>none
theorem zyc:VO K zyQ zpk:=by
 intro x y a b u H Q ha hb e q;unfold zpk at e;split at e
 ·split at e
  ·rename_i xs k hz
   cases e;obtain⟨p,us,rfl,h1,h2⟩:=ha;cases DF.int_inv hb;refine⟨p,k,us,rfl,rfl,h1,by omega,by omega,by rw [h2.len]; exact hz.2.2,fun r hr=>?_⟩;have s:=zF hr (.lst (List.replicate k.toNat us).flatten);exact q _ _ s ⟨r,_,rfl,zt,(zjK h2 _).kp s.kp⟩ fun _=>⟨r,rfl,hr⟩
  ·cases e
 ·cases e
end
def zzZ(K:qc)(a b:Addr):It :=
 ⟨fun i H=>∃ xs ys x y,SqL K H a xs/\SqL K H b ys/\xs[i]?=some x/\ys[i]?=some y,fun i H x H'=>∃ T,H T=none/\x=.ref T/\∀ xs ys v u,SqL K H a xs->SqL K H b ys->xs[i]?=some v->ys[i]?=some u->H'=upd H T (.tup [v,u]),fun i H=>∃ xs ys,SqL K H a xs/\SqL K H b ys/\xs.length=i⟩
abbrev zz0(z TI TO i1 i2 t1 t2:Addr)(i:Nat)(h:Heap):Prop:=IsZip h z TI TO .none/\IsPair h TI (.ref i1) (.ref i2)/\(∃ a b,IsPair h TO a b)/\h.IsListIter i1 t1 i/\h.IsListIter i2 t2 i
theorem zpl{P:Program}{w:World}{K:qc}{elts:List Expr}{k:Nat}{pos:Pos}(z TI TO i1 i2 t1 t2:Addr)(ap:ZipApart z TI TO i1 i2 t1 t2) :
  Turn P w K (.Tuple elts k pos) (zzZ K t1 t2) [z,TI,TO,i1,i2] z (zz0 z TI TO i1 i2 t1 t2) where
 mem:=by simp
 obj:=fun i h st c hc=>by
  obtain⟨hz,hI,⟨a,b,hO⟩,⟨o1,e1,_,d1⟩,⟨o2,e2,_,d2⟩⟩:=st;simp only [qu,List.not_mem_nil,or_false]at hc;rcases hc with rfl | rfl | rfl | rfl | rfl
  ·exact⟨_,hz,fun v q=>by
    have q':Data.fields _=Data.cell v:=q;cases q'⟩
  ·exact⟨_,hI,fun v q=>by
    have q':Data.seq _ _=Data.cell v:=q;cases q'⟩
  ·exact⟨_,hO,fun v q=>by
    have q':Data.seq _ _=Data.cell v:=q;cases q'⟩
  ·exact⟨o1,e1,fun v q=>by rw [d1]at q; cases q⟩
  ·exact⟨o2,e2,fun v q=>by rw [d2]at q; cases q⟩
 keep:=fun i h h' st kk=>by
  obtain⟨hz,hI,⟨a,b,hO⟩,⟨o1,e1,r1⟩,⟨o2,e2,r2⟩⟩:=st;exact⟨kk z (by simp) _ hz,kk TI (by simp) _ hI,⟨a,b,kk TO (by simp) _ hO⟩,⟨o1,kk i1 (by simp) _ e1,r1⟩,⟨o2,kk i2 (by simp) _ e2,r2⟩⟩
 item:=by
  intro X hP hw hK hc i pins s σ H E I hf st hg;subst hP hw hK;obtain⟨xs,ys,x,y,hq1,hq2,hx,hy⟩:=hg;obtain⟨hz,hI,⟨a,b,hO⟩,h1,h2⟩:=st;obtain⟨its1,rv1,ht1,_⟩:=I.list hq1;obtain⟨its2,rv2,ht2,_⟩:=I.list hq2;obtain⟨u1,eu1,r1⟩:=rv1.get hx;obtain⟨u2,eu2,r2⟩:=rv2.get hy;refine wpAny_pyNext_zip_item ap hz hI hO h1 h2 ht1.isList ht2.isList (by simpa using eu1) (by simpa using eu2) fun h' z' O' k1 k2 isT _ kk=>?_;refine⟨_,rfl,wpAny_letOwnedTupleGo_zip (s:={ s with heap:=h' }) z' fun h2' z2 sb=>?_⟩;have nm:s.heap.objs.size∉[z,TI,TO,i1,i2]:=fun hm=>by
   have:s.heap.objs.size < s.heap.objs.size:=by
    simp only [qu,List.not_mem_nil,or_false]at hm;obtain⟨_,e1,_⟩:=h1;obtain⟨_,e2,_⟩:=h2;rcases hm with h | h | h | h | h
    ·exact qi (h▸qh hz) (qe _)
    ·exact qi (h▸qh hI) (qe _)
    ·exact qi (h▸qh hO) (qe _)
    ·exact qi (h▸qh e1) (qe _)
    ·exact qi (h▸qh e2) (qe _)
   exact Nat.lt_irrefl _ this
  have nz:s.heap.objs.size≠z:=fun h=>nm (by rw [h]; simp);have I2:Inv X pins σ H { s with heap:=h2' }:=I.turnedW (t':=s.toks) (wr:=[z,TI,TO,i1,i2]) (fun c o hc q=>by
   simp only [qu,List.not_mem_nil,or_false,not_or]at hc;exact(sb.2 c hc.1).trans (kk c o hc.1 hc.2.2.1 hc.2.2.2.1 hc.2.2.2.2 q)) hf
  have fT:zcc X pins H s.heap.objs.size:=I.fpOk (qe _) (I.hok.fresh (qe _));have I3:Inv X pins σ (upd H s.heap.objs.size (.tup [x,y])) { s with heap:=h2' }:=I2.track fT I.sz ⟨by show 2<=sizeLine; decide,[u1,u2],.cons r1 (.cons r2 .nil),_,(sb.2 _ nz).trans isT,rfl,⟨_,rfl⟩,.inl rfl⟩;refine⟨.ref s.heap.objs.size,_,I3,rfl,⟨_,I.hok.fresh (qe _),rfl,fun xs' ys' v u hq1' hq2' hv hu=>?_⟩,⟨z2,(sb.2 _ ap.TIz).trans (kk _ _ ap.TIz ap.TITO ap.TIi1 ap.TIi2 hI),⟨_,_,(sb.2 _ ap.TOz).trans O'⟩,?_,?_⟩,fun c hc=>?_⟩
  ·cases I.list_inj hq1 hq1'
   cases I.list_inj hq2 hq2';rw [hx]at hv;rw [hy]at hu;cases hv;cases hu;rfl
  ·obtain⟨o,e,r⟩:=k1
   exact⟨o,(sb.2 _ ap.i1z).trans e,r⟩
  ·obtain⟨o,e,r⟩:=k2
   exact⟨o,(sb.2 _ ap.i2z).trans e,r⟩
  ·have ne:c≠s.heap.objs.size:=fun h=>nm (h▸hc)
   rw [zu ne];exact(hf c hc).1
 done:=by
  intro X hP hw hK hc i pins s σ H E I hf st hg;subst hP hw hK;obtain⟨xs,ys,hq1,hq2,hl⟩:=hg;obtain⟨hz,hI,⟨a,b,hO⟩,h1,h2⟩:=st;obtain⟨its1,rv1,ht1,_⟩:=I.list hq1;obtain⟨its2,rv2,ht2,_⟩:=I.list hq2;refine wpAny_pyNext_zip_end (I.ok.hd hc) ap hz hI hO h1 h2 ht1.isList ht2.isList (.inl<|by
   have:=rv1.length;simp;omega) fun h' kk=>⟨rfl,I.turnedW (t':=s.toks) (wr:=[z,TI,TO,i1,i2]) (fun c o hc q=>by
   simp only [qu,List.not_mem_nil,or_false,not_or]at hc;exact kk c o hc.1 hc.2.2.1 hc.2.2.2.1 hc.2.2.2.2 q) hf⟩
 self:=fun _ _ _ _ _ st h=>wpAny_pyIter_zip st.1 h
section
variable {X:Cx} {elts:List Expr} {k:Nat} {tpos:Pos}
def zv4(K:qc)(ta:TA):TI:=fun σ H R=>ta σ H fun vs H1=>∃ a b,vs=[.ref a,.ref b]/\(∃ xs,SqL K H1 a xs)/\(∃ ys,SqL K H1 b ys)/\R (zzZ K a b) H1
theorem zuu{a b:Expr}{ta:TA}{p pos:Pos}{K:qc}(ha:Wr (PA X [a,b] ta))(hK:X.K=K:=by rfl)(hg:Gl X "zip":=by exact rfl)(hm:X.mg "zip"=none:=by exact zil ‹Bl _ _› (by decide))(hs:zR a=true:=by rfl)(hs2:[b].all zR=true:=by rfl) :
  Wr (PI X (.Tuple elts k tpos) (.Call (.Name "zip" p) [a,b] [] pos) (zv4 K ta)):=by
 subst hK;refine⟨?_⟩;intro pins s σ H R I h;refine Call_ (zfP I hg hm boot_zip (PyProof.Rows.callWith_type1 (thn (ha.run pos pins s σ H _ I h) fun us s1 ⟨vs,H1,I1,r1,q1⟩=>?_) (zcf hs) (zbN hs2)));obtain⟨t1,t2,e,⟨xs,hq1⟩,⟨ys,hq2⟩,q⟩:=q1;subst e;obtain⟨u1,u2,rfl,ru1,ru2⟩:=zpK r1;cases ru1;cases ru2;obtain⟨its1,rv1,ht1,hz1⟩:=I1.list hq1;obtain⟨its2,rv2,ht2,hz2⟩:=I1.list hq2;have tl1:t1 < s1.heap.objs.size:=by
  exact ht1.lt
 have tl2:t2 < s1.heap.objs.size:=by
  exact ht2.lt
 have lt_ne:∀ {x y:Nat},x < y->x≠y:=fun h=>qj h;refine call_zip_2 ht1.isList ht2.isList fun h' c1 c2 c3 c4 c5 _ kk=>?_;have hst:zz0 (s1.heap.objs.size+4) (s1.heap.objs.size+2) (s1.heap.objs.size+3) s1.heap.objs.size (s1.heap.objs.size+1) t1 t2 0 h':=⟨c1,c2,⟨_,_,c3⟩,c4,c5⟩;have I2:Inv X pins σ H1 { s1 with heap:=h' }:=I1.kept (t':=s1.toks) kk;refine wpAny_pyIter_zip hst.1 ?_;have f:∀ j:Nat,zcc X pins H1 (s1.heap.objs.size+j):=fun j=>I1.fpOk (Nat.le_add_right _ _) (I1.hok.fresh (Nat.le_add_right _ _));have ap:ZipApart (s1.heap.objs.size+4) (s1.heap.objs.size+2) (s1.heap.objs.size+3) s1.heap.objs.size (s1.heap.objs.size+1) t1 t2:=by
  generalize s1.heap.objs.size=n at tl1 tl2;constructor<;>(simp only [Addr]at *; omega)
 refine⟨_,_,_,_,H1,rfl,I2,zpl _ _ _ _ _ t1 t2 ap,hst,fun c hc=>?_,q⟩;simp only [qu,List.not_mem_nil,or_false]at hc;rcases hc with rfl | rfl | rfl | rfl | rfl
 ·exact f 4
 ·exact f 2
 ·exact f 3
 ·exact f 0
 ·exact f 1
end
def zoe:List U->Option (List D)
 | [.d (.list xs),.d (.list ys)]=>if xs.length=ys.length then some (zjy xs ys)else none
 | _=>none
def zse(ma:MA):MI:=fun ρ=>(ma ρ).bind fun p=>(zax p.2 p.1).bind fun us=>(zoe us).bind fun ds=>some (ds,p.2)
theorem zuv{K:qc}{ta:TA}{ma:MA}(h:VAs K ta ma):VI K (zv4 K ta) (zse ma):=by
 intro ρ σ H ds ρ' R r e q;obtain⟨⟨as,ρ1⟩,e1,e⟩:=zb e;obtain⟨us,eu,e⟩:=zb e;obtain⟨zs,ez,e⟩:=zb e;cases e;refine h ρ σ H as ρ1 _ r e1 fun vs H1 g1 s1=>?_;have rp:=s1.rpl r g1 eu;unfold zoe at ez;split at ez
 ·split at ez
  rotate_left
  ·cases ez
  rename_i xs ys hl;cases ez;cases rp with
  | cons p1 t =>
   cases t with
   | cons p2 t =>
    cases t;obtain⟨a,vx,rfl,h1,d1⟩:=DF.lst_inv p1;obtain⟨b,vy,rfl,h2,d2⟩:=DF.lst_inv p2;refine⟨a,b,rfl,⟨vx,(PL.sq h1)⟩,⟨vy,(PL.sq h2)⟩,q _ _ g1 fun H2 kk i=>⟨fun d ed=>?_,fun ei=>?_⟩⟩
    ·obtain⟨x,y,ex,ey,rfl⟩:=zjz ed
     obtain⟨v,ev,dv⟩:=(d1.kp kk).get ex;obtain⟨w,ew,dw⟩:=(d2.kp kk).get ey;refine⟨⟨vx,vy,v,w,(PL.kp kk h1).sq,(PL.kp kk h2).sq,ev,ew⟩,fun z H' y=>?_⟩;obtain⟨T,nT,rfl,y⟩:=y;cases y vx vy v w ((PL.kp kk h1).sq) ((PL.kp kk h2).sq) ev ew;have sm:=zF nT (.tup [v,w]);exact⟨sm,.tup (.inl zt) (.cons (dv.kp sm.kp) (.cons (dw.kp sm.kp) .nil))⟩
    ·exact⟨vx,vy,(PL.kp kk h1).sq,(PL.kp kk h2).sq,by rw [zhl _ _ hl]at ei; rw [d1.len]; exact ei.symm⟩
 ·cases ez
section
variable {X:Cx} {K:qc}
def zz1(K:qc):R2:=fun x y H Q=>ztn K x y H Q\/zto K x y H Q
theorem zv5{K:qc}(hK:X.K=K:=by rfl):IxR X (zz1 K):=fun value slice pins s σ H x y v u Q I rx ry h hs=>h.elim (fun h=>zb0 hK value slice pins s σ H x y v u Q I rx ry h hs) fun h=>zaB hK value slice pins s σ H x y v u Q I rx ry h hs
def zpm(u v:U):Option U:=match zcQ u v with
 | some r=>some r
 | none=>zaO u v
theorem zsf:VO K (zz1 K) zpm:=by
 intro x y a b u H Q ha hb e q;unfold zpm at e;split at e
 ·rename_i r er
  cases e;exact .inl (za0 x y a b u H Q ha hb er q)
 ·exact .inr (zac x y a b u H Q ha hb e q)
end
section
variable {prog:Program} {w:World} {A:Around} {E:Value->Shared->Prop} {s:Shared} {d:Addr} {ep:Nat} {es:Array DictEntry}
abbrev zyd(es:Array DictEntry)(i:Nat)(v:Value):Prop:=∃ x,es[i]?=some x/\v=x.key
theorem zsg(hh:A.handled=none)(it d:Addr)(ne:d≠it)(es:Array DictEntry)(ep:Nat):WalksS prog w A it [it,d] [it] (fun a b=>b=a) es.size (zyd es) (fun i s=>s.heap.IsKeyIter it d i es.size ep/\zcO s.heap d es ep) where
 sub:=fun b hb=>by rw [qp.mp hb]; exact qo
 grefl:=fun _=>rfl
 gtrans:=fun _ _ _ a b=>b.trans a
 frame:=fun i s h' tk st _ kk=>by
  obtain⟨k,o,e,r⟩:=st;exact⟨k.at fun o e=>kk it (by simp) o e,o,kk d (by simp) o e,r⟩
 item:=fun i s Q E hi st hQ=>by
  obtain⟨k,r⟩:=st;obtain⟨o,e,r'⟩:=id r;refine zkv k r (x:=es[i]) (Array.getElem?_eq_getElem hi) fun h' k' sb=>hQ _ _ ⟨_,Array.getElem?_eq_getElem hi,rfl⟩ ⟨k',o,(sb.2 d ne).trans e,r'⟩ ⟨fun b o hb e=>(sb.2 b fun z=>hb (by rw [z]; exact qp.mpr rfl)).trans e,rfl,rfl,rfl,qe _⟩
 done:=fun s Q E st hQ=>zna hh st.1 st.2 (qe _) fun h' eb=>hQ _ ⟨fun b o hb e=>eb b o (fun z=>hb (by rw [z]; exact qp.mpr rfl)) e,rfl,rfl,rfl,qe _⟩
 self:=fun i s Q E st h=>wpAny_pyIter_keyiter st.1 h
theorem zpn{Q:Bool->Shared->Prop}(r:zcO s.heap d es ep)(h:Q false s):wpAny (model prog w) A (Builtin.List.listLengthHint (.ref d)) Q E s:=by
 have hT:=r.typeIs;unfold Builtin.List.listLengthHint;refine qa (wpAny_specialOf hT F.slot_dict_len.lookup ?_);generalize hid:("dict.__len__":String)=id0
 wp_delta
 rw [show splitId id0=some ("dict", "__len__") from by subst hid; decide +kernel];subst hid;refine qa (wpAny_isInstance (T := "dict") (b:=true) hT (by rw [isSubtype_type]; kernel_rfl) ?_);refine wpAny_ite_split (fun hab=>absurd hab (by decide)) (fun _=>?_);refine wpAny_ite_split (fun _=>?_) (fun hab=>absurd (by decide +kernel) hab);exact qa (wpAny_typeOf hT (qb h))
theorem zlg{R:Result->Shared->Prop}(hh:A.handled=none)(hd:(d==sysModules)=false)(r:zcO s.heap d es ep)(hlen:es.size<=sizeLine)(S:Addr)(res:Value)(c₀:Nat)(hS:s.heap.get? S=some { cls:=.type "list",data:=.seq #[] c₀ })
  (hR:∀ h' tk acc' c',(∀ b o,b≠S->s.heap.get? b=some o->h'.get? b=some o)->h'.get? S=some { cls:=.type "list",dict:=none,data:=.seq acc' c',slots:=#[] }->ItemsOf (zyd es) acc' es.size->R (.ok (.ret res)) { s with heap:=h',toks:=tk }) :
  wpAny (model prog w) A.in1 (Builtin.List.listExtendWith (.ref S) (.ref d) res)
   (fun fin s'=>match fin with | .done f=>R (.ok f) s' | .again c'=>c'.quiet=true/\codeAny (model prog w) A c' R s') (fun e s'=>R (.error e) s') s:=by
 have hT:=r.typeIs;obtain⟨o,eo,xo,dat⟩:=id r;have hSd:S≠d:=fun e=>by
  rw [e,eo]at hS;cases qw hS;cases dat
 have hdlt:d < s.heap.objs.size:=qh eo;have hSlt:S < s.heap.objs.size:=qh hS;have hSI:S≠s.heap.objs.size:=qj hSlt;have hSf:S∉[s.heap.objs.size,d]:=fun hm=>by
  rcases qu.mp hm with e | e
  ·exact hSI e
  ·exact hSd (qp.mp e)
 have W:=zsg (prog:=prog) (w:=w) (A:=A.in1) hh s.heap.objs.size d (qj hdlt) es ep;have key:∀ (h:Heap) (c₁ tk:Nat),h.IsKeyIter s.heap.objs.size d 0 es.size ep->(∀ b o,b≠S->s.heap.get? b=some o->h.get? b=some o) ->
   h.get? S=some { cls:=.type "list",data:=.seq #[] c₁ }->codeAny (model prog w) A (.builtin "list.extend.loop" ⟨[.ref S,.ref s.heap.objs.size,res],[]⟩) R { s with heap:=h,toks:=tk }:=by
  intro h c₁ tk hit hk hS₁;refine codeAny_extend_loopS W hlen S hSf res es.size 0 _ #[] c₁ rfl (Nat.zero_le _) ⟨hit,o,hk d o (Ne.symm hSd) eo,xo,dat⟩ hS₁ (ItemsOf.nil _) fun s' acc' c' hm hS' hacc=>?_;rw [Moved.eq_with hm];refine hR s'.heap s'.toks acc' c' (fun b o hb e=>hm.heap b o (fun hmem=>?_) (hk b o hb e)) hS' hacc;rcases qu.mp hmem with e' | hmem
  ·exact hb e'
  ·exact absurd (qh e) (by rw [qp.mp hmem]; exact Nat.lt_irrefl _)
 unfold Builtin.List.listExtendWith;refine qa (wpAny_typeOf hT ?_);have h1:Builtin.List.listSameRef (.ref S) (.ref d)=false:=by simp [Builtin.List.listSameRef,hSd]
 have h2:(Value.type "dict"==Value.type "list")=false:=by decide
 have h3:(Value.type "dict"==Value.type "tuple")=false:=by decide
 simp only [h1,h2,h3,Bool.or_false,Bool.false_eq_true,if_false];refine qa (zku hd r fun h1 hit kk=>?_);refine qa (wpAny_holding (zpn (s:={ s with heap:=h1 }) ⟨o,kk _ _ eo,xo,dat⟩ ?_));have hS₁:=kk _ _ hS;refine wpAny_ite_split (fun _=>?_) (fun _=>qb ⟨plainId_quiet F.plain_extend_loop _,key _ c₀ s.toks hit (fun b o _ e=>kk _ _ e) hS₁⟩);refine qa (wpAny_rule ?_);refine qa ?_;show wpAny _ _ (updateSeq S (·.push .none) >>= fun _=>updateSeq S (·.pop)) _ _ _;refine qa (wpAny_updateSeq hS₁ rfl ?_);have hS₂:=Heap.get?_update_self (Obj.mapSeq (·.push Value.none)) hS₁ rfl;refine wpAny_updateSeq (hz:=by seq_fits) hS₂ rfl ?_;have hS₃:=Heap.get?_update_self (Obj.mapSeq (·.pop)) hS₂ rfl;refine qb ⟨plainId_quiet F.plain_extend_loop _,key _ _ s.toks ?_ (fun b o hb e=>?_) hS₃⟩
 ·exact hit.at fun o e=>(Heap.get?_update_other _ _ hSI).trans ((Heap.get?_update_other _ _ hSI).trans e)
 ·exact(Heap.get?_update_other _ _ (Ne.symm hb)).trans ((Heap.get?_update_other _ _ (Ne.symm hb)).trans (kk _ _ e))
theorem zhB{Q:Value->Shared->Prop}(hh:A.handled=none)(hd:(d==sysModules)=false)(r:zcO s.heap d es ep)(hlen:es.size<=sizeLine)
  (hQ:∀ h' tk acc' c',(∀ b o,s.heap.get? b=some o->h'.get? b=some o)->h'.get? s.heap.objs.size=some { cls:=.type "list",dict:=none,data:=.seq acc' c',slots:=#[] }->ItemsOf (zyd es) acc' es.size->Q (.ref s.heap.objs.size) { s with heap:=h',toks:=tk }) :
  wpAny (model prog w) A (call (.type "list") [.ref d]) Q E s:=by
 refine callType_codes (Q₁:=fun obj s₁=>obj=.ref s.heap.objs.size/\s₁={ s with heap:=s.heap.push { cls:=.type "list",data:=.seq #[] } }) F.called_list (F.typeCall_list_1 _) F.entry_list_init
  (code_list_new _ ⟨rfl,rfl⟩) fun obj s₁ h₁=>?_
 obtain⟨rfl,rfl⟩:=h₁;obtain⟨o,eo,xo,dat⟩:=id r;have hS:(s.heap.push { cls:=.type "list",data:=.seq #[] }).get? s.heap.objs.size=some { cls:=.type "list",data:=.seq #[] }:=qg _ rfl;refine⟨⟨_,hS,rfl⟩,F.args_list_init_2 _ _,?_⟩;have hSd:s.heap.objs.size≠d:=Ne.symm (qj (qh eo));show wpAny _ _ (do let old <-Builtin.List.listItems (.ref s.heap.objs.size); Builtin.List.listUpdate (.ref s.heap.objs.size) (fun _=>#[]); letGo old.toList.reverse; Builtin.List.listExtendWith (.ref s.heap.objs.size) (.ref d) .none) _ _ _;refine qa ?_;unfold Builtin.List.listItems;refine qa (wpAny_seqItems (s:={ s with heap:=s.heap.push { cls:=.type "list",data:=.seq #[] } }) hS rfl (qb ?_));show wpAny _ _ (updateSeq s.heap.objs.size (fun _=>#[]) >>= fun _=>letGo (#[]:Array Value).toList.reverse >>= fun _=>Builtin.List.listExtendWith (.ref s.heap.objs.size) (.ref d) .none) _ _ _;refine qa (wpAny_updateSeq (s:={ s with heap:=s.heap.push { cls:=.type "list",data:=.seq #[] } }) hS rfl ?_);have hS₂:=Heap.get?_update_self (Obj.mapSeq (fun _=>(#[]:Array Value))) hS rfl;have oth:∀ b o,s.heap.get? b=some o->((s.heap.push { cls:=.type "list",data:=.seq #[] }).update s.heap.objs.size (Obj.mapSeq (fun _=>(#[]:Array Value)))).get? b=some o :=
  fun b o e=>(Heap.get?_update_other _ _ (Ne.symm (qj (qh e)))).trans (qd _ e)
 refine qa (wpAny_letGo ?_);refine zlg (A:=A.in1) (s:={ s with heap:=(s.heap.push { cls:=.type "list",data:=.seq #[] }).update s.heap.objs.size (Obj.mapSeq (fun _=>(#[]:Array Value))) }) hh hd ⟨o,oth _ _ eo,xo,dat⟩ hlen s.heap.objs.size .none _ hS₂ fun h' tk acc' c' hk hS' hacc=>?_;exact⟨rfl,hQ h' tk acc' c' (fun b o e=>hk b o (qj (qh e)) (oth b o e)) hS' hacc⟩
end
section
variable {X:Cx}
def zsh(K:qc):List V->Hp->VK->Prop:=fun xs H Q=>∃ a kvs,xs=[.ref a]/\Rd H a (.dT kvs)/\∀ ys l,Paired (fun p y=>∃ b,y=V.ref b/\TpK K H b (p.1.map kV)) kvs ys->H l=none->Q (.ref l) (upd H l (.lst ys))
theorem zof{K:qc}{P:Program}{w:World}{H:Hp}:∀ {kvs:List (List Key×V)} {xs:List (List Key×Addr×Value)},KT K H kvs xs->Paired (fun p y=>∃ b,y=V.ref b/\TpK K H b (p.1.map kV)) kvs (xs.map fun x=>V.ref x.2.1)
 | _,_,.nil=>.nil
 | _,_,.cons hq t=>.cons ⟨_,rfl,hq.2.1⟩ (zof (P:=P) (w:=w) t)
theorem zmH(K:qc)(hK:X.K=K)(hc:X.calm=true):zaN X (.type "list") (zsh K):=by
 subst hK;intro pins s σ H xs us Q I r h;obtain⟨a,kvs,rfl,ha,q⟩:=h;obtain⟨u,rfl,ru⟩:=zcd r;cases ru;obtain⟨z,y,xs,rr,o,es,ep,h1,h2,h3,h4,h5⟩:=(show zX X.prog X.w X.K H s.heap a (.dT kvs) from zkg I.hok ha);have hl:es.size=kvs.length:=by
  have:=congrArg List.length h4;rw [Array.length_toList,List.length_map,<-zaC rr]at this;exact this
 refine zhB (I.ok.hd hc) y ⟨o,h1,h2,h3⟩ (by omega) fun h' tk acc c' kk hS hacc=>?_;have ks:=zof (P:=X.prog) (w:=X.w) rr;have hn:H s.heap.objs.size=none:=I.hok.fresh (qe _);refine⟨.ref s.heap.objs.size,_,I.laid (t':=tk) (a:=s.heap.objs.size) (o:=.lst (xs.map fun x=>V.ref x.2.1)) kk (qe _) ⟨by rw [List.length_map,<-zaC rr]; exact z,acc.toList,c',?_,by simpa using hS⟩,rfl,q _ _ ks hn⟩;refine zeT (by
  have a1:=hacc.1;have a2:=zaC rr;have a3:acc.toList.length=acc.size:=Array.length_toList;rw [List.length_map];omega) fun j x w e1 e2=>?_
 rw [List.getElem?_map]at e1;obtain⟨y,ey,rfl⟩:=qq.mp e1;obtain⟨e,ee,rfl⟩:=hacc.2 j w (by simpa using e2);have:es[j]?=some (entryOfKey (tupleKind (zT X.prog X.w)) y):=by rw [entry_at h4 j,ey]; rfl
 rw [this]at ee;cases ee;rfl
end
section
variable {K:qc}
def zjT(u:U):Option U:=(dOf u).map fun kvs=>.l (kvs.map fun p=>kTD p.1)
theorem zsi:VC K (zsh K) (f1 zjT):=zg7 fun v a u H Q h e q=>by
 obtain⟨kvs,ek,rfl⟩:=qq.mp e;obtain⟨b,ws,rfl,h1,h2⟩:=zjS h ek;refine⟨b,ws,rfl,h1,fun ys l pr hl=>?_⟩;have sm:=zF hl (.lst ys);have ds:DFs K H ys (kvs.map fun p=>kTD p.1):=by
  clear h1 e ek sm q
  induction h2 generalizing ys with
  | nil=>cases pr; exact .nil
  | cons hq t ih =>
   cases pr with
   | cons hp u =>
    obtain⟨c,rfl,tp⟩:=hp;rw [hq.1]at tp;exact .cons (.tup tp zfm) (ih _ u)
 exact q _ _ sm ⟨l,_,rfl,zt,ds.kp sm.kp⟩ fun _=>⟨l,rfl,hl⟩
end
theorem zAA{α:Type}:∀ {us:List α},us.length=1->∃ a,us=[a]
 | [a],_=>⟨a,rfl⟩
theorem zAB{α:Type}:∀ {us:List α},us.length=2->∃ a b,us=[a,b]
 | [a,b],_=>⟨a,b,rfl⟩
theorem zAC{α:Type}:∀ {us:List α},us.length=3->∃ a b c,us=[a,b,c]
 | [a,b,c],_=>⟨a,b,c,rfl⟩
theorem zz2{α:Type}:∀ {us:List α},us.length=4->∃ a b c d,us=[a,b,c,d]
 | [a,b,c,d],_=>⟨a,b,c,d,rfl⟩
theorem zAD{α:Type}:∀ {us:List α},us.length=5->∃ a b c d e,us=[a,b,c,d,e]
 | [a,b,c,d,e],_=>⟨a,b,c,d,e,rfl⟩
structure Zs where
 P:Program
 w:World
 K:qc
 mg:Str->Option Value
 base:Heap
def FnK(K:qc)(x:Str)(st:Stmt):Prop:=∃ (f:Addr) (fd:FuncData),Fun K x x st f fd/\PySem.W.nsIn K mainGlobals x=some (some (.ref f))
theorem fnK{K:qc}{x:Str}{st:Stmt}{f:Addr}{oc:Value}{od an:Option Addr}{osl:Array (Option Value)}{kV doc pm cdv ct:Value}(a:PySem.W.nsIn K mainGlobals x=some (some (.ref f)))(l:K.lookup f=some ⟨oc,od,.func (PySem.W.fnOf x x (zdd st) (zbl st) (zS st) .none kV doc pm an cdv ct),osl⟩)
  (c:PySem.W.codeIn K cdv x=true) (k:PySem.W.keepIn K (.ref f)=true):FnK K x st:=⟨f,_,zp0 l c k,a⟩
def FnZ(Z:Zs)(x:Str)(st:Stmt):Prop:=∃ (f:Addr) (fd:FuncData),Fun Z.K x x st f fd/\Z.mg x=some (.ref f)
theorem FnK.z{P:Program}{w:World}{K:qc}{h base:Heap}{mg:Str->Option Value}{x:Str}{st:Stmt}(a:FnK K x st)(X:K.In h)(G:h.Ns mainGlobals mg):FnZ ⟨P,w,K,mg,base⟩ x st:=by
 obtain⟨f,fd,F,g⟩:=a;exact⟨f,fd,F,PySem.W.mg_of X G g⟩
abbrev Zs.C(Z:Zs)(x:Str)(k:Nat)(ps:List Str)(n:Nat)(F:FD):Prop:=Cal Z.P Z.w Z.K Z.mg Z.base x k ps (spV Z.K n F)
abbrev Zs.X(Z:Zs)(x:Str)(k:Nat)(ps:List Str)(n:Nat)(F:FX):Prop:=CalX Z.P Z.w Z.K Z.mg Z.base x k ps (spX Z.K n F)
section
variable {Z:Zs} {x:Str} {st:Stmt} {ps:List Str} {k n nn:Nat} {pn:List Nat} {m:MS} {f:Addr} {fd:FuncData}
abbrev zv6(Z:Zs)(x:Str)(st:Stmt)(k:Nat)(pn:List Nat)(m:MS)(N:List Str)(f:Addr):Prop:=∀ {cdv:Value} {A:Around} {outer:List Env} {s:Shared} {H:Hp} {E:XK},N.Nodup->Room k (A.deeper (envOfC x (zS st) s.heap.objs.size f cdv)) ->
 ∃ t,VS Z.K pn EX0 t m/\Wr (PSs (ziX CX0 Z.P Z.w Z.K Z.mg Z.base N x (zS st) f cdv A outer s H E).nox (zbl st) t)
theorem okZ(F:Fun Z.K x x st f fd)(N:List Str)(hbody:zv6 Z x st k pn m N f)(S:FnScope N ps (zS st):=by exact⟨rfl,rfl,rfl,by decide +kernel,rfl,by decide +kernel,by decide +kernel⟩)(hps:ps.length=n:=by rfl)(hN:N.length=nn:=by rfl)(hnn:n<=nn:=by decide) :
  FnOk Z.P Z.w Z.K Z.mg Z.base CX0 (k+1) f fd ps (spV Z.K n (za2 nn pn m)):=F.okV S hps hN hnn fun cdv A outer s H E hr=>let ⟨t,a,b⟩:=hbody S.nd hr; ⟨t,b,a⟩
theorem zbE(A:FnZ Z x st)(N:List Str)(hbody:∀ {f},zv6 Z x st k pn m N f)(S:FnScope N ps (zS st):=by exact⟨rfl,rfl,rfl,by decide +kernel,rfl,by decide +kernel,by decide +kernel⟩)(hps:ps.length=n:=by rfl)(hN:N.length=nn:=by rfl)(hnn:n<=nn:=by decide)
  (hb:∀ (kV doc pm:Value) (an:Option Addr) (cdv ct:Value) (us:List Value),us.length=ps.length->bindArgs (PySem.W.fnOf x x (zdd st) (zbl st) (zS st) .none kV doc pm an cdv ct) ⟨us,[]⟩=pure (ps.zip us):=by
   intro _ _ _ _ _ _ us hl
   first
   | (obtain⟨_,rfl⟩:=zAA hl; rfl)
   | (obtain⟨_,_,rfl⟩:=zAB hl; rfl)
   | (obtain⟨_,_,_,rfl⟩:=zAC hl; rfl)
   | (obtain⟨_,_,_,_,rfl⟩:=zz2 hl; rfl)
   | (obtain⟨_,_,_,_,_,rfl⟩:=zAD hl; rfl)
   | (cases(List.eq_nil_of_length_eq_zero hl); rfl)):Z.C x (k+1) ps n (za2 nn pn m) :=
 let ⟨f,fd,F,g⟩:=A; ⟨⟨f,fd,okZ F N hbody S hps hN hnn,F.binds hb,F.kp,g⟩⟩
end
end L2
namespace K51
open PySem L2
def top(i:Nat):Stmt:=PySem.Challenge.pw_undivide_k51_rules_of_signed_sums.main.body.getD i (.Pass ⟨0,0,0,0⟩)
abbrev zdo:Stmt:=top 3
abbrev zhC:Stmt:=top 4
abbrev zeq:Stmt:=top 6
abbrev ziL:Stmt:=top 10
abbrev zhD:Stmt:=top 11
abbrev zcm:Stmt:=top 12
abbrev zcn:Stmt:=top 13
abbrev zcA:Stmt:=top 14
abbrev zdL:Stmt:=top 15
abbrev zgj:Stmt:=top 17
abbrev zfA:Stmt:=top 19
abbrev zgk:Stmt:=top 21
abbrev zfB:Stmt:=top 22
abbrev zer:Stmt:=top 23
abbrev zc6:Stmt:=top 24
abbrev zfC:Stmt:=top 25
abbrev zes:Stmt:=top 26
abbrev zc7:Stmt:=top 27
abbrev zcB:Stmt:=top 28
abbrev zet:Stmt:=top 30
abbrev zeu:Stmt:=top 31
abbrev zev:Stmt:=top 32
abbrev zgl:Stmt:=top 33
abbrev zcC:Stmt:=top 34
abbrev zdM:Stmt:=top 35
abbrev zdN:Stmt:=top 36
abbrev zew:Stmt:=top 37
abbrev zv7:Stmt:=top 38
def zz3:List (Str×List Str):=[]
abbrev xfl:List Str:=[]
def zye:Stmt->Stmt
 | .ClassDef _ _ _ (b::_) _ _ _ _ _ _ _=>b
 | s=>s
abbrev zfD:Stmt:=zye (top 9)
theorem zsj:FnScope ["self", "numbers", "beneath", "room"] ["self", "numbers", "beneath", "room"] (zS zfD):=⟨rfl,rfl,rfl,by decide +kernel,rfl,by decide +kernel,by decide +kernel⟩
section
variable {P:Program} {w:World} {K:qc} {mg:Str->Option Value} {base:Heap} {f:Addr} {fd:FuncData}
end
section
def Bs(Z:Zs):Prop:=Bl Z.mg ["abs", "tuple", "zip", "max", "sorted", "len", "enumerate", "range", "int", "dict", "list"]/\XT Z.K zz3 xfl/\(∃ T,Z.mg "ROOM"=some (.int 256 T))/\(∃ G,Z.mg "NOUGHT"=some (.ref G)/\GTi Z.K G [0,1])/\(∃ G,Z.mg "ONE"=some (.ref G)/\GTi Z.K G [1,1])/\(∃ C,OCal Z.P Z.w Z.K Z.mg Z.base "Form" C ["numbers", "beneath", "room"])
variable {Z:Zs}
noncomputable def zdp:MS:=(zz (zeR (zqf (zi 1)) (zoW 0 1 (zf (zi 1) (zf (mOp zeQ (zi 0) (zi 1)) zo))))
  (zaM (zi 0)))
noncomputable def zY:FD:=za2 2 [] zdp
abbrev za8(Z:Zs):Prop:=Z.C "common_factor" 1 ["one", "other"] 2 zY
theorem zgs(B:Bs Z)(A:FnZ Z "common_factor" zdo):za8 Z :=
 have hB:=B.1; zbE A ["one", "other"] fun nd hr=>⟨_,(zq (zni (zqg ze) (zqj (zd ze (zd (zp zbU ze ze) zk))))
 (zad ze)),
 (w_s (zm5 (zu7 w_v) (zO (zqa (w_a w_v (w_a (zI zbT w_v w_v) zj)))))
 (zO (zab w_v)))⟩
noncomputable def zex:MS:=(zaM (mCB (f1 zbm) (zf (mLC (zt3 (zf (zi 0) (zf (zi 1) zo))) 2 [] (zbj 2 (zQ (zy 0) (zQ (zy 1) zbz))) zdk (mOp zcg (zi 0) (zi 1))) zo)))
noncomputable def zbH:FD:=za2 2 [0,1] zex
abbrev zey(Z:Zs):Prop:=Z.C "powers_plus" 1 ["one", "other"] 2 zbH
theorem zhZ(B:Bs Z)(A:FnZ Z "powers_plus" zeq):zey Z :=
 have hB:=B.1; zbE A ["one", "other"] fun nd hr=>⟨_,(zad (zan zbn (zd (zfj (zrl (zd ze (zd ze zk))) (zbf (zM zw (zM zw zbe))) zbg (zp zas ze ze)) zk))),
 (zO (zab (zcM zaS PyProof.Rows.boot_tuple (w_a (zhS (zrj (w_a w_v (w_a w_v zj))) (zbd (w_g zv (w_g zv zbb))) zbc (zI zar w_v w_v)) zj))))⟩
noncomputable def zgm:MS:=(zz (zK 2 (mOp zcg (mOp zfd (mC (.int 7919)) (zi 1)) (mC (.int 11))))
  (zz (zbW (mB (mOp fLt (zi 1) (mCB (f1 zcR) (zf (zi 0) zo)))) (zK 2 (mOp zcQ (zi 0) (zi 1))) (zbW (mB (mOp fGt (mCB (f1 zcR) (zf (zi 0) zo)) (mC (.int 0)))) (zK 2 (mOp zcg (zi 2) (mOp zfd (mOp zeQ (mOp zcQ (zi 0) (mOp zeQ (zi 1) (mCB (f1 zcR) (zf (zi 0) zo)))) (mC (.int 2147483629))) (mC (.int 69623))))) zaG))
  (zz (zK 3 (mOp zcg (mOp zeQ (mOp zcg (mOp zfd (mOp zeQ (zi 2) (mC (.int 2147483629))) (mC (.int 48271))) (mOp zfd (mC (.int 40692)) (zi 1))) (mC (.int 2147483629))) (mC (.int 1))))
  (zaM (zfZ (zf (mOp zfd (zi 2) (mCB (f1 znc) (zf (mOp fGe (zi 2) (mOp ztB (mC (.int 10)) (mC (.int 18)))) zo))) (zf (zi 3) zo)))))))
noncomputable def zcD:FD:=za2 4 [0,1] zgm
abbrev zgn(Z:Zs):Prop:=Z.C "_law_box" 1 ["_law_script", "_law_k"] 2 zcD
theorem zlh(B:Bs Z)(A:FnZ Z "_law_box" zgk):zgn Z :=
 have hB:=B.1; zbE A ["_law_script", "_law_k", "_law_cell", "_law_seed"] fun nd hr=>⟨_,(zq (zx (zp zas (zp zcP zm ze) zm))
 (zq (zdE (za4 (zL (zp zqe ze (zan za1 (zd ze zk)))) (zx (zp za0 ze ze)) (za4 (zL (zp znb (zan za1 (zd ze zk)) zm)) (zx (zp zas ze (zp zcP (zp zbU (zp za0 ze (zp zbU ze (zan za1 (zd ze zk)))) zm) zm))) zay)))
 (zq (zx (zp zas (zp zbU (zp zas (zp zcP (zp zbU ze zm) zm) (zp zcP zm ze)) zm) zm))
 (zad (zen (zd (zp zcP ze (zan ztC (zd (zp zy4 ze (zp zxh zm zm)) zk))) (zd ze zk))))))),
 (w_s (zD (zI zar (zI zcK zn w_v) zn))
 (w_s (zdw (zcN (zV zpG w_v (zbO zbZ PySem.boot_len (w_a w_v zj))) (zO (zD (zam zb0 w_v w_v))) (zO (zcN (zV zmU (zbO zbZ PySem.boot_len (w_a w_v zj)) zn) (zO (zD (zI zar w_v (zI zcK (zI zbT (zam zb0 w_v (zI zbT w_v (zbO zbZ PySem.boot_len (w_a w_v zj)))) zn) zn)))) zaw))))
 (w_s (zD (zI zar (zI zbT (zI zar (zI zcK (zI zbT w_v zn) zn) (zI zcK zn w_v)) zn) zn))
 (zO (zab (zel (w_a (zI zcK w_v (zcM zoA PyProof.Rows.boot_int (w_a (zmZ zyK w_v (zI zwN zn zn)) zj))) (w_a w_v zj))))))))⟩
noncomputable def zfE:MS:=(zz (zbW (mB (mOp fGt (mOp zcQ (zi 0) (mC (.int 0))) (mC (.int 0)))) (zz (zK 2 (mOp zeQ (mOp zcQ (zi 0) (mC (.int 0))) (zi 1)))
  (zz (zbC 0 (mOp zg4 (mOp zcQ (zi 0) (mC (.int 0))) (zi 1)) (mC (.int 0)))
  (zaM (zi 2)))) zaG)
  (zz (zK 3 (mOp zeQ (mOp zfd (mOp zcQ (zi 0) (mC (.int 1))) (mC (.int 69623))) (mC (.int 2147483647))))
  (zz (zbC 0 (mOp zcg (mOp zeQ (mOp zcg (mOp zfd (zi 3) (mC (.int 48271))) (mC (.int 30103))) (mC (.int 2147483629))) (mC (.int 1))) (mC (.int 1)))
  (zaM (mOp zeQ (mOp zg4 (mOp zcg (mOp zfd (zi 3) (mC (.int 2147483647))) (mOp zcQ (zi 0) (mC (.int 1)))) (mC (.int 8191))) (zi 1))))))
noncomputable def zA:FD:=za2 4 [0,1] zfE
abbrev zaV(Z:Zs):Prop:=Z.C "_law_take" 1 ["_law_box_here", "_law_wide"] 2 zA
theorem zjU(B:Bs Z)(A:FnZ Z "_law_take" zfB):zaV Z :=
 have hB:=B.1; zbE A ["_law_box_here", "_law_wide", "_law_digit", "_law_one"] fun nd hr=>⟨_,(zq (za4 (zL (zp znb (zp za0 ze zm) zm)) (zq (zx (zp zbU (zp za0 ze zm) ze))
 (zq (zb5 (zp zgx (zp za0 ze zm) ze) zm)
 (zad ze))) zay)
 (zq (zx (zp zbU (zp zcP (zp za0 ze zm) zm) zm))
 (zq (zb5 (zp zas (zp zbU (zp zas (zp zcP ze zm) zm) zm) zm) zm)
 (zad (zp zbU (zp zgx (zp zas (zp zcP ze zm) (zp za0 ze zm)) zm) ze))))),
 (w_s (zcN (zV zmU (zam zb0 w_v zn) zn) (w_s (zD (zI zbT (zam zb0 w_v zn) w_v))
 (w_s (zdx (zI zfa (zam zb0 w_v zn) w_v) (zdf w_v zn zbk))
 (zO (zab w_v)))) zaw)
 (w_s (zD (zI zbT (zI zcK (zam zb0 w_v zn) zn) zn))
 (w_s (zdx (zI zar (zI zbT (zI zar (zI zcK w_v zn) zn) zn) zn) (zdf w_v zn zbk))
 (zO (zab (zI zbT (zI zfa (zI zar (zI zcK w_v zn) (zam zb0 w_v zn)) zn) w_v))))))⟩
noncomputable def zc8:MS:=(zz (zK 2 (mCB (f1 zl6) (zf (zi 0) zo)))
  (zz (zK 3 (mCB (f1 zl6) (zf (zi 1) zo)))
  (zz (zeR (mB (mOp (zdr true) (zi 3) (mC (.int 0)))) (zoW 2 3 (zf (zi 3) (zf (mOp zeQ (zi 2) (zi 3)) zo))))
  (zz (zbW (mB (mOp fLt (zi 1) (mC (.int 0)))) (zK 2 (mOp zl3 (mC (.int 0)) (zi 2))) zaG)
  (zaM (zaP (zf (mOp zge (zi 0) (zi 2)) (zf (mOp zge (zi 1) (zi 2)) zo))))))))
noncomputable def zaj:FD:=za2 4 [0,1] zc8
abbrev zaW(Z:Zs):Prop:=Z.C "_law_fraction" 1 ["_law_n", "_law_d"] 2 zaj
theorem zf8(B:Bs Z)(A:FnZ Z "_law_fraction" zc6):zaW Z :=
 have hB:=B.1; zbE A ["_law_n", "_law_d", "_law_one", "_law_two"] fun nd hr=>⟨_,(zq (zx (zan zji (zd ze zk)))
 (zq (zx (zan zji (zd ze zk)))
 (zq (zni (zL (zp zhc ze zm)) (zqj (zd ze (zd (zp zbU ze ze) zk))))
 (zq (zdE (za4 (zL (zp zqe ze zm)) (zx (zp zg5 zm ze)) zay))
 (zad (zah (zd (zp zd5 ze ze) (zd (zp zd5 ze ze) zk)))))))),
 (w_s (zD (zbO ze7 PyProof.Rows.boot_abs (w_a w_v zj)))
 (w_s (zD (zbO ze7 PyProof.Rows.boot_abs (w_a w_v zj)))
 (w_s (zm5 (zV zkb w_v zn) (zO (zqa (w_a w_v (w_a (zI zbT w_v w_v) zj)))))
 (w_s (zdw (zcN (zV zpG w_v zn) (zO (zD (zI zgO zn w_v))) zaw))
 (zO (zab (zag (w_a (zI zcY w_v w_v) (w_a (zI zcY w_v w_v) zj)))))))))⟩
noncomputable def zcE:MS:=(zz (zK 3 (mCB (f1 zdB) (zf (zi 0) zo)))
  (zz (zbC 3 (mOp zpm (zi 0) (zi 2)) (zi 1))
  (zz (zbC 3 (mOp zpm (zi 0) (zi 1)) (zi 2))
  (zgf [0,1,2] 3))))
noncomputable def zaq:FD:=za2 4 [0,1,2] zcE
abbrev zcF(Z:Zs):Prop:=Z.C "_law_exchanged" 1 ["_law_some", "_law_one", "_law_other"] 3 zaq
theorem zfF(B:Bs Z)(A:FnZ Z "_law_exchanged" zcC):zcF Z :=
 have hB:=B.1; zbE A ["_law_some", "_law_one", "_law_other", "_law_found"] fun nd hr=>⟨_,(zq (zx (zan zd6 (zd ze zk)))
 (zq (zb5 (zp zsf ze ze) ze)
 (zq (zb5 (zp zsf ze ze) ze)
 zl7))),
 (w_s (zD (zcM zcZ PyProof.Rows.boot_list (w_a w_v zj)))
 (w_s (zdx (zam zv5 w_v w_v) (zdf w_v w_v zbk))
 (w_s (zdx (zam zv5 w_v w_v) (zdf w_v w_v zbk))
 (zO (zab w_v)))))⟩
noncomputable def zdO:MS:=(zaM (mLC (zgg (zf (mCB (f1 zcR) (zf (zi 0) zo)) zo)) 1 [0] (zy 0) zdk (mFz (mLC (mIt zjm (mFz (zi 1))) 1 [0] (zy 0) zdk (mOp zaO (zi 0) (zi 1))))))
noncomputable def zbs:FD:=za2 1 [0] zdO
abbrev zdP(Z:Zs):Prop:=Z.C "_law_turned" 1 ["_law_rows"] 1 zbs
theorem zhE(B:Bs Z)(A:FnZ Z "_law_turned" zdM):zdP Z :=
 have hB:=B.1; zbE A ["_law_rows"] fun nd hr=>⟨_,(zad (zfj (zfg (zd (zan za1 (zd ze zk)) zk)) zw zbg (zaL (zfj (zd7 (zaL ze)) zw zbg (zp zac ze ze))))),
 (zO (zab (zhS (zdv (w_a (zbO zbZ PySem.boot_len (w_a w_v zj)) zj)) zv zbc (zaK (zhS (zd3 (zaK w_v)) zv zbc (zam zaB w_v w_v))))))⟩
noncomputable def zhF:MS:=(zz (zbW (mB (mOp fLt (zi 1) (mC (.int 0)))) (zoW 0 1 (zf (mUn zl4 (zi 0)) (zf (mUn zl4 (zi 1)) zo))) zaG)
  (zz (zK 2 (zN zY (zf (mCB (f1 zl6) (zf (zi 0) zo)) (zf (zi 1) zo))))
  (zaM (zaP (zf (mOp zg4 (zi 0) (zi 2)) (zf (mOp zg4 (zi 1) (zi 2)) zo))))))
noncomputable def zdm:FD:=za2 3 [] zhF
abbrev zhG(Z:Zs):Prop:=Z.C "fraction" 2 ["n", "d"] 2 zdm
theorem zmI(B:Bs Z)(A:FnZ Z "fraction" zhC)(c0:za8 Z):zhG Z :=
 have hB:=B.1; zbE A ["n", "d", "factor"] fun nd hr=>⟨_,(zq (zdE (za4 (zL (zp zqe ze zm)) (zqj (zd (zc1 zjh ze) (zd (zc1 zjh ze) zk))) zay))
 (zq (zx (zE 2 (zd (zan zji (zd ze zk)) (zd ze zk))))
 (zad (zah (zd (zp zgx ze ze) (zd (zp zgx ze ze) zk)))))),
 (w_s (zdw (zcN (zV zpG w_v zn) (zO (zqa (w_a (ztx ziW w_v) (w_a (ztx ziW w_v) zj)))) zaw))
 (w_s (zD (zC (w_a (zbO ze7 PyProof.Rows.boot_abs (w_a w_v zj)) (w_a w_v zj))))
 (zO (zab (zag (w_a (zI zfa w_v w_v) (w_a (zI zfa w_v w_v) zj)))))))⟩
noncomputable def zez:MS:=(zz (zK 2 (mC (.str "abcdefghijklmnopqrstuvwxyz")))
  (zz (zK 3 (mLC (zgg (zf (mOp zcg (mC (.int 1)) (zN zA (zf (zi 0) (zf (mC (.int 4)) zo)))) zo)) 1 [0,2] (zy 0) zdk (mOp zmh (zi 2) (zN zA (zf (zi 1) (zf (mC (.int 26)) zo))))))
  (zz (zK 4 (zN zA (zf (zi 0) (zf (mCB (f1 zcR) (zf (zi 3) zo)) zo))))
  (zz (zK 5 (zN zA (zf (zi 0) (zf (mC (.int 26)) zo))))
  (zz (zK 6 (zfZ zo))
  (zz (zdi (zgg (zf (zi 1) zo)) (zy 7) (zz (zK 8 (mOp zmh (zi 2) (mOp zeQ (mOp zcg (zi 5) (mOp zfd (mC (.int 7)) (zi 7))) (mC (.int 26)))))
  (zz (zK 9 (mOp zfp (mOp zfp (mM1 tyS ziC (mC (.str "")) (mSl zqq (zi 3) zfo (zkB (zi 4)))) (zi 8)) (mM1 tyS ziC (mC (.str "")) (mSl zqq (zi 3) (zkB (mOp zcg (zi 4) (mC (.int 1)))) zfo))))
  (zz (zK 9 (mOp zfp (zi 9) (mOp zkI (mC (.str "q")) (zN zA (zf (zi 0) (zf (mC (.int 2)) zo))))))
  (zz (zbW (mOr (mB (mOp (fIn false) (zi 9) (zi 6))) (mB (mOp (fIn false) (zi 9) (zaP (zf (mC (.str "part")) (zf (mC (.str "end")) (zf (mC (.str "give")) (zf (mC (.str "rounds")) (zf (mC (.str "letters")) zo))))))))) (zK 9 (mOp zfp (mC (.str "zz")) (mOp zmh (zi 2) (zi 7)))) zaG)
  (zha (zjq 6 (zi 9))))))))
  (zz (zbW (mB (mOp (zdr false) (zN zA (zf (zi 0) (zf (mC (.int 5)) zo))) (mC (.int 0)))) (zz (zK 10 (mOp zcQ (zfZ (zf (mC (.str "ends")) (zf (mC (.str "pa")) (zf (mC (.str "gives")) (zf (mC (.str "giv")) (zf (mC (.str "x")) (zf (mC (.str "y")) (zf (mC (.str "r")) (zf (mC (.str "rk")) zo))))))))) (zN zA (zf (zi 0) (zf (mC (.int 8)) zo)))))
  (zbW (mB (mOp (fIn true) (zi 10) (zi 6))) (zbC 6 (zi 10) (zN zA (zf (zi 0) (zf (zi 1) zo)))) zaG)) zaG)
  (zaM (mCB (f1 zbm) (zf (zi 6) zo))))))))))
noncomputable def zbI:FD:=za2 11 [0,1] zez
abbrev zeA(Z:Zs):Prop:=Z.C "_law_names" 2 ["_law_box_here", "_law_many"] 2 zbI
theorem zh0(B:Bs Z)(A:FnZ Z "_law_names" zer)(c0:zaV Z):zeA Z :=
 have hB:=B.1; zbE A ["_law_box_here", "_law_many", "_law_alphabet", "_law_signs", "_law_spot", "_law_first", "_law_found", "_law_k", "_law_one", "_law_name", "_law_odd"] fun nd hr=>⟨_,(zq (zx zby)
 (zq (zx (zfj (zfg (zd (zp zas zm (zE 2 (zd ze (zd zm zk)))) zk)) zw zbg (zp zmi ze (zE 2 (zd ze (zd zm zk))))))
 (zq (zx (zE 2 (zd ze (zd (zan za1 (zd ze zk)) zk))))
 (zq (zx (zE 2 (zd ze (zd zm zk))))
 (zq (zx (zen zk))
 (zq (zb2 (zfg (zd ze zk)) zw (zq (zx (zp zmi ze (zp zbU (zp zas ze (zp zcP zm ze)) zm)))
 (zq (zx (zp zgA (zp zgA (zzM zqI znC zby (zzc zno ze znm (znn ze))) ze) (zzM zqI znC zby (zzc zno ze (znn (zp zas ze zm)) znm))))
 (zq (zx (zp zgA ze (zp ztX zby (zE 2 (zd ze (zd zm zk))))))
 (zq (zdE (za4 (zvb (zL (zp (znG false) ze ze)) (zL (zp (znG false) ze (zah (zd zby (zd zby (zd zby (zd zby (zd zby zk))))))))) (zx (zp zgA zby (zp zmi ze ze))) zay))
 (zjl (znk ze)))))))
 (zq (zdE (za4 (zL (zp zf2 (zE 2 (zd ze (zd zm zk))) zm)) (zq (zx (zp za0 (zen (zd zby (zd zby (zd zby (zd zby (zd zby (zd zby (zd zby (zd zby zk))))))))) (zE 2 (zd ze (zd zm zk)))))
 (za4 (zL (zp (znG true) ze ze)) (zb5 ze (zE 2 (zd ze (zd ze zk)))) zay)) zay))
 (zad (zan zbn (zd ze zk)))))))))),
 (w_s (zD zbx)
 (w_s (zm6 (zdv (w_a (zI zar zn (zC (w_a w_v (w_a zn zj)))) zj)) zv zbc (zam zlM w_v (zC (w_a w_v (w_a zn zj)))))
 (w_s (zD (zC (w_a w_v (w_a (zbO zbZ PySem.boot_len (w_a w_v zj)) zj))))
 (w_s (zD (zC (w_a w_v (w_a zn zj))))
 (w_s (zD (zel zj))
 (w_s (zb1 (zdv (w_a w_v zj)) zv (w_s (zD (zam zlM w_v (zI zbT (zI zar w_v (zI zcK zn w_v)) zn)))
 (w_s (zD (zI zdc (zI zdc (zoP _ rfl PySem.F.plainAttrs_str PySem.F.slot_str_join PySem.F.type_str_join (zm8 _ rfl) zbx (w_a (zm2 zu6 w_v zm0 (zm1 w_v)) zj)) w_v) (zoP _ rfl PySem.F.plainAttrs_str PySem.F.slot_str_join PySem.F.type_str_join (zm8 _ rfl) zbx (w_a (zm2 zu6 w_v (zm1 (zI zar w_v zn)) zm0) zj))))
 (w_s (zD (zI zdc w_v (zI zlV zbx (zC (w_a w_v (w_a zn zj))))))
 (w_s (zdw (zcN (zlU (zu4 (zV zy0 w_v w_v rfl) (zp8 (zV zy0 w_v (zag (w_a zbx (w_a zbx (w_a zbx (w_a zbx (w_a zbx zj)))))) rfl)))) (zO (zD (zI zdc zbx (zam zlM w_v w_v)))) zaw))
 (zO (zjc (zoP _ rfl PySem.F.plainAttrs_list PySem.F.slot_list_append PySem.F.type_list_append zd1 w_v (w_a w_v zj)))))))))
 (w_s (zdw (zcN (zV zid (zC (w_a w_v (w_a zn zj))) zn) (w_s (zD (zam zb0 (zel (w_a zbx (w_a zbx (w_a zbx (w_a zbx (w_a zbx (w_a zbx (w_a zbx (w_a zbx zj))))))))) (zC (w_a w_v (w_a zn zj)))))
 (zO (zcN (zV zm4 w_v w_v rfl) (zO (zdx w_v (zdf w_v (zC (w_a w_v (w_a w_v zj))) zbk))) zaw))) zaw))
 (zO (zab (zcM zaS PyProof.Rows.boot_tuple (w_a w_v zj)))))))))))⟩
noncomputable def zfG:MS:=(zaM (zN zaj (zf (mOp zcg (mOp zck (mOp zaO (zi 0) (mC (.int 0))) (mOp zaO (zi 1) (mC (.int 1)))) (mOp zck (mOp zaO (zi 1) (mC (.int 0))) (mOp zaO (zi 0) (mC (.int 1))))) (zf (mOp zck (mOp zaO (zi 0) (mC (.int 1))) (mOp zaO (zi 1) (mC (.int 1)))) zo))))
noncomputable def zaX:FD:=za2 2 [0,1] zfG
abbrev zb8(Z:Zs):Prop:=Z.C "_law_plus" 2 ["_law_one", "_law_other"] 2 zaX
theorem zjV(B:Bs Z)(A:FnZ Z "_law_plus" zfC)(c0:zaW Z):zb8 Z :=
 have hB:=B.1; zbE A ["_law_one", "_law_other"] fun nd hr=>⟨_,(zad (zE 2 (zd (zp zas (zp zaU (zp zac ze zm) (zp zac ze zm)) (zp zaU (zp zac ze zm) (zp zac ze zm))) (zd (zp zaU (zp zac ze zm) (zp zac ze zm)) zk)))),
 (zO (zab (zC (w_a (zI zar (zI zaT (zam zaB w_v zn) (zam zaB w_v zn)) (zI zaT (zam zaB w_v zn) (zam zaB w_v zn))) (w_a (zI zaT (zam zaB w_v zn) (zam zaB w_v zn)) zj)))))⟩
noncomputable def zeB:MS:=(zaM (zN zaj (zf (mOp zck (mOp zaO (zi 0) (mC (.int 0))) (mOp zaO (zi 1) (mC (.int 0)))) (zf (mOp zck (mOp zaO (zi 0) (mC (.int 1))) (mOp zaO (zi 1) (mC (.int 1)))) zo))))
noncomputable def za6:FD:=za2 2 [0,1] zeB
abbrev zcU(Z:Zs):Prop:=Z.C "_law_times" 2 ["_law_one", "_law_other"] 2 za6
theorem zh6(B:Bs Z)(A:FnZ Z "_law_times" zes)(c0:zaW Z):zcU Z :=
 have hB:=B.1; zbE A ["_law_one", "_law_other"] fun nd hr=>⟨_,(zad (zE 2 (zd (zp zaU (zp zac ze zm) (zp zac ze zm)) (zd (zp zaU (zp zac ze zm) (zp zac ze zm)) zk)))),
 (zO (zab (zC (w_a (zI zaT (zam zaB w_v zn) (zam zaB w_v zn)) (w_a (zI zaT (zam zaB w_v zn) (zam zaB w_v zn)) zj)))))⟩
noncomputable def zeC:MS:=(zaM (zN zaj (zf (mOp zl3 (zN zA (zf (zi 0) (zf (mC (.int 11)) zo))) (mC (.int 5))) (zf (mOp zcg (mC (.int 1)) (zN zA (zf (zi 0) (zf (mC (.int 3)) zo)))) zo))))
noncomputable def zai:FD:=za2 1 [0] zeC
abbrev zbJ(Z:Zs):Prop:=Z.C "_law_small" 2 ["_law_box_here"] 1 zai
theorem zh7(B:Bs Z)(A:FnZ Z "_law_small" zet)(c0:zaV Z)(c1:zaW Z):zbJ Z :=
 have hB:=B.1; zbE A ["_law_box_here"] fun nd hr=>⟨_,(zad (zE 2 (zd (zp zg5 (zE 2 (zd ze (zd zm zk))) zm) (zd (zp zas zm (zE 2 (zd ze (zd zm zk)))) zk)))),
 (zO (zab (zC (w_a (zI zgO (zC (w_a w_v (w_a zn zj))) zn) (w_a (zI zar zn (zC (w_a w_v (w_a zn zj)))) zj)))))⟩
noncomputable def ziM:MS:=(zz (zK 3 (mDC (mIt zcj (mFz (zi 0))) 2 [] (zbj 2 (zQ (zy 0) (zQ (zy 1) zbz))) (mB (mOp (zdr true) (zi 1) (mC (.int 0)))) (zi 0) (zi 1)))
  (zz (zbW (zkx (zk9 (zi 3)) (mB (mOp fLe (mUn zk8 (zi 1)) (zi 2)))) (zaM (zpe "Form" ["numbers", "beneath", "room"] (zf (mFz (zi 3)) (zf (zi 1) (zf (zi 2) zo))))) zaG)
  (zz (zK 4 (zi 1))
  (zz (zdi (mIt zn6 (mFz (zi 3))) (zy 5) (zK 4 (zN zY (zf (zi 4) (zf (mCB (f1 zl6) (zf (zi 5) zo)) zo)))))
  (zz (zK 6 (mDC (mIt zcj (mFz (zi 3))) 2 [4] (zbj 2 (zQ (zy 0) (zQ (zy 1) zbz))) zdk (zi 0) (mOp zge (zi 1) (zi 2))))
  (zz (zK 1 (mOp zge (zi 1) (zi 4)))
  (zaM (zpe "Form" ["numbers", "beneath", "room"] (zf (mFz (zi 6)) (zf (zi 1) (zf (mCB ziu (zf (mC (.int 256)) (zf (mOp zck (mC (.int 2)) (mUn zk8 (zi 1))) zo))) zo)))))))))))
noncomputable def zcb:FD:=za2 7 [0,2] ziM
abbrev zec(Z:Zs):Prop:=Z.C "settled" 3 ["numbers", "beneath", "room"] 3 zcb
theorem zpo(B:Bs Z)(A:FnZ Z "settled" ziL)(c0:za8 Z):zec Z :=
 by obtain⟨hB,_,⟨TROOM,g_ROOM⟩,_,_,⟨CForm,oXForm⟩⟩:=B; exact zbE A ["numbers", "beneath", "room", "kept", "factor", "many", "lowest"] fun nd hr=>⟨_,(zq (zx (zx7 (zbQ (zaL ze)) (zbf (zM zw (zM zw zbe))) (zL (zp zhc ze zm)) ze ze))
 (zq (za4 (zg8 (zuk ze) (zL (zp zy3 (zrS ze) ze))) (zad (zrQ oXForm.xn (zd (zaL ze) (zd ze (zd ze zk))))) zay)
 (zq (zx ze)
 (zq (zb2 (zui (zaL ze)) zw (zx (zE 2 (zd ze (zd (zan zji (zd ze zk)) zk)))))
 (zq (zx (zx7 (zbQ (zaL ze)) (zbf (zM zw (zM zw zbe))) zbg ze (zp zd5 ze ze)))
 (zq (zx (zp zd5 ze ze))
 (zad (zrQ oXForm.xn (zd (zaL ze) (zd ze (zd (zan zjj (zd zm (zd (zp zaU zm (zrS ze)) zk))) zk))))))))))),
 (w_s (zrK hr (zcw (zaK w_v)) (zbd (w_g zv (w_g zv zbb))) (zp9 (zV zkb w_v zn)) w_v w_v)
 (w_s (zcN (zlU (zgZ (zx9 w_v) (zfc (zV zyJ (zu8 _ rfl PySem.F.plainAttrs_int PySem.F.slot_int_bit_length PySem.F.type_int_bit_length zn7 w_v) w_v)))) (zO (zab (zrO oXForm (w_a (zaK w_v) (w_a w_v (w_a w_v zj)))))) zaw)
 (w_s (zD w_v)
 (w_s (zb1 (zx8 (zaK w_v)) zv (zO (zD (zC (w_a w_v (w_a (zbO ze7 PyProof.Rows.boot_abs (w_a w_v zj)) zj))))))
 (w_s (zrK hr (zcw (zaK w_v)) (zbd (w_g zv (w_g zv zbb))) zbc w_v (zI zcY w_v w_v))
 (w_s (zD (zI zcY w_v w_v))
 (zO (zab (zrO oXForm (w_a (zaK w_v) (w_a w_v (w_a (zbO (zfS rfl) PyProof.Rows.boot_max (w_a (zfY (v:=.int 256) rfl g_ROOM ⟨_,rfl⟩) (w_a (zI zaT zn (zu8 _ rfl PySem.F.plainAttrs_int PySem.F.slot_int_bit_length PySem.F.type_int_bit_length zn7 w_v)) zj))) zj))))))))))))⟩
noncomputable def zco:MS:=(zaM (zpe "Form" ["numbers", "beneath", "room"] (zf (mFz (zeZ (mOp zeV (mOp zeV (mOp zep (zaP (zf (mC (.int 0)) zo)) (zi 0)) (zaP (zf (mC (.int 1)) zo))) (mOp zep (zaP (zf (mC (.int 0)) zo)) (mOp zl3 (mOp zl3 (zi 1) (zi 0)) (mC (.int 1))))) (mC (.int 1)))) (zf (mC (.int 1)) (zf (mC (.int 256)) zo)))))
noncomputable def zaD:FD:=za2 2 [0,1] zco
abbrev zcp(Z:Zs):Prop:=Z.C "letter_by_powers" 3 ["k", "many_letters"] 2 zaD
theorem ze1(B:Bs Z)(A:FnZ Z "letter_by_powers" zcn):zcp Z :=
 by obtain⟨hB,_,⟨TROOM,g_ROOM⟩,_,_,⟨CForm,oXForm⟩⟩:=B; exact zbE A ["k", "many_letters"] fun nd hr=>⟨_,(zad (zrQ oXForm.xn (zd (zaL (zfx (zp zhh (zp zhh (zp zfv (zah (zd zm zk)) ze) (zah (zd zm zk))) (zp zfv (zah (zd zm zk)) (zp zg5 (zp zg5 ze ze) zm))) zm)) (zd zm (zd zm zk))))),
 (zO (zab (zrO oXForm (w_a (zaK (zfw hr (zI zhg (zI zhg (zI (zfu _ rfl) (zag (w_a zn zj)) w_v) (zag (w_a zn zj))) (zI (zfu _ rfl) (zag (w_a zn zj)) (zI zgO (zI zgO w_v w_v) zn))) zn)) (w_a zn (w_a (zfY (v:=.int 256) rfl g_ROOM ⟨_,rfl⟩) zj))))))⟩
noncomputable def zdQ:MS:=(zaM (mCB (f1 zmd) (zf (mLC (mIt zcj (mFz (mUn (zaH "Form" "numbers") (zi 0)))) 2 [0] (zbj 2 (zQ (zy 0) (zQ (zy 1) zbz))) zdk (zaP (zf (zi 0) (zf (zN zdm (zf (zi 1) (zf (mUn (zaH "Form" "beneath") (zi 2)) zo))) zo)))) zo)))
noncomputable def zbt:FD:=za2 1 [0] zdQ
abbrev zdR(Z:Zs):Prop:=Z.C "fractions_of" 3 ["form"] 1 zbt
theorem zhH(B:Bs Z)(A:FnZ Z "fractions_of" zdL)(c0:zhG Z):zdR Z :=
 by obtain⟨hB,_,_,_,_,⟨CForm,oXForm⟩⟩:=B; exact zbE A ["form"] fun nd hr=>⟨_,(zad (zan zqr (zd (zfj (zbQ (zaL (zc1 (zav oXForm.xn oXForm.cl (oXForm.na _ (by decide))) ze))) (zbf (zM zw (zM zw zbe))) zbg (zah (zd ze (zd (zE 2 (zd ze (zd (zc1 (zav oXForm.xn oXForm.cl (oXForm.na _ (by decide))) ze) zk))) zk)))) zk))),
 (zO (zab (zbO (zl0 _ rfl hr) PyProof.Rows.boot_sorted (w_a (zhS (zcw (zaK (za3 _ rfl w_v rfl))) (zbd (w_g zv (w_g zv zbb))) zbc (zag (w_a w_v (w_a (zC (w_a w_v (w_a (za3 _ rfl w_v rfl) zj))) zj)))) zj))))⟩
noncomputable def zc9:MS:=(zz (zK 3 (mCB (f1 zeb) (zf (zi 0) zo)))
  (zz (zdi (mIt zgh (mFz (zi 1))) (zy 4) (zz (zK 5 (zaP (zf (mOp zfd (zi 2) (mOp zaO (zc2 (zi 1) (zi 4)) (mC (.int 0)))) (zf (mOp zaO (zc2 (zi 1) (zi 4)) (mC (.int 1))) zo))))
  (zdn 3 (zi 4) (zN zaX (zf (zcS (zi 3) (zi 4) (zaP (zf (mC (.int 0)) (zf (mC (.int 1)) zo)))) (zf (zi 5) zo))))))
  (zz (zK 6 zbX)
  (zz (zdi (mIt zgh (mFz (zi 3))) (zy 4) (zbW (mB (mOp (zdr true) (mOp zaO (zc2 (zi 3) (zi 4)) (mC (.int 0))) (mC (.int 0)))) (zdn 6 (zi 4) (zc2 (zi 3) (zi 4))) zaG))
  (zgf [0,1,2] 6)))))
noncomputable def zak:FD:=za2 7 [0,1,2] zc9
abbrev zbF(Z:Zs):Prop:=Z.C "_law_poly_add" 3 ["_law_one", "_law_other", "_law_sign"] 3 zak
theorem zf9(B:Bs Z)(A:FnZ Z "_law_poly_add" zc7)(c0:zb8 Z):zbF Z :=
 have hB:=B.1; zbE A ["_law_one", "_law_other", "_law_sign", "_law_found", "_law_powers", "_law_more", "_law_kept"] fun nd hr=>⟨_,(zq (zx (zan zo6 (zd ze zk)))
 (zq (zb2 (zfn (zaL ze)) zw (zq (zx (zah (zd (zp zcP ze (zp zac (zdI ze ze) zm)) (zd (zp zac (zdI ze ze) zm) zk))))
 (zeS ze (zE 2 (zd (zea ze ze (zah (zd zm (zd zm zk)))) (zd ze zk))))))
 (zq (zx zb6)
 (zq (zb2 (zfn (zaL ze)) zw (za4 (zL (zp zhc (zp zac (zdI ze ze) zm) zm)) (zeS ze (zdI ze ze)) zay))
 zl7)))),
 (w_s (zD (zcM zmn PyProof.Rows.boot_dict (w_a w_v zj)))
 (w_s (zb1 (zdA (zaK w_v)) zv (w_s (zD (zag (w_a (zI zcK w_v (zam zaB (zdy hr w_v w_v) zn)) (w_a (zam zaB (zdy hr w_v w_v) zn) zj))))
 (zO (zeL hr w_v w_v (zC (w_a (zd9 hr w_v w_v (zag (w_a zn (w_a zn zj))) ⟨rfl,rfl,rfl,rfl⟩) (w_a w_v zj)))))))
 (w_s (zD zb3)
 (w_s (zb1 (zdA (zaK w_v)) zv (zO (zcN (zV zkb (zam zaB (zdy hr w_v w_v) zn) zn) (zO (zeL hr w_v w_v (zdy hr w_v w_v))) zaw)))
 (zO (zab w_v))))))⟩
noncomputable def zcG:MS:=(zz (zK 2 zbX)
  (zz (zdi (mIt zgh (mFz (zi 0))) (zy 3) (zdi (mIt zgh (mFz (zi 1))) (zy 4) (zz (zK 5 (mCB (f1 zbm) (zf (mLC (zt3 (zf (zi 3) (zf (zi 4) zo))) 2 [] (zbj 2 (zQ (zy 0) (zQ (zy 1) zbz))) zdk (mOp zcg (zi 0) (zi 1))) zo)))
  (zz (zK 6 (zN za6 (zf (zc2 (zi 0) (zi 3)) (zf (zc2 (zi 1) (zi 4)) zo))))
  (zdn 2 (zi 5) (zN zaX (zf (zcS (zi 2) (zi 5) (zaP (zf (mC (.int 0)) (zf (mC (.int 1)) zo)))) (zf (zi 6) zo))))))))
  (zz (zK 7 zbX)
  (zz (zdi (mIt zgh (mFz (zi 2))) (zy 5) (zbW (mB (mOp (zdr true) (mOp zaO (zc2 (zi 2) (zi 5)) (mC (.int 0))) (mC (.int 0)))) (zdn 7 (zi 5) (zc2 (zi 2) (zi 5))) zaG))
  (zgf [0,1] 7)))))
noncomputable def zaI:FD:=za2 8 [0,1] zcG
abbrev zcH(Z:Zs):Prop:=Z.C "_law_poly_mult" 3 ["_law_one", "_law_other"] 2 zaI
theorem zfH(B:Bs Z)(A:FnZ Z "_law_poly_mult" zcB)(c0:zb8 Z)(c1:zcU Z):zcH Z :=
 have hB:=B.1; zbE A ["_law_one", "_law_other", "_law_found", "_law_left", "_law_right", "_law_powers", "_law_more", "_law_kept"] fun nd hr=>⟨_,(zq (zx zb6)
 (zq (zb2 (zfn (zaL ze)) zw (zb2 (zfn (zaL ze)) zw (zq (zx (zan zbn (zd (zfj (zrl (zd ze (zd ze zk))) (zbf (zM zw (zM zw zbe))) zbg (zp zas ze ze)) zk)))
 (zq (zx (zE 2 (zd (zdI ze ze) (zd (zdI ze ze) zk))))
 (zeS ze (zE 2 (zd (zea ze ze (zah (zd zm (zd zm zk)))) (zd ze zk))))))))
 (zq (zx zb6)
 (zq (zb2 (zfn (zaL ze)) zw (za4 (zL (zp zhc (zp zac (zdI ze ze) zm) zm)) (zeS ze (zdI ze ze)) zay))
 zl7)))),
 (w_s (zD zb3)
 (w_s (zb1 (zdA (zaK w_v)) zv (zO (zb1 (zdA (zaK w_v)) zv (w_s (zD (zcM zaS PyProof.Rows.boot_tuple (w_a (zhS (zrj (w_a w_v (w_a w_v zj))) (zbd (w_g zv (w_g zv zbb))) zbc (zI zar w_v w_v)) zj)))
 (w_s (zD (zC (w_a (zdy hr w_v w_v) (w_a (zdy hr w_v w_v) zj))))
 (zO (zeL hr w_v w_v (zC (w_a (zd9 hr w_v w_v (zag (w_a zn (w_a zn zj))) ⟨rfl,rfl,rfl,rfl⟩) (w_a w_v zj))))))))))
 (w_s (zD zb3)
 (w_s (zb1 (zdA (zaK w_v)) zv (zO (zcN (zV zkb (zam zaB (zdy hr w_v w_v) zn) zn) (zO (zeL hr w_v w_v (zdy hr w_v w_v))) zaw)))
 (zO (zab w_v))))))⟩
noncomputable def zeD:MS:=(zz (zK 3 (zN zai (zf (zi 0) zo)))
  (zz (zbW (zkx (mB (mOp (zdr false) (mOp zaO (zi 3) (mC (.int 0))) (mC (.int 0)))) (ztD (mB (zi 2)))) (zK 3 (zaP (zf (mC (.int 1)) (zf (mC (.int 1)) zo)))) zaG)
  (zz (zK 4 (zN zA (zf (zi 0) (zf (mOp zcg (zi 1) (mC (.int 1))) zo))))
  (zz (zbW (mB (mOp (zdr false) (zi 4) (zi 1))) (zaM (zaP (zf (zi 3) (zf (mC .none) zo)))) zaG)
  (zaM (zaP (zf (mOp zcQ (zfZ (zf (zi 3) (zf (zaP (zf (mC (.int 1)) (zf (mC (.int 1)) zo))) zo))) (zN zA (zf (zi 0) (zf (mC (.int 2)) zo)))) (zf (zi 4) zo))))))))
noncomputable def zbK:FD:=za2 5 [0,1,2] zeD
abbrev zeE(Z:Zs):Prop:=Z.C "_law_entry" 3 ["_law_box_here", "_law_many", "_law_may_be_nought"] 3 zbK
theorem zh8(B:Bs Z)(A:FnZ Z "_law_entry" zeu)(c0:zaV Z)(c1:zbJ Z):zeE Z :=
 have hB:=B.1; zbE A ["_law_box_here", "_law_many", "_law_may_be_nought", "_law_f", "_law_k"] fun nd hr=>⟨_,(zq (zx (zE 1 (zd ze zk)))
 (zq (zdE (za4 (zg8 (zL (zp zf2 (zp zac ze zm) zm)) (zxm (zxl ze))) (zx (zah (zd zm (zd zm zk)))) zay))
 (zq (zx (zE 2 (zd ze (zd (zp zas ze zm) zk))))
 (zq (za4 (zL (zp zf2 ze ze)) (zad (zah (zd ze (zd zis zk)))) zay)
 (zad (zah (zd (zp za0 (zen (zd ze (zd (zah (zd zm (zd zm zk))) zk))) (zE 2 (zd ze (zd zm zk)))) (zd ze zk)))))))),
 (w_s (zD (zC (w_a w_v zj)))
 (w_s (zdw (zcN (zlU (zgZ (zV zid (zam zaB w_v zn) zn) (zfc (zxe (zxf w_v))))) (zO (zD (zag (w_a zn (w_a zn zj))))) zaw))
 (w_s (zD (zC (w_a w_v (w_a (zI zar w_v zn) zj))))
 (w_s (zcN (zV zid w_v w_v) (zO (zab (zag (w_a w_v (w_a zim zj))))) zaw)
 (zO (zab (zag (w_a (zam zb0 (zel (w_a w_v (w_a (zag (w_a zn (w_a zn zj))) zj))) (zC (w_a w_v (w_a zn zj)))) (w_a w_v zj)))))))))⟩
noncomputable def zhI:MS:=(zz (zK 3 (mOp zck (mUn (zaH "Form" "beneath") (zi 1)) (mOp zaO (zi 2) (mC (.int 1)))))
  (zz (zK 4 (zN zY (zf (mUn (zaH "Form" "beneath") (zi 0)) (zf (zi 3) zo))))
  (zz (zK 5 (mOp zge (zi 3) (zi 4)))
  (zz (zK 6 (mOp zck (mOp zge (mUn (zaH "Form" "beneath") (zi 0)) (zi 4)) (mOp zaO (zi 2) (mC (.int 0)))))
  (zz (zK 7 (mDC (mIt zcj (mFz (mUn (zaH "Form" "numbers") (zi 0)))) 2 [5] (zbj 2 (zQ (zy 0) (zQ (zy 1) zbz))) zdk (zi 0) (mOp zck (zi 1) (zi 2))))
  (zz (zdi (mIt zcj (mFz (mUn (zaH "Form" "numbers") (zi 1)))) (zbj 2 (zQ (zy 8) (zQ (zy 9) zbz))) (zdn 7 (zi 8) (mOp zcg (zcS (zi 7) (zi 8) (mC (.int 0))) (mOp zck (zi 9) (zi 6)))))
  (zaM (zN zcb (zf (zi 7) (zf (mOp zck (mUn (zaH "Form" "beneath") (zi 0)) (zi 5)) (zf (mCB ziu (zf (mUn (zaH "Form" "room") (zi 0)) (zf (mUn (zaH "Form" "room") (zi 1)) zo))) zo)))))))))))
noncomputable def zcq:FD:=za2 10 [0,1,2] zhI
abbrev zhJ(Z:Zs):Prop:=Z.C "form_sum" 4 ["one", "other", "f"] 3 zcq
theorem zmJ(B:Bs Z)(A:FnZ Z "form_sum" zhD)(c0:za8 Z)(c1:zec Z):zhJ Z :=
 by obtain⟨hB,_,_,_,_,⟨CForm,oXForm⟩⟩:=B; exact zbE A ["one", "other", "f", "beneath", "factor", "first", "second", "sums", "product", "many"] fun nd hr=>⟨_,(zq (zx (zp zaU (zc1 (zav oXForm.xn oXForm.cl (oXForm.na _ (by decide))) ze) (zp zac ze zm)))
 (zq (zx (zE 2 (zd (zc1 (zav oXForm.xn oXForm.cl (oXForm.na _ (by decide))) ze) (zd ze zk))))
 (zq (zx (zp zd5 ze ze))
 (zq (zx (zp zaU (zp zd5 (zc1 (zav oXForm.xn oXForm.cl (oXForm.na _ (by decide))) ze) ze) (zp zac ze zm)))
 (zq (zx (zx7 (zbQ (zaL (zc1 (zav oXForm.xn oXForm.cl (oXForm.na _ (by decide))) ze))) (zbf (zM zw (zM zw zbe))) zbg ze (zp zaU ze ze)))
 (zq (zb2 (zbQ (zaL (zc1 (zav oXForm.xn oXForm.cl (oXForm.na _ (by decide))) ze))) (zbf (zM zw (zM zw zbe))) (zeS ze (zp zas (zea ze ze zm) (zp zaU ze ze))))
 (zad (zE 3 (zd ze (zd (zp zaU (zc1 (zav oXForm.xn oXForm.cl (oXForm.na _ (by decide))) ze) ze) (zd (zan zjj (zd (zc1 (zav oXForm.xn oXForm.cl (oXForm.na _ (by decide))) ze) (zd (zc1 (zav oXForm.xn oXForm.cl (oXForm.na _ (by decide))) ze) zk))) zk))))))))))),
 (w_s (zD (zI zaT (za3 _ rfl w_v rfl) (zam zaB w_v zn)))
 (w_s (zD (zC (w_a (za3 _ rfl w_v rfl) (w_a w_v zj))))
 (w_s (zD (zI zcY w_v w_v))
 (w_s (zD (zI zaT (zI zcY (za3 _ rfl w_v rfl) w_v) (zam zaB w_v zn)))
 (w_s (zrK hr (zcw (zaK (za3 _ rfl w_v rfl))) (zbd (w_g zv (w_g zv zbb))) zbc w_v (zI zaT w_v w_v))
 (w_s (zb1 (zcw (zaK (za3 _ rfl w_v rfl))) (zbd (w_g zv (w_g zv zbb))) (zO (zeL hr w_v w_v (zI zar (zd9 hr w_v w_v zn ⟨rfl,rfl,rfl,rfl⟩) (zI zaT w_v w_v)))))
 (zO (zab (zC (w_a w_v (w_a (zI zaT (za3 _ rfl w_v rfl) w_v) (w_a (zbO (zfS rfl) PyProof.Rows.boot_max (w_a (za3 _ rfl w_v rfl) (w_a (za3 _ rfl w_v rfl) zj))) zj))))))))))))⟩
noncomputable def zcr:MS:=(zaM (zN zcb (zf (zeZ (mOp zep (zaP (zf (mC (.int 0)) zo)) (zi 1)) (mOp zaO (zi 0) (mC (.int 0)))) (zf (mOp zaO (zi 0) (mC (.int 1))) (zf (mC (.int 256)) zo)))))
noncomputable def zal:FD:=za2 2 [0,1] zcr
abbrev zcs(Z:Zs):Prop:=Z.C "number_by_powers" 4 ["f", "many_letters"] 2 zal
theorem ze2(B:Bs Z)(A:FnZ Z "number_by_powers" zcm)(c0:zec Z):zcs Z :=
 by obtain⟨hB,_,⟨TROOM,g_ROOM⟩,_⟩:=B; exact zbE A ["f", "many_letters"] fun nd hr=>⟨_,(zad (zE 3 (zd (zfx (zp zfv (zah (zd zm zk)) ze) (zp zac ze zm)) (zd (zp zac ze zm) (zd zm zk))))),
 (zO (zab (zC (w_a (zfw hr (zI (zfu _ rfl) (zag (w_a zn zj)) w_v) (zam zaB w_v zn)) (w_a (zam zaB w_v zn) (w_a (zfY (v:=.int 256) rfl g_ROOM ⟨_,rfl⟩) zj))))))⟩
noncomputable def zcI:MS:=(zz (zK 2 zbX)
  (zz (zdi (mIt zcj (mFz (mUn (zaH "Form" "numbers") (zi 0)))) (zbj 2 (zQ (zy 3) (zQ (zy 4) zbz))) (zdi (mIt zcj (mFz (mUn (zaH "Form" "numbers") (zi 1)))) (zbj 2 (zQ (zy 5) (zQ (zy 6) zbz))) (zz (zK 7 (zN zbH (zf (zi 3) (zf (zi 5) zo))))
  (zdn 2 (zi 7) (mOp zcg (zcS (zi 2) (zi 7) (mC (.int 0))) (mOp zck (zi 4) (zi 6)))))))
  (zaM (zN zcb (zf (zi 2) (zf (mOp zck (mUn (zaH "Form" "beneath") (zi 0)) (mUn (zaH "Form" "beneath") (zi 1))) (zf (mCB ziu (zf (mUn (zaH "Form" "room") (zi 0)) (zf (mUn (zaH "Form" "room") (zi 1)) zo))) zo)))))))
noncomputable def zaJ:FD:=za2 8 [0,1] zcI
abbrev zcJ(Z:Zs):Prop:=Z.C "times_by_powers" 4 ["one", "other"] 2 zaJ
theorem zfI(B:Bs Z)(A:FnZ Z "times_by_powers" zcA)(c0:zey Z)(c1:zec Z):zcJ Z :=
 by obtain⟨hB,_,_,_,_,⟨CForm,oXForm⟩⟩:=B; exact zbE A ["one", "other", "sums", "powers", "many", "others", "more", "both"] fun nd hr=>⟨_,(zq (zx zb6)
 (zq (zb2 (zbQ (zaL (zc1 (zav oXForm.xn oXForm.cl (oXForm.na _ (by decide))) ze))) (zbf (zM zw (zM zw zbe))) (zb2 (zbQ (zaL (zc1 (zav oXForm.xn oXForm.cl (oXForm.na _ (by decide))) ze))) (zbf (zM zw (zM zw zbe))) (zq (zx (zE 2 (zd ze (zd ze zk))))
 (zeS ze (zp zas (zea ze ze zm) (zp zaU ze ze))))))
 (zad (zE 3 (zd ze (zd (zp zaU (zc1 (zav oXForm.xn oXForm.cl (oXForm.na _ (by decide))) ze) (zc1 (zav oXForm.xn oXForm.cl (oXForm.na _ (by decide))) ze)) (zd (zan zjj (zd (zc1 (zav oXForm.xn oXForm.cl (oXForm.na _ (by decide))) ze) (zd (zc1 (zav oXForm.xn oXForm.cl (oXForm.na _ (by decide))) ze) zk))) zk))))))),
 (w_s (zD zb3)
 (w_s (zb1 (zcw (zaK (za3 _ rfl w_v rfl))) (zbd (w_g zv (w_g zv zbb))) (zO (zb1 (zcw (zaK (za3 _ rfl w_v rfl))) (zbd (w_g zv (w_g zv zbb))) (w_s (zD (zC (w_a w_v (w_a w_v zj))))
 (zO (zeL hr w_v w_v (zI zar (zd9 hr w_v w_v zn ⟨rfl,rfl,rfl,rfl⟩) (zI zaT w_v w_v))))))))
 (zO (zab (zC (w_a w_v (w_a (zI zaT (za3 _ rfl w_v rfl) (za3 _ rfl w_v rfl)) (w_a (zbO (zfS rfl) PyProof.Rows.boot_max (w_a (za3 _ rfl w_v rfl) (w_a (za3 _ rfl w_v rfl) zj))) zj))))))))⟩
noncomputable def zeF:MS:=(zz (zK 3 (mOp zcg (mC (.int 1)) (zN zA (zf (zi 0) (zf (zi 2) zo)))))
  (zz (zK 4 (zN zA (zf (zi 0) (zf (mC (.int 3)) zo))))
  (zz (zK 5 (zfZ zo))
  (zz (zdi (zgg (zf (zi 3) zo)) (zy 6) (zz (zK 7 (zfZ zo))
  (zz (zdi (zgg (zf (zi 3) zo)) (zy 8) (zz (zK 9 (zN zbK (zf (zi 0) (zf (mCB (f1 zcR) (zf (zi 1) zo)) (zf (mC (.bool true)) zo)))))
  (zz (zbW (zkx (mB (mOp (zdr false) (zi 4) (mC (.int 2)))) (mB (mOp (zdr false) (zN zA (zf (zi 0) (zf (mC (.int 3)) zo))) (mC (.int 0))))) (zK 9 (zaP (zf (zaP (zf (mC (.int 0)) (zf (mC (.int 1)) zo))) (zf (mC .none) zo)))) zaG)
  (zha (zjq 7 (zi 9))))))
  (zha (zjq 5 (mCB (f1 zbm) (zf (zi 7) zo)))))))
  (zaM (zaP (zf (zi 1) (zf (mCB (f1 zbm) (zf (zi 5) zo)) zo))))))))
noncomputable def zbL:FD:=za2 10 [0,1,2] zeF
abbrev zeG(Z:Zs):Prop:=Z.C "_law_table" 4 ["_law_box_here", "_law_letters", "_law_most"] 3 zbL
theorem zh9(B:Bs Z)(A:FnZ Z "_law_table" zev)(c0:zaV Z)(c1:zeE Z):zeG Z :=
 have hB:=B.1; zbE A ["_law_box_here", "_law_letters", "_law_most", "_law_many", "_law_kind", "_law_rows", "_law_k", "_law_row", "_law_j", "_law_entry_here"] fun nd hr=>⟨_,(zq (zx (zp zas zm (zE 2 (zd ze (zd ze zk)))))
 (zq (zx (zE 2 (zd ze (zd zm zk))))
 (zq (zx (zen zk))
 (zq (zb2 (zfg (zd ze zk)) zw (zq (zx (zen zk))
 (zq (zb2 (zfg (zd ze zk)) zw (zq (zx (zE 3 (zd ze (zd (zan za1 (zd ze zk)) (zd zqd zk)))))
 (zq (zdE (za4 (zg8 (zL (zp zf2 ze zm)) (zL (zp zf2 (zE 2 (zd ze (zd zm zk))) zm))) (zx (zah (zd (zah (zd zm (zd zm zk))) (zd zis zk)))) zay))
 (zjl (znk ze)))))
 (zjl (znk (zan zbn (zd ze zk)))))))
 (zad (zah (zd ze (zd (zan zbn (zd ze zk)) zk)))))))),
 (w_s (zD (zI zar zn (zC (w_a w_v (w_a w_v zj)))))
 (w_s (zD (zC (w_a w_v (w_a zn zj))))
 (w_s (zD (zel zj))
 (w_s (zb1 (zdv (w_a w_v zj)) zv (w_s (zD (zel zj))
 (w_s (zb1 (zdv (w_a w_v zj)) zv (w_s (zD (zC (w_a w_v (w_a (zbO zbZ PySem.boot_len (w_a w_v zj)) (w_a zp7 zj)))))
 (w_s (zdw (zcN (zlU (zgZ (zV zid w_v zn) (zfc (zV zid (zC (w_a w_v (w_a zn zj))) zn)))) (zO (zD (zag (w_a (zag (w_a zn (w_a zn zj))) (w_a zim zj))))) zaw))
 (zO (zjc (zoP _ rfl PySem.F.plainAttrs_list PySem.F.slot_list_append PySem.F.type_list_append zd1 w_v (w_a w_v zj)))))))
 (zO (zjc (zoP _ rfl PySem.F.plainAttrs_list PySem.F.slot_list_append PySem.F.type_list_append zd1 w_v (w_a (zcM zaS PyProof.Rows.boot_tuple (w_a w_v zj)) zj)))))))
 (zO (zab (zag (w_a w_v (w_a (zcM zaS PyProof.Rows.boot_tuple (w_a w_v zj)) zj)))))))))⟩
noncomputable def zdS:MS:=(zaM (zN zaI (zf (zi 0) (zf (zeZ (mOp zep (zaP (zf (mC (.int 0)) zo)) (mCB (f1 zcR) (zf (mOp zcQ (mCB (f1 zjT) (zf (zi 0) zo)) (mC (.int 0))) zo))) (zi 1)) zo))))
noncomputable def zbu:FD:=za2 2 [0,1] zdS
abbrev zdT(Z:Zs):Prop:=Z.C "_law_scaled" 4 ["_law_some", "_law_f"] 2 zbu
theorem zhK(B:Bs Z)(A:FnZ Z "_law_scaled" zdN)(c0:zcH Z):zdT Z :=
 have hB:=B.1; zbE A ["_law_some", "_law_f"] fun nd hr=>⟨_,(zad (zE 2 (zd ze (zd (zfx (zp zfv (zah (zd zm zk)) (zan za1 (zd (zp za0 (zan zsi (zd ze zk)) zm) zk))) ze) zk)))),
 (zO (zab (zC (w_a w_v (w_a (zfw hr (zI (zfu _ rfl) (zag (w_a zn zj)) (zbO zbZ PySem.boot_len (w_a (zam zb0 (zcM (zmH _ rfl rfl) PyProof.Rows.boot_list (w_a w_v zj)) zn) zj))) w_v) zj)))))⟩
noncomputable def zdU:MS:=(zaM (mIf (mB (mOp (zqs false) (zi 1) (mC .none))) (zi 0) (zN zaJ (zf (zi 0) (zf (zN zaD (zf (zi 1) (zf (zi 2) zo))) zo)))))
noncomputable def zbR:FD:=za2 3 [0,1,2] zdU
abbrev zgo(Z:Zs):Prop:=Z.C "by_letter" 5 ["form", "letter", "many_letters"] 3 zbR
theorem zli(B:Bs Z)(A:FnZ Z "by_letter" zgj)(c0:zcp Z)(c1:zcJ Z):zgo Z :=
 have hB:=B.1; zbE A ["form", "letter", "many_letters"] fun nd hr=>⟨_,(zad (zy8 (zL (zp zxs ze zis)) ze (zE 2 (zd ze (zd (zE 2 (zd ze (zd ze zk))) zk))))),
 (zO (zab (zu5 (zV zwQ w_v zim) w_v (zC (w_a w_v (w_a (zC (w_a w_v (w_a w_v zj))) zj))))))⟩
noncomputable def zfJ:MS:=(zz (zoV (zi 0) (zbj 2 (zQ (zy 1) (zQ (zy 2) zbz))))
  (zz (zK 3 (mCB (f1 zcR) (zf (zi 1) zo)))
  (zz (zK 4 (zN zal (zf (mC (.tuple [.int 0,.int 1])) (zf (zi 3) zo))))
  (zz (zK 5 (zeZ (zaP zo) (zN zal (zf (mC (.tuple [.int 1,.int 1])) (zf (zi 3) zo)))))
  (zz (zdi (mIt zjn (zi 2)) (zy 6) (zz (zK 7 zbX)
  (zz (zdi (mIt zcj (mFz (zi 5))) (zbj 2 (zQ (zy 8) (zQ (zy 9) zbz))) (zdi (znh (zf (zi 6) zo)) (zbj 2 (zQ (zy 10) (zQ (zbj 2 (zQ (zy 11) (zQ (zy 12) zbz))) zbz))) (zbW (zkx (mB (mOp (fIn true) (zi 10) (zi 8))) (mB (mUn (zxS true [0,1]) (zi 11)))) (zz (zK 13 (mOp zxW (mCB (f1 zcR) (zf (mLC (mIt zjn (zi 8)) 1 [10] (zy 0) (mB (mOp fGt (zi 0) (zi 1))) (zi 0)) zo)) (mC (.int 1))))
  (zz (zK 14 (mIf (zqf (zi 13)) (zaP (zf (mUn zl4 (mOp zaO (zi 11) (mC (.int 0)))) (zf (mOp zaO (zi 11) (mC (.int 1))) zo))) (zi 11)))
  (zz (zK 15 (mCB (f1 zbm) (zf (mCB (f1 zjM) (zf (mOp zeV (zi 8) (zaP (zf (zi 10) zo))) zo)) zo)))
  (zdn 7 (zi 15) (zN zcq (zf (zcS (zi 7) (zi 15) (zi 4)) (zf (zN zbR (zf (zi 9) (zf (zi 12) (zf (zi 3) zo)))) (zf (zi 14) zo)))))))) zaG)))
  (zK 5 (mFz (zi 7))))))
  (zaM (mCB (f1 zbm) (zf (zN zbt (zf (zcS (zi 5) (zfz (zf (mCB (f1 zcR) (zf (zi 2) zo)) zo)) (zi 4)) zo)) zo))))))))
noncomputable def zb9:FD:=za2 16 [0] zfJ
abbrev zfK(Z:Zs):Prop:=Z.C "signed_sum" 6 ["table"] 1 zb9
theorem zjW(B:Bs Z)(A:FnZ Z "signed_sum" zfA)(c0:zhJ Z)(c1:zcs Z)(c2:zdR Z)(c3:zgo Z):zfK Z :=
 by obtain⟨hB,_,_,⟨GNOUGHT,g_NOUGHT,gt_NOUGHT⟩,⟨GONE,g_ONE,gt_ONE⟩,_⟩:=B; exact zbE A ["table", "letters", "rows", "many", "nought", "ahead", "row", "behind", "taken", "form", "column", "f", "letter", "is_odd", "signed", "both"] fun nd hr=>⟨_,(zq (zvd ze (zbf (zM zw (zM zw zbe))))
 (zq (zx (zan za1 (zd ze zk)))
 (zq (zx (zE 2 (zd (zrR gt_NOUGHT) (zd ze zk))))
 (zq (zx (zfx (zah zk) (zE 2 (zd (zrR gt_ONE) (zd ze zk)))))
 (zq (zb2 (zjo ze) zw (zq (zx zb6)
 (zq (zb2 (zbQ (zaL ze)) (zbf (zM zw (zM zw zbe))) (zb2 (ztE (zd ze zk)) (zbf (zM zw (zM (zbf (zM zw (zM zw zbe))) zbe))) (za4 (zg8 (zL (zp (znG true) ze ze)) (zL (zzQ (neg:=true) gt_NOUGHT ze))) (zq (zx (zp zxX (zan za1 (zd (zfj (zjo ze) zw (zL (zp znb ze ze)) ze) zk)) zm))
 (zq (zx (zy8 (zqg ze) (zah (zd (zc1 zjh (zp zac ze zm)) (zd (zp zac ze zm) zk))) ze))
 (zq (zx (zan zbn (zd (zan zrV (zd (zp zhh ze (zah (zd ze zk))) zk)) zk)))
 (zeS ze (zE 3 (zd (zea ze ze ze) (zd (zE 3 (zd ze (zd ze (zd ze zk)))) (zd ze zk)))))))) zay)))
 (zx (zaL ze)))))
 (zad (zan zbn (zd (zE 1 (zd (zea ze (zph (zd (zan za1 (zd ze zk)) zk)) ze) zk)) zk)))))))),
 (w_s (zdx w_v (zbd (w_g zv (w_g zv zbb))))
 (w_s (zD (zbO zbZ PySem.boot_len (w_a w_v zj)))
 (w_s (zD (zC (w_a (zfY (v:=.ref GNOUGHT) rfl g_NOUGHT rfl) (w_a w_v zj))))
 (w_s (zD (zfw hr (zag zj) (zC (w_a (zfY (v:=.ref GONE) rfl g_ONE rfl) (w_a w_v zj)))))
 (w_s (zb1 (zjb w_v) zv (w_s (zD zb3)
 (w_s (zb1 (zcw (zaK w_v)) (zbd (w_g zv (w_g zv zbb))) (zO (zb1 (zty (w_a w_v zj)) (zbd (w_g zv (w_g (zbd (w_g zv (w_g zv zbb))) zbb))) (zO (zcN (zlU (zgZ (zV zm4 w_v w_v rfl) (zfc (zV (zxi _ rfl hr) w_v (zfY (v:=.ref GNOUGHT) rfl g_NOUGHT rfl))))) (w_s (zD (zI zwO (zbO zbZ PySem.boot_len (w_a (zhS (zjb w_v) zv (zp9 (zV zmU w_v w_v)) w_v) zj)) zn))
 (w_s (zD (zu5 (zu7 w_v) (zag (w_a (ztx ziW (zam zaB w_v zn)) (w_a (zam zaB w_v zn) zj))) w_v))
 (w_s (zD (zcM zaS PyProof.Rows.boot_tuple (w_a (zbO zmz PyProof.Rows.boot_sorted (w_a (zI zhg w_v (zag (w_a w_v zj))) zj)) zj)))
 (zO (zeL hr w_v w_v (zC (w_a (zd9 hr w_v w_v w_v ⟨rfl,rfl,rfl,rfl⟩) (w_a (zC (w_a w_v (w_a w_v (w_a w_v zj)))) (w_a w_v zj))))))))) zaw)))))
 (zO (zD (zaK w_v))))))
 (zO (zab (zcM zaS PyProof.Rows.boot_tuple (w_a (zC (w_a (zd9 hr w_v (zcM (zpg rfl) PyProof.Rows.boot_tuple (w_a (zcM zoX PyProof.Rows.boot_range (w_a (zbO zbZ PySem.boot_len (w_a w_v zj)) zj)) zj)) w_v ⟨rfl,rfl,rfl,rfl⟩) zj)) zj)))))))))⟩
noncomputable def zgp:MS:=(zaM (mCB (f1 zjR) (zf (zN zb9 (zf (zaP (zf (zi 0) (zf (mCB (f1 zbm) (zf (mLC (mIt zjm (mFz (zi 1))) 1 [] (zy 0) zdk (mCB (f1 zbm) (zf (zi 0) zo))) zo)) zo))) zo)) zo)))
noncomputable def zZ:FD:=za2 2 [0,1] zgp
abbrev zdV(Z:Zs):Prop:=Z.C "_law_sum" 7 ["_law_letters", "_law_rows"] 2 zZ
theorem zlj(B:Bs Z)(A:FnZ Z "_law_sum" zgl)(c0:zfK Z):zdV Z :=
 have hB:=B.1; zbE A ["_law_letters", "_law_rows"] fun nd hr=>⟨_,(zad (zan zsa (zd (zE 1 (zd (zah (zd ze (zd (zan zbn (zd (zfj (zd7 (zaL ze)) zw zbg (zan zbn (zd ze zk))) zk)) zk))) zk)) zk))),
 (zO (zab (zcM (zmE _ rfl hr rfl) PyProof.Rows.boot_dict (w_a (zC (w_a (zag (w_a w_v (w_a (zcM zaS PyProof.Rows.boot_tuple (w_a (zhS (zd3 (zaK w_v)) zv zbc (zcM zaS PyProof.Rows.boot_tuple (w_a w_v zj))) zj)) zj))) zj)) zj))))⟩
noncomputable def zeH:MS:=(zz (zK 4 (mLC (mIt zjm (mFz (zi 2))) 1 [0] (zy 0) zdk (zN zai (zf (zi 1) zo))))
  (zz (zK 5 (mLC (mIt zjm (mFz (zi 2))) 1 [0] (zy 0) zdk (zN zai (zf (zi 1) zo))))
  (zz (zK 6 (mLC (zse (zf (mFz (zi 4)) (zf (mFz (zi 5)) zo))) 2 [] (zbj 2 (zQ (zy 0) (zQ (zy 1) zbz))) zdk (zN zaX (zf (zi 0) (zf (zi 1) zo)))))
  (zz (zK 7 (zfZ zo))
  (zz (zdi (mIt zjn (zaP (zf (mFz (zi 4)) (zf (mFz (zi 5)) (zf (mFz (zi 6)) zo))))) (zy 8) (zz (zK 9 (mCB (f1 zdB) (zf (zi 2) zo)))
  (zz (zbC 9 (mFz (mLC (mIt zjm (mFz (zi 8))) 1 [] (zy 0) zdk (zaP (zf (zi 0) (zf (mC .none) zo))))) (zi 3))
  (zha (zjq 7 (mFz (zN zZ (zf (zi 1) (zf (zi 9) zo)))))))))
  (zaM (mOp (zdK true) (zN zak (zf (mOp zcQ (zi 7) (mC (.int 0))) (zf (mOp zcQ (zi 7) (mC (.int 1))) (zf (mC (.int 1)) zo)))) (mOp zcQ (zi 7) (mC (.int 2))))))))))
noncomputable def zbM:FD:=za2 10 [0,1,2,3] zeH
abbrev zeI(Z:Zs):Prop:=Z.C "_law_added" 8 ["_law_box_here", "_law_letters", "_law_rows", "_law_at"] 4 zbM
theorem zia(B:Bs Z)(A:FnZ Z "_law_added" zew)(c0:zb8 Z)(c1:zbF Z)(c2:zbJ Z)(c3:zdV Z):zeI Z :=
 have hB:=B.1; zbE A ["_law_box_here", "_law_letters", "_law_rows", "_law_at", "_law_ones", "_law_others", "_law_boths", "_law_sums", "_law_row", "_law_some"] fun nd hr=>⟨_,(zq (zx (zfj (zd7 (zaL ze)) zw zbg (zE 1 (zd ze zk))))
 (zq (zx (zfj (zd7 (zaL ze)) zw zbg (zE 1 (zd ze zk))))
 (zq (zx (zfj (zuv (zd (zaL ze) (zd (zaL ze) zk))) (zbf (zM zw (zM zw zbe))) zbg (zE 2 (zd ze (zd ze zk)))))
 (zq (zx (zen zk))
 (zq (zb2 (zjo (zah (zd (zaL ze) (zd (zaL ze) (zd (zaL ze) zk))))) zw (zq (zx (zan zd6 (zd ze zk)))
 (zq (zb5 (zaL (zfj (zd7 (zaL ze)) zw zbg (zah (zd ze (zd zis zk))))) ze)
 (zjl (znk (zaL (zE 2 (zd ze (zd ze zk)))))))))
 (zad (zp zcz (zE 3 (zd (zp za0 ze zm) (zd (zp za0 ze zm) (zd zm zk)))) (zp za0 ze zm)))))))),
 (w_s (zm6 (zd3 (zaK w_v)) zv zbc (zC (w_a w_v zj)))
 (w_s (zm6 (zd3 (zaK w_v)) zv zbc (zC (w_a w_v zj)))
 (w_s (zm6 (zuu (w_a (zaK w_v) (w_a (zaK w_v) zj))) (zbd (w_g zv (w_g zv zbb))) zbc (zC (w_a w_v (w_a w_v zj))))
 (w_s (zD (zel zj))
 (w_s (zb1 (zjb (zag (w_a (zaK w_v) (w_a (zaK w_v) (w_a (zaK w_v) zj))))) zv (w_s (zD (zcM zcZ PyProof.Rows.boot_list (w_a w_v zj)))
 (w_s (zdx (zaK (zhS (zd3 (zaK w_v)) zv zbc (zag (w_a w_v (w_a zim zj))))) (zdf w_v w_v zbk))
 (zO (zjc (zoP _ rfl PySem.F.plainAttrs_list PySem.F.slot_list_append PySem.F.type_list_append zd1 w_v (w_a (zaK (zC (w_a w_v (w_a w_v zj)))) zj)))))))
 (zO (zab (zmZ (zcy (.inl ⟨rfl,rfl⟩) _ rfl hr) (zC (w_a (zam zb0 w_v zn) (w_a (zam zb0 w_v zn) (w_a zn zj)))) (zam zb0 w_v zn)))))))))⟩
noncomputable def zv8:MS:=(zz (zK 1 (zN zcD (zf (zi 0) (zf (mC (.int 0)) zo))))
  (zz (zoV (zN zbL (zf (zi 1) (zf (zN zbI (zf (zi 1) (zf (mOp zcg (mC (.int 1)) (zN zA (zf (zi 1) (zf (mC (.int 3)) zo)))) zo))) (zf (mC (.int 4)) zo)))) (zbj 2 (zQ (zy 2) (zQ (zy 3) zbz))))
  (zz (zK 3 (mCB (f1 zdB) (zf (zi 3) zo)))
  (zz (zbW (mB (mOp (zdr false) (mCB (f1 zcR) (zf (zi 3) zo)) (mC (.int 1)))) (zaM (mOp (zdK true) (zN zZ (zf (zi 2) (zf (zfZ (zf (mFz (zfZ (zf (zaP (zf (zaP (zf (mC (.int 3)) (zf (mC (.int 2)) zo))) (zf (mC .none) zo))) zo))) zo)) zo))) (zeZ (mOp zep (zaP (zf (mC (.int 0)) zo)) (mCB (f1 zcR) (zf (zi 2) zo))) (zaP (zf (mC (.int 3)) (zf (mC (.int 2)) zo)))))) zaG)
  (zz (zK 4 (zN zZ (zf (zi 2) (zf (zi 3) zo))))
  (zz (zK 5 (zN zA (zf (zi 1) (zf (mCB (f1 zcR) (zf (zi 3) zo)) zo))))
  (zz (zK 6 (mOp zeQ (mOp zcg (mOp zcg (zi 5) (mC (.int 1))) (zN zA (zf (zi 1) (zf (mOp zl3 (mCB (f1 zcR) (zf (zi 3) zo)) (mC (.int 1))) zo)))) (mCB (f1 zcR) (zf (zi 3) zo))))
  (zz (zK 7 (zN zak (zf zbX (zf (zi 4) (zf (mUn zl4 (mC (.int 1))) zo)))))
  (zz (zbW (mB (mOp (zdK false) (zN zZ (zf (zi 2) (zf (zN zaq (zf (zi 3) (zf (zi 5) (zf (zi 6) zo)))) zo))) (zi 7))) (zaM (mC (.bool false))) zaG)
  (zz (zbW (mB (mOp (zdK false) (zN zZ (zf (zi 2) (zf (mLC (mIt zjm (mFz (zi 3))) 1 [6,5] (zy 0) zdk (mFz (zN zaq (zf (zi 0) (zf (zi 2) (zf (zi 1) zo)))))) zo))) (zi 7))) (zaM (mC (.bool false))) zaG)
  (zz (zbW (mB (mOp (zdK false) (zN zZ (zf (zi 2) (zf (zN zbs (zf (zi 3) zo)) zo))) (zi 4))) (zaM (mC (.bool false))) zaG)
  (zz (zK 8 (mCB (f1 zdB) (zf (zi 3) zo)))
  (zz (zbC 8 (mOp zcQ (zi 3) (zi 6)) (zi 5))
  (zz (zK 9 (mCB (f1 zdB) (zf (zi 3) zo)))
  (zz (zbC 9 (mFz (mOp zpk (zfZ (zf (zaP (zf (zaP (zf (mC (.int 0)) (zf (mC (.int 1)) zo))) (zf (mC .none) zo))) zo)) (mCB (f1 zcR) (zf (zi 3) zo)))) (zi 5))
  (zz (zbW (mOr (mB (mOp (zdK false) (zN zZ (zf (zi 2) (zf (zi 8) zo))) zbX)) (mB (mOp (zdK false) (zN zZ (zf (zi 2) (zf (zi 9) zo))) zbX))) (zaM (mC (.bool false))) zaG)
  (zz (zK 10 (zN zai (zf (zi 1) zo)))
  (zz (zK 11 (mCB (f1 zdB) (zf (zi 3) zo)))
  (zz (zbC 11 (mFz (mLC (mIt zjn (mOp zcQ (zi 3) (zi 5))) 1 [10] (zy 0) zdk (zaP (zf (zN za6 (zf (mOp zaO (zi 0) (mC (.int 0))) (zf (zi 1) zo))) (zf (mOp zaO (zi 0) (mC (.int 1))) zo))))) (zi 5))
  (zz (zK 12 zbX)
  (zz (zbW (zkx (mB (mOp fGt (mCB (f1 zod) (zf (zi 4) zo)) (mC (.int 0)))) (mB (mOp (zdr true) (mOp zaO (zi 10) (mC (.int 0))) (mC (.int 0))))) (zK 12 (zN zbu (zf (zi 4) (zf (zi 10) zo)))) zaG)
  (zaM (znd (mOp (zdK true) (zN zZ (zf (zi 2) (zf (zi 11) zo))) (zi 12)) (zN zbM (zf (zi 1) (zf (zi 2) (zf (zi 3) (zf (zi 5) zo))))))))))))))))))))))))))))
noncomputable def ziN:FD:=za2 13 [0] zv8
theorem zyf{f:Addr}{fd:FuncData}(B:Bs Z)(F:Fun Z.K "law" "law" zv7 f fd)(c0:zgn Z)(c1:zaV Z)(c2:zeA Z)(c3:zcU Z)(c4:zbF Z)(c5:zbJ Z)(c6:zeG Z)(c7:zdV Z)(c8:zcF Z)(c9:zdP Z)(c10:zdT Z)(c11:zeI Z):FnOk Z.P Z.w Z.K Z.mg Z.base CX0 9 f fd ["_law_script"] (spV Z.K 1 ziN) :=
 have hB:=B.1; okZ F ["_law_script", "_law_box_here", "_law_letters", "_law_rows", "_law_found", "_law_one", "_law_other", "_law_opposite", "_law_twice", "_law_bare", "_law_f", "_law_greater", "_law_due"] fun nd hr=>⟨_,(zq (zx (zE 2 (zd ze (zd zm zk))))
 (zq (zvd (zE 3 (zd ze (zd (zE 2 (zd ze (zd (zp zas zm (zE 2 (zd ze (zd zm zk)))) zk))) (zd zm zk)))) (zbf (zM zw (zM zw zbe))))
 (zq (zx (zan zd6 (zd ze zk)))
 (zq (za4 (zL (zp zf2 (zan za1 (zd ze zk)) zm)) (zad (zp zcz (zE 2 (zd ze (zd (zen (zd (zaL (zen (zd (zah (zd (zah (zd zm (zd zm zk))) (zd zis zk))) zk))) zk)) zk))) (zfx (zp zfv (zah (zd zm zk)) (zan za1 (zd ze zk))) (zah (zd zm (zd zm zk)))))) zay)
 (zq (zx (zE 2 (zd ze (zd ze zk))))
 (zq (zx (zE 2 (zd ze (zd (zan za1 (zd ze zk)) zk))))
 (zq (zx (zp zbU (zp zas (zp zas ze zm) (zE 2 (zd ze (zd (zp zg5 (zan za1 (zd ze zk)) zm) zk)))) (zan za1 (zd ze zk))))
 (zq (zx (zE 3 (zd zb6 (zd ze (zd (zc1 zjh zm) zk)))))
 (zq (za4 (zL (zp zcz (zE 2 (zd ze (zd (zE 3 (zd ze (zd ze (zd ze zk)))) zk))) ze)) (zad zqd) zay)
 (zq (za4 (zL (zp zcz (zE 2 (zd ze (zd (zfj (zd7 (zaL ze)) zw zbg (zaL (zE 3 (zd ze (zd ze (zd ze zk)))))) zk))) ze)) (zad zqd) zay)
 (zq (za4 (zL (zp zcz (zE 2 (zd ze (zd (zE 1 (zd ze zk)) zk))) ze)) (zad zqd) zay)
 (zq (zx (zan zd6 (zd ze zk)))
 (zq (zb5 (zp za0 ze ze) ze)
 (zq (zx (zan zd6 (zd ze zk)))
 (zq (zb5 (zaL (zp zyc (zen (zd (zah (zd (zah (zd zm (zd zm zk))) (zd zis zk))) zk)) (zan za1 (zd ze zk)))) ze)
 (zq (za4 (zvb (zL (zp zcz (zE 2 (zd ze (zd ze zk))) zb6)) (zL (zp zcz (zE 2 (zd ze (zd ze zk))) zb6))) (zad zqd) zay)
 (zq (zx (zE 1 (zd ze zk)))
 (zq (zx (zan zd6 (zd ze zk)))
 (zq (zb5 (zaL (zfj (zjo (zp za0 ze ze)) zw zbg (zah (zd (zE 2 (zd (zp zac ze zm) (zd ze zk))) (zd (zp zac ze zm) zk))))) ze)
 (zq (zx zb6)
 (zq (zdE (za4 (zg8 (zL (zp znb (zan zut (zd ze zk)) zm)) (zL (zp zhc (zp zac ze zm) zm))) (zx (zE 2 (zd ze (zd ze zk)))) zay))
 (zad (zxo (zp zcz (zE 2 (zd ze (zd ze zk))) ze) (zE 4 (zd ze (zd ze (zd ze (zd ze zk)))))))))))))))))))))))))))),
 (w_s (zD (zC (w_a w_v (w_a zn zj))))
 (w_s (zdx (zC (w_a w_v (w_a (zC (w_a w_v (w_a (zI zar zn (zC (w_a w_v (w_a zn zj)))) zj))) (w_a zn zj)))) (zbd (w_g zv (w_g zv zbb))))
 (w_s (zD (zcM zcZ PyProof.Rows.boot_list (w_a w_v zj)))
 (w_s (zcN (zV zid (zbO zbZ PySem.boot_len (w_a w_v zj)) zn) (zO (zab (zmZ (zcy (.inl ⟨rfl,rfl⟩) _ rfl hr) (zC (w_a w_v (w_a (zel (w_a (zaK (zel (w_a (zag (w_a (zag (w_a zn (w_a zn zj))) (w_a zim zj))) zj))) zj)) zj))) (zfw hr (zI (zfu _ rfl) (zag (w_a zn zj)) (zbO zbZ PySem.boot_len (w_a w_v zj))) (zag (w_a zn (w_a zn zj))))))) zaw)
 (w_s (zD (zC (w_a w_v (w_a w_v zj))))
 (w_s (zD (zC (w_a w_v (w_a (zbO zbZ PySem.boot_len (w_a w_v zj)) zj))))
 (w_s (zD (zI zbT (zI zar (zI zar w_v zn) (zC (w_a w_v (w_a (zI zgO (zbO zbZ PySem.boot_len (w_a w_v zj)) zn) zj)))) (zbO zbZ PySem.boot_len (w_a w_v zj))))
 (w_s (zD (zC (w_a zb3 (w_a w_v (w_a (ztx ziW zn) zj)))))
 (w_s (zcN (zV (zcy (.inr ⟨rfl,rfl⟩) _ rfl hr) (zC (w_a w_v (w_a (zC (w_a w_v (w_a w_v (w_a w_v zj)))) zj))) w_v) (zO (zab zp7)) zaw)
 (w_s (zcN (zV (zcy (.inr ⟨rfl,rfl⟩) _ rfl hr) (zC (w_a w_v (w_a (zhS (zd3 (zaK w_v)) zv zbc (zaK (zC (w_a w_v (w_a w_v (w_a w_v zj)))))) zj))) w_v) (zO (zab zp7)) zaw)
 (w_s (zcN (zV (zcy (.inr ⟨rfl,rfl⟩) _ rfl hr) (zC (w_a w_v (w_a (zC (w_a w_v zj)) zj))) w_v) (zO (zab zp7)) zaw)
 (w_s (zD (zcM zcZ PyProof.Rows.boot_list (w_a w_v zj)))
 (w_s (zdx (zam zb0 w_v w_v) (zdf w_v w_v zbk))
 (w_s (zD (zcM zcZ PyProof.Rows.boot_list (w_a w_v zj)))
 (w_s (zdx (zaK (zI zw4 (zel (w_a (zag (w_a (zag (w_a zn (w_a zn zj))) (w_a zim zj))) zj)) (zbO zbZ PySem.boot_len (w_a w_v zj)))) (zdf w_v w_v zbk))
 (w_s (zcN (zlU (zu4 (zV (zcy (.inr ⟨rfl,rfl⟩) _ rfl hr) (zC (w_a w_v (w_a w_v zj))) zb3) (zp8 (zV (zcy (.inr ⟨rfl,rfl⟩) _ rfl hr) (zC (w_a w_v (w_a w_v zj))) zb3)))) (zO (zab zp7)) zaw)
 (w_s (zD (zC (w_a w_v zj)))
 (w_s (zD (zcM zcZ PyProof.Rows.boot_list (w_a w_v zj)))
 (w_s (zdx (zaK (zhS (zjb (zam zb0 w_v w_v)) zv zbc (zag (w_a (zC (w_a (zam zaB w_v zn) (w_a w_v zj))) (w_a (zam zaB w_v zn) zj))))) (zdf w_v w_v zbk))
 (w_s (zD zb3)
 (w_s (zdw (zcN (zlU (zgZ (zV zmU (zbO zpj PySem.boot_len (w_a w_v zj)) zn) (zfc (zV zkb (zam zaB w_v zn) zn)))) (zO (zD (zC (w_a w_v (w_a w_v zj))))) zaw))
 (zO (zab (zyX (zmZ (zcy (.inl ⟨rfl,rfl⟩) _ rfl hr) (zC (w_a w_v (w_a w_v zj))) w_v) (zyW (zC (w_a w_v (w_a w_v (w_a w_v (w_a w_v zj))))))))))))))))))))))))))))))⟩
end
end K51
set_option exponentiation.threshold 10000
open PySem L2
local macro_rules | `(tactic| simp_arith [$ls,*])=>`(tactic| simp (disch:=first | omega | (simp only [List.length_cons,List.length_nil,List.length_map,List.length_append,List.length_take,List.length_drop,Nat.zero_add,Nat.reduceAdd]<;>omega) | fail) only [$ls,*,↓za7,↓zr,↓nr zc3,↓zqL,↓zzR,↓zvI,↓zqM,↓znH,↓zvJ,↓zqN,↓znI,↓zqO,↓zqP,↓zvK,↓zqQ,↓zqR,↓zqS,↓zqT,↓znJ,↓znK,↓znL,↓zqU,↓zqV,↓zzS,↓zqW,↓zvL,↓zqX,↓znM,↓zqY,↓zqZ,↓zq0,↓zkK,↓znN,↓znO,↓zkL,↓zvM,↓zvN,↓znP,↓znR,↓zq2,↓zq3,↓zvP,↓ziF,↓znS,↓zq4,↓zq5,↓zkM,↓znT,↓zkN,↓znU,↓zvQ,↓zq6,↓zkW,↓zrm,↓zk4,↓zrW,↓zhx,↓zrZ,↓zn9,↓zoc,nr bd,nr zvf,nr zqt,nr znr,nr zkF,nr ziy,nr ziz,nr zhe,nr zkG,nr zqu,nr zzi,nr zzj,nr zqv,nr zns,nr znt,nr zvg,zvh,nr zvi,nr zvj,nr znu,nr zzm,nr zzn,nr zvk,nr zvl,nr zvm,nr zzp,nr zzq,nr zzr,nr zqy,nr zqz,nr znv,nr zqA,nr zvn,nr zvo,nr zzx,nr zzy,nr zzz,nr zzA,nr zvq,nr zvr,nr zqD,nr zqE,nr zzB,nr zvs,nr zvt,nr zvu,nr znw,nr zvv,nr zvw,nr zvx,zvy,zvz,nr znx,nr zkH,nr ziB,nr zvA,nr zvB,nr zqF,nr zny,zzC,zzD,zzE,zzF,zzG,zzH,zzI,zzJ,zzK,zzL,nr zvD,nr zvE,nr zvF,nr znA,nr zvG,nr zvH,znB,nr zqG,zqH,zvO,nr znQ,nr zvR,nr zkP,nr zq7,nr zvS,zoZ,zq9,zjv,nr znX,znY,zmo,zb7,zn2,zn3,zrx,zry,zk3,zrz,ziI,nr zvU,nr zvV,zjH,zft,zmq,zrF,zgF,nr zrX,nr zrY,zr0,zr1,zr2,zr3,zoa,zlc,zob,zjN,zhy,zjO,List.getElem?_cons_zero,List.getElem?_cons_succ,List.set_cons_zero,List.set_cons_succ,List.cons_append,List.nil_append,List.length_cons,List.length_nil,List.replicate,Option.map_some,decide_eq_true_eq,List.mem_cons,List.not_mem_nil,true_or,or_true,or_false,false_or,if_true,if_false,ite_true,ite_false,true_and,and_true,and_false,false_and,Bool.not_true,Bool.not_false,Bool.false_eq_true,not_true,not_false_iff,Nat.zero_add,Nat.reduceAdd,Nat.reduceLeDiff,Nat.reduceEqDiff,Nat.reduceSub,Nat.reduceLT,List.map_cons,List.map_nil,List.getD_cons_zero,List.getD_cons_succ,List.drop_succ_cons,List.drop_zero,decide_true,decide_false,Bool.true_and,Bool.and_true,Bool.true_or,Bool.or_true,Bool.false_or,Bool.or_false,Bool.false_and,Bool.and_false,reduceCtorEq,List.length_map,List.length_append,nr zvC,nr znz,String.reduceEq,↓reduceIte,Int.reduceEq,Int.reduceNe,Int.reduceLT,Int.reduceLE,Int.reduceAdd,Int.reduceSub,Int.reduceNeg,Int.reduceToNat,Int.cast_ofNat_Int,implies_true,forall_const,Option.map_none])
local macro_rules | `(tactic| simp_arith)=>`(tactic| simp_arith [Option.map_none])
namespace K51
open PySem L2
abbrev bx(x y:Int):U:=.l [.int x,.int y]
theorem zaF{x y w:Int}{Q:U×List U->Prop}(hw:0 < w)(hw2:w<=18446744073709551616)(k:∀ r x' y',0<=r->r < w->Q (.d (.int r),[bx x' y',.d (.int w)])):Wo (zA [bx x y,.d (.int w)]) Q:=by
 simp_arith [zA,zfE];refine ziD (fun hx=>?_) (fun hx=>?_)
 ·simp_arith [hx]
  exact k _ _ _ (Int.emod_nonneg _ (by omega)) (Int.emod_lt_of_pos _ hw)
 ·simp_arith [hx]
  exact k _ _ _ (Int.emod_nonneg _ (by omega)) (Int.emod_lt_of_pos _ hw)
theorem zsk{ns:List Int}{k:Int}(h0:0<=k)(h:k < (ns.length:Int)):∃ v:Int,atI (ns.map PyData.int) k=some (.int v):=by
 have hk:k.toNat < ns.length:=by omega
 refine⟨ns[k.toNat],?_⟩;unfold atI ixN;rw [if_pos h0,if_pos (by rw [List.length_map]; exact h),bd,List.getElem?_map,ql hk];rfl
theorem zz4{ns:List Int}{k:Int}{Q:U×List U->Prop}(h0:0<=k)(q:∀ x y,Q (bx x y,[.d (.list (ns.map .int)),.d (.int k)])):Wo (zcD [.d (.list (ns.map .int)),.d (.int k)]) Q:=by
 simp_arith [zcD,zgm,List.length_map];refine ziD (fun h1=>?_) (fun h1=>?_)
 ·obtain⟨v,hv⟩:=zsk h0 h1
  simp_arith [hv];exact q _ _
 ·simp_arith [List.length_map]
  refine ziD (fun h2=>?_) (fun h2=>?_)
  ·have hm:=Int.emod_lt_of_pos k h2
   have hm0:=Int.emod_nonneg k (show(ns.length:Int)≠0 by omega);obtain⟨v,hv⟩:=zsk hm0 hm;simp_arith [hv];exact q _ _
  ·simp_arith
   exact q _ _
theorem zbG{x y:Int}(hx:0<=x)(hy:0<=y):zY [.d (.int x),.d (.int y)]=some (.d (.int (Int.gcd x y:Nat)),[.d (.int x),.d (.int y)]):=by
 refine zW ?_;simp_arith [zY,zdp];refine zkQ (fun k ρ=>∃ a b:Int,ρ=[some (.d (.int a)),some (.d (.int b))]/\0<=a/\0<=b/\b.toNat=k/\Int.gcd a b=Int.gcd x y) _ ⟨x,y,rfl,hx,hy,rfl,rfl⟩ ?_;rintro k _ ⟨a,b,rfl,ha,hb,hk,hg⟩;simp_arith
 by_cases hz:b=0
 ·subst hz
  have e:a=((Int.gcd x y:Nat):Int):=by rw [<-hg,Int.gcd_zero_right]; omega
  subst e;simp_arith [bne_self_eq_false]
 ·have hb':(b != 0)=true:=by simp [hz]
  simp_arith [hb'];refine⟨(a % b).toNat,?_,_,_,rfl,by omega,Int.emod_nonneg _ hz,rfl,?_⟩
  ·have:=Int.emod_lt_of_pos a (show 0 < b by omega)
   have:=Int.emod_nonneg a hz;omega
  ·rw [zko a b ha (by omega)]
   exact hg
theorem zmK{a b:Nat}(h:a<=b)(hb:b.log2 < 9000):a.log2 < 9000:=by
 by_cases z:a=0
 ·rw [z]; decide
 ·exact Nat.lt_of_le_of_lt ((Nat.le_log2 (by omega)).mpr (qx (Nat.log2_self_le z) h)) hb
theorem zbY{n d:Int}(hd:d≠0)(hb:d.natAbs.log2 < 9000):zaj [.d (.int n),.d (.int d)]=some (.d (fR (Rat.divInt n d)),[.d (.int n),.d (.int d)]):=by
 have gl:Int.gcd n d<=d.natAbs:=Int.gcd_le_natAbs_right n hd;have gp:0 < Int.gcd n d:=Int.gcd_pos_of_ne_zero_right n hd;have glog:=zmK gl hb;refine zW ?_;rw [<-zrq hd];unfold zhX zho;rw [<-zkX n d (show(0:Int) < (Int.gcd n d:Nat) by omega),<-zkX d d (show(0:Int) < (Int.gcd n d:Nat) by omega)];simp_arith [zaj,zc8];refine zkQ (fun k ρ=>∃ a b:Int,ρ=[some (.d (.int n)),some (.d (.int d)),some (.d (.int a)),some (.d (.int b))]/\0<=a/\0<=b/\b.toNat=k/\Int.gcd a b=Int.gcd n d) _ ⟨_,_,rfl,by split<;>omega,by split<;>omega,rfl,zrp n d⟩ ?_;rintro k _ ⟨a,b,rfl,ha,hb0,hk,hg⟩;simp_arith
 by_cases hz:b=0
 ·subst hz
  have e:a=((Int.gcd n d:Nat):Int):=by rw [<-hg,Int.gcd_zero_right]; omega
  subst e;have c1:zgX n ((Int.gcd n d:Nat):Int):=⟨by omega,by rw [Int.natAbs_natCast]; exact glog⟩;have c2:zgX n (0 - ((Int.gcd n d:Nat):Int)):=⟨by omega,by rw [Int.zero_sub,Int.natAbs_neg,Int.natAbs_natCast]; exact glog⟩;simp_arith;refine ziD (fun h=>?_) (fun h=>?_)
  ·simp_arith [h,zf3 (a:=n) c2,zf3 (a:=d) c2]
  ·simp_arith [h,zf3 (a:=n) c1,zf3 (a:=d) c1]
 ·simp_arith [hz]
  refine⟨(a % b).toNat,?_,_,_,rfl,by omega,Int.emod_nonneg _ hz,rfl,?_⟩
  ·have:=Int.emod_lt_of_pos a (show 0 < b by omega)
   have:=Int.emod_nonneg a hz;omega
  ·rw [zko a b ha (by omega)]
   exact hg
theorem zeh{n d:Int}(hd:d≠0)(hb:d.natAbs.log2 < 9000):zdm [.d (.int n),.d (.int d)]=some (.d (fR (Rat.divInt n d)),[.d (.int n),.d (.int d)]):=by
 have gl:Int.gcd n d<=d.natAbs:=Int.gcd_le_natAbs_right n hd;have gp:0 < Int.gcd n d:=Int.gcd_pos_of_ne_zero_right n hd;have c1:∀ z:Int,zik z ((Int.gcd n d:Nat):Int):=fun z=>⟨by omega,by rw [Int.natAbs_natCast]; exact zmK gl hb⟩;refine zW ?_;rw [<-zrq hd];unfold zhX zho;simp_arith [zdm,zhF]
 by_cases h:d < 0
 ·have cf:zY [.d (.int (if -n < 0 then - -n else -n)),.d (.int (-d))]=some (.d (.int (Int.gcd n d:Nat)),[.d (.int (if -n < 0 then - -n else -n)),.d (.int (-d))]):=by
   rw [zbG (by split<;>omega) (by omega),zi9,Int.neg_gcd,Int.gcd_neg]
  simp_arith [h,cf,zme (c1 _)]
 ·have cf:zY [.d (.int (if n < 0 then -n else n)),.d (.int d)]=some (.d (.int (Int.gcd n d:Nat)),[.d (.int (if n < 0 then -n else n)),.d (.int d)]):=by
   rw [zbG (by split<;>omega) (by omega),zi9]
  simp_arith [h,cf,zme (c1 _)]
structure Sz (r:Rat):Prop where
 n:r.num.natAbs < 2^4000
 d:r.den < 2^4000
theorem Sz.di{r:Rat}(h:Sz r):(r.den:Int).natAbs < 2^4000:=by rw [Int.natAbs_natCast]; exact h.d
theorem lgd{n:Nat}(h:n < 2^4000):n.log2 < 4000:=zba (by decide) h
theorem lgm{n:Nat}(h:n < 2^4000):n.log2 < 1000000:=Nat.lt_trans (lgd h) (by decide)
theorem zsl{a b:Nat}(h:a < 2^4000)(h':b < 2^4000):(a * b).log2 < 9000:=by
 refine Nat.lt_trans (zba (k:=4000+4000) (by decide) ?_) (by decide);rw [Nat.pow_add];exact Nat.mul_lt_mul'' h h'
section
variable {a b:Rat}
theorem zdW(ha:Sz a)(hb:Sz b):zaX [.d (fR a),.d (fR b)]=some (.d (fR (a+b)),[.d (fR a),.d (fR b)]):=by
 refine zW ?_;have da:=zhp a;have db:=zhp b;have dab:((a.den:Int) * (b.den:Int))≠0:=Int.mul_ne_zero (by omega) (by omega);have lf:=zbY (n:=a.num * (b.den:Int)+b.num * (a.den:Int)) dab (by rw [Int.natAbs_mul,Int.natAbs_natCast,Int.natAbs_natCast]; exact zsl ha.d hb.d);rw [zt7]at lf;simp_arith [zaX,zfG,zbD (lgm ha.n) (lgm hb.di),zbD (lgm hb.n) (lgm ha.di),zbD (lgm ha.di) (lgm hb.di),lf]
theorem zfL(ha:Sz a)(hb:Sz b):za6 [.d (fR a),.d (fR b)]=some (.d (fR (a * b)),[.d (fR a),.d (fR b)]):=by
 refine zW ?_;have da:=zhp a;have db:=zhp b;have dab:((a.den:Int) * (b.den:Int))≠0:=Int.mul_ne_zero (by omega) (by omega);have lf:=zbY (n:=a.num * b.num) dab (by rw [Int.natAbs_mul,Int.natAbs_natCast,Int.natAbs_natCast]; exact zsl ha.d hb.d);rw [zt8]at lf;simp_arith [za6,zeB,zbD (lgm ha.n) (lgm hb.n),zbD (lgm ha.di) (lgm hb.di),lf]
end
end K51
open PySem L2
namespace K51
open PySem L2
abbrev abc:Str := "abcdefghijklmnopqrstuvwxyz"
theorem zgH:∀ c∈abc.cps.toList,c < 128:=by decide
theorem zgI:abc.length=26:=by decide
theorem zuw{z:Str}{n:Int}(h0:0<=n)(h1:n<=1):zkI (.d (.str z)) (.d (.int n))=some (.d (.str (zoQ z n))):=by
 unfold zkI;dsimp only;rw [if_pos ⟨h0,h1⟩]
theorem zux{k:Nat}{z:Str}{n:Int}(hz:Asc k z)(h0:0<=n)(h1:n<=1):Asc k (zoQ z n):=by
 rcases(by omega:n=0\/n=1)with rfl | rfl
 ·exact⟨Nat.zero_le _,fun c hc=>by cases hc⟩
 ·exact hz
theorem zz5{zs:List Str}{lo hi:Option Int}:∃ ws:List Str,zkC (zs.map PyData.str) lo hi=ws.map PyData.str/\ws.length<=zs.length/\∀ z∈ws,z∈zs:=by
 refine⟨(zs.drop (HT.sIx zs.length 0 lo)).take (HT.sIx zs.length zs.length hi - HT.sIx zs.length 0 lo),?_,?_,fun z hz=>List.mem_of_mem_drop (List.mem_of_mem_take hz)⟩
 ·unfold zkC
  rw [List.length_map,<-List.map_drop,<-List.map_take]
 ·rw [List.length_take,List.length_drop]
  omega
theorem zv9{neg:Bool}{x:Str}{zs:List Str}{Q:U->Prop}(k:∀ b,Q (.d (.bool b))):Wo (fIn neg (.d (.str x)) (.l (zs.map PyData.str))) Q:=by
 unfold fIn;show Wo ((zmj (.str x) (zs.map PyData.str)).bind _) Q;unfold zmj;rw [zhj];exact⟨_,rfl,k _⟩
theorem zz6{neg:Bool}{x:Str}{zs:List Str}{Q:U->Prop}(k:∀ b,Q (.d (.bool b))):Wo (fIn neg (.d (.str x)) (.d (.tuple (zs.map PyData.str)))) Q:=by
 unfold fIn;show Wo ((zmj (.str x) (zs.map PyData.str)).bind _) Q;unfold zmj;rw [zhj];exact⟨_,rfl,k _⟩
theorem zuy{x y m:Int}{Q:U×List U->Prop}(h1:1<=m)(h3:m<=3)(k:∀ (ns:List Str) x' y',ns.length=m.toNat->(∀ z∈ns,Asc 10 z)->Q (.d (.tuple (ns.map .str)),[bx x' y',.d (.int m)])):Wo (zbI [bx x y,.d (.int m)]) Q:=by
 simp_arith [zbI,zez];refine zaF (by decide) (by decide) fun r1 x1 y1 a1 b1=>?_;simp_arith;refine zt2 (fun i ρ ys=>∃ (x y:Int) (zs:List Str),ρ=[none,some (bx x y),some (.d (.str abc))]/\ys=zs.map PyData.str/\zs.length=i/\∀ z∈zs,Asc 1 z) ?_ ⟨_,_,[],rfl,rfl,rfl,fun z hz=>by cases hz⟩ ?_ ?_ ?_
 ·rw [zl]; omega
 ·rintro i ρ ys ⟨x,y,zs,rfl,rfl,hl,_⟩
  simp [hl]
 ·rintro i _ _ hi ⟨x,y,zs,rfl,rfl,hl,hz⟩
  simp_arith [zq7];refine zaF (by decide) (by decide) fun r2 x2 y2 a2 b2=>?_;simp_arith;refine zgC a2 (by rw [zgI]; omega) (by decide) fun c hc=>?_;simp_arith;exact⟨x2,y2,zs++[⟨#[c]⟩],rfl,by rw [List.map_append]; rfl,by rw [qr,hl]; rfl,fun z hz'=>by
   rcases List.mem_append.mp hz' with h | h
   ·exact hz z h
   ·cases qp.mp h
    exact Asc.one (zgH c hc)⟩
 rintro _ _ ⟨x2,y2,sg,rfl,rfl,hl,hs⟩;simp_arith;refine zaF (by omega) (by omega) fun r3 x3 y3 a3 b3=>?_;simp_arith;refine zaF (by decide) (by decide) fun r4 x4 y4 a4 b4=>?_;simp_arith;refine zra (fun i ρ=>∃ (x y:Int) (v7 v8 v9:Option U) (zs:List Str),ρ=[some (bx x y),some (.d (.int m)),some (.d (.str abc)),some (.l (sg.map .str)),some (.d (.int r3)),some (.d (.int r4)),some (.l (zs.map PyData.str)),v7,v8,v9,none]/\zs.length=i/\∀ z∈zs,Asc 10 z) ⟨x4,y4,none,none,none,[],rfl,rfl,fun z hz=>by cases hz⟩ ?_ ?_
 ·rintro i _ hi ⟨x,y,v7,v8,v9,zs,rfl,hlz,hz⟩
  simp_arith;refine zgC (Int.emod_nonneg _ (by decide)) (by rw [zgI]; exact Int.emod_lt_of_pos _ (by decide)) (by decide) fun c hc=>?_;simp_arith;obtain⟨w1,e1,l1,m1⟩:=zz5 (zs:=sg) (lo:=none) (hi:=some r3);rw [e1];refine znV (n:=1) (m:=4) (fun z hz=>hs z (m1 z hz)) (by omega) (by decide) fun j1=>?_;simp_arith;refine zhi j1 (Asc.one (zgH c hc)) (by decide) fun j2=>?_;simp_arith;obtain⟨w2,e2,l2,m2⟩:=zz5 (zs:=sg) (lo:=some (r3+1)) (hi:=none);rw [e2];refine znV (n:=1) (m:=4) (fun z hz=>hs z (m2 z hz)) (by omega) (by decide) fun j3=>?_;simp_arith;refine zhi j2 j3 (by decide) fun j4=>?_;simp_arith;refine zaF (by decide) (by decide) fun r5 x5 y5 a5 b5=>?_;simp_arith [zuw];refine zhi j4 (zux (show Asc 1 "q" by unfold Asc; decide) a5 (by omega)) (by decide) fun j5=>?_;simp_arith;refine zv9 fun b=>?_;generalize Txt.join "" w1++{ cps:=#[c] }++Txt.join "" w2++zoQ "q" r5=nm at *;have fin:∀ (nm:Str),Asc 10 nm->∃ (x y:Int) (v7 v8 v9:Option U) (ws:List Str),[some (bx x5 y5),some (.d (.int m)),some (.d (.str abc)),some (.l (sg.map .str)),some (.d (.int r3)),some (.d (.int r4)),some (.l (zs.map PyData.str++[.str nm])),some (.d (.int (0+(i:Nat)))),some (.d (.str ⟨#[c]⟩)),some (.d (.str nm)),none]=[some (bx x y),some (U.d (.int m)),some (.d (.str abc)),some (.l (sg.map .str)),some (.d (.int r3)),some (.d (.int r4)),some (.l (ws.map PyData.str)),v7,v8,v9,none]/\ws.length=i+1/\∀ z∈ws,Asc 10 z:=fun nm hn =>
   ⟨x5,y5,_,_,_,zs++[nm],by rw [List.map_append]; rfl,by rw [qr,hlz]; rfl,fun z hz'=>by
    rcases List.mem_append.mp hz' with h | h
    ·exact hz z h
    ·cases qp.mp h
     exact hn⟩
  cases b with
  | true =>
   simp_arith;refine zgC (by omega) (by rw [zgI]; omega) (by decide) fun d hd=>?_;simp_arith;refine zhi (show Asc 2 "zz" by unfold Asc; decide) (Asc.one (zgH d hd)) (by decide) fun j6=>?_;simp_arith;exact fin _ (j6.mono (by decide))
  | false =>
   simp_arith;refine zz6 (zs:=["part", "end", "give", "rounds", "letters"]) fun b=>?_;cases b with
   | true =>
    simp_arith;refine zgC (by omega) (by rw [zgI]; omega) (by decide) fun d hd=>?_;simp_arith;refine zhi (show Asc 2 "zz" by unfold Asc; decide) (Asc.one (zgH d hd)) (by decide) fun j6=>?_;simp_arith;exact fin _ (j6.mono (by decide))
   | false =>
    simp_arith;exact fin _ j5
 ·rintro _ ⟨x,y,v7,v8,v9,zs,rfl,hlz,hz⟩
  simp_arith;refine zaF (by decide) (by decide) fun r5 x5 y5 a5 b5=>?_;simp_arith;refine ziD (fun h5=>?_) (fun h5=>?_)
  ·simp_arith
   refine zaF (by decide) (by decide) fun r6 x6 y6 a6 b6=>?_;simp_arith;refine zxU (f:=PyData.str) (xs:=["ends", "pa", "gives", "giv", "x", "y", "r", "rk"]) a6 b6 fun z mz _=>?_;have az:Asc 10 z:=by
    have:∀ z∈(["ends", "pa", "gives", "giv", "x", "y", "r", "rk"]:List Str),Asc 10 z:=by unfold Asc; decide
    exact this z mz
   simp_arith;refine zv9 fun b=>?_;cases b with
   | false =>
    simp_arith;exact k zs _ _ hlz hz
   | true =>
    simp_arith;refine zaF (by omega) (by omega) fun r7 x7 y7 a7 b7=>?_;have e7:ixN zs.length r7=some r7.toNat:=by
     unfold ixN;rw [if_pos a7,if_pos (by omega)]
    simp_arith [e7];have es:(zs.map PyData.str).set r7.toNat (.str z)=(zs.set r7.toNat z).map PyData.str:=by rw [List.map_set]
    rw [es];refine k _ _ _ (by rw [List.length_set]; exact hlz) fun w hw=>?_;rcases List.mem_or_eq_of_mem_set hw with h | h
    ·exact hz w h
    ·exact h▸az
  ·simp_arith
   exact k zs _ _ hlz hz
theorem zAE{d:Int}(h:1<=d)(h2:d<=1000000):d.natAbs.log2 < 9000:=Nat.lt_trans (zba (k:=30) (by decide) (by omega)) (by decide)
theorem bd6{n d:Int}(hn:n.natAbs<=5)(h1:1<=d)(h4:d<=3):Bd 6 30 (Rat.divInt n d):=by
 have:d∣((6:Nat):Int):=by
  rcases(by omega:d=1\/d=2\/d=3)with rfl | rfl | rfl<;>decide
 exact(zx4 (M:=6) (by omega) this (by decide)).le (by omega)
theorem zjX{x y:Int}{Q:U×List U->Prop}(k:∀ r x' y',Bd 6 30 r->Q (.d (fR r),[bx x' y'])):Wo (zai [bx x y]) Q:=by
 simp_arith [zai,zeC];refine zaF (by decide) (by decide) fun r2 x2 y2 h2 h3=>?_;simp_arith;refine zaF (by decide) (by decide) fun r3 x3 y3 h4 h5=>?_;simp_arith [zbY (n:=r2 - 5) (d:=1+r3) (by omega) (zAE (by omega) (by omega))];exact k _ _ _ (bd6 (by omega) (by omega) (by omega))
abbrev Et:=Rat×Option Nat
def leD:Option Nat->D
 | none=>.none
 | some k=>.int (k:Int)
def enD(e:Et):D:=.tuple [fR e.1,leD e.2]
def roD(r:List Et):D:=.tuple (r.map enD)
structure ES (n:Nat) (e:Et):Prop where
 bd:Bd 6 30 e.1
 lt:∀ k,e.2=some k->k < n
theorem bd1:Bd 6 30 1:=bd6 (n:=1) (d:=1) (by decide) (by decide) (by decide)
theorem fR1:PyData.tuple [.int 1,.int 1]=fR 1:=rfl
theorem fR0:PyData.tuple [.int 0,.int 1]=fR 0:=rfl
theorem zlk{c:Prop}[Decidable c]{X:Option (Bool×En)}{ρ:En}{Q:Bool×En->Prop}(h:c->X=some (false,ρ))(q:Q (false,ρ)):Wo (if c then X else some (false,ρ)) Q:=by
 split
 ·rename_i hc
  rw [h hc];exact⟨_,rfl,q⟩
 ·exact⟨_,rfl,q⟩
theorem zuz{x y:Int}{n:Nat}{Q:U×List U->Prop}(n1:1<=n)(n3:n<=3)(k:∀ e x' y',ES n e->Q (.d (enD e),[bx x' y',.d (.int (n:Int)),.d (.bool true)])):Wo (zbK [bx x y,.d (.int (n:Int)),.d (.bool true)]) Q:=by
 simp_arith [zbK,zeD];refine zjX fun p x1 y1 sm=>?_;simp_arith;refine zlk (fun c=>zW ?_) ?_
 ·simp_arith
 simp_arith;refine zaF (by omega) (by omega) fun r x2 y2 a2 b2=>?_;simp_arith
 by_cases c:r=(n:Int)
 ·simp_arith [c]
  exact k (p,none) _ _ ⟨sm,fun k hk=>by cases hk⟩
 ·simp_arith [c]
  refine zaF (by decide) (by decide) fun r3 x3 y3 a3 b3=>?_;simp_arith;refine zxT a3 b3 fun z hz=>?_;have e:(r.toNat:Int)=r:=by omega
  have hq:∃ q:Rat,z=fR q/\Bd 6 30 q:=by
   simp only [qu,List.not_mem_nil,or_false]at hz;rcases hz with rfl | rfl
   ·exact⟨p,rfl,sm⟩
   ·exact⟨1,rfl,bd1⟩
  obtain⟨q,rfl,hq⟩:=hq;simp_arith;have:=k (q,some r.toNat) x3 y3 ⟨hq,fun k hk=>by cases hk; omega⟩;simp only [enD,leD,e]at this;exact this
structure TS (n:Nat) (t:List (List Et)):Prop where
 l1:1<=t.length
 l4:t.length<=4
 sq:∀ r∈t,r.length=t.length
 en:∀ r∈t,∀ e∈r,ES n e
def taD(ns:List Str)(t:List (List Et)):D:=.tuple [.tuple (ns.map .str),.tuple (t.map roD)]
theorem zuA{x y:Int}{ns:List Str}{Q:U×List U->Prop}(n1:1<=ns.length)(n3:ns.length<=3)(k:∀ t x' y',TS ns.length t->Q (.d (taD ns t),[bx x' y',.d (.tuple (ns.map .str)),.d (.int 4)])):Wo (zbL [bx x y,.d (.tuple (ns.map .str)),.d (.int 4)]) Q:=by
 simp_arith [zbL,zeF];refine zaF (by decide) (by decide) fun r1 x1 y1 a1 b1=>?_;simp_arith;refine zaF (by decide) (by decide) fun r2 x2 y2 a2 b2=>?_;simp_arith;refine zra (fun i ρ=>∃ (x y:Int) (v6 v7 v8 v9:Option U) (t:List (List Et)),ρ=[some (bx x y),some (.d (.tuple (ns.map .str))),some (.d (.int 4)),some (.d (.int (1+r1))),some (.d (.int r2)),some (.l (t.map roD)),v6,v7,v8,v9]/\t.length=i/\∀ r∈t,r.length=(1+r1).toNat/\∀ e∈r,ES ns.length e)
  ⟨_,_,_,_,_,_,[],rfl,rfl,fun r hr=>by cases hr⟩ ?_ ?_
 ·rintro i _ hi ⟨x,y,v6,v7,v8,v9,t,rfl,ht,hr⟩
  simp_arith;refine zra (fun j ρ=>∃ (x y:Int) (v8 v9:Option U) (ro:List Et),ρ=[some (bx x y),some (.d (.tuple (ns.map .str))),some (.d (.int 4)),some (.d (.int (1+r1))),some (.d (.int r2)),some (.l (t.map roD)),some (.d (.int (0+(i:Nat)))),some (.l (ro.map enD)),v8,v9]/\ro.length=j/\∀ e∈ro,ES ns.length e)
   ⟨_,_,_,_,[],rfl,rfl,fun r hr=>by cases hr⟩ ?_ ?_
  ·rintro j _ hj ⟨x,y,v8,v9,ro,rfl,hl,he⟩
   have goon:∀ {e:Et} {x' y':Int},ES ns.length e->∃ (x y:Int) (v8 v9:Option U) (ro':List Et),[some (bx x' y'),some (U.d (.tuple (ns.map .str))),some (.d (.int 4)),some (.d (.int (1+r1))),some (.d (.int r2)),some (.l (t.map roD)),some (.d (.int (0+(i:Nat)))),some (.l (ro.map enD++[enD e])),some (.d (.int (0+(j:Nat)))),some (.d (enD e))]=[some (bx x y),some (.d (.tuple (ns.map .str))),some (.d (.int 4)),some (.d (.int (1+r1))),some (.d (.int r2)),some (.l (t.map roD)),some (.d (.int (0+(i:Nat)))),some (.l (ro'.map enD)),v8,v9]/\ro'.length=j+1/\∀ e∈ro',ES ns.length e:=fun{e x' y'} h =>
    ⟨x',y',_,_,ro++[e],by rw [List.map_append]; rfl,by simp [hl],fun z hz=>by
     rcases List.mem_append.mp hz with hz | hz
     ·exact he z hz
     ·cases qp.mp hz
      exact h⟩
   have z0:ES ns.length (0,none):=⟨Bd.zero,fun k hk=>by cases hk⟩;have e0:PyData.tuple [.tuple [.int 0,.int 1],.none]=enD (0,none):=rfl;simp_arith;refine zuz n1 n3 fun e x3 y3 ho=>?_;simp_arith
   by_cases c2:r2=2
   ·simp_arith [c2]
    refine zaF (by decide) (by decide) fun r3 x4 y4 a3 b3=>?_;simp_arith
    by_cases c3:r3=0
    ·simp_arith [c3,e0]
     rw [<-c2];exact goon z0
    ·simp_arith [c3]
     rw [<-c2];exact goon ho
   ·simp_arith [c2]
    exact goon ho
  ·rintro _ ⟨x,y,v8,v9,ro,rfl,hl,he⟩
   simp_arith;refine⟨x,y,_,_,_,_,t++[ro],by rw [List.map_append]; rfl,by simp [ht],fun z hz=>?_⟩;rcases List.mem_append.mp hz with hz | hz
   ·exact hr z hz
   ·cases qp.mp hz
    exact⟨hl,he⟩
 ·rintro _ ⟨x,y,v6,v7,v8,v9,t,rfl,ht,hr⟩
  simp_arith;exact k t x y ⟨by omega,by omega,fun r h=>by rw [(hr r h).1,ht],fun r h=>(hr r h).2⟩
structure EO (n:Nat) (e:Et):Prop where
 bd:Bd 36 12000000 e.1
 lt:∀ k,e.2=some k->k < n
structure TO (n:Nat) (t:List (List Et)):Prop where
 l1:1<=t.length
 l4:t.length<=4
 sq:∀ r∈t,r.length=t.length
 en:∀ r∈t,∀ e∈r,EO n e
theorem zsm{M B N:Nat}{r:Rat}(h:Bd M B r):Bd (M * N) (B * N) r:=by
 obtain⟨k,e,b⟩:=h;refine⟨k * (N:Int),?_,by rw [Int.natAbs_mul,Int.natAbs_natCast]; exact Nat.mul_le_mul b (qe _)⟩;rw [Rat.intCast_mul,<-e,Rat.natCast_mul];show r * ((M:Rat) * (N:Rat))=r * (M:Rat) * (N:Rat);rw [Rat.mul_assoc]
theorem zyg{M B N C:Nat}{r q:Rat}(h:Bd M B r)(g:Bd N C q):Bd (M * N) (B * C) (r * q):=by
 obtain⟨k,e,b⟩:=h;obtain⟨l,f,c⟩:=g;refine⟨k * l,?_,by rw [Int.natAbs_mul]; exact Nat.mul_le_mul b c⟩;rw [Rat.intCast_mul,<-e,<-f,Rat.natCast_mul];grind
theorem ES.up{n:Nat}{e:Et}(h:ES n e):EO n e:=⟨(zsm (N:=6) h.bd).le (by decide),h.lt⟩
theorem TS.up{n:Nat}{t:List (List Et)}(h:TS n t):TO n t:=⟨h.l1,h.l4,h.sq,fun r hr e he=>(h.en r hr e he).up⟩
end K51
open PySem L2
namespace K51
open PySem L2
theorem zhL{M B:Nat}{r:Rat}(h:Bd M B r)(hM:0 < M)(h1:M < 2^4000)(h2:B < 2^4000):Sz r:=by
 obtain⟨a,b⟩:=h.size hM;exact⟨Nat.lt_of_le_of_lt b h2,Nat.lt_of_le_of_lt a h1⟩
abbrev zwa(p:Pq Rat):U:=.d (.tuple (tmG fR p))
abbrev dT(p:Pq Rat):U:=.d (.dict (dcG fR p))
theorem zmL{u:U}{α:Type}{a b:Option α}:(if u.own=true/\u.own=false then a else b)=b:=if_neg fun⟨h,h'⟩=>by rw [h]at h'; cases h'
def Ln{α:Type}(n:Nat)(p:Pq α):Prop:=∀ t∈p,t.1.length=n
theorem zll{M B:Nat}{p q:Pq Rat}{u1 u2:U}{s:Int}(hu1:zeb u1=some (.t (kvG fR p)))(hu2:u2.fz=some (.dict (dcG fR q)))(hs:s=1\/s=-1)(np:NdK p)(nq:NdK q)(hp:PB M B p)(hq:PB M B q)(hM:0 < M)(h1:M < 2^4000)(h2:B+q.length * B < 2^4000)(l1:p.length < 64)(l2:q.length < 64) :
  zak [u1,u2,.d (.int s)]=some (.t (kvG fR (nz (gat p (psg s q)))),[u1,dT q,.d (.int s)]):=by
 refine zW ?_;have sp:psg s q=q.map fun t=>(t.1,(s:Rat) * t.2):=rfl;simp_arith [zak,zc9,hu1,hu2];refine za5 (fun bs cs ρ=>∃ o4 o5,ρ=[some u1,some (dT q),some (.d (.int s)),some (.t (kvG fR (gat p (psg s bs)))),o4,o5,none]) ⟨_,_,rfl⟩ ?_ ?_
 ·rintro bs t cs _ e ⟨o4,o5,rfl⟩
  have tq:t∈q:=by rw [e]; simp
  have lb:bs.length+1<=q.length:=by rw [e,qr,qt]; omega
  have gl:=zcx (psg s bs) p;rw [show(psg s bs).length=bs.length from List.length_map ..]at gl;have gb:PB M (B+q.length * B) (gat p (psg s bs)):=fun v hv=>(zjE (psg s bs) hp (zrG hs fun w hw=>hq w (by rw [e]; exact List.mem_append_left _ hw)) v hv).le (by
   rw [show(psg s bs).length=bs.length from List.length_map ..];have:=Nat.mul_le_mul_right B (show bs.length<=q.length by omega);omega)
  have s1:=zhL (zjD gb t.1) hM h1 h2;have s2:Sz ((s:Rat) * t.2):=zhL (zrG hs hq (t.1,(s:Rat) * t.2) (List.mem_map.mpr ⟨t,tq,rfl⟩)) hM h1 (by omega);simp_arith [zdl nq tq,zx3 hs,zdW s1 s2];rw [zmp (by omega)];simp_arith;rw [show psg s (bs++[t])=psg s bs++[(t.1,(s:Rat) * t.2)] by unfold psg; rw [List.map_append]; rfl,zfq];exact⟨_,_,rfl⟩
 ·rintro _ ⟨o4,o5,rfl⟩
  have gn:NdK (gat p (psg s q)):=zcl _ np;have gl:=zcx (psg s q) p;rw [show(psg s q).length=q.length from List.length_map ..]at gl;generalize gat p (psg s q)=r at gn gl;simp_arith;refine za5 (fun bs cs ρ=>∃ o4,ρ=[some u1,some (dT q),some (.d (.int s)),some (dT r),o4,o5,some (.t (kvG fR (nz bs)))]) ⟨_,rfl⟩ ?_ ?_
  ·rintro bs t cs _ e ⟨o4,rfl⟩
   have tr:t∈r:=by rw [e]; simp
   have ln:(nz bs).length<=bs.length:=List.length_filter_le _ _;have lb:bs.length+1<=r.length:=by rw [e,qr,qt]; omega
   simp_arith [zdl gn tr,zrE];rw [zn5]
   by_cases z:t.2=0
   ·simp_arith [z,ne_eq]
    exact⟨_,rfl⟩
   ·simp_arith [z,ne_eq,zdl gn tr,zmp (c:=fR) (p:=nz bs) (k:=t.1) (x:=t.2) (by omega)]
    rw [zrI (cs:=cs) (by rw [<-e]; exact gn)];exact⟨_,rfl⟩
  ·rintro _ ⟨o4,rfl⟩
   simp_arith [zmL]
theorem zlm{M N B C n:Nat}{p q:Pq Rat}{u1 u2:U}{Q:U×List U->Prop}(hu1:u1.fz=some (.dict (dcG fR p)))(hu2:u2.fz=some (.dict (dcG fR q)))(np:NdK p)(nq:NdK q)(hp:PB M B p)(hq:PB N C q)(lp:Ln n p)(lq:Ln n q)(ln:n < 64)(hM:0 < M)(hN:0 < N)(h1:M * N < 2^4000)(h2:M < 2^4000)(h3:N < 2^4000)(h4:B < 2^4000)(h5:C < 2^4000)(h6:p.length * q.length * (B * C) < 2^4000)(hBC:0 < B * C)
  (l1:p.length * q.length < 64) (lp6:p.length < 64) (lq6:q.length < 64) (kq:∀ u2',u2'.fz=some (.dict (dcG fR q))->Q (.t (kvG fR (nz (gat [] (zau p q)))),[dT p,u2'])):Wo (zaI [u1,u2]) Q:=by
 have fin:∀ (o1 o3 o4 o5 o6:Option U) (r:Pq Rat),NdK r->r.length < 64->∀ (Q:Fl->Prop),(∀ o5,Q (.nx [some (dT p),o1,some (dT r),o3,o4,o5,o6,some (.t (kvG fR (nz r)))]))->Wo (zbP (zy 5) (zbW (mB (mOp (zdr true) (mOp zaO (zc2 (zi 2) (zi 5)) (mC (.int 0))) (mC (.int 0)))) (zdn 7 (zi 5) (zc2 (zi 2) (zi 5))) zaG) (r.map fun t=>pwD t.1) [some (dT p),o1,some (dT r),o3,o4,o5,o6,some (.t [])]) Q:=by
  intro o1 o3 o4 o5 o6 r gn gl Q hQ;refine za5 (fun bs cs ρ=>∃ o5,ρ=[some (dT p),o1,some (dT r),o3,o4,o5,o6,some (.t (kvG fR (nz bs)))]) ⟨_,rfl⟩ ?_ ?_
  ·rintro bs t cs _ e ⟨o5,rfl⟩
   have tr:t∈r:=by rw [e]; simp
   have ln:(nz bs).length<=bs.length:=List.length_filter_le _ _;have lb:bs.length+1<=r.length:=by rw [e,qr,qt]; omega
   simp_arith [zdl gn tr,zrE];rw [zn5]
   by_cases z:t.2=0
   ·simp_arith [z,ne_eq]
    exact⟨_,rfl⟩
   ·simp_arith [z,ne_eq,zdl gn tr,zmp (c:=fR) (p:=nz bs) (k:=t.1) (x:=t.2) (by omega)]
    rw [zrI (cs:=cs) (by rw [<-e]; exact gn)];exact⟨_,rfl⟩
  ·rintro _ ⟨o5,rfl⟩
   exact hQ o5
 simp_arith [zaI,zcG,hu1];refine za5 (fun bs cs ρ=>∃ (x:U) (o3 o4 o5 o6:Option U),ρ=[some (dT p),some x,some (.t (kvG fR (gat [] (zau bs q)))),o3,o4,o5,o6,none]/\(x=u2\/x=dT q)) ⟨u2,_,_,_,_,rfl,.inl rfl⟩ ?_ ?_
 ·rintro bs s cs _ e ⟨x,o3,o4,o5,o6,rfl,hx'⟩
  have hx:x.fz=some (.dict (dcG fR q)):=by
   rcases hx' with rfl | rfl
   ·exact hu2
   ·rfl
  have sp:s∈p:=by rw [e]; simp
  have lbs:bs.length+1<=p.length:=by rw [e,qr,qt]; omega
  have lpm:(zau bs q).length+q.length<=p.length * q.length:=by
   rw [zhs];have:=Nat.mul_le_mul_right q.length lbs;rw [Nat.add_mul,Nat.one_mul]at this;exact this
  simp_arith [hx];refine za5 (fun ds fs ρ=>∃ (o4 o5 o6:Option U),ρ=[some (dT p),some (dT q),some (.t (kvG fR (gat [] (zau bs q++ds.map fun t=>(zaa s.1 t.1,s.2 * t.2))))),some (.d (pwD s.1)),o4,o5,o6,none]) ⟨_,_,_,by rw [List.map_nil,List.append_nil]⟩ ?_ ?_
  ·rintro ds t fs _ e2 ⟨o4,o5,o6,rfl⟩
   have tq:t∈q:=by rw [e2]; simp
   have lds:ds.length+1<=q.length:=by rw [e2,qr,qt]; omega
   have hle:s.1.length=t.1.length:=by rw [lp s sp,lq t tq]
   have s1:=zhL (hp s sp) hM h2 h4;have s2:=zhL (hq t tq) hN h3 h5;have hb:PB (M * N) (B * C) (zau bs q++ds.map fun t=>(zaa s.1 t.1,s.2 * t.2)):=fun v hv=>by
    rcases List.mem_append.mp hv with z | z
    ·obtain⟨a,ha,b,hb,rfl⟩:=zud z
     exact(hp a (by rw [e]; exact List.mem_append_left _ ha)).mul (hq b hb)
    ·obtain⟨b,hb,rfl⟩:=List.mem_map.mp z
     exact(hp s sp).mul (hq b (by rw [e2]; exact List.mem_append_left _ hb))
   have ll:(zau bs q++ds.map fun t=>(zaa s.1 t.1,s.2 * t.2)).length<=p.length * q.length:=by
    rw [qr,List.length_map];omega
   have gl:=zcx (zau bs q++ds.map fun t=>(zaa s.1 t.1,s.2 * t.2)) [];rw [List.length_nil,Nat.zero_add]at gl;have gb:PB (M * N) (p.length * q.length * (B * C)) (gat [] (zau bs q++ds.map fun t=>(zaa s.1 t.1,s.2 * t.2))):=fun v hv=>(zjE _ (C:=0) pb0 hb v hv).le (by
    have:=Nat.mul_le_mul_right (B * C) ll;omega)
   have s3:=zhL (zjD gb (zaa s.1 t.1)) (Nat.mul_pos hM hN) h1 h6;have s4:Sz (s.2 * t.2):=zhL ((hp s sp).mul (hq t tq)) (Nat.mul_pos hM hN) h1 (by
    have h7:1 * (B * C)<=p.length * q.length * (B * C):=Nat.mul_le_mul_right _ (by
     have:1 * 1<=p.length * q.length:=Nat.mul_le_mul (by omega) (by omega);omega)
    omega)
   simp_arith [zft hle];refine zcT (e:=fun t=>.int (t.1+t.2)) (by rw [List.length_zip,lp s sp]; omega) (fun t ht ys=>?_) ?_
   ·simp_arith
   ·rw [show((s.1.zip t.1).map fun t=>PyData.int (t.1+t.2))=(zaa s.1 t.1).map PyData.int by unfold zaa; rw [List.map_zipWith,List.zip,List.map_zipWith]]
    simp_arith [show PyData.tuple ((zaa s.1 t.1).map PyData.int)=pwD (zaa s.1 t.1) from rfl,zdl np sp,zdl nq tq,zfL s1 s2,zdW s3 s4];rw [zmp (by omega)];simp_arith;rw [List.map_append,<-List.append_assoc,List.map_cons,List.map_nil,zfq];exact⟨_,_,_,rfl⟩
  ·rintro _ ⟨o4,o5,o6,rfl⟩
   simp_arith;rw [zo9];exact⟨dT q,_,_,_,_,rfl,.inr rfl⟩
 ·rintro _ ⟨x,o3,o4,o5,o6,rfl,hx⟩
  have gl:=zcx (zau p q) [];rw [List.length_nil,zhs]at gl;simp_arith;refine fin _ _ _ _ _ _ (zcl _ nd0) (by omega) _ fun o5=>?_;rcases hx with rfl | rfl
  ·simp_arith [zmL]
   exact kq x hu2
  ·simp_arith
   exact kq (dT q) rfl
def zjY:Nat->Nat->List (List Int)
 | 0,_=>[[]]
 | n+1,w=>(List.range (w+1)).flatMap fun(j:Nat)=>(zjY n (w - j)).map fun l=>(j:Int)::l
structure Ks (n w:Nat) (a:List Int):Prop where
 ln:a.length=n
 pos:∀ k∈a,0<=k
 sm:a.sum<=(w:Int)
theorem zog:∀ {a:List Int},(∀ k∈a,0<=k)->0<=a.sum
 | [],_=>by decide
 | k::a,h=>by
  rw [List.sum_cons];have:=h k qo;have:=zog fun j hj=>h j (qm k hj);omega
theorem zsn:∀ {n w:Nat} {a:List Int},Ks n w a->a∈zjY n w
 | 0,_,[],_=>qp.mpr rfl
 | 0,_,_::_,h=>by have:=h.ln; simp at this
 | n+1,_,[],h=>by have:=h.ln; simp at this
 | n+1,w,k::a,h=>by
  have h1:=h.pos k qo;have h2:=zog fun j hj=>h.pos j (qm k hj);have h3:=h.sm;rw [List.sum_cons]at h3;refine List.mem_flatMap.mpr ⟨k.toNat,List.mem_range.mpr (by omega),List.mem_map.mpr ⟨a,zsn ⟨Nat.succ.inj h.ln,fun j hj=>h.pos j (qm k hj),by omega⟩,?_⟩⟩;rw [Int.toNat_of_nonneg h1]
theorem Ks.up{n w w':Nat}{a:List Int}(h:Ks n w a)(c:w<=w'):Ks n w' a:=⟨h.ln,h.pos,by have:=h.sm; omega⟩
theorem zln:∀ {a b:List Int},a.length=b.length->(zaa a b).sum=a.sum+b.sum
 | [],[],_=>rfl
 | [],_::_,h=>by simp at h
 | _::_,[],h=>by simp at h
 | x::a,y::b,h=>by
  show((x+y)::zaa a b).sum=_;rw [List.sum_cons,List.sum_cons,List.sum_cons,zln (Nat.succ.inj h)];omega
theorem zlo:∀ {a b:List Int},(∀ k∈a,0<=k)->(∀ k∈b,0<=k)->∀ k∈zaa a b,0<=k
 | [],_,_,_,k,hk=>by simp [zaa]at hk
 | _::_,[],_,_,k,hk=>by simp [zaa]at hk
 | x::a,y::b,h,h',k,hk=>by
  rcases qu.mp (show k∈(x+y)::zaa a b from hk)with rfl | hk
  ·have:=h x qo
   have:=h' y qo;omega
  ·exact zlo (fun j hj=>h j (qm _ hj)) (fun j hj=>h' j (qm _ hj)) k hk
theorem Ks.add{n w w':Nat}{a b:List Int}(h:Ks n w a)(h':Ks n w' b):Ks n (w+w') (zaa a b):=by
 refine⟨?_,zlo h.pos h'.pos,?_⟩
 ·unfold zaa
  rw [List.length_zipWith,h.ln,h'.ln,Nat.min_self]
 ·rw [zln (h.ln.trans h'.ln.symm)]
  have:=h.sm;have:=h'.sm;omega
theorem zyh:((zjY 1 4).map fun a=>hT (kL a)).Nodup:=by decide +kernel
theorem zyi:((zjY 2 4).map fun a=>hT (kL a)).Nodup:=by decide +kernel
theorem zyj:((zjY 3 4).map fun a=>hT (kL a)).Nodup:=by decide +kernel
theorem zso{n:Nat}{p:Pq Rat}(h1:1<=n)(h3:n<=3)(nd:NdK p)(ky:∀ t∈p,Ks n 4 t.1):zn4 p:=by
 have inj:∀ a∈zjY n 4,∀ b∈zjY n 4,hT (kL a)=hT (kL b)->a=b:=by
  rcases(by omega:n=1\/n=2\/n=3)with rfl | rfl | rfl
  ·exact zjI zyh
  ·exact zjI zyi
  ·exact zjI zyj
 unfold zn4 zeW;rw [Bool.and_eq_true_iff];constructor
 ·rw [List.all_eq_true]
  intro ks hk;obtain⟨a,_,rfl⟩:=List.mem_map.mp hk;rw [zxZ,List.all_eq_true];intro k hk;obtain⟨i,_,rfl⟩:=List.mem_map.mp hk;rfl
 ·rw [decide_eq_true_iff,List.map_map]
  have mem:∀ a∈p.map (·.1),a∈zjY n 4:=fun a ha=>by
   obtain⟨t,ht,rfl⟩:=List.mem_map.mp ha;exact zsn (ky t ht)
  refine List.pairwise_map.mpr (List.Pairwise.imp_of_mem (fun{a b} ha hb (hne:a≠b)=>?_) nd);exact fun e=>hne (inj a (mem a ha) b (mem b hb) e)
structure PG (n e a:Nat) (p:Pq Rat):Prop where
 nd:NdK p
 ky:∀ t∈p,Ks n a t.1
 bd:PB (12^a) (2^(24 * a+e)) p
section
variable {n e e' a c:Nat} {p q:Pq Rat}
theorem PG.hash(h:PG n e a p)(n1:1<=n)(n3:n<=3)(a4:a<=4):zn4 p:=zso n1 n3 h.nd fun t ht=>(h.ky t ht).up a4
end
def zs(n:Nat):List Int:=List.replicate n 0
def zgt(n k:Nat):List Int:=List.replicate k 0++[1]++List.replicate (n - k - 1) 0
theorem zmM(k:Nat):PyData.tuple (List.replicate k [PyData.int 0]).flatten=pwD (List.replicate k 0):=by
 unfold pwD;congr 1
 induction k with
 | zero=>rfl
 | succ k ih=>rw [List.replicate_succ,List.flatten_cons,List.replicate_succ,List.map_cons,<-ih]; rfl
theorem zz7{k:Int}(h:k < 1000)(h2:-1000 < k):zep (.d (pwD [0])) (.d (.int k))=some (.d (pwD (List.replicate k.toNat 0))):=by
 rw [<-zmM];exact zgF (xs:=[.int 0]) (by decide) h h2 (by decide)
theorem zlp{n k:Nat}(hk:k < n):(zgt n k).length=n:=by
 unfold zgt;rw [qr,qr,List.length_replicate,List.length_replicate,List.length_singleton];omega
theorem zsp(n:Nat):(zs n).length=n:=List.length_replicate
theorem zsq{n k:Nat}:∀ j∈zgt n k,0<=j/\j<=1:=fun j hj=>by
 unfold zgt at hj;rcases List.mem_append.mp hj with z | z
 ·rcases List.mem_append.mp z with z | z
  ·rw [List.eq_of_mem_replicate z]; omega
  ·rw [qp.mp z]; omega
 ·rw [List.eq_of_mem_replicate z]; omega
theorem zyk{n:Nat}:∀ j∈zs n,j=0:=fun j hj=>List.eq_of_mem_replicate hj
end K51
open PySem L2
namespace K51
open PySem L2
structure Fm where
 p:Pq Int
 b:Int
 r:Int
def cF(F:Fm):D:=fmD F.p F.b F.r
def zgu(p:Pq Int)(b r:Int):Fm:=if(p.filter fun t=>!decide (t.2=0)).isEmpty=true then⟨[],1,256⟩else⟨p.filter fun t=>!decide (t.2=0),b,r⟩
theorem ziO{α:Type}{p:Pq α}(h:NdK p)(f:List Int×α->Bool):NdK (p.filter f):=h.sublist (List.filter_sublist.map _)
theorem zz8:zfy 1=1:=by decide
theorem zsr{α:Type}(p:Pq α):(p.map fun a=>(a.1,a.2))=p:=by simp
theorem ze3{p:Pq Int}{b r:Int}{u:U}(hu:u.fz=some (.dict (dcG .int p)))(nd:NdK p)(hl:p.length < 1000)(b1:1<=b)(hb:zfy b<=r)(hg:b.natAbs.log2 < 9000) :
  zcb [u,.d (.int b),.d (.int r)]=some (.d (cF (zgu p b r)),[.d (.dict (dcG .int p)),.d (.int b),.d (.int r)]):=by
 refine zW ?_;simp_arith [zcb,ziM,hu];rw [zeX p];refine zhx (c:=PyData.int) (b:=fun t=>!decide (t.2=0)) (k:=(·.1)) (v:=(·.2)) (by omega) (fun t ht ys=>?_) ?_
 ·simp_arith
  by_cases h:t.2=0
  ·simp_arith [h]
  ·simp_arith [h,zjG]
 ·rw [zsr,zmA (ziO nd _)]
  simp_arith
  by_cases h:(p.filter fun t=>!decide (t.2=0)).isEmpty=true
  ·have e:zgu p b r=⟨[],1,256⟩:=if_pos h
   have e2:(p.filter fun t=>!decide (t.2=0))=[]:=by simpa using h
   rw [e];simp_arith [h];rw [e2];refine zgB (fun i ρ=>i=0/\ρ=[some (U.d (.dict (dcG .int p))),some (.d (.int b)),some (.d (.int r)),some (.d (.dict (dcG .int ([]:Pq Int)))),some (.d (.int b)),none,none]) ⟨rfl,rfl⟩ (fun i d ρ hd=>by cases hd) ?_;rintro _ ⟨_,rfl⟩;simp_arith;refine zhx (c:=PyData.int) (b:=fun t=>true) (k:=(·.1)) (v:=fun t:List Int×Int=>t.2) (as:=[]) (by decide) (fun t ht=>by cases ht) ?_;have e3:dcP (List.map (fun a:List Int×Int=>(a.1,a.2)) (List.filter (fun _=>true) []))=[]:=rfl;rw [e3];have d1:b.fdiv b=1:=Int.fdiv_self (by omega);have lg:∀ i:Int,i=1\/i=2->i.natAbs.log2 < 1000000:=by rintro i (rfl | rfl)<;>exact Nat.lt_of_le_of_lt (Nat.log2_le_self _) (by decide)
   simp_arith [zf3 (a:=b) (b:=b) ⟨by omega,hg⟩,d1,zz8,zbD (a:=2) (b:=1) (lg _ (.inr rfl)) (lg _ (.inl rfl))];rfl
  ·have e:zgu p b r=⟨p.filter fun t=>!decide (t.2=0),b,r⟩:=if_neg h
   have h':(p.filter fun t=>!decide (t.2=0)).isEmpty=false:=by simpa using h
   rw [e];simp_arith [h',hb];rfl
theorem zss{t:List Int×Int}:NdK [t]:=by unfold NdK; simp
theorem zdX{n:Nat}{f:Rat}(hn:n<=3)(hb:zfy (f.den:Int)<=256)(hg:f.den.log2 < 9000):zal [.d (fR f),.d (.int (n:Int))]=some (.d (cF (zgu [(zs n,f.num)] f.den 256)),[.d (fR f),.d (.int (n:Int))]):=by
 refine zW ?_;have s:=ze3 (u:=.t (kvG .int [(zs n,f.num)])) (p:=[(zs n,f.num)]) (b:=f.den) (r:=256) zb7 zss (by show(1:Nat) < 1000; decide) (zhp f) hb (by rw [Int.natAbs_natCast]; exact hg);simp_arith [zal,zcr,zmM,Int.toNat_natCast];rw [show [(kL (List.replicate n 0),PyData.int f.num)]=kvG PyData.int [(zs n,f.num)] from rfl];simp_arith [s]
theorem zhM{n k:Nat}(hk:k < n)(hn:n<=3):zaD [.d (.int (k:Int)),.d (.int (n:Int))]=some (.d (cF ⟨[(zgt n k,1)],1,256⟩),[.d (.int (k:Int)),.d (.int (n:Int))]):=by
 refine zW ?_;have e:((n:Int) - (k:Int) - 1).toNat=n - k - 1:=by omega
 simp_arith [zaD,zco,zmM,Int.toNat_natCast,e,zjL,zx5 (a:=List.replicate k 0) (b:=[1]) (by rw [List.length_replicate]; show k+1<=1000; omega),zx5 (a:=List.replicate k 0++[1]) (b:=List.replicate (n - k - 1) 0) (by rw [qr,List.length_replicate,List.length_replicate]; show k+1+_<=1000; omega),zz7 (k:=(k:Int)) (by omega) (by omega),zz7 (k:=(n:Int) - (k:Int) - 1) (by omega) (by omega)];rw [zjF];rfl
theorem zhN{a b:List Int}(h:a.length=b.length)(hl:a.length < 64):zbH [.d (pwD a),.d (pwD b)]=some (.d (pwD (zaa a b)),[.d (pwD a),.d (pwD b)]):=by
 refine zW ?_;simp_arith [zbH,zex,zft h];refine zcT (e:=fun t=>.int (t.1+t.2)) (by rw [List.length_zip,<-h]; omega) (fun t ht ys=>?_) ?_
 ·simp_arith
 ·rw [show((a.zip b).map fun t=>PyData.int (t.1+t.2))=(zaa a b).map PyData.int by unfold zaa; rw [List.map_zipWith,List.zip,List.map_zipWith]]
  simp_arith;rfl
end K51
open PySem L2
namespace K51
open PySem L2
structure FZ (F:Fm):Prop where
 nd:NdK F.p
 ln:F.p.length < 64
 b1:1<=F.b
 bs:F.b.natAbs < 2^1000
 ns:∀ t∈F.p,t.2.natAbs < 2^3000
 r1:256<=F.r
def scI(p:Pq Int)(c:Int):Pq Int:=p.map fun t=>(t.1,t.2 * c)
def zjZ(F G:Fm)(f:Rat):Fm :=
 zgu (gat (scI F.p ((G.b * f.den).fdiv (Int.gcd F.b (G.b * f.den):Nat))) (scI G.p (F.b.fdiv (Int.gcd F.b (G.b * f.den):Nat) * f.num))) (F.b * (G.b * f.den).fdiv (Int.gcd F.b (G.b * f.den):Nat)) (if G.r > F.r then G.r else F.r)
theorem zj0{p:Pq Int}(h:NdK p)(c:Int):NdK (scI p c):=by
 unfold NdK scI;rw [List.map_map];exact h
theorem zgJ(p:Pq Int)(c:Int):(scI p c).length=p.length:=List.length_map ..
theorem lgs{x:Int}{k:Nat}(h:x.natAbs < 2^k)(hk:k < 9000)(h0:0 < k):x.natAbs.log2 < 1000000:=Nat.lt_trans (zba h0 h) (Nat.lt_trans hk (by decide))
theorem zuB{x:Int}{k:Nat}(h:x.natAbs < 2^k)(hk:k < 9000)(h0:0 < k):x.natAbs.log2 < 9000:=Nat.lt_trans (zba h0 h) hk
theorem zst{x y:Int}{j k:Nat}(hx:x.natAbs < 2^j)(hy:y.natAbs < 2^k):(x * y).natAbs < 2^(j+k):=by
 rw [Int.natAbs_mul,Nat.pow_add];exact Nat.mul_lt_mul'' hx hy
theorem zoh{x g:Int}{k:Nat}(h0:0<=x)(hg:0 < g)(hx:x.natAbs < 2^k):(x.fdiv g).natAbs < 2^k:=by
 rw [Int.fdiv_eq_ediv_of_nonneg _ (by omega)];refine Nat.lt_of_le_of_lt ?_ hx;have:=Int.ediv_le_self g h0;have:=Int.ediv_nonneg h0 (by omega:0<=g);omega
theorem zoi{b:Int}{k:Nat}(h0:0 < k)(h:b.natAbs < 2^k):zfy b<=k:=by
 unfold zfy Builtin.Int.intBits;split
 ·exact Int.natCast_nonneg _
 ·have:=zba h0 h
  omega
theorem zlq{F G:Fm}{f:Rat}(hF:FZ F)(hG:FZ G)(hn:f.num.natAbs < 2^1000)(hd:f.den < 2^100)(hb:(F.b * (G.b * f.den).fdiv (Int.gcd F.b (G.b * f.den):Nat)).natAbs < 2^256) :
  zcq [.d (cF F),.d (cF G),.d (fR f)]=some (.d (cF (zjZ F G f)),[.d (cF F),.d (cF G),.d (fR f)]):=by
 refine zW ?_;have hd':((f.den:Nat):Int).natAbs < 2^100:=by rw [Int.natAbs_natCast]; exact hd
 have d1:=zhp f;have Fb:=hF.b1;have Gb:=hG.b1;have be0:0 < G.b * (f.den:Int):=Int.mul_pos (by omega) (by omega);have bes:=zst hG.bs hd';have gp:0 < Int.gcd F.b (G.b * f.den):=Int.gcd_pos_of_ne_zero_left _ (by omega);have gl:Int.gcd F.b (G.b * f.den)<=F.b.natAbs:=Int.gcd_le_natAbs_left _ (by omega);have cg:∀ z:Int,zgX z ((Int.gcd F.b (G.b * f.den):Nat):Int):=fun z=>⟨by omega,by rw [Int.natAbs_natCast]; exact zmK gl (zuB hF.bs (by decide) (by decide))⟩;have fs:=zoh (Int.le_of_lt be0) (by omega:(0:Int) < (Int.gcd F.b (G.b * f.den):Nat)) bes;have ss:=zoh (by omega:0<=F.b) (by omega:(0:Int) < (Int.gcd F.b (G.b * f.den):Nat)) hF.bs;have ss2:=zst ss hn;have cf:=zbG (x:=F.b) (y:=G.b * f.den) (by omega) (by omega);unfold cF zjZ;generalize hfi:(G.b * (f.den:Int)).fdiv (Int.gcd F.b (G.b * f.den):Nat)=fi at *;generalize hse:F.b.fdiv (Int.gcd F.b (G.b * f.den):Nat)=se at *;simp_arith [zcq,zhI,zbD (a:=G.b) (b:=(f.den:Int)) (lgs hG.bs (by decide) (by decide)) (lgs hd' (by decide) (by decide)),cf,zf3 (cg _),hfi,hse,zbD (a:=se) (b:=f.num) (lgs ss (by decide) (by decide)) (lgs hn (by decide) (by decide))];rw [zeX F.p];have ec:(F.p.filter fun _=>true).map (fun a=>(a.1,a.2 * fi))=scI F.p fi:=by
  unfold scI;rw [List.filter_eq_self.mpr fun _ _=>rfl]
 refine zhx (c:=PyData.int) (b:=fun t=>true) (k:=(·.1)) (v:=fun t:List Int×Int=>t.2 * fi) (by have:=hF.ln; omega) (fun t ht ys=>?_) ?_
 ·simp_arith [zbD (a:=t.2) (b:=fi) (lgs (hF.ns t ht) (by decide) (by decide)) (lgs fs (by decide) (by decide)),zjG]
 rw [ec,zmA (zj0 hF.nd fi)];simp_arith;rw [zeX G.p];have gnd:=zj0 hF.nd fi;refine za5 (fun bs cs ρ=>∃ o8 o9,ρ=[some (U.d (fmD F.p F.b F.r)),some (U.d (fmD G.p G.b G.r)),some (U.d (fR f)),some (U.d (PyData.int (G.b * (f.den:Int)))),some (U.d (PyData.int ((F.b.gcd (G.b * (f.den:Int)):Nat):Int))),some (U.d (PyData.int fi)),some (U.d (PyData.int (se * f.num))),some (.t (kvG PyData.int (gat (scI F.p fi) (scI bs (se * f.num))))),o8,o9]) ⟨none,none,rfl⟩ ?_ ?_
 ·rintro bs t cs _ e ⟨o8,o9,rfl⟩
  have ht:t∈G.p:=by rw [e]; simp
  have lb:bs.length+cs.length+1=G.p.length:=by rw [e,qr,qt]; omega
  have l1:=zcx (scI bs (se * f.num)) (scI F.p fi);rw [zgJ,zgJ]at l1;have l2:=hF.ln;have l3:=hG.ln;have eg:gat (scI F.p fi) (scI (bs++[t]) (se * f.num))=zat (gat (scI F.p fi) (scI bs (se * f.num))) t.1 ((look (gat (scI F.p fi) (scI bs (se * f.num))) t.1).getD 0+t.2 * (se * f.num)):=by
   unfold scI;rw [List.map_append];exact zfq _ _ _
  rw [eg];have pu:∀ x:Int,ziE (.t (kvG PyData.int (gat (scI F.p fi) (scI bs (se * f.num))))) (pwD t.1) (.int x)=some (.t (kvG PyData.int (zat (gat (scI F.p fi) (scI bs (se * f.num))) t.1 x))):=fun x=>zmp (c:=PyData.int) (by omega);have mb:=zbD (a:=t.2) (b:=se * f.num) (lgs (hG.ns t ht) (by decide) (by decide)) (lgs ss2 (by decide) (by decide));cases hl:look (gat (scI F.p fi) (scI bs (se * f.num))) t.1 with
  | none =>
   simp_arith [hl,mb,pu,Option.getD_none];exact⟨_,_,rfl⟩
  | some z =>
   simp_arith [hl,mb,pu,Option.getD_some];exact⟨_,_,rfl⟩
 ·rintro _ ⟨o8,o9,rfl⟩
  have l1:=zcx (scI G.p (se * f.num)) (scI F.p fi);rw [zgJ,zgJ]at l1;have l2:=hF.ln;have l3:=hG.ln;have fi0:0 < fi:=by
   rw [<-hfi,Int.fdiv_eq_ediv_of_nonneg _ (by omega)];exact Int.ediv_pos_of_pos_of_dvd be0 (by omega) (Int.gcd_dvd_right _ _)
  have b1':1<=F.b * fi:=by have:=Int.mul_pos (by omega:0 < F.b) fi0; omega
  have rr:256<=(if G.r > F.r then G.r else F.r):=by have:=hF.r1; have:=hG.r1; split<;>omega
  have s:=ze3 (u:=.t (kvG .int (gat (scI F.p fi) (scI G.p (se * f.num))))) (p:=gat (scI F.p fi) (scI G.p (se * f.num))) (b:=F.b * fi) (r:=if G.r > F.r then G.r else F.r) zb7 (zcl _ gnd) (by omega) b1' (Int.le_trans (zoi (by decide) hb) rr) (zuB hb (by decide) (by decide));simp_arith [zbD (a:=F.b) (b:=fi) (lgs hF.bs (by decide) (by decide)) (lgs fs (by decide) (by decide)),s];rfl
def zpp(F G:Fm):Fm:=zgu (gat [] (zau F.p G.p)) (F.b * G.b) (if G.r > F.r then G.r else F.r)
theorem zuC(acc ts us:Pq Int):gat acc (ts++us)=gat (gat acc ts) us:=List.foldl_append ..
theorem zib{F G:Fm}{n:Nat}(hF:FZ F)(hG:FZ G)(h1:∀ t∈F.p,t.1.length=n)(h2:∀ t∈G.p,t.1.length=n)(hn:n < 64)(hb:(F.b * G.b).natAbs < 2^256)(hl:F.p.length * G.p.length < 1000) :
  zaJ [.d (cF F),.d (cF G)]=some (.d (cF (zpp F G)),[.d (cF F),.d (cF G)]):=by
 refine zW ?_;unfold cF zpp;have Fb:=hF.b1;have Gb:=hG.b1;have l2:=hF.ln;have l3:=hG.ln;simp_arith [zaJ,zcI];rw [zeX F.p];have pl:∀ bs:Pq Int,bs.length<=F.p.length->(zau bs G.p).length < 1000:=fun bs hb=>by
  rw [zhs];exact Nat.lt_of_le_of_lt (Nat.mul_le_mul_right _ hb) hl
 refine za5 (fun bs cs ρ=>∃ o3 o4 o5 o6 o7,ρ=[some (U.d (fmD F.p F.b F.r)),some (U.d (fmD G.p G.b G.r)),some (.t (kvG PyData.int (gat [] (zau bs G.p)))),o3,o4,o5,o6,o7]) ⟨none,none,none,none,none,rfl⟩ ?_ ?_
 ·rintro bs s cs _ e ⟨o3,o4,o5,o6,o7,rfl⟩
  have hs:s∈F.p:=by rw [e]; simp
  have lb:bs.length+cs.length+1=F.p.length:=by rw [e,qr,qt]; omega
  simp_arith;rw [zeX G.p];have epm:∀ ds:Pq Int,gat [] (zau bs G.p++ds.map fun t=>(zaa s.1 t.1,s.2 * t.2))=gat (gat [] (zau bs G.p)) (ds.map fun t=>(zaa s.1 t.1,s.2 * t.2)):=fun ds=>zuC _ _ _;refine za5 (fun ds es ρ=>∃ o5 o6 o7,ρ=[some (U.d (fmD F.p F.b F.r)),some (U.d (fmD G.p G.b G.r)),some (.t (kvG PyData.int (gat [] (zau bs G.p++ds.map fun t=>(zaa s.1 t.1,s.2 * t.2))))),some (.d (pwD s.1)),some (.d (.int s.2)),o5,o6,o7]) ⟨o5,o6,o7,by rw [List.map_nil,List.append_nil]⟩ ?_ ?_
  ·rintro ds t es _ e2 ⟨o5,o6,o7,rfl⟩
   have ht:t∈G.p:=by rw [e2]; simp
   have ld:ds.length+es.length+1=G.p.length:=by rw [e2,qr,qt]; omega
   have l1:=zcx (zau bs G.p++ds.map fun t=>(zaa s.1 t.1,s.2 * t.2)) [];rw [qr,List.length_map]at l1;have l4:=pl bs (by omega);have pp:=zhN (a:=s.1) (b:=t.1) ((h1 s hs).trans (h2 t ht).symm) (by rw [h1 s hs]; exact hn);have eg:gat [] (zau bs G.p++(ds++[t]).map fun t=>(zaa s.1 t.1,s.2 * t.2))=zat (gat [] (zau bs G.p++ds.map fun t=>(zaa s.1 t.1,s.2 * t.2))) (zaa s.1 t.1) ((look (gat [] (zau bs G.p++ds.map fun t=>(zaa s.1 t.1,s.2 * t.2))) (zaa s.1 t.1)).getD 0+s.2 * t.2):=by
    rw [List.map_append,<-List.append_assoc];exact zfq _ _ _
   rw [eg];generalize gat [] (zau bs G.p++ds.map fun t=>(zaa s.1 t.1,s.2 * t.2))=gg at *;have pu:∀ x:Int,ziE (.t (kvG PyData.int gg)) (pwD (zaa s.1 t.1)) (.int x)=some (.t (kvG PyData.int (zat gg (zaa s.1 t.1) x))):=fun x=>zmp (c:=PyData.int) (by simp at l1; omega);have mb:=zbD (a:=s.2) (b:=t.2) (lgs (hF.ns s hs) (by decide) (by decide)) (lgs (hG.ns t ht) (by decide) (by decide));cases hlk:look gg (zaa s.1 t.1)with
   | none =>
    simp_arith [pp,hlk,mb,pu,Option.getD_none];exact⟨_,_,_,rfl⟩
   | some z =>
    simp_arith [pp,hlk,mb,pu,Option.getD_some];exact⟨_,_,_,rfl⟩
  ·rintro _ ⟨o5,o6,o7,rfl⟩
   simp_arith;have:zau (bs++[s]) G.p=zau bs G.p++G.p.map fun t=>(zaa s.1 t.1,s.2 * t.2):=by unfold zau; simp
   rw [this];exact⟨_,_,_,_,_,rfl⟩
 ·rintro _ ⟨o3,o4,o5,o6,o7,rfl⟩
  have l1:=zcx (zau F.p G.p) [];have l4:=pl F.p (qe _);have b1':1<=F.b * G.b:=by have:=Int.mul_pos (by omega:0 < F.b) (by omega:0 < G.b); omega
  have rr:256<=(if G.r > F.r then G.r else F.r):=by have:=hF.r1; have:=hG.r1; split<;>omega
  have s:=ze3 (u:=.t (kvG .int (gat [] (zau F.p G.p)))) (p:=gat [] (zau F.p G.p)) (b:=F.b * G.b) (r:=if G.r > F.r then G.r else F.r) zb7 (zcl _ List.nodup_nil) (by simp at l1; omega) b1' (Int.le_trans (zoi (by decide) hb) rr) (zuB hb (by decide) (by decide));simp_arith [zbD (a:=F.b) (b:=G.b) (lgs hF.bs (by decide) (by decide)) (lgs hG.bs (by decide) (by decide)),s];rfl
theorem zj1{F:Fm}(hF:FZ F):zbt [.d (cF F)]=some (.l (tmG fR (srt (toR F.b F.p))),[.d (cF F)]):=by
 refine zW ?_;unfold cF;have l2:=hF.ln;have Fb:=hF.b1;simp_arith [zbt,zdQ];rw [zeX F.p];refine zcT (e:=fun t=>.tuple [pwD t.1,fR (Rat.divInt t.2 F.b)]) (by omega) (fun t ht ys=>?_) ?_
 ·simp_arith [zeh (n:=t.2) (d:=F.b) (by omega) (zuB hF.bs (by decide) (by decide))]
 ·have e:(F.p.map fun t=>PyData.tuple [pwD t.1,fR (Rat.divInt t.2 F.b)])=tmG fR (toR F.b F.p):=by
   unfold toR tmG;rw [List.map_map];rfl
  have nd:NdK (toR F.b F.p):=by
   unfold NdK toR;rw [List.map_map];exact hF.nd
  have st:=zx1 (c:=fR) nd (by unfold toR; rw [List.length_map]; exact l2);rw [e];simp_arith [st]
def zaA(F:Fm)(h:List Int->Rat):Rat:=lin (toR F.b F.p) h
structure FO (n e a w:Nat) (F:Fm):Prop where
 nd:NdK F.p
 ky:∀ t∈F.p,Ks n w t.1
 b1:1<=F.b
 dv:F.b∣((36^a:Nat):Int)
 bd:∀ t∈F.p,Bd (36^a) (2^(24 * a+e)) (Rat.divInt t.2 F.b)
 nz:∀ t∈F.p,t.2≠0
 r1:256<=F.r
theorem zyl{M B:Nat}{x b:Int}(h:Bd M B (Rat.divInt x b))(b1:1<=b)(dv:b∣(M:Int))(hM:0 < M):x.natAbs<=B:=by
 obtain⟨k,e,hk⟩:=h;obtain⟨c,hc⟩:=dv;have e2:(k:Rat)=((x * c:Int):Rat):=by
  rw [<-e,show((M:Nat):Rat)=((M:Int):Rat) from rfl,hc,Rat.intCast_mul,Rat.intCast_mul,Rat.divInt_eq_div];have:(b:Rat)≠0:=fun z=>by
   have:b=0:=by exact_mod_cast z
   omega
  grind
 have e3:k=x * c:=by exact_mod_cast e2
 have c0:c≠0:=fun z=>by rw [z,Int.mul_zero]at hc; omega
 rw [e3,Int.natAbs_mul]at hk;have:1<=c.natAbs:=by omega
 exact qx (Nat.le_mul_of_pos_right _ this) hk
section
variable {n e a w:Nat} {F G:Fm}
theorem FO.len(h:FO n e a w F)(n1:1<=n)(n3:n<=3)(w4:w<=4):F.p.length<=35:=by
 have:=List.Nodup.length_le_of_subset h.nd (l₂:=zjY n 4) fun x hx=>by
  obtain⟨t,ht,rfl⟩:=List.mem_map.mp hx;exact zsn ((h.ky t ht).up w4)
 rw [List.length_map]at this;refine qx this ?_;rcases(by omega:n=1\/n=2\/n=3)with rfl | rfl | rfl<;>decide
theorem FO.ble(h:FO n e a w F)(a4:a<=4):F.b.natAbs<=1679616:=by
 have h1:=Int.le_of_dvd (by exact_mod_cast Nat.pow_pos (by decide)) h.dv;have h2:(36:Nat)^a<=36^4:=Nat.pow_le_pow_right (by decide) a4;have h3:=h.b1;have:(36:Nat)^4=1679616:=by decide
 omega
theorem zAF{x y:Nat}(h:x < y):2^x < 2^y:=Nat.pow_lt_pow_right (by decide) h
theorem FO.fz(h:FO n e a w F)(n1:1<=n)(n3:n<=3)(w4:w<=4)(a4:a<=4)(he:e<=2800):FZ F :=
 ⟨h.nd,by have:=h.len n1 n3 w4; omega,h.b1,Nat.lt_of_le_of_lt (h.ble a4) (qi (by decide:1679616 < 2^21) (Nat.pow_le_pow_right (by decide) (by decide))),
  fun t ht=>Nat.lt_of_le_of_lt (zyl (h.bd t ht) h.b1 h.dv (Nat.pow_pos (by decide))) (zAF (by omega)),h.r1⟩
theorem FO.up(h:FO n e a w F){e' w':Nat}(he:e<=e')(hw:w<=w'):FO n e' a w' F :=
 ⟨h.nd,fun t ht=>(h.ky t ht).up hw,h.b1,h.dv,fun t ht=>(h.bd t ht).le (Nat.pow_le_pow_right (by decide) (by omega)),h.nz,h.r1⟩
theorem zlr{p:Pq Int}{b r:Int}(hb:b≠0)(h:List Int->Rat):zaA (zgu p b r) h=lin (toR b p) h:=by
 unfold zgu zaA;rw [<-zjB (toR b p) h,show(toR b p).filter (fun t=>decide (t.2≠0))=toR b (p.filter fun t=>!decide (t.2=0)) from zx0 hb p];split
 ·rename_i z
  have e2:(p.filter fun t=>!decide (t.2=0))=[]:=by simpa using z
  rw [e2];rfl
 ·rfl
theorem zoj{p:Pq Int}{b r:Int}(nd:NdK p)(ky:∀ t∈p,Ks n w t.1)(b1:1<=b)(dv:b∣((36^a:Nat):Int))(bd:∀ t∈p,Bd (36^a) (2^(24 * a+e)) (Rat.divInt t.2 b))(r1:256<=r):FO n e a w (zgu p b r):=by
 unfold zgu;split
 ·exact⟨List.nodup_nil,fun t h=>(by cases h),by decide,⟨_,(Int.one_mul _).symm⟩,fun t h=>(by cases h),fun t h=>(by cases h),by decide⟩
 ·refine⟨ziO nd _,fun t h=>ky t (List.mem_filter.mp h).1,b1,dv,fun t h=>bd t (List.mem_filter.mp h).1,fun t h=>?_,r1⟩
  have:=(List.mem_filter.mp h).2;simpa using this
theorem zmN{c:Int}{p:Pq Int}(h:NdK p):NdK (toR c p):=by
 unfold NdK toR;rw [List.map_map];exact h
theorem zls{c:Int}(hc:c≠0)(acc ts:Pq Int):toR c (gat acc ts)=gat (toR c acc) (toR c ts):=zn0 (fun k=>Rat.divInt k c) (Rat.zero_divInt c) (fun a b=>by
 rw [Rat.divInt_add_divInt _ _ hc hc,<-Int.add_mul,Rat.divInt_mul_right hc]) ts acc
theorem zda{A X:Int}(hA:1<=A)(hX:1<=X):1<=X.fdiv (Int.gcd A X:Nat)/\X.fdiv (Int.gcd A X:Nat) * (Int.gcd A X:Nat)=X/\A.fdiv (Int.gcd A X:Nat) * (Int.gcd A X:Nat)=A/\(0:Int) < (Int.gcd A X:Nat):=by
 have g0:(0:Int) < (Int.gcd A X:Nat):=by exact_mod_cast Int.gcd_pos_of_ne_zero_left _ (by omega)
 rw [Int.fdiv_eq_ediv_of_nonneg _ (by omega),Int.fdiv_eq_ediv_of_nonneg _ (by omega)];refine⟨?_,Int.ediv_mul_cancel (Int.gcd_dvd_right _ _),Int.ediv_mul_cancel (Int.gcd_dvd_left _ _),g0⟩;exact Int.ediv_pos_of_pos_of_dvd (by omega) (by omega) (Int.gcd_dvd_right _ _)
theorem sc1{p:Pq Int}{b c:Int}(hb:b≠0)(hc:c≠0):toR (b * c) (scI p c)=toR b p:=by
 unfold toR scI;rw [List.map_map];refine List.map_congr_left fun t _=>?_;show(t.1,Rat.divInt (t.2 * c) (b * c))=_;rw [Rat.divInt_mul_right hc]
theorem sc2{p:Pq Int}{b c d s:Int}{f:Rat}(h:∀ x:Int,Rat.divInt (x * s) (b * c)=f * Rat.divInt x d):toR (b * c) (scI p s)=(toR d p).map fun t=>(t.1,f * t.2):=by
 unfold toR scI;rw [List.map_map,List.map_map];refine List.map_congr_left fun t _=>?_;show(t.1,Rat.divInt (t.2 * s) (b * c))=(t.1,f * Rat.divInt t.2 d);rw [h]
theorem zsu(f:Rat)(p:Pq Rat)(h:List Int->Rat):lin (p.map fun t=>(t.1,f * t.2)) h=f * lin p h:=by
 induction p with
 | nil=>rw [List.map_nil,zaf,Rat.mul_zero]
 | cons t p ih =>
  rw [List.map_cons,zB,zB,ih];grind
theorem zsv{A d:Int}{f:Rat}(hA:1<=A)(hd:1<=d)(x:Int) :
  Rat.divInt (x * (A.fdiv (Int.gcd A (d * f.den):Nat) * f.num)) (A * (d * f.den).fdiv (Int.gcd A (d * f.den):Nat))=f * Rat.divInt x d:=by
 have d1:=zhp f;have X1:1<=d * (f.den:Int):=by have:=Int.mul_pos (by omega:0 < d) (by omega:(0:Int) < f.den); omega
 obtain⟨h1,h2,h3,h4⟩:=zda hA X1;generalize (d * (f.den:Int)).fdiv (Int.gcd A (d * f.den):Nat)=fi at *;generalize A.fdiv (Int.gcd A (d * f.den):Nat)=se at *;generalize ((Int.gcd A (d * f.den):Nat):Int)=g at *;have hf:f * (f.den:Rat)=(f.num:Rat):=zhq f;have q1:((A * fi:Int):Rat)≠0:=fun z=>by
  have z:A * fi=0:=by exact_mod_cast z
  have:=Int.mul_pos (by omega:0 < A) (by omega:0 < fi);omega
 have q2:(d:Rat)≠0:=fun z=>by
  have z:d=0:=by exact_mod_cast z
  omega
 have q3:(g:Rat)≠0:=fun z=>by
  have z:g=0:=by exact_mod_cast z
  omega
 have r2:(fi:Rat) * (g:Rat)=(d:Rat) * ((f.den:Int):Rat):=by rw [<-Rat.intCast_mul,<-Rat.intCast_mul,h2]
 have r3:(se:Rat) * (g:Rat)=(A:Rat):=by rw [<-Rat.intCast_mul,h3]
 have hf':f * ((f.den:Int):Rat)=(f.num:Rat):=hf;rw [Rat.divInt_eq_div,Rat.divInt_eq_div];rw [Rat.intCast_mul,Rat.intCast_mul];rw [Rat.intCast_mul]at q1 ⊢;grind
theorem zuD(hF:FO n e a w F)(hG:1<=G.b){f:Rat}(h:List Int->Rat):zaA (zjZ F G f) h=zaA F h+f * zaA G h:=by
 have d1:=zhp f;have X1:1<=G.b * (f.den:Int):=by have:=Int.mul_pos (by omega:0 < G.b) (by omega:(0:Int) < f.den); omega
 obtain⟨h1,h2,h3,h4⟩:=zda hF.b1 X1;have A1:=hF.b1;have c0:F.b * (G.b * (f.den:Int)).fdiv (Int.gcd F.b (G.b * f.den):Nat)≠0:=by
  have:=Int.mul_pos (by omega:0 < F.b) (by omega:0 < (G.b * (f.den:Int)).fdiv (Int.gcd F.b (G.b * f.den):Nat));omega
 unfold zjZ;rw [zlr c0,zls c0,zfr _ _ (zmN (zj0 hF.nd _)),sc1 (by omega) (by omega),sc2 (zsv hF.b1 hG),zsu];rfl
theorem zym{A X:Int}{M:Nat}(hA:1<=A)(hX:1<=X)(h1:A∣(M:Int))(h2:X∣(M:Int)):A * X.fdiv (Int.gcd A X:Nat)∣(M:Int):=by
 obtain⟨f1,f2,f3,f4⟩:=zda hA hX;have e:A * X.fdiv (Int.gcd A X:Nat)=(Int.lcm A X:Nat):=by
  have hg:=Int.gcd_mul_lcm A X;have hg':((Int.gcd A X:Nat):Int) * ((Int.lcm A X:Nat):Int)=A * X:=by
   rw [<-Int.natCast_mul,hg];have:=Int.mul_pos (by omega:0 < A) (by omega:0 < X)
   first | exact Int.natAbs_of_nonneg (Int.le_of_lt this) | (rw [<-Int.natAbs_mul]; exact Int.natAbs_of_nonneg (Int.le_of_lt this))
  refine Int.eq_of_mul_eq_mul_left (a:=((Int.gcd A X:Nat):Int)) (by omega) ?_;rw [hg',Int.mul_left_comm,Int.mul_comm _ (X.fdiv _),f2]
 rw [e];exact Int.natCast_dvd_natCast.mpr (Int.lcm_dvd h1 h2)
theorem zok{c:Int}{p:Pq Int}{t:List Int×Int}(h:t∈p):(t.1,Rat.divInt t.2 c)∈toR c p:=List.mem_map.mpr ⟨t,h,rfl⟩
theorem zwb{A X:Int}(hF:FO n e (a+1) w F)(hG:FO n e a w G){f:Rat}(hf:f.den∣36):F.b * (G.b * (f.den:Int)).fdiv (Int.gcd F.b (G.b * f.den):Nat)∣((36^(a+1):Nat):Int):=by
 have d1:=zhp f;have G1:=hG.b1;have X1:1<=G.b * (f.den:Int):=by have:=Int.mul_pos (by omega:0 < G.b) (by omega:(0:Int) < f.den); omega
 refine zym hF.b1 X1 hF.dv ?_;rw [Nat.pow_succ,Int.natCast_mul];exact Int.mul_dvd_mul hG.dv (by exact_mod_cast hf)
theorem zyn(n1:1<=n)(n3:n<=3)(w4:w<=4)(hF:FO n e (a+1) w F)(hG:FO n e a w G){f:Rat}(hf:Bd 36 (2^24) f):FO n (e+6) (a+1) w (zjZ F G f):=by
 have d1:=zhp f;have G1:=hG.b1;have A1:=hF.b1;have X1:1<=G.b * (f.den:Int):=by have:=Int.mul_pos (by omega:0 < G.b) (by omega:(0:Int) < f.den); omega
 obtain⟨h1,h2,h3,h4⟩:=zda hF.b1 X1;have c1:1<=F.b * (G.b * (f.den:Int)).fdiv (Int.gcd F.b (G.b * f.den):Nat):=by
  have:=Int.mul_pos (by omega:0 < F.b) (by omega:0 < (G.b * (f.den:Int)).fdiv (Int.gcd F.b (G.b * f.den):Nat));omega
 unfold zjZ;refine zoj (zcl _ (zj0 hF.nd _)) ?_ c1 (zwb (A:=0) (X:=0) hF hG hf.dvd) ?_ (by have:=hF.r1; have:=hG.r1; split<;>omega)
 ·refine zkY (Pk:=fun k=>Ks n w k) _ (fun t ht=>?_) (fun t ht=>?_)
  ·obtain⟨u,hu,rfl⟩:=List.mem_map.mp ht
   exact hF.ky u hu
  ·obtain⟨u,hu,rfl⟩:=List.mem_map.mp ht
   exact hG.ky u hu
 ·intro t ht
  have hm:=zok (c:=F.b * (G.b * (f.den:Int)).fdiv (Int.gcd F.b (G.b * f.den):Nat)) ht;rw [zls (by omega),sc1 (by omega) (by omega),sc2 (zsv hF.b1 hG.b1)]at hm;have b1:PB (36^(a+1)) (2^(24 * (a+1)+e)) (toR F.b F.p):=fun t ht=>by
   obtain⟨u,hu,rfl⟩:=List.mem_map.mp ht;exact hF.bd u hu
  have b2:PB (36^(a+1)) (2^(24 * (a+1)+e)) ((toR G.b G.p).map fun t=>(t.1,f * t.2)):=fun t ht=>by
   obtain⟨v,hv,rfl⟩:=List.mem_map.mp ht;obtain⟨u,hu,rfl⟩:=List.mem_map.mp hv;have:=hf.mul (hG.bd u hu);rw [Nat.mul_comm 36,<-Nat.pow_succ]at this;refine this.le ?_;rw [<-Nat.pow_add];exact Nat.pow_le_pow_right (by decide) (by omega)
  have:=zjE _ b1 b2 _ hm;refine this.le ?_;rw [List.length_map];unfold toR;rw [List.length_map];have l2:=hG.len n1 n3 w4;have e1:2^(24 * (a+1)+(e+6))=64 * 2^(24 * (a+1)+e):=by rw [show 24 * (a+1)+(e+6)=6+(24 * (a+1)+e) by omega,Nat.pow_add]
  rw [e1];have:=Nat.mul_le_mul_right (2^(24 * (a+1)+e)) l2;omega
def sh(n:Nat):Option Nat->List Int->List Int
 | none,k=>k
 | some j,k=>zaa k (zgt n j)
def leF(n j:Nat):Fm:=⟨[(zgt n j,1)],1,256⟩
def byF(n:Nat)(F:Fm):Option Nat->Fm
 | none=>F
 | some j=>zpp F (leF n j)
theorem zwc(p:Pq Int)(u:List Int):zau p [(u,1)]=p.map fun t=>(zaa t.1 u,t.2):=by
 unfold zau
 induction p with
 | nil=>rfl
 | cons t p ih =>
  rw [List.flatMap_cons,List.map_cons,ih];simp
theorem zuE{j:Nat}(b1:1<=F.b)(h:List Int->Rat):zaA (zpp F (leF n j)) h=zaA F fun k=>h (zaa k (zgt n j)):=by
 unfold zpp leF;dsimp only;rw [Int.mul_one,zlr (by omega),zwc,zn1 (by omega),zfr _ _ nd0,zaf,Rat.zero_add];unfold zaA toR lin;rw [List.map_map,List.map_map,List.map_map];rfl
theorem zyo(b1:1<=F.b)(l:Option Nat)(h:List Int->Rat):zaA (byF n F l) h=zaA F fun k=>h (sh n l k):=by
 cases l with
 | none=>rfl
 | some j=>exact zuE b1 h
theorem zsw{n j:Nat}:(zgt n j).sum=1:=by
 unfold zgt;simp
theorem zuF{j:Nat}(hj:j < n):Ks n 1 (zgt n j):=⟨zlp hj,fun k hk=>(zsq k hk).1,by rw [zsw]; decide⟩
theorem zz9(n1:1<=n)(n3:n<=3)(w3:w<=3)(hF:FO n e a w F){l:Option Nat}(hl:∀ k,l=some k->k < n):FO n (e+6) a (w+1) (byF n F l):=by
 cases l with
 | none=>exact hF.up (by omega) (by omega)
 | some j =>
  have hj:=hl j rfl;unfold byF zpp leF;dsimp only;rw [Int.mul_one,zwc];have F1:=hF.b1;refine zoj (zcl _ List.nodup_nil) ?_ hF.b1 hF.dv ?_ (by have:=hF.r1; split<;>omega)
  ·refine zkY (Pk:=fun k=>Ks n (w+1) k) _ (fun t ht=>by cases ht) (fun t ht=>?_)
   obtain⟨u,hu,rfl⟩:=List.mem_map.mp ht;exact(hF.ky u hu).add (zuF hj)
  ·intro t ht
   have hm:=zok (c:=F.b) ht;rw [zn1 (by omega)]at hm;have b2:PB (36^a) (2^(24 * a+e)) (toR F.b (F.p.map fun t=>(zaa t.1 (zgt n j),t.2))):=fun t ht=>by
    obtain⟨v,hv,rfl⟩:=List.mem_map.mp ht;obtain⟨u,hu,rfl⟩:=List.mem_map.mp hv;exact hF.bd u hu
   have:=zjE _ (C:=0) pb0 b2 _ hm;refine this.le ?_;unfold toR;rw [List.length_map,List.length_map];have l2:=hF.len n1 n3 (by omega);have e1:2^(24 * a+(e+6))=64 * 2^(24 * a+e):=by rw [show 24 * a+(e+6)=6+(24 * a+e) by omega,Nat.pow_add]
   rw [e1];have:=Nat.mul_le_mul_right (2^(24 * a+e)) l2;omega
theorem zAa:FO n e a w ⟨[],1,256⟩:=⟨List.nodup_nil,fun t h=>(by cases h),by decide,⟨_,(Int.one_mul _).symm⟩,fun t h=>(by cases h),fun t h=>(by cases h),by decide⟩
theorem zsx(h:List Int->Rat):zaA ⟨[],1,256⟩ h=0:=rfl
theorem zAG:zgu [(zs n,(0:Rat).num)] ((0:Rat).den:Int) 256=⟨[],1,256⟩:=rfl
theorem zAH:zgu [(zs n,(1:Rat).num)] ((1:Rat).den:Int) 256=⟨[(zs n,1)],1,256⟩:=rfl
theorem di1:Rat.divInt 1 1=1:=by decide
theorem zyp:FO n 0 0 0 ⟨[(zs n,1)],1,256⟩:=by
 refine⟨zss,fun t h=>?_,Int.le_refl 1,⟨_,(Int.one_mul _).symm⟩,fun t h=>?_,fun t h=>?_,Int.le_refl 256⟩
 ·cases qp.mp h
  refine⟨zsp n,fun k hk=>by rw [zyk k hk]; decide,?_⟩;unfold zs;simp
 ·cases qp.mp h
  show Bd 1 1 (Rat.divInt 1 1);rw [di1];exact Bd.one
 ·cases qp.mp h
  exact Int.one_ne_zero
theorem zuG(h:List Int->Rat):zaA ⟨[(zs n,1)],1,256⟩ h=h (zs n):=by
 have e:toR 1 [(zs n,1)]=[(zs n,(1:Rat))]:=by
  unfold toR;rw [List.map_cons,List.map_nil,di1]
 show lin (toR 1 [(zs n,1)]) h=_;rw [e,zB,zaf];grind
end
end K51
open PySem L2
namespace K51
open PySem L2
section
variable {n e a w:Nat} {F G:Fm}
theorem zAb:zqs false (.d .none) (.d .none)=some (.d (.bool true)):=id rfl
theorem zAc{j:Int}:zqs false (.d (.int j)) (.d .none)=some (.d (.bool false)):=id rfl
theorem zyq{j:Nat}:FZ (leF n j):=⟨zss,by show(1:Nat) < 64; decide,Int.le_refl 1,by show(1:Nat) < 2^1000; exact Nat.one_lt_two_pow (by decide),fun t ht=>by cases qp.mp ht; show(1:Nat) < 2^3000; exact Nat.one_lt_two_pow (by decide),Int.le_refl 256⟩
theorem zj2(n1:1<=n)(n3:n<=3)(w4:w<=4)(a4:a<=4)(he:e<=2800)(hF:FO n e a w F){l:Option Nat}(hl:∀ k,l=some k->k < n) :
  zbR [.d (cF F),.d (leD l),.d (.int (n:Int))]=some (.d (cF (byF n F l)),[.d (cF F),.d (leD l),.d (.int (n:Int))]):=by
 refine zW ?_;cases l with
 | none =>
  simp_arith [zbR,zdU,leD,zAb];rfl
 | some j =>
  have hj:=hl j rfl;have t:=zib (n:=n) (hF.fz n1 n3 w4 a4 he) (zyq (n:=n) (j:=j)) (fun t ht=>(hF.ky t ht).ln) (fun t ht=>by cases qp.mp ht; exact zlp hj) (by omega)
   (by show(F.b * 1).natAbs < _; rw [Int.mul_one]; exact Nat.lt_of_le_of_lt (hF.ble a4) (qi (by decide:1679616 < 2^21) (Nat.pow_le_pow_right (by decide) (by decide)))) (by show F.p.length * 1 < 1000; have:=hF.len n1 n3 w4; omega)
  have l:=zhM hj n3;unfold leF at t;simp_arith [zbR,zdU,leD,l,t,zAc];rfl
end
def zei(A:Pq Fm)(φ:List Int->List Int->Rat):Rat:=(A.map fun t=>zaA t.2 (φ t.1)).sum
structure AO (n e a:Nat) (A:Pq Fm):Prop where
 nd:NdK A
 fo:∀ t∈A,FO n e a a t.2
 kl:∀ t∈A,t.1.length=a
def nof:Fm:=⟨[],1,256⟩
theorem zgK(xs ys:List Rat):(xs++ys).sum=xs.sum+ys.sum:=by
 induction xs with
 | nil=>rw [List.nil_append,List.sum_nil,Rat.zero_add]
 | cons x xs ih=>rw [List.cons_append,List.sum_cons,List.sum_cons,ih,Rat.add_assoc]
theorem zsy{A:Pq Fm}(nd:NdK A){k:List Int}{F':Fm}{x:Rat}{φ:List Int->List Int->Rat}(h:zaA F' (φ k)=zaA ((look A k).getD nof) (φ k)+x):zei (zat A k F') φ=zei A φ+x:=by
 unfold zat;split
 ·rename_i hk
  induction A with
  | nil=>simp at hk
  | cons t A ih =>
   have nd':NdK A:=(List.nodup_cons.mp nd).2;have ni:t.1∉A.map (·.1):=(List.nodup_cons.mp nd).1
   by_cases e:t.1=k
   ·have hl:look (t::A) k=some t.2:=by unfold look; rw [List.find?_cons,decide_eq_true e]; rfl
    rw [hl,Option.getD_some]at h;have e2:A.map (fun t=>if t.1=k then(t.1,F')else t)=A:=by
     conv=>rhs; rw [<-List.map_id A]
     refine List.map_congr_left fun u hu=>?_;rw [if_neg fun z=>ni (by rw [e,<-z]; exact List.mem_map.mpr ⟨u,hu,rfl⟩)];rfl
    unfold zei;rw [List.map_cons,if_pos e,e2,List.map_cons,List.map_cons,List.sum_cons,List.sum_cons];dsimp only;rw [e,h];grind
   ·have hl:look (t::A) k=look A k:=by unfold look; rw [List.find?_cons,decide_eq_false e]
    rw [hl]at h;rw [List.any_cons,decide_eq_false e,Bool.false_or]at hk;have:=ih nd' h hk;unfold zei at this ⊢;rw [List.map_cons,if_neg e,List.map_cons,List.map_cons,List.sum_cons,List.sum_cons,this,Rat.add_assoc]
 ·rename_i hk
  have hl:look A k=none:=zc5.mpr (Bool.eq_false_iff.mpr hk);rw [hl,Option.getD_none,show nof=⟨[],1,256⟩ from rfl,zsx,Rat.zero_add]at h;unfold zei;rw [List.map_append,zgK,List.map_cons,List.map_nil,List.sum_cons,List.sum_nil,h,Rat.add_zero]
theorem AO.get{n e a:Nat}{A:Pq Fm}(h:AO n e a A)(k:List Int):FO n e a a ((look A k).getD nof):=by
 cases hl:look A k with
 | none=>exact zAa
 | some F=>exact h.fo _ (zkZ hl)
theorem AO.put{n e e' a:Nat}{A:Pq Fm}(h:AO n e a A)(he:e<=e'){k:List Int}{F:Fm}(hF:FO n e' a a F)(hk:k.length=a):AO n e' a (zat A k F):=by
 refine⟨h.nd.put k F,fun t ht=>?_,fun t ht=>?_⟩
 ·rcases zgD ht with ⟨h1,_⟩ | rfl
  ·exact(h.fo t h1).up he (qe _)
  ·exact hF
 ·rcases zgD ht with ⟨h1,_⟩ | rfl
  ·exact h.kl t h1
  ·exact hk
theorem zlt:∀ (ks:List Int),(ks.map PyData.int).mapM flD=some (ks.map V.int)
 | []=>rfl
 | z::zs=>by
  rw [List.map_cons,List.mapM_cons,zlt zs];rfl
theorem zol{c:Int}:∀ {ks:List Int},inV (.int c) (ks.map V.int)=decide (c∈ks)
 | []=>rfl
 | k::ks=>by
  have ih:=zol (c:=c) (ks:=ks);unfold inV at ih ⊢;rw [List.map_cons,List.any_cons,ih];have e:eqV (.int k) (.int c)=decide (k=c):=by
   show(k==c)=_
   by_cases h:k=c<;>simp [h]
  rw [e]
  by_cases h:k=c
  ·simp [h]
  ·simp [h,Ne.symm h]
theorem inP{neg:Bool}{c:Int}{ks:List Int}:fIn neg (.d (.int c)) (.d (pwD ks))=some (.d (.bool (if neg=true then !decide (c∈ks)else decide (c∈ks)))):=by
 unfold fIn;show((zmj (.int c) (ks.map PyData.int)).bind _)=_;unfold zmj;rw [zlt,show flD (.int c)=some (V.int c) from rfl,bd,bd,zol,bd]
theorem zAd(b:Rat):zxS true [0,1] (.d (fR b))=some (.d (.bool (!decide (b=0)))):=zmq (a:=b) (b:=0) (neg:=true)
theorem zyr(f:Rat):PyData.tuple [.int (-f.num),.int (f.den:Int)]=fR (-f):=by
 unfold fR;rw [Rat.neg_num,Rat.neg_den]
end K51
open PySem L2
namespace K51
open PySem L2
def odd(tk:List Int)(c:Int):Bool:=decide ((tk.filter fun x=>decide (x > c)).length % 2=1)
def sg(tk:List Int)(c:Int):Rat:=if odd tk c=true then -1 else 1
def tm(n:Nat)(φ:List Int->List Int->Rat)(tk:List Int)(row:List Et)(c:Nat)(k:List Int):Rat :=
 if(c:Int)∈tk then 0 else sg tk c * (row.getD c (0,none)).1 * φ (zaz (tk++[(c:Int)])) (sh n (row.getD c (0,none)).2 k)
def ziP(n:Nat)(row:List Et)(φ:List Int->List Int->Rat)(tk k:List Int):Rat:=((List.range row.length).map fun c=>tm n φ tk row c k).sum
def zcV(n:Nat):List (List Et)->(List Int->List Int->Rat)->List Int->List Int->Rat
 | [],φ=>φ
 | r::rs,φ=>ziP n r (zcV n rs φ)
theorem zlu(n:Nat)(rs:List (List Et))(r:List Et)(φ:List Int->List Int->Rat):zcV n (rs++[r]) φ=zcV n rs (ziP n r φ):=by
 induction rs with
 | nil=>rfl
 | cons s rs ih =>
  show ziP n s (zcV n (rs++[r]) φ)=_;rw [ih];rfl
theorem zsz(p:Pq Rat)(g h:List Int->Rat):lin p (fun k=>g k+h k)=lin p g+lin p h:=by
 induction p with
 | nil=>rw [zaf,zaf,zaf,Rat.add_zero]
 | cons t p ih =>
  rw [zB,zB,zB,ih];grind
theorem zhO(p:Pq Rat):lin p (fun _=>0)=0:=by
 induction p with
 | nil=>rfl
 | cons t p ih =>
  rw [zB,ih,Rat.mul_zero,Rat.add_zero]
theorem zsA{α:Type}(F:Fm)(l:List α)(g:α->List Int->Rat):zaA F (fun k=>(l.map fun c=>g c k).sum)=(l.map fun c=>zaA F (g c)).sum:=by
 unfold zaA
 induction l with
 | nil=>exact zhO _
 | cons c l ih =>
  simp only [List.map_cons,List.sum_cons];rw [zsz,ih]
theorem zsB{n:Nat}{row:List Et}{φ:List Int->List Int->Rat}(A:Pq Fm):zei A (ziP n row φ)=(A.map fun t=>((List.range row.length).map fun c=>zaA t.2 fun k=>tm n φ t.1 row c k).sum).sum:=by
 unfold zei;congr 1;refine List.map_congr_left fun t _=>?_;exact zsA t.2 _ _
theorem zom{n:Nat}{F:Fm}{φ:List Int->List Int->Rat}{tk:List Int}{row:List Et}{c:Nat}(h:¬(c:Int)∈tk):(zaA F fun k=>tm n φ tk row c k)=(sg tk c * (row.getD c (0,none)).1) * zaA F fun k=>φ (zaz (tk++[(c:Int)])) (sh n (row.getD c (0,none)).2 k):=by
 unfold zaA;rw [<-ziH];congr 1
 funext k
 unfold tm;rw [if_neg h]
theorem zsC{n:Nat}{F:Fm}{φ:List Int->List Int->Rat}{tk:List Int}{row:List Et}{c:Nat}(h:(c:Int)∈tk):(zaA F fun k=>tm n φ tk row c k)=0:=by
 unfold zaA;rw [<-zhO (toR F.b F.p)];congr 1
 funext k
 unfold tm;rw [if_pos h]
def EE:Nat->Nat
 | 0=>0
 | k+1=>EE k+6+6 * 4^(k+1)
theorem zsD{k:Nat}(h:k<=4):EE k<=2100:=by
 rcases(by omega:k=0\/k=1\/k=2\/k=3\/k=4)with rfl | rfl | rfl | rfl | rfl<;>decide
theorem zpq{A:Pq Fm}(nd:NdK A){k:List Int}{h:List Int->Rat}:zei A (fun K=>if K=k then h else fun _=>0)=zaA ((look A k).getD nof) h:=by
 induction A with
 | nil=>rfl
 | cons t A ih =>
  have nd':NdK A:=(List.nodup_cons.mp nd).2;have ni:t.1∉A.map (·.1):=(List.nodup_cons.mp nd).1;have z:∀ F:Fm,(zaA F fun _=>0)=0:=fun F=>zhO _;have st:zei (t::A) (fun K=>if K=k then h else fun _=>0)=zaA t.2 (if t.1=k then h else fun _=>0)+zei A (fun K=>if K=k then h else fun _=>0):=rfl;rw [st,ih nd']
  by_cases e:t.1=k
  ·have hl:look (t::A) k=some t.2:=by unfold look; rw [List.find?_cons,decide_eq_true e]; rfl
   have hn:look A k=none:=zc5.mpr (Bool.eq_false_iff.mpr fun hh=>by
    obtain⟨u,hu,eu⟩:=List.any_eq_true.mp hh;exact ni (by rw [e,<-of_decide_eq_true eu]; exact List.mem_map.mpr ⟨u,hu,rfl⟩))
   rw [hl,hn,if_pos e,Option.getD_some,Option.getD_none,show nof=⟨[],1,256⟩ from rfl,zsx,Rat.add_zero]
  ·have hl:look (t::A) k=look A k:=by unfold look; rw [List.find?_cons,decide_eq_false e]
   rw [hl,if_neg e,z,Rat.zero_add]
theorem zsE{ns:List Str}{t:List (List Et)}{Q:U×List U->Prop}(n1:1<=ns.length)(n3:ns.length<=3)(hT:TO ns.length t)
  (k:∀ F e a w,FO ns.length e a w F->a<=4->w<=4->e<=2100->(∀ h,zaA F h=zcV ns.length t (fun K=>if K=(List.range t.length).map (fun i:Nat=>(i:Int))then h else fun _=>0) [] (zs ns.length))->Q (zwa (srt (toR F.b F.p)),[.d (taD ns t)])):Wo (zb9 [.d (taD ns t)]) Q:=by
 have nf0:=zdX (n:=ns.length) (f:=0) n3 (by decide) (by decide);have nf1:=zdX (n:=ns.length) (f:=1) n3 (by decide) (by decide);rw [zAG]at nf0;rw [zAH]at nf1;unfold taD;have k0:PyData.tuple []=pwD []:=rfl;have no_:(⟨[],1,256⟩:Fm)=nof:=rfl;rw [no_]at nf0;simp_arith [zb9,zfJ,fR0,fR1,nf0,nf1,k0];rw [show [(([]:List Key),cF ⟨[(zs ns.length,1)],1,256⟩)]=kvG cF [([],⟨[(zs ns.length,1)],1,256⟩)] from rfl];refine za5 (fun bs cs ρ=>∃ (u5:U) (A:Pq Fm) (v6 v7 v8 v9 v10 v11 v12 v13 v14 v15:Option U),ρ=[some (U.d (PyData.tuple [PyData.tuple (List.map PyData.str ns),PyData.tuple (List.map roD t)])),some (U.d (PyData.tuple (List.map PyData.str ns))),some (U.d (PyData.tuple (List.map roD t))),some (U.d (PyData.int (ns.length:Int))),some (U.d (cF nof)),some u5,v6,v7,v8,v9,v10,v11,v12,v13,v14,v15]/\(u5=.t (kvG cF A)\/u5=.d (.dict (dcG cF A)))/\AO ns.length (EE bs.length) bs.length A/\A.length<=4^bs.length/\∀ φ,zei A φ=zcV ns.length bs φ [] (zs ns.length)) ⟨_,[([],⟨[(zs ns.length,1)],1,256⟩)],_,_,_,_,_,_,_,_,_,_,rfl,.inl rfl,?_,qe _,fun φ=>?_⟩ ?_ ?_
 ·refine⟨by unfold NdK; simp,fun s hs=>?_,fun s hs=>?_⟩
  ·cases qp.mp hs
   exact zyp
  ·cases qp.mp hs
   rfl
 ·unfold zei
  rw [List.map_cons,List.map_nil,List.sum_cons,List.sum_nil,zuG,Rat.add_zero];rfl
 ·rintro bs r cs _ e ⟨u5,A,v6,v7,v8,v9,v10,v11,v12,v13,v14,v15,rfl,hu,hA,hAl,hφ⟩
  have hr:r∈t:=by rw [e]; simp
  have lr:=hT.sq r hr;have lb:bs.length+cs.length+1=t.length:=by rw [e,qr,qt]; omega
  have t4:=hT.l4;have b3:bs.length<=3:=by omega
  have ee:=zsD (k:=bs.length) (by omega);have hz:u5.fz=some (.dict (dcG cF A)):=by
   rcases hu with rfl | rfl
   ·exact zb7
   ·rfl
  have hA4:A.length<=64:=qx hAl (qx (Nat.pow_le_pow_right (by decide) b3) (by decide));have fz5:∀ ρ:En,(mFz (zi 5)) ρ=(mFz (zi 5)) ρ:=fun _=>rfl;simp_arith [hz];rw [zeX A];refine za5 (fun ds es ρ=>∃ (B:Pq Fm) (v8 v9 v10 v11 v12 v13 v14 v15:Option U),ρ=[some (U.d (PyData.tuple [PyData.tuple (List.map PyData.str ns),PyData.tuple (List.map roD t)])),some (U.d (PyData.tuple (List.map PyData.str ns))),some (U.d (PyData.tuple (List.map roD t))),some (U.d (PyData.int (ns.length:Int))),some (U.d (cF nof)),some (U.d (PyData.dict (dcG cF A))),some (U.d (roD r)),some (U.t (kvG cF B)),v8,v9,v10,v11,v12,v13,v14,v15]/\AO ns.length (EE bs.length+6+6 * (t.length * ds.length)) (bs.length+1) B/\B.length<=t.length * ds.length/\∀ φ,zei B φ=(ds.map fun s=>((List.range r.length).map fun c=>zaA s.2 fun k=>tm ns.length φ s.1 r c k).sum).sum) ⟨[],_,_,_,_,_,_,_,_,rfl,⟨List.nodup_nil,fun s hs=>(by cases hs),fun s hs=>(by cases hs)⟩,Nat.zero_le _,fun φ=>rfl⟩ ?_ ?_
  ·rintro ds s es _ e2 ⟨B,v8,v9,v10,v11,v12,v13,v14,v15,rfl,hB,hBl,hBφ⟩
   have hs:s∈A:=by rw [e2]; simp
   have la:ds.length+es.length+1=A.length:=by rw [e2,qr,qt]; omega
   have hF:=hA.fo s hs;have kl:=hA.kl s hs;have er:roD r=.tuple (r.map enD):=rfl;simp_arith [er];rw [<-er];refine zgB (fun i ρ=>∃ (B:Pq Fm) (v10 v11 v12 v13 v14 v15:Option U),ρ=[some (U.d (PyData.tuple [PyData.tuple (List.map PyData.str ns),PyData.tuple (List.map roD t)])),some (U.d (PyData.tuple (List.map PyData.str ns))),some (U.d (PyData.tuple (List.map roD t))),some (U.d (PyData.int (ns.length:Int))),some (U.d (cF nof)),some (U.d (PyData.dict (dcG cF A))),some (U.d (roD r)),some (U.t (kvG cF B)),some (U.d (pwD s.1)),some (U.d (cF s.2)),v10,v11,v12,v13,v14,v15]/\AO ns.length (EE bs.length+6+6 * (t.length * ds.length+i)) (bs.length+1) B/\B.length<=t.length * ds.length+i/\∀ φ,zei B φ=(ds.map fun s=>((List.range r.length).map fun c=>zaA s.2 fun k=>tm ns.length φ s.1 r c k).sum).sum+((List.range i).map fun c=>zaA s.2 fun k=>tm ns.length φ s.1 r c k).sum) ⟨B,_,_,_,_,_,_,rfl,hB,hBl,fun φ=>by rw [hBφ,List.range_zero,List.map_nil,List.sum_nil,Rat.add_zero]⟩ ?_ ?_
   ·rintro i d _ hd ⟨B,v10,v11,v12,v13,v14,v15,rfl,hB,hBl,hBφ⟩
    obtain⟨x,hx,rfl⟩:=zdF hd;rw [List.getElem?_map]at hx;obtain⟨en,hen,rfl⟩:=qq.mp hx;obtain⟨f,l⟩:=en;have hen':=hT.en r hr (f,l) (List.mem_of_getElem? hen);have il:i < r.length:=(qk.mp hen).1;have ge:r.getD i (0,none)=(f,l):=by rw [qA,hen]; rfl
    rw [Nat.zero_add];have ed:enD (f,l)=.tuple [fR f,leD l]:=rfl;have eb:EE bs.length+6+6 * (t.length * ds.length+i)<=2100:=by
     refine qx ?_ (zsD (k:=bs.length+1) (by omega));show _<=EE bs.length+6+6 * 4^(bs.length+1);have h1:t.length * (ds.length+1)<=4 * 4^bs.length:=Nat.mul_le_mul t4 (by omega);rw [Nat.mul_add,Nat.mul_one]at h1;rw [Nat.pow_succ];omega
    have stp:∀ φ,((List.range (i+1)).map fun c=>zaA s.2 fun k=>tm ns.length φ s.1 r c k).sum=((List.range i).map fun c=>zaA s.2 fun k=>tm ns.length φ s.1 r c k).sum+zaA s.2 fun k=>tm ns.length φ s.1 r i k:=fun φ=>by
     rw [List.range_succ,List.map_append,zgK,List.map_cons,List.map_nil,List.sum_cons,List.sum_nil,Rat.add_zero]
    have stay:∀ {v10 v11 v12 v13 v14 v15:Option U},(∀ φ,(zaA s.2 fun k=>tm ns.length φ s.1 r i k)=0)->∃ (B1:Pq Fm) (w10 w11 w12 w13 w14 w15:Option U),[some (U.d (PyData.tuple [PyData.tuple (List.map PyData.str ns),PyData.tuple (List.map roD t)])),some (U.d (PyData.tuple (List.map PyData.str ns))),some (U.d (PyData.tuple (List.map roD t))),some (U.d (PyData.int (ns.length:Int))),some (U.d (cF nof)),some (U.d (PyData.dict (dcG cF A))),some (U.d (roD r)),some (U.t (kvG cF B)),some (U.d (pwD s.1)),some (U.d (cF s.2)),v10,v11,v12,v13,v14,v15]=[some (U.d (PyData.tuple [PyData.tuple (List.map PyData.str ns),PyData.tuple (List.map roD t)])),some (U.d (PyData.tuple (List.map PyData.str ns))),some (U.d (PyData.tuple (List.map roD t))),some (U.d (PyData.int (ns.length:Int))),some (U.d (cF nof)),some (U.d (PyData.dict (dcG cF A))),some (U.d (roD r)),some (U.t (kvG cF B1)),some (U.d (pwD s.1)),some (U.d (cF s.2)),w10,w11,w12,w13,w14,w15]/\AO ns.length (EE bs.length+6+6 * (t.length * ds.length+(i+1))) (bs.length+1) B1/\B1.length<=t.length * ds.length+(i+1)/\∀ φ,zei B1 φ=(ds.map fun s=>((List.range r.length).map fun c=>zaA s.2 fun k=>tm ns.length φ s.1 r c k).sum).sum+((List.range (i+1)).map fun c=>zaA s.2 fun k=>tm ns.length φ s.1 r c k).sum:=fun h0=>⟨B,_,_,_,_,_,_,rfl,⟨hB.nd,fun t ht=>(hB.fo t ht).up (by omega) (qe _),hB.kl⟩,by omega,fun φ=>by rw [hBφ,stp,h0,Rat.add_zero]⟩
    by_cases hm:(i:Int)∈s.1
    ·simp_arith [ed,inP,hm,if_true]
     exact stay fun φ=>zsC hm
    ·by_cases hf:f=0
     ·simp_arith [ed,inP,hm,zAd,decide_eq_true hf,if_true]
      refine stay fun φ=>?_;rw [zom hm,ge,hf,Rat.mul_zero,Rat.zero_mul]
     ·have dt:zjn (.d (pwD s.1))=some (s.1.map PyData.int):=rfl
      simp_arith [ed,inP,hm,zAd,decide_eq_false hf,if_true,dt];refine zrn (g:=PyData.int) (b:=fun x=>decide (x > (i:Int))) (e:=PyData.int) (as:=s.1) (by rw [kl]; show _<=16777216; omega) (fun x hx ys=>?_) ?_
      ·by_cases hxi:x > (i:Int)
       ·simp_arith [hxi]
       ·simp_arith [hxi]
      ·have lf:=List.length_filter_le (fun x=>decide (x > (i:Int))) s.1
       have hK:(zaz (s.1++[(i:Int)])).length=bs.length+1:=by rw [(ze0 _).length_eq,qr,kl]; rfl
       have c1:=zx5 (a:=s.1) (b:=[(i:Int)]) (by rw [kl]; show bs.length+1<=1000; omega);have c2:=zhy (ks:=s.1++[(i:Int)]) (by rw [qr,kl]; show bs.length+1 < 64; omega);have c3:=zjO (ks:=zaz (s.1++[(i:Int)])) (by rw [hK]; omega);have bl:=zj2 n1 n3 (by omega) (by omega) (by omega:EE bs.length<=2800) hF hen'.lt;have hFO:=zz9 n1 n3 b3 hF hen'.lt;have sz:2^21<=2^256:=Nat.pow_le_pow_right (by decide) (by decide);have main:∀ g:Rat,Bd 36 12000000 g->g=sg s.1 i * f->zcq [.d (cF ((look B (zaz (s.1++[(i:Int)]))).getD nof)),.d (cF (byF ns.length s.2 l)),.d (fR g)]=some (.d (cF (zjZ ((look B (zaz (s.1++[(i:Int)]))).getD nof) (byF ns.length s.2 l) g)),[.d (cF ((look B (zaz (s.1++[(i:Int)]))).getD nof)),.d (cF (byF ns.length s.2 l)),.d (fR g)]) /\
         ∀ {v10 v11 v12 v13 v14 v15:Option U},∃ (B1:Pq Fm) (w10 w11 w12 w13 w14 w15:Option U),[some (U.d (PyData.tuple [PyData.tuple (List.map PyData.str ns),PyData.tuple (List.map roD t)])),some (U.d (PyData.tuple (List.map PyData.str ns))),some (U.d (PyData.tuple (List.map roD t))),some (U.d (PyData.int (ns.length:Int))),some (U.d (cF nof)),some (U.d (PyData.dict (dcG cF A))),some (U.d (roD r)),some (U.t (kvG cF (zat B (zaz (s.1++[(i:Int)])) (zjZ ((look B (zaz (s.1++[(i:Int)]))).getD nof) (byF ns.length s.2 l) g)))),some (U.d (pwD s.1)),some (U.d (cF s.2)),v10,v11,v12,v13,v14,v15]=[some (U.d (PyData.tuple [PyData.tuple (List.map PyData.str ns),PyData.tuple (List.map roD t)])),some (U.d (PyData.tuple (List.map PyData.str ns))),some (U.d (PyData.tuple (List.map roD t))),some (U.d (PyData.int (ns.length:Int))),some (U.d (cF nof)),some (U.d (PyData.dict (dcG cF A))),some (U.d (roD r)),some (U.t (kvG cF B1)),some (U.d (pwD s.1)),some (U.d (cF s.2)),w10,w11,w12,w13,w14,w15]/\AO ns.length (EE bs.length+6+6 * (t.length * ds.length+(i+1))) (bs.length+1) B1/\B1.length<=t.length * ds.length+(i+1)/\∀ φ,zei B1 φ=(ds.map fun s=>((List.range r.length).map fun c=>zaA s.2 fun k=>tm ns.length φ s.1 r c k).sum).sum+((List.range (i+1)).map fun c=>zaA s.2 fun k=>tm ns.length φ s.1 r c k).sum:=fun g hg eg=>by
        have hg2:Bd 36 (2^24) g:=hg.le (by decide);have one:=hB.get (zaz (s.1++[(i:Int)]));have oth:FO ns.length (EE bs.length+6+6 * (t.length * ds.length+i)) bs.length (bs.length+1) (byF ns.length s.2 l):=hFO.up (by omega) (qe _);obtain⟨gd,gn⟩:=hg.size (by decide);have sb:=zwb (A:=0) (X:=0) one oth hg.dvd;have sb2:=Int.le_of_dvd (by exact_mod_cast Nat.pow_pos (by decide)) sb;have p4:(36:Nat)^(bs.length+1)<=36^4:=Nat.pow_le_pow_right (by decide) (by omega);have p5:(36:Nat)^4=1679616:=by decide
        have p6:1679616 < 2^21:=by decide
        have sF:=zyn n1 n3 (by omega) one oth hg2;have b0:=zda one.b1 (by have:=zhp g; have:=Int.mul_pos (by have:=oth.b1; omega:0 < (byF ns.length s.2 l).b) (by omega:(0:Int) < g.den); omega:1<=(byF ns.length s.2 l).b * (g.den:Int));have b00:=Int.mul_pos (by have:=one.b1; omega:0 < ((look B (zaz (s.1++[(i:Int)]))).getD nof).b) (by have:=b0.1; omega:0 < ((byF ns.length s.2 l).b * (g.den:Int)).fdiv (Int.gcd ((look B (zaz (s.1++[(i:Int)]))).getD nof).b ((byF ns.length s.2 l).b * (g.den:Int)):Nat));refine⟨zlq (one.fz n1 n3 (by omega) (by omega) (by omega)) (oth.fz n1 n3 (by omega) (by omega) (by omega)) (Nat.lt_of_le_of_lt gn (qi (by decide:12000000 < 2^24) (Nat.pow_le_pow_right (by decide) (by decide)))) (Nat.lt_of_le_of_lt gd (qi (by decide:36 < 2^6) (Nat.pow_le_pow_right (by decide) (by decide)))) (by omega),?_⟩;intro v10 v11 v12 v13 v14 v15;refine⟨_,_,_,_,_,_,_,rfl,hB.put (by omega) (sF.up (by omega) (qe _)) hK,?_,fun φ=>?_⟩
        ·have:=zjA B (zaz (s.1++[(i:Int)])) (zjZ ((look B (zaz (s.1++[(i:Int)]))).getD nof) (byF ns.length s.2 l) g)
         omega
        ·rw [zsy hB.nd (zuD one oth.b1 _),hBφ,stp,zom hm,ge,zyo (hF.b1),<-eg,Rat.add_assoc]
       have lk:((look B (zaz (s.1++[(i:Int)]))).map cF).getD (cF nof)=cF ((look B (zaz (s.1++[(i:Int)]))).getD nof):=by cases look B (zaz (s.1++[(i:Int)]))<;>rfl
       have pu:∀ X:Fm,ziE (.t (kvG cF B)) (pwD (zaz (s.1++[(i:Int)]))) (cF X)=some (.t (kvG cF (zat B (zaz (s.1++[(i:Int)])) X))):=fun X=>zmp (c:=cF) (by omega);simp_arith [zjL];refine ziD (fun ho=>?_) (fun ho=>?_)
       ·have ho':odd s.1 i=true:=by
         unfold odd;rw [decide_eq_true_iff];simp only [bne_iff_ne,ne_eq]at ho;omega
        obtain⟨m1,m2⟩:=main (-f) hen'.bd.neg (by unfold sg; rw [if_pos ho']; grind);simp_arith [zjL,c1,c2,c3,lk,bl,zyr,m1,pu];exact m2
       ·have ho':¬odd s.1 i=true:=by
         unfold odd;rw [decide_eq_true_iff];simp only [bne_iff_ne,ne_eq,Decidable.not_not]at ho;omega
        obtain⟨m1,m2⟩:=main f hen'.bd (by unfold sg; rw [if_neg ho']; grind);simp_arith [zjL,c1,c2,c3,lk,bl,m1,pu];exact m2
   ·rintro _ ⟨B,v10,v11,v12,v13,v14,v15,rfl,hB,hBl,hBφ⟩
    rw [zdh,List.length_map,lr]at hB hBl hBφ;simp_arith;refine⟨B,_,_,_,_,_,_,_,_,rfl,?_,?_,fun φ=>?_⟩
    ·rw [Nat.mul_add,Nat.mul_one]
     exact hB
    ·rw [Nat.mul_add,Nat.mul_one]
     exact hBl
    ·rw [hBφ,List.map_append,zgK,List.map_cons,List.map_nil,List.sum_cons,List.sum_nil,Rat.add_zero,lr]
  ·rintro _ ⟨B,v8,v9,v10,v11,v12,v13,v14,v15,rfl,hB,hBl,hBφ⟩
   have h1:t.length * A.length<=4 * 4^bs.length:=Nat.mul_le_mul t4 hAl;simp_arith;refine⟨_,B,_,_,_,_,_,_,_,_,_,_,rfl,.inr rfl,?_,?_,fun φ=>?_⟩
   ·refine⟨hB.nd,fun t ht=>(hB.fo t ht).up ?_ (qe _),hB.kl⟩
    show _<=EE bs.length+6+6 * 4^(bs.length+1);rw [Nat.pow_succ];omega
   ·show B.length<=4^(bs.length+1)
    rw [Nat.pow_succ];omega
   ·rw [hBφ,<-zsB,hφ,zlu]
 ·rintro _ ⟨u5,A,v6,v7,v8,v9,v10,v11,v12,v13,v14,v15,rfl,hu,hA,hAl,hφ⟩
  have t4:=hT.l4;have ee:=zsD (k:=t.length) (by omega);have hF:=hA.get ((List.range t.length).map fun i:Nat=>(i:Int));have hl:∀ h:List Int->Rat,zaA ((look A ((List.range t.length).map fun i:Nat=>(i:Int))).getD nof) h=zcV ns.length t (fun K=>if K=(List.range t.length).map (fun i:Nat=>(i:Int))then h else fun _=>0) [] (zs ns.length):=fun h=>by
   rw [<-hφ,zpq hA.nd]
  have lk:((look A ((List.range t.length).map fun i:Nat=>(i:Int))).map cF).getD (cF nof)=cF ((look A ((List.range t.length).map fun i:Nat=>(i:Int))).getD nof):=by cases look A ((List.range t.length).map fun i:Nat=>(i:Int))<;>rfl
  have fo:=zj1 (hF.fz n1 n3 t4 t4 (by omega));have tr:=zjN (j:=(t.length:Int)) (by omega) (by omega);rw [Int.toNat_natCast]at tr;have fin:=k _ _ _ _ hF t4 t4 ee hl;rcases hu with rfl | rfl
  ·simp_arith [tr,lk,fo]
   exact fin
  ·simp_arith [tr,lk,fo]
   exact fin
end K51
open PySem L2
namespace K51
open PySem L2
def ent(x:List Et×Int):Et:=x.1.getD x.2.toNat (0,none)
def pr(n:Nat):List Et->(List Int->Rat)->List Int->Rat
 | [],g,k=>g k
 | e::es,g,k=>e.1 * pr n es g (sh n e.2 k)
theorem zon:∀ (k u v:List Int),zaa (zaa k u) v=zaa (zaa k v) u
 | [],u,v=>by cases u<;>cases v<;>rfl
 | a::k,[],v=>by cases v<;>rfl
 | a::k,b::u,[]=>rfl
 | a::k,b::u,c::v=>by
  show(a+b+c)::zaa (zaa k u) v=(a+c+b)::zaa (zaa k v) u;rw [zon k u v];congr 1;omega
theorem zAe(n:Nat)(a b:Option Nat)(k:List Int):sh n a (sh n b k)=sh n b (sh n a k):=by
 cases a<;>cases b<;>first | rfl | exact zon _ _ _
theorem zuH{n:Nat}{es fs:List Et}(h:es.Perm fs)(g:List Int->Rat):∀ k,pr n es g k=pr n fs g k:=by
 induction h with
 | nil=>intro k; rfl
 | cons e _ ih =>
  intro k;show e.1 * pr n _ g _=e.1 * pr n _ g _;rw [ih]
 | swap a b l =>
  intro k;show b.1 * (a.1 * pr n l g (sh n a.2 (sh n b.2 k)))=a.1 * (b.1 * pr n l g (sh n b.2 (sh n a.2 k)));rw [zAe];grind
 | trans _ _ ih1 ih2=>intro k; rw [ih1,ih2]
def sgI(tk:List Int)(c:Int):Int:=if odd tk c=true then -1 else 1
theorem zAI(tk:List Int)(c:Int):sg tk c=(sgI tk c:Rat):=by
 unfold sg sgI;split<;>rfl
def ext(m:Nat):Nat->List Int->List (List Int×Int×List Int)
 | 0,tk=>[([],1,tk)]
 | j+1,tk=>(List.range m).flatMap fun(c:Nat)=>if(c:Int)∈tk then []else(ext m j (zaz (tk++[(c:Int)]))).map fun x=>((c:Int)::x.1,sgI tk c * x.2.1,x.2.2)
theorem zlv{α β:Type}(f:α->List β)(g:β->Rat):∀ l:List α,((l.flatMap f).map g).sum=(l.map fun a=>((f a).map g).sum).sum
 | []=>rfl
 | a::l=>by
  rw [List.flatMap_cons,List.map_append,zgK,zlv f g l,List.map_cons,List.sum_cons]
theorem zgL{α:Type}(c:Rat)(g:α->Rat):∀ l:List α,(l.map fun a=>c * g a).sum=c * (l.map g).sum
 | []=>by rw [List.map_nil,List.map_nil,List.sum_nil,Rat.mul_zero]
 | a::l=>by
  rw [List.map_cons,List.map_cons,List.sum_cons,List.sum_cons,zgL c g l];grind
theorem zlw{n m:Nat}{φ:List Int->List Int->Rat}:∀ (rs:List (List Et)) (tk k:List Int),(∀ r∈rs,r.length=m) ->
  zcV n rs φ tk k=((ext m rs.length tk).map fun x=>(x.2.1:Rat) * pr n ((rs.zip x.1).map ent) (φ x.2.2) k).sum
 | [],tk,k,_=>by
  show φ tk k=(1:Rat) * φ tk k+0;grind
 | r::rs,tk,k,h=>by
  have hr:=h r qo;show ziP n r (zcV n rs φ) tk k=((List.flatMap _ (List.range m)).map _).sum;unfold ziP;rw [zlv,hr];congr 1;refine List.map_congr_left fun c hc=>?_;unfold tm
  by_cases hm:(c:Int)∈tk
  ·rw [if_pos hm,if_pos hm]
   rfl
  ·rw [if_neg hm,if_neg hm,List.map_map,zlw rs _ _ fun s hs=>h s (qm _ hs),<-zgL]
   congr 1;refine List.map_congr_left fun x hx=>?_;show _=((sgI tk c * x.2.1:Int):Rat) * ((r.getD (c:Int).toNat (0,none)).1 * pr n ((rs.zip x.1).map ent) (φ x.2.2) (sh n (r.getD (c:Int).toNat (0,none)).2 k));rw [Int.toNat_natCast,Rat.intCast_mul,zAI];grind
theorem zsF{α:Type}{g:α->Rat}{l l':List α}(h:l.Perm l'):(l.map g).sum=(l'.map g).sum:=by
 induction h with
 | nil=>rfl
 | cons a _ ih=>rw [List.map_cons,List.map_cons,List.sum_cons,List.sum_cons,ih]
 | swap a b l =>
  rw [List.map_cons,List.map_cons,List.map_cons,List.map_cons,List.sum_cons,List.sum_cons,List.sum_cons,List.sum_cons];grind
 | trans _ _ ih1 ih2=>exact ih1.trans ih2
abbrev Pc:=Nat×Nat
def PX(m:Nat):List (Int×List Pc):=(ext m m []).map fun x=>(x.2.1,(List.range m).zip (x.1.map Int.toNat))
def pat(t:List (List Et))(p:Pc):Et:=(t.getD p.1 []).getD p.2 (0,none)
def Dt(n:Nat)(t:List (List Et))(h:List Int->Rat)(k:List Int):Rat:=((PX t.length).map fun x=>(x.1:Rat) * pr n (x.2.map (pat t)) h k).sum
theorem zuI{m:Nat}(h1:1<=m)(h4:m<=4):∀ x∈ext m m [],x.1.length=m/\x.2.2=(List.range m).map fun i:Nat=>(i:Int):=by
 rcases(by omega:m=1\/m=2\/m=3\/m=4)with rfl | rfl | rfl | rfl<;>decide +kernel
theorem zuJ{t:List (List Et)}{σ:List Int}(h:σ.length=t.length):(t.zip σ).map ent=((List.range t.length).zip (σ.map Int.toNat)).map (pat t):=by
 apply List.ext_getElem
 ·simp [h]
 ·intro i h1 h2
  simp only [List.getElem_map,List.getElem_zip,List.getElem_range,ent,pat];rw [qA (l:=t),ql (by simp at h1; omega)];rfl
theorem zys{n:Nat}{t:List (List Et)}(hT:TO n t)(h:List Int->Rat)(k:List Int) :
  zcV n t (fun K=>if K=(List.range t.length).map (fun i:Nat=>(i:Int))then h else fun _=>0) [] k=Dt n t h k:=by
 rw [zlw t [] k hT.sq];unfold Dt PX;rw [List.map_map];congr 1;refine List.map_congr_left fun x hx=>?_;obtain⟨e1,e2⟩:=zuI hT.l1 hT.l4 x hx;show(x.2.1:Rat) * pr n ((t.zip x.1).map ent) (if x.2.2=_ then h else fun _=>0) k=(x.2.1:Rat) * pr n (((List.range t.length).zip (x.1.map Int.toNat)).map (pat t)) h k;rw [if_pos e2,zuJ e1]
end K51
open PySem L2
namespace K51
open PySem L2
def zuK(p:Pc):List Pc->List Pc
 | []=>[p]
 | q::r=>if p.1<=q.1 then p::q::r else q::zuK p r
def zuL:List Pc->List Pc
 | []=>[]
 | p::r=>zuK p (zuL r)
theorem ziQ(p:Pc):∀ r:List Pc,(zuK p r).Perm (p::r)
 | []=>.refl _
 | q::r=>by
  unfold zuK;split
  ·exact .refl _
  ·exact((ziQ p r).cons q).trans (.swap p q r)
theorem ziR:∀ r:List Pc,(zuL r).Perm r
 | []=>.refl _
 | p::r=>(ziQ p _).trans ((ziR r).cons p)
def mvP(ε:Int)(g:Pc->Pc)(l:List (Int×List Pc)):List (Int×List Pc):=l.map fun x=>(ε * x.1,zuL (x.2.map g))
theorem zj3{n:Nat}{t t':List (List Et)}{g:Pc->Pc}{ε:Int}(hl:t'.length=t.length)(hp:(mvP ε g (PX t.length)).Perm (PX t.length))(he:∀ x∈PX t.length,∀ p∈x.2,pat t' p=pat t (g p))(h:List Int->Rat)(k:List Int) :
  (ε:Rat) * Dt n t' h k=Dt n t h k:=by
 unfold Dt;rw [hl];refine Eq.trans ?_ (zsF hp);rw [<-zgL];unfold mvP;rw [List.map_map];congr 1;refine List.map_congr_left fun x hx=>?_;show(ε:Rat) * ((x.1:Rat) * pr n (x.2.map (pat t')) h k)=((ε * x.1:Int):Rat) * pr n ((zuL (x.2.map g)).map (pat t)) h k;rw [zuH ((ziR (x.2.map g)).map (pat t)),List.map_map,Rat.intCast_mul,Rat.mul_assoc];congr 3;exact List.map_congr_left fun p hp=>he x hx p hp
def sw(a b i:Nat):Nat:=if i=a then b else if i=b then a else i
theorem zlx:∀ m∈[2,3,4],∀ a∈List.range m,∀ b∈List.range m,a≠b->(mvP (-1) (fun p=>(sw a b p.1,p.2)) (PX m)).Perm (PX m):=by decide +kernel
theorem zsG:∀ m∈[2,3,4],∀ a∈List.range m,∀ b∈List.range m,a≠b->(mvP (-1) (fun p=>(p.1,sw a b p.2)) (PX m)).Perm (PX m):=by decide +kernel
theorem zsH:∀ m∈[2,3,4],(mvP 1 (fun p=>(p.2,p.1)) (PX m)).Perm (PX m):=by decide +kernel
theorem zoo:∀ m∈[1,2,3,4],∀ x∈PX m,x.2.map (·.1)=List.range m/\∀ p∈x.2,p.1 < m/\p.2 < m:=by decide +kernel
theorem zj4{n:Nat}{ps:List Pc}{f f':Pc->Et}(h:∀ p∈ps,f' p=f p)(g:List Int->Rat)(k:List Int):pr n (ps.map f') g k=pr n (ps.map f) g k:=by rw [List.map_congr_left h]
theorem zly{n:Nat}{f f':Pc->Et}{c:Rat}{a:Nat}{g:List Int->Rat}:∀ {ps:List Pc} (k:List Int),(ps.map (·.1)).Nodup->a∈ps.map (·.1)->(∀ p∈ps,p.1≠a->f' p=f p)->(∀ p∈ps,p.1=a->f' p=(c * (f p).1,(f p).2)) ->
  pr n (ps.map f') g k=c * pr n (ps.map f) g k
 | [],k,_,ha,_,_=>by cases ha
 | p::ps,k,hn,ha,h1,h2=>by
  rw [List.map_cons,List.nodup_cons]at hn;show(f' p).1 * pr n (ps.map f') g (sh n (f' p).2 k)=c * ((f p).1 * pr n (ps.map f) g (sh n (f p).2 k))
  by_cases hp:p.1=a
  ·rw [h2 p qo hp,zj4 (f:=f) (f':=f') fun q hq=>h1 q (qm _ hq) fun z=>hn.1 (List.mem_map.mpr ⟨q,hq,by rw [z,hp]⟩)]
   grind
  ·have ha':a∈ps.map (·.1):=by
    rcases qu.mp ha with z | z
    ·exact absurd z.symm hp
    ·exact z
   rw [h1 p qo hp,zly _ hn.2 ha' (fun q hq=>h1 q (qm _ hq)) fun q hq=>h2 q (qm _ hq)];grind
theorem zsI{n:Nat}{f1 f2 f3:Pc->Et}{a:Nat}{g:List Int->Rat}:∀ {ps:List Pc} (k:List Int),(ps.map (·.1)).Nodup->a∈ps.map (·.1)->(∀ p∈ps,p.1≠a->f1 p=f3 p/\f2 p=f3 p)->(∀ p∈ps,p.1=a->f3 p=((f1 p).1+(f2 p).1,(f1 p).2)/\(f1 p).2=(f2 p).2) ->
  pr n (ps.map f3) g k=pr n (ps.map f1) g k+pr n (ps.map f2) g k
 | [],k,_,ha,_,_=>by cases ha
 | p::ps,k,hn,ha,h1,h2=>by
  rw [List.map_cons,List.nodup_cons]at hn;show(f3 p).1 * pr n (ps.map f3) g (sh n (f3 p).2 k)=(f1 p).1 * pr n (ps.map f1) g (sh n (f1 p).2 k)+(f2 p).1 * pr n (ps.map f2) g (sh n (f2 p).2 k)
  by_cases hp:p.1=a
  ·have no:∀ q∈ps,q.1≠a:=fun q hq z=>hn.1 (List.mem_map.mpr ⟨q,hq,by rw [z,hp]⟩)
   obtain⟨e1,e2⟩:=h2 p qo hp;rw [e1,<-e2,zj4 (f:=f3) (f':=f1) fun q hq=>(h1 q (qm _ hq) (no q hq)).1,zj4 (f:=f3) (f':=f2) fun q hq=>(h1 q (qm _ hq) (no q hq)).2];grind
  ·have ha':a∈ps.map (·.1):=by
    rcases qu.mp ha with z | z
    ·exact absurd z.symm hp
    ·exact z
   obtain⟨e1,e2⟩:=h1 p qo hp;rw [e1,e2,zsI _ hn.2 ha' (fun q hq=>h1 q (qm _ hq)) fun q hq=>h2 q (qm _ hq)];grind
end K51
open PySem L2
namespace K51
open PySem L2
def zcW{α:Type}(l:List α)(a b:Nat)(d:α):List α:=(l.set a (l.getD b d)).set b (l.getD a d)
theorem zbS{α:Type}{l:List α}{a i:Nat}{x d:α}(ha:a < l.length):(l.set a x).getD i d=if i=a then x else l.getD i d:=by
 rw [qA,qA]
 by_cases h:i=a
 ·subst h
  rw [if_pos rfl,List.getElem?_set_self ha];rfl
 ·rw [if_neg h,qB (Ne.symm h)]
theorem ziS{α:Type}{l:List α}{a b i:Nat}{d:α}(ha:a < l.length)(hb:b < l.length):(zcW l a b d).getD i d=l.getD (sw a b i) d:=by
 unfold zcW sw;rw [zbS (by rw [List.length_set]; exact hb),zbS ha]
 by_cases h1:i=a
 ·by_cases h2:i=b
  ·rw [if_pos h2,if_pos h1,<-h1,h2]
  ·rw [if_neg h2,if_pos h1,if_pos h1]
 ·by_cases h2:i=b
  ·rw [if_pos h2,if_neg h1,if_pos h2]
  ·rw [if_neg h2,if_neg h1,if_neg h1,if_neg h2]
theorem zdY{α:Type}{l:List α}{a b:Nat}{d:α}:(zcW l a b d).length=l.length:=by unfold zcW; rw [List.length_set,List.length_set]
theorem zlz{α:Type}(f g:α->Rat):∀ l:List α,(l.map fun a=>f a+g a).sum=(l.map f).sum+(l.map g).sum
 | []=>by
  rw [List.map_nil,List.map_nil,List.map_nil,List.sum_nil,Rat.add_zero]
 | a::l=>by
  rw [List.map_cons,List.map_cons,List.map_cons,List.sum_cons,List.sum_cons,List.sum_cons,zlz f g l];grind
section
variable {n:Nat} {t:List (List Et)} {a b:Nat} {h:List Int->Rat} {k:List Int}
theorem zuM{m:Nat}(h2:2<=m)(h4:m<=4):m∈[2,3,4]:=by
 rcases(by omega:m=2\/m=3\/m=4)with rfl | rfl | rfl<;>decide
theorem zop{m:Nat}(h2:1<=m)(h4:m<=4):m∈[1,2,3,4]:=by
 rcases(by omega:m=1\/m=2\/m=3\/m=4)with rfl | rfl | rfl | rfl<;>decide
theorem zyt(h2:2<=t.length)(h4:t.length<=4)(ha:a < t.length)(hb:b < t.length)(ne:a≠b):Dt n (zcW t a b []) h k=-Dt n t h k:=by
 have:=zj3 (n:=n) (t:=t) (t':=zcW t a b []) zdY (zlx _ (zuM h2 h4) a (List.mem_range.mpr ha) b (List.mem_range.mpr hb) ne) (fun x hx p hp=>by
  unfold pat;rw [ziS ha hb]) h k
 rw [<-this];show _=-(((-1:Int):Rat) * _);rw [Rat.intCast_neg];grind
theorem zyu(h2:2<=t.length)(h4:t.length<=4)(sq:∀ r∈t,r.length=t.length)(ha:a < t.length)(hb:b < t.length)(ne:a≠b):Dt n (t.map fun r=>zcW r a b (0,none)) h k=-Dt n t h k:=by
 have:=zj3 (n:=n) (t:=t) (t':=t.map fun r=>zcW r a b (0,none)) (List.length_map _) (zsG _ (zuM h2 h4) a (List.mem_range.mpr ha) b (List.mem_range.mpr hb) ne) (fun x hx p hp=>by
  have hp:=(zoo _ (zop (by omega) h4) x hx).2 p hp;unfold pat;have e:(t.map fun r=>zcW r a b (0,none)).getD p.1 []=zcW (t.getD p.1 []) a b (0,none):=by
   rw [qA,qA,List.getElem?_map,ql hp.1];rfl
  have hr:(t.getD p.1 []).length=t.length:=by
   rw [qA,ql hp.1];exact sq _ (List.getElem_mem hp.1)
  rw [e,ziS (by rw [hr]; exact ha) (by rw [hr]; exact hb)]) h k
 rw [<-this];show _=-(((-1:Int):Rat) * _);rw [Rat.intCast_neg];grind
theorem zyv(h2:2<=t.length)(h4:t.length<=4):Dt n ((List.range t.length).map fun j=>t.map fun r=>r.getD j (0,none)) h k=Dt n t h k:=by
 have:=zj3 (n:=n) (t:=t) (t':=(List.range t.length).map fun j=>t.map fun r=>r.getD j (0,none)) (by rw [List.length_map,List.length_range]) (zsH _ (zuM h2 h4)) (fun x hx p hp=>by
  have hp:=(zoo _ (zop (by omega) h4) x hx).2 p hp;unfold pat;rw [qA (l:=List.map _ (List.range _)),List.getElem?_map,List.getElem?_range hp.1];show(t.map fun r=>r.getD p.1 (0,none)).getD p.2 (0,none)=(t.getD p.2 []).getD p.1 (0,none);rw [qA,List.getElem?_map,qA (l:=t),ql hp.2];rfl) h k
 rw [<-this];show _=((1:Int):Rat) * _;rw [Rat.intCast_one];grind
theorem zuN(h2:2<=t.length)(h4:t.length<=4)(ha:a < t.length)(hb:b < t.length)(ne:a≠b):Dt n (t.set a (t.getD b [])) h k=0:=by
 have:=zj3 (n:=n) (t:=t.set a (t.getD b [])) (t':=t.set a (t.getD b [])) rfl (by rw [List.length_set]; exact zlx _ (zuM h2 h4) a (List.mem_range.mpr ha) b (List.mem_range.mpr hb) ne) (fun x hx p hp=>by
  unfold pat;dsimp only;rw [zbS ha,zbS ha];unfold sw
  by_cases h1:p.1=a
  ·rw [if_pos h1,if_pos h1,if_neg (Ne.symm ne)]
  ·by_cases h2:p.1=b
   ·rw [if_neg h1,if_neg h1,if_pos h2,if_pos rfl,h2]
   ·rw [if_neg h1,if_neg h1,if_neg h2,if_neg h1]) h k
 rw [Rat.intCast_neg]at this;have e1:((1:Int):Rat)=1:=rfl;rw [e1]at this;grind
theorem zwd{t1 t2:List (List Et)}{c:Rat}(h1:1<=t1.length)(h4:t1.length<=4)(hl:t2.length=t1.length)(ha:a < t1.length)(h1:∀ p,p.1≠a->pat t2 p=pat t1 p)(h2:∀ p,p.1=a->pat t2 p=(c * (pat t1 p).1,(pat t1 p).2)):Dt n t2 h k=c * Dt n t1 h k:=by
 unfold Dt;rw [hl,<-zgL];congr 1;refine List.map_congr_left fun x hx=>?_;have e:=(zoo _ (zop (by omega) h4) x hx).1;rw [zly (f:=pat t1) (f':=pat t2) (c:=c) (a:=a) k (by rw [e]; exact List.nodup_range) (by rw [e]; exact List.mem_range.mpr ha) (fun p _=>h1 p) fun p _=>h2 p];grind
theorem zAf{t1 t2 t3:List (List Et)}(h1:1<=t3.length)(h4:t3.length<=4)(l1:t1.length=t3.length)(l2:t2.length=t3.length)(ha:a < t3.length)(h1:∀ p,p.1≠a->pat t1 p=pat t3 p/\pat t2 p=pat t3 p)
  (h2:∀ p,p.1=a->pat t3 p=((pat t1 p).1+(pat t2 p).1,(pat t1 p).2)/\(pat t1 p).2=(pat t2 p).2):Dt n t3 h k=Dt n t1 h k+Dt n t2 h k:=by
 unfold Dt;rw [l1,l2,<-zlz];congr 1;refine List.map_congr_left fun x hx=>?_;have e:=(zoo _ (zop (by omega) h4) x hx).1;rw [zsI (f1:=pat t1) (f2:=pat t2) (f3:=pat t3) (a:=a) k (by rw [e]; exact List.nodup_range) (by rw [e]; exact List.mem_range.mpr ha) (fun p _=>h1 p) fun p _=>h2 p];grind
end
end K51
open PySem L2
namespace K51
open PySem L2
theorem zoq:∀ p:Pq Rat,(tmG fR p).mapM zjQ=some (kvG fR p)
 | []=>rfl
 | t::p=>by
  show((PyData.tuple [pwD t.1,fR t.2])::tmG fR p).mapM zjQ=_;rw [List.mapM_cons,zoq p];show((zae (pwD t.1)).bind _:Option _).bind _=_;rw [zbq];rfl
theorem zuO(p:Pq Rat):∀ acc:Pq Rat,(kvG fR p).foldl (fun a q=>zdq a q.1 q.2) (kvG fR acc)=kvG fR (p.foldl (fun ys t=>zat ys t.1 t.2) acc):=by
 induction p with
 | nil=>intro acc; rfl
 | cons t p ih =>
  intro acc;show(kvG fR p).foldl _ (zdq (kvG fR acc) (kL t.1) (fR t.2))=_;rw [zjG];exact ih _
theorem zsJ{p:Pq Rat}(nd:NdK p)(hl:p.length < 1000):zjR (zwa p)=some (.t (kvG fR p)):=by
 show((tmG fR p).mapM zjQ).bind _=_;rw [zoq];show(if(tmG fR p).length < sizeLine then some (U.t (zr8 (kvG fR p)))else none)=_;have hz:sizeLine=16777216:=sizeLine_eq;rw [if_pos (by unfold tmG; rw [List.length_map]; omega)];have:=zuO p [];unfold zr8;rw [show([]:List (List Key×D))=kvG fR [] from rfl,this];show some (U.t (kvG fR (dcP p)))=_;rw [zmA nd]
def kkR(p:Pq Rat):KKs:=p.map fun t=>(kL t.1,[.inl t.2.num,.inl (t.2.den:Int)])
theorem zsK:∀ p:Pq Rat,kks (kvG fR p)=some (kkR p)
 | []=>rfl
 | t::p=>by
  show(zae (fR t.2)).bind (fun v=>(kks (kvG fR p)).bind fun r=>some ((kL t.1,v)::r))=_;rw [zsK p];rfl
theorem zAg{a b:List Int}(h:kL a=kL b):a=b:=(List.map_inj_right fun x y e=>by cases e; rfl).mp h
theorem zsL{p q:Pq Rat}(hp:p.Perm q)(nd:NdK q):eqF (kkR p) (kkR q)=true:=by
 unfold eqF;rw [show((kkR p).length==(kkR q).length)=true by unfold kkR; rw [List.length_map,List.length_map,hp.length_eq]; exact beq_self_eq_true _,Bool.true_and];refine List.all_eq_true.mpr fun x hx=>?_;obtain⟨t,ht,rfl⟩:=List.mem_map.mp hx;obtain⟨j,hj⟩:=List.mem_iff_getElem?.mp (hp.mem_iff.mp ht);refine decide_eq_true (zle ?_ (j:=j) ?_)
 ·unfold kkR
  rw [List.map_map];show(q.map fun t=>kL t.1).Nodup;exact List.pairwise_map.mpr ((List.pairwise_map.mp nd).imp fun h e=>h (zAg e))
 ·unfold kkR
  rw [List.getElem?_map,hj];rfl
theorem zdZ{w:Bool}{u v:U}{p q:Pq Rat}(hu:dOf u=some (kvG fR p))(hv:dOf v=some (kvG fR q))(hp:p.Perm q)(nd:NdK q):zdK w u v=some (.d (.bool w)):=by
 unfold zdK;rw [hu,hv];show(kks (kvG fR p)).bind (fun f=>(kks (kvG fR q)).bind fun g=>some (U.d (.bool (eqF f g==w))))=_;rw [zsK,zsK];show some (U.d (.bool (eqF (kkR p) (kkR q)==w)))=_;rw [zsL hp nd];cases w<;>rfl
end K51
open PySem L2
namespace K51
open PySem L2
abbrev Rw:=Bool×List Et
def rwD(a:Rw):D:=if a.1=true then .list (a.2.map enD)else .tuple (a.2.map enD)
theorem zsM{a:Rw}(h:a.2.length < 1000):zbm (.d (rwD a))=some (.d (roD a.2)):=by
 obtain⟨b,r⟩:=a;cases b<;>rfl
structure PO (n:Nat) (p:Pq Rat):Prop where
 nf:Nf p
 nd:NdK p
 ln:p.length<=35
 ky:∀ t∈p,Ks n 4 t.1
 bd:∀ t∈p,Bd (36^4) (2^2300) t.2
theorem zAJ{n e a w:Nat}{F:Fm}(hF:FO n e a w F):Nf (srt (toR F.b F.p)):=⟨zfs (zmN hF.nd),fun s hs=>by
 obtain⟨u,hu,rfl⟩:=List.mem_map.mp ((zbp _).mem_iff.mp hs);have h1:=hF.nz u hu;have h2:=hF.b1;intro z;have z:Rat.divInt u.2 F.b=0:=z;rw [Rat.divInt_eq_div]at z;have hb:(F.b:Rat)≠0:=fun q=>by
  have q:F.b=0:=by exact_mod_cast q
  omega
 have z2:(u.2:Rat)=0:=by grind
 exact h1 (by exact_mod_cast z2)⟩
theorem zuP{p q:Pq Rat}(h:p.Perm q)(nd:NdK q):NdK p:=by
 unfold NdK at nd ⊢;exact(h.map _).nodup_iff.mpr nd
theorem PO.of{n e a w:Nat}{F:Fm}(n1:1<=n)(n3:n<=3)(hF:FO n e a w F)(a4:a<=4)(w4:w<=4)(he:e<=2100):PO n (srt (toR F.b F.p)):=by
 have pm:=zbp (toR F.b F.p);refine⟨zAJ hF,zuP pm (zmN hF.nd),?_,fun t ht=>?_,fun t ht=>?_⟩
 ·rw [pm.length_eq]
  show(F.p.map _).length<=35;rw [List.length_map];exact hF.len n1 n3 w4
 ·obtain⟨u,hu,rfl⟩:=List.mem_map.mp (pm.mem_iff.mp ht)
  exact(hF.ky u hu).up w4
 ·obtain⟨u,hu,rfl⟩:=List.mem_map.mp (pm.mem_iff.mp ht)
  have b:=zsm (N:=36^(4 - a)) (hF.bd u hu);rw [<-Nat.pow_add,show a+(4 - a)=4 by omega]at b;refine b.le ?_;have p1:(36:Nat)^(4 - a)<=36^4:=Nat.pow_le_pow_right (by decide) (by omega);have p2:(36:Nat)^4<=2^21:=by decide
  refine qx (Nat.mul_le_mul (qe _) (qx p1 p2)) ?_;rw [<-Nat.pow_add];exact Nat.pow_le_pow_right (by decide) (by omega)
theorem zaE{ns:List Str}{as:List Rw}{u:U}{Q:U×List U->Prop}(n1:1<=ns.length)(n3:ns.length<=3)(hT:TO ns.length (as.map (·.2)))(hu:u.fz=some (.list (as.map rwD)))
  (k:∀ p:Pq Rat,PO ns.length p->(∀ g,lin p g=Dt ns.length (as.map (·.2)) g (zs ns.length))->Q (.t (kvG fR p),[.d (.tuple (ns.map .str)),.d (.list (as.map rwD))])):Wo (zZ [.d (.tuple (ns.map .str)),u]) Q:=by
 have l4:=hT.l4;rw [List.length_map]at l4;simp_arith [zZ,zgp,hu];refine zcT (g:=rwD) (e:=fun a=>roD a.2) (by omega) (fun a ha ys=>?_) ?_
 ·have:=hT.sq a.2 (List.mem_map.mpr ⟨a,ha,rfl⟩)
  rw [List.length_map]at this;simp_arith [zsM (a:=a) (by omega)]
 ·simp_arith
  rw [show(as.map fun a=>roD a.2)=(as.map (·.2)).map roD by rw [List.map_map]; rfl];refine zsE n1 n3 hT fun F e a w hF a4 w4 he hFl=>?_;have po:=PO.of n1 n3 hF a4 w4 he;simp_arith [zsJ (p:=srt (toR F.b F.p)) po.nd (by have:=po.ln; omega)];refine k _ po fun g=>?_;rw [zk0 (zbp _)];show zaA F g=_;rw [hFl,zys hT]
end K51
open PySem L2
namespace K51
open PySem L2
def Sq(u:U)(ds:List D):Prop:=u=.d (.list ds)\/u=.d (.tuple ds)
theorem Sq.ls{u:U}{ds:List D}(h:Sq u ds):zdB u=some (.l ds):=by rcases h with rfl | rfl<;>rfl
theorem Sq.ix{u:U}{ds:List D}(h:Sq u ds)(i:Int):zpm u (.d (.int i))=(atI ds i).map U.d:=by
 rcases h with rfl | rfl
 ·unfold zpm
  show(match (atI ds i).map U.d with | some r=>some r | none=>zaO _ _)=_;cases atI ds i<;>rfl
 ·rfl
theorem zed{n a:Nat}(h:a < n):ixN n (a:Int)=some a:=by
 unfold ixN;simp [h]
theorem zd0{ds:List D}{a:Nat}(h:a < ds.length):atI ds (a:Int)=some (ds.getD a .none):=by
 unfold atI;rw [zed h,qA,ql h];exact ql h
theorem zfM{u:U}{ds:List D}{a b:Nat}(h:Sq u ds)(hl:ds.length < 1000)(ha:a < ds.length)(hb:b < ds.length) :
  zaq [u,.d (.int (a:Int)),.d (.int (b:Int))]=some (.l (zcW ds a b .none),[u,.d (.int (a:Int)),.d (.int (b:Int))]):=by
 refine zW ?_;simp_arith [zaq,zcE,h.ls,h.ix,zd0 ha,zd0 hb,zed ha,zed hb,List.length_set,zmL];rfl
theorem zfN{α:Type}{f:α->D}{l:List α}{a:Nat}{d:α}(h:a < l.length):(l.map f).getD a .none=f (l.getD a d):=by
 rw [qA,qA,List.getElem?_map,ql h];rfl
theorem zlA{α:Type}{f:α->D}{l:List α}{a b:Nat}{d:α}(ha:a < l.length)(hb:b < l.length):zcW (l.map f) a b .none=(zcW l a b d).map f:=by
 unfold zcW;rw [zfN (d:=d) ha,zfN (d:=d) hb,List.map_set,List.map_set]
theorem zyw{n:Nat}:zao 0 (n:Int).toNat=(List.range n).map fun i:Nat=>PyData.int (i:Int):=by
 rw [Int.toNat_natCast];unfold zao;refine List.map_congr_left fun i _=>?_;rw [Int.zero_add]
theorem zpr{t:List (List Et)}(l4:t.length<=4)(sq:∀ r∈t,r.length=t.length) :
  zbs [.d (.list (t.map roD))]=some (.l ((List.range t.length).map fun j=>.list ((t.map fun r=>r.getD j (0,none)).map enD)),[.d (.list (t.map roD))]):=by
 refine zW ?_;simp_arith [zbs,zdO];rw [zyw];refine zcT (e:=fun j=>.list ((t.map fun r=>r.getD j (0,none)).map enD)) (by rw [List.length_range]; omega) (fun j hj ys=>?_) ?_
 ·simp_arith
  refine zcT (e:=fun r=>enD (r.getD j (0,none))) (by omega) (fun r hr zs=>?_) ?_
  ·have hj:=List.mem_range.mp hj
   have ix:zaO (.d (roD r)) (.d (.int (j:Int)))=some (.d (enD (r.getD j (0,none)))):=by
    show(atI (r.map enD) (j:Int)).map U.d=_;rw [zd0 (by rw [List.length_map,sq r hr]; exact hj),zfN (d:=(0,none)) (by rw [sq r hr]; exact hj)];rfl
   simp_arith [ix]
  ·rw [show(t.map fun r=>enD (r.getD j (0,none)))=(t.map fun r=>r.getD j (0,none)).map enD by rw [List.map_map]; rfl]
   simp_arith
 ·simp_arith
end K51
open PySem L2
namespace K51
open PySem L2
theorem zj5(p:Pq Rat):dOf (dT p)=some (kvG fR p):=by
 show(if noX (dcG fR p)=true then zhm (dcG fR p)else none)=_;rw [if_pos (zeY p),zht]
theorem zsN{p:Pq Rat}:zjT (dT p)=some (.l (p.map fun t=>pwD t.1)):=by
 unfold zjT;rw [zj5];show some (U.l ((kvG fR p).map fun q=>kTD q.1))=_;unfold kvG;rw [List.map_map];congr 2;exact List.map_congr_left fun t _=>zjF t.1
theorem zuQ{p:Pq Rat}:zod (dT p)=some (.d (.int (p.length:Int))):=by
 unfold zod;rw [zj5];show some (U.d (.int ((kvG fR p).length:Int)))=_;unfold kvG;rw [List.length_map]
theorem zwe(n:Nat):(List.replicate n [PyData.int 0]).flatten=(zs n).map PyData.int:=by
 induction n with
 | zero=>rfl
 | succ n ih =>
  rw [List.replicate_succ,List.flatten_cons,ih];rfl
theorem zsO{n:Nat}{p:Pq Rat}{f:Rat}{Q:U×List U->Prop}(n1:1<=n)(n3:n<=3)(hp:PO n p)(h0:0 < p.length)(hf:Bd 6 30 f)(hn:f≠0)
  (k:Q (.t (kvG fR (nz (gat [] (zau p [(zs n,f)])))),[dT p,.d (fR f)])):Wo (zbu [dT p,.d (fR f)]) Q:=by
 match p,h0,hp,k with
 | t::p,_,hp,k =>
 have kl:=(hp.ky t qo).1;have e1:zcR (.d (pwD t.1))=some (.d (.int (n:Int))):=by
  show some (U.d (.int ((t.1.map PyData.int).length:Int)))=_;rw [List.length_map,kl]
 have e2:zep (.d (.tuple [.int 0])) (.d (.int (n:Int)))=some (.d (pwD (zs n))):=by
  rw [zgF (by decide) (by omega) (by omega) (by decide),Int.toNat_natCast,zwe];rfl
 simp_arith [zbu,zdS,zsN,e1,e2];refine zlm (M:=36^4) (N:=6) (B:=2^2300) (C:=30) (n:=n) (p:=t::p) (q:=[(zs n,f)]) rfl (zb7 (p:=[(zs n,f)])) hp.nd ?_ hp.bd ?_ (fun s hs=>(hp.ky s hs).1) ?_ (by omega) (by decide) (by decide) ?_ ?_ ?_ ?_ ?_ ?_ ?_ ?_ ?_ ?_ fun u2' hu2=>?_
 ·exact List.nodup_cons.mpr ⟨List.not_mem_nil,List.nodup_nil⟩
 ·intro s hs
  cases qp.mp hs;exact hf
 ·intro s hs
  cases qp.mp hs;exact zsp n
 ·exact qi (by decide:36^4 * 6 < 2^30) (Nat.pow_le_pow_right (by decide) (by decide))
 ·exact qi (by decide:36^4 < 2^30) (Nat.pow_le_pow_right (by decide) (by decide))
 ·exact qi (by decide:6 < 2^30) (Nat.pow_le_pow_right (by decide) (by decide))
 ·exact Nat.pow_lt_pow_right (by decide) (by decide)
 ·exact qi (by decide:30 < 2^30) (Nat.pow_le_pow_right (by decide) (by decide))
 ·have ln:=hp.ln
  refine Nat.lt_of_le_of_lt (Nat.mul_le_mul (show(t::p).length * 1<=35 by omega) (qe _)) ?_;rw [show 35 * (2^2300 * 30)=(35 * 30) * 2^2300 by rw [Nat.mul_comm (2^2300) 30,Nat.mul_assoc]];refine Nat.lt_of_le_of_lt (Nat.mul_le_mul (by decide:35 * 30<=2^11) (qe _)) ?_;rw [<-Nat.pow_add];exact Nat.pow_lt_pow_right (by decide) (by decide)
 ·exact Nat.mul_pos (Nat.pow_pos (by decide)) (by decide)
 ·have ln:=hp.ln
  show(t::p).length * 1 < 64;omega
 ·have ln:=hp.ln
  omega
 ·show 1 < 64
  decide
 ·simp_arith
  exact k
end K51
open PySem L2
namespace K51
open PySem L2
theorem zuR{mA:MA}{ρ:En}{QI:List D×En->Prop}:Wo (zse mA ρ) QI=Wo (mA ρ) (Co (fun p=>(zax p.2 p.1).bind fun us=>(zoe us).bind fun ds=>some (ds,p.2)) ⟨0⟩ QI):=by
 show Wo (Option.bind _ _) QI=_;rw [zr]
theorem zuS{as bs:List Rat}(h:as.length=bs.length):zoe [.d (.list (as.map fR)),.d (.list (bs.map fR))]=some ((as.zip bs).map fun t=>.tuple [fR t.1,fR t.2]):=by
 show(if(as.map fR).length=(bs.map fR).length then some (zjy _ _)else none)=_;rw [if_pos (by rw [List.length_map,List.length_map,h]),zhu]
theorem zwf{d:D}:∀ n:Nat,(List.replicate n [d]).flatten=List.replicate n d
 | 0=>rfl
 | n+1=>by
  rw [List.replicate_succ,List.flatten_cons,zwf n];rfl
theorem zuT{d:D}{n:Nat}(h:n<=4):zpk (.l [d]) (.d (.int (n:Int)))=some (.l (List.replicate n d)):=by
 have hz:sizeLine=16777216:=sizeLine_eq;have c:-1000000 < (n:Int)/\(n:Int) < 1000000/\[d].length * (n:Int).toNat<=sizeLine:=⟨by omega,by omega,by
  rw [Int.toNat_natCast,hz];show 1 * n<=_;omega⟩
 have e:zpk (.l [d]) (.d (.int (n:Int)))=some (.l (List.replicate (n:Int).toNat [d]).flatten):=by
  unfold zpk;dsimp only;rw [if_pos c]
 rw [e,Int.toNat_natCast];rw [zwf]
end K51
open PySem L2
namespace K51
open PySem L2
theorem zlB{x y:Int}{ds:List D}{Q:List D×En->Prop}(hl:ds.length<=4)(k:∀ (fs:List Rat) (x' y':Int) (v:Option U),fs.length=ds.length->(∀ f∈fs,Bd 6 30 f)->Q (fs.map fR,[v,some (bx x' y')])) :
  Wo (lcM 1 (zy 0) zdk (zN zai (zf (zi 1) zo)) ds [none,some (bx x y)] []) Q:=by
 have hz:sizeLine=16777216:=sizeLine_eq;refine zq8 (fun i ρ ys=>∃ (fs:List Rat) (x' y':Int) (v:Option U),ρ=[v,some (bx x' y')]/\ys=fs.map fR/\fs.length=i/\∀ f∈fs,Bd 6 30 f) (by omega) ?_ ⟨[],x,y,none,rfl,rfl,rfl,fun f hf=>by cases hf⟩ ?_ ?_
 ·rintro i ρ ys ⟨fs,x',y',v,rfl,rfl,hi,_⟩
  rw [List.length_map,hi];exact qe _
 ·rintro i d ρ ys hd ⟨fs,x',y',v,rfl,rfl,hi,hb⟩
  simp_arith;refine zjX fun r x2 y2 hr=>?_;simp_arith;refine⟨fs++[r],x2,y2,_,rfl,by rw [List.map_append]; rfl,by simp [hi],fun f hf=>?_⟩;rcases List.mem_append.mp hf with hf | hf
  ·exact hb f hf
  ·cases qp.mp hf
   exact hr
 ·rintro ρ ys ⟨fs,x',y',v,rfl,rfl,hi,hb⟩
  exact k fs x' y' v hi hb
end K51
open PySem L2
namespace K51
open PySem L2
def tab(t:List (List Et))(a:Nat)(l:List Rat):List (List Et):=t.set a (l.map fun f=>(f,none))
theorem zyx{n:Nat}{t:List (List Et)}{a:Nat}{l:List Rat}(hT:TS n t)(hl:l.length=t.length)(hb:∀ f∈l,Bd 36 12000000 f):TO n (tab t a l):=by
 have h:=hT.up;unfold tab;refine⟨by rw [List.length_set]; exact h.l1,by rw [List.length_set]; exact h.l4,fun r hr=>?_,fun r hr e he=>?_⟩
 ·rw [List.length_set]
  rcases List.mem_or_eq_of_mem_set hr with z | z
  ·exact h.sq r z
  ·rw [z,List.length_map,hl]
 ·rcases List.mem_or_eq_of_mem_set hr with z | z
  ·exact h.en r z e he
  ·rw [z]at he
   obtain⟨f,hf,rfl⟩:=List.mem_map.mp he;exact⟨hb f hf,fun k hk=>by cases hk⟩
def zps(t:List (List Et))(a:Nat)(l:List Rat):List Rw:=(t.map fun r=>(false,r)).set a (true,l.map fun f=>(f,none))
theorem zsP{t:List (List Et)}{a:Nat}{l:List Rat}:(zps t a l).map (·.2)=tab t a l:=by
 unfold zps tab;rw [List.map_set,List.map_map];congr 1;exact List.map_id _
theorem zyy{t:List (List Et)}{a:Nat}{l:List Rat}:(zps t a l).map rwD=(t.map roD).set a (.list ((l.map fun f=>((f,none):Et)).map enD)):=by
 unfold zps;rw [List.map_set,List.map_map];rfl
theorem sz6{f:Rat}(h:Bd 6 30 f):Sz f:=zhL h (by decide) (qi (by decide:6 < 2^30) (Nat.pow_le_pow_right (by decide) (by decide))) (qi (by decide:30 < 2^30) (Nat.pow_le_pow_right (by decide) (by decide)))
theorem zgM{p q:Pq Rat}(hp:Nf p)(nd:NdK q)(hz:∀ t∈q,t.2≠0)(h:∀ g,lin q g=lin p g):q.Perm p:=by
 have e:srt q=p:=zgE ⟨zfs nd,fun t ht=>hz t ((zbp q).mem_iff.mp ht)⟩ hp fun g=>by rw [zk0 (zbp q),h]
 rw [<-e];exact(zbp q).symm
theorem zyz(q:Pq Rat):∀ t∈nz q,t.2≠0:=fun t ht=>of_decide_eq_true (List.mem_filter.mp ht).2
theorem zee{t:List (List Et)}{a:Nat}{l:List Rat}{p:Pc}(ha:a < t.length):pat (tab t a l) p=if p.1=a then(l.getD p.2 0,none)else pat t p:=by
 unfold pat tab;rw [zbS ha];split
 ·rw [qA,qA,List.getElem?_map]
  cases l[p.2]?<;>rfl
 ·rfl
theorem zsQ{fs gs:List Rat}(h:fs.length=gs.length)(i:Nat):((fs.zip gs).map fun t=>t.1+t.2).getD i 0=fs.getD i 0+gs.getD i 0:=by
 rw [qA,qA,qA,List.getElem?_map];rcases Nat.lt_or_ge i fs.length with z | z
 ·rw [ql z,ql (by omega:i < gs.length),ql (by rw [List.length_zip]; omega:i < (fs.zip gs).length)]
  simp
 ·rw [List.getElem?_eq_none z,List.getElem?_eq_none (by omega:gs.length<=i),List.getElem?_eq_none (by rw [List.length_zip]; omega:(fs.zip gs).length<=i)]
  show(0:Rat)=0+0;rw [Rat.add_zero]
theorem zsR{n:Nat}{p q:Pq Rat}{u1 u2:U}{s:Int}(hu1:zeb u1=some (.t (kvG fR p)))(hu2:u2.fz=some (.dict (dcG fR q)))(hs:s=1\/s=-1)(np:NdK p)(bp:PB (36^4) (2^2300) p)(lp:p.length < 64)(hq:PO n q) :
  zak [u1,u2,.d (.int s)]=some (.t (kvG fR (nz (gat p (psg s q)))),[u1,dT q,.d (.int s)]):=by
 have ln:=hq.ln;refine zll (M:=36^4) (B:=2^2300) hu1 hu2 hs np hq.nd bp hq.bd (by decide) (qi (by decide:36^4 < 2^30) (Nat.pow_le_pow_right (by decide) (by decide))) ?_ lp (by omega);have e:2^2300+q.length * 2^2300=(1+q.length) * 2^2300:=by rw [Nat.add_mul,Nat.one_mul]
 rw [e];refine Nat.lt_of_le_of_lt (Nat.mul_le_mul (show 1+q.length<=2^6 by omega) (qe _)) ?_;rw [<-Nat.pow_add];exact Nat.pow_lt_pow_right (by decide) (by decide)
theorem zor{x y:Int}{ns:List Str}{t:List (List Et)}{a:Nat}{Q:U×List U->Prop}(n1:1<=ns.length)(n3:ns.length<=3)(hT:TS ns.length t)(ha:a < t.length)
  (k:∀ x' y',Q (.d (.bool true),[bx x' y',.d (.tuple (ns.map .str)),.d (.list (t.map roD)),.d (.int (a:Int))])):Wo (zbM [bx x y,.d (.tuple (ns.map .str)),.d (.list (t.map roD)),.d (.int (a:Int))]) Q:=by
 have l4:=hT.l4;simp_arith [zbM,zeH];refine zlB (by rw [List.length_map]; exact l4) fun fs x1 y1 v1 hl1 hb1=>?_;rw [List.length_map]at hl1;simp_arith;refine zlB (by rw [List.length_map]; exact l4) fun gs x2 y2 v2 hl2 hb2=>?_;rw [List.length_map]at hl2;simp_arith [↓zuR,zuS (as:=fs) (bs:=gs) (by omega)];refine zcT (e:=fun t=>fR (t.1+t.2)) (by rw [List.length_zip]; omega) (fun s hs ys=>?_) ?_
 ·have m:=List.of_mem_zip hs
  simp_arith [zdW (sz6 (hb1 _ m.1)) (sz6 (hb2 _ m.2))]
 ·simp_arith
  have sq:∀ l∈[fs,gs,(fs.zip gs).map fun t=>t.1+t.2],l.length=t.length/\∀ f∈l,Bd 36 12000000 f:=by
   intro l hl;simp only [qu,List.not_mem_nil,or_false]at hl;have up:∀ f:Rat,Bd 6 60 f->Bd 36 12000000 f:=fun f h=>(zsm (N:=6) h).le (by decide);rcases hl with rfl | rfl | rfl
   ·exact⟨hl1,fun f hf=>up f ((hb1 f hf).le (by decide))⟩
   ·exact⟨hl2,fun f hf=>up f ((hb2 f hf).le (by decide))⟩
   ·refine⟨by rw [List.length_map,List.length_zip]; omega,fun f hf=>?_⟩
    obtain⟨z,hz,rfl⟩:=List.mem_map.mp hf;have m:=List.of_mem_zip hz;exact up _ ((hb1 _ m.1).add (hb2 _ m.2))
  rw [show([PyData.list (fs.map fR),.list (gs.map fR),.list ((fs.zip gs).map fun t=>fR (t.1+t.2))]:List D)=[fs,gs,(fs.zip gs).map fun t=>t.1+t.2].map fun l=>.list (l.map fR) by simp];generalize hL:[fs,gs,(fs.zip gs).map fun t=>t.1+t.2]=L at sq ⊢;refine zgB (fun(i:Nat) (ρ:En)=>∃ (ps:List (Pq Rat)) (o8 o9:Option U),ρ=[some (bx x2 y2),some (.d (.tuple (ns.map .str))),some (.d (.list (t.map roD))),some (.d (.int (a:Int))),some (.d (.list (fs.map fR))),some (.d (.list (gs.map fR))),some (.d (.list ((fs.zip gs).map fun t=>fR (t.1+t.2)))),some (.l (ps.map fun p=>.dict (dcG fR p))),o8,o9]/\ps.length=i/\∀ (j:Nat) (p:Pq Rat) (l:List Rat),ps[j]?=some p->L[j]?=some l->PO ns.length p/\∀ g,lin p g=Dt ns.length (tab t a l) g (zs ns.length)) ⟨[],_,_,rfl,rfl,fun j p l h=>by simp at h⟩ ?_ ?_
  ·rintro i d _ hd ⟨ps,o8,o9,rfl,hi,hps⟩
   rw [List.getElem?_map]at hd;obtain⟨l,hl,rfl⟩:=qq.mp hd;obtain⟨ll,lb⟩:=sq l (List.mem_of_getElem? hl);have els:zdB (.d (.list (t.map roD)))=some (.l (t.map roD)):=rfl;simp_arith [els];refine zcT (g:=fR) (as:=l) (e:=fun f=>enD (f,none)) (by omega) (fun f hf ys=>?_) ?_
   ·simp_arith
    rfl
   ·simp_arith [zed ha]
    refine zaE (as:=zps t a l) n1 n3 (by rw [zsP]; exact zyx hT ll lb) (by rw [zyy,List.map_map]; rfl) fun p po hlin=>?_;rw [zsP]at hlin;have fz:=zb7 (c:=fR) (p:=p);have i3:i < 3:=by
     have:=(qk.mp hl).1;rw [<-hL]at this;exact this
    simp_arith [fz,List.length_map,hi];refine⟨ps++[p],some (.d (.list (l.map fR))),some (.d (.list ((zps t a l).map rwD))),?_,by simp [hi],fun j q l' hq hl'=>?_⟩
    ·rw [List.map_append]
     rfl
    ·rcases Nat.lt_or_ge j ps.length with z | z
     ·rw [List.getElem?_append_left z]at hq
      exact hps j q l' hq hl'
     ·rw [List.getElem?_append_right z]at hq
      have e0:j - ps.length=0:=by
       rcases Nat.eq_zero_or_pos (j - ps.length)with y | y
       ·exact y
       ·rw [List.getElem?_eq_none (show [p].length<=j - ps.length from y)]at hq
        cases hq
      rw [e0]at hq;cases(show some p=some q from hq);cases(show j=i by omega);rw [hl]at hl';cases hl';exact⟨po,hlin⟩
  ·rintro _ ⟨ps,o8,o9,rfl,hi,hps⟩
   rw [List.length_map,<-hL]at hi
   match ps,hi with
   | [p0,p1,p2],_ =>
   obtain⟨q0,e0⟩:=hps 0 p0 fs rfl (by rw [<-hL]; rfl);obtain⟨q1,e1⟩:=hps 1 p1 gs rfl (by rw [<-hL]; rfl);obtain⟨q2,e2⟩:=hps 2 p2 _ rfl (by rw [<-hL]; rfl);have l0:=q0.ln;have pa:=zsR (u1:=dT p0) (u2:=dT p1) (s:=1) (zzV (zso n1 n3 q0.nd q0.ky)) rfl (.inl rfl) q0.nd q0.bd (by omega) q1;have pm:(nz (gat p0 (psg 1 p1))).Perm p2:=zgM q2.nf (zk2 (zcl _ q0.nd)) (zyz _) fun g=>by
    rw [show lin (nz (gat p0 (psg 1 p1))) g=lin (gat p0 (psg 1 p1)) g from zjB _ g,zfr _ g q0.nd,zug,e0,e1,e2];refine(zAf (a:=a) ?_ ?_ ?_ ?_ ?_ ?_ ?_).symm
    ·unfold tab; rw [List.length_set]; exact hT.l1
    ·unfold tab; rw [List.length_set]; exact hT.l4
    ·unfold tab; rw [List.length_set,List.length_set]
    ·unfold tab; rw [List.length_set,List.length_set]
    ·unfold tab; rw [List.length_set]; exact ha
    ·intro p hp
     rw [zee ha,zee ha,zee ha,if_neg hp,if_neg hp,if_neg hp];exact⟨rfl,rfl⟩
    ·intro p hp
     rw [zee ha,zee ha,zee ha,if_pos hp,if_pos hp,if_pos hp,zsQ (by omega)];exact⟨rfl,rfl⟩
   simp_arith [pa,zdZ (w:=true) (u:=.t (kvG fR (nz (gat p0 (psg 1 p1))))) (v:=dT p2) rfl (zj5 p2) pm q2.nd];exact k _ _
end K51
open PySem L2
namespace K51
open PySem L2
theorem zhP{α:Type}{l:List α}{a b:Nat}{d x:α}(ha:a < l.length)(hb:b < l.length)(h:x∈zcW l a b d):x∈l:=by
 unfold zcW at h;have m:∀ {i:Nat},i < l.length->l.getD i d∈l:=fun{i} hi=>by
  rw [qA,ql hi];exact List.getElem_mem hi
 rcases List.mem_or_eq_of_mem_set h with h | h
 ·rcases List.mem_or_eq_of_mem_set h with h | h
  ·exact h
  ·rw [h]; exact m hb
 ·rw [h]; exact m ha
theorem TO.rows{n:Nat}{t:List (List Et)}{a b:Nat}(hT:TO n t)(ha:a < t.length)(hb:b < t.length):TO n (zcW t a b []):=by
 refine⟨by rw [zdY]; exact hT.l1,by rw [zdY]; exact hT.l4,fun r hr=>?_,fun r hr=>hT.en r (zhP ha hb hr)⟩;rw [zdY];exact hT.sq r (zhP ha hb hr)
theorem TO.cols{n:Nat}{t:List (List Et)}{a b:Nat}(hT:TO n t)(ha:a < t.length)(hb:b < t.length):TO n (t.map fun r=>zcW r a b (0,none)):=by
 refine⟨by rw [List.length_map]; exact hT.l1,by rw [List.length_map]; exact hT.l4,fun r hr=>?_,fun r hr e he=>?_⟩
 ·obtain⟨s,hs,rfl⟩:=List.mem_map.mp hr
  rw [zdY,List.length_map];exact hT.sq s hs
 ·obtain⟨s,hs,rfl⟩:=List.mem_map.mp hr
  have l:=hT.sq s hs;exact hT.en s hs e (zhP (by omega) (by omega) he)
theorem TO.turn{n:Nat}{t:List (List Et)}(hT:TO n t):TO n ((List.range t.length).map fun j=>t.map fun r=>r.getD j (0,none)):=by
 refine⟨by rw [List.length_map,List.length_range]; exact hT.l1,by rw [List.length_map,List.length_range]; exact hT.l4,fun r hr=>?_,fun r hr e he=>?_⟩
 ·obtain⟨j,hj,rfl⟩:=List.mem_map.mp hr
  rw [List.length_map,List.length_map,List.length_range]
 ·obtain⟨j,hj,rfl⟩:=List.mem_map.mp hr
  obtain⟨s,hs,rfl⟩:=List.mem_map.mp he;have l:=hT.sq s hs;have hj:=List.mem_range.mp hj;refine hT.en s hs _ ?_;rw [qA,ql (by omega:j < s.length)];exact List.getElem_mem _
theorem TO.put{n:Nat}{t:List (List Et)}{a:Nat}{r:List Et}(hT:TO n t)(hr:r.length=t.length)(he:∀ e∈r,EO n e):TO n (t.set a r):=by
 refine⟨by rw [List.length_set]; exact hT.l1,by rw [List.length_set]; exact hT.l4,fun s hs=>?_,fun s hs e h=>?_⟩
 ·rw [List.length_set]
  rcases List.mem_or_eq_of_mem_set hs with z | z
  ·exact hT.sq s z
  ·rw [z,hr]
 ·rcases List.mem_or_eq_of_mem_set hs with z | z
  ·exact hT.en s z e h
  ·rw [z]at h; exact he e h
theorem zos{t:List (List Et)}{a:Nat}(ha:a < t.length):t.getD a []∈t:=by
 rw [qA,ql ha];exact List.getElem_mem ha
def rT(t:List (List Et)):List Rw:=t.map fun r=>(false,r)
theorem zmO(t:List (List Et)):(rT t).map (·.2)=t:=by
 unfold rT;rw [List.map_map];exact List.map_id _
theorem zsS(t:List (List Et)):(rT t).map rwD=t.map roD:=by
 unfold rT;rw [List.map_map];rfl
def rL(t:List (List Et)):List Rw:=t.map fun r=>(true,r)
theorem zuU(t:List (List Et)):(rL t).map (·.2)=t:=by
 unfold rL;rw [List.map_map];exact List.map_id _
theorem zAh(t:List (List Et)):(rL t).map rwD=t.map fun r=>.list (r.map enD):=by
 unfold rL;rw [List.map_map];rfl
def rP(t:List (List Et))(a:Nat)(r:List Et):List Rw:=(rT t).set a (true,r)
theorem zuV{t:List (List Et)}{a:Nat}{r:List Et}:(rP t a r).map (·.2)=t.set a r:=by
 unfold rP;rw [List.map_set,zmO]
theorem zAi{t:List (List Et)}{a:Nat}{r:List Et}:(rP t a r).map rwD=(t.map roD).set a (.list (r.map enD)):=by
 unfold rP;rw [List.map_set,zsS];rfl
theorem nd0:NdK ([]:Pq Rat):=List.nodup_nil
theorem zuW{n:Nat}:∀ {a:List Int},a.length=n->zaa a (zs n)=a:=by
 intro a ha;subst ha;unfold zaa zs
 induction a with
 | nil=>rfl
 | cons x a ih =>
  rw [qt,List.replicate_succ,List.zipWith_cons_cons,ih,Int.add_zero]
section
variable {n:Nat} {t:List (List Et)} {p q:Pq Rat} {a b:Nat}
abbrev Is(n:Nat)(t:List (List Et))(p:Pq Rat):Prop:=∀ g,lin p g=Dt n t g (zs n)
theorem zlC(hp:PO n p)(ep:Is n t p)(hq:PO n q)(eq:∀ g,lin q g=-lin p g):q.Perm (nz (gat [] (psg (-1) p))):=by
 refine(zgM hq.nf (zk2 (zcl _ nd0)) (zyz _) fun g=>?_).symm;rw [show lin (nz (gat [] (psg (-1) p))) g=lin (gat [] (psg (-1) p)) g from zjB _ g,zfr _ g nd0,zaf,zuh,zub,eq];grind
theorem zmP(hq:PO n q)(h:∀ g,lin q g=0):q=[]:=zgE hq.nf ⟨.nil,fun t ht=>by cases ht⟩ fun g=>by rw [h,zaf]
theorem zuX(hp:PO n p)(hq:PO n q)(h:∀ g,lin q g=lin p g):q=p:=zgE hq.nf hp.nf h
theorem zyA(l1:1<=t.length)(l4:t.length<=4)(ha:a < t.length)(g:List Int->Rat)(k:List Int):Dt n (t.set a (List.replicate t.length (0,none))) g k=0:=by
 have pt:∀ p:Pc,pat (t.set a (List.replicate t.length (0,none))) p=if p.1=a then(0,none)else pat t p:=fun p=>by
  unfold pat;rw [zbS ha];split
  ·rw [qA,List.getElem?_replicate]
   split<;>rfl
  ·rfl
 have:=zwd (n:=n) (h:=g) (k:=k) (c:=0) (t1:=t.set a (List.replicate t.length (0,none))) (t2:=t.set a (List.replicate t.length (0,none))) (by rw [List.length_set]; exact l1) (by rw [List.length_set]; exact l4) rfl (by rw [List.length_set]; exact ha) (fun _ _=>rfl) (fun p hp=>by
  rw [pt,if_pos hp];show((0:Rat),none)=(0 * 0,none);rw [Rat.zero_mul])
 rw [this,Rat.zero_mul]
def scl(f:Rat)(r:List Et):List Et:=r.map fun e=>(e.1 * f,e.2)
theorem zuY{f:Rat}(l1:1<=t.length)(l4:t.length<=4)(ha:a < t.length)(g:List Int->Rat)(k:List Int):Dt n (t.set a (scl f (t.getD a []))) g k=f * Dt n t g k:=by
 refine zwd (a:=a) l1 l4 (by rw [List.length_set]) ha (fun p hp=>?_) fun p hp=>?_
 ·unfold pat
  rw [zbS ha,if_neg hp]
 ·unfold pat scl
  rw [zbS ha,if_pos hp,hp];generalize t.getD a []=r;rw [qA,qA,List.getElem?_map];cases r[p.2]? with
  | none =>
   show((0:Rat),none)=(f * 0,none);rw [Rat.mul_zero]
  | some e =>
   show(e.1 * f,e.2)=(f * e.1,e.2);rw [Rat.mul_comm]
theorem zlD{f:Rat}(hf:f≠0)(hp:PO n p)(hq:PO n q)(eq:∀ g,lin q g=f * lin p g):q.Perm (nz (gat [] (zau p [(zs n,f)]))):=by
 refine(zgM hq.nf (zk2 (zcl _ nd0)) (zyz _) fun g=>?_).symm;rw [show lin (nz (gat [] (zau p [(zs n,f)]))) g=lin (gat [] (zau p [(zs n,f)])) g from zjB _ g,zfr _ g nd0,zaf,zuc,eq];rw [zo8 (h:=fun e=>f * g e) fun t ht=>?_,ziH]
 ·grind
 ·show f * g (zaa t.1 (zs n))+0=f * g t.1
  rw [zuW ((hp.ky t ht).1)];grind
end
end K51
open PySem L2
namespace K51
open PySem L2
def r32:Rat:=⟨3,2,by decide,by decide⟩
theorem zAK:Bd 36 12000000 r32:=⟨54,by decide +kernel,by decide⟩
theorem zyB:r32≠0:=by decide +kernel
theorem TO1{n:Nat}:TO n [[(r32,none)]]:=by
 refine⟨by decide,by decide,fun r hr=>?_,fun r hr e he=>?_⟩
 ·cases qp.mp hr
  rfl
 ·cases qp.mp hr
  cases qp.mp he;exact⟨zAK,fun k hk=>by cases hk⟩
theorem zsT{n:Nat}{p:Pq Rat}(hp:PO n p)(e:Is n [[(r32,none)]] p):p.Perm [(zs n,r32)]:=by
 refine(zgM hp.nf (show NdK [(zs n,r32)] from List.nodup_cons.mpr ⟨List.not_mem_nil,List.nodup_nil⟩) (fun t ht=>?_) fun g=>?_).symm
 ·cases qp.mp ht
  exact zyB
 ·rw [e]
  show r32 * g (zs n)+0=((1:Int):Rat) * (r32 * g (zs n))+0;rw [Rat.intCast_one];grind
theorem zAj(ns:List Int)(hl:ns.length<=63):Wo (ziN [.d (.list (ns.map .int))]) fun o=>o=(.d (.bool true),[.d (.list (ns.map .int))]):=by
 simp_arith [ziN,zv8,List.length_map];refine zz4 (by omega) fun x y=>?_;simp_arith;refine zaF (by decide) (by decide) fun r x1 y1 r0 r1=>?_;simp_arith;refine zuy (by omega) (by omega) fun ls x2 y2 hls _=>?_;have l1:1<=ls.length:=by omega
 have l3:ls.length<=3:=by omega
 simp_arith;refine zuA l1 l3 fun t x3 y3 hT=>?_;have t1:=hT.l1;have t4:=hT.l4;have els:zdB (.d (.tuple (t.map roD)))=some (.l (t.map roD)):=rfl;simp_arith [taD,els,List.length_map]
 by_cases h1:t.length=1
 ·simp_arith [h1]
  refine zaE (as:=[(true,[(r32,none)])]) l1 l3 TO1 rfl fun p po hlin=>?_;have kf:zae (.tuple (List.replicate (ls.length:Int).toNat [PyData.int 0]).flatten)=some (kL (zs ls.length)):=by
   rw [Int.toNat_natCast,zwe];exact zbq _
  simp_arith [kf,zdZ (w:=true) (u:=.t (kvG fR p)) (v:=.t [(kL (zs ls.length),.tuple [.int 3,.int 2])]) rfl rfl (zsT po hlin) (show NdK [(zs ls.length,r32)] from List.nodup_cons.mpr ⟨List.not_mem_nil,List.nodup_nil⟩)]
 ·have h1':¬(t.length:Int)=1:=by omega
  simp_arith [h1'];refine zaE (as:=rT t) l1 l3 (by rw [zmO]; exact hT.up) (by rw [zsS]; rfl) fun p po ep=>?_;rw [zmO]at ep;rw [zsS];simp_arith [List.length_map];refine zaF (by omega) (by omega) fun r5 x5 y5 a5 b5=>?_;simp_arith [List.length_map];refine zaF (by omega) (by omega) fun r6 x6 y6 a6 b6=>?_;simp_arith [List.length_map];obtain⟨a,rfl⟩:∃ a:Nat,r5=(a:Int):=⟨r5.toNat,by omega⟩;obtain⟨b,hb⟩:∃ b:Nat,((a:Int)+1+r6) % (t.length:Int)=(b:Int):=⟨(((a:Int)+1+r6) % (t.length:Int)).toNat,by
   have:=Int.emod_nonneg ((a:Int)+1+r6) (show(t.length:Int)≠0 by omega);omega⟩
  have ha:a < t.length:=by omega
  have hbl:b < t.length:=by
   have:=Int.emod_lt_of_pos ((a:Int)+1+r6) (show 0 < (t.length:Int) by omega);omega
  have ne:a≠b:=by
   rcases(by omega:t.length=2\/t.length=3\/t.length=4)with z | z | z<;>rw [z]at hb b5 b6<;>omega
  rw [hb];have pa:=zsR (n:=ls.length) (u1:=.t []) (u2:=.t (kvG fR p)) (p:=[]) (q:=p) (s:=-1) rfl zb7 (.inr rfl) nd0 (fun t ht=>by cases ht) (by decide) po;have xr:=zfM (u:=.d (.list (t.map roD))) (ds:=t.map roD) (a:=a) (b:=b) (.inl rfl) (by rw [List.length_map]; omega) (by rw [List.length_map]; exact ha) (by rw [List.length_map]; exact hbl);simp_arith [pa,xr];refine zaE (as:=rT (zcW t a b [])) l1 l3 (by rw [zmO]; exact hT.up.rows ha hbl) (by rw [zsS,<-zlA ha hbl]; rfl) fun p1 po1 e1=>?_;rw [zmO]at e1;have c1:=zlC po ep po1 fun g=>by rw [e1,ep,zyt (by omega) t4 ha hbl ne]
  have ndo:NdK (nz (gat [] (psg (-1) p))):=zk2 (zcl _ nd0);simp_arith [zdZ (w:=false) (u:=.t (kvG fR p1)) (v:=.t (kvG fR (nz (gat [] (psg (-1) p))))) rfl rfl c1 ndo];refine zcT (g:=roD) (as:=t) (e:=fun r=>.list ((zcW r a b (0,none)).map enD)) (by omega) (fun r hr ys=>?_) ?_
  ·have lr:=hT.sq r hr
   have xc:=zfM (u:=.d (roD r)) (ds:=r.map enD) (a:=a) (b:=b) (.inr rfl) (by rw [List.length_map]; omega) (by rw [List.length_map]; omega) (by rw [List.length_map]; omega);rw [zlA (d:=(0,none)) (by omega) (by omega)]at xc;simp_arith [xc]
  ·simp_arith
   refine zaE (as:=rL (t.map fun r=>zcW r a b (0,none))) l1 l3 (by rw [zuU]; exact hT.up.cols ha hbl) (by rw [zAh,List.map_map]; rfl) fun p2 po2 e2=>?_;rw [zuU]at e2;have c2:=zlC po ep po2 fun g=>by rw [e2,ep,zyu (by omega) t4 hT.sq ha hbl ne]
   simp_arith [zdZ (w:=false) (u:=.t (kvG fR p2)) (v:=.t (kvG fR (nz (gat [] (psg (-1) p))))) rfl rfl c2 ndo,zpr t4 hT.sq];refine zaE (as:=rL ((List.range t.length).map fun j=>t.map fun r=>r.getD j (0,none))) l1 l3 (by rw [zuU]; exact hT.up.turn) (by rw [zAh,List.map_map]; rfl) fun p3 po3 e3=>?_;rw [zuU]at e3;cases zuX po po3 fun g=>by rw [e3,ep,zyv (by omega) t4]
   have els2:zdB (.d (.list (t.map roD)))=some (.l (t.map roD)):=rfl;have ixb:∀ {i:Nat},i < t.length->zcQ (.d (.list (t.map roD))) (.d (.int (i:Int)))=some (.d (roD (t.getD i []))):=fun{i} h=>by
    show(atI (t.map roD) (i:Int)).map U.d=_;rw [zd0 (by rw [List.length_map]; exact h),zfN (d:=[]) h];rfl
   have rep:=zuT (d:=enD (0,none)) t4;have e00:PyData.tuple [.tuple [.int 0,.int 1],.none]=enD (0,none):=rfl;simp_arith [zdZ (w:=false) (u:=.t (kvG fR p)) (v:=dT p) rfl (zj5 p) (List.Perm.refl _) po.nd,els2,e00,rep,ixb hbl,zed ha,List.length_map];have hTo:=hT.up;have mb:=zos hbl;have ma:=zos ha;refine zaE (as:=rT (t.set a (t.getD b []))) l1 l3 (by rw [zmO]; exact hTo.put (hT.sq _ mb) (hTo.en _ mb)) (by rw [zsS,List.map_set]; rfl) fun p4 po4 e4=>?_;rw [zmO]at e4;cases zmP po4 fun g=>by rw [e4,zuN (by omega) t4 ha hbl ne]
   have eq0:=zdZ (w:=false) (u:=.t (kvG fR [])) (v:=.t []) (p:=[]) (q:=[]) rfl rfl (List.Perm.refl _) nd0;simp_arith [eq0];refine zaE (as:=rP t a (List.replicate t.length (0,none))) l1 l3 (by rw [zuV]; exact hTo.put List.length_replicate fun e he=>by rw [(List.mem_replicate.mp he).2]; exact⟨Bd.zero,fun k hk=>by cases hk⟩) (by rw [zAi,List.map_replicate]; rfl) fun p5 po5 e5=>?_;rw [zuV]at e5;cases zmP po5 fun g=>by rw [e5,zyA (by omega) t4 ha]
   simp_arith [eq0];refine zjX fun f x7 y7 hf=>?_;have edt:zjn (.d (roD (t.getD a [])))=some ((t.getD a []).map enD):=rfl;simp_arith [els2,ixb ha,edt];refine zcT (g:=enD) (as:=t.getD a []) (e:=fun e=>enD (e.1 * f,e.2)) (by rw [hT.sq _ ma]; omega) (fun e he ys=>?_) ?_
   ·have es:=hT.en _ ma e he
    have ti:=zfL (sz6 es.bd) (sz6 hf);have e0:zaO (.d (enD e)) (.d (.int 0))=some (.d (fR e.1)):=rfl;have e1:zaO (.d (enD e)) (.d (.int 1))=some (.d (leD e.2)):=rfl;simp_arith [e0,ti,e1];rfl
   ·simp_arith [zed ha,List.length_map,zuQ]
    have hTg:TO ls.length ((rP t a (scl f (t.getD a []))).map (·.2)):=by
     rw [zuV];refine hTo.put (by unfold scl; rw [List.length_map]; exact hT.sq _ ma) fun e he=>?_;obtain⟨e',he',rfl⟩:=List.mem_map.mp he;have es:=hT.en _ ma e' he';exact⟨(zyg es.bd hf).le (by decide),es.lt⟩
    have hug:(U.l ((t.map roD).set a (.list ((t.getD a []).map fun e=>enD (e.1 * f,e.2))))).fz=some (.list ((rP t a (scl f (t.getD a []))).map rwD)):=by
     rw [zAi];unfold scl;rw [List.map_map];rfl
    have fin:∀ {q:Pq Rat},Is ls.length ((rP t a (scl f (t.getD a []))).map (·.2)) q->∀ g,lin q g=f * lin p g:=fun{q} h g=>by
     rw [h,zuV,zuY (by omega) t4 ha,ep]
    by_cases hA:0 < p.length/\f≠0
    ·have n0:¬f.num=0:=fun z=>hA.2 (Rat.num_eq_zero.mp z)
     have p0:(0:Int) < (p.length:Int):=by omega
     simp_arith [p0,n0];refine zsO l1 l3 po hA.1 hf hA.2 ?_;simp_arith;refine zaE l1 l3 hTg hug fun q poq eq=>?_;simp_arith [zdZ (w:=true) (u:=.t (kvG fR q)) (v:=.t (kvG fR (nz (gat [] (zau p [(zs ls.length,f)]))))) rfl rfl (zlD hA.2 po poq (fin eq)) (zk2 (zcl _ nd0))];refine zor l1 l3 hT ha fun x8 y8=>?_;simp_arith
    ·have q0:∀ {q:Pq Rat},PO ls.length q->Is ls.length ((rP t a (scl f (t.getD a []))).map (·.2)) q->q=[]:=fun{q} poq eq=>zmP poq fun g=>by
      rw [fin eq]
      by_cases hf0:f=0
      ·rw [hf0,Rat.zero_mul]
      ·have:p=[]:=List.eq_nil_of_length_eq_zero (by have:¬0 < p.length:=fun z=>hA ⟨z,hf0⟩; omega)
       rw [this,zaf,Rat.mul_zero]
     refine zlk (fun c=>zW ?_) ?_
     ·have n0:f.num=0:=Rat.num_eq_zero.mpr (Decidable.byContradiction fun z=>hA ⟨by omega,z⟩)
      simp_arith [n0]
     ·simp_arith
      refine zaE l1 l3 hTg hug fun q poq eq=>?_;cases q0 poq eq;simp_arith [zdZ (w:=true) (u:=.t (kvG fR [])) (v:=.t []) (p:=[]) (q:=[]) rfl rfl (List.Perm.refl _) nd0];refine zor l1 l3 hT ha fun x8 y8=>?_;simp_arith
theorem zyC(ns:List Int)(hl:ns.length<=63):∃ outs,ziN [.d (.list (ns.map .int))]=some (.d (.bool true),outs):=⟨_,zW (zAj ns hl)⟩
abbrev zsU(K:qc):Sp:=spV K 1 ziN
theorem all_mk{l:PySem.W.OpenLaw}{w:World}{K:qc}{h:Heap}{mg:Str->Option Value}{fa:Addr}(X:K.In h)(G:h.Ns mainGlobals mg)(hfa:mg "law"=some (.ref fa)){TROOM:Tok}{GNOUGHT GONE CForm fXForm:Addr}{odTNOUGHT odTONE odXForm anXForm:Option Addr}{itTNOUGHT itTONE:Array Value}{nTNOUGHT nTONE:Nat}{slTNOUGHT slTONE slXForm:Array (Option Value)}{ocXForm kVXForm dcXForm pmXForm cdXForm ctXForm:Value}
  (a0:FnK K "common_factor" zdo)
  (a1:FnK K "fraction" zhC)
  (a2:FnK K "powers_plus" zeq)
  (a3:FnK K "settled" ziL)
  (a4:FnK K "form_sum" zhD)
  (a5:FnK K "number_by_powers" zcm)
  (a6:FnK K "letter_by_powers" zcn)
  (a7:FnK K "times_by_powers" zcA)
  (a8:FnK K "fractions_of" zdL)
  (a9:FnK K "by_letter" zgj)
  (a10:FnK K "signed_sum" zfA)
  (a11:FnK K "_law_box" zgk)
  (a12:FnK K "_law_take" zfB)
  (a13:FnK K "_law_names" zer)
  (a14:FnK K "_law_fraction" zc6)
  (a15:FnK K "_law_plus" zfC)
  (a16:FnK K "_law_times" zes)
  (a17:FnK K "_law_poly_add" zc7)
  (a18:FnK K "_law_poly_mult" zcB)
  (a19:FnK K "_law_small" zet)
  (a20:FnK K "_law_entry" zeu)
  (a21:FnK K "_law_table" zev)
  (a22:FnK K "_law_sum" zgl)
  (a23:FnK K "_law_exchanged" zcC)
  (a24:FnK K "_law_turned" zdM)
  (a25:FnK K "_law_scaled" zdN)
  (a26:FnK K "_law_added" zew)
  (a27:FnK K "law" zv7)
  (z0:PySem.W.nsIn K mainGlobals "abs"=some none)
  (z1:PySem.W.nsIn K mainGlobals "tuple"=some none)
  (z2:PySem.W.nsIn K mainGlobals "zip"=some none)
  (z3:PySem.W.nsIn K mainGlobals "max"=some none)
  (z4:PySem.W.nsIn K mainGlobals "sorted"=some none)
  (z5:PySem.W.nsIn K mainGlobals "len"=some none)
  (z6:PySem.W.nsIn K mainGlobals "enumerate"=some none)
  (z7:PySem.W.nsIn K mainGlobals "range"=some none)
  (z8:PySem.W.nsIn K mainGlobals "int"=some none)
  (z9:PySem.W.nsIn K mainGlobals "dict"=some none)
  (z10:PySem.W.nsIn K mainGlobals "list"=some none)
  (xt0:zxR K zz3 xfl=true)
  (aIROOM:PySem.W.nsIn K mainGlobals "ROOM"=some (some (.int 256 TROOM)))
  (aTNOUGHT:PySem.W.nsIn K mainGlobals "NOUGHT"=some (some (.ref GNOUGHT)))
  (lTNOUGHT:K.lookup GNOUGHT=some ⟨.type "tuple",odTNOUGHT,.seq itTNOUGHT nTNOUGHT,slTNOUGHT⟩)
  (vTNOUGHT:zH [.int (0),.int (1)] itTNOUGHT.toList)
  (zTNOUGHT:itTNOUGHT.size<=sizeLine)
  (aTONE:PySem.W.nsIn K mainGlobals "ONE"=some (some (.ref GONE)))
  (lTONE:K.lookup GONE=some ⟨.type "tuple",odTONE,.seq itTONE nTONE,slTONE⟩)
  (vTONE:zH [.int (1),.int (1)] itTONE.toList)
  (zTONE:itTONE.size<=sizeLine)
  (aXForm:PySem.W.nsIn K mainGlobals "Form"=some (some (.ref CForm)))
  (kXForm:PySem.W.keepIn K (.ref CForm)=true)
  (mXForm:PySem.W.makesIn K CForm=true)
  (pgXForm:PySem.W.plainGet K CForm Str.empty=true)
  (hdXForm:PySem.W.hasDictIn K CForm=true)
  (poXForm:PySem.W.plainOver K CForm=true)
  (saXForm:PySem.W.findIn K (.ref CForm) "__setattr__"=some (some (.builtin "object.__setattr__")))
  (nXForm_numbers:PySem.W.findIn K (.ref CForm) "numbers"=some none)
  (nXForm_beneath:PySem.W.findIn K (.ref CForm) "beneath"=some none)
  (nXForm_room:PySem.W.findIn K (.ref CForm) "room"=some none)
  (iXForm:PySem.W.findIn K (.ref CForm) "__init__"=some (some (.ref fXForm)))
  (lXForm:K.lookup fXForm=some ⟨ocXForm,odXForm,.func (PySem.W.fnOf "__init__" "Form.__init__" (zdd zfD) (zbl zfD) (zS zfD) .none kVXForm dcXForm pmXForm anXForm cdXForm ctXForm),slXForm⟩)
  (cXForm:PySem.W.codeIn K cdXForm "Form.__init__"=true)
  (kfXForm:PySem.W.keepIn K (.ref fXForm)=true)
  (fnXForm:PySem.W.isFn K (.ref fXForm)=true)
  : ∃ fd:FuncData,(∀ (s:Shared) (v:Value),BindsTo s fd ⟨[v],[]⟩ [("_law_script",v)])/\∀ base:Heap,K.In base->base.Ns mainGlobals mg->FnOk l.prog w K mg base CX0 9 fa fd ["_law_script"] (spV K 1 ziN):=by
 obtain⟨_,fd,F,g⟩:=a27;cases hfa.symm.trans (PySem.W.mg_of X G g);refine⟨fd,fun s v=>by obtain⟨_,_,_,_,_,_,_,_,_,rfl,_⟩:=F.ex; exact .of_eq rfl,fun base _ _=>?_⟩;have hB:Bl mg ["abs", "tuple", "zip", "max", "sorted", "len", "enumerate", "range", "int", "dict", "list"]:=Bl.cons (PySem.W.mg_none_of X G z0) (Bl.cons (PySem.W.mg_none_of X G z1) (Bl.cons (PySem.W.mg_none_of X G z2) (Bl.cons (PySem.W.mg_none_of X G z3) (Bl.cons (PySem.W.mg_none_of X G z4) (Bl.cons (PySem.W.mg_none_of X G z5) (Bl.cons (PySem.W.mg_none_of X G z6) (Bl.cons (PySem.W.mg_none_of X G z7) (Bl.cons (PySem.W.mg_none_of X G z8) (Bl.cons (PySem.W.mg_none_of X G z9) (Bl.cons (PySem.W.mg_none_of X G z10) (Bl.nil)))))))))));have hT:=zzP xt0;have g_ROOM:=PySem.W.mg_of X G aIROOM;have g_NOUGHT:=PySem.W.mg_of X G aTNOUGHT;have gt_NOUGHT:GTi K GNOUGHT [0,1]:=⟨_,itTNOUGHT,nTNOUGHT,lTNOUGHT,rfl,rfl,zTNOUGHT,vTNOUGHT⟩;have g_ONE:=PySem.W.mg_of X G aTONE;have gt_ONE:GTi K GONE [1,1]:=⟨_,itTONE,nTONE,lTONE,rfl,rfl,zTONE,vTONE⟩;have gXForm:=PySem.W.mg_of X G aXForm;have FXForm:=zp0 (st:=zfD) lXForm cXForm kfXForm;have oXForm:OCal l.prog w K mg base "Form" CForm ["numbers", "beneath", "room"]:=⟨aXForm,⟨pgXForm,hdXForm,poXForm,saXForm⟩,na3 nXForm_numbers nXForm_beneath nXForm_room,gXForm,_,_,["self", "numbers", "beneath", "room"],⟨mXForm,iXForm,fnXForm,kXForm⟩,FXForm.binds (fun _ _ _ _ _ _ us hl=>by obtain⟨_,_,_,_,rfl⟩:=zz2 hl; rfl),FXForm.ok (k:=0) zsj (fun vs H Q E h=>zuj h) fun cdv A outer s H vs Q E hr hsp=>⟨_,zgN (zlJ (pv 0) (pv 1) rfl) (zgN (zlJ (pv 0) (pv 2) rfl) (zmQ (zlJ (pv 0) (pv 3) rfl))),zrN ⟨pgXForm,hdXForm,poXForm,saXForm⟩ nXForm_numbers nXForm_beneath nXForm_room (by decide) (by decide) (by decide) hsp⟩⟩
 let Z:Zs:=⟨l.prog,w,K,mg,base⟩
 have B:Bs Z:=⟨hB,hT,⟨_,g_ROOM⟩,⟨_,g_NOUGHT,gt_NOUGHT⟩,⟨_,g_ONE,gt_ONE⟩,⟨_,oXForm⟩⟩;have C0:=zgs B (a0.z X G);have C1:=zmI B (a1.z X G) C0;have C2:=zhZ B (a2.z X G);have C3:=zpo B (a3.z X G) C0;have C4:=zmJ B (a4.z X G) C0 C3;have C5:=ze2 B (a5.z X G) C3;have C6:=ze1 B (a6.z X G);have C7:=zfI B (a7.z X G) C2 C3;have C8:=zhH B (a8.z X G) C1;have C9:=zli B (a9.z X G) C6 C7;have C10:=zjW B (a10.z X G) C4 C5 C8 C9;have C11:=zlh B (a11.z X G);have C12:=zjU B (a12.z X G);have C13:=zh0 B (a13.z X G) C12;have C14:=zf8 B (a14.z X G);have C15:=zjV B (a15.z X G) C14;have C16:=zh6 B (a16.z X G) C14;have C17:=zf9 B (a17.z X G) C15;have C18:=zfH B (a18.z X G) C15 C16;have C19:=zh7 B (a19.z X G) C12 C14;have C20:=zh8 B (a20.z X G) C12 C19;have C21:=zh9 B (a21.z X G) C12 C20;have C22:=zlj B (a22.z X G) C10;have C23:=zfF B (a23.z X G);have C24:=zhE B (a24.z X G);have C25:=zhK B (a25.z X G) C18;have C26:=zia B (a26.z X G) C15 C17 C19 C22;exact zyf (Z:=Z) B F C11 C12 C13 C16 C17 C19 C21 C22 C23 C24 C25 C26
theorem walk{l:PySem.W.OpenLaw}{q:Program}{loose:List Str}{XP:(Str->Option Value)->Heap->Prop}{YP:World->Heap->Prop}{d:DefRec}{K:Params->qc}(hn:l.most=some 63)(hdf:d.params.defaults=[])
  (hY:∀ (w:World) (h:Heap),YP w h->(K w.params).In h)
  (F:∀ (w:World) (mg:Str->Option Value) (fa:Addr) (h:Heap),(K w.params).In h->h.Ns mainGlobals mg->mg d.name=some (.ref fa) ->
   ∃ fd:FuncData,(∀ (s:Shared) (u:Value),BindsTo s fd ⟨[u],[]⟩ [("_law_script",u)])/\∀ base:Heap,(K w.params).In base->base.Ns mainGlobals mg->FnOk l.prog w (K w.params) mg base CX0 9 fa fd ["_law_script"] (zsU (K w.params))) :
  PySem.W.WalkO q loose XP YP l.row.toRowW d [] (fun f vs=>PySem.call f vs) :=
 L2.walk_of (n:=63) (k:=9) (x := "_law_script") (CX:=fun _=>CX0) (sp:=fun w=>zsU (K w.params)) hn (by decide) hdf ⟨rfl,by decide,by decide,rfl⟩ hY F (fun w H a ns hl hO hS=>zxt hO hS (zyC ns hl)) fun _ _ _ _ _ z=>z
end K51
namespace PySem.W.Fast
def tw15766623762482691907:=()
def tw17161719842100035039:=()
def tw9488485183057859455:=()
def tw2753778486614583882:=()
def tw2839618027897772047:=()
def tw12381234769732738493:=()
def tw14894952163821286343:=()
def tw12395029296719130417:=()
def tw6836362856444959066:=()
def tw8280268359022388638:=()
def tw547249270712861719:=()
def tw12685006557942890787:=()
def tw1494123523614839722:=()
def tw1884010443428146507:=()
def tw10177659503363617605:=()
def tw13270694150084237354:=()
def tw14865192263068790570:=()
def tw1449561355203833360:=()
def tw15421332071117237651:=()
def tw18365192987991265743:=()
def tw10725490076271615340:=()
def tw3096489542187688158:=()
def tw18319307064951715963:=()
def tw7009455824157994871:=()
def tw1493513644447682101:=()
def tw5795964532739518042:=()
def tw5986256243609117687:=()
def tw4764174690316030827:=()
def tw571661125763585970:=()
def tw4658542754023872191:=()
def tw6134400268417127044:=()
def tw9903542645090461336:=()
def tw15567812490059028412:=()
def tw16306358955284476657:=()
def tw3175890037483116454:=()
def tw9947312352470409423:=()
def tw14990466469896396242:=()
def tw7167980618812173228:=()
def tw17184338023901311926:=()
def tw4078354763349135151:=()
def tw15682241882895675700:=()
def tw17103709654841500633:=()
def tw3948765280225440607:=()
def tw4854834588454644:=()
def tw8524513219625521087:=()
def tw3525636202920064613:=()
def tw11889749255274136241:=()
def tw11193847878983562543:=()
def tw10758094084416603427:=()
def tw5544470770394286617:=()
def tw3561729572076351410:=()
def tw6763004495609963758:=()
def tw10403358597052787049:=()
def tw10320691455295570200:=()
def tw18208202582659210492:=()
def tw9938769110457569033:=()
def tw16525627356240411502:=()
def tw12835767863599008930:=()
def tw11664486677695789921:=()
def tw2799134998873549957:=()
def tw7186484864745517178:=()
def tw14128537389836206663:=()
def tw6015195014524208726:=()
def tw10112751693401974994:=()
def tw2914711174359370399:=()
def tw7308876365343689365:=()
def tw14769577755389570898:=()
def tw13884909926469389413:=()
def tw6292156216118628423:=()
def tw14682152942800576689:=()
def tw12262096448480590885:=()
def tw16810644582653077191:=()
def tw4429346218385680163:=()
def tw17951810536729427111:=()
def tw9660327019134615992:=()
def tw8854176875922653789:=()
def tw8345425328149187130:=()
def tw15865352905965731280:=()
def tw9603625755203896952:=()
def tw13703062357038130795:=()
def tw273905677854534330:=()
def tw16787329217780528479:=()
def tw18092810906908069032:=()
def tw16349026737256198502:=()
def tw6062267838159084210:=()
def tw4927712898784348709:=()
def tw15296784057391919896:=()
def tw9617369326865227694:=()
def tw13415855125811000620:=()
def tw12849170255987597410:=()
def tw15878315230982831067:=()
def tw789450829704925641:=()
def tw16592752490998546257:=()
def tw11309166981934777393:=()
def tw6072304538461070796:=()
def tw18166082607542245739:=()
def tw12100362980532121094:=()
def tw16765498324857872643:=()
def tw5816352285188244095:=()
def tw9087345779878515177:=()
def tw16579822835165477402:=()
def tw12501739998035821655:=()
def tw17888860744888271291:=()
def tw16752997878374584338:=()
def tw2583676731825272946:=()
def tw4563883604641657648:=()
def tw2766813831297674861:=()
def tw14879642429018575514:=()
def tw4640108561336341004:=()
def tw13945125503969820842:=()
def tw17577529007663550272:=()
def tw9277570473885285993:=()
def tw1708679199426180924:=()
def tw8387409702767299267:=()
def tw18115544582089975393:=()
def tw18132046905868518604:=()
def tw5187644610393388913:=()
def tw4902056691983996847:=()
def tw3510114473169677704:=()
def tw14781989959851382522:=()
def tw9070789674940496476:=()
def tw16275546916346606547:=()
def tw5201111451930366960:=()
def tw2107141710185336883:=()
def tw3816471505758045168:=()
def tw13933004246570146931:=()
def tw14007865389984333846:=()
def tw6958020144822046011:=()
def tw12911080601283694552:=()
def tw3099717358464066050:=()
def tw12998699634518801540:=()
def tw4924933480112129734:=()
def tw150573191141238484:=()
def tw1187902834677087110:=()
def tw15926286092187779477:=()
end PySem.W.Fast
open PySem PySem.W PyProof.Rows
set_option maxRecDepth 100000 in
set_option maxHeartbeats 0 in
theorem PySem.Challenge.cw_undivide_k51_rules_of_signed_sums_holds : PySem.Challenge.rw_undivide_k51_rules_of_signed_sums.Holds := by
 w_on; o_law; k_head; (case hw=>w_witness2)
 k_fill
 refine K51.walk (l:=PySem.Challenge.rw_undivide_k51_rules_of_signed_sums) rfl rfl (fun w h Y=>PySem.W.kIn_of Y) ?F
 case F =>
  intro w mg fa h KX G hmg;refine' K51.all_mk KX G hmg ?a0 ?a1 ?a2 ?a3 ?a4 ?a5 ?a6 ?a7 ?a8 ?a9 ?a10 ?a11 ?a12 ?a13 ?a14 ?a15 ?a16 ?a17 ?a18 ?a19 ?a20 ?a21 ?a22 ?a23 ?a24 ?a25 ?a26 ?a27 ?z0 ?z1 ?z2 ?z3 ?z4 ?z5 ?z6 ?z7 ?z8 ?z9 ?z10 ?xt0 ?aIROOM ?aTNOUGHT ?lTNOUGHT ?vTNOUGHT ?zTNOUGHT ?aTONE ?lTONE ?vTONE ?zTONE ?aXForm ?kXForm ?mXForm ?pgXForm ?hdXForm ?poXForm ?saXForm ?nXForm_numbers ?nXForm_beneath ?nXForm_room ?iXForm ?lXForm ?cXForm ?kfXForm ?fnXForm
  any_goals (refine' L2.fnK ?_ ?_ ?_ ?_<;>try k_is)
  (case z0=>k_is)
  (case z1=>k_is)
  (case z2=>k_is)
  (case z3=>k_is)
  (case z4=>k_is)
  (case z5=>k_is)
  (case z6=>k_is)
  (case z7=>k_is)
  (case z8=>k_is)
  (case z9=>k_is)
  (case z10=>k_is)
  (case xt0=>kernel_rfl)
  (case aIROOM=>k_is)
  (case aTNOUGHT=>k_is)
  (case lTNOUGHT=>k_is)
  (case vTNOUGHT=>(repeat (first | exact .nil | refine .cons ⟨_,rfl⟩ ?_)))
  (case zTNOUGHT=>exact by decide)
  (case aTONE=>k_is)
  (case lTONE=>k_is)
  (case vTONE=>(repeat (first | exact .nil | refine .cons ⟨_,rfl⟩ ?_)))
  (case zTONE=>exact by decide)
  (case aXForm=>k_is)
  (case kXForm=>k_is)
  (case mXForm=>k_is)
  (case pgXForm=>k_is)
  (case hdXForm=>k_is)
  (case poXForm=>k_is)
  (case saXForm=>k_is)
  (case nXForm_numbers=>k_is)
  (case nXForm_beneath=>k_is)
  (case nXForm_room=>k_is)
  (case iXForm=>k_is)
  (case lXForm=>k_is)
  (case cXForm=>k_is)
  (case kfXForm=>k_is)
  (case fnXForm=>k_is)
