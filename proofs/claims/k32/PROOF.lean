import PyProof.Rows.All
import Wide.All
import OpenK.AllK
import Wide.FinOn
import Lean
import PyProof.EqAt
import PyProof.EqKinds
import PyProof.TupleCall
import PySem.Challenge.RW_undivide_k32_what_nodes_stand_for
set_option Elab.async false
set_option linter.all false
set_option maxRecDepth 100000
set_option compiler.extract_closed false
local macro_rules | `(tactic| omega) => `(tactic| lia)
noncomputable section
namespace L2
open PySem PySem.Spec PyProof.Rows
abbrev qc:=@wpAny_bind
abbrev qd:=@wpAny_pure
abbrev qe:=PySem.W.Frag
abbrev qf:=@Heap.get?_push_of_some
abbrev qg:=@Nat.le_refl
abbrev qh:=@Bool.false_ne_true
abbrev qi:=@Heap.get?_push_size
abbrev qj:=@Heap.lt_size
abbrev qk:=@Nat.lt_of_lt_of_le
abbrev ql:=@Nat.ne_of_lt
abbrev qm.{u}:=@List.getElem?_eq_some_iff.{u}
abbrev qo.{u}:=@List.getElem?_eq_getElem.{u}
abbrev qp.{u}:=@List.mem_cons_of_mem.{u}
abbrev qq.{u}:=@List.mem_cons_self.{u}
abbrev qr.{u}:=@List.mem_singleton.{u}
abbrev qt.{u,v}:=@Option.map_eq_some_iff.{u,v}
abbrev qu.{u}:=@List.length_append.{u}
abbrev qv.{u}:=@List.length_cons.{u}
abbrev qw.{u}:=@List.mem_cons.{u}
abbrev qx.{u}:=@List.mem_append_right.{u}
abbrev qy.{u}:=@Option.some.inj.{u}
abbrev qA:=@Nat.le_trans
abbrev qB:=@wpAny_newObj_type
abbrev qC.{u}:=@List.getD_eq_getElem?_getD.{u}
abbrev qD.{u}:=@List.getElem?_set_ne.{u}
abbrev Key:=Sum Int Str
def zj9:Key->Value->Bool
 | .inl k,v=>Value.isInt k v
 | .inr x,v=>Value.isStrOf x v
def zzH(w:World):Key->Int
 | .inl k=>hashInt k
 | .inr x=>hashStr w x
theorem zaO:∀ {k:Key} {v:Value},zj9 k v=true->(∃ i t,k=Sum.inl i/\v=Value.int i t)\/(∃ x t,k=Sum.inr x/\v=Value.str x t)
 | .inl i,v,h=>by
  obtain⟨t,e⟩:=Value.isInt_shape (k:=i) (v:=v) h;exact .inl ⟨i,t,rfl,e⟩
 | .inr x,v,h=>by
  obtain⟨t,e⟩:=Value.isStrOf_shape (x:=x) (v:=v) h;exact .inr ⟨x,t,rfl,e⟩
theorem zp3(i:Int)(t:Tok):zj9 (.inl i) (.int i t)=true:=by simp [zj9,Value.isInt]
theorem zp4(x:Str)(t:Tok):zj9 (.inr x) (.str x t)=true:=by simp [zj9,Value.isStrOf]
theorem zxA(a b:Int):decide ((Sum.inl a:Key)=Sum.inl b)=(a==b):=by
 by_cases e:a=b
 ·subst e; simp
 ·have h:¬(Sum.inl a:Key)=Sum.inl b:=fun q=>e (Sum.inl.inj q)
  rw [decide_eq_false h];exact(beq_eq_false_iff_ne.mpr e).symm
theorem zxB(a b:Str):decide ((Sum.inr a:Key)=Sum.inr b)=decide (a=b):=by
 by_cases e:a=b
 ·subst e; simp
 ·have h:¬(Sum.inr a:Key)=Sum.inr b:=fun q=>e (Sum.inr.inj q)
  rw [decide_eq_false h,decide_eq_false e]
theorem zxC(a:Int)(b:Str):decide ((Sum.inl a:Key)=Sum.inr b)=false:=decide_eq_false (fun q=>nomatch q)
theorem zxD(a:Str)(b:Int):decide ((Sum.inr a:Key)=Sum.inl b)=false:=decide_eq_false (fun q=>nomatch q)
def zaq(prog:Program)(w:World):PySem.KeyKind prog w Key where
 is:=zj9
 hash:=zzH w
 inj:=fun v a b ha hb=>by
  rcases zaO ha with ⟨i,t,rfl,rfl⟩ | ⟨x,t,rfl,rfl⟩
  ·rcases zaO hb with ⟨j,u,rfl,e⟩ | ⟨y,u,rfl,e⟩
   ·injection e with e1 _; rw [e1]
   ·exact nomatch e
  ·rcases zaO hb with ⟨j,u,rfl,e⟩ | ⟨y,u,rfl,e⟩
   ·exact nomatch e
   ·injection e with e1 _; rw [e1]
 byValue:=fun k v h=>by
  rcases zaO h with ⟨i,t,rfl,rfl⟩ | ⟨x,t,rfl,rfl⟩<;>rfl
 pyHash:=fun hv h=>by
  rcases zaO hv with ⟨i,t,rfl,rfl⟩ | ⟨x,t,rfl,rfl⟩
  ·exact wpAny_pyHash_int h
  ·exact wpAny_pyHash_str h
 eqBool:=fun hu hv h=>by
  rcases zaO hu with ⟨i,t,rfl,rfl⟩ | ⟨x,t,rfl,rfl⟩
  ·rcases zaO hv with ⟨j,u,rfl,rfl⟩ | ⟨y,u,rfl,rfl⟩
   ·rw [zxA]at h; exact wpAny_eqBool_int h
   ·rw [zxC]at h; exact SeqAt.EqAt.int_str i t y u _ _ _ _ h
  ·rcases zaO hv with ⟨j,u,rfl,rfl⟩ | ⟨y,u,rfl,rfl⟩
   ·rw [zxD]at h; exact SeqAt.EqAt.str_int x t j u _ _ _ _ h
   ·rw [zxB]at h; exact wpAny_eqBool_str h
 «strs»:=fun k x t v h=>by
  rcases zaO h with ⟨i,u,rfl,e⟩ | ⟨y,u,rfl,e⟩
  ·exact nomatch e
  ·injection e with e1 _
   subst e1;cases v<;>rfl
theorem zlR(prog:Program)(w:World)(i:Int)(t:Tok):(zaq prog w).is (.inl i) (.int i t)=true:=zp3 i t
theorem zlS(prog:Program)(w:World)(x:Str)(t:Tok):(zaq prog w).is (.inr x) (.str x t)=true:=zp4 x t
inductive V where
 | non | bl (b:Bool) | int (i:Int) | str (x:Str) | byt (b:Array UInt8) | flt (b:UInt64) | ref (a:Addr) | ty (n:String)
 deriving DecidableEq
def zab:V->Value->Prop
 | .non,u=>u=Value.none
 | .bl b,u=>u=Value.bool b
 | .int i,u=>∃ t,u=Value.int i t
 | .str x,u=>∃ t,u=Value.str x t
 | .byt b,u=>∃ t,u=Value.bytes b t
 | .flt b,u=>∃ t,u=Value.float b t
 | .ref a,u=>u=Value.ref a
 | .ty n,u=>u=Value.type n
abbrev zP:List V->List Value->Prop:=Paired zab
theorem zP.length{xs:List V}{us:List Value}(r:zP xs us):xs.length=us.length:=Paired.length r
theorem zP.get:∀ {xs:List V} {us:List Value} {i:Nat} {x:V},zP xs us->xs[i]?=some x->∃ u,us[i]?=some u/\zab x u
 | _,_,_,_,.nil,e=>by simp at e
 | _,_,0,_,.cons r _,e=>by simp at e; subst e; exact⟨_,rfl,r⟩
 | _,_,i+1,x,.cons _ t,e=>by
  obtain⟨u,h1,h2⟩:=zP.get (i:=i) (x:=x) t (by simpa using e);exact⟨u,by simpa using h1,h2⟩
theorem zP.set{x:V}{u:Value}(r:zab x u):∀ {xs:List V} {us:List Value} (i:Nat),zP xs us->zP (xs.set i x) (us.set i u)
 | _,_,_,.nil=>.nil
 | _,_,0,.cons _ t=>.cons r t
 | _,_,i+1,.cons q t=>.cons q (zP.set r i t)
theorem zP.append:∀ {xs ys:List V} {us ws:List Value},zP xs us->zP ys ws->zP (xs++ys) (us++ws)
 | _,_,_,_,.nil,s=>s
 | _,_,_,_,.cons r t,s=>.cons r (zP.append t s)
theorem zP.take:∀ {xs:List V} {us:List Value} (n:Nat),zP xs us->zP (xs.take n) (us.take n)
 | _,_,0,_=>.nil
 | _,_,_+1,.nil=>.nil
 | _,_,n+1,.cons r t=>.cons r (zP.take n t)
theorem zP.drop:∀ {xs:List V} {us:List Value} (n:Nat),zP xs us->zP (xs.drop n) (us.drop n)
 | _,_,0,r=>r
 | _,_,_+1,.nil=>.nil
 | _,_,n+1,.cons _ t=>zP.drop n t
def zfX:Option V->Option Value->Prop
 | some v,some u=>zab v u
 | none,none=>True
 | _,_=>False
def KV{κ:Type}:List (κ×V)->List (κ×Value)->Prop:=Paired fun(p:κ×V) (q:κ×Value)=>p.1=q.1/\zab p.2 q.2
def kV:Key->V
 | .inl i=>.int i
 | .inr x=>.str x
inductive HO where
 | lst (xs:List V)
 | tup (xs:List V)
 | dK (kvs:List (Key×V)) | dT (kvs:List (List Key×V))
 | set (S:Int->Bool) (n:Nat)
 | ins (C dx:Addr) (fs:List (Str×V))
 | own (x:Addr)
 | xd (fs:List (Str×V))
 | met (f x:Addr)
 | rng (lo hi:Int)
 | frz (o:Obj) (u:HO)
 | tbl (ps:Array Value)
 | ext (φ:Heap->Prop)
abbrev Hp:=Addr->Option HO
def upd(H:Hp)(a:Addr)(o:HO):Hp:=fun b=>if b=a then some o else H b
theorem zD{H:Hp}{a:Addr}{o:HO}:upd H a o a=some o:=by unfold upd; rw [if_pos rfl]
theorem zI{H:Hp}{a b:Addr}{o:HO}(h:b≠a):upd H a o b=H b:=by unfold upd; rw [if_neg h]
theorem zh8{H:Hp}{a:Addr}{o u:HO}:upd (upd H a o) a u=upd H a u:=by
 funext b; unfold upd; split<;>rfl
theorem zgj{H:Hp}{a b:Addr}{o u:HO}(h:H a=some o)(h':H b=some u)(d:o≠u):a≠b:=by
 intro e; subst e; rw [h]at h'; exact d (qy h')
theorem zas{H:Hp}{a b:Addr}{o:HO}(h:H a=some o)(h':H b=none):a≠b:=by
 intro e; subst e; rw [h]at h'; cases h'
def zA9(K:qe)(a:Addr)(xs:List V):Prop:=∃ (o:Obj) (its:Array Value) (n:Nat),K.lookup a=some o/\o.cls=.type "tuple"/\o.data=.seq its n/\its.size<=sizeLine/\zP xs its.toList/\∃ i r,xs=.int i::r
def TpK(K:qe)(H:Hp)(a:Addr)(xs:List V):Prop:=H a=some (.tup xs)\/zA9 K a xs
theorem TpK.keeps{K:qe}{H H':Hp}{a:Addr}{xs:List V}(h:TpK K H a xs)(ht:∀ b ys,H b=some (.tup ys)->H' b=some (.tup ys)):TpK K H' a xs:=h.imp (ht _ _) id
def zdX(h:Heap)(a:Addr)(items:Array Value):Prop:=∃ o,h.get? a=some o/\o.cls=.type "tuple"/\(∃ n,o.data=.seq items n)/\(o.dict=none\/∃ i t r,items.toList=.int i t::r)
theorem zdX.tup{h:Heap}{a:Addr}{items:Array Value}(x:zdX h a items):IsTup h a items:=let ⟨o,e,c,d,_⟩:=x; ⟨o,e,c,d⟩
theorem zdX.lt{h:Heap}{a:Addr}{items:Array Value}(x:zdX h a items):a < h.objs.size:=x.tup.lt
theorem zdX.new(h:Heap)(items:Array Value):zdX (h.push { cls:=.type "tuple",data:=.seq items }) h.objs.size items:=⟨_,qi _ rfl,rfl,⟨_,rfl⟩,.inl rfl⟩
section
variable (P:Program) (w:World) (K:qe)
def zao(H:Hp)(h:Heap)(a:Addr):HO->Prop
 | .lst xs=>xs.length<=sizeLine/\∃ (its:List Value) (n:Nat),zP xs its/\h.get? a=some { cls:=.type "list",data:=.seq its.toArray n }
 | .tup xs=>xs.length<=sizeLine/\∃ its:List Value,zP xs its/\zdX h a its.toArray
 | .dK kvs=>kvs.length<=sizeLine/\(a==sysModules)=false/\∃ vs,KV kvs vs/\h.DictOf (zaq P w) a vs
 | .dT kvs=>kvs.length<=sizeLine/\(a==sysModules)=false/\∃ xs:List (List Key×Addr×Value),
   Paired (fun(p:List Key×V) (q:List Key×Addr×Value)=>p.1=q.1/\TpK K H q.2.1 (p.1.map kV)/\zab p.2 q.2.2) kvs xs /\
   ∃ o es ep,h.get? a=some o/\o.ExactDict/\o.data=.dict es ep/\es.toList=xs.map (entryOfKey (tupleKind (zaq P w)))/\(xs.map (·.1)).Nodup
 | .set S n=>h.SetOf (intKind P w) a S n
 | .ins C dx fs=>H dx=some (.own a)/\fs.length<=1000/\dx≠a/\h.get? a=some (PySem.W.instObj C dx) /\
   ∃ mA,h.Ns1 dx mA/\(∀ f,zfX (fs.lookup f) (mA f))/\PySem.Within mA (fs.map (·.1))
 | .own _=>∃ o,h.get? a=some o
 | .xd fs=>∃ mA,h.Ns1 a mA/\∀ f,zfX (fs.lookup f) (mA f)
 | .rng lo hi=>∃ t u v,h.get? a=some { cls:=.type "range",data:=.fields #[.int lo t,.int hi u,.int 1 v] }
 | .frz o u=>h.get? a=some o/\zao H h a u
 | .tbl ps=>h.get? a=some { cls:=.none,data:=.fields ps }
 | .met f x=>h.get? a=some (PySem.W.methodObj (.ref f) (.ref x))
 | .ext φ=>φ h/\(∃ o,h.get? a=some o)/\∀ h1 h2:Heap,φ h1->(∀ o,h1.get? a=some o->h2.get? a=some o)->φ h2
def HOk(H:Hp)(h:Heap):Prop:=∀ a o,H a=some o->zao P w K H h a o
end
section
variable {P:Program} {w:World} {K:qe} {H H':Hp} {h h':Heap} {a:Addr} {o:HO}
theorem zao.lt(x:zao P w K H h a o):a < h.objs.size:=by
 cases o with
 | lst xs=>obtain⟨_,_,_,_,e⟩:=x; exact qj e
 | tup xs=>obtain⟨_,_,_,p⟩:=x; exact p.lt
 | dK kvs=>obtain⟨_,_,_,_,o,_,_,e,_⟩:=x; exact qj e
 | dT kvs=>obtain⟨_,_,_,_,o,_,_,e,_⟩:=x; exact qj e
 | set S n=>obtain⟨o,_,_,_,e,_⟩:=x; exact qj e
 | ins C dx fs=>obtain⟨_,_,_,e,_⟩:=x; exact qj e
 | own y=>obtain⟨_,e⟩:=x; exact qj e
 | xd fs=>obtain⟨_,⟨_,_,_,e,_⟩,_⟩:=x; exact qj e
 | rng lo hi=>obtain⟨_,_,_,e⟩:=x; exact qj e
 | frz ob u=>obtain⟨e,_⟩:=x; exact qj e
 | tbl ps=>exact qj (show h.get? a=some _ from x)
 | met f y=>exact qj (show h.get? a=some _ from x)
 | ext φ=>obtain⟨_,⟨_,e⟩,_⟩:=x; exact qj e
theorem Paired.mapP{α β:Type}{F G:α->β->Prop}:∀ {l₁:List α} {l₂:List β},Paired F l₁ l₂->(∀ a b,F a b->G a b)->Paired G l₁ l₂
 | _,_,.nil,_=>.nil
 | _,_,.cons r t,f=>.cons (f _ _ r) (Paired.mapP t f)
theorem zao.stay(x:zao P w K H h a o)(k:∀ b u,(b=a\/H b=some (.own a))->h.get? b=some u->h'.get? b=some u)
  (ho:∀ b,H b=some (.own a)->H' b=some (.own a)) (ht:∀ b xs,H b=some (.tup xs)->H' b=some (.tup xs)):zao P w K H' h' a o:=by
 induction o with
 | lst xs=>obtain⟨z,its,n,r,e⟩:=x; exact⟨z,its,n,r,k _ _ (.inl rfl) e⟩
 | tup xs=>obtain⟨z,its,r,ob,e,c⟩:=x; exact⟨z,its,r,ob,k _ _ (.inl rfl) e,c⟩
 | dK kvs=>obtain⟨z,y,vs,r,ob,es,ep,e,c⟩:=x; exact⟨z,y,vs,r,ob,es,ep,k _ _ (.inl rfl) e,c⟩
 | dT kvs =>
  obtain⟨z,y,xs,r,ob,es,ep,e,c⟩:=x;exact⟨z,y,xs,Paired.mapP r fun p q z=>⟨z.1,z.2.1.keeps ht,z.2.2⟩,ob,es,ep,k _ _ (.inl rfl) e,c⟩
 | set S n=>obtain⟨ob,es,ep,t,e,c⟩:=x; exact⟨ob,es,ep,t,k _ _ (.inl rfl) e,c⟩
 | ins C dx fs =>
  obtain⟨d,z,ne,e,mA,⟨od,es,ep,e2,c⟩,r⟩:=x;exact⟨ho _ d,z,ne,k _ _ (.inl rfl) e,mA,⟨od,es,ep,k _ _ (.inr d) e2,c⟩,r⟩
 | own y=>obtain⟨ob,e⟩:=x; exact⟨ob,k _ _ (.inl rfl) e⟩
 | xd fs=>obtain⟨mA,⟨od,es,ep,e,c⟩,r⟩:=x; exact⟨mA,⟨od,es,ep,k _ _ (.inl rfl) e,c⟩,r⟩
 | rng lo hi=>obtain⟨t,u,v,e⟩:=x; exact⟨t,u,v,k _ _ (.inl rfl) e⟩
 | frz ob u ih=>obtain⟨e,q⟩:=x; exact⟨k _ _ (.inl rfl) e,ih q⟩
 | tbl ps =>
  have e:h.get? a=some { cls:=.none,data:=.fields ps }:=x;show h'.get? a=some { cls:=.none,data:=.fields ps };exact k a _ (.inl rfl) e
 | met f y =>
  have e:h.get? a=some (PySem.W.methodObj (.ref f) (.ref y)):=x;show h'.get? a=some (PySem.W.methodObj (.ref f) (.ref y));exact k a _ (.inl rfl) e
 | ext φ=>obtain⟨p,⟨o,e⟩,st⟩:=x; exact⟨st _ _ p fun o q=>k _ _ (.inl rfl) q,⟨o,k _ _ (.inl rfl) e⟩,st⟩
theorem HOk.lt(x:HOk P w K H h)(e:H a=some o):a < h.objs.size:=(x a o e).lt
theorem HOk.fresh(x:HOk P w K H h)(e:h.objs.size<=a):H a=none:=by
 cases q:H a with
 | none=>rfl
 | some u=>exact absurd (qk (x.lt q) e) (Nat.lt_irrefl _)
theorem HOk.kept(x:HOk P w K H h)(k:∀ b u,h.get? b=some u->h'.get? b=some u):HOk P w K H h':=fun a o e =>
 (x a o e).stay (fun b u _ q=>k b u q) (fun _ q=>q) fun _ _ q=>q
theorem HOk.laid(x:HOk P w K H h)(k:∀ b u,h.get? b=some u->h'.get? b=some u)(hp:h.objs.size<=a)(new:zao P w K (upd H a o) h' a o):HOk P w K (upd H a o) h':=fun b u e=>by
 have hn:=x.fresh hp
 by_cases hb:b=a
 ·subst hb; rw [zD]at e; cases e; exact new
 ·rw [zI hb]at e
  exact(x b u e).stay (fun c v _ q=>k c v q) (fun c q=>by rw [zI (zas q hn)]; exact q) fun c xs q=>by rw [zI (zas q hn)]; exact q
end
def Rd(H:Hp)(a:Addr)(u:HO):Prop:=H a=some u\/∃ o,H a=some (.frz o u)
theorem Rd.ok{P:Program}{w:World}{K:qe}{H:Hp}{h:Heap}{a:Addr}{u:HO}(r:Rd H a u)(x:HOk P w K H h):zao P w K H h a u:=by
 rcases r with r | ⟨o,r⟩
 ·exact x a u r
 ·obtain⟨_,q⟩:=x a _ r
  exact q
def Mut:Option HO->Prop
 | some (.lst _)=>True
 | some (.dK _)=>True
 | some (.dT _)=>True
 | some (.set _ _)=>True
 | some (.ins _ _ _)=>True
 | some (.ext _)=>True
 | _=>False
section
variable {P:Program} {w:World} {K:qe} {H:Hp} {h h':Heap} {x e:Addr} {o':HO}
theorem HOk.write(ok:HOk P w K H h)(mu:Mut (H x))(he:e=x\/H e=some (.own x))(k:∀ b u,b≠e->h.get? b=some u->h'.get? b=some u)(heo:∃ u,h'.get? e=some u)
  (new:zao P w K (upd H x o') h' x o'):HOk P w K (upd H x o') h':=fun b u q=>by
 have nown:∀ c y,H c=some (.own y)->c≠x:=fun c y r z=>by subst z; rw [r]at mu; exact mu
 have ntup:∀ c xs,H c=some (.tup xs)->c≠x:=fun c xs r z=>by subst z; rw [r]at mu; exact mu
 by_cases hb:b=x
 ·subst hb; rw [zD]at q; cases q; exact new
 ·rw [zI hb]at q
  by_cases hbe:b=e
  ·have q':H b=some (.own x):=by
    rcases he with z | z
    ·exact absurd (hbe.trans z) hb
    ·rw [hbe]; exact z
   rw [q]at q'; cases q';obtain⟨v,hv⟩:=heo;exact⟨v,by rw [hbe]; exact hv⟩
  ·refine(ok b u q).stay (fun c v hc r=>k c v ?_ r) (fun c r=>by rw [zI (nown c b r)]; exact r) fun c xs r=>by rw [zI (ntup c xs r)]; exact r
   rcases hc with rfl | hc
   ·exact hbe
   ·rintro rfl
    rcases he with z | z
    ·exact nown c b hc z
    ·rw [hc]at z; cases z; exact hb rfl
end
structure Un (fs ex:List Addr) (H H':Hp) (h h':Heap):Prop where
 keep:∀ b o,h.get? b=some o->H b=none->b∉fs->b∉ex->h'.get? b=some o
 slot:∀ b o,h.get? b=some o->H b=none->b∈fs->b∉ex->∃ sl,h'.get? b=some { o with slots:=sl }
 free:∀ b o,h.get? b=some o->H b=none->b∉ex->H' b=none
 there:∀ b o,h.get? b=some o->b∉ex->∃ o',h'.get? b=some o'
 tups:∀ b xs,H b=some (.tup xs)->H' b=some (.tup xs)
 frzs:∀ b o u,H b=some (.frz o u)->H' b=some (.frz o u)
 tbls:∀ b ps,H b=some (.tbl ps)->∃ more,H' b=some (.tbl (ps++more))
section
variable {fs fs' ex ex':List Addr} {H H1 H2:Hp} {h h1 h2 h':Heap} {a x e:Addr} {o:HO}
theorem Un.any(u:Un fs ex H H1 h h1){b:Addr}{ob:Obj}(q:h.get? b=some ob)(n:H b=none)(hx:b∉ex):∃ sl,h1.get? b=some { ob with slots:=sl }:=by
 by_cases hb:b∈fs
 ·exact u.slot b ob q n hb hx
 ·exact⟨ob.slots,u.keep b ob q n hb hx⟩
theorem Un.kept(k:∀ b u,h.get? b=some u->h'.get? b=some u):Un fs ex H H h h' :=
 ⟨fun b ob q _ _ _=>k b ob q,fun b ob q _ _ _=>⟨ob.slots,k b ob q⟩,fun _ _ _ n _=>n,fun b ob q _=>⟨ob,k b ob q⟩,fun _ _ q=>q,fun _ _ _ q=>q,fun _ ps q=>⟨#[],by rw [q]; simp⟩⟩
theorem Un.refl:Un fs ex H H h h:=Un.kept fun _ _ q=>q
theorem Un.laid(k:∀ b u,h.get? b=some u->h'.get? b=some u)(hp:h.objs.size<=a)(hn:H a=none):Un fs ex H (upd H a o) h h' where
 keep:=fun b u q _ _ _=>k b u q
 slot:=fun b u q _ _ _=>⟨u.slots,k b u q⟩
 free:=fun b u q n _=>by rw [zI (ql (qk (qj q) hp))]; exact n
 there:=fun b u q _=>⟨u,k b u q⟩
 tups:=fun b xs q=>by rw [zI (zas q hn)]; exact q
 frzs:=fun b u xs q=>by rw [zI (zas q hn)]; exact q
 tbls:=fun b ps q=>⟨#[],by rw [zI (zas q hn),q]; simp⟩
theorem Un.write(mu:Mut (H x))(he:e=x\/H e=some (.own x))(k:∀ b u,b≠e->h.get? b=some u->h'.get? b=some u)(heo:∃ u,h'.get? e=some u):Un fs ex H (upd H x o) h h':=by
 have hx:∀ b,H b=none->b≠x:=fun b n z=>by subst z; rw [n]at mu; exact mu
 have hb:∀ b,H b=none->b≠e:=fun b n z=>by
  subst z;rcases he with r | r
  ·exact hx b n r
  ·rw [n]at r; cases r
 have hm:∀ b u,H b=some u->¬Mut (some u)->b≠x:=fun b u q nm z=>by subst z; rw [q]at mu; exact nm mu
 refine⟨fun b u q n _ _=>k b u (hb b n) q,fun b u q n _ _=>⟨u.slots,k b u (hb b n) q⟩,fun b u q n _=>by rw [zI (hx b n)]; exact n,fun b u q _=>?_,
  fun b xs q=>by rw [zI (hm b _ q fun z=>z)]; exact q,fun b u xs q=>by rw [zI (hm b _ q fun z=>z)]; exact q,fun b ps q=>⟨#[],by rw [zI (hm b _ q fun z=>z),q]; simp⟩⟩
 by_cases hbe:b=e
 ·subst hbe; exact heo
 ·exact⟨u,k b u hbe q⟩
end
def trk(h:Heap)(H:Hp):List Addr:=(List.range h.objs.size).filter fun a=>(H a).isSome
def zkL(h:Heap)(H:Hp):Heap:=PySem.W.hideAll h (trk h H)
theorem zp5(h:Heap)(H:Hp):(zkL h H).objs.size=h.objs.size:=PySem.W.hideAll_size _ _
theorem zqW{h:Heap}{H:Hp}{b:Addr}{o:Obj}(e:h.get? b=some o)(n:H b=none):(zkL h H).get? b=some o :=
 PySem.W.hideAll_get _ e fun hm=>by
  have q:(H b).isSome=true:=(List.mem_filter.mp hm).2;rw [n]at q; simp at q
theorem zuq{h:Heap}{H:Hp}{b:Addr}{o:Obj}(e:(zkL h H).get? b=some o):h.get? b=some o/\H b=none:=by
 have e':h.get? b=some o:=PySem.W.of_hideAll (trk h H) e;refine⟨e',?_⟩;cases q:H b with
 | none=>rfl
 | some x =>
  have hm:b∈trk h H:=List.mem_filter.mpr ⟨List.mem_range.mpr (qj e'),by simp [q]⟩;have z:(zkL h H).get? b=none:=PySem.W.hideAll_none (trk h H) hm;rw [z]at e; cases e
def zur(g h:Heap)(L:Addr):List (Addr×Obj):=(List.range h.objs.size).filterMap fun a=>if a=L\/(g.get? a).isSome=true then none else(h.get? a).map fun o=>(a,o)
def zcy(g h:Heap)(L d:Addr):List (Addr×Obj):=(zur g h L).filter fun p=>decide (p.1≠d)
structure Mod (K:qe) (mg:Str->Option Value) (base:Heap):Prop where
 kin:K.In base
 glob:base.Ns mainGlobals mg
 blt:∃ mb,base.Ns builtinsNs mb/\∀ x:Str,x ≠ "__name__"->mb x=bootBuiltins x
 nolimit:base.NoLimit
structure Cx where
 prog:Program
 w:World
 K:qe
 mg:Str->Option Value
 base:Heap
 A:Around
 N:List Str
 s₀:Shared
 H₀:Hp
 env:Env
 outer:List Env
 stack:List Env
 ex:List Addr
 fn:Str->Bool
 calm:Bool
 pn:List (Addr×Obj)
 xe:Value->Shared->Prop
def frs(l:List Env):List Addr:=l.filterMap (·.frame)
abbrev Cx.fs(X:Cx):List Addr:=frs X.outer
def Vis(sc:Scope)(x:Str):Prop:=sc.names.lookup x=some .local\/sc.names.lookup x=some .cell\/sc.names.lookup x=some .free
def Loc(sc:Scope)(x:Str):Prop:=sc.names.lookup x=some .local\/sc.names.lookup x=some .cell
def zBa(env:Env)(h:Heap)(m:Str->Option Value)(x:Str)(u:Value):Prop :=
 (env.kindOf x=some .local/\m x=some u)\/((env.kindOf x=some .cell\/env.kindOf x=some .free)/\∃ c,env.cells.lookup x=some c/\h.IsCell c (some u))
structure Cx.Ok (X:Cx):Prop where
 mod:Mod X.K X.mg X.base
 kind:X.env.scope.kind=.function
 glob:X.env.globals=mainGlobals
 blt:X.env.builtins=builtinsNs
 above:X.s₀.heap.objs.size<=X.env.locals
 inj:∀ x y c,X.env.cells.lookup x=some c->X.env.cells.lookup y=some c->x=y
 has:∀ x,(X.env.kindOf x=some .cell\/X.env.kindOf x=some .free)->∃ c,X.env.cells.lookup x=some c
 cab:∀ x c,X.fn x=true->X.env.cells.lookup x=some c->X.s₀.heap.objs.size<=c
 hd:X.calm=true->X.A.handled=none
 frames:X.A.frames=some X.stack
 stk:X.stack=X.outer\/(X.stack=X.env::X.outer/\X.env.frame=some X.env.locals)
 exf:∀ b∈X.ex,b≠X.env.locals/\∀ x c,X.env.cells.lookup x=some c->c≠b
 bs:∀ b o,X.base.get? b=some o->X.s₀.heap.get? b=some o/\X.H₀ b=none
 bsz:X.base.objs.size<=X.s₀.heap.objs.size
 noex:∀ b o,X.base.get? b=some o->b∉X.ex
 exfs:∀ b∈X.ex,b∉X.fs
 funs:X.s₀.heap.FunFrames X.base X.outer
 frf:∀ b∈X.fs,X.H₀ b=none
structure Inv (X:Cx) (pins:List (Addr×Obj)) (σ:List (Option V)) (H:Hp) (s:Shared):Prop where
 ok:X.Ok
 os:s.os=X.s₀.os
 bare:AllBare s.gens
 base:Un X.fs X.ex X.H₀ H X.s₀.heap s.heap
 loc:∃ m,s.heap.Ns X.env.locals m/\∀ (i:Nat) (x:Str) (v:V),X.N[i]?=some x->σ[i]?=some (some v)->Vis X.env.scope x->∃ u,zab v u/\zBa X.env s.heap m x u
 cell:∀ x c,X.env.cells.lookup x=some c->∃ v,s.heap.IsCell c v
 free:H X.env.locals=none
 freeC:∀ x c,X.env.cells.lookup x=some c->H c=none
 pin:∀ p∈X.pn++pins,s.heap.get? p.1=some p.2/\H p.1=none/\p.1≠X.env.locals/\p.1∉X.fs/\∀ v,p.2.data≠.cell v
 hok:HOk X.prog X.w X.K H s.heap
 len:σ.length=X.N.length
section
variable {X:Cx} {pins:List (Addr×Obj)} {σ:List (Option V)} {H H':Hp} {s:Shared} {h':Heap}
theorem Cx.Ok.nofr(ok:X.Ok){b:Addr}{o:Obj}(e:X.base.get? b=some o):b∉X.fs:=fun hb=>by
 have:=(ok.funs.mem hb).1;rw [e]at this; cases this
theorem Inv.bs(I:Inv X pins σ H s):∀ b o,X.base.get? b=some o->s.heap.get? b=some o/\H b=none:=fun b o e =>
 ⟨I.base.keep b o (I.ok.bs b o e).1 (I.ok.bs b o e).2 (I.ok.nofr e) (I.ok.noex b o e),I.base.free b o (I.ok.bs b o e).1 (I.ok.bs b o e).2 (I.ok.noex b o e)⟩
theorem Inv.bk(I:Inv X pins σ H s):∀ b o,X.base.get? b=some o->s.heap.get? b=some o:=fun b o e=>(I.bs b o e).1
theorem Inv.mod(I:Inv X pins σ H s):Mod X.K X.mg X.base:=I.ok.mod
theorem Inv.kIn(I:Inv X pins σ H s):X.K.In s.heap:=I.ok.mod.kin.keeps I.bk
theorem Inv.nolimit(I:Inv X pins σ H s):s.heap.NoLimit:=I.ok.mod.nolimit.keeps I.bk
theorem Inv.fr(I:Inv X pins σ H s):∃ m,Fr X.base X.env.locals s.heap m :=
 let ⟨m,hn,_⟩:=I.loc
 ⟨m,hn,I.bk,qA I.ok.bsz I.ok.above⟩
theorem Inv.lt(I:Inv X pins σ H s):X.env.locals < s.heap.objs.size:=let ⟨_,hn,_⟩:=I.loc; hn.lt
theorem Inv.sz(I:Inv X pins σ H s):X.s₀.heap.objs.size<=s.heap.objs.size:=qA I.ok.above (Nat.le_of_lt I.lt)
theorem Inv.nofs(I:Inv X pins σ H s){a:Addr}(h:s.heap.objs.size<=a):a∉X.fs:=fun hb=>by
 obtain⟨_,o,ho,_⟩:=I.ok.funs.mem hb;exact absurd (qk (qj ho) (qA I.sz h)) (Nat.lt_irrefl _)
theorem Inv.cne(I:Inv X pins σ H s):∀ x c,X.env.cells.lookup x=some c->c≠X.env.locals:=fun x c e z=>by
 obtain⟨v,o,ho,hd⟩:=I.cell x c e;obtain⟨m,⟨o',es,ep,ho',hd',_⟩,_⟩:=I.loc;rw [z,ho']at ho; cases ho; rw [hd']at hd; cases hd
theorem Inv.funs(I:Inv X pins σ H s):s.heap.FunFrames X.base X.outer:=by
 have all:∀ (l:List Env),(∀ b∈frs l,b∈X.fs)->X.s₀.heap.FunFrames X.base l->s.heap.FunFrames X.base l:=by
  intro l
  induction l with
  | nil=>intro _ _; trivial
  | cons env r ih =>
   intro hs hl;obtain⟨hk,⟨L,o,hf,hn,ho,hd⟩,hr⟩:=hl;have hL:L∈X.fs:=hs L (by unfold frs; rw [List.filterMap_cons,hf]; exact qq);obtain⟨sl,e⟩:=I.base.slot L o ho (I.ok.frf L hL) hL fun z=>I.ok.exfs L z hL;exact⟨hk,⟨L,_,hf,hn,e,hd⟩,ih (fun b hb=>hs b (by unfold frs; rw [List.filterMap_cons,hf]; exact qp _ hb)) hr⟩
 exact all X.outer (fun _ hb=>hb) I.ok.funs
theorem Inv.stack(I:Inv X pins σ H s):s.heap.FunFrames X.base X.stack:=by
 rcases I.ok.stk with e | ⟨e,hf⟩
 ·rw [e]; exact I.funs
 ·rw [e]
  obtain⟨m,hn,_⟩:=I.loc;refine .cons (by rw [I.ok.kind]; decide) hf hn ?_ I.funs;exact Heap.get?_none_of_le (qA I.ok.bsz I.ok.above)
theorem Inv.stkSub(I:Inv X pins σ H s):∀ b∈frs X.stack,b∈X.env.locals::X.fs:=fun b hb=>by
 rcases I.ok.stk with e | ⟨e,hf⟩
 ·rw [e]at hb; exact qp _ hb
 ·rw [e]at hb
  unfold frs at hb;rw [List.filterMap_cons,hf]at hb;exact hb
theorem Inv.stkFree(I:Inv X pins σ H s):∀ b∈frs X.stack,H b=none:=fun b hb=>by
 rcases qw.mp (I.stkSub b hb)with e | hb
 ·rw [e]; exact I.free
 ·obtain⟨_,o,ho,_⟩:=I.ok.funs.mem hb
  exact I.base.free b o ho (I.ok.frf b hb) fun z=>I.ok.exfs b z hb
theorem Inv.step{g':Array GenState}{t':Nat}{d':Drawn}{ch:List Addr}(I:Inv X pins σ H s)
  (hch:∀ b∈ch,(b∈X.ex\/X.s₀.heap.objs.size<=b)/\b≠X.env.locals/\(∀ x c,X.env.cells.lookup x=some c->c≠b)/\∀ p∈X.pn++pins,p.1≠b)
  (keep:∀ b o,b≠X.env.locals->b∉X.fs->b∉ch->s.heap.get? b=some o->H b=none->h'.get? b=some o)
  (slot:∀ b o,b≠X.env.locals->b∈X.fs->b∉ch->s.heap.get? b=some o->H b=none->∃ sl,h'.get? b=some { o with slots:=sl }) (free:∀ b o,b∉ch->s.heap.get? b=some o->H b=none->H' b=none)
  (there:∀ b o,b∉ch->s.heap.get? b=some o->∃ o',h'.get? b=some o')
  (tups:∀ b xs,H b=some (.tup xs)->H' b=some (.tup xs)) (frzs:∀ b o u,H b=some (.frz o u)->H' b=some (.frz o u)) (tbls:∀ b ps,H b=some (.tbl ps)->∃ more,H' b=some (.tbl (ps++more)))
  (ns:∀ m,s.heap.Ns X.env.locals m->h'.Ns X.env.locals m) (hok:HOk X.prog X.w X.K H' h') (hg:AllBare g') :
  Inv X pins σ H' { s with heap:=h',gens:=g',drawn:=d',toks:=t' }:=by
 have neL:∀ b o,X.s₀.heap.get? b=some o->b≠X.env.locals:=fun b o e=>ql (qk (qj e) I.ok.above);have neC:∀ b o,X.s₀.heap.get? b=some o->b∉X.ex->b∉ch:=fun b o e hx hb=>by
  rcases(hch b hb).1 with z | z
  ·exact hx z
  ·exact absurd (qk (qj e) z) (Nat.lt_irrefl _)
 have cellK:∀ x c,X.env.cells.lookup x=some c->∀ v,s.heap.IsCell c v->h'.IsCell c v:=fun x c e v ⟨o,ho,hd⟩=>by
  have nch:c∉ch:=fun z=>(hch c z).2.2.1 x c e rfl
  by_cases hc:c∈X.fs
  ·obtain⟨sl,q⟩:=slot c o (I.cne x c e) hc nch ho (I.freeC x c e)
   exact⟨_,q,hd⟩
  ·exact⟨o,keep c o (I.cne x c e) hc nch ho (I.freeC x c e),hd⟩
 refine⟨I.ok,I.os,hg,⟨fun b o e n hb hx=>?_,fun b o e n hb hx=>?_,fun b o e n hx=>?_,fun b o e hx=>?_,fun b xs e=>tups b xs (I.base.tups b xs e),fun b o xs e=>frzs b o xs (I.base.frzs b o xs e),fun b ps e=>?_⟩,?_,fun x c e=>?_,?_,fun x c e=>?_,fun p hp=>?_,hok,I.len⟩
 ·exact keep b o (neL b o e) hb (neC b o e hx) (I.base.keep b o e n hb hx) (I.base.free b o e n hx)
 ·obtain⟨sl,e1⟩:=I.base.slot b o e n hb hx
  obtain⟨sl',e2⟩:=slot b _ (neL b o e) hb (neC b o e hx) e1 (I.base.free b o e n hx);exact⟨sl',e2⟩
 ·obtain⟨o',e1⟩:=I.base.there b o e hx
  exact free b o' (neC b o e hx) e1 (I.base.free b o e n hx)
 ·obtain⟨o',e1⟩:=I.base.there b o e hx
  exact there b o' (neC b o e hx) e1
 ·obtain⟨m1,e1⟩:=I.base.tbls b ps e
  obtain⟨m2,e2⟩:=tbls b _ e1;exact⟨m1++m2,by rw [e2,Array.append_assoc]⟩
 ·obtain⟨m,hn,hl⟩:=I.loc
  refine⟨m,ns m hn,fun i x v e1 e2 e3=>?_⟩;obtain⟨u,r,l⟩:=hl i x v e1 e2 e3;refine⟨u,r,?_⟩;rcases l with l | ⟨k,c,e,z⟩
  ·exact .inl l
  ·exact .inr ⟨k,c,e,cellK x c e _ z⟩
 ·obtain⟨v,z⟩:=I.cell x c e
  exact⟨v,cellK x c e v z⟩
 ·obtain⟨m,⟨o,_,_,ho,_⟩,_⟩:=I.loc
  exact free _ o (fun z=>(hch _ z).2.1 rfl) ho I.free
 ·obtain⟨v,o,ho,hd⟩:=I.cell x c e
  exact free c o (fun z=>(hch c z).2.2.1 x c e rfl) ho (I.freeC x c e)
 ·obtain⟨e,n,ne,nf,d⟩:=I.pin p hp
  have nch:p.1∉ch:=fun z=>(hch p.1 z).2.2.2 p hp rfl;exact⟨keep p.1 p.2 ne nf nch e n,free p.1 p.2 nch e n,ne,nf,d⟩
theorem Inv.un{t':Nat}(I:Inv X pins σ H s)(u:Un X.fs [] H H' s.heap h')(hok:HOk X.prog X.w X.K H' h'):Inv X pins σ H' { s with heap:=h',toks:=t' }:=by
 obtain⟨m,⟨o,es,ep,ho,r⟩,_⟩:=id I.loc;obtain⟨sl,hL⟩:=u.any ho I.free (by simp);exact I.step (g':=s.gens) (d':=s.drawn) (ch:=[]) (fun _ z=>nomatch z) (fun b o _ hb _ e n=>u.keep b o e n hb (by simp)) (fun b o _ hb _ e n=>u.slot b o e n hb (by simp)) (fun b o _ e n=>u.free b o e n (by simp)) (fun b o _ e=>u.there b o e (by simp)) u.tups u.frzs u.tbls (fun m' hm=>by
  obtain⟨o',es',ep',ho',r'⟩:=hm;rw [ho]at ho'; cases ho';exact⟨_,es',ep',hL,r'⟩) hok I.bare
theorem Inv.call{g':Array GenState}{t':Nat}{d':Drawn}{ch:List Addr}(I:Inv X pins σ H s)(u:Un (frs X.stack) ch H H' s.heap h')(hok:HOk X.prog X.w X.K H' h')(hg:AllBare g')
  (hch:∀ b∈ch,(b∈X.ex\/X.s₀.heap.objs.size<=b)/\b≠X.env.locals/\(∀ x c,X.env.cells.lookup x=some c->c≠b)/\∀ p∈X.pn++pins,p.1≠b) :
  Inv X pins σ H' { s with heap:=h',gens:=g',drawn:=d',toks:=t' }:=by
 obtain⟨m,⟨o,es,ep,ho,r⟩,_⟩:=id I.loc;obtain⟨sl,hL⟩:=u.any ho I.free fun z=>(hch _ z).2.1 rfl;exact I.step (ch:=ch) hch (fun b o hL hb hc e n=>u.keep b o e n (fun z=>(qw.mp (I.stkSub b z)).elim hL hb) hc) (fun b o _ _ hc e n=>u.any e n hc) (fun b o hc e n=>u.free b o e n hc) (fun b o hc e=>u.there b o e hc) u.tups u.frzs u.tbls (fun m' hm=>by
  obtain⟨o',es',ep',ho',r'⟩:=hm;rw [ho]at ho'; cases ho';exact⟨_,es',ep',hL,r'⟩) hok hg
theorem Inv.turned{t':Nat}{it:Addr}(I:Inv X pins σ H s)(k:∀ b o,b≠it->s.heap.get? b=some o->h'.get? b=some o)(hn:H it=none)(hL:it≠X.env.locals)
  (h1:it∈X.ex\/X.s₀.heap.objs.size<=it) (h2:∀ x c,X.env.cells.lookup x=some c->c≠it) (h3:∀ p∈X.pn++pins,p.1≠it):Inv X pins σ H { s with heap:=h',toks:=t' }:=by
 have nit:∀ b u,H b=some u->b≠it:=fun b u e z=>by rw [z,hn]at e; cases e
 refine I.step (g':=s.gens) (d':=s.drawn) (ch:=[it]) (fun b hb=>?_) (fun b o _ _ hc e _=>k b o (fun z=>hc (by simp [z])) e) (fun b o _ _ hc e _=>⟨o.slots,k b o (fun z=>hc (by simp [z])) e⟩) (fun _ _ _ _ n=>n)
  (fun b o hc e=>⟨o,k b o (fun z=>hc (by simp [z])) e⟩) (fun _ _ e=>e) (fun _ _ _ e=>e) (fun b ps e=>⟨#[],by rw [e]; simp⟩) (fun m hm=>?_) (fun b u e=>?_) I.bare
 ·have e:b=it:=by simpa using hb
  subst e;exact⟨h1,hL,h2,h3⟩
 ·obtain⟨o,es,ep,ho,r⟩:=hm
  exact⟨o,es,ep,k _ o (Ne.symm hL) ho,r⟩
 ·refine(I.hok b u e).stay (fun c v hc q=>k c v ?_ q) (fun _ q=>q) fun _ _ q=>q
  rcases hc with z | z
  ·rw [z]; exact nit b u e
  ·exact nit c _ z
theorem Inv.tok(I:Inv X pins σ H s)(t:Nat):Inv X pins σ H { s with toks:=t }:=I.un (h':=s.heap) (t':=t) Un.refl I.hok
theorem Inv.kept{t':Nat}(I:Inv X pins σ H s)(k:∀ b u,s.heap.get? b=some u->h'.get? b=some u):Inv X pins σ H { s with heap:=h',toks:=t' }:=I.un (Un.kept k) (I.hok.kept k)
theorem Inv.laid{a:Addr}{o:HO}{t':Nat}(I:Inv X pins σ H s)(k:∀ b u,s.heap.get? b=some u->h'.get? b=some u)(hp:s.heap.objs.size<=a)(new:zao X.prog X.w X.K (upd H a o) h' a o) :
  Inv X pins σ (upd H a o) { s with heap:=h',toks:=t' }:=I.un (Un.laid k hp (I.hok.fresh hp)) (I.hok.laid k hp new)
theorem Inv.write{x e:Addr}{o:HO}{t':Nat}(I:Inv X pins σ H s)(mu:Mut (H x))(he:e=x\/H e=some (.own x))(k:∀ b u,b≠e->s.heap.get? b=some u->h'.get? b=some u)(heo:∃ u,h'.get? e=some u)
  (new:zao X.prog X.w X.K (upd H x o) h' x o):Inv X pins σ (upd H x o) { s with heap:=h',toks:=t' }:=I.un (Un.write mu he k heo) (I.hok.write mu he k heo new)
theorem Inv.weak{σ':List (Option V)}(I:Inv X pins σ H s)(hl:σ'.length=σ.length)(w:∀ (i:Nat) v,σ'[i]?=some (some v)->σ[i]?=some (some v)):Inv X pins σ' H s :=
 ⟨I.ok,I.os,I.bare,I.base,let ⟨m,hn,hl'⟩:=I.loc; ⟨m,hn,fun i x v e1 e2 e3=>hl' i x v e1 (w i v e2) e3⟩,I.cell,I.free,I.freeC,I.pin,I.hok,hl.trans I.len⟩
theorem Inv.pins_of{pins':List (Addr×Obj)}(I:Inv X pins σ H s)(h:∀ p∈pins',s.heap.get? p.1=some p.2/\H p.1=none/\p.1≠X.env.locals/\p.1∉X.fs/\∀ v,p.2.data≠.cell v):Inv X pins' σ H s :=
 ⟨I.ok,I.os,I.bare,I.base,I.loc,I.cell,I.free,I.freeC,fun p hp=>(List.mem_append.mp hp).elim (fun z=>I.pin p (List.mem_append_left _ z)) (h p),I.hok,I.len⟩
theorem zlT{N:List Str}(hN:N.Nodup){i j:Nat}{x:Str}(a:N[i]?=some x)(b:N[j]?=some x):i=j:=by
 obtain⟨h1,e1⟩:=qm.mp a;obtain⟨h2,e2⟩:=qm.mp b;exact(List.getElem_inj hN).mp (e1.trans e2.symm)
theorem zg0{M:Model}{A:Around}{E:Value->Shared->Prop}{i:Nat}{x:Str}{v:V}{u:Value}{Q:Unit->Shared->Prop}(I:Inv X pins σ H s)(hN:X.N.Nodup)(hi:X.N[i]?=some x)(hx:Loc X.env.scope x)(r:zab v u)
  (h:∀ s',Inv X pins (σ.set i (some v)) H s'->(∃ a,Heap.SameBut a s.heap s'.heap/\(a=X.env.locals\/X.env.cells.lookup x=some a))->Q () s') (hf:X.fn x=true\/X.env.scope.names.lookup x=some .local:=by first | exact .inl rfl | exact .inr rfl | assumption):wpAny M A (storeName X.env x u) Q E s:=by
 obtain⟨m,hn,hl⟩:=id I.loc;have hcls:(X.env.scope.kind==.class || (X.env.scope.kind==.module && X.env.locals != X.env.globals))=false:=by rw [I.ok.kind]; rfl
 have hiσ:i < σ.length:=by rw [I.len]; exact(qm.mp hi).1
 have cne:=I.cne;have tracked:∀ {a:Addr} {h':Heap},(∃ o,s.heap.get? a=some o/\H a=none)->Heap.SameBut a s.heap h'->HOk X.prog X.w X.K H h':=fun{a h'} ha hs b ob e=>by
  obtain⟨_,_,hfree⟩:=ha;refine(I.hok b ob e).stay (fun c w' hc q=>(hs.2 c ?_).trans q) (fun _ q=>q) fun _ _ q=>q;rintro rfl;rcases hc with rfl | hc
  ·rw [hfree]at e; cases e
  ·rw [hfree]at hc; cases hc
 rcases hx with hk | hk
 ·refine wpAny_storeName_local hk hn (fun h' hn' hs=>?_) hcls
  obtain⟨oL,_,_,hoL,_⟩:=id hn;refine h _ ⟨I.ok,I.os,I.bare,⟨fun b o e n hb hx=>?_,fun b o e n hb hx=>?_,I.base.free,fun b o e hx=>?_,I.base.tups,I.base.frzs,I.base.tbls⟩,⟨_,hn',fun j y v' e1 e2 e3=>?_⟩,fun y c e=>?_,I.free,I.freeC,fun p hp=>?_,tracked ⟨oL,hoL,I.free⟩ hs,by simpa using I.len⟩ ⟨_,hs,.inl rfl⟩
  ·exact(hs.2 b (ql (qk (qj e) I.ok.above))).trans (I.base.keep b o e n hb hx)
  ·obtain⟨sl,e1⟩:=I.base.slot b o e n hb hx
   exact⟨sl,(hs.2 b (ql (qk (qj e) I.ok.above))).trans e1⟩
  ·obtain⟨o',e1⟩:=I.base.there b o e hx
   exact⟨o',(hs.2 b (ql (qk (qj e) I.ok.above))).trans e1⟩
  ·by_cases hj:j=i
   ·subst hj
    rw [hi]at e1; cases e1;rw [List.getElem?_set_self hiσ]at e2;cases e2;exact⟨u,r,.inl ⟨hk,by simp⟩⟩
   ·rw [qD (Ne.symm hj)]at e2
    obtain⟨u',r',q⟩:=hl j y v' e1 e2 e3;refine⟨u',r',?_⟩;rcases q with ⟨k,e⟩ | ⟨k,c,e,z⟩
    ·refine .inl ⟨k,?_⟩
     have:y≠x:=fun e=>hj (zlT hN e1 (e▸hi));simp [this,e]
    ·exact .inr ⟨k,c,e,z.sameBut hs (cne y c e)⟩
  ·obtain⟨w',z⟩:=I.cell y c e
   exact⟨w',z.sameBut hs (cne y c e)⟩
  ·obtain⟨e,n,ne,nf,d⟩:=I.pin p hp
   exact⟨(hs.2 p.1 ne).trans e,n,ne,nf,d⟩
 ·have hfn:X.fn x=true:=by
   rcases hf with z | z
   ·exact z
   ·rw [z]at hk; cases hk
  obtain⟨c,hc⟩:=I.ok.has x (.inl hk);obtain⟨w',z⟩:=I.cell x c hc;refine wpAny_storeName_cell I.ok.kind hk hc z (fun h' hc' hs=>?_);obtain⟨oc,hoc,hocd⟩:=id z;refine h { s with heap:=h' } ⟨I.ok,I.os,I.bare,⟨fun b o e n hb hx=>?_,fun b o e n hb hx=>?_,I.base.free,fun b o e hx=>?_,I.base.tups,I.base.frzs,I.base.tbls⟩,⟨m,hn.sameBut hs (Ne.symm (cne x c hc)),fun j y v' e1 e2 e3=>?_⟩,fun y c' e=>?_,I.free,I.freeC,fun p hp=>?_,tracked ⟨oc,hoc,I.freeC x c hc⟩ hs,by simpa using I.len⟩ ⟨c,hs,.inr hc⟩
  ·exact(hs.2 b (ql (qk (qj e) (I.ok.cab x c hfn hc)))).trans (I.base.keep b o e n hb hx)
  ·obtain⟨sl,e1⟩:=I.base.slot b o e n hb hx
   exact⟨sl,(hs.2 b (ql (qk (qj e) (I.ok.cab x c hfn hc)))).trans e1⟩
  ·obtain⟨o',e1⟩:=I.base.there b o e hx
   exact⟨o',(hs.2 b (ql (qk (qj e) (I.ok.cab x c hfn hc)))).trans e1⟩
  ·by_cases hj:j=i
   ·subst hj
    rw [hi]at e1; cases e1;rw [List.getElem?_set_self hiσ]at e2;cases e2;exact⟨u,r,.inr ⟨.inl hk,c,hc,hc'⟩⟩
   ·rw [qD (Ne.symm hj)]at e2
    obtain⟨u',r',q⟩:=hl j y v' e1 e2 e3;refine⟨u',r',?_⟩;rcases q with q | ⟨k,c',e,z'⟩
    ·exact .inl q
    ·refine .inr ⟨k,c',e,z'.sameBut hs ?_⟩
     rintro rfl;exact hj (zlT hN e1 (I.ok.inj _ _ _ e hc▸hi))
  ·by_cases hcc:c'=c
   ·subst hcc; exact⟨_,hc'⟩
   ·obtain⟨w2,z2⟩:=I.cell y c' e
    exact⟨w2,z2.sameBut hs hcc⟩
  ·obtain⟨e,n,ne,nf,d⟩:=I.pin p hp
   refine⟨(hs.2 p.1 ?_).trans e,n,ne,nf,d⟩;intro q;rw [q,hoc]at e;have q':oc=p.2:=qy e;exact d w' (by rw [<-q']; exact hocd)
theorem zgk{M:Model}{A:Around}{E:Value->Shared->Prop}{i:Nat}{x:Str}{v:V}{u:Value}{Q:Unit->Shared->Prop}(I:Inv X pins σ H s)(hN:X.N.Nodup)(hi:X.N[i]?=some x)(hx:Loc X.env.scope x)(r:zab v u)
  (h:∀ s',Inv X pins (σ.set i (some v)) H s'->Q () s') (hf:X.fn x=true\/X.env.scope.names.lookup x=some .local:=by first | exact .inl rfl | exact .inr rfl | assumption):wpAny M A (storeName X.env x u) Q E s :=
 zg0 I hN hi hx r (fun s' I' _=>h s' I') hf
theorem Inv.call'{s':Shared}{ch:List Addr}(I:Inv X pins σ H s)(ho:s'.os=s.os)(u:Un (frs X.stack) ch H H' s.heap s'.heap)(hok:HOk X.prog X.w X.K H' s'.heap)(hg:AllBare s'.gens)
  (hch:∀ b∈ch,(b∈X.ex\/X.s₀.heap.objs.size<=b)/\b≠X.env.locals/\(∀ x c,X.env.cells.lookup x=some c->c≠b)/\∀ p∈X.pn++pins,p.1≠b):Inv X pins σ H' s':=by
 obtain⟨h',g',d',t',o'⟩:=s';have e:o'=s.os:=ho;subst e;exact I.call (g':=g') (t':=t') (d':=d') u hok hg hch
end
abbrev XK:=Value->Option Addr->Hp->Prop
abbrev St:=List (Option V)
abbrev VK:=V->Hp->Prop
abbrev TE:=St->Hp->VK->Prop
abbrev TT:=St->Hp->(Bool->Hp->Prop)->Prop
abbrev TA:=St->Hp->(List V->Hp->Prop)->Prop
structure Ends where
 nx:St->Hp->Prop
 rt:VK
 bk:St->Hp->Prop:=fun _ _=>False
 ct:St->Hp->Prop:=fun _ _=>False
abbrev TS:=Ends->St->Hp->Prop
def EP(X:Cx)(pins:List (Addr×Obj))(σ:St)(Q:VK)(u:Value)(s':Shared):Prop:=∃ v H',Inv X pins σ H' s'/\zab v u/\Q v H'
def TP(X:Cx)(pins:List (Addr×Obj))(σ:St)(Q:Bool->Hp->Prop)(b:Bool)(s':Shared):Prop:=∃ H',Inv X pins σ H' s'/\Q b H'
def AP(X:Cx)(pins:List (Addr×Obj))(σ:St)(Q:List V->Hp->Prop)(us:List Value)(s':Shared):Prop:=∃ vs H',Inv X pins σ H' s'/\zP vs us/\Q vs H'
def SP(X:Cx)(pins:List (Addr×Obj))(D:Ends)(f:Flow)(s':Shared):Prop :=
 match f with
 | .next=>∃ σ' H',Inv X pins σ' H' s'/\D.nx σ' H'
 | .brk=>∃ σ' H',Inv X pins σ' H' s'/\D.bk σ' H'
 | .cont=>∃ σ' H',Inv X pins σ' H' s'/\D.ct σ' H'
 | .ret u=>∃ v σ' H',Inv X pins σ' H' s'/\zab v u/\D.rt v H'
def PE(X:Cx)(e:Expr)(t:TE):Prop :=
 ∀ (pins:List (Addr×Obj)) (s:Shared) (σ:St) (H:Hp) (Q:VK),Inv X pins σ H s->t σ H Q->wpAny (model X.prog X.w) X.A (eval e X.env) (EP X pins σ Q) X.xe s
def PT(X:Cx)(e:Expr)(t:TT):Prop :=
 ∀ (pins:List (Addr×Obj)) (s:Shared) (σ:St) (H:Hp) (Q:Bool->Hp->Prop),Inv X pins σ H s->t σ H Q->wpAny (model X.prog X.w) X.A (isTrue e X.env (eval e X.env)) (TP X pins σ Q) X.xe s
def PW(X:Cx)(e:Expr)(t:TT):Prop :=
 ∀ (whole:Sem Value) (pins:List (Addr×Obj)) (s:Shared) (σ:St) (H:Hp) (Q:Bool->Hp->Prop),Inv X pins σ H s->t σ H Q->wpAny (model X.prog X.w) X.A (isTrue e X.env whole) (TP X pins σ Q) X.xe s
theorem PW.pt{X:Cx}{e:Expr}{t:TT}(h:PW X e t):PT X e t:=h _
def PA(X:Cx)(es:List Expr)(t:TA):Prop :=
 ∀ (pos:Pos) (pins:List (Addr×Obj)) (s:Shared) (σ:St) (H:Hp) (Q:List V->Hp->Prop),Inv X pins σ H s->t σ H Q->wpAny (model X.prog X.w) X.A (spliced (backTo pos (starEach es X.env))) (AP X pins σ Q) X.xe s
def PS(X:Cx)(st:Stmt)(t:TS):Prop :=
 ∀ (pins:List (Addr×Obj)) (s:Shared) (σ:St) (H:Hp) (D:Ends),Inv X pins σ H s->t D σ H->wpAny (model X.prog X.w) X.A (exec st X.env) (SP X pins D) X.xe s
def PSs(X:Cx)(st:List Stmt)(t:TS):Prop :=
 ∀ (pins:List (Addr×Obj)) (s:Shared) (σ:St) (H:Hp) (D:Ends),Inv X pins σ H s->t D σ H->wpAny (model X.prog X.w) X.A (execs st X.env) (SP X pins D) X.xe s
theorem thn{α:Type}{t:Sem α}{Q Q':α->Shared->Prop}{M:Model}{A:Around}{E:Value->Shared->Prop}{s:Shared}(h:wpAny M A t Q E s)(hQ:∀ a s,Q a s->Q' a s):wpAny M A t Q' E s:=wpAny_mono h hQ fun _ _ x=>x
section
variable {X:Cx}
theorem bin{a b:Expr}{ta tb:TE}(ha:PE X a ta)(hb:PE X b tb){pins:List (Addr×Obj)}{s:Shared}{σ:St}{H:Hp}{R:V->V->Hp->Prop}(I:Inv X pins σ H s)(h:ta σ H fun x H1=>tb σ H1 fun y H2=>R x y H2)
  {α:Type} {Q:α->Shared->Prop} {f:Value->Value->Sem α}
  (hf:∀ v u s2 x y H2,Inv X pins σ H2 s2->zab x v->zab y u->R x y H2->wpAny (model X.prog X.w) X.A (f v u) Q X.xe s2) :
  wpAny (model X.prog X.w) X.A (eval a X.env) (fun v s₁=>wpAny (model X.prog X.w) X.A (eval b X.env) (fun u s₂=>wpAny (model X.prog X.w) X.A (f v u) Q X.xe s₂) X.xe s₁) X.xe s:=by
 refine thn (ha pins s σ H _ I h) fun v s1 ⟨x,H1,I1,r1,q1⟩=>?_;refine thn (hb pins s1 σ H1 _ I1 q1) fun u s2 ⟨y,H2,I2,r2,q2⟩=>?_;exact hf v u s2 x y H2 I2 r1 r2 q2
def zes(i:Nat):TE:=fun σ H Q=>∃ v,σ[i]?=some (some v)/\Q v H
def tC(v:V):TE:=fun _ H Q=>Q v H
theorem zxE{i:Nat}{x:Str}{pos:Pos}(hN:X.N[i]?=some x)(hv:Vis X.env.scope x)(hd:(x==("__debug__":Str))=false:=by decide)(hcd:(x==("__classdict__":Str))=false:=by decide):PE X (.Name x pos) (zes i):=by
 intro pins s σ H Q I h;obtain⟨v,e,h⟩:=h;obtain⟨m,hn,hl⟩:=I.loc;obtain⟨u,r,l⟩:=hl i x v hN e hv;have fin:EP X pins σ Q u s:=⟨v,H,I,r,h⟩;rcases l with ⟨hk,hm⟩ | ⟨hk,c,hc,hcell⟩
 ·exact wpAny_Name (wpAny_loadName_local I.ok.kind hk hn hm fin) hd
 ·rcases hk with hk | hk
  ·exact wpAny_Name (wpAny_loadName_cell I.ok.kind hk hc hcell fin) hd
  ·exact wpAny_Name (wpAny_loadName_free I.ok.kind hk hc hcell fin hcd) hd
theorem zxF{i j pos}:PE X (.Constant (.int i) j pos) (tC (.int i)):=fun _ _ _ H _ I h=>wpAny_Constant_int ⟨.int i,H,I.tok _,⟨_,rfl⟩,h⟩
theorem zzI{b j pos}:PE X (.Constant (.bool b) j pos) (tC (.bl b)):=fun _ _ _ H _ I h=>Constant_bool ⟨.bl b,H,I,rfl,h⟩
theorem zxG{j pos}:PE X (.Constant .none j pos) (tC .non):=fun _ _ _ H _ I h=>Constant_none ⟨.non,H,I,rfl,h⟩
theorem zxH{x j pos}:PE X (.Constant (.str x) j pos) (tC (.str x)):=fun _ _ _ H _ I h=>Calls.Constant_str ⟨.str x,H,I.tok _,⟨_,rfl⟩,h⟩
def Gl(X:Cx)(x:Str):Prop:=X.env.kindOf x=some .globalImplicit
theorem zkM{E:Value->Shared->Prop}{pins:List (Addr×Obj)}{s:Shared}{σ:St}{H:Hp}{x:Str}{u:Value}{pos:Pos}{Q:Value->Shared->Prop}(I:Inv X pins σ H s)(hg:Gl X x)(hm:X.mg x=some u)(h:Q u s)
  (hd:(x==("__debug__":Str))=false:=by decide):wpAny (model X.prog X.w) X.A (eval (.Name x pos) X.env) Q E s :=
 Calls.Name_function_global I.ok.kind hg (Calls.loadGlobal_global (by rw [I.ok.glob]; exact I.mod.glob.keeps I.bk) hm h) hd
theorem zfY{E:Value->Shared->Prop}{pins:List (Addr×Obj)}{s:Shared}{σ:St}{H:Hp}{x:Str}{u:Value}{pos:Pos}{Q:Value->Shared->Prop}(I:Inv X pins σ H s)(hg:Gl X x)(hm:X.mg x=none)(hv:bootBuiltins x=some u)(h:Q u s)
  (hn:x ≠ "__name__":=by decide) (hd:(x==("__debug__":Str))=false:=by decide):wpAny (model X.prog X.w) X.A (eval (.Name x pos) X.env) Q E s:=by
 obtain⟨mb,h1,h2⟩:=I.mod.blt;exact Calls.Name_function_global I.ok.kind hg (Calls.loadGlobal_builtin (by rw [I.ok.glob]; exact I.mod.glob.keeps I.bk) hm (by rw [I.ok.blt]; exact h1.keeps I.bk) ((h2 x hn).trans hv) h) hd
theorem zus{x:Str}{v:V}{u:Value}{pos:Pos}(hg:Gl X x)(hm:X.mg x=some u)(r:zab v u)(hd:(x==("__debug__":Str))=false:=by decide):PE X (.Name x pos) (tC v) :=
 fun _ _ _ H _ I h=>zkM I hg hm ⟨v,H,I,r,h⟩ hd
theorem zut{x:Str}{v:V}{u:Value}{pos:Pos}(hg:Gl X x)(hm:X.mg x=none)(hv:bootBuiltins x=some u)(r:zab v u)(hn:x ≠ "__name__":=by decide)(hd:(x==("__debug__":Str))=false:=by decide):PE X (.Name x pos) (tC v) :=
 fun _ _ _ H _ I h=>zfY I hg hm hv ⟨v,H,I,r,h⟩ hn hd
variable {a b:Expr} {ta tb:TE} {pos:Pos}
def PC(X:Cx)(op:CmpOp)(a b:Expr)(t:TE):Prop :=
 ∀ (pins:List (Addr×Obj)) (s:Shared) (σ:St) (H:Hp) (Q:VK),Inv X pins σ H s->t σ H Q ->
  wpAny (model X.prog X.w) X.A (eval a X.env) (fun v s₁=>wpAny (model X.prog X.w) X.A (eval b X.env) (fun u s₂=>wpAny (model X.prog X.w) X.A (compareOp op v u) (EP X pins σ Q) X.xe s₂) X.xe s₁) X.xe s
theorem zqX(b:Expr){op:CmpOp}(h:op≠.In)(h2:op≠.NotIn):behindInMarks op b=false:=by
 have e1:(op==CmpOp.In)=false:=by cases op<;>first | rfl | exact absurd rfl h
 have e2:(op==CmpOp.NotIn)=false:=by cases op<;>first | rfl | exact absurd rfl h2
 cases b<;>simp [behindInMarks,e1,e2]
def tB(t:TE):TT:=fun σ H Q=>t σ H fun x H1=>∃ c,x=.bl c/\Q c H1
theorem zBb{op:CmpOp}{t:TE}(h:PC X op a b t)(h1:behindInMarks op b=false:=by first | exact zqX _ (by decide) (by decide) | rfl):PT X (.Compare a [op] [b] pos) (tB t):=by
 intro pins s σ H Q I hw;refine wpAny_isTrue_Compare1 (thn (h pins s σ H _ I hw) fun v s1 h1=>thn h1 fun u s2 h2=>thn h2 fun c s3 ⟨x,H1,I1,r1,q1⟩=>?_) h1;obtain⟨d,rfl,q⟩:=q1;cases r1;exact wpAny_truthy_bool ⟨H1,I1,q⟩
theorem zxI{e:Expr}{t:TE}(h:PE X e t)(he:∀ whole,isTrue e X.env whole=(do let v <-whole; standAt e.pos; holding [v] (truthy v)):=by intro _; rfl):PT X e (tB t):=by
 intro pins s σ H Q I hw;refine isTrue_plain (thn (h pins s σ H _ I hw) fun v s1 ⟨x,H1,I1,r1,q1⟩=>?_) (he _);obtain⟨d,rfl,q⟩:=q1;cases r1;exact wpAny_truthy_bool ⟨H1,I1,q⟩
variable {tA tB':TT} {zcy:List Expr}
def zxJ(t u:TT):TT:=fun σ H Q=>t σ H fun c H1=>if c=true then u σ H1 Q else Q false H1
def tOr(t u:TT):TT:=fun σ H Q=>t σ H fun c H1=>if c=true then Q true H1 else u σ H1 Q
def zxK(t:TT):TT:=fun σ H Q=>t σ H fun c H1=>Q (!c) H1
theorem zuu(ha:PT X a tA):PW X (.BoolOp .And [a] pos) tA:=by
 intro wh pins s σ H Q I h;refine isTrue_and (thn (ha pins s σ H Q I h) fun c s1 e=>?_);cases c with
 | true=>exact isTrue_and_nil e
 | false=>exact e
theorem zxL(ha:PT X a tA):PW X (.BoolOp .Or [a] pos) tA:=by
 intro wh pins s σ H Q I h;refine isTrue_or (thn (ha pins s σ H Q I h) fun c s1 e=>?_);cases c with
 | false=>exact isTrue_or_nil e
 | true=>exact e
theorem zxM(ha:PT X a tA)(hb:PW X (.BoolOp .And (b::zcy) pos) tB'):PW X (.BoolOp .And (a::b::zcy) pos) (zxJ tA tB'):=by
 intro wh pins s σ H Q I h;refine isTrue_and (thn (ha pins s σ H _ I h) fun c s1 ⟨H1,I1,q1⟩=>?_);cases c with
 | true=>exact hb wh pins s1 σ H1 Q I1 q1
 | false=>exact⟨H1,I1,q1⟩
theorem zzJ(ha:PT X a tA)(hb:PW X (.BoolOp .Or (b::zcy) pos) tB'):PW X (.BoolOp .Or (a::b::zcy) pos) (tOr tA tB'):=by
 intro wh pins s σ H Q I h;refine isTrue_or (thn (ha pins s σ H _ I h) fun c s1 ⟨H1,I1,q1⟩=>?_);cases c with
 | true=>exact⟨H1,I1,q1⟩
 | false=>exact hb wh pins s1 σ H1 Q I1 q1
theorem zxN(ha:PT X a tA):PT X (.UnaryOp .Not a pos) (zxK tA):=by
 intro pins s σ H Q I h;exact isTrue_not (ha pins s σ H (fun c H1=>Q (!c) H1) I h)
def zqY(ta tb:TE):TE:=fun σ H Q=>ta σ H fun x H1=>∃ c,x=.bl c/\if c=true then tb σ H1 Q else Q (.bl false) H1
def zqZ(ta:TE):TE:=fun σ H Q=>ta σ H fun x H1=>∃ c,x=.bl c/\Q (.bl (!c)) H1
theorem zxO{op}{t:TE}(h:PE X a t):PE X (.BoolOp op [a] pos) t:=fun pins s σ H Q I hw=>BoolOp_one (h pins s σ H Q I hw)
theorem zxP(ha:PE X a ta)(hb:PE X (.BoolOp .And (b::zcy) pos) tb):PE X (.BoolOp .And (a::b::zcy) pos) (zqY ta tb):=by
 intro pins s σ H Q I h;refine BoolOp_and (thn (ha pins s σ H _ I h) fun v s1 ⟨x,H1,I1,r1,q1⟩=>?_);obtain⟨c,rfl,q1⟩:=q1;cases r1;refine wpAny_truthy_bool ?_;cases c with
 | true=>exact hb pins s1 σ H1 Q I1 q1
 | false=>exact⟨.bl false,H1,I1,rfl,q1⟩
theorem zxQ(ha:PE X a ta):PE X (.UnaryOp .Not a pos) (zqZ ta):=by
 intro pins s σ H Q I h;refine UnaryOp_ (thn (ha pins s σ H _ I h) fun v s1 ⟨x,H1,I1,r1,q1⟩=>?_);obtain⟨c,rfl,q1⟩:=q1;cases r1;exact not_of (wpAny_truthy_bool ⟨.bl (!c),H1,I1,rfl,q1⟩)
def tIf(t:TT)(ta tb:TE):TE:=fun σ H Q=>t σ H fun c H1=>if c=true then ta σ H1 Q else tb σ H1 Q
theorem zq0{c:Expr}(hc:PT X c tA)(ha:PE X a ta)(hb:PE X b tb):PE X (.IfExp c a b pos) (tIf tA ta tb):=by
 intro pins s σ H Q I h;refine wpAny_IfExp (thn (hc pins s σ H _ I h) fun d s1 ⟨H1,I1,q1⟩=>?_);cases d with
 | true=>exact ha pins s1 σ H1 Q I1 q1
 | false=>exact hb pins s1 σ H1 Q I1 q1
end
def SqL(K:qe)(H:Hp)(a:Addr)(xs:List V):Prop :=
 Rd H a (.lst xs) \/
  ∃ (o:Obj) (its:Array Value) (n:Nat),K.lookup a=some o/\o.cls=.type "list"/\o.dict=none/\o.data=.seq its n/\its.size<=sizeLine/\zP xs its.toList
def SqT(K:qe)(H:Hp)(a:Addr)(xs:List V):Prop :=
 Rd H a (.tup xs) \/
  ∃ (o:Obj) (its:Array Value) (n:Nat),K.lookup a=some o/\o.cls=.type "tuple"/\o.data=.seq its n/\its.size<=sizeLine/\zP xs its.toList
def zBc:Value->Option V
 | .none=>some .non
 | .bool b=>some (.bl b)
 | .int i _=>some (.int i)
 | .str x _=>some (.str x)
 | .bytes b _=>some (.byt b)
 | .float b _=>some (.flt b)
 | .ref a=>some (.ref a)
 | .type n=>some (.ty n)
 | _=>none
theorem zab.abs{x:V}{u:Value}(r:zab x u):zBc u=some x:=by
 cases x with
 | non=>cases r; rfl
 | bl _=>cases r; rfl
 | int _=>obtain⟨t,rfl⟩:=r; rfl
 | str _=>obtain⟨t,rfl⟩:=r; rfl
 | byt _=>obtain⟨t,rfl⟩:=r; rfl
 | flt _=>obtain⟨t,rfl⟩:=r; rfl
 | ref _=>cases r; rfl
 | ty _=>cases r; rfl
theorem zab.inj{x y:V}{u:Value}(r:zab x u)(q:zab y u):x=y:=qy (r.abs.symm.trans q.abs)
theorem zP.inj:∀ {xs ys:List V} {us:List Value},zP xs us->zP ys us->xs=ys
 | _,_,_,.nil,.nil=>rfl
 | _,_,_,.cons r t,.cons r' t'=>by rw [r.inj r',zP.inj t t']
section
variable {X:Cx} {pins:List (Addr×Obj)} {σ:St} {H:Hp} {s:Shared} {a:Addr} {xs ys:List V}
theorem SqL.of{K:qe}(h:H a=some (.lst xs)):SqL K H a xs:=.inl (.inl h)
theorem Inv.list(I:Inv X pins σ H s)(h:SqL X.K H a xs):∃ its:List Value,zP xs its/\PlainL s.heap a its.toArray/\xs.length<=sizeLine:=by
 rcases h with h | ⟨o,its,n,hk,hc,hd,hs,hz,r⟩
 ·obtain⟨z,its,n,r,e⟩:=h.ok I.hok
  exact⟨its,r,⟨_,n,e,rfl,rfl,rfl⟩,z⟩
 ·refine⟨its.toList,r,⟨o,n,I.kIn a o hk,hc,hd,by simpa using hs⟩,?_⟩
  have e:=r.length;simp only [Array.length_toList]at e;omega
theorem Inv.tuple(I:Inv X pins σ H s)(h:SqT X.K H a xs):∃ its:List Value,zP xs its/\IsTup s.heap a its.toArray/\xs.length<=sizeLine:=by
 rcases h with h | ⟨o,its,n,hk,hc,hs,hz,r⟩
 ·obtain⟨z,its,r,p⟩:=h.ok I.hok
  exact⟨its,r,p.tup,z⟩
 ·refine⟨its.toList,r,⟨o,I.kIn a o hk,hc,n,by simpa using hs⟩,?_⟩
  have e:=r.length;simp only [Array.length_toList]at e;omega
theorem Inv.list_inj(I:Inv X pins σ H s)(h:SqL X.K H a xs)(h':SqL X.K H a ys):xs=ys:=by
 obtain⟨its,r,⟨o,n,e,_,_,d⟩,_⟩:=I.list h;obtain⟨its',r',⟨o',n',e',_,_,d'⟩,_⟩:=I.list h';rw [e]at e'; cases e';rw [d]at d';injection d' with d1 _;have:its=its':=by simpa using congrArg Array.toList d1
 subst this;exact r.inj r'
theorem Inv.tuple_inj(I:Inv X pins σ H s)(h:SqT X.K H a xs)(h':SqT X.K H a ys):xs=ys:=by
 obtain⟨its,r,⟨o,e,_,n,d⟩,_⟩:=I.tuple h;obtain⟨its',r',⟨o',e',_,n',d'⟩,_⟩:=I.tuple h';rw [e]at e'; cases e';rw [d]at d';injection d' with d1 _;have:its=its':=by simpa using congrArg Array.toList d1
 subst this;exact r.inj r'
end
abbrev Cx.wish(X:Cx)(E:Value->Shared->Prop):Cx:={ X with xe:=E }
abbrev Cx.nox(X:Cx):Cx:=X.wish fun _ _=>False
theorem Cx.Ok.wish{X:Cx}(ok:X.Ok)(E:Value->Shared->Prop):(X.wish E).Ok :=
 ⟨ok.mod,ok.kind,ok.glob,ok.blt,ok.above,ok.inj,ok.has,ok.cab,ok.hd,ok.frames,ok.stk,ok.exf,ok.bs,ok.bsz,ok.noex,ok.exfs,ok.funs,ok.frf⟩
theorem Cx.Ok.unwish{X:Cx}{E:Value->Shared->Prop}(ok:(X.wish E).Ok):X.Ok :=
 ⟨ok.mod,ok.kind,ok.glob,ok.blt,ok.above,ok.inj,ok.has,ok.cab,ok.hd,ok.frames,ok.stk,ok.exf,ok.bs,ok.bsz,ok.noex,ok.exfs,ok.funs,ok.frf⟩
section
variable {X:Cx} {pins:List (Addr×Obj)} {σ:St} {H:Hp} {s:Shared} {E:Value->Shared->Prop}
theorem Inv.wish(I:Inv X pins σ H s)(E:Value->Shared->Prop):Inv (X.wish E) pins σ H s:=⟨I.ok.wish E,I.os,I.bare,I.base,I.loc,I.cell,I.free,I.freeC,I.pin,I.hok,I.len⟩
theorem Inv.unwish(I:Inv (X.wish E) pins σ H s):Inv X pins σ H s:=⟨I.ok.unwish,I.os,I.bare,I.base,I.loc,I.cell,I.free,I.freeC,I.pin,I.hok,I.len⟩
theorem SP.unwish{D:Ends}{f:Flow}{s':Shared}(h:SP (X.wish E) pins D f s'):SP X pins D f s':=by
 cases f with
 | next=>obtain⟨σ',H',I,q⟩:=h; exact⟨σ',H',I.unwish,q⟩
 | brk=>obtain⟨σ',H',I,q⟩:=h; exact⟨σ',H',I.unwish,q⟩
 | cont=>obtain⟨σ',H',I,q⟩:=h; exact⟨σ',H',I.unwish,q⟩
 | ret u=>obtain⟨v,σ',H',I,r,q⟩:=h; exact⟨v,σ',H',I.unwish,r,q⟩
theorem PSs.nox{st:List Stmt}{t:TS}(h:PSs X.nox st t):PSs X st t:=fun pins s σ H D I hw =>
 wpAny_mono (h pins s σ H D (I.wish _) hw) (fun _ _ q=>q.unwish) fun _ _ z=>False.elim z
end
section
variable {X:Cx} {st:Stmt} {zcy:List Stmt} {t u:TS} {e:Expr} {te:TE} {pos:Pos}
def zq1:TS:=fun D σ H=>D.nx σ H
def zq2(t u:TS):TS:=fun D σ H=>t { D with nx:=u D } σ H
theorem zuv:PSs X [] zq1:=fun _ _ σ H _ I h=>wpAny_execs_nil ⟨σ,H,I,h⟩
theorem ziv(h1:PS X st t)(h2:PSs X zcy u):PSs X (st::zcy) (zq2 t u):=by
 intro pins s σ H D I h;refine wpAny_execs_cons (thn (h1 pins s σ H { D with nx:=u D } I h) fun f s1 q=>?_);cases f with
 | next =>
  obtain⟨σ',H',I',q⟩:=q;exact h2 pins s1 σ' H' D I' q
 | ret v=>exact q
 | brk=>exact q
 | cont=>exact q
theorem zoB(h1:PS X st t):PSs X [st] t:=by
 intro pins s σ H D I h;refine wpAny_execs_cons (thn (h1 pins s σ H D I h) fun f s1 q=>?_);cases f with
 | next=>exact wpAny_execs_nil q
 | ret v=>exact q
 | brk=>exact q
 | cont=>exact q
def zq3:TS:=fun D σ H=>D.ct σ H
theorem zlU:PS X (.Continue pos) zq3:=fun _ _ σ H _ I h=>wpAny_Continue ⟨σ,H,I,h⟩
theorem Inv.quiet{pins:List (Addr×Obj)}{σ:St}{H:Hp}{s:Shared}(I:Inv X pins σ H s):interactive X.env=false:=by simp [interactive,I.ok.kind]
def zq4(te:TE):TS:=fun D σ H=>te σ H fun _ H1=>D.nx σ H1
theorem zuw(he:PE X e te)(hs:swapsWith e none pos.line X.env=pure false:=by rfl):PS X (.Expr e pos) (zq4 te):=by
 intro pins s σ H D I h;exact wpAny_Expr_any (thn (he pins s σ H _ I h) fun v s1 ⟨x,H1,I1,r1,q1⟩=>⟨σ,H1,I1,q1⟩) I.quiet hs
def zux(te:TE):TS:=fun D σ H=>te σ H D.rt
theorem zxR(he:PE X e te):PS X (.Return (some e) pos) (zux te):=by
 intro pins s σ H D I h;exact wpAny_Return_some (thn (he pins s σ H _ I h) fun v s1 ⟨x,H1,I1,r1,q1⟩=>⟨x,σ,H1,I1,r1,q1⟩)
def zxS(c:TT)(t u:TS):TS:=fun D σ H=>c σ H fun b H1=>if b=true then t D σ H1 else u D σ H1
theorem zzK{c:Expr}{a b:List Stmt}{tc:TT}(hc:PT X c tc)(ha:PSs X a t)(hb:PSs X b u):PS X (.If c a b pos) (zxS tc t u):=by
 intro pins s σ H D I h;refine wpAny_If (thn (hc pins s σ H _ I h) fun d s1 ⟨H1,I1,q1⟩=>?_);cases d with
 | true=>exact ha pins s1 σ H1 D I1 q1
 | false=>exact hb pins s1 σ H1 D I1 q1
end
abbrev TG:=V->St->Hp->(St->Hp->Prop)->Prop
abbrev TGs:=List V->St->Hp->(St->Hp->Prop)->Prop
def PG(X:Cx)(target:Expr)(t:TG):Prop :=
 ∀ (pins:List (Addr×Obj)) (s:Shared) (σ:St) (H:Hp) (v:V) (u:Value) (Q:St->Hp->Prop),Inv X pins σ H s->zab v u->t v σ H Q ->
  wpAny (model X.prog X.w) X.A (assign target X.env u) (fun _ s'=>∃ σ' H',Inv X pins σ' H' s'/\Q σ' H') X.xe s
def PGs(X:Cx)(ts:List Expr)(t:TGs):Prop :=
 ∀ (pins:List (Addr×Obj)) (s:Shared) (σ:St) (H:Hp) (vs:List V) (us:List Value) (Q:St->Hp->Prop),Inv X pins σ H s->zP vs us->t vs σ H Q ->
  wpAny (model X.prog X.w) X.A (assignInOrder ((assignEach ts X.env).map (·.2)) us) (fun _ s'=>∃ σ' H',Inv X pins σ' H' s'/\Q σ' H') X.xe s
abbrev zuy:=V->V->V->Hp->(Hp->Prop)->Prop
def zxT(X:Cx)(t:zuy):Prop :=
 ∀ (pins:List (Addr×Obj)) (s:Shared) (σ:St) (H:Hp) (o i v:V) (ov iv u:Value) (Q:Hp->Prop),Inv X pins σ H s->zab o ov->zab i iv->zab v u->t o i v H Q ->
  wpAny (model X.prog X.w) X.A (setItem ov iv u) (fun _ s'=>∃ H',Inv X pins σ H' s'/\Q H') X.xe s
section
variable {X:Cx} {pos:Pos}
def zdI(i:Nat):TG:=fun v σ H Q=>Q (σ.set i (some v)) H
theorem zuz{i:Nat}{x:Str}(hN:X.N.Nodup)(hi:X.N[i]?=some x)(hx:Loc X.env.scope x)(hf:X.fn x=true\/X.env.scope.names.lookup x=some .local:=by first | exact .inl rfl | exact .inr rfl | assumption):PG X (.Name x pos) (zdI i):=by
 intro pins s σ H v u Q I r h;exact wpAny_assign_Name (zgk I hN hi hx r (fun s' I'=>⟨_,H,I',h⟩) hf)
def zuA:TGs:=fun vs σ H Q=>vs=[]/\Q σ H
def zlV(t:TG)(u:TGs):TGs:=fun vs σ H Q=>∃ v r,vs=v::r/\t v σ H fun σ' H'=>u r σ' H' Q
theorem zuB:PGs X [] zuA:=by
 intro pins s σ H vs us Q I r h;obtain⟨e,h⟩:=h;subst e;cases r;exact assignInOrder_nil ⟨σ,H,I,h⟩
theorem zq5{e:Expr}{es:List Expr}{t:TG}{u:TGs}(h1:PG X e t)(h2:PGs X es u)
  (hs:(assignEach (e::es) X.env).map (·.2)=assign e X.env::(assignEach es X.env).map (·.2):=by rfl):PGs X (e::es) (zlV t u):=by
 intro pins s σ H vs us Q I r h;obtain⟨v,vr,e1,h⟩:=h;subst e1;cases r with
 | cons r rr =>
  rw [hs];refine assignInOrder_cons (thn (h1 pins s σ H _ _ _ I r h) fun _ s1 ⟨σ1,H1,I1,q1⟩=>?_);exact h2 pins s1 σ1 H1 _ _ Q I1 rr q1
def zuC(K:qe)(n:Nat)(t:TGs):TG:=fun v σ H Q=>∃ a xs,v=.ref a/\SqT K H a xs/\xs.length=n/\t xs σ H Q
theorem zxU{es:List Expr}{k:Nat}{t:TGs}{n:Nat}(hc:X.calm=true)(h:PGs X es t)
  (hn:(assignEach es X.env).length=n:=by rfl) (hst:(assignEach es X.env).findIdx? (·.1)=none:=by rfl):PG X (.Tuple es k pos) (zuC X.K n t):=by
 intro pins s σ H v u Q I r hw;obtain⟨a,xs,e1,hq,hl,hw⟩:=hw;subst e1;cases r;obtain⟨its,rv,ht,hz⟩:=I.tuple hq;refine assign_Tuple_tuple (I.ok.hd hc) ht (by simp [hn,<-hl,rv.length]) hst fun h' hx=>?_;have I1:Inv X pins σ H { s with heap:=h' }:=I.kept (t':=s.toks) fun b o e=>hx b o (ql (qj e)) e;exact h pins _ σ H xs _ Q I1 (by simpa using rv) hw
def zxV(to ti:TE)(t:zuy):TG:=fun v σ H Q=>to σ H fun o H1=>ti σ H1 fun i H2=>t o i v H2 fun H3=>Q σ H3
theorem zxW{o i:Expr}{to ti:TE}{t:zuy}(ho:PE X o to)(hi:PE X i ti)(hs:zxT X t)
  (ha:∀ v,assign (.Subscript o i pos) X.env v=(do
   let ov <-holding [v] (eval o X.env)
   let iv <-holding [v,ov] (eval i X.env)
   standAt pos
   holding [v,ov,iv] (setItem ov iv v)
   release [v,ov,iv] []):=by intro _; rfl):PG X (.Subscript o i pos) (zxV to ti t):=by
 intro pins s σ H v u Q I r h;rw [ha];refine qc (wpAny_holding (thn (ho pins s σ H _ I h) fun ov s1 ⟨x,H1,I1,r1,q1⟩=>?_));refine qc (wpAny_holding (thn (hi pins s1 σ H1 _ I1 q1) fun iv s2 ⟨y,H2,I2,r2,q2⟩=>?_));refine qc (wpAny_standAt (qc (wpAny_holding (thn (hs pins s2 σ H2 x y v ov iv u _ I2 r1 r2 r q2) fun _ s3 ⟨H3,I3,q3⟩=>?_))));exact wpAny_release ⟨σ,H3,I3,q3⟩
def zkN(te:TE)(g:TG):TS:=fun D σ H=>te σ H fun x H1=>g x σ H1 D.nx
theorem zxX{tg e:Expr}{te:TE}{g:TG}(he:PE X e te)(hg:PG X tg g)(hs:swapsWithSole [tg] e pos.line X.env=pure false:=by rfl)(hw:swappedStores [tg] e X.env=pure none:=by rfl)
  (h1:(assignEach [tg] X.env).map (·.2)=[assign tg X.env]:=by rfl):PS X (.Assign [tg] e pos) (zkN te g):=by
 intro pins s σ H D I h;refine wpAny_Assign_stores (thn (he pins s σ H _ I h) fun v s1 ⟨x,H1,I1,r1,q1⟩=>?_) hs hw;rw [h1];exact thn (hg pins s1 σ H1 x v _ I1 r1 q1) fun _ s2 q=>q
theorem zxY{i:Nat}{x:Str}{e:Expr}{te:TE}{pos':Pos}(hN:X.N.Nodup)(hi:X.N[i]?=some x)(hx:Loc X.env.scope x)(he:PE X e te)(hs:swapsWith e (some (.Name x pos')) pos.line X.env=pure false:=by rfl)(hf:X.fn x=true\/X.env.scope.names.lookup x=some .local:=by first | exact .inl rfl | exact .inr rfl | assumption) :
  PS X (.Assign [.Name x pos'] e pos) (zkN te (zdI i)):=by
 intro pins s σ H D I h;refine wpAny_Assign_Name (thn (he pins s σ H _ I h) fun v s1 ⟨y,H1,I1,r1,q1⟩=>?_) hs;exact zgk I1 hN hi hx r1 (fun s2 I2=>⟨_,H1,I2,q1⟩) hf
def zxZ(i j:Nat)(ta:TA):TS:=fun D σ H=>ta σ H fun vs H1=>∃ v w,vs=[v,w]/\D.nx ((σ.set i (some v)).set j (some w)) H1
theorem zx0{i j:Nat}{x y:Str}{a b:Expr}{ta:TA}{px py pt:Pos}{kt k2 pt2}(hc:X.calm=true)(hN:X.N.Nodup)(hi:X.N[i]?=some x)(hj:X.N[j]?=some y)(hij:i≠j)
  (hx:X.env.scope.names.lookup x=some .local) (hy:X.env.scope.names.lookup y=some .local) (ha:PA X [a,b] ta)
  (hw:swappedStores [.Tuple [.Name x px,.Name y py] kt pt] (.Tuple [a,b] k2 pt2) X.env=pure (some [x,y]))
  (hs:swapsWithSole [.Tuple [.Name x px,.Name y py] kt pt] (.Tuple [a,b] k2 pt2) pos.line X.env=pure false:=by rfl) :
  PS X (.Assign [.Tuple [.Name x px,.Name y py] kt pt] (.Tuple [a,b] k2 pt2) pos) (zxZ i j ta):=by
 intro pins s σ H D I h;rw [exec_Assign_arm];refine qc (wpAny_standAt ?_);rw [hs];refine qc (qd ?_);rw [if_neg (by decide)];refine qc (Tuple_ (thn (ha _ pins s σ H _ I h) fun us s1 ⟨vs,H1,I1,r1,q1⟩=>?_));obtain⟨v,w,e1,q1⟩:=q1;subst e1;obtain⟨u1,u2,rfl,rv,rw'⟩:∃ u1 u2,us=[u1,u2]/\zab v u1/\zab w u2:=by
  cases r1 with
  | cons p q =>
   cases q with
   | cons p' q' =>
    cases q';exact⟨_,_,rfl,p,p'⟩
 refine qB ?_ (by show 2<=sizeLine; decide);have I2:Inv X pins σ H1 { s1 with heap:=s1.heap.push { cls:=.type "tuple",data:=.seq [u1,u2].toArray } }:=I1.kept (t':=s1.toks) fun b o e=>qf _ e;rw [hw];refine qc (qd ?_);show wpAny (model X.prog X.w) X.A (do rule "assign.swapped-stores"; let items <-unpackItems (.ref s1.heap.objs.size) 2 none; assignInOrder [fun v=>bindName X.env y v,fun v=>bindName X.env x v] items.reverse; pure Flow.next) _ _ _;refine qc (wpAny_rule (qc (unpackItems_tuple (items:=#[u1,u2]) (I.ok.hd hc) (IsTup.new s1.heap _) fun h' hx'=>?_)));have I3:=I2.kept (h':=h') (t':=s1.toks) fun b o e=>hx' b o (ql (qj e)) e;show wpAny _ _ (assignInOrder [fun v=>bindName X.env y v,fun v=>bindName X.env x v] [u2,u1] >>= fun _=>pure Flow.next) _ _ _;refine qc (assignInOrder_cons (wpAny_bindName (zgk I3 hN hj (.inl hy) rw' (fun s2 I4=>?_) (.inr hy))));refine assignInOrder_cons (wpAny_bindName (zgk I4 hN hi (.inl hx) rv (fun s3 I5=>assignInOrder_nil (qd ?_)) (.inr hx)));rw [List.set_comm _ _ (Ne.symm hij)]at I5;exact⟨_,H1,I5,q1⟩
end
section
variable {X:Cx} {pos:Pos}
def znq(c:TT)(tb:TS):TS:=fun D σ H=>∃ W:Nat->St->Hp->Prop,(∃ m,W m σ H)/\∀ m σ H,W m σ H ->
 c σ H fun b H1=>if b=true then ∃ N:St->Hp->Prop,(∀ σ' H',N σ' H'->∃ m',m' < m/\W m' σ' H')/\tb { D with nx:=N,ct:=N,bk:=D.nx } σ H1 else D.nx σ H1
theorem zq6{c:Expr}{body:List Stmt}{tc:TT}{tb:TS}(hp:PassesOwn (model X.prog X.w) X.A X.env X.xe)(hc:PT X c tc)(hb:PSs X body tb):PS X (.While c body [] pos) (znq tc tb):=by
 intro pins s σ H D I h;obtain⟨W,⟨m0,w0⟩,turn⟩:=h;refine wpAny_While (codeAny_whileLoop (fun n s'=>∃ σ' H',Inv X pins σ' H' s'/\W n σ' H') ?_ m0 ⟨σ,H,I,w0⟩);rintro n s1 ⟨σ1,H1,I1,w1⟩;refine wpAny_passesOwn hp (thn (hc pins s1 σ1 H1 _ I1 (turn n σ1 H1 w1)) fun b s2 ⟨H2,I2,q2⟩=>?_);cases b with
 | true =>
  obtain⟨N,hN,q2⟩:=q2;rw [if_pos rfl];refine wpAny_passesOwn hp (thn (hb pins s2 σ1 H2 _ I2 q2) fun f s3 q3=>?_);cases f with
  | next =>
   obtain⟨σ3,H3,I3,n3⟩:=q3;obtain⟨m',hm,w3⟩:=hN σ3 H3 n3;exact⟨m',hm,σ3,H3,I3,w3⟩
  | cont =>
   obtain⟨σ3,H3,I3,n3⟩:=q3;obtain⟨m',hm,w3⟩:=hN σ3 H3 n3;exact⟨m',hm,σ3,H3,I3,w3⟩
  | brk=>exact q3
  | ret v=>exact q3
 | false =>
  rw [if_neg qh];exact wpAny_execs_nil ⟨σ1,H2,I2,q2⟩
end
structure It where
 go:Nat->Hp->Prop
 yld:Nat->Hp->V->Hp->Prop
 stop:Nat->Hp->Prop
def zdv(X:Cx)(pins:List (Addr×Obj))(H:Hp)(b:Addr):Prop :=
 H b=none/\b≠X.env.locals/\b∉X.fs/\(b∈X.ex\/X.s₀.heap.objs.size<=b)/\(∀ x c,X.env.cells.lookup x=some c->c≠b)/\∀ p∈X.pn++pins,p.1≠b
theorem Inv.fpOk{X:Cx}{pins:List (Addr×Obj)}{σ:St}{H H':Hp}{s:Shared}{b:Addr}(I:Inv X pins σ H s)(hb:s.heap.objs.size<=b)(hn:H' b=none):zdv X pins H' b:=by
 refine⟨hn,Nat.ne_of_gt (qk I.lt hb),I.nofs hb,.inr (qA I.sz hb),fun x c e z=>?_,fun p hp z=>?_⟩
 ·obtain⟨v,q⟩:=I.cell x c e
  exact absurd (qk q.lt (by rw [z]; exact hb)) (Nat.lt_irrefl _)
 ·exact absurd (qk (qj (I.pin p hp).1) (by rw [z]; exact hb)) (Nat.lt_irrefl _)
structure Turn (P:Program) (w:World) (K:qe) (tg:Expr) (J:It) (fp:List Addr) (it:Addr) (tn:Nat->Heap->Prop):Prop where
 mem:it∈fp
 obj:∀ i h,tn i h->∀ b∈fp,∃ o,h.get? b=some o/\∀ v,o.data≠.cell v
 keep:∀ i h h',tn i h->(∀ b∈fp,∀ o,h.get? b=some o->h'.get? b=some o)->tn i h'
 item:∀ (X:Cx),X.prog=P->X.w=w->X.K=K->X.calm=true->∀ (i:Nat) (pins:List (Addr×Obj)) (s:Shared) (σ:St) (H:Hp) (E:Value->Shared->Prop),Inv X pins σ H s->(∀ b∈fp,zdv X pins H b)->tn i s.heap->J.go i H ->
  wpAny (model P w) X.A (pyNext (.ref it)) (fun r s1=>∃ u,r=some u /\
   wpAny (model P w) X.A (letOwnedTupleGo tg (.ref it) u) (fun _ s2=>∃ x H',Inv X pins σ H' s2/\zab x u/\J.yld i H x H'/\tn (i+1) s2.heap/\∀ b∈fp,H' b=none) E s1) E s
 done:∀ (X:Cx),X.prog=P->X.w=w->X.K=K->X.calm=true->∀ (i:Nat) (pins:List (Addr×Obj)) (s:Shared) (σ:St) (H:Hp) (E:Value->Shared->Prop),Inv X pins σ H s->(∀ b∈fp,zdv X pins H b)->tn i s.heap->J.stop i H ->
  wpAny (model P w) X.A (pyNext (.ref it)) (fun r s1=>r=none/\Inv X pins σ H s1) E s
 self:∀ (A:Around) (i:Nat) (s:Shared) (Q:Value->Shared->Prop) (E:Value->Shared->Prop),tn i s.heap->Q (.ref it) s->wpAny (model P w) A (pyIter (.ref it)) Q E s
abbrev TI:=St->Hp->(It->Hp->Prop)->Prop
def PIE(X:Cx)(pins:List (Addr×Obj))(σ:St)(tg:Expr)(R:It->Hp->Prop)(itv:Value)(s2:Shared):Prop :=
 ∃ (it:Addr) (fp:List Addr) (tn:Nat->Heap->Prop) (J:It) (H':Hp),itv=.ref it/\Inv X pins σ H' s2/\Turn X.prog X.w X.K tg J fp it tn/\tn 0 s2.heap/\(∀ b∈fp,zdv X pins H' b)/\R J H'
def PI(X:Cx)(tg iter:Expr)(wi:TI):Prop :=
 ∀ (pins:List (Addr×Obj)) (s:Shared) (σ:St) (H:Hp) (R:It->Hp->Prop),Inv X pins σ H s->wi σ H R ->
  wpAny (model X.prog X.w) X.A (eval iter X.env) (fun v s1=>wpAny (model X.prog X.w) X.A (pyIter v) (PIE X pins σ tg R) X.xe s1) X.xe s
theorem zlW{M:Model}{A:Around}{E:Value->Shared->Prop}{s:Shared}{tg:Expr}{it:Addr}{u:Value}{o:Obj}{n:String}{vs:Array Value}{Q:Unit->Shared->Prop}(ho:s.heap.get? it=some o)(hc:o.cls=.type n)(hd:o.data=.fields vs)
  (hn:["enumerate", "zip", "dict_itemiterator", "dict_reverseitemiterator", "odict_iterator", "itertools.zip_longest", "itertools.pairwise"].contains n=false) (hQ:Q () s):wpAny M A (letOwnedTupleGo tg (.ref it) u) Q E s:=by
 unfold letOwnedTupleGo;cases tg<;>first
  | exact qd hQ
  | (cases u<;>first
    | exact qd hQ
    | (refine qc (wpAny_load ho ?_)
       rw [hc,hd];show wpAny M A (if(["enumerate", "zip", "dict_itemiterator", "dict_reverseitemiterator", "odict_iterator", "itertools.zip_longest", "itertools.pairwise"].contains n && vs[0]?==some (rawInt _))=true then _ else _) Q E s;rw [if_neg (by intro h; rw [hn,Bool.false_and]at h; cases h)];exact qd hQ))
def Itl(K:qe)(a:Addr):It :=
 ⟨fun i H=>∃ xs x,SqL K H a xs/\xs[i]?=some x,fun i H x H'=>H'=H/\∀ xs,SqL K H a xs->xs[i]?=some x,fun i H=>∃ xs,SqL K H a xs/\xs.length<=i⟩
def Itt(K:qe)(a:Addr):It :=
 ⟨fun i H=>∃ xs x,SqT K H a xs/\xs[i]?=some x,fun i H x H'=>H'=H/\∀ xs,SqT K H a xs->xs[i]?=some x,fun i H=>∃ xs,SqT K H a xs/\xs.length<=i⟩
def Itr(lo:Int)(n:Nat):It:=⟨fun i _=>i < n,fun i H x H'=>H'=H/\x=.int (lo+i),fun i _=>n<=i⟩
theorem zka{P:Program}{w:World}{K:qe}{tg:Expr}(a it:Addr):Turn P w K tg (Itl K a) [it] it (fun i h=>h.IsListIter it a i) where
 mem:=by simp
 obj:=fun i h st b hb=>by
  have e:b=it:=by simpa using hb
  subst e;obtain⟨o,e,c,d⟩:=st;exact⟨o,e,fun v z=>by rw [d]at z; cases z⟩
 keep:=fun i h h' st k=>st.at fun o e=>k it (by simp) o e
 item:=by
  intro X hP hw hK hc i pins s σ H E I hf st hg;subst hP hw hK;obtain⟨xs,x,hq,hx⟩:=hg;obtain⟨its,rv,p,hz⟩:=I.list hq;obtain⟨u,hu,ru⟩:=rv.get hx;obtain⟨f0,f1,f2,f3,f4,f5⟩:=hf it (by simp);refine wpAny_pyNext_list_item st p.isList (x:=u) (by simpa using hu) fun h' st' sb=>?_;have I1:Inv X pins σ H { s with heap:=h' }:=I.turned (t':=s.toks) (fun b o hb e=>(sb.2 b hb).trans e) f0 f1 f3 f4 f5;obtain⟨o,e,c,d⟩:=id st';exact⟨u,rfl,zlW (s:={ s with heap:=h' }) e c d (by decide) ⟨x,H,I1,ru,⟨rfl,fun ys hy=>by rw [I.list_inj hy hq]; exact hx⟩,st',fun b hb=>(hf b hb).1⟩⟩
 done:=by
  intro X hP hw hK hc i pins s σ H E I hf st hg;subst hP hw hK;obtain⟨xs,hq,hx⟩:=hg;obtain⟨its,rv,p,hz⟩:=I.list hq;obtain⟨f0,f1,f2,f3,f4,f5⟩:=hf it (by simp);have hl:=rv.length;exact wpAny_pyNext_list_end (I.ok.hd hc) st p.isList (by simp; omega) fun h' eb=>⟨rfl,I.turned (t':=s.toks) (fun b o hb e=>eb b o hb e) f0 f1 f3 f4 f5⟩
 self:=fun _ _ _ _ _ st h=>wpAny_pyIter_listiter st h
theorem ziw{P:Program}{w:World}{K:qe}{tg:Expr}(a it:Addr):Turn P w K tg (Itt K a) [it] it (fun i h=>h.IsTupleIter it a i) where
 mem:=by simp
 obj:=fun i h st b hb=>by
  have e:b=it:=by simpa using hb
  subst e;obtain⟨o,e,c,d⟩:=st;exact⟨o,e,fun v z=>by rw [d]at z; cases z⟩
 keep:=fun i h h' st k=>st.at fun o e=>k it (by simp) o e
 item:=by
  intro X hP hw hK hc i pins s σ H E I hf st hg;subst hP hw hK;obtain⟨xs,x,hq,hx⟩:=hg;obtain⟨its,rv,p,hz⟩:=I.tuple hq;obtain⟨u,hu,ru⟩:=rv.get hx;obtain⟨f0,f1,f2,f3,f4,f5⟩:=hf it (by simp);refine wpAny_pyNext_tuple_item st (show s.heap.IsTuple a its.toArray from p) (x:=u) (by simpa using hu) fun h' st' sb=>?_;have I1:Inv X pins σ H { s with heap:=h' }:=I.turned (t':=s.toks) (fun b o hb e=>(sb.2 b hb).trans e) f0 f1 f3 f4 f5;obtain⟨o,e,c,d⟩:=id st';exact⟨u,rfl,zlW (s:={ s with heap:=h' }) e c d (by decide) ⟨x,H,I1,ru,⟨rfl,fun ys hy=>by rw [I.tuple_inj hy hq]; exact hx⟩,st',fun b hb=>(hf b hb).1⟩⟩
 done:=by
  intro X hP hw hK hc i pins s σ H E I hf st hg;subst hP hw hK;obtain⟨xs,hq,hx⟩:=hg;obtain⟨its,rv,p,hz⟩:=I.tuple hq;obtain⟨f0,f1,f2,f3,f4,f5⟩:=hf it (by simp);have hl:=rv.length;exact wpAny_pyNext_tuple_end (I.ok.hd hc) st (show s.heap.IsTuple a its.toArray from p) (by simp; omega) fun h' eb=>⟨rfl,I.turned (t':=s.toks) (fun b o hb e=>eb b o hb e) f0 f1 f3 f4 f5⟩
 self:=fun _ _ _ _ _ st h=>wpAny_pyIter_tupleiter st h
theorem znr{P:Program}{w:World}{K:qe}{tg:Expr}(it:Addr)(lo:Int)(n:Nat):Turn P w K tg (Itr lo n) [it] it (fun i h=>IsRangeIter h it (lo+(i:Nat) * 1) ((n:Int) - (i:Nat)) 1) where
 mem:=by simp
 obj:=fun i h st b hb=>by
  have e:b=it:=by simpa using hb
  subst e;exact⟨_,st,fun v z=>by
   have z':Data.fields _=Data.cell v:=z;cases z'⟩
 keep:=fun i h h' st k=>k it (by simp) _ st
 item:=by
  intro X hP hw hK hc i pins s σ H E I hf st hg;subst hP hw hK;obtain⟨f0,f1,f2,f3,f4,f5⟩:=hf it (by simp);have W:=Walks.range (prog:=X.prog) (w:=X.w) (I.ok.hd hc) it lo 1 n;refine W.item i s _ _ hg st fun v h' tk hv st' kk=>?_;obtain⟨t,rfl⟩:=hv;have I1:Inv X pins σ H { s with heap:=h',toks:=tk }:=I.turned (fun b o hb e=>kk b o (by simpa using hb) e) f0 f1 f3 f4 f5;refine⟨_,rfl,zlW (s:={ s with heap:=h',toks:=tk }) (n := "range_iterator") st' rfl rfl (by decide) ⟨.int (lo+i),H,I1,⟨t,?_⟩,⟨rfl,rfl⟩,st',fun b hb=>(hf b hb).1⟩⟩;rw [Int.mul_one]
 done:=by
  intro X hP hw hK hc i pins s σ H E I hf st hg;subst hP hw hK;obtain⟨f0,f1,f2,f3,f4,f5⟩:=hf it (by simp);exact wpAny_pyNext_range_end (I.ok.hd hc) st (by have:n<=i:=hg; omega) fun h' eb=>⟨rfl,I.turned (t':=s.toks) (fun b o hb e=>eb b o hb e) f0 f1 f3 f4 f5⟩
 self:=fun _ _ _ _ _ st h=>wpAny_pyIter_rangeiter st h
section
variable {X:Cx} {tg:Expr}
def zoC(K:qe)(tl:TE):TI:=fun σ H R=>tl σ H fun x H1=>∃ a,x=.ref a/\(∃ xs,SqL K H1 a xs)/\R (Itl K a) H1
def zx1(K:qe)(tl:TE):TI:=fun σ H R=>tl σ H fun x H1=>∃ a,x=.ref a/\(∃ xs,SqT K H1 a xs)/\R (Itt K a) H1
theorem zuD{l:Expr}{tl:TE}(hl:PE X l tl):PI X tg l (zoC X.K tl):=by
 intro pins s σ H R I h;refine thn (hl pins s σ H _ I h) fun v s1 ⟨x,H1,I1,r1,q1⟩=>?_;obtain⟨a,e,⟨xs,hq⟩,q⟩:=q1;subst e;cases r1;obtain⟨its,rv,p,hz⟩:=I1.list hq;refine wpAny_pyIter_list p.isList ?_;refine⟨s1.heap.objs.size,[s1.heap.objs.size],_,_,H1,rfl,I1.kept (t':=s1.toks) fun b o e=>qf _ e,zka a _,⟨_,qi _ rfl,rfl,rfl⟩,fun b hb=>?_,q⟩;have e:b=s1.heap.objs.size:=by simpa using hb
 subst e;exact I1.fpOk (qg _) (I1.hok.fresh (qg _))
theorem zx2{l:Expr}{tl:TE}(hl:PE X l tl):PI X tg l (zx1 X.K tl):=by
 intro pins s σ H R I h;refine thn (hl pins s σ H _ I h) fun v s1 ⟨x,H1,I1,r1,q1⟩=>?_;obtain⟨a,e,⟨xs,hq⟩,q⟩:=q1;subst e;cases r1;obtain⟨its,rv,p,hz⟩:=I1.tuple hq;refine wpAny_pyIter_tuple (show s1.heap.IsTuple a its.toArray from p) ?_;refine⟨s1.heap.objs.size,[s1.heap.objs.size],_,_,H1,rfl,I1.kept (t':=s1.toks) fun b o e=>qf _ e,ziw a _,⟨_,qi _ rfl,rfl,rfl⟩,fun b hb=>?_,q⟩;have e:b=s1.heap.objs.size:=by simpa using hb
 subst e;exact I1.fpOk (qg _) (I1.hok.fresh (qg _))
theorem zlX{pins:List (Addr×Obj)}{σ:St}{H:Hp}{s:Shared}{R:It->Hp->Prop}{E:Value->Shared->Prop}{lo hi:Int}{t u v:Tok}{tk:Nat}(I:Inv X pins σ H s)(h1:-(2^62)<=lo)(h2:lo < 2^62)(h3:-(2^62)<=hi)(h4:hi < 2^62)
  (q:R (Itr lo (hi - lo).toNat) H):wpAny (model X.prog X.w) X.A (pyIter (.ref s.heap.objs.size)) (PIE X pins σ tg R) E { s with heap:=s.heap.push { cls:=.type "range",data:=.fields #[.int lo t,.int hi u,.int 1 v] },toks:=tk }:=by
 refine wpAny_pyIter_range (IsRange.new ..) (small_one h1 h2 h3 h4) ?_;have I1:Inv X pins σ H { s with heap:=s.heap.push { cls:=.type "range",data:=.fields #[.int lo t,.int hi u,.int 1 v] },toks:=tk }:=I.kept fun b o e=>qf _ e;refine⟨(s.heap.push { cls:=.type "range",data:=.fields #[.int lo t,.int hi u,.int 1 v] }).objs.size,[(s.heap.push { cls:=.type "range",data:=.fields #[.int lo t,.int hi u,.int 1 v] }).objs.size],_,_,H,rfl,
  I1.kept (t':=tk) fun b o e=>qf _ e,znr _ lo (hi - lo).toNat,?_,fun b hb=>?_,q⟩
 ·have e1:lo+((0:Nat):Int) * 1=lo:=by simp
  have e2:(((hi - lo).toNat:Nat):Int) - ((0:Nat):Int)=Builtin.Range.rangeSize lo hi 1:=by rw [rangeSize_one]; split<;>omega
  show IsRangeIter _ _ (lo+((0:Nat):Int) * 1) ((((hi - lo).toNat:Nat):Int) - ((0:Nat):Int)) 1;rw [e1,e2];exact qi _ rfl
 ·have e:b=(s.heap.push { cls:=.type "range",data:=.fields #[.int lo t,.int hi u,.int 1 v] }).objs.size:=by simpa using hb
  subst e;exact I1.fpOk (qg _) (I1.hok.fresh (qg _))
def zq7(ta:TA):TI:=fun σ H R=>ta σ H fun vs H1=>∃ j:Int,vs=[.int j]/\-(2^62)<=j/\j < 2^62/\R (Itr 0 j.toNat) H1
def zq8(ta:TA):TI:=fun σ H R=>ta σ H fun vs H1=>∃ i j:Int,vs=[.int i,.int j]/\(-(2^62)<=i/\i < 2^62/\-(2^62)<=j/\j < 2^62)/\R (Itr i (j - i).toNat) H1
theorem zp6{a:Expr}{ta:TA}{p pos:Pos}(hg:Gl X "range")(hm:X.mg "range"=none)(ha:PA X [a] ta)(hs:starEach [a] X.env=[(false,eval a X.env)]:=by rfl):PI X tg (.Call (.Name "range" p) [a] [] pos) (zq7 ta):=by
 intro pins s σ H R I h;refine Call_ (zfY I hg hm boot_range (PyProof.Rows.callWith_type1 (thn (ha pos pins s σ H _ I h) fun us s1 ⟨vs,H1,I1,r1,q1⟩=>?_) hs rfl));obtain⟨j,e,q1,q2,q⟩:=q1;subst e;cases r1 with
 | cons r rr =>
  cases rr;obtain⟨t,rfl⟩:=r;exact call_range_1 (zlX I1 (by omega) (by omega) q1 q2 (by simpa using q))
theorem zp7{a b:Expr}{ta:TA}{p pos:Pos}(hg:Gl X "range")(hm:X.mg "range"=none)(ha:PA X [a,b] ta)(hs:starEach [a,b] X.env=[(false,eval a X.env),(false,eval b X.env)]:=by rfl)(hs2:starEach [b] X.env=[(false,eval b X.env)]:=by rfl) :
  PI X tg (.Call (.Name "range" p) [a,b] [] pos) (zq8 ta):=by
 intro pins s σ H R I h;refine Call_ (zfY I hg hm boot_range (PyProof.Rows.callWith_type1 (thn (ha pos pins s σ H _ I h) fun us s1 ⟨vs,H1,I1,r1,q1⟩=>?_) (by rw [hs,hs2]) (by rw [hs2]; rfl)));obtain⟨i,j,e,⟨q1,q2,q3,q4⟩,q⟩:=q1;subst e;cases r1 with
 | cons r rr =>
  cases rr with
  | cons r' rr =>
   cases rr;obtain⟨t,rfl⟩:=r;obtain⟨t',rfl⟩:=r';exact call_range_2 (zlX I1 q1 q2 q3 q4 q)
def zuE(wi:TI)(g:TG)(tb:TS):TS:=fun D σ H=>wi σ H fun J H1=>∃ W:Nat->Nat->St->Hp->Prop,(∃ m,W 0 m σ H1)/\∀ i m σ H,W i m σ H ->
 (J.stop i H/\D.nx σ H)\/(J.go i H/\∃ N:St->Hp->Prop,(∀ σ' H',N σ' H'->∃ m',m' < m/\W (i+1) m' σ' H')/\∀ x H',J.yld i H x H'->g x σ H' fun σ2 H2=>tb { D with nx:=N,ct:=N,bk:=D.nx } σ2 H2)
def zg1(fp:List Addr)(h:Heap):List (Addr×Obj):=fp.filterMap fun b=>(h.get? b).map fun o=>(b,o)
theorem zcc{fp:List Addr}{h:Heap}{b:Addr}{o:Obj}(hb:b∈fp)(e:h.get? b=some o):(b,o)∈zg1 fp h:=List.mem_filterMap.mpr ⟨b,hb,by rw [e]; rfl⟩
theorem zp8{fp:List Addr}{h:Heap}{p:Addr×Obj}(hp:p∈zg1 fp h):p.1∈fp/\h.get? p.1=some p.2:=by
 obtain⟨b,hb,e⟩:=List.mem_filterMap.mp hp;cases q:h.get? b with
 | none=>rw [q]at e; cases e
 | some o =>
  rw [q]at e;have e':(b,o)=p:=qy e;subst e';exact⟨hb,q⟩
theorem Inv.pinned{pins:List (Addr×Obj)}{σ:St}{H:Hp}{s:Shared}{fp:List Addr}(I:Inv X pins σ H s)(hf:∀ b∈fp,zdv X pins H b)(ho:∀ b∈fp,∃ o,s.heap.get? b=some o/\∀ v,o.data≠.cell v):Inv X (pins++zg1 fp s.heap) σ H s :=
 I.pins_of fun p hp=>(List.mem_append.mp hp).elim (fun z=>I.pin p (qx _ z)) fun z=>by
  obtain⟨hb,e⟩:=zp8 z;obtain⟨f0,f1,f2,_⟩:=hf p.1 hb;obtain⟨o,e',d⟩:=ho p.1 hb;rw [e]at e'; cases e';exact⟨e,f0,f1,f2,d⟩
theorem Inv.unpinned{pins pl:List (Addr×Obj)}{σ:St}{H:Hp}{s:Shared}(I:Inv X (pins++pl) σ H s):Inv X pins σ H s:=I.pins_of fun p hp=>I.pin p (qx _ (List.mem_append_left _ hp))
theorem zx3{iter:Expr}{body:List Stmt}{wi:TI}{g:TG}{tb:TS}{pos:Pos}(hp:PassesOwn (model X.prog X.w) X.A X.env X.xe)(hc:X.calm=true)(hi:PI X tg iter wi)(hg:PG X tg g)(hb:PSs X body tb)
  (hs:∀ x,foldedSetIterable iter X.env x=pure x:=by intro _; rfl):PS X (.For tg iter body [] pos) (zuE wi g tb):=by
 intro pins s σ H D I h;refine wpAny_For (thn (hi pins s σ H _ I h) fun v s1 h1=>thn h1 fun itv s2 h2=>?_) hs;obtain⟨it,fp,tn,J,H2,e,I2,T,st2,f2,W,⟨m0,w0⟩,turn⟩:=h2;subst e;have stat:∀ {H':Hp},(∀ b∈fp,H' b=none)->∀ b∈fp,zdv X pins H' b:=fun hn b hb=>⟨hn b hb,(f2 b hb).2⟩;refine codeAny_forLoop_any (fun n s'=>∃ i σ' H',Inv X pins σ' H' s'/\tn i s'.heap/\(∀ b∈fp,H' b=none)/\W i n σ' H') ?_ m0 ⟨0,σ,H2,I2,st2,fun b hb=>(f2 b hb).1,w0⟩;rintro n s3 ⟨i,σ3,H3,I3,st3,fr3,w3⟩;rcases turn i n σ3 H3 w3 with ⟨stop,qn⟩ | ⟨go,N,hN,step⟩
 ·refine wpAny_passesOwn hp (thn (T.done X rfl rfl rfl hc i pins s3 σ3 H3 X.xe I3 (stat fr3) st3 stop) fun r s4 ⟨hr,I4⟩=>?_)
  subst hr;exact wpAny_execs_nil ⟨σ3,H3,I4,qn⟩
 ·refine wpAny_passesOwn hp (thn (T.item X rfl rfl rfl hc i pins s3 σ3 H3 X.xe I3 (stat fr3) st3 go) fun r s4 ⟨u,hr,h4⟩=>?_)
  subst hr;refine wpAny_passesOwn hp (thn h4 fun _ s5 ⟨x,H5,I5,r5,y5,st5,fr5⟩=>?_);have I5':=I5.pinned (stat fr5) (T.obj _ _ st5);refine wpAny_passesOwn hp (thn (hg _ s5 σ3 H5 x u _ I5' r5 (step x H5 y5)) fun _ s6 ⟨σ6,H6,I6,q6⟩=>?_);refine wpAny_passesOwn hp (thn (hb _ s6 σ6 H6 _ I6 q6) fun f s7 q7=>?_);have again:∀ {σ7:St} {H7:Hp},Inv X (pins++zg1 fp s5.heap) σ7 H7 s7->N σ7 H7->∃ m,m < n/\∃ i σ' H',Inv X pins σ' H' s7/\tn i s7.heap/\(∀ b∈fp,H' b=none)/\W i m σ' H':=fun{σ7 H7} I7 n7=>by
   obtain⟨m',hm,w7⟩:=hN σ7 H7 n7;refine⟨m',hm,i+1,σ7,H7,I7.unpinned,T.keep _ _ _ st5 fun b hb o e=>(I7.pin (b,o) (qx _ (qx _ (zcc hb e)))).1,fun b hb=>?_,w7⟩;obtain⟨o,e,d⟩:=T.obj _ _ st5 b hb;exact(I7.pin (b,o) (qx _ (qx _ (zcc hb e)))).2.1
  cases f with
  | next=>obtain⟨σ7,H7,I7,n7⟩:=q7; exact again I7 n7
  | cont=>obtain⟨σ7,H7,I7,n7⟩:=q7; exact again I7 n7
  | brk=>obtain⟨σ7,H7,I7,q7⟩:=q7; exact⟨σ7,H7,I7.unpinned,q7⟩
  | ret v=>obtain⟨x7,σ7,H7,I7,r7,q7⟩:=q7; exact⟨x7,σ7,H7,I7.unpinned,r7,q7⟩
end
abbrev R2:=V->V->Hp->VK->Prop
def OpR(X:Cx)(f:Value->Value->Sem Value)(r:R2):Prop :=
 ∀ (pins:List (Addr×Obj)) (s:Shared) (σ:St) (H:Hp) (x y:V) (v u:Value) (Q:VK),Inv X pins σ H s->zab x v->zab y u->r x y H Q ->
  wpAny (model X.prog X.w) X.A (f v u) (EP X pins σ Q) X.xe s
def UnR(X:Cx)(f:Value->Sem Value)(r:V->Hp->VK->Prop):Prop :=
 ∀ (pins:List (Addr×Obj)) (s:Shared) (σ:St) (H:Hp) (x:V) (v:Value) (Q:VK),Inv X pins σ H s->zab x v->r x H Q ->
  wpAny (model X.prog X.w) X.A (f v) (EP X pins σ Q) X.xe s
def zbS(X:Cx)(f:Value)(r:List V->Hp->VK->Prop):Prop :=
 ∀ (pins:List (Addr×Obj)) (s:Shared) (σ:St) (H:Hp) (xs:List V) (us:List Value) (Q:VK),Inv X pins σ H s->zP xs us->r xs H Q ->
  wpAny (model X.prog X.w) X.A (call f us) (EP X pins σ Q) X.xe s
def zBd(X:Cx)(r:V->Hp->(Bool->Hp->Prop)->Prop):Prop :=
 ∀ (pins:List (Addr×Obj)) (s:Shared) (σ:St) (H:Hp) (x:V) (v:Value) (Q:Bool->Hp->Prop),Inv X pins σ H s->zab x v->r x H Q ->
  wpAny (model X.prog X.w) X.A (truthy v) (TP X pins σ Q) X.xe s
def tOp(r:R2)(ta tb:TE):TE:=fun σ H Q=>ta σ H fun x H1=>tb σ H1 fun y H2=>r x y H2 Q
def tUn(r:V->Hp->VK->Prop)(ta:TE):TE:=fun σ H Q=>ta σ H fun x H1=>r x H1 Q
def rI(C:Int->Int->Prop)(g:Int->Int->V):R2:=fun x y H Q=>∃ i j,x=.int i/\y=.int j/\C i j/\Q (g i j) H
def rI0(g:Int->Int->V):R2:=fun x y H Q=>∃ i j,x=.int i/\y=.int j/\Q (g i j) H
def rU(g:Int->V):V->Hp->VK->Prop:=fun x H Q=>∃ i,x=.int i/\Q (g i) H
section
variable {X:Cx} {a b c:Expr} {ta tb tc:TE} {pos:Pos}
theorem zx4(ha:PE X a ta)(hb:PE X b tb){pins:List (Addr×Obj)}{s:Shared}{σ:St}{H:Hp}{R:V->V->Hp->Prop}(I:Inv X pins σ H s)
  (h:ta σ H fun x H1=>tb σ H1 fun y H2=>R x y H2) {Q:Value->Shared->Prop} {f:Value->Value->Sem Value}
  (hf:∀ v u s2 x y H2,Inv X pins σ H2 s2->zab x v->zab y u->R x y H2->wpAny (model X.prog X.w) X.A (f v u) Q X.xe s2) :
  wpAny (model X.prog X.w) X.A (eval a X.env) (fun v s₁=>wpAny (model X.prog X.w) X.A (eval b X.env) (fun u s₂=>wpAny (model X.prog X.w) X.A (f v u) Q X.xe s₂) X.xe s₁) X.xe s:=by
 refine thn (ha pins s σ H _ I h) fun v s1 ⟨x,H1,I1,r1,q1⟩=>?_;refine thn (hb pins s1 σ H1 _ I1 q1) fun u s2 ⟨y,H2,I2,r2,q2⟩=>?_;exact hf v u s2 x y H2 I2 r1 r2 q2
theorem zzL{op:Operator}{r:R2}(ho:OpR X (binaryOp op) r)(ha:PE X a ta)(hb:PE X b tb):PE X (.BinOp a op b pos) (tOp r ta tb):=by
 intro pins s σ H Q I h;exact wpAny_BinOp (zx4 ha hb I h fun v u s2 x y H2 I2 rx ry q=>ho pins s2 σ H2 x y v u Q I2 rx ry q)
theorem zzM{op:UnaryOp}{r:V->Hp->VK->Prop}(ho:UnR X (unaryOp op) r)(ha:PE X a ta):PE X (.UnaryOp op a pos) (tUn r ta):=by
 intro pins s σ H Q I h;exact UnaryOp_ (thn (ha pins s σ H _ I h) fun v s1 ⟨x,H1,I1,r1,q1⟩=>ho pins s1 σ H1 x v Q I1 r1 q1)
theorem opI{f:Value->Value->Sem Value}{C:Int->Int->Prop}{g:Int->Int->Int}
  (rule:∀ (i j:Int) (t u:Tok) (s:Shared) (Q:Value->Shared->Prop) (E:Value->Shared->Prop),C i j->Q (.int (g i j) s.toks) { s with toks:=s.toks+1 }->wpAny (model X.prog X.w) X.A (f (.int i t) (.int j u)) Q E s) :
  OpR X f (rI C fun i j=>.int (g i j)):=by
 intro pins s σ H x y v u Q I rx ry h;obtain⟨i,j,rfl,rfl,hc,q⟩:=h;obtain⟨t,rfl⟩:=rx;obtain⟨t',rfl⟩:=ry;exact rule i j t t' s _ _ hc ⟨.int (g i j),H,I.tok _,⟨_,rfl⟩,q⟩
theorem zzN{f:Value->Value->Sem Value}{g:Int->Int->Int}
  (rule:∀ (i j:Int) (t u:Tok) (s:Shared) (Q:Value->Shared->Prop) (E:Value->Shared->Prop),Q (.int (g i j) s.toks) { s with toks:=s.toks+1 }->wpAny (model X.prog X.w) X.A (f (.int i t) (.int j u)) Q E s) :
  OpR X f (rI0 fun i j=>.int (g i j)):=by
 intro pins s σ H x y v u Q I rx ry h;obtain⟨i,j,rfl,rfl,q⟩:=h;obtain⟨t,rfl⟩:=rx;obtain⟨t',rfl⟩:=ry;exact rule i j t t' s _ _ ⟨.int (g i j),H,I.tok _,⟨_,rfl⟩,q⟩
theorem zuF{f:Value->Value->Sem Value}{g:Int->Int->Bool}
  (rule:∀ (i j:Int) (t u:Tok) (s:Shared) (Q:Value->Shared->Prop) (E:Value->Shared->Prop),Q (.bool (g i j)) s->wpAny (model X.prog X.w) X.A (f (.int i t) (.int j u)) Q E s) :
  OpR X f (rI0 fun i j=>.bl (g i j)):=by
 intro pins s σ H x y v u Q I rx ry h;obtain⟨i,j,rfl,rfl,q⟩:=h;obtain⟨t,rfl⟩:=rx;obtain⟨t',rfl⟩:=ry;exact rule i j t t' s _ _ ⟨.bl (g i j),H,I,rfl,q⟩
def zuG(i j:Int):Prop:=0<=j/\j<=1000000/\i.natAbs < 2^64
def zp9(i j:Int):Prop:=(-(2^64) < i/\i < 2^64)\/(-(2^64) < j/\j < 2^64)
theorem zp9.ok{i j:Int}(h:zp9 i j):IntMulOk i j:=by
 rcases h with ⟨h1,h2⟩ | ⟨h1,h2⟩
 ·exact .of_left (intBits_le_64 h1 h2)
 ·exact .of_right (intBits_le_64 h1 h2)
theorem zav:OpR X (binaryOp .Add) (rI0 fun i j=>.int (i+j)):=zzN fun _ _ _ _ _ _ _ q=>add_int q
theorem zdY:OpR X (binaryOp .Sub) (rI0 fun i j=>.int (i - j)):=zzN fun _ _ _ _ _ _ _ q=>sub_int q
theorem zcF:OpR X (binaryOp .Mult) (rI zp9 fun i j=>.int (i * j)):=opI fun _ _ _ _ _ _ _ hc q=>mul_int q hc.ok
theorem zcG:OpR X (binaryOp .Mod) (rI (fun _ j=>0 < j) fun i j=>.int (i % j)):=opI fun i j _ _ _ _ _ hc q=>by
 have h1:(0:Int) < j:=hc;exact mod_int' (by omega) (by rw [Int.fmod_eq_emod_of_nonneg i (by omega)]; exact q)
theorem zx5:OpR X (binaryOp .Pow) (rI zuG fun i j=>.int (i^j.toNat)):=opI fun _ _ _ _ _ _ _ hc q=>pow_int_small hc.1 hc.2.1 hc.2.2 q
theorem unI{f:Value->Sem Value}{g:Int->Int}
  (rule:∀ (i:Int) (t:Tok) (s:Shared) (Q:Value->Shared->Prop) (E:Value->Shared->Prop),Q (.int (g i) s.toks) { s with toks:=s.toks+1 }->wpAny (model X.prog X.w) X.A (f (.int i t)) Q E s) :
  UnR X f (rU fun i=>.int (g i)):=by
 intro pins s σ H x v Q I rx h;obtain⟨i,rfl,q⟩:=h;obtain⟨t,rfl⟩:=rx;exact rule i t s _ _ ⟨.int (g i),H,I.tok _,⟨_,rfl⟩,q⟩
theorem zg2:UnR X (unaryOp .USub) (rU fun i=>.int (-i)):=unI fun _ _ _ _ _ q=>neg_int q
end
def zx6:V->V->Bool
 | .non,.non=>true | .non,.int _=>true | .int _,.non=>true | .non,.bl _=>true | .bl _,.non=>true | .non,.str _=>true | .str _,.non=>true
 | .int _,.int _=>true | .bl _,.bl _=>true | .str _,.str _=>true | .byt _,.byt _=>true
 | .int _,.str _=>true | .str _,.int _=>true | .bl _,.str _=>true | .str _,.bl _=>true
 | _,_=>false
def rEq:R2:=fun x y H Q=>zx6 x y=true/\Q (.bl (decide (x=y))) H
def rNe:R2:=fun x y H Q=>zx6 x y=true/\Q (.bl (!decide (x=y))) H
theorem zoD{i j:Int}:decide (V.int i=V.int j)=(i==j):=by
 rw [Bool.eq_iff_iff];simp
theorem zq9{i j:Bool}:decide (V.bl i=V.bl j)=(i==j):=by
 rw [Bool.eq_iff_iff];simp
theorem zoE{i j:Str}:decide (V.str i=V.str j)=(i==j):=by
 rw [Bool.eq_iff_iff];simp
theorem zoF{i j:Array UInt8}:decide (V.byt i=V.byt j)=(i.toList==j.toList):=by
 rw [Bool.eq_iff_iff];cases i;cases j;simp
section
variable {X:Cx} {a b c:Expr} {ta tb tc:TE} {pos:Pos}
theorem zam{pins:List (Addr×Obj)}{σ:St}{H:Hp}{s:Shared}{Q:VK}{k k':Bool}(I:Inv X pins σ H s)(q:Q (.bl k) H)(e:k=k'):EP X pins σ Q (.bool k') s:=by
 subst e;exact⟨.bl k,H,I,rfl,q⟩
theorem za3:OpR X (compareOp .Eq) rEq:=by
 intro pins s σ H x y v u Q I rx ry h;obtain⟨hs,q⟩:=h;cases x with
 | non =>
  cases rx;cases y with
  | non=>cases ry; exact PySem.EqNone.eq_none_none (zam I q (by simp))
  | bl j=>cases ry; exact PySem.EqNone.eq_none_bool (zam I q (by simp))
  | int j=>obtain⟨t',rfl⟩:=ry; exact PySem.EqNone.eq_none_int (zam I q (by simp))
  | str j=>obtain⟨t',rfl⟩:=ry; exact PySem.EqNone.eq_none_str (zam I q (by simp))
  | _=>exact absurd (show false=true from hs) qh
 | bl i =>
  cases rx;cases y with
  | non=>cases ry; exact PySem.EqNone.eq_bool_none (zam I q (by simp))
  | bl j=>cases ry; exact eq_bool (zam I q zq9)
  | str j=>obtain⟨t',rfl⟩:=ry; exact PySem.EqMixed.eq_bool_str (zam I q (by simp))
  | _=>exact absurd (show false=true from hs) qh
 | int i =>
  obtain⟨t,rfl⟩:=rx;cases y with
  | non=>cases ry; exact PySem.EqNone.eq_int_none (zam I q (by simp))
  | int j=>obtain⟨t',rfl⟩:=ry; exact eq_int (zam I q zoD)
  | str j=>obtain⟨t',rfl⟩:=ry; exact PySem.EqMixed.eq_int_str (zam I q (by simp))
  | _=>exact absurd (show false=true from hs) qh
 | str i =>
  obtain⟨t,rfl⟩:=rx;cases y with
  | non=>cases ry; exact PySem.EqNone.eq_str_none (zam I q (by simp))
  | bl j=>cases ry; exact PySem.EqMixed.eq_str_bool (zam I q (by simp))
  | int j=>obtain⟨t',rfl⟩:=ry; exact PySem.EqMixed.eq_str_int (zam I q (by simp))
  | str j=>obtain⟨t',rfl⟩:=ry; exact eq_str (zam I q zoE)
  | _=>exact absurd (show false=true from hs) qh
 | byt i =>
  obtain⟨t,rfl⟩:=rx;cases y with
  | byt j=>obtain⟨t',rfl⟩:=ry; exact PySem.W.eq_bytes (zam I q zoF)
  | _=>exact absurd (show false=true from hs) qh
 | _=>cases y<;>exact absurd (show false=true from hs) qh
theorem zgl:OpR X (compareOp .NotEq) rNe:=by
 intro pins s σ H x y v u Q I rx ry h;obtain⟨hs,q⟩:=h;cases x with
 | non =>
  cases rx;cases y with
  | non=>cases ry; exact PySem.EqNone.ne_none_none (zam I q (by simp))
  | bl j=>cases ry; exact PySem.EqNone.ne_none_bool (zam I q (by simp))
  | int j=>obtain⟨t',rfl⟩:=ry; exact PySem.EqNone.ne_none_int (zam I q (by simp))
  | str j=>obtain⟨t',rfl⟩:=ry; exact PySem.EqNone.ne_none_str (zam I q (by simp))
  | _=>exact absurd (show false=true from hs) qh
 | bl i =>
  cases rx;cases y with
  | non=>cases ry; exact PySem.EqNone.ne_bool_none (zam I q (by simp))
  | bl j=>cases ry; exact ne_bool (zam I q (congrArg not zq9))
  | str j=>obtain⟨t',rfl⟩:=ry; exact PySem.EqMixed.ne_bool_str (zam I q (by simp))
  | _=>exact absurd (show false=true from hs) qh
 | int i =>
  obtain⟨t,rfl⟩:=rx;cases y with
  | non=>cases ry; exact PySem.EqNone.ne_int_none (zam I q (by simp))
  | int j=>obtain⟨t',rfl⟩:=ry; exact ne_int (zam I q (congrArg not zoD))
  | str j=>obtain⟨t',rfl⟩:=ry; exact PySem.EqMixed.ne_int_str (zam I q (by simp))
  | _=>exact absurd (show false=true from hs) qh
 | str i =>
  obtain⟨t,rfl⟩:=rx;cases y with
  | non=>cases ry; exact PySem.EqNone.ne_str_none (zam I q (by simp))
  | bl j=>cases ry; exact PySem.EqMixed.ne_str_bool (zam I q (by simp))
  | int j=>obtain⟨t',rfl⟩:=ry; exact PySem.EqMixed.ne_str_int (zam I q (by simp))
  | str j=>obtain⟨t',rfl⟩:=ry; exact ne_str (zam I q (congrArg not zoE))
  | _=>exact absurd (show false=true from hs) qh
 | byt i =>
  obtain⟨t,rfl⟩:=rx;cases y with
  | byt j=>obtain⟨t',rfl⟩:=ry; exact PySem.W.ne_bytes (zam I q (congrArg not zoF))
  | _=>exact absurd (show false=true from hs) qh
 | _=>cases y<;>exact absurd (show false=true from hs) qh
theorem zew:OpR X (compareOp .Lt) (rI0 fun i j=>.bl (decide (i < j))):=zuF fun _ _ _ _ _ _ _ q=>lt_int q
theorem zra:OpR X (compareOp .LtE) (rI0 fun i j=>.bl (decide (i<=j))):=zuF fun _ _ _ _ _ _ _ q=>le_int q
theorem zrb:OpR X (compareOp .Gt) (rI0 fun i j=>.bl (decide (j < i))):=zuF fun _ _ _ _ _ _ _ q=>gt_int q
theorem zwl:OpR X (compareOp .GtE) (rI0 fun i j=>.bl (decide (j<=i))):=zuF fun _ _ _ _ _ _ _ q=>ge_int q
theorem zkO:OpR X (compareOp .IsNot) (fun x y H Q=>y=.non/\Q (.bl (!decide (x=.non))) H):=by
 intro pins s σ H x y v u Q I rx ry h;obtain⟨rfl,q⟩:=h;cases ry;refine isnot_none_gen (zam I q ?_);cases x<;>first
  | (cases rx; rfl)
  | (obtain⟨t,rfl⟩:=rx; rfl)
theorem zrc(b:Expr){op:CmpOp}(h:op≠.In:=by decide)(h2:op≠.NotIn:=by decide):behindInMarks op b=false:=by
 have e1:(op==CmpOp.In)=false:=by cases op<;>first | rfl | exact absurd rfl h
 have e2:(op==CmpOp.NotIn)=false:=by cases op<;>first | rfl | exact absurd rfl h2
 cases b<;>simp [behindInMarks,e1,e2]
theorem zuH{op:CmpOp}{r:R2}(ho:OpR X (compareOp op) r)(ha:PE X a ta)(hb:PE X b tb)(hm:behindInMarks op b=false):PE X (.Compare a [op] [b] pos) (tOp r ta tb):=by
 intro pins s σ H Q I h;exact wpAny_Compare1 (zx4 ha hb I h fun v u s2 x y H2 I2 rx ry q=>ho pins s2 σ H2 x y v u Q I2 rx ry q) hm
def zrd(t:TE):TT:=fun σ H Q=>t σ H fun x H'=>∃ k,x=.bl k/\Q k H'
theorem zuI{op:CmpOp}{r:R2}(ho:OpR X (compareOp op) r)(ha:PE X a ta)(hb:PE X b tb)(hm:behindInMarks op b=false):PT X (.Compare a [op] [b] pos) (zrd (tOp r ta tb)):=by
 intro pins s σ H Q I h;refine wpAny_isTrue_Compare1 (thn (ha pins s σ H _ I h) fun v s1 ⟨x,H1,I1,r1,q1⟩=>thn (hb pins s1 σ H1 _ I1 q1) fun u s2 ⟨y,H2,I2,r2,q2⟩ =>
  thn (ho pins s2 σ H2 x y v u _ I2 r1 r2 q2) fun c s3 ⟨z,H3,I3,r3,k,e,q3⟩=>?_) hm
 subst e;cases r3;exact wpAny_truthy_bool ⟨H3,I3,q3⟩
def zns(r r':R2)(ta tb tc:TE):TE:=fun σ H Q=>ta σ H fun x H1=>tb σ H1 fun y H2=>r x y H2 fun z H3=>∃ k,z=.bl k /\
 (if k=true then tc σ H3 fun w' H4=>r' y w' H4 Q else Q (.bl false) H3)
theorem zre{op op':CmpOp}{r r':R2}(ho:OpR X (compareOp op) r)(ho':OpR X (compareOp op') r')(ha:PE X a ta)(hb:PE X b tb)(hc:PE X c tc)
  (hm:lastMarks [op,op'] [b,c]=false:=by with_unfolding_all rfl):PE X (.Compare a [op,op'] [b,c] pos) (zns r r' ta tb tc):=by
 intro pins s σ H Q I h;refine Compare_chain (thn (ha pins s σ H _ I h) fun v s1 ⟨x,H1,I1,r1,q1⟩=>chain_link (thn (hb pins s1 σ H1 _ I1 q1) fun u s2 ⟨y,H2,I2,r2,q2⟩ =>
  thn (ho pins s2 σ H2 x y v u _ I2 r1 r2 q2) fun d s3 ⟨z,H3,I3,r3,k,e,q3⟩=>?_)) hm
 subst e;cases r3;refine wpAny_truthy_bool ?_;cases k with
 | false=>exact ite_ff ⟨.bl false,H3,I3,rfl,q3⟩
 | true=>exact ite_tt (chain_last (thn (hc pins s3 σ H3 _ I3 q3) fun w' s4 ⟨z',H4,I4,r4,q4⟩=>ho' pins s4 σ H4 y z' u w' Q I4 r2 r4 q4))
def zx7(K:qe)(x:V)(H:Hp)(k:Bool):Prop :=
 match x with
 | .non=>k=false
 | .bl b=>k=b
 | .int i=>k=(i != 0)
 | .str y=>y.length<=sizeLine/\k=((y.length:Int) != 0)
 | .byt y=>y.size<=sizeLine/\k=((y.size:Int) != 0)
 | .ref p=>(∃ xs,SqL K H p xs/\k=!xs.isEmpty)\/(∃ xs,SqT K H p xs/\k=!xs.isEmpty)\/∃ kvs,H p=some (.dK kvs)/\k=!kvs.isEmpty
 | _=>False
theorem znt{κ:Type}{kvs:List (κ×V)}{vs:List (κ×Value)}(r:KV kvs vs):(!vs.isEmpty)=!kvs.isEmpty:=by
 cases r<;>rfl
theorem zix{xs:List V}{its:List Value}(r:zP xs its):(!its.toArray.isEmpty)=!xs.isEmpty:=by
 cases r<;>simp
theorem zg3:(sizeLine:Nat) < 2^63:=by rw [sizeLine_eq]; decide
theorem zx8:zBd X (fun x H Q=>∃ k,zx7 X.K x H k/\Q k H):=by
 intro pins s σ H x v Q I rx h;obtain⟨k,e,q⟩:=h;have hl:=zg3;have hs:sizeLine=16777216:=sizeLine_eq;cases x with
 | non =>
  cases rx;have e':k=false:=e;subst e';exact truthy_none ⟨H,I,q⟩
 | bl b =>
  cases rx;have e':k=b:=e;subst e';exact wpAny_truthy_bool ⟨H,I,q⟩
 | int i =>
  obtain⟨t,rfl⟩:=rx;have e':k=(i != 0):=e;subst e';exact PySem.P.truthy_int ⟨H,I,q⟩
 | str y =>
  obtain⟨t,rfl⟩:=rx;obtain⟨hy,e'⟩:y.length<=sizeLine/\k=((y.length:Int) != 0):=e;subst e';exact PySem.P.truthy_str (by omega) ⟨H,I.tok _,q⟩
 | byt y =>
  obtain⟨t,rfl⟩:=rx;obtain⟨hy,e'⟩:y.size<=sizeLine/\k=((y.size:Int) != 0):=e;subst e';exact PySem.W.truthy_bytes (by omega) ⟨H,I.tok _,q⟩
 | ref p =>
  cases rx;have e':(∃ xs,SqL X.K H p xs/\k=!xs.isEmpty)\/(∃ xs,SqT X.K H p xs/\k=!xs.isEmpty)\/∃ kvs,H p=some (.dK kvs)/\k=!kvs.isEmpty:=e;rcases e' with ⟨xs,hx,e'⟩ | ⟨xs,hx,e'⟩ | ⟨kvs,hx,e'⟩
  ·subst e'
   obtain⟨its,r,pl,hz⟩:=I.list hx;have hlen:=r.length;exact wpAny_truthy_list pl.isList (by simp only [List.size_toArray]; omega) ⟨H,I.tok _,by rw [zix r]; exact q⟩
  ·subst e'
   obtain⟨its,r,pl,hz⟩:=I.tuple hx;have hlen:=r.length;exact truthy_tuple pl (by simp only [List.size_toArray]; omega) ⟨H,I.tok _,by rw [zix r]; exact q⟩
  ·subst e'
   obtain⟨hz,hS,vs,r,m⟩:kvs.length<=sizeLine/\(p==sysModules)=false/\∃ vs,KV kvs vs/\s.heap.DictOf (zaq X.prog X.w) p vs:=I.hok p _ hx;have hlen:kvs.length=vs.length:=Paired.length r;exact wpAny_truthy_dict hS m (by omega) ⟨H,I.tok _,by rw [znt r]; exact q⟩
 | _=>exact(show False from e).elim
theorem zrf(ha:PE X a ta)(he:∀ whole,isTrue a X.env whole=(do let v <-whole; standAt a.pos; holding [v] (truthy v))) :
  PT X a (fun σ H Q=>ta σ H fun x H'=>∃ k,zx7 X.K x H' k/\Q k H'):=by
 intro pins s σ H Q I h;exact isTrue_plain (thn (ha pins s σ H _ I h) fun v s1 ⟨x,H1,I1,r1,q1⟩=>zx8 pins s1 σ H1 x v Q I1 r1 q1) (he _)
theorem zdZ:OpR X (binaryOp .Add) (fun x y H Q=>∃ i j,x=.str i/\y=.str j/\i.length+j.length<=sizeLine/\Q (.str (i++j)) H):=by
 intro pins s σ H x y v u Q I rx ry h;obtain⟨i,j,rfl,rfl,hz,q⟩:=h;obtain⟨t,rfl⟩:=rx;obtain⟨t',rfl⟩:=ry;exact add_str (fun t' tk=>⟨.str (i++j),H,I.tok _,⟨_,rfl⟩,q⟩) hz
theorem zgm{x:V}{us:List Value}(r:zP [x] us):∃ u,us=[u]/\zab x u:=by
 cases r with
 | cons r1 r2=>cases r2; exact⟨_,rfl,r1⟩
theorem zoG{x y:V}{us:List Value}(r:zP [x,y] us):∃ u w',us=[u,w']/\zab x u/\zab y w':=by
 cases r with
 | cons r1 r2 =>
  cases r2 with
  | cons r3 r4=>cases r4; exact⟨_,_,rfl,r1,r3⟩
theorem zex:zbS X (.builtin "abs") (fun xs H Q=>∃ i,xs=[.int i]/\Q (.int (if i < 0 then -i else i)) H):=by
 intro pins s σ H xs us Q I r h;obtain⟨i,rfl,q⟩:=h;obtain⟨u,rfl,t,rfl⟩:=zgm r;exact call_abs_int fun u tk=>⟨.int (if i < 0 then -i else i),H,I.tok _,⟨_,rfl⟩,q⟩
theorem zg4(hc:X.calm=true):zbS X (.builtin "max") (fun xs H Q=>∃ i j,xs=[.int i,.int j]/\Q (.int (if j > i then j else i)) H):=by
 intro pins s σ H xs us Q I r h;obtain⟨i,j,rfl,q⟩:=h;obtain⟨u,w',rfl,⟨t,rfl⟩,⟨t',rfl⟩⟩:=zoG r;refine max_two_ints (I.ok.hd hc) fun h' tk k=>⟨_,H,I.kept k,?_,q⟩
 by_cases hj:j > i
 ·rw [if_pos hj,if_pos hj]; exact⟨_,rfl⟩
 ·rw [if_neg hj,if_neg hj]; exact⟨_,rfl⟩
theorem ze5:zbS X (.type "int") (fun xs H Q=>(∃ i,xs=[.int i]/\Q (.int i) H)\/∃ k,xs=[.bl k]/\Q (.int (if k then 1 else 0)) H):=by
 intro pins s σ H xs us Q I r h;rcases h with ⟨i,rfl,q⟩ | ⟨k,rfl,q⟩
 ·obtain⟨u,rfl,t,rfl⟩:=zgm r
  exact call_int_int ⟨.int i,H,I,⟨_,rfl⟩,q⟩
 ·obtain⟨u,rfl,r1⟩:=zgm r
  cases r1;exact call_int_bool ⟨.int (if k then 1 else 0),H,I.tok _,⟨_,rfl⟩,q⟩
end
structure ObjM (h:Heap) (x dx C:Addr) (mA:Str->Option Value):Prop where
 obj:h.get? x=some (PySem.W.instObj C dx)
 ns:h.Ns1 dx mA
 ne:dx≠x
theorem zqa{h:Heap}{dx:Addr}{mA:Str->Option Value}(n:h.Ns1 dx mA):∃ od,h.get? dx=some od/\∀ name,PySem.W.lookIn name od=some (mA name):=by
 obtain⟨o,es,ep,ho,hd,hk,_,hm⟩:=n;refine⟨o,ho,fun name=>?_⟩;have e:=hm name;unfold nsFind findBy at e;rw [<-Array.find?_toList]at e;unfold PySem.W.lookIn;rw [hd];dsimp only;split
 ·rename_i y q
  rw [q]at e;exact congrArg some e
 ·rename_i q
  rw [q]at e;have a:es.toList.any (·.refKey)=false:=by
   rw [List.any_eq_false];intro y hy;obtain⟨z,t,hkey⟩:=hk y (Array.mem_toList_iff.mp hy);simp [DictEntry.refKey,hkey]
  have a':¬es.toList.any (·.refKey)=true:=by rw [a]; exact qh
  rw [if_neg a'];exact congrArg some e
theorem ObjM.look{h:Heap}{x dx C:Addr}{mA:Str->Option Value}(I:ObjM h x dx C mA):∃ od,PySem.W.InstAt h x (PySem.W.instObj C dx) C (some od)/\∀ name,PySem.W.lookIn name od=some (mA name) :=
 let ⟨od,ho,hl⟩:=zqa I.ns
 ⟨od,⟨I.obj,rfl,rfl,ho⟩,hl⟩
section
variable {prog:Program} {w:World} {A:Around} {E:Value->Shared->Prop} {s:Shared} {K:qe} {x dx C f:Addr} {mA:Str->Option Value} {name:Str} {v:Value}
theorem zuJ{expr:Bool}{Q:Value->Shared->Prop}(X:K.In s.heap)(I:ObjM s.heap x dx C mA)(hg:PySem.W.plainGet K C name=true)(hh:PySem.W.hasDictIn K C=true)
  (ha:PySem.W.findIn K (.ref C) name=some none) (hv:mA name=some v) (hv':PySem.W.handedIn v=true) (h:Q v { s with toks:=s.toks+1 }) :
  wpAny (model prog w) A (getAttr (.ref x) name expr) Q E s:=by
 obtain⟨od,J,hl⟩:=I.look;exact PySem.W.get_value X J (PySem.W.plainGet_of hg).1 (PySem.W.findObj_own hh ha rfl (by rw [hl,hv])) hv' h
theorem zuK{ns:List Str}{Q:Unit->Shared->Prop}(X:K.In s.heap)(I:ObjM s.heap x dx C mA)
  (hs:PySem.W.findIn K (.ref C) "__setattr__"=some (some (.builtin "object.__setattr__"))) (hp:PySem.W.plainOver K C=true) (ht:PySem.W.takerIn K C name=some none) (hh:PySem.W.hasDictIn K C=true)
  (hw:PySem.Within mA ns) (hsz:ns.length<=sizeLine)
  (h:∀ h',ObjM h' x dx C (fun y=>if y=name then some v else mA y)->Heap.SameBut dx s.heap h'->Q () { s with heap:=h',toks:=s.toks+2 }) :
  wpAny (model prog w) A (setAttr (.ref x) name v) Q E s:=by
 obtain⟨od,J,hl⟩:=I.look;refine PySem.W.set_plain X J hs (PySem.W.osa_open (s:={ s with toks:=s.toks+1 }) (r:=none) X J hp ht fun b=>?_);obtain⟨cd,hc,hd'⟩:=PySem.W.any_some hh;have hx:s.heap.get? x=some ⟨.ref C,some dx,.plain,#[]⟩:=I.obj;refine qc (qd (qc (qc (wpAny_loadPart hx (qc (PySem.W.Looks.here (s:={ s with toks:=s.toks+1 }) (PySem.W.looks_clsIn X hc) ?_))))));rw [hd'];refine qd (a:=some dx) (qc (qd (qc ?_)));refine wpAny_nsSet1 (s:={ s with toks:=s.toks+1 }) I.ns fun h' hn2 hs2=>?_;obtain⟨oD,esD,epD,hoD,hdD,hcD⟩:=hn2.count (PySem.Within.cons name v hw);refine qc (wpAny_lookBehind hoD (by rw [hdD]; exact pastItsLine_dict (qA hcD (by rw [qv]; omega))) ?_);exact qd (h _ ⟨(hs2.2 _ (Ne.symm I.ne)).trans I.obj,hn2,I.ne⟩ hs2)
theorem zrg{R:Result->Shared->Prop}{vs:List Value}{kw:List (Str×Value)}(X:K.In s.heap)(hm:PySem.W.makesIn K C=true)
  (hi:PySem.W.findIn K (.ref C) "__init__"=some (some (.ref f))) (hf:PySem.W.typeIn K (.ref f)=some (.type "function"))
  (h:codeAny (model prog w) (A.under (.builtin "type.__call__" ⟨.ref C::vs,kw⟩)) (.call (.ref f) ⟨.ref (s.heap.objs.size+1)::vs,kw⟩) (PySem.W.InitBack (s.heap.objs.size+1) R)
   { s with heap:=(s.heap.push PySem.W.emptyDict).push (PySem.W.instObj C s.heap.objs.size) }) :
  codeAny (model prog w) A (.call (.ref C) ⟨vs,kw⟩) R s:=by
 obtain⟨hh,g,d,t,os⟩:=s;exact PySem.W.make_core (PySem.W.makes_of X hm) (PySem.W.looks_findIn X hi) (fun self=>PySem.W.bind_fn X self hf) (.inl rfl) h
end
def zcH(f:Str)(v:V):List (Str×V)->List (Str×V)
 | []=>[(f,v)]
 | (g,x)::r=>if g=f then(g,v)::r else(g,x)::zcH f v r
theorem zhq(f g:Str)(v:V):∀ fs:List (Str×V),(zcH f v fs).lookup g=if g=f then some v else fs.lookup g
 | []=>by
  show List.lookup g [(f,v)]=_
  by_cases h:g=f
  ·have hb:(g==f)=true:=beq_iff_eq.mpr h
   simp only [List.lookup,hb,if_pos h]
  ·have hb:(g==f)=false:=beq_eq_false_iff_ne.mpr h
   simp only [List.lookup,hb,if_neg h]
 | (k,x)::r=>by
  have ih:=zhq f g v r;rw [show zcH f v ((k,x)::r)=(if k=f then(k,v)::r else(k,x)::zcH f v r) from rfl]
  by_cases hk:k=f
  ·rw [if_pos hk]
   by_cases h:g=k
   ·have hb:(g==k)=true:=beq_iff_eq.mpr h
    simp only [List.lookup,hb,if_pos (h.trans hk)]
   ·have hb:(g==k)=false:=beq_eq_false_iff_ne.mpr h
    simp only [List.lookup,hb,if_neg (fun e:g=f=>h (e.trans hk.symm))]
  ·rw [if_neg hk]
   by_cases h:g=k
   ·have hb:(g==k)=true:=beq_iff_eq.mpr h
    simp only [List.lookup,hb,if_neg (fun e:g=f=>hk (h.symm.trans e))]
   ·have hb:(g==k)=false:=beq_eq_false_iff_ne.mpr h
    simp only [List.lookup,hb];exact ih
theorem zg5(f:Str)(v:V):∀ fs:List (Str×V),f∈(zcH f v fs).map (·.1)/\∀ g,g∈fs.map (·.1)->g∈(zcH f v fs).map (·.1)
 | []=>⟨by simp [zcH],fun g h=>by simp at h⟩
 | (k,x)::r=>by
  obtain⟨i1,i2⟩:=zg5 f v r;rw [show zcH f v ((k,x)::r)=(if k=f then(k,v)::r else(k,x)::zcH f v r) from rfl]
  by_cases hk:k=f
  ·rw [if_pos hk]
   subst hk;exact⟨by simp,fun g h=>by simpa using h⟩
  ·rw [if_neg hk]
   refine⟨?_,fun g h=>?_⟩
   ·rw [List.map_cons]
    exact qp _ i1
   ·rw [List.map_cons]at h ⊢
    rcases qw.mp h with e | e
    ·exact qw.mpr (.inl e)
    ·exact qp _ (i2 g e)
theorem zhr(f:Str)(v:V):∀ fs:List (Str×V),(zcH f v fs).length<=fs.length+1
 | []=>by simp [zcH]
 | (k,x)::r=>by
  have ih:=zhr f v r;rw [show zcH f v ((k,x)::r)=(if k=f then(k,v)::r else(k,x)::zcH f v r) from rfl]
  by_cases hk:k=f
  ·rw [if_pos hk,qv,qv]; omega
  ·rw [if_neg hk,qv,qv]; omega
theorem zfX.some_of{v:V}{o:Option Value}(r:zfX (some v) o):∃ u,o=some u/\zab v u:=by
 cases o with
 | none=>exact(show False from r).elim
 | some u=>exact⟨u,rfl,r⟩
theorem zqb{v:V}{u:Value}(r:zab v u):PySem.W.handedIn u=true:=by
 cases v with
 | non=>cases(show u=Value.none from r); rfl
 | bl b=>cases(show u=Value.bool b from r); rfl
 | int i=>obtain⟨t,e⟩:=(show ∃ t,u=Value.int i t from r); cases e; rfl
 | str x=>obtain⟨t,e⟩:=(show ∃ t,u=Value.str x t from r); cases e; rfl
 | byt b=>obtain⟨t,e⟩:=(show ∃ t,u=Value.bytes b t from r); cases e; rfl
 | flt b=>obtain⟨t,e⟩:=(show ∃ t,u=Value.float b t from r); cases e; rfl
 | ref a=>cases(show u=Value.ref a from r); rfl
 | ty n=>cases(show u=Value.type n from r); rfl
section
variable {P:Program} {w:World} {K:qe} {H H':Hp} {h h':Heap} {a C dx:Addr} {fs fs':List (Str×V)}
theorem zoH(hok:HOk P w K H h)(e:H a=some (.ins C dx fs)):∃ mA,ObjM h a dx C mA/\(∀ f,zfX (fs.lookup f) (mA f))/\PySem.Within mA (fs.map (·.1))/\fs.length<=1000/\H dx=some (.own a):=by
 obtain⟨d,z,ne,ob,mA,n,r,q⟩:=(show zao P w K H h a (.ins C dx fs) from hok a _ e);exact⟨mA,⟨ob,n,ne⟩,r,q,z,d⟩
end
structure Cls (K:qe) (C:Addr):Prop where
 pg:PySem.W.plainGet K C Str.empty=true
 hd:PySem.W.hasDictIn K C=true
 po:PySem.W.plainOver K C=true
 sa:PySem.W.findIn K (.ref C) "__setattr__"=some (some (.builtin "object.__setattr__"))
theorem Cls.get{K:qe}{C:Addr}(c:Cls K C)(f:Str):PySem.W.plainGet K C f=true:=c.pg
def zbD(K:qe)(C:Addr)(f:Str):Prop:=PySem.W.findIn K (.ref C) f=some none
theorem zbD.taker{K:qe}{C:Addr}{f:Str}(n:zbD K C f):PySem.W.takerIn K C f=some none:=by
 unfold PySem.W.takerIn;rw [show PySem.W.findIn K (.ref C) f=some none from n];rfl
section
variable {X:Cx} {pins:List (Addr×Obj)} {σ:St} {H:Hp} {s:Shared} {a C dx:Addr} {fs:List (Str×V)} {f:Str} {v:V} {A:Around} {E:Value->Shared->Prop}
theorem znu{y:V}{u:Value}{Q:Unit->Shared->Prop}(I:Inv X pins σ H s)(e:H a=some (.ins C dx fs))(c:Cls X.K C)(n:zbD X.K C f)(hl:fs.length < 1000)(ry:zab y u)
  (h:∀ s',Inv X pins σ (upd H a (.ins C dx (zcH f y fs))) s'->Q () s'):wpAny (model X.prog X.w) A (setAttr (.ref a) f u) Q E s:=by
 obtain⟨mA,O,r,wi,_,ho⟩:=zoH I.hok e;have hz:(fs.map (·.1)).length<=sizeLine:=by rw [List.length_map,sizeLine_eq]; omega
 refine zuK I.kIn O c.sa c.po n.taker c.hd wi hz fun h' O' sb=>h _ ?_;have hd:∃ o,h'.get? dx=some o:=let ⟨o,_,_,e',_⟩:=O'.ns; ⟨o,e'⟩;refine I.write (x:=a) (e:=dx) (by rw [e]; exact True.intro) (.inr ho) (fun b q hb z=>(sb.2 b hb).trans z) hd ?_;refine⟨by rw [zI O.ne]; exact ho,?_,O.ne,O'.obj,_,O'.ns,fun g=>?_,fun g hg=>?_⟩
 ·have:=zhr f y fs; omega
 ·show zfX ((zcH f y fs).lookup g) (if g=f then some u else mA g)
  rw [zhq]
  by_cases q:g=f
  ·rw [if_pos q,if_pos q]; exact ry
  ·rw [if_neg q,if_neg q]; exact r g
 ·by_cases q:g=f
  ·rw [q]; exact(zg5 f y fs).1
  ·refine(zg5 f y fs).2 g (wi g fun z=>hg ?_)
   show(if g=f then some u else mA g)=none;rw [if_neg q]; exact z
theorem Inv.made(I:Inv X pins σ H s):Inv X pins σ (upd (upd H s.heap.objs.size (.own (s.heap.objs.size+1))) (s.heap.objs.size+1) (.ins C s.heap.objs.size []))
  { s with heap:=(s.heap.push PySem.W.emptyDict).push (PySem.W.instObj C s.heap.objs.size) }:=by
 have e1:(s.heap.push PySem.W.emptyDict).get? s.heap.objs.size=some PySem.W.emptyDict:=qi s.heap rfl;have e2:((s.heap.push PySem.W.emptyDict).push (PySem.W.instObj C s.heap.objs.size)).get? (s.heap.objs.size+1)=some (PySem.W.instObj C s.heap.objs.size):=by
  have:=qi (s.heap.push PySem.W.emptyDict) (o:=PySem.W.instObj C s.heap.objs.size) rfl
  rwa [Heap.size_push]at this
 have e3:(s.heap.push PySem.W.emptyDict).Ns s.heap.objs.size (fun _=>none):=⟨PySem.W.emptyDict,#[],_,e1,rfl,(fun e he=>absurd he (by simp)),fun _=>rfl⟩;have I1:=I.laid (a:=s.heap.objs.size) (o:=.own (s.heap.objs.size+1)) (h':=s.heap.push PySem.W.emptyDict) (t':=s.toks) (fun b u q=>qf _ q) (qg _) ⟨_,e1⟩;refine I1.laid (a:=s.heap.objs.size+1) (o:=.ins C s.heap.objs.size []) (t':=s.toks) (fun b u q=>qf _ q) (Nat.le_of_eq (Heap.size_push _ _)) ?_;have ne:s.heap.objs.size≠s.heap.objs.size+1:=ql (Nat.lt_succ_self _);refine⟨by rw [zI ne,zD],Nat.zero_le _,ne,e2,fun _=>none,(Heap.Ns1.of_empty e3).at fun o q=>qf _ q,fun _=>True.intro,fun y hy=>absurd rfl hy⟩
theorem zuL{prog:Program}{w:World}{env:Env}{e:Expr}{f:Str}{pos:Pos}{s:Shared}{Q:Value->Shared->Prop}(hb:attributeBase e f env (eval e env)=eval e env)
  (h:wpAny (model prog w) A (eval e env) (fun o s₁=>wpAny (model prog w) A (getAttr o f true) Q E s₁) E s):wpAny (model prog w) A (eval (.Attribute e f pos) env) Q E s :=
 Attribute_any_ h (by rw [arm_eval_Attribute,hb])
end
def zuM(K:qe)(ta tv:TE)(f:Str):TS:=fun D σ H=>tv σ H fun y H1=>ta σ H1 fun x H2=>∃ a C dx fs,x=.ref a/\H2 a=some (.ins C dx fs)/\Cls K C/\zbD K C f/\fs.length < 1000 /\
 D.nx σ (upd H2 a (.ins C dx (zcH f y fs)))
section
variable {X:Cx} {o e value:Expr} {f:Str} {pos pos' tpos:Pos} {ta tv:TE}
theorem znv(ha:PE X o ta)(hv:PE X value tv)(hs:swapsWith value (some (.Attribute o f pos')) pos.line X.env=pure false):PS X (.Assign [.Attribute o f pos'] value pos) (zuM X.K ta tv f):=by
 intro pins s σ H D I h;refine plainObj_wpAny_Assign_Attribute (thn (hv pins s σ H _ I h) fun u s1 ⟨y,H1,I1,ry,q⟩=>thn (ha pins s1 σ H1 _ I1 q) fun ov s2 ⟨x,H2,I2,rx,a,C,dx,fs,ex,ea,c,n,l,q2⟩=>?_) hs;subst ex;obtain rfl:ov=Value.ref a:=rx;exact znu I2 ea c n l ry fun s3 I3=>⟨σ,_,I3,q2⟩
end
section
variable {X:Cx} {pins:List (Addr×Obj)} {σ:St} {H:Hp} {s:Shared} {A:Around} {E:Value->Shared->Prop} {Q:Value->Shared->Prop} {c:Value} {b:Bool}
inductive TyOf (K:qe) (H:Hp):V->Value->Prop where
 | non:TyOf K H .non (.type "NoneType")
 | bl (x:Bool):TyOf K H (.bl x) (.type "bool")
 | int (i:Int):TyOf K H (.int i) (.type "int")
 | str (x:Str):TyOf K H (.str x) (.type "str")
 | flt (x:UInt64):TyOf K H (.flt x) (.type "float")
 | lst {a:Addr} {xs:List V} (e:H a=some (.lst xs)):TyOf K H (.ref a) (.type "list")
 | frz {a:Addr} {o:Obj} {xs:List V} (e:H a=some (.frz o (.lst xs))):TyOf K H (.ref a) (.type "list")
 | tup {a:Addr} {xs:List V} (e:TpK K H a xs):TyOf K H (.ref a) (.type "tuple")
 | dK {a:Addr} {kvs:List (Key×V)} (e:H a=some (.dK kvs)):TyOf K H (.ref a) (.type "dict")
 | dT {a:Addr} {kvs:List (List Key×V)} (e:H a=some (.dT kvs)):TyOf K H (.ref a) (.type "dict")
 | ins {a C dx:Addr} {fs:List (Str×V)} (e:H a=some (.ins C dx fs)) (cl:Cls K C) (ha:PySem.W.findIn K (.ref C) "__class__"=some (some (.builtin "object.__class__")))
   (hn:PySem.W.specialIn K (.builtin "object.__class__") "__get__"=some (some (.builtin "getset_descriptor.__get__"))) (htk:PySem.W.takesIn K (.builtin "object.__class__")=some true)
   (hm:PySem.W.mroIn K C (.type "object")=some true):TyOf K H (.ref a) (.ref C)
theorem zqc{x:V}{u t:Value}(I:Inv X pins σ H s)(rx:zab x u)(ty:TyOf X.K H x t)(e:PySem.W.kitOne X.K t c=some b)(h:∀ tk,Q (.bool b) { s with toks:=tk }) :
  wpAny (model X.prog X.w) A (call (.builtin "isinstance") [u,c]) Q E s:=by
 cases ty with
 | non=>cases(show u=Value.none from rx); exact PySem.W.kia_one PySem.W.kitx_none I.kIn True.intro e (fun z=>nomatch z) h
 | bl y=>cases(show u=Value.bool y from rx); exact PySem.W.kia_one PySem.W.kitx_bool I.kIn True.intro e (fun z=>nomatch z) h
 | int i=>obtain⟨t,q⟩:=(show ∃ t,u=Value.int i t from rx); cases q; exact PySem.W.kia_one PySem.W.kitx_int I.kIn True.intro e (fun z=>nomatch z) h
 | str y=>obtain⟨t,q⟩:=(show ∃ t,u=Value.str y t from rx); cases q; exact PySem.W.kia_one PySem.W.kitx_str I.kIn True.intro e (fun z=>nomatch z) h
 | flt y=>obtain⟨t,q⟩:=(show ∃ t,u=Value.float y t from rx); cases q; exact PySem.W.kia_one PySem.W.kitx_float I.kIn True.intro e (fun z=>nomatch z) h
 | @lst a xs ea =>
  cases(show u=Value.ref a from rx);obtain⟨_,_,n,_,h1⟩:=(show zao X.prog X.w X.K H s.heap a (.lst xs) from I.hok a _ ea);exact PySem.W.kia_one PySem.W.kitx_list I.kIn ⟨_,h1,rfl⟩ e (fun z=>nomatch z) h
 | @frz a ob xs ea =>
  cases(show u=Value.ref a from rx);obtain⟨_,_,_,n,_,h1⟩:=(show zao X.prog X.w X.K H s.heap a (.frz ob (.lst xs)) from I.hok a _ ea);exact PySem.W.kia_one PySem.W.kitx_list I.kIn ⟨_,h1,rfl⟩ e (fun z=>nomatch z) h
 | @tup a xs ea =>
  cases(show u=Value.ref a from rx);rcases ea with ea | ⟨o,its,n,hk,hc,_⟩
  case inr=>exact PySem.W.kia_one PySem.W.kitx_tuple I.kIn ⟨o,I.kIn a o hk,hc⟩ e (fun z=>nomatch z) h
  obtain⟨_,_,_,p⟩:=(show zao X.prog X.w X.K H s.heap a (.tup xs) from I.hok a _ ea);obtain⟨o,h1,h2,_⟩:=p;exact PySem.W.kia_one PySem.W.kitx_tuple I.kIn ⟨o,h1,h2⟩ e (fun z=>nomatch z) h
 | @dK a kvs ea =>
  cases(show u=Value.ref a from rx);obtain⟨_,_,vs,_,p⟩:=(show zao X.prog X.w X.K H s.heap a (.dK kvs) from I.hok a _ ea);obtain⟨o,es,ep,h1,h2,_⟩:=p;exact PySem.W.kia_one PySem.W.kitx_dict I.kIn ⟨o,h1,h2.1⟩ e (fun z=>nomatch z) h
 | @dT a kvs ea =>
  cases(show u=Value.ref a from rx);obtain⟨_,_,xs,_,o,es,ep,h1,h2,_⟩:=(show zao X.prog X.w X.K H s.heap a (.dT kvs) from I.hok a _ ea);exact PySem.W.kia_one PySem.W.kitx_dict I.kIn ⟨o,h1,h2.1⟩ e (fun z=>nomatch z) h
 | @ins a C dx fs ea cl ha hn htk hm =>
  cases(show u=Value.ref a from rx);obtain⟨mA,O,_⟩:=zoH I.hok ea;obtain⟨od,J,_⟩:=O.look;exact PySem.W.kia_one (PySem.W.kitx_own (cl.get _) cl.hd ha hn htk hm) I.kIn J e (fun z=>nomatch z) h
end
structure Room (k:Nat) (A:Around):Prop where
 hd:A.handled=none
 dp:A.depth+3 * k+5 < recursionLimit
 un:A.units+16 * k+200 < cLine
 gd:A.guards=some []
theorem Room.mono{j k:Nat}{A:Around}(r:Room k A)(h:j<=k):Room j A:=⟨r.hd,by have:=r.dp; omega,by have:=r.un; omega,r.gd⟩
theorem Room.deeper{k:Nat}{A:Around}(r:Room (k+1) A)(env:Env):Room k (A.deeper env) :=
 ⟨r.hd,by have:=r.dp; show A.depth+1+3 * k+5 < _; omega,by have:=r.un; show A.units+3+16 * k+200 < _; omega,r.gd⟩
theorem znw{A:Around}{C:Addr}{us:List Value}{kw:List (Str×Value)}:(A.under (.builtin "type.__call__" ⟨.ref C::us,kw⟩)).depth=A.depth+1:=by
 first | rfl | simp [Around.under,Code.weight,Code.isCreation,Code.isGuard,Code.isCaller,Code.frames,Code.isFrame,guardIds]
theorem znx{A:Around}{C:Addr}{us:List Value}{kw:List (Str×Value)}:(A.under (.builtin "type.__call__" ⟨.ref C::us,kw⟩)).units=A.units+1:=by
 first | rfl | simp [Around.under,Code.cUnits,Code.frames,Code.isFrame]
theorem Room.make{k:Nat}{A:Around}(r:Room (k+1) A)(C:Addr)(us:List Value)(kw:List (Str×Value)):Room k (A.under (.builtin "type.__call__" ⟨.ref C::us,kw⟩)) :=
 ⟨r.hd,by have:=r.dp; rw [znw]; omega,by have:=r.un; rw [znx]; omega,by have:=r.gd; first | exact this | simpa [Around.under,Code.isGuard,guardIds] using this⟩
theorem Room.depth{k:Nat}{A:Around}(r:Room k A):A.depth < recursionLimit:=by have:=r.dp; omega
theorem Room.units{k:Nat}{A:Around}(r:Room k A):A.units+64 < cLine:=by have:=r.un; omega
def zny:TA:=fun _ H Q=>Q [] H
def zfp(ta:TE)(tr:TA):TA:=fun σ H Q=>ta σ H fun x H1=>tr σ H1 fun xs H2=>Q (x::xs) H2
section
variable {X:Cx} {e:Expr} {es:List Expr} {te:TE} {t:TA} {pos:Pos}
theorem zx9:PA X [] zny:=fun _ _ _ _ H Q I h=>Calls.spliced_nil ⟨[],H,I,.nil,h⟩
theorem zuN(ha:PE X e te)(hr:PA X es t)(hs:starEach (e::es) X.env=(false,eval e X.env)::starEach es X.env:=by rfl):PA X (e::es) (zfp te t):=by
 intro pos pins s σ H Q I h;rw [hs];show wpAny _ _ (spliced ((false,eval e X.env)::backTo pos (starEach es X.env))) _ _ s;refine Calls.spliced_cons (thn (ha pins s σ H _ I h) fun u s1 ⟨x,H1,I1,r1,q1⟩=>?_);exact thn (hr pos pins s1 σ H1 _ I1 q1) fun us s2 ⟨xs,H2,I2,r2,q2⟩=>⟨x::xs,H2,I2,.cons r1 r2,q2⟩
def zya(t:TA):TE:=fun σ H Q=>t σ H fun xs H1=>xs.length<=sizeLine/\∀ p,H1 p=none->Q (.ref p) (upd H1 p (.tup xs))
def zyb(t:TA):TE:=fun σ H Q=>t σ H fun xs H1=>xs.length<=sizeLine/\∀ p,H1 p=none->Q (.ref p) (upd H1 p (.lst xs))
theorem zyc{x1}(h:PA X es t):PE X (.Tuple es x1 pos) (zya t):=by
 intro pins s σ H Q I hq;refine wpAny_Tuple_spliced (thn (h pos pins s σ H _ I hq) fun us s1 ⟨xs,H1,I1,r,z,q⟩=>⟨by rw [<-r.length]; exact z,?_⟩);have hf:H1 s1.heap.objs.size=none:=I1.hok.fresh (qg _);refine⟨.ref s1.heap.objs.size,upd H1 s1.heap.objs.size (.tup xs),I1.laid (t':=s1.toks) (fun b u e=>qf _ e) (qg _) ?_,rfl,q _ hf⟩;exact⟨z,us,r,⟨_,qi _ rfl,rfl,⟨_,rfl⟩,.inl rfl⟩⟩
theorem zyd(h:PA X es t):PE X (.List es pos) (zyb t):=by
 intro pins s σ H Q I hq;refine wpAny_List_spliced (thn (h pos pins s σ H _ I hq) fun us s1 ⟨xs,H1,I1,r,z,q⟩=>⟨by rw [<-r.length]; exact z,?_⟩);have hf:H1 s1.heap.objs.size=none:=I1.hok.fresh (qg _);refine⟨.ref s1.heap.objs.size,upd H1 s1.heap.objs.size (.lst xs),I1.laid (t':=s1.toks) (fun b u e=>qf _ e) (qg _) ?_,rfl,q _ hf⟩;exact⟨z,us,0,r,qi _ rfl⟩
end
abbrev Sp:=List V->Hp->VK->XK->Prop
abbrev CXT:=List Env->Hp->Shared->XK->Value->Shared->Prop
structure Env0 (P:Program) (w:World) (K:qe) (mg:Str->Option Value) (base:Heap) (A:Around) (outer:List Env) (s:Shared) (H:Hp):Prop where
 frames:A.frames=some outer
 mod:Mod K mg base
 bs:∀ b o,base.get? b=some o->s.heap.get? b=some o/\H b=none
 bsz:base.objs.size<=s.heap.objs.size
 funs:s.heap.FunFrames base outer
 frf:∀ b∈frs outer,H b=none
 hok:HOk P w K H s.heap
 bare:AllBare s.gens
def CE(outer:List Env)(P:Program)(w:World)(K:qe)(H:Hp)(s:Shared)(Q:VK)(u:Value)(s':Shared):Prop :=
 ∃ v H',s'.os=s.os/\AllBare s'.gens/\Un (frs outer) [] H H' s.heap s'.heap/\HOk P w K H' s'.heap/\zab v u/\Q v H'
def CR(CX:CXT)(outer:List Env)(P:Program)(w:World)(K:qe)(H:Hp)(s:Shared)(Q:VK)(E:XK)(r:Result)(s':Shared):Prop :=
 match r with
 | .ok (.ret u)=>CE outer P w K H s Q u s'
 | .ok _=>False
 | .error e=>CX outer H s E e s'
structure FnOk (P:Program) (w:World) (K:qe) (mg:Str->Option Value) (base:Heap) (CX:CXT) (k:Nat) (f:Addr) (fd:FuncData) (ps:List Str) (sp:Sp):Prop where
 len:∀ vs H Q E,sp vs H Q E->vs.length=ps.length
 run:∀ (A:Around) (outer:List Env) (s:Shared) (H:Hp) (args:Args) (us:List Value) (vs:List V) (Q:VK) (E:XK),Room k A->Env0 P w K mg base A outer s H->BindsTo s fd args (ps.zip us)->zP vs us->sp vs H Q E ->
  codeAny (model P w) A (.call (.ref f) args) (CR CX outer P w K H s Q E) s
theorem FnOk.imp{P:Program}{w:World}{K:qe}{mg:Str->Option Value}{base:Heap}{CX:CXT}{k:Nat}{f:Addr}{fd:FuncData}{ps:List Str}{sp sp':Sp}(F:FnOk P w K mg base CX k f fd ps sp)
  (h:∀ vs H Q E,sp' vs H Q E->sp vs H Q E):FnOk P w K mg base CX k f fd ps sp' :=
 ⟨fun vs H Q E q=>F.len vs H Q E (h _ _ _ _ q),fun A outer s H args us vs Q E hr he hb hv hs=>F.run A outer s H args us vs Q E hr he hb hv (h _ _ _ _ hs)⟩
theorem Env0.make{P:Program}{w:World}{K:qe}{mg:Str->Option Value}{base:Heap}{A:Around}{outer:List Env}{s:Shared}{H:Hp}(e:Env0 P w K mg base A outer s H)(C:Addr)(us:List Value)(kw:List (Str×Value)) :
  Env0 P w K mg base (A.under (.builtin "type.__call__" ⟨.ref C::us,kw⟩)) outer s H:=⟨by first | exact e.frames | (simpa [Around.under,Code.envs,Code.isFrame,pushEnvs] using e.frames),e.mod,e.bs,e.bsz,e.funs,e.frf,e.hok,e.bare⟩
section
variable {X:Cx} {pins:List (Addr×Obj)} {σ:St} {H:Hp} {s s':Shared}
theorem Inv.env0(I:Inv X pins σ H s):Env0 X.prog X.w X.K X.mg X.base X.A X.stack s H :=
 ⟨I.ok.frames,I.ok.mod,I.bs,qA I.ok.bsz I.sz,I.stack,I.stkFree,I.hok,I.bare⟩
theorem Inv.after{Q:VK}{u:Value}(I:Inv X pins σ H s)(h:CE X.stack X.prog X.w X.K H s Q u s'):EP X pins σ Q u s':=by
 obtain⟨v,H',os,bare,un,hok,r,q⟩:=h;obtain⟨hh,g,d,t,os'⟩:=s';obtain rfl:os'=s.os:=os;exact⟨v,H',I.call (h':=hh) (g':=g) (d':=d) (t':=t) (ch:=[]) un hok bare (fun b z=>absurd z (by simp)),r,q⟩
end
def zzO(sp:Sp)(dvs:List V)(E:XK)(t:TA):TE:=fun σ H Q=>t σ H fun vs H1=>sp (vs++dvs) H1 Q E
def zwm(C:Addr)(sp:Sp)(dvs:List V)(E:XK)(t:TA):TE:=fun σ H Q=>t σ H fun vs H1=>∀ x dx,H1 x=none->H1 dx=none->dx≠x ->
 sp (.ref x::(vs++dvs)) (upd (upd H1 dx (.own x)) x (.ins C dx [])) (fun v H2=>v=.non/\Q (.ref x) H2) E
def zfq(K:qe)(fd:FuncData)(ps:List Str)(ds:List Value):Prop :=
 ∀ (s:Shared) (us:List Value),K.In s.heap->(us++ds).length=ps.length->BindsTo s fd ⟨us,[]⟩ (ps.zip (us++ds))
theorem zfq.all{K:qe}{fd:FuncData}{ps:List Str}(h:∀ us:List Value,us.length=ps.length->bindArgs fd ⟨us,[]⟩=pure (ps.zip us)):zfq K fd ps []:=fun s us _ hl=>by
 rw [List.append_nil]at hl ⊢;exact .of_eq (h us hl)
def ziy(CX:CXT)(X:Cx)(E:XK):Prop:=∀ (pins:List (Addr×Obj)) (σ:St) (H:Hp) (s:Shared) (e:Value) (s':Shared),Inv X pins σ H s->CX X.stack H s E e s'->X.xe e s'
section
variable {X:Cx} {CX:CXT} {k:Nat} {f C:Addr} {fd:FuncData} {ps:List Str} {sp:Sp} {dvs:List V} {ds:List Value} {E:XK} {x m:Str} {p pos apos:Pos} {e o:Expr} {es:List Expr} {ta:TE} {t:TA}
theorem zye{pins:List (Addr×Obj)}{σ:St}{H:Hp}{s:Shared}{Q:VK}{us:List Value}{vs:List V}(F:FnOk X.prog X.w X.K X.mg X.base CX k f fd ps sp)(hr:Room k X.A)(hb:zfq X.K fd ps ds)(hd:zP dvs ds)(hx:ziy CX X E)
  (I:Inv X pins σ H s) (r:zP vs us) (h:sp (vs++dvs) H Q E):wpAny (model X.prog X.w) X.A (call (.ref f) us) (EP X pins σ Q) X.xe s:=by
 have r2:zP (vs++dvs) (us++ds):=r.append hd;have hl:(us++ds).length=ps.length:=by rw [<-r2.length]; exact F.len _ _ _ _ h
 refine wpAny_call (codeAny_mono (F.run X.A X.stack s H ⟨us,[]⟩ (us++ds) (vs++dvs) Q E hr I.env0 (hb s us I.kIn hl) r2 h) fun r s' hq=>?_);cases r with
 | error e=>exact hx pins σ H s e s' I hq
 | ok fl =>
  cases fl with
  | ret u=>exact I.after hq
  | next=>exact False.elim hq
  | brk=>exact False.elim hq
  | cont=>exact False.elim hq
theorem zuO(F:FnOk X.prog X.w X.K X.mg X.base CX k f fd ps sp)(hr:Room k X.A)(hg:Gl X x)(hm:X.mg x=some (.ref f))(hk:PySem.W.keepIn X.K (.ref f)=true)(hb:zfq X.K fd ps ds)(hd:zP dvs ds)(hx:ziy CX X E)
  (ha:PA X (e::es) t) (hdb:(x==("__debug__":Str))=false:=by decide) (he:starEach (e::es) X.env=(false,eval e X.env)::starEach es X.env:=by rfl) (hpl:(backTo pos (starEach es X.env)).any (·.1)=false:=by rfl) :
  PE X (.Call (.Name x p) (e::es) [] pos) (zzO sp dvs E t):=by
 intro pins s σ H Q I h;refine wpAny_Call_Name_kw (zkM I hg hm ?_ hdb);refine PySem.W.callWith_K (h₀:=X.base) I.ok.mod.kin hk (thn (ha pos pins s σ H _ I h) fun us s1 ⟨vs,H1,I1,r,q⟩=>⟨I1.kIn,?_⟩) he hpl;exact zye F hr hb hd hx I1 r q
structure Mk (K:qe) (C f:Addr):Prop where
 makes:PySem.W.makesIn K C=true
 init:PySem.W.findIn K (.ref C) "__init__"=some (some (.ref f))
 fn:PySem.W.isFn K (.ref f)=true
 kp:PySem.W.keepIn K (.ref C)=true
theorem zrh{pins:List (Addr×Obj)}{σ:St}{H:Hp}{s:Shared}{Q:VK}{us:List Value}{vs:List V}(M:Mk X.K C f)(F:FnOk X.prog X.w X.K X.mg X.base CX k f fd ps sp)(hr:Room (k+1) X.A)(hb:zfq X.K fd ps ds)(hd:zP dvs ds)
  (hx:ziy CX X E) (I:Inv X pins σ H s) (r:zP vs us)
  (h:∀ x dx,H x=none->H dx=none->dx≠x->sp (.ref x::(vs++dvs)) (upd (upd H dx (.own x)) x (.ins C dx [])) (fun v H2=>v=.non/\Q (.ref x) H2) E) :
  wpAny (model X.prog X.w) X.A (call (.ref C) us) (EP X pins σ Q) X.xe s:=by
 have hq:=h (s.heap.objs.size+1) s.heap.objs.size (I.hok.fresh (Nat.le_succ _)) (I.hok.fresh (qg _)) (ql (Nat.lt_succ_self _));have I2:=Inv.made (C:=C) I;have r2:zP (V.ref (s.heap.objs.size+1)::(vs++dvs)) (Value.ref (s.heap.objs.size+1)::(us++ds)):=.cons rfl (r.append hd);have hl:(Value.ref (s.heap.objs.size+1)::us++ds).length=ps.length:=by
  have e:=r2.length;rw [F.len _ _ _ _ hq]at e;exact e.symm
 refine wpAny_call (zrg (f:=f) I.kIn M.makes M.init (beq_iff_eq.mp M.fn) (codeAny_mono (F.run _ X.stack _ _ ⟨Value.ref (s.heap.objs.size+1)::us,[]⟩ (Value.ref (s.heap.objs.size+1)::(us++ds)) _ _ E (hr.make C us [])
  (I2.env0.make C us []) (hb _ (Value.ref (s.heap.objs.size+1)::us) I2.kIn hl) r2 hq) fun r s' hq'=>?_))
 cases r with
 | error e=>exact hx pins σ _ _ e s' I2 hq'
 | ok fl =>
  cases fl with
  | ret u =>
   obtain⟨v,H',I3,rv,ev,q3⟩:=I2.after hq';subst ev;exact⟨rv,⟨V.ref (s.heap.objs.size+1),H',I3,rfl,q3⟩⟩
  | next=>exact False.elim hq'
  | brk=>exact False.elim hq'
  | cont=>exact False.elim hq'
theorem zuP(M:Mk X.K C f)(F:FnOk X.prog X.w X.K X.mg X.base CX k f fd ps sp)(hr:Room (k+1) X.A)(hg:Gl X x)(hm:X.mg x=some (.ref C))(hb:zfq X.K fd ps ds)(hd:zP dvs ds)(hx:ziy CX X E)
  (ha:PA X (e::es) t) (hdb:(x==("__debug__":Str))=false:=by decide) (he:starEach (e::es) X.env=(false,eval e X.env)::starEach es X.env:=by rfl) (hpl:(backTo pos (starEach es X.env)).any (·.1)=false:=by rfl) :
  PE X (.Call (.Name x p) (e::es) [] pos) (zwm C sp dvs E t):=by
 intro pins s σ H Q I h;refine wpAny_Call_Name_kw (zkM I hg hm ?_ hdb);refine PySem.W.callWith_K (h₀:=X.base) I.ok.mod.kin M.kp (thn (ha pos pins s σ H _ I h) fun us s1 ⟨vs,H1,I1,r,q⟩=>⟨I1.kIn,?_⟩) he hpl;exact zrh M F hr hb hd hx I1 r q
end
section
variable {X:Cx} {CX:CXT} {k:Nat} {f C:Addr} {fd:FuncData} {ps ks:List Str} {sp:Sp} {E:XK} {x m:Str} {p pos apos kpos:Pos} {e o:Expr} {es:List Expr} {kws:List Keyword} {te ta:TE} {t tk:TA} {nm:Option Str}
variable {g:List Value->List Value->List Value} {gV:List V->List V->List V}
end
structure FnScope (N P:List Str) (sc:Scope):Prop where
 kind:sc.kind=.function
 co:sc.isCoroutine=false
 gen:sc.isGenerator=false
 nd:N.Nodup
 pre:N.take P.length=P
 par:∀ x∈P,sc.names.lookup x=some .local\/sc.names.lookup x=some .cell
 nofree:∀ y∈sc.names,y.2≠.free
theorem zkb{kindOf:Str->Option NameKind}{x:Str}:∀ {binds:List (Str×Value)} {m:Str->Option Value},(∀ v,(x,v)∉binds)->bindL kindOf binds m x=m x
 | [],_,_=>rfl
 | (n,v)::r,m,h=>by
  unfold bindL;rw [zkb fun w hw=>h w (qp _ hw)];split
  ·have:x≠n:=by rintro rfl; exact h v qq
   simp [this]
  ·rfl
theorem zkc{kindOf:Str->Option NameKind}{x:Str}:∀ {binds:List (Str×Value)} {m:Str->Option Value},(∀ v,(x,v)∉binds)->bindC kindOf binds m x=m x
 | [],_,_=>rfl
 | (n,v)::r,m,h=>by
  unfold bindC;rw [zkc fun w hw=>h w (qp _ hw)];split
  ·rfl
  ·have:x≠n:=by rintro rfl; exact h v qq
   simp [this]
theorem zkd{kindOf:Str->Option NameKind}{x:Str}{v:Value}:∀ {P:List Str} {vs:List Value} {i:Nat} {m:Str->Option Value},P.Nodup->P[i]?=some x->vs[i]?=some v->kindOf x=some .local ->
  bindL kindOf (P.zip vs) m x=some v
 | [],_,_,_,_,h,_,_=>by simp at h
 | _::_,[],_,_,_,_,h,_=>by simp at h
 | p::P,w::vs,0,m,nd,h1,h2,hk=>by
  simp at h1 h2; subst h1; subst h2;show bindL kindOf ((p,w)::P.zip vs) m p=_;unfold bindL;rw [zkb fun v hv=>(List.nodup_cons.mp nd).1 (List.of_mem_zip hv).1,if_pos hk];simp
 | p::P,w::vs,i+1,m,nd,h1,h2,hk=>by
  show bindL kindOf ((p,w)::P.zip vs) m x=_;unfold bindL;exact zkd (i:=i) (List.nodup_cons.mp nd).2 (by simpa using h1) (by simpa using h2) hk
theorem zke{kindOf:Str->Option NameKind}{x:Str}{v:Value}:∀ {P:List Str} {vs:List Value} {i:Nat} {m:Str->Option Value},P.Nodup->P[i]?=some x->vs[i]?=some v->kindOf x≠some .local ->
  bindC kindOf (P.zip vs) m x=some v
 | [],_,_,_,_,h,_,_=>by simp at h
 | _::_,[],_,_,_,_,h,_=>by simp at h
 | p::P,w::vs,0,m,nd,h1,h2,hk=>by
  simp at h1 h2; subst h1; subst h2;show bindC kindOf ((p,w)::P.zip vs) m p=_;unfold bindC;rw [zkc fun v hv=>(List.nodup_cons.mp nd).1 (List.of_mem_zip hv).1,if_neg hk];simp
 | p::P,w::vs,i+1,m,nd,h1,h2,hk=>by
  show bindC kindOf ((p,w)::P.zip vs) m x=_;unfold bindC;exact zke (i:=i) (List.nodup_cons.mp nd).2 (by simpa using h1) (by simpa using h2) hk
def zb9(N:List Str)(vs:List V):St:=vs.map some++List.replicate (N.length - vs.length) none
def zkP(CX:CXT)(P:Program)(w:World)(K:qe)(mg:Str->Option Value)(base:Heap)(N:List Str)(qual:Str)(scope:Scope)(f:Addr)(cd:Value)(A:Around)(outer:List Env)(s:Shared)(H:Hp)(E:XK):Cx where
 prog:=P
 w:=w
 K:=K
 mg:=mg
 base:=base
 A:=A.deeper (envOfC qual scope s.heap.objs.size f cd)
 N:=N
 s₀:=s
 H₀:=H
 env:=envOfC qual scope s.heap.objs.size f cd
 outer:=outer
 stack:=envOfC qual scope s.heap.objs.size f cd::outer
 ex:=[]
 calm:=true
 fn:=fun _=>true
 pn:=[]
 xe:=fun e s'=>wpAny (model P w) (A.deeper (envOfC qual scope s.heap.objs.size f cd)) (leaving (envOfC qual scope s.heap.objs.size f cd) e) (fun _ s''=>CX outer H s E e s'') (fun e' s''=>CX outer H s E e' s'') s'
theorem zlY{sc:Scope}{n:Nat}{x:Str}(h:sc.names.lookup x=some .cell):∃ c,(cellsFrom n sc.names []).lookup x=some c:=by
 have q:=PySem.W.cellsFrom_some sc.names n [] (.inl h);exact Option.isSome_iff_exists.mp q
theorem zqd{CX:CXT}{P:Program}{w:World}{K:qe}{mg:Str->Option Value}{base:Heap}{N ps:List Str}{qual:Str}{scope:Scope}{f:Addr}{cd:Value}{A:Around}{outer:List Env}{s s1:Shared}{H:Hp}{E:XK}{us:List Value}{vs:List V}
  (S:FnScope N ps scope) (hd:A.handled=none) (e0:Env0 P w K mg base A outer s H) (hl:vs.length=ps.length) (r:zP vs us)
  (x:InCallC s s.heap.objs.size (bindL (envOfC qual scope s.heap.objs.size f cd).kindOf (ps.zip us) fun _=>none) (cellsFrom (s.heap.objs.size+1) scope.names []) (bindC (envOfC qual scope s.heap.objs.size f cd).kindOf (ps.zip us) fun _=>none) s1) :
  Inv (zkP CX P w K mg base N qual scope f cd A outer s H E) [] (zb9 N vs) H s1:=by
 have hpl:ps.length<=N.length:=by have:=congrArg List.length S.pre; rw [List.length_take]at this; omega
 obtain⟨h1,tk,rfl,hk⟩:=x.done;have noA:∀ b:Addr,b∉(zkP CX P w K mg base N qual scope f cd A outer s H E).ex:=fun b z=>absurd (show b∈([]:List Addr) from z) (by simp);refine⟨⟨e0.mod,S.kind,rfl,rfl,qg _,fun y z c h1 h2=>?_,fun y hy=>?_,fun y c _ h=>?_,fun _=>hd,Around.frames_deeper e0.frames,.inr ⟨rfl,rfl⟩,fun b z=>absurd z (noA b),e0.bs,e0.bsz,fun b _ _=>noA b,fun b z=>absurd z (noA b),e0.funs,e0.frf⟩,
  rfl,e0.bare,Un.kept hk,⟨_,x.toInCall.ns,fun i y v h1 h2 h3=>?_⟩,fun y c h=>⟨_,x.cell y c h⟩,e0.hok.fresh (qg _),fun y c h=>?_,fun p hp=>absurd (show p∈([]:List (Addr×Obj)) from hp) (by simp),e0.hok.kept hk,?_⟩
 ·exact name_of_addr x.apart (PySem.mem_of_lookup h1) (PySem.mem_of_lookup h2)
 ·have hy:scope.names.lookup y=some .cell\/scope.names.lookup y=some .free:=hy
  rcases hy with hy | hy
  ·exact zlY hy
  ·exact absurd rfl (S.nofree _ (PySem.mem_of_lookup hy))
 ·exact Nat.le_of_lt (x.above y c (PySem.mem_of_lookup h))
 ·have hi:i < vs.length:=by
   unfold zb9 at h2
   by_cases hi:i < vs.length
   ·exact hi
   ·rw [List.getElem?_append_right (by simpa using hi)]at h2
    rw [List.getElem?_replicate]at h2;split at h2<;>cases h2
  have ha:vs[i]?=some v:=by
   unfold zb9 at h2;rw [List.getElem?_append_left (by simpa using hi),List.getElem?_map]at h2;cases e:vs[i]? with
   | none=>rw [e]at h2; cases h2
   | some a=>rw [e]at h2; cases h2; rfl
  obtain⟨u,hu,rv⟩:=r.get ha;have hp:ps[i]?=some y:=by
   rw [<-S.pre,List.getElem?_take_of_lt (by omega)]; exact h1
  have ndP:ps.Nodup:=by rw [<-S.pre]; exact S.nd.sublist (List.take_sublist _ _)
  refine⟨u,rv,?_⟩;rcases S.par y (List.mem_of_getElem? hp)with k | k
  ·exact .inl ⟨k,zkd ndP hp hu k⟩
  ·obtain⟨c,e⟩:=zlY (n:=s.heap.objs.size+1) k
   refine .inr ⟨.inl k,c,e,?_⟩;have q:=x.cell y c e;rw [zke ndP hp hu (by show scope.names.lookup y≠_; rw [k]; decide)]at q;exact q
 ·exact e0.hok.fresh (Nat.le_of_lt (x.above y c (PySem.mem_of_lookup h)))
 ·unfold zb9
  show _=N.length;rw [qu,List.length_map,List.length_replicate];omega
theorem zzP{CX:CXT}{P:Program}{w:World}{K:qe}{mg:Str->Option Value}{base:Heap}{k:Nat}{f:Addr}{name qual:Str}{params:Arguments}{body:List Stmt}{scope:Scope}{dV kV doc pm cdv ct oc:Value}{an od:Option Addr}
  {osl:Array (Option Value)} {N ps:List Str} {sp:Sp} (lk:K.lookup f=some ⟨oc,od,.func (PySem.W.fnOf name qual params body scope dV kV doc pm an cdv ct),osl⟩) (hcd:PySem.W.codeIn K cdv qual=true) (S:FnScope N ps scope)
  (len:∀ vs H Q E,sp vs H Q E->vs.length=ps.length)
  (hbody:∀ (A:Around) (outer:List Env) (s:Shared) (H:Hp) (vs:List V) (Q:VK) (E:XK),Room k (A.deeper (envOfC qual scope s.heap.objs.size f cdv))->sp vs H Q E ->
   ∃ t,PSs (zkP CX P w K mg base N qual scope f cdv A outer s H E) body t/\t { nx:=fun _ H'=>Q .non H',rt:=Q } (zb9 N vs) H) :
  FnOk P w K mg base CX (k+1) f (PySem.W.fnOf name qual params body scope dV kV doc pm an cdv ct) ps sp:=by
 refine⟨len,fun A outer s H args us vs Q E hr e0 hb r hsp=>?_⟩;have hl:=len _ _ _ _ hsp;have KX:K.In s.heap:=e0.mod.kin.keeps fun b o e=>(e0.bs b o e).1;have lim:s.heap.NoLimit:=e0.mod.nolimit.keeps fun b o e=>(e0.bs b o e).1;have hkind:∀ y∈ps.zip us,scope.names.lookup y.1=some .local\/(scope.names.lookup y.1=some .cell/\((cellsFrom (s.heap.objs.size+1) scope.names []).lookup y.1).isSome=true):=fun⟨n,v⟩ hy=>by
  rcases S.par n (List.of_mem_zip hy).1 with q | q
  ·exact .inl q
  ·exact .inr ⟨q,PySem.W.cellsFrom_some _ _ _ (.inl q)⟩
 refine codeAny_call_function hr.depth (KX _ _ lk) rfl S.co S.gen rfl (PySem.W.codeRec_of KX hcd) (hb _ _ _ _ ?_);refine wpAny_newFunctionEnv_cells S.kind hkind fun env he s1 x=>?_;subst he;refine⟨lim.keeps x.toInCall.keep,codeAny_func ?_⟩;obtain⟨t,ht,hq⟩:=hbody A outer s H vs Q E (hr.deeper _) hsp;have I:Inv (zkP CX P w K mg base N qual scope f cdv A outer s H E) [] (zb9 N vs) H s1:=zqd S hr.hd e0 hl r x;refine wpAny_mono (ht [] s1 (zb9 N vs) H _ I hq) (fun fl s' hs=>?_) fun e s' hs=>hs;have fin:∀ {σ':St} {H':Hp} {v:V} {u:Value},Inv (zkP CX P w K mg base N qual scope f cdv A outer s H E) [] σ' H' s'->zab v u->Q v H'->CE outer P w K H s Q u s' :=
  fun{σ' H' v u} J rv q=>⟨v,H',J.os,J.bare,J.base,J.hok,rv,q⟩
 cases fl with
 | ret u =>
  obtain⟨v,σ',H',J,rv,q⟩:=hs;exact fin J rv q
 | next =>
  obtain⟨σ',H',J,q⟩:=hs;exact fin (v:=V.non) (u:=Value.none) J rfl q
 | brk =>
  obtain⟨_,_,_,q⟩:=hs;exact False.elim q
 | cont =>
  obtain⟨_,_,_,q⟩:=hs;exact False.elim q
section
variable {X:Cx} {x:Str} {p pos:Pos} {e:Expr} {es:List Expr} {t:TA} {id T:String} {r:List V->Hp->VK->Prop}
def tCB(r:List V->Hp->VK->Prop)(t:TA):TE:=fun σ H Q=>t σ H fun vs H1=>r vs H1 Q
theorem zri(hc:zbS X (.builtin id) r)(hg:Gl X x)(hm:X.mg x=none)(hv:bootBuiltins x=some (.builtin id))(ha:PA X (e::es) t)(hn:x ≠ "__name__":=by decide)(hdb:(x==("__debug__":Str))=false:=by decide)
  (he:starEach (e::es) X.env=(false,eval e X.env)::starEach es X.env:=by rfl) (hpl:(backTo pos (starEach es X.env)).any (·.1)=false:=by rfl):PE X (.Call (.Name x p) (e::es) [] pos) (tCB r t):=by
 intro pins s σ H Q I h;refine wpAny_Call_Name_kw (zfY I hg hm hv ?_ hn hdb);exact PyProof.Rows.callWith_builtin1 (thn (ha pos pins s σ H _ I h) fun us s1 ⟨vs,H1,I1,r1,q1⟩=>hc pins s1 σ H1 vs us Q I1 r1 q1) he hpl
theorem zqe(hc:zbS X (.type T) r)(hg:Gl X x)(hm:X.mg x=none)(hv:bootBuiltins x=some (.type T))(ha:PA X (e::es) t)(hn:x ≠ "__name__":=by decide)(hdb:(x==("__debug__":Str))=false:=by decide)
  (he:starEach (e::es) X.env=(false,eval e X.env)::starEach es X.env:=by rfl) (hpl:(backTo pos (starEach es X.env)).any (·.1)=false:=by rfl):PE X (.Call (.Name x p) (e::es) [] pos) (tCB r t):=by
 intro pins s σ H Q I h;refine wpAny_Call_Name_kw (zfY I hg hm hv ?_ hn hdb);exact PyProof.Rows.callWith_type1 (thn (ha pos pins s σ H _ I h) fun us s1 ⟨vs,H1,I1,r1,q1⟩=>hc pins s1 σ H1 vs us Q I1 r1 q1) he hpl
end
end L2
namespace HT
open PySem PyProof.Rows
section
open PySem.SeqAt
open PySem.AutoSeq1 (wpAny_loadPart')
open PySem.MeetsSeq PySem.MeetsSeq2 PySem.MeetsSeq3
end
section
variable {prog:Program} {w:World} {A:Around} {E:Value->Shared->Prop} {s:Shared}
theorem cat_tup{t b:Addr}{vs ws:List Value}{Q:Value->Shared->Prop}(ht:IsTup s.heap t vs.toArray)(hb:IsTup s.heap b ws.toArray)(hv:vs≠[])
  (h1:ws=[]->Q (.ref t) s) (h2:ws≠[]->Q (.ref s.heap.objs.size) { s with heap:=s.heap.push { cls:=.type "tuple",data:=.seq (vs++ws).toArray } })
  (hsz:vs.length+ws.length<=sizeLine):wpAny (model prog w) A (binaryOp .Add (.ref t) (.ref b)) Q E s:=by
 obtain⟨⟨cls,dd,data,sl⟩,ho,hc,n,hd⟩:=id ht;obtain⟨⟨cls2,dd2,data2,sl2⟩,ho2,hc2,n2,hd2⟩:=id hb;simp only at hc hd hc2 hd2;subst hc hd hc2 hd2;have e:vs.toArray++ws.toArray=(vs++ws).toArray:=by simp
 by_cases hw:ws=[]
 ·exact concat_meets ⟨_,ho,rfl⟩ ⟨_,ho2,rfl⟩ noFill_tuple_add seq_tuple_add PySem.F.slot_tuple_add PySem.F.entry_tuple_add (PySem.F.args_tuple_add_2 _ _)
   (tuple_addW1 t b vs.toArray ws.toArray n n2 dd dd2 sl sl2 (by simpa using hv) (by simp [hw])) ⟨ho,ho2,h1 hw⟩
 ·refine concat_meets ⟨_,ho,rfl⟩ ⟨_,ho2,rfl⟩ noFill_tuple_add seq_tuple_add PySem.F.slot_tuple_add PySem.F.entry_tuple_add (PySem.F.args_tuple_add_2 _ _)
   (tuple_addW2 t b vs.toArray ws.toArray n n2 dd dd2 sl sl2 (by simpa using hv) (by simpa using hw) (by rw [List.size_toArray,List.size_toArray]; exact hsz)) ⟨ho,ho2,?_⟩
  rw [e];exact h2 hw
def sIx(n d:Nat):Option Int->Nat
 | none=>d
 | some v=>if v < 0 then(v+(n:Int)).toNat else min v.toNat n
theorem sIx_none(n d:Nat):sIx n d none=d:=rfl
theorem sIx_nat(n d k:Nat):sIx n d (some (k:Int))=min k n:=by
 show(if(k:Int) < 0 then((k:Int)+(n:Int)).toNat else min (k:Int).toNat n)=min k n;rw [if_neg (by omega),Int.toNat_natCast]
end
end HT
namespace L2
open PySem PySem.Spec PyProof.Rows
abbrev TO:=St->Hp->(Option Int->Hp->Prop)->Prop
def PO(X:Cx)(e:Option Expr)(t:TO):Prop :=
 ∀ (pins:List (Addr×Obj)) (s:Shared) (σ:St) (H:Hp) (Q:Option Int->Hp->Prop),Inv X pins σ H s->t σ H Q ->
  wpAny (model X.prog X.w) X.A (evalPart e X.env) (fun u s'=>∃ o H',Inv X pins σ H' s'/\IsPart u o/\Q o H') X.xe s
def zkQ:TO:=fun _ H Q=>Q none H
def zrj(t:TE):TO:=fun σ H Q=>t σ H fun x H1=>∃ i,x=.int i/\Q (some i) H1
theorem znz{ns:List Int}:∀ {us:List Value},zP (ns.map V.int) us->IntsAre us ns:=by
 induction ns with
 | nil=>intro us r; rw [List.map_nil]at r; cases r; exact .nil
 | cons n ns ih =>
  intro us r;rw [List.map_cons]at r;cases r with
  | cons r1 r2 =>
   obtain⟨t,e⟩:=r1;subst e;exact .cons n t (ih r2)
section
variable {X:Cx} {e:Expr} {te:TE} {lo hi:Option Expr} {tl th:TO} {pos p2:Pos}
theorem zuQ:PO X none zkQ:=by
 intro pins s σ H Q I h;rw [evalPart_none];exact qd ⟨none,H,I,.none,h⟩
theorem zuR(h:PE X e te):PO X (some e) (zrj te):=by
 intro pins s σ H Q I hw;rw [evalPart_some];refine thn (h pins s σ H _ I hw) fun u s1 ⟨x,H1,I1,r1,q1⟩=>?_;obtain⟨i,rfl,q⟩:=q1;obtain⟨t,rfl⟩:=r1;exact⟨some i,H1,I1,.int i t,q⟩
def SlR(X:Cx)(r:V->Option Int->Option Int->Hp->VK->Prop):Prop :=
 ∀ (pins:List (Addr×Obj)) (s:Shared) (σ:St) (H:Hp) (x:V) (v vl vu:Value) (lo hi:Option Int) (sl:Addr) (Q:VK),Inv X pins σ H s->zab x v->s.heap.IsSliceOf sl vl vu .none->IsPart vl lo->IsPart vu hi->r x lo hi H Q ->
  ∃ T id,typeLookup (.type T) "__getitem__"=pure (some (.builtin id))/\s.TypeIs v T/\wpAny (model X.prog X.w) X.A (getItem v (.ref sl)) (EP X pins σ Q) X.xe s
def tSl(r:V->Option Int->Option Int->Hp->VK->Prop)(te:TE)(tl th:TO):TE:=fun σ H Q=>te σ H fun x H1=>tl σ H1 fun l H2=>th σ H2 fun u H3=>r x l u H3 Q
theorem zrk{r:V->Option Int->Option Int->Hp->VK->Prop}(hr:SlR X r)(he:PE X e te)(hl:PO X lo tl)(hu:PO X hi th):PE X (.Subscript e (.Slice lo hi none p2) pos) (tSl r te tl th):=by
 intro pins s σ H Q I h;refine Subscript_ (thn (he pins s σ H _ I h) fun v s1 ⟨x,H1,I1,r1,q1⟩=>?_);refine wpAny_Slice (thn (hl pins s1 σ H1 _ I1 q1) fun vl s2 ⟨l,H2,I2,pl,q2⟩=>thn (hu pins s2 σ H2 _ I2 q2) fun vu s3 ⟨u,H3,I3,pu,q3⟩=>?_);rw [evalPart_none];refine qd ?_;have I4:Inv X pins σ H3 { s3 with heap:=s3.heap.push { cls:=.type "slice",data:=.fields #[vl,vu,.none] } }:=I3.kept (t':=s3.toks) fun b ob q=>qf _ q;obtain⟨T,id,hT,ht,hg⟩:=hr pins { s3 with heap:=s3.heap.push { cls:=.type "slice",data:=.fields #[vl,vu,.none] } } σ H3 x v vl vu l u s3.heap.objs.size Q I4 r1 (Heap.IsSliceOf.new ..) pl pu q3;show wpAny (model X.prog X.w) X.A (subscriptTail e (.Slice lo hi none p2) v (.ref s3.heap.objs.size)) (EP X pins σ Q) X.xe { s3 with heap:=s3.heap.push { cls:=.type "slice",data:=.fields #[vl,vu,.none] } };exact tail_any (ops:=[.ref s3.heap.objs.size,v]) ht hT hg (by with_unfolding_all rfl)
def zlZ(xs:List V)(lo hi:Option Int):List V:=(xs.drop (HT.sIx xs.length 0 lo)).take (HT.sIx xs.length xs.length hi - HT.sIx xs.length 0 lo)
theorem zl0(xs:List V)(lo hi:Option Int):(zlZ xs lo hi).length<=xs.length:=by
 unfold zlZ;rw [List.length_take,List.length_drop];omega
def zrl(K:qe):R2:=fun x y H Q=>∃ a b xs ys,x=.ref a/\y=.ref b/\SqT K H a xs/\SqT K H b ys/\xs≠[]/\xs.length+ys.length<=sizeLine /\
 (ys=[]->Q (.ref a) H)/\(ys≠[]->∀ p,H p=none->Q (.ref p) (upd H p (.tup (xs++ys))))
theorem zP.nil_iff{xs:List V}{us:List Value}(r:zP xs us):us=[]↔xs=[]:=by
 cases r with
 | nil=>simp
 | cons _ _=>simp
theorem zuS:OpR X (binaryOp .Add) (zrl X.K):=by
 intro pins s σ H x y v u Q I rx ry h;obtain⟨a,b,xs,ys,rfl,rfl,ha,hb,hx,hz,q1,q2⟩:=h;cases rx;cases ry;obtain⟨its,r1,p1,_⟩:=I.tuple ha;obtain⟨its2,r2,p2,_⟩:=I.tuple hb;refine HT.cat_tup p1 p2 (fun z=>hx (r1.nil_iff.mp z)) (fun z=>⟨.ref a,H,I,rfl,q1 (r2.nil_iff.mp z)⟩) (fun z=>?_) (by rw [<-r1.length,<-r2.length]; exact hz);refine⟨.ref s.heap.objs.size,_,I.laid (t':=s.toks) (o:=.tup (xs++ys)) (fun b ob q=>qf _ q) (qg _) ?_,rfl,q2 (fun w=>z (r2.nil_iff.mpr w)) _ (I.hok.fresh (qg _))⟩;exact⟨by rw [qu]; exact hz,_,r1.append r2,zdX.new _ _⟩
end
def ixN(n:Nat)(i:Int):Option Nat:=if 0<=i then(if i < n then some i.toNat else none)else if -(n:Int)<=i then some (i+n).toNat else none
def atI{α:Type}(xs:List α)(i:Int):Option α:=(ixN xs.length i).bind fun j=>xs[j]?
theorem zoI{n:Nat}{i:Int}{j:Nat}(h:ixN n i=some j):seqIndex? i n=some j/\j < n/\-(n:Int)<=i/\i < n:=by
 unfold ixN at h
 by_cases h0:0<=i
 ·rw [if_pos h0]at h
  by_cases h1:i < n
  ·rw [if_pos h1]at h
   have e:i.toNat=j:=qy h;exact⟨by rw [seqIndex_of h0 h1,e],by omega,by omega,h1⟩
  ·rw [if_neg h1]at h; cases h
 ·rw [if_neg h0]at h
  by_cases h1:-(n:Int)<=i
  ·rw [if_pos h1]at h
   have e:(i+n).toNat=j:=qy h;exact⟨by rw [seqIndex_neg (by omega) h1,e],by omega,h1,by omega⟩
  ·rw [if_neg h1]at h; cases h
theorem zkR{α:Type}{xs:List α}{i:Int}{v:α}(h:atI xs i=some v):∃ j,seqIndex? i xs.length=some j/\xs[j]?=some v/\j < xs.length/\-(xs.length:Int)<=i/\i < xs.length:=by
 unfold atI at h;cases e:ixN xs.length i with
 | none=>rw [e]at h; cases h
 | some j =>
  rw [e]at h;obtain⟨h1,h2,h3,h4⟩:=zoI e;exact⟨j,h1,h,h2,h3,h4⟩
theorem zuT{α:Type}{xs:List α}{j:Nat}{v:α}(h:xs[j]?=some v):atI xs (j:Int)=some v:=by
 have hj:j < xs.length:=(qm.mp h).1;have e:ixN xs.length (j:Int)=some j:=by
  unfold ixN;rw [if_pos (by omega),if_pos (by omega)]; simp
 unfold atI; rw [e]; exact h
def zoJ(b:Expr):Prop:=∀ o i,subscripted b false o i=operate [o,i] (getItem o i)
def IxR(X:Cx)(r:R2):Prop :=
 ∀ (value slice:Expr) (pins:List (Addr×Obj)) (s:Shared) (σ:St) (H:Hp) (x y:V) (v u:Value) (Q:VK),Inv X pins σ H s->zab x v->zab y u->r x y H Q ->
  subscripted slice false v u=operate [v,u] (getItem v u)->wpAny (model X.prog X.w) X.A (subscriptTail value slice v u) (EP X pins σ Q) X.xe s
def MtR(X:Cx)(id:String)(r:V->List V->Hp->VK->Prop):Prop :=
 ∀ (pins:List (Addr×Obj)) (s:Shared) (σ:St) (H:Hp) (x:V) (xs:List V) (v:Value) (us:List Value) (Q:VK),Inv X pins σ H s->zab x v->zP xs us->r x xs H Q ->
  wpAny (model X.prog X.w) X.A (call (.builtin id) (v::us)) (EP X pins σ Q) X.xe s
section
variable {X:Cx} {a b:Expr} {ta tb:TE} {pos:Pos}
theorem zzQ{r:R2}(hr:IxR X r)(ha:PE X a ta)(hb:PE X b tb)(hs:zoJ b):PE X (.Subscript a b pos) (tOp r ta tb):=by
 intro pins s σ H Q I h;exact Subscript_ (zx4 ha hb I h fun v u s2 x y H2 I2 rx ry q=>hr a b pins s2 σ H2 x y v u Q I2 rx ry q (hs _ _))
def zyf(K:qe):R2:=fun x y H Q=>∃ p xs i v,x=.ref p/\y=.int i/\SqL K H p xs/\atI xs i=some v/\Q v H
def zyg(K:qe):R2:=fun x y H Q=>∃ p xs i v,x=.ref p/\y=.int i/\SqT K H p xs/\atI xs i=some v/\Q v H
def zzR:R2:=fun x y H Q=>∃ z i c,x=.str z/\y=.int i/\z.length<=sizeLine/\atI z.cps.toList i=some c/\Q (.str ⟨#[c]⟩) H
theorem zuU:IxR X (zyf X.K):=by
 intro value slice pins s σ H x y v u Q I rx ry h hs;obtain⟨p,xs,i,z,rfl,rfl,hq,he,q⟩:=h;cases rx;obtain⟨t,rfl⟩:=ry;obtain⟨its,r,pl,hz⟩:=I.list hq;obtain⟨j,h1,h2,h3,h4,h5⟩:=zkR he;obtain⟨w,ew,rw'⟩:=r.get h2;have hl:=r.length;have hn:=zg3;have fin:EP X pins σ Q w s:=⟨z,H,I,rw',q⟩
 by_cases h0:0<=i
 ·have hj:i.toNat=j:=by
   rw [seqIndex_of h0 h5]at h1;exact qy h1
  exact item_listR pl.isList h0 (by omega) (by rw [hj]; simpa using ew) fin hs
 ·have hj:(i+(its.toArray.size:Int)).toNat=j:=by
   rw [seqIndex_neg (by omega) h4]at h1;rw [List.size_toArray,<-hl];exact qy h1
  exact subscriptTail_builtinR (x:=w) pl.isList.typeIs slot_list_getitem.lookup
   (wpAny_getItem_list_neg (Q:=fun r s'=>r=w/\EP X pins σ Q r s') pl.isList (by omega) (by rw [List.size_toArray]<;>omega) (by omega) (by rw [hj]; simpa using ew) ⟨rfl,fin⟩) hs
theorem zyh:IxR X (zyg X.K):=by
 intro value slice pins s σ H x y v u Q I rx ry h hs;obtain⟨p,xs,i,z,rfl,rfl,hq,he,q⟩:=h;cases rx;obtain⟨t,rfl⟩:=ry;obtain⟨its,r,pl,hz⟩:=I.tuple hq;obtain⟨j,h1,h2,h3,h4,h5⟩:=zkR he;obtain⟨w,ew,rw'⟩:=r.get h2;have hl:=r.length;have hn:=zg3;have fin:EP X pins σ Q w s:=⟨z,H,I,rw',q⟩;exact subscriptTail_builtinR (x:=w) pl.typeIs slot_tuple_getitem.lookup
  (getItem_tuple (j:=j) (Q:=fun r s'=>r=w/\EP X pins σ Q r s') pl (by omega) (by omega) (by rw [List.size_toArray,<-hl]; exact h1) (by simpa using ew) ⟨rfl,fin⟩) hs
theorem znA:IxR X zzR:=by
 intro value slice pins s σ H x y v u Q I rx ry h hs;obtain⟨z,i,c,rfl,rfl,hz,he,q⟩:=h;obtain⟨t,rfl⟩:=rx;obtain⟨t',rfl⟩:=ry;obtain⟨j,h1,h2,h3,h4,h5⟩:=zkR he;have hl:z.cps.toList.length=z.length:=by simp [Str.length]
 rw [hl]at h1 h4 h5;have hn:=zg3;exact tail_any (typeIs_str s z t) slot_str_getitem.lookup (getItem_str (c:=c) (by
  have e1:decide (i < -(2^63:Int))=false:=decide_eq_false (by omega);have e2:decide (i>=2^63)=false:=decide_eq_false (by omega);rw [e1,e2,Bool.or_false]) (by rw [h1]; simpa using h2) ⟨.str ⟨#[c]⟩,H,I.tok _,⟨_,rfl⟩,q⟩) hs
theorem znB(its:List Value)(n j:Nat)(u:Value):Obj.mapSeq (·.setIfInBounds j u) { cls:=.type "list",data:=.seq its.toArray n }={ cls:=.type "list",data:=.seq (its.set j u).toArray n }:=by
 simp [Obj.mapSeq]
theorem Inv.lst{pins:List (Addr×Obj)}{σ:St}{H:Hp}{s:Shared}{p:Addr}{xs:List V}(I:Inv X pins σ H s)(h:H p=some (.lst xs)) :
  ∃ (its:List Value) (n:Nat),zP xs its/\s.heap.get? p=some { cls:=.type "list",data:=.seq its.toArray n }/\xs.length<=sizeLine:=by
 obtain⟨z,its,n,r,e⟩:=I.hok p _ h;exact⟨its,n,r,e,z⟩
theorem Inv.lstUpd{pins:List (Addr×Obj)}{σ:St}{H:Hp}{s:Shared}{p:Addr}{xs ys:List V}{its its':List Value}{n n':Nat}{f:Obj->Obj}(I:Inv X pins σ H s)(h:H p=some (.lst xs))
  (ho:s.heap.get? p=some { cls:=.type "list",data:=.seq its.toArray n }) (hf:f { cls:=.type "list",data:=.seq its.toArray n }={ cls:=.type "list",data:=.seq its'.toArray n' }) (r:zP ys its') (hz:ys.length<=sizeLine) (t:Nat) :
  Inv X pins σ (upd H p (.lst ys)) { s with heap:=s.heap.update p f,toks:=t }:=by
 have e:(s.heap.update p f).get? p=some { cls:=.type "list",data:=.seq its'.toArray n' }:=by
  rw [Heap.get?_update_self f ho (by rw [hf]<;>rfl),hf]
 refine I.write (x:=p) (e:=p) (by rw [h]; trivial) (.inl rfl) (fun b u hb q=>(Heap.get?_update_other _ _ (Ne.symm hb)).trans q) ⟨_,e⟩ ?_;exact⟨hz,its',n',r,e⟩
def zwn:V->V->V->Hp->(Hp->Prop)->Prop:=fun o i v H Q=>∃ p xs k j,o=.ref p/\i=.int k/\H p=some (.lst xs)/\ixN xs.length k=some j/\Q (upd H p (.lst (xs.set j v)))
theorem ziz:zxT X zwn:=by
 intro pins s σ H o i v ov iv u Q I ro ri rv h;obtain⟨p,xs,k,j,rfl,rfl,hp,hj,q⟩:=h;cases ro;obtain⟨t,rfl⟩:=ri;obtain⟨its,n,r,ho,hz⟩:=I.lst hp;obtain⟨h1,h2,h3,h4⟩:=zoI hj;have hl:=r.length;have hn:=zg3;have I':Inv X pins σ (upd H p (.lst (xs.set j v))) { s with heap:=s.heap.update p (Obj.mapSeq (·.setIfInBounds j u)) } :=
  I.lstUpd hp ho (znB its n j u) (r.set rv j) (by rw [List.length_set]; exact hz) s.toks
 by_cases h0:0<=k
 ·have hk:k.toNat=j:=by
   rw [seqIndex_of h0 h4]at h1;exact qy h1
  exact PySem.W.ki_setAt ho h0 (by omega) (by rw [List.size_toArray,<-hl]; exact h4) (by rw [hk]; exact⟨_,I',q⟩)
 ·have hk:(k+(its.toArray.size:Int)).toNat=j:=by
   rw [seqIndex_neg (by omega) h3]at h1;rw [List.size_toArray,<-hl];exact qy h1
  exact PySem.W.ki_setBack ho (by omega) (by rw [List.size_toArray,<-hl]; exact h3) (by omega) (by rw [hk]; exact⟨_,I',q⟩)
theorem zkS(lo hi:Option Int)(n:Nat):(sliceBounds lo hi none n).1=((HT.sIx n 0 lo:Nat):Int)/\(sliceBounds lo hi none n).2.1=((HT.sIx n n hi:Nat):Int)/\(sliceBounds lo hi none n).2.2=1:=by
 refine⟨?_,?_,rfl⟩
 ·cases lo with
  | none=>simp [sliceBounds,HT.sIx]
  | some i =>
   simp only [sliceBounds,HT.sIx,Option.getD_none,show(1:Int) > 0 by decide,if_true]
   by_cases h:i < 0
   ·simp only [h,if_true]<;>omega
   ·simp only [h,if_false]<;>omega
 ·cases hi with
  | none=>simp [sliceBounds,HT.sIx]
  | some i =>
   simp only [sliceBounds,HT.sIx,Option.getD_none,show(1:Int) > 0 by decide,if_true]
   by_cases h:i < 0
   ·simp only [h,if_true]<;>omega
   ·simp only [h,if_false]<;>omega
theorem zjL(its:List Value)(lo hi:Option Int):slicePick its.toArray lo hi none=((its.drop (HT.sIx its.length 0 lo)).take (HT.sIx its.length its.length hi - HT.sIx its.length 0 lo)).toArray:=by
 obtain⟨h1,h2,h3⟩:=zkS lo hi its.toArray.size;unfold slicePick;rw [h1,h2,h3];simp only [sliceRange_one,pick_run,List.size_toArray]<;>rfl
def zyi(K:qe):V->Option Int->Option Int->Hp->VK->Prop:=fun x lo hi H Q=>∃ a xs,x=.ref a/\SqL K H a xs/\∀ p,H p=none->Q (.ref p) (upd H p (.lst (zlZ xs lo hi)))
theorem zuV:SlR X (zyi X.K):=by
 intro pins s σ H x v vl vu lo hi sl Q I rx hs pl pu h;obtain⟨a,xs,rfl,hx,q⟩:=h;cases rx;obtain⟨its,r,ht,hz⟩:=I.list hx;have hlen:=r.length;refine⟨"list",_,slot_list_getitem.lookup,ht.isList.typeIs,?_⟩;refine wpAny_getItem_list_slice ht.isList hs pl pu .none (by simp) ?_ (by rw [List.size_toArray]<;>omega);rw [zjL,<-hlen];refine⟨.ref s.heap.objs.size,_,I.laid (t':=s.toks) (o:=.lst (zlZ xs lo hi)) (fun b ob q=>qf _ q) (qg _) ?_,rfl,q _ (I.hok.fresh (qg _))⟩;exact⟨qA (zl0 xs lo hi) hz,_,0,(r.drop (HT.sIx xs.length 0 lo)).take (HT.sIx xs.length xs.length hi - HT.sIx xs.length 0 lo),qi _ rfl⟩
def zfr:V->Bool
 | .non=>true
 | .bl _=>true
 | .int _=>true
 | .str _=>true
 | _=>false
def eqV:V->V->Bool
 | .non,.non=>true
 | .bl a,.bl b=>a==b
 | .bl a,.int b=>(if a then 1 else 0)==b
 | .int a,.bl b=>a==(if b then 1 else 0)
 | .int a,.int b=>a==b
 | .str a,.str b=>a==b
 | _,_=>false
theorem zyj{A:Around}{s:Shared}{y x:V}{u v:Value}(ry:zab y u)(rx:zab x v)(fy:zfr y=true)(fx:zfr x=true):SeqAt.EqAt A s u v (eqV y x):=by
 cases y with
 | non =>
  cases ry;cases x with
  | non=>cases rx; exact SeqAt.EqAt.same _
  | bl b=>cases rx; exact SeqAt.EqAt.none_bool b
  | int b=>obtain⟨t,rfl⟩:=rx; exact SeqAt.EqAt.none_int b t
  | str b=>obtain⟨t,rfl⟩:=rx; exact SeqAt.EqAt.none_str b t
  | _=>exact absurd (show false=true from fx) qh
 | bl a =>
  cases ry;cases x with
  | non=>cases rx; exact SeqAt.EqAt.bool_none a
  | bl b=>cases rx; exact SeqAt.EqAt.bool_bool a b
  | int b=>obtain⟨t,rfl⟩:=rx; exact SeqAt.EqAt.bool_int a b t
  | str b=>obtain⟨t,rfl⟩:=rx; exact SeqAt.EqAt.bool_str a b t
  | _=>exact absurd (show false=true from fx) qh
 | int a =>
  obtain⟨t',rfl⟩:=ry;cases x with
  | non=>cases rx; exact SeqAt.EqAt.int_none a t'
  | bl b=>cases rx; exact SeqAt.EqAt.int_bool a t' b
  | int b=>obtain⟨t,rfl⟩:=rx; exact SeqAt.EqAt.int_int a t' b t
  | str b=>obtain⟨t,rfl⟩:=rx; exact SeqAt.EqAt.int_str a t' b t
  | _=>exact absurd (show false=true from fx) qh
 | str a =>
  obtain⟨t',rfl⟩:=ry;cases x with
  | non=>cases rx; exact SeqAt.EqAt.str_none a t'
  | bl b=>cases rx; exact SeqAt.EqAt.str_bool a t' b
  | int b=>obtain⟨t,rfl⟩:=rx; exact SeqAt.EqAt.str_int a t' b t
  | str b=>obtain⟨t,rfl⟩:=rx; exact SeqAt.EqAt.str_str a t' b t
  | _=>exact absurd (show false=true from fx) qh
 | _=>exact absurd (show false=true from fy) qh
def eqU(x:V)(u:Value):Bool:=match u with
 | .none=>eqV .non x
 | .bool b=>eqV (.bl b) x
 | .int i _=>eqV (.int i) x
 | .str z _=>eqV (.str z) x
 | _=>false
theorem zrm{x y:V}{u:Value}(r:zab y u)(f:zfr y=true):eqU x u=eqV y x:=by
 cases y with
 | non=>cases r; rfl
 | bl b=>cases r; rfl
 | int i=>obtain⟨t,rfl⟩:=r; rfl
 | str z=>obtain⟨t,rfl⟩:=r; rfl
 | _=>exact absurd (show false=true from f) qh
theorem zgn{x:V}:∀ {xs:List V} {us:List Value},zP xs us->xs.all zfr=true->us.any (eqU x)=xs.any fun y=>eqV y x
 | _,_,.nil,_=>rfl
 | y::xs,u::us,.cons r t,f=>by
  rw [List.all_cons,Bool.and_eq_true]at f;rw [List.any_cons,List.any_cons,zrm r f.1,zgn t f.2]
theorem zey{A:Around}{s:Shared}{x:V}{v:Value}(rx:zab x v)(fx:zfr x=true):∀ {xs:List V} {us:List Value},zP xs us->xs.all zfr=true->∀ u∈us,SeqAt.EqAt A s u v (eqU x u)
 | _,_,.nil,_=>fun u hu=>by cases hu
 | y::xs,u::us,.cons r t,f=>fun u' hu=>by
  rw [List.all_cons,Bool.and_eq_true]at f;rcases qw.mp hu with rfl | hu
  ·rw [zrm r f.1]; exact zyj r rx f.1 fx
  ·exact zey rx fx t f.2 u' hu
def inV(x:V)(xs:List V):Bool:=xs.any fun y=>eqV y x
def rIn(K:qe)(neg:Bool):R2:=fun x y H Q=>∃ p xs,y=.ref p/\(SqL K H p xs\/SqT K H p xs)/\zfr x=true/\xs.all zfr=true/\Q (.bl (if neg then !inV x xs else inV x xs)) H
theorem zqf:OpR X (compareOp .In) (rIn X.K false):=by
 intro pins s σ H x y v u Q I rx ry h;obtain⟨p,xs,rfl,hq,fx,fs,q⟩:=h;cases ry;rcases hq with hq | hq
 ·obtain⟨its,r,pl,hz⟩:=I.list hq
  refine SeqAt.in_listAt (eqU x) pl.isList (fun w hw=>zey rx fx r fs w (by simpa using hw)) ⟨.bl _,H,I,rfl,?_⟩;rw [show its.toArray.any (eqU x)=its.any (eqU x) by simp,zgn r fs];exact q
 ·obtain⟨its,r,pl,hz⟩:=I.tuple hq
  refine SeqAt.in_tupleAt (eqU x) pl (fun w hw=>zey rx fx r fs w (by simpa using hw)) ⟨.bl _,H,I,rfl,?_⟩;rw [show its.toArray.any (eqU x)=its.any (eqU x) by simp,zgn r fs];exact q
theorem zkT:OpR X (compareOp .NotIn) (rIn X.K true):=by
 intro pins s σ H x y v u Q I rx ry h;obtain⟨p,xs,rfl,hq,fx,fs,q⟩:=h;cases ry;rcases hq with hq | hq
 ·obtain⟨its,r,pl,hz⟩:=I.list hq
  refine SeqAt.notIn_listAt (eqU x) pl.isList (fun w hw=>zey rx fx r fs w (by simpa using hw)) ⟨.bl _,H,I,rfl,?_⟩;rw [show its.toArray.any (eqU x)=its.any (eqU x) by simp,zgn r fs];exact q
 ·obtain⟨its,r,pl,hz⟩:=I.tuple hq
  refine SeqAt.notIn_tupleAt (eqU x) pl (fun w hw=>zey rx fx r fs w (by simpa using hw)) ⟨.bl _,H,I,rfl,?_⟩;rw [show its.toArray.any (eqU x)=its.any (eqU x) by simp,zgn r fs];exact q
theorem zkU:zbS X (.builtin "len") (fun xs H Q=>∃ p ys,xs=[.ref p]/\(SqL X.K H p ys\/SqT X.K H p ys)/\Q (.int ys.length) H):=by
 intro pins s σ H xs us Q I r h;obtain⟨p,ys,rfl,hq,q⟩:=h;obtain⟨u,rfl,rx⟩:=zgm r;cases rx;have hn:=zg3;rcases hq with hq | hq
 ·obtain⟨its,r',pl,hz⟩:=I.list hq
  have hlen:=r'.length;exact Calls.call_len_list pl.isList (by simp only [List.size_toArray]<;>omega) ⟨.int ys.length,H,I.tok _,⟨s.toks+1,by rw [List.size_toArray,hlen]⟩,q⟩
 ·obtain⟨its,r',pl,hz⟩:=I.tuple hq
  have hlen:=r'.length;exact len_tuple pl (by simp only [List.size_toArray]<;>omega) ⟨.int ys.length,H,I.tok _,⟨s.toks+1,by rw [List.size_toArray,hlen]⟩,q⟩
theorem zkV:zbS X (.type "list") (fun xs H Q=>∃ p ys,xs=[.ref p]/\(SqL X.K H p ys\/SqT X.K H p ys)/\∀ l,H l=none->Q (.ref l) (upd H l (.lst ys))):=by
 intro pins s σ H xs us Q I r h;obtain⟨p,ys,rfl,hq,q⟩:=h;obtain⟨u,rfl,rx⟩:=zgm r;cases rx;have fin:∀ (its:List Value),zP ys its->ys.length<=sizeLine->∀ (h':Heap) (c':Nat),(∀ b o',s.heap.get? b=some o'->h'.get? b=some o') ->
   h'.get? s.heap.objs.size=some { cls:=.type "list",dict:=none,data:=.seq its.toArray c',slots:=#[] }->EP X pins σ Q (.ref s.heap.objs.size) { s with heap:=h' }:=fun its r' hz h' c' kp e =>
  ⟨.ref s.heap.objs.size,_,I.laid (t':=s.toks) kp (qg _) (show zao X.prog X.w X.K _ h' _ (.lst ys) from⟨hz,its,c',r',e⟩),rfl,q _ (I.hok.fresh (qg _))⟩
 rcases hq with hq | hq
 ·obtain⟨its,r',pl,hz⟩:=I.list hq
  have hlen:=r'.length;obtain⟨o,ho,hc,n,hd⟩:=pl.isList;exact call_list_seq p (.inl rfl) ho hc hd (fun h' c' kp e=>fin its r' hz h' c' kp e) (by simp only [List.size_toArray]<;>omega)
 ·obtain⟨its,r',pl,hz⟩:=I.tuple hq
  have hlen:=r'.length;obtain⟨o,ho,hc,n,hd⟩:=pl;exact call_list_seq p (.inr rfl) ho hc hd (fun h' c' kp e=>fin its r' hz h' c' kp e) (by simp only [List.size_toArray]<;>omega)
theorem zjM:zbS X (.type "tuple") (fun xs H Q=>∃ p ys,xs=[.ref p]/\((SqL X.K H p ys/\∀ l,H l=none->Q (.ref l) (upd H l (.tup ys)))\/(SqT X.K H p ys/\Q (.ref p) H))):=by
 intro pins s σ H xs us Q I r h;obtain⟨p,ys,rfl,h⟩:=h;obtain⟨u,rfl,rx⟩:=zgm r;cases rx;rcases h with ⟨hq,q⟩ | ⟨hq,q⟩
 ·obtain⟨its,r',pl,hz⟩:=I.list hq
  have hlen:=r'.length;refine call_tuple_list pl.isList (fun h' kp=>?_) (by simp only [List.size_toArray]<;>omega);have I1:Inv X pins σ H { s with heap:=h' }:=I.kept (t':=s.toks) kp;have I2:Inv X pins σ (upd H h'.objs.size (.tup ys)) { s with heap:=h'.push { cls:=.type "tuple",data:=.seq its.toArray } } :=
   I1.laid (t':=s.toks) (fun b o e=>qf _ e) (qg _) (show zao X.prog X.w X.K _ _ _ (.tup ys) from⟨hz,its,r',zdX.new _ _⟩)
  exact⟨.ref h'.objs.size,_,I2,rfl,q _ (I1.hok.fresh (qg _))⟩
 ·obtain⟨its,r',pl,hz⟩:=I.tuple hq
  exact call_tuple_same pl ⟨.ref p,H,I,rfl,q⟩
def tyV(K:qe)(T:String)(x:V)(H:Hp):Prop:=match x with
 | .str _=>T = "str"
 | .int _=>T = "int"
 | .ref p=>(T = "list"/\∃ xs,SqL K H p xs)\/(T = "tuple"/\∃ o,K.lookup p=some o/\o.cls=.type "tuple"/\o.dict=none) \/
   (T = "dict"/\((∃ kvs,H p=some (.dK kvs))\/∃ kvs,H p=some (.dT kvs)))\/(T = "set"/\∃ S n,H p=some (.set S n))
 | _=>False
theorem zrn{pins:List (Addr×Obj)}{σ:St}{H:Hp}{s:Shared}{T:String}{x:V}{v:Value}(I:Inv X pins σ H s)(r:zab x v)(ty:tyV X.K T x H) :
  s.TypeIs v T/\∀ a,v=.ref a->∃ ob,s.heap.get? a=some ob/\ob.dict=none:=by
 cases x with
 | str z =>
  obtain⟨t,rfl⟩:=r;cases(show T = "str" from ty);exact⟨typeIs_str s z t,fun _ e=>nomatch e⟩
 | int i =>
  obtain⟨t,rfl⟩:=r;cases(show T = "int" from ty);exact⟨typeIs_int s i t,fun _ e=>nomatch e⟩
 | ref p =>
  cases r;rcases ty with ⟨rfl,xs,hq⟩ | ⟨rfl,o,hk,hc,hd⟩ | ⟨rfl,hk⟩ | ⟨rfl,S,n,hk⟩
  ·obtain⟨its,_,pl,_⟩:=I.list hq
   refine⟨pl.isList.typeIs,fun a e=>?_⟩;cases e;obtain⟨o,n,e,c,hd,_⟩:=pl;exact⟨o,e,hd⟩
  ·refine⟨⟨o,I.kIn p o hk,hc⟩,fun a e=>?_⟩
   cases e;exact⟨o,I.kIn _ o hk,hd⟩
  ·have z:∃ o,s.heap.get? p=some o/\o.ExactDict:=by
    rcases hk with ⟨kvs,hk⟩ | ⟨kvs,hk⟩
    ·obtain⟨_,_,_,_,o,_,_,e,ex,_⟩:=I.hok p _ hk
     exact⟨o,e,ex⟩
    ·obtain⟨_,_,_,_,o,_,_,e,ex,_⟩:=I.hok p _ hk
     exact⟨o,e,ex⟩
   obtain⟨o,e,ex⟩:=z;refine⟨⟨o,e,ex.1⟩,fun a e2=>?_⟩;cases e2;exact⟨o,e,ex.2.1⟩
  ·obtain⟨o,_,_,_,e,ex,_⟩:=I.hok p _ hk
   refine⟨⟨o,e,ex.1⟩,fun a e2=>?_⟩;cases e2;exact⟨o,e,ex.2.1⟩
 | _=>exact False.elim ty
def zuW(K:qe)(T:String)(r:V->List V->Hp->VK->Prop)(to:TE):TE:=fun σ H Q=>to σ H fun x H1=>tyV K T x H1/\r x [] H1 Q
def tBM(K:qe)(T:String)(r:V->List V->Hp->VK->Prop)(to:TE)(t:TA):TE:=fun σ H Q=>to σ H fun x H1=>tyV K T x H1/\t σ H1 fun xs H2=>r x xs H2 Q
variable {o e:Expr} {es:List Expr} {to:TE} {t:TA} {name:Str} {apos cpos:Pos} {T id:String} {r:V->List V->Hp->VK->Prop}
theorem zyk(pa:PlainAttrs T)(slot:Slot T name id)(hty:typeOf (.builtin id)=pure (.type "method_descriptor"))(hm:MtR X id r)(ho:PE X o to)
  (hbase:attributeBase o name X.env (eval o X.env)=eval o X.env:=by rfl) (hline:(apos.endLine==cpos.line)=true:=by rfl):PE X (.Call (.Attribute o name apos) [] [] cpos) (zuW X.K T r to):=by
 intro pins s σ H Q I h;refine wpAny_Call_method0_late hbase hline (thn (ho pins s σ H _ I h) fun v s1 ⟨x,H1,I1,r1,ty,q1⟩=>?_);obtain⟨h1,h2⟩:=zrn I1 r1 ty;exact⟨T,id,pa,slot,hty,h1,h2,Calls.callWith_builtin rfl (PySem.evalArgs_none (hm pins s1 σ H1 x [] v [] Q I1 r1 .nil q1))⟩
theorem zzS(pa:PlainAttrs T)(slot:Slot T name id)(hty:typeOf (.builtin id)=pure (.type "method_descriptor"))(hm:MtR X id r)(ho:PE X o to)(ha:PA X (e::es) t)
  (hbase:attributeBase o name X.env (eval o X.env)=eval o X.env:=by rfl)
  (hfew:((backTo cpos (starEach (e::es) X.env)).all (fun x=>!x.1) && (backToKw cpos (keywordEach [] X.env)).all (fun x=>x.1.isSome)
   && decide ((e::es).length+([]:List Keyword).length+(if([]:List Keyword).isEmpty then 0 else 1) < 30))=true:=by rfl)
  (hline:(apos.endLine==cpos.line)=true:=by rfl) (hs:starEach (e::es) X.env=(false,eval e X.env)::starEach es X.env:=by rfl) (hplain:(backTo cpos (starEach es X.env)).any (·.1)=false:=by rfl) :
  PE X (.Call (.Attribute o name apos) (e::es) [] cpos) (tBM X.K T r to t):=by
 intro pins s σ H Q I h;refine wpAny_Call_method_late hbase hfew hline rfl (thn (ho pins s σ H _ I h) fun v s1 ⟨x,H1,I1,r1,ty,q1⟩=>?_);obtain⟨h1,h2⟩:=zrn I1 r1 ty;refine⟨T,id,pa,slot,hty,h1,h2,?_⟩;have hA:=ha cpos pins s1 σ H1 _ I1 q1;rw [hs]at hA ⊢;refine Calls.callWith_builtin (by show(false || (backTo cpos (starEach es X.env)).any (·.1))=false; rw [hplain]<;>rfl) (Calls.evalArgs_plain ?_);exact thn hA fun us s2 ⟨vs,H2,I2,r2,q2⟩=>hm pins s2 σ H2 x vs v us Q I2 r1 r2 q2
end
def MtM(X:Cx)(id:String)(r:V->List V->Hp->VK->Prop):Prop :=
 ∀ (pins:List (Addr×Obj)) (s:Shared) (σ:St) (H:Hp) (x:V) (xs:List V) (v:Value) (us:List Value) (Q:VK),Inv X pins σ H s->zab x v->zP xs us->r x xs H Q ->
  wpAny (model X.prog X.w) X.A (call (.builtin id) (v::us)) (EP X pins σ Q) X.xe s
theorem zP.one:∀ {x:V} {us:List Value},zP [x] us->∃ u,us=[u]/\zab x u
 | _,_,.cons r .nil=>⟨_,rfl,r⟩
theorem zP.two:∀ {x y:V} {us:List Value},zP [x,y] us->∃ u v,us=[u,v]/\zab x u/\zab y v
 | _,_,_,.cons r (.cons q .nil)=>⟨_,_,rfl,r,q⟩
theorem zP.zero:∀ {us:List Value},zP [] us->us=[]
 | _,.nil=>rfl
theorem zP.dropLast{xs:List V}{us:List Value}(h:zP xs us):zP xs.dropLast us.dropLast:=by
 induction h with
 | nil=>exact .nil
 | cons r t ih =>
  cases t with
  | nil=>exact .nil
  | cons q t'=>exact .cons r ih
theorem zP.eraseIdx:∀ {xs:List V} {us:List Value} (i:Nat),zP xs us->zP (xs.eraseIdx i) (us.eraseIdx i)
 | _,_,_,.nil=>.nil
 | _,_,0,.cons _ t=>t
 | _,_,i+1,.cons r t=>.cons r (zP.eraseIdx i t)
theorem zP.reverse{xs:List V}{us:List Value}(h:zP xs us):zP xs.reverse us.reverse:=by
 induction h with
 | nil=>exact .nil
 | cons r t ih=>rw [List.reverse_cons,List.reverse_cons]; exact zP.append ih (.cons r .nil)
theorem zP.rep{xs:List V}{us:List Value}(h:zP xs us):∀ k:Nat,zP (List.replicate k xs).flatten (List.replicate k us).flatten
 | 0=>.nil
 | k+1=>by
  rw [List.replicate_succ,List.replicate_succ,List.flatten_cons,List.flatten_cons];exact zP.append h (zP.rep h k)
theorem znC{α:Type}(l:List α):l.eraseIdx (l.length - 1)=l.dropLast:=by
 induction l with
 | nil=>rfl
 | cons a r ih =>
  cases r with
  | nil=>rfl
  | cons b r =>
   have e:(a::b::r).length - 1=((b::r).length - 1)+1:=by
    have h1:(a::b::r).length=r.length+2:=rfl;have h2:(b::r).length=r.length+1:=rfl;omega
   rw [e,List.eraseIdx_cons_succ,ih]
   all_goals rfl
theorem zkf(its:List Value):∀ (k:Nat) (acc:List Value),
  List.foldl (fun x1 x2=>x1++x2) acc.toArray (List.replicate k its.toArray)=(acc++(List.replicate k its).flatten).toArray
 | 0,acc=>by simp
 | k+1,acc=>by
  have e:acc.toArray++its.toArray=(acc++its).toArray:=by simp
  have e2:(acc++its)++(List.replicate k its).flatten=acc++(List.replicate (k+1) its).flatten:=by
   rw [List.replicate_succ,List.flatten_cons,List.append_assoc]
  rw [<-e2,<-zkf its k (acc++its),<-e,List.replicate_succ,List.foldl_cons]
section
variable {X:Cx} {pins:List (Addr×Obj)} {σ:St} {H:Hp} {s:Shared} {l b:Addr} {xs ys zs:List V}
theorem Inv.lset{its its':List Value}{n:Nat}{f:Array Value->Array Value}{t':Nat}(I:Inv X pins σ H s)(hH:H l=some (.lst xs))
  (e:s.heap.get? l=some { cls:=.type "list",data:=.seq its.toArray n }) (hf:f its.toArray=its'.toArray) (hv:zP ys its') (hz:ys.length<=sizeLine) :
  Inv X pins σ (upd H l (.lst ys)) { s with heap:=s.heap.update l (Obj.mapSeq f),toks:=t' }:=by
 have q:=PySem.IsL.update e f;rw [hf]at q;refine I.write (x:=l) (e:=l) (by rw [hH]; exact trivial) (.inl rfl) (fun b' u hb hu=>(Heap.get?_update_other s.heap (Obj.mapSeq f) (Ne.symm hb)).trans hu) ⟨_,q⟩ ?_;exact⟨hz,its',_,hv,q⟩
theorem Inv.fresh(I:Inv X pins σ H s):H s.heap.objs.size=none:=I.hok.fresh (qg _)
theorem Inv.lstM(I:Inv X pins σ H s)(hH:H l=some (.lst xs)):xs.length<=sizeLine/\∃ (its:List Value) (n:Nat),zP xs its/\xs.length=its.length/\s.heap.get? l=some { cls:=.type "list",data:=.seq its.toArray n }:=by
 obtain⟨z,its,n,r,e⟩:=I.hok l _ hH;exact⟨z,its,n,r,r.length,e⟩
end
section
variable {X:Cx}
def zoK:V->List V->Hp->VK->Prop:=fun x vs H Q=>∃ l xs y,x=.ref l/\vs=[y]/\H l=some (.lst xs)/\xs.length < sizeLine/\Q .non (upd H l (.lst (xs++[y])))
theorem zaa:MtM X "list.append" zoK:=by
 intro pins s σ H x vs v us Q I rx rv h;obtain⟨l,xs,y,rfl,rfl,hH,hz,q⟩:=h;cases rx;obtain⟨u,rfl,ru⟩:=rv.one;obtain⟨z,its,n,r,hl,e⟩:=I.lstM hH;refine call_meets F.slot_list_append ⟨_,e,rfl⟩ F.entry_list_append (F.args_list_append_2 _ _) (PySem.list_append l its.toArray n u (by rw [List.size_toArray]; omega)) ⟨e,?_⟩;refine⟨.non,_,I.lset (its':=its++[u]) hH e (by simp) (r.append (.cons ru .nil)) ?_,rfl,q⟩;rw [qu,List.length_singleton];omega
def zBe:V->List V->Hp->VK->Prop:=fun x vs H Q=>∃ l xs y,x=.ref l/\vs=[]/\H l=some (.lst xs)/\xs[xs.length - 1]?=some y/\Q y (upd H l (.lst xs.dropLast))
theorem zBf:MtM X "list.pop" zBe:=by
 intro pins s σ H x vs v us Q I rx rv h;obtain⟨l,xs,y,rfl,rfl,hH,hy,q⟩:=h;cases rx;have hus:=rv.zero;subst hus;obtain⟨z,its,n,r,hl,e⟩:=I.lstM hH;obtain⟨u,hu,ru⟩:=r.get hy;have hy':its.toArray[its.toArray.size - 1]?=some u:=by
  show its.toArray[its.length - 1]?=some u;rw [<-Array.getElem?_toList,<-hl];exact hu
 refine call_meets F.slot_list_pop ⟨_,e,rfl⟩ F.entry_list_pop (F.args_list_pop_1 _) (MeetsSeq.list_pop_last l its.toArray n u hy' (by rw [List.size_toArray]; omega)) ⟨e,?_⟩;refine⟨y,_,I.lset (its':=its.dropLast) hH e ?_ r.dropLast ?_,ru,q⟩
 ·show its.toArray.eraseIdxIfInBounds (its.toArray.size - 1)=its.dropLast.toArray
  rw [List.size_toArray,List.eraseIdxIfInBounds_toArray,znC]
 ·rw [List.length_dropLast]
  omega
def zro:V->List V->Hp->VK->Prop:=fun x vs H Q=>∃ l xs,x=.ref l/\vs=[]/\H l=some (.lst xs)/\Q .non (upd H l (.lst []))
theorem zrp:MtM X "list.clear" zro:=by
 intro pins s σ H x vs v us Q I rx rv h;obtain⟨l,xs,rfl,rfl,hH,q⟩:=h;cases rx;have hus:=rv.zero;subst hus;obtain⟨z,its,n,r,hl,e⟩:=I.lstM hH;refine call_meets F.slot_list_clear ⟨_,e,rfl⟩ F.entry_list_clear (F.args_list_clear_1 _) (AutoSeq1.list_clear_list_0 l its.toArray n (by rw [List.size_toArray]; omega)) ⟨e,?_⟩;exact⟨.non,_,I.lset (its':=[]) (ys:=[]) hH e rfl .nil (Nat.zero_le _),rfl,q⟩
theorem zoL{α:Type}(xs:List α)(k:Nat):(List.replicate k xs).flatten.length=k * xs.length:=by
 induction k with
 | zero=>simp
 | succ k ih=>rw [List.replicate_succ,List.flatten_cons,qu,ih,Nat.succ_mul,Nat.add_comm]
end
section
variable {prog:Program} {w:World} {A:Around} {E:Value->Shared->Prop} {s:Shared}
end
section
variable {X:Cx}
end
section
variable {κ:Type} [DecidableEq κ]
def zfh(kvs:List (κ×V))(k:κ):Option V:=(kvs.find? fun kv=>decide (kv.1=k)).map (·.2)
def zc9(kvs:List (κ×V))(k:κ)(v:V):List (κ×V) :=
 if(kvs.any fun kv=>decide (kv.1=k))=true then kvs.map (fun kv=>if kv.1=k then(kv.1,v)else kv)else kvs++[(k,v)]
theorem ziA{p:κ×V}{r:List (κ×V)}{k:κ}(e:p.1=k):zfh (p::r) k=some p.2:=by simp [zfh,List.find?_cons,e]
theorem ziB{p:κ×V}{r:List (κ×V)}{k:κ}(e:¬p.1=k):zfh (p::r) k=zfh r k:=by simp [zfh,List.find?_cons,e]
theorem zl1(k:κ):∀ kvs:List (κ×V),(kvs.any fun kv=>decide (kv.1=k))=(zfh kvs k).isSome
 | []=>rfl
 | p::r=>by
  rw [List.any_cons]
  by_cases e:p.1=k
  ·simp only [ziA e,decide_eq_true e,Bool.true_or,Option.isSome_some]
  ·rw [ziB e,decide_eq_false e,Bool.false_or]; exact zl1 k r
theorem zez(kvs:List (κ×V))(k:κ)(v:V):(zc9 kvs k v).length<=kvs.length+1:=by
 unfold zc9;split
 ·rw [List.length_map]; omega
 ·rw [qu,qv,List.length_nil]; omega
theorem zfX.isSome_eq{o:Option V}{u:Option Value}(r:zfX o u):o.isSome=u.isSome:=by
 cases o with
 | none=>cases u with
  | none=>rfl
  | some _=>exact(show False from r).elim
 | some _=>cases u with
  | none=>exact(show False from r).elim
  | some _=>rfl
theorem zfX.getD{o:Option V}{u:Option Value}{d:V}{d':Value}(r:zfX o u)(rd:zab d d'):zab (o.getD d) (u.getD d'):=by
 cases o with
 | none=>cases u with
  | none=>exact rd
  | some _=>exact(show False from r).elim
 | some _=>cases u with
  | none=>exact(show False from r).elim
  | some _=>exact r
theorem KV.val{kvs:List (κ×V)}{vs:List (κ×Value)}(r:KV kvs vs)(k:κ):zfX (zfh kvs k) (valueAt vs k):=by
 unfold KV at r
 induction r with
 | nil=>exact True.intro
 | @cons p q ps qs h t ih =>
  obtain⟨h1,h2⟩:=h
  by_cases e:p.1=k
  ·have e':q.1=k:=h1.symm.trans e
   have b:valueAt (q::qs) k=some q.2:=by simp [valueAt,List.find?_cons,e']
   rw [ziA e,b]; exact h2
  ·have e':¬q.1=k:=fun z=>e (h1.trans z)
   have b:valueAt (q::qs) k=valueAt qs k:=by simp [valueAt,List.find?_cons,e']
   rw [ziB e,b]; exact ih
theorem KV.any{kvs:List (κ×V)}{vs:List (κ×Value)}(r:KV kvs vs)(k:κ):(kvs.any fun kv=>decide (kv.1=k))=vs.any fun kv=>decide (kv.1=k):=by
 unfold KV at r
 induction r with
 | nil=>rfl
 | cons h t ih=>rw [List.any_cons,List.any_cons,ih,h.1]
theorem KV.repl{kvs:List (κ×V)}{vs:List (κ×Value)}(r:KV kvs vs)(k:κ){y:V}{u:Value}(ry:zab y u) :
  KV (kvs.map fun kv=>if kv.1=k then(kv.1,y)else kv) (vs.map fun kv=>if kv.1=k then(kv.1,u)else kv):=by
 unfold KV at r ⊢
 induction r with
 | nil=>exact .nil
 | @cons p q ps qs h t ih =>
  rw [List.map_cons,List.map_cons];refine .cons ?_ ih;obtain⟨h1,h2⟩:=h
  by_cases e:p.1=k
  ·rw [if_pos e,if_pos (h1.symm.trans e)]; exact⟨h1,ry⟩
  ·rw [if_neg e,if_neg (fun z=>e (h1.trans z))]; exact⟨h1,h2⟩
theorem KV.put{kvs:List (κ×V)}{vs:List (κ×Value)}(r:KV kvs vs)(k:κ){y:V}{u:Value}(ry:zab y u):KV (zc9 kvs k y) (stored vs k u):=by
 unfold zc9 stored;rw [r.any k]
 by_cases e:(vs.any fun kv=>decide (kv.1=k))=true
 ·rw [if_pos e,if_pos e]; exact r.repl k ry
 ·rw [if_neg e,if_neg e]; exact Paired.snoc r ⟨rfl,ry⟩
theorem KV.length{kvs:List (κ×V)}{vs:List (κ×Value)}(r:KV kvs vs):kvs.length=vs.length:=Paired.length r
end
theorem zoM{P:Program}{w:World}{k:Key}{u:Value}(r:zab (kV k) u):(zaq P w).is k u=true:=by
 cases k with
 | inl i=>obtain⟨t,e⟩:=(show ∃ t,u=Value.int i t from r); subst e; exact zlR P w i t
 | inr x=>obtain⟨t,e⟩:=(show ∃ t,u=Value.str x t from r); subst e; exact zlS P w x t
theorem zg6{P:Program}{w:World}:∀ {ks:List Key} {us:List Value},zP (ks.map kV) us->ItemsAre (zaq P w) ks us
 | [],_,r=>by rw [List.map_nil]at r; cases r; exact .nil
 | k::ks,_,r=>by
  rw [List.map_cons]at r;cases r with
  | cons h t=>exact .cons (zoM h) (zg6 t)
abbrev KT(K:qe)(H:Hp):List (List Key×V)->List (List Key×Addr×Value)->Prop:=Paired fun p q=>p.1=q.1/\TpK K H q.2.1 (p.1.map kV)/\zab p.2 q.2.2
theorem KT.val{K:qe}{H:Hp}{kvs:List (List Key×V)}{xs:List (List Key×Addr×Value)}(r:KT K H kvs xs)(k:List Key):zfX (zfh kvs k) ((atKey xs k).map (·.2)):=by
 induction r with
 | nil=>exact True.intro
 | @cons p q ps qs h t ih =>
  obtain⟨h1,_,h2⟩:=h
  by_cases e:p.1=k
  ·have e':q.1=k:=h1.symm.trans e
   have b:atKey (q::qs) k=some q.2:=by simp [atKey,List.find?_cons,e']
   rw [ziA e,b]; exact h2
  ·have e':¬q.1=k:=fun z=>e (h1.trans z)
   have b:atKey (q::qs) k=atKey qs k:=by simp [atKey,List.find?_cons,e']
   rw [ziB e,b]; exact ih
theorem KT.repl{K:qe}{H:Hp}{kvs:List (List Key×V)}{xs:List (List Key×Addr×Value)}(r:KT K H kvs xs)(k:List Key){y:V}{u:Value}(ry:zab y u) :
  KT K H (kvs.map fun kv=>if kv.1=k then(kv.1,y)else kv) (xs.map (putAt k u)):=by
 induction r with
 | nil=>exact .nil
 | @cons p q ps qs h t ih =>
  rw [List.map_cons,List.map_cons];refine .cons ?_ ih;obtain⟨h1,h2,h3⟩:=h;unfold putAt
  by_cases e:p.1=k
  ·rw [if_pos e,if_pos (h1.symm.trans e)]; exact⟨h1,h2,ry⟩
  ·rw [if_neg e,if_neg (fun z=>e (h1.trans z))]; exact⟨h1,h2,h3⟩
theorem KT.put{K:qe}{H:Hp}{kvs:List (List Key×V)}{xs:List (List Key×Addr×Value)}(r:KT K H kvs xs)(k:List Key){b:Addr}{y:V}{u:Value}(hb:TpK K H b (k.map kV))(ry:zab y u) :
  KT K H (zc9 kvs k y) (storedH xs k b u):=by
 have e:(kvs.any fun kv=>decide (kv.1=k))=(atKey xs k).isSome:=by
  rw [zl1,(r.val k).isSome_eq,Option.isSome_map]
 unfold zc9 storedH;rw [e]
 by_cases q:(atKey xs k).isSome=true
 ·rw [if_pos q,if_pos q]; exact r.repl k ry
 ·rw [if_neg q,if_neg q]; exact Paired.snoc r ⟨rfl,hb,ry⟩
theorem KT.keeps{K:qe}{H H':Hp}{kvs:List (List Key×V)}{xs:List (List Key×Addr×Value)}(r:KT K H kvs xs)(ht:∀ b ys,H b=some (.tup ys)->H' b=some (.tup ys)):KT K H' kvs xs :=
 Paired.mapP r fun _ _ z=>⟨z.1,z.2.1.keeps ht,z.2.2⟩
section
variable {P:Program} {w:World} {K:qe} {H:Hp} {h:Heap} {a:Addr}
theorem zrq{u:HO}(ok:HOk P w K H h)(e:Rd H a u):zao P w K H h a u:=e.ok ok
theorem zl2{kvs:List (Key×V)}(ok:HOk P w K H h)(e:Rd H a (.dK kvs)):kvs.length<=sizeLine/\(a==sysModules)=false/\∃ vs,KV kvs vs/\h.DictOf (zaq P w) a vs :=
 show zao P w K H h a (.dK kvs) from zrq ok e
theorem zzT{kvs:List (Key×V)}(ok:HOk P w K H h)(e:H a=some (.dK kvs)):kvs.length<=sizeLine/\(a==sysModules)=false/\∃ vs,KV kvs vs/\h.DictOf (zaq P w) a vs:=zl2 ok (.inl e)
theorem zfZ{ks:List Key}(kin:K.In h)(ok:HOk P w K H h)(e:TpK K H a (ks.map kV)):(tupleKind (zaq P w)).is h ks a:=by
 rcases e with e | ⟨o,its,n,hk,hc,hs,_,r,_⟩
 case inr=>exact⟨o,its,n,kin a o hk,hc,hs,by simpa using zg6 r⟩
 obtain⟨_,its,r,o,h1,h2,⟨n,h3⟩,_⟩:=(show zao P w K H h a (.tup (ks.map kV)) from ok a _ e);exact⟨o,its.toArray,n,h1,h2,h3,by simpa using zg6 r⟩
theorem zkg{kvs:List (List Key×V)}(kin:K.In h)(ok:HOk P w K H h)(e:Rd H a (.dT kvs)):kvs.length<=sizeLine/\(a==sysModules)=false /\
  ∃ xs,KT K H kvs xs/\h.DictOfH (tupleKind (zaq P w)) a xs:=by
 obtain⟨z,y,xs,r,o,es,ep,h1,h2,h3,h4,h5⟩:=(show zao P w K H h a (.dT kvs) from zrq ok e);refine⟨z,y,xs,r,o,es,ep,h1,h2,h3,h4,fun x hx=>?_,h5⟩;have all:∀ {l:List (List Key×V)} {m:List (List Key×Addr×Value)},KT K H l m->∀ x∈m,(tupleKind (zaq P w)).is h x.1 x.2.1:=by
  intro l m q
  induction q with
  | nil=>intro x hx; exact nomatch hx
  | @cons p q ps qs hq t ih =>
   intro x hx;rcases qw.mp hx with e | hx
   ·subst e
    exact zfZ kin ok (by rw [<-hq.1]; exact hq.2.1)
   ·exact ih x hx
 exact all r x hx
theorem zrr{kvs:List (List Key×V)}(kin:K.In h)(ok:HOk P w K H h)(e:H a=some (.dT kvs)):kvs.length<=sizeLine/\(a==sysModules)=false /\
  ∃ xs,KT K H kvs xs/\h.DictOfH (tupleKind (zaq P w)) a xs:=zkg kin ok (.inl e)
end
def znD(K:qe)(H:Hp)(a:Addr)(y:V)(r:Option V):Prop :=
 (∃ kvs k,Rd H a (.dK kvs)/\y=kV k/\r=zfh kvs k)\/∃ kvs k b,Rd H a (.dT kvs)/\y=.ref b/\TpK K H b (k.map kV)/\r=zfh kvs k
def zl3(K:qe)(H:Hp)(a:Addr)(y v:V)(H':Hp):Prop :=
 (∃ kvs k,H a=some (.dK kvs)/\y=kV k/\kvs.length < sizeLine/\H'=upd H a (.dK (zc9 kvs k v))) \/
 ∃ kvs k b,H a=some (.dT kvs)/\y=.ref b/\TpK K H b (k.map kV)/\kvs.length < sizeLine/\H'=upd H a (.dT (zc9 kvs k v))
theorem zl3.k{K:qe}{H:Hp}{a:Addr}{kvs:List (Key×V)}{k:Key}{v:V}(e:H a=some (.dK kvs))(hl:kvs.length < sizeLine):zl3 K H a (kV k) v (upd H a (.dK (zc9 kvs k v))):=.inl ⟨kvs,k,e,rfl,hl,rfl⟩
theorem zl3.t{K:qe}{H:Hp}{a b:Addr}{kvs:List (List Key×V)}{k:List Key}{v:V}(e:H a=some (.dT kvs))(eb:TpK K H b (k.map kV))(hl:kvs.length < sizeLine) :
  zl3 K H a (.ref b) v (upd H a (.dT (zc9 kvs k v))):=.inr ⟨kvs,k,b,e,rfl,eb,hl,rfl⟩
section
variable {X:Cx} {pins:List (Addr×Obj)} {σ:St} {H:Hp} {s:Shared} {a:Addr} {y v:V} {u r:Value} {o:Option V} {A:Around} {E:Value->Shared->Prop}
theorem Inv.big(I:Inv X pins σ H s):sysModules < s.heap.objs.size:=by
 have h:mainGlobals < s.heap.objs.size:=(I.mod.glob.keeps I.bk).lt;exact Nat.lt_trans (by decide) h
theorem zqg{Q:Value->Shared->Prop}(hu:A.units+1 < cLine)(I:Inv X pins σ H s)(g:znD X.K H a y (some v))(ry:zab y u)(h:∀ w' s',Inv X pins σ H s'->zab v w'->Q w' s') :
  wpAny (model X.prog X.w) A (getItem (.ref a) u) Q E s:=by
 rcases g with ⟨kvs,k,e,ey,l⟩ | ⟨kvs,k,b,e,ey,eb,l⟩
 ·subst ey
  obtain⟨z,hd,vs,rel,dd⟩:=zl2 I.hok e;obtain⟨w',hw,rw'⟩:=zfX.some_of (v:=v) (o:=valueAt vs k) (by rw [l]; exact rel.val k);exact wpAny_getItem_of (zoM ry) dd.mapOf hw (h w' _ (I.tok _) rw')
 ·subst ey
  cases(show u=Value.ref b from ry);obtain⟨z,hd,xs,rel,dd⟩:=zkg I.kIn I.hok e;obtain⟨w',hw,rw'⟩:=zfX.some_of (v:=v) (o:=(atKey xs k).map (·.2)) (by rw [l]; exact rel.val k);obtain⟨p,hp,hp2⟩:=qt.mp hw;refine wpAny_getItem_heap (tupleKind_room_in1 hu) (zfZ I.kIn I.hok eb) dd hp ?_;rw [hp2];exact h w' _ (I.tok _) rw'
theorem zh9{h':Heap}{t':Nat}{ob:HO}(I:Inv X pins σ H s)(mu:Mut (H a))(hs:Heap.SameBut a s.heap h')(he:∃ q,h'.get? a=some q)(new:zao X.prog X.w X.K (upd H a ob) h' a ob) :
  Inv X pins σ (upd H a ob) { s with heap:=h',toks:=t' } :=
 I.write (x:=a) (e:=a) mu (.inl rfl) (fun b q hb z=>(hs.2 b hb).trans z) he new
theorem zyl{P:Program}{w:World}{K:qe}{H':Hp}{h':Heap}{kvs:List (Key×V)}{vs:List (Key×Value)}(z:kvs.length<=sizeLine)(hd:(a==sysModules)=false)(rel:KV kvs vs)(dd:h'.DictOf (zaq P w) a vs) :
  zao P w K H' h' a (.dK kvs):=⟨z,hd,vs,rel,dd⟩
theorem zqh{H':Hp}{Q:Unit->Shared->Prop}(hu:A.units+1 < cLine)(I:Inv X pins σ H s)(g:zl3 X.K H a y v H')(ry:zab y u)(rv:zab v r)(h:∀ s',Inv X pins σ H' s'->Q () s') :
  wpAny (model X.prog X.w) A (setItem (.ref a) u r) Q E s:=by
 rcases g with ⟨kvs,k,e,ey,l,eH⟩ | ⟨kvs,k,b,e,ey,eb,l,eH⟩
 ·subst ey eH
  obtain⟨z,hd,vs,rel,dd⟩:=zzT I.hok e;have hz:vs.length<=sizeLine:=by rw [<-rel.length]; exact z
  have hl:(zc9 kvs k v).length<=sizeLine:=by have:=zez kvs k v; omega
  refine wpAny_setItem_pairs (hsz:=hz) (zoM ry) dd fun h' dd' hs=>h _ ?_;have he:∃ q,h'.get? a=some q:=let ⟨q,_,_,hq,_⟩:=dd'; ⟨q,hq⟩;exact zh9 I (by rw [e]; exact True.intro) hs he (zyl hl hd (rel.put k rv) dd')
 ·subst ey eH
  cases(show u=Value.ref b from ry);obtain⟨z,hd,xs,rel,dd⟩:=zrr I.kIn I.hok e;have hz:xs.length<=sizeLine:=by rw [<-Paired.length rel]; exact z
  have hl:(zc9 kvs k v).length<=sizeLine:=by have:=zez kvs k v; omega
  refine wpAny_setItem_heap (hsz:=hz) (tupleKind_room_in1 hu) (zfZ I.kIn I.hok eb) dd fun h' dd' hs=>h _ ?_;obtain⟨q,es,ep,hq,h2,h3,h4,_,h5⟩:=dd';refine zh9 I (by rw [e]; exact True.intro) hs ⟨q,hq⟩ ⟨hl,hd,_,(rel.put k eb rv).keeps fun c ys ec=>?_,q,es,ep,hq,h2,h3,h4,h5⟩;rw [zI (zgj ec e (fun z=>nomatch z))];exact ec
end
section
variable {X:Cx} {pins:List (Addr×Obj)} {σ:St} {H:Hp} {s:Shared} {a:Addr} {kvs:List (Key×V)} {k:Key} {u:Value} {A:Around} {E:Value->Shared->Prop}
end
def zym(i:Expr):Prop:=∀ ov iv,subscripted i false ov iv=operate [ov,iv] (getItem ov iv)
theorem zuX{prog:Program}{w:World}{A:Around}{E:Value->Shared->Prop}{s:Shared}{env:Env}{value slice:Expr}{pos:Pos}{T id:String}{Q:Value->Shared->Prop}
  (hl:typeLookup (.type T) "__getitem__"=pure (some (.builtin id))) (hs:zym slice)
  (h:wpAny (model prog w) A (eval value env) (fun o s₁=>wpAny (model prog w) A (eval slice env) (fun i s₂=>s₂.TypeIs o T/\wpAny (model prog w) A (getItem o i) Q E s₂) E s₁) E s) :
  wpAny (model prog w) A (eval (.Subscript value slice pos) env) Q E s:=by
 refine Subscript_ (wpAny_mono h (fun o s₁ h₁=>wpAny_mono h₁ (fun i s₂ h₂=>?_) fun _ _ x=>x) fun _ _ x=>x);obtain⟨hT,h₂⟩:=h₂;unfold subscriptTail;refine qc ?_;rw [getitemInPython_of_ne hT.not_modules];refine qc (wpAny_specialOf hT hl ?_);have fin:wpAny (model prog w) A (subscripted slice false o i) (fun r s₃=>wpAny (model prog w) A (letTemporaryGo value o r >>= fun _=>pure r) Q E s₃) E s₂:=by
  rw [hs o i];exact wpAny_operating (wpAny_mono h₂ (fun r s₃ h₃=>qc (wpAny_letTemporaryGo (qd h₃))) fun _ _ x=>x)
 first
  | exact qd (qc fin)
  | exact qc (qd (qc fin))
  | exact qc fin
theorem zl4{X:Cx}{pins:List (Addr×Obj)}{σ:St}{H:Hp}{s:Shared}{a:Addr}{y:V}{o:Option V}(I:Inv X pins σ H s)(g:znD X.K H a y o):s.TypeIs (.ref a) "dict":=by
 rcases g with ⟨kvs,k,e,_,_⟩ | ⟨kvs,k,b,e,_,_,_⟩
 ·obtain⟨_,_,vs,_,dd⟩:=zl2 I.hok e
  exact dd.typeIs
 ·obtain⟨_,_,xs,_,dd⟩:=zkg I.kIn I.hok e
  exact dd.typeIs
def zrs(K:qe)(td ty:TE):TE:=fun σ H Q=>td σ H fun x H1=>ty σ H1 fun y H2=>∃ a v,x=.ref a/\znD K H2 a y (some v)/\Q v H2
def zrt(K:qe)(td ty tv:TE):TS:=fun D σ H=>tv σ H fun v H1=>td σ H1 fun x H2=>ty σ H2 fun y H3=>∃ a H4,x=.ref a/\zl3 K H3 a y v H4/\D.nx σ H4
section
variable {X:Cx} {o i e value:Expr} {pos pos' tpos:Pos} {td ty tv:TE}
theorem zuY(hu:X.A.units+1 < cLine)(ho:PE X o td)(hi:PE X i ty)(hs:zym i):PE X (.Subscript o i pos) (zrs X.K td ty):=by
 intro pins s σ H Q I h;refine zuX PySem.F.slot_dict_getitem.lookup hs (thn (ho pins s σ H _ I h) fun u s1 ⟨x,H1,I1,rx,q1⟩=>thn (hi pins s1 σ H1 _ I1 q1) fun iv s2 ⟨y,H2,I2,ry,a,v,ex,g,q2⟩=>?_);subst ex;obtain rfl:u=Value.ref a:=rx;exact⟨zl4 I2 g,zqg hu I2 g ry fun w' s3 I3 rw'=>⟨v,H2,I3,rw',q2⟩⟩
theorem zuZ(hu:X.A.units+1 < cLine)(ho:PE X o td)(hi:PE X i ty)(hv:PE X value tv)(hs:swapsWith value (some (.Subscript o i pos')) pos.line X.env=pure false) :
  PS X (.Assign [.Subscript o i pos'] value pos) (zrt X.K td ty tv):=by
 intro pins s σ H D I h;refine wpAny_Assign_Subscript (thn (hv pins s σ H _ I h) fun r s1 ⟨v,H1,I1,rv,q1⟩=>thn (ho pins s1 σ H1 _ I1 q1) fun u s2 ⟨x,H2,I2,rx,q2⟩=>thn (hi pins s2 σ H2 _ I2 q2) fun iv s3 ⟨y,H3,I3,ry,a,H4,ex,g,q3⟩=>?_) hs;subst ex;obtain rfl:u=Value.ref a:=rx;exact zqh hu I3 g ry rv fun s4 I4=>⟨σ,H4,I4,q3⟩
end
theorem ziC{P:Program}{w:World}{K:qe}{H:Hp}(h:Heap)(hb:sysModules < h.objs.size):zao P w K H (h.push { cls:=.type "dict",data:=.dict #[] }) h.objs.size (.dT []) :=
 ⟨Nat.zero_le _,beq_eq_false_iff_ne.mpr (Ne.symm (ql hb)),[],.nil,_,#[],0,qi _ rfl,⟨rfl,rfl,rfl⟩,rfl,rfl,List.nodup_nil⟩
def znE:TE:=fun _ H Q=>∀ p,H p=none->Q (.ref p) (upd H p (.dT []))
section
variable {X:Cx} {pos:Pos}
theorem zru:PE X (.Dict [] [] pos) znE:=fun pins s σ H Q I h =>
 wpAny_Dict_empty ⟨.ref s.heap.objs.size,_,I.laid (a:=s.heap.objs.size) (o:=.dT []) (t':=s.toks) (fun _ _ q=>qf _ q) (qg _) (ziC s.heap I.big),rfl,h _ (I.hok.fresh (qg _))⟩
end
def zyn(kvs more:List (Key×V)):List (Key×V):=more.foldl (fun acc kv=>zc9 acc kv.1 kv.2) kvs
theorem KV.merge:∀ {more:List (Key×V)} {rs:List (Key×Value)} {kvs:List (Key×V)} {vs:List (Key×Value)},KV more rs->KV kvs vs->KV (zyn kvs more) (merged vs rs):=by
 intro more rs kvs vs r;unfold KV at r
 induction r generalizing kvs vs with
 | nil=>intro q; exact q
 | @cons p q ps qs h t ih =>
  intro r0;have e:KV (zc9 kvs p.1 p.2) (stored vs q.1 q.2):=by
   have:=r0.put p.1 h.2;rw [<-h.1]; exact this
  exact ih e
structure M2 (X:Cx) (o:Expr) (m:Str) (apos:Pos) (e f:Expr) (cpos:Pos):Prop where
 base:attributeBase o m X.env (eval o X.env)=eval o X.env
 few:((backTo cpos (starEach [e,f] X.env)).all (fun x=>!x.1) && (backToKw cpos (keywordEach [] X.env)).all (fun x=>x.1.isSome)
  && decide (([e,f]:List Expr).length+([]:List Keyword).length+(if([]:List Keyword).isEmpty then 0 else 1) < 30))=true
 line:(apos.endLine==cpos.line)=true
 trees:backTo cpos (starEach [e,f] X.env)=[(false,eval e X.env),(false,eval f X.env)]
def IsD(H:Hp)(a:Addr):Prop:=(∃ kvs,Rd H a (.dK kvs))\/∃ kvs,Rd H a (.dT kvs)
theorem zyo{X:Cx}{pins:List (Addr×Obj)}{σ:St}{H:Hp}{s:Shared}{a:Addr}(I:Inv X pins σ H s)(d:IsD H a) :
  s.TypeIs (.ref a) "dict"/\(∀ b,Value.ref a=.ref b->∃ ob,s.heap.get? b=some ob/\ob.dict=none)/\(a==sysModules)=false:=by
 rcases d with ⟨kvs,e⟩ | ⟨kvs,e⟩
 ·obtain⟨_,hd,vs,_,dd⟩:=zl2 I.hok e
  refine⟨dd.typeIs,fun b q=>?_,hd⟩;cases q;obtain⟨ob,_,_,h1,h2,_⟩:=dd;exact⟨ob,h1,h2.2.1⟩
 ·obtain⟨_,hd,xs,_,dd⟩:=zkg I.kIn I.hok e
  refine⟨dd.typeIs,fun b q=>?_,hd⟩;cases q;obtain⟨ob,_,_,h1,h2,_⟩:=dd;exact⟨ob,h1,h2.2.1⟩
section
variable {X:Cx} {pins:List (Addr×Obj)} {σ:St} {H:Hp} {s:Shared} {a:Addr} {y d:V} {u r:Value} {o:Option V} {A:Around} {E:Value->Shared->Prop}
theorem zyp{Q:Value->Shared->Prop}(hu:A.units+1 < cLine)(I:Inv X pins σ H s)(g:znD X.K H a y o)(ry:zab y u)(rd:zab d r)(h:∀ w' s',Inv X pins σ H s'->zab (o.getD d) w'->Q w' s') :
  wpAny (model X.prog X.w) A (call (.builtin "dict.get") [.ref a,u,r]) Q E s:=by
 rcases g with ⟨kvs,k,e,ey,l⟩ | ⟨kvs,k,b,e,ey,eb,l⟩
 ·subst ey
  obtain⟨z,hd,vs,rel,dd⟩:=zl2 I.hok e;refine call_meetsIn PySem.F.slot_dict_get dd.typeIs PySem.F.entry_dict_get (PySem.F.args_dict_get_3 _ _ _) (meets_dict_get_default (zaq X.prog X.w) a (zoM ry) hd r) ⟨_,dd.mapOf,h _ _ (I.tok _) ?_⟩;rw [l];exact(rel.val k).getD rd
 ·subst ey
  cases(show u=Value.ref b from ry);obtain⟨z,hd,xs,rel,dd⟩:=zkg I.kIn I.hok e;refine call_meetsIn PySem.F.slot_dict_get dd.typeIs PySem.F.entry_dict_get (PySem.F.args_dict_get_3 _ _ _) (meetsH_dict_get_default (tupleKind (zaq X.prog X.w)) a b hd r) ⟨tupleKind_room_in1 hu,k,xs,zfZ I.kIn I.hok eb,dd,h _ _ (I.tok _) ?_⟩;rw [l];exact(rel.val k).getD rd
end
def znF(K:qe)(td ty tx:TE):TE:=fun σ H Q=>td σ H fun x H1=>∃ a,x=.ref a/\IsD H1 a/\ty σ H1 fun y H2=>tx σ H2 fun z H3=>∃ o,znD K H3 a y o/\Q (o.getD z) H3
section
variable {X:Cx} {o e f:Expr} {apos cpos:Pos} {td ty tx:TE}
theorem zrv(hu:X.A.units+1 < cLine)(ho:PE X o td)(he:PE X e ty)(hf:PE X f tx)(m:M2 X o "get" apos e f cpos):PE X (.Call (.Attribute o "get" apos) [e,f] [] cpos) (znF X.K td ty tx):=by
 intro pins s σ H Q I h;refine wpAny_Call_method m.base m.few m.line PySem.F.plainAttrs_dict PySem.F.slot_dict_get PySem.F.type_dict_get (thn (ho pins s σ H _ I h) fun u s1 ⟨x,H1,I1,rx,a,ex,d,q1⟩=>?_);subst ex;obtain rfl:u=Value.ref a:=rx;obtain⟨t1,t2,_⟩:=zyo I1 d;refine⟨t1,t2,?_⟩;rw [m.trees];refine Calls.callWith_builtin rfl (Calls.evalArgs_plain (Calls.spliced_cons (thn (he pins s1 σ H1 _ I1 q1) fun iv s2 ⟨y,H2,I2,ry,q2⟩ =>
  Calls.spliced_cons (thn (hf pins s2 σ H2 _ I2 q2) fun fv s3 ⟨z,H3,I3,rz,ov,g,q3⟩=>Calls.spliced_nil ?_))))
 exact zyp hu I3 g ry rz fun w' s4 I4 rw'=>⟨_,H3,I4,rw',q3⟩
end
section
variable {X:Cx} {pins:List (Addr×Obj)} {σ:St} {H:Hp} {s:Shared} {a:Addr} {kvs:List (Key×V)} {A:Around} {E:Value->Shared->Prop}
end
section
variable {X:Cx} {pins:List (Addr×Obj)} {σ:St} {H:Hp} {s:Shared} {a:Addr} {y:V} {u:Value} {A:Around} {E:Value->Shared->Prop}
end
end L2
namespace Att
open PySem PySem.W PySem.Calls PyProof.Rows
theorem zhW{P:Params}{h:Heap}:∀ (ns:List Int) (vs:List Value),WellAll P h vs (ns.map WData.int)->IntsAre vs ns:=by
 intro ns
 induction ns with
 | nil =>
  intro vs w;rw [List.map_nil]at w;cases w;exact .nil
 | cons n ns ih =>
  intro vs w;rw [List.map_cons]at w;cases w with
  | cons a b =>
   cases a;exact .cons _ _ (ih _ b)
theorem zqi{l:OpenLaw}{n:Nat}(hn:l.most=some n){P:Params}{h:Heap}{args:List WData}{vals:List Value}
  (hpre:l.row.toRowW.claim.pre args=true) (hwl:WellAll P h vals args) :
  ∃ a vs ns,vals=[Value.ref a]/\args=[WData.list (ns.map WData.int)]/\h.get? a=some { cls:=.type "list",data:=.seq vs.toArray }/\IntsAre vs ns/\ns.length<=n:=by
 have hsh:WShape.hasAll [] args [.list .int]=true:=(pre_splitW hpre).1;have hc:l.pre.holds [] { args:=args }=true:=(pre_splitW hpre).2;obtain⟨d,r,rfl,h1,h2⟩:=hasAllW_cons hsh;obtain rfl:=hasAllW_nil h2;obtain⟨xs,rfl,h3⟩:=hasW_list h1;obtain⟨ns,rfl⟩:=items_int h3;have hlen:ns.length<=n:=by
  unfold OpenLaw.pre at hc;have h4:(WTm.not (.lt (.lit (.int (n:Int))) (.len (.arg 0)))).holds [] { args:=[.list (ns.map .int)] }=true:=by
   have h4:=(holds_andW hc).1;rw [hn]at h4;exact h4
  have h5:=condW_of h4 (w_not (w_lt w_lit (w_len_list (w_arg rfl))));rw [List.length_map]at h5;refine Nat.le_of_not_lt fun q=>?_;have q':(n:Int) < ((ns.length:Nat):Int):=by omega
  first
   | (rw [decide_eq_true q']at h5; exact absurd h5 (by decide))
   | (simp at h5; omega)
 cases hwl with
 | cons w1 w2 =>
  cases w2;cases w1 with
  | list ho hall=>exact⟨_,_,ns,rfl,rfl,ho,zhW ns _ hall,hlen⟩
theorem zqj(l:OpenLaw)(args:List WData):l.row.toRowW.claim.post args (.bool true) args=true :=
 postW_of (r:=l.row.toRowW) (X:=(true==true))
  (show WShape.has [] (.bool true) .bool=true by first | rfl | decide | simp [WShape.has,WShape.arms,WShape.armsAll])
  (show(WTm.eq .res (.lit (.bool true))).value [] { args:=args,res:=some (.bool true),after:=args }=some (.bool (true==true)) from w_eq_bool (w_res rfl) w_lit) rfl
theorem attach_call{l:OpenLaw}{n:Nat}{q:Program}{loose:List Str}{XP:(Str->Option Value)->Heap->Prop}{YP:World->Heap->Prop}{d:DefRec}
  (hn:l.most=some n) (hdf:d.params.defaults=[])
  (call:∀ (w:World) (s₀ s₁:Shared) (mg mb:Str->Option Value) (fa:Addr) (o:Obj) (pm cd doc:Value) (a:Addr) (vs:List Value) (ns:List Int),
   Ground q loose [] XP w s₀ mg mb s₁.heap->YP w s₁.heap ->
   s₁.heap.get? fa=some o->o.data=.func (docDef d.name d.params d.body d.scope pm cd doc)->s₁.heap.CodeRec cd d.name->mg d.name=some (.ref fa) ->
   s₁.heap.get? a=some { cls:=.type "list",data:=.seq vs.toArray }->IntsAre vs ns->ns.length<=n->s₁.gens=#[] ->
   codeAny (model l.prog w) callerA (.call (.ref fa) ⟨[.ref a],[]⟩) (fun r s'=>r=.ok (.ret (.bool true))/\OldK s₁.heap s'.heap/\s'.os=s₁.os/\AllBare s'.gens) s₁) :
  WalkO q loose XP YP l.row.toRowW d [] (fun f vs=>PySem.call f vs):=by
 intro w s₀ s₁ mg mb G Y fa o pm cd doc dV kV ho hd hcd hD hmg hg args vals as hpre hlay hrd hwl hlo;obtain rfl:dV=.none:=Dflts.none hD hdf;obtain rfl:kV=.none:=Dflts.noKw hD;obtain⟨a,vs,ns,rfl,rfl,hobj,hints,hlen⟩:=zqi hn hpre hwl;refine enter_call (codeAny_mono (call w s₀ s₁ mg mb fa o pm cd doc a vs ns G Y ho (fd_plain hd) hcd hmg hobj hints hlen hg) fun r s' hq=>?_);obtain⟨rfl,h2,h3,h4⟩:=hq;exact⟨.inl ⟨.bool true,.bool true,[],rfl,fun _=>rfl,.bool true,zqj l _,fun _=>⟨List.Pairwise.nil,fun _ hm=>(nomatch hm)⟩⟩,h2,h3,h4⟩
section
variable {prog:Program} {w:World} {A:Around} {E:Value->Shared->Prop} {s:Shared} {K:Frag}
end
end Att
namespace L2
open PySem PySem.Spec PyProof.Rows
theorem zkh:∀ {vs:List Value} {ns:List Int},IntsAre vs ns->zP (ns.map V.int) vs
 | _,_,.nil=>.nil
 | _,_,.cons n t h=>.cons ⟨t,rfl⟩ (zkh h)
def zu0(H:Hp):Prop:=∀ b,H b=none\/∃ o xs,H b=some (.frz o (.lst xs))
theorem zrw{P:Program}{w:World}{K:qe}{mg mb:Str->Option Value}{CX:CXT}{k:Nat}{fa a:Addr}{fd:FuncData}{x:Str}{sp:Sp}{s₁:Shared}{vs:List Value}{ns:List Int}
  (KX:K.In s₁.heap) (hns:s₁.heap.Ns mainGlobals mg) (hb:s₁.heap.Ns builtinsNs mb) (hbb:∀ x:Str,x ≠ "__name__"->mb x=bootBuiltins x) (hlim:s₁.heap.NoLimit) (hg:s₁.gens=#[])
  (ha:s₁.heap.get? a=some { cls:=.type "list",data:=.seq vs.toArray }) (hi:IntsAre vs ns) (hl:ns.length<=sizeLine) (hr:Room k callerA)
  (F:∀ base:Heap,K.In base->base.Ns mainGlobals mg->FnOk P w K mg base CX k fa fd [x] sp) (hbind:∀ (s:Shared) (u:Value),BindsTo s fd ⟨[u],[]⟩ [(x,u)])
  (hsp:∀ H:Hp,zu0 H->SqL K H a (ns.map V.int)->sp [.ref a] H (fun v _=>v=.bl true) fun _ _ _=>False)
  (hCX:∀ H e s',CX [] H s₁ (fun _ _ _=>False) e s'->False) :
  codeAny (model P w) callerA (.call (.ref fa) ⟨[.ref a],[]⟩) (fun r s'=>r=.ok (.ret (.bool true))/\OldK s₁.heap s'.heap/\s'.os=s₁.os/\AllBare s'.gens) s₁:=by
 have rv:=zkh hi;have lenV:=hi.length;have core:∀ H:Hp,zu0 H->SqL K H a (ns.map V.int)->HOk P w K H s₁.heap->(∀ b,H b≠none->b=a)->(H a≠none->K.lookup a=none) ->
   codeAny (model P w) callerA (.call (.ref fa) ⟨[.ref a],[]⟩) (fun r s'=>r=.ok (.ret (.bool true))/\OldK s₁.heap s'.heap/\s'.os=s₁.os/\AllBare s'.gens) s₁:=by
  intro H hO hS hok hA hK;have base_of:∀ {b:Addr} {o:Obj},s₁.heap.get? b=some o->H b=none->(zkL s₁.heap H).get? b=some o:=fun e n=>zqW e n;have noA:∀ {b:Addr} {o:Obj} {es:Array DictEntry} {ep:Nat},s₁.heap.get? b=some o->o.data=.dict es ep->H b=none:=fun{b o es ep} e d=>by
   cases q:H b with
   | none=>rfl
   | some u =>
    have e':b=a:=hA b (by rw [q]; simp);subst e';rw [ha]at e; cases e;have d':Data.seq vs.toArray _=Data.dict es ep:=d;cases d'
  have nsK:∀ {b:Addr} {m:Str->Option Value},s₁.heap.Ns b m->(zkL s₁.heap H).Ns b m:=fun{b m} ⟨o,es,ep,e,d,r⟩=>⟨o,es,ep,base_of e (noA e d),d,r⟩;have hKb:K.In (zkL s₁.heap H):=fun b o e=>base_of (KX b o e) (by
   cases q:H b with
   | none=>rfl
   | some u =>
    have e':b=a:=hA b (by rw [q]; simp);subst e';rw [hK (by rw [q]; simp)]at e; cases e)
  have hM:Mod K mg (zkL s₁.heap H):=⟨hKb,nsK hns,⟨mb,nsK hb,hbb⟩,let ⟨mc,h1,h2⟩:=hlim; ⟨mc,nsK h1,h2⟩⟩;have e0:Env0 P w K mg (zkL s₁.heap H) callerA [] s₁ H:=⟨rfl,hM,fun b o e=>zuq e,Nat.le_of_eq (zp5 _ _),trivial,fun b hb=>absurd (show b∈([]:List Addr) from hb) (by simp),hok,.of_eq hg⟩;refine codeAny_mono ((F _ hKb (nsK hns)).run callerA [] s₁ H ⟨[.ref a],[]⟩ [.ref a] [.ref a] _ _ hr e0 (hbind s₁ (.ref a)) (.cons rfl .nil) (hsp H hO hS)) fun r s' h=>?_;cases r with
  | error e=>exact(hCX H e s' h).elim
  | ok fl =>
   cases fl with
   | next=>exact False.elim h
   | brk=>exact False.elim h
   | cont=>exact False.elim h
   | ret u =>
    obtain⟨v,H',os,bare,un,hok',r',q⟩:=h;have q':v=.bl true:=q;subst q';obtain rfl:u=Value.bool true:=r';refine⟨rfl,OldK.of_keep fun b o e=>?_,os,bare⟩;cases q:H b with
    | none=>exact un.keep b o e q (by intro z; exact absurd (show b∈([]:List Addr) from z) (by simp)) (by simp)
    | some u =>
     rcases hO b with z | ⟨ob,xs,z⟩
     ·rw [q]at z; cases z
     ·have z2:=un.frzs b ob _ z
      obtain⟨e1,_⟩:=hok b _ z;obtain⟨e2,_⟩:=hok' b _ z2;rw [e]at e1; cases e1;exact e2
 cases hk:K.lookup a with
 | some o =>
  have e:=KX a o hk;rw [ha]at e;cases e;refine core (fun _=>none) (fun _=>.inl rfl) (.inr ⟨_,vs.toArray,_,hk,rfl,rfl,rfl,by rw [List.size_toArray,lenV]; exact hl,by simpa using rv⟩) (fun b u z=>by have z':(none:Option HO)=some u:=z; cases z') (fun b z=>absurd rfl z) fun z=>absurd rfl z
 | none =>
  refine core (fun b=>if b=a then some (.frz { cls:=.type "list",data:=.seq vs.toArray } (.lst (ns.map V.int)))else none) (fun b=>?_) (.inl (.inr ⟨{ cls:=.type "list",data:=.seq vs.toArray },if_pos rfl⟩)) (fun b u z=>?_) (fun b z=>?_) fun _=>hk
  ·by_cases hb:b=a
   ·exact .inr ⟨_,_,if_pos hb⟩
   ·exact .inl (if_neg hb)
  ·by_cases hb:b=a
   ·have z':=(if_pos hb).symm.trans z
    cases z';subst hb;exact⟨ha,by rw [List.length_map]; exact hl,vs,_,rv,ha⟩
   ·have z':=(if_neg hb).symm.trans z
    cases z'
  ·by_cases hb:b=a
   ·exact hb
   ·exact absurd (if_neg hb) z
theorem walk_of{l:PySem.W.OpenLaw}{n k:Nat}{q:Program}{loose:List Str}{XP:(Str->Option Value)->Heap->Prop}{YP:World->Heap->Prop}{d:DefRec}{K:Params->qe}{CX:World->CXT}{sp:World->Sp}{x:Str}
  (hn:l.most=some n) (hn2:n<=sizeLine) (hdf:d.params.defaults=[]) (hr:Room k callerA)
  (hY:∀ (w:World) (h:Heap),YP w h->(K w.params).In h)
  (F:∀ (w:World) (mg:Str->Option Value) (fa:Addr) (h:Heap),(K w.params).In h->h.Ns mainGlobals mg->mg d.name=some (.ref fa) ->
   ∃ fd:FuncData,(∀ (s:Shared) (u:Value),BindsTo s fd ⟨[u],[]⟩ [(x,u)]) /\
    ∀ base:Heap,(K w.params).In base->base.Ns mainGlobals mg->FnOk l.prog w (K w.params) mg base (CX w) k fa fd [x] (sp w))
  (hsp:∀ (w:World) (H:Hp) (a:Addr) (ns:List Int),ns.length<=n->zu0 H->SqL (K w.params) H a (ns.map V.int)->sp w [.ref a] H (fun v _=>v=.bl true) fun _ _ _=>False)
  (hCX:∀ (w:World) (H:Hp) (s:Shared) (e:Value) (s':Shared),CX w [] H s (fun _ _ _=>False) e s'->False) :
  PySem.W.WalkO q loose XP YP l.row.toRowW d [] (fun f vs=>PySem.call f vs):=by
 refine Att.attach_call hn hdf fun w s₀ s₁ mg mb fa o pm cd doc a vs ns G Y ho hd hcd hmg hobj hints hlen hg=>?_;have KX:=hY w _ Y;obtain⟨fd,hb,hF⟩:=F w mg fa _ KX G.T.g hmg;exact zrw KX G.T.g G.T.b G.T.builtins G.T.nolimit hg hobj hints (qA hlen hn2) hr hF hb (fun H hO hS=>hsp w H a ns hlen hO hS) fun H e s'=>hCX w H s₁ e s'
def zd0(s:Stmt):Arguments:=match s with
 | .FunctionDef _ a _ _ _ _ _ _ _ _=>a
 | _=>{ posonlyargs:=[],args:=[],vararg:=none,kwonlyargs:=[],kw_defaults:=[],kwarg:=none,defaults:=[] }
def zbW(s:Stmt):List Stmt:=match s with
 | .FunctionDef _ _ b _ _ _ _ _ _ _=>b
 | _=>[]
def zaj(s:Stmt):Scope:=match s with
 | .FunctionDef _ _ _ _ _ _ sc _ _ _=>sc
 | _=>{ kind:=.function,names:=[],isGenerator:=false,isCoroutine:=false }
abbrev CX0:CXT:=fun _ _ _ _ _ _=>False
abbrev E0:XK:=fun _ _ _=>False
theorem zwo{X:Cx}:ziy CX0 X E0:=fun _ _ _ _ _ _ _ h=>h.elim
structure Fun (K:qe) (x qual:Str) (st:Stmt) (f:Addr) (fd:FuncData):Prop where
 ex:∃ (oc:Value) (od:Option Addr) (kV doc pm:Value) (an:Option Addr) (cdv ct:Value) (osl:Array (Option Value)),
  fd=PySem.W.fnOf x qual (zd0 st) (zbW st) (zaj st) .none kV doc pm an cdv ct/\K.lookup f=some ⟨oc,od,.func fd,osl⟩/\PySem.W.codeIn K cdv qual=true
 kp:PySem.W.keepIn K (.ref f)=true
section
variable {P:Program} {w:World} {K:qe} {mg:Str->Option Value} {base:Heap}
theorem Fun.ok{x qual:Str}{st:Stmt}{f:Addr}{fd:FuncData}{N ps:List Str}{k:Nat}{sp:Sp}(F:Fun K x qual st f fd)(S:FnScope N ps (zaj st))(len:∀ vs H Q E,sp vs H Q E->vs.length=ps.length)
  (hbody:∀ (cdv:Value) (A:Around) (outer:List Env) (s:Shared) (H:Hp) (vs:List V) (Q:VK) (E:XK),Room k (A.deeper (envOfC qual (zaj st) s.heap.objs.size f cdv))->sp vs H Q E ->
   ∃ t,PSs (zkP CX0 P w K mg base N qual (zaj st) f cdv A outer s H E).nox (zbW st) t/\t { nx:=fun _ H'=>Q .non H',rt:=Q } (zb9 N vs) H):FnOk P w K mg base CX0 (k+1) f fd ps sp:=by
 obtain⟨oc,od,kV,doc,pm,an,cdv,ct,osl,rfl,lk,hcd⟩:=F.ex;refine zzP lk hcd S len fun A outer s H vs Q E hr hsp=>?_;obtain⟨t,h,q⟩:=hbody cdv A outer s H vs Q E hr hsp;exact⟨t,h.nox,q⟩
theorem Fun.binds{x qual:Str}{st:Stmt}{f:Addr}{fd:FuncData}{ps:List Str}(F:Fun K x qual st f fd)
  (h:∀ (kV doc pm:Value) (an:Option Addr) (cdv ct:Value) (us:List Value),us.length=ps.length->bindArgs (PySem.W.fnOf x qual (zd0 st) (zbW st) (zaj st) .none kV doc pm an cdv ct) ⟨us,[]⟩=pure (ps.zip us)):zfq K fd ps []:=by
 obtain⟨oc,od,kV,doc,pm,an,cdv,ct,osl,rfl,lk,hcd⟩:=F.ex;exact .all (h kV doc pm an cdv ct)
theorem zrx{x qual:Str}{st:Stmt}{f:Addr}{oc:Value}{od an:Option Addr}{osl:Array (Option Value)}{kV doc pm cdv ct:Value}(l:K.lookup f=some ⟨oc,od,.func (PySem.W.fnOf x qual (zd0 st) (zbW st) (zaj st) .none kV doc pm an cdv ct),osl⟩)
  (c:PySem.W.codeIn K cdv qual=true) (k:PySem.W.keepIn K (.ref f)=true):Fun K x qual st f (PySem.W.fnOf x qual (zd0 st) (zbW st) (zaj st) .none kV doc pm an cdv ct):=⟨⟨oc,od,kV,doc,pm,an,cdv,ct,osl,rfl,l,c⟩,k⟩
end
theorem zl5{A:Around}{k:Nat}(hr:Room k A):A.units+1 < cLine:=Nat.lt_of_le_of_lt (Nat.add_le_add_left (by decide:1<=64) _) hr.units
section
variable {X:Cx}
theorem pv(i:Nat){x:Str}{pos:Pos}(hN:X.N[i]?=some x:=by rfl)(hv:Vis X.env.scope x:=by first | exact Or.inl rfl | exact Or.inr (Or.inl rfl) | exact Or.inr (Or.inr rfl))(hd:(x==("__debug__":Str))=false:=by decide)
  (hcd:(x==("__classdict__":Str))=false:=by decide):PE X (.Name x pos) (zes i):=zxE hN hv hd hcd
end
def zbN(H H':Hp):Prop:=∀ b o,H b=some o->H' b=some o
theorem zbN.refl(H:Hp):zbN H H:=fun _ _ h=>h
theorem zbN.seq{K:qe}{H H':Hp}{a:Addr}{xs:List V}(e:zbN H H')(h:SqL K H a xs):SqL K H' a xs:=by
 rcases h with (h | ⟨o,h⟩) | h
 ·exact .inl (.inl (e _ _ h))
 ·exact .inl (.inr ⟨o,e _ _ h⟩)
 ·exact .inr h
section
variable {X:Cx}
end
section
variable {κ:Type} [DecidableEq κ]
end
end L2
set_option maxHeartbeats 4000000
namespace L2
open PySem PySem.Spec PyProof.Rows
inductive Frees (X:Cx):List (Str×Addr)->List Str->List Nat->Prop where
 | nil:Frees X [] [] []
 | cons {x:Str} {c:Addr} {j:Nat} {cl:List (Str×Addr)} {xs:List Str} {js:List Nat} (hN:X.N[j]?=some x) (hk:X.env.scope.names.lookup x=some .cell\/X.env.scope.names.lookup x=some .free)
   (hc:X.env.cells.lookup x=some c) (t:Frees X cl xs js):Frees X ((x,c)::cl) (x::xs) (j::js)
def zV(X:Cx)(scope:Scope)(cl:List (Str×Addr))(Nc:List Str)(C:Addr)(s:Shared)(H:Hp)(ex:List Addr):Cx :=
 { X with s₀:=s,H₀:=H,env:=compEnvC scope (cellsFrom (C+1) scope.names cl) C X.env,N:=Nc,outer:=X.stack,stack:=X.stack,ex:=ex,fn:=fun x=>scope.names.lookup x==some .cell,pn:=[],xe:=fun _ _=>False }
def c0(nt:Nat)(js:List Nat)(σ:St):St:=List.replicate nt none++js.map fun j=>σ.getD j none
def Wk(a b:St):Prop:=a.length=b.length/\∀ (i:Nat) (v:V),a[i]?=some (some v)->b[i]?=some (some v)
theorem zyq{a:St}{i:Nat}{x:Option V}(h:a[i]?=some none):Wk a (a.set i x):=by
 refine⟨by simp,fun j v e=>?_⟩;have ne:i≠j:=by intro z; rw [z,e]at h; cases h
 rw [qD ne];exact e
theorem zkW{nt:Nat}{js:List Nat}{σ:St}{i:Nat}(h:i < nt):(c0 nt js σ)[i]?=some none:=by
 unfold c0;rw [List.getElem?_append_left (by simpa using h),List.getElem?_replicate,if_pos h]
theorem zbT{X:Cx}{cl:List (Str×Addr)}{xs:List Str}{js:List Nat}(f:Frees X cl xs js):∀ x c,cl.lookup x=some c->X.env.cells.lookup x=some c:=by
 induction f with
 | nil=>intro x c e; cases e
 | @cons y d j cl xs js hN hk hc t ih =>
  intro x c e;rw [List.lookup_cons]at e
  by_cases q:x=y
  ·subst q
   rw [beq_self_eq_true]at e;injection e with e1;rw [<-e1];exact hc
  ·rw [beq_eq_false_iff_ne.mpr q]at e
   exact ih x c e
theorem zki{X:Cx}{cl:List (Str×Addr)}{xs:List Str}{js:List Nat}(f:Frees X cl xs js):∀ x,x∈xs->∃ c,cl.lookup x=some c:=by
 induction f with
 | nil=>intro x m; cases m
 | @cons y d j cl xs js hN hk hc t ih =>
  intro x m;rw [List.lookup_cons]
  by_cases q:x=y
  ·subst q
   rw [beq_self_eq_true];exact⟨d,rfl⟩
  ·rw [beq_eq_false_iff_ne.mpr q]
   rcases qw.mp m with z | z
   ·exact absurd z q
   ·exact ih x z
theorem zry{X:Cx}{cl:List (Str×Addr)}{xs:List Str}{js:List Nat}(f:Frees X cl xs js):∀ (i:Nat) (x:Str) (σ:St) (v:V),xs[i]?=some x->(js.map fun j=>σ.getD j none)[i]?=some (some v) ->
  ∃ j:Nat,X.N[j]?=some x/\σ[j]?=some (some v)/\(X.env.scope.names.lookup x=some .cell\/X.env.scope.names.lookup x=some .free)/\(∃ c,X.env.cells.lookup x=some c):=by
 induction f with
 | nil=>intro i x σ v e; simp at e
 | @cons y d j cl xs js hN hk hc t ih =>
  intro i x σ v e1 e2;cases i with
  | zero =>
   simp only [List.getElem?_cons_zero,Option.some.injEq]at e1;subst e1;refine⟨j,hN,?_,hk,d,hc⟩;simp only [List.map_cons,List.getElem?_cons_zero,Option.some.injEq]at e2;rw [qC]at e2;cases q:σ[j]? with
   | none=>rw [q]at e2; cases e2
   | some o=>rw [q]at e2; simp at e2; rw [e2]
  | succ i =>
   exact ih i x σ v (by simpa using e1) (by simpa using e2)
theorem zd1{env:Env}:∀ {names:List (Str×NameKind)} {x:Str} {k:NameKind},
  (names.map fun(n,k)=>if(k==NameKind.free && env.scope.kind==.function && env.kindOf n==some .cell)then(n,NameKind.cell)else(n,k)).lookup x=some k ->
  ∃ k0,names.lookup x=some k0/\(x,k0)∈names/\(k=k0\/(k0=.free/\k=.cell)):=by
 intro names
 induction names with
 | nil=>intro x k e; cases e
 | cons p r ih =>
  intro x k e;obtain⟨n,kn⟩:=p
  by_cases q:x=n
  ·subst q
   refine⟨kn,by rw [List.lookup_cons,beq_self_eq_true],qq,?_⟩;rw [List.map_cons]at e;change List.lookup x ((if(kn==NameKind.free && env.scope.kind==.function && env.kindOf x==some .cell)=true then(x,NameKind.cell)else(x,kn))::_)=_ at e
   by_cases hh:(kn==NameKind.free && env.scope.kind==.function && env.kindOf x==some .cell)=true
   ·rw [if_pos hh,List.lookup_cons,beq_self_eq_true]at e
    injection e with e1;refine .inr ⟨?_,e1.symm⟩;simp only [Bool.and_eq_true]at hh;exact by simpa using hh.1.1
   ·rw [if_neg hh,List.lookup_cons,beq_self_eq_true]at e
    injection e with e1;exact .inl e1.symm
  ·rw [List.map_cons]at e
   change List.lookup x ((if(kn==NameKind.free && env.scope.kind==.function && env.kindOf n==some .cell)=true then(n,NameKind.cell)else(n,kn))::_)=_ at e;have e':(r.map fun(n,k)=>if(k==NameKind.free && env.scope.kind==.function && env.kindOf n==some .cell)then(n,NameKind.cell)else(n,k)).lookup x=some k:=by
    by_cases hh:(kn==NameKind.free && env.scope.kind==.function && env.kindOf n==some .cell)=true
    ·rw [if_pos hh,List.lookup_cons,beq_eq_false_iff_ne.mpr q]at e
     exact e
    ·rw [if_neg hh,List.lookup_cons,beq_eq_false_iff_ne.mpr q]at e
     exact e
   obtain⟨k0,h1,h2,h3⟩:=ih e';refine⟨k0,by rw [List.lookup_cons,beq_eq_false_iff_ne.mpr q]; exact h1,qp _ h2,h3⟩
theorem zqk{X:Cx}{cl:List (Str×Addr)}{xs:List Str}{js:List Nat}(f:Frees X cl xs js):js.length=xs.length:=by
 induction f with
 | nil=>rfl
 | cons _ _ _ _ ih=>simp [ih]
structure ScC (scope:Scope) (xs:List Str):Prop where
 kind:scope.kind=.function
 cell:∀ y∈scope.names,y.2=.cell->scope.names.lookup y.1=some .cell
 names:∀ y∈scope.names,y.2=.local->scope.names.lookup y.1=some .local
 free:∀ y∈scope.names,y.2=.free->y.1∈xs
 fk:∀ x∈xs,scope.names.lookup x=some .free
theorem zdw:∀ (ns:List (Str×NameKind)) (n:Nat) (acc:List (Str×Addr)),cellsFrom n ns acc=cellsFrom n ns []++acc
 | [],_,_=>rfl
 | (x,k)::r,n,acc=>by
  unfold cellsFrom;split
  ·rw [zdw r (n+1) ((x,n)::acc),zdw r (n+1) [(x,n)],List.append_assoc]
   rfl
  ·exact zdw r n acc
theorem znG:∀ (ns:List (Str×NameKind)) (n:Nat) {x:Str} {c:Addr},(x,c)∈cellsFrom n ns []->(x,NameKind.cell)∈ns
 | [],_,_,_,h=>by cases h
 | (y,k)::r,n,x,c,h=>by
  unfold cellsFrom at h;split at h
  ·rename_i hk
   rw [zdw,List.mem_append]at h;rcases h with h | h
   ·exact qp _ (znG r _ h)
   ·cases qr.mp h
    cases eq_of_beq hk;exact qq
  ·exact qp _ (znG r _ h)
theorem zkX:∀ (ns:List (Str×NameKind)) (n:Nat) {x:Str},(x,NameKind.cell)∈ns->∃ c,(cellsFrom n ns []).lookup x=some c
 | [],_,_,h=>by cases h
 | (y,k)::r,n,x,h=>by
  unfold cellsFrom;rcases qw.mp h with e | h'
  ·cases e
   rw [if_pos (by rfl:(NameKind.cell==NameKind.cell)=true),zdw,List.lookup_append];cases(cellsFrom (n+1) r []).lookup y with
   | none=>exact⟨n,by rw [List.lookup_cons,beq_self_eq_true]; rfl⟩
   | some c=>exact⟨c,rfl⟩
  ·split
   ·obtain⟨c,e⟩:=zkX r (n+1) h'
    rw [zdw,List.lookup_append,e];exact⟨c,rfl⟩
   ·exact zkX r n h'
theorem ze6{ns:List (Str×NameKind)}{n:Nat}{acc:List (Str×Addr)}{x:Str}{c:Addr}(h:(cellsFrom n ns acc).lookup x=some c):(cellsFrom n ns []).lookup x=some c\/(acc.lookup x=some c/\(cellsFrom n ns []).lookup x=none):=by
 rw [zdw,List.lookup_append]at h;cases e:(cellsFrom n ns []).lookup x with
 | none=>rw [e]at h; exact .inr ⟨h,rfl⟩
 | some d=>rw [e]at h; exact .inl h
theorem zwp{ns:List (Str×NameKind)}{n:Nat}{acc:List (Str×Addr)}{x:Str}{c:Addr}(h:(cellsFrom n ns []).lookup x=some c):(cellsFrom n ns acc).lookup x=some c:=by
 rw [zdw,List.lookup_append,h];rfl
theorem zl6{M:Model}{A:Around}{E:Value->Shared->Prop}{s:Shared}{scope:Scope}{globals:Addr}{cl:List (Str×Addr)}{qual:Str}{env:Env}{bs:Addr}{Q:Env->Shared->Prop}
  (hQ:∀ h1,h1.Ns s.heap.objs.size (fun _=>none)->(∀ b o,s.heap.get? b=some o->h1.get? b=some o)->CellsOk h1 (s.heap.objs.size+1) (cellsFrom (s.heap.objs.size+1) scope.names []) ->
   Q (newEnv scope s.heap.objs.size globals (cellsFrom (s.heap.objs.size+1) scope.names cl) qual none .none (some env) bs) { s with heap:=h1 }) :
  wpAny M A (newFunctionEnv scope globals cl [] qual none .none (some env) bs) Q E s:=by
 simp only [newFunctionEnv,Option.isSome_some,if_true];refine qc (wpAny_alloc ?_);refine qc (wpAny_layCells _ (fun name kind cells=>by cases hkc:kind==NameKind.cell<;>simp [hkc]) _ _ _ _ ?_);have ok:=cellsFrom_ok scope.names (s.heap.push { cls:=.type "dict",data:=.dict #[] }) (s.heap.objs.size+1) [] ⟨fun _ _ hm=>(nomatch hm),List.Pairwise.nil⟩ (by rw [Heap.size_push]; exact qg _);rw [Heap.size_push]at ok;rw [show({ s with heap:=s.heap.push { cls:=.type "dict",data:=.dict #[] } }:Shared).heap.objs.size=s.heap.objs.size+1 from Heap.size_push ..];rw [List.forIn_nil];exact qc (qd (qd (hQ _ ((Heap.Ns.new s.heap (.type "dict")).keeps (pushCells_keeps _ _)) (fun b o e=>pushCells_keeps _ _ b o (qf _ e)) ok)))
section
variable {X:Cx} {pins:List (Addr×Obj)} {σ:St} {H:Hp} {s:Shared} {scope:Scope} {cl:List (Str×Addr)} {xs:List Str} {js:List Nat} {nt:Nat} {ts:List Str} {fp:List Addr} {C:Addr}
theorem zkY{hx:Heap}(I:Inv X pins σ H s)(S:ScC scope xs)(f:Frees X cl xs js)(ck:CellsOk hx (C+1) (cellsFrom (C+1) scope.names []))(hC:s.heap.objs.size<=C)(hf:∀ b∈fp,zdv X pins H b)(hl:∀ b∈fp,b < s.heap.objs.size) :
  (zV X scope cl (ts++xs) C s H fp).Ok where
 mod:=I.ok.mod
 kind:=S.kind
 glob:=I.ok.glob
 blt:=I.ok.blt
 above:=hC
 inj:=fun x y c e1 e2=>by
  have no:∀ {x y:Str},(cellsFrom (C+1) scope.names []).lookup x=some c->cl.lookup y=some c->False:=fun z1 z2=>by
   obtain⟨v,o,q,_⟩:=I.cell _ c (zbT f _ c z2);have q1:=qj q;have q2:=(ck.empty _ _ (mem_of_lookup z1)).2;exact Nat.lt_irrefl _ (qk q1 (qA hC (qA (Nat.le_succ C) q2)))
  rcases ze6 e1 with z1 | ⟨z1,_⟩<;>rcases ze6 e2 with z2 | ⟨z2,_⟩
  ·exact name_of_addr ck.apart (mem_of_lookup z1) (mem_of_lookup z2)
  ·exact(no z1 z2).elim
  ·exact(no z2 z1).elim
  ·exact I.ok.inj x y c (zbT f x c z1) (zbT f y c z2)
 has:=fun x h=>by
  have z:∃ k0,scope.names.lookup x=some k0/\(x,k0)∈scope.names/\(k0=NameKind.free\/k0=NameKind.cell):=by
   rcases h with h | h
   ·obtain⟨k0,h1,h2,h3⟩:=zd1 (env:=X.env) (names:=scope.names) h
    rcases h3 with h3 | h3
    ·exact⟨k0,h1,h2,.inr h3.symm⟩
    ·exact⟨k0,h1,h2,.inl h3.1⟩
   ·obtain⟨k0,h1,h2,h3⟩:=zd1 (env:=X.env) (names:=scope.names) h
    rcases h3 with h3 | h3
    ·exact⟨k0,h1,h2,.inl h3.symm⟩
    ·cases h3.2
  obtain⟨k0,_,h2,h3⟩:=z;show ∃ c,(cellsFrom (C+1) scope.names cl).lookup x=some c;rcases h3 with h3 | h3
  ·obtain⟨c,e⟩:=zki f x (S.free _ h2 h3)
   rw [zdw,List.lookup_append,e];cases(cellsFrom (C+1) scope.names []).lookup x with
   | none=>exact⟨c,rfl⟩
   | some d=>exact⟨d,rfl⟩
  ·subst h3
   obtain⟨c,e⟩:=zkX scope.names (C+1) h2;exact⟨c,zwp e⟩
 cab:=fun x c h e=>by
  obtain⟨d,q⟩:=zkX scope.names (C+1) (mem_of_lookup (eq_of_beq h));have e':(cellsFrom (C+1) scope.names cl).lookup x=some c:=e;rw [zwp q]at e';cases e';have:=(ck.empty _ _ (mem_of_lookup q)).2;show s.heap.objs.size<=c;omega
 hd:=I.ok.hd
 frames:=I.ok.frames
 stk:=.inl rfl
 exf:=fun b hb=>⟨ql (qk (hl b hb) hC),fun x c e=>by
  rcases ze6 e with z | ⟨z,_⟩
  ·have q1:=(ck.empty _ _ (mem_of_lookup z)).2
   exact Nat.ne_of_gt (qk (hl b hb) (qA hC (qA (Nat.le_succ C) q1)))
  ·exact(hf b hb).2.2.2.2.1 x c (zbT f x c z)⟩
 bs:=I.bs
 bsz:=qA I.ok.bsz I.sz
 noex:=fun b o e hb=>by
  rcases(hf b hb).2.2.2.1 with z | z
  ·exact I.ok.noex b o e z
  ·exact absurd (qk (qj (I.ok.bs b o e).1) z) (Nat.lt_irrefl _)
 exfs:=fun b hb z=>by
  rcases qw.mp (I.stkSub b z)with q | q
  ·exact(hf b hb).2.1 q
  ·exact(hf b hb).2.2.1 q
 funs:=I.stack
 frf:=I.stkFree
theorem zl7{m:Str->Option Value}{h1:Heap}{tk:Nat}(I:Inv X pins σ H s)(S:ScC scope xs)(f:Frees X cl xs js)(hts:ts.length=nt)(hC:s.heap.objs.size<=C)(hf:∀ b∈fp,zdv X pins H b)(hl:∀ b∈fp,b < s.heap.objs.size)
  (hk:∀ b o,s.heap.get? b=some o->h1.get? b=some o) (hn:h1.Ns C m) (ck:CellsOk h1 (C+1) (cellsFrom (C+1) scope.names [])):Inv (zV X scope cl (ts++xs) C s H fp) [] (c0 nt js σ) H { s with heap:=h1,toks:=tk } where
 ok:=zkY I S f ck hC hf hl
 os:=rfl
 bare:=I.bare
 base:=Un.kept hk
 loc:=by
  refine⟨m,hn,fun i x v e1 e2 e3=>?_⟩;have hi:nt<=i:=by
   rcases Nat.lt_or_ge i nt with z | z
   ·rw [zkW z]at e2; cases e2
   ·exact z
  have e1':xs[i - nt]?=some x:=by
   have z:(ts++xs)[i]?=some x:=e1;rw [List.getElem?_append_right (by omega),hts]at z;exact z
  have e2':(js.map fun j=>σ.getD j none)[i - nt]?=some (some v):=by
   unfold c0 at e2;rw [List.getElem?_append_right (by simpa using hi),List.length_replicate]at e2;exact e2
  obtain⟨j,hN,hσ,hkk,c,hc⟩:=zry f (i - nt) x σ v e1' e2';obtain⟨m0,_,hl0⟩:=I.loc;obtain⟨u,r,lk⟩:=hl0 j x v hN hσ (.inr hkk);refine⟨u,r,.inr ⟨?_,?_⟩⟩
  ·rcases e3 with z | z | z
   ·have hx:x∈xs:=List.mem_of_getElem? e1'
    obtain⟨k0,h1,h2,h3⟩:=zd1 (env:=X.env) (names:=scope.names) z;have q:=S.fk x hx;rw [h1]at q;cases q;rcases h3 with h3 | h3
    ·cases h3
    ·cases h3.2
   ·exact .inl z
   ·exact .inr z
  ·obtain⟨c',hc'⟩:=zki f x (List.mem_of_getElem? e1')
   have no:(cellsFrom (C+1) scope.names []).lookup x=none:=by
    cases e:(cellsFrom (C+1) scope.names []).lookup x with
    | none=>rfl
    | some d =>
     have z:=S.cell _ (znG _ _ (mem_of_lookup e)) rfl;rw [S.fk x (List.mem_of_getElem? e1')]at z;cases z
   refine⟨c',?_,?_⟩
   ·show(cellsFrom (C+1) scope.names cl).lookup x=some c'
    rw [zdw,List.lookup_append,no,hc'];rfl
   have q:=zbT f x c' hc';rcases lk with ⟨l1,_⟩ | ⟨_,c'',l2,l3⟩
   ·exfalso
    have l1':X.env.scope.names.lookup x=some .local:=l1;rcases hkk with z | z<;>rw [z]at l1'<;>cases l1'
   ·rw [q]at l2
    cases l2;exact l3.keeps hk
 cell:=fun x c e=>by
  rcases ze6 e with z | ⟨z,_⟩
  ·exact⟨_,(ck.empty _ _ (mem_of_lookup z)).1⟩
  ·obtain⟨v,z⟩:=I.cell x c (zbT f x c z)
   exact⟨v,z.keeps hk⟩
 free:=I.hok.fresh hC
 freeC:=fun x c e=>by
  rcases ze6 e with z | ⟨z,_⟩
  ·exact I.hok.fresh (by have:=(ck.empty _ _ (mem_of_lookup z)).2; omega)
  ·exact I.freeC x c (zbT f x c z)
 pin:=fun p hp=>by cases hp
 hok:=I.hok.kept hk
 len:=by
  show(c0 nt js σ).length=(ts++xs).length;unfold c0;rw [qu,qu,List.length_replicate,List.length_map,hts];rw [zqk f]
theorem zkj{P:Program}{w:World}{K:qe}{H:Hp}{h:Heap}{a:Addr}{o:HO}(x:HOk P w K H h)(hn:H a=none)(new:zao P w K (upd H a o) h a o):HOk P w K (upd H a o) h:=fun b u e=>by
 by_cases hb:b=a
 ·subst hb; rw [zD]at e; cases e; exact new
 ·rw [zI hb]at e
  exact(x b u e).stay (fun _ _ _ q=>q) (fun c q=>(zI (zas q hn)).trans q) fun c ys q=>(zI (zas q hn)).trans q
theorem zl8{fs ex:List Addr}{H H1:Hp}{h h1:Heap}{a:Addr}{o:HO}(u:Un fs ex H H1 h h1)(hn:H1 a=none)(ha:h.objs.size<=a):Un fs ex H (upd H1 a o) h h1 where
 keep:=u.keep
 slot:=u.slot
 free:=fun b ob q n hx=>(zI (ql (qk (qj q) ha))).trans (u.free b ob q n hx)
 there:=u.there
 tups:=fun b ys q=>(zI (zas (u.tups b ys q) hn)).trans (u.tups b ys q)
 frzs:=fun b ob ys q=>(zI (zas (u.frzs b ob ys q) hn)).trans (u.frzs b ob ys q)
 tbls:=fun b ps q=>by
  obtain⟨more,e⟩:=u.tbls b ps q;exact⟨more,(zI (zas e hn)).trans e⟩
def ziD(X:Cx)(ifs:List Expr)(t:TT):Prop :=
 ∀ (pins:List (Addr×Obj)) (s:Shared) (σ:St) (H:Hp) (Q:Bool->Hp->Prop),Inv X pins σ H s->t σ H Q ->
  wpAny (model X.prog X.w) X.A (forIn ifs true fun c r=>if r=true then do let ok <-isTrue c X.env (eval c X.env); pure (ForInStep.yield ok)else pure (ForInStep.yield r)) (TP X pins σ Q) X.xe s
def zyr:TT:=fun _ H Q=>Q true H
theorem zrz{X:Cx}:ziD X [] zyr:=fun _ _ _ H _ I h=>wpAny_tests_nil ⟨H,I,h⟩
theorem zrA{X:Cx}{c:Expr}{t:TT}(h:PT X c t):ziD X [c] t:=fun pins s σ H Q I q=>wpAny_tests_one (h pins s σ H Q I q)
theorem znH{α:Type}{t:Sem α}{Q Q':α->Shared->Prop}{M:Model}{A:Around}{E:Value->Shared->Prop}{s:Shared}(h:wpAny M A t Q (fun _ _=>False) s)(hQ:∀ a s,Q a s->Q' a s):wpAny M A t Q' E s:=wpAny_mono h hQ fun _ _ x=>x.elim
theorem znI{prog:Program}{w:World}{A:Around}{R:Result->Shared->Prop}{s:Shared}{elt target iter:Expr}{ifs:List Expr}{scope:Scope}{pos:Pos}{it acc:Value}{env:Env}(I:Nat->Shared->Prop)
  (turn:∀ n s,I n s->∀ E,wpAny (model prog w) A (pyNext it) (fun r s1=>match r with
   | none=>R (.ok .next) s1
   | some v=>wpAny (model prog w) A (letOwnedTupleGo target it v) (fun _ s2=>wpAny (model prog w) A (assign target env v) (fun _ s3 =>
     wpAny (model prog w) A (forIn ifs true fun c r=>if r=true then do let ok <-isTrue c env (eval c env); pure (ForInStep.yield ok)else pure (ForInStep.yield r)) (fun ok s4 =>
      (ok=true->wpAny (model prog w) A (eval elt env) (fun x s5=>wpAny (model prog w) A (call (.builtin "list.append") [acc,x]) (fun _ s6=>∃ m,m < n/\I m s6) E s5) E s4) /\
      (ok=false->∃ m,m < n/\I m s4)) E s3) E s2) E s1) E s)
  (n:Nat) (h:I n s):codeAny (model prog w) A (.compLoop (.ListComp elt [⟨target,iter,ifs,0⟩] scope pos) 0 it acc env) R s:=by
 refine codeAny_loop rfl I (fun n s hI=>?_) n h;show wpAny _ A ((compTurn _ 0 it acc env).onRaise (fun x=>do noteFrame x env; theTreesLotGoes x)) _ _ s;refine wpAny_noted ?_;rw [compTurn_list];refine qc (wpAny_standAt (qc (wpAny_mono (turn n s hI _) (fun r s1 h1=>?_) fun _ _ z=>z)));cases r with
 | none=>exact qd h1
 | some v =>
  refine qc (wpAny_mono h1 (fun _ s2 h2=>?_) fun _ _ z=>z);refine qc (wpAny_mono h2 (fun _ s3 h3=>?_) fun _ _ z=>z);refine qc (wpAny_mono h3 (fun ok s4 h4=>?_) fun _ _ z=>z);cases ok with
  | false=>exact qd ⟨rfl,h4.2 rfl⟩
  | true =>
   refine qc (qc (wpAny_mono (h4.1 rfl) (fun x s5 h5=>?_) fun _ _ z=>z));exact qc (wpAny_mono h5 (fun _ s6 h6=>qd (qd ⟨rfl,h6⟩)) fun _ _ z=>z)
def zzU(J:It)(σc:St)(g:TG)(tt:TT)(te:TE)(Z:List V->Hp->Prop)(H1:Hp):Prop :=
 ∃ W:Nat->Nat->List V->Hp->Prop,(∃ m,W 0 m [] H1)/\∀ i m ys H,W i m ys H ->
  (J.stop i H/\Z ys H)\/(J.go i H/\ys.length < sizeLine/\∃ N:List V->Hp->Prop,(∀ ys' H',N ys' H'->∃ m',m' < m/\W (i+1) m' ys' H') /\
   ∀ x H',J.yld i H x H'->g x σc H' fun σ2 H2=>tt σ2 H2 fun b H3=>if b=true then te σ2 H3 fun y H4=>N (ys++[y]) H4 else N ys H3)
def GW(σc:St)(g:TG):Prop:=∀ x H (Q:St->Hp->Prop),g x σc H Q->g x σc H fun σ2 H2=>Wk σc σ2/\Q σ2 H2
theorem ziE{elt iter tg:Expr}{ifs:List Expr}{pos:Pos}{J:It}{it:Addr}{tn:Nat->Heap->Prop}{g:TG}{tt:TT}{te:TE}{Z:List V->Hp->Prop}{RR:Value->Addr->Result->Shared->Prop}{E:Value->Shared->Prop}
  (hc:X.calm=true) (I:Inv X pins σ H s) (S:ScC scope xs) (f:Frees X cl xs js) (hts:ts.length=nt) (T:Turn X.prog X.w X.K tg J fp it tn) (st:tn 0 s.heap) (hf:∀ b∈fp,zdv X pins H b)
  (hg:∀ C s H ex,PG (zV X scope cl (ts++xs) C s H ex) tg g) (ht:∀ C s H ex,ziD (zV X scope cl (ts++xs) C s H ex) ifs tt) (he:∀ C s H ex,PE (zV X scope cl (ts++xs) C s H ex) elt te)
  (gw:GW (c0 nt js σ) g) (h:zzU J (c0 nt js σ) g tt te Z H)
  (hRR:∀ (D C:Addr) (m:Str->Option Value) (s':Shared) (ys:List V) (H':Hp),Z ys H'->H' D=none->Inv X pins σ (upd H' D (.lst ys)) s'->s'.heap.Ns C m->upd H' D (.lst ys) C=none->C≠X.env.locals ->
   (∀ x c,X.env.cells.lookup x=some c->c≠C)->X.s₀.heap.objs.size<=C->(∀ p∈X.pn++pins,p.1≠C)->RR (.ref D) C (.ok .next) s') :
  wpAny (model X.prog X.w) X.A (newList []) (fun acc s3=>wpAny (model X.prog X.w) X.A (newFunctionEnv scope X.env.globals cl [] X.env.qual none .none (some X.env)) (fun cenv s4 =>
   codeAny (model X.prog X.w) X.A (.compStart (.ListComp elt [⟨tg,iter,ifs,0⟩] scope pos) 0 (.ref it) acc { cenv with scope:=relabel scope X.env }) (RR acc cenv.locals) s4) E s3) E s:=by
 refine qB (zl6 fun h1 hn1 hsb1 ck=>?_);dsimp only at hn1 hsb1 ck ⊢;generalize hH2:s.heap.push { cls:=.type "list",dict:=none,data:=.seq ([]:List Value).toArray }=G at hn1 hsb1 ck ⊢;have hCs:G.objs.size=s.heap.objs.size+1:=by rw [<-hH2,Heap.size_push]
 have hC:s.heap.objs.size<=G.objs.size:=by rw [hCs]; exact Nat.le_succ _
 have hDC:s.heap.objs.size≠G.objs.size:=by rw [hCs]; exact ql (Nat.lt_succ_self _)
 have hl:∀ b∈fp,b < s.heap.objs.size:=fun b hb=>by
  obtain⟨o,e,_⟩:=T.obj _ _ st b hb;exact qj e
 have old:∀ b o,s.heap.get? b=some o->h1.get? b=some o:=fun b o e =>
  hsb1 b o (hH2▸qf _ e)
 have hD1:h1.get? s.heap.objs.size=some { cls:=.type "list",data:=.seq ([]:List Value).toArray }:=hsb1 _ _ (hH2▸qi _ rfl);have J0:Inv (zV X scope cl (ts++xs) G.objs.size s H fp) [] (c0 nt js σ) H { s with heap:=h1 }:=zl7 (tk:=s.toks) I S f hts hC hf hl old hn1 ck;obtain⟨W,⟨m0,w0⟩,turn⟩:=h;have st1:tn 0 h1:=T.keep _ _ _ st fun b hb o e=>old b o e;have hDn:H s.heap.objs.size=none:=I.hok.fresh (qg _);have Dnot:∀ b∈fp,s.heap.objs.size≠b:=fun b hb z=>absurd (hl b hb) (by rw [<-z]; exact Nat.lt_irrefl _);have fpk:∀ {H':Hp} {pl:List (Addr×Obj)},(∀ b∈fp,H' b=none)->(∀ p∈pl,p.1=s.heap.objs.size)->∀ b∈fp,zdv (zV X scope cl (ts++xs) G.objs.size s H fp) pl H' b:=fun{H' pl} hn hp b hb=>by
  refine⟨hn b hb,ql (qk (hl b hb) hC),fun z=>?_,.inl hb,fun x c e=>((zkY I S f ck hC hf hl (ts:=ts)).exf b hb).2 x c e,fun p hpp z=>?_⟩
  ·rcases qw.mp (I.stkSub b z)with q | q
   ·exact(hf b hb).2.1 q
   ·exact(hf b hb).2.2.1 q
  ·rcases List.mem_append.mp hpp with q | q
   ·cases q
   ·exact Dnot b hb ((hp p q).symm.trans z)
 have loop:codeAny (model X.prog X.w) X.A (.compLoop (.ListComp elt [⟨tg,iter,ifs,0⟩] scope pos) 0 (.ref it) (.ref s.heap.objs.size) (compEnvC scope (cellsFrom (G.objs.size+1) scope.names cl) G.objs.size X.env)) (RR (.ref s.heap.objs.size) G.objs.size)
   { s with heap:=h1 }:=by
  refine znI (fun n s'=>∃ i ys its nn H',Inv (zV X scope cl (ts++xs) G.objs.size s H fp) [] (c0 nt js σ) H' s'/\tn i s'.heap/\(∀ b∈fp,H' b=none)/\H' s.heap.objs.size=none /\
   s'.heap.get? s.heap.objs.size=some { cls:=.type "list",data:=.seq (List.toArray its) nn }/\zP ys its/\ys.length<=sizeLine/\W i n ys H') ?_ m0
   ⟨0,[],[],0,H,J0,st1,fun b hb=>(hf b hb).1,hDn,hD1,.nil,Nat.zero_le _,w0⟩
  rintro n s3 ⟨i,ys,its,nn,H3,I3,st3,fr3,d3,o3,r3,z3,w3⟩ E';have cne:s.heap.objs.size≠(zV X scope cl (ts++xs) G.objs.size s H fp).env.locals:=hDC;have I3p:Inv (zV X scope cl (ts++xs) G.objs.size s H fp) [(s.heap.objs.size,{ cls:=.type "list",data:=.seq its.toArray nn })] (c0 nt js σ) H3 s3:=I3.pins_of fun p hp=>by
   have e:p=(s.heap.objs.size,{ cls:=.type "list",data:=.seq its.toArray nn }):=by simpa using hp
   subst e;refine⟨o3,d3,cne,fun z=>?_,fun v z=>by cases z⟩;obtain⟨_,ob,e,_⟩:=I.stack.mem z;exact absurd (qj e) (Nat.lt_irrefl _)
  have pl1:∀ p∈[(s.heap.objs.size,({ cls:=.type "list",data:=.seq its.toArray nn }:Obj))],p.1=s.heap.objs.size:=fun p hp=>by
   have e:p=(s.heap.objs.size,{ cls:=.type "list",data:=.seq its.toArray nn }):=by simpa using hp
   rw [e]
  rcases turn i n ys H3 w3 with ⟨stop,qz⟩ | ⟨go,hsz,N,hN,step⟩
  ·refine thn (T.done (zV X scope cl (ts++xs) G.objs.size s H fp) rfl rfl rfl hc i _ s3 _ H3 E' I3p (fpk fr3 pl1) st3 stop) fun r s4 ⟨hr,I4⟩=>?_
   subst hr;have o4:s4.heap.get? s.heap.objs.size=some { cls:=.type "list",data:=.seq its.toArray nn }:=(I4.pin _ (qx _ qq)).1;obtain⟨m4,n4,_⟩:=I4.loc;have hk4:HOk X.prog X.w X.K (upd H3 s.heap.objs.size (.lst ys)) s4.heap:=zkj I4.hok d3 ⟨z3,its,nn,r3,o4⟩;have un4:Un (frs X.stack) fp H (upd H3 s.heap.objs.size (.lst ys)) s.heap s4.heap:=zl8 I4.base d3 (qg _);refine hRR _ _ m4 s4 ys H3 qz d3 (I.call' I4.os un4 hk4 I4.bare fun b hb=>⟨(hf b hb).2.2.2.1,(hf b hb).2.1,(hf b hb).2.2.2.2.1,fun p hp=>(hf b hb).2.2.2.2.2 p hp⟩) n4 ?_ ?_ ?_ ?_ ?_
   ·rw [zI (Ne.symm hDC)]
    exact I4.free
   ·exact fun z=>absurd I.lt (by rw [<-z]; exact Nat.not_lt.mpr hC)
   ·intro x c e z
    obtain⟨v,ob,q,_⟩:=I.cell x c e;exact absurd (qj q) (by rw [z]; exact Nat.not_lt.mpr hC)
   ·exact qA I.sz hC
   ·intro p hp z
    have q:=(I.pin p hp).1;exact absurd (qj q) (by rw [z]; exact Nat.not_lt.mpr hC)
  ·refine thn (T.item (zV X scope cl (ts++xs) G.objs.size s H fp) rfl rfl rfl hc i _ s3 _ H3 E' I3p (fpk fr3 pl1) st3 go) fun r s4 ⟨u,hr,h4⟩=>?_
   subst hr;refine thn h4 fun _ s5 ⟨x,H5,I5,r5,y5,st5,fr5⟩=>?_;have I5':=I5.pinned (fpk fr5 pl1) (T.obj _ _ st5);refine znH (hg _ _ _ _ _ s5 _ H5 x u _ I5' r5 (gw _ _ _ (step x H5 y5))) fun _ s6 ⟨σ6,H6,I6,wk6,q6⟩=>?_;refine znH (ht _ _ _ _ _ s6 σ6 H6 _ I6 q6) fun ok s7 ⟨H7,I7,q7⟩=>?_;have after:∀ {H8:Hp} {s8:Shared},Inv (zV X scope cl (ts++xs) G.objs.size s H fp) ([(s.heap.objs.size,({ cls:=.type "list",data:=.seq its.toArray nn }:Obj))]++zg1 fp s5.heap) σ6 H8 s8 ->
     tn (i+1) s8.heap/\(∀ b∈fp,H8 b=none)/\H8 s.heap.objs.size=none/\s8.heap.get? s.heap.objs.size=some { cls:=.type "list",data:=.seq its.toArray nn } /\
      Inv (zV X scope cl (ts++xs) G.objs.size s H fp) [] (c0 nt js σ) H8 s8:=fun{H8 s8} I8=>by
    have dd:=I8.pin (s.heap.objs.size,({ cls:=.type "list",data:=.seq its.toArray nn }:Obj)) (qx _ (List.mem_append_left _ qq));refine⟨T.keep _ _ _ st5 fun b hb o e=>(I8.pin (b,o) (qx _ (qx _ (zcc hb e)))).1,fun b hb=>?_,dd.2.1,dd.1,?_⟩
    ·obtain⟨o,e,d⟩:=T.obj _ _ st5 b hb
     exact(I8.pin (b,o) (qx _ (qx _ (zcc hb e)))).2.1
    ·exact(I8.weak wk6.1 wk6.2).pins_of fun p hp=>by cases hp
   refine⟨fun hok=>?_,fun hok=>?_⟩
   ·subst hok
    rw [if_pos rfl]at q7;refine znH (he _ _ _ _ _ s7 σ6 H7 _ I7 q7) fun v s8 ⟨y,H8,I8,ry,q8⟩=>?_;obtain⟨st8,fr8,d8,o8,I8'⟩:=after I8;obtain⟨m',hm,w8⟩:=hN _ _ q8;refine call_meets F.slot_list_append ⟨_,o8,rfl⟩ F.entry_list_append (F.args_list_append_2 _ _) (PySem.list_append s.heap.objs.size its.toArray nn v (by rw [List.size_toArray,<-r3.length]; omega)) ⟨o8,?_⟩;obtain⟨_,f1,_,f3,f4,_⟩:=(⟨d8,cne,trivial,.inr (qg _),fun x c e=>by
     rcases ze6 e with z | ⟨z,_⟩
     ·exact Nat.ne_of_gt (qk (Nat.lt_of_le_of_lt hC (Nat.lt_succ_self _)) (ck.empty _ _ (mem_of_lookup z)).2)
     ·obtain⟨v0,ob,q,_⟩:=I.cell x c (zbT f x c z)
      exact Nat.ne_of_gt (qj q) |>.symm,trivial⟩:H8 s.heap.objs.size=none/\s.heap.objs.size≠(zV X scope cl (ts++xs) G.objs.size s H fp).env.locals/\True/\(s.heap.objs.size∈fp\/s.heap.objs.size<=s.heap.objs.size) /\
      (∀ x c,(cellsFrom (G.objs.size+1) scope.names cl).lookup x=some c->c≠s.heap.objs.size)/\True)
    have q:=PySem.IsL.update o8 (fun x=>x.push v);have hp:its.toArray.push v=(its++[v]).toArray:=by simp
    rw [hp]at q;refine⟨m',hm,i+1,ys++[y],its++[v],_,H8,I8'.turned (t':=s8.toks) (it:=s.heap.objs.size) (fun b o hb e=>(Heap.get?_update_other s8.heap _ (Ne.symm hb)).trans e) d8 f1 f3 f4 (fun p hp=>by cases hp),?_,fr8,d8,q,r3.append (.cons ry .nil),?_,w8⟩
    ·exact T.keep _ _ _ st8 fun b hb o e=>(Heap.get?_update_other s8.heap _ (Dnot b hb)).trans e
    ·rw [qu,List.length_singleton]
     omega
   ·subst hok
    rw [if_neg qh]at q7;obtain⟨st7,fr7,d7,o7,I7'⟩:=after I7;obtain⟨m',hm,w7⟩:=hN _ _ q7;exact⟨m',hm,i+1,ys,its,nn,H7,I7',st7,fr7,d7,o7,r3,z3,w7⟩
 exact codeAny_compStart_list loop (T.self _ _ _ _ _ st1 loop)
def tLC(wi:TI)(nt:Nat)(js:List Nat)(g:TG)(tt:TT)(te:TE):TE:=fun σ H Q=>wi σ H fun J H1 =>
 zzU J (c0 nt js σ) g tt te (fun ys H2=>∀ D,H2 D=none->Q (.ref D) (upd H2 D (.lst ys))) H1
theorem zzV{elt iter tg:Expr}{ifs:List Expr}{pos:Pos}{wi:TI}{g:TG}{tt:TT}{te:TE}(nt:Nat)(ts:List Str)(hts:ts.length=nt)(hc:X.calm=true)(S:ScC scope xs)(f:Frees X cl xs js)(hclos:closureFor scope X.env=pure cl)
  (hi:PI X tg iter wi) (hg:∀ C s H ex,PG (zV X scope cl (ts++xs) C s H ex) tg g) (gw:∀ σ:St,GW (c0 nt js σ) g) (ht:∀ C s H ex,ziD (zV X scope cl (ts++xs) C s H ex) ifs tt)
  (he:∀ C s H ex,PE (zV X scope cl (ts++xs) C s H ex) elt te) (hs:∀ x,foldedSetIterable iter X.env x=pure x:=by intro _; rfl) :
  PE X (.ListComp elt [⟨tg,iter,ifs,0⟩] scope pos) (tLC wi nt js g tt te):=by
 intro pins s σ H Q I h;rw [eval_ListComp];refine wpAny_comprehension_free (use:=none) rfl hs hclos S.kind S.names (thn (hi pins s σ H _ I h) fun v s1 h1=>thn h1 fun itv s2 h2=>?_);obtain⟨it,fp,tn,J,H2,e,I2,T,st2,f2,q⟩:=h2;subst e;refine ziE (RR:=fun acc C=>compPost (model X.prog X.w) X.A X.xe none (EP X pins σ Q) acc C) hc I2 S f hts T st2 f2 hg ht he (gw σ) q ?_;intro D C m s' ys H' z hD I' hn hCn hCL hCc hCs hCp;refine⟨m,hn,fun h' hs'=>⟨.ref D,_,I'.turned (it:=C) (fun b o hb e=>hs'.extBut b o hb e) hCn hCL (.inr hCs) hCc hCp,rfl,z D hD⟩⟩
end
section
variable {X:Cx}
def zkk(_ j:Int):Prop:=0 < j/\j.natAbs.log2 < 9000
theorem zgo:OpR X (binaryOp .FloorDiv) (rI zkk fun i j=>.int (i / j)):=opI fun i j _ _ _ _ _ hc q=>by
 have h1:(0:Int) < j:=hc.1;exact floordiv_int (by omega) (by rw [Int.fdiv_eq_ediv_of_nonneg i (by omega)]; exact q) (.inl (PyProof.noPylong_of_log2 hc.2))
def ziF(_ j:Int):Prop:=j≠0/\j.natAbs.log2 < 9000
theorem zdJ:OpR X (binaryOp .FloorDiv) (rI ziF fun i j=>.int (i.fdiv j)):=opI fun i j _ _ _ _ _ hc q =>
 floordiv_int hc.1 q (.inl (PyProof.noPylong_of_log2 hc.2))
theorem zbO{n:Nat}{k:Nat}(hk:0 < k)(h:n < 2^k):n.log2 < k:=by
 by_cases hn:n=0
 ·subst hn; exact hk
 ·exact(Nat.log2_lt hn).mpr h
theorem zu1{i j:Int}(h:0 < j)(h2:j<=2^128):zkk i j:=⟨h,Nat.lt_trans (zbO (k:=129) (by decide) (by omega)) (by decide)⟩
def zys(K:qe):List V->Hp->VK->Prop:=fun xs H Q=>∃ x t T b,xs=[x,.ty T]/\TyOf K H x t/\PySem.W.kitOne K t (.type T)=some b/\Q (.bl b) H
theorem zrB:zbS X (.builtin "isinstance") (zys X.K):=by
 intro pins s σ H xs us Q I r h;obtain⟨x,t,T,b,rfl,ty,e,q⟩:=h;obtain⟨u,u',rfl,rx,rt⟩:=zoG r;cases rt;exact zqc I rx ty e fun tk=>⟨.bl b,H,I.tok tk,rfl,q⟩
end
theorem zkZ{nt:Nat}{js:List Nat}{i:Nat}(h:i < nt):∀ σ:St,GW (c0 nt js σ) (zdI i):=fun σ x H Q q=>⟨zyq (zkW h),q⟩
def SameBut(p:Addr)(H H':Hp):Prop:=∀ b o,b≠p->H b=some o->H' b=some o
theorem zag{H:Hp}{p:Addr}(h:H p=none)(o:HO):zbN H (upd H p o):=fun b u q=>by rw [zI (zas q h)]; exact q
def Bl(mg:Str->Option Value)(xs:List Str):Prop:=∀ x,x∈xs->mg x=none
theorem Bl.nil{mg:Str->Option Value}:Bl mg []:=fun _ h=>by cases h
theorem Bl.cons{mg:Str->Option Value}{x:Str}{xs:List Str}(h:mg x=none)(t:Bl mg xs):Bl mg (x::xs):=fun y m=>by
 rcases qw.mp m with e | e
 ·rw [e]; exact h
 ·exact t y e
def zah:Expr->Bool
 | .Starred _ _=>false
 | _=>true
theorem zcd{e:Expr}{es:List Expr}{env:Env}(h:zah e=true):starEach (e::es) env=(false,eval e env)::starEach es env:=by
 cases e<;>first | rfl | cases h
theorem zcm{pos:Pos}{env:Env}:∀ {es:List Expr},es.all zah=true->(backTo pos (starEach es env)).any (·.1)=false
 | [],_=>rfl
 | e::es,h=>by
  rw [List.all_cons,Bool.and_eq_true]at h;rw [zcd h.1];show(false || (backTo pos (starEach es env)).any (·.1))=false;rw [Bool.false_or];exact zcm h.2
section
variable {X:Cx} {e:Expr} {es:List Expr} {te:TE} {t:TA} {r:List V->Hp->VK->Prop} {x:Str} {id T:String} {p pos:Pos}
theorem zBg(ha:PE X e te)(hr:PA X es t)(hs:zah e=true:=by rfl):PA X (e::es) (zfp te t):=zuN ha hr (zcd hs)
theorem zzW(hc:zbS X (.builtin id) r)(hg:Gl X x)(hm:X.mg x=none)(hv:bootBuiltins x=some (.builtin id))(ha:PA X (e::es) t)(hn:x ≠ "__name__":=by decide)(hdb:(x==("__debug__":Str))=false:=by decide)
  (he:zah e=true:=by rfl) (hpl:es.all zah=true:=by rfl):PE X (.Call (.Name x p) (e::es) [] pos) (tCB r t):=zri hc hg hm hv ha hn hdb (zcd he) (zcm hpl)
theorem zzX(hc:zbS X (.type T) r)(hg:Gl X x)(hm:X.mg x=none)(hv:bootBuiltins x=some (.type T))(ha:PA X (e::es) t)(hn:x ≠ "__name__":=by decide)(hdb:(x==("__debug__":Str))=false:=by decide)
  (he:zah e=true:=by rfl) (hpl:es.all zah=true:=by rfl):PE X (.Call (.Name x p) (e::es) [] pos) (tCB r t):=zqe hc hg hm hv ha hn hdb (zcd he) (zcm hpl)
end
structure Cal (P:Program) (w:World) (K:qe) (mg:Str->Option Value) (base:Heap) (x:Str) (k:Nat) (ps:List Str) (sp:Sp):Prop where
 ex:∃ (f:Addr) (fd:FuncData),FnOk P w K mg base CX0 k f fd ps sp/\zfq K fd ps []/\PySem.W.keepIn K (.ref f)=true/\mg x=some (.ref f)
def zyt(sp:Sp)(t:TA):TE:=fun σ H Q=>t σ H fun vs H1=>sp vs H1 Q E0
section
variable {X:Cx} {k:Nat} {ps:List Str} {sp:Sp} {x:Str} {p pos:Pos} {e:Expr} {es:List Expr} {t:TA}
theorem zyu(C:Cal X.prog X.w X.K X.mg X.base x k ps sp)(hr:Room k X.A)(hg:Gl X x)(ha:PA X (e::es) t)(hdb:(x==("__debug__":Str))=false:=by decide)
  (he:zah e=true:=by rfl) (hpl:es.all zah=true:=by rfl):PE X (.Call (.Name x p) (e::es) [] pos) (zyt sp t):=by
 obtain⟨f,fd,F,hb,hk,hm⟩:=C.ex;intro pins s σ H Q I h;refine zuO (dvs:=[]) (E:=E0) F hr hg hm hk hb .nil zwo ha hdb (zcd he) (zcm hpl) pins s σ H Q I ?_;show t σ H fun vs H1=>sp (vs++[]) H1 Q E0;have z:(fun(vs:List V) (H1:Hp)=>sp (vs++[]) H1 Q E0)=fun vs H1=>sp vs H1 Q E0:=by
  funext vs H1
  rw [List.append_nil]
 rw [z];exact h
end
def zrC(t:TS):TS:=fun D σ H=>∃ J:St->Hp->Prop,t { D with nx:=J } σ H/\∀ σ' H',J σ' H'->D.nx σ' H'
theorem zu2{X:Cx}{st:Stmt}{t:TS}(h:PS X st t):PS X st (zrC t):=by
 intro pins s σ H D I ⟨J,q,z⟩;refine thn (h pins s σ H _ I q) fun f s' r=>?_;cases f with
 | next=>obtain⟨σ',H',I',j⟩:=r; exact⟨σ',H',I',z _ _ j⟩
 | brk=>exact r
 | cont=>exact r
 | ret u=>exact r
theorem zl9(x y:Int)(hx:0<=x)(hy:0 < y):Int.gcd y (x % y)=Int.gcd x y:=by
 obtain⟨a,rfl⟩:=Int.eq_ofNat_of_zero_le hx;obtain⟨b,rfl⟩:=Int.eq_ofNat_of_zero_le (Int.le_of_lt hy);rw [<-Int.natCast_emod];show Nat.gcd b (a % b)=Nat.gcd a b;rw [Nat.gcd_comm a b,Nat.gcd_comm b (a % b)];exact(Nat.gcd_rec b a).symm
theorem zk0(x y:Int):Int.gcd (if x < 0 then -x else x) y=Int.gcd x y:=by
 split
 ·exact Int.neg_gcd
 ·rfl
structure Wr (p:Prop):Prop where
 run:p
theorem ziG{mg:Str->Option Value}{xs:List Str}{x:Str}(h:Bl mg xs)(m:x∈xs):mg x=none:=h x m
theorem zgp{X:Cx}{scope:Scope}{cl:List (Str×Addr)}{C:Addr}{s:Shared}{H:Hp}{ex:List Addr}{N:List Str}(h:decide N.Nodup=true):(zV X scope cl N C s H ex).N.Nodup:=of_decide_eq_true h
def zeA(X:Cx)(js:List Nat):List Str:=js.map fun j=>X.N.getD j ""
def zfi(X:Cx)(js:List Nat):List (Str×Addr):=(zeA X js).map fun x=>(x,(X.env.cells.lookup x).getD 0)
def tgN:Expr->List Str
 | .Name x _=>[x]
 | .Tuple es _ _=>es.flatMap fun e=>match e with
  | .Name x _=>[x]
  | .Tuple fs _ _=>fs.filterMap fun e=>match e with
   | .Name x _=>some x
   | _=>none
  | _=>[]
 | _=>[]
def GWx(nt:Nat)(g:TG):Prop:=∀ (js:List Nat) (σ σ1:St),Wk (c0 nt js σ) σ1->∀ x H (Q:St->Hp->Prop),g x σ1 H Q->g x σ1 H fun σ2 H2=>Wk (c0 nt js σ) σ2/\Q σ2 H2
def zql(nt:Nat)(g:TGs):Prop:=∀ (js:List Nat) (σ σ1:St),Wk (c0 nt js σ) σ1->∀ x H (Q:St->Hp->Prop),g x σ1 H Q->g x σ1 H fun σ2 H2=>Wk (c0 nt js σ) σ2/\Q σ2 H2
theorem zrD{nt i:Nat}(h:i < nt):GWx nt (zdI i):=by
 intro js σ σ1 w x H Q q;refine⟨⟨by rw [List.length_set]; exact w.1,fun j v e=>?_⟩,q⟩;have ne:i≠j:=by
  rintro rfl;rw [zkW h]at e;cases e
 rw [qD ne];exact w.2 j v e
theorem ziH{nt:Nat}:zql nt zuA:=fun js σ σ1 w x H Q q=>⟨q.1,w,q.2⟩
theorem zqm{nt:Nat}{g:TG}{gs:TGs}(h1:GWx nt g)(h2:zql nt gs)(mono:∀ v σ H (Q Q':St->Hp->Prop),(∀ σ' H',Q σ' H'->Q' σ' H')->g v σ H Q->g v σ H Q'):zql nt (zlV g gs):=by
 intro js σ σ1 w x H Q q;obtain⟨v,r,e,k⟩:=q;refine⟨v,r,e,mono _ _ _ _ _ (fun σ' H' ⟨w',q'⟩=>?_) (h1 js σ σ1 w v H _ k)⟩;exact h2 js σ σ' w' r H' Q q'
theorem zk1{K:qe}{nt n:Nat}{gs:TGs}(h:zql nt gs):GWx nt (zuC K n gs):=by
 intro js σ σ1 w x H Q q;obtain⟨a,xs,e,s,l,k⟩:=q;exact⟨a,xs,e,s,l,h js σ σ1 w xs H Q k⟩
theorem zrE{nt:Nat}{js:List Nat}{g:TG}(h:GWx nt g):∀ σ:St,GW (c0 nt js σ) g:=fun σ x H Q q=>h js σ _ ⟨rfl,fun _ _ e=>e⟩ x H Q q
theorem zqn{i:Nat}:∀ v σ H (Q Q':St->Hp->Prop),(∀ σ' H',Q σ' H'->Q' σ' H')->zdI i v σ H Q->zdI i v σ H Q':=fun v σ H Q Q' h q=>h _ _ q
theorem zg7{nt i:Nat}{gs:TGs}(h:i < nt)(h2:zql nt gs):zql nt (zlV (zdI i) gs):=zqm (zrD h) h2 zqn
section
variable {X:Cx} {pos p pos':Pos} {e a b c o:Expr} {es zcy:List Expr} {te ta tb:TE} {t:TA} {r:List V->Hp->VK->Prop} {rd:R2} {x:Str} {id T:String} {i j:Nat} {tA tB':TT} {st:Stmt} {sts body:List Stmt} {ts us:TS} {g:TG} {gs:TGs} {wi:TI} {tg:Expr}
theorem w_v{i:Nat}(hN:X.N[i]?=some x:=by rfl)(hv:Vis X.env.scope x:=by first | exact Or.inl rfl | exact Or.inr (Or.inl rfl) | exact Or.inr (Or.inr rfl))(hd:(x==("__debug__":Str))=false:=by decide)
  (hcd:(x==("__classdict__":Str))=false:=by decide):Wr (PE X (.Name x pos) (zes i)):=⟨pv i hN hv hd hcd⟩
theorem zn{n:Int}:Wr (PE X (.Constant (.int n) j pos) (tC (.int n))):=⟨zxF⟩
theorem zjN{n:Bool}:Wr (PE X (.Constant (.bool n) j pos) (tC (.bl n))):=⟨zzI⟩
theorem zcI:Wr (PE X (.Constant .none j pos) (tC .non)):=⟨zxG⟩
theorem zaL{n:Str}:Wr (PE X (.Constant (.str n) j pos) (tC (.str n))):=⟨zxH⟩
theorem zcJ{v:V}{u:Value}(hv:bootBuiltins x=some u)(r:zab v u)(hg:Gl X x:=by exact rfl)(hm:X.mg x=none:=by exact ziG ‹Bl _ _› (by decide))(hn:x ≠ "__name__":=by decide)(hd:(x==("__debug__":Str))=false:=by decide):Wr (PE X (.Name x pos) (tC v)):=⟨zut hg hm hv r hn hd⟩
theorem zR{op:Operator}(ho:OpR X (binaryOp op) rd)(ha:Wr (PE X a ta))(hb:Wr (PE X b tb)):Wr (PE X (.BinOp a op b pos) (tOp rd ta tb)):=⟨zzL ho ha.run hb.run⟩
theorem zqo{op:UnaryOp}{r:V->Hp->VK->Prop}(ho:UnR X (unaryOp op) r)(ha:Wr (PE X a ta)):Wr (PE X (.UnaryOp op a pos) (tUn r ta)):=⟨zzM ho ha.run⟩
theorem w_not(ha:Wr (PE X a ta)):Wr (PE X (.UnaryOp .Not a pos) (zqZ ta)):=⟨zxQ ha.run⟩
theorem ziI{op:CmpOp}(ho:OpR X (compareOp op) rd)(ha:Wr (PE X a ta))(hb:Wr (PE X b tb))(hm:behindInMarks op b=false:=by first | exact zrc _ | rfl):Wr (PE X (.Compare a [op] [b] pos) (tOp rd ta tb)):=⟨zuH ho ha.run hb.run hm⟩
theorem zK{op:CmpOp}(ho:OpR X (compareOp op) rd)(ha:Wr (PE X a ta))(hb:Wr (PE X b tb))(hm:behindInMarks op b=false:=by first | exact zrc _ | rfl):Wr (PT X (.Compare a [op] [b] pos) (zrd (tOp rd ta tb))):=⟨zuI ho ha.run hb.run hm⟩
theorem zu3{op op':CmpOp}{rd':R2}{tc:TE}(ho:OpR X (compareOp op) rd)(ho':OpR X (compareOp op') rd')(ha:Wr (PE X a ta))(hb:Wr (PE X b tb))(hc:Wr (PE X c tc))(hm:lastMarks [op,op'] [b,c]=false:=by rfl) :
  Wr (PE X (.Compare a [op,op'] [b,c] pos) (zns rd rd' ta tb tc)):=⟨zre ho ho' ha.run hb.run hc.run hm⟩
theorem zma{op}(h:Wr (PE X a te)):Wr (PE X (.BoolOp op [a] pos) te):=⟨zxO h.run⟩
theorem ziJ(ha:Wr (PE X a ta))(hb:Wr (PE X (.BoolOp .And (b::zcy) pos) tb)):Wr (PE X (.BoolOp .And (a::b::zcy) pos) (zqY ta tb)):=⟨zxP ha.run hb.run⟩
theorem zia(ha:Wr (PT X a tA)):Wr (PW X (.BoolOp .And [a] pos) tA):=⟨zuu ha.run⟩
theorem zbX(ha:Wr (PT X a tA)):Wr (PW X (.BoolOp .Or [a] pos) tA):=⟨zxL ha.run⟩
theorem zk2(ha:Wr (PT X a tA))(hb:Wr (PW X (.BoolOp .And (b::zcy) pos) tB')):Wr (PW X (.BoolOp .And (a::b::zcy) pos) (zxJ tA tB')):=⟨zxM ha.run hb.run⟩
theorem zca(ha:Wr (PT X a tA))(hb:Wr (PW X (.BoolOp .Or (b::zcy) pos) tB')):Wr (PW X (.BoolOp .Or (a::b::zcy) pos) (tOr tA tB')):=⟨zzJ ha.run hb.run⟩
theorem zet(h:Wr (PW X e tA)):Wr (PT X e tA):=⟨h.run.pt⟩
theorem zbo(ha:Wr (PT X a tA)):Wr (PT X (.UnaryOp .Not a pos) (zxK tA)):=⟨zxN ha.run⟩
theorem zba(h:Wr (PE X e te))(he:∀ whole,isTrue e X.env whole=(do let v <-whole; standAt e.pos; holding [v] (truthy v)):=by intro _; rfl):Wr (PT X e (tB te)):=⟨zxI h.run he⟩
def zzY(K:qe)(ta:TE):TT:=fun σ H Q=>ta σ H fun x H'=>∃ k,zx7 K x H' k/\Q k H'
theorem zrF(hc:Wr (PT X c tA))(ha:Wr (PE X a ta))(hb:Wr (PE X b tb)):Wr (PE X (.IfExp c a b pos) (tIf tA ta tb)):=⟨zq0 hc.run ha.run hb.run⟩
theorem zi:Wr (PA X [] zny):=⟨zx9⟩
theorem w_a(ha:Wr (PE X e te))(hr:Wr (PA X es t))(hs:zah e=true:=by rfl):Wr (PA X (e::es) (zfp te t)):=⟨zBg ha.run hr.run hs⟩
theorem zaA{x1}(h:Wr (PA X es t)):Wr (PE X (.Tuple es x1 pos) (zya t)):=⟨zyc h.run⟩
theorem zcK(h:Wr (PA X es t)):Wr (PE X (.List es pos) (zyb t)):=⟨zyd h.run⟩
theorem zau(hc:zbS X (.builtin id) r)(hv:bootBuiltins x=some (.builtin id))(ha:Wr (PA X (e::es) t))(hg:Gl X x:=by exact rfl)(hm:X.mg x=none:=by exact ziG ‹Bl _ _› (by decide))(hn:x ≠ "__name__":=by decide)(hdb:(x==("__debug__":Str))=false:=by decide)
  (he:zah e=true:=by rfl) (hpl:es.all zah=true:=by rfl):Wr (PE X (.Call (.Name x p) (e::es) [] pos) (tCB r t)):=⟨zzW hc hg hm hv ha.run hn hdb he hpl⟩
theorem zfj(hc:zbS X (.type T) r)(hv:bootBuiltins x=some (.type T))(ha:Wr (PA X (e::es) t))(hg:Gl X x:=by exact rfl)(hm:X.mg x=none:=by exact ziG ‹Bl _ _› (by decide))(hn:x ≠ "__name__":=by decide)(hdb:(x==("__debug__":Str))=false:=by decide)
  (he:zah e=true:=by rfl) (hpl:es.all zah=true:=by rfl):Wr (PE X (.Call (.Name x p) (e::es) [] pos) (tCB r t)):=⟨zzX hc hg hm hv ha.run hn hdb he hpl⟩
theorem zx{k:Nat}{ps:List Str}{sp:Sp}(ha:Wr (PA X (e::es) t))(C:Cal X.prog X.w X.K X.mg X.base x k ps sp:=by assumption)(hr:Room k X.A:=by exact Room.mono ‹Room _ _› (by decide))(hg:Gl X x:=by exact rfl)(hdb:(x==("__debug__":Str))=false:=by decide)
  (he:zah e=true:=by rfl) (hpl:es.all zah=true:=by rfl):Wr (PE X (.Call (.Name x p) (e::es) [] pos) (zyt sp t)):=⟨zyu C hr hg ha.run hdb he hpl⟩
theorem zL(hr:IxR X rd)(ha:Wr (PE X a ta))(hb:Wr (PE X b tb))(hs:zoJ b:=by exact fun _ _=>rfl):Wr (PE X (.Subscript a b pos) (tOp rd ta tb)):=⟨zzQ hr ha.run hb.run hs⟩
theorem zk3:Wr (PO X none zkQ):=⟨zuQ⟩
theorem zk4(h:Wr (PE X e te)):Wr (PO X (some e) (zrj te)):=⟨zuR h.run⟩
theorem zk5{r:V->Option Int->Option Int->Hp->VK->Prop}{lo hi:Option Expr}{tl th:TO}{p2:Pos}(hr:SlR X r)(he:Wr (PE X e te))(hl:Wr (PO X lo tl))(hu:Wr (PO X hi th)):Wr (PE X (.Subscript e (.Slice lo hi none p2) pos) (tSl r te tl th)):=⟨zrk hr he.run hl.run hu.run⟩
theorem zeB{ta:TA}(ha:Wr (PA X [a] ta))(hg:Gl X "range":=by exact rfl)(hm:X.mg "range"=none:=by exact ziG ‹Bl _ _› (by decide))(hs:zah a=true:=by rfl):Wr (PI X tg (.Call (.Name "range" p) [a] [] pos) (zq7 ta)):=⟨zp6 hg hm ha.run (zcd hs)⟩
theorem zrG{ta:TA}(ha:Wr (PA X [a,b] ta))(hg:Gl X "range":=by exact rfl)(hm:X.mg "range"=none:=by exact ziG ‹Bl _ _› (by decide))(hs:zah a=true:=by rfl)(hs2:zah b=true:=by rfl):Wr (PI X tg (.Call (.Name "range" p) [a,b] [] pos) (zq8 ta)) :=
 ⟨zp7 hg hm ha.run ((zcd hs).trans (by rw [zcd hs2]; rfl)) (zcd hs2)⟩
theorem zu(hN:X.N.Nodup:=by first | assumption | exact zgp rfl)(hi:X.N[i]?=some x:=by rfl)(hx:Loc X.env.scope x:=by first | exact Or.inl rfl | exact Or.inr rfl)(hf:X.fn x=true\/X.env.scope.names.lookup x=some .local:=by first | exact .inl rfl | exact .inr rfl | assumption):Wr (PG X (.Name x pos) (zdI i)):=⟨zuz hN hi hx hf⟩
theorem zbb:Wr (PGs X [] zuA):=⟨zuB⟩
theorem w_g(h1:Wr (PG X e g))(h2:Wr (PGs X es gs))(hs:(assignEach (e::es) X.env).map (·.2)=assign e X.env::(assignEach es X.env).map (·.2):=by rfl):Wr (PGs X (e::es) (zlV g gs)):=⟨zq5 h1.run h2.run hs⟩
theorem znJ{ti:TE}{tset:zuy}(ho:Wr (PE X o ta))(hi:Wr (PE X e ti))(hs:zxT X tset)
  (hh:∀ v,assign (.Subscript o e pos) X.env v=(do
   let ov <-holding [v] (eval o X.env)
   let iv <-holding [v,ov] (eval e X.env)
   standAt pos
   holding [v,ov,iv] (setItem ov iv v)
   release [v,ov,iv] []):=by intro _; rfl):Wr (PG X (.Subscript o e pos) (zxV ta ti tset)):=⟨zxW ho.run hi.run hs hh⟩
theorem zcL:Wr (ziD X [] zyr):=⟨zrz⟩
theorem zrH(h:Wr (PT X c tA)):Wr (ziD X [c] tA):=⟨zrA h.run⟩
theorem zmb{elt iter:Expr}{ifs:List Expr}{scope:Scope}{js:List Nat}{tt:TT}{nt:Nat}(hi:Wr (PI X tg iter wi))(hg:∀ {C s H ex},Wr (PG (zV X scope (zfi X js) (tgN tg++zeA X js) C s H ex) tg g))(ht:∀ {C s H ex},Wr (ziD (zV X scope (zfi X js) (tgN tg++zeA X js) C s H ex) ifs tt))
  (he:∀ {C s H ex},Wr (PE (zV X scope (zfi X js) (tgN tg++zeA X js) C s H ex) elt te))
  (f:Frees X (zfi X js) (zeA X js) js:=by repeat (first | exact Frees.nil | refine Frees.cons rfl (by first | exact Or.inl rfl | exact Or.inr rfl) rfl ?_)) (hclos:closureFor scope X.env=pure (zfi X js):=by rfl) (S:ScC scope (zeA X js):=by exact⟨rfl,of_decide_eq_true rfl,of_decide_eq_true rfl,of_decide_eq_true rfl,of_decide_eq_true rfl⟩) (hts:(tgN tg).length=nt:=by rfl) (hc:X.calm=true:=by rfl) (gw:∀ σ:St,GW (c0 nt js σ) g:=by first | exact zkZ (by decide) | exact zrE (zk1 (by repeat (first | exact ziH | refine zg7 (by decide) ?_)))) (hs:∀ x,foldedSetIterable iter X.env x=pure x:=by intro _; rfl) :
  Wr (PE X (.ListComp elt [⟨tg,iter,ifs,0⟩] scope pos) (tLC wi nt js g tt te)):=⟨zzV nt (tgN tg) hts hc S f hclos hi.run (fun C s H ex=>hg.run) gw (fun C s H ex=>ht.run) (fun C s H ex=>he.run) hs⟩
def zzZ(K:qe):List V->Hp->VK->Prop:=fun xs H Q=>∃ p ys,xs=[.ref p]/\(SqL K H p ys\/SqT K H p ys)/\Q (.int ys.length) H
def zoN(K:qe):List V->Hp->VK->Prop:=fun xs H Q=>∃ p ys,xs=[.ref p]/\(SqL K H p ys\/SqT K H p ys)/\∀ l,H l=none->Q (.ref l) (upd H l (.lst ys))
def zmc(K:qe):List V->Hp->VK->Prop:=fun xs H Q=>∃ p ys,xs=[.ref p]/\((SqL K H p ys/\∀ l,H l=none->Q (.ref l) (upd H l (.tup ys)))\/(SqT K H p ys/\Q (.ref p) H))
theorem zeC{K:qe}(hK:X.K=K:=by rfl):zbS X (.builtin "isinstance") (zys K):=hK▸zrB
theorem zaM{K:qe}(hK:X.K=K:=by rfl):zbS X (.builtin "len") (zzZ K):=hK▸zkU
theorem zrI{K:qe}(hK:X.K=K:=by rfl):zbS X (.type "list") (zoN K):=hK▸zkV
theorem za7{K:qe}(hK:X.K=K:=by rfl):zbS X (.type "tuple") (zmc K):=hK▸zjM
theorem zai{K:qe}(hK:X.K=K:=by rfl):IxR X (zyf K):=hK▸zuU
theorem zX{K:qe}(hK:X.K=K:=by rfl):IxR X (zyg K):=hK▸zyh
theorem zz0{K:qe}(hK:X.K=K:=by rfl):OpR X (compareOp .In) (rIn K false):=hK▸zqf
theorem zu4{K:qe}(hK:X.K=K:=by rfl):OpR X (compareOp .NotIn) (rIn K true):=hK▸zkT
theorem zrJ{K:qe}(hK:X.K=K:=by rfl):SlR X (zyi K):=hK▸zuV
theorem zoO{l:Expr}{tl:TE}{K:qe}(hl:Wr (PE X l tl))(hK:X.K=K:=by rfl):Wr (PI X tg l (zoC K tl)):=hK▸⟨zuD hl.run⟩
theorem zdx{l:Expr}{tl:TE}{K:qe}(hl:Wr (PE X l tl))(hK:X.K=K:=by rfl):Wr (PI X tg l (zx1 K tl)):=hK▸⟨zx2 hl.run⟩
theorem zbc{k n:Nat}{K:qe}(h:Wr (PGs X es gs))(hK:X.K=K:=by rfl)(hc:X.calm=true:=by rfl)(hn:(assignEach es X.env).length=n:=by rfl)(hst:(assignEach es X.env).findIdx? (·.1)=none:=by rfl):Wr (PG X (.Tuple es k pos) (zuC K n gs)):=hK▸⟨zxU hc h.run hn hst⟩
theorem zz1{K:qe}(ha:Wr (PE X a ta))(hK:X.K=K:=by rfl)(he:∀ whole,isTrue a X.env whole=(do let v <-whole; standAt a.pos; holding [v] (truthy v)):=by intro _; rfl):Wr (PT X a (zzY K ta)):=hK▸⟨zrf ha.run he⟩
theorem zad:Wr (PSs X [] zq1):=⟨zuv⟩
theorem w_s(h1:Wr (PS X st ts))(h2:Wr (PSs X sts us)):Wr (PSs X (st::sts) (zq2 ts us)):=⟨ziv h1.run h2.run⟩
theorem zC(h1:Wr (PS X st ts)):Wr (PSs X [st] ts):=⟨zoB h1.run⟩
theorem znK:Wr (PS X (.Continue pos) zq3):=⟨zlU⟩
theorem zaF(he:Wr (PE X e te))(hs:swapsWith e none pos.line X.env=pure false:=by rfl):Wr (PS X (.Expr e pos) (zq4 te)):=⟨zuw he.run hs⟩
theorem zM(he:Wr (PE X e te)):Wr (PS X (.Return (some e) pos) (zux te)):=⟨zxR he.run⟩
theorem zaJ{sa sb:List Stmt}(hc:Wr (PT X c tA))(ha:Wr (PSs X sa ts))(hb:Wr (PSs X sb us)):Wr (PS X (.If c sa sb pos) (zxS tA ts us)):=⟨zzK hc.run ha.run hb.run⟩
theorem ziK(h:Wr (PS X st ts)):Wr (PS X st (zrC ts)):=⟨zu2 h.run⟩
theorem zoP(hc:Wr (PT X c tA))(hb:Wr (PSs X body ts))(hp:PassesOwn (model X.prog X.w) X.A X.env X.xe:=by first | exact PassesOwn.never | exact PassesOwn.leaving):Wr (PS X (.While c body [] pos) (znq tA ts)):=⟨zq6 hp hc.run hb.run⟩
theorem zbi{iter:Expr}(hi:Wr (PI X tg iter wi))(hg:Wr (PG X tg g))(hb:Wr (PSs X body ts))(hp:PassesOwn (model X.prog X.w) X.A X.env X.xe:=by first | exact PassesOwn.never | exact PassesOwn.leaving)(hc:X.calm=true:=by rfl)(hs:∀ x,foldedSetIterable iter X.env x=pure x:=by intro _; rfl) :
  Wr (PS X (.For tg iter body [] pos) (zuE wi g ts)):=⟨zx3 hp hc hi.run hg.run hb.run hs⟩
theorem zJ(he:Wr (PE X e te))(hN:X.N.Nodup:=by first | assumption | exact zgp rfl)(hi:X.N[i]?=some x:=by rfl)(hx:Loc X.env.scope x:=by first | exact Or.inl rfl | exact Or.inr rfl)(hs:swapsWith e (some (.Name x pos')) pos.line X.env=pure false:=by rfl)(hf:X.fn x=true\/X.env.scope.names.lookup x=some .local:=by first | exact .inl rfl | exact .inr rfl | assumption) :
  Wr (PS X (.Assign [.Name x pos'] e pos) (zkN te (zdI i))):=⟨zxY hN hi hx he.run hs hf⟩
theorem zhs(he:Wr (PE X e te))(hg:Wr (PG X tg g))(hs:swapsWithSole [tg] e pos.line X.env=pure false:=by rfl)(hw:swappedStores [tg] e X.env=pure none:=by rfl)(h1:(assignEach [tg] X.env).map (·.2)=[assign tg X.env]:=by rfl) :
  Wr (PS X (.Assign [tg] e pos) (zkN te g)):=⟨zxX he.run hg.run hs hw h1⟩
theorem zrK{x y:Str}{ta:TA}{px py pt:Pos}{kt k2 pt2}(ha:Wr (PA X [a,b] ta))(hc:X.calm=true:=by rfl)(hN:X.N.Nodup:=by first | assumption | exact zgp rfl)(hi:X.N[i]?=some x:=by rfl)(hj:X.N[j]?=some y:=by rfl)(hij:i≠j:=by decide)
  (hx:X.env.scope.names.lookup x=some .local:=by rfl) (hy:X.env.scope.names.lookup y=some .local:=by rfl)
  (hw:swappedStores [.Tuple [.Name x px,.Name y py] kt pt] (.Tuple [a,b] k2 pt2) X.env=pure (some [x,y]):=by rfl)
  (hs:swapsWithSole [.Tuple [.Name x px,.Name y py] kt pt] (.Tuple [a,b] k2 pt2) pos.line X.env=pure false:=by rfl) :
  Wr (PS X (.Assign [.Tuple [.Name x px,.Name y py] kt pt] (.Tuple [a,b] k2 pt2) pos) (zxZ i j ta)):=⟨zx0 hc hN hi hj hij hx hy ha.run hw hs⟩
end
theorem Fun.okW{P:Program}{w:World}{K:qe}{mg:Str->Option Value}{base:Heap}{x qual:Str}{st:Stmt}{f:Addr}{fd:FuncData}{N ps:List Str}{k:Nat}{sp:Sp}(F:Fun K x qual st f fd)(S:FnScope N ps (zaj st))(len:∀ vs H Q E,sp vs H Q E->vs.length=ps.length)
  (hbody:∀ (cdv:Value) (A:Around) (outer:List Env) (s:Shared) (H:Hp) (vs:List V) (Q:VK) (E:XK),Room k (A.deeper (envOfC qual (zaj st) s.heap.objs.size f cdv))->sp vs H Q E ->
   ∃ t,Wr (PSs (zkP CX0 P w K mg base N qual (zaj st) f cdv A outer s H E).nox (zbW st) t)/\t { nx:=fun _ H'=>Q .non H',rt:=Q } (zb9 N vs) H):FnOk P w K mg base CX0 (k+1) f fd ps sp :=
 F.ok S len fun cdv A outer s H vs Q E hr h=>let ⟨t,w,q⟩:=hbody cdv A outer s H vs Q E hr h; ⟨t,w.run,q⟩
mutual
inductive DV (K:qe) (H:Hp):V->PyData->Prop
 | non:DV K H .non .none
 | bl (b:Bool):DV K H (.bl b) (.bool b)
 | int (i:Int):DV K H (.int i) (.int i)
 | str (x:Str):DV K H (.str x) (.str x)
 | lst {a:Addr} {xs:List V} {ds:List PyData} (h:SqL K H a xs) (t:DVs K H xs ds):DV K H (.ref a) (.list ds)
 | tup {a:Addr} {xs:List V} {ds:List PyData} (h:SqT K H a xs) (t:DVs K H xs ds):DV K H (.ref a) (.tuple ds)
inductive DVs (K:qe) (H:Hp):List V->List PyData->Prop
 | nil:DVs K H [] []
 | cons {v:V} {d:PyData} {vs:List V} {ds:List PyData} (h:DV K H v d) (t:DVs K H vs ds):DVs K H (v::vs) (d::ds)
end
theorem zbN.seqT{K:qe}{H H':Hp}{a:Addr}{xs:List V}(e:zbN H H')(h:SqT K H a xs):SqT K H' a xs:=by
 rcases h with (h | ⟨o,h⟩) | h
 ·exact .inl (.inl (e _ _ h))
 ·exact .inl (.inr ⟨o,e _ _ h⟩)
 ·exact .inr h
mutual
theorem DV.same{K:qe}{H H':Hp}(e:zbN H H'):∀ {v:V} {d:PyData},DV K H v d->DV K H' v d
 | _,_,.non=>.non
 | _,_,.bl b=>.bl b
 | _,_,.int i=>.int i
 | _,_,.str x=>.str x
 | _,_,.lst h t=>.lst (e.seq h) (DVs.same e t)
 | _,_,.tup h t=>.tup (e.seqT h) (DVs.same e t)
theorem DVs.same{K:qe}{H H':Hp}(e:zbN H H'):∀ {v:List V} {d:List PyData},DVs K H v d->DVs K H' v d
 | _,_,.nil=>.nil
 | _,_,.cons h t=>.cons (DV.same e h) (DVs.same e t)
end
section
variable {X:Cx} {pins:List (Addr×Obj)} {σ:St} {H:Hp} {s:Shared}
mutual
theorem DV.reads(I:Inv X pins σ H s):∀ {v:V} {d:PyData} {u:Value},DV X.K H v d->zab v u->∃ as,Reads s.heap u d as
 | _,_,_,.non,r=>by cases r; exact⟨_,.none⟩
 | _,_,_,.bl b,r=>by cases r; exact⟨_,.bool b⟩
 | _,_,_,.int i,r=>by obtain⟨t,rfl⟩:=r; exact⟨_,.int i t⟩
 | _,_,_,.str x,r=>by obtain⟨t,rfl⟩:=r; exact⟨_,.str x t⟩
 | _,_,_,.lst h t,r=>by
  cases r;obtain⟨its,rv,⟨o,n,e1,e2,e3,e4⟩,hz⟩:=I.list h;obtain⟨as,q⟩:=DVs.reads I t rv;exact⟨_,.list e1 e2 e4 q⟩
 | _,_,_,.tup h t,r=>by
  cases r;obtain⟨its,rv,⟨o,e1,e2,n,e4⟩,hz⟩:=I.tuple h;obtain⟨as,q⟩:=DVs.reads I t rv;exact⟨_,.tuple e1 e2 e4 q⟩
theorem DVs.reads(I:Inv X pins σ H s):∀ {v:List V} {d:List PyData} {u:List Value},DVs X.K H v d->zP v u->∃ as,ReadsAll s.heap u d as
 | _,_,_,.nil,r=>by cases r; exact⟨_,.nil⟩
 | _,_,_,.cons h t,r=>by
  cases r with
  | cons r1 r2 =>
   obtain⟨a1,q1⟩:=DV.reads I h r1;obtain⟨a2,q2⟩:=DVs.reads I t r2;exact⟨_,.cons q1 q2⟩
end
end
section
variable {X:Cx} {pos p pos':Pos} {e a b c o:Expr} {es zcy:List Expr} {te ta tb:TE} {t:TA} {r:List V->Hp->VK->Prop} {rd:R2} {x:Str} {id T:String} {i j:Nat} {tA tB':TT} {st:Stmt} {sts body:List Stmt} {ts us:TS} {g:TG} {gs:TGs} {wi:TI} {tg:Expr}
theorem zwq{y:Str}{py spos:Pos}{elt iter:Expr}{ifs:List Expr}{scope:Scope}{js:List Nat}{tt:TT}{nt:Nat}(hi:Wr (PI X tg iter wi))(hg:∀ {C s H ex},Wr (PG (zV X scope (zfi X js) (tgN tg++zeA X js) C s H ex) tg g))(ht:∀ {C s H ex},Wr (ziD (zV X scope (zfi X js) (tgN tg++zeA X js) C s H ex) ifs tt))
  (he:∀ {C s H ex},Wr (PE (zV X scope (zfi X js) (tgN tg++zeA X js) C s H ex) elt te))
  (hN:X.N.Nodup:=by first | assumption | exact zgp rfl) (hi':X.N[i]?=some y:=by rfl) (hy:Loc X.env.scope y:=by first | exact Or.inl rfl | exact Or.inr rfl)
  (f:Frees X (zfi X js) (zeA X js) js:=by repeat (first | exact Frees.nil | refine Frees.cons rfl (by first | exact Or.inl rfl | exact Or.inr rfl) rfl ?_)) (hclos:closureFor scope X.env=pure (zfi X js):=by rfl) (S:ScC scope (zeA X js):=by exact⟨rfl,of_decide_eq_true rfl,of_decide_eq_true rfl,of_decide_eq_true rfl,of_decide_eq_true rfl⟩) (hts:(tgN tg).length=nt:=by rfl) (hc:X.calm=true:=by rfl) (gw:∀ σ:St,GW (c0 nt js σ) g:=by first | exact zkZ (by decide) | exact zrE (zk1 (by repeat (first | exact ziH | refine zg7 (by decide) ?_)))) (hs:∀ x,foldedSetIterable iter X.env x=pure x:=by intro _; rfl)
  (hsw:swapsWith (.ListComp elt [⟨tg,iter,ifs,0⟩] scope pos) (some (.Name y py)) spos.line X.env=pure true:=by rfl)
  (hf:X.fn y=true\/X.env.scope.names.lookup y=some .local:=by first | exact .inl rfl | exact .inr rfl | assumption) :
  Wr (PS X (.Assign [.Name y py] (.ListComp elt [⟨tg,iter,ifs,0⟩] scope pos) spos) (zkN (tLC wi nt js g tt te) (zdI i))):=by
 refine⟨?_⟩;intro pins s σ H D I h;rw [exec_Assign_Name_used _ _ _ _ hsw];refine qc (wpAny_standAt (qc ?_));show wpAny _ X.A (do let _ <-comprehension (.ListComp elt [⟨tg,iter,ifs,0⟩] scope pos) scope X.env _ (newList []) false (eval iter X.env) (some (assign (.Name y py) X.env))) _ _ s;refine qc (wpAny_mono (wpAny_comprehension_free (use:=some (assign (.Name y py) X.env)) (Q:=fun _ s'=>SP X pins D .next s') rfl hs hclos S.kind S.names
  (thn (hi.run pins s σ H _ I h) fun v s1 h1=>thn h1 fun itv s2 h2=>?_)) (fun _ s' hq=>qd (qd hq)) fun _ _ e=>e)
 obtain⟨it,fp,tn,J,H2,e,I2,T,st2,f2,q⟩:=h2;subst e;refine ziE (RR:=fun acc C=>compPost (model X.prog X.w) X.A X.xe (some (assign (.Name y py) X.env)) (fun _ s'=>SP X pins D .next s') acc C) hc I2 S f hts T st2 f2 (fun C s H ex=>hg.run) (fun C s H ex=>ht.run) (fun C s H ex=>he.run) (gw σ) q ?_;intro D' C m s' ys H' z hD I' hn hCn hCL hCc hCs hCp;show wpAny _ _ (assign (.Name y py) X.env (.ref D')) _ _ _;refine wpAny_assign_Name (zg0 (v:=.ref D') I' hN hi' hy rfl (fun s'' I'' ⟨a,sb,ha⟩=>?_) hf);have ne:C≠a:=by
  rcases ha with rfl | ha
  ·exact hCL
  ·exact(hCc _ _ ha).symm
 exact⟨m,hn.sameBut sb ne,fun h' hs'=>⟨_,_,I''.turned (it:=C) (fun b o hb e=>hs'.extBut b o hb e) hCn hCL (.inr hCs) hCc hCp,z D' hD⟩⟩
theorem zcz{name:Str}{r:V->List V->Hp->VK->Prop}{apos cpos:Pos}(K:qe)(hK:X.K=K)(pa:PlainAttrs T)(slot:Slot T name id)(hty:typeOf (.builtin id)=pure (.type "method_descriptor"))(hm:MtM X id r)(ho:Wr (PE X o te))(ha:Wr (PA X (e::es) t))
  (hbase:attributeBase o name X.env (eval o X.env)=eval o X.env:=by rfl)
  (hfew:((backTo cpos (starEach (e::es) X.env)).all (fun x=>!x.1) && (backToKw cpos (keywordEach [] X.env)).all (fun x=>x.1.isSome)
   && decide ((e::es).length+([]:List Keyword).length+(if([]:List Keyword).isEmpty then 0 else 1) < 30))=true:=by rfl)
  (hline:(apos.endLine==cpos.line)=true:=by rfl) (hs:zah e=true:=by rfl) (hpl:es.all zah=true:=by rfl) :
  Wr (PE X (.Call (.Attribute o name apos) (e::es) [] cpos) (tBM K T r te t)):=hK▸⟨zzS pa slot hty hm ho.run ha.run hbase hfew hline (zcd hs) (zcm hpl)⟩
theorem zrL{name:Str}{r:V->List V->Hp->VK->Prop}{apos cpos:Pos}(K:qe)(hK:X.K=K)(pa:PlainAttrs T)(slot:Slot T name id)(hty:typeOf (.builtin id)=pure (.type "method_descriptor"))(hm:MtM X id r)(ho:Wr (PE X o te))
  (hbase:attributeBase o name X.env (eval o X.env)=eval o X.env:=by rfl) (hline:(apos.endLine==cpos.line)=true:=by rfl) :
  Wr (PE X (.Call (.Attribute o name apos) [] [] cpos) (zuW K T r te)):=hK▸⟨zyk pa slot hty hm ho.run hbase hline⟩
theorem zg8{v:V}{u:Value}(hg:Gl X x)(hm:X.mg x=some u)(r:zab v u)(hd:(x==("__debug__":Str))=false:=by decide):Wr (PE X (.Name x pos) (tC v)):=⟨zus hg hm r hd⟩
theorem zoQ:∀ {ys:List Str} {us:List Value},zP (ys.map V.str) us->StrsAre us ys
 | [],_,r=>by cases r; exact .nil
 | y::ys,_,r=>by
  cases r with
  | cons r1 r2 =>
   obtain⟨t,rfl⟩:=r1;exact .cons y t (zoQ r2)
def zwr(K:qe):V->List V->Hp->VK->Prop:=fun x vs H Q=>∃ sep a ys,x=.str sep/\vs=[.ref a]/\SqL K H a (ys.map V.str)/\(ys.map (·.length)).sum+ys.length * sep.length<=16777216/\Q (.str (Txt.join sep ys)) H
theorem zoR(K:qe)(hK:X.K=K:=by rfl):MtM X "str.join" (zwr K):=by
 intro pins s σ H x vs v us Q I rx rv h;obtain⟨sep,a,ys,rfl,rfl,hS,hz,q⟩:=h;obtain⟨t,rfl⟩:=rx;obtain⟨u,rfl,ru⟩:=rv.one;cases ru;subst hK;obtain⟨its,r,pl,_⟩:=I.list hS;exact join_list pl.isList (by simpa using zoQ r) hz fun t' k=>⟨.str _,H,I.tok _,⟨_,rfl⟩,q⟩
def zqp(x:Str)(n:Int):Str:=if n < 1 then Str.empty else if(n==1 || x.length==0)=true then x else⟨(List.replicate n.toNat x.cps).foldl (·++·) #[]⟩
theorem znL:OpR X (binaryOp .Mult) (fun x y H Q=>∃ z n,x=.str z/\y=.int n/\0<=n/\n<=1/\Q (.str (zqp z n)) H):=by
 intro pins s σ H x y v u Q I rx ry h;obtain⟨z,n,rfl,rfl,h0,h1,q⟩:=h;obtain⟨t,rfl⟩:=rx;obtain⟨t',rfl⟩:=ry;rcases(by omega:n=0\/n=1)with rfl | rfl
 ·exact PySem.P.mul_str_none (by decide) (by decide) ⟨.str _,H,I.tok _,⟨_,rfl⟩,q⟩
 ·refine PySem.P.mul_str (by decide) (fun _ z=>by simp at z) (fun _ z=>by simp at z) ?_
  rw [if_neg (by decide),if_pos (by rfl)];exact⟨.str _,H,I,⟨_,rfl⟩,q⟩
end
structure Kp (H H':Hp):Prop where
 tup:∀ b xs,H b=some (.tup xs)->H' b=some (.tup xs)
 frz:∀ b o u,H b=some (.frz o u)->H' b=some (.frz o u)
theorem Kp.refl(H:Hp):Kp H H:=⟨fun _ _ h=>h,fun _ _ _ h=>h⟩
theorem Kp.trans{H H1 H2:Hp}(a:Kp H H1)(b:Kp H1 H2):Kp H H2:=⟨fun x y h=>b.tup x y (a.tup x y h),fun x y z h=>b.frz x y z (a.frz x y z h)⟩
theorem zbN.kp{H H':Hp}(s:zbN H H'):Kp H H':=⟨fun _ _ h=>s _ _ h,fun _ _ _ h=>s _ _ h⟩
mutual
inductive DT (K:qe) (H:Hp):V->PyData->Prop
 | non:DT K H .non .none
 | bl (b:Bool):DT K H (.bl b) (.bool b)
 | int (i:Int):DT K H (.int i) (.int i)
 | str (x:Str):DT K H (.str x) (.str x)
 | tup {a:Addr} {xs:List V} {ds:List PyData} (h:SqT K H a xs) (t:DTs K H xs ds):DT K H (.ref a) (.tuple ds)
inductive DTs (K:qe) (H:Hp):List V->List PyData->Prop
 | nil:DTs K H [] []
 | cons {v:V} {d:PyData} {vs:List V} {ds:List PyData} (h:DT K H v d) (t:DTs K H vs ds):DTs K H (v::vs) (d::ds)
end
theorem DTs.cons_inv{K:qe}{H:Hp}{vs:List V}{d:PyData}{ds:List PyData}(h:DTs K H vs (d::ds)):∃ v ws,vs=v::ws/\DT K H v d/\DTs K H ws ds:=by
 cases h with
 | cons h t=>exact⟨_,_,rfl,h,t⟩
end L2
namespace HT
open PySem PyProof.Rows
open PySem.SeqAt
open PySem.MeetsSeq PySem.MeetsSeq2 PySem.MeetsSeq3
section
variable {prog:Program} {w:World} {A:Around} {E:Value->Shared->Prop} {s:Shared}
end
end HT
namespace L2
open PySem PySem.Spec PyProof.Rows
section
variable {X:Cx}
end
section
variable {X:Cx} {tg:Expr}
end
section
variable {X:Cx}
end
section
variable {X:Cx}
theorem zP.at:∀ {xs:List V} {us:List Value} {i:Nat} {u:Value},zP xs us->us[i]?=some u->∃ x,xs[i]?=some x/\zab x u
 | _,_,0,_,.cons r _,e=>by
  cases(show some _=some _ from e);exact⟨_,rfl,r⟩
 | _,_,i+1,_,.cons _ t,e=>zP.at (i:=i) t e
 | _,_,0,_,.nil,e=>by cases e
 | _,_,_+1,_,.nil,e=>by cases e
theorem zrM{pins:List (Addr×Obj)}{σ:St}{H:Hp}{s:Shared}{p:Addr}{xs:List V}{A:Around}{E:Value->Shared->Prop}{Q:Value->Shared->Prop}(I:Inv X pins σ H s)(hh:A.handled=none)(hq:SqL X.K H p xs\/SqT X.K H p xs)
  (h:∀ (it:Addr) (fp wr:List Addr) (n:Nat) (P:Nat->Value->Prop) (St:Nat->Heap->Prop) (s2:Shared),Walks X.prog X.w A it fp wr n P St->St 0 s2.heap->(∀ b∈fp,b < s2.heap.objs.size)->n=xs.length->(∀ i v,P i v->∃ x,xs[i]?=some x/\zab x v) ->
   (∀ h' tk,(∀ b o,b∉wr->s2.heap.get? b=some o->h'.get? b=some o)->Inv X pins σ H { s2 with heap:=h',toks:=tk })->Q (.ref it) s2) :
  wpAny (model X.prog X.w) A (pyIter (.ref p)) Q E s:=by
 rcases hq with hq | hq
 ·obtain⟨its,r,pl,hz⟩:=I.list hq
  have hp:p < s.heap.objs.size:=by
   obtain⟨o,n,e,_⟩:=pl;exact qj e
  have ne:p≠s.heap.objs.size:=ql hp;refine wpAny_pyIter_list pl.isList (h s.heap.objs.size [s.heap.objs.size,p] [s.heap.objs.size] its.toArray.size _ _ _ (Walks.list hh _ p ne its.toArray) ⟨⟨_,qi _ rfl,rfl,rfl⟩,?_⟩ (fun b hb=>?_) (by rw [List.size_toArray]; exact r.length.symm) (fun i v e=>zP.at r (by simpa using e)) fun h' tk hk=>?_)
  ·obtain⟨o,n,e,c,d,f⟩:=pl
   exact⟨o,qf _ e,c,n,f⟩
  ·rw [Heap.size_push]
   rcases qw.mp hb with z | z
   ·rw [z]; exact Nat.lt_succ_self _
   ·rw [qr.mp z]; exact Nat.lt_succ_of_lt hp
  ·exact I.kept fun b u e=>hk b u (fun z=>absurd (qj e) (by rw [qr.mp z]; exact Nat.lt_irrefl _)) (qf _ e)
 ·obtain⟨its,r,pl,hz⟩:=I.tuple hq
  have hp:p < s.heap.objs.size:=by
   obtain⟨o,e,_⟩:=pl;exact qj e
  have ne:p≠s.heap.objs.size:=ql hp;refine wpAny_pyIter_tuple (show s.heap.IsTuple p its.toArray from pl) (h s.heap.objs.size [s.heap.objs.size,p] [s.heap.objs.size] its.toArray.size _ _ _ (Walks.tuple hh _ p ne its.toArray) ⟨⟨_,qi _ rfl,rfl,rfl⟩,?_⟩ (fun b hb=>?_) (by rw [List.size_toArray]; exact r.length.symm) (fun i v e=>zP.at r (by simpa using e)) fun h' tk hk=>?_)
  ·obtain⟨o,e,c,n,f⟩:=pl
   exact⟨o,qf _ e,c,n,f⟩
  ·rw [Heap.size_push]
   rcases qw.mp hb with z | z
   ·rw [z]; exact Nat.lt_succ_self _
   ·rw [qr.mp z]; exact Nat.lt_succ_of_lt hp
  ·exact I.kept fun b u e=>hk b u (fun z=>absurd (qj e) (by rw [qr.mp z]; exact Nat.lt_irrefl _)) (qf _ e)
theorem zqq(bs:List Bool):(List.range bs.length).all (fun i=>bs.getD i false)=bs.all id:=by
 rw [Bool.eq_iff_iff,List.all_eq_true,List.all_eq_true];constructor
 ·intro h b hb
  obtain⟨i,hi,e⟩:=List.getElem_of_mem hb;have:=h i (List.mem_range.mpr hi);rw [qC,qo hi,e]at this;exact this
 ·intro h i hi
  have hi':=List.mem_range.mp hi;rw [qC,qo hi'];exact h _ (List.getElem_mem hi')
def zz2(K:qe):List V->Hp->VK->Prop:=fun xs H Q=>∃ (p:Addr) (bs:List Bool),xs=[.ref p]/\(SqL K H p (bs.map V.bl)\/SqT K H p (bs.map V.bl))/\Q (.bl (bs.all id)) H
theorem zrN(K:qe)(hK:X.K=K)(hc:X.calm=true):zbS X (.builtin "all") (zz2 K):=by
 subst hK;intro pins s σ H xs us Q I r h;obtain⟨p,bs,rfl,hq,q⟩:=h;obtain⟨u,rfl,ru⟩:=zgm r;cases ru;refine call_all_walk (zrM I (I.ok.hd hc) hq fun it fp wr n P St s2 W st hfp hn hP hI=>⟨it,fp,wr,n,P,St,fun i=>bs.getD i false,rfl,W,st,?_,fun h' tk hk=>?_⟩)
 ·intro i v s' Q' E' hv hQ'
  obtain⟨x,ex,rx⟩:=hP i v hv;rw [List.getElem?_map]at ex;cases eb:bs[i]? with
  | none=>rw [eb]at ex; cases ex
  | some b =>
   rw [eb]at ex;cases ex;cases rx;have ew:bs.getD i false=b:=by rw [qC,eb]; rfl
   have hQ2:Q' (bs.getD i false) s':=hQ';rw [ew]at hQ2;exact wpAny_truthy_bool hQ2
 ·rw [hn,List.length_map,zqq]
  exact⟨.bl _,H,hI h' tk hk,rfl,q⟩
end
section
variable {prog:Program} {w:World} {A:Around} {R:Result->Shared->Prop} {it:Addr} {fp wr:List Addr} {n:Nat} {P:Nat->Value->Prop} {St:Nat->Heap->Prop}
end
section
variable {prog:Program} {w:World} {A:Around} {E:Value->Shared->Prop} {s:Shared}
end
section
variable {X:Cx}
end
section
variable {prog:Program} {w:World} {A:Around} {E:Value->Shared->Prop} {s:Shared}
theorem ziL{it t:Addr}{i:Nat}{items:Array Value}{x:Value}{Q:Value->Shared->Prop}(hi:s.heap.IsTupleIter it t i)(ht:s.heap.IsTuple t items)(hx:items[i]?=some x)
  (q:∀ h',h'.IsTupleIter it t (i+1)->Heap.SameBut it s.heap h'->Q x { s with heap:=h' }):wpAny (model prog w) A (Builtin.SmallTypes.nextOf (.ref it)) Q E s:=by
 obtain⟨oi,e1,e2,e3⟩:=id hi;obtain⟨ot,f1,f2,nt,f3⟩:=ht;unfold Builtin.SmallTypes.nextOf;refine qc (wpAny_callSpecial?_slot (name:=Str.ofString "__next__") hi.typeIs slot_tupleiter_next
  (wpAny_call_entry slot_tupleiter_next hi.typeIs entry_tupleiter_next ?_ (args_tupleiter_next _)))
 show wpAny _ _ (field (.ref it) 0 >>= _) _ _ s;refine qc (wpAny_field e1 e3 (x:=.ref t) rfl ?_);show wpAny _ _ (if(Value.ref t==Value.none)=true then _ else _) _ _ s;rw [if_neg (show ¬((Value.ref t==Value.none)=true) from qh)];show wpAny _ _ (field (.ref it) 1 >>= _) _ _ s;refine qc (wpAny_field e1 e3 (x:=.int i 0) rfl ?_);show wpAny _ _ (seqItems? (.ref t) >>= _) _ _ s;refine qc (wpAny_seqItems f1 f3 ?_);simp only [Int.toNat_natCast,hx];refine qc (wpAny_setField e1 e3 (by simp) (qd ⟨x,rfl,qd (q _ ?_ (Heap.SameBut.update ..))⟩));refine⟨_,Heap.get?_update_self _ e1 (Obj.isFreed_of_fields (Obj.data_mapFields e3 _)),(Obj.cls_mapFields ..).trans e2,?_⟩;rw [Obj.data_mapFields e3];simp [rawInt]
theorem zqr{it t:Addr}{i:Nat}{items:Array Value}{Q:Value->Shared->Prop}(hh:A.handled=none)(hi:s.heap.IsTupleIter it t i)(ht:s.heap.IsTuple t items)(hx:items[i]?=none)
  (q:∀ h' e,Heap.ExtBut it s.heap h'->(∃ o,h'.get? e=some o/\o.cls=.type "StopIteration")->E (.ref e) { s with heap:=h' }):wpAny (model prog w) A (Builtin.SmallTypes.nextOf (.ref it)) Q E s:=by
 obtain⟨oi,e1,e2,e3⟩:=id hi;obtain⟨ot,f1,f2,nt,f3⟩:=ht;unfold Builtin.SmallTypes.nextOf;refine qc (wpAny_callSpecial?_slot (name:=Str.ofString "__next__") hi.typeIs slot_tupleiter_next
  (wpAny_call_entry slot_tupleiter_next hi.typeIs entry_tupleiter_next ?_ (args_tupleiter_next _)))
 show wpAny _ _ (field (.ref it) 0 >>= _) _ _ s;refine qc (wpAny_field e1 e3 (x:=.ref t) rfl ?_);show wpAny _ _ (if(Value.ref t==Value.none)=true then _ else _) _ _ s;rw [if_neg (show ¬((Value.ref t==Value.none)=true) from qh)];show wpAny _ _ (field (.ref it) 1 >>= _) _ _ s;refine qc (wpAny_field e1 e3 (x:=.int i 0) rfl ?_);show wpAny _ _ (seqItems? (.ref t) >>= _) _ _ s;refine qc (wpAny_seqItems f1 f3 ?_);simp only [Int.toNat_natCast,hx];refine qc (wpAny_rule (qc (wpAny_setField e1 e3 (by simp) ?_)));show wpAny _ _ (newExc (.type "StopIteration") [] >>= _) _ _ _;refine qc ?_;simp only [newExc,newTuple];refine qc (qB ?_ (by show(0:Nat)<=sizeLine; exact Nat.zero_le _));refine qc (m:=firstArgMember _ _) (wpAny_of_eq (a:=Value.none) (by first | rfl | (simp only [firstArgMember]; rfl)) ?_);refine qB ?_ (by first | trivial | size_fits);simp only [raiseNew];refine qc (wpAny_handled ?_)
 first | rw [show A.in1.handled=none from hh] | rw [hh]
 refine qc (qd (wpAny_throw ?_));exact q _ _ (((Heap.SameBut.update ..).extBut.push _).push _) ⟨_,qi _ rfl,rfl⟩
end
section
variable {prog:Program} {w:World} {A:Around} {E:Value->Shared->Prop} {s:Shared}
end
section
variable {X:Cx} {pins:List (Addr×Obj)} {σ:St} {H:Hp} {s:Shared} {h':Heap}
theorem Inv.turnedW{t':Nat}{wr:List Addr}(I:Inv X pins σ H s)(k:∀ b o,b∉wr->s.heap.get? b=some o->h'.get? b=some o)(hf:∀ b∈wr,zdv X pins H b):Inv X pins σ H { s with heap:=h',toks:=t' }:=by
 have nit:∀ b u,H b=some u->b∉wr:=fun b u e z=>by rw [(hf b z).1]at e; cases e
 refine I.step (g':=s.gens) (d':=s.drawn) (ch:=wr) (fun b hb=>?_) (fun b o _ _ hc e _=>k b o hc e) (fun b o _ _ hc e _=>⟨o.slots,k b o hc e⟩) (fun _ _ _ _ n=>n)
  (fun b o hc e=>⟨o,k b o hc e⟩) (fun _ _ e=>e) (fun _ _ _ e=>e) (fun b ps e=>⟨#[],by rw [e]; simp⟩) (fun m hm=>?_) (fun b u e=>?_) I.bare
 ·obtain⟨_,z1,_,z3,z4,z5⟩:=hf b hb
  exact⟨z3,z1,z4,z5⟩
 ·obtain⟨o,es,ep,ho,r⟩:=hm
  exact⟨o,es,ep,k _ o (fun z=>(hf _ z).2.1 rfl) ho,r⟩
 ·refine(I.hok b u e).stay (fun c v hc q=>k c v ?_ q) (fun _ q=>q) fun _ _ q=>q
  rcases hc with z | z
  ·rw [z]; exact nit b u e
  ·exact nit c _ z
theorem Inv.track{a:Addr}{o:HO}(I:Inv X pins σ H s)(f:zdv X pins H a)(ha:X.s₀.heap.objs.size<=a)(new:zao X.prog X.w X.K (upd H a o) s.heap a o):Inv X pins σ (upd H a o) s:=by
 obtain⟨f0,f1,f2,f3,f4,f5⟩:=f;refine⟨I.ok,I.os,I.bare,zl8 I.base f0 ha,I.loc,I.cell,?_,fun x c e=>?_,fun p hp=>?_,zkj I.hok f0 new,I.len⟩
 ·rw [zI (Ne.symm f1)]
  exact I.free
 ·rw [zI (f4 x c e)]
  exact I.freeC x c e
 ·obtain⟨p1,p2,p3⟩:=I.pin p hp
  refine⟨p1,?_,p3⟩;rw [zI (f5 p hp)];exact p2
end
section
variable {X:Cx} {elts:List Expr} {k:Nat} {tpos:Pos}
end
section
variable {X:Cx}
end
section
variable {X:Cx} {pos pos':Pos} {o i v:Expr} {td ty tv:TE} {k:Nat}
theorem zd2:Wr (PE X (.Dict [] [] pos) znE):=⟨zru⟩
theorem zdy(hr:Room k X.A)(ho:Wr (PE X o td))(hi:Wr (PE X i ty))(hs:zym i:=by intro _ _; rfl):Wr (PE X (.Subscript o i pos) (zrs X.K td ty)):=⟨zuY (zl5 hr) ho.run hi.run hs⟩
theorem zf0(hr:Room k X.A)(ho:Wr (PE X o td))(hi:Wr (PE X i ty))(hv:Wr (PE X v tv))(hs:swapsWith v (some (.Subscript o i pos')) pos.line X.env=pure false:=by rfl) :
  Wr (PS X (.Assign [.Subscript o i pos'] v pos) (zrt X.K td ty tv)):=⟨zuZ (zl5 hr) ho.run hi.run hv.run hs⟩
end
end L2
namespace L2
open PySem PySem.W PyProof.Rows
section
variable {α β:Type}
def zcA(lt:Nat->Nat->Bool)(n:Nat):KasT α->(α->Prop)->Prop
 | .ret a,Q=>Q a
 | .ask i j k,Q=>i < n/\j < n/\zcA lt n (k (lt i j)) Q
theorem zcA.bind{lt:Nat->Nat->Bool}{n:Nat}{f:α->KasT β}{Q:β->Prop}:∀ {t:KasT α},zcA lt n t (fun a=>zcA lt n (f a) Q)->zcA lt n (t.bind f) Q
 | .ret _,h=>h
 | .ask _ _ _,⟨h1,h2,h3⟩=>⟨h1,h2,zcA.bind h3⟩
theorem zcA.wp{lt:Nat->Nat->Bool}{n:Nat}{cmp:Nat->Nat->(Bool->Shared->Prop)->Shared->Prop}{Q:α->Prop}{Q':α->Shared->Prop}{s:Shared}(hc:∀ i j (C:Bool->Shared->Prop),i < n->j < n->C (lt i j) s->cmp i j C s)(hQ:∀ a,Q a->Q' a s) :
  ∀ {t:KasT α},zcA lt n t Q->t.kasWp cmp Q' s
 | .ret _,h=>hQ _ h
 | .ask i j k,⟨h1,h2,h3⟩=>hc i j _ h1 h2 (zcA.wp hc hQ h3)
end
section
variable {rk:Nat->Int} {n:Nat}
def KR(rk:Nat->Int)(p:Array Nat)(i:Nat):Int:=rk (p.getD i 0)
def ltR(rk:Nat->Int)(i j:Nat):Bool:=decide (rk i < rk j)
def Pm(n:Nat)(p:Array Nat):Prop:=p.Perm (List.range n).toArray
theorem Pm.size{p:Array Nat}(h:Pm n p):p.size=n:=by
 have:=h.size_eq;simpa using this
theorem Pm.lt{p:Array Nat}(h:Pm n p){i:Nat}(hi:i < n):p.getD i 0 < n:=by
 have hs:=h.size;have hi':i < p.size:=by omega
 have e:p.getD i 0=p[i]:=by simp [Array.getD,hi']
 rw [e];have m:p[i]∈(List.range n).toArray:=(h.mem_iff).mp (Array.getElem_mem hi');simpa using m
theorem zeD{p q:Array Nat}{i j:Nat}(h:p[i]?=q[j]?):KR rk p i=KR rk q j:=by
 have e:∀ (x:Array Nat) (k:Nat),x.getD k 0=(x[k]?).getD 0:=fun x k=>by simp
 unfold KR;rw [e,e,h]
theorem zk6{p:Array Nat}{i j:Nat}(hj:j<=p.size)(k:Nat):KR rk (kas_rev p i j) k=if i<=k/\k < j then KR rk p (i+j - 1 - k)else KR rk p k:=by
 have e:=getElem?_mirror_all (xs:=p) (i:=i) hj k;unfold kas_rev
 by_cases h:i<=k/\k < j
 ·rw [if_pos h]at e ⊢
  exact zeD e
 ·rw [if_neg h]at e ⊢
  exact zeD e
theorem zkl{p:Array Nat}{src d:Nat}(hs:src < p.size)(hd:d<=src)(k:Nat):KR rk (bubble p src d) k=if k=src - d then KR rk p src else if src - d < k/\k<=src then KR rk p (k - 1)else KR rk p k:=by
 have e:=getElem?_bubble hs d hd k
 by_cases h1:k=src - d
 ·rw [if_pos h1]at e ⊢; exact zeD e
 ·rw [if_neg h1]at e ⊢
  by_cases h2:src - d < k/\k<=src
  ·rw [if_pos h2]at e ⊢; exact zeD e
  ·rw [if_neg h2]at e ⊢; exact zeD e
theorem Pm.rev{p:Array Nat}(h:Pm n p)(i j:Nat):Pm n (kas_rev p i j):=(mirror_perm p i j _).trans h
theorem Pm.bubble{p:Array Nat}(h:Pm n p)(i d:Nat):Pm n (PyProof.Rows.bubble p i d):=(bubble_perm p i d).trans h
def Up(rk:Nat->Int)(p:Array Nat)(m:Nat):Prop:=∀ i j,i<=j->j < m->KR rk p i<=KR rk p j
def Dn(rk:Nat->Int)(p:Array Nat)(m:Nat):Prop:=∀ i j,i<=j->j < m->KR rk p j<=KR rk p i
theorem Up.more{p:Array Nat}{m:Nat}(h:Up rk p m)(h1:1<=m)(hm:KR rk p (m - 1)<=KR rk p m):Up rk p (m+1):=fun i j hij hj=>by
 by_cases e:j=m
 ·subst e
  by_cases e2:i=j
  ·subst e2; exact Int.le_refl _
  ·exact Int.le_trans (h i (j - 1) (by omega) (by omega)) hm
 ·exact h i j hij (by omega)
theorem Dn.more{p:Array Nat}{m:Nat}(h:Dn rk p m)(h1:1<=m)(hm:KR rk p m<=KR rk p (m - 1)):Dn rk p (m+1):=fun i j hij hj=>by
 by_cases e:j=m
 ·subst e
  by_cases e2:i=j
  ·subst e2; exact Int.le_refl _
  ·exact Int.le_trans hm (h i (j - 1) (by omega) (by omega))
 ·exact h i j hij (by omega)
theorem ltT{i j:Nat}(c:rk i < rk j):ltR rk i j=true:=decide_eq_true c
theorem ltF{i j:Nat}(c:¬rk i < rk j):ltR rk i j=false:=decide_eq_false c
theorem ziM{p:Array Nat}(hp:Pm n p){Q:Nat->Prop}:∀ (f m:Nat),1<=m->m+f<=n->Up rk p m->(∀ m',m<=m'->m'<=m+f->Up rk p m'->(m' < m+f->KR rk p m' < KR rk p (m' - 1))->Q m')->zcA (ltR rk) n (kas_asc p f m) Q
 | 0,m,_,_,hu,h=>h m (qg _) (qg _) hu (fun z=>absurd z (Nat.lt_irrefl _))
 | f+1,m,h1,hf,hu,h=>by
  refine⟨hp.lt (by omega),hp.lt (by omega),?_⟩
  by_cases c:rk (p.getD m 0) < rk (p.getD (m - 1) 0)
  ·rw [ltT c]
   dsimp only;rw [if_pos rfl];exact h m (qg _) (by omega) hu fun _=>c
  ·rw [ltF c]
   dsimp only;rw [if_neg qh];exact ziM hp f (m+1) (by omega) (by omega) (hu.more h1 (Int.not_lt.mp c)) fun m' a b c2 d=>h m' (by omega) (by omega) c2 fun z=>d (by omega)
def Eqs(rk:Nat->Int)(p:Array Nat)(m q:Nat):Prop:=q+1<=m/\∀ i,m - (q+1)<=i->i < m->KR rk p i=KR rk p (m - 1)
theorem zz3{p:Array Nat}{m:Nat}(h:1<=m):Eqs rk p m 0:=⟨h,fun i a b=>by
 have:i=m - 1:=by omega
 rw [this]⟩
theorem zoS{p:Array Nat}{m q:Nat}(hm:m<=p.size)(h:Eqs rk p m q)(k:Nat):KR rk (kas_rev p (m - (q+1)) m) k=KR rk p k:=by
 rw [zk6 hm];split
 ·rw [h.2 _ (by omega) (by have:=h.1; omega),h.2 k (by omega) (by omega)]
 ·rfl
theorem Dn.congr{p p':Array Nat}{m:Nat}(h:Dn rk p m)(e:∀ k,KR rk p' k=KR rk p k):Dn rk p' m:=fun i j hij hj=>by
 rw [e,e];exact h i j hij hj
theorem ze7{Q:Array Nat×Nat×Nat->Prop}:∀ (f:Nat) (p:Array Nat) (m q:Nat),Pm n p->1<=m->m+f<=n->Dn rk p m->Eqs rk p m q ->
  (∀ p' m' q',Pm n p'->1<=m'->m'<=m+f->Dn rk p' m'->Eqs rk p' m' q'->Q (p',m',q'))->zcA (ltR rk) n (kas_desc f p m q) Q
 | 0,p,m,q,hp,h1,_,hd,he,h=>h p m q hp h1 (qg _) hd he
 | f+1,p,m,q,hp,h1,hf,hd,he,h=>by
  have hs:=hp.size;refine⟨hp.lt (by omega),hp.lt (by omega),?_⟩
  by_cases c:rk (p.getD m 0) < rk (p.getD (m - 1) 0)
  ·rw [ltT c]
   dsimp only;rw [if_pos rfl];have hd2:Dn rk p (m+1):=hd.more h1 (Int.le_of_lt c);have one:∀ x:Array Nat,Eqs rk x (m+1) 0:=fun x=>zz3 (by omega)
   by_cases hq:q > 0
   ·rw [if_pos hq]
    have e:=zoS (by omega) he;exact ze7 f _ (m+1) 0 (hp.rev _ _) (by omega) (by omega) (hd2.congr e) (one _) fun p' m' q' a b c d e=>h p' m' q' a b (by omega) d e
   ·rw [if_neg hq]
    exact ze7 f p (m+1) 0 hp (by omega) (by omega) hd2 (one _) fun p' m' q' a b c d e=>h p' m' q' a b (by omega) d e
  ·rw [ltF c]
   dsimp only;rw [if_neg qh];refine⟨hp.lt (by omega),hp.lt (by omega),?_⟩
   by_cases c2:rk (p.getD (m - 1) 0) < rk (p.getD m 0)
   ·rw [ltT c2]
    dsimp only;rw [if_pos rfl];exact h p m q hp h1 (by omega) hd he
   ·rw [ltF c2]
    dsimp only;rw [if_neg qh];have eq:KR rk p m=KR rk p (m - 1):=Int.le_antisymm (Int.not_lt.mp c2) (Int.not_lt.mp c);refine ze7 f p (m+1) (q+1) hp (by omega) (by omega) (hd.more h1 (Int.le_of_eq eq)) ⟨by have:=he.1; omega,fun i a b=>?_⟩ fun p' m' q' a b c d e=>h p' m' q' a b (by omega) d e;rw [show m+1 - 1=m by omega,eq]
    by_cases im:i=m
    ·rw [im,eq]
    ·exact he.2 i (by omega) (by omega)
def Run(rk:Nat->Int)(n:Nat)(r:Nat×Array Nat):Prop:=Pm n r.2/\r.1<=n/\Up rk r.2 r.1
theorem ziN{p:Array Nat}{m:Nat}(hp:Pm n p)(h1:1<=m)(hm:m<=n)(hd:Dn rk p m){Q:Nat×Array Nat->Prop}(h:∀ r,Run rk n r->Q r):zcA (ltR rk) n (kas_tail3 m n p) Q:=by
 have hs:=hp.size;refine zcA.bind (ziM (hp.rev 0 m) (n - m) m h1 (by omega) (fun i j hij hj=>?_) fun m' a b c _=>h (m',_) ⟨hp.rev 0 m,by show m'<=n; omega,c⟩);rw [zk6 (by omega),zk6 (by omega),if_pos ⟨by omega,by omega⟩,if_pos ⟨by omega,hj⟩];exact hd _ _ (by omega) (by omega)
theorem zfs{p:Array Nat}{m:Nat}(hp:Pm n p)(h1:1<=m)(hm:m+1<=n)(hd:Dn rk p (m+1)){Q:Nat×Array Nat->Prop}(h:∀ r,Run rk n r->Q r):zcA (ltR rk) n (kas_descPart m n p) Q:=by
 refine zcA.bind (ze7 (n - (m+1)) p (m+1) 0 hp (by omega) (by omega) hd (zz3 (by omega)) fun p' m' q' hp' a b d e=>?_);have hs:=hp'.size;show zcA (ltR rk) n (if q' > 0 then _ else _) Q;split
 ·exact ziN (hp'.rev _ _) a (by omega) (d.congr (zoS (by omega) e)) h
 ·exact ziN hp' a (by omega) d h
theorem znM{p:Array Nat}(hp:Pm n p)(h1:1<=n){Q:Nat×Array Nat->Prop}(h:∀ r,Run rk n r->Q r):zcA (ltR rk) n (kas_count n p) Q:=by
 have hs:=hp.size;refine zcA.bind (ziM hp (n - 1) 1 (qg _) (by omega) (fun i j hij hj=>by
  have:i=j:=by omega
  subst this; exact Int.le_refl _) fun m a b u l=>?_)
 by_cases e:m=n
 ·rw [if_pos (by simpa using e)]
  exact h _ ⟨hp,by show m<=n; omega,u⟩
 rw [if_neg (by simpa using e)];have l:=l (by omega)
 by_cases m1:m > 1
 ·rw [if_pos m1]
  refine⟨hp.lt (by omega),hp.lt (by omega),?_⟩
  by_cases c:rk (p.getD 0 0) < rk (p.getD (m - 1) 0)
  ·rw [ltT c]
   dsimp only;rw [if_pos rfl];exact h _ ⟨hp,by show m<=n; omega,u⟩
  ·rw [ltF c]
   dsimp only;rw [if_neg qh];have all:∀ i,i < m->KR rk p i=KR rk p 0:=fun i hi=>Int.le_antisymm (Int.le_trans (u i (m - 1) (by omega) (by omega)) (Int.not_lt.mp c)) (u 0 i (by omega) hi);have ek:∀ k,KR rk (kas_rev p 0 m) k=KR rk p k:=fun k=>by
    rw [zk6 (by omega)];split
    ·rw [all _ (by omega),all k (by omega)]
    ·rfl
   refine zfs (hp.rev 0 m) (by omega) (by omega) (Dn.congr (p:=p) (fun i j hij hj=>?_) ek) h
   by_cases jm:j=m
   ·subst jm
    by_cases ij:i=j
    ·subst ij; exact Int.le_refl _
    ·rw [all i (by omega),<-all (j - 1) (by omega)]
     exact Int.le_of_lt l
   ·rw [all i (by omega),all j (by omega)]
    exact Int.le_refl _
 ·rw [if_neg m1]
  have:m=1:=by omega
  subst this;refine zfs hp (by omega) (by omega) (fun i j hij hj=>?_) h
  by_cases ij:i=j
  ·subst ij; exact Int.le_refl _
  ·have e1:i=0:=by omega
   have e2:j=1:=by omega
   subst e1; subst e2;exact Int.le_of_lt l
theorem zf1{p:Array Nat}{k:Nat}(hp:Pm n p)(hk:k < n){Q:Nat->Prop}(h:∀ l,l<=k->(∀ i,i < l->KR rk p i<=KR rk p k)->(∀ i,l<=i->i < k->KR rk p k<=KR rk p i)->Q l)(hu:Up rk p k) :
  ∀ (f l r:Nat),l<=r->r<=k->r - l<=f->(∀ i,i < l->KR rk p i<=KR rk p k)->(∀ i,r<=i->i < k->KR rk p k<=KR rk p i)->zcA (ltR rk) n (kas_place p k f l r) Q
 | 0,l,r,a,b,c,d,e=>h l (by omega) d fun i hi=>e i (by omega)
 | f+1,l,r,a,b,c,d,e=>by
  unfold kas_place
  by_cases g:l>=r
  ·rw [if_pos g]
   exact h l (by omega) d fun i hi=>e i (by omega)
  ·rw [if_neg g]
   refine⟨hp.lt hk,hp.lt (by omega),?_⟩
   by_cases x:rk (p.getD k 0) < rk (p.getD ((l+r) / 2) 0)
   ·rw [ltT x]
    dsimp only;rw [if_pos rfl];exact zf1 hp hk h hu f l ((l+r) / 2) (by omega) (by omega) (by omega) d fun i hi hik=>Int.le_trans (Int.le_of_lt x) (hu _ i hi hik)
   ·rw [ltF x]
    dsimp only;rw [if_neg qh];exact zf1 hp hk h hu f ((l+r) / 2+1) r (by omega) (by omega) (by omega) (fun i hi=>Int.le_trans (hu i ((l+r) / 2) (by omega) (by omega)) (Int.not_lt.mp x)) e
theorem ziO{Q:Array Nat->Prop}(h:∀ p,Pm n p->Up rk p n->Q p):∀ (f:Nat) (p:Array Nat) (k:Nat),Pm n p->1<=k->k+f=n->Up rk p k->zcA (ltR rk) n (kas_bin f p k) Q
 | 0,p,k,hp,_,e,hu=>h p hp (by rw [<-e]; exact hu)
 | f+1,p,k,hp,h1,e,hu=>by
  have hs:=hp.size;refine zcA.bind (zf1 hp (by omega) (fun l hl a b=>?_) hu k 0 k (by omega) (qg _) (by omega) (fun i hi=>absurd hi (Nat.not_lt_zero _)) fun i a b=>by omega);refine ziO h f _ (k+1) (hp.bubble _ _) (by omega) (by omega) fun i j hij hj=>?_;rw [zkl (by omega) (by omega),zkl (by omega) (by omega),show k - (k - l)=l by omega]
  by_cases il:i=l
  ·rw [if_pos il]
   by_cases jl:j=l
   ·rw [if_pos jl]; exact Int.le_refl _
   ·rw [if_neg jl]
    split
    ·exact b _ (by omega) (by omega)
    ·omega
  ·rw [if_neg il]
   by_cases jl:j=l
   ·rw [if_pos jl]
    split
    ·omega
    ·exact a i (by omega)
   ·rw [if_neg jl]
    split<;>split
    ·exact hu _ _ (by omega) (by omega)
    ·omega
    ·exact hu _ _ (by omega) (by omega)
    ·exact hu _ _ (by omega) (by omega)
theorem zqs(h2:1<=n){Q:Array Nat->Prop}(h:∀ p,Pm n p->Up rk p n->Q p):zcA (ltR rk) n (kas_sort n) Q:=by
 refine zcA.bind (znM (Array.Perm.refl _) h2 fun r ⟨hp,hr,hu⟩=>?_);split
 ·rename_i c
  by_cases z:r.1=0
  ·rw [z]
   exact ziO h (n - max 0 1) r.2 (max 0 1) hp (by decide) (by have:max 0 1=1:=rfl; omega) fun i j hij hj=>by
    have:max 0 1=1:=rfl;have:i=j:=by omega
    subst this; exact Int.le_refl _
  ·have e:max r.1 1=r.1:=by omega
   rw [e];exact ziO h (n - r.1) r.2 r.1 hp (by omega) (by omega) hu
 ·have:r.1=n:=by omega
  exact h _ hp (by rw [<-this]; exact hu)
end
end L2
namespace L2
open PySem PySem.Spec PyProof.Rows
open PySem.AutoSeq1 (wpAny_loadPart')
open MeetsSeq MeetsSeq2 MeetsSeq3 SeqRoads2
def zb7:List Int->List Int->Bool
 | [],[]=>false
 | [],_::_=>true
 | _::_,[]=>false
 | a::as,b::bs=>if a=b then zb7 as bs else decide (a < b)
theorem zqt{prog:Program}{w:World}{A:Around}{E:Value->Shared->Prop}{s:Shared}{a b:Int}{t u:Tok}{Q:Value->Shared->Prop}(h:Q (.bool (decide (a < b))) s):wpAny (model prog w) A (richCompare .Lt (.int a t) (.int b u)) Q E s:=wpAny_lt_int h
theorem znN(l b:Addr)(items items2:Array Value)(n n2:Nat)(dd dd2:Option Addr)(sl sl2:Array (Option Value))(xs ys:List Int) :
  Meets (Builtin.«tuple.__lt__» ⟨[.ref l,.ref b],[]⟩)
   (fun A R s=>s.heap.get? l=some { cls:=.type "tuple",dict:=dd,data:=.seq items n,slots:=sl }/\s.heap.get? b=some { cls:=.type "tuple",dict:=dd2,data:=.seq items2 n2,slots:=sl2 } /\
    IntsAre items.toList xs/\IntsAre items2.toList ys/\R (.ok (.ret (.bool (zb7 xs ys)))) s) :=
 .of_wp fun prog w A R s h=>by
  obtain⟨hp,g,d,tk,os⟩:=s;obtain⟨hl,hb,i1,i2,h⟩:=h;have f2:=AutoSeq1.sub_tuple_tuple
  wp_walk using wpAny_loadPart' hl,wpAny_loadPart' hb,wpAny_forIn_list _ (fun zcy b s'=>b.1=none/\s'=⟨hp,g,d,tk,os⟩/\∃ (vs us:List Value) (as bs:List Int),zcy=vs.zip us/\IntsAre vs as/\IntsAre us bs/\(items.size < items2.size↔as.length < bs.length) /\
   R (.ok (.ret (.bool (zb7 as bs)))) ⟨hp,g,d,tk,os⟩) _
  case turn =>
   rintro⟨y,x⟩ zcy b s' ⟨hb',rfl,vs,us,as,bs,hz,j1,j2,hn,hR⟩;cases j1 with
   | nil=>cases hz
   | @cons a t vs as j1 =>
    cases j2 with
    | nil=>cases hz
    | @cons c u us bs j2 =>
     rw [List.zip_cons_cons]at hz;injection hz with hyx hrest;injection hyx with e1 e2;subst e1 e2;refine qc (wpAny_eqBool_int ?_)
     by_cases e:a=c
     ·subst e
      rw [beq_self_eq_true]
      wp_walk
      refine⟨rfl,rfl,vs,us,as,bs,hrest,j1,j2,?_,?_⟩
      ·rw [hn,qv,qv]
       omega
      ·simpa [zb7] using hR
     ·rw [beq_eq_false_iff_ne.mpr e]
      wp_walk using zqt
      exact⟨_,rfl,by simpa [zb7,e] using hR⟩
  case fin =>
   rintro⟨b1,b2⟩ s' ⟨hb',rfl,vs,us,as,bs,hz,j1,j2,hn,hR⟩;simp only at hb';subst hb'
   wp_walk
   refine⟨_,rfl,?_⟩;have e:decide (items.size < items2.size)=zb7 as bs:=by
    cases j1 with
    | nil =>
     cases j2 with
     | nil=>exact decide_eq_false (fun z=>absurd (hn.mp z) (Nat.lt_irrefl _))
     | cons c u j2=>exact decide_eq_true (hn.mpr (Nat.zero_lt_succ _))
    | cons a t j1 =>
     cases j2 with
     | nil=>exact decide_eq_false (fun z=>absurd (hn.mp z) (Nat.not_lt_zero _))
     | cons c u j2=>cases hz
   show R (Except.ok (Flow.ret (Value.bool (decide (items.size < items2.size))))) _;rw [e];exact hR
  case h =>
   refine⟨rfl,rfl,items.toList,items2.toList,xs,ys,rfl,i1,i2,?_,h⟩;rw [<-IntsAre.length i1,<-IntsAre.length i2,Array.length_toList,Array.length_toList]
theorem znO{prog:Program}{w:World}{A:Around}{E:Value->Shared->Prop}{s:Shared}{l b:Addr}{items items2:Array Value}{xs ys:List Int}{Q:Value->Shared->Prop}(hl:s.heap.IsTuple l items)(hb:s.heap.IsTuple b items2)(i1:IntsAre items.toList xs)(i2:IntsAre items2.toList ys)(hu:A.units < cLine)
  (h:Q (.bool (zb7 xs ys)) s):wpAny (model prog w) A (compareOp .Lt (.ref l) (.ref b)) Q E s:=by
 obtain⟨⟨cls,dd,data,sl⟩,ho,hc,n,hd⟩:=id hl;obtain⟨⟨cls2,dd2,data2,sl2⟩,ho2,hc2,n2,hd2⟩:=id hb;simp only at hc hd hc2 hd2;subst hc hd hc2 hd2;exact richCompare_meets_room (op:=.Lt) ⟨_,ho,rfl⟩ ⟨_,ho2,rfl⟩ F.slot_tuple_lt F.entry_tuple_lt (F.args_tuple_lt_2 _ _) (znN l b items items2 n n2 dd dd2 sl sl2 xs ys) ⟨ho,ho2,i1,i2,⟨(fun x=>nomatch x),h⟩⟩ hu
end L2
namespace L2
open PySem PySem.Spec PySem.W PyProof.Rows
section
variable {prog:Program} {w:World} {A:Around} {E:Value->Shared->Prop} {s:Shared}
def zBh(prog:Program)(w:World)(A:Around)(rk:Nat->Int)(vs:List Value)(κ:SortKind)(s:Shared):Prop :=
 ∀ i j (C:Bool->Shared->Prop),i < vs.length->j < vs.length->C (ltR rk i j) s->wpAny (model prog w) A (keyLt' κ (vs.getD i Value.none) (vs.getD j Value.none)) C (fun _ _=>False) s
theorem zk7{rk:Nat->Int}{a:Addr}{vs:List Value}{n:Nat}{P:PySem.Fin->Shared->Prop}(ho:s.heap.get? a=some (seqObj "list" vs.toArray n))(h64:vs.length < 64)
  (hk:2<=vs.length->∀ h':Heap,(∀ b o,b≠a->s.heap.get? b=some o->h'.get? b=some o)->∀ Q:SortKind->Shared->Prop,(∀ κ,zBh prog w A rk vs κ { s with heap:=h' }->Q κ { s with heap:=h' })->wpAny (model prog w) A (keyKind' vs.toArray) Q (fun _ _=>False) { s with heap:=h' })
  (h:∀ p:Array Nat,Pm vs.length p->Up rk p vs.length->P (.done (.ret .none)) { s with heap:=sortedHeap s.heap a vs (List.toArray (p.toList.map fun i=>vs.getD i Value.none)) }) :
  wpAny (model prog w) A (Builtin.«list.sort» ⟨[.ref a],[]⟩) P E s:=by
 have line:(64:Nat)<=sizeLine:=by decide
 have ha:a < s.heap.objs.size:=qj ho;obtain⟨e1,ho1⟩:∃ e1,(s.heap.update a (Obj.mapSeq fun _=>#[])).get? a=some (seqObj "list" #[] e1):=⟨_,get?_update_seq ho (fun _=>#[])⟩;have old:∀ b o,(s.heap.update a (Obj.mapSeq fun _=>#[])).get? b=some o->(((s.heap.update a (Obj.mapSeq fun _=>#[])).push (seqObj "tuple" vs.toArray 0)).push (seqObj "list" #[] 0)).get? b=some o :=
  fun b o e=>qf _ (qf _ e)
 have ho6:=old _ _ ho1;have keep:∀ b o,b≠a->s.heap.get? b=some o->(((s.heap.update a (Obj.mapSeq fun _=>#[])).push (seqObj "tuple" vs.toArray 0)).push (seqObj "list" #[] 0)).get? b=some o :=
  fun b o ne e=>old b o (by rw [Heap.get?_update_ne _ _ _ _ ne]; exact e)
 rw [list_sort_plain];refine qc (listItems_at ho rfl (qc (listUpdate_at ho rfl (qc (seqEpoch_at ho1 rfl (qc (wpAny_newTuple (qc (wpAny_newList (wpAny_holding ?_) ?_)) ?_)))) ?_ ?_)))
 case refine_2=>exact Nat.zero_le _
 case refine_3=>show vs.length<=_; omega
 case refine_4=>show vs.toArray.size<=_; rw [List.size_toArray]; omega
 case refine_5=>exact Nat.zero_le _
 show wpAny (model prog w) A _ P E { s with heap:=((s.heap.update a (Obj.mapSeq fun _=>#[])).push (seqObj "tuple" vs.toArray 0)).push (seqObj "list" #[] 0) };dsimp only;generalize hH:((s.heap.update a (Obj.mapSeq fun _=>#[])).push (seqObj "tuple" vs.toArray 0)).push (seqObj "list" #[] 0)=h6 at *;have hsz:vs.toArray.size=vs.length:=by simp
 have fin:∀ p:Array Nat,Pm vs.length p->Up rk p vs.length->P (.done (.ret .none)) { s with heap:=h6.update a (Obj.mapSeq fun _=>List.toArray (p.toList.map fun i=>vs.getD i Value.none)) }:=fun p a1 a2=>by
  have:=h p a1 a2;unfold sortedHeap at this;rw [hH]at this;exact this
 by_cases h2:vs.toArray.size < 2
 ·rw [if_pos h2,if_pos h2]
  refine qc (qd ?_);rw [StateT.run_pure];refine qc (qd ?_);dsimp only;have hz:(vs.toArray.zip vs.toArray).size=vs.length:=by simp
  have har:arrOf (SortSt.mk' general' (vs.toArray.zip vs.toArray) #[] 7 none)=(List.range vs.length).toArray.map (kas_item (vs.toArray.zip vs.toArray)):=by
   have:=kas_range (vs.toArray.zip vs.toArray);rw [hz]at this;exact this.symm
  have e:=kat_snds (ks:=vs) (vs:=vs) rfl har;rw [e];refine qc (seqEpoch_at ho6 rfl (qc (listUpdate_at ho6 rfl ?_ ?_ ?_)))
  ·show wpAny _ _ (if(e1 != e1)=true then _ else _) _ _ _
   rw [bne_self_eq_false,if_neg qh];refine qd (fin _ (Array.Perm.refl _) fun i j hij hj=>?_);have:i=j:=by omega
   subst this;exact Int.le_refl _
  ·exact Nat.zero_le _
  ·rw [List.size_toArray,List.length_map]
   simp;omega
 ·rw [if_neg h2,if_neg h2]
  have h2':2<=vs.length:=by omega
  refine qc (wpAny_mono (hk h2' h6 keep _ fun κ ask=>?_) (fun _ _ x=>x) fun _ _ x=>x.elim);refine qc (wpAny_mono (kat_run (ks:=vs) (Q:=fun st' s'=>s'={ s with heap:=h6 }/\∃ p:Array Nat,Pm vs.length p/\Up rk p vs.length/\arrOf st'=p.map (kas_item (vs.toArray.zip vs.toArray))/\failedOf st'=none) (G:=fun p s'=>s'={ s with heap:=h6 }/\Pm vs.length p/\Up rk p vs.length) rfl h2' h64
   (fun p st' s' _ a2 a3 a4=>⟨a4.1,p,a4.2.1,a4.2.2,a2,a3⟩) (zcA.wp (lt:=ltR rk) (n:=vs.length) ask (fun p hp=>⟨rfl,hp⟩) (zqs (by omega) fun p a1 a2=>⟨a1,a2⟩))) ?_ fun _ _ x=>x)
  rintro⟨⟨⟩,st'⟩ s' ⟨rfl,p,a1,a2,har,hf⟩;dsimp only;have e:=kat_snds (ks:=vs) (vs:=vs) rfl har;rw [e,hf];refine qc (seqEpoch_at ho6 rfl (qc (listUpdate_at ho6 rfl ?_ ?_ ?_)))
  ·show wpAny _ _ (if(e1 != e1)=true then _ else _) _ _ _
   rw [bne_self_eq_false,if_neg qh];exact qd (fin p a1 a2)
  ·exact Nat.zero_le _
  ·rw [List.size_toArray,List.length_map,Array.length_toList,a1.size]
   omega
end
theorem zd3:∀ a:List Int,zb7 a a=false
 | []=>rfl
 | a::as=>by unfold zb7; rw [if_pos rfl]; exact zd3 as
theorem zcD:∀ {a b c:List Int},zb7 a b=true->zb7 b c=true->zb7 a c=true
 | [],[],_,h,_=>by cases h
 | [],_::_,[],_,h=>by cases h
 | [],_::_,_::_,_,_=>rfl
 | _::_,[],_,h,_=>by cases h
 | _::_,_::_,[],_,h=>by cases h
 | a::as,b::bs,c::cs,h1,h2=>by
  unfold zb7 at h1 h2 ⊢
  by_cases e1:a=b
  ·subst e1
   rw [if_pos rfl]at h1
   by_cases e2:a=c
   ·rw [if_pos e2]at h2 ⊢
    exact zcD h1 h2
   ·rw [if_neg e2]at h2 ⊢
    exact h2
  ·rw [if_neg e1]at h1
   have l1:=of_decide_eq_true h1
   by_cases e2:b=c
   ·subst e2
    rw [if_neg e1];exact h1
   ·rw [if_neg e2]at h2
    have l2:=of_decide_eq_true h2;rw [if_neg (by omega)];exact decide_eq_true (by omega)
theorem zdK:∀ {a b:List Int},a≠b->zb7 a b=true\/zb7 b a=true
 | [],[],h=>absurd rfl h
 | [],_::_,_=>.inl rfl
 | _::_,[],_=>.inr rfl
 | a::as,b::bs,h=>by
  unfold zb7
  by_cases e:a=b
  ·subst e
   rw [if_pos rfl,if_pos rfl];exact zdK fun z=>h (by rw [z])
  ·rw [if_neg e,if_neg (fun z=>e z.symm)]
   rcases(by omega:a < b\/b < a)with z | z
   ·exact .inl (decide_eq_true z)
   ·exact .inr (decide_eq_true z)
theorem zmd{α:Type}{p q:α->Bool}:∀ {l:List α} {x:α},(∀ y∈l,p y=true->q y=true)->x∈l->q x=true->p x=false->l.countP p < l.countP q
 | y::l,x,h,m,hq,hp=>by
  rw [List.countP_cons,List.countP_cons];have le:l.countP p<=l.countP q:=List.countP_mono_left fun z hz=>h z (qp _ hz);rcases qw.mp m with e | m
  ·subst e
   rw [hp,hq];simp;omega
  ·have:=zmd (fun z hz=>h z (qp _ hz)) m hq hp
   by_cases c:p y=true
   ·rw [c,h y qq c]
    simp;omega
   ·rw [if_neg c]
    split<;>omega
def zme(ps:List (List Int))(i:Nat):Int:=((List.range ps.length).countP fun k=>zb7 (ps.getD k []) (ps.getD i []):Nat)
theorem ziP{ps:List (List Int)}{i j:Nat}(hi:i < ps.length)(h:zb7 (ps.getD i []) (ps.getD j [])=true):zme ps i < zme ps j:=by
 unfold zme;have:=zmd (p:=fun k=>zb7 (ps.getD k []) (ps.getD i [])) (q:=fun k=>zb7 (ps.getD k []) (ps.getD j [])) (l:=List.range ps.length) (x:=i) (fun y _ hy=>zcD hy h) (List.mem_range.mpr hi) h (zd3 _);omega
theorem zf2{ps:List (List Int)}(h:ps.Nodup){i j:Nat}(hi:i < ps.length)(hj:j < ps.length)(ne:i≠j):ps.getD i []≠ps.getD j []:=by
 have e:∀ k (hk:k < ps.length),ps.getD k []=ps[k]:=fun k hk=>by simp [hk]
 rw [e i hi,e j hj];intro z;rcases Nat.lt_or_gt_of_ne ne with l | l
 ·exact List.pairwise_iff_getElem.mp h i j hi hj l z
 ·exact List.pairwise_iff_getElem.mp h j i hj hi l z.symm
theorem zu5{ps:List (List Int)}(h:ps.Nodup){i j:Nat}(hi:i < ps.length)(hj:j < ps.length):ltR (zme ps) i j=zb7 (ps.getD i []) (ps.getD j []):=by
 cases c:zb7 (ps.getD i []) (ps.getD j [])with
 | true=>exact decide_eq_true (ziP hi c)
 | false =>
  refine decide_eq_false fun z=>?_
  by_cases e:i=j
  ·subst e; omega
  ·rcases zdK (zf2 h hi hj e)with y | y
   ·rw [c]at y; cases y
   ·have:=ziP hj y
    omega
theorem Pm.list{n:Nat}{p:Array Nat}(h:Pm n p):p.toList.Perm (List.range n):=by
 have:=h.toList;simpa using this
theorem zyv{ps:List (List Int)}(h:ps.Nodup){p:Array Nat}(hp:Pm ps.length p)(hu:Up (zme ps) p ps.length):(p.toList.map fun i=>ps.getD i []).Pairwise fun a b=>zb7 a b=true:=by
 have hs:=hp.size;have hl:=hp.list;have nd:p.toList.Nodup:=hl.nodup_iff.mpr List.nodup_range;refine List.pairwise_map.mpr (List.pairwise_iff_getElem.mpr fun i j hi hj hij=>?_);have e:∀ k (hk:k < p.toList.length),KR (zme ps) p k=zme ps p.toList[k]:=fun k hk=>by
  unfold KR;have hk':k < p.size:=by simpa using hk
  congr 1;simp [Array.getD,hk']
 have m:∀ k (hk:k < p.toList.length),p.toList[k] < ps.length:=fun k hk=>List.mem_range.mp (hl.mem_iff.mp (List.getElem_mem hk));have le:=hu i j (by omega) (by rw [Array.length_toList]at hj; omega);rw [e i hi,e j hj]at le;have ne:p.toList[i]≠p.toList[j]:=List.pairwise_iff_getElem.mp nd i j hi hj hij;rcases zdK (zf2 h (m i hi) (m j hj) ne)with z | z
 ·exact z
 ·have:=ziP (m j hj) z
  omega
def zmf(h:Heap)(v:Value)(ns:List Int):Prop:=∃ (a b:Addr) (u:Value) (its:Array Value),v=.ref a/\IsTup h a #[.ref b,u]/\IsTup h b its/\IntsAre its.toList ns
theorem zmg{h h':Heap}{a:Addr}{its:Array Value}(t:IsTup h a its)(k:∀ o,h.get? a=some o->h'.get? a=some o):IsTup h' a its:=by
 obtain⟨o,e,r⟩:=t;exact⟨o,k o e,r⟩
theorem zf3{prog:Program}{w:World}:∀ {vs:List Value} {ns:List Int},IntsAre vs ns->ItemsAre (zaq prog w) (ns.map fun n=>(Sum.inl n:Key)) vs
 | _,_,.nil=>.nil
 | _,_,.cons n t h=>.cons (show Value.isInt n (.int n t)=true by simp [Value.isInt]) (zf3 h)
theorem zk8{ns ms:List Int}:(ns.map fun n=>(Sum.inl n:Key))=(ms.map fun n=>(Sum.inl n:Key))↔ns=ms:=by
 constructor
 ·intro h
  have:=congrArg (List.map fun k:Key=>match k with | .inl n=>n | .inr _=>0) h;rw [List.map_map,List.map_map]at this;simpa [Function.comp_def] using this
 ·rintro rfl; rfl
section
variable {prog:Program} {w:World} {A:Around} {s:Shared}
theorem zz4{v v':Value}{ns ns':List Int}{C:Bool->Shared->Prop}(hu:A.units < cLine)(p:zmf s.heap v ns)(p':zmf s.heap v' ns')(ne:v=v'\/ns≠ns')(h:C (zb7 ns ns') s):wpAny (model prog w) A (keyLt' (tuples' false) v v') C (fun _ _=>False) s:=by
 obtain⟨a,b,u,its,rfl,⟨oa,ea,ca,na,da⟩,tb,ib⟩:=p;obtain⟨a',b',u',its',rfl,⟨oa',ea',ca',na',da'⟩,tb',ib'⟩:=p';refine kat_lt ea da ea' da' ?_;show KatLex prog w A false _ C [(.ref b,.ref b'),(u,u')] 0 s;obtain⟨ob,eb,cb,nb,db⟩:=id tb;obtain⟨ob',eb',cb',nb',db'⟩:=id tb';refine kat_cons (wpAny_eqBool_tuple (knd:=zaq prog w) hu ⟨ob,its,nb,eb,cb,db,zf3 ib⟩ ⟨ob',its',nb',eb',cb',db',zf3 ib'⟩ ?_)
 by_cases e:ns=ns'
 ·rw [decide_eq_true (zk8.mpr e)]
  rcases ne with z | z
  ·cases z
   rw [ea]at ea';cases ea';rw [da]at da';injection da' with d1 d2;have d3:=congrArg Array.toList d1;have e1:Value.ref b=.ref b'/\u=u':=by simpa using d3
   obtain⟨_,rfl⟩:=e1;refine kat_yes (kat_cons (SeqAt.EqAt.same u prog w _ _ (kat_yes (kat_nil ?_))));subst e;rw [zd3]at h;exact h
  ·exact absurd e z
 ·rw [decide_eq_false fun z=>e (zk8.mp z)]
  refine kat_no (kat_one _ _ (znO tb tb' ib ib' hu ?_));exact h
end
theorem zmf.kept{h h':Heap}{v:Value}{ns:List Int}(p:zmf h v ns)(k:∀ b o,h.get? b=some o->h'.get? b=some o):zmf h' v ns:=by
 obtain⟨a,b,u,its,e,ta,tb,i⟩:=p;exact⟨a,b,u,its,e,zmg ta (k a),zmg tb (k b),i⟩
theorem zkm{h:Heap}:∀ {vs:List Value},(∀ v∈vs,∃ ns,zmf h v ns)->∃ fs,KatTups h vs fs/\fs.length=vs.length/\∀ f∈fs,∃ (b:Addr) (its:Array Value),f=.ref b/\IsTup h b its
 | [],_=>⟨[],.nil,rfl,fun f hf=>by cases hf⟩
 | v::vs,hv=>by
  obtain⟨fs,k,l,q⟩:=zkm (vs:=vs) fun x hx=>hv x (qp _ hx);obtain⟨ns,a,b,u,its,rfl,⟨o,eo,co,n,dO⟩,tb,_⟩:=hv v qq;refine⟨.ref b::fs,.cons eo co dO rfl k,by rw [qv,qv,l],fun f hf=>?_⟩;rcases qw.mp hf with e | hf
  ·exact⟨b,its,e,tb⟩
  ·exact q f hf
def zu6(K:qe)(H:Hp)(vs:List V)(ps:List (List Int)):Prop:=vs.length=ps.length/\∀ i v,vs[i]?=some v->∃ (a b:Addr) (y:V),v=.ref a/\SqT K H a [.ref b,y]/\SqT K H b ((ps.getD i []).map V.int)
def zrO(K:qe):List V->Hp->VK->Prop:=fun xs H Q=>∃ (l:Addr) (vs:List V) (ps:List (List Int)),xs=[.ref l]/\SqL K H l vs/\vs.length < 64/\zu6 K H vs ps/\ps.Nodup /\
 ∀ (is:List Nat) r,is.Perm (List.range vs.length)->(is.map fun i=>ps.getD i []).Pairwise (fun a b=>zb7 a b=true)->H r=none->Q (.ref r) (upd H r (.lst (is.map fun i=>vs.getD i .non)))
theorem zkn{vs:List V}{us:List Value}(r:zP vs us):∀ is:List Nat,(∀ i∈is,i < vs.length)->zP (is.map fun i=>vs.getD i .non) (is.map fun i=>us.getD i Value.none)
 | [],_=>.nil
 | i::is,h=>by
  have hi:=h i qq;obtain⟨u,e,ru⟩:=r.get (qo hi);refine .cons ?_ (zkn r is fun j hj=>h j (qp _ hj));show zab (vs.getD i .non) (us.getD i Value.none);rw [qC,qC,qo hi,e];exact ru
section
variable {X:Cx}
theorem ziQ(K:qe)(hK:X.K=K){k:Nat}(hr:Room k X.A):zbS X (.builtin "sorted") (zrO K):=by
 subst hK;intro pins s σ H xs us Q I r h;obtain⟨l,vs,ps,rfl,hl,h64,⟨lp,hp⟩,nd,q⟩:=h;obtain⟨u,rfl,ru⟩:=zgm r;cases ru;obtain⟨its,rv,⟨o,n,eo,co,_,dO⟩,_⟩:=I.list hl;have line:(64:Nat)<=sizeLine:=by decide
 have lv:its.length=vs.length:=rv.length.symm;have pr:∀ i,i < its.length->zmf s.heap (its.getD i Value.none) (ps.getD i []):=fun i hi=>by
  have hi':i < vs.length:=by omega
  obtain⟨a,b,y,ev,ha,hb⟩:=hp i _ (qo hi');obtain⟨u,eu,ru⟩:=rv.get (qo hi');rw [ev]at ru;cases ru;obtain⟨ia,ra,ta,_⟩:=I.tuple ha;obtain⟨u1,u2,rfl,r1,r2⟩:=ra.two;cases r1;obtain⟨ib,rb,tb,_⟩:=I.tuple hb;refine⟨a,b,u2,ib.toArray,?_,ta,tb,znz rb⟩;rw [qC,eu];rfl
 refine Calls.call_function_entry kind_sorted plain_sorted entry_sorted (args_sorted1 _) ?_;unfold Builtin.«sorted»;refine qc (m:=checkCount "sorted" 1 1 _) (qd ?_);refine qc (collect_list (vs:=its) ⟨o,eo,co,n,dO⟩ (qc (wpAny_newList ?_ ?_)) (by omega))
 case refine_2=>omega
 generalize hH:(s.heap.push (seqObj "list" #[] 0)).update s.heap.objs.size (Obj.mapSeq (·++its.toArray))=h1 at *;have hsz:h1.objs.size=s.heap.objs.size+1:=by rw [<-hH,Heap.size_update,size_push']
 have keep1:∀ b o,s.heap.get? b=some o->h1.get? b=some o:=fun b o e=>by
  have hlt:b < s.heap.objs.size:=qj e;rw [<-hH,Heap.get?_update_ne _ _ _ _ (ql hlt),Heap.get?_push_ne _ _ _ (ql hlt)];exact e
 have I1:Inv X pins σ H { s with heap:=h1,toks:=s.toks }:=I.kept keep1;have hoL:(h1.push (seqObj "list" its.toArray 0)).get? h1.objs.size=some (seqObj "list" its.toArray 0):=qi _ rfl;have hu:X.A.units+64 < cLine:=hr.units;refine qc (wpAny_holding (wpAny_call_entry slot_list_sort ⟨_,hoL,rfl⟩ entry_list_sort (zk7 (rk:=zme ps) (s:={ s with heap:=h1.push (seqObj "list" its.toArray 0) }) hoL (by omega) (fun h2 h' kp Q' hQ=>?_) fun p a1 a2=>⟨_,rfl,?_⟩) (args_list_sort _)))
 ·have kp':∀ b o,s.heap.get? b=some o->h'.get? b=some o:=fun b o e=>by
   have hlt:b < s.heap.objs.size:=qj e;exact kp b o (ql (by rw [hsz]; exact Nat.lt_succ_of_lt hlt)) (qf _ (keep1 b o e))
  have pr':∀ i,i < its.length->zmf h' (its.getD i Value.none) (ps.getD i []):=fun i hi=>(pr i hi).kept kp';obtain⟨fs,kt,lf,tf⟩:=zkm (h:=h') (vs:=its) fun v hv=>by
   obtain⟨i,hi,e⟩:=List.getElem_of_mem hv;have:=pr' i hi;rw [show its.getD i Value.none=v by simp [hi,e]]at this;exact⟨_,this⟩
  refine kat_kind (fs:=fs) (T:=.type "tuple") kt (by omega) (fun v hv=>?_) (by decide) ?_
  ·obtain⟨b,ib,rfl,o,eo,co,_⟩:=tf v hv
   rw [<-co];exact(Looks.ld eo).andThen .now
  ·refine hQ _ fun i j C hi hj hc=>?_
   rw [zu5 nd (by omega) (by omega)]at hc;refine zz4 (by show X.A.units+1+1 < cLine; omega) (pr' i hi) (pr' j hj) ?_ hc
   by_cases e:i=j
   ·exact .inl (by rw [e])
   ·exact .inr (zf2 nd (by omega) (by omega) e)
 ·refine qd ⟨_,rfl,?_⟩
  obtain⟨en,ho⟩:=sortedHeap_at (vs:=its) (out:=List.toArray (p.toList.map fun i=>its.getD i Value.none)) hoL;have fresh:H h1.objs.size=none:=I1.hok.fresh (qg _);have perm:p.toList.Perm (List.range vs.length):=by
   have:=a1.list;rw [lv]at this;exact this
  have mem:∀ i∈p.toList,i < vs.length:=fun i hi=>List.mem_range.mp (perm.mem_iff.mp hi);have lm:p.toList.length=vs.length:=by
   have:=perm.length_eq;simpa using this
  rw [lv,lp]at a1 a2;refine⟨.ref h1.objs.size,_,I1.laid (t':=s.toks) (a:=h1.objs.size) (o:=.lst (p.toList.map fun i=>vs.getD i .non)) (fun b o e=>?_) (qg _) ⟨by rw [List.length_map]; omega,p.toList.map fun i=>its.getD i Value.none,en,zkn rv p.toList mem,by simpa using ho⟩,rfl,q p.toList _ perm (zyv nd a1 a2) fresh⟩;have hb:b < h1.objs.size:=qj e;rw [sortedHeap_old (ql hb) (by rw [Heap.size_push]; exact Nat.lt_succ_of_lt hb)];exact qf _ e
end
end L2
namespace L2
open PySem PySem.Spec PyProof.Rows
def zfk(h:Heap)(d:Addr)(es:Array DictEntry)(ep:Nat):Prop:=∃ o,h.get? d=some o/\o.ExactDict/\o.data=.dict es ep
theorem zfk.typeIs{s:Shared}{d:Addr}{es:Array DictEntry}{ep:Nat}(r:zfk s.heap d es ep):s.TypeIs (.ref d) "dict":=by
 obtain⟨o,e,x,_⟩:=r;exact⟨o,e,x.1⟩
section
variable {prog:Program} {w:World} {A:Around} {E:Value->Shared->Prop} {s:Shared} {it d:Addr} {i ep:Nat} {es:Array DictEntry}
theorem zrP{Q:Value->Shared->Prop}(hd:(d==sysModules)=false)(r:zfk s.heap d es ep)
  (q:∀ h':Heap,h'.IsKeyIter s.heap.objs.size d 0 es.size ep->(∀ b o,s.heap.get? b=some o->h'.get? b=some o)->Q (.ref s.heap.objs.size) { s with heap:=h' }):wpAny (model prog w) A (pyIter (.ref d)) Q E s:=by
 have hT:=r.typeIs;obtain⟨o,e,_,dat⟩:=r;refine wpAny_pyIter_slot hT F.slot_dict_iter (wpAny_call_entry F.slot_dict_iter hT F.entry_dict_iter ?_ (F.args_dict_iter_1 _));unfold Builtin.«dict.__iter__»;refine qc ?_;unfold Builtin.Dict.dictSlotNone;refine qc (wpAny_notOrdered_dict hT (qd ?_));show wpAny _ _ (Builtin.Dict.showsAll d >>= _) _ _ s;unfold Builtin.Dict.showsAll;rw [hd,if_neg qh];refine qc (qd (qc (wpAny_dictEntries e dat (qc (wpAny_dictEpoch e dat (qc (qB (qd ⟨_,rfl, "dict_keyiterator",_,⟨_,qi _ rfl,rfl⟩,F.slot_dict_keyiterator_next.lookup,?_⟩))))))));exact q _ ⟨_,qi _ rfl,rfl,by simp [rawInt]⟩ fun b o z=>qf _ z
theorem zrQ{Q:Option Value->Shared->Prop}(k:s.heap.IsKeyIter it d i es.size ep)(r:zfk s.heap d es ep){x:DictEntry}(hx:es[i]?=some x)
  (q:∀ h':Heap,h'.IsKeyIter it d (i+1) es.size ep->Heap.SameBut it s.heap h'->Q (some x.key) { s with heap:=h' }):wpAny (model prog w) A (pyNext (.ref it)) Q E s:=by
 have kT:=k.typeIs;obtain⟨oi,ei,ci,fi⟩:=id k;obtain⟨o,e,_,dat⟩:=r;unfold pyNext;refine qc (wpAny_attempt (wpAny_callSpecial?_slot (name:=Str.ofString "__next__") kT F.slot_dict_keyiterator_next
  (wpAny_call_entry F.slot_dict_keyiterator_next kT F.entry_dict_keyiterator_next ?_ (F.args_dict_keyiterator_next_1 _))))
 refine qc (qd (qc (qc ?_)));refine qc (wpAny_typeNameOfWhole_keyiter kT (qd (qc (wpAny_fieldsOf ei fi ?_))));simp only [show Builtin.Dict_items.ownsTuple "dict_keyiterator"=false by decide,Bool.false_eq_true,if_false];show wpAny _ _ (if(Value.ref d==Value.none)=true then _ else _) _ _ s;rw [if_neg (show ¬((Value.ref d==Value.none)=true) from qh)];refine qc (qd (qc (wpAny_dictEntries e dat ?_)));rw [if_neg (by simp)];refine qc (qd (qc (wpAny_dictEpoch e dat ?_)));rw [if_neg (by simp)];refine qd ?_;simp only [show ¬((i:Int) < 0) from by omega,if_false,Int.toNat_natCast,hx];refine qc (qc (wpAny_typeNameOfWhole_keyiter kT (qd (qc (wpAny_isOneOf_keyiter kT ?_)))));show wpAny _ _ (setField (.ref it) 1 (rawInt ((i:Int)+1)) >>= _) _ _ s;refine qc (wpAny_setField ei fi (by simp) ?_);have k':(s.heap.update it (Obj.mapFields (·.setIfInBounds 1 (rawInt ((i:Int)+1))))).IsKeyIter it d (i+1) es.size ep :=
  ⟨_,Heap.get?_update_self _ ei (Obj.isFreed_of_fields (Obj.data_mapFields fi _)),(Obj.cls_mapFields ..).trans ci,by rw [Obj.data_mapFields fi]; simp [rawInt]⟩
 refine qc (wpAny_holding (qc (wpAny_isOneOf_keyiter (s:={ s with heap:=s.heap.update it (Obj.mapFields (·.setIfInBounds 1 (rawInt ((i:Int)+1)))) }) k'.typeIs ?_)));show wpAny _ _ (pure x.key) _ _ _;exact qd (qd ⟨_,rfl,qd (q _ k' (Heap.SameBut.update ..))⟩)
theorem zu7{Q:Option Value->Shared->Prop}(hh:A.handled=none)(k:s.heap.IsKeyIter it d i es.size ep)(r:zfk s.heap d es ep)(hx:es.size<=i)
  (q:∀ h':Heap,Heap.ExtBut it s.heap h'->Q none { s with heap:=h' }):wpAny (model prog w) A (pyNext (.ref it)) Q E s:=by
 have kT:=k.typeIs;obtain⟨oi,ei,ci,fi⟩:=id k;obtain⟨o,e,_,dat⟩:=r;unfold pyNext;refine qc (wpAny_attempt (wpAny_callSpecial?_slot (name:=Str.ofString "__next__") kT F.slot_dict_keyiterator_next
  (wpAny_call_entry F.slot_dict_keyiterator_next kT F.entry_dict_keyiterator_next ?_ (F.args_dict_keyiterator_next_1 _))))
 refine qc (qd (qc (qc ?_)));refine qc (wpAny_typeNameOfWhole_keyiter kT (qd (qc (wpAny_fieldsOf ei fi ?_))));simp only [show Builtin.Dict_items.ownsTuple "dict_keyiterator"=false by decide,Bool.false_eq_true,if_false];show wpAny _ _ (if(Value.ref d==Value.none)=true then _ else _) _ _ s;rw [if_neg (show ¬((Value.ref d==Value.none)=true) from qh)];refine qc (qd (qc (wpAny_dictEntries e dat ?_)));rw [if_neg (by simp)];refine qc (qd (qc (wpAny_dictEpoch e dat ?_)));rw [if_neg (by simp)];refine qd ?_;simp only [show ¬((i:Int) < 0) from by omega,if_false,Int.toNat_natCast,Array.getElem?_eq_none hx];refine qc (qc (wpAny_typeNameOfWhole_keyiter kT (qd ?_)));show wpAny _ _ (setField (.ref it) 0 .none >>= _) _ _ s;refine qc (wpAny_setField ei fi (by simp) ?_);show wpAny _ _ (newExc (.type "StopIteration") [] >>= _) _ _ _;refine qc ?_;simp only [newExc,newTuple];refine qc (qB ?_ (by show(0:Nat)<=sizeLine; exact Nat.zero_le _));refine qc (m:=firstArgMember _ _) (wpAny_of_eq (a:=Value.none) (by first | rfl | (simp only [firstArgMember]; rfl)) ?_);refine qB ?_ (by first | trivial | size_fits);simp only [raiseNew];refine qc (wpAny_handled ?_);rw [show A.in1.handled=none from hh];refine qc (qd (wpAny_throw ?_));refine qc (wpAny_isInstance (T := "StopIteration") (b:=true) ⟨_,qi _ rfl,rfl⟩ isSubtype_stop ?_);exact qd (q _ (((Heap.SameBut.update ..).extBut.push _).push _))
end
theorem zf4{α β:Type}{R:α->β->Prop}:∀ {xs:List α} {ys:List β},Paired R xs ys->∀ (i:Nat) (x:α),xs[i]?=some x->∃ y,ys[i]?=some y/\R x y
 | _,_,.nil,i,x,h=>by simp at h
 | _,_,.cons r _,0,x,h=>by
  cases(show some _=some x from h);exact⟨_,rfl,r⟩
 | _,_,.cons _ t,i+1,x,h=>zf4 t i x h
theorem zcM{α β:Type}{R:α->β->Prop}:∀ {xs:List α} {ys:List β},Paired R xs ys->xs.length=ys.length
 | _,_,.nil=>rfl
 | _,_,.cons _ t=>by rw [qv,qv,zcM t]
theorem zk9{X:Cx}{pins:List (Addr×Obj)}{σ:St}{H:Hp}{s:Shared}{a:Addr}{o:Obj}{kvs:List (List Key×V)}(I:Inv X pins σ H s)(e:H a=some (.frz o (.dT kvs))) :
  (a==sysModules)=false/\∃ (es:Array DictEntry) (ep:Nat),s.heap.get? a=some o/\o.ExactDict/\o.data=.dict es ep/\es.size=kvs.length/\∀ (i:Nat) (k:List Key) (v:V),kvs[i]?=some (k,v)->∃ (b:Addr) (x:DictEntry),es[i]?=some x/\x.key=.ref b/\TpK X.K H b (k.map kV):=by
 obtain⟨ea,z,y,xs,r,o',es,ep,h1,h2,h3,h4,h5⟩:=(show zao X.prog X.w X.K H s.heap a (.frz o (.dT kvs)) from I.hok a _ e);rw [ea]at h1;cases h1;refine⟨y,es,ep,ea,h2,h3,?_,fun i k v hi=>?_⟩
 ·have:=congrArg List.length h4
  rw [Array.length_toList,List.length_map,<-zcM r]at this;exact this
 ·obtain⟨q,hq,r1,r2,_⟩:=zf4 r i (k,v) hi
  refine⟨q.2.1,entryOfKey (tupleKind (zaq X.prog X.w)) q,?_,rfl,r2⟩;have:es.toList[i]?=some (entryOfKey (tupleKind (zaq X.prog X.w)) q):=by rw [h4,List.getElem?_map,hq]; rfl
  simpa using this
def ItK(K:qe)(a:Addr)(o:Obj)(kvs:List (List Key×V)):It :=
 ⟨fun i H=>H a=some (.frz o (.dT kvs))/\i < kvs.length,fun i H x H'=>H'=H/\∀ k v,kvs[i]?=some (k,v)->∃ b,x=.ref b/\TpK K H b (k.map kV),fun i H=>H a=some (.frz o (.dT kvs))/\kvs.length<=i⟩
theorem znP{P:Program}{w:World}{K:qe}{tg:Expr}(a it:Addr)(o:Obj)(kvs:List (List Key×V))(ep:Nat)(hep:∃ es,o.data=.dict es ep):Turn P w K tg (ItK K a o kvs) [it] it (fun i h=>h.IsKeyIter it a i kvs.length ep) where
 mem:=by simp
 obj:=fun i h st b hb=>by
  have e:b=it:=by simpa using hb
  subst e;obtain⟨oi,e,c,d⟩:=st;exact⟨oi,e,fun v z=>by rw [d]at z; cases z⟩
 keep:=fun i h h' st k=>st.at fun oi e=>k it (by simp) oi e
 item:=by
  intro X hP hw hK hc i pins s σ H E I hf st hg;subst hP hw hK;obtain⟨e,hi⟩:=hg;obtain⟨hsm,es,ep',ea,xd,dat,hsz,ent⟩:=zk9 I e;have eep:ep'=ep:=by
   obtain⟨es',z⟩:=hep;rw [dat]at z;injection z
  subst eep;obtain⟨f0,f1,f2,f3,f4,f5⟩:=hf it (by simp);obtain⟨b,x,ex,kx,hb⟩:=ent i kvs[i].1 kvs[i].2 (qo hi);refine zrQ (es:=es) (by rw [hsz]; exact st) ⟨o,ea,xd,dat⟩ ex fun h' st' sb=>?_;have I1:Inv X pins σ H { s with heap:=h' }:=I.turned (t':=s.toks) (fun b o hb e=>(sb.2 b hb).trans e) f0 f1 f3 f4 f5;obtain⟨oi,e',c',d'⟩:=id st';rw [kx];refine⟨.ref b,rfl,zlW (s:={ s with heap:=h' }) e' c' d' (by decide) ⟨.ref b,H,I1,rfl,⟨rfl,fun k v hkv=>⟨b,rfl,?_⟩⟩,by rw [hsz]at st'; exact st',fun b hb=>(hf b hb).1⟩⟩;rw [qo hi]at hkv;rw [qy hkv]at hb;exact hb
 done:=by
  intro X hP hw hK hc i pins s σ H E I hf st hg;subst hP hw hK;obtain⟨e,hi⟩:=hg;obtain⟨hsm,es,ep',ea,xd,dat,hsz,ent⟩:=zk9 I e;have eep:ep'=ep:=by
   obtain⟨es',z⟩:=hep;rw [dat]at z;injection z
  subst eep;obtain⟨f0,f1,f2,f3,f4,f5⟩:=hf it (by simp);exact zu7 (es:=es) (I.ok.hd hc) (by rw [hsz]; exact st) ⟨o,ea,xd,dat⟩ (by omega) fun h' eb=>⟨rfl,I.turned (t':=s.toks) (fun b o hb e=>eb b o hb e) f0 f1 f3 f4 f5⟩
 self:=fun _ _ _ _ _ st h=>wpAny_pyIter_keyiter st h
section
variable {X:Cx} {tg:Expr}
theorem Inv.freeze{pins:List (Addr×Obj)}{σ:St}{H:Hp}{s:Shared}{a:Addr}{kvs:List (List Key×V)}(I:Inv X pins σ H s)(e:H a=some (.dT kvs)):∃ o,s.heap.get? a=some o/\Inv X pins σ (upd H a (.frz o (.dT kvs))) s:=by
 have ok:=(show zao X.prog X.w X.K H s.heap a (.dT kvs) from I.hok a _ e);obtain⟨z,y,xs,r,o,es,ep,h1,h2⟩:=id ok;refine⟨o,h1,?_⟩;have ok2:zao X.prog X.w X.K (upd H a (.frz o (.dT kvs))) s.heap a (.dT kvs):=ok.stay (fun _ _ _ q=>q) (fun b q=>by rw [zI (zgj q e (by intro z; cases z))]; exact q) fun b ys q=>by rw [zI (zgj q e (by intro z; cases z))]; exact q
 exact I.write (t':=s.toks) (h':=s.heap) (by rw [e]; trivial) (.inl rfl) (fun _ _ _ q=>q) ⟨o,h1⟩ ⟨h1,ok2⟩
def zrR(K:qe)(td:TE):TI:=fun σ H R=>td σ H fun x H1=>∃ a kvs,x=.ref a/\((H1 a=some (.dT kvs)/\∀ o,R (ItK K a o kvs) (upd H1 a (.frz o (.dT kvs))))\/∃ o,H1 a=some (.frz o (.dT kvs))/\R (ItK K a o kvs) H1)
theorem zcN{d:Expr}{td:TE}(hd:Wr (PE X d td)):Wr (PI X tg d (zrR X.K td)):=by
 refine⟨?_⟩;intro pins s σ H R I h;refine thn (hd.run pins s σ H _ I h) fun v s1 ⟨x,H1,I1,r1,q1⟩=>?_;obtain⟨a,kvs,e,q⟩:=q1;subst e;cases r1;have key:∀ (H2:Hp) (o:Obj),Inv X pins σ H2 s1->H2 a=some (.frz o (.dT kvs))->R (ItK X.K a o kvs) H2->wpAny (model X.prog X.w) X.A (pyIter (.ref a)) (PIE X pins σ tg R) X.xe s1:=fun H2 o I2 e2 q2=>by
  obtain⟨hsm,es,ep,ea,xd,dat,hsz,_⟩:=zk9 I2 e2;refine zrP (es:=es) hsm ⟨o,ea,xd,dat⟩ fun h' hit kk=>?_;refine⟨s1.heap.objs.size,[s1.heap.objs.size],_,_,H2,rfl,I2.kept (t':=s1.toks) kk,znP a s1.heap.objs.size o kvs ep ⟨es,dat⟩,by rw [<-hsz]; exact hit,fun b hb=>?_,q2⟩;have e:b=s1.heap.objs.size:=by simpa using hb
  subst e;exact I2.fpOk (qg _) (I2.hok.fresh (qg _))
 rcases q with ⟨e1,q⟩ | ⟨o,e1,q⟩
 ·obtain⟨o,_,I2⟩:=I1.freeze e1
  exact key _ o I2 zD (q o)
 ·exact key H1 o I1 e1 q
end
end L2
namespace L2
open PySem PySem.Spec PyProof.Rows
open PySem.W (Looks)
def zBi(C p:Addr):Obj:={ cls:=.ref C,data:=.fields #[.ref p,.none,.none,.none,.bool false,.none] }
section
variable {prog:Program} {w:World} {A:Around} {E:Value->Shared->Prop} {h:Heap} {g:Array GenState} {d:Drawn} {t:Nat} {os:OsState}
variable {nm q:Str} {C N:Addr} {bs bm bmB:List Value} {hdct:Bool} {sn:List Str} {sub:List Value} {ab:Bool} {col:Option Bool} {dd:Option Addr} {k0 k1 k2 k3 k5:Option Value} {B newId initId:String}
end
abbrev xUp:List Value:=[.type "ValueError",.type "Exception",.type "BaseException",.type "object"]
structure XC (K:qe) (C:Addr):Prop where
 at_:∃ nm q N bs bm sn sub ab col dd k0 k1 k2 k3 k5,K.lookup C=some (excClassObj nm q C N bs bm true sn sub ab col dd k0 k1 k2 k3 k5 "ValueError.__new__")/\PySem.W.tailIn K xUp bm=true
 ga:PySem.W.findIn K (.ref C) "__getattribute__"=some (some (.builtin "BaseException.__getattribute__"))
 gh:PySem.W.findIn K (.ref C) "__getattr__"=some none
 sa:PySem.W.findIn K (.ref C) "__setattr__"=some (some (.builtin "object.__setattr__"))
section
variable {prog:Program} {w:World} {A:Around} {K:qe} {C x:Addr} {s:Shared} {R:Result->Shared->Prop}
end
end L2
namespace L2
open PySem PySem.Spec PyProof.Rows
open PySem.W (Looks InstAt)
section
variable {prog:Program} {w:World} {A:Around} {E:Value->Shared->Prop} {K:qe} {C x:Addr} {s:Shared} {R:Result->Shared->Prop}
theorem XC.cls(X:XC K C):∃ cd bm,PySem.W.clsIn K C=some cd/\cd.mro=.ref C::bm/\PySem.W.tailIn K xUp bm=true/\cd.hasDict=true:=by
 obtain⟨nm,q,N,bs,bm,sn,sub,ab,col,dd,k0,k1,k2,k3,k5,e,tl⟩:=X.at_;refine⟨{ name:=nm,bases:=bs,mro:=.ref C::bm,ns:=N,qualname:=q,hasDict:=true,slotNames:=sn,subclasses:=sub,abstract:=ab,collection:=col,hasDel:=false },bm,?_,rfl,tl,rfl⟩;unfold PySem.W.clsIn;rw [e]
end
end L2
namespace L2
open PySem PySem.Spec PyProof.Rows
open PySem.W (Looks InstAt)
structure XI (K:qe) (C:Addr):Prop where
 cl:XC K C
 ca:PySem.W.findIn K (.ref C) "__class__"=some (some (.builtin "object.__class__"))
 cg:PySem.W.specialIn K (.builtin "object.__class__") "__get__"=some (some (.builtin "getset_descriptor.__get__"))
 ct:PySem.W.takesIn K (.builtin "object.__class__")=some true
 cm:PySem.W.mroIn K C (.type "object")=some true
section
variable {prog:Program} {w:World} {A:Around} {E:Value->Shared->Prop} {K:qe} {C x:Addr} {s:Shared} {R:Result->Shared->Prop}
theorem XI.at_(Y:XI K C):∃ c d cd sl,K.lookup C=some ⟨c,d,.cls cd,sl⟩:=by
 obtain⟨nm,q,N,bs,bm,sn,sub,ab,col,dd,k0,k1,k2,k3,k5,e,tl⟩:=Y.cl.at_;exact⟨_,_,_,_,e⟩
end
end L2
namespace L2
open PySem PySem.Spec PyProof.Rows
open PySem.W (Looks InstAt)
def XV(H:Hp)(a C:Addr)(fs:List (Str×V)):Prop:=∃ ox,H a=some (.frz ox (.own 0))/\ox.cls=.ref C/\PySem.W.notCls ox=true /\
 ((fs=[]/\ox.dict=none)\/∃ od dx,ox.dict=some dx/\H dx=some (.frz od (.xd fs)))
section
variable {X:Cx} {pins:List (Addr×Obj)} {σ:St} {H:Hp} {s:Shared} {a C:Addr} {fs:List (Str×V)} {o e value:Expr} {f:Str} {pos pos':Pos} {ta tv:TE} {v:V}
end
section
variable {X:Cx} {CX:CXT} {k:Nat} {f C:Addr} {fd:FuncData} {ps:List Str} {sp:Sp} {E:XK} {x:Str} {p pos:Pos} {e:Expr} {es:List Expr} {t:TA}
end
end L2
namespace L2
open PySem PySem.Spec PyProof.Rows
open PySem.W (Looks InstAt)
section
variable {prog:Program} {w:World} {A:Around} {K:qe} {C x:Addr} {s:Shared} {R:Result->Shared->Prop}
end
section
variable {X:Cx} {C:Addr} {x:Str} {p pos:Pos}
end
end L2
namespace L2
open PySem PySem.Spec PyProof.Rows
open PySem.W (Looks InstAt)
def zBj(a C:Addr)(d tb:Option Addr)(h:Heap):Prop:=∃ oe vs,h.get? a=some oe/\oe.cls=.ref C/\oe.dict=d/\oe.data=.fields vs/\vs[1]?=some (tb.elim .none .ref)/\(tb=none->∃ p,oe={ zBi C p with dict:=d })
def pTb(T:Addr)(h:Heap):Prop:=∃ oT ts,h.get? T=some oT/\oT.data=.fields ts/\ts[3]?=some .none
def zBk(a C:Addr)(d tb:Option Addr):HO:=.ext (zBj a C d tb)
def xTb(T:Addr):HO:=.ext (pTb T)
def zyw(H:Hp)(a C:Addr)(fs:List (Str×V)):Prop:=∃ d tb,H a=some (zBk a C d tb)/\(∀ T,tb=some T->H T=some (xTb T)/\T≠a) /\
 ((fs=[]/\d=none)\/∃ od dx,d=some dx/\H dx=some (.frz od (.xd fs)))
section
variable {X:Cx} {pins:List (Addr×Obj)} {σ:St} {H:Hp} {s:Shared} {h':Heap}
theorem Inv.slots(I:Inv X pins σ H s)(z:Heap.SlotsOnly (frs X.stack) s.heap h'):Inv X pins σ H { s with heap:=h' }:=by
 obtain⟨z1,z2,z3⟩:=z;have sub:=I.stkSub;have sfree:=I.stkFree;have trk:∀ b u,H b=some u->h'.get? b=s.heap.get? b:=fun b u e=>z2 b fun hb=>by rw [sfree b hb]at e; cases e
 have old:∀ b o,X.s₀.heap.get? b=some o->b∉X.fs->b∉frs X.stack:=fun b o e hn hb=>by
  rcases qw.mp (sub b hb)with q | q
  ·have h1:=qj e
   have h2:=I.ok.above;rw [q]at h1;exact absurd (qk h1 h2) (Nat.lt_irrefl _)
  ·exact hn q
 refine⟨I.ok,I.os,I.bare,⟨fun b o e n hc hx=>?_,fun b o e n hc hx=>?_,I.base.free,fun b o e hx=>?_,I.base.tups,I.base.frzs,I.base.tbls⟩,?_,fun x c e=>?_,I.free,I.freeC,fun p hp=>?_,fun b u e=>?_,I.len⟩
 ·exact(z2 b (old b o e hc)).trans (I.base.keep b o e n hc hx)
 ·obtain⟨sl,q⟩:=I.base.slot b o e n hc hx
  obtain⟨sl',q'⟩:=z3 b _ q;exact⟨sl',q'⟩
 ·obtain⟨o',q⟩:=I.base.there b o e hx
  obtain⟨sl',q'⟩:=z3 b _ q;exact⟨_,q'⟩
 ·obtain⟨m,⟨o,es,ep,ho,hd,r⟩,hl⟩:=I.loc
  obtain⟨sl,hs⟩:=z3 _ _ ho;refine⟨m,⟨_,es,ep,hs,hd,r⟩,fun i x v e1 e2 e3=>?_⟩;obtain⟨u,ru,lk⟩:=hl i x v e1 e2 e3;refine⟨u,ru,?_⟩;rcases lk with lk | ⟨k,c,ec,oc,hoc,hdc⟩
  ·exact .inl lk
  ·obtain⟨sl,hs⟩:=z3 _ _ hoc
   exact .inr ⟨k,c,ec,_,hs,hdc⟩
 ·obtain⟨v,oc,hoc,hdc⟩:=I.cell x c e
  obtain⟨sl,hs⟩:=z3 _ _ hoc;exact⟨v,_,hs,hdc⟩
 ·obtain⟨h1,h2,h3,h4,h5⟩:=I.pin p hp
  refine⟨(z2 _ fun hb=>?_).trans h1,h2,h3,h4,h5⟩;rcases qw.mp (sub _ hb)with q | q
  ·exact h3 q
  ·exact h4 q
 ·refine(I.hok b u e).stay (fun c v hc r=>?_) (fun _ r=>r) fun _ _ r=>r
  rcases hc with rfl | hc
  ·exact(trk _ _ e).trans r
  ·exact(trk _ _ hc).trans r
end
end L2
namespace L2
open PySem PySem.Spec PyProof.Rows
open PySem.W (Looks InstAt)
abbrev EXT:=St->Addr->Hp->Prop
section
variable {X:Cx} {EX:EXT} {e:Expr} {te:TE} {pos:Pos}
end
section
variable {X:Cx} {C:Addr} {x:Str} {p pos:Pos}
end
def CXv(P:Program)(w:World)(K:qe):CXT:=fun outer H s E e s'=>∃ a H',e=.ref a/\s'.os=s.os/\AllBare s'.gens/\Un (frs outer) [] H H' s.heap s'.heap/\HOk P w K H' s'.heap/\E e none H'
section
variable {X:Cx} {EX:EXT} {k:Nat} {f:Addr} {fd:FuncData} {ps:List Str} {sp:Sp} {x:Str} {p pos:Pos} {e:Expr} {es:List Expr} {t:TA}
end
end L2
namespace L2
open PySem PySem.Spec PyProof.Rows
open PySem.W (Looks InstAt)
abbrev Cx.body(X:Cx)(pn:List (Addr×Obj))(E:Value->Shared->Prop):Cx:={ X with pn:=pn,xe:=E }
section
variable {X:Cx} {pins:List (Addr×Obj)} {σ:St} {H:Hp} {s:Shared} {E:Value->Shared->Prop} {a:Addr} {pn:List (Addr×Obj)}
theorem Cx.Ok.body(ok:X.Ok):(X.body pn E).Ok:=⟨ok.mod,ok.kind,ok.glob,ok.blt,ok.above,ok.inj,ok.has,ok.cab,ok.hd,ok.frames,ok.stk,ok.exf,ok.bs,ok.bsz,ok.noex,ok.exfs,ok.funs,ok.frf⟩
theorem Inv.body(I:Inv X pins σ H s):Inv (X.body (X.pn++pins) E) [] σ H s:=⟨I.ok.body,I.os,I.bare,I.base,I.loc,I.cell,I.free,I.freeC,fun p hp=>I.pin p (by simpa using hp),I.hok,I.len⟩
end
section
variable {prog:Program} {w:World} {A:Around} {E:Value->Shared->Prop} {K:qe} {C C':Addr}
end
section
variable {X:Cx} {i:Nat} {n cls:Str} {C':Addr} {body suite:List Stmt} {b₀:Stmt} {tb:EXT->TS} {th:TS} {np hpos pos:Pos}
end
end L2
namespace L2
open PySem PySem.Spec PyProof.Rows
abbrev D:=PyData
def k1D:Key->D
 | .inl i=>.int i
 | .inr x=>.str x
def kTD(ks:List Key):D:=.tuple (ks.map k1D)
def PL(K:qe)(H:Hp)(a:Addr)(xs:List V):Prop :=
 (∃ o,H a=some (.frz o (.lst xs)))\/∃ (o:Obj) (its:Array Value) (n:Nat),K.lookup a=some o/\o.cls=.type "list"/\o.dict=none/\o.data=.seq its n/\its.size<=sizeLine/\zP xs its.toList
def XN(K:qe)(n:Str)(C:Addr):Prop:=PySem.W.nsIn K mainGlobals n=some (some (.ref C))
def noX:List (D×D)->Bool
 | (.none,_)::_=>false
 | (.bool _,_)::_=>false
 | _=>true
theorem TpK.sq{K:qe}{H:Hp}{a:Addr}{xs:List V}(h:TpK K H a xs):SqT K H a xs:=h.imp .inl fun⟨o,i,n,a,b,c,d,e,_⟩=>⟨o,i,n,a,b,c,d,e⟩
theorem TpK.kp{K:qe}{H H':Hp}{a:Addr}{xs:List V}(e:Kp H H')(h:TpK K H a xs):TpK K H' a xs:=h.keeps e.tup
mutual
inductive DF (K:qe) (H:Hp):V->D->Prop
 | non:DF K H .non .none
 | bl (b:Bool):DF K H (.bl b) (.bool b)
 | int (i:Int):DF K H (.int i) (.int i)
 | str (x:Str):DF K H (.str x) (.str x)
 | tup {a:Addr} {xs:List V} {ds:List D} (h:TpK K H a xs) (t:DFs K H xs ds):DF K H (.ref a) (.tuple ds)
 | lst {a:Addr} {xs:List V} {ds:List D} (h:PL K H a xs) (t:DFs K H xs ds):DF K H (.ref a) (.list ds)
 | dct {a:Addr} {o:Obj} {ws:List (List Key×V)} {kvs:List (D×D)} (h:H a=some (.frz o (.dT ws))) (t:DFt K H ws kvs):DF K H (.ref a) (.dict kvs)
 | exc {a C:Addr} {n:Str} {fs:List (Str×V)} {ds:List (D×D)} (h:XV H a C fs) (e:XN K n C) (t:DFf K H fs ds):DF K H (.ref a) (.dict ((.none,.str n)::ds))
 | obj {a C dx:Addr} {o:Obj} {n:Str} {fs:List (Str×V)} {ds:List (D×D)} (h:H a=some (.frz o (.ins C dx fs))) (e:XN K n C) (t:DFf K H fs ds):DF K H (.ref a) (.dict ((.bool true,.str n)::ds))
inductive DFs (K:qe) (H:Hp):List V->List D->Prop
 | nil:DFs K H [] []
 | cons {v:V} {d:D} {vs:List V} {ds:List D} (h:DF K H v d) (t:DFs K H vs ds):DFs K H (v::vs) (d::ds)
inductive DFt (K:qe) (H:Hp):List (List Key×V)->List (D×D)->Prop
 | nil:DFt K H [] []
 | cons {k:List Key} {v:V} {d:D} {vs:List (List Key×V)} {ds:List (D×D)} (h:DF K H v d) (t:DFt K H vs ds):DFt K H ((k,v)::vs) ((kTD k,d)::ds)
inductive DFf (K:qe) (H:Hp):List (Str×V)->List (D×D)->Prop
 | nil:DFf K H [] []
 | cons {k:Str} {v:V} {d:D} {vs:List (Str×V)} {ds:List (D×D)} (h:DF K H v d) (t:DFf K H vs ds):DFf K H ((k,v)::vs) ((.str k,d)::ds)
end
theorem XV.kp{H H':Hp}{a C:Addr}{fs:List (Str×V)}(e:Kp H H')(h:XV H a C fs):XV H' a C fs:=by
 obtain⟨ox,h1,h2,h3,h4⟩:=h;refine⟨ox,e.frz _ _ _ h1,h2,h3,?_⟩;rcases h4 with h4 | ⟨od,dx,h5,h6⟩
 ·exact .inl h4
 ·exact .inr ⟨od,dx,h5,e.frz _ _ _ h6⟩
theorem PL.kp{K:qe}{H H':Hp}{a:Addr}{xs:List V}(e:Kp H H')(h:PL K H a xs):PL K H' a xs:=by
 rcases h with ⟨o,h⟩ | h
 ·exact .inl ⟨o,e.frz _ _ _ h⟩
 ·exact .inr h
theorem PL.sq{K:qe}{H:Hp}{a:Addr}{xs:List V}(h:PL K H a xs):SqL K H a xs:=by
 rcases h with ⟨o,h⟩ | h
 ·exact .inl (.inr ⟨o,h⟩)
 ·exact .inr h
mutual
theorem DF.kp{K:qe}{H H':Hp}(e:Kp H H'):∀ {v:V} {d:D},DF K H v d->DF K H' v d
 | _,_,.non=>.non
 | _,_,.bl b=>.bl b
 | _,_,.int i=>.int i
 | _,_,.str x=>.str x
 | _,_,.tup h t=>.tup (h.keeps e.tup) (DFs.kp e t)
 | _,_,.lst h t=>.lst (h.kp e) (DFs.kp e t)
 | _,_,.dct h t=>.dct (e.frz _ _ _ h) (DFt.kp e t)
 | _,_,.exc h n t=>.exc (h.kp e) n (DFf.kp e t)
 | _,_,.obj h n t=>.obj (e.frz _ _ _ h) n (DFf.kp e t)
theorem DFs.kp{K:qe}{H H':Hp}(e:Kp H H'):∀ {v:List V} {d:List D},DFs K H v d->DFs K H' v d
 | _,_,.nil=>.nil
 | _,_,.cons h t=>.cons (DF.kp e h) (DFs.kp e t)
theorem DFt.kp{K:qe}{H H':Hp}(e:Kp H H'):∀ {v:List (List Key×V)} {d:List (D×D)},DFt K H v d->DFt K H' v d
 | _,_,.nil=>.nil
 | _,_,.cons h t=>.cons (DF.kp e h) (DFt.kp e t)
theorem DFf.kp{K:qe}{H H':Hp}(e:Kp H H'):∀ {v:List (Str×V)} {d:List (D×D)},DFf K H v d->DFf K H' v d
 | _,_,.nil=>.nil
 | _,_,.cons h t=>.cons (DF.kp e h) (DFf.kp e t)
end
section
variable {K:qe} {H:Hp}
theorem DFs.snoc{v:V}{d:D}(h:DF K H v d):∀ {vs:List V} {ds:List D},DFs K H vs ds->DFs K H (vs++[v]) (ds++[d])
 | _,_,.nil=>.cons h .nil
 | _,_,.cons a t=>.cons a (DFs.snoc h t)
theorem DFs.app:∀ {vs ws:List V} {ds es:List D},DFs K H vs ds->DFs K H ws es->DFs K H (vs++ws) (ds++es)
 | _,_,_,_,.nil,q=>q
 | _,_,_,_,.cons a t,q=>.cons a (DFs.app t q)
theorem DFs.len:∀ {vs:List V} {ds:List D},DFs K H vs ds->vs.length=ds.length
 | _,_,.nil=>rfl
 | _,_,.cons _ t=>congrArg (·+1) (DFs.len t)
theorem DFs.get:∀ {vs:List V} {ds:List D} {i:Nat} {d:D},DFs K H vs ds->ds[i]?=some d->∃ v,vs[i]?=some v/\DF K H v d
 | _,_,0,_,.cons h _,e=>by
  cases(show some _=some _ from e);exact⟨_,rfl,h⟩
 | _,_,i+1,_,.cons _ t,e=>DFs.get (i:=i) t e
 | _,_,0,_,.nil,e=>by cases e
 | _,_,_+1,_,.nil,e=>by cases e
theorem DFs.get':∀ {vs:List V} {ds:List D} {i:Nat} {v:V},DFs K H vs ds->vs[i]?=some v->∃ d,ds[i]?=some d/\DF K H v d
 | _,_,0,_,.cons h _,e=>by
  cases(show some _=some _ from e);exact⟨_,rfl,h⟩
 | _,_,i+1,_,.cons _ t,e=>DFs.get' (i:=i) t e
 | _,_,0,_,.nil,e=>by cases e
 | _,_,_+1,_,.nil,e=>by cases e
theorem DFs.take:∀ {vs:List V} {ds:List D} (n:Nat),DFs K H vs ds->DFs K H (vs.take n) (ds.take n)
 | _,_,0,_=>by simpa using DFs.nil
 | _,_,n+1,.nil=>by simpa using DFs.nil
 | _,_,n+1,.cons h t=>.cons h (DFs.take n t)
theorem DFs.drop:∀ {vs:List V} {ds:List D} (n:Nat),DFs K H vs ds->DFs K H (vs.drop n) (ds.drop n)
 | _,_,0,q=>q
 | _,_,n+1,.nil=>by simpa using DFs.nil
 | _,_,n+1,.cons h t=>DFs.drop n t
theorem DFs.set{v:V}{d:D}(h:DF K H v d):∀ {vs:List V} {ds:List D} (n:Nat),DFs K H vs ds->DFs K H (vs.set n v) (ds.set n d)
 | _,_,_,.nil=>.nil
 | _,_,0,.cons _ t=>.cons h t
 | _,_,n+1,.cons a t=>.cons a (DFs.set h n t)
end
inductive U where
 | d (x:D)
 | l (xs:List D) | t (kvs:List (List Key×D)) | k (kvs:List (Key×D))
def U.own:U->Bool
 | .d _=>false
 | _=>true
def KVd{κ:Type}(K:qe)(H:Hp):List (κ×V)->List (κ×D)->Prop:=Paired fun p q=>p.1=q.1/\DF K H p.2 q.2
def Rp(K:qe)(H:Hp)(v:V):U->Prop
 | .d x=>DF K H v x
 | .l xs=>∃ a us,v=.ref a/\H a=some (.lst us)/\DFs K H us xs
 | .t kvs=>∃ a ws,v=.ref a/\H a=some (.dT ws)/\KVd K H ws kvs
 | .k kvs=>∃ a ws,v=.ref a/\H a=some (.dK ws)/\KVd K H ws kvs
def Mo:HO->Prop
 | .lst _=>True
 | .dT _=>True
 | .dK _=>True
 | _=>False
theorem Rp.own{K:qe}{H:Hp}{v:V}{u:U}(h:Rp K H v u)(o:u.own=true):∃ a c,v=.ref a/\H a=some c/\Mo c:=by
 cases u with
 | d x=>cases o
 | l xs=>obtain⟨a,us,e,q,_⟩:=h; exact⟨a,_,e,q,trivial⟩
 | t xs=>obtain⟨a,us,e,q,_⟩:=h; exact⟨a,_,e,q,trivial⟩
 | k xs=>obtain⟨a,us,e,q,_⟩:=h; exact⟨a,_,e,q,trivial⟩
theorem KVd.kp{κ:Type}{K:qe}{H H':Hp}(e:Kp H H'){ws:List (κ×V)}{kvs:List (κ×D)}(h:KVd K H ws kvs):KVd K H' ws kvs:=Paired.mapP h fun _ _ z=>⟨z.1,z.2.kp e⟩
theorem Rp.kp{K:qe}{H H':Hp}{v:V}{u:U}(h:Rp K H v u)(e:Kp H H')(o:u.own=true->∀ a c,v=.ref a->H a=some c->H' a=some c):Rp K H' v u:=by
 cases u with
 | d x=>exact DF.kp e h
 | l xs=>obtain⟨a,us,ev,q,t⟩:=h; exact⟨a,us,ev,o rfl a _ ev q,t.kp e⟩
 | t xs=>obtain⟨a,us,ev,q,t⟩:=h; exact⟨a,us,ev,o rfl a _ ev q,t.kp e⟩
 | k xs=>obtain⟨a,us,ev,q,t⟩:=h; exact⟨a,us,ev,o rfl a _ ev q,t.kp e⟩
abbrev En:=List (Option U)
def Ow(ρ:En)(σ:St)(a:Addr):Prop:=∃ (i:Nat) (u:U),ρ[i]?=some (some u)/\u.own=true/\σ[i]?=some (some (.ref a))
structure Rs (K:qe) (ρ:En) (σ:St) (H:Hp):Prop where
 len:ρ.length=σ.length
 rep:∀ (i:Nat) (u:U),ρ[i]?=some (some u)->∃ v,σ[i]?=some (some v)/\Rp K H v u
 apart:∀ (i j:Nat) (u w:U),ρ[i]?=some (some u)->ρ[j]?=some (some w)->u.own=true->w.own=true->σ[i]?=σ[j]?->i=j
def Fr'(A:Addr->Prop)(H H':Hp):Prop:=∀ a o,H a=some o->¬A a->H' a=some o
structure Shr (ρ ρ':En):Prop where
 len:ρ'.length=ρ.length
 own:∀ (i:Nat) (u:U),ρ'[i]?=some (some u)->u.own=true->∃ w,ρ[i]?=some (some w)/\w.own=true
 live:∀ (i:Nat) (u:U),ρ[i]?=some (some u)->∃ w,ρ'[i]?=some (some w)
def Nw(H:Hp)(v:V)(u:U):Prop:=u.own=true->∃ a,v=.ref a/\H a=none
structure Go (K:qe) (ρ:En) (σ:St) (H:Hp) (ρ':En) (H':Hp):Prop where
 rs:Rs K ρ' σ H'
 fr:Fr' (Ow ρ σ) H H'
 shr:Shr ρ ρ'
 dm:∀ a,H' a=none->H a=none
section
variable {K:qe} {ρ ρ' ρ'':En} {σ:St} {H H' H'':Hp} {a:Addr}
theorem Rs.ow(r:Rs K ρ σ H)(o:Ow ρ σ a):∃ c,H a=some c/\Mo c:=by
 obtain⟨i,u,e,ou,es⟩:=o;obtain⟨v,ev,p⟩:=r.rep i u e;rw [es]at ev;cases ev;obtain⟨b,c,eb,q,m⟩:=p.own ou;cases eb;exact⟨c,q,m⟩
theorem Fr'.kp(r:Rs K ρ σ H)(f:Fr' (Ow ρ σ) H H'):Kp H H':=by
 refine⟨fun b xs h=>f b _ h fun o=>?_,fun b ob u h=>f b _ h fun o=>?_⟩
 ·obtain⟨c,q,m⟩:=r.ow o
  rw [h]at q;cases q;exact m
 ·obtain⟨c,q,m⟩:=r.ow o
  rw [h]at q;cases q;exact m
theorem Shr.refl(ρ:En):Shr ρ ρ:=⟨rfl,fun i u e o=>⟨u,e,o⟩,fun i u e=>⟨u,e⟩⟩
theorem Shr.trans(a:Shr ρ ρ')(b:Shr ρ' ρ''):Shr ρ ρ'':=⟨b.1.trans a.1,fun i u e o=>let ⟨w,e',o'⟩:=b.2 i u e o; a.2 i w e' o',fun i u e=>let ⟨w,e'⟩:=a.3 i u e; b.3 i w e'⟩
theorem Shr.ow(s:Shr ρ ρ')(o:Ow ρ' σ a):Ow ρ σ a:=by
 obtain⟨i,u,e,ou,es⟩:=o;obtain⟨w,e',o'⟩:=s.2 i u e ou;exact⟨i,w,e',o',es⟩
theorem Go.refl(r:Rs K ρ σ H):Go K ρ σ H ρ H:=⟨r,fun _ _ h _=>h,Shr.refl _,fun _ h=>h⟩
theorem Go.trans(a:Go K ρ σ H ρ' H')(b:Go K ρ' σ H' ρ'' H''):Go K ρ σ H ρ'' H'' :=
 ⟨b.rs,fun c o h n=>b.fr c o (a.fr c o h n) fun z=>n (a.shr.ow z),a.shr.trans b.shr,fun c h=>a.dm c (b.dm c h)⟩
theorem Go.kp(r:Rs K ρ σ H)(g:Go K ρ σ H ρ' H'):Kp H H':=g.fr.kp r
theorem Go.stay{v:V}{u:U}(r:Rs K ρ σ H)(g:Go K ρ σ H ρ' H')(h:Rp K H v u)(n:u.own=true->∃ a,v=.ref a/\¬Ow ρ σ a):Rp K H' v u:=by
 refine h.kp (g.kp r) fun o a c ev q=>?_;obtain⟨b,eb,nb⟩:=n o;cases ev;cases eb;exact g.fr _ _ q nb
theorem Nw.out{v:V}{u:U}(r:Rs K ρ σ H)(n:Nw H v u):u.own=true->∃ a,v=.ref a/\¬Ow ρ σ a:=fun o=>by
 obtain⟨a,e,h⟩:=n o;refine⟨a,e,fun z=>?_⟩;obtain⟨c,q,_⟩:=r.ow z;rw [h]at q;cases q
theorem zbN.dm(s:zbN H H'):∀ a,H' a=none->H a=none:=fun a h=>by
 cases e:H a with
 | none=>rfl
 | some o=>rw [s a o e]at h; cases h
theorem Go.grow(r:Rs K ρ σ H)(s:zbN H H'):Go K ρ σ H ρ H' :=
 ⟨⟨r.len,fun i u e=>let ⟨v,ev,p⟩:=r.rep i u e; ⟨v,ev,p.kp s.kp fun _ a c _ q=>s a c q⟩,r.apart⟩,fun a o h _=>s a o h,Shr.refl _,s.dm⟩
end
inductive Ar where
 | s (i:Nat) | u (x:U)
def Ar.get(ρ:En):Ar->Option U
 | .s i=>(ρ[i]?).join
 | .u x=>some x
def zjO(K:qe)(ρ:En)(σ:St)(H H':Hp)(v:V):Ar->Prop
 | .s i=>σ[i]?=some (some v)/\∃ u,ρ[i]?=some (some u)
 | .u x=>Rp K H' v x/\Nw H v x
abbrev ME:=En->Option (Ar×En)
abbrev MA:=En->Option (List Ar×En)
abbrev MT:=En->Option (Bool×En)
def VE(K:qe)(t:TE)(m:ME):Prop :=
 ∀ (ρ:En) (σ:St) (H:Hp) (a:Ar) (ρ':En) (Q:VK),Rs K ρ σ H->m ρ=some (a,ρ')->(∀ v H',Go K ρ σ H ρ' H'->zjO K ρ' σ H H' v a->Q v H')->t σ H Q
def VT(K:qe)(t:TT)(m:MT):Prop :=
 ∀ (ρ:En) (σ:St) (H:Hp) (b:Bool) (ρ':En) (Q:Bool->Hp->Prop),Rs K ρ σ H->m ρ=some (b,ρ')->(∀ H',Go K ρ σ H ρ' H'->Q b H')->t σ H Q
structure ArS (K:qe) (ρ:En) (σ:St) (H H':Hp) (vs:List V) (as:List Ar):Prop where
 len:vs.length=as.length
 ar:∀ (i:Nat) (a:Ar),as[i]?=some a->∃ v,vs[i]?=some v/\zjO K ρ σ H H' v a
 ap:∀ (i j:Nat) (x y:U),as[i]?=some (.u x)->as[j]?=some (.u y)->x.own=true->y.own=true->vs[i]?=vs[j]?->i=j
def VAs(K:qe)(t:TA)(m:MA):Prop :=
 ∀ (ρ:En) (σ:St) (H:Hp) (as:List Ar) (ρ':En) (Q:List V->Hp->Prop),Rs K ρ σ H->m ρ=some (as,ρ')->(∀ vs H',Go K ρ σ H ρ' H'->ArS K ρ' σ H H' vs as->Q vs H')->t σ H Q
section
variable {K:qe} {ρ ρ' ρ'':En} {σ:St} {H H' H'':Hp} {v:V} {a:Ar} {u:U}
theorem Nw.mono(n:Nw H' v u)(h:∀ a,H' a=none->H a=none):Nw H v u:=fun o=>let ⟨a,e,q⟩:=n o; ⟨a,e,h a q⟩
theorem Nw.out'(r:Rs K ρ σ H)(g:Go K ρ σ H ρ' H')(n:Nw H v u):u.own=true->∃ a,v=.ref a/\¬Ow ρ' σ a:=fun o=>by
 obtain⟨b,e,q⟩:=n.out r o;exact⟨b,e,fun z=>q (g.shr.ow z)⟩
theorem zjO.later(r:Rs K ρ σ H)(g1:Go K ρ σ H ρ' H')(g2:Go K ρ' σ H' ρ'' H'')(h:zjO K ρ' σ H H' v a)(e:a.get ρ''=some u):Rp K H'' v u:=by
 cases a with
 | s i =>
  obtain⟨es,_⟩:=h;have e':ρ''[i]?=some (some u):=by
   cases q:ρ''[i]? with
   | none=>rw [show Ar.get ρ'' (.s i)=(ρ''[i]?).join from rfl,q]at e; cases e
   | some o =>
    rw [show Ar.get ρ'' (.s i)=(ρ''[i]?).join from rfl,q]at e;cases o with
    | none=>cases e
    | some x=>cases e; rfl
  obtain⟨w,ew,p⟩:=g2.rs.rep i u e';rw [es]at ew;cases ew;exact p
 | u x =>
  cases(show some x=some u from e);exact g2.stay g1.rs h.1 (h.2.out' r g1)
theorem zjO.now(r:Rs K ρ σ H)(g1:Go K ρ σ H ρ' H')(h:zjO K ρ' σ H H' v a)(e:a.get ρ'=some u):Rp K H' v u:=h.later r g1 (Go.refl g1.rs) e
theorem Nw.data{x:D}:Nw H v (.d x):=fun o=>by cases o
def zj(i:Nat):ME:=fun ρ=>match ρ[i]? with
 | some (some _)=>some (.s i,ρ)
 | _=>none
theorem ze{i:Nat}:VE K (zes i) (zj i):=by
 intro ρ σ H a ρ' Q r e q;unfold zj at e;split at e
 ·rename_i u eu
  cases e;obtain⟨v,ev,p⟩:=r.rep i u eu;exact⟨v,ev,q v H (Go.refl r) ⟨ev,u,eu⟩⟩
 ·cases e
def mC(x:D):ME:=fun ρ=>some (.u (.d x),ρ)
theorem v_c{c:V}{x:D}(h:∀ H,DF K H c x):VE K (tC c) (mC x):=by
 intro ρ σ H a ρ' Q r e q;cases e;exact q _ _ (Go.refl r) ⟨h H,Nw.data⟩
theorem zm{n:Int}:VE K (tC (.int n)) (mC (.int n)):=v_c fun _=>.int n
theorem zaN{n:Str}:VE K (tC (.str n)) (mC (.str n)):=v_c fun _=>.str n
theorem zjP{n:Bool}:VE K (tC (.bl n)) (mC (.bool n)):=v_c fun _=>.bl n
theorem zcO:VE K (tC .non) (mC .none):=v_c fun _=>.non
def VO(K:qe)(r:R2)(f:U->U->Option U):Prop :=
 ∀ (x y:V) (a b u:U) (H:Hp) (Q:VK),Rp K H x a->Rp K H y b->f a b=some u->(∀ v H',zbN H H'->Rp K H' v u->Nw H v u->Q v H')->r x y H Q
def mOp(f:U->U->Option U)(ma mb:ME):ME:=fun ρ=>(ma ρ).bind fun p=>(mb p.2).bind fun q=>(p.1.get q.2).bind fun x=>(q.1.get q.2).bind fun y=>(f x y).bind fun u=>some (.u u,q.2)
theorem bQ{α β:Type}{o:Option α}{f:α->Option β}{b:β}(h:o.bind f=some b):∃ a,o=some a/\f a=some b:=Option.bind_eq_some_iff.mp h
theorem zo{r:R2}{f:U->U->Option U}{ta tb:TE}{ma mb:ME}(h:VO K r f)(ha:VE K ta ma)(hb:VE K tb mb):VE K (tOp r ta tb) (mOp f ma mb):=by
 intro ρ σ H a ρ' Q rs e q;obtain⟨⟨a1,ρ1⟩,e1,e⟩:=bQ e;obtain⟨⟨b1,ρ2⟩,e2,e⟩:=bQ e;obtain⟨x,ex,e⟩:=bQ e;obtain⟨y,ey,e⟩:=bQ e;obtain⟨u,eu,e⟩:=bQ e;cases e;refine ha ρ σ H a1 ρ1 _ rs e1 fun v1 H1 g1 k1=>hb ρ1 σ H1 b1 ρ2 _ g1.rs e2 fun v2 H2 g2 k2=>?_;refine h _ _ x y u H2 _ (k1.later rs g1 g2 ex) (k2.now g1.rs g2 ey) eu fun v H3 s p n=>?_;exact q v H3 ((g1.trans g2).trans (Go.grow g2.rs s)) ⟨p,n.mono (g1.trans g2).dm⟩
def VU(K:qe)(r:V->Hp->VK->Prop)(f:U->Option U):Prop :=
 ∀ (x:V) (a u:U) (H:Hp) (Q:VK),Rp K H x a->f a=some u->(∀ v H',zbN H H'->Rp K H' v u->Nw H v u->Q v H')->r x H Q
def mUn(f:U->Option U)(ma:ME):ME:=fun ρ=>(ma ρ).bind fun p=>(p.1.get p.2).bind fun x=>(f x).bind fun u=>some (.u u,p.2)
theorem zda{r:V->Hp->VK->Prop}{f:U->Option U}{ta:TE}{ma:ME}(h:VU K r f)(ha:VE K ta ma):VE K (tUn r ta) (mUn f ma):=by
 intro ρ σ H a ρ' Q rs e q;obtain⟨⟨a1,ρ1⟩,e1,e⟩:=bQ e;obtain⟨x,ex,e⟩:=bQ e;obtain⟨u,eu,e⟩:=bQ e;cases e;refine ha ρ σ H a1 ρ1 _ rs e1 fun v1 H1 g1 k1=>?_;refine h _ x u H1 _ (k1.now rs g1 ex) eu fun v H3 s p n=>?_;exact q v H3 (g1.trans (Go.grow g1.rs s)) ⟨p,n.mono g1.dm⟩
def zq:MA:=fun ρ=>some ([],ρ)
def zf(me:ME)(ma:MA):MA:=fun ρ=>(me ρ).bind fun p=>(ma p.2).bind fun q=>some (p.1::q.1,q.2)
theorem zk:VAs K zny zq:=by
 intro ρ σ H as ρ' Q r e q;cases e;exact q [] H (Go.refl r) ⟨rfl,fun i a e=>by simp at e,fun i j x y e=>by simp at e⟩
theorem zd{te:TE}{t:TA}{me:ME}{ma:MA}(he:VE K te me)(ha:VAs K t ma):VAs K (zfp te t) (zf me ma):=by
 intro ρ σ H as ρ' Q r e q;obtain⟨⟨a1,ρ1⟩,e1,e⟩:=bQ e;obtain⟨⟨as2,ρ2⟩,e2,e⟩:=bQ e;cases e;refine he ρ σ H a1 ρ1 _ r e1 fun v1 H1 g1 k1=>ha ρ1 σ H1 as2 _ _ g1.rs e2 fun vs H2 g2 s2=>?_;have own1:∀ x,a1=.u x->x.own=true->∃ b c,v1=.ref b/\H1 b=some c:=fun x ea o=>by
  subst ea;obtain⟨b,c,eb,hb,_⟩:=k1.1.own o;exact⟨b,c,eb,hb⟩
 have oth:∀ (j:Nat) (y:U),as2[j]?=some (.u y)->y.own=true->∃ b,vs[j]?=some (.ref b)/\H1 b=none:=fun j y ej o=>by
  obtain⟨v,ev,k⟩:=s2.ar j _ ej;obtain⟨b,eb,hb⟩:=k.2 o;subst eb;exact⟨b,ev,hb⟩
 have ne:∀ (x:U) (j:Nat) (y:U),a1=.u x->x.own=true->as2[j]?=some (.u y)->y.own=true->some v1≠vs[j]?:=fun x j y ea ox ej oy z=>by
  obtain⟨b,c,e1,h1⟩:=own1 x ea ox;obtain⟨b',e2,h2⟩:=oth j y ej oy;rw [e2,e1]at z;cases z;rw [h1]at h2;cases h2
 refine q (v1::vs) H2 (g1.trans g2) ⟨by simp [s2.len],fun i a ei=>?_,fun i j x y ei ej ox oy ev=>?_⟩
 ·cases i with
  | zero =>
   cases(show some a1=some a from ei);refine⟨v1,rfl,?_⟩;cases a1 with
   | s k =>
    obtain⟨es,w,ew⟩:=k1;exact⟨es,g2.shr.live k w ew⟩
   | u x=>exact⟨g2.stay g1.rs k1.1 (k1.2.out' r g1),k1.2⟩
  | succ i =>
   obtain⟨v,ev,k⟩:=s2.ar i a ei;refine⟨v,ev,?_⟩;cases a with
   | s k'=>exact k
   | u x=>exact⟨k.1,k.2.mono g1.dm⟩
 ·cases i with
  | zero =>
   cases j with
   | zero=>rfl
   | succ j=>exact absurd ev (ne x j y (qy ei) ox ej oy)
  | succ i =>
   cases j with
   | zero=>exact absurd ev.symm (ne y i x (qy ej) oy ei ox)
   | succ j=>exact congrArg (·+1) (s2.ap i j x y ei ej ox oy ev)
end
end L2
namespace L2
open PySem PySem.Spec PyProof.Rows
open Classical in
def fIC(c:Int->Int->Prop)(g:Int->Int->D):U->U->Option U
 | .d (.int i),.d (.int j)=>if c i j then some (.d (g i j))else none
 | _,_=>none
def fI(g:Int->Int->D):U->U->Option U
 | .d (.int i),.d (.int j)=>some (.d (g i j))
 | _,_=>none
section
variable {K:qe}
theorem DF.int_inv{H:Hp}{v:V}{i:Int}(h:DF K H v (.int i)):v=.int i:=by cases h; rfl
theorem DF.str_inv{H:Hp}{v:V}{x:Str}(h:DF K H v (.str x)):v=.str x:=by cases h; rfl
theorem DF.bl_inv{H:Hp}{v:V}{b:Bool}(h:DF K H v (.bool b)):v=.bl b:=by cases h; rfl
theorem DF.tup_inv{H:Hp}{v:V}{ds:List D}(h:DF K H v (.tuple ds)):∃ a xs,v=.ref a/\TpK K H a xs/\DFs K H xs ds:=by cases h with | tup h t=>exact⟨_,_,rfl,h,t⟩
theorem DF.lst_inv{H:Hp}{v:V}{ds:List D}(h:DF K H v (.list ds)):∃ a xs,v=.ref a/\PL K H a xs/\DFs K H xs ds:=by cases h with | lst h t=>exact⟨_,_,rfl,h,t⟩
theorem DF.dct_inv{H:Hp}{v:V}{ds:List (D×D)}(h:DF K H v (.dict ds))(nx:noX ds=true):∃ a o ws,v=.ref a/\H a=some (.frz o (.dT ws))/\DFt K H ws ds:=by
 cases h with
 | dct h t=>exact⟨_,_,_,rfl,h,t⟩
 | exc h n t=>cases nx
 | obj h n t=>cases nx
theorem zko{c:Int->Int->Prop}{g:Int->Int->V}{gd:Int->Int->D}(h:∀ i j H,DF K H (g i j) (gd i j)):VO K (rI c g) (fIC c gd):=by
 intro x y a b u H Q ha hb e q;unfold fIC at e;split at e
 ·rename_i i j
  split at e
  ·rename_i hc
   cases e;exact⟨i,j,DF.int_inv ha,DF.int_inv hb,hc,q _ _ (fun _ _ z=>z) (h i j H) Nw.data⟩
  ·cases e
 ·cases e
theorem zqu{g:Int->Int->V}{gd:Int->Int->D}(h:∀ i j H,DF K H (g i j) (gd i j)):VO K (rI0 g) (fI gd):=by
 intro x y a b u H Q ha hb e q;unfold fI at e;split at e
 ·rename_i i j
  cases e;exact⟨i,j,DF.int_inv ha,DF.int_inv hb,q _ _ (fun _ _ z=>z) (h i j H) Nw.data⟩
 ·cases e
def zbY:=fI fun i j=>.int (i+j)
def ziR:=fI fun i j=>.int (i - j)
def zf5:=fIC zp9 fun i j=>.int (i * j)
def zgq:=fIC (fun _ j=>0 < j) fun i j=>.int (i % j)
def ziS:=fIC zkk fun i j=>.int (i / j)
def zht:=fIC ziF fun i j=>.int (i.fdiv j)
def zu8:=fIC zuG fun i j=>.int (i^j.toNat)
def fLt:=fI fun i j=>.bool (decide (i < j))
def fLe:=fI fun i j=>.bool (decide (i<=j))
def fGt:=fI fun i j=>.bool (decide (j < i))
def fGe:=fI fun i j=>.bool (decide (j<=i))
theorem zaw:VO K (rI0 fun i j=>.int (i+j)) zbY:=zqu fun i j H=>.int _
theorem zd4:VO K (rI0 fun i j=>.int (i - j)) ziR:=zqu fun i j H=>.int _
theorem zcP:VO K (rI zp9 fun i j=>.int (i * j)) zf5:=zko fun i j H=>.int _
theorem zcQ:VO K (rI (fun _ j=>0 < j) fun i j=>.int (i % j)) zgq:=zko fun i j H=>.int _
theorem zib:VO K (rI zkk fun i j=>.int (i / j)) ziS:=zko fun i j H=>.int _
theorem ze8:VO K (rI ziF fun i j=>.int (i.fdiv j)) zht:=zko fun i j H=>.int _
theorem zyx:VO K (rI zuG fun i j=>.int (i^j.toNat)) zu8:=zko fun i j H=>.int _
theorem zeE:VO K (rI0 fun i j=>.bl (decide (i < j))) fLt:=zqu fun i j H=>.bl _
theorem zrS:VO K (rI0 fun i j=>.bl (decide (i<=j))) fLe:=zqu fun i j H=>.bl _
theorem zrT:VO K (rI0 fun i j=>.bl (decide (j < i))) fGt:=zqu fun i j H=>.bl _
theorem zws:VO K (rI0 fun i j=>.bl (decide (j<=i))) fGe:=zqu fun i j H=>.bl _
def zla:U->Option U
 | .d (.int i)=>some (.d (.int (-i)))
 | _=>none
theorem zg9:VU K (rU fun i=>.int (-i)) zla:=by
 intro x a u H Q ha e q;unfold zla at e;split at e
 ·rename_i i
  cases e;exact⟨i,DF.int_inv ha,q _ _ (fun _ _ z=>z) (.int _) Nw.data⟩
 ·cases e
def U.py:U->Option D
 | .d x=>some x
 | .l xs=>some (.list xs)
 | _=>none
mutual
theorem DF.dv{H:Hp}:∀ {v:V} {d:D},DF K H v d->d.hasDict=false->DV K H v d
 | _,_,.non,_=>.non
 | _,_,.bl b,_=>.bl b
 | _,_,.int i,_=>.int i
 | _,_,.str x,_=>.str x
 | _,_,.tup h t,q=>.tup ((TpK.sq h)) (DFs.dv t (by simpa [PyData.hasDict] using q))
 | _,_,.lst h t,q=>.lst h.sq (DFs.dv t (by simpa [PyData.hasDict] using q))
 | _,_,.dct h t,q=>by simp [PyData.hasDict]at q
 | _,_,.exc h n t,q=>by simp [PyData.hasDict]at q
 | _,_,.obj h n t,q=>by simp [PyData.hasDict]at q
theorem DFs.dv{H:Hp}:∀ {v:List V} {d:List D},DFs K H v d->PyData.hasDictAll d=false->DVs K H v d
 | _,_,.nil,_=>.nil
 | _,_,.cons h t,q=>by
  simp only [PyData.hasDictAll,Bool.or_eq_false_iff]at q;exact .cons (DF.dv h q.1) (DFs.dv t q.2)
end
theorem Rp.dv{H:Hp}{v:V}{u:U}{x:D}(h:Rp K H v u)(e:u.py=some x)(q:x.hasDict=false):DV K H v x:=by
 cases u with
 | d y=>cases e; exact DF.dv h q
 | l xs =>
  cases e;obtain⟨a,us,rfl,h1,h2⟩:=h;exact .lst (SqL.of h1) (DFs.dv h2 (by simpa [PyData.hasDict] using q))
 | t=>cases e
 | k=>cases e
mutual
theorem zd5:∀ (x:D),x.canLay0=true->x.hasDict=false
 | .none,_=>rfl
 | .bool _,_=>rfl
 | .int _,_=>rfl
 | .str _,_=>rfl
 | .list xs,h=>by simp only [PyData.hasDict]; exact hasDictAll_of xs (by simpa [PyData.canLay0] using h)
 | .tuple xs,h=>by simp only [PyData.hasDict]; exact hasDictAll_of xs (by simpa [PyData.canLay0] using h)
 | .dict _,h=>by simp [PyData.canLay0]at h
theorem hasDictAll_of:∀ (xs:List D),PyData.canLayAll0 xs=true->PyData.hasDictAll xs=false
 | [],_=>rfl
 | x::xs,h=>by
  simp only [PyData.canLayAll0,Bool.and_eq_true]at h;simp only [PyData.hasDictAll,zd5 x h.1,hasDictAll_of xs h.2];rfl
end
def zu9(K:qe)(neg:Bool):R2:=fun x y H Q=>∃ a b,DV K H x a/\DV K H y b/\SeqAt.shaped a=true/\SeqAt.shaped b=true/\Q (.bl (if neg=true then !PyData.eqv a b else PyData.eqv a b)) H
theorem znQ{X:Cx}(K:qe)(hK:X.K=K){k:Nat}(hr:Room k X.A):OpR X (compareOp .Eq) (zu9 K false):=by
 subst hK;intro pins s σ H x y v u Q I rx ry h;obtain⟨a,b,da,db,sa,sb,q⟩:=h;obtain⟨as,ra⟩:=DV.reads I da rx;obtain⟨bs,rb⟩:=DV.reads I db ry;exact SeqAt.compareEq_shaped ra rb sa sb hr.units ⟨.bl _,H,I,rfl,q⟩
theorem zrU{X:Cx}(K:qe)(hK:X.K=K){k:Nat}(hr:Room k X.A):OpR X (compareOp .NotEq) (zu9 K true):=by
 subst hK;intro pins s σ H x y v u Q I rx ry h;obtain⟨a,b,da,db,sa,sb,q⟩:=h;obtain⟨as,ra⟩:=DV.reads I da rx;obtain⟨bs,rb⟩:=DV.reads I db ry;exact SeqAt.compareNe_shaped ra rb sa sb hr.units ⟨.bl _,H,I,rfl,q⟩
def zf6(neg:Bool)(a b:U):Option U:=a.py.bind fun x=>b.py.bind fun y=>if SeqAt.shaped x=true/\SeqAt.shaped y=true then some (.d (.bool (if neg=true then !PyData.eqv x y else PyData.eqv x y)))else none
theorem zlb(neg:Bool):VO K (zu9 K neg) (zf6 neg):=by
 intro x y a b u H Q ha hb e q;obtain⟨dx,ex,e⟩:=bQ e;obtain⟨dy,ey,e⟩:=bQ e;split at e
 ·rename_i hs
  cases e;exact⟨dx,dy,ha.dv ex (zd5 _ (SeqAt.canLay_of_shaped hs.1)),hb.dv ey (zd5 _ (SeqAt.canLay_of_shaped hs.2)),hs.1,hs.2,q _ _ (fun _ _ z=>z) (.bl _) Nw.data⟩
 ·cases e
theorem DFs.atI{H:Hp}{xs:List V}{ds:List D}{i:Int}{d:D}(h:DFs K H xs ds)(e:L2.atI ds i=some d):∃ v,L2.atI xs i=some v/\DF K H v d:=by
 unfold L2.atI at e ⊢;obtain⟨j,ej,e⟩:=bQ e;obtain⟨v,ev,k⟩:=h.get e;refine⟨v,?_,k⟩;rw [h.len,ej];exact ev
def zax:U->U->Option U
 | .l ds,.d (.int i)=>(atI ds i).map .d
 | .d (.list ds),.d (.int i)=>(atI ds i).map .d
 | _,_=>none
def zac:U->U->Option U
 | .d (.tuple ds),.d (.int i)=>(atI ds i).map .d
 | _,_=>none
theorem zW:VO K (zyf K) zax:=by
 intro x y a b u H Q ha hb e q;unfold zax at e;split at e
 ·rename_i ds i
  obtain⟨d,ed,rfl⟩:=qt.mp e;obtain⟨p,us,rfl,h1,h2⟩:=ha;obtain⟨v,ev,k⟩:=h2.atI ed;exact⟨p,us,i,v,rfl,DF.int_inv hb,SqL.of h1,ev,q _ _ (fun _ _ z=>z) k Nw.data⟩
 ·rename_i ds i
  obtain⟨d,ed,rfl⟩:=qt.mp e;obtain⟨p,us,rfl,h1,h2⟩:=DF.lst_inv ha;obtain⟨v,ev,k⟩:=h2.atI ed;exact⟨p,us,i,v,rfl,DF.int_inv hb,h1.sq,ev,q _ _ (fun _ _ z=>z) k Nw.data⟩
 ·cases e
theorem zE:VO K (zyg K) zac:=by
 intro x y a b u H Q ha hb e q;unfold zac at e;split at e
 ·rename_i ds i
  obtain⟨d,ed,rfl⟩:=qt.mp e;obtain⟨p,us,rfl,h1,h2⟩:=DF.tup_inv ha;obtain⟨v,ev,k⟩:=h2.atI ed;exact⟨p,us,i,v,rfl,DF.int_inv hb,(TpK.sq h1),ev,q _ _ (fun _ _ z=>z) k Nw.data⟩
 ·cases e
end
end L2
namespace L2
open PySem PySem.Spec PyProof.Rows
section
variable {K:qe} {ρ ρ':En} {σ:St} {H H':Hp}
theorem zcp{a:Addr}{c:HO}(h:H a=some c)(m:Mo c)(o:HO):Kp H (upd H a o):=by
 refine⟨fun b xs e=>?_,fun b ob u e=>?_⟩
 ·rw [zI (zgj e h (by rintro rfl; exact m))]; exact e
 ·rw [zI (zgj e h (by rintro rfl; exact m))]; exact e
theorem Go.own{i:Nat}{u u':U}{a:Addr}{o:HO}(r:Rs K ρ σ H)(e:ρ[i]?=some (some u))(ou:u.own=true)(es:σ[i]?=some (some (.ref a)))(p:Rp K (upd H a o) (.ref a) u'):Go K ρ σ H (ρ.set i (some u')) (upd H a o):=by
 have hi:i < ρ.length:=(qm.mp e).1;obtain⟨c,hc,mc⟩:=r.ow ⟨i,u,e,ou,es⟩;have kp:=zcp hc mc o;refine⟨⟨by rw [List.length_set]; exact r.len,fun j w ej=>?_,fun j k w w' ej ek oj ok es'=>?_⟩,fun b ob hb n=>?_,⟨List.length_set,fun j w ej oj=>?_,fun j w ej=>?_⟩,fun b hb=>?_⟩
 ·by_cases hj:i=j
  ·subst hj
   rw [List.getElem?_set_self hi]at ej;cases ej;exact⟨_,es,p⟩
  ·rw [qD hj]at ej
   obtain⟨v,ev,q⟩:=r.rep j w ej;refine⟨v,ev,q.kp kp fun ow b c' eb hb=>?_⟩;have ne:b≠a:=by
    rintro rfl;exact hj (r.apart i j u w e ej ou ow (by rw [es,ev,eb]))
   rw [zI ne];exact hb
 ·have own:∀ (j:Nat) (w:U),(ρ.set i (some u'))[j]?=some (some w)->w.own=true->∃ w',ρ[j]?=some (some w')/\w'.own=true:=fun j w ej oj=>by
   by_cases hj:i=j
   ·subst hj; exact⟨u,e,ou⟩
   ·rw [qD hj]at ej; exact⟨w,ej,oj⟩
  obtain⟨x,ex,ox⟩:=own j w ej oj;obtain⟨y,ey,oy⟩:=own k w' ek ok;exact r.apart j k x y ex ey ox oy es'
 ·have ne:b≠a:=by
   rintro rfl;exact n ⟨i,u,e,ou,es⟩
  rw [zI ne];exact hb
 ·by_cases hj:i=j
  ·subst hj; exact⟨u,e,ou⟩
  ·rw [qD hj]at ej; exact⟨w,ej,oj⟩
 ·by_cases hj:i=j
  ·subst hj; exact⟨u',List.getElem?_set_self hi⟩
  ·exact⟨w,by rw [qD hj]; exact ej⟩
 ·by_cases hb':b=a
  ·subst hb'; rw [zD]at hb; cases hb
  ·rw [zI hb']at hb; exact hb
theorem Rp.own_ref{v:V}{u:U}(h:Rp K H v u)(o:u.own=true):∃ a,v=.ref a:=let ⟨a,_,e,_⟩:=h.own o; ⟨a,e⟩
def Fz(K:qe)(H:Hp)(v:V)(H':Hp):Prop :=
 (∃ a xs o,v=.ref a/\K.lookup a=none/\H a=some (.lst xs)/\H'=upd H a (.frz o (.lst xs)))\/(∃ a xs o,v=.ref a/\K.lookup a=none/\H a=some (.dT xs)/\H'=upd H a (.frz o (.dT xs))) \/
  ((∀ a,v=.ref a->(∀ xs,H a≠some (.lst xs))/\∀ xs,H a≠some (.dT xs))/\H'=H)
def tFz(K:qe)(t:TE):TE:=fun σ H Q=>t σ H fun v H1=>∀ H2,Fz K H1 v H2->Q v H2
theorem Inv.freezeL{X:Cx}{pins:List (Addr×Obj)}{s:Shared}{a:Addr}{xs:List V}(I:Inv X pins σ H s)(e:H a=some (.lst xs)):∃ o,s.heap.get? a=some o/\Inv X pins σ (upd H a (.frz o (.lst xs))) s:=by
 have ok:=(show zao X.prog X.w X.K H s.heap a (.lst xs) from I.hok a _ e);obtain⟨z,its,n,r,h1⟩:=id ok;refine⟨_,h1,?_⟩;have ok2:zao X.prog X.w X.K (upd H a (.frz { cls:=.type "list",data:=.seq its.toArray n } (.lst xs))) s.heap a (.lst xs):=⟨z,its,n,r,h1⟩;exact I.write (t':=s.toks) (h':=s.heap) (by rw [e]; trivial) (.inl rfl) (fun _ _ _ q=>q) ⟨_,h1⟩ ⟨h1,ok2⟩
theorem zz5{X:Cx}{e:Expr}{t:TE}(h:PE X e t):PE X e (tFz X.K t):=by
 intro pins s σ H Q I q;refine thn (h pins s σ H _ I q) fun u s1 ⟨v,H1,I1,r,k⟩=>?_;have nk:∀ a c,H1 a=some c->X.K.lookup a=none:=fun a c ea=>by
  cases q:X.K.lookup a with
  | none=>rfl
  | some o=>rw [(I1.bs a o (I1.ok.mod.kin a o q)).2]at ea; cases ea
 by_cases c1:∃ a xs,v=.ref a/\H1 a=some (.lst xs)
 ·obtain⟨a,xs,ev,ea⟩:=c1
  obtain⟨o,_,I2⟩:=I1.freezeL ea;exact⟨v,_,I2,r,k _ (.inl ⟨a,xs,o,ev,nk a _ ea,ea,rfl⟩)⟩
 ·by_cases c2:∃ a xs,v=.ref a/\H1 a=some (.dT xs)
  ·obtain⟨a,xs,ev,ea⟩:=c2
   obtain⟨o,_,I2⟩:=I1.freeze ea;exact⟨v,_,I2,r,k _ (.inr (.inl ⟨a,xs,o,ev,nk a _ ea,ea,rfl⟩))⟩
  ·exact⟨v,H1,I1,r,k _ (.inr (.inr ⟨fun a ev=>⟨fun xs z=>c1 ⟨a,xs,ev,z⟩,fun xs z=>c2 ⟨a,xs,ev,z⟩⟩,rfl⟩))⟩
theorem zcR{X:Cx}{e:Expr}{t:TE}{K:qe}(h:Wr (PE X e t))(hK:X.K=K:=by rfl):Wr (PE X e (tFz K t)):=hK▸⟨zz5 h.run⟩
def U.fz:U->Option D
 | .d x=>some x
 | .l xs=>some (.list xs)
 | .t kvs=>some (.dict (kvs.map fun p=>(kTD p.1,p.2)))
 | .k _=>none
def mFz(me:ME):ME:=fun ρ=>(me ρ).bind fun p=>(p.1.get p.2).bind fun u=>u.fz.bind fun x=>some (.u (.d x),match p.1 with | .s i=>p.2.set i (some (.d x)) | .u _=>p.2)
theorem zyy{ws:List (List Key×V)}{kvs:List (List Key×D)}(h:KVd K H ws kvs):DFt K H ws (kvs.map fun p=>(kTD p.1,p.2)):=by
 induction h with
 | nil=>exact .nil
 | @cons p q ps qs hq t ih =>
  obtain⟨k,v⟩:=p;obtain⟨k',d⟩:=q;obtain⟨e,hd⟩:=hq;cases(show k=k' from e);exact .cons hd ih
theorem Fz.rp{v:V}{u:U}{x:D}(h:Fz K H v H')(p:Rp K H v u)(e:u.fz=some x):DF K H' v x/\(u.own=false->H'=H)/\(u.own=true->∃ a o,v=.ref a/\H'=upd H a o):=by
 cases u with
 | d y =>
  cases e;have k:H'=H:=by
   rcases h with ⟨a,xs,o,rfl,nk,ea,_⟩ | ⟨a,xs,o,rfl,nk,ea,_⟩ | ⟨_,rfl⟩
   ·exfalso
    cases(show DF K H _ _ from p)with
    | tup h _ =>
     rcases h with h | ⟨ob,its,n,hk,_⟩
     ·rw [ea]at h; cases h
     ·rw [nk]at hk; cases hk
    | lst h _ =>
     rcases h with ⟨o,h⟩ | ⟨ob,its,n,hk,_⟩
     ·rw [ea]at h; cases h
     ·rw [nk]at hk; cases hk
    | dct h _=>rw [ea]at h; cases h
    | exc h _ _=>obtain⟨_,h,_⟩:=h; rw [ea]at h; cases h
    | obj h _ _=>rw [ea]at h; cases h
   ·exfalso
    cases(show DF K H _ _ from p)with
    | tup h _ =>
     rcases h with h | ⟨ob,its,n,hk,_⟩
     ·rw [ea]at h; cases h
     ·rw [nk]at hk; cases hk
    | lst h _ =>
     rcases h with ⟨o,h⟩ | ⟨ob,its,n,hk,_⟩
     ·rw [ea]at h; cases h
     ·rw [nk]at hk; cases hk
    | dct h _=>rw [ea]at h; cases h
    | exc h _ _=>obtain⟨_,h,_⟩:=h; rw [ea]at h; cases h
    | obj h _ _=>rw [ea]at h; cases h
   ·rfl
  subst k;exact⟨p,fun _=>rfl,fun z=>by cases z⟩
 | l xs =>
  cases e;obtain⟨a,us,rfl,ea,ds⟩:=p;rcases h with ⟨a',xs',o,ev,_,ea',rfl⟩ | ⟨a',xs',o,ev,_,ea',_⟩ | ⟨z,_⟩
  ·cases ev
   rw [ea]at ea';cases ea';exact⟨.lst (.inl ⟨o,zD⟩) (ds.kp (zcp ea trivial _)),(fun z=>by cases z),fun _=>⟨a,_,rfl,rfl⟩⟩
  ·cases ev
   rw [ea]at ea';cases ea'
  ·exact absurd ea ((z a rfl).1 us)
 | t xs =>
  cases e;obtain⟨a,us,rfl,ea,ds⟩:=p;rcases h with ⟨a',xs',o,ev,_,ea',_⟩ | ⟨a',xs',o,ev,_,ea',rfl⟩ | ⟨z,_⟩
  ·cases ev
   rw [ea]at ea';cases ea'
  ·cases ev
   rw [ea]at ea';cases ea';exact⟨.dct zD (zyy (ds.kp (zcp ea trivial _))),(fun z=>by cases z),fun _=>⟨a,_,rfl,rfl⟩⟩
  ·exact absurd ea ((z a rfl).2 us)
 | k xs=>cases e
theorem zcS{t:TE}{m:ME}(h:VE K t m):VE K (tFz K t) (mFz m):=by
 intro ρ σ H a ρ' Q r e q;obtain⟨⟨b,ρ1⟩,e1,e⟩:=bQ e;obtain⟨u,eu,e⟩:=bQ e;obtain⟨x,ex,e⟩:=bQ e;cases e;refine h ρ σ H b ρ1 _ r e1 fun v H1 g1 k1=>fun H2 fz=>?_;have p:=k1.now r g1 eu;obtain⟨d,f1,f2⟩:=fz.rp p ex;cases b with
 | s i =>
  have ei:ρ1[i]?=some (some u):=by
   have z:(ρ1[i]?).join=some u:=eu;cases q:ρ1[i]? with
   | none=>rw [q]at z; cases z
   | some o=>rw [q]at z; cases o with
    | none=>cases z
    | some w=>cases z; rfl
  have hi:i < ρ1.length:=(qm.mp ei).1
  by_cases ou:u.own=true
  ·obtain⟨a,o,rfl,rfl⟩:=f2 ou
   exact q _ _ (g1.trans (Go.own (u':=.d x) g1.rs ei ou k1.1 d)) ⟨d,Nw.data⟩
  ·have ou':u.own=false:=by simpa using ou
   cases f1 ou';cases u with
   | d y =>
    cases ex;have es:ρ1.set i (some (.d x))=ρ1:=by
     apply List.ext_getElem?;intro j
     by_cases hj:i=j
     ·subst hj; rw [List.getElem?_set_self hi,ei]
     ·rw [qD hj]
    show Q v H1;refine q v H1 ?_ ⟨d,Nw.data⟩;show Go K ρ σ H (ρ1.set i (some (.d x))) H1;rw [es];exact g1
   | l=>cases ou'
   | t=>cases ou'
   | k=>cases ou'
 | u w =>
  cases(show some w=some u from eu)
  by_cases ou:u.own=true
  ·obtain⟨a,o,rfl,rfl⟩:=f2 ou
   obtain⟨a',ea',na'⟩:=k1.2 ou;cases ea';obtain⟨c,hc,mc⟩:∃ c,H1 a=some c/\Mo c:=by
    obtain⟨b,c,eb,hb,m⟩:=p.own ou;cases eb;exact⟨c,hb,m⟩
   have nw:¬Ow ρ1 σ a:=by
    obtain⟨b,eb,nb⟩:=k1.2.out' r g1 ou;cases eb;exact nb
   have kp:=zcp hc mc o;refine q _ _ ⟨⟨g1.rs.len,fun j y ej=>?_,g1.rs.apart⟩,fun b ob hb n=>?_,g1.shr,fun b hb=>?_⟩ ⟨d,Nw.data⟩
   ·obtain⟨v,ev,p'⟩:=g1.rs.rep j y ej
    refine⟨v,ev,p'.kp kp fun oy b c' eb hb=>?_⟩;have ne:b≠a:=by
     rintro rfl;subst eb;exact nw ⟨j,y,ej,oy,ev⟩
    rw [zI ne];exact hb
   ·have ne:b≠a:=by
     rintro rfl;rw [na']at hb;cases hb
    rw [zI ne];exact g1.fr b ob hb n
   ·by_cases hb':b=a
    ·subst hb'; exact na'
    ·rw [zI hb']at hb; exact g1.dm b hb
  ·have ou':u.own=false:=by simpa using ou
   cases f1 ou';exact q v H1 g1 ⟨d,Nw.data⟩
end
section
variable {K:qe} {ρ ρ':En} {σ:St} {H H':Hp}
def zbd(ρ:En):List Ar->Option (List U)
 | []=>some []
 | a::as=>(a.get ρ).bind fun u=>(zbd ρ as).bind fun us=>some (u::us)
def zcT:List U->Option (List D)
 | []=>some []
 | .d x::us=>(zcT us).bind fun xs=>some (x::xs)
 | _::_=>none
def RpL(K:qe)(H:Hp):List V->List U->Prop:=Paired fun v u=>Rp K H v u
theorem zyz{vs:List V}{as:List Ar}{us:List U}(len:vs.length=as.length)(h:∀ (i:Nat) (a:Ar),as[i]?=some a->∃ v,vs[i]?=some v/\∀ u,a.get ρ=some u->Rp K H v u)(e:zbd ρ as=some us):RpL K H vs us:=by
 induction as generalizing vs us with
 | nil =>
  cases e;cases vs with
  | nil=>exact .nil
  | cons=>simp at len
 | cons a as ih =>
  obtain⟨u,eu,e⟩:=bQ e;obtain⟨us',eus,e⟩:=bQ e;cases e;cases vs with
  | nil=>simp at len
  | cons v vs =>
   obtain⟨v',ev,k⟩:=h 0 a rfl;cases(show some v=some v' from ev);exact .cons (k u eu) (ih (by simpa using len) (fun i b eb=>h (i+1) b eb) eus)
theorem ArS.rpl{vs:List V}{as:List Ar}{us:List U}(r:Rs K ρ σ H)(g:Go K ρ σ H ρ' H')(s:ArS K ρ' σ H H' vs as)(e:zbd ρ' as=some us):RpL K H' vs us :=
 zyz s.len (fun i a ea=>let ⟨v,ev,k⟩:=s.ar i a ea; ⟨v,ev,fun u eu=>k.now r g eu⟩) e
theorem znR{vs:List V}{us:List U}{ds:List D}(h:RpL K H vs us)(e:zcT us=some ds):DFs K H vs ds:=by
 induction h generalizing ds with
 | nil=>cases e; exact .nil
 | @cons v u vs us hv t ih =>
  cases u with
  | d x =>
   obtain⟨xs,ex,e⟩:=bQ (show(zcT us).bind (fun xs=>some (x::xs))=some ds from e);cases e;exact .cons hv (ih ex)
  | l=>cases e
  | t=>cases e
  | k=>cases e
def zbe(ma:MA):ME:=fun ρ=>(ma ρ).bind fun p=>(zbd p.2 p.1).bind fun us=>(zcT us).bind fun ds=>if ds.length<=sizeLine then some (.u (.d (.tuple ds)),p.2)else none
def zeu(ma:MA):ME:=fun ρ=>(ma ρ).bind fun p=>(zbd p.2 p.1).bind fun us=>(zcT us).bind fun ds=>if ds.length<=sizeLine then some (.u (.l ds),p.2)else none
theorem zaB{t:TA}{m:MA}(h:VAs K t m):VE K (zya t) (zbe m):=by
 intro ρ σ H a ρ' Q r e q;obtain⟨⟨as,ρ1⟩,e1,e⟩:=bQ e;obtain⟨us,eu,e⟩:=bQ e;obtain⟨ds,ed,e⟩:=bQ e;split at e
 ·rename_i hz
  cases e;refine h ρ σ H as _ _ r e1 fun vs H1 g1 s1=>?_;have dd:=znR (s1.rpl r g1 eu) ed;refine⟨by rw [dd.len]; exact hz,fun p hp=>?_⟩;have sm:=zag hp (.tup vs);exact q _ _ (g1.trans (Go.grow g1.rs sm)) ⟨.tup (.inl zD) (dd.kp sm.kp),Nw.data⟩
 ·cases e
theorem zcU{t:TA}{m:MA}(h:VAs K t m):VE K (zyb t) (zeu m):=by
 intro ρ σ H a ρ' Q r e q;obtain⟨⟨as,ρ1⟩,e1,e⟩:=bQ e;obtain⟨us,eu,e⟩:=bQ e;obtain⟨ds,ed,e⟩:=bQ e;split at e
 ·rename_i hz
  cases e;refine h ρ σ H as _ _ r e1 fun vs H1 g1 s1=>?_;have dd:=znR (s1.rpl r g1 eu) ed;refine⟨by rw [dd.len]; exact hz,fun p hp=>?_⟩;have sm:=zag hp (.lst vs);exact q _ _ (g1.trans (Go.grow g1.rs sm)) ⟨⟨p,_,rfl,zD,dd.kp sm.kp⟩,fun _=>⟨p,rfl,g1.dm p hp⟩⟩
 ·cases e
def VC(K:qe)(r:List V->Hp->VK->Prop)(f:List U->Option U):Prop :=
 ∀ (vs:List V) (us:List U) (u:U) (H:Hp) (Q:VK),RpL K H vs us->f us=some u->(∀ v H',zbN H H'->Rp K H' v u->Nw H v u->Q v H')->r vs H Q
def mCB(f:List U->Option U)(ma:MA):ME:=fun ρ=>(ma ρ).bind fun p=>(zbd p.2 p.1).bind fun us=>(f us).bind fun u=>some (.u u,p.2)
theorem zar{r:List V->Hp->VK->Prop}{f:List U->Option U}{t:TA}{m:MA}(hc:VC K r f)(h:VAs K t m):VE K (tCB r t) (mCB f m):=by
 intro ρ σ H a ρ' Q rs e q;obtain⟨⟨as,ρ1⟩,e1,e⟩:=bQ e;obtain⟨us,eu,e⟩:=bQ e;obtain⟨u,ef,e⟩:=bQ e;cases e;refine h ρ σ H as _ _ rs e1 fun vs H1 g1 s1=>hc vs us u H1 _ (s1.rpl rs g1 eu) ef fun v H2 s p n=>?_;exact q v H2 (g1.trans (Go.grow g1.rs s)) ⟨p,n.mono g1.dm⟩
def f1(f:U->Option U):List U->Option U
 | [u]=>f u
 | _=>none
theorem zmh{r:List V->Hp->VK->Prop}{f:U->Option U}(h:∀ (v:V) (a u:U) (H:Hp) (Q:VK),Rp K H v a->f a=some u->(∀ v H',zbN H H'->Rp K H' v u->Nw H v u->Q v H')->r [v] H Q):VC K r (f1 f):=by
 intro vs us u H Q hr e q;cases hr with
 | nil=>cases e
 | cons h1 t =>
  cases t with
  | nil=>exact h _ _ _ _ _ h1 e q
  | cons=>cases e
def U.items:U->Option (List D)
 | .d (.tuple xs)=>some xs
 | .d (.list xs)=>some xs
 | .l xs=>some xs
 | _=>none
theorem Rp.items{v:V}{u:U}{xs:List D}(h:Rp K H v u)(e:u.items=some xs):∃ p ys,v=.ref p/\(SqL K H p ys\/SqT K H p ys)/\DFs K H ys xs:=by
 cases u with
 | d x =>
  cases x with
  | tuple ds=>cases e; obtain⟨a,ys,rfl,h1,h2⟩:=DF.tup_inv h; exact⟨a,ys,rfl,.inr ((TpK.sq h1)),h2⟩
  | list ds=>cases e; obtain⟨a,ys,rfl,h1,h2⟩:=DF.lst_inv h; exact⟨a,ys,rfl,.inl h1.sq,h2⟩
  | _=>cases e
 | l ds=>cases e; obtain⟨a,ys,rfl,h1,h2⟩:=h; exact⟨a,ys,rfl,.inl (SqL.of h1),h2⟩
 | t=>cases e
 | k=>cases e
def zbv(u:U):Option U:=u.items.map fun xs=>.d (.int xs.length)
theorem zan:VC K (zzZ K) (f1 zbv):=zmh fun v a u H Q h e q=>by
 obtain⟨xs,ex,rfl⟩:=qt.mp e;obtain⟨p,ys,rfl,s,d⟩:=h.items ex;exact⟨p,ys,rfl,s,q _ _ (fun _ _ z=>z) (by rw [d.len]; exact .int _) Nw.data⟩
def zbP(u:U):Option U:=u.items.map fun xs=>.d (.tuple xs)
theorem zbF:VC K (zmc K) (f1 zbP):=zmh fun v a u H Q h e q=>by
 obtain⟨xs,ex,rfl⟩:=qt.mp e;cases a with
 | d x =>
  cases x with
  | tuple ds =>
   cases ex;obtain⟨a,ys,rfl,h1,h2⟩:=DF.tup_inv h;exact⟨a,ys,rfl,.inr ⟨(TpK.sq h1),q _ _ (fun _ _ z=>z) (.tup h1 h2) Nw.data⟩⟩
  | list ds =>
   cases ex;obtain⟨a,ys,rfl,h1,h2⟩:=DF.lst_inv h;refine⟨a,ys,rfl,.inl ⟨h1.sq,fun l hl=>?_⟩⟩;have sm:=zag hl (.tup ys);exact q _ _ sm (.tup (.inl zD) (h2.kp sm.kp)) Nw.data
  | _=>cases ex
 | l ds =>
  cases ex;obtain⟨a,ys,rfl,h1,h2⟩:=h;refine⟨a,ys,rfl,.inl ⟨SqL.of h1,fun l hl=>?_⟩⟩;have sm:=zag hl (.tup ys);exact q _ _ sm (.tup (.inl zD) (h2.kp sm.kp)) Nw.data
 | t=>cases ex
 | k=>cases ex
def zrV(u:U):Option U:=u.items.map fun xs=>.l xs
theorem zva:VC K (zoN K) (f1 zrV):=zmh fun v a u H Q h e q=>by
 obtain⟨xs,ex,rfl⟩:=qt.mp e;obtain⟨p,ys,rfl,s,d⟩:=h.items ex;refine⟨p,ys,rfl,s,fun l hl=>?_⟩;have sm:=zag hl (.lst ys);exact q _ _ sm ⟨l,ys,rfl,zD,d.kp sm.kp⟩ fun _=>⟨l,rfl,hl⟩
def zmi:U->Option U
 | .d (.int i)=>some (.d (.int (if i < 0 then -i else i)))
 | _=>none
theorem ziT:VC K (fun xs H Q=>∃ i,xs=[.int i]/\Q (.int (if i < 0 then -i else i)) H) (f1 zmi):=zmh fun v a u H Q h e q=>by
 unfold zmi at e;split at e
 ·rename_i i
  cases e;cases DF.int_inv h;exact⟨i,rfl,q _ _ (fun _ _ z=>z) (.int _) Nw.data⟩
 ·cases e
def ziU:U->Option U
 | .d (.int i)=>some (.d (.int i))
 | .d (.bool k)=>some (.d (.int (if k then 1 else 0)))
 | _=>none
theorem zic:VC K (fun xs H Q=>(∃ i,xs=[.int i]/\Q (.int i) H)\/∃ k,xs=[.bl k]/\Q (.int (if k then 1 else 0)) H) (f1 ziU):=zmh fun v a u H Q h e q=>by
 unfold ziU at e;split at e
 ·rename_i i
  cases e;cases DF.int_inv h;exact .inl ⟨i,rfl,q _ _ (fun _ _ z=>z) (.int _) Nw.data⟩
 ·rename_i i
  cases e;cases DF.bl_inv h;exact .inr ⟨i,rfl,q _ _ (fun _ _ z=>z) (.int _) Nw.data⟩
 ·cases e
def zkp:List U->Option U
 | [.d (.int i),.d (.int j)]=>some (.d (.int (if j > i then j else i)))
 | _=>none
theorem zlc:VC K (fun xs H Q=>∃ i j,xs=[.int i,.int j]/\Q (.int (if j > i then j else i)) H) zkp:=by
 intro vs us u H Q hr e q;unfold zkp at e;split at e
 ·rename_i i j
  cases e;cases hr with
  | cons h1 t =>
   cases t with
   | cons h2 t =>
    cases t;cases DF.int_inv h1;cases DF.int_inv h2;exact⟨i,j,rfl,q _ _ (fun _ _ z=>z) (.int _) Nw.data⟩
 ·cases e
def ziV:List D->Option (List Int)
 | []=>some []
 | .int i::xs=>(ziV xs).bind fun is=>some (i::is)
 | _::_=>none
theorem zrW{ys:List V}{xs:List D}{ns:List Int}(h:DFs K H ys xs)(e:ziV xs=some ns):ys=ns.map V.int:=by
 induction xs generalizing ys ns with
 | nil=>cases e; cases h; rfl
 | cons x xs ih =>
  cases h with
  | cons h1 t =>
   cases x with
   | int i =>
    obtain⟨is,ei,e⟩:=bQ (show(ziV xs).bind (fun is=>some (i::is))=some ns from e);cases e;rw [ih t ei,DF.int_inv h1];rfl
   | _=>cases e
def mB(me:ME):MT:=fun ρ=>(me ρ).bind fun p=>(p.1.get p.2).bind fun u=>match u with | .d (.bool b)=>some (b,p.2) | _=>none
theorem zdz{t:TE}{m:ME}(h:VE K t m):VT K (tB t) (mB m):=by
 intro ρ σ H b ρ' Q r e q;obtain⟨⟨a,ρ1⟩,e1,e⟩:=bQ e;obtain⟨u,eu,e⟩:=bQ e;split at e
 ·cases e
  refine h ρ σ H a _ _ r e1 fun v H1 g1 k1=>?_;exact⟨_,DF.bl_inv (k1.now r g1 eu),q _ g1⟩
 ·cases e
theorem zz{t:TE}{m:ME}(h:VE K t m):VT K (zrd t) (mB m):=zdz h
def znS(ma mb:MT):MT:=fun ρ=>(ma ρ).bind fun p=>if p.1=true then mb p.2 else some (false,p.2)
def mOr(ma mb:MT):MT:=fun ρ=>(ma ρ).bind fun p=>if p.1=true then some (true,p.2)else mb p.2
def zdL(ma:MT):MT:=fun ρ=>(ma ρ).bind fun p=>some (!p.1,p.2)
theorem zld{ta tb:TT}{ma mb:MT}(ha:VT K ta ma)(hb:VT K tb mb):VT K (zxJ ta tb) (znS ma mb):=by
 intro ρ σ H b ρ' Q r e q;obtain⟨⟨c,ρ1⟩,e1,e⟩:=bQ e;refine ha ρ σ H c ρ1 _ r e1 fun H1 g1=>?_;dsimp only at e;split at e
 ·rename_i hc
  rw [if_pos hc];exact hb ρ1 σ H1 b ρ' _ g1.rs e fun H2 g2=>q H2 (g1.trans g2)
 ·rename_i hc
  rw [if_neg hc];cases e;exact q H1 g1
theorem zcb{ta tb:TT}{ma mb:MT}(ha:VT K ta ma)(hb:VT K tb mb):VT K (tOr ta tb) (mOr ma mb):=by
 intro ρ σ H b ρ' Q r e q;obtain⟨⟨c,ρ1⟩,e1,e⟩:=bQ e;refine ha ρ σ H c ρ1 _ r e1 fun H1 g1=>?_;dsimp only at e;split at e
 ·rename_i hc
  rw [if_pos hc];cases e;exact q H1 g1
 ·rename_i hc
  rw [if_neg hc];exact hb ρ1 σ H1 b ρ' _ g1.rs e fun H2 g2=>q H2 (g1.trans g2)
theorem zbp{ta:TT}{ma:MT}(ha:VT K ta ma):VT K (zxK ta) (zdL ma):=by
 intro ρ σ H b ρ' Q r e q;obtain⟨⟨c,ρ1⟩,e1,e⟩:=bQ e;cases e;exact ha ρ σ H c _ _ r e1 fun H1 g1=>q H1 g1
def zft(ma mb:ME):ME:=fun ρ=>(mB ma ρ).bind fun p=>if p.1=true then mb p.2 else some (.u (.d (.bool false)),p.2)
theorem zyA{a:Ar}{v:V}{H1 H2:Hp}{ρ1 ρ2:En}(g1:Go K ρ σ H ρ1 H1)(h:zjO K ρ2 σ H1 H2 v a):zjO K ρ2 σ H H2 v a:=by
 cases a with
 | s i=>exact h
 | u x=>exact⟨h.1,h.2.mono g1.dm⟩
theorem zf7{ta tb:TE}{ma mb:ME}(ha:VE K ta ma)(hb:VE K tb mb):VE K (zqY ta tb) (zft ma mb):=by
 intro ρ σ H a ρ' Q r e q;obtain⟨⟨c,ρ1⟩,e1,e⟩:=bQ e;refine zdz ha ρ σ H c ρ1 (fun c H1=>if c=true then tb σ H1 Q else Q (.bl false) H1) r e1 fun H1 g1=>?_;dsimp only at e;split at e
 ·rename_i hc
  rw [if_pos hc];exact hb ρ1 σ H1 a ρ' _ g1.rs e fun v H2 g2 k=>q v H2 (g1.trans g2) (zyA g1 k)
 ·rename_i hc
  rw [if_neg hc];cases e;exact q _ H1 g1 ⟨.bl _,Nw.data⟩
def zmj(ma:ME):ME:=fun ρ=>(mB ma ρ).bind fun p=>some (.u (.d (.bool (!p.1))),p.2)
theorem zrX{ta:TE}{ma:ME}(ha:VE K ta ma):VE K (zqZ ta) (zmj ma):=by
 intro ρ σ H a ρ' Q r e q;obtain⟨⟨c,ρ1⟩,e1,e⟩:=bQ e;cases e;exact zdz ha ρ σ H c _ (fun c H1=>Q (.bl (!c)) H1) r e1 fun H1 g1=>q _ H1 g1 ⟨.bl _,Nw.data⟩
def mIf(mt:MT)(ma mb:ME):ME:=fun ρ=>(mt ρ).bind fun p=>if p.1=true then ma p.2 else mb p.2
theorem zyB{tt:TT}{ta tb:TE}{mt:MT}{ma mb:ME}(ht:VT K tt mt)(ha:VE K ta ma)(hb:VE K tb mb):VE K (tIf tt ta tb) (mIf mt ma mb):=by
 intro ρ σ H a ρ' Q r e q;obtain⟨⟨c,ρ1⟩,e1,e⟩:=bQ e;refine ht ρ σ H c ρ1 _ r e1 fun H1 g1=>?_;dsimp only at e;split at e
 ·rename_i hc
  rw [if_pos hc];exact ha ρ1 σ H1 a ρ' _ g1.rs e fun v H2 g2 k=>q v H2 (g1.trans g2) (zyA g1 k)
 ·rename_i hc
  rw [if_neg hc];exact hb ρ1 σ H1 a ρ' _ g1.rs e fun v H2 g2 k=>q v H2 (g1.trans g2) (zyA g1 k)
def U.tru:U->Option Bool
 | .d .none=>some false
 | .d (.bool b)=>some b
 | .d (.int i)=>some (i != 0)
 | .d (.str x)=>if x.length<=sizeLine then some ((x.length:Int) != 0)else none
 | .d (.tuple xs)=>some (!xs.isEmpty)
 | .d (.list xs)=>some (!xs.isEmpty)
 | .l xs=>some (!xs.isEmpty)
 | _=>none
theorem zeF{ys:List V}{xs:List D}(h:DFs K H ys xs):(!xs.isEmpty)=!ys.isEmpty:=by cases h<;>rfl
def zvb(ma:ME):MT:=fun ρ=>(ma ρ).bind fun p=>(p.1.get p.2).bind fun u=>u.tru.bind fun b=>some (b,p.2)
theorem zyC{ta:TE}{ma:ME}(ha:VE K ta ma):VT K (zzY K ta) (zvb ma):=by
 intro ρ σ H b ρ' Q r e q;obtain⟨⟨a,ρ1⟩,e1,e⟩:=bQ e;obtain⟨u,eu,e⟩:=bQ e;obtain⟨c,ec,e⟩:=bQ e;cases e;refine ha ρ σ H a _ _ r e1 fun v H1 g1 k1=>⟨_,?_,q _ g1⟩;have p:=k1.now r g1 eu;cases u with
 | d x =>
  cases(show DF K H1 v x from p)with
  | non=>cases ec; rfl
  | bl=>cases ec; rfl
  | int=>cases ec; rfl
  | str x =>
   unfold U.tru at ec;dsimp only at ec;split at ec
   ·cases ec; exact⟨by assumption,rfl⟩
   ·cases ec
  | tup h t=>cases ec; exact .inr (.inl ⟨_,(TpK.sq h),zeF t⟩)
  | lst h t=>cases ec; exact .inl ⟨_,h.sq,zeF t⟩
  | dct=>cases ec
  | exc=>cases ec
  | obj=>cases ec
 | l xs=>cases ec; obtain⟨a,us,rfl,h1,h2⟩:=p; exact .inl ⟨_,SqL.of h1,zeF h2⟩
 | t=>cases ec
 | k=>cases ec
end
section
variable {K:qe} {ρ ρ':En} {σ:St} {H H':Hp}
abbrev FD:=List U->Option (U×List U)
def sm(xs:List U):En:=xs.map some
def smV(vs:List V):St:=vs.map some
def spV(K:qe)(n:Nat)(f:FD):Sp:=fun vs H Q _=>∃ us r outs,us.length=n/\Rs K (sm us) (smV vs) H/\f us=some (r,outs) /\
 ∀ v H',Go K (sm us) (smV vs) H (sm outs) H'->Rp K H' v r->Nw H v r->Q v H'
def wb:En->List Ar->List U->En
 | ρ,.s j::as,o::os=>wb (ρ.set j (some o)) as os
 | ρ,.u _::as,_::os=>wb ρ as os
 | ρ,_,_=>ρ
def zeG(ρ:En):List Ar->Bool
 | []=>true
 | .s j::as=>(match ρ[j]? with | some (some u)=>!u.own || !(as.any fun a=>match a with | .s k=>decide (k=j) | _=>false) | _=>true) && zeG ρ as
 | .u _::as=>zeG ρ as
def zN(f:FD)(ma:MA):ME:=fun ρ=>(ma ρ).bind fun p=>if zeG p.2 p.1=true then(zbd p.2 p.1).bind fun us=>(f us).bind fun o=>some (.u o.1,wb p.2 p.1 o.2)else none
theorem zgr:∀ {as:List Ar} {us:List U},zbd ρ as=some us->us.length=as.length
 | [],us,e=>by cases e; rfl
 | a::as,us,e=>by
  obtain⟨u,eu,e⟩:=bQ e;obtain⟨us',eus,e⟩:=bQ e;cases e;simp [zgr eus]
theorem zoT:∀ {as:List Ar} {us:List U} {i:Nat} {a:Ar},zbd ρ as=some us->as[i]?=some a->∃ u,us[i]?=some u/\a.get ρ=some u
 | [],us,i,a,e,ea=>by simp at ea
 | b::as,us,i,a,e,ea=>by
  obtain⟨u,eu,e⟩:=bQ e;obtain⟨us',eus,e⟩:=bQ e;cases e;cases i with
  | zero=>cases(show some b=some a from ea); exact⟨u,rfl,eu⟩
  | succ i=>exact zoT (i:=i) eus ea
theorem ziW:∀ {as:List Ar} {us:List U} {i:Nat} {u:U},zbd ρ as=some us->us[i]?=some u->∃ a,as[i]?=some a/\a.get ρ=some u:=fun{as us i u} e eu=>by
 have hi:i < as.length:=by rw [<-zgr e]; exact(qm.mp eu).1
 obtain⟨u',e1,e2⟩:=zoT e (qo hi);rw [eu]at e1;cases e1;exact⟨_,qo hi,e2⟩
theorem zwt{j:Nat}{u:U}(e:Ar.get ρ (.s j)=some u):ρ[j]?=some (some u):=by
 have z:(ρ[j]?).join=some u:=e;cases q:ρ[j]? with
 | none=>rw [q]at z; cases z
 | some o =>
  rw [q]at z;cases o with
  | none=>cases z
  | some w=>cases z; rfl
theorem zoU:∀ {as:List Ar} {p q j:Nat} {u:U},zeG ρ as=true->as[p]?=some (.s j)->as[q]?=some (.s j)->ρ[j]?=some (some u)->u.own=true->p=q
 | [],p,q,j,u,_,e,_,_,_=>by simp at e
 | a::as,p,q,j,u,d,ep,eq,ej,ou=>by
  have dd:zeG ρ as=true:=by
   cases a with
   | s k=>unfold zeG at d; rw [Bool.and_eq_true]at d; exact d.2
   | u=>exact d
  have nope:∀ {q':Nat},a=.s j->as[q']?=some (.s j)->False:=fun{q'} ea eq'=>by
   subst ea;unfold zeG at d;rw [Bool.and_eq_true,ej]at d;have d1:=d.1;dsimp only at d1;rw [ou]at d1;have m:(as.any fun a=>match a with | .s k=>decide (k=j) | _=>false)=true:=List.any_eq_true.mpr ⟨.s j,List.mem_of_getElem? eq',by simp⟩;rw [m]at d1;cases d1
  cases p with
  | zero =>
   cases q with
   | zero=>rfl
   | succ q=>exact(nope (qy ep) eq).elim
  | succ p =>
   cases q with
   | zero=>exact(nope (qy eq) ep).elim
   | succ q=>exact congrArg (·+1) (zoU dd ep eq ej ou)
theorem zbZ{us:List U}{i:Nat}{u:U}:(sm us)[i]?=some (some u)↔us[i]?=some u:=by
 unfold sm;rw [List.getElem?_map];cases us[i]?<;>simp
theorem zha{vs:List V}{i:Nat}{v:V}:(smV vs)[i]?=some (some v)↔vs[i]?=some v:=by
 unfold smV;rw [List.getElem?_map];cases vs[i]?<;>simp
theorem zoV:∀ {as:List Ar} {os:List U} {ρ:En} {j:Nat} {w:U},(wb ρ as os)[j]?=some (some w)->as.length=os.length->(∃ p:Nat,as[p]?=some (Ar.s j)/\os[p]?=some w)\/(ρ[j]?=some (some w)/\∀ p:Nat,as[p]?≠some (Ar.s j))
 | [],os,ρ,j,w,e,_=>.inr ⟨by cases os<;>exact e,fun p z=>by simp at z⟩
 | a::as,[],ρ,j,w,e,l=>by simp at l
 | .u x::as,o::os,ρ,j,w,e,l=>by
  rcases zoV (as:=as) (os:=os) (ρ:=ρ) (show(wb ρ as os)[j]?=some (some w) from e) (by simpa using l)with ⟨p,h1,h2⟩ | ⟨h1,h2⟩
  ·exact .inl ⟨p+1,h1,h2⟩
  ·refine .inr ⟨h1,fun p z=>?_⟩
   cases p with
   | zero=>cases(show some (Ar.u x)=some (.s j) from z)
   | succ p=>exact h2 p z
 | .s k::as,o::os,ρ,j,w,e,l=>by
  rcases zoV (as:=as) (os:=os) (ρ:=ρ.set k (some o)) (show(wb (ρ.set k (some o)) as os)[j]?=some (some w) from e) (by simpa using l)with ⟨p,h1,h2⟩ | ⟨h1,h2⟩
  ·exact .inl ⟨p+1,h1,h2⟩
  ·by_cases hk:k=j
   ·subst hk
    have hl:k < (ρ.set k (some o)).length:=(qm.mp h1).1;rw [List.length_set]at hl;rw [List.getElem?_set_self hl]at h1;exact .inl ⟨0,rfl,by cases h1; rfl⟩
   ·rw [qD hk]at h1
    refine .inr ⟨h1,fun p z=>?_⟩;cases p with
    | zero=>cases(show some (Ar.s k)=some (.s j) from z); exact hk rfl
    | succ p=>exact h2 p z
theorem zle:∀ (ρ:En) (as:List Ar) (os:List U),(wb ρ as os).length=ρ.length
 | ρ,[],os=>by cases os<;>rfl
 | ρ,.s k::as,[]=>rfl
 | ρ,.u k::as,[]=>rfl
 | ρ,.s k::as,o::os=>by show(wb (ρ.set k (some o)) as os).length=_; rw [zle]; exact List.length_set
 | ρ,.u k::as,o::os=>zle ρ as os
theorem zid:∀ {as:List Ar} {os:List U} {ρ:En} {j:Nat} {w:U},ρ[j]?=some (some w)->∃ w',(wb ρ as os)[j]?=some (some w')
 | [],os,ρ,j,w,e=>⟨w,by cases os<;>exact e⟩
 | .s k::as,[],ρ,j,w,e=>⟨w,e⟩
 | .u k::as,[],ρ,j,w,e=>⟨w,e⟩
 | .u k::as,o::os,ρ,j,w,e=>zid (as:=as) (os:=os) e
 | .s k::as,o::os,ρ,j,w,e=>by
  by_cases hk:k=j
  ·subst hk
   exact zid (as:=as) (os:=os) (w:=o) (List.getElem?_set_self (qm.mp e).1)
  ·exact zid (as:=as) (os:=os) (w:=w) (by rw [qD hk]; exact e)
theorem zyD{as:List Ar}{us:List U}{vs:List V}{ρ1:En}{H1:Hp}(rs:Rs K ρ σ H)(g1:Go K ρ σ H ρ1 H1)(s1:ArS K ρ1 σ H H1 vs as)(dj:zeG ρ1 as=true)(eu:zbd ρ1 as=some us) :
  Rs K (sm us) (smV vs) H1/\∀ (outs:List U) (H2:Hp),Go K (sm us) (smV vs) H1 (sm outs) H2->Go K ρ σ H (wb ρ1 as outs) H2:=by
 have rp:=s1.rpl rs g1 eu;have lus:=zgr eu;have lvs:=s1.len;have adr:∀ (i:Nat) (u:U),us[i]?=some u->u.own=true->∃ b,vs[i]?=some (.ref b)/\((∃ j,as[i]?=some (.s j)/\σ[j]?=some (some (.ref b))/\ρ1[j]?=some (some u))\/(as[i]?=some (.u u)/\H b=none)):=fun i u ei ou=>by
  obtain⟨a,ea,eg⟩:=ziW eu ei;obtain⟨v,ev,k⟩:=s1.ar i a ea;have p:=k.now rs g1 eg;obtain⟨b,rfl⟩:=p.own_ref ou;refine⟨b,ev,?_⟩;cases a with
  | s j=>exact .inl ⟨j,ea,k.1,zwt eg⟩
  | u x =>
   cases(show some x=some u from eg);obtain⟨b',eb,hb⟩:=k.2 ou;cases eb;exact .inr ⟨ea,hb⟩
 have apart:∀ (i j:Nat) (u w:U),us[i]?=some u->us[j]?=some w->u.own=true->w.own=true->vs[i]?=vs[j]?->i=j:=fun i j u w ei ej ou ow ev=>by
  obtain⟨b,vb,hb⟩:=adr i u ei ou;obtain⟨c,vc,hc⟩:=adr j w ej ow;have bc:b=c:=by rw [vb,vc]at ev; cases ev; rfl
  subst bc;rcases hb with ⟨x,ax,sx,rx⟩ | ⟨ax,nx⟩
  ·rcases hc with ⟨y,ay,sy,ry⟩ | ⟨ay,ny⟩
   ·have xy:x=y:=g1.rs.apart x y u w rx ry ou ow (by rw [sx,sy])
    subst xy;exact zoU dj ax ay rx ou
   ·exfalso
    obtain⟨w',ew',ow'⟩:=g1.shr.own x u rx ou;obtain⟨c',hc',_⟩:=rs.ow ⟨x,w',ew',ow',sx⟩;rw [ny]at hc';cases hc'
  ·rcases hc with ⟨y,ay,sy,ry⟩ | ⟨ay,ny⟩
   ·exfalso
    obtain⟨w',ew',ow'⟩:=g1.shr.own y w ry ow;obtain⟨c',hc',_⟩:=rs.ow ⟨y,w',ew',ow',sy⟩;rw [nx]at hc';cases hc'
   ·exact s1.ap i j u w ax ay ou ow ev
 have rsA:Rs K (sm us) (smV vs) H1:=by
  refine⟨by unfold sm smV; rw [List.length_map,List.length_map]; omega,fun i u ei=>?_,fun i j u w ei ej ou ow ev=>?_⟩
  ·have ei':=zbZ.mp ei
   obtain⟨a,ea,eg⟩:=ziW eu ei';obtain⟨v,ev,k⟩:=s1.ar i a ea;exact⟨v,zha.mpr ev,k.now rs g1 eg⟩
  ·have ei':=zbZ.mp ei
   have ej':=zbZ.mp ej;refine apart i j u w ei' ej' ou ow ?_;obtain⟨b,vb,_⟩:=adr i u ei' ou;obtain⟨c,vc,_⟩:=adr j w ej' ow;rw [zha.mpr vb,zha.mpr vc]at ev;rw [vb,vc];exact qy ev
 refine⟨rsA,fun outs H2 g2=>?_⟩;have lo:outs.length=us.length:=by have:=g2.shr.len; unfold sm at this; simpa using this
 have kp2:=g2.kp rsA;have owA:∀ b,Ow (sm us) (smV vs) b->Ow ρ1 σ b\/H b=none:=fun b ⟨i,u,ei,ou,es⟩=>by
  obtain⟨c,vc,hc⟩:=adr i u (zbZ.mp ei) ou;rw [zha.mp es]at vc;cases vc;rcases hc with ⟨j,_,sj,rj⟩ | ⟨_,nb⟩
  ·exact .inl ⟨j,u,rj,ou,sj⟩
  ·exact .inr nb
 have outsAt:∀ (i:Nat) (w:U),outs[i]?=some w->∃ x,vs[i]?=some x/\Rp K H2 x w:=fun i w ei=>by
  obtain⟨x,ex,px⟩:=g2.rs.rep i w (zbZ.mpr ei);exact⟨x,zha.mp ex,px⟩
 have lao:as.length=outs.length:=by omega
 have ownBack:∀ (j:Nat) (w:U),(wb ρ1 as outs)[j]?=some (some w)->w.own=true->∃ w',ρ1[j]?=some (some w')/\w'.own=true:=fun j w ej ow=>by
  rcases zoV ej lao with ⟨p,ap,op⟩ | ⟨h1,_⟩
  ·obtain⟨w',ew',ow'⟩:=g2.shr.own p w (zbZ.mpr op) ow
   obtain⟨a,ea,eg⟩:=ziW eu (zbZ.mp ew');rw [ap]at ea;cases ea;exact⟨w',zwt eg,ow'⟩
  ·exact⟨w,h1,ow⟩
 refine⟨⟨by rw [zle]; exact g1.rs.len,fun j w ej=>?_,fun i j u w ei ej ou ow es=>?_⟩,fun b ob hb nb=>?_,?_,fun b hb=>g1.dm b (g2.dm b hb)⟩
 ·rcases zoV ej lao with ⟨p,ap,op⟩ | ⟨h1,h2⟩
  ·obtain⟨x,vx,px⟩:=outsAt p w op
   obtain⟨v',ev',k'⟩:=s1.ar p _ ap;rw [vx]at ev';cases ev';exact⟨x,k'.1,px⟩
  ·obtain⟨x,ex,px⟩:=g1.rs.rep j w h1
   refine⟨x,ex,px.kp kp2 fun ow b c eb hb=>?_⟩;refine g2.fr b c hb fun⟨i,u,ei,ou,es⟩=>?_;obtain⟨c',vc',hc'⟩:=adr i u (zbZ.mp ei) ou;rw [zha.mp es]at vc';cases vc';subst eb;rcases hc' with ⟨k,ak,sk,rk⟩ | ⟨_,nb⟩
   ·have:k=j:=g1.rs.apart k j u w rk h1 ou ow (by rw [sk,ex])
    subst this;exact h2 i ak
   ·obtain⟨w',ew',ow'⟩:=g1.shr.own j w h1 ow
    obtain⟨c'',hc'',_⟩:=rs.ow ⟨j,w',ew',ow',ex⟩;rw [nb]at hc'';cases hc''
 ·obtain⟨x,ex,ox⟩:=ownBack i u ei ou
  obtain⟨y,ey,oy⟩:=ownBack j w ej ow;exact g1.rs.apart i j x y ex ey ox oy es
 ·refine g2.fr b ob (g1.fr b ob hb nb) fun z=>?_
  rcases owA b z with z | z
  ·exact nb (g1.shr.ow z)
  ·rw [z]at hb; cases hb
 ·refine⟨by rw [zle]; exact g1.shr.len,fun j w ej ow=>?_,fun j w ej=>?_⟩
  ·obtain⟨x,ex,ox⟩:=ownBack j w ej ow
   exact g1.shr.own j x ex ox
  ·obtain⟨x,ex⟩:=g1.shr.live j w ej
   exact zid ex
theorem zz6:∀ ρ as ρ',zq ρ=some (as,ρ')->as.length=0:=fun ρ as ρ' e=>by cases e; rfl
theorem zyE{n:Nat}{me:ME}{ma:MA}(h:∀ ρ as ρ',ma ρ=some (as,ρ')->as.length=n):∀ ρ as ρ',zf me ma ρ=some (as,ρ')->as.length=n+1:=fun ρ as ρ' e=>by
 obtain⟨⟨a1,ρ1⟩,e1,e⟩:=bQ e;obtain⟨⟨as2,ρ2⟩,e2,e⟩:=bQ e;cases e;simp [h _ _ _ e2]
theorem zy{f:FD}{t:TA}{m:MA}(n:Nat)(h:VAs K t m)(hn:∀ ρ as ρ',m ρ=some (as,ρ')->as.length=n:=by repeat (first | exact zz6 | refine zyE ?_)):VE K (zyt (spV K n f) t) (zN f m):=by
 intro ρ σ H a ρ' Q rs e q;obtain⟨⟨as,ρ1⟩,e1,e⟩:=bQ e;dsimp only at e;split at e
 ·rename_i dj
  obtain⟨us,eu,e⟩:=bQ e;obtain⟨⟨r,outs⟩,ef,e⟩:=bQ e;cases e;refine h ρ σ H as ρ1 _ rs e1 fun vs H1 g1 s1=>?_;obtain⟨rsA,back⟩:=zyD rs g1 s1 dj eu;exact⟨us,r,outs,by rw [zgr eu]; exact hn _ _ _ e1,rsA,ef,fun v H2 g2 p n2=>q v H2 (back outs H2 g2) ⟨p,n2.mono g1.dm⟩⟩
 ·cases e
end
inductive Fl where
 | nx (ρ:En) | bk (ρ:En) | ct (ρ:En) | rt (u:U) (ρ:En) | ex (x:D) (ρ:En)
def zz7(K:qe)(H:Hp)(a:Addr)(x:D):Prop:=∃ n C fs ds,x=.dict ((.none,.str n)::ds)/\zyw H a C fs/\XN K n C/\DFf K H fs ds
structure Sn (K:qe) (pn:List Nat) (σ₀:St) (A:Addr->Prop) (H₀ H₁:Hp) (ρ:En) (σ:St) (H:Hp):Prop where
 rs:Rs K ρ σ H
 fr:Fr' A H₀ H
 ow:∀ (i:Nat) (u:U) (a:Addr),ρ[i]?=some (some u)->u.own=true->σ[i]?=some (some (.ref a))->(i∈pn/\A a)\/H₀ a=none
 pin:∀ i∈pn,σ[i]?=σ₀[i]?
 dm:∀ a,H a=none->H₀ a=none
 kp:Kp H₁ H
def EX0:EXT:=fun _ _ _=>False
def zBl(K:qe)(pn:List Nat)(EX:EXT)(σ₀:St)(A:Addr->Prop)(H₀ H₁:Hp)(D:Ends):Fl->Prop
 | .nx ρ=>∀ σ H,Sn K pn σ₀ A H₀ H₁ ρ σ H->D.nx σ H
 | .bk ρ=>∀ σ H,Sn K pn σ₀ A H₀ H₁ ρ σ H->D.bk σ H
 | .ct ρ=>∀ σ H,Sn K pn σ₀ A H₀ H₁ ρ σ H->D.ct σ H
 | .rt u ρ=>∀ v σ H,Sn K pn σ₀ A H₀ H₁ ρ σ H->Rp K H v u->Nw H₀ v u->D.rt v H
 | .ex x ρ=>∀ a σ H,Sn K pn σ₀ A H₀ H₁ ρ σ H->H₀ a=none->zz7 K H a x->EX σ a H
abbrev MS:=En->Option Fl
def VS(K:qe)(pn:List Nat)(EX:EXT)(t:TS)(m:MS):Prop :=
 ∀ (σ₀:St) (A:Addr->Prop) (H₀ H₁:Hp) (ρ:En) (σ:St) (H:Hp) (f:Fl) (D:Ends),Sn K pn σ₀ A H₀ H₁ ρ σ H->m ρ=some f->zBl K pn EX σ₀ A H₀ H₁ D f->t D σ H
section
variable {EX:EXT} {K:qe} {pn:List Nat} {σ₀:St} {A:Addr->Prop} {H₀ H₁ H₂:Hp} {ρ ρ':En} {σ:St} {H H':Hp}
theorem Sn.go(s:Sn K pn σ₀ A H₀ H₁ ρ σ H)(g:Go K ρ σ H ρ' H'):Sn K pn σ₀ A H₀ H₁ ρ' σ H':=by
 refine⟨g.rs,fun a o h n=>g.fr a o (s.fr a o h n) fun⟨i,u,e,ou,es⟩=>?_,fun i u a e o es=>?_,s.pin,fun a h=>s.dm a (g.dm a h),s.kp.trans (g.kp s.rs)⟩
 ·rcases s.ow i u a e ou es with z | z
  ·exact n z.2
  ·rw [z]at h; cases h
 ·obtain⟨w,e',o'⟩:=g.shr.own i u e o
  exact s.ow i w a e' o' es
theorem Sn.re(s:Sn K pn σ₀ A H₀ H₂ ρ σ H)(k:Kp H₁ H₂):Sn K pn σ₀ A H₀ H₁ ρ σ H:=⟨s.rs,s.fr,s.ow,s.pin,s.dm,k.trans s.kp⟩
theorem Sn.at(s:Sn K pn σ₀ A H₀ H₁ ρ σ H):Sn K pn σ₀ A H₀ H ρ σ H:=⟨s.rs,s.fr,s.ow,s.pin,s.dm,Kp.refl H⟩
theorem Sn.set{i:Nat}{v:V}{u:U}(s:Sn K pn σ₀ A H₀ H₁ ρ σ H)(hi:i∉pn)(p:Rp K H v u)(n:u.own=true->∃ a,v=.ref a/\H₀ a=none/\¬Ow ρ σ a):Sn K pn σ₀ A H₀ H₁ (ρ.set i (some u)) (σ.set i (some v)) H:=by
 have ll:=s.rs.len;have inv:∀ (j:Nat) (w:U),(ρ.set i (some u))[j]?=some (some w)->(j=i/\w=u/\i < ρ.length)\/(j≠i/\ρ[j]?=some (some w)):=fun j w e=>by
  by_cases hj:i=j
  ·subst hj
   have hl:=(qm.mp e).1;rw [List.length_set]at hl;rw [List.getElem?_set_self hl]at e;cases e;exact .inl ⟨rfl,rfl,hl⟩
  ·rw [qD hj]at e
   exact .inr ⟨Ne.symm hj,e⟩
 have sat:∀ j,j≠i->(σ.set i (some v))[j]?=σ[j]?:=fun j h=>qD (Ne.symm h);have sself:i < ρ.length->(σ.set i (some v))[i]?=some (some v):=fun h=>List.getElem?_set_self (by omega);refine⟨⟨by rw [List.length_set,List.length_set]; exact ll,fun j w e=>?_,fun j k x y ej ek ox oy es=>?_⟩,s.fr,fun j w a e o es=>?_,fun j hj=>?_,s.dm,s.kp⟩
 ·rcases inv j w e with ⟨rfl,rfl,hl⟩ | ⟨hj,e'⟩
  ·exact⟨v,sself hl,p⟩
  ·rw [sat j hj]
   exact s.rs.rep j w e'
 ·rcases inv j x ej with ⟨rfl,rfl,hl⟩ | ⟨hj,ej'⟩
  ·rcases inv k y ek with ⟨rfl,rfl,_⟩ | ⟨hk,ek'⟩
   ·rfl
   ·exfalso
    obtain⟨a,rfl,_,na⟩:=n ox;rw [sself hl,sat k hk]at es;exact na ⟨k,y,ek',oy,es.symm⟩
  ·rcases inv k y ek with ⟨rfl,rfl,hl⟩ | ⟨hk,ek'⟩
   ·exfalso
    obtain⟨a,rfl,_,na⟩:=n oy;rw [sself hl,sat j hj]at es;exact na ⟨j,x,ej',ox,es⟩
   ·rw [sat j hj,sat k hk]at es
    exact s.rs.apart j k x y ej' ek' ox oy es
 ·rcases inv j w e with ⟨rfl,rfl,hl⟩ | ⟨hj,e'⟩
  ·rw [sself hl]at es
   cases es;obtain⟨b,eb,hb,_⟩:=n o;cases eb;exact .inr hb
  ·rw [sat j hj]at es
   exact s.ow j w a e' o es
 ·rw [sat j (fun z=>hi (z▸hj))]
  exact s.pin j hj
theorem zjO.own{a:Ar}{v:V}{u:U}(r:Rs K ρ σ H)(g:Go K ρ σ H ρ' H')(k:zjO K ρ' σ H H' v a)(e:a.get ρ'=some u)(nc:∀ j,a=.s j->u.own=false):Nw H v u/\(u.own=true->∃ b,v=.ref b/\¬Ow ρ' σ b):=by
 cases a with
 | s j=>exact⟨(fun o=>by rw [nc j rfl]at o; cases o),fun o=>by rw [nc j rfl]at o; cases o⟩
 | u x =>
  cases(show some x=some u from e);exact⟨k.2,k.2.out' r g⟩
def put(p:Ar×En):Option (U×En):=match p.1 with
 | .s i=>match p.2[i]? with
  | some (some (.d x))=>some (.d x,p.2)
  | _=>none
 | .u u=>some (u,p.2)
theorem zrY{a:Ar}{u:U}{ρ1 ρ2:En}(e:put (a,ρ1)=some (u,ρ2)):ρ2=ρ1/\a.get ρ1=some u/\∀ j,a=.s j->u.own=false:=by
 cases a with
 | s i =>
  unfold put at e;dsimp only at e;split at e
  ·rename_i x ex
   cases e;refine⟨rfl,?_,fun _ _=>rfl⟩;show(ρ1[i]?).join=_;rw [ex];rfl
  ·cases e
 | u x =>
  cases e;exact⟨rfl,rfl,fun j z=>by cases z⟩
def zZ(i:Nat)(me:ME):MS:=fun ρ=>(me ρ).bind fun p=>(put p).bind fun q=>some (.nx (q.2.set i (some q.1)))
theorem zH{i:Nat}{te:TE}{me:ME}(h:VE K te me)(hi:i∉pn:=by decide):VS K pn EX (zkN te (zdI i)) (zZ i me):=by
 intro σ₀ A H₀ H₁ ρ σ H f D s e k;obtain⟨⟨a,ρ1⟩,e1,e⟩:=bQ e;obtain⟨⟨u,ρ2⟩,e2,e3⟩:=bQ e;clear e;obtain⟨rfl,eg,nc⟩:=zrY e2;cases e3;refine h ρ σ H a ρ2 _ s.rs e1 fun v H1 g1 k1=>?_;obtain⟨n1,n2⟩:=k1.own s.rs g1 eg nc;have s1:=s.go g1;refine k _ _ (s1.set hi (k1.now s.rs g1 eg) fun o=>?_);obtain⟨b,rfl,hb⟩:=n2 o;obtain⟨b',eb,hb'⟩:=n1 o;cases eb;exact⟨b,rfl,s.dm b hb',hb⟩
def zA(m1 m2:MS):MS:=fun ρ=>(m1 ρ).bind fun f=>match f with
 | .nx ρ'=>m2 ρ'
 | f=>some f
theorem zr{t1 t2:TS}{m1 m2:MS}(h1:VS K pn EX t1 m1)(h2:VS K pn EX t2 m2):VS K pn EX (zq2 t1 t2) (zA m1 m2):=by
 intro σ₀ A H₀ H₁ ρ σ H f D s e k;obtain⟨f1,e1,e⟩:=bQ e;refine h1 σ₀ A H₀ H₁ ρ σ H f1 _ s e1 ?_;cases f1 with
 | nx ρ1=>exact fun σ1 H1 s1=>h2 σ₀ A H₀ H₁ ρ1 σ1 H1 f D s1 e k
 | bk ρ1=>cases e; exact k
 | ct ρ1=>cases e; exact k
 | rt u ρ1=>cases e; exact k
 | ex x ρ1=>cases e; exact k
def zap:MS:=fun ρ=>some (.nx ρ)
theorem zae:VS K pn EX zq1 zap:=fun σ₀ A H₀ H₁ ρ σ H f D s e k=>by cases e; exact k σ H s
theorem zyF:VS K pn EX zq3 (fun ρ=>some (.ct ρ)):=fun σ₀ A H₀ H₁ ρ σ H f D s e k=>by cases e; exact k σ H s
def zay(mt:MT)(m1 m2:MS):MS:=fun ρ=>(mt ρ).bind fun p=>if p.1=true then m1 p.2 else m2 p.2
theorem zaf{tt:TT}{t1 t2:TS}{mt:MT}{m1 m2:MS}(ht:VT K tt mt)(h1:VS K pn EX t1 m1)(h2:VS K pn EX t2 m2):VS K pn EX (zxS tt t1 t2) (zay mt m1 m2):=by
 intro σ₀ A H₀ H₁ ρ σ H f D s e k;obtain⟨⟨c,ρ1⟩,e1,e⟩:=bQ e;refine ht ρ σ H c ρ1 _ s.rs e1 fun H1 g1=>?_;dsimp only at e;split at e
 ·rename_i hc
  rw [if_pos hc];exact h1 σ₀ A H₀ H₁ ρ1 σ H1 f D (s.go g1) e k
 ·rename_i hc
  rw [if_neg hc];exact h2 σ₀ A H₀ H₁ ρ1 σ H1 f D (s.go g1) e k
theorem ziX{t:TS}{m:MS}(h:VS K pn EX t m):VS K pn EX (zrC t) m:=by
 intro σ₀ A H₀ H₁ ρ σ H f D s e k;cases f with
 | nx ρ1=>exact⟨fun σ' H'=>Sn K pn σ₀ A H₀ H₁ ρ1 σ' H',h σ₀ A H₀ H₁ ρ σ H _ _ s e (fun σ' H' s'=>s'),fun σ' H' s'=>k σ' H' s'⟩
 | bk ρ1=>exact⟨D.nx,h σ₀ A H₀ H₁ ρ σ H _ _ s e k,fun _ _ z=>z⟩
 | ct ρ1=>exact⟨D.nx,h σ₀ A H₀ H₁ ρ σ H _ _ s e k,fun _ _ z=>z⟩
 | rt u ρ1=>exact⟨D.nx,h σ₀ A H₀ H₁ ρ σ H _ _ s e k,fun _ _ z=>z⟩
 | ex x ρ1=>exact⟨D.nx,h σ₀ A H₀ H₁ ρ σ H _ _ s e k,fun _ _ z=>z⟩
def zaP(me:ME):MS:=fun ρ=>(me ρ).bind fun p=>some (.nx p.2)
theorem zaG{te:TE}{me:ME}(h:VE K te me):VS K pn EX (zq4 te) (zaP me):=by
 intro σ₀ A H₀ H₁ ρ σ H f D s e k;obtain⟨⟨a,ρ1⟩,e1,e⟩:=bQ e;cases e;exact h ρ σ H a _ _ s.rs e1 fun v H1 g1 k1=>k σ H1 (s.go g1)
def zak(me:ME):MS:=fun ρ=>(me ρ).bind fun p=>(put p).bind fun q=>some (.rt q.1 q.2)
theorem zU{te:TE}{me:ME}(h:VE K te me):VS K pn EX (zux te) (zak me):=by
 intro σ₀ A H₀ H₁ ρ σ H f D s e k;obtain⟨⟨a,ρ1⟩,e1,e⟩:=bQ e;obtain⟨⟨u,ρ2⟩,e2,e3⟩:=bQ e;clear e;obtain⟨rfl,eg,nc⟩:=zrY e2;cases e3;refine h ρ σ H a _ _ s.rs e1 fun v H1 g1 k1=>?_;obtain⟨n1,n2⟩:=k1.own s.rs g1 eg nc;exact k v σ H1 (s.go g1) (k1.now s.rs g1 eg) (n1.mono s.dm)
def zdM(pn:List Nat)(i:Nat):MS:=fun ρ=>if i∈pn then none else(match ρ[i]? with
 | some (some u)=>some (.rt u (ρ.set i none))
 | _=>none)
theorem zeH{i:Nat}:VS K pn EX (zux (zes i)) (zdM pn i):=by
 intro σ₀ A H₀ H₁ ρ σ H f D s e k;unfold zdM at e;split at e
 ·cases e
 rename_i hi;split at e
 ·rename_i u eu
  cases e;obtain⟨v,ev,p⟩:=s.rs.rep i u eu;have back:∀ (j:Nat) (w:U),(ρ.set i none)[j]?=some (some w)->ρ[j]?=some (some w):=fun j w e=>by
   by_cases hj:i=j
   ·subst hj
    have hl:=(qm.mp e).1;rw [List.length_set]at hl;rw [List.getElem?_set_self hl]at e;cases e
   ·rw [qD hj]at e
    exact e
  refine⟨v,ev,k v σ H ⟨⟨by rw [List.length_set]; exact s.rs.len,fun j w e=>s.rs.rep j w (back j w e),fun a b x y ea eb=>s.rs.apart a b x y (back a x ea) (back b y eb)⟩,s.fr,fun j w a e=>s.ow j w a (back j w e),s.pin,s.dm,s.kp⟩ p fun o=>?_⟩;obtain⟨a,rfl⟩:=p.own_ref o;rcases s.ow i u a eu o ev with z | z
  ·exact absurd z.1 hi
  ·exact⟨a,rfl,z⟩
 ·cases e
end
section
variable {EX:EXT} {K:qe} {pn:List Nat} {σ₀:St} {A:Addr->Prop} {H₀ H₁ H₂:Hp} {ρ ρ':En} {σ:St} {H H':Hp}
def zrZ(K:qe)(J:It)(H₁:Hp)(ds:List D):Prop:=∀ H,Kp H₁ H->∀ i:Nat,(∀ d,ds[i]?=some d->J.go i H/\∀ x H',J.yld i H x H'->zbN H H'/\DF K H' x d)/\(i=ds.length->J.stop i H)
abbrev MI:=En->Option (List D×En)
def VI(K:qe)(wi:TI)(mi:MI):Prop :=
 ∀ (ρ:En) (σ:St) (H:Hp) (ds:List D) (ρ':En) (R:It->Hp->Prop),Rs K ρ σ H->mi ρ=some (ds,ρ')->(∀ J H',Go K ρ σ H ρ' H'->zrZ K J H' ds->R J H')->wi σ H R
def zqv:U->Option (List D)
 | .d (.list xs)=>some xs
 | _=>none
def zgs:U->Option (List D)
 | .d (.tuple xs)=>some xs
 | _=>none
def mIt(f:U->Option (List D))(me:ME):MI:=fun ρ=>(me ρ).bind fun p=>(p.1.get p.2).bind fun u=>(f u).bind fun ds=>some (ds,p.2)
theorem zvc{te:TE}{me:ME}(h:VE K te me):VI K (zoC K te) (mIt zqv me):=by
 intro ρ σ H ds ρ' R r e q;obtain⟨⟨a,ρ1⟩,e1,e⟩:=bQ e;obtain⟨u,eu,e⟩:=bQ e;obtain⟨xs,ex,e⟩:=bQ e;cases e;refine h ρ σ H a _ _ r e1 fun v H1 g1 k1=>?_;have p:=k1.now r g1 eu;unfold zqv at ex;split at ex
 ·cases ex
  obtain⟨b,ys,rfl,h1,h2⟩:=DF.lst_inv p;refine⟨b,rfl,⟨ys,h1.sq⟩,q _ _ g1 fun H2 k i=>⟨fun d ed=>?_,fun ei=>?_⟩⟩
  ·obtain⟨v,ev,dv⟩:=(h2.kp k).get ed
   refine⟨⟨ys,v,(h1.kp k).sq,ev⟩,fun x H' y=>?_⟩;obtain⟨rfl,y⟩:=y;have:=y ys (h1.kp k).sq;rw [ev]at this;cases this;exact⟨fun _ _ z=>z,dv⟩
  ·exact⟨ys,(h1.kp k).sq,by rw [h2.len]; omega⟩
 ·cases ex
theorem zdA{te:TE}{me:ME}(h:VE K te me):VI K (zx1 K te) (mIt zgs me):=by
 intro ρ σ H ds ρ' R r e q;obtain⟨⟨a,ρ1⟩,e1,e⟩:=bQ e;obtain⟨u,eu,e⟩:=bQ e;obtain⟨xs,ex,e⟩:=bQ e;cases e;refine h ρ σ H a _ _ r e1 fun v H1 g1 k1=>?_;have p:=k1.now r g1 eu;unfold zgs at ex;split at ex
 ·cases ex
  obtain⟨b,ys,rfl,h1,h2⟩:=DF.tup_inv p;refine⟨b,rfl,⟨ys,(TpK.sq h1)⟩,q _ _ g1 fun H2 k i=>⟨fun d ed=>?_,fun ei=>?_⟩⟩
  ·obtain⟨v,ev,dv⟩:=(h2.kp k).get ed
   refine⟨⟨ys,v,(TpK.kp k h1).sq,ev⟩,fun x H' y=>?_⟩;obtain⟨rfl,y⟩:=y;have:=y ys ((TpK.kp k h1).sq);rw [ev]at this;cases this;exact⟨fun _ _ z=>z,dv⟩
  ·exact⟨ys,(TpK.kp k h1).sq,by rw [h2.len]; omega⟩
 ·cases ex
def zbf(lo:Int)(n:Nat):List D:=(List.range n).map fun i=>.int (lo+(i:Nat))
theorem zf8(lo:Int)(n:Nat):(zbf lo n).length=n:=by simp [zbf]
theorem zhb{lo:Int}{n i:Nat}{d:D}(h:(zbf lo n)[i]?=some d):i < n/\d=.int (lo+(i:Nat)):=by
 have hl:=(qm.mp h).1;rw [zf8]at hl;refine⟨hl,?_⟩;unfold zbf at h;rw [List.getElem?_map,List.getElem?_range hl]at h;cases h;rfl
theorem ziY{lo:Int}{n:Nat}:zrZ K (Itr lo n) H₁ (zbf lo n):=fun H k i=>⟨fun d ed=>by
  obtain⟨hi,rfl⟩:=zhb ed;refine⟨hi,fun x H' y=>?_⟩;obtain⟨rfl,rfl⟩:=y;exact⟨fun _ _ z=>z,.int _⟩,fun ei=>by rw [zf8]at ei; exact Nat.le_of_eq ei.symm⟩
def zhu(ma:MA):MI:=fun ρ=>(ma ρ).bind fun p=>(zbd p.2 p.1).bind fun us=>match us with
 | [.d (.int j)]=>if -(2^62)<=j/\j < 2^62 then some (zbf 0 j.toNat,p.2)else none
 | _=>none
def zoW(ma:MA):MI:=fun ρ=>(ma ρ).bind fun p=>(zbd p.2 p.1).bind fun us=>match us with
 | [.d (.int i),.d (.int j)]=>if -(2^62)<=i/\i < 2^62/\-(2^62)<=j/\j < 2^62 then some (zbf i (j - i).toNat,p.2)else none
 | _=>none
theorem zgt{ta:TA}{ma:MA}(h:VAs K ta ma):VI K (zq7 ta) (zhu ma):=by
 intro ρ σ H ds ρ' R r e q;obtain⟨⟨as,ρ1⟩,e1,e⟩:=bQ e;obtain⟨us,eu,e⟩:=bQ e;refine h ρ σ H as ρ1 _ r e1 fun vs H1 g1 s1=>?_;have rp:=s1.rpl r g1 eu;dsimp only at e;split at e
 ·split at e
  ·rename_i j hc
   cases e;cases rp with
   | cons h1 t =>
    cases t;cases DF.int_inv h1;exact⟨j,rfl,hc.1,hc.2,q _ _ g1 ziY⟩
  ·cases e
 ·cases e
theorem zvd{ta:TA}{ma:MA}(h:VAs K ta ma):VI K (zq8 ta) (zoW ma):=by
 intro ρ σ H ds ρ' R r e q;obtain⟨⟨as,ρ1⟩,e1,e⟩:=bQ e;obtain⟨us,eu,e⟩:=bQ e;refine h ρ σ H as ρ1 _ r e1 fun vs H1 g1 s1=>?_;have rp:=s1.rpl r g1 eu;dsimp only at e;split at e
 ·split at e
  ·rename_i i j hc
   cases e;cases rp with
   | cons h1 t =>
    cases t with
    | cons h2 t =>
     cases t;cases DF.int_inv h1;cases DF.int_inv h2;exact⟨i,j,rfl,hc,q _ _ g1 ziY⟩
  ·cases e
 ·cases e
abbrev MG:=D->En->Option En
def zBm(pn:List Nat)(mg:MG):Prop:=∀ d ρ ρ',mg d ρ=some ρ'->ρ'.length=ρ.length/\∀ i∈pn,ρ'[i]?=ρ[i]?
def zz8(pn:List Nat)(mg:List D->En->Option En):Prop:=∀ ds ρ ρ',mg ds ρ=some ρ'->ρ'.length=ρ.length/\∀ i∈pn,ρ'[i]?=ρ[i]?
structure VGt (K:qe) (pn:List Nat) (g:TG) (mg:MG):Prop where
 run:∀ (σ₀:St) (A:Addr->Prop) (H₀ H₁:Hp) (ρ:En) (σ:St) (H:Hp) (v:V) (d:D) (ρ':En) (Q:St->Hp->Prop),Sn K pn σ₀ A H₀ H₁ ρ σ H->DF K H v d->mg d ρ=some ρ'->(∀ σ',Sn K pn σ₀ A H₀ H₁ ρ' σ' H->Q σ' H)->g v σ H Q
 ok:zBm pn mg
structure VGs (K:qe) (pn:List Nat) (g:TGs) (mg:List D->En->Option En):Prop where
 run:∀ (σ₀:St) (A:Addr->Prop) (H₀ H₁:Hp) (ρ:En) (σ:St) (H:Hp) (vs:List V) (ds:List D) (ρ':En) (Q:St->Hp->Prop),Sn K pn σ₀ A H₀ H₁ ρ σ H->DFs K H vs ds->mg ds ρ=some ρ'->(∀ σ',Sn K pn σ₀ A H₀ H₁ ρ' σ' H->Q σ' H)->g vs σ H Q
 ok:zz8 pn mg
def zB(i:Nat):MG:=fun d ρ=>some (ρ.set i (some (.d d)))
theorem zv{i:Nat}(hi:i∉pn:=by decide):VGt K pn (zdI i) (zB i) where
 run:=by
  intro σ₀ A H₀ H₁ ρ σ H v d ρ' Q s h e q;cases e;exact q _ (s.set hi (u:=.d d) h fun o=>by cases o)
 ok:=fun d ρ ρ' e=>by
  cases e;exact⟨List.length_set,fun j hj=>qD (by rintro rfl; exact hi hj)⟩
def zbG:List D->En->Option En:=fun ds ρ=>match ds with | []=>some ρ | _=>none
def zY(g:MG)(gs:List D->En->Option En):List D->En->Option En:=fun ds ρ=>match ds with
 | d::ds=>(g d ρ).bind fun ρ1=>gs ds ρ1
 | []=>none
theorem zbg:VGs K pn zuA zbG where
 run:=by
  intro σ₀ A H₀ H₁ ρ σ H vs ds ρ' Q s h e q;cases h with
  | nil=>cases e; exact⟨rfl,q σ s⟩
  | cons=>cases e
 ok:=fun ds ρ ρ' e=>by
  cases ds with
  | nil=>cases e; exact⟨rfl,fun _ _=>rfl⟩
  | cons=>cases e
theorem zQ{g:TG}{gs:TGs}{mg:MG}{mgs:List D->En->Option En}(h1:VGt K pn g mg)(h2:VGs K pn gs mgs):VGs K pn (zlV g gs) (zY mg mgs) where
 run:=by
  intro σ₀ A H₀ H₁ ρ σ H vs ds ρ' Q s h e q;cases h with
  | nil=>cases e
  | @cons v d vs ds hv t =>
   obtain⟨ρ1,e1,e⟩:=bQ (show(mg d ρ).bind (fun ρ1=>mgs ds ρ1)=some ρ' from e);exact⟨v,vs,rfl,h1.run σ₀ A H₀ H₁ ρ σ H v d ρ1 _ s hv e1 fun σ1 s1=>h2.run σ₀ A H₀ H₁ ρ1 σ1 H vs ds ρ' Q s1 t e q⟩
 ok:=fun ds ρ ρ' e=>by
  cases ds with
  | nil=>cases e
  | cons d ds =>
   obtain⟨ρ1,e1,e⟩:=bQ (show(mg d ρ).bind (fun ρ1=>mgs ds ρ1)=some ρ' from e);obtain⟨a1,a2⟩:=h1.ok d ρ ρ1 e1;obtain⟨b1,b2⟩:=h2.ok ds ρ1 ρ' e;exact⟨b1.trans a1,fun i hi=>(b2 i hi).trans (a2 i hi)⟩
def zbq(n:Nat)(gs:List D->En->Option En):MG:=fun d ρ=>match d with
 | .tuple ds=>if ds.length=n then gs ds ρ else none
 | _=>none
theorem zbh{n:Nat}{gs:TGs}{mgs:List D->En->Option En}(h:VGs K pn gs mgs):VGt K pn (zuC K n gs) (zbq n mgs) where
 run:=by
  intro σ₀ A H₀ H₁ ρ σ H v d ρ' Q s hd e q;unfold zbq at e;split at e
  ·split at e
   ·rename_i ds hl
    obtain⟨a,xs,rfl,h1,h2⟩:=DF.tup_inv hd;exact⟨a,xs,rfl,(TpK.sq h1),by rw [h2.len]; exact hl,h.run σ₀ A H₀ H₁ ρ σ H xs ds ρ' Q s h2 e q⟩
   ·cases e
  ·cases e
 ok:=fun d ρ ρ' e=>by
  unfold zbq at e;split at e
  ·split at e
   ·exact h.ok _ _ _ e
   ·cases e
  ·cases e
def zlf(me:ME)(mg:MG):MS:=fun ρ=>(me ρ).bind fun p=>(p.1.get p.2).bind fun u=>match u with
 | .d d=>(mg d p.2).bind fun ρ'=>some (.nx ρ')
 | _=>none
theorem zmk{te:TE}{g:TG}{me:ME}{mg:MG}(h:VE K te me)(hg:VGt K pn g mg):VS K pn EX (zkN te g) (zlf me mg):=by
 intro σ₀ A H₀ H₁ ρ σ H f D s e k;obtain⟨⟨a,ρ1⟩,e1,e⟩:=bQ e;obtain⟨u,eu,e⟩:=bQ e;refine h ρ σ H a ρ1 _ s.rs e1 fun v H1 g1 k1=>?_;have p:=k1.now s.rs g1 eu;dsimp only at e;split at e
 ·obtain⟨ρ2,e2,e3⟩:=bQ e
  cases e3;exact hg.run σ₀ A H₀ H₁ ρ1 σ H1 v _ ρ2 _ (s.go g1) p e2 fun σ' s'=>k σ' H1 s'
 ·cases e
def zqw(i j:Nat)(ma:MA):MS:=fun ρ=>(ma ρ).bind fun p=>(zbd p.2 p.1).bind fun us=>match us with
 | [.d x,.d y]=>some (.nx ((p.2.set i (some (.d x))).set j (some (.d y))))
 | _=>none
theorem zr0{i j:Nat}{ta:TA}{ma:MA}(h:VAs K ta ma)(hi:i∉pn:=by decide)(hj:j∉pn:=by decide):VS K pn EX (zxZ i j ta) (zqw i j ma):=by
 intro σ₀ A H₀ H₁ ρ σ H f D s e k;obtain⟨⟨as,ρ1⟩,e1,e⟩:=bQ e;obtain⟨us,eu,e⟩:=bQ e;refine h ρ σ H as ρ1 _ s.rs e1 fun vs H1 g1 s1=>?_;have rp:=s1.rpl s.rs g1 eu;dsimp only at e;split at e
 ·rename_i x y
  cases e;cases rp with
  | @cons v _ vs _ h1 t =>
   cases t with
   | @cons w _ _ _ h2 t =>
    cases t;have sn:=(s.go g1).set hi (u:=.d x) h1 fun o=>by cases o
    exact⟨v,w,rfl,k _ _ (sn.set hj (u:=.d y) h2 fun o=>by cases o)⟩
 ·cases e
def zb0(mg:MG)(mb:MS):List D->En->Option Fl
 | [],ρ=>some (.nx ρ)
 | d::ds,ρ=>(mg d ρ).bind fun ρ1=>(mb ρ1).bind fun f=>match f with
  | .nx ρ2=>zb0 mg mb ds ρ2
  | .ct ρ2=>zb0 mg mb ds ρ2
  | .bk ρ2=>some (.nx ρ2)
  | .rt u ρ2=>some (.rt u ρ2)
  | .ex x ρ2=>some (.ex x ρ2)
def zb8(mi:MI)(mg:MG)(mb:MS):MS:=fun ρ=>(mi ρ).bind fun p=>zb0 mg mb p.1 p.2
theorem zbj{wi:TI}{g:TG}{tb:TS}{mi:MI}{mg:MG}{mb:MS}(hi:VI K wi mi)(hg:VGt K pn g mg)(hb:VS K pn EX tb mb):VS K pn EX (zuE wi g tb) (zb8 mi mg mb):=by
 intro σ₀ A H₀ H₁ ρ σ H f D s e k;obtain⟨⟨ds,ρ1⟩,e1,e⟩:=bQ e;refine hi ρ σ H ds ρ1 _ s.rs e1 fun J H1 g1 run=>?_;have s1:=(s.go g1).at;have kp01:Kp H₁ H1:=(s.go g1).kp;refine⟨fun i m σ' H'=>m=ds.length - i/\i<=ds.length/\∃ ρ',Sn K pn σ₀ A H₀ H1 ρ' σ' H'/\zb0 mg mb (ds.drop i) ρ'=some f,⟨ds.length,by simp,Nat.zero_le _,ρ1,s1,e⟩,?_⟩;rintro i m σ' H' ⟨rfl,hi',ρ',s',el⟩
 by_cases hlt:i < ds.length
 ·rw [List.drop_eq_getElem_cons hlt]at el
  obtain⟨ρ2,e2,el⟩:=bQ (show(mg ds[i] ρ').bind _=some f from el);obtain⟨fb,eb,el⟩:=bQ el;obtain⟨go,yl⟩:=(run H' s'.kp i).1 ds[i] (qo hlt);refine .inr ⟨go,fun σ3 H3=>∃ ρ3,Sn K pn σ₀ A H₀ H1 ρ3 σ3 H3/\zb0 mg mb (ds.drop (i+1)) ρ3=some f,fun σ3 H3 ⟨ρ3,s3,e3⟩=>⟨ds.length - (i+1),by omega,rfl,hlt,ρ3,s3,e3⟩,fun x H2 y=>?_⟩;obtain⟨sm,dx⟩:=yl x H2 y;have s2:=s'.go (Go.grow s'.rs sm);refine hg.run σ₀ A H₀ H1 ρ' σ' H2 x ds[i] ρ2 _ s2 dx e2 fun σ3 s3=>?_;refine hb σ₀ A H₀ H1 ρ2 σ3 H2 fb _ s3 eb ?_;cases fb with
  | nx ρ4=>exact fun σ4 H4 s4=>⟨ρ4,s4,el⟩
  | ct ρ4=>exact fun σ4 H4 s4=>⟨ρ4,s4,el⟩
  | bk ρ4=>cases el; exact fun σ4 H4 s4=>k σ4 H4 (s4.re kp01)
  | rt u ρ4=>cases el; exact fun v σ4 H4 s4 p n=>k v σ4 H4 (s4.re kp01) p n
  | ex x ρ4=>cases el; exact fun a σ4 H4 s4 p n=>k a σ4 H4 (s4.re kp01) p n
 ·have ei:i=ds.length:=by omega
  subst ei;rw [List.drop_length]at el;cases el;exact .inl ⟨(run H' s'.kp _).2 rfl,k σ' H' (s'.re kp01)⟩
def zbr(mt:MT)(mb:MS):Nat->En->Option Fl
 | 0,_=>none
 | n+1,ρ=>(mt ρ).bind fun p=>if p.1=true then(mb p.2).bind fun f=>match f with
  | .nx ρ2=>zbr mt mb n ρ2
  | .ct ρ2=>zbr mt mb n ρ2
  | .bk ρ2=>some (.nx ρ2)
  | .rt u ρ2=>some (.rt u ρ2)
  | .ex x ρ2=>some (.ex x ρ2)else some (.nx p.2)
open Classical in
def zf9(mt:MT)(mb:MS):MS:=fun ρ=>if h:∃ n,(zbr mt mb n ρ).isSome=true then zbr mt mb h.choose ρ else none
theorem zoX{tt:TT}{tb:TS}{mt:MT}{mb:MS}(ht:VT K tt mt)(hb:VS K pn EX tb mb):VS K pn EX (znq tt tb) (zf9 mt mb):=by
 intro σ₀ A H₀ H₁ ρ σ H f D s e k;unfold zf9 at e;split at e
 ·rename_i hn
  generalize hn.choose=n at e;refine⟨fun m σ' H'=>∃ ρ',Sn K pn σ₀ A H₀ H₁ ρ' σ' H'/\zbr mt mb m ρ'=some f,⟨n,ρ,s,e⟩,?_⟩;rintro m σ' H' ⟨ρ',s',el⟩;cases m with
  | zero=>cases el
  | succ m =>
   obtain⟨⟨b,ρ1⟩,e1,el⟩:=bQ (show(mt ρ').bind _=some f from el);refine ht ρ' σ' H' b ρ1 _ s'.rs e1 fun H1 g1=>?_;dsimp only at el;split at el
   ·rename_i hc
    rw [if_pos hc];obtain⟨fb,eb,el⟩:=bQ el;refine⟨fun σ2 H2=>∃ ρ2,Sn K pn σ₀ A H₀ H₁ ρ2 σ2 H2/\zbr mt mb m ρ2=some f,fun σ2 H2 ⟨ρ2,s2,e2⟩=>⟨m,Nat.lt_succ_self m,ρ2,s2,e2⟩,?_⟩;refine hb σ₀ A H₀ H₁ ρ1 σ' H1 fb _ (s'.go g1) eb ?_;cases fb with
    | nx ρ4=>exact fun σ4 H4 s4=>⟨ρ4,s4,el⟩
    | ct ρ4=>exact fun σ4 H4 s4=>⟨ρ4,s4,el⟩
    | bk ρ4=>cases el; exact fun σ4 H4 s4=>k σ4 H4 s4
    | rt u ρ4=>cases el; exact fun v σ4 H4 s4 p n=>k v σ4 H4 s4 p n
    | ex x ρ4=>cases el; exact fun a σ4 H4 s4 p n=>k a σ4 H4 s4 p n
   ·rename_i hc
    rw [if_neg hc];cases el;exact k σ' H1 (s'.go g1)
 ·cases e
theorem zdb{mt:MT}{mb:MS}:∀ {n:Nat} {ρ:En} {f:Fl},zbr mt mb n ρ=some f->∀ k,zbr mt mb (n+k) ρ=some f
 | 0,_,_,e,_=>by cases e
 | n+1,ρ,f,e,k=>by
  rw [show n+1+k=(n+k)+1 by omega];obtain⟨⟨b,ρ1⟩,e1,e⟩:=bQ (show(mt ρ).bind _=some f from e);show(mt ρ).bind _=some f;rw [e1];show(if b=true then _ else _)=_;dsimp only at e;split at e
  ·rename_i hc
   rw [if_pos hc];obtain⟨fb,eb,e⟩:=bQ e;rw [eb];cases fb with
   | nx ρ2=>exact zdb (n:=n) e k
   | ct ρ2=>exact zdb (n:=n) e k
   | bk ρ2=>exact e
   | rt u ρ2=>exact e
   | ex x ρ2=>exact e
  ·rename_i hc
   rw [if_neg hc];exact e
theorem zr1{mt:MT}{mb:MS}{n:Nat}{ρ:En}{f:Fl}(e:zbr mt mb n ρ=some f):zf9 mt mb ρ=some f:=by
 have h:∃ n,(zbr mt mb n ρ).isSome=true:=⟨n,by rw [e]; rfl⟩;unfold zf9;rw [dif_pos h];obtain⟨f',ef'⟩:=Option.isSome_iff_exists.mp h.choose_spec;rw [ef'];have a:=zdb e h.choose;have b:=zdb ef' n;rw [Nat.add_comm,b]at a;exact a
end
section
variable {K:qe} {pn:List Nat} {σ₀:St} {A:Addr->Prop} {H₀ H₁ H₂:Hp} {ρ ρ':En} {σ:St} {H H':Hp}
def cEn(nt:Nat)(js:List Nat)(ρ:En):En:=List.replicate nt none++js.map fun j=>ρ.getD j none
def reset(nt:Nat)(ρ:En):En:=List.replicate nt none++ρ.drop nt
def back:List Nat->List (Option U)->En->En
 | j::js,some u::us,ρ=>back js us (ρ.set j (some u))
 | _::js,none::us,ρ=>back js us ρ
 | _,_,ρ=>ρ
def lcM(nt:Nat)(mg:MG)(mt:MT)(me:ME):List D->En->List D->Option (List D×En)
 | [],ρ,ys=>some (ys,ρ)
 | d::ds,ρ,ys=>if ys.length < sizeLine then(mg d ρ).bind fun ρ1=>(mt ρ1).bind fun b=>if b.1=true then(me b.2).bind fun p=>(p.1.get p.2).bind fun u=>(match u with
   | .d y=>lcM nt mg mt me ds (reset nt p.2) (ys++[y])
   | _=>none)else lcM nt mg mt me ds (reset nt b.2) ys else none
def mLC(mi:MI)(nt:Nat)(js:List Nat)(mg:MG)(mt:MT)(me:ME):ME:=fun ρ=>(mi ρ).bind fun p=>(lcM nt mg mt me p.1 (cEn nt js p.2) []).bind fun q=>some (.u (.l q.1),back js (q.2.drop nt) p.2)
def zev(nt n:Nat):List Nat:=(List.range n).map (nt+·)
theorem zdc{nt n i:Nat}:i∈zev nt n↔nt<=i/\i < nt+n:=by
 unfold zev;rw [List.mem_map];constructor
 ·rintro⟨a,ha,rfl⟩
  have:=List.mem_range.mp ha;omega
 ·intro h
  exact⟨i - nt,List.mem_range.mpr (by omega),by omega⟩
theorem zhc{nt:Nat}{js:List Nat}{i:Nat}{u:U}(h:(cEn nt js ρ)[i]?=some (some u)):∃ p j,i=nt+p/\js[p]?=some j/\ρ[j]?=some (some u):=by
 unfold cEn at h
 by_cases hi:i < nt
 ·rw [List.getElem?_append_left (by simpa using hi),List.getElem?_replicate,if_pos hi]at h
  cases h
 ·rw [List.getElem?_append_right (by simp; omega),List.length_replicate,List.getElem?_map]at h
  obtain⟨j,ej,e⟩:=qt.mp h;refine⟨i - nt,j,by omega,ej,?_⟩;rw [qC]at e;cases q:ρ[j]? with
  | none=>rw [q]at e; cases e
  | some o=>rw [q]at e; exact congrArg some e
theorem zr2{nt:Nat}{js:List Nat}{p j:Nat}(h:js[p]?=some j):(c0 nt js σ)[nt+p]?=some (σ.getD j none):=by
 unfold c0;rw [List.getElem?_append_right (by simp),List.length_replicate,Nat.add_sub_cancel_left,List.getElem?_map,h];rfl
theorem znT{nt:Nat}{js:List Nat}:(c0 nt js σ).length=nt+js.length:=by unfold c0; simp
theorem zlg{nt:Nat}{js:List Nat}:(cEn nt js ρ).length=nt+js.length:=by unfold cEn; simp
def zhX(ρ:En)(σ:St)(js:List Nat)(a:Addr):Prop:=∃ (p j:Nat) (u:U),js[p]?=some j/\ρ[j]?=some (some u)/\u.own=true/\σ[j]?=some (some (.ref a))
theorem zoY{nt:Nat}{js:List Nat}(r:Rs K ρ σ H)(nd:js.Nodup):Sn K (zev nt js.length) (c0 nt js σ) (zhX ρ σ js) H H (cEn nt js ρ) (c0 nt js σ) H:=by
 have sat:∀ {p j:Nat} {v:V},js[p]?=some j->σ[j]?=some (some v)->(c0 nt js σ)[nt+p]?=some (some v):=fun{p j v} hp hv=>by
  rw [zr2 hp,qC,hv];rfl
 refine⟨⟨by rw [zlg,znT],fun i u e=>?_,fun i k u w ei ek ou ow es=>?_⟩,fun _ _ h _=>h,fun i u a e o es=>?_,fun _ _=>rfl,fun _ h=>h,Kp.refl H⟩
 ·obtain⟨p,j,rfl,hj,hr⟩:=zhc e
  obtain⟨v,ev,q⟩:=r.rep j u hr;exact⟨v,sat hj ev,q⟩
 ·obtain⟨p,j,rfl,hj,hr⟩:=zhc ei
  obtain⟨p',j',rfl,hj',hr'⟩:=zhc ek;obtain⟨v,ev,_⟩:=r.rep j u hr;obtain⟨v',ev',_⟩:=r.rep j' w hr';rw [sat hj ev,sat hj' ev']at es;have:j=j':=r.apart j j' u w hr hr' ou ow (by rw [ev,ev']; exact es);subst this;have l1:=(qm.mp hj);have l2:=(qm.mp hj');obtain⟨h1,e1⟩:=l1;obtain⟨h2,e2⟩:=l2;have:=(List.getElem_inj nd).mp (e1.trans e2.symm);omega
 ·obtain⟨p,j,rfl,hj,hr⟩:=zhc e
  obtain⟨v,ev,_⟩:=r.rep j u hr;rw [sat hj ev]at es;cases es;exact .inl ⟨zdc.mpr ⟨by omega,by have:=(qm.mp hj).1; omega⟩,p,j,u,hj,hr,o,ev⟩
theorem Sn.reset{nt n:Nat}{σc:St}{ρ2:En}{σ2:St}(s:Sn K (zev nt n) σc A H₀ H₁ ρ2 σ2 H)(l1:ρ2.length=nt+n)(l2:σc.length=nt+n):Sn K (zev nt n) σc A H₀ H₁ (L2.reset nt ρ2) σc H:=by
 have bk:∀ (i:Nat) (u:U),(L2.reset nt ρ2)[i]?=some (some u)->nt<=i/\i < nt+n/\ρ2[i]?=some (some u):=fun i u e=>by
  unfold L2.reset at e
  by_cases hi:i < nt
  ·rw [List.getElem?_append_left (by simpa using hi),List.getElem?_replicate,if_pos hi]at e
   cases e
  ·rw [List.getElem?_append_right (by simp; omega),List.length_replicate,List.getElem?_drop,show nt+(i - nt)=i by omega]at e
   have:=(qm.mp e).1;exact⟨by omega,by omega,e⟩
 have pin:∀ i,nt<=i->i < nt+n->σc[i]?=σ2[i]?:=fun i h1 h2=>(s.pin i (zdc.mpr ⟨h1,h2⟩)).symm;have ll:(L2.reset nt ρ2).length=nt+n:=by unfold L2.reset; simp; omega
 refine⟨⟨by omega,fun i u e=>?_,fun i j u w ei ej ou ow es=>?_⟩,s.fr,fun i u a e o es=>?_,fun _ _=>rfl,s.dm,s.kp⟩
 ·obtain⟨h1,h2,e'⟩:=bk i u e
  rw [pin i h1 h2];exact s.rs.rep i u e'
 ·obtain⟨h1,h2,ei'⟩:=bk i u ei
  obtain⟨h3,h4,ej'⟩:=bk j w ej;rw [pin i h1 h2,pin j h3 h4]at es;exact s.rs.apart i j u w ei' ej' ou ow es
 ·obtain⟨h1,h2,e'⟩:=bk i u e
  rw [pin i h1 h2]at es;exact s.ow i u a e' o es
theorem zie:∀ {js:List Nat} {us:List (Option U)} {ρ:En} {j:Nat} {w:U},(back js us ρ)[j]?=some (some w)->(∃ p:Nat,js[p]?=some j/\us[p]?=some (some w))\/(ρ[j]?=some (some w)/\∀ p:Nat,js[p]?=some j->∀ x,us[p]?≠some (some x))
 | [],us,ρ,j,w,e=>.inr ⟨by cases us<;>exact e,fun p z=>by simp at z⟩
 | k::js,[],ρ,j,w,e=>.inr ⟨e,fun p z x=>by simp⟩
 | k::js,none::us,ρ,j,w,e=>by
  rcases zie (js:=js) (us:=us) (ρ:=ρ) (show(back js us ρ)[j]?=some (some w) from e)with ⟨p,h1,h2⟩ | ⟨h1,h2⟩
  ·exact .inl ⟨p+1,h1,h2⟩
  ·refine .inr ⟨h1,fun p z x=>?_⟩
   cases p with
   | zero=>intro q; cases q
   | succ p=>exact h2 p z x
 | k::js,some u::us,ρ,j,w,e=>by
  rcases zie (js:=js) (us:=us) (ρ:=ρ.set k (some u)) (show(back js us (ρ.set k (some u)))[j]?=some (some w) from e)with ⟨p,h1,h2⟩ | ⟨h1,h2⟩
  ·exact .inl ⟨p+1,h1,h2⟩
  ·by_cases hk:k=j
   ·subst hk
    have hl:k < (ρ.set k (some u)).length:=(qm.mp h1).1;rw [List.length_set]at hl;rw [List.getElem?_set_self hl]at h1;exact .inl ⟨0,rfl,by cases h1; rfl⟩
   ·rw [qD hk]at h1
    refine .inr ⟨h1,fun p z x=>?_⟩;cases p with
    | zero=>cases(show some k=some j from z); exact absurd rfl hk
    | succ p=>exact h2 p z x
theorem zgu:∀ (js:List Nat) (us:List (Option U)) (ρ:En),(back js us ρ).length=ρ.length
 | [],us,ρ=>by cases us<;>rfl
 | _::js,[],ρ=>rfl
 | _::js,none::us,ρ=>zgu js us ρ
 | j::js,some u::us,ρ=>by show(back js us (ρ.set j (some u))).length=_; rw [zgu]; exact List.length_set
theorem ze9:∀ {js:List Nat} {us:List (Option U)} {ρ:En} {j:Nat} {w:U},ρ[j]?=some (some w)->∃ w',(back js us ρ)[j]?=some (some w')
 | [],us,ρ,j,w,e=>⟨w,by cases us<;>exact e⟩
 | _::js,[],ρ,j,w,e=>⟨w,e⟩
 | _::js,none::us,ρ,j,w,e=>ze9 (js:=js) (us:=us) e
 | k::js,some u::us,ρ,j,w,e=>by
  by_cases hk:k=j
  ·subst hk
   exact ze9 (js:=js) (us:=us) (w:=u) (List.getElem?_set_self (qm.mp e).1)
  ·exact ze9 (js:=js) (us:=us) (w:=w) (by rw [qD hk]; exact e)
theorem Sn.comp_back{nt:Nat}{js:List Nat}{ρ2:En}(r:Rs K ρ σ H)(s:Sn K (zev nt js.length) (c0 nt js σ) (zhX ρ σ js) H H₁ ρ2 (c0 nt js σ) H')(l:ρ2.length=nt+js.length)(sh:Shr (cEn nt js ρ) ρ2) :
  Go K ρ σ H (back js (ρ2.drop nt) ρ) H':=by
 have usAt:∀ (p:Nat) (w:U),(ρ2.drop nt)[p]?=some (some w)->ρ2[nt+p]?=some (some w):=fun p w e=>by rw [List.getElem?_drop]at e; exact e
 have kp:Kp H H':=by
  refine⟨fun b xs h=>s.fr b _ h fun⟨p,j,u,hj,hr,ou,es⟩=>?_,fun b ob u h=>s.fr b _ h fun⟨p,j,u,hj,hr,ou,es⟩=>?_⟩
  ·obtain⟨c,q,m⟩:=r.ow ⟨j,u,hr,ou,es⟩
   rw [h]at q; cases q; exact m
  ·obtain⟨c,q,m⟩:=r.ow ⟨j,u,hr,ou,es⟩
   rw [h]at q; cases q; exact m
 have orig:∀ (p j:Nat) (w:U),js[p]?=some j->(ρ2.drop nt)[p]?=some (some w)->w.own=true->∃ x,ρ[j]?=some (some x)/\x.own=true:=fun p j w hj e o=>by
  obtain⟨x,ex,ox⟩:=sh.own (nt+p) w (usAt p w e) o;obtain⟨p',j',ep,hj',hr⟩:=zhc ex;have:p'=p:=by omega
  subst this;rw [hj]at hj';cases hj';exact⟨x,hr,ox⟩
 have own:∀ (j:Nat) (w:U),(back js (ρ2.drop nt) ρ)[j]?=some (some w)->w.own=true->∃ x,ρ[j]?=some (some x)/\x.own=true:=fun j w e o=>by
  rcases zie e with ⟨p,hj,hu⟩ | ⟨h1,_⟩
  ·exact orig p j w hj hu o
  ·exact⟨w,h1,o⟩
 refine⟨⟨by rw [zgu]; exact r.len,fun j w e=>?_,fun i j u w ei ej ou ow es=>?_⟩,fun a o h n=>s.fr a o h fun⟨p,j,u,hj,hr,ou,es⟩=>n ⟨j,u,hr,ou,es⟩,⟨zgu _ _ _,own,fun j w e=>ze9 e⟩,s.dm⟩
 ·rcases zie e with ⟨p,hj,hu⟩ | ⟨h1,h2⟩
  ·obtain⟨v,ev,q⟩:=s.rs.rep (nt+p) w (usAt p w hu)
   rw [zr2 hj]at ev;refine⟨v,?_,q⟩;rw [qC]at ev;cases z:σ[j]? with
   | none=>rw [z]at ev; cases ev
   | some o=>rw [z]at ev; exact congrArg some (qy ev)
  ·obtain⟨v,ev,q⟩:=r.rep j w h1
   refine⟨v,ev,q.kp kp fun ow a c ea hc=>s.fr a c hc fun⟨p,j',u,hj,hr,ou,es⟩=>?_⟩;subst ea;have:j'=j:=r.apart j' j u w hr h1 ou ow (by rw [es,ev]);subst this;have e1:(cEn nt js ρ)[nt+p]?=some (some u):=by
    unfold cEn;rw [List.getElem?_append_right (by simp),List.length_replicate,Nat.add_sub_cancel_left,List.getElem?_map,hj];show some (ρ.getD j' none)=_;rw [qC,hr];rfl
   obtain⟨w',ew'⟩:=sh.live _ _ e1;exact h2 p hj w' (by rw [List.getElem?_drop]; exact ew')
 ·obtain⟨x,ex,ox⟩:=own i u ei ou
  obtain⟨y,ey,oy⟩:=own j w ej ow;exact r.apart i j x y ex ey ox oy es
theorem Shr.reset'{nt n:Nat}{ρc ρ1:En}(l:ρc.length=nt+n)(h0:∀ i,i < nt->ρc[i]?=some none)(l1:ρ1.length=nt+n)(own:∀ (i:Nat) (u:U),nt<=i->ρ1[i]?=some (some u)->u.own=true->∃ w,ρc[i]?=some (some w)/\w.own=true)(live:∀ (i:Nat) (u:U),nt<=i->ρc[i]?=some (some u)->∃ w,ρ1[i]?=some (some w)):Shr ρc (L2.reset nt ρ1):=by
 have at':∀ i,nt<=i->(L2.reset nt ρ1)[i]?=ρ1[i]?:=fun i hi=>by
  unfold L2.reset;rw [List.getElem?_append_right (by simp; omega),List.length_replicate,List.getElem?_drop,show nt+(i - nt)=i by omega]
 have lo:∀ i,i < nt->(L2.reset nt ρ1)[i]?=some none:=fun i hi=>by
  unfold L2.reset;rw [List.getElem?_append_left (by simpa using hi),List.getElem?_replicate,if_pos hi]
 refine⟨by unfold L2.reset; simp; omega,fun i u e o=>?_,fun i u e=>?_⟩
 ·by_cases hi:i < nt
  ·rw [lo i hi]at e; cases e
  ·rw [at' i (by omega)]at e
   exact own i u (by omega) e o
 ·by_cases hi:i < nt
  ·rw [h0 i hi]at e; cases e
  ·rw [at' i (by omega)]
   exact live i u (by omega) e
theorem zgv{nt:Nat}{ρ1:En}{i:Nat}(h:i < nt):(L2.reset nt ρ1)[i]?=some none:=by
 unfold L2.reset;rw [List.getElem?_append_left (by simpa using h),List.getElem?_replicate,if_pos h]
theorem zr3{nt:Nat}{js:List Nat}{i:Nat}(h:i < nt):(cEn nt js ρ)[i]?=some none:=by
 unfold cEn;rw [List.getElem?_append_left (by simpa using h),List.getElem?_replicate,if_pos h]
def VIA(K:qe)(js:List Nat)(wi:TI)(mi:MI):Prop :=
 ∀ (ρ:En) (σ:St) (H:Hp) (ds:List D) (ρ':En) (R:It->Hp->Prop),Rs K ρ σ H->mi ρ=some (ds,ρ')->(∀ J H',Go K ρ σ H ρ' H'->(∀ H2,Kp H' H2->Fr' (zhX ρ' σ js) H' H2->∀ i:Nat,(∀ d,ds[i]?=some d->J.go i H2/\∀ x H3,J.yld i H2 x H3->zbN H2 H3/\DF K H3 x d)/\(i=ds.length->J.stop i H2))->R J H')->wi σ H R
theorem zr4{wi:TI}{nt:Nat}{js:List Nat}{g:TG}{tt:TT}{te:TE}{mi:MI}{mg:MG}{mt:MT}{me:ME}(hi:VIA K js wi mi)(hg:VGt K (zev nt js.length) g mg)(ht:VT K tt mt)(he:VE K te me)(nd:js.Nodup:=by decide) :
  VE K (tLC wi nt js g tt te) (mLC mi nt js mg mt me):=by
 intro ρ σ H a ρ' Q r e q;obtain⟨⟨ds,ρ1⟩,e1,e⟩:=bQ e;obtain⟨⟨zs,ρz⟩,e2,e⟩:=bQ e;cases e;refine hi ρ σ H ds ρ1 _ r e1 fun J H1 g1 run=>?_;have s1:=zoY (nt:=nt) (js:=js) g1.rs nd;refine⟨fun i m ys H'=>m=ds.length - i/\i<=ds.length/\∃ ρc yd,Sn K (zev nt js.length) (c0 nt js σ) (zhX ρ1 σ js) H1 H1 ρc (c0 nt js σ) H'/\Shr (cEn nt js ρ1) ρc/\(∀ k,k < nt->ρc[k]?=some none)/\DFs K H' ys yd/\lcM nt mg mt me (ds.drop i) ρc yd=some (zs,ρz),
  ⟨ds.length,by simp,Nat.zero_le _,_,[],s1,Shr.refl _,fun k hk=>zr3 hk,.nil,e2⟩,?_⟩
 rintro i m ys H' ⟨rfl,hi',ρc,yd,s',sh,lo,dy,el⟩;have lc:ρc.length=nt+js.length:=by rw [sh.len,zlg]
 by_cases hlt:i < ds.length
 ·rw [List.drop_eq_getElem_cons hlt]at el
  unfold lcM at el;split at el
  ·rename_i hz
   obtain⟨ρ2,e3,el⟩:=bQ el;obtain⟨⟨b,ρ3⟩,e4,el⟩:=bQ el;obtain⟨l2,p2⟩:=hg.ok _ _ _ e3;obtain⟨go,yl⟩:=(run H' s'.kp s'.fr i).1 ds[i] (qo hlt);refine .inr ⟨go,by rw [dy.len]; exact hz,fun ys' H2=>∃ ρc' yd',Sn K (zev nt js.length) (c0 nt js σ) (zhX ρ1 σ js) H1 H1 ρc' (c0 nt js σ) H2/\Shr (cEn nt js ρ1) ρc'/\(∀ k,k < nt->ρc'[k]?=some none)/\DFs K H2 ys' yd'/\lcM nt mg mt me (ds.drop (i+1)) ρc' yd'=some (zs,ρz),
    fun ys' H2 ⟨ρc',yd',z⟩=>⟨ds.length - (i+1),by omega,rfl,hlt,ρc',yd',z⟩,fun x H2 y=>?_⟩
   obtain⟨sm,dx⟩:=yl x H2 y;have s2:=s'.go (Go.grow s'.rs sm);refine hg.run _ _ _ _ ρc _ H2 x ds[i] ρ2 _ s2 dx e3 fun σ3 s3=>?_;have toEnd:∀ {ρ4:En} {H4:Hp},Go K ρ2 σ3 H2 ρ4 H4->Sn K (zev nt js.length) (c0 nt js σ) (zhX ρ1 σ js) H1 H1 (L2.reset nt ρ4) (c0 nt js σ) H4/\Shr (cEn nt js ρ1) (L2.reset nt ρ4):=fun{ρ4 H4} g4=>by
    have l4:ρ4.length=nt+js.length:=by rw [g4.shr.len,l2,lc]
    refine⟨(s3.go g4).reset l4 znT,sh.trans (Shr.reset' lc lo l4 (fun k u hk ek ou=>?_) fun k u hk ek=>?_)⟩
    ·obtain⟨w,ew,ow⟩:=g4.shr.own k u ek ou
     have lk:k < nt+js.length:=by rw [<-l2.trans lc]; exact(qm.mp ew).1
     rw [p2 k (zdc.mpr ⟨hk,lk⟩)]at ew;exact⟨w,ew,ow⟩
    ·have lk:k < nt+js.length:=by rw [<-lc]; exact(qm.mp ek).1
     rw [<-p2 k (zdc.mpr ⟨hk,lk⟩)]at ek;exact g4.shr.live k u ek
   refine ht ρ2 σ3 H2 b ρ3 _ s3.rs e4 fun H3 g3=>?_;dsimp only at el;split at el
   ·rename_i hb
    rw [if_pos hb];obtain⟨⟨a4,ρ4⟩,e5,el⟩:=bQ el;obtain⟨u,e6,el⟩:=bQ el;refine he ρ3 σ3 H3 a4 ρ4 _ g3.rs e5 fun v H4 g4 k4=>?_;have pv:=k4.now g3.rs g4 e6;dsimp only at el;split at el
    ·rename_i yv
     obtain⟨sn,sr⟩:=toEnd (g3.trans g4);exact⟨_,_,sn,sr,fun k hk=>zgv hk,((dy.kp sm.kp).kp ((g3.trans g4).kp s3.rs)).snoc pv,el⟩
    ·cases el
   ·rename_i hb
    rw [if_neg hb];obtain⟨sn,sr⟩:=toEnd g3;exact⟨_,_,sn,sr,fun k hk=>zgv hk,(dy.kp sm.kp).kp (g3.kp s3.rs),el⟩
  ·cases el
 ·have ei:i=ds.length:=by omega
  subst ei;rw [List.drop_length]at el;cases el;refine .inl ⟨(run H' s'.kp s'.fr _).2 rfl,fun Da hD=>?_⟩;have gb:=Sn.comp_back g1.rs s' lc sh;have sm:=zag hD (.lst ys);exact q _ _ ((g1.trans gb).trans (Go.grow gb.rs sm)) ⟨⟨Da,ys,rfl,zD,dy.kp sm.kp⟩,fun _=>⟨Da,rfl,(g1.trans gb).dm _ hD⟩⟩
theorem zml{wi:TI}{nt:Nat}{js:List Nat}{g:TG}{tt:TT}{te:TE}{mi:MI}{mg:MG}{mt:MT}{me:ME}(hi:VI K wi mi)(hg:VGt K (zev nt js.length) g mg)(ht:VT K tt mt)(he:VE K te me)(nd:js.Nodup:=by decide) :
  VE K (tLC wi nt js g tt te) (mLC mi nt js mg mt me):=zr4 (fun ρ σ H ds ρ' R r e q=>hi ρ σ H ds ρ' R r e fun J H' g run=>q J H' g fun H2 k _=>run H2 k) hg ht he nd
end
section
variable {EX:EXT} {K:qe} {pn:List Nat} {σ₀:St} {A:Addr->Prop} {H₀ H₁ H₂:Hp} {ρ ρ':En} {σ:St} {H H':Hp}
def zbs(pn:List Nat)(ρ:En):Nat->List U->Option (List U)
 | _,[]=>some []
 | i,u::us=>(if i∈pn then(ρ[i]?).join.bind fun o=>if o.own=true/\u.own=false then none else some o else if u.own=true then none else some u).bind fun o=>(zbs pn ρ (i+1) us).bind fun os=>some (o::os)
def zaz(n:Nat)(pn:List Nat)(m:MS):FD:=fun us=>(m (sm us++List.replicate (n - us.length) none)).bind fun f=>match f with
 | .rt u ρ=>(zbs pn ρ 0 us).bind fun os=>some (u,os)
 | .nx ρ=>(zbs pn ρ 0 us).bind fun os=>some (.d .none,os)
 | _=>none
theorem zmm:∀ {us os:List U} {i:Nat},zbs pn ρ i us=some os->os.length=us.length
 | [],os,i,e=>by cases e; rfl
 | u::us,os,i,e=>by
  obtain⟨o,e1,e⟩:=bQ e;obtain⟨os',e2,e⟩:=bQ e;cases e;simp [zmm e2]
theorem zgw:∀ {us os:List U} {i p:Nat} {o:U},zbs pn ρ i us=some os->os[p]?=some o->∃ u,us[p]?=some u/\((i+p∈pn/\ρ[i+p]?=some (some o)/\(o.own=true->u.own=true))\/(i+p∉pn/\o=u/\u.own=false))
 | [],os,i,p,o,e,ep=>by cases e; simp at ep
 | u::us,os,i,p,o,e,ep=>by
  obtain⟨o1,e1,e⟩:=bQ e;obtain⟨os',e2,e⟩:=bQ e;cases e;cases p with
  | zero =>
   cases(show some o1=some o from ep);refine⟨u,rfl,?_⟩;rw [Nat.add_zero];split at e1
   ·rename_i hi
    obtain⟨o2,e3,e1⟩:=bQ e1;split at e1
    ·cases e1
    ·rename_i hc
     cases e1;refine .inl ⟨hi,?_,fun oo=>?_⟩
     ·cases q:ρ[i]? with
      | none=>rw [q]at e3; cases e3
      | some x=>rw [q]at e3; cases x with
       | none=>cases e3
       | some y=>cases e3; rfl
     ·cases hu:u.own with
      | true=>rfl
      | false=>exact absurd ⟨oo,hu⟩ hc
   ·rename_i hi
    split at e1
    ·cases e1
    ·rename_i hc
     cases e1;exact .inr ⟨hi,rfl,by simpa using hc⟩
  | succ p =>
   obtain⟨u',eu,h⟩:=zgw (i:=i+1) (p:=p) e2 ep;refine⟨u',eu,?_⟩;rw [show i+(p+1)=i+1+p by omega];exact h
theorem zmn:∀ {us os:List U} {i p:Nat} {u:U},zbs pn ρ i us=some os->us[p]?=some u->u.own=true->i+p∈pn
 | [],os,i,p,u,e,ep,_=>by simp at ep
 | u::us,os,i,p,u',e,ep,o=>by
  obtain⟨o1,e1,e⟩:=bQ e;obtain⟨os',e2,e⟩:=bQ e;cases p with
  | zero =>
   cases(show some u=some u' from ep);rw [Nat.add_zero];split at e1
   ·assumption
   ·first | cases e1 | (rw [if_pos o]at e1; cases e1)
  | succ p =>
   rw [show i+(p+1)=i+1+p by omega];exact zmn (i:=i+1) (p:=p) e2 ep o
theorem zeI{N:List Str}{vs:List V}{i:Nat}(h:i < vs.length):(zb9 N vs)[i]?=(smV vs)[i]?:=by
 unfold zb9 smV;rw [List.getElem?_append_left (by simpa using h)]
theorem zr5{N:List Str}{us os:List U}{vs:List V}{ρx:En}(r:Rs K (sm us) (smV vs) H)(hl:us.length<=N.length)(ho:zbs pn ρx 0 us=some os) :
  Sn K pn (zb9 N vs) (Ow (sm us) (smV vs)) H H (sm us++List.replicate (N.length - us.length) none) (zb9 N vs) H:=by
 have lv:us.length=vs.length:=by have:=r.len; unfold sm smV at this; simpa using this
 have inv:∀ (i:Nat) (u:U),(sm us++List.replicate (N.length - us.length) none)[i]?=some (some u)->i < us.length/\(sm us)[i]?=some (some u):=fun i u e=>by
  by_cases hi:i < us.length
  ·rw [List.getElem?_append_left (by unfold sm; simpa using hi)]at e
   exact⟨hi,e⟩
  ·rw [List.getElem?_append_right (by unfold sm; simp; omega),List.getElem?_replicate]at e
   split at e<;>cases e
 refine⟨⟨?_,fun i u e=>?_,fun i j u w ei ej ou ow es=>?_⟩,fun _ _ h _=>h,fun i u a e o es=>?_,fun _ _=>rfl,fun _ h=>h,Kp.refl H⟩
 ·unfold zb9 sm; simp; omega
 ·obtain⟨hi,e'⟩:=inv i u e
  rw [zeI (by omega)];exact r.rep i u e'
 ·obtain⟨hi,ei'⟩:=inv i u ei
  obtain⟨hj,ej'⟩:=inv j w ej;rw [zeI (by omega),zeI (by omega)]at es;exact r.apart i j u w ei' ej' ou ow es
 ·obtain⟨hi,e'⟩:=inv i u e
  rw [zeI (by omega)]at es;have:=zmn ho (zbZ.mp e') o;rw [Nat.zero_add]at this;exact .inl ⟨this,i,u,e',o,es⟩
theorem zr6{N:List Str}{us os:List U}{vs:List V}{σ':St}(r:Rs K (sm us) (smV vs) H)(s:Sn K pn (zb9 N vs) (Ow (sm us) (smV vs)) H H ρ' σ' H')(ho:zbs pn ρ' 0 us=some os):Go K (sm us) (smV vs) H (sm os) H':=by
 have lv:us.length=vs.length:=by have:=r.len; unfold sm smV at this; simpa using this
 have lo:=zmm ho;have bnd:∀ {p:Nat} {o:U},os[p]?=some o->p < vs.length:=fun{p o} e=>by have:=(qm.mp e).1; omega
 have pin:∀ {p:Nat} {o:U},os[p]?=some o->p∈pn->σ'[p]?=(smV vs)[p]?:=fun{p o} e hp=>by rw [s.pin p hp,zeI (bnd e)]
 refine⟨⟨by unfold sm smV; simp; omega,fun p o e=>?_,fun p q o o' ep eq oo oo' es=>?_⟩,s.fr,⟨by unfold sm; simp; omega,fun p o e oo=>?_,fun p u e=>?_⟩,s.dm⟩
 ·have e':=zbZ.mp e
  obtain⟨u,eu,h⟩:=zgw ho e';rw [Nat.zero_add]at h;rcases h with ⟨hp,hr,_⟩ | ⟨_,rfl,ou⟩
  ·obtain⟨v,ev,q⟩:=s.rs.rep p o hr
   rw [pin e' hp]at ev;exact⟨v,ev,q⟩
  ·obtain⟨v,ev,q⟩:=r.rep p o (zbZ.mpr eu)
   exact⟨v,ev,q.kp s.kp fun oo=>by rw [ou]at oo; cases oo⟩
 ·have ep':=zbZ.mp ep
  have eq':=zbZ.mp eq;obtain⟨u,eu,h⟩:=zgw ho ep';obtain⟨u',eu',h'⟩:=zgw ho eq';rw [Nat.zero_add]at h h';rcases h with ⟨hp,hr,_⟩ | ⟨_,rfl,ou⟩
  ·rcases h' with ⟨hq,hr',_⟩ | ⟨_,rfl,ou'⟩
   ·rw [<-pin ep' hp,<-pin eq' hq]at es
    exact s.rs.apart p q o o' hr hr' oo oo' es
   ·rw [ou']at oo'; cases oo'
  ·rw [ou]at oo; cases oo
 ·have e':=zbZ.mp e
  obtain⟨u,eu,h⟩:=zgw ho e';rcases h with ⟨_,_,h⟩ | ⟨_,rfl,ou⟩
  ·exact⟨u,zbZ.mpr eu,h oo⟩
  ·rw [ou]at oo; cases oo
 ·have e':=zbZ.mp e
  have hp:p < os.length:=by have:=(qm.mp e').1; omega
  exact⟨os[p],zbZ.mpr (qo hp)⟩
theorem Fun.okV{P:Program}{w:World}{mg:Str->Option Value}{base:Heap}{x qual:Str}{st:Stmt}{f:Addr}{fd:FuncData}{N ps:List Str}{k n nn:Nat}{m:MS}(F:Fun K x qual st f fd)(S:FnScope N ps (zaj st))(hps:ps.length=n)(hN:N.length=nn)(hnn:n<=nn)
  (hbody:∀ (cdv:Value) (A:Around) (outer:List Env) (s:Shared) (H:Hp) (E:XK),Room k (A.deeper (envOfC qual (zaj st) s.heap.objs.size f cdv)) ->
   ∃ t,Wr (PSs (zkP CX0 P w K mg base N qual (zaj st) f cdv A outer s H E).nox (zbW st) t)/\VS K pn EX0 t m):FnOk P w K mg base CX0 (k+1) f fd ps (spV K n (zaz nn pn m)):=by
 refine F.okW S (fun vs H Q E h=>?_) (fun cdv A outer s H vs Q E hr h=>?_)
 ·obtain⟨us,r,outs,hl,rs,_⟩:=h
  have:=rs.len;unfold sm smV at this;simp at this;omega
 obtain⟨us,r,outs,hl,rs,ef,q⟩:=h;obtain⟨t,wt,vt⟩:=hbody cdv A outer s H E hr;refine⟨t,wt,?_⟩;obtain⟨fl,em,ef⟩:=bQ ef;have go:∀ (ρ':En),zbs pn ρ' 0 us=some outs->Sn K pn (zb9 N vs) (Ow (sm us) (smV vs)) H H (sm us++List.replicate (N.length - us.length) none) (zb9 N vs) H:=fun ρ' ho=>zr5 rs (by omega) ho;subst hN;cases fl with
 | nx ρ' =>
  obtain⟨os,eo,ef⟩:=bQ (show(zbs pn ρ' 0 us).bind _=_ from ef);cases ef;refine vt _ _ _ _ _ _ _ (.nx ρ') _ (go ρ' eo) em fun σ' H' s'=>?_;exact q _ _ (zr6 rs s' eo) .non Nw.data
 | rt u ρ' =>
  obtain⟨os,eo,ef⟩:=bQ (show(zbs pn ρ' 0 us).bind _=_ from ef);cases ef;refine vt _ _ _ _ _ _ _ (.rt r ρ') _ (go ρ' eo) em fun v σ' H' s' p n'=>?_;exact q _ _ (zr6 rs s' eo) p n'
 | bk=>cases ef
 | ct=>cases ef
 | ex=>cases ef
end
section
variable {EX:EXT} {K:qe} {pn:List Nat} {ρ ρ':En} {σ:St} {H H':Hp}
def zbV(i:Nat)(me:ME):ME:=fun ρ=>match ρ[i]? with
 | some (some (.l _))=>(me ρ).bind fun p=>(p.1.get p.2).bind fun u=>match u,p.2[i]? with
  | .d x,some (some (.l xs))=>if xs.length < sizeLine then some (.u (.d .none),p.2.set i (some (.l (xs++[x]))))else none
  | _,_=>none
 | _=>none
theorem zbC{i:Nat}{te:TE}{me:ME}(h:VE K te me):VE K (tBM K "list" zoK (zes i) (zfp te zny)) (zbV i me):=by
 intro ρ σ H a ρ' Q r e q;unfold zbV at e;split at e
 ·rename_i xs0 e0
  obtain⟨⟨b,ρ1⟩,e1,e⟩:=bQ e;obtain⟨u,eu,e⟩:=bQ e;obtain⟨v0,ev0,p0⟩:=r.rep i _ e0;obtain⟨l,us0,rfl,hl0,_⟩:=p0;refine⟨_,ev0,.inl ⟨rfl,us0,SqL.of hl0⟩,?_⟩;refine h ρ σ H b ρ1 _ r e1 fun v H1 g1 k1=>?_;have pv:=k1.now r g1 eu;dsimp only at e;split at e
  ·rename_i x xs ex
   split at e
   ·rename_i hz
    cases e;obtain⟨w,ew,p1⟩:=g1.rs.rep i _ ex;obtain⟨l',us,rfl,hl,ds⟩:=p1;rw [ev0]at ew;cases ew;refine⟨l,us,v,rfl,rfl,hl,by rw [ds.len]; exact hz,q _ _ (g1.trans (Go.own (u':=.l (xs++[x])) g1.rs ex rfl ev0 ?_)) ⟨.non,Nw.data⟩⟩;have kp:=zcp hl trivial (.lst (us++[v]));exact⟨l,_,rfl,zD,(ds.kp kp).snoc (DF.kp kp pv)⟩
   ·cases e
  ·cases e
 ·cases e
theorem join_some{o:Option (Option U)}{u:U}(e:o.join=some u):o=some (some u):=by
 cases o with
 | none=>cases e
 | some x=>cases x with
  | none=>cases e
  | some y=>cases e; rfl
def zga(i:Nat)(me mi:ME):MS:=fun ρ=>(ρ[i]?).join.bind fun _=>(me ρ).bind fun p=>(mi p.2).bind fun q=>(p.1.get q.2).bind fun u=>(q.1.get q.2).bind fun w=>match u,w,q.2[i]? with
 | .d x,.d (.int k),some (some (.l xs))=>(ixN xs.length k).bind fun j=>some (.nx (q.2.set i (some (.l (xs.set j x)))))
 | _,_,_=>none
theorem zlh{i:Nat}{te ti:TE}{me mi:ME}(h:VE K te me)(hi:VE K ti mi):VS K pn EX (zkN te (zxV (zes i) ti zwn)) (zga i me mi):=by
 intro σ₀ A H₀ H₁ ρ σ H f D s e k;replace e:=bQ e;obtain⟨w0,e0,e⟩:=e;replace e:=bQ e;obtain⟨⟨a,ρ1⟩,e1,e⟩:=e;replace e:=bQ e;obtain⟨⟨b,ρ2⟩,e2,e⟩:=e;replace e:=bQ e;obtain⟨u,eu,e⟩:=e;replace e:=bQ e;obtain⟨w,ew,e⟩:=e;obtain⟨v0,ev0,_⟩:=s.rs.rep i w0 (join_some e0);refine h ρ σ H a ρ1 _ s.rs e1 fun v H1 g1 k1=>⟨v0,ev0,?_⟩;refine hi ρ1 σ H1 b ρ2 _ g1.rs e2 fun y H2 g2 k2=>?_;have pv:=k1.later s.rs g1 g2 eu;have py:=k2.now g1.rs g2 ew;dsimp only at e;split at e
 ·rename_i x n xs ex
  replace e:=bQ e;obtain⟨j,ej,e⟩:=e;cases e;obtain⟨w',ew',p1⟩:=g2.rs.rep i _ ex;obtain⟨l,us,rfl,hl,ds⟩:=p1;rw [ev0]at ew';cases ew';refine⟨l,us,n,j,rfl,DF.int_inv py,hl,by rw [ds.len]; exact ej,k _ _ ((s.go (g1.trans g2)).go (Go.own (u':=.l (xs.set j x)) g2.rs ex rfl ev0 ?_))⟩;have kp:=zcp hl trivial (.lst (us.set j v));exact⟨l,_,rfl,zD,(ds.kp kp).set (DF.kp kp pv) j⟩
 ·cases e
def zli:List D->Option (List Key)
 | []=>some []
 | .int i::ds=>(zli ds).bind fun ks=>some (.inl i::ks)
 | .str x::ds=>(zli ds).bind fun ks=>some (.inr x::ks)
 | _::_=>none
def zaZ:D->Option (List Key)
 | .tuple ds=>zli ds
 | _=>none
def znU:D->Option Key
 | .int i=>some (.inl i)
 | .str x=>some (.inr x)
 | _=>none
theorem zlj:∀ ks:List Key,zli (ks.map k1D)=some ks
 | []=>rfl
 | .inl i::ks=>by show(zli (ks.map k1D)).bind _=_; rw [zlj ks]; rfl
 | .inr x::ks=>by show(zli (ks.map k1D)).bind _=_; rw [zlj ks]; rfl
theorem zgx(ks:List Key):zaZ (kTD ks)=some ks:=zlj ks
theorem znV:∀ {ds:List D} {ks:List Key} {xs:List V},DFs K H xs ds->zli ds=some ks->xs=ks.map kV
 | [],ks,xs,h,e=>by cases e; cases h; rfl
 | d::ds,ks,xs,h,e=>by
  cases h with
  | cons h1 t =>
   cases d with
   | int i =>
    obtain⟨ks',e1,e⟩:=bQ (show(zli ds).bind (fun ks=>some (Sum.inl i::ks))=some ks from e);cases e;rw [znV t e1,DF.int_inv h1];rfl
   | str x =>
    obtain⟨ks',e1,e⟩:=bQ (show(zli ds).bind (fun ks=>some (Sum.inr x::ks))=some ks from e);cases e;rw [znV t e1,DF.str_inv h1];rfl
   | _=>cases e
theorem zgy{d:D}{ks:List Key}{v:V}(h:DF K H v d)(e:zaZ d=some ks):∃ b,v=.ref b/\TpK K H b (ks.map kV):=by
 cases d with
 | tuple ds =>
  obtain⟨b,xs,rfl,h1,h2⟩:=DF.tup_inv h;exact⟨b,rfl,by rw [<-znV h2 e]; exact h1⟩
 | _=>cases e
theorem zr7{d:D}{k:Key}{v:V}(h:DF K H v d)(e:znU d=some k):v=kV k:=by
 cases d with
 | int i=>cases e; exact DF.int_inv h
 | str x=>cases e; exact DF.str_inv h
 | _=>cases e
theorem zif:∀ {ks:List Key},DFs K H (ks.map kV) (ks.map k1D)
 | []=>.nil
 | .inl i::ks=>.cons (.int i) zif
 | .inr x::ks=>.cons (.str x) zif
section
variable {κ:Type} [DecidableEq κ]
def znW(kvs:List (κ×D))(k:κ):Option D:=(kvs.find? fun kv=>decide (kv.1=k)).map (·.2)
def zhd(kvs:List (κ×D))(k:κ)(d:D):List (κ×D):=if(kvs.any fun kv=>decide (kv.1=k))=true then kvs.map (fun kv=>if kv.1=k then(kv.1,d)else kv)else kvs++[(k,d)]
theorem KVd.val{ws:List (κ×V)}{kvs:List (κ×D)}(h:KVd K H ws kvs)(k:κ):(∃ v d,zfh ws k=some v/\znW kvs k=some d/\DF K H v d)\/(zfh ws k=none/\znW kvs k=none):=by
 induction h with
 | nil=>exact .inr ⟨rfl,rfl⟩
 | @cons p q ps qs hq t ih =>
  unfold zfh znW at ih ⊢;rw [List.find?_cons,List.find?_cons]
  by_cases hk:p.1=k
  ·have hk':q.1=k:=hq.1▸hk
   rw [decide_eq_true hk,decide_eq_true hk'];exact .inl ⟨_,_,rfl,rfl,hq.2⟩
  ·have hk':¬q.1=k:=fun z=>hk (hq.1.trans z)
   rw [decide_eq_false hk,decide_eq_false hk'];exact ih
theorem KVd.any{ws:List (κ×V)}{kvs:List (κ×D)}(h:KVd K H ws kvs)(k:κ):(ws.any fun kv=>decide (kv.1=k))=(kvs.any fun kv=>decide (kv.1=k)):=by
 induction h with
 | nil=>rfl
 | @cons p q ps qs hq t ih=>rw [List.any_cons,List.any_cons,ih,hq.1]
theorem KVd.repl{ws:List (κ×V)}{kvs:List (κ×D)}(h:KVd K H ws kvs)(k:κ){v:V}{d:D}(hd:DF K H v d):KVd K H (ws.map fun kv=>if kv.1=k then(kv.1,v)else kv) (kvs.map fun kv=>if kv.1=k then(kv.1,d)else kv):=by
 induction h with
 | nil=>exact .nil
 | @cons p q ps qs hq t ih =>
  refine .cons ?_ ih;dsimp only
  by_cases hk:p.1=k
  ·have hk':q.1=k:=hq.1▸hk
   rw [if_pos hk,if_pos hk'];exact⟨hq.1,hd⟩
  ·have hk':¬q.1=k:=fun z=>hk (hq.1.trans z)
   rw [if_neg hk,if_neg hk'];exact hq
theorem KVd.put{ws:List (κ×V)}{kvs:List (κ×D)}(h:KVd K H ws kvs)(k:κ){v:V}{d:D}(hd:DF K H v d):KVd K H (zc9 ws k v) (zhd kvs k d):=by
 unfold zc9 zhd;rw [h.any k];split
 ·exact h.repl k hd
 ·exact Paired.snoc h ⟨rfl,hd⟩
theorem KVd.len{ws:List (κ×V)}{kvs:List (κ×D)}(h:KVd K H ws kvs):ws.length=kvs.length:=Paired.length h
end
def zkq(kvs:List (D×D))(k:List Key):Option D:=(kvs.find? fun kv=>decide (zaZ kv.1=some k)).map (·.2)
theorem DFt.val{ws:List (List Key×V)}{kvs:List (D×D)}(h:DFt K H ws kvs)(k:List Key):(∃ v d,zfh ws k=some v/\zkq kvs k=some d/\DF K H v d)\/(zfh ws k=none/\zkq kvs k=none):=by
 induction ws generalizing kvs with
 | nil=>cases h; exact .inr ⟨rfl,rfl⟩
 | cons p ws ih =>
  cases h with
  | @cons k' v d _ ds hv t =>
   unfold zfh zkq at ih ⊢;rw [List.find?_cons,List.find?_cons]
   by_cases hk:k'=k
   ·have hk':zaZ (kTD k')=some k:=by rw [zgx,hk]
    rw [decide_eq_true hk,decide_eq_true hk'];exact .inl ⟨_,_,rfl,rfl,hv⟩
   ·have hk':¬zaZ (kTD k')=some k:=by rw [zgx]; exact fun z=>hk (qy z)
    rw [decide_eq_false hk,decide_eq_false hk'];exact ih t
def zjQ(u y:U):Option (Option D):=match u,y with
 | .t kvs,.d y=>(zaZ y).map fun k=>znW kvs k
 | .k kvs,.d y=>(znU y).map fun k=>znW kvs k
 | .d (.dict kvs),.d y=>if noX kvs=true then(zaZ y).map fun k=>zkq kvs k else none
 | _,_=>none
theorem zoZ{u y:U}{o:Option D}{x v:V}(hu:Rp K H x u)(hy:Rp K H v y)(e:zjQ u y=some o):∃ a,x=.ref a/\((∃ w d,o=some d/\znD K H a v (some w)/\DF K H w d)\/(o=none/\znD K H a v none)):=by
 unfold zjQ at e;split at e
 ·rename_i kvs y
  obtain⟨k,ek,rfl⟩:=qt.mp e;obtain⟨a,ws,rfl,h1,h2⟩:=hu;obtain⟨b,rfl,hb⟩:=zgy hy ek;refine⟨a,rfl,?_⟩;rcases h2.val k with ⟨w,d,e1,e2,p⟩ | ⟨e1,e2⟩
  ·exact .inl ⟨w,d,e2,.inr ⟨ws,k,b,.inl h1,rfl,hb,e1.symm⟩,p⟩
  ·exact .inr ⟨e2,.inr ⟨ws,k,b,.inl h1,rfl,hb,e1.symm⟩⟩
 ·rename_i kvs y
  obtain⟨k,ek,rfl⟩:=qt.mp e;obtain⟨a,ws,rfl,h1,h2⟩:=hu;cases zr7 hy ek;refine⟨a,rfl,?_⟩;rcases h2.val k with ⟨w,d,e1,e2,p⟩ | ⟨e1,e2⟩
  ·exact .inl ⟨w,d,e2,.inl ⟨ws,k,.inl h1,rfl,e1.symm⟩,p⟩
  ·exact .inr ⟨e2,.inl ⟨ws,k,.inl h1,rfl,e1.symm⟩⟩
 ·rename_i kvs y
  split at e
  rotate_left
  ·cases e
  rename_i nx;obtain⟨k,ek,rfl⟩:=qt.mp e;obtain⟨a,ob,ws,rfl,h1,h2⟩:=DF.dct_inv hu nx;obtain⟨b,rfl,hb⟩:=zgy hy ek;refine⟨a,rfl,?_⟩;rcases h2.val k with ⟨w,d,e1,e2,p⟩ | ⟨e1,e2⟩
  ·exact .inl ⟨w,d,e2,.inr ⟨ws,k,b,.inr ⟨ob,h1⟩,rfl,hb,e1.symm⟩,p⟩
  ·exact .inr ⟨e2,.inr ⟨ws,k,b,.inr ⟨ob,h1⟩,rfl,hb,e1.symm⟩⟩
 ·cases e
def zcV(md my:ME):ME:=fun ρ=>(md ρ).bind fun p=>(my p.2).bind fun q=>(p.1.get q.2).bind fun u=>(q.1.get q.2).bind fun y=>(zjQ u y).bind fun o=>o.bind fun d=>some (.u (.d d),q.2)
theorem zdB{td ty:TE}{md my:ME}(hd:VE K td md)(hy:VE K ty my):VE K (zrs K td ty) (zcV md my):=by
 intro ρ σ H a ρ' Q r e q;obtain⟨⟨a1,ρ1⟩,e1,e⟩:=bQ e;obtain⟨⟨b1,ρ2⟩,e2,e⟩:=bQ e;obtain⟨u,eu,e⟩:=bQ e;obtain⟨y,ey,e⟩:=bQ e;obtain⟨o,eo,e⟩:=bQ e;obtain⟨d,ed,e⟩:=bQ e;cases e;refine hd ρ σ H a1 ρ1 _ r e1 fun v1 H1 g1 k1=>hy ρ1 σ H1 b1 _ _ g1.rs e2 fun v2 H2 g2 k2=>?_;obtain⟨b,rfl,h⟩:=zoZ (k1.later r g1 g2 eu) (k2.now g1.rs g2 ey) eo;rcases h with ⟨w,d',rfl,g,p⟩ | ⟨rfl,_⟩
 ·cases ed
  exact⟨b,w,rfl,g,q w H2 (g1.trans g2) ⟨p,Nw.data⟩⟩
 ·cases ed
def zdC:ME:=fun ρ=>some (.u (.t []),ρ)
theorem zd6:VE K znE zdC:=by
 intro ρ σ H a ρ' Q r e q;cases e;intro p hp;have sm:=zag hp (.dT []);exact q _ _ (Go.grow r sm) ⟨⟨p,[],rfl,zD,.nil⟩,fun _=>⟨p,rfl,hp⟩⟩
def zel(i:Nat)(my mv:ME):MS:=fun ρ=>(ρ[i]?).join.bind fun _=>(mv ρ).bind fun p=>(my p.2).bind fun q=>(p.1.get q.2).bind fun x=>(q.1.get q.2).bind fun y=>match x,y,q.2[i]? with
 | .d x,.d y,some (some (.t kvs))=>(zaZ y).bind fun k=>if kvs.length < sizeLine then some (.nx (q.2.set i (some (.t (zhd kvs k x)))))else none
 | .d x,.d y,some (some (.k kvs))=>(znU y).bind fun k=>if kvs.length < sizeLine then some (.nx (q.2.set i (some (.k (zhd kvs k x)))))else none
 | _,_,_=>none
theorem zgb{i:Nat}{ty tv:TE}{my mv:ME}(hy:VE K ty my)(hv:VE K tv mv):VS K pn EX (zrt K (zes i) ty tv) (zel i my mv):=by
 intro σ₀ A H₀ H₁ ρ σ H f D s e k;replace e:=bQ e;obtain⟨w0,e0,e⟩:=e;replace e:=bQ e;obtain⟨⟨a,ρ1⟩,e1,e⟩:=e;replace e:=bQ e;obtain⟨⟨b,ρ2⟩,e2,e⟩:=e;replace e:=bQ e;obtain⟨u,eu,e⟩:=e;replace e:=bQ e;obtain⟨w,ew,e⟩:=e;obtain⟨v0,ev0,_⟩:=s.rs.rep i w0 (join_some e0);refine hv ρ σ H a ρ1 _ s.rs e1 fun v H1 g1 k1=>⟨v0,ev0,?_⟩;refine hy ρ1 σ H1 b ρ2 _ g1.rs e2 fun y H2 g2 k2=>?_;have pv:=k1.later s.rs g1 g2 eu;have py:=k2.now g1.rs g2 ew;dsimp only at e;split at e
 ·rename_i x yd kvs ex
  replace e:=bQ e;obtain⟨ks,ek,e⟩:=e;split at e
  ·rename_i hz
   cases e;obtain⟨w',ew',p1⟩:=g2.rs.rep i _ ex;obtain⟨l,us,rfl,hl,ds⟩:=p1;rw [ev0]at ew';cases ew';obtain⟨kb,rfl,hkb⟩:=zgy py ek;refine⟨l,_,rfl,zl3.t hl hkb (by rw [ds.len]; exact hz),k _ _ ((s.go (g1.trans g2)).go (Go.own (u':=.t (zhd kvs ks x)) g2.rs ex rfl ev0 ?_))⟩;have kp:=zcp hl trivial (.dT (zc9 us ks v));exact⟨l,_,rfl,zD,(ds.kp kp).put ks (DF.kp kp pv)⟩
  ·cases e
 ·rename_i x yd kvs ex
  replace e:=bQ e;obtain⟨ks,ek,e⟩:=e;split at e
  ·rename_i hz
   cases e;obtain⟨w',ew',p1⟩:=g2.rs.rep i _ ex;obtain⟨l,us,rfl,hl,ds⟩:=p1;rw [ev0]at ew';cases ew';cases zr7 py ek;refine⟨l,_,rfl,zl3.k hl (by rw [ds.len]; exact hz),k _ _ ((s.go (g1.trans g2)).go (Go.own (u':=.k (zhd kvs ks x)) g2.rs ex rfl ev0 ?_))⟩;have kp:=zcp hl trivial (.dK (zc9 us ks v));exact⟨l,_,rfl,zD,(ds.kp kp).put ks (DF.kp kp pv)⟩
  ·cases e
 ·cases e
def zfu:U->Option (List D)
 | .d (.dict kvs)=>if noX kvs=true then some (kvs.map (·.1))else none
 | _=>none
theorem zmo:∀ {ws:List (List Key×V)} {kvs:List (D×D)},DFt K H ws kvs->kvs.map (·.1)=ws.map fun p=>kTD p.1
 | [],_,.nil=>rfl
 | _::_,_,.cons _ t=>by rw [List.map_cons,List.map_cons,zmo t]
theorem zd7{te:TE}{me:ME}(h:VE K te me):VI K (zrR K te) (mIt zfu me):=by
 intro ρ σ H ds ρ' R r e q;obtain⟨⟨a,ρ1⟩,e1,e⟩:=bQ e;obtain⟨u,eu,e⟩:=bQ e;obtain⟨xs,ex,e⟩:=bQ e;cases e;refine h ρ σ H a _ _ r e1 fun v H1 g1 k1=>?_;have p:=k1.now r g1 eu;unfold zfu at ex;split at ex
 ·split at ex
  rotate_left
  ·cases ex
  rename_i nx;cases ex;obtain⟨b,o,ws,rfl,h1,h2⟩:=DF.dct_inv p nx;refine⟨b,ws,rfl,.inr ⟨o,h1,q _ _ g1 fun H2 k i=>?_⟩⟩;rw [zmo h2];have h1':=k.frz _ _ _ h1;refine⟨fun d ed=>?_,fun ei=>?_⟩
  ·rw [List.getElem?_map]at ed
   obtain⟨⟨ks,w⟩,ew,rfl⟩:=qt.mp ed;refine⟨⟨h1',(qm.mp ew).1⟩,fun x H' y=>?_⟩;obtain⟨rfl,y⟩:=y;obtain⟨kb,rfl,hkb⟩:=y ks w ew;exact⟨fun _ _ z=>z,.tup hkb zif⟩
  ·rw [List.length_map]at ei
   exact⟨h1',Nat.le_of_eq ei.symm⟩
 ·cases ex
end
section
variable {K:qe} {pn:List Nat} {ρ ρ':En} {σ:St} {H H':Hp}
abbrev MO:=En->Option (Option Int×En)
def zve(K:qe)(t:TO)(m:MO):Prop :=
 ∀ (ρ:En) (σ:St) (H:Hp) (o:Option Int) (ρ':En) (Q:Option Int->Hp->Prop),Rs K ρ σ H->m ρ=some (o,ρ')->(∀ H',Go K ρ σ H ρ' H'->Q o H')->t σ H Q
def zfa:MO:=fun ρ=>some (none,ρ)
def zkr(me:ME):MO:=fun ρ=>(me ρ).bind fun p=>(p.1.get p.2).bind fun u=>match u with | .d (.int i)=>some (some i,p.2) | _=>none
theorem zlk:zve K zkQ zfa:=fun ρ σ H o ρ' Q r e q=>by cases e; exact q H (Go.refl r)
theorem zll{te:TE}{me:ME}(h:VE K te me):zve K (zrj te) (zkr me):=by
 intro ρ σ H o ρ' Q r e q;replace e:=bQ e;obtain⟨⟨a,ρ1⟩,e1,e⟩:=e;replace e:=bQ e;obtain⟨u,eu,e⟩:=e;refine h ρ σ H a ρ1 _ r e1 fun v H1 g1 k1=>?_;have p:=k1.now r g1 eu;dsimp only at e;split at e
 ·rename_i i
  cases e;exact⟨i,DF.int_inv p,q _ g1⟩
 ·cases e
def ziZ(xs:List D)(lo hi:Option Int):List D:=(xs.drop (HT.sIx xs.length 0 lo)).take (HT.sIx xs.length xs.length hi - HT.sIx xs.length 0 lo)
theorem DFs.cut{xs:List V}{ds:List D}(h:DFs K H xs ds)(lo hi:Option Int):DFs K H (zlZ xs lo hi) (ziZ ds lo hi):=by
 unfold zlZ ziZ;rw [h.len];exact(h.drop _).take _
def VSl(K:qe)(r:V->Option Int->Option Int->Hp->VK->Prop)(f:U->Option Int->Option Int->Option U):Prop :=
 ∀ (x:V) (a u:U) (lo hi:Option Int) (H:Hp) (Q:VK),Rp K H x a->f a lo hi=some u->(∀ v H',zbN H H'->Rp K H' v u->Nw H v u->Q v H')->r x lo hi H Q
def mSl(f:U->Option Int->Option Int->Option U)(me:ME)(ml mh:MO):ME:=fun ρ=>(me ρ).bind fun p=>(ml p.2).bind fun l=>(mh l.2).bind fun h=>(p.1.get h.2).bind fun x=>(f x l.1 h.1).bind fun u=>some (.u u,h.2)
theorem zyG{r:V->Option Int->Option Int->Hp->VK->Prop}{f:U->Option Int->Option Int->Option U}{te:TE}{tl th:TO}{me:ME}{ml mh:MO}(hs:VSl K r f)(he:VE K te me)(hl:zve K tl ml)(hh:zve K th mh):VE K (tSl r te tl th) (mSl f me ml mh):=by
 intro ρ σ H a ρ' Q rs e q;obtain⟨⟨a1,ρ1⟩,e1,e⟩:=bQ e;obtain⟨⟨lo,ρ2⟩,e2,e⟩:=bQ e;obtain⟨⟨hi,ρ3⟩,e3,e⟩:=bQ e;obtain⟨x,ex,e⟩:=bQ e;obtain⟨u,eu,e⟩:=bQ e;cases e;refine he ρ σ H a1 ρ1 _ rs e1 fun v1 H1 g1 k1=>hl ρ1 σ H1 lo ρ2 _ g1.rs e2 fun H2 g2=>hh ρ2 σ H2 hi _ _ g2.rs e3 fun H3 g3=>?_;refine hs _ x u lo hi H3 _ (k1.later rs g1 (g2.trans g3) ex) eu fun v H4 s p n=>?_;have g:=g1.trans (g2.trans g3);exact q v H4 (g.trans (Go.grow g.rs s)) ⟨p,n.mono g.dm⟩
def zqx(u:U)(lo hi:Option Int):Option U:=match u with
 | .l xs=>some (.l (ziZ xs lo hi))
 | .d (.list xs)=>some (.l (ziZ xs lo hi))
 | _=>none
theorem zlm:VSl K (zyi K) zqx:=by
 intro x a u lo hi H Q p e q;unfold zqx at e;split at e
 ·cases e
  obtain⟨b,us,rfl,h1,h2⟩:=p;refine⟨b,us,rfl,SqL.of h1,fun l hl=>?_⟩;have sm:=zag hl (.lst (zlZ us lo hi));exact q _ _ sm ⟨l,_,rfl,zD,(h2.cut lo hi).kp sm.kp⟩ fun _=>⟨l,rfl,hl⟩
 ·cases e
  obtain⟨b,us,rfl,h1,h2⟩:=DF.lst_inv p;refine⟨b,us,rfl,h1.sq,fun l hl=>?_⟩;have sm:=zag hl (.lst (zlZ us lo hi));exact q _ _ sm ⟨l,_,rfl,zD,(h2.cut lo hi).kp sm.kp⟩ fun _=>⟨l,rfl,hl⟩
 ·cases e
def zBy(u:U)(lo hi:Option Int):Option U:=match u with
 | .d (.tuple xs)=>some (.d (.tuple (ziZ xs lo hi)))
 | _=>none
def zmp:U->U->Option U
 | .d (.tuple xs),.d (.tuple ys)=>if xs≠[]/\xs.length+ys.length<=sizeLine then some (.d (.tuple (xs++ys)))else none
 | _,_=>none
theorem zvf:VO K (zrl K) zmp:=by
 intro x y a b u H Q ha hb e q;unfold zmp at e;split at e
 ·split at e
  ·rename_i xs ys hc
   cases e;obtain⟨p,us,rfl,h1,h2⟩:=DF.tup_inv ha;obtain⟨p',us',rfl,h1',h2'⟩:=DF.tup_inv hb;refine⟨p,p',us,us',rfl,rfl,(TpK.sq h1),(TpK.sq h1'),?_,by rw [h2.len,h2'.len]; exact hc.2,fun z=>?_,fun _ r hr=>?_⟩
   ·rintro rfl
    cases h2;exact hc.1 rfl
   ·subst z
    cases h2';exact q _ _ (fun _ _ z=>z) (by rw [List.append_nil]; exact .tup h1 h2) Nw.data
   ·have s:=zag hr (.tup (us++us'))
    exact q _ _ s (.tup (.inl zD) ((h2.app h2').kp s.kp)) Nw.data
  ·cases e
 ·cases e
def zz9:List Int->Int->Int
 | [],d=>d
 | n::ns,_=>ns.foldl (fun a b=>if a < b then b else a) n
def zBx:List U->List U->Option U
 | [u],[.d (.int d)]=>u.items.bind fun xs=>(ziV xs).map fun ns=>.d (.int (zz9 ns d))
 | _,_=>none
theorem zhv{α:Type}{r:α->α->Prop}(as:∀ a b,r a b->¬r b a):∀ {L M:List α},L.Perm M->L.Pairwise r->M.Pairwise r->L=M
 | [],M,p,_,_=>(List.nil_perm.mp p).symm▸rfl
 | a::L,[],p,_,_=>by have:=p.length_eq; simp at this
 | a::L,b::M,p,h1,h2=>by
  obtain⟨a1,a2⟩:=List.pairwise_cons.mp h1;obtain⟨b1,b2⟩:=List.pairwise_cons.mp h2;have e:a=b:=by
   rcases qw.mp (p.mem_iff.mp (qq (a:=a) (l:=L)))with z | z
   ·exact z
   ·rcases qw.mp (p.mem_iff.mpr (qq (a:=b) (l:=M)))with y | y
    ·exact y.symm
    ·exact absurd (b1 a z) (as a b (a1 b y))
  subst e;rw [zhv as p.cons_inv a2 b2]
def pk:D->Option (List Int)
 | .tuple [.tuple ks,_]=>ziV ks
 | _=>none
def pks:List D->Option (List (List Int))
 | []=>some []
 | d::ds=>(pk d).bind fun k=>(pks ds).bind fun ks=>some (k::ks)
def LtP(a b:D):Prop:=∃ k m,pk a=some k/\pk b=some m/\zb7 k m=true
theorem LtP.asym(a b:D)(h:LtP a b):¬LtP b a:=by
 rintro⟨k',m',e1,e2,h'⟩;obtain⟨k,m,e3,e4,h⟩:=h;rw [e3]at e2;rw [e4]at e1;cases e1;cases e2;have:=zcD h h';rw [zd3]at this;cases this
open Classical in
def zo0(xs:List D):List D:=if h:∃ L,L.Perm xs/\L.Pairwise LtP then h.choose else []
theorem zmq{xs L:List D}(p:L.Perm xs)(s:L.Pairwise LtP):zo0 xs=L:=by
 have h:∃ L:List D,L.Perm xs/\L.Pairwise LtP:=⟨L,p,s⟩;unfold zo0;rw [dif_pos h];exact zhv LtP.asym (h.choose_spec.1.trans p.symm) h.choose_spec.2 s
def U.lst:U->Option (List D)
 | .l xs=>some xs
 | .d (.list xs)=>some xs
 | _=>none
theorem Rp.lst{v:V}{u:U}{xs:List D}(h:Rp K H v u)(e:u.lst=some xs):∃ p ys,v=.ref p/\SqL K H p ys/\DFs K H ys xs:=by
 cases u with
 | d x =>
  cases x with
  | list ds=>cases e; obtain⟨a,ys,rfl,h1,h2⟩:=DF.lst_inv h; exact⟨a,ys,rfl,h1.sq,h2⟩
  | _=>cases e
 | l ds=>cases e; obtain⟨a,ys,rfl,h1,h2⟩:=h; exact⟨a,ys,rfl,SqL.of h1,h2⟩
 | t=>cases e
 | k=>cases e
def zln(u:U):Option U:=u.lst.bind fun xs=>(pks xs).bind fun ks=>if xs.length < 64/\ks.Nodup then some (.l (zo0 xs))else none
theorem zo1:∀ {xs:List D} {ks:List (List Int)},pks xs=some ks->ks.length=xs.length
 | [],ks,e=>by cases e; rfl
 | x::xs,ks,e=>by
  obtain⟨k,e1,e⟩:=bQ e;obtain⟨ks',e2,e⟩:=bQ e;cases e;simp [zo1 e2]
theorem zlo:∀ {xs:List D} {ks:List (List Int)} {i:Nat} {x:D},pks xs=some ks->xs[i]?=some x->pk x=some (ks.getD i [])
 | [],ks,i,x,e,ex=>by simp at ex
 | y::xs,ks,i,x,e,ex=>by
  obtain⟨k,e1,e⟩:=bQ e;obtain⟨ks',e2,e⟩:=bQ e;cases e;cases i with
  | zero=>cases(show some y=some x from ex); exact e1
  | succ i=>exact zlo (i:=i) e2 ex
theorem zmr:VC K (zrO K) (f1 zln):=zmh fun v a u H Q h e q=>by
 obtain⟨xs,ex,e⟩:=bQ e;obtain⟨ks,ek,e⟩:=bQ e;split at e
 ·rename_i hc
  cases e;obtain⟨p,ys,rfl,sq,ds⟩:=h.lst ex;have ly:=ds.len;have lk:=zo1 ek;refine⟨p,ys,ks,rfl,sq,by omega,⟨by omega,fun i v ev=>?_⟩,hc.2,fun is r hp hs hr=>?_⟩
  ·obtain⟨d,ed,dv⟩:=ds.get' ev
   have kd:=zlo ek ed;unfold pk at kd;split at kd
   ·rename_i kk y
    obtain⟨a,zs,rfl,h1,h2⟩:=DF.tup_inv dv;cases h2 with
    | @cons z1 _ _ _ h3 t =>
     cases t with
     | @cons z2 _ _ _ h4 t =>
      cases t;obtain⟨b,ns,rfl,h5,h6⟩:=DF.tup_inv h3;exact⟨a,b,z2,rfl,(TpK.sq h1),by rw [<-zrW h6 kd]; exact(TpK.sq h5)⟩
   ·cases kd
  ·have sm:=zag hr (.lst (is.map fun i=>ys.getD i .non))
   have lt:∀ i∈is,i < xs.length:=fun i hi=>by
    have:=List.mem_range.mp (hp.mem_iff.mp hi);omega
   have ext:(List.range xs.length).map (fun i=>xs.getD i .none)=xs:=by
    apply List.ext_getElem?;intro j;rw [List.getElem?_map]
    by_cases hj:j < xs.length
    ·rw [List.getElem?_range hj,Option.map_some,qC,qo hj]
     rfl
    ·rw [List.getElem?_eq_none (by simpa using hj),List.getElem?_eq_none (by omega)]
     rfl
   have hperm:(is.map fun i=>xs.getD i .none).Perm xs:=by
    have:=hp.map fun i=>xs.getD i .none;rw [ly,ext]at this;exact this
   have hsort:(is.map fun i=>xs.getD i .none).Pairwise LtP:=by
    rw [List.pairwise_map]at hs ⊢;refine hs.imp_of_mem fun{i j} hi hj hij=>?_;have gi:=qo (lt i hi);have gj:=qo (lt j hj);refine⟨_,_,?_,?_,hij⟩
    ·rw [qC,gi]
     exact zlo ek gi
    ·rw [qC,gj]
     exact zlo ek gj
   rw [zmq hperm hsort]at q;refine q _ _ sm ⟨r,_,rfl,zD,?_⟩ fun _=>⟨r,rfl,hr⟩;refine DFs.kp sm.kp ?_;clear hs hp hperm hsort q sm
   induction is with
   | nil=>exact .nil
   | cons i is ih =>
    refine .cons ?_ (ih fun j hj=>lt j (qp _ hj));have gi:=qo (lt i qq);obtain⟨v,ev,dv⟩:=ds.get gi;dsimp only;rw [qC,qC,gi,ev];exact dv
 ·cases e
end
section
variable {K:qe} {pn:List Nat} {ρ ρ':En} {σ:St} {H H':Hp}
def zAa(ma:MA):ME:=fun ρ=>(ma ρ).bind fun p=>(zbd p.2 p.1).bind fun us=>match us with
 | [.d (.int j)]=>if(-(2^62)<=j/\j < 2^62)/\j.toNat<=sizeLine then some (.u (.l (zbf 0 j.toNat)),p.2)else none
 | _=>none
def zgz:MT:=fun ρ=>some (true,ρ)
theorem zcW:VT K zyr zgz:=fun ρ σ H b ρ' Q r e q=>by cases e; exact q H (Go.refl r)
def sV:D->Option V
 | .none=>some .non
 | .bool b=>some (.bl b)
 | .int i=>some (.int i)
 | .str x=>some (.str x)
 | _=>none
theorem zvg{x:D}{v w:V}(h:DF K H v x)(e:sV x=some w):v=w:=by
 cases h<;>cases e<;>rfl
def zaQ(neg:Bool):U->U->Option U
 | .d x,.d y=>(sV x).bind fun v=>(sV y).bind fun w=>if zx6 v w=true then some (.d (.bool (if neg=true then !decide (v=w)else decide (v=w))))else none
 | _,_=>none
theorem zaC:VO K rEq (zaQ false):=by
 intro x y a b u H Q ha hb e q;unfold zaQ at e;split at e
 ·obtain⟨v,ev,e⟩:=bQ e
  obtain⟨w,ew,e⟩:=bQ e;split at e
  ·rename_i hs
   cases e;cases zvg ha ev;cases zvg hb ew;exact⟨hs,q _ _ (fun _ _ z=>z) (.bl _) Nw.data⟩
  ·cases e
 ·cases e
theorem zd8:VO K rNe (zaQ true):=by
 intro x y a b u H Q ha hb e q;unfold zaQ at e;split at e
 ·obtain⟨v,ev,e⟩:=bQ e
  obtain⟨w,ew,e⟩:=bQ e;split at e
  ·rename_i hs
   cases e;cases zvg ha ev;cases zvg hb ew;exact⟨hs,q _ _ (fun _ _ z=>z) (.bl _) Nw.data⟩
  ·cases e
 ·cases e
def zi0:U->Bool
 | .d .none=>true
 | _=>false
def znX(neg:Bool):U->U->Option U
 | a,.d .none=>some (.d (.bool (if neg=true then !zi0 a else zi0 a)))
 | _,_=>none
theorem zvh{a:U}{v:V}(h:Rp K H v a):decide (v=.non)=zi0 a:=by
 cases a with
 | d x=>cases(show DF K H v x from h)<;>simp [zi0]
 | l=>obtain⟨_,_,rfl,_⟩:=h; simp [zi0]
 | t=>obtain⟨_,_,rfl,_⟩:=h; simp [zi0]
 | k=>obtain⟨_,_,rfl,_⟩:=h; simp [zi0]
theorem zlp:VO K (fun x y H Q=>y=.non/\Q (.bl (!decide (x=.non))) H) (znX true):=by
 intro x y a b u H Q ha hb e q;unfold znX at e;split at e
 ·cases e
  refine⟨by cases hb; rfl,?_⟩;rw [zvh ha];exact q _ _ (fun _ _ z=>z) (.bl _) Nw.data
 ·cases e
theorem zyH{F:FD}{a:Addr}{ns:List Int}{E:XK}(hO:zu0 H)(hS:SqL K H a (ns.map V.int))(h:∃ outs,F [.d (.list (ns.map .int))]=some (.d (.bool true),outs)):spV K 1 F [.ref a] H (fun v _=>v=.bl true) E:=by
 obtain⟨outs,ho⟩:=h;have pl:PL K H a (ns.map V.int):=by
  rcases hS with (h | ⟨o,h⟩) | h
  ·rcases hO a with z | ⟨o,xs,z⟩
   ·rw [z]at h; cases h
   ·rw [z]at h; cases h
  ·exact .inl ⟨o,h⟩
  ·exact .inr h
 have dd:DFs K H (ns.map V.int) (ns.map PyData.int):=by
  clear ho hS pl
  induction ns with
  | nil=>exact .nil
  | cons n ns ih=>exact .cons (.int n) ih
 refine⟨[.d (.list (ns.map .int))],.d (.bool true),outs,rfl,⟨rfl,fun i u e=>?_,fun i j u w ei ej ou ow es=>?_⟩,ho,fun v H' g p n=>DF.bl_inv p⟩
 ·have e':=zbZ.mp e
  cases i with
  | zero=>cases e'; exact⟨.ref a,rfl,DF.lst pl dd⟩
  | succ i=>simp at e'
 ·have e':=zbZ.mp ei
  cases i with
  | zero=>cases e'; cases ou
  | succ i=>simp at e'
end
section
variable {ρ:En} {me ma mb mk mi md my mv:ME} {mA mK:MA} {mt mu:MT} {m1 m2:MS} {i j:Nat} {u:U} {x:D} {f:U->U->Option U}
theorem bd{α β:Type}{a:α}{f:α->Option β}:(some a).bind f=f a:=rfl
theorem zwu{u:U}:Ar.get ρ (.u u)=some u:=rfl
theorem zr8:Ar.get ρ (.s i)=(ρ[i]?).join:=rfl
theorem zo2{u:U}:(some (some u)).join=some u:=rfl
theorem zyI:zj i ρ=(ρ[i]?).join.bind fun _=>some (.s i,ρ):=by
 unfold zj;cases ρ[i]? with
 | none=>rfl
 | some o=>cases o<;>rfl
theorem zBn:mC x ρ=some (.u (.d x),ρ):=rfl
theorem zAb:mOp f ma mb ρ=(ma ρ).bind fun p=>(mb p.2).bind fun q=>(p.1.get q.2).bind fun x=>(q.1.get q.2).bind fun y=>(f x y).bind fun u=>some (.u u,q.2):=rfl
theorem zAc{f:U->Option U}:mUn f ma ρ=(ma ρ).bind fun p=>(p.1.get p.2).bind fun x=>(f x).bind fun u=>some (.u u,p.2):=rfl
theorem zyJ:zq ρ=some ([],ρ):=rfl
theorem zvi:zf me mA ρ=(me ρ).bind fun p=>(mA p.2).bind fun q=>some (p.1::q.1,q.2):=rfl
theorem zms:zbd ρ []=some []:=rfl
theorem zks{a:Ar}{as:List Ar}:zbd ρ (a::as)=(a.get ρ).bind fun u=>(zbd ρ as).bind fun us=>some (u::us):=rfl
theorem zkt:zcT []=some []:=rfl
theorem zi1{us:List U}:zcT (.d x::us)=(zcT us).bind fun xs=>some (x::xs):=rfl
theorem zyK:zbe mA ρ=(mA ρ).bind fun p=>(zbd p.2 p.1).bind fun us=>(zcT us).bind fun ds=>if ds.length<=sizeLine then some (.u (.d (.tuple ds)),p.2)else none:=rfl
theorem zyL:zeu mA ρ=(mA ρ).bind fun p=>(zbd p.2 p.1).bind fun us=>(zcT us).bind fun ds=>if ds.length<=sizeLine then some (.u (.l ds),p.2)else none:=rfl
theorem zAd{f:List U->Option U}:mCB f mA ρ=(mA ρ).bind fun p=>(zbd p.2 p.1).bind fun us=>(f us).bind fun u=>some (.u u,p.2):=rfl
theorem zyM{f:FD}:zN f mA ρ=(mA ρ).bind fun p=>if zeG p.2 p.1=true then(zbd p.2 p.1).bind fun us=>(f us).bind fun o=>some (.u o.1,wb p.2 p.1 o.2)else none:=rfl
theorem zmt:zeG ρ []=true:=rfl
theorem zr9{as:List Ar}:zeG ρ (.u u::as)=zeG ρ as:=rfl
theorem zyN{as:List Ar}:zeG ρ (.s j::as)=((match ρ[j]? with | some (some u)=>!u.own || !(as.any fun a=>match a with | .s k=>decide (k=j) | _=>false) | _=>true) && zeG ρ as):=rfl
theorem zAe{as:List Ar}{o:U}{os:List U}:wb ρ (.s j::as) (o::os)=wb (ρ.set j (some o)) as os:=rfl
theorem zAf{as:List Ar}{o:U}{os:List U}:wb ρ (.u u::as) (o::os)=wb ρ as os:=rfl
theorem zsa:wb ρ [] []=ρ:=rfl
def zsb(m2:MS):Fl->Option Fl
 | .nx ρ'=>m2 ρ'
 | f=>some f
theorem bind_fn{α β:Type}{o:Option α}{f g:α->Option β}(h:∀ a,f a=g a):o.bind f=o.bind g:=by cases o with | none=>rfl | some a=>exact h a
theorem zyO:zA m1 m2 ρ=(m1 ρ).bind (zsb m2):=bind_fn fun f=>by cases f<;>rfl
theorem zo3:zsb m2 (.nx ρ)=m2 ρ:=rfl
theorem zo4:zsb m2 (.rt u ρ)=some (.rt u ρ):=rfl
theorem zo5:zsb m2 (.ct ρ)=some (.ct ρ):=rfl
def U.dat:U->Option U
 | .d x=>some (.d x)
 | _=>none
theorem zwv:U.dat (.d x)=some (.d x):=rfl
theorem zww:put (.s i,ρ)=(ρ[i]?).join.bind fun u=>u.dat.bind fun d=>some (d,ρ):=by
 unfold put;dsimp only;cases ρ[i]? with
 | none=>rfl
 | some o =>
  cases o with
  | none=>rfl
  | some u=>cases u<;>rfl
theorem zwx:put (.u u,ρ)=some (u,ρ):=rfl
theorem zyP:zZ i me ρ=(me ρ).bind fun p=>(put p).bind fun q=>some (.nx (q.2.set i (some q.1))):=rfl
theorem zyQ:zak me ρ=(me ρ).bind fun p=>(put p).bind fun q=>some (.rt q.1 q.2):=rfl
theorem zvj{pn:List Nat}:zdM pn i ρ=if i∈pn then none else(ρ[i]?).join.bind fun u=>some (.rt u (ρ.set i none)):=by
 unfold zdM;split
 ·rfl
 ·cases ρ[i]? with
  | none=>rfl
  | some o=>cases o<;>rfl
theorem zvk:zap ρ=some (.nx ρ):=rfl
theorem zvl:zaP me ρ=(me ρ).bind fun p=>some (.nx p.2):=rfl
theorem zyR:zay mt m1 m2 ρ=(mt ρ).bind fun p=>if p.1=true then m1 p.2 else m2 p.2:=rfl
theorem zAg:mIf mt ma mb ρ=(mt ρ).bind fun p=>if p.1=true then ma p.2 else mb p.2:=rfl
def U.bol:U->Option Bool
 | .d (.bool b)=>some b
 | _=>none
theorem zwy{b:Bool}:U.bol (.d (.bool b))=some b:=rfl
theorem zBo:mB me ρ=(me ρ).bind fun p=>(p.1.get p.2).bind fun u=>u.bol.bind fun b=>some (b,p.2):=by
 unfold mB;congr 1
 funext p
 congr 1
 funext u
 cases u with
 | d x=>cases x<;>rfl
 | l=>rfl
 | t=>rfl
 | k=>rfl
theorem zyS:znS mt mu ρ=(mt ρ).bind fun p=>if p.1=true then mu p.2 else some (false,p.2):=rfl
theorem zAh:mOr mt mu ρ=(mt ρ).bind fun p=>if p.1=true then some (true,p.2)else mu p.2:=rfl
theorem zyT:zdL mt ρ=(mt ρ).bind fun p=>some (!p.1,p.2):=rfl
theorem zvm:zft ma mb ρ=(mB ma ρ).bind fun p=>if p.1=true then mb p.2 else some (.u (.d (.bool false)),p.2):=rfl
theorem zvn:zmj ma ρ=(mB ma ρ).bind fun p=>some (.u (.d (.bool (!p.1))),p.2):=rfl
theorem zyU:zvb ma ρ=(ma ρ).bind fun p=>(p.1.get p.2).bind fun u=>u.tru.bind fun b=>some (b,p.2):=rfl
theorem zo6{n:Int}:U.tru (.d (.int n))=some (n != 0):=rfl
theorem zyV:zgz ρ=some (true,ρ):=rfl
def U.lo:U->Option (List D)
 | .l xs=>some xs
 | _=>none
theorem zAi{xs:List D}:U.lo (.l xs)=some xs:=rfl
def U.da:U->Option D
 | .d x=>some x
 | _=>none
theorem zAj:U.da (.d x)=some x:=rfl
def U.num:U->Option Int
 | .d (.int i)=>some i
 | _=>none
theorem zwz{n:Int}:U.num (.d (.int n))=some n:=rfl
theorem zyW:zbV i me ρ=(ρ[i]?).join.bind fun w=>w.lo.bind fun _=>(me ρ).bind fun p=>(p.1.get p.2).bind fun u=>u.da.bind fun x=>(p.2[i]?).join.bind fun w=>w.lo.bind fun xs=>if xs.length < sizeLine then some (.u (.d .none),p.2.set i (some (.l (xs++[x]))))else none:=by
 unfold zbV;cases ρ[i]? with
 | none=>rfl
 | some o =>
  cases o with
  | none=>rfl
  | some w =>
   cases w with
   | l xs0 =>
    show((me ρ).bind _)=((me ρ).bind _);congr 1
    funext p
    congr 1
    funext u
    cases u with
    | d x =>
     show(match U.d x,p.2[i]? with | .d x,some (some (.l xs))=>_ | _,_=>none)=((p.2[i]?).join.bind _);cases p.2[i]? with
     | none=>rfl
     | some o =>
      cases o with
      | none=>rfl
      | some w=>cases w<;>rfl
    | l=>rfl
    | t=>rfl
    | k=>rfl
   | d=>rfl
   | t=>rfl
   | k=>rfl
theorem zsc:zga i me mi ρ=(ρ[i]?).join.bind fun _=>(me ρ).bind fun p=>(mi p.2).bind fun q=>(p.1.get q.2).bind fun u=>(q.1.get q.2).bind fun w=>u.da.bind fun x=>w.num.bind fun k=>(q.2[i]?).join.bind fun z=>z.lo.bind fun xs=>(ixN xs.length k).bind fun j=>some (.nx (q.2.set i (some (.l (xs.set j x))))):=by
 unfold zga;congr 1; funext _; congr 1; funext p; congr 1; funext q; congr 1; funext u; congr 1; funext w;cases u with
 | d x =>
  cases w with
  | d y =>
   cases y with
   | int k =>
    show(match U.d x,U.d (.int k),q.2[i]? with | .d x,.d (.int k),some (some (.l xs))=>_ | _,_,_=>none)=((q.2[i]?).join.bind _);cases q.2[i]? with
    | none=>rfl
    | some o =>
     cases o with
     | none=>rfl
     | some w=>cases w<;>rfl
   | _=>rfl
  | l=>rfl
  | t=>rfl
  | k=>rfl
 | l=>rfl
 | t=>rfl
 | k=>rfl
theorem zvo:zcV md my ρ=(md ρ).bind fun p=>(my p.2).bind fun q=>(p.1.get q.2).bind fun u=>(q.1.get q.2).bind fun y=>(zjQ u y).bind fun o=>o.bind fun d=>some (.u (.d d),q.2):=rfl
theorem zsd:zdC ρ=some (.u (.t []),ρ):=rfl
def kFz(x:D):Ar×En->En
 | (.s i,ρ)=>ρ.set i (some (.d x))
 | (.u _,ρ)=>ρ
theorem zAk:mFz me ρ=(me ρ).bind fun p=>(p.1.get p.2).bind fun u=>u.fz.bind fun x=>some (.u (.d x),kFz x p):=by
 unfold mFz;congr 1; funext p; congr 1; funext u; congr 1; funext x;obtain⟨a,ρ1⟩:=p;cases a<;>rfl
theorem zwA:kFz x (.s i,ρ)=ρ.set i (some (.d x)):=rfl
theorem zwB:kFz x (.u u,ρ)=ρ:=rfl
theorem zAl:U.fz (.d x)=some x:=rfl
theorem zAm{xs:List D}:U.fz (.l xs)=some (.list xs):=rfl
theorem zAn{kvs:List (List Key×D)}:U.fz (.t kvs)=some (.dict (kvs.map fun p=>(kTD p.1,p.2))):=rfl
theorem zAo{g:U->Option (List D)}:mIt g me ρ=(me ρ).bind fun p=>(p.1.get p.2).bind fun u=>(g u).bind fun ds=>some (ds,p.2):=rfl
theorem zse{xs:List D}:zqv (.d (.list xs))=some xs:=rfl
theorem zsf{xs:List D}:zgs (.d (.tuple xs))=some xs:=rfl
theorem zo7{kvs:List (D×D)}:zfu (.d (.dict kvs))=if noX kvs=true then some (kvs.map (·.1))else none:=rfl
def zvp:List U->Option (List D)
 | [.d (.int j)]=>if -(2^62)<=j/\j < 2^62 then some (zbf 0 j.toNat)else none
 | _=>none
theorem zyX{n:Int}:zvp [.d (.int n)]=if -(2^62)<=n/\n < 2^62 then some (zbf 0 n.toNat)else none:=rfl
theorem zvq:zhu mA ρ=(mA ρ).bind fun p=>(zbd p.2 p.1).bind fun us=>(zvp us).bind fun ds=>some (ds,p.2):=bind_fn fun p=>bind_fn fun us=>match us with
 | []=>rfl
 | [.d (.int j)]=>by
  show(if _ then _ else _)=(if _ then _ else _:Option (List D)).bind _;split<;>rfl
 | [.d .none]=>rfl
 | [.d (.bool _)]=>rfl
 | [.d (.str _)]=>rfl
 | [.d (.list _)]=>rfl
 | [.d (.tuple _)]=>rfl
 | [.d (.dict _)]=>rfl
 | [.l _]=>rfl
 | [.t _]=>rfl
 | [.k _]=>rfl
 | .d x::b::us=>by cases x<;>rfl
 | .l x::b::us=>rfl
 | .t x::b::us=>rfl
 | .k x::b::us=>rfl
theorem zyY{mI:MI}{mg:MG}:zb8 mI mg m1 ρ=(mI ρ).bind fun p=>zb0 mg m1 p.1 p.2:=rfl
theorem zAp{mI:MI}{nt:Nat}{js:List Nat}{mg:MG}:mLC mI nt js mg mt me ρ=(mI ρ).bind fun p=>(lcM nt mg mt me p.1 (cEn nt js p.2) []).bind fun q=>some (.u (.l q.1),back js (q.2.drop nt) p.2):=rfl
theorem zAq{f:U->Option Int->Option Int->Option U}{ml mh:MO}:mSl f me ml mh ρ=(me ρ).bind fun p=>(ml p.2).bind fun l=>(mh l.2).bind fun h=>(p.1.get h.2).bind fun x=>(f x l.1 h.1).bind fun u=>some (.u u,h.2):=rfl
theorem zqy:zfa ρ=some (none,ρ):=rfl
theorem zvr:zkr me ρ=(me ρ).bind fun p=>(p.1.get p.2).bind fun u=>u.num.bind fun i=>some (some i,p.2):=bind_fn fun p=>bind_fn fun u=>by
 cases u with
 | d x=>cases x<;>rfl
 | l=>rfl
 | t=>rfl
 | k=>rfl
def zyZ:List U->Option (D×D)
 | [.d x,.d y]=>some (x,y)
 | _=>none
theorem zsg{y:D}:zyZ [.d x,.d y]=some (x,y):=rfl
theorem zy0:zqw i j mA ρ=(mA ρ).bind fun p=>(zbd p.2 p.1).bind fun us=>(zyZ us).bind fun z=>some (.nx ((p.2.set i (some (.d z.1))).set j (some (.d z.2)))):=by
 refine bind_fn fun p=>bind_fn fun us=>?_
 match us with
 | []=>rfl
 | [a]=>cases a<;>rfl
 | [.d x,.d y]=>rfl
 | [.d x,.l y]=>rfl
 | [.d x,.t y]=>rfl
 | [.d x,.k y]=>rfl
 | [.l x,b]=>rfl
 | [.t x,b]=>rfl
 | [.k x,b]=>rfl
 | a::b::c::us=>cases a<;>(try rfl)<;>(cases b<;>rfl)
theorem zy1{mg:MG}:zlf me mg ρ=(me ρ).bind fun p=>(p.1.get p.2).bind fun u=>u.da.bind fun d=>(mg d p.2).bind fun ρ'=>some (.nx ρ'):=by
 unfold zlf;congr 1; funext p; congr 1; funext u;cases u<;>rfl
theorem zsh:zB i x ρ=some (ρ.set i (some (.d x))):=rfl
theorem zvs{n:Nat}{gs:List D->En->Option En}{ds:List D}:zbq n gs (.tuple ds) ρ=if ds.length=n then gs ds ρ else none:=rfl
theorem zsi{g:MG}{gs:List D->En->Option En}{ds:List D}:zY g gs (x::ds) ρ=(g x ρ).bind fun ρ1=>gs ds ρ1:=rfl
theorem zvt:zbG [] ρ=some ρ:=rfl
theorem zku{c:Int->Int->Prop}{g:Int->Int->D}{a b:Int}(h:c a b):fIC c g (.d (.int a)) (.d (.int b))=some (.d (g a b)):=by
 unfold fIC;dsimp only;rw [if_pos h]
theorem zwC{a b:Int}:zbY (.d (.int a)) (.d (.int b))=some (.d (.int (a+b))):=rfl
theorem zwD{a b:Int}:ziR (.d (.int a)) (.d (.int b))=some (.d (.int (a - b))):=rfl
theorem zwE{a b:Int}(h:zp9 a b):zf5 (.d (.int a)) (.d (.int b))=some (.d (.int (a * b))):=zku h
theorem zAr{a b:Int}(h:0 < b):zgq (.d (.int a)) (.d (.int b))=some (.d (.int (a % b))):=zku (c:=fun _ j=>0 < j) h
theorem znY{a b:Int}(h:zkk a b):ziS (.d (.int a)) (.d (.int b))=some (.d (.int (a / b))):=zku h
theorem zhe{a b:Int}(h:ziF a b):zht (.d (.int a)) (.d (.int b))=some (.d (.int (a.fdiv b))):=zku h
theorem zAs{a b:Int}(h:zuG a b):zu8 (.d (.int a)) (.d (.int b))=some (.d (.int (a^b.toNat))):=zku h
theorem zAt{a b:Int}:fLt (.d (.int a)) (.d (.int b))=some (.d (.bool (decide (a < b)))):=rfl
theorem zAu{a b:Int}:fLe (.d (.int a)) (.d (.int b))=some (.d (.bool (decide (a<=b)))):=rfl
theorem zAv{a b:Int}:fGt (.d (.int a)) (.d (.int b))=some (.d (.bool (decide (b < a)))):=rfl
theorem zAw{a b:Int}:fGe (.d (.int a)) (.d (.int b))=some (.d (.bool (decide (b<=a)))):=rfl
theorem zwF{a:Int}:zla (.d (.int a))=some (.d (.int (-a))):=rfl
theorem zwG{a:Int}:zmi (.d (.int a))=some (.d (.int (if a < 0 then -a else a))):=rfl
theorem zsj{b:Bool}:ziU (.d (.bool b))=some (.d (.int (if b then 1 else 0))):=rfl
theorem zsk{a b:Int}:zkp [.d (.int a),.d (.int b)]=some (.d (.int (if b > a then b else a))):=rfl
theorem zAx{f:U->Option U}:f1 f [u]=f u:=rfl
theorem zwH{xs:List D}:zbv (.l xs)=some (.d (.int xs.length)):=rfl
theorem zwI{xs:List D}:zbv (.d (.tuple xs))=some (.d (.int xs.length)):=rfl
theorem zwJ{xs:List D}:zbv (.d (.list xs))=some (.d (.int xs.length)):=rfl
theorem zo8{xs:List D}:zbP (.l xs)=some (.d (.tuple xs)):=rfl
theorem zwK{xs:List D}{k:Int}:zax (.l xs) (.d (.int k))=(atI xs k).map .d:=rfl
theorem zwL{xs:List D}{k:Int}:zax (.d (.list xs)) (.d (.int k))=(atI xs k).map .d:=rfl
theorem zwM{xs:List D}{k:Int}:zac (.d (.tuple xs)) (.d (.int k))=(atI xs k).map .d:=rfl
theorem zwN{xs:List D}{lo hi:Option Int}:zqx (.l xs) lo hi=some (.l (ziZ xs lo hi)):=rfl
theorem zwO{a b:Int}:zaQ false (.d (.int a)) (.d (.int b))=some (.d (.bool (decide (a=b)))):=by
 show some (U.d (.bool (decide (V.int a=V.int b))))=_;congr 3;exact decide_eq_decide.mpr ⟨fun h=>by cases h; rfl,fun h=>by rw [h]⟩
theorem zwP{a b:Int}:zaQ true (.d (.int a)) (.d (.int b))=some (.d (.bool (!decide (a=b)))):=by
 show some (U.d (.bool (!decide (V.int a=V.int b))))=_;congr 4;exact decide_eq_decide.mpr ⟨fun h=>by cases h; rfl,fun h=>by rw [h]⟩
theorem zwQ{a b:Str}:zaQ false (.d (.str a)) (.d (.str b))=some (.d (.bool (decide (a=b)))):=by
 show some (U.d (.bool (decide (V.str a=V.str b))))=_;congr 3;exact decide_eq_decide.mpr ⟨fun h=>by cases h; rfl,fun h=>by rw [h]⟩
def zy2(pn:List Nat)(us:List U):Fl->Option (U×List U)
 | .rt u ρ=>(zbs pn ρ 0 us).bind fun os=>some (u,os)
 | .nx ρ=>(zbs pn ρ 0 us).bind fun os=>some (.d .none,os)
 | _=>none
theorem zy3{n:Nat}{pn:List Nat}{us:List U}:zaz n pn m1 us=(m1 (sm us++List.replicate (n - us.length) none)).bind (zy2 pn us):=by
 exact bind_fn fun f=>by cases f<;>rfl
theorem zo9{pn:List Nat}{us:List U}:zy2 pn us (.rt u ρ)=(zbs pn ρ 0 us).bind fun os=>some (u,os):=rfl
theorem zmu{pn:List Nat}{n:Nat}:zbs pn ρ n []=some []:=rfl
theorem zkv{pn:List Nat}{n:Nat}{us:List U}:zbs pn ρ n (u::us)=(if n∈pn then(ρ[n]?).join.bind fun o=>if o.own=true/\u.own=false then none else some o else if u.own=true then none else some u).bind fun o=>(zbs pn ρ (n+1) us).bind fun os=>some (o::os):=rfl
theorem zwR:U.own (.d x)=false:=rfl
theorem zwS{xs:List D}:U.own (.l xs)=true:=rfl
theorem zsl:sm []=[]:=rfl
theorem zpa{us:List U}:sm (u::us)=some u::sm us:=rfl
theorem zAy{α:Type}{a:α}{xs:List α}:atI (a::xs) 0=some a:=by
 unfold atI ixN;rw [if_pos (by decide),if_pos (by simp only [qv]; omega)];rfl
theorem zAz{α:Type}{a b:α}{xs:List α}:atI (a::b::xs) 1=some b:=by
 unfold atI ixN;rw [if_pos (by decide),if_pos (by simp only [qv]; omega)];rfl
theorem zAA{α:Type}{a b c:α}{xs:List α}:atI (a::b::c::xs) 2=some c:=by
 unfold atI ixN;rw [if_pos (by decide),if_pos (by simp only [qv]; omega)];rfl
theorem zAB{n:Nat}:ixN (n+1) 0=some 0:=by
 unfold ixN;rw [if_pos (by decide),if_pos (by omega)];rfl
theorem zAC{n:Nat}:ixN (n+1+1) 1=some 1:=by
 unfold ixN;rw [if_pos (by decide),if_pos (by omega)];rfl
theorem zAD{a b:Int}(h:b.natAbs < 18446744073709551616):zf5 (.d (.int a)) (.d (.int b))=some (.d (.int (a * b))):=zwE (.inr ⟨by omega,by omega⟩)
theorem zAE{a b:Int}(h:a.natAbs < 18446744073709551616):zf5 (.d (.int a)) (.d (.int b))=some (.d (.int (a * b))):=zwE (.inl ⟨by omega,by omega⟩)
theorem zAF{a b:Int}(h:0 < b):zgq (.d (.int a)) (.d (.int b))=some (.d (.int (a % b))):=zAr h
theorem zAG{a b:Int}(h:0 < b)(h2:b<=340282366920938463463374607431768211456):ziS (.d (.int a)) (.d (.int b))=some (.d (.int (a / b))):=znY (zu1 h (by omega))
theorem zAH{a b:Int}(h:0<=b)(h2:b<=1000000)(h3:a.natAbs < 18446744073709551616):zu8 (.d (.int a)) (.d (.int b))=some (.d (.int (a^b.toNat))):=zAs ⟨h,h2,by omega⟩
theorem zl:sizeLine=16777216:=rfl
theorem zpb{nt:Nat}:reset nt ρ=List.replicate nt none++ρ.drop nt:=rfl
theorem zwT{nt:Nat}{js:List Nat}:cEn nt js ρ=List.replicate nt none++js.map fun j=>ρ.getD j none:=rfl
def noS(j:Nat):List Ar->Bool
 | []=>true
 | .u _::as=>noS j as
 | .s k::as=>!decide (k=j) && noS j as
theorem znZ{j:Nat}:∀ {as:List Ar},noS j as=!(as.any fun a=>match a with | .s k=>decide (k=j) | _=>false)
 | []=>rfl
 | .u _::as=>by rw [List.any_cons]; exact znZ (as:=as)
 | .s k::as=>by
  unfold noS;rw [List.any_cons,znZ (as:=as),Bool.not_or]
def dAt:Option U->Bool
 | some u=>!u.own
 | none=>true
theorem zwU:dAt (some (.d x))=true:=rfl
theorem zwV{xs:List D}:dAt (some (.l xs))=false:=rfl
theorem zwW{xs:List (List Key×D)}:dAt (some (.t xs))=false:=rfl
theorem zpc:noS j []=true:=rfl
theorem zwX{as:List Ar}:noS j (.u u::as)=noS j as:=rfl
theorem zwY{k:Nat}{as:List Ar}:noS j (.s k::as)=(!decide (k=j) && noS j as):=rfl
theorem zpd{as:List Ar}:zeG ρ (.s j::as)=((noS j as || dAt (ρ[j]?).join) && zeG ρ as):=by
 rw [zyN,znZ];congr 1;cases ρ[j]? with
 | none=>simp [dAt]
 | some o =>
  cases o with
  | none=>simp [dAt]
  | some u=>simp [dAt,Bool.or_comm]
theorem zsm{js:List Nat}{us:List (Option U)}:back (j::js) (some u::us) ρ=back js us (ρ.set j (some u)):=rfl
theorem zsn{us:List (Option U)}:back [] us ρ=ρ:=by cases us<;>rfl
theorem zkw:∀ ks:List Int,ziV (ks.map PyData.int)=some ks
 | []=>rfl
 | k::ks=>by show(ziV (ks.map PyData.int)).bind _=_; rw [zkw ks]; rfl
end
structure XT (K:qe) (tab:List (Str×List Str)) (fl:List Str):Prop where
 cl:∀ n ups C,tab.lookup n=some ups->XN K n C->XI K C/\∀ f∈fl,zbD K C f
 is:∀ n ups C,tab.lookup n=some ups->XN K n C->∀ c C',(tab.lookup c).isSome=true->XN K c C'->PySem.W.kitOne K (.ref C) (.ref C')=some (decide (c=n) || ups.contains c)
 isT:∀ n ups C,tab.lookup n=some ups->XN K n C->PySem.W.kitOne K (.ref C) (.type "ValueError")=some (ups.contains ("ValueError":Str))
def zn0(f:Str):List (D×D)->Option D
 | (.str g,d)::ds=>if f=g then some d else zn0 f ds
 | _=>none
section
variable {K:qe} {tab:List (Str×List Str)} {fl:List Str} {f n:Str} {H:Hp}
theorem DFf.get:∀ {fs:List (Str×V)} {ds:List (D×D)} {d:D},DFf K H fs ds->zn0 f ds=some d->∃ v,fs.lookup f=some v/\DF K H v d
 | _,_,_,.nil,e=>by cases e
 | _,_,d,.cons (k:=k) (v:=v) (vs:=vs) h t,e=>by
  unfold zn0 at e;rw [List.lookup_cons];split at e
  ·rename_i q
   cases e;exact⟨v,by rw [show(f==k)=true from beq_iff_eq.mpr q],h⟩
  ·rename_i q
   obtain⟨w,e1,e2⟩:=DFf.get t e;exact⟨w,by rw [show(f==k)=false from beq_eq_false_iff_ne.mpr q]; exact e1,e2⟩
end
section
variable {K:qe} {tab:List (Str×List Str)} {fl:List Str} {f n:Str} {H:Hp}
end
section
variable {X:Cx} {K:qe} {tab:List (Str×List Str)} {fl:List Str} {c n:Str}
end
section
variable {K:qe}
def zgA:U->U->Option U
 | .d (.str i),.d (.str j)=>if i.length+j.length<=sizeLine then some (.d (.str (i++j)))else none
 | _,_=>none
theorem zig:VO K (fun x y H Q=>∃ i j,x=.str i/\y=.str j/\i.length+j.length<=sizeLine/\Q (.str (i++j)) H) zgA:=by
 intro x y a b u H Q ha hb e q;unfold zgA at e;split at e
 ·split at e
  ·rename_i i j hc
   cases e;exact⟨i,j,DF.str_inv ha,DF.str_inv hb,hc,q _ _ (zbN.refl H) (DF.str _) Nw.data⟩
  ·cases e
 ·cases e
def zn1:U->U->Option U
 | .d (.str z),.d (.int i)=>if z.length<=sizeLine then(atI z.cps.toList i).map fun c=>.d (.str ⟨#[c]⟩)else none
 | _,_=>none
theorem zn2:VO K zzR zn1:=by
 intro x y a b u H Q ha hb e q;unfold zn1 at e;split at e
 ·split at e
  ·rename_i z i hc
   obtain⟨c,ec,rfl⟩:=qt.mp e;exact⟨z,i,c,DF.str_inv ha,DF.int_inv hb,hc,ec,q _ _ (zbN.refl H) (DF.str _) Nw.data⟩
  ·cases e
 ·cases e
def mM1(ty:U->Bool)(f:U->U->Option U)(mo ma:ME):ME:=fun ρ=>(mo ρ).bind fun p=>(p.1.get p.2).bind fun x0=>if ty x0=true then(ma p.2).bind fun q=>(p.1.get q.2).bind fun x=>(q.1.get q.2).bind fun y=>(f x y).bind fun u=>some (.u u,q.2)else none
theorem zAI{T:String}{r:V->List V->Hp->VK->Prop}{ty:U->Bool}{f:U->U->Option U}{to ta:TE}{mo ma:ME}(ht:∀ (x:V) (a:U) (H:Hp),Rp K H x a->ty a=true->tyV K T x H)(h:VO K (fun x y H Q=>r x [y] H Q) f)
  (ho:VE K to mo) (ha:VE K ta ma):VE K (tBM K T r to (zfp ta zny)) (mM1 ty f mo ma):=by
 intro ρ σ H a ρ' Q rs e q;obtain⟨⟨a1,ρ1⟩,e1,e⟩:=bQ e;obtain⟨x0,ex0,e⟩:=bQ e;split at e
 rotate_left
 ·cases e
 rename_i hty;obtain⟨⟨b1,ρ2⟩,e2,e⟩:=bQ e;obtain⟨x,ex,e⟩:=bQ e;obtain⟨y,ey,e⟩:=bQ e;obtain⟨u,eu,e⟩:=bQ e;cases e;refine ho ρ σ H a1 ρ1 _ rs e1 fun v1 H1 g1 k1=>⟨ht _ _ _ (k1.now rs g1 ex0) hty,ha ρ1 σ H1 b1 ρ2 _ g1.rs e2 fun v2 H2 g2 k2=>?_⟩;refine h _ _ x y u H2 _ (k1.later rs g1 g2 ex) (k2.now g1.rs g2 ey) eu fun v H3 s p n=>?_;exact q v H3 ((g1.trans g2).trans (Go.grow g2.rs s)) ⟨p,n.mono (g1.trans g2).dm⟩
def tyL:U->Bool
 | .l _=>true
 | .d (.list _)=>true
 | _=>false
def tyS:U->Bool
 | .d (.str _)=>true
 | _=>false
theorem zso(x:V)(a:U)(H:Hp)(h:Rp K H x a)(e:tyS a=true):tyV K "str" x H:=by
 unfold tyS at e;split at e
 ·cases DF.str_inv h; rfl
 ·cases e
def zvu:D->Option Str
 | .str x=>some x
 | _=>none
theorem zi2{H:Hp}:∀ {us:List V} {ds:List D} {ys:List Str},DFs K H us ds->ds.mapM zvu=some ys->us=ys.map V.str
 | _,_,ys,.nil,e=>by cases e; rfl
 | _,_,ys,.cons (d:=d) h t,e=>by
  rw [List.mapM_cons]at e;obtain⟨y,e1,e⟩:=bQ e;obtain⟨ys',e2,e⟩:=bQ e;cases e;cases d with
  | str x=>cases e1; cases DF.str_inv h; rw [zi2 t e2]; rfl
  | _=>cases e1
def zkx:U->U->Option U
 | .d (.str sep),.l ds=>(ds.mapM zvu).bind fun ys=>if(ys.map (·.length)).sum+ys.length * sep.length<=16777216 then some (.d (.str (Txt.join sep ys)))else none
 | .d (.str sep),.d (.list ds)=>(ds.mapM zvu).bind fun ys=>if(ys.map (·.length)).sum+ys.length * sep.length<=16777216 then some (.d (.str (Txt.join sep ys)))else none
 | _,_=>none
theorem zpe:VO K (fun x y H Q=>zwr K x [y] H Q) zkx:=by
 intro x y a b u H Q ha hb e q;unfold zkx at e;split at e
 ·obtain⟨ys,ey,e⟩:=bQ e
  split at e
  ·rename_i hc
   cases e;obtain⟨l,us,rfl,h1,h2⟩:=hb;cases zi2 h2 ey;exact⟨_,l,ys,DF.str_inv ha,rfl,SqL.of h1,hc,q _ _ (zbN.refl H) (DF.str _) Nw.data⟩
  ·cases e
 ·obtain⟨ys,ey,e⟩:=bQ e
  split at e
  ·rename_i hc
   cases e;obtain⟨l,us,rfl,h1,h2⟩:=DF.lst_inv hb;cases zi2 h2 ey;exact⟨_,l,ys,DF.str_inv ha,rfl,h1.sq,hc,q _ _ (zbN.refl H) (DF.str _) Nw.data⟩
  ·cases e
 ·cases e
def flD:D->Option V
 | .none=>some .non
 | .bool b=>some (.bl b)
 | .int i=>some (.int i)
 | .str x=>some (.str x)
 | _=>none
theorem zpf{H:Hp}{v w:V}{d:D}(h:DF K H v d)(e:flD d=some w):v=w/\zfr w=true:=by
 cases d with
 | none=>cases e; cases h; exact⟨rfl,rfl⟩
 | bool b=>cases e; cases DF.bl_inv h; exact⟨rfl,rfl⟩
 | int i=>cases e; cases DF.int_inv h; exact⟨rfl,rfl⟩
 | str x=>cases e; cases DF.str_inv h; exact⟨rfl,rfl⟩
 | _=>cases e
theorem zpg{H:Hp}:∀ {us:List V} {ds:List D} {ws:List V},DFs K H us ds->ds.mapM flD=some ws->us=ws/\ws.all zfr=true
 | _,_,ws,.nil,e=>by cases e; exact⟨rfl,rfl⟩
 | _,_,ws,.cons h t,e=>by
  rw [List.mapM_cons]at e;obtain⟨y,e1,e⟩:=bQ e;obtain⟨ys',e2,e⟩:=bQ e;cases e;obtain⟨rfl,f1⟩:=zpf h e1;obtain⟨rfl,f2⟩:=zpg t e2;exact⟨rfl,by rw [List.all_cons,f1,f2]; rfl⟩
end
def zy4(K:qe)(C:Addr):Bool:=match K.lookup C with
 | some ⟨.type "type",_,.cls cd,sl⟩=>(match cd.mro,sl.toList with
  | .ref C'::bm,[_,_,_,_,some (.builtin m),_]=>C'==C && m == "ValueError.__new__" && !cd.hasDel && cd.hasDict && PySem.W.tailIn K xUp bm
  | _,_=>false)
 | _=>false
def zvv(K:qe)(C:Addr):Bool:=zy4 K C && PySem.W.findIn K (.ref C) "__getattribute__"==some (some (.builtin "BaseException.__getattribute__")) && PySem.W.findIn K (.ref C) "__getattr__"==some none &&
 PySem.W.findIn K (.ref C) "__setattr__"==some (some (.builtin "object.__setattr__")) && PySem.W.findIn K (.ref C) "__class__"==some (some (.builtin "object.__class__")) &&
 PySem.W.specialIn K (.builtin "object.__class__") "__get__"==some (some (.builtin "getset_descriptor.__get__")) && PySem.W.takesIn K (.builtin "object.__class__")==some true && PySem.W.mroIn K C (.type "object")==some true
theorem zAJ{K:qe}{C:Addr}(q:zy4 K C=true):∃ nm qn N bs bm sn sub ab col dd k0 k1 k2 k3 k5,K.lookup C=some (excClassObj nm qn C N bs bm true sn sub ab col dd k0 k1 k2 k3 k5 "ValueError.__new__")/\PySem.W.tailIn K xUp bm=true:=by
 unfold zy4 at q;split at q
 ·rename_i dd cd sl ho
  split at q
  ·rename_i C' bm k0 k1 k2 k3 m k5 hm hs
   simp only [Bool.and_eq_true,beq_iff_eq,Bool.not_eq_true']at q;obtain⟨⟨⟨⟨rfl,rfl⟩,hdel⟩,hdct⟩,ht⟩:=q;obtain⟨nm,bs,mro,ns,qn,hd,sn,sub,ab,col,del⟩:=cd;dsimp only at hm hdel hdct;subst hm hdel hdct;obtain⟨l⟩:=sl;dsimp only at hs;subst hs;exact⟨nm,qn,ns,bs,bm,sn,sub,ab,col,dd,k0,k1,k2,k3,k5,ho,ht⟩
  ·cases q
 ·cases q
theorem zAK{K:qe}{C:Addr}(q:zvv K C=true):XI K C:=by
 unfold zvv at q;simp only [Bool.and_eq_true,beq_iff_eq]at q;obtain⟨⟨⟨⟨⟨⟨⟨h1,h2⟩,h3⟩,h4⟩,h5⟩,h6⟩,h7⟩,h8⟩:=q;exact⟨⟨zAJ h1,h2,h3,h4⟩,h5,h6,h7,h8⟩
def zsp(K:qe)(n:Str):Option Addr:=match PySem.W.nsIn K mainGlobals n with
 | some (some (.ref C))=>some C
 | _=>none
theorem zph{K:qe}{n:Str}{C:Addr}(h:XN K n C):zsp K n=some C:=by
 unfold zsp;rw [show PySem.W.nsIn K mainGlobals n=some (some (.ref C)) from h]
def zy5(K:qe)(tab:List (Str×List Str))(fl:List Str):Bool:=tab.all fun p=>match zsp K p.1 with
 | some C=>zvv K C && fl.all (fun f=>PySem.W.findIn K (.ref C) f==some none) && PySem.W.kitOne K (.ref C) (.type "ValueError")==some (p.2.contains ("ValueError":Str)) &&
   tab.all fun p'=>match zsp K p'.1 with
    | some C'=>PySem.W.kitOne K (.ref C) (.ref C')==some (decide (p'.1=p.1) || p.2.contains p'.1)
    | none=>false
 | none=>false
theorem zgc{β:Type}:∀ {l:List (Str×β)} {n:Str} {b:β},l.lookup n=some b->(n,b)∈l
 | [],_,_,e=>by cases e
 | (m,c)::l,n,b,e=>by
  rw [List.lookup_cons]at e;cases q:(n==m)with
  | true =>
   rw [q]at e;cases e;rw [beq_iff_eq.mp q];exact qq
  | false =>
   rw [q]at e;exact qp _ (zgc e)
theorem zAL{K:qe}{tab:List (Str×List Str)}{fl:List Str}(h:zy5 K tab fl=true):XT K tab fl:=by
 unfold zy5 at h;have one:∀ n ups C,tab.lookup n=some ups->XN K n C->(zvv K C && fl.all (fun f=>PySem.W.findIn K (.ref C) f==some none) && PySem.W.kitOne K (.ref C) (.type "ValueError")==some (ups.contains ("ValueError":Str)) &&
   tab.all fun p'=>match zsp K p'.1 with
    | some C'=>PySem.W.kitOne K (.ref C) (.ref C')==some (decide (p'.1=n) || ups.contains p'.1)
    | none=>false)=true:=fun n ups C hn xn=>by
  have z:=List.all_eq_true.mp h (n,ups) (zgc hn);dsimp only at z;rw [zph xn]at z;exact z
 refine⟨fun n ups C hn xn=>?_,fun n ups C hn xn c C' hc xc=>?_,fun n ups C hn xn=>?_⟩
 ·have z:=one n ups C hn xn
  simp only [Bool.and_eq_true]at z;refine⟨zAK z.1.1.1,fun f hf=>?_⟩;exact beq_iff_eq.mp (List.all_eq_true.mp z.1.1.2 f hf)
 ·have z:=one n ups C hn xn
  simp only [Bool.and_eq_true]at z;obtain⟨ups',hu'⟩:=Option.isSome_iff_exists.mp hc;have y:=List.all_eq_true.mp z.2 (c,ups') (zgc hu');dsimp only at y;rw [zph xc]at y;exact beq_iff_eq.mp y
 ·have z:=one n ups C hn xn
  simp only [Bool.and_eq_true]at z;exact beq_iff_eq.mp z.1.2
section
variable {X:Cx} {K:qe} {C:Addr} {x f:Str} {p pos:Pos} {e:Expr} {es:List Expr} {t:TA} {ta:TE}
end
abbrev RX(α:Type):=(α×En) ⊕ (D×En)
abbrev MX:=En->Option (RX Ar)
abbrev MXA:=En->Option (RX (List Ar))
section
variable {K:qe} {EX:EXT} {pn:List Nat} {ρ ρ':En} {σ σ₀:St} {H H' H₀ H₁:Hp} {A:Addr->Prop}
def mXR(n f:Str)(ma:MA):En->Option (D×En):=fun ρ=>(ma ρ).bind fun p=>(zbd p.2 p.1).bind fun us=>(zcT us).bind fun ds=>match ds with
 | [x]=>some (.dict [(.none,.str n),(.str f,x)],p.2)
 | _=>none
theorem Rs.mv{a:Addr}(r:Rs K ρ σ H)(ea:∃ φ,H a=some (.ext φ))(k:∀ b o,b≠a->H b=some o->H' b=some o):Rs K ρ σ H'/\Kp H H':=by
 obtain⟨φ,ea⟩:=ea;have kp:Kp H H':=⟨fun b xs h=>k b _ (fun z=>by rw [z,ea]at h; cases h) h,fun b ob u h=>k b _ (fun z=>by rw [z,ea]at h; cases h) h⟩;refine⟨⟨r.len,fun i u e=>?_,r.apart⟩,kp⟩;obtain⟨v,ev,p⟩:=r.rep i u e;refine⟨v,ev,p.kp kp fun o b c eb hb=>?_⟩;obtain⟨b',c',eb',hb',m⟩:=p.own o;rw [eb]at eb';cases eb';rw [hb]at hb';cases hb';exact k b c (fun z=>by rw [z,ea]at hb; cases hb; exact m) hb
theorem Sn.mv{a:Addr}(s:Sn K pn σ₀ A H₀ H₁ ρ σ H)(hn:H₀ a=none)(ea:∃ φ,H a=some (.ext φ))(k:∀ b o,b≠a->H b=some o->H' b=some o)(dm:∀ b,H' b=none->H b=none):Sn K pn σ₀ A H₀ H₁ ρ σ H':=by
 obtain⟨r,kp⟩:=s.rs.mv ea k;exact⟨r,fun b o h n=>k b o (fun z=>by rw [z,hn]at h; cases h) (s.fr b o h n),s.ow,s.pin,fun b h=>s.dm b (dm b h),s.kp.trans kp⟩
theorem zyw.ext{a C:Addr}{fs:List (Str×V)}(f:zyw H a C fs):∃ φ,H a=some (.ext φ):=by
 obtain⟨d,tb,ea,_⟩:=f;exact⟨_,ea⟩
theorem Sn.clear{i:Nat}(s:Sn K pn σ₀ A H₀ H₁ ρ σ H)(hi:i∉pn):Sn K pn σ₀ A H₀ H₁ (ρ.set i none) (σ.set i none) H:=by
 have inv:∀ (j:Nat) (w:U),(ρ.set i none)[j]?=some (some w)->j≠i/\ρ[j]?=some (some w):=fun j w e=>by
  by_cases hj:i=j
  ·subst hj
   have hl:=(qm.mp e).1;rw [List.length_set]at hl;rw [List.getElem?_set_self hl]at e;cases e
  ·rw [qD hj]at e
   exact⟨Ne.symm hj,e⟩
 have sat:∀ j,j≠i->(σ.set i none)[j]?=σ[j]?:=fun j h=>qD (Ne.symm h);refine⟨⟨by rw [List.length_set,List.length_set]; exact s.rs.len,fun j w e=>?_,fun j k x y ej ek ox oy es=>?_⟩,s.fr,fun j w a e o es=>?_,fun j hj=>?_,s.dm,s.kp⟩
 ·obtain⟨hj,e'⟩:=inv j w e
  rw [sat j hj];exact s.rs.rep j w e'
 ·obtain⟨hj,ej'⟩:=inv j x ej
  obtain⟨hk,ek'⟩:=inv k y ek;rw [sat j hj,sat k hk]at es;exact s.rs.apart j k x y ej' ek' ox oy es
 ·obtain⟨hj,e'⟩:=inv j w e
  rw [sat j hj]at es;exact s.ow j w a e' o es
 ·rw [sat j (fun z=>hi (z▸hj))]
  exact s.pin j hj
def under(tab:List (Str×List Str))(c:Str):D->Bool
 | .dict ((.none,.str n)::_)=>match tab.lookup n with | some ups=>ups.contains c | none=>false
 | _=>false
end
abbrev FX:=List U->Option ((U×List U) ⊕ (D×List U))
def spX(K:qe)(n:Nat)(f:FX):Sp:=fun vs H Q E=>∃ us r,us.length=n/\Rs K (sm us) (smV vs) H/\f us=some r/\match r with
 | .inl o=>∀ v H',Go K (sm us) (smV vs) H (sm o.2) H'->Rp K H' v o.1->Nw H v o.1->Q v H'
 | .inr o=>∀ a H',Go K (sm us) (smV vs) H (sm o.2) H'->H a=none->zz7 K H' a o.1->E (.ref a) none H'
structure CalX (P:Program) (w:World) (K:qe) (mg:Str->Option Value) (base:Heap) (x:Str) (k:Nat) (ps:List Str) (sp:Sp):Prop where
 ex:∃ (f:Addr) (fd:FuncData),FnOk P w K mg base (CXv P w K) k f fd ps sp/\zfq K fd ps []/\PySem.W.keepIn K (.ref f)=true/\mg x=some (.ref f)
section
variable {X:Cx} {EX:EXT} {k:Nat} {ps:List Str} {sp:Sp} {x:Str} {p pos:Pos} {e:Expr} {es:List Expr} {t:TA}
end
section
variable {K:qe} {EX:EXT} {pn:List Nat} {ρ ρ':En} {σ σ₀:St} {H H' H₀ H₁:Hp} {A:Addr->Prop}
end
section
variable {X:Cx} {K:qe} {C:Addr} {x f:Str} {p pos:Pos} {e:Expr} {es:List Expr} {t:TA} {te:TE} {EX:EXT}
end
def tyD:D->Option String
 | .none=>some "NoneType"
 | .bool _=>some "bool"
 | .int _=>some "int"
 | .str _=>some "str"
 | .tuple _=>some "tuple"
 | _=>none
def tyU:U->Option String
 | .d x=>tyD x
 | .l _=>some "list"
 | _=>none
def isT(t T:String):Bool:=t==T || (t == "bool" && T == "int")
def zsq:List String:=["NoneType", "bool", "int", "str", "tuple", "list"]
theorem zvw(K:qe):∀ t∈zsq,∀ T∈["int", "bool", "str", "tuple", "list"],PySem.W.kitOne K (.type t) (.type T)=some (isT t T):=by
 have hm:∀ T∈["int", "bool", "str", "tuple", "list"],PySem.W.kitMeta T=true:=by decide +kernel
 have hs:∀ t∈zsq,∀ T∈["int", "bool", "str", "tuple", "list"],(PySem.fastBuiltinMro t).map (·.contains (Value.type T))=some (isT t T):=by decide +kernel
 intro t ht T hT;unfold PySem.W.kitOne;split
 ·rename_i q
  have e:t=T:=Value.type.inj (beq_iff_eq.mp q);subst e;unfold isT;simp
 ·unfold PySem.W.kitCls PySem.W.subIn
  simp only [hm T hT,if_true];exact hs t ht T hT
def zeJ(T:String)(u:U):Option U:=(tyU u).bind fun t=>if t∈zsq/\T∈["int", "bool", "str", "tuple", "list"]then some (.d (.bool (isT t T)))else none
section
variable {K:qe}
theorem zy6{H:Hp}{v:V}{u:U}{t:String}(h:Rp K H v u)(e:tyU u=some t):TyOf K H v (.type t):=by
 cases u with
 | d x =>
  cases x with
  | none=>cases e; cases h; exact .non
  | bool b=>cases e; cases DF.bl_inv h; exact .bl _
  | int i=>cases e; cases DF.int_inv h; exact .int _
  | str x=>cases e; cases DF.str_inv h; exact .str _
  | tuple ds=>cases e; obtain⟨a,ys,rfl,h1,_⟩:=DF.tup_inv h; exact .tup h1
  | list ds=>cases e
  | dict ds=>cases e
 | l xs=>cases e; obtain⟨a,us,rfl,h1,_⟩:=h; exact .lst h1
 | t kvs=>cases e
 | k kvs=>cases e
theorem zeK{T:String}{te:TE}{me:ME}(h:VE K te me):VE K (tCB (zys K) (zfp te (zfp (tC (.ty T)) zny))) (mUn (zeJ T) me):=by
 intro ρ σ H a ρ' Q rs e q;obtain⟨⟨a1,ρ1⟩,e1,e⟩:=bQ e;obtain⟨x,ex,e⟩:=bQ e;obtain⟨u,eu,e⟩:=bQ e;cases e;refine h ρ σ H a1 _ _ rs e1 fun v1 H1 g1 k1=>?_;have p:=k1.now rs g1 ex;unfold zeJ at eu;obtain⟨t,et,eu⟩:=bQ eu;split at eu
 ·rename_i hc
  cases eu;exact⟨v1,.type t,T,_,rfl,zy6 p et,zvw K t hc.1 T hc.2,q _ _ g1 ⟨DF.bl _,Nw.data⟩⟩
 ·cases eu
def zsr(x:D)(ds:List D):Option Bool:=(flD x).bind fun w=>(ds.mapM flD).bind fun ws=>some (inV w ws)
def fIn(neg:Bool)(a b:U):Option U:=match a with
 | .d x=>b.items.bind fun ds=>(zsr x ds).bind fun r=>some (.d (.bool (if neg=true then !r else r)))
 | _=>none
theorem zss(neg:Bool):VO K (rIn K neg) (fIn neg):=by
 intro x y a b u H Q ha hb e q;cases a with
 | d d =>
  obtain⟨ds,e1,e⟩:=bQ (show b.items.bind _=some u from e);obtain⟨r,e2,e⟩:=bQ e;obtain⟨w,e3,e2⟩:=bQ e2;obtain⟨ws,e4,e2⟩:=bQ e2;cases e2;cases e;obtain⟨p,ys,rfl,sq,df⟩:=hb.items e1;obtain⟨rfl,f1⟩:=zpf ha e3;obtain⟨rfl,f2⟩:=zpg df e4;exact⟨p,_,rfl,sq,f1,f2,q _ _ (zbN.refl H) (by cases neg<;>exact DF.bl _) Nw.data⟩
 | _=>cases e
def blD:D->Option Bool
 | .bool b=>some b
 | _=>none
theorem zpi{H:Hp}:∀ {us:List V} {ds:List D} {bs:List Bool},DFs K H us ds->ds.mapM blD=some bs->us=bs.map V.bl
 | _,_,bs,.nil,e=>by cases e; rfl
 | _,_,bs,.cons (d:=d) h t,e=>by
  rw [List.mapM_cons]at e;obtain⟨y,e1,e⟩:=bQ e;obtain⟨ys',e2,e⟩:=bQ e;cases e;cases d with
  | bool x=>cases e1; cases DF.bl_inv h; rw [zpi t e2]; rfl
  | _=>cases e1
def zqz(u:U):Option U:=u.items.bind fun ds=>(ds.mapM blD).bind fun bs=>some (.d (.bool (bs.all id)))
theorem zn3:VC K (zz2 K) (f1 zqz):=zmh fun v a u H Q h e q=>by
 obtain⟨ds,ex,e⟩:=bQ e;obtain⟨bs,eb,e⟩:=bQ e;cases e;obtain⟨p,ys,rfl,s,d⟩:=h.items ex;cases zpi d eb;exact⟨p,bs,rfl,s,q _ _ (fun _ _ z=>z) (.bl _) Nw.data⟩
def zlq(f f':U->U->Option U)(ma mb mc:ME):ME:=fun ρ=>(ma ρ).bind fun p=>(mb p.2).bind fun q=>(p.1.get q.2).bind fun x=>(q.1.get q.2).bind fun y=>(f x y).bind fun r=>match r with
 | .d (.bool true)=>(mc q.2).bind fun s=>(q.1.get s.2).bind fun y'=>(s.1.get s.2).bind fun z=>(f' y' z).bind fun u=>some (.u u,s.2)
 | .d (.bool false)=>some (.u (.d (.bool false)),q.2)
 | _=>none
theorem zvx{r r':R2}{f f':U->U->Option U}{ta tb tc:TE}{ma mb mc:ME}(h:VO K r f)(h':VO K r' f')(ha:VE K ta ma)(hb:VE K tb mb)(hc:VE K tc mc):VE K (zns r r' ta tb tc) (zlq f f' ma mb mc):=by
 intro ρ σ H a ρ' Q rs e q;obtain⟨⟨a1,ρ1⟩,e1,e⟩:=bQ e;obtain⟨⟨b1,ρ2⟩,e2,e⟩:=bQ e;obtain⟨x,ex,e⟩:=bQ e;obtain⟨y,ey,e⟩:=bQ e;obtain⟨rr,er,e⟩:=bQ e;refine ha ρ σ H a1 ρ1 _ rs e1 fun v1 H1 g1 k1=>hb ρ1 σ H1 b1 ρ2 _ g1.rs e2 fun v2 H2 g2 k2=>?_;refine h _ _ x y rr H2 _ (k1.later rs g1 g2 ex) (k2.now g1.rs g2 ey) er fun v H3 s p n=>?_;have g3:=Go.grow g2.rs s;split at e
 ·cases DF.bl_inv p
  refine⟨true,rfl,?_⟩;rw [if_pos rfl];obtain⟨⟨c1,ρ3⟩,e3,e⟩:=bQ e;obtain⟨y',ey',e⟩:=bQ e;obtain⟨z,ez,e⟩:=bQ e;obtain⟨u,eu,e⟩:=bQ e;cases e;refine hc ρ2 σ H3 c1 _ _ g3.rs e3 fun v3 H4 g4 k4=>?_;refine h' _ _ y' z u H4 _ (k2.later g1.rs g2 (g3.trans g4) ey') (k4.now g3.rs g4 ez) eu fun w H5 s5 p5 n5=>?_;exact q w H5 ((((g1.trans g2).trans g3).trans g4).trans (Go.grow g4.rs s5)) ⟨p5,n5.mono fun b hb=>(g1.trans g2).dm b (g3.dm b (g4.dm b hb))⟩
 ·cases DF.bl_inv p
  cases e;refine⟨false,rfl,?_⟩;rw [if_neg (by decide)];exact q _ H3 ((g1.trans g2).trans g3) ⟨DF.bl _,Nw.data⟩
 ·cases e
def zmv:U->U->Option U
 | .d (.str z),.d (.int n)=>if 0<=n/\n<=1 then some (.d (.str (zqp z n)))else none
 | _,_=>none
theorem zvy:VO K (fun x y H Q=>∃ z n,x=.str z/\y=.int n/\0<=n/\n<=1/\Q (.str (zqp z n)) H) zmv:=by
 intro x y a b u H Q ha hb e q;unfold zmv at e;split at e
 ·split at e
  ·rename_i z n hc
   cases e;exact⟨z,n,DF.str_inv ha,DF.int_inv hb,hc.1,hc.2,q _ _ (zbN.refl H) (DF.str _) Nw.data⟩
  ·cases e
 ·cases e
end
section
variable {X:Cx} {K:qe}
end
section
variable {prog:Program} {w:World} {A:Around} {R:Result->Shared->Prop} {I:Addr} {fp wr:List Addr} {G:Array GenState->Array GenState->Prop} {ks:List Key} {P:Nat->Value->Prop} {St:Nat->Shared->Prop}
end
section
variable {prog:Program} {w:World} {A:Around} {E:Value->Shared->Prop} {s:Shared}
end
section
variable {X:Cx} {K:qe}
def zst(K:qe):R2:=fun x y H Q=>zrl K x y H Q\/∃ a b,x=.ref a/\y=.ref b/\SqT K H a []/\(∃ ys,SqT K H b ys)/\Q y H
end
section
variable {X:Cx} {K:qe}
theorem zvz{prog:Program}{w:World}{A:Around}{E:Value->Shared->Prop}{s:Shared}{t b:Addr}{ws:List Value}{Q:Value->Shared->Prop}(ht:IsTup s.heap t #[])(hb:IsTup s.heap b ws.toArray)(h:Q (.ref b) s):wpAny (model prog w) A (binaryOp .Add (.ref t) (.ref b)) Q E s:=by
 obtain⟨⟨c1,d1,o1,s1⟩,h1,z1,n1,y1⟩:=id ht;obtain⟨⟨c2,d2,o2,s2⟩,h2,z2,n2,y2⟩:=id hb;cases(show c1=_ from z1);cases(show c2=_ from z2);cases(show o1=_ from y1);cases(show o2=_ from y2);have mt:=tuple_addW0 t b #[] ws.toArray n1 n2 d1 d2 s1 s2 rfl;exact concat_meets ⟨_,h1,rfl⟩ ⟨_,h2,rfl⟩ noFill_tuple_add seq_tuple_add PySem.F.slot_tuple_add PySem.F.entry_tuple_add (PySem.F.args_tuple_add_2 _ _) mt ⟨h1,h2,h⟩
theorem zeL{K:qe}(hK:X.K=K:=by rfl):OpR X (binaryOp .Add) (zst K):=by
 subst hK;intro pins s σ H x y v u Q I rx ry h;rcases h with h | ⟨a,b,rfl,rfl,ha,⟨ys,hb⟩,q⟩
 ·exact zuS pins s σ H x y v u Q I rx ry h
 ·cases rx
  cases ry;obtain⟨its,r1,p1,_⟩:=I.tuple ha;obtain⟨its2,r2,p2,_⟩:=I.tuple hb;cases r1;exact zvz p1 p2 ⟨.ref b,H,I,rfl,q⟩
def zd9:U->U->Option U
 | .d (.tuple []),.d (.tuple ys)=>some (.d (.tuple ys))
 | a,b=>zmp a b
theorem zeM:VO K (zst K) zd9:=by
 intro x y a b u H Q ha hb e q;unfold zd9 at e;split at e
 ·cases e
  obtain⟨p,us,rfl,h1,h2⟩:=DF.tup_inv ha;obtain⟨p',us',rfl,h1',h2'⟩:=DF.tup_inv hb;cases h2;exact .inr ⟨p,p',rfl,rfl,(TpK.sq h1),⟨us',(TpK.sq h1')⟩,q _ _ (zbN.refl H) hb Nw.data⟩
 ·exact .inl (zvf x y _ _ u H Q ha hb e q)
end
def GTi(K:qe)(g:Addr)(ns:List Int):Prop:=∃ (o:Obj) (its:Array Value) (n:Nat),K.lookup g=some o/\o.cls=.type "tuple"/\o.data=.seq its n/\its.size<=sizeLine/\zP (ns.map V.int) its.toList
section
variable {X:Cx} {K:qe}
theorem GTi.sq{g:Addr}{ns:List Int}{H:Hp}(h:GTi K g ns):SqT K H g (ns.map V.int):=.inr h
theorem zmw{H:Hp}:∀ (ns:List Int),DVs K H (ns.map V.int) (ns.map PyData.int)
 | []=>.nil
 | n::ns=>.cons (.int n) (zmw ns)
theorem GTi.dv{g:Addr}{ns:List Int}{H:Hp}(h:GTi K g ns):DV K H (.ref g) (.tuple (ns.map PyData.int)):=.tup h.sq (zmw ns)
def zvA(neg:Bool)(ns:List Int)(a:U):Option U:=zf6 neg a (.d (.tuple (ns.map PyData.int)))
theorem zAM{neg:Bool}{g:Addr}{ns:List Int}{te:TE}{me:ME}(gt:GTi K g ns)(h:VE K te me):VE K (tOp (zu9 K neg) te (tC (.ref g))) (mUn (zvA neg ns) me):=by
 intro ρ σ H a ρ' Q rs e q;obtain⟨⟨a1,ρ1⟩,e1,e⟩:=bQ e;obtain⟨x,ex,e⟩:=bQ e;obtain⟨u,eu,e⟩:=bQ e;cases e;refine h ρ σ H a1 _ _ rs e1 fun v1 H1 g1 k1=>?_;have p:=k1.now rs g1 ex;obtain⟨dx,e2,eu⟩:=bQ eu;obtain⟨dy,e3,eu⟩:=bQ eu;cases e3;split at eu
 ·rename_i hs
  cases eu;exact⟨dx,_,p.dv e2 (zd5 _ (SeqAt.canLay_of_shaped hs.1)),gt.dv,hs.1,hs.2,q _ _ g1 ⟨DF.bl _,Nw.data⟩⟩
 ·cases eu
end
theorem nr{α:Sort _}{a b:α}(h:a=b):a=b:=h
structure Ph {α:Type} (a:α):Type where
 n:Nat
def Wo{α:Type}(o:Option α)(Q:α->Prop):Prop:=∃ a,o=some a/\Q a
def Co{α β:Type}(f:α->Option β)(t:Ph f)(Q:β->Prop)(a:α):Prop:=Wo (f a) Q
section
variable {α β:Type} {a:α} {o:Option α} {f:α->Option β} {Q:α->Prop} {R:β->Prop}
theorem za1:Wo (some a) Q=Q a:=propext ⟨fun⟨_,e,h⟩=>(by cases e; exact h),fun h=>⟨a,rfl,h⟩⟩
theorem zt:Wo (o.bind f) R=Wo o (Co f ⟨0⟩ R):=propext (by
 cases o with
 | none=>exact⟨fun⟨_,e,_⟩=>(by cases e),fun⟨_,e,_⟩=>(by cases e)⟩
 | some a=>rw [za1]; exact Iff.rfl)
theorem zcX{t:Ph f}:Co f t R a=Wo (f a) R:=rfl
theorem zdN{c:Prop}[Decidable c]{x y:Option α}(h:c->Wo x Q)(h':¬c->Wo y Q):Wo (if c then x else y) Q:=by
 split
 ·exact h ‹_›
 ·exact h' ‹_›
end
section
variable {ρ:En} {me ma mb mc mk mi md my mv mo:ME} {mA mK:MA} {mt mu:MT} {mI:MI} {mg:MG} {m1 m2:MS} {i j n:Nat} {u:U} {x:D} {mx:MX} {mXA:MXA}
variable {QE:Ar×En->Prop} {QA:List Ar×En->Prop} {QT:Bool×En->Prop} {QS:Fl->Prop} {QI:List D×En->Prop} {QO:Option Int×En->Prop} {QG:En->Prop} {QX:RX Ar->Prop} {QXA:RX (List Ar)->Prop} {QR:D×En->Prop} {QF:U×List U->Prop} {QFX:(U×List U) ⊕ (D×List U)->Prop}
theorem zsu:Wo (zj i ρ) QE=Wo (ρ[i]?).join (Co (fun _=>some (.s i,ρ)) ⟨0⟩ QE):=by rw [zyI,zt]
theorem zAN:Wo (mC x ρ) QE=QE (.u (.d x),ρ):=by rw [zBn,za1]
def zvB(f:U->U->Option U)(a:Ar)(q:Ar×En):Option (Ar×En):=(a.get q.2).bind fun x=>(q.1.get q.2).bind fun y=>(f x y).bind fun u=>some (.u u,q.2)
def kOp(f:U->U->Option U)(mb:ME)(p:Ar×En):Option (Ar×En):=(mb p.2).bind (zvB f p.1)
theorem zwZ{f:U->U->Option U}:Wo (mOp f ma mb ρ) QE=Wo (ma ρ) (Co (kOp f mb) ⟨0⟩ QE):=by rw [zAb,zt]; rfl
theorem zsv{f:U->U->Option U}{p:Ar×En}:Wo (kOp f mb p) QE=Wo (mb p.2) (Co (zvB f p.1) ⟨0⟩ QE):=by unfold kOp; rw [zt]
theorem zpj{f:U->U->Option U}{a:Ar}{q:Ar×En}:Wo (zvB f a q) QE=Wo (a.get q.2) (Co (fun x=>(q.1.get q.2).bind fun y=>(f x y).bind fun u=>some (.u u,q.2)) ⟨0⟩ QE):=by unfold zvB; rw [zt]
theorem zw0{f:U->Option U}:Wo (mUn f ma ρ) QE=Wo (ma ρ) (Co (fun p=>(p.1.get p.2).bind fun x=>(f x).bind fun u=>some (.u u,p.2)) ⟨0⟩ QE):=by rw [zAc,zt]
theorem zsw:Wo (zq ρ) QA=QA ([],ρ):=by rw [zyJ,za1]
theorem zpk:Wo (zf me mA ρ) QA=Wo (me ρ) (Co (fun p=>(mA p.2).bind fun q=>some (p.1::q.1,q.2)) ⟨0⟩ QA):=by rw [zvi,zt]
theorem zsx:Wo (zbe mA ρ) QE=Wo (mA ρ) (Co (fun p=>(zbd p.2 p.1).bind fun us=>(zcT us).bind fun ds=>if ds.length<=sizeLine then some (.u (.d (.tuple ds)),p.2)else none) ⟨0⟩ QE):=by rw [zyK,zt]
theorem zsy:Wo (zeu mA ρ) QE=Wo (mA ρ) (Co (fun p=>(zbd p.2 p.1).bind fun us=>(zcT us).bind fun ds=>if ds.length<=sizeLine then some (.u (.l ds),p.2)else none) ⟨0⟩ QE):=by rw [zyL,zt]
theorem zw1{f:List U->Option U}:Wo (mCB f mA ρ) QE=Wo (mA ρ) (Co (fun p=>(zbd p.2 p.1).bind fun us=>(f us).bind fun u=>some (.u u,p.2)) ⟨0⟩ QE):=by rw [zAd,zt]
theorem zsz{f:FD}:Wo (zN f mA ρ) QE=Wo (mA ρ) (Co (fun p=>if zeG p.2 p.1=true then(zbd p.2 p.1).bind fun us=>(f us).bind fun o=>some (.u o.1,wb p.2 p.1 o.2)else none) ⟨0⟩ QE):=by rw [zyM,zt]
theorem zsA:Wo (zA m1 m2 ρ) QS=Wo (m1 ρ) (Co (zsb m2) ⟨0⟩ QS):=by rw [zyO,zt]
theorem zsB:Wo (zZ i me ρ) QS=Wo (me ρ) (Co (fun p=>(put p).bind fun q=>some (.nx (q.2.set i (some q.1)))) ⟨0⟩ QS):=by rw [zyP,zt]
theorem zsC:Wo (zak me ρ) QS=Wo (me ρ) (Co (fun p=>(put p).bind fun q=>some (.rt q.1 q.2)) ⟨0⟩ QS):=by rw [zyQ,zt]
theorem zpl{pn:List Nat}:Wo (zdM pn i ρ) QS=Wo (if i∈pn then none else(ρ[i]?).join.bind fun u=>some (.rt u (ρ.set i none))) QS:=by rw [zvj]
theorem zpm:Wo (zap ρ) QS=QS (.nx ρ):=by rw [zvk,za1]
theorem zpn:Wo (zaP me ρ) QS=Wo (me ρ) (Co (fun p=>some (.nx p.2)) ⟨0⟩ QS):=by rw [zvl,zt]
theorem zsD:Wo (zay mt m1 m2 ρ) QS=Wo (mt ρ) (Co (fun p=>if p.1=true then m1 p.2 else m2 p.2) ⟨0⟩ QS):=by rw [zyR,zt]
theorem zsE:Wo (mIf mt ma mb ρ) QE=Wo (mt ρ) (Co (fun p=>if p.1=true then ma p.2 else mb p.2) ⟨0⟩ QE):=by rw [zAg,zt]
theorem zAO:Wo (mB me ρ) QT=Wo (me ρ) (Co (fun p=>(p.1.get p.2).bind fun u=>u.bol.bind fun b=>some (b,p.2)) ⟨0⟩ QT):=by rw [zBo,zt]
theorem zsF:Wo (znS mt mu ρ) QT=Wo (mt ρ) (Co (fun p=>if p.1=true then mu p.2 else some (false,p.2)) ⟨0⟩ QT):=by rw [zyS,zt]
theorem zw2:Wo (mOr mt mu ρ) QT=Wo (mt ρ) (Co (fun p=>if p.1=true then some (true,p.2)else mu p.2) ⟨0⟩ QT):=by rw [zAh,zt]
theorem zsG:Wo (zdL mt ρ) QT=Wo (mt ρ) (Co (fun p=>some (!p.1,p.2)) ⟨0⟩ QT):=by rw [zyT,zt]
theorem zpo:Wo (zft ma mb ρ) QE=Wo (mB ma ρ) (Co (fun p=>if p.1=true then mb p.2 else some (.u (.d (.bool false)),p.2)) ⟨0⟩ QE):=by rw [zvm,zt]
theorem zpp:Wo (zmj ma ρ) QE=Wo (mB ma ρ) (Co (fun p=>some (.u (.d (.bool (!p.1))),p.2)) ⟨0⟩ QE):=by rw [zvn,zt]
theorem zsH:Wo (zvb ma ρ) QT=Wo (ma ρ) (Co (fun p=>(p.1.get p.2).bind fun u=>u.tru.bind fun b=>some (b,p.2)) ⟨0⟩ QT):=by rw [zyU,zt]
theorem zsI:Wo (zgz ρ) QT=QT (true,ρ):=by rw [zyV,za1]
theorem zsJ:Wo (zbV i me ρ) QE=Wo (ρ[i]?).join (Co (fun w=>w.lo.bind fun _=>(me ρ).bind fun p=>(p.1.get p.2).bind fun u=>u.da.bind fun x=>(p.2[i]?).join.bind fun w=>w.lo.bind fun xs=>if xs.length < sizeLine then some (.u (.d .none),p.2.set i (some (.l (xs++[x]))))else none) ⟨0⟩ QE):=by rw [zyW,zt]
theorem zmx:Wo (zga i me mi ρ) QS=Wo (ρ[i]?).join (Co (fun _=>(me ρ).bind fun p=>(mi p.2).bind fun q=>(p.1.get q.2).bind fun u=>(q.1.get q.2).bind fun w=>u.da.bind fun x=>w.num.bind fun k=>(q.2[i]?).join.bind fun z=>z.lo.bind fun xs=>(ixN xs.length k).bind fun j=>some (.nx (q.2.set i (some (.l (xs.set j x)))))) ⟨0⟩ QS):=by rw [zsc,zt]
def zmy(w:U)(y x:D):Option U:=match w with
 | .t kvs=>(zaZ y).bind fun k=>if kvs.length < sizeLine then some (.t (zhd kvs k x))else none
 | .k kvs=>(znU y).bind fun k=>if kvs.length < sizeLine then some (.k (zhd kvs k x))else none
 | _=>none
theorem zvC:zel i my mv ρ=(ρ[i]?).join.bind fun _=>(mv ρ).bind fun p=>(my p.2).bind fun q=>(p.1.get q.2).bind fun x=>(q.1.get q.2).bind fun y=>x.da.bind fun x=>y.da.bind fun y=>(q.2[i]?).join.bind fun w=>(zmy w y x).bind fun z=>some (.nx (q.2.set i (some z))):=by
 unfold zel;refine bind_fn fun _=>bind_fn fun p=>bind_fn fun q=>bind_fn fun x=>bind_fn fun y=>?_;cases x with
 | l=>rfl
 | t=>rfl
 | k=>rfl
 | d x =>
  cases y with
  | l=>rfl
  | t=>rfl
  | k=>rfl
  | d y =>
   show _=((q.2[i]?).join.bind _);cases q.2[i]? with
   | none=>rfl
   | some o =>
    cases o with
    | none=>rfl
    | some w =>
     cases w with
     | l=>rfl
     | d=>rfl
     | t kvs =>
      show(zaZ y).bind _=((zaZ y).bind _).bind _;cases zaZ y with
      | none=>rfl
      | some k =>
       show(if _ then _ else _)=(if _ then _ else _:Option U).bind _;split<;>rfl
     | k kvs =>
      show(znU y).bind _=((znU y).bind _).bind _;cases znU y with
      | none=>rfl
      | some k =>
       show(if _ then _ else _)=(if _ then _ else _:Option U).bind _;split<;>rfl
theorem zpq:Wo (zel i my mv ρ) QS=Wo (ρ[i]?).join (Co (fun _=>(mv ρ).bind fun p=>(my p.2).bind fun q=>(p.1.get q.2).bind fun x=>(q.1.get q.2).bind fun y=>x.da.bind fun x=>y.da.bind fun y=>(q.2[i]?).join.bind fun w=>(zmy w y x).bind fun z=>some (.nx (q.2.set i (some z)))) ⟨0⟩ QS):=by rw [zvC,zt]
theorem zpr:Wo (zcV md my ρ) QE=Wo (md ρ) (Co (fun p=>(my p.2).bind fun q=>(p.1.get q.2).bind fun u=>(q.1.get q.2).bind fun y=>(zjQ u y).bind fun o=>o.bind fun d=>some (.u (.d d),q.2)) ⟨0⟩ QE):=by rw [zvo,zt]
theorem zmz:Wo (zdC ρ) QE=QE (.u (.t []),ρ):=by rw [zsd,za1]
theorem zw3:Wo (mFz me ρ) QE=Wo (me ρ) (Co (fun p=>(p.1.get p.2).bind fun u=>u.fz.bind fun x=>some (.u (.d x),kFz x p)) ⟨0⟩ QE):=by rw [zAk,zt]
theorem zw4{g:U->Option (List D)}:Wo (mIt g me ρ) QI=Wo (me ρ) (Co (fun p=>(p.1.get p.2).bind fun u=>(g u).bind fun ds=>some (ds,p.2)) ⟨0⟩ QI):=by rw [zAo,zt]
theorem zw5{n:Int}(h:-4611686018427387904<=n)(h2:n < 4611686018427387904):zvp [.d (.int n)]=some (zbf 0 n.toNat):=by rw [zyX,if_pos ⟨by omega,by omega⟩]
theorem zps:Wo (zhu mA ρ) QI=Wo (mA ρ) (Co (fun p=>(zbd p.2 p.1).bind fun us=>(zvp us).bind fun ds=>some (ds,p.2)) ⟨0⟩ QI):=by rw [zvq,zt]
def zy7:List U->Option (List D)
 | [.d (.int i),.d (.int j)]=>if -(2^62)<=i/\i < 2^62/\-(2^62)<=j/\j < 2^62 then some (zbf i (j - i).toNat)else none
 | _=>none
theorem zw6{a b:Int}(h:-4611686018427387904<=a)(h2:a < 4611686018427387904)(h3:-4611686018427387904<=b)(h4:b < 4611686018427387904):zy7 [.d (.int a),.d (.int b)]=some (zbf a (b - a).toNat):=by
 show(if _ then _ else _)=_;rw [if_pos ⟨by omega,by omega,by omega,by omega⟩]
theorem zvD:zoW mA ρ=(mA ρ).bind fun p=>(zbd p.2 p.1).bind fun us=>(zy7 us).bind fun ds=>some (ds,p.2):=bind_fn fun p=>bind_fn fun us=>by
 match us with
 | []=>rfl
 | [.d (.int i),.d (.int j)] =>
  show(if _ then _ else _)=(if _ then _ else _:Option (List D)).bind _;split<;>rfl
 | [.d x]=>cases x<;>rfl
 | [.l _]=>rfl
 | [.t _]=>rfl
 | [.k _]=>rfl
 | [.d x,.d y]=>cases x<;>(try rfl)<;>(cases y<;>(try rfl)<;>(show(if _ then _ else _)=(if _ then _ else _:Option (List D)).bind _; split<;>rfl))
 | [.d x,.l y]=>cases x<;>rfl
 | [.d x,.t y]=>cases x<;>rfl
 | [.d x,.k y]=>cases x<;>rfl
 | [.l _,_]=>rfl
 | [.t _,_]=>rfl
 | [.k _,_]=>rfl
 | a::b::c::us =>
  cases a with
  | d x=>cases x<;>(try rfl)<;>(cases b with
   | d y=>cases y<;>rfl
   | l=>rfl
   | t=>rfl
   | k=>rfl)
  | l=>rfl
  | t=>rfl
  | k=>rfl
theorem zpt:Wo (zoW mA ρ) QI=Wo (mA ρ) (Co (fun p=>(zbd p.2 p.1).bind fun us=>(zy7 us).bind fun ds=>some (ds,p.2)) ⟨0⟩ QI):=by rw [zvD,zt]
theorem zsK:Wo (zb8 mI mg m1 ρ) QS=Wo (mI ρ) (Co (fun p=>zb0 mg m1 p.1 p.2) ⟨0⟩ QS):=by rw [zyY,zt]
theorem zsL{nt:Nat}{js:List Nat}:Wo (mLC mI nt js mg mt me ρ) QE=Wo (mI ρ) (Co (fun p=>(lcM nt mg mt me p.1 (cEn nt js p.2) []).bind fun q=>some (.u (.l q.1),back js (q.2.drop nt) p.2)) ⟨0⟩ QE):=by rw [zAp,zt]
theorem zw7{f:U->Option Int->Option Int->Option U}{ml mh:MO}:Wo (mSl f me ml mh ρ) QE=Wo (me ρ) (Co (fun p=>(ml p.2).bind fun l=>(mh l.2).bind fun h=>(p.1.get h.2).bind fun x=>(f x l.1 h.1).bind fun u=>some (.u u,h.2)) ⟨0⟩ QE):=by rw [zAq,zt]
theorem zky:Wo (zfa ρ) QO=QO (none,ρ):=by rw [zqy,za1]
theorem zpu:Wo (zkr me ρ) QO=Wo (me ρ) (Co (fun p=>(p.1.get p.2).bind fun u=>u.num.bind fun i=>some (some i,p.2)) ⟨0⟩ QO):=by rw [zvr,zt]
theorem zsM:Wo (zqw i j mA ρ) QS=Wo (mA ρ) (Co (fun p=>(zbd p.2 p.1).bind fun us=>(zyZ us).bind fun z=>some (.nx ((p.2.set i (some (.d z.1))).set j (some (.d z.2))))) ⟨0⟩ QS):=by rw [zy0,zt]
theorem zsN:Wo (zlf me mg ρ) QS=Wo (me ρ) (Co (fun p=>(p.1.get p.2).bind fun u=>u.da.bind fun d=>(mg d p.2).bind fun ρ'=>some (.nx ρ')) ⟨0⟩ QS):=by rw [zy1,zt]
theorem zmA:Wo (zB i x ρ) QG=QG (ρ.set i (some (.d x))):=by rw [zsh,za1]
theorem zpv{gs:List D->En->Option En}{ds:List D}:Wo (zbq n gs (.tuple ds) ρ) QG=Wo (if ds.length=n then gs ds ρ else none) QG:=by rw [zvs]
theorem zmB{g:MG}{gs:List D->En->Option En}{ds:List D}:Wo (zY g gs (x::ds) ρ) QG=Wo (g x ρ) (Co (fun ρ1=>gs ds ρ1) ⟨0⟩ QG):=by rw [zsi,zt]
theorem zpw:Wo (zbG [] ρ) QG=QG ρ:=by rw [zvt,za1]
theorem zw8{ty:U->Bool}{f:U->U->Option U}:Wo (mM1 ty f mo ma ρ) QE=Wo (mo ρ) (Co (fun p=>(p.1.get p.2).bind fun x0=>if ty x0=true then(ma p.2).bind fun q=>(p.1.get q.2).bind fun x=>(q.1.get q.2).bind fun y=>(f x y).bind fun u=>some (.u u,q.2)else none) ⟨0⟩ QE):=by
 show Wo (Option.bind _ _) QE=_;rw [zt]
theorem zw9{z:Str}:tyS (.d (.str z))=true:=rfl
theorem zsO{f f':U->U->Option U}:zlq f f' ma mb mc ρ=(ma ρ).bind fun p=>(mb p.2).bind fun q=>(p.1.get q.2).bind fun x=>(q.1.get q.2).bind fun y=>(f x y).bind fun r=>r.bol.bind fun b=>if b=true then(mc q.2).bind fun s=>(q.1.get s.2).bind fun y'=>(s.1.get s.2).bind fun z=>(f' y' z).bind fun u=>some (.u u,s.2)else some (.u (.d (.bool false)),q.2):=by
 refine bind_fn fun p=>bind_fn fun q=>bind_fn fun x=>bind_fn fun y=>bind_fn fun r=>?_;cases r with
 | d x=>cases x with
  | bool b=>cases b<;>rfl
  | _=>rfl
 | l=>rfl
 | t=>rfl
 | k=>rfl
theorem zmC{f f':U->U->Option U}:Wo (zlq f f' ma mb mc ρ) QE=Wo (ma ρ) (Co (fun p=>(mb p.2).bind fun q=>(p.1.get q.2).bind fun x=>(q.1.get q.2).bind fun y=>(f x y).bind fun r=>r.bol.bind fun b=>if b=true then(mc q.2).bind fun s=>(q.1.get s.2).bind fun y'=>(s.1.get s.2).bind fun z=>(f' y' z).bind fun u=>some (.u u,s.2)else some (.u (.d (.bool false)),q.2)) ⟨0⟩ QE):=by rw [zsO,zt]
def x1:List D->Option D
 | [x]=>some x
 | _=>none
theorem zsP{pn:List Nat}{us:List U}:Wo (zaz n pn m1 us) QF=Wo (m1 (sm us++List.replicate (n - us.length) none)) (Co (zy2 pn us) ⟨0⟩ QF):=by rw [zy3,zt]
def zgB(Q:Fl->Prop)(P:En->Prop):Fl->Prop
 | .nx ρ=>P ρ
 | .ct ρ=>P ρ
 | .bk ρ=>Q (.nx ρ)
 | .rt u ρ=>Q (.rt u ρ)
 | .ex x ρ=>Q (.ex x ρ)
theorem zmD{Q:Fl->Prop}{P:En->Prop}:zgB Q P (.nx ρ)=P ρ:=rfl
theorem zmE{Q:Fl->Prop}{P:En->Prop}:zgB Q P (.ct ρ)=P ρ:=rfl
theorem zdd{Q:Fl->Prop}(P:Nat->En->Prop){ds:List D}(h0:P 0 ρ)(st:∀ i d ρ,ds[i]?=some d->P i ρ->Wo (mg d ρ) (Co m1 ⟨0⟩ (zgB Q (P (i+1)))))(hQ:∀ ρ,P ds.length ρ->Q (.nx ρ)):Wo (zb0 mg m1 ds ρ) Q:=by
 have main:∀ (es:List D) (n:Nat) (ρ:En),n+es.length=ds.length->(∀ i,es[i]?=ds[n+i]?)->P n ρ->Wo (zb0 mg m1 es ρ) Q:=by
  intro es
  induction es with
  | nil =>
   intro n ρ hn _ hp;show Wo (some _) Q;rw [za1];rw [List.length_nil,Nat.add_zero]at hn;exact hQ ρ (hn▸hp)
  | cons d es ih =>
   intro n ρ hn he hp;have e0:=he 0;rw [List.getElem?_cons_zero,Nat.add_zero]at e0;obtain⟨ρ1,e1,f,e2,k⟩:=st n d ρ e0.symm hp;have nxt:∀ ρ2,P (n+1) ρ2->Wo (zb0 mg m1 es ρ2) Q:=fun ρ2 z=>ih (n+1) ρ2 (by rw [qv]at hn; omega) (fun i=>by
    have:=he (i+1);rw [List.getElem?_cons_succ]at this;rw [this,show n+(i+1)=n+1+i by omega]) z
   unfold zb0;rw [zt];refine⟨ρ1,e1,?_⟩;rw [zcX,zt];refine⟨f,e2,?_⟩;rw [zcX];cases f with
   | nx ρ2=>exact nxt ρ2 k
   | ct ρ2=>exact nxt ρ2 k
   | bk ρ2=>exact⟨_,rfl,k⟩
   | rt u ρ2=>exact⟨_,rfl,k⟩
   | ex x ρ2=>exact⟨_,rfl,k⟩
 exact main ds 0 ρ (by omega) (fun i=>by rw [Nat.zero_add]) h0
theorem zaR{α:Type}{g:α->D}{Q:Fl->Prop}(P:List α->List α->En->Prop){as:List α}(h0:P [] as ρ)(st:∀ bs a cs ρ,as=bs++a::cs->P bs (a::cs) ρ->Wo (mg (g a) ρ) (Co m1 ⟨0⟩ (zgB Q (P (bs++[a]) cs))))(hQ:∀ ρ,P as [] ρ->Q (.nx ρ)):Wo (zb0 mg m1 (as.map g) ρ) Q:=by
 have main:∀ (cs bs:List α) (ρ:En),as=bs++cs->P bs cs ρ->Wo (zb0 mg m1 (cs.map g) ρ) Q:=by
  intro cs
  induction cs with
  | nil =>
   intro bs ρ e hp;rw [List.append_nil]at e;subst e;exact⟨_,rfl,hQ ρ hp⟩
  | cons a cs ih =>
   intro bs ρ e hp;obtain⟨ρ1,e1,f,e2,k⟩:=st bs a cs ρ e hp;have nxt:∀ ρ2,P (bs++[a]) cs ρ2->Wo (zb0 mg m1 (cs.map g) ρ2) Q:=fun ρ2 z=>ih (bs++[a]) ρ2 (by rw [e,List.append_assoc]; rfl) z;rw [List.map_cons];unfold zb0;rw [zt];refine⟨ρ1,e1,?_⟩;rw [zcX,zt];refine⟨f,e2,?_⟩;rw [zcX];cases f with
   | nx ρ2=>exact nxt ρ2 k
   | ct ρ2=>exact nxt ρ2 k
   | bk ρ2=>exact⟨_,rfl,k⟩
   | rt u ρ2=>exact⟨_,rfl,k⟩
   | ex x ρ2=>exact⟨_,rfl,k⟩
 exact main as [] ρ rfl h0
def kLC(nt:Nat)(me:ME)(ys:List D)(P:En->List D->Prop)(p:Bool×En):Prop:=if p.1=true then Wo (me p.2) (Co (fun q=>(q.1.get q.2).bind fun u=>u.da.bind fun y=>some (reset nt q.2,ys++[y])) ⟨0⟩ fun z=>P z.1 z.2)else P (reset nt p.2) ys
theorem zsQ{nt:Nat}{ys:List D}{P:En->List D->Prop}:kLC nt me ys P (true,ρ)=Wo (me ρ) (Co (fun q=>(q.1.get q.2).bind fun u=>u.da.bind fun y=>some (reset nt q.2,ys++[y])) ⟨0⟩ fun z=>P z.1 z.2):=rfl
theorem zxa{nt:Nat}{ys:List D}{P:En->List D->Prop}:kLC nt me ys P (false,ρ)=P (reset nt ρ) ys:=rfl
theorem zxb{nt:Nat}{Q:List D×En->Prop}(P:Nat->En->List D->Prop){ds:List D}(hz:ds.length<=sizeLine)(hP:∀ i ρ ys,P i ρ ys->ys.length<=i)(h0:P 0 ρ [])(st:∀ i d ρ ys,ds[i]?=some d->P i ρ ys->Wo (mg d ρ) (Co mt ⟨0⟩ (kLC nt me ys (P (i+1)))))(hQ:∀ ρ ys,P ds.length ρ ys->Q (ys,ρ)):Wo (lcM nt mg mt me ds ρ []) Q:=by
 have main:∀ (es:List D) (n:Nat) (ρ:En) (ys:List D),n+es.length=ds.length->(∀ i,es[i]?=ds[n+i]?)->P n ρ ys->Wo (lcM nt mg mt me es ρ ys) Q:=by
  intro es
  induction es with
  | nil =>
   intro n ρ ys hn _ hp;rw [List.length_nil,Nat.add_zero]at hn;exact⟨_,rfl,hQ ρ ys (hn▸hp)⟩
  | cons d es ih =>
   intro n ρ ys hn he hp;have e0:=he 0;rw [List.getElem?_cons_zero,Nat.add_zero]at e0;obtain⟨ρ1,e1,⟨b,ρ2⟩,e2,k⟩:=st n d ρ ys e0.symm hp;have hl:=hP _ _ _ hp;rw [qv]at hn;have nxt:∀ ρ2 ys2,P (n+1) ρ2 ys2->Wo (lcM nt mg mt me es ρ2 ys2) Q:=fun ρ2 ys2 z=>ih (n+1) ρ2 ys2 (by omega) (fun i=>by
    have:=he (i+1);rw [List.getElem?_cons_succ]at this;rw [this,show n+(i+1)=n+1+i by omega]) z
   unfold lcM;rw [if_pos (by omega),zt];refine⟨ρ1,e1,?_⟩;rw [zcX,zt];refine⟨_,e2,?_⟩;rw [zcX];cases b with
   | false=>rw [if_neg qh]; exact nxt _ _ k
   | true =>
    rw [if_pos rfl,zt];obtain⟨q,e3,k⟩:=k;refine⟨q,e3,?_⟩;rw [zcX,zt]at k ⊢;obtain⟨u,e4,k⟩:=k;refine⟨u,e4,?_⟩;rw [zcX,zt]at k;obtain⟨y,e5,z,e6,k⟩:=k;cases u with
    | d y'=>cases e5; cases e6; exact nxt _ _ k
    | l=>cases e5
    | t=>cases e5
    | k=>cases e5
 exact main ds 0 ρ [] (by omega) (fun i=>by rw [Nat.zero_add]) h0
theorem zmF{Q:Fl->Prop}(P:Nat->En->Prop)(k:Nat)(h0:P k ρ)(st:∀ k ρ,P k ρ->Wo (mt ρ) fun p=>if p.1=true then Wo (m1 p.2) (zgB Q fun ρ'=>∃ k',k' < k/\P k' ρ')else Q (.nx p.2)):Wo (zf9 mt m1 ρ) Q:=by
 have main:∀ (k:Nat) (ρ:En),P k ρ->∃ n f,zbr mt m1 n ρ=some f/\Q f:=by
  intro k
  induction k using Nat.strongRecOn with
  | ind k ih =>
   intro ρ hp;obtain⟨⟨b,ρ1⟩,e1,z⟩:=st k ρ hp;cases b with
   | false =>
    rw [if_neg qh]at z;exact⟨1,_,by unfold zbr; rw [e1]; rfl,z⟩
   | true =>
    rw [if_pos rfl]at z;obtain⟨f,e2,z⟩:=z;have nxt:∀ ρ2,(∃ k',k' < k/\P k' ρ2)->f=.nx ρ2\/f=.ct ρ2->∃ n f,zbr mt m1 n ρ=some f/\Q f:=by
     rintro ρ2 ⟨k',hk,hp'⟩ hf;obtain⟨n,f',e3,q⟩:=ih k' hk ρ2 hp';refine⟨n+1,f',?_,q⟩;unfold zbr;rw [e1,bd,if_pos rfl,e2,bd];rcases hf with rfl | rfl<;>exact e3
    cases f with
    | nx ρ2=>exact nxt ρ2 z (.inl rfl)
    | ct ρ2=>exact nxt ρ2 z (.inr rfl)
    | bk ρ2=>exact⟨1,_,by unfold zbr; rw [e1,bd,if_pos rfl,e2]; rfl,z⟩
    | rt u ρ2=>exact⟨1,_,by unfold zbr; rw [e1,bd,if_pos rfl,e2]; rfl,z⟩
    | ex u ρ2=>exact⟨1,_,by unfold zbr; rw [e1,bd,if_pos rfl,e2]; rfl,z⟩
 obtain⟨n,f,e,q⟩:=main k ρ h0;exact⟨f,zr1 e,q⟩
end
theorem zO{α:Type}{o:Option α}{b:α}(h:Wo o (fun a=>a=b)):o=some b:=by
 obtain⟨a,e,rfl⟩:=h;exact e
theorem zn4:sizeLine=16777216:=Eq.trans zl (Eq.symm (Eq.symm (Nat.add_zero _)))
theorem zsR{α:Type}{n:Nat}{dc:Decidable (n < 16777216)}{a b:Option α}(h:n < 16777216):(if n < 16777216 then a else b)=a:=if_pos h
theorem zlr{α:Type}{xs:List α}{r:Int}(h0:0<=r)(h1:r < (xs.length:Int)):∃ a,atI xs r=some a/\a∈xs/\xs[r.toNat]?=some a:=by
 have hk:r.toNat < xs.length:=by omega
 have ek:r=((r.toNat:Nat):Int):=by omega
 have q:atI xs ((r.toNat:Nat):Int)=some xs[r.toNat]:=zuT (qo hk);rw [<-ek]at q;exact⟨_,q,List.getElem_mem hk,qo hk⟩
theorem zsS{xs:List D}{r:Int}{Q:U->Prop}(h0:0<=r)(h1:r < (xs.length:Int))(k:∀ a∈xs,Q (.d a)):Wo ((atI xs r).map U.d) Q:=by
 obtain⟨a,e,m,_⟩:=zlr h0 h1;rw [e];exact⟨_,rfl,k a m⟩
theorem zsT{α:Type}{f:α->D}{xs:List α}{r:Int}{Q:U->Prop}(h0:0<=r)(h1:r < (xs.length:Int))(k:∀ a∈xs,xs[r.toNat]?=some a->Q (.d (f a))):Wo ((atI (xs.map f) r).map U.d) Q:=by
 obtain⟨a,e,m,z⟩:=zlr (xs:=xs.map f) h0 (by rw [List.length_map]; exact h1);rw [List.getElem?_map]at z;obtain⟨b,hb,rfl⟩:=qt.mp z;rw [e];exact⟨_,rfl,k b (List.mem_of_getElem? hb) hb⟩
theorem zxc{lo:Int}{n i:Nat}{d:D}(h:(zbf lo n)[i]?=some d):i < n/\d=.int (lo+(i:Nat)):=zhb h
theorem zn5{lo:Int}{n:Nat}:(zbf lo n).length=n:=by
 unfold zbf;rw [List.length_map,List.length_range]
theorem zsU{ρ:En}{mg:MG}{m1:MS}{n:Nat}{Q:Fl->Prop}(P:Nat->En->Prop)(h0:P 0 ρ)(st:∀ i ρ,i < n->P i ρ->Wo (mg (.int (0+(i:Nat))) ρ) (Co m1 ⟨0⟩ (zgB Q (P (i+1)))))(hQ:∀ ρ,P n ρ->Q (.nx ρ)):Wo (zb0 mg m1 (zbf 0 n) ρ) Q :=
 zdd P h0 (fun i d ρ hd hp=>by
  obtain⟨hi,rfl⟩:=zxc hd;exact st i ρ hi hp) fun ρ hp=>hQ ρ (by rw [zn5]at hp; exact hp)
theorem zpx{ρ:En}{mg:MG}{mt:MT}{me:ME}{nt n:Nat}{Q:List D×En->Prop}(P:Nat->En->List D->Prop)(hz:n<=sizeLine)(h0:P 0 ρ [])(hP:∀ i ρ ys,P i ρ ys->ys.length<=i)(st:∀ i ρ ys,i < n->P i ρ ys->Wo (mg (.int (0+(i:Nat))) ρ) (Co mt ⟨0⟩ (kLC nt me ys (P (i+1)))))(hQ:∀ ρ ys,P n ρ ys->Q (ys,ρ)):Wo (lcM nt mg mt me (zbf 0 n) ρ []) Q :=
 zxb P (by rw [zn5]; exact hz) hP h0 (fun i d ρ ys hd hp=>by
  obtain⟨hi,rfl⟩:=zxc hd;exact st i ρ ys hi hp) fun ρ ys hp=>hQ ρ ys (by rw [zn5]at hp; exact hp)
def Asc(n:Nat)(z:Str):Prop:=z.length<=n/\∀ c∈z.cps.toList,c < 128
theorem Asc.mono{n m:Nat}{z:Str}(h:Asc n z)(hm:n<=m):Asc m z:=⟨qA h.1 hm,h.2⟩
theorem Asc.app{n m:Nat}{x y:Str}(hx:Asc n x)(hy:Asc m y):Asc (n+m) (x++y):=⟨by rw [PySem.Str.length_append]; have:=hx.1; have:=hy.1; omega,fun c hc=>by
 rw [PySem.Str.cps_append,Array.toList_append,List.mem_append]at hc;exact hc.elim (hx.2 c) (hy.2 c)⟩
theorem Asc.one{c:Nat}(h:c < 128):Asc 1 ⟨#[c]⟩:=⟨qg _,fun d hd=>by
 cases qr.mp hd;exact h⟩
theorem Asc.join{n:Nat}:∀ {ys:List Str},(∀ z∈ys,Asc n z)->Asc (ys.length * n) (PySem.Str.join "" ys)
 | [],_=>⟨Nat.zero_le _,fun c hc=>by cases hc⟩
 | [x],h=>(h x qq).mono (by simp)
 | x::y::r,h=>by
  have:=((h x qq).app (show Asc 0 "" from⟨qg _,fun c hc=>by cases hc⟩)).app (Asc.join fun z hz=>h z (qp _ hz));exact this.mono (by simp only [qv,Nat.add_mul]; omega)
theorem zqA{n:Nat}{ys:List Str}(h:∀ z∈ys,Asc n z):Asc (ys.length * n) (Txt.join "" ys):=by
 show Asc _ (PySem.Builtin.Str.glued "" ys);rw [PySem.StrLaws.glued_eq_join];exact Asc.join h
theorem Asc.slice{n:Nat}{z:Str}(h:Asc n z)(lo hi:Option Int):Asc n (Txt.slice z lo hi):=by
 refine⟨qA (Txt.slice_le _ _ _) h.1,?_⟩;unfold Txt.slice;split
 ·exact h.2
 ·intro c hc
  rw [List.toList_toArray,List.mem_filterMap]at hc;obtain⟨i,_,e⟩:=hc;exact h.2 c (Array.mem_toList_iff.mpr (Array.mem_of_getElem? e))
theorem zy8{x y:Str}(h:x.length+y.length<=16777216):zgA (.d (.str x)) (.d (.str y))=some (.d (.str (x++y))):=by
 unfold zgA;dsimp only;rw [if_pos (by rw [zl]; exact h)]
theorem zi3{n m:Nat}{x y:Str}{Q:U->Prop}(hx:Asc n x)(hy:Asc m y)(hn:n+m<=1000)(k:Asc (n+m) (x++y)->Q (.d (.str (x++y)))):Wo (zgA (.d (.str x)) (.d (.str y))) Q:=by
 rw [zy8 (by have:=hx.1; have:=hy.1; omega)];exact⟨_,rfl,k (hx.app hy)⟩
theorem zih{z:Str}{r:Int}{Q:U->Prop}(h0:0<=r)(h1:r < (z.length:Int))(hz:z.length<=1000)(k:∀ c∈z.cps.toList,Q (.d (.str ⟨#[c]⟩))):Wo (zn1 (.d (.str z)) (.d (.int r))) Q:=by
 have hl:z.length=z.cps.toList.length:=by rw [Array.length_toList]; rfl
 obtain⟨c,e,m,_⟩:=zlr (xs:=z.cps.toList) h0 (by rw [<-hl]; exact h1);unfold zn1;dsimp only;rw [if_pos (by rw [zl]; omega),e];exact⟨_,rfl,k c m⟩
theorem zkz:∀ (zs:List Str),(zs.map PyData.str).mapM zvu=some zs
 | []=>rfl
 | z::zs=>by
  rw [List.map_cons,List.mapM_cons,zkz zs];rfl
theorem zmG{n:Nat}:∀ {ys:List Str},(∀ z∈ys,z.length<=n)->(ys.map (·.length)).sum<=ys.length * n
 | [],_=>by simp
 | y::ys,h=>by
  have:=zmG (ys:=ys) fun z hz=>h z (qp _ hz);have:=h y qq;simp only [List.map_cons,List.sum_cons,qv,Nat.add_mul];omega
theorem zpy{n m:Nat}{zs:List Str}{Q:U->Prop}(h:∀ z∈zs,Asc n z)(hl:zs.length<=m)(hm:m * n<=1000)(k:Asc (m * n) (Txt.join "" zs)->Q (.d (.str (Txt.join "" zs)))):Wo (zkx (.d (.str "")) (.l (zs.map PyData.str))) Q:=by
 have h1:=zmG (n:=n) fun z hz=>(h z hz).1;have h2:zs.length * n<=m * n:=Nat.mul_le_mul_right _ hl;unfold zkx;dsimp only;rw [zkz,bd,if_pos (by rw [show(("":Str)).length=0 by decide,Nat.mul_zero]; omega)];exact⟨_,rfl,k ((zqA h).mono h2)⟩
theorem zi4:∀ (zs:List Str),(zs.map PyData.str).mapM flD=some (zs.map V.str)
 | []=>rfl
 | z::zs=>by
  rw [List.map_cons,List.mapM_cons,zi4 zs];rfl
theorem zls{xs ys:List D}(h:xs.length+ys.length<=16777216):zd9 (.d (.tuple xs)) (.d (.tuple ys))=some (.d (.tuple (xs++ys))):=by
 cases xs with
 | nil=>rfl
 | cons x xs =>
  show zmp (.d (.tuple (x::xs))) (.d (.tuple ys))=_;unfold zmp;dsimp only;rw [if_pos ⟨by simp,by rw [zl]; exact h⟩]
theorem zxd{i:Int}:zeJ "int" (.d (.int i))=some (.d (.bool true)):=rfl
theorem zxe{i:Int}:zeJ "bool" (.d (.int i))=some (.d (.bool false)):=rfl
theorem zxf{xs:List D}:zeJ "tuple" (.d (.tuple xs))=some (.d (.bool true)):=rfl
theorem zsV{a b:String}:(PySem.Str.ofString a=PySem.Str.ofString b)=(a=b):=propext ⟨fun h=>by
 rw [PySem.Str.ofString_eq_toList,PySem.Str.ofString_eq_toList]at h;have h1:=congrArg (fun z:Str=>z.cps.toList) h;dsimp only at h1;exact String.toList_inj.mp (List.map_inj_right (fun x y e=>Char.ext (UInt32.toNat_inj.mp e)) |>.mp h1),fun h=>by rw [h]⟩
theorem zy9{xs:List D}{k:Int}(h:0<=k):ziZ xs none (some k)=xs.take k.toNat:=by
 have e:k=((k.toNat:Nat):Int):=by omega
 unfold ziZ;rw [e,HT.sIx_nat,HT.sIx_none,List.drop_zero,Nat.sub_zero];rw [show((k.toNat:Nat):Int).toNat=k.toNat by omega];rw [Nat.min_def];split
 ·rfl
 ·rw [List.take_of_length_le (qg _),List.take_of_length_le (by omega)]
structure Nic (k M:Nat) (d:D):Prop where
 lay:d.canLay0=true
 dep:d.depth<=k
 shw:d.showable=true
 len:d.shown.length<=M
theorem Nic.mono{k M k' M':Nat}{d:D}(h:Nic k M d)(h1:k<=k')(h2:M<=M'):Nic k' M' d:=⟨h.lay,qA h.dep h1,h.shw,qA h.len h2⟩
theorem zgC{n:Nat}{i:Int}(h:i.natAbs < 10^n)(h0:0 < n:=by decide)(h1:n<=470:=by decide):Nic 0 (n+1) (.int i):=by
 refine⟨rfl,by simp [PyData.depth],?_,?_⟩
 ·show decide (i.natAbs.log2 < 1920)=true
  refine decide_eq_true ?_
  by_cases z:i.natAbs=0
  ·rw [z]; decide
  ·have e1:10^n<=16^n:=Nat.pow_le_pow_left (by decide) n
   have e2:16^n=2^(4 * n):=by rw [Nat.pow_mul]
   have e3:i.natAbs < 2^(4 * n):=by rw [<-e2]; exact qk h e1
   exact qk ((Nat.log2_lt z).mpr e3) (by omega)
 ·show(PySem.Str.ofString (toString i)).length<=n+1
  rw [PySem.ofString_length];exact PySem.int_text_length_le10 h0 h
theorem zpz{n:Nat}{z:Str}(h:Asc n z):Nic 0 (10 * n+2) (.str z):=by
 refine⟨?_,by simp [PyData.depth],rfl,?_⟩
 ·show z.cps.all (· < 0x110000)=true
  rw [Array.all_eq_true'];intro c hc;have:=h.2 c (Array.mem_toList_iff.mpr hc);exact decide_eq_true (by omega)
 ·have:=PySem.StrLaws.reprText_len z fun c hc=>Nat.lt_trans (h.2 c hc) (by decide)
  have:=h.1;show(reprText z).length<=_;omega
theorem zsW:Nic 0 4 .none:=⟨rfl,by simp [PyData.depth],rfl,by decide⟩
theorem zpA{k M:Nat}:∀ {ds:List D},(∀ d∈ds,Nic k M d)->PyData.canLayAll0 ds=true/\PyData.depthAll ds<=k/\PyData.showableAll ds=true/\((PyData.shownAll ds).map (·.length)).sum+2 * ds.length<=ds.length * (M+2)
 | [],_=>⟨rfl,by simp [PyData.depthAll],rfl,by simp [PyData.shownAll]⟩
 | d::ds,h=>by
  obtain⟨a0,a1,a2,a3⟩:=zpA (ds:=ds) fun x hx=>h x (qp _ hx);obtain⟨b0,b1,b2,b3⟩:=h d qq;refine⟨?_,?_,?_,?_⟩
  ·show(d.canLay0 && PyData.canLayAll0 ds)=true
   rw [a0,b0];rfl
  ·simp only [PyData.depthAll]
   omega
  ·show(d.showable && PyData.showableAll ds)=true
   rw [a2,b2];rfl
  ·show((d.shown::PyData.shownAll ds).map (·.length)).sum+_<=_
   rw [List.map_cons,List.sum_cons,qv,Nat.add_mul,Nat.one_mul];omega
theorem zbK{n k M:Nat}{ds:List D}(h:∀ d∈ds,Nic k M d)(hn:ds.length<=n):Nic (k+1) (n * (M+2)+3) (.tuple ds):=by
 obtain⟨a0,a1,a2,a3⟩:=zpA h;refine⟨a0,?_,a2,?_⟩
 ·simp only [PyData.depth]
  omega
 ·have:=tupleText_len_le (PyData.shownAll ds)
  have e:=PyData.shownAll_length ds;have m:ds.length * (M+2)<=n * (M+2):=Nat.mul_le_mul_right _ hn;show(tupleText (PyData.shownAll ds)).length<=_;omega
theorem Nic.shaped{k M:Nat}{d:D}(h:Nic k M d)(hk:k<=64):SeqAt.shaped d=true:=by
 unfold SeqAt.shaped;rw [h.lay,Bool.true_and];exact decide_eq_true (qA h.dep hk)
theorem Nic.eqD{k M k' M':Nat}{a b:D}{neg:Bool}(ha:Nic k M a)(hb:Nic k' M' b)(hk:k<=64)(hk':k'<=64):zf6 neg (.d a) (.d b)=some (.d (.bool (if neg=true then !PyData.eqv a b else PyData.eqv a b))):=by
 have ea:U.py (.d a)=some a:=rfl;have eb:U.py (.d b)=some b:=rfl;unfold zf6;rw [ea,bd,eb,bd,if_pos ⟨ha.shaped hk,hb.shaped hk'⟩]
section
variable {X:Cx} {K:qe}
end
section
variable {X:Cx} {pos:Pos}
end
section
variable {K:qe}
def zBz:U->Option U
 | .d (.int i)=>if i.natAbs.log2 < 1920 then some (.d (.str (toString i)))else none
 | .d (.str z)=>if z.length<=sizeLine then some (.d (.str z))else none
 | _=>none
abbrev MJ:=En->Str->Option (Str×En)
def U.sr:U->Option Str
 | .d (.str z)=>some z
 | _=>none
end
section
variable {ρ:En} {me:ME} {mj:MJ} {QE:Ar×En->Prop} {QJ:Str×En->Prop} {acc z y:Str} {i:Int}
end
end L2
namespace L2
open PySem PySem.Spec PyProof.Rows PySem.NumText
abbrev ts(n:Int):Str:=PySem.Str.ofString (toString n)
end L2
namespace L2
open PySem PySem.Spec PyProof.Rows
section
variable {X:Cx} {o e f:Expr} {apos cpos:Pos} {td ty tx:TE} {k:Nat}
theorem zii(hr:Room k X.A)(ho:Wr (PE X o td))(he:Wr (PE X e ty))(hf:Wr (PE X f tx))(m:M2 X o "get" apos e f cpos):Wr (PE X (.Call (.Attribute o "get" apos) [e,f] [] cpos) (znF X.K td ty tx)):=⟨zrv (zl5 hr) ho.run he.run hf.run m⟩
end
section
variable {K:qe}
def zkA:U->Bool
 | .t _=>true
 | .k _=>true
 | .d (.dict kvs)=>noX kvs
 | _=>false
theorem zsX{H:Hp}{x:V}{u:U}(h:Rp K H x u)(e:zkA u=true):∃ a,x=.ref a/\IsD H a:=by
 unfold zkA at e;split at e
 ·obtain⟨a,ws,rfl,h1,_⟩:=h
  exact⟨a,rfl,.inr ⟨_,.inl h1⟩⟩
 ·obtain⟨a,ws,rfl,h1,_⟩:=h
  exact⟨a,rfl,.inl ⟨_,.inl h1⟩⟩
 ·obtain⟨a,ob,ws,rfl,h1,_⟩:=DF.dct_inv h e
  exact⟨a,rfl,.inr ⟨_,.inr ⟨ob,h1⟩⟩⟩
 ·cases e
def zeN(md my mx:ME):ME:=fun ρ=>(md ρ).bind fun p=>(p.1.get p.2).bind fun u0=>if zkA u0=true then(my p.2).bind fun q=>(mx q.2).bind fun z=>(p.1.get z.2).bind fun u=>(q.1.get z.2).bind fun y=>(z.1.get z.2).bind fun x=>(zjQ u y).bind fun o=>match x with
 | .d x=>some (.u (.d (o.getD x)),z.2)
 | _=>none else none
theorem zij{td ty tx:TE}{md my mx:ME}(hd:VE K td md)(hy:VE K ty my)(hx:VE K tx mx):VE K (znF K td ty tx) (zeN md my mx):=by
 intro ρ σ H a ρ' Q r e q;obtain⟨⟨a1,ρ1⟩,e1,e⟩:=bQ e;obtain⟨u0,e0,e⟩:=bQ e;split at e
 rotate_left
 ·cases e
 rename_i hu0;obtain⟨⟨b1,ρ2⟩,e2,e⟩:=bQ e;obtain⟨⟨c1,ρ3⟩,e3,e⟩:=bQ e;obtain⟨u,eu,e⟩:=bQ e;obtain⟨y,ey,e⟩:=bQ e;obtain⟨x,ex,e⟩:=bQ e;obtain⟨o,eo,e⟩:=bQ e;split at e
 rotate_left
 ·cases e
 cases e;refine hd ρ σ H a1 ρ1 _ r e1 fun v1 H1 g1 k1=>?_;obtain⟨b,rfl,hb⟩:=zsX (k1.now r g1 e0) hu0;refine⟨b,rfl,hb,hy ρ1 σ H1 b1 _ _ g1.rs e2 fun v2 H2 g2 k2=>hx ρ2 σ H2 c1 _ _ g2.rs e3 fun v3 H3 g3 k3=>?_⟩;obtain⟨b',eb,h⟩:=zoZ (k1.later r g1 (g2.trans g3) eu) (k2.later g1.rs g2 g3 ey) eo;cases eb;have p3:=k3.now g2.rs g3 ex;rcases h with ⟨w,d',rfl,g,p⟩ | ⟨rfl,g⟩
 ·exact⟨_,g,q w H3 ((g1.trans g2).trans g3) ⟨p,Nw.data⟩⟩
 ·exact⟨_,g,q v3 H3 ((g1.trans g2).trans g3) ⟨p3,Nw.data⟩⟩
end
theorem zsY:Manifest.canonical (String.map (fun c=>if(c.isAlphanum || c=='_' || c=='.')=true then c else '_') "dict_itemiterator.__iter__") ++ "" = "dict_keyiterator.__iter__":=by decide +kernel
theorem zsZ:entryFor table "dict_itemiterator.__iter__"=some Builtin.«dict_keyiterator.__iter__»:=entryFor_alias (by kernel_rfl) (by kernel_rfl) zsY (by kernel_rfl)
section
variable {prog:Program} {w:World} {A:Around} {E:Value->Shared->Prop} {s:Shared} {it d:Addr} {i ep:Nat} {es:Array DictEntry} {ok ov:Value}
theorem zfv{T:Value}{vs:Array Value}{j:Nat}{x:Value}{Q:Unit->Shared->Prop}(e:s.heap.get? it=some { cls:=T,data:=.fields vs })(hj:j < vs.size)
  (q:∀ h':Heap,h'.get? it=some { cls:=T,data:=.fields (vs.setIfInBounds j x) }->h'.objs.size=s.heap.objs.size->(∀ b o,b≠it->s.heap.get? b=some o->h'.get? b=some o)->Q () { s with heap:=h' }):wpAny (model prog w) A (setField (.ref it) j x) Q E s:=by
 refine wpAny_setField e rfl hj (q _ ?_ ?_ fun b o hb z=>?_)
 ·exact Heap.get?_update_self _ e (Obj.isFreed_of_fields (Obj.data_mapFields rfl _))
 ·exact Heap.size_update ..
 ·exact((Heap.SameBut.update ..).2 b hb).trans z
theorem zqB{Q:Option Value->Shared->Prop}(k:IsItemIter s.heap it d i es.size ep ok ov)(r:zfk s.heap d es ep){x:DictEntry}(hx:es[i]?=some x)
  (q:∀ h':Heap,IsItemIterOut h' it d (i+1) es.size ep x.key x.val s.heap.objs.size->h'.get? s.heap.objs.size=some { cls:=.type "tuple",data:=.seq #[x.key,x.val] }->(∀ b o,b≠it->s.heap.get? b=some o->h'.get? b=some o)->Q (some (.ref s.heap.objs.size)) { s with heap:=h' }):wpAny (model prog w) A (pyNext (.ref it)) Q E s:=by
 have kT:s.TypeIs (.ref it) "dict_itemiterator":=⟨_,k,rfl⟩;obtain⟨o,e,_,dat⟩:=r;have nit:s.heap.objs.size≠it:=Ne.symm (ql (qj k));unfold pyNext;refine qc (wpAny_attempt (wpAny_callSpecial?_slot (name:=Str.ofString "__next__") kT F.slot_dict_itemiterator_next
  (wpAny_call_entry F.slot_dict_itemiterator_next kT F.entry_dict_itemiterator_next ?_ (F.args_dict_itemiterator_next_1 _))))
 refine qc (qd (qc (qc ?_)));refine qc (wpAny_typeNameOfWhole_itemiter kT (qd (qc (wpAny_fieldsOf k rfl ?_))));simp only [show Builtin.Dict_items.ownsTuple "dict_itemiterator"=true by decide,if_true];show wpAny _ _ (if(Value.ref d==Value.none)=true then _ else _) _ _ s;rw [if_neg (show ¬((Value.ref d==Value.none)=true) from qh)];refine qc (qd (qc (wpAny_dictEntries e dat ?_)));rw [if_neg (by simp)];refine qc (qd (qc (wpAny_dictEpoch e dat ?_)));rw [if_neg (by simp)];refine qd ?_;simp only [show ¬((i:Int) < 0) from by omega,if_false,Int.toNat_natCast,hx];refine qc (qc (wpAny_typeNameOfWhole_itemiter kT (qd (qc (wpAny_isOneOf_itemiter kT ?_)))));show wpAny _ _ (setField (.ref it) 3 (rawInt ((i:Int)+1)) >>= _) _ _ s;refine qc (zfv k (by simp) fun h1 k1 z1 f1=>?_);refine qc (wpAny_holding ?_);have kT1:Shared.TypeIs { s with heap:=h1 } (.ref it) "dict_itemiterator":=⟨_,k1,rfl⟩;refine qc (wpAny_isOneOf_itemiter kT1 ?_);show wpAny _ _ (Builtin.Dict_items.isOneOf (.ref it) _ >>= _) _ _ _;refine qc (wpAny_isOneOf_itemiter kT1 ?_);show wpAny _ _ (Builtin.Dict_items.pairFromOwner (.ref it) 6 x.key x.val) _ _ _;unfold Builtin.Dict_items.pairFromOwner;simp only [newTuple];refine qc (qB ?_ (by show(2:Nat)<=sizeLine; decide));have k2:(h1.push { cls:=.type "tuple",data:=.seq #[x.key,x.val] }).get? it=_:=qf _ k1;have t2:(h1.push { cls:=.type "tuple",data:=.seq #[x.key,x.val] }).get? h1.objs.size=_:=qi _ rfl;have f2:∀ b o,b≠it->s.heap.get? b=some o->(h1.push { cls:=.type "tuple",data:=.seq #[x.key,x.val] }).get? b=some o:=fun b o hb z=>qf _ (f1 b o hb z);rw [z1]at t2;show wpAny _ _ _ _ _ { s with heap:=h1.push { cls:=.type "tuple",data:=.seq #[x.key,x.val] } };generalize h1.push { cls:=.type "tuple",data:=.seq #[x.key,x.val] }=h2 at k2 t2 f2 ⊢;rw [z1];unfold Builtin.Dict_items.ownedTupleIsFree;refine qc (qc (wpAny_field k2 rfl (x:=.none) rfl (qd ?_)));show wpAny _ _ (if true=true then _ else _) _ _ _;rw [if_pos rfl];show wpAny _ _ (field (.ref it) 6 >>= _) _ _ _;refine qc (wpAny_field k2 rfl (x:=ok) rfl ?_);refine qc (wpAny_field k2 rfl (x:=ov) rfl ?_);refine qc (zfv k2 (by simp) fun h3 k3 z3 f3=>?_);refine qc (zfv k3 (by simp) fun h4 k4 z4 f4=>?_);refine qc (zfv k4 (by simp) fun h5 k5 z5 f5=>?_);refine qc (zfv k5 (by simp) fun h6 k6 z6 f6=>?_);refine qc (wpAny_letGo (qd (qd ⟨_,rfl,qd (q _ ?_ ?_ fun b o hb z=>?_)⟩)))
 ·show h6.get? it=_
  rw [k6];rfl
 ·exact f6 _ _ nit (f5 _ _ nit (f4 _ _ nit (f3 _ _ nit t2)))
 ·exact f6 b o hb (f5 b o hb (f4 b o hb (f3 b o hb (f2 b o hb z))))
theorem zs0{Q:Option Value->Shared->Prop}(hh:A.handled=none)(k:IsItemIter s.heap it d i es.size ep ok ov)(r:zfk s.heap d es ep)(hx:es.size<=i)
  (q:∀ h':Heap,Heap.ExtBut it s.heap h'->Q none { s with heap:=h' }):wpAny (model prog w) A (pyNext (.ref it)) Q E s:=by
 have kT:s.TypeIs (.ref it) "dict_itemiterator":=⟨_,k,rfl⟩;obtain⟨o,e,_,dat⟩:=r;unfold pyNext;refine qc (wpAny_attempt (wpAny_callSpecial?_slot (name:=Str.ofString "__next__") kT F.slot_dict_itemiterator_next
  (wpAny_call_entry F.slot_dict_itemiterator_next kT F.entry_dict_itemiterator_next ?_ (F.args_dict_itemiterator_next_1 _))))
 refine qc (qd (qc (qc ?_)));refine qc (wpAny_typeNameOfWhole_itemiter kT (qd (qc (wpAny_fieldsOf k rfl ?_))));simp only [show Builtin.Dict_items.ownsTuple "dict_itemiterator"=true by decide,if_true];show wpAny _ _ (if(Value.ref d==Value.none)=true then _ else _) _ _ s;rw [if_neg (show ¬((Value.ref d==Value.none)=true) from qh)];refine qc (qd (qc (wpAny_dictEntries e dat ?_)));rw [if_neg (by simp)];refine qc (qd (qc (wpAny_dictEpoch e dat ?_)));rw [if_neg (by simp)];refine qd ?_;simp only [show ¬((i:Int) < 0) from by omega,if_false,Int.toNat_natCast,Array.getElem?_eq_none hx];refine qc (qc (wpAny_typeNameOfWhole_itemiter kT (qd ?_)));show wpAny _ _ (setField (.ref it) 2 .none >>= _) _ _ s;refine qc (wpAny_setField k rfl (by simp) ?_);show wpAny _ _ (newExc (.type "StopIteration") [] >>= _) _ _ _;refine qc ?_;simp only [newExc,newTuple];refine qc (qB ?_ (by show(0:Nat)<=sizeLine; exact Nat.zero_le _));refine qc (m:=firstArgMember _ _) (wpAny_of_eq (a:=Value.none) (by first | rfl | (simp only [firstArgMember]; rfl)) ?_);refine qB ?_ (by first | trivial | size_fits);simp only [raiseNew];refine qc (wpAny_handled ?_);rw [show A.in1.handled=none from hh];refine qc (qd (wpAny_throw ?_));refine qc (wpAny_isInstance (T := "StopIteration") (b:=true) ⟨_,qi _ rfl,rfl⟩ isSubtype_stop ?_);exact qd (q _ (((Heap.SameBut.update ..).extBut.push _).push _))
theorem zqC{Q:Value->Shared->Prop}(hd:(d==sysModules)=false)(r:zfk s.heap d es ep)
  (q:Q (.ref s.heap.objs.size) { s with heap:=s.heap.push { cls:=.type "dict_items",data:=.fields #[.ref d] } }):wpAny (model prog w) A (call (.builtin "dict.items") [.ref d]) Q E s:=by
 have hT:=r.typeIs;obtain⟨o,e,_,dat⟩:=r;refine wpAny_call_entry F.slot_dict_items hT F.entry_dict_items ?_ (F.args_dict_items_1 _);unfold Builtin.«dict.items» Builtin.Dict.noArgs;refine qc (qc (wpAny_notOrdered_dict hT ?_));refine qc (qd ?_);refine qc (qd (qd ?_));unfold Builtin.Dict.showsAll;rw [hd,if_neg qh];refine qc (qd ?_);unfold newFields;exact qc (qB (qd ⟨_,rfl,q⟩))
theorem zqD{v:Addr}{Q:Value->Shared->Prop}(hv:s.heap.IsItemsView v d)(r:zfk s.heap d es ep)
  (q:∀ h':Heap,IsItemIter h' s.heap.objs.size d 0 es.size ep .none .none->(∀ b o,s.heap.get? b=some o->h'.get? b=some o)->Q (.ref s.heap.objs.size) { s with heap:=h' }):wpAny (model prog w) A (pyIter (.ref v)) Q E s:=by
 obtain⟨o,e,_,dat⟩:=r;obtain⟨o2,e2,c2,d2⟩:=id hv;have hT:=hv.typeIs (s:=s);refine wpAny_pyIter_slot hT F.slot_dict_items_iter (wpAny_call_entry F.slot_dict_items_iter hT F.entry_dict_items_iter ?_ (F.args_dict_items_iter_1 _));unfold Builtin.«dict_items.__iter__»;refine qc (qd ?_);unfold Builtin.Dict_items.dictOf;refine qc (qc (wpAny_field e2 d2 (x:=.ref d) rfl (qd ?_)));unfold Builtin.Dict_items.newIterator;refine qc (qc (wpAny_dictEntries e dat (qc (wpAny_dictEpoch e dat ?_))));unfold newFields;refine qB (qd ⟨_,rfl, "dict_itemiterator",_,⟨_,qi _ rfl,rfl⟩,F.slot_dict_itemiterator_next.lookup,?_⟩) (by rw [show Builtin.Dict_items.ownsTuple "dict_itemiterator"=true by decide,if_pos rfl]; show(8:Nat)<=sizeLine+2; decide);exact q _ (qi _ rfl) fun b o z=>qf _ z
end
theorem zdO{X:Cx}{pins:List (Addr×Obj)}{σ:St}{H:Hp}{s:Shared}{a:Addr}{o:Obj}{kvs:List (List Key×V)}(I:Inv X pins σ H s)(e:H a=some (.frz o (.dT kvs))) :
  (a==sysModules)=false/\∃ (es:Array DictEntry) (ep:Nat),s.heap.get? a=some o/\o.ExactDict/\o.data=.dict es ep/\es.size=kvs.length/\∀ (i:Nat) (k:List Key) (v:V),kvs[i]?=some (k,v)->∃ (b:Addr) (x:DictEntry),es[i]?=some x/\x.key=.ref b/\TpK X.K H b (k.map kV)/\zab v x.val:=by
 obtain⟨ea,z,y,xs,r,o',es,ep,h1,h2,h3,h4,h5⟩:=(show zao X.prog X.w X.K H s.heap a (.frz o (.dT kvs)) from I.hok a _ e);rw [ea]at h1;cases h1;refine⟨y,es,ep,ea,h2,h3,?_,fun i k v hi=>?_⟩
 ·have:=congrArg List.length h4
  rw [Array.length_toList,List.length_map,<-zcM r]at this;exact this
 ·obtain⟨q,hq,r1,r2,r3⟩:=zf4 r i (k,v) hi
  refine⟨q.2.1,entryOfKey (tupleKind (zaq X.prog X.w)) q,?_,rfl,r2,r3⟩;have:es.toList[i]?=some (entryOfKey (tupleKind (zaq X.prog X.w)) q):=by rw [h4,List.getElem?_map,hq]; rfl
  simpa using this
def ItI(K:qe)(a:Addr)(o:Obj)(kvs:List (List Key×V)):It :=
 ⟨fun i H=>H a=some (.frz o (.dT kvs))/\i < kvs.length,fun i H x H'=>∃ T,H T=none/\x=.ref T/\∀ k v,kvs[i]?=some (k,v)->∃ b,TpK K H b (k.map kV)/\H'=upd H T (.tup [.ref b,v]),fun i H=>H a=some (.frz o (.dT kvs))/\kvs.length<=i⟩
theorem zn6{P:Program}{w:World}{K:qe}{elts:List Expr}{k:Nat}{pos:Pos}(a it:Addr)(o:Obj)(kvs:List (List Key×V))(ep:Nat)(hep:∃ es,o.data=.dict es ep):Turn P w K (.Tuple elts k pos) (ItI K a o kvs) [it] it (fun i h=>∃ ok ov,IsItemIter h it a i kvs.length ep ok ov) where
 mem:=by simp
 obj:=fun i h st b hb=>by
  have e:b=it:=by simpa using hb
  subst e;obtain⟨ok,ov,e⟩:=st;exact⟨_,e,fun v z=>by
   have z':Data.fields _=Data.cell v:=z;cases z'⟩
 keep:=fun i h h' st k=>by
  obtain⟨ok,ov,e⟩:=st;exact⟨ok,ov,k it (by simp) _ e⟩
 item:=by
  intro X hP hw hK hc i pins s σ H E I hf st hg;subst hP hw hK;obtain⟨e,hi⟩:=hg;obtain⟨ok,ov,st⟩:=st;obtain⟨hsm,es,ep',ea,xd,dat,hsz,ent⟩:=zdO I e;have eep:ep'=ep:=by
   obtain⟨es',z⟩:=hep;rw [dat]at z;injection z
  subst eep;obtain⟨b,x,ex,kx,hb,rv⟩:=ent i kvs[i].1 kvs[i].2 (qo hi);refine zqB (es:=es) (by rw [hsz]; exact st) ⟨o,ea,xd,dat⟩ ex fun h1 st1 isT kk=>?_;refine⟨_,rfl,wpAny_letOwnedTupleGo_items (s:={ s with heap:=h1 }) st1 fun h2 st2 sb=>?_⟩;have nit:s.heap.objs.size≠it:=Ne.symm (ql (qj st));have I2:Inv X pins σ H { s with heap:=h2 }:=I.turnedW (t':=s.toks) (wr:=[it]) (fun b o hb q=>(sb.2 b (by simpa using hb)).trans (kk b o (by simpa using hb) q)) hf;have fT:zdv X pins H s.heap.objs.size:=I.fpOk (qg _) (I.hok.fresh (qg _));rw [kx]at isT;have I3:Inv X pins σ (upd H s.heap.objs.size (.tup [.ref b,kvs[i].2])) { s with heap:=h2 }:=I2.track fT I.sz ⟨by show 2<=sizeLine; decide,[.ref b,x.val],.cons rfl (.cons rv .nil),_,(sb.2 _ nit).trans isT,rfl,⟨_,rfl⟩,.inl rfl⟩;refine⟨.ref s.heap.objs.size,_,I3,rfl,⟨_,I.hok.fresh (qg _),rfl,fun k v hkv=>⟨b,?_,?_⟩⟩,⟨_,_,by rw [<-hsz]; exact st2⟩,fun c hc=>?_⟩
  ·rw [qo hi]at hkv
   rw [qy hkv]at hb;exact hb
  ·rw [qo hi]at hkv
   rw [qy hkv]
  ·have e:c=it:=by simpa using hc
   subst e;rw [zI (Ne.symm nit)];exact(hf c hc).1
 done:=by
  intro X hP hw hK hc i pins s σ H E I hf st hg;subst hP hw hK;obtain⟨e,hi⟩:=hg;obtain⟨ok,ov,st⟩:=st;obtain⟨hsm,es,ep',ea,xd,dat,hsz,ent⟩:=zdO I e;have eep:ep'=ep:=by
   obtain⟨es',z⟩:=hep;rw [dat]at z;injection z
  subst eep;obtain⟨f0,f1,f2,f3,f4,f5⟩:=hf it (by simp);exact zs0 (es:=es) (I.ok.hd hc) (by rw [hsz]; exact st) ⟨o,ea,xd,dat⟩ (by omega) fun h' eb=>⟨rfl,I.turned (t':=s.toks) (fun b o hb e=>eb b o hb e) f0 f1 f3 f4 f5⟩
 self:=fun _ _ _ _ _ st h=>by
  obtain⟨ok,ov,st⟩:=st;exact wpAny_pyIter_slot ⟨_,st,rfl⟩ F.slot_dict_itemiterator_iter (wpAny_call_entry F.slot_dict_itemiterator_iter ⟨_,st,rfl⟩ zsZ (qd ⟨_,rfl, "dict_itemiterator",_,⟨_,st,rfl⟩,F.slot_dict_itemiterator_next.lookup,h⟩) (F.args_dict_itemiterator_iter_1 _))
section
variable {X:Cx} {elts:List Expr} {kk:Nat} {tpos:Pos}
def zs1(K:qe)(td:TE):TI:=fun σ H R=>td σ H fun x H1=>∃ a o kvs,x=.ref a/\H1 a=some (.frz o (.dT kvs))/\R (ItI K a o kvs) H1
theorem zea{d:Expr}{td:TE}{apos cpos:Pos}(hd:Wr (PE X d td))(hbase:attributeBase d "items" X.env (eval d X.env)=eval d X.env:=by rfl)(hline:(apos.endLine==cpos.line)=true:=by rfl):Wr (PI X (.Tuple elts kk tpos) (.Call (.Attribute d "items" apos) [] [] cpos) (zs1 X.K td)):=by
 refine⟨?_⟩;intro pins s σ H R I h;refine wpAny_Call_method0_late hbase hline (thn (hd.run pins s σ H _ I h) fun v s1 ⟨x,H1,I1,r1,q1⟩=>?_);obtain⟨a,o,kvs,rfl,e,q⟩:=q1;cases r1;obtain⟨hsm,es,ep,ea,xd,dat,hsz,_⟩:=zdO I1 e;have rw1:zfk s1.heap a es ep:=⟨o,ea,xd,dat⟩;refine⟨"dict", "dict.items",F.plainAttrs_dict,F.slot_dict_items,F.type_dict_items,rw1.typeIs,fun b hb=>?_,Calls.callWith_builtin rfl (PySem.evalArgs_none (zqC hsm rw1 ?_))⟩
 ·cases hb
  exact⟨o,ea,xd.2.1⟩
 have I2:Inv X pins σ H1 { s1 with heap:=s1.heap.push { cls:=.type "dict_items",data:=.fields #[.ref a] } }:=I1.kept (t':=s1.toks) fun b o z=>qf _ z;refine zqD (v:=s1.heap.objs.size) (s:={ s1 with heap:=s1.heap.push { cls:=.type "dict_items",data:=.fields #[.ref a] } }) ⟨_,qi _ rfl,rfl,rfl⟩ ⟨o,qf _ ea,xd,dat⟩ fun h' hit kk2=>?_;refine⟨_,_,_,_,H1,rfl,I2.kept (t':=s1.toks) kk2,zn6 a _ o kvs ep ⟨es,dat⟩,⟨_,_,by rw [<-hsz]; exact hit⟩,fun b hb=>?_,q⟩;rw [qr.mp hb];exact I2.fpOk (qg _) (I2.hok.fresh (qg _))
end
def zdD:U->Option (List D)
 | .d (.dict kvs)=>if noX kvs=true then some (kvs.map fun p=>.tuple [p.1,p.2])else none
 | _=>none
theorem zlt{K:qe}{H:Hp}:∀ {ws:List (List Key×V)} {kvs:List (D×D)},DFt K H ws kvs->∀ {i:Nat} {p:D×D},kvs[i]?=some p->∃ k v,ws[i]?=some (k,v)/\p.1=kTD k/\DF K H v p.2
 | _,_,.nil,i,p,h=>by simp at h
 | _,_,.cons hv t,0,p,h=>by cases h; exact⟨_,_,rfl,rfl,hv⟩
 | _,_,.cons hv t,i+1,p,h=>zlt t (i:=i) h
theorem zlu{K:qe}{H:Hp}:∀ {ws:List (List Key×V)} {kvs:List (D×D)},DFt K H ws kvs->ws.length=kvs.length
 | _,_,.nil=>rfl
 | _,_,.cons hv t=>congrArg (·+1) (zlu t)
theorem zcY{K:qe}{te:TE}{me:ME}(h:VE K te me):VI K (zs1 K te) (mIt zdD me):=by
 intro ρ σ H ds ρ' R r e q;obtain⟨⟨a,ρ1⟩,e1,e⟩:=bQ e;obtain⟨u,eu,e⟩:=bQ e;obtain⟨xs,ex,e⟩:=bQ e;cases e;refine h ρ σ H a _ _ r e1 fun v H1 g1 k1=>?_;have p:=k1.now r g1 eu;unfold zdD at ex;split at ex
 ·split at ex
  rotate_left
  ·cases ex
  rename_i nx;cases ex;obtain⟨b,o,ws,rfl,h1,h2⟩:=DF.dct_inv p nx;refine⟨b,o,ws,rfl,h1,q _ _ g1 fun H2 k i=>?_⟩;have h1':=k.frz _ _ _ h1;refine⟨fun d ed=>?_,fun ei=>?_⟩
  ·rw [List.getElem?_map]at ed
   obtain⟨⟨kd,vd⟩,ew,rfl⟩:=qt.mp ed;obtain⟨ks,w,ew',rfl,dv⟩:=zlt h2 ew;refine⟨⟨h1',(qm.mp ew').1⟩,fun x H' y=>?_⟩;obtain⟨T,nT,rfl,y⟩:=y;obtain⟨kb,hkb,rfl⟩:=y ks w ew';have sm:=zag nT (.tup [.ref kb,w]);exact⟨sm,.tup (.inl zD) (.cons (DF.kp sm.kp (.tup hkb zif)) (.cons ((dv.kp k).kp sm.kp) .nil))⟩
  ·rw [List.length_map,<-zlu h2]at ei
   exact⟨h1',Nat.le_of_eq ei.symm⟩
 ·cases ex
abbrev zh1(h:Heap)(t1:Addr):Heap:=h.push { cls:=.type "tuple_iterator",data:=.fields #[.ref t1,.int 0 0] }
abbrev zh2(h:Heap)(t1 t2:Addr):Heap:=(zh1 h t1).push { cls:=.type "tuple_iterator",data:=.fields #[.ref t2,.int 0 0] }
abbrev zh3(h:Heap)(t1 t2:Addr):Heap:=(zh2 h t1 t2).push { cls:=.type "tuple",data:=.seq #[.ref h.objs.size,.ref (zh1 h t1).objs.size] }
abbrev zh4(h:Heap)(t1 t2:Addr):Heap:=(zh3 h t1 t2).push { cls:=.type "tuple",data:=.seq #[.none,.none] }
abbrev zh5(h:Heap)(t1 t2:Addr):Heap:=(zh4 h t1 t2).push { cls:=.type "zip",data:=.fields #[.none,.bool false,.bool false,.ref (zh2 h t1 t2).objs.size,.ref (zh3 h t1 t2).objs.size] }
theorem zs2(t1 t2:Addr)(xs ys:Array Value) :
  Meets (Builtin.«zip.__new__» ⟨[.type "zip",.ref t1,.ref t2],[]⟩) (fun _ R s=>s.heap.IsTuple t1 xs/\s.heap.IsTuple t2 ys /\
   R (.ok (.ret (.ref (zh4 s.heap t1 t2).objs.size))) { s with heap:=zh5 s.heap t1 t2 }) :=
 .of_wp fun prog w A R s h=>by
  obtain⟨hp,g,d,tk,os⟩:=s;obtain⟨h1,h2,h⟩:=h;have h2':Heap.IsTuple (zh1 hp t1) t2 ys:=by
   obtain⟨o,e,r⟩:=h2;exact⟨o,qf _ e,r⟩
  have hsub:=sub_zip
  wp_walk using wpAny_pyIter_tuple h1,wpAny_pyIter_tuple h2'
  exact⟨_,rfl,h⟩
section
variable {prog:Program} {w:World} {A:Around} {E:Value->Shared->Prop} {s:Shared} {z TI TO i1 i2 t1 t2:Addr} {k:Nat} {xs ys:Array Value} {x y a b:Value}
theorem zqE{Q:Option Value->Shared->Prop}(ap:ZipApart z TI TO i1 i2 t1 t2)(hz:IsZip s.heap z TI TO .none)(hI:IsPair s.heap TI (.ref i1) (.ref i2))(hO:IsPair s.heap TO a b)
  (h1:s.heap.IsTupleIter i1 t1 k) (h2:s.heap.IsTupleIter i2 t2 k) (g1:s.heap.IsTuple t1 xs) (g2:s.heap.IsTuple t2 ys) (ex:xs[k]?=some x) (ey:ys[k]?=some y)
  (q:∀ h':Heap,IsZip h' z TI TO (rawInt s.heap.objs.size)->IsPair h' TO x y->h'.IsTupleIter i1 t1 (k+1)->h'.IsTupleIter i2 t2 (k+1)->IsPair h' s.heap.objs.size x y ->
   (∀ c o,c≠z->c≠TO->c≠i1->c≠i2->s.heap.get? c=some o->h'.get? c=some o)->Q (some (.ref s.heap.objs.size)) { s with heap:=h' }):wpAny (model prog w) A (pyNext (.ref z)) Q E s:=by
 have kT:s.TypeIs (.ref z) "zip":=⟨_,hz,rfl⟩;unfold pyNext;refine qc (wpAny_attempt (wpAny_callSpecial?_slot (name:=Str.ofString "__next__") kT F.slot_zip_next (wpAny_call_entry F.slot_zip_next kT F.entry_zip_next ?_ (F.args_zip_next_1 _))));unfold Builtin.«zip.__next__»;refine qc (qd ?_);refine qc (wpAny_field hz rfl (x:=.bool false) rfl ?_);refine qc (wpAny_field hz rfl (x:=.ref TI) rfl ?_);refine qc (wpAny_seqItems hI rfl ?_);show wpAny _ _ (Builtin.SmallTypes.ownedTupleIsFree (.ref z) >>= _) _ _ s;unfold Builtin.SmallTypes.ownedTupleIsFree;refine qc (qc (wpAny_field hz rfl (x:=.none) rfl (qd ?_)));show wpAny _ _ (if true=true then _ else _) _ _ _;rw [if_pos rfl];refine qc (wpAny_rule (qc (wpAny_field hz rfl (x:=.ref TO) rfl ?_)));refine qc (zfv hz (by simp) fun ha ka za fa=>?_);have hO1:IsPair ha TO a b:=fa _ _ ap.TOz hO;have h11:ha.IsTupleIter i1 t1 k:=by
  obtain⟨o,e,r⟩:=h1;exact⟨o,fa _ _ ap.i1z e,r⟩
 have g11:ha.IsTuple t1 xs:=by
  obtain⟨o,e,r⟩:=g1;exact⟨o,fa _ _ ap.l1z e,r⟩
 refine qc ?_;show wpAny _ _ (forIn [(Value.ref i1,0),(Value.ref i2,1)] (none,()) _) _ _ _;rw [List.forIn_cons];refine qc (qc (wpAny_onRaise ?_));show wpAny _ _ (Builtin.SmallTypes.nextOf (.ref i1) >>= _) _ _ _;refine qc (ziL (s:={ s with heap:=ha }) h11 g11 ex fun hb kb sb=>qd ?_);refine qc (wpAny_seqItems (s:={ s with heap:=hb }) (o:=_) ((sb.2 _ ap.TOi1).trans hO1) rfl ?_);refine qc (wpAny_updateSeq_pair (s:={ s with heap:=hb }) ((sb.2 _ ap.TOi1).trans hO1) fun hc kc sc=>?_);refine qc (wpAny_letGo (qd ?_));show wpAny _ _ (forIn [(Value.ref i2,1)] (none,()) _) _ _ _;rw [List.forIn_cons];have keepC:∀ c o,c≠z->c≠TO->c≠i1->s.heap.get? c=some o->hc.get? c=some o:=fun c o n1 n2 n3 e=>(sc.2 c n2).trans ((sb.2 c n3).trans (fa c o n1 e));have h22:hc.IsTupleIter i2 t2 k:=by
  obtain⟨o,e,r⟩:=h2;exact⟨o,keepC _ _ ap.i2z (Ne.symm ap.TOi2) (Ne.symm ap.i12) e,r⟩
 have g22:hc.IsTuple t2 ys:=by
  obtain⟨o,e,r⟩:=g2;exact⟨o,keepC _ _ ap.l2z ap.l2TO ap.l2i1 e,r⟩
 refine qc (qc (wpAny_onRaise ?_));show wpAny _ _ (Builtin.SmallTypes.nextOf (.ref i2) >>= _) _ _ _;refine qc (ziL (s:={ s with heap:=hc }) h22 g22 ey fun hd kd sd=>qd ?_);have hO3:IsPair hd TO x b:=(sd.2 _ ap.TOi2).trans kc;refine qc (wpAny_seqItems (s:={ s with heap:=hd }) hO3 rfl ?_);refine qc (wpAny_updateSeq_pair (s:={ s with heap:=hd }) hO3 fun he ke se=>?_);refine qc (wpAny_letGo (qd ?_));show wpAny _ _ (forIn ([]:List (Value×Nat)) (none,()) _) _ _ _;rw [List.forIn_nil];refine qd ?_;have hO4:IsPair he TO x y:=ke;show wpAny _ _ (seqItems? (.ref TO) >>= _) _ _ _;refine qc (wpAny_seqItems (s:={ s with heap:=he }) hO4 rfl ?_);simp only [newTuple];refine qc (qB ?_ (by show(2:Nat)<=sizeLine; decide));have sz:he.objs.size=s.heap.objs.size:=by rw [se.1,sd.1,sc.1,sb.1]; exact za
 show wpAny _ _ (Builtin.SmallTypes.ownedTupleHandOut (.ref z) (.ref he.objs.size) >>= _) _ _ { s with heap:=he.push { cls:=.type "tuple",data:=.seq #[x,y] } };have kz:(he.push { cls:=.type "tuple",data:=.seq #[x,y] }).get? z=some { cls:=.type "zip",data:=.fields #[.ellipsis,.bool false,.bool false,.ref TI,.ref TO] } :=
  qf _ ((se.2 _ (Ne.symm ap.TOz)).trans ((sd.2 _ (Ne.symm ap.i2z)).trans ((sc.2 _ (Ne.symm ap.TOz)).trans ((sb.2 _ (Ne.symm ap.i1z)).trans ka))))
 have kt:(he.push { cls:=.type "tuple",data:=.seq #[x,y] }).get? he.objs.size=some { cls:=.type "tuple",data:=.seq #[x,y] }:=qi _ rfl;have kO:(he.push { cls:=.type "tuple",data:=.seq #[x,y] }).get? TO=_:=qf _ hO4;have k1:Heap.IsTupleIter (he.push { cls:=.type "tuple",data:=.seq #[x,y] }) i1 t1 (k+1):=by
  obtain⟨o,e,r⟩:=kb;exact⟨o,qf _ ((se.2 _ (Ne.symm ap.TOi1)).trans ((sd.2 _ ap.i12).trans ((sc.2 _ (Ne.symm ap.TOi1)).trans e))),r⟩
 have k2:Heap.IsTupleIter (he.push { cls:=.type "tuple",data:=.seq #[x,y] }) i2 t2 (k+1):=by
  obtain⟨o,e,r⟩:=kd;exact⟨o,qf _ ((se.2 _ (Ne.symm ap.TOi2)).trans e),r⟩
 have kk:∀ c o,c≠z->c≠TO->c≠i1->c≠i2->s.heap.get? c=some o->(he.push { cls:=.type "tuple",data:=.seq #[x,y] }).get? c=some o:=fun c o n1 n2 n3 n4 e =>
  qf _ ((se.2 c n2).trans ((sd.2 c n4).trans (keepC c o n1 n2 n3 e)))
 have nz:he.objs.size≠z:=by
  rw [sz];exact Ne.symm (ql (qj hz))
 generalize he.push { cls:=.type "tuple",data:=.seq #[x,y] }=hf at kz kt kO k1 k2 kk ⊢;unfold Builtin.SmallTypes.ownedTupleHandOut;refine qc (qc (zfv (s:={ s with heap:=hf }) kz (by simp) fun hg kg zg fg=>?_));refine zfv (s:={ s with heap:=hg }) kg (by simp) fun hh kh zh fh=>?_;have up:∀ c o,c≠z->hf.get? c=some o->hh.get? c=some o:=fun c o n e=>fh c o n (fg c o n e);refine qd ⟨_,rfl,qd ?_⟩;rw [sz]at kt kh nz ⊢;refine q hh kh (up _ _ ap.TOz kO) ?_ ?_ (up _ _ nz kt) fun c o n1 n2 n3 n4 e=>up _ _ n1 (kk c o n1 n2 n3 n4 e)
 ·obtain⟨o,e,r⟩:=k1
  exact⟨o,up _ _ ap.i1z e,r⟩
 ·obtain⟨o,e,r⟩:=k2
  exact⟨o,up _ _ ap.i2z e,r⟩
theorem zs3{Q:Option Value->Shared->Prop}(hh:A.handled=none)(ap:ZipApart z TI TO i1 i2 t1 t2)(hz:IsZip s.heap z TI TO .none)(hI:IsPair s.heap TI (.ref i1) (.ref i2))(hO:IsPair s.heap TO a b)
  (h1:s.heap.IsTupleIter i1 t1 k) (h2:s.heap.IsTupleIter i2 t2 k) (g1:s.heap.IsTuple t1 xs) (g2:s.heap.IsTuple t2 ys) (en:xs[k]?=none)
  (q:∀ h':Heap,(∀ c o,c≠z->c≠TO->c≠i1->c≠i2->s.heap.get? c=some o->h'.get? c=some o)->Q none { s with heap:=h' }):wpAny (model prog w) A (pyNext (.ref z)) Q E s:=by
 have kT:s.TypeIs (.ref z) "zip":=⟨_,hz,rfl⟩;unfold pyNext;refine qc (wpAny_attempt (wpAny_callSpecial?_slot (name:=Str.ofString "__next__") kT F.slot_zip_next (wpAny_call_entry F.slot_zip_next kT F.entry_zip_next ?_ (F.args_zip_next_1 _))));unfold Builtin.«zip.__next__»;refine qc (qd ?_);refine qc (wpAny_field hz rfl (x:=.bool false) rfl ?_);refine qc (wpAny_field hz rfl (x:=.ref TI) rfl ?_);refine qc (wpAny_seqItems hI rfl ?_);show wpAny _ _ (Builtin.SmallTypes.ownedTupleIsFree (.ref z) >>= _) _ _ s;unfold Builtin.SmallTypes.ownedTupleIsFree;refine qc (qc (wpAny_field hz rfl (x:=.none) rfl (qd ?_)));show wpAny _ _ (if true=true then _ else _) _ _ _;rw [if_pos rfl];refine qc (wpAny_rule (qc (wpAny_field hz rfl (x:=.ref TO) rfl ?_)));refine qc (zfv hz (by simp) fun ha ka za fa=>?_);have h11:ha.IsTupleIter i1 t1 k:=by
  obtain⟨o,e,r⟩:=h1;exact⟨o,fa _ _ ap.i1z e,r⟩
 have g11:ha.IsTuple t1 xs:=by
  obtain⟨o,e,r⟩:=g1;exact⟨o,fa _ _ ap.l1z e,r⟩
 refine qc ?_;show wpAny _ _ (forIn [(Value.ref i1,0),(Value.ref i2,1)] (none,()) _) _ _ _;rw [List.forIn_cons];refine qc (qc (wpAny_onRaise ?_));show wpAny _ _ (Builtin.SmallTypes.nextOf (.ref i1) >>= _) _ _ _;refine qc (zqr (s:={ s with heap:=ha }) hh h11 g11 en fun hb e sb ⟨oe,ge,ce⟩=>?_);have kb:=sb z _ (Ne.symm ap.i1z) ka;refine zfv (s:={ s with heap:=hb }) kb (by simp) fun hc kc zc fc=>?_;have nez:e≠z:=fun h=>by
  rw [h]at ge;have z1:=qy (ge.symm.trans kb);rw [z1]at ce;have z2 : "zip" = "StopIteration":=Value.type.inj ce;exact absurd z2 (by decide)
 show wpAny _ _ (isInstance (.ref e) (.type "StopIteration") >>= _) _ _ _;refine qc (wpAny_isInstance (T := "StopIteration") (b:=true) ⟨oe,fc _ _ nez ge,ce⟩ isSubtype_stop ?_);exact qd (q hc fun c o n1 n2 n3 n4 e=>fc c o n1 (sb c o n3 (fa c o n1 e)))
end
def Itz(K:qe)(a b:Addr):It :=
 ⟨fun i H=>∃ xs ys x y,SqT K H a xs/\SqT K H b ys/\xs[i]?=some x/\ys[i]?=some y,fun i H x H'=>∃ T,H T=none/\x=.ref T/\∀ xs ys v u,SqT K H a xs->SqT K H b ys->xs[i]?=some v->ys[i]?=some u->H'=upd H T (.tup [v,u]),fun i H=>∃ xs ys,SqT K H a xs/\SqT K H b ys/\xs.length=i⟩
abbrev ZSt(z TI TO i1 i2 t1 t2:Addr)(i:Nat)(h:Heap):Prop:=IsZip h z TI TO .none/\IsPair h TI (.ref i1) (.ref i2)/\(∃ a b,IsPair h TO a b)/\h.IsTupleIter i1 t1 i/\h.IsTupleIter i2 t2 i
theorem zs4{P:Program}{w:World}{K:qe}{elts:List Expr}{k:Nat}{pos:Pos}(z TI TO i1 i2 t1 t2:Addr)(ap:ZipApart z TI TO i1 i2 t1 t2) :
  Turn P w K (.Tuple elts k pos) (Itz K t1 t2) [z,TI,TO,i1,i2] z (ZSt z TI TO i1 i2 t1 t2) where
 mem:=by simp
 obj:=fun i h st c hc=>by
  obtain⟨hz,hI,⟨a,b,hO⟩,⟨o1,e1,_,d1⟩,⟨o2,e2,_,d2⟩⟩:=st;simp only [qw,List.not_mem_nil,or_false]at hc;rcases hc with rfl | rfl | rfl | rfl | rfl
  ·exact⟨_,hz,fun v q=>by
    have q':Data.fields _=Data.cell v:=q;cases q'⟩
  ·exact⟨_,hI,fun v q=>by
    have q':Data.seq _ _=Data.cell v:=q;cases q'⟩
  ·exact⟨_,hO,fun v q=>by
    have q':Data.seq _ _=Data.cell v:=q;cases q'⟩
  ·exact⟨o1,e1,fun v q=>by rw [d1]at q; cases q⟩
  ·exact⟨o2,e2,fun v q=>by rw [d2]at q; cases q⟩
 keep:=fun i h h' st kk=>by
  obtain⟨hz,hI,⟨a,b,hO⟩,⟨o1,e1,r1⟩,⟨o2,e2,r2⟩⟩:=st;exact⟨kk z (by simp) _ hz,kk TI (by simp) _ hI,⟨a,b,kk TO (by simp) _ hO⟩,⟨o1,kk i1 (by simp) _ e1,r1⟩,⟨o2,kk i2 (by simp) _ e2,r2⟩⟩
 item:=by
  intro X hP hw hK hc i pins s σ H E I hf st hg;subst hP hw hK;obtain⟨xs,ys,x,y,hq1,hq2,hx,hy⟩:=hg;obtain⟨hz,hI,⟨a,b,hO⟩,h1,h2⟩:=st;obtain⟨its1,rv1,ht1,_⟩:=I.tuple hq1;obtain⟨its2,rv2,ht2,_⟩:=I.tuple hq2;obtain⟨u1,eu1,r1⟩:=rv1.get hx;obtain⟨u2,eu2,r2⟩:=rv2.get hy;refine zqE ap hz hI hO h1 h2 ht1 ht2 (by simpa using eu1) (by simpa using eu2) fun h' z' O' k1 k2 isT kk=>?_;refine⟨_,rfl,wpAny_letOwnedTupleGo_zip (s:={ s with heap:=h' }) z' fun h2' z2 sb=>?_⟩;have nm:s.heap.objs.size∉[z,TI,TO,i1,i2]:=fun hm=>by
   have:s.heap.objs.size < s.heap.objs.size:=by
    simp only [qw,List.not_mem_nil,or_false]at hm;obtain⟨_,e1,_⟩:=h1;obtain⟨_,e2,_⟩:=h2;rcases hm with h | h | h | h | h
    ·exact qk (h▸qj hz) (qg _)
    ·exact qk (h▸qj hI) (qg _)
    ·exact qk (h▸qj hO) (qg _)
    ·exact qk (h▸qj e1) (qg _)
    ·exact qk (h▸qj e2) (qg _)
   exact Nat.lt_irrefl _ this
  have nz:s.heap.objs.size≠z:=fun h=>nm (by rw [h]; simp);have I2:Inv X pins σ H { s with heap:=h2' }:=I.turnedW (t':=s.toks) (wr:=[z,TI,TO,i1,i2]) (fun c o hc q=>by
   simp only [qw,List.not_mem_nil,or_false,not_or]at hc;exact(sb.2 c hc.1).trans (kk c o hc.1 hc.2.2.1 hc.2.2.2.1 hc.2.2.2.2 q)) hf
  have fT:zdv X pins H s.heap.objs.size:=I.fpOk (qg _) (I.hok.fresh (qg _));have I3:Inv X pins σ (upd H s.heap.objs.size (.tup [x,y])) { s with heap:=h2' }:=I2.track fT I.sz ⟨by show 2<=sizeLine; decide,[u1,u2],.cons r1 (.cons r2 .nil),_,(sb.2 _ nz).trans isT,rfl,⟨_,rfl⟩,.inl rfl⟩;refine⟨.ref s.heap.objs.size,_,I3,rfl,⟨_,I.hok.fresh (qg _),rfl,fun xs' ys' v u hq1' hq2' hv hu=>?_⟩,⟨z2,(sb.2 _ ap.TIz).trans (kk _ _ ap.TIz ap.TITO ap.TIi1 ap.TIi2 hI),⟨_,_,(sb.2 _ ap.TOz).trans O'⟩,?_,?_⟩,fun c hc=>?_⟩
  ·cases I.tuple_inj hq1 hq1'
   cases I.tuple_inj hq2 hq2';rw [hx]at hv;rw [hy]at hu;cases hv;cases hu;rfl
  ·obtain⟨o,e,r⟩:=k1
   exact⟨o,(sb.2 _ ap.i1z).trans e,r⟩
  ·obtain⟨o,e,r⟩:=k2
   exact⟨o,(sb.2 _ ap.i2z).trans e,r⟩
  ·have ne:c≠s.heap.objs.size:=fun h=>nm (h▸hc)
   rw [zI ne];exact(hf c hc).1
 done:=by
  intro X hP hw hK hc i pins s σ H E I hf st hg;subst hP hw hK;obtain⟨xs,ys,hq1,hq2,hl⟩:=hg;obtain⟨hz,hI,⟨a,b,hO⟩,h1,h2⟩:=st;obtain⟨its1,rv1,ht1,_⟩:=I.tuple hq1;obtain⟨its2,rv2,ht2,_⟩:=I.tuple hq2;refine zs3 (I.ok.hd hc) ap hz hI hO h1 h2 ht1 ht2 (by
   have:=rv1.length;simp;omega) fun h' kk=>⟨rfl,I.turnedW (t':=s.toks) (wr:=[z,TI,TO,i1,i2]) (fun c o hc q=>by
   simp only [qw,List.not_mem_nil,or_false,not_or]at hc;exact kk c o hc.1 hc.2.2.1 hc.2.2.2.1 hc.2.2.2.2 q) hf⟩
 self:=fun _ _ _ _ _ st h=>wpAny_pyIter_zip st.1 h
section
variable {prog:Program} {w:World} {A:Around} {E:Value->Shared->Prop} {s:Shared}
theorem zqF{t1 t2:Addr}{xs ys:Array Value}{Q:Value->Shared->Prop}(h1:s.heap.IsTuple t1 xs)(h2:s.heap.IsTuple t2 ys)
  (h:∀ h':Heap,ZSt (s.heap.objs.size+4) (s.heap.objs.size+2) (s.heap.objs.size+3) s.heap.objs.size (s.heap.objs.size+1) t1 t2 0 h'->(∀ b o,s.heap.get? b=some o->h'.get? b=some o)->Q (.ref (s.heap.objs.size+4)) { s with heap:=h' }) :
  wpAny (model prog w) A (call (.type "zip") [.ref t1,.ref t2]) Q E s:=by
 refine callType_new F.called_zip (by decide) (F.typeCall_zip_2 _ _) (F.newCall_zip_2 _ _) (fun obj=>F.args_object_init_3 obj _ _) F.entry_zip_new (zs2 t1 t2 xs ys) ⟨h1,h2,?_⟩;have z1:(zh1 s.heap t1).objs.size=s.heap.objs.size+1:=Heap.size_push ..;have z2:(zh2 s.heap t1 t2).objs.size=s.heap.objs.size+2:=by rw [Heap.size_push,z1]
 have z3:(zh3 s.heap t1 t2).objs.size=s.heap.objs.size+3:=by rw [Heap.size_push,z2]
 have z4:(zh4 s.heap t1 t2).objs.size=s.heap.objs.size+4:=by rw [Heap.size_push,z3]
 show _/\_;rw [z4];have ez:(zh5 s.heap t1 t2).get? (s.heap.objs.size+4)=some { cls:=.type "zip",data:=.fields #[.none,.bool false,.bool false,.ref (s.heap.objs.size+2),.ref (s.heap.objs.size+3)] }:=by
  have:=qi (zh4 s.heap t1 t2) (o:={ cls:=.type "zip",data:=.fields #[.none,.bool false,.bool false,.ref (zh2 s.heap t1 t2).objs.size,.ref (zh3 s.heap t1 t2).objs.size] }) rfl;rw [z4,z2,z3]at this;rw [<-this];unfold zh5;rw [z2,z3]
 refine⟨⟨_,ez,rfl⟩,h _ ⟨ez,?_,⟨.none,.none,?_⟩,⟨{ cls:=.type "tuple_iterator",data:=.fields #[.ref t1,.int 0 0] },?_,rfl,rfl⟩,⟨{ cls:=.type "tuple_iterator",data:=.fields #[.ref t2,.int 0 0] },?_,rfl,rfl⟩⟩ fun b o x=>?_⟩
 ·have:=qi (zh2 s.heap t1 t2) (o:={ cls:=.type "tuple",data:=.seq #[.ref s.heap.objs.size,.ref (zh1 s.heap t1).objs.size] }) rfl
  rw [z2,z1]at this;refine qf _ (qf _ ?_);unfold zh3;rw [z1];exact this
 ·have:=qi (zh3 s.heap t1 t2) (o:={ cls:=.type "tuple",data:=.seq #[.none,.none] }) rfl
  rw [z3]at this;exact qf _ this
 ·exact qf _ (qf _ (qf _ (qf _ (qi _ rfl))))
 ·have:=qi (zh1 s.heap t1) (o:={ cls:=.type "tuple_iterator",data:=.fields #[.ref t2,.int 0 0] }) rfl
  rw [z1]at this;exact qf _ (qf _ (qf _ this))
 ·exact qf _ (qf _ (qf _ (qf _ (qf _ x))))
end
section
variable {X:Cx} {elts:List Expr} {k:Nat} {tpos:Pos}
def zAP(K:qe)(ta:TA):TI:=fun σ H R=>ta σ H fun vs H1=>∃ a b,vs=[.ref a,.ref b]/\(∃ xs,SqT K H1 a xs)/\(∃ ys,SqT K H1 b ys)/\R (Itz K a b) H1
theorem zs5{a b:Expr}{ta:TA}{p pos:Pos}{K:qe}(ha:Wr (PA X [a,b] ta))(hK:X.K=K:=by rfl)(hg:Gl X "zip":=by exact rfl)(hm:X.mg "zip"=none:=by exact ziG ‹Bl _ _› (by decide))(hs:zah a=true:=by rfl)(hs2:[b].all zah=true:=by rfl) :
  Wr (PI X (.Tuple elts k tpos) (.Call (.Name "zip" p) [a,b] [] pos) (zAP K ta)):=by
 subst hK;refine⟨?_⟩;intro pins s σ H R I h;refine Call_ (zfY I hg hm boot_zip (PyProof.Rows.callWith_type1 (thn (ha.run pos pins s σ H _ I h) fun us s1 ⟨vs,H1,I1,r1,q1⟩=>?_) (zcd hs) (zcm hs2)));obtain⟨t1,t2,e,⟨xs,hq1⟩,⟨ys,hq2⟩,q⟩:=q1;subst e;obtain⟨u1,u2,rfl,ru1,ru2⟩:=zoG r1;cases ru1;cases ru2;obtain⟨its1,rv1,ht1,hz1⟩:=I1.tuple hq1;obtain⟨its2,rv2,ht2,hz2⟩:=I1.tuple hq2;have tl1:t1 < s1.heap.objs.size:=by
  obtain⟨o,e,_⟩:=ht1;exact qj e
 have tl2:t2 < s1.heap.objs.size:=by
  obtain⟨o,e,_⟩:=ht2;exact qj e
 have lt_ne:∀ {x y:Nat},x < y->x≠y:=fun h=>ql h;refine zqF (show s1.heap.IsTuple t1 its1.toArray from ht1) (show s1.heap.IsTuple t2 its2.toArray from ht2) fun h' hst kk=>?_;have I2:Inv X pins σ H1 { s1 with heap:=h' }:=I1.kept (t':=s1.toks) kk;refine wpAny_pyIter_zip hst.1 ?_;have f:∀ j:Nat,zdv X pins H1 (s1.heap.objs.size+j):=fun j=>I1.fpOk (Nat.le_add_right _ _) (I1.hok.fresh (Nat.le_add_right _ _));have ap:ZipApart (s1.heap.objs.size+4) (s1.heap.objs.size+2) (s1.heap.objs.size+3) s1.heap.objs.size (s1.heap.objs.size+1) t1 t2:=by
  generalize s1.heap.objs.size=n at tl1 tl2;constructor<;>(simp only [Addr]at *; omega)
 refine⟨_,_,_,_,H1,rfl,I2,zs4 _ _ _ _ _ t1 t2 ap,hst,fun c hc=>?_,q⟩;simp only [qw,List.not_mem_nil,or_false]at hc;rcases hc with rfl | rfl | rfl | rfl | rfl
 ·exact f 4
 ·exact f 2
 ·exact f 3
 ·exact f 0
 ·exact f 1
end
def zjR:List D->List D->List D
 | x::xs,y::ys=>.tuple [x,y]::zjR xs ys
 | _,_=>[]
theorem zlv:∀ {xs ys:List D} {i:Nat} {d:D},(zjR xs ys)[i]?=some d->∃ x y,xs[i]?=some x/\ys[i]?=some y/\d=.tuple [x,y]
 | [],ys,i,d,h=>by simp [zjR]at h
 | x::xs,[],i,d,h=>by simp [zjR]at h
 | x::xs,y::ys,0,d,h=>by cases h; exact⟨x,y,rfl,rfl,rfl⟩
 | x::xs,y::ys,i+1,d,h=>zlv (xs:=xs) (ys:=ys) (i:=i) h
theorem zi5:∀ (xs ys:List D),xs.length=ys.length->(zjR xs ys).length=xs.length
 | [],[],_=>rfl
 | [],y::ys,h=>by cases h
 | x::xs,[],h=>by cases h
 | x::xs,y::ys,h=>congrArg (·+1) (zi5 xs ys (Nat.succ.inj h))
def zs6:List U->Option (List D)
 | [.d (.tuple xs),.d (.tuple ys)]=>if xs.length=ys.length then some (zjR xs ys)else none
 | _=>none
def zvE(ma:MA):MI:=fun ρ=>(ma ρ).bind fun p=>(zbd p.2 p.1).bind fun us=>(zs6 us).bind fun ds=>some (ds,p.2)
theorem zs7{K:qe}{ta:TA}{ma:MA}(h:VAs K ta ma):VI K (zAP K ta) (zvE ma):=by
 intro ρ σ H ds ρ' R r e q;obtain⟨⟨as,ρ1⟩,e1,e⟩:=bQ e;obtain⟨us,eu,e⟩:=bQ e;obtain⟨zs,ez,e⟩:=bQ e;cases e;refine h ρ σ H as ρ1 _ r e1 fun vs H1 g1 s1=>?_;have rp:=s1.rpl r g1 eu;unfold zs6 at ez;split at ez
 ·split at ez
  rotate_left
  ·cases ez
  rename_i xs ys hl;cases ez;cases rp with
  | cons p1 t =>
   cases t with
   | cons p2 t =>
    cases t;obtain⟨a,vx,rfl,h1,d1⟩:=DF.tup_inv p1;obtain⟨b,vy,rfl,h2,d2⟩:=DF.tup_inv p2;refine⟨a,b,rfl,⟨vx,(TpK.sq h1)⟩,⟨vy,(TpK.sq h2)⟩,q _ _ g1 fun H2 kk i=>⟨fun d ed=>?_,fun ei=>?_⟩⟩
    ·obtain⟨x,y,ex,ey,rfl⟩:=zlv ed
     obtain⟨v,ev,dv⟩:=(d1.kp kk).get ex;obtain⟨w,ew,dw⟩:=(d2.kp kk).get ey;refine⟨⟨vx,vy,v,w,(TpK.kp kk h1).sq,(TpK.kp kk h2).sq,ev,ew⟩,fun z H' y=>?_⟩;obtain⟨T,nT,rfl,y⟩:=y;cases y vx vy v w ((TpK.kp kk h1).sq) ((TpK.kp kk h2).sq) ev ew;have sm:=zag nT (.tup [v,w]);exact⟨sm,.tup (.inl zD) (.cons (dv.kp sm.kp) (.cons (dw.kp sm.kp) .nil))⟩
    ·exact⟨vx,vy,(TpK.kp kk h1).sq,(TpK.kp kk h2).sq,by rw [zi5 _ _ hl]at ei; rw [d1.len]; exact ei.symm⟩
 ·cases ez
section
variable {prog:Program} {w:World} {A:Around} {E:Value->Shared->Prop} {s:Shared}
theorem zmH{b:Addr}{Q:Bool->Shared->Prop}(hT:s.TypeIs (.ref b) "tuple")(h:Q false s):wpAny (model prog w) A (Builtin.Dict.quietEq (.ref b)) Q E s:=by
 unfold Builtin.Dict.quietEq;refine qc (wpAny_specialOf hT F.slot_tuple_eq.lookup (qd ?_));exact h
theorem zmI{id:String}{d:Addr}{o:Obj}{es:Array DictEntry}{ep:Nat}{Q:Array DictEntry->Shared->Prop}(ho:s.heap.get? d=some o)(hd:o.data=.dict es ep)
  (hk:∀ e∈es.toList,∃ b,e.key=.ref b/\s.TypeIs (.ref b) "tuple") (hh:∀ e∈es.toList,¬(es.filter (·.hash==e.hash)).size > 1) (h:Q es s) :
  wpAny (model prog w) A (Builtin.Dict.entriesForEmpty id d) Q E s:=by
 unfold Builtin.Dict.entriesForEmpty;refine qc (wpAny_dictEntries ho hd ?_);refine qc ?_;rw [<-Array.forIn_toList];refine wpAny_forIn_list _ (fun zcy _ s'=>s'=s/\∀ e∈zcy,e∈es.toList) _ ?_ ?_ _ _ ⟨rfl,fun e h=>h⟩
 ·rintro e zcy b s' ⟨rfl,hr⟩
  obtain⟨c,ec,tc⟩:=hk e (hr e qq);rw [ec];refine qc (zmH tc ?_);simp only [Bool.not_false,if_true];rw [if_neg (hh e (hr e qq))];exact qd ⟨rfl,fun e h=>hr e (qp _ h)⟩
 ·rintro b s' ⟨rfl,_⟩
  exact qd h
theorem zza{es:Array DictEntry}(ne:es.isEmpty=false)(hk:∀ e∈es.toList,∃ b,e.key=.ref b):(decide (es.size<=8) && es.all fun e=>(keyPart e.key).isSome)=false:=by
 have:(es.all fun e=>(keyPart e.key).isSome)=false:=by
  rw [<-Array.all_toList];cases h:es.toList with
  | nil =>
   have:es=#[]:=by
    apply Array.ext';rw [h]
   rw [this]at ne;cases ne
  | cons e r =>
   obtain⟨b,eb⟩:=hk e (by rw [h]; exact qq);rw [List.all_cons,eb];rfl
 rw [this,Bool.and_false]
theorem zjS{d:Addr}{o:Obj}{es:Array DictEntry}{ep:Nat}{Q:Value->Shared->Prop}(hdS:(d==sysModules)=false)(ho:s.heap.get? d=some o)(hx:o.ExactDict)(hd:o.data=.dict es ep)(hz:es.size<=sizeLine)
  (hk:∀ e∈es.toList,∃ b,e.key=.ref b/\s.TypeIs (.ref b) "tuple") (hh:∀ e∈es.toList,¬(es.filter (·.hash==e.hash)).size > 1)
  (h:∀ h':Heap,(∃ o' ep',h'.get? s.heap.objs.size=some o'/\o'.ExactDict/\o'.data=.dict es ep')->(∀ b u,s.heap.get? b=some u->h'.get? b=some u)->Q (.ref s.heap.objs.size) { s with heap:=h' }) :
  wpAny (model prog w) A (call (.type "dict") [.ref d]) Q E s:=by
 refine callType_codes (Q₁:=fun obj s₁=>obj=.ref s.heap.objs.size/\s₁={ s with heap:=s.heap.push { cls:=.type "dict",data:=.dict #[] } }) F.kt_called_dict (F.kt_typeCall_dict_1 _) F.entry_dict_init (kt_code_dict_new _ ⟨rfl,rfl⟩) ?_;rintro obj s₁ ⟨rfl,rfl⟩;have nd:s.heap.objs.size≠d:=Ne.symm (ql (qj ho));have hn:(s.heap.push { cls:=.type "dict",data:=.dict #[] }).get? s.heap.objs.size=some { cls:=.type "dict",data:=.dict #[] }:=qi _ rfl;have ho':(s.heap.push { cls:=.type "dict",data:=.dict #[] }).get? d=some o:=qf _ ho;have kk:∀ b u,s.heap.get? b=some u->(s.heap.push { cls:=.type "dict",data:=.dict #[] }).get? b=some u:=fun b u e=>qf _ e;generalize s.heap.push { cls:=.type "dict",data:=.dict #[] }=h1 at hn ho' kk ⊢;have tn:Shared.TypeIs { s with heap:=h1 } (.ref s.heap.objs.size) "dict":=⟨_,hn,rfl⟩;have to:Shared.TypeIs { s with heap:=h1 } (.ref d) "dict":=⟨_,ho',hx.1⟩;refine⟨tn,F.args_dict_init_2 _ _,?_⟩;unfold Builtin.«dict.__init__»;refine qc ?_;unfold Builtin.Dict.selfAndRest;refine qc (wpAny_notOrdered_dict tn ?_);show wpAny _ _ (pure (s.heap.objs.size,[Value.ref d])) _ _ _;refine qd ?_;show wpAny _ _ (Builtin.Dict.updateFrom "dict.__init__" s.heap.objs.size (.ref d) [] .none) _ _ _;unfold Builtin.Dict.updateFrom;refine qc (wpAny_typeOf to ?_);rw [if_neg (by decide)];refine qc ?_;unfold Builtin.Dict.merge;refine qc ?_;unfold Builtin.Dict.readDirectly;refine qc (wpAny_isInstance to isSubtype_dict_dict ?_);simp only [Bool.not_true,Bool.false_eq_true,if_false];refine qc (wpAny_specialOf to F.slot_dict_iter.lookup (qd ?_));simp only [beq_self_eq_true,if_true];refine qc (qd ?_);unfold Builtin.Dict.mergeDict;rw [if_neg (by simpa using nd)];unfold Builtin.Dict.showsAll;rw [if_neg (by rw [hdS]; exact qh)];refine qc (qd ?_);refine qc (wpAny_dictEntries ho' hd ?_);cases ne:es.isEmpty with
 | true =>
  have e0:es=#[]:=Array.isEmpty_iff.mp ne;subst e0;have fw:(decide ((#[]:Array DictEntry).size<=8) && (#[]:Array DictEntry).all fun e=>(keyPart e.key).isSome)=true:=by rw [<-Array.all_toList]; rfl
  simp only [fw,Bool.not_true,Bool.false_eq_true,if_false];refine qc (wpAny_dictEpoch (s:={ s with heap:=h1 }) ho' hd ?_);refine qc (wpAny_dictEntries (s:={ s with heap:=h1 }) ho' hd ?_);refine qc ?_;rw [Std.Legacy.Range.forIn_eq_forIn_range'];simp only [Std.Legacy.Range.size,Nat.sub_zero,Nat.add_sub_cancel,Nat.div_one,Array.size_empty,List.range'_zero,List.forIn_nil];refine qd (qd ?_);exact qc (qd (qd ⟨rfl,h h1 ⟨_,0,hn,⟨rfl,rfl,rfl⟩,rfl⟩ kk⟩))
 | false =>
  have fw:=zza ne fun e he=>let ⟨b,eb,_⟩:=hk e he; ⟨b,eb⟩;simp only [fw,Bool.not_false,if_true];refine qc (wpAny_dictEntries hn rfl ?_);simp only [Array.isEmpty_empty,if_true];refine qc (zmI (s:={ s with heap:=h1 }) ho' hd (fun e he=>?_) hh ?_)
  ·obtain⟨b,eb,o2,eo,ec⟩:=hk e he
   exact⟨b,eb,o2,kk _ _ eo,ec⟩
  simp only [ne,Bool.not_false,if_true];refine qc (wpAny_updateDictKeysTo hn rfl ?_ (by show es.size<=_; omega));refine qd (qc (qd (qd ⟨rfl,h _ ⟨_,_,Heap.get?_update_self _ hn rfl,⟨rfl,rfl,rfl⟩,rfl⟩ fun b u e=>?_⟩)));exact((Heap.SameBut.update ..).2 b (ql (qj e))).trans (kk b u e)
end
def hK:Key->Int
 | .inl i=>hashInt i
 | .inr _=>0
def hT(ks:List Key):Int:=reduceHash (Builtin.Tuple.tupleHashOf (ks.map hK))
def zzb(ks:List Key):Bool:=ks.all fun k=>match k with | .inl _=>true | .inr _=>false
def zgd(kss:List (List Key)):Bool:=kss.all zzb && decide ((kss.map hT).Nodup)
theorem zAQ{P:Program}{w:World}:∀ {ks:List Key},zzb ks=true->(tupleKind (zaq P w)).hash ks=hT ks:=fun{ks} h=>by
 show reduceHash (Builtin.Tuple.tupleHashOf (ks.map (zzH w)))=_;unfold hT;congr 2;refine List.map_congr_left fun k hk=>?_;have:=List.all_eq_true.mp h k hk;cases k with
 | inl i=>rfl
 | inr x=>cases this
theorem zn7{es:List DictEntry}(hn:(es.map (·.hash)).Nodup){e:DictEntry}(he:e∈es):(es.filter (·.hash==e.hash)).length<=1:=by
 induction es with
 | nil=>cases he
 | cons x es ih =>
  rw [List.map_cons,List.nodup_cons]at hn;rw [List.filter_cons];rcases qw.mp he with rfl | he'
  ·rw [if_pos (by simp)]
   have:es.filter (·.hash==e.hash)=[]:=List.filter_eq_nil_iff.mpr fun y hy z=>hn.1 (List.mem_map.mpr ⟨y,hy,by simpa using z⟩);rw [this];simp
  ·have:¬((x.hash==e.hash)=true):=fun z=>hn.1 (List.mem_map.mpr ⟨e,he',by simpa using (beq_iff_eq.mp z).symm⟩)
   rw [if_neg this];exact ih hn.2 he'
section
variable {X:Cx} {pins:List (Addr×Obj)} {σ:St} {H:Hp} {s:Shared} {a:Addr} {kvs:List (List Key×V)} {A:Around} {E:Value->Shared->Prop}
theorem zvF{l:List (List Key×V)}{m:List (List Key×Addr×Value)}(r:KT X.K H l m):m.map (·.1)=l.map (·.1):=by
 induction r with
 | nil=>rfl
 | cons hq t ih=>rw [List.map_cons,List.map_cons,ih,hq.1]
theorem zvG{Q:Value->Shared->Prop}(I:Inv X pins σ H s)(e:Rd H a (.dT kvs))(hh:zgd (kvs.map (·.1))=true)(h:∀ p s',H p=none->Inv X pins σ (upd H p (.dT kvs)) s'->Q (.ref p) s'):wpAny (model X.prog X.w) A (call (.type "dict") [.ref a]) Q E s:=by
 obtain⟨z,y,xs,r,o,es,ep,h1,h2,h3,h4,h5⟩:=(show zao X.prog X.w X.K H s.heap a (.dT kvs) from zrq I.hok e);obtain⟨_,_,xs',r',dd⟩:=zkg I.kIn I.hok e;have hlen:es.size=kvs.length:=by
  have:=congrArg List.length h4;rw [Array.length_toList,List.length_map,<-zcM r]at this;exact this
 obtain⟨hi,hn⟩:=Bool.and_eq_true_iff.mp hh;have hn:=of_decide_eq_true hn;have keysEq:=zvF r;have hashes:es.toList.map (·.hash)=(kvs.map (·.1)).map hT:=by
  rw [h4,<-keysEq,List.map_map,List.map_map];refine List.map_congr_left fun x hx=>?_;exact zAQ (List.all_eq_true.mp hi x.1 (by rw [<-keysEq]; exact List.mem_map.mpr ⟨x,hx,rfl⟩))
 refine zjS y h1 h2 h3 (by omega) (fun q hq=>?_) (fun q hq=>?_) fun h' ⟨o',ep',n1,n2,n3⟩ kk=>?_
 ·rw [h4]at hq
  obtain⟨x,hx,rfl⟩:=List.mem_map.mp hq;have key:∀ {l:List (List Key×V)} {m:List (List Key×Addr×Value)},KT X.K H l m->∀ x∈m,TpK X.K H x.2.1 (x.1.map kV):=by
   intro l m q
   induction q with
   | nil=>intro x hx; cases hx
   | cons hq _ ih =>
    intro x hx;rcases qw.mp hx with e | hx
    ·subst e
     rw [<-hq.1];exact hq.2.1
    ·exact ih x hx
  exact⟨x.2.1,rfl,(zfZ I.kIn I.hok (key r x hx)).typeIs⟩
 ·rw [<-hashes]at hn
  have:=zn7 hn hq;rw [<-Array.length_toList,Array.toList_filter];omega
 ·refine h _ _ (I.hok.fresh (qg _)) (I.laid (a:=s.heap.objs.size) (o:=.dT kvs) (t':=s.toks) kk (qg _) ⟨z,beq_eq_false_iff_ne.mpr (Ne.symm (ql I.big)),xs,?_,o',es,ep',n1,n2,n3,h4,h5⟩)
  exact KT.keeps r fun b ys hb=>by rw [zI (fun z=>by rw [z,I.hok.fresh (qg _)]at hb; cases hb)]; exact hb
theorem zn8:zbS X (.type "dict") (fun xs H Q=>∃ a kvs,xs=[.ref a]/\Rd H a (.dT kvs)/\zgd (kvs.map (·.1))=true/\∀ p,H p=none->Q (.ref p) (upd H p (.dT kvs))):=by
 intro pins s σ H xs us Q I r h;obtain⟨a,kvs,rfl,hr,hh,q⟩:=h;obtain⟨u,rfl,ru⟩:=zgm r;cases ru;exact zvG I hr hh fun p s' hp I'=>⟨.ref p,_,I',rfl,q p hp⟩
end
def zmJ:List (D×D)->Option (List (List Key×D))
 | []=>some []
 | (k,d)::r=>(zaZ k).bind fun k=>(zmJ r).bind fun r=>some ((k,d)::r)
def zgD:U->Option U
 | .t kvs=>if zgd (kvs.map (·.1))=true then some (.t kvs)else none
 | .d (.dict kvs)=>if noX kvs=true then(zmJ kvs).bind fun kvs=>if zgd (kvs.map (·.1))=true then some (.t kvs)else none else none
 | _=>none
section
variable {K:qe} {H:Hp}
theorem zmK{ws:List (List Key×V)}{kvs:List (List Key×D)}(h:KVd K H ws kvs):ws.map (·.1)=kvs.map (·.1):=by
 induction h with
 | nil=>rfl
 | cons hq t ih=>rw [List.map_cons,List.map_cons,ih,hq.1]
theorem zmL:∀ {kvs:List (D×D)} {ws:List (List Key×V)} {r:List (List Key×D)},DFt K H ws kvs->zmJ kvs=some r->KVd K H ws r
 | [],ws,r,h,e=>by cases h; cases e; exact .nil
 | (k,d)::kvs,ws,r,h,e=>by
  obtain⟨k',ek,e⟩:=bQ (show(zaZ k).bind _=some r from e);obtain⟨r',er,e⟩:=bQ e;cases e;cases h with
  | @cons k2 v _ vs ds hv t =>
   rw [zgx]at ek;cases ek;exact .cons ⟨rfl,hv⟩ (zmL t er)
theorem zqG:VC K (fun xs H Q=>∃ a kvs,xs=[.ref a]/\Rd H a (.dT kvs)/\zgd (kvs.map (·.1))=true/\∀ p,H p=none->Q (.ref p) (upd H p (.dT kvs))) (f1 zgD):=zmh fun v a u H Q h e q=>by
 unfold zgD at e;split at e
 ·split at e
  rotate_left
  ·cases e
  rename_i kvs hh;cases e;obtain⟨b,ws,rfl,h1,h2⟩:=h;refine⟨b,ws,rfl,.inl h1,by rw [zmK h2]; exact hh,fun p hp=>?_⟩;have sm:=zag hp (.dT ws);exact q _ _ sm ⟨p,ws,rfl,zD,h2.kp sm.kp⟩ fun _=>⟨p,rfl,hp⟩
 ·split at e
  rotate_left
  ·cases e
  rename_i nx;obtain⟨r,er,e⟩:=bQ e;split at e
  rotate_left
  ·cases e
  rename_i hh;cases e;obtain⟨b,o,ws,rfl,h1,h2⟩:=DF.dct_inv h nx;have kd:=zmL h2 er;refine⟨b,ws,rfl,.inr ⟨o,h1⟩,by rw [zmK kd]; exact hh,fun p hp=>?_⟩;have sm:=zag hp (.dT ws);exact q _ _ sm ⟨p,ws,rfl,zD,kd.kp sm.kp⟩ fun _=>⟨p,rfl,hp⟩
 ·cases e
end
def zpB(i j:Int):Prop:=i.natAbs.log2 < 1000000/\j.natAbs.log2 < 1000000
theorem zmM{n:Int}(h:n.natAbs.log2 < 1000000):Builtin.Int.intBits n<=2^20:=by
 refine intBits_le ?_
 by_cases z:n.natAbs=0
 ·rw [z]; exact Nat.two_pow_pos _
 ·exact qk ((Nat.log2_lt z).mp h) (Nat.pow_le_pow_right (by decide) (by decide))
section
variable {X:Cx}
theorem zbw:OpR X (binaryOp .Mult) (rI zpB fun i j=>.int (i * j)):=opI fun _ _ _ _ _ _ _ hc q=>mul_int q (IntMulOk.of_bits (zmM hc.1) (zmM hc.2))
end
section
variable {K:qe}
def zcZ:=fIC zpB fun i j=>.int (i * j)
theorem zbx:VO K (rI zpB fun i j=>.int (i * j)) zcZ:=zko fun i j H=>.int _
theorem zvH{w:U}{xs:List D}(h:w.lo=some xs):w=.l xs:=by
 cases w<;>first | (cases h; rfl) | cases h
end
section
variable {ρ:En} {me ma mb mc mk mi md my mv mx mo:ME} {mA mK:MA} {mt mu:MT} {mI:MI} {mg:MG} {m1 m2:MS} {i j n:Nat} {u:U} {x:D}
variable {QE:Ar×En->Prop} {QI:List D×En->Prop}
theorem zmN:Wo (zeN md my mx ρ) QE=Wo (md ρ) (Co (fun p=>(p.1.get p.2).bind fun u0=>if zkA u0=true then(my p.2).bind fun q=>(mx q.2).bind fun z=>(p.1.get z.2).bind fun u=>(q.1.get z.2).bind fun y=>(z.1.get z.2).bind fun x=>(zjQ u y).bind fun o=>x.da.bind fun x=>some (.u (.d (o.getD x)),z.2)else none) ⟨0⟩ QE):=by
 have e:zeN md my mx ρ=(md ρ).bind fun p=>(p.1.get p.2).bind fun u0=>if zkA u0=true then(my p.2).bind fun q=>(mx q.2).bind fun z=>(p.1.get z.2).bind fun u=>(q.1.get z.2).bind fun y=>(z.1.get z.2).bind fun x=>(zjQ u y).bind fun o=>x.da.bind fun x=>some (.u (.d (o.getD x)),z.2)else none:=by
  unfold zeN;refine bind_fn fun p=>bind_fn fun u0=>?_;split
  ·refine bind_fn fun q=>bind_fn fun z=>bind_fn fun u=>bind_fn fun y=>bind_fn fun x=>bind_fn fun o=>?_
   cases x<;>rfl
  ·rfl
 rw [e,zt]
theorem zs8:Wo (zvE mA ρ) QI=Wo (mA ρ) (Co (fun p=>(zbd p.2 p.1).bind fun us=>(zs6 us).bind fun ds=>some (ds,p.2)) ⟨0⟩ QI):=by
 show Wo (Option.bind _ _) QI=_;rw [zt]
theorem zpC{kvs:List (List Key×D)}:zkA (.t kvs)=true:=rfl
theorem zce{a b:Int}(h:a.natAbs.log2 < 1000000)(h2:b.natAbs.log2 < 1000000):zcZ (.d (.int a)) (.d (.int b))=some (.d (.int (a * b))):=zku (c:=zpB) ⟨h,h2⟩
theorem zzc{α:Type}{g:α->D}{nt:Nat}{b:α->Bool}{e:α->D}{as:List α}{Q:List D×En->Prop}(hz:as.length<=sizeLine)
  (st:∀ a∈as,∀ ys,Wo (mg (g a) ρ) (Co mt ⟨0⟩ (kLC nt me ys fun ρ' zs=>ρ'=ρ/\zs=if b a=true then ys++[e a]else ys))) (q:Q ((as.filter b).map e,ρ)):Wo (lcM nt mg mt me (as.map g) ρ []) Q:=by
 refine zxb (fun i ρ' ys=>ρ'=ρ/\ys=((as.take i).filter b).map e) (by rw [List.length_map]; exact hz) (fun i ρ' ys h=>?_) ⟨rfl,rfl⟩ (fun i d ρ' ys hd h=>?_) fun ρ' ys h=>?_
 ·rw [h.2,List.length_map]
  exact qA (List.length_filter_le _ _) (by rw [List.length_take]; exact Nat.min_le_left _ _)
 ·obtain⟨rfl,rfl⟩:=h
  rw [List.getElem?_map]at hd;obtain⟨a,ha,rfl⟩:=qt.mp hd;have:=st a (List.mem_of_getElem? ha) (((as.take i).filter b).map e);have en:((as.take (i+1)).filter b).map e=if b a=true then((as.take i).filter b).map e++[e a]else((as.take i).filter b).map e:=by
   rw [List.take_succ,ha,List.filter_append,List.map_append];show _++(([a]:List α).filter b).map e=_;rw [List.filter_cons];split<;>simp
  rw [en];exact this
 ·obtain⟨rfl,rfl⟩:=h
  rw [List.length_map,List.take_of_length_le (qg _)];exact q
end
def zvI(K:qe)(tl:TE):TI:=fun σ H R=>tl σ H fun x H1=>∃ a,x=.ref a/\(((∃ xs,SqL K H1 a xs)/\R (Itl K a) H1)\/((∃ xs,SqT K H1 a xs)/\R (Itt K a) H1))
section
variable {X:Cx} {tg:Expr}
theorem zzd{l:Expr}{tl:TE}(hl:PE X l tl):PI X tg l (zvI X.K tl):=by
 intro pins s σ H R I h;refine thn (hl pins s σ H _ I h) fun v s1 ⟨x,H1,I1,r1,q1⟩=>?_;obtain⟨a,e,z⟩:=q1;subst e;cases r1;rcases z with ⟨hx,q⟩ | ⟨hx,q⟩
 ·obtain⟨xs,hq⟩:=hx
  obtain⟨its,rv,p,hz⟩:=I1.list hq;refine wpAny_pyIter_list p.isList ?_;refine⟨s1.heap.objs.size,[s1.heap.objs.size],_,_,H1,rfl,I1.kept (t':=s1.toks) fun b o e=>qf _ e,zka a _,⟨_,qi _ rfl,rfl,rfl⟩,fun b hb=>?_,q⟩;have e:b=s1.heap.objs.size:=by simpa using hb
  subst e;exact I1.fpOk (qg _) (I1.hok.fresh (qg _))
 ·obtain⟨xs,hq⟩:=hx
  obtain⟨its,rv,p,hz⟩:=I1.tuple hq;refine wpAny_pyIter_tuple (show s1.heap.IsTuple a its.toArray from p) ?_;refine⟨s1.heap.objs.size,[s1.heap.objs.size],_,_,H1,rfl,I1.kept (t':=s1.toks) fun b o e=>qf _ e,ziw a _,⟨_,qi _ rfl,rfl,rfl⟩,fun b hb=>?_,q⟩;have e:b=s1.heap.objs.size:=by simpa using hb
  subst e;exact I1.fpOk (qg _) (I1.hok.fresh (qg _))
theorem zze{l:Expr}{tl:TE}(K:qe)(hK:X.K=K)(hl:Wr (PE X l tl)):Wr (PI X tg l (zvI K tl)):=hK▸⟨zzd hl.run⟩
end
def zvJ:U->Option (List D)
 | .d (.list xs)=>some xs
 | .d (.tuple xs)=>some xs
 | _=>none
theorem zzf{K:qe}{te:TE}{me:ME}(h:VE K te me):VI K (zvI K te) (mIt zvJ me):=by
 intro ρ σ H ds ρ' R r e q;obtain⟨⟨a,ρ1⟩,e1,e⟩:=bQ e;obtain⟨u,eu,e⟩:=bQ e;obtain⟨xs,ex,e⟩:=bQ e;cases e;refine h ρ σ H a _ _ r e1 fun v H1 g1 k1=>?_;have p:=k1.now r g1 eu;unfold zvJ at ex;split at ex
 ·cases ex
  obtain⟨b,ys,rfl,h1,h2⟩:=DF.lst_inv p;refine⟨b,rfl,.inl ⟨⟨ys,h1.sq⟩,q _ _ g1 fun H2 k i=>⟨fun d ed=>?_,fun ei=>?_⟩⟩⟩
  ·obtain⟨v,ev,dv⟩:=(h2.kp k).get ed
   refine⟨⟨ys,v,(h1.kp k).sq,ev⟩,fun x H' y=>?_⟩;obtain⟨rfl,y⟩:=y;have:=y ys (h1.kp k).sq;rw [ev]at this;cases this;exact⟨fun _ _ z=>z,dv⟩
  ·exact⟨ys,(h1.kp k).sq,by rw [h2.len]; omega⟩
 ·cases ex
  obtain⟨b,ys,rfl,h1,h2⟩:=DF.tup_inv p;refine⟨b,rfl,.inr ⟨⟨ys,(TpK.sq h1)⟩,q _ _ g1 fun H2 k i=>⟨fun d ed=>?_,fun ei=>?_⟩⟩⟩
  ·obtain⟨v,ev,dv⟩:=(h2.kp k).get ed
   refine⟨⟨ys,v,(TpK.kp k h1).sq,ev⟩,fun x H' y=>?_⟩;obtain⟨rfl,y⟩:=y;have:=y ys ((TpK.kp k h1).sq);rw [ev]at this;cases this;exact⟨fun _ _ z=>z,dv⟩
  ·exact⟨ys,(TpK.kp k h1).sq,by rw [h2.len]; omega⟩
 ·cases ex
end L2
namespace L2
open PySem
def zjT(n d:Int):Int:=(if d < 0 then -n else n) / (Int.gcd n d:Nat)
def zi6(n d:Int):Int:=(if d < 0 then -d else d) / (Int.gcd n d:Nat)
theorem zqH{n d:Int}(hd:d≠0):zjT n d * d=n * zi6 n d/\1<=zi6 n d/\Int.gcd (zjT n d) (zi6 n d)=1/\zi6 n d<=d.natAbs/\(zjT n d).natAbs<=n.natAbs:=by
 have hg:0 < Int.gcd n d:=Int.gcd_pos_of_ne_zero_right n hd;obtain⟨u,hu⟩:=Int.gcd_dvd_left n d;obtain⟨v,hv⟩:=Int.gcd_dvd_right n d;have hg':(0:Int) < (Int.gcd n d:Nat):=Int.natCast_pos.mpr hg;have hc:Int.gcd (n / (Int.gcd n d:Nat)) (d / (Int.gcd n d:Nat))=1:=Int.gcd_ediv_gcd_ediv_gcd hg;unfold zjT zi6;generalize (Int.gcd n d:Nat)=g at *;have gne:(g:Int)≠0:=by omega
 have eu:n / (g:Int)=u:=by rw [hu]; exact Int.mul_ediv_cancel_left u gne
 have ev:d / (g:Int)=v:=by rw [hv]; exact Int.mul_ediv_cancel_left v gne
 have eu':(-n) / (g:Int)=-u:=by rw [hu,<-Int.mul_neg]; exact Int.mul_ediv_cancel_left (-u) gne
 have ev':(-d) / (g:Int)=-v:=by rw [hv,<-Int.mul_neg]; exact Int.mul_ediv_cancel_left (-v) gne
 rw [eu,ev]at hc;have g1:1<=g:=hg;have an:n.natAbs=g * u.natAbs:=by rw [hu,Int.natAbs_mul]; rfl
 have ad:d.natAbs=g * v.natAbs:=by rw [hv,Int.natAbs_mul]; rfl
 have lu:u.natAbs<=n.natAbs:=by rw [an]; exact Nat.le_mul_of_pos_left _ hg
 have lv:v.natAbs<=d.natAbs:=by rw [ad]; exact Nat.le_mul_of_pos_left _ hg
 by_cases c:d < 0
 ·rw [if_pos c,if_pos c,eu',ev']
  have hv0:v < 0:=by
   rcases(by omega:v < 0\/0<=v)with z | z
   ·exact z
   ·have:=Int.mul_nonneg (Int.le_of_lt hg') z
    omega
  refine⟨?_,by omega,?_,by omega,by omega⟩
  ·rw [hu,hv]
   simp only [Int.neg_mul,Int.mul_neg,Int.neg_inj]
   ac_rfl
  ·rw [Int.neg_gcd,Int.gcd_neg]
   exact hc
 ·rw [if_neg c,if_neg c,eu,ev]
  have hv0:0 < v:=by
   rcases(by omega:0 < v\/v<=0)with z | z
   ·exact z
   ·have:=Int.mul_nonneg (Int.le_of_lt hg') (show 0<=-v by omega)
    rw [Int.mul_neg,<-hv]at this;omega
  refine⟨?_,by omega,hc,by omega,by omega⟩;rw [hu,hv]
  ac_rfl
theorem zs9{n d N D:Int}(hd:d≠0)(h1:1<=D)(hc:Int.gcd N D=1)(he:N * d=n * D):N=zjT n d/\D=zi6 n d:=by
 obtain⟨e,y1,c,_,_⟩:=zqH (n:=n) hd;generalize zjT n d=x at *;generalize zi6 n d=y at *;have k:N * y=x * D:=by
  have z:(N * y) * d=(x * D) * d:=by grind
  exact Int.eq_of_mul_eq_mul_right hd z
 have d1:D∣y:=by
  have t:D∣N * y:=⟨x,by rw [k]; ac_rfl⟩;have u:=Int.dvd_gcd_mul_iff_dvd_mul.mpr t;rw [Int.gcd_comm,hc]at u;simpa using u
 have d2:y∣D:=by
  have t:y∣x * D:=⟨N,by rw [<-k]; ac_rfl⟩;have u:=Int.dvd_gcd_mul_iff_dvd_mul.mpr t;rw [Int.gcd_comm,c]at u;simpa using u
 have l1:=Int.le_of_dvd (by omega) d1;have l2:=Int.le_of_dvd (by omega) d2;have e2:D=y:=by omega
 refine⟨?_,e2⟩;rw [e2]at k;exact Int.eq_of_mul_eq_mul_right (by omega) k
theorem zmO(n d:Int){g:Int}(hg:0 < g):n.fdiv (if d < 0 then 0 - g else g)=(if d < 0 then -n else n) / g:=by
 split
 ·rw [Int.zero_sub,<-Int.fdiv_eq_ediv_of_nonneg _ (Int.le_of_lt hg)]
  have:=Int.neg_fdiv_neg (-n) g;rw [Int.neg_neg]at this;exact this
 ·rw [Int.fdiv_eq_ediv_of_nonneg _ (Int.le_of_lt hg)]
theorem zta(x y:Int):Int.gcd (if x < 0 then -x else x) (if y < 0 then -y else y)=Int.gcd x y:=by
 rw [zk0];split
 ·exact Int.gcd_neg
 ·rfl
theorem zvK{n d:Int}(hd:d≠0):zjT n d=(Rat.divInt n d).num/\zi6 n d=((Rat.divInt n d).den:Int):=by
 have h:=zs9 (n:=n) (d:=d) (N:=(Rat.divInt n d).num) (D:=((Rat.divInt n d).den:Int)) hd (by have:=(Rat.divInt n d).den_pos; omega) (by
  have:=(Rat.divInt n d).reduced;exact this) (by
  have e:Rat.divInt (Rat.divInt n d).num ((Rat.divInt n d).den:Int)=Rat.divInt n d:=Rat.num_divInt_den _;rw [Rat.divInt_eq_divInt_iff (by have:=(Rat.divInt n d).den_pos; omega) hd]at e;rw [e])
 exact⟨h.1.symm,h.2.symm⟩
def fR(r:Rat):D:=.tuple [.int r.num,.int (r.den:Int)]
theorem ztb{n d:Int}(hd:d≠0):PyData.tuple [.int (zjT n d),.int (zi6 n d)]=fR (Rat.divInt n d):=by
 obtain⟨e1,e2⟩:=zvK (n:=n) hd;rw [e1,e2];rfl
theorem zhY(r:Rat):1<=(r.den:Int):=by have:=r.den_pos; omega
theorem cop(r:Rat):Int.gcd r.num (r.den:Int)=1:=by
 have:=r.reduced;exact this
theorem zvL(a b:Rat):Rat.divInt (a.num * b.den+b.num * a.den) ((a.den:Int) * b.den)=a+b:=by
 rw [Rat.add_def',<-Rat.divInt_ofNat,Int.natCast_mul]
theorem zvM(a b:Rat):Rat.divInt (a.num * b.num) ((a.den:Int) * b.den)=a * b:=by
 rw [Rat.mul_def',<-Rat.divInt_ofNat,Int.natCast_mul]
theorem zi7(r:Rat):r * (r.den:Rat)=(r.num:Rat):=by
 have e:(r.num:Rat) / ((r.den:Int):Rat)=r:=by rw [<-Rat.divInt_eq_div]; exact Rat.num_divInt_den r
 have n:((r.den:Int):Rat)≠0:=fun h=>by
  have:=Rat.intCast_inj.mp (show((r.den:Int):Rat)=((0:Int):Rat) from h);have:=r.den_pos;omega
 have:=Rat.div_mul_cancel (a:=(r.num:Rat)) n;rw [e]at this;exact this
def Bd(M B:Nat)(r:Rat):Prop:=∃ k:Int,r * (M:Rat)=(k:Rat)/\k.natAbs<=B
section
variable {M N B C:Nat} {r s:Rat}
theorem Bd.le(h:Bd M B r)(c:B<=C):Bd M C r:=let ⟨k,e,b⟩:=h; ⟨k,e,qA b c⟩
theorem Bd.size(hM:0 < M)(h:Bd M B r):r.den<=M/\r.num.natAbs<=B:=by
 obtain⟨k,e,b⟩:=h;have e2:r.num * (M:Int)=k * (r.den:Int):=by
  have h1:=zi7 r;have h2:((r.num * (M:Int):Int):Rat)=((k * (r.den:Int):Int):Rat):=by
   rw [Rat.intCast_mul,Rat.intCast_mul,<-h1,<-e,Rat.intCast_natCast,Rat.intCast_natCast,Rat.mul_assoc,Rat.mul_assoc,Rat.mul_comm (r.den:Rat)]
  exact Rat.intCast_inj.mp h2
 have dv:(r.den:Int)∣(M:Int):=by
  have t:(r.den:Int)∣r.num * (M:Int):=⟨k,by rw [e2,Int.mul_comm]⟩;have u:=Int.dvd_gcd_mul_iff_dvd_mul.mpr t;rw [Int.gcd_comm,cop]at u;simpa using u
 obtain⟨c,hc⟩:=dv;have dp:(0:Int) < r.den:=by have:=r.den_pos; omega
 have c0:0 < c:=by
  rcases(by omega:0 < c\/c<=0)with z | z
  ·exact z
  ·have:=Int.mul_nonneg (Int.le_of_lt dp) (show 0<=-c by omega)
   rw [Int.mul_neg,<-hc]at this;omega
 have ek:k=r.num * c:=by
  rw [hc]at e2;have:k * (r.den:Int)=(r.num * c) * (r.den:Int):=by rw [<-e2]; ac_rfl
  exact Int.eq_of_mul_eq_mul_right (by omega) this
 constructor
 ·have:(r.den:Int) * 1<=(r.den:Int) * c:=Int.mul_le_mul_of_nonneg_left (by omega) (by omega)
  omega
 ·rw [ek,Int.natAbs_mul]at b
  exact qA (Nat.le_mul_of_pos_right _ (by omega)) b
theorem Bd.add(h:Bd M B r)(h':Bd M C s):Bd M (B+C) (r+s):=by
 obtain⟨k,e,b⟩:=h;obtain⟨l,f,c⟩:=h';exact⟨k+l,by rw [Rat.add_mul,e,f,Rat.intCast_add],qA (Int.natAbs_add_le _ _) (Nat.add_le_add b c)⟩
theorem Bd.mul(h:Bd M B r)(h':Bd N C s):Bd (M * N) (B * C) (r * s):=by
 obtain⟨k,e,b⟩:=h;obtain⟨l,f,c⟩:=h';refine⟨k * l,?_,by rw [Int.natAbs_mul]; exact Nat.mul_le_mul b c⟩;rw [Rat.intCast_mul,<-e,<-f,Rat.natCast_mul];grind
theorem Bd.neg(h:Bd M B r):Bd M B (-r):=by
 obtain⟨k,e,b⟩:=h;exact⟨-k,by rw [Rat.neg_mul,e,Rat.intCast_neg],by rw [Int.natAbs_neg]; exact b⟩
theorem Bd.zero:Bd M B 0:=⟨0,by rw [Rat.zero_mul]; rfl,Nat.zero_le _⟩
theorem Bd.wide(h:Bd M B r)(c:Nat):Bd (M * c) (B * c) r:=by
 obtain⟨k,e,b⟩:=h;refine⟨k * c,?_,by rw [Int.natAbs_mul,Int.natAbs_natCast]; exact Nat.mul_le_mul_right _ b⟩;rw [Rat.intCast_mul,<-e,Rat.natCast_mul,Rat.intCast_natCast,Rat.mul_assoc]
theorem Bd.one:Bd 1 1 1:=⟨1,by rw [Rat.one_mul]; rfl,qg _⟩
theorem Bd.int(n:Int):Bd 1 n.natAbs (n:Rat):=⟨n,by rw [show((1:Nat):Rat)=1 from rfl,Rat.mul_one],qg _⟩
end
abbrev Pq(α:Type):=List (List Int×α)
section
variable {α β:Type}
def look(p:Pq α)(k:List Int):Option α:=(p.find? fun t=>decide (t.1=k)).map (·.2)
def za4(p:Pq α)(k:List Int)(x:α):Pq α:=if(p.any fun t=>decide (t.1=k))=true then p.map (fun t=>if t.1=k then(t.1,x)else t)else p++[(k,x)]
def NdK(p:Pq α):Prop:=(p.map (·.1)).Nodup
theorem zhf{p:Pq α}{k:List Int}:look p k=none↔(p.any fun t=>decide (t.1=k))=false:=by
 induction p with
 | nil=>simp [look]
 | cons t p ih =>
  unfold look at ih ⊢;rw [List.find?_cons,List.any_cons]
  by_cases h:t.1=k
  ·simp [h]
  ·rw [decide_eq_false h,Bool.false_or]
   exact ih
theorem ztc{p:Pq α}{k:List Int}:(look p k).isSome=(p.any fun t=>decide (t.1=k)):=by
 cases h:look p k with
 | none=>rw [zhf.mp h]; rfl
 | some x =>
  cases z:(p.any fun t=>decide (t.1=k))with
  | true=>rfl
  | false=>rw [zhf.mpr z]at h; cases h
theorem ztd(p:Pq α)(k:List Int)(x:α):(za4 p k x).map (·.1)=if(p.any fun t=>decide (t.1=k))=true then p.map (·.1)else p.map (·.1)++[k]:=by
 unfold za4;split
 ·rw [List.map_map]
  refine List.map_congr_left fun t _=>?_;show(if t.1=k then(t.1,x)else t).1=t.1;split<;>rfl
 ·rw [List.map_append]
  rfl
theorem zpD{p:Pq α}{k:List Int}{x:α}{t:List Int×α}(h:t∈za4 p k x):(t∈p/\t.1≠k)\/t=(k,x):=by
 unfold za4 at h;split at h
 ·obtain⟨u,hu,rfl⟩:=List.mem_map.mp h
  by_cases c:u.1=k
  ·rw [if_pos c]; exact .inr (by rw [c])
  ·rw [if_neg c]; exact .inl ⟨hu,c⟩
 ·rename_i hn
  rcases List.mem_append.mp h with z | z
  ·exact .inl ⟨z,fun e=>hn (List.any_eq_true.mpr ⟨t,z,decide_eq_true e⟩)⟩
  ·exact .inr (qr.mp z)
theorem NdK.put{p:Pq α}(h:NdK p)(k:List Int)(x:α):NdK (za4 p k x):=by
 unfold NdK;rw [ztd];split
 ·exact h
 ·rename_i hn
  refine List.nodup_append.mpr ⟨h,by simp,fun a ha b hb=>?_⟩;have:b=k:=by simpa using hb
  rw [this];obtain⟨t,ht,rfl⟩:=List.mem_map.mp ha;exact fun e=>hn (List.any_eq_true.mpr ⟨t,ht,decide_eq_true e⟩)
theorem zpE(p:Pq α)(k:List Int)(x:α):(za4 p k x).length<=p.length+1:=by
 unfold za4;split
 ·rw [List.length_map]; omega
 ·rw [qu]; exact qg _
def gat[Add α][Zero α](acc:Pq α)(ts:Pq α):Pq α:=ts.foldl (fun a t=>za4 a t.1 ((look a t.1).getD 0+t.2)) acc
end
section
variable {α:Type} [Add α] [Zero α]
theorem zdE(ts:Pq α):∀ {acc:Pq α},NdK acc->NdK (gat acc ts):=by
 induction ts with
 | nil=>exact fun h=>h
 | cons t ts ih=>exact fun h=>ih (h.put _ _)
theorem zde(ts:Pq α):∀ (acc:Pq α),(gat acc ts).length<=acc.length+ts.length:=by
 induction ts with
 | nil=>intro acc; exact qg _
 | cons t ts ih =>
  intro acc;have h1:=ih (za4 acc t.1 ((look acc t.1).getD 0+t.2));have h2:=zpE acc t.1 ((look acc t.1).getD 0+t.2);rw [qv];show(gat (za4 acc t.1 ((look acc t.1).getD 0+t.2)) ts).length<=_;omega
theorem zgE(acc ts:Pq α)(t:List Int×α):gat acc (ts++[t])=za4 (gat acc ts) t.1 ((look (gat acc ts) t.1).getD 0+t.2):=by
 unfold gat;rw [List.foldl_append];rfl
theorem zi8{Pk:List Int->Prop}(ts:Pq α):∀ {acc:Pq α},(∀ t∈acc,Pk t.1)->(∀ t∈ts,Pk t.1)->∀ t∈gat acc ts,Pk t.1:=by
 induction ts with
 | nil=>exact fun h _=>h
 | cons t ts ih =>
  intro acc h1 h2;refine ih (acc:=za4 acc t.1 _) (fun u hu=>?_) fun u hu=>h2 u (qp _ hu);rcases zpD hu with ⟨z,_⟩ | rfl
  ·exact h1 u z
  ·exact h2 t qq
end
theorem zte{α:Type}{p:Pq α}{k:List Int}{x:α}(h:look p k=some x):(k,x)∈p:=by
 unfold look at h;obtain⟨t,ht,rfl⟩:=qt.mp h;have h1:=List.mem_of_find?_eq_some ht;have h2:t.1=k:=by simpa using List.find?_some ht
 rw [<-h2];exact h1
theorem zbL{α:Type}{p:Pq α}(nd:NdK p){t:List Int×α}(h:t∈p):look p t.1=some t.2:=by
 induction p with
 | nil=>cases h
 | cons u p ih =>
  have nd':u.1∉p.map (·.1)/\NdK p:=List.nodup_cons.mp nd;unfold look at ih ⊢;rw [List.find?_cons];rcases qw.mp h with rfl | h
  ·rw [decide_eq_true rfl]; rfl
  ·rw [decide_eq_false (fun e=>nd'.1 (List.mem_map.mpr ⟨t,h,e.symm⟩))]
   exact ih nd'.2 h
def lin(p:Pq Rat)(g:List Int->Rat):Rat:=(p.map fun t=>t.2 * g t.1).sum
theorem zby(g:List Int->Rat):lin [] g=0:=rfl
theorem zS(t:List Int×Rat)(p:Pq Rat)(g:List Int->Rat):lin (t::p) g=t.2 * g t.1+lin p g:=rfl
theorem zpF(p q:Pq Rat)(g:List Int->Rat):lin (p++q) g=lin p g+lin q g:=by
 induction p with
 | nil=>rw [List.nil_append,zby,Rat.zero_add]
 | cons t p ih=>rw [List.cons_append,zS,zS,ih,Rat.add_assoc]
theorem zcn{p q:Pq Rat}(h:p.Perm q)(g:List Int->Rat):lin p g=lin q g:=by
 induction h with
 | nil=>rfl
 | cons t _ ih=>rw [zS,zS,ih]
 | swap t u p=>rw [zS,zS,zS,zS]; grind
 | trans _ _ i1 i2=>exact i1.trans i2
theorem zlw(p:Pq Rat)(g:List Int->Rat):lin (p.filter fun t=>decide (t.2≠0)) g=lin p g:=by
 induction p with
 | nil=>rfl
 | cons t p ih =>
  rw [List.filter_cons]
  by_cases h:t.2=0
  ·rw [if_neg (by simp [h]),zS,h,ih]; grind
  ·rw [if_pos (by simp [h]),zS,zS,ih]
theorem ztf{p:Pq Rat}(nd:NdK p){k:List Int}{x:Rat}(h:look p k=some x)(y:Rat)(g:List Int->Rat):lin (p.map fun t=>if t.1=k then(t.1,x+y)else t) g=lin p g+y * g k:=by
 induction p with
 | nil=>cases h
 | cons t p ih =>
  have nd':t.1∉p.map (·.1)/\NdK p:=List.nodup_cons.mp nd;rw [List.map_cons,zS,zS]
  by_cases c:t.1=k
  ·have e:p.map (fun t=>if t.1=k then(t.1,x+y)else t)=p:=by
    have:∀ u∈p,(fun t:List Int×Rat=>if t.1=k then(t.1,x+y)else t) u=id u:=fun u hu=>if_neg fun z=>nd'.1 (List.mem_map.mpr ⟨u,hu,z.trans c.symm⟩);rw [List.map_congr_left this,List.map_id]
   have ex:t.2=x:=by
    unfold look at h;rw [List.find?_cons,decide_eq_true c]at h;exact qy h
   rw [e,if_pos c,ex,c];grind
  ·have h':look p k=some x:=by
    unfold look at h ⊢;rw [List.find?_cons,decide_eq_false c]at h;exact h
   rw [if_neg c,ih nd'.2 h'];grind
theorem zvN{p:Pq Rat}(nd:NdK p)(k:List Int)(y:Rat)(g:List Int->Rat):lin (za4 p k ((look p k).getD 0+y)) g=lin p g+y * g k:=by
 unfold za4;cases h:look p k with
 | none =>
  rw [if_neg (by rw [zhf.mp h]; exact qh),zpF,zS,zby,Option.getD_none];grind
 | some x =>
  rw [if_pos (by rw [<-ztc,h]; rfl),Option.getD_some];exact ztf nd h y g
theorem zeb(ts:Pq Rat)(g:List Int->Rat):∀ {acc:Pq Rat},NdK acc->lin (gat acc ts) g=lin acc g+lin ts g:=by
 induction ts with
 | nil=>intro acc _; rw [zby,Rat.add_zero]; rfl
 | cons t ts ih =>
  intro acc nd;show lin (gat (za4 acc t.1 _) ts) g=_;rw [ih (nd.put _ _),zvN nd,zS,Rat.add_assoc]
def ltP{α:Type}(a b:List Int×α):Prop:=zb7 a.1 b.1=true
def ins{α:Type}(x:List Int×α):Pq α->Pq α
 | []=>[x]
 | y::l=>if zb7 x.1 y.1=true then x::y::l else y::ins x l
def srt{α:Type}:Pq α->Pq α
 | []=>[]
 | x::l=>ins x (srt l)
theorem zi9{α:Type}(x:List Int×α):∀ l:Pq α,(ins x l).Perm (x::l)
 | []=>.refl _
 | y::l=>by
  unfold ins;split
  ·exact .refl _
  ·exact((zi9 x l).cons y).trans (List.Perm.swap x y l)
theorem zaS{α:Type}:∀ l:Pq α,(srt l).Perm l
 | []=>.refl _
 | x::l=>(zi9 x (srt l)).trans ((zaS l).cons x)
theorem zmP{α:Type}(x:List Int×α):∀ {l:Pq α},l.Pairwise ltP->(∀ y∈l,x.1≠y.1)->(ins x l).Pairwise ltP
 | [],_,_=>by unfold ins; simp
 | y::l,h,ne=>by
  obtain⟨h1,h2⟩:=List.pairwise_cons.mp h;unfold ins;split
  ·rename_i c
   refine List.pairwise_cons.mpr ⟨fun w hw=>?_,h⟩;rcases qw.mp hw with rfl | hw
   ·exact c
   ·exact zcD c (h1 w hw)
  ·rename_i c
   refine List.pairwise_cons.mpr ⟨fun w hw=>?_,zmP x h2 fun w hw=>ne w (qp _ hw)⟩;rcases qw.mp ((zi9 x l).mem_iff.mp hw)with rfl | hw
   ·exact(zdK (ne y qq)).resolve_left c
   ·exact h1 w hw
theorem zdP{α:Type}:∀ {l:Pq α},NdK l->(srt l).Pairwise ltP
 | [],_=>.nil
 | x::l,nd=>by
  have nd':x.1∉l.map (·.1)/\NdK l:=List.nodup_cons.mp nd;exact zmP x (zdP nd'.2) fun y hy e=>nd'.1 (List.mem_map.mpr ⟨y,(zaS l).mem_iff.mp hy,e.symm⟩)
structure Nf (p:Pq Rat):Prop where
 st:p.Pairwise ltP
 nz:∀ t∈p,t.2≠0
theorem zik{p:Pq Rat}{k:List Int}(h:∀ t∈p,t.1≠k):lin p (fun e=>if e=k then 1 else 0)=0:=by
 induction p with
 | nil=>rfl
 | cons t p ih =>
  rw [zS,ih fun u hu=>h u (qp _ hu),if_neg (h t qq)];grind
theorem lt_ne{α:Type}{a b:List Int×α}(h:ltP a b):a.1≠b.1:=fun e=>by
 unfold ltP at h;rw [e,zd3]at h;cases h
theorem Nf.tail{t:List Int×Rat}{p:Pq Rat}(h:Nf (t::p)):Nf p:=⟨(List.pairwise_cons.mp h.st).2,fun u hu=>h.nz u (qp _ hu)⟩
theorem Nf.head0{t:List Int×Rat}{p:Pq Rat}(h:Nf (t::p)):lin (t::p) (fun e=>if e=t.1 then 1 else 0)=t.2:=by
 rw [zS,zik fun u hu e=>lt_ne ((List.pairwise_cons.mp h.st).1 u hu) e.symm,if_pos rfl];grind
theorem zlx:∀ {p q:Pq Rat},Nf p->Nf q->(∀ g,lin p g=lin q g)->p=q
 | [],[],_,_,_=>rfl
 | [],t::q,_,hq,h=>by
  have:=h fun e=>if e=t.1 then 1 else 0;rw [hq.head0,zby]at this;exact absurd this.symm (hq.nz t qq)
 | t::p,[],hp,_,h=>by
  have:=h fun e=>if e=t.1 then 1 else 0;rw [hp.head0,zby]at this;exact absurd this (hp.nz t qq)
 | t::p,u::q,hp,hq,h=>by
  have key:t.1=u.1:=by
   by_cases c:t.1=u.1
   ·exact c
   ·exfalso
    rcases zdK c with z | z
    ·have:=h fun e=>if e=t.1 then 1 else 0
     rw [hp.head0,zik]at this
     ·exact hp.nz t qq this
     ·intro w hw e
      rcases qw.mp hw with rfl | hw
      ·exact c e.symm
      ·have:=zcD z ((List.pairwise_cons.mp hq.st).1 w hw)
       rw [e,zd3]at this;cases this
    ·have:=h fun e=>if e=u.1 then 1 else 0
     rw [hq.head0,zik]at this
     ·exact hq.nz u qq this.symm
     ·intro w hw e
      rcases qw.mp hw with rfl | hw
      ·exact c e
      ·have:=zcD z ((List.pairwise_cons.mp hp.st).1 w hw)
       rw [e,zd3]at this;cases this
  have val:t.2=u.2:=by
   have:=h fun e=>if e=t.1 then 1 else 0;rw [hp.head0,key,hq.head0]at this;exact this
  have tl:∀ g,lin p g=lin q g:=fun g=>by
   have:=h g;rw [zS,zS,key,val]at this;grind
  rw [zlx hp.tail hq.tail tl,Prod.ext key val]
def nz(p:Pq Rat):Pq Rat:=p.filter fun t=>decide (t.2≠0)
theorem zpG{p:Pq Rat}(h:NdK p):NdK (nz p):=h.sublist (List.filter_sublist.map _)
theorem nd0:NdK ([]:Pq Rat):=List.nodup_nil
def PB(M B:Nat)(p:Pq Rat):Prop:=∀ t∈p,Bd M B t.2
theorem zfb{M B:Nat}{p:Pq Rat}(h:PB M B p)(k:List Int):Bd M B ((look p k).getD 0):=by
 cases e:look p k with
 | none=>exact Bd.zero
 | some x=>exact h _ (zte e)
theorem zn9{M B:Nat}(ts:Pq Rat):∀ {C:Nat} {acc:Pq Rat},PB M C acc->PB M B ts->PB M (C+ts.length * B) (gat acc ts):=by
 induction ts with
 | nil=>intro C acc h _ t ht; exact(h t ht).le (by rw [List.length_nil]; omega)
 | cons t ts ih =>
  intro C acc h h' u hu;have hp:PB M (C+B) (za4 acc t.1 ((look acc t.1).getD 0+t.2)):=fun v hv=>by
   rcases zpD hv with ⟨z,_⟩ | rfl
   ·exact(h v z).le (by omega)
   ·exact(zfb h _).add (h' t qq)
  exact(ih hp (fun v hv=>h' v (qp _ hv)) u hu).le (by rw [qv,Nat.add_mul]; omega)
theorem pb0{M B:Nat}:PB M B []:=fun t ht=>by cases ht
def zaT(a b:List Int):List Int:=List.zipWith (·+·) a b
def zaD{α:Type}[Mul α](p q:Pq α):Pq α:=p.flatMap fun s=>q.map fun t=>(zaT s.1 t.1,s.2 * t.2)
theorem ztg(s:List Int×Rat)(q:Pq Rat)(g:List Int->Rat):lin (q.map fun t=>(zaT s.1 t.1,s.2 * t.2)) g=s.2 * lin q fun b=>g (zaT s.1 b):=by
 induction q with
 | nil=>rw [List.map_nil,zby,zby,Rat.mul_zero]
 | cons t q ih=>rw [List.map_cons,zS,zS,ih]; grind
theorem zpH(p q:Pq Rat)(g:List Int->Rat):lin (zaD p q) g=lin p fun a=>lin q fun b=>g (zaT a b):=by
 induction p with
 | nil=>rfl
 | cons s p ih =>
  show lin (_++zaD p q) g=_;rw [zpF,ztg,ih,zS]
theorem zqI{p:Pq Rat}{g h:List Int->Rat}(e:∀ t∈p,g t.1=h t.1):lin p g=lin p h:=by
 induction p with
 | nil=>rfl
 | cons t p ih=>rw [zS,zS,e t qq,ih fun u hu=>e u (qp _ hu)]
theorem zgF{α:Type}[Mul α](p q:Pq α):(zaD p q).length=p.length * q.length:=by
 induction p with
 | nil=>simp [zaD]
 | cons s p ih =>
  show(_++zaD p q).length=_;rw [qu,ih,List.length_map,qv,Nat.add_mul,Nat.one_mul,Nat.add_comm]
theorem zly{α:Type}[Mul α]{p q:Pq α}{t:List Int×α}(h:t∈zaD p q):∃ u∈p,∃ v∈q,t=(zaT u.1 v.1,u.2 * v.2):=by
 obtain⟨u,hu,h⟩:=List.mem_flatMap.mp h;obtain⟨v,hv,rfl⟩:=List.mem_map.mp h;exact⟨u,hu,v,hv,rfl⟩
theorem zvO{M N B C:Nat}{p q:Pq Rat}(h:PB M B p)(h':PB N C q):PB (M * N) (B * C) (zaD p q):=fun t ht=>by
 obtain⟨u,hu,v,hv,rfl⟩:=zly ht;exact(h u hu).mul (h' v hv)
def toR(c:Int)(p:Pq Int):Pq Rat:=p.map fun t=>(t.1,Rat.divInt t.2 c)
theorem zth{α β:Type}(φ:α->β)(p:Pq α)(k:List Int):look (p.map fun t=>(t.1,φ t.2)) k=(look p k).map φ:=by
 unfold look
 induction p with
 | nil=>rfl
 | cons t p ih =>
  rw [List.map_cons,List.find?_cons,List.find?_cons]
  by_cases h:t.1=k
  ·rw [decide_eq_true h]; rfl
  ·rw [decide_eq_false h]; exact ih
theorem zvP{α β:Type}(φ:α->β)(p:Pq α)(k:List Int)(x:α):(za4 p k x).map (fun t=>(t.1,φ t.2))=za4 (p.map fun t=>(t.1,φ t.2)) k (φ x):=by
 have any:((p.map fun t=>(t.1,φ t.2)).any fun t=>decide (t.1=k))=(p.any fun t=>decide (t.1=k)):=by rw [List.any_map]; rfl
 unfold za4;rw [any];split
 ·rw [List.map_map,List.map_map]
  refine List.map_congr_left fun t _=>?_;show(fun t:List Int×α=>(t.1,φ t.2)) (if t.1=k then(t.1,x)else t)=if t.1=k then(t.1,φ x)else(t.1,φ t.2);split<;>rfl
 ·rw [List.map_append]; rfl
theorem zpI{α β:Type}[Add α][Zero α][Add β][Zero β](φ:α->β)(h0:φ 0=0)(ha:∀ a b,φ (a+b)=φ a+φ b)(ts:Pq α):∀ acc:Pq α,(gat acc ts).map (fun t=>(t.1,φ t.2))=gat (acc.map fun t=>(t.1,φ t.2)) (ts.map fun t=>(t.1,φ t.2)):=by
 induction ts with
 | nil=>intro acc; rfl
 | cons t ts ih =>
  intro acc;show(gat (za4 acc t.1 _) ts).map _=gat (za4 _ t.1 _) _;rw [ih,zvP,ha,zth];cases look acc t.1 with
  | none=>rw [Option.getD_none,h0]; rfl
  | some x=>rfl
theorem zvQ{c:Int}(hc:c≠0)(ts:Pq Int):toR c (gat [] ts)=gat [] (toR c ts):=zpI (fun k=>Rat.divInt k c) (Rat.zero_divInt c) (fun a b=>by
 rw [Rat.divInt_eq_div,Rat.divInt_eq_div,Rat.divInt_eq_div,Rat.intCast_add,Rat.div_def,Rat.div_def,Rat.div_def,Rat.add_mul]) ts []
theorem zzg{c:Int}(hc:c≠0)(p:Pq Int):nz (toR c p)=toR c (p.filter fun t=>!decide (t.2=0)):=by
 unfold nz toR;rw [List.filter_map];congr 1;refine List.filter_congr fun t _=>?_;show decide (Rat.divInt t.2 c≠0)=!decide (t.2=0);rw [Bool.eq_iff_iff,Bool.not_eq_true',decide_eq_false_iff_not,decide_eq_true_iff];refine not_congr ⟨fun h=>?_,fun h=>by rw [h]; exact Rat.zero_divInt c⟩;rw [<-Rat.zero_divInt c,Rat.divInt_eq_divInt_iff hc hc]at h;rcases Int.mul_eq_zero.mp (show t.2 * c=0 by omega)with z | z
 ·exact z
 ·exact absurd z hc
def iv(m:Nat)(r:Rat):Int:=r.num * ((m:Int) / (r.den:Int))
theorem Bd.dvd{M B:Nat}{r:Rat}(h:Bd M B r):r.den∣M:=by
 obtain⟨k,e,b⟩:=h;have e2:r.num * (M:Int)=k * (r.den:Int):=by
  have h1:=zi7 r;have h2:((r.num * (M:Int):Int):Rat)=((k * (r.den:Int):Int):Rat):=by
   rw [Rat.intCast_mul,Rat.intCast_mul,<-h1,<-e,Rat.intCast_natCast,Rat.intCast_natCast,Rat.mul_assoc,Rat.mul_assoc,Rat.mul_comm (r.den:Rat)]
  exact Rat.intCast_inj.mp h2
 have t:(r.den:Int)∣r.num * (M:Int):=⟨k,by rw [e2,Int.mul_comm]⟩;have u:=Int.dvd_gcd_mul_iff_dvd_mul.mpr t;rw [Int.gcd_comm,cop]at u;have u:(r.den:Int)∣(M:Int):=by simpa using u
 exact Int.natCast_dvd_natCast.mp u
def pwD(ks:List Int):D:=.tuple (ks.map PyData.int)
abbrev kL(ks:List Int):List Key:=ks.map Sum.inl
section
variable {α:Type} {c:α->D}
def kvG(c:α->D)(p:Pq α):List (List Key×D):=p.map fun t=>(kL t.1,c t.2)
def dcG(c:α->D)(p:Pq α):List (D×D):=p.map fun t=>(pwD t.1,c t.2)
def tmG(c:α->D)(p:Pq α):List D:=p.map fun t=>.tuple [pwD t.1,c t.2]
theorem zhg(p:Pq α):tmG c p=p.map fun t=>.tuple [pwD t.1,c t.2]:=rfl
theorem zhh{a b:List Int}:kL a=kL b↔a=b:=zk8
theorem zoa(k:List Int):kTD (kL k)=pwD k:=by
 unfold kTD pwD kL;rw [List.map_map];rfl
theorem zc0(k:List Int):zaZ (pwD k)=some (kL k):=by rw [<-zoa,zgx]
theorem zob(p:Pq α):(kvG c p).map (fun p=>(kTD p.1,p.2))=dcG c p:=by
 unfold kvG dcG;rw [List.map_map];refine List.map_congr_left fun t _=>?_;show(kTD (kL t.1),c t.2)=_;rw [zoa]
theorem zcg{p:Pq α}:U.fz (.t (kvG c p))=some (.dict (dcG c p)):=by
 show some (PyData.dict _)=_;rw [zob]
theorem zlz(p:Pq α):noX (dcG c p)=true:=by
 cases p with
 | nil=>rfl
 | cons t p=>rfl
theorem zvR(p:Pq α)(k:List Int):znW (kvG c p) (kL k)=(look p k).map c:=by
 unfold znW kvG look
 induction p with
 | nil=>rfl
 | cons t p ih =>
  rw [List.map_cons,List.find?_cons,List.find?_cons]
  by_cases h:t.1=k
  ·rw [decide_eq_true h,decide_eq_true (zhh.mpr h)]; rfl
  ·rw [decide_eq_false h,decide_eq_false (fun z=>h (zhh.mp z))]; exact ih
theorem zti(p:Pq α)(k:List Int):zkq (dcG c p) (kL k)=(look p k).map c:=by
 unfold zkq dcG look
 induction p with
 | nil=>rfl
 | cons t p ih =>
  rw [List.map_cons,List.find?_cons,List.find?_cons]
  by_cases h:t.1=k
  ·rw [decide_eq_true h,decide_eq_true (show zaZ (pwD t.1)=some (kL k) by rw [zc0,h])]; rfl
  ·rw [decide_eq_false h,decide_eq_false (show ¬zaZ (pwD t.1)=some (kL k) by rw [zc0]; exact fun z=>h (zhh.mp (qy z)))]; exact ih
theorem zpJ{p:Pq α}{k:List Int}:zjQ (.t (kvG c p)) (.d (pwD k))=some ((look p k).map c):=by
 show(zaZ (pwD k)).map _=_;rw [zc0,Option.map_some,zvR]
theorem zpK{p:Pq α}{k:List Int}:zjQ (.d (.dict (dcG c p))) (.d (pwD k))=some ((look p k).map c):=by
 show(if noX (dcG c p)=true then _ else _)=_;rw [if_pos (zlz p)];show(zaZ (pwD k)).map _=_;rw [zc0,Option.map_some,zti]
theorem ztj{p:Pq α}:noX (dcG c p)=true:=zlz p
theorem ztk{p:Pq α}:(dcG c p).map (fun x=>x.1)=p.map fun t=>pwD t.1:=by
 unfold dcG;rw [List.map_map];rfl
theorem zmQ{k:List Int}:zaZ (pwD k)=some (kL k):=zc0 k
theorem zoc(p:Pq α)(k:List Int)(x:α):zhd (kvG c p) (kL k) (c x)=kvG c (za4 p k x):=by
 have any:((kvG c p).any fun kv=>decide (kv.1=kL k))=(p.any fun t=>decide (t.1=k)):=by
  unfold kvG;rw [List.any_map];congr 1
  funext t
  exact decide_eq_decide.mpr zhh
 unfold zhd za4;rw [any];split
 ·unfold kvG
  rw [List.map_map,List.map_map];refine List.map_congr_left fun t _=>?_;show(if kL t.1=kL k then _ else _)=(fun t:List Int×α=>(kL t.1,c t.2)) (if t.1=k then(t.1,x)else t)
  by_cases h:t.1=k
  ·rw [if_pos (zhh.mpr h),if_pos h]
  ·rw [if_neg (fun z=>h (zhh.mp z)),if_neg h]
 ·unfold kvG
  rw [List.map_append];rfl
theorem ztl(p:Pq α):(kvG c p).length=p.length:=List.length_map ..
theorem zod{p:Pq α}{k:List Int}{x:α}(h:p.length < 16777216):zmy (.t (kvG c p)) (pwD k) (c x)=some (.t (kvG c (za4 p k x))):=by
 show(zaZ (pwD k)).bind _=_;rw [zc0,bd,if_pos (by rw [ztl]; exact h),zoc]
theorem zkB{p:Pq α}:zdD (.d (.dict (dcG c p)))=some (tmG c p):=by
 show(if noX (dcG c p)=true then _ else _)=_;rw [if_pos (zlz p)];unfold dcG tmG;rw [List.map_map];rfl
theorem ztm:∀ p:Pq α,zmJ (dcG c p)=some (kvG c p)
 | []=>rfl
 | t::p=>by
  show(zaZ (pwD t.1)).bind _=_;rw [zc0,bd];show(zmJ (dcG c p)).bind _=_;rw [ztm p,bd];rfl
theorem ztn(p:Pq α):(kvG c p).map (·.1)=(p.map (·.1)).map kL:=by
 unfold kvG;rw [List.map_map,List.map_map];rfl
def zto(p:Pq α):Prop:=zgd ((p.map (·.1)).map kL)=true
theorem zxg{p:Pq α}(h:zto p):zgD (.t (kvG c p))=some (.t (kvG c p)):=by
 show(if _ then _ else _)=_;rw [if_pos (by rw [ztn]; exact h)]
theorem ztp(k:List Int)(d:D):pk (.tuple [pwD k,d])=some k:=zkw k
theorem ztq:∀ p:Pq α,pks (tmG c p)=some (p.map (·.1))
 | []=>rfl
 | t::p=>by
  show(pk (.tuple [pwD t.1,c t.2])).bind _=_;rw [ztp,bd];show(pks (tmG c p)).bind _=_;rw [ztq p];rfl
theorem ztr{p:Pq α}(nd:NdK p)(hl:p.length < 64):zln (.l (tmG c p))=some (.l (tmG c (srt p))):=by
 have e:zo0 (tmG c p)=tmG c (srt p):=zmq ((zaS p).map _) (List.pairwise_map.mpr ((zdP nd).imp fun{a b} h=>⟨_,_,ztp a.1 _,ztp b.1 _,h⟩));show(some _).bind _=_;rw [bd,ztq,bd,if_pos ⟨by unfold tmG; rw [List.length_map]; exact hl,nd⟩,e]
end
theorem zxh{r:Rat}:zac (.d (fR r)) (.d (.int 0))=some (.d (.int r.num)):=rfl
theorem zxi{r:Rat}:zac (.d (fR r)) (.d (.int 1))=some (.d (.int (r.den:Int))):=rfl
theorem zts(r:Rat):(!decide (r.num=0))=decide (r≠0):=by
 rw [Bool.eq_iff_iff,Bool.not_eq_true',decide_eq_false_iff_not,decide_eq_true_iff];exact not_congr Rat.num_eq_zero
theorem zmR{α β:Type}{f:α->D}{g:β->D}:∀ (as:List α) (bs:List β),zjR (as.map f) (bs.map g)=(as.zip bs).map fun t=>.tuple [f t.1,g t.2]
 | [],bs=>by cases bs<;>rfl
 | a::as,[]=>rfl
 | a::as,b::bs=>by rw [List.map_cons,List.map_cons,List.zip_cons_cons,List.map_cons,<-zmR as bs]; rfl
theorem zlA{α:Type}{f:α->D}{as:List α}{ks:List Int}(h:as.length=ks.length):zs6 [.d (.tuple (as.map f)),.d (pwD ks)]=some ((as.zip ks).map fun t=>.tuple [f t.1,.int t.2]):=by
 show(if _ then _ else _)=_;rw [if_pos (by rw [List.length_map,List.length_map]; exact h),zmR]
theorem zgG{as ks:List Int}(h:as.length=ks.length):zs6 [.d (pwD as),.d (pwD ks)]=some ((as.zip ks).map fun t=>.tuple [.int t.1,.int t.2]):=zlA (f:=PyData.int) h
theorem zeO{α:Type}{g:α->D}{nt:Nat}{e:α->D}{as:List α}{mg:MG}{mt:MT}{me:ME}{ρ:En}{Q:List D×En->Prop}(hz:as.length<=16777216)
  (st:∀ a∈as,∀ ys,Wo (mg (g a) ρ) (Co mt ⟨0⟩ (kLC nt me ys fun ρ' zs=>ρ'=ρ/\zs=ys++[e a]))) (q:Q (as.map e,ρ)):Wo (lcM nt mg mt me (as.map g) ρ []) Q:=by
 refine zzc (b:=fun _=>true) (e:=e) (by rw [zn4]; exact hz) (fun a ha ys=>?_) ?_
 ·simp only [if_true]
  exact st a ha ys
 ·rw [show as.filter (fun _=>true)=as from List.filter_eq_self.mpr fun _ _=>rfl]
  exact q
theorem ztt:PyData.tuple [.int 1,.int 1]=fR 1:=rfl
theorem ztu{o:Option Rat}:(Option.map fR o).getD (.tuple [.int 0,.int 1])=fR (o.getD 0):=by cases o<;>rfl
theorem zqJ{α:Type}[Mul α](p q:Pq α)(s:List Int×α):zaD (p++[s]) q=zaD p q++q.map fun t=>(zaT s.1 t.1,s.2 * t.2):=by
 unfold zaD;rw [List.flatMap_append];simp
def psg(s:Int)(q:Pq Rat):Pq Rat:=q.map fun t=>(t.1,(s:Rat) * t.2)
theorem zzh{s:Int}(hs:s=1\/s=-1)(r:Rat):PyData.tuple [.int (s * r.num),.int (r.den:Int)]=fR ((s:Rat) * r):=by
 rcases hs with rfl | rfl
 ·rw [Int.one_mul,show((1:Int):Rat)=1 from rfl,Rat.one_mul]; rfl
 ·rw [show((-1:Int):Rat)=-1 from rfl,Rat.neg_mul,Rat.one_mul,Int.neg_mul,Int.one_mul]; rfl
theorem ztv{M B:Nat}{s:Int}(hs:s=1\/s=-1){q:Pq Rat}(h:PB M B q):PB M B (psg s q):=fun t ht=>by
 obtain⟨u,hu,rfl⟩:=List.mem_map.mp ht;rcases hs with rfl | rfl
 ·show Bd M B (((1:Int):Rat) * u.2)
  rw [show((1:Int):Rat)=1 from rfl,Rat.one_mul];exact h u hu
 ·show Bd M B (((-1:Int):Rat) * u.2)
  rw [show((-1:Int):Rat)=-1 from rfl,Rat.neg_mul,Rat.one_mul];exact(h u hu).neg
theorem zpL(q:Pq Rat):psg 1 q=q:=by
 unfold psg;have:∀ t∈q,(fun t:List Int×Rat=>(t.1,((1:Int):Rat) * t.2)) t=id t:=fun t _=>by
  show(t.1,((1:Int):Rat) * t.2)=t;rw [show((1:Int):Rat)=1 from rfl,Rat.one_mul]
 rw [List.map_congr_left this,List.map_id]
theorem zkC{α:Type}{p:Pq α}{k:List Int}{x:α}(h:∀ t∈p,t.1≠k):za4 p k x=p++[(k,x)]:=by
 unfold za4;rw [if_neg];intro z;obtain⟨t,ht,e⟩:=List.any_eq_true.mp z;exact h t ht (of_decide_eq_true e)
theorem zmS{α:Type}{bs cs:Pq α}{t:List Int×α}(nd:NdK (bs++t::cs)):∀ u∈bs,u.1≠t.1:=fun u hu e=>by
 unfold NdK at nd;rw [List.map_append,List.map_cons]at nd;exact(List.nodup_append.mp nd).2.2 u.1 (List.mem_map.mpr ⟨u,hu,rfl⟩) t.1 qq e
theorem zpM(bs:Pq Rat)(t:List Int×Rat):nz (bs++[t])=if t.2=0 then nz bs else nz bs++[t]:=by
 unfold nz;rw [List.filter_append,List.filter_cons]
 by_cases h:t.2=0
 ·rw [if_pos h,if_neg (by simp [h])]; simp
 ·rw [if_neg h,if_pos (by simp [h])]; rfl
theorem ztw{bs cs:Pq Rat}{t:List Int×Rat}(nd:NdK (bs++t::cs)):za4 (nz bs) t.1 t.2=nz bs++[t]:=zkC fun u hu=>zmS nd u (List.mem_filter.mp hu).1
theorem zlB{α β:Type}{f:α->β}:∀ {l:List α},(l.map f).Nodup->∀ a∈l,∀ b∈l,f a=f b->a=b
 | [],_,a,ha,_,_,_=>by cases ha
 | x::l,nd,a,ha,b,hb,e=>by
  rw [List.map_cons,List.nodup_cons]at nd;rcases qw.mp ha with h1 | h1
  ·rcases qw.mp hb with h2 | h2
   ·rw [h1,h2]
   ·exact(nd.1 (List.mem_map.mpr ⟨b,h2,by rw [<-e,h1]⟩)).elim
  ·rcases qw.mp hb with h2 | h2
   ·exact(nd.1 (List.mem_map.mpr ⟨a,h1,by rw [e,h2]⟩)).elim
   ·exact zlB nd.2 a h1 b h2 e
theorem zzi{n d:Int}{M:Nat}(hd:0 < d)(h:d∣(M:Int))(h0:0 < M):Bd M (n.natAbs * M) (Rat.divInt n d):=by
 obtain⟨c,hc⟩:=h;have c0:0 < c:=by
  rcases(by omega:0 < c\/c<=0)with z | z
  ·exact z
  ·have:=Int.mul_nonneg (Int.le_of_lt hd) (show 0<=-c by omega)
   rw [Int.mul_neg,<-hc]at this;omega
 have dr:((d:Int):Rat)≠0:=fun z=>by
  have:=Rat.intCast_inj.mp (show((d:Int):Rat)=((0:Int):Rat) from z);omega
 refine⟨n * c,?_,?_⟩
 ·have e:(M:Rat)=((d:Int):Rat) * ((c:Int):Rat):=by rw [<-Rat.intCast_mul,<-hc,Rat.intCast_natCast]
  rw [e,Rat.divInt_eq_div,Rat.intCast_mul];grind
 ·rw [Int.natAbs_mul]
  refine Nat.mul_le_mul_left _ ?_;have:1 * c<=d * c:=Int.mul_le_mul_of_nonneg_right (by omega) (by omega);omega
end L2
namespace L2
open PySem PySem.Spec PyProof.Rows
open PySem.AutoSeq1 (wpAny_loadPart')
theorem zoe(t:Addr)(items:Array Value)(n:Nat)(dd:Option Addr)(sl:Array (Option Value))(u:Tok) :
  Meets (Builtin.«tuple.__mul__» ⟨[.ref t,.int 1 u],[]⟩) (fun _ R s=>s.heap.get? t=some { cls:=.type "tuple",dict:=dd,data:=.seq items n,slots:=sl }/\R (.ok (.ret (.ref t))) s) :=
 .of_wp fun prog w A R s h=>by
  obtain⟨hp,g,d,tk,os⟩:=s;obtain⟨hl,h⟩:=h
  wp_walk using wpAny_loadPart' hl
  exact⟨_,rfl,h⟩
theorem zof(t:Addr)(items:Array Value)(n:Nat)(dd:Option Addr)(sl:Array (Option Value))(x:Int)(u:Tok)(hf:(decide (x < -2^63) || decide (x>=2^63))=false)(h1:(items.isEmpty || x==1)=false)(h0:(decide (x<=0) || items.isEmpty)=true) :
  Meets (Builtin.«tuple.__mul__» ⟨[.ref t,.int x u],[]⟩) (fun _ R s=>s.heap.get? t=some { cls:=.type "tuple",dict:=dd,data:=.seq items n,slots:=sl } /\
   R (.ok (.ret (.ref s.heap.objs.size))) { s with heap:=s.heap.push { cls:=.type "tuple",data:=.seq #[] } }) :=
 .of_wp fun prog w A R s h=>by
  obtain⟨hp,g,d,tk,os⟩:=s;obtain⟨hl,h⟩:=h
  wp_walk using wpAny_loadPart' hl
  refine wpAny_ite_false (by rw [hf]; rfl) ?_
  wp_walk using wpAny_loadPart' hl
  exact⟨_,rfl,h⟩
theorem zog(t:Addr)(items:Array Value)(n:Nat)(dd:Option Addr)(sl:Array (Option Value))(x:Int)(u:Tok)(hf:(decide (x < -2^63) || decide (x>=2^63))=false)(h1:(items.isEmpty || x==1)=false)(h0:(decide (x<=0) || items.isEmpty)=false)
  (hm:¬((items.size:Int) * x > (2^63 - 1) / 8)) (ht:Builtin.Tuple.tupleTooMany ((items.size:Int) * x)=false) (hz:(List.foldl (fun x1 x2=>x1++x2) #[] (List.replicate x.toNat items)).size<=sizeLine) :
  Meets (Builtin.«tuple.__mul__» ⟨[.ref t,.int x u],[]⟩) (fun _ R s=>s.heap.get? t=some { cls:=.type "tuple",dict:=dd,data:=.seq items n,slots:=sl } /\
   R (.ok (.ret (.ref s.heap.objs.size))) { s with heap:=s.heap.push { cls:=.type "tuple",data:=.seq (List.foldl (fun x1 x2=>x1++x2) #[] (List.replicate x.toNat items)) } }) :=
 .of_wp fun prog w A R s h=>by
  obtain⟨hp,g,d,tk,os⟩:=s;obtain⟨hl,h⟩:=h
  wp_walk using wpAny_loadPart' hl
  refine wpAny_ite_false (by rw [hf]; rfl) ?_
  wp_walk using wpAny_loadPart' hl
  refine wpAny_ite_false (decide_eq_false hm) ?_
  wp_walk using wpAny_loadPart' hl
  exact⟨_,rfl,h⟩
theorem zhi:fillsNumberSlot (.type "tuple") "mul"=pure false :=
 PySem.fillsNumberSlot_seq (id := "tuple.__mul__") (r:=some (.builtin "tuple.__rmul__")) F.slot_tuple_mul.lookup (by decide +kernel) F.slot_tuple_rmul.lookup (by decide +kernel)
theorem zlC:seqRepeat? (.type "tuple")=pure (some (.builtin "tuple.__mul__")):=by
 unfold seqRepeat?;rw [PySem.seqSlot_of (T := "tuple") (name := "__mul__") (id := "tuple.__mul__") F.slot_tuple_mul.lookup (by decide +kernel),PySem.seqSlot_of (T := "tuple") (name := "__rmul__") (id := "tuple.__rmul__") F.slot_tuple_rmul.lookup (by decide +kernel)];rfl
theorem zja(a:Int)(t:Tok)(l:Addr)(items:Array Value)(n:Nat)(dd:Option Addr)(sl:Array (Option Value)) :
  Meets (Builtin.«int.__rmul__» ⟨[.int a t,.ref l],[]⟩) (fun _ R s=>s.heap.get? l=some { cls:=.type "tuple",dict:=dd,data:=.seq items n,slots:=sl }/\R (.ok (.ret Value.notImplemented)) s) :=
 .of_wp fun prog w A R s h=>by obtain⟨hp,g,d,tk,os⟩:=s; obtain⟨hl,h⟩:=h; wp_walk; exact⟨_,rfl,h⟩
section
variable {X:Cx}
def zxj(K:qe):R2:=fun x y H Q=>∃ l k xs,x=.ref l/\y=.int k/\SqT K H l xs/\xs≠[]/\k < 1000000/\-1000000 < k/\xs.length * k.toNat<=1000000 /\
 ((k=1/\Q x H)\/(k≠1/\∀ p,H p=none->Q (.ref p) (upd H p (.tup (List.replicate k.toNat xs).flatten))))
theorem zfc(K:qe)(hK:X.K=K:=by rfl):OpR X (binaryOp .Mult) (zxj K):=by
 subst hK;intro pins s σ H x y v u Q I rx ry h;obtain⟨l,k,xs,rfl,rfl,hq,hne,hk,hk0,hz,q⟩:=h;cases rx;obtain⟨t,rfl⟩:=ry;obtain⟨its,rv,ht,hzz⟩:=I.tuple hq;obtain⟨⟨c,dct,dt,sl⟩,hl,hc,n,hd⟩:=ht;replace hc:c=.type "tuple":=hc;replace hd:dt=.seq its.toArray n:=hd;subst hc hd;have lv:=rv.length;have ine:its.toArray.isEmpty=false:=by
  cases its with
  | nil=>cases rv; exact absurd rfl hne
  | cons a r=>rfl
 have hf:(decide (k < -2^63) || decide (k>=2^63))=false:=by
  rw [Bool.or_eq_false_iff];exact⟨decide_eq_false (by omega),decide_eq_false (by omega)⟩
 have f0:List.foldl (fun x1 x2=>x1++x2) #[] (List.replicate k.toNat its.toArray)=(List.replicate k.toNat its).flatten.toArray:=by
  have:=zkf its k.toNat [];rw [List.nil_append]at this;exact this
 have ln:(List.replicate k.toNat xs).flatten.length<=sizeLine:=by
  rw [zoL,Nat.mul_comm];have:sizeLine=16777216:=zn4;omega
 refine wpAny_binaryOp_repeat_ref (T := "tuple") (U := "int") (by decide) ⟨_,hl,rfl⟩ (fun s'=>typeIs_int s' k t) zhi F.fills_int_mul F.slot_int_rmul zlC F.slot_int_index.lookup
  (call_meets F.slot_int_rmul (typeIs_int s k t) F.entry_int_rmul (F.args_int_rmul_2 _ _) (zja k t l its.toArray n dct sl) ⟨hl,rfl,⟨_,hl,rfl⟩,?_⟩)
 rcases q with ⟨rfl,q⟩ | ⟨k1,q⟩
 ·exact call_meets F.slot_tuple_mul ⟨_,hl,rfl⟩ F.entry_tuple_mul (F.args_tuple_mul_2 _ _) (zoe l its.toArray n dct sl t) ⟨hl,.ref l,H,I,rfl,q⟩
 ·have h1:(its.toArray.isEmpty || k==1)=false:=by rw [ine,Bool.false_or]; simpa using k1
  by_cases k0:k<=0
  ·refine call_meets F.slot_tuple_mul ⟨_,hl,rfl⟩ F.entry_tuple_mul (F.args_tuple_mul_2 _ _) (zof l its.toArray n dct sl k t hf h1 (by rw [decide_eq_true k0]; rfl)) ⟨hl,.ref _,_,I.laid (t':=s.toks) (o:=.tup []) (fun _ _ q=>qf _ q) (qg _) ⟨Nat.zero_le _,[],.nil,_,qi _ rfl,rfl,⟨_,rfl⟩,.inl rfl⟩,rfl,?_⟩
   have:=q _ I.fresh;rw [show k.toNat=0 by omega]at this;exact this
  ·have m63:(its.toArray.size:Int) * k<=1000000:=by
    have e1:(its.toArray.size:Int)=(xs.length:Int):=by rw [List.size_toArray,lv]
    have e2:k=(k.toNat:Int):=by omega
    rw [e1,e2,<-Int.natCast_mul];omega
   refine call_meets F.slot_tuple_mul ⟨_,hl,rfl⟩ F.entry_tuple_mul (F.args_tuple_mul_2 _ _) (zog l its.toArray n dct sl k t hf h1 (by rw [decide_eq_false k0,ine]; rfl) (by omega) (decide_eq_false (by rw [show((sizeLine:Nat):Int)=16777216 by rw [zn4]; rfl]; omega)) ?_) ⟨hl,.ref _,_,I.laid (t':=s.toks) (o:=.tup (List.replicate k.toNat xs).flatten) (fun _ _ q=>qf _ q) (qg _) ⟨ln,(List.replicate k.toNat its).flatten,rv.rep k.toNat,_,qi _ rfl,rfl,⟨0,?_⟩,.inl rfl⟩,rfl,q _ I.fresh⟩
   ·rw [f0,List.size_toArray,zoL,Nat.mul_comm]
    have:sizeLine=16777216:=zn4;rw [<-lv];omega
   ·show Data.seq (List.foldl (fun x1 x2=>x1++x2) #[] (List.replicate k.toNat its.toArray)) _=_
    rw [f0]
end
def zfw:U->U->Option U
 | .d (.tuple xs),.d (.int k)=>if xs≠[]/\k < 1000000/\-1000000 < k/\xs.length * k.toNat<=1000000 then some (.d (.tuple (List.replicate k.toNat xs).flatten))else none
 | _,_=>none
theorem zpN{K:qe}{H:Hp}{vs:List V}{ds:List D}(h:DFs K H vs ds):∀ n:Nat,DFs K H (List.replicate n vs).flatten (List.replicate n ds).flatten
 | 0=>.nil
 | n+1=>by
  rw [List.replicate_succ,List.replicate_succ,List.flatten_cons,List.flatten_cons];exact h.app (zpN h n)
theorem zfd{K:qe}:VO K (zxj K) zfw:=by
 intro x y a b u H Q ha hb e q;unfold zfw at e;split at e
 ·split at e
  rotate_left
  ·cases e
  rename_i xs k hc;cases e;obtain⟨l,vs,rfl,h1,h2⟩:=DF.tup_inv ha;cases DF.int_inv hb;have ln:=h2.len;refine⟨l,k,vs,rfl,rfl,(TpK.sq h1),fun z=>hc.1 (List.eq_nil_of_length_eq_zero (by rw [<-ln,z]; rfl)),hc.2.1,hc.2.2.1,by rw [ln]; exact hc.2.2.2,?_⟩
  by_cases k1:k=1
  ·subst k1
   refine .inl ⟨rfl,q _ _ (fun _ _ z=>z) ?_ Nw.data⟩;have e:(List.replicate (1:Int).toNat xs).flatten=xs:=by simp
   rw [e];exact DF.tup h1 h2
  ·refine .inr ⟨k1,fun p hp=>?_⟩
   have sm:=zag hp (.tup (List.replicate k.toNat vs).flatten);exact q _ _ sm (.tup (.inl zD) ((zpN h2 _).kp sm.kp)) Nw.data
 ·cases e
theorem zlD{xs:List D}{k:Int}(h:0 < xs.length)(h2:k < 1000)(h3:-1000 < k)(h4:xs.length < 1000):zfw (.d (.tuple xs)) (.d (.int k))=some (.d (.tuple (List.replicate k.toNat xs).flatten)):=by
 show(if _ then _ else _)=_;rw [if_pos ⟨fun z=>by rw [z]at h; exact Nat.lt_irrefl _ h,by omega,by omega,qA (Nat.mul_le_mul (Nat.le_of_lt h4) (show k.toNat<=1000 by omega)) (by decide)⟩]
end L2
namespace L2
open PySem PySem.Spec PyProof.Rows
def zoh(K:qe)(tk tv:TE):TE:=fun σ H Q=>∀ p,H p=none->tk σ (upd H p (.dT [])) fun x H1=>tv σ H1 fun y H2=>H2 p=some (.dT [])/\∃ k b,x=.ref b/\TpK K H2 b (k.map kV)/\Q (.ref p) (upd H2 p (.dT [(k,y)]))
theorem ztx{X:Cx}{pos:Pos}{k v:Expr}{tk tv:TE}(hu:X.A.units+1 < cLine)(hk:PE X k tk)(hv:PE X v tv):PE X (.Dict [some k] [v] pos) (zoh X.K tk tv):=by
 intro pins s σ H Q I q;have hn:=I.hok.fresh (qg s.heap.objs.size);have I1:=I.laid (a:=s.heap.objs.size) (o:=.dT []) (h':=s.heap.push { cls:=.type "dict",data:=.dict #[] }) (t':=s.toks) (fun _ _ q=>qf _ q) (qg _) (ziC s.heap I.big);refine wpAny_Dict_any rfl rfl (by simp) (by show 1<=15; decide) (pairTrees_cons_walk (thn (hk pins _ σ _ _ I1 (q _ hn)) fun u s1 ⟨x,H1,I1,rx,q1⟩=>thn (hv pins s1 σ H1 _ I1 q1) fun w2 s2 ⟨y,H2,I2,ry,e,ks,b,ex,eb,q2⟩=>pairTrees_nil_walk ?_));subst ex;cases rx;unfold storeAll;rw [List.forIn_cons];obtain⟨z,hd,xs,rel,dd⟩:=zrr I2.kIn I2.hok e;cases rel;refine qc (qc (wpAny_dictSet_heap (hsz:=Nat.zero_le _) (show X.A.units < cLine from Nat.lt_of_succ_lt hu) (zfZ I2.kIn I2.hok eb) dd fun h' dd' hs=>qd ?_));dsimp only;rw [List.forIn_nil];refine qd ?_;obtain⟨q',es,ep,hq,h2,h3,h4,_,h5⟩:=dd';refine⟨.ref s.heap.objs.size,_,zh9 (ob:=.dT [(ks,y)]) I2 (by rw [e]; exact True.intro) hs ⟨q',hq⟩ ⟨by show 1<=sizeLine; decide,hd,_,(KT.put (kvs:=[]) .nil ks eb ry).keeps fun c ys ec=>?_,q',es,ep,hq,h2,h3,h4,h5⟩,rfl,q2⟩;rw [zI (zgj ec e (fun z=>nomatch z))];exact ec
theorem zil{X:Cx}{pos:Pos}{k v:Expr}{tk tv:TE}{n:Nat}(hr:Room n X.A)(hk:Wr (PE X k tk))(hv:Wr (PE X v tv)):Wr (PE X (.Dict [some k] [v] pos) (zoh X.K tk tv)):=⟨ztx (zl5 hr) hk.run hv.run⟩
section
variable {K:qe} {ρ ρ1 ρ':En} {σ:St} {H H':Hp}
theorem Rs.free{p:Addr}{c o:HO}(r:Rs K ρ σ H)(hc:H p=some c)(m:Mo c)(n:¬Ow ρ σ p):Rs K ρ σ (upd H p o):=by
 have kp:=zcp hc m o;refine⟨r.len,fun i u e=>?_,r.apart⟩;obtain⟨v,ev,q⟩:=r.rep i u e;refine⟨v,ev,q.kp kp fun ou a c' ea ha=>?_⟩;have ne:a≠p:=by
  rintro rfl;exact n ⟨i,u,e,ou,by rw [ev,ea]⟩
 rw [zI ne];exact ha
theorem Go.free{p:Addr}{c o:HO}(g:Go K ρ σ H ρ' H')(hp:H p=none)(hc:H' p=some c)(m:Mo c)(n:¬Ow ρ' σ p):Go K ρ σ H ρ' (upd H' p o):=by
 refine⟨g.rs.free hc m n,fun a ob ha hn=>?_,g.shr,fun a ha=>?_⟩
 ·have ne:a≠p:=by
   rintro rfl;rw [hp]at ha;cases ha
  rw [zI ne];exact g.fr a ob ha hn
 ·by_cases e:a=p
  ·subst e
   exact hp
  ·rw [zI e]at ha
   exact g.dm a ha
def zhj(mk mv:ME):ME:=fun ρ=>(mk ρ).bind fun p=>(mv p.2).bind fun q=>(p.1.get q.2).bind fun k=>(q.1.get q.2).bind fun v=>k.da.bind fun k=>v.da.bind fun v=>(zaZ k).bind fun k=>some (.u (.t [(k,v)]),q.2)
theorem zim{w:U}{x:D}(h:w.da=some x):w=.d x:=by
 cases w<;>first | (cases h; rfl) | cases h
theorem zin{tk tv:TE}{mk mv:ME}(hk:VE K tk mk)(hv:VE K tv mv):VE K (zoh K tk tv) (zhj mk mv):=by
 intro ρ σ H a ρ' Q r e q;obtain⟨⟨a1,ρ1⟩,e1,e⟩:=bQ e;obtain⟨⟨b1,ρ2⟩,e2,e⟩:=bQ e;obtain⟨uk,ek,e⟩:=bQ e;obtain⟨uv,ev,e⟩:=bQ e;obtain⟨dk,edk,e⟩:=bQ e;obtain⟨dv,edv,e⟩:=bQ e;obtain⟨ks,eks,e⟩:=bQ e;cases e;cases zim edk;cases zim edv;intro p hp;have sm:=zag hp (.dT []);have g0:=Go.grow r sm;have n0:¬Ow ρ σ p:=fun z=>by
  obtain⟨c,hc,_⟩:=r.ow z;rw [hp]at hc;cases hc
 refine hk ρ σ (upd H p (.dT [])) a1 ρ1 _ g0.rs e1 fun x H1 g1 k1=>hv ρ1 σ H1 b1 _ _ g1.rs e2 fun y H2 g2 k2=>?_;have n1:¬Ow ρ1 σ p:=fun z=>n0 (g1.shr.ow z);have n2:¬Ow ρ2 σ p:=fun z=>n1 (g2.shr.ow z);have hp2:H2 p=some (.dT []):=g2.fr p _ (g1.fr p _ zD n0) n1;have pk:=k1.later g0.rs g1 g2 ek;have pv:=k2.now g1.rs g2 ev;obtain⟨b,rfl,hb⟩:=zgy pk eks;have kp:=zcp hp2 trivial (.dT [(ks,y)]);refine⟨hp2,ks,b,rfl,hb,q _ _ (((g0.trans g1).trans g2).free hp hp2 trivial n2) ⟨⟨p,[(ks,y)],rfl,zD,.cons ⟨rfl,DF.kp kp pv⟩ .nil⟩,fun _=>⟨p,rfl,hp⟩⟩⟩
def mLm(f:List D->List D)(i:Nat):ME:=fun ρ=>(ρ[i]?).join.bind fun w=>w.lo.bind fun xs=>some (.u (.d .none),ρ.set i (some (.l (f xs))))
theorem zvS{i:Nat}:VE K (zuW K "list" zro (zes i)) (mLm (fun _=>[]) i):=by
 intro ρ σ H a ρ' Q r e q;obtain⟨w,e0,e⟩:=bQ e;obtain⟨xs,ex,e⟩:=bQ e;cases e;cases zvH ex;obtain⟨v0,ev0,p0⟩:=r.rep i _ (join_some e0);obtain⟨l,us,rfl,hl,ds⟩:=p0;exact⟨_,ev0,.inl ⟨rfl,us,SqL.of hl⟩,l,us,rfl,rfl,hl,q _ _ (Go.own (u':=.l []) r (join_some e0) rfl ev0 ⟨l,_,rfl,zD,.nil⟩) ⟨.non,Nw.data⟩⟩
end
section
variable {X:Cx} {elts:List Expr} {k:Nat} {tpos:Pos}
end
section
variable {ρ:En} {mk mv:ME} {mA:MA} {i:Nat} {f:List D->List D} {QE:Ar×En->Prop} {QI:List D×En->Prop}
theorem zmT:Wo (zhj mk mv ρ) QE=Wo (mk ρ) (Co (fun p=>(mv p.2).bind fun q=>(p.1.get q.2).bind fun k=>(q.1.get q.2).bind fun v=>k.da.bind fun k=>v.da.bind fun v=>(zaZ k).bind fun k=>some (.u (.t [(k,v)]),q.2)) ⟨0⟩ QE):=by
 show Wo (Option.bind _ _) QE=_;rw [zt]
theorem zxk:Wo (mLm f i ρ) QE=Wo (ρ[i]?).join (Co (fun w=>w.lo.bind fun xs=>some (.u (.d .none),ρ.set i (some (.l (f xs))))) ⟨0⟩ QE):=by
 show Wo (Option.bind _ _) QE=_;rw [zt]
end
end L2
namespace L2
open PySem
def ch:Nat->Nat->Nat
 | _,0=>1
 | 0,_+1=>0
 | n+1,k+1=>ch n k+ch n (k+1)
theorem zty{a b:List Int}(h:a.length+b.length<=1000):zd9 (.d (pwD a)) (.d (pwD b))=some (.d (pwD (a++b))):=by
 have:=zls (xs:=a.map PyData.int) (ys:=b.map PyData.int) (by rw [List.length_map,List.length_map]; omega);rw [<-List.map_append]at this;exact this
theorem ztz{k:Int}:PyData.tuple [.int k]=pwD [k]:=rfl
end L2
namespace L2
open PySem PySem.Spec PyProof.Rows
open PySem.AutoSeq1 (wpAny_loadPart')
open MeetsSeq MeetsSeq2 MeetsSeq3 SeqRoads2
end L2
namespace L2
open PySem PySem.Spec PyProof.Rows
section
variable {prog:Program} {w:World} {A:Around} {E:Value->Shared->Prop} {s:Shared} {l b:Addr} {items items2:Array Value} {xs ys:List Int} {Q:Value->Shared->Prop}
end
section
variable {X:Cx} {k:Nat}
end
section
variable {K:qe}
end
section
variable {X:Cx} {a b c d:Expr} {pos:Pos} {ta tb tc td:TE}
end
section
variable {K:qe}
end
section
variable {f f' f'':U->U->Option U} {ma mb mc md:ME} {ρ:En} {QE:Ar×En->Prop}
end
end L2
namespace HT
open PySem PySem.Spec PyProof.Rows
section
variable {prog:Program} {w:World} {A:Around} {E:Value->Shared->Prop} {s:Shared}
end
end HT
namespace L2
open PySem PySem.Spec PyProof.Rows
section
variable {X:Cx} {e st:Expr} {te ts:TE} {pos p2:Pos}
end
section
variable {K:qe}
end
section
variable {K:qe}
end
section
variable {K:qe}
end
end L2
namespace L2
open PySem PySem.Calls PySem.Spec PyProof.Rows
section
variable {prog:Program} {w:World} {A:Around} {E:Value->Shared->Prop} {s:Shared}
end
section
variable {K:qe}
end
end L2
namespace L2
open PySem PySem.Spec PyProof.Rows
section
variable {X:Cx} {CX:CXT} {k:Nat} {f C:Addr} {fd:FuncData} {ps:List Str} {sp:Sp} {dvs:List V} {ds:List Value} {E:XK} {x m:Str} {p pos apos:Pos} {e o:Expr} {es:List Expr} {ta:TE} {t:TA}
end
section
variable {X:Cx} {k:Nat} {ps:List Str} {sp:Sp} {x:Str} {p pos:Pos} {e:Expr} {es:List Expr} {t:TA}
end
section
variable {K:qe} {pn:List Nat}
end
section
variable {prog:Program} {w:World} {A:Around} {E:Value->Shared->Prop} {s:Shared}
end
section
variable {X:Cx} {elts:List Expr} {k:Nat} {tpos:Pos}
end
section
variable {K:qe}
end
end L2
namespace L2
open PySem
section
variable {mA:MA} {ρ:En} {QI:List D×En->Prop}
end
end L2
namespace L2
open PySem PySem.Spec PyProof.Rows
open Classical in
def zcr(i:Nat)(ds0:List D)(mg:MG)(mb:MS):List D->En->Option Fl
 | [],ρ=>if ρ[i]?=some (some (.l ds0))then some (.nx ρ)else none
 | d::ds,ρ=>if ρ[i]?=some (some (.l ds0))then(mg d ρ).bind fun ρ1=>(mb ρ1).bind fun f=>match f with
  | .nx ρ2=>zcr i ds0 mg mb ds ρ2
  | .ct ρ2=>zcr i ds0 mg mb ds ρ2
  | .bk ρ2=>some (.nx ρ2)
  | .rt u ρ2=>some (.rt u ρ2)
  | .ex x ρ2=>some (.ex x ρ2)else none
def zjb(i:Nat)(mg:MG)(mb:MS):MS:=fun ρ=>match ρ[i]? with
 | some (some (.l ds))=>zcr i ds mg mb ds ρ
 | some (some (.d (.tuple ds)))=>zb0 mg mb ds ρ
 | _=>none
section
variable {K:qe} {pn:List Nat} {EX:EXT}
theorem zjc{i:Nat}{ds0 ds:List D}{mg:MG}{mb:MS}{ρ:En}{f:Fl}(h:zcr i ds0 mg mb ds ρ=some f):ρ[i]?=some (some (.l ds0)):=by
 cases ds with
 | nil =>
  unfold zcr at h;split at h
  ·assumption
  ·cases h
 | cons d ds =>
  unfold zcr at h;split at h
  ·assumption
  ·cases h
theorem zzj{i:Nat}{g:TG}{tb:TS}{mg:MG}{mb:MS}(hp:i∈pn)(hg:VGt K pn g mg)(hb:VS K pn EX tb mb):VS K pn EX (zuE (zvI K (zes i)) g tb) (zjb i mg mb):=by
 intro σ₀ A H₀ H₁ ρ σ H f D s e k;unfold zjb at e;split at e
 ·rename_i ds eu
  obtain⟨v,ev,p⟩:=s.rs.rep i _ eu;obtain⟨a,us,rfl,h1,h2⟩:=p;have sa:σ₀[i]?=some (some (.ref a)):=by rw [<-s.pin i hp]; exact ev
  refine⟨.ref a,ev,a,rfl,.inl ⟨⟨us,SqL.of h1⟩,?_⟩⟩;refine⟨fun j m σ' H'=>m=ds.length - j/\j<=ds.length/\∃ ρ',Sn K pn σ₀ A H₀ H ρ' σ' H'/\zcr i ds mg mb (ds.drop j) ρ'=some f,⟨ds.length,by simp,Nat.zero_le _,ρ,s.at,e⟩,?_⟩;rintro j m σ' H' ⟨rfl,hj,ρ',s',el⟩;have now:∃ us',H' a=some (.lst us')/\DFs K H' us' ds:=by
   obtain⟨v',e1,p'⟩:=s'.rs.rep i _ (zjc el);obtain⟨a',us',rfl,q1,q2⟩:=p';have:some (some (V.ref a'))=some (some (V.ref a)):=by rw [<-e1,s'.pin i hp,sa]
   cases this;exact⟨us',q1,q2⟩
  obtain⟨us',q1,q2⟩:=now
  by_cases hlt:j < ds.length
  ·rw [List.drop_eq_getElem_cons hlt]at el
   have el':=el;unfold zcr at el';rw [if_pos (zjc el)]at el';obtain⟨ρ2,e2,el'⟩:=bQ el';obtain⟨fb,eb,el'⟩:=bQ el';obtain⟨x,ex,dx⟩:=q2.get (qo hlt);refine .inr ⟨⟨us',x,SqL.of q1,ex⟩,fun σ3 H3=>∃ ρ3,Sn K pn σ₀ A H₀ H ρ3 σ3 H3/\zcr i ds mg mb (ds.drop (j+1)) ρ3=some f,fun σ3 H3 ⟨ρ3,s3,e3⟩=>⟨ds.length - (j+1),by omega,rfl,hlt,ρ3,s3,e3⟩,fun y H2 hy=>?_⟩;obtain⟨rfl,hy⟩:=hy;have:=hy us' (SqL.of q1);rw [ex]at this;cases this;refine hg.run σ₀ A H₀ H ρ' σ' H2 x ds[j] ρ2 _ s' dx e2 fun σ3 s3=>?_;refine hb σ₀ A H₀ H ρ2 σ3 H2 fb _ s3 eb ?_;cases fb with
   | nx ρ4=>exact fun σ4 H4 s4=>⟨ρ4,s4,el'⟩
   | ct ρ4=>exact fun σ4 H4 s4=>⟨ρ4,s4,el'⟩
   | bk ρ4=>cases el'; exact fun σ4 H4 s4=>k σ4 H4 (s4.re s.kp)
   | rt u ρ4=>cases el'; exact fun v σ4 H4 s4 p n=>k v σ4 H4 (s4.re s.kp) p n
   | ex x ρ4=>cases el'; exact fun a σ4 H4 s4 p n=>k a σ4 H4 (s4.re s.kp) p n
  ·have ej:j=ds.length:=by omega
   subst ej;rw [List.drop_length]at el;have el':=el;unfold zcr at el';rw [if_pos (zjc el)]at el';cases el';exact .inl ⟨⟨us',SqL.of q1,by rw [q2.len]; exact qg _⟩,k σ' H' (s'.re s.kp)⟩
 ·rename_i ds eu
  have g1:zj i ρ=some (.s i,ρ):=by unfold zj; rw [eu]
  have g2:Ar.get ρ (.s i)=some (.d (.tuple ds)):=by show(ρ[i]?).join=_; rw [eu]; rfl
  have e':zb8 (mIt zvJ (zj i)) mg mb ρ=some f:=by
   simp only [zb8,mIt,g1,Option.bind_some,g2,zvJ];exact e
  exact zbj (zzf ze) hg hb σ₀ A H₀ H₁ ρ σ H f D s e' k
 ·cases e
end
section
variable {mg:MG} {mb:MS} {ρ:En} {Q:Fl->Prop} {i:Nat}
theorem zzk{ds:List D}(h:ρ[i]?=some (some (.l ds))):zjb i mg mb ρ=zcr i ds mg mb ds ρ:=by unfold zjb; rw [h]
theorem zzl{ds:List D}(h:ρ[i]?=some (some (.d (.tuple ds)))):zjb i mg mb ρ=zb0 mg mb ds ρ:=by unfold zjb; rw [h]
theorem ztA{ds0:List D}(P:Nat->En->Prop){ds:List D}(h0:P 0 ρ)(hP:∀ i' ρ,P i' ρ->ρ[i]?=some (some (.l ds0)))(st:∀ i d ρ,ds[i]?=some d->P i ρ->Wo (mg d ρ) (Co mb ⟨0⟩ (zgB Q (P (i+1)))))(hQ:∀ ρ,P ds.length ρ->Q (.nx ρ)):Wo (zcr i ds0 mg mb ds ρ) Q:=by
 have main:∀ (es:List D) (n:Nat) (ρ:En),n+es.length=ds.length->(∀ j,es[j]?=ds[n+j]?)->P n ρ->Wo (zcr i ds0 mg mb es ρ) Q:=by
  intro es
  induction es with
  | nil =>
   intro n ρ hn _ hp;unfold zcr;rw [if_pos (hP n ρ hp),za1];rw [List.length_nil,Nat.add_zero]at hn;exact hQ ρ (hn▸hp)
  | cons d es ih =>
   intro n ρ hn he hp;have e0:=he 0;rw [List.getElem?_cons_zero,Nat.add_zero]at e0;obtain⟨ρ1,e1,f,e2,k⟩:=st n d ρ e0.symm hp;have nxt:∀ ρ2,P (n+1) ρ2->Wo (zcr i ds0 mg mb es ρ2) Q:=fun ρ2 z=>ih (n+1) ρ2 (by rw [qv]at hn; omega) (fun j=>by
    have:=he (j+1);rw [List.getElem?_cons_succ]at this;rw [this,show n+(j+1)=n+1+j by omega]) z
   unfold zcr;rw [if_pos (hP n ρ hp),zt];refine⟨ρ1,e1,?_⟩;rw [zcX,zt];refine⟨f,e2,?_⟩;rw [zcX];cases f with
   | nx ρ2=>exact nxt ρ2 k
   | ct ρ2=>exact nxt ρ2 k
   | bk ρ2=>exact⟨_,rfl,k⟩
   | rt u ρ2=>exact⟨_,rfl,k⟩
   | ex x ρ2=>exact⟨_,rfl,k⟩
 exact main ds 0 ρ (by omega) (fun j=>by rw [Nat.zero_add]) h0
end
end L2
namespace L2
open PySem PySem.Spec PyProof.Rows
theorem zqK{X:Cx}{pins:List (Addr×Obj)}{σ:St}{H:Hp}{s:Shared}{a b:Addr}{v:V}{r:Value}{A:Around}{E:Value->Shared->Prop}{kvs:List (List Key×V)}{k:List Key}{Q:Unit->Shared->Prop}(hu:A.units+1 < cLine)(I:Inv X pins σ H s)
  (e:H a=some (.dT kvs)) (eb:TpK X.K H b (k.map kV)) (l:kvs.length < sizeLine) (rv:zab v r) (h:∀ s',Inv X pins σ (upd H a (.dT (zc9 kvs k v))) s'->Q () s'):wpAny (model X.prog X.w) A (dictSet a (.ref b) r) Q E s:=by
 obtain⟨z,hd,xs,rel,dd⟩:=zrr I.kIn I.hok e;have hz:xs.length<=sizeLine:=by rw [<-Paired.length rel]; exact z
 have hl:(zc9 kvs k v).length<=sizeLine:=by have:=zez kvs k v; omega
 refine wpAny_dictSet_heap (hsz:=hz) (show A.units < cLine from Nat.lt_of_succ_lt hu) (zfZ I.kIn I.hok eb) dd fun h' dd' hs=>h _ ?_;obtain⟨q,es,ep,hq,h2,h3,h4,_,h5⟩:=dd';refine zh9 I (by rw [e]; exact True.intro) hs ⟨q,hq⟩ ⟨hl,hd,_,(rel.put k eb rv).keeps fun c ys ec=>?_,q,es,ep,hq,h2,h3,h4,h5⟩;rw [zI (zgj ec e (fun z=>nomatch z))];exact ec
theorem zmU{prog:Program}{w:World}{A:Around}{R:Result->Shared->Prop}{s:Shared}{kx vx target iter:Expr}{ifs:List Expr}{scope:Scope}{pos:Pos}{it:Value}{D:Addr}{env:Env}(I:Nat->Shared->Prop)
  (turn:∀ n s,I n s->∀ E,wpAny (model prog w) A (pyNext it) (fun r s1=>match r with
   | none=>R (.ok .next) s1
   | some v=>wpAny (model prog w) A (letOwnedTupleGo target it v) (fun _ s2=>wpAny (model prog w) A (assign target env v) (fun _ s3 =>
     wpAny (model prog w) A (forIn ifs true fun c r=>if r=true then do let ok <-isTrue c env (eval c env); pure (ForInStep.yield ok)else pure (ForInStep.yield r)) (fun ok s4 =>
      (ok=true->wpAny (model prog w) A (eval kx env) (fun k s5=>wpAny (model prog w) A (eval vx env) (fun v s6=>wpAny (model prog w) A (dictSet D k v) (fun _ s7=>∃ m,m < n/\I m s7) E s6) E s5) E s4) /\
      (ok=false->∃ m,m < n/\I m s4)) E s3) E s2) E s1) E s)
  (n:Nat) (h:I n s):codeAny (model prog w) A (.compLoop (.DictComp kx vx [⟨target,iter,ifs,0⟩] scope pos) 0 it (.ref D) env) R s:=by
 refine codeAny_loop rfl I (fun n s hI=>?_) n h;show wpAny _ A ((compTurn _ 0 it (.ref D) env).onRaise (fun x=>do noteFrame x env; theTreesLotGoes x)) _ _ s;refine wpAny_noted ?_;rw [compTurn_dict];refine qc (wpAny_standAt (qc (wpAny_mono (turn n s hI _) (fun r s1 h1=>?_) fun _ _ z=>z)));cases r with
 | none=>exact qd h1
 | some v =>
  refine qc (wpAny_mono h1 (fun _ s2 h2=>?_) fun _ _ z=>z);refine qc (wpAny_mono h2 (fun _ s3 h3=>?_) fun _ _ z=>z);refine qc (wpAny_mono h3 (fun ok s4 h4=>?_) fun _ _ z=>z);cases ok with
  | false=>exact qd ⟨rfl,h4.2 rfl⟩
  | true =>
   refine qc (qc (wpAny_mono (h4.1 rfl) (fun x s5 h5=>?_) fun _ _ z=>z));refine qc (wpAny_holding (wpAny_mono h5 (fun y s6 h6=>?_) fun _ _ z=>z));exact qc (wpAny_standAt (wpAny_holding (wpAny_mono h6 (fun _ s7 h7=>qd ⟨rfl,h7⟩) fun _ _ z=>z)))
def zzm(K:qe)(J:It)(σc:St)(g:TG)(tt:TT)(tk tv:TE)(D:Addr)(Z:Hp->Prop)(H1:Hp):Prop :=
 ∃ W:Nat->Nat->Hp->Prop,(∃ m,W 0 m H1)/\∀ i m H,W i m H ->
  (J.stop i H/\Z H)\/(J.go i H/\∃ N:Hp->Prop,(∀ H',N H'->∃ m',m' < m/\W (i+1) m' H') /\
   ∀ x H',J.yld i H x H'->g x σc H' fun σ2 H2=>tt σ2 H2 fun b H3=>if b=true then tk σ2 H3 fun y H4=>tv σ2 H4 fun v H5=>∃ kvs k p,y=.ref p/\H5 D=some (.dT kvs)/\TpK K H5 p (k.map kV)/\kvs.length < sizeLine/\N (upd H5 D (.dT (zc9 kvs k v)))else N H3)
section
variable {X:Cx} {pins:List (Addr×Obj)} {σ:St} {H:Hp} {s:Shared} {scope:Scope} {cl:List (Str×Addr)} {xs:List Str} {js:List Nat} {nt:Nat} {ts:List Str} {fp:List Addr}
theorem zoi{kx vx iter tg:Expr}{ifs:List Expr}{pos:Pos}{J:It}{it D:Addr}{tn:Nat->Heap->Prop}{g:TG}{tt:TT}{tk tv:TE}{Z:Hp->Prop}{R:Result->Shared->Prop}{h1:Heap}{m1:Str->Option Value}{t1:Nat}
  (hu:X.A.units+1 < cLine) (hc:X.calm=true) (I:Inv X pins σ H s) (S:ScC scope xs) (f:Frees X cl xs js) (hts:ts.length=nt) (T:Turn X.prog X.w X.K tg J fp it tn) (st:tn 0 s.heap) (hf:∀ b∈fp,zdv X pins H b)
  (hg:∀ C s H ex,PG (zV X scope cl (ts++xs) C s H ex) tg g) (ht:∀ C s H ex,ziD (zV X scope cl (ts++xs) C s H ex) ifs tt) (hk:∀ C s H ex,PE (zV X scope cl (ts++xs) C s H ex) kx tk) (hv:∀ C s H ex,PE (zV X scope cl (ts++xs) C s H ex) vx tv)
  (gw:GW (c0 nt js σ) g) (h:zzm X.K J (c0 nt js σ) g tt tk tv D Z H) (hn1:h1.Ns s.heap.objs.size m1) (old:∀ b o,s.heap.get? b=some o->h1.get? b=some o) (ck:CellsOk h1 (s.heap.objs.size+1) (cellsFrom (s.heap.objs.size+1) scope.names []))
  (hR:∀ (m:Str->Option Value) (s':Shared) (H':Hp),Z H'->Inv X pins σ H' s'->s'.heap.Ns s.heap.objs.size m->H' s.heap.objs.size=none->s.heap.objs.size≠X.env.locals ->
   (∀ x c,X.env.cells.lookup x=some c->c≠s.heap.objs.size)->X.s₀.heap.objs.size<=s.heap.objs.size->(∀ p∈X.pn++pins,p.1≠s.heap.objs.size)->R (.ok .next) s') :
  codeAny (model X.prog X.w) X.A (.compStart (.DictComp kx vx [⟨tg,iter,ifs,0⟩] scope pos) 0 (.ref it) (.ref D) (compEnvC scope (cellsFrom (s.heap.objs.size+1) scope.names cl) s.heap.objs.size X.env)) R { s with heap:=h1,toks:=t1 }:=by
 have hl:∀ b∈fp,b < s.heap.objs.size:=fun b hb=>by
  obtain⟨o,e,_⟩:=T.obj _ _ st b hb;exact qj e
 have J0:Inv (zV X scope cl (ts++xs) s.heap.objs.size s H fp) [] (c0 nt js σ) H { s with heap:=h1,toks:=t1 }:=zl7 I S f hts (qg _) hf hl old hn1 ck;obtain⟨W,⟨m0,w0⟩,turn⟩:=h;have st1:tn 0 h1:=T.keep _ _ _ st fun b hb o e=>old b o e;have fpk:∀ {H':Hp},(∀ b∈fp,H' b=none)->∀ b∈fp,zdv (zV X scope cl (ts++xs) s.heap.objs.size s H fp) [] H' b:=fun{H'} hn b hb=>by
  refine⟨hn b hb,ql (hl b hb),fun z=>?_,.inl hb,fun x c e=>((zkY I S f ck (qg _) hf hl (ts:=ts)).exf b hb).2 x c e,fun p hpp=>by cases hpp⟩;rcases qw.mp (I.stkSub b z)with q | q
  ·exact(hf b hb).2.1 q
  ·exact(hf b hb).2.2.1 q
 have loop:codeAny (model X.prog X.w) X.A (.compLoop (.DictComp kx vx [⟨tg,iter,ifs,0⟩] scope pos) 0 (.ref it) (.ref D) (compEnvC scope (cellsFrom (s.heap.objs.size+1) scope.names cl) s.heap.objs.size X.env)) R { s with heap:=h1,toks:=t1 }:=by
  refine zmU (fun n s'=>∃ i H',Inv (zV X scope cl (ts++xs) s.heap.objs.size s H fp) [] (c0 nt js σ) H' s'/\tn i s'.heap/\(∀ b∈fp,H' b=none)/\W i n H') ?_ m0 ⟨0,H,J0,st1,fun b hb=>(hf b hb).1,w0⟩;rintro n s3 ⟨i,H3,I3,st3,fr3,w3⟩ E';rcases turn i n H3 w3 with ⟨stop,qz⟩ | ⟨go,N,hN,step⟩
  ·refine thn (T.done (zV X scope cl (ts++xs) s.heap.objs.size s H fp) rfl rfl rfl hc i _ s3 _ H3 E' I3 (fpk fr3) st3 stop) fun r s4 ⟨hr,I4⟩=>?_
   subst hr;obtain⟨m4,n4,_⟩:=I4.loc;refine hR m4 s4 H3 qz (I.call' I4.os I4.base I4.hok I4.bare fun b hb=>⟨(hf b hb).2.2.2.1,(hf b hb).2.1,(hf b hb).2.2.2.2.1,fun p hp=>(hf b hb).2.2.2.2.2 p hp⟩) n4 I4.free ?_ ?_ I.sz ?_
   ·exact fun z=>absurd I.lt (by rw [<-z]; exact Nat.lt_irrefl _)
   ·intro x c e z
    obtain⟨v,ob,q,_⟩:=I.cell x c e;exact absurd (qj q) (by rw [z]; exact Nat.lt_irrefl _)
   ·intro p hp z
    have q:=(I.pin p hp).1;exact absurd (qj q) (by rw [z]; exact Nat.lt_irrefl _)
  ·refine thn (T.item (zV X scope cl (ts++xs) s.heap.objs.size s H fp) rfl rfl rfl hc i _ s3 _ H3 E' I3 (fpk fr3) st3 go) fun r s4 ⟨u,hr,h4⟩=>?_
   subst hr;refine thn h4 fun _ s5 ⟨x,H5,I5,r5,y5,st5,fr5⟩=>?_;have I5':=I5.pinned (fpk fr5) (T.obj _ _ st5);refine znH (hg _ _ _ _ _ s5 _ H5 x u _ I5' r5 (gw _ _ _ (step x H5 y5))) fun _ s6 ⟨σ6,H6,I6,wk6,q6⟩=>?_;refine znH (ht _ _ _ _ _ s6 σ6 H6 _ I6 q6) fun ok s7 ⟨H7,I7,q7⟩=>?_;have after:∀ {H8:Hp} {s8:Shared},Inv (zV X scope cl (ts++xs) s.heap.objs.size s H fp) ([]++zg1 fp s5.heap) σ6 H8 s8 ->
     tn (i+1) s8.heap/\(∀ b∈fp,H8 b=none)/\Inv (zV X scope cl (ts++xs) s.heap.objs.size s H fp) [] (c0 nt js σ) H8 s8:=fun{H8 s8} I8=>by
    refine⟨T.keep _ _ _ st5 fun b hb o e=>(I8.pin (b,o) (qx _ (qx _ (zcc hb e)))).1,fun b hb=>?_,?_⟩
    ·obtain⟨o,e,d⟩:=T.obj _ _ st5 b hb
     exact(I8.pin (b,o) (qx _ (qx _ (zcc hb e)))).2.1
    ·exact(I8.weak wk6.1 wk6.2).pins_of fun p hp=>by cases hp
   refine⟨fun hok=>?_,fun hok=>?_⟩
   ·subst hok
    rw [if_pos rfl]at q7;refine znH (hk _ _ _ _ _ s7 σ6 H7 _ I7 q7) fun kv s8 ⟨y,H8,I8,ry,q8⟩=>?_;refine znH (hv _ _ _ _ _ s8 σ6 H8 _ I8 q8) fun vv s9 ⟨v,H9,I9,rv,q9⟩=>?_;obtain⟨kvs,k,p,ey,eD,ep,hz,q10⟩:=q9;subst ey;cases(show kv=Value.ref p from ry);refine zqK (X:=zV X scope cl (ts++xs) s.heap.objs.size s H fp) hu I9 eD ep hz rv fun s10 I10=>?_;obtain⟨st10,fr10,I10'⟩:=after I10;obtain⟨m',hm,w10⟩:=hN _ q10;exact⟨m',hm,i+1,_,I10',st10,fr10,w10⟩
   ·subst hok
    rw [if_neg qh]at q7;obtain⟨st7,fr7,I7'⟩:=after I7;obtain⟨m',hm,w7⟩:=hN _ q7;exact⟨m',hm,i+1,H7,I7',st7,fr7,w7⟩
 exact codeAny_compStart_dict loop (T.self _ _ _ _ _ st1 loop)
theorem zmV{kx vx iter tg:Expr}{ifs:List Expr}{pos:Pos}{J:It}{it:Addr}{tn:Nat->Heap->Prop}{g:TG}{tt:TT}{tk tv:TE}{Z:Addr->Hp->Prop}{RR:Value->Addr->Result->Shared->Prop}{E:Value->Shared->Prop}
  (hu:X.A.units+1 < cLine) (hc:X.calm=true) (I:Inv X pins σ H s) (S:ScC scope xs) (f:Frees X cl xs js) (hts:ts.length=nt) (T:Turn X.prog X.w X.K tg J fp it tn) (st:tn 0 s.heap) (hf:∀ b∈fp,zdv X pins H b)
  (hg:∀ C s H ex,PG (zV X scope cl (ts++xs) C s H ex) tg g) (ht:∀ C s H ex,ziD (zV X scope cl (ts++xs) C s H ex) ifs tt) (hk:∀ C s H ex,PE (zV X scope cl (ts++xs) C s H ex) kx tk) (hv:∀ C s H ex,PE (zV X scope cl (ts++xs) C s H ex) vx tv)
  (gw:GW (c0 nt js σ) g) (h:∀ D,H D=none->zzm X.K J (c0 nt js σ) g tt tk tv D (Z D) (upd H D (.dT [])))
  (hRR:∀ (D C:Addr) (m:Str->Option Value) (s':Shared) (H':Hp),Z D H'->Inv X pins σ H' s'->s'.heap.Ns C m->H' C=none->C≠X.env.locals ->
   (∀ x c,X.env.cells.lookup x=some c->c≠C)->X.s₀.heap.objs.size<=C->(∀ p∈X.pn++pins,p.1≠C)->RR (.ref D) C (.ok .next) s') :
  wpAny (model X.prog X.w) X.A newDict (fun acc s3=>wpAny (model X.prog X.w) X.A (newFunctionEnv scope X.env.globals cl [] X.env.qual none .none (some X.env)) (fun cenv s4 =>
   codeAny (model X.prog X.w) X.A (.compStart (.DictComp kx vx [⟨tg,iter,ifs,0⟩] scope pos) 0 (.ref it) acc { cenv with scope:=relabel scope X.env }) (RR acc cenv.locals) s4) E s3) E s:=by
 refine qB (zl6 fun h1 hn1 hsb1 ck=>?_);dsimp only at hn1 hsb1 ck ⊢;have hDn:H s.heap.objs.size=none:=I.hok.fresh (qg _);have I1:=I.laid (a:=s.heap.objs.size) (o:=.dT []) (h':=s.heap.push { cls:=.type "dict",data:=.dict #[] }) (t':=s.toks) (fun _ _ q=>qf _ q) (qg _) (ziC s.heap I.big);have h2:=h _ hDn;have hl0:∀ b∈fp,b < s.heap.objs.size:=fun b hb=>by
  obtain⟨o,e,_⟩:=T.obj _ _ st b hb;exact qj e
 have st0:tn 0 (s.heap.push { cls:=.type "dict",data:=.dict #[] }):=T.keep _ _ _ st fun b hb o e=>qf _ e;have hf0:∀ b∈fp,zdv X pins (upd H s.heap.objs.size (.dT [])) b:=fun b hb=>⟨by rw [zI (ql (hl0 b hb))]; exact(hf b hb).1,(hf b hb).2⟩;have hp:s.heap.objs.size < (s.heap.push { cls:=.type "dict",data:=.dict #[] }).objs.size:=by rw [Heap.size_push]; exact Nat.lt_succ_self _
 refine zoi (s:={ s with heap:=s.heap.push { cls:=.type "dict",data:=.dict #[] },toks:=s.toks }) hu hc I1 S f hts T st0 hf0 hg ht hk hv gw h2 hn1 hsb1 ck fun m s' H' z I' hn hCn hCL hCc hCs hCp=>hRR _ _ m s' H' z I' hn hCn hCL hCc hCs hCp
def tDC(K:qe)(wi:TI)(nt:Nat)(js:List Nat)(g:TG)(tt:TT)(tk tv:TE):TE:=fun σ H Q=>wi σ H fun J H1 =>
 ∀ D,H1 D=none->zzm K J (c0 nt js σ) g tt tk tv D (fun H2=>Q (.ref D) H2) (upd H1 D (.dT []))
theorem ztB{y:Str}{py spos:Pos}{i:Nat}{kx vx iter tg:Expr}{ifs:List Expr}{pos:Pos}{wi:TI}{g:TG}{tt:TT}{tk tv:TE}{n:Nat}(hr:Room n X.A){nt:Nat}(hi:Wr (PI X tg iter wi))(hg:∀ {C s H ex},Wr (PG (zV X scope (zfi X js) (tgN tg++zeA X js) C s H ex) tg g))(ht:∀ {C s H ex},Wr (ziD (zV X scope (zfi X js) (tgN tg++zeA X js) C s H ex) ifs tt))
  (hk:∀ {C s H ex},Wr (PE (zV X scope (zfi X js) (tgN tg++zeA X js) C s H ex) kx tk)) (hv:∀ {C s H ex},Wr (PE (zV X scope (zfi X js) (tgN tg++zeA X js) C s H ex) vx tv))
  (hN:X.N.Nodup:=by first | assumption | exact zgp rfl) (hi':X.N[i]?=some y:=by rfl) (hy:Loc X.env.scope y:=by first | exact Or.inl rfl | exact Or.inr rfl)
  (f:Frees X (zfi X js) (zeA X js) js:=by repeat (first | exact Frees.nil | refine Frees.cons rfl (by first | exact Or.inl rfl | exact Or.inr rfl) rfl ?_)) (hclos:closureFor scope X.env=pure (zfi X js):=by rfl) (S:ScC scope (zeA X js):=by exact⟨rfl,of_decide_eq_true rfl,of_decide_eq_true rfl,of_decide_eq_true rfl,of_decide_eq_true rfl⟩) (hts:(tgN tg).length=nt:=by rfl) (hc:X.calm=true:=by rfl) (gw:∀ σ:St,GW (c0 nt js σ) g:=by first | exact zkZ (by decide) | exact zrE (zk1 (by repeat (first | exact ziH | refine zg7 (by decide) ?_)))) (hs:∀ x,foldedSetIterable iter X.env x=pure x:=by intro _; rfl)
  (hsw:swapsWith (.DictComp kx vx [⟨tg,iter,ifs,0⟩] scope pos) (some (.Name y py)) spos.line X.env=pure true:=by rfl)
  (hf:X.fn y=true\/X.env.scope.names.lookup y=some .local:=by first | exact .inl rfl | exact .inr rfl | assumption) :
  Wr (PS X (.Assign [.Name y py] (.DictComp kx vx [⟨tg,iter,ifs,0⟩] scope pos) spos) (zkN (tDC X.K wi nt js g tt tk tv) (zdI i))):=by
 refine⟨?_⟩;intro pins s σ H D I h;rw [exec_Assign_Name_used _ _ _ _ hsw];refine qc (wpAny_standAt (qc ?_));show wpAny _ X.A (do let _ <-comprehension (.DictComp kx vx [⟨tg,iter,ifs,0⟩] scope pos) scope X.env _ newDict false (eval iter X.env) (some (assign (.Name y py) X.env))) _ _ s;refine qc (wpAny_mono (wpAny_comprehension_free (use:=some (assign (.Name y py) X.env)) (Q:=fun _ s'=>SP X pins D .next s') rfl hs hclos S.kind S.names
  (thn (hi.run pins s σ H _ I h) fun v s1 h1=>thn h1 fun itv s2 h2=>?_)) (fun _ s' hq=>qd (qd hq)) fun _ _ e=>e)
 obtain⟨it,fp,tn,J,H2,e,I2,T,st2,f2,q⟩:=h2;subst e;refine zmV (RR:=fun acc C=>compPost (model X.prog X.w) X.A X.xe (some (assign (.Name y py) X.env)) (fun _ s'=>SP X pins D .next s') acc C) (zl5 hr) hc I2 S f hts T st2 f2 (fun C s H ex=>hg.run) (fun C s H ex=>ht.run) (fun C s H ex=>hk.run) (fun C s H ex=>hv.run) (gw σ) q ?_;intro D' C m s' H' z I' hn hCn hCL hCc hCs hCp;show wpAny _ _ (assign (.Name y py) X.env (.ref D')) _ _ _;refine wpAny_assign_Name (zg0 (v:=.ref D') I' hN hi' hy rfl (fun s'' I'' ⟨a,sb,ha⟩=>?_) hf);have ne:C≠a:=by
  rcases ha with rfl | ha
  ·exact hCL
  ·exact(hCc _ _ ha).symm
 exact⟨m,hn.sameBut sb ne,fun h' hs'=>⟨_,_,I''.turned (it:=C) (fun b o hb e=>hs'.extBut b o hb e) hCn hCL (.inr hCs) hCc hCp,z⟩⟩
end
section
variable {K:qe} {ρ ρ' ρ1:En} {σ:St} {H H' H1:Hp}
theorem Sn.free{pn:List Nat}{σ₀:St}{A:Addr->Prop}{H₀ H₁:Hp}{D:Addr}{c o:HO}(s:Sn K pn σ₀ A H₀ H₁ ρ σ H)(hc:H D=some c)(m:Mo c)(n:¬Ow ρ σ D)(hA:A D):Sn K pn σ₀ A H₀ H₁ ρ σ (upd H D o):=by
 refine⟨s.rs.free hc m n,fun a ob h nA=>?_,s.ow,s.pin,fun a h=>?_,s.kp.trans (zcp hc m o)⟩
 ·have ne:a≠D:=by rintro rfl; exact nA hA
  rw [zI ne];exact s.fr a ob h nA
 ·by_cases e:a=D
  ·subst e; rw [zD]at h; cases h
  ·rw [zI e]at h; exact s.dm a h
theorem ztC{nt:Nat}{js:List Nat}{D:Addr}{A:Addr->Prop}{ρx:En}{σx:St}{Hx:Hp}(r:Rs K ρ1 σ H1)(hD:H1 D=none)(s:Sn K (zev nt js.length) (c0 nt js σ) A (upd H1 D (.dT [])) H1 ρx σx Hx)
  (own:∀ (i:Nat) (u:U),nt<=i->ρx[i]?=some (some u)->u.own=true->∃ w,(cEn nt js ρ1)[i]?=some (some w)/\w.own=true):¬Ow ρx σx D:=by
 rintro⟨i,u,e,ou,es⟩;rcases s.ow i u D e ou es with ⟨hi,_⟩ | z
 ·have hi':=zdc.mp hi
  obtain⟨w,ew,ow⟩:=own i u hi'.1 e ou;obtain⟨p,j,rfl,hj,hr⟩:=zhc ew;rw [s.pin _ hi,zr2 hj]at es;have e2:σ[j]?=some (some (.ref D)):=by
   rw [qC]at es;cases q:σ[j]? with
   | none=>rw [q]at es; cases es
   | some o=>rw [q]at es; exact congrArg some (qy es)
  obtain⟨c,hc,_⟩:=r.ow ⟨j,w,hr,ow,e2⟩;rw [hD]at hc;cases hc
 ·rw [zD]at z; cases z
def dcM(nt:Nat)(mg:MG)(mt:MT)(mk mv:ME):List D->En->List (List Key×D)->Option (List (List Key×D)×En)
 | [],ρ,ys=>some (ys,ρ)
 | d::ds,ρ,ys=>if ys.length < sizeLine then(mg d ρ).bind fun ρ1=>(mt ρ1).bind fun b=>if b.1=true then(mk b.2).bind fun p=>(mv p.2).bind fun q=>(p.1.get q.2).bind fun uk=>(q.1.get q.2).bind fun uv=>uk.da.bind fun dk=>uv.da.bind fun dv=>(zaZ dk).bind fun k =>
   dcM nt mg mt mk mv ds (reset nt q.2) (zhd ys k dv)else dcM nt mg mt mk mv ds (reset nt b.2) ys else none
def mDC(mi:MI)(nt:Nat)(js:List Nat)(mg:MG)(mt:MT)(mk mv:ME):ME:=fun ρ=>(mi ρ).bind fun p=>(dcM nt mg mt mk mv p.1 (cEn nt js p.2) []).bind fun q=>some (.u (.t q.1),back js (q.2.drop nt) p.2)
theorem zzn{wi:TI}{nt:Nat}{js:List Nat}{g:TG}{tt:TT}{tk tv:TE}{mi:MI}{mg:MG}{mt:MT}{mk mv:ME}(hi:VI K wi mi)(hg:VGt K (zev nt js.length) g mg)(ht:VT K tt mt)(hk:VE K tk mk)(hv:VE K tv mv)(nd:js.Nodup:=by decide) :
  VE K (tDC K wi nt js g tt tk tv) (mDC mi nt js mg mt mk mv):=by
 intro ρ σ H a ρ' Q r e q;obtain⟨⟨ds,ρ1⟩,e1,e⟩:=bQ e;obtain⟨⟨zs,ρz⟩,e2,e⟩:=bQ e;cases e;refine hi ρ σ H ds ρ1 _ r e1 fun J H1 g1 run=>fun D hD=>?_;have sm0:=zag hD (.dT []);have s0:=zoY (nt:=nt) (js:=js) g1.rs nd;have s1:Sn K (zev nt js.length) (c0 nt js σ) (fun a=>zhX ρ1 σ js a\/a=D) (upd H1 D (.dT [])) H1 (cEn nt js ρ1) (c0 nt js σ) (upd H1 D (.dT [])):=by
  have s2:=s0.go (Go.grow s0.rs sm0);refine⟨s2.rs,fun a o h n=>h,fun i u a e o es=>?_,s2.pin,fun a h=>h,s2.kp⟩;rcases s2.ow i u a e o es with z | z
  ·exact .inl ⟨z.1,.inl z.2⟩
  ·exact absurd z (by
    obtain⟨v,ev,p⟩:=s0.rs.rep i u e;rw [es]at ev;cases ev;obtain⟨b,c,eb,hb,_⟩:=p.own o;cases eb;rw [hb];exact fun z=>nomatch z)
 refine⟨fun i m H'=>m=ds.length - i/\i<=ds.length/\∃ ρc kd ws,Sn K (zev nt js.length) (c0 nt js σ) (fun a=>zhX ρ1 σ js a\/a=D) (upd H1 D (.dT [])) H1 ρc (c0 nt js σ) H'/\Shr (cEn nt js ρ1) ρc/\(∀ k,k < nt->ρc[k]?=some none)/\H' D=some (.dT ws)/\KVd K H' ws kd/\dcM nt mg mt mk mv (ds.drop i) ρc kd=some (zs,ρz),
  ⟨ds.length,by simp,Nat.zero_le _,_,[],[],s1,Shr.refl _,fun k hk=>zr3 hk,zD,.nil,e2⟩,?_⟩
 rintro i m H' ⟨rfl,hi',ρc,kd,ws,s',sh,lo,hw,dy,el⟩;have lc:ρc.length=nt+js.length:=by rw [sh.len,zlg]
 by_cases hlt:i < ds.length
 ·rw [List.drop_eq_getElem_cons hlt]at el
  unfold dcM at el;split at el
  ·rename_i hz
   obtain⟨ρ2,e3,el⟩:=bQ el;obtain⟨⟨b,ρ3⟩,e4,el⟩:=bQ el;obtain⟨l2,p2⟩:=hg.ok _ _ _ e3;obtain⟨go,yl⟩:=(run H' s'.kp i).1 ds[i] (qo hlt);refine .inr ⟨go,fun H2=>∃ ρc' kd' ws',Sn K (zev nt js.length) (c0 nt js σ) (fun a=>zhX ρ1 σ js a\/a=D) (upd H1 D (.dT [])) H1 ρc' (c0 nt js σ) H2/\Shr (cEn nt js ρ1) ρc'/\(∀ k,k < nt->ρc'[k]?=some none)/\H2 D=some (.dT ws')/\KVd K H2 ws' kd'/\dcM nt mg mt mk mv (ds.drop (i+1)) ρc' kd'=some (zs,ρz),
    fun H2 ⟨ρc',kd',ws',z⟩=>⟨ds.length - (i+1),by omega,rfl,hlt,ρc',kd',ws',z⟩,fun x H2 y=>?_⟩
   obtain⟨sm,dx⟩:=yl x H2 y;have s2:=s'.go (Go.grow s'.rs sm);refine hg.run _ _ _ _ ρc _ H2 x ds[i] ρ2 _ s2 dx e3 fun σ3 s3=>?_;have own2:∀ (i:Nat) (u:U),nt<=i->ρ2[i]?=some (some u)->u.own=true->∃ w,(cEn nt js ρ1)[i]?=some (some w)/\w.own=true:=fun k u hk ek ou=>by
    have lk:k < nt+js.length:=by rw [<-l2.trans lc]; exact(qm.mp ek).1
    rw [p2 k (zdc.mpr ⟨hk,lk⟩)]at ek;exact sh.own k u ek ou
   have n2:¬Ow ρ2 σ3 D:=ztC g1.rs hD s3 own2;have toEnd:∀ {ρ4:En} {H4:Hp},Go K ρ2 σ3 H2 ρ4 H4->Sn K (zev nt js.length) (c0 nt js σ) (fun a=>zhX ρ1 σ js a\/a=D) (upd H1 D (.dT [])) H1 (L2.reset nt ρ4) (c0 nt js σ) H4/\Shr (cEn nt js ρ1) (L2.reset nt ρ4):=fun{ρ4 H4} g4=>by
    have l4:ρ4.length=nt+js.length:=by rw [g4.shr.len,l2,lc]
    refine⟨(s3.go g4).reset l4 znT,sh.trans (Shr.reset' lc lo l4 (fun k u hk ek ou=>?_) fun k u hk ek=>?_)⟩
    ·obtain⟨w,ew,ow⟩:=g4.shr.own k u ek ou
     have lk:k < nt+js.length:=by rw [<-l2.trans lc]; exact(qm.mp ew).1
     rw [p2 k (zdc.mpr ⟨hk,lk⟩)]at ew;exact⟨w,ew,ow⟩
    ·have lk:k < nt+js.length:=by rw [<-lc]; exact(qm.mp ek).1
     rw [<-p2 k (zdc.mpr ⟨hk,lk⟩)]at ek;exact g4.shr.live k u ek
   have hw2:H2 D=some (.dT ws):=sm _ _ hw;refine ht ρ2 σ3 H2 b ρ3 _ s3.rs e4 fun H3 g3=>?_;dsimp only at el;split at el
   ·rename_i hb
    rw [if_pos hb];obtain⟨⟨a4,ρ4⟩,e5,el⟩:=bQ el;obtain⟨⟨a5,ρ5⟩,e6,el⟩:=bQ el;obtain⟨uk,ek,el⟩:=bQ el;obtain⟨uv,ev,el⟩:=bQ el;obtain⟨dk,edk,el2⟩:=bQ el;obtain⟨dv,edv,el3⟩:=bQ el2;obtain⟨ks,eks,el4⟩:=bQ el3;cases zim edk;cases zim edv;refine hk ρ3 σ3 H3 a4 ρ4 _ g3.rs e5 fun kx H4 g4 k4=>hv ρ4 σ3 H4 a5 ρ5 _ g4.rs e6 fun vx H5 g5 k5=>?_;have pk:=k4.later g3.rs g4 g5 ek;have pv:=k5.now g4.rs g5 ev;obtain⟨p,rfl,hp⟩:=zgy pk eks;have g35:=(g3.trans g4).trans g5;have hw5:H5 D=some (.dT ws):=g35.fr D _ hw2 n2;obtain⟨sn,sr⟩:=toEnd g35;have dy5:KVd K H5 ws kd:=(dy.kp sm.kp).kp (g35.kp s3.rs);have kp:=zcp hw5 trivial (.dT (zc9 ws ks vx));have nE:¬Ow (L2.reset nt ρ5) (c0 nt js σ) D:=ztC g1.rs hD sn fun k u _ ek ou=>sr.own k u ek ou;exact⟨ws,ks,p,rfl,hw5,hp,by rw [dy5.len]; exact hz,_,_,_,sn.free hw5 trivial nE (.inr rfl),sr,fun k hk=>zgv hk,zD,(dy5.kp kp).put ks (DF.kp kp pv),el4⟩
   ·rename_i hb
    rw [if_neg hb];obtain⟨sn,sr⟩:=toEnd g3;exact⟨_,_,_,sn,sr,fun k hk=>zgv hk,g3.fr D _ hw2 n2,(dy.kp sm.kp).kp (g3.kp s3.rs),el⟩
  ·cases el
 ·have ei:i=ds.length:=by omega
  subst ei;rw [List.drop_length]at el;cases el;refine .inl ⟨(run H' s'.kp _).2 rfl,?_⟩;have nE:¬Ow ρz (c0 nt js σ) D:=ztC g1.rs hD s' fun k u _ ek ou=>sh.own k u ek ou;have s4:Sn K (zev nt js.length) (c0 nt js σ) (zhX ρ1 σ js) H1 H1 ρz (c0 nt js σ) H':=by
   refine⟨s'.rs,fun a o h n=>?_,fun i u a e o es=>?_,s'.pin,fun a h=>?_,s'.kp⟩
   ·have ne:a≠D:=by rintro rfl; rw [hD]at h; cases h
    exact s'.fr a o (by rw [zI ne]; exact h) fun z=>z.elim n ne
   ·rcases s'.ow i u a e o es with ⟨z1,z2 | z2⟩ | z
    ·exact .inl ⟨z1,z2⟩
    ·subst z2; exact absurd ⟨i,u,e,o,es⟩ nE
    ·by_cases ea:a=D
     ·subst ea; exact .inr hD
     ·rw [zI ea]at z; exact .inr z
   ·have z:=s'.dm a h
    by_cases ea:a=D
    ·subst ea; exact hD
    ·rw [zI ea]at z; exact z
  have gb:=Sn.comp_back g1.rs s4 lc sh;exact q _ _ (g1.trans gb) ⟨⟨D,ws,rfl,hw,dy⟩,fun _=>⟨D,rfl,g1.dm _ hD⟩⟩
end
section
variable {prog:Program} {w:World} {A:Around} {E:Value->Shared->Prop} {s:Shared} {it d:Addr} {i ep:Nat} {es:Array DictEntry}
theorem zqL{Q:Option Value->Shared->Prop}(k:s.heap.IsValIter it d i es.size ep)(r:zfk s.heap d es ep){x:DictEntry}(hx:es[i]?=some x)
  (q:∀ h':Heap,h'.IsValIter it d (i+1) es.size ep->Heap.SameBut it s.heap h'->Q (some x.val) { s with heap:=h' }):wpAny (model prog w) A (pyNext (.ref it)) Q E s:=by
 have kT:=k.typeIs;obtain⟨oi,ei,ci,fi⟩:=id k;obtain⟨o,e,_,dat⟩:=r;unfold pyNext;refine qc (wpAny_attempt (wpAny_callSpecial?_slot (name:=Str.ofString "__next__") kT F.slot_dict_valueiterator_next
  (wpAny_call_entry F.slot_dict_valueiterator_next kT F.entry_dict_valueiterator_next ?_ (F.args_dict_valueiterator_next_1 _))))
 refine qc (qd (qc (qc ?_)));refine qc (wpAny_typeNameOfWhole_valiter kT (qd (qc (wpAny_fieldsOf ei fi ?_))));simp only [show Builtin.Dict_items.ownsTuple "dict_valueiterator"=false by decide,Bool.false_eq_true,if_false];show wpAny _ _ (if(Value.ref d==Value.none)=true then _ else _) _ _ s;rw [if_neg (show ¬((Value.ref d==Value.none)=true) from qh)];refine qc (qd (qc (wpAny_dictEntries e dat ?_)));rw [if_neg (by simp)];refine qc (qd (qc (wpAny_dictEpoch e dat ?_)));rw [if_neg (by simp)];refine qd ?_;simp only [show ¬((i:Int) < 0) from by omega,if_false,Int.toNat_natCast,hx];refine qc (qc (wpAny_typeNameOfWhole_valiter kT (qd (qc (wpAny_isOneOf_valiter kT ?_)))));show wpAny _ _ (setField (.ref it) 1 (rawInt ((i:Int)+1)) >>= _) _ _ s;refine qc (wpAny_setField ei fi (by simp) ?_);have k':(s.heap.update it (Obj.mapFields (·.setIfInBounds 1 (rawInt ((i:Int)+1))))).IsValIter it d (i+1) es.size ep :=
  ⟨_,Heap.get?_update_self _ ei (Obj.isFreed_of_fields (Obj.data_mapFields fi _)),(Obj.cls_mapFields ..).trans ci,by rw [Obj.data_mapFields fi]; simp [rawInt]⟩
 refine qc (wpAny_holding (qc (wpAny_isOneOf_valiter (s:={ s with heap:=s.heap.update it (Obj.mapFields (·.setIfInBounds 1 (rawInt ((i:Int)+1)))) }) k'.typeIs ?_)));refine qc (wpAny_isOneOf_valiter (s:={ s with heap:=s.heap.update it (Obj.mapFields (·.setIfInBounds 1 (rawInt ((i:Int)+1)))) }) k'.typeIs ?_);show wpAny _ _ (pure x.val) _ _ _;exact qd (qd ⟨_,rfl,qd (q _ k' (Heap.SameBut.update ..))⟩)
theorem ztD{Q:Option Value->Shared->Prop}(hh:A.handled=none)(k:s.heap.IsValIter it d i es.size ep)(r:zfk s.heap d es ep)(hx:es.size<=i)
  (q:∀ h':Heap,Heap.ExtBut it s.heap h'->Q none { s with heap:=h' }):wpAny (model prog w) A (pyNext (.ref it)) Q E s:=by
 have kT:=k.typeIs;obtain⟨oi,ei,ci,fi⟩:=id k;obtain⟨o,e,_,dat⟩:=r;unfold pyNext;refine qc (wpAny_attempt (wpAny_callSpecial?_slot (name:=Str.ofString "__next__") kT F.slot_dict_valueiterator_next
  (wpAny_call_entry F.slot_dict_valueiterator_next kT F.entry_dict_valueiterator_next ?_ (F.args_dict_valueiterator_next_1 _))))
 refine qc (qd (qc (qc ?_)));refine qc (wpAny_typeNameOfWhole_valiter kT (qd (qc (wpAny_fieldsOf ei fi ?_))));simp only [show Builtin.Dict_items.ownsTuple "dict_valueiterator"=false by decide,Bool.false_eq_true,if_false];show wpAny _ _ (if(Value.ref d==Value.none)=true then _ else _) _ _ s;rw [if_neg (show ¬((Value.ref d==Value.none)=true) from qh)];refine qc (qd (qc (wpAny_dictEntries e dat ?_)));rw [if_neg (by simp)];refine qc (qd (qc (wpAny_dictEpoch e dat ?_)));rw [if_neg (by simp)];refine qd ?_;simp only [show ¬((i:Int) < 0) from by omega,if_false,Int.toNat_natCast,Array.getElem?_eq_none hx];refine qc (qc (wpAny_typeNameOfWhole_valiter kT (qd ?_)));show wpAny _ _ (setField (.ref it) 0 .none >>= _) _ _ s;refine qc (wpAny_setField ei fi (by simp) ?_);show wpAny _ _ (newExc (.type "StopIteration") [] >>= _) _ _ _;refine qc ?_;simp only [newExc,newTuple];refine qc (qB ?_ (by show(0:Nat)<=sizeLine; exact Nat.zero_le _));refine qc (m:=firstArgMember _ _) (wpAny_of_eq (a:=Value.none) (by first | rfl | (simp only [firstArgMember]; rfl)) ?_);refine qB ?_ (by first | trivial | size_fits);simp only [raiseNew];refine qc (wpAny_handled ?_);rw [show A.in1.handled=none from hh];refine qc (qd (wpAny_throw ?_));refine qc (wpAny_isInstance (T := "StopIteration") (b:=true) ⟨_,qi _ rfl,rfl⟩ isSubtype_stop ?_);exact qd (q _ (((Heap.SameBut.update ..).extBut.push _).push _))
theorem zoj{Q:Value->Shared->Prop}(hd:(d==sysModules)=false)(r:zfk s.heap d es ep)
  (q:Q (.ref s.heap.objs.size) { s with heap:=s.heap.push { cls:=.type "dict_values",data:=.fields #[.ref d] } }):wpAny (model prog w) A (call (.builtin "dict.values") [.ref d]) Q E s:=by
 have hT:=r.typeIs;obtain⟨o,e,_,dat⟩:=r;refine wpAny_call_entry F.slot_dict_values hT F.entry_dict_values ?_ (F.args_dict_values_1 _);refine qc ?_;unfold Builtin.Dict.noArgs;refine qc (wpAny_notOrdered_dict hT ?_);show wpAny _ _ (pure d) _ _ s;refine qd ?_;show wpAny _ _ (Builtin.Dict.showsAll d >>= _) _ _ s;unfold Builtin.Dict.showsAll;rw [if_neg (by rw [hd]; exact qh)];refine qc (qd ?_);exact qc (qB (qd ⟨_,rfl,q⟩))
theorem zqM{v:Addr}{Q:Value->Shared->Prop}(hv:s.heap.IsValuesView v d)(r:zfk s.heap d es ep)
  (q:∀ h':Heap,h'.IsValIter s.heap.objs.size d 0 es.size ep->(∀ b o,s.heap.get? b=some o->h'.get? b=some o)->Q (.ref s.heap.objs.size) { s with heap:=h' }):wpAny (model prog w) A (pyIter (.ref v)) Q E s:=by
 obtain⟨o,e,_,dat⟩:=r;obtain⟨o2,e2,c2,d2⟩:=id hv;have hT:=hv.typeIs (s:=s);refine wpAny_pyIter_slot hT F.slot_dict_values_iter (wpAny_call_entry F.slot_dict_values_iter hT F.entry_dict_values_iter ?_ (F.args_dict_values_iter_1 _));unfold Builtin.«dict_values.__iter__»;refine qc (qd ?_);unfold Builtin.Dict_items.dictOf;refine qc (qc (wpAny_field e2 d2 (x:=.ref d) rfl (qd ?_)));unfold Builtin.Dict_items.newIterator;refine qc (qc (wpAny_dictEntries e dat (qc (wpAny_dictEpoch e dat ?_))));have hown:Builtin.Dict_items.ownsTuple "dict_valueiterator"=false:=by decide
 simp only [hown,Bool.false_eq_true,if_false];refine qB (qd ⟨_,rfl, "dict_valueiterator",_,⟨_,qi _ rfl,rfl⟩,F.slot_dict_valueiterator_next.lookup,?_⟩);exact q _ ⟨_,qi _ rfl,rfl,by simp [rawInt]⟩ fun b o z=>qf _ z
end
def ItV(a:Addr)(o:Obj)(kvs:List (List Key×V)):It :=
 ⟨fun i H=>H a=some (.frz o (.dT kvs))/\i < kvs.length,fun i H x H'=>H'=H/\∀ k v,kvs[i]?=some (k,v)->x=v,fun i H=>H a=some (.frz o (.dT kvs))/\kvs.length<=i⟩
theorem zqN{P:Program}{w:World}{K:qe}{tg:Expr}(a it:Addr)(o:Obj)(kvs:List (List Key×V))(ep:Nat)(hep:∃ es,o.data=.dict es ep):Turn P w K tg (ItV a o kvs) [it] it (fun i h=>h.IsValIter it a i kvs.length ep) where
 mem:=by simp
 obj:=fun i h st b hb=>by
  have e:b=it:=by simpa using hb
  subst e;obtain⟨oi,e,c,d⟩:=st;exact⟨oi,e,fun v z=>by rw [d]at z; cases z⟩
 keep:=fun i h h' st k=>by
  obtain⟨oi,e,c,d⟩:=st;exact⟨oi,k it (by simp) _ e,c,d⟩
 item:=by
  intro X hP hw hK hc i pins s σ H E I hf st hg;subst hP hw hK;obtain⟨e,hi⟩:=hg;obtain⟨hsm,es,ep',ea,xd,dat,hsz,ent⟩:=zdO I e;have eep:ep'=ep:=by
   obtain⟨es',z⟩:=hep;rw [dat]at z;injection z
  subst eep;obtain⟨b,x,ex,kx,hb,rv⟩:=ent i kvs[i].1 kvs[i].2 (qo hi);obtain⟨f0,f1,f2,f3,f4,f5⟩:=hf it (by simp);refine zqL (es:=es) (by rw [hsz]; exact st) ⟨o,ea,xd,dat⟩ ex fun h' st' sb=>?_;have I1:Inv X pins σ H { s with heap:=h' }:=I.turned (t':=s.toks) (fun b o hb e=>(sb.2 b hb).trans e) f0 f1 f3 f4 f5;obtain⟨oi,e',c',d'⟩:=id st';refine⟨x.val,rfl,zlW (s:={ s with heap:=h' }) e' c' d' (by decide) ⟨kvs[i].2,H,I1,rv,⟨rfl,fun k v hkv=>?_⟩,by rw [hsz]at st'; exact st',fun b hb=>(hf b hb).1⟩⟩;rw [qo hi]at hkv;rw [qy hkv]
 done:=by
  intro X hP hw hK hc i pins s σ H E I hf st hg;subst hP hw hK;obtain⟨e,hi⟩:=hg;obtain⟨hsm,es,ep',ea,xd,dat,hsz,ent⟩:=zdO I e;have eep:ep'=ep:=by
   obtain⟨es',z⟩:=hep;rw [dat]at z;injection z
  subst eep;obtain⟨f0,f1,f2,f3,f4,f5⟩:=hf it (by simp);exact ztD (es:=es) (I.ok.hd hc) (by rw [hsz]; exact st) ⟨o,ea,xd,dat⟩ (by omega) fun h' eb=>⟨rfl,I.turned (t':=s.toks) (fun b o hb e=>eb b o hb e) f0 f1 f3 f4 f5⟩
 self:=fun _ _ _ _ _ st h=>wpAny_pyIter_valiter st h
section
variable {X:Cx} {tg:Expr}
def zxl(td:TE):TI:=fun σ H R=>td σ H fun x H1=>∃ a o kvs,x=.ref a/\H1 a=some (.frz o (.dT kvs))/\R (ItV a o kvs) H1
theorem zzo{d:Expr}{td:TE}{apos cpos:Pos}(hd:Wr (PE X d td))(hbase:attributeBase d "values" X.env (eval d X.env)=eval d X.env:=by rfl)(hline:(apos.endLine==cpos.line)=true:=by rfl):Wr (PI X tg (.Call (.Attribute d "values" apos) [] [] cpos) (zxl td)):=by
 refine⟨?_⟩;intro pins s σ H R I h;refine wpAny_Call_method0_late hbase hline (thn (hd.run pins s σ H _ I h) fun v s1 ⟨x,H1,I1,r1,q1⟩=>?_);obtain⟨a,o,kvs,rfl,e,q⟩:=q1;cases r1;obtain⟨hsm,es,ep,ea,xd,dat,hsz,_⟩:=zdO I1 e;have rw1:zfk s1.heap a es ep:=⟨o,ea,xd,dat⟩;refine⟨"dict", "dict.values",F.plainAttrs_dict,F.slot_dict_values,F.type_dict_values,rw1.typeIs,fun b hb=>?_,Calls.callWith_builtin rfl (PySem.evalArgs_none (zoj hsm rw1 ?_))⟩
 ·cases hb
  exact⟨o,ea,xd.2.1⟩
 have I2:Inv X pins σ H1 { s1 with heap:=s1.heap.push { cls:=.type "dict_values",data:=.fields #[.ref a] } }:=I1.kept (t':=s1.toks) fun b o z=>qf _ z;refine zqM (v:=s1.heap.objs.size) (s:={ s1 with heap:=s1.heap.push { cls:=.type "dict_values",data:=.fields #[.ref a] } }) ⟨_,qi _ rfl,rfl,rfl⟩ ⟨o,qf _ ea,xd,dat⟩ fun h' hit kk2=>?_;refine⟨_,_,_,_,H1,rfl,I2.kept (t':=s1.toks) kk2,zqN a _ o kvs ep ⟨es,dat⟩,by rw [<-hsz]; exact hit,fun b hb=>?_,q⟩;rw [qr.mp hb];exact I2.fpOk (qg _) (I2.hok.fresh (qg _))
end
def zpO:U->Option (List D)
 | .d (.dict kvs)=>if noX kvs=true then some (kvs.map (·.2))else none
 | _=>none
theorem zvT{K:qe}{te:TE}{me:ME}(h:VE K te me):VI K (zxl te) (mIt zpO me):=by
 intro ρ σ H ds ρ' R r e q;obtain⟨⟨a,ρ1⟩,e1,e⟩:=bQ e;obtain⟨u,eu,e⟩:=bQ e;obtain⟨xs,ex,e⟩:=bQ e;cases e;refine h ρ σ H a _ _ r e1 fun v H1 g1 k1=>?_;have p:=k1.now r g1 eu;unfold zpO at ex;split at ex
 ·split at ex
  rotate_left
  ·cases ex
  rename_i nx;cases ex;obtain⟨b,o,ws,rfl,h1,h2⟩:=DF.dct_inv p nx;refine⟨b,o,ws,rfl,h1,q _ _ g1 fun H2 k i=>?_⟩;have h1':=k.frz _ _ _ h1;refine⟨fun d ed=>?_,fun ei=>?_⟩
  ·rw [List.getElem?_map]at ed
   obtain⟨⟨kd,vd⟩,ew,rfl⟩:=qt.mp ed;obtain⟨ks,w,ew',rfl,dv⟩:=zlt h2 ew;refine⟨⟨h1',(qm.mp ew').1⟩,fun x H' y=>?_⟩;obtain⟨rfl,y⟩:=y;rw [y ks w ew'];exact⟨fun _ _ z=>z,dv.kp k⟩
  ·rw [List.length_map,<-zlu h2]at ei
   exact⟨h1',Nat.le_of_eq ei.symm⟩
 ·cases ex
section
variable {X:Cx} {pins:List (Addr×Obj)} {σ:St} {H:Hp} {s:Shared} {a C dx:Addr} {fs:List (Str×V)} {f:Str} {v:V} {A:Around} {E:Value->Shared->Prop}
theorem Inv.frzI(I:Inv X pins σ H s)(e:H a=some (.ins C dx fs)):∃ o,Inv X pins σ (upd H a (.frz o (.ins C dx fs))) s:=by
 have ok:=(show zao X.prog X.w X.K H s.heap a (.ins C dx fs) from I.hok a _ e);obtain⟨d,z,ne,ob,_⟩:=id ok;refine⟨PySem.W.instObj C dx,?_⟩;have ok2:zao X.prog X.w X.K (upd H a (.frz (PySem.W.instObj C dx) (.ins C dx fs))) s.heap a (.ins C dx fs) :=
  ok.stay (fun _ _ _ q=>q) (fun b q=>by rw [zI (zgj q e (by intro z; cases z))]; exact q) fun b ys q=>by rw [zI (zgj q e (by intro z; cases z))]; exact q
 exact I.write (t':=s.toks) (h':=s.heap) (by rw [e]; trivial) (.inl rfl) (fun _ _ _ q=>q) ⟨_,ob⟩ ⟨ob,ok2⟩
theorem zmW{b:Bool}{o:Obj}{Q:Value->Shared->Prop}(I:Inv X pins σ H s)(e:H a=some (.frz o (.ins C dx fs)))(c:Cls X.K C)(n:zbD X.K C f)(l:fs.lookup f=some v)
  (h:∀ u s',Inv X pins σ H s'->zab v u->Q u s'):wpAny (model X.prog X.w) A (getAttr (.ref a) f b) Q E s:=by
 obtain⟨_,d,z,ne,ob,mA,nn,r,q⟩:=(show zao X.prog X.w X.K H s.heap a (.frz o (.ins C dx fs)) from I.hok a _ e);obtain⟨u,hu,ru⟩:=zfX.some_of (v:=v) (o:=mA f) (by rw [<-l]; exact r f);exact zuJ I.kIn (⟨ob,nn,ne⟩:ObjM s.heap a dx C mA) (c.get f) c.hd n hu (zqb ru) (h u _ (I.tok _) ru)
end
def zxm(K:qe)(f:Str):V->Hp->VK->Prop:=fun x H Q=>∃ a C dx o fs v,x=.ref a/\H a=some (.frz o (.ins C dx fs))/\Cls K C/\zbD K C f/\fs.lookup f=some v/\Q v H
section
variable {X:Cx} {o e value:Expr} {f:Str} {pos pos' tpos:Pos} {ta tv:TE}
theorem zbE(K:qe)(hK:X.K=K)(he:Wr (PE X e ta))(hb:attributeBase e f X.env (eval e X.env)=eval e X.env):Wr (PE X (.Attribute e f pos) (tUn (zxm K f) ta)):=by
 subst hK;refine⟨?_⟩;intro pins s σ H Q I h;refine zuL hb (thn (he.run pins s σ H _ I h) fun u s1 ⟨x,H1,I1,rx,a,C,dx,oo,fs,v,ex,ea,c,n,l,q⟩=>?_);subst ex;obtain rfl:u=Value.ref a:=rx;exact zmW I1 ea c n l fun u' s2 I2 ru=>⟨v,H1,I2,ru,q⟩
end
def spO(K:qe)(C:Addr)(fl:List Str):Sp:=fun vs H Q _=>∃ a dx us,vs=.ref a::us/\us.length=fl.length/\H a=some (.ins C dx [])/\Q .non (upd H a (.ins C dx (fl.zip us)))
theorem zvU{K:qe}{C:Addr}{fl:List Str}{vs:List V}{H:Hp}{Q:VK}{E:XK}(h:spO K C fl vs H Q E):vs.length=fl.length+1:=by
 obtain⟨a,dx,us,rfl,l,_⟩:=h;rw [qv,l]
theorem ztE{K:qe}{C:Addr}{f g h:Str}{N:List Str}{vs:List V}{H:Hp}{Q:VK}{E:XK}(c:Cls K C)(n1:zbD K C f)(n2:zbD K C g)(n3:zbD K C h)(d1:¬f=g)(d2:¬f=h)(d3:¬g=h)(q:spO K C [f,g,h] vs H Q E) :
  zq2 (zuM K (zes 0) (zes 1) f) (zq2 (zuM K (zes 0) (zes 2) g) (zuM K (zes 0) (zes 3) h)) { nx:=fun _ H'=>Q .non H',rt:=Q } (zb9 N vs) H:=by
 obtain⟨a,dx,us,rfl,l,e,q⟩:=q
 match us,l with
 | [u,v,w],_ =>
  refine⟨u,rfl,.ref a,rfl,a,C,dx,[],rfl,e,c,n1,by decide,?_⟩;refine⟨v,rfl,.ref a,rfl,a,C,dx,_,rfl,zD,c,n2,?_,?_⟩
  ·show(zcH f u []).length < 1000
   simp [zcH]
  refine⟨w,rfl,.ref a,rfl,a,C,dx,_,rfl,zD,c,n3,?_,?_⟩
  ·simp only [zcH]
   split<;>simp
  ·show Q .non _
   rw [zh8,zh8];have e3:zcH h w (zcH g v (zcH f u []))=[f,g,h].zip [u,v,w]:=by
    simp [zcH,d1,d2,d3,List.zip]
   rw [e3];exact q
def zAR(K:qe)(C:Addr)(fl:List Str)(t:TA):TE:=fun σ H Q=>zwm C (spO K C fl) [] E0 t σ H fun v H2=>∃ a dx fs,v=.ref a/\H2 a=some (.ins C dx fs)/\∀ o,Q v (upd H2 a (.frz o (.ins C dx fs)))
structure OCal (P:Program) (w:World) (K:qe) (mg:Str->Option Value) (base:Heap) (n:Str) (C:Addr) (fl:List Str):Prop where
 xn:XN K n C
 cl:Cls K C
 na:∀ f∈fl,zbD K C f
 gm:mg n=some (.ref C)
 fn:∃ (f:Addr) (fd:FuncData) (ps:List Str),Mk K C f/\zfq K fd ps []/\FnOk P w K mg base CX0 1 f fd ps (spO K C fl)
section
variable {X:Cx} {C:Addr} {fl:List Str} {k:Nat} {x:Str} {p pos:Pos} {e:Expr} {es:List Expr} {t:TA}
theorem ztF(O:OCal X.prog X.w X.K X.mg X.base x C fl)(ha:Wr (PA X (e::es) t))(hr:Room 2 X.A:=by exact Room.mono ‹Room _ _› (by decide))(hg:Gl X x:=by exact rfl)(hdb:(x==("__debug__":Str))=false:=by decide)
  (he:zah e=true:=by rfl) (hpl:es.all zah=true:=by rfl):Wr (PE X (.Call (.Name x p) (e::es) [] pos) (zAR X.K C fl t)):=by
 obtain⟨f,fd,ps,M,hb,F⟩:=O.fn;refine⟨fun pins s σ H Q I h=>?_⟩;refine thn (zuP (p:=p) (pos:=pos) (dvs:=[]) (E:=E0) M F hr hg O.gm hb .nil zwo ha.run hdb (zcd he) (zcm hpl) pins s σ H _ I h) fun u s1 ⟨v,H2,I2,r,a,dx,fs,ev,e,q⟩=>?_;obtain⟨o,I3⟩:=I2.frzI e;exact⟨v,_,I3,r,q o⟩
end
section
variable {K:qe} {n:Str} {C:Addr} {fl:List Str} {f:Str}
def mkF:List Str->List D->List (D×D)
 | f::fl,d::ds=>(.str f,d)::mkF fl ds
 | _,_=>[]
theorem ztG{H:Hp}:∀ {fl:List Str} {vs:List V} {ds:List D},DFs K H vs ds->DFf K H (fl.zip vs) (mkF fl ds)
 | [],_,_,_=>.nil
 | _::_,_,_,.nil=>.nil
 | _::_,_,_,.cons h t=>.cons h (ztG t)
def zok(n:Str)(fl:List Str)(ds:List D):D:=.dict ((.bool true,.str n)::mkF fl ds)
def zqO(n:Str)(fl:List Str)(ma:MA):ME:=fun ρ=>(ma ρ).bind fun p=>(zbd p.2 p.1).bind fun us=>(zcT us).bind fun ds=>if ds.length=fl.length then some (.u (.d (zok n fl ds)),p.2)else none
theorem ztH{t:TA}{m:MA}(xn:XN K n C)(h:VAs K t m):VE K (zAR K C fl t) (zqO n fl m):=by
 intro ρ σ H a ρ' Q rs e q;obtain⟨⟨as,ρ1⟩,e1,e⟩:=bQ e;obtain⟨us,eu,e⟩:=bQ e;obtain⟨ds,ed,e⟩:=bQ e;split at e
 rotate_left
 ·cases e
 rename_i hl;cases e;refine h ρ σ H as ρ1 _ rs e1 fun vs H1 g1 s1=>?_;have df:=znR (s1.rpl rs g1 eu) ed;intro x dx hx hdx ne;refine⟨x,dx,vs,by rw [List.append_nil],by rw [df.len,hl],zD,rfl,x,dx,_,rfl,zD,fun o=>?_⟩;rw [zh8,zh8];have sm:zbN H1 (upd (upd H1 dx (.own x)) x (.frz o (.ins C dx (fl.zip vs)))):=fun b u hb=>by
  rw [zI (zas hb hx),zI (zas hb hdx)];exact hb
 exact q _ _ (g1.trans (Go.grow g1.rs sm)) ⟨DF.obj zD xn (ztG (df.kp sm.kp)),Nw.data⟩
theorem DF.obj_inv{H:Hp}{v:V}{ds:List (D×D)}(h:DF K H v (.dict ((.bool true,.str n)::ds))):∃ a C dx o fs,v=.ref a/\H a=some (.frz o (.ins C dx fs))/\XN K n C/\DFf K H fs ds:=by
 generalize eq:(PyData.dict ((.bool true,.str n)::ds))=z at h;cases h with
 | dct h t =>
  cases eq;generalize eq2:((PyData.bool true,PyData.str n)::ds)=y at t;cases t with
  | nil=>cases eq2
  | cons=>cases eq2
 | exc h e t=>cases eq
 | obj h e t=>cases eq; exact⟨_,_,_,_,_,rfl,h,e,t⟩
 | _=>cases eq
def zbk(n f:Str):U->Option U
 | .d (.dict ((.bool true,.str m)::ds))=>if m=n then(zn0 f ds).map .d else none
 | _=>none
theorem zaW(xn:XN K n C)(c:Cls K C)(na:zbD K C f):VU K (zxm K f) (zbk n f):=by
 intro x a u H Q h e q;unfold zbk at e;split at e
 ·rename_i m ds
  split at e
  ·rename_i hn
   subst hn;obtain⟨d,ed,rfl⟩:=qt.mp e;obtain⟨a,C',dx,o,fs,rfl,ha,xn',t⟩:=DF.obj_inv h;obtain⟨v,ev,hv⟩:=t.get ed;have:C'=C:=by
    have z:=(show PySem.W.nsIn K mainGlobals m=some (some (.ref C')) from xn').symm.trans (show PySem.W.nsIn K mainGlobals m=some (some (.ref C)) from xn);injection z with z;injection z with z;injection z
   subst this;exact⟨a,C',dx,o,fs,v,rfl,ha,c,na,ev,q v H (zbN.refl H) hv Nw.data⟩
  ·cases e
 ·cases e
end
section
variable {X:Cx} {K:qe}
theorem zmX{H:Hp}:∀ (ns:List Int),DFs K H (ns.map V.int) (ns.map PyData.int)
 | []=>.nil
 | n::ns=>.cons (.int n) (zmX ns)
theorem ztI{g:Addr}{ns:List Int}(gt:GTi K g ns)(hn:ns≠[]:=by decide):VE K (tC (.ref g)) (mC (.tuple (ns.map PyData.int))):=by
 intro ρ σ H a ρ' Q rs e q;cases e;obtain⟨o,i,n,z1,z2,z3,z4,z5⟩:=gt;refine q _ _ (Go.refl rs) ⟨DF.tup (.inr ⟨o,i,n,z1,z2,z3,z4,z5,?_⟩) (zmX ns),Nw.data⟩;cases ns with
 | nil=>exact absurd rfl hn
 | cons a r=>exact⟨a,_,rfl⟩
def zgH(i:Int):Int:=(Builtin.Int.intBits i:Nat)
def zxn:V->List V->Hp->VK->Prop:=fun x xs H Q=>∃ i,x=.int i/\xs=[]/\Q (.int (zgH i)) H
theorem zpP:MtM X "int.bit_length" zxn:=by
 intro pins s σ H x xs v us Q I rx rv h;obtain⟨i,rfl,rfl,q⟩:=h;obtain⟨t,rfl⟩:=rx;cases rv;exact call_int_bit_length ⟨.int (zgH i),H,I.tok _,⟨_,rfl⟩,q⟩
def zmY:U->Option U
 | .d (.int i)=>some (.d (.int (zgH i)))
 | _=>none
theorem ztJ{to:TE}{mo:ME}(h:VE K to mo):VE K (zuW K "int" zxn to) (mUn zmY mo):=by
 intro ρ σ H a ρ' Q rs e q;obtain⟨⟨a1,ρ1⟩,e1,e⟩:=bQ e;obtain⟨x,ex,e⟩:=bQ e;obtain⟨u,eu,e⟩:=bQ e;cases e;refine h ρ σ H a1 _ _ rs e1 fun v1 H1 g1 k1=>?_;have p:=k1.now rs g1 ex;unfold zmY at eu;split at eu
 ·rename_i z
  cases eu;cases DF.int_inv p;exact⟨rfl,z,rfl,rfl,q _ _ g1 ⟨DF.int _,Nw.data⟩⟩
 ·cases eu
theorem zol{prog:Program}{w:World}{A:Around}{E:Value->Shared->Prop}{s:Shared}{d:Addr}{es:Array DictEntry}{ep:Nat}{Q:Bool->Shared->Prop}(hd:(d==sysModules)=false)(r:zfk s.heap d es ep)(hfit:(es.size:Int) < 2^63)
  (h:Q (es.size != 0) { s with toks:=s.toks+1+1 }):wpAny (model prog w) A (truthy (.ref d)) Q E s:=by
 have hT:=r.typeIs;obtain⟨o,e,_,dat⟩:=r;have hne:((es.size:Int) != 0)=(es.size != 0):=by
  cases z:es.size with
  | zero=>rfl
  | succ n =>
   rw [bne_iff_ne.mpr (by omega),bne_iff_ne.mpr (by omega)]
 have key:wpAny (model prog w) A (runValue (.builtin "len" ⟨[.ref d],[]⟩)) (fun r s'=>r=.int es.size (s.toks+1)/\Q (es.size != 0) s') E s:=by
  refine wpAny_runValue (codeAny_builtin entry_len ?_);rw [Around.under_plainId plain_len _];unfold Builtin.«len»;refine qc (m:=oneArg "len" _) (qd ?_);refine qc (m:=callSpecial? (.ref d) (Str.ofString "__len__")) (wpAny_callSpecial?_slot (name:=Str.ofString "__len__") hT F.slot_dict_len
   (wpAny_call_entry F.slot_dict_len hT F.entry_dict_len ?_ (F.args_dict_len_1 _)))
  show wpAny _ _ (dictSize d >>= _) _ _ s;unfold dictSize;refine qc (qc (wpAny_dictEntries e dat (qd ?_)));show wpAny _ _ (Builtin.Dict.pendingCount d >>= _) _ _ s;refine qc (wpAny_pendingCount_other hd ?_);refine wpAny_ret_mkInt ?_;show wpAny _ _ _ _ _ { s with toks:=s.toks+1 };refine qc (wpAny_holding (qd ?_));refine qc (wpAny_letGo ?_);show wpAny _ _ (if((es.size+0:Nat):Int) < 0 then _ else _) _ _ _;rw [if_neg (by omega)];show wpAny _ _ (if((es.size+0:Nat):Int)>=2^63 then _ else _) _ _ _;rw [if_neg (by rw [Nat.add_zero]; omega)];exact qc (wpAny_mkInt (qd ⟨rfl,h⟩))
 unfold truthy
 first
  | refine qc (wpAny_callSpecial?_none (name:=Str.ofString "__bool__") hT noBool_dict ?_)
  | refine qc (qd (qc (wpAny_callSpecial?_none (name:=Str.ofString "__bool__") hT noBool_dict ?_)))
 first
  | refine qc (wpAny_specialOf (name:=Str.ofString "__len__") hT F.slot_dict_len.lookup ?_)
  | refine qc (qd (qc (wpAny_specialOf (name:=Str.ofString "__len__") hT F.slot_dict_len.lookup ?_)))
 first
  | exact qc (wpAny_mono key (fun r s' h'=>by obtain⟨rfl,hq⟩:=h'; exact qd (hne▸hq)) fun _ _ e=>e)
  | exact qc (qd (qc (wpAny_mono key (fun r s' h'=>by obtain⟨rfl,hq⟩:=h'; exact qd (hne▸hq)) fun _ _ e=>e)))
def zxo(ta:TE):TT:=fun σ H Q=>ta σ H fun x H1=>∃ p kvs,x=.ref p/\H1 p=some (.dT kvs)/\Q (!kvs.isEmpty) H1
theorem zzp{a:Expr}{ta:TE}(ha:Wr (PE X a ta))(he:∀ whole,isTrue a X.env whole=(do let v <-whole; standAt a.pos; holding [v] (truthy v)):=by intro _; rfl):Wr (PT X a (zxo ta)):=by
 refine⟨?_⟩;intro pins s σ H Q I h;refine isTrue_plain (thn (ha.run pins s σ H _ I h) fun v s1 ⟨x,H1,I1,r1,p,kvs,ex,ep,q1⟩=>?_) (he _);subst ex;cases r1;obtain⟨z,y,xs,r,o,es,eq,h1,h2,h3,h4,h5⟩:=(show zao X.prog X.w X.K H1 s1.heap p (.dT kvs) from I1.hok p _ ep);have hl:es.size=kvs.length:=by
  have:=congrArg List.length h4;rw [Array.length_toList,List.length_map,<-zcM r]at this;exact this
 have hs:sizeLine=16777216:=sizeLine_eq;refine zol y ⟨o,h1,h2,h3⟩ (by omega) ⟨H1,I1.tok _,?_⟩;have e2:(es.size != 0)=!kvs.isEmpty:=by
  rw [hl];cases kvs<;>rfl
 rw [e2];exact q1
def zmZ(ma:ME):MT:=fun ρ=>(ma ρ).bind fun p=>(p.1.get p.2).bind fun u=>match u with
 | .t kvs=>some (!kvs.isEmpty,p.2)
 | _=>none
theorem zvV{ta:TE}{ma:ME}(ha:VE K ta ma):VT K (zxo ta) (zmZ ma):=by
 intro ρ σ H b ρ' Q r e q;obtain⟨⟨a,ρ1⟩,e1,e⟩:=bQ e;obtain⟨u,eu,e⟩:=bQ e;refine ha ρ σ H a _ _ r e1 fun v H1 g1 k1=>?_;have p:=k1.now r g1 eu;cases u with
 | t kvs =>
  cases e;obtain⟨a,ws,rfl,h1,h2⟩:=p;refine⟨a,ws,rfl,h1,?_⟩;have e2:(!ws.isEmpty)=!kvs.isEmpty:=by cases h2<;>rfl
  rw [e2];exact q _ g1
 | _=>cases e
end
theorem na3{K:qe}{C:Addr}{f g h:Str}(a:zbD K C f)(b:zbD K C g)(c:zbD K C h):∀ x∈[f,g,h],zbD K C x:=fun x hx=>by
 rcases qw.mp hx with rfl | hx
 ·exact a
 rcases qw.mp hx with rfl | hx
 ·exact b
 rcases qw.mp hx with rfl | hx
 ·exact c
 cases hx
section
variable {α β:Type} {c:β->D} {mI:MI} {mg:MG} {mt:MT} {mk mv me ma:ME} {mA:MA} {ρ:En} {QE:Ar×En->Prop} {QT:Bool×En->Prop} {nt:Nat} {js:List Nat}
theorem ztK:Wo (mDC mI nt js mg mt mk mv ρ) QE=Wo (mI ρ) (Co (fun p=>(dcM nt mg mt mk mv p.1 (cEn nt js p.2) []).bind fun q=>some (.u (.t q.1),back js (q.2.drop nt) p.2)) ⟨0⟩ QE):=by
 unfold mDC;rw [zt]
def zzq(nt:Nat)(mk mv:ME)(ys:List (List Key×D))(P:En->List (List Key×D)->Prop)(p:Bool×En):Prop :=
 if p.1=true then Wo (mk p.2) (Co (fun p=>(mv p.2).bind fun q=>(p.1.get q.2).bind fun uk=>(q.1.get q.2).bind fun uv=>uk.da.bind fun dk=>uv.da.bind fun dv=>(zaZ dk).bind fun k=>some (reset nt q.2,zhd ys k dv)) ⟨0⟩ fun z=>P z.1 z.2)else P (reset nt p.2) ys
theorem ztL{ys:List (List Key×D)}{P:En->List (List Key×D)->Prop}:zzq nt mk mv ys P (true,ρ)=Wo (mk ρ) (Co (fun p=>(mv p.2).bind fun q=>(p.1.get q.2).bind fun uk=>(q.1.get q.2).bind fun uv=>uk.da.bind fun dk=>uv.da.bind fun dv=>(zaZ dk).bind fun k=>some (reset nt q.2,zhd ys k dv)) ⟨0⟩ fun z=>P z.1 z.2):=rfl
theorem ztM{ys:List (List Key×D)}{P:En->List (List Key×D)->Prop}:zzq nt mk mv ys P (false,ρ)=P (reset nt ρ) ys:=rfl
def dcP(l:Pq β):Pq β:=l.foldl (fun ys t=>za4 ys t.1 t.2) []
theorem zvW{l:Pq β}:∀ {acc:Pq β},NdK (acc++l)->l.foldl (fun ys t=>za4 ys t.1 t.2) acc=acc++l:=by
 induction l with
 | nil=>intro acc _; simp
 | cons t l ih =>
  intro acc h;have e:za4 acc t.1 t.2=acc++[t]:=by
   unfold za4;rw [if_neg];intro z;obtain⟨u,hu,e⟩:=List.any_eq_true.mp z;have e:=of_decide_eq_true e;have:(acc++t::l).map (·.1)=acc.map (·.1)++t.1::l.map (·.1):=by simp
   rw [NdK,this,List.nodup_append]at h;exact h.2.2 u.1 (List.mem_map.mpr ⟨u,hu,rfl⟩) t.1 (by simp) e
  rw [List.foldl_cons,e,ih (by rw [List.append_assoc]; exact h)];simp
theorem ztN{l:Pq β}(h:NdK l):dcP l=l:=zvW (acc:=[]) h
theorem zjd{g:α->D}{b:α->Bool}{k:α->List Int}{v:α->β}{as:List α}{Q:List (List Key×D)×En->Prop}(hz:as.length<=16777216)
  (st:∀ a∈as,∀ ys:Pq β,Wo (mg (g a) ρ) (Co mt ⟨0⟩ (zzq nt mk mv (kvG c ys) fun ρ' zs=>ρ'=ρ/\zs=kvG c (if b a=true then za4 ys (k a) (v a)else ys))))
  (q:Q (kvG c (dcP ((as.filter b).map fun a=>(k a,v a))),ρ)):Wo (dcM nt mg mt mk mv (as.map g) ρ []) Q:=by
 have main:∀ (es:List α) (acc:Pq β),(∀ a∈es,a∈as)->acc.length+es.length<=16777216->Q (kvG c (((es.filter b).map fun a=>(k a,v a)).foldl (fun ys t=>za4 ys t.1 t.2) acc),ρ)->Wo (dcM nt mg mt mk mv (es.map g) ρ (kvG c acc)) Q:=by
  intro es
  induction es with
  | nil=>intro acc _ _ q; exact⟨_,rfl,q⟩
  | cons a es ih =>
   intro acc hm hl q;rw [qv]at hl;obtain⟨ρ1,e1,⟨bb,ρ2⟩,e2,kk⟩:=st a (hm a qq) acc;rw [List.map_cons];unfold dcM;rw [if_pos (by rw [ztl]; show _ < 16777216; omega),zt];refine⟨ρ1,e1,?_⟩;rw [zcX,zt];refine⟨_,e2,?_⟩;rw [zcX];rw [List.filter_cons]at q;have pl:=zpE acc (k a) (v a);cases bb with
   | false =>
    obtain⟨e3,e4⟩:=kk;rw [if_neg qh,e3,e4]
    by_cases hb:b a=true
    ·rw [if_pos hb]
     rw [if_pos hb]at q;exact ih _ (fun x hx=>hm x (qp _ hx)) (by omega) q
    ·rw [if_neg hb]
     rw [if_neg hb]at q;exact ih _ (fun x hx=>hm x (qp _ hx)) (by omega) q
   | true =>
    rw [if_pos rfl,zt];obtain⟨p,e3,kk⟩:=kk;refine⟨p,e3,?_⟩;rw [zcX];obtain⟨z,e4,e5,e6⟩:=kk;obtain⟨q1,f1,e4⟩:=bQ e4;obtain⟨uk,f2,e4⟩:=bQ e4;obtain⟨uv,f3,e4⟩:=bQ e4;obtain⟨dk,f4,e4⟩:=bQ e4;obtain⟨dv,f5,e4⟩:=bQ e4;obtain⟨kk,f6,e4⟩:=bQ e4;cases e4;rw [f1,bd,f2,bd,f3,bd,f4,bd,f5,bd,f6,bd];dsimp only at e5 e6;rw [e5,e6]
    by_cases hb:b a=true
    ·rw [if_pos hb]
     rw [if_pos hb]at q;exact ih _ (fun x hx=>hm x (qp _ hx)) (by omega) q
    ·rw [if_neg hb]
     rw [if_neg hb]at q;exact ih _ (fun x hx=>hm x (qp _ hx)) (by omega) q
 exact main as [] (fun _ h=>h) (by simpa using hz) q
theorem ztO{n:Str}{fl:List Str}:Wo (zqO n fl mA ρ) QE=Wo (mA ρ) (Co (fun p=>(zbd p.2 p.1).bind fun us=>(zcT us).bind fun ds=>if ds.length=fl.length then some (.u (.d (zok n fl ds)),p.2)else none) ⟨0⟩ QE):=by
 unfold zqO;rw [zt]
def fmD(p:Pq Int)(b r:Int):D:=zok "Form" ["numbers", "beneath", "room"] [.dict (dcG .int p),.int b,.int r]
theorem ztP{p:Pq Int}{b r:Int}:zok "Form" ["numbers", "beneath", "room"] [.dict (dcG .int p),.int b,.int r]=fmD p b r:=id rfl
theorem ztQ{p:Pq Int}{b r:Int}:zbk "Form" "numbers" (.d (fmD p b r))=some (.d (.dict (dcG .int p))):=by
 unfold fmD zok;simp [zbk,mkF,zn0]
theorem ztR{p:Pq Int}{b r:Int}:zbk "Form" "beneath" (.d (fmD p b r))=some (.d (.int b)):=by
 unfold fmD zok;simp only [zbk,mkF,zn0,if_true];rw [if_neg (by decide)];rfl
theorem ztS{p:Pq Int}{b r:Int}:zbk "Form" "room" (.d (fmD p b r))=some (.d (.int r)):=by
 unfold fmD zok;simp only [zbk,mkF,zn0,if_true];rw [if_neg (by decide),if_neg (by decide)];rfl
def ztT:U->Option Bool
 | .t kvs=>some (!kvs.isEmpty)
 | _=>none
theorem zpQ:Wo (zmZ ma ρ) QT=Wo (ma ρ) (Co (fun p=>(p.1.get p.2).bind fun u=>(ztT u).bind fun b=>some (b,p.2)) ⟨0⟩ QT):=by
 have e:zmZ ma ρ=(ma ρ).bind fun p=>(p.1.get p.2).bind fun u=>(ztT u).bind fun b=>some (b,p.2):=by
  unfold zmZ;congr 1
  funext p
  congr 1
  funext u
  cases u<;>rfl
 rw [e,zt]
theorem zpR{p:Pq β}:ztT (.t (kvG c p))=some (!p.isEmpty):=by
 show some (!(kvG c p).isEmpty)=_;unfold kvG;rw [List.isEmpty_map]
theorem zm0{p:Pq β}:zpO (.d (.dict (dcG c p)))=some (p.map fun t=>c t.2):=by
 show(if noX (dcG c p)=true then _ else _)=_;rw [if_pos (zlz p)];unfold dcG;rw [List.map_map];rfl
theorem zpS{i:Int}:zmY (.d (.int i))=some (.d (.int (zgH i))):=id rfl
end
section
variable {X:Cx} {pos pos' apos cpos:Pos} {o i v e f tg:Expr} {td ty tv tx:TE} {k n:Nat} (K:qe) (hK:X.K=K)
include hK
end
section
variable {prog:Program} {w:World} {A:Around} {E:Value->Shared->Prop} {s:Shared}
end
section
variable {prog:Program} {w:World} {A:Around} {E:Value->Shared->Prop} {s:Shared}
end
section
variable {prog:Program} {w:World} {A:Around} {E:Value->Shared->Prop} {h:Heap} {g:Array GenState} {d:Drawn} {t:Nat} {os:OsState} {a:Addr} {items:Array Value} {n:Nat} {sl:Array (Option Value)}
end
section
variable {X:Cx} {pins:List (Addr×Obj)} {σ:St} {H:Hp} {A:Around} {D it a:Addr} {xs:List V} {kvs:List (List Key×V)} {R:Result->Shared->Prop}
end
section
variable {X:Cx}
end
section
variable {K:qe} {H:Hp}
end
end L2
namespace L2
open PySem PySem.Calls PySem.Spec PyProof.Rows
section
variable {prog:Program} {w:World} {A:Around} {E:Value->Shared->Prop} {s:Shared}
end
section
variable {K:qe}
end
end L2
namespace L2
open PySem PySem.Spec PyProof.Rows
section
variable {X:Cx}
end
section
variable {K:qe}
end
def zAS(K:qe)(a b:Addr):It :=
 ⟨fun i H=>∃ xs ys x y,SqL K H a xs/\SqL K H b ys/\xs[i]?=some x/\ys[i]?=some y,fun i H x H'=>∃ T,H T=none/\x=.ref T/\∀ xs ys v u,SqL K H a xs->SqL K H b ys->xs[i]?=some v->ys[i]?=some u->H'=upd H T (.tup [v,u]),fun i H=>∃ xs ys,SqL K H a xs/\SqL K H b ys/\xs.length=i⟩
abbrev zAT(z TI TO i1 i2 t1 t2:Addr)(i:Nat)(h:Heap):Prop:=IsZip h z TI TO .none/\IsPair h TI (.ref i1) (.ref i2)/\(∃ a b,IsPair h TO a b)/\h.IsListIter i1 t1 i/\h.IsListIter i2 t2 i
theorem zqP{P:Program}{w:World}{K:qe}{elts:List Expr}{k:Nat}{pos:Pos}(z TI TO i1 i2 t1 t2:Addr)(ap:ZipApart z TI TO i1 i2 t1 t2) :
  Turn P w K (.Tuple elts k pos) (zAS K t1 t2) [z,TI,TO,i1,i2] z (zAT z TI TO i1 i2 t1 t2) where
 mem:=by simp
 obj:=fun i h st c hc=>by
  obtain⟨hz,hI,⟨a,b,hO⟩,⟨o1,e1,_,d1⟩,⟨o2,e2,_,d2⟩⟩:=st;simp only [qw,List.not_mem_nil,or_false]at hc;rcases hc with rfl | rfl | rfl | rfl | rfl
  ·exact⟨_,hz,fun v q=>by
    have q':Data.fields _=Data.cell v:=q;cases q'⟩
  ·exact⟨_,hI,fun v q=>by
    have q':Data.seq _ _=Data.cell v:=q;cases q'⟩
  ·exact⟨_,hO,fun v q=>by
    have q':Data.seq _ _=Data.cell v:=q;cases q'⟩
  ·exact⟨o1,e1,fun v q=>by rw [d1]at q; cases q⟩
  ·exact⟨o2,e2,fun v q=>by rw [d2]at q; cases q⟩
 keep:=fun i h h' st kk=>by
  obtain⟨hz,hI,⟨a,b,hO⟩,⟨o1,e1,r1⟩,⟨o2,e2,r2⟩⟩:=st;exact⟨kk z (by simp) _ hz,kk TI (by simp) _ hI,⟨a,b,kk TO (by simp) _ hO⟩,⟨o1,kk i1 (by simp) _ e1,r1⟩,⟨o2,kk i2 (by simp) _ e2,r2⟩⟩
 item:=by
  intro X hP hw hK hc i pins s σ H E I hf st hg;subst hP hw hK;obtain⟨xs,ys,x,y,hq1,hq2,hx,hy⟩:=hg;obtain⟨hz,hI,⟨a,b,hO⟩,h1,h2⟩:=st;obtain⟨its1,rv1,ht1,_⟩:=I.list hq1;obtain⟨its2,rv2,ht2,_⟩:=I.list hq2;obtain⟨u1,eu1,r1⟩:=rv1.get hx;obtain⟨u2,eu2,r2⟩:=rv2.get hy;refine wpAny_pyNext_zip_item ap hz hI hO h1 h2 ht1.isList ht2.isList (by simpa using eu1) (by simpa using eu2) fun h' z' O' k1 k2 isT _ kk=>?_;refine⟨_,rfl,wpAny_letOwnedTupleGo_zip (s:={ s with heap:=h' }) z' fun h2' z2 sb=>?_⟩;have nm:s.heap.objs.size∉[z,TI,TO,i1,i2]:=fun hm=>by
   have:s.heap.objs.size < s.heap.objs.size:=by
    simp only [qw,List.not_mem_nil,or_false]at hm;obtain⟨_,e1,_⟩:=h1;obtain⟨_,e2,_⟩:=h2;rcases hm with h | h | h | h | h
    ·exact qk (h▸qj hz) (qg _)
    ·exact qk (h▸qj hI) (qg _)
    ·exact qk (h▸qj hO) (qg _)
    ·exact qk (h▸qj e1) (qg _)
    ·exact qk (h▸qj e2) (qg _)
   exact Nat.lt_irrefl _ this
  have nz:s.heap.objs.size≠z:=fun h=>nm (by rw [h]; simp);have I2:Inv X pins σ H { s with heap:=h2' }:=I.turnedW (t':=s.toks) (wr:=[z,TI,TO,i1,i2]) (fun c o hc q=>by
   simp only [qw,List.not_mem_nil,or_false,not_or]at hc;exact(sb.2 c hc.1).trans (kk c o hc.1 hc.2.2.1 hc.2.2.2.1 hc.2.2.2.2 q)) hf
  have fT:zdv X pins H s.heap.objs.size:=I.fpOk (qg _) (I.hok.fresh (qg _));have I3:Inv X pins σ (upd H s.heap.objs.size (.tup [x,y])) { s with heap:=h2' }:=I2.track fT I.sz ⟨by show 2<=sizeLine; decide,[u1,u2],.cons r1 (.cons r2 .nil),_,(sb.2 _ nz).trans isT,rfl,⟨_,rfl⟩,.inl rfl⟩;refine⟨.ref s.heap.objs.size,_,I3,rfl,⟨_,I.hok.fresh (qg _),rfl,fun xs' ys' v u hq1' hq2' hv hu=>?_⟩,⟨z2,(sb.2 _ ap.TIz).trans (kk _ _ ap.TIz ap.TITO ap.TIi1 ap.TIi2 hI),⟨_,_,(sb.2 _ ap.TOz).trans O'⟩,?_,?_⟩,fun c hc=>?_⟩
  ·cases I.list_inj hq1 hq1'
   cases I.list_inj hq2 hq2';rw [hx]at hv;rw [hy]at hu;cases hv;cases hu;rfl
  ·obtain⟨o,e,r⟩:=k1
   exact⟨o,(sb.2 _ ap.i1z).trans e,r⟩
  ·obtain⟨o,e,r⟩:=k2
   exact⟨o,(sb.2 _ ap.i2z).trans e,r⟩
  ·have ne:c≠s.heap.objs.size:=fun h=>nm (h▸hc)
   rw [zI ne];exact(hf c hc).1
 done:=by
  intro X hP hw hK hc i pins s σ H E I hf st hg;subst hP hw hK;obtain⟨xs,ys,hq1,hq2,hl⟩:=hg;obtain⟨hz,hI,⟨a,b,hO⟩,h1,h2⟩:=st;obtain⟨its1,rv1,ht1,_⟩:=I.list hq1;obtain⟨its2,rv2,ht2,_⟩:=I.list hq2;refine wpAny_pyNext_zip_end (I.ok.hd hc) ap hz hI hO h1 h2 ht1.isList ht2.isList (.inl<|by
   have:=rv1.length;simp;omega) fun h' kk=>⟨rfl,I.turnedW (t':=s.toks) (wr:=[z,TI,TO,i1,i2]) (fun c o hc q=>by
   simp only [qw,List.not_mem_nil,or_false,not_or]at hc;exact kk c o hc.1 hc.2.2.1 hc.2.2.2.1 hc.2.2.2.2 q) hf⟩
 self:=fun _ _ _ _ _ st h=>wpAny_pyIter_zip st.1 h
section
variable {X:Cx} {elts:List Expr} {k:Nat} {tpos:Pos}
def zxp(K:qe)(ta:TA):TI:=fun σ H R=>ta σ H fun vs H1=>∃ a b,vs=[.ref a,.ref b]/\(∃ xs,SqL K H1 a xs)/\(∃ ys,SqL K H1 b ys)/\R (zAS K a b) H1
theorem zvX{a b:Expr}{ta:TA}{p pos:Pos}{K:qe}(ha:Wr (PA X [a,b] ta))(hK:X.K=K:=by rfl)(hg:Gl X "zip":=by exact rfl)(hm:X.mg "zip"=none:=by exact ziG ‹Bl _ _› (by decide))(hs:zah a=true:=by rfl)(hs2:[b].all zah=true:=by rfl) :
  Wr (PI X (.Tuple elts k tpos) (.Call (.Name "zip" p) [a,b] [] pos) (zxp K ta)):=by
 subst hK;refine⟨?_⟩;intro pins s σ H R I h;refine Call_ (zfY I hg hm boot_zip (PyProof.Rows.callWith_type1 (thn (ha.run pos pins s σ H _ I h) fun us s1 ⟨vs,H1,I1,r1,q1⟩=>?_) (zcd hs) (zcm hs2)));obtain⟨t1,t2,e,⟨xs,hq1⟩,⟨ys,hq2⟩,q⟩:=q1;subst e;obtain⟨u1,u2,rfl,ru1,ru2⟩:=zoG r1;cases ru1;cases ru2;obtain⟨its1,rv1,ht1,hz1⟩:=I1.list hq1;obtain⟨its2,rv2,ht2,hz2⟩:=I1.list hq2;have tl1:t1 < s1.heap.objs.size:=by
  exact ht1.lt
 have tl2:t2 < s1.heap.objs.size:=by
  exact ht2.lt
 have lt_ne:∀ {x y:Nat},x < y->x≠y:=fun h=>ql h;refine call_zip_2 ht1.isList ht2.isList fun h' c1 c2 c3 c4 c5 _ kk=>?_;have hst:zAT (s1.heap.objs.size+4) (s1.heap.objs.size+2) (s1.heap.objs.size+3) s1.heap.objs.size (s1.heap.objs.size+1) t1 t2 0 h':=⟨c1,c2,⟨_,_,c3⟩,c4,c5⟩;have I2:Inv X pins σ H1 { s1 with heap:=h' }:=I1.kept (t':=s1.toks) kk;refine wpAny_pyIter_zip hst.1 ?_;have f:∀ j:Nat,zdv X pins H1 (s1.heap.objs.size+j):=fun j=>I1.fpOk (Nat.le_add_right _ _) (I1.hok.fresh (Nat.le_add_right _ _));have ap:ZipApart (s1.heap.objs.size+4) (s1.heap.objs.size+2) (s1.heap.objs.size+3) s1.heap.objs.size (s1.heap.objs.size+1) t1 t2:=by
  generalize s1.heap.objs.size=n at tl1 tl2;constructor<;>(simp only [Addr]at *; omega)
 refine⟨_,_,_,_,H1,rfl,I2,zqP _ _ _ _ _ t1 t2 ap,hst,fun c hc=>?_,q⟩;simp only [qw,List.not_mem_nil,or_false]at hc;rcases hc with rfl | rfl | rfl | rfl | rfl
 ·exact f 4
 ·exact f 2
 ·exact f 3
 ·exact f 0
 ·exact f 1
end
section
variable {X:Cx} {K:qe}
end
section
variable {prog:Program} {w:World} {A:Around} {E:Value->Shared->Prop} {s:Shared} {d:Addr} {ep:Nat} {es:Array DictEntry}
end
section
variable {X:Cx}
end
section
variable {K:qe}
end
theorem zBp{α:Type}:∀ {us:List α},us.length=1->∃ a,us=[a]
 | [a],_=>⟨a,rfl⟩
theorem zBq{α:Type}:∀ {us:List α},us.length=2->∃ a b,us=[a,b]
 | [a,b],_=>⟨a,b,rfl⟩
theorem zBr{α:Type}:∀ {us:List α},us.length=3->∃ a b c,us=[a,b,c]
 | [a,b,c],_=>⟨a,b,c,rfl⟩
theorem zAU{α:Type}:∀ {us:List α},us.length=4->∃ a b c d,us=[a,b,c,d]
 | [a,b,c,d],_=>⟨a,b,c,d,rfl⟩
theorem zBs{α:Type}:∀ {us:List α},us.length=5->∃ a b c d e,us=[a,b,c,d,e]
 | [a,b,c,d,e],_=>⟨a,b,c,d,e,rfl⟩
structure Zs where
 P:Program
 w:World
 K:qe
 mg:Str->Option Value
 base:Heap
def FnK(K:qe)(x:Str)(st:Stmt):Prop:=∃ (f:Addr) (fd:FuncData),Fun K x x st f fd/\PySem.W.nsIn K mainGlobals x=some (some (.ref f))
theorem fnK{K:qe}{x:Str}{st:Stmt}{f:Addr}{oc:Value}{od an:Option Addr}{osl:Array (Option Value)}{kV doc pm cdv ct:Value}(a:PySem.W.nsIn K mainGlobals x=some (some (.ref f)))(l:K.lookup f=some ⟨oc,od,.func (PySem.W.fnOf x x (zd0 st) (zbW st) (zaj st) .none kV doc pm an cdv ct),osl⟩)
  (c:PySem.W.codeIn K cdv x=true) (k:PySem.W.keepIn K (.ref f)=true):FnK K x st:=⟨f,_,zrx l c k,a⟩
def FnZ(Z:Zs)(x:Str)(st:Stmt):Prop:=∃ (f:Addr) (fd:FuncData),Fun Z.K x x st f fd/\Z.mg x=some (.ref f)
theorem FnK.z{P:Program}{w:World}{K:qe}{h base:Heap}{mg:Str->Option Value}{x:Str}{st:Stmt}(a:FnK K x st)(X:K.In h)(G:h.Ns mainGlobals mg):FnZ ⟨P,w,K,mg,base⟩ x st:=by
 obtain⟨f,fd,F,g⟩:=a;exact⟨f,fd,F,PySem.W.mg_of X G g⟩
abbrev Zs.C(Z:Zs)(x:Str)(k:Nat)(ps:List Str)(n:Nat)(F:FD):Prop:=Cal Z.P Z.w Z.K Z.mg Z.base x k ps (spV Z.K n F)
abbrev Zs.X(Z:Zs)(x:Str)(k:Nat)(ps:List Str)(n:Nat)(F:FX):Prop:=CalX Z.P Z.w Z.K Z.mg Z.base x k ps (spX Z.K n F)
section
variable {Z:Zs} {x:Str} {st:Stmt} {ps:List Str} {k n nn:Nat} {pn:List Nat} {m:MS} {f:Addr} {fd:FuncData}
abbrev zxq(Z:Zs)(x:Str)(st:Stmt)(k:Nat)(pn:List Nat)(m:MS)(N:List Str)(f:Addr):Prop:=∀ {cdv:Value} {A:Around} {outer:List Env} {s:Shared} {H:Hp} {E:XK},N.Nodup->Room k (A.deeper (envOfC x (zaj st) s.heap.objs.size f cdv)) ->
 ∃ t,VS Z.K pn EX0 t m/\Wr (PSs (zkP CX0 Z.P Z.w Z.K Z.mg Z.base N x (zaj st) f cdv A outer s H E).nox (zbW st) t)
theorem okZ(F:Fun Z.K x x st f fd)(N:List Str)(hbody:zxq Z x st k pn m N f)(S:FnScope N ps (zaj st):=by exact⟨rfl,rfl,rfl,by decide +kernel,rfl,by decide +kernel,by decide +kernel⟩)(hps:ps.length=n:=by rfl)(hN:N.length=nn:=by rfl)(hnn:n<=nn:=by decide) :
  FnOk Z.P Z.w Z.K Z.mg Z.base CX0 (k+1) f fd ps (spV Z.K n (zaz nn pn m)):=F.okV S hps hN hnn fun cdv A outer s H E hr=>let ⟨t,a,b⟩:=hbody S.nd hr; ⟨t,b,a⟩
theorem zaK(A:FnZ Z x st)(N:List Str)(hbody:∀ {f},zxq Z x st k pn m N f)(S:FnScope N ps (zaj st):=by exact⟨rfl,rfl,rfl,by decide +kernel,rfl,by decide +kernel,by decide +kernel⟩)(hps:ps.length=n:=by rfl)(hN:N.length=nn:=by rfl)(hnn:n<=nn:=by decide)
  (hb:∀ (kV doc pm:Value) (an:Option Addr) (cdv ct:Value) (us:List Value),us.length=ps.length->bindArgs (PySem.W.fnOf x x (zd0 st) (zbW st) (zaj st) .none kV doc pm an cdv ct) ⟨us,[]⟩=pure (ps.zip us):=by
   intro _ _ _ _ _ _ us hl
   first
   | (obtain⟨_,rfl⟩:=zBp hl; rfl)
   | (obtain⟨_,_,rfl⟩:=zBq hl; rfl)
   | (obtain⟨_,_,_,rfl⟩:=zBr hl; rfl)
   | (obtain⟨_,_,_,_,rfl⟩:=zAU hl; rfl)
   | (obtain⟨_,_,_,_,_,rfl⟩:=zBs hl; rfl)
   | (cases(List.eq_nil_of_length_eq_zero hl); rfl)):Z.C x (k+1) ps n (zaz nn pn m) :=
 let ⟨f,fd,F,g⟩:=A; ⟨⟨f,fd,okZ F N hbody S hps hN hnn,F.binds hb,F.kp,g⟩⟩
end
def ztU:U->Option (List D)
 | .l xs=>some xs
 | _=>none
theorem zm1{u:U}{xs:List D}(h:ztU u=some xs):u=.l xs:=by
 cases u<;>cases h;rfl
def zvY(i:Nat):MI:=fun ρ=>((ρ[i]?).join).bind fun u=>(ztU u).bind fun xs=>some (xs,ρ)
theorem zje{ρ:En}{i:Nat}{u:U}(h:(ρ[i]?).join=some u):ρ[i]?=some (some u):=by
 cases e:ρ[i]? with
 | none=>rw [e]at h; cases h
 | some o =>
  rw [e]at h;cases h;rfl
section
variable {K:qe} {ρ:En} {σ:St} {H:Hp} {js:List Nat} {i:Nat} {a:Addr}
theorem zm2{u:U}(r:Rs K ρ σ H)(hi:i∉js)(e:ρ[i]?=some (some u))(o:u.own=true)(es:σ[i]?=some (some (.ref a))):¬zhX ρ σ js a:=by
 rintro⟨p,j,w,hp,ej,ow,ej'⟩;cases r.apart i j u w e ej o ow (by rw [es,ej']);exact hi (List.mem_of_getElem? hp)
theorem zzr(hi:i∉js:=by decide):VIA K js (zoC K (zes i)) (zvY i):=by
 intro ρ σ H ds ρ' R r e q;obtain⟨u,eu,e⟩:=bQ e;obtain⟨xs,ex,e⟩:=bQ e;cases e;cases zm1 ex;have eu:=zje eu;obtain⟨v,ev,p⟩:=r.rep i _ eu;obtain⟨a,us,rfl,h1,h2⟩:=p;refine⟨.ref a,ev,a,rfl,⟨us,SqL.of h1⟩,q _ _ (Go.refl r) fun H2 k f j=>?_⟩;have hk:=f a _ h1 (zm2 r hi eu rfl ev);refine⟨fun d ed=>?_,fun ei=>⟨us,SqL.of hk,by rw [h2.len,ei]; exact qg _⟩⟩;obtain⟨v,ev,dv⟩:=(h2.kp k).get ed;refine⟨⟨us,v,SqL.of hk,ev⟩,fun x H' y=>?_⟩;obtain⟨rfl,y⟩:=y;have:=y us (SqL.of hk);rw [ev]at this;cases this;exact⟨zbN.refl _,dv⟩
def zpT(i:Nat)(me:ME):MI:=fun ρ=>((ρ[i]?).join).bind fun _=>(me ρ).bind fun p=>((p.2[i]?).join).bind fun u=>(ztU u).bind fun xs=>(p.1.get p.2).bind fun w=>(zqv w).bind fun ys=>if xs.length=ys.length then some (zjR xs ys,p.2)else none
theorem zvZ{te:TE}{me:ME}(h:VE K te me)(hi:i∉js:=by decide):VIA K js (zxp K (zfp (zes i) (zfp te zny))) (zpT i me):=by
 intro ρ σ H ds ρ' R r e q;obtain⟨u0,e0,e⟩:=bQ e;obtain⟨⟨a2,ρ1⟩,e1,e⟩:=bQ e;obtain⟨u,eu,e⟩:=bQ e;obtain⟨xs,ex,e⟩:=bQ e;obtain⟨w,ew,e⟩:=bQ e;obtain⟨ys,ey,e⟩:=bQ e;split at e
 rotate_left
 ·cases e
 rename_i hl;cases e;cases zm1 ex;have eu:=zje eu;obtain⟨v0,ev0,_⟩:=r.rep i _ (zje e0);refine⟨v0,ev0,?_⟩;refine h ρ σ H a2 ρ1 _ r e1 fun v2 H1 g1 k1=>?_;obtain⟨v,ev,p⟩:=g1.rs.rep i _ eu;cases ev0.symm.trans ev;obtain⟨a,us,rfl,h1,d1⟩:=p;have p2:=k1.now r g1 ew;unfold zqv at ey;split at ey
 rotate_left
 ·cases ey
 cases ey;obtain⟨b,vy,rfl,h2,d2⟩:=DF.lst_inv p2;refine⟨a,b,rfl,⟨us,SqL.of h1⟩,⟨vy,PL.sq h2⟩,q _ _ g1 fun H2 kk f j=>?_⟩;have hk:=f a _ h1 (zm2 g1.rs hi eu rfl ev);refine⟨fun d ed=>?_,fun ei=>⟨us,vy,SqL.of hk,(PL.kp kk h2).sq,by rw [zi5 _ _ hl]at ei; rw [d1.len]; exact ei.symm⟩⟩;obtain⟨x,y,ex,ey,rfl⟩:=zlv ed;obtain⟨v,ev,dv⟩:=(d1.kp kk).get ex;obtain⟨w,ew,dw⟩:=(d2.kp kk).get ey;refine⟨⟨us,vy,v,w,SqL.of hk,(PL.kp kk h2).sq,ev,ew⟩,fun z H' y=>?_⟩;obtain⟨T,nT,rfl,y⟩:=y;cases y us vy v w (SqL.of hk) ((PL.kp kk h2).sq) ev ew;have sm:=zag nT (.tup [v,w]);exact⟨sm,.tup (.inl zD) (.cons (dv.kp sm.kp) (.cons (dw.kp sm.kp) .nil))⟩
end
end L2
namespace L2
open PySem
section
variable {α β:Type} {a:α} {f:α->Option β} {R:β->Prop} {t:Ph f}
theorem zxr:Wo (some a) (Co f t R)=Wo (f a) R:=za1
theorem zxs{x:Fl}{Q:Fl->Prop}{P:En->Prop}:Wo (some x) (zgB Q P)=zgB Q P x:=za1
end
end L2
namespace K32
open PySem L2
def top(i:Nat):Stmt:=PySem.Challenge.pw_undivide_k32_what_nodes_stand_for.main.body.getD i (.Pass ⟨0,0,0,0⟩)
abbrev zhw:Stmt:=top 3
abbrev zem:Stmt:=top 4
abbrev zfx:Stmt:=top 5
abbrev zjf:Stmt:=top 6
abbrev zfy:Stmt:=top 8
abbrev zkD:Stmt:=top 12
abbrev zjg:Stmt:=top 13
abbrev zhx:Stmt:=top 14
abbrev zc1:Stmt:=top 15
abbrev zc2:Stmt:=top 16
abbrev zdf:Stmt:=top 17
abbrev zeP:Stmt:=top 18
abbrev zjh:Stmt:=top 20
abbrev zgI:Stmt:=top 22
abbrev zeQ:Stmt:=top 23
abbrev zfz:Stmt:=top 24
abbrev zkE:Stmt:=top 25
abbrev zji:Stmt:=top 26
abbrev zgJ:Stmt:=top 27
abbrev zhy:Stmt:=top 28
abbrev zjj:Stmt:=top 29
abbrev zhz:Stmt:=top 31
abbrev zgK:Stmt:=top 32
abbrev zfA:Stmt:=top 33
abbrev zdQ:Stmt:=top 34
abbrev zgL:Stmt:=top 35
abbrev zfB:Stmt:=top 36
abbrev zdR:Stmt:=top 37
abbrev zdg:Stmt:=top 38
abbrev zcs:Stmt:=top 39
abbrev zct:Stmt:=top 40
abbrev zdh:Stmt:=top 41
abbrev zeR:Stmt:=top 42
abbrev zeS:Stmt:=top 43
abbrev zhA:Stmt:=top 44
abbrev zfC:Stmt:=top 45
abbrev zgM:Stmt:=top 46
abbrev zhB:Stmt:=top 47
abbrev zhC:Stmt:=top 48
abbrev zeT:Stmt:=top 49
abbrev zdi:Stmt:=top 50
abbrev zdS:Stmt:=top 51
abbrev zfD:Stmt:=top 52
abbrev zen:Stmt:=top 53
abbrev zfE:Stmt:=top 54
abbrev zfF:Stmt:=top 55
abbrev zxt:Stmt:=top 56
def zAV:List (Str×List Str):=[]
abbrev xfl:List Str:=[]
def zzs:Stmt->Stmt
 | .ClassDef _ _ _ (b::_) _ _ _ _ _ _ _=>b
 | s=>s
abbrev zgN:Stmt:=zzs (top 11)
theorem ztV:FnScope ["self", "numbers", "beneath", "room"] ["self", "numbers", "beneath", "room"] (zaj zgN):=⟨rfl,rfl,rfl,by decide +kernel,rfl,by decide +kernel,by decide +kernel⟩
section
variable {P:Program} {w:World} {K:qe} {mg:Str->Option Value} {base:Heap} {f:Addr} {fd:FuncData}
end
section
def Bs(Z:Zs):Prop:=Bl Z.mg ["isinstance", "int", "bool", "tuple", "len", "abs", "zip", "max", "sorted", "range", "dict", "list", "all"]/\XT Z.K zAV xfl/\(∃ T,Z.mg "ROOM"=some (.int 256 T))/\(∃ G,Z.mg "NOUGHT"=some (.ref G)/\GTi Z.K G [0,1])/\(∃ G,Z.mg "ONE"=some (.ref G)/\GTi Z.K G [1,1])/\(∃ C,OCal Z.P Z.w Z.K Z.mg Z.base "Form" C ["numbers", "beneath", "room"])
variable {Z:Zs}
def zhD:MS:=(zak (zft (mUn (zeJ "int") (zj 0)) (zmj (mUn (zeJ "bool") (zj 0)))))
def zbU:FD:=zaz 1 [0] zhD
abbrev zeU(Z:Zs):Prop:=Z.C "is_number" 1 ["thing"] 1 zbU
theorem zm3(B:Bs Z)(A:FnZ Z "is_number" zhw):zeU Z :=
 have hB:=B.1; zaK A ["thing"] fun nd hr=>⟨_,(zU (zf7 (zeK (T := "int") ze) (zrX (zeK (T := "bool") ze)))),
 (zC (zM (ziJ (zau zeC PyProof.Rows.boot_isinstance (w_a w_v (w_a (zcJ (v:=.ty "int") PyProof.Rows.boot_int rfl) zi))) (zma (w_not (zau zeC PyProof.Rows.boot_isinstance (w_a w_v (w_a (zcJ (v:=.ty "bool") PyProof.Rows.boot_bool rfl) zi))))))))⟩
def zeo:MS:=(zA (zf9 (zvb (zj 1)) (zqw 0 1 (zf (zj 1) (zf (mOp zgq (zj 0) (zj 1)) zq))))
  (zak (zj 0)))
def zal:FD:=zaz 2 [] zeo
abbrev za5(Z:Zs):Prop:=Z.C "common_factor" 1 ["one", "other"] 2 zal
theorem zhZ(B:Bs Z)(A:FnZ Z "common_factor" zem):za5 Z :=
 have hB:=B.1; zaK A ["one", "other"] fun nd hr=>⟨_,(zr (zoX (zyC ze) (zr0 (zd ze (zd (zo zcQ ze ze) zk))))
 (zU ze)),
 (w_s (zoP (zz1 w_v) (zC (zrK (w_a w_v (w_a (zR zcG w_v w_v) zi)))))
 (zC (zM w_v)))⟩
def zfG:MS:=(zak (mCB (f1 zbP) (zf (mLC (zvE (zf (zj 0) (zf (zj 1) zq))) 2 [] (zbq 2 (zY (zB 0) (zY (zB 1) zbG))) zgz (mOp zbY (zj 0) (zj 1))) zq)))
def zch:FD:=zaz 2 [0,1] zfG
abbrev zfH(Z:Zs):Prop:=Z.C "powers_plus" 1 ["one", "other"] 2 zch
theorem zjU(B:Bs Z)(A:FnZ Z "powers_plus" zfy):zfH Z :=
 have hB:=B.1; zaK A ["one", "other"] fun nd hr=>⟨_,(zU (zar zbF (zd (zml (zs7 (zd ze (zd ze zk))) (zbh (zQ zv (zQ zv zbg))) zcW (zo zaw ze ze)) zk))),
 (zC (zM (zfj za7 PyProof.Rows.boot_tuple (w_a (zmb (zs5 (w_a w_v (w_a w_v zi))) (zbc (w_g zu (w_g zu zbb))) zcL (zR zav w_v w_v)) zi))))⟩
def zhE:MS:=(zA (zZ 2 (mOp zbY (mOp zf5 (mC (.int 7919)) (zj 1)) (mC (.int 11))))
  (zA (zay (mB (mOp fLt (zj 1) (mCB (f1 zbv) (zf (zj 0) zq)))) (zZ 2 (mOp zax (zj 0) (zj 1))) (zay (mB (mOp fGt (mCB (f1 zbv) (zf (zj 0) zq)) (mC (.int 0)))) (zZ 2 (mOp zbY (zj 2) (mOp zf5 (mOp zgq (mOp zax (zj 0) (mOp zgq (zj 1) (mCB (f1 zbv) (zf (zj 0) zq)))) (mC (.int 2147483629))) (mC (.int 69623))))) zap))
  (zA (zZ 3 (mOp zbY (mOp zgq (mOp zbY (mOp zf5 (mOp zgq (zj 2) (mC (.int 2147483629))) (mC (.int 48271))) (mOp zf5 (mC (.int 40692)) (zj 1))) (mC (.int 2147483629))) (mC (.int 1))))
  (zak (zeu (zf (mOp zf5 (zj 2) (mCB (f1 ziU) (zf (mOp fGe (zj 2) (mOp zu8 (mC (.int 10)) (mC (.int 18)))) zq))) (zf (zj 3) zq)))))))
def zco:FD:=zaz 4 [0,1] zhE
abbrev zhF(Z:Zs):Prop:=Z.C "_law_box" 1 ["_law_script", "_law_k"] 2 zco
theorem zm4(B:Bs Z)(A:FnZ Z "_law_box" zhz):zhF Z :=
 have hB:=B.1; zaK A ["_law_script", "_law_k", "_law_cell", "_law_seed"] fun nd hr=>⟨_,(zr (zH (zo zaw (zo zcP zm ze) zm))
 (zr (ziX (zaf (zz (zo zeE ze (zar zan (zd ze zk)))) (zH (zo zW ze ze)) (zaf (zz (zo zrT (zar zan (zd ze zk)) zm)) (zH (zo zaw ze (zo zcP (zo zcQ (zo zW ze (zo zcQ ze (zar zan (zd ze zk)))) zm) zm))) zae)))
 (zr (zH (zo zaw (zo zcQ (zo zaw (zo zcP (zo zcQ ze zm) zm) (zo zcP zm ze)) zm) zm))
 (zU (zcU (zd (zo zcP ze (zar zic (zd (zo zws ze (zo zyx zm zm)) zk))) (zd ze zk))))))),
 (w_s (zJ (zR zav (zR zcF zn w_v) zn))
 (w_s (ziK (zaJ (zK zew w_v (zau zaM PySem.boot_len (w_a w_v zi))) (zC (zJ (zL zai w_v w_v))) (zC (zaJ (zK zrb (zau zaM PySem.boot_len (w_a w_v zi)) zn) (zC (zJ (zR zav w_v (zR zcF (zR zcG (zL zai w_v (zR zcG w_v (zau zaM PySem.boot_len (w_a w_v zi)))) zn) zn)))) zad))))
 (w_s (zJ (zR zav (zR zcG (zR zav (zR zcF (zR zcG w_v zn) zn) (zR zcF zn w_v)) zn) zn))
 (zC (zM (zcK (w_a (zR zcF w_v (zfj ze5 PyProof.Rows.boot_int (w_a (ziI zwl w_v (zR zx5 zn zn)) zi))) (w_a w_v zi))))))))⟩
def zgO:MS:=(zA (zay (mB (mOp fGt (mOp zax (zj 0) (mC (.int 0))) (mC (.int 0)))) (zA (zZ 2 (mOp zgq (mOp zax (zj 0) (mC (.int 0))) (zj 1)))
  (zA (zga 0 (mOp ziS (mOp zax (zj 0) (mC (.int 0))) (zj 1)) (mC (.int 0)))
  (zak (zj 2)))) zap)
  (zA (zZ 3 (mOp zgq (mOp zf5 (mOp zax (zj 0) (mC (.int 1))) (mC (.int 69623))) (mC (.int 2147483647))))
  (zA (zga 0 (mOp zbY (mOp zgq (mOp zbY (mOp zf5 (zj 3) (mC (.int 48271))) (mC (.int 30103))) (mC (.int 2147483629))) (mC (.int 1))) (mC (.int 1)))
  (zak (mOp zgq (mOp ziS (mOp zbY (mOp zf5 (zj 3) (mC (.int 2147483647))) (mOp zax (zj 0) (mC (.int 1)))) (mC (.int 8191))) (zj 1))))))
def zw:FD:=zaz 4 [0,1] zgO
abbrev zaU(Z:Zs):Prop:=Z.C "_law_take" 1 ["_law_box_here", "_law_wide"] 2 zw
theorem zlE(B:Bs Z)(A:FnZ Z "_law_take" zgK):zaU Z :=
 have hB:=B.1; zaK A ["_law_box_here", "_law_wide", "_law_digit", "_law_one"] fun nd hr=>⟨_,(zr (zaf (zz (zo zrT (zo zW ze zm) zm)) (zr (zH (zo zcQ (zo zW ze zm) ze))
 (zr (zlh (zo zib (zo zW ze zm) ze) zm)
 (zU ze))) zae)
 (zr (zH (zo zcQ (zo zcP (zo zW ze zm) zm) zm))
 (zr (zlh (zo zaw (zo zcQ (zo zaw (zo zcP ze zm) zm) zm) zm) zm)
 (zU (zo zcQ (zo zib (zo zaw (zo zcP ze zm) (zo zW ze zm)) zm) ze))))),
 (w_s (zaJ (zK zrb (zL zai w_v zn) zn) (w_s (zJ (zR zcG (zL zai w_v zn) w_v))
 (w_s (zhs (zR zgo (zL zai w_v zn) w_v) (znJ w_v zn ziz))
 (zC (zM w_v)))) zad)
 (w_s (zJ (zR zcG (zR zcF (zL zai w_v zn) zn) zn))
 (w_s (zhs (zR zav (zR zcG (zR zav (zR zcF w_v zn) zn) zn) zn) (znJ w_v zn ziz))
 (zC (zM (zR zcG (zR zgo (zR zav (zR zcF w_v zn) (zL zai w_v zn)) zn) w_v))))))⟩
def zdT:MS:=(zA (zZ 2 (mCB (f1 zmi) (zf (zj 0) zq)))
  (zA (zZ 3 (mCB (f1 zmi) (zf (zj 1) zq)))
  (zA (zf9 (mB (mOp (zaQ true) (zj 3) (mC (.int 0)))) (zqw 2 3 (zf (zj 3) (zf (mOp zgq (zj 2) (zj 3)) zq))))
  (zA (zay (mB (mOp fLt (zj 1) (mC (.int 0)))) (zZ 2 (mOp ziR (mC (.int 0)) (zj 2))) zap)
  (zak (zbe (zf (mOp zht (zj 0) (zj 2)) (zf (mOp zht (zj 1) (zj 2)) zq))))))))
def zat:FD:=zaz 4 [0,1] zdT
abbrev zbz(Z:Zs):Prop:=Z.C "_law_fraction" 1 ["_law_n", "_law_d"] 2 zat
theorem zhk(B:Bs Z)(A:FnZ Z "_law_fraction" zdQ):zbz Z :=
 have hB:=B.1; zaK A ["_law_n", "_law_d", "_law_one", "_law_two"] fun nd hr=>⟨_,(zr (zH (zar ziT (zd ze zk)))
 (zr (zH (zar ziT (zd ze zk)))
 (zr (zoX (zz (zo zd8 ze zm)) (zr0 (zd ze (zd (zo zcQ ze ze) zk))))
 (zr (ziX (zaf (zz (zo zeE ze zm)) (zH (zo zd4 zm ze)) zae))
 (zU (zaB (zd (zo ze8 ze ze) (zd (zo ze8 ze ze) zk)))))))),
 (w_s (zJ (zau zex PyProof.Rows.boot_abs (w_a w_v zi)))
 (w_s (zJ (zau zex PyProof.Rows.boot_abs (w_a w_v zi)))
 (w_s (zoP (zK zgl w_v zn) (zC (zrK (w_a w_v (w_a (zR zcG w_v w_v) zi)))))
 (w_s (ziK (zaJ (zK zew w_v zn) (zC (zJ (zR zdY zn w_v))) zad))
 (zC (zM (zaA (w_a (zR zdJ w_v w_v) (w_a (zR zdJ w_v w_v) zi)))))))))⟩
def zcu:MS:=(zA (zay (mB (mOp (zaQ false) (mOp zac (zj 1) (mC (.int 0))) (mC (.int 0)))) (zak zdC) zap)
  (zak (zhj (mOp zfw (zbe (zf (mC (.int 0)) zq)) (zj 0)) (zj 1))))
def zaX:FD:=zaz 2 [0,1] zcu
abbrev zcv(Z:Zs):Prop:=Z.C "_law_poly_number" 1 ["_law_many", "_law_f"] 2 zaX
theorem zfl(B:Bs Z)(A:FnZ Z "_law_poly_number" zcs):zcv Z :=
 have hB:=B.1; zaK A ["_law_many", "_law_f"] fun nd hr=>⟨_,(zr (zaf (zz (zo zaC (zo zE ze zm) zm)) (zU zd6) zae)
 (zU (zin (zo zfd (zaB (zd zm zk)) ze) ze))),
 (w_s (zaJ (zK za3 (zL zX w_v zn) zn) (zC (zM zd2)) zad)
 (zC (zM (zil hr (zR (zfc _ rfl) (zaA (w_a zn zi)) w_v) w_v))))⟩
def zcw:MS:=(zak (zhj (mOp zd9 (mOp zd9 (mOp zfw (zbe (zf (mC (.int 0)) zq)) (zj 1)) (zbe (zf (mC (.int 1)) zq))) (mOp zfw (zbe (zf (mC (.int 0)) zq)) (mOp ziR (mOp ziR (zj 0) (zj 1)) (mC (.int 1))))) (zbe (zf (mC (.int 1)) (zf (mC (.int 1)) zq)))))
def zaY:FD:=zaz 2 [0,1] zcw
abbrev zcx(Z:Zs):Prop:=Z.C "_law_poly_letter" 1 ["_law_many", "_law_k"] 2 zaY
theorem zfm(B:Bs Z)(A:FnZ Z "_law_poly_letter" zct):zcx Z :=
 have hB:=B.1; zaK A ["_law_many", "_law_k"] fun nd hr=>⟨_,(zU (zin (zo zeM (zo zeM (zo zfd (zaB (zd zm zk)) ze) (zaB (zd zm zk))) (zo zfd (zaB (zd zm zk)) (zo zd4 (zo zd4 ze ze) zm))) (zaB (zd zm (zd zm zk))))),
 (zC (zM (zil hr (zR zeL (zR zeL (zR (zfc _ rfl) (zaA (w_a zn zi)) w_v) (zaA (w_a zn zi))) (zR (zfc _ rfl) (zaA (w_a zn zi)) (zR zdY (zR zdY w_v w_v) zn))) (zaA (w_a zn (w_a zn zi))))))⟩
def zdj:MS:=(zak (mCB (f1 zbP) (zf (mCB (f1 zln) (zf (mLC (mIt zfu (mFz (zj 0))) 1 [0] (zB 0) zgz (zbe (zf (zj 0) (zf (zcV (zj 1) (zj 0)) zq)))) zq)) zq)))
def zbl:FD:=zaz 1 [0] zdj
abbrev zdk(Z:Zs):Prop:=Z.C "_law_poly_told" 1 ["_law_sums"] 1 zbl
theorem zgP(B:Bs Z)(A:FnZ Z "_law_poly_told" zdh):zdk Z :=
 have hB:=B.1; zaK A ["_law_sums"] fun nd hr=>⟨_,(zU (zar zbF (zd (zar zmr (zd (zml (zd7 (zcS ze)) zv zcW (zaB (zd ze (zd (zdB ze ze) zk)))) zk)) zk))),
 (zC (zM (zfj za7 PyProof.Rows.boot_tuple (w_a (zau (ziQ _ rfl hr) PyProof.Rows.boot_sorted (w_a (zmb (zcN (zcR w_v)) zu zcL (zaA (w_a w_v (w_a (zdy hr w_v w_v) zi)))) zi)) zi))))⟩
def zec:MS:=(zA (zZ 1 (zeu zq))
  (zA (zjb 0 (zB 2) (zay (mB (mOp (zaQ false) (mOp zac (zj 2) (mC (.int 0))) (mC (.str "letter")))) (zaP (zbV 1 (mC (.int 1)))) (zay (mB (mOp (zaQ false) (mOp zac (zj 2) (mC (.int 0))) (mC (.str "mix")))) (zaP (zbV 1 (mOp zax (zj 1) (mOp zac (mOp zac (mOp zac (zj 2) (mC (.int 1))) (mC (.int 0))) (mC (.int 1)))))) (zaP (zbV 1 (mOp zbY (mOp zax (zj 1) (mOp zac (zj 2) (mC (.int 1)))) (mOp zax (zj 1) (mOp zac (zj 2) (mC (.int 2))))))))))
  (zdM [0] 1)))
def zaE:FD:=zaz 3 [0] zec
abbrev zcB(Z:Zs):Prop:=Z.C "_law_high" 1 ["_law_nodes_here"] 1 zaE
theorem zlF(B:Bs Z)(A:FnZ Z "_law_high" zgM):zcB Z :=
 have hB:=B.1; zaK A ["_law_nodes_here", "_law_found", "_law_node"] fun nd hr=>⟨_,(zr (zH (zcU zk))
 (zr (zzj (by decide) zv (zaf (zz (zo zaC (zo zE ze zm) zaN)) (zaG (zbC zm)) (zaf (zz (zo zaC (zo zE ze zm) zaN)) (zaG (zbC (zo zW ze (zo zE (zo zE (zo zE ze zm) zm) zm)))) (zaG (zbC (zo zaw (zo zW ze (zo zE ze zm)) (zo zW ze (zo zE ze zm))))))))
 zeH)),
 (w_s (zJ (zcK zi))
 (w_s (zbi (zze _ rfl w_v) zu (zC (zaJ (zK za3 (zL zX w_v zn) zaL) (zC (zaF (zcz _ rfl PySem.F.plainAttrs_list PySem.F.slot_list_append PySem.F.type_list_append zaa w_v (w_a zn zi)))) (zC (zaJ (zK za3 (zL zX w_v zn) zaL) (zC (zaF (zcz _ rfl PySem.F.plainAttrs_list PySem.F.slot_list_append PySem.F.type_list_append zaa w_v (w_a (zL zai w_v (zL zX (zL zX (zL zX w_v zn) zn) zn)) zi)))) (zC (zaF (zcz _ rfl PySem.F.plainAttrs_list PySem.F.slot_list_append PySem.F.type_list_append zaa w_v (w_a (zR zav (zL zai w_v (zL zX w_v zn)) (zL zai w_v (zL zX w_v zn))) zi)))))))))
 (zC (zM w_v))))⟩
def zfI:MS:=(zak (zft (mUn (zeJ "int") (zj 0)) (zmj (mUn (zeJ "bool") (zj 0)))))
def zbH:FD:=zaz 1 [0] zfI
abbrev zdF(Z:Zs):Prop:=Z.C "_law_whole" 1 ["_law_found"] 1 zbH
theorem zjV(B:Bs Z)(A:FnZ Z "_law_whole" zfD):zdF Z :=
 have hB:=B.1; zaK A ["_law_found"] fun nd hr=>⟨_,(zU (zf7 (zeK (T := "int") ze) (zrX (zeK (T := "bool") ze)))),
 (zC (zM (ziJ (zau zeC PyProof.Rows.boot_isinstance (w_a w_v (w_a (zcJ (v:=.ty "int") PyProof.Rows.boot_int rfl) zi))) (zma (w_not (zau zeC PyProof.Rows.boot_isinstance (w_a w_v (w_a (zcJ (v:=.ty "bool") PyProof.Rows.boot_bool rfl) zi))))))))⟩
def zfJ:MS:=(zA (zay (mOr (zdL (mB (mUn (zeJ "tuple") (zj 0)))) (mB (mOp (zaQ true) (mCB (f1 zbv) (zf (zj 0) zq)) (mC (.int 2))))) (zak (mC (.bool false))) zap)
  (zA (zlf (zj 0) (zbq 2 (zY (zB 1) (zY (zB 2) zbG))))
  (zA (zay (mOr (zdL (mB (zN zbU (zf (zj 1) zq)))) (zdL (mB (zN zbU (zf (zj 2) zq))))) (zak (mC (.bool false))) zap)
  (zak (zft (mOp fGe (zj 2) (mC (.int 1))) (mOp (zaQ false) (zN zal (zf (mCB (f1 zmi) (zf (zj 1) zq)) (zf (zj 2) zq))) (mC (.int 1))))))))
def zci:FD:=zaz 3 [0] zfJ
abbrev zfK(Z:Zs):Prop:=Z.C "is_fraction" 2 ["thing"] 1 zci
theorem zjW(B:Bs Z)(A:FnZ Z "is_fraction" zfx)(c0:zeU Z)(c1:za5 Z):zfK Z :=
 have hB:=B.1; zaK A ["thing", "above", "beneath"] fun nd hr=>⟨_,(zr (zaf (zcb (zbp (zdz (zeK (T := "tuple") ze))) (zz (zo zd8 (zar zan (zd ze zk)) zm))) (zU zjP) zae)
 (zr (zmk ze (zbh (zQ zv (zQ zv zbg))))
 (zr (zaf (zcb (zbp (zdz (zy 1 (zd ze zk)))) (zbp (zdz (zy 1 (zd ze zk))))) (zU zjP) zae)
 (zU (zf7 (zo zws ze zm) (zo zaC (zy 2 (zd (zar ziT (zd ze zk)) (zd ze zk))) zm)))))),
 (w_s (zaJ (zet (zca (zbo (zba (zau zeC PyProof.Rows.boot_isinstance (w_a w_v (w_a (zcJ (v:=.ty "tuple") PyProof.Rows.boot_tuple rfl) zi))))) (zbX (zK zgl (zau zaM PySem.boot_len (w_a w_v zi)) zn)))) (zC (zM zjN)) zad)
 (w_s (zhs w_v (zbc (w_g zu (w_g zu zbb))))
 (w_s (zaJ (zet (zca (zbo (zba (zx (w_a w_v zi)))) (zbX (zbo (zba (zx (w_a w_v zi))))))) (zC (zM zjN)) zad)
 (zC (zM (ziJ (ziI zwl w_v zn) (zma (ziI za3 (zx (w_a (zau zex PyProof.Rows.boot_abs (w_a w_v zi)) (w_a w_v zi))) zn))))))))⟩
def zjk:MS:=(zA (zay (mB (mOp fLt (zj 1) (mC (.int 0)))) (zqw 0 1 (zf (mUn zla (zj 0)) (zf (mUn zla (zj 1)) zq))) zap)
  (zA (zZ 2 (zN zal (zf (mCB (f1 zmi) (zf (zj 0) zq)) (zf (zj 1) zq))))
  (zak (zbe (zf (mOp ziS (zj 0) (zj 2)) (zf (mOp ziS (zj 1) (zj 2)) zq))))))
def zed:FD:=zaz 3 [] zjk
abbrev zjl(Z:Zs):Prop:=Z.C "fraction" 2 ["n", "d"] 2 zed
theorem zom(B:Bs Z)(A:FnZ Z "fraction" zjf)(c0:za5 Z):zjl Z :=
 have hB:=B.1; zaK A ["n", "d", "factor"] fun nd hr=>⟨_,(zr (ziX (zaf (zz (zo zeE ze zm)) (zr0 (zd (zda zg9 ze) (zd (zda zg9 ze) zk))) zae))
 (zr (zH (zy 2 (zd (zar ziT (zd ze zk)) (zd ze zk))))
 (zU (zaB (zd (zo zib ze ze) (zd (zo zib ze ze) zk)))))),
 (w_s (ziK (zaJ (zK zew w_v zn) (zC (zrK (w_a (zqo zg2 w_v) (w_a (zqo zg2 w_v) zi)))) zad))
 (w_s (zJ (zx (w_a (zau zex PyProof.Rows.boot_abs (w_a w_v zi)) (w_a w_v zi))))
 (zC (zM (zaA (w_a (zR zgo w_v w_v) (w_a (zR zgo w_v w_v) zi)))))))⟩
def zjm:MS:=(zak (zft (zN zbU (zf (zj 0) zq)) (zlq fLe fLt (mC (.int 0)) (zj 0) (zj 1))))
def zbQ:FD:=zaz 2 [0,1] zjm
abbrev zee(Z:Zs):Prop:=Z.C "is_place" 2 ["thing", "many"] 2 zbQ
theorem zon(B:Bs Z)(A:FnZ Z "is_place" zjh)(c0:zeU Z):zee Z :=
 have hB:=B.1; zaK A ["thing", "many"] fun nd hr=>⟨_,(zU (zf7 (zy 1 (zd ze zk)) (zvx zrS zeE zm ze ze))),
 (zC (zM (ziJ (zx (w_a w_v zi)) (zma (zu3 zra zew zn w_v w_v)))))⟩
def zfL:MS:=(zA (zZ 2 (mC (.str "abcdefghijklmnopqrstuvwxyz")))
  (zA (zZ 3 (mLC (zhu (zf (mOp zbY (mC (.int 1)) (zN zw (zf (zj 0) (zf (mC (.int 4)) zq)))) zq)) 1 [0,2] (zB 0) zgz (mOp zn1 (zj 2) (zN zw (zf (zj 1) (zf (mC (.int 26)) zq))))))
  (zA (zZ 4 (zN zw (zf (zj 0) (zf (mCB (f1 zbv) (zf (zj 3) zq)) zq))))
  (zA (zZ 5 (zN zw (zf (zj 0) (zf (mC (.int 26)) zq))))
  (zA (zZ 6 (zeu zq))
  (zA (zb8 (zhu (zf (zj 1) zq)) (zB 7) (zA (zZ 8 (mOp zn1 (zj 2) (mOp zgq (mOp zbY (zj 5) (mOp zf5 (mC (.int 7)) (zj 7))) (mC (.int 26)))))
  (zA (zZ 9 (mOp zgA (mOp zgA (mM1 tyS zkx (mC (.str "")) (mSl zqx (zj 3) zfa (zkr (zj 4)))) (zj 8)) (mM1 tyS zkx (mC (.str "")) (mSl zqx (zj 3) (zkr (mOp zbY (zj 4) (mC (.int 1)))) zfa))))
  (zA (zZ 9 (mOp zgA (zj 9) (mOp zmv (mC (.str "q")) (zN zw (zf (zj 0) (zf (mC (.int 2)) zq))))))
  (zA (zay (mOr (mB (mOp (fIn false) (zj 9) (zj 6))) (mB (mOp (fIn false) (zj 9) (zbe (zf (mC (.str "part")) (zf (mC (.str "end")) (zf (mC (.str "give")) (zf (mC (.str "rounds")) (zf (mC (.str "letters")) zq))))))))) (zZ 9 (mOp zgA (mC (.str "zz")) (mOp zn1 (zj 2) (zj 7)))) zap)
  (zaP (zbV 6 (zj 9))))))))
  (zA (zay (mB (mOp (zaQ false) (zN zw (zf (zj 0) (zf (mC (.int 5)) zq))) (mC (.int 0)))) (zA (zZ 10 (mOp zax (zeu (zf (mC (.str "ends")) (zf (mC (.str "pa")) (zf (mC (.str "gives")) (zf (mC (.str "giv")) (zf (mC (.str "x")) (zf (mC (.str "y")) (zf (mC (.str "r")) (zf (mC (.str "rk")) zq))))))))) (zN zw (zf (zj 0) (zf (mC (.int 8)) zq)))))
  (zay (mB (mOp (fIn true) (zj 10) (zj 6))) (zga 6 (zj 10) (zN zw (zf (zj 0) (zf (zj 1) zq)))) zap)) zap)
  (zak (mCB (f1 zbP) (zf (zj 6) zq))))))))))
def zcj:FD:=zaz 11 [0,1] zfL
abbrev zfM(Z:Zs):Prop:=Z.C "_law_names" 2 ["_law_box_here", "_law_many"] 2 zcj
theorem zjX(B:Bs Z)(A:FnZ Z "_law_names" zfA)(c0:zaU Z):zfM Z :=
 have hB:=B.1; zaK A ["_law_box_here", "_law_many", "_law_alphabet", "_law_signs", "_law_spot", "_law_first", "_law_found", "_law_k", "_law_one", "_law_name", "_law_odd"] fun nd hr=>⟨_,(zr (zH zaN)
 (zr (zH (zml (zgt (zd (zo zaw zm (zy 2 (zd ze (zd zm zk)))) zk)) zv zcW (zo zn2 ze (zy 2 (zd ze (zd zm zk))))))
 (zr (zH (zy 2 (zd ze (zd (zar zan (zd ze zk)) zk))))
 (zr (zH (zy 2 (zd ze (zd zm zk))))
 (zr (zH (zcU zk))
 (zr (zbj (zgt (zd ze zk)) zv (zr (zH (zo zn2 ze (zo zcQ (zo zaw ze (zo zcP zm ze)) zm)))
 (zr (zH (zo zig (zo zig (zAI zso zpe zaN (zyG zlm ze zlk (zll ze))) ze) (zAI zso zpe zaN (zyG zlm ze (zll (zo zaw ze zm)) zlk))))
 (zr (zH (zo zig ze (zo zvy zaN (zy 2 (zd ze (zd zm zk))))))
 (zr (ziX (zaf (zcb (zz (zo (zss false) ze ze)) (zz (zo (zss false) ze (zaB (zd zaN (zd zaN (zd zaN (zd zaN (zd zaN zk))))))))) (zH (zo zig zaN (zo zn2 ze ze))) zae))
 (zaG (zbC ze)))))))
 (zr (ziX (zaf (zz (zo zaC (zy 2 (zd ze (zd zm zk))) zm)) (zr (zH (zo zW (zcU (zd zaN (zd zaN (zd zaN (zd zaN (zd zaN (zd zaN (zd zaN (zd zaN zk))))))))) (zy 2 (zd ze (zd zm zk)))))
 (zaf (zz (zo (zss true) ze ze)) (zlh ze (zy 2 (zd ze (zd ze zk)))) zae)) zae))
 (zU (zar zbF (zd ze zk)))))))))),
 (w_s (zJ zaL)
 (w_s (zwq (zeB (w_a (zR zav zn (zx (w_a w_v (w_a zn zi)))) zi)) zu zcL (zL znA w_v (zx (w_a w_v (w_a zn zi)))))
 (w_s (zJ (zx (w_a w_v (w_a (zau zaM PySem.boot_len (w_a w_v zi)) zi))))
 (w_s (zJ (zx (w_a w_v (w_a zn zi))))
 (w_s (zJ (zcK zi))
 (w_s (zbi (zeB (w_a w_v zi)) zu (w_s (zJ (zL znA w_v (zR zcG (zR zav w_v (zR zcF zn w_v)) zn)))
 (w_s (zJ (zR zdZ (zR zdZ (zcz _ rfl PySem.F.plainAttrs_str PySem.F.slot_str_join PySem.F.type_str_join (zoR _ rfl) zaL (w_a (zk5 zrJ w_v zk3 (zk4 w_v)) zi)) w_v) (zcz _ rfl PySem.F.plainAttrs_str PySem.F.slot_str_join PySem.F.type_str_join (zoR _ rfl) zaL (w_a (zk5 zrJ w_v (zk4 (zR zav w_v zn)) zk3) zi))))
 (w_s (zJ (zR zdZ w_v (zR znL zaL (zx (w_a w_v (w_a zn zi))))))
 (w_s (ziK (zaJ (zet (zca (zK zz0 w_v w_v rfl) (zbX (zK zz0 w_v (zaA (w_a zaL (w_a zaL (w_a zaL (w_a zaL (w_a zaL zi)))))) rfl)))) (zC (zJ (zR zdZ zaL (zL znA w_v w_v)))) zad))
 (zC (zaF (zcz _ rfl PySem.F.plainAttrs_list PySem.F.slot_list_append PySem.F.type_list_append zaa w_v (w_a w_v zi)))))))))
 (w_s (ziK (zaJ (zK za3 (zx (w_a w_v (w_a zn zi))) zn) (w_s (zJ (zL zai (zcK (w_a zaL (w_a zaL (w_a zaL (w_a zaL (w_a zaL (w_a zaL (w_a zaL (w_a zaL zi))))))))) (zx (w_a w_v (w_a zn zi)))))
 (zC (zaJ (zK zu4 w_v w_v rfl) (zC (zhs w_v (znJ w_v (zx (w_a w_v (w_a w_v zi))) ziz))) zad))) zad))
 (zC (zM (zfj za7 PyProof.Rows.boot_tuple (w_a w_v zi)))))))))))⟩
def zgQ:MS:=(zak (zN zat (zf (mOp zbY (mOp zcZ (mOp zac (zj 0) (mC (.int 0))) (mOp zac (zj 1) (mC (.int 1)))) (mOp zcZ (mOp zac (zj 1) (mC (.int 0))) (mOp zac (zj 0) (mC (.int 1))))) (zf (mOp zcZ (mOp zac (zj 0) (mC (.int 1))) (mOp zac (zj 1) (mC (.int 1)))) zq))))
def zb1:FD:=zaz 2 [0,1] zgQ
abbrev zef(Z:Zs):Prop:=Z.C "_law_plus" 2 ["_law_one", "_law_other"] 2 zb1
theorem zlG(B:Bs Z)(A:FnZ Z "_law_plus" zgL)(c0:zbz Z):zef Z :=
 have hB:=B.1; zaK A ["_law_one", "_law_other"] fun nd hr=>⟨_,(zU (zy 2 (zd (zo zaw (zo zbx (zo zE ze zm) (zo zE ze zm)) (zo zbx (zo zE ze zm) (zo zE ze zm))) (zd (zo zbx (zo zE ze zm) (zo zE ze zm)) zk)))),
 (zC (zM (zx (w_a (zR zav (zR zbw (zL zX w_v zn) (zL zX w_v zn)) (zR zbw (zL zX w_v zn) (zL zX w_v zn))) (w_a (zR zbw (zL zX w_v zn) (zL zX w_v zn)) zi)))))⟩
def zfN:MS:=(zak (zN zat (zf (mOp zcZ (mOp zac (zj 0) (mC (.int 0))) (mOp zac (zj 1) (mC (.int 0)))) (zf (mOp zcZ (mOp zac (zj 0) (mC (.int 1))) (mOp zac (zj 1) (mC (.int 1)))) zq))))
def zbI:FD:=zaz 2 [0,1] zfN
abbrev zdG(Z:Zs):Prop:=Z.C "_law_times" 2 ["_law_one", "_law_other"] 2 zbI
theorem zjY(B:Bs Z)(A:FnZ Z "_law_times" zfB)(c0:zbz Z):zdG Z :=
 have hB:=B.1; zaK A ["_law_one", "_law_other"] fun nd hr=>⟨_,(zU (zy 2 (zd (zo zbx (zo zE ze zm) (zo zE ze zm)) (zd (zo zbx (zo zE ze zm) (zo zE ze zm)) zk)))),
 (zC (zM (zx (w_a (zR zbw (zL zX w_v zn) (zL zX w_v zn)) (w_a (zR zbw (zL zX w_v zn) (zL zX w_v zn)) zi)))))⟩
def zeV:MS:=(zA (zZ 1 (zN zw (zf (zj 0) (zf (mC (.int 12)) zq))))
  (zA (zay (mB (mOp fLt (zj 1) (mC (.int 7)))) (zak (mOp zax (zeu (zf (zbe (zf (mC (.int 0)) (zf (mC (.int 1)) zq))) (zf (zbe (zf (mC (.int 1)) (zf (mC (.int 1)) zq))) (zf (zbe (zf (mC (.int 1)) (zf (mC (.int 1)) zq))) (zf (zbe (zf (mUn zla (mC (.int 1))) (zf (mC (.int 1)) zq))) (zf (zbe (zf (mC (.int 2)) (zf (mC (.int 1)) zq))) (zf (zbe (zf (mC (.int 1)) (zf (mC (.int 2)) zq))) (zf (zbe (zf (mUn zla (mC (.int 2))) (zf (mC (.int 3)) zq))) zq)))))))) (zj 1))) zap)
  (zA (zay (mB (mOp fLt (zj 1) (mC (.int 11)))) (zak (zN zat (zf (mOp ziR (zN zw (zf (zj 0) (zf (mC (.int 19)) zq))) (mC (.int 9))) (zf (mOp zbY (mC (.int 1)) (zN zw (zf (zj 0) (zf (mC (.int 4)) zq)))) zq)))) zap)
  (zak (zN zat (zf (mOp ziR (zN zw (zf (zj 0) (zf (mC (.int 1999999)) zq))) (mC (.int 999999))) (zf (mOp zbY (mC (.int 1)) (zN zw (zf (zj 0) (zf (mC (.int 4)) zq)))) zq)))))))
def zbt:FD:=zaz 2 [0] zeV
abbrev zc3(Z:Zs):Prop:=Z.C "_law_number" 2 ["_law_box_here"] 1 zbt
theorem zjn(B:Bs Z)(A:FnZ Z "_law_number" zeR)(c0:zaU Z)(c1:zbz Z):zc3 Z :=
 have hB:=B.1; zaK A ["_law_box_here", "_law_kind"] fun nd hr=>⟨_,(zr (zH (zy 2 (zd ze (zd zm zk))))
 (zr (zaf (zz (zo zeE ze zm)) (zU (zo zW (zcU (zd (zaB (zd zm (zd zm zk))) (zd (zaB (zd zm (zd zm zk))) (zd (zaB (zd zm (zd zm zk))) (zd (zaB (zd (zda zg9 zm) (zd zm zk))) (zd (zaB (zd zm (zd zm zk))) (zd (zaB (zd zm (zd zm zk))) (zd (zaB (zd (zda zg9 zm) (zd zm zk))) zk)))))))) ze)) zae)
 (zr (zaf (zz (zo zeE ze zm)) (zU (zy 2 (zd (zo zd4 (zy 2 (zd ze (zd zm zk))) zm) (zd (zo zaw zm (zy 2 (zd ze (zd zm zk)))) zk)))) zae)
 (zU (zy 2 (zd (zo zd4 (zy 2 (zd ze (zd zm zk))) zm) (zd (zo zaw zm (zy 2 (zd ze (zd zm zk)))) zk))))))),
 (w_s (zJ (zx (w_a w_v (w_a zn zi))))
 (w_s (zaJ (zK zew w_v zn) (zC (zM (zL zai (zcK (w_a (zaA (w_a zn (w_a zn zi))) (w_a (zaA (w_a zn (w_a zn zi))) (w_a (zaA (w_a zn (w_a zn zi))) (w_a (zaA (w_a (zqo zg2 zn) (w_a zn zi))) (w_a (zaA (w_a zn (w_a zn zi))) (w_a (zaA (w_a zn (w_a zn zi))) (w_a (zaA (w_a (zqo zg2 zn) (w_a zn zi))) zi)))))))) w_v))) zad)
 (w_s (zaJ (zK zew w_v zn) (zC (zM (zx (w_a (zR zdY (zx (w_a w_v (w_a zn zi))) zn) (w_a (zR zav zn (zx (w_a w_v (w_a zn zi)))) zi))))) zad)
 (zC (zM (zx (w_a (zR zdY (zx (w_a w_v (w_a zn zi))) zn) (w_a (zR zav zn (zx (w_a w_v (w_a zn zi)))) zi))))))))⟩
def zep:MS:=(zA (zay (mOr (zdL (mB (mUn (zeJ "tuple") (zj 0)))) (mB (mOp (zf6 true) (zj 0) (zN zbl (zf (zj 1) zq))))) (zak (mC (.bool false))) zap)
  (zA (zb8 (mIt zgs (zj 0)) (zbq 2 (zY (zB 2) (zY (zB 3) zbG))) (zay (zdL (mB (mCB (f1 zqz) (zf (mLC (mIt zgs (mOp zd9 (zj 2) (zj 3))) 1 [] (zB 0) zgz (zN zbH (zf (zj 0) zq))) zq)))) (zak (mC (.bool false))) zap))
  (zak (mC (.bool true)))))
def za6:FD:=zaz 4 [0,1] zep
abbrev zeq(Z:Zs):Prop:=Z.C "_law_is_poly" 2 ["_law_found", "_law_due"] 2 za6
theorem zh0(B:Bs Z)(A:FnZ Z "_law_is_poly" zen)(c0:zdk Z)(c1:zdF Z):zeq Z :=
 have hB:=B.1; zaK A ["_law_found", "_law_due", "_law_powers", "_law_f"] fun nd hr=>⟨_,(zr (zaf (zcb (zbp (zdz (zeK (T := "tuple") ze))) (zz (zo (zlb true) ze (zy 1 (zd ze zk))))) (zU zjP) zae)
 (zr (zbj (zdA ze) (zbh (zQ zv (zQ zv zbg))) (zaf (zbp (zdz (zar zn3 (zd (zml (zdA (zo zeM ze ze)) zv zcW (zy 1 (zd ze zk))) zk)))) (zU zjP) zae))
 (zU zjP))),
 (w_s (zaJ (zet (zca (zbo (zba (zau zeC PyProof.Rows.boot_isinstance (w_a w_v (w_a (zcJ (v:=.ty "tuple") PyProof.Rows.boot_tuple rfl) zi))))) (zbX (zK (zrU _ rfl hr) w_v (zx (w_a w_v zi)))))) (zC (zM zjN)) zad)
 (w_s (zbi (zdx w_v) (zbc (w_g zu (w_g zu zbb))) (zC (zaJ (zbo (zba (zau (zrN _ rfl rfl) PyProof.Rows.boot_all (w_a (zmb (zdx (zR zeL w_v w_v)) zu zcL (zx (w_a w_v zi))) zi)))) (zC (zM zjN)) zad)))
 (zC (zM zjN))))⟩
def zkF:MS:=(zA (zZ 3 (mDC (mIt zdD (mFz (zj 0))) 2 [] (zbq 2 (zY (zB 0) (zY (zB 1) zbG))) (mB (mOp (zaQ true) (zj 1) (mC (.int 0)))) (zj 0) (zj 1)))
  (zA (zay (znS (zmZ (zj 3)) (mB (mOp fLe (mUn zmY (zj 1)) (zj 2)))) (zak (zqO "Form" ["numbers", "beneath", "room"] (zf (mFz (zj 3)) (zf (zj 1) (zf (zj 2) zq))))) zap)
  (zA (zZ 4 (zj 1))
  (zA (zb8 (mIt zpO (mFz (zj 3))) (zB 5) (zZ 4 (zN zal (zf (zj 4) (zf (mCB (f1 zmi) (zf (zj 5) zq)) zq)))))
  (zA (zZ 6 (mDC (mIt zdD (mFz (zj 3))) 2 [4] (zbq 2 (zY (zB 0) (zY (zB 1) zbG))) zgz (zj 0) (mOp zht (zj 1) (zj 2))))
  (zA (zZ 1 (mOp zht (zj 1) (zj 4)))
  (zak (zqO "Form" ["numbers", "beneath", "room"] (zf (mFz (zj 6)) (zf (zj 1) (zf (mCB zkp (zf (mC (.int 256)) (zf (mOp zcZ (mC (.int 2)) (mUn zmY (zj 1))) zq))) zq)))))))))))
def zcE:FD:=zaz 7 [0,2] zkF
abbrev zfe(Z:Zs):Prop:=Z.C "settled" 3 ["numbers", "beneath", "room"] 3 zcE
theorem zqQ(B:Bs Z)(A:FnZ Z "settled" zkD)(c0:za5 Z):zfe Z :=
 by obtain⟨hB,_,⟨TROOM,g_ROOM⟩,_,_,⟨CForm,oXForm⟩⟩:=B; exact zaK A ["numbers", "beneath", "room", "kept", "factor", "many", "lowest"] fun nd hr=>⟨_,(zr (zH (zzn (zcY (zcS ze)) (zbh (zQ zv (zQ zv zbg))) (zz (zo zd8 ze zm)) ze ze))
 (zr (zaf (zld (zvV ze) (zz (zo zrS (ztJ ze) ze))) (zU (ztH oXForm.xn (zd (zcS ze) (zd ze (zd ze zk))))) zae)
 (zr (zH ze)
 (zr (zbj (zvT (zcS ze)) zv (zH (zy 2 (zd ze (zd (zar ziT (zd ze zk)) zk)))))
 (zr (zH (zzn (zcY (zcS ze)) (zbh (zQ zv (zQ zv zbg))) zcW ze (zo ze8 ze ze)))
 (zr (zH (zo ze8 ze ze))
 (zU (ztH oXForm.xn (zd (zcS ze) (zd ze (zd (zar zlc (zd zm (zd (zo zbx zm (ztJ ze)) zk))) zk))))))))))),
 (w_s (ztB hr (zea (zcR w_v)) (zbc (w_g zu (w_g zu zbb))) (zrH (zK zgl w_v zn)) w_v w_v)
 (w_s (zaJ (zet (zk2 (zzp w_v) (zia (zK zra (zrL _ rfl PySem.F.plainAttrs_int PySem.F.slot_int_bit_length PySem.F.type_int_bit_length zpP w_v) w_v)))) (zC (zM (ztF oXForm (w_a (zcR w_v) (w_a w_v (w_a w_v zi)))))) zad)
 (w_s (zJ w_v)
 (w_s (zbi (zzo (zcR w_v)) zu (zC (zJ (zx (w_a w_v (w_a (zau zex PyProof.Rows.boot_abs (w_a w_v zi)) zi))))))
 (w_s (ztB hr (zea (zcR w_v)) (zbc (w_g zu (w_g zu zbb))) zcL w_v (zR zdJ w_v w_v))
 (w_s (zJ (zR zdJ w_v w_v))
 (zC (zM (ztF oXForm (w_a (zcR w_v) (w_a w_v (w_a (zau (zg4 rfl) PyProof.Rows.boot_max (w_a (zg8 (v:=.int 256) rfl g_ROOM ⟨_,rfl⟩) (w_a (zR zbw zn (zrL _ rfl PySem.F.plainAttrs_int PySem.F.slot_int_bit_length PySem.F.type_int_bit_length zpP w_v)) zi))) zi))))))))))))⟩
def zc4:MS:=(zak (zqO "Form" ["numbers", "beneath", "room"] (zf (mFz (zhj (mOp zd9 (mOp zd9 (mOp zfw (zbe (zf (mC (.int 0)) zq)) (zj 0)) (zbe (zf (mC (.int 1)) zq))) (mOp zfw (zbe (zf (mC (.int 0)) zq)) (mOp ziR (mOp ziR (zj 1) (zj 0)) (mC (.int 1))))) (mC (.int 1)))) (zf (mC (.int 1)) (zf (mC (.int 256)) zq)))))
def za2:FD:=zaz 2 [0,1] zc4
abbrev zc5(Z:Zs):Prop:=Z.C "letter_by_powers" 3 ["k", "many_letters"] 2 za2
theorem zge(B:Bs Z)(A:FnZ Z "letter_by_powers" zc2):zc5 Z :=
 by obtain⟨hB,_,⟨TROOM,g_ROOM⟩,_,_,⟨CForm,oXForm⟩⟩:=B; exact zaK A ["k", "many_letters"] fun nd hr=>⟨_,(zU (ztH oXForm.xn (zd (zcS (zin (zo zeM (zo zeM (zo zfd (zaB (zd zm zk)) ze) (zaB (zd zm zk))) (zo zfd (zaB (zd zm zk)) (zo zd4 (zo zd4 ze ze) zm))) zm)) (zd zm (zd zm zk))))),
 (zC (zM (ztF oXForm (w_a (zcR (zil hr (zR zeL (zR zeL (zR (zfc _ rfl) (zaA (w_a zn zi)) w_v) (zaA (w_a zn zi))) (zR (zfc _ rfl) (zaA (w_a zn zi)) (zR zdY (zR zdY w_v w_v) zn))) zn)) (w_a zn (w_a (zg8 (v:=.int 256) rfl g_ROOM ⟨_,rfl⟩) zi))))))⟩
def zeW:MS:=(zak (mCB (f1 zln) (zf (mLC (mIt zdD (mFz (mUn (zbk "Form" "numbers") (zj 0)))) 2 [0] (zbq 2 (zY (zB 0) (zY (zB 1) zbG))) zgz (zbe (zf (zj 0) (zf (zN zed (zf (zj 1) (zf (mUn (zbk "Form" "beneath") (zj 2)) zq))) zq)))) zq)))
def zbu:FD:=zaz 1 [0] zeW
abbrev zc6(Z:Zs):Prop:=Z.C "fractions_of" 3 ["form"] 1 zbu
theorem zjo(B:Bs Z)(A:FnZ Z "fractions_of" zeP)(c0:zjl Z):zc6 Z :=
 by obtain⟨hB,_,_,_,_,⟨CForm,oXForm⟩⟩:=B; exact zaK A ["form"] fun nd hr=>⟨_,(zU (zar zmr (zd (zml (zcY (zcS (zda (zaW oXForm.xn oXForm.cl (oXForm.na _ (by decide))) ze))) (zbh (zQ zv (zQ zv zbg))) zcW (zaB (zd ze (zd (zy 2 (zd ze (zd (zda (zaW oXForm.xn oXForm.cl (oXForm.na _ (by decide))) ze) zk))) zk)))) zk))),
 (zC (zM (zau (ziQ _ rfl hr) PyProof.Rows.boot_sorted (w_a (zmb (zea (zcR (zbE _ rfl w_v rfl))) (zbc (w_g zu (w_g zu zbb))) zcL (zaA (w_a w_v (w_a (zx (w_a w_v (w_a (zbE _ rfl w_v rfl) zi))) zi)))) zi))))⟩
def zgR:MS:=(zA (zay (zdL (mB (mUn (zeJ "tuple") (zj 0)))) (zak (mC .none)) zap)
  (zA (zZ 2 (mC .none))
  (zA (zZ 3 (mUn zla (mC (.int 1))))
  (zA (zb8 (mIt zgs (zj 0)) (zB 4) (zA (zay (mOr (zdL (mB (mUn (zeJ "tuple") (zj 4)))) (mB (mOp (zaQ true) (mCB (f1 zbv) (zf (zj 4) zq)) (mC (.int 2))))) (zak (mC .none)) zap)
  (zA (zlf (zj 4) (zbq 2 (zY (zB 5) (zY (zB 6) zbG))))
  (zA (zay (mOr (zdL (mB (zN zci (zf (zj 5) zq)))) (mOr (mB (mUn (zvA false [0,1]) (zj 5))) (mOr (zdL (mB (zN zbQ (zf (zj 6) (zf (mCB (f1 zbv) (zf (zj 1) zq)) zq))))) (mB (mOp fLe (zj 6) (zj 3)))))) (zak (mC .none)) zap)
  (zA (zay (znS (mB (mOp (znX true) (zj 2) (mC .none))) (mB (mOp (zaQ true) (mOp zax (zj 1) (zj 6)) (zj 2)))) (zak (mC .none)) zap)
  (zA (zZ 2 (mOp zax (zj 1) (zj 6)))
  (zZ 3 (zj 6))))))))
  (zak (zj 2))))))
def zcC:FD:=zaz 7 [0,1] zgR
abbrev zgS(Z:Zs):Prop:=Z.C "mix_degree" 3 ["pairs", "ahead"] 2 zcC
theorem zlH(B:Bs Z)(A:FnZ Z "mix_degree" zgI)(c0:zfK Z)(c1:zee Z):zgS Z :=
 by obtain⟨hB,_,_,⟨GNOUGHT,g_NOUGHT,gt_NOUGHT⟩,_⟩:=B; exact zaK A ["pairs", "ahead", "told", "behind", "pair", "f", "node"] fun nd hr=>⟨_,(zr (zaf (zbp (zdz (zeK (T := "tuple") ze))) (zU zcO) zae)
 (zr (zH zcO)
 (zr (zH (zda zg9 zm))
 (zr (zbj (zdA ze) zv (zr (zaf (zcb (zbp (zdz (zeK (T := "tuple") ze))) (zz (zo zd8 (zar zan (zd ze zk)) zm))) (zU zcO) zae)
 (zr (zmk ze (zbh (zQ zv (zQ zv zbg))))
 (zr (zaf (zcb (zbp (zdz (zy 1 (zd ze zk)))) (zcb (zz (zAM (neg:=false) gt_NOUGHT ze)) (zcb (zbp (zdz (zy 2 (zd ze (zd (zar zan (zd ze zk)) zk))))) (zz (zo zrS ze ze))))) (zU zcO) zae)
 (zr (zaf (zld (zz (zo zlp ze zcO)) (zz (zo zd8 (zo zW ze ze) ze))) (zU zcO) zae)
 (zr (zH (zo zW ze ze))
 (zH ze)))))))
 (zU ze))))),
 (w_s (zaJ (zbo (zba (zau zeC PyProof.Rows.boot_isinstance (w_a w_v (w_a (zcJ (v:=.ty "tuple") PyProof.Rows.boot_tuple rfl) zi))))) (zC (zM zcI)) zad)
 (w_s (zJ zcI)
 (w_s (zJ (zqo zg2 zn))
 (w_s (zbi (zdx w_v) zu (w_s (zaJ (zet (zca (zbo (zba (zau zeC PyProof.Rows.boot_isinstance (w_a w_v (w_a (zcJ (v:=.ty "tuple") PyProof.Rows.boot_tuple rfl) zi))))) (zbX (zK zgl (zau zaM PySem.boot_len (w_a w_v zi)) zn)))) (zC (zM zcI)) zad)
 (w_s (zhs w_v (zbc (w_g zu (w_g zu zbb))))
 (w_s (zaJ (zet (zca (zbo (zba (zx (w_a w_v zi)))) (zca (zK (znQ _ rfl hr) w_v (zg8 (v:=.ref GNOUGHT) rfl g_NOUGHT rfl)) (zca (zbo (zba (zx (w_a w_v (w_a (zau zaM PySem.boot_len (w_a w_v zi)) zi))))) (zbX (zK zra w_v w_v)))))) (zC (zM zcI)) zad)
 (w_s (zaJ (zet (zk2 (zK zkO w_v zcI) (zia (zK zgl (zL zai w_v w_v) w_v)))) (zC (zM zcI)) zad)
 (w_s (zJ (zL zai w_v w_v))
 (zC (zJ w_v))))))))
 (zC (zM w_v))))))⟩
def zeX:MS:=(zA (zay (mOr (zdL (mB (zN zbQ (zf (zj 0) (zf (mCB (f1 zbv) (zf (zj 2) zq)) zq))))) (mOr (zdL (mB (zN zbQ (zf (zj 1) (zf (mCB (f1 zbv) (zf (zj 2) zq)) zq))))) (mB (mOp fLt (mOp zax (zj 2) (zj 0)) (mOp zax (zj 2) (zj 1)))))) (zak (mC .none)) zap)
  (zak (mOp zbY (mOp zax (zj 2) (zj 0)) (mOp zax (zj 2) (zj 1)))))
def zb2:FD:=zaz 3 [0,1,2] zeX
abbrev zeY(Z:Zs):Prop:=Z.C "times_degree" 3 ["one", "other", "ahead"] 3 zb2
theorem zjp(B:Bs Z)(A:FnZ Z "times_degree" zeQ)(c0:zee Z):zeY Z :=
 have hB:=B.1; zaK A ["one", "other", "ahead"] fun nd hr=>⟨_,(zr (zaf (zcb (zbp (zdz (zy 2 (zd ze (zd (zar zan (zd ze zk)) zk))))) (zcb (zbp (zdz (zy 2 (zd ze (zd (zar zan (zd ze zk)) zk))))) (zz (zo zeE (zo zW ze ze) (zo zW ze ze))))) (zU zcO) zae)
 (zU (zo zaw (zo zW ze ze) (zo zW ze ze)))),
 (w_s (zaJ (zet (zca (zbo (zba (zx (w_a w_v (w_a (zau zaM PySem.boot_len (w_a w_v zi)) zi))))) (zca (zbo (zba (zx (w_a w_v (w_a (zau zaM PySem.boot_len (w_a w_v zi)) zi))))) (zbX (zK zew (zL zai w_v w_v) (zL zai w_v w_v)))))) (zC (zM zcI)) zad)
 (zC (zM (zR zav (zL zai w_v w_v) (zL zai w_v w_v)))))⟩
def zdU:MS:=(zA (zZ 3 (mCB (f1 zgD) (zf (zj 0) zq)))
  (zA (zb8 (mIt zfu (mFz (zj 1))) (zB 4) (zA (zZ 5 (zbe (zf (mOp zf5 (zj 2) (mOp zac (zcV (zj 1) (zj 4)) (mC (.int 0)))) (zf (mOp zac (zcV (zj 1) (zj 4)) (mC (.int 1))) zq))))
  (zel 3 (zj 4) (zN zb1 (zf (zeN (zj 3) (zj 4) (zbe (zf (mC (.int 0)) (zf (mC (.int 1)) zq)))) (zf (zj 5) zq))))))
  (zA (zZ 6 zdC)
  (zA (zb8 (mIt zfu (mFz (zj 3))) (zB 4) (zay (mB (mOp (zaQ true) (mOp zac (zcV (zj 3) (zj 4)) (mC (.int 0))) (mC (.int 0)))) (zel 6 (zj 4) (zcV (zj 3) (zj 4))) zap))
  (zdM [0,1,2] 6)))))
def za0:FD:=zaz 7 [0,1,2] zdU
abbrev zcf(Z:Zs):Prop:=Z.C "_law_poly_add" 3 ["_law_one", "_law_other", "_law_sign"] 3 za0
theorem zhl(B:Bs Z)(A:FnZ Z "_law_poly_add" zdR)(c0:zef Z):zcf Z :=
 have hB:=B.1; zaK A ["_law_one", "_law_other", "_law_sign", "_law_found", "_law_powers", "_law_more", "_law_kept"] fun nd hr=>⟨_,(zr (zH (zar zqG (zd ze zk)))
 (zr (zbj (zd7 (zcS ze)) zv (zr (zH (zaB (zd (zo zcP ze (zo zE (zdB ze ze) zm)) (zd (zo zE (zdB ze ze) zm) zk))))
 (zgb ze (zy 2 (zd (zij ze ze (zaB (zd zm (zd zm zk)))) (zd ze zk))))))
 (zr (zH zd6)
 (zr (zbj (zd7 (zcS ze)) zv (zaf (zz (zo zd8 (zo zE (zdB ze ze) zm) zm)) (zgb ze (zdB ze ze)) zae))
 zeH)))),
 (w_s (zJ (zfj zn8 PyProof.Rows.boot_dict (w_a w_v zi)))
 (w_s (zbi (zcN (zcR w_v)) zu (w_s (zJ (zaA (w_a (zR zcF w_v (zL zX (zdy hr w_v w_v) zn)) (w_a (zL zX (zdy hr w_v w_v) zn) zi))))
 (zC (zf0 hr w_v w_v (zx (w_a (zii hr w_v w_v (zaA (w_a zn (w_a zn zi))) ⟨rfl,rfl,rfl,rfl⟩) (w_a w_v zi)))))))
 (w_s (zJ zd2)
 (w_s (zbi (zcN (zcR w_v)) zu (zC (zaJ (zK zgl (zL zX (zdy hr w_v w_v) zn) zn) (zC (zf0 hr w_v w_v (zdy hr w_v w_v))) zad)))
 (zC (zM w_v))))))⟩
def zdl:MS:=(zA (zZ 2 zdC)
  (zA (zb8 (mIt zfu (mFz (zj 0))) (zB 3) (zb8 (mIt zfu (mFz (zj 1))) (zB 4) (zA (zZ 5 (mCB (f1 zbP) (zf (mLC (zvE (zf (zj 3) (zf (zj 4) zq))) 2 [] (zbq 2 (zY (zB 0) (zY (zB 1) zbG))) zgz (mOp zbY (zj 0) (zj 1))) zq)))
  (zA (zZ 6 (zN zbI (zf (zcV (zj 0) (zj 3)) (zf (zcV (zj 1) (zj 4)) zq))))
  (zel 2 (zj 5) (zN zb1 (zf (zeN (zj 2) (zj 5) (zbe (zf (mC (.int 0)) (zf (mC (.int 1)) zq)))) (zf (zj 6) zq))))))))
  (zA (zZ 7 zdC)
  (zA (zb8 (mIt zfu (mFz (zj 2))) (zB 5) (zay (mB (mOp (zaQ true) (mOp zac (zcV (zj 2) (zj 5)) (mC (.int 0))) (mC (.int 0)))) (zel 7 (zj 5) (zcV (zj 2) (zj 5))) zap))
  (zdM [0,1] 7)))))
def zbm:FD:=zaz 8 [0,1] zdl
abbrev zdm(Z:Zs):Prop:=Z.C "_law_poly_mult" 3 ["_law_one", "_law_other"] 2 zbm
theorem zgT(B:Bs Z)(A:FnZ Z "_law_poly_mult" zdg)(c0:zef Z)(c1:zdG Z):zdm Z :=
 have hB:=B.1; zaK A ["_law_one", "_law_other", "_law_found", "_law_left", "_law_right_here", "_law_powers", "_law_more", "_law_kept"] fun nd hr=>⟨_,(zr (zH zd6)
 (zr (zbj (zd7 (zcS ze)) zv (zbj (zd7 (zcS ze)) zv (zr (zH (zar zbF (zd (zml (zs7 (zd ze (zd ze zk))) (zbh (zQ zv (zQ zv zbg))) zcW (zo zaw ze ze)) zk)))
 (zr (zH (zy 2 (zd (zdB ze ze) (zd (zdB ze ze) zk))))
 (zgb ze (zy 2 (zd (zij ze ze (zaB (zd zm (zd zm zk)))) (zd ze zk))))))))
 (zr (zH zd6)
 (zr (zbj (zd7 (zcS ze)) zv (zaf (zz (zo zd8 (zo zE (zdB ze ze) zm) zm)) (zgb ze (zdB ze ze)) zae))
 zeH)))),
 (w_s (zJ zd2)
 (w_s (zbi (zcN (zcR w_v)) zu (zC (zbi (zcN (zcR w_v)) zu (w_s (zJ (zfj za7 PyProof.Rows.boot_tuple (w_a (zmb (zs5 (w_a w_v (w_a w_v zi))) (zbc (w_g zu (w_g zu zbb))) zcL (zR zav w_v w_v)) zi)))
 (w_s (zJ (zx (w_a (zdy hr w_v w_v) (w_a (zdy hr w_v w_v) zi))))
 (zC (zf0 hr w_v w_v (zx (w_a (zii hr w_v w_v (zaA (w_a zn (w_a zn zi))) ⟨rfl,rfl,rfl,rfl⟩) (w_a w_v zi))))))))))
 (w_s (zJ zd2)
 (w_s (zbi (zcN (zcR w_v)) zu (zC (zaJ (zK zgl (zL zX (zdy hr w_v w_v) zn) zn) (zC (zf0 hr w_v w_v (zdy hr w_v w_v))) zad)))
 (zC (zM w_v))))))⟩
def zeZ:MS:=(zA (zZ 1 (zN zbt (zf (zj 0) zq)))
  (zA (zay (mB (mOp (zaQ false) (mOp zac (zj 1) (mC (.int 0))) (mC (.int 0)))) (zak (zbe (zf (mC (.int 3)) (zf (mC (.int 2)) zq)))) zap)
  (zak (zj 1))))
def zb3:FD:=zaz 2 [0] zeZ
abbrev ze0(Z:Zs):Prop:=Z.C "_law_factor" 3 ["_law_box_here"] 1 zb3
theorem zjq(B:Bs Z)(A:FnZ Z "_law_factor" zeS)(c0:zc3 Z):ze0 Z :=
 have hB:=B.1; zaK A ["_law_box_here", "_law_f"] fun nd hr=>⟨_,(zr (zH (zy 1 (zd ze zk)))
 (zr (zaf (zz (zo zaC (zo zE ze zm) zm)) (zU (zaB (zd zm (zd zm zk)))) zae)
 (zU ze))),
 (w_s (zJ (zx (w_a w_v zi)))
 (w_s (zaJ (zK za3 (zL zX w_v zn) zn) (zC (zM (zaA (w_a zn (w_a zn zi))))) zad)
 (zC (zM w_v))))⟩
def zhG:MS:=(zA (zZ 3 (zN zaE (zf (zj 1) zq)))
  (zA (zZ 4 (zeu zq))
  (zA (zb8 (zoW (zf (mC (.int 1)) (zf (mOp zbY (zj 2) (mC (.int 1))) zq))) (zB 5) (zA (zZ 6 (mLC (zhu (zf (mCB (f1 zbv) (zf (zj 1) zq)) zq)) 1 [3,5] (zB 0) (mB (mOp (zaQ false) (mOp zax (zj 1) (zj 0)) (zj 2))) (zj 0)))
  (zA (zZ 7 (zN zw (zf (zj 0) (zf (mC (.int 4)) zq))))
  (zay (mOr (mB (mOp (zaQ false) (mCB (f1 zbv) (zf (zj 6) zq)) (mC (.int 0)))) (mB (mOp (zaQ false) (zj 7) (mC (.int 0))))) (zaP (zbV 4 (mC .none))) (zay (mB (mOp fLt (zj 7) (mC (.int 3)))) (zaP (zbV 4 (mOp zax (zj 6) (mUn zla (mC (.int 1)))))) (zaP (zbV 4 (mOp zax (zj 6) (zN zw (zf (zj 0) (zf (mCB (f1 zbv) (zf (zj 6) zq)) zq)))))))))))
  (zak (zbe (zf (zN zbt (zf (zj 0) zq)) (zf (mCB (f1 zbP) (zf (mSl zqx (zj 4) zfa (zkr (mOp zbY (mOp zf5 (zN zw (zf (zj 0) (zf (mC (.int 2)) zq))) (zj 2)) (zN zw (zf (zj 0) (zf (mOp zbY (zj 2) (mC (.int 1))) zq)))))) zq)) zq)))))))
def zdn:FD:=zaz 8 [0,1,2] zhG
abbrev zhH(Z:Zs):Prop:=Z.C "_law_top" 3 ["_law_box_here", "_law_nodes_here", "_law_deep"] 3 zdn
theorem zm5(B:Bs Z)(A:FnZ Z "_law_top" zhB)(c0:zaU Z)(c1:zc3 Z)(c2:zcB Z):zhH Z :=
 have hB:=B.1; zaK A ["_law_box_here", "_law_nodes_here", "_law_deep", "_law_high_here", "_law_outs", "_law_grade", "_law_some", "_law_way"] fun nd hr=>⟨_,(zr (zH (zy 1 (zd ze zk)))
 (zr (zH (zcU zk))
 (zr (zbj (zvd (zd zm (zd (zo zaw ze zm) zk))) zv (zr (zH (zml (zgt (zd (zar zan (zd ze zk)) zk)) zv (zz (zo zaC (zo zW ze ze) ze)) ze))
 (zr (zH (zy 2 (zd ze (zd zm zk))))
 (zaf (zcb (zz (zo zaC (zar zan (zd ze zk)) zm)) (zz (zo zaC ze zm))) (zaG (zbC zcO)) (zaf (zz (zo zeE ze zm)) (zaG (zbC (zo zW ze (zda zg9 zm)))) (zaG (zbC (zo zW ze (zy 2 (zd ze (zd (zar zan (zd ze zk)) zk)))))))))))
 (zU (zaB (zd (zy 1 (zd ze zk)) (zd (zar zbF (zd (zyG zlm ze zlk (zll (zo zaw (zo zcP (zy 2 (zd ze (zd zm zk))) ze) (zy 2 (zd ze (zd (zo zaw ze zm) zk)))))) zk)) zk))))))),
 (w_s (zJ (zx (w_a w_v zi)))
 (w_s (zJ (zcK zi))
 (w_s (zbi (zrG (w_a zn (w_a (zR zav w_v zn) zi))) zu (w_s (zwq (zeB (w_a (zau zaM PySem.boot_len (w_a w_v zi)) zi)) zu (zrH (zK za3 (zL zai w_v w_v) w_v)) w_v)
 (w_s (zJ (zx (w_a w_v (w_a zn zi))))
 (zC (zaJ (zet (zca (zK za3 (zau zaM PySem.boot_len (w_a w_v zi)) zn) (zbX (zK za3 w_v zn)))) (zC (zaF (zcz _ rfl PySem.F.plainAttrs_list PySem.F.slot_list_append PySem.F.type_list_append zaa w_v (w_a zcI zi)))) (zC (zaJ (zK zew w_v zn) (zC (zaF (zcz _ rfl PySem.F.plainAttrs_list PySem.F.slot_list_append PySem.F.type_list_append zaa w_v (w_a (zL zai w_v (zqo zg2 zn)) zi)))) (zC (zaF (zcz _ rfl PySem.F.plainAttrs_list PySem.F.slot_list_append PySem.F.type_list_append zaa w_v (w_a (zL zai w_v (zx (w_a w_v (w_a (zau zaM PySem.boot_len (w_a w_v zi)) zi)))) zi)))))))))))
 (zC (zM (zaA (w_a (zx (w_a w_v zi)) (w_a (zfj za7 PyProof.Rows.boot_tuple (w_a (zk5 zrJ w_v zk3 (zk4 (zR zav (zR zcF (zx (w_a w_v (w_a zn zi))) w_v) (zx (w_a w_v (w_a (zR zav w_v zn) zi)))))) zi)) zi))))))))⟩
def ze1:MS:=(zA (zZ 2 zdC)
  (zA (zb8 (mIt zfu (mFz (zj 0))) (zB 3) (zay (mB (mOp (zaQ true) (mOp zac (zj 1) (mC (.int 0))) (mC (.int 0)))) (zel 2 (zj 3) (zN zbI (zf (zcV (zj 0) (zj 3)) (zf (zj 1) zq)))) zap))
  (zdM [0,1] 2)))
def zb4:FD:=zaz 4 [0,1] ze1
abbrev ze2(Z:Zs):Prop:=Z.C "_law_scaled" 3 ["_law_pol", "_law_f"] 2 zb4
theorem zjr(B:Bs Z)(A:FnZ Z "_law_scaled" zeT)(c0:zdG Z):ze2 Z :=
 have hB:=B.1; zaK A ["_law_pol", "_law_f", "_law_found", "_law_powers"] fun nd hr=>⟨_,(zr (zH zd6)
 (zr (zbj (zd7 (zcS ze)) zv (zaf (zz (zo zd8 (zo zE ze zm) zm)) (zgb ze (zy 2 (zd (zdB ze ze) (zd ze zk)))) zae))
 zeH)),
 (w_s (zJ zd2)
 (w_s (zbi (zcN (zcR w_v)) zu (zC (zaJ (zK zgl (zL zX w_v zn) zn) (zC (zf0 hr w_v w_v (zx (w_a (zdy hr w_v w_v) (w_a w_v zi))))) zad)))
 (zC (zM w_v))))⟩
def zjs:MS:=(zA (zZ 3 (mOp zcZ (mUn (zbk "Form" "beneath") (zj 1)) (mOp zac (zj 2) (mC (.int 1)))))
  (zA (zZ 4 (zN zal (zf (mUn (zbk "Form" "beneath") (zj 0)) (zf (zj 3) zq))))
  (zA (zZ 5 (mOp zht (zj 3) (zj 4)))
  (zA (zZ 6 (mOp zcZ (mOp zht (mUn (zbk "Form" "beneath") (zj 0)) (zj 4)) (mOp zac (zj 2) (mC (.int 0)))))
  (zA (zZ 7 (mDC (mIt zdD (mFz (mUn (zbk "Form" "numbers") (zj 0)))) 2 [5] (zbq 2 (zY (zB 0) (zY (zB 1) zbG))) zgz (zj 0) (mOp zcZ (zj 1) (zj 2))))
  (zA (zb8 (mIt zdD (mFz (mUn (zbk "Form" "numbers") (zj 1)))) (zbq 2 (zY (zB 8) (zY (zB 9) zbG))) (zel 7 (zj 8) (mOp zbY (zeN (zj 7) (zj 8) (mC (.int 0))) (mOp zcZ (zj 9) (zj 6)))))
  (zak (zN zcE (zf (zj 7) (zf (mOp zcZ (mUn (zbk "Form" "beneath") (zj 0)) (zj 5)) (zf (mCB zkp (zf (mUn (zbk "Form" "room") (zj 0)) (zf (mUn (zbk "Form" "room") (zj 1)) zq))) zq)))))))))))
def zc7:FD:=zaz 10 [0,1,2] zjs
abbrev zgf(Z:Zs):Prop:=Z.C "form_sum" 4 ["one", "other", "f"] 3 zc7
theorem zoo(B:Bs Z)(A:FnZ Z "form_sum" zjg)(c0:za5 Z)(c1:zfe Z):zgf Z :=
 by obtain⟨hB,_,_,_,_,⟨CForm,oXForm⟩⟩:=B; exact zaK A ["one", "other", "f", "beneath", "factor", "first", "second", "sums", "product", "many"] fun nd hr=>⟨_,(zr (zH (zo zbx (zda (zaW oXForm.xn oXForm.cl (oXForm.na _ (by decide))) ze) (zo zE ze zm)))
 (zr (zH (zy 2 (zd (zda (zaW oXForm.xn oXForm.cl (oXForm.na _ (by decide))) ze) (zd ze zk))))
 (zr (zH (zo ze8 ze ze))
 (zr (zH (zo zbx (zo ze8 (zda (zaW oXForm.xn oXForm.cl (oXForm.na _ (by decide))) ze) ze) (zo zE ze zm)))
 (zr (zH (zzn (zcY (zcS (zda (zaW oXForm.xn oXForm.cl (oXForm.na _ (by decide))) ze))) (zbh (zQ zv (zQ zv zbg))) zcW ze (zo zbx ze ze)))
 (zr (zbj (zcY (zcS (zda (zaW oXForm.xn oXForm.cl (oXForm.na _ (by decide))) ze))) (zbh (zQ zv (zQ zv zbg))) (zgb ze (zo zaw (zij ze ze zm) (zo zbx ze ze))))
 (zU (zy 3 (zd ze (zd (zo zbx (zda (zaW oXForm.xn oXForm.cl (oXForm.na _ (by decide))) ze) ze) (zd (zar zlc (zd (zda (zaW oXForm.xn oXForm.cl (oXForm.na _ (by decide))) ze) (zd (zda (zaW oXForm.xn oXForm.cl (oXForm.na _ (by decide))) ze) zk))) zk))))))))))),
 (w_s (zJ (zR zbw (zbE _ rfl w_v rfl) (zL zX w_v zn)))
 (w_s (zJ (zx (w_a (zbE _ rfl w_v rfl) (w_a w_v zi))))
 (w_s (zJ (zR zdJ w_v w_v))
 (w_s (zJ (zR zbw (zR zdJ (zbE _ rfl w_v rfl) w_v) (zL zX w_v zn)))
 (w_s (ztB hr (zea (zcR (zbE _ rfl w_v rfl))) (zbc (w_g zu (w_g zu zbb))) zcL w_v (zR zbw w_v w_v))
 (w_s (zbi (zea (zcR (zbE _ rfl w_v rfl))) (zbc (w_g zu (w_g zu zbb))) (zC (zf0 hr w_v w_v (zR zav (zii hr w_v w_v zn ⟨rfl,rfl,rfl,rfl⟩) (zR zbw w_v w_v)))))
 (zC (zM (zx (w_a w_v (w_a (zR zbw (zbE _ rfl w_v rfl) w_v) (w_a (zau (zg4 rfl) PyProof.Rows.boot_max (w_a (zbE _ rfl w_v rfl) (w_a (zbE _ rfl w_v rfl) zi))) zi))))))))))))⟩
def zc8:MS:=(zak (zN zcE (zf (zhj (mOp zfw (zbe (zf (mC (.int 0)) zq)) (zj 1)) (mOp zac (zj 0) (mC (.int 0)))) (zf (mOp zac (zj 0) (mC (.int 1))) (zf (mC (.int 256)) zq)))))
def zaH:FD:=zaz 2 [0,1] zc8
abbrev zbR(Z:Zs):Prop:=Z.C "number_by_powers" 4 ["f", "many_letters"] 2 zaH
theorem zgg(B:Bs Z)(A:FnZ Z "number_by_powers" zc1)(c0:zfe Z):zbR Z :=
 by obtain⟨hB,_,⟨TROOM,g_ROOM⟩,_⟩:=B; exact zaK A ["f", "many_letters"] fun nd hr=>⟨_,(zU (zy 3 (zd (zin (zo zfd (zaB (zd zm zk)) ze) (zo zE ze zm)) (zd (zo zE ze zm) (zd zm zk))))),
 (zC (zM (zx (w_a (zil hr (zR (zfc _ rfl) (zaA (w_a zn zi)) w_v) (zL zX w_v zn)) (w_a (zL zX w_v zn) (w_a (zg8 (v:=.int 256) rfl g_ROOM ⟨_,rfl⟩) zi))))))⟩
def zdo:MS:=(zA (zZ 2 zdC)
  (zA (zb8 (mIt zdD (mFz (mUn (zbk "Form" "numbers") (zj 0)))) (zbq 2 (zY (zB 3) (zY (zB 4) zbG))) (zb8 (mIt zdD (mFz (mUn (zbk "Form" "numbers") (zj 1)))) (zbq 2 (zY (zB 5) (zY (zB 6) zbG))) (zA (zZ 7 (zN zch (zf (zj 3) (zf (zj 5) zq))))
  (zel 2 (zj 7) (mOp zbY (zeN (zj 2) (zj 7) (mC (.int 0))) (mOp zcZ (zj 4) (zj 6)))))))
  (zak (zN zcE (zf (zj 2) (zf (mOp zcZ (mUn (zbk "Form" "beneath") (zj 0)) (mUn (zbk "Form" "beneath") (zj 1))) (zf (mCB zkp (zf (mUn (zbk "Form" "room") (zj 0)) (zf (mUn (zbk "Form" "room") (zj 1)) zq))) zq)))))))
def zbn:FD:=zaz 8 [0,1] zdo
abbrev zdp(Z:Zs):Prop:=Z.C "times_by_powers" 4 ["one", "other"] 2 zbn
theorem zgU(B:Bs Z)(A:FnZ Z "times_by_powers" zdf)(c0:zfH Z)(c1:zfe Z):zdp Z :=
 by obtain⟨hB,_,_,_,_,⟨CForm,oXForm⟩⟩:=B; exact zaK A ["one", "other", "sums", "powers", "many", "others", "more", "both"] fun nd hr=>⟨_,(zr (zH zd6)
 (zr (zbj (zcY (zcS (zda (zaW oXForm.xn oXForm.cl (oXForm.na _ (by decide))) ze))) (zbh (zQ zv (zQ zv zbg))) (zbj (zcY (zcS (zda (zaW oXForm.xn oXForm.cl (oXForm.na _ (by decide))) ze))) (zbh (zQ zv (zQ zv zbg))) (zr (zH (zy 2 (zd ze (zd ze zk))))
 (zgb ze (zo zaw (zij ze ze zm) (zo zbx ze ze))))))
 (zU (zy 3 (zd ze (zd (zo zbx (zda (zaW oXForm.xn oXForm.cl (oXForm.na _ (by decide))) ze) (zda (zaW oXForm.xn oXForm.cl (oXForm.na _ (by decide))) ze)) (zd (zar zlc (zd (zda (zaW oXForm.xn oXForm.cl (oXForm.na _ (by decide))) ze) (zd (zda (zaW oXForm.xn oXForm.cl (oXForm.na _ (by decide))) ze) zk))) zk))))))),
 (w_s (zJ zd2)
 (w_s (zbi (zea (zcR (zbE _ rfl w_v rfl))) (zbc (w_g zu (w_g zu zbb))) (zC (zbi (zea (zcR (zbE _ rfl w_v rfl))) (zbc (w_g zu (w_g zu zbb))) (w_s (zJ (zx (w_a w_v (w_a w_v zi))))
 (zC (zf0 hr w_v w_v (zR zav (zii hr w_v w_v zn ⟨rfl,rfl,rfl,rfl⟩) (zR zbw w_v w_v))))))))
 (zC (zM (zx (w_a w_v (w_a (zR zbw (zbE _ rfl w_v rfl) (zbE _ rfl w_v rfl)) (w_a (zau (zg4 rfl) PyProof.Rows.boot_max (w_a (zbE _ rfl w_v rfl) (w_a (zbE _ rfl w_v rfl) zi))) zi))))))))⟩
def zck:MS:=(zA (zay (mOr (zdL (mB (mUn (zeJ "tuple") (zj 0)))) (mB (mOp (zf6 false) (zj 0) (zbe zq)))) (zak (mC .none)) zap)
  (zA (zay (mB (mOp (zaQ false) (mOp zac (zj 0) (mC (.int 0))) (mC (.str "letter")))) (zak (mIf (znS (mB (mOp (zaQ false) (mCB (f1 zbv) (zf (zj 0) zq)) (mC (.int 2)))) (mB (zN zbQ (zf (mOp zac (zj 0) (mC (.int 1))) (zf (zj 2) zq))))) (mC (.int 1)) (mC .none))) zap)
  (zA (zay (mB (mOp (zaQ false) (mOp zac (zj 0) (mC (.int 0))) (mC (.str "mix")))) (zak (mIf (mB (mOp (zaQ false) (mCB (f1 zbv) (zf (zj 0) zq)) (mC (.int 2)))) (zN zcC (zf (mOp zac (zj 0) (mC (.int 1))) (zf (zj 1) zq))) (mC .none))) zap)
  (zA (zay (mB (mOp (zaQ false) (mOp zac (zj 0) (mC (.int 0))) (mC (.str "times")))) (zak (mIf (mB (mOp (zaQ false) (mCB (f1 zbv) (zf (zj 0) zq)) (mC (.int 3)))) (zN zb2 (zf (mOp zac (zj 0) (mC (.int 1))) (zf (mOp zac (zj 0) (mC (.int 2))) (zf (zj 1) zq)))) (mC .none))) zap)
  (zak (mC .none))))))
def za8:FD:=zaz 3 [0,1,2] zck
abbrev zfO(Z:Zs):Prop:=Z.C "node_degree" 4 ["node", "ahead", "many_letters"] 3 za8
theorem zjZ(B:Bs Z)(A:FnZ Z "node_degree" zfz)(c0:zee Z)(c1:zgS Z)(c2:zeY Z):zfO Z :=
 have hB:=B.1; zaK A ["node", "ahead", "many_letters"] fun nd hr=>⟨_,(zr (zaf (zcb (zbp (zdz (zeK (T := "tuple") ze))) (zz (zo (zlb false) ze (zaB zk)))) (zU zcO) zae)
 (zr (zaf (zz (zo zaC (zo zE ze zm) zaN)) (zU (zyB (zld (zz (zo zaC (zar zan (zd ze zk)) zm)) (zdz (zy 2 (zd (zo zE ze zm) (zd ze zk))))) zm zcO)) zae)
 (zr (zaf (zz (zo zaC (zo zE ze zm) zaN)) (zU (zyB (zz (zo zaC (zar zan (zd ze zk)) zm)) (zy 2 (zd (zo zE ze zm) (zd ze zk))) zcO)) zae)
 (zr (zaf (zz (zo zaC (zo zE ze zm) zaN)) (zU (zyB (zz (zo zaC (zar zan (zd ze zk)) zm)) (zy 3 (zd (zo zE ze zm) (zd (zo zE ze zm) (zd ze zk)))) zcO)) zae)
 (zU zcO))))),
 (w_s (zaJ (zet (zca (zbo (zba (zau zeC PyProof.Rows.boot_isinstance (w_a w_v (w_a (zcJ (v:=.ty "tuple") PyProof.Rows.boot_tuple rfl) zi))))) (zbX (zK (znQ _ rfl hr) w_v (zaA zi))))) (zC (zM zcI)) zad)
 (w_s (zaJ (zK za3 (zL zX w_v zn) zaL) (zC (zM (zrF (zet (zk2 (zK za3 (zau zaM PySem.boot_len (w_a w_v zi)) zn) (zia (zba (zx (w_a (zL zX w_v zn) (w_a w_v zi))))))) zn zcI))) zad)
 (w_s (zaJ (zK za3 (zL zX w_v zn) zaL) (zC (zM (zrF (zK za3 (zau zaM PySem.boot_len (w_a w_v zi)) zn) (zx (w_a (zL zX w_v zn) (w_a w_v zi))) zcI))) zad)
 (w_s (zaJ (zK za3 (zL zX w_v zn) zaL) (zC (zM (zrF (zK za3 (zau zaM PySem.boot_len (w_a w_v zi)) zn) (zx (w_a (zL zX w_v zn) (w_a (zL zX w_v zn) (w_a w_v zi)))) zcI))) zad)
 (zC (zM zcI))))))⟩
def zhI:MS:=(zA (zZ 4 (zeu zq))
  (zA (zb8 (zhu (zf (mCB (f1 zbv) (zf (zj 1) zq)) zq)) (zB 5) (zay (znS (mB (mOp (zaQ false) (mOp zax (zj 2) (zj 5)) (mOp zax (zj 2) (zj 3)))) (mOr (mB (mOp (zaQ false) (zj 5) (zj 3))) (mB (mOp (zaQ false) (zN zw (zf (zj 0) (zf (mC (.int 3)) zq))) (mC (.int 0)))))) (zaP (zbV 4 (zbe (zf (zN zb3 (zf (zj 0) zq)) (zf (zj 5) zq))))) zap))
  (zak (zbe (zf (mC (.str "mix")) (zf (mCB (f1 zbP) (zf (zj 4) zq)) zq))))))
def zdq:FD:=zaz 6 [0,1,2,3] zhI
abbrev zhJ(Z:Zs):Prop:=Z.C "_law_mix" 4 ["_law_box_here", "_law_nodes_here", "_law_high_here", "_law_last"] 4 zdq
theorem zm6(B:Bs Z)(A:FnZ Z "_law_mix" zhA)(c0:zaU Z)(c1:ze0 Z):zhJ Z :=
 have hB:=B.1; zaK A ["_law_box_here", "_law_nodes_here", "_law_high_here", "_law_last", "_law_pairs", "_law_n"] fun nd hr=>⟨_,(zr (zH (zcU zk))
 (zr (zbj (zgt (zd (zar zan (zd ze zk)) zk)) zv (zaf (zld (zz (zo zaC (zo zW ze ze) (zo zW ze ze))) (zcb (zz (zo zaC ze ze)) (zz (zo zaC (zy 2 (zd ze (zd zm zk))) zm)))) (zaG (zbC (zaB (zd (zy 1 (zd ze zk)) (zd ze zk))))) zae))
 (zU (zaB (zd zaN (zd (zar zbF (zd ze zk)) zk)))))),
 (w_s (zJ (zcK zi))
 (w_s (zbi (zeB (w_a (zau zaM PySem.boot_len (w_a w_v zi)) zi)) zu (zC (zaJ (zet (zk2 (zK za3 (zL zai w_v w_v) (zL zai w_v w_v)) (zia (zet (zca (zK za3 w_v w_v) (zbX (zK za3 (zx (w_a w_v (w_a zn zi))) zn))))))) (zC (zaF (zcz _ rfl PySem.F.plainAttrs_list PySem.F.slot_list_append PySem.F.type_list_append zaa w_v (w_a (zaA (w_a (zx (w_a w_v zi)) (w_a w_v zi))) zi)))) zad)))
 (zC (zM (zaA (w_a zaL (w_a (zfj za7 PyProof.Rows.boot_tuple (w_a w_v zi)) zi)))))))⟩
def zdr:MS:=(zA (zZ 1 (mCB (f1 zbv) (zf (mOp zac (zj 0) (mC (.int 0))) zq)))
  (zA (zZ 2 (zeu zq))
  (zA (zb8 (mIt zgs (mOp zac (zj 0) (mC (.int 1)))) (zB 3) (zay (mB (mOp (zaQ false) (mOp zac (zj 3) (mC (.int 0))) (mC (.str "letter")))) (zaP (zbV 2 (mFz (zN zaY (zf (zj 1) (zf (mOp zac (zj 3) (mC (.int 1))) zq)))))) (zay (mB (mOp (zaQ false) (mOp zac (zj 3) (mC (.int 0))) (mC (.str "times")))) (zaP (zbV 2 (mFz (zN zbm (zf (mOp zax (zj 2) (mOp zac (zj 3) (mC (.int 1)))) (zf (mOp zax (zj 2) (mOp zac (zj 3) (mC (.int 2)))) zq)))))) (zA (zZ 4 zdC)
  (zA (zb8 (mIt zgs (mOp zac (zj 3) (mC (.int 1)))) (zbq 2 (zY (zB 5) (zY (zB 6) zbG))) (zZ 4 (zN za0 (zf (zj 4) (zf (zN zb4 (zf (mOp zax (zj 2) (zj 6)) (zf (zj 5) zq))) (zf (mC (.int 1)) zq))))))
  (zaP (zbV 2 (mFz (zj 4)))))))))
  (zdM [0] 2))))
def zaV:FD:=zaz 7 [0] zdr
abbrev zb5(Z:Zs):Prop:=Z.C "_law_net_polys" 4 ["_law_net_here"] 1 zaV
theorem zgV(B:Bs Z)(A:FnZ Z "_law_net_polys" zdi)(c0:zcf Z)(c1:zdm Z)(c2:zcx Z)(c3:ze2 Z):zb5 Z :=
 have hB:=B.1; zaK A ["_law_net_here", "_law_many", "_law_found", "_law_node", "_law_total", "_law_f", "_law_part"] fun nd hr=>⟨_,(zr (zH (zar zan (zd (zo zE ze zm) zk)))
 (zr (zH (zcU zk))
 (zr (zbj (zdA (zo zE ze zm)) zv (zaf (zz (zo zaC (zo zE ze zm) zaN)) (zaG (zbC (zcS (zy 2 (zd ze (zd (zo zE ze zm) zk)))))) (zaf (zz (zo zaC (zo zE ze zm) zaN)) (zaG (zbC (zcS (zy 2 (zd (zo zW ze (zo zE ze zm)) (zd (zo zW ze (zo zE ze zm)) zk)))))) (zr (zH zd6)
 (zr (zbj (zdA (zo zE ze zm)) (zbh (zQ zv (zQ zv zbg))) (zH (zy 3 (zd ze (zd (zy 2 (zd (zo zW ze ze) (zd ze zk))) (zd zm zk))))))
 (zaG (zbC (zcS ze))))))))
 zeH))),
 (w_s (zJ (zau zaM PySem.boot_len (w_a (zL zX w_v zn) zi)))
 (w_s (zJ (zcK zi))
 (w_s (zbi (zdx (zL zX w_v zn)) zu (zC (zaJ (zK za3 (zL zX w_v zn) zaL) (zC (zaF (zcz _ rfl PySem.F.plainAttrs_list PySem.F.slot_list_append PySem.F.type_list_append zaa w_v (w_a (zcR (zx (w_a w_v (w_a (zL zX w_v zn) zi)))) zi)))) (zC (zaJ (zK za3 (zL zX w_v zn) zaL) (zC (zaF (zcz _ rfl PySem.F.plainAttrs_list PySem.F.slot_list_append PySem.F.type_list_append zaa w_v (w_a (zcR (zx (w_a (zL zai w_v (zL zX w_v zn)) (w_a (zL zai w_v (zL zX w_v zn)) zi)))) zi)))) (w_s (zJ zd2)
 (w_s (zbi (zdx (zL zX w_v zn)) (zbc (w_g zu (w_g zu zbb))) (zC (zJ (zx (w_a w_v (w_a (zx (w_a (zL zai w_v w_v) (w_a w_v zi))) (w_a zn zi)))))))
 (zC (zaF (zcz _ rfl PySem.F.plainAttrs_list PySem.F.slot_list_append PySem.F.type_list_append zaa w_v (w_a (zcR w_v) zi)))))))))))
 (zC (zM w_v)))))⟩
def zhK:MS:=(zak (zN zc7 (zf (zj 0) (zf (zj 1) (zf (mC (.tuple [.int 1,.int 1])) zq)))))
def zds:FD:=zaz 2 [0,1] zhK
abbrev zhL(Z:Zs):Prop:=Z.C "form_plus" 5 ["one", "other"] 2 zds
theorem zm7(B:Bs Z)(A:FnZ Z "form_plus" zhx)(c0:zgf Z):zhL Z :=
 by obtain⟨hB,_,_,_,⟨GONE,g_ONE,gt_ONE⟩,_⟩:=B; exact zaK A ["one", "other"] fun nd hr=>⟨_,(zU (zy 3 (zd ze (zd ze (zd (ztI gt_ONE) zk))))),
 (zC (zM (zx (w_a w_v (w_a w_v (w_a (zg8 (v:=.ref GONE) rfl g_ONE rfl) zi))))))⟩
def zkG:MS:=(zA (zlf (zj 0) (zbq 3 (zY (zB 1) (zY (zB 2) (zY (zB 3) zbG)))))
  (zA (zZ 4 (zeu zq))
  (zA (zb8 (mIt zgs (zj 2)) (zB 5) (zaP (zbV 4 (zN za8 (zf (zj 5) (zf (zj 4) (zf (mCB (f1 zbv) (zf (zj 1) zq)) zq)))))))
  (zdM [0] 4))))
def zff:FD:=zaz 6 [0] zkG
abbrev zkH(Z:Zs):Prop:=Z.C "degrees" 5 ["net"] 1 zff
theorem zqR(B:Bs Z)(A:FnZ Z "degrees" zkE)(c0:zfO Z):zkH Z :=
 have hB:=B.1; zaK A ["net", "letters", "nodes", "top", "told", "node"] fun nd hr=>⟨_,(zr (zmk ze (zbh (zQ zv (zQ zv (zQ zv zbg)))))
 (zr (zH (zcU zk))
 (zr (zbj (zdA ze) zv (zaG (zbC (zy 3 (zd ze (zd ze (zd (zar zan (zd ze zk)) zk)))))))
 zeH))),
 (w_s (zhs w_v (zbc (w_g zu (w_g zu (w_g zu zbb)))))
 (w_s (zJ (zcK zi))
 (w_s (zbi (zdx w_v) zu (zC (zaF (zcz _ rfl PySem.F.plainAttrs_list PySem.F.slot_list_append PySem.F.type_list_append zaa w_v (w_a (zx (w_a w_v (w_a w_v (w_a (zau zaM PySem.boot_len (w_a w_v zi)) zi)))) zi)))))
 (zC (zM w_v)))))⟩
def zjt:MS:=(zA (zZ 3 (zN zaH (zf (mC (.tuple [.int 0,.int 1])) (zf (zj 2) zq))))
  (zA (zb8 (mIt zgs (zj 0)) (zbq 2 (zY (zB 4) (zY (zB 5) zbG))) (zZ 3 (zN zc7 (zf (zj 3) (zf (mOp zax (zj 1) (zj 5)) (zf (zj 4) zq))))))
  (zak (zj 3))))
def zeg:FD:=zaz 6 [0,1,2] zjt
abbrev zju(Z:Zs):Prop:=Z.C "mix_form" 5 ["pairs", "forms", "many_letters"] 3 zeg
theorem zop(B:Bs Z)(A:FnZ Z "mix_form" zji)(c0:zgf Z)(c1:zbR Z):zju Z :=
 by obtain⟨hB,_,_,⟨GNOUGHT,g_NOUGHT,gt_NOUGHT⟩,_⟩:=B; exact zaK A ["pairs", "forms", "many_letters", "told", "f", "node"] fun nd hr=>⟨_,(zr (zH (zy 2 (zd (ztI gt_NOUGHT) (zd ze zk))))
 (zr (zbj (zdA ze) (zbh (zQ zv (zQ zv zbg))) (zH (zy 3 (zd ze (zd (zo zW ze ze) (zd ze zk))))))
 (zU ze))),
 (w_s (zJ (zx (w_a (zg8 (v:=.ref GNOUGHT) rfl g_NOUGHT rfl) (w_a w_v zi))))
 (w_s (zbi (zdx w_v) (zbc (w_g zu (w_g zu zbb))) (zC (zJ (zx (w_a w_v (w_a (zL zai w_v w_v) (w_a w_v zi)))))))
 (zC (zM w_v))))⟩
def zfP:MS:=(zA (zZ 5 (mCB (f1 zrV) (zf (zj 2) zq)))
  (zA (zZ 6 (zN zaE (zf (zj 5) zq)))
  (zA (zb8 (zhu (zf (zj 3) zq)) (zB 7) (zA (zZ 8 (zN zw (zf (zj 0) (zf (mC (.int 6)) zq))))
  (zA (zay (mOr (mB (mOp (zaQ false) (mCB (f1 zbv) (zf (zj 5) zq)) (mC (.int 0)))) (mB (mOp (zaQ false) (zj 8) (mC (.int 0))))) (zA (zaP (zbV 5 (zbe (zf (mC (.str "letter")) (zf (zN zw (zf (zj 0) (zf (zj 1) zq))) zq)))))
  (zA (zaP (zbV 6 (mC (.int 1))))
  (fun ρ=>some (.ct ρ)))) zap)
  (zA (zZ 9 (mOp zax (zeu (zf (mOp ziR (mCB (f1 zbv) (zf (zj 5) zq)) (mC (.int 1))) (zf (zN zw (zf (zj 0) (zf (mCB (f1 zbv) (zf (zj 5) zq)) zq))) zq))) (zN zw (zf (zj 0) (zf (mC (.int 2)) zq)))))
  (zA (zZ 10 (zN zw (zf (zj 0) (zf (mCB (f1 zbv) (zf (zj 5) zq)) zq))))
  (zay (mOr (mB (mOp fLt (zj 8) (mC (.int 3)))) (mB (mOp fGt (mOp zbY (mOp zax (zj 6) (zj 9)) (mOp zax (zj 6) (zj 10))) (zj 4)))) (zA (zaP (zbV 5 (zN zdq (zf (zj 0) (zf (zj 5) (zf (zj 6) (zf (zj 9) zq)))))))
  (zaP (zbV 6 (mOp zax (zj 6) (zj 9))))) (zA (zaP (zbV 5 (zbe (zf (mC (.str "times")) (zf (mOp zax (zeu (zf (zj 9) (zf (zj 10) zq))) (mCB (f1 ziU) (zf (mOp fLt (mOp zax (zj 6) (zj 9)) (mOp zax (zj 6) (zj 10))) zq))) (zf (mOp zax (zeu (zf (zj 10) (zf (zj 9) zq))) (mCB (f1 ziU) (zf (mOp fLt (mOp zax (zj 6) (zj 9)) (mOp zax (zj 6) (zj 10))) zq))) zq))))))
  (zaP (zbV 6 (mOp zbY (mOp zax (zj 6) (zj 9)) (mOp zax (zj 6) (zj 10))))))))))))
  (zak (mCB (f1 zbP) (zf (zj 5) zq))))))
def zcl:FD:=zaz 11 [0,1,2,3,4] zfP
abbrev zfQ(Z:Zs):Prop:=Z.C "_law_nodes" 5 ["_law_box_here", "_law_many", "_law_nodes_here", "_law_most", "_law_deep"] 5 zcl
theorem zj0(B:Bs Z)(A:FnZ Z "_law_nodes" zfC)(c0:zaU Z)(c1:zhJ Z)(c2:zcB Z):zfQ Z :=
 have hB:=B.1; zaK A ["_law_box_here", "_law_many", "_law_nodes_here", "_law_most", "_law_deep", "_law_found", "_law_high_here", "_law_k", "_law_word", "_law_i", "_law_j"] fun nd hr=>⟨_,(zr (zH (zar zva (zd ze zk)))
 (zr (zH (zy 1 (zd ze zk)))
 (zr (zbj (zgt (zd ze zk)) zv (zr (zH (zy 2 (zd ze (zd zm zk))))
 (zr (zaf (zcb (zz (zo zaC (zar zan (zd ze zk)) zm)) (zz (zo zaC ze zm))) (zr (zaG (zbC (zaB (zd zaN (zd (zy 2 (zd ze (zd ze zk))) zk)))))
 (zr (zaG (zbC zm))
 zyF)) zae)
 (zr (zH (zo zW (zcU (zd (zo zd4 (zar zan (zd ze zk)) zm) (zd (zy 2 (zd ze (zd (zar zan (zd ze zk)) zk))) zk))) (zy 2 (zd ze (zd zm zk)))))
 (zr (zH (zy 2 (zd ze (zd (zar zan (zd ze zk)) zk))))
 (zaf (zcb (zz (zo zeE ze zm)) (zz (zo zrT (zo zaw (zo zW ze ze) (zo zW ze ze)) ze))) (zr (zaG (zbC (zy 4 (zd ze (zd ze (zd ze (zd ze zk)))))))
 (zaG (zbC (zo zW ze ze)))) (zr (zaG (zbC (zaB (zd zaN (zd (zo zW (zcU (zd ze (zd ze zk))) (zar zic (zd (zo zeE (zo zW ze ze) (zo zW ze ze)) zk))) (zd (zo zW (zcU (zd ze (zd ze zk))) (zar zic (zd (zo zeE (zo zW ze ze) (zo zW ze ze)) zk))) zk))))))
 (zaG (zbC (zo zaw (zo zW ze ze) (zo zW ze ze)))))))))))
 (zU (zar zbF (zd ze zk)))))),
 (w_s (zJ (zfj zrI PyProof.Rows.boot_list (w_a w_v zi)))
 (w_s (zJ (zx (w_a w_v zi)))
 (w_s (zbi (zeB (w_a w_v zi)) zu (w_s (zJ (zx (w_a w_v (w_a zn zi))))
 (w_s (zaJ (zet (zca (zK za3 (zau zaM PySem.boot_len (w_a w_v zi)) zn) (zbX (zK za3 w_v zn)))) (w_s (zaF (zcz _ rfl PySem.F.plainAttrs_list PySem.F.slot_list_append PySem.F.type_list_append zaa w_v (w_a (zaA (w_a zaL (w_a (zx (w_a w_v (w_a w_v zi))) zi))) zi)))
 (w_s (zaF (zcz _ rfl PySem.F.plainAttrs_list PySem.F.slot_list_append PySem.F.type_list_append zaa w_v (w_a zn zi)))
 (zC znK))) zad)
 (w_s (zJ (zL zai (zcK (w_a (zR zdY (zau zaM PySem.boot_len (w_a w_v zi)) zn) (w_a (zx (w_a w_v (w_a (zau zaM PySem.boot_len (w_a w_v zi)) zi))) zi))) (zx (w_a w_v (w_a zn zi)))))
 (w_s (zJ (zx (w_a w_v (w_a (zau zaM PySem.boot_len (w_a w_v zi)) zi))))
 (zC (zaJ (zet (zca (zK zew w_v zn) (zbX (zK zrb (zR zav (zL zai w_v w_v) (zL zai w_v w_v)) w_v)))) (w_s (zaF (zcz _ rfl PySem.F.plainAttrs_list PySem.F.slot_list_append PySem.F.type_list_append zaa w_v (w_a (zx (w_a w_v (w_a w_v (w_a w_v (w_a w_v zi))))) zi)))
 (zC (zaF (zcz _ rfl PySem.F.plainAttrs_list PySem.F.slot_list_append PySem.F.type_list_append zaa w_v (w_a (zL zai w_v w_v) zi))))) (w_s (zaF (zcz _ rfl PySem.F.plainAttrs_list PySem.F.slot_list_append PySem.F.type_list_append zaa w_v (w_a (zaA (w_a zaL (w_a (zL zai (zcK (w_a w_v (w_a w_v zi))) (zfj ze5 PyProof.Rows.boot_int (w_a (ziI zew (zL zai w_v w_v) (zL zai w_v w_v)) zi))) (w_a (zL zai (zcK (w_a w_v (w_a w_v zi))) (zfj ze5 PyProof.Rows.boot_int (w_a (ziI zew (zL zai w_v w_v) (zL zai w_v w_v)) zi))) zi)))) zi)))
 (zC (zaF (zcz _ rfl PySem.F.plainAttrs_list PySem.F.slot_list_append PySem.F.type_list_append zaa w_v (w_a (zR zav (zL zai w_v w_v) (zL zai w_v w_v)) zi))))))))))))
 (zC (zM (zfj za7 PyProof.Rows.boot_tuple (w_a w_v zi)))))))⟩
def zdV:MS:=(zA (zZ 1 (zN zaV (zf (zj 0) zq)))
  (zA (zZ 2 (zN zaX (zf (mCB (f1 zbv) (zf (mOp zac (zj 0) (mC (.int 0))) zq)) (zf (mOp zac (mOp zac (zj 0) (mC (.int 2))) (mC (.int 0))) zq))))
  (zA (zb8 (mIt zgs (mOp zac (mOp zac (zj 0) (mC (.int 2))) (mC (.int 1)))) (zB 3) (zay (mB (mOp (znX true) (zj 3) (mC .none))) (zZ 2 (zN za0 (zf (zj 2) (zf (mOp zax (zj 1) (zj 3)) (zf (mC (.int 1)) zq))))) zap))
  (zdM [0] 2))))
def zbA:FD:=zaz 4 [0] zdV
abbrev zdW(Z:Zs):Prop:=Z.C "_law_net_poly" 5 ["_law_net_here"] 1 zbA
theorem zhm(B:Bs Z)(A:FnZ Z "_law_net_poly" zdS)(c0:zcf Z)(c1:zcv Z)(c2:zb5 Z):zdW Z :=
 have hB:=B.1; zaK A ["_law_net_here", "_law_found", "_law_total", "_law_out"] fun nd hr=>⟨_,(zr (zH (zy 1 (zd ze zk)))
 (zr (zH (zy 2 (zd (zar zan (zd (zo zE ze zm) zk)) (zd (zo zE (zo zE ze zm) zm) zk))))
 (zr (zbj (zdA (zo zE (zo zE ze zm) zm)) zv (zaf (zz (zo zlp ze zcO)) (zH (zy 3 (zd ze (zd (zo zW ze ze) (zd zm zk))))) zae))
 zeH))),
 (w_s (zJ (zx (w_a w_v zi)))
 (w_s (zJ (zx (w_a (zau zaM PySem.boot_len (w_a (zL zX w_v zn) zi)) (w_a (zL zX (zL zX w_v zn) zn) zi))))
 (w_s (zbi (zdx (zL zX (zL zX w_v zn) zn)) zu (zC (zaJ (zK zkO w_v zcI) (zC (zJ (zx (w_a w_v (w_a (zL zai w_v w_v) (w_a zn zi)))))) zad)))
 (zC (zM w_v)))))⟩
def zgW:MS:=(zA (zlf (zj 0) (zbq 3 (zY (zB 1) (zY (zB 2) (zY (zB 3) zbG)))))
  (zA (zZ 4 (zeu zq))
  (zA (zb8 (mIt zgs (zj 2)) (zB 5) (zay (mB (mOp (zaQ false) (mOp zac (zj 5) (mC (.int 0))) (mC (.str "letter")))) (zaP (zbV 4 (zN za2 (zf (mOp zac (zj 5) (mC (.int 1))) (zf (mCB (f1 zbv) (zf (zj 1) zq)) zq))))) (zay (mB (mOp (zaQ false) (mOp zac (zj 5) (mC (.int 0))) (mC (.str "mix")))) (zaP (zbV 4 (zN zeg (zf (mOp zac (zj 5) (mC (.int 1))) (zf (zj 4) (zf (mCB (f1 zbv) (zf (zj 1) zq)) zq)))))) (zaP (zbV 4 (zN zbn (zf (mOp zax (zj 4) (mOp zac (zj 5) (mC (.int 1)))) (zf (mOp zax (zj 4) (mOp zac (zj 5) (mC (.int 2)))) zq))))))))
  (zdM [0] 4))))
def zb6:FD:=zaz 6 [0] zgW
abbrev zeh(Z:Zs):Prop:=Z.C "node_forms" 6 ["net"] 1 zb6
theorem zlI(B:Bs Z)(A:FnZ Z "node_forms" zgJ)(c0:zc5 Z)(c1:zdp Z)(c2:zju Z):zeh Z :=
 have hB:=B.1; zaK A ["net", "letters", "nodes", "top", "told", "node"] fun nd hr=>⟨_,(zr (zmk ze (zbh (zQ zv (zQ zv (zQ zv zbg)))))
 (zr (zH (zcU zk))
 (zr (zbj (zdA ze) zv (zaf (zz (zo zaC (zo zE ze zm) zaN)) (zaG (zbC (zy 2 (zd (zo zE ze zm) (zd (zar zan (zd ze zk)) zk))))) (zaf (zz (zo zaC (zo zE ze zm) zaN)) (zaG (zbC (zy 3 (zd (zo zE ze zm) (zd ze (zd (zar zan (zd ze zk)) zk)))))) (zaG (zbC (zy 2 (zd (zo zW ze (zo zE ze zm)) (zd (zo zW ze (zo zE ze zm)) zk))))))))
 zeH))),
 (w_s (zhs w_v (zbc (w_g zu (w_g zu (w_g zu zbb)))))
 (w_s (zJ (zcK zi))
 (w_s (zbi (zdx w_v) zu (zC (zaJ (zK za3 (zL zX w_v zn) zaL) (zC (zaF (zcz _ rfl PySem.F.plainAttrs_list PySem.F.slot_list_append PySem.F.type_list_append zaa w_v (w_a (zx (w_a (zL zX w_v zn) (w_a (zau zaM PySem.boot_len (w_a w_v zi)) zi))) zi)))) (zC (zaJ (zK za3 (zL zX w_v zn) zaL) (zC (zaF (zcz _ rfl PySem.F.plainAttrs_list PySem.F.slot_list_append PySem.F.type_list_append zaa w_v (w_a (zx (w_a (zL zX w_v zn) (w_a w_v (w_a (zau zaM PySem.boot_len (w_a w_v zi)) zi)))) zi)))) (zC (zaF (zcz _ rfl PySem.F.plainAttrs_list PySem.F.slot_list_append PySem.F.type_list_append zaa w_v (w_a (zx (w_a (zL zai w_v (zL zX w_v zn)) (w_a (zL zai w_v (zL zX w_v zn)) zi))) zi)))))))))
 (zC (zM w_v)))))⟩
def zhM:MS:=(zA (zZ 4 (zN zcl (zf (zj 0) (zf (mCB (f1 zbv) (zf (zj 1) zq)) (zf (zbe zq) (zf (zN zw (zf (zj 0) (zf (mOp zbY (zj 2) (mC (.int 1))) zq))) (zf (zj 3) zq)))))))
  (zak (zbe (zf (zj 1) (zf (zj 4) (zf (zN zdn (zf (zj 0) (zf (zj 4) (zf (zj 3) zq)))) zq))))))
def zdt:FD:=zaz 5 [0,1,2,3] zhM
abbrev zhN(Z:Zs):Prop:=Z.C "_law_net" 6 ["_law_box_here", "_law_letters", "_law_most", "_law_deep"] 4 zdt
theorem zm8(B:Bs Z)(A:FnZ Z "_law_net" zhC)(c0:zaU Z)(c1:zfQ Z)(c2:zhH Z):zhN Z :=
 have hB:=B.1; zaK A ["_law_box_here", "_law_letters", "_law_most", "_law_deep", "_law_nodes_here"] fun nd hr=>⟨_,(zr (zH (zy 5 (zd ze (zd (zar zan (zd ze zk)) (zd (zaB zk) (zd (zy 2 (zd ze (zd (zo zaw ze zm) zk))) (zd ze zk)))))))
 (zU (zaB (zd ze (zd ze (zd (zy 3 (zd ze (zd ze (zd ze zk)))) zk)))))),
 (w_s (zJ (zx (w_a w_v (w_a (zau zaM PySem.boot_len (w_a w_v zi)) (w_a (zaA zi) (w_a (zx (w_a w_v (w_a (zR zav w_v zn) zi))) (w_a w_v zi)))))))
 (zC (zM (zaA (w_a w_v (w_a w_v (w_a (zx (w_a w_v (w_a w_v (w_a w_v zi)))) zi)))))))⟩
def zhO:MS:=(zak (mLC (mIt zqv (mFz (zN zb6 (zf (zj 0) zq)))) 1 [] (zB 0) zgz (mCB (f1 zbP) (zf (zN zbu (zf (zj 0) zq)) zq))))
def zdu:FD:=zaz 1 [0] zhO
abbrev zhP(Z:Zs):Prop:=Z.C "net_polys" 7 ["net"] 1 zdu
theorem zm9(B:Bs Z)(A:FnZ Z "net_polys" zhy)(c0:zc6 Z)(c1:zeh Z):zhP Z :=
 have hB:=B.1; zaK A ["net"] fun nd hr=>⟨_,(zU (zml (zvc (zcS (zy 1 (zd ze zk)))) zv zcW (zar zbF (zd (zy 1 (zd ze zk)) zk)))),
 (zC (zM (zmb (zoO (zcR (zx (w_a w_v zi)))) zu zcL (zfj za7 PyProof.Rows.boot_tuple (w_a (zx (w_a w_v zi)) zi)))))⟩
def zjv:MS:=(zA (zlf (zj 0) (zbq 3 (zY (zB 1) (zY (zB 2) (zY (zB 3) zbG)))))
  (zA (zZ 4 (zN zb6 (zf (zj 0) zq)))
  (zA (zZ 5 (zN zaH (zf (mOp zac (zj 3) (mC (.int 0))) (zf (mCB (f1 zbv) (zf (zj 1) zq)) zq))))
  (zA (zb8 (mIt zgs (mOp zac (zj 3) (mC (.int 1)))) (zB 6) (zay (mB (mOp (znX true) (zj 6) (mC .none))) (zZ 5 (zN zds (zf (zj 5) (zf (mOp zax (zj 4) (zj 6)) zq)))) zap))
  (zak (mCB (f1 zbP) (zf (zN zbu (zf (zj 5) zq)) zq)))))))
def zei:FD:=zaz 7 [0] zjv
abbrev zjw(Z:Zs):Prop:=Z.C "net_poly" 7 ["net"] 1 zei
theorem zoq(B:Bs Z)(A:FnZ Z "net_poly" zjj)(c0:zhL Z)(c1:zbR Z)(c2:zc6 Z)(c3:zeh Z):zjw Z :=
 have hB:=B.1; zaK A ["net", "letters", "nodes", "top", "forms", "told", "out"] fun nd hr=>⟨_,(zr (zmk ze (zbh (zQ zv (zQ zv (zQ zv zbg)))))
 (zr (zH (zy 1 (zd ze zk)))
 (zr (zH (zy 2 (zd (zo zE ze zm) (zd (zar zan (zd ze zk)) zk))))
 (zr (zbj (zdA (zo zE ze zm)) zv (zaf (zz (zo zlp ze zcO)) (zH (zy 2 (zd ze (zd (zo zW ze ze) zk)))) zae))
 (zU (zar zbF (zd (zy 1 (zd ze zk)) zk))))))),
 (w_s (zhs w_v (zbc (w_g zu (w_g zu (w_g zu zbb)))))
 (w_s (zJ (zx (w_a w_v zi)))
 (w_s (zJ (zx (w_a (zL zX w_v zn) (w_a (zau zaM PySem.boot_len (w_a w_v zi)) zi))))
 (w_s (zbi (zdx (zL zX w_v zn)) zu (zC (zaJ (zK zkO w_v zcI) (zC (zJ (zx (w_a w_v (w_a (zL zai w_v w_v) zi))))) zad)))
 (zC (zM (zfj za7 PyProof.Rows.boot_tuple (w_a (zx (w_a w_v zi)) zi))))))))⟩
def zfR:MS:=(zA (zZ 1 (zN zcj (zf (zj 0) (zf (mOp zbY (mC (.int 1)) (zN zw (zf (zj 0) (zf (mC (.int 3)) zq)))) zq))))
  (zA (zZ 2 (mOp zax (zeu (zf (mC (.int 8)) (zf (mC (.int 12)) zq))) (mCB (f1 ziU) (zf (mOp (zaQ false) (zN zw (zf (zj 0) (zf (mC (.int 8)) zq))) (mC (.int 0))) zq))))
  (zak (zN zdt (zf (zj 0) (zf (zj 1) (zf (zj 2) (zf (mOp zax (zeu (zf (mC (.int 6)) (zf (mC (.int 4)) (zf (mC (.int 4)) zq)))) (mOp ziR (mCB (f1 zbv) (zf (zj 1) zq)) (mC (.int 1)))) zq))))))))
def zbJ:FD:=zaz 3 [0] zfR
abbrev zfS(Z:Zs):Prop:=Z.C "_law_drawn" 7 ["_law_box_here"] 1 zbJ
theorem zj1(B:Bs Z)(A:FnZ Z "_law_drawn" zfE)(c0:zaU Z)(c1:zfM Z)(c2:zhN Z):zfS Z :=
 have hB:=B.1; zaK A ["_law_box_here", "_law_letters", "_law_most"] fun nd hr=>⟨_,(zr (zH (zy 2 (zd ze (zd (zo zaw zm (zy 2 (zd ze (zd zm zk)))) zk))))
 (zr (zH (zo zW (zcU (zd zm (zd zm zk))) (zar zic (zd (zo zaC (zy 2 (zd ze (zd zm zk))) zm) zk))))
 (zU (zy 4 (zd ze (zd ze (zd ze (zd (zo zW (zcU (zd zm (zd zm (zd zm zk)))) (zo zd4 (zar zan (zd ze zk)) zm)) zk)))))))),
 (w_s (zJ (zx (w_a w_v (w_a (zR zav zn (zx (w_a w_v (w_a zn zi)))) zi))))
 (w_s (zJ (zL zai (zcK (w_a zn (w_a zn zi))) (zfj ze5 PyProof.Rows.boot_int (w_a (ziI za3 (zx (w_a w_v (w_a zn zi))) zn) zi))))
 (zC (zM (zx (w_a w_v (w_a w_v (w_a w_v (w_a (zL zai (zcK (w_a zn (w_a zn (w_a zn zi)))) (zR zdY (zau zaM PySem.boot_len (w_a w_v zi)) zn)) zi)))))))))⟩
def zfT:MS:=(zA (zZ 1 (zN zff (zf (zj 0) zq)))
  (zA (zay (mOr (zdL (mB (mUn (zeJ "list") (zj 1)))) (mOr (zdL (mB (mCB (f1 zqz) (zf (mLC (zvY 1) 1 [] (zB 0) zgz (zN zbH (zf (zj 0) zq))) zq)))) (mB (mOp (zf6 true) (zj 1) (zN zaE (zf (mOp zac (zj 0) (mC (.int 1))) zq)))))) (zak (mC (.bool false))) zap)
  (zA (zZ 2 (zN zdu (zf (zj 0) zq)))
  (zA (zZ 3 (zN zaV (zf (zj 0) zq)))
  (zA (zay (mOr (zdL (mB (mUn (zeJ "list") (zj 2)))) (mB (mOp (zaQ true) (mCB (f1 zbv) (zf (zj 2) zq)) (mCB (f1 zbv) (zf (zj 3) zq))))) (zak (mC (.bool false))) zap)
  (zA (zay (zdL (mB (mCB (f1 zqz) (zf (mLC (zpT 2 (mFz (zj 3))) 2 [] (zbq 2 (zY (zB 0) (zY (zB 1) zbG))) zgz (zN za6 (zf (zj 0) (zf (zj 1) zq)))) zq)))) (zak (mC (.bool false))) zap)
  (zA (zay (zdL (mB (zN za6 (zf (zN zei (zf (zj 0) zq)) (zf (zN zbA (zf (zj 0) zq)) zq))))) (zak (mC (.bool false))) zap)
  (zA (zaP (zbV 1 (mC (.int 0))))
  (zA (zaP (mLm (fun _=>[]) 2))
  (zak (mC (.bool true))))))))))))
def za9:FD:=zaz 4 [0] zfT
abbrev zfU(Z:Zs):Prop:=Z.C "_law_right" 8 ["_law_net_here"] 1 za9
theorem zj2(B:Bs Z)(A:FnZ Z "_law_right" zfF)(c0:zkH Z)(c1:zhP Z)(c2:zjw Z)(c3:zcB Z)(c4:zb5 Z)(c5:zdW Z)(c6:zdF Z)(c7:zeq Z):zfU Z :=
 have hB:=B.1; zaK A ["_law_net_here", "_law_high_here", "_law_found", "_law_due"] fun nd hr=>⟨_,(zr (zH (zy 1 (zd ze zk)))
 (zr (zaf (zcb (zbp (zdz (zeK (T := "list") ze))) (zcb (zbp (zdz (zar zn3 (zd (zr4 zzr zv zcW (zy 1 (zd ze zk))) zk)))) (zz (zo (zlb true) ze (zy 1 (zd (zo zE ze zm) zk)))))) (zU zjP) zae)
 (zr (zH (zy 1 (zd ze zk)))
 (zr (zH (zy 1 (zd ze zk)))
 (zr (zaf (zcb (zbp (zdz (zeK (T := "list") ze))) (zz (zo zd8 (zar zan (zd ze zk)) (zar zan (zd ze zk))))) (zU zjP) zae)
 (zr (zaf (zbp (zdz (zar zn3 (zd (zr4 (zvZ (zcS ze)) (zbh (zQ zv (zQ zv zbg))) zcW (zy 2 (zd ze (zd ze zk)))) zk)))) (zU zjP) zae)
 (zr (zaf (zbp (zdz (zy 2 (zd (zy 1 (zd ze zk)) (zd (zy 1 (zd ze zk)) zk))))) (zU zjP) zae)
 (zr (zaG (zbC zm))
 (zr (zaG zvS)
 (zU zjP)))))))))),
 (w_s (zJ (zx (w_a w_v zi)))
 (w_s (zaJ (zet (zca (zbo (zba (zau zeC PyProof.Rows.boot_isinstance (w_a w_v (w_a (zcJ (v:=.ty "list") PyProof.Rows.boot_list rfl) zi))))) (zca (zbo (zba (zau (zrN _ rfl rfl) PyProof.Rows.boot_all (w_a (zmb (zoO w_v) zu zcL (zx (w_a w_v zi))) zi)))) (zbX (zK (zrU _ rfl hr) w_v (zx (w_a (zL zX w_v zn) zi))))))) (zC (zM zjN)) zad)
 (w_s (zJ (zx (w_a w_v zi)))
 (w_s (zJ (zx (w_a w_v zi)))
 (w_s (zaJ (zet (zca (zbo (zba (zau zeC PyProof.Rows.boot_isinstance (w_a w_v (w_a (zcJ (v:=.ty "list") PyProof.Rows.boot_list rfl) zi))))) (zbX (zK zgl (zau zaM PySem.boot_len (w_a w_v zi)) (zau zaM PySem.boot_len (w_a w_v zi)))))) (zC (zM zjN)) zad)
 (w_s (zaJ (zbo (zba (zau (zrN _ rfl rfl) PyProof.Rows.boot_all (w_a (zmb (zvX (w_a w_v (w_a (zcR w_v) zi))) (zbc (w_g zu (w_g zu zbb))) zcL (zx (w_a w_v (w_a w_v zi)))) zi)))) (zC (zM zjN)) zad)
 (w_s (zaJ (zbo (zba (zx (w_a (zx (w_a w_v zi)) (w_a (zx (w_a w_v zi)) zi))))) (zC (zM zjN)) zad)
 (w_s (zaF (zcz _ rfl PySem.F.plainAttrs_list PySem.F.slot_list_append PySem.F.type_list_append zaa w_v (w_a zn zi)))
 (w_s (zaF (zrL _ rfl PySem.F.plainAttrs_list PySem.F.slot_list_clear PySem.F.type_list_clear zrp w_v))
 (zC (zM zjN)))))))))))⟩
def zxu:MS:=(zA (zZ 1 (zN zbJ (zf (zN zco (zf (zj 0) (zf (mC (.int 0)) zq))) zq)))
  (zA (zZ 2 (zN zbJ (zf (zN zco (zf (zj 0) (zf (mC (.int 1)) zq))) zq)))
  (zA (zZ 3 (zbe (zf (mOp zac (zj 1) (mC (.int 0))) (zf (mCB (f1 zbP) (zf (mOp zac (zj 1) (mC (.int 1))) zq)) (zf (mOp zac (zj 1) (mC (.int 2))) zq)))))
  (zak (zft (zN za9 (zf (zj 1) zq)) (zft (zN za9 (zf (zj 2) zq)) (zft (zN za9 (zf (zj 1) zq)) (mOp (zf6 false) (zj 1) (zj 3)))))))))
def zkI:FD:=zaz 4 [0] zxu
theorem zzt{f:Addr}{fd:FuncData}(B:Bs Z)(F:Fun Z.K "law" "law" zxt f fd)(c0:zhF Z)(c1:zfS Z)(c2:zfU Z):FnOk Z.P Z.w Z.K Z.mg Z.base CX0 9 f fd ["_law_script"] (spV Z.K 1 zkI) :=
 have hB:=B.1; okZ F ["_law_script", "_law_net_here", "_law_other", "_law_kept"] fun nd hr=>⟨_,(zr (zH (zy 1 (zd (zy 2 (zd ze (zd zm zk))) zk)))
 (zr (zH (zy 1 (zd (zy 2 (zd ze (zd zm zk))) zk)))
 (zr (zH (zaB (zd (zo zE ze zm) (zd (zar zbF (zd (zo zE ze zm) zk)) (zd (zo zE ze zm) zk)))))
 (zU (zf7 (zy 1 (zd ze zk)) (zf7 (zy 1 (zd ze zk)) (zf7 (zy 1 (zd ze zk)) (zo (zlb false) ze ze)))))))),
 (w_s (zJ (zx (w_a (zx (w_a w_v (w_a zn zi))) zi)))
 (w_s (zJ (zx (w_a (zx (w_a w_v (w_a zn zi))) zi)))
 (w_s (zJ (zaA (w_a (zL zX w_v zn) (w_a (zfj za7 PyProof.Rows.boot_tuple (w_a (zL zX w_v zn) zi)) (w_a (zL zX w_v zn) zi)))))
 (zC (zM (ziJ (zx (w_a w_v zi)) (ziJ (zx (w_a w_v zi)) (ziJ (zx (w_a w_v zi)) (zma (ziI (znQ _ rfl hr) w_v w_v))))))))))⟩
end
end K32
set_option exponentiation.threshold 10000
open PySem L2
local macro_rules | `(tactic| simp_arith [$ls,*])=>`(tactic| simp (disch:=first | omega | (simp only [List.length_cons,List.length_nil,List.length_map,List.length_append,List.length_take,List.length_drop,Nat.zero_add,Nat.reduceAdd]<;>omega) | fail) only [$ls,*,↓zxr,↓zxs,za1,↓zt,↓nr zcX,↓zsu,↓zAN,↓zwZ,↓zsv,↓zpj,↓zw0,↓zsw,↓zpk,↓zsx,↓zsy,↓zw1,↓zsz,↓zsA,↓zsB,↓zsC,↓zpl,↓zpm,↓zpn,↓zsD,↓zsE,↓zAO,↓zsF,↓zw2,↓zsG,↓zpo,↓zpp,↓zsH,↓zsI,↓zsJ,↓zmx,↓zpq,↓zpr,↓zmz,↓zw3,↓zw4,↓zps,↓zpt,↓zsK,↓zsL,↓zw7,↓zky,↓zpu,↓zsM,↓zsN,↓zmA,↓zpv,↓zmB,↓zpw,↓zw8,↓zmC,↓zsP,↓zmN,↓zs8,↓zmT,↓zxk,↓ztK,↓zjd,↓ztO,↓zpQ,nr bd,zwu,zr8,zo2,zms,zks,zkt,zi1,zmt,zr9,zAe,zAf,zsa,nr zo3,nr zo4,nr zo5,zwv,zww,zwx,zwy,zo6,zAi,zAj,zwz,zwA,zwB,zAl,zAm,zAn,zse,zsf,zo7,zsg,zwC,zwD,zAt,zAu,zAv,zAw,zwF,zwG,zsj,zsk,zAx,zwH,zwI,zwJ,zo8,zwK,zwL,zwM,zwN,zwO,zwP,zwQ,nr zo9,zmu,zkv,zwR,zwS,zsl,zpa,zAy,zAz,zAA,zAB,zAC,zAD,zAE,zAF,zAG,zAH,zwU,zwV,zwW,zpc,zwX,zwY,zpd,zsm,zsn,zw5,zw6,zw9,nr zmD,nr zmE,nr zsQ,nr zxa,zn4,zsR,zls,zxd,zxe,zxf,zsV,zpC,zob,zcg,zpJ,zpK,ztj,ztk,zmQ,zkB,zxh,zxi,zlA,zgG,ztu,zlD,nr ztL,nr ztM,ztP,ztQ,ztR,ztS,zpR,zm0,zpS,List.getElem?_cons_zero,List.getElem?_cons_succ,List.set_cons_zero,List.set_cons_succ,List.cons_append,List.nil_append,List.length_cons,List.length_nil,List.replicate,Option.map_some,decide_eq_true_eq,List.mem_cons,List.not_mem_nil,true_or,or_true,or_false,false_or,if_true,if_false,ite_true,ite_false,true_and,and_true,and_false,false_and,Bool.not_true,Bool.not_false,Bool.false_eq_true,not_true,not_false_iff,Nat.zero_add,Nat.reduceAdd,Nat.reduceLeDiff,Nat.reduceEqDiff,Nat.reduceSub,Nat.reduceLT,List.map_cons,List.map_nil,List.getD_cons_zero,List.getD_cons_succ,List.drop_succ_cons,List.drop_zero,decide_true,decide_false,Bool.true_and,Bool.and_true,Bool.true_or,Bool.or_true,Bool.false_or,Bool.or_false,Bool.false_and,Bool.and_false,reduceCtorEq,List.length_map,List.length_append,zwT,zpb,String.reduceEq,↓reduceIte,Int.reduceEq,Int.reduceNe,Int.reduceLT,Int.reduceLE,Int.reduceAdd,Int.reduceSub,Int.reduceNeg,Int.reduceToNat,Int.cast_ofNat_Int,implies_true,forall_const,Option.map_none])
local macro_rules | `(tactic| simp_arith)=>`(tactic| simp_arith [Option.map_none])
namespace K32
open PySem L2
abbrev bx(x y:Int):U:=.l [.int x,.int y]
theorem zaI{x y w:Int}{Q:U×List U->Prop}(hw:0 < w)(hw2:w<=18446744073709551616)(k:∀ r x' y',0<=r->r < w->Q (.d (.int r),[bx x' y',.d (.int w)])):Wo (zw [bx x y,.d (.int w)]) Q:=by
 simp_arith [zw,zgO];refine zdN (fun hx=>?_) (fun hx=>?_)
 ·simp_arith [hx]
  exact k _ _ _ (Int.emod_nonneg _ (by omega)) (Int.emod_lt_of_pos _ hw)
 ·simp_arith [hx]
  exact k _ _ _ (Int.emod_nonneg _ (by omega)) (Int.emod_lt_of_pos _ hw)
theorem ztW{ns:List Int}{k:Int}(h0:0<=k)(h:k < (ns.length:Int)):∃ v:Int,atI (ns.map PyData.int) k=some (.int v):=by
 have hk:k.toNat < ns.length:=by omega
 refine⟨ns[k.toNat],?_⟩;unfold atI ixN;rw [if_pos h0,if_pos (by rw [List.length_map]; exact h),bd,List.getElem?_map,qo hk];rfl
theorem zxv{ns:List Int}{k:Int}{Q:U×List U->Prop}(h0:0<=k)(q:∀ x y,Q (bx x y,[.d (.list (ns.map .int)),.d (.int k)])):Wo (zco [.d (.list (ns.map .int)),.d (.int k)]) Q:=by
 simp_arith [zco,zhE,List.length_map];refine zdN (fun h1=>?_) (fun h1=>?_)
 ·obtain⟨v,hv⟩:=ztW h0 h1
  simp_arith [hv];exact q _ _
 ·simp_arith [List.length_map]
  refine zdN (fun h2=>?_) (fun h2=>?_)
  ·have hm:=Int.emod_lt_of_pos k h2
   have hm0:=Int.emod_nonneg k (show(ns.length:Int)≠0 by omega);obtain⟨v,hv⟩:=ztW hm0 hm;simp_arith [hv];exact q _ _
  ·simp_arith
   exact q _ _
theorem zbB{x y:Int}(hx:0<=x)(hy:0<=y):zal [.d (.int x),.d (.int y)]=some (.d (.int (Int.gcd x y:Nat)),[.d (.int x),.d (.int y)]):=by
 refine zO ?_;simp_arith [zal,zeo];refine zmF (fun k ρ=>∃ a b:Int,ρ=[some (.d (.int a)),some (.d (.int b))]/\0<=a/\0<=b/\b.toNat=k/\Int.gcd a b=Int.gcd x y) _ ⟨x,y,rfl,hx,hy,rfl,rfl⟩ ?_;rintro k _ ⟨a,b,rfl,ha,hb,hk,hg⟩;simp_arith
 by_cases hz:b=0
 ·subst hz
  have e:a=((Int.gcd x y:Nat):Int):=by rw [<-hg,Int.gcd_zero_right]; omega
  subst e;simp_arith [bne_self_eq_false]
 ·have hb':(b != 0)=true:=by simp [hz]
  simp_arith [hb'];refine⟨(a % b).toNat,?_,_,_,rfl,by omega,Int.emod_nonneg _ hz,rfl,?_⟩
  ·have:=Int.emod_lt_of_pos a (show 0 < b by omega)
   have:=Int.emod_nonneg a hz;omega
  ·rw [zl9 a b ha (by omega)]
   exact hg
theorem zor{a b:Nat}(h:a<=b)(hb:b.log2 < 9000):a.log2 < 9000:=by
 by_cases z:a=0
 ·rw [z]; decide
 ·exact Nat.lt_of_le_of_lt ((Nat.le_log2 (by omega)).mpr (qA (Nat.log2_self_le z) h)) hb
theorem zbM{n d:Int}(hd:d≠0)(hb:d.natAbs.log2 < 9000):zat [.d (.int n),.d (.int d)]=some (.d (fR (Rat.divInt n d)),[.d (.int n),.d (.int d)]):=by
 have gl:Int.gcd n d<=d.natAbs:=Int.gcd_le_natAbs_right n hd;have gp:0 < Int.gcd n d:=Int.gcd_pos_of_ne_zero_right n hd;have glog:=zor gl hb;refine zO ?_;rw [<-ztb hd];unfold zjT zi6;rw [<-zmO n d (show(0:Int) < (Int.gcd n d:Nat) by omega),<-zmO d d (show(0:Int) < (Int.gcd n d:Nat) by omega)];simp_arith [zat,zdT];refine zmF (fun k ρ=>∃ a b:Int,ρ=[some (.d (.int n)),some (.d (.int d)),some (.d (.int a)),some (.d (.int b))]/\0<=a/\0<=b/\b.toNat=k/\Int.gcd a b=Int.gcd n d) _ ⟨_,_,rfl,by split<;>omega,by split<;>omega,rfl,zta n d⟩ ?_;rintro k _ ⟨a,b,rfl,ha,hb0,hk,hg⟩;simp_arith
 by_cases hz:b=0
 ·subst hz
  have e:a=((Int.gcd n d:Nat):Int):=by rw [<-hg,Int.gcd_zero_right]; omega
  subst e;have c1:ziF n ((Int.gcd n d:Nat):Int):=⟨by omega,by rw [Int.natAbs_natCast]; exact glog⟩;have c2:ziF n (0 - ((Int.gcd n d:Nat):Int)):=⟨by omega,by rw [Int.zero_sub,Int.natAbs_neg,Int.natAbs_natCast]; exact glog⟩;simp_arith;refine zdN (fun h=>?_) (fun h=>?_)
  ·simp_arith [h,zhe (a:=n) c2,zhe (a:=d) c2]
  ·simp_arith [h,zhe (a:=n) c1,zhe (a:=d) c1]
 ·simp_arith [hz]
  refine⟨(a % b).toNat,?_,_,_,rfl,by omega,Int.emod_nonneg _ hz,rfl,?_⟩
  ·have:=Int.emod_lt_of_pos a (show 0 < b by omega)
   have:=Int.emod_nonneg a hz;omega
  ·rw [zl9 a b ha (by omega)]
   exact hg
theorem zfn{n d:Int}(hd:d≠0)(hb:d.natAbs.log2 < 9000):zed [.d (.int n),.d (.int d)]=some (.d (fR (Rat.divInt n d)),[.d (.int n),.d (.int d)]):=by
 have gl:Int.gcd n d<=d.natAbs:=Int.gcd_le_natAbs_right n hd;have gp:0 < Int.gcd n d:=Int.gcd_pos_of_ne_zero_right n hd;have c1:∀ z:Int,zkk z ((Int.gcd n d:Nat):Int):=fun z=>⟨by omega,by rw [Int.natAbs_natCast]; exact zor gl hb⟩;refine zO ?_;rw [<-ztb hd];unfold zjT zi6;simp_arith [zed,zjk]
 by_cases h:d < 0
 ·have cf:zal [.d (.int (if -n < 0 then - -n else -n)),.d (.int (-d))]=some (.d (.int (Int.gcd n d:Nat)),[.d (.int (if -n < 0 then - -n else -n)),.d (.int (-d))]):=by
   rw [zbB (by split<;>omega) (by omega),zk0,Int.neg_gcd,Int.gcd_neg]
  simp_arith [h,cf,znY (c1 _)]
 ·have cf:zal [.d (.int (if n < 0 then -n else n)),.d (.int d)]=some (.d (.int (Int.gcd n d:Nat)),[.d (.int (if n < 0 then -n else n)),.d (.int d)]):=by
   rw [zbB (by split<;>omega) (by omega),zk0]
  simp_arith [h,cf,znY (c1 _)]
structure Sz (r:Rat):Prop where
 n:r.num.natAbs < 2^4000
 d:r.den < 2^4000
theorem Sz.di{r:Rat}(h:Sz r):(r.den:Int).natAbs < 2^4000:=by rw [Int.natAbs_natCast]; exact h.d
theorem lgd{n:Nat}(h:n < 2^4000):n.log2 < 4000:=zbO (by decide) h
theorem lgm{n:Nat}(h:n < 2^4000):n.log2 < 1000000:=Nat.lt_trans (lgd h) (by decide)
theorem ztX{a b:Nat}(h:a < 2^4000)(h':b < 2^4000):(a * b).log2 < 9000:=by
 refine Nat.lt_trans (zbO (k:=4000+4000) (by decide) ?_) (by decide);rw [Nat.pow_add];exact Nat.mul_lt_mul'' h h'
section
variable {a b:Rat}
theorem zhQ(ha:Sz a)(hb:Sz b):zb1 [.d (fR a),.d (fR b)]=some (.d (fR (a+b)),[.d (fR a),.d (fR b)]):=by
 refine zO ?_;have da:=zhY a;have db:=zhY b;have dab:((a.den:Int) * (b.den:Int))≠0:=Int.mul_ne_zero (by omega) (by omega);have lf:=zbM (n:=a.num * (b.den:Int)+b.num * (a.den:Int)) dab (by rw [Int.natAbs_mul,Int.natAbs_natCast,Int.natAbs_natCast]; exact ztX ha.d hb.d);rw [zvL]at lf;simp_arith [zb1,zgQ,zce (lgm ha.n) (lgm hb.di),zce (lgm hb.n) (lgm ha.di),zce (lgm ha.di) (lgm hb.di),lf]
theorem zgX(ha:Sz a)(hb:Sz b):zbI [.d (fR a),.d (fR b)]=some (.d (fR (a * b)),[.d (fR a),.d (fR b)]):=by
 refine zO ?_;have da:=zhY a;have db:=zhY b;have dab:((a.den:Int) * (b.den:Int))≠0:=Int.mul_ne_zero (by omega) (by omega);have lf:=zbM (n:=a.num * b.num) dab (by rw [Int.natAbs_mul,Int.natAbs_natCast,Int.natAbs_natCast]; exact ztX ha.d hb.d);rw [zvM]at lf;simp_arith [zbI,zfN,zce (lgm ha.n) (lgm hb.n),zce (lgm ha.di) (lgm hb.di),lf]
end
end K32
open PySem L2
namespace K32
open PySem L2
abbrev abc:Str := "abcdefghijklmnopqrstuvwxyz"
theorem zio:∀ c∈abc.cps.toList,c < 128:=by decide
theorem ziq:abc.length=26:=by decide
theorem zv0{z:Str}{n:Int}(h0:0<=n)(h1:n<=1):zmv (.d (.str z)) (.d (.int n))=some (.d (.str (zqp z n))):=by
 unfold zmv;dsimp only;rw [if_pos ⟨h0,h1⟩]
theorem zv1{k:Nat}{z:Str}{n:Int}(hz:Asc k z)(h0:0<=n)(h1:n<=1):Asc k (zqp z n):=by
 rcases(by omega:n=0\/n=1)with rfl | rfl
 ·exact⟨Nat.zero_le _,fun c hc=>by cases hc⟩
 ·exact hz
theorem zAW{zs:List Str}{lo hi:Option Int}:∃ ws:List Str,ziZ (zs.map PyData.str) lo hi=ws.map PyData.str/\ws.length<=zs.length/\∀ z∈ws,z∈zs:=by
 refine⟨(zs.drop (HT.sIx zs.length 0 lo)).take (HT.sIx zs.length zs.length hi - HT.sIx zs.length 0 lo),?_,?_,fun z hz=>List.mem_of_mem_drop (List.mem_of_mem_take hz)⟩
 ·unfold ziZ
  rw [List.length_map,<-List.map_drop,<-List.map_take]
 ·rw [List.length_take,List.length_drop]
  omega
theorem zxw{neg:Bool}{x:Str}{zs:List Str}{Q:U->Prop}(k:∀ b,Q (.d (.bool b))):Wo (fIn neg (.d (.str x)) (.l (zs.map PyData.str))) Q:=by
 unfold fIn;show Wo ((zsr (.str x) (zs.map PyData.str)).bind _) Q;unfold zsr;rw [zi4];exact⟨_,rfl,k _⟩
theorem zAX{neg:Bool}{x:Str}{zs:List Str}{Q:U->Prop}(k:∀ b,Q (.d (.bool b))):Wo (fIn neg (.d (.str x)) (.d (.tuple (zs.map PyData.str)))) Q:=by
 unfold fIn;show Wo ((zsr (.str x) (zs.map PyData.str)).bind _) Q;unfold zsr;rw [zi4];exact⟨_,rfl,k _⟩
theorem zv2{x y m:Int}{Q:U×List U->Prop}(h1:1<=m)(h3:m<=3)(k:∀ (ns:List Str) x' y',ns.length=m.toNat->(∀ z∈ns,Asc 10 z)->Q (.d (.tuple (ns.map .str)),[bx x' y',.d (.int m)])):Wo (zcj [bx x y,.d (.int m)]) Q:=by
 simp_arith [zcj,zfL];refine zaI (by decide) (by decide) fun r1 x1 y1 a1 b1=>?_;simp_arith;refine zpx (fun i ρ ys=>∃ (x y:Int) (zs:List Str),ρ=[none,some (bx x y),some (.d (.str abc))]/\ys=zs.map PyData.str/\zs.length=i/\∀ z∈zs,Asc 1 z) ?_ ⟨_,_,[],rfl,rfl,rfl,fun z hz=>by cases hz⟩ ?_ ?_ ?_
 ·rw [zl]; omega
 ·rintro i ρ ys ⟨x,y,zs,rfl,rfl,hl,_⟩
  simp [hl]
 ·rintro i _ _ hi ⟨x,y,zs,rfl,rfl,hl,hz⟩
  simp_arith [zsQ];refine zaI (by decide) (by decide) fun r2 x2 y2 a2 b2=>?_;simp_arith;refine zih a2 (by rw [ziq]; omega) (by decide) fun c hc=>?_;simp_arith;exact⟨x2,y2,zs++[⟨#[c]⟩],rfl,by rw [List.map_append]; rfl,by rw [qu,hl]; rfl,fun z hz'=>by
   rcases List.mem_append.mp hz' with h | h
   ·exact hz z h
   ·cases qr.mp h
    exact Asc.one (zio c hc)⟩
 rintro _ _ ⟨x2,y2,sg,rfl,rfl,hl,hs⟩;simp_arith;refine zaI (by omega) (by omega) fun r3 x3 y3 a3 b3=>?_;simp_arith;refine zaI (by decide) (by decide) fun r4 x4 y4 a4 b4=>?_;simp_arith;refine zsU (fun i ρ=>∃ (x y:Int) (v7 v8 v9:Option U) (zs:List Str),ρ=[some (bx x y),some (.d (.int m)),some (.d (.str abc)),some (.l (sg.map .str)),some (.d (.int r3)),some (.d (.int r4)),some (.l (zs.map PyData.str)),v7,v8,v9,none]/\zs.length=i/\∀ z∈zs,Asc 10 z) ⟨x4,y4,none,none,none,[],rfl,rfl,fun z hz=>by cases hz⟩ ?_ ?_
 ·rintro i _ hi ⟨x,y,v7,v8,v9,zs,rfl,hlz,hz⟩
  simp_arith;refine zih (Int.emod_nonneg _ (by decide)) (by rw [ziq]; exact Int.emod_lt_of_pos _ (by decide)) (by decide) fun c hc=>?_;simp_arith;obtain⟨w1,e1,l1,m1⟩:=zAW (zs:=sg) (lo:=none) (hi:=some r3);rw [e1];refine zpy (n:=1) (m:=4) (fun z hz=>hs z (m1 z hz)) (by omega) (by decide) fun j1=>?_;simp_arith;refine zi3 j1 (Asc.one (zio c hc)) (by decide) fun j2=>?_;simp_arith;obtain⟨w2,e2,l2,m2⟩:=zAW (zs:=sg) (lo:=some (r3+1)) (hi:=none);rw [e2];refine zpy (n:=1) (m:=4) (fun z hz=>hs z (m2 z hz)) (by omega) (by decide) fun j3=>?_;simp_arith;refine zi3 j2 j3 (by decide) fun j4=>?_;simp_arith;refine zaI (by decide) (by decide) fun r5 x5 y5 a5 b5=>?_;simp_arith [zv0];refine zi3 j4 (zv1 (show Asc 1 "q" by unfold Asc; decide) a5 (by omega)) (by decide) fun j5=>?_;simp_arith;refine zxw fun b=>?_;generalize Txt.join "" w1++{ cps:=#[c] }++Txt.join "" w2++zqp "q" r5=nm at *;have fin:∀ (nm:Str),Asc 10 nm->∃ (x y:Int) (v7 v8 v9:Option U) (ws:List Str),[some (bx x5 y5),some (.d (.int m)),some (.d (.str abc)),some (.l (sg.map .str)),some (.d (.int r3)),some (.d (.int r4)),some (.l (zs.map PyData.str++[.str nm])),some (.d (.int (0+(i:Nat)))),some (.d (.str ⟨#[c]⟩)),some (.d (.str nm)),none]=[some (bx x y),some (U.d (.int m)),some (.d (.str abc)),some (.l (sg.map .str)),some (.d (.int r3)),some (.d (.int r4)),some (.l (ws.map PyData.str)),v7,v8,v9,none]/\ws.length=i+1/\∀ z∈ws,Asc 10 z:=fun nm hn =>
   ⟨x5,y5,_,_,_,zs++[nm],by rw [List.map_append]; rfl,by rw [qu,hlz]; rfl,fun z hz'=>by
    rcases List.mem_append.mp hz' with h | h
    ·exact hz z h
    ·cases qr.mp h
     exact hn⟩
  cases b with
  | true =>
   simp_arith;refine zih (by omega) (by rw [ziq]; omega) (by decide) fun d hd=>?_;simp_arith;refine zi3 (show Asc 2 "zz" by unfold Asc; decide) (Asc.one (zio d hd)) (by decide) fun j6=>?_;simp_arith;exact fin _ (j6.mono (by decide))
  | false =>
   simp_arith;refine zAX (zs:=["part", "end", "give", "rounds", "letters"]) fun b=>?_;cases b with
   | true =>
    simp_arith;refine zih (by omega) (by rw [ziq]; omega) (by decide) fun d hd=>?_;simp_arith;refine zi3 (show Asc 2 "zz" by unfold Asc; decide) (Asc.one (zio d hd)) (by decide) fun j6=>?_;simp_arith;exact fin _ (j6.mono (by decide))
   | false =>
    simp_arith;exact fin _ j5
 ·rintro _ ⟨x,y,v7,v8,v9,zs,rfl,hlz,hz⟩
  simp_arith;refine zaI (by decide) (by decide) fun r5 x5 y5 a5 b5=>?_;simp_arith;refine zdN (fun h5=>?_) (fun h5=>?_)
  ·simp_arith
   refine zaI (by decide) (by decide) fun r6 x6 y6 a6 b6=>?_;simp_arith;refine zsT (f:=PyData.str) (xs:=["ends", "pa", "gives", "giv", "x", "y", "r", "rk"]) a6 b6 fun z mz _=>?_;have az:Asc 10 z:=by
    have:∀ z∈(["ends", "pa", "gives", "giv", "x", "y", "r", "rk"]:List Str),Asc 10 z:=by unfold Asc; decide
    exact this z mz
   simp_arith;refine zxw fun b=>?_;cases b with
   | false =>
    simp_arith;exact k zs _ _ hlz hz
   | true =>
    simp_arith;refine zaI (by omega) (by omega) fun r7 x7 y7 a7 b7=>?_;have e7:ixN zs.length r7=some r7.toNat:=by
     unfold ixN;rw [if_pos a7,if_pos (by omega)]
    simp_arith [e7];have es:(zs.map PyData.str).set r7.toNat (.str z)=(zs.set r7.toNat z).map PyData.str:=by rw [List.map_set]
    rw [es];refine k _ _ _ (by rw [List.length_set]; exact hlz) fun w hw=>?_;rcases List.mem_or_eq_of_mem_set hw with h | h
    ·exact hz w h
    ·exact h▸az
  ·simp_arith
   exact k zs _ _ hlz hz
theorem zAY{d:Int}(h:1<=d)(h2:d<=1000000):d.natAbs.log2 < 9000:=Nat.lt_trans (zbO (k:=30) (by decide) (by omega)) (by decide)
theorem zj3{n d:Int}(hn:n.natAbs<=1000000)(h1:1<=d)(h4:d<=4):Bd 12 12000000 (Rat.divInt n d):=by
 have:d∣((12:Nat):Int):=by
  rcases(by omega:d=1\/d=2\/d=3\/d=4)with rfl | rfl | rfl | rfl<;>decide
 exact(zzi (M:=12) (by omega) this (by decide)).le (by omega)
theorem zna{x y:Int}{Q:U×List U->Prop}(k:∀ r x' y',Bd 12 12000000 r->Q (.d (fR r),[bx x' y'])):Wo (zbt [bx x y]) Q:=by
 simp_arith [zbt,zeV];refine zaI (by decide) (by decide) fun r x1 y1 h0 h1=>?_;simp_arith;refine zdN (fun h7=>?_) (fun h7=>?_)
 ·simp_arith
  refine zsS h0 (by show r < 7; omega) fun a ha=>?_;have hq:∃ q:Rat,a=fR q/\Bd 12 12000000 q:=by
   simp only [qw,List.not_mem_nil,or_false]at ha;rcases ha with rfl | rfl | rfl | rfl | rfl | rfl | rfl
   ·exact⟨Rat.divInt 0 1,rfl,zj3 (by decide) (by decide) (by decide)⟩
   ·exact⟨Rat.divInt 1 1,rfl,zj3 (by decide) (by decide) (by decide)⟩
   ·exact⟨Rat.divInt 1 1,rfl,zj3 (by decide) (by decide) (by decide)⟩
   ·exact⟨Rat.divInt (-1) 1,rfl,zj3 (by decide) (by decide) (by decide)⟩
   ·exact⟨Rat.divInt 2 1,rfl,zj3 (by decide) (by decide) (by decide)⟩
   ·exact⟨Rat.divInt 1 2,rfl,zj3 (by decide) (by decide) (by decide)⟩
   ·exact⟨Rat.divInt (-2) 3,rfl,zj3 (by decide) (by decide) (by decide)⟩
  obtain⟨q,rfl,hq⟩:=hq;simp_arith;exact k q _ _ hq
 ·simp_arith
  refine zdN (fun h11=>?_) (fun h11=>?_)
  ·simp_arith
   refine zaI (by decide) (by decide) fun r2 x2 y2 h2 h3=>?_;simp_arith;refine zaI (by decide) (by decide) fun r3 x3 y3 h4 h5=>?_;simp_arith [zbM (n:=r2 - 9) (d:=1+r3) (by omega) (zAY (by omega) (by omega))];exact k _ _ _ (zj3 (by omega) (by omega) (by omega))
  ·simp_arith
   refine zaI (by decide) (by decide) fun r2 x2 y2 h2 h3=>?_;simp_arith;refine zaI (by decide) (by decide) fun r3 x3 y3 h4 h5=>?_;simp_arith [zbM (n:=r2 - 999999) (d:=1+r3) (by omega) (zAY (by omega) (by omega))];exact k _ _ _ (zj3 (by omega) (by omega) (by omega))
structure Fg (f:Rat):Prop where
 bd:Bd 12 12000000 f
 nz:f≠0
theorem zBt:Bd 12 12000000 (Rat.divInt 3 2):=zj3 (n:=3) (d:=2) (by decide) (by decide) (by decide)
theorem zBu:Rat.divInt 3 2≠0:=by decide +kernel
theorem f32:PyData.tuple [.int 3,.int 2]=fR (Rat.divInt 3 2):=rfl
theorem znb{x y:Int}{Q:U×List U->Prop}(k:∀ f x' y',Fg f->Q (.d (fR f),[bx x' y'])):Wo (zb3 [bx x y]) Q:=by
 simp_arith [zb3,zeZ];refine zna fun f x' y' h=>?_;simp_arith;refine zdN (fun c=>?_) (fun c=>?_)
 ·simp_arith [c,f32]
  exact k _ _ _ ⟨zBt,zBu⟩
 ·simp_arith [c]
  exact k f _ _ ⟨h,fun z=>c (by rw [z]; rfl)⟩
end K32
open PySem L2
namespace K32
open PySem L2
theorem zjx{a b:Int}(ha:a.natAbs < 10^10)(hb:b.natAbs < 10^10):Nic 1 29 (.tuple [.int a,.int b]):=zbK (n:=2) (M:=11) (fun d hd=>by
 rcases qw.mp hd with rfl | hd
 ·exact zgC ha
 ·rw [qr.mp hd]; exact zgC hb) (qg _)
theorem zhR{i:Int}:zbU [.d (.int i)]=some (.d (.bool true),[.d (.int i)]):=by
 refine zO ?_;simp_arith [zbU,zhD]
theorem zej{i:Nat}{m:Int}(h:(i:Int) < m):zbQ [.d (.int (i:Int)),.d (.int m)]=some (.d (.bool true),[.d (.int (i:Int)),.d (.int m)]):=by
 refine zO ?_;have c:(0:Int)<=(i:Int):=by omega
 simp_arith [zbQ,zjm,zhR,c,h]
theorem ztY(a b:Int):Int.gcd (if a < 0 then -a else a) b=Int.gcd a b:=by
 split
 ·exact Int.neg_gcd
 ·rfl
theorem zj4{f:Rat}:zci [.d (fR f)]=some (.d (.bool true),[.d (fR f)]):=by
 refine zO ?_;have c:=zhY f;have cf:=zbB (x:=if f.num < 0 then -f.num else f.num) (y:=(f.den:Int)) (by split<;>omega) (by omega);rw [ztY,show Int.gcd f.num f.den=1 from f.reduced]at cf;simp_arith [zci,zfJ,fR,zhR,c,cf]
theorem Fg.n0{f:Rat}(h:Fg f):f.num≠0:=fun z=>h.nz (Rat.num_eq_zero.mp z)
theorem Fg.nic{f:Rat}(h:Fg f):Nic 1 29 (fR f):=zjx (Nat.lt_of_le_of_lt (h.bd.size (by decide)).2 (by decide)) (by
 rw [Int.natAbs_natCast];exact Nat.lt_of_le_of_lt (h.bd.size (by decide)).1 (by decide))
theorem zAZ{f:Rat}(h:Fg f):zvA false [0,1] (.d (fR f))=some (.d (.bool false)):=by
 have e:=h.nic.eqD (neg:=false) (zjx (a:=0) (b:=1) (by decide) (by decide)) (by decide) (by decide);have e2:zvA false [0,1] (.d (fR f))=some (.d (.bool (PyData.eqv (fR f) (.tuple [.int 0,.int 1])))):=e;rw [e2];show some (U.d (.bool (decide (f.num=0) && _)))=_;rw [decide_eq_false h.n0];rfl
def oI:Option Int->D
 | none=>.none
 | some k=>.int k
abbrev aL(hs:List Int):U:=.l (hs.map .int)
theorem zjy{hs:List Int}{i:Nat}(h:i < hs.length):atI (hs.map PyData.int) (i:Int)=some (.int (hs.getD i 0)):=by
 unfold atI ixN;rw [if_pos (by omega),if_pos (by rw [List.length_map]; omega),bd,Int.toNat_natCast,List.getElem?_map,qo h,qC,qo h];rfl
theorem zzu{t:Int}:znX true (.d (.int t)) (.d .none)=some (.d (.bool true)):=rfl
theorem zzv:znX true (.d .none) (.d .none)=some (.d (.bool false)):=rfl
end K32
open PySem L2
namespace K32
open PySem L2
abbrev P2:=Rat×Nat
abbrev prD(p:P2):D:=.tuple [fR p.1,.int (p.2:Int)]
inductive Nod where | lt (k:Nat) | mx (ps:List P2) | tm (i j:Nat)
def Nod.d:Nod->D
 | .lt k=>.tuple [.str "letter",.int (k:Int)]
 | .mx ps=>.tuple [.str "mix",.tuple (ps.map prD)]
 | .tm i j=>.tuple [.str "times",.int (i:Int),.int (j:Int)]
def zfV(n dp:Nat)(hs:List Int)(k:Int):Nod->Prop
 | .lt m=>m < n/\k=1
 | .mx ps=>ps≠[]/\ps.length<=20/\(∀ p∈ps,Fg p.1/\p.2 < hs.length/\hs.getD p.2 0=k)/\ps.Pairwise (fun p q=>p.2 < q.2)
 | .tm i j=>i < hs.length/\j < hs.length/\hs.getD j 0<=hs.getD i 0/\k=hs.getD i 0+hs.getD j 0/\k<=(dp:Int)
theorem zj5{hs:List Int}{k:Int}{ps:List P2}(ne:ps≠[])(hp:∀ p∈ps,Fg p.1/\p.2 < hs.length/\hs.getD p.2 0=k)(pw:ps.Pairwise (fun p q=>p.2 < q.2)):zcC [.d (.tuple (ps.map prD)),aL hs]=some (.d (.int k),[.d (.tuple (ps.map prD)),aL hs]):=by
 refine zO ?_;simp_arith [zcC,zgR];refine zdd (fun i ρ=>∃ (told:Option Int) (b:Int) (o4 o5 o6:Option U),ρ=[some (.d (.tuple (ps.map prD))),some (aL hs),some (.d (oI told)),some (.d (.int b)),o4,o5,o6]/\(told=some k\/told=none/\i=0)/\∀ q∈ps.drop i,b < (q.2:Int)) ⟨none,-1,none,none,none,rfl,.inr ⟨rfl,rfl⟩,fun q _=>by omega⟩ ?_ ?_
 ·rintro i _ _ hd ⟨told,b,o4,o5,o6,rfl,ht,hb⟩
  rw [List.getElem?_map]at hd;obtain⟨p,en,rfl⟩:=qt.mp hd;obtain⟨h1,h2,h3⟩:=hp p (List.mem_of_getElem? en);obtain⟨hi,e⟩:=qm.mp en;have pw':=pw.drop (i:=i);rw [List.drop_eq_getElem_cons hi,e]at hb pw';have c:¬(p.2:Int)<=b:=by have:=hb p qq; omega
  have w:∀ q∈ps.drop (i+1),(p.2:Int) < (q.2:Int):=fun q hq=>by have:=(List.pairwise_cons.mp pw').1 q hq; omega
  have a:=zjy h2;rw [h3]at a;have pl:=zej (i:=p.2) (m:=(hs.length:Int)) (by omega);simp_arith [zj4,zAZ h1,pl,List.length_map,c];rcases ht with rfl | ⟨rfl,_⟩
  ·simp_arith [oI,zzu,a]
   exact⟨some k,_,_,_,_,rfl,rfl,w⟩
  ·simp_arith [oI,zzv,a]
   exact⟨some k,_,_,_,_,rfl,rfl,w⟩
 ·rintro _ ⟨told,b,o4,o5,o6,rfl,ht,_⟩
  rcases ht with rfl | ⟨_,z⟩
  ·simp_arith [oI]
  ·exact absurd (List.length_eq_zero_iff.mp (by rw [List.length_map]at z; exact z)) ne
theorem zpU{n dp:Nat}{hs:List Int}{k:Int}{nod:Nod}(hn:n<=100)(hl:hs.length<=100)(h:zfV n dp hs k nod):Nic 4 800011 nod.d:=by
 have sm:∀ {i:Nat},i < 101->Nic 3 200000 (.int (i:Int)):=fun{i} hi=>(zgC (show((i:Nat):Int).natAbs < 10^10 by omega)).mono (by decide) (by decide);have st:∀ {w:Str},Asc 10 w->Nic 3 200000 (.str w):=fun hw=>(zpz hw).mono (by decide) (by decide);cases nod with
 | lt m =>
  refine(zbK (n:=4) (k:=3) (M:=200000) (fun d hd=>?_) (by simp)).mono (by decide) (by decide);rcases qw.mp hd with rfl | hd
  ·exact st (by unfold Asc; decide)
  ·rw [qr.mp hd]; exact sm (by have:=h.1; omega)
 | mx ps =>
  obtain⟨_,h1,h2,_⟩:=h;refine(zbK (n:=4) (k:=3) (M:=200000) (fun d hd=>?_) (by simp)).mono (by decide) (by decide);rcases qw.mp hd with rfl | hd
  ·exact st (by unfold Asc; decide)
  ·rw [qr.mp hd]
   refine(zbK (n:=20) (k:=2) (M:=5000) (fun d hd=>?_) (by rw [List.length_map]; exact h1)).mono (by decide) (by decide);obtain⟨p,hp,rfl⟩:=List.mem_map.mp hd;obtain⟨f,g,_⟩:=h2 p hp;refine(zbK (n:=2) (k:=1) (M:=30) (fun d hd=>?_) (by simp)).mono (by decide) (by decide);rcases qw.mp hd with rfl | hd
   ·exact f.nic.mono (by decide) (by decide)
   ·rw [qr.mp hd]; exact(zgC (show((p.2:Nat):Int).natAbs < 10^10 by omega)).mono (by decide) (by decide)
 | tm i j =>
  obtain⟨h1,h2,_,_,_⟩:=h;refine(zbK (n:=4) (k:=3) (M:=200000) (fun d hd=>?_) (by simp)).mono (by decide) (by decide);rcases qw.mp hd with rfl | hd
  ·exact st (by unfold Asc; decide)
  rcases qw.mp hd with rfl | hd
  ·exact sm (by omega)
  ·rw [qr.mp hd]; exact sm (by omega)
theorem zjz{n dp:Nat}{hs:List Int}{k:Int}{nod:Nod}(hn:n<=100)(hl:hs.length<=100)(h:zfV n dp hs k nod):za8 [.d nod.d,aL hs,.d (.int (n:Int))]=some (.d (.int k),[.d nod.d,aL hs,.d (.int (n:Int))]):=by
 have e:=(zpU hn hl h).eqD (neg:=false) (zbK (n:=0) (k:=0) (M:=0) (ds:=[]) (fun d hd=>by cases hd) (qg _)) (by decide) (by decide);refine zO ?_;cases nod with
 | lt m =>
  have e2:zf6 false (.d (.tuple [.str "letter",.int (m:Int)])) (.d (.tuple []))=some (.d (.bool false)):=e;obtain⟨h1,rfl⟩:=h;simp_arith [za8,zck,Nod.d,e2,zej (i:=m) (m:=(n:Int)) (by omega)]
 | mx ps =>
  have e2:zf6 false (.d (.tuple [.str "mix",.tuple (ps.map prD)])) (.d (.tuple []))=some (.d (.bool false)):=e;obtain⟨h1,_,h2,h3⟩:=h;simp_arith [za8,zck,Nod.d,e2,zj5 h1 h2 h3]
 | tm i j =>
  have e2:zf6 false (.d (.tuple [.str "times",.int (i:Int),.int (j:Int)])) (.d (.tuple []))=some (.d (.bool false)):=e;obtain⟨h1,h2,h3,rfl,_⟩:=h;have td:zb2 [.d (.int (i:Int)),.d (.int (j:Int)),aL hs]=some (.d (.int (hs.getD i 0+hs.getD j 0)),[.d (.int (i:Int)),.d (.int (j:Int)),aL hs]):=by
   refine zO ?_;have c:¬hs.getD i 0 < hs.getD j 0:=by omega
   simp_arith [zb2,zeX,List.length_map,zej (i:=i) (m:=(hs.length:Int)) (by omega),zej (i:=j) (m:=(hs.length:Int)) (by omega),zjy h1,zjy h2,c]
  simp_arith [za8,zck,Nod.d,e2,td]
end K32
open PySem L2
namespace K32
open PySem L2
structure GN (n dp:Nat) (ns:List Nod) (hs:List Int):Prop where
 ln:hs.length=ns.length
 ok:∀ i nod,ns[i]?=some nod->zfV n dp (hs.take i) (hs.getD i 0) nod
theorem zos{α:Type}{xs:List α}{y z:α}{i:Nat}(h:i < xs.length):(xs++[y]).getD i z=xs.getD i z:=by
 rw [qC,qC,List.getElem?_append_left h]
theorem zot{α:Type}{xs:List α}{y z:α}:(xs++[y]).getD xs.length z=y:=by
 rw [qC,List.getElem?_append_right (qg _),Nat.sub_self];rfl
theorem GN.snoc{n dp:Nat}{ns:List Nod}{hs:List Int}{k:Int}{nod:Nod}(h:GN n dp ns hs)(hk:zfV n dp hs k nod):GN n dp (ns++[nod]) (hs++[k]):=by
 refine⟨by rw [qu,qu,h.ln]; rfl,fun i x hi=>?_⟩;rcases Nat.lt_or_ge i ns.length with c | c
 ·rw [List.getElem?_append_left c]at hi
  rw [List.take_append_of_le_length (by rw [h.ln]; omega),zos (by rw [h.ln]; exact c)];exact h.ok i x hi
 ·have hlt:=(qm.mp hi).1
  rw [qu,List.length_singleton]at hlt;have e:i=ns.length:=by omega
  subst e;rw [List.getElem?_append_right (qg _),Nat.sub_self]at hi;cases hi;rw [<-h.ln,List.take_left,zot];exact hk
theorem GN.nic{n dp:Nat}{ns:List Nod}{hs:List Int}(hn:n<=100)(hl:ns.length<=100)(h:GN n dp ns hs):∀ d∈ns.map Nod.d,Nic 4 800011 d:=fun d hd=>by
 obtain⟨x,hx,rfl⟩:=List.mem_map.mp hd;obtain⟨i,hi,rfl⟩:=List.getElem_of_mem hx;exact zpU hn (by rw [List.length_take]; have:=h.ln; omega) (h.ok i _ (qo hi))
end K32
open PySem L2
namespace K32
open PySem L2
theorem zhn{hs:List Int}{i:Nat}(h:i < hs.length):(hs.take i).map PyData.int++[.int (hs.getD i 0)]=(hs.take (i+1)).map .int:=by
 rw [List.take_succ,qC,qo h,List.map_append];rfl
abbrev hiB:MS:=zay (mB (mOp (zaQ false) (mOp zac (zj 2) (mC (.int 0))) (mC (.str "letter")))) (zaP (zbV 1 (mC (.int 1)))) (zay (mB (mOp (zaQ false) (mOp zac (zj 2) (mC (.int 0))) (mC (.str "mix")))) (zaP (zbV 1 (mOp zax (zj 1) (mOp zac (mOp zac (mOp zac (zj 2) (mC (.int 1))) (mC (.int 0))) (mC (.int 1)))))) (zaP (zbV 1 (mOp zbY (mOp zax (zj 1) (mOp zac (zj 2) (mC (.int 1)))) (mOp zax (zj 1) (mOp zac (zj 2) (mC (.int 2))))))))
theorem ztZ{n dp:Nat}{hs:List Int}{k:Int}{nod:Nod}{o0:Option U}{Q:Fl->Prop}(hl:hs.length<=1000)(h:zfV n dp hs k nod)(q:Q (.nx [o0,some (.l (hs.map .int++[.int k])),some (.d nod.d)])):Wo (hiB [o0,some (aL hs),some (.d nod.d)]) Q:=by
 cases nod with
 | lt m =>
  obtain⟨_,rfl⟩:=h;simp_arith [hiB,Nod.d,List.length_map];exact q
 | mx ps =>
  obtain⟨h1,h2,h3,_⟩:=h
  match ps,h1,h3 with
  | p::ps,_,h3 =>
   obtain⟨_,a,b⟩:=h3 p qq;simp_arith [hiB,Nod.d,List.map_cons,zjy a,b,List.length_map];exact q
 | tm i j =>
  obtain⟨h1,h2,_,rfl,_⟩:=h;simp_arith [hiB,Nod.d,zjy h1,zjy h2,List.length_map];exact q
theorem zv3{n dp:Nat}{ns:List Nod}{hs:List Int}(hl:ns.length<=1000)(h:GN n dp ns hs):zaE [.l (ns.map Nod.d)]=some (aL hs,[.l (ns.map Nod.d)]):=by
 refine zO ?_;have ln:=h.ln;simp_arith [zaE,zec];rw [zzk rfl];refine ztA (fun i ρ=>∃ o2,ρ=[some (.l (ns.map Nod.d)),some (aL (hs.take i)),o2]) ⟨none,rfl⟩ (fun i ρ ⟨o2,e⟩=>by rw [e]; rfl) ?_ ?_
 ·rintro i d _ hd ⟨o2,rfl⟩
  rw [List.getElem?_map]at hd;obtain⟨nod,en,rfl⟩:=qt.mp hd;have hi:=(qm.mp en).1;refine⟨_,rfl,ztZ (by rw [List.length_take]; omega) (h.ok i nod en) ?_⟩;rw [zhn (by omega)];exact⟨_,rfl⟩
 ·rintro _ ⟨o2,rfl⟩
  rw [List.length_map,<-ln,List.take_length];simp_arith
theorem zt0{n dp:Nat}{ns:List Nod}{hs:List Int}(hl:ns.length<=1000)(h:GN n dp ns hs):zaE [.d (.tuple (ns.map Nod.d))]=some (aL hs,[.d (.tuple (ns.map Nod.d))]):=by
 refine zO ?_;have ln:=h.ln;simp_arith [zaE,zec];rw [zzl rfl];refine zdd (fun i ρ=>∃ o2,ρ=[some (.d (.tuple (ns.map Nod.d))),some (aL (hs.take i)),o2]) ⟨none,rfl⟩ ?_ ?_
 ·rintro i d _ hd ⟨o2,rfl⟩
  rw [List.getElem?_map]at hd;obtain⟨nod,en,rfl⟩:=qt.mp hd;have hi:=(qm.mp en).1;refine⟨_,rfl,ztZ (by rw [List.length_take]; omega) (h.ok i nod en) ?_⟩;rw [zhn (by omega)];exact⟨_,rfl⟩
 ·rintro _ ⟨o2,rfl⟩
  rw [List.length_map,<-ln,List.take_length];simp_arith
theorem zxx{x y:Int}{n dp:Nat}{ns:List Nod}{hs:List Int}{i:Nat}{Q:U×List U->Prop}(hl:ns.length<=20)(hi:i < ns.length)(h:GN n dp ns hs)
  (k:∀ ps x' y',zfV n dp hs (hs.getD i 0) (.mx ps)->Q (.d (Nod.mx ps).d,[bx x' y',.l (ns.map Nod.d),aL hs,.d (.int (i:Int))])):Wo (zdq [bx x y,.l (ns.map Nod.d),aL hs,.d (.int (i:Int))]) Q:=by
 have ln:=h.ln;simp_arith [zdq,zhI,List.length_map];refine zsU (fun m ρ=>∃ (x y:Int) (ps:List P2) (o5:Option U),ρ=[some (bx x y),some (.l (ns.map Nod.d)),some (aL hs),some (.d (.int (i:Int))),some (.l (ps.map prD)),o5]/\ps.length<=m/\(i < m->ps≠[])/\(∀ p∈ps,Fg p.1/\p.2 < hs.length/\hs.getD p.2 0=hs.getD i 0)/\(∀ p∈ps,p.2 < m)/\ps.Pairwise (fun p q=>p.2 < q.2)) ⟨_,_,[],_,rfl,qg _,fun z=>absurd z (Nat.not_lt_zero _),fun p hp=>(by cases hp),fun p hp=>(by cases hp),.nil⟩ ?_ ?_
 ·rintro m _ hm ⟨x,y,ps,o5,rfl,h1,h2,h3,h4,h5⟩
  have hm':m < hs.length:=by omega
  have skip:∀ {x y:Int} {o5:Option U},m≠i->∃ (x' y':Int) (ps':List P2) (o5':Option U),([some (bx x y),some (.l (ns.map Nod.d)),some (aL hs),some (.d (.int (i:Int))),some (.l (ps.map prD)),o5]:En)=[some (bx x' y'),some (.l (ns.map Nod.d)),some (aL hs),some (.d (.int (i:Int))),some (.l (ps'.map prD)),o5']/\ps'.length<=m+1/\(i < m+1->ps'≠[])/\(∀ p∈ps',Fg p.1/\p.2 < hs.length/\hs.getD p.2 0=hs.getD i 0)/\(∀ p∈ps',p.2 < m+1)/\ps'.Pairwise (fun p q=>p.2 < q.2):=fun{x y o5} hne=>⟨x,y,ps,o5,rfl,by omega,fun z=>h2 (by omega),h3,fun p hp=>by have:=h4 p hp; omega,h5⟩;have put:∀ {f:Rat} {x y:Int} {o5:Option U},Fg f->hs.getD m 0=hs.getD i 0->∃ (x' y':Int) (ps':List P2) (o5':Option U),([some (bx x y),some (.l (ns.map Nod.d)),some (aL hs),some (.d (.int (i:Int))),some (.l (ps.map prD++[prD (f,m)])),o5]:En)=[some (bx x' y'),some (.l (ns.map Nod.d)),some (aL hs),some (.d (.int (i:Int))),some (.l (ps'.map prD)),o5']/\ps'.length<=m+1/\(i < m+1->ps'≠[])/\(∀ p∈ps',Fg p.1/\p.2 < hs.length/\hs.getD p.2 0=hs.getD i 0)/\(∀ p∈ps',p.2 < m+1)/\ps'.Pairwise (fun p q=>p.2 < q.2):=fun{f x y o5} hf he=>⟨x,y,ps++[(f,m)],o5,by rw [List.map_append]; rfl,by rw [qu,List.length_singleton]; omega,fun _=>by simp,fun p hp=>by
    rcases List.mem_append.mp hp with z | z
    ·exact h3 p z
    ·rw [qr.mp z]; exact⟨hf,hm',he⟩,fun p hp=>by
    rcases List.mem_append.mp hp with z | z
    ·have:=h4 p z; omega
    ·rw [qr.mp z]; exact Nat.lt_succ_self m,List.pairwise_append.mpr ⟨h5,List.pairwise_singleton _ _,fun p hp q hq=>by rw [qr.mp hq]; exact h4 p hp⟩⟩
  have am:=zjy hm';have ai:=zjy (hs:=hs) (i:=i) (by omega)
  by_cases c:hs.getD m 0=hs.getD i 0
  ·simp_arith [Int.zero_add,am,ai,c]
   by_cases c2:(m:Int)=(i:Int)
   ·simp_arith [c2]
    refine znb fun f x2 y2 hf=>?_;simp_arith;have:=put (f:=f) (x:=x2) (y:=y2) (o5:=some (.d (.int (i:Int)))) hf c;rw [show prD (f,m)=.tuple [fR f,.int (i:Int)] by rw [<-c2]]at this;exact this
   ·simp_arith [c2]
    refine zaI (by decide) (by decide) fun r x2 y2 r0 r1=>?_;simp_arith;refine zdN (fun c3=>?_) (fun c3=>?_)
    ·simp_arith
     refine znb fun f x3 y3 hf=>?_;simp_arith;exact put hf c
    ·simp_arith
     exact skip (fun z=>c2 (by rw [z]))
  ·simp_arith [Int.zero_add,am,ai,c]
   exact skip (fun z=>c (by rw [z]))
 ·rintro _ ⟨x,y,ps,o5,rfl,h1,h2,h3,h4,h5⟩
  simp_arith;refine k ps _ _ ⟨h2 (by omega),by omega,h3,h5⟩
end K32
open PySem L2
namespace K32
open PySem L2
theorem zv4{a b:Int}{z:D}(h:z∈[PyData.int a,.int b]):∃ c,z=.int c/\(c=a\/c=b):=by
 rcases qw.mp h with rfl | h
 ·exact⟨a,rfl,.inl rfl⟩
 ·rw [qr.mp h]; exact⟨b,rfl,.inr rfl⟩
theorem zjA{x y:Int}{N:Nat}{Q:U×List U->Prop}(hN:0 < N)(hM:N<=1000)(k:∀ (r:Nat) x' y',r < N->Q (.d (.int (r:Int)),[bx x' y',.d (.int (N:Int))])):Wo (zw [bx x y,.d (.int (N:Int))]) Q :=
 zaI (by omega) (by omega) fun r x' y' h0 h1=>by
  obtain⟨q,rfl⟩:=Int.eq_ofNat_of_zero_le h0;exact k q x' y' (by omega)
theorem zBv{c:Int}{r N:Nat}(hN:0 < N)(h1:r < N)(hc:c=(N:Int) - 1\/c=(r:Int)):∃ p:Nat,c=(p:Int)/\p < N:=⟨c.toNat,by omega,by omega⟩
theorem GN.nil{n dp:Nat}:GN n dp [] []:=⟨rfl,fun i x h=>by simp at h⟩
theorem GN.hi{n dp:Nat}{ns:List Nod}{hs:List Int}(d1:1<=dp)(h:GN n dp ns hs):∀ i,i < hs.length->1<=hs.getD i 0/\hs.getD i 0<=(dp:Int):=by
 intro i
 induction i using Nat.strongRecOn with
 | _ i ih =>
  intro hi;have ln:=h.ln;have ok:=h.ok i _ (qo (show i < ns.length by omega));have tk:∀ {j:Nat},j < (hs.take i).length->(hs.take i).getD j 0=hs.getD j 0/\j < i:=fun{j} hj=>by
   rw [List.length_take]at hj;refine⟨?_,by omega⟩;rw [qC,List.getElem?_take,if_pos (by omega),<-qC]
  generalize ns[i]'(by omega)=nod at ok;cases nod with
  | lt m =>
   obtain⟨_,e⟩:=ok;omega
  | mx ps =>
   obtain⟨h1,_,h3,_⟩:=ok
   match ps,h1,h3 with
   | p::ps,_,h3 =>
    obtain⟨_,a,b⟩:=h3 p qq;obtain⟨e,l⟩:=tk a;have:=ih p.2 l (by omega);omega
  | tm a b =>
   obtain⟨h1,h2,_,h4,h5⟩:=ok;obtain⟨e1,l1⟩:=tk h1;obtain⟨e2,l2⟩:=tk h2;have:=ih a l1 (by omega);have:=ih b l2 (by omega);omega
theorem zv5{x y:Int}{n dp:Nat}{most:Int}{Q:U×List U->Prop}(n1:1<=n)(n3:n<=3)(m0:0<=most)(m8:most<=12)(d1:1<=dp)
  (k:∀ ns hs x' y',GN n dp ns hs->ns.length<=12->Q (.d (.tuple (ns.map Nod.d)),[bx x' y',.d (.int (n:Int)),.d (.tuple []),.d (.int most),.d (.int (dp:Int))])) :
  Wo (zcl [bx x y,.d (.int (n:Int)),.d (.tuple []),.d (.int most),.d (.int (dp:Int))]) Q:=by
 have hk0:=zv3 (n:=n) (dp:=dp) (ns:=[]) (hs:=[]) (by simp) GN.nil;simp_arith [zcl,zfP,show zrV (.d (.tuple []))=some (.l []) from rfl,show zaE [.l []]=some (aL [],[.l []]) from hk0];refine zsU (fun i ρ=>∃ (x y:Int) (ns:List Nod) (hs:List Int) (o7 o8 o9 o10:Option U),ρ=[some (bx x y),some (.d (.int (n:Int))),some (.d (.tuple [])),some (.d (.int most)),some (.d (.int (dp:Int))),some (.l (ns.map Nod.d)),some (aL hs),o7,o8,o9,o10]/\GN n dp ns hs/\ns.length<=i) ⟨_,_,[],[],_,_,_,_,rfl,GN.nil,by simp⟩ ?_ ?_
 ·rintro i _ hi ⟨x,y,ns,hs,o7,o8,o9,o10,rfl,hG,ll⟩
  have ln:=hG.ln;have lN:(List.map Nod.d ns).length=ns.length:=List.length_map _;have fin:∀ {nod:Nod} {kk x y:Int} {o7 o8 o9 o10:Option U},zfV n dp hs kk nod->∃ (x' y':Int) (ns':List Nod) (hs':List Int) (o7' o8' o9' o10':Option U),([some (bx x y),some (.d (.int (n:Int))),some (.d (.tuple [])),some (.d (.int most)),some (.d (.int (dp:Int))),some (.l (ns.map Nod.d++[nod.d])),some (.l (hs.map .int++[.int kk])),o7,o8,o9,o10]:En)=[some (bx x' y'),some (.d (.int (n:Int))),some (.d (.tuple [])),some (.d (.int most)),some (.d (.int (dp:Int))),some (.l (ns'.map Nod.d)),some (aL hs'),o7',o8',o9',o10']/\GN n dp ns' hs'/\ns'.length<=i+1:=fun{nod kk x y o7 o8 o9 o10} hk=>⟨x,y,ns++[nod],hs++[kk],o7,o8,o9,o10,by rw [List.map_append,aL,List.map_append]; rfl,hG.snoc hk,by rw [qu,List.length_singleton]; omega⟩;have letter:∀ {x y:Int} {o7 o8 o9 o10:Option U} {q:Nat},q < n->_:=fun{x y o7 o8 o9 o10 q} hq=>fin (nod:=.lt q) (kk:=1) (x:=x) (y:=y) (o7:=o7) (o8:=o8) (o9:=o9) (o10:=o10) ⟨hq,rfl⟩;simp_arith;refine zaI (by decide) (by decide) fun w x1 y1 w0 w1=>?_
  by_cases l0:ns.length=0
  ·have lz:((ns.length:Nat):Int)=0:=by omega
   simp_arith [lN,lz];refine zjA n1 (by omega) fun q x2 y2 hq=>?_;simp_arith [List.length_map];exact letter hq
  have lz:¬((ns.length:Nat):Int)=0:=by omega
  simp_arith [lN,lz];refine zdN (fun c=>?_) (fun c=>?_)
  ·simp_arith
   refine zjA n1 (by omega) fun q x2 y2 hq=>?_;simp_arith [List.length_map];exact letter hq
  ·simp_arith [lN]
   refine zjA (by omega) (by omega) fun r5 x5 y5 h5=>?_;simp_arith;refine zaI (by decide) (by decide) fun r6 x6 y6 a6 b6=>?_;simp_arith;refine zsS a6 b6 fun z hz=>?_;obtain⟨c',rfl,hc⟩:=zv4 hz;obtain⟨p,rfl,hp⟩:=zBv (by omega) h5 hc;simp_arith [lN];refine zjA (by omega) (by omega) fun q x7 y7 hq=>?_;have ap:=zjy (hs:=hs) (i:=p) (by omega);have aq:=zjy (hs:=hs) (i:=q) (by omega)
   by_cases c3:w < 3
   ·simp_arith [c3]
    refine zxx (by omega) hp hG fun ps x8 y8 hk=>?_;simp_arith [ap,List.length_map];exact fin hk
   ·simp_arith [c3,ap,aq]
    refine zdN (fun c4=>?_) (fun c4=>?_)
    ·simp_arith
     refine zxx (by omega) hp hG fun ps x8 y8 hk=>?_;simp_arith [ap,List.length_map];exact fin hk
    ·by_cases c5:hs.getD p 0 < hs.getD q 0
     ·simp_arith [ap,aq,c5,List.length_map]
      exact fin (nod:=.tm q p) (kk:=hs.getD p 0+hs.getD q 0) ⟨by omega,by omega,by omega,by omega,by omega⟩
     ·simp_arith [ap,aq,c5,List.length_map]
      exact fin (nod:=.tm p q) (kk:=hs.getD p 0+hs.getD q 0) ⟨by omega,by omega,by omega,rfl,by omega⟩
 ·rintro _ ⟨x,y,ns,hs,o7,o8,o9,o10,rfl,hG,ll⟩
  simp_arith;exact k ns hs _ _ hG (by omega)
end K32
open PySem L2
namespace K32
open PySem L2
def oD:Option Nat->D
 | none=>.none
 | some m=>.int (m:Int)
def tpD(r:Rat)(os:List (Option Nat)):D:=.tuple [fR r,.tuple (os.map oD)]
theorem zA0{x y:Int}{n dp:Nat}{ns:List Nod}{hs:List Int}{Q:U×List U->Prop}(hl:ns.length<=12)(d6:dp<=6)(h:GN n dp ns hs)
  (k:∀ r os x' y',Bd 12 12000000 r->os.length<=dp->(∀ m,some m∈os->m < ns.length)->Q (.d (tpD r os),[bx x' y',.d (.tuple (ns.map Nod.d)),.d (.int (dp:Int))])):Wo (zdn [bx x y,.d (.tuple (ns.map Nod.d)),.d (.int (dp:Int))]) Q:=by
 have ln:=h.ln;have lN:(List.map Nod.d ns).length=ns.length:=List.length_map _;simp_arith [zdn,zhG,zt0 (by omega) h];refine zdd (fun i ρ=>∃ (x y:Int) (os:List (Option Nat)) (o5 o6 o7:Option U),ρ=[some (bx x y),some (.d (.tuple (ns.map Nod.d))),some (.d (.int (dp:Int))),some (aL hs),some (.l (os.map oD)),o5,o6,o7]/\os.length=i/\∀ m,some m∈os->m < ns.length) ⟨_,_,[],_,_,_,rfl,rfl,fun m hm=>by cases hm⟩ ?_ ?_
 ·rintro i d _ hd ⟨x,y,os,o5,o6,o7,rfl,ho,hO⟩
  obtain⟨hi,rfl⟩:=zhb hd;have fin:∀ {o:Option Nat} {x y:Int} {o5 o6 o7:Option U},(∀ m,o=some m->m < ns.length)->∃ (x' y':Int) (os':List (Option Nat)) (o5' o6' o7':Option U),([some (bx x y),some (.d (.tuple (ns.map Nod.d))),some (.d (.int (dp:Int))),some (aL hs),some (.l (os.map oD++[oD o])),o5,o6,o7]:En)=[some (bx x' y'),some (.d (.tuple (ns.map Nod.d))),some (.d (.int (dp:Int))),some (aL hs),some (.l (os'.map oD)),o5',o6',o7']/\os'.length=i+1/\∀ m,some m∈os'->m < ns.length:=fun{o x y o5 o6 o7} h1=>⟨x,y,os++[o],o5,o6,o7,by rw [List.map_append]; rfl,by rw [qu,ho]; rfl,fun m hm=>by
   rcases List.mem_append.mp hm with z | z
   ·exact hO m z
   ·exact h1 m (qr.mp z).symm⟩
  have no:∀ {x y:Int} {o5 o6 o7:Option U},_:=fun{x y o5 o6 o7}=>fin (o:=none) (x:=x) (y:=y) (o5:=o5) (o6:=o6) (o7:=o7) fun m hm=>by cases hm
  simp_arith [lN];refine zpx (fun m ρ ys=>∃ is:List Nat,ρ=[none,some (aL hs),some (.d (.int (1+(i:Int))))]/\ys=is.map (fun m:Nat=>PyData.int (m:Int))/\is.length<=m/\∀ m∈is,m < ns.length) (by rw [zn4]; omega) ⟨[],rfl,rfl,qg _,fun m hm=>by cases hm⟩ ?_ ?_ ?_
  ·rintro m _ _ ⟨is,rfl,rfl,hl,_⟩
   rw [List.length_map]; exact hl
  ·rintro m _ _ hm ⟨is,rfl,rfl,hl,hI⟩
   have am:=zjy (hs:=hs) (i:=m) (by omega)
   by_cases c:hs.getD m 0=1+(i:Int)
   ·simp_arith [Int.zero_add,am,c]
    exact⟨is++[m],by rw [List.map_append]; rfl,by rw [qu,List.length_singleton]; omega,fun j hj=>by
     rcases List.mem_append.mp hj with z | z
     ·exact hI j z
     ·rw [qr.mp z]; omega⟩
   ·simp_arith [Int.zero_add,am,c]
    exact⟨is,rfl,by omega,hI⟩
  ·rintro _ _ ⟨is,rfl,rfl,hl,hI⟩
   have lI:(is.map (fun m:Nat=>PyData.int (m:Int))).length=is.length:=List.length_map _;simp_arith;refine zaI (by decide) (by decide) fun w x1 y1 w0 w1=>?_
   by_cases c:((is.length:Nat):Int)=0
   ·simp_arith [lI,c]
    exact no
   ·simp_arith [lI,c]
    refine zdN (fun c2=>?_) (fun c2=>?_)
    ·simp_arith
     exact no
    ·simp_arith
     refine zdN (fun c3=>?_) (fun c3=>?_)
     ·have last:∃ m∈is,atI (is.map (fun m:Nat=>PyData.int (m:Int))) (-1)=some (.int (m:Int)):=by
       have hp:is.length - 1 < is.length:=by omega
       refine⟨is[is.length - 1],List.getElem_mem hp,?_⟩;unfold atI ixN;rw [if_neg (by decide)];rw [List.length_map,if_pos (by omega),bd,show(-1+(is.length:Int)).toNat=is.length - 1 by omega,List.getElem?_map,qo hp];rfl
      obtain⟨m,hm,em⟩:=last;simp_arith [em];exact fin (o:=some m) fun j hj=>by cases hj; exact hI m hm
     ·simp_arith [lI]
      refine zjA (by omega) (by omega) fun q x2 y2 hq=>?_;simp_arith;refine zsT (f:=fun m:Nat=>PyData.int (m:Int)) (xs:=is) (by omega) (by omega) fun m hm _=>?_;simp_arith;exact fin (o:=some m) fun j hj=>by cases hj; exact hI m hm
 ·rintro _ ⟨x,y,os,o5,o6,o7,rfl,ho,hO⟩
  rw [zf8]at ho;simp_arith;refine zna fun f x1 y1 hf=>?_;simp_arith;refine zaI (by decide) (by decide) fun r x2 y2 r0 r1=>?_;have rm:0<=r * (dp:Int):=Int.mul_nonneg r0 (by omega);simp_arith;refine zaI (by omega) (by omega) fun r2 x3 y3 r3 r4=>?_;have ct:ziZ (os.map oD) none (some (r * (dp:Int)+r2))=(os.map oD).take (r * (dp:Int)+r2).toNat:=zy9 (by omega);simp_arith [ct];rw [<-List.map_take];exact k f (os.take (r * (dp:Int)+r2).toNat) x3 y3 hf (by rw [List.length_take]; omega) fun m hm=>hO m (List.mem_of_mem_take hm)
end K32
open PySem L2
namespace K32
open PySem L2
structure Net where
 ls:List Str
 ns:List Nod
 hs:List Int
 r:Rat
 os:List (Option Nat)
def dpO(n:Nat):Nat:=if n=1 then 6 else 4
def Net.d(N:Net):D:=.tuple [.tuple (N.ls.map .str),.tuple (N.ns.map Nod.d),tpD N.r N.os]
structure NO (N:Net):Prop where
 n1:1<=N.ls.length
 n3:N.ls.length<=3
 gn:GN N.ls.length (dpO N.ls.length) N.ns N.hs
 nl:N.ns.length<=12
 rb:Bd 12 12000000 N.r
 ol:N.os.length<=dpO N.ls.length
 oi:∀ m,some m∈N.os->m < N.ns.length
 ac:∀ z∈N.ls,Asc 10 z
theorem dp6{n:Nat}:1<=dpO n/\dpO n<=6:=by unfold dpO; split<;>omega
theorem zxy{x y:Int}{ls:List Str}{most:Int}{Q:U×List U->Prop}(n1:1<=ls.length)(n3:ls.length<=3)(ha:∀ z∈ls,Asc 10 z)(m0:0<=most)(m8:most<=12)
  (k:∀ (N:Net) x' y',N.ls=ls->NO N->Q (.d N.d,[bx x' y',.d (.tuple (ls.map .str)),.d (.int most),.d (.int (dpO ls.length:Int))])) :
  Wo (zdt [bx x y,.d (.tuple (ls.map .str)),.d (.int most),.d (.int (dpO ls.length:Int))]) Q:=by
 obtain⟨d1,d6⟩:=dp6 (n:=ls.length);simp_arith [zdt,zhM,List.length_map];refine zaI (by omega) (by omega) fun r x1 y1 r0 r1=>?_;simp_arith;refine zv5 n1 n3 r0 (by omega) d1 fun ns hs x2 y2 hG hl=>?_;simp_arith;refine zA0 hl d6 hG fun f os x3 y3 hf ho hO=>?_;simp_arith;exact k ⟨ls,ns,hs,f,os⟩ _ _ rfl ⟨n1,n3,hG,hl,hf,ho,hO,ha⟩
theorem zpV{x y:Int}{Q:U×List U->Prop}(k:∀ (N:Net) x' y',NO N->Q (.d N.d,[bx x' y'])):Wo (zbJ [bx x y]) Q:=by
 simp_arith [zbJ,zfR];refine zaI (by decide) (by decide) fun r x1 y1 r0 r1=>?_;simp_arith;refine zv2 (by omega) (by omega) fun ls x2 y2 hls hac=>?_;have l1:1<=ls.length:=by omega
 have l3:ls.length<=3:=by omega
 simp_arith;refine zaI (by decide) (by decide) fun r2 x3 y3 a3 b3=>?_;have dpe:atI [PyData.int 6,.int 4,.int 4] ((ls.length:Int) - 1)=some (.int (dpO ls.length:Int)):=by
  rcases(by omega:ls.length=1\/ls.length=2\/ls.length=3)with e | e | e<;>rw [e]<;>rfl
 by_cases c:r2=0
 ·simp_arith [c,List.length_map,dpe]
  refine zxy l1 l3 hac (by decide) (by decide) fun N x4 y4 _ hN=>?_;simp_arith;exact k N _ _ hN
 ·simp_arith [c,List.length_map,dpe]
  refine zxy l1 l3 hac (by decide) (by decide) fun N x4 y4 _ hN=>?_;simp_arith;exact k N _ _ hN
end K32
open PySem L2
namespace K32
open PySem L2
theorem zou{N:Net}(h:NO N):zff [.d N.d]=some (aL N.hs,[.d N.d]):=by
 refine zO ?_;have ln:=h.gn.ln;have nl:=h.nl;simp_arith [zff,zkG,Net.d];refine zdd (fun i ρ=>∃ o5,ρ=[some (.d N.d),some (.d (.tuple (N.ls.map .str))),some (.d (.tuple (N.ns.map Nod.d))),some (.d (tpD N.r N.os)),some (aL (N.hs.take i)),o5]) ⟨none,rfl⟩ ?_ ?_
 ·rintro i d _ hd ⟨o5,rfl⟩
  rw [List.getElem?_map]at hd;obtain⟨nod,en,rfl⟩:=qt.mp hd;have hi:=(qm.mp en).1;have ok:=h.gn.ok i nod en;have l3:=h.n3;have nd:=zjz (by omega) (by rw [List.length_take]; omega) ok;simp_arith [nd,List.length_map,List.length_take];rw [zhn (by omega)];exact⟨_,rfl⟩
 ·rintro _ ⟨o5,rfl⟩
  rw [List.length_map,<-ln,List.take_length];simp_arith;rfl
end K32
open PySem L2
namespace K32
open PySem L2
theorem zhS{M B:Nat}{r:Rat}(h:Bd M B r)(hM:0 < M)(h1:M < 2^4000)(h2:B < 2^4000):Sz r:=by
 obtain⟨a,b⟩:=h.size hM;exact⟨Nat.lt_of_le_of_lt b h2,Nat.lt_of_le_of_lt a h1⟩
abbrev zt1(p:Pq Rat):U:=.d (.tuple (tmG fR p))
abbrev dT(p:Pq Rat):U:=.d (.dict (dcG fR p))
theorem zlJ{u:U}{α:Type}{a b:Option α}:(if u.own=true/\u.own=false then a else b)=b:=if_neg fun⟨h,h'⟩=>by rw [h]at h'; cases h'
def Ln{α:Type}(n:Nat)(p:Pq α):Prop:=∀ t∈p,t.1.length=n
theorem zhT{M B:Nat}{p q:Pq Rat}{u1 u2:U}{s:Int}(hu1:zgD u1=some (.t (kvG fR p)))(hu2:u2.fz=some (.dict (dcG fR q)))(hs:s=1\/s=-1)(np:NdK p)(nq:NdK q)(hp:PB M B p)(hq:PB M B q)(hM:0 < M)(h1:M < 2^4000)(h2:B+q.length * B < 2^4000)(l1:p.length < 64)(l2:q.length < 64) :
  za0 [u1,u2,.d (.int s)]=some (.t (kvG fR (nz (gat p (psg s q)))),[u1,dT q,.d (.int s)]):=by
 refine zO ?_;have sp:psg s q=q.map fun t=>(t.1,(s:Rat) * t.2):=rfl;simp_arith [za0,zdU,hu1,hu2];refine zaR (fun bs cs ρ=>∃ o4 o5,ρ=[some u1,some (dT q),some (.d (.int s)),some (.t (kvG fR (gat p (psg s bs)))),o4,o5,none]) ⟨_,_,rfl⟩ ?_ ?_
 ·rintro bs t cs _ e ⟨o4,o5,rfl⟩
  have tq:t∈q:=by rw [e]; simp
  have lb:bs.length+1<=q.length:=by rw [e,qu,qv]; omega
  have gl:=zde (psg s bs) p;rw [show(psg s bs).length=bs.length from List.length_map ..]at gl;have gb:PB M (B+q.length * B) (gat p (psg s bs)):=fun v hv=>(zn9 (psg s bs) hp (ztv hs fun w hw=>hq w (by rw [e]; exact List.mem_append_left _ hw)) v hv).le (by
   rw [show(psg s bs).length=bs.length from List.length_map ..];have:=Nat.mul_le_mul_right B (show bs.length<=q.length by omega);omega)
  have s1:=zhS (zfb gb t.1) hM h1 h2;have s2:Sz ((s:Rat) * t.2):=zhS (ztv hs hq (t.1,(s:Rat) * t.2) (List.mem_map.mpr ⟨t,tq,rfl⟩)) hM h1 (by omega);simp_arith [zbL nq tq,zzh hs,zhQ s1 s2];rw [zod (by omega)];simp_arith;rw [show psg s (bs++[t])=psg s bs++[(t.1,(s:Rat) * t.2)] by unfold psg; rw [List.map_append]; rfl,zgE];exact⟨_,_,rfl⟩
 ·rintro _ ⟨o4,o5,rfl⟩
  have gn:NdK (gat p (psg s q)):=zdE _ np;have gl:=zde (psg s q) p;rw [show(psg s q).length=q.length from List.length_map ..]at gl;generalize gat p (psg s q)=r at gn gl;simp_arith;refine zaR (fun bs cs ρ=>∃ o4,ρ=[some u1,some (dT q),some (.d (.int s)),some (dT r),o4,o5,some (.t (kvG fR (nz bs)))]) ⟨_,rfl⟩ ?_ ?_
  ·rintro bs t cs _ e ⟨o4,rfl⟩
   have tr:t∈r:=by rw [e]; simp
   have ln:(nz bs).length<=bs.length:=List.length_filter_le _ _;have lb:bs.length+1<=r.length:=by rw [e,qu,qv]; omega
   simp_arith [zbL gn tr,zts];rw [zpM]
   by_cases z:t.2=0
   ·simp_arith [z,ne_eq]
    exact⟨_,rfl⟩
   ·simp_arith [z,ne_eq,zbL gn tr,zod (c:=fR) (p:=nz bs) (k:=t.1) (x:=t.2) (by omega)]
    rw [ztw (cs:=cs) (by rw [<-e]; exact gn)];exact⟨_,rfl⟩
  ·rintro _ ⟨o4,rfl⟩
   simp_arith [zlJ]
theorem znc{M N B C n:Nat}{p q:Pq Rat}{u1 u2:U}{Q:U×List U->Prop}(hu1:u1.fz=some (.dict (dcG fR p)))(hu2:u2.fz=some (.dict (dcG fR q)))(np:NdK p)(nq:NdK q)(hp:PB M B p)(hq:PB N C q)(lp:Ln n p)(lq:Ln n q)(ln:n < 64)(hM:0 < M)(hN:0 < N)(h1:M * N < 2^4000)(h2:M < 2^4000)(h3:N < 2^4000)(h4:B < 2^4000)(h5:C < 2^4000)(h6:p.length * q.length * (B * C) < 2^4000)(hBC:0 < B * C)
  (l1:p.length * q.length < 64) (lp6:p.length < 64) (lq6:q.length < 64) (kq:∀ u2',u2'.fz=some (.dict (dcG fR q))->Q (.t (kvG fR (nz (gat [] (zaD p q)))),[dT p,u2'])):Wo (zbm [u1,u2]) Q:=by
 have fin:∀ (o1 o3 o4 o5 o6:Option U) (r:Pq Rat),NdK r->r.length < 64->∀ (Q:Fl->Prop),(∀ o5,Q (.nx [some (dT p),o1,some (dT r),o3,o4,o5,o6,some (.t (kvG fR (nz r)))]))->Wo (zb0 (zB 5) (zay (mB (mOp (zaQ true) (mOp zac (zcV (zj 2) (zj 5)) (mC (.int 0))) (mC (.int 0)))) (zel 7 (zj 5) (zcV (zj 2) (zj 5))) zap) (r.map fun t=>pwD t.1) [some (dT p),o1,some (dT r),o3,o4,o5,o6,some (.t [])]) Q:=by
  intro o1 o3 o4 o5 o6 r gn gl Q hQ;refine zaR (fun bs cs ρ=>∃ o5,ρ=[some (dT p),o1,some (dT r),o3,o4,o5,o6,some (.t (kvG fR (nz bs)))]) ⟨_,rfl⟩ ?_ ?_
  ·rintro bs t cs _ e ⟨o5,rfl⟩
   have tr:t∈r:=by rw [e]; simp
   have ln:(nz bs).length<=bs.length:=List.length_filter_le _ _;have lb:bs.length+1<=r.length:=by rw [e,qu,qv]; omega
   simp_arith [zbL gn tr,zts];rw [zpM]
   by_cases z:t.2=0
   ·simp_arith [z,ne_eq]
    exact⟨_,rfl⟩
   ·simp_arith [z,ne_eq,zbL gn tr,zod (c:=fR) (p:=nz bs) (k:=t.1) (x:=t.2) (by omega)]
    rw [ztw (cs:=cs) (by rw [<-e]; exact gn)];exact⟨_,rfl⟩
  ·rintro _ ⟨o5,rfl⟩
   exact hQ o5
 simp_arith [zbm,zdl,hu1];refine zaR (fun bs cs ρ=>∃ (x:U) (o3 o4 o5 o6:Option U),ρ=[some (dT p),some x,some (.t (kvG fR (gat [] (zaD bs q)))),o3,o4,o5,o6,none]/\(x=u2\/x=dT q)) ⟨u2,_,_,_,_,rfl,.inl rfl⟩ ?_ ?_
 ·rintro bs s cs _ e ⟨x,o3,o4,o5,o6,rfl,hx'⟩
  have hx:x.fz=some (.dict (dcG fR q)):=by
   rcases hx' with rfl | rfl
   ·exact hu2
   ·rfl
  have sp:s∈p:=by rw [e]; simp
  have lbs:bs.length+1<=p.length:=by rw [e,qu,qv]; omega
  have lpm:(zaD bs q).length+q.length<=p.length * q.length:=by
   rw [zgF];have:=Nat.mul_le_mul_right q.length lbs;rw [Nat.add_mul,Nat.one_mul]at this;exact this
  simp_arith [hx];refine zaR (fun ds fs ρ=>∃ (o4 o5 o6:Option U),ρ=[some (dT p),some (dT q),some (.t (kvG fR (gat [] (zaD bs q++ds.map fun t=>(zaT s.1 t.1,s.2 * t.2))))),some (.d (pwD s.1)),o4,o5,o6,none]) ⟨_,_,_,by rw [List.map_nil,List.append_nil]⟩ ?_ ?_
  ·rintro ds t fs _ e2 ⟨o4,o5,o6,rfl⟩
   have tq:t∈q:=by rw [e2]; simp
   have lds:ds.length+1<=q.length:=by rw [e2,qu,qv]; omega
   have hle:s.1.length=t.1.length:=by rw [lp s sp,lq t tq]
   have s1:=zhS (hp s sp) hM h2 h4;have s2:=zhS (hq t tq) hN h3 h5;have hb:PB (M * N) (B * C) (zaD bs q++ds.map fun t=>(zaT s.1 t.1,s.2 * t.2)):=fun v hv=>by
    rcases List.mem_append.mp hv with z | z
    ·obtain⟨a,ha,b,hb,rfl⟩:=zly z
     exact(hp a (by rw [e]; exact List.mem_append_left _ ha)).mul (hq b hb)
    ·obtain⟨b,hb,rfl⟩:=List.mem_map.mp z
     exact(hp s sp).mul (hq b (by rw [e2]; exact List.mem_append_left _ hb))
   have ll:(zaD bs q++ds.map fun t=>(zaT s.1 t.1,s.2 * t.2)).length<=p.length * q.length:=by
    rw [qu,List.length_map];omega
   have gl:=zde (zaD bs q++ds.map fun t=>(zaT s.1 t.1,s.2 * t.2)) [];rw [List.length_nil,Nat.zero_add]at gl;have gb:PB (M * N) (p.length * q.length * (B * C)) (gat [] (zaD bs q++ds.map fun t=>(zaT s.1 t.1,s.2 * t.2))):=fun v hv=>(zn9 _ (C:=0) pb0 hb v hv).le (by
    have:=Nat.mul_le_mul_right (B * C) ll;omega)
   have s3:=zhS (zfb gb (zaT s.1 t.1)) (Nat.mul_pos hM hN) h1 h6;have s4:Sz (s.2 * t.2):=zhS ((hp s sp).mul (hq t tq)) (Nat.mul_pos hM hN) h1 (by
    have h7:1 * (B * C)<=p.length * q.length * (B * C):=Nat.mul_le_mul_right _ (by
     have:1 * 1<=p.length * q.length:=Nat.mul_le_mul (by omega) (by omega);omega)
    omega)
   simp_arith [zgG hle];refine zeO (e:=fun t=>.int (t.1+t.2)) (by rw [List.length_zip,lp s sp]; omega) (fun t ht ys=>?_) ?_
   ·simp_arith
   ·rw [show((s.1.zip t.1).map fun t=>PyData.int (t.1+t.2))=(zaT s.1 t.1).map PyData.int by unfold zaT; rw [List.map_zipWith,List.zip,List.map_zipWith]]
    simp_arith [show PyData.tuple ((zaT s.1 t.1).map PyData.int)=pwD (zaT s.1 t.1) from rfl,zbL np sp,zbL nq tq,zgX s1 s2,zhQ s3 s4];rw [zod (by omega)];simp_arith;rw [List.map_append,<-List.append_assoc,List.map_cons,List.map_nil,zgE];exact⟨_,_,_,rfl⟩
  ·rintro _ ⟨o4,o5,o6,rfl⟩
   simp_arith;rw [zqJ];exact⟨dT q,_,_,_,_,rfl,.inr rfl⟩
 ·rintro _ ⟨x,o3,o4,o5,o6,rfl,hx⟩
  have gl:=zde (zaD p q) [];rw [List.length_nil,zgF]at gl;simp_arith;refine fin _ _ _ _ _ _ (zdE _ nd0) (by omega) _ fun o5=>?_;rcases hx with rfl | rfl
  ·simp_arith [zlJ]
   exact kq x hu2
  ·simp_arith
   exact kq (dT q) rfl
def zj6:Nat->Nat->List (List Int)
 | 0,_=>[[]]
 | n+1,w=>(List.range (w+1)).flatMap fun(j:Nat)=>(zj6 n (w - j)).map fun l=>(j:Int)::l
structure Ks (n w:Nat) (a:List Int):Prop where
 ln:a.length=n
 pos:∀ k∈a,0<=k
 sm:a.sum<=(w:Int)
theorem zpW:∀ {a:List Int},(∀ k∈a,0<=k)->0<=a.sum
 | [],_=>by decide
 | k::a,h=>by
  rw [List.sum_cons];have:=h k qq;have:=zpW fun j hj=>h j (qp k hj);omega
theorem zpX:∀ {n w:Nat} {a:List Int},Ks n w a->a∈zj6 n w
 | 0,_,[],_=>qr.mpr rfl
 | 0,_,_::_,h=>by have:=h.ln; simp at this
 | n+1,_,[],h=>by have:=h.ln; simp at this
 | n+1,w,k::a,h=>by
  have h1:=h.pos k qq;have h2:=zpW fun j hj=>h.pos j (qp k hj);have h3:=h.sm;rw [List.sum_cons]at h3;refine List.mem_flatMap.mpr ⟨k.toNat,List.mem_range.mpr (by omega),List.mem_map.mpr ⟨a,zpX ⟨Nat.succ.inj h.ln,fun j hj=>h.pos j (qp k hj),by omega⟩,?_⟩⟩;rw [Int.toNat_of_nonneg h1]
theorem Ks.up{n w w':Nat}{a:List Int}(h:Ks n w a)(c:w<=w'):Ks n w' a:=⟨h.ln,h.pos,by have:=h.sm; omega⟩
theorem zjB:∀ {a b:List Int},a.length=b.length->(zaT a b).sum=a.sum+b.sum
 | [],[],_=>rfl
 | [],_::_,h=>by simp at h
 | _::_,[],h=>by simp at h
 | x::a,y::b,h=>by
  show((x+y)::zaT a b).sum=_;rw [List.sum_cons,List.sum_cons,List.sum_cons,zjB (Nat.succ.inj h)];omega
theorem znd:∀ {a b:List Int},(∀ k∈a,0<=k)->(∀ k∈b,0<=k)->∀ k∈zaT a b,0<=k
 | [],_,_,_,k,hk=>by simp [zaT]at hk
 | _::_,[],_,_,k,hk=>by simp [zaT]at hk
 | x::a,y::b,h,h',k,hk=>by
  rcases qw.mp (show k∈(x+y)::zaT a b from hk)with rfl | hk
  ·have:=h x qq
   have:=h' y qq;omega
  ·exact znd (fun j hj=>h j (qp _ hj)) (fun j hj=>h' j (qp _ hj)) k hk
theorem Ks.add{n w w':Nat}{a b:List Int}(h:Ks n w a)(h':Ks n w' b):Ks n (w+w') (zaT a b):=by
 refine⟨?_,znd h.pos h'.pos,?_⟩
 ·unfold zaT
  rw [List.length_zipWith,h.ln,h'.ln,Nat.min_self]
 ·rw [zjB (h.ln.trans h'.ln.symm)]
  have:=h.sm;have:=h'.sm;omega
theorem zzw:((zj6 1 6).map fun a=>hT (kL a)).Nodup:=by decide +kernel
theorem zzx:((zj6 2 4).map fun a=>hT (kL a)).Nodup:=by decide +kernel
theorem zzy:((zj6 3 4).map fun a=>hT (kL a)).Nodup:=by decide +kernel
theorem zt2{n:Nat}{p:Pq Rat}(h1:1<=n)(h3:n<=3)(nd:NdK p)(ky:∀ t∈p,Ks n (dpO n) t.1):zto p:=by
 have inj:∀ a∈zj6 n (dpO n),∀ b∈zj6 n (dpO n),hT (kL a)=hT (kL b)->a=b:=by
  rcases(by omega:n=1\/n=2\/n=3)with rfl | rfl | rfl
  ·exact zlB zzw
  ·exact zlB zzx
  ·exact zlB zzy
 unfold zto zgd;rw [Bool.and_eq_true_iff];constructor
 ·rw [List.all_eq_true]
  intro ks hk;obtain⟨a,_,rfl⟩:=List.mem_map.mp hk;rw [zzb,List.all_eq_true];intro k hk;obtain⟨i,_,rfl⟩:=List.mem_map.mp hk;rfl
 ·rw [decide_eq_true_iff,List.map_map]
  have mem:∀ a∈p.map (·.1),a∈zj6 n (dpO n):=fun a ha=>by
   obtain⟨t,ht,rfl⟩:=List.mem_map.mp ha;exact zpX (ky t ht)
  refine List.pairwise_map.mpr (List.Pairwise.imp_of_mem (fun{a b} ha hb (hne:a≠b)=>?_) nd);exact fun e=>hne (inj a (mem a ha) b (mem b hb) e)
def zs(n:Nat):List Int:=List.replicate n 0
def zgY(n k:Nat):List Int:=List.replicate k 0++[1]++List.replicate (n - k - 1) 0
def zjC(n:Nat)(f:Rat):Pq Rat:=if f=0 then []else [(zs n,f)]
theorem zjD(k:Nat):PyData.tuple (List.replicate k [PyData.int 0]).flatten=pwD (List.replicate k 0):=by
 unfold pwD;congr 1
 induction k with
 | zero=>rfl
 | succ k ih=>rw [List.replicate_succ,List.flatten_cons,List.replicate_succ,List.map_cons,<-ih]; rfl
theorem zt3(r:Rat):decide (r.num=0)=decide (r=0):=decide_eq_decide.mpr Rat.num_eq_zero
theorem zv6{k:Int}(h:k < 1000)(h2:-1000 < k):zfw (.d (pwD [0])) (.d (.int k))=some (.d (pwD (List.replicate k.toNat 0))):=by
 rw [<-zjD];exact zlD (xs:=[.int 0]) (by decide) h h2 (by decide)
theorem zt4{n k:Nat}(hk:k < n):(zgY n k).length=n:=by
 unfold zgY;rw [qu,qu,List.length_replicate,List.length_replicate,List.length_singleton];omega
theorem zzz(n:Nat):(zs n).length=n:=List.length_replicate
theorem zt5{n k:Nat}:∀ j∈zgY n k,0<=j/\j<=1:=fun j hj=>by
 unfold zgY at hj;rcases List.mem_append.mp hj with z | z
 ·rcases List.mem_append.mp z with z | z
  ·rw [List.eq_of_mem_replicate z]; omega
  ·rw [qr.mp z]; omega
 ·rw [List.eq_of_mem_replicate z]; omega
theorem zzA{n:Nat}:∀ j∈zs n,j=0:=fun j hj=>List.eq_of_mem_replicate hj
theorem nd1{t:List Int×Rat}:NdK [t]:=by unfold NdK; simp
theorem zt6{n:Nat}{f:Rat}{t:List Int×Rat}(h:t∈zjC n f):t=(zs n,f)/\f≠0:=by
 unfold zjC at h;split at h
 ·cases h
 ·exact⟨qr.mp h,by assumption⟩
end K32
open PySem L2
namespace K32
open PySem L2
structure Fm where
 p:Pq Int
 b:Int
 r:Int
def cF(F:Fm):D:=fmD F.p F.b F.r
def zfo(p:Pq Int)(b r:Int):Fm:=if(p.filter fun t=>!decide (t.2=0)).isEmpty=true then⟨[],1,256⟩else⟨p.filter fun t=>!decide (t.2=0),b,r⟩
theorem zkJ{α:Type}{p:Pq α}(h:NdK p)(f:List Int×α->Bool):NdK (p.filter f):=h.sublist (List.filter_sublist.map _)
theorem zA1:zgH 1=1:=by decide
theorem zt7{α:Type}(p:Pq α):(p.map fun a=>(a.1,a.2))=p:=by simp
theorem zgh{p:Pq Int}{b r:Int}{u:U}(hu:u.fz=some (.dict (dcG .int p)))(nd:NdK p)(hl:p.length < 1000)(b1:1<=b)(hb:zgH b<=r)(hg:b.natAbs.log2 < 9000) :
  zcE [u,.d (.int b),.d (.int r)]=some (.d (cF (zfo p b r)),[.d (.dict (dcG .int p)),.d (.int b),.d (.int r)]):=by
 refine zO ?_;simp_arith [zcE,zkF,hu];rw [zhg p];refine zjd (c:=PyData.int) (b:=fun t=>!decide (t.2=0)) (k:=(·.1)) (v:=(·.2)) (by omega) (fun t ht ys=>?_) ?_
 ·simp_arith
  by_cases h:t.2=0
  ·simp_arith [h]
  ·simp_arith [h,zoc]
 ·rw [zt7,ztN (zkJ nd _)]
  simp_arith
  by_cases h:(p.filter fun t=>!decide (t.2=0)).isEmpty=true
  ·have e:zfo p b r=⟨[],1,256⟩:=if_pos h
   have e2:(p.filter fun t=>!decide (t.2=0))=[]:=by simpa using h
   rw [e];simp_arith [h];rw [e2];refine zdd (fun i ρ=>i=0/\ρ=[some (U.d (.dict (dcG .int p))),some (.d (.int b)),some (.d (.int r)),some (.d (.dict (dcG .int ([]:Pq Int)))),some (.d (.int b)),none,none]) ⟨rfl,rfl⟩ (fun i d ρ hd=>by cases hd) ?_;rintro _ ⟨_,rfl⟩;simp_arith;refine zjd (c:=PyData.int) (b:=fun t=>true) (k:=(·.1)) (v:=fun t:List Int×Int=>t.2) (as:=[]) (by decide) (fun t ht=>by cases ht) ?_;have e3:dcP (List.map (fun a:List Int×Int=>(a.1,a.2)) (List.filter (fun _=>true) []))=[]:=rfl;rw [e3];have d1:b.fdiv b=1:=Int.fdiv_self (by omega);have lg:∀ i:Int,i=1\/i=2->i.natAbs.log2 < 1000000:=by rintro i (rfl | rfl)<;>exact Nat.lt_of_le_of_lt (Nat.log2_le_self _) (by decide)
   simp_arith [zhe (a:=b) (b:=b) ⟨by omega,hg⟩,d1,zA1,zce (a:=2) (b:=1) (lg _ (.inr rfl)) (lg _ (.inl rfl))];rfl
  ·have e:zfo p b r=⟨p.filter fun t=>!decide (t.2=0),b,r⟩:=if_neg h
   have h':(p.filter fun t=>!decide (t.2=0)).isEmpty=false:=by simpa using h
   rw [e];simp_arith [h',hb];rfl
theorem zt8{t:List Int×Int}:NdK [t]:=by unfold NdK; simp
theorem ze3{n:Nat}{f:Rat}(hn:n<=3)(hb:zgH (f.den:Int)<=256)(hg:f.den.log2 < 9000):zaH [.d (fR f),.d (.int (n:Int))]=some (.d (cF (zfo [(zs n,f.num)] f.den 256)),[.d (fR f),.d (.int (n:Int))]):=by
 refine zO ?_;have s:=zgh (u:=.t (kvG .int [(zs n,f.num)])) (p:=[(zs n,f.num)]) (b:=f.den) (r:=256) zcg zt8 (by show(1:Nat) < 1000; decide) (zhY f) hb (by rw [Int.natAbs_natCast]; exact hg);simp_arith [zaH,zc8,zjD,Int.toNat_natCast];rw [show [(kL (List.replicate n 0),PyData.int f.num)]=kvG PyData.int [(zs n,f.num)] from rfl];simp_arith [s]
theorem zjE{n k:Nat}(hk:k < n)(hn:n<=3):za2 [.d (.int (k:Int)),.d (.int (n:Int))]=some (.d (cF ⟨[(zgY n k,1)],1,256⟩),[.d (.int (k:Int)),.d (.int (n:Int))]):=by
 refine zO ?_;have e:((n:Int) - (k:Int) - 1).toNat=n - k - 1:=by omega
 simp_arith [za2,zc4,zjD,Int.toNat_natCast,e,ztz,zty (a:=List.replicate k 0) (b:=[1]) (by rw [List.length_replicate]; show k+1<=1000; omega),zty (a:=List.replicate k 0++[1]) (b:=List.replicate (n - k - 1) 0) (by rw [qu,List.length_replicate,List.length_replicate]; show k+1+_<=1000; omega),zv6 (k:=(k:Int)) (by omega) (by omega),zv6 (k:=(n:Int) - (k:Int) - 1) (by omega) (by omega)];rw [zoa];rfl
theorem zjF{a b:List Int}(h:a.length=b.length)(hl:a.length < 64):zch [.d (pwD a),.d (pwD b)]=some (.d (pwD (zaT a b)),[.d (pwD a),.d (pwD b)]):=by
 refine zO ?_;simp_arith [zch,zfG,zgG h];refine zeO (e:=fun t=>.int (t.1+t.2)) (by rw [List.length_zip,<-h]; omega) (fun t ht ys=>?_) ?_
 ·simp_arith
 ·rw [show((a.zip b).map fun t=>PyData.int (t.1+t.2))=(zaT a b).map PyData.int by unfold zaT; rw [List.map_zipWith,List.zip,List.map_zipWith]]
  simp_arith;rfl
end K32
open PySem L2
namespace K32
open PySem L2
structure FZ (F:Fm):Prop where
 nd:NdK F.p
 ln:F.p.length < 64
 b1:1<=F.b
 bs:F.b.natAbs < 2^1000
 ns:∀ t∈F.p,t.2.natAbs < 2^3000
 r1:256<=F.r
def scI(p:Pq Int)(c:Int):Pq Int:=p.map fun t=>(t.1,t.2 * c)
def zh6(F G:Fm)(f:Rat):Fm :=
 zfo (gat (scI F.p ((G.b * f.den).fdiv (Int.gcd F.b (G.b * f.den):Nat))) (scI G.p (F.b.fdiv (Int.gcd F.b (G.b * f.den):Nat) * f.num))) (F.b * (G.b * f.den).fdiv (Int.gcd F.b (G.b * f.den):Nat)) (if G.r > F.r then G.r else F.r)
theorem zlK{p:Pq Int}(h:NdK p)(c:Int):NdK (scI p c):=by
 unfold NdK scI;rw [List.map_map];exact h
theorem zir(p:Pq Int)(c:Int):(scI p c).length=p.length:=List.length_map ..
theorem lgs{x:Int}{k:Nat}(h:x.natAbs < 2^k)(hk:k < 9000)(h0:0 < k):x.natAbs.log2 < 1000000:=Nat.lt_trans (zbO h0 h) (Nat.lt_trans hk (by decide))
theorem zt9{x:Int}{k:Nat}(h:x.natAbs < 2^k)(hk:k < 9000)(h0:0 < k):x.natAbs.log2 < 9000:=Nat.lt_trans (zbO h0 h) hk
theorem zua{x y:Int}{j k:Nat}(hx:x.natAbs < 2^j)(hy:y.natAbs < 2^k):(x * y).natAbs < 2^(j+k):=by
 rw [Int.natAbs_mul,Nat.pow_add];exact Nat.mul_lt_mul'' hx hy
theorem zpY{x g:Int}{k:Nat}(h0:0<=x)(hg:0 < g)(hx:x.natAbs < 2^k):(x.fdiv g).natAbs < 2^k:=by
 rw [Int.fdiv_eq_ediv_of_nonneg _ (by omega)];refine Nat.lt_of_le_of_lt ?_ hx;have:=Int.ediv_le_self g h0;have:=Int.ediv_nonneg h0 (by omega:0<=g);omega
theorem zlL{b:Int}{k:Nat}(h0:0 < k)(h:b.natAbs < 2^k):zgH b<=k:=by
 unfold zgH Builtin.Int.intBits;split
 ·exact Int.natCast_nonneg _
 ·have:=zbO h0 h
  omega
theorem zhU{F G:Fm}{f:Rat}(hF:FZ F)(hG:FZ G)(hn:f.num.natAbs < 2^1000)(hd:f.den < 2^100)(hb:(F.b * (G.b * f.den).fdiv (Int.gcd F.b (G.b * f.den):Nat)).natAbs < 2^256) :
  zc7 [.d (cF F),.d (cF G),.d (fR f)]=some (.d (cF (zh6 F G f)),[.d (cF F),.d (cF G),.d (fR f)]):=by
 refine zO ?_;have hd':((f.den:Nat):Int).natAbs < 2^100:=by rw [Int.natAbs_natCast]; exact hd
 have d1:=zhY f;have Fb:=hF.b1;have Gb:=hG.b1;have be0:0 < G.b * (f.den:Int):=Int.mul_pos (by omega) (by omega);have bes:=zua hG.bs hd';have gp:0 < Int.gcd F.b (G.b * f.den):=Int.gcd_pos_of_ne_zero_left _ (by omega);have gl:Int.gcd F.b (G.b * f.den)<=F.b.natAbs:=Int.gcd_le_natAbs_left _ (by omega);have cg:∀ z:Int,ziF z ((Int.gcd F.b (G.b * f.den):Nat):Int):=fun z=>⟨by omega,by rw [Int.natAbs_natCast]; exact zor gl (zt9 hF.bs (by decide) (by decide))⟩;have fs:=zpY (Int.le_of_lt be0) (by omega:(0:Int) < (Int.gcd F.b (G.b * f.den):Nat)) bes;have ss:=zpY (by omega:0<=F.b) (by omega:(0:Int) < (Int.gcd F.b (G.b * f.den):Nat)) hF.bs;have ss2:=zua ss hn;have cf:=zbB (x:=F.b) (y:=G.b * f.den) (by omega) (by omega);unfold cF zh6;generalize hfi:(G.b * (f.den:Int)).fdiv (Int.gcd F.b (G.b * f.den):Nat)=fi at *;generalize hse:F.b.fdiv (Int.gcd F.b (G.b * f.den):Nat)=se at *;simp_arith [zc7,zjs,zce (a:=G.b) (b:=(f.den:Int)) (lgs hG.bs (by decide) (by decide)) (lgs hd' (by decide) (by decide)),cf,zhe (cg _),hfi,hse,zce (a:=se) (b:=f.num) (lgs ss (by decide) (by decide)) (lgs hn (by decide) (by decide))];rw [zhg F.p];have ec:(F.p.filter fun _=>true).map (fun a=>(a.1,a.2 * fi))=scI F.p fi:=by
  unfold scI;rw [List.filter_eq_self.mpr fun _ _=>rfl]
 refine zjd (c:=PyData.int) (b:=fun t=>true) (k:=(·.1)) (v:=fun t:List Int×Int=>t.2 * fi) (by have:=hF.ln; omega) (fun t ht ys=>?_) ?_
 ·simp_arith [zce (a:=t.2) (b:=fi) (lgs (hF.ns t ht) (by decide) (by decide)) (lgs fs (by decide) (by decide)),zoc]
 rw [ec,ztN (zlK hF.nd fi)];simp_arith;rw [zhg G.p];have gnd:=zlK hF.nd fi;refine zaR (fun bs cs ρ=>∃ o8 o9,ρ=[some (U.d (fmD F.p F.b F.r)),some (U.d (fmD G.p G.b G.r)),some (U.d (fR f)),some (U.d (PyData.int (G.b * (f.den:Int)))),some (U.d (PyData.int ((F.b.gcd (G.b * (f.den:Int)):Nat):Int))),some (U.d (PyData.int fi)),some (U.d (PyData.int (se * f.num))),some (.t (kvG PyData.int (gat (scI F.p fi) (scI bs (se * f.num))))),o8,o9]) ⟨none,none,rfl⟩ ?_ ?_
 ·rintro bs t cs _ e ⟨o8,o9,rfl⟩
  have ht:t∈G.p:=by rw [e]; simp
  have lb:bs.length+cs.length+1=G.p.length:=by rw [e,qu,qv]; omega
  have l1:=zde (scI bs (se * f.num)) (scI F.p fi);rw [zir,zir]at l1;have l2:=hF.ln;have l3:=hG.ln;have eg:gat (scI F.p fi) (scI (bs++[t]) (se * f.num))=za4 (gat (scI F.p fi) (scI bs (se * f.num))) t.1 ((look (gat (scI F.p fi) (scI bs (se * f.num))) t.1).getD 0+t.2 * (se * f.num)):=by
   unfold scI;rw [List.map_append];exact zgE _ _ _
  rw [eg];have pu:∀ x:Int,zmy (.t (kvG PyData.int (gat (scI F.p fi) (scI bs (se * f.num))))) (pwD t.1) (.int x)=some (.t (kvG PyData.int (za4 (gat (scI F.p fi) (scI bs (se * f.num))) t.1 x))):=fun x=>zod (c:=PyData.int) (by omega);have mb:=zce (a:=t.2) (b:=se * f.num) (lgs (hG.ns t ht) (by decide) (by decide)) (lgs ss2 (by decide) (by decide));cases hl:look (gat (scI F.p fi) (scI bs (se * f.num))) t.1 with
  | none =>
   simp_arith [hl,mb,pu,Option.getD_none];exact⟨_,_,rfl⟩
  | some z =>
   simp_arith [hl,mb,pu,Option.getD_some];exact⟨_,_,rfl⟩
 ·rintro _ ⟨o8,o9,rfl⟩
  have l1:=zde (scI G.p (se * f.num)) (scI F.p fi);rw [zir,zir]at l1;have l2:=hF.ln;have l3:=hG.ln;have fi0:0 < fi:=by
   rw [<-hfi,Int.fdiv_eq_ediv_of_nonneg _ (by omega)];exact Int.ediv_pos_of_pos_of_dvd be0 (by omega) (Int.gcd_dvd_right _ _)
  have b1':1<=F.b * fi:=by have:=Int.mul_pos (by omega:0 < F.b) fi0; omega
  have rr:256<=(if G.r > F.r then G.r else F.r):=by have:=hF.r1; have:=hG.r1; split<;>omega
  have s:=zgh (u:=.t (kvG .int (gat (scI F.p fi) (scI G.p (se * f.num))))) (p:=gat (scI F.p fi) (scI G.p (se * f.num))) (b:=F.b * fi) (r:=if G.r > F.r then G.r else F.r) zcg (zdE _ gnd) (by omega) b1' (Int.le_trans (zlL (by decide) hb) rr) (zt9 hb (by decide) (by decide));simp_arith [zce (a:=F.b) (b:=fi) (lgs hF.bs (by decide) (by decide)) (lgs fs (by decide) (by decide)),s];rfl
def zne(F G:Fm):Fm:=zfo (gat [] (zaD F.p G.p)) (F.b * G.b) (if G.r > F.r then G.r else F.r)
theorem zv7(acc ts us:Pq Int):gat acc (ts++us)=gat (gat acc ts) us:=List.foldl_append ..
theorem zj7{F G:Fm}{n:Nat}(hF:FZ F)(hG:FZ G)(h1:∀ t∈F.p,t.1.length=n)(h2:∀ t∈G.p,t.1.length=n)(hn:n < 64)(hb:(F.b * G.b).natAbs < 2^256)(hl:F.p.length * G.p.length < 1000) :
  zbn [.d (cF F),.d (cF G)]=some (.d (cF (zne F G)),[.d (cF F),.d (cF G)]):=by
 refine zO ?_;unfold cF zne;have Fb:=hF.b1;have Gb:=hG.b1;have l2:=hF.ln;have l3:=hG.ln;simp_arith [zbn,zdo];rw [zhg F.p];have pl:∀ bs:Pq Int,bs.length<=F.p.length->(zaD bs G.p).length < 1000:=fun bs hb=>by
  rw [zgF];exact Nat.lt_of_le_of_lt (Nat.mul_le_mul_right _ hb) hl
 refine zaR (fun bs cs ρ=>∃ o3 o4 o5 o6 o7,ρ=[some (U.d (fmD F.p F.b F.r)),some (U.d (fmD G.p G.b G.r)),some (.t (kvG PyData.int (gat [] (zaD bs G.p)))),o3,o4,o5,o6,o7]) ⟨none,none,none,none,none,rfl⟩ ?_ ?_
 ·rintro bs s cs _ e ⟨o3,o4,o5,o6,o7,rfl⟩
  have hs:s∈F.p:=by rw [e]; simp
  have lb:bs.length+cs.length+1=F.p.length:=by rw [e,qu,qv]; omega
  simp_arith;rw [zhg G.p];have epm:∀ ds:Pq Int,gat [] (zaD bs G.p++ds.map fun t=>(zaT s.1 t.1,s.2 * t.2))=gat (gat [] (zaD bs G.p)) (ds.map fun t=>(zaT s.1 t.1,s.2 * t.2)):=fun ds=>zv7 _ _ _;refine zaR (fun ds es ρ=>∃ o5 o6 o7,ρ=[some (U.d (fmD F.p F.b F.r)),some (U.d (fmD G.p G.b G.r)),some (.t (kvG PyData.int (gat [] (zaD bs G.p++ds.map fun t=>(zaT s.1 t.1,s.2 * t.2))))),some (.d (pwD s.1)),some (.d (.int s.2)),o5,o6,o7]) ⟨o5,o6,o7,by rw [List.map_nil,List.append_nil]⟩ ?_ ?_
  ·rintro ds t es _ e2 ⟨o5,o6,o7,rfl⟩
   have ht:t∈G.p:=by rw [e2]; simp
   have ld:ds.length+es.length+1=G.p.length:=by rw [e2,qu,qv]; omega
   have l1:=zde (zaD bs G.p++ds.map fun t=>(zaT s.1 t.1,s.2 * t.2)) [];rw [qu,List.length_map]at l1;have l4:=pl bs (by omega);have pp:=zjF (a:=s.1) (b:=t.1) ((h1 s hs).trans (h2 t ht).symm) (by rw [h1 s hs]; exact hn);have eg:gat [] (zaD bs G.p++(ds++[t]).map fun t=>(zaT s.1 t.1,s.2 * t.2))=za4 (gat [] (zaD bs G.p++ds.map fun t=>(zaT s.1 t.1,s.2 * t.2))) (zaT s.1 t.1) ((look (gat [] (zaD bs G.p++ds.map fun t=>(zaT s.1 t.1,s.2 * t.2))) (zaT s.1 t.1)).getD 0+s.2 * t.2):=by
    rw [List.map_append,<-List.append_assoc];exact zgE _ _ _
   rw [eg];generalize gat [] (zaD bs G.p++ds.map fun t=>(zaT s.1 t.1,s.2 * t.2))=gg at *;have pu:∀ x:Int,zmy (.t (kvG PyData.int gg)) (pwD (zaT s.1 t.1)) (.int x)=some (.t (kvG PyData.int (za4 gg (zaT s.1 t.1) x))):=fun x=>zod (c:=PyData.int) (by simp at l1; omega);have mb:=zce (a:=s.2) (b:=t.2) (lgs (hF.ns s hs) (by decide) (by decide)) (lgs (hG.ns t ht) (by decide) (by decide));cases hlk:look gg (zaT s.1 t.1)with
   | none =>
    simp_arith [pp,hlk,mb,pu,Option.getD_none];exact⟨_,_,_,rfl⟩
   | some z =>
    simp_arith [pp,hlk,mb,pu,Option.getD_some];exact⟨_,_,_,rfl⟩
  ·rintro _ ⟨o5,o6,o7,rfl⟩
   simp_arith;have:zaD (bs++[s]) G.p=zaD bs G.p++G.p.map fun t=>(zaT s.1 t.1,s.2 * t.2):=by unfold zaD; simp
   rw [this];exact⟨_,_,_,_,_,rfl⟩
 ·rintro _ ⟨o3,o4,o5,o6,o7,rfl⟩
  have l1:=zde (zaD F.p G.p) [];have l4:=pl F.p (qg _);have b1':1<=F.b * G.b:=by have:=Int.mul_pos (by omega:0 < F.b) (by omega:0 < G.b); omega
  have rr:256<=(if G.r > F.r then G.r else F.r):=by have:=hF.r1; have:=hG.r1; split<;>omega
  have s:=zgh (u:=.t (kvG .int (gat [] (zaD F.p G.p)))) (p:=gat [] (zaD F.p G.p)) (b:=F.b * G.b) (r:=if G.r > F.r then G.r else F.r) zcg (zdE _ List.nodup_nil) (by simp at l1; omega) b1' (Int.le_trans (zlL (by decide) hb) rr) (zt9 hb (by decide) (by decide));simp_arith [zce (a:=F.b) (b:=G.b) (lgs hF.bs (by decide) (by decide)) (lgs hG.bs (by decide) (by decide)),s];rfl
theorem zgZ{F:Fm}(hF:FZ F):zbu [.d (cF F)]=some (.l (tmG fR (srt (toR F.b F.p))),[.d (cF F)]):=by
 refine zO ?_;unfold cF;have l2:=hF.ln;have Fb:=hF.b1;simp_arith [zbu,zeW];rw [zhg F.p];refine zeO (e:=fun t=>.tuple [pwD t.1,fR (Rat.divInt t.2 F.b)]) (by omega) (fun t ht ys=>?_) ?_
 ·simp_arith [zfn (n:=t.2) (d:=F.b) (by omega) (zt9 hF.bs (by decide) (by decide))]
 ·have e:(F.p.map fun t=>PyData.tuple [pwD t.1,fR (Rat.divInt t.2 F.b)])=tmG fR (toR F.b F.p):=by
   unfold toR tmG;rw [List.map_map];rfl
  have nd:NdK (toR F.b F.p):=by
   unfold NdK toR;rw [List.map_map];exact hF.nd
  have st:=ztr (c:=fR) nd (by unfold toR; rw [List.length_map]; exact l2);rw [e];simp_arith [st]
def ind(k:List Int):List Int->Rat:=fun e=>if e=k then 1 else 0
theorem zho{k:List Int}:∀ {p:Pq Rat},NdK p->lin p (ind k)=(look p k).getD 0
 | [],_=>rfl
 | t::p,nd=>by
  have nd':NdK p:=(List.nodup_cons.mp nd).2
  by_cases h:t.1=k
  ·have n1:=(List.nodup_cons.mp nd).1
   have z:lin p (ind k)=0:=zik fun u hu e=>n1 (List.mem_map.mpr ⟨u,hu,e.trans h.symm⟩);rw [zS,z];have e:look (t::p) k=some t.2:=by rw [<-h]; exact zbL nd qq
   rw [e];show t.2 * (if t.1=k then 1 else 0)+0=t.2;rw [if_pos h];grind
  ·rw [zS,zho nd']
   have e:look (t::p) k=look p k:=by
    unfold look;rw [List.find?_cons_of_neg (by simpa using h)]
   rw [e];show t.2 * (if t.1=k then 1 else 0)+_=_;rw [if_neg h];grind
structure QP (n k M B:Nat) (p:Pq Rat):Prop where
 nd:NdK p
 nz:∀ t∈p,t.2≠0
 ky:∀ t∈p,Ks n k t.1/\t.1.sum=(k:Int)
 bd:PB M B p
theorem zv8{p q:Pq Rat}(h:p.Perm q)(nd:NdK q):NdK p:=by
 unfold NdK at nd ⊢;exact(h.map _).nodup_iff.mpr nd
theorem zv9(q:Pq Rat):∀ t∈L2.nz q,t.2≠0:=fun t ht=>of_decide_eq_true (List.mem_filter.mp ht).2
theorem zub{p q:Pq Rat}(n1:NdK p)(z1:∀ t∈p,t.2≠0)(n2:NdK q)(z2:∀ t∈q,t.2≠0)(h:∀ g,lin p g=lin q g):p.Perm q:=by
 have e:srt p=srt q:=zlx ⟨zdP n1,fun t ht=>z1 t ((zaS p).mem_iff.mp ht)⟩ ⟨zdP n2,fun t ht=>z2 t ((zaS q).mem_iff.mp ht)⟩ fun g=>by rw [zcn (zaS p),zcn (zaS q),h]
 exact(zaS p).symm.trans (e▸zaS q)
section
variable {n k l M N B C:Nat} {p q:Pq Rat} {f:Rat}
theorem QP.perm(h:QP n k M B p)(e:q.Perm p):QP n k M B q:=⟨zv8 e h.nd,fun t ht=>h.nz t (e.mem_iff.mp ht),fun t ht=>h.ky t (e.mem_iff.mp ht),fun t ht=>h.bd t (e.mem_iff.mp ht)⟩
theorem QP.le(h:QP n k M B p)(c:B<=C):QP n k M C p:=⟨h.nd,h.nz,h.ky,fun t ht=>(h.bd t ht).le c⟩
theorem QP.wide(h:QP n k M B p)(c:Nat):QP n k (M * c) (B * c) p:=⟨h.nd,h.nz,h.ky,fun t ht=>(h.bd t ht).wide c⟩
theorem QP.nil:QP n k M B []:=⟨List.nodup_nil,fun t h=>(by cases h),fun t h=>(by cases h),fun t h=>(by cases h)⟩
theorem QP.at(h:QP n k M B p)(e:List Int):Bd M B (lin p (ind e)):=by
 rw [zho h.nd];exact zfb h.bd e
theorem QP.add(hp:QP n k M B p)(hq:QP n k M C q):QP n k M (B+C) (L2.nz (gat p q)):=by
 have nd:NdK (gat p q):=zdE q hp.nd;refine⟨zpG nd,zv9 _,fun t ht=>zi8 (Pk:=fun e=>Ks n k e/\e.sum=(k:Int)) q hp.ky hq.ky t (List.mem_filter.mp ht).1,fun t ht=>?_⟩;have e:t.2=lin p (ind t.1)+lin q (ind t.1):=by
  rw [<-zeb q _ hp.nd,zho nd,zbL nd (List.mem_filter.mp ht).1];rfl
 rw [e];exact(hp.at _).add (hq.at _)
def zdH(p:Pq Rat)(f:Rat):Pq Rat:=p.map fun t=>(t.1,t.2 * f)
theorem zwa(p:Pq Rat)(f:Rat)(g:List Int->Rat):lin (zdH p f) g=f * lin p g:=by
 unfold zdH
 induction p with
 | nil=>rw [List.map_nil,zby,Rat.mul_zero]
 | cons t p ih =>
  rw [List.map_cons,zS,zS,ih];grind
theorem QP.scl(hp:QP n k M B p)(hf:Bd N C f)(f0:f≠0):QP n k (M * N) (B * C) (zdH p f):=by
 refine⟨?_,fun t ht=>?_,fun t ht=>?_,fun t ht=>?_⟩
 ·unfold NdK zdH
  rw [List.map_map];exact hp.nd
 all_goals obtain⟨u,hu,rfl⟩:=List.mem_map.mp ht
 ·exact fun z=>(Rat.mul_eq_zero.mp z).elim (hp.nz u hu) f0
 ·exact hp.ky u hu
 ·exact(hp.bd u hu).mul hf
theorem QP.mul(hp:QP n k M B p)(hq:QP n l N C q):QP n (k+l) (M * N) (p.length * q.length * (B * C)) (L2.nz (gat [] (zaD p q))):=by
 refine⟨zpG (zdE _ List.nodup_nil),zv9 _,fun t ht=>?_,fun t ht=>?_⟩
 ·refine zi8 (Pk:=fun e=>Ks n (k+l) e/\e.sum=((k+l:Nat):Int)) (zaD p q) (fun t h=>by cases h) (fun t ht=>?_) t (List.mem_filter.mp ht).1
  obtain⟨u,hu,v,hv,rfl⟩:=zly ht;obtain⟨a,b⟩:=hp.ky u hu;obtain⟨c,d⟩:=hq.ky v hv;refine⟨a.add c,?_⟩;show(zaT u.1 v.1).sum=_;rw [zjB (a.ln.trans c.ln.symm),b,d];omega
 ·have:=zn9 (zaD p q) (C:=0) pb0 (zvO hp.bd hq.bd) t (List.mem_filter.mp ht).1
  rw [zgF,Nat.zero_add]at this;exact this
def zuc(n k:Nat):List (List Int):=(zj6 n k).filter fun a=>decide (a.sum=(k:Int))
theorem QP.len(h:QP n k M B p):p.length<=(zuc n k).length:=by
 have:=List.Nodup.length_le_of_subset h.nd (l₂:=zuc n k) fun x hx=>by
  obtain⟨t,ht,rfl⟩:=List.mem_map.mp hx;obtain⟨a,b⟩:=h.ky t ht;exact List.mem_filter.mpr ⟨zpX a,decide_eq_true b⟩
 rw [List.length_map]at this;exact this
end
theorem zA2:∀ n∈[1,2,3],∀ k∈List.range 7,∀ l∈List.range 7,k+l<=dpO n->(zuc n k).length<=15/\(zuc n k).length * (zuc n l).length<=36:=by decide +kernel
theorem zlM{n k l M N B C:Nat}{p q:Pq Rat}(n1:1<=n)(n3:n<=3)(hp:QP n k M B p)(hq:QP n l N C q)(h:k+l<=dpO n):p.length * q.length<=36:=by
 obtain⟨_,d6⟩:=dp6 (n:=n);have mn:n∈[1,2,3]:=by rcases(by omega:n=1\/n=2\/n=3)with rfl | rfl | rfl<;>decide
 exact qA (Nat.mul_le_mul hp.len hq.len) (zA2 n mn k (List.mem_range.mpr (by omega)) l (List.mem_range.mpr (by omega)) h).2
theorem zgi{n k M B:Nat}{p:Pq Rat}(n1:1<=n)(n3:n<=3)(hp:QP n k M B p)(h:k<=dpO n):p.length<=15:=by
 obtain⟨_,d6⟩:=dp6 (n:=n);have mn:n∈[1,2,3]:=by rcases(by omega:n=1\/n=2\/n=3)with rfl | rfl | rfl<;>decide
 exact qA hp.len (zA2 n mn k (List.mem_range.mpr (by omega)) 0 (by decide) (by omega)).1
def znf(F:Fm)(h:List Int->Rat):Rat:=lin (toR F.b F.p) h
theorem zud{M B:Nat}{x b:Int}(h:Bd M B (Rat.divInt x b))(b1:1<=b)(dv:b∣(M:Int))(hM:0 < M):x.natAbs<=B:=by
 obtain⟨k,e,hk⟩:=h;obtain⟨c,hc⟩:=dv;have e2:(k:Rat)=((x * c:Int):Rat):=by
  rw [<-e,show((M:Nat):Rat)=((M:Int):Rat) from rfl,hc,Rat.intCast_mul,Rat.intCast_mul,Rat.divInt_eq_div];have:(b:Rat)≠0:=fun z=>by
   have:b=0:=by exact_mod_cast z
   omega
  grind
 have e3:k=x * c:=by exact_mod_cast e2
 have c0:c≠0:=fun z=>by rw [z,Int.mul_zero]at hc; omega
 rw [e3,Int.natAbs_mul]at hk;have:1<=c.natAbs:=by omega
 exact qA (Nat.le_mul_of_pos_right _ this) hk
section
variable {n:Nat} {F G:Fm}
theorem zA3{x y:Nat}(h:x < y):2^x < 2^y:=Nat.pow_lt_pow_right (by decide) h
theorem zjG{p:Pq Int}{b r:Int}(hb:b≠0)(h:List Int->Rat):znf (zfo p b r) h=lin (toR b p) h:=by
 unfold zfo znf;rw [<-zlw (toR b p) h,show(toR b p).filter (fun t=>decide (t.2≠0))=toR b (p.filter fun t=>!decide (t.2=0)) from zzg hb p];split
 ·rename_i z
  have e2:(p.filter fun t=>!decide (t.2=0))=[]:=by simpa using z
  rw [e2];rfl
 ·rfl
theorem zov{c:Int}{p:Pq Int}(h:NdK p):NdK (toR c p):=by
 unfold NdK toR;rw [List.map_map];exact h
theorem zue{c:Int}(hc:c≠0)(acc ts:Pq Int):toR c (gat acc ts)=gat (toR c acc) (toR c ts):=zpI (fun k=>Rat.divInt k c) (Rat.zero_divInt c) (fun a b=>by
 rw [Rat.divInt_add_divInt _ _ hc hc,<-Int.add_mul,Rat.divInt_mul_right hc]) ts acc
theorem zfg{A X:Int}(hA:1<=A)(hX:1<=X):1<=X.fdiv (Int.gcd A X:Nat)/\X.fdiv (Int.gcd A X:Nat) * (Int.gcd A X:Nat)=X/\A.fdiv (Int.gcd A X:Nat) * (Int.gcd A X:Nat)=A/\(0:Int) < (Int.gcd A X:Nat):=by
 have g0:(0:Int) < (Int.gcd A X:Nat):=by exact_mod_cast Int.gcd_pos_of_ne_zero_left _ (by omega)
 rw [Int.fdiv_eq_ediv_of_nonneg _ (by omega),Int.fdiv_eq_ediv_of_nonneg _ (by omega)];refine⟨?_,Int.ediv_mul_cancel (Int.gcd_dvd_right _ _),Int.ediv_mul_cancel (Int.gcd_dvd_left _ _),g0⟩;exact Int.ediv_pos_of_pos_of_dvd (by omega) (by omega) (Int.gcd_dvd_right _ _)
theorem sc1{p:Pq Int}{b c:Int}(hb:b≠0)(hc:c≠0):toR (b * c) (scI p c)=toR b p:=by
 unfold toR scI;rw [List.map_map];refine List.map_congr_left fun t _=>?_;show(t.1,Rat.divInt (t.2 * c) (b * c))=_;rw [Rat.divInt_mul_right hc]
theorem sc2{p:Pq Int}{b c d s:Int}{f:Rat}(h:∀ x:Int,Rat.divInt (x * s) (b * c)=f * Rat.divInt x d):toR (b * c) (scI p s)=(toR d p).map fun t=>(t.1,f * t.2):=by
 unfold toR scI;rw [List.map_map,List.map_map];refine List.map_congr_left fun t _=>?_;show(t.1,Rat.divInt (t.2 * s) (b * c))=(t.1,f * Rat.divInt t.2 d);rw [h]
theorem zuf(f:Rat)(p:Pq Rat)(h:List Int->Rat):lin (p.map fun t=>(t.1,f * t.2)) h=f * lin p h:=by
 induction p with
 | nil=>rw [List.map_nil,zby,Rat.mul_zero]
 | cons t p ih =>
  rw [List.map_cons,zS,zS,ih];grind
theorem zzB{A d:Int}{f:Rat}(hA:1<=A)(hd:1<=d)(x:Int) :
  Rat.divInt (x * (A.fdiv (Int.gcd A (d * f.den):Nat) * f.num)) (A * (d * f.den).fdiv (Int.gcd A (d * f.den):Nat))=f * Rat.divInt x d:=by
 have d1:=zhY f;have X1:1<=d * (f.den:Int):=by have:=Int.mul_pos (by omega:0 < d) (by omega:(0:Int) < f.den); omega
 obtain⟨h1,h2,h3,h4⟩:=zfg hA X1;generalize (d * (f.den:Int)).fdiv (Int.gcd A (d * f.den):Nat)=fi at *;generalize A.fdiv (Int.gcd A (d * f.den):Nat)=se at *;generalize ((Int.gcd A (d * f.den):Nat):Int)=g at *;have hf:f * (f.den:Rat)=(f.num:Rat):=zi7 f;have q1:((A * fi:Int):Rat)≠0:=fun z=>by
  have z:A * fi=0:=by exact_mod_cast z
  have:=Int.mul_pos (by omega:0 < A) (by omega:0 < fi);omega
 have q2:(d:Rat)≠0:=fun z=>by
  have z:d=0:=by exact_mod_cast z
  omega
 have q3:(g:Rat)≠0:=fun z=>by
  have z:g=0:=by exact_mod_cast z
  omega
 have r2:(fi:Rat) * (g:Rat)=(d:Rat) * ((f.den:Int):Rat):=by rw [<-Rat.intCast_mul,<-Rat.intCast_mul,h2]
 have r3:(se:Rat) * (g:Rat)=(A:Rat):=by rw [<-Rat.intCast_mul,h3]
 have hf':f * ((f.den:Int):Rat)=(f.num:Rat):=hf;rw [Rat.divInt_eq_div,Rat.divInt_eq_div];rw [Rat.intCast_mul,Rat.intCast_mul];rw [Rat.intCast_mul]at q1 ⊢;grind
theorem zwb(nF:NdK F.p)(bF:1<=F.b)(hG:1<=G.b){f:Rat}(h:List Int->Rat):znf (zh6 F G f) h=znf F h+f * znf G h:=by
 have d1:=zhY f;have X1:1<=G.b * (f.den:Int):=by have:=Int.mul_pos (by omega:0 < G.b) (by omega:(0:Int) < f.den); omega
 obtain⟨h1,h2,h3,h4⟩:=zfg bF X1;have A1:=bF;have c0:F.b * (G.b * (f.den:Int)).fdiv (Int.gcd F.b (G.b * f.den):Nat)≠0:=by
  have:=Int.mul_pos (by omega:0 < F.b) (by omega:0 < (G.b * (f.den:Int)).fdiv (Int.gcd F.b (G.b * f.den):Nat));omega
 unfold zh6;rw [zjG c0,zue c0,zeb _ _ (zov (zlK nF _)),sc1 (by omega) (by omega),sc2 (zzB bF hG),zuf];rfl
theorem zow{A X:Int}{M:Nat}(hA:1<=A)(hX:1<=X)(h1:A∣(M:Int))(h2:X∣(M:Int)):A * X.fdiv (Int.gcd A X:Nat)∣(M:Int):=by
 obtain⟨f1,f2,f3,f4⟩:=zfg hA hX;have e:A * X.fdiv (Int.gcd A X:Nat)=(Int.lcm A X:Nat):=by
  have hg:=Int.gcd_mul_lcm A X;have hg':((Int.gcd A X:Nat):Int) * ((Int.lcm A X:Nat):Int)=A * X:=by
   rw [<-Int.natCast_mul,hg];have:=Int.mul_pos (by omega:0 < A) (by omega:0 < X)
   first | exact Int.natAbs_of_nonneg (Int.le_of_lt this) | (rw [<-Int.natAbs_mul]; exact Int.natAbs_of_nonneg (Int.le_of_lt this))
  refine Int.eq_of_mul_eq_mul_left (a:=((Int.gcd A X:Nat):Int)) (by omega) ?_;rw [hg',Int.mul_left_comm,Int.mul_comm _ (X.fdiv _),f2]
 rw [e];exact Int.natCast_dvd_natCast.mpr (Int.lcm_dvd h1 h2)
theorem zox{p:Pq Int}{b r:Int}(b1:1<=b)(r1:256<=r)(nd:NdK p):1<=(zfo p b r).b/\256<=(zfo p b r).r/\NdK (zfo p b r).p/\(∀ t∈(zfo p b r).p,t.2≠0)/\(zfo p b r).b∣b:=by
 unfold zfo;split
 ·exact⟨by decide,by decide,List.nodup_nil,fun t h=>(by cases h),Int.one_dvd b⟩
 ·exact⟨b1,r1,zkJ nd _,fun t h=>by simpa using (List.mem_filter.mp h).2,Int.dvd_refl b⟩
theorem zug{b c:Int}(hb:b≠0)(hc:c≠0)(p q:Pq Int):toR (b * c) (zaD p q)=zaD (toR b p) (toR c q):=by
 unfold toR zaD;rw [List.map_flatMap,List.flatMap_map];refine congrArg (fun g=>List.flatMap g p) (funext fun s=>?_);rw [List.map_map,List.map_map];refine List.map_congr_left fun t _=>?_;show(zaT s.1 t.1,Rat.divInt (s.2 * t.2) (b * c))=(zaT s.1 t.1,Rat.divInt s.2 b * Rat.divInt t.2 c);rw [Rat.divInt_mul_divInt]
theorem zwc(bF:1<=F.b)(bG:1<=G.b)(h:List Int->Rat):znf (zne F G) h=lin (zaD (toR F.b F.p) (toR G.b G.p)) h:=by
 have c0:F.b * G.b≠0:=by
  have:=Int.mul_pos (by omega:0 < F.b) (by omega:0 < G.b);omega
 unfold zne;rw [zjG c0,zvQ (by omega),zeb _ _ (show NdK [] from List.nodup_nil),zby,Rat.zero_add,zug (by omega) (by omega)]
end
structure FP (D:Nat) (p:Pq Rat) (F:Fm):Prop where
 nd:NdK F.p
 nz:∀ t∈F.p,t.2≠0
 b1:1<=F.b
 r1:256<=F.r
 dv:F.b∣(D:Int)
 pm:(toR F.b F.p).Perm p
theorem zpZ{b:Int}{p:Pq Int}(b1:1<=b)(h:∀ t∈p,t.2≠0):∀ t∈toR b p,t.2≠0:=fun s hs=>by
 obtain⟨u,hu,rfl⟩:=List.mem_map.mp hs;intro z;have z:Rat.divInt u.2 b=0:=z;rw [Rat.divInt_eq_div]at z;have hb:(b:Rat)≠0:=fun q=>by
  have q:b=0:=by exact_mod_cast q
  omega
 have z2:(u.2:Rat)=0:=by grind
 exact h u hu (by exact_mod_cast z2)
section
variable {n k l M N B C D E:Nat} {p q:Pq Rat} {F G:Fm} {f:Rat}
theorem FP.of(nd:NdK F.p)(nz:∀ t∈F.p,t.2≠0)(b1:1<=F.b)(r1:256<=F.r)(dv:F.b∣(D:Int))(np:NdK p)(zp:∀ t∈p,t.2≠0)(h:∀ g,znf F g=lin p g):FP D p F :=
 ⟨nd,nz,b1,r1,dv,zub (zov nd) (zpZ b1 nz) np zp h⟩
theorem FP.lin(h:FP D p F)(g:List Int->Rat):znf F g=L2.lin p g:=zcn h.pm g
theorem FP.fz(h:FP M p F)(hp:QP n k M B p)(ln:p.length<=40)(hM:M < 2^256)(M0:0 < M)(hB:B < 2^3000):FZ F:=by
 have le:=Int.le_of_dvd (by omega) h.dv;have b1:=h.b1;refine⟨h.nd,?_,h.b1,?_,fun t ht=>?_,h.r1⟩
 ·have:=h.pm.length_eq
  unfold toR at this;rw [List.length_map]at this;omega
 ·refine Nat.lt_of_le_of_lt (show F.b.natAbs<=M by omega) (Nat.lt_trans hM (Nat.pow_lt_pow_right (by decide) (by decide)))
 ·refine Nat.lt_of_le_of_lt (zud (M:=M) (B:=B) ?_ h.b1 h.dv M0) hB
  exact hp.bd _ (h.pm.mem_iff.mp (List.mem_map.mpr ⟨t,ht,rfl⟩))
theorem FP.sum(hF:FP D p F)(hG:FP E q G)(hd:G.b * (f.den:Int)∣(D:Int)){s:Pq Rat}(ns:NdK s)(zs:∀ t∈s,t.2≠0)(hs:∀ g,L2.lin s g=L2.lin p g+f * L2.lin q g):FP D s (zh6 F G f):=by
 have d1:=zhY f;have G1:=hG.b1;have F1:=hF.b1;have X1:1<=G.b * (f.den:Int):=by have:=Int.mul_pos (by omega:0 < G.b) (by omega:(0:Int) < f.den); omega
 obtain⟨h1,h2,h3,h4⟩:=zfg hF.b1 X1;have c1:1<=F.b * (G.b * (f.den:Int)).fdiv (Int.gcd F.b (G.b * f.den):Nat):=by
  have:=Int.mul_pos (by omega:0 < F.b) (by omega:0 < (G.b * (f.den:Int)).fdiv (Int.gcd F.b (G.b * f.den):Nat));omega
 have dv:=zow hF.b1 X1 hF.dv hd;have rr:256<=(if G.r > F.r then G.r else F.r):=by have:=hF.r1; have:=hG.r1; split<;>omega
 have sl:=fun g=>zwb (F:=F) (G:=G) (f:=f) hF.nd hF.b1 hG.b1 g;obtain⟨a,b,c,d,e⟩:=zox (p:=gat (scI F.p ((G.b * f.den).fdiv (Int.gcd F.b (G.b * f.den):Nat))) (scI G.p (F.b.fdiv (Int.gcd F.b (G.b * f.den):Nat) * f.num))) c1 rr (zdE _ (zlK hF.nd _));refine FP.of (F:=zh6 F G f) c d a b (Int.dvd_trans e dv) ns zs fun g=>?_;rw [sl g,hF.lin,hG.lin,hs]
theorem FP.tim(hF:FP D p F)(hG:FP E q G)(np:NdK p):FP (D * E) (L2.nz (gat [] (zaD p q))) (zne F G):=by
 have G1:=hG.b1;have F1:=hF.b1;have c1:1<=F.b * G.b:=by have:=Int.mul_pos (by omega:0 < F.b) (by omega:0 < G.b); omega
 have rr:256<=(if G.r > F.r then G.r else F.r):=by have:=hF.r1; have:=hG.r1; split<;>omega
 have tl:=fun g=>zwc (F:=F) (G:=G) hF.b1 hG.b1 g;obtain⟨a,b,c,d,e⟩:=zox (p:=gat [] (zaD F.p G.p)) c1 rr (zdE _ List.nodup_nil);refine FP.of (F:=zne F G) c d a b (Int.dvd_trans e ?_) (zpG (zdE _ List.nodup_nil)) (zv9 _) fun g=>?_
 ·rw [Int.natCast_mul]
  exact Int.mul_dvd_mul hF.dv hG.dv
 ·rw [tl g,show L2.lin (L2.nz (gat [] (zaD p q))) g=L2.lin (gat [] (zaD p q)) g from zlw _ g,zeb _ g (show NdK [] from List.nodup_nil),zby,Rat.zero_add,zpH,zpH,zcn hF.pm]
  exact zqI fun t _=>zcn hG.pm _
end
abbrev QN(n k j:Nat)(p:Pq Rat):Prop:=QP n k (12^(k * j)) (2^(34 * (k * j))) p
abbrev FN(k j:Nat)(p:Pq Rat)(F:Fm):Prop:=FP (12^(k * j)) p F
theorem zp0(d:Nat):12^d<=2^(4 * d):=by rw [Nat.pow_mul]; exact Nat.pow_le_pow_left (by decide) d
section
variable {n k l i j M B D:Nat} {p q:Pq Rat} {F G:Fm} {f:Rat}
theorem QP.to(h:QP n k (12^i) (2^l) p)(hi:i<=k * j)(hl:l+4 * (k * j - i)<=34 * (k * j)):QN n k j p:=by
 obtain⟨d,hd⟩:=Nat.exists_eq_add_of_le hi;have w:=h.wide (12^d);rw [<-Nat.pow_add,<-hd]at w;refine w.le (qA (Nat.mul_le_mul_left _ (zp0 d)) ?_);rw [<-Nat.pow_add];exact Nat.pow_le_pow_right (by decide) (by omega)
theorem QN.up(h:QN n k i p)(hij:i<=j):QN n k j p:=by
 have e:=Nat.mul_le_mul_left k hij;exact h.to e (by omega)
theorem FP.up{E:Nat}(h:FP D p F)(hd:D∣E):FP E p F:=⟨h.nd,h.nz,h.b1,h.r1,Int.dvd_trans h.dv (Int.natCast_dvd_natCast.mpr hd),h.pm⟩
theorem FN.up(h:FN k i p F)(hij:i<=j):FN k j p F:=FP.up h (Nat.pow_dvd_pow 12 (Nat.mul_le_mul_left k hij))
def zzC(n m:Nat):Pq Rat:=[(zgY n m,1)]
def leF(n m:Nat):Fm:=⟨[(zgY n m,1)],1,256⟩
theorem zng{n j:Nat}:(zgY n j).sum=1:=by
 unfold zgY;simp
theorem zwd{n j:Nat}(hj:j < n):Ks n 1 (zgY n j):=⟨zt4 hj,fun k hk=>(zt5 k hk).1,by rw [zng]; decide⟩
theorem zwe{m:Nat}(hm:m < n):QN n 1 j (zzC n m):=by
 refine QP.to (i:=0) (l:=0) ⟨nd1,fun t ht=>?_,fun t ht=>?_,fun t ht=>?_⟩ (Nat.zero_le _) (by omega)
 all_goals cases qr.mp ht
 ·exact(by decide:(1:Rat)≠0)
 ·exact⟨zwd hm,zng⟩
 ·exact Bd.one
theorem di1:Rat.divInt 1 1=1:=by decide
theorem zzD{m:Nat}:FN 1 j (zzC n m) (leF n m):=⟨zt8,fun t ht=>(by cases qr.mp ht; exact Int.one_ne_zero),Int.le_refl 1,Int.le_refl 256,Int.one_dvd _,by
 show(toR 1 [(zgY n m,1)]).Perm [(zgY n m,1)];unfold toR;rw [List.map_cons,List.map_nil,di1]⟩
def zwf(p q:Pq Rat):Pq Rat:=L2.nz (gat [] (zaD p q))
theorem zwg(n1:1<=n)(n3:n<=3)(k1:1<=k)(hp:QN n k i p)(hq:QN n l i q)(h:k+l<=dpO n):QN n (k+l) (i+1) (zwf p q):=by
 have m:=QP.mul hp hq;rw [<-Nat.pow_add,<-Nat.pow_add]at m;have ln:=zlM n1 n3 hp hq h;have m2:QP n (k+l) (12^(k * i+l * i)) (2^(6+(34 * (k * i)+34 * (l * i)))) (zwf p q):=m.le (by
  rw [Nat.pow_add 2 6];exact Nat.mul_le_mul_right _ (qA ln (by decide)))
 have e1:(k+l) * (i+1)=k * i+l * i+(k+l):=by rw [Nat.mul_succ,Nat.add_mul]
 exact m2.to (by omega) (by omega)
theorem zwh(hp:QN n k i p)(hF:FN k i p F)(hG:FN l i q G):FN (k+l) (i+1) (zwf p q) (zne F G):=by
 have t:=FP.tim hF hG hp.nd;rw [<-Nat.pow_add]at t;exact t.up (Nat.pow_dvd_pow 12 (by rw [Nat.mul_succ,Nat.add_mul]; omega))
end
abbrev Pt:=Rat×Pq Rat×Fm
def zh7(T:Pq Rat)(xs:List Pt):Pq Rat:=xs.foldl (fun T x=>L2.nz (gat T (zdH x.2.1 x.1))) T
def zj8(T:Fm)(xs:List Pt):Fm:=xs.foldl (fun T x=>zh6 T x.2.2 x.1) T
structure PtO (n k i:Nat) (x:Pt):Prop where
 fg:Fg x.1
 qn:QN n k i x.2.1
 fn:FN k i x.2.1 x.2.2
abbrev mM(k i:Nat):Nat:=12^(k * i) * 12
abbrev mB(k i:Nat):Nat:=2^(34 * (k * i)) * 12000000
theorem zuh{n k i c:Nat}{T:Pq Rat}{G:Fm}{x:Pt}(hx:PtO n k i x)(hT:QP n k (mM k i) (c * mB k i) T)(hG:FP (mM k i) T G) :
  QP n k (mM k i) ((c+1) * mB k i) (L2.nz (gat T (zdH x.2.1 x.1)))/\FP (mM k i) (L2.nz (gat T (zdH x.2.1 x.1))) (zh6 G x.2.2 x.1):=by
 have s:=hx.qn.scl hx.fg.bd hx.fg.nz;have a:=hT.add s;rw [show c * mB k i+2^(34 * (k * i)) * 12000000=(c+1) * mB k i by rw [Nat.add_mul,Nat.one_mul]]at a;refine⟨a,FP.sum hG hx.fn ?_ a.nd a.nz fun g=>?_⟩
 ·rw [Int.natCast_mul]
  exact Int.mul_dvd_mul hx.fn.dv (by exact_mod_cast hx.fg.bd.dvd)
 ·rw [show lin (L2.nz (gat T (zdH x.2.1 x.1))) g=lin (gat T (zdH x.2.1 x.1)) g from zlw _ g,zeb _ g hT.nd,zwa]
theorem zis{n k i:Nat}:∀ (xs:List Pt) {c:Nat} {T:Pq Rat} {G:Fm},(∀ x∈xs,PtO n k i x)->QP n k (mM k i) (c * mB k i) T->FP (mM k i) T G->QP n k (mM k i) ((c+xs.length) * mB k i) (zh7 T xs)/\FP (mM k i) (zh7 T xs) (zj8 G xs)
 | [],c,T,G,_,hT,hG=>⟨hT,hG⟩
 | x::xs,c,T,G,hx,hT,hG=>by
  obtain⟨a,b⟩:=zuh (hx x qq) hT hG;have:=zis xs (fun y hy=>hx y (qp _ hy)) a b;rw [qv,show c+(xs.length+1)=c+1+xs.length by omega];exact this
def nof:Fm:=⟨[],1,256⟩
theorem zoy{D:Nat}:FP D [] nof:=⟨List.nodup_nil,fun t h=>(by cases h),by decide,by decide,Int.one_dvd _,.nil⟩
theorem zzE{n k i:Nat}{xs:List Pt}(k1:1<=k)(hx:∀ x∈xs,PtO n k i x)(hl:xs.length<=20):QN n k (i+1) (zh7 [] xs)/\FN k (i+1) (zh7 [] xs) (zj8 nof xs):=by
 obtain⟨a,b⟩:=zis xs (c:=0) (T:=[]) (G:=nof) hx QP.nil zoy;rw [Nat.zero_add]at a;have e0:mM k i=12^(k * i+1):=(Nat.pow_succ ..).symm;have e1:k * (i+1)=k * i+k:=Nat.mul_succ k i;have a2:QP n k (12^(k * i+1)) (2^(28+34 * (k * i))) (zh7 [] xs):=by
  rw [<-e0];refine a.le ?_;rw [Nat.pow_add];show xs.length * (2^(34 * (k * i)) * 12000000)<=_;rw [Nat.mul_comm (2^(34 * (k * i))) 12000000,<-Nat.mul_assoc];exact Nat.mul_le_mul_right _ (qA (Nat.mul_le_mul_right _ hl) (by decide))
 refine⟨a2.to (by omega) (by omega),b.up ?_⟩;rw [e0];exact Nat.pow_dvd_pow 12 (by omega)
end K32
open PySem L2
namespace K32
open PySem L2
abbrev Nx:=Pq Rat×Fm
abbrev no:Nx:=([],nof)
def pts(qs:List Nx)(prs:List P2):List Pt:=prs.map fun x=>(x.1,qs.getD x.2 no)
def zhV(n:Nat)(qs:List Nx):Nod->Nx
 | .lt m=>(zzC n m,leF n m)
 | .mx prs=>(zh7 [] (pts qs prs),zj8 nof (pts qs prs))
 | .tm i j=>(zwf (qs.getD i no).1 (qs.getD j no).1,zne (qs.getD i no).2 (qs.getD j no).2)
def zcq(n:Nat)(ns:List Nod):List Nx:=ns.foldl (fun qs nod=>qs++[zhV n qs nod]) []
structure XO (n:Nat) (hs:List Int) (qs:List Nx):Prop where
 ln:qs.length=hs.length
 ok:∀ i,i < hs.length->1<=hs.getD i 0/\hs.getD i 0<=(dpO n:Int)/\QN n (hs.getD i 0).toNat i (qs.getD i no).1/\FN (hs.getD i 0).toNat i (qs.getD i no).1 (qs.getD i no).2
section
variable {n:Nat} {hs:List Int} {qs:List Nx}
theorem zoz{k:Int}{prs:List P2}{j:Nat}(h:XO n hs qs)(hj:hs.length=j+1)(hp:∀ p∈prs,Fg p.1/\p.2 < hs.length/\hs.getD p.2 0=k):∀ x∈pts qs prs,PtO n k.toNat j x:=fun x hx=>by
 obtain⟨p,hp',rfl⟩:=List.mem_map.mp hx;obtain⟨a,b,c⟩:=hp p hp';obtain⟨_,_,q,f⟩:=h.ok p.2 b;rw [c]at q f;exact⟨a,q.up (by omega),f.up (by omega)⟩
theorem zui{k:Int}{nod:Nod}(n1:1<=n)(n3:n<=3)(h:XO n hs qs)(ok:zfV n (dpO n) hs k nod)(k1:1<=k)(kd:k<=(dpO n:Int)):QN n k.toNat hs.length (zhV n qs nod).1/\FN k.toNat hs.length (zhV n qs nod).1 (zhV n qs nod).2:=by
 cases nod with
 | lt m =>
  obtain⟨hm,rfl⟩:=ok;exact⟨zwe hm,zzD⟩
 | mx prs =>
  obtain⟨h1,h2,h3,_⟩:=ok
  match prs,h1,h2,h3 with
  | p::prs,_,h2,h3 =>
   obtain⟨_,a,_⟩:=h3 p qq;obtain⟨j,hj⟩:∃ j,hs.length=j+1:=⟨hs.length - 1,by omega⟩;have:=zzE (by omega) (zoz h hj h3) (by unfold pts; rw [List.length_map]; exact h2);rw [hj];exact this
 | tm a b =>
  obtain⟨ha,hb,_,hk,_⟩:=ok;obtain⟨a1,a2,qa,fa⟩:=h.ok a ha;obtain⟨b1,b2,qb,fb⟩:=h.ok b hb;obtain⟨j,hj⟩:∃ j,hs.length=j+1:=⟨hs.length - 1,by omega⟩;have e:k.toNat=(hs.getD a 0).toNat+(hs.getD b 0).toNat:=by omega
  rw [hj,e];have qa':=QN.up (j:=j) qa (by omega);have qb':=QN.up (j:=j) qb (by omega);exact⟨zwg n1 n3 (by omega) qa' qb' (by omega),zwh qa' (FN.up (j:=j) fa (by omega)) (FN.up (j:=j) fb (by omega))⟩
theorem XO.snoc{k:Int}{nod:Nod}(n1:1<=n)(n3:n<=3)(h:XO n hs qs)(ok:zfV n (dpO n) hs k nod)(k1:1<=k)(kd:k<=(dpO n:Int)):XO n (hs++[k]) (qs++[zhV n qs nod]):=by
 refine⟨by rw [qu,qu,h.ln]; rfl,fun i hi=>?_⟩;rcases Nat.lt_or_ge i hs.length with z | z
 ·rw [zos z,zos (by rw [h.ln]; exact z)]
  exact h.ok i z
 ·rw [qu,List.length_singleton]at hi
  have e:i=hs.length:=by omega
  subst e;have e2:(qs++[zhV n qs nod]).getD hs.length no=zhV n qs nod:=by rw [<-h.ln]; exact zot
  rw [zot,e2];exact⟨k1,kd,zui n1 n3 h ok k1 kd⟩
end
theorem zhp{n:Nat}{ns:List Nod}{i:Nat}{nod:Nod}(e:ns[i]?=some nod):zcq n (ns.take (i+1))=zcq n (ns.take i)++[zhV n (zcq n (ns.take i)) nod]:=by
 unfold zcq;rw [List.take_succ,e,List.foldl_append];rfl
theorem zlN{N:Net}(h:NO N):∀ i,i<=N.ns.length->XO N.ls.length (N.hs.take i) (zcq N.ls.length (N.ns.take i)):=by
 intro i
 induction i with
 | zero=>exact fun _=>⟨rfl,fun j hj=>by simp at hj⟩
 | succ i ih =>
  intro hi;have ln:=h.gn.ln;have ok:=h.gn.ok i _ (qo (show i < N.ns.length by omega));obtain⟨a,b⟩:=h.gn.hi dp6.1 i (by omega);have:=(ih (by omega)).snoc h.n1 h.n3 ok a b;rw [zhp (qo (show i < N.ns.length by omega))];have e2:N.hs.take i++[N.hs.getD i 0]=N.hs.take (i+1):=by
   rw [List.take_succ,qC,qo (show i < N.hs.length by omega)];rfl
  rw [e2]at this;exact this
theorem m66{e:Nat}(h:e<=67):12^e < 2^256:=Nat.lt_of_le_of_lt (Nat.pow_le_pow_right (by decide) h) (by decide)
theorem zqS{n k j:Nat}(hk:k<=dpO n)(hj:j<=11):k * j<=66:=by
 have:=(dp6 (n:=n)).2;exact qA (Nat.mul_le_mul (qA hk this) hj) (by decide)
theorem zit{n k j:Nat}{x:Nx}(n1:1<=n)(n3:n<=3)(hk:k<=dpO n)(hj:j<=11)(q:QN n k j x.1)(f:FN k j x.1 x.2):FZ x.2:=by
 have e:=zqS hk hj;exact f.fz q (qA (zgi n1 n3 q hk) (by decide)) (m66 (by omega)) (Nat.pow_pos (by decide)) (zA3 (by omega))
theorem FP.kl{n k M B D:Nat}{p:Pq Rat}{F:Fm}(f:FP D p F)(q:QP n k M B p):∀ t∈F.p,t.1.length=n:=fun t ht=>(q.ky _ (f.pm.mem_iff.mp (List.mem_map.mpr ⟨t,ht,rfl⟩))).1.ln
end K32
open PySem L2
namespace K32
open PySem L2
abbrev fD(x:Nx):D:=cF x.2
theorem znh{qs:List Nx}{g:Nx->D}{i:Nat}(h:i < qs.length):atI (qs.map g) (i:Int)=some (g (qs.getD i no)):=by
 unfold atI;rw [show ixN (qs.map g).length (i:Int)=some i by unfold ixN; simp [h]];show(qs.map g)[i]?=_;rw [List.getElem?_map,qC,qo h];rfl
theorem zuj{qs:List Nx}{bs:List P2}{p:P2}{T:Fm}:zj8 T (pts qs (bs++[p]))=zh6 (zj8 T (pts qs bs)) (qs.getD p.2 no).2 p.1:=by
 unfold pts zj8;rw [List.map_append,List.foldl_append];rfl
theorem zxz{k j c:Nat}(h:k * j<=66)(hc:c<=20):c * mB k j < 2^3000:=by
 have h1:c * mB k j<=2^29 * 2^(34 * (k * j)):=by
  show c * (2^(34 * (k * j)) * 12000000)<=_;rw [Nat.mul_comm (2^(34 * (k * j))) 12000000,<-Nat.mul_assoc];exact Nat.mul_le_mul_right _ (qA (Nat.mul_le_mul_right _ hc) (by decide))
 refine Nat.lt_of_le_of_lt h1 ?_;rw [<-Nat.pow_add];exact zA3 (by omega)
theorem zuk{k j:Nat}(h:k * j<=66):mM k j < 2^256:=by
 rw [show mM k j=12^(k * j+1) from(Nat.pow_succ ..).symm];exact m66 (by omega)
theorem zni{n:Nat}{hs:List Int}{qs:List Nx}{k:Int}{prs:List P2}(n1:1<=n)(n3:n<=3)(hx:XO n hs qs)(hl:hs.length<=12)(ok:zfV n (dpO n) hs k (.mx prs))(k1:1<=k)(kd:k<=(dpO n:Int)) :
  zeg [.d (.tuple (prs.map prD)),.l (qs.map fD),.d (.int (n:Int))]=some (.d (cF (zj8 nof (pts qs prs))),[.d (.tuple (prs.map prD)),.l (qs.map fD),.d (.int (n:Int))]):=by
 refine zO ?_;obtain⟨h1,h2,h3,_⟩:=ok;have lq:=hx.ln;have num:=ze3 (n:=n) (f:=0) n3 (by decide) (by decide);rw [show zfo [(zs n,(0:Rat).num)] ((0:Rat).den:Int) 256=nof from rfl]at num;have z0:PyData.tuple [.int 0,.int 1]=fR 0:=rfl;simp_arith [zeg,zjt,z0,num];refine zaR (fun bs cs ρ=>∃ o4 o5,ρ=[some (.d (.tuple (prs.map prD))),some (.l (qs.map fD)),some (.d (.int (n:Int))),some (.d (cF (zj8 nof (pts qs bs)))),o4,o5]) ⟨none,none,rfl⟩ ?_ ?_
 ·rintro bs p cs _ e ⟨o4,o5,rfl⟩
  have hp:p∈prs:=by rw [e]; simp
  obtain⟨fg,pl,ph⟩:=h3 p hp;obtain⟨j,hj⟩:∃ j,hs.length=j+1:=⟨hs.length - 1,by omega⟩;have lb:bs.length+1<=prs.length:=by rw [e,qu,qv]; omega
  have e66:k.toNat * j<=66:=zqS (n:=n) (by omega) (by omega);obtain⟨qT,fT⟩:=zis (pts qs bs) (c:=0) (T:=[]) (G:=nof) (zoz (prs:=bs) hx hj fun q hq=>h3 q (by rw [e]; exact List.mem_append_left _ hq)) QP.nil zoy;have lp:(pts qs bs).length=bs.length:=List.length_map _;rw [lp,Nat.zero_add]at qT;obtain⟨_,_,qG,fG⟩:=hx.ok p.2 pl;rw [ph]at qG fG;have zT:=fT.fz qT (qA (zgi n1 n3 qT (by omega)) (by decide)) (zuk e66) (Nat.mul_pos (Nat.pow_pos (by decide)) (by decide)) (zxz e66 (by omega));have zG:=zit (x:=qs.getD p.2 no) n1 n3 (by omega) (by omega) qG fG;have sz:=fg.bd.size (by decide);have fG':=FN.up (j:=j) fG (by omega);have dv:=zow (M:=mM k.toNat j) fT.b1 (show 1<=(qs.getD p.2 no).2.b * (p.1.den:Int) by have:=Int.mul_pos (by have:=fG.b1; omega:0 < (qs.getD p.2 no).2.b) (by have:=zhY p.1; omega:(0:Int) < p.1.den); omega) fT.dv (by rw [Int.natCast_mul]; exact Int.mul_dvd_mul fG'.dv (by exact_mod_cast fg.bd.dvd));have m0:0 < mM k.toNat j:=Nat.mul_pos (Nat.pow_pos (by decide)) (by decide);have hb:((zj8 nof (pts qs bs)).b * ((qs.getD p.2 no).2.b * (p.1.den:Int)).fdiv (Int.gcd (zj8 nof (pts qs bs)).b ((qs.getD p.2 no).2.b * p.1.den):Nat)).natAbs < 2^256:=by
   refine Nat.lt_of_le_of_lt ?_ (zuk e66);have:=Nat.le_of_dvd m0 (Int.natAbs_dvd_natAbs.mpr dv);exact this
  have fs:=zhU zT zG (Nat.lt_of_le_of_lt sz.2 (qk (by decide:12000000 < 2^30) (Nat.pow_le_pow_right (by decide) (by decide)))) (Nat.lt_of_le_of_lt sz.1 (by decide)) hb;simp_arith [znh (qs:=qs) (g:=fD) (i:=p.2) (by omega),fs];rw [zuj];exact⟨_,_,rfl⟩
 ·rintro _ ⟨o4,o5,rfl⟩
  simp_arith
theorem zfW{N:Net}(h:NO N):zb6 [.d N.d]=some (.l ((zcq N.ls.length N.ns).map fD),[.d N.d]):=by
 refine zO ?_;have ln:=h.gn.ln;have nl:=h.nl;have n1:=h.n1;have n3:=h.n3;simp_arith [zb6,zgW,Net.d];refine zdd (fun i ρ=>∃ o5,ρ=[some (.d N.d),some (.d (.tuple (N.ls.map .str))),some (.d (.tuple (N.ns.map Nod.d))),some (.d (tpD N.r N.os)),some (.l ((zcq N.ls.length (N.ns.take i)).map fD)),o5]) ⟨none,rfl⟩ ?_ ?_
 ·rintro i d _ hd ⟨o5,rfl⟩
  rw [List.getElem?_map]at hd;obtain⟨nod,en,rfl⟩:=qt.mp hd;have hi:=(qm.mp en).1;have ok:=h.gn.ok i nod en;have hx:=zlN h i (by omega);obtain⟨k1,kd⟩:=h.gn.hi dp6.1 i (by omega);rw [zhp en];generalize zcq N.ls.length (N.ns.take i)=qs at hx ⊢;have lh:(N.hs.take i).length=i:=by rw [List.length_take]; omega
  have lq:=hx.ln;have lqf:(qs.map fD).length=qs.length:=List.length_map _;cases nod with
  | lt m =>
   have le:=zjE (k:=m) ok.1 n3;simp_arith [Nod.d,List.length_map,le,lqf];rw [List.map_append];exact⟨_,rfl⟩
  | mx prs =>
   have mf:=zni n1 n3 hx (by omega) ok k1 kd;simp_arith [Nod.d,List.length_map,mf,lqf];rw [List.map_append];exact⟨_,rfl⟩
  | tm a b =>
   obtain⟨ha,hb,_,hk,_⟩:=ok;obtain⟨a1,a2,qa,fa⟩:=hx.ok a ha;obtain⟨b1,b2,qb,fb⟩:=hx.ok b hb;have za:=zit (x:=qs.getD a no) n1 n3 (by omega) (by omega) qa fa;have zb:=zit (x:=qs.getD b no) n1 n3 (by omega) (by omega) qb fb;have dv:(qs.getD a no).2.b * (qs.getD b no).2.b∣((12^66:Nat):Int):=by
    have d1:=Int.mul_dvd_mul (FN.up (j:=10) fa (by omega)).dv (FN.up (j:=10) fb (by omega)).dv;refine Int.dvd_trans d1 ?_;rw [<-Int.natCast_mul,<-Nat.pow_add];refine Int.natCast_dvd_natCast.mpr (Nat.pow_dvd_pow 12 ?_);have:=(dp6 (n:=N.ls.length)).2;omega
   have hb':((qs.getD a no).2.b * (qs.getD b no).2.b).natAbs < 2^256:=Nat.lt_of_le_of_lt (Nat.le_of_dvd (Nat.pow_pos (by decide)) (Int.natAbs_dvd_natAbs.mpr dv)) (m66 (by decide));have lm:=zlM n1 n3 qa qb (by omega);have la:((qs.getD a no).2.p).length=(qs.getD a no).1.length:=by have:=fa.pm.length_eq; unfold toR at this; rw [List.length_map]at this; exact this
   have lb:((qs.getD b no).2.p).length=(qs.getD b no).1.length:=by have:=fb.pm.length_eq; unfold toR at this; rw [List.length_map]at this; exact this
   have tm:=zj7 za zb (fa.kl qa) (fb.kl qb) (by omega) hb' (by rw [la,lb]; omega);simp_arith [Nod.d,znh (qs:=qs) (g:=fD) (i:=a) (by omega),znh (qs:=qs) (g:=fD) (i:=b) (by omega),tm,lqf];rw [List.map_append];exact⟨_,rfl⟩
 ·rintro _ ⟨o5,rfl⟩
  rw [List.length_map,List.take_length];simp_arith;rfl
end K32
open PySem L2
namespace K32
open PySem L2
theorem zwi{p:Pq Rat}{u:U}(hu:u.fz=some (.dict (dcG fR p)))(nd:NdK p)(hl:p.length < 64):zbl [u]=some (zt1 (srt p),[dT p]):=by
 refine zO ?_;simp_arith [zbl,zdj,hu];refine zeO (e:=fun t=>.tuple [pwD t.1,fR t.2]) (by omega) (fun t ht ys=>?_) ?_
 ·simp_arith [zbL nd ht]
 ·rw [show(p.map fun t=>PyData.tuple [pwD t.1,fR t.2])=tmG fR p from rfl]
  simp_arith [ztr (c:=fR) nd hl]
theorem zjH{n:Nat}{f:Rat}(hn:n<=3):zaX [.d (.int (n:Int)),.d (fR f)]=some (.t (kvG fR (zjC n f)),[.d (.int (n:Int)),.d (fR f)]):=by
 refine zO ?_;simp_arith [zaX,zcu,zt3];unfold zjC
 by_cases z:f=0
 ·simp_arith [z]
  rfl
 ·simp_arith [z,zjD,Int.toNat_natCast]
  rfl
theorem ztt:PyData.tuple [.int 1,.int 1]=fR 1:=rfl
theorem zjI{n k:Nat}(hk:k < n)(hn:n<=3):zaY [.d (.int (n:Int)),.d (.int (k:Int))]=some (.t (kvG fR [(zgY n k,1)]),[.d (.int (n:Int)),.d (.int (k:Int))]):=by
 refine zO ?_;have e:((n:Int) - (k:Int) - 1).toNat=n - k - 1:=by omega
 simp_arith [zaY,zcw,zjD,Int.toNat_natCast,e,ztz,ztt,zty (a:=List.replicate k 0) (b:=[1]) (by rw [List.length_replicate]; show k+1<=1000; omega),zty (a:=List.replicate k 0++[1]) (b:=List.replicate (n - k - 1) 0) (by rw [qu,List.length_replicate,List.length_replicate]; show k+1+_<=1000; omega),zv6 (k:=(k:Int)) (by omega) (by omega),zv6 (k:=(n:Int) - (k:Int) - 1) (by omega) (by omega)];rfl
abbrev pD(x:Nx):D:=.dict (dcG fR x.1)
theorem zek{M e:Nat}(h:M<=2^e)(he:e < 4000):M < 2^4000:=Nat.lt_of_le_of_lt h (Nat.pow_lt_pow_right (by decide) he)
theorem p12{e:Nat}(h:e<=67):12^e < 2^4000:=Nat.lt_trans (m66 h) (Nat.pow_lt_pow_right (by decide) (by decide))
theorem zA4{f:Rat}(h:Fg f):Sz f:=zhS h.bd (by decide) (zek (e:=30) (by decide) (by decide)) (zek (e:=30) (by decide) (by decide))
theorem zul(bs:Pq Rat)(t:List Int×Rat)(f:Rat):zdH (bs++[t]) f=zdH bs f++[(t.1,t.2 * f)]:=by
 unfold zdH;rw [List.map_append];rfl
theorem zqT{n k M B:Nat}{p:Pq Rat}{f:Rat}(hp:QP n k M B p)(hl:p.length < 64)(hf:Fg f)(hM:0 < M)(h1:M < 2^4000)(h2:B < 2^4000):zb4 [dT p,.d (fR f)]=some (.t (kvG fR (zdH p f)),[dT p,.d (fR f)]):=by
 refine zO ?_;have n0:=hf.n0;simp_arith [zb4,ze1];refine zaR (fun bs cs ρ=>∃ o3,ρ=[some (dT p),some (.d (fR f)),some (.t (kvG fR (zdH bs f))),o3]) ⟨none,rfl⟩ ?_ ?_
 ·rintro bs t cs _ e ⟨o3,rfl⟩
  have tp:t∈p:=by rw [e]; simp
  have lb:bs.length+cs.length+1=p.length:=by rw [e,qu,qv]; omega
  have ls:(zdH bs f).length=bs.length:=List.length_map _;have ti:=zgX (zhS (hp.bd t tp) hM h1 h2) (zA4 hf);have nd:=hp.nd;rw [e]at nd;have fr:za4 (zdH bs f) t.1 (t.2 * f)=zdH bs f++[(t.1,t.2 * f)]:=zkC fun u hu=>by
   obtain⟨v,hv,rfl⟩:=List.mem_map.mp hu;exact zmS nd v hv
  simp_arith [n0,zbL hp.nd tp,ti,zod (c:=fR) (p:=zdH bs f) (k:=t.1) (x:=t.2 * f) (by omega)];rw [fr,zul];exact⟨_,rfl⟩
 ·rintro _ ⟨o3,rfl⟩
  simp_arith [zlJ]
theorem zqU{qs:List Nx}{bs:List P2}{p:P2}{T:Pq Rat}:zh7 T (pts qs (bs++[p]))=L2.nz (gat (zh7 T (pts qs bs)) (zdH (qs.getD p.2 no).1 p.1)):=by
 unfold pts zh7;rw [List.map_append,List.foldl_append];rfl
theorem ziu{e:Nat}:0 < 12^e:=Nat.pow_pos (by decide)
theorem zer{N:Net}{Q:U×List U->Prop}(h:NO N)(kq:Q (.l ((zcq N.ls.length N.ns).map pD),[.d N.d])):Wo (zaV [.d N.d]) Q:=by
 have ln:=h.gn.ln;have nl:=h.nl;have n1:=h.n1;have n3:=h.n3;obtain⟨d1,d6⟩:=dp6 (n:=N.ls.length);simp_arith [zaV,zdr,Net.d,List.length_map];refine zdd (fun i ρ=>∃ o3 o4 o5 o6,ρ=[some (.d N.d),some (.d (.int (N.ls.length:Int))),some (.l ((zcq N.ls.length (N.ns.take i)).map pD)),o3,o4,o5,o6]) ⟨none,none,none,none,rfl⟩ ?_ ?_
 ·rintro i d _ hd ⟨o3,o4,o5,o6,rfl⟩
  rw [List.getElem?_map]at hd;obtain⟨nod,en,rfl⟩:=qt.mp hd;have hi:=(qm.mp en).1;have ok:=h.gn.ok i nod en;have hx:=zlN h i (by omega);obtain⟨k1,kd⟩:=h.gn.hi dp6.1 i (by omega);rw [zhp en];generalize zcq N.ls.length (N.ns.take i)=qs at hx ⊢;have lh:(N.hs.take i).length=i:=by rw [List.length_take]; omega
  have lq:=hx.ln;have lqf:(qs.map pD).length=qs.length:=List.length_map _;cases nod with
  | lt m =>
   have le:=zjI (k:=m) ok.1 n3;have fz:=zcg (c:=fR) (p:=[(zgY N.ls.length m,1)]);simp_arith [Nod.d,le,fz,lqf];rw [List.map_append];exact⟨_,_,_,_,rfl⟩
  | tm a b =>
   obtain⟨ha,hb,_,hk,_⟩:=ok;obtain⟨a1,a2,qa,fa⟩:=hx.ok a ha;obtain⟨b1,b2,qb,fb⟩:=hx.ok b hb;have ea:=zqS (n:=N.ls.length) (k:=((N.hs.take i).getD a 0).toNat) (j:=a) (by omega) (by omega);have eb:=zqS (n:=N.ls.length) (k:=((N.hs.take i).getD b 0).toNat) (j:=b) (by omega) (by omega);have lm:=zlM n1 n3 qa qb (by omega);have la:=zgi n1 n3 qa (by omega);have lb:=zgi n1 n3 qb (by omega);simp_arith [Nod.d,znh (qs:=qs) (g:=pD) (i:=a) (by omega),znh (qs:=qs) (g:=pD) (i:=b) (by omega)];refine znc rfl rfl qa.nd qb.nd qa.bd qb.bd (fun t ht=>(qa.ky t ht).1.ln) (fun t ht=>(qb.ky t ht).1.ln) (by omega) ziu ziu ?_ (p12 (by omega)) (p12 (by omega)) (zek (qg _) (by omega)) (zek (qg _) (by omega)) ?_ (Nat.mul_pos (Nat.pow_pos (by decide)) (Nat.pow_pos (by decide))) (by omega) (by omega) (by omega) fun u2 hu2=>?_
   ·rw [<-Nat.pow_add]
    exact zek (e:=4 * 132) (qA (zp0 _) (Nat.pow_le_pow_right (by decide) (by omega))) (by decide)
   ·rw [<-Nat.pow_add]
    have q1:((N.hs.take i).getD a 0).toNat * a+((N.hs.take i).getD b 0).toNat * b<=66:=by
     have x1:=Nat.mul_le_mul_left ((N.hs.take i).getD a 0).toNat (show a<=11 by omega);have x2:=Nat.mul_le_mul_left ((N.hs.take i).getD b 0).toNat (show b<=11 by omega);omega
    have q2:=Nat.mul_le_mul (qA lm (show 36<=2^6 by decide)) (Nat.pow_le_pow_right (n:=2) (by decide) (show 34 * (((N.hs.take i).getD a 0).toNat * a)+34 * (((N.hs.take i).getD b 0).toNat * b)<=3400 by omega));rw [<-Nat.pow_add 2 6 3400]at q2;exact zek q2 (by decide)
   ·have fz:=zcg (c:=fR) (p:=L2.nz (gat [] (zaD (qs.getD a no).1 (qs.getD b no).1)))
    simp_arith [fz,lqf];rw [List.map_append];exact⟨_,_,_,_,rfl⟩
  | mx prs =>
   obtain⟨h1,h2,h3,_⟩:=ok;simp_arith [Nod.d];refine zaR (fun bs cs ρ=>∃ o5 o6,ρ=[some (.d N.d),some (.d (.int (N.ls.length:Int))),some (.l (qs.map pD)),some (.d (Nod.mx prs).d),some (.t (kvG fR (zh7 [] (pts qs bs)))),o5,o6]) ⟨_,_,rfl⟩ ?_ ?_
   ·rintro bs p cs _ e ⟨o5,o6,rfl⟩
    have hp:p∈prs:=by rw [e]; simp
    obtain⟨fg,pl,ph⟩:=h3 p hp;obtain⟨j,hj⟩:∃ j,(N.hs.take i).length=j+1:=⟨i - 1,by omega⟩;have lb:bs.length+1<=prs.length:=by rw [e,qu,qv]; omega
    have e66:(N.hs.getD i 0).toNat * j<=66:=zqS (n:=N.ls.length) (by omega) (by omega);obtain⟨qT,_⟩:=zis (pts qs bs) (c:=0) (T:=[]) (G:=nof) (zoz (prs:=bs) hx hj fun q hq=>h3 q (by rw [e]; exact List.mem_append_left _ hq)) QP.nil zoy;have lp:(pts qs bs).length=bs.length:=List.length_map _;rw [lp,Nat.zero_add]at qT;obtain⟨_,_,qG,_⟩:=hx.ok p.2 pl;rw [ph]at qG;have qG':=QN.up (j:=j) qG (by omega);have lT:=zgi n1 n3 qT (by omega);have lG:=zgi n1 n3 qG (by omega);have sc:=zqT qG' (by omega) fg ziu (p12 (by omega)) (zek (qg _) (by omega));have qS:=qG'.scl fg.bd fg.nz;have lS:(zdH (qs.getD p.2 no).1 p.1).length=(qs.getD p.2 no).1.length:=List.length_map _;have hB:mB (N.hs.getD i 0).toNat j<=20 * mB (N.hs.getD i 0).toNat j:=by omega
    have b20:=zxz (c:=20) e66 (qg _);have hsh:=zt2 n1 n3 qT.nd fun t ht=>(qT.ky t ht).1.up (by omega);have pa:=zhT (M:=mM (N.hs.getD i 0).toNat j) (B:=20 * mB (N.hs.getD i 0).toNat j) (u1:=.t (kvG fR (zh7 [] (pts qs bs)))) (u2:=.t (kvG fR (zdH (qs.getD p.2 no).1 p.1))) (s:=1) (zxg hsh) zcg (.inl rfl) qT.nd qS.nd (fun t ht=>(qT.bd t ht).le (Nat.mul_le_mul_right _ (by omega))) (fun t ht=>(qS.bd t ht).le hB) (Nat.mul_pos ziu (by decide)) (Nat.lt_trans (zuk e66) (Nat.pow_lt_pow_right (by decide) (by decide))) (by
     rw [lS];refine Nat.lt_of_le_of_lt (show _<=2^4 * 2^3000 from ?_) (by rw [<-Nat.pow_add]; exact Nat.pow_lt_pow_right (by decide) (by decide));have:=Nat.mul_le_mul_right (20 * mB (N.hs.getD i 0).toNat j) lG;omega) (by omega) (by omega)
    rw [zpL]at pa;simp_arith [znh (qs:=qs) (g:=pD) (i:=p.2) (by omega),sc,pa];rw [zqU];exact⟨_,_,rfl⟩
   ·rintro _ ⟨o5,o6,rfl⟩
    have fz:=zcg (c:=fR) (p:=zh7 [] (pts qs prs));simp_arith [fz,lqf];rw [List.map_append];exact⟨_,_,_,_,rfl⟩
 ·rintro _ ⟨o3,o4,o5,o6,rfl⟩
  rw [List.length_map,List.take_length];simp_arith;exact kq
end K32
open PySem L2
namespace K32
open PySem L2
theorem zum{D:Nat}{p:Pq Rat}{F:Fm}(f:FP D p F)(np:NdK p)(zp:∀ t∈p,t.2≠0):srt (toR F.b F.p)=srt p :=
 zlx ⟨zdP (zov f.nd),fun t ht=>zpZ f.b1 f.nz t ((zaS _).mem_iff.mp ht)⟩ ⟨zdP np,fun t ht=>zp t ((zaS _).mem_iff.mp ht)⟩ fun g=>by rw [zcn (zaS _),zcn (zaS _)]; exact zcn f.pm g
theorem XO.mem{n:Nat}{hs:List Int}{qs:List Nx}(h:XO n hs qs){x:Nx}(hx:x∈qs):∃ i k:Nat,i < hs.length/\1<=k/\k<=dpO n/\QN n k i x.1/\FN k i x.1 x.2:=by
 obtain⟨i,hi,rfl⟩:=List.getElem_of_mem hx;have ln:=h.ln;obtain⟨a,b,c,d⟩:=h.ok i (by omega);have e:qs.getD i no=qs[i]:=by rw [qC,qo hi]; rfl
 rw [e]at c d;exact⟨i,_,by omega,by omega,by omega,c,d⟩
theorem NO.all{N:Net}(h:NO N):XO N.ls.length N.hs (zcq N.ls.length N.ns):=by
 have:=zlN h N.ns.length (qg _);rw [List.take_length,<-h.gn.ln,List.take_length]at this;exact this
theorem zlO{N:Net}(h:NO N):zdu [.d N.d]=some (.l ((zcq N.ls.length N.ns).map fun x=>.tuple (tmG fR (srt x.1))),[.d N.d]):=by
 refine zO ?_;have hx:=h.all;have nl:=h.nl;have ln:=h.gn.ln;have lq:=hx.ln;simp_arith [zdu,zhO,zfW h];refine zeO (g:=fD) (e:=fun x=>.tuple (tmG fR (srt x.1))) (by omega) (fun x hm ys=>?_) ?_
 ·obtain⟨i,k,hi,k1,kd,q,f⟩:=hx.mem hm
  have fo:=zgZ (zit h.n1 h.n3 kd (by omega) q f);rw [zum f q.nd q.nz]at fo;have tu:zbP (.l (tmG fR (srt x.1)))=some (.d (.tuple (tmG fR (srt x.1)))):=rfl;simp_arith [fo,tu]
 ·simp_arith
structure QT (n M B:Nat) (p:Pq Rat):Prop where
 nd:NdK p
 nz:∀ t∈p,t.2≠0
 ky:∀ t∈p,Ks n (dpO n) t.1
 bd:PB M B p
section
variable {n k M N B C:Nat} {p q:Pq Rat}
theorem QT.add(hp:QT n M B p)(hq:QT n M C q):QT n M (B+C) (L2.nz (gat p q)):=by
 have nd:NdK (gat p q):=zdE q hp.nd;refine⟨zpG nd,zv9 _,fun t ht=>zi8 (Pk:=fun e=>Ks n (dpO n) e) q hp.ky hq.ky t (List.mem_filter.mp ht).1,fun t ht=>?_⟩;have e:t.2=lin p (ind t.1)+lin q (ind t.1):=by
  rw [<-zeb q _ hp.nd,zho nd,zbL nd (List.mem_filter.mp ht).1];rfl
 rw [e,zho hp.nd,zho hq.nd];exact(zfb hp.bd _).add (zfb hq.bd _)
theorem QT.len(h:QT n M B p)(n1:1<=n)(n3:n<=3):p.length<=35:=by
 have:=List.Nodup.length_le_of_subset h.nd (l₂:=zj6 n (dpO n)) fun x hx=>by
  obtain⟨t,ht,rfl⟩:=List.mem_map.mp hx;exact zpX (h.ky t ht)
 rw [List.length_map]at this;refine qA this ?_;rcases(by omega:n=1\/n=2\/n=3)with rfl | rfl | rfl<;>decide
end
abbrev M6:Nat:=12^66
abbrev B6:Nat:=2^(34 * 66)
theorem zzF{n k i:Nat}{x:Nx}(kd:k<=dpO n)(hi:i<=11)(q:QN n k i x.1)(f:FN k i x.1 x.2):QT n M6 B6 x.1/\FP M6 x.1 x.2:=by
 have e:=zqS kd hi;obtain⟨d,hd⟩:=Nat.exists_eq_add_of_le e;have w:=QP.wide q (12^d);rw [<-Nat.pow_add,<-hd]at w;have w2:=w.le (C:=B6) (by
  refine qA (Nat.mul_le_mul_left _ (zp0 d)) ?_;rw [<-Nat.pow_add];exact Nat.pow_le_pow_right (by decide) (by omega))
 exact⟨⟨w2.nd,w2.nz,fun t ht=>(w2.ky t ht).1.up kd,w2.bd⟩,FP.up f (Nat.pow_dvd_pow 12 e)⟩
theorem zA5{n w:Nat}:Ks n w (zs n):=⟨zzz n,fun k hk=>by rw [zzA k hk]; decide,by unfold zs; simp⟩
def zwj(n:Nat)(r:Rat):Fm:=zfo [(zs n,r.num)] r.den 256
theorem zA6{n:Nat}{r:Rat}(h:Bd 12 12000000 r):QT n M6 B6 (zjC n r)/\FP M6 (zjC n r) (zwj n r):=by
 have q:QT n M6 B6 (zjC n r):=by
  refine⟨?_,fun t ht=>?_,fun t ht=>?_,fun t ht=>?_⟩
  ·unfold zjC
   split
   ·exact List.nodup_nil
   ·exact nd1
  all_goals obtain⟨rfl,h0⟩:=zt6 ht
  ·exact h0
  ·exact zA5
  ·have:=h.wide (12^65)
   rw [show 12 * 12^65=M6 from(Nat.pow_succ' ..).symm]at this;refine this.le (qA (Nat.mul_le_mul (show 12000000<=2^24 by decide) (zp0 65)) ?_);rw [<-Nat.pow_add];exact Nat.pow_le_pow_right (by decide) (by decide)
 have d1:=zhY r;obtain⟨a,b,c,d,e⟩:=zox (p:=[(zs n,r.num)]) (b:=(r.den:Int)) (r:=256) d1 (Int.le_refl _) zt8;have dv:(r.den:Int)∣((M6:Nat):Int):=Int.natCast_dvd_natCast.mpr (Nat.dvd_trans h.dvd (Nat.dvd_trans (Nat.dvd_refl 12) (Nat.dvd_mul_left 12 (12^65))));refine⟨q,FP.of (F:=zwj n r) c d a b (Int.dvd_trans e dv) q.nd q.nz fun g=>?_⟩;unfold zwj;rw [zjG (by omega)];show Rat.divInt r.num r.den * g (zs n)+0=lin (zjC n r) g;rw [show Rat.divInt r.num r.den=r from Rat.num_divInt_den r];unfold zjC;split
 ·rename_i z
  rw [z,zby];grind
 ·rw [zS,zby]
theorem FP.fzB{n M B:Nat}{p:Pq Rat}{F:Fm}(h:FP M p F)(bd:PB M B p)(ln:p.length<=40)(hM:M < 2^256)(M0:0 < M)(hB:B < 2^3000):FZ F:=by
 have le:=Int.le_of_dvd (by omega) h.dv;have b1:=h.b1;refine⟨h.nd,?_,h.b1,?_,fun t ht=>?_,h.r1⟩
 ·have:=h.pm.length_eq
  unfold toR at this;rw [List.length_map]at this;omega
 ·refine Nat.lt_of_le_of_lt (show F.b.natAbs<=M by omega) (Nat.lt_trans hM (Nat.pow_lt_pow_right (by decide) (by decide)))
 ·refine Nat.lt_of_le_of_lt (zud (M:=M) (B:=B) ?_ h.b1 h.dv M0) hB
  exact bd _ (h.pm.mem_iff.mp (List.mem_map.mpr ⟨t,ht,rfl⟩))
def ze4(qs:List Nx)(T:Nx)(os:List (Option Nat)):Nx:=os.foldl (fun T o=>match o with
 | none=>T
 | some m=>(L2.nz (gat T.1 (qs.getD m no).1),zh6 T.2 (qs.getD m no).2 1)) T
theorem zoA{n M B:Nat}{qs:List Nx}(hq:∀ m,m < qs.length->QT n M B (qs.getD m no).1/\FP M (qs.getD m no).1 (qs.getD m no).2):∀ (os:List (Option Nat)) {c:Nat} {T:Nx},(∀ m,some m∈os->m < qs.length)->QT n M (c * B) T.1->FP M T.1 T.2->QT n M ((c+os.length) * B) (ze4 qs T os).1/\FP M (ze4 qs T os).1 (ze4 qs T os).2
 | [],c,T,_,a,b=>by
  rw [List.length_nil,Nat.add_zero];exact⟨a,b⟩
 | none::os,c,T,ho,a,b=>by
  have:=zoA hq os (c:=c+1) (T:=T) (fun m hm=>ho m (qp _ hm)) ⟨a.nd,a.nz,a.ky,fun t ht=>(a.bd t ht).le (Nat.mul_le_mul_right _ (by omega))⟩ b;rw [qv,show c+(os.length+1)=c+1+os.length by omega];exact this
 | some m::os,c,T,ho,a,b=>by
  obtain⟨q,f⟩:=hq m (ho m qq);have s:=a.add q;rw [show c * B+B=(c+1) * B by rw [Nat.add_mul,Nat.one_mul]]at s;have fs:=FP.sum (f:=1) b f (by show _ * 1∣_; rw [Int.mul_one]; exact f.dv) s.nd s.nz fun g=>by
   rw [show lin (L2.nz (gat T.1 (qs.getD m no).1)) g=lin (gat T.1 (qs.getD m no).1) g from zlw _ g,zeb _ g a.nd];grind
  have:=zoA hq os (c:=c+1) (T:=(L2.nz (gat T.1 (qs.getD m no).1),zh6 T.2 (qs.getD m no).2 1)) (fun m hm=>ho m (qp _ hm)) s fs;rw [qv,show c+(os.length+1)=c+1+os.length by omega];exact this
theorem znj:M6 < 2^256:=m66 (by decide)
theorem zp1{c:Nat}(h:c<=16):c * B6 < 2^3000:=by
 refine Nat.lt_of_le_of_lt (Nat.mul_le_mul_right _ (qA h (show 16<=2^4 by decide))) ?_;rw [<-Nat.pow_add];exact Nat.pow_lt_pow_right (by decide) (by decide)
theorem zlP{n c d:Nat}{p q:Pq Rat}{F G:Fm}(n1:1<=n)(n3:n<=3)(hc:c<=16)(hd:d<=16)(hp:QT n M6 (c * B6) p)(hq:QT n M6 (d * B6) q)(hF:FP M6 p F)(hG:FP M6 q G):zds [.d (cF F),.d (cF G)]=some (.d (cF (zh6 F G 1)),[.d (cF F),.d (cF G)]):=by
 refine zO ?_;have o1:PyData.tuple [.int 1,.int 1]=fR 1:=rfl;have m0:0 < M6:=Nat.pow_pos (by decide);have zF:=hF.fzB (n:=n) hp.bd (qA (hp.len n1 n3) (by decide)) znj m0 (zp1 hc);have zG:=hG.fzB (n:=n) hq.bd (qA (hq.len n1 n3) (by decide)) znj m0 (zp1 hd);have G1:=hG.b1;have dv:=zow (M:=M6) hF.b1 (show 1<=G.b * ((1:Rat).den:Int) by show 1<=G.b * 1; omega) hF.dv (by show G.b * 1∣_; rw [Int.mul_one]; exact hG.dv);have fs:=zhU (f:=1) zF zG (by show(1:Int).natAbs < 2^1000; exact Nat.one_lt_two_pow (by decide)) (by decide) (Nat.lt_of_le_of_lt (Nat.le_of_dvd m0 (Int.natAbs_dvd_natAbs.mpr dv)) znj);simp_arith [zds,zhK,o1,fs]
theorem zun:∀ p:Pq Rat,PyData.canLayAll0 (tmG fR p)=true/\PyData.depthAll (tmG fR p)<=2
 | []=>⟨by simp [tmG,PyData.canLayAll0],by simp [tmG,PyData.depthAll]⟩
 | t::p=>by
  obtain⟨h1,h2⟩:=zun p;have e:tmG fR (t::p)=.tuple [pwD t.1,fR t.2]::tmG fR p:=rfl;have a1:=PyProof.Rows.canLayAll_ints t.1;have a2:=PyProof.Rows.depthAll_ints t.1;rw [e];constructor
  ·simp [PyData.canLayAll0,PyData.canLay0,pwD,fR,h1,a1]
  ·simp [PyData.depthAll,PyData.depth,pwD,fR,a2]
   omega
theorem zqV(p:Pq Rat):SeqAt.shaped (.tuple (tmG fR p))=true:=by
 obtain⟨h1,h2⟩:=zun p;unfold SeqAt.shaped;simp [PyData.canLay0,PyData.depth,h1];omega
theorem zp2{a b:U}{x:D}(ha:a.py=some x)(hb:b.py=some x)(hs:SeqAt.shaped x=true):zf6 true a b=some (.d (.bool false)):=by
 unfold zf6;rw [ha,bd,hb,bd,if_pos ⟨hs,hs⟩,if_pos rfl,SeqAt.eqv_refl x (SeqAt.canLay_of_shaped hs)];rfl
end K32
open PySem L2
namespace K32
open PySem L2
theorem zBw{b l:Nat}(h:b < 2^3000)(hl:l<=35):b+l * b < 2^4000:=by
 have h1:=Nat.mul_le_mul_right b hl;have h2:b+l * b<=2^6 * b:=by omega
 refine Nat.lt_of_le_of_lt h2 (qk (Nat.mul_lt_mul_of_pos_left h (by decide)) ?_);rw [<-Nat.pow_add];exact Nat.pow_le_pow_right (by decide) (by decide)
theorem zkK{qs:List Nx}{T:Nx}{bs:List (Option Nat)}{o:Option Nat}:ze4 qs T (bs++[o])=ze4 qs (ze4 qs T bs) [o]:=List.foldl_append ..
theorem NO.tq{N:Net}(h:NO N):∀ m,m < (zcq N.ls.length N.ns).length->QT N.ls.length M6 B6 ((zcq N.ls.length N.ns).getD m no).1/\FP M6 ((zcq N.ls.length N.ns).getD m no).1 ((zcq N.ls.length N.ns).getD m no).2:=fun m hm=>by
 have hx:=h.all;have nl:=h.nl;have ln:=h.gn.ln;have lq:=hx.ln;obtain⟨a,b,c,d⟩:=hx.ok m (by omega);exact zzF (by omega) (by omega) c d
abbrev T0(N:Net):Nx:=(zjC N.ls.length N.r,zwj N.ls.length N.r)
theorem NO.tot{N:Net}(h:NO N)(bs:List (Option Nat))(hb:∀ o∈bs,o∈N.os):QT N.ls.length M6 ((1+bs.length) * B6) (ze4 (zcq N.ls.length N.ns) (T0 N) bs).1/\FP M6 (ze4 (zcq N.ls.length N.ns) (T0 N) bs).1 (ze4 (zcq N.ls.length N.ns) (T0 N) bs).2:=by
 obtain⟨a,b⟩:=zA6 (n:=N.ls.length) h.rb;have lq:=h.all.ln;have ln:=h.gn.ln;exact zoA h.tq bs (c:=1) (T:=T0 N) (fun m hm=>by have:=h.oi m (hb _ hm); omega) (by rw [Nat.one_mul]; exact a) b
theorem znk{N:Net}(h:NO N):zei [.d N.d]=some (.d (.tuple (tmG fR (srt (ze4 (zcq N.ls.length N.ns) (T0 N) N.os).1))),[.d N.d]):=by
 refine zO ?_;have n1:=h.n1;have n3:=h.n3;have ol:=h.ol;obtain⟨d1,d6⟩:=dp6 (n:=N.ls.length);have sz:=h.rb.size (by decide);have den12:((N.r.den:Nat):Int).natAbs < 2^4:=by rw [Int.natAbs_natCast]; exact Nat.lt_of_le_of_lt sz.1 (by decide)
 have num:=ze3 (n:=N.ls.length) (f:=N.r) n3 (Int.le_trans (zlL (by decide) den12) (by decide)) (by rw [<-Int.natAbs_natCast N.r.den]; exact zt9 den12 (by decide) (by decide));have m0:0 < M6:=Nat.pow_pos (by decide);have tq:=h.tq;have tot:=h.tot;have lq:=h.all.ln;have ln:=h.gn.ln;have oi:=h.oi;have nf:=zfW h;generalize zcq N.ls.length N.ns=qs at tq tot lq nf ⊢;unfold Net.d at nf;simp_arith [zei,zjv,Net.d,nf];simp_arith [tpD,List.length_map,num];refine zaR (g:=oD) (as:=N.os) (fun bs cs ρ=>∃ o6,ρ=[some (.d N.d),some (.d (.tuple (N.ls.map .str))),some (.d (.tuple (N.ns.map Nod.d))),some (.d (tpD N.r N.os)),some (.l (qs.map fD)),some (.d (cF (ze4 qs (T0 N) bs).2)),o6]) ⟨none,rfl⟩ ?_ ?_
 ·rintro bs o cs _ e ⟨o6,rfl⟩
  have ho:o∈N.os:=by rw [e]; simp
  have lb:bs.length+1<=N.os.length:=by rw [e,qu,qv]; omega
  rw [zkK];cases o with
  | none =>
   simp_arith [oD,zzv];exact⟨_,rfl⟩
  | some m =>
   obtain⟨qT,fT⟩:=tot bs fun o ho=>by rw [e]; exact List.mem_append_left _ ho
   have hm:m < qs.length:=by have:=oi m ho; omega
   obtain⟨qG,fG⟩:=tq m hm;have fp:=zlP (c:=1+bs.length) (d:=1) n1 n3 (by omega) (by decide) qT (by rw [Nat.one_mul]; exact qG) fT fG;simp_arith [oD,zzu,znh (qs:=qs) (g:=fD) (i:=m) hm,fp];exact⟨_,rfl⟩
 ·rintro _ ⟨o6,rfl⟩
  obtain⟨qT,fT⟩:=tot N.os fun o ho=>ho;have fo:=zgZ (fT.fzB (n:=N.ls.length) qT.bd (qA (qT.len n1 n3) (by decide)) znj m0 (zp1 (by omega)));rw [zum fT qT.nd qT.nz]at fo;have tu:zbP (.l (tmG fR (srt (ze4 qs (T0 N) N.os).1)))=some (.d (.tuple (tmG fR (srt (ze4 qs (T0 N) N.os).1)))):=rfl;simp_arith [fo,tu];rfl
theorem zjJ{N:Net}{Q:U×List U->Prop}(h:NO N)(kq:Q (.t (kvG fR (ze4 (zcq N.ls.length N.ns) (T0 N) N.os).1),[.d N.d])):Wo (zbA [.d N.d]) Q:=by
 have n1:=h.n1;have n3:=h.n3;have ol:=h.ol;obtain⟨d1,d6⟩:=dp6 (n:=N.ls.length);have tq:=h.tq;have tot:=h.tot;have lq:=h.all.ln;have ln:=h.gn.ln;have oi:=h.oi;simp_arith [zbA,zdV];refine zer h ?_;generalize zcq N.ls.length N.ns=qs at tq tot lq kq ⊢;simp_arith [Net.d,tpD,List.length_map,zjH (n:=N.ls.length) (f:=N.r) n3];refine zaR (g:=oD) (as:=N.os) (fun bs cs ρ=>∃ o3,ρ=[some (.d N.d),some (.l (qs.map pD)),some (.t (kvG fR (ze4 qs (T0 N) bs).1)),o3]) ⟨none,rfl⟩ ?_ ?_
 ·rintro bs o cs _ e ⟨o3,rfl⟩
  have ho:o∈N.os:=by rw [e]; simp
  have lb:bs.length+1<=N.os.length:=by rw [e,qu,qv]; omega
  rw [zkK];cases o with
  | none =>
   simp_arith [oD,zzv];exact⟨_,rfl⟩
  | some m =>
   obtain⟨qT,fT⟩:=tot bs fun o ho=>by rw [e]; exact List.mem_append_left _ ho
   have hm:m < qs.length:=by have:=oi m ho; omega
   obtain⟨qG,fG⟩:=tq m hm;have lT:=qT.len n1 n3;have lG:=qG.len n1 n3;have b16:=zp1 (c:=16) (by decide);have pa:=zhT (M:=M6) (B:=16 * B6) (u1:=.t (kvG fR (ze4 qs (T0 N) bs).1)) (u2:=dT (qs.getD m no).1) (s:=1) (zxg (zt2 n1 n3 qT.nd qT.ky)) rfl (.inl rfl) qT.nd qG.nd (fun t ht=>(qT.bd t ht).le (Nat.mul_le_mul_right _ (by omega))) (fun t ht=>(qG.bd t ht).le (Nat.le_mul_of_pos_left _ (by decide))) (Nat.pow_pos (by decide)) (Nat.lt_trans znj (Nat.pow_lt_pow_right (by decide) (by decide))) (zBw b16 lG) (by omega) (by omega);rw [zpL]at pa;simp_arith [oD,zzu,znh (qs:=qs) (g:=pD) (i:=m) hm,pa];exact⟨_,rfl⟩
 ·rintro _ ⟨o3,rfl⟩
  simp_arith [zlJ];exact kq
theorem znl{α:Type}{f:α->Bool}:∀ (zs:List α),(zs.map fun z=>PyData.bool (f z)).mapM blD=some (zs.map f)
 | []=>rfl
 | z::zs=>by
  rw [List.map_cons,List.mapM_cons,znl zs];rfl
theorem zuo{α:Type}{f:α->Bool}{zs:List α}:zqz (.l (zs.map fun z=>PyData.bool (f z)))=some (.d (.bool (zs.all f))):=by
 show(some _).bind _=_;rw [bd,znl,bd,List.all_map];rfl
theorem znm{k:Int}:zbH [.d (.int k)]=some (.d (.bool true),[.d (.int k)]):=by
 refine zO ?_;simp_arith [zbH,zfI]
theorem zjK{p:Pq Rat}{u:U}{n:Nat}(hu:u.fz=some (.dict (dcG fR p)))(nd:NdK p)(hl:p.length < 64)(kl:∀ t∈p,t.1.length=n)(hn:n<=3):za6 [.d (.tuple (tmG fR (srt p))),u]=some (.d (.bool true),[.d (.tuple (tmG fR (srt p))),dT p]):=by
 refine zO ?_;have told:=zwi hu nd hl;have eq:=zp2 (a:=zt1 (srt p)) (b:=zt1 (srt p)) rfl rfl (zqV _);simp_arith [za6,zep,told,eq];refine zaR (g:=fun t:List Int×Rat=>PyData.tuple [pwD t.1,fR t.2]) (as:=srt p) (fun bs cs ρ=>∃ o2 o3,ρ=[some (.d (.tuple (tmG fR (srt p)))),some (dT p),o2,o3]) ⟨none,none,rfl⟩ ?_ ?_
 ·rintro bs t cs _ e ⟨o2,o3,rfl⟩
  have tm:t∈srt p:=by rw [e]; simp
  have k1:=kl t ((zaS p).mem_iff.mp tm);have cat:=zty (a:=t.1) (b:=[t.2.num,(t.2.den:Int)]) (by rw [k1]; show n+2<=1000; omega);rw [show pwD [t.2.num,(t.2.den:Int)]=fR t.2 from rfl]at cat;have dt:zgs (.d (pwD (t.1++[t.2.num,(t.2.den:Int)])))=some ((t.1++[t.2.num,(t.2.den:Int)]).map .int):=rfl;simp_arith [cat,dt];refine zeO (g:=PyData.int) (e:=fun _=>.bool true) (by rw [qu,k1]; show n+2<=16777216; omega) (fun k hk ys=>?_) ?_
  ·simp_arith [znm]
  ·have al:=zuo (f:=fun _:Int=>true) (zs:=t.1++[t.2.num,(t.2.den:Int)])
   rw [List.all_eq_true.mpr fun _ _=>rfl]at al;simp_arith [al];exact⟨_,_,rfl⟩
 ·rintro _ ⟨o2,o3,rfl⟩
  simp_arith
end K32
open PySem L2
namespace K32
open PySem L2
theorem zA7{f:Rat}(h:Bd 12 12000000 f):Nic 1 29 (fR f):=zjx (Nat.lt_of_le_of_lt (h.size (by decide)).2 (by decide)) (by rw [Int.natAbs_natCast]; exact Nat.lt_of_le_of_lt (h.size (by decide)).1 (by decide))
theorem NO.nic{N:Net}(h:NO N):Nic 8 100000000 N.d:=by
 have nl:=h.nl;have ln:=h.gn.ln;have n3:=h.n3;have ol:=h.ol;have d6:=(dp6 (n:=N.ls.length)).2;have a:Nic 6 20000000 (.tuple (N.ls.map .str)):=(zbK (n:=3) (k:=0) (M:=102) (fun d hd=>by
  obtain⟨z,hz,rfl⟩:=List.mem_map.mp hd;exact zpz (h.ac z hz)) (by rw [List.length_map]; exact n3)).mono (by decide) (by decide)
 have b:Nic 6 20000000 (.tuple (N.ns.map Nod.d)):=(zbK (n:=12) (fun d hd=>h.gn.nic (by omega) (by omega) d hd) (by rw [List.length_map]; exact nl)).mono (by decide) (by decide);have c:Nic 6 20000000 (tpD N.r N.os):=(zbK (n:=2) (k:=1) (M:=1000) (fun d hd=>by
  rcases qw.mp hd with rfl | hd
  ·exact(zA7 h.rb).mono (by decide) (by decide)
  ·cases qr.mp hd
   refine(zbK (n:=6) (k:=0) (M:=102) (fun e he=>?_) (by rw [List.length_map]; omega)).mono (by decide) (by decide);obtain⟨o,ho,rfl⟩:=List.mem_map.mp he;cases o with
   | none=>exact zsW.mono (by decide) (by decide)
   | some m =>
    have:=h.oi m ho;exact(zgC (show((m:Nat):Int).natAbs < 10^10 by omega)).mono (by decide) (by decide)) (qg _)).mono (by decide) (by decide)
 refine(zbK (n:=3) (k:=6) (M:=20000000) (fun d hd=>?_) (qg _)).mono (by decide) (by decide);rcases qw.mp hd with rfl | hd
 ·exact a
 rcases qw.mp hd with rfl | hd
 ·exact b
 cases qr.mp hd;exact c
theorem zwk{a b:U}{x:D}(ha:a.py=some x)(hb:b.py=some x)(hs:SeqAt.shaped x=true):zf6 false a b=some (.d (.bool true)):=by
 unfold zf6;rw [ha,bd,hb,bd,if_pos ⟨hs,hs⟩,if_neg (by decide),SeqAt.eqv_refl x (SeqAt.canLay_of_shaped hs)]
theorem znn{α:Type}(f g:α->D):∀ xs:List α,zjR (xs.map f) (xs.map g)=xs.map fun x=>.tuple [f x,g x]
 | []=>rfl
 | x::xs=>by
  show PyData.tuple [f x,g x]::zjR (xs.map f) (xs.map g)=_;rw [znn f g xs];rfl
theorem isl{xs:List D}:zeJ "list" (.l xs)=some (.d (.bool true)):=rfl
theorem zno(hs:List Int):SeqAt.shaped (.list (hs.map .int))=true:=by
 have a1:=PyProof.Rows.canLayAll_ints hs;have a2:=PyProof.Rows.depthAll_ints hs;unfold SeqAt.shaped;simp [PyData.canLay0,PyData.depth,a1,a2]
theorem znp{α:Type}(zs:List α):zqz (.l (zs.map fun _=>PyData.bool true))=some (.d (.bool true)):=by
 have al:=zuo (f:=fun _:α=>true) (zs:=zs);rw [List.all_eq_true.mpr fun _ _=>rfl]at al;exact al
theorem zlQ{N:Net}{Q:U×List U->Prop}(h:NO N)(kq:Q (.d (.bool true),[.d N.d])):Wo (za9 [.d N.d]) Q:=by
 have n1:=h.n1;have n3:=h.n3;have nl:=h.nl;have ln:=h.gn.ln;have hx:=h.all;have lq:=hx.ln;have hi:=zt0 (by omega) h.gn;have eqh:=zp2 (a:=aL N.hs) (b:=aL N.hs) rfl rfl (zno _);have ix1:zac (.d N.d) (.d (.int 1))=some (.d (.tuple (N.ns.map Nod.d))):=rfl;have np:=zlO h;have npo:=znk h;obtain⟨qT,_⟩:=h.tot N.os fun o ho=>ho;have lT:=qT.len n1 n3;simp_arith [za9,zfT,zou h,isl,zvY,zpT,ztU,List.getElem?_cons_zero,List.getElem?_cons_succ,Option.join_some,hi,eqh,ix1];refine zeO (g:=PyData.int) (as:=N.hs) (e:=fun _=>.bool true) (by omega) (fun k hk ys=>?_) ?_
 ·simp_arith [znm]
 have at1:=znp N.hs;simp_arith [at1,hi,eqh,ix1,np,isl];refine zer h ?_;obtain⟨qs,eqs⟩:∃ qs,qs=zcq N.ls.length N.ns:=⟨_,rfl⟩;rw [<-eqs]at hx lq npo qT lT ⊢;have zp:=znn (fun x:Nx=>.tuple (tmG fR (srt x.1))) pD qs;have at2:=znp qs;simp_arith [isl,List.length_map,zvY,zpT,ztU,List.getElem?_cons_zero,List.getElem?_cons_succ,Option.join_some,zp];refine zeO (as:=qs) (e:=fun _=>.bool true) (by omega) (fun x hm ys=>?_) ?_
 ·obtain⟨i,k,hi,k1,k2,qn,fn⟩:=hx.mem hm
  have l15:=zgi n1 n3 qn k2;have ip:=zjK (u:=.d (pD x)) rfl qn.nd (by omega) (fun t ht=>(qn.ky t ht).1.ln) n3;simp_arith [ip]
 simp_arith [at2,npo];refine zjJ h ?_;rw [<-eqs];have ip:=zjK (u:=.t (kvG fR (ze4 qs (T0 N) N.os).1)) zcg qT.nd (by omega) (fun t ht=>(qT.ky t ht).ln) n3;simp_arith [ip];exact kq
theorem zA8(ns:List Int)(hl:ns.length<=63):Wo (zkI [.d (.list (ns.map .int))]) fun o=>o=(.d (.bool true),[.d (.list (ns.map .int))]):=by
 simp_arith [zkI,zxu,List.length_map];refine zxv (by omega) fun x y=>?_;simp_arith;refine zpV fun N x1 y1 hN=>?_;simp_arith [List.length_map];refine zxv (by omega) fun x2 y2=>?_;simp_arith;refine zpV fun O x3 y3 hO=>?_;have i0:zac (.d N.d) (.d (.int 0))=some (.d (.tuple (N.ls.map .str))):=rfl;have i1:zac (.d N.d) (.d (.int 1))=some (.d (.tuple (N.ns.map Nod.d))):=rfl;have i2:zac (.d N.d) (.d (.int 2))=some (.d (tpD N.r N.os)):=rfl;have tt:zbP (.d (.tuple (N.ns.map Nod.d)))=some (.d (.tuple (N.ns.map Nod.d))):=rfl;have eqs:=zwk (a:=.d N.d) (b:=.d (.tuple [.tuple (N.ls.map .str),.tuple (N.ns.map Nod.d),tpD N.r N.os])) rfl rfl (hN.nic.shaped (by decide));simp_arith [i0,i1,i2,tt];refine zlQ hN ?_;simp_arith;refine zlQ hO ?_;simp_arith;refine zlQ hN ?_;simp_arith [eqs]
theorem zzG(ns:List Int)(hl:ns.length<=63):∃ outs,zkI [.d (.list (ns.map .int))]=some (.d (.bool true),outs):=⟨_,zO (zA8 ns hl)⟩
abbrev zup(K:qe):Sp:=spV K 1 zkI
theorem all_mk{l:PySem.W.OpenLaw}{w:World}{K:qe}{h:Heap}{mg:Str->Option Value}{fa:Addr}(X:K.In h)(G:h.Ns mainGlobals mg)(hfa:mg "law"=some (.ref fa)){TROOM:Tok}{GNOUGHT GONE CForm fXForm:Addr}{odTNOUGHT odTONE odXForm anXForm:Option Addr}{itTNOUGHT itTONE:Array Value}{nTNOUGHT nTONE:Nat}{slTNOUGHT slTONE slXForm:Array (Option Value)}{ocXForm kVXForm dcXForm pmXForm cdXForm ctXForm:Value}
  (a0:FnK K "is_number" zhw)
  (a1:FnK K "common_factor" zem)
  (a2:FnK K "is_fraction" zfx)
  (a3:FnK K "fraction" zjf)
  (a4:FnK K "powers_plus" zfy)
  (a5:FnK K "settled" zkD)
  (a6:FnK K "form_sum" zjg)
  (a7:FnK K "form_plus" zhx)
  (a8:FnK K "number_by_powers" zc1)
  (a9:FnK K "letter_by_powers" zc2)
  (a10:FnK K "times_by_powers" zdf)
  (a11:FnK K "fractions_of" zeP)
  (a12:FnK K "is_place" zjh)
  (a13:FnK K "mix_degree" zgI)
  (a14:FnK K "times_degree" zeQ)
  (a15:FnK K "node_degree" zfz)
  (a16:FnK K "degrees" zkE)
  (a17:FnK K "mix_form" zji)
  (a18:FnK K "node_forms" zgJ)
  (a19:FnK K "net_polys" zhy)
  (a20:FnK K "net_poly" zjj)
  (a21:FnK K "_law_box" zhz)
  (a22:FnK K "_law_take" zgK)
  (a23:FnK K "_law_names" zfA)
  (a24:FnK K "_law_fraction" zdQ)
  (a25:FnK K "_law_plus" zgL)
  (a26:FnK K "_law_times" zfB)
  (a27:FnK K "_law_poly_add" zdR)
  (a28:FnK K "_law_poly_mult" zdg)
  (a29:FnK K "_law_poly_number" zcs)
  (a30:FnK K "_law_poly_letter" zct)
  (a31:FnK K "_law_poly_told" zdh)
  (a32:FnK K "_law_number" zeR)
  (a33:FnK K "_law_factor" zeS)
  (a34:FnK K "_law_mix" zhA)
  (a35:FnK K "_law_nodes" zfC)
  (a36:FnK K "_law_high" zgM)
  (a37:FnK K "_law_top" zhB)
  (a38:FnK K "_law_net" zhC)
  (a39:FnK K "_law_scaled" zeT)
  (a40:FnK K "_law_net_polys" zdi)
  (a41:FnK K "_law_net_poly" zdS)
  (a42:FnK K "_law_whole" zfD)
  (a43:FnK K "_law_is_poly" zen)
  (a44:FnK K "_law_drawn" zfE)
  (a45:FnK K "_law_right" zfF)
  (a46:FnK K "law" zxt)
  (z0:PySem.W.nsIn K mainGlobals "isinstance"=some none)
  (z1:PySem.W.nsIn K mainGlobals "int"=some none)
  (z2:PySem.W.nsIn K mainGlobals "bool"=some none)
  (z3:PySem.W.nsIn K mainGlobals "tuple"=some none)
  (z4:PySem.W.nsIn K mainGlobals "len"=some none)
  (z5:PySem.W.nsIn K mainGlobals "abs"=some none)
  (z6:PySem.W.nsIn K mainGlobals "zip"=some none)
  (z7:PySem.W.nsIn K mainGlobals "max"=some none)
  (z8:PySem.W.nsIn K mainGlobals "sorted"=some none)
  (z9:PySem.W.nsIn K mainGlobals "range"=some none)
  (z10:PySem.W.nsIn K mainGlobals "dict"=some none)
  (z11:PySem.W.nsIn K mainGlobals "list"=some none)
  (z12:PySem.W.nsIn K mainGlobals "all"=some none)
  (xt0:zy5 K zAV xfl=true)
  (aIROOM:PySem.W.nsIn K mainGlobals "ROOM"=some (some (.int 256 TROOM)))
  (aTNOUGHT:PySem.W.nsIn K mainGlobals "NOUGHT"=some (some (.ref GNOUGHT)))
  (lTNOUGHT:K.lookup GNOUGHT=some ⟨.type "tuple",odTNOUGHT,.seq itTNOUGHT nTNOUGHT,slTNOUGHT⟩)
  (vTNOUGHT:zP [.int (0),.int (1)] itTNOUGHT.toList)
  (zTNOUGHT:itTNOUGHT.size<=sizeLine)
  (aTONE:PySem.W.nsIn K mainGlobals "ONE"=some (some (.ref GONE)))
  (lTONE:K.lookup GONE=some ⟨.type "tuple",odTONE,.seq itTONE nTONE,slTONE⟩)
  (vTONE:zP [.int (1),.int (1)] itTONE.toList)
  (zTONE:itTONE.size<=sizeLine)
  (aXForm:PySem.W.nsIn K mainGlobals "Form"=some (some (.ref CForm)))
  (kXForm:PySem.W.keepIn K (.ref CForm)=true)
  (mXForm:PySem.W.makesIn K CForm=true)
  (pgXForm:PySem.W.plainGet K CForm Str.empty=true)
  (hdXForm:PySem.W.hasDictIn K CForm=true)
  (poXForm:PySem.W.plainOver K CForm=true)
  (saXForm:PySem.W.findIn K (.ref CForm) "__setattr__"=some (some (.builtin "object.__setattr__")))
  (nXForm_numbers:PySem.W.findIn K (.ref CForm) "numbers"=some none)
  (nXForm_beneath:PySem.W.findIn K (.ref CForm) "beneath"=some none)
  (nXForm_room:PySem.W.findIn K (.ref CForm) "room"=some none)
  (iXForm:PySem.W.findIn K (.ref CForm) "__init__"=some (some (.ref fXForm)))
  (lXForm:K.lookup fXForm=some ⟨ocXForm,odXForm,.func (PySem.W.fnOf "__init__" "Form.__init__" (zd0 zgN) (zbW zgN) (zaj zgN) .none kVXForm dcXForm pmXForm anXForm cdXForm ctXForm),slXForm⟩)
  (cXForm:PySem.W.codeIn K cdXForm "Form.__init__"=true)
  (kfXForm:PySem.W.keepIn K (.ref fXForm)=true)
  (fnXForm:PySem.W.isFn K (.ref fXForm)=true)
  : ∃ fd:FuncData,(∀ (s:Shared) (v:Value),BindsTo s fd ⟨[v],[]⟩ [("_law_script",v)])/\∀ base:Heap,K.In base->base.Ns mainGlobals mg->FnOk l.prog w K mg base CX0 9 fa fd ["_law_script"] (spV K 1 zkI):=by
 obtain⟨_,fd,F,g⟩:=a46;cases hfa.symm.trans (PySem.W.mg_of X G g);refine⟨fd,fun s v=>by obtain⟨_,_,_,_,_,_,_,_,_,rfl,_⟩:=F.ex; exact .of_eq rfl,fun base _ _=>?_⟩;have hB:Bl mg ["isinstance", "int", "bool", "tuple", "len", "abs", "zip", "max", "sorted", "range", "dict", "list", "all"]:=Bl.cons (PySem.W.mg_none_of X G z0) (Bl.cons (PySem.W.mg_none_of X G z1) (Bl.cons (PySem.W.mg_none_of X G z2) (Bl.cons (PySem.W.mg_none_of X G z3) (Bl.cons (PySem.W.mg_none_of X G z4) (Bl.cons (PySem.W.mg_none_of X G z5) (Bl.cons (PySem.W.mg_none_of X G z6) (Bl.cons (PySem.W.mg_none_of X G z7) (Bl.cons (PySem.W.mg_none_of X G z8) (Bl.cons (PySem.W.mg_none_of X G z9) (Bl.cons (PySem.W.mg_none_of X G z10) (Bl.cons (PySem.W.mg_none_of X G z11) (Bl.cons (PySem.W.mg_none_of X G z12) (Bl.nil)))))))))))));have hT:=zAL xt0;have g_ROOM:=PySem.W.mg_of X G aIROOM;have g_NOUGHT:=PySem.W.mg_of X G aTNOUGHT;have gt_NOUGHT:GTi K GNOUGHT [0,1]:=⟨_,itTNOUGHT,nTNOUGHT,lTNOUGHT,rfl,rfl,zTNOUGHT,vTNOUGHT⟩;have g_ONE:=PySem.W.mg_of X G aTONE;have gt_ONE:GTi K GONE [1,1]:=⟨_,itTONE,nTONE,lTONE,rfl,rfl,zTONE,vTONE⟩;have gXForm:=PySem.W.mg_of X G aXForm;have FXForm:=zrx (st:=zgN) lXForm cXForm kfXForm;have oXForm:OCal l.prog w K mg base "Form" CForm ["numbers", "beneath", "room"]:=⟨aXForm,⟨pgXForm,hdXForm,poXForm,saXForm⟩,na3 nXForm_numbers nXForm_beneath nXForm_room,gXForm,_,_,["self", "numbers", "beneath", "room"],⟨mXForm,iXForm,fnXForm,kXForm⟩,FXForm.binds (fun _ _ _ _ _ _ us hl=>by obtain⟨_,_,_,_,rfl⟩:=zAU hl; rfl),FXForm.ok (k:=0) ztV (fun vs H Q E h=>zvU h) fun cdv A outer s H vs Q E hr hsp=>⟨_,ziv (znv (pv 0) (pv 1) rfl) (ziv (znv (pv 0) (pv 2) rfl) (zoB (znv (pv 0) (pv 3) rfl))),ztE ⟨pgXForm,hdXForm,poXForm,saXForm⟩ nXForm_numbers nXForm_beneath nXForm_room (by decide) (by decide) (by decide) hsp⟩⟩
 let Z:Zs:=⟨l.prog,w,K,mg,base⟩
 have B:Bs Z:=⟨hB,hT,⟨_,g_ROOM⟩,⟨_,g_NOUGHT,gt_NOUGHT⟩,⟨_,g_ONE,gt_ONE⟩,⟨_,oXForm⟩⟩;have C0:=zm3 B (a0.z X G);have C1:=zhZ B (a1.z X G);have C2:=zjW B (a2.z X G) C0 C1;have C3:=zom B (a3.z X G) C1;have C4:=zjU B (a4.z X G);have C5:=zqQ B (a5.z X G) C1;have C6:=zoo B (a6.z X G) C1 C5;have C7:=zm7 B (a7.z X G) C6;have C8:=zgg B (a8.z X G) C5;have C9:=zge B (a9.z X G);have C10:=zgU B (a10.z X G) C4 C5;have C11:=zjo B (a11.z X G) C3;have C12:=zon B (a12.z X G) C0;have C13:=zlH B (a13.z X G) C2 C12;have C14:=zjp B (a14.z X G) C12;have C15:=zjZ B (a15.z X G) C12 C13 C14;have C16:=zqR B (a16.z X G) C15;have C17:=zop B (a17.z X G) C6 C8;have C18:=zlI B (a18.z X G) C9 C10 C17;have C19:=zm9 B (a19.z X G) C11 C18;have C20:=zoq B (a20.z X G) C7 C8 C11 C18;have C21:=zm4 B (a21.z X G);have C22:=zlE B (a22.z X G);have C23:=zjX B (a23.z X G) C22;have C24:=zhk B (a24.z X G);have C25:=zlG B (a25.z X G) C24;have C26:=zjY B (a26.z X G) C24;have C27:=zhl B (a27.z X G) C25;have C28:=zgT B (a28.z X G) C25 C26;have C29:=zfl B (a29.z X G);have C30:=zfm B (a30.z X G);have C31:=zgP B (a31.z X G);have C32:=zjn B (a32.z X G) C22 C24;have C33:=zjq B (a33.z X G) C32;have C34:=zm6 B (a34.z X G) C22 C33;have C36:=zlF B (a36.z X G);have C35:=zj0 B (a35.z X G) C22 C34 C36;have C37:=zm5 B (a37.z X G) C22 C32 C36;have C38:=zm8 B (a38.z X G) C22 C35 C37;have C39:=zjr B (a39.z X G) C26;have C40:=zgV B (a40.z X G) C27 C28 C30 C39;have C41:=zhm B (a41.z X G) C27 C29 C40;have C42:=zjV B (a42.z X G);have C43:=zh0 B (a43.z X G) C31 C42;have C44:=zj1 B (a44.z X G) C22 C23 C38;have C45:=zj2 B (a45.z X G) C16 C19 C20 C36 C40 C41 C42 C43;exact zzt (Z:=Z) B F C21 C44 C45
theorem walk{l:PySem.W.OpenLaw}{q:Program}{loose:List Str}{XP:(Str->Option Value)->Heap->Prop}{YP:World->Heap->Prop}{d:DefRec}{K:Params->qe}(hn:l.most=some 63)(hdf:d.params.defaults=[])
  (hY:∀ (w:World) (h:Heap),YP w h->(K w.params).In h)
  (F:∀ (w:World) (mg:Str->Option Value) (fa:Addr) (h:Heap),(K w.params).In h->h.Ns mainGlobals mg->mg d.name=some (.ref fa) ->
   ∃ fd:FuncData,(∀ (s:Shared) (u:Value),BindsTo s fd ⟨[u],[]⟩ [("_law_script",u)])/\∀ base:Heap,(K w.params).In base->base.Ns mainGlobals mg->FnOk l.prog w (K w.params) mg base CX0 9 fa fd ["_law_script"] (zup (K w.params))) :
  PySem.W.WalkO q loose XP YP l.row.toRowW d [] (fun f vs=>PySem.call f vs) :=
 L2.walk_of (n:=63) (k:=9) (x := "_law_script") (CX:=fun _=>CX0) (sp:=fun w=>zup (K w.params)) hn (by decide) hdf ⟨rfl,by decide,by decide,rfl⟩ hY F (fun w H a ns hl hO hS=>zyH hO hS (zzG ns hl)) fun _ _ _ _ _ z=>z
end K32
namespace PySem.W.Fast
def tw16054468179673006322:=()
def tw12172737933569654118:=()
def tw17828665015190338104:=()
def tw9684306260797385646:=()
def tw11408944469668324544:=()
def tw18187599316369043152:=()
def tw17652735076253057853:=()
def tw18288885737462192972:=()
def tw2862547767551307051:=()
def tw17602555726337898647:=()
def tw6774208693854627482:=()
def tw13212162226087658943:=()
def tw3432001609187377893:=()
def tw1692810114489756222:=()
def tw3724639063218817151:=()
def tw17148685342510757498:=()
def tw12694870086765019567:=()
def tw12287297973814671029:=()
def tw12953592390738579772:=()
def tw10516024430868077676:=()
def tw10991418225647805878:=()
def tw881195807947052203:=()
def tw8406624844879223729:=()
def tw2971901780083704590:=()
def tw492510460409425943:=()
def tw15230215097367679833:=()
def tw8318458643674495698:=()
def tw10293440214239285517:=()
def tw2532593482627156939:=()
def tw16579192691169764720:=()
def tw16446184181527091702:=()
def tw8085169647389311666:=()
def tw15362049041911052626:=()
def tw13830049380154199999:=()
def tw11547037555938409033:=()
def tw17375940259342542895:=()
def tw966450339012481860:=()
def tw6871216861440777082:=()
def tw6341462342922326012:=()
def tw15640828891778128993:=()
def tw8280358383854775730:=()
def tw3307179460836459780:=()
def tw6337567275591007601:=()
def tw14081182418451257602:=()
def tw5244977651789759793:=()
def tw7594773003178760031:=()
def tw5212788088342556745:=()
def tw17081096426153789295:=()
def tw10471714794828108874:=()
def tw3238156829736264117:=()
def tw6133120747869174283:=()
def tw10356657289606313646:=()
def tw7958714334313876087:=()
def tw13466781627756868289:=()
def tw8408863061765477909:=()
def tw1618340944164754512:=()
def tw6997670945413841679:=()
def tw13194135374439740014:=()
def tw14733686944460036119:=()
def tw10554985285679428882:=()
def tw12079435199446155499:=()
def tw5287724668887677454:=()
def tw14788730021398355286:=()
def tw12967464159210140:=()
def tw10081117624221855865:=()
def tw13667325951969552663:=()
def tw14009651433773408821:=()
def tw8062577331276886208:=()
def tw13030648984027207195:=()
def tw304945992846467551:=()
def tw5091274498058752131:=()
def tw3968956303119261523:=()
def tw17296118003594443328:=()
def tw16266282833699505687:=()
def tw4518219813440947509:=()
def tw17809525808462263926:=()
def tw6724025046388553990:=()
def tw9519384476100308450:=()
def tw15290603517865625103:=()
def tw15663160357953459734:=()
def tw13456243657972692904:=()
def tw9997293281894658919:=()
def tw11841222568789104942:=()
def tw13560464834528576708:=()
def tw14836024160338941222:=()
def tw17242843470067285128:=()
def tw16569220848164850097:=()
def tw7210956739395368220:=()
def tw16847225193045849906:=()
def tw10662753185266941194:=()
def tw14892410337724886458:=()
def tw10826382422049861146:=()
def tw18022094809014056142:=()
def tw13509866389443278482:=()
def tw14217600840069971366:=()
def tw10044685636648027606:=()
def tw9286328279853271284:=()
def tw6156009578102317851:=()
def tw10775121723321102098:=()
def tw15741808820366185331:=()
def tw2425044385103840428:=()
def tw1022774267734802219:=()
def tw15388880877651596357:=()
def tw2428746557641379690:=()
def tw2524777523624372255:=()
def tw15537693534186176386:=()
def tw4731839106149366997:=()
def tw13633731316012490183:=()
def tw8567300602417759290:=()
def tw13621578794515587822:=()
def tw4688500557067009704:=()
def tw5382018347878465002:=()
def tw15517068383962756337:=()
def tw7896303001366539016:=()
def tw10601251715405019604:=()
def tw7407952739774077118:=()
def tw12558374509937516650:=()
def tw10562341818547795777:=()
def tw4224428764853569324:=()
def tw4565919439482680763:=()
def tw7604733773567810500:=()
def tw6271832187270114269:=()
def tw12477428284135508994:=()
def tw9142060981878229345:=()
def tw15988882550035404898:=()
def tw9052371077852754867:=()
def tw10295822280423931167:=()
def tw13306223223103680616:=()
def tw5241756602581815192:=()
def tw2548890629371882103:=()
def tw5527923711810252818:=()
def tw3980102957722249164:=()
def tw3037003398763827200:=()
def tw602521493298985311:=()
def tw15202216247130546953:=()
def tw7134241715586217737:=()
def tw3726651805783759837:=()
def tw2204860858350784189:=()
def tw2813938919595339959:=()
def tw8497672107352876990:=()
def tw10231715750380550601:=()
def tw7461603477048192450:=()
def tw10594239825374073822:=()
def tw1778013578688839397:=()
def tw10662651835481205700:=()
def tw16810739720159802919:=()
def tw4396935073858448497:=()
def tw17439775637078492167:=()
def tw16374179459030872756:=()
def tw13571245021925502607:=()
def tw7542868341968390155:=()
def tw3834731174203867595:=()
def tw3678239459577344396:=()
def tw14909742863396130603:=()
def tw10428471691629549958:=()
def tw10490813738905119646:=()
def tw1570959142183447098:=()
def tw6999702567756282541:=()
def tw18359837678413684340:=()
def tw7800671921344406214:=()
def tw6007294132837146769:=()
def tw1605252914105673358:=()
def tw7193068818989632299:=()
def tw5948905209448538725:=()
def tw3703032799869501657:=()
def tw14757389559797651974:=()
def tw16935246489112159696:=()
def tw9421717741456134781:=()
def tw10261919900527577228:=()
def tw14486596700746658031:=()
def tw7944030070501772280:=()
def tw1954379036902784369:=()
def tw7378638024155689984:=()
def tw15627354201061687799:=()
def tw8620847292569216639:=()
def tw6564883881175749568:=()
def tw829224739418766686:=()
def tw3485507147892516304:=()
def tw11475621174706043813:=()
def tw4487425931340979586:=()
def tw15047865612056982248:=()
def tw7563087243092890645:=()
def tw11033432709806003349:=()
def tw3421649730435184585:=()
def tw8679376845895965920:=()
def tw2971347999060679207:=()
def tw8307027954526989931:=()
def tw12646114108533554603:=()
def tw10038203664839546237:=()
def tw13344202281896339202:=()
def tw17233493647676291036:=()
def tw699179465610070528:=()
def tw7917313278384213256:=()
def tw13623134288664547008:=()
def tw1509908597171762795:=()
def tw15935760040898391601:=()
def tw14688717505324128689:=()
def tw3697133354274370137:=()
def tw18284731837902524847:=()
def tw5717092062917404915:=()
def tw12422863943235284753:=()
def tw1313555597571465289:=()
def tw11965063159343964821:=()
def tw8325775766957723974:=()
def tw13953316449378305291:=()
def tw6372861568691670324:=()
def tw15216665455160961828:=()
def tw5084237973721133367:=()
def tw16844918301822990405:=()
def tw7692962709068912313:=()
def tw13308493887496587116:=()
def tw2042060431069965351:=()
def tw9219698575194615460:=()
def tw4130712679577363302:=()
def tw6939565347335636682:=()
end PySem.W.Fast
open PySem PySem.W PyProof.Rows
set_option maxRecDepth 100000 in
set_option maxHeartbeats 0 in
theorem PySem.Challenge.cw_undivide_k32_what_nodes_stand_for_holds : PySem.Challenge.rw_undivide_k32_what_nodes_stand_for.Holds := by
 w_on; o_law; k_head; (case hw=>w_witness2)
 k_fill
 refine K32.walk (l:=PySem.Challenge.rw_undivide_k32_what_nodes_stand_for) rfl rfl (fun w h Y=>PySem.W.kIn_of Y) ?F
 case F =>
  intro w mg fa h KX G hmg;refine' K32.all_mk KX G hmg ?a0 ?a1 ?a2 ?a3 ?a4 ?a5 ?a6 ?a7 ?a8 ?a9 ?a10 ?a11 ?a12 ?a13 ?a14 ?a15 ?a16 ?a17 ?a18 ?a19 ?a20 ?a21 ?a22 ?a23 ?a24 ?a25 ?a26 ?a27 ?a28 ?a29 ?a30 ?a31 ?a32 ?a33 ?a34 ?a35 ?a36 ?a37 ?a38 ?a39 ?a40 ?a41 ?a42 ?a43 ?a44 ?a45 ?a46 ?z0 ?z1 ?z2 ?z3 ?z4 ?z5 ?z6 ?z7 ?z8 ?z9 ?z10 ?z11 ?z12 ?xt0 ?aIROOM ?aTNOUGHT ?lTNOUGHT ?vTNOUGHT ?zTNOUGHT ?aTONE ?lTONE ?vTONE ?zTONE ?aXForm ?kXForm ?mXForm ?pgXForm ?hdXForm ?poXForm ?saXForm ?nXForm_numbers ?nXForm_beneath ?nXForm_room ?iXForm ?lXForm ?cXForm ?kfXForm ?fnXForm
  any_goals (refine' L2.fnK ?_ ?_ ?_ ?_<;>try k_is)
  (case z0=>k_is)
  (case z1=>k_is)
  (case z2=>k_is)
  (case z3=>k_is)
  (case z4=>k_is)
  (case z5=>k_is)
  (case z6=>k_is)
  (case z7=>k_is)
  (case z8=>k_is)
  (case z9=>k_is)
  (case z10=>k_is)
  (case z11=>k_is)
  (case z12=>k_is)
  (case xt0=>kernel_rfl)
  (case aIROOM=>k_is)
  (case aTNOUGHT=>k_is)
  (case lTNOUGHT=>k_is)
  (case vTNOUGHT=>(repeat (first | exact .nil | refine .cons ⟨_,rfl⟩ ?_)))
  (case zTNOUGHT=>exact by decide)
  (case aTONE=>k_is)
  (case lTONE=>k_is)
  (case vTONE=>(repeat (first | exact .nil | refine .cons ⟨_,rfl⟩ ?_)))
  (case zTONE=>exact by decide)
  (case aXForm=>k_is)
  (case kXForm=>k_is)
  (case mXForm=>k_is)
  (case pgXForm=>k_is)
  (case hdXForm=>k_is)
  (case poXForm=>k_is)
  (case saXForm=>k_is)
  (case nXForm_numbers=>k_is)
  (case nXForm_beneath=>k_is)
  (case nXForm_room=>k_is)
  (case iXForm=>k_is)
  (case lXForm=>k_is)
  (case cXForm=>k_is)
  (case kfXForm=>k_is)
  (case fnXForm=>k_is)
