import PyProof.Rows.All
import Wide.All
import OpenK.AllK
import Wide.FinOn
import Lean
import PyProof.EqAt
import PyProof.EqKinds
import PyProof.TupleCall
import PySem.Challenge.RW_undivide_k45_signed_sums
set_option Elab.async false
set_option linter.all false
set_option maxRecDepth 100000
namespace L2
open PySem PySem.Spec PyProof.Rows
abbrev qa:=@wpAny_bind
abbrev qb:=@wpAny_pure
abbrev qc:=PySem.W.Frag
abbrev qd:=@Heap.get?_push_of_some
abbrev qe:=@Nat.le_refl
abbrev qf:=@Bool.false_ne_true
abbrev qg:=@Heap.get?_push_size
abbrev qh:=@Heap.lt_size
abbrev qi:=@Nat.lt_of_lt_of_le
abbrev qj:=@Nat.ne_of_lt
abbrev qk.{u}:=@List.getElem?_eq_some_iff.{u}
abbrev ql.{u}:=@List.getElem?_eq_getElem.{u}
abbrev qm.{u}:=@List.mem_cons_of_mem.{u}
abbrev qo.{u}:=@List.mem_cons_self.{u}
abbrev qp.{u}:=@List.mem_singleton.{u}
abbrev qq.{u,v}:=@Option.map_eq_some_iff.{u,v}
abbrev qr.{u}:=@List.length_append.{u}
abbrev qt.{u}:=@List.length_cons.{u}
abbrev qu.{u}:=@List.mem_cons.{u}
abbrev qv.{u}:=@List.mem_append_right.{u}
abbrev qw.{u}:=@Option.some.inj.{u}
abbrev qx:=@Nat.le_trans
abbrev qy:=@wpAny_newObj_type
abbrev qA.{u}:=@List.getD_eq_getElem?_getD.{u}
abbrev qB.{u}:=@List.getElem?_set_ne.{u}
abbrev Key:=Sum Int Str
def zh7:Key->Value->Bool
 | .inl k,v=>Value.isInt k v
 | .inr x,v=>Value.isStrOf x v
def zw1(w:World):Key->Int
 | .inl k=>hashInt k
 | .inr x=>hashStr w x
theorem zaU:∀ {k:Key} {v:Value},zh7 k v=true->(∃ i t,k=Sum.inl i/\v=Value.int i t)\/(∃ x t,k=Sum.inr x/\v=Value.str x t)
 | .inl i,v,h=>by
  obtain⟨t,e⟩:=Value.isInt_shape (k:=i) (v:=v) h
  exact .inl ⟨i,t,rfl,e⟩
 | .inr x,v,h=>by
  obtain⟨t,e⟩:=Value.isStrOf_shape (x:=x) (v:=v) h
  exact .inr ⟨x,t,rfl,e⟩
theorem znA(i:Int)(t:Tok):zh7 (.inl i) (.int i t)=true:=by simp [zh7,Value.isInt]
theorem znB(x:Str)(t:Tok):zh7 (.inr x) (.str x t)=true:=by simp [zh7,Value.isStrOf]
theorem zuO(a b:Int):decide ((Sum.inl a:Key)=Sum.inl b)=(a==b):=by
 by_cases e:a=b
 ·subst e; simp
 ·have h:¬(Sum.inl a:Key)=Sum.inl b:=fun q=>e (Sum.inl.inj q)
  rw [decide_eq_false h]
  exact(beq_eq_false_iff_ne.mpr e).symm
theorem zuP(a b:Str):decide ((Sum.inr a:Key)=Sum.inr b)=decide (a=b):=by
 by_cases e:a=b
 ·subst e; simp
 ·have h:¬(Sum.inr a:Key)=Sum.inr b:=fun q=>e (Sum.inr.inj q)
  rw [decide_eq_false h,decide_eq_false e]
theorem zuQ(a:Int)(b:Str):decide ((Sum.inl a:Key)=Sum.inr b)=false:=decide_eq_false (fun q=>nomatch q)
theorem zuR(a:Str)(b:Int):decide ((Sum.inr a:Key)=Sum.inl b)=false:=decide_eq_false (fun q=>nomatch q)
def zai(prog:Program)(w:World):PySem.KeyKind prog w Key where
 is:=zh7
 hash:=zw1 w
 inj:=fun v a b ha hb=>by
  rcases zaU ha with ⟨i,t,rfl,rfl⟩ | ⟨x,t,rfl,rfl⟩
  ·rcases zaU hb with ⟨j,u,rfl,e⟩ | ⟨y,u,rfl,e⟩
   ·injection e with e1 _; rw [e1]
   ·exact nomatch e
  ·rcases zaU hb with ⟨j,u,rfl,e⟩ | ⟨y,u,rfl,e⟩
   ·exact nomatch e
   ·injection e with e1 _; rw [e1]
 byValue:=fun k v h=>by
  rcases zaU h with ⟨i,t,rfl,rfl⟩ | ⟨x,t,rfl,rfl⟩<;>rfl
 pyHash:=fun hv h=>by
  rcases zaU hv with ⟨i,t,rfl,rfl⟩ | ⟨x,t,rfl,rfl⟩
  ·exact wpAny_pyHash_int h
  ·exact wpAny_pyHash_str h
 eqBool:=fun hu hv h=>by
  rcases zaU hu with ⟨i,t,rfl,rfl⟩ | ⟨x,t,rfl,rfl⟩
  ·rcases zaU hv with ⟨j,u,rfl,rfl⟩ | ⟨y,u,rfl,rfl⟩
   ·rw [zuO]at h; exact wpAny_eqBool_int h
   ·rw [zuQ]at h; exact SeqAt.EqAt.int_str i t y u _ _ _ _ h
  ·rcases zaU hv with ⟨j,u,rfl,rfl⟩ | ⟨y,u,rfl,rfl⟩
   ·rw [zuR]at h; exact SeqAt.EqAt.str_int x t j u _ _ _ _ h
   ·rw [zuP]at h; exact wpAny_eqBool_str h
 «strs»:=fun k x t v h=>by
  rcases zaU h with ⟨i,u,rfl,e⟩ | ⟨y,u,rfl,e⟩
  ·exact nomatch e
  ·injection e with e1 _
   subst e1
   cases v<;>rfl
theorem zjz(prog:Program)(w:World)(i:Int)(t:Tok):(zai prog w).is (.inl i) (.int i t)=true:=znA i t
theorem zjA(prog:Program)(w:World)(x:Str)(t:Tok):(zai prog w).is (.inr x) (.str x t)=true:=znB x t
inductive V where
 | non | bl (b:Bool) | int (i:Int) | str (x:Str) | byt (b:Array UInt8) | flt (b:UInt64) | ref (a:Addr) | ty (n:String)
 deriving DecidableEq
def zU:V->Value->Prop
 | .non,u=>u=Value.none
 | .bl b,u=>u=Value.bool b
 | .int i,u=>∃ t,u=Value.int i t
 | .str x,u=>∃ t,u=Value.str x t
 | .byt b,u=>∃ t,u=Value.bytes b t
 | .flt b,u=>∃ t,u=Value.float b t
 | .ref a,u=>u=Value.ref a
 | .ty n,u=>u=Value.type n
abbrev zN:List V->List Value->Prop:=Paired zU
theorem zN.length{xs:List V}{us:List Value}(r:zN xs us):xs.length=us.length:=Paired.length r
theorem zN.get:∀ {xs:List V} {us:List Value} {i:Nat} {x:V},zN xs us->xs[i]?=some x->∃ u,us[i]?=some u/\zU x u
 | _,_,_,_,.nil,e=>by simp at e
 | _,_,0,_,.cons r _,e=>by simp at e; subst e; exact⟨_,rfl,r⟩
 | _,_,i+1,x,.cons _ t,e=>by
  obtain⟨u,h1,h2⟩:=zN.get (i:=i) (x:=x) t (by simpa using e)
  exact⟨u,by simpa using h1,h2⟩
theorem zN.set{x:V}{u:Value}(r:zU x u):∀ {xs:List V} {us:List Value} (i:Nat),zN xs us->zN (xs.set i x) (us.set i u)
 | _,_,_,.nil=>.nil
 | _,_,0,.cons _ t=>.cons r t
 | _,_,i+1,.cons q t=>.cons q (zN.set r i t)
theorem zN.append:∀ {xs ys:List V} {us ws:List Value},zN xs us->zN ys ws->zN (xs++ys) (us++ws)
 | _,_,_,_,.nil,s=>s
 | _,_,_,_,.cons r t,s=>.cons r (zN.append t s)
theorem zN.take:∀ {xs:List V} {us:List Value} (n:Nat),zN xs us->zN (xs.take n) (us.take n)
 | _,_,0,_=>.nil
 | _,_,_+1,.nil=>.nil
 | _,_,n+1,.cons r t=>.cons r (zN.take n t)
theorem zN.drop:∀ {xs:List V} {us:List Value} (n:Nat),zN xs us->zN (xs.drop n) (us.drop n)
 | _,_,0,r=>r
 | _,_,_+1,.nil=>.nil
 | _,_,n+1,.cons _ t=>zN.drop n t
def zeK:Option V->Option Value->Prop
 | some v,some u=>zU v u
 | none,none=>True
 | _,_=>False
def KV{κ:Type}:List (κ×V)->List (κ×Value)->Prop:=Paired fun(p:κ×V) (q:κ×Value)=>p.1=q.1/\zU p.2 q.2
def kV:Key->V
 | .inl i=>.int i
 | .inr x=>.str x
inductive HO where
 | lst (xs:List V)
 | tup (xs:List V)
 | dK (kvs:List (Key×V)) | dT (kvs:List (List Key×V))
 | set (S:Int->Bool) (n:Nat)
 | ins (C dx:Addr) (fs:List (Str×V))
 | own (x:Addr)
 | xd (fs:List (Str×V))
 | met (f x:Addr)
 | rng (lo hi:Int)
 | frz (o:Obj) (u:HO)
 | tbl (ps:Array Value)
 | ext (φ:Heap->Prop)
abbrev Hp:=Addr->Option HO
def upd(H:Hp)(a:Addr)(o:HO):Hp:=fun b=>if b=a then some o else H b
theorem zx{H:Hp}{a:Addr}{o:HO}:upd H a o a=some o:=by unfold upd; rw [if_pos rfl]
theorem zA{H:Hp}{a b:Addr}{o:HO}(h:b≠a):upd H a o b=H b:=by unfold upd; rw [if_neg h]
theorem zgA{H:Hp}{a:Addr}{o u:HO}:upd (upd H a o) a u=upd H a u:=by
 funext b; unfold upd; split<;>rfl
theorem zfe{H:Hp}{a b:Addr}{o u:HO}(h:H a=some o)(h':H b=some u)(d:o≠u):a≠b:=by
 intro e; subst e; rw [h]at h'; exact d (qw h')
theorem zac{H:Hp}{a b:Addr}{o:HO}(h:H a=some o)(h':H b=none):a≠b:=by
 intro e; subst e; rw [h]at h'; cases h'
def zyw(K:qc)(a:Addr)(xs:List V):Prop:=∃ (o:Obj) (its:Array Value) (n:Nat),K.lookup a=some o/\o.cls=.type "tuple"/\o.data=.seq its n/\its.size<=sizeLine/\zN xs its.toList
def TpK(K:qc)(H:Hp)(a:Addr)(xs:List V):Prop:=H a=some (.tup xs)\/zyw K a xs
theorem TpK.keeps{K:qc}{H H':Hp}{a:Addr}{xs:List V}(h:TpK K H a xs)(ht:∀ b ys,H b=some (.tup ys)->H' b=some (.tup ys)):TpK K H' a xs:=h.imp (ht _ _) id
section
variable (P:Program) (w:World) (K:qc)
def zaj(H:Hp)(h:Heap)(a:Addr):HO->Prop
 | .lst xs=>xs.length<=sizeLine/\∃ (its:List Value) (n:Nat),zN xs its/\h.get? a=some { cls:=.type "list",data:=.seq its.toArray n }
 | .tup xs=>xs.length<=sizeLine/\∃ its:List Value,zN xs its/\IsTup h a its.toArray
 | .dK kvs=>kvs.length<=sizeLine/\(a==sysModules)=false/\∃ vs,KV kvs vs/\h.DictOf (zai P w) a vs
 | .dT kvs=>kvs.length<=sizeLine/\(a==sysModules)=false/\∃ xs:List (List Key×Addr×Value),
   Paired (fun(p:List Key×V) (q:List Key×Addr×Value)=>p.1=q.1/\TpK K H q.2.1 (p.1.map kV)/\zU p.2 q.2.2) kvs xs /\
   ∃ o es ep,h.get? a=some o/\o.ExactDict/\o.data=.dict es ep/\es.toList=xs.map (entryOfKey (tupleKind (zai P w)))/\(xs.map (·.1)).Nodup
 | .set S n=>h.SetOf (intKind P w) a S n
 | .ins C dx fs=>H dx=some (.own a)/\fs.length<=1000/\dx≠a/\h.get? a=some (PySem.W.instObj C dx) /\
   ∃ mA,h.Ns1 dx mA/\(∀ f,zeK (fs.lookup f) (mA f))/\PySem.Within mA (fs.map (·.1))
 | .own _=>∃ o,h.get? a=some o
 | .xd fs=>∃ mA,h.Ns1 a mA/\∀ f,zeK (fs.lookup f) (mA f)
 | .rng lo hi=>∃ t u v,h.get? a=some { cls:=.type "range",data:=.fields #[.int lo t,.int hi u,.int 1 v] }
 | .frz o u=>h.get? a=some o/\zaj H h a u
 | .tbl ps=>h.get? a=some { cls:=.none,data:=.fields ps }
 | .met f x=>h.get? a=some (PySem.W.methodObj (.ref f) (.ref x))
 | .ext φ=>φ h/\(∃ o,h.get? a=some o)/\∀ h1 h2:Heap,φ h1->(∀ o,h1.get? a=some o->h2.get? a=some o)->φ h2
def HOk(H:Hp)(h:Heap):Prop:=∀ a o,H a=some o->zaj P w K H h a o
end
section
variable {P:Program} {w:World} {K:qc} {H H':Hp} {h h':Heap} {a:Addr} {o:HO}
theorem zaj.lt(x:zaj P w K H h a o):a < h.objs.size:=by
 cases o with
 | lst xs=>obtain⟨_,_,_,_,e⟩:=x; exact qh e
 | tup xs=>obtain⟨_,_,_,p⟩:=x; exact p.lt
 | dK kvs=>obtain⟨_,_,_,_,o,_,_,e,_⟩:=x; exact qh e
 | dT kvs=>obtain⟨_,_,_,_,o,_,_,e,_⟩:=x; exact qh e
 | set S n=>obtain⟨o,_,_,_,e,_⟩:=x; exact qh e
 | ins C dx fs=>obtain⟨_,_,_,e,_⟩:=x; exact qh e
 | own y=>obtain⟨_,e⟩:=x; exact qh e
 | xd fs=>obtain⟨_,⟨_,_,_,e,_⟩,_⟩:=x; exact qh e
 | rng lo hi=>obtain⟨_,_,_,e⟩:=x; exact qh e
 | frz ob u=>obtain⟨e,_⟩:=x; exact qh e
 | tbl ps=>exact qh (show h.get? a=some _ from x)
 | met f y=>exact qh (show h.get? a=some _ from x)
 | ext φ=>obtain⟨_,⟨_,e⟩,_⟩:=x; exact qh e
theorem Paired.mapP{α β:Type}{F G:α->β->Prop}:∀ {l₁:List α} {l₂:List β},Paired F l₁ l₂->(∀ a b,F a b->G a b)->Paired G l₁ l₂
 | _,_,.nil,_=>.nil
 | _,_,.cons r t,f=>.cons (f _ _ r) (Paired.mapP t f)
theorem zaj.stay(x:zaj P w K H h a o)(k:∀ b u,(b=a\/H b=some (.own a))->h.get? b=some u->h'.get? b=some u)
  (ho:∀ b,H b=some (.own a)->H' b=some (.own a)) (ht:∀ b xs,H b=some (.tup xs)->H' b=some (.tup xs)):zaj P w K H' h' a o:=by
 induction o with
 | lst xs=>obtain⟨z,its,n,r,e⟩:=x; exact⟨z,its,n,r,k _ _ (.inl rfl) e⟩
 | tup xs=>obtain⟨z,its,r,ob,e,c⟩:=x; exact⟨z,its,r,ob,k _ _ (.inl rfl) e,c⟩
 | dK kvs=>obtain⟨z,y,vs,r,ob,es,ep,e,c⟩:=x; exact⟨z,y,vs,r,ob,es,ep,k _ _ (.inl rfl) e,c⟩
 | dT kvs =>
  obtain⟨z,y,xs,r,ob,es,ep,e,c⟩:=x
  exact⟨z,y,xs,Paired.mapP r fun p q z=>⟨z.1,z.2.1.keeps ht,z.2.2⟩,ob,es,ep,k _ _ (.inl rfl) e,c⟩
 | set S n=>obtain⟨ob,es,ep,t,e,c⟩:=x; exact⟨ob,es,ep,t,k _ _ (.inl rfl) e,c⟩
 | ins C dx fs =>
  obtain⟨d,z,ne,e,mA,⟨od,es,ep,e2,c⟩,r⟩:=x
  exact⟨ho _ d,z,ne,k _ _ (.inl rfl) e,mA,⟨od,es,ep,k _ _ (.inr d) e2,c⟩,r⟩
 | own y=>obtain⟨ob,e⟩:=x; exact⟨ob,k _ _ (.inl rfl) e⟩
 | xd fs=>obtain⟨mA,⟨od,es,ep,e,c⟩,r⟩:=x; exact⟨mA,⟨od,es,ep,k _ _ (.inl rfl) e,c⟩,r⟩
 | rng lo hi=>obtain⟨t,u,v,e⟩:=x; exact⟨t,u,v,k _ _ (.inl rfl) e⟩
 | frz ob u ih=>obtain⟨e,q⟩:=x; exact⟨k _ _ (.inl rfl) e,ih q⟩
 | tbl ps =>
  have e:h.get? a=some { cls:=.none,data:=.fields ps }:=x
  show h'.get? a=some { cls:=.none,data:=.fields ps }
  exact k a _ (.inl rfl) e
 | met f y =>
  have e:h.get? a=some (PySem.W.methodObj (.ref f) (.ref y)):=x
  show h'.get? a=some (PySem.W.methodObj (.ref f) (.ref y))
  exact k a _ (.inl rfl) e
 | ext φ=>obtain⟨p,⟨o,e⟩,st⟩:=x; exact⟨st _ _ p fun o q=>k _ _ (.inl rfl) q,⟨o,k _ _ (.inl rfl) e⟩,st⟩
theorem HOk.lt(x:HOk P w K H h)(e:H a=some o):a < h.objs.size:=(x a o e).lt
theorem HOk.fresh(x:HOk P w K H h)(e:h.objs.size<=a):H a=none:=by
 cases q:H a with
 | none=>rfl
 | some u=>exact absurd (qi (x.lt q) e) (Nat.lt_irrefl _)
theorem HOk.kept(x:HOk P w K H h)(k:∀ b u,h.get? b=some u->h'.get? b=some u):HOk P w K H h':=fun a o e =>
 (x a o e).stay (fun b u _ q=>k b u q) (fun _ q=>q) fun _ _ q=>q
theorem HOk.laid(x:HOk P w K H h)(k:∀ b u,h.get? b=some u->h'.get? b=some u)(hp:h.objs.size<=a)(new:zaj P w K (upd H a o) h' a o):HOk P w K (upd H a o) h':=fun b u e=>by
 have hn:=x.fresh hp
 by_cases hb:b=a
 ·subst hb; rw [zx]at e; cases e; exact new
 ·rw [zA hb]at e
  exact(x b u e).stay (fun c v _ q=>k c v q) (fun c q=>by rw [zA (zac q hn)]; exact q) fun c xs q=>by rw [zA (zac q hn)]; exact q
end
def Rd(H:Hp)(a:Addr)(u:HO):Prop:=H a=some u\/∃ o,H a=some (.frz o u)
theorem Rd.ok{P:Program}{w:World}{K:qc}{H:Hp}{h:Heap}{a:Addr}{u:HO}(r:Rd H a u)(x:HOk P w K H h):zaj P w K H h a u:=by
 rcases r with r | ⟨o,r⟩
 ·exact x a u r
 ·obtain⟨_,q⟩:=x a _ r
  exact q
def Mut:Option HO->Prop
 | some (.lst _)=>True
 | some (.dK _)=>True
 | some (.dT _)=>True
 | some (.set _ _)=>True
 | some (.ins _ _ _)=>True
 | some (.ext _)=>True
 | _=>False
section
variable {P:Program} {w:World} {K:qc} {H:Hp} {h h':Heap} {x e:Addr} {o':HO}
theorem HOk.write(ok:HOk P w K H h)(mu:Mut (H x))(he:e=x\/H e=some (.own x))(k:∀ b u,b≠e->h.get? b=some u->h'.get? b=some u)(heo:∃ u,h'.get? e=some u)
  (new:zaj P w K (upd H x o') h' x o'):HOk P w K (upd H x o') h':=fun b u q=>by
 have nown:∀ c y,H c=some (.own y)->c≠x:=fun c y r z=>by subst z; rw [r]at mu; exact mu
 have ntup:∀ c xs,H c=some (.tup xs)->c≠x:=fun c xs r z=>by subst z; rw [r]at mu; exact mu
 by_cases hb:b=x
 ·subst hb; rw [zx]at q; cases q; exact new
 ·rw [zA hb]at q
  by_cases hbe:b=e
  ·have q':H b=some (.own x):=by
    rcases he with z | z
    ·exact absurd (hbe.trans z) hb
    ·rw [hbe]; exact z
   rw [q]at q'; cases q'
   obtain⟨v,hv⟩:=heo
   exact⟨v,by rw [hbe]; exact hv⟩
  ·refine(ok b u q).stay (fun c v hc r=>k c v ?_ r) (fun c r=>by rw [zA (nown c b r)]; exact r) fun c xs r=>by rw [zA (ntup c xs r)]; exact r
   rcases hc with rfl | hc
   ·exact hbe
   ·rintro rfl
    rcases he with z | z
    ·exact nown c b hc z
    ·rw [hc]at z; cases z; exact hb rfl
end
structure Un (fs ex:List Addr) (H H':Hp) (h h':Heap):Prop where
 keep:∀ b o,h.get? b=some o->H b=none->b∉fs->b∉ex->h'.get? b=some o
 slot:∀ b o,h.get? b=some o->H b=none->b∈fs->b∉ex->∃ sl,h'.get? b=some { o with slots:=sl }
 free:∀ b o,h.get? b=some o->H b=none->b∉ex->H' b=none
 there:∀ b o,h.get? b=some o->b∉ex->∃ o',h'.get? b=some o'
 tups:∀ b xs,H b=some (.tup xs)->H' b=some (.tup xs)
 frzs:∀ b o u,H b=some (.frz o u)->H' b=some (.frz o u)
 tbls:∀ b ps,H b=some (.tbl ps)->∃ more,H' b=some (.tbl (ps++more))
section
variable {fs fs' ex ex':List Addr} {H H1 H2:Hp} {h h1 h2 h':Heap} {a x e:Addr} {o:HO}
theorem Un.any(u:Un fs ex H H1 h h1){b:Addr}{ob:Obj}(q:h.get? b=some ob)(n:H b=none)(hx:b∉ex):∃ sl,h1.get? b=some { ob with slots:=sl }:=by
 by_cases hb:b∈fs
 ·exact u.slot b ob q n hb hx
 ·exact⟨ob.slots,u.keep b ob q n hb hx⟩
theorem Un.kept(k:∀ b u,h.get? b=some u->h'.get? b=some u):Un fs ex H H h h' :=
 ⟨fun b ob q _ _ _=>k b ob q,fun b ob q _ _ _=>⟨ob.slots,k b ob q⟩,fun _ _ _ n _=>n,fun b ob q _=>⟨ob,k b ob q⟩,fun _ _ q=>q,fun _ _ _ q=>q,fun _ ps q=>⟨#[],by rw [q]; simp⟩⟩
theorem Un.refl:Un fs ex H H h h:=Un.kept fun _ _ q=>q
theorem Un.laid(k:∀ b u,h.get? b=some u->h'.get? b=some u)(hp:h.objs.size<=a)(hn:H a=none):Un fs ex H (upd H a o) h h' where
 keep:=fun b u q _ _ _=>k b u q
 slot:=fun b u q _ _ _=>⟨u.slots,k b u q⟩
 free:=fun b u q n _=>by rw [zA (qj (qi (qh q) hp))]; exact n
 there:=fun b u q _=>⟨u,k b u q⟩
 tups:=fun b xs q=>by rw [zA (zac q hn)]; exact q
 frzs:=fun b u xs q=>by rw [zA (zac q hn)]; exact q
 tbls:=fun b ps q=>⟨#[],by rw [zA (zac q hn),q]; simp⟩
theorem Un.write(mu:Mut (H x))(he:e=x\/H e=some (.own x))(k:∀ b u,b≠e->h.get? b=some u->h'.get? b=some u)(heo:∃ u,h'.get? e=some u):Un fs ex H (upd H x o) h h':=by
 have hx:∀ b,H b=none->b≠x:=fun b n z=>by subst z; rw [n]at mu; exact mu
 have hb:∀ b,H b=none->b≠e:=fun b n z=>by
  subst z
  rcases he with r | r
  ·exact hx b n r
  ·rw [n]at r; cases r
 have hm:∀ b u,H b=some u->¬Mut (some u)->b≠x:=fun b u q nm z=>by subst z; rw [q]at mu; exact nm mu
 refine⟨fun b u q n _ _=>k b u (hb b n) q,fun b u q n _ _=>⟨u.slots,k b u (hb b n) q⟩,fun b u q n _=>by rw [zA (hx b n)]; exact n,fun b u q _=>?_,
  fun b xs q=>by rw [zA (hm b _ q fun z=>z)]; exact q,fun b u xs q=>by rw [zA (hm b _ q fun z=>z)]; exact q,fun b ps q=>⟨#[],by rw [zA (hm b _ q fun z=>z),q]; simp⟩⟩
 by_cases hbe:b=e
 ·subst hbe; exact heo
 ·exact⟨u,k b u hbe q⟩
end
def trk(h:Heap)(H:Hp):List Addr:=(List.range h.objs.size).filter fun a=>(H a).isSome
def ziH(h:Heap)(H:Hp):Heap:=PySem.W.hideAll h (trk h H)
theorem znC(h:Heap)(H:Hp):(ziH h H).objs.size=h.objs.size:=PySem.W.hideAll_size _ _
theorem zoC{h:Heap}{H:Hp}{b:Addr}{o:Obj}(e:h.get? b=some o)(n:H b=none):(ziH h H).get? b=some o :=
 PySem.W.hideAll_get _ e fun hm=>by
  have q:(H b).isSome=true:=(List.mem_filter.mp hm).2
  rw [n]at q; simp at q
theorem zrY{h:Heap}{H:Hp}{b:Addr}{o:Obj}(e:(ziH h H).get? b=some o):h.get? b=some o/\H b=none:=by
 have e':h.get? b=some o:=PySem.W.of_hideAll (trk h H) e
 refine⟨e',?_⟩
 cases q:H b with
 | none=>rfl
 | some x =>
  have hm:b∈trk h H:=List.mem_filter.mpr ⟨List.mem_range.mpr (qh e'),by simp [q]⟩
  have z:(ziH h H).get? b=none:=PySem.W.hideAll_none (trk h H) hm
  rw [z]at e; cases e
def zrZ(g h:Heap)(L:Addr):List (Addr×Obj):=(List.range h.objs.size).filterMap fun a=>if a=L\/(g.get? a).isSome=true then none else(h.get? a).map fun o=>(a,o)
def zdr(g h:Heap)(L d:Addr):List (Addr×Obj):=(zrZ g h L).filter fun p=>decide (p.1≠d)
structure Mod (K:qc) (mg:Str->Option Value) (base:Heap):Prop where
 kin:K.In base
 glob:base.Ns mainGlobals mg
 blt:∃ mb,base.Ns builtinsNs mb/\∀ x:Str,x ≠ "__name__"->mb x=bootBuiltins x
 nolimit:base.NoLimit
structure Cx where
 prog:Program
 w:World
 K:qc
 mg:Str->Option Value
 base:Heap
 A:Around
 N:List Str
 s₀:Shared
 H₀:Hp
 env:Env
 outer:List Env
 stack:List Env
 ex:List Addr
 fn:Str->Bool
 calm:Bool
 pn:List (Addr×Obj)
 xe:Value->Shared->Prop
def frs(l:List Env):List Addr:=l.filterMap (·.frame)
abbrev Cx.fs(X:Cx):List Addr:=frs X.outer
def Vis(sc:Scope)(x:Str):Prop:=sc.names.lookup x=some .local\/sc.names.lookup x=some .cell\/sc.names.lookup x=some .free
def Loc(sc:Scope)(x:Str):Prop:=sc.names.lookup x=some .local\/sc.names.lookup x=some .cell
def zyx(env:Env)(h:Heap)(m:Str->Option Value)(x:Str)(u:Value):Prop :=
 (env.kindOf x=some .local/\m x=some u)\/((env.kindOf x=some .cell\/env.kindOf x=some .free)/\∃ c,env.cells.lookup x=some c/\h.IsCell c (some u))
structure Cx.Ok (X:Cx):Prop where
 mod:Mod X.K X.mg X.base
 kind:X.env.scope.kind=.function
 glob:X.env.globals=mainGlobals
 blt:X.env.builtins=builtinsNs
 above:X.s₀.heap.objs.size<=X.env.locals
 inj:∀ x y c,X.env.cells.lookup x=some c->X.env.cells.lookup y=some c->x=y
 has:∀ x,(X.env.kindOf x=some .cell\/X.env.kindOf x=some .free)->∃ c,X.env.cells.lookup x=some c
 cab:∀ x c,X.fn x=true->X.env.cells.lookup x=some c->X.s₀.heap.objs.size<=c
 hd:X.calm=true->X.A.handled=none
 frames:X.A.frames=some X.stack
 stk:X.stack=X.outer\/(X.stack=X.env::X.outer/\X.env.frame=some X.env.locals)
 exf:∀ b∈X.ex,b≠X.env.locals/\∀ x c,X.env.cells.lookup x=some c->c≠b
 bs:∀ b o,X.base.get? b=some o->X.s₀.heap.get? b=some o/\X.H₀ b=none
 bsz:X.base.objs.size<=X.s₀.heap.objs.size
 noex:∀ b o,X.base.get? b=some o->b∉X.ex
 exfs:∀ b∈X.ex,b∉X.fs
 funs:X.s₀.heap.FunFrames X.base X.outer
 frf:∀ b∈X.fs,X.H₀ b=none
structure Inv (X:Cx) (pins:List (Addr×Obj)) (σ:List (Option V)) (H:Hp) (s:Shared):Prop where
 ok:X.Ok
 os:s.os=X.s₀.os
 bare:AllBare s.gens
 base:Un X.fs X.ex X.H₀ H X.s₀.heap s.heap
 loc:∃ m,s.heap.Ns X.env.locals m/\∀ (i:Nat) (x:Str) (v:V),X.N[i]?=some x->σ[i]?=some (some v)->Vis X.env.scope x->∃ u,zU v u/\zyx X.env s.heap m x u
 cell:∀ x c,X.env.cells.lookup x=some c->∃ v,s.heap.IsCell c v
 free:H X.env.locals=none
 freeC:∀ x c,X.env.cells.lookup x=some c->H c=none
 pin:∀ p∈X.pn++pins,s.heap.get? p.1=some p.2/\H p.1=none/\p.1≠X.env.locals/\p.1∉X.fs/\∀ v,p.2.data≠.cell v
 hok:HOk X.prog X.w X.K H s.heap
 len:σ.length=X.N.length
section
variable {X:Cx} {pins:List (Addr×Obj)} {σ:List (Option V)} {H H':Hp} {s:Shared} {h':Heap}
theorem Cx.Ok.nofr(ok:X.Ok){b:Addr}{o:Obj}(e:X.base.get? b=some o):b∉X.fs:=fun hb=>by
 have:=(ok.funs.mem hb).1
 rw [e]at this; cases this
theorem Inv.bs(I:Inv X pins σ H s):∀ b o,X.base.get? b=some o->s.heap.get? b=some o/\H b=none:=fun b o e =>
 ⟨I.base.keep b o (I.ok.bs b o e).1 (I.ok.bs b o e).2 (I.ok.nofr e) (I.ok.noex b o e),I.base.free b o (I.ok.bs b o e).1 (I.ok.bs b o e).2 (I.ok.noex b o e)⟩
theorem Inv.bk(I:Inv X pins σ H s):∀ b o,X.base.get? b=some o->s.heap.get? b=some o:=fun b o e=>(I.bs b o e).1
theorem Inv.mod(I:Inv X pins σ H s):Mod X.K X.mg X.base:=I.ok.mod
theorem Inv.kIn(I:Inv X pins σ H s):X.K.In s.heap:=I.ok.mod.kin.keeps I.bk
theorem Inv.nolimit(I:Inv X pins σ H s):s.heap.NoLimit:=I.ok.mod.nolimit.keeps I.bk
theorem Inv.fr(I:Inv X pins σ H s):∃ m,Fr X.base X.env.locals s.heap m :=
 let ⟨m,hn,_⟩:=I.loc
 ⟨m,hn,I.bk,qx I.ok.bsz I.ok.above⟩
theorem Inv.lt(I:Inv X pins σ H s):X.env.locals < s.heap.objs.size:=let ⟨_,hn,_⟩:=I.loc; hn.lt
theorem Inv.sz(I:Inv X pins σ H s):X.s₀.heap.objs.size<=s.heap.objs.size:=qx I.ok.above (Nat.le_of_lt I.lt)
theorem Inv.nofs(I:Inv X pins σ H s){a:Addr}(h:s.heap.objs.size<=a):a∉X.fs:=fun hb=>by
 obtain⟨_,o,ho,_⟩:=I.ok.funs.mem hb
 exact absurd (qi (qh ho) (qx I.sz h)) (Nat.lt_irrefl _)
theorem Inv.cne(I:Inv X pins σ H s):∀ x c,X.env.cells.lookup x=some c->c≠X.env.locals:=fun x c e z=>by
 obtain⟨v,o,ho,hd⟩:=I.cell x c e
 obtain⟨m,⟨o',es,ep,ho',hd',_⟩,_⟩:=I.loc
 rw [z,ho']at ho; cases ho; rw [hd']at hd; cases hd
theorem Inv.funs(I:Inv X pins σ H s):s.heap.FunFrames X.base X.outer:=by
 have all:∀ (l:List Env),(∀ b∈frs l,b∈X.fs)->X.s₀.heap.FunFrames X.base l->s.heap.FunFrames X.base l:=by
  intro l
  induction l with
  | nil=>intro _ _; trivial
  | cons env r ih =>
   intro hs hl
   obtain⟨hk,⟨L,o,hf,hn,ho,hd⟩,hr⟩:=hl
   have hL:L∈X.fs:=hs L (by unfold frs; rw [List.filterMap_cons,hf]; exact qo)
   obtain⟨sl,e⟩:=I.base.slot L o ho (I.ok.frf L hL) hL fun z=>I.ok.exfs L z hL
   exact⟨hk,⟨L,_,hf,hn,e,hd⟩,ih (fun b hb=>hs b (by unfold frs; rw [List.filterMap_cons,hf]; exact qm _ hb)) hr⟩
 exact all X.outer (fun _ hb=>hb) I.ok.funs
theorem Inv.stack(I:Inv X pins σ H s):s.heap.FunFrames X.base X.stack:=by
 rcases I.ok.stk with e | ⟨e,hf⟩
 ·rw [e]; exact I.funs
 ·rw [e]
  obtain⟨m,hn,_⟩:=I.loc
  refine .cons (by rw [I.ok.kind]; decide) hf hn ?_ I.funs
  exact Heap.get?_none_of_le (qx I.ok.bsz I.ok.above)
theorem Inv.stkSub(I:Inv X pins σ H s):∀ b∈frs X.stack,b∈X.env.locals::X.fs:=fun b hb=>by
 rcases I.ok.stk with e | ⟨e,hf⟩
 ·rw [e]at hb; exact qm _ hb
 ·rw [e]at hb
  unfold frs at hb
  rw [List.filterMap_cons,hf]at hb
  exact hb
theorem Inv.stkFree(I:Inv X pins σ H s):∀ b∈frs X.stack,H b=none:=fun b hb=>by
 rcases qu.mp (I.stkSub b hb)with e | hb
 ·rw [e]; exact I.free
 ·obtain⟨_,o,ho,_⟩:=I.ok.funs.mem hb
  exact I.base.free b o ho (I.ok.frf b hb) fun z=>I.ok.exfs b z hb
theorem Inv.step{g':Array GenState}{t':Nat}{d':Drawn}{ch:List Addr}(I:Inv X pins σ H s)
  (hch:∀ b∈ch,(b∈X.ex\/X.s₀.heap.objs.size<=b)/\b≠X.env.locals/\(∀ x c,X.env.cells.lookup x=some c->c≠b)/\∀ p∈X.pn++pins,p.1≠b)
  (keep:∀ b o,b≠X.env.locals->b∉X.fs->b∉ch->s.heap.get? b=some o->H b=none->h'.get? b=some o)
  (slot:∀ b o,b≠X.env.locals->b∈X.fs->b∉ch->s.heap.get? b=some o->H b=none->∃ sl,h'.get? b=some { o with slots:=sl }) (free:∀ b o,b∉ch->s.heap.get? b=some o->H b=none->H' b=none)
  (there:∀ b o,b∉ch->s.heap.get? b=some o->∃ o',h'.get? b=some o')
  (tups:∀ b xs,H b=some (.tup xs)->H' b=some (.tup xs)) (frzs:∀ b o u,H b=some (.frz o u)->H' b=some (.frz o u)) (tbls:∀ b ps,H b=some (.tbl ps)->∃ more,H' b=some (.tbl (ps++more)))
  (ns:∀ m,s.heap.Ns X.env.locals m->h'.Ns X.env.locals m) (hok:HOk X.prog X.w X.K H' h') (hg:AllBare g') :
  Inv X pins σ H' { s with heap:=h',gens:=g',drawn:=d',toks:=t' }:=by
 have neL:∀ b o,X.s₀.heap.get? b=some o->b≠X.env.locals:=fun b o e=>qj (qi (qh e) I.ok.above)
 have neC:∀ b o,X.s₀.heap.get? b=some o->b∉X.ex->b∉ch:=fun b o e hx hb=>by
  rcases(hch b hb).1 with z | z
  ·exact hx z
  ·exact absurd (qi (qh e) z) (Nat.lt_irrefl _)
 have cellK:∀ x c,X.env.cells.lookup x=some c->∀ v,s.heap.IsCell c v->h'.IsCell c v:=fun x c e v ⟨o,ho,hd⟩=>by
  have nch:c∉ch:=fun z=>(hch c z).2.2.1 x c e rfl
  by_cases hc:c∈X.fs
  ·obtain⟨sl,q⟩:=slot c o (I.cne x c e) hc nch ho (I.freeC x c e)
   exact⟨_,q,hd⟩
  ·exact⟨o,keep c o (I.cne x c e) hc nch ho (I.freeC x c e),hd⟩
 refine⟨I.ok,I.os,hg,⟨fun b o e n hb hx=>?_,fun b o e n hb hx=>?_,fun b o e n hx=>?_,fun b o e hx=>?_,fun b xs e=>tups b xs (I.base.tups b xs e),fun b o xs e=>frzs b o xs (I.base.frzs b o xs e),fun b ps e=>?_⟩,?_,fun x c e=>?_,?_,fun x c e=>?_,fun p hp=>?_,hok,I.len⟩
 ·exact keep b o (neL b o e) hb (neC b o e hx) (I.base.keep b o e n hb hx) (I.base.free b o e n hx)
 ·obtain⟨sl,e1⟩:=I.base.slot b o e n hb hx
  obtain⟨sl',e2⟩:=slot b _ (neL b o e) hb (neC b o e hx) e1 (I.base.free b o e n hx)
  exact⟨sl',e2⟩
 ·obtain⟨o',e1⟩:=I.base.there b o e hx
  exact free b o' (neC b o e hx) e1 (I.base.free b o e n hx)
 ·obtain⟨o',e1⟩:=I.base.there b o e hx
  exact there b o' (neC b o e hx) e1
 ·obtain⟨m1,e1⟩:=I.base.tbls b ps e
  obtain⟨m2,e2⟩:=tbls b _ e1
  exact⟨m1++m2,by rw [e2,Array.append_assoc]⟩
 ·obtain⟨m,hn,hl⟩:=I.loc
  refine⟨m,ns m hn,fun i x v e1 e2 e3=>?_⟩
  obtain⟨u,r,l⟩:=hl i x v e1 e2 e3
  refine⟨u,r,?_⟩
  rcases l with l | ⟨k,c,e,z⟩
  ·exact .inl l
  ·exact .inr ⟨k,c,e,cellK x c e _ z⟩
 ·obtain⟨v,z⟩:=I.cell x c e
  exact⟨v,cellK x c e v z⟩
 ·obtain⟨m,⟨o,_,_,ho,_⟩,_⟩:=I.loc
  exact free _ o (fun z=>(hch _ z).2.1 rfl) ho I.free
 ·obtain⟨v,o,ho,hd⟩:=I.cell x c e
  exact free c o (fun z=>(hch c z).2.2.1 x c e rfl) ho (I.freeC x c e)
 ·obtain⟨e,n,ne,nf,d⟩:=I.pin p hp
  have nch:p.1∉ch:=fun z=>(hch p.1 z).2.2.2 p hp rfl
  exact⟨keep p.1 p.2 ne nf nch e n,free p.1 p.2 nch e n,ne,nf,d⟩
theorem Inv.un{t':Nat}(I:Inv X pins σ H s)(u:Un X.fs [] H H' s.heap h')(hok:HOk X.prog X.w X.K H' h'):Inv X pins σ H' { s with heap:=h',toks:=t' }:=by
 obtain⟨m,⟨o,es,ep,ho,r⟩,_⟩:=id I.loc
 obtain⟨sl,hL⟩:=u.any ho I.free (by simp)
 exact I.step (g':=s.gens) (d':=s.drawn) (ch:=[]) (fun _ z=>nomatch z) (fun b o _ hb _ e n=>u.keep b o e n hb (by simp)) (fun b o _ hb _ e n=>u.slot b o e n hb (by simp)) (fun b o _ e n=>u.free b o e n (by simp)) (fun b o _ e=>u.there b o e (by simp)) u.tups u.frzs u.tbls (fun m' hm=>by
  obtain⟨o',es',ep',ho',r'⟩:=hm
  rw [ho]at ho'; cases ho'
  exact⟨_,es',ep',hL,r'⟩) hok I.bare
theorem Inv.call{g':Array GenState}{t':Nat}{d':Drawn}{ch:List Addr}(I:Inv X pins σ H s)(u:Un (frs X.stack) ch H H' s.heap h')(hok:HOk X.prog X.w X.K H' h')(hg:AllBare g')
  (hch:∀ b∈ch,(b∈X.ex\/X.s₀.heap.objs.size<=b)/\b≠X.env.locals/\(∀ x c,X.env.cells.lookup x=some c->c≠b)/\∀ p∈X.pn++pins,p.1≠b) :
  Inv X pins σ H' { s with heap:=h',gens:=g',drawn:=d',toks:=t' }:=by
 obtain⟨m,⟨o,es,ep,ho,r⟩,_⟩:=id I.loc
 obtain⟨sl,hL⟩:=u.any ho I.free fun z=>(hch _ z).2.1 rfl
 exact I.step (ch:=ch) hch (fun b o hL hb hc e n=>u.keep b o e n (fun z=>(qu.mp (I.stkSub b z)).elim hL hb) hc) (fun b o _ _ hc e n=>u.any e n hc) (fun b o hc e n=>u.free b o e n hc) (fun b o hc e=>u.there b o e hc) u.tups u.frzs u.tbls (fun m' hm=>by
  obtain⟨o',es',ep',ho',r'⟩:=hm
  rw [ho]at ho'; cases ho'
  exact⟨_,es',ep',hL,r'⟩) hok hg
theorem Inv.turned{t':Nat}{it:Addr}(I:Inv X pins σ H s)(k:∀ b o,b≠it->s.heap.get? b=some o->h'.get? b=some o)(hn:H it=none)(hL:it≠X.env.locals)
  (h1:it∈X.ex\/X.s₀.heap.objs.size<=it) (h2:∀ x c,X.env.cells.lookup x=some c->c≠it) (h3:∀ p∈X.pn++pins,p.1≠it):Inv X pins σ H { s with heap:=h',toks:=t' }:=by
 have nit:∀ b u,H b=some u->b≠it:=fun b u e z=>by rw [z,hn]at e; cases e
 refine I.step (g':=s.gens) (d':=s.drawn) (ch:=[it]) (fun b hb=>?_) (fun b o _ _ hc e _=>k b o (fun z=>hc (by simp [z])) e) (fun b o _ _ hc e _=>⟨o.slots,k b o (fun z=>hc (by simp [z])) e⟩) (fun _ _ _ _ n=>n)
  (fun b o hc e=>⟨o,k b o (fun z=>hc (by simp [z])) e⟩) (fun _ _ e=>e) (fun _ _ _ e=>e) (fun b ps e=>⟨#[],by rw [e]; simp⟩) (fun m hm=>?_) (fun b u e=>?_) I.bare
 ·have e:b=it:=by simpa using hb
  subst e
  exact⟨h1,hL,h2,h3⟩
 ·obtain⟨o,es,ep,ho,r⟩:=hm
  exact⟨o,es,ep,k _ o (Ne.symm hL) ho,r⟩
 ·refine(I.hok b u e).stay (fun c v hc q=>k c v ?_ q) (fun _ q=>q) fun _ _ q=>q
  rcases hc with z | z
  ·rw [z]; exact nit b u e
  ·exact nit c _ z
theorem Inv.tok(I:Inv X pins σ H s)(t:Nat):Inv X pins σ H { s with toks:=t }:=I.un (h':=s.heap) (t':=t) Un.refl I.hok
theorem Inv.kept{t':Nat}(I:Inv X pins σ H s)(k:∀ b u,s.heap.get? b=some u->h'.get? b=some u):Inv X pins σ H { s with heap:=h',toks:=t' }:=I.un (Un.kept k) (I.hok.kept k)
theorem Inv.laid{a:Addr}{o:HO}{t':Nat}(I:Inv X pins σ H s)(k:∀ b u,s.heap.get? b=some u->h'.get? b=some u)(hp:s.heap.objs.size<=a)(new:zaj X.prog X.w X.K (upd H a o) h' a o) :
  Inv X pins σ (upd H a o) { s with heap:=h',toks:=t' }:=I.un (Un.laid k hp (I.hok.fresh hp)) (I.hok.laid k hp new)
theorem Inv.write{x e:Addr}{o:HO}{t':Nat}(I:Inv X pins σ H s)(mu:Mut (H x))(he:e=x\/H e=some (.own x))(k:∀ b u,b≠e->s.heap.get? b=some u->h'.get? b=some u)(heo:∃ u,h'.get? e=some u)
  (new:zaj X.prog X.w X.K (upd H x o) h' x o):Inv X pins σ (upd H x o) { s with heap:=h',toks:=t' }:=I.un (Un.write mu he k heo) (I.hok.write mu he k heo new)
theorem Inv.weak{σ':List (Option V)}(I:Inv X pins σ H s)(hl:σ'.length=σ.length)(w:∀ (i:Nat) v,σ'[i]?=some (some v)->σ[i]?=some (some v)):Inv X pins σ' H s :=
 ⟨I.ok,I.os,I.bare,I.base,let ⟨m,hn,hl'⟩:=I.loc; ⟨m,hn,fun i x v e1 e2 e3=>hl' i x v e1 (w i v e2) e3⟩,I.cell,I.free,I.freeC,I.pin,I.hok,hl.trans I.len⟩
theorem Inv.pins_of{pins':List (Addr×Obj)}(I:Inv X pins σ H s)(h:∀ p∈pins',s.heap.get? p.1=some p.2/\H p.1=none/\p.1≠X.env.locals/\p.1∉X.fs/\∀ v,p.2.data≠.cell v):Inv X pins' σ H s :=
 ⟨I.ok,I.os,I.bare,I.base,I.loc,I.cell,I.free,I.freeC,fun p hp=>(List.mem_append.mp hp).elim (fun z=>I.pin p (List.mem_append_left _ z)) (h p),I.hok,I.len⟩
theorem zjB{N:List Str}(hN:N.Nodup){i j:Nat}{x:Str}(a:N[i]?=some x)(b:N[j]?=some x):i=j:=by
 obtain⟨h1,e1⟩:=qk.mp a
 obtain⟨h2,e2⟩:=qk.mp b
 exact(List.getElem_inj hN).mp (e1.trans e2.symm)
theorem zfU{M:Model}{A:Around}{E:Value->Shared->Prop}{i:Nat}{x:Str}{v:V}{u:Value}{Q:Unit->Shared->Prop}(I:Inv X pins σ H s)(hN:X.N.Nodup)(hi:X.N[i]?=some x)(hx:Loc X.env.scope x)(r:zU v u)
  (h:∀ s',Inv X pins (σ.set i (some v)) H s'->(∃ a,Heap.SameBut a s.heap s'.heap/\(a=X.env.locals\/X.env.cells.lookup x=some a))->Q () s') (hf:X.fn x=true\/X.env.scope.names.lookup x=some .local:=by first | exact .inl rfl | exact .inr rfl | assumption):wpAny M A (storeName X.env x u) Q E s:=by
 obtain⟨m,hn,hl⟩:=id I.loc
 have hcls:(X.env.scope.kind==.class || (X.env.scope.kind==.module && X.env.locals != X.env.globals))=false:=by rw [I.ok.kind]; rfl
 have hiσ:i < σ.length:=by rw [I.len]; exact(qk.mp hi).1
 have cne:=I.cne
 have tracked:∀ {a:Addr} {h':Heap},(∃ o,s.heap.get? a=some o/\H a=none)->Heap.SameBut a s.heap h'->HOk X.prog X.w X.K H h':=fun{a h'} ha hs b ob e=>by
  obtain⟨_,_,hfree⟩:=ha
  refine(I.hok b ob e).stay (fun c w' hc q=>(hs.2 c ?_).trans q) (fun _ q=>q) fun _ _ q=>q
  rintro rfl
  rcases hc with rfl | hc
  ·rw [hfree]at e; cases e
  ·rw [hfree]at hc; cases hc
 rcases hx with hk | hk
 ·refine wpAny_storeName_local hk hn (fun h' hn' hs=>?_) hcls
  obtain⟨oL,_,_,hoL,_⟩:=id hn
  refine h _ ⟨I.ok,I.os,I.bare,⟨fun b o e n hb hx=>?_,fun b o e n hb hx=>?_,I.base.free,fun b o e hx=>?_,I.base.tups,I.base.frzs,I.base.tbls⟩,⟨_,hn',fun j y v' e1 e2 e3=>?_⟩,fun y c e=>?_,I.free,I.freeC,fun p hp=>?_,tracked ⟨oL,hoL,I.free⟩ hs,by simpa using I.len⟩ ⟨_,hs,.inl rfl⟩
  ·exact(hs.2 b (qj (qi (qh e) I.ok.above))).trans (I.base.keep b o e n hb hx)
  ·obtain⟨sl,e1⟩:=I.base.slot b o e n hb hx
   exact⟨sl,(hs.2 b (qj (qi (qh e) I.ok.above))).trans e1⟩
  ·obtain⟨o',e1⟩:=I.base.there b o e hx
   exact⟨o',(hs.2 b (qj (qi (qh e) I.ok.above))).trans e1⟩
  ·by_cases hj:j=i
   ·subst hj
    rw [hi]at e1; cases e1
    rw [List.getElem?_set_self hiσ]at e2
    cases e2
    exact⟨u,r,.inl ⟨hk,by simp⟩⟩
   ·rw [qB (Ne.symm hj)]at e2
    obtain⟨u',r',q⟩:=hl j y v' e1 e2 e3
    refine⟨u',r',?_⟩
    rcases q with ⟨k,e⟩ | ⟨k,c,e,z⟩
    ·refine .inl ⟨k,?_⟩
     have:y≠x:=fun e=>hj (zjB hN e1 (e▸hi))
     simp [this,e]
    ·exact .inr ⟨k,c,e,z.sameBut hs (cne y c e)⟩
  ·obtain⟨w',z⟩:=I.cell y c e
   exact⟨w',z.sameBut hs (cne y c e)⟩
  ·obtain⟨e,n,ne,nf,d⟩:=I.pin p hp
   exact⟨(hs.2 p.1 ne).trans e,n,ne,nf,d⟩
 ·have hfn:X.fn x=true:=by
   rcases hf with z | z
   ·exact z
   ·rw [z]at hk; cases hk
  obtain⟨c,hc⟩:=I.ok.has x (.inl hk)
  obtain⟨w',z⟩:=I.cell x c hc
  refine wpAny_storeName_cell I.ok.kind hk hc z (fun h' hc' hs=>?_)
  obtain⟨oc,hoc,hocd⟩:=id z
  refine h { s with heap:=h' } ⟨I.ok,I.os,I.bare,⟨fun b o e n hb hx=>?_,fun b o e n hb hx=>?_,I.base.free,fun b o e hx=>?_,I.base.tups,I.base.frzs,I.base.tbls⟩,⟨m,hn.sameBut hs (Ne.symm (cne x c hc)),fun j y v' e1 e2 e3=>?_⟩,fun y c' e=>?_,I.free,I.freeC,fun p hp=>?_,tracked ⟨oc,hoc,I.freeC x c hc⟩ hs,by simpa using I.len⟩ ⟨c,hs,.inr hc⟩
  ·exact(hs.2 b (qj (qi (qh e) (I.ok.cab x c hfn hc)))).trans (I.base.keep b o e n hb hx)
  ·obtain⟨sl,e1⟩:=I.base.slot b o e n hb hx
   exact⟨sl,(hs.2 b (qj (qi (qh e) (I.ok.cab x c hfn hc)))).trans e1⟩
  ·obtain⟨o',e1⟩:=I.base.there b o e hx
   exact⟨o',(hs.2 b (qj (qi (qh e) (I.ok.cab x c hfn hc)))).trans e1⟩
  ·by_cases hj:j=i
   ·subst hj
    rw [hi]at e1; cases e1
    rw [List.getElem?_set_self hiσ]at e2
    cases e2
    exact⟨u,r,.inr ⟨.inl hk,c,hc,hc'⟩⟩
   ·rw [qB (Ne.symm hj)]at e2
    obtain⟨u',r',q⟩:=hl j y v' e1 e2 e3
    refine⟨u',r',?_⟩
    rcases q with q | ⟨k,c',e,z'⟩
    ·exact .inl q
    ·refine .inr ⟨k,c',e,z'.sameBut hs ?_⟩
     rintro rfl
     exact hj (zjB hN e1 (I.ok.inj _ _ _ e hc▸hi))
  ·by_cases hcc:c'=c
   ·subst hcc; exact⟨_,hc'⟩
   ·obtain⟨w2,z2⟩:=I.cell y c' e
    exact⟨w2,z2.sameBut hs hcc⟩
  ·obtain⟨e,n,ne,nf,d⟩:=I.pin p hp
   refine⟨(hs.2 p.1 ?_).trans e,n,ne,nf,d⟩
   intro q
   rw [q,hoc]at e
   have q':oc=p.2:=qw e
   exact d w' (by rw [<-q']; exact hocd)
theorem zff{M:Model}{A:Around}{E:Value->Shared->Prop}{i:Nat}{x:Str}{v:V}{u:Value}{Q:Unit->Shared->Prop}(I:Inv X pins σ H s)(hN:X.N.Nodup)(hi:X.N[i]?=some x)(hx:Loc X.env.scope x)(r:zU v u)
  (h:∀ s',Inv X pins (σ.set i (some v)) H s'->Q () s') (hf:X.fn x=true\/X.env.scope.names.lookup x=some .local:=by first | exact .inl rfl | exact .inr rfl | assumption):wpAny M A (storeName X.env x u) Q E s :=
 zfU I hN hi hx r (fun s' I' _=>h s' I') hf
theorem Inv.call'{s':Shared}{ch:List Addr}(I:Inv X pins σ H s)(ho:s'.os=s.os)(u:Un (frs X.stack) ch H H' s.heap s'.heap)(hok:HOk X.prog X.w X.K H' s'.heap)(hg:AllBare s'.gens)
  (hch:∀ b∈ch,(b∈X.ex\/X.s₀.heap.objs.size<=b)/\b≠X.env.locals/\(∀ x c,X.env.cells.lookup x=some c->c≠b)/\∀ p∈X.pn++pins,p.1≠b):Inv X pins σ H' s':=by
 obtain⟨h',g',d',t',o'⟩:=s'
 have e:o'=s.os:=ho
 subst e
 exact I.call (g':=g') (t':=t') (d':=d') u hok hg hch
end
abbrev XK:=Value->Option Addr->Hp->Prop
abbrev St:=List (Option V)
abbrev VK:=V->Hp->Prop
abbrev TE:=St->Hp->VK->Prop
abbrev TT:=St->Hp->(Bool->Hp->Prop)->Prop
abbrev TA:=St->Hp->(List V->Hp->Prop)->Prop
structure Ends where
 nx:St->Hp->Prop
 rt:VK
 bk:St->Hp->Prop:=fun _ _=>False
 ct:St->Hp->Prop:=fun _ _=>False
abbrev TS:=Ends->St->Hp->Prop
def EP(X:Cx)(pins:List (Addr×Obj))(σ:St)(Q:VK)(u:Value)(s':Shared):Prop:=∃ v H',Inv X pins σ H' s'/\zU v u/\Q v H'
def TP(X:Cx)(pins:List (Addr×Obj))(σ:St)(Q:Bool->Hp->Prop)(b:Bool)(s':Shared):Prop:=∃ H',Inv X pins σ H' s'/\Q b H'
def AP(X:Cx)(pins:List (Addr×Obj))(σ:St)(Q:List V->Hp->Prop)(us:List Value)(s':Shared):Prop:=∃ vs H',Inv X pins σ H' s'/\zN vs us/\Q vs H'
def SP(X:Cx)(pins:List (Addr×Obj))(D:Ends)(f:Flow)(s':Shared):Prop :=
 match f with
 | .next=>∃ σ' H',Inv X pins σ' H' s'/\D.nx σ' H'
 | .brk=>∃ σ' H',Inv X pins σ' H' s'/\D.bk σ' H'
 | .cont=>∃ σ' H',Inv X pins σ' H' s'/\D.ct σ' H'
 | .ret u=>∃ v σ' H',Inv X pins σ' H' s'/\zU v u/\D.rt v H'
def PE(X:Cx)(e:Expr)(t:TE):Prop :=
 ∀ (pins:List (Addr×Obj)) (s:Shared) (σ:St) (H:Hp) (Q:VK),Inv X pins σ H s->t σ H Q->wpAny (model X.prog X.w) X.A (eval e X.env) (EP X pins σ Q) X.xe s
def PT(X:Cx)(e:Expr)(t:TT):Prop :=
 ∀ (pins:List (Addr×Obj)) (s:Shared) (σ:St) (H:Hp) (Q:Bool->Hp->Prop),Inv X pins σ H s->t σ H Q->wpAny (model X.prog X.w) X.A (isTrue e X.env (eval e X.env)) (TP X pins σ Q) X.xe s
def PW(X:Cx)(e:Expr)(t:TT):Prop :=
 ∀ (whole:Sem Value) (pins:List (Addr×Obj)) (s:Shared) (σ:St) (H:Hp) (Q:Bool->Hp->Prop),Inv X pins σ H s->t σ H Q->wpAny (model X.prog X.w) X.A (isTrue e X.env whole) (TP X pins σ Q) X.xe s
theorem PW.pt{X:Cx}{e:Expr}{t:TT}(h:PW X e t):PT X e t:=h _
def PA(X:Cx)(es:List Expr)(t:TA):Prop :=
 ∀ (pos:Pos) (pins:List (Addr×Obj)) (s:Shared) (σ:St) (H:Hp) (Q:List V->Hp->Prop),Inv X pins σ H s->t σ H Q->wpAny (model X.prog X.w) X.A (spliced (backTo pos (starEach es X.env))) (AP X pins σ Q) X.xe s
def PS(X:Cx)(st:Stmt)(t:TS):Prop :=
 ∀ (pins:List (Addr×Obj)) (s:Shared) (σ:St) (H:Hp) (D:Ends),Inv X pins σ H s->t D σ H->wpAny (model X.prog X.w) X.A (exec st X.env) (SP X pins D) X.xe s
def PSs(X:Cx)(st:List Stmt)(t:TS):Prop :=
 ∀ (pins:List (Addr×Obj)) (s:Shared) (σ:St) (H:Hp) (D:Ends),Inv X pins σ H s->t D σ H->wpAny (model X.prog X.w) X.A (execs st X.env) (SP X pins D) X.xe s
theorem thn{α:Type}{t:Sem α}{Q Q':α->Shared->Prop}{M:Model}{A:Around}{E:Value->Shared->Prop}{s:Shared}(h:wpAny M A t Q E s)(hQ:∀ a s,Q a s->Q' a s):wpAny M A t Q' E s:=wpAny_mono h hQ fun _ _ x=>x
section
variable {X:Cx}
theorem bin{a b:Expr}{ta tb:TE}(ha:PE X a ta)(hb:PE X b tb){pins:List (Addr×Obj)}{s:Shared}{σ:St}{H:Hp}{R:V->V->Hp->Prop}(I:Inv X pins σ H s)(h:ta σ H fun x H1=>tb σ H1 fun y H2=>R x y H2)
  {α:Type} {Q:α->Shared->Prop} {f:Value->Value->Sem α}
  (hf:∀ v u s2 x y H2,Inv X pins σ H2 s2->zU x v->zU y u->R x y H2->wpAny (model X.prog X.w) X.A (f v u) Q X.xe s2) :
  wpAny (model X.prog X.w) X.A (eval a X.env) (fun v s₁=>wpAny (model X.prog X.w) X.A (eval b X.env) (fun u s₂=>wpAny (model X.prog X.w) X.A (f v u) Q X.xe s₂) X.xe s₁) X.xe s:=by
 refine thn (ha pins s σ H _ I h) fun v s1 ⟨x,H1,I1,r1,q1⟩=>?_
 refine thn (hb pins s1 σ H1 _ I1 q1) fun u s2 ⟨y,H2,I2,r2,q2⟩=>?_
 exact hf v u s2 x y H2 I2 r1 r2 q2
def zfg(i:Nat):TE:=fun σ H Q=>∃ v,σ[i]?=some (some v)/\Q v H
def tC(v:V):TE:=fun _ H Q=>Q v H
theorem zuS{i:Nat}{x:Str}{pos:Pos}(hN:X.N[i]?=some x)(hv:Vis X.env.scope x)(hd:(x==("__debug__":Str))=false:=by decide)(hcd:(x==("__classdict__":Str))=false:=by decide):PE X (.Name x pos) (zfg i):=by
 intro pins s σ H Q I h
 obtain⟨v,e,h⟩:=h
 obtain⟨m,hn,hl⟩:=I.loc
 obtain⟨u,r,l⟩:=hl i x v hN e hv
 have fin:EP X pins σ Q u s:=⟨v,H,I,r,h⟩
 rcases l with ⟨hk,hm⟩ | ⟨hk,c,hc,hcell⟩
 ·exact wpAny_Name (wpAny_loadName_local I.ok.kind hk hn hm fin) hd
 ·rcases hk with hk | hk
  ·exact wpAny_Name (wpAny_loadName_cell I.ok.kind hk hc hcell fin) hd
  ·exact wpAny_Name (wpAny_loadName_free I.ok.kind hk hc hcell fin hcd) hd
theorem zuT{i j pos}:PE X (.Constant (.int i) j pos) (tC (.int i)):=fun _ _ _ H _ I h=>wpAny_Constant_int ⟨.int i,H,I.tok _,⟨_,rfl⟩,h⟩
theorem zw2{b j pos}:PE X (.Constant (.bool b) j pos) (tC (.bl b)):=fun _ _ _ H _ I h=>Constant_bool ⟨.bl b,H,I,rfl,h⟩
theorem zuU{j pos}:PE X (.Constant .none j pos) (tC .non):=fun _ _ _ H _ I h=>Constant_none ⟨.non,H,I,rfl,h⟩
theorem zuV{x j pos}:PE X (.Constant (.str x) j pos) (tC (.str x)):=fun _ _ _ H _ I h=>Calls.Constant_str ⟨.str x,H,I.tok _,⟨_,rfl⟩,h⟩
def Gl(X:Cx)(x:Str):Prop:=X.env.kindOf x=some .globalImplicit
theorem ziI{E:Value->Shared->Prop}{pins:List (Addr×Obj)}{s:Shared}{σ:St}{H:Hp}{x:Str}{u:Value}{pos:Pos}{Q:Value->Shared->Prop}(I:Inv X pins σ H s)(hg:Gl X x)(hm:X.mg x=some u)(h:Q u s)
  (hd:(x==("__debug__":Str))=false:=by decide):wpAny (model X.prog X.w) X.A (eval (.Name x pos) X.env) Q E s :=
 Calls.Name_function_global I.ok.kind hg (Calls.loadGlobal_global (by rw [I.ok.glob]; exact I.mod.glob.keeps I.bk) hm h) hd
theorem zfV{E:Value->Shared->Prop}{pins:List (Addr×Obj)}{s:Shared}{σ:St}{H:Hp}{x:Str}{u:Value}{pos:Pos}{Q:Value->Shared->Prop}(I:Inv X pins σ H s)(hg:Gl X x)(hm:X.mg x=none)(hv:bootBuiltins x=some u)(h:Q u s)
  (hn:x ≠ "__name__":=by decide) (hd:(x==("__debug__":Str))=false:=by decide):wpAny (model X.prog X.w) X.A (eval (.Name x pos) X.env) Q E s:=by
 obtain⟨mb,h1,h2⟩:=I.mod.blt
 exact Calls.Name_function_global I.ok.kind hg (Calls.loadGlobal_builtin (by rw [I.ok.glob]; exact I.mod.glob.keeps I.bk) hm (by rw [I.ok.blt]; exact h1.keeps I.bk) ((h2 x hn).trans hv) h) hd
theorem zr0{x:Str}{v:V}{u:Value}{pos:Pos}(hg:Gl X x)(hm:X.mg x=some u)(r:zU v u)(hd:(x==("__debug__":Str))=false:=by decide):PE X (.Name x pos) (tC v) :=
 fun _ _ _ H _ I h=>ziI I hg hm ⟨v,H,I,r,h⟩ hd
theorem zr1{x:Str}{v:V}{u:Value}{pos:Pos}(hg:Gl X x)(hm:X.mg x=none)(hv:bootBuiltins x=some u)(r:zU v u)(hn:x ≠ "__name__":=by decide)(hd:(x==("__debug__":Str))=false:=by decide):PE X (.Name x pos) (tC v) :=
 fun _ _ _ H _ I h=>zfV I hg hm hv ⟨v,H,I,r,h⟩ hn hd
variable {a b:Expr} {ta tb:TE} {pos:Pos}
def PC(X:Cx)(op:CmpOp)(a b:Expr)(t:TE):Prop :=
 ∀ (pins:List (Addr×Obj)) (s:Shared) (σ:St) (H:Hp) (Q:VK),Inv X pins σ H s->t σ H Q ->
  wpAny (model X.prog X.w) X.A (eval a X.env) (fun v s₁=>wpAny (model X.prog X.w) X.A (eval b X.env) (fun u s₂=>wpAny (model X.prog X.w) X.A (compareOp op v u) (EP X pins σ Q) X.xe s₂) X.xe s₁) X.xe s
theorem zoD(b:Expr){op:CmpOp}(h:op≠.In)(h2:op≠.NotIn):behindInMarks op b=false:=by
 have e1:(op==CmpOp.In)=false:=by cases op<;>first | rfl | exact absurd rfl h
 have e2:(op==CmpOp.NotIn)=false:=by cases op<;>first | rfl | exact absurd rfl h2
 cases b<;>simp [behindInMarks,e1,e2]
def tB(t:TE):TT:=fun σ H Q=>t σ H fun x H1=>∃ c,x=.bl c/\Q c H1
theorem zyy{op:CmpOp}{t:TE}(h:PC X op a b t)(h1:behindInMarks op b=false:=by first | exact zoD _ (by decide) (by decide) | rfl):PT X (.Compare a [op] [b] pos) (tB t):=by
 intro pins s σ H Q I hw
 refine wpAny_isTrue_Compare1 (thn (h pins s σ H _ I hw) fun v s1 h1=>thn h1 fun u s2 h2=>thn h2 fun c s3 ⟨x,H1,I1,r1,q1⟩=>?_) h1
 obtain⟨d,rfl,q⟩:=q1
 cases r1
 exact wpAny_truthy_bool ⟨H1,I1,q⟩
theorem zuW{e:Expr}{t:TE}(h:PE X e t)(he:∀ whole,isTrue e X.env whole=(do let v <-whole; standAt e.pos; holding [v] (truthy v)):=by intro _; rfl):PT X e (tB t):=by
 intro pins s σ H Q I hw
 refine isTrue_plain (thn (h pins s σ H _ I hw) fun v s1 ⟨x,H1,I1,r1,q1⟩=>?_) (he _)
 obtain⟨d,rfl,q⟩:=q1
 cases r1
 exact wpAny_truthy_bool ⟨H1,I1,q⟩
variable {tA tB':TT} {zdr:List Expr}
def zuX(t u:TT):TT:=fun σ H Q=>t σ H fun c H1=>if c=true then u σ H1 Q else Q false H1
def tOr(t u:TT):TT:=fun σ H Q=>t σ H fun c H1=>if c=true then Q true H1 else u σ H1 Q
def zuY(t:TT):TT:=fun σ H Q=>t σ H fun c H1=>Q (!c) H1
theorem zr2(ha:PT X a tA):PW X (.BoolOp .And [a] pos) tA:=by
 intro wh pins s σ H Q I h
 refine isTrue_and (thn (ha pins s σ H Q I h) fun c s1 e=>?_)
 cases c with
 | true=>exact isTrue_and_nil e
 | false=>exact e
theorem zuZ(ha:PT X a tA):PW X (.BoolOp .Or [a] pos) tA:=by
 intro wh pins s σ H Q I h
 refine isTrue_or (thn (ha pins s σ H Q I h) fun c s1 e=>?_)
 cases c with
 | false=>exact isTrue_or_nil e
 | true=>exact e
theorem zu0(ha:PT X a tA)(hb:PW X (.BoolOp .And (b::zdr) pos) tB'):PW X (.BoolOp .And (a::b::zdr) pos) (zuX tA tB'):=by
 intro wh pins s σ H Q I h
 refine isTrue_and (thn (ha pins s σ H _ I h) fun c s1 ⟨H1,I1,q1⟩=>?_)
 cases c with
 | true=>exact hb wh pins s1 σ H1 Q I1 q1
 | false=>exact⟨H1,I1,q1⟩
theorem zw3(ha:PT X a tA)(hb:PW X (.BoolOp .Or (b::zdr) pos) tB'):PW X (.BoolOp .Or (a::b::zdr) pos) (tOr tA tB'):=by
 intro wh pins s σ H Q I h
 refine isTrue_or (thn (ha pins s σ H _ I h) fun c s1 ⟨H1,I1,q1⟩=>?_)
 cases c with
 | true=>exact⟨H1,I1,q1⟩
 | false=>exact hb wh pins s1 σ H1 Q I1 q1
theorem zu1(ha:PT X a tA):PT X (.UnaryOp .Not a pos) (zuY tA):=by
 intro pins s σ H Q I h
 exact isTrue_not (ha pins s σ H (fun c H1=>Q (!c) H1) I h)
def ztG(ta:TE):TE:=fun σ H Q=>ta σ H fun x H1=>∃ c,x=.bl c/\Q (.bl (!c)) H1
theorem zu2(ha:PE X a ta):PE X (.UnaryOp .Not a pos) (ztG ta):=by
 intro pins s σ H Q I h
 refine UnaryOp_ (thn (ha pins s σ H _ I h) fun v s1 ⟨x,H1,I1,r1,q1⟩=>?_)
 obtain⟨c,rfl,q1⟩:=q1
 cases r1
 exact not_of (wpAny_truthy_bool ⟨.bl (!c),H1,I1,rfl,q1⟩)
def tIf(t:TT)(ta tb:TE):TE:=fun σ H Q=>t σ H fun c H1=>if c=true then ta σ H1 Q else tb σ H1 Q
theorem zoE{c:Expr}(hc:PT X c tA)(ha:PE X a ta)(hb:PE X b tb):PE X (.IfExp c a b pos) (tIf tA ta tb):=by
 intro pins s σ H Q I h
 refine wpAny_IfExp (thn (hc pins s σ H _ I h) fun d s1 ⟨H1,I1,q1⟩=>?_)
 cases d with
 | true=>exact ha pins s1 σ H1 Q I1 q1
 | false=>exact hb pins s1 σ H1 Q I1 q1
end
def SqL(K:qc)(H:Hp)(a:Addr)(xs:List V):Prop :=
 Rd H a (.lst xs) \/
  ∃ (o:Obj) (its:Array Value) (n:Nat),K.lookup a=some o/\o.cls=.type "list"/\o.dict=none/\o.data=.seq its n/\its.size<=sizeLine/\zN xs its.toList
def SqT(K:qc)(H:Hp)(a:Addr)(xs:List V):Prop :=
 Rd H a (.tup xs) \/
  ∃ (o:Obj) (its:Array Value) (n:Nat),K.lookup a=some o/\o.cls=.type "tuple"/\o.data=.seq its n/\its.size<=sizeLine/\zN xs its.toList
def zyz:Value->Option V
 | .none=>some .non
 | .bool b=>some (.bl b)
 | .int i _=>some (.int i)
 | .str x _=>some (.str x)
 | .bytes b _=>some (.byt b)
 | .float b _=>some (.flt b)
 | .ref a=>some (.ref a)
 | .type n=>some (.ty n)
 | _=>none
theorem zU.abs{x:V}{u:Value}(r:zU x u):zyz u=some x:=by
 cases x with
 | non=>cases r; rfl
 | bl _=>cases r; rfl
 | int _=>obtain⟨t,rfl⟩:=r; rfl
 | str _=>obtain⟨t,rfl⟩:=r; rfl
 | byt _=>obtain⟨t,rfl⟩:=r; rfl
 | flt _=>obtain⟨t,rfl⟩:=r; rfl
 | ref _=>cases r; rfl
 | ty _=>cases r; rfl
theorem zU.inj{x y:V}{u:Value}(r:zU x u)(q:zU y u):x=y:=qw (r.abs.symm.trans q.abs)
theorem zN.inj:∀ {xs ys:List V} {us:List Value},zN xs us->zN ys us->xs=ys
 | _,_,_,.nil,.nil=>rfl
 | _,_,_,.cons r t,.cons r' t'=>by rw [r.inj r',zN.inj t t']
section
variable {X:Cx} {pins:List (Addr×Obj)} {σ:St} {H:Hp} {s:Shared} {a:Addr} {xs ys:List V}
theorem SqL.of{K:qc}(h:H a=some (.lst xs)):SqL K H a xs:=.inl (.inl h)
theorem Inv.list(I:Inv X pins σ H s)(h:SqL X.K H a xs):∃ its:List Value,zN xs its/\PlainL s.heap a its.toArray/\xs.length<=sizeLine:=by
 rcases h with h | ⟨o,its,n,hk,hc,hd,hs,hz,r⟩
 ·obtain⟨z,its,n,r,e⟩:=h.ok I.hok
  exact⟨its,r,⟨_,n,e,rfl,rfl,rfl⟩,z⟩
 ·refine⟨its.toList,r,⟨o,n,I.kIn a o hk,hc,hd,by simpa using hs⟩,?_⟩
  have e:=r.length
  simp only [Array.length_toList]at e
  omega
theorem Inv.tuple(I:Inv X pins σ H s)(h:SqT X.K H a xs):∃ its:List Value,zN xs its/\IsTup s.heap a its.toArray/\xs.length<=sizeLine:=by
 rcases h with h | ⟨o,its,n,hk,hc,hs,hz,r⟩
 ·obtain⟨z,its,r,p⟩:=h.ok I.hok
  exact⟨its,r,p,z⟩
 ·refine⟨its.toList,r,⟨o,I.kIn a o hk,hc,n,by simpa using hs⟩,?_⟩
  have e:=r.length
  simp only [Array.length_toList]at e
  omega
theorem Inv.list_inj(I:Inv X pins σ H s)(h:SqL X.K H a xs)(h':SqL X.K H a ys):xs=ys:=by
 obtain⟨its,r,⟨o,n,e,_,_,d⟩,_⟩:=I.list h
 obtain⟨its',r',⟨o',n',e',_,_,d'⟩,_⟩:=I.list h'
 rw [e]at e'; cases e'
 rw [d]at d'
 injection d' with d1 _
 have:its=its':=by simpa using congrArg Array.toList d1
 subst this
 exact r.inj r'
theorem Inv.tuple_inj(I:Inv X pins σ H s)(h:SqT X.K H a xs)(h':SqT X.K H a ys):xs=ys:=by
 obtain⟨its,r,⟨o,e,_,n,d⟩,_⟩:=I.tuple h
 obtain⟨its',r',⟨o',e',_,n',d'⟩,_⟩:=I.tuple h'
 rw [e]at e'; cases e'
 rw [d]at d'
 injection d' with d1 _
 have:its=its':=by simpa using congrArg Array.toList d1
 subst this
 exact r.inj r'
end
abbrev Cx.wish(X:Cx)(E:Value->Shared->Prop):Cx:={ X with xe:=E }
abbrev Cx.nox(X:Cx):Cx:=X.wish fun _ _=>False
theorem Cx.Ok.wish{X:Cx}(ok:X.Ok)(E:Value->Shared->Prop):(X.wish E).Ok :=
 ⟨ok.mod,ok.kind,ok.glob,ok.blt,ok.above,ok.inj,ok.has,ok.cab,ok.hd,ok.frames,ok.stk,ok.exf,ok.bs,ok.bsz,ok.noex,ok.exfs,ok.funs,ok.frf⟩
theorem Cx.Ok.unwish{X:Cx}{E:Value->Shared->Prop}(ok:(X.wish E).Ok):X.Ok :=
 ⟨ok.mod,ok.kind,ok.glob,ok.blt,ok.above,ok.inj,ok.has,ok.cab,ok.hd,ok.frames,ok.stk,ok.exf,ok.bs,ok.bsz,ok.noex,ok.exfs,ok.funs,ok.frf⟩
section
variable {X:Cx} {pins:List (Addr×Obj)} {σ:St} {H:Hp} {s:Shared} {E:Value->Shared->Prop}
theorem Inv.wish(I:Inv X pins σ H s)(E:Value->Shared->Prop):Inv (X.wish E) pins σ H s:=⟨I.ok.wish E,I.os,I.bare,I.base,I.loc,I.cell,I.free,I.freeC,I.pin,I.hok,I.len⟩
theorem Inv.unwish(I:Inv (X.wish E) pins σ H s):Inv X pins σ H s:=⟨I.ok.unwish,I.os,I.bare,I.base,I.loc,I.cell,I.free,I.freeC,I.pin,I.hok,I.len⟩
theorem SP.unwish{D:Ends}{f:Flow}{s':Shared}(h:SP (X.wish E) pins D f s'):SP X pins D f s':=by
 cases f with
 | next=>obtain⟨σ',H',I,q⟩:=h; exact⟨σ',H',I.unwish,q⟩
 | brk=>obtain⟨σ',H',I,q⟩:=h; exact⟨σ',H',I.unwish,q⟩
 | cont=>obtain⟨σ',H',I,q⟩:=h; exact⟨σ',H',I.unwish,q⟩
 | ret u=>obtain⟨v,σ',H',I,r,q⟩:=h; exact⟨v,σ',H',I.unwish,r,q⟩
theorem PSs.nox{st:List Stmt}{t:TS}(h:PSs X.nox st t):PSs X st t:=fun pins s σ H D I hw =>
 wpAny_mono (h pins s σ H D (I.wish _) hw) (fun _ _ q=>q.unwish) fun _ _ z=>False.elim z
end
section
variable {X:Cx} {st:Stmt} {zdr:List Stmt} {t u:TS} {e:Expr} {te:TE} {pos:Pos}
def zoF:TS:=fun D σ H=>D.nx σ H
def zoG(t u:TS):TS:=fun D σ H=>t { D with nx:=u D } σ H
theorem zr3:PSs X [] zoF:=fun _ _ σ H _ I h=>wpAny_execs_nil ⟨σ,H,I,h⟩
theorem zgU(h1:PS X st t)(h2:PSs X zdr u):PSs X (st::zdr) (zoG t u):=by
 intro pins s σ H D I h
 refine wpAny_execs_cons (thn (h1 pins s σ H { D with nx:=u D } I h) fun f s1 q=>?_)
 cases f with
 | next =>
  obtain⟨σ',H',I',q⟩:=q
  exact h2 pins s1 σ' H' D I' q
 | ret v=>exact q
 | brk=>exact q
 | cont=>exact q
theorem zl6(h1:PS X st t):PSs X [st] t:=by
 intro pins s σ H D I h
 refine wpAny_execs_cons (thn (h1 pins s σ H D I h) fun f s1 q=>?_)
 cases f with
 | next=>exact wpAny_execs_nil q
 | ret v=>exact q
 | brk=>exact q
 | cont=>exact q
theorem Inv.quiet{pins:List (Addr×Obj)}{σ:St}{H:Hp}{s:Shared}(I:Inv X pins σ H s):interactive X.env=false:=by simp [interactive,I.ok.kind]
def zoH(te:TE):TS:=fun D σ H=>te σ H fun _ H1=>D.nx σ H1
theorem zr4(he:PE X e te)(hs:swapsWith e none pos.line X.env=pure false:=by rfl):PS X (.Expr e pos) (zoH te):=by
 intro pins s σ H D I h
 exact wpAny_Expr_any (thn (he pins s σ H _ I h) fun v s1 ⟨x,H1,I1,r1,q1⟩=>⟨σ,H1,I1,q1⟩) I.quiet hs
def zr5(te:TE):TS:=fun D σ H=>te σ H D.rt
theorem zu3(he:PE X e te):PS X (.Return (some e) pos) (zr5 te):=by
 intro pins s σ H D I h
 exact wpAny_Return_some (thn (he pins s σ H _ I h) fun v s1 ⟨x,H1,I1,r1,q1⟩=>⟨x,σ,H1,I1,r1,q1⟩)
def zu4(c:TT)(t u:TS):TS:=fun D σ H=>c σ H fun b H1=>if b=true then t D σ H1 else u D σ H1
theorem zw4{c:Expr}{a b:List Stmt}{tc:TT}(hc:PT X c tc)(ha:PSs X a t)(hb:PSs X b u):PS X (.If c a b pos) (zu4 tc t u):=by
 intro pins s σ H D I h
 refine wpAny_If (thn (hc pins s σ H _ I h) fun d s1 ⟨H1,I1,q1⟩=>?_)
 cases d with
 | true=>exact ha pins s1 σ H1 D I1 q1
 | false=>exact hb pins s1 σ H1 D I1 q1
end
abbrev TG:=V->St->Hp->(St->Hp->Prop)->Prop
abbrev TGs:=List V->St->Hp->(St->Hp->Prop)->Prop
def PG(X:Cx)(target:Expr)(t:TG):Prop :=
 ∀ (pins:List (Addr×Obj)) (s:Shared) (σ:St) (H:Hp) (v:V) (u:Value) (Q:St->Hp->Prop),Inv X pins σ H s->zU v u->t v σ H Q ->
  wpAny (model X.prog X.w) X.A (assign target X.env u) (fun _ s'=>∃ σ' H',Inv X pins σ' H' s'/\Q σ' H') X.xe s
def PGs(X:Cx)(ts:List Expr)(t:TGs):Prop :=
 ∀ (pins:List (Addr×Obj)) (s:Shared) (σ:St) (H:Hp) (vs:List V) (us:List Value) (Q:St->Hp->Prop),Inv X pins σ H s->zN vs us->t vs σ H Q ->
  wpAny (model X.prog X.w) X.A (assignInOrder ((assignEach ts X.env).map (·.2)) us) (fun _ s'=>∃ σ' H',Inv X pins σ' H' s'/\Q σ' H') X.xe s
abbrev zr6:=V->V->V->Hp->(Hp->Prop)->Prop
def zu5(X:Cx)(t:zr6):Prop :=
 ∀ (pins:List (Addr×Obj)) (s:Shared) (σ:St) (H:Hp) (o i v:V) (ov iv u:Value) (Q:Hp->Prop),Inv X pins σ H s->zU o ov->zU i iv->zU v u->t o i v H Q ->
  wpAny (model X.prog X.w) X.A (setItem ov iv u) (fun _ s'=>∃ H',Inv X pins σ H' s'/\Q H') X.xe s
section
variable {X:Cx} {pos:Pos}
def zds(i:Nat):TG:=fun v σ H Q=>Q (σ.set i (some v)) H
theorem zr7{i:Nat}{x:Str}(hN:X.N.Nodup)(hi:X.N[i]?=some x)(hx:Loc X.env.scope x)(hf:X.fn x=true\/X.env.scope.names.lookup x=some .local:=by first | exact .inl rfl | exact .inr rfl | assumption):PG X (.Name x pos) (zds i):=by
 intro pins s σ H v u Q I r h
 exact wpAny_assign_Name (zff I hN hi hx r (fun s' I'=>⟨_,H,I',h⟩) hf)
def zr8:TGs:=fun vs σ H Q=>vs=[]/\Q σ H
def zjC(t:TG)(u:TGs):TGs:=fun vs σ H Q=>∃ v r,vs=v::r/\t v σ H fun σ' H'=>u r σ' H' Q
theorem zr9:PGs X [] zr8:=by
 intro pins s σ H vs us Q I r h
 obtain⟨e,h⟩:=h
 subst e
 cases r
 exact assignInOrder_nil ⟨σ,H,I,h⟩
theorem zoI{e:Expr}{es:List Expr}{t:TG}{u:TGs}(h1:PG X e t)(h2:PGs X es u)
  (hs:(assignEach (e::es) X.env).map (·.2)=assign e X.env::(assignEach es X.env).map (·.2):=by rfl):PGs X (e::es) (zjC t u):=by
 intro pins s σ H vs us Q I r h
 obtain⟨v,vr,e1,h⟩:=h
 subst e1
 cases r with
 | cons r rr =>
  rw [hs]
  refine assignInOrder_cons (thn (h1 pins s σ H _ _ _ I r h) fun _ s1 ⟨σ1,H1,I1,q1⟩=>?_)
  exact h2 pins s1 σ1 H1 _ _ Q I1 rr q1
def zsa(K:qc)(n:Nat)(t:TGs):TG:=fun v σ H Q=>∃ a xs,v=.ref a/\SqT K H a xs/\xs.length=n/\t xs σ H Q
theorem zu6{es:List Expr}{k:Nat}{t:TGs}{n:Nat}(hc:X.calm=true)(h:PGs X es t)
  (hn:(assignEach es X.env).length=n:=by rfl) (hst:(assignEach es X.env).findIdx? (·.1)=none:=by rfl):PG X (.Tuple es k pos) (zsa X.K n t):=by
 intro pins s σ H v u Q I r hw
 obtain⟨a,xs,e1,hq,hl,hw⟩:=hw
 subst e1
 cases r
 obtain⟨its,rv,ht,hz⟩:=I.tuple hq
 refine assign_Tuple_tuple (I.ok.hd hc) ht (by simp [hn,<-hl,rv.length]) hst fun h' hx=>?_
 have I1:Inv X pins σ H { s with heap:=h' }:=I.kept (t':=s.toks) fun b o e=>hx b o (qj (qh e)) e
 exact h pins _ σ H xs _ Q I1 (by simpa using rv) hw
def zu7(to ti:TE)(t:zr6):TG:=fun v σ H Q=>to σ H fun o H1=>ti σ H1 fun i H2=>t o i v H2 fun H3=>Q σ H3
theorem zu8{o i:Expr}{to ti:TE}{t:zr6}(ho:PE X o to)(hi:PE X i ti)(hs:zu5 X t)
  (ha:∀ v,assign (.Subscript o i pos) X.env v=(do
   let ov <-holding [v] (eval o X.env)
   let iv <-holding [v,ov] (eval i X.env)
   standAt pos
   holding [v,ov,iv] (setItem ov iv v)
   release [v,ov,iv] []):=by intro _; rfl):PG X (.Subscript o i pos) (zu7 to ti t):=by
 intro pins s σ H v u Q I r h
 rw [ha]
 refine qa (wpAny_holding (thn (ho pins s σ H _ I h) fun ov s1 ⟨x,H1,I1,r1,q1⟩=>?_))
 refine qa (wpAny_holding (thn (hi pins s1 σ H1 _ I1 q1) fun iv s2 ⟨y,H2,I2,r2,q2⟩=>?_))
 refine qa (wpAny_standAt (qa (wpAny_holding (thn (hs pins s2 σ H2 x y v ov iv u _ I2 r1 r2 r q2) fun _ s3 ⟨H3,I3,q3⟩=>?_))))
 exact wpAny_release ⟨σ,H3,I3,q3⟩
def ziJ(te:TE)(g:TG):TS:=fun D σ H=>te σ H fun x H1=>g x σ H1 D.nx
theorem zu9{tg e:Expr}{te:TE}{g:TG}(he:PE X e te)(hg:PG X tg g)(hs:swapsWithSole [tg] e pos.line X.env=pure false:=by rfl)(hw:swappedStores [tg] e X.env=pure none:=by rfl)
  (h1:(assignEach [tg] X.env).map (·.2)=[assign tg X.env]:=by rfl):PS X (.Assign [tg] e pos) (ziJ te g):=by
 intro pins s σ H D I h
 refine wpAny_Assign_stores (thn (he pins s σ H _ I h) fun v s1 ⟨x,H1,I1,r1,q1⟩=>?_) hs hw
 rw [h1]
 exact thn (hg pins s1 σ H1 x v _ I1 r1 q1) fun _ s2 q=>q
theorem zva{i:Nat}{x:Str}{e:Expr}{te:TE}{pos':Pos}(hN:X.N.Nodup)(hi:X.N[i]?=some x)(hx:Loc X.env.scope x)(he:PE X e te)(hs:swapsWith e (some (.Name x pos')) pos.line X.env=pure false:=by rfl)(hf:X.fn x=true\/X.env.scope.names.lookup x=some .local:=by first | exact .inl rfl | exact .inr rfl | assumption) :
  PS X (.Assign [.Name x pos'] e pos) (ziJ te (zds i)):=by
 intro pins s σ H D I h
 refine wpAny_Assign_Name (thn (he pins s σ H _ I h) fun v s1 ⟨y,H1,I1,r1,q1⟩=>?_) hs
 exact zff I1 hN hi hx r1 (fun s2 I2=>⟨_,H1,I2,q1⟩) hf
def zvb(i j:Nat)(ta:TA):TS:=fun D σ H=>ta σ H fun vs H1=>∃ v w,vs=[v,w]/\D.nx ((σ.set i (some v)).set j (some w)) H1
theorem zvc{i j:Nat}{x y:Str}{a b:Expr}{ta:TA}{px py pt:Pos}{kt k2 pt2}(hc:X.calm=true)(hN:X.N.Nodup)(hi:X.N[i]?=some x)(hj:X.N[j]?=some y)(hij:i≠j)
  (hx:X.env.scope.names.lookup x=some .local) (hy:X.env.scope.names.lookup y=some .local) (ha:PA X [a,b] ta)
  (hw:swappedStores [.Tuple [.Name x px,.Name y py] kt pt] (.Tuple [a,b] k2 pt2) X.env=pure (some [x,y]))
  (hs:swapsWithSole [.Tuple [.Name x px,.Name y py] kt pt] (.Tuple [a,b] k2 pt2) pos.line X.env=pure false:=by rfl) :
  PS X (.Assign [.Tuple [.Name x px,.Name y py] kt pt] (.Tuple [a,b] k2 pt2) pos) (zvb i j ta):=by
 intro pins s σ H D I h
 rw [exec_Assign_arm]
 refine qa (wpAny_standAt ?_)
 rw [hs]
 refine qa (qb ?_)
 rw [if_neg (by decide)]
 refine qa (Tuple_ (thn (ha _ pins s σ H _ I h) fun us s1 ⟨vs,H1,I1,r1,q1⟩=>?_))
 obtain⟨v,w,e1,q1⟩:=q1
 subst e1
 obtain⟨u1,u2,rfl,rv,rw'⟩:∃ u1 u2,us=[u1,u2]/\zU v u1/\zU w u2:=by
  cases r1 with
  | cons p q =>
   cases q with
   | cons p' q' =>
    cases q'
    exact⟨_,_,rfl,p,p'⟩
 refine qy ?_ (by show 2<=sizeLine; decide)
 have I2:Inv X pins σ H1 { s1 with heap:=s1.heap.push { cls:=.type "tuple",data:=.seq [u1,u2].toArray } }:=I1.kept (t':=s1.toks) fun b o e=>qd _ e
 rw [hw]
 refine qa (qb ?_)
 show wpAny (model X.prog X.w) X.A (do rule "assign.swapped-stores"; let items <-unpackItems (.ref s1.heap.objs.size) 2 none; assignInOrder [fun v=>bindName X.env y v,fun v=>bindName X.env x v] items.reverse; pure Flow.next) _ _ _
 refine qa (wpAny_rule (qa (unpackItems_tuple (items:=#[u1,u2]) (I.ok.hd hc) (IsTup.new s1.heap _) fun h' hx'=>?_)))
 have I3:=I2.kept (h':=h') (t':=s1.toks) fun b o e=>hx' b o (qj (qh e)) e
 show wpAny _ _ (assignInOrder [fun v=>bindName X.env y v,fun v=>bindName X.env x v] [u2,u1] >>= fun _=>pure Flow.next) _ _ _
 refine qa (assignInOrder_cons (wpAny_bindName (zff I3 hN hj (.inl hy) rw' (fun s2 I4=>?_) (.inr hy))))
 refine assignInOrder_cons (wpAny_bindName (zff I4 hN hi (.inl hx) rv (fun s3 I5=>assignInOrder_nil (qb ?_)) (.inr hx)))
 rw [List.set_comm _ _ (Ne.symm hij)]at I5
 exact⟨_,H1,I5,q1⟩
end
section
variable {X:Cx} {pos:Pos}
def zkX(c:TT)(tb:TS):TS:=fun D σ H=>∃ W:Nat->St->Hp->Prop,(∃ m,W m σ H)/\∀ m σ H,W m σ H ->
 c σ H fun b H1=>if b=true then ∃ N:St->Hp->Prop,(∀ σ' H',N σ' H'->∃ m',m' < m/\W m' σ' H')/\tb { D with nx:=N,ct:=N,bk:=D.nx } σ H1 else D.nx σ H1
theorem zoJ{c:Expr}{body:List Stmt}{tc:TT}{tb:TS}(hp:PassesOwn (model X.prog X.w) X.A X.env X.xe)(hc:PT X c tc)(hb:PSs X body tb):PS X (.While c body [] pos) (zkX tc tb):=by
 intro pins s σ H D I h
 obtain⟨W,⟨m0,w0⟩,turn⟩:=h
 refine wpAny_While (codeAny_whileLoop (fun n s'=>∃ σ' H',Inv X pins σ' H' s'/\W n σ' H') ?_ m0 ⟨σ,H,I,w0⟩)
 rintro n s1 ⟨σ1,H1,I1,w1⟩
 refine wpAny_passesOwn hp (thn (hc pins s1 σ1 H1 _ I1 (turn n σ1 H1 w1)) fun b s2 ⟨H2,I2,q2⟩=>?_)
 cases b with
 | true =>
  obtain⟨N,hN,q2⟩:=q2
  rw [if_pos rfl]
  refine wpAny_passesOwn hp (thn (hb pins s2 σ1 H2 _ I2 q2) fun f s3 q3=>?_)
  cases f with
  | next =>
   obtain⟨σ3,H3,I3,n3⟩:=q3
   obtain⟨m',hm,w3⟩:=hN σ3 H3 n3
   exact⟨m',hm,σ3,H3,I3,w3⟩
  | cont =>
   obtain⟨σ3,H3,I3,n3⟩:=q3
   obtain⟨m',hm,w3⟩:=hN σ3 H3 n3
   exact⟨m',hm,σ3,H3,I3,w3⟩
  | brk=>exact q3
  | ret v=>exact q3
 | false =>
  rw [if_neg qf]
  exact wpAny_execs_nil ⟨σ1,H2,I2,q2⟩
end
structure It where
 go:Nat->Hp->Prop
 yld:Nat->Hp->V->Hp->Prop
 stop:Nat->Hp->Prop
def zdt(X:Cx)(pins:List (Addr×Obj))(H:Hp)(b:Addr):Prop :=
 H b=none/\b≠X.env.locals/\b∉X.fs/\(b∈X.ex\/X.s₀.heap.objs.size<=b)/\(∀ x c,X.env.cells.lookup x=some c->c≠b)/\∀ p∈X.pn++pins,p.1≠b
theorem Inv.fpOk{X:Cx}{pins:List (Addr×Obj)}{σ:St}{H H':Hp}{s:Shared}{b:Addr}(I:Inv X pins σ H s)(hb:s.heap.objs.size<=b)(hn:H' b=none):zdt X pins H' b:=by
 refine⟨hn,Nat.ne_of_gt (qi I.lt hb),I.nofs hb,.inr (qx I.sz hb),fun x c e z=>?_,fun p hp z=>?_⟩
 ·obtain⟨v,q⟩:=I.cell x c e
  exact absurd (qi q.lt (by rw [z]; exact hb)) (Nat.lt_irrefl _)
 ·exact absurd (qi (qh (I.pin p hp).1) (by rw [z]; exact hb)) (Nat.lt_irrefl _)
structure Turn (P:Program) (w:World) (K:qc) (tg:Expr) (J:It) (fp:List Addr) (it:Addr) (tn:Nat->Heap->Prop):Prop where
 mem:it∈fp
 obj:∀ i h,tn i h->∀ b∈fp,∃ o,h.get? b=some o/\∀ v,o.data≠.cell v
 keep:∀ i h h',tn i h->(∀ b∈fp,∀ o,h.get? b=some o->h'.get? b=some o)->tn i h'
 item:∀ (X:Cx),X.prog=P->X.w=w->X.K=K->X.calm=true->∀ (i:Nat) (pins:List (Addr×Obj)) (s:Shared) (σ:St) (H:Hp) (E:Value->Shared->Prop),Inv X pins σ H s->(∀ b∈fp,zdt X pins H b)->tn i s.heap->J.go i H ->
  wpAny (model P w) X.A (pyNext (.ref it)) (fun r s1=>∃ u,r=some u /\
   wpAny (model P w) X.A (letOwnedTupleGo tg (.ref it) u) (fun _ s2=>∃ x H',Inv X pins σ H' s2/\zU x u/\J.yld i H x H'/\tn (i+1) s2.heap/\∀ b∈fp,H' b=none) E s1) E s
 done:∀ (X:Cx),X.prog=P->X.w=w->X.K=K->X.calm=true->∀ (i:Nat) (pins:List (Addr×Obj)) (s:Shared) (σ:St) (H:Hp) (E:Value->Shared->Prop),Inv X pins σ H s->(∀ b∈fp,zdt X pins H b)->tn i s.heap->J.stop i H ->
  wpAny (model P w) X.A (pyNext (.ref it)) (fun r s1=>r=none/\Inv X pins σ H s1) E s
 self:∀ (A:Around) (i:Nat) (s:Shared) (Q:Value->Shared->Prop) (E:Value->Shared->Prop),tn i s.heap->Q (.ref it) s->wpAny (model P w) A (pyIter (.ref it)) Q E s
abbrev TI:=St->Hp->(It->Hp->Prop)->Prop
def PIE(X:Cx)(pins:List (Addr×Obj))(σ:St)(tg:Expr)(R:It->Hp->Prop)(itv:Value)(s2:Shared):Prop :=
 ∃ (it:Addr) (fp:List Addr) (tn:Nat->Heap->Prop) (J:It) (H':Hp),itv=.ref it/\Inv X pins σ H' s2/\Turn X.prog X.w X.K tg J fp it tn/\tn 0 s2.heap/\(∀ b∈fp,zdt X pins H' b)/\R J H'
def PI(X:Cx)(tg iter:Expr)(wi:TI):Prop :=
 ∀ (pins:List (Addr×Obj)) (s:Shared) (σ:St) (H:Hp) (R:It->Hp->Prop),Inv X pins σ H s->wi σ H R ->
  wpAny (model X.prog X.w) X.A (eval iter X.env) (fun v s1=>wpAny (model X.prog X.w) X.A (pyIter v) (PIE X pins σ tg R) X.xe s1) X.xe s
theorem zjD{M:Model}{A:Around}{E:Value->Shared->Prop}{s:Shared}{tg:Expr}{it:Addr}{u:Value}{o:Obj}{n:String}{vs:Array Value}{Q:Unit->Shared->Prop}(ho:s.heap.get? it=some o)(hc:o.cls=.type n)(hd:o.data=.fields vs)
  (hn:["enumerate", "zip", "dict_itemiterator", "dict_reverseitemiterator", "odict_iterator", "itertools.zip_longest", "itertools.pairwise"].contains n=false) (hQ:Q () s):wpAny M A (letOwnedTupleGo tg (.ref it) u) Q E s:=by
 unfold letOwnedTupleGo
 cases tg<;>first
  | exact qb hQ
  | (cases u<;>first
    | exact qb hQ
    | (refine qa (wpAny_load ho ?_)
       rw [hc,hd]
       show wpAny M A (if(["enumerate", "zip", "dict_itemiterator", "dict_reverseitemiterator", "odict_iterator", "itertools.zip_longest", "itertools.pairwise"].contains n && vs[0]?==some (rawInt _))=true then _ else _) Q E s
       rw [if_neg (by intro h; rw [hn,Bool.false_and]at h; cases h)]
       exact qb hQ))
def Itl(K:qc)(a:Addr):It :=
 ⟨fun i H=>∃ xs x,SqL K H a xs/\xs[i]?=some x,fun i H x H'=>H'=H/\∀ xs,SqL K H a xs->xs[i]?=some x,fun i H=>∃ xs,SqL K H a xs/\xs.length<=i⟩
def Itt(K:qc)(a:Addr):It :=
 ⟨fun i H=>∃ xs x,SqT K H a xs/\xs[i]?=some x,fun i H x H'=>H'=H/\∀ xs,SqT K H a xs->xs[i]?=some x,fun i H=>∃ xs,SqT K H a xs/\xs.length<=i⟩
def Itr(lo:Int)(n:Nat):It:=⟨fun i _=>i < n,fun i H x H'=>H'=H/\x=.int (lo+i),fun i _=>n<=i⟩
theorem znD{P:Program}{w:World}{K:qc}{tg:Expr}(a it:Addr):Turn P w K tg (Itl K a) [it] it (fun i h=>h.IsListIter it a i) where
 mem:=by simp
 obj:=fun i h st b hb=>by
  have e:b=it:=by simpa using hb
  subst e
  obtain⟨o,e,c,d⟩:=st
  exact⟨o,e,fun v z=>by rw [d]at z; cases z⟩
 keep:=fun i h h' st k=>st.at fun o e=>k it (by simp) o e
 item:=by
  intro X hP hw hK hc i pins s σ H E I hf st hg
  subst hP hw hK
  obtain⟨xs,x,hq,hx⟩:=hg
  obtain⟨its,rv,p,hz⟩:=I.list hq
  obtain⟨u,hu,ru⟩:=rv.get hx
  obtain⟨f0,f1,f2,f3,f4,f5⟩:=hf it (by simp)
  refine wpAny_pyNext_list_item st p.isList (x:=u) (by simpa using hu) fun h' st' sb=>?_
  have I1:Inv X pins σ H { s with heap:=h' }:=I.turned (t':=s.toks) (fun b o hb e=>(sb.2 b hb).trans e) f0 f1 f3 f4 f5
  obtain⟨o,e,c,d⟩:=id st'
  exact⟨u,rfl,zjD (s:={ s with heap:=h' }) e c d (by decide) ⟨x,H,I1,ru,⟨rfl,fun ys hy=>by rw [I.list_inj hy hq]; exact hx⟩,st',fun b hb=>(hf b hb).1⟩⟩
 done:=by
  intro X hP hw hK hc i pins s σ H E I hf st hg
  subst hP hw hK
  obtain⟨xs,hq,hx⟩:=hg
  obtain⟨its,rv,p,hz⟩:=I.list hq
  obtain⟨f0,f1,f2,f3,f4,f5⟩:=hf it (by simp)
  have hl:=rv.length
  exact wpAny_pyNext_list_end (I.ok.hd hc) st p.isList (by simp; omega) fun h' eb=>⟨rfl,I.turned (t':=s.toks) (fun b o hb e=>eb b o hb e) f0 f1 f3 f4 f5⟩
 self:=fun _ _ _ _ _ st h=>wpAny_pyIter_listiter st h
theorem zkY{P:Program}{w:World}{K:qc}{tg:Expr}(a it:Addr):Turn P w K tg (Itt K a) [it] it (fun i h=>h.IsTupleIter it a i) where
 mem:=by simp
 obj:=fun i h st b hb=>by
  have e:b=it:=by simpa using hb
  subst e
  obtain⟨o,e,c,d⟩:=st
  exact⟨o,e,fun v z=>by rw [d]at z; cases z⟩
 keep:=fun i h h' st k=>st.at fun o e=>k it (by simp) o e
 item:=by
  intro X hP hw hK hc i pins s σ H E I hf st hg
  subst hP hw hK
  obtain⟨xs,x,hq,hx⟩:=hg
  obtain⟨its,rv,p,hz⟩:=I.tuple hq
  obtain⟨u,hu,ru⟩:=rv.get hx
  obtain⟨f0,f1,f2,f3,f4,f5⟩:=hf it (by simp)
  refine wpAny_pyNext_tuple_item st (show s.heap.IsTuple a its.toArray from p) (x:=u) (by simpa using hu) fun h' st' sb=>?_
  have I1:Inv X pins σ H { s with heap:=h' }:=I.turned (t':=s.toks) (fun b o hb e=>(sb.2 b hb).trans e) f0 f1 f3 f4 f5
  obtain⟨o,e,c,d⟩:=id st'
  exact⟨u,rfl,zjD (s:={ s with heap:=h' }) e c d (by decide) ⟨x,H,I1,ru,⟨rfl,fun ys hy=>by rw [I.tuple_inj hy hq]; exact hx⟩,st',fun b hb=>(hf b hb).1⟩⟩
 done:=by
  intro X hP hw hK hc i pins s σ H E I hf st hg
  subst hP hw hK
  obtain⟨xs,hq,hx⟩:=hg
  obtain⟨its,rv,p,hz⟩:=I.tuple hq
  obtain⟨f0,f1,f2,f3,f4,f5⟩:=hf it (by simp)
  have hl:=rv.length
  exact wpAny_pyNext_tuple_end (I.ok.hd hc) st (show s.heap.IsTuple a its.toArray from p) (by simp; omega) fun h' eb=>⟨rfl,I.turned (t':=s.toks) (fun b o hb e=>eb b o hb e) f0 f1 f3 f4 f5⟩
 self:=fun _ _ _ _ _ st h=>wpAny_pyIter_tupleiter st h
theorem zkZ{P:Program}{w:World}{K:qc}{tg:Expr}(it:Addr)(lo:Int)(n:Nat):Turn P w K tg (Itr lo n) [it] it (fun i h=>IsRangeIter h it (lo+(i:Nat) * 1) ((n:Int) - (i:Nat)) 1) where
 mem:=by simp
 obj:=fun i h st b hb=>by
  have e:b=it:=by simpa using hb
  subst e
  exact⟨_,st,fun v z=>by
   have z':Data.fields _=Data.cell v:=z
   cases z'⟩
 keep:=fun i h h' st k=>k it (by simp) _ st
 item:=by
  intro X hP hw hK hc i pins s σ H E I hf st hg
  subst hP hw hK
  obtain⟨f0,f1,f2,f3,f4,f5⟩:=hf it (by simp)
  have W:=Walks.range (prog:=X.prog) (w:=X.w) (I.ok.hd hc) it lo 1 n
  refine W.item i s _ _ hg st fun v h' tk hv st' kk=>?_
  obtain⟨t,rfl⟩:=hv
  have I1:Inv X pins σ H { s with heap:=h',toks:=tk }:=I.turned (fun b o hb e=>kk b o (by simpa using hb) e) f0 f1 f3 f4 f5
  refine⟨_,rfl,zjD (s:={ s with heap:=h',toks:=tk }) (n := "range_iterator") st' rfl rfl (by decide) ⟨.int (lo+i),H,I1,⟨t,?_⟩,⟨rfl,rfl⟩,st',fun b hb=>(hf b hb).1⟩⟩
  rw [Int.mul_one]
 done:=by
  intro X hP hw hK hc i pins s σ H E I hf st hg
  subst hP hw hK
  obtain⟨f0,f1,f2,f3,f4,f5⟩:=hf it (by simp)
  exact wpAny_pyNext_range_end (I.ok.hd hc) st (by have:n<=i:=hg; omega) fun h' eb=>⟨rfl,I.turned (t':=s.toks) (fun b o hb e=>eb b o hb e) f0 f1 f3 f4 f5⟩
 self:=fun _ _ _ _ _ st h=>wpAny_pyIter_rangeiter st h
section
variable {X:Cx} {tg:Expr}
def zoK(K:qc)(tl:TE):TI:=fun σ H R=>tl σ H fun x H1=>∃ a,x=.ref a/\(∃ xs,SqL K H1 a xs)/\R (Itl K a) H1
def zvd(K:qc)(tl:TE):TI:=fun σ H R=>tl σ H fun x H1=>∃ a,x=.ref a/\(∃ xs,SqT K H1 a xs)/\R (Itt K a) H1
theorem zsb{l:Expr}{tl:TE}(hl:PE X l tl):PI X tg l (zoK X.K tl):=by
 intro pins s σ H R I h
 refine thn (hl pins s σ H _ I h) fun v s1 ⟨x,H1,I1,r1,q1⟩=>?_
 obtain⟨a,e,⟨xs,hq⟩,q⟩:=q1
 subst e
 cases r1
 obtain⟨its,rv,p,hz⟩:=I1.list hq
 refine wpAny_pyIter_list p.isList ?_
 refine⟨s1.heap.objs.size,[s1.heap.objs.size],_,_,H1,rfl,I1.kept (t':=s1.toks) fun b o e=>qd _ e,znD a _,⟨_,qg _ rfl,rfl,rfl⟩,fun b hb=>?_,q⟩
 have e:b=s1.heap.objs.size:=by simpa using hb
 subst e
 exact I1.fpOk (qe _) (I1.hok.fresh (qe _))
theorem zve{l:Expr}{tl:TE}(hl:PE X l tl):PI X tg l (zvd X.K tl):=by
 intro pins s σ H R I h
 refine thn (hl pins s σ H _ I h) fun v s1 ⟨x,H1,I1,r1,q1⟩=>?_
 obtain⟨a,e,⟨xs,hq⟩,q⟩:=q1
 subst e
 cases r1
 obtain⟨its,rv,p,hz⟩:=I1.tuple hq
 refine wpAny_pyIter_tuple (show s1.heap.IsTuple a its.toArray from p) ?_
 refine⟨s1.heap.objs.size,[s1.heap.objs.size],_,_,H1,rfl,I1.kept (t':=s1.toks) fun b o e=>qd _ e,zkY a _,⟨_,qg _ rfl,rfl,rfl⟩,fun b hb=>?_,q⟩
 have e:b=s1.heap.objs.size:=by simpa using hb
 subst e
 exact I1.fpOk (qe _) (I1.hok.fresh (qe _))
theorem zoL{pins:List (Addr×Obj)}{σ:St}{H:Hp}{s:Shared}{R:It->Hp->Prop}{E:Value->Shared->Prop}{lo hi:Int}{t u v:Tok}{tk:Nat}(I:Inv X pins σ H s)(h1:-(2^62)<=lo)(h2:lo < 2^62)(h3:-(2^62)<=hi)(h4:hi < 2^62)
  (q:R (Itr lo (hi - lo).toNat) H):wpAny (model X.prog X.w) X.A (pyIter (.ref s.heap.objs.size)) (PIE X pins σ tg R) E { s with heap:=s.heap.push { cls:=.type "range",data:=.fields #[.int lo t,.int hi u,.int 1 v] },toks:=tk }:=by
 refine wpAny_pyIter_range (IsRange.new ..) (small_one h1 h2 h3 h4) ?_
 have I1:Inv X pins σ H { s with heap:=s.heap.push { cls:=.type "range",data:=.fields #[.int lo t,.int hi u,.int 1 v] },toks:=tk }:=I.kept fun b o e=>qd _ e
 refine⟨(s.heap.push { cls:=.type "range",data:=.fields #[.int lo t,.int hi u,.int 1 v] }).objs.size,[(s.heap.push { cls:=.type "range",data:=.fields #[.int lo t,.int hi u,.int 1 v] }).objs.size],_,_,H,rfl,
  I1.kept (t':=tk) fun b o e=>qd _ e,zkZ _ lo (hi - lo).toNat,?_,fun b hb=>?_,q⟩
 ·have e1:lo+((0:Nat):Int) * 1=lo:=by simp
  have e2:(((hi - lo).toNat:Nat):Int) - ((0:Nat):Int)=Builtin.Range.rangeSize lo hi 1:=by rw [rangeSize_one]; split<;>omega
  show IsRangeIter _ _ (lo+((0:Nat):Int) * 1) ((((hi - lo).toNat:Nat):Int) - ((0:Nat):Int)) 1
  rw [e1,e2]
  exact qg _ rfl
 ·have e:b=(s.heap.push { cls:=.type "range",data:=.fields #[.int lo t,.int hi u,.int 1 v] }).objs.size:=by simpa using hb
  subst e
  exact I1.fpOk (qe _) (I1.hok.fresh (qe _))
def zoM(ta:TA):TI:=fun σ H R=>ta σ H fun vs H1=>∃ j:Int,vs=[.int j]/\-(2^62)<=j/\j < 2^62/\R (Itr 0 j.toNat) H1
theorem znE{a:Expr}{ta:TA}{p pos:Pos}(hg:Gl X "range")(hm:X.mg "range"=none)(ha:PA X [a] ta)(hs:starEach [a] X.env=[(false,eval a X.env)]:=by rfl):PI X tg (.Call (.Name "range" p) [a] [] pos) (zoM ta):=by
 intro pins s σ H R I h
 refine Call_ (zfV I hg hm boot_range (PyProof.Rows.callWith_type1 (thn (ha pos pins s σ H _ I h) fun us s1 ⟨vs,H1,I1,r1,q1⟩=>?_) hs rfl))
 obtain⟨j,e,q1,q2,q⟩:=q1
 subst e
 cases r1 with
 | cons r rr =>
  cases rr
  obtain⟨t,rfl⟩:=r
  exact call_range_1 (zoL I1 (by omega) (by omega) q1 q2 (by simpa using q))
def zvf(wi:TI)(g:TG)(tb:TS):TS:=fun D σ H=>wi σ H fun J H1=>∃ W:Nat->Nat->St->Hp->Prop,(∃ m,W 0 m σ H1)/\∀ i m σ H,W i m σ H ->
 (J.stop i H/\D.nx σ H)\/(J.go i H/\∃ N:St->Hp->Prop,(∀ σ' H',N σ' H'->∃ m',m' < m/\W (i+1) m' σ' H')/\∀ x H',J.yld i H x H'->g x σ H' fun σ2 H2=>tb { D with nx:=N,ct:=N,bk:=D.nx } σ2 H2)
def zfW(fp:List Addr)(h:Heap):List (Addr×Obj):=fp.filterMap fun b=>(h.get? b).map fun o=>(b,o)
theorem zcn{fp:List Addr}{h:Heap}{b:Addr}{o:Obj}(hb:b∈fp)(e:h.get? b=some o):(b,o)∈zfW fp h:=List.mem_filterMap.mpr ⟨b,hb,by rw [e]; rfl⟩
theorem znF{fp:List Addr}{h:Heap}{p:Addr×Obj}(hp:p∈zfW fp h):p.1∈fp/\h.get? p.1=some p.2:=by
 obtain⟨b,hb,e⟩:=List.mem_filterMap.mp hp
 cases q:h.get? b with
 | none=>rw [q]at e; cases e
 | some o =>
  rw [q]at e
  have e':(b,o)=p:=qw e
  subst e'
  exact⟨hb,q⟩
theorem Inv.pinned{pins:List (Addr×Obj)}{σ:St}{H:Hp}{s:Shared}{fp:List Addr}(I:Inv X pins σ H s)(hf:∀ b∈fp,zdt X pins H b)(ho:∀ b∈fp,∃ o,s.heap.get? b=some o/\∀ v,o.data≠.cell v):Inv X (pins++zfW fp s.heap) σ H s :=
 I.pins_of fun p hp=>(List.mem_append.mp hp).elim (fun z=>I.pin p (qv _ z)) fun z=>by
  obtain⟨hb,e⟩:=znF z
  obtain⟨f0,f1,f2,_⟩:=hf p.1 hb
  obtain⟨o,e',d⟩:=ho p.1 hb
  rw [e]at e'; cases e'
  exact⟨e,f0,f1,f2,d⟩
theorem Inv.unpinned{pins pl:List (Addr×Obj)}{σ:St}{H:Hp}{s:Shared}(I:Inv X (pins++pl) σ H s):Inv X pins σ H s:=I.pins_of fun p hp=>I.pin p (qv _ (List.mem_append_left _ hp))
theorem zvg{iter:Expr}{body:List Stmt}{wi:TI}{g:TG}{tb:TS}{pos:Pos}(hp:PassesOwn (model X.prog X.w) X.A X.env X.xe)(hc:X.calm=true)(hi:PI X tg iter wi)(hg:PG X tg g)(hb:PSs X body tb)
  (hs:∀ x,foldedSetIterable iter X.env x=pure x:=by intro _; rfl):PS X (.For tg iter body [] pos) (zvf wi g tb):=by
 intro pins s σ H D I h
 refine wpAny_For (thn (hi pins s σ H _ I h) fun v s1 h1=>thn h1 fun itv s2 h2=>?_) hs
 obtain⟨it,fp,tn,J,H2,e,I2,T,st2,f2,W,⟨m0,w0⟩,turn⟩:=h2
 subst e
 have stat:∀ {H':Hp},(∀ b∈fp,H' b=none)->∀ b∈fp,zdt X pins H' b:=fun hn b hb=>⟨hn b hb,(f2 b hb).2⟩
 refine codeAny_forLoop_any (fun n s'=>∃ i σ' H',Inv X pins σ' H' s'/\tn i s'.heap/\(∀ b∈fp,H' b=none)/\W i n σ' H') ?_ m0 ⟨0,σ,H2,I2,st2,fun b hb=>(f2 b hb).1,w0⟩
 rintro n s3 ⟨i,σ3,H3,I3,st3,fr3,w3⟩
 rcases turn i n σ3 H3 w3 with ⟨stop,qn⟩ | ⟨go,N,hN,step⟩
 ·refine wpAny_passesOwn hp (thn (T.done X rfl rfl rfl hc i pins s3 σ3 H3 X.xe I3 (stat fr3) st3 stop) fun r s4 ⟨hr,I4⟩=>?_)
  subst hr
  exact wpAny_execs_nil ⟨σ3,H3,I4,qn⟩
 ·refine wpAny_passesOwn hp (thn (T.item X rfl rfl rfl hc i pins s3 σ3 H3 X.xe I3 (stat fr3) st3 go) fun r s4 ⟨u,hr,h4⟩=>?_)
  subst hr
  refine wpAny_passesOwn hp (thn h4 fun _ s5 ⟨x,H5,I5,r5,y5,st5,fr5⟩=>?_)
  have I5':=I5.pinned (stat fr5) (T.obj _ _ st5)
  refine wpAny_passesOwn hp (thn (hg _ s5 σ3 H5 x u _ I5' r5 (step x H5 y5)) fun _ s6 ⟨σ6,H6,I6,q6⟩=>?_)
  refine wpAny_passesOwn hp (thn (hb _ s6 σ6 H6 _ I6 q6) fun f s7 q7=>?_)
  have again:∀ {σ7:St} {H7:Hp},Inv X (pins++zfW fp s5.heap) σ7 H7 s7->N σ7 H7->∃ m,m < n/\∃ i σ' H',Inv X pins σ' H' s7/\tn i s7.heap/\(∀ b∈fp,H' b=none)/\W i m σ' H':=fun{σ7 H7} I7 n7=>by
   obtain⟨m',hm,w7⟩:=hN σ7 H7 n7
   refine⟨m',hm,i+1,σ7,H7,I7.unpinned,T.keep _ _ _ st5 fun b hb o e=>(I7.pin (b,o) (qv _ (qv _ (zcn hb e)))).1,fun b hb=>?_,w7⟩
   obtain⟨o,e,d⟩:=T.obj _ _ st5 b hb
   exact(I7.pin (b,o) (qv _ (qv _ (zcn hb e)))).2.1
  cases f with
  | next=>obtain⟨σ7,H7,I7,n7⟩:=q7; exact again I7 n7
  | cont=>obtain⟨σ7,H7,I7,n7⟩:=q7; exact again I7 n7
  | brk=>obtain⟨σ7,H7,I7,q7⟩:=q7; exact⟨σ7,H7,I7.unpinned,q7⟩
  | ret v=>obtain⟨x7,σ7,H7,I7,r7,q7⟩:=q7; exact⟨x7,σ7,H7,I7.unpinned,r7,q7⟩
end
abbrev R2:=V->V->Hp->VK->Prop
def OpR(X:Cx)(f:Value->Value->Sem Value)(r:R2):Prop :=
 ∀ (pins:List (Addr×Obj)) (s:Shared) (σ:St) (H:Hp) (x y:V) (v u:Value) (Q:VK),Inv X pins σ H s->zU x v->zU y u->r x y H Q ->
  wpAny (model X.prog X.w) X.A (f v u) (EP X pins σ Q) X.xe s
def UnR(X:Cx)(f:Value->Sem Value)(r:V->Hp->VK->Prop):Prop :=
 ∀ (pins:List (Addr×Obj)) (s:Shared) (σ:St) (H:Hp) (x:V) (v:Value) (Q:VK),Inv X pins σ H s->zU x v->r x H Q ->
  wpAny (model X.prog X.w) X.A (f v) (EP X pins σ Q) X.xe s
def zbU(X:Cx)(f:Value)(r:List V->Hp->VK->Prop):Prop :=
 ∀ (pins:List (Addr×Obj)) (s:Shared) (σ:St) (H:Hp) (xs:List V) (us:List Value) (Q:VK),Inv X pins σ H s->zN xs us->r xs H Q ->
  wpAny (model X.prog X.w) X.A (call f us) (EP X pins σ Q) X.xe s
def zyA(X:Cx)(r:V->Hp->(Bool->Hp->Prop)->Prop):Prop :=
 ∀ (pins:List (Addr×Obj)) (s:Shared) (σ:St) (H:Hp) (x:V) (v:Value) (Q:Bool->Hp->Prop),Inv X pins σ H s->zU x v->r x H Q ->
  wpAny (model X.prog X.w) X.A (truthy v) (TP X pins σ Q) X.xe s
def tOp(r:R2)(ta tb:TE):TE:=fun σ H Q=>ta σ H fun x H1=>tb σ H1 fun y H2=>r x y H2 Q
def tUn(r:V->Hp->VK->Prop)(ta:TE):TE:=fun σ H Q=>ta σ H fun x H1=>r x H1 Q
def rI(C:Int->Int->Prop)(g:Int->Int->V):R2:=fun x y H Q=>∃ i j,x=.int i/\y=.int j/\C i j/\Q (g i j) H
def rI0(g:Int->Int->V):R2:=fun x y H Q=>∃ i j,x=.int i/\y=.int j/\Q (g i j) H
def rU(g:Int->V):V->Hp->VK->Prop:=fun x H Q=>∃ i,x=.int i/\Q (g i) H
section
variable {X:Cx} {a b c:Expr} {ta tb tc:TE} {pos:Pos}
theorem zvh(ha:PE X a ta)(hb:PE X b tb){pins:List (Addr×Obj)}{s:Shared}{σ:St}{H:Hp}{R:V->V->Hp->Prop}(I:Inv X pins σ H s)
  (h:ta σ H fun x H1=>tb σ H1 fun y H2=>R x y H2) {Q:Value->Shared->Prop} {f:Value->Value->Sem Value}
  (hf:∀ v u s2 x y H2,Inv X pins σ H2 s2->zU x v->zU y u->R x y H2->wpAny (model X.prog X.w) X.A (f v u) Q X.xe s2) :
  wpAny (model X.prog X.w) X.A (eval a X.env) (fun v s₁=>wpAny (model X.prog X.w) X.A (eval b X.env) (fun u s₂=>wpAny (model X.prog X.w) X.A (f v u) Q X.xe s₂) X.xe s₁) X.xe s:=by
 refine thn (ha pins s σ H _ I h) fun v s1 ⟨x,H1,I1,r1,q1⟩=>?_
 refine thn (hb pins s1 σ H1 _ I1 q1) fun u s2 ⟨y,H2,I2,r2,q2⟩=>?_
 exact hf v u s2 x y H2 I2 r1 r2 q2
theorem zw5{op:Operator}{r:R2}(ho:OpR X (binaryOp op) r)(ha:PE X a ta)(hb:PE X b tb):PE X (.BinOp a op b pos) (tOp r ta tb):=by
 intro pins s σ H Q I h
 exact wpAny_BinOp (zvh ha hb I h fun v u s2 x y H2 I2 rx ry q=>ho pins s2 σ H2 x y v u Q I2 rx ry q)
theorem zw6{op:UnaryOp}{r:V->Hp->VK->Prop}(ho:UnR X (unaryOp op) r)(ha:PE X a ta):PE X (.UnaryOp op a pos) (tUn r ta):=by
 intro pins s σ H Q I h
 exact UnaryOp_ (thn (ha pins s σ H _ I h) fun v s1 ⟨x,H1,I1,r1,q1⟩=>ho pins s1 σ H1 x v Q I1 r1 q1)
theorem opI{f:Value->Value->Sem Value}{C:Int->Int->Prop}{g:Int->Int->Int}
  (rule:∀ (i j:Int) (t u:Tok) (s:Shared) (Q:Value->Shared->Prop) (E:Value->Shared->Prop),C i j->Q (.int (g i j) s.toks) { s with toks:=s.toks+1 }->wpAny (model X.prog X.w) X.A (f (.int i t) (.int j u)) Q E s) :
  OpR X f (rI C fun i j=>.int (g i j)):=by
 intro pins s σ H x y v u Q I rx ry h
 obtain⟨i,j,rfl,rfl,hc,q⟩:=h
 obtain⟨t,rfl⟩:=rx
 obtain⟨t',rfl⟩:=ry
 exact rule i j t t' s _ _ hc ⟨.int (g i j),H,I.tok _,⟨_,rfl⟩,q⟩
theorem zvi{f:Value->Value->Sem Value}{g:Int->Int->Int}
  (rule:∀ (i j:Int) (t u:Tok) (s:Shared) (Q:Value->Shared->Prop) (E:Value->Shared->Prop),Q (.int (g i j) s.toks) { s with toks:=s.toks+1 }->wpAny (model X.prog X.w) X.A (f (.int i t) (.int j u)) Q E s) :
  OpR X f (rI0 fun i j=>.int (g i j)):=by
 intro pins s σ H x y v u Q I rx ry h
 obtain⟨i,j,rfl,rfl,q⟩:=h
 obtain⟨t,rfl⟩:=rx
 obtain⟨t',rfl⟩:=ry
 exact rule i j t t' s _ _ ⟨.int (g i j),H,I.tok _,⟨_,rfl⟩,q⟩
theorem zsc{f:Value->Value->Sem Value}{g:Int->Int->Bool}
  (rule:∀ (i j:Int) (t u:Tok) (s:Shared) (Q:Value->Shared->Prop) (E:Value->Shared->Prop),Q (.bool (g i j)) s->wpAny (model X.prog X.w) X.A (f (.int i t) (.int j u)) Q E s) :
  OpR X f (rI0 fun i j=>.bl (g i j)):=by
 intro pins s σ H x y v u Q I rx ry h
 obtain⟨i,j,rfl,rfl,q⟩:=h
 obtain⟨t,rfl⟩:=rx
 obtain⟨t',rfl⟩:=ry
 exact rule i j t t' s _ _ ⟨.bl (g i j),H,I,rfl,q⟩
def zsd(i j:Int):Prop:=0<=j/\j<=1000000/\i.natAbs < 2^64
def znG(i j:Int):Prop:=(-(2^64) < i/\i < 2^64)\/(-(2^64) < j/\j < 2^64)
theorem znG.ok{i j:Int}(h:znG i j):IntMulOk i j:=by
 rcases h with ⟨h1,h2⟩ | ⟨h1,h2⟩
 ·exact .of_left (intBits_le_64 h1 h2)
 ·exact .of_right (intBits_le_64 h1 h2)
theorem zaX:OpR X (binaryOp .Add) (rI0 fun i j=>.int (i+j)):=zvi fun _ _ _ _ _ _ _ q=>add_int q
theorem zeL:OpR X (binaryOp .Sub) (rI0 fun i j=>.int (i - j)):=zvi fun _ _ _ _ _ _ _ q=>sub_int q
theorem zcB:OpR X (binaryOp .Mult) (rI znG fun i j=>.int (i * j)):=opI fun _ _ _ _ _ _ _ hc q=>mul_int q hc.ok
theorem zcC:OpR X (binaryOp .Mod) (rI (fun _ j=>0 < j) fun i j=>.int (i % j)):=opI fun i j _ _ _ _ _ hc q=>by
 have h1:(0:Int) < j:=hc
 exact mod_int' (by omega) (by rw [Int.fmod_eq_emod_of_nonneg i (by omega)]; exact q)
theorem zvj:OpR X (binaryOp .Pow) (rI zsd fun i j=>.int (i^j.toNat)):=opI fun _ _ _ _ _ _ _ hc q=>pow_int_small hc.1 hc.2.1 hc.2.2 q
theorem zvk:OpR X (binaryOp .BitAnd) (rI0 fun i j=>.int (Builtin.bitAnd i j)):=zvi fun _ _ _ _ _ _ _ q=>and_int q
theorem unI{f:Value->Sem Value}{g:Int->Int}
  (rule:∀ (i:Int) (t:Tok) (s:Shared) (Q:Value->Shared->Prop) (E:Value->Shared->Prop),Q (.int (g i) s.toks) { s with toks:=s.toks+1 }->wpAny (model X.prog X.w) X.A (f (.int i t)) Q E s) :
  UnR X f (rU fun i=>.int (g i)):=by
 intro pins s σ H x v Q I rx h
 obtain⟨i,rfl,q⟩:=h
 obtain⟨t,rfl⟩:=rx
 exact rule i t s _ _ ⟨.int (g i),H,I.tok _,⟨_,rfl⟩,q⟩
theorem zgV:UnR X (unaryOp .USub) (rU fun i=>.int (-i)):=unI fun _ _ _ _ _ q=>neg_int q
end
def zvl:V->V->Bool
 | .non,.non=>true | .non,.int _=>true | .int _,.non=>true | .non,.bl _=>true | .bl _,.non=>true | .non,.str _=>true | .str _,.non=>true
 | .int _,.int _=>true | .bl _,.bl _=>true | .str _,.str _=>true | .byt _,.byt _=>true
 | .int _,.str _=>true | .str _,.int _=>true | .bl _,.str _=>true | .str _,.bl _=>true
 | _,_=>false
def rEq:R2:=fun x y H Q=>zvl x y=true/\Q (.bl (decide (x=y))) H
def rNe:R2:=fun x y H Q=>zvl x y=true/\Q (.bl (!decide (x=y))) H
theorem zl7{i j:Int}:decide (V.int i=V.int j)=(i==j):=by
 rw [Bool.eq_iff_iff]
 simp
theorem zoN{i j:Bool}:decide (V.bl i=V.bl j)=(i==j):=by
 rw [Bool.eq_iff_iff]
 simp
theorem zl8{i j:Str}:decide (V.str i=V.str j)=(i==j):=by
 rw [Bool.eq_iff_iff]
 simp
theorem zl9{i j:Array UInt8}:decide (V.byt i=V.byt j)=(i.toList==j.toList):=by
 rw [Bool.eq_iff_iff]
 cases i
 cases j
 simp
section
variable {X:Cx} {a b c:Expr} {ta tb tc:TE} {pos:Pos}
theorem zad{pins:List (Addr×Obj)}{σ:St}{H:Hp}{s:Shared}{Q:VK}{k k':Bool}(I:Inv X pins σ H s)(q:Q (.bl k) H)(e:k=k'):EP X pins σ Q (.bool k') s:=by
 subst e
 exact⟨.bl k,H,I,rfl,q⟩
theorem zgh:OpR X (compareOp .Eq) rEq:=by
 intro pins s σ H x y v u Q I rx ry h
 obtain⟨hs,q⟩:=h
 cases x with
 | non =>
  cases rx
  cases y with
  | non=>cases ry; exact PySem.EqNone.eq_none_none (zad I q (by simp))
  | bl j=>cases ry; exact PySem.EqNone.eq_none_bool (zad I q (by simp))
  | int j=>obtain⟨t',rfl⟩:=ry; exact PySem.EqNone.eq_none_int (zad I q (by simp))
  | str j=>obtain⟨t',rfl⟩:=ry; exact PySem.EqNone.eq_none_str (zad I q (by simp))
  | _=>exact absurd (show false=true from hs) qf
 | bl i =>
  cases rx
  cases y with
  | non=>cases ry; exact PySem.EqNone.eq_bool_none (zad I q (by simp))
  | bl j=>cases ry; exact eq_bool (zad I q zoN)
  | str j=>obtain⟨t',rfl⟩:=ry; exact PySem.EqMixed.eq_bool_str (zad I q (by simp))
  | _=>exact absurd (show false=true from hs) qf
 | int i =>
  obtain⟨t,rfl⟩:=rx
  cases y with
  | non=>cases ry; exact PySem.EqNone.eq_int_none (zad I q (by simp))
  | int j=>obtain⟨t',rfl⟩:=ry; exact eq_int (zad I q zl7)
  | str j=>obtain⟨t',rfl⟩:=ry; exact PySem.EqMixed.eq_int_str (zad I q (by simp))
  | _=>exact absurd (show false=true from hs) qf
 | str i =>
  obtain⟨t,rfl⟩:=rx
  cases y with
  | non=>cases ry; exact PySem.EqNone.eq_str_none (zad I q (by simp))
  | bl j=>cases ry; exact PySem.EqMixed.eq_str_bool (zad I q (by simp))
  | int j=>obtain⟨t',rfl⟩:=ry; exact PySem.EqMixed.eq_str_int (zad I q (by simp))
  | str j=>obtain⟨t',rfl⟩:=ry; exact eq_str (zad I q zl8)
  | _=>exact absurd (show false=true from hs) qf
 | byt i =>
  obtain⟨t,rfl⟩:=rx
  cases y with
  | byt j=>obtain⟨t',rfl⟩:=ry; exact PySem.W.eq_bytes (zad I q zl9)
  | _=>exact absurd (show false=true from hs) qf
 | _=>cases y<;>exact absurd (show false=true from hs) qf
theorem zma:OpR X (compareOp .NotEq) rNe:=by
 intro pins s σ H x y v u Q I rx ry h
 obtain⟨hs,q⟩:=h
 cases x with
 | non =>
  cases rx
  cases y with
  | non=>cases ry; exact PySem.EqNone.ne_none_none (zad I q (by simp))
  | bl j=>cases ry; exact PySem.EqNone.ne_none_bool (zad I q (by simp))
  | int j=>obtain⟨t',rfl⟩:=ry; exact PySem.EqNone.ne_none_int (zad I q (by simp))
  | str j=>obtain⟨t',rfl⟩:=ry; exact PySem.EqNone.ne_none_str (zad I q (by simp))
  | _=>exact absurd (show false=true from hs) qf
 | bl i =>
  cases rx
  cases y with
  | non=>cases ry; exact PySem.EqNone.ne_bool_none (zad I q (by simp))
  | bl j=>cases ry; exact ne_bool (zad I q (congrArg not zoN))
  | str j=>obtain⟨t',rfl⟩:=ry; exact PySem.EqMixed.ne_bool_str (zad I q (by simp))
  | _=>exact absurd (show false=true from hs) qf
 | int i =>
  obtain⟨t,rfl⟩:=rx
  cases y with
  | non=>cases ry; exact PySem.EqNone.ne_int_none (zad I q (by simp))
  | int j=>obtain⟨t',rfl⟩:=ry; exact ne_int (zad I q (congrArg not zl7))
  | str j=>obtain⟨t',rfl⟩:=ry; exact PySem.EqMixed.ne_int_str (zad I q (by simp))
  | _=>exact absurd (show false=true from hs) qf
 | str i =>
  obtain⟨t,rfl⟩:=rx
  cases y with
  | non=>cases ry; exact PySem.EqNone.ne_str_none (zad I q (by simp))
  | bl j=>cases ry; exact PySem.EqMixed.ne_str_bool (zad I q (by simp))
  | int j=>obtain⟨t',rfl⟩:=ry; exact PySem.EqMixed.ne_str_int (zad I q (by simp))
  | str j=>obtain⟨t',rfl⟩:=ry; exact ne_str (zad I q (congrArg not zl8))
  | _=>exact absurd (show false=true from hs) qf
 | byt i =>
  obtain⟨t,rfl⟩:=rx
  cases y with
  | byt j=>obtain⟨t',rfl⟩:=ry; exact PySem.W.ne_bytes (zad I q (congrArg not zl9))
  | _=>exact absurd (show false=true from hs) qf
 | _=>cases y<;>exact absurd (show false=true from hs) qf
theorem zjE:OpR X (compareOp .Lt) (rI0 fun i j=>.bl (decide (i < j))):=zsc fun _ _ _ _ _ _ _ q=>lt_int q
theorem zw7:OpR X (compareOp .LtE) (rI0 fun i j=>.bl (decide (i<=j))):=zsc fun _ _ _ _ _ _ _ q=>le_int q
theorem zoO:OpR X (compareOp .Gt) (rI0 fun i j=>.bl (decide (j < i))):=zsc fun _ _ _ _ _ _ _ q=>gt_int q
theorem zw8:OpR X (compareOp .GtE) (rI0 fun i j=>.bl (decide (j<=i))):=zsc fun _ _ _ _ _ _ _ q=>ge_int q
theorem zvm:OpR X (compareOp .Is) (fun x y H Q=>y=.non/\Q (.bl (decide (x=.non))) H):=by
 intro pins s σ H x y v u Q I rx ry h
 obtain⟨rfl,q⟩:=h
 cases ry
 refine is_none_gen (zad I q ?_)
 cases x<;>first
  | (cases rx; rfl)
  | (obtain⟨t,rfl⟩:=rx; rfl)
theorem zaH(b:Expr){op:CmpOp}(h:op≠.In:=by decide)(h2:op≠.NotIn:=by decide):behindInMarks op b=false:=by
 have e1:(op==CmpOp.In)=false:=by cases op<;>first | rfl | exact absurd rfl h
 have e2:(op==CmpOp.NotIn)=false:=by cases op<;>first | rfl | exact absurd rfl h2
 cases b<;>simp [behindInMarks,e1,e2]
theorem zse{op:CmpOp}{r:R2}(ho:OpR X (compareOp op) r)(ha:PE X a ta)(hb:PE X b tb)(hm:behindInMarks op b=false):PE X (.Compare a [op] [b] pos) (tOp r ta tb):=by
 intro pins s σ H Q I h
 exact wpAny_Compare1 (zvh ha hb I h fun v u s2 x y H2 I2 rx ry q=>ho pins s2 σ H2 x y v u Q I2 rx ry q) hm
def zoP(t:TE):TT:=fun σ H Q=>t σ H fun x H'=>∃ k,x=.bl k/\Q k H'
theorem zsf{op:CmpOp}{r:R2}(ho:OpR X (compareOp op) r)(ha:PE X a ta)(hb:PE X b tb)(hm:behindInMarks op b=false):PT X (.Compare a [op] [b] pos) (zoP (tOp r ta tb)):=by
 intro pins s σ H Q I h
 refine wpAny_isTrue_Compare1 (thn (ha pins s σ H _ I h) fun v s1 ⟨x,H1,I1,r1,q1⟩=>thn (hb pins s1 σ H1 _ I1 q1) fun u s2 ⟨y,H2,I2,r2,q2⟩ =>
  thn (ho pins s2 σ H2 x y v u _ I2 r1 r2 q2) fun c s3 ⟨z,H3,I3,r3,k,e,q3⟩=>?_) hm
 subst e
 cases r3
 exact wpAny_truthy_bool ⟨H3,I3,q3⟩
def zvn(K:qc)(x:V)(H:Hp)(k:Bool):Prop :=
 match x with
 | .non=>k=false
 | .bl b=>k=b
 | .int i=>k=(i != 0)
 | .str y=>y.length<=sizeLine/\k=((y.length:Int) != 0)
 | .byt y=>y.size<=sizeLine/\k=((y.size:Int) != 0)
 | .ref p=>(∃ xs,SqL K H p xs/\k=!xs.isEmpty)\/(∃ xs,SqT K H p xs/\k=!xs.isEmpty)\/∃ kvs,H p=some (.dK kvs)/\k=!kvs.isEmpty
 | _=>False
theorem zk0{κ:Type}{kvs:List (κ×V)}{vs:List (κ×Value)}(r:KV kvs vs):(!vs.isEmpty)=!kvs.isEmpty:=by
 cases r<;>rfl
theorem zgW{xs:List V}{its:List Value}(r:zN xs its):(!its.toArray.isEmpty)=!xs.isEmpty:=by
 cases r<;>simp
theorem zfX:(sizeLine:Nat) < 2^63:=by rw [sizeLine_eq]; decide
theorem zvo:zyA X (fun x H Q=>∃ k,zvn X.K x H k/\Q k H):=by
 intro pins s σ H x v Q I rx h
 obtain⟨k,e,q⟩:=h
 have hl:=zfX
 have hs:sizeLine=16777216:=sizeLine_eq
 cases x with
 | non =>
  cases rx
  have e':k=false:=e
  subst e'
  exact truthy_none ⟨H,I,q⟩
 | bl b =>
  cases rx
  have e':k=b:=e
  subst e'
  exact wpAny_truthy_bool ⟨H,I,q⟩
 | int i =>
  obtain⟨t,rfl⟩:=rx
  have e':k=(i != 0):=e
  subst e'
  exact PySem.P.truthy_int ⟨H,I,q⟩
 | str y =>
  obtain⟨t,rfl⟩:=rx
  obtain⟨hy,e'⟩:y.length<=sizeLine/\k=((y.length:Int) != 0):=e
  subst e'
  exact PySem.P.truthy_str (by omega) ⟨H,I.tok _,q⟩
 | byt y =>
  obtain⟨t,rfl⟩:=rx
  obtain⟨hy,e'⟩:y.size<=sizeLine/\k=((y.size:Int) != 0):=e
  subst e'
  exact PySem.W.truthy_bytes (by omega) ⟨H,I.tok _,q⟩
 | ref p =>
  cases rx
  have e':(∃ xs,SqL X.K H p xs/\k=!xs.isEmpty)\/(∃ xs,SqT X.K H p xs/\k=!xs.isEmpty)\/∃ kvs,H p=some (.dK kvs)/\k=!kvs.isEmpty:=e
  rcases e' with ⟨xs,hx,e'⟩ | ⟨xs,hx,e'⟩ | ⟨kvs,hx,e'⟩
  ·subst e'
   obtain⟨its,r,pl,hz⟩:=I.list hx
   have hlen:=r.length
   exact wpAny_truthy_list pl.isList (by simp only [List.size_toArray]; omega) ⟨H,I.tok _,by rw [zgW r]; exact q⟩
  ·subst e'
   obtain⟨its,r,pl,hz⟩:=I.tuple hx
   have hlen:=r.length
   exact truthy_tuple pl (by simp only [List.size_toArray]; omega) ⟨H,I.tok _,by rw [zgW r]; exact q⟩
  ·subst e'
   obtain⟨hz,hS,vs,r,m⟩:kvs.length<=sizeLine/\(p==sysModules)=false/\∃ vs,KV kvs vs/\s.heap.DictOf (zai X.prog X.w) p vs:=I.hok p _ hx
   have hlen:kvs.length=vs.length:=Paired.length r
   exact wpAny_truthy_dict hS m (by omega) ⟨H,I.tok _,by rw [zk0 r]; exact q⟩
 | _=>exact(show False from e).elim
theorem zoQ(ha:PE X a ta)(he:∀ whole,isTrue a X.env whole=(do let v <-whole; standAt a.pos; holding [v] (truthy v))) :
  PT X a (fun σ H Q=>ta σ H fun x H'=>∃ k,zvn X.K x H' k/\Q k H'):=by
 intro pins s σ H Q I h
 exact isTrue_plain (thn (ha pins s σ H _ I h) fun v s1 ⟨x,H1,I1,r1,q1⟩=>zvo pins s1 σ H1 x v Q I1 r1 q1) (he _)
theorem zdH:OpR X (binaryOp .Add) (fun x y H Q=>∃ i j,x=.str i/\y=.str j/\i.length+j.length<=sizeLine/\Q (.str (i++j)) H):=by
 intro pins s σ H x y v u Q I rx ry h
 obtain⟨i,j,rfl,rfl,hz,q⟩:=h
 obtain⟨t,rfl⟩:=rx
 obtain⟨t',rfl⟩:=ry
 exact add_str (fun t' tk=>⟨.str (i++j),H,I.tok _,⟨_,rfl⟩,q⟩) hz
theorem zdV{x:V}{us:List Value}(r:zN [x] us):∃ u,us=[u]/\zU x u:=by
 cases r with
 | cons r1 r2=>cases r2; exact⟨_,rfl,r1⟩
theorem zmb{x y:V}{us:List Value}(r:zN [x,y] us):∃ u w',us=[u,w']/\zU x u/\zU y w':=by
 cases r with
 | cons r1 r2 =>
  cases r2 with
  | cons r3 r4=>cases r4; exact⟨_,_,rfl,r1,r3⟩
theorem zfh:zbU X (.builtin "abs") (fun xs H Q=>∃ i,xs=[.int i]/\Q (.int (if i < 0 then -i else i)) H):=by
 intro pins s σ H xs us Q I r h
 obtain⟨i,rfl,q⟩:=h
 obtain⟨u,rfl,t,rfl⟩:=zdV r
 exact call_abs_int fun u tk=>⟨.int (if i < 0 then -i else i),H,I.tok _,⟨_,rfl⟩,q⟩
theorem zej(hc:X.calm=true):zbU X (.builtin "max") (fun xs H Q=>∃ i j,xs=[.int i,.int j]/\Q (.int (if j > i then j else i)) H):=by
 intro pins s σ H xs us Q I r h
 obtain⟨i,j,rfl,q⟩:=h
 obtain⟨u,w',rfl,⟨t,rfl⟩,⟨t',rfl⟩⟩:=zmb r
 refine max_two_ints (I.ok.hd hc) fun h' tk k=>⟨_,H,I.kept k,?_,q⟩
 by_cases hj:j > i
 ·rw [if_pos hj,if_pos hj]; exact⟨_,rfl⟩
 ·rw [if_neg hj,if_neg hj]; exact⟨_,rfl⟩
theorem znH(hc:X.calm=true):zbU X (.builtin "min") (fun xs H Q=>∃ i j,xs=[.int i,.int j]/\Q (.int (if j < i then j else i)) H):=by
 intro pins s σ H xs us Q I r h
 obtain⟨i,j,rfl,q⟩:=h
 obtain⟨u,w',rfl,⟨t,rfl⟩,⟨t',rfl⟩⟩:=zmb r
 refine min_two_ints (I.ok.hd hc) fun h' tk k=>⟨_,H,I.kept k,?_,q⟩
 by_cases hj:j < i
 ·rw [if_pos hj,if_pos hj]; exact⟨_,rfl⟩
 ·rw [if_neg hj,if_neg hj]; exact⟨_,rfl⟩
theorem zh8:zbU X (.type "int") (fun xs H Q=>(∃ i,xs=[.int i]/\Q (.int i) H)\/∃ k,xs=[.bl k]/\Q (.int (if k then 1 else 0)) H):=by
 intro pins s σ H xs us Q I r h
 rcases h with ⟨i,rfl,q⟩ | ⟨k,rfl,q⟩
 ·obtain⟨u,rfl,t,rfl⟩:=zdV r
  exact call_int_int ⟨.int i,H,I,⟨_,rfl⟩,q⟩
 ·obtain⟨u,rfl,r1⟩:=zdV r
  cases r1
  exact call_int_bool ⟨.int (if k then 1 else 0),H,I.tok _,⟨_,rfl⟩,q⟩
end
structure ObjM (h:Heap) (x dx C:Addr) (mA:Str->Option Value):Prop where
 obj:h.get? x=some (PySem.W.instObj C dx)
 ns:h.Ns1 dx mA
 ne:dx≠x
theorem znI{h:Heap}{dx:Addr}{mA:Str->Option Value}(n:h.Ns1 dx mA):∃ od,h.get? dx=some od/\∀ name,PySem.W.lookIn name od=some (mA name):=by
 obtain⟨o,es,ep,ho,hd,hk,_,hm⟩:=n
 refine⟨o,ho,fun name=>?_⟩
 have e:=hm name
 unfold nsFind findBy at e
 rw [<-Array.find?_toList]at e
 unfold PySem.W.lookIn
 rw [hd]
 dsimp only
 split
 ·rename_i y q
  rw [q]at e
  exact congrArg some e
 ·rename_i q
  rw [q]at e
  have a:es.toList.any (·.refKey)=false:=by
   rw [List.any_eq_false]
   intro y hy
   obtain⟨z,t,hkey⟩:=hk y (Array.mem_toList_iff.mp hy)
   simp [DictEntry.refKey,hkey]
  have a':¬es.toList.any (·.refKey)=true:=by rw [a]; exact qf
  rw [if_neg a']
  exact congrArg some e
theorem ObjM.look{h:Heap}{x dx C:Addr}{mA:Str->Option Value}(I:ObjM h x dx C mA):∃ od,PySem.W.InstAt h x (PySem.W.instObj C dx) C (some od)/\∀ name,PySem.W.lookIn name od=some (mA name) :=
 let ⟨od,ho,hl⟩:=znI I.ns
 ⟨od,⟨I.obj,rfl,rfl,ho⟩,hl⟩
section
variable {prog:Program} {w:World} {A:Around} {E:Value->Shared->Prop} {s:Shared} {K:qc} {x dx C f:Addr} {mA:Str->Option Value} {name:Str} {v:Value}
theorem zsg{expr:Bool}{Q:Value->Shared->Prop}(X:K.In s.heap)(I:ObjM s.heap x dx C mA)(hg:PySem.W.plainGet K C name=true)(hh:PySem.W.hasDictIn K C=true)
  (ha:PySem.W.findIn K (.ref C) name=some none) (hv:mA name=some v) (hv':PySem.W.handedIn v=true) (h:Q v { s with toks:=s.toks+1 }) :
  wpAny (model prog w) A (getAttr (.ref x) name expr) Q E s:=by
 obtain⟨od,J,hl⟩:=I.look
 exact PySem.W.get_value X J (PySem.W.plainGet_of hg).1 (PySem.W.findObj_own hh ha rfl (by rw [hl,hv])) hv' h
theorem zsh{ns:List Str}{Q:Unit->Shared->Prop}(X:K.In s.heap)(I:ObjM s.heap x dx C mA)
  (hs:PySem.W.findIn K (.ref C) "__setattr__"=some (some (.builtin "object.__setattr__"))) (hp:PySem.W.plainOver K C=true) (ht:PySem.W.takerIn K C name=some none) (hh:PySem.W.hasDictIn K C=true)
  (hw:PySem.Within mA ns) (hsz:ns.length<=sizeLine)
  (h:∀ h',ObjM h' x dx C (fun y=>if y=name then some v else mA y)->Heap.SameBut dx s.heap h'->Q () { s with heap:=h',toks:=s.toks+2 }) :
  wpAny (model prog w) A (setAttr (.ref x) name v) Q E s:=by
 obtain⟨od,J,hl⟩:=I.look
 refine PySem.W.set_plain X J hs (PySem.W.osa_open (s:={ s with toks:=s.toks+1 }) (r:=none) X J hp ht fun b=>?_)
 obtain⟨cd,hc,hd'⟩:=PySem.W.any_some hh
 have hx:s.heap.get? x=some ⟨.ref C,some dx,.plain,#[]⟩:=I.obj
 refine qa (qb (qa (qa (wpAny_loadPart hx (qa (PySem.W.Looks.here (s:={ s with toks:=s.toks+1 }) (PySem.W.looks_clsIn X hc) ?_))))))
 rw [hd']
 refine qb (a:=some dx) (qa (qb (qa ?_)))
 refine wpAny_nsSet1 (s:={ s with toks:=s.toks+1 }) I.ns fun h' hn2 hs2=>?_
 obtain⟨oD,esD,epD,hoD,hdD,hcD⟩:=hn2.count (PySem.Within.cons name v hw)
 refine qa (wpAny_lookBehind hoD (by rw [hdD]; exact pastItsLine_dict (qx hcD (by rw [qt]; omega))) ?_)
 exact qb (h _ ⟨(hs2.2 _ (Ne.symm I.ne)).trans I.obj,hn2,I.ne⟩ hs2)
theorem zoR{R:Result->Shared->Prop}{vs:List Value}{kw:List (Str×Value)}(X:K.In s.heap)(hm:PySem.W.makesIn K C=true)
  (hi:PySem.W.findIn K (.ref C) "__init__"=some (some (.ref f))) (hf:PySem.W.typeIn K (.ref f)=some (.type "function"))
  (h:codeAny (model prog w) (A.under (.builtin "type.__call__" ⟨.ref C::vs,kw⟩)) (.call (.ref f) ⟨.ref (s.heap.objs.size+1)::vs,kw⟩) (PySem.W.InitBack (s.heap.objs.size+1) R)
   { s with heap:=(s.heap.push PySem.W.emptyDict).push (PySem.W.instObj C s.heap.objs.size) }) :
  codeAny (model prog w) A (.call (.ref C) ⟨vs,kw⟩) R s:=by
 obtain⟨hh,g,d,t,os⟩:=s
 exact PySem.W.make_core (PySem.W.makes_of X hm) (PySem.W.looks_findIn X hi) (fun self=>PySem.W.bind_fn X self hf) (.inl rfl) h
end
def zcP(f:Str)(v:V):List (Str×V)->List (Str×V)
 | []=>[(f,v)]
 | (g,x)::r=>if g=f then(g,v)::r else(g,x)::zcP f v r
theorem zgi(f g:Str)(v:V):∀ fs:List (Str×V),(zcP f v fs).lookup g=if g=f then some v else fs.lookup g
 | []=>by
  show List.lookup g [(f,v)]=_
  by_cases h:g=f
  ·have hb:(g==f)=true:=beq_iff_eq.mpr h
   simp only [List.lookup,hb,if_pos h]
  ·have hb:(g==f)=false:=beq_eq_false_iff_ne.mpr h
   simp only [List.lookup,hb,if_neg h]
 | (k,x)::r=>by
  have ih:=zgi f g v r
  rw [show zcP f v ((k,x)::r)=(if k=f then(k,v)::r else(k,x)::zcP f v r) from rfl]
  by_cases hk:k=f
  ·rw [if_pos hk]
   by_cases h:g=k
   ·have hb:(g==k)=true:=beq_iff_eq.mpr h
    simp only [List.lookup,hb,if_pos (h.trans hk)]
   ·have hb:(g==k)=false:=beq_eq_false_iff_ne.mpr h
    simp only [List.lookup,hb,if_neg (fun e:g=f=>h (e.trans hk.symm))]
  ·rw [if_neg hk]
   by_cases h:g=k
   ·have hb:(g==k)=true:=beq_iff_eq.mpr h
    simp only [List.lookup,hb,if_neg (fun e:g=f=>hk (h.symm.trans e))]
   ·have hb:(g==k)=false:=beq_eq_false_iff_ne.mpr h
    simp only [List.lookup,hb]
    exact ih
theorem zfY(f:Str)(v:V):∀ fs:List (Str×V),f∈(zcP f v fs).map (·.1)/\∀ g,g∈fs.map (·.1)->g∈(zcP f v fs).map (·.1)
 | []=>⟨by simp [zcP],fun g h=>by simp at h⟩
 | (k,x)::r=>by
  obtain⟨i1,i2⟩:=zfY f v r
  rw [show zcP f v ((k,x)::r)=(if k=f then(k,v)::r else(k,x)::zcP f v r) from rfl]
  by_cases hk:k=f
  ·rw [if_pos hk]
   subst hk
   exact⟨by simp,fun g h=>by simpa using h⟩
  ·rw [if_neg hk]
   refine⟨?_,fun g h=>?_⟩
   ·rw [List.map_cons]
    exact qm _ i1
   ·rw [List.map_cons]at h ⊢
    rcases qu.mp h with e | e
    ·exact qu.mpr (.inl e)
    ·exact qm _ (i2 g e)
theorem zgj(f:Str)(v:V):∀ fs:List (Str×V),(zcP f v fs).length<=fs.length+1
 | []=>by simp [zcP]
 | (k,x)::r=>by
  have ih:=zgj f v r
  rw [show zcP f v ((k,x)::r)=(if k=f then(k,v)::r else(k,x)::zcP f v r) from rfl]
  by_cases hk:k=f
  ·rw [if_pos hk,qt,qt]; omega
  ·rw [if_neg hk,qt,qt]; omega
theorem zeK.some_of{v:V}{o:Option Value}(r:zeK (some v) o):∃ u,o=some u/\zU v u:=by
 cases o with
 | none=>exact(show False from r).elim
 | some u=>exact⟨u,rfl,r⟩
theorem znJ{v:V}{u:Value}(r:zU v u):PySem.W.handedIn u=true:=by
 cases v with
 | non=>cases(show u=Value.none from r); rfl
 | bl b=>cases(show u=Value.bool b from r); rfl
 | int i=>obtain⟨t,e⟩:=(show ∃ t,u=Value.int i t from r); cases e; rfl
 | str x=>obtain⟨t,e⟩:=(show ∃ t,u=Value.str x t from r); cases e; rfl
 | byt b=>obtain⟨t,e⟩:=(show ∃ t,u=Value.bytes b t from r); cases e; rfl
 | flt b=>obtain⟨t,e⟩:=(show ∃ t,u=Value.float b t from r); cases e; rfl
 | ref a=>cases(show u=Value.ref a from r); rfl
 | ty n=>cases(show u=Value.type n from r); rfl
section
variable {P:Program} {w:World} {K:qc} {H H':Hp} {h h':Heap} {a C dx:Addr} {fs fs':List (Str×V)}
theorem zmc(hok:HOk P w K H h)(e:H a=some (.ins C dx fs)):∃ mA,ObjM h a dx C mA/\(∀ f,zeK (fs.lookup f) (mA f))/\PySem.Within mA (fs.map (·.1))/\fs.length<=1000/\H dx=some (.own a):=by
 obtain⟨d,z,ne,ob,mA,n,r,q⟩:=(show zaj P w K H h a (.ins C dx fs) from hok a _ e)
 exact⟨mA,⟨ob,n,ne⟩,r,q,z,d⟩
end
structure Cls (K:qc) (C:Addr):Prop where
 pg:PySem.W.plainGet K C Str.empty=true
 hd:PySem.W.hasDictIn K C=true
 po:PySem.W.plainOver K C=true
 sa:PySem.W.findIn K (.ref C) "__setattr__"=some (some (.builtin "object.__setattr__"))
theorem Cls.get{K:qc}{C:Addr}(c:Cls K C)(f:Str):PySem.W.plainGet K C f=true:=c.pg
def zbQ(K:qc)(C:Addr)(f:Str):Prop:=PySem.W.findIn K (.ref C) f=some none
theorem zbQ.taker{K:qc}{C:Addr}{f:Str}(n:zbQ K C f):PySem.W.takerIn K C f=some none:=by
 unfold PySem.W.takerIn
 rw [show PySem.W.findIn K (.ref C) f=some none from n]
 rfl
section
variable {X:Cx} {pins:List (Addr×Obj)} {σ:St} {H:Hp} {s:Shared} {a C dx:Addr} {fs:List (Str×V)} {f:Str} {v:V} {A:Around} {E:Value->Shared->Prop}
theorem zk1{y:V}{u:Value}{Q:Unit->Shared->Prop}(I:Inv X pins σ H s)(e:H a=some (.ins C dx fs))(c:Cls X.K C)(n:zbQ X.K C f)(hl:fs.length < 1000)(ry:zU y u)
  (h:∀ s',Inv X pins σ (upd H a (.ins C dx (zcP f y fs))) s'->Q () s'):wpAny (model X.prog X.w) A (setAttr (.ref a) f u) Q E s:=by
 obtain⟨mA,O,r,wi,_,ho⟩:=zmc I.hok e
 have hz:(fs.map (·.1)).length<=sizeLine:=by rw [List.length_map,sizeLine_eq]; omega
 refine zsh I.kIn O c.sa c.po n.taker c.hd wi hz fun h' O' sb=>h _ ?_
 have hd:∃ o,h'.get? dx=some o:=let ⟨o,_,_,e',_⟩:=O'.ns; ⟨o,e'⟩
 refine I.write (x:=a) (e:=dx) (by rw [e]; exact True.intro) (.inr ho) (fun b q hb z=>(sb.2 b hb).trans z) hd ?_
 refine⟨by rw [zA O.ne]; exact ho,?_,O.ne,O'.obj,_,O'.ns,fun g=>?_,fun g hg=>?_⟩
 ·have:=zgj f y fs; omega
 ·show zeK ((zcP f y fs).lookup g) (if g=f then some u else mA g)
  rw [zgi]
  by_cases q:g=f
  ·rw [if_pos q,if_pos q]; exact ry
  ·rw [if_neg q,if_neg q]; exact r g
 ·by_cases q:g=f
  ·rw [q]; exact(zfY f y fs).1
  ·refine(zfY f y fs).2 g (wi g fun z=>hg ?_)
   show(if g=f then some u else mA g)=none
   rw [if_neg q]; exact z
theorem Inv.made(I:Inv X pins σ H s):Inv X pins σ (upd (upd H s.heap.objs.size (.own (s.heap.objs.size+1))) (s.heap.objs.size+1) (.ins C s.heap.objs.size []))
  { s with heap:=(s.heap.push PySem.W.emptyDict).push (PySem.W.instObj C s.heap.objs.size) }:=by
 have e1:(s.heap.push PySem.W.emptyDict).get? s.heap.objs.size=some PySem.W.emptyDict:=qg s.heap rfl
 have e2:((s.heap.push PySem.W.emptyDict).push (PySem.W.instObj C s.heap.objs.size)).get? (s.heap.objs.size+1)=some (PySem.W.instObj C s.heap.objs.size):=by
  have:=qg (s.heap.push PySem.W.emptyDict) (o:=PySem.W.instObj C s.heap.objs.size) rfl
  rwa [Heap.size_push]at this
 have e3:(s.heap.push PySem.W.emptyDict).Ns s.heap.objs.size (fun _=>none):=⟨PySem.W.emptyDict,#[],_,e1,rfl,(fun e he=>absurd he (by simp)),fun _=>rfl⟩
 have I1:=I.laid (a:=s.heap.objs.size) (o:=.own (s.heap.objs.size+1)) (h':=s.heap.push PySem.W.emptyDict) (t':=s.toks) (fun b u q=>qd _ q) (qe _) ⟨_,e1⟩
 refine I1.laid (a:=s.heap.objs.size+1) (o:=.ins C s.heap.objs.size []) (t':=s.toks) (fun b u q=>qd _ q) (Nat.le_of_eq (Heap.size_push _ _)) ?_
 have ne:s.heap.objs.size≠s.heap.objs.size+1:=qj (Nat.lt_succ_self _)
 refine⟨by rw [zA ne,zx],Nat.zero_le _,ne,e2,fun _=>none,(Heap.Ns1.of_empty e3).at fun o q=>qd _ q,fun _=>True.intro,fun y hy=>absurd rfl hy⟩
theorem zsi{prog:Program}{w:World}{env:Env}{e:Expr}{f:Str}{pos:Pos}{s:Shared}{Q:Value->Shared->Prop}(hb:attributeBase e f env (eval e env)=eval e env)
  (h:wpAny (model prog w) A (eval e env) (fun o s₁=>wpAny (model prog w) A (getAttr o f true) Q E s₁) E s):wpAny (model prog w) A (eval (.Attribute e f pos) env) Q E s :=
 Attribute_any_ h (by rw [arm_eval_Attribute,hb])
end
def zsj(K:qc)(ta tv:TE)(f:Str):TS:=fun D σ H=>tv σ H fun y H1=>ta σ H1 fun x H2=>∃ a C dx fs,x=.ref a/\H2 a=some (.ins C dx fs)/\Cls K C/\zbQ K C f/\fs.length < 1000 /\
 D.nx σ (upd H2 a (.ins C dx (zcP f y fs)))
section
variable {X:Cx} {o e value:Expr} {f:Str} {pos pos' tpos:Pos} {ta tv:TE}
theorem zk2(ha:PE X o ta)(hv:PE X value tv)(hs:swapsWith value (some (.Attribute o f pos')) pos.line X.env=pure false):PS X (.Assign [.Attribute o f pos'] value pos) (zsj X.K ta tv f):=by
 intro pins s σ H D I h
 refine plainObj_wpAny_Assign_Attribute (thn (hv pins s σ H _ I h) fun u s1 ⟨y,H1,I1,ry,q⟩=>thn (ha pins s1 σ H1 _ I1 q) fun ov s2 ⟨x,H2,I2,rx,a,C,dx,fs,ex,ea,c,n,l,q2⟩=>?_) hs
 subst ex
 obtain rfl:ov=Value.ref a:=rx
 exact zk1 I2 ea c n l ry fun s3 I3=>⟨σ,_,I3,q2⟩
end
section
variable {X:Cx} {pins:List (Addr×Obj)} {σ:St} {H:Hp} {s:Shared} {A:Around} {E:Value->Shared->Prop} {Q:Value->Shared->Prop} {c:Value} {b:Bool}
inductive TyOf (K:qc) (H:Hp):V->Value->Prop where
 | non:TyOf K H .non (.type "NoneType")
 | bl (x:Bool):TyOf K H (.bl x) (.type "bool")
 | int (i:Int):TyOf K H (.int i) (.type "int")
 | str (x:Str):TyOf K H (.str x) (.type "str")
 | flt (x:UInt64):TyOf K H (.flt x) (.type "float")
 | lst {a:Addr} {xs:List V} (e:H a=some (.lst xs)):TyOf K H (.ref a) (.type "list")
 | frz {a:Addr} {o:Obj} {xs:List V} (e:H a=some (.frz o (.lst xs))):TyOf K H (.ref a) (.type "list")
 | tup {a:Addr} {xs:List V} (e:TpK K H a xs):TyOf K H (.ref a) (.type "tuple")
 | dK {a:Addr} {kvs:List (Key×V)} (e:H a=some (.dK kvs)):TyOf K H (.ref a) (.type "dict")
 | dT {a:Addr} {kvs:List (List Key×V)} (e:H a=some (.dT kvs)):TyOf K H (.ref a) (.type "dict")
 | ins {a C dx:Addr} {fs:List (Str×V)} (e:H a=some (.ins C dx fs)) (cl:Cls K C) (ha:PySem.W.findIn K (.ref C) "__class__"=some (some (.builtin "object.__class__")))
   (hn:PySem.W.specialIn K (.builtin "object.__class__") "__get__"=some (some (.builtin "getset_descriptor.__get__"))) (htk:PySem.W.takesIn K (.builtin "object.__class__")=some true)
   (hm:PySem.W.mroIn K C (.type "object")=some true):TyOf K H (.ref a) (.ref C)
theorem znK{x:V}{u t:Value}(I:Inv X pins σ H s)(rx:zU x u)(ty:TyOf X.K H x t)(e:PySem.W.kitOne X.K t c=some b)(h:∀ tk,Q (.bool b) { s with toks:=tk }) :
  wpAny (model X.prog X.w) A (call (.builtin "isinstance") [u,c]) Q E s:=by
 cases ty with
 | non=>cases(show u=Value.none from rx); exact PySem.W.kia_one PySem.W.kitx_none I.kIn True.intro e (fun z=>nomatch z) h
 | bl y=>cases(show u=Value.bool y from rx); exact PySem.W.kia_one PySem.W.kitx_bool I.kIn True.intro e (fun z=>nomatch z) h
 | int i=>obtain⟨t,q⟩:=(show ∃ t,u=Value.int i t from rx); cases q; exact PySem.W.kia_one PySem.W.kitx_int I.kIn True.intro e (fun z=>nomatch z) h
 | str y=>obtain⟨t,q⟩:=(show ∃ t,u=Value.str y t from rx); cases q; exact PySem.W.kia_one PySem.W.kitx_str I.kIn True.intro e (fun z=>nomatch z) h
 | flt y=>obtain⟨t,q⟩:=(show ∃ t,u=Value.float y t from rx); cases q; exact PySem.W.kia_one PySem.W.kitx_float I.kIn True.intro e (fun z=>nomatch z) h
 | @lst a xs ea =>
  cases(show u=Value.ref a from rx)
  obtain⟨_,_,n,_,h1⟩:=(show zaj X.prog X.w X.K H s.heap a (.lst xs) from I.hok a _ ea)
  exact PySem.W.kia_one PySem.W.kitx_list I.kIn ⟨_,h1,rfl⟩ e (fun z=>nomatch z) h
 | @frz a ob xs ea =>
  cases(show u=Value.ref a from rx)
  obtain⟨_,_,_,n,_,h1⟩:=(show zaj X.prog X.w X.K H s.heap a (.frz ob (.lst xs)) from I.hok a _ ea)
  exact PySem.W.kia_one PySem.W.kitx_list I.kIn ⟨_,h1,rfl⟩ e (fun z=>nomatch z) h
 | @tup a xs ea =>
  cases(show u=Value.ref a from rx)
  rcases ea with ea | ⟨o,its,n,hk,hc,_⟩
  case inr=>exact PySem.W.kia_one PySem.W.kitx_tuple I.kIn ⟨o,I.kIn a o hk,hc⟩ e (fun z=>nomatch z) h
  obtain⟨_,_,_,p⟩:=(show zaj X.prog X.w X.K H s.heap a (.tup xs) from I.hok a _ ea)
  obtain⟨o,h1,h2,_⟩:=p
  exact PySem.W.kia_one PySem.W.kitx_tuple I.kIn ⟨o,h1,h2⟩ e (fun z=>nomatch z) h
 | @dK a kvs ea =>
  cases(show u=Value.ref a from rx)
  obtain⟨_,_,vs,_,p⟩:=(show zaj X.prog X.w X.K H s.heap a (.dK kvs) from I.hok a _ ea)
  obtain⟨o,es,ep,h1,h2,_⟩:=p
  exact PySem.W.kia_one PySem.W.kitx_dict I.kIn ⟨o,h1,h2.1⟩ e (fun z=>nomatch z) h
 | @dT a kvs ea =>
  cases(show u=Value.ref a from rx)
  obtain⟨_,_,xs,_,o,es,ep,h1,h2,_⟩:=(show zaj X.prog X.w X.K H s.heap a (.dT kvs) from I.hok a _ ea)
  exact PySem.W.kia_one PySem.W.kitx_dict I.kIn ⟨o,h1,h2.1⟩ e (fun z=>nomatch z) h
 | @ins a C dx fs ea cl ha hn htk hm =>
  cases(show u=Value.ref a from rx)
  obtain⟨mA,O,_⟩:=zmc I.hok ea
  obtain⟨od,J,_⟩:=O.look
  exact PySem.W.kia_one (PySem.W.kitx_own (cl.get _) cl.hd ha hn htk hm) I.kIn J e (fun z=>nomatch z) h
end
structure Room (k:Nat) (A:Around):Prop where
 hd:A.handled=none
 dp:A.depth+3 * k+5 < recursionLimit
 un:A.units+16 * k+200 < cLine
 gd:A.guards=some []
theorem Room.mono{j k:Nat}{A:Around}(r:Room k A)(h:j<=k):Room j A:=⟨r.hd,by have:=r.dp; omega,by have:=r.un; omega,r.gd⟩
theorem Room.deeper{k:Nat}{A:Around}(r:Room (k+1) A)(env:Env):Room k (A.deeper env) :=
 ⟨r.hd,by have:=r.dp; show A.depth+1+3 * k+5 < _; omega,by have:=r.un; show A.units+3+16 * k+200 < _; omega,r.gd⟩
theorem Room.in1{k:Nat}{A:Around}(r:Room (k+1) A):Room k A.in1 :=
 ⟨r.hd,by have:=r.dp; show A.depth+3 * k+5 < _; omega,by have:=r.un; show A.units+1+16 * k+200 < _; omega,r.gd⟩
theorem zk3{A:Around}{C:Addr}{us:List Value}{kw:List (Str×Value)}:(A.under (.builtin "type.__call__" ⟨.ref C::us,kw⟩)).depth=A.depth+1:=by
 first | rfl | simp [Around.under,Code.weight,Code.isCreation,Code.isGuard,Code.isCaller,Code.frames,Code.isFrame,guardIds]
theorem zk4{A:Around}{C:Addr}{us:List Value}{kw:List (Str×Value)}:(A.under (.builtin "type.__call__" ⟨.ref C::us,kw⟩)).units=A.units+1:=by
 first | rfl | simp [Around.under,Code.cUnits,Code.frames,Code.isFrame]
theorem Room.make{k:Nat}{A:Around}(r:Room (k+1) A)(C:Addr)(us:List Value)(kw:List (Str×Value)):Room k (A.under (.builtin "type.__call__" ⟨.ref C::us,kw⟩)) :=
 ⟨r.hd,by have:=r.dp; rw [zk3]; omega,by have:=r.un; rw [zk4]; omega,by have:=r.gd; first | exact this | simpa [Around.under,Code.isGuard,guardIds] using this⟩
theorem Room.depth{k:Nat}{A:Around}(r:Room k A):A.depth < recursionLimit:=by have:=r.dp; omega
theorem Room.units{k:Nat}{A:Around}(r:Room k A):A.units+64 < cLine:=by have:=r.un; omega
def zk5:TA:=fun _ H Q=>Q [] H
def zfi(ta:TE)(tr:TA):TA:=fun σ H Q=>ta σ H fun x H1=>tr σ H1 fun xs H2=>Q (x::xs) H2
section
variable {X:Cx} {e:Expr} {es:List Expr} {te:TE} {t:TA} {pos:Pos}
theorem zvp:PA X [] zk5:=fun _ _ _ _ H Q I h=>Calls.spliced_nil ⟨[],H,I,.nil,h⟩
theorem zsk(ha:PE X e te)(hr:PA X es t)(hs:starEach (e::es) X.env=(false,eval e X.env)::starEach es X.env:=by rfl):PA X (e::es) (zfi te t):=by
 intro pos pins s σ H Q I h
 rw [hs]
 show wpAny _ _ (spliced ((false,eval e X.env)::backTo pos (starEach es X.env))) _ _ s
 refine Calls.spliced_cons (thn (ha pins s σ H _ I h) fun u s1 ⟨x,H1,I1,r1,q1⟩=>?_)
 exact thn (hr pos pins s1 σ H1 _ I1 q1) fun us s2 ⟨xs,H2,I2,r2,q2⟩=>⟨x::xs,H2,I2,.cons r1 r2,q2⟩
def zvq(t:TA):TE:=fun σ H Q=>t σ H fun xs H1=>xs.length<=sizeLine/\∀ p,H1 p=none->Q (.ref p) (upd H1 p (.tup xs))
def zvr(t:TA):TE:=fun σ H Q=>t σ H fun xs H1=>xs.length<=sizeLine/\∀ p,H1 p=none->Q (.ref p) (upd H1 p (.lst xs))
theorem zvs{x1}(h:PA X es t):PE X (.Tuple es x1 pos) (zvq t):=by
 intro pins s σ H Q I hq
 refine wpAny_Tuple_spliced (thn (h pos pins s σ H _ I hq) fun us s1 ⟨xs,H1,I1,r,z,q⟩=>⟨by rw [<-r.length]; exact z,?_⟩)
 have hf:H1 s1.heap.objs.size=none:=I1.hok.fresh (qe _)
 refine⟨.ref s1.heap.objs.size,upd H1 s1.heap.objs.size (.tup xs),I1.laid (t':=s1.toks) (fun b u e=>qd _ e) (qe _) ?_,rfl,q _ hf⟩
 exact⟨z,us,r,⟨_,qg _ rfl,rfl,_,rfl⟩⟩
theorem zvt(h:PA X es t):PE X (.List es pos) (zvr t):=by
 intro pins s σ H Q I hq
 refine wpAny_List_spliced (thn (h pos pins s σ H _ I hq) fun us s1 ⟨xs,H1,I1,r,z,q⟩=>⟨by rw [<-r.length]; exact z,?_⟩)
 have hf:H1 s1.heap.objs.size=none:=I1.hok.fresh (qe _)
 refine⟨.ref s1.heap.objs.size,upd H1 s1.heap.objs.size (.lst xs),I1.laid (t':=s1.toks) (fun b u e=>qd _ e) (qe _) ?_,rfl,q _ hf⟩
 exact⟨z,us,0,r,qg _ rfl⟩
end
abbrev Sp:=List V->Hp->VK->XK->Prop
abbrev CXT:=List Env->Hp->Shared->XK->Value->Shared->Prop
structure Env0 (P:Program) (w:World) (K:qc) (mg:Str->Option Value) (base:Heap) (A:Around) (outer:List Env) (s:Shared) (H:Hp):Prop where
 frames:A.frames=some outer
 mod:Mod K mg base
 bs:∀ b o,base.get? b=some o->s.heap.get? b=some o/\H b=none
 bsz:base.objs.size<=s.heap.objs.size
 funs:s.heap.FunFrames base outer
 frf:∀ b∈frs outer,H b=none
 hok:HOk P w K H s.heap
 bare:AllBare s.gens
def CE(outer:List Env)(P:Program)(w:World)(K:qc)(H:Hp)(s:Shared)(Q:VK)(u:Value)(s':Shared):Prop :=
 ∃ v H',s'.os=s.os/\AllBare s'.gens/\Un (frs outer) [] H H' s.heap s'.heap/\HOk P w K H' s'.heap/\zU v u/\Q v H'
def CR(CX:CXT)(outer:List Env)(P:Program)(w:World)(K:qc)(H:Hp)(s:Shared)(Q:VK)(E:XK)(r:Result)(s':Shared):Prop :=
 match r with
 | .ok (.ret u)=>CE outer P w K H s Q u s'
 | .ok _=>False
 | .error e=>CX outer H s E e s'
structure FnOk (P:Program) (w:World) (K:qc) (mg:Str->Option Value) (base:Heap) (CX:CXT) (k:Nat) (f:Addr) (fd:FuncData) (ps:List Str) (sp:Sp):Prop where
 len:∀ vs H Q E,sp vs H Q E->vs.length=ps.length
 run:∀ (A:Around) (outer:List Env) (s:Shared) (H:Hp) (args:Args) (us:List Value) (vs:List V) (Q:VK) (E:XK),Room k A->Env0 P w K mg base A outer s H->BindsTo s fd args (ps.zip us)->zN vs us->sp vs H Q E ->
  codeAny (model P w) A (.call (.ref f) args) (CR CX outer P w K H s Q E) s
theorem FnOk.imp{P:Program}{w:World}{K:qc}{mg:Str->Option Value}{base:Heap}{CX:CXT}{k:Nat}{f:Addr}{fd:FuncData}{ps:List Str}{sp sp':Sp}(F:FnOk P w K mg base CX k f fd ps sp)
  (h:∀ vs H Q E,sp' vs H Q E->sp vs H Q E):FnOk P w K mg base CX k f fd ps sp' :=
 ⟨fun vs H Q E q=>F.len vs H Q E (h _ _ _ _ q),fun A outer s H args us vs Q E hr he hb hv hs=>F.run A outer s H args us vs Q E hr he hb hv (h _ _ _ _ hs)⟩
theorem Env0.make{P:Program}{w:World}{K:qc}{mg:Str->Option Value}{base:Heap}{A:Around}{outer:List Env}{s:Shared}{H:Hp}(e:Env0 P w K mg base A outer s H)(C:Addr)(us:List Value)(kw:List (Str×Value)) :
  Env0 P w K mg base (A.under (.builtin "type.__call__" ⟨.ref C::us,kw⟩)) outer s H:=⟨by first | exact e.frames | (simpa [Around.under,Code.envs,Code.isFrame,pushEnvs] using e.frames),e.mod,e.bs,e.bsz,e.funs,e.frf,e.hok,e.bare⟩
theorem Env0.in1{P:Program}{w:World}{K:qc}{mg:Str->Option Value}{base:Heap}{A:Around}{outer:List Env}{s:Shared}{H:Hp}(e:Env0 P w K mg base A outer s H) :
  Env0 P w K mg base A.in1 outer s H:=⟨e.frames,e.mod,e.bs,e.bsz,e.funs,e.frf,e.hok,e.bare⟩
section
variable {X:Cx} {pins:List (Addr×Obj)} {σ:St} {H:Hp} {s s':Shared}
theorem Inv.env0(I:Inv X pins σ H s):Env0 X.prog X.w X.K X.mg X.base X.A X.stack s H :=
 ⟨I.ok.frames,I.ok.mod,I.bs,qx I.ok.bsz I.sz,I.stack,I.stkFree,I.hok,I.bare⟩
theorem Inv.after{Q:VK}{u:Value}(I:Inv X pins σ H s)(h:CE X.stack X.prog X.w X.K H s Q u s'):EP X pins σ Q u s':=by
 obtain⟨v,H',os,bare,un,hok,r,q⟩:=h
 obtain⟨hh,g,d,t,os'⟩:=s'
 obtain rfl:os'=s.os:=os
 exact⟨v,H',I.call (h':=hh) (g':=g) (d':=d) (t':=t) (ch:=[]) un hok bare (fun b z=>absurd z (by simp)),r,q⟩
end
def zw9(sp:Sp)(dvs:List V)(E:XK)(t:TA):TE:=fun σ H Q=>t σ H fun vs H1=>sp (vs++dvs) H1 Q E
def ztH(C:Addr)(sp:Sp)(dvs:List V)(E:XK)(t:TA):TE:=fun σ H Q=>t σ H fun vs H1=>∀ x dx,H1 x=none->H1 dx=none->dx≠x ->
 sp (.ref x::(vs++dvs)) (upd (upd H1 dx (.own x)) x (.ins C dx [])) (fun v H2=>v=.non/\Q (.ref x) H2) E
def zfj(K:qc)(fd:FuncData)(ps:List Str)(ds:List Value):Prop :=
 ∀ (s:Shared) (us:List Value),K.In s.heap->(us++ds).length=ps.length->BindsTo s fd ⟨us,[]⟩ (ps.zip (us++ds))
theorem zfj.all{K:qc}{fd:FuncData}{ps:List Str}(h:∀ us:List Value,us.length=ps.length->bindArgs fd ⟨us,[]⟩=pure (ps.zip us)):zfj K fd ps []:=fun s us _ hl=>by
 rw [List.append_nil]at hl ⊢
 exact .of_eq (h us hl)
def zgX(CX:CXT)(X:Cx)(E:XK):Prop:=∀ (pins:List (Addr×Obj)) (σ:St) (H:Hp) (s:Shared) (e:Value) (s':Shared),Inv X pins σ H s->CX X.stack H s E e s'->X.xe e s'
section
variable {X:Cx} {CX:CXT} {k:Nat} {f C:Addr} {fd:FuncData} {ps:List Str} {sp:Sp} {dvs:List V} {ds:List Value} {E:XK} {x m:Str} {p pos apos:Pos} {e o:Expr} {es:List Expr} {ta:TE} {t:TA}
theorem zvu{pins:List (Addr×Obj)}{σ:St}{H:Hp}{s:Shared}{Q:VK}{us:List Value}{vs:List V}(F:FnOk X.prog X.w X.K X.mg X.base CX k f fd ps sp)(hr:Room k X.A)(hb:zfj X.K fd ps ds)(hd:zN dvs ds)(hx:zgX CX X E)
  (I:Inv X pins σ H s) (r:zN vs us) (h:sp (vs++dvs) H Q E):wpAny (model X.prog X.w) X.A (call (.ref f) us) (EP X pins σ Q) X.xe s:=by
 have r2:zN (vs++dvs) (us++ds):=r.append hd
 have hl:(us++ds).length=ps.length:=by rw [<-r2.length]; exact F.len _ _ _ _ h
 refine wpAny_call (codeAny_mono (F.run X.A X.stack s H ⟨us,[]⟩ (us++ds) (vs++dvs) Q E hr I.env0 (hb s us I.kIn hl) r2 h) fun r s' hq=>?_)
 cases r with
 | error e=>exact hx pins σ H s e s' I hq
 | ok fl =>
  cases fl with
  | ret u=>exact I.after hq
  | next=>exact False.elim hq
  | brk=>exact False.elim hq
  | cont=>exact False.elim hq
theorem zsl(F:FnOk X.prog X.w X.K X.mg X.base CX k f fd ps sp)(hr:Room k X.A)(hg:Gl X x)(hm:X.mg x=some (.ref f))(hk:PySem.W.keepIn X.K (.ref f)=true)(hb:zfj X.K fd ps ds)(hd:zN dvs ds)(hx:zgX CX X E)
  (ha:PA X (e::es) t) (hdb:(x==("__debug__":Str))=false:=by decide) (he:starEach (e::es) X.env=(false,eval e X.env)::starEach es X.env:=by rfl) (hpl:(backTo pos (starEach es X.env)).any (·.1)=false:=by rfl) :
  PE X (.Call (.Name x p) (e::es) [] pos) (zw9 sp dvs E t):=by
 intro pins s σ H Q I h
 refine wpAny_Call_Name_kw (ziI I hg hm ?_ hdb)
 refine PySem.W.callWith_K (h₀:=X.base) I.ok.mod.kin hk (thn (ha pos pins s σ H _ I h) fun us s1 ⟨vs,H1,I1,r,q⟩=>⟨I1.kIn,?_⟩) he hpl
 exact zvu F hr hb hd hx I1 r q
structure Mk (K:qc) (C f:Addr):Prop where
 makes:PySem.W.makesIn K C=true
 init:PySem.W.findIn K (.ref C) "__init__"=some (some (.ref f))
 fn:PySem.W.isFn K (.ref f)=true
 kp:PySem.W.keepIn K (.ref C)=true
theorem zoS{pins:List (Addr×Obj)}{σ:St}{H:Hp}{s:Shared}{Q:VK}{us:List Value}{vs:List V}(M:Mk X.K C f)(F:FnOk X.prog X.w X.K X.mg X.base CX k f fd ps sp)(hr:Room (k+1) X.A)(hb:zfj X.K fd ps ds)(hd:zN dvs ds)
  (hx:zgX CX X E) (I:Inv X pins σ H s) (r:zN vs us)
  (h:∀ x dx,H x=none->H dx=none->dx≠x->sp (.ref x::(vs++dvs)) (upd (upd H dx (.own x)) x (.ins C dx [])) (fun v H2=>v=.non/\Q (.ref x) H2) E) :
  wpAny (model X.prog X.w) X.A (call (.ref C) us) (EP X pins σ Q) X.xe s:=by
 have hq:=h (s.heap.objs.size+1) s.heap.objs.size (I.hok.fresh (Nat.le_succ _)) (I.hok.fresh (qe _)) (qj (Nat.lt_succ_self _))
 have I2:=Inv.made (C:=C) I
 have r2:zN (V.ref (s.heap.objs.size+1)::(vs++dvs)) (Value.ref (s.heap.objs.size+1)::(us++ds)):=.cons rfl (r.append hd)
 have hl:(Value.ref (s.heap.objs.size+1)::us++ds).length=ps.length:=by
  have e:=r2.length
  rw [F.len _ _ _ _ hq]at e
  exact e.symm
 refine wpAny_call (zoR (f:=f) I.kIn M.makes M.init (beq_iff_eq.mp M.fn) (codeAny_mono (F.run _ X.stack _ _ ⟨Value.ref (s.heap.objs.size+1)::us,[]⟩ (Value.ref (s.heap.objs.size+1)::(us++ds)) _ _ E (hr.make C us [])
  (I2.env0.make C us []) (hb _ (Value.ref (s.heap.objs.size+1)::us) I2.kIn hl) r2 hq) fun r s' hq'=>?_))
 cases r with
 | error e=>exact hx pins σ _ _ e s' I2 hq'
 | ok fl =>
  cases fl with
  | ret u =>
   obtain⟨v,H',I3,rv,ev,q3⟩:=I2.after hq'
   subst ev
   exact⟨rv,⟨V.ref (s.heap.objs.size+1),H',I3,rfl,q3⟩⟩
  | next=>exact False.elim hq'
  | brk=>exact False.elim hq'
  | cont=>exact False.elim hq'
theorem zsm(M:Mk X.K C f)(F:FnOk X.prog X.w X.K X.mg X.base CX k f fd ps sp)(hr:Room (k+1) X.A)(hg:Gl X x)(hm:X.mg x=some (.ref C))(hb:zfj X.K fd ps ds)(hd:zN dvs ds)(hx:zgX CX X E)
  (ha:PA X (e::es) t) (hdb:(x==("__debug__":Str))=false:=by decide) (he:starEach (e::es) X.env=(false,eval e X.env)::starEach es X.env:=by rfl) (hpl:(backTo pos (starEach es X.env)).any (·.1)=false:=by rfl) :
  PE X (.Call (.Name x p) (e::es) [] pos) (ztH C sp dvs E t):=by
 intro pins s σ H Q I h
 refine wpAny_Call_Name_kw (ziI I hg hm ?_ hdb)
 refine PySem.W.callWith_K (h₀:=X.base) I.ok.mod.kin M.kp (thn (ha pos pins s σ H _ I h) fun us s1 ⟨vs,H1,I1,r,q⟩=>⟨I1.kIn,?_⟩) he hpl
 exact zoS M F hr hb hd hx I1 r q
end
section
variable {X:Cx} {CX:CXT} {k:Nat} {f C:Addr} {fd:FuncData} {ps ks:List Str} {sp:Sp} {E:XK} {x m:Str} {p pos apos kpos:Pos} {e o:Expr} {es:List Expr} {kws:List Keyword} {te ta:TE} {t tk:TA} {nm:Option Str}
variable {g:List Value->List Value->List Value} {gV:List V->List V->List V}
end
structure FnScope (N P:List Str) (sc:Scope):Prop where
 kind:sc.kind=.function
 co:sc.isCoroutine=false
 gen:sc.isGenerator=false
 nd:N.Nodup
 pre:N.take P.length=P
 par:∀ x∈P,sc.names.lookup x=some .local\/sc.names.lookup x=some .cell
 nofree:∀ y∈sc.names,y.2≠.free
theorem zh9{kindOf:Str->Option NameKind}{x:Str}:∀ {binds:List (Str×Value)} {m:Str->Option Value},(∀ v,(x,v)∉binds)->bindL kindOf binds m x=m x
 | [],_,_=>rfl
 | (n,v)::r,m,h=>by
  unfold bindL
  rw [zh9 fun w hw=>h w (qm _ hw)]
  split
  ·have:x≠n:=by rintro rfl; exact h v qo
   simp [this]
  ·rfl
theorem zia{kindOf:Str->Option NameKind}{x:Str}:∀ {binds:List (Str×Value)} {m:Str->Option Value},(∀ v,(x,v)∉binds)->bindC kindOf binds m x=m x
 | [],_,_=>rfl
 | (n,v)::r,m,h=>by
  unfold bindC
  rw [zia fun w hw=>h w (qm _ hw)]
  split
  ·rfl
  ·have:x≠n:=by rintro rfl; exact h v qo
   simp [this]
theorem zib{kindOf:Str->Option NameKind}{x:Str}{v:Value}:∀ {P:List Str} {vs:List Value} {i:Nat} {m:Str->Option Value},P.Nodup->P[i]?=some x->vs[i]?=some v->kindOf x=some .local ->
  bindL kindOf (P.zip vs) m x=some v
 | [],_,_,_,_,h,_,_=>by simp at h
 | _::_,[],_,_,_,_,h,_=>by simp at h
 | p::P,w::vs,0,m,nd,h1,h2,hk=>by
  simp at h1 h2; subst h1; subst h2
  show bindL kindOf ((p,w)::P.zip vs) m p=_
  unfold bindL
  rw [zh9 fun v hv=>(List.nodup_cons.mp nd).1 (List.of_mem_zip hv).1,if_pos hk]
  simp
 | p::P,w::vs,i+1,m,nd,h1,h2,hk=>by
  show bindL kindOf ((p,w)::P.zip vs) m x=_
  unfold bindL
  exact zib (i:=i) (List.nodup_cons.mp nd).2 (by simpa using h1) (by simpa using h2) hk
theorem zic{kindOf:Str->Option NameKind}{x:Str}{v:Value}:∀ {P:List Str} {vs:List Value} {i:Nat} {m:Str->Option Value},P.Nodup->P[i]?=some x->vs[i]?=some v->kindOf x≠some .local ->
  bindC kindOf (P.zip vs) m x=some v
 | [],_,_,_,_,h,_,_=>by simp at h
 | _::_,[],_,_,_,_,h,_=>by simp at h
 | p::P,w::vs,0,m,nd,h1,h2,hk=>by
  simp at h1 h2; subst h1; subst h2
  show bindC kindOf ((p,w)::P.zip vs) m p=_
  unfold bindC
  rw [zia fun v hv=>(List.nodup_cons.mp nd).1 (List.of_mem_zip hv).1,if_neg hk]
  simp
 | p::P,w::vs,i+1,m,nd,h1,h2,hk=>by
  show bindC kindOf ((p,w)::P.zip vs) m x=_
  unfold bindC
  exact zic (i:=i) (List.nodup_cons.mp nd).2 (by simpa using h1) (by simpa using h2) hk
def zck(N:List Str)(vs:List V):St:=vs.map some++List.replicate (N.length - vs.length) none
def zjF(CX:CXT)(P:Program)(w:World)(K:qc)(mg:Str->Option Value)(base:Heap)(N:List Str)(qual:Str)(scope:Scope)(f:Addr)(cd:Value)(A:Around)(outer:List Env)(s:Shared)(H:Hp)(E:XK):Cx where
 prog:=P
 w:=w
 K:=K
 mg:=mg
 base:=base
 A:=A.deeper (envOfC qual scope s.heap.objs.size f cd)
 N:=N
 s₀:=s
 H₀:=H
 env:=envOfC qual scope s.heap.objs.size f cd
 outer:=outer
 stack:=envOfC qual scope s.heap.objs.size f cd::outer
 ex:=[]
 calm:=true
 fn:=fun _=>true
 pn:=[]
 xe:=fun e s'=>wpAny (model P w) (A.deeper (envOfC qual scope s.heap.objs.size f cd)) (leaving (envOfC qual scope s.heap.objs.size f cd) e) (fun _ s''=>CX outer H s E e s'') (fun e' s''=>CX outer H s E e' s'') s'
theorem zjG{sc:Scope}{n:Nat}{x:Str}(h:sc.names.lookup x=some .cell):∃ c,(cellsFrom n sc.names []).lookup x=some c:=by
 have q:=PySem.W.cellsFrom_some sc.names n [] (.inl h)
 exact Option.isSome_iff_exists.mp q
theorem znL{CX:CXT}{P:Program}{w:World}{K:qc}{mg:Str->Option Value}{base:Heap}{N ps:List Str}{qual:Str}{scope:Scope}{f:Addr}{cd:Value}{A:Around}{outer:List Env}{s s1:Shared}{H:Hp}{E:XK}{us:List Value}{vs:List V}
  (S:FnScope N ps scope) (hd:A.handled=none) (e0:Env0 P w K mg base A outer s H) (hl:vs.length=ps.length) (r:zN vs us)
  (x:InCallC s s.heap.objs.size (bindL (envOfC qual scope s.heap.objs.size f cd).kindOf (ps.zip us) fun _=>none) (cellsFrom (s.heap.objs.size+1) scope.names []) (bindC (envOfC qual scope s.heap.objs.size f cd).kindOf (ps.zip us) fun _=>none) s1) :
  Inv (zjF CX P w K mg base N qual scope f cd A outer s H E) [] (zck N vs) H s1:=by
 have hpl:ps.length<=N.length:=by have:=congrArg List.length S.pre; rw [List.length_take]at this; omega
 obtain⟨h1,tk,rfl,hk⟩:=x.done
 have noA:∀ b:Addr,b∉(zjF CX P w K mg base N qual scope f cd A outer s H E).ex:=fun b z=>absurd (show b∈([]:List Addr) from z) (by simp)
 refine⟨⟨e0.mod,S.kind,rfl,rfl,qe _,fun y z c h1 h2=>?_,fun y hy=>?_,fun y c _ h=>?_,fun _=>hd,Around.frames_deeper e0.frames,.inr ⟨rfl,rfl⟩,fun b z=>absurd z (noA b),e0.bs,e0.bsz,fun b _ _=>noA b,fun b z=>absurd z (noA b),e0.funs,e0.frf⟩,
  rfl,e0.bare,Un.kept hk,⟨_,x.toInCall.ns,fun i y v h1 h2 h3=>?_⟩,fun y c h=>⟨_,x.cell y c h⟩,e0.hok.fresh (qe _),fun y c h=>?_,fun p hp=>absurd (show p∈([]:List (Addr×Obj)) from hp) (by simp),e0.hok.kept hk,?_⟩
 ·exact name_of_addr x.apart (PySem.mem_of_lookup h1) (PySem.mem_of_lookup h2)
 ·have hy:scope.names.lookup y=some .cell\/scope.names.lookup y=some .free:=hy
  rcases hy with hy | hy
  ·exact zjG hy
  ·exact absurd rfl (S.nofree _ (PySem.mem_of_lookup hy))
 ·exact Nat.le_of_lt (x.above y c (PySem.mem_of_lookup h))
 ·have hi:i < vs.length:=by
   unfold zck at h2
   by_cases hi:i < vs.length
   ·exact hi
   ·rw [List.getElem?_append_right (by simpa using hi)]at h2
    rw [List.getElem?_replicate]at h2
    split at h2<;>cases h2
  have ha:vs[i]?=some v:=by
   unfold zck at h2
   rw [List.getElem?_append_left (by simpa using hi),List.getElem?_map]at h2
   cases e:vs[i]? with
   | none=>rw [e]at h2; cases h2
   | some a=>rw [e]at h2; cases h2; rfl
  obtain⟨u,hu,rv⟩:=r.get ha
  have hp:ps[i]?=some y:=by
   rw [<-S.pre,List.getElem?_take_of_lt (by omega)]; exact h1
  have ndP:ps.Nodup:=by rw [<-S.pre]; exact S.nd.sublist (List.take_sublist _ _)
  refine⟨u,rv,?_⟩
  rcases S.par y (List.mem_of_getElem? hp)with k | k
  ·exact .inl ⟨k,zib ndP hp hu k⟩
  ·obtain⟨c,e⟩:=zjG (n:=s.heap.objs.size+1) k
   refine .inr ⟨.inl k,c,e,?_⟩
   have q:=x.cell y c e
   rw [zic ndP hp hu (by show scope.names.lookup y≠_; rw [k]; decide)]at q
   exact q
 ·exact e0.hok.fresh (Nat.le_of_lt (x.above y c (PySem.mem_of_lookup h)))
 ·unfold zck
  show _=N.length
  rw [qr,List.length_map,List.length_replicate]
  omega
theorem zxa{CX:CXT}{P:Program}{w:World}{K:qc}{mg:Str->Option Value}{base:Heap}{k:Nat}{f:Addr}{name qual:Str}{params:Arguments}{body:List Stmt}{scope:Scope}{dV kV doc pm cdv ct oc:Value}{an od:Option Addr}
  {osl:Array (Option Value)} {N ps:List Str} {sp:Sp} (lk:K.lookup f=some ⟨oc,od,.func (PySem.W.fnOf name qual params body scope dV kV doc pm an cdv ct),osl⟩) (hcd:PySem.W.codeIn K cdv qual=true) (S:FnScope N ps scope)
  (len:∀ vs H Q E,sp vs H Q E->vs.length=ps.length)
  (hbody:∀ (A:Around) (outer:List Env) (s:Shared) (H:Hp) (vs:List V) (Q:VK) (E:XK),Room k (A.deeper (envOfC qual scope s.heap.objs.size f cdv))->sp vs H Q E ->
   ∃ t,PSs (zjF CX P w K mg base N qual scope f cdv A outer s H E) body t/\t { nx:=fun _ H'=>Q .non H',rt:=Q } (zck N vs) H) :
  FnOk P w K mg base CX (k+1) f (PySem.W.fnOf name qual params body scope dV kV doc pm an cdv ct) ps sp:=by
 refine⟨len,fun A outer s H args us vs Q E hr e0 hb r hsp=>?_⟩
 have hl:=len _ _ _ _ hsp
 have KX:K.In s.heap:=e0.mod.kin.keeps fun b o e=>(e0.bs b o e).1
 have lim:s.heap.NoLimit:=e0.mod.nolimit.keeps fun b o e=>(e0.bs b o e).1
 have hkind:∀ y∈ps.zip us,scope.names.lookup y.1=some .local\/(scope.names.lookup y.1=some .cell/\((cellsFrom (s.heap.objs.size+1) scope.names []).lookup y.1).isSome=true):=fun⟨n,v⟩ hy=>by
  rcases S.par n (List.of_mem_zip hy).1 with q | q
  ·exact .inl q
  ·exact .inr ⟨q,PySem.W.cellsFrom_some _ _ _ (.inl q)⟩
 refine codeAny_call_function hr.depth (KX _ _ lk) rfl S.co S.gen rfl (PySem.W.codeRec_of KX hcd) (hb _ _ _ _ ?_)
 refine wpAny_newFunctionEnv_cells S.kind hkind fun env he s1 x=>?_
 subst he
 refine⟨lim.keeps x.toInCall.keep,codeAny_func ?_⟩
 obtain⟨t,ht,hq⟩:=hbody A outer s H vs Q E (hr.deeper _) hsp
 have I:Inv (zjF CX P w K mg base N qual scope f cdv A outer s H E) [] (zck N vs) H s1:=znL S hr.hd e0 hl r x
 refine wpAny_mono (ht [] s1 (zck N vs) H _ I hq) (fun fl s' hs=>?_) fun e s' hs=>hs
 have fin:∀ {σ':St} {H':Hp} {v:V} {u:Value},Inv (zjF CX P w K mg base N qual scope f cdv A outer s H E) [] σ' H' s'->zU v u->Q v H'->CE outer P w K H s Q u s' :=
  fun{σ' H' v u} J rv q=>⟨v,H',J.os,J.bare,J.base,J.hok,rv,q⟩
 cases fl with
 | ret u =>
  obtain⟨v,σ',H',J,rv,q⟩:=hs
  exact fin J rv q
 | next =>
  obtain⟨σ',H',J,q⟩:=hs
  exact fin (v:=V.non) (u:=Value.none) J rfl q
 | brk =>
  obtain⟨_,_,_,q⟩:=hs
  exact False.elim q
 | cont =>
  obtain⟨_,_,_,q⟩:=hs
  exact False.elim q
section
variable {X:Cx} {x:Str} {p pos:Pos} {e:Expr} {es:List Expr} {t:TA} {id T:String} {r:List V->Hp->VK->Prop}
def tCB(r:List V->Hp->VK->Prop)(t:TA):TE:=fun σ H Q=>t σ H fun vs H1=>r vs H1 Q
theorem zoT(hc:zbU X (.builtin id) r)(hg:Gl X x)(hm:X.mg x=none)(hv:bootBuiltins x=some (.builtin id))(ha:PA X (e::es) t)(hn:x ≠ "__name__":=by decide)(hdb:(x==("__debug__":Str))=false:=by decide)
  (he:starEach (e::es) X.env=(false,eval e X.env)::starEach es X.env:=by rfl) (hpl:(backTo pos (starEach es X.env)).any (·.1)=false:=by rfl):PE X (.Call (.Name x p) (e::es) [] pos) (tCB r t):=by
 intro pins s σ H Q I h
 refine wpAny_Call_Name_kw (zfV I hg hm hv ?_ hn hdb)
 exact PyProof.Rows.callWith_builtin1 (thn (ha pos pins s σ H _ I h) fun us s1 ⟨vs,H1,I1,r1,q1⟩=>hc pins s1 σ H1 vs us Q I1 r1 q1) he hpl
theorem znM(hc:zbU X (.type T) r)(hg:Gl X x)(hm:X.mg x=none)(hv:bootBuiltins x=some (.type T))(ha:PA X (e::es) t)(hn:x ≠ "__name__":=by decide)(hdb:(x==("__debug__":Str))=false:=by decide)
  (he:starEach (e::es) X.env=(false,eval e X.env)::starEach es X.env:=by rfl) (hpl:(backTo pos (starEach es X.env)).any (·.1)=false:=by rfl):PE X (.Call (.Name x p) (e::es) [] pos) (tCB r t):=by
 intro pins s σ H Q I h
 refine wpAny_Call_Name_kw (zfV I hg hm hv ?_ hn hdb)
 exact PyProof.Rows.callWith_type1 (thn (ha pos pins s σ H _ I h) fun us s1 ⟨vs,H1,I1,r1,q1⟩=>hc pins s1 σ H1 vs us Q I1 r1 q1) he hpl
end
end L2
namespace HT
open PySem PyProof.Rows
section
open PySem.SeqAt
open PySem.AutoSeq1 (wpAny_loadPart')
open PySem.MeetsSeq PySem.MeetsSeq2 PySem.MeetsSeq3
end
section
variable {prog:Program} {w:World} {A:Around} {E:Value->Shared->Prop} {s:Shared}
theorem cat_tup{t b:Addr}{vs ws:List Value}{Q:Value->Shared->Prop}(ht:IsTup s.heap t vs.toArray)(hb:IsTup s.heap b ws.toArray)(hv:vs≠[])
  (h1:ws=[]->Q (.ref t) s) (h2:ws≠[]->Q (.ref s.heap.objs.size) { s with heap:=s.heap.push { cls:=.type "tuple",data:=.seq (vs++ws).toArray } })
  (hsz:vs.length+ws.length<=sizeLine):wpAny (model prog w) A (binaryOp .Add (.ref t) (.ref b)) Q E s:=by
 obtain⟨⟨cls,dd,data,sl⟩,ho,hc,n,hd⟩:=id ht
 obtain⟨⟨cls2,dd2,data2,sl2⟩,ho2,hc2,n2,hd2⟩:=id hb
 simp only at hc hd hc2 hd2
 subst hc hd hc2 hd2
 have e:vs.toArray++ws.toArray=(vs++ws).toArray:=by simp
 by_cases hw:ws=[]
 ·exact concat_meets ⟨_,ho,rfl⟩ ⟨_,ho2,rfl⟩ noFill_tuple_add seq_tuple_add PySem.F.slot_tuple_add PySem.F.entry_tuple_add (PySem.F.args_tuple_add_2 _ _)
   (tuple_addW1 t b vs.toArray ws.toArray n n2 dd dd2 sl sl2 (by simpa using hv) (by simp [hw])) ⟨ho,ho2,h1 hw⟩
 ·refine concat_meets ⟨_,ho,rfl⟩ ⟨_,ho2,rfl⟩ noFill_tuple_add seq_tuple_add PySem.F.slot_tuple_add PySem.F.entry_tuple_add (PySem.F.args_tuple_add_2 _ _)
   (tuple_addW2 t b vs.toArray ws.toArray n n2 dd dd2 sl sl2 (by simpa using hv) (by simpa using hw) (by rw [List.size_toArray,List.size_toArray]; exact hsz)) ⟨ho,ho2,?_⟩
  rw [e]
  exact h2 hw
def sIx(n d:Nat):Option Int->Nat
 | none=>d
 | some v=>if v < 0 then(v+(n:Int)).toNat else min v.toNat n
theorem sIx_none(n d:Nat):sIx n d none=d:=rfl
theorem sIx_nat(n d k:Nat):sIx n d (some (k:Int))=min k n:=by
 show(if(k:Int) < 0 then((k:Int)+(n:Int)).toNat else min (k:Int).toNat n)=min k n
 rw [if_neg (by omega),Int.toNat_natCast]
theorem zvv(n d:Nat)(hd:d<=n)(o:Option Int):sIx n d o<=n:=by
 cases o with
 | none=>exact hd
 | some v =>
  show(if v < 0 then(v+(n:Int)).toNat else min v.toNat n)<=n
  by_cases hv:v < 0
  ·rw [if_pos hv]; omega
  ·rw [if_neg hv]; exact Nat.min_le_right _ _
theorem zmd(v:Int)(n d:Nat):(if v < 0 then max (v+(n:Int)) 0 else min v (n:Int))=((sIx n d (some v):Nat):Int):=by
 show(if v < 0 then max (v+(n:Int)) 0 else min v (n:Int))=(((if v < 0 then(v+(n:Int)).toNat else min v.toNat n):Nat):Int)
 by_cases hv:v < 0
 ·simp only [if_pos hv]; omega
 ·simp only [if_neg hv]; omega
theorem zk6(lo hi:Option Int)(n:Nat):Builtin.Slice.sliceAdjust lo hi 1 (n:Int)=(((sIx n 0 lo:Nat):Int),((sIx n n hi:Nat):Int)):=by
 have h1:¬((1:Int) < 0):=by omega
 unfold Builtin.Slice.sliceAdjust
 simp only [h1,if_false]
 refine Prod.ext ?_ ?_
 ·cases lo with
  | none=>rfl
  | some v=>exact zmd v n 0
 ·cases hi with
  | none=>rfl
  | some v=>exact zmd v n n
theorem zk7(i j:Nat):Builtin.Slice.slicePlaces (i:Int) (j:Int) 1=j - i:=by
 unfold Builtin.Slice.slicePlaces
 have h1:(1:Int) > 0:=by omega
 simp only [h1,if_true,Int.ediv_one]
 split<;>omega
theorem zgY{v:Value}{o:Option Int}{Q:Option Int->Shared->Prop}(p:IsPart v o)(h:Q o s):wpAny (model prog w) A (Builtin.Slice.slicePartIndex v) Q E s:=by
 cases p with
 | none=>exact slicePart_none h
 | int i t=>exact slicePart_int h
theorem zdu{sl:Addr}{vl vu:Value}{lo hi:Option Int}{n:Nat}{Q:Int×Int×Nat->Shared->Prop}(hs:s.heap.IsSliceOf sl vl vu .none)(pl:IsPart vl lo)(pu:IsPart vu hi)
  (h:Q (((sIx n 0 lo:Nat):Int),1,sIx n n hi - sIx n 0 lo) s):wpAny (model prog w) A (Builtin.Slice.sliceApplied (.ref sl) (pure (n:Int))) Q E s:=by
 obtain⟨os,hos,hcs,hds⟩:=id hs
 unfold Builtin.Slice.sliceApplied Builtin.Slice.sliceFields
 refine wpAny_bind (wpAny_bind (wpAny_field hos hds (x:=vl) rfl (wpAny_bind (wpAny_field hos hds (x:=vu) rfl (wpAny_bind (wpAny_field hos hds (x:=.none) rfl (wpAny_pure ?_)))))))
 refine wpAny_bind (slicePart_none ?_)
 show wpAny _ _ (if((1:Int)==0)=true then _ else _) _ _ s
 rw [if_neg (by decide)]
 refine wpAny_bind (zgY pl (wpAny_bind (zgY pu (wpAny_bind (wpAny_pure ?_)))))
 show wpAny _ _ (match Builtin.Slice.sliceAdjust lo hi 1 (n:Int)with | (lo,hi)=>pure (lo,(1:Int),Builtin.Slice.slicePlaces lo hi 1)) _ _ s
 rw [zk6 lo hi n]
 show wpAny _ _ (pure (((sIx n 0 lo:Nat):Int),(1:Int),Builtin.Slice.slicePlaces ((sIx n 0 lo:Nat):Int) ((sIx n n hi:Nat):Int) 1)) _ _ s
 rw [zk7]
 exact wpAny_pure h
theorem zoU(xs:Array Value)(i k:Nat):((List.range k).filterMap fun(m:Nat)=>xs[((i:Int)+(m:Int) * 1).toNat]?).toArray=((xs.toList.drop i).take k).toArray:=by
 have e:(fun(m:Nat)=>xs[((i:Int)+(m:Int) * 1).toNat]?)=fun m=>xs[i+m]?:=by
  funext m
  have:((i:Int)+(m:Int) * 1).toNat=i+m:=by omega
  rw [this]
 rw [e]
 have:=pick_run xs i k
 rw [List.filterMap_map]at this
 have e2:((fun x=>xs[x]?) ∘ fun x=>i+x)=fun m=>xs[i+m]?:=rfl
 rw [e2]at this
 rw [this]
theorem getItem_tuple_cut{t sl:Addr}{items:Array Value}{vl vu:Value}{lo hi:Option Int}{Q:Value->Shared->Prop}(ht:IsTup s.heap t items)(hs:s.heap.IsSliceOf sl vl vu .none)(pl:IsPart vl lo)(pu:IsPart vu hi)
  (hw:¬(sIx items.size 0 lo=0/\sIx items.size items.size hi=items.size))
  (h:Q (.ref s.heap.objs.size) { s with heap:=s.heap.push { cls:=.type "tuple",data:=.seq ((items.toList.drop (sIx items.size 0 lo)).take (sIx items.size items.size hi - sIx items.size 0 lo)).toArray } })
  (hsz:items.size<=sizeLine):wpAny (model prog w) A (getItem (.ref t) (.ref sl)) Q E s:=by
 have htake:sizeOk (.seq ((items.toList.drop (sIx items.size 0 lo)).take (sIx items.size items.size hi - sIx items.size 0 lo)).toArray):=by
  show((items.toList.drop (sIx items.size 0 lo)).take (sIx items.size items.size hi - sIx items.size 0 lo)).toArray.size<=sizeLine
  rw [List.size_toArray,List.length_take,List.length_drop,Array.length_toList]
  omega
 have hj:sIx items.size items.size hi<=items.size:=zvv _ _ (Nat.le_refl _) hi
 obtain⟨os,hos,hcs,hds⟩:=id hs
 have hTs:s.TypeIs (.ref sl) "slice":=⟨os,hos,hcs⟩
 unfold getItem
 try with_reducible refine wpAny_holding ?_
 first | refine wpAny_bind (wpAny_pure ?_) | skip
 refine wpAny_bind (wpAny_sequenceKey ht.typeIs (by decide) ?_)
 refine wpAny_bind (wpAny_callSpecial?_slot (name:=Str.ofString "__getitem__") ht.typeIs PyProof.Rows.slot_tuple_getitem
  (wpAny_call_entry PyProof.Rows.slot_tuple_getitem ht.typeIs entry_tuple_getitem ?_ (args_tuple_getitem _ _)))
 show wpAny _ _ (Builtin.Tuple.tupleItemsOf (.ref t) >>= _) _ _ s
 refine wpAny_bind (tupleItemsOf_ ht ?_)
 refine wpAny_bind (wpAny_typeOf hTs ?_)
 rw [if_pos (by decide)]
 refine wpAny_bind (zdu hs pl pu ?_)
 have hno:¬((((sIx items.size 0 lo:Nat):Int)==0 && (1:Int)==1 && (sIx items.size items.size hi - sIx items.size 0 lo)==items.size)=true):=by
  intro q
  rw [Bool.and_eq_true,Bool.and_eq_true]at q
  have q1:((sIx items.size 0 lo:Nat):Int)=0:=eq_of_beq q.1.1
  have q2:sIx items.size items.size hi - sIx items.size 0 lo=items.size:=eq_of_beq q.2
  exact hw ⟨by omega,by omega⟩
 show wpAny _ _ (if(((sIx items.size 0 lo:Nat):Int)==0 && (1:Int)==1 && (sIx items.size items.size hi - sIx items.size 0 lo)==items.size)=true then _ else _) _ _ s
 rw [if_neg hno,zoU]
 first
  | exact wpAny_bind (m:=Builtin.Tuple.tupleExact _) (wpAny_newObj_type (wpAny_pure ⟨_,rfl,wpAny_pure h⟩) htake)
  | exact wpAny_bind (m:=Builtin.Tuple.tupleExact _) (wpAny_newObj_type (wpAny_bind (wpAny_pure (wpAny_pure ⟨_,rfl,wpAny_pure h⟩))) htake)
  | exact wpAny_bind (wpAny_bind (m:=Builtin.Tuple.tupleExact _) (wpAny_newObj_type (wpAny_pure (wpAny_pure ⟨_,rfl,wpAny_pure h⟩)) htake))
  | exact wpAny_bind (wpAny_bind (m:=Builtin.Tuple.tupleExact _) (wpAny_newObj_type (wpAny_pure ⟨_,rfl,wpAny_pure h⟩) htake))
end
end HT
namespace L2
open PySem PySem.Spec PyProof.Rows
abbrev TO:=St->Hp->(Option Int->Hp->Prop)->Prop
def PO(X:Cx)(e:Option Expr)(t:TO):Prop :=
 ∀ (pins:List (Addr×Obj)) (s:Shared) (σ:St) (H:Hp) (Q:Option Int->Hp->Prop),Inv X pins σ H s->t σ H Q ->
  wpAny (model X.prog X.w) X.A (evalPart e X.env) (fun u s'=>∃ o H',Inv X pins σ H' s'/\IsPart u o/\Q o H') X.xe s
def ziK:TO:=fun _ H Q=>Q none H
def zoV(t:TE):TO:=fun σ H Q=>t σ H fun x H1=>∃ i,x=.int i/\Q (some i) H1
theorem zgZ{ns:List Int}:∀ {us:List Value},zN (ns.map V.int) us->IntsAre us ns:=by
 induction ns with
 | nil=>intro us r; rw [List.map_nil]at r; cases r; exact .nil
 | cons n ns ih =>
  intro us r
  rw [List.map_cons]at r
  cases r with
  | cons r1 r2 =>
   obtain⟨t,e⟩:=r1
   subst e
   exact .cons n t (ih r2)
section
variable {X:Cx} {e:Expr} {te:TE} {lo hi:Option Expr} {tl th:TO} {pos p2:Pos}
theorem zsn:PO X none ziK:=by
 intro pins s σ H Q I h
 rw [evalPart_none]
 exact qb ⟨none,H,I,.none,h⟩
theorem zso(h:PE X e te):PO X (some e) (zoV te):=by
 intro pins s σ H Q I hw
 rw [evalPart_some]
 refine thn (h pins s σ H _ I hw) fun u s1 ⟨x,H1,I1,r1,q1⟩=>?_
 obtain⟨i,rfl,q⟩:=q1
 obtain⟨t,rfl⟩:=r1
 exact⟨some i,H1,I1,.int i t,q⟩
def SlR(X:Cx)(r:V->Option Int->Option Int->Hp->VK->Prop):Prop :=
 ∀ (pins:List (Addr×Obj)) (s:Shared) (σ:St) (H:Hp) (x:V) (v vl vu:Value) (lo hi:Option Int) (sl:Addr) (Q:VK),Inv X pins σ H s->zU x v->s.heap.IsSliceOf sl vl vu .none->IsPart vl lo->IsPart vu hi->r x lo hi H Q ->
  ∃ T id,typeLookup (.type T) "__getitem__"=pure (some (.builtin id))/\s.TypeIs v T/\wpAny (model X.prog X.w) X.A (getItem v (.ref sl)) (EP X pins σ Q) X.xe s
def tSl(r:V->Option Int->Option Int->Hp->VK->Prop)(te:TE)(tl th:TO):TE:=fun σ H Q=>te σ H fun x H1=>tl σ H1 fun l H2=>th σ H2 fun u H3=>r x l u H3 Q
theorem zoW{r:V->Option Int->Option Int->Hp->VK->Prop}(hr:SlR X r)(he:PE X e te)(hl:PO X lo tl)(hu:PO X hi th):PE X (.Subscript e (.Slice lo hi none p2) pos) (tSl r te tl th):=by
 intro pins s σ H Q I h
 refine Subscript_ (thn (he pins s σ H _ I h) fun v s1 ⟨x,H1,I1,r1,q1⟩=>?_)
 refine wpAny_Slice (thn (hl pins s1 σ H1 _ I1 q1) fun vl s2 ⟨l,H2,I2,pl,q2⟩=>thn (hu pins s2 σ H2 _ I2 q2) fun vu s3 ⟨u,H3,I3,pu,q3⟩=>?_)
 rw [evalPart_none]
 refine qb ?_
 have I4:Inv X pins σ H3 { s3 with heap:=s3.heap.push { cls:=.type "slice",data:=.fields #[vl,vu,.none] } }:=I3.kept (t':=s3.toks) fun b ob q=>qd _ q
 obtain⟨T,id,hT,ht,hg⟩:=hr pins { s3 with heap:=s3.heap.push { cls:=.type "slice",data:=.fields #[vl,vu,.none] } } σ H3 x v vl vu l u s3.heap.objs.size Q I4 r1 (Heap.IsSliceOf.new ..) pl pu q3
 show wpAny (model X.prog X.w) X.A (subscriptTail e (.Slice lo hi none p2) v (.ref s3.heap.objs.size)) (EP X pins σ Q) X.xe { s3 with heap:=s3.heap.push { cls:=.type "slice",data:=.fields #[vl,vu,.none] } }
 exact tail_any (ops:=[.ref s3.heap.objs.size,v]) ht hT hg (by with_unfolding_all rfl)
def zgt(xs:List V)(lo hi:Option Int):List V:=(xs.drop (HT.sIx xs.length 0 lo)).take (HT.sIx xs.length xs.length hi - HT.sIx xs.length 0 lo)
theorem zgk(xs:List V)(lo hi:Option Int):(zgt xs lo hi).length<=xs.length:=by
 unfold zgt
 rw [List.length_take,List.length_drop]
 omega
def zyB(K:qc):V->Option Int->Option Int->Hp->VK->Prop:=fun x lo hi H Q=>∃ a xs,x=.ref a/\SqT K H a xs /\
 ¬(HT.sIx xs.length 0 lo=0/\HT.sIx xs.length xs.length hi=xs.length)/\∀ p,H p=none->Q (.ref p) (upd H p (.tup (zgt xs lo hi)))
theorem zvw:SlR X (zyB X.K):=by
 intro pins s σ H x v vl vu lo hi sl Q I rx hs pl pu h
 obtain⟨a,xs,rfl,hx,hw,q⟩:=h
 cases rx
 obtain⟨its,r,ht,hz⟩:=I.tuple hx
 have hlen:its.toArray.size=xs.length:=by rw [List.size_toArray]; exact r.length.symm
 refine⟨"tuple",_,PyProof.Rows.slot_tuple_getitem.lookup,ht.typeIs,?_⟩
 refine HT.getItem_tuple_cut ht hs pl pu (by rw [hlen]; exact hw) ?_ (by rw [hlen]; exact hz)
 rw [hlen]
 refine⟨.ref s.heap.objs.size,_,I.laid (t':=s.toks) (o:=.tup (zgt xs lo hi)) (fun b ob q=>qd _ q) (qe _) ?_,rfl,q _ (I.hok.fresh (qe _))⟩
 exact⟨qx (zgk xs lo hi) hz,_,(r.drop (HT.sIx xs.length 0 lo)).take (HT.sIx xs.length xs.length hi - HT.sIx xs.length 0 lo),IsTup.new _ _⟩
def zoX(K:qc):R2:=fun x y H Q=>∃ a b xs ys,x=.ref a/\y=.ref b/\SqT K H a xs/\SqT K H b ys/\xs≠[]/\xs.length+ys.length<=sizeLine /\
 (ys=[]->Q (.ref a) H)/\(ys≠[]->∀ p,H p=none->Q (.ref p) (upd H p (.tup (xs++ys))))
theorem zN.nil_iff{xs:List V}{us:List Value}(r:zN xs us):us=[]↔xs=[]:=by
 cases r with
 | nil=>simp
 | cons _ _=>simp
theorem zsp:OpR X (binaryOp .Add) (zoX X.K):=by
 intro pins s σ H x y v u Q I rx ry h
 obtain⟨a,b,xs,ys,rfl,rfl,ha,hb,hx,hz,q1,q2⟩:=h
 cases rx
 cases ry
 obtain⟨its,r1,p1,_⟩:=I.tuple ha
 obtain⟨its2,r2,p2,_⟩:=I.tuple hb
 refine HT.cat_tup p1 p2 (fun z=>hx (r1.nil_iff.mp z)) (fun z=>⟨.ref a,H,I,rfl,q1 (r2.nil_iff.mp z)⟩) (fun z=>?_) (by rw [<-r1.length,<-r2.length]; exact hz)
 refine⟨.ref s.heap.objs.size,_,I.laid (t':=s.toks) (o:=.tup (xs++ys)) (fun b ob q=>qd _ q) (qe _) ?_,rfl,q2 (fun w=>z (r2.nil_iff.mpr w)) _ (I.hok.fresh (qe _))⟩
 exact⟨by rw [qr]; exact hz,_,r1.append r2,IsTup.new _ _⟩
end
def ixN(n:Nat)(i:Int):Option Nat:=if 0<=i then(if i < n then some i.toNat else none)else if -(n:Int)<=i then some (i+n).toNat else none
def atI{α:Type}(xs:List α)(i:Int):Option α:=(ixN xs.length i).bind fun j=>xs[j]?
theorem zme{n:Nat}{i:Int}{j:Nat}(h:ixN n i=some j):seqIndex? i n=some j/\j < n/\-(n:Int)<=i/\i < n:=by
 unfold ixN at h
 by_cases h0:0<=i
 ·rw [if_pos h0]at h
  by_cases h1:i < n
  ·rw [if_pos h1]at h
   have e:i.toNat=j:=qw h
   exact⟨by rw [seqIndex_of h0 h1,e],by omega,by omega,h1⟩
  ·rw [if_neg h1]at h; cases h
 ·rw [if_neg h0]at h
  by_cases h1:-(n:Int)<=i
  ·rw [if_pos h1]at h
   have e:(i+n).toNat=j:=qw h
   exact⟨by rw [seqIndex_neg (by omega) h1,e],by omega,h1,by omega⟩
  ·rw [if_neg h1]at h; cases h
theorem ziL{α:Type}{xs:List α}{i:Int}{v:α}(h:atI xs i=some v):∃ j,seqIndex? i xs.length=some j/\xs[j]?=some v/\j < xs.length/\-(xs.length:Int)<=i/\i < xs.length:=by
 unfold atI at h
 cases e:ixN xs.length i with
 | none=>rw [e]at h; cases h
 | some j =>
  rw [e]at h
  obtain⟨h1,h2,h3,h4⟩:=zme e
  exact⟨j,h1,h,h2,h3,h4⟩
theorem zsq{α:Type}{xs:List α}{j:Nat}{v:α}(h:xs[j]?=some v):atI xs (j:Int)=some v:=by
 have hj:j < xs.length:=(qk.mp h).1
 have e:ixN xs.length (j:Int)=some j:=by
  unfold ixN
  rw [if_pos (by omega),if_pos (by omega)]; simp
 unfold atI; rw [e]; exact h
def zmf(b:Expr):Prop:=∀ o i,subscripted b false o i=operate [o,i] (getItem o i)
def IxR(X:Cx)(r:R2):Prop :=
 ∀ (value slice:Expr) (pins:List (Addr×Obj)) (s:Shared) (σ:St) (H:Hp) (x y:V) (v u:Value) (Q:VK),Inv X pins σ H s->zU x v->zU y u->r x y H Q ->
  subscripted slice false v u=operate [v,u] (getItem v u)->wpAny (model X.prog X.w) X.A (subscriptTail value slice v u) (EP X pins σ Q) X.xe s
def MtR(X:Cx)(id:String)(r:V->List V->Hp->VK->Prop):Prop :=
 ∀ (pins:List (Addr×Obj)) (s:Shared) (σ:St) (H:Hp) (x:V) (xs:List V) (v:Value) (us:List Value) (Q:VK),Inv X pins σ H s->zU x v->zN xs us->r x xs H Q ->
  wpAny (model X.prog X.w) X.A (call (.builtin id) (v::us)) (EP X pins σ Q) X.xe s
section
variable {X:Cx} {a b:Expr} {ta tb:TE} {pos:Pos}
theorem zxb{r:R2}(hr:IxR X r)(ha:PE X a ta)(hb:PE X b tb)(hs:zmf b):PE X (.Subscript a b pos) (tOp r ta tb):=by
 intro pins s σ H Q I h
 exact Subscript_ (zvh ha hb I h fun v u s2 x y H2 I2 rx ry q=>hr a b pins s2 σ H2 x y v u Q I2 rx ry q (hs _ _))
def zvx(K:qc):R2:=fun x y H Q=>∃ p xs i v,x=.ref p/\y=.int i/\SqL K H p xs/\atI xs i=some v/\Q v H
def zvy(K:qc):R2:=fun x y H Q=>∃ p xs i v,x=.ref p/\y=.int i/\SqT K H p xs/\atI xs i=some v/\Q v H
def zxc:R2:=fun x y H Q=>∃ z i c,x=.str z/\y=.int i/\z.length<=sizeLine/\atI z.cps.toList i=some c/\Q (.str ⟨#[c]⟩) H
theorem zsr:IxR X (zvx X.K):=by
 intro value slice pins s σ H x y v u Q I rx ry h hs
 obtain⟨p,xs,i,z,rfl,rfl,hq,he,q⟩:=h
 cases rx
 obtain⟨t,rfl⟩:=ry
 obtain⟨its,r,pl,hz⟩:=I.list hq
 obtain⟨j,h1,h2,h3,h4,h5⟩:=ziL he
 obtain⟨w,ew,rw'⟩:=r.get h2
 have hl:=r.length
 have hn:=zfX
 have fin:EP X pins σ Q w s:=⟨z,H,I,rw',q⟩
 by_cases h0:0<=i
 ·have hj:i.toNat=j:=by
   rw [seqIndex_of h0 h5]at h1
   exact qw h1
  exact item_listR pl.isList h0 (by omega) (by rw [hj]; simpa using ew) fin hs
 ·have hj:(i+(its.toArray.size:Int)).toNat=j:=by
   rw [seqIndex_neg (by omega) h4]at h1
   rw [List.size_toArray,<-hl]
   exact qw h1
  exact subscriptTail_builtinR (x:=w) pl.isList.typeIs slot_list_getitem.lookup
   (wpAny_getItem_list_neg (Q:=fun r s'=>r=w/\EP X pins σ Q r s') pl.isList (by omega) (by rw [List.size_toArray]<;>omega) (by omega) (by rw [hj]; simpa using ew) ⟨rfl,fin⟩) hs
theorem zvz:IxR X (zvy X.K):=by
 intro value slice pins s σ H x y v u Q I rx ry h hs
 obtain⟨p,xs,i,z,rfl,rfl,hq,he,q⟩:=h
 cases rx
 obtain⟨t,rfl⟩:=ry
 obtain⟨its,r,pl,hz⟩:=I.tuple hq
 obtain⟨j,h1,h2,h3,h4,h5⟩:=ziL he
 obtain⟨w,ew,rw'⟩:=r.get h2
 have hl:=r.length
 have hn:=zfX
 have fin:EP X pins σ Q w s:=⟨z,H,I,rw',q⟩
 exact subscriptTail_builtinR (x:=w) pl.typeIs slot_tuple_getitem.lookup
  (getItem_tuple (j:=j) (Q:=fun r s'=>r=w/\EP X pins σ Q r s') pl (by omega) (by omega) (by rw [List.size_toArray,<-hl]; exact h1) (by simpa using ew) ⟨rfl,fin⟩) hs
theorem zk8:IxR X zxc:=by
 intro value slice pins s σ H x y v u Q I rx ry h hs
 obtain⟨z,i,c,rfl,rfl,hz,he,q⟩:=h
 obtain⟨t,rfl⟩:=rx
 obtain⟨t',rfl⟩:=ry
 obtain⟨j,h1,h2,h3,h4,h5⟩:=ziL he
 have hl:z.cps.toList.length=z.length:=by simp [Str.length]
 rw [hl]at h1 h4 h5
 have hn:=zfX
 exact tail_any (typeIs_str s z t) slot_str_getitem.lookup (getItem_str (c:=c) (by
  have e1:decide (i < -(2^63:Int))=false:=decide_eq_false (by omega)
  have e2:decide (i>=2^63)=false:=decide_eq_false (by omega)
  rw [e1,e2,Bool.or_false]) (by rw [h1]; simpa using h2) ⟨.str ⟨#[c]⟩,H,I.tok _,⟨_,rfl⟩,q⟩) hs
theorem zk9(its:List Value)(n j:Nat)(u:Value):Obj.mapSeq (·.setIfInBounds j u) { cls:=.type "list",data:=.seq its.toArray n }={ cls:=.type "list",data:=.seq (its.set j u).toArray n }:=by
 simp [Obj.mapSeq]
theorem Inv.lst{pins:List (Addr×Obj)}{σ:St}{H:Hp}{s:Shared}{p:Addr}{xs:List V}(I:Inv X pins σ H s)(h:H p=some (.lst xs)) :
  ∃ (its:List Value) (n:Nat),zN xs its/\s.heap.get? p=some { cls:=.type "list",data:=.seq its.toArray n }/\xs.length<=sizeLine:=by
 obtain⟨z,its,n,r,e⟩:=I.hok p _ h
 exact⟨its,n,r,e,z⟩
theorem Inv.lstUpd{pins:List (Addr×Obj)}{σ:St}{H:Hp}{s:Shared}{p:Addr}{xs ys:List V}{its its':List Value}{n n':Nat}{f:Obj->Obj}(I:Inv X pins σ H s)(h:H p=some (.lst xs))
  (ho:s.heap.get? p=some { cls:=.type "list",data:=.seq its.toArray n }) (hf:f { cls:=.type "list",data:=.seq its.toArray n }={ cls:=.type "list",data:=.seq its'.toArray n' }) (r:zN ys its') (hz:ys.length<=sizeLine) (t:Nat) :
  Inv X pins σ (upd H p (.lst ys)) { s with heap:=s.heap.update p f,toks:=t }:=by
 have e:(s.heap.update p f).get? p=some { cls:=.type "list",data:=.seq its'.toArray n' }:=by
  rw [Heap.get?_update_self f ho (by rw [hf]<;>rfl),hf]
 refine I.write (x:=p) (e:=p) (by rw [h]; trivial) (.inl rfl) (fun b u hb q=>(Heap.get?_update_other _ _ (Ne.symm hb)).trans q) ⟨_,e⟩ ?_
 exact⟨hz,its',n',r,e⟩
def ztI:V->V->V->Hp->(Hp->Prop)->Prop:=fun o i v H Q=>∃ p xs k j,o=.ref p/\i=.int k/\H p=some (.lst xs)/\ixN xs.length k=some j/\Q (upd H p (.lst (xs.set j v)))
theorem zg0:zu5 X ztI:=by
 intro pins s σ H o i v ov iv u Q I ro ri rv h
 obtain⟨p,xs,k,j,rfl,rfl,hp,hj,q⟩:=h
 cases ro
 obtain⟨t,rfl⟩:=ri
 obtain⟨its,n,r,ho,hz⟩:=I.lst hp
 obtain⟨h1,h2,h3,h4⟩:=zme hj
 have hl:=r.length
 have hn:=zfX
 have I':Inv X pins σ (upd H p (.lst (xs.set j v))) { s with heap:=s.heap.update p (Obj.mapSeq (·.setIfInBounds j u)) } :=
  I.lstUpd hp ho (zk9 its n j u) (r.set rv j) (by rw [List.length_set]; exact hz) s.toks
 by_cases h0:0<=k
 ·have hk:k.toNat=j:=by
   rw [seqIndex_of h0 h4]at h1
   exact qw h1
  exact PySem.W.ki_setAt ho h0 (by omega) (by rw [List.size_toArray,<-hl]; exact h4) (by rw [hk]; exact⟨_,I',q⟩)
 ·have hk:(k+(its.toArray.size:Int)).toNat=j:=by
   rw [seqIndex_neg (by omega) h3]at h1
   rw [List.size_toArray,<-hl]
   exact qw h1
  exact PySem.W.ki_setBack ho (by omega) (by rw [List.size_toArray,<-hl]; exact h3) (by omega) (by rw [hk]; exact⟨_,I',q⟩)
theorem ziM(lo hi:Option Int)(n:Nat):(sliceBounds lo hi none n).1=((HT.sIx n 0 lo:Nat):Int)/\(sliceBounds lo hi none n).2.1=((HT.sIx n n hi:Nat):Int)/\(sliceBounds lo hi none n).2.2=1:=by
 refine⟨?_,?_,rfl⟩
 ·cases lo with
  | none=>simp [sliceBounds,HT.sIx]
  | some i =>
   simp only [sliceBounds,HT.sIx,Option.getD_none,show(1:Int) > 0 by decide,if_true]
   by_cases h:i < 0
   ·simp only [h,if_true]<;>omega
   ·simp only [h,if_false]<;>omega
 ·cases hi with
  | none=>simp [sliceBounds,HT.sIx]
  | some i =>
   simp only [sliceBounds,HT.sIx,Option.getD_none,show(1:Int) > 0 by decide,if_true]
   by_cases h:i < 0
   ·simp only [h,if_true]<;>omega
   ·simp only [h,if_false]<;>omega
theorem zhM(its:List Value)(lo hi:Option Int):slicePick its.toArray lo hi none=((its.drop (HT.sIx its.length 0 lo)).take (HT.sIx its.length its.length hi - HT.sIx its.length 0 lo)).toArray:=by
 obtain⟨h1,h2,h3⟩:=ziM lo hi its.toArray.size
 unfold slicePick
 rw [h1,h2,h3]
 simp only [sliceRange_one,pick_run,List.size_toArray]<;>rfl
def zvA(K:qc):V->Option Int->Option Int->Hp->VK->Prop:=fun x lo hi H Q=>∃ a xs,x=.ref a/\SqL K H a xs/\∀ p,H p=none->Q (.ref p) (upd H p (.lst (zgt xs lo hi)))
theorem zss:SlR X (zvA X.K):=by
 intro pins s σ H x v vl vu lo hi sl Q I rx hs pl pu h
 obtain⟨a,xs,rfl,hx,q⟩:=h
 cases rx
 obtain⟨its,r,ht,hz⟩:=I.list hx
 have hlen:=r.length
 refine⟨"list",_,slot_list_getitem.lookup,ht.isList.typeIs,?_⟩
 refine wpAny_getItem_list_slice ht.isList hs pl pu .none (by simp) ?_ (by rw [List.size_toArray]<;>omega)
 rw [zhM,<-hlen]
 refine⟨.ref s.heap.objs.size,_,I.laid (t':=s.toks) (o:=.lst (zgt xs lo hi)) (fun b ob q=>qd _ q) (qe _) ?_,rfl,q _ (I.hok.fresh (qe _))⟩
 exact⟨qx (zgk xs lo hi) hz,_,0,(r.drop (HT.sIx xs.length 0 lo)).take (HT.sIx xs.length xs.length hi - HT.sIx xs.length 0 lo),qg _ rfl⟩
def zeE:V->Bool
 | .non=>true
 | .bl _=>true
 | .int _=>true
 | .str _=>true
 | _=>false
def eqV:V->V->Bool
 | .non,.non=>true
 | .bl a,.bl b=>a==b
 | .bl a,.int b=>(if a then 1 else 0)==b
 | .int a,.bl b=>a==(if b then 1 else 0)
 | .int a,.int b=>a==b
 | .str a,.str b=>a==b
 | _,_=>false
theorem zvB{A:Around}{s:Shared}{y x:V}{u v:Value}(ry:zU y u)(rx:zU x v)(fy:zeE y=true)(fx:zeE x=true):SeqAt.EqAt A s u v (eqV y x):=by
 cases y with
 | non =>
  cases ry
  cases x with
  | non=>cases rx; exact SeqAt.EqAt.same _
  | bl b=>cases rx; exact SeqAt.EqAt.none_bool b
  | int b=>obtain⟨t,rfl⟩:=rx; exact SeqAt.EqAt.none_int b t
  | str b=>obtain⟨t,rfl⟩:=rx; exact SeqAt.EqAt.none_str b t
  | _=>exact absurd (show false=true from fx) qf
 | bl a =>
  cases ry
  cases x with
  | non=>cases rx; exact SeqAt.EqAt.bool_none a
  | bl b=>cases rx; exact SeqAt.EqAt.bool_bool a b
  | int b=>obtain⟨t,rfl⟩:=rx; exact SeqAt.EqAt.bool_int a b t
  | str b=>obtain⟨t,rfl⟩:=rx; exact SeqAt.EqAt.bool_str a b t
  | _=>exact absurd (show false=true from fx) qf
 | int a =>
  obtain⟨t',rfl⟩:=ry
  cases x with
  | non=>cases rx; exact SeqAt.EqAt.int_none a t'
  | bl b=>cases rx; exact SeqAt.EqAt.int_bool a t' b
  | int b=>obtain⟨t,rfl⟩:=rx; exact SeqAt.EqAt.int_int a t' b t
  | str b=>obtain⟨t,rfl⟩:=rx; exact SeqAt.EqAt.int_str a t' b t
  | _=>exact absurd (show false=true from fx) qf
 | str a =>
  obtain⟨t',rfl⟩:=ry
  cases x with
  | non=>cases rx; exact SeqAt.EqAt.str_none a t'
  | bl b=>cases rx; exact SeqAt.EqAt.str_bool a t' b
  | int b=>obtain⟨t,rfl⟩:=rx; exact SeqAt.EqAt.str_int a t' b t
  | str b=>obtain⟨t,rfl⟩:=rx; exact SeqAt.EqAt.str_str a t' b t
  | _=>exact absurd (show false=true from fx) qf
 | _=>exact absurd (show false=true from fy) qf
def eqU(x:V)(u:Value):Bool:=match u with
 | .none=>eqV .non x
 | .bool b=>eqV (.bl b) x
 | .int i _=>eqV (.int i) x
 | .str z _=>eqV (.str z) x
 | _=>false
theorem zoY{x y:V}{u:Value}(r:zU y u)(f:zeE y=true):eqU x u=eqV y x:=by
 cases y with
 | non=>cases r; rfl
 | bl b=>cases r; rfl
 | int i=>obtain⟨t,rfl⟩:=r; rfl
 | str z=>obtain⟨t,rfl⟩:=r; rfl
 | _=>exact absurd (show false=true from f) qf
theorem zfk{x:V}:∀ {xs:List V} {us:List Value},zN xs us->xs.all zeE=true->us.any (eqU x)=xs.any fun y=>eqV y x
 | _,_,.nil,_=>rfl
 | y::xs,u::us,.cons r t,f=>by
  rw [List.all_cons,Bool.and_eq_true]at f
  rw [List.any_cons,List.any_cons,zoY r f.1,zfk t f.2]
theorem zdW{A:Around}{s:Shared}{x:V}{v:Value}(rx:zU x v)(fx:zeE x=true):∀ {xs:List V} {us:List Value},zN xs us->xs.all zeE=true->∀ u∈us,SeqAt.EqAt A s u v (eqU x u)
 | _,_,.nil,_=>fun u hu=>by cases hu
 | y::xs,u::us,.cons r t,f=>fun u' hu=>by
  rw [List.all_cons,Bool.and_eq_true]at f
  rcases qu.mp hu with rfl | hu
  ·rw [zoY r f.1]; exact zvB r rx f.1 fx
  ·exact zdW rx fx t f.2 u' hu
def inV(x:V)(xs:List V):Bool:=xs.any fun y=>eqV y x
def rIn(K:qc)(neg:Bool):R2:=fun x y H Q=>∃ p xs,y=.ref p/\(SqL K H p xs\/SqT K H p xs)/\zeE x=true/\xs.all zeE=true/\Q (.bl (if neg then !inV x xs else inV x xs)) H
theorem znN:OpR X (compareOp .In) (rIn X.K false):=by
 intro pins s σ H x y v u Q I rx ry h
 obtain⟨p,xs,rfl,hq,fx,fs,q⟩:=h
 cases ry
 rcases hq with hq | hq
 ·obtain⟨its,r,pl,hz⟩:=I.list hq
  refine SeqAt.in_listAt (eqU x) pl.isList (fun w hw=>zdW rx fx r fs w (by simpa using hw)) ⟨.bl _,H,I,rfl,?_⟩
  rw [show its.toArray.any (eqU x)=its.any (eqU x) by simp,zfk r fs]
  exact q
 ·obtain⟨its,r,pl,hz⟩:=I.tuple hq
  refine SeqAt.in_tupleAt (eqU x) pl (fun w hw=>zdW rx fx r fs w (by simpa using hw)) ⟨.bl _,H,I,rfl,?_⟩
  rw [show its.toArray.any (eqU x)=its.any (eqU x) by simp,zfk r fs]
  exact q
theorem ziN:OpR X (compareOp .NotIn) (rIn X.K true):=by
 intro pins s σ H x y v u Q I rx ry h
 obtain⟨p,xs,rfl,hq,fx,fs,q⟩:=h
 cases ry
 rcases hq with hq | hq
 ·obtain⟨its,r,pl,hz⟩:=I.list hq
  refine SeqAt.notIn_listAt (eqU x) pl.isList (fun w hw=>zdW rx fx r fs w (by simpa using hw)) ⟨.bl _,H,I,rfl,?_⟩
  rw [show its.toArray.any (eqU x)=its.any (eqU x) by simp,zfk r fs]
  exact q
 ·obtain⟨its,r,pl,hz⟩:=I.tuple hq
  refine SeqAt.notIn_tupleAt (eqU x) pl (fun w hw=>zdW rx fx r fs w (by simpa using hw)) ⟨.bl _,H,I,rfl,?_⟩
  rw [show its.toArray.any (eqU x)=its.any (eqU x) by simp,zfk r fs]
  exact q
theorem ziO:zbU X (.builtin "len") (fun xs H Q=>∃ p ys,xs=[.ref p]/\(SqL X.K H p ys\/SqT X.K H p ys)/\Q (.int ys.length) H):=by
 intro pins s σ H xs us Q I r h
 obtain⟨p,ys,rfl,hq,q⟩:=h
 obtain⟨u,rfl,rx⟩:=zdV r
 cases rx
 have hn:=zfX
 rcases hq with hq | hq
 ·obtain⟨its,r',pl,hz⟩:=I.list hq
  have hlen:=r'.length
  exact Calls.call_len_list pl.isList (by simp only [List.size_toArray]<;>omega) ⟨.int ys.length,H,I.tok _,⟨s.toks+1,by rw [List.size_toArray,hlen]⟩,q⟩
 ·obtain⟨its,r',pl,hz⟩:=I.tuple hq
  have hlen:=r'.length
  exact len_tuple pl (by simp only [List.size_toArray]<;>omega) ⟨.int ys.length,H,I.tok _,⟨s.toks+1,by rw [List.size_toArray,hlen]⟩,q⟩
theorem zhN:zbU X (.type "tuple") (fun xs H Q=>∃ p ys,xs=[.ref p]/\((SqL X.K H p ys/\∀ l,H l=none->Q (.ref l) (upd H l (.tup ys)))\/(SqT X.K H p ys/\Q (.ref p) H))):=by
 intro pins s σ H xs us Q I r h
 obtain⟨p,ys,rfl,h⟩:=h
 obtain⟨u,rfl,rx⟩:=zdV r
 cases rx
 rcases h with ⟨hq,q⟩ | ⟨hq,q⟩
 ·obtain⟨its,r',pl,hz⟩:=I.list hq
  have hlen:=r'.length
  refine call_tuple_list pl.isList (fun h' kp=>?_) (by simp only [List.size_toArray]<;>omega)
  have I1:Inv X pins σ H { s with heap:=h' }:=I.kept (t':=s.toks) kp
  have I2:Inv X pins σ (upd H h'.objs.size (.tup ys)) { s with heap:=h'.push { cls:=.type "tuple",data:=.seq its.toArray } } :=
   I1.laid (t':=s.toks) (fun b o e=>qd _ e) (qe _) (show zaj X.prog X.w X.K _ _ _ (.tup ys) from⟨hz,its,r',IsTup.new _ _⟩)
  exact⟨.ref h'.objs.size,_,I2,rfl,q _ (I1.hok.fresh (qe _))⟩
 ·obtain⟨its,r',pl,hz⟩:=I.tuple hq
  exact call_tuple_same pl ⟨.ref p,H,I,rfl,q⟩
def tyV(K:qc)(T:String)(x:V)(H:Hp):Prop:=match x with
 | .str _=>T = "str"
 | .int _=>T = "int"
 | .ref p=>(T = "list"/\∃ xs,SqL K H p xs)\/(T = "tuple"/\∃ o,K.lookup p=some o/\o.cls=.type "tuple"/\o.dict=none) \/
   (T = "dict"/\((∃ kvs,H p=some (.dK kvs))\/∃ kvs,H p=some (.dT kvs)))\/(T = "set"/\∃ S n,H p=some (.set S n))
 | _=>False
theorem zoZ{pins:List (Addr×Obj)}{σ:St}{H:Hp}{s:Shared}{T:String}{x:V}{v:Value}(I:Inv X pins σ H s)(r:zU x v)(ty:tyV X.K T x H) :
  s.TypeIs v T/\∀ a,v=.ref a->∃ ob,s.heap.get? a=some ob/\ob.dict=none:=by
 cases x with
 | str z =>
  obtain⟨t,rfl⟩:=r
  cases(show T = "str" from ty)
  exact⟨typeIs_str s z t,fun _ e=>nomatch e⟩
 | int i =>
  obtain⟨t,rfl⟩:=r
  cases(show T = "int" from ty)
  exact⟨typeIs_int s i t,fun _ e=>nomatch e⟩
 | ref p =>
  cases r
  rcases ty with ⟨rfl,xs,hq⟩ | ⟨rfl,o,hk,hc,hd⟩ | ⟨rfl,hk⟩ | ⟨rfl,S,n,hk⟩
  ·obtain⟨its,_,pl,_⟩:=I.list hq
   refine⟨pl.isList.typeIs,fun a e=>?_⟩
   cases e
   obtain⟨o,n,e,c,hd,_⟩:=pl
   exact⟨o,e,hd⟩
  ·refine⟨⟨o,I.kIn p o hk,hc⟩,fun a e=>?_⟩
   cases e
   exact⟨o,I.kIn _ o hk,hd⟩
  ·have z:∃ o,s.heap.get? p=some o/\o.ExactDict:=by
    rcases hk with ⟨kvs,hk⟩ | ⟨kvs,hk⟩
    ·obtain⟨_,_,_,_,o,_,_,e,ex,_⟩:=I.hok p _ hk
     exact⟨o,e,ex⟩
    ·obtain⟨_,_,_,_,o,_,_,e,ex,_⟩:=I.hok p _ hk
     exact⟨o,e,ex⟩
   obtain⟨o,e,ex⟩:=z
   refine⟨⟨o,e,ex.1⟩,fun a e2=>?_⟩
   cases e2
   exact⟨o,e,ex.2.1⟩
  ·obtain⟨o,_,_,_,e,ex,_⟩:=I.hok p _ hk
   refine⟨⟨o,e,ex.1⟩,fun a e2=>?_⟩
   cases e2
   exact⟨o,e,ex.2.1⟩
 | _=>exact False.elim ty
def zvC(K:qc)(T:String)(r:V->List V->Hp->VK->Prop)(to:TE):TE:=fun σ H Q=>to σ H fun x H1=>tyV K T x H1/\r x [] H1 Q
def tBM(K:qc)(T:String)(r:V->List V->Hp->VK->Prop)(to:TE)(t:TA):TE:=fun σ H Q=>to σ H fun x H1=>tyV K T x H1/\t σ H1 fun xs H2=>r x xs H2 Q
variable {o e:Expr} {es:List Expr} {to:TE} {t:TA} {name:Str} {apos cpos:Pos} {T id:String} {r:V->List V->Hp->VK->Prop}
theorem zvD(pa:PlainAttrs T)(slot:Slot T name id)(hty:typeOf (.builtin id)=pure (.type "method_descriptor"))(hm:MtR X id r)(ho:PE X o to)
  (hbase:attributeBase o name X.env (eval o X.env)=eval o X.env:=by rfl) (hline:(apos.endLine==cpos.line)=true:=by rfl):PE X (.Call (.Attribute o name apos) [] [] cpos) (zvC X.K T r to):=by
 intro pins s σ H Q I h
 refine wpAny_Call_method0_late hbase hline (thn (ho pins s σ H _ I h) fun v s1 ⟨x,H1,I1,r1,ty,q1⟩=>?_)
 obtain⟨h1,h2⟩:=zoZ I1 r1 ty
 exact⟨T,id,pa,slot,hty,h1,h2,Calls.callWith_builtin rfl (PySem.evalArgs_none (hm pins s1 σ H1 x [] v [] Q I1 r1 .nil q1))⟩
theorem zxd(pa:PlainAttrs T)(slot:Slot T name id)(hty:typeOf (.builtin id)=pure (.type "method_descriptor"))(hm:MtR X id r)(ho:PE X o to)(ha:PA X (e::es) t)
  (hbase:attributeBase o name X.env (eval o X.env)=eval o X.env:=by rfl)
  (hfew:((backTo cpos (starEach (e::es) X.env)).all (fun x=>!x.1) && (backToKw cpos (keywordEach [] X.env)).all (fun x=>x.1.isSome)
   && decide ((e::es).length+([]:List Keyword).length+(if([]:List Keyword).isEmpty then 0 else 1) < 30))=true:=by rfl)
  (hline:(apos.endLine==cpos.line)=true:=by rfl) (hs:starEach (e::es) X.env=(false,eval e X.env)::starEach es X.env:=by rfl) (hplain:(backTo cpos (starEach es X.env)).any (·.1)=false:=by rfl) :
  PE X (.Call (.Attribute o name apos) (e::es) [] cpos) (tBM X.K T r to t):=by
 intro pins s σ H Q I h
 refine wpAny_Call_method_late hbase hfew hline rfl (thn (ho pins s σ H _ I h) fun v s1 ⟨x,H1,I1,r1,ty,q1⟩=>?_)
 obtain⟨h1,h2⟩:=zoZ I1 r1 ty
 refine⟨T,id,pa,slot,hty,h1,h2,?_⟩
 have hA:=ha cpos pins s1 σ H1 _ I1 q1
 rw [hs]at hA ⊢
 refine Calls.callWith_builtin (by show(false || (backTo cpos (starEach es X.env)).any (·.1))=false; rw [hplain]<;>rfl) (Calls.evalArgs_plain ?_)
 exact thn hA fun us s2 ⟨vs,H2,I2,r2,q2⟩=>hm pins s2 σ H2 x vs v us Q I2 r1 r2 q2
end
def MtM(X:Cx)(id:String)(r:V->List V->Hp->VK->Prop):Prop :=
 ∀ (pins:List (Addr×Obj)) (s:Shared) (σ:St) (H:Hp) (x:V) (xs:List V) (v:Value) (us:List Value) (Q:VK),Inv X pins σ H s->zU x v->zN xs us->r x xs H Q ->
  wpAny (model X.prog X.w) X.A (call (.builtin id) (v::us)) (EP X pins σ Q) X.xe s
theorem zN.one:∀ {x:V} {us:List Value},zN [x] us->∃ u,us=[u]/\zU x u
 | _,_,.cons r .nil=>⟨_,rfl,r⟩
theorem zN.two:∀ {x y:V} {us:List Value},zN [x,y] us->∃ u v,us=[u,v]/\zU x u/\zU y v
 | _,_,_,.cons r (.cons q .nil)=>⟨_,_,rfl,r,q⟩
theorem zN.reverse{xs:List V}{us:List Value}(h:zN xs us):zN xs.reverse us.reverse:=by
 induction h with
 | nil=>exact .nil
 | cons r t ih=>rw [List.reverse_cons,List.reverse_cons]; exact zN.append ih (.cons r .nil)
theorem zN.rep{xs:List V}{us:List Value}(h:zN xs us):∀ k:Nat,zN (List.replicate k xs).flatten (List.replicate k us).flatten
 | 0=>.nil
 | k+1=>by
  rw [List.replicate_succ,List.replicate_succ,List.flatten_cons,List.flatten_cons]
  exact zN.append h (zN.rep h k)
theorem zid(its:List Value):∀ (k:Nat) (acc:List Value),
  List.foldl (fun x1 x2=>x1++x2) acc.toArray (List.replicate k its.toArray)=(acc++(List.replicate k its).flatten).toArray
 | 0,acc=>by simp
 | k+1,acc=>by
  have e:acc.toArray++its.toArray=(acc++its).toArray:=by simp
  have e2:(acc++its)++(List.replicate k its).flatten=acc++(List.replicate (k+1) its).flatten:=by
   rw [List.replicate_succ,List.flatten_cons,List.append_assoc]
  rw [<-e2,<-zid its k (acc++its),<-e,List.replicate_succ,List.foldl_cons]
section
variable {X:Cx} {pins:List (Addr×Obj)} {σ:St} {H:Hp} {s:Shared} {l b:Addr} {xs ys zs:List V}
theorem Inv.lset{its its':List Value}{n:Nat}{f:Array Value->Array Value}{t':Nat}(I:Inv X pins σ H s)(hH:H l=some (.lst xs))
  (e:s.heap.get? l=some { cls:=.type "list",data:=.seq its.toArray n }) (hf:f its.toArray=its'.toArray) (hv:zN ys its') (hz:ys.length<=sizeLine) :
  Inv X pins σ (upd H l (.lst ys)) { s with heap:=s.heap.update l (Obj.mapSeq f),toks:=t' }:=by
 have q:=PySem.IsL.update e f
 rw [hf]at q
 refine I.write (x:=l) (e:=l) (by rw [hH]; exact trivial) (.inl rfl) (fun b' u hb hu=>(Heap.get?_update_other s.heap (Obj.mapSeq f) (Ne.symm hb)).trans hu) ⟨_,q⟩ ?_
 exact⟨hz,its',_,hv,q⟩
theorem Inv.lnew{its:List Value}{t':Nat}(I:Inv X pins σ H s)(hv:zN ys its)(hz:ys.length<=sizeLine) :
  Inv X pins σ (upd H s.heap.objs.size (.lst ys)) { s with heap:=s.heap.push { cls:=.type "list",data:=.seq its.toArray },toks:=t' } :=
 I.laid (fun _ _ q=>qd _ q) (qe _) ⟨hz,its,0,hv,qg _ rfl⟩
theorem Inv.fresh(I:Inv X pins σ H s):H s.heap.objs.size=none:=I.hok.fresh (qe _)
theorem Inv.lstM(I:Inv X pins σ H s)(hH:H l=some (.lst xs)):xs.length<=sizeLine/\∃ (its:List Value) (n:Nat),zN xs its/\xs.length=its.length/\s.heap.get? l=some { cls:=.type "list",data:=.seq its.toArray n }:=by
 obtain⟨z,its,n,r,e⟩:=I.hok l _ hH
 exact⟨z,its,n,r,r.length,e⟩
theorem zo0{n:Nat}(h:n<=sizeLine):Builtin.List.listTooLong n=false:=by
 unfold Builtin.List.listTooLong
 exact decide_eq_false (by omega)
end
section
variable {X:Cx}
def zmg:V->List V->Hp->VK->Prop:=fun x vs H Q=>∃ l xs y,x=.ref l/\vs=[y]/\H l=some (.lst xs)/\xs.length < sizeLine/\Q .non (upd H l (.lst (xs++[y])))
theorem zdv:MtM X "list.append" zmg:=by
 intro pins s σ H x vs v us Q I rx rv h
 obtain⟨l,xs,y,rfl,rfl,hH,hz,q⟩:=h
 cases rx
 obtain⟨u,rfl,ru⟩:=rv.one
 obtain⟨z,its,n,r,hl,e⟩:=I.lstM hH
 refine call_meets F.slot_list_append ⟨_,e,rfl⟩ F.entry_list_append (F.args_list_append_2 _ _) (PySem.list_append l its.toArray n u (by rw [List.size_toArray]; omega)) ⟨e,?_⟩
 refine⟨.non,_,I.lset (its':=its++[u]) hH e (by simp) (r.append (.cons ru .nil)) ?_,rfl,q⟩
 rw [qr,List.length_singleton]
 omega
def zst:V->List V->Hp->VK->Prop:=fun x vs H Q=>∃ l b xs zs,x=.ref l/\vs=[.ref b]/\H l=some (.lst xs)/\H b=some (.lst zs)/\xs.length+zs.length<=sizeLine/\Q .non (upd H l (.lst (xs++zs)))
theorem zw0:MtM X "list.extend" zst:=by
 intro pins s σ H x vs v us Q I rx rv h
 obtain⟨l,b,xs,zs,rfl,rfl,hH,hB,hz,q⟩:=h
 cases rx
 obtain⟨u,rfl,ru⟩:=rv.one
 cases ru
 obtain⟨z,its,n,r,hl,e⟩:=I.lstM hH
 obtain⟨z2,its2,n2,r2,hl2,e2⟩:=I.lstM hB
 have hsz:its.toArray.size+its2.toArray.size<=sizeLine:=by rw [List.size_toArray,List.size_toArray]; omega
 have hlong:¬(!its.toArray.isEmpty && Builtin.List.listTooLong (its.toArray.size+its2.toArray.size))=true:=by
  rw [zo0 hsz,Bool.and_false]
  exact qf
 refine call_meets F.slot_list_extend ⟨_,e,rfl⟩ F.entry_list_extend (F.args_list_extend_2 _ _)
  (AutoSeq1.list_extend_list_list_0 l its.toArray n b its2.toArray n2 hlong (by rw [List.size_toArray]; omega) (by omega)) ⟨e,e2,?_⟩
 refine⟨.non,_,I.lset (its':=its++its2) hH e (by simp) (r.append r2) ?_,rfl,q⟩
 rw [qr]
 omega
def zxe:R2:=fun x y H Q=>∃ l b xs zs,x=.ref l/\y=.ref b/\H l=some (.lst xs)/\H b=some (.lst zs)/\xs.length+zs.length<=sizeLine/\∀ p,H p=none->Q (.ref p) (upd H p (.lst (xs++zs)))
theorem zvE:OpR X (binaryOp .Add) zxe:=by
 intro pins s σ H x y v u Q I rx ry h
 obtain⟨l,b,xs,zs,rfl,rfl,hH,hB,hz,q⟩:=h
 cases rx
 cases ry
 obtain⟨z,its,n,r,hl,e⟩:=I.lstM hH
 obtain⟨z2,its2,n2,r2,hl2,e2⟩:=I.lstM hB
 refine PySem.P.add_list e e2 ?_ (by rw [List.size_toArray,List.size_toArray]; omega)
 have ea:its.toArray++its2.toArray=(its++its2).toArray:=by simp
 rw [ea]
 exact⟨.ref _,_,I.lnew (t':=s.toks) (r.append r2) (by rw [qr]; omega),rfl,q _ I.fresh⟩
theorem zmh{α:Type}(xs:List α)(k:Nat):(List.replicate k xs).flatten.length=k * xs.length:=by
 induction k with
 | zero=>simp
 | succ k ih=>rw [List.replicate_succ,List.flatten_cons,qr,ih,Nat.succ_mul,Nat.add_comm]
end
section
variable {prog:Program} {w:World} {A:Around} {E:Value->Shared->Prop} {s:Shared}
end
section
variable {X:Cx}
end
section
variable {κ:Type} [DecidableEq κ]
def zer(kvs:List (κ×V))(k:κ):Option V:=(kvs.find? fun kv=>decide (kv.1=k)).map (·.2)
def zc4(kvs:List (κ×V))(k:κ)(v:V):List (κ×V) :=
 if(kvs.any fun kv=>decide (kv.1=k))=true then kvs.map (fun kv=>if kv.1=k then(kv.1,v)else kv)else kvs++[(k,v)]
theorem zg1{p:κ×V}{r:List (κ×V)}{k:κ}(e:p.1=k):zer (p::r) k=some p.2:=by simp [zer,List.find?_cons,e]
theorem zg2{p:κ×V}{r:List (κ×V)}{k:κ}(e:¬p.1=k):zer (p::r) k=zer r k:=by simp [zer,List.find?_cons,e]
theorem zjH(k:κ):∀ kvs:List (κ×V),(kvs.any fun kv=>decide (kv.1=k))=(zer kvs k).isSome
 | []=>rfl
 | p::r=>by
  rw [List.any_cons]
  by_cases e:p.1=k
  ·simp only [zg1 e,decide_eq_true e,Bool.true_or,Option.isSome_some]
  ·rw [zg2 e,decide_eq_false e,Bool.false_or]; exact zjH k r
theorem zdX(kvs:List (κ×V))(k:κ)(v:V):(zc4 kvs k v).length<=kvs.length+1:=by
 unfold zc4
 split
 ·rw [List.length_map]; omega
 ·rw [qr,qt,List.length_nil]; omega
theorem zeK.isSome_eq{o:Option V}{u:Option Value}(r:zeK o u):o.isSome=u.isSome:=by
 cases o with
 | none=>cases u with
  | none=>rfl
  | some _=>exact(show False from r).elim
 | some _=>cases u with
  | none=>exact(show False from r).elim
  | some _=>rfl
theorem zeK.getD{o:Option V}{u:Option Value}{d:V}{d':Value}(r:zeK o u)(rd:zU d d'):zU (o.getD d) (u.getD d'):=by
 cases o with
 | none=>cases u with
  | none=>exact rd
  | some _=>exact(show False from r).elim
 | some _=>cases u with
  | none=>exact(show False from r).elim
  | some _=>exact r
theorem KV.val{kvs:List (κ×V)}{vs:List (κ×Value)}(r:KV kvs vs)(k:κ):zeK (zer kvs k) (valueAt vs k):=by
 unfold KV at r
 induction r with
 | nil=>exact True.intro
 | @cons p q ps qs h t ih =>
  obtain⟨h1,h2⟩:=h
  by_cases e:p.1=k
  ·have e':q.1=k:=h1.symm.trans e
   have b:valueAt (q::qs) k=some q.2:=by simp [valueAt,List.find?_cons,e']
   rw [zg1 e,b]; exact h2
  ·have e':¬q.1=k:=fun z=>e (h1.trans z)
   have b:valueAt (q::qs) k=valueAt qs k:=by simp [valueAt,List.find?_cons,e']
   rw [zg2 e,b]; exact ih
theorem KV.any{kvs:List (κ×V)}{vs:List (κ×Value)}(r:KV kvs vs)(k:κ):(kvs.any fun kv=>decide (kv.1=k))=vs.any fun kv=>decide (kv.1=k):=by
 unfold KV at r
 induction r with
 | nil=>rfl
 | cons h t ih=>rw [List.any_cons,List.any_cons,ih,h.1]
theorem KV.repl{kvs:List (κ×V)}{vs:List (κ×Value)}(r:KV kvs vs)(k:κ){y:V}{u:Value}(ry:zU y u) :
  KV (kvs.map fun kv=>if kv.1=k then(kv.1,y)else kv) (vs.map fun kv=>if kv.1=k then(kv.1,u)else kv):=by
 unfold KV at r ⊢
 induction r with
 | nil=>exact .nil
 | @cons p q ps qs h t ih =>
  rw [List.map_cons,List.map_cons]
  refine .cons ?_ ih
  obtain⟨h1,h2⟩:=h
  by_cases e:p.1=k
  ·rw [if_pos e,if_pos (h1.symm.trans e)]; exact⟨h1,ry⟩
  ·rw [if_neg e,if_neg (fun z=>e (h1.trans z))]; exact⟨h1,h2⟩
theorem KV.put{kvs:List (κ×V)}{vs:List (κ×Value)}(r:KV kvs vs)(k:κ){y:V}{u:Value}(ry:zU y u):KV (zc4 kvs k y) (stored vs k u):=by
 unfold zc4 stored
 rw [r.any k]
 by_cases e:(vs.any fun kv=>decide (kv.1=k))=true
 ·rw [if_pos e,if_pos e]; exact r.repl k ry
 ·rw [if_neg e,if_neg e]; exact Paired.snoc r ⟨rfl,ry⟩
theorem KV.length{kvs:List (κ×V)}{vs:List (κ×Value)}(r:KV kvs vs):kvs.length=vs.length:=Paired.length r
end
theorem zmi{P:Program}{w:World}{k:Key}{u:Value}(r:zU (kV k) u):(zai P w).is k u=true:=by
 cases k with
 | inl i=>obtain⟨t,e⟩:=(show ∃ t,u=Value.int i t from r); subst e; exact zjz P w i t
 | inr x=>obtain⟨t,e⟩:=(show ∃ t,u=Value.str x t from r); subst e; exact zjA P w x t
theorem zfZ{P:Program}{w:World}:∀ {ks:List Key} {us:List Value},zN (ks.map kV) us->ItemsAre (zai P w) ks us
 | [],_,r=>by rw [List.map_nil]at r; cases r; exact .nil
 | k::ks,_,r=>by
  rw [List.map_cons]at r
  cases r with
  | cons h t=>exact .cons (zmi h) (zfZ t)
abbrev KT(K:qc)(H:Hp):List (List Key×V)->List (List Key×Addr×Value)->Prop:=Paired fun p q=>p.1=q.1/\TpK K H q.2.1 (p.1.map kV)/\zU p.2 q.2.2
theorem KT.val{K:qc}{H:Hp}{kvs:List (List Key×V)}{xs:List (List Key×Addr×Value)}(r:KT K H kvs xs)(k:List Key):zeK (zer kvs k) ((atKey xs k).map (·.2)):=by
 induction r with
 | nil=>exact True.intro
 | @cons p q ps qs h t ih =>
  obtain⟨h1,_,h2⟩:=h
  by_cases e:p.1=k
  ·have e':q.1=k:=h1.symm.trans e
   have b:atKey (q::qs) k=some q.2:=by simp [atKey,List.find?_cons,e']
   rw [zg1 e,b]; exact h2
  ·have e':¬q.1=k:=fun z=>e (h1.trans z)
   have b:atKey (q::qs) k=atKey qs k:=by simp [atKey,List.find?_cons,e']
   rw [zg2 e,b]; exact ih
theorem KT.repl{K:qc}{H:Hp}{kvs:List (List Key×V)}{xs:List (List Key×Addr×Value)}(r:KT K H kvs xs)(k:List Key){y:V}{u:Value}(ry:zU y u) :
  KT K H (kvs.map fun kv=>if kv.1=k then(kv.1,y)else kv) (xs.map (putAt k u)):=by
 induction r with
 | nil=>exact .nil
 | @cons p q ps qs h t ih =>
  rw [List.map_cons,List.map_cons]
  refine .cons ?_ ih
  obtain⟨h1,h2,h3⟩:=h
  unfold putAt
  by_cases e:p.1=k
  ·rw [if_pos e,if_pos (h1.symm.trans e)]; exact⟨h1,h2,ry⟩
  ·rw [if_neg e,if_neg (fun z=>e (h1.trans z))]; exact⟨h1,h2,h3⟩
theorem KT.put{K:qc}{H:Hp}{kvs:List (List Key×V)}{xs:List (List Key×Addr×Value)}(r:KT K H kvs xs)(k:List Key){b:Addr}{y:V}{u:Value}(hb:TpK K H b (k.map kV))(ry:zU y u) :
  KT K H (zc4 kvs k y) (storedH xs k b u):=by
 have e:(kvs.any fun kv=>decide (kv.1=k))=(atKey xs k).isSome:=by
  rw [zjH,(r.val k).isSome_eq,Option.isSome_map]
 unfold zc4 storedH
 rw [e]
 by_cases q:(atKey xs k).isSome=true
 ·rw [if_pos q,if_pos q]; exact r.repl k ry
 ·rw [if_neg q,if_neg q]; exact Paired.snoc r ⟨rfl,hb,ry⟩
theorem KT.keeps{K:qc}{H H':Hp}{kvs:List (List Key×V)}{xs:List (List Key×Addr×Value)}(r:KT K H kvs xs)(ht:∀ b ys,H b=some (.tup ys)->H' b=some (.tup ys)):KT K H' kvs xs :=
 Paired.mapP r fun _ _ z=>⟨z.1,z.2.1.keeps ht,z.2.2⟩
section
variable {P:Program} {w:World} {K:qc} {H:Hp} {h:Heap} {a:Addr}
theorem zo1{u:HO}(ok:HOk P w K H h)(e:Rd H a u):zaj P w K H h a u:=e.ok ok
theorem zjI{kvs:List (Key×V)}(ok:HOk P w K H h)(e:Rd H a (.dK kvs)):kvs.length<=sizeLine/\(a==sysModules)=false/\∃ vs,KV kvs vs/\h.DictOf (zai P w) a vs :=
 show zaj P w K H h a (.dK kvs) from zo1 ok e
theorem zxf{kvs:List (Key×V)}(ok:HOk P w K H h)(e:H a=some (.dK kvs)):kvs.length<=sizeLine/\(a==sysModules)=false/\∃ vs,KV kvs vs/\h.DictOf (zai P w) a vs:=zjI ok (.inl e)
theorem zeM{ks:List Key}(kin:K.In h)(ok:HOk P w K H h)(e:TpK K H a (ks.map kV)):(tupleKind (zai P w)).is h ks a:=by
 rcases e with e | ⟨o,its,n,hk,hc,hs,_,r⟩
 case inr=>exact⟨o,its,n,kin a o hk,hc,hs,by simpa using zfZ r⟩
 obtain⟨_,its,r,o,h1,h2,n,h3⟩:=(show zaj P w K H h a (.tup (ks.map kV)) from ok a _ e)
 exact⟨o,its.toArray,n,h1,h2,h3,by simpa using zfZ r⟩
theorem zie{kvs:List (List Key×V)}(kin:K.In h)(ok:HOk P w K H h)(e:Rd H a (.dT kvs)):kvs.length<=sizeLine/\(a==sysModules)=false /\
  ∃ xs,KT K H kvs xs/\h.DictOfH (tupleKind (zai P w)) a xs:=by
 obtain⟨z,y,xs,r,o,es,ep,h1,h2,h3,h4,h5⟩:=(show zaj P w K H h a (.dT kvs) from zo1 ok e)
 refine⟨z,y,xs,r,o,es,ep,h1,h2,h3,h4,fun x hx=>?_,h5⟩
 have all:∀ {l:List (List Key×V)} {m:List (List Key×Addr×Value)},KT K H l m->∀ x∈m,(tupleKind (zai P w)).is h x.1 x.2.1:=by
  intro l m q
  induction q with
  | nil=>intro x hx; exact nomatch hx
  | @cons p q ps qs hq t ih =>
   intro x hx
   rcases qu.mp hx with e | hx
   ·subst e
    exact zeM kin ok (by rw [<-hq.1]; exact hq.2.1)
   ·exact ih x hx
 exact all r x hx
theorem zo2{kvs:List (List Key×V)}(kin:K.In h)(ok:HOk P w K H h)(e:H a=some (.dT kvs)):kvs.length<=sizeLine/\(a==sysModules)=false /\
  ∃ xs,KT K H kvs xs/\h.DictOfH (tupleKind (zai P w)) a xs:=zie kin ok (.inl e)
end
def zla(K:qc)(H:Hp)(a:Addr)(y:V)(r:Option V):Prop :=
 (∃ kvs k,Rd H a (.dK kvs)/\y=kV k/\r=zer kvs k)\/∃ kvs k b,Rd H a (.dT kvs)/\y=.ref b/\TpK K H b (k.map kV)/\r=zer kvs k
def zjJ(K:qc)(H:Hp)(a:Addr)(y v:V)(H':Hp):Prop :=
 (∃ kvs k,H a=some (.dK kvs)/\y=kV k/\kvs.length < sizeLine/\H'=upd H a (.dK (zc4 kvs k v))) \/
 ∃ kvs k b,H a=some (.dT kvs)/\y=.ref b/\TpK K H b (k.map kV)/\kvs.length < sizeLine/\H'=upd H a (.dT (zc4 kvs k v))
theorem zjJ.k{K:qc}{H:Hp}{a:Addr}{kvs:List (Key×V)}{k:Key}{v:V}(e:H a=some (.dK kvs))(hl:kvs.length < sizeLine):zjJ K H a (kV k) v (upd H a (.dK (zc4 kvs k v))):=.inl ⟨kvs,k,e,rfl,hl,rfl⟩
theorem zjJ.t{K:qc}{H:Hp}{a b:Addr}{kvs:List (List Key×V)}{k:List Key}{v:V}(e:H a=some (.dT kvs))(eb:TpK K H b (k.map kV))(hl:kvs.length < sizeLine) :
  zjJ K H a (.ref b) v (upd H a (.dT (zc4 kvs k v))):=.inr ⟨kvs,k,b,e,rfl,eb,hl,rfl⟩
section
variable {X:Cx} {pins:List (Addr×Obj)} {σ:St} {H:Hp} {s:Shared} {a:Addr} {y v:V} {u r:Value} {o:Option V} {A:Around} {E:Value->Shared->Prop}
theorem Inv.big(I:Inv X pins σ H s):sysModules < s.heap.objs.size:=by
 have h:mainGlobals < s.heap.objs.size:=(I.mod.glob.keeps I.bk).lt
 exact Nat.lt_trans (by decide) h
theorem znO{Q:Value->Shared->Prop}(hu:A.units+1 < cLine)(I:Inv X pins σ H s)(g:zla X.K H a y (some v))(ry:zU y u)(h:∀ w' s',Inv X pins σ H s'->zU v w'->Q w' s') :
  wpAny (model X.prog X.w) A (getItem (.ref a) u) Q E s:=by
 rcases g with ⟨kvs,k,e,ey,l⟩ | ⟨kvs,k,b,e,ey,eb,l⟩
 ·subst ey
  obtain⟨z,hd,vs,rel,dd⟩:=zjI I.hok e
  obtain⟨w',hw,rw'⟩:=zeK.some_of (v:=v) (o:=valueAt vs k) (by rw [l]; exact rel.val k)
  exact wpAny_getItem_of (zmi ry) dd.mapOf hw (h w' _ (I.tok _) rw')
 ·subst ey
  cases(show u=Value.ref b from ry)
  obtain⟨z,hd,xs,rel,dd⟩:=zie I.kIn I.hok e
  obtain⟨w',hw,rw'⟩:=zeK.some_of (v:=v) (o:=(atKey xs k).map (·.2)) (by rw [l]; exact rel.val k)
  obtain⟨p,hp,hp2⟩:=qq.mp hw
  refine wpAny_getItem_heap (tupleKind_room_in1 hu) (zeM I.kIn I.hok eb) dd hp ?_
  rw [hp2]
  exact h w' _ (I.tok _) rw'
theorem zgB{h':Heap}{t':Nat}{ob:HO}(I:Inv X pins σ H s)(mu:Mut (H a))(hs:Heap.SameBut a s.heap h')(he:∃ q,h'.get? a=some q)(new:zaj X.prog X.w X.K (upd H a ob) h' a ob) :
  Inv X pins σ (upd H a ob) { s with heap:=h',toks:=t' } :=
 I.write (x:=a) (e:=a) mu (.inl rfl) (fun b q hb z=>(hs.2 b hb).trans z) he new
theorem zvF{P:Program}{w:World}{K:qc}{H':Hp}{h':Heap}{kvs:List (Key×V)}{vs:List (Key×Value)}(z:kvs.length<=sizeLine)(hd:(a==sysModules)=false)(rel:KV kvs vs)(dd:h'.DictOf (zai P w) a vs) :
  zaj P w K H' h' a (.dK kvs):=⟨z,hd,vs,rel,dd⟩
theorem znP{H':Hp}{Q:Unit->Shared->Prop}(hu:A.units+1 < cLine)(I:Inv X pins σ H s)(g:zjJ X.K H a y v H')(ry:zU y u)(rv:zU v r)(h:∀ s',Inv X pins σ H' s'->Q () s') :
  wpAny (model X.prog X.w) A (setItem (.ref a) u r) Q E s:=by
 rcases g with ⟨kvs,k,e,ey,l,eH⟩ | ⟨kvs,k,b,e,ey,eb,l,eH⟩
 ·subst ey eH
  obtain⟨z,hd,vs,rel,dd⟩:=zxf I.hok e
  have hz:vs.length<=sizeLine:=by rw [<-rel.length]; exact z
  have hl:(zc4 kvs k v).length<=sizeLine:=by have:=zdX kvs k v; omega
  refine wpAny_setItem_pairs (hsz:=hz) (zmi ry) dd fun h' dd' hs=>h _ ?_
  have he:∃ q,h'.get? a=some q:=let ⟨q,_,_,hq,_⟩:=dd'; ⟨q,hq⟩
  exact zgB I (by rw [e]; exact True.intro) hs he (zvF hl hd (rel.put k rv) dd')
 ·subst ey eH
  cases(show u=Value.ref b from ry)
  obtain⟨z,hd,xs,rel,dd⟩:=zo2 I.kIn I.hok e
  have hz:xs.length<=sizeLine:=by rw [<-Paired.length rel]; exact z
  have hl:(zc4 kvs k v).length<=sizeLine:=by have:=zdX kvs k v; omega
  refine wpAny_setItem_heap (hsz:=hz) (tupleKind_room_in1 hu) (zeM I.kIn I.hok eb) dd fun h' dd' hs=>h _ ?_
  obtain⟨q,es,ep,hq,h2,h3,h4,_,h5⟩:=dd'
  refine zgB I (by rw [e]; exact True.intro) hs ⟨q,hq⟩ ⟨hl,hd,_,(rel.put k eb rv).keeps fun c ys ec=>?_,q,es,ep,hq,h2,h3,h4,h5⟩
  rw [zA (zfe ec e (fun z=>nomatch z))]
  exact ec
end
section
variable {X:Cx} {pins:List (Addr×Obj)} {σ:St} {H:Hp} {s:Shared} {a:Addr} {kvs:List (Key×V)} {k:Key} {u:Value} {A:Around} {E:Value->Shared->Prop}
end
def zvG(i:Expr):Prop:=∀ ov iv,subscripted i false ov iv=operate [ov,iv] (getItem ov iv)
theorem zsu{prog:Program}{w:World}{A:Around}{E:Value->Shared->Prop}{s:Shared}{env:Env}{value slice:Expr}{pos:Pos}{T id:String}{Q:Value->Shared->Prop}
  (hl:typeLookup (.type T) "__getitem__"=pure (some (.builtin id))) (hs:zvG slice)
  (h:wpAny (model prog w) A (eval value env) (fun o s₁=>wpAny (model prog w) A (eval slice env) (fun i s₂=>s₂.TypeIs o T/\wpAny (model prog w) A (getItem o i) Q E s₂) E s₁) E s) :
  wpAny (model prog w) A (eval (.Subscript value slice pos) env) Q E s:=by
 refine Subscript_ (wpAny_mono h (fun o s₁ h₁=>wpAny_mono h₁ (fun i s₂ h₂=>?_) fun _ _ x=>x) fun _ _ x=>x)
 obtain⟨hT,h₂⟩:=h₂
 unfold subscriptTail
 refine qa ?_
 rw [getitemInPython_of_ne hT.not_modules]
 refine qa (wpAny_specialOf hT hl ?_)
 have fin:wpAny (model prog w) A (subscripted slice false o i) (fun r s₃=>wpAny (model prog w) A (letTemporaryGo value o r >>= fun _=>pure r) Q E s₃) E s₂:=by
  rw [hs o i]
  exact wpAny_operating (wpAny_mono h₂ (fun r s₃ h₃=>qa (wpAny_letTemporaryGo (qb h₃))) fun _ _ x=>x)
 first
  | exact qb (qa fin)
  | exact qa (qb (qa fin))
  | exact qa fin
theorem zjK{X:Cx}{pins:List (Addr×Obj)}{σ:St}{H:Hp}{s:Shared}{a:Addr}{y:V}{o:Option V}(I:Inv X pins σ H s)(g:zla X.K H a y o):s.TypeIs (.ref a) "dict":=by
 rcases g with ⟨kvs,k,e,_,_⟩ | ⟨kvs,k,b,e,_,_,_⟩
 ·obtain⟨_,_,vs,_,dd⟩:=zjI I.hok e
  exact dd.typeIs
 ·obtain⟨_,_,xs,_,dd⟩:=zie I.kIn I.hok e
  exact dd.typeIs
def zo3(K:qc)(td ty:TE):TE:=fun σ H Q=>td σ H fun x H1=>ty σ H1 fun y H2=>∃ a v,x=.ref a/\zla K H2 a y (some v)/\Q v H2
def zo4(K:qc)(td ty tv:TE):TS:=fun D σ H=>tv σ H fun v H1=>td σ H1 fun x H2=>ty σ H2 fun y H3=>∃ a H4,x=.ref a/\zjJ K H3 a y v H4/\D.nx σ H4
section
variable {X:Cx} {o i e value:Expr} {pos pos' tpos:Pos} {td ty tv:TE}
theorem zsv(hu:X.A.units+1 < cLine)(ho:PE X o td)(hi:PE X i ty)(hs:zvG i):PE X (.Subscript o i pos) (zo3 X.K td ty):=by
 intro pins s σ H Q I h
 refine zsu PySem.F.slot_dict_getitem.lookup hs (thn (ho pins s σ H _ I h) fun u s1 ⟨x,H1,I1,rx,q1⟩=>thn (hi pins s1 σ H1 _ I1 q1) fun iv s2 ⟨y,H2,I2,ry,a,v,ex,g,q2⟩=>?_)
 subst ex
 obtain rfl:u=Value.ref a:=rx
 exact⟨zjK I2 g,znO hu I2 g ry fun w' s3 I3 rw'=>⟨v,H2,I3,rw',q2⟩⟩
theorem zsw(hu:X.A.units+1 < cLine)(ho:PE X o td)(hi:PE X i ty)(hv:PE X value tv)(hs:swapsWith value (some (.Subscript o i pos')) pos.line X.env=pure false) :
  PS X (.Assign [.Subscript o i pos'] value pos) (zo4 X.K td ty tv):=by
 intro pins s σ H D I h
 refine wpAny_Assign_Subscript (thn (hv pins s σ H _ I h) fun r s1 ⟨v,H1,I1,rv,q1⟩=>thn (ho pins s1 σ H1 _ I1 q1) fun u s2 ⟨x,H2,I2,rx,q2⟩=>thn (hi pins s2 σ H2 _ I2 q2) fun iv s3 ⟨y,H3,I3,ry,a,H4,ex,g,q3⟩=>?_) hs
 subst ex
 obtain rfl:u=Value.ref a:=rx
 exact znP hu I3 g ry rv fun s4 I4=>⟨σ,H4,I4,q3⟩
end
theorem zg3{P:Program}{w:World}{K:qc}{H:Hp}(h:Heap)(hb:sysModules < h.objs.size):zaj P w K H (h.push { cls:=.type "dict",data:=.dict #[] }) h.objs.size (.dT []) :=
 ⟨Nat.zero_le _,beq_eq_false_iff_ne.mpr (Ne.symm (qj hb)),[],.nil,_,#[],0,qg _ rfl,⟨rfl,rfl,rfl⟩,rfl,rfl,List.nodup_nil⟩
def zlb:TE:=fun _ H Q=>∀ p,H p=none->Q (.ref p) (upd H p (.dT []))
section
variable {X:Cx} {pos:Pos}
theorem zo5:PE X (.Dict [] [] pos) zlb:=fun pins s σ H Q I h =>
 wpAny_Dict_empty ⟨.ref s.heap.objs.size,_,I.laid (a:=s.heap.objs.size) (o:=.dT []) (t':=s.toks) (fun _ _ q=>qd _ q) (qe _) (zg3 s.heap I.big),rfl,h _ (I.hok.fresh (qe _))⟩
end
def zvH(kvs more:List (Key×V)):List (Key×V):=more.foldl (fun acc kv=>zc4 acc kv.1 kv.2) kvs
theorem KV.merge:∀ {more:List (Key×V)} {rs:List (Key×Value)} {kvs:List (Key×V)} {vs:List (Key×Value)},KV more rs->KV kvs vs->KV (zvH kvs more) (merged vs rs):=by
 intro more rs kvs vs r
 unfold KV at r
 induction r generalizing kvs vs with
 | nil=>intro q; exact q
 | @cons p q ps qs h t ih =>
  intro r0
  have e:KV (zc4 kvs p.1 p.2) (stored vs q.1 q.2):=by
   have:=r0.put p.1 h.2
   rw [<-h.1]; exact this
  exact ih e
structure M2 (X:Cx) (o:Expr) (m:Str) (apos:Pos) (e f:Expr) (cpos:Pos):Prop where
 base:attributeBase o m X.env (eval o X.env)=eval o X.env
 few:((backTo cpos (starEach [e,f] X.env)).all (fun x=>!x.1) && (backToKw cpos (keywordEach [] X.env)).all (fun x=>x.1.isSome)
  && decide (([e,f]:List Expr).length+([]:List Keyword).length+(if([]:List Keyword).isEmpty then 0 else 1) < 30))=true
 line:(apos.endLine==cpos.line)=true
 trees:backTo cpos (starEach [e,f] X.env)=[(false,eval e X.env),(false,eval f X.env)]
def IsD(H:Hp)(a:Addr):Prop:=(∃ kvs,Rd H a (.dK kvs))\/∃ kvs,Rd H a (.dT kvs)
theorem zvI{X:Cx}{pins:List (Addr×Obj)}{σ:St}{H:Hp}{s:Shared}{a:Addr}(I:Inv X pins σ H s)(d:IsD H a) :
  s.TypeIs (.ref a) "dict"/\(∀ b,Value.ref a=.ref b->∃ ob,s.heap.get? b=some ob/\ob.dict=none)/\(a==sysModules)=false:=by
 rcases d with ⟨kvs,e⟩ | ⟨kvs,e⟩
 ·obtain⟨_,hd,vs,_,dd⟩:=zjI I.hok e
  refine⟨dd.typeIs,fun b q=>?_,hd⟩
  cases q
  obtain⟨ob,_,_,h1,h2,_⟩:=dd
  exact⟨ob,h1,h2.2.1⟩
 ·obtain⟨_,hd,xs,_,dd⟩:=zie I.kIn I.hok e
  refine⟨dd.typeIs,fun b q=>?_,hd⟩
  cases q
  obtain⟨ob,_,_,h1,h2,_⟩:=dd
  exact⟨ob,h1,h2.2.1⟩
section
variable {X:Cx} {pins:List (Addr×Obj)} {σ:St} {H:Hp} {s:Shared} {a:Addr} {y d:V} {u r:Value} {o:Option V} {A:Around} {E:Value->Shared->Prop}
theorem zvJ{Q:Value->Shared->Prop}(hu:A.units+1 < cLine)(I:Inv X pins σ H s)(g:zla X.K H a y o)(ry:zU y u)(rd:zU d r)(h:∀ w' s',Inv X pins σ H s'->zU (o.getD d) w'->Q w' s') :
  wpAny (model X.prog X.w) A (call (.builtin "dict.get") [.ref a,u,r]) Q E s:=by
 rcases g with ⟨kvs,k,e,ey,l⟩ | ⟨kvs,k,b,e,ey,eb,l⟩
 ·subst ey
  obtain⟨z,hd,vs,rel,dd⟩:=zjI I.hok e
  refine call_meetsIn PySem.F.slot_dict_get dd.typeIs PySem.F.entry_dict_get (PySem.F.args_dict_get_3 _ _ _) (meets_dict_get_default (zai X.prog X.w) a (zmi ry) hd r) ⟨_,dd.mapOf,h _ _ (I.tok _) ?_⟩
  rw [l]
  exact(rel.val k).getD rd
 ·subst ey
  cases(show u=Value.ref b from ry)
  obtain⟨z,hd,xs,rel,dd⟩:=zie I.kIn I.hok e
  refine call_meetsIn PySem.F.slot_dict_get dd.typeIs PySem.F.entry_dict_get (PySem.F.args_dict_get_3 _ _ _) (meetsH_dict_get_default (tupleKind (zai X.prog X.w)) a b hd r) ⟨tupleKind_room_in1 hu,k,xs,zeM I.kIn I.hok eb,dd,h _ _ (I.tok _) ?_⟩
  rw [l]
  exact(rel.val k).getD rd
end
def zlc(K:qc)(td ty tx:TE):TE:=fun σ H Q=>td σ H fun x H1=>∃ a,x=.ref a/\IsD H1 a/\ty σ H1 fun y H2=>tx σ H2 fun z H3=>∃ o,zla K H3 a y o/\Q (o.getD z) H3
section
variable {X:Cx} {o e f:Expr} {apos cpos:Pos} {td ty tx:TE}
theorem zo6(hu:X.A.units+1 < cLine)(ho:PE X o td)(he:PE X e ty)(hf:PE X f tx)(m:M2 X o "get" apos e f cpos):PE X (.Call (.Attribute o "get" apos) [e,f] [] cpos) (zlc X.K td ty tx):=by
 intro pins s σ H Q I h
 refine wpAny_Call_method m.base m.few m.line PySem.F.plainAttrs_dict PySem.F.slot_dict_get PySem.F.type_dict_get (thn (ho pins s σ H _ I h) fun u s1 ⟨x,H1,I1,rx,a,ex,d,q1⟩=>?_)
 subst ex
 obtain rfl:u=Value.ref a:=rx
 obtain⟨t1,t2,_⟩:=zvI I1 d
 refine⟨t1,t2,?_⟩
 rw [m.trees]
 refine Calls.callWith_builtin rfl (Calls.evalArgs_plain (Calls.spliced_cons (thn (he pins s1 σ H1 _ I1 q1) fun iv s2 ⟨y,H2,I2,ry,q2⟩ =>
  Calls.spliced_cons (thn (hf pins s2 σ H2 _ I2 q2) fun fv s3 ⟨z,H3,I3,rz,ov,g,q3⟩=>Calls.spliced_nil ?_))))
 exact zvJ hu I3 g ry rz fun w' s4 I4 rw'=>⟨_,H3,I4,rw',q3⟩
end
section
variable {X:Cx} {pins:List (Addr×Obj)} {σ:St} {H:Hp} {s:Shared} {a:Addr} {kvs:List (Key×V)} {A:Around} {E:Value->Shared->Prop}
end
section
variable {X:Cx} {pins:List (Addr×Obj)} {σ:St} {H:Hp} {s:Shared} {a:Addr} {y:V} {u:Value} {A:Around} {E:Value->Shared->Prop}
end
end L2
namespace Att
open PySem PySem.W PySem.Calls PyProof.Rows
theorem zgu{P:Params}{h:Heap}:∀ (ns:List Int) (vs:List Value),WellAll P h vs (ns.map WData.int)->IntsAre vs ns:=by
 intro ns
 induction ns with
 | nil =>
  intro vs w
  rw [List.map_nil]at w
  cases w
  exact .nil
 | cons n ns ih =>
  intro vs w
  rw [List.map_cons]at w
  cases w with
  | cons a b =>
   cases a
   exact .cons _ _ (ih _ b)
theorem znQ{l:OpenLaw}{n:Nat}(hn:l.most=some n){P:Params}{h:Heap}{args:List WData}{vals:List Value}
  (hpre:l.row.toRowW.claim.pre args=true) (hwl:WellAll P h vals args) :
  ∃ a vs ns,vals=[Value.ref a]/\args=[WData.list (ns.map WData.int)]/\h.get? a=some { cls:=.type "list",data:=.seq vs.toArray }/\IntsAre vs ns/\ns.length<=n:=by
 have hsh:WShape.hasAll [] args [.list .int]=true:=(pre_splitW hpre).1
 have hc:l.pre.holds [] { args:=args }=true:=(pre_splitW hpre).2
 obtain⟨d,r,rfl,h1,h2⟩:=hasAllW_cons hsh
 obtain rfl:=hasAllW_nil h2
 obtain⟨xs,rfl,h3⟩:=hasW_list h1
 obtain⟨ns,rfl⟩:=items_int h3
 have hlen:ns.length<=n:=by
  unfold OpenLaw.pre at hc
  have h4:(WTm.not (.lt (.lit (.int (n:Int))) (.len (.arg 0)))).holds [] { args:=[.list (ns.map .int)] }=true:=by
   have h4:=(holds_andW hc).1
   rw [hn]at h4
   exact h4
  have h5:=condW_of h4 (w_not (w_lt w_lit (w_len_list (w_arg rfl))))
  rw [List.length_map]at h5
  refine Nat.le_of_not_lt fun q=>?_
  have q':(n:Int) < ((ns.length:Nat):Int):=by omega
  first
   | (rw [decide_eq_true q']at h5; exact absurd h5 (by decide))
   | (simp at h5; omega)
 cases hwl with
 | cons w1 w2 =>
  cases w2
  cases w1 with
  | list ho hall=>exact⟨_,_,ns,rfl,rfl,ho,zgu ns _ hall,hlen⟩
theorem znR(l:OpenLaw)(args:List WData):l.row.toRowW.claim.post args (.bool true) args=true :=
 postW_of (r:=l.row.toRowW) (X:=(true==true))
  (show WShape.has [] (.bool true) .bool=true by first | rfl | decide | simp [WShape.has,WShape.arms,WShape.armsAll])
  (show(WTm.eq .res (.lit (.bool true))).value [] { args:=args,res:=some (.bool true),after:=args }=some (.bool (true==true)) from w_eq_bool (w_res rfl) w_lit) rfl
theorem attach_call{l:OpenLaw}{n:Nat}{q:Program}{loose:List Str}{XP:(Str->Option Value)->Heap->Prop}{YP:World->Heap->Prop}{d:DefRec}
  (hn:l.most=some n) (hdf:d.params.defaults=[])
  (call:∀ (w:World) (s₀ s₁:Shared) (mg mb:Str->Option Value) (fa:Addr) (o:Obj) (pm cd doc:Value) (a:Addr) (vs:List Value) (ns:List Int),
   Ground q loose [] XP w s₀ mg mb s₁.heap->YP w s₁.heap ->
   s₁.heap.get? fa=some o->o.data=.func (docDef d.name d.params d.body d.scope pm cd doc)->s₁.heap.CodeRec cd d.name->mg d.name=some (.ref fa) ->
   s₁.heap.get? a=some { cls:=.type "list",data:=.seq vs.toArray }->IntsAre vs ns->ns.length<=n->s₁.gens=#[] ->
   codeAny (model l.prog w) callerA (.call (.ref fa) ⟨[.ref a],[]⟩) (fun r s'=>r=.ok (.ret (.bool true))/\OldK s₁.heap s'.heap/\s'.os=s₁.os/\AllBare s'.gens) s₁) :
  WalkO q loose XP YP l.row.toRowW d [] (fun f vs=>PySem.call f vs):=by
 intro w s₀ s₁ mg mb G Y fa o pm cd doc dV kV ho hd hcd hD hmg hg args vals as hpre hlay hrd hwl hlo
 obtain rfl:dV=.none:=Dflts.none hD hdf
 obtain rfl:kV=.none:=Dflts.noKw hD
 obtain⟨a,vs,ns,rfl,rfl,hobj,hints,hlen⟩:=znQ hn hpre hwl
 refine enter_call (codeAny_mono (call w s₀ s₁ mg mb fa o pm cd doc a vs ns G Y ho (fd_plain hd) hcd hmg hobj hints hlen hg) fun r s' hq=>?_)
 obtain⟨rfl,h2,h3,h4⟩:=hq
 exact⟨.inl ⟨.bool true,.bool true,[],rfl,fun _=>rfl,.bool true,znR l _,fun _=>⟨List.Pairwise.nil,fun _ hm=>(nomatch hm)⟩⟩,h2,h3,h4⟩
section
variable {prog:Program} {w:World} {A:Around} {E:Value->Shared->Prop} {s:Shared} {K:Frag}
end
end Att
namespace L2
open PySem PySem.Spec PyProof.Rows
theorem zf0:∀ {vs:List Value} {ns:List Int},IntsAre vs ns->zN (ns.map V.int) vs
 | _,_,.nil=>.nil
 | _,_,.cons n t h=>.cons ⟨t,rfl⟩ (zf0 h)
def zsx(H:Hp):Prop:=∀ b,H b=none\/∃ o xs,H b=some (.frz o (.lst xs))
theorem zo7{P:Program}{w:World}{K:qc}{mg mb:Str->Option Value}{CX:CXT}{k:Nat}{fa a:Addr}{fd:FuncData}{x:Str}{sp:Sp}{s₁:Shared}{vs:List Value}{ns:List Int}
  (KX:K.In s₁.heap) (hns:s₁.heap.Ns mainGlobals mg) (hb:s₁.heap.Ns builtinsNs mb) (hbb:∀ x:Str,x ≠ "__name__"->mb x=bootBuiltins x) (hlim:s₁.heap.NoLimit) (hg:s₁.gens=#[])
  (ha:s₁.heap.get? a=some { cls:=.type "list",data:=.seq vs.toArray }) (hi:IntsAre vs ns) (hl:ns.length<=sizeLine) (hr:Room k callerA)
  (F:∀ base:Heap,K.In base->base.Ns mainGlobals mg->FnOk P w K mg base CX k fa fd [x] sp) (hbind:∀ (s:Shared) (u:Value),BindsTo s fd ⟨[u],[]⟩ [(x,u)])
  (hsp:∀ H:Hp,zsx H->SqL K H a (ns.map V.int)->sp [.ref a] H (fun v _=>v=.bl true) fun _ _ _=>False)
  (hCX:∀ H e s',CX [] H s₁ (fun _ _ _=>False) e s'->False) :
  codeAny (model P w) callerA (.call (.ref fa) ⟨[.ref a],[]⟩) (fun r s'=>r=.ok (.ret (.bool true))/\OldK s₁.heap s'.heap/\s'.os=s₁.os/\AllBare s'.gens) s₁:=by
 have rv:=zf0 hi
 have lenV:=hi.length
 have core:∀ H:Hp,zsx H->SqL K H a (ns.map V.int)->HOk P w K H s₁.heap->(∀ b,H b≠none->b=a)->(H a≠none->K.lookup a=none) ->
   codeAny (model P w) callerA (.call (.ref fa) ⟨[.ref a],[]⟩) (fun r s'=>r=.ok (.ret (.bool true))/\OldK s₁.heap s'.heap/\s'.os=s₁.os/\AllBare s'.gens) s₁:=by
  intro H hO hS hok hA hK
  have base_of:∀ {b:Addr} {o:Obj},s₁.heap.get? b=some o->H b=none->(ziH s₁.heap H).get? b=some o:=fun e n=>zoC e n
  have noA:∀ {b:Addr} {o:Obj} {es:Array DictEntry} {ep:Nat},s₁.heap.get? b=some o->o.data=.dict es ep->H b=none:=fun{b o es ep} e d=>by
   cases q:H b with
   | none=>rfl
   | some u =>
    have e':b=a:=hA b (by rw [q]; simp)
    subst e'
    rw [ha]at e; cases e
    have d':Data.seq vs.toArray _=Data.dict es ep:=d
    cases d'
  have nsK:∀ {b:Addr} {m:Str->Option Value},s₁.heap.Ns b m->(ziH s₁.heap H).Ns b m:=fun{b m} ⟨o,es,ep,e,d,r⟩=>⟨o,es,ep,base_of e (noA e d),d,r⟩
  have hKb:K.In (ziH s₁.heap H):=fun b o e=>base_of (KX b o e) (by
   cases q:H b with
   | none=>rfl
   | some u =>
    have e':b=a:=hA b (by rw [q]; simp)
    subst e'
    rw [hK (by rw [q]; simp)]at e; cases e)
  have hM:Mod K mg (ziH s₁.heap H):=⟨hKb,nsK hns,⟨mb,nsK hb,hbb⟩,let ⟨mc,h1,h2⟩:=hlim; ⟨mc,nsK h1,h2⟩⟩
  have e0:Env0 P w K mg (ziH s₁.heap H) callerA [] s₁ H:=⟨rfl,hM,fun b o e=>zrY e,Nat.le_of_eq (znC _ _),trivial,fun b hb=>absurd (show b∈([]:List Addr) from hb) (by simp),hok,.of_eq hg⟩
  refine codeAny_mono ((F _ hKb (nsK hns)).run callerA [] s₁ H ⟨[.ref a],[]⟩ [.ref a] [.ref a] _ _ hr e0 (hbind s₁ (.ref a)) (.cons rfl .nil) (hsp H hO hS)) fun r s' h=>?_
  cases r with
  | error e=>exact(hCX H e s' h).elim
  | ok fl =>
   cases fl with
   | next=>exact False.elim h
   | brk=>exact False.elim h
   | cont=>exact False.elim h
   | ret u =>
    obtain⟨v,H',os,bare,un,hok',r',q⟩:=h
    have q':v=.bl true:=q
    subst q'
    obtain rfl:u=Value.bool true:=r'
    refine⟨rfl,OldK.of_keep fun b o e=>?_,os,bare⟩
    cases q:H b with
    | none=>exact un.keep b o e q (by intro z; exact absurd (show b∈([]:List Addr) from z) (by simp)) (by simp)
    | some u =>
     rcases hO b with z | ⟨ob,xs,z⟩
     ·rw [q]at z; cases z
     ·have z2:=un.frzs b ob _ z
      obtain⟨e1,_⟩:=hok b _ z
      obtain⟨e2,_⟩:=hok' b _ z2
      rw [e]at e1; cases e1
      exact e2
 cases hk:K.lookup a with
 | some o =>
  have e:=KX a o hk
  rw [ha]at e
  cases e
  refine core (fun _=>none) (fun _=>.inl rfl) (.inr ⟨_,vs.toArray,_,hk,rfl,rfl,rfl,by rw [List.size_toArray,lenV]; exact hl,by simpa using rv⟩) (fun b u z=>by have z':(none:Option HO)=some u:=z; cases z') (fun b z=>absurd rfl z) fun z=>absurd rfl z
 | none =>
  refine core (fun b=>if b=a then some (.frz { cls:=.type "list",data:=.seq vs.toArray } (.lst (ns.map V.int)))else none) (fun b=>?_) (.inl (.inr ⟨{ cls:=.type "list",data:=.seq vs.toArray },if_pos rfl⟩)) (fun b u z=>?_) (fun b z=>?_) fun _=>hk
  ·by_cases hb:b=a
   ·exact .inr ⟨_,_,if_pos hb⟩
   ·exact .inl (if_neg hb)
  ·by_cases hb:b=a
   ·have z':=(if_pos hb).symm.trans z
    cases z'
    subst hb
    exact⟨ha,by rw [List.length_map]; exact hl,vs,_,rv,ha⟩
   ·have z':=(if_neg hb).symm.trans z
    cases z'
  ·by_cases hb:b=a
   ·exact hb
   ·exact absurd (if_neg hb) z
theorem walk_of{l:PySem.W.OpenLaw}{n k:Nat}{q:Program}{loose:List Str}{XP:(Str->Option Value)->Heap->Prop}{YP:World->Heap->Prop}{d:DefRec}{K:Params->qc}{CX:World->CXT}{sp:World->Sp}{x:Str}
  (hn:l.most=some n) (hn2:n<=sizeLine) (hdf:d.params.defaults=[]) (hr:Room k callerA)
  (hY:∀ (w:World) (h:Heap),YP w h->(K w.params).In h)
  (F:∀ (w:World) (mg:Str->Option Value) (fa:Addr) (h:Heap),(K w.params).In h->h.Ns mainGlobals mg->mg d.name=some (.ref fa) ->
   ∃ fd:FuncData,(∀ (s:Shared) (u:Value),BindsTo s fd ⟨[u],[]⟩ [(x,u)]) /\
    ∀ base:Heap,(K w.params).In base->base.Ns mainGlobals mg->FnOk l.prog w (K w.params) mg base (CX w) k fa fd [x] (sp w))
  (hsp:∀ (w:World) (H:Hp) (a:Addr) (ns:List Int),ns.length<=n->zsx H->SqL (K w.params) H a (ns.map V.int)->sp w [.ref a] H (fun v _=>v=.bl true) fun _ _ _=>False)
  (hCX:∀ (w:World) (H:Hp) (s:Shared) (e:Value) (s':Shared),CX w [] H s (fun _ _ _=>False) e s'->False) :
  PySem.W.WalkO q loose XP YP l.row.toRowW d [] (fun f vs=>PySem.call f vs):=by
 refine Att.attach_call hn hdf fun w s₀ s₁ mg mb fa o pm cd doc a vs ns G Y ho hd hcd hmg hobj hints hlen hg=>?_
 have KX:=hY w _ Y
 obtain⟨fd,hb,hF⟩:=F w mg fa _ KX G.T.g hmg
 exact zo7 KX G.T.g G.T.b G.T.builtins G.T.nolimit hg hobj hints (qx hlen hn2) hr hF hb (fun H hO hS=>hsp w H a ns hlen hO hS) fun H e s'=>hCX w H s₁ e s'
def zM(s:Stmt):Arguments:=match s with
 | .FunctionDef _ a _ _ _ _ _ _ _ _=>a
 | _=>{ posonlyargs:=[],args:=[],vararg:=none,kwonlyargs:=[],kw_defaults:=[],kwarg:=none,defaults:=[] }
def zI(s:Stmt):List Stmt:=match s with
 | .FunctionDef _ _ b _ _ _ _ _ _ _=>b
 | _=>[]
def zn(s:Stmt):Scope:=match s with
 | .FunctionDef _ _ _ _ _ _ sc _ _ _=>sc
 | _=>{ kind:=.function,names:=[],isGenerator:=false,isCoroutine:=false }
abbrev CX0:CXT:=fun _ _ _ _ _ _=>False
abbrev E0:XK:=fun _ _ _=>False
theorem ztJ{X:Cx}:zgX CX0 X E0:=fun _ _ _ _ _ _ _ h=>h.elim
structure Fun (K:qc) (x qual:Str) (st:Stmt) (f:Addr) (fd:FuncData):Prop where
 ex:∃ (oc:Value) (od:Option Addr) (kV doc pm:Value) (an:Option Addr) (cdv ct:Value) (osl:Array (Option Value)),
  fd=PySem.W.fnOf x qual (zM st) (zI st) (zn st) .none kV doc pm an cdv ct/\K.lookup f=some ⟨oc,od,.func fd,osl⟩/\PySem.W.codeIn K cdv qual=true
 kp:PySem.W.keepIn K (.ref f)=true
section
variable {P:Program} {w:World} {K:qc} {mg:Str->Option Value} {base:Heap}
theorem Fun.ok{x qual:Str}{st:Stmt}{f:Addr}{fd:FuncData}{N ps:List Str}{k:Nat}{sp:Sp}(F:Fun K x qual st f fd)(S:FnScope N ps (zn st))(len:∀ vs H Q E,sp vs H Q E->vs.length=ps.length)
  (hbody:∀ (cdv:Value) (A:Around) (outer:List Env) (s:Shared) (H:Hp) (vs:List V) (Q:VK) (E:XK),Room k (A.deeper (envOfC qual (zn st) s.heap.objs.size f cdv))->sp vs H Q E ->
   ∃ t,PSs (zjF CX0 P w K mg base N qual (zn st) f cdv A outer s H E).nox (zI st) t/\t { nx:=fun _ H'=>Q .non H',rt:=Q } (zck N vs) H):FnOk P w K mg base CX0 (k+1) f fd ps sp:=by
 obtain⟨oc,od,kV,doc,pm,an,cdv,ct,osl,rfl,lk,hcd⟩:=F.ex
 refine zxa lk hcd S len fun A outer s H vs Q E hr hsp=>?_
 obtain⟨t,h,q⟩:=hbody cdv A outer s H vs Q E hr hsp
 exact⟨t,h.nox,q⟩
theorem Fun.binds{x qual:Str}{st:Stmt}{f:Addr}{fd:FuncData}{ps:List Str}(F:Fun K x qual st f fd)
  (h:∀ (kV doc pm:Value) (an:Option Addr) (cdv ct:Value) (us:List Value),us.length=ps.length->bindArgs (PySem.W.fnOf x qual (zM st) (zI st) (zn st) .none kV doc pm an cdv ct) ⟨us,[]⟩=pure (ps.zip us)):zfj K fd ps []:=by
 obtain⟨oc,od,kV,doc,pm,an,cdv,ct,osl,rfl,lk,hcd⟩:=F.ex
 exact .all (h kV doc pm an cdv ct)
theorem zak{x qual:Str}{st:Stmt}{f:Addr}{oc:Value}{od an:Option Addr}{osl:Array (Option Value)}{kV doc pm cdv ct:Value}(l:K.lookup f=some ⟨oc,od,.func (PySem.W.fnOf x qual (zM st) (zI st) (zn st) .none kV doc pm an cdv ct),osl⟩)
  (c:PySem.W.codeIn K cdv qual=true) (k:PySem.W.keepIn K (.ref f)=true):Fun K x qual st f (PySem.W.fnOf x qual (zM st) (zI st) (zn st) .none kV doc pm an cdv ct):=⟨⟨oc,od,kV,doc,pm,an,cdv,ct,osl,rfl,l,c⟩,k⟩
end
theorem zjL{A:Around}{k:Nat}(hr:Room k A):A.units+1 < cLine:=Nat.lt_of_le_of_lt (Nat.add_le_add_left (by decide:1<=64) _) hr.units
section
variable {X:Cx}
theorem pv(i:Nat){x:Str}{pos:Pos}(hN:X.N[i]?=some x:=by rfl)(hv:Vis X.env.scope x:=by first | exact Or.inl rfl | exact Or.inr (Or.inl rfl) | exact Or.inr (Or.inr rfl))(hd:(x==("__debug__":Str))=false:=by decide)
  (hcd:(x==("__classdict__":Str))=false:=by decide):PE X (.Name x pos) (zfg i):=zuS hN hv hd hcd
end
def zbf(H H':Hp):Prop:=∀ b o,H b=some o->H' b=some o
theorem zbf.refl(H:Hp):zbf H H:=fun _ _ h=>h
theorem zbf.trans{H H1 H2:Hp}(a:zbf H H1)(b:zbf H1 H2):zbf H H2:=fun c o h=>b c o (a c o h)
theorem zbf.seq{K:qc}{H H':Hp}{a:Addr}{xs:List V}(e:zbf H H')(h:SqL K H a xs):SqL K H' a xs:=by
 rcases h with (h | ⟨o,h⟩) | h
 ·exact .inl (.inl (e _ _ h))
 ·exact .inl (.inr ⟨o,e _ _ h⟩)
 ·exact .inr h
section
variable {X:Cx}
end
section
variable {κ:Type} [DecidableEq κ]
end
end L2
set_option maxHeartbeats 4000000
namespace L2
open PySem PySem.Spec PyProof.Rows
inductive Frees (X:Cx):List (Str×Addr)->List Str->List Nat->Prop where
 | nil:Frees X [] [] []
 | cons {x:Str} {c:Addr} {j:Nat} {cl:List (Str×Addr)} {xs:List Str} {js:List Nat} (hN:X.N[j]?=some x) (hk:X.env.scope.names.lookup x=some .cell\/X.env.scope.names.lookup x=some .free)
   (hc:X.env.cells.lookup x=some c) (t:Frees X cl xs js):Frees X ((x,c)::cl) (x::xs) (j::js)
def zL(X:Cx)(scope:Scope)(cl:List (Str×Addr))(Nc:List Str)(C:Addr)(s:Shared)(H:Hp)(ex:List Addr):Cx :=
 { X with s₀:=s,H₀:=H,env:=compEnvC scope cl C X.env,N:=Nc,outer:=X.stack,stack:=X.stack,ex:=ex,fn:=fun _=>false,pn:=[],xe:=fun _ _=>False }
def c0(nt:Nat)(js:List Nat)(σ:St):St:=List.replicate nt none++js.map fun j=>σ.getD j none
def Wk(a b:St):Prop:=a.length=b.length/\∀ (i:Nat) (v:V),a[i]?=some (some v)->b[i]?=some (some v)
theorem zvK{a:St}{i:Nat}{x:Option V}(h:a[i]?=some none):Wk a (a.set i x):=by
 refine⟨by simp,fun j v e=>?_⟩
 have ne:i≠j:=by intro z; rw [z,e]at h; cases h
 rw [qB ne]
 exact e
theorem ziP{nt:Nat}{js:List Nat}{σ:St}{i:Nat}(h:i < nt):(c0 nt js σ)[i]?=some none:=by
 unfold c0
 rw [List.getElem?_append_left (by simpa using h),List.getElem?_replicate,if_pos h]
theorem zbG{X:Cx}{cl:List (Str×Addr)}{xs:List Str}{js:List Nat}(f:Frees X cl xs js):∀ x c,cl.lookup x=some c->X.env.cells.lookup x=some c:=by
 induction f with
 | nil=>intro x c e; cases e
 | @cons y d j cl xs js hN hk hc t ih =>
  intro x c e
  rw [List.lookup_cons]at e
  by_cases q:x=y
  ·subst q
   rw [beq_self_eq_true]at e
   injection e with e1
   rw [<-e1]
   exact hc
  ·rw [beq_eq_false_iff_ne.mpr q]at e
   exact ih x c e
theorem zif{X:Cx}{cl:List (Str×Addr)}{xs:List Str}{js:List Nat}(f:Frees X cl xs js):∀ x,x∈xs->∃ c,cl.lookup x=some c:=by
 induction f with
 | nil=>intro x m; cases m
 | @cons y d j cl xs js hN hk hc t ih =>
  intro x m
  rw [List.lookup_cons]
  by_cases q:x=y
  ·subst q
   rw [beq_self_eq_true]
   exact⟨d,rfl⟩
  ·rw [beq_eq_false_iff_ne.mpr q]
   rcases qu.mp m with z | z
   ·exact absurd z q
   ·exact ih x z
theorem zo8{X:Cx}{cl:List (Str×Addr)}{xs:List Str}{js:List Nat}(f:Frees X cl xs js):∀ (i:Nat) (x:Str) (σ:St) (v:V),xs[i]?=some x->(js.map fun j=>σ.getD j none)[i]?=some (some v) ->
  ∃ j:Nat,X.N[j]?=some x/\σ[j]?=some (some v)/\(X.env.scope.names.lookup x=some .cell\/X.env.scope.names.lookup x=some .free)/\(∃ c,X.env.cells.lookup x=some c):=by
 induction f with
 | nil=>intro i x σ v e; simp at e
 | @cons y d j cl xs js hN hk hc t ih =>
  intro i x σ v e1 e2
  cases i with
  | zero =>
   simp only [List.getElem?_cons_zero,Option.some.injEq]at e1
   subst e1
   refine⟨j,hN,?_,hk,d,hc⟩
   simp only [List.map_cons,List.getElem?_cons_zero,Option.some.injEq]at e2
   rw [qA]at e2
   cases q:σ[j]? with
   | none=>rw [q]at e2; cases e2
   | some o=>rw [q]at e2; simp at e2; rw [e2]
  | succ i =>
   exact ih i x σ v (by simpa using e1) (by simpa using e2)
theorem zdI{env:Env}:∀ {names:List (Str×NameKind)} {x:Str} {k:NameKind},
  (names.map fun(n,k)=>if(k==NameKind.free && env.scope.kind==.function && env.kindOf n==some .cell)then(n,NameKind.cell)else(n,k)).lookup x=some k ->
  ∃ k0,names.lookup x=some k0/\(x,k0)∈names/\(k=k0\/(k0=.free/\k=.cell)):=by
 intro names
 induction names with
 | nil=>intro x k e; cases e
 | cons p r ih =>
  intro x k e
  obtain⟨n,kn⟩:=p
  by_cases q:x=n
  ·subst q
   refine⟨kn,by rw [List.lookup_cons,beq_self_eq_true],qo,?_⟩
   rw [List.map_cons]at e
   change List.lookup x ((if(kn==NameKind.free && env.scope.kind==.function && env.kindOf x==some .cell)=true then(x,NameKind.cell)else(x,kn))::_)=_ at e
   by_cases hh:(kn==NameKind.free && env.scope.kind==.function && env.kindOf x==some .cell)=true
   ·rw [if_pos hh,List.lookup_cons,beq_self_eq_true]at e
    injection e with e1
    refine .inr ⟨?_,e1.symm⟩
    simp only [Bool.and_eq_true]at hh
    exact by simpa using hh.1.1
   ·rw [if_neg hh,List.lookup_cons,beq_self_eq_true]at e
    injection e with e1
    exact .inl e1.symm
  ·rw [List.map_cons]at e
   change List.lookup x ((if(kn==NameKind.free && env.scope.kind==.function && env.kindOf n==some .cell)=true then(n,NameKind.cell)else(n,kn))::_)=_ at e
   have e':(r.map fun(n,k)=>if(k==NameKind.free && env.scope.kind==.function && env.kindOf n==some .cell)then(n,NameKind.cell)else(n,k)).lookup x=some k:=by
    by_cases hh:(kn==NameKind.free && env.scope.kind==.function && env.kindOf n==some .cell)=true
    ·rw [if_pos hh,List.lookup_cons,beq_eq_false_iff_ne.mpr q]at e
     exact e
    ·rw [if_neg hh,List.lookup_cons,beq_eq_false_iff_ne.mpr q]at e
     exact e
   obtain⟨k0,h1,h2,h3⟩:=ih e'
   refine⟨k0,by rw [List.lookup_cons,beq_eq_false_iff_ne.mpr q]; exact h1,qm _ h2,h3⟩
theorem znS{X:Cx}{cl:List (Str×Addr)}{xs:List Str}{js:List Nat}(f:Frees X cl xs js):js.length=xs.length:=by
 induction f with
 | nil=>rfl
 | cons _ _ _ _ ih=>simp [ih]
structure ScC (scope:Scope) (xs:List Str):Prop where
 kind:scope.kind=.function
 cell:∀ y∈scope.names,y.2≠.cell
 names:∀ y∈scope.names,y.2=.local->scope.names.lookup y.1=some .local
 free:∀ y∈scope.names,y.2=.free->y.1∈xs
 fk:∀ x∈xs,scope.names.lookup x=some .free
section
variable {X:Cx} {pins:List (Addr×Obj)} {σ:St} {H:Hp} {s:Shared} {scope:Scope} {cl:List (Str×Addr)} {xs:List Str} {js:List Nat} {nt:Nat} {ts:List Str} {fp:List Addr} {C:Addr}
theorem zsy(I:Inv X pins σ H s)(S:ScC scope xs)(f:Frees X cl xs js)(hC:s.heap.objs.size<=C)(hf:∀ b∈fp,zdt X pins H b)(hl:∀ b∈fp,b < s.heap.objs.size) :
  (zL X scope cl (ts++xs) C s H fp).Ok where
 mod:=I.ok.mod
 kind:=S.kind
 glob:=I.ok.glob
 blt:=I.ok.blt
 above:=hC
 inj:=fun x y c e1 e2=>I.ok.inj x y c (zbG f x c e1) (zbG f y c e2)
 has:=fun x h=>by
  have z:∃ k0,scope.names.lookup x=some k0/\(x,k0)∈scope.names/\k0=NameKind.free:=by
   rcases h with h | h
   ·obtain⟨k0,h1,h2,h3⟩:=zdI (env:=X.env) (names:=scope.names) h
    rcases h3 with h3 | h3
    ·exact absurd h3.symm (S.cell _ h2)
    ·exact⟨k0,h1,h2,h3.1⟩
   ·obtain⟨k0,h1,h2,h3⟩:=zdI (env:=X.env) (names:=scope.names) h
    rcases h3 with h3 | h3
    ·exact⟨k0,h1,h2,h3.symm⟩
    ·cases h3.2
  obtain⟨k0,_,h2,h3⟩:=z
  exact zif f x (S.free _ h2 h3)
 cab:=fun x c h=>by cases h
 hd:=I.ok.hd
 frames:=I.ok.frames
 stk:=.inl rfl
 exf:=fun b hb=>⟨qj (qi (hl b hb) hC),fun x c e=>(hf b hb).2.2.2.2.1 x c (zbG f x c e)⟩
 bs:=I.bs
 bsz:=qx I.ok.bsz I.sz
 noex:=fun b o e hb=>by
  rcases(hf b hb).2.2.2.1 with z | z
  ·exact I.ok.noex b o e z
  ·exact absurd (qi (qh (I.ok.bs b o e).1) z) (Nat.lt_irrefl _)
 exfs:=fun b hb z=>by
  rcases qu.mp (I.stkSub b z)with q | q
  ·exact(hf b hb).2.1 q
  ·exact(hf b hb).2.2.1 q
 funs:=I.stack
 frf:=I.stkFree
theorem zjM{m:Str->Option Value}{h1:Heap}{tk:Nat}(I:Inv X pins σ H s)(S:ScC scope xs)(f:Frees X cl xs js)(hts:ts.length=nt)(hC:s.heap.objs.size<=C)(hf:∀ b∈fp,zdt X pins H b)(hl:∀ b∈fp,b < s.heap.objs.size)
  (hk:∀ b o,s.heap.get? b=some o->h1.get? b=some o) (hn:h1.Ns C m):Inv (zL X scope cl (ts++xs) C s H fp) [] (c0 nt js σ) H { s with heap:=h1,toks:=tk } where
 ok:=zsy I S f hC hf hl
 os:=rfl
 bare:=I.bare
 base:=Un.kept hk
 loc:=by
  refine⟨m,hn,fun i x v e1 e2 e3=>?_⟩
  have hi:nt<=i:=by
   rcases Nat.lt_or_ge i nt with z | z
   ·rw [ziP z]at e2; cases e2
   ·exact z
  have e1':xs[i - nt]?=some x:=by
   have z:(ts++xs)[i]?=some x:=e1
   rw [List.getElem?_append_right (by omega),hts]at z
   exact z
  have e2':(js.map fun j=>σ.getD j none)[i - nt]?=some (some v):=by
   unfold c0 at e2
   rw [List.getElem?_append_right (by simpa using hi),List.length_replicate]at e2
   exact e2
  obtain⟨j,hN,hσ,hkk,c,hc⟩:=zo8 f (i - nt) x σ v e1' e2'
  obtain⟨m0,_,hl0⟩:=I.loc
  obtain⟨u,r,lk⟩:=hl0 j x v hN hσ (.inr hkk)
  refine⟨u,r,.inr ⟨?_,?_⟩⟩
  ·rcases e3 with z | z | z
   ·have hx:x∈xs:=List.mem_of_getElem? e1'
    obtain⟨k0,h1,h2,h3⟩:=zdI (env:=X.env) (names:=scope.names) z
    have q:=S.fk x hx
    rw [h1]at q
    cases q
    rcases h3 with h3 | h3
    ·cases h3
    ·cases h3.2
   ·exact .inl z
   ·exact .inr z
  ·obtain⟨c',hc'⟩:=zif f x (List.mem_of_getElem? e1')
   refine⟨c',hc',?_⟩
   have q:=zbG f x c' hc'
   rcases lk with ⟨l1,_⟩ | ⟨_,c'',l2,l3⟩
   ·exfalso
    have l1':X.env.scope.names.lookup x=some .local:=l1
    rcases hkk with z | z<;>rw [z]at l1'<;>cases l1'
   ·rw [q]at l2
    cases l2
    exact l3.keeps hk
 cell:=fun x c e=>by
  obtain⟨v,z⟩:=I.cell x c (zbG f x c e)
  exact⟨v,z.keeps hk⟩
 free:=I.hok.fresh hC
 freeC:=fun x c e=>I.freeC x c (zbG f x c e)
 pin:=fun p hp=>by cases hp
 hok:=I.hok.kept hk
 len:=by
  show(c0 nt js σ).length=(ts++xs).length
  unfold c0
  rw [qr,qr,List.length_replicate,List.length_map,hts]
  rw [znS f]
theorem zig{P:Program}{w:World}{K:qc}{H:Hp}{h:Heap}{a:Addr}{o:HO}(x:HOk P w K H h)(hn:H a=none)(new:zaj P w K (upd H a o) h a o):HOk P w K (upd H a o) h:=fun b u e=>by
 by_cases hb:b=a
 ·subst hb; rw [zx]at e; cases e; exact new
 ·rw [zA hb]at e
  exact(x b u e).stay (fun _ _ _ q=>q) (fun c q=>(zA (zac q hn)).trans q) fun c ys q=>(zA (zac q hn)).trans q
theorem zjN{fs ex:List Addr}{H H1:Hp}{h h1:Heap}{a:Addr}{o:HO}(u:Un fs ex H H1 h h1)(hn:H1 a=none)(ha:h.objs.size<=a):Un fs ex H (upd H1 a o) h h1 where
 keep:=u.keep
 slot:=u.slot
 free:=fun b ob q n hx=>(zA (qj (qi (qh q) ha))).trans (u.free b ob q n hx)
 there:=u.there
 tups:=fun b ys q=>(zA (zac (u.tups b ys q) hn)).trans (u.tups b ys q)
 frzs:=fun b ob ys q=>(zA (zac (u.frzs b ob ys q) hn)).trans (u.frzs b ob ys q)
 tbls:=fun b ps q=>by
  obtain⟨more,e⟩:=u.tbls b ps q
  exact⟨more,(zA (zac e hn)).trans e⟩
def zg4(X:Cx)(ifs:List Expr)(t:TT):Prop :=
 ∀ (pins:List (Addr×Obj)) (s:Shared) (σ:St) (H:Hp) (Q:Bool->Hp->Prop),Inv X pins σ H s->t σ H Q ->
  wpAny (model X.prog X.w) X.A (forIn ifs true fun c r=>if r=true then do let ok <-isTrue c X.env (eval c X.env); pure (ForInStep.yield ok)else pure (ForInStep.yield r)) (TP X pins σ Q) X.xe s
def zvL:TT:=fun _ H Q=>Q true H
theorem zo9{X:Cx}:zg4 X [] zvL:=fun _ _ _ H _ I h=>wpAny_tests_nil ⟨H,I,h⟩
theorem zpa{X:Cx}{c:Expr}{t:TT}(h:PT X c t):zg4 X [c] t:=fun pins s σ H Q I q=>wpAny_tests_one (h pins s σ H Q I q)
theorem zld{α:Type}{t:Sem α}{Q Q':α->Shared->Prop}{M:Model}{A:Around}{E:Value->Shared->Prop}{s:Shared}(h:wpAny M A t Q (fun _ _=>False) s)(hQ:∀ a s,Q a s->Q' a s):wpAny M A t Q' E s:=wpAny_mono h hQ fun _ _ x=>x.elim
theorem zle{prog:Program}{w:World}{A:Around}{R:Result->Shared->Prop}{s:Shared}{elt target iter:Expr}{ifs:List Expr}{scope:Scope}{pos:Pos}{it acc:Value}{env:Env}(I:Nat->Shared->Prop)
  (turn:∀ n s,I n s->∀ E,wpAny (model prog w) A (pyNext it) (fun r s1=>match r with
   | none=>R (.ok .next) s1
   | some v=>wpAny (model prog w) A (letOwnedTupleGo target it v) (fun _ s2=>wpAny (model prog w) A (assign target env v) (fun _ s3 =>
     wpAny (model prog w) A (forIn ifs true fun c r=>if r=true then do let ok <-isTrue c env (eval c env); pure (ForInStep.yield ok)else pure (ForInStep.yield r)) (fun ok s4 =>
      (ok=true->wpAny (model prog w) A (eval elt env) (fun x s5=>wpAny (model prog w) A (call (.builtin "list.append") [acc,x]) (fun _ s6=>∃ m,m < n/\I m s6) E s5) E s4) /\
      (ok=false->∃ m,m < n/\I m s4)) E s3) E s2) E s1) E s)
  (n:Nat) (h:I n s):codeAny (model prog w) A (.compLoop (.ListComp elt [⟨target,iter,ifs,0⟩] scope pos) 0 it acc env) R s:=by
 refine codeAny_loop rfl I (fun n s hI=>?_) n h
 show wpAny _ A ((compTurn _ 0 it acc env).onRaise (fun x=>do noteFrame x env; theTreesLotGoes x)) _ _ s
 refine wpAny_noted ?_
 rw [compTurn_list]
 refine qa (wpAny_standAt (qa (wpAny_mono (turn n s hI _) (fun r s1 h1=>?_) fun _ _ z=>z)))
 cases r with
 | none=>exact qb h1
 | some v =>
  refine qa (wpAny_mono h1 (fun _ s2 h2=>?_) fun _ _ z=>z)
  refine qa (wpAny_mono h2 (fun _ s3 h3=>?_) fun _ _ z=>z)
  refine qa (wpAny_mono h3 (fun ok s4 h4=>?_) fun _ _ z=>z)
  cases ok with
  | false=>exact qb ⟨rfl,h4.2 rfl⟩
  | true =>
   refine qa (qa (wpAny_mono (h4.1 rfl) (fun x s5 h5=>?_) fun _ _ z=>z))
   exact qa (wpAny_mono h5 (fun _ s6 h6=>qb (qb ⟨rfl,h6⟩)) fun _ _ z=>z)
def zxg(J:It)(σc:St)(g:TG)(tt:TT)(te:TE)(Z:List V->Hp->Prop)(H1:Hp):Prop :=
 ∃ W:Nat->Nat->List V->Hp->Prop,(∃ m,W 0 m [] H1)/\∀ i m ys H,W i m ys H ->
  (J.stop i H/\Z ys H)\/(J.go i H/\ys.length < sizeLine/\∃ N:List V->Hp->Prop,(∀ ys' H',N ys' H'->∃ m',m' < m/\W (i+1) m' ys' H') /\
   ∀ x H',J.yld i H x H'->g x σc H' fun σ2 H2=>tt σ2 H2 fun b H3=>if b=true then te σ2 H3 fun y H4=>N (ys++[y]) H4 else N ys H3)
def GW(σc:St)(g:TG):Prop:=∀ x H (Q:St->Hp->Prop),g x σc H Q->g x σc H fun σ2 H2=>Wk σc σ2/\Q σ2 H2
theorem zg5{elt iter tg:Expr}{ifs:List Expr}{pos:Pos}{J:It}{it:Addr}{tn:Nat->Heap->Prop}{g:TG}{tt:TT}{te:TE}{Z:List V->Hp->Prop}{RR:Value->Addr->Result->Shared->Prop}{E:Value->Shared->Prop}
  (hc:X.calm=true) (I:Inv X pins σ H s) (S:ScC scope xs) (f:Frees X cl xs js) (hts:ts.length=nt) (T:Turn X.prog X.w X.K tg J fp it tn) (st:tn 0 s.heap) (hf:∀ b∈fp,zdt X pins H b)
  (hg:∀ C s H ex,PG (zL X scope cl (ts++xs) C s H ex) tg g) (ht:∀ C s H ex,zg4 (zL X scope cl (ts++xs) C s H ex) ifs tt) (he:∀ C s H ex,PE (zL X scope cl (ts++xs) C s H ex) elt te)
  (gw:GW (c0 nt js σ) g) (h:zxg J (c0 nt js σ) g tt te Z H)
  (hRR:∀ (D C:Addr) (m:Str->Option Value) (s':Shared) (ys:List V) (H':Hp),Z ys H'->H' D=none->Inv X pins σ (upd H' D (.lst ys)) s'->s'.heap.Ns C m->upd H' D (.lst ys) C=none->C≠X.env.locals ->
   (∀ x c,X.env.cells.lookup x=some c->c≠C)->X.s₀.heap.objs.size<=C->(∀ p∈X.pn++pins,p.1≠C)->RR (.ref D) C (.ok .next) s') :
  wpAny (model X.prog X.w) X.A (newList []) (fun acc s3=>wpAny (model X.prog X.w) X.A (newFunctionEnv scope X.env.globals cl [] X.env.qual none .none (some X.env)) (fun cenv s4 =>
   codeAny (model X.prog X.w) X.A (.compStart (.ListComp elt [⟨tg,iter,ifs,0⟩] scope pos) 0 (.ref it) acc { cenv with scope:=relabel scope X.env }) (RR acc cenv.locals) s4) E s3) E s:=by
 refine qy (wpAny_newFunctionEnv S.cell (by intro y hy; cases hy) (fun h1 hn1 hsb1=>?_) S.kind)
 dsimp only at hn1 hsb1 ⊢
 generalize hH2:s.heap.push { cls:=.type "list",dict:=none,data:=.seq ([]:List Value).toArray }=G at hn1 hsb1 ⊢
 have hCs:G.objs.size=s.heap.objs.size+1:=by rw [<-hH2,Heap.size_push]
 have hC:s.heap.objs.size<=G.objs.size:=by rw [hCs]; exact Nat.le_succ _
 have hDC:s.heap.objs.size≠G.objs.size:=by rw [hCs]; exact qj (Nat.lt_succ_self _)
 have hl:∀ b∈fp,b < s.heap.objs.size:=fun b hb=>by
  obtain⟨o,e,_⟩:=T.obj _ _ st b hb
  exact qh e
 have old:∀ b o,s.heap.get? b=some o->h1.get? b=some o:=fun b o e =>
  hsb1.extBut b o (qj (qi (qh e) hC)) (qd _ (hH2▸qd _ e))
 have hD1:h1.get? s.heap.objs.size=some { cls:=.type "list",data:=.seq ([]:List Value).toArray }:=hsb1.extBut _ _ hDC (qd _ (hH2▸qg _ rfl))
 have J0:Inv (zL X scope cl (ts++xs) G.objs.size s H fp) [] (c0 nt js σ) H { s with heap:=h1,toks:=s.toks+([]:List (Str×Value)).length }:=zjM I S f hts hC hf hl old hn1
 obtain⟨W,⟨m0,w0⟩,turn⟩:=h
 have st1:tn 0 h1:=T.keep _ _ _ st fun b hb o e=>old b o e
 have hDn:H s.heap.objs.size=none:=I.hok.fresh (qe _)
 have Dnot:∀ b∈fp,s.heap.objs.size≠b:=fun b hb z=>absurd (hl b hb) (by rw [<-z]; exact Nat.lt_irrefl _)
 have fpk:∀ {H':Hp} {pl:List (Addr×Obj)},(∀ b∈fp,H' b=none)->(∀ p∈pl,p.1=s.heap.objs.size)->∀ b∈fp,zdt (zL X scope cl (ts++xs) G.objs.size s H fp) pl H' b:=fun{H' pl} hn hp b hb=>by
  refine⟨hn b hb,qj (qi (hl b hb) hC),fun z=>?_,.inl hb,fun x c e=>(hf b hb).2.2.2.2.1 x c (zbG f x c e),fun p hpp z=>?_⟩
  ·rcases qu.mp (I.stkSub b z)with q | q
   ·exact(hf b hb).2.1 q
   ·exact(hf b hb).2.2.1 q
  ·rcases List.mem_append.mp hpp with q | q
   ·cases q
   ·exact Dnot b hb ((hp p q).symm.trans z)
 have loop:codeAny (model X.prog X.w) X.A (.compLoop (.ListComp elt [⟨tg,iter,ifs,0⟩] scope pos) 0 (.ref it) (.ref s.heap.objs.size) (compEnvC scope cl G.objs.size X.env)) (RR (.ref s.heap.objs.size) G.objs.size)
   { s with heap:=h1,toks:=s.toks+([]:List (Str×Value)).length }:=by
  refine zle (fun n s'=>∃ i ys its nn H',Inv (zL X scope cl (ts++xs) G.objs.size s H fp) [] (c0 nt js σ) H' s'/\tn i s'.heap/\(∀ b∈fp,H' b=none)/\H' s.heap.objs.size=none /\
   s'.heap.get? s.heap.objs.size=some { cls:=.type "list",data:=.seq (List.toArray its) nn }/\zN ys its/\ys.length<=sizeLine/\W i n ys H') ?_ m0
   ⟨0,[],[],0,H,J0,st1,fun b hb=>(hf b hb).1,hDn,hD1,.nil,Nat.zero_le _,w0⟩
  rintro n s3 ⟨i,ys,its,nn,H3,I3,st3,fr3,d3,o3,r3,z3,w3⟩ E'
  have cne:s.heap.objs.size≠(zL X scope cl (ts++xs) G.objs.size s H fp).env.locals:=hDC
  have I3p:Inv (zL X scope cl (ts++xs) G.objs.size s H fp) [(s.heap.objs.size,{ cls:=.type "list",data:=.seq its.toArray nn })] (c0 nt js σ) H3 s3:=I3.pins_of fun p hp=>by
   have e:p=(s.heap.objs.size,{ cls:=.type "list",data:=.seq its.toArray nn }):=by simpa using hp
   subst e
   refine⟨o3,d3,cne,fun z=>?_,fun v z=>by cases z⟩
   obtain⟨_,ob,e,_⟩:=I.stack.mem z
   exact absurd (qh e) (Nat.lt_irrefl _)
  have pl1:∀ p∈[(s.heap.objs.size,({ cls:=.type "list",data:=.seq its.toArray nn }:Obj))],p.1=s.heap.objs.size:=fun p hp=>by
   have e:p=(s.heap.objs.size,{ cls:=.type "list",data:=.seq its.toArray nn }):=by simpa using hp
   rw [e]
  rcases turn i n ys H3 w3 with ⟨stop,qz⟩ | ⟨go,hsz,N,hN,step⟩
  ·refine thn (T.done (zL X scope cl (ts++xs) G.objs.size s H fp) rfl rfl rfl hc i _ s3 _ H3 E' I3p (fpk fr3 pl1) st3 stop) fun r s4 ⟨hr,I4⟩=>?_
   subst hr
   have o4:s4.heap.get? s.heap.objs.size=some { cls:=.type "list",data:=.seq its.toArray nn }:=(I4.pin _ (qv _ qo)).1
   obtain⟨m4,n4,_⟩:=I4.loc
   have hk4:HOk X.prog X.w X.K (upd H3 s.heap.objs.size (.lst ys)) s4.heap:=zig I4.hok d3 ⟨z3,its,nn,r3,o4⟩
   have un4:Un (frs X.stack) fp H (upd H3 s.heap.objs.size (.lst ys)) s.heap s4.heap:=zjN I4.base d3 (qe _)
   refine hRR _ _ m4 s4 ys H3 qz d3 (I.call' I4.os un4 hk4 I4.bare fun b hb=>⟨(hf b hb).2.2.2.1,(hf b hb).2.1,(hf b hb).2.2.2.2.1,fun p hp=>(hf b hb).2.2.2.2.2 p hp⟩) n4 ?_ ?_ ?_ ?_ ?_
   ·rw [zA (Ne.symm hDC)]
    exact I4.free
   ·exact fun z=>absurd I.lt (by rw [<-z]; exact Nat.not_lt.mpr hC)
   ·intro x c e z
    obtain⟨v,ob,q,_⟩:=I.cell x c e
    exact absurd (qh q) (by rw [z]; exact Nat.not_lt.mpr hC)
   ·exact qx I.sz hC
   ·intro p hp z
    have q:=(I.pin p hp).1
    exact absurd (qh q) (by rw [z]; exact Nat.not_lt.mpr hC)
  ·refine thn (T.item (zL X scope cl (ts++xs) G.objs.size s H fp) rfl rfl rfl hc i _ s3 _ H3 E' I3p (fpk fr3 pl1) st3 go) fun r s4 ⟨u,hr,h4⟩=>?_
   subst hr
   refine thn h4 fun _ s5 ⟨x,H5,I5,r5,y5,st5,fr5⟩=>?_
   have I5':=I5.pinned (fpk fr5 pl1) (T.obj _ _ st5)
   refine zld (hg _ _ _ _ _ s5 _ H5 x u _ I5' r5 (gw _ _ _ (step x H5 y5))) fun _ s6 ⟨σ6,H6,I6,wk6,q6⟩=>?_
   refine zld (ht _ _ _ _ _ s6 σ6 H6 _ I6 q6) fun ok s7 ⟨H7,I7,q7⟩=>?_
   have after:∀ {H8:Hp} {s8:Shared},Inv (zL X scope cl (ts++xs) G.objs.size s H fp) ([(s.heap.objs.size,({ cls:=.type "list",data:=.seq its.toArray nn }:Obj))]++zfW fp s5.heap) σ6 H8 s8 ->
     tn (i+1) s8.heap/\(∀ b∈fp,H8 b=none)/\H8 s.heap.objs.size=none/\s8.heap.get? s.heap.objs.size=some { cls:=.type "list",data:=.seq its.toArray nn } /\
      Inv (zL X scope cl (ts++xs) G.objs.size s H fp) [] (c0 nt js σ) H8 s8:=fun{H8 s8} I8=>by
    have dd:=I8.pin (s.heap.objs.size,({ cls:=.type "list",data:=.seq its.toArray nn }:Obj)) (qv _ (List.mem_append_left _ qo))
    refine⟨T.keep _ _ _ st5 fun b hb o e=>(I8.pin (b,o) (qv _ (qv _ (zcn hb e)))).1,fun b hb=>?_,dd.2.1,dd.1,?_⟩
    ·obtain⟨o,e,d⟩:=T.obj _ _ st5 b hb
     exact(I8.pin (b,o) (qv _ (qv _ (zcn hb e)))).2.1
    ·exact(I8.weak wk6.1 wk6.2).pins_of fun p hp=>by cases hp
   refine⟨fun hok=>?_,fun hok=>?_⟩
   ·subst hok
    rw [if_pos rfl]at q7
    refine zld (he _ _ _ _ _ s7 σ6 H7 _ I7 q7) fun v s8 ⟨y,H8,I8,ry,q8⟩=>?_
    obtain⟨st8,fr8,d8,o8,I8'⟩:=after I8
    obtain⟨m',hm,w8⟩:=hN _ _ q8
    refine call_meets F.slot_list_append ⟨_,o8,rfl⟩ F.entry_list_append (F.args_list_append_2 _ _) (PySem.list_append s.heap.objs.size its.toArray nn v (by rw [List.size_toArray,<-r3.length]; omega)) ⟨o8,?_⟩
    obtain⟨_,f1,_,f3,f4,_⟩:=(⟨d8,cne,trivial,.inr (qe _),fun x c e=>by
     obtain⟨v0,ob,q,_⟩:=I.cell x c (zbG f x c e)
     exact qj (qh q),trivial⟩:H8 s.heap.objs.size=none/\s.heap.objs.size≠(zL X scope cl (ts++xs) G.objs.size s H fp).env.locals/\True/\(s.heap.objs.size∈fp\/s.heap.objs.size<=s.heap.objs.size) /\
      (∀ x c,cl.lookup x=some c->c≠s.heap.objs.size)/\True)
    have q:=PySem.IsL.update o8 (fun x=>x.push v)
    have hp:its.toArray.push v=(its++[v]).toArray:=by simp
    rw [hp]at q
    refine⟨m',hm,i+1,ys++[y],its++[v],_,H8,I8'.turned (t':=s8.toks) (it:=s.heap.objs.size) (fun b o hb e=>(Heap.get?_update_other s8.heap _ (Ne.symm hb)).trans e) d8 f1 f3 f4 (fun p hp=>by cases hp),?_,fr8,d8,q,r3.append (.cons ry .nil),?_,w8⟩
    ·exact T.keep _ _ _ st8 fun b hb o e=>(Heap.get?_update_other s8.heap _ (Dnot b hb)).trans e
    ·rw [qr,List.length_singleton]
     omega
   ·subst hok
    rw [if_neg qf]at q7
    obtain⟨st7,fr7,d7,o7,I7'⟩:=after I7
    obtain⟨m',hm,w7⟩:=hN _ _ q7
    exact⟨m',hm,i+1,ys,its,nn,H7,I7',st7,fr7,d7,o7,r3,z3,w7⟩
 exact codeAny_compStart_list loop (T.self _ _ _ _ _ st1 loop)
def tLC(wi:TI)(nt:Nat)(js:List Nat)(g:TG)(tt:TT)(te:TE):TE:=fun σ H Q=>wi σ H fun J H1 =>
 zxg J (c0 nt js σ) g tt te (fun ys H2=>∀ D,H2 D=none->Q (.ref D) (upd H2 D (.lst ys))) H1
theorem zxh{elt iter tg:Expr}{ifs:List Expr}{pos:Pos}{wi:TI}{g:TG}{tt:TT}{te:TE}(nt:Nat)(ts:List Str)(hts:ts.length=nt)(hc:X.calm=true)(S:ScC scope xs)(f:Frees X cl xs js)(hclos:closureFor scope X.env=pure cl)
  (hi:PI X tg iter wi) (hg:∀ C s H ex,PG (zL X scope cl (ts++xs) C s H ex) tg g) (gw:∀ σ:St,GW (c0 nt js σ) g) (ht:∀ C s H ex,zg4 (zL X scope cl (ts++xs) C s H ex) ifs tt)
  (he:∀ C s H ex,PE (zL X scope cl (ts++xs) C s H ex) elt te) (hs:∀ x,foldedSetIterable iter X.env x=pure x:=by intro _; rfl) :
  PE X (.ListComp elt [⟨tg,iter,ifs,0⟩] scope pos) (tLC wi nt js g tt te):=by
 intro pins s σ H Q I h
 rw [eval_ListComp]
 refine wpAny_comprehension_free (use:=none) rfl hs hclos S.kind S.names (thn (hi pins s σ H _ I h) fun v s1 h1=>thn h1 fun itv s2 h2=>?_)
 obtain⟨it,fp,tn,J,H2,e,I2,T,st2,f2,q⟩:=h2
 subst e
 refine zg5 (RR:=fun acc C=>compPost (model X.prog X.w) X.A X.xe none (EP X pins σ Q) acc C) hc I2 S f hts T st2 f2 hg ht he (gw σ) q ?_
 intro D C m s' ys H' z hD I' hn hCn hCL hCc hCs hCp
 refine⟨m,hn,fun h' hs'=>⟨.ref D,_,I'.turned (it:=C) (fun b o hb e=>hs'.extBut b o hb e) hCn hCL (.inr hCs) hCc hCp,rfl,z D hD⟩⟩
end
section
variable {X:Cx}
def zih(_ j:Int):Prop:=0 < j/\j.natAbs.log2 < 9000
theorem zfl:OpR X (binaryOp .FloorDiv) (rI zih fun i j=>.int (i / j)):=opI fun i j _ _ _ _ _ hc q=>by
 have h1:(0:Int) < j:=hc.1
 exact floordiv_int (by omega) (by rw [Int.fdiv_eq_ediv_of_nonneg i (by omega)]; exact q) (.inl (PyProof.noPylong_of_log2 hc.2))
def zg6(_ j:Int):Prop:=j≠0/\j.natAbs.log2 < 9000
theorem zdw:OpR X (binaryOp .FloorDiv) (rI zg6 fun i j=>.int (i.fdiv j)):=opI fun i j _ _ _ _ _ hc q =>
 floordiv_int hc.1 q (.inl (PyProof.noPylong_of_log2 hc.2))
theorem zbY{n:Nat}{k:Nat}(hk:0 < k)(h:n < 2^k):n.log2 < k:=by
 by_cases hn:n=0
 ·subst hn; exact hk
 ·exact(Nat.log2_lt hn).mpr h
theorem zsz{i j:Int}(h:0 < j)(h2:j<=2^128):zih i j:=⟨h,Nat.lt_trans (zbY (k:=129) (by decide) (by omega)) (by decide)⟩
def zvM(K:qc):List V->Hp->VK->Prop:=fun xs H Q=>∃ x t T b,xs=[x,.ty T]/\TyOf K H x t/\PySem.W.kitOne K t (.type T)=some b/\Q (.bl b) H
theorem zpb:zbU X (.builtin "isinstance") (zvM X.K):=by
 intro pins s σ H xs us Q I r h
 obtain⟨x,t,T,b,rfl,ty,e,q⟩:=h
 obtain⟨u,u',rfl,rx,rt⟩:=zmb r
 cases rt
 exact znK I rx ty e fun tk=>⟨.bl b,H,I.tok tk,rfl,q⟩
end
theorem zgC{nt:Nat}{js:List Nat}{i:Nat}(h:i < nt):∀ σ:St,GW (c0 nt js σ) (zds i):=fun σ x H Q q=>⟨zvK (ziP h),q⟩
def SameBut(p:Addr)(H H':Hp):Prop:=∀ b o,b≠p->H b=some o->H' b=some o
theorem zP{H:Hp}{p:Addr}(h:H p=none)(o:HO):zbf H (upd H p o):=fun b u q=>by rw [zA (zac q h)]; exact q
def Bl(mg:Str->Option Value)(xs:List Str):Prop:=∀ x,x∈xs->mg x=none
theorem Bl.nil{mg:Str->Option Value}:Bl mg []:=fun _ h=>by cases h
theorem Bl.cons{mg:Str->Option Value}{x:Str}{xs:List Str}(h:mg x=none)(t:Bl mg xs):Bl mg (x::xs):=fun y m=>by
 rcases qu.mp m with e | e
 ·rw [e]; exact h
 ·exact t y e
def zah:Expr->Bool
 | .Starred _ _=>false
 | _=>true
theorem zdg{e:Expr}{es:List Expr}{env:Env}(h:zah e=true):starEach (e::es) env=(false,eval e env)::starEach es env:=by
 cases e<;>first | rfl | cases h
theorem zcQ{pos:Pos}{env:Env}:∀ {es:List Expr},es.all zah=true->(backTo pos (starEach es env)).any (·.1)=false
 | [],_=>rfl
 | e::es,h=>by
  rw [List.all_cons,Bool.and_eq_true]at h
  rw [zdg h.1]
  show(false || (backTo pos (starEach es env)).any (·.1))=false
  rw [Bool.false_or]
  exact zcQ h.2
section
variable {X:Cx} {e:Expr} {es:List Expr} {te:TE} {t:TA} {r:List V->Hp->VK->Prop} {x:Str} {id T:String} {p pos:Pos}
theorem zyC(ha:PE X e te)(hr:PA X es t)(hs:zah e=true:=by rfl):PA X (e::es) (zfi te t):=zsk ha hr (zdg hs)
theorem zxi(hc:zbU X (.builtin id) r)(hg:Gl X x)(hm:X.mg x=none)(hv:bootBuiltins x=some (.builtin id))(ha:PA X (e::es) t)(hn:x ≠ "__name__":=by decide)(hdb:(x==("__debug__":Str))=false:=by decide)
  (he:zah e=true:=by rfl) (hpl:es.all zah=true:=by rfl):PE X (.Call (.Name x p) (e::es) [] pos) (tCB r t):=zoT hc hg hm hv ha hn hdb (zdg he) (zcQ hpl)
theorem zxj(hc:zbU X (.type T) r)(hg:Gl X x)(hm:X.mg x=none)(hv:bootBuiltins x=some (.type T))(ha:PA X (e::es) t)(hn:x ≠ "__name__":=by decide)(hdb:(x==("__debug__":Str))=false:=by decide)
  (he:zah e=true:=by rfl) (hpl:es.all zah=true:=by rfl):PE X (.Call (.Name x p) (e::es) [] pos) (tCB r t):=znM hc hg hm hv ha hn hdb (zdg he) (zcQ hpl)
end
structure Cal (P:Program) (w:World) (K:qc) (mg:Str->Option Value) (base:Heap) (x:Str) (k:Nat) (ps:List Str) (sp:Sp):Prop where
 ex:∃ (f:Addr) (fd:FuncData),FnOk P w K mg base CX0 k f fd ps sp/\zfj K fd ps []/\PySem.W.keepIn K (.ref f)=true/\mg x=some (.ref f)
def zvN(sp:Sp)(t:TA):TE:=fun σ H Q=>t σ H fun vs H1=>sp vs H1 Q E0
section
variable {X:Cx} {k:Nat} {ps:List Str} {sp:Sp} {x:Str} {p pos:Pos} {e:Expr} {es:List Expr} {t:TA}
theorem zvO(C:Cal X.prog X.w X.K X.mg X.base x k ps sp)(hr:Room k X.A)(hg:Gl X x)(ha:PA X (e::es) t)(hdb:(x==("__debug__":Str))=false:=by decide)
  (he:zah e=true:=by rfl) (hpl:es.all zah=true:=by rfl):PE X (.Call (.Name x p) (e::es) [] pos) (zvN sp t):=by
 obtain⟨f,fd,F,hb,hk,hm⟩:=C.ex
 intro pins s σ H Q I h
 refine zsl (dvs:=[]) (E:=E0) F hr hg hm hk hb .nil ztJ ha hdb (zdg he) (zcQ hpl) pins s σ H Q I ?_
 show t σ H fun vs H1=>sp (vs++[]) H1 Q E0
 have z:(fun(vs:List V) (H1:Hp)=>sp (vs++[]) H1 Q E0)=fun vs H1=>sp vs H1 Q E0:=by
  funext vs H1
  rw [List.append_nil]
 rw [z]
 exact h
end
def zpc(t:TS):TS:=fun D σ H=>∃ J:St->Hp->Prop,t { D with nx:=J } σ H/\∀ σ' H',J σ' H'->D.nx σ' H'
theorem zsA{X:Cx}{st:Stmt}{t:TS}(h:PS X st t):PS X st (zpc t):=by
 intro pins s σ H D I ⟨J,q,z⟩
 refine thn (h pins s σ H _ I q) fun f s' r=>?_
 cases f with
 | next=>obtain⟨σ',H',I',j⟩:=r; exact⟨σ',H',I',z _ _ j⟩
 | brk=>exact r
 | cont=>exact r
 | ret u=>exact r
theorem zjO(x y:Int)(hx:0<=x)(hy:0 < y):Int.gcd y (x % y)=Int.gcd x y:=by
 obtain⟨a,rfl⟩:=Int.eq_ofNat_of_zero_le hx
 obtain⟨b,rfl⟩:=Int.eq_ofNat_of_zero_le (Int.le_of_lt hy)
 rw [<-Int.natCast_emod]
 show Nat.gcd b (a % b)=Nat.gcd a b
 rw [Nat.gcd_comm a b,Nat.gcd_comm b (a % b)]
 exact(Nat.gcd_rec b a).symm
theorem ziQ(x y:Int):Int.gcd (if x < 0 then -x else x) y=Int.gcd x y:=by
 split
 ·exact Int.neg_gcd
 ·rfl
structure Wr (p:Prop):Prop where
 run:p
section
variable {X:Cx} {pos p pos':Pos} {e a b c o:Expr} {es zdr:List Expr} {te ta tb:TE} {t:TA} {r:List V->Hp->VK->Prop} {rd:R2} {x:Str} {id T:String} {i j:Nat} {tA tB':TT} {st:Stmt} {sts body:List Stmt} {ts us:TS} {g:TG} {gs:TGs} {wi:TI} {tg:Expr}
theorem w_v(i:Nat)(hN:X.N[i]?=some x:=by rfl)(hv:Vis X.env.scope x:=by first | exact Or.inl rfl | exact Or.inr (Or.inl rfl) | exact Or.inr (Or.inr rfl))(hd:(x==("__debug__":Str))=false:=by decide)
  (hcd:(x==("__classdict__":Str))=false:=by decide):Wr (PE X (.Name x pos) (zfg i)):=⟨pv i hN hv hd hcd⟩
theorem zq{n:Int}:Wr (PE X (.Constant (.int n) j pos) (tC (.int n))):=⟨zuT⟩
theorem zvP{n:Bool}:Wr (PE X (.Constant (.bool n) j pos) (tC (.bl n))):=⟨zw2⟩
theorem zpd:Wr (PE X (.Constant .none j pos) (tC .non)):=⟨zuU⟩
theorem zcl{n:Str}:Wr (PE X (.Constant (.str n) j pos) (tC (.str n))):=⟨zuV⟩
theorem zvQ{v:V}{u:Value}(hg:Gl X x)(hm:X.mg x=none)(hv:bootBuiltins x=some u)(r:zU v u)(hn:x ≠ "__name__":=by decide)(hd:(x==("__debug__":Str))=false:=by decide):Wr (PE X (.Name x pos) (tC v)):=⟨zr1 hg hm hv r hn hd⟩
theorem zJ{op:Operator}(ho:OpR X (binaryOp op) rd)(ha:Wr (PE X a ta))(hb:Wr (PE X b tb)):Wr (PE X (.BinOp a op b pos) (tOp rd ta tb)):=⟨zw5 ho ha.run hb.run⟩
theorem zpe{op:UnaryOp}{r:V->Hp->VK->Prop}(ho:UnR X (unaryOp op) r)(ha:Wr (PE X a ta)):Wr (PE X (.UnaryOp op a pos) (tUn r ta)):=⟨zw6 ho ha.run⟩
theorem w_not(ha:Wr (PE X a ta)):Wr (PE X (.UnaryOp .Not a pos) (ztG ta)):=⟨zu2 ha.run⟩
theorem ztK{op:CmpOp}(ho:OpR X (compareOp op) rd)(ha:Wr (PE X a ta))(hb:Wr (PE X b tb))(hm:behindInMarks op b=false):Wr (PE X (.Compare a [op] [b] pos) (tOp rd ta tb)):=⟨zse ho ha.run hb.run hm⟩
theorem zap{op:CmpOp}(ho:OpR X (compareOp op) rd)(ha:Wr (PE X a ta))(hb:Wr (PE X b tb))(hm:behindInMarks op b=false):Wr (PT X (.Compare a [op] [b] pos) (zoP (tOp rd ta tb))):=⟨zsf ho ha.run hb.run hm⟩
theorem zgD(ha:Wr (PT X a tA)):Wr (PW X (.BoolOp .And [a] pos) tA):=⟨zr2 ha.run⟩
theorem zpf(ha:Wr (PT X a tA)):Wr (PW X (.BoolOp .Or [a] pos) tA):=⟨zuZ ha.run⟩
theorem ziR(ha:Wr (PT X a tA))(hb:Wr (PW X (.BoolOp .And (b::zdr) pos) tB')):Wr (PW X (.BoolOp .And (a::b::zdr) pos) (zuX tA tB')):=⟨zu0 ha.run hb.run⟩
theorem ztL(ha:Wr (PT X a tA))(hb:Wr (PW X (.BoolOp .Or (b::zdr) pos) tB')):Wr (PW X (.BoolOp .Or (a::b::zdr) pos) (tOr tA tB')):=⟨zw3 ha.run hb.run⟩
theorem znT(h:Wr (PW X e tA)):Wr (PT X e tA):=⟨h.run.pt⟩
theorem zpg(ha:Wr (PT X a tA)):Wr (PT X (.UnaryOp .Not a pos) (zuY tA)):=⟨zu1 ha.run⟩
theorem zph(h:Wr (PE X e te))(he:∀ whole,isTrue e X.env whole=(do let v <-whole; standAt e.pos; holding [v] (truthy v)):=by intro _; rfl):Wr (PT X e (tB te)):=⟨zuW h.run he⟩
def zxk(K:qc)(ta:TE):TT:=fun σ H Q=>ta σ H fun x H'=>∃ k,zvn K x H' k/\Q k H'
theorem ztM(hc:Wr (PT X c tA))(ha:Wr (PE X a ta))(hb:Wr (PE X b tb)):Wr (PE X (.IfExp c a b pos) (tIf tA ta tb)):=⟨zoE hc.run ha.run hb.run⟩
theorem zj:Wr (PA X [] zk5):=⟨zvp⟩
theorem w_a(ha:Wr (PE X e te))(hr:Wr (PA X es t))(hs:zah e=true:=by rfl):Wr (PA X (e::es) (zfi te t)):=⟨zyC ha.run hr.run hs⟩
theorem zay{x1}(h:Wr (PA X es t)):Wr (PE X (.Tuple es x1 pos) (zvq t)):=⟨zvs h.run⟩
theorem zeF(h:Wr (PA X es t)):Wr (PE X (.List es pos) (zvr t)):=⟨zvt h.run⟩
theorem zcD(hc:zbU X (.builtin id) r)(hg:Gl X x)(hm:X.mg x=none)(hv:bootBuiltins x=some (.builtin id))(ha:Wr (PA X (e::es) t))(hn:x ≠ "__name__":=by decide)(hdb:(x==("__debug__":Str))=false:=by decide)
  (he:zah e=true:=by rfl) (hpl:es.all zah=true:=by rfl):Wr (PE X (.Call (.Name x p) (e::es) [] pos) (tCB r t)):=⟨zxi hc hg hm hv ha.run hn hdb he hpl⟩
theorem zfm(hc:zbU X (.type T) r)(hg:Gl X x)(hm:X.mg x=none)(hv:bootBuiltins x=some (.type T))(ha:Wr (PA X (e::es) t))(hn:x ≠ "__name__":=by decide)(hdb:(x==("__debug__":Str))=false:=by decide)
  (he:zah e=true:=by rfl) (hpl:es.all zah=true:=by rfl):Wr (PE X (.Call (.Name x p) (e::es) [] pos) (tCB r t)):=⟨zxj hc hg hm hv ha.run hn hdb he hpl⟩
theorem zR{k:Nat}{ps:List Str}{sp:Sp}(C:Cal X.prog X.w X.K X.mg X.base x k ps sp)(hr:Room k X.A)(hg:Gl X x)(ha:Wr (PA X (e::es) t))(hdb:(x==("__debug__":Str))=false:=by decide)
  (he:zah e=true:=by rfl) (hpl:es.all zah=true:=by rfl):Wr (PE X (.Call (.Name x p) (e::es) [] pos) (zvN sp t)):=⟨zvO C hr hg ha.run hdb he hpl⟩
theorem zbs(hr:IxR X rd)(ha:Wr (PE X a ta))(hb:Wr (PE X b tb))(hs:zmf b):Wr (PE X (.Subscript a b pos) (tOp rd ta tb)):=⟨zxb hr ha.run hb.run hs⟩
theorem zfn:Wr (PO X none ziK):=⟨zsn⟩
theorem zfo(h:Wr (PE X e te)):Wr (PO X (some e) (zoV te)):=⟨zso h.run⟩
theorem zfp{r:V->Option Int->Option Int->Hp->VK->Prop}{lo hi:Option Expr}{tl th:TO}{p2:Pos}(hr:SlR X r)(he:Wr (PE X e te))(hl:Wr (PO X lo tl))(hu:Wr (PO X hi th)):Wr (PE X (.Subscript e (.Slice lo hi none p2) pos) (tSl r te tl th)):=⟨zoW hr he.run hl.run hu.run⟩
theorem zcy{ta:TA}(hg:Gl X "range")(hm:X.mg "range"=none)(ha:Wr (PA X [a] ta))(hs:zah a=true:=by rfl):Wr (PI X tg (.Call (.Name "range" p) [a] [] pos) (zoM ta)):=⟨znE hg hm ha.run (zdg hs)⟩
theorem zy(hN:X.N.Nodup)(hi:X.N[i]?=some x)(hx:Loc X.env.scope x)(hf:X.fn x=true\/X.env.scope.names.lookup x=some .local:=by first | exact .inl rfl | exact .inr rfl | assumption):Wr (PG X (.Name x pos) (zds i)):=⟨zr7 hN hi hx hf⟩
theorem zbt:Wr (PGs X [] zr8):=⟨zr9⟩
theorem w_g(h1:Wr (PG X e g))(h2:Wr (PGs X es gs))(hs:(assignEach (e::es) X.env).map (·.2)=assign e X.env::(assignEach es X.env).map (·.2):=by rfl):Wr (PGs X (e::es) (zjC g gs)):=⟨zoI h1.run h2.run hs⟩
theorem zlf{ti:TE}{tset:zr6}(ho:Wr (PE X o ta))(hi:Wr (PE X e ti))(hs:zu5 X tset)
  (hh:∀ v,assign (.Subscript o e pos) X.env v=(do
   let ov <-holding [v] (eval o X.env)
   let iv <-holding [v,ov] (eval e X.env)
   standAt pos
   holding [v,ov,iv] (setItem ov iv v)
   release [v,ov,iv] []):=by intro _; rfl):Wr (PG X (.Subscript o e pos) (zu7 ta ti tset)):=⟨zu8 ho.run hi.run hs hh⟩
theorem zdY:Wr (zg4 X [] zvL):=⟨zo9⟩
theorem zpi(h:Wr (PT X c tA)):Wr (zg4 X [c] tA):=⟨zpa h.run⟩
theorem znU{elt iter:Expr}{ifs:List Expr}{scope:Scope}{cl:List (Str×Addr)}{xs:List Str}{js:List Nat}{tt:TT}(nt:Nat)(ns:List Str)(hts:ns.length=nt)(hc:X.calm=true)(S:ScC scope xs)(f:Frees X cl xs js)(hclos:closureFor scope X.env=pure cl)
  (hi:Wr (PI X tg iter wi)) (hg:∀ C s H ex,Wr (PG (zL X scope cl (ns++xs) C s H ex) tg g)) (gw:∀ σ:St,GW (c0 nt js σ) g) (ht:∀ C s H ex,Wr (zg4 (zL X scope cl (ns++xs) C s H ex) ifs tt))
  (he:∀ C s H ex,Wr (PE (zL X scope cl (ns++xs) C s H ex) elt te)) (hs:∀ x,foldedSetIterable iter X.env x=pure x:=by intro _; rfl) :
  Wr (PE X (.ListComp elt [⟨tg,iter,ifs,0⟩] scope pos) (tLC wi nt js g tt te)):=⟨zxh nt ns hts hc S f hclos hi.run (fun C s H ex=>(hg C s H ex).run) gw (fun C s H ex=>(ht C s H ex).run) (fun C s H ex=>(he C s H ex).run) hs⟩
def zxl(K:qc):List V->Hp->VK->Prop:=fun xs H Q=>∃ p ys,xs=[.ref p]/\(SqL K H p ys\/SqT K H p ys)/\Q (.int ys.length) H
def zjP(K:qc):List V->Hp->VK->Prop:=fun xs H Q=>∃ p ys,xs=[.ref p]/\((SqL K H p ys/\∀ l,H l=none->Q (.ref l) (upd H l (.tup ys)))\/(SqT K H p ys/\Q (.ref p) H))
theorem zxm(K:qc)(hK:X.K=K):zbU X (.builtin "isinstance") (zvM K):=hK▸zpb
theorem zdS(K:qc)(hK:X.K=K):zbU X (.builtin "len") (zxl K):=hK▸ziO
theorem zbH(K:qc)(hK:X.K=K):zbU X (.type "tuple") (zjP K):=hK▸zhN
theorem zeG(K:qc)(hK:X.K=K):IxR X (zvx K):=hK▸zsr
theorem zbx(K:qc)(hK:X.K=K):IxR X (zvy K):=hK▸zvz
theorem zxn(K:qc)(hK:X.K=K):OpR X (compareOp .In) (rIn K false):=hK▸znN
theorem zmj(K:qc)(hK:X.K=K):OpR X (compareOp .NotIn) (rIn K true):=hK▸ziN
theorem zpj(K:qc)(hK:X.K=K):SlR X (zvA K):=hK▸zss
theorem ziS{l:Expr}{tl:TE}(K:qc)(hK:X.K=K)(hl:Wr (PE X l tl)):Wr (PI X tg l (zoK K tl)):=hK▸⟨zsb hl.run⟩
theorem zpk{l:Expr}{tl:TE}(K:qc)(hK:X.K=K)(hl:Wr (PE X l tl)):Wr (PI X tg l (zvd K tl)):=hK▸⟨zve hl.run⟩
theorem zbu{k n:Nat}(K:qc)(hK:X.K=K)(hc:X.calm=true)(h:Wr (PGs X es gs))(hn:(assignEach es X.env).length=n:=by rfl)(hst:(assignEach es X.env).findIdx? (·.1)=none:=by rfl):Wr (PG X (.Tuple es k pos) (zsa K n gs)):=hK▸⟨zu6 hc h.run hn hst⟩
theorem ztN(K:qc)(hK:X.K=K)(ha:Wr (PE X a ta))(he:∀ whole,isTrue a X.env whole=(do let v <-whole; standAt a.pos; holding [v] (truthy v)):=by intro _; rfl):Wr (PT X a (zxk K ta)):=hK▸⟨zoQ ha.run he⟩
theorem zbb:Wr (PSs X [] zoF):=⟨zr3⟩
theorem w_s(h1:Wr (PS X st ts))(h2:Wr (PSs X sts us)):Wr (PSs X (st::sts) (zoG ts us)):=⟨zgU h1.run h2.run⟩
theorem zX(h1:Wr (PS X st ts)):Wr (PSs X [st] ts):=⟨zl6 h1.run⟩
theorem zg7(he:Wr (PE X e te))(hs:swapsWith e none pos.line X.env=pure false:=by rfl):Wr (PS X (.Expr e pos) (zoH te)):=⟨zr4 he.run hs⟩
theorem zax(he:Wr (PE X e te)):Wr (PS X (.Return (some e) pos) (zr5 te)):=⟨zu3 he.run⟩
theorem zdx{sa sb:List Stmt}(hc:Wr (PT X c tA))(ha:Wr (PSs X sa ts))(hb:Wr (PSs X sb us)):Wr (PS X (.If c sa sb pos) (zu4 tA ts us)):=⟨zw4 hc.run ha.run hb.run⟩
theorem zeN(h:Wr (PS X st ts)):Wr (PS X st (zpc ts)):=⟨zsA h.run⟩
theorem zmk(hp:PassesOwn (model X.prog X.w) X.A X.env X.xe)(hc:Wr (PT X c tA))(hb:Wr (PSs X body ts)):Wr (PS X (.While c body [] pos) (zkX tA ts)):=⟨zoJ hp hc.run hb.run⟩
theorem zbO{iter:Expr}(hp:PassesOwn (model X.prog X.w) X.A X.env X.xe)(hc:X.calm=true)(hi:Wr (PI X tg iter wi))(hg:Wr (PG X tg g))(hb:Wr (PSs X body ts))(hs:∀ x,foldedSetIterable iter X.env x=pure x:=by intro _; rfl) :
  Wr (PS X (.For tg iter body [] pos) (zvf wi g ts)):=⟨zvg hp hc hi.run hg.run hb.run hs⟩
theorem zH(hN:X.N.Nodup)(hi:X.N[i]?=some x)(hx:Loc X.env.scope x)(he:Wr (PE X e te))(hs:swapsWith e (some (.Name x pos')) pos.line X.env=pure false:=by rfl)(hf:X.fn x=true\/X.env.scope.names.lookup x=some .local:=by first | exact .inl rfl | exact .inr rfl | assumption) :
  Wr (PS X (.Assign [.Name x pos'] e pos) (ziJ te (zds i))):=⟨zva hN hi hx he.run hs hf⟩
theorem zii(he:Wr (PE X e te))(hg:Wr (PG X tg g))(hs:swapsWithSole [tg] e pos.line X.env=pure false:=by rfl)(hw:swappedStores [tg] e X.env=pure none:=by rfl)(h1:(assignEach [tg] X.env).map (·.2)=[assign tg X.env]:=by rfl) :
  Wr (PS X (.Assign [tg] e pos) (ziJ te g)):=⟨zu9 he.run hg.run hs hw h1⟩
theorem zpl{x y:Str}{ta:TA}{px py pt:Pos}{kt k2 pt2}(hc:X.calm=true)(hN:X.N.Nodup)(hi:X.N[i]?=some x)(hj:X.N[j]?=some y)(hij:i≠j)
  (hx:X.env.scope.names.lookup x=some .local) (hy:X.env.scope.names.lookup y=some .local) (ha:Wr (PA X [a,b] ta))
  (hw:swappedStores [.Tuple [.Name x px,.Name y py] kt pt] (.Tuple [a,b] k2 pt2) X.env=pure (some [x,y]))
  (hs:swapsWithSole [.Tuple [.Name x px,.Name y py] kt pt] (.Tuple [a,b] k2 pt2) pos.line X.env=pure false:=by rfl) :
  Wr (PS X (.Assign [.Tuple [.Name x px,.Name y py] kt pt] (.Tuple [a,b] k2 pt2) pos) (zvb i j ta)):=⟨zvc hc hN hi hj hij hx hy ha.run hw hs⟩
end
theorem Fun.okW{P:Program}{w:World}{K:qc}{mg:Str->Option Value}{base:Heap}{x qual:Str}{st:Stmt}{f:Addr}{fd:FuncData}{N ps:List Str}{k:Nat}{sp:Sp}(F:Fun K x qual st f fd)(S:FnScope N ps (zn st))(len:∀ vs H Q E,sp vs H Q E->vs.length=ps.length)
  (hbody:∀ (cdv:Value) (A:Around) (outer:List Env) (s:Shared) (H:Hp) (vs:List V) (Q:VK) (E:XK),Room k (A.deeper (envOfC qual (zn st) s.heap.objs.size f cdv))->sp vs H Q E ->
   ∃ t,Wr (PSs (zjF CX0 P w K mg base N qual (zn st) f cdv A outer s H E).nox (zI st) t)/\t { nx:=fun _ H'=>Q .non H',rt:=Q } (zck N vs) H):FnOk P w K mg base CX0 (k+1) f fd ps sp :=
 F.ok S len fun cdv A outer s H vs Q E hr h=>let ⟨t,w,q⟩:=hbody cdv A outer s H vs Q E hr h; ⟨t,w.run,q⟩
mutual
inductive DV (K:qc) (H:Hp):V->PyData->Prop
 | non:DV K H .non .none
 | bl (b:Bool):DV K H (.bl b) (.bool b)
 | int (i:Int):DV K H (.int i) (.int i)
 | str (x:Str):DV K H (.str x) (.str x)
 | lst {a:Addr} {xs:List V} {ds:List PyData} (h:SqL K H a xs) (t:DVs K H xs ds):DV K H (.ref a) (.list ds)
 | tup {a:Addr} {xs:List V} {ds:List PyData} (h:SqT K H a xs) (t:DVs K H xs ds):DV K H (.ref a) (.tuple ds)
inductive DVs (K:qc) (H:Hp):List V->List PyData->Prop
 | nil:DVs K H [] []
 | cons {v:V} {d:PyData} {vs:List V} {ds:List PyData} (h:DV K H v d) (t:DVs K H vs ds):DVs K H (v::vs) (d::ds)
end
theorem zbf.seqT{K:qc}{H H':Hp}{a:Addr}{xs:List V}(e:zbf H H')(h:SqT K H a xs):SqT K H' a xs:=by
 rcases h with (h | ⟨o,h⟩) | h
 ·exact .inl (.inl (e _ _ h))
 ·exact .inl (.inr ⟨o,e _ _ h⟩)
 ·exact .inr h
mutual
theorem DV.same{K:qc}{H H':Hp}(e:zbf H H'):∀ {v:V} {d:PyData},DV K H v d->DV K H' v d
 | _,_,.non=>.non
 | _,_,.bl b=>.bl b
 | _,_,.int i=>.int i
 | _,_,.str x=>.str x
 | _,_,.lst h t=>.lst (e.seq h) (DVs.same e t)
 | _,_,.tup h t=>.tup (e.seqT h) (DVs.same e t)
theorem DVs.same{K:qc}{H H':Hp}(e:zbf H H'):∀ {v:List V} {d:List PyData},DVs K H v d->DVs K H' v d
 | _,_,.nil=>.nil
 | _,_,.cons h t=>.cons (DV.same e h) (DVs.same e t)
end
section
variable {X:Cx} {pins:List (Addr×Obj)} {σ:St} {H:Hp} {s:Shared}
mutual
theorem DV.reads(I:Inv X pins σ H s):∀ {v:V} {d:PyData} {u:Value},DV X.K H v d->zU v u->∃ as,Reads s.heap u d as
 | _,_,_,.non,r=>by cases r; exact⟨_,.none⟩
 | _,_,_,.bl b,r=>by cases r; exact⟨_,.bool b⟩
 | _,_,_,.int i,r=>by obtain⟨t,rfl⟩:=r; exact⟨_,.int i t⟩
 | _,_,_,.str x,r=>by obtain⟨t,rfl⟩:=r; exact⟨_,.str x t⟩
 | _,_,_,.lst h t,r=>by
  cases r
  obtain⟨its,rv,⟨o,n,e1,e2,e3,e4⟩,hz⟩:=I.list h
  obtain⟨as,q⟩:=DVs.reads I t rv
  exact⟨_,.list e1 e2 e4 q⟩
 | _,_,_,.tup h t,r=>by
  cases r
  obtain⟨its,rv,⟨o,e1,e2,n,e4⟩,hz⟩:=I.tuple h
  obtain⟨as,q⟩:=DVs.reads I t rv
  exact⟨_,.tuple e1 e2 e4 q⟩
theorem DVs.reads(I:Inv X pins σ H s):∀ {v:List V} {d:List PyData} {u:List Value},DVs X.K H v d->zN v u->∃ as,ReadsAll s.heap u d as
 | _,_,_,.nil,r=>by cases r; exact⟨_,.nil⟩
 | _,_,_,.cons h t,r=>by
  cases r with
  | cons r1 r2 =>
   obtain⟨a1,q1⟩:=DV.reads I h r1
   obtain⟨a2,q2⟩:=DVs.reads I t r2
   exact⟨_,.cons q1 q2⟩
end
end
section
variable {X:Cx} {pos p pos':Pos} {e a b c o:Expr} {es zdr:List Expr} {te ta tb:TE} {t:TA} {r:List V->Hp->VK->Prop} {rd:R2} {x:Str} {id T:String} {i j:Nat} {tA tB':TT} {st:Stmt} {sts body:List Stmt} {ts us:TS} {g:TG} {gs:TGs} {wi:TI} {tg:Expr}
theorem zxo{y:Str}{py spos:Pos}{elt iter:Expr}{ifs:List Expr}{scope:Scope}{cl:List (Str×Addr)}{xs:List Str}{js:List Nat}{tt:TT}(hN:X.N.Nodup)(hi':X.N[i]?=some y)(hy:Loc X.env.scope y)
  (nt:Nat) (ns:List Str) (hts:ns.length=nt) (hc:X.calm=true) (S:ScC scope xs) (f:Frees X cl xs js) (hclos:closureFor scope X.env=pure cl)
  (hi:Wr (PI X tg iter wi)) (hg:∀ C s H ex,Wr (PG (zL X scope cl (ns++xs) C s H ex) tg g)) (gw:∀ σ:St,GW (c0 nt js σ) g) (ht:∀ C s H ex,Wr (zg4 (zL X scope cl (ns++xs) C s H ex) ifs tt))
  (he:∀ C s H ex,Wr (PE (zL X scope cl (ns++xs) C s H ex) elt te)) (hs:∀ x,foldedSetIterable iter X.env x=pure x:=by intro _; rfl)
  (hsw:swapsWith (.ListComp elt [⟨tg,iter,ifs,0⟩] scope pos) (some (.Name y py)) spos.line X.env=pure true:=by rfl)
  (hf:X.fn y=true\/X.env.scope.names.lookup y=some .local:=by first | exact .inl rfl | exact .inr rfl | assumption) :
  Wr (PS X (.Assign [.Name y py] (.ListComp elt [⟨tg,iter,ifs,0⟩] scope pos) spos) (ziJ (tLC wi nt js g tt te) (zds i))):=by
 refine⟨?_⟩
 intro pins s σ H D I h
 rw [exec_Assign_Name_used _ _ _ _ hsw]
 refine qa (wpAny_standAt (qa ?_))
 show wpAny _ X.A (do let _ <-comprehension (.ListComp elt [⟨tg,iter,ifs,0⟩] scope pos) scope X.env _ (newList []) false (eval iter X.env) (some (assign (.Name y py) X.env))) _ _ s
 refine qa (wpAny_mono (wpAny_comprehension_free (use:=some (assign (.Name y py) X.env)) (Q:=fun _ s'=>SP X pins D .next s') rfl hs hclos S.kind S.names
  (thn (hi.run pins s σ H _ I h) fun v s1 h1=>thn h1 fun itv s2 h2=>?_)) (fun _ s' hq=>qb (qb hq)) fun _ _ e=>e)
 obtain⟨it,fp,tn,J,H2,e,I2,T,st2,f2,q⟩:=h2
 subst e
 refine zg5 (RR:=fun acc C=>compPost (model X.prog X.w) X.A X.xe (some (assign (.Name y py) X.env)) (fun _ s'=>SP X pins D .next s') acc C) hc I2 S f hts T st2 f2 (fun C s H ex=>(hg C s H ex).run) (fun C s H ex=>(ht C s H ex).run) (fun C s H ex=>(he C s H ex).run) (gw σ) q ?_
 intro D' C m s' ys H' z hD I' hn hCn hCL hCc hCs hCp
 show wpAny _ _ (assign (.Name y py) X.env (.ref D')) _ _ _
 refine wpAny_assign_Name (zfU (v:=.ref D') I' hN hi' hy rfl (fun s'' I'' ⟨a,sb,ha⟩=>?_) hf)
 have ne:C≠a:=by
  rcases ha with rfl | ha
  ·exact hCL
  ·exact(hCc _ _ ha).symm
 exact⟨m,hn.sameBut sb ne,fun h' hs'=>⟨_,_,I''.turned (it:=C) (fun b o hb e=>hs'.extBut b o hb e) hCn hCL (.inr hCs) hCc hCp,z D' hD⟩⟩
theorem zlg{name:Str}{r:V->List V->Hp->VK->Prop}{apos cpos:Pos}(K:qc)(hK:X.K=K)(pa:PlainAttrs T)(slot:Slot T name id)(hty:typeOf (.builtin id)=pure (.type "method_descriptor"))(hm:MtM X id r)(ho:Wr (PE X o te))(ha:Wr (PA X (e::es) t))
  (hbase:attributeBase o name X.env (eval o X.env)=eval o X.env:=by rfl)
  (hfew:((backTo cpos (starEach (e::es) X.env)).all (fun x=>!x.1) && (backToKw cpos (keywordEach [] X.env)).all (fun x=>x.1.isSome)
   && decide ((e::es).length+([]:List Keyword).length+(if([]:List Keyword).isEmpty then 0 else 1) < 30))=true:=by rfl)
  (hline:(apos.endLine==cpos.line)=true:=by rfl) (hs:zah e=true:=by rfl) (hpl:es.all zah=true:=by rfl) :
  Wr (PE X (.Call (.Attribute o name apos) (e::es) [] cpos) (tBM K T r te t)):=hK▸⟨zxd pa slot hty hm ho.run ha.run hbase hfew hline (zdg hs) (zcQ hpl)⟩
theorem ztO{name:Str}{r:V->List V->Hp->VK->Prop}{apos cpos:Pos}(K:qc)(hK:X.K=K)(pa:PlainAttrs T)(slot:Slot T name id)(hty:typeOf (.builtin id)=pure (.type "method_descriptor"))(hm:MtM X id r)(ho:Wr (PE X o te))
  (hbase:attributeBase o name X.env (eval o X.env)=eval o X.env:=by rfl) (hline:(apos.endLine==cpos.line)=true:=by rfl) :
  Wr (PE X (.Call (.Attribute o name apos) [] [] cpos) (zvC K T r te)):=hK▸⟨zvD pa slot hty hm ho.run hbase hline⟩
theorem zf1{v:V}{u:Value}(hg:Gl X x)(hm:X.mg x=some u)(r:zU v u)(hd:(x==("__debug__":Str))=false:=by decide):Wr (PE X (.Name x pos) (tC v)):=⟨zr0 hg hm r hd⟩
theorem zml:∀ {ys:List Str} {us:List Value},zN (ys.map V.str) us->StrsAre us ys
 | [],_,r=>by cases r; exact .nil
 | y::ys,_,r=>by
  cases r with
  | cons r1 r2 =>
   obtain⟨t,rfl⟩:=r1
   exact .cons y t (zml r2)
def ztP(K:qc):V->List V->Hp->VK->Prop:=fun x vs H Q=>∃ sep a ys,x=.str sep/\vs=[.ref a]/\SqL K H a (ys.map V.str)/\(ys.map (·.length)).sum+ys.length * sep.length<=16777216/\Q (.str (Txt.join sep ys)) H
theorem zmm(K:qc)(hK:X.K=K):MtM X "str.join" (ztP K):=by
 intro pins s σ H x vs v us Q I rx rv h
 obtain⟨sep,a,ys,rfl,rfl,hS,hz,q⟩:=h
 obtain⟨t,rfl⟩:=rx
 obtain⟨u,rfl,ru⟩:=rv.one
 cases ru
 subst hK
 obtain⟨its,r,pl,_⟩:=I.list hS
 exact join_list pl.isList (by simpa using zml r) hz fun t' k=>⟨.str _,H,I.tok _,⟨_,rfl⟩,q⟩
def znV(x:Str)(n:Int):Str:=if n < 1 then Str.empty else if(n==1 || x.length==0)=true then x else⟨(List.replicate n.toNat x.cps).foldl (·++·) #[]⟩
theorem zlh:OpR X (binaryOp .Mult) (fun x y H Q=>∃ z n,x=.str z/\y=.int n/\0<=n/\n<=1/\Q (.str (znV z n)) H):=by
 intro pins s σ H x y v u Q I rx ry h
 obtain⟨z,n,rfl,rfl,h0,h1,q⟩:=h
 obtain⟨t,rfl⟩:=rx
 obtain⟨t',rfl⟩:=ry
 rcases(by omega:n=0\/n=1)with rfl | rfl
 ·exact PySem.P.mul_str_none (by decide) (by decide) ⟨.str _,H,I.tok _,⟨_,rfl⟩,q⟩
 ·refine PySem.P.mul_str (by decide) (fun _ z=>by simp at z) (fun _ z=>by simp at z) ?_
  rw [if_neg (by decide),if_pos (by rfl)]
  exact⟨.str _,H,I,⟨_,rfl⟩,q⟩
end
structure Kp (H H':Hp):Prop where
 tup:∀ b xs,H b=some (.tup xs)->H' b=some (.tup xs)
 frz:∀ b o u,H b=some (.frz o u)->H' b=some (.frz o u)
theorem Kp.refl(H:Hp):Kp H H:=⟨fun _ _ h=>h,fun _ _ _ h=>h⟩
theorem Kp.trans{H H1 H2:Hp}(a:Kp H H1)(b:Kp H1 H2):Kp H H2:=⟨fun x y h=>b.tup x y (a.tup x y h),fun x y z h=>b.frz x y z (a.frz x y z h)⟩
theorem zbf.kp{H H':Hp}(s:zbf H H'):Kp H H':=⟨fun _ _ h=>s _ _ h,fun _ _ _ h=>s _ _ h⟩
mutual
inductive DT (K:qc) (H:Hp):V->PyData->Prop
 | non:DT K H .non .none
 | bl (b:Bool):DT K H (.bl b) (.bool b)
 | int (i:Int):DT K H (.int i) (.int i)
 | str (x:Str):DT K H (.str x) (.str x)
 | tup {a:Addr} {xs:List V} {ds:List PyData} (h:SqT K H a xs) (t:DTs K H xs ds):DT K H (.ref a) (.tuple ds)
inductive DTs (K:qc) (H:Hp):List V->List PyData->Prop
 | nil:DTs K H [] []
 | cons {v:V} {d:PyData} {vs:List V} {ds:List PyData} (h:DT K H v d) (t:DTs K H vs ds):DTs K H (v::vs) (d::ds)
end
theorem DTs.cons_inv{K:qc}{H:Hp}{vs:List V}{d:PyData}{ds:List PyData}(h:DTs K H vs (d::ds)):∃ v ws,vs=v::ws/\DT K H v d/\DTs K H ws ds:=by
 cases h with
 | cons h t=>exact⟨_,_,rfl,h,t⟩
theorem SameBut.new{H H1:Hp}{p L:Addr}(s:SameBut p H H1)(hn:H L=none)(o:HO):SameBut p H (L2.upd H1 L o):=fun b u n h=>by
 rw [zA (zac h hn)]
 exact s b u n h
theorem zbf.new{H H1:Hp}{L:Addr}(s:zbf H H1)(hn:H L=none)(o:HO):zbf H (L2.upd H1 L o):=fun b u h=>by
 rw [zA (zac h hn)]
 exact s b u h
end L2
namespace HT
open PySem PyProof.Rows
open PySem.SeqAt
open PySem.MeetsSeq PySem.MeetsSeq2 PySem.MeetsSeq3
section
variable {prog:Program} {w:World} {A:Around} {E:Value->Shared->Prop} {s:Shared}
theorem getItem_tuple_all{t sl:Addr}{items:Array Value}{vl vu:Value}{lo hi:Option Int}{Q:Value->Shared->Prop}(ht:IsTup s.heap t items)(hs:s.heap.IsSliceOf sl vl vu .none)(pl:IsPart vl lo)(pu:IsPart vu hi)
  (hw:sIx items.size 0 lo=0/\sIx items.size items.size hi=items.size) (h:Q (.ref t) s):wpAny (model prog w) A (getItem (.ref t) (.ref sl)) Q E s:=by
 obtain⟨os,hos,hcs,hds⟩:=id hs
 have hTs:s.TypeIs (.ref sl) "slice":=⟨os,hos,hcs⟩
 unfold getItem
 try with_reducible refine wpAny_holding ?_
 first | refine wpAny_bind (wpAny_pure ?_) | skip
 refine wpAny_bind (wpAny_sequenceKey ht.typeIs (by decide) ?_)
 refine wpAny_bind (wpAny_callSpecial?_slot (name:=Str.ofString "__getitem__") ht.typeIs PyProof.Rows.slot_tuple_getitem
  (wpAny_call_entry PyProof.Rows.slot_tuple_getitem ht.typeIs entry_tuple_getitem ?_ (args_tuple_getitem _ _)))
 show wpAny _ _ (Builtin.Tuple.tupleItemsOf (.ref t) >>= _) _ _ s
 refine wpAny_bind (tupleItemsOf_ ht ?_)
 refine wpAny_bind (wpAny_typeOf hTs ?_)
 rw [if_pos (by decide)]
 refine wpAny_bind (zdu hs pl pu ?_)
 have hyes:(((sIx items.size 0 lo:Nat):Int)==0 && (1:Int)==1 && (sIx items.size items.size hi - sIx items.size 0 lo)==items.size)=true:=by
  rw [hw.1,hw.2]
  simp
 show wpAny _ _ (if(((sIx items.size 0 lo:Nat):Int)==0 && (1:Int)==1 && (sIx items.size items.size hi - sIx items.size 0 lo)==items.size)=true then _ else _) _ _ s
 rw [if_pos hyes]
 refine wpAny_bind (m:=Builtin.Tuple.tupleIsExact _) (wpAny_bind (wpAny_typeOf ht.typeIs (wpAny_pure ?_)))
 rw [if_pos (by decide)]
 exact wpAny_bind (wpAny_rule (wpAny_pure ⟨_,rfl,wpAny_pure h⟩))
end
end HT
namespace L2
open PySem PySem.Spec PyProof.Rows
section
variable {X:Cx}
end
section
variable {X:Cx} {tg:Expr}
end
section
variable {X:Cx}
end
section
variable {X:Cx}
end
section
variable {prog:Program} {w:World} {A:Around} {R:Result->Shared->Prop} {it:Addr} {fp wr:List Addr} {n:Nat} {P:Nat->Value->Prop} {St:Nat->Heap->Prop}
end
section
variable {prog:Program} {w:World} {A:Around} {E:Value->Shared->Prop} {s:Shared}
end
section
variable {X:Cx}
end
section
variable {prog:Program} {w:World} {A:Around} {E:Value->Shared->Prop} {s:Shared}
theorem zeO{it t:Addr}{i:Nat}{items:Array Value}{x:Value}{Q:Value->Shared->Prop}(hi:s.heap.IsTupleIter it t i)(ht:s.heap.IsTuple t items)(hx:items[i]?=some x)
  (q:∀ h',h'.IsTupleIter it t (i+1)->Heap.SameBut it s.heap h'->Q x { s with heap:=h' }):wpAny (model prog w) A (Builtin.SmallTypes.nextOf (.ref it)) Q E s:=by
 obtain⟨oi,e1,e2,e3⟩:=id hi
 obtain⟨ot,f1,f2,nt,f3⟩:=ht
 unfold Builtin.SmallTypes.nextOf
 refine qa (wpAny_callSpecial?_slot (name:=Str.ofString "__next__") hi.typeIs slot_tupleiter_next
  (wpAny_call_entry slot_tupleiter_next hi.typeIs entry_tupleiter_next ?_ (args_tupleiter_next _)))
 show wpAny _ _ (field (.ref it) 0 >>= _) _ _ s
 refine qa (wpAny_field e1 e3 (x:=.ref t) rfl ?_)
 show wpAny _ _ (if(Value.ref t==Value.none)=true then _ else _) _ _ s
 rw [if_neg (show ¬((Value.ref t==Value.none)=true) from qf)]
 show wpAny _ _ (field (.ref it) 1 >>= _) _ _ s
 refine qa (wpAny_field e1 e3 (x:=.int i 0) rfl ?_)
 show wpAny _ _ (seqItems? (.ref t) >>= _) _ _ s
 refine qa (wpAny_seqItems f1 f3 ?_)
 simp only [Int.toNat_natCast,hx]
 refine qa (wpAny_setField e1 e3 (by simp) (qb ⟨x,rfl,qb (q _ ?_ (Heap.SameBut.update ..))⟩))
 refine⟨_,Heap.get?_update_self _ e1 (Obj.isFreed_of_fields (Obj.data_mapFields e3 _)),(Obj.cls_mapFields ..).trans e2,?_⟩
 rw [Obj.data_mapFields e3]
 simp [rawInt]
theorem zij{it t:Addr}{i:Nat}{items:Array Value}{Q:Value->Shared->Prop}(hh:A.handled=none)(hi:s.heap.IsTupleIter it t i)(ht:s.heap.IsTuple t items)(hx:items[i]?=none)
  (q:∀ h' e,Heap.ExtBut it s.heap h'->(∃ o,h'.get? e=some o/\o.cls=.type "StopIteration")->E (.ref e) { s with heap:=h' }):wpAny (model prog w) A (Builtin.SmallTypes.nextOf (.ref it)) Q E s:=by
 obtain⟨oi,e1,e2,e3⟩:=id hi
 obtain⟨ot,f1,f2,nt,f3⟩:=ht
 unfold Builtin.SmallTypes.nextOf
 refine qa (wpAny_callSpecial?_slot (name:=Str.ofString "__next__") hi.typeIs slot_tupleiter_next
  (wpAny_call_entry slot_tupleiter_next hi.typeIs entry_tupleiter_next ?_ (args_tupleiter_next _)))
 show wpAny _ _ (field (.ref it) 0 >>= _) _ _ s
 refine qa (wpAny_field e1 e3 (x:=.ref t) rfl ?_)
 show wpAny _ _ (if(Value.ref t==Value.none)=true then _ else _) _ _ s
 rw [if_neg (show ¬((Value.ref t==Value.none)=true) from qf)]
 show wpAny _ _ (field (.ref it) 1 >>= _) _ _ s
 refine qa (wpAny_field e1 e3 (x:=.int i 0) rfl ?_)
 show wpAny _ _ (seqItems? (.ref t) >>= _) _ _ s
 refine qa (wpAny_seqItems f1 f3 ?_)
 simp only [Int.toNat_natCast,hx]
 refine qa (wpAny_rule (qa (wpAny_setField e1 e3 (by simp) ?_)))
 show wpAny _ _ (newExc (.type "StopIteration") [] >>= _) _ _ _
 refine qa ?_
 simp only [newExc,newTuple]
 refine qa (qy ?_ (by show(0:Nat)<=sizeLine; exact Nat.zero_le _))
 refine qa (m:=firstArgMember _ _) (wpAny_of_eq (a:=Value.none) (by first | rfl | (simp only [firstArgMember]; rfl)) ?_)
 refine qy ?_ (by first | trivial | size_fits)
 simp only [raiseNew]
 refine qa (wpAny_handled ?_)
 first | rw [show A.in1.handled=none from hh] | rw [hh]
 refine qa (qb (wpAny_throw ?_))
 exact q _ _ (((Heap.SameBut.update ..).extBut.push _).push _) ⟨_,qg _ rfl,rfl⟩
end
theorem zgl{prog:Program}{w:World}{A:Around}(hh:A.handled=none)(it t:Addr)(ne:t≠it)(items:Array Value) :
  Draws prog w A it [it,t] items.size (fun i v=>items[i]?=some v) (fun i h=>h.IsTupleIter it t i/\h.IsTuple t items) where
 live:=fun _ _ st=>let ⟨o,ho,_⟩:=st.1; ⟨o,ho⟩
 frame:=fun _ _ _ st hk=>by
  obtain⟨⟨o,a1,a2,a3⟩,⟨o2,b1,b2⟩⟩:=st
  exact⟨⟨o,hk it (by simp) o a1,a2,a3⟩,⟨o2,hk t (by simp) o2 b1,b2⟩⟩
 item:=fun i s Q E hi st q=>by
  refine zeO st.1 st.2 (x:=items[i]) (by simp [hi]) fun h' hit' hs'=>?_
  exact q _ h' s.toks (by simp [hi]) ⟨hit',st.2.extBut hs'.extBut ne⟩ hs'
 done:=fun s Q E st q=>zij hh st.1 st.2 (by simp) q
theorem znW(t:Addr)(items:Array Value)(n:Nat)(dct:Option Addr)(sl:Array (Option Value)) :
  Meets (Builtin.«enumerate.__new__» ⟨[.type "enumerate",.ref t],[]⟩) (fun _ R s=>s.heap.get? t=some { cls:=.type "tuple",dict:=dct,data:=.seq items n,slots:=sl } /\
   R (.ok (.ret (.ref (s.heap.push { cls:=.type "tuple_iterator",data:=.fields #[.ref t,.int 0 0] }).objs.size)))
    { s with heap:=(s.heap.push { cls:=.type "tuple_iterator",data:=.fields #[.ref t,.int 0 0] }).push { cls:=.type "enumerate",data:=.fields #[.none,.bool false,.ref s.heap.objs.size,rawInt 0,.none,.none] } }) :=
 .of_wp fun prog w A R s h=>by
  obtain⟨hp,g,d,tk,os⟩:=s
  obtain⟨hl,h⟩:=h
  have hsub:=sub_enumerate
  have hT:Heap.IsTuple (Shared.heap ⟨hp,g,d,tk,os⟩) t items:=⟨_,hl,rfl,n,rfl⟩
  wp_walk using PySem.AutoSeq1.wpAny_loadPart' hl
  refine wpAny_stack_any fun st=>qb ?_
  split
  ·rename_i c _ _ _ _ _
   cases(c==Value.type "enumerate")
   ·wp_walk using PySem.AutoSeq1.wpAny_loadPart' hl,wpAny_pyIter_tuple hT
    exact⟨_,rfl,h⟩
   ·wp_walk using PySem.AutoSeq1.wpAny_loadPart' hl,wpAny_pyIter_tuple hT
    exact⟨_,rfl,h⟩
  ·wp_walk using PySem.AutoSeq1.wpAny_loadPart' hl,wpAny_pyIter_tuple hT
   exact⟨_,rfl,h⟩
section
variable {prog:Program} {w:World} {A:Around} {E:Value->Shared->Prop} {s:Shared}
theorem zli{t:Addr}{items:Array Value}{Q:Value->Shared->Prop}(hT:s.heap.IsTuple t items)
  (h:∀ h',IsEnum h' (s.heap.objs.size+1) s.heap.objs.size 0 .none->h'.IsTupleIter s.heap.objs.size t 0->(∀ b o,s.heap.get? b=some o->h'.get? b=some o)->Q (.ref (s.heap.objs.size+1)) { s with heap:=h' }) :
  wpAny (model prog w) A (call (.type "enumerate") [.ref t]) Q E s:=by
 obtain⟨⟨c,dct,dt,sl⟩,hl,hc,n,hd⟩:=hT
 replace hc:c=.type "tuple":=hc
 replace hd:dt=.seq items n:=hd
 subst hc hd
 refine callType_new F.called_enumerate (by decide) (F.typeCall_enumerate_1 _) (F.newCall_enumerate_1 _) (fun obj=>F.args_object_init_2 obj _) F.entry_enumerate_new
  (znW t items n dct sl) ⟨hl,?_⟩
 have hz:(s.heap.push { cls:=.type "tuple_iterator",data:=.fields #[.ref t,.int 0 0] }).objs.size=s.heap.objs.size+1:=Heap.size_push ..
 show _/\_
 rw [hz]
 have he:IsEnum ((s.heap.push { cls:=.type "tuple_iterator",data:=.fields #[.ref t,.int 0 0] }).push
   { cls:=.type "enumerate",data:=.fields #[.none,.bool false,.ref s.heap.objs.size,rawInt 0,.none,.none] }) (s.heap.objs.size+1) s.heap.objs.size 0 .none:=by
  have z:=qg (s.heap.push { cls:=.type "tuple_iterator",data:=.fields #[.ref t,.int 0 0] })
   (o:={ cls:=.type "enumerate",data:=.fields #[.none,.bool false,.ref s.heap.objs.size,rawInt 0,.none,.none] }) rfl
  rw [hz]at z
  exact z
 exact⟨⟨_,he,rfl⟩,h _ he ⟨_,qd _ (qg _ rfl),rfl,rfl⟩ fun b o x=>qd _ (qd _ x)⟩
end
section
variable {X:Cx} {pins:List (Addr×Obj)} {σ:St} {H:Hp} {s:Shared} {h':Heap}
theorem Inv.turnedW{t':Nat}{wr:List Addr}(I:Inv X pins σ H s)(k:∀ b o,b∉wr->s.heap.get? b=some o->h'.get? b=some o)(hf:∀ b∈wr,zdt X pins H b):Inv X pins σ H { s with heap:=h',toks:=t' }:=by
 have nit:∀ b u,H b=some u->b∉wr:=fun b u e z=>by rw [(hf b z).1]at e; cases e
 refine I.step (g':=s.gens) (d':=s.drawn) (ch:=wr) (fun b hb=>?_) (fun b o _ _ hc e _=>k b o hc e) (fun b o _ _ hc e _=>⟨o.slots,k b o hc e⟩) (fun _ _ _ _ n=>n)
  (fun b o hc e=>⟨o,k b o hc e⟩) (fun _ _ e=>e) (fun _ _ _ e=>e) (fun b ps e=>⟨#[],by rw [e]; simp⟩) (fun m hm=>?_) (fun b u e=>?_) I.bare
 ·obtain⟨_,z1,_,z3,z4,z5⟩:=hf b hb
  exact⟨z3,z1,z4,z5⟩
 ·obtain⟨o,es,ep,ho,r⟩:=hm
  exact⟨o,es,ep,k _ o (fun z=>(hf _ z).2.1 rfl) ho,r⟩
 ·refine(I.hok b u e).stay (fun c v hc q=>k c v ?_ q) (fun _ q=>q) fun _ _ q=>q
  rcases hc with z | z
  ·rw [z]; exact nit b u e
  ·exact nit c _ z
theorem Inv.track{a:Addr}{o:HO}(I:Inv X pins σ H s)(f:zdt X pins H a)(ha:X.s₀.heap.objs.size<=a)(new:zaj X.prog X.w X.K (upd H a o) s.heap a o):Inv X pins σ (upd H a o) s:=by
 obtain⟨f0,f1,f2,f3,f4,f5⟩:=f
 refine⟨I.ok,I.os,I.bare,zjN I.base f0 ha,I.loc,I.cell,?_,fun x c e=>?_,fun p hp=>?_,zig I.hok f0 new,I.len⟩
 ·rw [zA (Ne.symm f1)]
  exact I.free
 ·rw [zA (f4 x c e)]
  exact I.freeC x c e
 ·obtain⟨p1,p2,p3⟩:=I.pin p hp
  refine⟨p1,?_,p3⟩
  rw [zA (f5 p hp)]
  exact p2
end
def Ite(K:qc)(a:Addr):It :=
 ⟨fun i H=>∃ xs x,SqT K H a xs/\xs[i]?=some x,fun i H x H'=>∃ T,H T=none/\x=.ref T/\∀ xs v,SqT K H a xs->xs[i]?=some v->H'=upd H T (.tup [.int i,v]),fun i H=>∃ xs,SqT K H a xs/\xs.length=i⟩
theorem znX{P:Program}{w:World}{K:qc}{elts:List Expr}{k:Nat}{pos:Pos}(e it t:Addr)(hei:e≠it)(hte:t≠e)(hti:t≠it) :
  Turn P w K (.Tuple elts k pos) (Ite K t) [e,it] e (fun i h=>(∃ old,IsEnum h e it i old)/\h.IsTupleIter it t i) where
 mem:=by simp
 obj:=fun i h st b hb=>by
  obtain⟨⟨old,he⟩,⟨o,ho,_,hd⟩⟩:=st
  rcases qu.mp hb with z | z
  ·subst z
   exact⟨_,he,fun v q=>by
    have q':Data.fields _=Data.cell v:=q
    cases q'⟩
  ·rw [qp.mp z]
   exact⟨o,ho,fun v q=>by rw [hd]at q; cases q⟩
 keep:=fun i h h' st kk=>by
  obtain⟨⟨old,he⟩,⟨o,ho,hc,hd⟩⟩:=st
  exact⟨⟨old,kk e (by simp) _ he⟩,⟨o,kk it (by simp) _ ho,hc,hd⟩⟩
 item:=by
  intro X hP hw hK hc i pins s σ H E I hf st hg
  subst hP hw hK
  obtain⟨xs,x,hq,hx⟩:=hg
  obtain⟨its,rv,ht,hz⟩:=I.tuple hq
  have hi:i < its.toArray.size:=by
   rw [List.size_toArray,<-rv.length]
   exact(qk.mp hx).1
  have W:=WalksT.enumerateD (zgl (prog:=X.prog) (w:=X.w) (A:=X.A.in1) (I.ok.hd hc) it t hti its.toArray) e hei (by simp [hei,Ne.symm hte]) (by simp)
  refine W.item i s _ _ hi ⟨st.1,st.2,ht⟩ fun T vals h1 tk hP hT isT mid kk=>?_
  refine⟨_,rfl,W.go elts k pos i T { s with heap:=h1,toks:=tk } _ _ mid fun h2 st2 kk2=>?_⟩
  obtain⟨tt,u,hu,rfl⟩:=hP
  have apart:=W.apart _ _ _ mid
  have I2:Inv X pins σ H { s with heap:=h2,toks:=tk }:=I.turnedW (wr:=[e,it]) (fun b o hb q=>kk2 b o hb (kk b o hb q)) hf
  have fT:zdt X pins H T:=I.fpOk hT (I.hok.fresh hT)
  have ru:zU x u:=by
   obtain⟨u',eu,r⟩:=rv.get hx
   have:u'=u:=by
    have z:its[i]?=some u:=by simpa using hu
    rw [eu]at z
    exact qw z
   rw [<-this]
   exact r
  obtain⟨oT,g1,g2,nT,g3⟩:=isT
  have I3:Inv X pins σ (upd H T (.tup [.int i,x])) { s with heap:=h2,toks:=tk }:=I2.track fT (qx I.sz hT) ⟨by show 2<=sizeLine; decide,[.int i tt,u],.cons ⟨tt,rfl⟩ (.cons ru .nil),oT,kk2 T oT apart g1,g2,nT,g3⟩
  refine⟨.ref T,_,I3,rfl,⟨T,I.hok.fresh hT,rfl,fun xs' v hq' hv=>?_⟩,⟨?_,st2.2.1⟩,fun b hb=>?_⟩
  ·have:=I.tuple_inj hq hq'
   subst this
   rw [hx]at hv
   cases hv
   rfl
  ·exact st2.1
  ·have ne:b≠T:=fun z=>apart (by rw [<-z]; exact hb)
   rw [zA ne]
   exact(hf b hb).1
 done:=by
  intro X hP hw hK hc i pins s σ H E I hf st hg
  subst hP hw hK
  obtain⟨xs,hq,hl⟩:=hg
  obtain⟨its,rv,ht,hz⟩:=I.tuple hq
  have hi:i=its.toArray.size:=by
   rw [List.size_toArray,<-rv.length]
   exact hl.symm
  have W:=WalksT.enumerateD (zgl (prog:=X.prog) (w:=X.w) (A:=X.A.in1) (I.ok.hd hc) it t hti its.toArray) e hei (by simp [hei,Ne.symm hte]) (by simp)
  refine W.done s _ _ ?_ fun h1 tk kk=>⟨rfl,I.turnedW (wr:=[e,it]) kk hf⟩
  rw [<-hi]
  exact⟨st.1,st.2,ht⟩
 self:=fun _ _ _ _ _ st h=>by
  obtain⟨⟨old,he⟩,_⟩:=st
  exact wpAny_pyIter_enum he h
section
variable {X:Cx} {elts:List Expr} {k:Nat} {tpos:Pos}
def ztQ(K:qc)(ta:TA):TI:=fun σ H R=>ta σ H fun vs H1=>∃ a,vs=[.ref a]/\(∃ xs,SqT K H1 a xs)/\R (Ite K a) H1
theorem zsB{a:Expr}{ta:TA}{p pos:Pos}(K:qc)(hK:X.K=K)(hg:Gl X "enumerate")(hm:X.mg "enumerate"=none)(ha:Wr (PA X [a] ta))(hs:zah a=true:=by rfl) :
  Wr (PI X (.Tuple elts k tpos) (.Call (.Name "enumerate" p) [a] [] pos) (ztQ K ta)):=by
 subst hK
 refine⟨?_⟩
 intro pins s σ H R I h
 refine Call_ (zfV I hg hm boot_enumerate (PyProof.Rows.callWith_type1 (thn (ha.run pos pins s σ H _ I h) fun us s1 ⟨vs,H1,I1,r1,q1⟩=>?_) (zdg hs) rfl))
 obtain⟨t,e,⟨xs,hq⟩,q⟩:=q1
 subst e
 obtain⟨u,rfl,ru⟩:=zdV r1
 cases ru
 obtain⟨its,rv,ht,hz⟩:=I1.tuple hq
 have tl:t < s1.heap.objs.size:=by
  obtain⟨o,e,_⟩:=ht
  exact qh e
 refine zli (show s1.heap.IsTuple t its.toArray from ht) fun h' he hit kk=>?_
 have I2:Inv X pins σ H1 { s1 with heap:=h' }:=I1.kept (t':=s1.toks) kk
 refine wpAny_pyIter_enum he ?_
 refine⟨s1.heap.objs.size+1,[s1.heap.objs.size+1,s1.heap.objs.size],_,_,H1,rfl,I2,znX (s1.heap.objs.size+1) s1.heap.objs.size t (Nat.succ_ne_self _) (qj (Nat.lt_succ_of_lt tl)) (qj tl),⟨⟨_,he⟩,hit⟩,fun b hb=>?_,q⟩
 rcases qu.mp hb with z | z
 ·subst z
  exact I1.fpOk (Nat.le_succ _) (I1.hok.fresh (Nat.le_succ _))
 ·rw [qp.mp z]
  exact I1.fpOk (qe _) (I1.hok.fresh (qe _))
end
section
variable {X:Cx}
end
section
variable {X:Cx} {pos pos':Pos} {o i v:Expr} {td ty tv:TE} {k:Nat}
theorem zc5:Wr (PE X (.Dict [] [] pos) zlb):=⟨zo5⟩
theorem zdJ(hr:Room k X.A)(ho:Wr (PE X o td))(hi:Wr (PE X i ty))(hs:zvG i:=by intro _ _; rfl):Wr (PE X (.Subscript o i pos) (zo3 X.K td ty)):=⟨zsv (zjL hr) ho.run hi.run hs⟩
theorem zeP(hr:Room k X.A)(ho:Wr (PE X o td))(hi:Wr (PE X i ty))(hv:Wr (PE X v tv))(hs:swapsWith v (some (.Subscript o i pos')) pos.line X.env=pure false:=by rfl) :
  Wr (PS X (.Assign [.Subscript o i pos'] v pos) (zo4 X.K td ty tv)):=⟨zsw (zjL hr) ho.run hi.run hv.run hs⟩
end
end L2
namespace L2
open PySem PySem.W PyProof.Rows
section
variable {α β:Type}
def zcK(lt:Nat->Nat->Bool)(n:Nat):KasT α->(α->Prop)->Prop
 | .ret a,Q=>Q a
 | .ask i j k,Q=>i < n/\j < n/\zcK lt n (k (lt i j)) Q
theorem zcK.bind{lt:Nat->Nat->Bool}{n:Nat}{f:α->KasT β}{Q:β->Prop}:∀ {t:KasT α},zcK lt n t (fun a=>zcK lt n (f a) Q)->zcK lt n (t.bind f) Q
 | .ret _,h=>h
 | .ask _ _ _,⟨h1,h2,h3⟩=>⟨h1,h2,zcK.bind h3⟩
theorem zcK.wp{lt:Nat->Nat->Bool}{n:Nat}{cmp:Nat->Nat->(Bool->Shared->Prop)->Shared->Prop}{Q:α->Prop}{Q':α->Shared->Prop}{s:Shared}(hc:∀ i j (C:Bool->Shared->Prop),i < n->j < n->C (lt i j) s->cmp i j C s)(hQ:∀ a,Q a->Q' a s) :
  ∀ {t:KasT α},zcK lt n t Q->t.kasWp cmp Q' s
 | .ret _,h=>hQ _ h
 | .ask i j k,⟨h1,h2,h3⟩=>hc i j _ h1 h2 (zcK.wp hc hQ h3)
end
section
variable {rk:Nat->Int} {n:Nat}
def KR(rk:Nat->Int)(p:Array Nat)(i:Nat):Int:=rk (p.getD i 0)
def ltR(rk:Nat->Int)(i j:Nat):Bool:=decide (rk i < rk j)
def Pm(n:Nat)(p:Array Nat):Prop:=p.Perm (List.range n).toArray
theorem Pm.size{p:Array Nat}(h:Pm n p):p.size=n:=by
 have:=h.size_eq
 simpa using this
theorem Pm.lt{p:Array Nat}(h:Pm n p){i:Nat}(hi:i < n):p.getD i 0 < n:=by
 have hs:=h.size
 have hi':i < p.size:=by omega
 have e:p.getD i 0=p[i]:=by simp [Array.getD,hi']
 rw [e]
 have m:p[i]∈(List.range n).toArray:=(h.mem_iff).mp (Array.getElem_mem hi')
 simpa using m
theorem zdZ{p q:Array Nat}{i j:Nat}(h:p[i]?=q[j]?):KR rk p i=KR rk q j:=by
 have e:∀ (x:Array Nat) (k:Nat),x.getD k 0=(x[k]?).getD 0:=fun x k=>by simp
 unfold KR
 rw [e,e,h]
theorem ziT{p:Array Nat}{i j:Nat}(hj:j<=p.size)(k:Nat):KR rk (kas_rev p i j) k=if i<=k/\k < j then KR rk p (i+j - 1 - k)else KR rk p k:=by
 have e:=getElem?_mirror_all (xs:=p) (i:=i) hj k
 unfold kas_rev
 by_cases h:i<=k/\k < j
 ·rw [if_pos h]at e ⊢
  exact zdZ e
 ·rw [if_neg h]at e ⊢
  exact zdZ e
theorem zik{p:Array Nat}{src d:Nat}(hs:src < p.size)(hd:d<=src)(k:Nat):KR rk (bubble p src d) k=if k=src - d then KR rk p src else if src - d < k/\k<=src then KR rk p (k - 1)else KR rk p k:=by
 have e:=getElem?_bubble hs d hd k
 by_cases h1:k=src - d
 ·rw [if_pos h1]at e ⊢; exact zdZ e
 ·rw [if_neg h1]at e ⊢
  by_cases h2:src - d < k/\k<=src
  ·rw [if_pos h2]at e ⊢; exact zdZ e
  ·rw [if_neg h2]at e ⊢; exact zdZ e
theorem Pm.rev{p:Array Nat}(h:Pm n p)(i j:Nat):Pm n (kas_rev p i j):=(mirror_perm p i j _).trans h
theorem Pm.bubble{p:Array Nat}(h:Pm n p)(i d:Nat):Pm n (PyProof.Rows.bubble p i d):=(bubble_perm p i d).trans h
def Up(rk:Nat->Int)(p:Array Nat)(m:Nat):Prop:=∀ i j,i<=j->j < m->KR rk p i<=KR rk p j
def Dn(rk:Nat->Int)(p:Array Nat)(m:Nat):Prop:=∀ i j,i<=j->j < m->KR rk p j<=KR rk p i
theorem Up.more{p:Array Nat}{m:Nat}(h:Up rk p m)(h1:1<=m)(hm:KR rk p (m - 1)<=KR rk p m):Up rk p (m+1):=fun i j hij hj=>by
 by_cases e:j=m
 ·subst e
  by_cases e2:i=j
  ·subst e2; exact Int.le_refl _
  ·exact Int.le_trans (h i (j - 1) (by omega) (by omega)) hm
 ·exact h i j hij (by omega)
theorem Dn.more{p:Array Nat}{m:Nat}(h:Dn rk p m)(h1:1<=m)(hm:KR rk p m<=KR rk p (m - 1)):Dn rk p (m+1):=fun i j hij hj=>by
 by_cases e:j=m
 ·subst e
  by_cases e2:i=j
  ·subst e2; exact Int.le_refl _
  ·exact Int.le_trans hm (h i (j - 1) (by omega) (by omega))
 ·exact h i j hij (by omega)
theorem ltT{i j:Nat}(c:rk i < rk j):ltR rk i j=true:=decide_eq_true c
theorem ltF{i j:Nat}(c:¬rk i < rk j):ltR rk i j=false:=decide_eq_false c
theorem zg8{p:Array Nat}(hp:Pm n p){Q:Nat->Prop}:∀ (f m:Nat),1<=m->m+f<=n->Up rk p m->(∀ m',m<=m'->m'<=m+f->Up rk p m'->(m' < m+f->KR rk p m' < KR rk p (m' - 1))->Q m')->zcK (ltR rk) n (kas_asc p f m) Q
 | 0,m,_,_,hu,h=>h m (qe _) (qe _) hu (fun z=>absurd z (Nat.lt_irrefl _))
 | f+1,m,h1,hf,hu,h=>by
  refine⟨hp.lt (by omega),hp.lt (by omega),?_⟩
  by_cases c:rk (p.getD m 0) < rk (p.getD (m - 1) 0)
  ·rw [ltT c]
   dsimp only
   rw [if_pos rfl]
   exact h m (qe _) (by omega) hu fun _=>c
  ·rw [ltF c]
   dsimp only
   rw [if_neg qf]
   exact zg8 hp f (m+1) (by omega) (by omega) (hu.more h1 (Int.not_lt.mp c)) fun m' a b c2 d=>h m' (by omega) (by omega) c2 fun z=>d (by omega)
def Eqs(rk:Nat->Int)(p:Array Nat)(m q:Nat):Prop:=q+1<=m/\∀ i,m - (q+1)<=i->i < m->KR rk p i=KR rk p (m - 1)
theorem zxp{p:Array Nat}{m:Nat}(h:1<=m):Eqs rk p m 0:=⟨h,fun i a b=>by
 have:i=m - 1:=by omega
 rw [this]⟩
theorem zmn{p:Array Nat}{m q:Nat}(hm:m<=p.size)(h:Eqs rk p m q)(k:Nat):KR rk (kas_rev p (m - (q+1)) m) k=KR rk p k:=by
 rw [ziT hm]
 split
 ·rw [h.2 _ (by omega) (by have:=h.1; omega),h.2 k (by omega) (by omega)]
 ·rfl
theorem Dn.congr{p p':Array Nat}{m:Nat}(h:Dn rk p m)(e:∀ k,KR rk p' k=KR rk p k):Dn rk p' m:=fun i j hij hj=>by
 rw [e,e]
 exact h i j hij hj
theorem zek{Q:Array Nat×Nat×Nat->Prop}:∀ (f:Nat) (p:Array Nat) (m q:Nat),Pm n p->1<=m->m+f<=n->Dn rk p m->Eqs rk p m q ->
  (∀ p' m' q',Pm n p'->1<=m'->m'<=m+f->Dn rk p' m'->Eqs rk p' m' q'->Q (p',m',q'))->zcK (ltR rk) n (kas_desc f p m q) Q
 | 0,p,m,q,hp,h1,_,hd,he,h=>h p m q hp h1 (qe _) hd he
 | f+1,p,m,q,hp,h1,hf,hd,he,h=>by
  have hs:=hp.size
  refine⟨hp.lt (by omega),hp.lt (by omega),?_⟩
  by_cases c:rk (p.getD m 0) < rk (p.getD (m - 1) 0)
  ·rw [ltT c]
   dsimp only
   rw [if_pos rfl]
   have hd2:Dn rk p (m+1):=hd.more h1 (Int.le_of_lt c)
   have one:∀ x:Array Nat,Eqs rk x (m+1) 0:=fun x=>zxp (by omega)
   by_cases hq:q > 0
   ·rw [if_pos hq]
    have e:=zmn (by omega) he
    exact zek f _ (m+1) 0 (hp.rev _ _) (by omega) (by omega) (hd2.congr e) (one _) fun p' m' q' a b c d e=>h p' m' q' a b (by omega) d e
   ·rw [if_neg hq]
    exact zek f p (m+1) 0 hp (by omega) (by omega) hd2 (one _) fun p' m' q' a b c d e=>h p' m' q' a b (by omega) d e
  ·rw [ltF c]
   dsimp only
   rw [if_neg qf]
   refine⟨hp.lt (by omega),hp.lt (by omega),?_⟩
   by_cases c2:rk (p.getD (m - 1) 0) < rk (p.getD m 0)
   ·rw [ltT c2]
    dsimp only
    rw [if_pos rfl]
    exact h p m q hp h1 (by omega) hd he
   ·rw [ltF c2]
    dsimp only
    rw [if_neg qf]
    have eq:KR rk p m=KR rk p (m - 1):=Int.le_antisymm (Int.not_lt.mp c2) (Int.not_lt.mp c)
    refine zek f p (m+1) (q+1) hp (by omega) (by omega) (hd.more h1 (Int.le_of_eq eq)) ⟨by have:=he.1; omega,fun i a b=>?_⟩ fun p' m' q' a b c d e=>h p' m' q' a b (by omega) d e
    rw [show m+1 - 1=m by omega,eq]
    by_cases im:i=m
    ·rw [im,eq]
    ·exact he.2 i (by omega) (by omega)
def Run(rk:Nat->Int)(n:Nat)(r:Nat×Array Nat):Prop:=Pm n r.2/\r.1<=n/\Up rk r.2 r.1
theorem zg9{p:Array Nat}{m:Nat}(hp:Pm n p)(h1:1<=m)(hm:m<=n)(hd:Dn rk p m){Q:Nat×Array Nat->Prop}(h:∀ r,Run rk n r->Q r):zcK (ltR rk) n (kas_tail3 m n p) Q:=by
 have hs:=hp.size
 refine zcK.bind (zg8 (hp.rev 0 m) (n - m) m h1 (by omega) (fun i j hij hj=>?_) fun m' a b c _=>h (m',_) ⟨hp.rev 0 m,by show m'<=n; omega,c⟩)
 rw [ziT (by omega),ziT (by omega),if_pos ⟨by omega,by omega⟩,if_pos ⟨by omega,hj⟩]
 exact hd _ _ (by omega) (by omega)
theorem zeH{p:Array Nat}{m:Nat}(hp:Pm n p)(h1:1<=m)(hm:m+1<=n)(hd:Dn rk p (m+1)){Q:Nat×Array Nat->Prop}(h:∀ r,Run rk n r->Q r):zcK (ltR rk) n (kas_descPart m n p) Q:=by
 refine zcK.bind (zek (n - (m+1)) p (m+1) 0 hp (by omega) (by omega) hd (zxp (by omega)) fun p' m' q' hp' a b d e=>?_)
 have hs:=hp'.size
 show zcK (ltR rk) n (if q' > 0 then _ else _) Q
 split
 ·exact zg9 (hp'.rev _ _) a (by omega) (d.congr (zmn (by omega) e)) h
 ·exact zg9 hp' a (by omega) d h
theorem zlj{p:Array Nat}(hp:Pm n p)(h1:1<=n){Q:Nat×Array Nat->Prop}(h:∀ r,Run rk n r->Q r):zcK (ltR rk) n (kas_count n p) Q:=by
 have hs:=hp.size
 refine zcK.bind (zg8 hp (n - 1) 1 (qe _) (by omega) (fun i j hij hj=>by
  have:i=j:=by omega
  subst this; exact Int.le_refl _) fun m a b u l=>?_)
 by_cases e:m=n
 ·rw [if_pos (by simpa using e)]
  exact h _ ⟨hp,by show m<=n; omega,u⟩
 rw [if_neg (by simpa using e)]
 have l:=l (by omega)
 by_cases m1:m > 1
 ·rw [if_pos m1]
  refine⟨hp.lt (by omega),hp.lt (by omega),?_⟩
  by_cases c:rk (p.getD 0 0) < rk (p.getD (m - 1) 0)
  ·rw [ltT c]
   dsimp only
   rw [if_pos rfl]
   exact h _ ⟨hp,by show m<=n; omega,u⟩
  ·rw [ltF c]
   dsimp only
   rw [if_neg qf]
   have all:∀ i,i < m->KR rk p i=KR rk p 0:=fun i hi=>Int.le_antisymm (Int.le_trans (u i (m - 1) (by omega) (by omega)) (Int.not_lt.mp c)) (u 0 i (by omega) hi)
   have ek:∀ k,KR rk (kas_rev p 0 m) k=KR rk p k:=fun k=>by
    rw [ziT (by omega)]
    split
    ·rw [all _ (by omega),all k (by omega)]
    ·rfl
   refine zeH (hp.rev 0 m) (by omega) (by omega) (Dn.congr (p:=p) (fun i j hij hj=>?_) ek) h
   by_cases jm:j=m
   ·subst jm
    by_cases ij:i=j
    ·subst ij; exact Int.le_refl _
    ·rw [all i (by omega),<-all (j - 1) (by omega)]
     exact Int.le_of_lt l
   ·rw [all i (by omega),all j (by omega)]
    exact Int.le_refl _
 ·rw [if_neg m1]
  have:m=1:=by omega
  subst this
  refine zeH hp (by omega) (by omega) (fun i j hij hj=>?_) h
  by_cases ij:i=j
  ·subst ij; exact Int.le_refl _
  ·have e1:i=0:=by omega
   have e2:j=1:=by omega
   subst e1; subst e2
   exact Int.le_of_lt l
theorem zeQ{p:Array Nat}{k:Nat}(hp:Pm n p)(hk:k < n){Q:Nat->Prop}(h:∀ l,l<=k->(∀ i,i < l->KR rk p i<=KR rk p k)->(∀ i,l<=i->i < k->KR rk p k<=KR rk p i)->Q l)(hu:Up rk p k) :
  ∀ (f l r:Nat),l<=r->r<=k->r - l<=f->(∀ i,i < l->KR rk p i<=KR rk p k)->(∀ i,r<=i->i < k->KR rk p k<=KR rk p i)->zcK (ltR rk) n (kas_place p k f l r) Q
 | 0,l,r,a,b,c,d,e=>h l (by omega) d fun i hi=>e i (by omega)
 | f+1,l,r,a,b,c,d,e=>by
  unfold kas_place
  by_cases g:l>=r
  ·rw [if_pos g]
   exact h l (by omega) d fun i hi=>e i (by omega)
  ·rw [if_neg g]
   refine⟨hp.lt hk,hp.lt (by omega),?_⟩
   by_cases x:rk (p.getD k 0) < rk (p.getD ((l+r) / 2) 0)
   ·rw [ltT x]
    dsimp only
    rw [if_pos rfl]
    exact zeQ hp hk h hu f l ((l+r) / 2) (by omega) (by omega) (by omega) d fun i hi hik=>Int.le_trans (Int.le_of_lt x) (hu _ i hi hik)
   ·rw [ltF x]
    dsimp only
    rw [if_neg qf]
    exact zeQ hp hk h hu f ((l+r) / 2+1) r (by omega) (by omega) (by omega) (fun i hi=>Int.le_trans (hu i ((l+r) / 2) (by omega) (by omega)) (Int.not_lt.mp x)) e
theorem zha{Q:Array Nat->Prop}(h:∀ p,Pm n p->Up rk p n->Q p):∀ (f:Nat) (p:Array Nat) (k:Nat),Pm n p->1<=k->k+f=n->Up rk p k->zcK (ltR rk) n (kas_bin f p k) Q
 | 0,p,k,hp,_,e,hu=>h p hp (by rw [<-e]; exact hu)
 | f+1,p,k,hp,h1,e,hu=>by
  have hs:=hp.size
  refine zcK.bind (zeQ hp (by omega) (fun l hl a b=>?_) hu k 0 k (by omega) (qe _) (by omega) (fun i hi=>absurd hi (Nat.not_lt_zero _)) fun i a b=>by omega)
  refine zha h f _ (k+1) (hp.bubble _ _) (by omega) (by omega) fun i j hij hj=>?_
  rw [zik (by omega) (by omega),zik (by omega) (by omega),show k - (k - l)=l by omega]
  by_cases il:i=l
  ·rw [if_pos il]
   by_cases jl:j=l
   ·rw [if_pos jl]; exact Int.le_refl _
   ·rw [if_neg jl]
    split
    ·exact b _ (by omega) (by omega)
    ·omega
  ·rw [if_neg il]
   by_cases jl:j=l
   ·rw [if_pos jl]
    split
    ·omega
    ·exact a i (by omega)
   ·rw [if_neg jl]
    split<;>split
    ·exact hu _ _ (by omega) (by omega)
    ·omega
    ·exact hu _ _ (by omega) (by omega)
    ·exact hu _ _ (by omega) (by omega)
theorem znY(h2:1<=n){Q:Array Nat->Prop}(h:∀ p,Pm n p->Up rk p n->Q p):zcK (ltR rk) n (kas_sort n) Q:=by
 refine zcK.bind (zlj (Array.Perm.refl _) h2 fun r ⟨hp,hr,hu⟩=>?_)
 split
 ·rename_i c
  by_cases z:r.1=0
  ·rw [z]
   exact zha h (n - max 0 1) r.2 (max 0 1) hp (by decide) (by have:max 0 1=1:=rfl; omega) fun i j hij hj=>by
    have:max 0 1=1:=rfl
    have:i=j:=by omega
    subst this; exact Int.le_refl _
  ·have e:max r.1 1=r.1:=by omega
   rw [e]
   exact zha h (n - r.1) r.2 r.1 hp (by omega) (by omega) hu
 ·have:r.1=n:=by omega
  exact h _ hp (by rw [<-this]; exact hu)
end
end L2
namespace L2
open PySem PySem.Spec PyProof.Rows
open PySem.AutoSeq1 (wpAny_loadPart')
open MeetsSeq MeetsSeq2 MeetsSeq3 SeqRoads2
def zcj:List Int->List Int->Bool
 | [],[]=>false
 | [],_::_=>true
 | _::_,[]=>false
 | a::as,b::bs=>if a=b then zcj as bs else decide (a < b)
theorem znZ{prog:Program}{w:World}{A:Around}{E:Value->Shared->Prop}{s:Shared}{a b:Int}{t u:Tok}{Q:Value->Shared->Prop}(h:Q (.bool (decide (a < b))) s):wpAny (model prog w) A (richCompare .Lt (.int a t) (.int b u)) Q E s:=wpAny_lt_int h
theorem zlk(l b:Addr)(items items2:Array Value)(n n2:Nat)(dd dd2:Option Addr)(sl sl2:Array (Option Value))(xs ys:List Int) :
  Meets (Builtin.«tuple.__lt__» ⟨[.ref l,.ref b],[]⟩)
   (fun A R s=>s.heap.get? l=some { cls:=.type "tuple",dict:=dd,data:=.seq items n,slots:=sl }/\s.heap.get? b=some { cls:=.type "tuple",dict:=dd2,data:=.seq items2 n2,slots:=sl2 } /\
    IntsAre items.toList xs/\IntsAre items2.toList ys/\R (.ok (.ret (.bool (zcj xs ys)))) s) :=
 .of_wp fun prog w A R s h=>by
  obtain⟨hp,g,d,tk,os⟩:=s
  obtain⟨hl,hb,i1,i2,h⟩:=h
  have f2:=AutoSeq1.sub_tuple_tuple
  wp_walk using wpAny_loadPart' hl,wpAny_loadPart' hb,wpAny_forIn_list _ (fun zdr b s'=>b.1=none/\s'=⟨hp,g,d,tk,os⟩/\∃ (vs us:List Value) (as bs:List Int),zdr=vs.zip us/\IntsAre vs as/\IntsAre us bs/\(items.size < items2.size↔as.length < bs.length) /\
   R (.ok (.ret (.bool (zcj as bs)))) ⟨hp,g,d,tk,os⟩) _
  case turn =>
   rintro⟨y,x⟩ zdr b s' ⟨hb',rfl,vs,us,as,bs,hz,j1,j2,hn,hR⟩
   cases j1 with
   | nil=>cases hz
   | @cons a t vs as j1 =>
    cases j2 with
    | nil=>cases hz
    | @cons c u us bs j2 =>
     rw [List.zip_cons_cons]at hz
     injection hz with hyx hrest
     injection hyx with e1 e2
     subst e1 e2
     refine qa (wpAny_eqBool_int ?_)
     by_cases e:a=c
     ·subst e
      rw [beq_self_eq_true]
      wp_walk
      refine⟨rfl,rfl,vs,us,as,bs,hrest,j1,j2,?_,?_⟩
      ·rw [hn,qt,qt]
       omega
      ·simpa [zcj] using hR
     ·rw [beq_eq_false_iff_ne.mpr e]
      wp_walk using znZ
      exact⟨_,rfl,by simpa [zcj,e] using hR⟩
  case fin =>
   rintro⟨b1,b2⟩ s' ⟨hb',rfl,vs,us,as,bs,hz,j1,j2,hn,hR⟩
   simp only at hb'
   subst hb'
   wp_walk
   refine⟨_,rfl,?_⟩
   have e:decide (items.size < items2.size)=zcj as bs:=by
    cases j1 with
    | nil =>
     cases j2 with
     | nil=>exact decide_eq_false (fun z=>absurd (hn.mp z) (Nat.lt_irrefl _))
     | cons c u j2=>exact decide_eq_true (hn.mpr (Nat.zero_lt_succ _))
    | cons a t j1 =>
     cases j2 with
     | nil=>exact decide_eq_false (fun z=>absurd (hn.mp z) (Nat.not_lt_zero _))
     | cons c u j2=>cases hz
   show R (Except.ok (Flow.ret (Value.bool (decide (items.size < items2.size))))) _
   rw [e]
   exact hR
  case h =>
   refine⟨rfl,rfl,items.toList,items2.toList,xs,ys,rfl,i1,i2,?_,h⟩
   rw [<-IntsAre.length i1,<-IntsAre.length i2,Array.length_toList,Array.length_toList]
theorem zll{prog:Program}{w:World}{A:Around}{E:Value->Shared->Prop}{s:Shared}{l b:Addr}{items items2:Array Value}{xs ys:List Int}{Q:Value->Shared->Prop}(hl:s.heap.IsTuple l items)(hb:s.heap.IsTuple b items2)(i1:IntsAre items.toList xs)(i2:IntsAre items2.toList ys)(hu:A.units < cLine)
  (h:Q (.bool (zcj xs ys)) s):wpAny (model prog w) A (compareOp .Lt (.ref l) (.ref b)) Q E s:=by
 obtain⟨⟨cls,dd,data,sl⟩,ho,hc,n,hd⟩:=id hl
 obtain⟨⟨cls2,dd2,data2,sl2⟩,ho2,hc2,n2,hd2⟩:=id hb
 simp only at hc hd hc2 hd2
 subst hc hd hc2 hd2
 exact richCompare_meets_room (op:=.Lt) ⟨_,ho,rfl⟩ ⟨_,ho2,rfl⟩ F.slot_tuple_lt F.entry_tuple_lt (F.args_tuple_lt_2 _ _) (zlk l b items items2 n n2 dd dd2 sl sl2 xs ys) ⟨ho,ho2,i1,i2,⟨(fun x=>nomatch x),h⟩⟩ hu
end L2
namespace L2
open PySem PySem.Spec PySem.W PyProof.Rows
section
variable {prog:Program} {w:World} {A:Around} {E:Value->Shared->Prop} {s:Shared}
def zyD(prog:Program)(w:World)(A:Around)(rk:Nat->Int)(vs:List Value)(κ:SortKind)(s:Shared):Prop :=
 ∀ i j (C:Bool->Shared->Prop),i < vs.length->j < vs.length->C (ltR rk i j) s->wpAny (model prog w) A (keyLt' κ (vs.getD i Value.none) (vs.getD j Value.none)) C (fun _ _=>False) s
theorem ziU{rk:Nat->Int}{a:Addr}{vs:List Value}{n:Nat}{P:PySem.Fin->Shared->Prop}(ho:s.heap.get? a=some (seqObj "list" vs.toArray n))(h64:vs.length < 64)
  (hk:2<=vs.length->∀ h':Heap,(∀ b o,b≠a->s.heap.get? b=some o->h'.get? b=some o)->∀ Q:SortKind->Shared->Prop,(∀ κ,zyD prog w A rk vs κ { s with heap:=h' }->Q κ { s with heap:=h' })->wpAny (model prog w) A (keyKind' vs.toArray) Q (fun _ _=>False) { s with heap:=h' })
  (h:∀ p:Array Nat,Pm vs.length p->Up rk p vs.length->P (.done (.ret .none)) { s with heap:=sortedHeap s.heap a vs (List.toArray (p.toList.map fun i=>vs.getD i Value.none)) }) :
  wpAny (model prog w) A (Builtin.«list.sort» ⟨[.ref a],[]⟩) P E s:=by
 have line:(64:Nat)<=sizeLine:=by decide
 have ha:a < s.heap.objs.size:=qh ho
 obtain⟨e1,ho1⟩:∃ e1,(s.heap.update a (Obj.mapSeq fun _=>#[])).get? a=some (seqObj "list" #[] e1):=⟨_,get?_update_seq ho (fun _=>#[])⟩
 have old:∀ b o,(s.heap.update a (Obj.mapSeq fun _=>#[])).get? b=some o->(((s.heap.update a (Obj.mapSeq fun _=>#[])).push (seqObj "tuple" vs.toArray 0)).push (seqObj "list" #[] 0)).get? b=some o :=
  fun b o e=>qd _ (qd _ e)
 have ho6:=old _ _ ho1
 have keep:∀ b o,b≠a->s.heap.get? b=some o->(((s.heap.update a (Obj.mapSeq fun _=>#[])).push (seqObj "tuple" vs.toArray 0)).push (seqObj "list" #[] 0)).get? b=some o :=
  fun b o ne e=>old b o (by rw [Heap.get?_update_ne _ _ _ _ ne]; exact e)
 rw [list_sort_plain]
 refine qa (listItems_at ho rfl (qa (listUpdate_at ho rfl (qa (seqEpoch_at ho1 rfl (qa (wpAny_newTuple (qa (wpAny_newList (wpAny_holding ?_) ?_)) ?_)))) ?_ ?_)))
 case refine_2=>exact Nat.zero_le _
 case refine_3=>show vs.length<=_; omega
 case refine_4=>show vs.toArray.size<=_; rw [List.size_toArray]; omega
 case refine_5=>exact Nat.zero_le _
 show wpAny (model prog w) A _ P E { s with heap:=((s.heap.update a (Obj.mapSeq fun _=>#[])).push (seqObj "tuple" vs.toArray 0)).push (seqObj "list" #[] 0) }
 dsimp only
 generalize hH:((s.heap.update a (Obj.mapSeq fun _=>#[])).push (seqObj "tuple" vs.toArray 0)).push (seqObj "list" #[] 0)=h6 at *
 have hsz:vs.toArray.size=vs.length:=by simp
 have fin:∀ p:Array Nat,Pm vs.length p->Up rk p vs.length->P (.done (.ret .none)) { s with heap:=h6.update a (Obj.mapSeq fun _=>List.toArray (p.toList.map fun i=>vs.getD i Value.none)) }:=fun p a1 a2=>by
  have:=h p a1 a2
  unfold sortedHeap at this
  rw [hH]at this
  exact this
 by_cases h2:vs.toArray.size < 2
 ·rw [if_pos h2,if_pos h2]
  refine qa (qb ?_)
  rw [StateT.run_pure]
  refine qa (qb ?_)
  dsimp only
  have hz:(vs.toArray.zip vs.toArray).size=vs.length:=by simp
  have har:arrOf (SortSt.mk' general' (vs.toArray.zip vs.toArray) #[] 7 none)=(List.range vs.length).toArray.map (kas_item (vs.toArray.zip vs.toArray)):=by
   have:=kas_range (vs.toArray.zip vs.toArray)
   rw [hz]at this
   exact this.symm
  have e:=kat_snds (ks:=vs) (vs:=vs) rfl har
  rw [e]
  refine qa (seqEpoch_at ho6 rfl (qa (listUpdate_at ho6 rfl ?_ ?_ ?_)))
  ·show wpAny _ _ (if(e1 != e1)=true then _ else _) _ _ _
   rw [bne_self_eq_false,if_neg qf]
   refine qb (fin _ (Array.Perm.refl _) fun i j hij hj=>?_)
   have:i=j:=by omega
   subst this
   exact Int.le_refl _
  ·exact Nat.zero_le _
  ·rw [List.size_toArray,List.length_map]
   simp
   omega
 ·rw [if_neg h2,if_neg h2]
  have h2':2<=vs.length:=by omega
  refine qa (wpAny_mono (hk h2' h6 keep _ fun κ ask=>?_) (fun _ _ x=>x) fun _ _ x=>x.elim)
  refine qa (wpAny_mono (kat_run (ks:=vs) (Q:=fun st' s'=>s'={ s with heap:=h6 }/\∃ p:Array Nat,Pm vs.length p/\Up rk p vs.length/\arrOf st'=p.map (kas_item (vs.toArray.zip vs.toArray))/\failedOf st'=none) (G:=fun p s'=>s'={ s with heap:=h6 }/\Pm vs.length p/\Up rk p vs.length) rfl h2' h64
   (fun p st' s' _ a2 a3 a4=>⟨a4.1,p,a4.2.1,a4.2.2,a2,a3⟩) (zcK.wp (lt:=ltR rk) (n:=vs.length) ask (fun p hp=>⟨rfl,hp⟩) (znY (by omega) fun p a1 a2=>⟨a1,a2⟩))) ?_ fun _ _ x=>x)
  rintro⟨⟨⟩,st'⟩ s' ⟨rfl,p,a1,a2,har,hf⟩
  dsimp only
  have e:=kat_snds (ks:=vs) (vs:=vs) rfl har
  rw [e,hf]
  refine qa (seqEpoch_at ho6 rfl (qa (listUpdate_at ho6 rfl ?_ ?_ ?_)))
  ·show wpAny _ _ (if(e1 != e1)=true then _ else _) _ _ _
   rw [bne_self_eq_false,if_neg qf]
   exact qb (fin p a1 a2)
  ·exact Nat.zero_le _
  ·rw [List.size_toArray,List.length_map,Array.length_toList,a1.size]
   omega
end
theorem zdK:∀ a:List Int,zcj a a=false
 | []=>rfl
 | a::as=>by unfold zcj; rw [if_pos rfl]; exact zdK as
theorem zcN:∀ {a b c:List Int},zcj a b=true->zcj b c=true->zcj a c=true
 | [],[],_,h,_=>by cases h
 | [],_::_,[],_,h=>by cases h
 | [],_::_,_::_,_,_=>rfl
 | _::_,[],_,h,_=>by cases h
 | _::_,_::_,[],_,h=>by cases h
 | a::as,b::bs,c::cs,h1,h2=>by
  unfold zcj at h1 h2 ⊢
  by_cases e1:a=b
  ·subst e1
   rw [if_pos rfl]at h1
   by_cases e2:a=c
   ·rw [if_pos e2]at h2 ⊢
    exact zcN h1 h2
   ·rw [if_neg e2]at h2 ⊢
    exact h2
  ·rw [if_neg e1]at h1
   have l1:=of_decide_eq_true h1
   by_cases e2:b=c
   ·subst e2
    rw [if_neg e1]
    exact h1
   ·rw [if_neg e2]at h2
    have l2:=of_decide_eq_true h2
    rw [if_neg (by omega)]
    exact decide_eq_true (by omega)
theorem zdy:∀ {a b:List Int},a≠b->zcj a b=true\/zcj b a=true
 | [],[],h=>absurd rfl h
 | [],_::_,_=>.inl rfl
 | _::_,[],_=>.inr rfl
 | a::as,b::bs,h=>by
  unfold zcj
  by_cases e:a=b
  ·subst e
   rw [if_pos rfl,if_pos rfl]
   exact zdy fun z=>h (by rw [z])
  ·rw [if_neg e,if_neg (fun z=>e z.symm)]
   rcases(by omega:a < b\/b < a)with z | z
   ·exact .inl (decide_eq_true z)
   ·exact .inr (decide_eq_true z)
theorem zjQ{α:Type}{p q:α->Bool}:∀ {l:List α} {x:α},(∀ y∈l,p y=true->q y=true)->x∈l->q x=true->p x=false->l.countP p < l.countP q
 | y::l,x,h,m,hq,hp=>by
  rw [List.countP_cons,List.countP_cons]
  have le:l.countP p<=l.countP q:=List.countP_mono_left fun z hz=>h z (qm _ hz)
  rcases qu.mp m with e | m
  ·subst e
   rw [hp,hq]
   simp
   omega
  ·have:=zjQ (fun z hz=>h z (qm _ hz)) m hq hp
   by_cases c:p y=true
   ·rw [c,h y qo c]
    simp
    omega
   ·rw [if_neg c]
    split<;>omega
def zjR(ps:List (List Int))(i:Nat):Int:=((List.range ps.length).countP fun k=>zcj (ps.getD k []) (ps.getD i []):Nat)
theorem zhb{ps:List (List Int)}{i j:Nat}(hi:i < ps.length)(h:zcj (ps.getD i []) (ps.getD j [])=true):zjR ps i < zjR ps j:=by
 unfold zjR
 have:=zjQ (p:=fun k=>zcj (ps.getD k []) (ps.getD i [])) (q:=fun k=>zcj (ps.getD k []) (ps.getD j [])) (l:=List.range ps.length) (x:=i) (fun y _ hy=>zcN hy h) (List.mem_range.mpr hi) h (zdK _)
 omega
theorem zeR{ps:List (List Int)}(h:ps.Nodup){i j:Nat}(hi:i < ps.length)(hj:j < ps.length)(ne:i≠j):ps.getD i []≠ps.getD j []:=by
 have e:∀ k (hk:k < ps.length),ps.getD k []=ps[k]:=fun k hk=>by simp [hk]
 rw [e i hi,e j hj]
 intro z
 rcases Nat.lt_or_gt_of_ne ne with l | l
 ·exact List.pairwise_iff_getElem.mp h i j hi hj l z
 ·exact List.pairwise_iff_getElem.mp h j i hj hi l z.symm
theorem zsC{ps:List (List Int)}(h:ps.Nodup){i j:Nat}(hi:i < ps.length)(hj:j < ps.length):ltR (zjR ps) i j=zcj (ps.getD i []) (ps.getD j []):=by
 cases c:zcj (ps.getD i []) (ps.getD j [])with
 | true=>exact decide_eq_true (zhb hi c)
 | false =>
  refine decide_eq_false fun z=>?_
  by_cases e:i=j
  ·subst e; omega
  ·rcases zdy (zeR h hi hj e)with y | y
   ·rw [c]at y; cases y
   ·have:=zhb hj y
    omega
theorem Pm.list{n:Nat}{p:Array Nat}(h:Pm n p):p.toList.Perm (List.range n):=by
 have:=h.toList
 simpa using this
theorem zvR{ps:List (List Int)}(h:ps.Nodup){p:Array Nat}(hp:Pm ps.length p)(hu:Up (zjR ps) p ps.length):(p.toList.map fun i=>ps.getD i []).Pairwise fun a b=>zcj a b=true:=by
 have hs:=hp.size
 have hl:=hp.list
 have nd:p.toList.Nodup:=hl.nodup_iff.mpr List.nodup_range
 refine List.pairwise_map.mpr (List.pairwise_iff_getElem.mpr fun i j hi hj hij=>?_)
 have e:∀ k (hk:k < p.toList.length),KR (zjR ps) p k=zjR ps p.toList[k]:=fun k hk=>by
  unfold KR
  have hk':k < p.size:=by simpa using hk
  congr 1
  simp [Array.getD,hk']
 have m:∀ k (hk:k < p.toList.length),p.toList[k] < ps.length:=fun k hk=>List.mem_range.mp (hl.mem_iff.mp (List.getElem_mem hk))
 have le:=hu i j (by omega) (by rw [Array.length_toList]at hj; omega)
 rw [e i hi,e j hj]at le
 have ne:p.toList[i]≠p.toList[j]:=List.pairwise_iff_getElem.mp nd i j hi hj hij
 rcases zdy (zeR h (m i hi) (m j hj) ne)with z | z
 ·exact z
 ·have:=zhb (m j hj) z
  omega
def zjS(h:Heap)(v:Value)(ns:List Int):Prop:=∃ (a b:Addr) (u:Value) (its:Array Value),v=.ref a/\IsTup h a #[.ref b,u]/\IsTup h b its/\IntsAre its.toList ns
theorem zjT{h h':Heap}{a:Addr}{its:Array Value}(t:IsTup h a its)(k:∀ o,h.get? a=some o->h'.get? a=some o):IsTup h' a its:=by
 obtain⟨o,e,r⟩:=t
 exact⟨o,k o e,r⟩
theorem zeS{prog:Program}{w:World}:∀ {vs:List Value} {ns:List Int},IntsAre vs ns->ItemsAre (zai prog w) (ns.map fun n=>(Sum.inl n:Key)) vs
 | _,_,.nil=>.nil
 | _,_,.cons n t h=>.cons (show Value.isInt n (.int n t)=true by simp [Value.isInt]) (zeS h)
theorem ziV{ns ms:List Int}:(ns.map fun n=>(Sum.inl n:Key))=(ms.map fun n=>(Sum.inl n:Key))↔ns=ms:=by
 constructor
 ·intro h
  have:=congrArg (List.map fun k:Key=>match k with | .inl n=>n | .inr _=>0) h
  rw [List.map_map,List.map_map]at this
  simpa [Function.comp_def] using this
 ·rintro rfl; rfl
section
variable {prog:Program} {w:World} {A:Around} {s:Shared}
theorem zxq{v v':Value}{ns ns':List Int}{C:Bool->Shared->Prop}(hu:A.units < cLine)(p:zjS s.heap v ns)(p':zjS s.heap v' ns')(ne:v=v'\/ns≠ns')(h:C (zcj ns ns') s):wpAny (model prog w) A (keyLt' (tuples' false) v v') C (fun _ _=>False) s:=by
 obtain⟨a,b,u,its,rfl,⟨oa,ea,ca,na,da⟩,tb,ib⟩:=p
 obtain⟨a',b',u',its',rfl,⟨oa',ea',ca',na',da'⟩,tb',ib'⟩:=p'
 refine kat_lt ea da ea' da' ?_
 show KatLex prog w A false _ C [(.ref b,.ref b'),(u,u')] 0 s
 obtain⟨ob,eb,cb,nb,db⟩:=id tb
 obtain⟨ob',eb',cb',nb',db'⟩:=id tb'
 refine kat_cons (wpAny_eqBool_tuple (knd:=zai prog w) hu ⟨ob,its,nb,eb,cb,db,zeS ib⟩ ⟨ob',its',nb',eb',cb',db',zeS ib'⟩ ?_)
 by_cases e:ns=ns'
 ·rw [decide_eq_true (ziV.mpr e)]
  rcases ne with z | z
  ·cases z
   rw [ea]at ea'
   cases ea'
   rw [da]at da'
   injection da' with d1 d2
   have d3:=congrArg Array.toList d1
   have e1:Value.ref b=.ref b'/\u=u':=by simpa using d3
   obtain⟨_,rfl⟩:=e1
   refine kat_yes (kat_cons (SeqAt.EqAt.same u prog w _ _ (kat_yes (kat_nil ?_))))
   subst e
   rw [zdK]at h
   exact h
  ·exact absurd e z
 ·rw [decide_eq_false fun z=>e (ziV.mp z)]
  refine kat_no (kat_one _ _ (zll tb tb' ib ib' hu ?_))
  exact h
end
theorem zjS.kept{h h':Heap}{v:Value}{ns:List Int}(p:zjS h v ns)(k:∀ b o,h.get? b=some o->h'.get? b=some o):zjS h' v ns:=by
 obtain⟨a,b,u,its,e,ta,tb,i⟩:=p
 exact⟨a,b,u,its,e,zjT ta (k a),zjT tb (k b),i⟩
theorem zil{h:Heap}:∀ {vs:List Value},(∀ v∈vs,∃ ns,zjS h v ns)->∃ fs,KatTups h vs fs/\fs.length=vs.length/\∀ f∈fs,∃ (b:Addr) (its:Array Value),f=.ref b/\IsTup h b its
 | [],_=>⟨[],.nil,rfl,fun f hf=>by cases hf⟩
 | v::vs,hv=>by
  obtain⟨fs,k,l,q⟩:=zil (vs:=vs) fun x hx=>hv x (qm _ hx)
  obtain⟨ns,a,b,u,its,rfl,⟨o,eo,co,n,dO⟩,tb,_⟩:=hv v qo
  refine⟨.ref b::fs,.cons eo co dO rfl k,by rw [qt,qt,l],fun f hf=>?_⟩
  rcases qu.mp hf with e | hf
  ·exact⟨b,its,e,tb⟩
  ·exact q f hf
def zsD(K:qc)(H:Hp)(vs:List V)(ps:List (List Int)):Prop:=vs.length=ps.length/\∀ i v,vs[i]?=some v->∃ (a b:Addr) (y:V),v=.ref a/\SqT K H a [.ref b,y]/\SqT K H b ((ps.getD i []).map V.int)
def zpm(K:qc):List V->Hp->VK->Prop:=fun xs H Q=>∃ (l:Addr) (vs:List V) (ps:List (List Int)),xs=[.ref l]/\SqL K H l vs/\vs.length < 64/\zsD K H vs ps/\ps.Nodup /\
 ∀ (is:List Nat) r,is.Perm (List.range vs.length)->(is.map fun i=>ps.getD i []).Pairwise (fun a b=>zcj a b=true)->H r=none->Q (.ref r) (upd H r (.lst (is.map fun i=>vs.getD i .non)))
theorem zim{vs:List V}{us:List Value}(r:zN vs us):∀ is:List Nat,(∀ i∈is,i < vs.length)->zN (is.map fun i=>vs.getD i .non) (is.map fun i=>us.getD i Value.none)
 | [],_=>.nil
 | i::is,h=>by
  have hi:=h i qo
  obtain⟨u,e,ru⟩:=r.get (ql hi)
  refine .cons ?_ (zim r is fun j hj=>h j (qm _ hj))
  show zU (vs.getD i .non) (us.getD i Value.none)
  rw [qA,qA,ql hi,e]
  exact ru
section
variable {X:Cx}
theorem zhc(K:qc)(hK:X.K=K){k:Nat}(hr:Room k X.A):zbU X (.builtin "sorted") (zpm K):=by
 subst hK
 intro pins s σ H xs us Q I r h
 obtain⟨l,vs,ps,rfl,hl,h64,⟨lp,hp⟩,nd,q⟩:=h
 obtain⟨u,rfl,ru⟩:=zdV r
 cases ru
 obtain⟨its,rv,⟨o,n,eo,co,_,dO⟩,_⟩:=I.list hl
 have line:(64:Nat)<=sizeLine:=by decide
 have lv:its.length=vs.length:=rv.length.symm
 have pr:∀ i,i < its.length->zjS s.heap (its.getD i Value.none) (ps.getD i []):=fun i hi=>by
  have hi':i < vs.length:=by omega
  obtain⟨a,b,y,ev,ha,hb⟩:=hp i _ (ql hi')
  obtain⟨u,eu,ru⟩:=rv.get (ql hi')
  rw [ev]at ru
  cases ru
  obtain⟨ia,ra,ta,_⟩:=I.tuple ha
  obtain⟨u1,u2,rfl,r1,r2⟩:=ra.two
  cases r1
  obtain⟨ib,rb,tb,_⟩:=I.tuple hb
  refine⟨a,b,u2,ib.toArray,?_,ta,tb,zgZ rb⟩
  rw [qA,eu]
  rfl
 refine Calls.call_function_entry kind_sorted plain_sorted entry_sorted (args_sorted1 _) ?_
 unfold Builtin.«sorted»
 refine qa (m:=checkCount "sorted" 1 1 _) (qb ?_)
 refine qa (collect_list (vs:=its) ⟨o,eo,co,n,dO⟩ (qa (wpAny_newList ?_ ?_)) (by omega))
 case refine_2=>omega
 generalize hH:(s.heap.push (seqObj "list" #[] 0)).update s.heap.objs.size (Obj.mapSeq (·++its.toArray))=h1 at *
 have hsz:h1.objs.size=s.heap.objs.size+1:=by rw [<-hH,Heap.size_update,size_push']
 have keep1:∀ b o,s.heap.get? b=some o->h1.get? b=some o:=fun b o e=>by
  have hlt:b < s.heap.objs.size:=qh e
  rw [<-hH,Heap.get?_update_ne _ _ _ _ (qj hlt),Heap.get?_push_ne _ _ _ (qj hlt)]
  exact e
 have I1:Inv X pins σ H { s with heap:=h1,toks:=s.toks }:=I.kept keep1
 have hoL:(h1.push (seqObj "list" its.toArray 0)).get? h1.objs.size=some (seqObj "list" its.toArray 0):=qg _ rfl
 have hu:X.A.units+64 < cLine:=hr.units
 refine qa (wpAny_holding (wpAny_call_entry slot_list_sort ⟨_,hoL,rfl⟩ entry_list_sort (ziU (rk:=zjR ps) (s:={ s with heap:=h1.push (seqObj "list" its.toArray 0) }) hoL (by omega) (fun h2 h' kp Q' hQ=>?_) fun p a1 a2=>⟨_,rfl,?_⟩) (args_list_sort _)))
 ·have kp':∀ b o,s.heap.get? b=some o->h'.get? b=some o:=fun b o e=>by
   have hlt:b < s.heap.objs.size:=qh e
   exact kp b o (qj (by rw [hsz]; exact Nat.lt_succ_of_lt hlt)) (qd _ (keep1 b o e))
  have pr':∀ i,i < its.length->zjS h' (its.getD i Value.none) (ps.getD i []):=fun i hi=>(pr i hi).kept kp'
  obtain⟨fs,kt,lf,tf⟩:=zil (h:=h') (vs:=its) fun v hv=>by
   obtain⟨i,hi,e⟩:=List.getElem_of_mem hv
   have:=pr' i hi
   rw [show its.getD i Value.none=v by simp [hi,e]]at this
   exact⟨_,this⟩
  refine kat_kind (fs:=fs) (T:=.type "tuple") kt (by omega) (fun v hv=>?_) (by decide) ?_
  ·obtain⟨b,ib,rfl,o,eo,co,_⟩:=tf v hv
   rw [<-co]
   exact(Looks.ld eo).andThen .now
  ·refine hQ _ fun i j C hi hj hc=>?_
   rw [zsC nd (by omega) (by omega)]at hc
   refine zxq (by show X.A.units+1+1 < cLine; omega) (pr' i hi) (pr' j hj) ?_ hc
   by_cases e:i=j
   ·exact .inl (by rw [e])
   ·exact .inr (zeR nd (by omega) (by omega) e)
 ·refine qb ⟨_,rfl,?_⟩
  obtain⟨en,ho⟩:=sortedHeap_at (vs:=its) (out:=List.toArray (p.toList.map fun i=>its.getD i Value.none)) hoL
  have fresh:H h1.objs.size=none:=I1.hok.fresh (qe _)
  have perm:p.toList.Perm (List.range vs.length):=by
   have:=a1.list
   rw [lv]at this
   exact this
  have mem:∀ i∈p.toList,i < vs.length:=fun i hi=>List.mem_range.mp (perm.mem_iff.mp hi)
  have lm:p.toList.length=vs.length:=by
   have:=perm.length_eq
   simpa using this
  rw [lv,lp]at a1 a2
  refine⟨.ref h1.objs.size,_,I1.laid (t':=s.toks) (a:=h1.objs.size) (o:=.lst (p.toList.map fun i=>vs.getD i .non)) (fun b o e=>?_) (qe _) ⟨by rw [List.length_map]; omega,p.toList.map fun i=>its.getD i Value.none,en,zim rv p.toList mem,by simpa using ho⟩,rfl,q p.toList _ perm (zvR nd a1 a2) fresh⟩
  have hb:b < h1.objs.size:=qh e
  rw [sortedHeap_old (qj hb) (by rw [Heap.size_push]; exact Nat.lt_succ_of_lt hb)]
  exact qd _ e
end
end L2
namespace L2
open PySem PySem.Spec PyProof.Rows
def zes(h:Heap)(d:Addr)(es:Array DictEntry)(ep:Nat):Prop:=∃ o,h.get? d=some o/\o.ExactDict/\o.data=.dict es ep
theorem zes.typeIs{s:Shared}{d:Addr}{es:Array DictEntry}{ep:Nat}(r:zes s.heap d es ep):s.TypeIs (.ref d) "dict":=by
 obtain⟨o,e,x,_⟩:=r
 exact⟨o,e,x.1⟩
section
variable {prog:Program} {w:World} {A:Around} {E:Value->Shared->Prop} {s:Shared} {it d:Addr} {i ep:Nat} {es:Array DictEntry}
theorem zpn{Q:Value->Shared->Prop}(hd:(d==sysModules)=false)(r:zes s.heap d es ep)
  (q:∀ h':Heap,h'.IsKeyIter s.heap.objs.size d 0 es.size ep->(∀ b o,s.heap.get? b=some o->h'.get? b=some o)->Q (.ref s.heap.objs.size) { s with heap:=h' }):wpAny (model prog w) A (pyIter (.ref d)) Q E s:=by
 have hT:=r.typeIs
 obtain⟨o,e,_,dat⟩:=r
 refine wpAny_pyIter_slot hT F.slot_dict_iter (wpAny_call_entry F.slot_dict_iter hT F.entry_dict_iter ?_ (F.args_dict_iter_1 _))
 unfold Builtin.«dict.__iter__»
 refine qa ?_
 unfold Builtin.Dict.dictSlotNone
 refine qa (wpAny_notOrdered_dict hT (qb ?_))
 show wpAny _ _ (Builtin.Dict.showsAll d >>= _) _ _ s
 unfold Builtin.Dict.showsAll
 rw [hd,if_neg qf]
 refine qa (qb (qa (wpAny_dictEntries e dat (qa (wpAny_dictEpoch e dat (qa (qy (qb ⟨_,rfl, "dict_keyiterator",_,⟨_,qg _ rfl,rfl⟩,F.slot_dict_keyiterator_next.lookup,?_⟩))))))))
 exact q _ ⟨_,qg _ rfl,rfl,by simp [rawInt]⟩ fun b o z=>qd _ z
theorem zpo{Q:Option Value->Shared->Prop}(k:s.heap.IsKeyIter it d i es.size ep)(r:zes s.heap d es ep){x:DictEntry}(hx:es[i]?=some x)
  (q:∀ h':Heap,h'.IsKeyIter it d (i+1) es.size ep->Heap.SameBut it s.heap h'->Q (some x.key) { s with heap:=h' }):wpAny (model prog w) A (pyNext (.ref it)) Q E s:=by
 have kT:=k.typeIs
 obtain⟨oi,ei,ci,fi⟩:=id k
 obtain⟨o,e,_,dat⟩:=r
 unfold pyNext
 refine qa (wpAny_attempt (wpAny_callSpecial?_slot (name:=Str.ofString "__next__") kT F.slot_dict_keyiterator_next
  (wpAny_call_entry F.slot_dict_keyiterator_next kT F.entry_dict_keyiterator_next ?_ (F.args_dict_keyiterator_next_1 _))))
 refine qa (qb (qa (qa ?_)))
 refine qa (wpAny_typeNameOfWhole_keyiter kT (qb (qa (wpAny_fieldsOf ei fi ?_))))
 simp only [show Builtin.Dict_items.ownsTuple "dict_keyiterator"=false by decide,Bool.false_eq_true,if_false]
 show wpAny _ _ (if(Value.ref d==Value.none)=true then _ else _) _ _ s
 rw [if_neg (show ¬((Value.ref d==Value.none)=true) from qf)]
 refine qa (qb (qa (wpAny_dictEntries e dat ?_)))
 rw [if_neg (by simp)]
 refine qa (qb (qa (wpAny_dictEpoch e dat ?_)))
 rw [if_neg (by simp)]
 refine qb ?_
 simp only [show ¬((i:Int) < 0) from by omega,if_false,Int.toNat_natCast,hx]
 refine qa (qa (wpAny_typeNameOfWhole_keyiter kT (qb (qa (wpAny_isOneOf_keyiter kT ?_)))))
 show wpAny _ _ (setField (.ref it) 1 (rawInt ((i:Int)+1)) >>= _) _ _ s
 refine qa (wpAny_setField ei fi (by simp) ?_)
 have k':(s.heap.update it (Obj.mapFields (·.setIfInBounds 1 (rawInt ((i:Int)+1))))).IsKeyIter it d (i+1) es.size ep :=
  ⟨_,Heap.get?_update_self _ ei (Obj.isFreed_of_fields (Obj.data_mapFields fi _)),(Obj.cls_mapFields ..).trans ci,by rw [Obj.data_mapFields fi]; simp [rawInt]⟩
 refine qa (wpAny_holding (qa (wpAny_isOneOf_keyiter (s:={ s with heap:=s.heap.update it (Obj.mapFields (·.setIfInBounds 1 (rawInt ((i:Int)+1)))) }) k'.typeIs ?_)))
 show wpAny _ _ (pure x.key) _ _ _
 exact qb (qb ⟨_,rfl,qb (q _ k' (Heap.SameBut.update ..))⟩)
theorem zsE{Q:Option Value->Shared->Prop}(hh:A.handled=none)(k:s.heap.IsKeyIter it d i es.size ep)(r:zes s.heap d es ep)(hx:es.size<=i)
  (q:∀ h':Heap,Heap.ExtBut it s.heap h'->Q none { s with heap:=h' }):wpAny (model prog w) A (pyNext (.ref it)) Q E s:=by
 have kT:=k.typeIs
 obtain⟨oi,ei,ci,fi⟩:=id k
 obtain⟨o,e,_,dat⟩:=r
 unfold pyNext
 refine qa (wpAny_attempt (wpAny_callSpecial?_slot (name:=Str.ofString "__next__") kT F.slot_dict_keyiterator_next
  (wpAny_call_entry F.slot_dict_keyiterator_next kT F.entry_dict_keyiterator_next ?_ (F.args_dict_keyiterator_next_1 _))))
 refine qa (qb (qa (qa ?_)))
 refine qa (wpAny_typeNameOfWhole_keyiter kT (qb (qa (wpAny_fieldsOf ei fi ?_))))
 simp only [show Builtin.Dict_items.ownsTuple "dict_keyiterator"=false by decide,Bool.false_eq_true,if_false]
 show wpAny _ _ (if(Value.ref d==Value.none)=true then _ else _) _ _ s
 rw [if_neg (show ¬((Value.ref d==Value.none)=true) from qf)]
 refine qa (qb (qa (wpAny_dictEntries e dat ?_)))
 rw [if_neg (by simp)]
 refine qa (qb (qa (wpAny_dictEpoch e dat ?_)))
 rw [if_neg (by simp)]
 refine qb ?_
 simp only [show ¬((i:Int) < 0) from by omega,if_false,Int.toNat_natCast,Array.getElem?_eq_none hx]
 refine qa (qa (wpAny_typeNameOfWhole_keyiter kT (qb ?_)))
 show wpAny _ _ (setField (.ref it) 0 .none >>= _) _ _ s
 refine qa (wpAny_setField ei fi (by simp) ?_)
 show wpAny _ _ (newExc (.type "StopIteration") [] >>= _) _ _ _
 refine qa ?_
 simp only [newExc,newTuple]
 refine qa (qy ?_ (by show(0:Nat)<=sizeLine; exact Nat.zero_le _))
 refine qa (m:=firstArgMember _ _) (wpAny_of_eq (a:=Value.none) (by first | rfl | (simp only [firstArgMember]; rfl)) ?_)
 refine qy ?_ (by first | trivial | size_fits)
 simp only [raiseNew]
 refine qa (wpAny_handled ?_)
 rw [show A.in1.handled=none from hh]
 refine qa (qb (wpAny_throw ?_))
 refine qa (wpAny_isInstance (T := "StopIteration") (b:=true) ⟨_,qg _ rfl,rfl⟩ isSubtype_stop ?_)
 exact qb (q _ (((Heap.SameBut.update ..).extBut.push _).push _))
end
theorem zeT{α β:Type}{R:α->β->Prop}:∀ {xs:List α} {ys:List β},Paired R xs ys->∀ (i:Nat) (x:α),xs[i]?=some x->∃ y,ys[i]?=some y/\R x y
 | _,_,.nil,i,x,h=>by simp at h
 | _,_,.cons r _,0,x,h=>by
  cases(show some _=some x from h)
  exact⟨_,rfl,r⟩
 | _,_,.cons _ t,i+1,x,h=>zeT t i x h
theorem zcR{α β:Type}{R:α->β->Prop}:∀ {xs:List α} {ys:List β},Paired R xs ys->xs.length=ys.length
 | _,_,.nil=>rfl
 | _,_,.cons _ t=>by rw [qt,qt,zcR t]
theorem ziW{X:Cx}{pins:List (Addr×Obj)}{σ:St}{H:Hp}{s:Shared}{a:Addr}{o:Obj}{kvs:List (List Key×V)}(I:Inv X pins σ H s)(e:H a=some (.frz o (.dT kvs))) :
  (a==sysModules)=false/\∃ (es:Array DictEntry) (ep:Nat),s.heap.get? a=some o/\o.ExactDict/\o.data=.dict es ep/\es.size=kvs.length/\∀ (i:Nat) (k:List Key) (v:V),kvs[i]?=some (k,v)->∃ (b:Addr) (x:DictEntry),es[i]?=some x/\x.key=.ref b/\TpK X.K H b (k.map kV):=by
 obtain⟨ea,z,y,xs,r,o',es,ep,h1,h2,h3,h4,h5⟩:=(show zaj X.prog X.w X.K H s.heap a (.frz o (.dT kvs)) from I.hok a _ e)
 rw [ea]at h1
 cases h1
 refine⟨y,es,ep,ea,h2,h3,?_,fun i k v hi=>?_⟩
 ·have:=congrArg List.length h4
  rw [Array.length_toList,List.length_map,<-zcR r]at this
  exact this
 ·obtain⟨q,hq,r1,r2,_⟩:=zeT r i (k,v) hi
  refine⟨q.2.1,entryOfKey (tupleKind (zai X.prog X.w)) q,?_,rfl,r2⟩
  have:es.toList[i]?=some (entryOfKey (tupleKind (zai X.prog X.w)) q):=by rw [h4,List.getElem?_map,hq]; rfl
  simpa using this
def ItK(K:qc)(a:Addr)(o:Obj)(kvs:List (List Key×V)):It :=
 ⟨fun i H=>H a=some (.frz o (.dT kvs))/\i < kvs.length,fun i H x H'=>H'=H/\∀ k v,kvs[i]?=some (k,v)->∃ b,x=.ref b/\TpK K H b (k.map kV),fun i H=>H a=some (.frz o (.dT kvs))/\kvs.length<=i⟩
theorem zlm{P:Program}{w:World}{K:qc}{tg:Expr}(a it:Addr)(o:Obj)(kvs:List (List Key×V))(ep:Nat)(hep:∃ es,o.data=.dict es ep):Turn P w K tg (ItK K a o kvs) [it] it (fun i h=>h.IsKeyIter it a i kvs.length ep) where
 mem:=by simp
 obj:=fun i h st b hb=>by
  have e:b=it:=by simpa using hb
  subst e
  obtain⟨oi,e,c,d⟩:=st
  exact⟨oi,e,fun v z=>by rw [d]at z; cases z⟩
 keep:=fun i h h' st k=>st.at fun oi e=>k it (by simp) oi e
 item:=by
  intro X hP hw hK hc i pins s σ H E I hf st hg
  subst hP hw hK
  obtain⟨e,hi⟩:=hg
  obtain⟨hsm,es,ep',ea,xd,dat,hsz,ent⟩:=ziW I e
  have eep:ep'=ep:=by
   obtain⟨es',z⟩:=hep
   rw [dat]at z
   injection z
  subst eep
  obtain⟨f0,f1,f2,f3,f4,f5⟩:=hf it (by simp)
  obtain⟨b,x,ex,kx,hb⟩:=ent i kvs[i].1 kvs[i].2 (ql hi)
  refine zpo (es:=es) (by rw [hsz]; exact st) ⟨o,ea,xd,dat⟩ ex fun h' st' sb=>?_
  have I1:Inv X pins σ H { s with heap:=h' }:=I.turned (t':=s.toks) (fun b o hb e=>(sb.2 b hb).trans e) f0 f1 f3 f4 f5
  obtain⟨oi,e',c',d'⟩:=id st'
  rw [kx]
  refine⟨.ref b,rfl,zjD (s:={ s with heap:=h' }) e' c' d' (by decide) ⟨.ref b,H,I1,rfl,⟨rfl,fun k v hkv=>⟨b,rfl,?_⟩⟩,by rw [hsz]at st'; exact st',fun b hb=>(hf b hb).1⟩⟩
  rw [ql hi]at hkv
  rw [qw hkv]at hb
  exact hb
 done:=by
  intro X hP hw hK hc i pins s σ H E I hf st hg
  subst hP hw hK
  obtain⟨e,hi⟩:=hg
  obtain⟨hsm,es,ep',ea,xd,dat,hsz,ent⟩:=ziW I e
  have eep:ep'=ep:=by
   obtain⟨es',z⟩:=hep
   rw [dat]at z
   injection z
  subst eep
  obtain⟨f0,f1,f2,f3,f4,f5⟩:=hf it (by simp)
  exact zsE (es:=es) (I.ok.hd hc) (by rw [hsz]; exact st) ⟨o,ea,xd,dat⟩ (by omega) fun h' eb=>⟨rfl,I.turned (t':=s.toks) (fun b o hb e=>eb b o hb e) f0 f1 f3 f4 f5⟩
 self:=fun _ _ _ _ _ st h=>wpAny_pyIter_keyiter st h
section
variable {X:Cx} {tg:Expr}
theorem Inv.freeze{pins:List (Addr×Obj)}{σ:St}{H:Hp}{s:Shared}{a:Addr}{kvs:List (List Key×V)}(I:Inv X pins σ H s)(e:H a=some (.dT kvs)):∃ o,s.heap.get? a=some o/\Inv X pins σ (upd H a (.frz o (.dT kvs))) s:=by
 have ok:=(show zaj X.prog X.w X.K H s.heap a (.dT kvs) from I.hok a _ e)
 obtain⟨z,y,xs,r,o,es,ep,h1,h2⟩:=id ok
 refine⟨o,h1,?_⟩
 have ok2:zaj X.prog X.w X.K (upd H a (.frz o (.dT kvs))) s.heap a (.dT kvs):=ok.stay (fun _ _ _ q=>q) (fun b q=>by rw [zA (zfe q e (by intro z; cases z))]; exact q) fun b ys q=>by rw [zA (zfe q e (by intro z; cases z))]; exact q
 exact I.write (t':=s.toks) (h':=s.heap) (by rw [e]; trivial) (.inl rfl) (fun _ _ _ q=>q) ⟨o,h1⟩ ⟨h1,ok2⟩
def zpp(K:qc)(td:TE):TI:=fun σ H R=>td σ H fun x H1=>∃ a kvs,x=.ref a/\((H1 a=some (.dT kvs)/\∀ o,R (ItK K a o kvs) (upd H1 a (.frz o (.dT kvs))))\/∃ o,H1 a=some (.frz o (.dT kvs))/\R (ItK K a o kvs) H1)
theorem zdz{d:Expr}{td:TE}(hd:Wr (PE X d td)):Wr (PI X tg d (zpp X.K td)):=by
 refine⟨?_⟩
 intro pins s σ H R I h
 refine thn (hd.run pins s σ H _ I h) fun v s1 ⟨x,H1,I1,r1,q1⟩=>?_
 obtain⟨a,kvs,e,q⟩:=q1
 subst e
 cases r1
 have key:∀ (H2:Hp) (o:Obj),Inv X pins σ H2 s1->H2 a=some (.frz o (.dT kvs))->R (ItK X.K a o kvs) H2->wpAny (model X.prog X.w) X.A (pyIter (.ref a)) (PIE X pins σ tg R) X.xe s1:=fun H2 o I2 e2 q2=>by
  obtain⟨hsm,es,ep,ea,xd,dat,hsz,_⟩:=ziW I2 e2
  refine zpn (es:=es) hsm ⟨o,ea,xd,dat⟩ fun h' hit kk=>?_
  refine⟨s1.heap.objs.size,[s1.heap.objs.size],_,_,H2,rfl,I2.kept (t':=s1.toks) kk,zlm a s1.heap.objs.size o kvs ep ⟨es,dat⟩,by rw [<-hsz]; exact hit,fun b hb=>?_,q2⟩
  have e:b=s1.heap.objs.size:=by simpa using hb
  subst e
  exact I2.fpOk (qe _) (I2.hok.fresh (qe _))
 rcases q with ⟨e1,q⟩ | ⟨o,e1,q⟩
 ·obtain⟨o,_,I2⟩:=I1.freeze e1
  exact key _ o I2 zx (q o)
 ·exact key H1 o I1 e1 q
end
end L2
namespace L2
open PySem PySem.Spec PyProof.Rows
open PySem.W (Looks)
def zyE(C p:Addr):Obj:={ cls:=.ref C,data:=.fields #[.ref p,.none,.none,.none,.bool false,.none] }
section
variable {prog:Program} {w:World} {A:Around} {E:Value->Shared->Prop} {h:Heap} {g:Array GenState} {d:Drawn} {t:Nat} {os:OsState}
variable {nm q:Str} {C N:Addr} {bs bm bmB:List Value} {hdct:Bool} {sn:List Str} {sub:List Value} {ab:Bool} {col:Option Bool} {dd:Option Addr} {k0 k1 k2 k3 k5:Option Value} {B newId initId:String}
end
abbrev xUp:List Value:=[.type "ValueError",.type "Exception",.type "BaseException",.type "object"]
structure XC (K:qc) (C:Addr):Prop where
 at_:∃ nm q N bs bm sn sub ab col dd k0 k1 k2 k3 k5,K.lookup C=some (excClassObj nm q C N bs bm true sn sub ab col dd k0 k1 k2 k3 k5 "ValueError.__new__")/\PySem.W.tailIn K xUp bm=true
 ga:PySem.W.findIn K (.ref C) "__getattribute__"=some (some (.builtin "BaseException.__getattribute__"))
 gh:PySem.W.findIn K (.ref C) "__getattr__"=some none
 sa:PySem.W.findIn K (.ref C) "__setattr__"=some (some (.builtin "object.__setattr__"))
section
variable {prog:Program} {w:World} {A:Around} {K:qc} {C x:Addr} {s:Shared} {R:Result->Shared->Prop}
end
end L2
namespace L2
open PySem PySem.Spec PyProof.Rows
open PySem.W (Looks InstAt)
section
variable {prog:Program} {w:World} {A:Around} {E:Value->Shared->Prop} {K:qc} {C x:Addr} {s:Shared} {R:Result->Shared->Prop}
theorem XC.cls(X:XC K C):∃ cd bm,PySem.W.clsIn K C=some cd/\cd.mro=.ref C::bm/\PySem.W.tailIn K xUp bm=true/\cd.hasDict=true:=by
 obtain⟨nm,q,N,bs,bm,sn,sub,ab,col,dd,k0,k1,k2,k3,k5,e,tl⟩:=X.at_
 refine⟨{ name:=nm,bases:=bs,mro:=.ref C::bm,ns:=N,qualname:=q,hasDict:=true,slotNames:=sn,subclasses:=sub,abstract:=ab,collection:=col,hasDel:=false },bm,?_,rfl,tl,rfl⟩
 unfold PySem.W.clsIn
 rw [e]
end
end L2
namespace L2
open PySem PySem.Spec PyProof.Rows
open PySem.W (Looks InstAt)
structure XI (K:qc) (C:Addr):Prop where
 cl:XC K C
 ca:PySem.W.findIn K (.ref C) "__class__"=some (some (.builtin "object.__class__"))
 cg:PySem.W.specialIn K (.builtin "object.__class__") "__get__"=some (some (.builtin "getset_descriptor.__get__"))
 ct:PySem.W.takesIn K (.builtin "object.__class__")=some true
 cm:PySem.W.mroIn K C (.type "object")=some true
section
variable {prog:Program} {w:World} {A:Around} {E:Value->Shared->Prop} {K:qc} {C x:Addr} {s:Shared} {R:Result->Shared->Prop}
theorem XI.at_(Y:XI K C):∃ c d cd sl,K.lookup C=some ⟨c,d,.cls cd,sl⟩:=by
 obtain⟨nm,q,N,bs,bm,sn,sub,ab,col,dd,k0,k1,k2,k3,k5,e,tl⟩:=Y.cl.at_
 exact⟨_,_,_,_,e⟩
end
end L2
namespace L2
open PySem PySem.Spec PyProof.Rows
open PySem.W (Looks InstAt)
def XV(H:Hp)(a C:Addr)(fs:List (Str×V)):Prop:=∃ ox,H a=some (.frz ox (.own 0))/\ox.cls=.ref C/\PySem.W.notCls ox=true /\
 ((fs=[]/\ox.dict=none)\/∃ od dx,ox.dict=some dx/\H dx=some (.frz od (.xd fs)))
section
variable {X:Cx} {pins:List (Addr×Obj)} {σ:St} {H:Hp} {s:Shared} {a C:Addr} {fs:List (Str×V)} {o e value:Expr} {f:Str} {pos pos':Pos} {ta tv:TE} {v:V}
end
section
variable {X:Cx} {CX:CXT} {k:Nat} {f C:Addr} {fd:FuncData} {ps:List Str} {sp:Sp} {E:XK} {x:Str} {p pos:Pos} {e:Expr} {es:List Expr} {t:TA}
end
end L2
namespace L2
open PySem PySem.Spec PyProof.Rows
open PySem.W (Looks InstAt)
section
variable {prog:Program} {w:World} {A:Around} {K:qc} {C x:Addr} {s:Shared} {R:Result->Shared->Prop}
end
section
variable {X:Cx} {C:Addr} {x:Str} {p pos:Pos}
end
end L2
namespace L2
open PySem PySem.Spec PyProof.Rows
open PySem.W (Looks InstAt)
def zyF(a C:Addr)(d tb:Option Addr)(h:Heap):Prop:=∃ oe vs,h.get? a=some oe/\oe.cls=.ref C/\oe.dict=d/\oe.data=.fields vs/\vs[1]?=some (tb.elim .none .ref)/\(tb=none->∃ p,oe={ zyE C p with dict:=d })
def pTb(T:Addr)(h:Heap):Prop:=∃ oT ts,h.get? T=some oT/\oT.data=.fields ts/\ts[3]?=some .none
def zyG(a C:Addr)(d tb:Option Addr):HO:=.ext (zyF a C d tb)
def xTb(T:Addr):HO:=.ext (pTb T)
def zyH(H:Hp)(a C:Addr)(fs:List (Str×V)):Prop:=∃ d tb,H a=some (zyG a C d tb)/\(∀ T,tb=some T->H T=some (xTb T)/\T≠a) /\
 ((fs=[]/\d=none)\/∃ od dx,d=some dx/\H dx=some (.frz od (.xd fs)))
section
variable {X:Cx} {pins:List (Addr×Obj)} {σ:St} {H:Hp} {s:Shared} {h':Heap}
theorem Inv.slots(I:Inv X pins σ H s)(z:Heap.SlotsOnly (frs X.stack) s.heap h'):Inv X pins σ H { s with heap:=h' }:=by
 obtain⟨z1,z2,z3⟩:=z
 have sub:=I.stkSub
 have sfree:=I.stkFree
 have trk:∀ b u,H b=some u->h'.get? b=s.heap.get? b:=fun b u e=>z2 b fun hb=>by rw [sfree b hb]at e; cases e
 have old:∀ b o,X.s₀.heap.get? b=some o->b∉X.fs->b∉frs X.stack:=fun b o e hn hb=>by
  rcases qu.mp (sub b hb)with q | q
  ·have h1:=qh e
   have h2:=I.ok.above
   rw [q]at h1
   exact absurd (qi h1 h2) (Nat.lt_irrefl _)
  ·exact hn q
 refine⟨I.ok,I.os,I.bare,⟨fun b o e n hc hx=>?_,fun b o e n hc hx=>?_,I.base.free,fun b o e hx=>?_,I.base.tups,I.base.frzs,I.base.tbls⟩,?_,fun x c e=>?_,I.free,I.freeC,fun p hp=>?_,fun b u e=>?_,I.len⟩
 ·exact(z2 b (old b o e hc)).trans (I.base.keep b o e n hc hx)
 ·obtain⟨sl,q⟩:=I.base.slot b o e n hc hx
  obtain⟨sl',q'⟩:=z3 b _ q
  exact⟨sl',q'⟩
 ·obtain⟨o',q⟩:=I.base.there b o e hx
  obtain⟨sl',q'⟩:=z3 b _ q
  exact⟨_,q'⟩
 ·obtain⟨m,⟨o,es,ep,ho,hd,r⟩,hl⟩:=I.loc
  obtain⟨sl,hs⟩:=z3 _ _ ho
  refine⟨m,⟨_,es,ep,hs,hd,r⟩,fun i x v e1 e2 e3=>?_⟩
  obtain⟨u,ru,lk⟩:=hl i x v e1 e2 e3
  refine⟨u,ru,?_⟩
  rcases lk with lk | ⟨k,c,ec,oc,hoc,hdc⟩
  ·exact .inl lk
  ·obtain⟨sl,hs⟩:=z3 _ _ hoc
   exact .inr ⟨k,c,ec,_,hs,hdc⟩
 ·obtain⟨v,oc,hoc,hdc⟩:=I.cell x c e
  obtain⟨sl,hs⟩:=z3 _ _ hoc
  exact⟨v,_,hs,hdc⟩
 ·obtain⟨h1,h2,h3,h4,h5⟩:=I.pin p hp
  refine⟨(z2 _ fun hb=>?_).trans h1,h2,h3,h4,h5⟩
  rcases qu.mp (sub _ hb)with q | q
  ·exact h3 q
  ·exact h4 q
 ·refine(I.hok b u e).stay (fun c v hc r=>?_) (fun _ r=>r) fun _ _ r=>r
  rcases hc with rfl | hc
  ·exact(trk _ _ e).trans r
  ·exact(trk _ _ hc).trans r
end
end L2
namespace L2
open PySem PySem.Spec PyProof.Rows
open PySem.W (Looks InstAt)
abbrev EXT:=St->Addr->Hp->Prop
section
variable {X:Cx} {EX:EXT} {e:Expr} {te:TE} {pos:Pos}
end
section
variable {X:Cx} {C:Addr} {x:Str} {p pos:Pos}
end
section
variable {X:Cx} {EX:EXT} {k:Nat} {f:Addr} {fd:FuncData} {ps:List Str} {sp:Sp} {x:Str} {p pos:Pos} {e:Expr} {es:List Expr} {t:TA}
end
end L2
namespace L2
open PySem PySem.Spec PyProof.Rows
open PySem.W (Looks InstAt)
abbrev Cx.body(X:Cx)(pn:List (Addr×Obj))(E:Value->Shared->Prop):Cx:={ X with pn:=pn,xe:=E }
section
variable {X:Cx} {pins:List (Addr×Obj)} {σ:St} {H:Hp} {s:Shared} {E:Value->Shared->Prop} {a:Addr} {pn:List (Addr×Obj)}
theorem Cx.Ok.body(ok:X.Ok):(X.body pn E).Ok:=⟨ok.mod,ok.kind,ok.glob,ok.blt,ok.above,ok.inj,ok.has,ok.cab,ok.hd,ok.frames,ok.stk,ok.exf,ok.bs,ok.bsz,ok.noex,ok.exfs,ok.funs,ok.frf⟩
theorem Inv.body(I:Inv X pins σ H s):Inv (X.body (X.pn++pins) E) [] σ H s:=⟨I.ok.body,I.os,I.bare,I.base,I.loc,I.cell,I.free,I.freeC,fun p hp=>I.pin p (by simpa using hp),I.hok,I.len⟩
end
section
variable {prog:Program} {w:World} {A:Around} {E:Value->Shared->Prop} {K:qc} {C C':Addr}
end
section
variable {X:Cx} {i:Nat} {n cls:Str} {C':Addr} {body suite:List Stmt} {b₀:Stmt} {tb:EXT->TS} {th:TS} {np hpos pos:Pos}
end
end L2
namespace L2
open PySem PySem.Spec PyProof.Rows
abbrev D:=PyData
def k1D:Key->D
 | .inl i=>.int i
 | .inr x=>.str x
def kTD(ks:List Key):D:=.tuple (ks.map k1D)
def PL(K:qc)(H:Hp)(a:Addr)(xs:List V):Prop :=
 (∃ o,H a=some (.frz o (.lst xs)))\/∃ (o:Obj) (its:Array Value) (n:Nat),K.lookup a=some o/\o.cls=.type "list"/\o.dict=none/\o.data=.seq its n/\its.size<=sizeLine/\zN xs its.toList
def XN(K:qc)(n:Str)(C:Addr):Prop:=PySem.W.nsIn K mainGlobals n=some (some (.ref C))
def noX:List (D×D)->Bool
 | (.none,_)::_=>false
 | (.bool _,_)::_=>false
 | _=>true
theorem TpK.sq{K:qc}{H:Hp}{a:Addr}{xs:List V}(h:TpK K H a xs):SqT K H a xs:=h.imp .inl id
theorem TpK.kp{K:qc}{H H':Hp}{a:Addr}{xs:List V}(e:Kp H H')(h:TpK K H a xs):TpK K H' a xs:=h.keeps e.tup
mutual
inductive DF (K:qc) (H:Hp):V->D->Prop
 | non:DF K H .non .none
 | bl (b:Bool):DF K H (.bl b) (.bool b)
 | int (i:Int):DF K H (.int i) (.int i)
 | str (x:Str):DF K H (.str x) (.str x)
 | tup {a:Addr} {xs:List V} {ds:List D} (h:TpK K H a xs) (t:DFs K H xs ds):DF K H (.ref a) (.tuple ds)
 | lst {a:Addr} {xs:List V} {ds:List D} (h:PL K H a xs) (t:DFs K H xs ds):DF K H (.ref a) (.list ds)
 | dct {a:Addr} {o:Obj} {ws:List (List Key×V)} {kvs:List (D×D)} (h:H a=some (.frz o (.dT ws))) (t:DFt K H ws kvs):DF K H (.ref a) (.dict kvs)
 | exc {a C:Addr} {n:Str} {fs:List (Str×V)} {ds:List (D×D)} (h:XV H a C fs) (e:XN K n C) (t:DFf K H fs ds):DF K H (.ref a) (.dict ((.none,.str n)::ds))
 | obj {a C dx:Addr} {o:Obj} {n:Str} {fs:List (Str×V)} {ds:List (D×D)} (h:H a=some (.frz o (.ins C dx fs))) (e:XN K n C) (t:DFf K H fs ds):DF K H (.ref a) (.dict ((.bool true,.str n)::ds))
inductive DFs (K:qc) (H:Hp):List V->List D->Prop
 | nil:DFs K H [] []
 | cons {v:V} {d:D} {vs:List V} {ds:List D} (h:DF K H v d) (t:DFs K H vs ds):DFs K H (v::vs) (d::ds)
inductive DFt (K:qc) (H:Hp):List (List Key×V)->List (D×D)->Prop
 | nil:DFt K H [] []
 | cons {k:List Key} {v:V} {d:D} {vs:List (List Key×V)} {ds:List (D×D)} (h:DF K H v d) (t:DFt K H vs ds):DFt K H ((k,v)::vs) ((kTD k,d)::ds)
inductive DFf (K:qc) (H:Hp):List (Str×V)->List (D×D)->Prop
 | nil:DFf K H [] []
 | cons {k:Str} {v:V} {d:D} {vs:List (Str×V)} {ds:List (D×D)} (h:DF K H v d) (t:DFf K H vs ds):DFf K H ((k,v)::vs) ((.str k,d)::ds)
end
theorem XV.kp{H H':Hp}{a C:Addr}{fs:List (Str×V)}(e:Kp H H')(h:XV H a C fs):XV H' a C fs:=by
 obtain⟨ox,h1,h2,h3,h4⟩:=h
 refine⟨ox,e.frz _ _ _ h1,h2,h3,?_⟩
 rcases h4 with h4 | ⟨od,dx,h5,h6⟩
 ·exact .inl h4
 ·exact .inr ⟨od,dx,h5,e.frz _ _ _ h6⟩
theorem PL.kp{K:qc}{H H':Hp}{a:Addr}{xs:List V}(e:Kp H H')(h:PL K H a xs):PL K H' a xs:=by
 rcases h with ⟨o,h⟩ | h
 ·exact .inl ⟨o,e.frz _ _ _ h⟩
 ·exact .inr h
theorem PL.sq{K:qc}{H:Hp}{a:Addr}{xs:List V}(h:PL K H a xs):SqL K H a xs:=by
 rcases h with ⟨o,h⟩ | h
 ·exact .inl (.inr ⟨o,h⟩)
 ·exact .inr h
mutual
theorem DF.kp{K:qc}{H H':Hp}(e:Kp H H'):∀ {v:V} {d:D},DF K H v d->DF K H' v d
 | _,_,.non=>.non
 | _,_,.bl b=>.bl b
 | _,_,.int i=>.int i
 | _,_,.str x=>.str x
 | _,_,.tup h t=>.tup (h.keeps e.tup) (DFs.kp e t)
 | _,_,.lst h t=>.lst (h.kp e) (DFs.kp e t)
 | _,_,.dct h t=>.dct (e.frz _ _ _ h) (DFt.kp e t)
 | _,_,.exc h n t=>.exc (h.kp e) n (DFf.kp e t)
 | _,_,.obj h n t=>.obj (e.frz _ _ _ h) n (DFf.kp e t)
theorem DFs.kp{K:qc}{H H':Hp}(e:Kp H H'):∀ {v:List V} {d:List D},DFs K H v d->DFs K H' v d
 | _,_,.nil=>.nil
 | _,_,.cons h t=>.cons (DF.kp e h) (DFs.kp e t)
theorem DFt.kp{K:qc}{H H':Hp}(e:Kp H H'):∀ {v:List (List Key×V)} {d:List (D×D)},DFt K H v d->DFt K H' v d
 | _,_,.nil=>.nil
 | _,_,.cons h t=>.cons (DF.kp e h) (DFt.kp e t)
theorem DFf.kp{K:qc}{H H':Hp}(e:Kp H H'):∀ {v:List (Str×V)} {d:List (D×D)},DFf K H v d->DFf K H' v d
 | _,_,.nil=>.nil
 | _,_,.cons h t=>.cons (DF.kp e h) (DFf.kp e t)
end
section
variable {K:qc} {H:Hp}
theorem DFs.snoc{v:V}{d:D}(h:DF K H v d):∀ {vs:List V} {ds:List D},DFs K H vs ds->DFs K H (vs++[v]) (ds++[d])
 | _,_,.nil=>.cons h .nil
 | _,_,.cons a t=>.cons a (DFs.snoc h t)
theorem DFs.app:∀ {vs ws:List V} {ds es:List D},DFs K H vs ds->DFs K H ws es->DFs K H (vs++ws) (ds++es)
 | _,_,_,_,.nil,q=>q
 | _,_,_,_,.cons a t,q=>.cons a (DFs.app t q)
theorem DFs.len:∀ {vs:List V} {ds:List D},DFs K H vs ds->vs.length=ds.length
 | _,_,.nil=>rfl
 | _,_,.cons _ t=>congrArg (·+1) (DFs.len t)
theorem DFs.get:∀ {vs:List V} {ds:List D} {i:Nat} {d:D},DFs K H vs ds->ds[i]?=some d->∃ v,vs[i]?=some v/\DF K H v d
 | _,_,0,_,.cons h _,e=>by
  cases(show some _=some _ from e)
  exact⟨_,rfl,h⟩
 | _,_,i+1,_,.cons _ t,e=>DFs.get (i:=i) t e
 | _,_,0,_,.nil,e=>by cases e
 | _,_,_+1,_,.nil,e=>by cases e
theorem DFs.get':∀ {vs:List V} {ds:List D} {i:Nat} {v:V},DFs K H vs ds->vs[i]?=some v->∃ d,ds[i]?=some d/\DF K H v d
 | _,_,0,_,.cons h _,e=>by
  cases(show some _=some _ from e)
  exact⟨_,rfl,h⟩
 | _,_,i+1,_,.cons _ t,e=>DFs.get' (i:=i) t e
 | _,_,0,_,.nil,e=>by cases e
 | _,_,_+1,_,.nil,e=>by cases e
theorem DFs.take:∀ {vs:List V} {ds:List D} (n:Nat),DFs K H vs ds->DFs K H (vs.take n) (ds.take n)
 | _,_,0,_=>by simpa using DFs.nil
 | _,_,n+1,.nil=>by simpa using DFs.nil
 | _,_,n+1,.cons h t=>.cons h (DFs.take n t)
theorem DFs.drop:∀ {vs:List V} {ds:List D} (n:Nat),DFs K H vs ds->DFs K H (vs.drop n) (ds.drop n)
 | _,_,0,q=>q
 | _,_,n+1,.nil=>by simpa using DFs.nil
 | _,_,n+1,.cons h t=>DFs.drop n t
theorem DFs.set{v:V}{d:D}(h:DF K H v d):∀ {vs:List V} {ds:List D} (n:Nat),DFs K H vs ds->DFs K H (vs.set n v) (ds.set n d)
 | _,_,_,.nil=>.nil
 | _,_,0,.cons _ t=>.cons h t
 | _,_,n+1,.cons a t=>.cons a (DFs.set h n t)
end
inductive U where
 | d (x:D)
 | l (xs:List D) | t (kvs:List (List Key×D)) | k (kvs:List (Key×D))
def U.own:U->Bool
 | .d _=>false
 | _=>true
def KVd{κ:Type}(K:qc)(H:Hp):List (κ×V)->List (κ×D)->Prop:=Paired fun p q=>p.1=q.1/\DF K H p.2 q.2
def Rp(K:qc)(H:Hp)(v:V):U->Prop
 | .d x=>DF K H v x
 | .l xs=>∃ a us,v=.ref a/\H a=some (.lst us)/\DFs K H us xs
 | .t kvs=>∃ a ws,v=.ref a/\H a=some (.dT ws)/\KVd K H ws kvs
 | .k kvs=>∃ a ws,v=.ref a/\H a=some (.dK ws)/\KVd K H ws kvs
def Mo:HO->Prop
 | .lst _=>True
 | .dT _=>True
 | .dK _=>True
 | _=>False
theorem Rp.own{K:qc}{H:Hp}{v:V}{u:U}(h:Rp K H v u)(o:u.own=true):∃ a c,v=.ref a/\H a=some c/\Mo c:=by
 cases u with
 | d x=>cases o
 | l xs=>obtain⟨a,us,e,q,_⟩:=h; exact⟨a,_,e,q,trivial⟩
 | t xs=>obtain⟨a,us,e,q,_⟩:=h; exact⟨a,_,e,q,trivial⟩
 | k xs=>obtain⟨a,us,e,q,_⟩:=h; exact⟨a,_,e,q,trivial⟩
theorem KVd.kp{κ:Type}{K:qc}{H H':Hp}(e:Kp H H'){ws:List (κ×V)}{kvs:List (κ×D)}(h:KVd K H ws kvs):KVd K H' ws kvs:=Paired.mapP h fun _ _ z=>⟨z.1,z.2.kp e⟩
theorem Rp.kp{K:qc}{H H':Hp}{v:V}{u:U}(h:Rp K H v u)(e:Kp H H')(o:u.own=true->∀ a c,v=.ref a->H a=some c->H' a=some c):Rp K H' v u:=by
 cases u with
 | d x=>exact DF.kp e h
 | l xs=>obtain⟨a,us,ev,q,t⟩:=h; exact⟨a,us,ev,o rfl a _ ev q,t.kp e⟩
 | t xs=>obtain⟨a,us,ev,q,t⟩:=h; exact⟨a,us,ev,o rfl a _ ev q,t.kp e⟩
 | k xs=>obtain⟨a,us,ev,q,t⟩:=h; exact⟨a,us,ev,o rfl a _ ev q,t.kp e⟩
abbrev En:=List (Option U)
def Ow(ρ:En)(σ:St)(a:Addr):Prop:=∃ (i:Nat) (u:U),ρ[i]?=some (some u)/\u.own=true/\σ[i]?=some (some (.ref a))
structure Rs (K:qc) (ρ:En) (σ:St) (H:Hp):Prop where
 len:ρ.length=σ.length
 rep:∀ (i:Nat) (u:U),ρ[i]?=some (some u)->∃ v,σ[i]?=some (some v)/\Rp K H v u
 apart:∀ (i j:Nat) (u w:U),ρ[i]?=some (some u)->ρ[j]?=some (some w)->u.own=true->w.own=true->σ[i]?=σ[j]?->i=j
def Fr'(A:Addr->Prop)(H H':Hp):Prop:=∀ a o,H a=some o->¬A a->H' a=some o
structure Shr (ρ ρ':En):Prop where
 len:ρ'.length=ρ.length
 own:∀ (i:Nat) (u:U),ρ'[i]?=some (some u)->u.own=true->∃ w,ρ[i]?=some (some w)/\w.own=true
 live:∀ (i:Nat) (u:U),ρ[i]?=some (some u)->∃ w,ρ'[i]?=some (some w)
def Nw(H:Hp)(v:V)(u:U):Prop:=u.own=true->∃ a,v=.ref a/\H a=none
structure Go (K:qc) (ρ:En) (σ:St) (H:Hp) (ρ':En) (H':Hp):Prop where
 rs:Rs K ρ' σ H'
 fr:Fr' (Ow ρ σ) H H'
 shr:Shr ρ ρ'
 dm:∀ a,H' a=none->H a=none
section
variable {K:qc} {ρ ρ' ρ'':En} {σ:St} {H H' H'':Hp} {a:Addr}
theorem Rs.ow(r:Rs K ρ σ H)(o:Ow ρ σ a):∃ c,H a=some c/\Mo c:=by
 obtain⟨i,u,e,ou,es⟩:=o
 obtain⟨v,ev,p⟩:=r.rep i u e
 rw [es]at ev
 cases ev
 obtain⟨b,c,eb,q,m⟩:=p.own ou
 cases eb
 exact⟨c,q,m⟩
theorem Fr'.kp(r:Rs K ρ σ H)(f:Fr' (Ow ρ σ) H H'):Kp H H':=by
 refine⟨fun b xs h=>f b _ h fun o=>?_,fun b ob u h=>f b _ h fun o=>?_⟩
 ·obtain⟨c,q,m⟩:=r.ow o
  rw [h]at q
  cases q
  exact m
 ·obtain⟨c,q,m⟩:=r.ow o
  rw [h]at q
  cases q
  exact m
theorem Shr.refl(ρ:En):Shr ρ ρ:=⟨rfl,fun i u e o=>⟨u,e,o⟩,fun i u e=>⟨u,e⟩⟩
theorem Shr.trans(a:Shr ρ ρ')(b:Shr ρ' ρ''):Shr ρ ρ'':=⟨b.1.trans a.1,fun i u e o=>let ⟨w,e',o'⟩:=b.2 i u e o; a.2 i w e' o',fun i u e=>let ⟨w,e'⟩:=a.3 i u e; b.3 i w e'⟩
theorem Shr.ow(s:Shr ρ ρ')(o:Ow ρ' σ a):Ow ρ σ a:=by
 obtain⟨i,u,e,ou,es⟩:=o
 obtain⟨w,e',o'⟩:=s.2 i u e ou
 exact⟨i,w,e',o',es⟩
theorem Go.refl(r:Rs K ρ σ H):Go K ρ σ H ρ H:=⟨r,fun _ _ h _=>h,Shr.refl _,fun _ h=>h⟩
theorem Go.trans(a:Go K ρ σ H ρ' H')(b:Go K ρ' σ H' ρ'' H''):Go K ρ σ H ρ'' H'' :=
 ⟨b.rs,fun c o h n=>b.fr c o (a.fr c o h n) fun z=>n (a.shr.ow z),a.shr.trans b.shr,fun c h=>a.dm c (b.dm c h)⟩
theorem Go.kp(r:Rs K ρ σ H)(g:Go K ρ σ H ρ' H'):Kp H H':=g.fr.kp r
theorem Go.stay{v:V}{u:U}(r:Rs K ρ σ H)(g:Go K ρ σ H ρ' H')(h:Rp K H v u)(n:u.own=true->∃ a,v=.ref a/\¬Ow ρ σ a):Rp K H' v u:=by
 refine h.kp (g.kp r) fun o a c ev q=>?_
 obtain⟨b,eb,nb⟩:=n o
 cases ev
 cases eb
 exact g.fr _ _ q nb
theorem Nw.out{v:V}{u:U}(r:Rs K ρ σ H)(n:Nw H v u):u.own=true->∃ a,v=.ref a/\¬Ow ρ σ a:=fun o=>by
 obtain⟨a,e,h⟩:=n o
 refine⟨a,e,fun z=>?_⟩
 obtain⟨c,q,_⟩:=r.ow z
 rw [h]at q
 cases q
theorem zbf.dm(s:zbf H H'):∀ a,H' a=none->H a=none:=fun a h=>by
 cases e:H a with
 | none=>rfl
 | some o=>rw [s a o e]at h; cases h
theorem Go.grow(r:Rs K ρ σ H)(s:zbf H H'):Go K ρ σ H ρ H' :=
 ⟨⟨r.len,fun i u e=>let ⟨v,ev,p⟩:=r.rep i u e; ⟨v,ev,p.kp s.kp fun _ a c _ q=>s a c q⟩,r.apart⟩,fun a o h _=>s a o h,Shr.refl _,s.dm⟩
end
inductive Ar where
 | s (i:Nat) | u (x:U)
def Ar.get(ρ:En):Ar->Option U
 | .s i=>(ρ[i]?).join
 | .u x=>some x
def zhO(K:qc)(ρ:En)(σ:St)(H H':Hp)(v:V):Ar->Prop
 | .s i=>σ[i]?=some (some v)/\∃ u,ρ[i]?=some (some u)
 | .u x=>Rp K H' v x/\Nw H v x
abbrev ME:=En->Option (Ar×En)
abbrev MA:=En->Option (List Ar×En)
abbrev MT:=En->Option (Bool×En)
def VE(K:qc)(t:TE)(m:ME):Prop :=
 ∀ (ρ:En) (σ:St) (H:Hp) (a:Ar) (ρ':En) (Q:VK),Rs K ρ σ H->m ρ=some (a,ρ')->(∀ v H',Go K ρ σ H ρ' H'->zhO K ρ' σ H H' v a->Q v H')->t σ H Q
def VT(K:qc)(t:TT)(m:MT):Prop :=
 ∀ (ρ:En) (σ:St) (H:Hp) (b:Bool) (ρ':En) (Q:Bool->Hp->Prop),Rs K ρ σ H->m ρ=some (b,ρ')->(∀ H',Go K ρ σ H ρ' H'->Q b H')->t σ H Q
structure ArS (K:qc) (ρ:En) (σ:St) (H H':Hp) (vs:List V) (as:List Ar):Prop where
 len:vs.length=as.length
 ar:∀ (i:Nat) (a:Ar),as[i]?=some a->∃ v,vs[i]?=some v/\zhO K ρ σ H H' v a
 ap:∀ (i j:Nat) (x y:U),as[i]?=some (.u x)->as[j]?=some (.u y)->x.own=true->y.own=true->vs[i]?=vs[j]?->i=j
def VAs(K:qc)(t:TA)(m:MA):Prop :=
 ∀ (ρ:En) (σ:St) (H:Hp) (as:List Ar) (ρ':En) (Q:List V->Hp->Prop),Rs K ρ σ H->m ρ=some (as,ρ')->(∀ vs H',Go K ρ σ H ρ' H'->ArS K ρ' σ H H' vs as->Q vs H')->t σ H Q
section
variable {K:qc} {ρ ρ' ρ'':En} {σ:St} {H H' H'':Hp} {v:V} {a:Ar} {u:U}
theorem Nw.mono(n:Nw H' v u)(h:∀ a,H' a=none->H a=none):Nw H v u:=fun o=>let ⟨a,e,q⟩:=n o; ⟨a,e,h a q⟩
theorem Nw.out'(r:Rs K ρ σ H)(g:Go K ρ σ H ρ' H')(n:Nw H v u):u.own=true->∃ a,v=.ref a/\¬Ow ρ' σ a:=fun o=>by
 obtain⟨b,e,q⟩:=n.out r o
 exact⟨b,e,fun z=>q (g.shr.ow z)⟩
theorem zhO.later(r:Rs K ρ σ H)(g1:Go K ρ σ H ρ' H')(g2:Go K ρ' σ H' ρ'' H'')(h:zhO K ρ' σ H H' v a)(e:a.get ρ''=some u):Rp K H'' v u:=by
 cases a with
 | s i =>
  obtain⟨es,_⟩:=h
  have e':ρ''[i]?=some (some u):=by
   cases q:ρ''[i]? with
   | none=>rw [show Ar.get ρ'' (.s i)=(ρ''[i]?).join from rfl,q]at e; cases e
   | some o =>
    rw [show Ar.get ρ'' (.s i)=(ρ''[i]?).join from rfl,q]at e
    cases o with
    | none=>cases e
    | some x=>cases e; rfl
  obtain⟨w,ew,p⟩:=g2.rs.rep i u e'
  rw [es]at ew
  cases ew
  exact p
 | u x =>
  cases(show some x=some u from e)
  exact g2.stay g1.rs h.1 (h.2.out' r g1)
theorem zhO.now(r:Rs K ρ σ H)(g1:Go K ρ σ H ρ' H')(h:zhO K ρ' σ H H' v a)(e:a.get ρ'=some u):Rp K H' v u:=h.later r g1 (Go.refl g1.rs) e
theorem Nw.data{x:D}:Nw H v (.d x):=fun o=>by cases o
def zi(i:Nat):ME:=fun ρ=>match ρ[i]? with
 | some (some _)=>some (.s i,ρ)
 | _=>none
theorem ze(i:Nat):VE K (zfg i) (zi i):=by
 intro ρ σ H a ρ' Q r e q
 unfold zi at e
 split at e
 ·rename_i u eu
  cases e
  obtain⟨v,ev,p⟩:=r.rep i u eu
  exact⟨v,ev,q v H (Go.refl r) ⟨ev,u,eu⟩⟩
 ·cases e
def mC(x:D):ME:=fun ρ=>some (.u (.d x),ρ)
theorem v_c{c:V}{x:D}(h:∀ H,DF K H c x):VE K (tC c) (mC x):=by
 intro ρ σ H a ρ' Q r e q
 cases e
 exact q _ _ (Go.refl r) ⟨h H,Nw.data⟩
theorem zo{n:Int}:VE K (tC (.int n)) (mC (.int n)):=v_c fun _=>.int n
theorem zcm{n:Str}:VE K (tC (.str n)) (mC (.str n)):=v_c fun _=>.str n
theorem zvS{n:Bool}:VE K (tC (.bl n)) (mC (.bool n)):=v_c fun _=>.bl n
theorem zpq:VE K (tC .non) (mC .none):=v_c fun _=>.non
def VO(K:qc)(r:R2)(f:U->U->Option U):Prop :=
 ∀ (x y:V) (a b u:U) (H:Hp) (Q:VK),Rp K H x a->Rp K H y b->f a b=some u->(∀ v H',zbf H H'->Rp K H' v u->Nw H v u->Q v H')->r x y H Q
def mOp(f:U->U->Option U)(ma mb:ME):ME:=fun ρ=>(ma ρ).bind fun p=>(mb p.2).bind fun q=>(p.1.get q.2).bind fun x=>(q.1.get q.2).bind fun y=>(f x y).bind fun u=>some (.u u,q.2)
theorem zb{α β:Type}{o:Option α}{f:α->Option β}{b:β}(h:o.bind f=some b):∃ a,o=some a/\f a=some b:=Option.bind_eq_some_iff.mp h
theorem zt{r:R2}{f:U->U->Option U}{ta tb:TE}{ma mb:ME}(h:VO K r f)(ha:VE K ta ma)(hb:VE K tb mb):VE K (tOp r ta tb) (mOp f ma mb):=by
 intro ρ σ H a ρ' Q rs e q
 obtain⟨⟨a1,ρ1⟩,e1,e⟩:=zb e
 obtain⟨⟨b1,ρ2⟩,e2,e⟩:=zb e
 obtain⟨x,ex,e⟩:=zb e
 obtain⟨y,ey,e⟩:=zb e
 obtain⟨u,eu,e⟩:=zb e
 cases e
 refine ha ρ σ H a1 ρ1 _ rs e1 fun v1 H1 g1 k1=>hb ρ1 σ H1 b1 ρ2 _ g1.rs e2 fun v2 H2 g2 k2=>?_
 refine h _ _ x y u H2 _ (k1.later rs g1 g2 ex) (k2.now g1.rs g2 ey) eu fun v H3 s p n=>?_
 exact q v H3 ((g1.trans g2).trans (Go.grow g2.rs s)) ⟨p,n.mono (g1.trans g2).dm⟩
def VU(K:qc)(r:V->Hp->VK->Prop)(f:U->Option U):Prop :=
 ∀ (x:V) (a u:U) (H:Hp) (Q:VK),Rp K H x a->f a=some u->(∀ v H',zbf H H'->Rp K H' v u->Nw H v u->Q v H')->r x H Q
def mUn(f:U->Option U)(ma:ME):ME:=fun ρ=>(ma ρ).bind fun p=>(p.1.get p.2).bind fun x=>(f x).bind fun u=>some (.u u,p.2)
theorem zdh{r:V->Hp->VK->Prop}{f:U->Option U}{ta:TE}{ma:ME}(h:VU K r f)(ha:VE K ta ma):VE K (tUn r ta) (mUn f ma):=by
 intro ρ σ H a ρ' Q rs e q
 obtain⟨⟨a1,ρ1⟩,e1,e⟩:=zb e
 obtain⟨x,ex,e⟩:=zb e
 obtain⟨u,eu,e⟩:=zb e
 cases e
 refine ha ρ σ H a1 ρ1 _ rs e1 fun v1 H1 g1 k1=>?_
 refine h _ x u H1 _ (k1.now rs g1 ex) eu fun v H3 s p n=>?_
 exact q v H3 (g1.trans (Go.grow g1.rs s)) ⟨p,n.mono g1.dm⟩
def zr:MA:=fun ρ=>some ([],ρ)
def zf(me:ME)(ma:MA):MA:=fun ρ=>(me ρ).bind fun p=>(ma p.2).bind fun q=>some (p.1::q.1,q.2)
theorem zk:VAs K zk5 zr:=by
 intro ρ σ H as ρ' Q r e q
 cases e
 exact q [] H (Go.refl r) ⟨rfl,fun i a e=>by simp at e,fun i j x y e=>by simp at e⟩
theorem zd{te:TE}{t:TA}{me:ME}{ma:MA}(he:VE K te me)(ha:VAs K t ma):VAs K (zfi te t) (zf me ma):=by
 intro ρ σ H as ρ' Q r e q
 obtain⟨⟨a1,ρ1⟩,e1,e⟩:=zb e
 obtain⟨⟨as2,ρ2⟩,e2,e⟩:=zb e
 cases e
 refine he ρ σ H a1 ρ1 _ r e1 fun v1 H1 g1 k1=>ha ρ1 σ H1 as2 _ _ g1.rs e2 fun vs H2 g2 s2=>?_
 have own1:∀ x,a1=.u x->x.own=true->∃ b c,v1=.ref b/\H1 b=some c:=fun x ea o=>by
  subst ea
  obtain⟨b,c,eb,hb,_⟩:=k1.1.own o
  exact⟨b,c,eb,hb⟩
 have oth:∀ (j:Nat) (y:U),as2[j]?=some (.u y)->y.own=true->∃ b,vs[j]?=some (.ref b)/\H1 b=none:=fun j y ej o=>by
  obtain⟨v,ev,k⟩:=s2.ar j _ ej
  obtain⟨b,eb,hb⟩:=k.2 o
  subst eb
  exact⟨b,ev,hb⟩
 have ne:∀ (x:U) (j:Nat) (y:U),a1=.u x->x.own=true->as2[j]?=some (.u y)->y.own=true->some v1≠vs[j]?:=fun x j y ea ox ej oy z=>by
  obtain⟨b,c,e1,h1⟩:=own1 x ea ox
  obtain⟨b',e2,h2⟩:=oth j y ej oy
  rw [e2,e1]at z
  cases z
  rw [h1]at h2
  cases h2
 refine q (v1::vs) H2 (g1.trans g2) ⟨by simp [s2.len],fun i a ei=>?_,fun i j x y ei ej ox oy ev=>?_⟩
 ·cases i with
  | zero =>
   cases(show some a1=some a from ei)
   refine⟨v1,rfl,?_⟩
   cases a1 with
   | s k =>
    obtain⟨es,w,ew⟩:=k1
    exact⟨es,g2.shr.live k w ew⟩
   | u x=>exact⟨g2.stay g1.rs k1.1 (k1.2.out' r g1),k1.2⟩
  | succ i =>
   obtain⟨v,ev,k⟩:=s2.ar i a ei
   refine⟨v,ev,?_⟩
   cases a with
   | s k'=>exact k
   | u x=>exact⟨k.1,k.2.mono g1.dm⟩
 ·cases i with
  | zero =>
   cases j with
   | zero=>rfl
   | succ j=>exact absurd ev (ne x j y (qw ei) ox ej oy)
  | succ i =>
   cases j with
   | zero=>exact absurd ev.symm (ne y i x (qw ej) oy ei ox)
   | succ j=>exact congrArg (·+1) (s2.ap i j x y ei ej ox oy ev)
end
end L2
namespace L2
open PySem PySem.Spec PyProof.Rows
open Classical in
noncomputable def fIC(c:Int->Int->Prop)(g:Int->Int->D):U->U->Option U
 | .d (.int i),.d (.int j)=>if c i j then some (.d (g i j))else none
 | _,_=>none
def fI(g:Int->Int->D):U->U->Option U
 | .d (.int i),.d (.int j)=>some (.d (g i j))
 | _,_=>none
section
variable {K:qc}
theorem DF.int_inv{H:Hp}{v:V}{i:Int}(h:DF K H v (.int i)):v=.int i:=by cases h; rfl
theorem DF.str_inv{H:Hp}{v:V}{x:Str}(h:DF K H v (.str x)):v=.str x:=by cases h; rfl
theorem DF.bl_inv{H:Hp}{v:V}{b:Bool}(h:DF K H v (.bool b)):v=.bl b:=by cases h; rfl
theorem DF.tup_inv{H:Hp}{v:V}{ds:List D}(h:DF K H v (.tuple ds)):∃ a xs,v=.ref a/\TpK K H a xs/\DFs K H xs ds:=by cases h with | tup h t=>exact⟨_,_,rfl,h,t⟩
theorem DF.lst_inv{H:Hp}{v:V}{ds:List D}(h:DF K H v (.list ds)):∃ a xs,v=.ref a/\PL K H a xs/\DFs K H xs ds:=by cases h with | lst h t=>exact⟨_,_,rfl,h,t⟩
theorem DF.dct_inv{H:Hp}{v:V}{ds:List (D×D)}(h:DF K H v (.dict ds))(nx:noX ds=true):∃ a o ws,v=.ref a/\H a=some (.frz o (.dT ws))/\DFt K H ws ds:=by
 cases h with
 | dct h t=>exact⟨_,_,_,rfl,h,t⟩
 | exc h n t=>cases nx
 | obj h n t=>cases nx
theorem zin{c:Int->Int->Prop}{g:Int->Int->V}{gd:Int->Int->D}(h:∀ i j H,DF K H (g i j) (gd i j)):VO K (rI c g) (fIC c gd):=by
 intro x y a b u H Q ha hb e q
 unfold fIC at e
 split at e
 ·rename_i i j
  split at e
  ·rename_i hc
   cases e
   exact⟨i,j,DF.int_inv ha,DF.int_inv hb,hc,q _ _ (fun _ _ z=>z) (h i j H) Nw.data⟩
  ·cases e
 ·cases e
theorem zln{g:Int->Int->V}{gd:Int->Int->D}(h:∀ i j H,DF K H (g i j) (gd i j)):VO K (rI0 g) (fI gd):=by
 intro x y a b u H Q ha hb e q
 unfold fI at e
 split at e
 ·rename_i i j
  cases e
  exact⟨i,j,DF.int_inv ha,DF.int_inv hb,q _ _ (fun _ _ z=>z) (h i j H) Nw.data⟩
 ·cases e
def zcS:=fI fun i j=>.int (i+j)
def ziX:=fI fun i j=>.int (i - j)
noncomputable def zet:=fIC znG fun i j=>.int (i * j)
noncomputable def zeU:=fIC (fun _ j=>0 < j) fun i j=>.int (i % j)
noncomputable def zhd:=fIC zih fun i j=>.int (i / j)
noncomputable def zgm:=fIC zg6 fun i j=>.int (i.fdiv j)
noncomputable def zsF:=fIC zsd fun i j=>.int (i^j.toNat)
def fLt:=fI fun i j=>.bool (decide (i < j))
def fLe:=fI fun i j=>.bool (decide (i<=j))
def fGt:=fI fun i j=>.bool (decide (j < i))
def fGe:=fI fun i j=>.bool (decide (j<=i))
theorem zaY:VO K (rI0 fun i j=>.int (i+j)) zcS:=zln fun i j H=>.int _
theorem zeV:VO K (rI0 fun i j=>.int (i - j)) ziX:=zln fun i j H=>.int _
theorem zcE:VO K (rI znG fun i j=>.int (i * j)) zet:=zin fun i j H=>.int _
theorem zcF:VO K (rI (fun _ j=>0 < j) fun i j=>.int (i % j)) zeU:=zin fun i j H=>.int _
theorem zgE:VO K (rI zih fun i j=>.int (i / j)) zhd:=zin fun i j H=>.int _
theorem zel:VO K (rI zg6 fun i j=>.int (i.fdiv j)) zgm:=zin fun i j H=>.int _
theorem zvT:VO K (rI zsd fun i j=>.int (i^j.toNat)) zsF:=zin fun i j H=>.int _
theorem zjU:VO K (rI0 fun i j=>.bl (decide (i < j))) fLt:=zln fun i j H=>.bl _
theorem zxr:VO K (rI0 fun i j=>.bl (decide (i<=j))) fLe:=zln fun i j H=>.bl _
theorem zpr:VO K (rI0 fun i j=>.bl (decide (j < i))) fGt:=zln fun i j H=>.bl _
theorem zxs:VO K (rI0 fun i j=>.bl (decide (j<=i))) fGe:=zln fun i j H=>.bl _
def zjV:U->Option U
 | .d (.int i)=>some (.d (.int (-i)))
 | _=>none
theorem zhe:VU K (rU fun i=>.int (-i)) zjV:=by
 intro x a u H Q ha e q
 unfold zjV at e
 split at e
 ·rename_i i
  cases e
  exact⟨i,DF.int_inv ha,q _ _ (fun _ _ z=>z) (.int _) Nw.data⟩
 ·cases e
def U.py:U->Option D
 | .d x=>some x
 | .l xs=>some (.list xs)
 | _=>none
mutual
theorem DF.dv{H:Hp}:∀ {v:V} {d:D},DF K H v d->d.hasDict=false->DV K H v d
 | _,_,.non,_=>.non
 | _,_,.bl b,_=>.bl b
 | _,_,.int i,_=>.int i
 | _,_,.str x,_=>.str x
 | _,_,.tup h t,q=>.tup ((TpK.sq h)) (DFs.dv t (by simpa [PyData.hasDict] using q))
 | _,_,.lst h t,q=>.lst h.sq (DFs.dv t (by simpa [PyData.hasDict] using q))
 | _,_,.dct h t,q=>by simp [PyData.hasDict]at q
 | _,_,.exc h n t,q=>by simp [PyData.hasDict]at q
 | _,_,.obj h n t,q=>by simp [PyData.hasDict]at q
theorem DFs.dv{H:Hp}:∀ {v:List V} {d:List D},DFs K H v d->PyData.hasDictAll d=false->DVs K H v d
 | _,_,.nil,_=>.nil
 | _,_,.cons h t,q=>by
  simp only [PyData.hasDictAll,Bool.or_eq_false_iff]at q
  exact .cons (DF.dv h q.1) (DFs.dv t q.2)
end
theorem Rp.dv{H:Hp}{v:V}{u:U}{x:D}(h:Rp K H v u)(e:u.py=some x)(q:x.hasDict=false):DV K H v x:=by
 cases u with
 | d y=>cases e; exact DF.dv h q
 | l xs =>
  cases e
  obtain⟨a,us,rfl,h1,h2⟩:=h
  exact .lst (SqL.of h1) (DFs.dv h2 (by simpa [PyData.hasDict] using q))
 | t=>cases e
 | k=>cases e
mutual
theorem zdL:∀ (x:D),x.canLay0=true->x.hasDict=false
 | .none,_=>rfl
 | .bool _,_=>rfl
 | .int _,_=>rfl
 | .str _,_=>rfl
 | .list xs,h=>by simp only [PyData.hasDict]; exact hasDictAll_of xs (by simpa [PyData.canLay0] using h)
 | .tuple xs,h=>by simp only [PyData.hasDict]; exact hasDictAll_of xs (by simpa [PyData.canLay0] using h)
 | .dict _,h=>by simp [PyData.canLay0]at h
theorem hasDictAll_of:∀ (xs:List D),PyData.canLayAll0 xs=true->PyData.hasDictAll xs=false
 | [],_=>rfl
 | x::xs,h=>by
  simp only [PyData.canLayAll0,Bool.and_eq_true]at h
  simp only [PyData.hasDictAll,zdL x h.1,hasDictAll_of xs h.2]
  rfl
end
def zvU(K:qc)(neg:Bool):R2:=fun x y H Q=>∃ a b,DV K H x a/\DV K H y b/\SeqAt.shaped a=true/\SeqAt.shaped b=true/\Q (.bl (if neg=true then !PyData.eqv a b else PyData.eqv a b)) H
theorem zps{X:Cx}(K:qc)(hK:X.K=K){k:Nat}(hr:Room k X.A):OpR X (compareOp .NotEq) (zvU K true):=by
 subst hK
 intro pins s σ H x y v u Q I rx ry h
 obtain⟨a,b,da,db,sa,sb,q⟩:=h
 obtain⟨as,ra⟩:=DV.reads I da rx
 obtain⟨bs,rb⟩:=DV.reads I db ry
 exact SeqAt.compareNe_shaped ra rb sa sb hr.units ⟨.bl _,H,I,rfl,q⟩
def zn0(neg:Bool)(a b:U):Option U:=a.py.bind fun x=>b.py.bind fun y=>if SeqAt.shaped x=true/\SeqAt.shaped y=true then some (.d (.bool (if neg=true then !PyData.eqv x y else PyData.eqv x y)))else none
theorem zvV(neg:Bool):VO K (zvU K neg) (zn0 neg):=by
 intro x y a b u H Q ha hb e q
 obtain⟨dx,ex,e⟩:=zb e
 obtain⟨dy,ey,e⟩:=zb e
 split at e
 ·rename_i hs
  cases e
  exact⟨dx,dy,ha.dv ex (zdL _ (SeqAt.canLay_of_shaped hs.1)),hb.dv ey (zdL _ (SeqAt.canLay_of_shaped hs.2)),hs.1,hs.2,q _ _ (fun _ _ z=>z) (.bl _) Nw.data⟩
 ·cases e
theorem DFs.atI{H:Hp}{xs:List V}{ds:List D}{i:Int}{d:D}(h:DFs K H xs ds)(e:L2.atI ds i=some d):∃ v,L2.atI xs i=some v/\DF K H v d:=by
 unfold L2.atI at e ⊢
 obtain⟨j,ej,e⟩:=zb e
 obtain⟨v,ev,k⟩:=h.get e
 refine⟨v,?_,k⟩
 rw [h.len,ej]
 exact ev
def zfq:U->U->Option U
 | .l ds,.d (.int i)=>(atI ds i).map .d
 | .d (.list ds),.d (.int i)=>(atI ds i).map .d
 | _,_=>none
def zca:U->U->Option U
 | .d (.tuple ds),.d (.int i)=>(atI ds i).map .d
 | _,_=>none
theorem zdi:VO K (zvx K) zfq:=by
 intro x y a b u H Q ha hb e q
 unfold zfq at e
 split at e
 ·rename_i ds i
  obtain⟨d,ed,rfl⟩:=qq.mp e
  obtain⟨p,us,rfl,h1,h2⟩:=ha
  obtain⟨v,ev,k⟩:=h2.atI ed
  exact⟨p,us,i,v,rfl,DF.int_inv hb,SqL.of h1,ev,q _ _ (fun _ _ z=>z) k Nw.data⟩
 ·rename_i ds i
  obtain⟨d,ed,rfl⟩:=qq.mp e
  obtain⟨p,us,rfl,h1,h2⟩:=DF.lst_inv ha
  obtain⟨v,ev,k⟩:=h2.atI ed
  exact⟨p,us,i,v,rfl,DF.int_inv hb,h1.sq,ev,q _ _ (fun _ _ z=>z) k Nw.data⟩
 ·cases e
theorem zaI:VO K (zvy K) zca:=by
 intro x y a b u H Q ha hb e q
 unfold zca at e
 split at e
 ·rename_i ds i
  obtain⟨d,ed,rfl⟩:=qq.mp e
  obtain⟨p,us,rfl,h1,h2⟩:=DF.tup_inv ha
  obtain⟨v,ev,k⟩:=h2.atI ed
  exact⟨p,us,i,v,rfl,DF.int_inv hb,(TpK.sq h1),ev,q _ _ (fun _ _ z=>z) k Nw.data⟩
 ·cases e
def zpt:U->U->Option U
 | .l xs,.l ys=>if xs.length+ys.length<=sizeLine then some (.l (xs++ys))else none
 | _,_=>none
theorem zvW:VO K zxe zpt:=by
 intro x y a b u H Q ha hb e q
 unfold zpt at e
 split at e
 ·split at e
  ·rename_i xs ys hz
   cases e
   obtain⟨p,us,rfl,h1,h2⟩:=ha
   obtain⟨p',us',rfl,h1',h2'⟩:=hb
   refine⟨p,p',us,us',rfl,rfl,h1,h1',by rw [h2.len,h2'.len]; exact hz,fun r hr=>?_⟩
   have s:=zP hr (.lst (us++us'))
   exact q _ _ s ⟨r,_,rfl,zx,(h2.app h2').kp s.kp⟩ fun _=>⟨r,rfl,hr⟩
  ·cases e
 ·cases e
end
end L2
namespace L2
open PySem PySem.Spec PyProof.Rows
section
variable {K:qc} {ρ ρ':En} {σ:St} {H H':Hp}
theorem zcG{a:Addr}{c:HO}(h:H a=some c)(m:Mo c)(o:HO):Kp H (upd H a o):=by
 refine⟨fun b xs e=>?_,fun b ob u e=>?_⟩
 ·rw [zA (zfe e h (by rintro rfl; exact m))]; exact e
 ·rw [zA (zfe e h (by rintro rfl; exact m))]; exact e
theorem Go.own{i:Nat}{u u':U}{a:Addr}{o:HO}(r:Rs K ρ σ H)(e:ρ[i]?=some (some u))(ou:u.own=true)(es:σ[i]?=some (some (.ref a)))(p:Rp K (upd H a o) (.ref a) u'):Go K ρ σ H (ρ.set i (some u')) (upd H a o):=by
 have hi:i < ρ.length:=(qk.mp e).1
 obtain⟨c,hc,mc⟩:=r.ow ⟨i,u,e,ou,es⟩
 have kp:=zcG hc mc o
 refine⟨⟨by rw [List.length_set]; exact r.len,fun j w ej=>?_,fun j k w w' ej ek oj ok es'=>?_⟩,fun b ob hb n=>?_,⟨List.length_set,fun j w ej oj=>?_,fun j w ej=>?_⟩,fun b hb=>?_⟩
 ·by_cases hj:i=j
  ·subst hj
   rw [List.getElem?_set_self hi]at ej
   cases ej
   exact⟨_,es,p⟩
  ·rw [qB hj]at ej
   obtain⟨v,ev,q⟩:=r.rep j w ej
   refine⟨v,ev,q.kp kp fun ow b c' eb hb=>?_⟩
   have ne:b≠a:=by
    rintro rfl
    exact hj (r.apart i j u w e ej ou ow (by rw [es,ev,eb]))
   rw [zA ne]
   exact hb
 ·have own:∀ (j:Nat) (w:U),(ρ.set i (some u'))[j]?=some (some w)->w.own=true->∃ w',ρ[j]?=some (some w')/\w'.own=true:=fun j w ej oj=>by
   by_cases hj:i=j
   ·subst hj; exact⟨u,e,ou⟩
   ·rw [qB hj]at ej; exact⟨w,ej,oj⟩
  obtain⟨x,ex,ox⟩:=own j w ej oj
  obtain⟨y,ey,oy⟩:=own k w' ek ok
  exact r.apart j k x y ex ey ox oy es'
 ·have ne:b≠a:=by
   rintro rfl
   exact n ⟨i,u,e,ou,es⟩
  rw [zA ne]
  exact hb
 ·by_cases hj:i=j
  ·subst hj; exact⟨u,e,ou⟩
  ·rw [qB hj]at ej; exact⟨w,ej,oj⟩
 ·by_cases hj:i=j
  ·subst hj; exact⟨u',List.getElem?_set_self hi⟩
  ·exact⟨w,by rw [qB hj]; exact ej⟩
 ·by_cases hb':b=a
  ·subst hb'; rw [zx]at hb; cases hb
  ·rw [zA hb']at hb; exact hb
theorem Rp.own_ref{v:V}{u:U}(h:Rp K H v u)(o:u.own=true):∃ a,v=.ref a:=let ⟨a,_,e,_⟩:=h.own o; ⟨a,e⟩
def Fz(K:qc)(H:Hp)(v:V)(H':Hp):Prop :=
 (∃ a xs o,v=.ref a/\K.lookup a=none/\H a=some (.lst xs)/\H'=upd H a (.frz o (.lst xs)))\/(∃ a xs o,v=.ref a/\K.lookup a=none/\H a=some (.dT xs)/\H'=upd H a (.frz o (.dT xs))) \/
  ((∀ a,v=.ref a->(∀ xs,H a≠some (.lst xs))/\∀ xs,H a≠some (.dT xs))/\H'=H)
def tFz(K:qc)(t:TE):TE:=fun σ H Q=>t σ H fun v H1=>∀ H2,Fz K H1 v H2->Q v H2
theorem Inv.freezeL{X:Cx}{pins:List (Addr×Obj)}{s:Shared}{a:Addr}{xs:List V}(I:Inv X pins σ H s)(e:H a=some (.lst xs)):∃ o,s.heap.get? a=some o/\Inv X pins σ (upd H a (.frz o (.lst xs))) s:=by
 have ok:=(show zaj X.prog X.w X.K H s.heap a (.lst xs) from I.hok a _ e)
 obtain⟨z,its,n,r,h1⟩:=id ok
 refine⟨_,h1,?_⟩
 have ok2:zaj X.prog X.w X.K (upd H a (.frz { cls:=.type "list",data:=.seq its.toArray n } (.lst xs))) s.heap a (.lst xs):=⟨z,its,n,r,h1⟩
 exact I.write (t':=s.toks) (h':=s.heap) (by rw [e]; trivial) (.inl rfl) (fun _ _ _ q=>q) ⟨_,h1⟩ ⟨h1,ok2⟩
theorem zxt{X:Cx}{e:Expr}{t:TE}(h:PE X e t):PE X e (tFz X.K t):=by
 intro pins s σ H Q I q
 refine thn (h pins s σ H _ I q) fun u s1 ⟨v,H1,I1,r,k⟩=>?_
 have nk:∀ a c,H1 a=some c->X.K.lookup a=none:=fun a c ea=>by
  cases q:X.K.lookup a with
  | none=>rfl
  | some o=>rw [(I1.bs a o (I1.ok.mod.kin a o q)).2]at ea; cases ea
 by_cases c1:∃ a xs,v=.ref a/\H1 a=some (.lst xs)
 ·obtain⟨a,xs,ev,ea⟩:=c1
  obtain⟨o,_,I2⟩:=I1.freezeL ea
  exact⟨v,_,I2,r,k _ (.inl ⟨a,xs,o,ev,nk a _ ea,ea,rfl⟩)⟩
 ·by_cases c2:∃ a xs,v=.ref a/\H1 a=some (.dT xs)
  ·obtain⟨a,xs,ev,ea⟩:=c2
   obtain⟨o,_,I2⟩:=I1.freeze ea
   exact⟨v,_,I2,r,k _ (.inr (.inl ⟨a,xs,o,ev,nk a _ ea,ea,rfl⟩))⟩
  ·exact⟨v,H1,I1,r,k _ (.inr (.inr ⟨fun a ev=>⟨fun xs z=>c1 ⟨a,xs,ev,z⟩,fun xs z=>c2 ⟨a,xs,ev,z⟩⟩,rfl⟩))⟩
theorem zcT{X:Cx}{e:Expr}{t:TE}(K:qc)(hK:X.K=K)(h:Wr (PE X e t)):Wr (PE X e (tFz K t)):=hK▸⟨zxt h.run⟩
def U.fz:U->Option D
 | .d x=>some x
 | .l xs=>some (.list xs)
 | .t kvs=>some (.dict (kvs.map fun p=>(kTD p.1,p.2)))
 | .k _=>none
def mFz(me:ME):ME:=fun ρ=>(me ρ).bind fun p=>(p.1.get p.2).bind fun u=>u.fz.bind fun x=>some (.u (.d x),match p.1 with | .s i=>p.2.set i (some (.d x)) | .u _=>p.2)
theorem zvX{ws:List (List Key×V)}{kvs:List (List Key×D)}(h:KVd K H ws kvs):DFt K H ws (kvs.map fun p=>(kTD p.1,p.2)):=by
 induction h with
 | nil=>exact .nil
 | @cons p q ps qs hq t ih =>
  obtain⟨k,v⟩:=p
  obtain⟨k',d⟩:=q
  obtain⟨e,hd⟩:=hq
  cases(show k=k' from e)
  exact .cons hd ih
theorem Fz.rp{v:V}{u:U}{x:D}(h:Fz K H v H')(p:Rp K H v u)(e:u.fz=some x):DF K H' v x/\(u.own=false->H'=H)/\(u.own=true->∃ a o,v=.ref a/\H'=upd H a o):=by
 cases u with
 | d y =>
  cases e
  have k:H'=H:=by
   rcases h with ⟨a,xs,o,rfl,nk,ea,_⟩ | ⟨a,xs,o,rfl,nk,ea,_⟩ | ⟨_,rfl⟩
   ·exfalso
    cases(show DF K H _ _ from p)with
    | tup h _ =>
     rcases h with h | ⟨ob,its,n,hk,_⟩
     ·rw [ea]at h; cases h
     ·rw [nk]at hk; cases hk
    | lst h _ =>
     rcases h with ⟨o,h⟩ | ⟨ob,its,n,hk,_⟩
     ·rw [ea]at h; cases h
     ·rw [nk]at hk; cases hk
    | dct h _=>rw [ea]at h; cases h
    | exc h _ _=>obtain⟨_,h,_⟩:=h; rw [ea]at h; cases h
    | obj h _ _=>rw [ea]at h; cases h
   ·exfalso
    cases(show DF K H _ _ from p)with
    | tup h _ =>
     rcases h with h | ⟨ob,its,n,hk,_⟩
     ·rw [ea]at h; cases h
     ·rw [nk]at hk; cases hk
    | lst h _ =>
     rcases h with ⟨o,h⟩ | ⟨ob,its,n,hk,_⟩
     ·rw [ea]at h; cases h
     ·rw [nk]at hk; cases hk
    | dct h _=>rw [ea]at h; cases h
    | exc h _ _=>obtain⟨_,h,_⟩:=h; rw [ea]at h; cases h
    | obj h _ _=>rw [ea]at h; cases h
   ·rfl
  subst k
  exact⟨p,fun _=>rfl,fun z=>by cases z⟩
 | l xs =>
  cases e
  obtain⟨a,us,rfl,ea,ds⟩:=p
  rcases h with ⟨a',xs',o,ev,_,ea',rfl⟩ | ⟨a',xs',o,ev,_,ea',_⟩ | ⟨z,_⟩
  ·cases ev
   rw [ea]at ea'
   cases ea'
   exact⟨.lst (.inl ⟨o,zx⟩) (ds.kp (zcG ea trivial _)),(fun z=>by cases z),fun _=>⟨a,_,rfl,rfl⟩⟩
  ·cases ev
   rw [ea]at ea'
   cases ea'
  ·exact absurd ea ((z a rfl).1 us)
 | t xs =>
  cases e
  obtain⟨a,us,rfl,ea,ds⟩:=p
  rcases h with ⟨a',xs',o,ev,_,ea',_⟩ | ⟨a',xs',o,ev,_,ea',rfl⟩ | ⟨z,_⟩
  ·cases ev
   rw [ea]at ea'
   cases ea'
  ·cases ev
   rw [ea]at ea'
   cases ea'
   exact⟨.dct zx (zvX (ds.kp (zcG ea trivial _))),(fun z=>by cases z),fun _=>⟨a,_,rfl,rfl⟩⟩
  ·exact absurd ea ((z a rfl).2 us)
 | k xs=>cases e
theorem zcU{t:TE}{m:ME}(h:VE K t m):VE K (tFz K t) (mFz m):=by
 intro ρ σ H a ρ' Q r e q
 obtain⟨⟨b,ρ1⟩,e1,e⟩:=zb e
 obtain⟨u,eu,e⟩:=zb e
 obtain⟨x,ex,e⟩:=zb e
 cases e
 refine h ρ σ H b ρ1 _ r e1 fun v H1 g1 k1=>fun H2 fz=>?_
 have p:=k1.now r g1 eu
 obtain⟨d,f1,f2⟩:=fz.rp p ex
 cases b with
 | s i =>
  have ei:ρ1[i]?=some (some u):=by
   have z:(ρ1[i]?).join=some u:=eu
   cases q:ρ1[i]? with
   | none=>rw [q]at z; cases z
   | some o=>rw [q]at z; cases o with
    | none=>cases z
    | some w=>cases z; rfl
  have hi:i < ρ1.length:=(qk.mp ei).1
  by_cases ou:u.own=true
  ·obtain⟨a,o,rfl,rfl⟩:=f2 ou
   exact q _ _ (g1.trans (Go.own (u':=.d x) g1.rs ei ou k1.1 d)) ⟨d,Nw.data⟩
  ·have ou':u.own=false:=by simpa using ou
   cases f1 ou'
   cases u with
   | d y =>
    cases ex
    have es:ρ1.set i (some (.d x))=ρ1:=by
     apply List.ext_getElem?
     intro j
     by_cases hj:i=j
     ·subst hj; rw [List.getElem?_set_self hi,ei]
     ·rw [qB hj]
    show Q v H1
    refine q v H1 ?_ ⟨d,Nw.data⟩
    show Go K ρ σ H (ρ1.set i (some (.d x))) H1
    rw [es]
    exact g1
   | l=>cases ou'
   | t=>cases ou'
   | k=>cases ou'
 | u w =>
  cases(show some w=some u from eu)
  by_cases ou:u.own=true
  ·obtain⟨a,o,rfl,rfl⟩:=f2 ou
   obtain⟨a',ea',na'⟩:=k1.2 ou
   cases ea'
   obtain⟨c,hc,mc⟩:∃ c,H1 a=some c/\Mo c:=by
    obtain⟨b,c,eb,hb,m⟩:=p.own ou
    cases eb
    exact⟨c,hb,m⟩
   have nw:¬Ow ρ1 σ a:=by
    obtain⟨b,eb,nb⟩:=k1.2.out' r g1 ou
    cases eb
    exact nb
   have kp:=zcG hc mc o
   refine q _ _ ⟨⟨g1.rs.len,fun j y ej=>?_,g1.rs.apart⟩,fun b ob hb n=>?_,g1.shr,fun b hb=>?_⟩ ⟨d,Nw.data⟩
   ·obtain⟨v,ev,p'⟩:=g1.rs.rep j y ej
    refine⟨v,ev,p'.kp kp fun oy b c' eb hb=>?_⟩
    have ne:b≠a:=by
     rintro rfl
     subst eb
     exact nw ⟨j,y,ej,oy,ev⟩
    rw [zA ne]
    exact hb
   ·have ne:b≠a:=by
     rintro rfl
     rw [na']at hb
     cases hb
    rw [zA ne]
    exact g1.fr b ob hb n
   ·by_cases hb':b=a
    ·subst hb'; exact na'
    ·rw [zA hb']at hb; exact g1.dm b hb
  ·have ou':u.own=false:=by simpa using ou
   cases f1 ou'
   exact q v H1 g1 ⟨d,Nw.data⟩
end
section
variable {K:qc} {ρ ρ':En} {σ:St} {H H':Hp}
def zbc(ρ:En):List Ar->Option (List U)
 | []=>some []
 | a::as=>(a.get ρ).bind fun u=>(zbc ρ as).bind fun us=>some (u::us)
def zcV:List U->Option (List D)
 | []=>some []
 | .d x::us=>(zcV us).bind fun xs=>some (x::xs)
 | _::_=>none
def RpL(K:qc)(H:Hp):List V->List U->Prop:=Paired fun v u=>Rp K H v u
theorem zvY{vs:List V}{as:List Ar}{us:List U}(len:vs.length=as.length)(h:∀ (i:Nat) (a:Ar),as[i]?=some a->∃ v,vs[i]?=some v/\∀ u,a.get ρ=some u->Rp K H v u)(e:zbc ρ as=some us):RpL K H vs us:=by
 induction as generalizing vs us with
 | nil =>
  cases e
  cases vs with
  | nil=>exact .nil
  | cons=>simp at len
 | cons a as ih =>
  obtain⟨u,eu,e⟩:=zb e
  obtain⟨us',eus,e⟩:=zb e
  cases e
  cases vs with
  | nil=>simp at len
  | cons v vs =>
   obtain⟨v',ev,k⟩:=h 0 a rfl
   cases(show some v=some v' from ev)
   exact .cons (k u eu) (ih (by simpa using len) (fun i b eb=>h (i+1) b eb) eus)
theorem ArS.rpl{vs:List V}{as:List Ar}{us:List U}(r:Rs K ρ σ H)(g:Go K ρ σ H ρ' H')(s:ArS K ρ' σ H H' vs as)(e:zbc ρ' as=some us):RpL K H' vs us :=
 zvY s.len (fun i a ea=>let ⟨v,ev,k⟩:=s.ar i a ea; ⟨v,ev,fun u eu=>k.now r g eu⟩) e
theorem zlo{vs:List V}{us:List U}{ds:List D}(h:RpL K H vs us)(e:zcV us=some ds):DFs K H vs ds:=by
 induction h generalizing ds with
 | nil=>cases e; exact .nil
 | @cons v u vs us hv t ih =>
  cases u with
  | d x =>
   obtain⟨xs,ex,e⟩:=zb (show(zcV us).bind (fun xs=>some (x::xs))=some ds from e)
   cases e
   exact .cons hv (ih ex)
  | l=>cases e
  | t=>cases e
  | k=>cases e
def zbg(ma:MA):ME:=fun ρ=>(ma ρ).bind fun p=>(zbc p.2 p.1).bind fun us=>(zcV us).bind fun ds=>if ds.length<=sizeLine then some (.u (.d (.tuple ds)),p.2)else none
def zf2(ma:MA):ME:=fun ρ=>(ma ρ).bind fun p=>(zbc p.2 p.1).bind fun us=>(zcV us).bind fun ds=>if ds.length<=sizeLine then some (.u (.l ds),p.2)else none
theorem zaz{t:TA}{m:MA}(h:VAs K t m):VE K (zvq t) (zbg m):=by
 intro ρ σ H a ρ' Q r e q
 obtain⟨⟨as,ρ1⟩,e1,e⟩:=zb e
 obtain⟨us,eu,e⟩:=zb e
 obtain⟨ds,ed,e⟩:=zb e
 split at e
 ·rename_i hz
  cases e
  refine h ρ σ H as _ _ r e1 fun vs H1 g1 s1=>?_
  have dd:=zlo (s1.rpl r g1 eu) ed
  refine⟨by rw [dd.len]; exact hz,fun p hp=>?_⟩
  have sm:=zP hp (.tup vs)
  exact q _ _ (g1.trans (Go.grow g1.rs sm)) ⟨.tup (.inl zx) (dd.kp sm.kp),Nw.data⟩
 ·cases e
theorem zeI{t:TA}{m:MA}(h:VAs K t m):VE K (zvr t) (zf2 m):=by
 intro ρ σ H a ρ' Q r e q
 obtain⟨⟨as,ρ1⟩,e1,e⟩:=zb e
 obtain⟨us,eu,e⟩:=zb e
 obtain⟨ds,ed,e⟩:=zb e
 split at e
 ·rename_i hz
  cases e
  refine h ρ σ H as _ _ r e1 fun vs H1 g1 s1=>?_
  have dd:=zlo (s1.rpl r g1 eu) ed
  refine⟨by rw [dd.len]; exact hz,fun p hp=>?_⟩
  have sm:=zP hp (.lst vs)
  exact q _ _ (g1.trans (Go.grow g1.rs sm)) ⟨⟨p,_,rfl,zx,dd.kp sm.kp⟩,fun _=>⟨p,rfl,g1.dm p hp⟩⟩
 ·cases e
def VC(K:qc)(r:List V->Hp->VK->Prop)(f:List U->Option U):Prop :=
 ∀ (vs:List V) (us:List U) (u:U) (H:Hp) (Q:VK),RpL K H vs us->f us=some u->(∀ v H',zbf H H'->Rp K H' v u->Nw H v u->Q v H')->r vs H Q
def mCB(f:List U->Option U)(ma:MA):ME:=fun ρ=>(ma ρ).bind fun p=>(zbc p.2 p.1).bind fun us=>(f us).bind fun u=>some (.u u,p.2)
theorem zbz{r:List V->Hp->VK->Prop}{f:List U->Option U}{t:TA}{m:MA}(hc:VC K r f)(h:VAs K t m):VE K (tCB r t) (mCB f m):=by
 intro ρ σ H a ρ' Q rs e q
 obtain⟨⟨as,ρ1⟩,e1,e⟩:=zb e
 obtain⟨us,eu,e⟩:=zb e
 obtain⟨u,ef,e⟩:=zb e
 cases e
 refine h ρ σ H as _ _ rs e1 fun vs H1 g1 s1=>hc vs us u H1 _ (s1.rpl rs g1 eu) ef fun v H2 s p n=>?_
 exact q v H2 (g1.trans (Go.grow g1.rs s)) ⟨p,n.mono g1.dm⟩
def f1(f:U->Option U):List U->Option U
 | [u]=>f u
 | _=>none
theorem zlp{r:List V->Hp->VK->Prop}{f:U->Option U}(h:∀ (v:V) (a u:U) (H:Hp) (Q:VK),Rp K H v a->f a=some u->(∀ v H',zbf H H'->Rp K H' v u->Nw H v u->Q v H')->r [v] H Q):VC K r (f1 f):=by
 intro vs us u H Q hr e q
 cases hr with
 | nil=>cases e
 | cons h1 t =>
  cases t with
  | nil=>exact h _ _ _ _ _ h1 e q
  | cons=>cases e
def U.items:U->Option (List D)
 | .d (.tuple xs)=>some xs
 | .d (.list xs)=>some xs
 | .l xs=>some xs
 | _=>none
theorem Rp.items{v:V}{u:U}{xs:List D}(h:Rp K H v u)(e:u.items=some xs):∃ p ys,v=.ref p/\(SqL K H p ys\/SqT K H p ys)/\DFs K H ys xs:=by
 cases u with
 | d x =>
  cases x with
  | tuple ds=>cases e; obtain⟨a,ys,rfl,h1,h2⟩:=DF.tup_inv h; exact⟨a,ys,rfl,.inr ((TpK.sq h1)),h2⟩
  | list ds=>cases e; obtain⟨a,ys,rfl,h1,h2⟩:=DF.lst_inv h; exact⟨a,ys,rfl,.inl h1.sq,h2⟩
  | _=>cases e
 | l ds=>cases e; obtain⟨a,ys,rfl,h1,h2⟩:=h; exact⟨a,ys,rfl,.inl (SqL.of h1),h2⟩
 | t=>cases e
 | k=>cases e
def zeu(u:U):Option U:=u.items.map fun xs=>.d (.int xs.length)
theorem zcH:VC K (zxl K) (f1 zeu):=zlp fun v a u H Q h e q=>by
 obtain⟨xs,ex,rfl⟩:=qq.mp e
 obtain⟨p,ys,rfl,s,d⟩:=h.items ex
 exact⟨p,ys,rfl,s,q _ _ (fun _ _ z=>z) (by rw [d.len]; exact .int _) Nw.data⟩
def zco(u:U):Option U:=u.items.map fun xs=>.d (.tuple xs)
theorem zcb:VC K (zjP K) (f1 zco):=zlp fun v a u H Q h e q=>by
 obtain⟨xs,ex,rfl⟩:=qq.mp e
 cases a with
 | d x =>
  cases x with
  | tuple ds =>
   cases ex
   obtain⟨a,ys,rfl,h1,h2⟩:=DF.tup_inv h
   exact⟨a,ys,rfl,.inr ⟨(TpK.sq h1),q _ _ (fun _ _ z=>z) (.tup h1 h2) Nw.data⟩⟩
  | list ds =>
   cases ex
   obtain⟨a,ys,rfl,h1,h2⟩:=DF.lst_inv h
   refine⟨a,ys,rfl,.inl ⟨h1.sq,fun l hl=>?_⟩⟩
   have sm:=zP hl (.tup ys)
   exact q _ _ sm (.tup (.inl zx) (h2.kp sm.kp)) Nw.data
  | _=>cases ex
 | l ds =>
  cases ex
  obtain⟨a,ys,rfl,h1,h2⟩:=h
  refine⟨a,ys,rfl,.inl ⟨SqL.of h1,fun l hl=>?_⟩⟩
  have sm:=zP hl (.tup ys)
  exact q _ _ sm (.tup (.inl zx) (h2.kp sm.kp)) Nw.data
 | t=>cases ex
 | k=>cases ex
def zlq:U->Option U
 | .d (.int i)=>some (.d (.int (if i < 0 then -i else i)))
 | _=>none
theorem ziY:VC K (fun xs H Q=>∃ i,xs=[.int i]/\Q (.int (if i < 0 then -i else i)) H) (f1 zlq):=zlp fun v a u H Q h e q=>by
 unfold zlq at e
 split at e
 ·rename_i i
  cases e
  cases DF.int_inv h
  exact⟨i,rfl,q _ _ (fun _ _ z=>z) (.int _) Nw.data⟩
 ·cases e
def zjW:U->Option U
 | .d (.int i)=>some (.d (.int i))
 | .d (.bool k)=>some (.d (.int (if k then 1 else 0)))
 | _=>none
theorem zmo:VC K (fun xs H Q=>(∃ i,xs=[.int i]/\Q (.int i) H)\/∃ k,xs=[.bl k]/\Q (.int (if k then 1 else 0)) H) (f1 zjW):=zlp fun v a u H Q h e q=>by
 unfold zjW at e
 split at e
 ·rename_i i
  cases e
  cases DF.int_inv h
  exact .inl ⟨i,rfl,q _ _ (fun _ _ z=>z) (.int _) Nw.data⟩
 ·rename_i i
  cases e
  cases DF.bl_inv h
  exact .inr ⟨i,rfl,q _ _ (fun _ _ z=>z) (.int _) Nw.data⟩
 ·cases e
def zhf:List U->Option U
 | [.d (.int i),.d (.int j)]=>some (.d (.int (if j > i then j else i)))
 | _=>none
theorem zgF:VC K (fun xs H Q=>∃ i j,xs=[.int i,.int j]/\Q (.int (if j > i then j else i)) H) zhf:=by
 intro vs us u H Q hr e q
 unfold zhf at e
 split at e
 ·rename_i i j
  cases e
  cases hr with
  | cons h1 t =>
   cases t with
   | cons h2 t =>
    cases t
    cases DF.int_inv h1
    cases DF.int_inv h2
    exact⟨i,j,rfl,q _ _ (fun _ _ z=>z) (.int _) Nw.data⟩
 ·cases e
def zfr:List D->Option (List Int)
 | []=>some []
 | .int i::xs=>(zfr xs).bind fun is=>some (i::is)
 | _::_=>none
theorem zjX{ys:List V}{xs:List D}{ns:List Int}(h:DFs K H ys xs)(e:zfr xs=some ns):ys=ns.map V.int:=by
 induction xs generalizing ys ns with
 | nil=>cases e; cases h; rfl
 | cons x xs ih =>
  cases h with
  | cons h1 t =>
   cases x with
   | int i =>
    obtain⟨is,ei,e⟩:=zb (show(zfr xs).bind (fun is=>some (i::is))=some ns from e)
    cases e
    rw [ih t ei,DF.int_inv h1]
    rfl
   | _=>cases e
def mB(me:ME):MT:=fun ρ=>(me ρ).bind fun p=>(p.1.get p.2).bind fun u=>match u with | .d (.bool b)=>some (b,p.2) | _=>none
theorem zvZ{t:TE}{m:ME}(h:VE K t m):VT K (tB t) (mB m):=by
 intro ρ σ H b ρ' Q r e q
 obtain⟨⟨a,ρ1⟩,e1,e⟩:=zb e
 obtain⟨u,eu,e⟩:=zb e
 split at e
 ·cases e
  refine h ρ σ H a _ _ r e1 fun v H1 g1 k1=>?_
  exact⟨_,DF.bl_inv (k1.now r g1 eu),q _ g1⟩
 ·cases e
theorem zaa{t:TE}{m:ME}(h:VE K t m):VT K (zoP t) (mB m):=zvZ h
def zlr(ma mb:MT):MT:=fun ρ=>(ma ρ).bind fun p=>if p.1=true then mb p.2 else some (false,p.2)
def mOr(ma mb:MT):MT:=fun ρ=>(ma ρ).bind fun p=>if p.1=true then some (true,p.2)else mb p.2
def zpu(ma:MT):MT:=fun ρ=>(ma ρ).bind fun p=>some (!p.1,p.2)
theorem ziZ{ta tb:TT}{ma mb:MT}(ha:VT K ta ma)(hb:VT K tb mb):VT K (zuX ta tb) (zlr ma mb):=by
 intro ρ σ H b ρ' Q r e q
 obtain⟨⟨c,ρ1⟩,e1,e⟩:=zb e
 refine ha ρ σ H c ρ1 _ r e1 fun H1 g1=>?_
 dsimp only at e
 split at e
 ·rename_i hc
  rw [if_pos hc]
  exact hb ρ1 σ H1 b ρ' _ g1.rs e fun H2 g2=>q H2 (g1.trans g2)
 ·rename_i hc
  rw [if_neg hc]
  cases e
  exact q H1 g1
theorem ztR{ta tb:TT}{ma mb:MT}(ha:VT K ta ma)(hb:VT K tb mb):VT K (tOr ta tb) (mOr ma mb):=by
 intro ρ σ H b ρ' Q r e q
 obtain⟨⟨c,ρ1⟩,e1,e⟩:=zb e
 refine ha ρ σ H c ρ1 _ r e1 fun H1 g1=>?_
 dsimp only at e
 split at e
 ·rename_i hc
  rw [if_pos hc]
  cases e
  exact q H1 g1
 ·rename_i hc
  rw [if_neg hc]
  exact hb ρ1 σ H1 b ρ' _ g1.rs e fun H2 g2=>q H2 (g1.trans g2)
theorem zpv{ta:TT}{ma:MT}(ha:VT K ta ma):VT K (zuY ta) (zpu ma):=by
 intro ρ σ H b ρ' Q r e q
 obtain⟨⟨c,ρ1⟩,e1,e⟩:=zb e
 cases e
 exact ha ρ σ H c _ _ r e1 fun H1 g1=>q H1 g1
theorem zxu{a:Ar}{v:V}{H1 H2:Hp}{ρ1 ρ2:En}(g1:Go K ρ σ H ρ1 H1)(h:zhO K ρ2 σ H1 H2 v a):zhO K ρ2 σ H H2 v a:=by
 cases a with
 | s i=>exact h
 | u x=>exact⟨h.1,h.2.mono g1.dm⟩
def mIf(mt:MT)(ma mb:ME):ME:=fun ρ=>(mt ρ).bind fun p=>if p.1=true then ma p.2 else mb p.2
theorem zxv{tt:TT}{ta tb:TE}{mt:MT}{ma mb:ME}(ht:VT K tt mt)(ha:VE K ta ma)(hb:VE K tb mb):VE K (tIf tt ta tb) (mIf mt ma mb):=by
 intro ρ σ H a ρ' Q r e q
 obtain⟨⟨c,ρ1⟩,e1,e⟩:=zb e
 refine ht ρ σ H c ρ1 _ r e1 fun H1 g1=>?_
 dsimp only at e
 split at e
 ·rename_i hc
  rw [if_pos hc]
  exact ha ρ1 σ H1 a ρ' _ g1.rs e fun v H2 g2 k=>q v H2 (g1.trans g2) (zxu g1 k)
 ·rename_i hc
  rw [if_neg hc]
  exact hb ρ1 σ H1 a ρ' _ g1.rs e fun v H2 g2 k=>q v H2 (g1.trans g2) (zxu g1 k)
def U.tru:U->Option Bool
 | .d .none=>some false
 | .d (.bool b)=>some b
 | .d (.int i)=>some (i != 0)
 | .d (.str x)=>if x.length<=sizeLine then some ((x.length:Int) != 0)else none
 | .d (.tuple xs)=>some (!xs.isEmpty)
 | .d (.list xs)=>some (!xs.isEmpty)
 | .l xs=>some (!xs.isEmpty)
 | _=>none
theorem zd0{ys:List V}{xs:List D}(h:DFs K H ys xs):(!xs.isEmpty)=!ys.isEmpty:=by cases h<;>rfl
def zpw(ma:ME):MT:=fun ρ=>(ma ρ).bind fun p=>(p.1.get p.2).bind fun u=>u.tru.bind fun b=>some (b,p.2)
theorem zpx{ta:TE}{ma:ME}(ha:VE K ta ma):VT K (zxk K ta) (zpw ma):=by
 intro ρ σ H b ρ' Q r e q
 obtain⟨⟨a,ρ1⟩,e1,e⟩:=zb e
 obtain⟨u,eu,e⟩:=zb e
 obtain⟨c,ec,e⟩:=zb e
 cases e
 refine ha ρ σ H a _ _ r e1 fun v H1 g1 k1=>⟨_,?_,q _ g1⟩
 have p:=k1.now r g1 eu
 cases u with
 | d x =>
  cases(show DF K H1 v x from p)with
  | non=>cases ec; rfl
  | bl=>cases ec; rfl
  | int=>cases ec; rfl
  | str x =>
   unfold U.tru at ec
   dsimp only at ec
   split at ec
   ·cases ec; exact⟨by assumption,rfl⟩
   ·cases ec
  | tup h t=>cases ec; exact .inr (.inl ⟨_,(TpK.sq h),zd0 t⟩)
  | lst h t=>cases ec; exact .inl ⟨_,h.sq,zd0 t⟩
  | dct=>cases ec
  | exc=>cases ec
  | obj=>cases ec
 | l xs=>cases ec; obtain⟨a,us,rfl,h1,h2⟩:=p; exact .inl ⟨_,SqL.of h1,zd0 h2⟩
 | t=>cases ec
 | k=>cases ec
end
section
variable {K:qc} {ρ ρ':En} {σ:St} {H H':Hp}
abbrev FD:=List U->Option (U×List U)
def sm(xs:List U):En:=xs.map some
def smV(vs:List V):St:=vs.map some
def spV(K:qc)(n:Nat)(f:FD):Sp:=fun vs H Q _=>∃ us r outs,us.length=n/\Rs K (sm us) (smV vs) H/\f us=some (r,outs) /\
 ∀ v H',Go K (sm us) (smV vs) H (sm outs) H'->Rp K H' v r->Nw H v r->Q v H'
def wb:En->List Ar->List U->En
 | ρ,.s j::as,o::os=>wb (ρ.set j (some o)) as os
 | ρ,.u _::as,_::os=>wb ρ as os
 | ρ,_,_=>ρ
def zd1(ρ:En):List Ar->Bool
 | []=>true
 | .s j::as=>(match ρ[j]? with | some (some u)=>!u.own || !(as.any fun a=>match a with | .s k=>decide (k=j) | _=>false) | _=>true) && zd1 ρ as
 | .u _::as=>zd1 ρ as
def zao(f:FD)(ma:MA):ME:=fun ρ=>(ma ρ).bind fun p=>if zd1 p.2 p.1=true then(zbc p.2 p.1).bind fun us=>(f us).bind fun o=>some (.u o.1,wb p.2 p.1 o.2)else none
theorem zfs:∀ {as:List Ar} {us:List U},zbc ρ as=some us->us.length=as.length
 | [],us,e=>by cases e; rfl
 | a::as,us,e=>by
  obtain⟨u,eu,e⟩:=zb e
  obtain⟨us',eus,e⟩:=zb e
  cases e
  simp [zfs eus]
theorem zmp:∀ {as:List Ar} {us:List U} {i:Nat} {a:Ar},zbc ρ as=some us->as[i]?=some a->∃ u,us[i]?=some u/\a.get ρ=some u
 | [],us,i,a,e,ea=>by simp at ea
 | b::as,us,i,a,e,ea=>by
  obtain⟨u,eu,e⟩:=zb e
  obtain⟨us',eus,e⟩:=zb e
  cases e
  cases i with
  | zero=>cases(show some b=some a from ea); exact⟨u,rfl,eu⟩
  | succ i=>exact zmp (i:=i) eus ea
theorem zhg:∀ {as:List Ar} {us:List U} {i:Nat} {u:U},zbc ρ as=some us->us[i]?=some u->∃ a,as[i]?=some a/\a.get ρ=some u:=fun{as us i u} e eu=>by
 have hi:i < as.length:=by rw [<-zfs e]; exact(qk.mp eu).1
 obtain⟨u',e1,e2⟩:=zmp e (ql hi)
 rw [eu]at e1
 cases e1
 exact⟨_,ql hi,e2⟩
theorem ztS{j:Nat}{u:U}(e:Ar.get ρ (.s j)=some u):ρ[j]?=some (some u):=by
 have z:(ρ[j]?).join=some u:=e
 cases q:ρ[j]? with
 | none=>rw [q]at z; cases z
 | some o =>
  rw [q]at z
  cases o with
  | none=>cases z
  | some w=>cases z; rfl
theorem zmq:∀ {as:List Ar} {p q j:Nat} {u:U},zd1 ρ as=true->as[p]?=some (.s j)->as[q]?=some (.s j)->ρ[j]?=some (some u)->u.own=true->p=q
 | [],p,q,j,u,_,e,_,_,_=>by simp at e
 | a::as,p,q,j,u,d,ep,eq,ej,ou=>by
  have dd:zd1 ρ as=true:=by
   cases a with
   | s k=>unfold zd1 at d; rw [Bool.and_eq_true]at d; exact d.2
   | u=>exact d
  have nope:∀ {q':Nat},a=.s j->as[q']?=some (.s j)->False:=fun{q'} ea eq'=>by
   subst ea
   unfold zd1 at d
   rw [Bool.and_eq_true,ej]at d
   have d1:=d.1
   dsimp only at d1
   rw [ou]at d1
   have m:(as.any fun a=>match a with | .s k=>decide (k=j) | _=>false)=true:=List.any_eq_true.mpr ⟨.s j,List.mem_of_getElem? eq',by simp⟩
   rw [m]at d1
   cases d1
  cases p with
  | zero =>
   cases q with
   | zero=>rfl
   | succ q=>exact(nope (qw ep) eq).elim
  | succ p =>
   cases q with
   | zero=>exact(nope (qw eq) ep).elim
   | succ q=>exact congrArg (·+1) (zmq dd ep eq ej ou)
theorem zcc{us:List U}{i:Nat}{u:U}:(sm us)[i]?=some (some u)↔us[i]?=some u:=by
 unfold sm
 rw [List.getElem?_map]
 cases us[i]?<;>simp
theorem zf3{vs:List V}{i:Nat}{v:V}:(smV vs)[i]?=some (some v)↔vs[i]?=some v:=by
 unfold smV
 rw [List.getElem?_map]
 cases vs[i]?<;>simp
theorem zmr:∀ {as:List Ar} {os:List U} {ρ:En} {j:Nat} {w:U},(wb ρ as os)[j]?=some (some w)->as.length=os.length->(∃ p:Nat,as[p]?=some (Ar.s j)/\os[p]?=some w)\/(ρ[j]?=some (some w)/\∀ p:Nat,as[p]?≠some (Ar.s j))
 | [],os,ρ,j,w,e,_=>.inr ⟨by cases os<;>exact e,fun p z=>by simp at z⟩
 | a::as,[],ρ,j,w,e,l=>by simp at l
 | .u x::as,o::os,ρ,j,w,e,l=>by
  rcases zmr (as:=as) (os:=os) (ρ:=ρ) (show(wb ρ as os)[j]?=some (some w) from e) (by simpa using l)with ⟨p,h1,h2⟩ | ⟨h1,h2⟩
  ·exact .inl ⟨p+1,h1,h2⟩
  ·refine .inr ⟨h1,fun p z=>?_⟩
   cases p with
   | zero=>cases(show some (Ar.u x)=some (.s j) from z)
   | succ p=>exact h2 p z
 | .s k::as,o::os,ρ,j,w,e,l=>by
  rcases zmr (as:=as) (os:=os) (ρ:=ρ.set k (some o)) (show(wb (ρ.set k (some o)) as os)[j]?=some (some w) from e) (by simpa using l)with ⟨p,h1,h2⟩ | ⟨h1,h2⟩
  ·exact .inl ⟨p+1,h1,h2⟩
  ·by_cases hk:k=j
   ·subst hk
    have hl:k < (ρ.set k (some o)).length:=(qk.mp h1).1
    rw [List.length_set]at hl
    rw [List.getElem?_set_self hl]at h1
    exact .inl ⟨0,rfl,by cases h1; rfl⟩
   ·rw [qB hk]at h1
    refine .inr ⟨h1,fun p z=>?_⟩
    cases p with
    | zero=>cases(show some (Ar.s k)=some (.s j) from z); exact hk rfl
    | succ p=>exact h2 p z
theorem zi0:∀ (ρ:En) (as:List Ar) (os:List U),(wb ρ as os).length=ρ.length
 | ρ,[],os=>by cases os<;>rfl
 | ρ,.s k::as,[]=>rfl
 | ρ,.u k::as,[]=>rfl
 | ρ,.s k::as,o::os=>by show(wb (ρ.set k (some o)) as os).length=_; rw [zi0]; exact List.length_set
 | ρ,.u k::as,o::os=>zi0 ρ as os
theorem zgG:∀ {as:List Ar} {os:List U} {ρ:En} {j:Nat} {w:U},ρ[j]?=some (some w)->∃ w',(wb ρ as os)[j]?=some (some w')
 | [],os,ρ,j,w,e=>⟨w,by cases os<;>exact e⟩
 | .s k::as,[],ρ,j,w,e=>⟨w,e⟩
 | .u k::as,[],ρ,j,w,e=>⟨w,e⟩
 | .u k::as,o::os,ρ,j,w,e=>zgG (as:=as) (os:=os) e
 | .s k::as,o::os,ρ,j,w,e=>by
  by_cases hk:k=j
  ·subst hk
   exact zgG (as:=as) (os:=os) (w:=o) (List.getElem?_set_self (qk.mp e).1)
  ·exact zgG (as:=as) (os:=os) (w:=w) (by rw [qB hk]; exact e)
theorem zv0{as:List Ar}{us:List U}{vs:List V}{ρ1:En}{H1:Hp}(rs:Rs K ρ σ H)(g1:Go K ρ σ H ρ1 H1)(s1:ArS K ρ1 σ H H1 vs as)(dj:zd1 ρ1 as=true)(eu:zbc ρ1 as=some us) :
  Rs K (sm us) (smV vs) H1/\∀ (outs:List U) (H2:Hp),Go K (sm us) (smV vs) H1 (sm outs) H2->Go K ρ σ H (wb ρ1 as outs) H2:=by
 have rp:=s1.rpl rs g1 eu
 have lus:=zfs eu
 have lvs:=s1.len
 have adr:∀ (i:Nat) (u:U),us[i]?=some u->u.own=true->∃ b,vs[i]?=some (.ref b)/\((∃ j,as[i]?=some (.s j)/\σ[j]?=some (some (.ref b))/\ρ1[j]?=some (some u))\/(as[i]?=some (.u u)/\H b=none)):=fun i u ei ou=>by
  obtain⟨a,ea,eg⟩:=zhg eu ei
  obtain⟨v,ev,k⟩:=s1.ar i a ea
  have p:=k.now rs g1 eg
  obtain⟨b,rfl⟩:=p.own_ref ou
  refine⟨b,ev,?_⟩
  cases a with
  | s j=>exact .inl ⟨j,ea,k.1,ztS eg⟩
  | u x =>
   cases(show some x=some u from eg)
   obtain⟨b',eb,hb⟩:=k.2 ou
   cases eb
   exact .inr ⟨ea,hb⟩
 have apart:∀ (i j:Nat) (u w:U),us[i]?=some u->us[j]?=some w->u.own=true->w.own=true->vs[i]?=vs[j]?->i=j:=fun i j u w ei ej ou ow ev=>by
  obtain⟨b,vb,hb⟩:=adr i u ei ou
  obtain⟨c,vc,hc⟩:=adr j w ej ow
  have bc:b=c:=by rw [vb,vc]at ev; cases ev; rfl
  subst bc
  rcases hb with ⟨x,ax,sx,rx⟩ | ⟨ax,nx⟩
  ·rcases hc with ⟨y,ay,sy,ry⟩ | ⟨ay,ny⟩
   ·have xy:x=y:=g1.rs.apart x y u w rx ry ou ow (by rw [sx,sy])
    subst xy
    exact zmq dj ax ay rx ou
   ·exfalso
    obtain⟨w',ew',ow'⟩:=g1.shr.own x u rx ou
    obtain⟨c',hc',_⟩:=rs.ow ⟨x,w',ew',ow',sx⟩
    rw [ny]at hc'
    cases hc'
  ·rcases hc with ⟨y,ay,sy,ry⟩ | ⟨ay,ny⟩
   ·exfalso
    obtain⟨w',ew',ow'⟩:=g1.shr.own y w ry ow
    obtain⟨c',hc',_⟩:=rs.ow ⟨y,w',ew',ow',sy⟩
    rw [nx]at hc'
    cases hc'
   ·exact s1.ap i j u w ax ay ou ow ev
 have rsA:Rs K (sm us) (smV vs) H1:=by
  refine⟨by unfold sm smV; rw [List.length_map,List.length_map]; omega,fun i u ei=>?_,fun i j u w ei ej ou ow ev=>?_⟩
  ·have ei':=zcc.mp ei
   obtain⟨a,ea,eg⟩:=zhg eu ei'
   obtain⟨v,ev,k⟩:=s1.ar i a ea
   exact⟨v,zf3.mpr ev,k.now rs g1 eg⟩
  ·have ei':=zcc.mp ei
   have ej':=zcc.mp ej
   refine apart i j u w ei' ej' ou ow ?_
   obtain⟨b,vb,_⟩:=adr i u ei' ou
   obtain⟨c,vc,_⟩:=adr j w ej' ow
   rw [zf3.mpr vb,zf3.mpr vc]at ev
   rw [vb,vc]
   exact qw ev
 refine⟨rsA,fun outs H2 g2=>?_⟩
 have lo:outs.length=us.length:=by have:=g2.shr.len; unfold sm at this; simpa using this
 have kp2:=g2.kp rsA
 have owA:∀ b,Ow (sm us) (smV vs) b->Ow ρ1 σ b\/H b=none:=fun b ⟨i,u,ei,ou,es⟩=>by
  obtain⟨c,vc,hc⟩:=adr i u (zcc.mp ei) ou
  rw [zf3.mp es]at vc
  cases vc
  rcases hc with ⟨j,_,sj,rj⟩ | ⟨_,nb⟩
  ·exact .inl ⟨j,u,rj,ou,sj⟩
  ·exact .inr nb
 have outsAt:∀ (i:Nat) (w:U),outs[i]?=some w->∃ x,vs[i]?=some x/\Rp K H2 x w:=fun i w ei=>by
  obtain⟨x,ex,px⟩:=g2.rs.rep i w (zcc.mpr ei)
  exact⟨x,zf3.mp ex,px⟩
 have lao:as.length=outs.length:=by omega
 have ownBack:∀ (j:Nat) (w:U),(wb ρ1 as outs)[j]?=some (some w)->w.own=true->∃ w',ρ1[j]?=some (some w')/\w'.own=true:=fun j w ej ow=>by
  rcases zmr ej lao with ⟨p,ap,op⟩ | ⟨h1,_⟩
  ·obtain⟨w',ew',ow'⟩:=g2.shr.own p w (zcc.mpr op) ow
   obtain⟨a,ea,eg⟩:=zhg eu (zcc.mp ew')
   rw [ap]at ea
   cases ea
   exact⟨w',ztS eg,ow'⟩
  ·exact⟨w,h1,ow⟩
 refine⟨⟨by rw [zi0]; exact g1.rs.len,fun j w ej=>?_,fun i j u w ei ej ou ow es=>?_⟩,fun b ob hb nb=>?_,?_,fun b hb=>g1.dm b (g2.dm b hb)⟩
 ·rcases zmr ej lao with ⟨p,ap,op⟩ | ⟨h1,h2⟩
  ·obtain⟨x,vx,px⟩:=outsAt p w op
   obtain⟨v',ev',k'⟩:=s1.ar p _ ap
   rw [vx]at ev'
   cases ev'
   exact⟨x,k'.1,px⟩
  ·obtain⟨x,ex,px⟩:=g1.rs.rep j w h1
   refine⟨x,ex,px.kp kp2 fun ow b c eb hb=>?_⟩
   refine g2.fr b c hb fun⟨i,u,ei,ou,es⟩=>?_
   obtain⟨c',vc',hc'⟩:=adr i u (zcc.mp ei) ou
   rw [zf3.mp es]at vc'
   cases vc'
   subst eb
   rcases hc' with ⟨k,ak,sk,rk⟩ | ⟨_,nb⟩
   ·have:k=j:=g1.rs.apart k j u w rk h1 ou ow (by rw [sk,ex])
    subst this
    exact h2 i ak
   ·obtain⟨w',ew',ow'⟩:=g1.shr.own j w h1 ow
    obtain⟨c'',hc'',_⟩:=rs.ow ⟨j,w',ew',ow',ex⟩
    rw [nb]at hc''
    cases hc''
 ·obtain⟨x,ex,ox⟩:=ownBack i u ei ou
  obtain⟨y,ey,oy⟩:=ownBack j w ej ow
  exact g1.rs.apart i j x y ex ey ox oy es
 ·refine g2.fr b ob (g1.fr b ob hb nb) fun z=>?_
  rcases owA b z with z | z
  ·exact nb (g1.shr.ow z)
  ·rw [z]at hb; cases hb
 ·refine⟨by rw [zi0]; exact g1.shr.len,fun j w ej ow=>?_,fun j w ej=>?_⟩
  ·obtain⟨x,ex,ox⟩:=ownBack j w ej ow
   exact g1.shr.own j x ex ox
  ·obtain⟨x,ex⟩:=g1.shr.live j w ej
   exact zgG ex
theorem zS{n:Nat}{f:FD}{t:TA}{m:MA}(h:VAs K t m)(hn:∀ ρ as ρ',m ρ=some (as,ρ')->as.length=n):VE K (zvN (spV K n f) t) (zao f m):=by
 intro ρ σ H a ρ' Q rs e q
 obtain⟨⟨as,ρ1⟩,e1,e⟩:=zb e
 dsimp only at e
 split at e
 ·rename_i dj
  obtain⟨us,eu,e⟩:=zb e
  obtain⟨⟨r,outs⟩,ef,e⟩:=zb e
  cases e
  refine h ρ σ H as ρ1 _ rs e1 fun vs H1 g1 s1=>?_
  obtain⟨rsA,back⟩:=zv0 rs g1 s1 dj eu
  exact⟨us,r,outs,by rw [zfs eu]; exact hn _ _ _ e1,rsA,ef,fun v H2 g2 p n2=>q v H2 (back outs H2 g2) ⟨p,n2.mono g1.dm⟩⟩
 ·cases e
theorem zT:∀ ρ as ρ',zr ρ=some (as,ρ')->as.length=0:=fun ρ as ρ' e=>by cases e; rfl
theorem zm{n:Nat}{me:ME}{ma:MA}(h:∀ ρ as ρ',ma ρ=some (as,ρ')->as.length=n):∀ ρ as ρ',zf me ma ρ=some (as,ρ')->as.length=n+1:=fun ρ as ρ' e=>by
 obtain⟨⟨a1,ρ1⟩,e1,e⟩:=zb e
 obtain⟨⟨as2,ρ2⟩,e2,e⟩:=zb e
 cases e
 simp [h _ _ _ e2]
end
inductive Fl where
 | nx (ρ:En) | bk (ρ:En) | ct (ρ:En) | rt (u:U) (ρ:En) | ex (x:D) (ρ:En)
def zyI(K:qc)(H:Hp)(a:Addr)(x:D):Prop:=∃ n C fs ds,x=.dict ((.none,.str n)::ds)/\zyH H a C fs/\XN K n C/\DFf K H fs ds
structure Sn (K:qc) (pn:List Nat) (σ₀:St) (A:Addr->Prop) (H₀ H₁:Hp) (ρ:En) (σ:St) (H:Hp):Prop where
 rs:Rs K ρ σ H
 fr:Fr' A H₀ H
 ow:∀ (i:Nat) (u:U) (a:Addr),ρ[i]?=some (some u)->u.own=true->σ[i]?=some (some (.ref a))->(i∈pn/\A a)\/H₀ a=none
 pin:∀ i∈pn,σ[i]?=σ₀[i]?
 dm:∀ a,H a=none->H₀ a=none
 kp:Kp H₁ H
def EX0:EXT:=fun _ _ _=>False
def zyJ(K:qc)(pn:List Nat)(EX:EXT)(σ₀:St)(A:Addr->Prop)(H₀ H₁:Hp)(D:Ends):Fl->Prop
 | .nx ρ=>∀ σ H,Sn K pn σ₀ A H₀ H₁ ρ σ H->D.nx σ H
 | .bk ρ=>∀ σ H,Sn K pn σ₀ A H₀ H₁ ρ σ H->D.bk σ H
 | .ct ρ=>∀ σ H,Sn K pn σ₀ A H₀ H₁ ρ σ H->D.ct σ H
 | .rt u ρ=>∀ v σ H,Sn K pn σ₀ A H₀ H₁ ρ σ H->Rp K H v u->Nw H₀ v u->D.rt v H
 | .ex x ρ=>∀ a σ H,Sn K pn σ₀ A H₀ H₁ ρ σ H->H₀ a=none->zyI K H a x->EX σ a H
abbrev MS:=En->Option Fl
def VS(K:qc)(pn:List Nat)(EX:EXT)(t:TS)(m:MS):Prop :=
 ∀ (σ₀:St) (A:Addr->Prop) (H₀ H₁:Hp) (ρ:En) (σ:St) (H:Hp) (f:Fl) (D:Ends),Sn K pn σ₀ A H₀ H₁ ρ σ H->m ρ=some f->zyJ K pn EX σ₀ A H₀ H₁ D f->t D σ H
section
variable {EX:EXT} {K:qc} {pn:List Nat} {σ₀:St} {A:Addr->Prop} {H₀ H₁ H₂:Hp} {ρ ρ':En} {σ:St} {H H':Hp}
theorem Sn.go(s:Sn K pn σ₀ A H₀ H₁ ρ σ H)(g:Go K ρ σ H ρ' H'):Sn K pn σ₀ A H₀ H₁ ρ' σ H':=by
 refine⟨g.rs,fun a o h n=>g.fr a o (s.fr a o h n) fun⟨i,u,e,ou,es⟩=>?_,fun i u a e o es=>?_,s.pin,fun a h=>s.dm a (g.dm a h),s.kp.trans (g.kp s.rs)⟩
 ·rcases s.ow i u a e ou es with z | z
  ·exact n z.2
  ·rw [z]at h; cases h
 ·obtain⟨w,e',o'⟩:=g.shr.own i u e o
  exact s.ow i w a e' o' es
theorem Sn.re(s:Sn K pn σ₀ A H₀ H₂ ρ σ H)(k:Kp H₁ H₂):Sn K pn σ₀ A H₀ H₁ ρ σ H:=⟨s.rs,s.fr,s.ow,s.pin,s.dm,k.trans s.kp⟩
theorem Sn.at(s:Sn K pn σ₀ A H₀ H₁ ρ σ H):Sn K pn σ₀ A H₀ H ρ σ H:=⟨s.rs,s.fr,s.ow,s.pin,s.dm,Kp.refl H⟩
theorem Sn.set{i:Nat}{v:V}{u:U}(s:Sn K pn σ₀ A H₀ H₁ ρ σ H)(hi:i∉pn)(p:Rp K H v u)(n:u.own=true->∃ a,v=.ref a/\H₀ a=none/\¬Ow ρ σ a):Sn K pn σ₀ A H₀ H₁ (ρ.set i (some u)) (σ.set i (some v)) H:=by
 have ll:=s.rs.len
 have inv:∀ (j:Nat) (w:U),(ρ.set i (some u))[j]?=some (some w)->(j=i/\w=u/\i < ρ.length)\/(j≠i/\ρ[j]?=some (some w)):=fun j w e=>by
  by_cases hj:i=j
  ·subst hj
   have hl:=(qk.mp e).1
   rw [List.length_set]at hl
   rw [List.getElem?_set_self hl]at e
   cases e
   exact .inl ⟨rfl,rfl,hl⟩
  ·rw [qB hj]at e
   exact .inr ⟨Ne.symm hj,e⟩
 have sat:∀ j,j≠i->(σ.set i (some v))[j]?=σ[j]?:=fun j h=>qB (Ne.symm h)
 have sself:i < ρ.length->(σ.set i (some v))[i]?=some (some v):=fun h=>List.getElem?_set_self (by omega)
 refine⟨⟨by rw [List.length_set,List.length_set]; exact ll,fun j w e=>?_,fun j k x y ej ek ox oy es=>?_⟩,s.fr,fun j w a e o es=>?_,fun j hj=>?_,s.dm,s.kp⟩
 ·rcases inv j w e with ⟨rfl,rfl,hl⟩ | ⟨hj,e'⟩
  ·exact⟨v,sself hl,p⟩
  ·rw [sat j hj]
   exact s.rs.rep j w e'
 ·rcases inv j x ej with ⟨rfl,rfl,hl⟩ | ⟨hj,ej'⟩
  ·rcases inv k y ek with ⟨rfl,rfl,_⟩ | ⟨hk,ek'⟩
   ·rfl
   ·exfalso
    obtain⟨a,rfl,_,na⟩:=n ox
    rw [sself hl,sat k hk]at es
    exact na ⟨k,y,ek',oy,es.symm⟩
  ·rcases inv k y ek with ⟨rfl,rfl,hl⟩ | ⟨hk,ek'⟩
   ·exfalso
    obtain⟨a,rfl,_,na⟩:=n oy
    rw [sself hl,sat j hj]at es
    exact na ⟨j,x,ej',ox,es⟩
   ·rw [sat j hj,sat k hk]at es
    exact s.rs.apart j k x y ej' ek' ox oy es
 ·rcases inv j w e with ⟨rfl,rfl,hl⟩ | ⟨hj,e'⟩
  ·rw [sself hl]at es
   cases es
   obtain⟨b,eb,hb,_⟩:=n o
   cases eb
   exact .inr hb
  ·rw [sat j hj]at es
   exact s.ow j w a e' o es
 ·rw [sat j (fun z=>hi (z▸hj))]
  exact s.pin j hj
theorem zhO.own{a:Ar}{v:V}{u:U}(r:Rs K ρ σ H)(g:Go K ρ σ H ρ' H')(k:zhO K ρ' σ H H' v a)(e:a.get ρ'=some u)(nc:∀ j,a=.s j->u.own=false):Nw H v u/\(u.own=true->∃ b,v=.ref b/\¬Ow ρ' σ b):=by
 cases a with
 | s j=>exact⟨(fun o=>by rw [nc j rfl]at o; cases o),fun o=>by rw [nc j rfl]at o; cases o⟩
 | u x =>
  cases(show some x=some u from e)
  exact⟨k.2,k.2.out' r g⟩
def put(p:Ar×En):Option (U×En):=match p.1 with
 | .s i=>match p.2[i]? with
  | some (some (.d x))=>some (.d x,p.2)
  | _=>none
 | .u u=>some (u,p.2)
theorem zpy{a:Ar}{u:U}{ρ1 ρ2:En}(e:put (a,ρ1)=some (u,ρ2)):ρ2=ρ1/\a.get ρ1=some u/\∀ j,a=.s j->u.own=false:=by
 cases a with
 | s i =>
  unfold put at e
  dsimp only at e
  split at e
  ·rename_i x ex
   cases e
   refine⟨rfl,?_,fun _ _=>rfl⟩
   show(ρ1[i]?).join=_
   rw [ex]
   rfl
  ·cases e
 | u x =>
  cases e
  exact⟨rfl,rfl,fun j z=>by cases z⟩
def zY(i:Nat)(me:ME):MS:=fun ρ=>(me ρ).bind fun p=>(put p).bind fun q=>some (.nx (q.2.set i (some q.1)))
theorem zD{i:Nat}{te:TE}{me:ME}(hi:i∉pn)(h:VE K te me):VS K pn EX (ziJ te (zds i)) (zY i me):=by
 intro σ₀ A H₀ H₁ ρ σ H f D s e k
 obtain⟨⟨a,ρ1⟩,e1,e⟩:=zb e
 obtain⟨⟨u,ρ2⟩,e2,e3⟩:=zb e
 clear e
 obtain⟨rfl,eg,nc⟩:=zpy e2
 cases e3
 refine h ρ σ H a ρ2 _ s.rs e1 fun v H1 g1 k1=>?_
 obtain⟨n1,n2⟩:=k1.own s.rs g1 eg nc
 have s1:=s.go g1
 refine k _ _ (s1.set hi (k1.now s.rs g1 eg) fun o=>?_)
 obtain⟨b,rfl,hb⟩:=n2 o
 obtain⟨b',eb,hb'⟩:=n1 o
 cases eb
 exact⟨b,rfl,s.dm b hb',hb⟩
def zF(m1 m2:MS):MS:=fun ρ=>(m1 ρ).bind fun f=>match f with
 | .nx ρ'=>m2 ρ'
 | f=>some f
theorem zv{t1 t2:TS}{m1 m2:MS}(h1:VS K pn EX t1 m1)(h2:VS K pn EX t2 m2):VS K pn EX (zoG t1 t2) (zF m1 m2):=by
 intro σ₀ A H₀ H₁ ρ σ H f D s e k
 obtain⟨f1,e1,e⟩:=zb e
 refine h1 σ₀ A H₀ H₁ ρ σ H f1 _ s e1 ?_
 cases f1 with
 | nx ρ1=>exact fun σ1 H1 s1=>h2 σ₀ A H₀ H₁ ρ1 σ1 H1 f D s1 e k
 | bk ρ1=>cases e; exact k
 | ct ρ1=>cases e; exact k
 | rt u ρ1=>cases e; exact k
 | ex x ρ1=>cases e; exact k
def zbA:MS:=fun ρ=>some (.nx ρ)
theorem zbd:VS K pn EX zoF zbA:=fun σ₀ A H₀ H₁ ρ σ H f D s e k=>by cases e; exact k σ H s
def zcL(mt:MT)(m1 m2:MS):MS:=fun ρ=>(mt ρ).bind fun p=>if p.1=true then m1 p.2 else m2 p.2
theorem zb6{tt:TT}{t1 t2:TS}{mt:MT}{m1 m2:MS}(ht:VT K tt mt)(h1:VS K pn EX t1 m1)(h2:VS K pn EX t2 m2):VS K pn EX (zu4 tt t1 t2) (zcL mt m1 m2):=by
 intro σ₀ A H₀ H₁ ρ σ H f D s e k
 obtain⟨⟨c,ρ1⟩,e1,e⟩:=zb e
 refine ht ρ σ H c ρ1 _ s.rs e1 fun H1 g1=>?_
 dsimp only at e
 split at e
 ·rename_i hc
  rw [if_pos hc]
  exact h1 σ₀ A H₀ H₁ ρ1 σ H1 f D (s.go g1) e k
 ·rename_i hc
  rw [if_neg hc]
  exact h2 σ₀ A H₀ H₁ ρ1 σ H1 f D (s.go g1) e k
theorem zeW{t:TS}{m:MS}(h:VS K pn EX t m):VS K pn EX (zpc t) m:=by
 intro σ₀ A H₀ H₁ ρ σ H f D s e k
 cases f with
 | nx ρ1=>exact⟨fun σ' H'=>Sn K pn σ₀ A H₀ H₁ ρ1 σ' H',h σ₀ A H₀ H₁ ρ σ H _ _ s e (fun σ' H' s'=>s'),fun σ' H' s'=>k σ' H' s'⟩
 | bk ρ1=>exact⟨D.nx,h σ₀ A H₀ H₁ ρ σ H _ _ s e k,fun _ _ z=>z⟩
 | ct ρ1=>exact⟨D.nx,h σ₀ A H₀ H₁ ρ σ H _ _ s e k,fun _ _ z=>z⟩
 | rt u ρ1=>exact⟨D.nx,h σ₀ A H₀ H₁ ρ σ H _ _ s e k,fun _ _ z=>z⟩
 | ex x ρ1=>exact⟨D.nx,h σ₀ A H₀ H₁ ρ σ H _ _ s e k,fun _ _ z=>z⟩
def zgn(me:ME):MS:=fun ρ=>(me ρ).bind fun p=>some (.nx p.2)
theorem zhh{te:TE}{me:ME}(h:VE K te me):VS K pn EX (zoH te) (zgn me):=by
 intro σ₀ A H₀ H₁ ρ σ H f D s e k
 obtain⟨⟨a,ρ1⟩,e1,e⟩:=zb e
 cases e
 exact h ρ σ H a _ _ s.rs e1 fun v H1 g1 k1=>k σ H1 (s.go g1)
def zbB(me:ME):MS:=fun ρ=>(me ρ).bind fun p=>(put p).bind fun q=>some (.rt q.1 q.2)
theorem zaK{te:TE}{me:ME}(h:VE K te me):VS K pn EX (zr5 te) (zbB me):=by
 intro σ₀ A H₀ H₁ ρ σ H f D s e k
 obtain⟨⟨a,ρ1⟩,e1,e⟩:=zb e
 obtain⟨⟨u,ρ2⟩,e2,e3⟩:=zb e
 clear e
 obtain⟨rfl,eg,nc⟩:=zpy e2
 cases e3
 refine h ρ σ H a _ _ s.rs e1 fun v H1 g1 k1=>?_
 obtain⟨n1,n2⟩:=k1.own s.rs g1 eg nc
 exact k v σ H1 (s.go g1) (k1.now s.rs g1 eg) (n1.mono s.dm)
def zft(pn:List Nat)(i:Nat):MS:=fun ρ=>if i∈pn then none else(match ρ[i]? with
 | some (some u)=>some (.rt u (ρ.set i none))
 | _=>none)
theorem zi1{i:Nat}:VS K pn EX (zr5 (zfg i)) (zft pn i):=by
 intro σ₀ A H₀ H₁ ρ σ H f D s e k
 unfold zft at e
 split at e
 ·cases e
 rename_i hi
 split at e
 ·rename_i u eu
  cases e
  obtain⟨v,ev,p⟩:=s.rs.rep i u eu
  have back:∀ (j:Nat) (w:U),(ρ.set i none)[j]?=some (some w)->ρ[j]?=some (some w):=fun j w e=>by
   by_cases hj:i=j
   ·subst hj
    have hl:=(qk.mp e).1
    rw [List.length_set]at hl
    rw [List.getElem?_set_self hl]at e
    cases e
   ·rw [qB hj]at e
    exact e
  refine⟨v,ev,k v σ H ⟨⟨by rw [List.length_set]; exact s.rs.len,fun j w e=>s.rs.rep j w (back j w e),fun a b x y ea eb=>s.rs.apart a b x y (back a x ea) (back b y eb)⟩,s.fr,fun j w a e=>s.ow j w a (back j w e),s.pin,s.dm,s.kp⟩ p fun o=>?_⟩
  obtain⟨a,rfl⟩:=p.own_ref o
  rcases s.ow i u a eu o ev with z | z
  ·exact absurd z.1 hi
  ·exact⟨a,rfl,z⟩
 ·cases e
end
section
variable {EX:EXT} {K:qc} {pn:List Nat} {σ₀:St} {A:Addr->Prop} {H₀ H₁ H₂:Hp} {ρ ρ':En} {σ:St} {H H':Hp}
def zpz(K:qc)(J:It)(H₁:Hp)(ds:List D):Prop:=∀ H,Kp H₁ H->∀ i:Nat,(∀ d,ds[i]?=some d->J.go i H/\∀ x H',J.yld i H x H'->zbf H H'/\DF K H' x d)/\(i=ds.length->J.stop i H)
abbrev MI:=En->Option (List D×En)
def VI(K:qc)(wi:TI)(mi:MI):Prop :=
 ∀ (ρ:En) (σ:St) (H:Hp) (ds:List D) (ρ':En) (R:It->Hp->Prop),Rs K ρ σ H->mi ρ=some (ds,ρ')->(∀ J H',Go K ρ σ H ρ' H'->zpz K J H' ds->R J H')->wi σ H R
def zn1:U->Option (List D)
 | .d (.list xs)=>some xs
 | _=>none
def zn2:U->Option (List D)
 | .d (.tuple xs)=>some xs
 | _=>none
def mIt(f:U->Option (List D))(me:ME):MI:=fun ρ=>(me ρ).bind fun p=>(p.1.get p.2).bind fun u=>(f u).bind fun ds=>some (ds,p.2)
theorem zi2{te:TE}{me:ME}(h:VE K te me):VI K (zoK K te) (mIt zn1 me):=by
 intro ρ σ H ds ρ' R r e q
 obtain⟨⟨a,ρ1⟩,e1,e⟩:=zb e
 obtain⟨u,eu,e⟩:=zb e
 obtain⟨xs,ex,e⟩:=zb e
 cases e
 refine h ρ σ H a _ _ r e1 fun v H1 g1 k1=>?_
 have p:=k1.now r g1 eu
 unfold zn1 at ex
 split at ex
 ·cases ex
  obtain⟨b,ys,rfl,h1,h2⟩:=DF.lst_inv p
  refine⟨b,rfl,⟨ys,h1.sq⟩,q _ _ g1 fun H2 k i=>⟨fun d ed=>?_,fun ei=>?_⟩⟩
  ·obtain⟨v,ev,dv⟩:=(h2.kp k).get ed
   refine⟨⟨ys,v,(h1.kp k).sq,ev⟩,fun x H' y=>?_⟩
   obtain⟨rfl,y⟩:=y
   have:=y ys (h1.kp k).sq
   rw [ev]at this
   cases this
   exact⟨fun _ _ z=>z,dv⟩
  ·exact⟨ys,(h1.kp k).sq,by rw [h2.len]; omega⟩
 ·cases ex
theorem zpA{te:TE}{me:ME}(h:VE K te me):VI K (zvd K te) (mIt zn2 me):=by
 intro ρ σ H ds ρ' R r e q
 obtain⟨⟨a,ρ1⟩,e1,e⟩:=zb e
 obtain⟨u,eu,e⟩:=zb e
 obtain⟨xs,ex,e⟩:=zb e
 cases e
 refine h ρ σ H a _ _ r e1 fun v H1 g1 k1=>?_
 have p:=k1.now r g1 eu
 unfold zn2 at ex
 split at ex
 ·cases ex
  obtain⟨b,ys,rfl,h1,h2⟩:=DF.tup_inv p
  refine⟨b,rfl,⟨ys,(TpK.sq h1)⟩,q _ _ g1 fun H2 k i=>⟨fun d ed=>?_,fun ei=>?_⟩⟩
  ·obtain⟨v,ev,dv⟩:=(h2.kp k).get ed
   refine⟨⟨ys,v,(TpK.kp k h1).sq,ev⟩,fun x H' y=>?_⟩
   obtain⟨rfl,y⟩:=y
   have:=y ys ((TpK.kp k h1).sq)
   rw [ev]at this
   cases this
   exact⟨fun _ _ z=>z,dv⟩
  ·exact⟨ys,(TpK.kp k h1).sq,by rw [h2.len]; omega⟩
 ·cases ex
def zaR(lo:Int)(n:Nat):List D:=(List.range n).map fun i=>.int (lo+(i:Nat))
theorem zeX(lo:Int)(n:Nat):(zaR lo n).length=n:=by simp [zaR]
theorem zf4{lo:Int}{n i:Nat}{d:D}(h:(zaR lo n)[i]?=some d):i < n/\d=.int (lo+(i:Nat)):=by
 have hl:=(qk.mp h).1
 rw [zeX]at hl
 refine⟨hl,?_⟩
 unfold zaR at h
 rw [List.getElem?_map,List.getElem?_range hl]at h
 cases h
 rfl
theorem zls{lo:Int}{n:Nat}:zpz K (Itr lo n) H₁ (zaR lo n):=fun H k i=>⟨fun d ed=>by
  obtain⟨hi,rfl⟩:=zf4 ed
  refine⟨hi,fun x H' y=>?_⟩
  obtain⟨rfl,rfl⟩:=y
  exact⟨fun _ _ z=>z,.int _⟩,fun ei=>by rw [zeX]at ei; exact Nat.le_of_eq ei.symm⟩
def zd2(ma:MA):MI:=fun ρ=>(ma ρ).bind fun p=>(zbc p.2 p.1).bind fun us=>match us with
 | [.d (.int j)]=>if -(2^62)<=j/\j < 2^62 then some (zaR 0 j.toNat,p.2)else none
 | _=>none
theorem zc6{ta:TA}{ma:MA}(h:VAs K ta ma):VI K (zoM ta) (zd2 ma):=by
 intro ρ σ H ds ρ' R r e q
 obtain⟨⟨as,ρ1⟩,e1,e⟩:=zb e
 obtain⟨us,eu,e⟩:=zb e
 refine h ρ σ H as ρ1 _ r e1 fun vs H1 g1 s1=>?_
 have rp:=s1.rpl r g1 eu
 dsimp only at e
 split at e
 ·split at e
  ·rename_i j hc
   cases e
   cases rp with
   | cons h1 t =>
    cases t
    cases DF.int_inv h1
    exact⟨j,rfl,hc.1,hc.2,q _ _ g1 zls⟩
  ·cases e
 ·cases e
def zcW:Nat->List D->List D
 | _,[]=>[]
 | i,d::ds=>.tuple [.int (i:Nat),d]::zcW (i+1) ds
theorem zd3:∀ {ds:List D} {n i:Nat} {d:D},(zcW n ds)[i]?=some d->∃ x,ds[i]?=some x/\d=.tuple [.int ((n+i:Nat):Int),x]
 | [],n,i,d,h=>by simp [zcW]at h
 | x::ds,n,0,d,h=>by cases h; exact⟨x,rfl,rfl⟩
 | x::ds,n,i+1,d,h=>by
  obtain⟨y,ey,ed⟩:=zd3 (ds:=ds) (n:=n+1) (i:=i) h
  exact⟨y,ey,by rw [ed]; congr 3; omega⟩
theorem zdM:∀ (ds:List D) (n:Nat),(zcW n ds).length=ds.length
 | [],_=>rfl
 | _::ds,n=>congrArg (·+1) (zdM ds (n+1))
def zms(ma:MA):MI:=fun ρ=>(ma ρ).bind fun p=>(zbc p.2 p.1).bind fun us=>match us with
 | [.d (.tuple ds)]=>some (zcW 0 ds,p.2)
 | _=>none
theorem zsG{ta:TA}{ma:MA}(h:VAs K ta ma):VI K (ztQ K ta) (zms ma):=by
 intro ρ σ H ds ρ' R r e q
 obtain⟨⟨as,ρ1⟩,e1,e⟩:=zb e
 obtain⟨us,eu,e⟩:=zb e
 refine h ρ σ H as ρ1 _ r e1 fun vs H1 g1 s1=>?_
 have rp:=s1.rpl r g1 eu
 dsimp only at e
 split at e
 ·rename_i xs
  cases e
  cases rp with
  | cons h1 t =>
   cases t
   obtain⟨b,ys,rfl,h1,h2⟩:=DF.tup_inv h1
   refine⟨b,rfl,⟨ys,(TpK.sq h1)⟩,q _ _ g1 fun H2 k i=>⟨fun d ed=>?_,fun ei=>?_⟩⟩
   ·obtain⟨x,ex,rfl⟩:=zd3 ed
    obtain⟨v,ev,dv⟩:=(h2.kp k).get ex
    refine⟨⟨ys,v,(TpK.kp k h1).sq,ev⟩,fun x H' y=>?_⟩
    obtain⟨T,nT,rfl,y⟩:=y
    cases y ys v ((TpK.kp k h1).sq) ev
    have sm:=zP nT (.tup [.int i,v])
    refine⟨sm,.tup (.inl zx) (.cons ?_ (.cons (dv.kp sm.kp) .nil))⟩
    rw [Nat.zero_add]
    exact .int _
   ·exact⟨ys,(TpK.kp k h1).sq,by rw [zdM]at ei; rw [h2.len]; exact ei.symm⟩
 ·cases e
abbrev MG:=D->En->Option En
def zyK(pn:List Nat)(mg:MG):Prop:=∀ d ρ ρ',mg d ρ=some ρ'->ρ'.length=ρ.length/\∀ i∈pn,ρ'[i]?=ρ[i]?
def zxw(pn:List Nat)(mg:List D->En->Option En):Prop:=∀ ds ρ ρ',mg ds ρ=some ρ'->ρ'.length=ρ.length/\∀ i∈pn,ρ'[i]?=ρ[i]?
structure VGt (K:qc) (pn:List Nat) (g:TG) (mg:MG):Prop where
 run:∀ (σ₀:St) (A:Addr->Prop) (H₀ H₁:Hp) (ρ:En) (σ:St) (H:Hp) (v:V) (d:D) (ρ':En) (Q:St->Hp->Prop),Sn K pn σ₀ A H₀ H₁ ρ σ H->DF K H v d->mg d ρ=some ρ'->(∀ σ',Sn K pn σ₀ A H₀ H₁ ρ' σ' H->Q σ' H)->g v σ H Q
 ok:zyK pn mg
structure VGs (K:qc) (pn:List Nat) (g:TGs) (mg:List D->En->Option En):Prop where
 run:∀ (σ₀:St) (A:Addr->Prop) (H₀ H₁:Hp) (ρ:En) (σ:St) (H:Hp) (vs:List V) (ds:List D) (ρ':En) (Q:St->Hp->Prop),Sn K pn σ₀ A H₀ H₁ ρ σ H->DFs K H vs ds->mg ds ρ=some ρ'->(∀ σ',Sn K pn σ₀ A H₀ H₁ ρ' σ' H->Q σ' H)->g vs σ H Q
 ok:zxw pn mg
def zB(i:Nat):MG:=fun d ρ=>some (ρ.set i (some (.d d)))
theorem zz{i:Nat}(hi:i∉pn):VGt K pn (zds i) (zB i) where
 run:=by
  intro σ₀ A H₀ H₁ ρ σ H v d ρ' Q s h e q
  cases e
  exact q _ (s.set hi (u:=.d d) h fun o=>by cases o)
 ok:=fun d ρ ρ' e=>by
  cases e
  exact⟨List.length_set,fun j hj=>qB (by rintro rfl; exact hi hj)⟩
def zbV:List D->En->Option En:=fun ds ρ=>match ds with | []=>some ρ | _=>none
def zV(g:MG)(gs:List D->En->Option En):List D->En->Option En:=fun ds ρ=>match ds with
 | d::ds=>(g d ρ).bind fun ρ1=>gs ds ρ1
 | []=>none
theorem zbv:VGs K pn zr8 zbV where
 run:=by
  intro σ₀ A H₀ H₁ ρ σ H vs ds ρ' Q s h e q
  cases h with
  | nil=>cases e; exact⟨rfl,q σ s⟩
  | cons=>cases e
 ok:=fun ds ρ ρ' e=>by
  cases ds with
  | nil=>cases e; exact⟨rfl,fun _ _=>rfl⟩
  | cons=>cases e
theorem zK{g:TG}{gs:TGs}{mg:MG}{mgs:List D->En->Option En}(h1:VGt K pn g mg)(h2:VGs K pn gs mgs):VGs K pn (zjC g gs) (zV mg mgs) where
 run:=by
  intro σ₀ A H₀ H₁ ρ σ H vs ds ρ' Q s h e q
  cases h with
  | nil=>cases e
  | @cons v d vs ds hv t =>
   obtain⟨ρ1,e1,e⟩:=zb (show(mg d ρ).bind (fun ρ1=>mgs ds ρ1)=some ρ' from e)
   exact⟨v,vs,rfl,h1.run σ₀ A H₀ H₁ ρ σ H v d ρ1 _ s hv e1 fun σ1 s1=>h2.run σ₀ A H₀ H₁ ρ1 σ1 H vs ds ρ' Q s1 t e q⟩
 ok:=fun ds ρ ρ' e=>by
  cases ds with
  | nil=>cases e
  | cons d ds =>
   obtain⟨ρ1,e1,e⟩:=zb (show(mg d ρ).bind (fun ρ1=>mgs ds ρ1)=some ρ' from e)
   obtain⟨a1,a2⟩:=h1.ok d ρ ρ1 e1
   obtain⟨b1,b2⟩:=h2.ok ds ρ1 ρ' e
   exact⟨b1.trans a1,fun i hi=>(b2 i hi).trans (a2 i hi)⟩
def zbC(n:Nat)(gs:List D->En->Option En):MG:=fun d ρ=>match d with
 | .tuple ds=>if ds.length=n then gs ds ρ else none
 | _=>none
theorem zbw{n:Nat}{gs:TGs}{mgs:List D->En->Option En}(h:VGs K pn gs mgs):VGt K pn (zsa K n gs) (zbC n mgs) where
 run:=by
  intro σ₀ A H₀ H₁ ρ σ H v d ρ' Q s hd e q
  unfold zbC at e
  split at e
  ·split at e
   ·rename_i ds hl
    obtain⟨a,xs,rfl,h1,h2⟩:=DF.tup_inv hd
    exact⟨a,xs,rfl,(TpK.sq h1),by rw [h2.len]; exact hl,h.run σ₀ A H₀ H₁ ρ σ H xs ds ρ' Q s h2 e q⟩
   ·cases e
  ·cases e
 ok:=fun d ρ ρ' e=>by
  unfold zbC at e
  split at e
  ·split at e
   ·exact h.ok _ _ _ e
   ·cases e
  ·cases e
def zlt(me:ME)(mg:MG):MS:=fun ρ=>(me ρ).bind fun p=>(p.1.get p.2).bind fun u=>match u with
 | .d d=>(mg d p.2).bind fun ρ'=>some (.nx ρ')
 | _=>none
theorem zpB{te:TE}{g:TG}{me:ME}{mg:MG}(h:VE K te me)(hg:VGt K pn g mg):VS K pn EX (ziJ te g) (zlt me mg):=by
 intro σ₀ A H₀ H₁ ρ σ H f D s e k
 obtain⟨⟨a,ρ1⟩,e1,e⟩:=zb e
 obtain⟨u,eu,e⟩:=zb e
 refine h ρ σ H a ρ1 _ s.rs e1 fun v H1 g1 k1=>?_
 have p:=k1.now s.rs g1 eu
 dsimp only at e
 split at e
 ·obtain⟨ρ2,e2,e3⟩:=zb e
  cases e3
  exact hg.run σ₀ A H₀ H₁ ρ1 σ H1 v _ ρ2 _ (s.go g1) p e2 fun σ' s'=>k σ' H1 s'
 ·cases e
def zn3(i j:Nat)(ma:MA):MS:=fun ρ=>(ma ρ).bind fun p=>(zbc p.2 p.1).bind fun us=>match us with
 | [.d x,.d y]=>some (.nx ((p.2.set i (some (.d x))).set j (some (.d y))))
 | _=>none
theorem zpC{i j:Nat}{ta:TA}{ma:MA}(hi:i∉pn)(hj:j∉pn)(h:VAs K ta ma):VS K pn EX (zvb i j ta) (zn3 i j ma):=by
 intro σ₀ A H₀ H₁ ρ σ H f D s e k
 obtain⟨⟨as,ρ1⟩,e1,e⟩:=zb e
 obtain⟨us,eu,e⟩:=zb e
 refine h ρ σ H as ρ1 _ s.rs e1 fun vs H1 g1 s1=>?_
 have rp:=s1.rpl s.rs g1 eu
 dsimp only at e
 split at e
 ·rename_i x y
  cases e
  cases rp with
  | @cons v _ vs _ h1 t =>
   cases t with
   | @cons w _ _ _ h2 t =>
    cases t
    have sn:=(s.go g1).set hi (u:=.d x) h1 fun o=>by cases o
    exact⟨v,w,rfl,k _ _ (sn.set hj (u:=.d y) h2 fun o=>by cases o)⟩
 ·cases e
def zcz(mg:MG)(mb:MS):List D->En->Option Fl
 | [],ρ=>some (.nx ρ)
 | d::ds,ρ=>(mg d ρ).bind fun ρ1=>(mb ρ1).bind fun f=>match f with
  | .nx ρ2=>zcz mg mb ds ρ2
  | .ct ρ2=>zcz mg mb ds ρ2
  | .bk ρ2=>some (.nx ρ2)
  | .rt u ρ2=>some (.rt u ρ2)
  | .ex x ρ2=>some (.ex x ρ2)
def zcI(mi:MI)(mg:MG)(mb:MS):MS:=fun ρ=>(mi ρ).bind fun p=>zcz mg mb p.1 p.2
theorem zbP{wi:TI}{g:TG}{tb:TS}{mi:MI}{mg:MG}{mb:MS}(hi:VI K wi mi)(hg:VGt K pn g mg)(hb:VS K pn EX tb mb):VS K pn EX (zvf wi g tb) (zcI mi mg mb):=by
 intro σ₀ A H₀ H₁ ρ σ H f D s e k
 obtain⟨⟨ds,ρ1⟩,e1,e⟩:=zb e
 refine hi ρ σ H ds ρ1 _ s.rs e1 fun J H1 g1 run=>?_
 have s1:=(s.go g1).at
 have kp01:Kp H₁ H1:=(s.go g1).kp
 refine⟨fun i m σ' H'=>m=ds.length - i/\i<=ds.length/\∃ ρ',Sn K pn σ₀ A H₀ H1 ρ' σ' H'/\zcz mg mb (ds.drop i) ρ'=some f,⟨ds.length,by simp,Nat.zero_le _,ρ1,s1,e⟩,?_⟩
 rintro i m σ' H' ⟨rfl,hi',ρ',s',el⟩
 by_cases hlt:i < ds.length
 ·rw [List.drop_eq_getElem_cons hlt]at el
  obtain⟨ρ2,e2,el⟩:=zb (show(mg ds[i] ρ').bind _=some f from el)
  obtain⟨fb,eb,el⟩:=zb el
  obtain⟨go,yl⟩:=(run H' s'.kp i).1 ds[i] (ql hlt)
  refine .inr ⟨go,fun σ3 H3=>∃ ρ3,Sn K pn σ₀ A H₀ H1 ρ3 σ3 H3/\zcz mg mb (ds.drop (i+1)) ρ3=some f,fun σ3 H3 ⟨ρ3,s3,e3⟩=>⟨ds.length - (i+1),by omega,rfl,hlt,ρ3,s3,e3⟩,fun x H2 y=>?_⟩
  obtain⟨sm,dx⟩:=yl x H2 y
  have s2:=s'.go (Go.grow s'.rs sm)
  refine hg.run σ₀ A H₀ H1 ρ' σ' H2 x ds[i] ρ2 _ s2 dx e2 fun σ3 s3=>?_
  refine hb σ₀ A H₀ H1 ρ2 σ3 H2 fb _ s3 eb ?_
  cases fb with
  | nx ρ4=>exact fun σ4 H4 s4=>⟨ρ4,s4,el⟩
  | ct ρ4=>exact fun σ4 H4 s4=>⟨ρ4,s4,el⟩
  | bk ρ4=>cases el; exact fun σ4 H4 s4=>k σ4 H4 (s4.re kp01)
  | rt u ρ4=>cases el; exact fun v σ4 H4 s4 p n=>k v σ4 H4 (s4.re kp01) p n
  | ex x ρ4=>cases el; exact fun a σ4 H4 s4 p n=>k a σ4 H4 (s4.re kp01) p n
 ·have ei:i=ds.length:=by omega
  subst ei
  rw [List.drop_length]at el
  cases el
  exact .inl ⟨(run H' s'.kp _).2 rfl,k σ' H' (s'.re kp01)⟩
def zbD(mt:MT)(mb:MS):Nat->En->Option Fl
 | 0,_=>none
 | n+1,ρ=>(mt ρ).bind fun p=>if p.1=true then(mb p.2).bind fun f=>match f with
  | .nx ρ2=>zbD mt mb n ρ2
  | .ct ρ2=>zbD mt mb n ρ2
  | .bk ρ2=>some (.nx ρ2)
  | .rt u ρ2=>some (.rt u ρ2)
  | .ex x ρ2=>some (.ex x ρ2)else some (.nx p.2)
open Classical in
noncomputable def zeY(mt:MT)(mb:MS):MS:=fun ρ=>if h:∃ n,(zbD mt mb n ρ).isSome=true then zbD mt mb h.choose ρ else none
theorem zmt{tt:TT}{tb:TS}{mt:MT}{mb:MS}(ht:VT K tt mt)(hb:VS K pn EX tb mb):VS K pn EX (zkX tt tb) (zeY mt mb):=by
 intro σ₀ A H₀ H₁ ρ σ H f D s e k
 unfold zeY at e
 split at e
 ·rename_i hn
  generalize hn.choose=n at e
  refine⟨fun m σ' H'=>∃ ρ',Sn K pn σ₀ A H₀ H₁ ρ' σ' H'/\zbD mt mb m ρ'=some f,⟨n,ρ,s,e⟩,?_⟩
  rintro m σ' H' ⟨ρ',s',el⟩
  cases m with
  | zero=>cases el
  | succ m =>
   obtain⟨⟨b,ρ1⟩,e1,el⟩:=zb (show(mt ρ').bind _=some f from el)
   refine ht ρ' σ' H' b ρ1 _ s'.rs e1 fun H1 g1=>?_
   dsimp only at el
   split at el
   ·rename_i hc
    rw [if_pos hc]
    obtain⟨fb,eb,el⟩:=zb el
    refine⟨fun σ2 H2=>∃ ρ2,Sn K pn σ₀ A H₀ H₁ ρ2 σ2 H2/\zbD mt mb m ρ2=some f,fun σ2 H2 ⟨ρ2,s2,e2⟩=>⟨m,Nat.lt_succ_self m,ρ2,s2,e2⟩,?_⟩
    refine hb σ₀ A H₀ H₁ ρ1 σ' H1 fb _ (s'.go g1) eb ?_
    cases fb with
    | nx ρ4=>exact fun σ4 H4 s4=>⟨ρ4,s4,el⟩
    | ct ρ4=>exact fun σ4 H4 s4=>⟨ρ4,s4,el⟩
    | bk ρ4=>cases el; exact fun σ4 H4 s4=>k σ4 H4 s4
    | rt u ρ4=>cases el; exact fun v σ4 H4 s4 p n=>k v σ4 H4 s4 p n
    | ex x ρ4=>cases el; exact fun a σ4 H4 s4 p n=>k a σ4 H4 s4 p n
   ·rename_i hc
    rw [if_neg hc]
    cases el
    exact k σ' H1 (s'.go g1)
 ·cases e
theorem zc7{mt:MT}{mb:MS}:∀ {n:Nat} {ρ:En} {f:Fl},zbD mt mb n ρ=some f->∀ k,zbD mt mb (n+k) ρ=some f
 | 0,_,_,e,_=>by cases e
 | n+1,ρ,f,e,k=>by
  rw [show n+1+k=(n+k)+1 by omega]
  obtain⟨⟨b,ρ1⟩,e1,e⟩:=zb (show(mt ρ).bind _=some f from e)
  show(mt ρ).bind _=some f
  rw [e1]
  show(if b=true then _ else _)=_
  dsimp only at e
  split at e
  ·rename_i hc
   rw [if_pos hc]
   obtain⟨fb,eb,e⟩:=zb e
   rw [eb]
   cases fb with
   | nx ρ2=>exact zc7 (n:=n) e k
   | ct ρ2=>exact zc7 (n:=n) e k
   | bk ρ2=>exact e
   | rt u ρ2=>exact e
   | ex x ρ2=>exact e
  ·rename_i hc
   rw [if_neg hc]
   exact e
theorem zpD{mt:MT}{mb:MS}{n:Nat}{ρ:En}{f:Fl}(e:zbD mt mb n ρ=some f):zeY mt mb ρ=some f:=by
 have h:∃ n,(zbD mt mb n ρ).isSome=true:=⟨n,by rw [e]; rfl⟩
 unfold zeY
 rw [dif_pos h]
 obtain⟨f',ef'⟩:=Option.isSome_iff_exists.mp h.choose_spec
 rw [ef']
 have a:=zc7 e h.choose
 have b:=zc7 ef' n
 rw [Nat.add_comm,b]at a
 exact a
end
section
variable {K:qc} {pn:List Nat} {σ₀:St} {A:Addr->Prop} {H₀ H₁ H₂:Hp} {ρ ρ':En} {σ:St} {H H':Hp}
def cEn(nt:Nat)(js:List Nat)(ρ:En):En:=List.replicate nt none++js.map fun j=>ρ.getD j none
def reset(nt:Nat)(ρ:En):En:=List.replicate nt none++ρ.drop nt
def back:List Nat->List (Option U)->En->En
 | j::js,some u::us,ρ=>back js us (ρ.set j (some u))
 | _::js,none::us,ρ=>back js us ρ
 | _,_,ρ=>ρ
def lcM(nt:Nat)(mg:MG)(mt:MT)(me:ME):List D->En->List D->Option (List D×En)
 | [],ρ,ys=>some (ys,ρ)
 | d::ds,ρ,ys=>if ys.length < sizeLine then(mg d ρ).bind fun ρ1=>(mt ρ1).bind fun b=>if b.1=true then(me b.2).bind fun p=>(p.1.get p.2).bind fun u=>(match u with
   | .d y=>lcM nt mg mt me ds (reset nt p.2) (ys++[y])
   | _=>none)else lcM nt mg mt me ds (reset nt b.2) ys else none
def mLC(mi:MI)(nt:Nat)(js:List Nat)(mg:MG)(mt:MT)(me:ME):ME:=fun ρ=>(mi ρ).bind fun p=>(lcM nt mg mt me p.1 (cEn nt js p.2) []).bind fun q=>some (.u (.l q.1),back js (q.2.drop nt) p.2)
def zd4(nt n:Nat):List Nat:=(List.range n).map (nt+·)
theorem zc8{nt n i:Nat}:i∈zd4 nt n↔nt<=i/\i < nt+n:=by
 unfold zd4
 rw [List.mem_map]
 constructor
 ·rintro⟨a,ha,rfl⟩
  have:=List.mem_range.mp ha
  omega
 ·intro h
  exact⟨i - nt,List.mem_range.mpr (by omega),by omega⟩
theorem zf5{nt:Nat}{js:List Nat}{i:Nat}{u:U}(h:(cEn nt js ρ)[i]?=some (some u)):∃ p j,i=nt+p/\js[p]?=some j/\ρ[j]?=some (some u):=by
 unfold cEn at h
 by_cases hi:i < nt
 ·rw [List.getElem?_append_left (by simpa using hi),List.getElem?_replicate,if_pos hi]at h
  cases h
 ·rw [List.getElem?_append_right (by simp; omega),List.length_replicate,List.getElem?_map]at h
  obtain⟨j,ej,e⟩:=qq.mp h
  refine⟨i - nt,j,by omega,ej,?_⟩
  rw [qA]at e
  cases q:ρ[j]? with
  | none=>rw [q]at e; cases e
  | some o=>rw [q]at e; exact congrArg some e
theorem zpE{nt:Nat}{js:List Nat}{p j:Nat}(h:js[p]?=some j):(c0 nt js σ)[nt+p]?=some (σ.getD j none):=by
 unfold c0
 rw [List.getElem?_append_right (by simp),List.length_replicate,Nat.add_sub_cancel_left,List.getElem?_map,h]
 rfl
theorem zlu{nt:Nat}{js:List Nat}:(c0 nt js σ).length=nt+js.length:=by unfold c0; simp
theorem zi3{nt:Nat}{js:List Nat}:(cEn nt js ρ).length=nt+js.length:=by unfold cEn; simp
def zhP(ρ:En)(σ:St)(js:List Nat)(a:Addr):Prop:=∃ (p j:Nat) (u:U),js[p]?=some j/\ρ[j]?=some (some u)/\u.own=true/\σ[j]?=some (some (.ref a))
theorem zmu{nt:Nat}{js:List Nat}(r:Rs K ρ σ H)(nd:js.Nodup):Sn K (zd4 nt js.length) (c0 nt js σ) (zhP ρ σ js) H H (cEn nt js ρ) (c0 nt js σ) H:=by
 have sat:∀ {p j:Nat} {v:V},js[p]?=some j->σ[j]?=some (some v)->(c0 nt js σ)[nt+p]?=some (some v):=fun{p j v} hp hv=>by
  rw [zpE hp,qA,hv]
  rfl
 refine⟨⟨by rw [zi3,zlu],fun i u e=>?_,fun i k u w ei ek ou ow es=>?_⟩,fun _ _ h _=>h,fun i u a e o es=>?_,fun _ _=>rfl,fun _ h=>h,Kp.refl H⟩
 ·obtain⟨p,j,rfl,hj,hr⟩:=zf5 e
  obtain⟨v,ev,q⟩:=r.rep j u hr
  exact⟨v,sat hj ev,q⟩
 ·obtain⟨p,j,rfl,hj,hr⟩:=zf5 ei
  obtain⟨p',j',rfl,hj',hr'⟩:=zf5 ek
  obtain⟨v,ev,_⟩:=r.rep j u hr
  obtain⟨v',ev',_⟩:=r.rep j' w hr'
  rw [sat hj ev,sat hj' ev']at es
  have:j=j':=r.apart j j' u w hr hr' ou ow (by rw [ev,ev']; exact es)
  subst this
  have l1:=(qk.mp hj)
  have l2:=(qk.mp hj')
  obtain⟨h1,e1⟩:=l1
  obtain⟨h2,e2⟩:=l2
  have:=(List.getElem_inj nd).mp (e1.trans e2.symm)
  omega
 ·obtain⟨p,j,rfl,hj,hr⟩:=zf5 e
  obtain⟨v,ev,_⟩:=r.rep j u hr
  rw [sat hj ev]at es
  cases es
  exact .inl ⟨zc8.mpr ⟨by omega,by have:=(qk.mp hj).1; omega⟩,p,j,u,hj,hr,o,ev⟩
theorem Sn.reset{nt n:Nat}{σc:St}{ρ2:En}{σ2:St}(s:Sn K (zd4 nt n) σc A H₀ H₁ ρ2 σ2 H)(l1:ρ2.length=nt+n)(l2:σc.length=nt+n):Sn K (zd4 nt n) σc A H₀ H₁ (L2.reset nt ρ2) σc H:=by
 have bk:∀ (i:Nat) (u:U),(L2.reset nt ρ2)[i]?=some (some u)->nt<=i/\i < nt+n/\ρ2[i]?=some (some u):=fun i u e=>by
  unfold L2.reset at e
  by_cases hi:i < nt
  ·rw [List.getElem?_append_left (by simpa using hi),List.getElem?_replicate,if_pos hi]at e
   cases e
  ·rw [List.getElem?_append_right (by simp; omega),List.length_replicate,List.getElem?_drop,show nt+(i - nt)=i by omega]at e
   have:=(qk.mp e).1
   exact⟨by omega,by omega,e⟩
 have pin:∀ i,nt<=i->i < nt+n->σc[i]?=σ2[i]?:=fun i h1 h2=>(s.pin i (zc8.mpr ⟨h1,h2⟩)).symm
 have ll:(L2.reset nt ρ2).length=nt+n:=by unfold L2.reset; simp; omega
 refine⟨⟨by omega,fun i u e=>?_,fun i j u w ei ej ou ow es=>?_⟩,s.fr,fun i u a e o es=>?_,fun _ _=>rfl,s.dm,s.kp⟩
 ·obtain⟨h1,h2,e'⟩:=bk i u e
  rw [pin i h1 h2]
  exact s.rs.rep i u e'
 ·obtain⟨h1,h2,ei'⟩:=bk i u ei
  obtain⟨h3,h4,ej'⟩:=bk j w ej
  rw [pin i h1 h2,pin j h3 h4]at es
  exact s.rs.apart i j u w ei' ej' ou ow es
 ·obtain⟨h1,h2,e'⟩:=bk i u e
  rw [pin i h1 h2]at es
  exact s.ow i u a e' o es
theorem zgH:∀ {js:List Nat} {us:List (Option U)} {ρ:En} {j:Nat} {w:U},(back js us ρ)[j]?=some (some w)->(∃ p:Nat,js[p]?=some j/\us[p]?=some (some w))\/(ρ[j]?=some (some w)/\∀ p:Nat,js[p]?=some j->∀ x,us[p]?≠some (some x))
 | [],us,ρ,j,w,e=>.inr ⟨by cases us<;>exact e,fun p z=>by simp at z⟩
 | k::js,[],ρ,j,w,e=>.inr ⟨e,fun p z x=>by simp⟩
 | k::js,none::us,ρ,j,w,e=>by
  rcases zgH (js:=js) (us:=us) (ρ:=ρ) (show(back js us ρ)[j]?=some (some w) from e)with ⟨p,h1,h2⟩ | ⟨h1,h2⟩
  ·exact .inl ⟨p+1,h1,h2⟩
  ·refine .inr ⟨h1,fun p z x=>?_⟩
   cases p with
   | zero=>intro q; cases q
   | succ p=>exact h2 p z x
 | k::js,some u::us,ρ,j,w,e=>by
  rcases zgH (js:=js) (us:=us) (ρ:=ρ.set k (some u)) (show(back js us (ρ.set k (some u)))[j]?=some (some w) from e)with ⟨p,h1,h2⟩ | ⟨h1,h2⟩
  ·exact .inl ⟨p+1,h1,h2⟩
  ·by_cases hk:k=j
   ·subst hk
    have hl:k < (ρ.set k (some u)).length:=(qk.mp h1).1
    rw [List.length_set]at hl
    rw [List.getElem?_set_self hl]at h1
    exact .inl ⟨0,rfl,by cases h1; rfl⟩
   ·rw [qB hk]at h1
    refine .inr ⟨h1,fun p z x=>?_⟩
    cases p with
    | zero=>cases(show some k=some j from z); exact absurd rfl hk
    | succ p=>exact h2 p z x
theorem zfu:∀ (js:List Nat) (us:List (Option U)) (ρ:En),(back js us ρ).length=ρ.length
 | [],us,ρ=>by cases us<;>rfl
 | _::js,[],ρ=>rfl
 | _::js,none::us,ρ=>zfu js us ρ
 | j::js,some u::us,ρ=>by show(back js us (ρ.set j (some u))).length=_; rw [zfu]; exact List.length_set
theorem zem:∀ {js:List Nat} {us:List (Option U)} {ρ:En} {j:Nat} {w:U},ρ[j]?=some (some w)->∃ w',(back js us ρ)[j]?=some (some w')
 | [],us,ρ,j,w,e=>⟨w,by cases us<;>exact e⟩
 | _::js,[],ρ,j,w,e=>⟨w,e⟩
 | _::js,none::us,ρ,j,w,e=>zem (js:=js) (us:=us) e
 | k::js,some u::us,ρ,j,w,e=>by
  by_cases hk:k=j
  ·subst hk
   exact zem (js:=js) (us:=us) (w:=u) (List.getElem?_set_self (qk.mp e).1)
  ·exact zem (js:=js) (us:=us) (w:=w) (by rw [qB hk]; exact e)
theorem Sn.comp_back{nt:Nat}{js:List Nat}{ρ2:En}(r:Rs K ρ σ H)(s:Sn K (zd4 nt js.length) (c0 nt js σ) (zhP ρ σ js) H H₁ ρ2 (c0 nt js σ) H')(l:ρ2.length=nt+js.length)(sh:Shr (cEn nt js ρ) ρ2) :
  Go K ρ σ H (back js (ρ2.drop nt) ρ) H':=by
 have usAt:∀ (p:Nat) (w:U),(ρ2.drop nt)[p]?=some (some w)->ρ2[nt+p]?=some (some w):=fun p w e=>by rw [List.getElem?_drop]at e; exact e
 have kp:Kp H H':=by
  refine⟨fun b xs h=>s.fr b _ h fun⟨p,j,u,hj,hr,ou,es⟩=>?_,fun b ob u h=>s.fr b _ h fun⟨p,j,u,hj,hr,ou,es⟩=>?_⟩
  ·obtain⟨c,q,m⟩:=r.ow ⟨j,u,hr,ou,es⟩
   rw [h]at q; cases q; exact m
  ·obtain⟨c,q,m⟩:=r.ow ⟨j,u,hr,ou,es⟩
   rw [h]at q; cases q; exact m
 have orig:∀ (p j:Nat) (w:U),js[p]?=some j->(ρ2.drop nt)[p]?=some (some w)->w.own=true->∃ x,ρ[j]?=some (some x)/\x.own=true:=fun p j w hj e o=>by
  obtain⟨x,ex,ox⟩:=sh.own (nt+p) w (usAt p w e) o
  obtain⟨p',j',ep,hj',hr⟩:=zf5 ex
  have:p'=p:=by omega
  subst this
  rw [hj]at hj'
  cases hj'
  exact⟨x,hr,ox⟩
 have own:∀ (j:Nat) (w:U),(back js (ρ2.drop nt) ρ)[j]?=some (some w)->w.own=true->∃ x,ρ[j]?=some (some x)/\x.own=true:=fun j w e o=>by
  rcases zgH e with ⟨p,hj,hu⟩ | ⟨h1,_⟩
  ·exact orig p j w hj hu o
  ·exact⟨w,h1,o⟩
 refine⟨⟨by rw [zfu]; exact r.len,fun j w e=>?_,fun i j u w ei ej ou ow es=>?_⟩,fun a o h n=>s.fr a o h fun⟨p,j,u,hj,hr,ou,es⟩=>n ⟨j,u,hr,ou,es⟩,⟨zfu _ _ _,own,fun j w e=>zem e⟩,s.dm⟩
 ·rcases zgH e with ⟨p,hj,hu⟩ | ⟨h1,h2⟩
  ·obtain⟨v,ev,q⟩:=s.rs.rep (nt+p) w (usAt p w hu)
   rw [zpE hj]at ev
   refine⟨v,?_,q⟩
   rw [qA]at ev
   cases z:σ[j]? with
   | none=>rw [z]at ev; cases ev
   | some o=>rw [z]at ev; exact congrArg some (qw ev)
  ·obtain⟨v,ev,q⟩:=r.rep j w h1
   refine⟨v,ev,q.kp kp fun ow a c ea hc=>s.fr a c hc fun⟨p,j',u,hj,hr,ou,es⟩=>?_⟩
   subst ea
   have:j'=j:=r.apart j' j u w hr h1 ou ow (by rw [es,ev])
   subst this
   have e1:(cEn nt js ρ)[nt+p]?=some (some u):=by
    unfold cEn
    rw [List.getElem?_append_right (by simp),List.length_replicate,Nat.add_sub_cancel_left,List.getElem?_map,hj]
    show some (ρ.getD j' none)=_
    rw [qA,hr]
    rfl
   obtain⟨w',ew'⟩:=sh.live _ _ e1
   exact h2 p hj w' (by rw [List.getElem?_drop]; exact ew')
 ·obtain⟨x,ex,ox⟩:=own i u ei ou
  obtain⟨y,ey,oy⟩:=own j w ej ow
  exact r.apart i j x y ex ey ox oy es
theorem Shr.reset'{nt n:Nat}{ρc ρ1:En}(l:ρc.length=nt+n)(h0:∀ i,i < nt->ρc[i]?=some none)(l1:ρ1.length=nt+n)(own:∀ (i:Nat) (u:U),nt<=i->ρ1[i]?=some (some u)->u.own=true->∃ w,ρc[i]?=some (some w)/\w.own=true)(live:∀ (i:Nat) (u:U),nt<=i->ρc[i]?=some (some u)->∃ w,ρ1[i]?=some (some w)):Shr ρc (L2.reset nt ρ1):=by
 have at':∀ i,nt<=i->(L2.reset nt ρ1)[i]?=ρ1[i]?:=fun i hi=>by
  unfold L2.reset
  rw [List.getElem?_append_right (by simp; omega),List.length_replicate,List.getElem?_drop,show nt+(i - nt)=i by omega]
 have lo:∀ i,i < nt->(L2.reset nt ρ1)[i]?=some none:=fun i hi=>by
  unfold L2.reset
  rw [List.getElem?_append_left (by simpa using hi),List.getElem?_replicate,if_pos hi]
 refine⟨by unfold L2.reset; simp; omega,fun i u e o=>?_,fun i u e=>?_⟩
 ·by_cases hi:i < nt
  ·rw [lo i hi]at e; cases e
  ·rw [at' i (by omega)]at e
   exact own i u (by omega) e o
 ·by_cases hi:i < nt
  ·rw [h0 i hi]at e; cases e
  ·rw [at' i (by omega)]
   exact live i u (by omega) e
theorem zfv{nt:Nat}{ρ1:En}{i:Nat}(h:i < nt):(L2.reset nt ρ1)[i]?=some none:=by
 unfold L2.reset
 rw [List.getElem?_append_left (by simpa using h),List.getElem?_replicate,if_pos h]
theorem zpF{nt:Nat}{js:List Nat}{i:Nat}(h:i < nt):(cEn nt js ρ)[i]?=some none:=by
 unfold cEn
 rw [List.getElem?_append_left (by simpa using h),List.getElem?_replicate,if_pos h]
theorem zlv{wi:TI}{nt:Nat}{js:List Nat}{g:TG}{tt:TT}{te:TE}{mi:MI}{mg:MG}{mt:MT}{me:ME}(nd:js.Nodup)(hi:VI K wi mi)(hg:VGt K (zd4 nt js.length) g mg)(ht:VT K tt mt)(he:VE K te me) :
  VE K (tLC wi nt js g tt te) (mLC mi nt js mg mt me):=by
 intro ρ σ H a ρ' Q r e q
 obtain⟨⟨ds,ρ1⟩,e1,e⟩:=zb e
 obtain⟨⟨zs,ρz⟩,e2,e⟩:=zb e
 cases e
 refine hi ρ σ H ds ρ1 _ r e1 fun J H1 g1 run=>?_
 have s1:=zmu (nt:=nt) (js:=js) g1.rs nd
 refine⟨fun i m ys H'=>m=ds.length - i/\i<=ds.length/\∃ ρc yd,Sn K (zd4 nt js.length) (c0 nt js σ) (zhP ρ1 σ js) H1 H1 ρc (c0 nt js σ) H'/\Shr (cEn nt js ρ1) ρc/\(∀ k,k < nt->ρc[k]?=some none)/\DFs K H' ys yd/\lcM nt mg mt me (ds.drop i) ρc yd=some (zs,ρz),
  ⟨ds.length,by simp,Nat.zero_le _,_,[],s1,Shr.refl _,fun k hk=>zpF hk,.nil,e2⟩,?_⟩
 rintro i m ys H' ⟨rfl,hi',ρc,yd,s',sh,lo,dy,el⟩
 have lc:ρc.length=nt+js.length:=by rw [sh.len,zi3]
 by_cases hlt:i < ds.length
 ·rw [List.drop_eq_getElem_cons hlt]at el
  unfold lcM at el
  split at el
  ·rename_i hz
   obtain⟨ρ2,e3,el⟩:=zb el
   obtain⟨⟨b,ρ3⟩,e4,el⟩:=zb el
   obtain⟨l2,p2⟩:=hg.ok _ _ _ e3
   obtain⟨go,yl⟩:=(run H' s'.kp i).1 ds[i] (ql hlt)
   refine .inr ⟨go,by rw [dy.len]; exact hz,fun ys' H2=>∃ ρc' yd',Sn K (zd4 nt js.length) (c0 nt js σ) (zhP ρ1 σ js) H1 H1 ρc' (c0 nt js σ) H2/\Shr (cEn nt js ρ1) ρc'/\(∀ k,k < nt->ρc'[k]?=some none)/\DFs K H2 ys' yd'/\lcM nt mg mt me (ds.drop (i+1)) ρc' yd'=some (zs,ρz),
    fun ys' H2 ⟨ρc',yd',z⟩=>⟨ds.length - (i+1),by omega,rfl,hlt,ρc',yd',z⟩,fun x H2 y=>?_⟩
   obtain⟨sm,dx⟩:=yl x H2 y
   have s2:=s'.go (Go.grow s'.rs sm)
   refine hg.run _ _ _ _ ρc _ H2 x ds[i] ρ2 _ s2 dx e3 fun σ3 s3=>?_
   have toEnd:∀ {ρ4:En} {H4:Hp},Go K ρ2 σ3 H2 ρ4 H4->Sn K (zd4 nt js.length) (c0 nt js σ) (zhP ρ1 σ js) H1 H1 (L2.reset nt ρ4) (c0 nt js σ) H4/\Shr (cEn nt js ρ1) (L2.reset nt ρ4):=fun{ρ4 H4} g4=>by
    have l4:ρ4.length=nt+js.length:=by rw [g4.shr.len,l2,lc]
    refine⟨(s3.go g4).reset l4 zlu,sh.trans (Shr.reset' lc lo l4 (fun k u hk ek ou=>?_) fun k u hk ek=>?_)⟩
    ·obtain⟨w,ew,ow⟩:=g4.shr.own k u ek ou
     have lk:k < nt+js.length:=by rw [<-l2.trans lc]; exact(qk.mp ew).1
     rw [p2 k (zc8.mpr ⟨hk,lk⟩)]at ew
     exact⟨w,ew,ow⟩
    ·have lk:k < nt+js.length:=by rw [<-lc]; exact(qk.mp ek).1
     rw [<-p2 k (zc8.mpr ⟨hk,lk⟩)]at ek
     exact g4.shr.live k u ek
   refine ht ρ2 σ3 H2 b ρ3 _ s3.rs e4 fun H3 g3=>?_
   dsimp only at el
   split at el
   ·rename_i hb
    rw [if_pos hb]
    obtain⟨⟨a4,ρ4⟩,e5,el⟩:=zb el
    obtain⟨u,e6,el⟩:=zb el
    refine he ρ3 σ3 H3 a4 ρ4 _ g3.rs e5 fun v H4 g4 k4=>?_
    have pv:=k4.now g3.rs g4 e6
    dsimp only at el
    split at el
    ·rename_i yv
     obtain⟨sn,sr⟩:=toEnd (g3.trans g4)
     exact⟨_,_,sn,sr,fun k hk=>zfv hk,((dy.kp sm.kp).kp ((g3.trans g4).kp s3.rs)).snoc pv,el⟩
    ·cases el
   ·rename_i hb
    rw [if_neg hb]
    obtain⟨sn,sr⟩:=toEnd g3
    exact⟨_,_,sn,sr,fun k hk=>zfv hk,(dy.kp sm.kp).kp (g3.kp s3.rs),el⟩
  ·cases el
 ·have ei:i=ds.length:=by omega
  subst ei
  rw [List.drop_length]at el
  cases el
  refine .inl ⟨(run H' s'.kp _).2 rfl,fun Da hD=>?_⟩
  have gb:=Sn.comp_back g1.rs s' lc sh
  have sm:=zP hD (.lst ys)
  exact q _ _ ((g1.trans gb).trans (Go.grow gb.rs sm)) ⟨⟨Da,ys,rfl,zx,dy.kp sm.kp⟩,fun _=>⟨Da,rfl,(g1.trans gb).dm _ hD⟩⟩
end
section
variable {EX:EXT} {K:qc} {pn:List Nat} {σ₀:St} {A:Addr->Prop} {H₀ H₁ H₂:Hp} {ρ ρ':En} {σ:St} {H H':Hp}
def zbE(pn:List Nat)(ρ:En):Nat->List U->Option (List U)
 | _,[]=>some []
 | i,u::us=>(if i∈pn then(ρ[i]?).join.bind fun o=>if o.own=true/\u.own=false then none else some o else if u.own=true then none else some u).bind fun o=>(zbE pn ρ (i+1) us).bind fun os=>some (o::os)
def zbZ(n:Nat)(pn:List Nat)(m:MS):FD:=fun us=>(m (sm us++List.replicate (n - us.length) none)).bind fun f=>match f with
 | .rt u ρ=>(zbE pn ρ 0 us).bind fun os=>some (u,os)
 | .nx ρ=>(zbE pn ρ 0 us).bind fun os=>some (.d .none,os)
 | _=>none
theorem zjY:∀ {us os:List U} {i:Nat},zbE pn ρ i us=some os->os.length=us.length
 | [],os,i,e=>by cases e; rfl
 | u::us,os,i,e=>by
  obtain⟨o,e1,e⟩:=zb e
  obtain⟨os',e2,e⟩:=zb e
  cases e
  simp [zjY e2]
theorem zfw:∀ {us os:List U} {i p:Nat} {o:U},zbE pn ρ i us=some os->os[p]?=some o->∃ u,us[p]?=some u/\((i+p∈pn/\ρ[i+p]?=some (some o)/\(o.own=true->u.own=true))\/(i+p∉pn/\o=u/\u.own=false))
 | [],os,i,p,o,e,ep=>by cases e; simp at ep
 | u::us,os,i,p,o,e,ep=>by
  obtain⟨o1,e1,e⟩:=zb e
  obtain⟨os',e2,e⟩:=zb e
  cases e
  cases p with
  | zero =>
   cases(show some o1=some o from ep)
   refine⟨u,rfl,?_⟩
   rw [Nat.add_zero]
   split at e1
   ·rename_i hi
    obtain⟨o2,e3,e1⟩:=zb e1
    split at e1
    ·cases e1
    ·rename_i hc
     cases e1
     refine .inl ⟨hi,?_,fun oo=>?_⟩
     ·cases q:ρ[i]? with
      | none=>rw [q]at e3; cases e3
      | some x=>rw [q]at e3; cases x with
       | none=>cases e3
       | some y=>cases e3; rfl
     ·cases hu:u.own with
      | true=>rfl
      | false=>exact absurd ⟨oo,hu⟩ hc
   ·rename_i hi
    split at e1
    ·cases e1
    ·rename_i hc
     cases e1
     exact .inr ⟨hi,rfl,by simpa using hc⟩
  | succ p =>
   obtain⟨u',eu,h⟩:=zfw (i:=i+1) (p:=p) e2 ep
   refine⟨u',eu,?_⟩
   rw [show i+(p+1)=i+1+p by omega]
   exact h
theorem zjZ:∀ {us os:List U} {i p:Nat} {u:U},zbE pn ρ i us=some os->us[p]?=some u->u.own=true->i+p∈pn
 | [],os,i,p,u,e,ep,_=>by simp at ep
 | u::us,os,i,p,u',e,ep,o=>by
  obtain⟨o1,e1,e⟩:=zb e
  obtain⟨os',e2,e⟩:=zb e
  cases p with
  | zero =>
   cases(show some u=some u' from ep)
   rw [Nat.add_zero]
   split at e1
   ·assumption
   ·first | cases e1 | (rw [if_pos o]at e1; cases e1)
  | succ p =>
   rw [show i+(p+1)=i+1+p by omega]
   exact zjZ (i:=i+1) (p:=p) e2 ep o
theorem zd5{N:List Str}{vs:List V}{i:Nat}(h:i < vs.length):(zck N vs)[i]?=(smV vs)[i]?:=by
 unfold zck smV
 rw [List.getElem?_append_left (by simpa using h)]
theorem zpG{N:List Str}{us os:List U}{vs:List V}{ρx:En}(r:Rs K (sm us) (smV vs) H)(hl:us.length<=N.length)(ho:zbE pn ρx 0 us=some os) :
  Sn K pn (zck N vs) (Ow (sm us) (smV vs)) H H (sm us++List.replicate (N.length - us.length) none) (zck N vs) H:=by
 have lv:us.length=vs.length:=by have:=r.len; unfold sm smV at this; simpa using this
 have inv:∀ (i:Nat) (u:U),(sm us++List.replicate (N.length - us.length) none)[i]?=some (some u)->i < us.length/\(sm us)[i]?=some (some u):=fun i u e=>by
  by_cases hi:i < us.length
  ·rw [List.getElem?_append_left (by unfold sm; simpa using hi)]at e
   exact⟨hi,e⟩
  ·rw [List.getElem?_append_right (by unfold sm; simp; omega),List.getElem?_replicate]at e
   split at e<;>cases e
 refine⟨⟨?_,fun i u e=>?_,fun i j u w ei ej ou ow es=>?_⟩,fun _ _ h _=>h,fun i u a e o es=>?_,fun _ _=>rfl,fun _ h=>h,Kp.refl H⟩
 ·unfold zck sm; simp; omega
 ·obtain⟨hi,e'⟩:=inv i u e
  rw [zd5 (by omega)]
  exact r.rep i u e'
 ·obtain⟨hi,ei'⟩:=inv i u ei
  obtain⟨hj,ej'⟩:=inv j w ej
  rw [zd5 (by omega),zd5 (by omega)]at es
  exact r.apart i j u w ei' ej' ou ow es
 ·obtain⟨hi,e'⟩:=inv i u e
  rw [zd5 (by omega)]at es
  have:=zjZ ho (zcc.mp e') o
  rw [Nat.zero_add]at this
  exact .inl ⟨this,i,u,e',o,es⟩
theorem zpH{N:List Str}{us os:List U}{vs:List V}{σ':St}(r:Rs K (sm us) (smV vs) H)(s:Sn K pn (zck N vs) (Ow (sm us) (smV vs)) H H ρ' σ' H')(ho:zbE pn ρ' 0 us=some os):Go K (sm us) (smV vs) H (sm os) H':=by
 have lv:us.length=vs.length:=by have:=r.len; unfold sm smV at this; simpa using this
 have lo:=zjY ho
 have bnd:∀ {p:Nat} {o:U},os[p]?=some o->p < vs.length:=fun{p o} e=>by have:=(qk.mp e).1; omega
 have pin:∀ {p:Nat} {o:U},os[p]?=some o->p∈pn->σ'[p]?=(smV vs)[p]?:=fun{p o} e hp=>by rw [s.pin p hp,zd5 (bnd e)]
 refine⟨⟨by unfold sm smV; simp; omega,fun p o e=>?_,fun p q o o' ep eq oo oo' es=>?_⟩,s.fr,⟨by unfold sm; simp; omega,fun p o e oo=>?_,fun p u e=>?_⟩,s.dm⟩
 ·have e':=zcc.mp e
  obtain⟨u,eu,h⟩:=zfw ho e'
  rw [Nat.zero_add]at h
  rcases h with ⟨hp,hr,_⟩ | ⟨_,rfl,ou⟩
  ·obtain⟨v,ev,q⟩:=s.rs.rep p o hr
   rw [pin e' hp]at ev
   exact⟨v,ev,q⟩
  ·obtain⟨v,ev,q⟩:=r.rep p o (zcc.mpr eu)
   exact⟨v,ev,q.kp s.kp fun oo=>by rw [ou]at oo; cases oo⟩
 ·have ep':=zcc.mp ep
  have eq':=zcc.mp eq
  obtain⟨u,eu,h⟩:=zfw ho ep'
  obtain⟨u',eu',h'⟩:=zfw ho eq'
  rw [Nat.zero_add]at h h'
  rcases h with ⟨hp,hr,_⟩ | ⟨_,rfl,ou⟩
  ·rcases h' with ⟨hq,hr',_⟩ | ⟨_,rfl,ou'⟩
   ·rw [<-pin ep' hp,<-pin eq' hq]at es
    exact s.rs.apart p q o o' hr hr' oo oo' es
   ·rw [ou']at oo'; cases oo'
  ·rw [ou]at oo; cases oo
 ·have e':=zcc.mp e
  obtain⟨u,eu,h⟩:=zfw ho e'
  rcases h with ⟨_,_,h⟩ | ⟨_,rfl,ou⟩
  ·exact⟨u,zcc.mpr eu,h oo⟩
  ·rw [ou]at oo; cases oo
 ·have e':=zcc.mp e
  have hp:p < os.length:=by have:=(qk.mp e').1; omega
  exact⟨os[p],zcc.mpr (ql hp)⟩
theorem Fun.okV{P:Program}{w:World}{mg:Str->Option Value}{base:Heap}{x qual:Str}{st:Stmt}{f:Addr}{fd:FuncData}{N ps:List Str}{k n nn:Nat}{m:MS}(F:Fun K x qual st f fd)(S:FnScope N ps (zn st))(hps:ps.length=n)(hN:N.length=nn)(hnn:n<=nn)
  (hbody:∀ (cdv:Value) (A:Around) (outer:List Env) (s:Shared) (H:Hp) (E:XK),Room k (A.deeper (envOfC qual (zn st) s.heap.objs.size f cdv)) ->
   ∃ t,Wr (PSs (zjF CX0 P w K mg base N qual (zn st) f cdv A outer s H E).nox (zI st) t)/\VS K pn EX0 t m):FnOk P w K mg base CX0 (k+1) f fd ps (spV K n (zbZ nn pn m)):=by
 refine F.okW S (fun vs H Q E h=>?_) (fun cdv A outer s H vs Q E hr h=>?_)
 ·obtain⟨us,r,outs,hl,rs,_⟩:=h
  have:=rs.len
  unfold sm smV at this
  simp at this
  omega
 obtain⟨us,r,outs,hl,rs,ef,q⟩:=h
 obtain⟨t,wt,vt⟩:=hbody cdv A outer s H E hr
 refine⟨t,wt,?_⟩
 obtain⟨fl,em,ef⟩:=zb ef
 have go:∀ (ρ':En),zbE pn ρ' 0 us=some outs->Sn K pn (zck N vs) (Ow (sm us) (smV vs)) H H (sm us++List.replicate (N.length - us.length) none) (zck N vs) H:=fun ρ' ho=>zpG rs (by omega) ho
 subst hN
 cases fl with
 | nx ρ' =>
  obtain⟨os,eo,ef⟩:=zb (show(zbE pn ρ' 0 us).bind _=_ from ef)
  cases ef
  refine vt _ _ _ _ _ _ _ (.nx ρ') _ (go ρ' eo) em fun σ' H' s'=>?_
  exact q _ _ (zpH rs s' eo) .non Nw.data
 | rt u ρ' =>
  obtain⟨os,eo,ef⟩:=zb (show(zbE pn ρ' 0 us).bind _=_ from ef)
  cases ef
  refine vt _ _ _ _ _ _ _ (.rt r ρ') _ (go ρ' eo) em fun v σ' H' s' p n'=>?_
  exact q _ _ (zpH rs s' eo) p n'
 | bk=>cases ef
 | ct=>cases ef
 | ex=>cases ef
end
section
variable {EX:EXT} {K:qc} {pn:List Nat} {ρ ρ':En} {σ:St} {H H':Hp}
def zhQ(i:Nat)(me:ME):ME:=fun ρ=>match ρ[i]? with
 | some (some (.l _))=>(me ρ).bind fun p=>(p.1.get p.2).bind fun u=>match u,p.2[i]? with
  | .d x,some (some (.l xs))=>if xs.length < sizeLine then some (.u (.d .none),p.2.set i (some (.l (xs++[x]))))else none
  | _,_=>none
 | _=>none
theorem zj0{i:Nat}{te:TE}{me:ME}(h:VE K te me):VE K (tBM K "list" zmg (zfg i) (zfi te zk5)) (zhQ i me):=by
 intro ρ σ H a ρ' Q r e q
 unfold zhQ at e
 split at e
 ·rename_i xs0 e0
  obtain⟨⟨b,ρ1⟩,e1,e⟩:=zb e
  obtain⟨u,eu,e⟩:=zb e
  obtain⟨v0,ev0,p0⟩:=r.rep i _ e0
  obtain⟨l,us0,rfl,hl0,_⟩:=p0
  refine⟨_,ev0,.inl ⟨rfl,us0,SqL.of hl0⟩,?_⟩
  refine h ρ σ H b ρ1 _ r e1 fun v H1 g1 k1=>?_
  have pv:=k1.now r g1 eu
  dsimp only at e
  split at e
  ·rename_i x xs ex
   split at e
   ·rename_i hz
    cases e
    obtain⟨w,ew,p1⟩:=g1.rs.rep i _ ex
    obtain⟨l',us,rfl,hl,ds⟩:=p1
    rw [ev0]at ew
    cases ew
    refine⟨l,us,v,rfl,rfl,hl,by rw [ds.len]; exact hz,q _ _ (g1.trans (Go.own (u':=.l (xs++[x])) g1.rs ex rfl ev0 ?_)) ⟨.non,Nw.data⟩⟩
    have kp:=zcG hl trivial (.lst (us++[v]))
    exact⟨l,_,rfl,zx,(ds.kp kp).snoc (DF.kp kp pv)⟩
   ·cases e
  ·cases e
 ·cases e
theorem zio{o:Option (Option U)}{u:U}(e:o.join=some u):o=some (some u):=by
 cases o with
 | none=>cases e
 | some x=>cases x with
  | none=>cases e
  | some y=>cases e; rfl
def zeZ(i:Nat)(me mi:ME):MS:=fun ρ=>(ρ[i]?).join.bind fun _=>(me ρ).bind fun p=>(mi p.2).bind fun q=>(p.1.get q.2).bind fun u=>(q.1.get q.2).bind fun w=>match u,w,q.2[i]? with
 | .d x,.d (.int k),some (some (.l xs))=>(ixN xs.length k).bind fun j=>some (.nx (q.2.set i (some (.l (xs.set j x)))))
 | _,_,_=>none
theorem zi4{i:Nat}{te ti:TE}{me mi:ME}(h:VE K te me)(hi:VE K ti mi):VS K pn EX (ziJ te (zu7 (zfg i) ti ztI)) (zeZ i me mi):=by
 intro σ₀ A H₀ H₁ ρ σ H f D s e k
 replace e:=zb e
 obtain⟨w0,e0,e⟩:=e
 replace e:=zb e
 obtain⟨⟨a,ρ1⟩,e1,e⟩:=e
 replace e:=zb e
 obtain⟨⟨b,ρ2⟩,e2,e⟩:=e
 replace e:=zb e
 obtain⟨u,eu,e⟩:=e
 replace e:=zb e
 obtain⟨w,ew,e⟩:=e
 obtain⟨v0,ev0,_⟩:=s.rs.rep i w0 (zio e0)
 refine h ρ σ H a ρ1 _ s.rs e1 fun v H1 g1 k1=>⟨v0,ev0,?_⟩
 refine hi ρ1 σ H1 b ρ2 _ g1.rs e2 fun y H2 g2 k2=>?_
 have pv:=k1.later s.rs g1 g2 eu
 have py:=k2.now g1.rs g2 ew
 dsimp only at e
 split at e
 ·rename_i x n xs ex
  replace e:=zb e
  obtain⟨j,ej,e⟩:=e
  cases e
  obtain⟨w',ew',p1⟩:=g2.rs.rep i _ ex
  obtain⟨l,us,rfl,hl,ds⟩:=p1
  rw [ev0]at ew'
  cases ew'
  refine⟨l,us,n,j,rfl,DF.int_inv py,hl,by rw [ds.len]; exact ej,k _ _ ((s.go (g1.trans g2)).go (Go.own (u':=.l (xs.set j x)) g2.rs ex rfl ev0 ?_))⟩
  have kp:=zcG hl trivial (.lst (us.set j v))
  exact⟨l,_,rfl,zx,(ds.kp kp).set (DF.kp kp pv) j⟩
 ·cases e
def zi5:List D->Option (List Key)
 | []=>some []
 | .int i::ds=>(zi5 ds).bind fun ks=>some (.inl i::ks)
 | .str x::ds=>(zi5 ds).bind fun ks=>some (.inr x::ks)
 | _::_=>none
def za2:D->Option (List Key)
 | .tuple ds=>zi5 ds
 | _=>none
def zlw:D->Option Key
 | .int i=>some (.inl i)
 | .str x=>some (.inr x)
 | _=>none
theorem zi6:∀ ks:List Key,zi5 (ks.map k1D)=some ks
 | []=>rfl
 | .inl i::ks=>by show(zi5 (ks.map k1D)).bind _=_; rw [zi6 ks]; rfl
 | .inr x::ks=>by show(zi5 (ks.map k1D)).bind _=_; rw [zi6 ks]; rfl
theorem zfx(ks:List Key):za2 (kTD ks)=some ks:=zi6 ks
theorem zlx:∀ {ds:List D} {ks:List Key} {xs:List V},DFs K H xs ds->zi5 ds=some ks->xs=ks.map kV
 | [],ks,xs,h,e=>by cases e; cases h; rfl
 | d::ds,ks,xs,h,e=>by
  cases h with
  | cons h1 t =>
   cases d with
   | int i =>
    obtain⟨ks',e1,e⟩:=zb (show(zi5 ds).bind (fun ks=>some (Sum.inl i::ks))=some ks from e)
    cases e
    rw [zlx t e1,DF.int_inv h1]
    rfl
   | str x =>
    obtain⟨ks',e1,e⟩:=zb (show(zi5 ds).bind (fun ks=>some (Sum.inr x::ks))=some ks from e)
    cases e
    rw [zlx t e1,DF.str_inv h1]
    rfl
   | _=>cases e
theorem zfy{d:D}{ks:List Key}{v:V}(h:DF K H v d)(e:za2 d=some ks):∃ b,v=.ref b/\TpK K H b (ks.map kV):=by
 cases d with
 | tuple ds =>
  obtain⟨b,xs,rfl,h1,h2⟩:=DF.tup_inv h
  exact⟨b,rfl,by rw [<-zlx h2 e]; exact h1⟩
 | _=>cases e
theorem zpI{d:D}{k:Key}{v:V}(h:DF K H v d)(e:zlw d=some k):v=kV k:=by
 cases d with
 | int i=>cases e; exact DF.int_inv h
 | str x=>cases e; exact DF.str_inv h
 | _=>cases e
theorem zgI:∀ {ks:List Key},DFs K H (ks.map kV) (ks.map k1D)
 | []=>.nil
 | .inl i::ks=>.cons (.int i) zgI
 | .inr x::ks=>.cons (.str x) zgI
section
variable {κ:Type} [DecidableEq κ]
def zly(kvs:List (κ×D))(k:κ):Option D:=(kvs.find? fun kv=>decide (kv.1=k)).map (·.2)
def zf6(kvs:List (κ×D))(k:κ)(d:D):List (κ×D):=if(kvs.any fun kv=>decide (kv.1=k))=true then kvs.map (fun kv=>if kv.1=k then(kv.1,d)else kv)else kvs++[(k,d)]
theorem KVd.val{ws:List (κ×V)}{kvs:List (κ×D)}(h:KVd K H ws kvs)(k:κ):(∃ v d,zer ws k=some v/\zly kvs k=some d/\DF K H v d)\/(zer ws k=none/\zly kvs k=none):=by
 induction h with
 | nil=>exact .inr ⟨rfl,rfl⟩
 | @cons p q ps qs hq t ih =>
  unfold zer zly at ih ⊢
  rw [List.find?_cons,List.find?_cons]
  by_cases hk:p.1=k
  ·have hk':q.1=k:=hq.1▸hk
   rw [decide_eq_true hk,decide_eq_true hk']
   exact .inl ⟨_,_,rfl,rfl,hq.2⟩
  ·have hk':¬q.1=k:=fun z=>hk (hq.1.trans z)
   rw [decide_eq_false hk,decide_eq_false hk']
   exact ih
theorem KVd.any{ws:List (κ×V)}{kvs:List (κ×D)}(h:KVd K H ws kvs)(k:κ):(ws.any fun kv=>decide (kv.1=k))=(kvs.any fun kv=>decide (kv.1=k)):=by
 induction h with
 | nil=>rfl
 | @cons p q ps qs hq t ih=>rw [List.any_cons,List.any_cons,ih,hq.1]
theorem KVd.repl{ws:List (κ×V)}{kvs:List (κ×D)}(h:KVd K H ws kvs)(k:κ){v:V}{d:D}(hd:DF K H v d):KVd K H (ws.map fun kv=>if kv.1=k then(kv.1,v)else kv) (kvs.map fun kv=>if kv.1=k then(kv.1,d)else kv):=by
 induction h with
 | nil=>exact .nil
 | @cons p q ps qs hq t ih =>
  refine .cons ?_ ih
  dsimp only
  by_cases hk:p.1=k
  ·have hk':q.1=k:=hq.1▸hk
   rw [if_pos hk,if_pos hk']
   exact⟨hq.1,hd⟩
  ·have hk':¬q.1=k:=fun z=>hk (hq.1.trans z)
   rw [if_neg hk,if_neg hk']
   exact hq
theorem KVd.put{ws:List (κ×V)}{kvs:List (κ×D)}(h:KVd K H ws kvs)(k:κ){v:V}{d:D}(hd:DF K H v d):KVd K H (zc4 ws k v) (zf6 kvs k d):=by
 unfold zc4 zf6
 rw [h.any k]
 split
 ·exact h.repl k hd
 ·exact Paired.snoc h ⟨rfl,hd⟩
theorem KVd.len{ws:List (κ×V)}{kvs:List (κ×D)}(h:KVd K H ws kvs):ws.length=kvs.length:=Paired.length h
end
def ziq(kvs:List (D×D))(k:List Key):Option D:=(kvs.find? fun kv=>decide (za2 kv.1=some k)).map (·.2)
theorem DFt.val{ws:List (List Key×V)}{kvs:List (D×D)}(h:DFt K H ws kvs)(k:List Key):(∃ v d,zer ws k=some v/\ziq kvs k=some d/\DF K H v d)\/(zer ws k=none/\ziq kvs k=none):=by
 induction ws generalizing kvs with
 | nil=>cases h; exact .inr ⟨rfl,rfl⟩
 | cons p ws ih =>
  cases h with
  | @cons k' v d _ ds hv t =>
   unfold zer ziq at ih ⊢
   rw [List.find?_cons,List.find?_cons]
   by_cases hk:k'=k
   ·have hk':za2 (kTD k')=some k:=by rw [zfx,hk]
    rw [decide_eq_true hk,decide_eq_true hk']
    exact .inl ⟨_,_,rfl,rfl,hv⟩
   ·have hk':¬za2 (kTD k')=some k:=by rw [zfx]; exact fun z=>hk (qw z)
    rw [decide_eq_false hk,decide_eq_false hk']
    exact ih t
def zhR(u y:U):Option (Option D):=match u,y with
 | .t kvs,.d y=>(za2 y).map fun k=>zly kvs k
 | .k kvs,.d y=>(zlw y).map fun k=>zly kvs k
 | .d (.dict kvs),.d y=>if noX kvs=true then(za2 y).map fun k=>ziq kvs k else none
 | _,_=>none
theorem zmv{u y:U}{o:Option D}{x v:V}(hu:Rp K H x u)(hy:Rp K H v y)(e:zhR u y=some o):∃ a,x=.ref a/\((∃ w d,o=some d/\zla K H a v (some w)/\DF K H w d)\/(o=none/\zla K H a v none)):=by
 unfold zhR at e
 split at e
 ·rename_i kvs y
  obtain⟨k,ek,rfl⟩:=qq.mp e
  obtain⟨a,ws,rfl,h1,h2⟩:=hu
  obtain⟨b,rfl,hb⟩:=zfy hy ek
  refine⟨a,rfl,?_⟩
  rcases h2.val k with ⟨w,d,e1,e2,p⟩ | ⟨e1,e2⟩
  ·exact .inl ⟨w,d,e2,.inr ⟨ws,k,b,.inl h1,rfl,hb,e1.symm⟩,p⟩
  ·exact .inr ⟨e2,.inr ⟨ws,k,b,.inl h1,rfl,hb,e1.symm⟩⟩
 ·rename_i kvs y
  obtain⟨k,ek,rfl⟩:=qq.mp e
  obtain⟨a,ws,rfl,h1,h2⟩:=hu
  cases zpI hy ek
  refine⟨a,rfl,?_⟩
  rcases h2.val k with ⟨w,d,e1,e2,p⟩ | ⟨e1,e2⟩
  ·exact .inl ⟨w,d,e2,.inl ⟨ws,k,.inl h1,rfl,e1.symm⟩,p⟩
  ·exact .inr ⟨e2,.inl ⟨ws,k,.inl h1,rfl,e1.symm⟩⟩
 ·rename_i kvs y
  split at e
  rotate_left
  ·cases e
  rename_i nx
  obtain⟨k,ek,rfl⟩:=qq.mp e
  obtain⟨a,ob,ws,rfl,h1,h2⟩:=DF.dct_inv hu nx
  obtain⟨b,rfl,hb⟩:=zfy hy ek
  refine⟨a,rfl,?_⟩
  rcases h2.val k with ⟨w,d,e1,e2,p⟩ | ⟨e1,e2⟩
  ·exact .inl ⟨w,d,e2,.inr ⟨ws,k,b,.inr ⟨ob,h1⟩,rfl,hb,e1.symm⟩,p⟩
  ·exact .inr ⟨e2,.inr ⟨ws,k,b,.inr ⟨ob,h1⟩,rfl,hb,e1.symm⟩⟩
 ·cases e
def zc9(md my:ME):ME:=fun ρ=>(md ρ).bind fun p=>(my p.2).bind fun q=>(p.1.get q.2).bind fun u=>(q.1.get q.2).bind fun y=>(zhR u y).bind fun o=>o.bind fun d=>some (.u (.d d),q.2)
theorem zdN{td ty:TE}{md my:ME}(hd:VE K td md)(hy:VE K ty my):VE K (zo3 K td ty) (zc9 md my):=by
 intro ρ σ H a ρ' Q r e q
 obtain⟨⟨a1,ρ1⟩,e1,e⟩:=zb e
 obtain⟨⟨b1,ρ2⟩,e2,e⟩:=zb e
 obtain⟨u,eu,e⟩:=zb e
 obtain⟨y,ey,e⟩:=zb e
 obtain⟨o,eo,e⟩:=zb e
 obtain⟨d,ed,e⟩:=zb e
 cases e
 refine hd ρ σ H a1 ρ1 _ r e1 fun v1 H1 g1 k1=>hy ρ1 σ H1 b1 _ _ g1.rs e2 fun v2 H2 g2 k2=>?_
 obtain⟨b,rfl,h⟩:=zmv (k1.later r g1 g2 eu) (k2.now g1.rs g2 ey) eo
 rcases h with ⟨w,d',rfl,g,p⟩ | ⟨rfl,_⟩
 ·cases ed
  exact⟨b,w,rfl,g,q w H2 (g1.trans g2) ⟨p,Nw.data⟩⟩
 ·cases ed
def zcX:ME:=fun ρ=>some (.u (.t []),ρ)
theorem zda:VE K zlb zcX:=by
 intro ρ σ H a ρ' Q r e q
 cases e
 intro p hp
 have sm:=zP hp (.dT [])
 exact q _ _ (Go.grow r sm) ⟨⟨p,[],rfl,zx,.nil⟩,fun _=>⟨p,rfl,hp⟩⟩
def zdT(i:Nat)(my mv:ME):MS:=fun ρ=>(ρ[i]?).join.bind fun _=>(mv ρ).bind fun p=>(my p.2).bind fun q=>(p.1.get q.2).bind fun x=>(q.1.get q.2).bind fun y=>match x,y,q.2[i]? with
 | .d x,.d y,some (some (.t kvs))=>(za2 y).bind fun k=>if kvs.length < sizeLine then some (.nx (q.2.set i (some (.t (zf6 kvs k x)))))else none
 | .d x,.d y,some (some (.k kvs))=>(zlw y).bind fun k=>if kvs.length < sizeLine then some (.nx (q.2.set i (some (.k (zf6 kvs k x)))))else none
 | _,_,_=>none
theorem ze0{i:Nat}{ty tv:TE}{my mv:ME}(hy:VE K ty my)(hv:VE K tv mv):VS K pn EX (zo4 K (zfg i) ty tv) (zdT i my mv):=by
 intro σ₀ A H₀ H₁ ρ σ H f D s e k
 replace e:=zb e
 obtain⟨w0,e0,e⟩:=e
 replace e:=zb e
 obtain⟨⟨a,ρ1⟩,e1,e⟩:=e
 replace e:=zb e
 obtain⟨⟨b,ρ2⟩,e2,e⟩:=e
 replace e:=zb e
 obtain⟨u,eu,e⟩:=e
 replace e:=zb e
 obtain⟨w,ew,e⟩:=e
 obtain⟨v0,ev0,_⟩:=s.rs.rep i w0 (zio e0)
 refine hv ρ σ H a ρ1 _ s.rs e1 fun v H1 g1 k1=>⟨v0,ev0,?_⟩
 refine hy ρ1 σ H1 b ρ2 _ g1.rs e2 fun y H2 g2 k2=>?_
 have pv:=k1.later s.rs g1 g2 eu
 have py:=k2.now g1.rs g2 ew
 dsimp only at e
 split at e
 ·rename_i x yd kvs ex
  replace e:=zb e
  obtain⟨ks,ek,e⟩:=e
  split at e
  ·rename_i hz
   cases e
   obtain⟨w',ew',p1⟩:=g2.rs.rep i _ ex
   obtain⟨l,us,rfl,hl,ds⟩:=p1
   rw [ev0]at ew'
   cases ew'
   obtain⟨kb,rfl,hkb⟩:=zfy py ek
   refine⟨l,_,rfl,zjJ.t hl hkb (by rw [ds.len]; exact hz),k _ _ ((s.go (g1.trans g2)).go (Go.own (u':=.t (zf6 kvs ks x)) g2.rs ex rfl ev0 ?_))⟩
   have kp:=zcG hl trivial (.dT (zc4 us ks v))
   exact⟨l,_,rfl,zx,(ds.kp kp).put ks (DF.kp kp pv)⟩
  ·cases e
 ·rename_i x yd kvs ex
  replace e:=zb e
  obtain⟨ks,ek,e⟩:=e
  split at e
  ·rename_i hz
   cases e
   obtain⟨w',ew',p1⟩:=g2.rs.rep i _ ex
   obtain⟨l,us,rfl,hl,ds⟩:=p1
   rw [ev0]at ew'
   cases ew'
   cases zpI py ek
   refine⟨l,_,rfl,zjJ.k hl (by rw [ds.len]; exact hz),k _ _ ((s.go (g1.trans g2)).go (Go.own (u':=.k (zf6 kvs ks x)) g2.rs ex rfl ev0 ?_))⟩
   have kp:=zcG hl trivial (.dK (zc4 us ks v))
   exact⟨l,_,rfl,zx,(ds.kp kp).put ks (DF.kp kp pv)⟩
  ·cases e
 ·cases e
def zfz:U->Option (List D)
 | .d (.dict kvs)=>if noX kvs=true then some (kvs.map (·.1))else none
 | _=>none
theorem zj1:∀ {ws:List (List Key×V)} {kvs:List (D×D)},DFt K H ws kvs->kvs.map (·.1)=ws.map fun p=>kTD p.1
 | [],_,.nil=>rfl
 | _::_,_,.cons _ t=>by rw [List.map_cons,List.map_cons,zj1 t]
theorem zen{te:TE}{me:ME}(h:VE K te me):VI K (zpp K te) (mIt zfz me):=by
 intro ρ σ H ds ρ' R r e q
 obtain⟨⟨a,ρ1⟩,e1,e⟩:=zb e
 obtain⟨u,eu,e⟩:=zb e
 obtain⟨xs,ex,e⟩:=zb e
 cases e
 refine h ρ σ H a _ _ r e1 fun v H1 g1 k1=>?_
 have p:=k1.now r g1 eu
 unfold zfz at ex
 split at ex
 ·split at ex
  rotate_left
  ·cases ex
  rename_i nx
  cases ex
  obtain⟨b,o,ws,rfl,h1,h2⟩:=DF.dct_inv p nx
  refine⟨b,ws,rfl,.inr ⟨o,h1,q _ _ g1 fun H2 k i=>?_⟩⟩
  rw [zj1 h2]
  have h1':=k.frz _ _ _ h1
  refine⟨fun d ed=>?_,fun ei=>?_⟩
  ·rw [List.getElem?_map]at ed
   obtain⟨⟨ks,w⟩,ew,rfl⟩:=qq.mp ed
   refine⟨⟨h1',(qk.mp ew).1⟩,fun x H' y=>?_⟩
   obtain⟨rfl,y⟩:=y
   obtain⟨kb,rfl,hkb⟩:=y ks w ew
   exact⟨fun _ _ z=>z,.tup hkb zgI⟩
  ·rw [List.length_map]at ei
   exact⟨h1',Nat.le_of_eq ei.symm⟩
 ·cases ex
end
section
variable {K:qc} {pn:List Nat} {ρ ρ':En} {σ:St} {H H':Hp}
abbrev MO:=En->Option (Option Int×En)
def zsH(K:qc)(t:TO)(m:MO):Prop :=
 ∀ (ρ:En) (σ:St) (H:Hp) (o:Option Int) (ρ':En) (Q:Option Int->Hp->Prop),Rs K ρ σ H->m ρ=some (o,ρ')->(∀ H',Go K ρ σ H ρ' H'->Q o H')->t σ H Q
def zdb:MO:=fun ρ=>some (none,ρ)
def zgo(me:ME):MO:=fun ρ=>(me ρ).bind fun p=>(p.1.get p.2).bind fun u=>match u with | .d (.int i)=>some (some i,p.2) | _=>none
theorem zfA:zsH K ziK zdb:=fun ρ σ H o ρ' Q r e q=>by cases e; exact q H (Go.refl r)
theorem zfB{te:TE}{me:ME}(h:VE K te me):zsH K (zoV te) (zgo me):=by
 intro ρ σ H o ρ' Q r e q
 replace e:=zb e
 obtain⟨⟨a,ρ1⟩,e1,e⟩:=e
 replace e:=zb e
 obtain⟨u,eu,e⟩:=e
 refine h ρ σ H a ρ1 _ r e1 fun v H1 g1 k1=>?_
 have p:=k1.now r g1 eu
 dsimp only at e
 split at e
 ·rename_i i
  cases e
  exact⟨i,DF.int_inv p,q _ g1⟩
 ·cases e
def zdU(xs:List D)(lo hi:Option Int):List D:=(xs.drop (HT.sIx xs.length 0 lo)).take (HT.sIx xs.length xs.length hi - HT.sIx xs.length 0 lo)
theorem DFs.cut{xs:List V}{ds:List D}(h:DFs K H xs ds)(lo hi:Option Int):DFs K H (zgt xs lo hi) (zdU ds lo hi):=by
 unfold zgt zdU
 rw [h.len]
 exact(h.drop _).take _
def VSl(K:qc)(r:V->Option Int->Option Int->Hp->VK->Prop)(f:U->Option Int->Option Int->Option U):Prop :=
 ∀ (x:V) (a u:U) (lo hi:Option Int) (H:Hp) (Q:VK),Rp K H x a->f a lo hi=some u->(∀ v H',zbf H H'->Rp K H' v u->Nw H v u->Q v H')->r x lo hi H Q
def mSl(f:U->Option Int->Option Int->Option U)(me:ME)(ml mh:MO):ME:=fun ρ=>(me ρ).bind fun p=>(ml p.2).bind fun l=>(mh l.2).bind fun h=>(p.1.get h.2).bind fun x=>(f x l.1 h.1).bind fun u=>some (.u u,h.2)
theorem zpJ{r:V->Option Int->Option Int->Hp->VK->Prop}{f:U->Option Int->Option Int->Option U}{te:TE}{tl th:TO}{me:ME}{ml mh:MO}(hs:VSl K r f)(he:VE K te me)(hl:zsH K tl ml)(hh:zsH K th mh):VE K (tSl r te tl th) (mSl f me ml mh):=by
 intro ρ σ H a ρ' Q rs e q
 obtain⟨⟨a1,ρ1⟩,e1,e⟩:=zb e
 obtain⟨⟨lo,ρ2⟩,e2,e⟩:=zb e
 obtain⟨⟨hi,ρ3⟩,e3,e⟩:=zb e
 obtain⟨x,ex,e⟩:=zb e
 obtain⟨u,eu,e⟩:=zb e
 cases e
 refine he ρ σ H a1 ρ1 _ rs e1 fun v1 H1 g1 k1=>hl ρ1 σ H1 lo ρ2 _ g1.rs e2 fun H2 g2=>hh ρ2 σ H2 hi _ _ g2.rs e3 fun H3 g3=>?_
 refine hs _ x u lo hi H3 _ (k1.later rs g1 (g2.trans g3) ex) eu fun v H4 s p n=>?_
 have g:=g1.trans (g2.trans g3)
 exact q v H4 (g.trans (Go.grow g.rs s)) ⟨p,n.mono g.dm⟩
def zn4(u:U)(lo hi:Option Int):Option U:=match u with
 | .l xs=>some (.l (zdU xs lo hi))
 | .d (.list xs)=>some (.l (zdU xs lo hi))
 | _=>none
theorem zi7:VSl K (zvA K) zn4:=by
 intro x a u lo hi H Q p e q
 unfold zn4 at e
 split at e
 ·cases e
  obtain⟨b,us,rfl,h1,h2⟩:=p
  refine⟨b,us,rfl,SqL.of h1,fun l hl=>?_⟩
  have sm:=zP hl (.lst (zgt us lo hi))
  exact q _ _ sm ⟨l,_,rfl,zx,(h2.cut lo hi).kp sm.kp⟩ fun _=>⟨l,rfl,hl⟩
 ·cases e
  obtain⟨b,us,rfl,h1,h2⟩:=DF.lst_inv p
  refine⟨b,us,rfl,h1.sq,fun l hl=>?_⟩
  have sm:=zP hl (.lst (zgt us lo hi))
  exact q _ _ sm ⟨l,_,rfl,zx,(h2.cut lo hi).kp sm.kp⟩ fun _=>⟨l,rfl,hl⟩
 ·cases e
def zxx(K:qc):V->Option Int->Option Int->Hp->VK->Prop:=fun x lo hi H Q=>∃ a xs,x=.ref a/\TpK K H a xs/\∀ p H',zbf H H'->TpK K H' p (zgt xs lo hi)->Q (.ref p) H'
theorem zxy{X:Cx}:SlR X (zxx X.K):=by
 intro pins s σ H x v vl vu lo hi sl Q I rx hs pl pu h
 obtain⟨a,xs,rfl,hx',q⟩:=h
 have hx:SqT X.K H a xs:=hx'.sq
 by_cases hw:HT.sIx xs.length 0 lo=0/\HT.sIx xs.length xs.length hi=xs.length
 ·cases rx
  obtain⟨its,r,ht,hz⟩:=I.tuple hx
  have hlen:its.toArray.size=xs.length:=by rw [List.size_toArray]; exact r.length.symm
  refine⟨"tuple",_,PyProof.Rows.slot_tuple_getitem.lookup,ht.typeIs,?_⟩
  refine HT.getItem_tuple_all ht hs pl pu (by rw [hlen]; exact hw) ⟨.ref a,H,I,rfl,q a H (zbf.refl _) ?_⟩
  unfold zgt
  rw [hw.1,hw.2]
  simpa using hx'
 ·exact zvw pins s σ H _ v vl vu lo hi sl Q I rx hs pl pu ⟨a,xs,rfl,hx,hw,fun p hp=>q p _ (zP hp _) (.inl zx)⟩
def zn5(u:U)(lo hi:Option Int):Option U:=match u with
 | .d (.tuple xs)=>some (.d (.tuple (zdU xs lo hi)))
 | _=>none
theorem zpK:VSl K (zxx K) zn5:=by
 intro x a u lo hi H Q p e q
 unfold zn5 at e
 split at e
 ·cases e
  obtain⟨b,us,rfl,h1,h2⟩:=DF.tup_inv p
  exact⟨b,us,rfl,h1,fun l H' sm hl=>q _ _ sm (.tup hl ((h2.cut lo hi).kp sm.kp)) Nw.data⟩
 ·cases e
def zj2:U->U->Option U
 | .d (.tuple xs),.d (.tuple ys)=>if xs≠[]/\xs.length+ys.length<=sizeLine then some (.d (.tuple (xs++ys)))else none
 | _,_=>none
theorem zsI:VO K (zoX K) zj2:=by
 intro x y a b u H Q ha hb e q
 unfold zj2 at e
 split at e
 ·split at e
  ·rename_i xs ys hc
   cases e
   obtain⟨p,us,rfl,h1,h2⟩:=DF.tup_inv ha
   obtain⟨p',us',rfl,h1',h2'⟩:=DF.tup_inv hb
   refine⟨p,p',us,us',rfl,rfl,(TpK.sq h1),(TpK.sq h1'),?_,by rw [h2.len,h2'.len]; exact hc.2,fun z=>?_,fun _ r hr=>?_⟩
   ·rintro rfl
    cases h2
    exact hc.1 rfl
   ·subst z
    cases h2'
    exact q _ _ (fun _ _ z=>z) (by rw [List.append_nil]; exact .tup h1 h2) Nw.data
   ·have s:=zP hr (.tup (us++us'))
    exact q _ _ s (.tup (.inl zx) ((h2.app h2').kp s.kp)) Nw.data
  ·cases e
 ·cases e
def zxz:List Int->Int->Int
 | [],d=>d
 | n::ns,_=>ns.foldl (fun a b=>if a < b then b else a) n
def zyX:List U->List U->Option U
 | [u],[.d (.int d)]=>u.items.bind fun xs=>(zfr xs).map fun ns=>.d (.int (zxz ns d))
 | _,_=>none
theorem zgp{α:Type}{r:α->α->Prop}(as:∀ a b,r a b->¬r b a):∀ {L M:List α},L.Perm M->L.Pairwise r->M.Pairwise r->L=M
 | [],M,p,_,_=>(List.nil_perm.mp p).symm▸rfl
 | a::L,[],p,_,_=>by have:=p.length_eq; simp at this
 | a::L,b::M,p,h1,h2=>by
  obtain⟨a1,a2⟩:=List.pairwise_cons.mp h1
  obtain⟨b1,b2⟩:=List.pairwise_cons.mp h2
  have e:a=b:=by
   rcases qu.mp (p.mem_iff.mp (qo (a:=a) (l:=L)))with z | z
   ·exact z
   ·rcases qu.mp (p.mem_iff.mpr (qo (a:=b) (l:=M)))with y | y
    ·exact y.symm
    ·exact absurd (b1 a z) (as a b (a1 b y))
  subst e
  rw [zgp as p.cons_inv a2 b2]
def pk:D->Option (List Int)
 | .tuple [.tuple ks,_]=>zfr ks
 | _=>none
def pks:List D->Option (List (List Int))
 | []=>some []
 | d::ds=>(pk d).bind fun k=>(pks ds).bind fun ks=>some (k::ks)
def LtP(a b:D):Prop:=∃ k m,pk a=some k/\pk b=some m/\zcj k m=true
theorem LtP.asym(a b:D)(h:LtP a b):¬LtP b a:=by
 rintro⟨k',m',e1,e2,h'⟩
 obtain⟨k,m,e3,e4,h⟩:=h
 rw [e3]at e2
 rw [e4]at e1
 cases e1
 cases e2
 have:=zcN h h'
 rw [zdK]at this
 cases this
open Classical in
noncomputable def zmw(xs:List D):List D:=if h:∃ L,L.Perm xs/\L.Pairwise LtP then h.choose else []
theorem zj3{xs L:List D}(p:L.Perm xs)(s:L.Pairwise LtP):zmw xs=L:=by
 have h:∃ L:List D,L.Perm xs/\L.Pairwise LtP:=⟨L,p,s⟩
 unfold zmw
 rw [dif_pos h]
 exact zgp LtP.asym (h.choose_spec.1.trans p.symm) h.choose_spec.2 s
def U.lst:U->Option (List D)
 | .l xs=>some xs
 | .d (.list xs)=>some xs
 | _=>none
theorem Rp.lst{v:V}{u:U}{xs:List D}(h:Rp K H v u)(e:u.lst=some xs):∃ p ys,v=.ref p/\SqL K H p ys/\DFs K H ys xs:=by
 cases u with
 | d x =>
  cases x with
  | list ds=>cases e; obtain⟨a,ys,rfl,h1,h2⟩:=DF.lst_inv h; exact⟨a,ys,rfl,h1.sq,h2⟩
  | _=>cases e
 | l ds=>cases e; obtain⟨a,ys,rfl,h1,h2⟩:=h; exact⟨a,ys,rfl,SqL.of h1,h2⟩
 | t=>cases e
 | k=>cases e
noncomputable def zi8(u:U):Option U:=u.lst.bind fun xs=>(pks xs).bind fun ks=>if xs.length < 64/\ks.Nodup then some (.l (zmw xs))else none
theorem zmx:∀ {xs:List D} {ks:List (List Int)},pks xs=some ks->ks.length=xs.length
 | [],ks,e=>by cases e; rfl
 | x::xs,ks,e=>by
  obtain⟨k,e1,e⟩:=zb e
  obtain⟨ks',e2,e⟩:=zb e
  cases e
  simp [zmx e2]
theorem zi9:∀ {xs:List D} {ks:List (List Int)} {i:Nat} {x:D},pks xs=some ks->xs[i]?=some x->pk x=some (ks.getD i [])
 | [],ks,i,x,e,ex=>by simp at ex
 | y::xs,ks,i,x,e,ex=>by
  obtain⟨k,e1,e⟩:=zb e
  obtain⟨ks',e2,e⟩:=zb e
  cases e
  cases i with
  | zero=>cases(show some y=some x from ex); exact e1
  | succ i=>exact zi9 (i:=i) e2 ex
theorem zj4:VC K (zpm K) (f1 zi8):=zlp fun v a u H Q h e q=>by
 obtain⟨xs,ex,e⟩:=zb e
 obtain⟨ks,ek,e⟩:=zb e
 split at e
 ·rename_i hc
  cases e
  obtain⟨p,ys,rfl,sq,ds⟩:=h.lst ex
  have ly:=ds.len
  have lk:=zmx ek
  refine⟨p,ys,ks,rfl,sq,by omega,⟨by omega,fun i v ev=>?_⟩,hc.2,fun is r hp hs hr=>?_⟩
  ·obtain⟨d,ed,dv⟩:=ds.get' ev
   have kd:=zi9 ek ed
   unfold pk at kd
   split at kd
   ·rename_i kk y
    obtain⟨a,zs,rfl,h1,h2⟩:=DF.tup_inv dv
    cases h2 with
    | @cons z1 _ _ _ h3 t =>
     cases t with
     | @cons z2 _ _ _ h4 t =>
      cases t
      obtain⟨b,ns,rfl,h5,h6⟩:=DF.tup_inv h3
      exact⟨a,b,z2,rfl,(TpK.sq h1),by rw [<-zjX h6 kd]; exact(TpK.sq h5)⟩
   ·cases kd
  ·have sm:=zP hr (.lst (is.map fun i=>ys.getD i .non))
   have lt:∀ i∈is,i < xs.length:=fun i hi=>by
    have:=List.mem_range.mp (hp.mem_iff.mp hi)
    omega
   have ext:(List.range xs.length).map (fun i=>xs.getD i .none)=xs:=by
    apply List.ext_getElem?
    intro j
    rw [List.getElem?_map]
    by_cases hj:j < xs.length
    ·rw [List.getElem?_range hj,Option.map_some,qA,ql hj]
     rfl
    ·rw [List.getElem?_eq_none (by simpa using hj),List.getElem?_eq_none (by omega)]
     rfl
   have hperm:(is.map fun i=>xs.getD i .none).Perm xs:=by
    have:=hp.map fun i=>xs.getD i .none
    rw [ly,ext]at this
    exact this
   have hsort:(is.map fun i=>xs.getD i .none).Pairwise LtP:=by
    rw [List.pairwise_map]at hs ⊢
    refine hs.imp_of_mem fun{i j} hi hj hij=>?_
    have gi:=ql (lt i hi)
    have gj:=ql (lt j hj)
    refine⟨_,_,?_,?_,hij⟩
    ·rw [qA,gi]
     exact zi9 ek gi
    ·rw [qA,gj]
     exact zi9 ek gj
   rw [zj3 hperm hsort]at q
   refine q _ _ sm ⟨r,_,rfl,zx,?_⟩ fun _=>⟨r,rfl,hr⟩
   refine DFs.kp sm.kp ?_
   clear hs hp hperm hsort q sm
   induction is with
   | nil=>exact .nil
   | cons i is ih =>
    refine .cons ?_ (ih fun j hj=>lt j (qm _ hj))
    have gi:=ql (lt i qo)
    obtain⟨v,ev,dv⟩:=ds.get gi
    dsimp only
    rw [qA,qA,gi,ev]
    exact dv
 ·cases e
end
theorem zhi:∀ {xs:List V} {us:List Value},xs.length=us.length->(∀ (j:Nat) x u,xs[j]?=some x->us[j]?=some u->zU x u)->zN xs us
 | [],[],_,_=>.nil
 | [],_::_,h,_=>by simp at h
 | _::_,[],h,_=>by simp at h
 | x::xs,u::us,h,a=>.cons (a 0 x u rfl rfl) (zhi (by simpa using h) fun j y v e1 e2=>a (j+1) y v e1 e2)
def ztT:List V->Hp->VK->Prop:=fun xs H Q=>∃ n:Int,xs=[.int n]/\∀ p,H p=none->Q (.ref p) (upd H p (.rng 0 n))
theorem zn6{X:Cx}:zbU X (.type "range") ztT:=by
 intro pins s σ H xs us Q I r h
 obtain⟨n,rfl,q⟩:=h
 obtain⟨u,rfl,ru⟩:=zdV r
 obtain⟨t,rfl⟩:=ru
 refine call_range_1 ⟨.ref s.heap.objs.size,_,I.laid (a:=s.heap.objs.size) (o:=.rng 0 n) (fun b o e=>qd _ e) (qe _) ?_,rfl,q _ I.fresh⟩
 exact⟨_,_,_,qg _ rfl⟩
section
variable {K:qc} {pn:List Nat} {ρ ρ':En} {σ:St} {H H':Hp}
theorem zv1:∀ {n:Nat} {lo:Int},DFs K H ((List.range n).map fun i=>.int (lo+(i:Nat))) (zaR lo n):=fun{n lo}=>by
 unfold zaR
 generalize List.range n=l
 induction l with
 | nil=>exact .nil
 | cons a l ih=>exact .cons (.int _) ih
def zxA(ma:MA):ME:=fun ρ=>(ma ρ).bind fun p=>(zbc p.2 p.1).bind fun us=>match us with
 | [.d (.int j)]=>if(-(2^62)<=j/\j < 2^62)/\j.toNat<=sizeLine then some (.u (.l (zaR 0 j.toNat)),p.2)else none
 | _=>none
def zhj:MT:=fun ρ=>some (true,ρ)
theorem zd6:VT K zvL zhj:=fun ρ σ H b ρ' Q r e q=>by cases e; exact q H (Go.refl r)
def sV:D->Option V
 | .none=>some .non
 | .bool b=>some (.bl b)
 | .int i=>some (.int i)
 | .str x=>some (.str x)
 | _=>none
theorem zsJ{x:D}{v w:V}(h:DF K H v x)(e:sV x=some w):v=w:=by
 cases h<;>cases e<;>rfl
def zdA(neg:Bool):U->U->Option U
 | .d x,.d y=>(sV x).bind fun v=>(sV y).bind fun w=>if zvl v w=true then some (.d (.bool (if neg=true then !decide (v=w)else decide (v=w))))else none
 | _,_=>none
theorem zd7:VO K rEq (zdA false):=by
 intro x y a b u H Q ha hb e q
 unfold zdA at e
 split at e
 ·obtain⟨v,ev,e⟩:=zb e
  obtain⟨w,ew,e⟩:=zb e
  split at e
  ·rename_i hs
   cases e
   cases zsJ ha ev
   cases zsJ hb ew
   exact⟨hs,q _ _ (fun _ _ z=>z) (.bl _) Nw.data⟩
  ·cases e
 ·cases e
theorem zja:VO K rNe (zdA true):=by
 intro x y a b u H Q ha hb e q
 unfold zdA at e
 split at e
 ·obtain⟨v,ev,e⟩:=zb e
  obtain⟨w,ew,e⟩:=zb e
  split at e
  ·rename_i hs
   cases e
   cases zsJ ha ev
   cases zsJ hb ew
   exact⟨hs,q _ _ (fun _ _ z=>z) (.bl _) Nw.data⟩
  ·cases e
 ·cases e
def zhk:U->Bool
 | .d .none=>true
 | _=>false
def zpL(neg:Bool):U->U->Option U
 | a,.d .none=>some (.d (.bool (if neg=true then !zhk a else zhk a)))
 | _,_=>none
theorem zsK{a:U}{v:V}(h:Rp K H v a):decide (v=.non)=zhk a:=by
 cases a with
 | d x=>cases(show DF K H v x from h)<;>simp [zhk]
 | l=>obtain⟨_,_,rfl,_⟩:=h; simp [zhk]
 | t=>obtain⟨_,_,rfl,_⟩:=h; simp [zhk]
 | k=>obtain⟨_,_,rfl,_⟩:=h; simp [zhk]
theorem zv2:VO K (fun x y H Q=>y=.non/\Q (.bl (decide (x=.non))) H) (zpL false):=by
 intro x y a b u H Q ha hb e q
 unfold zpL at e
 split at e
 ·cases e
  refine⟨by cases hb; rfl,?_⟩
  rw [zsK ha]
  exact q _ _ (fun _ _ z=>z) (.bl _) Nw.data
 ·cases e
def GWx(nt:Nat)(g:TG):Prop:=∀ (js:List Nat) (σ σ1:St),Wk (c0 nt js σ) σ1->∀ x H (Q:St->Hp->Prop),g x σ1 H Q->g x σ1 H fun σ2 H2=>Wk (c0 nt js σ) σ2/\Q σ2 H2
def zn7(nt:Nat)(g:TGs):Prop:=∀ (js:List Nat) (σ σ1:St),Wk (c0 nt js σ) σ1->∀ x H (Q:St->Hp->Prop),g x σ1 H Q->g x σ1 H fun σ2 H2=>Wk (c0 nt js σ) σ2/\Q σ2 H2
theorem zpM{nt i:Nat}(h:i < nt):GWx nt (zds i):=by
 intro js σ σ1 w x H Q q
 refine⟨⟨by rw [List.length_set]; exact w.1,fun j v e=>?_⟩,q⟩
 have ne:i≠j:=by
  rintro rfl
  rw [ziP h]at e
  cases e
 rw [qB ne]
 exact w.2 j v e
theorem zdB{nt:Nat}:zn7 nt zr8:=fun js σ σ1 w x H Q q=>⟨q.1,w,q.2⟩
theorem zn8{nt:Nat}{g:TG}{gs:TGs}(h1:GWx nt g)(h2:zn7 nt gs)(mono:∀ v σ H (Q Q':St->Hp->Prop),(∀ σ' H',Q σ' H'->Q' σ' H')->g v σ H Q->g v σ H Q'):zn7 nt (zjC g gs):=by
 intro js σ σ1 w x H Q q
 obtain⟨v,r,e,k⟩:=q
 refine⟨v,r,e,mono _ _ _ _ _ (fun σ' H' ⟨w',q'⟩=>?_) (h1 js σ σ1 w v H _ k)⟩
 exact h2 js σ σ' w' r H' Q q'
theorem zeo{nt n:Nat}{gs:TGs}(h:zn7 nt gs):GWx nt (zsa K n gs):=by
 intro js σ σ1 w x H Q q
 obtain⟨a,xs,e,s,l,k⟩:=q
 exact⟨a,xs,e,s,l,h js σ σ1 w xs H Q k⟩
theorem zir{nt:Nat}{js:List Nat}{g:TG}(h:GWx nt g):∀ σ:St,GW (c0 nt js σ) g:=fun σ x H Q q=>h js σ _ ⟨rfl,fun _ _ e=>e⟩ x H Q q
theorem zn9{i:Nat}:∀ v σ H (Q Q':St->Hp->Prop),(∀ σ' H',Q σ' H'->Q' σ' H')->zds i v σ H Q->zds i v σ H Q':=fun v σ H Q Q' h q=>h _ _ q
theorem zaS{nt i:Nat}{gs:TGs}(h:i < nt)(h2:zn7 nt gs):zn7 nt (zjC (zds i) gs):=zn8 (zpM h) h2 zn9
theorem zv3{F:FD}{a:Addr}{ns:List Int}{E:XK}(hO:zsx H)(hS:SqL K H a (ns.map V.int))(h:∃ outs,F [.d (.list (ns.map .int))]=some (.d (.bool true),outs)):spV K 1 F [.ref a] H (fun v _=>v=.bl true) E:=by
 obtain⟨outs,ho⟩:=h
 have pl:PL K H a (ns.map V.int):=by
  rcases hS with (h | ⟨o,h⟩) | h
  ·rcases hO a with z | ⟨o,xs,z⟩
   ·rw [z]at h; cases h
   ·rw [z]at h; cases h
  ·exact .inl ⟨o,h⟩
  ·exact .inr h
 have dd:DFs K H (ns.map V.int) (ns.map PyData.int):=by
  clear ho hS pl
  induction ns with
  | nil=>exact .nil
  | cons n ns ih=>exact .cons (.int n) ih
 refine⟨[.d (.list (ns.map .int))],.d (.bool true),outs,rfl,⟨rfl,fun i u e=>?_,fun i j u w ei ej ou ow es=>?_⟩,ho,fun v H' g p n=>DF.bl_inv p⟩
 ·have e':=zcc.mp e
  cases i with
  | zero=>cases e'; exact⟨.ref a,rfl,DF.lst pl dd⟩
  | succ i=>simp at e'
 ·have e':=zcc.mp ei
  cases i with
  | zero=>cases e'; cases ou
  | succ i=>simp at e'
end
section
variable {ρ:En} {me ma mb mk mi md my mv:ME} {mA mK:MA} {mt mu:MT} {m1 m2:MS} {i j:Nat} {u:U} {x:D} {f:U->U->Option U}
theorem bd{α β:Type}{a:α}{f:α->Option β}:(some a).bind f=f a:=rfl
theorem ztU{u:U}:Ar.get ρ (.u u)=some u:=rfl
theorem zpN:Ar.get ρ (.s i)=(ρ[i]?).join:=rfl
theorem zmy{u:U}:(some (some u)).join=some u:=rfl
theorem zv4:zi i ρ=(ρ[i]?).join.bind fun _=>some (.s i,ρ):=by
 unfold zi
 cases ρ[i]? with
 | none=>rfl
 | some o=>cases o<;>rfl
theorem zyL:mC x ρ=some (.u (.d x),ρ):=rfl
theorem zxB:mOp f ma mb ρ=(ma ρ).bind fun p=>(mb p.2).bind fun q=>(p.1.get q.2).bind fun x=>(q.1.get q.2).bind fun y=>(f x y).bind fun u=>some (.u u,q.2):=rfl
theorem zxC{f:U->Option U}:mUn f ma ρ=(ma ρ).bind fun p=>(p.1.get p.2).bind fun x=>(f x).bind fun u=>some (.u u,p.2):=rfl
theorem zv5:zr ρ=some ([],ρ):=rfl
theorem zsL:zf me mA ρ=(me ρ).bind fun p=>(mA p.2).bind fun q=>some (p.1::q.1,q.2):=rfl
theorem zj5:zbc ρ []=some []:=rfl
theorem zis{a:Ar}{as:List Ar}:zbc ρ (a::as)=(a.get ρ).bind fun u=>(zbc ρ as).bind fun us=>some (u::us):=rfl
theorem zit:zcV []=some []:=rfl
theorem zhl{us:List U}:zcV (.d x::us)=(zcV us).bind fun xs=>some (x::xs):=rfl
theorem zv6:zbg mA ρ=(mA ρ).bind fun p=>(zbc p.2 p.1).bind fun us=>(zcV us).bind fun ds=>if ds.length<=sizeLine then some (.u (.d (.tuple ds)),p.2)else none:=rfl
theorem zv7:zf2 mA ρ=(mA ρ).bind fun p=>(zbc p.2 p.1).bind fun us=>(zcV us).bind fun ds=>if ds.length<=sizeLine then some (.u (.l ds),p.2)else none:=rfl
theorem zxD{f:List U->Option U}:mCB f mA ρ=(mA ρ).bind fun p=>(zbc p.2 p.1).bind fun us=>(f us).bind fun u=>some (.u u,p.2):=rfl
theorem zv8{f:FD}:zao f mA ρ=(mA ρ).bind fun p=>if zd1 p.2 p.1=true then(zbc p.2 p.1).bind fun us=>(f us).bind fun o=>some (.u o.1,wb p.2 p.1 o.2)else none:=rfl
theorem zj6:zd1 ρ []=true:=rfl
theorem zpO{as:List Ar}:zd1 ρ (.u u::as)=zd1 ρ as:=rfl
theorem zv9{as:List Ar}:zd1 ρ (.s j::as)=((match ρ[j]? with | some (some u)=>!u.own || !(as.any fun a=>match a with | .s k=>decide (k=j) | _=>false) | _=>true) && zd1 ρ as):=rfl
theorem zxE{as:List Ar}{o:U}{os:List U}:wb ρ (.s j::as) (o::os)=wb (ρ.set j (some o)) as os:=rfl
theorem zxF{as:List Ar}{o:U}{os:List U}:wb ρ (.u u::as) (o::os)=wb ρ as os:=rfl
theorem zpP:wb ρ [] []=ρ:=rfl
def zsM(m2:MS):Fl->Option Fl
 | .nx ρ'=>m2 ρ'
 | f=>some f
theorem bind_fn{α β:Type}{o:Option α}{f g:α->Option β}(h:∀ a,f a=g a):o.bind f=o.bind g:=by cases o with | none=>rfl | some a=>exact h a
theorem zwa:zF m1 m2 ρ=(m1 ρ).bind (zsM m2):=bind_fn fun f=>by cases f<;>rfl
theorem zmz:zsM m2 (.nx ρ)=m2 ρ:=rfl
theorem zmA:zsM m2 (.rt u ρ)=some (.rt u ρ):=rfl
def U.dat:U->Option U
 | .d x=>some (.d x)
 | _=>none
theorem ztV:U.dat (.d x)=some (.d x):=rfl
theorem ztW:put (.s i,ρ)=(ρ[i]?).join.bind fun u=>u.dat.bind fun d=>some (d,ρ):=by
 unfold put
 dsimp only
 cases ρ[i]? with
 | none=>rfl
 | some o =>
  cases o with
  | none=>rfl
  | some u=>cases u<;>rfl
theorem ztX:put (.u u,ρ)=some (u,ρ):=rfl
theorem zwb:zY i me ρ=(me ρ).bind fun p=>(put p).bind fun q=>some (.nx (q.2.set i (some q.1))):=rfl
theorem zwc:zbB me ρ=(me ρ).bind fun p=>(put p).bind fun q=>some (.rt q.1 q.2):=rfl
theorem zsN{pn:List Nat}:zft pn i ρ=if i∈pn then none else(ρ[i]?).join.bind fun u=>some (.rt u (ρ.set i none)):=by
 unfold zft
 split
 ·rfl
 ·cases ρ[i]? with
  | none=>rfl
  | some o=>cases o<;>rfl
theorem zsO:zbA ρ=some (.nx ρ):=rfl
theorem zsP:zgn me ρ=(me ρ).bind fun p=>some (.nx p.2):=rfl
theorem zwd:zcL mt m1 m2 ρ=(mt ρ).bind fun p=>if p.1=true then m1 p.2 else m2 p.2:=rfl
theorem zxG:mIf mt ma mb ρ=(mt ρ).bind fun p=>if p.1=true then ma p.2 else mb p.2:=rfl
def U.bol:U->Option Bool
 | .d (.bool b)=>some b
 | _=>none
theorem ztY{b:Bool}:U.bol (.d (.bool b))=some b:=rfl
theorem zyM:mB me ρ=(me ρ).bind fun p=>(p.1.get p.2).bind fun u=>u.bol.bind fun b=>some (b,p.2):=by
 unfold mB
 congr 1
 funext p
 congr 1
 funext u
 cases u with
 | d x=>cases x<;>rfl
 | l=>rfl
 | t=>rfl
 | k=>rfl
theorem zwe:zlr mt mu ρ=(mt ρ).bind fun p=>if p.1=true then mu p.2 else some (false,p.2):=rfl
theorem zxH:mOr mt mu ρ=(mt ρ).bind fun p=>if p.1=true then some (true,p.2)else mu p.2:=rfl
theorem zwf:zpu mt ρ=(mt ρ).bind fun p=>some (!p.1,p.2):=rfl
theorem zwg:zpw ma ρ=(ma ρ).bind fun p=>(p.1.get p.2).bind fun u=>u.tru.bind fun b=>some (b,p.2):=rfl
theorem zmB{n:Int}:U.tru (.d (.int n))=some (n != 0):=rfl
theorem zwh:zhj ρ=some (true,ρ):=rfl
def U.lo:U->Option (List D)
 | .l xs=>some xs
 | _=>none
theorem zxI{xs:List D}:U.lo (.l xs)=some xs:=rfl
def U.da:U->Option D
 | .d x=>some x
 | _=>none
theorem zxJ:U.da (.d x)=some x:=rfl
def U.num:U->Option Int
 | .d (.int i)=>some i
 | _=>none
theorem ztZ{n:Int}:U.num (.d (.int n))=some n:=rfl
theorem zwi:zhQ i me ρ=(ρ[i]?).join.bind fun w=>w.lo.bind fun _=>(me ρ).bind fun p=>(p.1.get p.2).bind fun u=>u.da.bind fun x=>(p.2[i]?).join.bind fun w=>w.lo.bind fun xs=>if xs.length < sizeLine then some (.u (.d .none),p.2.set i (some (.l (xs++[x]))))else none:=by
 unfold zhQ
 cases ρ[i]? with
 | none=>rfl
 | some o =>
  cases o with
  | none=>rfl
  | some w =>
   cases w with
   | l xs0 =>
    show((me ρ).bind _)=((me ρ).bind _)
    congr 1
    funext p
    congr 1
    funext u
    cases u with
    | d x =>
     show(match U.d x,p.2[i]? with | .d x,some (some (.l xs))=>_ | _,_=>none)=((p.2[i]?).join.bind _)
     cases p.2[i]? with
     | none=>rfl
     | some o =>
      cases o with
      | none=>rfl
      | some w=>cases w<;>rfl
    | l=>rfl
    | t=>rfl
    | k=>rfl
   | d=>rfl
   | t=>rfl
   | k=>rfl
theorem zpQ:zeZ i me mi ρ=(ρ[i]?).join.bind fun _=>(me ρ).bind fun p=>(mi p.2).bind fun q=>(p.1.get q.2).bind fun u=>(q.1.get q.2).bind fun w=>u.da.bind fun x=>w.num.bind fun k=>(q.2[i]?).join.bind fun z=>z.lo.bind fun xs=>(ixN xs.length k).bind fun j=>some (.nx (q.2.set i (some (.l (xs.set j x))))):=by
 unfold zeZ
 congr 1; funext _; congr 1; funext p; congr 1; funext q; congr 1; funext u; congr 1; funext w
 cases u with
 | d x =>
  cases w with
  | d y =>
   cases y with
   | int k =>
    show(match U.d x,U.d (.int k),q.2[i]? with | .d x,.d (.int k),some (some (.l xs))=>_ | _,_,_=>none)=((q.2[i]?).join.bind _)
    cases q.2[i]? with
    | none=>rfl
    | some o =>
     cases o with
     | none=>rfl
     | some w=>cases w<;>rfl
   | _=>rfl
  | l=>rfl
  | t=>rfl
  | k=>rfl
 | l=>rfl
 | t=>rfl
 | k=>rfl
theorem zsQ:zc9 md my ρ=(md ρ).bind fun p=>(my p.2).bind fun q=>(p.1.get q.2).bind fun u=>(q.1.get q.2).bind fun y=>(zhR u y).bind fun o=>o.bind fun d=>some (.u (.d d),q.2):=rfl
theorem zpR:zcX ρ=some (.u (.t []),ρ):=rfl
def kFz(x:D):Ar×En->En
 | (.s i,ρ)=>ρ.set i (some (.d x))
 | (.u _,ρ)=>ρ
theorem zxK:mFz me ρ=(me ρ).bind fun p=>(p.1.get p.2).bind fun u=>u.fz.bind fun x=>some (.u (.d x),kFz x p):=by
 unfold mFz
 congr 1; funext p; congr 1; funext u; congr 1; funext x
 obtain⟨a,ρ1⟩:=p
 cases a<;>rfl
theorem zt0:kFz x (.s i,ρ)=ρ.set i (some (.d x)):=rfl
theorem zt1:kFz x (.u u,ρ)=ρ:=rfl
theorem zxL:U.fz (.d x)=some x:=rfl
theorem zxM{xs:List D}:U.fz (.l xs)=some (.list xs):=rfl
theorem zxN{kvs:List (List Key×D)}:U.fz (.t kvs)=some (.dict (kvs.map fun p=>(kTD p.1,p.2))):=rfl
theorem zxO{g:U->Option (List D)}:mIt g me ρ=(me ρ).bind fun p=>(p.1.get p.2).bind fun u=>(g u).bind fun ds=>some (ds,p.2):=rfl
theorem zpS{xs:List D}:zn1 (.d (.list xs))=some xs:=rfl
theorem zpT{xs:List D}:zn2 (.d (.tuple xs))=some xs:=rfl
theorem zmC{kvs:List (D×D)}:zfz (.d (.dict kvs))=if noX kvs=true then some (kvs.map (·.1))else none:=rfl
def zsR:List U->Option (List D)
 | [.d (.int j)]=>if -(2^62)<=j/\j < 2^62 then some (zaR 0 j.toNat)else none
 | _=>none
theorem zwj{n:Int}:zsR [.d (.int n)]=if -(2^62)<=n/\n < 2^62 then some (zaR 0 n.toNat)else none:=rfl
theorem zsS:zd2 mA ρ=(mA ρ).bind fun p=>(zbc p.2 p.1).bind fun us=>(zsR us).bind fun ds=>some (ds,p.2):=bind_fn fun p=>bind_fn fun us=>match us with
 | []=>rfl
 | [.d (.int j)]=>by
  show(if _ then _ else _)=(if _ then _ else _:Option (List D)).bind _
  split<;>rfl
 | [.d .none]=>rfl
 | [.d (.bool _)]=>rfl
 | [.d (.str _)]=>rfl
 | [.d (.list _)]=>rfl
 | [.d (.tuple _)]=>rfl
 | [.d (.dict _)]=>rfl
 | [.l _]=>rfl
 | [.t _]=>rfl
 | [.k _]=>rfl
 | .d x::b::us=>by cases x<;>rfl
 | .l x::b::us=>rfl
 | .t x::b::us=>rfl
 | .k x::b::us=>rfl
theorem zwk{mI:MI}{mg:MG}:zcI mI mg m1 ρ=(mI ρ).bind fun p=>zcz mg m1 p.1 p.2:=rfl
theorem zxP{mI:MI}{nt:Nat}{js:List Nat}{mg:MG}:mLC mI nt js mg mt me ρ=(mI ρ).bind fun p=>(lcM nt mg mt me p.1 (cEn nt js p.2) []).bind fun q=>some (.u (.l q.1),back js (q.2.drop nt) p.2):=rfl
theorem zxQ{f:U->Option Int->Option Int->Option U}{ml mh:MO}:mSl f me ml mh ρ=(me ρ).bind fun p=>(ml p.2).bind fun l=>(mh l.2).bind fun h=>(p.1.get h.2).bind fun x=>(f x l.1 h.1).bind fun u=>some (.u u,h.2):=rfl
theorem zoa:zdb ρ=some (none,ρ):=rfl
theorem zsT:zgo me ρ=(me ρ).bind fun p=>(p.1.get p.2).bind fun u=>u.num.bind fun i=>some (some i,p.2):=bind_fn fun p=>bind_fn fun u=>by
 cases u with
 | d x=>cases x<;>rfl
 | l=>rfl
 | t=>rfl
 | k=>rfl
def zwl:List U->Option (D×D)
 | [.d x,.d y]=>some (x,y)
 | _=>none
theorem zpU{y:D}:zwl [.d x,.d y]=some (x,y):=rfl
theorem zwm:zn3 i j mA ρ=(mA ρ).bind fun p=>(zbc p.2 p.1).bind fun us=>(zwl us).bind fun z=>some (.nx ((p.2.set i (some (.d z.1))).set j (some (.d z.2)))):=by
 refine bind_fn fun p=>bind_fn fun us=>?_
 match us with
 | []=>rfl
 | [a]=>cases a<;>rfl
 | [.d x,.d y]=>rfl
 | [.d x,.l y]=>rfl
 | [.d x,.t y]=>rfl
 | [.d x,.k y]=>rfl
 | [.l x,b]=>rfl
 | [.t x,b]=>rfl
 | [.k x,b]=>rfl
 | a::b::c::us=>cases a<;>(try rfl)<;>(cases b<;>rfl)
theorem zwn{mg:MG}:zlt me mg ρ=(me ρ).bind fun p=>(p.1.get p.2).bind fun u=>u.da.bind fun d=>(mg d p.2).bind fun ρ'=>some (.nx ρ'):=by
 unfold zlt
 congr 1; funext p; congr 1; funext u
 cases u<;>rfl
theorem zpV:zB i x ρ=some (ρ.set i (some (.d x))):=rfl
theorem zsU{n:Nat}{gs:List D->En->Option En}{ds:List D}:zbC n gs (.tuple ds) ρ=if ds.length=n then gs ds ρ else none:=rfl
theorem zpW{g:MG}{gs:List D->En->Option En}{ds:List D}:zV g gs (x::ds) ρ=(g x ρ).bind fun ρ1=>gs ds ρ1:=rfl
theorem zsV:zbV [] ρ=some ρ:=rfl
theorem ziu{c:Int->Int->Prop}{g:Int->Int->D}{a b:Int}(h:c a b):fIC c g (.d (.int a)) (.d (.int b))=some (.d (g a b)):=by
 unfold fIC
 dsimp only
 rw [if_pos h]
theorem zt2{a b:Int}:zcS (.d (.int a)) (.d (.int b))=some (.d (.int (a+b))):=rfl
theorem zt3{a b:Int}:ziX (.d (.int a)) (.d (.int b))=some (.d (.int (a - b))):=rfl
theorem zt4{a b:Int}(h:znG a b):zet (.d (.int a)) (.d (.int b))=some (.d (.int (a * b))):=ziu h
theorem zxR{a b:Int}(h:0 < b):zeU (.d (.int a)) (.d (.int b))=some (.d (.int (a % b))):=ziu (c:=fun _ j=>0 < j) h
theorem zlz{a b:Int}(h:zih a b):zhd (.d (.int a)) (.d (.int b))=some (.d (.int (a / b))):=ziu h
theorem zf7{a b:Int}(h:zg6 a b):zgm (.d (.int a)) (.d (.int b))=some (.d (.int (a.fdiv b))):=ziu h
theorem zxS{a b:Int}(h:zsd a b):zsF (.d (.int a)) (.d (.int b))=some (.d (.int (a^b.toNat))):=ziu h
theorem zxT{a b:Int}:fLt (.d (.int a)) (.d (.int b))=some (.d (.bool (decide (a < b)))):=rfl
theorem zxU{a b:Int}:fLe (.d (.int a)) (.d (.int b))=some (.d (.bool (decide (a<=b)))):=rfl
theorem zxV{a b:Int}:fGt (.d (.int a)) (.d (.int b))=some (.d (.bool (decide (b < a)))):=rfl
theorem zxW{a b:Int}:fGe (.d (.int a)) (.d (.int b))=some (.d (.bool (decide (b<=a)))):=rfl
theorem zt5{a:Int}:zjV (.d (.int a))=some (.d (.int (-a))):=rfl
theorem zt6{a:Int}:zlq (.d (.int a))=some (.d (.int (if a < 0 then -a else a))):=rfl
theorem zpX{b:Bool}:zjW (.d (.bool b))=some (.d (.int (if b then 1 else 0))):=rfl
theorem zpY{a b:Int}:zhf [.d (.int a),.d (.int b)]=some (.d (.int (if b > a then b else a))):=rfl
theorem zxX{f:U->Option U}:f1 f [u]=f u:=rfl
theorem zt7{xs:List D}:zeu (.l xs)=some (.d (.int xs.length)):=rfl
theorem zt8{xs:List D}:zeu (.d (.tuple xs))=some (.d (.int xs.length)):=rfl
theorem zt9{xs:List D}:zeu (.d (.list xs))=some (.d (.int xs.length)):=rfl
theorem zmD{xs:List D}:zco (.l xs)=some (.d (.tuple xs)):=rfl
theorem zua{xs:List D}{k:Int}:zfq (.l xs) (.d (.int k))=(atI xs k).map .d:=rfl
theorem zub{xs:List D}{k:Int}:zfq (.d (.list xs)) (.d (.int k))=(atI xs k).map .d:=rfl
theorem zuc{xs:List D}{lo hi:Option Int}:zn4 (.l xs) lo hi=some (.l (zdU xs lo hi)):=rfl
theorem zud{a b:Int}:zdA false (.d (.int a)) (.d (.int b))=some (.d (.bool (decide (a=b)))):=by
 show some (U.d (.bool (decide (V.int a=V.int b))))=_
 congr 3
 exact decide_eq_decide.mpr ⟨fun h=>by cases h; rfl,fun h=>by rw [h]⟩
theorem zue{a b:Int}:zdA true (.d (.int a)) (.d (.int b))=some (.d (.bool (!decide (a=b)))):=by
 show some (U.d (.bool (!decide (V.int a=V.int b))))=_
 congr 4
 exact decide_eq_decide.mpr ⟨fun h=>by cases h; rfl,fun h=>by rw [h]⟩
def zwo(pn:List Nat)(us:List U):Fl->Option (U×List U)
 | .rt u ρ=>(zbE pn ρ 0 us).bind fun os=>some (u,os)
 | .nx ρ=>(zbE pn ρ 0 us).bind fun os=>some (.d .none,os)
 | _=>none
theorem zwp{n:Nat}{pn:List Nat}{us:List U}:zbZ n pn m1 us=(m1 (sm us++List.replicate (n - us.length) none)).bind (zwo pn us):=by
 exact bind_fn fun f=>by cases f<;>rfl
theorem zmE{pn:List Nat}{us:List U}:zwo pn us (.rt u ρ)=(zbE pn ρ 0 us).bind fun os=>some (u,os):=rfl
theorem zj7{pn:List Nat}{n:Nat}:zbE pn ρ n []=some []:=rfl
theorem ziv{pn:List Nat}{n:Nat}{us:List U}:zbE pn ρ n (u::us)=(if n∈pn then(ρ[n]?).join.bind fun o=>if o.own=true/\u.own=false then none else some o else if u.own=true then none else some u).bind fun o=>(zbE pn ρ (n+1) us).bind fun os=>some (o::os):=rfl
theorem zuf:U.own (.d x)=false:=rfl
theorem zug{xs:List D}:U.own (.l xs)=true:=rfl
theorem zpZ:sm []=[]:=rfl
theorem zmF{us:List U}:sm (u::us)=some u::sm us:=rfl
theorem zxY{α:Type}{a:α}{xs:List α}:atI (a::xs) 0=some a:=by
 unfold atI ixN
 rw [if_pos (by decide),if_pos (by simp only [qt]; omega)]
 rfl
theorem zxZ{α:Type}{a b:α}{xs:List α}:atI (a::b::xs) 1=some b:=by
 unfold atI ixN
 rw [if_pos (by decide),if_pos (by simp only [qt]; omega)]
 rfl
theorem zx0{n:Nat}:ixN (n+1) 0=some 0:=by
 unfold ixN
 rw [if_pos (by decide),if_pos (by omega)]
 rfl
theorem zx1{n:Nat}:ixN (n+1+1) 1=some 1:=by
 unfold ixN
 rw [if_pos (by decide),if_pos (by omega)]
 rfl
theorem zx2{a b:Int}(h:b.natAbs < 18446744073709551616):zet (.d (.int a)) (.d (.int b))=some (.d (.int (a * b))):=zt4 (.inr ⟨by omega,by omega⟩)
theorem zx3{a b:Int}(h:a.natAbs < 18446744073709551616):zet (.d (.int a)) (.d (.int b))=some (.d (.int (a * b))):=zt4 (.inl ⟨by omega,by omega⟩)
theorem zx4{a b:Int}(h:0 < b):zeU (.d (.int a)) (.d (.int b))=some (.d (.int (a % b))):=zxR h
theorem zx5{a b:Int}(h:0 < b)(h2:b<=340282366920938463463374607431768211456):zhd (.d (.int a)) (.d (.int b))=some (.d (.int (a / b))):=zlz (zsz h (by omega))
theorem zx6{a b:Int}(h:0<=b)(h2:b<=1000000)(h3:a.natAbs < 18446744073709551616):zsF (.d (.int a)) (.d (.int b))=some (.d (.int (a^b.toNat))):=zxS ⟨h,h2,by omega⟩
theorem zl:sizeLine=16777216:=rfl
theorem zmG{nt:Nat}:reset nt ρ=List.replicate nt none++ρ.drop nt:=rfl
theorem zuh{nt:Nat}{js:List Nat}:cEn nt js ρ=List.replicate nt none++js.map fun j=>ρ.getD j none:=rfl
def noS(j:Nat):List Ar->Bool
 | []=>true
 | .u _::as=>noS j as
 | .s k::as=>!decide (k=j) && noS j as
theorem zlA{j:Nat}:∀ {as:List Ar},noS j as=!(as.any fun a=>match a with | .s k=>decide (k=j) | _=>false)
 | []=>rfl
 | .u _::as=>by rw [List.any_cons]; exact zlA (as:=as)
 | .s k::as=>by
  unfold noS
  rw [List.any_cons,zlA (as:=as),Bool.not_or]
def dAt:Option U->Bool
 | some u=>!u.own
 | none=>true
theorem zui:dAt (some (.d x))=true:=rfl
theorem zuj{xs:List D}:dAt (some (.l xs))=false:=rfl
theorem zuk{xs:List (List Key×D)}:dAt (some (.t xs))=false:=rfl
theorem zmH:noS j []=true:=rfl
theorem zul{as:List Ar}:noS j (.u u::as)=noS j as:=rfl
theorem zum{k:Nat}{as:List Ar}:noS j (.s k::as)=(!decide (k=j) && noS j as):=rfl
theorem zmI{as:List Ar}:zd1 ρ (.s j::as)=((noS j as || dAt (ρ[j]?).join) && zd1 ρ as):=by
 rw [zv9,zlA]
 congr 1
 cases ρ[j]? with
 | none=>simp [dAt]
 | some o =>
  cases o with
  | none=>simp [dAt]
  | some u=>simp [dAt,Bool.or_comm]
theorem zp0{js:List Nat}{us:List (Option U)}:back (j::js) (some u::us) ρ=back js us (ρ.set j (some u)):=rfl
theorem zp1{us:List (Option U)}:back [] us ρ=ρ:=by cases us<;>rfl
theorem zf8:∀ ks:List Int,zfr (ks.map PyData.int)=some ks
 | []=>rfl
 | k::ks=>by show(zfr (ks.map PyData.int)).bind _=_; rw [zf8 ks]; rfl
theorem zun{xs ys:List D}(h:xs.length+ys.length<=16777216):zpt (.l xs) (.l ys)=some (.l (xs++ys)):=by
 unfold zpt
 dsimp only
 rw [zl,if_pos h]
end
structure XT (K:qc) (tab:List (Str×List Str)) (fl:List Str):Prop where
 cl:∀ n ups C,tab.lookup n=some ups->XN K n C->XI K C/\∀ f∈fl,zbQ K C f
 is:∀ n ups C,tab.lookup n=some ups->XN K n C->∀ c C',(tab.lookup c).isSome=true->XN K c C'->PySem.W.kitOne K (.ref C) (.ref C')=some (decide (c=n) || ups.contains c)
 isT:∀ n ups C,tab.lookup n=some ups->XN K n C->PySem.W.kitOne K (.ref C) (.type "ValueError")=some (ups.contains ("ValueError":Str))
def zlB(f:Str):List (D×D)->Option D
 | (.str g,d)::ds=>if f=g then some d else zlB f ds
 | _=>none
section
variable {K:qc} {tab:List (Str×List Str)} {fl:List Str} {f n:Str} {H:Hp}
theorem DFf.get:∀ {fs:List (Str×V)} {ds:List (D×D)} {d:D},DFf K H fs ds->zlB f ds=some d->∃ v,fs.lookup f=some v/\DF K H v d
 | _,_,_,.nil,e=>by cases e
 | _,_,d,.cons (k:=k) (v:=v) (vs:=vs) h t,e=>by
  unfold zlB at e
  rw [List.lookup_cons]
  split at e
  ·rename_i q
   cases e
   exact⟨v,by rw [show(f==k)=true from beq_iff_eq.mpr q],h⟩
  ·rename_i q
   obtain⟨w,e1,e2⟩:=DFf.get t e
   exact⟨w,by rw [show(f==k)=false from beq_eq_false_iff_ne.mpr q]; exact e1,e2⟩
end
section
variable {K:qc} {tab:List (Str×List Str)} {fl:List Str} {f n:Str} {H:Hp}
end
section
variable {X:Cx} {K:qc} {tab:List (Str×List Str)} {fl:List Str} {c n:Str}
end
section
variable {K:qc}
def zfC:U->U->Option U
 | .d (.str i),.d (.str j)=>if i.length+j.length<=sizeLine then some (.d (.str (i++j)))else none
 | _,_=>none
theorem zgJ:VO K (fun x y H Q=>∃ i j,x=.str i/\y=.str j/\i.length+j.length<=sizeLine/\Q (.str (i++j)) H) zfC:=by
 intro x y a b u H Q ha hb e q
 unfold zfC at e
 split at e
 ·split at e
  ·rename_i i j hc
   cases e
   exact⟨i,j,DF.str_inv ha,DF.str_inv hb,hc,q _ _ (zbf.refl H) (DF.str _) Nw.data⟩
  ·cases e
 ·cases e
def zlC:U->U->Option U
 | .d (.str z),.d (.int i)=>if z.length<=sizeLine then(atI z.cps.toList i).map fun c=>.d (.str ⟨#[c]⟩)else none
 | _,_=>none
theorem zlD:VO K zxc zlC:=by
 intro x y a b u H Q ha hb e q
 unfold zlC at e
 split at e
 ·split at e
  ·rename_i z i hc
   obtain⟨c,ec,rfl⟩:=qq.mp e
   exact⟨z,i,c,DF.str_inv ha,DF.int_inv hb,hc,ec,q _ _ (zbf.refl H) (DF.str _) Nw.data⟩
  ·cases e
 ·cases e
def mM1(ty:U->Bool)(f:U->U->Option U)(mo ma:ME):ME:=fun ρ=>(mo ρ).bind fun p=>(p.1.get p.2).bind fun x0=>if ty x0=true then(ma p.2).bind fun q=>(p.1.get q.2).bind fun x=>(q.1.get q.2).bind fun y=>(f x y).bind fun u=>some (.u u,q.2)else none
theorem zx7{T:String}{r:V->List V->Hp->VK->Prop}{ty:U->Bool}{f:U->U->Option U}{to ta:TE}{mo ma:ME}(ht:∀ (x:V) (a:U) (H:Hp),Rp K H x a->ty a=true->tyV K T x H)(h:VO K (fun x y H Q=>r x [y] H Q) f)
  (ho:VE K to mo) (ha:VE K ta ma):VE K (tBM K T r to (zfi ta zk5)) (mM1 ty f mo ma):=by
 intro ρ σ H a ρ' Q rs e q
 obtain⟨⟨a1,ρ1⟩,e1,e⟩:=zb e
 obtain⟨x0,ex0,e⟩:=zb e
 split at e
 rotate_left
 ·cases e
 rename_i hty
 obtain⟨⟨b1,ρ2⟩,e2,e⟩:=zb e
 obtain⟨x,ex,e⟩:=zb e
 obtain⟨y,ey,e⟩:=zb e
 obtain⟨u,eu,e⟩:=zb e
 cases e
 refine ho ρ σ H a1 ρ1 _ rs e1 fun v1 H1 g1 k1=>⟨ht _ _ _ (k1.now rs g1 ex0) hty,ha ρ1 σ H1 b1 ρ2 _ g1.rs e2 fun v2 H2 g2 k2=>?_⟩
 refine h _ _ x y u H2 _ (k1.later rs g1 g2 ex) (k2.now g1.rs g2 ey) eu fun v H3 s p n=>?_
 exact q v H3 ((g1.trans g2).trans (Go.grow g2.rs s)) ⟨p,n.mono (g1.trans g2).dm⟩
def tyL:U->Bool
 | .l _=>true
 | .d (.list _)=>true
 | _=>false
def tyS:U->Bool
 | .d (.str _)=>true
 | _=>false
theorem zp2(x:V)(a:U)(H:Hp)(h:Rp K H x a)(e:tyS a=true):tyV K "str" x H:=by
 unfold tyS at e
 split at e
 ·cases DF.str_inv h; rfl
 ·cases e
def zsW:D->Option Str
 | .str x=>some x
 | _=>none
theorem zhm{H:Hp}:∀ {us:List V} {ds:List D} {ys:List Str},DFs K H us ds->ds.mapM zsW=some ys->us=ys.map V.str
 | _,_,ys,.nil,e=>by cases e; rfl
 | _,_,ys,.cons (d:=d) h t,e=>by
  rw [List.mapM_cons]at e
  obtain⟨y,e1,e⟩:=zb e
  obtain⟨ys',e2,e⟩:=zb e
  cases e
  cases d with
  | str x=>cases e1; cases DF.str_inv h; rw [zhm t e2]; rfl
  | _=>cases e1
def ziw:U->U->Option U
 | .d (.str sep),.l ds=>(ds.mapM zsW).bind fun ys=>if(ys.map (·.length)).sum+ys.length * sep.length<=16777216 then some (.d (.str (Txt.join sep ys)))else none
 | .d (.str sep),.d (.list ds)=>(ds.mapM zsW).bind fun ys=>if(ys.map (·.length)).sum+ys.length * sep.length<=16777216 then some (.d (.str (Txt.join sep ys)))else none
 | _,_=>none
theorem zmJ:VO K (fun x y H Q=>ztP K x [y] H Q) ziw:=by
 intro x y a b u H Q ha hb e q
 unfold ziw at e
 split at e
 ·obtain⟨ys,ey,e⟩:=zb e
  split at e
  ·rename_i hc
   cases e
   obtain⟨l,us,rfl,h1,h2⟩:=hb
   cases zhm h2 ey
   exact⟨_,l,ys,DF.str_inv ha,rfl,SqL.of h1,hc,q _ _ (zbf.refl H) (DF.str _) Nw.data⟩
  ·cases e
 ·obtain⟨ys,ey,e⟩:=zb e
  split at e
  ·rename_i hc
   cases e
   obtain⟨l,us,rfl,h1,h2⟩:=DF.lst_inv hb
   cases zhm h2 ey
   exact⟨_,l,ys,DF.str_inv ha,rfl,h1.sq,hc,q _ _ (zbf.refl H) (DF.str _) Nw.data⟩
  ·cases e
 ·cases e
def flD:D->Option V
 | .none=>some .non
 | .bool b=>some (.bl b)
 | .int i=>some (.int i)
 | .str x=>some (.str x)
 | _=>none
theorem zmK{H:Hp}{v w:V}{d:D}(h:DF K H v d)(e:flD d=some w):v=w/\zeE w=true:=by
 cases d with
 | none=>cases e; cases h; exact⟨rfl,rfl⟩
 | bool b=>cases e; cases DF.bl_inv h; exact⟨rfl,rfl⟩
 | int i=>cases e; cases DF.int_inv h; exact⟨rfl,rfl⟩
 | str x=>cases e; cases DF.str_inv h; exact⟨rfl,rfl⟩
 | _=>cases e
theorem zmL{H:Hp}:∀ {us:List V} {ds:List D} {ws:List V},DFs K H us ds->ds.mapM flD=some ws->us=ws/\ws.all zeE=true
 | _,_,ws,.nil,e=>by cases e; exact⟨rfl,rfl⟩
 | _,_,ws,.cons h t,e=>by
  rw [List.mapM_cons]at e
  obtain⟨y,e1,e⟩:=zb e
  obtain⟨ys',e2,e⟩:=zb e
  cases e
  obtain⟨rfl,f1⟩:=zmK h e1
  obtain⟨rfl,f2⟩:=zmL t e2
  exact⟨rfl,by rw [List.all_cons,f1,f2]; rfl⟩
end
def zwq(K:qc)(C:Addr):Bool:=match K.lookup C with
 | some ⟨.type "type",_,.cls cd,sl⟩=>(match cd.mro,sl.toList with
  | .ref C'::bm,[_,_,_,_,some (.builtin m),_]=>C'==C && m == "ValueError.__new__" && !cd.hasDel && cd.hasDict && PySem.W.tailIn K xUp bm
  | _,_=>false)
 | _=>false
def zsX(K:qc)(C:Addr):Bool:=zwq K C && PySem.W.findIn K (.ref C) "__getattribute__"==some (some (.builtin "BaseException.__getattribute__")) && PySem.W.findIn K (.ref C) "__getattr__"==some none &&
 PySem.W.findIn K (.ref C) "__setattr__"==some (some (.builtin "object.__setattr__")) && PySem.W.findIn K (.ref C) "__class__"==some (some (.builtin "object.__class__")) &&
 PySem.W.specialIn K (.builtin "object.__class__") "__get__"==some (some (.builtin "getset_descriptor.__get__")) && PySem.W.takesIn K (.builtin "object.__class__")==some true && PySem.W.mroIn K C (.type "object")==some true
theorem zx8{K:qc}{C:Addr}(q:zwq K C=true):∃ nm qn N bs bm sn sub ab col dd k0 k1 k2 k3 k5,K.lookup C=some (excClassObj nm qn C N bs bm true sn sub ab col dd k0 k1 k2 k3 k5 "ValueError.__new__")/\PySem.W.tailIn K xUp bm=true:=by
 unfold zwq at q
 split at q
 ·rename_i dd cd sl ho
  split at q
  ·rename_i C' bm k0 k1 k2 k3 m k5 hm hs
   simp only [Bool.and_eq_true,beq_iff_eq,Bool.not_eq_true']at q
   obtain⟨⟨⟨⟨rfl,rfl⟩,hdel⟩,hdct⟩,ht⟩:=q
   obtain⟨nm,bs,mro,ns,qn,hd,sn,sub,ab,col,del⟩:=cd
   dsimp only at hm hdel hdct
   subst hm hdel hdct
   obtain⟨l⟩:=sl
   dsimp only at hs
   subst hs
   exact⟨nm,qn,ns,bs,bm,sn,sub,ab,col,dd,k0,k1,k2,k3,k5,ho,ht⟩
  ·cases q
 ·cases q
theorem zx9{K:qc}{C:Addr}(q:zsX K C=true):XI K C:=by
 unfold zsX at q
 simp only [Bool.and_eq_true,beq_iff_eq]at q
 obtain⟨⟨⟨⟨⟨⟨⟨h1,h2⟩,h3⟩,h4⟩,h5⟩,h6⟩,h7⟩,h8⟩:=q
 exact⟨⟨zx8 h1,h2,h3,h4⟩,h5,h6,h7,h8⟩
def zp3(K:qc)(n:Str):Option Addr:=match PySem.W.nsIn K mainGlobals n with
 | some (some (.ref C))=>some C
 | _=>none
theorem zmM{K:qc}{n:Str}{C:Addr}(h:XN K n C):zp3 K n=some C:=by
 unfold zp3
 rw [show PySem.W.nsIn K mainGlobals n=some (some (.ref C)) from h]
def zwr(K:qc)(tab:List (Str×List Str))(fl:List Str):Bool:=tab.all fun p=>match zp3 K p.1 with
 | some C=>zsX K C && fl.all (fun f=>PySem.W.findIn K (.ref C) f==some none) && PySem.W.kitOne K (.ref C) (.type "ValueError")==some (p.2.contains ("ValueError":Str)) &&
   tab.all fun p'=>match zp3 K p'.1 with
    | some C'=>PySem.W.kitOne K (.ref C) (.ref C')==some (decide (p'.1=p.1) || p.2.contains p'.1)
    | none=>false
 | none=>false
theorem ze1{β:Type}:∀ {l:List (Str×β)} {n:Str} {b:β},l.lookup n=some b->(n,b)∈l
 | [],_,_,e=>by cases e
 | (m,c)::l,n,b,e=>by
  rw [List.lookup_cons]at e
  cases q:(n==m)with
  | true =>
   rw [q]at e
   cases e
   rw [beq_iff_eq.mp q]
   exact qo
  | false =>
   rw [q]at e
   exact qm _ (ze1 e)
theorem zya{K:qc}{tab:List (Str×List Str)}{fl:List Str}(h:zwr K tab fl=true):XT K tab fl:=by
 unfold zwr at h
 have one:∀ n ups C,tab.lookup n=some ups->XN K n C->(zsX K C && fl.all (fun f=>PySem.W.findIn K (.ref C) f==some none) && PySem.W.kitOne K (.ref C) (.type "ValueError")==some (ups.contains ("ValueError":Str)) &&
   tab.all fun p'=>match zp3 K p'.1 with
    | some C'=>PySem.W.kitOne K (.ref C) (.ref C')==some (decide (p'.1=n) || ups.contains p'.1)
    | none=>false)=true:=fun n ups C hn xn=>by
  have z:=List.all_eq_true.mp h (n,ups) (ze1 hn)
  dsimp only at z
  rw [zmM xn]at z
  exact z
 refine⟨fun n ups C hn xn=>?_,fun n ups C hn xn c C' hc xc=>?_,fun n ups C hn xn=>?_⟩
 ·have z:=one n ups C hn xn
  simp only [Bool.and_eq_true]at z
  refine⟨zx9 z.1.1.1,fun f hf=>?_⟩
  exact beq_iff_eq.mp (List.all_eq_true.mp z.1.1.2 f hf)
 ·have z:=one n ups C hn xn
  simp only [Bool.and_eq_true]at z
  obtain⟨ups',hu'⟩:=Option.isSome_iff_exists.mp hc
  have y:=List.all_eq_true.mp z.2 (c,ups') (ze1 hu')
  dsimp only at y
  rw [zmM xc]at y
  exact beq_iff_eq.mp y
 ·have z:=one n ups C hn xn
  simp only [Bool.and_eq_true]at z
  exact beq_iff_eq.mp z.1.2
section
variable {X:Cx} {K:qc} {C:Addr} {x f:Str} {p pos:Pos} {e:Expr} {es:List Expr} {t:TA} {ta:TE}
end
abbrev RX(α:Type):=(α×En) ⊕ (D×En)
abbrev MX:=En->Option (RX Ar)
abbrev MXA:=En->Option (RX (List Ar))
section
variable {K:qc} {EX:EXT} {pn:List Nat} {ρ ρ':En} {σ σ₀:St} {H H' H₀ H₁:Hp} {A:Addr->Prop}
def mXR(n f:Str)(ma:MA):En->Option (D×En):=fun ρ=>(ma ρ).bind fun p=>(zbc p.2 p.1).bind fun us=>(zcV us).bind fun ds=>match ds with
 | [x]=>some (.dict [(.none,.str n),(.str f,x)],p.2)
 | _=>none
theorem Rs.mv{a:Addr}(r:Rs K ρ σ H)(ea:∃ φ,H a=some (.ext φ))(k:∀ b o,b≠a->H b=some o->H' b=some o):Rs K ρ σ H'/\Kp H H':=by
 obtain⟨φ,ea⟩:=ea
 have kp:Kp H H':=⟨fun b xs h=>k b _ (fun z=>by rw [z,ea]at h; cases h) h,fun b ob u h=>k b _ (fun z=>by rw [z,ea]at h; cases h) h⟩
 refine⟨⟨r.len,fun i u e=>?_,r.apart⟩,kp⟩
 obtain⟨v,ev,p⟩:=r.rep i u e
 refine⟨v,ev,p.kp kp fun o b c eb hb=>?_⟩
 obtain⟨b',c',eb',hb',m⟩:=p.own o
 rw [eb]at eb'
 cases eb'
 rw [hb]at hb'
 cases hb'
 exact k b c (fun z=>by rw [z,ea]at hb; cases hb; exact m) hb
theorem Sn.mv{a:Addr}(s:Sn K pn σ₀ A H₀ H₁ ρ σ H)(hn:H₀ a=none)(ea:∃ φ,H a=some (.ext φ))(k:∀ b o,b≠a->H b=some o->H' b=some o)(dm:∀ b,H' b=none->H b=none):Sn K pn σ₀ A H₀ H₁ ρ σ H':=by
 obtain⟨r,kp⟩:=s.rs.mv ea k
 exact⟨r,fun b o h n=>k b o (fun z=>by rw [z,hn]at h; cases h) (s.fr b o h n),s.ow,s.pin,fun b h=>s.dm b (dm b h),s.kp.trans kp⟩
theorem Sn.clear{i:Nat}(s:Sn K pn σ₀ A H₀ H₁ ρ σ H)(hi:i∉pn):Sn K pn σ₀ A H₀ H₁ (ρ.set i none) (σ.set i none) H:=by
 have inv:∀ (j:Nat) (w:U),(ρ.set i none)[j]?=some (some w)->j≠i/\ρ[j]?=some (some w):=fun j w e=>by
  by_cases hj:i=j
  ·subst hj
   have hl:=(qk.mp e).1
   rw [List.length_set]at hl
   rw [List.getElem?_set_self hl]at e
   cases e
  ·rw [qB hj]at e
   exact⟨Ne.symm hj,e⟩
 have sat:∀ j,j≠i->(σ.set i none)[j]?=σ[j]?:=fun j h=>qB (Ne.symm h)
 refine⟨⟨by rw [List.length_set,List.length_set]; exact s.rs.len,fun j w e=>?_,fun j k x y ej ek ox oy es=>?_⟩,s.fr,fun j w a e o es=>?_,fun j hj=>?_,s.dm,s.kp⟩
 ·obtain⟨hj,e'⟩:=inv j w e
  rw [sat j hj]
  exact s.rs.rep j w e'
 ·obtain⟨hj,ej'⟩:=inv j x ej
  obtain⟨hk,ek'⟩:=inv k y ek
  rw [sat j hj,sat k hk]at es
  exact s.rs.apart j k x y ej' ek' ox oy es
 ·obtain⟨hj,e'⟩:=inv j w e
  rw [sat j hj]at es
  exact s.ow j w a e' o es
 ·rw [sat j (fun z=>hi (z▸hj))]
  exact s.pin j hj
def under(tab:List (Str×List Str))(c:Str):D->Bool
 | .dict ((.none,.str n)::_)=>match tab.lookup n with | some ups=>ups.contains c | none=>false
 | _=>false
end
section
variable {X:Cx} {EX:EXT} {k:Nat} {ps:List Str} {sp:Sp} {x:Str} {p pos:Pos} {e:Expr} {es:List Expr} {t:TA}
end
section
variable {K:qc} {EX:EXT} {pn:List Nat} {ρ ρ':En} {σ σ₀:St} {H H' H₀ H₁:Hp} {A:Addr->Prop}
end
section
variable {X:Cx} {K:qc} {C:Addr} {x f:Str} {p pos:Pos} {e:Expr} {es:List Expr} {t:TA} {te:TE} {EX:EXT}
end
def tyD:D->Option String
 | .none=>some "NoneType"
 | .bool _=>some "bool"
 | .int _=>some "int"
 | .str _=>some "str"
 | .tuple _=>some "tuple"
 | _=>none
def tyU:U->Option String
 | .d x=>tyD x
 | .l _=>some "list"
 | _=>none
def isT(t T:String):Bool:=t==T || (t == "bool" && T == "int")
def zp4:List String:=["NoneType", "bool", "int", "str", "tuple", "list"]
theorem zsY(K:qc):∀ t∈zp4,∀ T∈["int", "bool", "str", "tuple", "list"],PySem.W.kitOne K (.type t) (.type T)=some (isT t T):=by
 have hm:∀ T∈["int", "bool", "str", "tuple", "list"],PySem.W.kitMeta T=true:=by decide +kernel
 have hs:∀ t∈zp4,∀ T∈["int", "bool", "str", "tuple", "list"],(PySem.fastBuiltinMro t).map (·.contains (Value.type T))=some (isT t T):=by decide +kernel
 intro t ht T hT
 unfold PySem.W.kitOne
 split
 ·rename_i q
  have e:t=T:=Value.type.inj (beq_iff_eq.mp q)
  subst e
  unfold isT
  simp
 ·unfold PySem.W.kitCls PySem.W.subIn
  simp only [hm T hT,if_true]
  exact hs t ht T hT
def zsZ(T:String)(u:U):Option U:=(tyU u).bind fun t=>if t∈zp4/\T∈["int", "bool", "str", "tuple", "list"]then some (.d (.bool (isT t T)))else none
section
variable {K:qc}
theorem zws{H:Hp}{v:V}{u:U}{t:String}(h:Rp K H v u)(e:tyU u=some t):TyOf K H v (.type t):=by
 cases u with
 | d x =>
  cases x with
  | none=>cases e; cases h; exact .non
  | bool b=>cases e; cases DF.bl_inv h; exact .bl _
  | int i=>cases e; cases DF.int_inv h; exact .int _
  | str x=>cases e; cases DF.str_inv h; exact .str _
  | tuple ds=>cases e; obtain⟨a,ys,rfl,h1,_⟩:=DF.tup_inv h; exact .tup h1
  | list ds=>cases e
  | dict ds=>cases e
 | l xs=>cases e; obtain⟨a,us,rfl,h1,_⟩:=h; exact .lst h1
 | t kvs=>cases e
 | k kvs=>cases e
theorem zyb{T:String}{te:TE}{me:ME}(h:VE K te me):VE K (tCB (zvM K) (zfi te (zfi (tC (.ty T)) zk5))) (mUn (zsZ T) me):=by
 intro ρ σ H a ρ' Q rs e q
 obtain⟨⟨a1,ρ1⟩,e1,e⟩:=zb e
 obtain⟨x,ex,e⟩:=zb e
 obtain⟨u,eu,e⟩:=zb e
 cases e
 refine h ρ σ H a1 _ _ rs e1 fun v1 H1 g1 k1=>?_
 have p:=k1.now rs g1 ex
 unfold zsZ at eu
 obtain⟨t,et,eu⟩:=zb eu
 split at eu
 ·rename_i hc
  cases eu
  exact⟨v1,.type t,T,_,rfl,zws p et,zsY K t hc.1 T hc.2,q _ _ g1 ⟨DF.bl _,Nw.data⟩⟩
 ·cases eu
def zlE(x:D)(ds:List D):Option Bool:=(flD x).bind fun w=>(ds.mapM flD).bind fun ws=>some (inV w ws)
def fIn(neg:Bool)(a b:U):Option U:=match a with
 | .d x=>b.items.bind fun ds=>(zlE x ds).bind fun r=>some (.d (.bool (if neg=true then !r else r)))
 | _=>none
theorem zmN(neg:Bool):VO K (rIn K neg) (fIn neg):=by
 intro x y a b u H Q ha hb e q
 cases a with
 | d d =>
  obtain⟨ds,e1,e⟩:=zb (show b.items.bind _=some u from e)
  obtain⟨r,e2,e⟩:=zb e
  obtain⟨w,e3,e2⟩:=zb e2
  obtain⟨ws,e4,e2⟩:=zb e2
  cases e2
  cases e
  obtain⟨p,ys,rfl,sq,df⟩:=hb.items e1
  obtain⟨rfl,f1⟩:=zmK ha e3
  obtain⟨rfl,f2⟩:=zmL df e4
  exact⟨p,_,rfl,sq,f1,f2,q _ _ (zbf.refl H) (by cases neg<;>exact DF.bl _) Nw.data⟩
 | _=>cases e
def zj8:U->U->Option U
 | .d (.str z),.d (.int n)=>if 0<=n/\n<=1 then some (.d (.str (znV z n)))else none
 | _,_=>none
theorem zs0:VO K (fun x y H Q=>∃ z n,x=.str z/\y=.int n/\0<=n/\n<=1/\Q (.str (znV z n)) H) zj8:=by
 intro x y a b u H Q ha hb e q
 unfold zj8 at e
 split at e
 ·split at e
  ·rename_i z n hc
   cases e
   exact⟨z,n,DF.str_inv ha,DF.int_inv hb,hc.1,hc.2,q _ _ (zbf.refl H) (DF.str _) Nw.data⟩
  ·cases e
 ·cases e
end
section
variable {X:Cx} {K:qc}
end
section
variable {prog:Program} {w:World} {A:Around} {R:Result->Shared->Prop} {I:Addr} {fp wr:List Addr} {G:Array GenState->Array GenState->Prop} {ks:List Key} {P:Nat->Value->Prop} {St:Nat->Shared->Prop}
end
section
variable {prog:Program} {w:World} {A:Around} {E:Value->Shared->Prop} {s:Shared}
end
section
variable {X:Cx} {K:qc}
def zp5(K:qc):R2:=fun x y H Q=>zoX K x y H Q\/∃ a b,x=.ref a/\y=.ref b/\SqT K H a []/\(∃ ys,SqT K H b ys)/\Q y H
end
section
variable {X:Cx} {K:qc}
theorem zs1{prog:Program}{w:World}{A:Around}{E:Value->Shared->Prop}{s:Shared}{t b:Addr}{ws:List Value}{Q:Value->Shared->Prop}(ht:IsTup s.heap t #[])(hb:IsTup s.heap b ws.toArray)(h:Q (.ref b) s):wpAny (model prog w) A (binaryOp .Add (.ref t) (.ref b)) Q E s:=by
 obtain⟨⟨c1,d1,o1,s1⟩,h1,z1,n1,y1⟩:=id ht
 obtain⟨⟨c2,d2,o2,s2⟩,h2,z2,n2,y2⟩:=id hb
 cases(show c1=_ from z1)
 cases(show c2=_ from z2)
 cases(show o1=_ from y1)
 cases(show o2=_ from y2)
 have mt:=tuple_addW0 t b #[] ws.toArray n1 n2 d1 d2 s1 s2 rfl
 exact concat_meets ⟨_,h1,rfl⟩ ⟨_,h2,rfl⟩ noFill_tuple_add seq_tuple_add PySem.F.slot_tuple_add PySem.F.entry_tuple_add (PySem.F.args_tuple_add_2 _ _) mt ⟨h1,h2,h⟩
theorem zd8(K:qc)(hK:X.K=K):OpR X (binaryOp .Add) (zp5 K):=by
 subst hK
 intro pins s σ H x y v u Q I rx ry h
 rcases h with h | ⟨a,b,rfl,rfl,ha,⟨ys,hb⟩,q⟩
 ·exact zsp pins s σ H x y v u Q I rx ry h
 ·cases rx
  cases ry
  obtain⟨its,r1,p1,_⟩:=I.tuple ha
  obtain⟨its2,r2,p2,_⟩:=I.tuple hb
  cases r1
  exact zs1 p1 p2 ⟨.ref b,H,I,rfl,q⟩
def zdO:U->U->Option U
 | .d (.tuple []),.d (.tuple ys)=>some (.d (.tuple ys))
 | a,b=>zj2 a b
theorem zd9:VO K (zp5 K) zdO:=by
 intro x y a b u H Q ha hb e q
 unfold zdO at e
 split at e
 ·cases e
  obtain⟨p,us,rfl,h1,h2⟩:=DF.tup_inv ha
  obtain⟨p',us',rfl,h1',h2'⟩:=DF.tup_inv hb
  cases h2
  exact .inr ⟨p,p',rfl,rfl,(TpK.sq h1),⟨us',(TpK.sq h1')⟩,q _ _ (zbf.refl H) hb Nw.data⟩
 ·exact .inl (zsI x y _ _ u H Q ha hb e q)
end
def GTi(K:qc)(g:Addr)(ns:List Int):Prop:=∃ (o:Obj) (its:Array Value) (n:Nat),K.lookup g=some o/\o.cls=.type "tuple"/\o.data=.seq its n/\its.size<=sizeLine/\zN (ns.map V.int) its.toList
section
variable {X:Cx} {K:qc}
theorem GTi.sq{g:Addr}{ns:List Int}{H:Hp}(h:GTi K g ns):SqT K H g (ns.map V.int):=.inr h
theorem zj9{H:Hp}:∀ (ns:List Int),DVs K H (ns.map V.int) (ns.map PyData.int)
 | []=>.nil
 | n::ns=>.cons (.int n) (zj9 ns)
theorem GTi.dv{g:Addr}{ns:List Int}{H:Hp}(h:GTi K g ns):DV K H (.ref g) (.tuple (ns.map PyData.int)):=.tup h.sq (zj9 ns)
def zwt(neg:Bool)(ns:List Int)(a:U):Option U:=zn0 neg a (.d (.tuple (ns.map PyData.int)))
theorem zyc{neg:Bool}{g:Addr}{ns:List Int}{te:TE}{me:ME}(gt:GTi K g ns)(h:VE K te me):VE K (tOp (zvU K neg) te (tC (.ref g))) (mUn (zwt neg ns) me):=by
 intro ρ σ H a ρ' Q rs e q
 obtain⟨⟨a1,ρ1⟩,e1,e⟩:=zb e
 obtain⟨x,ex,e⟩:=zb e
 obtain⟨u,eu,e⟩:=zb e
 cases e
 refine h ρ σ H a1 _ _ rs e1 fun v1 H1 g1 k1=>?_
 have p:=k1.now rs g1 ex
 obtain⟨dx,e2,eu⟩:=zb eu
 obtain⟨dy,e3,eu⟩:=zb eu
 cases e3
 split at eu
 ·rename_i hs
  cases eu
  exact⟨dx,_,p.dv e2 (zdL _ (SeqAt.canLay_of_shaped hs.1)),gt.dv,hs.1,hs.2,q _ _ g1 ⟨DF.bl _,Nw.data⟩⟩
 ·cases eu
end
theorem nr{α:Sort _}{a b:α}(h:a=b):a=b:=h
structure Ph {α:Type} (a:α):Type where
 n:Nat
def Wo{α:Type}(o:Option α)(Q:α->Prop):Prop:=∃ a,o=some a/\Q a
def Co{α β:Type}(f:α->Option β)(t:Ph f)(Q:β->Prop)(a:α):Prop:=Wo (f a) Q
section
variable {α β:Type} {a:α} {o:Option α} {f:α->Option β} {Q:α->Prop} {R:β->Prop}
theorem zbW:Wo (some a) Q=Q a:=propext ⟨fun⟨_,e,h⟩=>(by cases e; exact h),fun h=>⟨a,rfl,h⟩⟩
theorem zu:Wo (o.bind f) R=Wo o (Co f ⟨0⟩ R):=propext (by
 cases o with
 | none=>exact⟨fun⟨_,e,_⟩=>(by cases e),fun⟨_,e,_⟩=>(by cases e)⟩
 | some a=>rw [zbW]; exact Iff.rfl)
theorem zdC{t:Ph f}:Co f t R a=Wo (f a) R:=rfl
theorem zgq{c:Prop}[Decidable c]{x y:Option α}(h:c->Wo x Q)(h':¬c->Wo y Q):Wo (if c then x else y) Q:=by
 split
 ·exact h ‹_›
 ·exact h' ‹_›
end
section
variable {ρ:En} {me ma mb mc mk mi md my mv mo:ME} {mA mK:MA} {mt mu:MT} {mI:MI} {mg:MG} {m1 m2:MS} {i j n:Nat} {u:U} {x:D} {mx:MX} {mXA:MXA}
variable {QE:Ar×En->Prop} {QA:List Ar×En->Prop} {QT:Bool×En->Prop} {QS:Fl->Prop} {QI:List D×En->Prop} {QO:Option Int×En->Prop} {QG:En->Prop} {QX:RX Ar->Prop} {QXA:RX (List Ar)->Prop} {QR:D×En->Prop} {QF:U×List U->Prop} {QFX:(U×List U) ⊕ (D×List U)->Prop}
theorem zp6:Wo (zi i ρ) QE=Wo (ρ[i]?).join (Co (fun _=>some (.s i,ρ)) ⟨0⟩ QE):=by rw [zv4,zu]
theorem zyd:Wo (mC x ρ) QE=QE (.u (.d x),ρ):=by rw [zyL,zbW]
def zs2(f:U->U->Option U)(a:Ar)(q:Ar×En):Option (Ar×En):=(a.get q.2).bind fun x=>(q.1.get q.2).bind fun y=>(f x y).bind fun u=>some (.u u,q.2)
def kOp(f:U->U->Option U)(mb:ME)(p:Ar×En):Option (Ar×En):=(mb p.2).bind (zs2 f p.1)
theorem zuo{f:U->U->Option U}:Wo (mOp f ma mb ρ) QE=Wo (ma ρ) (Co (kOp f mb) ⟨0⟩ QE):=by rw [zxB,zu]; rfl
theorem zp7{f:U->U->Option U}{p:Ar×En}:Wo (kOp f mb p) QE=Wo (mb p.2) (Co (zs2 f p.1) ⟨0⟩ QE):=by unfold kOp; rw [zu]
theorem zmO{f:U->U->Option U}{a:Ar}{q:Ar×En}:Wo (zs2 f a q) QE=Wo (a.get q.2) (Co (fun x=>(q.1.get q.2).bind fun y=>(f x y).bind fun u=>some (.u u,q.2)) ⟨0⟩ QE):=by unfold zs2; rw [zu]
theorem zup{f:U->Option U}:Wo (mUn f ma ρ) QE=Wo (ma ρ) (Co (fun p=>(p.1.get p.2).bind fun x=>(f x).bind fun u=>some (.u u,p.2)) ⟨0⟩ QE):=by rw [zxC,zu]
theorem zp8:Wo (zr ρ) QA=QA ([],ρ):=by rw [zv5,zbW]
theorem zmP:Wo (zf me mA ρ) QA=Wo (me ρ) (Co (fun p=>(mA p.2).bind fun q=>some (p.1::q.1,q.2)) ⟨0⟩ QA):=by rw [zsL,zu]
theorem zp9:Wo (zbg mA ρ) QE=Wo (mA ρ) (Co (fun p=>(zbc p.2 p.1).bind fun us=>(zcV us).bind fun ds=>if ds.length<=sizeLine then some (.u (.d (.tuple ds)),p.2)else none) ⟨0⟩ QE):=by rw [zv6,zu]
theorem zqa:Wo (zf2 mA ρ) QE=Wo (mA ρ) (Co (fun p=>(zbc p.2 p.1).bind fun us=>(zcV us).bind fun ds=>if ds.length<=sizeLine then some (.u (.l ds),p.2)else none) ⟨0⟩ QE):=by rw [zv7,zu]
theorem zuq{f:List U->Option U}:Wo (mCB f mA ρ) QE=Wo (mA ρ) (Co (fun p=>(zbc p.2 p.1).bind fun us=>(f us).bind fun u=>some (.u u,p.2)) ⟨0⟩ QE):=by rw [zxD,zu]
theorem zqb{f:FD}:Wo (zao f mA ρ) QE=Wo (mA ρ) (Co (fun p=>if zd1 p.2 p.1=true then(zbc p.2 p.1).bind fun us=>(f us).bind fun o=>some (.u o.1,wb p.2 p.1 o.2)else none) ⟨0⟩ QE):=by rw [zv8,zu]
theorem zqc:Wo (zF m1 m2 ρ) QS=Wo (m1 ρ) (Co (zsM m2) ⟨0⟩ QS):=by rw [zwa,zu]
theorem zqd:Wo (zY i me ρ) QS=Wo (me ρ) (Co (fun p=>(put p).bind fun q=>some (.nx (q.2.set i (some q.1)))) ⟨0⟩ QS):=by rw [zwb,zu]
theorem zqe:Wo (zbB me ρ) QS=Wo (me ρ) (Co (fun p=>(put p).bind fun q=>some (.rt q.1 q.2)) ⟨0⟩ QS):=by rw [zwc,zu]
theorem zmQ{pn:List Nat}:Wo (zft pn i ρ) QS=Wo (if i∈pn then none else(ρ[i]?).join.bind fun u=>some (.rt u (ρ.set i none))) QS:=by rw [zsN]
theorem zmR:Wo (zbA ρ) QS=QS (.nx ρ):=by rw [zsO,zbW]
theorem zmS:Wo (zgn me ρ) QS=Wo (me ρ) (Co (fun p=>some (.nx p.2)) ⟨0⟩ QS):=by rw [zsP,zu]
theorem zqf:Wo (zcL mt m1 m2 ρ) QS=Wo (mt ρ) (Co (fun p=>if p.1=true then m1 p.2 else m2 p.2) ⟨0⟩ QS):=by rw [zwd,zu]
theorem zqg:Wo (mIf mt ma mb ρ) QE=Wo (mt ρ) (Co (fun p=>if p.1=true then ma p.2 else mb p.2) ⟨0⟩ QE):=by rw [zxG,zu]
theorem zye:Wo (mB me ρ) QT=Wo (me ρ) (Co (fun p=>(p.1.get p.2).bind fun u=>u.bol.bind fun b=>some (b,p.2)) ⟨0⟩ QT):=by rw [zyM,zu]
theorem zqh:Wo (zlr mt mu ρ) QT=Wo (mt ρ) (Co (fun p=>if p.1=true then mu p.2 else some (false,p.2)) ⟨0⟩ QT):=by rw [zwe,zu]
theorem zur:Wo (mOr mt mu ρ) QT=Wo (mt ρ) (Co (fun p=>if p.1=true then some (true,p.2)else mu p.2) ⟨0⟩ QT):=by rw [zxH,zu]
theorem zqi:Wo (zpu mt ρ) QT=Wo (mt ρ) (Co (fun p=>some (!p.1,p.2)) ⟨0⟩ QT):=by rw [zwf,zu]
theorem zqj:Wo (zpw ma ρ) QT=Wo (ma ρ) (Co (fun p=>(p.1.get p.2).bind fun u=>u.tru.bind fun b=>some (b,p.2)) ⟨0⟩ QT):=by rw [zwg,zu]
theorem zqk:Wo (zhj ρ) QT=QT (true,ρ):=by rw [zwh,zbW]
theorem zql:Wo (zhQ i me ρ) QE=Wo (ρ[i]?).join (Co (fun w=>w.lo.bind fun _=>(me ρ).bind fun p=>(p.1.get p.2).bind fun u=>u.da.bind fun x=>(p.2[i]?).join.bind fun w=>w.lo.bind fun xs=>if xs.length < sizeLine then some (.u (.d .none),p.2.set i (some (.l (xs++[x]))))else none) ⟨0⟩ QE):=by rw [zwi,zu]
theorem zka:Wo (zeZ i me mi ρ) QS=Wo (ρ[i]?).join (Co (fun _=>(me ρ).bind fun p=>(mi p.2).bind fun q=>(p.1.get q.2).bind fun u=>(q.1.get q.2).bind fun w=>u.da.bind fun x=>w.num.bind fun k=>(q.2[i]?).join.bind fun z=>z.lo.bind fun xs=>(ixN xs.length k).bind fun j=>some (.nx (q.2.set i (some (.l (xs.set j x)))))) ⟨0⟩ QS):=by rw [zpQ,zu]
def zix(w:U)(y x:D):Option U:=match w with
 | .t kvs=>(za2 y).bind fun k=>if kvs.length < sizeLine then some (.t (zf6 kvs k x))else none
 | .k kvs=>(zlw y).bind fun k=>if kvs.length < sizeLine then some (.k (zf6 kvs k x))else none
 | _=>none
theorem zs3:zdT i my mv ρ=(ρ[i]?).join.bind fun _=>(mv ρ).bind fun p=>(my p.2).bind fun q=>(p.1.get q.2).bind fun x=>(q.1.get q.2).bind fun y=>x.da.bind fun x=>y.da.bind fun y=>(q.2[i]?).join.bind fun w=>(zix w y x).bind fun z=>some (.nx (q.2.set i (some z))):=by
 unfold zdT
 refine bind_fn fun _=>bind_fn fun p=>bind_fn fun q=>bind_fn fun x=>bind_fn fun y=>?_
 cases x with
 | l=>rfl
 | t=>rfl
 | k=>rfl
 | d x =>
  cases y with
  | l=>rfl
  | t=>rfl
  | k=>rfl
  | d y =>
   show _=((q.2[i]?).join.bind _)
   cases q.2[i]? with
   | none=>rfl
   | some o =>
    cases o with
    | none=>rfl
    | some w =>
     cases w with
     | l=>rfl
     | d=>rfl
     | t kvs =>
      show(za2 y).bind _=((za2 y).bind _).bind _
      cases za2 y with
      | none=>rfl
      | some k =>
       show(if _ then _ else _)=(if _ then _ else _:Option U).bind _
       split<;>rfl
     | k kvs =>
      show(zlw y).bind _=((zlw y).bind _).bind _
      cases zlw y with
      | none=>rfl
      | some k =>
       show(if _ then _ else _)=(if _ then _ else _:Option U).bind _
       split<;>rfl
theorem zmT:Wo (zdT i my mv ρ) QS=Wo (ρ[i]?).join (Co (fun _=>(mv ρ).bind fun p=>(my p.2).bind fun q=>(p.1.get q.2).bind fun x=>(q.1.get q.2).bind fun y=>x.da.bind fun x=>y.da.bind fun y=>(q.2[i]?).join.bind fun w=>(zix w y x).bind fun z=>some (.nx (q.2.set i (some z)))) ⟨0⟩ QS):=by rw [zs3,zu]
theorem zmU:Wo (zc9 md my ρ) QE=Wo (md ρ) (Co (fun p=>(my p.2).bind fun q=>(p.1.get q.2).bind fun u=>(q.1.get q.2).bind fun y=>(zhR u y).bind fun o=>o.bind fun d=>some (.u (.d d),q.2)) ⟨0⟩ QE):=by rw [zsQ,zu]
theorem zkb:Wo (zcX ρ) QE=QE (.u (.t []),ρ):=by rw [zpR,zbW]
theorem zus:Wo (mFz me ρ) QE=Wo (me ρ) (Co (fun p=>(p.1.get p.2).bind fun u=>u.fz.bind fun x=>some (.u (.d x),kFz x p)) ⟨0⟩ QE):=by rw [zxK,zu]
theorem zut{g:U->Option (List D)}:Wo (mIt g me ρ) QI=Wo (me ρ) (Co (fun p=>(p.1.get p.2).bind fun u=>(g u).bind fun ds=>some (ds,p.2)) ⟨0⟩ QI):=by rw [zxO,zu]
theorem zuu{n:Int}(h:-4611686018427387904<=n)(h2:n < 4611686018427387904):zsR [.d (.int n)]=some (zaR 0 n.toNat):=by rw [zwj,if_pos ⟨by omega,by omega⟩]
theorem zmV:Wo (zd2 mA ρ) QI=Wo (mA ρ) (Co (fun p=>(zbc p.2 p.1).bind fun us=>(zsR us).bind fun ds=>some (ds,p.2)) ⟨0⟩ QI):=by rw [zsS,zu]
def zyY:List U->Option (List D)
 | [.d (.int i),.d (.int j)]=>if -(2^62)<=i/\i < 2^62/\-(2^62)<=j/\j < 2^62 then some (zaR i (j - i).toNat)else none
 | _=>none
def zqm:List U->Option (List D)
 | [.d (.tuple ds)]=>some (zcW 0 ds)
 | _=>none
theorem zmW{ds:List D}:zqm [.d (.tuple ds)]=some (zcW 0 ds):=rfl
theorem zs4:zms mA ρ=(mA ρ).bind fun p=>(zbc p.2 p.1).bind fun us=>(zqm us).bind fun ds=>some (ds,p.2):=bind_fn fun p=>bind_fn fun us=>by
 match us with
 | []=>rfl
 | [.d x]=>cases x<;>rfl
 | [.l _]=>rfl
 | [.t _]=>rfl
 | [.k _]=>rfl
 | .d x::b::us=>cases x<;>rfl
 | .l x::b::us=>rfl
 | .t x::b::us=>rfl
 | .k x::b::us=>rfl
theorem zmX:Wo (zms mA ρ) QI=Wo (mA ρ) (Co (fun p=>(zbc p.2 p.1).bind fun us=>(zqm us).bind fun ds=>some (ds,p.2)) ⟨0⟩ QI):=by rw [zs4,zu]
theorem zqn:Wo (zcI mI mg m1 ρ) QS=Wo (mI ρ) (Co (fun p=>zcz mg m1 p.1 p.2) ⟨0⟩ QS):=by rw [zwk,zu]
theorem zqo{nt:Nat}{js:List Nat}:Wo (mLC mI nt js mg mt me ρ) QE=Wo (mI ρ) (Co (fun p=>(lcM nt mg mt me p.1 (cEn nt js p.2) []).bind fun q=>some (.u (.l q.1),back js (q.2.drop nt) p.2)) ⟨0⟩ QE):=by rw [zxP,zu]
theorem zuv{f:U->Option Int->Option Int->Option U}{ml mh:MO}:Wo (mSl f me ml mh ρ) QE=Wo (me ρ) (Co (fun p=>(ml p.2).bind fun l=>(mh l.2).bind fun h=>(p.1.get h.2).bind fun x=>(f x l.1 h.1).bind fun u=>some (.u u,h.2)) ⟨0⟩ QE):=by rw [zxQ,zu]
theorem ziy:Wo (zdb ρ) QO=QO (none,ρ):=by rw [zoa,zbW]
theorem zmY:Wo (zgo me ρ) QO=Wo (me ρ) (Co (fun p=>(p.1.get p.2).bind fun u=>u.num.bind fun i=>some (some i,p.2)) ⟨0⟩ QO):=by rw [zsT,zu]
theorem zqp:Wo (zn3 i j mA ρ) QS=Wo (mA ρ) (Co (fun p=>(zbc p.2 p.1).bind fun us=>(zwl us).bind fun z=>some (.nx ((p.2.set i (some (.d z.1))).set j (some (.d z.2))))) ⟨0⟩ QS):=by rw [zwm,zu]
theorem zqq:Wo (zlt me mg ρ) QS=Wo (me ρ) (Co (fun p=>(p.1.get p.2).bind fun u=>u.da.bind fun d=>(mg d p.2).bind fun ρ'=>some (.nx ρ')) ⟨0⟩ QS):=by rw [zwn,zu]
theorem zkc:Wo (zB i x ρ) QG=QG (ρ.set i (some (.d x))):=by rw [zpV,zbW]
theorem zmZ{gs:List D->En->Option En}{ds:List D}:Wo (zbC n gs (.tuple ds) ρ) QG=Wo (if ds.length=n then gs ds ρ else none) QG:=by rw [zsU]
theorem zkd{g:MG}{gs:List D->En->Option En}{ds:List D}:Wo (zV g gs (x::ds) ρ) QG=Wo (g x ρ) (Co (fun ρ1=>gs ds ρ1) ⟨0⟩ QG):=by rw [zpW,zu]
theorem zm0:Wo (zbV [] ρ) QG=QG ρ:=by rw [zsV,zbW]
theorem zuw{ty:U->Bool}{f:U->U->Option U}:Wo (mM1 ty f mo ma ρ) QE=Wo (mo ρ) (Co (fun p=>(p.1.get p.2).bind fun x0=>if ty x0=true then(ma p.2).bind fun q=>(p.1.get q.2).bind fun x=>(q.1.get q.2).bind fun y=>(f x y).bind fun u=>some (.u u,q.2)else none) ⟨0⟩ QE):=by
 show Wo (Option.bind _ _) QE=_
 rw [zu]
theorem zux{z:Str}:tyS (.d (.str z))=true:=rfl
def x1:List D->Option D
 | [x]=>some x
 | _=>none
theorem zqr{pn:List Nat}{us:List U}:Wo (zbZ n pn m1 us) QF=Wo (m1 (sm us++List.replicate (n - us.length) none)) (Co (zwo pn us) ⟨0⟩ QF):=by rw [zwp,zu]
def zke(Q:Fl->Prop)(P:En->Prop):Fl->Prop
 | .nx ρ=>P ρ
 | .ct ρ=>P ρ
 | .bk ρ=>Q (.nx ρ)
 | .rt u ρ=>Q (.rt u ρ)
 | .ex x ρ=>Q (.ex x ρ)
theorem zkf{Q:Fl->Prop}{P:En->Prop}:zke Q P (.nx ρ)=P ρ:=rfl
theorem zfD{Q:Fl->Prop}(P:Nat->En->Prop){ds:List D}(h0:P 0 ρ)(st:∀ i d ρ,ds[i]?=some d->P i ρ->Wo (mg d ρ) (Co m1 ⟨0⟩ (zke Q (P (i+1)))))(hQ:∀ ρ,P ds.length ρ->Q (.nx ρ)):Wo (zcz mg m1 ds ρ) Q:=by
 have main:∀ (es:List D) (n:Nat) (ρ:En),n+es.length=ds.length->(∀ i,es[i]?=ds[n+i]?)->P n ρ->Wo (zcz mg m1 es ρ) Q:=by
  intro es
  induction es with
  | nil =>
   intro n ρ hn _ hp
   show Wo (some _) Q
   rw [zbW]
   rw [List.length_nil,Nat.add_zero]at hn
   exact hQ ρ (hn▸hp)
  | cons d es ih =>
   intro n ρ hn he hp
   have e0:=he 0
   rw [List.getElem?_cons_zero,Nat.add_zero]at e0
   obtain⟨ρ1,e1,f,e2,k⟩:=st n d ρ e0.symm hp
   have nxt:∀ ρ2,P (n+1) ρ2->Wo (zcz mg m1 es ρ2) Q:=fun ρ2 z=>ih (n+1) ρ2 (by rw [qt]at hn; omega) (fun i=>by
    have:=he (i+1)
    rw [List.getElem?_cons_succ]at this
    rw [this,show n+(i+1)=n+1+i by omega]) z
   unfold zcz
   rw [zu]
   refine⟨ρ1,e1,?_⟩
   rw [zdC,zu]
   refine⟨f,e2,?_⟩
   rw [zdC]
   cases f with
   | nx ρ2=>exact nxt ρ2 k
   | ct ρ2=>exact nxt ρ2 k
   | bk ρ2=>exact⟨_,rfl,k⟩
   | rt u ρ2=>exact⟨_,rfl,k⟩
   | ex x ρ2=>exact⟨_,rfl,k⟩
 exact main ds 0 ρ (by omega) (fun i=>by rw [Nat.zero_add]) h0
theorem za3{α:Type}{g:α->D}{Q:Fl->Prop}(P:List α->List α->En->Prop){as:List α}(h0:P [] as ρ)(st:∀ bs a cs ρ,as=bs++a::cs->P bs (a::cs) ρ->Wo (mg (g a) ρ) (Co m1 ⟨0⟩ (zke Q (P (bs++[a]) cs))))(hQ:∀ ρ,P as [] ρ->Q (.nx ρ)):Wo (zcz mg m1 (as.map g) ρ) Q:=by
 have main:∀ (cs bs:List α) (ρ:En),as=bs++cs->P bs cs ρ->Wo (zcz mg m1 (cs.map g) ρ) Q:=by
  intro cs
  induction cs with
  | nil =>
   intro bs ρ e hp
   rw [List.append_nil]at e
   subst e
   exact⟨_,rfl,hQ ρ hp⟩
  | cons a cs ih =>
   intro bs ρ e hp
   obtain⟨ρ1,e1,f,e2,k⟩:=st bs a cs ρ e hp
   have nxt:∀ ρ2,P (bs++[a]) cs ρ2->Wo (zcz mg m1 (cs.map g) ρ2) Q:=fun ρ2 z=>ih (bs++[a]) ρ2 (by rw [e,List.append_assoc]; rfl) z
   rw [List.map_cons]
   unfold zcz
   rw [zu]
   refine⟨ρ1,e1,?_⟩
   rw [zdC,zu]
   refine⟨f,e2,?_⟩
   rw [zdC]
   cases f with
   | nx ρ2=>exact nxt ρ2 k
   | ct ρ2=>exact nxt ρ2 k
   | bk ρ2=>exact⟨_,rfl,k⟩
   | rt u ρ2=>exact⟨_,rfl,k⟩
   | ex x ρ2=>exact⟨_,rfl,k⟩
 exact main as [] ρ rfl h0
def kLC(nt:Nat)(me:ME)(ys:List D)(P:En->List D->Prop)(p:Bool×En):Prop:=if p.1=true then Wo (me p.2) (Co (fun q=>(q.1.get q.2).bind fun u=>u.da.bind fun y=>some (reset nt q.2,ys++[y])) ⟨0⟩ fun z=>P z.1 z.2)else P (reset nt p.2) ys
theorem zqs{nt:Nat}{ys:List D}{P:En->List D->Prop}:kLC nt me ys P (true,ρ)=Wo (me ρ) (Co (fun q=>(q.1.get q.2).bind fun u=>u.da.bind fun y=>some (reset nt q.2,ys++[y])) ⟨0⟩ fun z=>P z.1 z.2):=rfl
theorem zuy{nt:Nat}{ys:List D}{P:En->List D->Prop}:kLC nt me ys P (false,ρ)=P (reset nt ρ) ys:=rfl
theorem zuz{nt:Nat}{Q:List D×En->Prop}(P:Nat->En->List D->Prop){ds:List D}(hz:ds.length<=sizeLine)(hP:∀ i ρ ys,P i ρ ys->ys.length<=i)(h0:P 0 ρ [])(st:∀ i d ρ ys,ds[i]?=some d->P i ρ ys->Wo (mg d ρ) (Co mt ⟨0⟩ (kLC nt me ys (P (i+1)))))(hQ:∀ ρ ys,P ds.length ρ ys->Q (ys,ρ)):Wo (lcM nt mg mt me ds ρ []) Q:=by
 have main:∀ (es:List D) (n:Nat) (ρ:En) (ys:List D),n+es.length=ds.length->(∀ i,es[i]?=ds[n+i]?)->P n ρ ys->Wo (lcM nt mg mt me es ρ ys) Q:=by
  intro es
  induction es with
  | nil =>
   intro n ρ ys hn _ hp
   rw [List.length_nil,Nat.add_zero]at hn
   exact⟨_,rfl,hQ ρ ys (hn▸hp)⟩
  | cons d es ih =>
   intro n ρ ys hn he hp
   have e0:=he 0
   rw [List.getElem?_cons_zero,Nat.add_zero]at e0
   obtain⟨ρ1,e1,⟨b,ρ2⟩,e2,k⟩:=st n d ρ ys e0.symm hp
   have hl:=hP _ _ _ hp
   rw [qt]at hn
   have nxt:∀ ρ2 ys2,P (n+1) ρ2 ys2->Wo (lcM nt mg mt me es ρ2 ys2) Q:=fun ρ2 ys2 z=>ih (n+1) ρ2 ys2 (by omega) (fun i=>by
    have:=he (i+1)
    rw [List.getElem?_cons_succ]at this
    rw [this,show n+(i+1)=n+1+i by omega]) z
   unfold lcM
   rw [if_pos (by omega),zu]
   refine⟨ρ1,e1,?_⟩
   rw [zdC,zu]
   refine⟨_,e2,?_⟩
   rw [zdC]
   cases b with
   | false=>rw [if_neg qf]; exact nxt _ _ k
   | true =>
    rw [if_pos rfl,zu]
    obtain⟨q,e3,k⟩:=k
    refine⟨q,e3,?_⟩
    rw [zdC,zu]at k ⊢
    obtain⟨u,e4,k⟩:=k
    refine⟨u,e4,?_⟩
    rw [zdC,zu]at k
    obtain⟨y,e5,z,e6,k⟩:=k
    cases u with
    | d y'=>cases e5; cases e6; exact nxt _ _ k
    | l=>cases e5
    | t=>cases e5
    | k=>cases e5
 exact main ds 0 ρ [] (by omega) (fun i=>by rw [Nat.zero_add]) h0
theorem zkg{Q:Fl->Prop}(P:Nat->En->Prop)(k:Nat)(h0:P k ρ)(st:∀ k ρ,P k ρ->Wo (mt ρ) fun p=>if p.1=true then Wo (m1 p.2) (zke Q fun ρ'=>∃ k',k' < k/\P k' ρ')else Q (.nx p.2)):Wo (zeY mt m1 ρ) Q:=by
 have main:∀ (k:Nat) (ρ:En),P k ρ->∃ n f,zbD mt m1 n ρ=some f/\Q f:=by
  intro k
  induction k using Nat.strongRecOn with
  | ind k ih =>
   intro ρ hp
   obtain⟨⟨b,ρ1⟩,e1,z⟩:=st k ρ hp
   cases b with
   | false =>
    rw [if_neg qf]at z
    exact⟨1,_,by unfold zbD; rw [e1]; rfl,z⟩
   | true =>
    rw [if_pos rfl]at z
    obtain⟨f,e2,z⟩:=z
    have nxt:∀ ρ2,(∃ k',k' < k/\P k' ρ2)->f=.nx ρ2\/f=.ct ρ2->∃ n f,zbD mt m1 n ρ=some f/\Q f:=by
     rintro ρ2 ⟨k',hk,hp'⟩ hf
     obtain⟨n,f',e3,q⟩:=ih k' hk ρ2 hp'
     refine⟨n+1,f',?_,q⟩
     unfold zbD
     rw [e1,bd,if_pos rfl,e2,bd]
     rcases hf with rfl | rfl<;>exact e3
    cases f with
    | nx ρ2=>exact nxt ρ2 z (.inl rfl)
    | ct ρ2=>exact nxt ρ2 z (.inr rfl)
    | bk ρ2=>exact⟨1,_,by unfold zbD; rw [e1,bd,if_pos rfl,e2]; rfl,z⟩
    | rt u ρ2=>exact⟨1,_,by unfold zbD; rw [e1,bd,if_pos rfl,e2]; rfl,z⟩
    | ex u ρ2=>exact⟨1,_,by unfold zbD; rw [e1,bd,if_pos rfl,e2]; rfl,z⟩
 obtain⟨n,f,e,q⟩:=main k ρ h0
 exact⟨f,zpD e,q⟩
end
theorem zag{α:Type}{o:Option α}{b:α}(h:Wo o (fun a=>a=b)):o=some b:=by
 obtain⟨a,e,rfl⟩:=h
 exact e
theorem zob:sizeLine=16777216:=Eq.trans zl (Eq.symm (Eq.symm (Nat.add_zero _)))
theorem zqt{α:Type}{n:Nat}{dc:Decidable (n < 16777216)}{a b:Option α}(h:n < 16777216):(if n < 16777216 then a else b)=a:=if_pos h
theorem zjb{α:Type}{xs:List α}{r:Int}(h0:0<=r)(h1:r < (xs.length:Int)):∃ a,atI xs r=some a/\a∈xs/\xs[r.toNat]?=some a:=by
 have hk:r.toNat < xs.length:=by omega
 have ek:r=((r.toNat:Nat):Int):=by omega
 have q:atI xs ((r.toNat:Nat):Int)=some xs[r.toNat]:=zsq (ql hk)
 rw [<-ek]at q
 exact⟨_,q,List.getElem_mem hk,ql hk⟩
theorem zqu{xs:List D}{r:Int}{Q:U->Prop}(h0:0<=r)(h1:r < (xs.length:Int))(k:∀ a∈xs,Q (.d a)):Wo ((atI xs r).map U.d) Q:=by
 obtain⟨a,e,m,_⟩:=zjb h0 h1
 rw [e]
 exact⟨_,rfl,k a m⟩
theorem zwu{α:Type}{f:α->D}{xs:List α}{r:Int}{Q:U->Prop}(h0:0<=r)(h1:r < (xs.length:Int))(k:∀ a∈xs,xs[r.toNat]?=some a->Q (.d (f a))):Wo ((atI (xs.map f) r).map U.d) Q:=by
 obtain⟨a,e,m,z⟩:=zjb (xs:=xs.map f) h0 (by rw [List.length_map]; exact h1)
 rw [List.getElem?_map]at z
 obtain⟨b,hb,rfl⟩:=qq.mp z
 rw [e]
 exact⟨_,rfl,k b (List.mem_of_getElem? hb) hb⟩
theorem zuA{lo:Int}{n i:Nat}{d:D}(h:(zaR lo n)[i]?=some d):i < n/\d=.int (lo+(i:Nat)):=zf4 h
theorem zlF{lo:Int}{n:Nat}:(zaR lo n).length=n:=by
 unfold zaR
 rw [List.length_map,List.length_range]
theorem zkh{ρ:En}{mg:MG}{m1:MS}{n:Nat}{Q:Fl->Prop}(P:Nat->En->Prop)(h0:P 0 ρ)(st:∀ i ρ,i < n->P i ρ->Wo (mg (.int (0+(i:Nat))) ρ) (Co m1 ⟨0⟩ (zke Q (P (i+1)))))(hQ:∀ ρ,P n ρ->Q (.nx ρ)):Wo (zcz mg m1 (zaR 0 n) ρ) Q :=
 zfD P h0 (fun i d ρ hd hp=>by
  obtain⟨hi,rfl⟩:=zuA hd
  exact st i ρ hi hp) fun ρ hp=>hQ ρ (by rw [zlF]at hp; exact hp)
theorem zs5{ρ:En}{mg:MG}{mt:MT}{me:ME}{nt n:Nat}{Q:List D×En->Prop}(P:Nat->En->List D->Prop)(hz:n<=sizeLine)(h0:P 0 ρ [])(hP:∀ i ρ ys,P i ρ ys->ys.length<=i)(st:∀ i ρ ys,i < n->P i ρ ys->Wo (mg (.int (0+(i:Nat))) ρ) (Co mt ⟨0⟩ (kLC nt me ys (P (i+1)))))(hQ:∀ ρ ys,P n ρ ys->Q (ys,ρ)):Wo (lcM nt mg mt me (zaR 0 n) ρ []) Q :=
 zuz P (by rw [zlF]; exact hz) hP h0 (fun i d ρ ys hd hp=>by
  obtain⟨hi,rfl⟩:=zuA hd
  exact st i ρ ys hi hp) fun ρ ys hp=>hQ ρ ys (by rw [zlF]at hp; exact hp)
def Asc(n:Nat)(z:Str):Prop:=z.length<=n/\∀ c∈z.cps.toList,c < 128
theorem Asc.mono{n m:Nat}{z:Str}(h:Asc n z)(hm:n<=m):Asc m z:=⟨qx h.1 hm,h.2⟩
theorem Asc.app{n m:Nat}{x y:Str}(hx:Asc n x)(hy:Asc m y):Asc (n+m) (x++y):=⟨by rw [PySem.Str.length_append]; have:=hx.1; have:=hy.1; omega,fun c hc=>by
 rw [PySem.Str.cps_append,Array.toList_append,List.mem_append]at hc
 exact hc.elim (hx.2 c) (hy.2 c)⟩
theorem Asc.one{c:Nat}(h:c < 128):Asc 1 ⟨#[c]⟩:=⟨qe _,fun d hd=>by
 cases qp.mp hd
 exact h⟩
theorem Asc.join{n:Nat}:∀ {ys:List Str},(∀ z∈ys,Asc n z)->Asc (ys.length * n) (PySem.Str.join "" ys)
 | [],_=>⟨Nat.zero_le _,fun c hc=>by cases hc⟩
 | [x],h=>(h x qo).mono (by simp)
 | x::y::r,h=>by
  have:=((h x qo).app (show Asc 0 "" from⟨qe _,fun c hc=>by cases hc⟩)).app (Asc.join fun z hz=>h z (qm _ hz))
  exact this.mono (by simp only [qt,Nat.add_mul]; omega)
theorem zoc{n:Nat}{ys:List Str}(h:∀ z∈ys,Asc n z):Asc (ys.length * n) (Txt.join "" ys):=by
 show Asc _ (PySem.Builtin.Str.glued "" ys)
 rw [PySem.StrLaws.glued_eq_join]
 exact Asc.join h
theorem Asc.slice{n:Nat}{z:Str}(h:Asc n z)(lo hi:Option Int):Asc n (Txt.slice z lo hi):=by
 refine⟨qx (Txt.slice_le _ _ _) h.1,?_⟩
 unfold Txt.slice
 split
 ·exact h.2
 ·intro c hc
  rw [List.toList_toArray,List.mem_filterMap]at hc
  obtain⟨i,_,e⟩:=hc
  exact h.2 c (Array.mem_toList_iff.mpr (Array.mem_of_getElem? e))
theorem zwv{x y:Str}(h:x.length+y.length<=16777216):zfC (.d (.str x)) (.d (.str y))=some (.d (.str (x++y))):=by
 unfold zfC
 dsimp only
 rw [if_pos (by rw [zl]; exact h)]
theorem zhn{n m:Nat}{x y:Str}{Q:U->Prop}(hx:Asc n x)(hy:Asc m y)(hn:n+m<=1000)(k:Asc (n+m) (x++y)->Q (.d (.str (x++y)))):Wo (zfC (.d (.str x)) (.d (.str y))) Q:=by
 rw [zwv (by have:=hx.1; have:=hy.1; omega)]
 exact⟨_,rfl,k (hx.app hy)⟩
theorem zgK{z:Str}{r:Int}{Q:U->Prop}(h0:0<=r)(h1:r < (z.length:Int))(hz:z.length<=1000)(k:∀ c∈z.cps.toList,Q (.d (.str ⟨#[c]⟩))):Wo (zlC (.d (.str z)) (.d (.int r))) Q:=by
 have hl:z.length=z.cps.toList.length:=by rw [Array.length_toList]; rfl
 obtain⟨c,e,m,_⟩:=zjb (xs:=z.cps.toList) h0 (by rw [<-hl]; exact h1)
 unfold zlC
 dsimp only
 rw [if_pos (by rw [zl]; omega),e]
 exact⟨_,rfl,k c m⟩
theorem ziz:∀ (zs:List Str),(zs.map PyData.str).mapM zsW=some zs
 | []=>rfl
 | z::zs=>by
  rw [List.map_cons,List.mapM_cons,ziz zs]
  rfl
theorem zki{n:Nat}:∀ {ys:List Str},(∀ z∈ys,z.length<=n)->(ys.map (·.length)).sum<=ys.length * n
 | [],_=>by simp
 | y::ys,h=>by
  have:=zki (ys:=ys) fun z hz=>h z (qm _ hz)
  have:=h y qo
  simp only [List.map_cons,List.sum_cons,qt,Nat.add_mul]
  omega
theorem zm1{n m:Nat}{zs:List Str}{Q:U->Prop}(h:∀ z∈zs,Asc n z)(hl:zs.length<=m)(hm:m * n<=1000)(k:Asc (m * n) (Txt.join "" zs)->Q (.d (.str (Txt.join "" zs)))):Wo (ziw (.d (.str "")) (.l (zs.map PyData.str))) Q:=by
 have h1:=zki (n:=n) fun z hz=>(h z hz).1
 have h2:zs.length * n<=m * n:=Nat.mul_le_mul_right _ hl
 unfold ziw
 dsimp only
 rw [ziz,bd,if_pos (by rw [show(("":Str)).length=0 by decide,Nat.mul_zero]; omega)]
 exact⟨_,rfl,k ((zoc h).mono h2)⟩
theorem zho:∀ (zs:List Str),(zs.map PyData.str).mapM flD=some (zs.map V.str)
 | []=>rfl
 | z::zs=>by
  rw [List.map_cons,List.mapM_cons,zho zs]
  rfl
theorem zjc{xs ys:List D}(h:xs.length+ys.length<=16777216):zdO (.d (.tuple xs)) (.d (.tuple ys))=some (.d (.tuple (xs++ys))):=by
 cases xs with
 | nil=>rfl
 | cons x xs =>
  show zj2 (.d (.tuple (x::xs))) (.d (.tuple ys))=_
  unfold zj2
  dsimp only
  rw [if_pos ⟨by simp,by rw [zl]; exact h⟩]
theorem zuB{xs:List D}:zsZ "tuple" (.d (.tuple xs))=some (.d (.bool true)):=rfl
theorem zww{xs:List D}{k:Int}(h:0<=k):zdU xs none (some k)=xs.take k.toNat:=by
 have e:k=((k.toNat:Nat):Int):=by omega
 unfold zdU
 rw [e,HT.sIx_nat,HT.sIx_none,List.drop_zero,Nat.sub_zero]
 rw [show((k.toNat:Nat):Int).toNat=k.toNat by omega]
 rw [Nat.min_def]
 split
 ·rfl
 ·rw [List.take_of_length_le (qe _),List.take_of_length_le (by omega)]
theorem zqv{xs:List D}{k:Int}(h:0<=k):zdU xs (some k) none=xs.drop k.toNat:=by
 have e:k=((k.toNat:Nat):Int):=by omega
 unfold zdU
 rw [e,HT.sIx_nat,HT.sIx_none]
 rw [show((k.toNat:Nat):Int).toNat=k.toNat by omega]
 rw [Nat.min_def]
 split
 ·rw [List.take_of_length_le (by rw [List.length_drop]; omega)]
 ·rw [List.drop_of_length_le (by omega),List.drop_of_length_le (by omega),List.take_nil]
theorem zs6{xs:List D}{lo hi:Option Int}{x:D}(h:x∈zdU xs lo hi):x∈xs:=by
 unfold zdU at h
 exact List.mem_of_mem_drop (List.mem_of_mem_take h)
theorem zs7(xs:List D)(lo hi:Option Int):(zdU xs lo hi).length<=xs.length:=by
 unfold zdU
 rw [List.length_take,List.length_drop]
 omega
structure Nic (k M:Nat) (d:D):Prop where
 lay:d.canLay0=true
 dep:d.depth<=k
 shw:d.showable=true
 len:d.shown.length<=M
theorem Nic.shaped{k M:Nat}{d:D}(h:Nic k M d)(hk:k<=64):SeqAt.shaped d=true:=by
 unfold SeqAt.shaped
 rw [h.lay,Bool.true_and]
 exact decide_eq_true (qx h.dep hk)
section
variable {X:Cx} {K:qc}
end
section
variable {X:Cx} {pos:Pos}
end
section
variable {K:qc}
def zyZ:U->Option U
 | .d (.int i)=>if i.natAbs.log2 < 1920 then some (.d (.str (toString i)))else none
 | .d (.str z)=>if z.length<=sizeLine then some (.d (.str z))else none
 | _=>none
abbrev MJ:=En->Str->Option (Str×En)
def U.sr:U->Option Str
 | .d (.str z)=>some z
 | _=>none
end
section
variable {ρ:En} {me:ME} {mj:MJ} {QE:Ar×En->Prop} {QJ:Str×En->Prop} {acc z y:Str} {i:Int}
end
end L2
namespace L2
open PySem PySem.Spec PyProof.Rows PySem.NumText
abbrev ts(n:Int):Str:=PySem.Str.ofString (toString n)
end L2
namespace L2
open PySem PySem.Spec PyProof.Rows
section
variable {X:Cx} {o e f:Expr} {apos cpos:Pos} {td ty tx:TE} {k:Nat}
theorem zep(hr:Room k X.A)(ho:Wr (PE X o td))(he:Wr (PE X e ty))(hf:Wr (PE X f tx))(m:M2 X o "get" apos e f cpos):Wr (PE X (.Call (.Attribute o "get" apos) [e,f] [] cpos) (zlc X.K td ty tx)):=⟨zo6 (zjL hr) ho.run he.run hf.run m⟩
end
section
variable {K:qc}
def zhp:U->Bool
 | .t _=>true
 | .k _=>true
 | .d (.dict kvs)=>noX kvs
 | _=>false
theorem zqw{H:Hp}{x:V}{u:U}(h:Rp K H x u)(e:zhp u=true):∃ a,x=.ref a/\IsD H a:=by
 unfold zhp at e
 split at e
 ·obtain⟨a,ws,rfl,h1,_⟩:=h
  exact⟨a,rfl,.inr ⟨_,.inl h1⟩⟩
 ·obtain⟨a,ws,rfl,h1,_⟩:=h
  exact⟨a,rfl,.inl ⟨_,.inl h1⟩⟩
 ·obtain⟨a,ob,ws,rfl,h1,_⟩:=DF.dct_inv h e
  exact⟨a,rfl,.inr ⟨_,.inr ⟨ob,h1⟩⟩⟩
 ·cases e
def zdj(md my mx:ME):ME:=fun ρ=>(md ρ).bind fun p=>(p.1.get p.2).bind fun u0=>if zhp u0=true then(my p.2).bind fun q=>(mx q.2).bind fun z=>(p.1.get z.2).bind fun u=>(q.1.get z.2).bind fun y=>(z.1.get z.2).bind fun x=>(zhR u y).bind fun o=>match x with
 | .d x=>some (.u (.d (o.getD x)),z.2)
 | _=>none else none
theorem zeq{td ty tx:TE}{md my mx:ME}(hd:VE K td md)(hy:VE K ty my)(hx:VE K tx mx):VE K (zlc K td ty tx) (zdj md my mx):=by
 intro ρ σ H a ρ' Q r e q
 obtain⟨⟨a1,ρ1⟩,e1,e⟩:=zb e
 obtain⟨u0,e0,e⟩:=zb e
 split at e
 rotate_left
 ·cases e
 rename_i hu0
 obtain⟨⟨b1,ρ2⟩,e2,e⟩:=zb e
 obtain⟨⟨c1,ρ3⟩,e3,e⟩:=zb e
 obtain⟨u,eu,e⟩:=zb e
 obtain⟨y,ey,e⟩:=zb e
 obtain⟨x,ex,e⟩:=zb e
 obtain⟨o,eo,e⟩:=zb e
 split at e
 rotate_left
 ·cases e
 cases e
 refine hd ρ σ H a1 ρ1 _ r e1 fun v1 H1 g1 k1=>?_
 obtain⟨b,rfl,hb⟩:=zqw (k1.now r g1 e0) hu0
 refine⟨b,rfl,hb,hy ρ1 σ H1 b1 _ _ g1.rs e2 fun v2 H2 g2 k2=>hx ρ2 σ H2 c1 _ _ g2.rs e3 fun v3 H3 g3 k3=>?_⟩
 obtain⟨b',eb,h⟩:=zmv (k1.later r g1 (g2.trans g3) eu) (k2.later g1.rs g2 g3 ey) eo
 cases eb
 have p3:=k3.now g2.rs g3 ex
 rcases h with ⟨w,d',rfl,g,p⟩ | ⟨rfl,g⟩
 ·exact⟨_,g,q w H3 ((g1.trans g2).trans g3) ⟨p,Nw.data⟩⟩
 ·exact⟨_,g,q v3 H3 ((g1.trans g2).trans g3) ⟨p3,Nw.data⟩⟩
def zwx:=fI fun i j=>.int (Builtin.bitAnd i j)
theorem zwy:VO K (rI0 fun i j=>.int (Builtin.bitAnd i j)) zwx:=zln fun i j H=>.int _
end
theorem zqx:Manifest.canonical (String.map (fun c=>if(c.isAlphanum || c=='_' || c=='.')=true then c else '_') "dict_itemiterator.__iter__") ++ "" = "dict_keyiterator.__iter__":=by decide +kernel
theorem zqy:entryFor table "dict_itemiterator.__iter__"=some Builtin.«dict_keyiterator.__iter__»:=entryFor_alias (by kernel_rfl) (by kernel_rfl) zqx (by kernel_rfl)
section
variable {prog:Program} {w:World} {A:Around} {E:Value->Shared->Prop} {s:Shared} {it d:Addr} {i ep:Nat} {es:Array DictEntry} {ok ov:Value}
theorem zeJ{T:Value}{vs:Array Value}{j:Nat}{x:Value}{Q:Unit->Shared->Prop}(e:s.heap.get? it=some { cls:=T,data:=.fields vs })(hj:j < vs.size)
  (q:∀ h':Heap,h'.get? it=some { cls:=T,data:=.fields (vs.setIfInBounds j x) }->h'.objs.size=s.heap.objs.size->(∀ b o,b≠it->s.heap.get? b=some o->h'.get? b=some o)->Q () { s with heap:=h' }):wpAny (model prog w) A (setField (.ref it) j x) Q E s:=by
 refine wpAny_setField e rfl hj (q _ ?_ ?_ fun b o hb z=>?_)
 ·exact Heap.get?_update_self _ e (Obj.isFreed_of_fields (Obj.data_mapFields rfl _))
 ·exact Heap.size_update ..
 ·exact((Heap.SameBut.update ..).2 b hb).trans z
theorem zod{Q:Option Value->Shared->Prop}(k:IsItemIter s.heap it d i es.size ep ok ov)(r:zes s.heap d es ep){x:DictEntry}(hx:es[i]?=some x)
  (q:∀ h':Heap,IsItemIterOut h' it d (i+1) es.size ep x.key x.val s.heap.objs.size->h'.get? s.heap.objs.size=some { cls:=.type "tuple",data:=.seq #[x.key,x.val] }->(∀ b o,b≠it->s.heap.get? b=some o->h'.get? b=some o)->Q (some (.ref s.heap.objs.size)) { s with heap:=h' }):wpAny (model prog w) A (pyNext (.ref it)) Q E s:=by
 have kT:s.TypeIs (.ref it) "dict_itemiterator":=⟨_,k,rfl⟩
 obtain⟨o,e,_,dat⟩:=r
 have nit:s.heap.objs.size≠it:=Ne.symm (qj (qh k))
 unfold pyNext
 refine qa (wpAny_attempt (wpAny_callSpecial?_slot (name:=Str.ofString "__next__") kT F.slot_dict_itemiterator_next
  (wpAny_call_entry F.slot_dict_itemiterator_next kT F.entry_dict_itemiterator_next ?_ (F.args_dict_itemiterator_next_1 _))))
 refine qa (qb (qa (qa ?_)))
 refine qa (wpAny_typeNameOfWhole_itemiter kT (qb (qa (wpAny_fieldsOf k rfl ?_))))
 simp only [show Builtin.Dict_items.ownsTuple "dict_itemiterator"=true by decide,if_true]
 show wpAny _ _ (if(Value.ref d==Value.none)=true then _ else _) _ _ s
 rw [if_neg (show ¬((Value.ref d==Value.none)=true) from qf)]
 refine qa (qb (qa (wpAny_dictEntries e dat ?_)))
 rw [if_neg (by simp)]
 refine qa (qb (qa (wpAny_dictEpoch e dat ?_)))
 rw [if_neg (by simp)]
 refine qb ?_
 simp only [show ¬((i:Int) < 0) from by omega,if_false,Int.toNat_natCast,hx]
 refine qa (qa (wpAny_typeNameOfWhole_itemiter kT (qb (qa (wpAny_isOneOf_itemiter kT ?_)))))
 show wpAny _ _ (setField (.ref it) 3 (rawInt ((i:Int)+1)) >>= _) _ _ s
 refine qa (zeJ k (by simp) fun h1 k1 z1 f1=>?_)
 refine qa (wpAny_holding ?_)
 have kT1:Shared.TypeIs { s with heap:=h1 } (.ref it) "dict_itemiterator":=⟨_,k1,rfl⟩
 refine qa (wpAny_isOneOf_itemiter kT1 ?_)
 show wpAny _ _ (Builtin.Dict_items.isOneOf (.ref it) _ >>= _) _ _ _
 refine qa (wpAny_isOneOf_itemiter kT1 ?_)
 show wpAny _ _ (Builtin.Dict_items.pairFromOwner (.ref it) 6 x.key x.val) _ _ _
 unfold Builtin.Dict_items.pairFromOwner
 simp only [newTuple]
 refine qa (qy ?_ (by show(2:Nat)<=sizeLine; decide))
 have k2:(h1.push { cls:=.type "tuple",data:=.seq #[x.key,x.val] }).get? it=_:=qd _ k1
 have t2:(h1.push { cls:=.type "tuple",data:=.seq #[x.key,x.val] }).get? h1.objs.size=_:=qg _ rfl
 have f2:∀ b o,b≠it->s.heap.get? b=some o->(h1.push { cls:=.type "tuple",data:=.seq #[x.key,x.val] }).get? b=some o:=fun b o hb z=>qd _ (f1 b o hb z)
 rw [z1]at t2
 show wpAny _ _ _ _ _ { s with heap:=h1.push { cls:=.type "tuple",data:=.seq #[x.key,x.val] } }
 generalize h1.push { cls:=.type "tuple",data:=.seq #[x.key,x.val] }=h2 at k2 t2 f2 ⊢
 rw [z1]
 unfold Builtin.Dict_items.ownedTupleIsFree
 refine qa (qa (wpAny_field k2 rfl (x:=.none) rfl (qb ?_)))
 show wpAny _ _ (if true=true then _ else _) _ _ _
 rw [if_pos rfl]
 show wpAny _ _ (field (.ref it) 6 >>= _) _ _ _
 refine qa (wpAny_field k2 rfl (x:=ok) rfl ?_)
 refine qa (wpAny_field k2 rfl (x:=ov) rfl ?_)
 refine qa (zeJ k2 (by simp) fun h3 k3 z3 f3=>?_)
 refine qa (zeJ k3 (by simp) fun h4 k4 z4 f4=>?_)
 refine qa (zeJ k4 (by simp) fun h5 k5 z5 f5=>?_)
 refine qa (zeJ k5 (by simp) fun h6 k6 z6 f6=>?_)
 refine qa (wpAny_letGo (qb (qb ⟨_,rfl,qb (q _ ?_ ?_ fun b o hb z=>?_)⟩)))
 ·show h6.get? it=_
  rw [k6]
  rfl
 ·exact f6 _ _ nit (f5 _ _ nit (f4 _ _ nit (f3 _ _ nit t2)))
 ·exact f6 b o hb (f5 b o hb (f4 b o hb (f3 b o hb (f2 b o hb z))))
theorem zqz{Q:Option Value->Shared->Prop}(hh:A.handled=none)(k:IsItemIter s.heap it d i es.size ep ok ov)(r:zes s.heap d es ep)(hx:es.size<=i)
  (q:∀ h':Heap,Heap.ExtBut it s.heap h'->Q none { s with heap:=h' }):wpAny (model prog w) A (pyNext (.ref it)) Q E s:=by
 have kT:s.TypeIs (.ref it) "dict_itemiterator":=⟨_,k,rfl⟩
 obtain⟨o,e,_,dat⟩:=r
 unfold pyNext
 refine qa (wpAny_attempt (wpAny_callSpecial?_slot (name:=Str.ofString "__next__") kT F.slot_dict_itemiterator_next
  (wpAny_call_entry F.slot_dict_itemiterator_next kT F.entry_dict_itemiterator_next ?_ (F.args_dict_itemiterator_next_1 _))))
 refine qa (qb (qa (qa ?_)))
 refine qa (wpAny_typeNameOfWhole_itemiter kT (qb (qa (wpAny_fieldsOf k rfl ?_))))
 simp only [show Builtin.Dict_items.ownsTuple "dict_itemiterator"=true by decide,if_true]
 show wpAny _ _ (if(Value.ref d==Value.none)=true then _ else _) _ _ s
 rw [if_neg (show ¬((Value.ref d==Value.none)=true) from qf)]
 refine qa (qb (qa (wpAny_dictEntries e dat ?_)))
 rw [if_neg (by simp)]
 refine qa (qb (qa (wpAny_dictEpoch e dat ?_)))
 rw [if_neg (by simp)]
 refine qb ?_
 simp only [show ¬((i:Int) < 0) from by omega,if_false,Int.toNat_natCast,Array.getElem?_eq_none hx]
 refine qa (qa (wpAny_typeNameOfWhole_itemiter kT (qb ?_)))
 show wpAny _ _ (setField (.ref it) 2 .none >>= _) _ _ s
 refine qa (wpAny_setField k rfl (by simp) ?_)
 show wpAny _ _ (newExc (.type "StopIteration") [] >>= _) _ _ _
 refine qa ?_
 simp only [newExc,newTuple]
 refine qa (qy ?_ (by show(0:Nat)<=sizeLine; exact Nat.zero_le _))
 refine qa (m:=firstArgMember _ _) (wpAny_of_eq (a:=Value.none) (by first | rfl | (simp only [firstArgMember]; rfl)) ?_)
 refine qy ?_ (by first | trivial | size_fits)
 simp only [raiseNew]
 refine qa (wpAny_handled ?_)
 rw [show A.in1.handled=none from hh]
 refine qa (qb (wpAny_throw ?_))
 refine qa (wpAny_isInstance (T := "StopIteration") (b:=true) ⟨_,qg _ rfl,rfl⟩ isSubtype_stop ?_)
 exact qb (q _ (((Heap.SameBut.update ..).extBut.push _).push _))
theorem zoe{Q:Value->Shared->Prop}(hd:(d==sysModules)=false)(r:zes s.heap d es ep)
  (q:Q (.ref s.heap.objs.size) { s with heap:=s.heap.push { cls:=.type "dict_items",data:=.fields #[.ref d] } }):wpAny (model prog w) A (call (.builtin "dict.items") [.ref d]) Q E s:=by
 have hT:=r.typeIs
 obtain⟨o,e,_,dat⟩:=r
 refine wpAny_call_entry F.slot_dict_items hT F.entry_dict_items ?_ (F.args_dict_items_1 _)
 unfold Builtin.«dict.items» Builtin.Dict.noArgs
 refine qa (qa (wpAny_notOrdered_dict hT ?_))
 refine qa (qb ?_)
 refine qa (qb (qb ?_))
 unfold Builtin.Dict.showsAll
 rw [hd,if_neg qf]
 refine qa (qb ?_)
 unfold newFields
 exact qa (qy (qb ⟨_,rfl,q⟩))
theorem zof{v:Addr}{Q:Value->Shared->Prop}(hv:s.heap.IsItemsView v d)(r:zes s.heap d es ep)
  (q:∀ h':Heap,IsItemIter h' s.heap.objs.size d 0 es.size ep .none .none->(∀ b o,s.heap.get? b=some o->h'.get? b=some o)->Q (.ref s.heap.objs.size) { s with heap:=h' }):wpAny (model prog w) A (pyIter (.ref v)) Q E s:=by
 obtain⟨o,e,_,dat⟩:=r
 obtain⟨o2,e2,c2,d2⟩:=id hv
 have hT:=hv.typeIs (s:=s)
 refine wpAny_pyIter_slot hT F.slot_dict_items_iter (wpAny_call_entry F.slot_dict_items_iter hT F.entry_dict_items_iter ?_ (F.args_dict_items_iter_1 _))
 unfold Builtin.«dict_items.__iter__»
 refine qa (qb ?_)
 unfold Builtin.Dict_items.dictOf
 refine qa (qa (wpAny_field e2 d2 (x:=.ref d) rfl (qb ?_)))
 unfold Builtin.Dict_items.newIterator
 refine qa (qa (wpAny_dictEntries e dat (qa (wpAny_dictEpoch e dat ?_))))
 unfold newFields
 refine qy (qb ⟨_,rfl, "dict_itemiterator",_,⟨_,qg _ rfl,rfl⟩,F.slot_dict_itemiterator_next.lookup,?_⟩) (by rw [show Builtin.Dict_items.ownsTuple "dict_itemiterator"=true by decide,if_pos rfl]; show(8:Nat)<=sizeLine+2; decide)
 exact q _ (qg _ rfl) fun b o z=>qd _ z
end
theorem zdD{X:Cx}{pins:List (Addr×Obj)}{σ:St}{H:Hp}{s:Shared}{a:Addr}{o:Obj}{kvs:List (List Key×V)}(I:Inv X pins σ H s)(e:H a=some (.frz o (.dT kvs))) :
  (a==sysModules)=false/\∃ (es:Array DictEntry) (ep:Nat),s.heap.get? a=some o/\o.ExactDict/\o.data=.dict es ep/\es.size=kvs.length/\∀ (i:Nat) (k:List Key) (v:V),kvs[i]?=some (k,v)->∃ (b:Addr) (x:DictEntry),es[i]?=some x/\x.key=.ref b/\TpK X.K H b (k.map kV)/\zU v x.val:=by
 obtain⟨ea,z,y,xs,r,o',es,ep,h1,h2,h3,h4,h5⟩:=(show zaj X.prog X.w X.K H s.heap a (.frz o (.dT kvs)) from I.hok a _ e)
 rw [ea]at h1
 cases h1
 refine⟨y,es,ep,ea,h2,h3,?_,fun i k v hi=>?_⟩
 ·have:=congrArg List.length h4
  rw [Array.length_toList,List.length_map,<-zcR r]at this
  exact this
 ·obtain⟨q,hq,r1,r2,r3⟩:=zeT r i (k,v) hi
  refine⟨q.2.1,entryOfKey (tupleKind (zai X.prog X.w)) q,?_,rfl,r2,r3⟩
  have:es.toList[i]?=some (entryOfKey (tupleKind (zai X.prog X.w)) q):=by rw [h4,List.getElem?_map,hq]; rfl
  simpa using this
def ItI(K:qc)(a:Addr)(o:Obj)(kvs:List (List Key×V)):It :=
 ⟨fun i H=>H a=some (.frz o (.dT kvs))/\i < kvs.length,fun i H x H'=>∃ T,H T=none/\x=.ref T/\∀ k v,kvs[i]?=some (k,v)->∃ b,TpK K H b (k.map kV)/\H'=upd H T (.tup [.ref b,v]),fun i H=>H a=some (.frz o (.dT kvs))/\kvs.length<=i⟩
theorem zlG{P:Program}{w:World}{K:qc}{elts:List Expr}{k:Nat}{pos:Pos}(a it:Addr)(o:Obj)(kvs:List (List Key×V))(ep:Nat)(hep:∃ es,o.data=.dict es ep):Turn P w K (.Tuple elts k pos) (ItI K a o kvs) [it] it (fun i h=>∃ ok ov,IsItemIter h it a i kvs.length ep ok ov) where
 mem:=by simp
 obj:=fun i h st b hb=>by
  have e:b=it:=by simpa using hb
  subst e
  obtain⟨ok,ov,e⟩:=st
  exact⟨_,e,fun v z=>by
   have z':Data.fields _=Data.cell v:=z
   cases z'⟩
 keep:=fun i h h' st k=>by
  obtain⟨ok,ov,e⟩:=st
  exact⟨ok,ov,k it (by simp) _ e⟩
 item:=by
  intro X hP hw hK hc i pins s σ H E I hf st hg
  subst hP hw hK
  obtain⟨e,hi⟩:=hg
  obtain⟨ok,ov,st⟩:=st
  obtain⟨hsm,es,ep',ea,xd,dat,hsz,ent⟩:=zdD I e
  have eep:ep'=ep:=by
   obtain⟨es',z⟩:=hep
   rw [dat]at z
   injection z
  subst eep
  obtain⟨b,x,ex,kx,hb,rv⟩:=ent i kvs[i].1 kvs[i].2 (ql hi)
  refine zod (es:=es) (by rw [hsz]; exact st) ⟨o,ea,xd,dat⟩ ex fun h1 st1 isT kk=>?_
  refine⟨_,rfl,wpAny_letOwnedTupleGo_items (s:={ s with heap:=h1 }) st1 fun h2 st2 sb=>?_⟩
  have nit:s.heap.objs.size≠it:=Ne.symm (qj (qh st))
  have I2:Inv X pins σ H { s with heap:=h2 }:=I.turnedW (t':=s.toks) (wr:=[it]) (fun b o hb q=>(sb.2 b (by simpa using hb)).trans (kk b o (by simpa using hb) q)) hf
  have fT:zdt X pins H s.heap.objs.size:=I.fpOk (qe _) (I.hok.fresh (qe _))
  rw [kx]at isT
  have I3:Inv X pins σ (upd H s.heap.objs.size (.tup [.ref b,kvs[i].2])) { s with heap:=h2 }:=I2.track fT I.sz ⟨by show 2<=sizeLine; decide,[.ref b,x.val],.cons rfl (.cons rv .nil),_,(sb.2 _ nit).trans isT,rfl,_,rfl⟩
  refine⟨.ref s.heap.objs.size,_,I3,rfl,⟨_,I.hok.fresh (qe _),rfl,fun k v hkv=>⟨b,?_,?_⟩⟩,⟨_,_,by rw [<-hsz]; exact st2⟩,fun c hc=>?_⟩
  ·rw [ql hi]at hkv
   rw [qw hkv]at hb
   exact hb
  ·rw [ql hi]at hkv
   rw [qw hkv]
  ·have e:c=it:=by simpa using hc
   subst e
   rw [zA (Ne.symm nit)]
   exact(hf c hc).1
 done:=by
  intro X hP hw hK hc i pins s σ H E I hf st hg
  subst hP hw hK
  obtain⟨e,hi⟩:=hg
  obtain⟨ok,ov,st⟩:=st
  obtain⟨hsm,es,ep',ea,xd,dat,hsz,ent⟩:=zdD I e
  have eep:ep'=ep:=by
   obtain⟨es',z⟩:=hep
   rw [dat]at z
   injection z
  subst eep
  obtain⟨f0,f1,f2,f3,f4,f5⟩:=hf it (by simp)
  exact zqz (es:=es) (I.ok.hd hc) (by rw [hsz]; exact st) ⟨o,ea,xd,dat⟩ (by omega) fun h' eb=>⟨rfl,I.turned (t':=s.toks) (fun b o hb e=>eb b o hb e) f0 f1 f3 f4 f5⟩
 self:=fun _ _ _ _ _ st h=>by
  obtain⟨ok,ov,st⟩:=st
  exact wpAny_pyIter_slot ⟨_,st,rfl⟩ F.slot_dict_itemiterator_iter (wpAny_call_entry F.slot_dict_itemiterator_iter ⟨_,st,rfl⟩ zqy (qb ⟨_,rfl, "dict_itemiterator",_,⟨_,st,rfl⟩,F.slot_dict_itemiterator_next.lookup,h⟩) (F.args_dict_itemiterator_iter_1 _))
section
variable {X:Cx} {elts:List Expr} {kk:Nat} {tpos:Pos}
def zqA(K:qc)(td:TE):TI:=fun σ H R=>td σ H fun x H1=>∃ a o kvs,x=.ref a/\H1 a=some (.frz o (.dT kvs))/\R (ItI K a o kvs) H1
theorem zdc{d:Expr}{td:TE}{apos cpos:Pos}(hd:Wr (PE X d td))(hbase:attributeBase d "items" X.env (eval d X.env)=eval d X.env:=by rfl)(hline:(apos.endLine==cpos.line)=true:=by rfl):Wr (PI X (.Tuple elts kk tpos) (.Call (.Attribute d "items" apos) [] [] cpos) (zqA X.K td)):=by
 refine⟨?_⟩
 intro pins s σ H R I h
 refine wpAny_Call_method0_late hbase hline (thn (hd.run pins s σ H _ I h) fun v s1 ⟨x,H1,I1,r1,q1⟩=>?_)
 obtain⟨a,o,kvs,rfl,e,q⟩:=q1
 cases r1
 obtain⟨hsm,es,ep,ea,xd,dat,hsz,_⟩:=zdD I1 e
 have rw1:zes s1.heap a es ep:=⟨o,ea,xd,dat⟩
 refine⟨"dict", "dict.items",F.plainAttrs_dict,F.slot_dict_items,F.type_dict_items,rw1.typeIs,fun b hb=>?_,Calls.callWith_builtin rfl (PySem.evalArgs_none (zoe hsm rw1 ?_))⟩
 ·cases hb
  exact⟨o,ea,xd.2.1⟩
 have I2:Inv X pins σ H1 { s1 with heap:=s1.heap.push { cls:=.type "dict_items",data:=.fields #[.ref a] } }:=I1.kept (t':=s1.toks) fun b o z=>qd _ z
 refine zof (v:=s1.heap.objs.size) (s:={ s1 with heap:=s1.heap.push { cls:=.type "dict_items",data:=.fields #[.ref a] } }) ⟨_,qg _ rfl,rfl,rfl⟩ ⟨o,qd _ ea,xd,dat⟩ fun h' hit kk2=>?_
 refine⟨_,_,_,_,H1,rfl,I2.kept (t':=s1.toks) kk2,zlG a _ o kvs ep ⟨es,dat⟩,⟨_,_,by rw [<-hsz]; exact hit⟩,fun b hb=>?_,q⟩
 rw [qp.mp hb]
 exact I2.fpOk (qe _) (I2.hok.fresh (qe _))
end
def zcY:U->Option (List D)
 | .d (.dict kvs)=>if noX kvs=true then some (kvs.map fun p=>.tuple [p.1,p.2])else none
 | _=>none
theorem zjd{K:qc}{H:Hp}:∀ {ws:List (List Key×V)} {kvs:List (D×D)},DFt K H ws kvs->∀ {i:Nat} {p:D×D},kvs[i]?=some p->∃ k v,ws[i]?=some (k,v)/\p.1=kTD k/\DF K H v p.2
 | _,_,.nil,i,p,h=>by simp at h
 | _,_,.cons hv t,0,p,h=>by cases h; exact⟨_,_,rfl,rfl,hv⟩
 | _,_,.cons hv t,i+1,p,h=>zjd t (i:=i) h
theorem zje{K:qc}{H:Hp}:∀ {ws:List (List Key×V)} {kvs:List (D×D)},DFt K H ws kvs->ws.length=kvs.length
 | _,_,.nil=>rfl
 | _,_,.cons hv t=>congrArg (·+1) (zje t)
theorem zcA{K:qc}{te:TE}{me:ME}(h:VE K te me):VI K (zqA K te) (mIt zcY me):=by
 intro ρ σ H ds ρ' R r e q
 obtain⟨⟨a,ρ1⟩,e1,e⟩:=zb e
 obtain⟨u,eu,e⟩:=zb e
 obtain⟨xs,ex,e⟩:=zb e
 cases e
 refine h ρ σ H a _ _ r e1 fun v H1 g1 k1=>?_
 have p:=k1.now r g1 eu
 unfold zcY at ex
 split at ex
 ·split at ex
  rotate_left
  ·cases ex
  rename_i nx
  cases ex
  obtain⟨b,o,ws,rfl,h1,h2⟩:=DF.dct_inv p nx
  refine⟨b,o,ws,rfl,h1,q _ _ g1 fun H2 k i=>?_⟩
  have h1':=k.frz _ _ _ h1
  refine⟨fun d ed=>?_,fun ei=>?_⟩
  ·rw [List.getElem?_map]at ed
   obtain⟨⟨kd,vd⟩,ew,rfl⟩:=qq.mp ed
   obtain⟨ks,w,ew',rfl,dv⟩:=zjd h2 ew
   refine⟨⟨h1',(qk.mp ew').1⟩,fun x H' y=>?_⟩
   obtain⟨T,nT,rfl,y⟩:=y
   obtain⟨kb,hkb,rfl⟩:=y ks w ew'
   have sm:=zP nT (.tup [.ref kb,w])
   exact⟨sm,.tup (.inl zx) (.cons (DF.kp sm.kp (.tup hkb zgI)) (.cons ((dv.kp k).kp sm.kp) .nil))⟩
  ·rw [List.length_map,<-zje h2]at ei
   exact⟨h1',Nat.le_of_eq ei.symm⟩
 ·cases ex
abbrev zh1(h:Heap)(t1:Addr):Heap:=h.push { cls:=.type "tuple_iterator",data:=.fields #[.ref t1,.int 0 0] }
abbrev zh2(h:Heap)(t1 t2:Addr):Heap:=(zh1 h t1).push { cls:=.type "tuple_iterator",data:=.fields #[.ref t2,.int 0 0] }
abbrev zh3(h:Heap)(t1 t2:Addr):Heap:=(zh2 h t1 t2).push { cls:=.type "tuple",data:=.seq #[.ref h.objs.size,.ref (zh1 h t1).objs.size] }
abbrev zh4(h:Heap)(t1 t2:Addr):Heap:=(zh3 h t1 t2).push { cls:=.type "tuple",data:=.seq #[.none,.none] }
abbrev zh5(h:Heap)(t1 t2:Addr):Heap:=(zh4 h t1 t2).push { cls:=.type "zip",data:=.fields #[.none,.bool false,.bool false,.ref (zh2 h t1 t2).objs.size,.ref (zh3 h t1 t2).objs.size] }
theorem zqB(t1 t2:Addr)(xs ys:Array Value) :
  Meets (Builtin.«zip.__new__» ⟨[.type "zip",.ref t1,.ref t2],[]⟩) (fun _ R s=>s.heap.IsTuple t1 xs/\s.heap.IsTuple t2 ys /\
   R (.ok (.ret (.ref (zh4 s.heap t1 t2).objs.size))) { s with heap:=zh5 s.heap t1 t2 }) :=
 .of_wp fun prog w A R s h=>by
  obtain⟨hp,g,d,tk,os⟩:=s
  obtain⟨h1,h2,h⟩:=h
  have h2':Heap.IsTuple (zh1 hp t1) t2 ys:=by
   obtain⟨o,e,r⟩:=h2
   exact⟨o,qd _ e,r⟩
  have hsub:=sub_zip
  wp_walk using wpAny_pyIter_tuple h1,wpAny_pyIter_tuple h2'
  exact⟨_,rfl,h⟩
section
variable {prog:Program} {w:World} {A:Around} {E:Value->Shared->Prop} {s:Shared} {z TI TO i1 i2 t1 t2:Addr} {k:Nat} {xs ys:Array Value} {x y a b:Value}
theorem zog{Q:Option Value->Shared->Prop}(ap:ZipApart z TI TO i1 i2 t1 t2)(hz:IsZip s.heap z TI TO .none)(hI:IsPair s.heap TI (.ref i1) (.ref i2))(hO:IsPair s.heap TO a b)
  (h1:s.heap.IsTupleIter i1 t1 k) (h2:s.heap.IsTupleIter i2 t2 k) (g1:s.heap.IsTuple t1 xs) (g2:s.heap.IsTuple t2 ys) (ex:xs[k]?=some x) (ey:ys[k]?=some y)
  (q:∀ h':Heap,IsZip h' z TI TO (rawInt s.heap.objs.size)->IsPair h' TO x y->h'.IsTupleIter i1 t1 (k+1)->h'.IsTupleIter i2 t2 (k+1)->IsPair h' s.heap.objs.size x y ->
   (∀ c o,c≠z->c≠TO->c≠i1->c≠i2->s.heap.get? c=some o->h'.get? c=some o)->Q (some (.ref s.heap.objs.size)) { s with heap:=h' }):wpAny (model prog w) A (pyNext (.ref z)) Q E s:=by
 have kT:s.TypeIs (.ref z) "zip":=⟨_,hz,rfl⟩
 unfold pyNext
 refine qa (wpAny_attempt (wpAny_callSpecial?_slot (name:=Str.ofString "__next__") kT F.slot_zip_next (wpAny_call_entry F.slot_zip_next kT F.entry_zip_next ?_ (F.args_zip_next_1 _))))
 unfold Builtin.«zip.__next__»
 refine qa (qb ?_)
 refine qa (wpAny_field hz rfl (x:=.bool false) rfl ?_)
 refine qa (wpAny_field hz rfl (x:=.ref TI) rfl ?_)
 refine qa (wpAny_seqItems hI rfl ?_)
 show wpAny _ _ (Builtin.SmallTypes.ownedTupleIsFree (.ref z) >>= _) _ _ s
 unfold Builtin.SmallTypes.ownedTupleIsFree
 refine qa (qa (wpAny_field hz rfl (x:=.none) rfl (qb ?_)))
 show wpAny _ _ (if true=true then _ else _) _ _ _
 rw [if_pos rfl]
 refine qa (wpAny_rule (qa (wpAny_field hz rfl (x:=.ref TO) rfl ?_)))
 refine qa (zeJ hz (by simp) fun ha ka za fa=>?_)
 have hO1:IsPair ha TO a b:=fa _ _ ap.TOz hO
 have h11:ha.IsTupleIter i1 t1 k:=by
  obtain⟨o,e,r⟩:=h1
  exact⟨o,fa _ _ ap.i1z e,r⟩
 have g11:ha.IsTuple t1 xs:=by
  obtain⟨o,e,r⟩:=g1
  exact⟨o,fa _ _ ap.l1z e,r⟩
 refine qa ?_
 show wpAny _ _ (forIn [(Value.ref i1,0),(Value.ref i2,1)] (none,()) _) _ _ _
 rw [List.forIn_cons]
 refine qa (qa (wpAny_onRaise ?_))
 show wpAny _ _ (Builtin.SmallTypes.nextOf (.ref i1) >>= _) _ _ _
 refine qa (zeO (s:={ s with heap:=ha }) h11 g11 ex fun hb kb sb=>qb ?_)
 refine qa (wpAny_seqItems (s:={ s with heap:=hb }) (o:=_) ((sb.2 _ ap.TOi1).trans hO1) rfl ?_)
 refine qa (wpAny_updateSeq_pair (s:={ s with heap:=hb }) ((sb.2 _ ap.TOi1).trans hO1) fun hc kc sc=>?_)
 refine qa (wpAny_letGo (qb ?_))
 show wpAny _ _ (forIn [(Value.ref i2,1)] (none,()) _) _ _ _
 rw [List.forIn_cons]
 have keepC:∀ c o,c≠z->c≠TO->c≠i1->s.heap.get? c=some o->hc.get? c=some o:=fun c o n1 n2 n3 e=>(sc.2 c n2).trans ((sb.2 c n3).trans (fa c o n1 e))
 have h22:hc.IsTupleIter i2 t2 k:=by
  obtain⟨o,e,r⟩:=h2
  exact⟨o,keepC _ _ ap.i2z (Ne.symm ap.TOi2) (Ne.symm ap.i12) e,r⟩
 have g22:hc.IsTuple t2 ys:=by
  obtain⟨o,e,r⟩:=g2
  exact⟨o,keepC _ _ ap.l2z ap.l2TO ap.l2i1 e,r⟩
 refine qa (qa (wpAny_onRaise ?_))
 show wpAny _ _ (Builtin.SmallTypes.nextOf (.ref i2) >>= _) _ _ _
 refine qa (zeO (s:={ s with heap:=hc }) h22 g22 ey fun hd kd sd=>qb ?_)
 have hO3:IsPair hd TO x b:=(sd.2 _ ap.TOi2).trans kc
 refine qa (wpAny_seqItems (s:={ s with heap:=hd }) hO3 rfl ?_)
 refine qa (wpAny_updateSeq_pair (s:={ s with heap:=hd }) hO3 fun he ke se=>?_)
 refine qa (wpAny_letGo (qb ?_))
 show wpAny _ _ (forIn ([]:List (Value×Nat)) (none,()) _) _ _ _
 rw [List.forIn_nil]
 refine qb ?_
 have hO4:IsPair he TO x y:=ke
 show wpAny _ _ (seqItems? (.ref TO) >>= _) _ _ _
 refine qa (wpAny_seqItems (s:={ s with heap:=he }) hO4 rfl ?_)
 simp only [newTuple]
 refine qa (qy ?_ (by show(2:Nat)<=sizeLine; decide))
 have sz:he.objs.size=s.heap.objs.size:=by rw [se.1,sd.1,sc.1,sb.1]; exact za
 show wpAny _ _ (Builtin.SmallTypes.ownedTupleHandOut (.ref z) (.ref he.objs.size) >>= _) _ _ { s with heap:=he.push { cls:=.type "tuple",data:=.seq #[x,y] } }
 have kz:(he.push { cls:=.type "tuple",data:=.seq #[x,y] }).get? z=some { cls:=.type "zip",data:=.fields #[.ellipsis,.bool false,.bool false,.ref TI,.ref TO] } :=
  qd _ ((se.2 _ (Ne.symm ap.TOz)).trans ((sd.2 _ (Ne.symm ap.i2z)).trans ((sc.2 _ (Ne.symm ap.TOz)).trans ((sb.2 _ (Ne.symm ap.i1z)).trans ka))))
 have kt:(he.push { cls:=.type "tuple",data:=.seq #[x,y] }).get? he.objs.size=some { cls:=.type "tuple",data:=.seq #[x,y] }:=qg _ rfl
 have kO:(he.push { cls:=.type "tuple",data:=.seq #[x,y] }).get? TO=_:=qd _ hO4
 have k1:Heap.IsTupleIter (he.push { cls:=.type "tuple",data:=.seq #[x,y] }) i1 t1 (k+1):=by
  obtain⟨o,e,r⟩:=kb
  exact⟨o,qd _ ((se.2 _ (Ne.symm ap.TOi1)).trans ((sd.2 _ ap.i12).trans ((sc.2 _ (Ne.symm ap.TOi1)).trans e))),r⟩
 have k2:Heap.IsTupleIter (he.push { cls:=.type "tuple",data:=.seq #[x,y] }) i2 t2 (k+1):=by
  obtain⟨o,e,r⟩:=kd
  exact⟨o,qd _ ((se.2 _ (Ne.symm ap.TOi2)).trans e),r⟩
 have kk:∀ c o,c≠z->c≠TO->c≠i1->c≠i2->s.heap.get? c=some o->(he.push { cls:=.type "tuple",data:=.seq #[x,y] }).get? c=some o:=fun c o n1 n2 n3 n4 e =>
  qd _ ((se.2 c n2).trans ((sd.2 c n4).trans (keepC c o n1 n2 n3 e)))
 have nz:he.objs.size≠z:=by
  rw [sz]
  exact Ne.symm (qj (qh hz))
 generalize he.push { cls:=.type "tuple",data:=.seq #[x,y] }=hf at kz kt kO k1 k2 kk ⊢
 unfold Builtin.SmallTypes.ownedTupleHandOut
 refine qa (qa (zeJ (s:={ s with heap:=hf }) kz (by simp) fun hg kg zg fg=>?_))
 refine zeJ (s:={ s with heap:=hg }) kg (by simp) fun hh kh zh fh=>?_
 have up:∀ c o,c≠z->hf.get? c=some o->hh.get? c=some o:=fun c o n e=>fh c o n (fg c o n e)
 refine qb ⟨_,rfl,qb ?_⟩
 rw [sz]at kt kh nz ⊢
 refine q hh kh (up _ _ ap.TOz kO) ?_ ?_ (up _ _ nz kt) fun c o n1 n2 n3 n4 e=>up _ _ n1 (kk c o n1 n2 n3 n4 e)
 ·obtain⟨o,e,r⟩:=k1
  exact⟨o,up _ _ ap.i1z e,r⟩
 ·obtain⟨o,e,r⟩:=k2
  exact⟨o,up _ _ ap.i2z e,r⟩
theorem zqC{Q:Option Value->Shared->Prop}(hh:A.handled=none)(ap:ZipApart z TI TO i1 i2 t1 t2)(hz:IsZip s.heap z TI TO .none)(hI:IsPair s.heap TI (.ref i1) (.ref i2))(hO:IsPair s.heap TO a b)
  (h1:s.heap.IsTupleIter i1 t1 k) (h2:s.heap.IsTupleIter i2 t2 k) (g1:s.heap.IsTuple t1 xs) (g2:s.heap.IsTuple t2 ys) (en:xs[k]?=none)
  (q:∀ h':Heap,(∀ c o,c≠z->c≠TO->c≠i1->c≠i2->s.heap.get? c=some o->h'.get? c=some o)->Q none { s with heap:=h' }):wpAny (model prog w) A (pyNext (.ref z)) Q E s:=by
 have kT:s.TypeIs (.ref z) "zip":=⟨_,hz,rfl⟩
 unfold pyNext
 refine qa (wpAny_attempt (wpAny_callSpecial?_slot (name:=Str.ofString "__next__") kT F.slot_zip_next (wpAny_call_entry F.slot_zip_next kT F.entry_zip_next ?_ (F.args_zip_next_1 _))))
 unfold Builtin.«zip.__next__»
 refine qa (qb ?_)
 refine qa (wpAny_field hz rfl (x:=.bool false) rfl ?_)
 refine qa (wpAny_field hz rfl (x:=.ref TI) rfl ?_)
 refine qa (wpAny_seqItems hI rfl ?_)
 show wpAny _ _ (Builtin.SmallTypes.ownedTupleIsFree (.ref z) >>= _) _ _ s
 unfold Builtin.SmallTypes.ownedTupleIsFree
 refine qa (qa (wpAny_field hz rfl (x:=.none) rfl (qb ?_)))
 show wpAny _ _ (if true=true then _ else _) _ _ _
 rw [if_pos rfl]
 refine qa (wpAny_rule (qa (wpAny_field hz rfl (x:=.ref TO) rfl ?_)))
 refine qa (zeJ hz (by simp) fun ha ka za fa=>?_)
 have h11:ha.IsTupleIter i1 t1 k:=by
  obtain⟨o,e,r⟩:=h1
  exact⟨o,fa _ _ ap.i1z e,r⟩
 have g11:ha.IsTuple t1 xs:=by
  obtain⟨o,e,r⟩:=g1
  exact⟨o,fa _ _ ap.l1z e,r⟩
 refine qa ?_
 show wpAny _ _ (forIn [(Value.ref i1,0),(Value.ref i2,1)] (none,()) _) _ _ _
 rw [List.forIn_cons]
 refine qa (qa (wpAny_onRaise ?_))
 show wpAny _ _ (Builtin.SmallTypes.nextOf (.ref i1) >>= _) _ _ _
 refine qa (zij (s:={ s with heap:=ha }) hh h11 g11 en fun hb e sb ⟨oe,ge,ce⟩=>?_)
 have kb:=sb z _ (Ne.symm ap.i1z) ka
 refine zeJ (s:={ s with heap:=hb }) kb (by simp) fun hc kc zc fc=>?_
 have nez:e≠z:=fun h=>by
  rw [h]at ge
  have z1:=qw (ge.symm.trans kb)
  rw [z1]at ce
  have z2 : "zip" = "StopIteration":=Value.type.inj ce
  exact absurd z2 (by decide)
 show wpAny _ _ (isInstance (.ref e) (.type "StopIteration") >>= _) _ _ _
 refine qa (wpAny_isInstance (T := "StopIteration") (b:=true) ⟨oe,fc _ _ nez ge,ce⟩ isSubtype_stop ?_)
 exact qb (q hc fun c o n1 n2 n3 n4 e=>fc c o n1 (sb c o n3 (fa c o n1 e)))
end
def Itz(K:qc)(a b:Addr):It :=
 ⟨fun i H=>∃ xs ys x y,SqT K H a xs/\SqT K H b ys/\xs[i]?=some x/\ys[i]?=some y,fun i H x H'=>∃ T,H T=none/\x=.ref T/\∀ xs ys v u,SqT K H a xs->SqT K H b ys->xs[i]?=some v->ys[i]?=some u->H'=upd H T (.tup [v,u]),fun i H=>∃ xs ys,SqT K H a xs/\SqT K H b ys/\xs.length=i⟩
abbrev ZSt(z TI TO i1 i2 t1 t2:Addr)(i:Nat)(h:Heap):Prop:=IsZip h z TI TO .none/\IsPair h TI (.ref i1) (.ref i2)/\(∃ a b,IsPair h TO a b)/\h.IsTupleIter i1 t1 i/\h.IsTupleIter i2 t2 i
theorem zqD{P:Program}{w:World}{K:qc}{elts:List Expr}{k:Nat}{pos:Pos}(z TI TO i1 i2 t1 t2:Addr)(ap:ZipApart z TI TO i1 i2 t1 t2) :
  Turn P w K (.Tuple elts k pos) (Itz K t1 t2) [z,TI,TO,i1,i2] z (ZSt z TI TO i1 i2 t1 t2) where
 mem:=by simp
 obj:=fun i h st c hc=>by
  obtain⟨hz,hI,⟨a,b,hO⟩,⟨o1,e1,_,d1⟩,⟨o2,e2,_,d2⟩⟩:=st
  simp only [qu,List.not_mem_nil,or_false]at hc
  rcases hc with rfl | rfl | rfl | rfl | rfl
  ·exact⟨_,hz,fun v q=>by
    have q':Data.fields _=Data.cell v:=q
    cases q'⟩
  ·exact⟨_,hI,fun v q=>by
    have q':Data.seq _ _=Data.cell v:=q
    cases q'⟩
  ·exact⟨_,hO,fun v q=>by
    have q':Data.seq _ _=Data.cell v:=q
    cases q'⟩
  ·exact⟨o1,e1,fun v q=>by rw [d1]at q; cases q⟩
  ·exact⟨o2,e2,fun v q=>by rw [d2]at q; cases q⟩
 keep:=fun i h h' st kk=>by
  obtain⟨hz,hI,⟨a,b,hO⟩,⟨o1,e1,r1⟩,⟨o2,e2,r2⟩⟩:=st
  exact⟨kk z (by simp) _ hz,kk TI (by simp) _ hI,⟨a,b,kk TO (by simp) _ hO⟩,⟨o1,kk i1 (by simp) _ e1,r1⟩,⟨o2,kk i2 (by simp) _ e2,r2⟩⟩
 item:=by
  intro X hP hw hK hc i pins s σ H E I hf st hg
  subst hP hw hK
  obtain⟨xs,ys,x,y,hq1,hq2,hx,hy⟩:=hg
  obtain⟨hz,hI,⟨a,b,hO⟩,h1,h2⟩:=st
  obtain⟨its1,rv1,ht1,_⟩:=I.tuple hq1
  obtain⟨its2,rv2,ht2,_⟩:=I.tuple hq2
  obtain⟨u1,eu1,r1⟩:=rv1.get hx
  obtain⟨u2,eu2,r2⟩:=rv2.get hy
  refine zog ap hz hI hO h1 h2 ht1 ht2 (by simpa using eu1) (by simpa using eu2) fun h' z' O' k1 k2 isT kk=>?_
  refine⟨_,rfl,wpAny_letOwnedTupleGo_zip (s:={ s with heap:=h' }) z' fun h2' z2 sb=>?_⟩
  have nm:s.heap.objs.size∉[z,TI,TO,i1,i2]:=fun hm=>by
   have:s.heap.objs.size < s.heap.objs.size:=by
    simp only [qu,List.not_mem_nil,or_false]at hm
    obtain⟨_,e1,_⟩:=h1
    obtain⟨_,e2,_⟩:=h2
    rcases hm with h | h | h | h | h
    ·exact qi (h▸qh hz) (qe _)
    ·exact qi (h▸qh hI) (qe _)
    ·exact qi (h▸qh hO) (qe _)
    ·exact qi (h▸qh e1) (qe _)
    ·exact qi (h▸qh e2) (qe _)
   exact Nat.lt_irrefl _ this
  have nz:s.heap.objs.size≠z:=fun h=>nm (by rw [h]; simp)
  have I2:Inv X pins σ H { s with heap:=h2' }:=I.turnedW (t':=s.toks) (wr:=[z,TI,TO,i1,i2]) (fun c o hc q=>by
   simp only [qu,List.not_mem_nil,or_false,not_or]at hc
   exact(sb.2 c hc.1).trans (kk c o hc.1 hc.2.2.1 hc.2.2.2.1 hc.2.2.2.2 q)) hf
  have fT:zdt X pins H s.heap.objs.size:=I.fpOk (qe _) (I.hok.fresh (qe _))
  have I3:Inv X pins σ (upd H s.heap.objs.size (.tup [x,y])) { s with heap:=h2' }:=I2.track fT I.sz ⟨by show 2<=sizeLine; decide,[u1,u2],.cons r1 (.cons r2 .nil),_,(sb.2 _ nz).trans isT,rfl,_,rfl⟩
  refine⟨.ref s.heap.objs.size,_,I3,rfl,⟨_,I.hok.fresh (qe _),rfl,fun xs' ys' v u hq1' hq2' hv hu=>?_⟩,⟨z2,(sb.2 _ ap.TIz).trans (kk _ _ ap.TIz ap.TITO ap.TIi1 ap.TIi2 hI),⟨_,_,(sb.2 _ ap.TOz).trans O'⟩,?_,?_⟩,fun c hc=>?_⟩
  ·cases I.tuple_inj hq1 hq1'
   cases I.tuple_inj hq2 hq2'
   rw [hx]at hv
   rw [hy]at hu
   cases hv
   cases hu
   rfl
  ·obtain⟨o,e,r⟩:=k1
   exact⟨o,(sb.2 _ ap.i1z).trans e,r⟩
  ·obtain⟨o,e,r⟩:=k2
   exact⟨o,(sb.2 _ ap.i2z).trans e,r⟩
  ·have ne:c≠s.heap.objs.size:=fun h=>nm (h▸hc)
   rw [zA ne]
   exact(hf c hc).1
 done:=by
  intro X hP hw hK hc i pins s σ H E I hf st hg
  subst hP hw hK
  obtain⟨xs,ys,hq1,hq2,hl⟩:=hg
  obtain⟨hz,hI,⟨a,b,hO⟩,h1,h2⟩:=st
  obtain⟨its1,rv1,ht1,_⟩:=I.tuple hq1
  obtain⟨its2,rv2,ht2,_⟩:=I.tuple hq2
  refine zqC (I.ok.hd hc) ap hz hI hO h1 h2 ht1 ht2 (by
   have:=rv1.length
   simp
   omega) fun h' kk=>⟨rfl,I.turnedW (t':=s.toks) (wr:=[z,TI,TO,i1,i2]) (fun c o hc q=>by
   simp only [qu,List.not_mem_nil,or_false,not_or]at hc
   exact kk c o hc.1 hc.2.2.1 hc.2.2.2.1 hc.2.2.2.2 q) hf⟩
 self:=fun _ _ _ _ _ st h=>wpAny_pyIter_zip st.1 h
section
variable {prog:Program} {w:World} {A:Around} {E:Value->Shared->Prop} {s:Shared}
theorem zoh{t1 t2:Addr}{xs ys:Array Value}{Q:Value->Shared->Prop}(h1:s.heap.IsTuple t1 xs)(h2:s.heap.IsTuple t2 ys)
  (h:∀ h':Heap,ZSt (s.heap.objs.size+4) (s.heap.objs.size+2) (s.heap.objs.size+3) s.heap.objs.size (s.heap.objs.size+1) t1 t2 0 h'->(∀ b o,s.heap.get? b=some o->h'.get? b=some o)->Q (.ref (s.heap.objs.size+4)) { s with heap:=h' }) :
  wpAny (model prog w) A (call (.type "zip") [.ref t1,.ref t2]) Q E s:=by
 refine callType_new F.called_zip (by decide) (F.typeCall_zip_2 _ _) (F.newCall_zip_2 _ _) (fun obj=>F.args_object_init_3 obj _ _) F.entry_zip_new (zqB t1 t2 xs ys) ⟨h1,h2,?_⟩
 have z1:(zh1 s.heap t1).objs.size=s.heap.objs.size+1:=Heap.size_push ..
 have z2:(zh2 s.heap t1 t2).objs.size=s.heap.objs.size+2:=by rw [Heap.size_push,z1]
 have z3:(zh3 s.heap t1 t2).objs.size=s.heap.objs.size+3:=by rw [Heap.size_push,z2]
 have z4:(zh4 s.heap t1 t2).objs.size=s.heap.objs.size+4:=by rw [Heap.size_push,z3]
 show _/\_
 rw [z4]
 have ez:(zh5 s.heap t1 t2).get? (s.heap.objs.size+4)=some { cls:=.type "zip",data:=.fields #[.none,.bool false,.bool false,.ref (s.heap.objs.size+2),.ref (s.heap.objs.size+3)] }:=by
  have:=qg (zh4 s.heap t1 t2) (o:={ cls:=.type "zip",data:=.fields #[.none,.bool false,.bool false,.ref (zh2 s.heap t1 t2).objs.size,.ref (zh3 s.heap t1 t2).objs.size] }) rfl
  rw [z4,z2,z3]at this
  rw [<-this]
  unfold zh5
  rw [z2,z3]
 refine⟨⟨_,ez,rfl⟩,h _ ⟨ez,?_,⟨.none,.none,?_⟩,⟨{ cls:=.type "tuple_iterator",data:=.fields #[.ref t1,.int 0 0] },?_,rfl,rfl⟩,⟨{ cls:=.type "tuple_iterator",data:=.fields #[.ref t2,.int 0 0] },?_,rfl,rfl⟩⟩ fun b o x=>?_⟩
 ·have:=qg (zh2 s.heap t1 t2) (o:={ cls:=.type "tuple",data:=.seq #[.ref s.heap.objs.size,.ref (zh1 s.heap t1).objs.size] }) rfl
  rw [z2,z1]at this
  refine qd _ (qd _ ?_)
  unfold zh3
  rw [z1]
  exact this
 ·have:=qg (zh3 s.heap t1 t2) (o:={ cls:=.type "tuple",data:=.seq #[.none,.none] }) rfl
  rw [z3]at this
  exact qd _ this
 ·exact qd _ (qd _ (qd _ (qd _ (qg _ rfl))))
 ·have:=qg (zh1 s.heap t1) (o:={ cls:=.type "tuple_iterator",data:=.fields #[.ref t2,.int 0 0] }) rfl
  rw [z1]at this
  exact qd _ (qd _ (qd _ this))
 ·exact qd _ (qd _ (qd _ (qd _ (qd _ x))))
end
section
variable {X:Cx} {elts:List Expr} {k:Nat} {tpos:Pos}
def zyf(K:qc)(ta:TA):TI:=fun σ H R=>ta σ H fun vs H1=>∃ a b,vs=[.ref a,.ref b]/\(∃ xs,SqT K H1 a xs)/\(∃ ys,SqT K H1 b ys)/\R (Itz K a b) H1
theorem zlH{a b:Expr}{ta:TA}{p pos:Pos}(K:qc)(hK:X.K=K)(hg:Gl X "zip")(hm:X.mg "zip"=none)(ha:Wr (PA X [a,b] ta))(hs:zah a=true:=by rfl)(hs2:[b].all zah=true:=by rfl) :
  Wr (PI X (.Tuple elts k tpos) (.Call (.Name "zip" p) [a,b] [] pos) (zyf K ta)):=by
 subst hK
 refine⟨?_⟩
 intro pins s σ H R I h
 refine Call_ (zfV I hg hm boot_zip (PyProof.Rows.callWith_type1 (thn (ha.run pos pins s σ H _ I h) fun us s1 ⟨vs,H1,I1,r1,q1⟩=>?_) (zdg hs) (zcQ hs2)))
 obtain⟨t1,t2,e,⟨xs,hq1⟩,⟨ys,hq2⟩,q⟩:=q1
 subst e
 obtain⟨u1,u2,rfl,ru1,ru2⟩:=zmb r1
 cases ru1
 cases ru2
 obtain⟨its1,rv1,ht1,hz1⟩:=I1.tuple hq1
 obtain⟨its2,rv2,ht2,hz2⟩:=I1.tuple hq2
 have tl1:t1 < s1.heap.objs.size:=by
  obtain⟨o,e,_⟩:=ht1
  exact qh e
 have tl2:t2 < s1.heap.objs.size:=by
  obtain⟨o,e,_⟩:=ht2
  exact qh e
 have lt_ne:∀ {x y:Nat},x < y->x≠y:=fun h=>qj h
 refine zoh (show s1.heap.IsTuple t1 its1.toArray from ht1) (show s1.heap.IsTuple t2 its2.toArray from ht2) fun h' hst kk=>?_
 have I2:Inv X pins σ H1 { s1 with heap:=h' }:=I1.kept (t':=s1.toks) kk
 refine wpAny_pyIter_zip hst.1 ?_
 have f:∀ j:Nat,zdt X pins H1 (s1.heap.objs.size+j):=fun j=>I1.fpOk (Nat.le_add_right _ _) (I1.hok.fresh (Nat.le_add_right _ _))
 have ap:ZipApart (s1.heap.objs.size+4) (s1.heap.objs.size+2) (s1.heap.objs.size+3) s1.heap.objs.size (s1.heap.objs.size+1) t1 t2:=by
  generalize s1.heap.objs.size=n at tl1 tl2
  constructor<;>(simp only [Addr]at *; omega)
 refine⟨_,_,_,_,H1,rfl,I2,zqD _ _ _ _ _ t1 t2 ap,hst,fun c hc=>?_,q⟩
 simp only [qu,List.not_mem_nil,or_false]at hc
 rcases hc with rfl | rfl | rfl | rfl | rfl
 ·exact f 4
 ·exact f 2
 ·exact f 3
 ·exact f 0
 ·exact f 1
end
def zlI:List D->List D->List D
 | x::xs,y::ys=>.tuple [x,y]::zlI xs ys
 | _,_=>[]
theorem zm2:∀ {xs ys:List D} {i:Nat} {d:D},(zlI xs ys)[i]?=some d->∃ x y,xs[i]?=some x/\ys[i]?=some y/\d=.tuple [x,y]
 | [],ys,i,d,h=>by simp [zlI]at h
 | x::xs,[],i,d,h=>by simp [zlI]at h
 | x::xs,y::ys,0,d,h=>by cases h; exact⟨x,y,rfl,rfl,rfl⟩
 | x::xs,y::ys,i+1,d,h=>zm2 (xs:=xs) (ys:=ys) (i:=i) h
theorem zkj:∀ (xs ys:List D),xs.length=ys.length->(zlI xs ys).length=xs.length
 | [],[],_=>rfl
 | [],y::ys,h=>by cases h
 | x::xs,[],h=>by cases h
 | x::xs,y::ys,h=>congrArg (·+1) (zkj xs ys (Nat.succ.inj h))
def zqE:List U->Option (List D)
 | [.d (.tuple xs),.d (.tuple ys)]=>if xs.length=ys.length then some (zlI xs ys)else none
 | _=>none
def zqF(ma:MA):MI:=fun ρ=>(ma ρ).bind fun p=>(zbc p.2 p.1).bind fun us=>(zqE us).bind fun ds=>some (ds,p.2)
theorem zlJ{K:qc}{ta:TA}{ma:MA}(h:VAs K ta ma):VI K (zyf K ta) (zqF ma):=by
 intro ρ σ H ds ρ' R r e q
 obtain⟨⟨as,ρ1⟩,e1,e⟩:=zb e
 obtain⟨us,eu,e⟩:=zb e
 obtain⟨zs,ez,e⟩:=zb e
 cases e
 refine h ρ σ H as ρ1 _ r e1 fun vs H1 g1 s1=>?_
 have rp:=s1.rpl r g1 eu
 unfold zqE at ez
 split at ez
 ·split at ez
  rotate_left
  ·cases ez
  rename_i xs ys hl
  cases ez
  cases rp with
  | cons p1 t =>
   cases t with
   | cons p2 t =>
    cases t
    obtain⟨a,vx,rfl,h1,d1⟩:=DF.tup_inv p1
    obtain⟨b,vy,rfl,h2,d2⟩:=DF.tup_inv p2
    refine⟨a,b,rfl,⟨vx,(TpK.sq h1)⟩,⟨vy,(TpK.sq h2)⟩,q _ _ g1 fun H2 kk i=>⟨fun d ed=>?_,fun ei=>?_⟩⟩
    ·obtain⟨x,y,ex,ey,rfl⟩:=zm2 ed
     obtain⟨v,ev,dv⟩:=(d1.kp kk).get ex
     obtain⟨w,ew,dw⟩:=(d2.kp kk).get ey
     refine⟨⟨vx,vy,v,w,(TpK.kp kk h1).sq,(TpK.kp kk h2).sq,ev,ew⟩,fun z H' y=>?_⟩
     obtain⟨T,nT,rfl,y⟩:=y
     cases y vx vy v w ((TpK.kp kk h1).sq) ((TpK.kp kk h2).sq) ev ew
     have sm:=zP nT (.tup [v,w])
     exact⟨sm,.tup (.inl zx) (.cons (dv.kp sm.kp) (.cons (dw.kp sm.kp) .nil))⟩
    ·exact⟨vx,vy,(TpK.kp kk h1).sq,(TpK.kp kk h2).sq,by rw [zkj _ _ hl]at ei; rw [d1.len]; exact ei.symm⟩
 ·cases ez
section
variable {prog:Program} {w:World} {A:Around} {E:Value->Shared->Prop} {s:Shared}
theorem zkk{b:Addr}{Q:Bool->Shared->Prop}(hT:s.TypeIs (.ref b) "tuple")(h:Q false s):wpAny (model prog w) A (Builtin.Dict.quietEq (.ref b)) Q E s:=by
 unfold Builtin.Dict.quietEq
 refine qa (wpAny_specialOf hT F.slot_tuple_eq.lookup (qb ?_))
 exact h
theorem zkl{id:String}{d:Addr}{o:Obj}{es:Array DictEntry}{ep:Nat}{Q:Array DictEntry->Shared->Prop}(ho:s.heap.get? d=some o)(hd:o.data=.dict es ep)
  (hk:∀ e∈es.toList,∃ b,e.key=.ref b/\s.TypeIs (.ref b) "tuple") (hh:∀ e∈es.toList,¬(es.filter (·.hash==e.hash)).size > 1) (h:Q es s) :
  wpAny (model prog w) A (Builtin.Dict.entriesForEmpty id d) Q E s:=by
 unfold Builtin.Dict.entriesForEmpty
 refine qa (wpAny_dictEntries ho hd ?_)
 refine qa ?_
 rw [<-Array.forIn_toList]
 refine wpAny_forIn_list _ (fun zdr _ s'=>s'=s/\∀ e∈zdr,e∈es.toList) _ ?_ ?_ _ _ ⟨rfl,fun e h=>h⟩
 ·rintro e zdr b s' ⟨rfl,hr⟩
  obtain⟨c,ec,tc⟩:=hk e (hr e qo)
  rw [ec]
  refine qa (zkk tc ?_)
  simp only [Bool.not_false,if_true]
  rw [if_neg (hh e (hr e qo))]
  exact qb ⟨rfl,fun e h=>hr e (qm _ h)⟩
 ·rintro b s' ⟨rfl,_⟩
  exact qb h
theorem zwz{es:Array DictEntry}(ne:es.isEmpty=false)(hk:∀ e∈es.toList,∃ b,e.key=.ref b):(decide (es.size<=8) && es.all fun e=>(keyPart e.key).isSome)=false:=by
 have:(es.all fun e=>(keyPart e.key).isSome)=false:=by
  rw [<-Array.all_toList]
  cases h:es.toList with
  | nil =>
   have:es=#[]:=by
    apply Array.ext'
    rw [h]
   rw [this]at ne
   cases ne
  | cons e r =>
   obtain⟨b,eb⟩:=hk e (by rw [h]; exact qo)
   rw [List.all_cons,eb]
   rfl
 rw [this,Bool.and_false]
theorem zhS{d:Addr}{o:Obj}{es:Array DictEntry}{ep:Nat}{Q:Value->Shared->Prop}(hdS:(d==sysModules)=false)(ho:s.heap.get? d=some o)(hx:o.ExactDict)(hd:o.data=.dict es ep)(hz:es.size<=sizeLine)
  (hk:∀ e∈es.toList,∃ b,e.key=.ref b/\s.TypeIs (.ref b) "tuple") (hh:∀ e∈es.toList,¬(es.filter (·.hash==e.hash)).size > 1)
  (h:∀ h':Heap,(∃ o' ep',h'.get? s.heap.objs.size=some o'/\o'.ExactDict/\o'.data=.dict es ep')->(∀ b u,s.heap.get? b=some u->h'.get? b=some u)->Q (.ref s.heap.objs.size) { s with heap:=h' }) :
  wpAny (model prog w) A (call (.type "dict") [.ref d]) Q E s:=by
 refine callType_codes (Q₁:=fun obj s₁=>obj=.ref s.heap.objs.size/\s₁={ s with heap:=s.heap.push { cls:=.type "dict",data:=.dict #[] } }) F.kt_called_dict (F.kt_typeCall_dict_1 _) F.entry_dict_init (kt_code_dict_new _ ⟨rfl,rfl⟩) ?_
 rintro obj s₁ ⟨rfl,rfl⟩
 have nd:s.heap.objs.size≠d:=Ne.symm (qj (qh ho))
 have hn:(s.heap.push { cls:=.type "dict",data:=.dict #[] }).get? s.heap.objs.size=some { cls:=.type "dict",data:=.dict #[] }:=qg _ rfl
 have ho':(s.heap.push { cls:=.type "dict",data:=.dict #[] }).get? d=some o:=qd _ ho
 have kk:∀ b u,s.heap.get? b=some u->(s.heap.push { cls:=.type "dict",data:=.dict #[] }).get? b=some u:=fun b u e=>qd _ e
 generalize s.heap.push { cls:=.type "dict",data:=.dict #[] }=h1 at hn ho' kk ⊢
 have tn:Shared.TypeIs { s with heap:=h1 } (.ref s.heap.objs.size) "dict":=⟨_,hn,rfl⟩
 have to:Shared.TypeIs { s with heap:=h1 } (.ref d) "dict":=⟨_,ho',hx.1⟩
 refine⟨tn,F.args_dict_init_2 _ _,?_⟩
 unfold Builtin.«dict.__init__»
 refine qa ?_
 unfold Builtin.Dict.selfAndRest
 refine qa (wpAny_notOrdered_dict tn ?_)
 show wpAny _ _ (pure (s.heap.objs.size,[Value.ref d])) _ _ _
 refine qb ?_
 show wpAny _ _ (Builtin.Dict.updateFrom "dict.__init__" s.heap.objs.size (.ref d) [] .none) _ _ _
 unfold Builtin.Dict.updateFrom
 refine qa (wpAny_typeOf to ?_)
 rw [if_neg (by decide)]
 refine qa ?_
 unfold Builtin.Dict.merge
 refine qa ?_
 unfold Builtin.Dict.readDirectly
 refine qa (wpAny_isInstance to isSubtype_dict_dict ?_)
 simp only [Bool.not_true,Bool.false_eq_true,if_false]
 refine qa (wpAny_specialOf to F.slot_dict_iter.lookup (qb ?_))
 simp only [beq_self_eq_true,if_true]
 refine qa (qb ?_)
 unfold Builtin.Dict.mergeDict
 rw [if_neg (by simpa using nd)]
 unfold Builtin.Dict.showsAll
 rw [if_neg (by rw [hdS]; exact qf)]
 refine qa (qb ?_)
 refine qa (wpAny_dictEntries ho' hd ?_)
 cases ne:es.isEmpty with
 | true =>
  have e0:es=#[]:=Array.isEmpty_iff.mp ne
  subst e0
  have fw:(decide ((#[]:Array DictEntry).size<=8) && (#[]:Array DictEntry).all fun e=>(keyPart e.key).isSome)=true:=by rw [<-Array.all_toList]; rfl
  simp only [fw,Bool.not_true,Bool.false_eq_true,if_false]
  refine qa (wpAny_dictEpoch (s:={ s with heap:=h1 }) ho' hd ?_)
  refine qa (wpAny_dictEntries (s:={ s with heap:=h1 }) ho' hd ?_)
  refine qa ?_
  rw [Std.Legacy.Range.forIn_eq_forIn_range']
  simp only [Std.Legacy.Range.size,Nat.sub_zero,Nat.add_sub_cancel,Nat.div_one,Array.size_empty,List.range'_zero,List.forIn_nil]
  refine qb (qb ?_)
  exact qa (qb (qb ⟨rfl,h h1 ⟨_,0,hn,⟨rfl,rfl,rfl⟩,rfl⟩ kk⟩))
 | false =>
  have fw:=zwz ne fun e he=>let ⟨b,eb,_⟩:=hk e he; ⟨b,eb⟩
  simp only [fw,Bool.not_false,if_true]
  refine qa (wpAny_dictEntries hn rfl ?_)
  simp only [Array.isEmpty_empty,if_true]
  refine qa (zkl (s:={ s with heap:=h1 }) ho' hd (fun e he=>?_) hh ?_)
  ·obtain⟨b,eb,o2,eo,ec⟩:=hk e he
   exact⟨b,eb,o2,kk _ _ eo,ec⟩
  simp only [ne,Bool.not_false,if_true]
  refine qa (wpAny_updateDictKeysTo hn rfl ?_ (by show es.size<=_; omega))
  refine qb (qa (qb (qb ⟨rfl,h _ ⟨_,_,Heap.get?_update_self _ hn rfl,⟨rfl,rfl,rfl⟩,rfl⟩ fun b u e=>?_⟩)))
  exact((Heap.SameBut.update ..).2 b (qj (qh e))).trans (kk b u e)
end
def hK:Key->Int
 | .inl i=>hashInt i
 | .inr _=>0
def hT(ks:List Key):Int:=reduceHash (Builtin.Tuple.tupleHashOf (ks.map hK))
def zwA(ks:List Key):Bool:=ks.all fun k=>match k with | .inl _=>true | .inr _=>false
def ze2(kss:List (List Key)):Bool:=kss.all zwA && decide ((kss.map hT).Nodup)
theorem zyg{P:Program}{w:World}:∀ {ks:List Key},zwA ks=true->(tupleKind (zai P w)).hash ks=hT ks:=fun{ks} h=>by
 show reduceHash (Builtin.Tuple.tupleHashOf (ks.map (zw1 w)))=_
 unfold hT
 congr 2
 refine List.map_congr_left fun k hk=>?_
 have:=List.all_eq_true.mp h k hk
 cases k with
 | inl i=>rfl
 | inr x=>cases this
theorem zlK{es:List DictEntry}(hn:(es.map (·.hash)).Nodup){e:DictEntry}(he:e∈es):(es.filter (·.hash==e.hash)).length<=1:=by
 induction es with
 | nil=>cases he
 | cons x es ih =>
  rw [List.map_cons,List.nodup_cons]at hn
  rw [List.filter_cons]
  rcases qu.mp he with rfl | he'
  ·rw [if_pos (by simp)]
   have:es.filter (·.hash==e.hash)=[]:=List.filter_eq_nil_iff.mpr fun y hy z=>hn.1 (List.mem_map.mpr ⟨y,hy,by simpa using z⟩)
   rw [this]
   simp
  ·have:¬((x.hash==e.hash)=true):=fun z=>hn.1 (List.mem_map.mpr ⟨e,he',by simpa using (beq_iff_eq.mp z).symm⟩)
   rw [if_neg this]
   exact ih hn.2 he'
section
variable {X:Cx} {pins:List (Addr×Obj)} {σ:St} {H:Hp} {s:Shared} {a:Addr} {kvs:List (List Key×V)} {A:Around} {E:Value->Shared->Prop}
theorem zs8{l:List (List Key×V)}{m:List (List Key×Addr×Value)}(r:KT X.K H l m):m.map (·.1)=l.map (·.1):=by
 induction r with
 | nil=>rfl
 | cons hq t ih=>rw [List.map_cons,List.map_cons,ih,hq.1]
theorem zs9{Q:Value->Shared->Prop}(I:Inv X pins σ H s)(e:Rd H a (.dT kvs))(hh:ze2 (kvs.map (·.1))=true)(h:∀ p s',H p=none->Inv X pins σ (upd H p (.dT kvs)) s'->Q (.ref p) s'):wpAny (model X.prog X.w) A (call (.type "dict") [.ref a]) Q E s:=by
 obtain⟨z,y,xs,r,o,es,ep,h1,h2,h3,h4,h5⟩:=(show zaj X.prog X.w X.K H s.heap a (.dT kvs) from zo1 I.hok e)
 obtain⟨_,_,xs',r',dd⟩:=zie I.kIn I.hok e
 have hlen:es.size=kvs.length:=by
  have:=congrArg List.length h4
  rw [Array.length_toList,List.length_map,<-zcR r]at this
  exact this
 obtain⟨hi,hn⟩:=Bool.and_eq_true_iff.mp hh
 have hn:=of_decide_eq_true hn
 have keysEq:=zs8 r
 have hashes:es.toList.map (·.hash)=(kvs.map (·.1)).map hT:=by
  rw [h4,<-keysEq,List.map_map,List.map_map]
  refine List.map_congr_left fun x hx=>?_
  exact zyg (List.all_eq_true.mp hi x.1 (by rw [<-keysEq]; exact List.mem_map.mpr ⟨x,hx,rfl⟩))
 refine zhS y h1 h2 h3 (by omega) (fun q hq=>?_) (fun q hq=>?_) fun h' ⟨o',ep',n1,n2,n3⟩ kk=>?_
 ·rw [h4]at hq
  obtain⟨x,hx,rfl⟩:=List.mem_map.mp hq
  have key:∀ {l:List (List Key×V)} {m:List (List Key×Addr×Value)},KT X.K H l m->∀ x∈m,TpK X.K H x.2.1 (x.1.map kV):=by
   intro l m q
   induction q with
   | nil=>intro x hx; cases hx
   | cons hq _ ih =>
    intro x hx
    rcases qu.mp hx with e | hx
    ·subst e
     rw [<-hq.1]
     exact hq.2.1
    ·exact ih x hx
  exact⟨x.2.1,rfl,(zeM I.kIn I.hok (key r x hx)).typeIs⟩
 ·rw [<-hashes]at hn
  have:=zlK hn hq
  rw [<-Array.length_toList,Array.toList_filter]
  omega
 ·refine h _ _ (I.hok.fresh (qe _)) (I.laid (a:=s.heap.objs.size) (o:=.dT kvs) (t':=s.toks) kk (qe _) ⟨z,beq_eq_false_iff_ne.mpr (Ne.symm (qj I.big)),xs,?_,o',es,ep',n1,n2,n3,h4,h5⟩)
  exact KT.keeps r fun b ys hb=>by rw [zA (fun z=>by rw [z,I.hok.fresh (qe _)]at hb; cases hb)]; exact hb
theorem zlL:zbU X (.type "dict") (fun xs H Q=>∃ a kvs,xs=[.ref a]/\Rd H a (.dT kvs)/\ze2 (kvs.map (·.1))=true/\∀ p,H p=none->Q (.ref p) (upd H p (.dT kvs))):=by
 intro pins s σ H xs us Q I r h
 obtain⟨a,kvs,rfl,hr,hh,q⟩:=h
 obtain⟨u,rfl,ru⟩:=zdV r
 cases ru
 exact zs9 I hr hh fun p s' hp I'=>⟨.ref p,_,I',rfl,q p hp⟩
end
def zkm:List (D×D)->Option (List (List Key×D))
 | []=>some []
 | (k,d)::r=>(za2 k).bind fun k=>(zkm r).bind fun r=>some ((k,d)::r)
def zfE:U->Option U
 | .t kvs=>if ze2 (kvs.map (·.1))=true then some (.t kvs)else none
 | .d (.dict kvs)=>if noX kvs=true then(zkm kvs).bind fun kvs=>if ze2 (kvs.map (·.1))=true then some (.t kvs)else none else none
 | _=>none
section
variable {K:qc} {H:Hp}
theorem zkn{ws:List (List Key×V)}{kvs:List (List Key×D)}(h:KVd K H ws kvs):ws.map (·.1)=kvs.map (·.1):=by
 induction h with
 | nil=>rfl
 | cons hq t ih=>rw [List.map_cons,List.map_cons,ih,hq.1]
theorem zko:∀ {kvs:List (D×D)} {ws:List (List Key×V)} {r:List (List Key×D)},DFt K H ws kvs->zkm kvs=some r->KVd K H ws r
 | [],ws,r,h,e=>by cases h; cases e; exact .nil
 | (k,d)::kvs,ws,r,h,e=>by
  obtain⟨k',ek,e⟩:=zb (show(za2 k).bind _=some r from e)
  obtain⟨r',er,e⟩:=zb e
  cases e
  cases h with
  | @cons k2 v _ vs ds hv t =>
   rw [zfx]at ek
   cases ek
   exact .cons ⟨rfl,hv⟩ (zko t er)
theorem zoi:VC K (fun xs H Q=>∃ a kvs,xs=[.ref a]/\Rd H a (.dT kvs)/\ze2 (kvs.map (·.1))=true/\∀ p,H p=none->Q (.ref p) (upd H p (.dT kvs))) (f1 zfE):=zlp fun v a u H Q h e q=>by
 unfold zfE at e
 split at e
 ·split at e
  rotate_left
  ·cases e
  rename_i kvs hh
  cases e
  obtain⟨b,ws,rfl,h1,h2⟩:=h
  refine⟨b,ws,rfl,.inl h1,by rw [zkn h2]; exact hh,fun p hp=>?_⟩
  have sm:=zP hp (.dT ws)
  exact q _ _ sm ⟨p,ws,rfl,zx,h2.kp sm.kp⟩ fun _=>⟨p,rfl,hp⟩
 ·split at e
  rotate_left
  ·cases e
  rename_i nx
  obtain⟨r,er,e⟩:=zb e
  split at e
  rotate_left
  ·cases e
  rename_i hh
  cases e
  obtain⟨b,o,ws,rfl,h1,h2⟩:=DF.dct_inv h nx
  have kd:=zko h2 er
  refine⟨b,ws,rfl,.inr ⟨o,h1⟩,by rw [zkn kd]; exact hh,fun p hp=>?_⟩
  have sm:=zP hp (.dT ws)
  exact q _ _ sm ⟨p,ws,rfl,zx,kd.kp sm.kp⟩ fun _=>⟨p,rfl,hp⟩
 ·cases e
end
def zm3(i j:Int):Prop:=i.natAbs.log2 < 1000000/\j.natAbs.log2 < 1000000
theorem zkp{n:Int}(h:n.natAbs.log2 < 1000000):Builtin.Int.intBits n<=2^20:=by
 refine intBits_le ?_
 by_cases z:n.natAbs=0
 ·rw [z]; exact Nat.two_pow_pos _
 ·exact qi ((Nat.log2_lt z).mp h) (Nat.pow_le_pow_right (by decide) (by decide))
section
variable {X:Cx}
theorem zbI:OpR X (binaryOp .Mult) (rI zm3 fun i j=>.int (i * j)):=opI fun _ _ _ _ _ _ _ hc q=>mul_int q (IntMulOk.of_bits (zkp hc.1) (zkp hc.2))
end
section
variable {K:qc}
noncomputable def zcZ:=fIC zm3 fun i j=>.int (i * j)
theorem zbJ:VO K (rI zm3 fun i j=>.int (i * j)) zcZ:=zin fun i j H=>.int _
def zm4:List U->Option U
 | [.d (.int i),.d (.int j)]=>some (.d (.int (if j < i then j else i)))
 | _=>none
theorem zta:VC K (fun xs H Q=>∃ i j,xs=[.int i,.int j]/\Q (.int (if j < i then j else i)) H) zm4:=by
 intro vs us u H Q hr e q
 unfold zm4 at e
 split at e
 ·rename_i i j
  cases e
  cases hr with
  | cons h1 t =>
   cases t with
   | cons h2 t =>
    cases t
    cases DF.int_inv h1
    cases DF.int_inv h2
    exact⟨i,j,rfl,q _ _ (fun _ _ z=>z) (.int _) Nw.data⟩
 ·cases e
end
section
variable {ρ:En} {me ma mb mc mk mi md my mv mx mo:ME} {mA mK:MA} {mt mu:MT} {mI:MI} {mg:MG} {m1 m2:MS} {i j n:Nat} {u:U} {x:D}
variable {QE:Ar×En->Prop} {QI:List D×En->Prop}
theorem zkq:Wo (zdj md my mx ρ) QE=Wo (md ρ) (Co (fun p=>(p.1.get p.2).bind fun u0=>if zhp u0=true then(my p.2).bind fun q=>(mx q.2).bind fun z=>(p.1.get z.2).bind fun u=>(q.1.get z.2).bind fun y=>(z.1.get z.2).bind fun x=>(zhR u y).bind fun o=>x.da.bind fun x=>some (.u (.d (o.getD x)),z.2)else none) ⟨0⟩ QE):=by
 have e:zdj md my mx ρ=(md ρ).bind fun p=>(p.1.get p.2).bind fun u0=>if zhp u0=true then(my p.2).bind fun q=>(mx q.2).bind fun z=>(p.1.get z.2).bind fun u=>(q.1.get z.2).bind fun y=>(z.1.get z.2).bind fun x=>(zhR u y).bind fun o=>x.da.bind fun x=>some (.u (.d (o.getD x)),z.2)else none:=by
  unfold zdj
  refine bind_fn fun p=>bind_fn fun u0=>?_
  split
  ·refine bind_fn fun q=>bind_fn fun z=>bind_fn fun u=>bind_fn fun y=>bind_fn fun x=>bind_fn fun o=>?_
   cases x<;>rfl
  ·rfl
 rw [e,zu]
theorem zqG:Wo (zqF mA ρ) QI=Wo (mA ρ) (Co (fun p=>(zbc p.2 p.1).bind fun us=>(zqE us).bind fun ds=>some (ds,p.2)) ⟨0⟩ QI):=by
 show Wo (Option.bind _ _) QI=_
 rw [zu]
theorem zm5{kvs:List (List Key×D)}:zhp (.t kvs)=true:=rfl
theorem zqH{a b:Int}:zm4 [.d (.int a),.d (.int b)]=some (.d (.int (if b < a then b else a))):=rfl
theorem zcp{a b:Int}(h:a.natAbs.log2 < 1000000)(h2:b.natAbs.log2 < 1000000):zcZ (.d (.int a)) (.d (.int b))=some (.d (.int (a * b))):=ziu (c:=zm3) ⟨h,h2⟩
theorem zm6{a:Int}:zwx (.d (.int a)) (.d (.int 1))=some (.d (.int (a % 2))):=by
 show some (U.d (.int (Builtin.bitAnd a 1)))=_
 rw [bitAnd_m1]
theorem zqI{α:Type}{g:α->D}{nt:Nat}{b:α->Bool}{e:α->D}{as:List α}{Q:List D×En->Prop}(hz:as.length<=sizeLine)
  (st:∀ a∈as,∀ ys,Wo (mg (g a) ρ) (Co mt ⟨0⟩ (kLC nt me ys fun ρ' zs=>ρ'=ρ/\zs=if b a=true then ys++[e a]else ys))) (q:Q ((as.filter b).map e,ρ)):Wo (lcM nt mg mt me (as.map g) ρ []) Q:=by
 refine zuz (fun i ρ' ys=>ρ'=ρ/\ys=((as.take i).filter b).map e) (by rw [List.length_map]; exact hz) (fun i ρ' ys h=>?_) ⟨rfl,rfl⟩ (fun i d ρ' ys hd h=>?_) fun ρ' ys h=>?_
 ·rw [h.2,List.length_map]
  exact qx (List.length_filter_le _ _) (by rw [List.length_take]; exact Nat.min_le_left _ _)
 ·obtain⟨rfl,rfl⟩:=h
  rw [List.getElem?_map]at hd
  obtain⟨a,ha,rfl⟩:=qq.mp hd
  have:=st a (List.mem_of_getElem? ha) (((as.take i).filter b).map e)
  have en:((as.take (i+1)).filter b).map e=if b a=true then((as.take i).filter b).map e++[e a]else((as.take i).filter b).map e:=by
   rw [List.take_succ,ha,List.filter_append,List.map_append]
   show _++(([a]:List α).filter b).map e=_
   rw [List.filter_cons]
   split<;>simp
  rw [en]
  exact this
 ·obtain⟨rfl,rfl⟩:=h
  rw [List.length_map,List.take_of_length_le (qe _)]
  exact q
end
section
variable {X:Cx} {tg:Expr}
end
end L2
namespace L2
open PySem
def zhT(n d:Int):Int:=(if d < 0 then -n else n) / (Int.gcd n d:Nat)
def zhq(n d:Int):Int:=(if d < 0 then -d else d) / (Int.gcd n d:Nat)
theorem zoj{n d:Int}(hd:d≠0):zhT n d * d=n * zhq n d/\1<=zhq n d/\Int.gcd (zhT n d) (zhq n d)=1/\zhq n d<=d.natAbs/\(zhT n d).natAbs<=n.natAbs:=by
 have hg:0 < Int.gcd n d:=Int.gcd_pos_of_ne_zero_right n hd
 obtain⟨u,hu⟩:=Int.gcd_dvd_left n d
 obtain⟨v,hv⟩:=Int.gcd_dvd_right n d
 have hg':(0:Int) < (Int.gcd n d:Nat):=Int.natCast_pos.mpr hg
 have hc:Int.gcd (n / (Int.gcd n d:Nat)) (d / (Int.gcd n d:Nat))=1:=Int.gcd_ediv_gcd_ediv_gcd hg
 unfold zhT zhq
 generalize (Int.gcd n d:Nat)=g at *
 have gne:(g:Int)≠0:=by omega
 have eu:n / (g:Int)=u:=by rw [hu]; exact Int.mul_ediv_cancel_left u gne
 have ev:d / (g:Int)=v:=by rw [hv]; exact Int.mul_ediv_cancel_left v gne
 have eu':(-n) / (g:Int)=-u:=by rw [hu,<-Int.mul_neg]; exact Int.mul_ediv_cancel_left (-u) gne
 have ev':(-d) / (g:Int)=-v:=by rw [hv,<-Int.mul_neg]; exact Int.mul_ediv_cancel_left (-v) gne
 rw [eu,ev]at hc
 have g1:1<=g:=hg
 have an:n.natAbs=g * u.natAbs:=by rw [hu,Int.natAbs_mul]; rfl
 have ad:d.natAbs=g * v.natAbs:=by rw [hv,Int.natAbs_mul]; rfl
 have lu:u.natAbs<=n.natAbs:=by rw [an]; exact Nat.le_mul_of_pos_left _ hg
 have lv:v.natAbs<=d.natAbs:=by rw [ad]; exact Nat.le_mul_of_pos_left _ hg
 by_cases c:d < 0
 ·rw [if_pos c,if_pos c,eu',ev']
  have hv0:v < 0:=by
   rcases(by omega:v < 0\/0<=v)with z | z
   ·exact z
   ·have:=Int.mul_nonneg (Int.le_of_lt hg') z
    omega
  refine⟨?_,by omega,?_,by omega,by omega⟩
  ·rw [hu,hv]
   simp only [Int.neg_mul,Int.mul_neg,Int.neg_inj]
   ac_rfl
  ·rw [Int.neg_gcd,Int.gcd_neg]
   exact hc
 ·rw [if_neg c,if_neg c,eu,ev]
  have hv0:0 < v:=by
   rcases(by omega:0 < v\/v<=0)with z | z
   ·exact z
   ·have:=Int.mul_nonneg (Int.le_of_lt hg') (show 0<=-v by omega)
    rw [Int.mul_neg,<-hv]at this
    omega
  refine⟨?_,by omega,hc,by omega,by omega⟩
  rw [hu,hv]
  ac_rfl
theorem zqJ{n d N D:Int}(hd:d≠0)(h1:1<=D)(hc:Int.gcd N D=1)(he:N * d=n * D):N=zhT n d/\D=zhq n d:=by
 obtain⟨e,y1,c,_,_⟩:=zoj (n:=n) hd
 generalize zhT n d=x at *
 generalize zhq n d=y at *
 have k:N * y=x * D:=by
  have z:(N * y) * d=(x * D) * d:=by grind
  exact Int.eq_of_mul_eq_mul_right hd z
 have d1:D∣y:=by
  have t:D∣N * y:=⟨x,by rw [k]; ac_rfl⟩
  have u:=Int.dvd_gcd_mul_iff_dvd_mul.mpr t
  rw [Int.gcd_comm,hc]at u
  simpa using u
 have d2:y∣D:=by
  have t:y∣x * D:=⟨N,by rw [<-k]; ac_rfl⟩
  have u:=Int.dvd_gcd_mul_iff_dvd_mul.mpr t
  rw [Int.gcd_comm,c]at u
  simpa using u
 have l1:=Int.le_of_dvd (by omega) d1
 have l2:=Int.le_of_dvd (by omega) d2
 have e2:D=y:=by omega
 refine⟨?_,e2⟩
 rw [e2]at k
 exact Int.eq_of_mul_eq_mul_right (by omega) k
theorem zkr(n d:Int){g:Int}(hg:0 < g):n.fdiv (if d < 0 then 0 - g else g)=(if d < 0 then -n else n) / g:=by
 split
 ·rw [Int.zero_sub,<-Int.fdiv_eq_ediv_of_nonneg _ (Int.le_of_lt hg)]
  have:=Int.neg_fdiv_neg (-n) g
  rw [Int.neg_neg]at this
  exact this
 ·rw [Int.fdiv_eq_ediv_of_nonneg _ (Int.le_of_lt hg)]
theorem zqK(x y:Int):Int.gcd (if x < 0 then -x else x) (if y < 0 then -y else y)=Int.gcd x y:=by
 rw [ziQ]
 split
 ·exact Int.gcd_neg
 ·rfl
theorem ztb{n d:Int}(hd:d≠0):zhT n d=(Rat.divInt n d).num/\zhq n d=((Rat.divInt n d).den:Int):=by
 have h:=zqJ (n:=n) (d:=d) (N:=(Rat.divInt n d).num) (D:=((Rat.divInt n d).den:Int)) hd (by have:=(Rat.divInt n d).den_pos; omega) (by
  have:=(Rat.divInt n d).reduced
  exact this) (by
  have e:Rat.divInt (Rat.divInt n d).num ((Rat.divInt n d).den:Int)=Rat.divInt n d:=Rat.num_divInt_den _
  rw [Rat.divInt_eq_divInt_iff (by have:=(Rat.divInt n d).den_pos; omega) hd]at e
  rw [e])
 exact⟨h.1.symm,h.2.symm⟩
def fR(r:Rat):D:=.tuple [.int r.num,.int (r.den:Int)]
theorem zqL{n d:Int}(hd:d≠0):PyData.tuple [.int (zhT n d),.int (zhq n d)]=fR (Rat.divInt n d):=by
 obtain⟨e1,e2⟩:=ztb (n:=n) hd
 rw [e1,e2]
 rfl
theorem zhr(r:Rat):1<=(r.den:Int):=by have:=r.den_pos; omega
theorem cop(r:Rat):Int.gcd r.num (r.den:Int)=1:=by
 have:=r.reduced
 exact this
theorem ztc(a b:Rat):Rat.divInt (a.num * b.den+b.num * a.den) ((a.den:Int) * b.den)=a+b:=by
 rw [Rat.add_def',<-Rat.divInt_ofNat,Int.natCast_mul]
theorem ztd(a b:Rat):Rat.divInt (a.num * b.num) ((a.den:Int) * b.den)=a * b:=by
 rw [Rat.mul_def',<-Rat.divInt_ofNat,Int.natCast_mul]
theorem zhs(r:Rat):r * (r.den:Rat)=(r.num:Rat):=by
 have e:(r.num:Rat) / ((r.den:Int):Rat)=r:=by rw [<-Rat.divInt_eq_div]; exact Rat.num_divInt_den r
 have n:((r.den:Int):Rat)≠0:=fun h=>by
  have:=Rat.intCast_inj.mp (show((r.den:Int):Rat)=((0:Int):Rat) from h)
  have:=r.den_pos
  omega
 have:=Rat.div_mul_cancel (a:=(r.num:Rat)) n
 rw [e]at this
 exact this
def Bd(M B:Nat)(r:Rat):Prop:=∃ k:Int,r * (M:Rat)=(k:Rat)/\k.natAbs<=B
section
variable {M N B C:Nat} {r s:Rat}
theorem Bd.le(h:Bd M B r)(c:B<=C):Bd M C r:=let ⟨k,e,b⟩:=h; ⟨k,e,qx b c⟩
theorem Bd.size(hM:0 < M)(h:Bd M B r):r.den<=M/\r.num.natAbs<=B:=by
 obtain⟨k,e,b⟩:=h
 have e2:r.num * (M:Int)=k * (r.den:Int):=by
  have h1:=zhs r
  have h2:((r.num * (M:Int):Int):Rat)=((k * (r.den:Int):Int):Rat):=by
   rw [Rat.intCast_mul,Rat.intCast_mul,<-h1,<-e,Rat.intCast_natCast,Rat.intCast_natCast,Rat.mul_assoc,Rat.mul_assoc,Rat.mul_comm (r.den:Rat)]
  exact Rat.intCast_inj.mp h2
 have dv:(r.den:Int)∣(M:Int):=by
  have t:(r.den:Int)∣r.num * (M:Int):=⟨k,by rw [e2,Int.mul_comm]⟩
  have u:=Int.dvd_gcd_mul_iff_dvd_mul.mpr t
  rw [Int.gcd_comm,cop]at u
  simpa using u
 obtain⟨c,hc⟩:=dv
 have dp:(0:Int) < r.den:=by have:=r.den_pos; omega
 have c0:0 < c:=by
  rcases(by omega:0 < c\/c<=0)with z | z
  ·exact z
  ·have:=Int.mul_nonneg (Int.le_of_lt dp) (show 0<=-c by omega)
   rw [Int.mul_neg,<-hc]at this
   omega
 have ek:k=r.num * c:=by
  rw [hc]at e2
  have:k * (r.den:Int)=(r.num * c) * (r.den:Int):=by rw [<-e2]; ac_rfl
  exact Int.eq_of_mul_eq_mul_right (by omega) this
 constructor
 ·have:(r.den:Int) * 1<=(r.den:Int) * c:=Int.mul_le_mul_of_nonneg_left (by omega) (by omega)
  omega
 ·rw [ek,Int.natAbs_mul]at b
  exact qx (Nat.le_mul_of_pos_right _ (by omega)) b
theorem Bd.add(h:Bd M B r)(h':Bd M C s):Bd M (B+C) (r+s):=by
 obtain⟨k,e,b⟩:=h
 obtain⟨l,f,c⟩:=h'
 exact⟨k+l,by rw [Rat.add_mul,e,f,Rat.intCast_add],qx (Int.natAbs_add_le _ _) (Nat.add_le_add b c)⟩
theorem Bd.mul(h:Bd M B r)(h':Bd N C s):Bd (M * N) (B * C) (r * s):=by
 obtain⟨k,e,b⟩:=h
 obtain⟨l,f,c⟩:=h'
 refine⟨k * l,?_,by rw [Int.natAbs_mul]; exact Nat.mul_le_mul b c⟩
 rw [Rat.intCast_mul,<-e,<-f,Rat.natCast_mul]
 grind
theorem Bd.neg(h:Bd M B r):Bd M B (-r):=by
 obtain⟨k,e,b⟩:=h
 exact⟨-k,by rw [Rat.neg_mul,e,Rat.intCast_neg],by rw [Int.natAbs_neg]; exact b⟩
theorem Bd.zero:Bd M B 0:=⟨0,by rw [Rat.zero_mul]; rfl,Nat.zero_le _⟩
theorem Bd.wide(h:Bd M B r)(c:Nat):Bd (M * c) (B * c) r:=by
 obtain⟨k,e,b⟩:=h
 refine⟨k * c,?_,by rw [Int.natAbs_mul,Int.natAbs_natCast]; exact Nat.mul_le_mul_right _ b⟩
 rw [Rat.intCast_mul,<-e,Rat.natCast_mul,Rat.intCast_natCast,Rat.mul_assoc]
theorem Bd.one:Bd 1 1 1:=⟨1,by rw [Rat.one_mul]; rfl,qe _⟩
theorem Bd.int(n:Int):Bd 1 n.natAbs (n:Rat):=⟨n,by rw [show((1:Nat):Rat)=1 from rfl,Rat.mul_one],qe _⟩
end
abbrev Pq(α:Type):=List (List Int×α)
section
variable {α β:Type}
def look(p:Pq α)(k:List Int):Option α:=(p.find? fun t=>decide (t.1=k)).map (·.2)
def zaZ(p:Pq α)(k:List Int)(x:α):Pq α:=if(p.any fun t=>decide (t.1=k))=true then p.map (fun t=>if t.1=k then(t.1,x)else t)else p++[(k,x)]
def NdK(p:Pq α):Prop:=(p.map (·.1)).Nodup
theorem zdE{p:Pq α}{k:List Int}:look p k=none↔(p.any fun t=>decide (t.1=k))=false:=by
 induction p with
 | nil=>simp [look]
 | cons t p ih =>
  unfold look at ih ⊢
  rw [List.find?_cons,List.any_cons]
  by_cases h:t.1=k
  ·simp [h]
  ·rw [decide_eq_false h,Bool.false_or]
   exact ih
theorem zqM{p:Pq α}{k:List Int}:(look p k).isSome=(p.any fun t=>decide (t.1=k)):=by
 cases h:look p k with
 | none=>rw [zdE.mp h]; rfl
 | some x =>
  cases z:(p.any fun t=>decide (t.1=k))with
  | true=>rfl
  | false=>rw [zdE.mpr z]at h; cases h
theorem zqN(p:Pq α)(k:List Int)(x:α):(zaZ p k x).map (·.1)=if(p.any fun t=>decide (t.1=k))=true then p.map (·.1)else p.map (·.1)++[k]:=by
 unfold zaZ
 split
 ·rw [List.map_map]
  refine List.map_congr_left fun t _=>?_
  show(if t.1=k then(t.1,x)else t).1=t.1
  split<;>rfl
 ·rw [List.map_append]
  rfl
theorem zgL{p:Pq α}{k:List Int}{x:α}{t:List Int×α}(h:t∈zaZ p k x):(t∈p/\t.1≠k)\/t=(k,x):=by
 unfold zaZ at h
 split at h
 ·obtain⟨u,hu,rfl⟩:=List.mem_map.mp h
  by_cases c:u.1=k
  ·rw [if_pos c]; exact .inr (by rw [c])
  ·rw [if_neg c]; exact .inl ⟨hu,c⟩
 ·rename_i hn
  rcases List.mem_append.mp h with z | z
  ·exact .inl ⟨z,fun e=>hn (List.any_eq_true.mpr ⟨t,z,decide_eq_true e⟩)⟩
  ·exact .inr (qp.mp z)
theorem NdK.put{p:Pq α}(h:NdK p)(k:List Int)(x:α):NdK (zaZ p k x):=by
 unfold NdK
 rw [zqN]
 split
 ·exact h
 ·rename_i hn
  refine List.nodup_append.mpr ⟨h,by simp,fun a ha b hb=>?_⟩
  have:b=k:=by simpa using hb
  rw [this]
  obtain⟨t,ht,rfl⟩:=List.mem_map.mp ha
  exact fun e=>hn (List.any_eq_true.mpr ⟨t,ht,decide_eq_true e⟩)
theorem zjf(p:Pq α)(k:List Int)(x:α):(zaZ p k x).length<=p.length+1:=by
 unfold zaZ
 split
 ·rw [List.length_map]; omega
 ·rw [qr]; exact qe _
def gat[Add α][Zero α](acc:Pq α)(ts:Pq α):Pq α:=ts.foldl (fun a t=>zaZ a t.1 ((look a t.1).getD 0+t.2)) acc
end
section
variable {α:Type} [Add α] [Zero α]
theorem zea(ts:Pq α):∀ {acc:Pq α},NdK acc->NdK (gat acc ts):=by
 induction ts with
 | nil=>exact fun h=>h
 | cons t ts ih=>exact fun h=>ih (h.put _ _)
theorem zcM(ts:Pq α):∀ (acc:Pq α),(gat acc ts).length<=acc.length+ts.length:=by
 induction ts with
 | nil=>intro acc; exact qe _
 | cons t ts ih =>
  intro acc
  have h1:=ih (zaZ acc t.1 ((look acc t.1).getD 0+t.2))
  have h2:=zjf acc t.1 ((look acc t.1).getD 0+t.2)
  rw [qt]
  show(gat (zaZ acc t.1 ((look acc t.1).getD 0+t.2)) ts).length<=_
  omega
theorem zfF(acc ts:Pq α)(t:List Int×α):gat acc (ts++[t])=zaZ (gat acc ts) t.1 ((look (gat acc ts) t.1).getD 0+t.2):=by
 unfold gat
 rw [List.foldl_append]
 rfl
theorem zfG{Pk:List Int->Prop}(ts:Pq α):∀ {acc:Pq α},(∀ t∈acc,Pk t.1)->(∀ t∈ts,Pk t.1)->∀ t∈gat acc ts,Pk t.1:=by
 induction ts with
 | nil=>exact fun h _=>h
 | cons t ts ih =>
  intro acc h1 h2
  refine ih (acc:=zaZ acc t.1 _) (fun u hu=>?_) fun u hu=>h2 u (qm _ hu)
  rcases zgL hu with ⟨z,_⟩ | rfl
  ·exact h1 u z
  ·exact h2 t qo
end
theorem zks{α:Type}{p:Pq α}{k:List Int}{x:α}(h:look p k=some x):(k,x)∈p:=by
 unfold look at h
 obtain⟨t,ht,rfl⟩:=qq.mp h
 have h1:=List.mem_of_find?_eq_some ht
 have h2:t.1=k:=by simpa using List.find?_some ht
 rw [<-h2]
 exact h1
theorem zdd{α:Type}{p:Pq α}(nd:NdK p){t:List Int×α}(h:t∈p):look p t.1=some t.2:=by
 induction p with
 | nil=>cases h
 | cons u p ih =>
  have nd':u.1∉p.map (·.1)/\NdK p:=List.nodup_cons.mp nd
  unfold look at ih ⊢
  rw [List.find?_cons]
  rcases qu.mp h with rfl | h
  ·rw [decide_eq_true rfl]; rfl
  ·rw [decide_eq_false (fun e=>nd'.1 (List.mem_map.mpr ⟨t,h,e.symm⟩))]
   exact ih nd'.2 h
def lin(p:Pq Rat)(g:List Int->Rat):Rat:=(p.map fun t=>t.2 * g t.1).sum
theorem zaJ(g:List Int->Rat):lin [] g=0:=rfl
theorem zC(t:List Int×Rat)(p:Pq Rat)(g:List Int->Rat):lin (t::p) g=t.2 * g t.1+lin p g:=rfl
theorem zm7(p q:Pq Rat)(g:List Int->Rat):lin (p++q) g=lin p g+lin q g:=by
 induction p with
 | nil=>rw [List.nil_append,zaJ,Rat.zero_add]
 | cons t p ih=>rw [List.cons_append,zC,zC,ih,Rat.add_assoc]
theorem zkt{p q:Pq Rat}(h:p.Perm q)(g:List Int->Rat):lin p g=lin q g:=by
 induction h with
 | nil=>rfl
 | cons t _ ih=>rw [zC,zC,ih]
 | swap t u p=>rw [zC,zC,zC,zC]; grind
 | trans _ _ i1 i2=>exact i1.trans i2
theorem zlM(p:Pq Rat)(g:List Int->Rat):lin (p.filter fun t=>decide (t.2≠0)) g=lin p g:=by
 induction p with
 | nil=>rfl
 | cons t p ih =>
  rw [List.filter_cons]
  by_cases h:t.2=0
  ·rw [if_neg (by simp [h]),zC,h,ih]; grind
  ·rw [if_pos (by simp [h]),zC,zC,ih]
theorem zqO{p:Pq Rat}(nd:NdK p){k:List Int}{x:Rat}(h:look p k=some x)(y:Rat)(g:List Int->Rat):lin (p.map fun t=>if t.1=k then(t.1,x+y)else t) g=lin p g+y * g k:=by
 induction p with
 | nil=>cases h
 | cons t p ih =>
  have nd':t.1∉p.map (·.1)/\NdK p:=List.nodup_cons.mp nd
  rw [List.map_cons,zC,zC]
  by_cases c:t.1=k
  ·have e:p.map (fun t=>if t.1=k then(t.1,x+y)else t)=p:=by
    have:∀ u∈p,(fun t:List Int×Rat=>if t.1=k then(t.1,x+y)else t) u=id u:=fun u hu=>if_neg fun z=>nd'.1 (List.mem_map.mpr ⟨u,hu,z.trans c.symm⟩)
    rw [List.map_congr_left this,List.map_id]
   have ex:t.2=x:=by
    unfold look at h
    rw [List.find?_cons,decide_eq_true c]at h
    exact qw h
   rw [e,if_pos c,ex,c]
   grind
  ·have h':look p k=some x:=by
    unfold look at h ⊢
    rw [List.find?_cons,decide_eq_false c]at h
    exact h
   rw [if_neg c,ih nd'.2 h']
   grind
theorem zte{p:Pq Rat}(nd:NdK p)(k:List Int)(y:Rat)(g:List Int->Rat):lin (zaZ p k ((look p k).getD 0+y)) g=lin p g+y * g k:=by
 unfold zaZ
 cases h:look p k with
 | none =>
  rw [if_neg (by rw [zdE.mp h]; exact qf),zm7,zC,zaJ,Option.getD_none]
  grind
 | some x =>
  rw [if_pos (by rw [<-zqM,h]; rfl),Option.getD_some]
  exact zqO nd h y g
theorem zgM(ts:Pq Rat)(g:List Int->Rat):∀ {acc:Pq Rat},NdK acc->lin (gat acc ts) g=lin acc g+lin ts g:=by
 induction ts with
 | nil=>intro acc _; rw [zaJ,Rat.add_zero]; rfl
 | cons t ts ih =>
  intro acc nd
  show lin (gat (zaZ acc t.1 _) ts) g=_
  rw [ih (nd.put _ _),zte nd,zC,Rat.add_assoc]
def ltP{α:Type}(a b:List Int×α):Prop:=zcj a.1 b.1=true
def ins{α:Type}(x:List Int×α):Pq α->Pq α
 | []=>[x]
 | y::l=>if zcj x.1 y.1=true then x::y::l else y::ins x l
def srt{α:Type}:Pq α->Pq α
 | []=>[]
 | x::l=>ins x (srt l)
theorem zht{α:Type}(x:List Int×α):∀ l:Pq α,(ins x l).Perm (x::l)
 | []=>.refl _
 | y::l=>by
  unfold ins
  split
  ·exact .refl _
  ·exact((zht x l).cons y).trans (List.Perm.swap x y l)
theorem zc0{α:Type}:∀ l:Pq α,(srt l).Perm l
 | []=>.refl _
 | x::l=>(zht x (srt l)).trans ((zc0 l).cons x)
theorem zku{α:Type}(x:List Int×α):∀ {l:Pq α},l.Pairwise ltP->(∀ y∈l,x.1≠y.1)->(ins x l).Pairwise ltP
 | [],_,_=>by unfold ins; simp
 | y::l,h,ne=>by
  obtain⟨h1,h2⟩:=List.pairwise_cons.mp h
  unfold ins
  split
  ·rename_i c
   refine List.pairwise_cons.mpr ⟨fun w hw=>?_,h⟩
   rcases qu.mp hw with rfl | hw
   ·exact c
   ·exact zcN c (h1 w hw)
  ·rename_i c
   refine List.pairwise_cons.mpr ⟨fun w hw=>?_,zku x h2 fun w hw=>ne w (qm _ hw)⟩
   rcases qu.mp ((zht x l).mem_iff.mp hw)with rfl | hw
   ·exact(zdy (ne y qo)).resolve_left c
   ·exact h1 w hw
theorem zfH{α:Type}:∀ {l:Pq α},NdK l->(srt l).Pairwise ltP
 | [],_=>.nil
 | x::l,nd=>by
  have nd':x.1∉l.map (·.1)/\NdK l:=List.nodup_cons.mp nd
  exact zku x (zfH nd'.2) fun y hy e=>nd'.1 (List.mem_map.mpr ⟨y,(zc0 l).mem_iff.mp hy,e.symm⟩)
structure Nf (p:Pq Rat):Prop where
 st:p.Pairwise ltP
 nz:∀ t∈p,t.2≠0
theorem zjg{p:Pq Rat}{k:List Int}(h:∀ t∈p,t.1≠k):lin p (fun e=>if e=k then 1 else 0)=0:=by
 induction p with
 | nil=>rfl
 | cons t p ih =>
  rw [zC,ih fun u hu=>h u (qm _ hu),if_neg (h t qo)]
  grind
theorem lt_ne{α:Type}{a b:List Int×α}(h:ltP a b):a.1≠b.1:=fun e=>by
 unfold ltP at h
 rw [e,zdK]at h
 cases h
theorem Nf.tail{t:List Int×Rat}{p:Pq Rat}(h:Nf (t::p)):Nf p:=⟨(List.pairwise_cons.mp h.st).2,fun u hu=>h.nz u (qm _ hu)⟩
theorem Nf.head0{t:List Int×Rat}{p:Pq Rat}(h:Nf (t::p)):lin (t::p) (fun e=>if e=t.1 then 1 else 0)=t.2:=by
 rw [zC,zjg fun u hu e=>lt_ne ((List.pairwise_cons.mp h.st).1 u hu) e.symm,if_pos rfl]
 grind
theorem zm8:∀ {p q:Pq Rat},Nf p->Nf q->(∀ g,lin p g=lin q g)->p=q
 | [],[],_,_,_=>rfl
 | [],t::q,_,hq,h=>by
  have:=h fun e=>if e=t.1 then 1 else 0
  rw [hq.head0,zaJ]at this
  exact absurd this.symm (hq.nz t qo)
 | t::p,[],hp,_,h=>by
  have:=h fun e=>if e=t.1 then 1 else 0
  rw [hp.head0,zaJ]at this
  exact absurd this (hp.nz t qo)
 | t::p,u::q,hp,hq,h=>by
  have key:t.1=u.1:=by
   by_cases c:t.1=u.1
   ·exact c
   ·exfalso
    rcases zdy c with z | z
    ·have:=h fun e=>if e=t.1 then 1 else 0
     rw [hp.head0,zjg]at this
     ·exact hp.nz t qo this
     ·intro w hw e
      rcases qu.mp hw with rfl | hw
      ·exact c e.symm
      ·have:=zcN z ((List.pairwise_cons.mp hq.st).1 w hw)
       rw [e,zdK]at this
       cases this
    ·have:=h fun e=>if e=u.1 then 1 else 0
     rw [hq.head0,zjg]at this
     ·exact hq.nz u qo this.symm
     ·intro w hw e
      rcases qu.mp hw with rfl | hw
      ·exact c e
      ·have:=zcN z ((List.pairwise_cons.mp hp.st).1 w hw)
       rw [e,zdK]at this
       cases this
  have val:t.2=u.2:=by
   have:=h fun e=>if e=t.1 then 1 else 0
   rw [hp.head0,key,hq.head0]at this
   exact this
  have tl:∀ g,lin p g=lin q g:=fun g=>by
   have:=h g
   rw [zC,zC,key,val]at this
   grind
  rw [zm8 hp.tail hq.tail tl,Prod.ext key val]
def nz(p:Pq Rat):Pq Rat:=p.filter fun t=>decide (t.2≠0)
theorem zuC{p:Pq Rat}(h:NdK p):NdK (nz p):=h.sublist (List.filter_sublist.map _)
theorem nd0:NdK ([]:Pq Rat):=List.nodup_nil
def PB(M B:Nat)(p:Pq Rat):Prop:=∀ t∈p,Bd M B t.2
theorem zjh{M B:Nat}{p:Pq Rat}(h:PB M B p)(k:List Int):Bd M B ((look p k).getD 0):=by
 cases e:look p k with
 | none=>exact Bd.zero
 | some x=>exact h _ (zks e)
theorem zf9{M B:Nat}(ts:Pq Rat):∀ {C:Nat} {acc:Pq Rat},PB M C acc->PB M B ts->PB M (C+ts.length * B) (gat acc ts):=by
 induction ts with
 | nil=>intro C acc h _ t ht; exact(h t ht).le (by rw [List.length_nil]; omega)
 | cons t ts ih =>
  intro C acc h h' u hu
  have hp:PB M (C+B) (zaZ acc t.1 ((look acc t.1).getD 0+t.2)):=fun v hv=>by
   rcases zgL hv with ⟨z,_⟩ | rfl
   ·exact(h v z).le (by omega)
   ·exact(zjh h _).add (h' t qo)
  exact(ih hp (fun v hv=>h' v (qm _ hv)) u hu).le (by rw [qt,Nat.add_mul]; omega)
theorem pb0{M B:Nat}:PB M B []:=fun t ht=>by cases ht
def zaL(a b:List Int):List Int:=List.zipWith (·+·) a b
def za0{α:Type}[Mul α](p q:Pq α):Pq α:=p.flatMap fun s=>q.map fun t=>(zaL s.1 t.1,s.2 * t.2)
theorem zqP(s:List Int×Rat)(q:Pq Rat)(g:List Int->Rat):lin (q.map fun t=>(zaL s.1 t.1,s.2 * t.2)) g=s.2 * lin q fun b=>g (zaL s.1 b):=by
 induction q with
 | nil=>rw [List.map_nil,zaJ,zaJ,Rat.mul_zero]
 | cons t q ih=>rw [List.map_cons,zC,zC,ih]; grind
theorem ztf(p q:Pq Rat)(g:List Int->Rat):lin (za0 p q) g=lin p fun a=>lin q fun b=>g (zaL a b):=by
 induction p with
 | nil=>rfl
 | cons s p ih =>
  show lin (_++za0 p q) g=_
  rw [zm7,zqP,ih,zC]
theorem zok{p:Pq Rat}{g h:List Int->Rat}(e:∀ t∈p,g t.1=h t.1):lin p g=lin p h:=by
 induction p with
 | nil=>rfl
 | cons t p ih=>rw [zC,zC,e t qo,ih fun u hu=>e u (qm _ hu)]
theorem zol(p:Pq Rat)(g:List Int->Rat)(c:Rat):(lin p fun e=>c * g e)=c * lin p g:=by
 induction p with
 | nil=>rw [zaJ,zaJ,Rat.mul_zero]
 | cons t p ih=>rw [zC,zC,ih]; grind
theorem zeb{α:Type}[Mul α](p q:Pq α):(za0 p q).length=p.length * q.length:=by
 induction p with
 | nil=>simp [za0]
 | cons s p ih =>
  show(_++za0 p q).length=_
  rw [qr,ih,List.length_map,qt,Nat.add_mul,Nat.one_mul,Nat.add_comm]
theorem zji{α:Type}[Mul α]{p q:Pq α}{t:List Int×α}(h:t∈za0 p q):∃ u∈p,∃ v∈q,t=(zaL u.1 v.1,u.2 * v.2):=by
 obtain⟨u,hu,h⟩:=List.mem_flatMap.mp h
 obtain⟨v,hv,rfl⟩:=List.mem_map.mp h
 exact⟨u,hu,v,hv,rfl⟩
theorem ztg{M N B C:Nat}{p q:Pq Rat}(h:PB M B p)(h':PB N C q):PB (M * N) (B * C) (za0 p q):=fun t ht=>by
 obtain⟨u,hu,v,hv,rfl⟩:=zji ht
 exact(h u hu).mul (h' v hv)
def toR(c:Int)(p:Pq Int):Pq Rat:=p.map fun t=>(t.1,Rat.divInt t.2 c)
theorem zqQ{α β:Type}(φ:α->β)(p:Pq α)(k:List Int):look (p.map fun t=>(t.1,φ t.2)) k=(look p k).map φ:=by
 unfold look
 induction p with
 | nil=>rfl
 | cons t p ih =>
  rw [List.map_cons,List.find?_cons,List.find?_cons]
  by_cases h:t.1=k
  ·rw [decide_eq_true h]; rfl
  ·rw [decide_eq_false h]; exact ih
theorem zth{α β:Type}(φ:α->β)(p:Pq α)(k:List Int)(x:α):(zaZ p k x).map (fun t=>(t.1,φ t.2))=zaZ (p.map fun t=>(t.1,φ t.2)) k (φ x):=by
 have any:((p.map fun t=>(t.1,φ t.2)).any fun t=>decide (t.1=k))=(p.any fun t=>decide (t.1=k)):=by rw [List.any_map]; rfl
 unfold zaZ
 rw [any]
 split
 ·rw [List.map_map,List.map_map]
  refine List.map_congr_left fun t _=>?_
  show(fun t:List Int×α=>(t.1,φ t.2)) (if t.1=k then(t.1,x)else t)=if t.1=k then(t.1,φ x)else(t.1,φ t.2)
  split<;>rfl
 ·rw [List.map_append]; rfl
theorem zm9{α β:Type}[Add α][Zero α][Add β][Zero β](φ:α->β)(h0:φ 0=0)(ha:∀ a b,φ (a+b)=φ a+φ b)(ts:Pq α):∀ acc:Pq α,(gat acc ts).map (fun t=>(t.1,φ t.2))=gat (acc.map fun t=>(t.1,φ t.2)) (ts.map fun t=>(t.1,φ t.2)):=by
 induction ts with
 | nil=>intro acc; rfl
 | cons t ts ih =>
  intro acc
  show(gat (zaZ acc t.1 _) ts).map _=gat (zaZ _ t.1 _) _
  rw [ih,zth,ha,zqQ]
  cases look acc t.1 with
  | none=>rw [Option.getD_none,h0]; rfl
  | some x=>rfl
theorem zna{c:Int}(hc:c≠0)(ts:Pq Int):toR c (gat [] ts)=gat [] (toR c ts):=zm9 (fun k=>Rat.divInt k c) (Rat.zero_divInt c) (fun a b=>by
 rw [Rat.divInt_eq_div,Rat.divInt_eq_div,Rat.divInt_eq_div,Rat.intCast_add,Rat.div_def,Rat.div_def,Rat.div_def,Rat.add_mul]) ts []
theorem zwB{c:Int}(hc:c≠0)(p:Pq Int):nz (toR c p)=toR c (p.filter fun t=>!decide (t.2=0)):=by
 unfold nz toR
 rw [List.filter_map]
 congr 1
 refine List.filter_congr fun t _=>?_
 show decide (Rat.divInt t.2 c≠0)=!decide (t.2=0)
 rw [Bool.eq_iff_iff,Bool.not_eq_true',decide_eq_false_iff_not,decide_eq_true_iff]
 refine not_congr ⟨fun h=>?_,fun h=>by rw [h]; exact Rat.zero_divInt c⟩
 rw [<-Rat.zero_divInt c,Rat.divInt_eq_divInt_iff hc hc]at h
 rcases Int.mul_eq_zero.mp (show t.2 * c=0 by omega)with z | z
 ·exact z
 ·exact absurd z hc
def iv(m:Nat)(r:Rat):Int:=r.num * ((m:Int) / (r.den:Int))
theorem Bd.dvd{M B:Nat}{r:Rat}(h:Bd M B r):r.den∣M:=by
 obtain⟨k,e,b⟩:=h
 have e2:r.num * (M:Int)=k * (r.den:Int):=by
  have h1:=zhs r
  have h2:((r.num * (M:Int):Int):Rat)=((k * (r.den:Int):Int):Rat):=by
   rw [Rat.intCast_mul,Rat.intCast_mul,<-h1,<-e,Rat.intCast_natCast,Rat.intCast_natCast,Rat.mul_assoc,Rat.mul_assoc,Rat.mul_comm (r.den:Rat)]
  exact Rat.intCast_inj.mp h2
 have t:(r.den:Int)∣r.num * (M:Int):=⟨k,by rw [e2,Int.mul_comm]⟩
 have u:=Int.dvd_gcd_mul_iff_dvd_mul.mpr t
 rw [Int.gcd_comm,cop]at u
 have u:(r.den:Int)∣(M:Int):=by simpa using u
 exact Int.natCast_dvd_natCast.mp u
def pwD(ks:List Int):D:=.tuple (ks.map PyData.int)
abbrev kL(ks:List Int):List Key:=ks.map Sum.inl
section
variable {α:Type} {c:α->D}
def kvG(c:α->D)(p:Pq α):List (List Key×D):=p.map fun t=>(kL t.1,c t.2)
def dcG(c:α->D)(p:Pq α):List (D×D):=p.map fun t=>(pwD t.1,c t.2)
def tmG(c:α->D)(p:Pq α):List D:=p.map fun t=>.tuple [pwD t.1,c t.2]
theorem ze3(p:Pq α):tmG c p=p.map fun t=>.tuple [pwD t.1,c t.2]:=rfl
theorem zga{a b:List Int}:kL a=kL b↔a=b:=ziV
theorem zlN(k:List Int):kTD (kL k)=pwD k:=by
 unfold kTD pwD kL
 rw [List.map_map]
 rfl
theorem zc1(k:List Int):za2 (pwD k)=some (kL k):=by rw [<-zlN,zfx]
theorem zlO(p:Pq α):(kvG c p).map (fun p=>(kTD p.1,p.2))=dcG c p:=by
 unfold kvG dcG
 rw [List.map_map]
 refine List.map_congr_left fun t _=>?_
 show(kTD (kL t.1),c t.2)=_
 rw [zlN]
theorem zcx{p:Pq α}:U.fz (.t (kvG c p))=some (.dict (dcG c p)):=by
 show some (PyData.dict _)=_
 rw [zlO]
theorem zhu(p:Pq α):noX (dcG c p)=true:=by
 cases p with
 | nil=>rfl
 | cons t p=>rfl
theorem zti(p:Pq α)(k:List Int):zly (kvG c p) (kL k)=(look p k).map c:=by
 unfold zly kvG look
 induction p with
 | nil=>rfl
 | cons t p ih =>
  rw [List.map_cons,List.find?_cons,List.find?_cons]
  by_cases h:t.1=k
  ·rw [decide_eq_true h,decide_eq_true (zga.mpr h)]; rfl
  ·rw [decide_eq_false h,decide_eq_false (fun z=>h (zga.mp z))]; exact ih
theorem zqR(p:Pq α)(k:List Int):ziq (dcG c p) (kL k)=(look p k).map c:=by
 unfold ziq dcG look
 induction p with
 | nil=>rfl
 | cons t p ih =>
  rw [List.map_cons,List.find?_cons,List.find?_cons]
  by_cases h:t.1=k
  ·rw [decide_eq_true h,decide_eq_true (show za2 (pwD t.1)=some (kL k) by rw [zc1,h])]; rfl
  ·rw [decide_eq_false h,decide_eq_false (show ¬za2 (pwD t.1)=some (kL k) by rw [zc1]; exact fun z=>h (zga.mp (qw z)))]; exact ih
theorem znb{p:Pq α}{k:List Int}:zhR (.t (kvG c p)) (.d (pwD k))=some ((look p k).map c):=by
 show(za2 (pwD k)).map _=_
 rw [zc1,Option.map_some,zti]
theorem znc{p:Pq α}{k:List Int}:zhR (.d (.dict (dcG c p))) (.d (pwD k))=some ((look p k).map c):=by
 show(if noX (dcG c p)=true then _ else _)=_
 rw [if_pos (zhu p)]
 show(za2 (pwD k)).map _=_
 rw [zc1,Option.map_some,zqR]
theorem zqS{p:Pq α}:noX (dcG c p)=true:=zhu p
theorem zqT{p:Pq α}:(dcG c p).map (fun x=>x.1)=p.map fun t=>pwD t.1:=by
 unfold dcG
 rw [List.map_map]
 rfl
theorem zkv{k:List Int}:za2 (pwD k)=some (kL k):=zc1 k
theorem zqU{p:Pq α}:zhp (.d (.dict (dcG c p)))=true:=zhu p
theorem zlP(p:Pq α)(k:List Int)(x:α):zf6 (kvG c p) (kL k) (c x)=kvG c (zaZ p k x):=by
 have any:((kvG c p).any fun kv=>decide (kv.1=kL k))=(p.any fun t=>decide (t.1=k)):=by
  unfold kvG
  rw [List.any_map]
  congr 1
  funext t
  exact decide_eq_decide.mpr zga
 unfold zf6 zaZ
 rw [any]
 split
 ·unfold kvG
  rw [List.map_map,List.map_map]
  refine List.map_congr_left fun t _=>?_
  show(if kL t.1=kL k then _ else _)=(fun t:List Int×α=>(kL t.1,c t.2)) (if t.1=k then(t.1,x)else t)
  by_cases h:t.1=k
  ·rw [if_pos (zga.mpr h),if_pos h]
  ·rw [if_neg (fun z=>h (zga.mp z)),if_neg h]
 ·unfold kvG
  rw [List.map_append]
  rfl
theorem zqV(p:Pq α):(kvG c p).length=p.length:=List.length_map ..
theorem zlQ{p:Pq α}{k:List Int}{x:α}(h:p.length < 16777216):zix (.t (kvG c p)) (pwD k) (c x)=some (.t (kvG c (zaZ p k x))):=by
 show(za2 (pwD k)).bind _=_
 rw [zc1,bd,if_pos (by rw [zqV]; exact h),zlP]
theorem ziA{p:Pq α}:zcY (.d (.dict (dcG c p)))=some (tmG c p):=by
 show(if noX (dcG c p)=true then _ else _)=_
 rw [if_pos (zhu p)]
 unfold dcG tmG
 rw [List.map_map]
 rfl
theorem zqW:∀ p:Pq α,zkm (dcG c p)=some (kvG c p)
 | []=>rfl
 | t::p=>by
  show(za2 (pwD t.1)).bind _=_
  rw [zc1,bd]
  show(zkm (dcG c p)).bind _=_
  rw [zqW p,bd]
  rfl
theorem zqX(p:Pq α):(kvG c p).map (·.1)=(p.map (·.1)).map kL:=by
 unfold kvG
 rw [List.map_map,List.map_map]
 rfl
def znd(p:Pq α):Prop:=ze2 ((p.map (·.1)).map kL)=true
theorem zyh{p:Pq α}(h:znd p):zfE (.t (kvG c p))=some (.t (kvG c p)):=by
 show(if _ then _ else _)=_
 rw [if_pos (by rw [zqX]; exact h)]
theorem zqY(k:List Int)(d:D):pk (.tuple [pwD k,d])=some k:=zf8 k
theorem zqZ:∀ p:Pq α,pks (tmG c p)=some (p.map (·.1))
 | []=>rfl
 | t::p=>by
  show(pk (.tuple [pwD t.1,c t.2])).bind _=_
  rw [zqY,bd]
  show(pks (tmG c p)).bind _=_
  rw [zqZ p]
  rfl
theorem zq0{p:Pq α}(nd:NdK p)(hl:p.length < 64):zi8 (.l (tmG c p))=some (.l (tmG c (srt p))):=by
 have e:zmw (tmG c p)=tmG c (srt p):=zj3 ((zc0 p).map _) (List.pairwise_map.mpr ((zfH nd).imp fun{a b} h=>⟨_,_,zqY a.1 _,zqY b.1 _,h⟩))
 show(some _).bind _=_
 rw [bd,zqZ,bd,if_pos ⟨by unfold tmG; rw [List.length_map]; exact hl,nd⟩,e]
end
theorem zuD{r:Rat}:zca (.d (fR r)) (.d (.int 0))=some (.d (.int r.num)):=rfl
theorem zuE{r:Rat}:zca (.d (fR r)) (.d (.int 1))=some (.d (.int (r.den:Int))):=rfl
theorem zq1(r:Rat):(!decide (r.num=0))=decide (r≠0):=by
 rw [Bool.eq_iff_iff,Bool.not_eq_true',decide_eq_false_iff_not,decide_eq_true_iff]
 exact not_congr Rat.num_eq_zero
theorem zkw{α β:Type}{f:α->D}{g:β->D}:∀ (as:List α) (bs:List β),zlI (as.map f) (bs.map g)=(as.zip bs).map fun t=>.tuple [f t.1,g t.2]
 | [],bs=>by cases bs<;>rfl
 | a::as,[]=>rfl
 | a::as,b::bs=>by rw [List.map_cons,List.map_cons,List.zip_cons_cons,List.map_cons,<-zkw as bs]; rfl
theorem zgN{α:Type}{f:α->D}{as:List α}{ks:List Int}(h:as.length=ks.length):zqE [.d (.tuple (as.map f)),.d (pwD ks)]=some ((as.zip ks).map fun t=>.tuple [f t.1,.int t.2]):=by
 show(if _ then _ else _)=_
 rw [if_pos (by rw [List.length_map,List.length_map]; exact h),zkw]
theorem zfI{as ks:List Int}(h:as.length=ks.length):zqE [.d (pwD as),.d (pwD ks)]=some ((as.zip ks).map fun t=>.tuple [.int t.1,.int t.2]):=zgN (f:=PyData.int) h
theorem zgb{α:Type}{g:α->D}{nt:Nat}{e:α->D}{as:List α}{mg:MG}{mt:MT}{me:ME}{ρ:En}{Q:List D×En->Prop}(hz:as.length<=16777216)
  (st:∀ a∈as,∀ ys,Wo (mg (g a) ρ) (Co mt ⟨0⟩ (kLC nt me ys fun ρ' zs=>ρ'=ρ/\zs=ys++[e a]))) (q:Q (as.map e,ρ)):Wo (lcM nt mg mt me (as.map g) ρ []) Q:=by
 refine zqI (b:=fun _=>true) (e:=e) (by rw [zob]; exact hz) (fun a ha ys=>?_) ?_
 ·simp only [if_true]
  exact st a ha ys
 ·rw [show as.filter (fun _=>true)=as from List.filter_eq_self.mpr fun _ _=>rfl]
  exact q
theorem ziB(r:Rat):SeqAt.shaped (fR r)=true:=by
 unfold SeqAt.shaped fR
 simp [PyData.canLay0,PyData.canLayAll0,PyData.depth,PyData.depthAll]
theorem zwC(a b:Rat):PyData.eqv (fR a) (fR b)=decide (a=b):=by
 unfold fR
 simp only [PyData.eqv,PyData.eqvAll]
 rw [Bool.eq_iff_iff,decide_eq_true_iff]
 constructor
 ·intro h
  simp only [Bool.and_eq_true,beq_iff_eq]at h
  exact Rat.ext h.1 (by omega)
 ·rintro rfl
  simp
theorem zlR{a b:Rat}{neg:Bool}:zn0 neg (.d (fR a)) (.d (fR b))=some (.d (.bool (if neg=true then !decide (a=b)else decide (a=b)))):=by
 show(some (fR a)).bind _=_
 rw [bd]
 show(some (fR b)).bind _=_
 rw [bd,if_pos ⟨ziB a,ziB b⟩,zwC]
theorem zq2{o:Option Rat}:(Option.map fR o).getD (.tuple [.int 0,.int 1])=fR (o.getD 0):=by cases o<;>rfl
theorem zom{α:Type}[Mul α](p q:Pq α)(s:List Int×α):za0 (p++[s]) q=za0 p q++q.map fun t=>(zaL s.1 t.1,s.2 * t.2):=by
 unfold za0
 rw [List.flatMap_append]
 simp
def psg(s:Int)(q:Pq Rat):Pq Rat:=q.map fun t=>(t.1,(s:Rat) * t.2)
theorem zwD{s:Int}(hs:s=1\/s=-1)(r:Rat):PyData.tuple [.int (s * r.num),.int (r.den:Int)]=fR ((s:Rat) * r):=by
 rcases hs with rfl | rfl
 ·rw [Int.one_mul,show((1:Int):Rat)=1 from rfl,Rat.one_mul]; rfl
 ·rw [show((-1:Int):Rat)=-1 from rfl,Rat.neg_mul,Rat.one_mul,Int.neg_mul,Int.one_mul]; rfl
theorem zlS{M B:Nat}{s:Int}(hs:s=1\/s=-1){q:Pq Rat}(h:PB M B q):PB M B (psg s q):=fun t ht=>by
 obtain⟨u,hu,rfl⟩:=List.mem_map.mp ht
 rcases hs with rfl | rfl
 ·show Bd M B (((1:Int):Rat) * u.2)
  rw [show((1:Int):Rat)=1 from rfl,Rat.one_mul]
  exact h u hu
 ·show Bd M B (((-1:Int):Rat) * u.2)
  rw [show((-1:Int):Rat)=-1 from rfl,Rat.neg_mul,Rat.one_mul]
  exact(h u hu).neg
theorem zon{α:Type}{p:Pq α}{k:List Int}{x:α}(h:∀ t∈p,t.1≠k):zaZ p k x=p++[(k,x)]:=by
 unfold zaZ
 rw [if_neg]
 intro z
 obtain⟨t,ht,e⟩:=List.any_eq_true.mp z
 exact h t ht (of_decide_eq_true e)
theorem zq3{α:Type}{bs cs:Pq α}{t:List Int×α}(nd:NdK (bs++t::cs)):∀ u∈bs,u.1≠t.1:=fun u hu e=>by
 unfold NdK at nd
 rw [List.map_append,List.map_cons]at nd
 exact(List.nodup_append.mp nd).2.2 u.1 (List.mem_map.mpr ⟨u,hu,rfl⟩) t.1 qo e
theorem zne(bs:Pq Rat)(t:List Int×Rat):nz (bs++[t])=if t.2=0 then nz bs else nz bs++[t]:=by
 unfold nz
 rw [List.filter_append,List.filter_cons]
 by_cases h:t.2=0
 ·rw [if_pos h,if_neg (by simp [h])]; simp
 ·rw [if_neg h,if_pos (by simp [h])]; rfl
theorem zq4{bs cs:Pq Rat}{t:List Int×Rat}(nd:NdK (bs++t::cs)):zaZ (nz bs) t.1 t.2=nz bs++[t]:=zon fun u hu=>zq3 nd u (List.mem_filter.mp hu).1
theorem zjj{α β:Type}{f:α->β}:∀ {l:List α},(l.map f).Nodup->∀ a∈l,∀ b∈l,f a=f b->a=b
 | [],_,a,ha,_,_,_=>by cases ha
 | x::l,nd,a,ha,b,hb,e=>by
  rw [List.map_cons,List.nodup_cons]at nd
  rcases qu.mp ha with h1 | h1
  ·rcases qu.mp hb with h2 | h2
   ·rw [h1,h2]
   ·exact(nd.1 (List.mem_map.mpr ⟨b,h2,by rw [<-e,h1]⟩)).elim
  ·rcases qu.mp hb with h2 | h2
   ·exact(nd.1 (List.mem_map.mpr ⟨a,h1,by rw [e,h2]⟩)).elim
   ·exact zjj nd.2 a h1 b h2 e
theorem zwE{n d:Int}{M:Nat}(hd:0 < d)(h:d∣(M:Int))(h0:0 < M):Bd M (n.natAbs * M) (Rat.divInt n d):=by
 obtain⟨c,hc⟩:=h
 have c0:0 < c:=by
  rcases(by omega:0 < c\/c<=0)with z | z
  ·exact z
  ·have:=Int.mul_nonneg (Int.le_of_lt hd) (show 0<=-c by omega)
   rw [Int.mul_neg,<-hc]at this
   omega
 have dr:((d:Int):Rat)≠0:=fun z=>by
  have:=Rat.intCast_inj.mp (show((d:Int):Rat)=((0:Int):Rat) from z)
  omega
 refine⟨n * c,?_,?_⟩
 ·have e:(M:Rat)=((d:Int):Rat) * ((c:Int):Rat):=by rw [<-Rat.intCast_mul,<-hc,Rat.intCast_natCast]
  rw [e,Rat.divInt_eq_div,Rat.intCast_mul]
  grind
 ·rw [Int.natAbs_mul]
  refine Nat.mul_le_mul_left _ ?_
  have:1 * c<=d * c:=Int.mul_le_mul_of_nonneg_right (by omega) (by omega)
  omega
end L2
namespace L2
open PySem PySem.Spec PyProof.Rows
open PySem.AutoSeq1 (wpAny_loadPart')
theorem zlT(t:Addr)(items:Array Value)(n:Nat)(dd:Option Addr)(sl:Array (Option Value))(u:Tok) :
  Meets (Builtin.«tuple.__mul__» ⟨[.ref t,.int 1 u],[]⟩) (fun _ R s=>s.heap.get? t=some { cls:=.type "tuple",dict:=dd,data:=.seq items n,slots:=sl }/\R (.ok (.ret (.ref t))) s) :=
 .of_wp fun prog w A R s h=>by
  obtain⟨hp,g,d,tk,os⟩:=s
  obtain⟨hl,h⟩:=h
  wp_walk using wpAny_loadPart' hl
  exact⟨_,rfl,h⟩
theorem zlU(t:Addr)(items:Array Value)(n:Nat)(dd:Option Addr)(sl:Array (Option Value))(x:Int)(u:Tok)(hf:(decide (x < -2^63) || decide (x>=2^63))=false)(h1:(items.isEmpty || x==1)=false)(h0:(decide (x<=0) || items.isEmpty)=true) :
  Meets (Builtin.«tuple.__mul__» ⟨[.ref t,.int x u],[]⟩) (fun _ R s=>s.heap.get? t=some { cls:=.type "tuple",dict:=dd,data:=.seq items n,slots:=sl } /\
   R (.ok (.ret (.ref s.heap.objs.size))) { s with heap:=s.heap.push { cls:=.type "tuple",data:=.seq #[] } }) :=
 .of_wp fun prog w A R s h=>by
  obtain⟨hp,g,d,tk,os⟩:=s
  obtain⟨hl,h⟩:=h
  wp_walk using wpAny_loadPart' hl
  refine wpAny_ite_false (by rw [hf]; rfl) ?_
  wp_walk using wpAny_loadPart' hl
  exact⟨_,rfl,h⟩
theorem zlV(t:Addr)(items:Array Value)(n:Nat)(dd:Option Addr)(sl:Array (Option Value))(x:Int)(u:Tok)(hf:(decide (x < -2^63) || decide (x>=2^63))=false)(h1:(items.isEmpty || x==1)=false)(h0:(decide (x<=0) || items.isEmpty)=false)
  (hm:¬((items.size:Int) * x > (2^63 - 1) / 8)) (ht:Builtin.Tuple.tupleTooMany ((items.size:Int) * x)=false) (hz:(List.foldl (fun x1 x2=>x1++x2) #[] (List.replicate x.toNat items)).size<=sizeLine) :
  Meets (Builtin.«tuple.__mul__» ⟨[.ref t,.int x u],[]⟩) (fun _ R s=>s.heap.get? t=some { cls:=.type "tuple",dict:=dd,data:=.seq items n,slots:=sl } /\
   R (.ok (.ret (.ref s.heap.objs.size))) { s with heap:=s.heap.push { cls:=.type "tuple",data:=.seq (List.foldl (fun x1 x2=>x1++x2) #[] (List.replicate x.toNat items)) } }) :=
 .of_wp fun prog w A R s h=>by
  obtain⟨hp,g,d,tk,os⟩:=s
  obtain⟨hl,h⟩:=h
  wp_walk using wpAny_loadPart' hl
  refine wpAny_ite_false (by rw [hf]; rfl) ?_
  wp_walk using wpAny_loadPart' hl
  refine wpAny_ite_false (decide_eq_false hm) ?_
  wp_walk using wpAny_loadPart' hl
  exact⟨_,rfl,h⟩
theorem zgc:fillsNumberSlot (.type "tuple") "mul"=pure false :=
 PySem.fillsNumberSlot_seq (id := "tuple.__mul__") (r:=some (.builtin "tuple.__rmul__")) F.slot_tuple_mul.lookup (by decide +kernel) F.slot_tuple_rmul.lookup (by decide +kernel)
theorem zjk:seqRepeat? (.type "tuple")=pure (some (.builtin "tuple.__mul__")):=by
 unfold seqRepeat?
 rw [PySem.seqSlot_of (T := "tuple") (name := "__mul__") (id := "tuple.__mul__") F.slot_tuple_mul.lookup (by decide +kernel),PySem.seqSlot_of (T := "tuple") (name := "__rmul__") (id := "tuple.__rmul__") F.slot_tuple_rmul.lookup (by decide +kernel)]
 rfl
theorem zhv(a:Int)(t:Tok)(l:Addr)(items:Array Value)(n:Nat)(dd:Option Addr)(sl:Array (Option Value)) :
  Meets (Builtin.«int.__rmul__» ⟨[.int a t,.ref l],[]⟩) (fun _ R s=>s.heap.get? l=some { cls:=.type "tuple",dict:=dd,data:=.seq items n,slots:=sl }/\R (.ok (.ret Value.notImplemented)) s) :=
 .of_wp fun prog w A R s h=>by obtain⟨hp,g,d,tk,os⟩:=s; obtain⟨hl,h⟩:=h; wp_walk; exact⟨_,rfl,h⟩
section
variable {X:Cx}
def zuF(K:qc):R2:=fun x y H Q=>∃ l k xs,x=.ref l/\y=.int k/\SqT K H l xs/\xs≠[]/\k < 1000000/\-1000000 < k/\xs.length * k.toNat<=1000000 /\
 ((k=1/\Q x H)\/(k≠1/\∀ p,H p=none->Q (.ref p) (upd H p (.tup (List.replicate k.toNat xs).flatten))))
theorem zgO(K:qc)(hK:X.K=K):OpR X (binaryOp .Mult) (zuF K):=by
 subst hK
 intro pins s σ H x y v u Q I rx ry h
 obtain⟨l,k,xs,rfl,rfl,hq,hne,hk,hk0,hz,q⟩:=h
 cases rx
 obtain⟨t,rfl⟩:=ry
 obtain⟨its,rv,ht,hzz⟩:=I.tuple hq
 obtain⟨⟨c,dct,dt,sl⟩,hl,hc,n,hd⟩:=ht
 replace hc:c=.type "tuple":=hc
 replace hd:dt=.seq its.toArray n:=hd
 subst hc hd
 have lv:=rv.length
 have ine:its.toArray.isEmpty=false:=by
  cases its with
  | nil=>cases rv; exact absurd rfl hne
  | cons a r=>rfl
 have hf:(decide (k < -2^63) || decide (k>=2^63))=false:=by
  rw [Bool.or_eq_false_iff]
  exact⟨decide_eq_false (by omega),decide_eq_false (by omega)⟩
 have f0:List.foldl (fun x1 x2=>x1++x2) #[] (List.replicate k.toNat its.toArray)=(List.replicate k.toNat its).flatten.toArray:=by
  have:=zid its k.toNat []
  rw [List.nil_append]at this
  exact this
 have ln:(List.replicate k.toNat xs).flatten.length<=sizeLine:=by
  rw [zmh,Nat.mul_comm]
  have:sizeLine=16777216:=zob
  omega
 refine wpAny_binaryOp_repeat_ref (T := "tuple") (U := "int") (by decide) ⟨_,hl,rfl⟩ (fun s'=>typeIs_int s' k t) zgc F.fills_int_mul F.slot_int_rmul zjk F.slot_int_index.lookup
  (call_meets F.slot_int_rmul (typeIs_int s k t) F.entry_int_rmul (F.args_int_rmul_2 _ _) (zhv k t l its.toArray n dct sl) ⟨hl,rfl,⟨_,hl,rfl⟩,?_⟩)
 rcases q with ⟨rfl,q⟩ | ⟨k1,q⟩
 ·exact call_meets F.slot_tuple_mul ⟨_,hl,rfl⟩ F.entry_tuple_mul (F.args_tuple_mul_2 _ _) (zlT l its.toArray n dct sl t) ⟨hl,.ref l,H,I,rfl,q⟩
 ·have h1:(its.toArray.isEmpty || k==1)=false:=by rw [ine,Bool.false_or]; simpa using k1
  by_cases k0:k<=0
  ·refine call_meets F.slot_tuple_mul ⟨_,hl,rfl⟩ F.entry_tuple_mul (F.args_tuple_mul_2 _ _) (zlU l its.toArray n dct sl k t hf h1 (by rw [decide_eq_true k0]; rfl)) ⟨hl,.ref _,_,I.laid (t':=s.toks) (o:=.tup []) (fun _ _ q=>qd _ q) (qe _) ⟨Nat.zero_le _,[],.nil,_,qg _ rfl,rfl,_,rfl⟩,rfl,?_⟩
   have:=q _ I.fresh
   rw [show k.toNat=0 by omega]at this
   exact this
  ·have m63:(its.toArray.size:Int) * k<=1000000:=by
    have e1:(its.toArray.size:Int)=(xs.length:Int):=by rw [List.size_toArray,lv]
    have e2:k=(k.toNat:Int):=by omega
    rw [e1,e2,<-Int.natCast_mul]
    omega
   refine call_meets F.slot_tuple_mul ⟨_,hl,rfl⟩ F.entry_tuple_mul (F.args_tuple_mul_2 _ _) (zlV l its.toArray n dct sl k t hf h1 (by rw [decide_eq_false k0,ine]; rfl) (by omega) (decide_eq_false (by rw [show((sizeLine:Nat):Int)=16777216 by rw [zob]; rfl]; omega)) ?_) ⟨hl,.ref _,_,I.laid (t':=s.toks) (o:=.tup (List.replicate k.toNat xs).flatten) (fun _ _ q=>qd _ q) (qe _) ⟨ln,(List.replicate k.toNat its).flatten,rv.rep k.toNat,_,qg _ rfl,rfl,0,?_⟩,rfl,q _ I.fresh⟩
   ·rw [f0,List.size_toArray,zmh,Nat.mul_comm]
    have:sizeLine=16777216:=zob
    rw [<-lv]
    omega
   ·show Data.seq (List.foldl (fun x1 x2=>x1++x2) #[] (List.replicate k.toNat its.toArray)) _=_
    rw [f0]
end
noncomputable def zgr:U->U->Option U
 | .d (.tuple xs),.d (.int k)=>if xs≠[]/\k < 1000000/\-1000000 < k/\xs.length * k.toNat<=1000000 then some (.d (.tuple (List.replicate k.toNat xs).flatten))else none
 | _,_=>none
theorem znf{K:qc}{H:Hp}{vs:List V}{ds:List D}(h:DFs K H vs ds):∀ n:Nat,DFs K H (List.replicate n vs).flatten (List.replicate n ds).flatten
 | 0=>.nil
 | n+1=>by
  rw [List.replicate_succ,List.replicate_succ,List.flatten_cons,List.flatten_cons]
  exact h.app (znf h n)
theorem zgP{K:qc}:VO K (zuF K) zgr:=by
 intro x y a b u H Q ha hb e q
 unfold zgr at e
 split at e
 ·split at e
  rotate_left
  ·cases e
  rename_i xs k hc
  cases e
  obtain⟨l,vs,rfl,h1,h2⟩:=DF.tup_inv ha
  cases DF.int_inv hb
  have ln:=h2.len
  refine⟨l,k,vs,rfl,rfl,(TpK.sq h1),fun z=>hc.1 (List.eq_nil_of_length_eq_zero (by rw [<-ln,z]; rfl)),hc.2.1,hc.2.2.1,by rw [ln]; exact hc.2.2.2,?_⟩
  by_cases k1:k=1
  ·subst k1
   refine .inl ⟨rfl,q _ _ (fun _ _ z=>z) ?_ Nw.data⟩
   have e:(List.replicate (1:Int).toNat xs).flatten=xs:=by simp
   rw [e]
   exact DF.tup h1 h2
  ·refine .inr ⟨k1,fun p hp=>?_⟩
   have sm:=zP hp (.tup (List.replicate k.toNat vs).flatten)
   exact q _ _ sm (.tup (.inl zx) ((znf h2 _).kp sm.kp)) Nw.data
 ·cases e
theorem zjl{xs:List D}{k:Int}(h:0 < xs.length)(h2:k < 1000)(h3:-1000 < k)(h4:xs.length < 1000):zgr (.d (.tuple xs)) (.d (.int k))=some (.d (.tuple (List.replicate k.toNat xs).flatten)):=by
 show(if _ then _ else _)=_
 rw [if_pos ⟨fun z=>by rw [z]at h; exact Nat.lt_irrefl _ h,by omega,by omega,qx (Nat.mul_le_mul (Nat.le_of_lt h4) (show k.toNat<=1000 by omega)) (by decide)⟩]
end L2
namespace L2
open PySem PySem.Spec PyProof.Rows
def zlW(K:qc)(tk tv:TE):TE:=fun σ H Q=>∀ p,H p=none->tk σ (upd H p (.dT [])) fun x H1=>tv σ H1 fun y H2=>H2 p=some (.dT [])/\∃ k b,x=.ref b/\TpK K H2 b (k.map kV)/\Q (.ref p) (upd H2 p (.dT [(k,y)]))
theorem zq5{X:Cx}{pos:Pos}{k v:Expr}{tk tv:TE}(hu:X.A.units+1 < cLine)(hk:PE X k tk)(hv:PE X v tv):PE X (.Dict [some k] [v] pos) (zlW X.K tk tv):=by
 intro pins s σ H Q I q
 have hn:=I.hok.fresh (qe s.heap.objs.size)
 have I1:=I.laid (a:=s.heap.objs.size) (o:=.dT []) (h':=s.heap.push { cls:=.type "dict",data:=.dict #[] }) (t':=s.toks) (fun _ _ q=>qd _ q) (qe _) (zg3 s.heap I.big)
 refine wpAny_Dict_any rfl rfl (by simp) (by show 1<=15; decide) (pairTrees_cons_walk (thn (hk pins _ σ _ _ I1 (q _ hn)) fun u s1 ⟨x,H1,I1,rx,q1⟩=>thn (hv pins s1 σ H1 _ I1 q1) fun w2 s2 ⟨y,H2,I2,ry,e,ks,b,ex,eb,q2⟩=>pairTrees_nil_walk ?_))
 subst ex
 cases rx
 unfold storeAll
 rw [List.forIn_cons]
 obtain⟨z,hd,xs,rel,dd⟩:=zo2 I2.kIn I2.hok e
 cases rel
 refine qa (qa (wpAny_dictSet_heap (hsz:=Nat.zero_le _) (show X.A.units < cLine from Nat.lt_of_succ_lt hu) (zeM I2.kIn I2.hok eb) dd fun h' dd' hs=>qb ?_))
 dsimp only
 rw [List.forIn_nil]
 refine qb ?_
 obtain⟨q',es,ep,hq,h2,h3,h4,_,h5⟩:=dd'
 refine⟨.ref s.heap.objs.size,_,zgB (ob:=.dT [(ks,y)]) I2 (by rw [e]; exact True.intro) hs ⟨q',hq⟩ ⟨by show 1<=sizeLine; decide,hd,_,(KT.put (kvs:=[]) .nil ks eb ry).keeps fun c ys ec=>?_,q',es,ep,hq,h2,h3,h4,h5⟩,rfl,q2⟩
 rw [zA (zfe ec e (fun z=>nomatch z))]
 exact ec
theorem zfJ{X:Cx}{pos:Pos}{k v:Expr}{tk tv:TE}{n:Nat}(hr:Room n X.A)(hk:Wr (PE X k tk))(hv:Wr (PE X v tv)):Wr (PE X (.Dict [some k] [v] pos) (zlW X.K tk tv)):=⟨zq5 (zjL hr) hk.run hv.run⟩
section
variable {K:qc} {ρ ρ1 ρ':En} {σ:St} {H H':Hp}
theorem Rs.free{p:Addr}{c o:HO}(r:Rs K ρ σ H)(hc:H p=some c)(m:Mo c)(n:¬Ow ρ σ p):Rs K ρ σ (upd H p o):=by
 have kp:=zcG hc m o
 refine⟨r.len,fun i u e=>?_,r.apart⟩
 obtain⟨v,ev,q⟩:=r.rep i u e
 refine⟨v,ev,q.kp kp fun ou a c' ea ha=>?_⟩
 have ne:a≠p:=by
  rintro rfl
  exact n ⟨i,u,e,ou,by rw [ev,ea]⟩
 rw [zA ne]
 exact ha
theorem Go.free{p:Addr}{c o:HO}(g:Go K ρ σ H ρ' H')(hp:H p=none)(hc:H' p=some c)(m:Mo c)(n:¬Ow ρ' σ p):Go K ρ σ H ρ' (upd H' p o):=by
 refine⟨g.rs.free hc m n,fun a ob ha hn=>?_,g.shr,fun a ha=>?_⟩
 ·have ne:a≠p:=by
   rintro rfl
   rw [hp]at ha
   cases ha
  rw [zA ne]
  exact g.fr a ob ha hn
 ·by_cases e:a=p
  ·subst e
   exact hp
  ·rw [zA e]at ha
   exact g.dm a ha
def ze4(mk mv:ME):ME:=fun ρ=>(mk ρ).bind fun p=>(mv p.2).bind fun q=>(p.1.get q.2).bind fun k=>(q.1.get q.2).bind fun v=>k.da.bind fun k=>v.da.bind fun v=>(za2 k).bind fun k=>some (.u (.t [(k,v)]),q.2)
theorem zgQ{w:U}{x:D}(h:w.da=some x):w=.d x:=by
 cases w<;>first | (cases h; rfl) | cases h
theorem zfK{tk tv:TE}{mk mv:ME}(hk:VE K tk mk)(hv:VE K tv mv):VE K (zlW K tk tv) (ze4 mk mv):=by
 intro ρ σ H a ρ' Q r e q
 obtain⟨⟨a1,ρ1⟩,e1,e⟩:=zb e
 obtain⟨⟨b1,ρ2⟩,e2,e⟩:=zb e
 obtain⟨uk,ek,e⟩:=zb e
 obtain⟨uv,ev,e⟩:=zb e
 obtain⟨dk,edk,e⟩:=zb e
 obtain⟨dv,edv,e⟩:=zb e
 obtain⟨ks,eks,e⟩:=zb e
 cases e
 cases zgQ edk
 cases zgQ edv
 intro p hp
 have sm:=zP hp (.dT [])
 have g0:=Go.grow r sm
 have n0:¬Ow ρ σ p:=fun z=>by
  obtain⟨c,hc,_⟩:=r.ow z
  rw [hp]at hc
  cases hc
 refine hk ρ σ (upd H p (.dT [])) a1 ρ1 _ g0.rs e1 fun x H1 g1 k1=>hv ρ1 σ H1 b1 _ _ g1.rs e2 fun y H2 g2 k2=>?_
 have n1:¬Ow ρ1 σ p:=fun z=>n0 (g1.shr.ow z)
 have n2:¬Ow ρ2 σ p:=fun z=>n1 (g2.shr.ow z)
 have hp2:H2 p=some (.dT []):=g2.fr p _ (g1.fr p _ zx n0) n1
 have pk:=k1.later g0.rs g1 g2 ek
 have pv:=k2.now g1.rs g2 ev
 obtain⟨b,rfl,hb⟩:=zfy pk eks
 have kp:=zcG hp2 trivial (.dT [(ks,y)])
 refine⟨hp2,ks,b,rfl,hb,q _ _ (((g0.trans g1).trans g2).free hp hp2 trivial n2) ⟨⟨p,[(ks,y)],rfl,zx,.cons ⟨rfl,DF.kp kp pv⟩ .nil⟩,fun _=>⟨p,rfl,hp⟩⟩⟩
end
section
variable {X:Cx} {elts:List Expr} {k:Nat} {tpos:Pos}
end
section
variable {ρ:En} {mk mv:ME} {mA:MA} {i:Nat} {f:List D->List D} {QE:Ar×En->Prop} {QI:List D×En->Prop}
theorem zkx:Wo (ze4 mk mv ρ) QE=Wo (mk ρ) (Co (fun p=>(mv p.2).bind fun q=>(p.1.get q.2).bind fun k=>(q.1.get q.2).bind fun v=>k.da.bind fun k=>v.da.bind fun v=>(za2 k).bind fun k=>some (.u (.t [(k,v)]),q.2)) ⟨0⟩ QE):=by
 show Wo (Option.bind _ _) QE=_
 rw [zu]
end
end L2
namespace L2
open PySem
def ch:Nat->Nat->Nat
 | _,0=>1
 | 0,_+1=>0
 | n+1,k+1=>ch n k+ch n (k+1)
theorem zq6{a b:List Int}(h:a.length+b.length<=1000):zdO (.d (pwD a)) (.d (pwD b))=some (.d (pwD (a++b))):=by
 have:=zjc (xs:=a.map PyData.int) (ys:=b.map PyData.int) (by rw [List.length_map,List.length_map]; omega)
 rw [<-List.map_append]at this
 exact this
theorem zhw{k:Int}:PyData.tuple [.int k]=pwD [k]:=rfl
end L2
namespace L2
open PySem PySem.Spec PyProof.Rows
open PySem.AutoSeq1 (wpAny_loadPart')
open MeetsSeq MeetsSeq2 MeetsSeq3 SeqRoads2
end L2
namespace L2
open PySem PySem.Spec PyProof.Rows
section
variable {prog:Program} {w:World} {A:Around} {E:Value->Shared->Prop} {s:Shared} {l b:Addr} {items items2:Array Value} {xs ys:List Int} {Q:Value->Shared->Prop}
end
section
variable {X:Cx} {k:Nat}
end
section
variable {K:qc}
end
section
variable {X:Cx} {a b c d:Expr} {pos:Pos} {ta tb tc td:TE}
end
section
variable {K:qc}
end
section
variable {f f' f'':U->U->Option U} {ma mb mc md:ME} {ρ:En} {QE:Ar×En->Prop}
end
end L2
namespace HT
open PySem PySem.Spec PyProof.Rows
section
variable {prog:Program} {w:World} {A:Around} {E:Value->Shared->Prop} {s:Shared}
end
end HT
namespace L2
open PySem PySem.Spec PyProof.Rows
section
variable {X:Cx} {e st:Expr} {te ts:TE} {pos p2:Pos}
end
section
variable {K:qc}
end
section
variable {K:qc}
end
section
variable {K:qc}
end
end L2
namespace L2
open PySem PySem.Calls PySem.Spec PyProof.Rows
section
variable {prog:Program} {w:World} {A:Around} {E:Value->Shared->Prop} {s:Shared}
end
section
variable {K:qc}
end
end L2
namespace L2
open PySem PySem.Spec PyProof.Rows
section
variable {X:Cx} {CX:CXT} {k:Nat} {f C:Addr} {fd:FuncData} {ps:List Str} {sp:Sp} {dvs:List V} {ds:List Value} {E:XK} {x m:Str} {p pos apos:Pos} {e o:Expr} {es:List Expr} {ta:TE} {t:TA}
end
section
variable {X:Cx} {k:Nat} {ps:List Str} {sp:Sp} {x:Str} {p pos:Pos} {e:Expr} {es:List Expr} {t:TA}
end
section
variable {K:qc} {pn:List Nat}
end
section
variable {prog:Program} {w:World} {A:Around} {E:Value->Shared->Prop} {s:Shared}
end
section
variable {X:Cx} {elts:List Expr} {k:Nat} {tpos:Pos}
end
section
variable {K:qc}
end
end L2
namespace L2
open PySem
section
variable {mA:MA} {ρ:En} {QI:List D×En->Prop}
end
end L2
namespace L2
open PySem PySem.Spec PyProof.Rows
section
variable {K:qc} {pn:List Nat} {EX:EXT}
end
section
variable {mg:MG} {mb:MS} {ρ:En} {Q:Fl->Prop} {i:Nat}
end
theorem zoo{X:Cx}{pins:List (Addr×Obj)}{σ:St}{H:Hp}{s:Shared}{a b:Addr}{v:V}{r:Value}{A:Around}{E:Value->Shared->Prop}{kvs:List (List Key×V)}{k:List Key}{Q:Unit->Shared->Prop}(hu:A.units+1 < cLine)(I:Inv X pins σ H s)
  (e:H a=some (.dT kvs)) (eb:TpK X.K H b (k.map kV)) (l:kvs.length < sizeLine) (rv:zU v r) (h:∀ s',Inv X pins σ (upd H a (.dT (zc4 kvs k v))) s'->Q () s'):wpAny (model X.prog X.w) A (dictSet a (.ref b) r) Q E s:=by
 obtain⟨z,hd,xs,rel,dd⟩:=zo2 I.kIn I.hok e
 have hz:xs.length<=sizeLine:=by rw [<-Paired.length rel]; exact z
 have hl:(zc4 kvs k v).length<=sizeLine:=by have:=zdX kvs k v; omega
 refine wpAny_dictSet_heap (hsz:=hz) (show A.units < cLine from Nat.lt_of_succ_lt hu) (zeM I.kIn I.hok eb) dd fun h' dd' hs=>h _ ?_
 obtain⟨q,es,ep,hq,h2,h3,h4,_,h5⟩:=dd'
 refine zgB I (by rw [e]; exact True.intro) hs ⟨q,hq⟩ ⟨hl,hd,_,(rel.put k eb rv).keeps fun c ys ec=>?_,q,es,ep,hq,h2,h3,h4,h5⟩
 rw [zA (zfe ec e (fun z=>nomatch z))]
 exact ec
theorem zky{prog:Program}{w:World}{A:Around}{R:Result->Shared->Prop}{s:Shared}{kx vx target iter:Expr}{ifs:List Expr}{scope:Scope}{pos:Pos}{it:Value}{D:Addr}{env:Env}(I:Nat->Shared->Prop)
  (turn:∀ n s,I n s->∀ E,wpAny (model prog w) A (pyNext it) (fun r s1=>match r with
   | none=>R (.ok .next) s1
   | some v=>wpAny (model prog w) A (letOwnedTupleGo target it v) (fun _ s2=>wpAny (model prog w) A (assign target env v) (fun _ s3 =>
     wpAny (model prog w) A (forIn ifs true fun c r=>if r=true then do let ok <-isTrue c env (eval c env); pure (ForInStep.yield ok)else pure (ForInStep.yield r)) (fun ok s4 =>
      (ok=true->wpAny (model prog w) A (eval kx env) (fun k s5=>wpAny (model prog w) A (eval vx env) (fun v s6=>wpAny (model prog w) A (dictSet D k v) (fun _ s7=>∃ m,m < n/\I m s7) E s6) E s5) E s4) /\
      (ok=false->∃ m,m < n/\I m s4)) E s3) E s2) E s1) E s)
  (n:Nat) (h:I n s):codeAny (model prog w) A (.compLoop (.DictComp kx vx [⟨target,iter,ifs,0⟩] scope pos) 0 it (.ref D) env) R s:=by
 refine codeAny_loop rfl I (fun n s hI=>?_) n h
 show wpAny _ A ((compTurn _ 0 it (.ref D) env).onRaise (fun x=>do noteFrame x env; theTreesLotGoes x)) _ _ s
 refine wpAny_noted ?_
 rw [compTurn_dict]
 refine qa (wpAny_standAt (qa (wpAny_mono (turn n s hI _) (fun r s1 h1=>?_) fun _ _ z=>z)))
 cases r with
 | none=>exact qb h1
 | some v =>
  refine qa (wpAny_mono h1 (fun _ s2 h2=>?_) fun _ _ z=>z)
  refine qa (wpAny_mono h2 (fun _ s3 h3=>?_) fun _ _ z=>z)
  refine qa (wpAny_mono h3 (fun ok s4 h4=>?_) fun _ _ z=>z)
  cases ok with
  | false=>exact qb ⟨rfl,h4.2 rfl⟩
  | true =>
   refine qa (qa (wpAny_mono (h4.1 rfl) (fun x s5 h5=>?_) fun _ _ z=>z))
   refine qa (wpAny_holding (wpAny_mono h5 (fun y s6 h6=>?_) fun _ _ z=>z))
   exact qa (wpAny_standAt (wpAny_holding (wpAny_mono h6 (fun _ s7 h7=>qb ⟨rfl,h7⟩) fun _ _ z=>z)))
def zwF(K:qc)(J:It)(σc:St)(g:TG)(tt:TT)(tk tv:TE)(D:Addr)(Z:Hp->Prop)(H1:Hp):Prop :=
 ∃ W:Nat->Nat->Hp->Prop,(∃ m,W 0 m H1)/\∀ i m H,W i m H ->
  (J.stop i H/\Z H)\/(J.go i H/\∃ N:Hp->Prop,(∀ H',N H'->∃ m',m' < m/\W (i+1) m' H') /\
   ∀ x H',J.yld i H x H'->g x σc H' fun σ2 H2=>tt σ2 H2 fun b H3=>if b=true then tk σ2 H3 fun y H4=>tv σ2 H4 fun v H5=>∃ kvs k p,y=.ref p/\H5 D=some (.dT kvs)/\TpK K H5 p (k.map kV)/\kvs.length < sizeLine/\N (upd H5 D (.dT (zc4 kvs k v)))else N H3)
section
variable {X:Cx} {pins:List (Addr×Obj)} {σ:St} {H:Hp} {s:Shared} {scope:Scope} {cl:List (Str×Addr)} {xs:List Str} {js:List Nat} {nt:Nat} {ts:List Str} {fp:List Addr}
theorem zlX{kx vx iter tg:Expr}{ifs:List Expr}{pos:Pos}{J:It}{it D:Addr}{tn:Nat->Heap->Prop}{g:TG}{tt:TT}{tk tv:TE}{Z:Hp->Prop}{R:Result->Shared->Prop}{h1:Heap}{m1:Str->Option Value}{t1:Nat}
  (hu:X.A.units+1 < cLine) (hc:X.calm=true) (I:Inv X pins σ H s) (S:ScC scope xs) (f:Frees X cl xs js) (hts:ts.length=nt) (T:Turn X.prog X.w X.K tg J fp it tn) (st:tn 0 s.heap) (hf:∀ b∈fp,zdt X pins H b)
  (hg:∀ C s H ex,PG (zL X scope cl (ts++xs) C s H ex) tg g) (ht:∀ C s H ex,zg4 (zL X scope cl (ts++xs) C s H ex) ifs tt) (hk:∀ C s H ex,PE (zL X scope cl (ts++xs) C s H ex) kx tk) (hv:∀ C s H ex,PE (zL X scope cl (ts++xs) C s H ex) vx tv)
  (gw:GW (c0 nt js σ) g) (h:zwF X.K J (c0 nt js σ) g tt tk tv D Z H) (hn1:h1.Ns s.heap.objs.size m1) (old:∀ b o,s.heap.get? b=some o->h1.get? b=some o)
  (hR:∀ (m:Str->Option Value) (s':Shared) (H':Hp),Z H'->Inv X pins σ H' s'->s'.heap.Ns s.heap.objs.size m->H' s.heap.objs.size=none->s.heap.objs.size≠X.env.locals ->
   (∀ x c,X.env.cells.lookup x=some c->c≠s.heap.objs.size)->X.s₀.heap.objs.size<=s.heap.objs.size->(∀ p∈X.pn++pins,p.1≠s.heap.objs.size)->R (.ok .next) s') :
  codeAny (model X.prog X.w) X.A (.compStart (.DictComp kx vx [⟨tg,iter,ifs,0⟩] scope pos) 0 (.ref it) (.ref D) (compEnvC scope cl s.heap.objs.size X.env)) R { s with heap:=h1,toks:=t1 }:=by
 have hl:∀ b∈fp,b < s.heap.objs.size:=fun b hb=>by
  obtain⟨o,e,_⟩:=T.obj _ _ st b hb
  exact qh e
 have J0:Inv (zL X scope cl (ts++xs) s.heap.objs.size s H fp) [] (c0 nt js σ) H { s with heap:=h1,toks:=t1 }:=zjM I S f hts (qe _) hf hl old hn1
 obtain⟨W,⟨m0,w0⟩,turn⟩:=h
 have st1:tn 0 h1:=T.keep _ _ _ st fun b hb o e=>old b o e
 have fpk:∀ {H':Hp},(∀ b∈fp,H' b=none)->∀ b∈fp,zdt (zL X scope cl (ts++xs) s.heap.objs.size s H fp) [] H' b:=fun{H'} hn b hb=>by
  refine⟨hn b hb,qj (hl b hb),fun z=>?_,.inl hb,fun x c e=>(hf b hb).2.2.2.2.1 x c (zbG f x c e),fun p hpp=>by cases hpp⟩
  rcases qu.mp (I.stkSub b z)with q | q
  ·exact(hf b hb).2.1 q
  ·exact(hf b hb).2.2.1 q
 have loop:codeAny (model X.prog X.w) X.A (.compLoop (.DictComp kx vx [⟨tg,iter,ifs,0⟩] scope pos) 0 (.ref it) (.ref D) (compEnvC scope cl s.heap.objs.size X.env)) R { s with heap:=h1,toks:=t1 }:=by
  refine zky (fun n s'=>∃ i H',Inv (zL X scope cl (ts++xs) s.heap.objs.size s H fp) [] (c0 nt js σ) H' s'/\tn i s'.heap/\(∀ b∈fp,H' b=none)/\W i n H') ?_ m0 ⟨0,H,J0,st1,fun b hb=>(hf b hb).1,w0⟩
  rintro n s3 ⟨i,H3,I3,st3,fr3,w3⟩ E'
  rcases turn i n H3 w3 with ⟨stop,qz⟩ | ⟨go,N,hN,step⟩
  ·refine thn (T.done (zL X scope cl (ts++xs) s.heap.objs.size s H fp) rfl rfl rfl hc i _ s3 _ H3 E' I3 (fpk fr3) st3 stop) fun r s4 ⟨hr,I4⟩=>?_
   subst hr
   obtain⟨m4,n4,_⟩:=I4.loc
   refine hR m4 s4 H3 qz (I.call' I4.os I4.base I4.hok I4.bare fun b hb=>⟨(hf b hb).2.2.2.1,(hf b hb).2.1,(hf b hb).2.2.2.2.1,fun p hp=>(hf b hb).2.2.2.2.2 p hp⟩) n4 I4.free ?_ ?_ I.sz ?_
   ·exact fun z=>absurd I.lt (by rw [<-z]; exact Nat.lt_irrefl _)
   ·intro x c e z
    obtain⟨v,ob,q,_⟩:=I.cell x c e
    exact absurd (qh q) (by rw [z]; exact Nat.lt_irrefl _)
   ·intro p hp z
    have q:=(I.pin p hp).1
    exact absurd (qh q) (by rw [z]; exact Nat.lt_irrefl _)
  ·refine thn (T.item (zL X scope cl (ts++xs) s.heap.objs.size s H fp) rfl rfl rfl hc i _ s3 _ H3 E' I3 (fpk fr3) st3 go) fun r s4 ⟨u,hr,h4⟩=>?_
   subst hr
   refine thn h4 fun _ s5 ⟨x,H5,I5,r5,y5,st5,fr5⟩=>?_
   have I5':=I5.pinned (fpk fr5) (T.obj _ _ st5)
   refine zld (hg _ _ _ _ _ s5 _ H5 x u _ I5' r5 (gw _ _ _ (step x H5 y5))) fun _ s6 ⟨σ6,H6,I6,wk6,q6⟩=>?_
   refine zld (ht _ _ _ _ _ s6 σ6 H6 _ I6 q6) fun ok s7 ⟨H7,I7,q7⟩=>?_
   have after:∀ {H8:Hp} {s8:Shared},Inv (zL X scope cl (ts++xs) s.heap.objs.size s H fp) ([]++zfW fp s5.heap) σ6 H8 s8 ->
     tn (i+1) s8.heap/\(∀ b∈fp,H8 b=none)/\Inv (zL X scope cl (ts++xs) s.heap.objs.size s H fp) [] (c0 nt js σ) H8 s8:=fun{H8 s8} I8=>by
    refine⟨T.keep _ _ _ st5 fun b hb o e=>(I8.pin (b,o) (qv _ (qv _ (zcn hb e)))).1,fun b hb=>?_,?_⟩
    ·obtain⟨o,e,d⟩:=T.obj _ _ st5 b hb
     exact(I8.pin (b,o) (qv _ (qv _ (zcn hb e)))).2.1
    ·exact(I8.weak wk6.1 wk6.2).pins_of fun p hp=>by cases hp
   refine⟨fun hok=>?_,fun hok=>?_⟩
   ·subst hok
    rw [if_pos rfl]at q7
    refine zld (hk _ _ _ _ _ s7 σ6 H7 _ I7 q7) fun kv s8 ⟨y,H8,I8,ry,q8⟩=>?_
    refine zld (hv _ _ _ _ _ s8 σ6 H8 _ I8 q8) fun vv s9 ⟨v,H9,I9,rv,q9⟩=>?_
    obtain⟨kvs,k,p,ey,eD,ep,hz,q10⟩:=q9
    subst ey
    cases(show kv=Value.ref p from ry)
    refine zoo (X:=zL X scope cl (ts++xs) s.heap.objs.size s H fp) hu I9 eD ep hz rv fun s10 I10=>?_
    obtain⟨st10,fr10,I10'⟩:=after I10
    obtain⟨m',hm,w10⟩:=hN _ q10
    exact⟨m',hm,i+1,_,I10',st10,fr10,w10⟩
   ·subst hok
    rw [if_neg qf]at q7
    obtain⟨st7,fr7,I7'⟩:=after I7
    obtain⟨m',hm,w7⟩:=hN _ q7
    exact⟨m',hm,i+1,H7,I7',st7,fr7,w7⟩
 exact codeAny_compStart_dict loop (T.self _ _ _ _ _ st1 loop)
theorem zkz{kx vx iter tg:Expr}{ifs:List Expr}{pos:Pos}{J:It}{it:Addr}{tn:Nat->Heap->Prop}{g:TG}{tt:TT}{tk tv:TE}{Z:Addr->Hp->Prop}{RR:Value->Addr->Result->Shared->Prop}{E:Value->Shared->Prop}
  (hu:X.A.units+1 < cLine) (hc:X.calm=true) (I:Inv X pins σ H s) (S:ScC scope xs) (f:Frees X cl xs js) (hts:ts.length=nt) (T:Turn X.prog X.w X.K tg J fp it tn) (st:tn 0 s.heap) (hf:∀ b∈fp,zdt X pins H b)
  (hg:∀ C s H ex,PG (zL X scope cl (ts++xs) C s H ex) tg g) (ht:∀ C s H ex,zg4 (zL X scope cl (ts++xs) C s H ex) ifs tt) (hk:∀ C s H ex,PE (zL X scope cl (ts++xs) C s H ex) kx tk) (hv:∀ C s H ex,PE (zL X scope cl (ts++xs) C s H ex) vx tv)
  (gw:GW (c0 nt js σ) g) (h:∀ D,H D=none->zwF X.K J (c0 nt js σ) g tt tk tv D (Z D) (upd H D (.dT [])))
  (hRR:∀ (D C:Addr) (m:Str->Option Value) (s':Shared) (H':Hp),Z D H'->Inv X pins σ H' s'->s'.heap.Ns C m->H' C=none->C≠X.env.locals ->
   (∀ x c,X.env.cells.lookup x=some c->c≠C)->X.s₀.heap.objs.size<=C->(∀ p∈X.pn++pins,p.1≠C)->RR (.ref D) C (.ok .next) s') :
  wpAny (model X.prog X.w) X.A newDict (fun acc s3=>wpAny (model X.prog X.w) X.A (newFunctionEnv scope X.env.globals cl [] X.env.qual none .none (some X.env)) (fun cenv s4 =>
   codeAny (model X.prog X.w) X.A (.compStart (.DictComp kx vx [⟨tg,iter,ifs,0⟩] scope pos) 0 (.ref it) acc { cenv with scope:=relabel scope X.env }) (RR acc cenv.locals) s4) E s3) E s:=by
 refine qy (wpAny_newFunctionEnv S.cell (by intro y hy; cases hy) (fun h1 hn1 hsb1=>?_) S.kind)
 dsimp only at hn1 hsb1 ⊢
 have hDn:H s.heap.objs.size=none:=I.hok.fresh (qe _)
 have I1:=I.laid (a:=s.heap.objs.size) (o:=.dT []) (h':=s.heap.push { cls:=.type "dict",data:=.dict #[] }) (t':=s.toks) (fun _ _ q=>qd _ q) (qe _) (zg3 s.heap I.big)
 have h2:=h _ hDn
 have hl0:∀ b∈fp,b < s.heap.objs.size:=fun b hb=>by
  obtain⟨o,e,_⟩:=T.obj _ _ st b hb
  exact qh e
 have st0:tn 0 (s.heap.push { cls:=.type "dict",data:=.dict #[] }):=T.keep _ _ _ st fun b hb o e=>qd _ e
 have hf0:∀ b∈fp,zdt X pins (upd H s.heap.objs.size (.dT [])) b:=fun b hb=>⟨by rw [zA (qj (hl0 b hb))]; exact(hf b hb).1,(hf b hb).2⟩
 have hp:s.heap.objs.size < (s.heap.push { cls:=.type "dict",data:=.dict #[] }).objs.size:=by rw [Heap.size_push]; exact Nat.lt_succ_self _
 refine zlX (s:={ s with heap:=s.heap.push { cls:=.type "dict",data:=.dict #[] },toks:=s.toks }) hu hc I1 S f hts T st0 hf0 hg ht hk hv gw h2 hn1 (fun b o e=>?_) fun m s' H' z I' hn hCn hCL hCc hCs hCp=>hRR _ _ m s' H' z I' hn hCn hCL hCc hCs hCp
 exact hsb1.extBut b o (qj (qh e)) (qd _ e)
def tDC(K:qc)(wi:TI)(nt:Nat)(js:List Nat)(g:TG)(tt:TT)(tk tv:TE):TE:=fun σ H Q=>wi σ H fun J H1 =>
 ∀ D,H1 D=none->zwF K J (c0 nt js σ) g tt tk tv D (fun H2=>Q (.ref D) H2) (upd H1 D (.dT []))
theorem zq7{y:Str}{py spos:Pos}{i:Nat}{kx vx iter tg:Expr}{ifs:List Expr}{pos:Pos}{wi:TI}{g:TG}{tt:TT}{tk tv:TE}{n:Nat}(hr:Room n X.A)(hN:X.N.Nodup)(hi':X.N[i]?=some y)(hy:Loc X.env.scope y)
  (nt:Nat) (ts:List Str) (hts:ts.length=nt) (hc:X.calm=true) (S:ScC scope xs) (f:Frees X cl xs js) (hclos:closureFor scope X.env=pure cl)
  (hi:Wr (PI X tg iter wi)) (hg:∀ C s H ex,Wr (PG (zL X scope cl (ts++xs) C s H ex) tg g)) (gw:∀ σ:St,GW (c0 nt js σ) g) (ht:∀ C s H ex,Wr (zg4 (zL X scope cl (ts++xs) C s H ex) ifs tt))
  (hk:∀ C s H ex,Wr (PE (zL X scope cl (ts++xs) C s H ex) kx tk)) (hv:∀ C s H ex,Wr (PE (zL X scope cl (ts++xs) C s H ex) vx tv)) (hs:∀ x,foldedSetIterable iter X.env x=pure x:=by intro _; rfl)
  (hsw:swapsWith (.DictComp kx vx [⟨tg,iter,ifs,0⟩] scope pos) (some (.Name y py)) spos.line X.env=pure true:=by rfl)
  (hf:X.fn y=true\/X.env.scope.names.lookup y=some .local:=by first | exact .inl rfl | exact .inr rfl | assumption) :
  Wr (PS X (.Assign [.Name y py] (.DictComp kx vx [⟨tg,iter,ifs,0⟩] scope pos) spos) (ziJ (tDC X.K wi nt js g tt tk tv) (zds i))):=by
 refine⟨?_⟩
 intro pins s σ H D I h
 rw [exec_Assign_Name_used _ _ _ _ hsw]
 refine qa (wpAny_standAt (qa ?_))
 show wpAny _ X.A (do let _ <-comprehension (.DictComp kx vx [⟨tg,iter,ifs,0⟩] scope pos) scope X.env _ newDict false (eval iter X.env) (some (assign (.Name y py) X.env))) _ _ s
 refine qa (wpAny_mono (wpAny_comprehension_free (use:=some (assign (.Name y py) X.env)) (Q:=fun _ s'=>SP X pins D .next s') rfl hs hclos S.kind S.names
  (thn (hi.run pins s σ H _ I h) fun v s1 h1=>thn h1 fun itv s2 h2=>?_)) (fun _ s' hq=>qb (qb hq)) fun _ _ e=>e)
 obtain⟨it,fp,tn,J,H2,e,I2,T,st2,f2,q⟩:=h2
 subst e
 refine zkz (RR:=fun acc C=>compPost (model X.prog X.w) X.A X.xe (some (assign (.Name y py) X.env)) (fun _ s'=>SP X pins D .next s') acc C) (zjL hr) hc I2 S f hts T st2 f2 (fun C s H ex=>(hg C s H ex).run) (fun C s H ex=>(ht C s H ex).run) (fun C s H ex=>(hk C s H ex).run) (fun C s H ex=>(hv C s H ex).run) (gw σ) q ?_
 intro D' C m s' H' z I' hn hCn hCL hCc hCs hCp
 show wpAny _ _ (assign (.Name y py) X.env (.ref D')) _ _ _
 refine wpAny_assign_Name (zfU (v:=.ref D') I' hN hi' hy rfl (fun s'' I'' ⟨a,sb,ha⟩=>?_) hf)
 have ne:C≠a:=by
  rcases ha with rfl | ha
  ·exact hCL
  ·exact(hCc _ _ ha).symm
 exact⟨m,hn.sameBut sb ne,fun h' hs'=>⟨_,_,I''.turned (it:=C) (fun b o hb e=>hs'.extBut b o hb e) hCn hCL (.inr hCs) hCc hCp,z⟩⟩
end
section
variable {K:qc} {ρ ρ' ρ1:En} {σ:St} {H H' H1:Hp}
theorem Sn.free{pn:List Nat}{σ₀:St}{A:Addr->Prop}{H₀ H₁:Hp}{D:Addr}{c o:HO}(s:Sn K pn σ₀ A H₀ H₁ ρ σ H)(hc:H D=some c)(m:Mo c)(n:¬Ow ρ σ D)(hA:A D):Sn K pn σ₀ A H₀ H₁ ρ σ (upd H D o):=by
 refine⟨s.rs.free hc m n,fun a ob h nA=>?_,s.ow,s.pin,fun a h=>?_,s.kp.trans (zcG hc m o)⟩
 ·have ne:a≠D:=by rintro rfl; exact nA hA
  rw [zA ne]
  exact s.fr a ob h nA
 ·by_cases e:a=D
  ·subst e; rw [zx]at h; cases h
  ·rw [zA e]at h; exact s.dm a h
theorem zq8{nt:Nat}{js:List Nat}{D:Addr}{A:Addr->Prop}{ρx:En}{σx:St}{Hx:Hp}(r:Rs K ρ1 σ H1)(hD:H1 D=none)(s:Sn K (zd4 nt js.length) (c0 nt js σ) A (upd H1 D (.dT [])) H1 ρx σx Hx)
  (own:∀ (i:Nat) (u:U),nt<=i->ρx[i]?=some (some u)->u.own=true->∃ w,(cEn nt js ρ1)[i]?=some (some w)/\w.own=true):¬Ow ρx σx D:=by
 rintro⟨i,u,e,ou,es⟩
 rcases s.ow i u D e ou es with ⟨hi,_⟩ | z
 ·have hi':=zc8.mp hi
  obtain⟨w,ew,ow⟩:=own i u hi'.1 e ou
  obtain⟨p,j,rfl,hj,hr⟩:=zf5 ew
  rw [s.pin _ hi,zpE hj]at es
  have e2:σ[j]?=some (some (.ref D)):=by
   rw [qA]at es
   cases q:σ[j]? with
   | none=>rw [q]at es; cases es
   | some o=>rw [q]at es; exact congrArg some (qw es)
  obtain⟨c,hc,_⟩:=r.ow ⟨j,w,hr,ow,e2⟩
  rw [hD]at hc
  cases hc
 ·rw [zx]at z; cases z
def dcM(nt:Nat)(mg:MG)(mt:MT)(mk mv:ME):List D->En->List (List Key×D)->Option (List (List Key×D)×En)
 | [],ρ,ys=>some (ys,ρ)
 | d::ds,ρ,ys=>if ys.length < sizeLine then(mg d ρ).bind fun ρ1=>(mt ρ1).bind fun b=>if b.1=true then(mk b.2).bind fun p=>(mv p.2).bind fun q=>(p.1.get q.2).bind fun uk=>(q.1.get q.2).bind fun uv=>uk.da.bind fun dk=>uv.da.bind fun dv=>(za2 dk).bind fun k =>
   dcM nt mg mt mk mv ds (reset nt q.2) (zf6 ys k dv)else dcM nt mg mt mk mv ds (reset nt b.2) ys else none
def mDC(mi:MI)(nt:Nat)(js:List Nat)(mg:MG)(mt:MT)(mk mv:ME):ME:=fun ρ=>(mi ρ).bind fun p=>(dcM nt mg mt mk mv p.1 (cEn nt js p.2) []).bind fun q=>some (.u (.t q.1),back js (q.2.drop nt) p.2)
theorem zwG{wi:TI}{nt:Nat}{js:List Nat}{g:TG}{tt:TT}{tk tv:TE}{mi:MI}{mg:MG}{mt:MT}{mk mv:ME}(nd:js.Nodup)(hi:VI K wi mi)(hg:VGt K (zd4 nt js.length) g mg)(ht:VT K tt mt)(hk:VE K tk mk)(hv:VE K tv mv) :
  VE K (tDC K wi nt js g tt tk tv) (mDC mi nt js mg mt mk mv):=by
 intro ρ σ H a ρ' Q r e q
 obtain⟨⟨ds,ρ1⟩,e1,e⟩:=zb e
 obtain⟨⟨zs,ρz⟩,e2,e⟩:=zb e
 cases e
 refine hi ρ σ H ds ρ1 _ r e1 fun J H1 g1 run=>fun D hD=>?_
 have sm0:=zP hD (.dT [])
 have s0:=zmu (nt:=nt) (js:=js) g1.rs nd
 have s1:Sn K (zd4 nt js.length) (c0 nt js σ) (fun a=>zhP ρ1 σ js a\/a=D) (upd H1 D (.dT [])) H1 (cEn nt js ρ1) (c0 nt js σ) (upd H1 D (.dT [])):=by
  have s2:=s0.go (Go.grow s0.rs sm0)
  refine⟨s2.rs,fun a o h n=>h,fun i u a e o es=>?_,s2.pin,fun a h=>h,s2.kp⟩
  rcases s2.ow i u a e o es with z | z
  ·exact .inl ⟨z.1,.inl z.2⟩
  ·exact absurd z (by
    obtain⟨v,ev,p⟩:=s0.rs.rep i u e
    rw [es]at ev
    cases ev
    obtain⟨b,c,eb,hb,_⟩:=p.own o
    cases eb
    rw [hb]
    exact fun z=>nomatch z)
 refine⟨fun i m H'=>m=ds.length - i/\i<=ds.length/\∃ ρc kd ws,Sn K (zd4 nt js.length) (c0 nt js σ) (fun a=>zhP ρ1 σ js a\/a=D) (upd H1 D (.dT [])) H1 ρc (c0 nt js σ) H'/\Shr (cEn nt js ρ1) ρc/\(∀ k,k < nt->ρc[k]?=some none)/\H' D=some (.dT ws)/\KVd K H' ws kd/\dcM nt mg mt mk mv (ds.drop i) ρc kd=some (zs,ρz),
  ⟨ds.length,by simp,Nat.zero_le _,_,[],[],s1,Shr.refl _,fun k hk=>zpF hk,zx,.nil,e2⟩,?_⟩
 rintro i m H' ⟨rfl,hi',ρc,kd,ws,s',sh,lo,hw,dy,el⟩
 have lc:ρc.length=nt+js.length:=by rw [sh.len,zi3]
 by_cases hlt:i < ds.length
 ·rw [List.drop_eq_getElem_cons hlt]at el
  unfold dcM at el
  split at el
  ·rename_i hz
   obtain⟨ρ2,e3,el⟩:=zb el
   obtain⟨⟨b,ρ3⟩,e4,el⟩:=zb el
   obtain⟨l2,p2⟩:=hg.ok _ _ _ e3
   obtain⟨go,yl⟩:=(run H' s'.kp i).1 ds[i] (ql hlt)
   refine .inr ⟨go,fun H2=>∃ ρc' kd' ws',Sn K (zd4 nt js.length) (c0 nt js σ) (fun a=>zhP ρ1 σ js a\/a=D) (upd H1 D (.dT [])) H1 ρc' (c0 nt js σ) H2/\Shr (cEn nt js ρ1) ρc'/\(∀ k,k < nt->ρc'[k]?=some none)/\H2 D=some (.dT ws')/\KVd K H2 ws' kd'/\dcM nt mg mt mk mv (ds.drop (i+1)) ρc' kd'=some (zs,ρz),
    fun H2 ⟨ρc',kd',ws',z⟩=>⟨ds.length - (i+1),by omega,rfl,hlt,ρc',kd',ws',z⟩,fun x H2 y=>?_⟩
   obtain⟨sm,dx⟩:=yl x H2 y
   have s2:=s'.go (Go.grow s'.rs sm)
   refine hg.run _ _ _ _ ρc _ H2 x ds[i] ρ2 _ s2 dx e3 fun σ3 s3=>?_
   have own2:∀ (i:Nat) (u:U),nt<=i->ρ2[i]?=some (some u)->u.own=true->∃ w,(cEn nt js ρ1)[i]?=some (some w)/\w.own=true:=fun k u hk ek ou=>by
    have lk:k < nt+js.length:=by rw [<-l2.trans lc]; exact(qk.mp ek).1
    rw [p2 k (zc8.mpr ⟨hk,lk⟩)]at ek
    exact sh.own k u ek ou
   have n2:¬Ow ρ2 σ3 D:=zq8 g1.rs hD s3 own2
   have toEnd:∀ {ρ4:En} {H4:Hp},Go K ρ2 σ3 H2 ρ4 H4->Sn K (zd4 nt js.length) (c0 nt js σ) (fun a=>zhP ρ1 σ js a\/a=D) (upd H1 D (.dT [])) H1 (L2.reset nt ρ4) (c0 nt js σ) H4/\Shr (cEn nt js ρ1) (L2.reset nt ρ4):=fun{ρ4 H4} g4=>by
    have l4:ρ4.length=nt+js.length:=by rw [g4.shr.len,l2,lc]
    refine⟨(s3.go g4).reset l4 zlu,sh.trans (Shr.reset' lc lo l4 (fun k u hk ek ou=>?_) fun k u hk ek=>?_)⟩
    ·obtain⟨w,ew,ow⟩:=g4.shr.own k u ek ou
     have lk:k < nt+js.length:=by rw [<-l2.trans lc]; exact(qk.mp ew).1
     rw [p2 k (zc8.mpr ⟨hk,lk⟩)]at ew
     exact⟨w,ew,ow⟩
    ·have lk:k < nt+js.length:=by rw [<-lc]; exact(qk.mp ek).1
     rw [<-p2 k (zc8.mpr ⟨hk,lk⟩)]at ek
     exact g4.shr.live k u ek
   have hw2:H2 D=some (.dT ws):=sm _ _ hw
   refine ht ρ2 σ3 H2 b ρ3 _ s3.rs e4 fun H3 g3=>?_
   dsimp only at el
   split at el
   ·rename_i hb
    rw [if_pos hb]
    obtain⟨⟨a4,ρ4⟩,e5,el⟩:=zb el
    obtain⟨⟨a5,ρ5⟩,e6,el⟩:=zb el
    obtain⟨uk,ek,el⟩:=zb el
    obtain⟨uv,ev,el⟩:=zb el
    obtain⟨dk,edk,el2⟩:=zb el
    obtain⟨dv,edv,el3⟩:=zb el2
    obtain⟨ks,eks,el4⟩:=zb el3
    cases zgQ edk
    cases zgQ edv
    refine hk ρ3 σ3 H3 a4 ρ4 _ g3.rs e5 fun kx H4 g4 k4=>hv ρ4 σ3 H4 a5 ρ5 _ g4.rs e6 fun vx H5 g5 k5=>?_
    have pk:=k4.later g3.rs g4 g5 ek
    have pv:=k5.now g4.rs g5 ev
    obtain⟨p,rfl,hp⟩:=zfy pk eks
    have g35:=(g3.trans g4).trans g5
    have hw5:H5 D=some (.dT ws):=g35.fr D _ hw2 n2
    obtain⟨sn,sr⟩:=toEnd g35
    have dy5:KVd K H5 ws kd:=(dy.kp sm.kp).kp (g35.kp s3.rs)
    have kp:=zcG hw5 trivial (.dT (zc4 ws ks vx))
    have nE:¬Ow (L2.reset nt ρ5) (c0 nt js σ) D:=zq8 g1.rs hD sn fun k u _ ek ou=>sr.own k u ek ou
    exact⟨ws,ks,p,rfl,hw5,hp,by rw [dy5.len]; exact hz,_,_,_,sn.free hw5 trivial nE (.inr rfl),sr,fun k hk=>zfv hk,zx,(dy5.kp kp).put ks (DF.kp kp pv),el4⟩
   ·rename_i hb
    rw [if_neg hb]
    obtain⟨sn,sr⟩:=toEnd g3
    exact⟨_,_,_,sn,sr,fun k hk=>zfv hk,g3.fr D _ hw2 n2,(dy.kp sm.kp).kp (g3.kp s3.rs),el⟩
  ·cases el
 ·have ei:i=ds.length:=by omega
  subst ei
  rw [List.drop_length]at el
  cases el
  refine .inl ⟨(run H' s'.kp _).2 rfl,?_⟩
  have nE:¬Ow ρz (c0 nt js σ) D:=zq8 g1.rs hD s' fun k u _ ek ou=>sh.own k u ek ou
  have s4:Sn K (zd4 nt js.length) (c0 nt js σ) (zhP ρ1 σ js) H1 H1 ρz (c0 nt js σ) H':=by
   refine⟨s'.rs,fun a o h n=>?_,fun i u a e o es=>?_,s'.pin,fun a h=>?_,s'.kp⟩
   ·have ne:a≠D:=by rintro rfl; rw [hD]at h; cases h
    exact s'.fr a o (by rw [zA ne]; exact h) fun z=>z.elim n ne
   ·rcases s'.ow i u a e o es with ⟨z1,z2 | z2⟩ | z
    ·exact .inl ⟨z1,z2⟩
    ·subst z2; exact absurd ⟨i,u,e,o,es⟩ nE
    ·by_cases ea:a=D
     ·subst ea; exact .inr hD
     ·rw [zA ea]at z; exact .inr z
   ·have z:=s'.dm a h
    by_cases ea:a=D
    ·subst ea; exact hD
    ·rw [zA ea]at z; exact z
  have gb:=Sn.comp_back g1.rs s4 lc sh
  exact q _ _ (g1.trans gb) ⟨⟨D,ws,rfl,hw,dy⟩,fun _=>⟨D,rfl,g1.dm _ hD⟩⟩
end
section
variable {prog:Program} {w:World} {A:Around} {E:Value->Shared->Prop} {s:Shared} {it d:Addr} {i ep:Nat} {es:Array DictEntry}
theorem zop{Q:Option Value->Shared->Prop}(k:s.heap.IsValIter it d i es.size ep)(r:zes s.heap d es ep){x:DictEntry}(hx:es[i]?=some x)
  (q:∀ h':Heap,h'.IsValIter it d (i+1) es.size ep->Heap.SameBut it s.heap h'->Q (some x.val) { s with heap:=h' }):wpAny (model prog w) A (pyNext (.ref it)) Q E s:=by
 have kT:=k.typeIs
 obtain⟨oi,ei,ci,fi⟩:=id k
 obtain⟨o,e,_,dat⟩:=r
 unfold pyNext
 refine qa (wpAny_attempt (wpAny_callSpecial?_slot (name:=Str.ofString "__next__") kT F.slot_dict_valueiterator_next
  (wpAny_call_entry F.slot_dict_valueiterator_next kT F.entry_dict_valueiterator_next ?_ (F.args_dict_valueiterator_next_1 _))))
 refine qa (qb (qa (qa ?_)))
 refine qa (wpAny_typeNameOfWhole_valiter kT (qb (qa (wpAny_fieldsOf ei fi ?_))))
 simp only [show Builtin.Dict_items.ownsTuple "dict_valueiterator"=false by decide,Bool.false_eq_true,if_false]
 show wpAny _ _ (if(Value.ref d==Value.none)=true then _ else _) _ _ s
 rw [if_neg (show ¬((Value.ref d==Value.none)=true) from qf)]
 refine qa (qb (qa (wpAny_dictEntries e dat ?_)))
 rw [if_neg (by simp)]
 refine qa (qb (qa (wpAny_dictEpoch e dat ?_)))
 rw [if_neg (by simp)]
 refine qb ?_
 simp only [show ¬((i:Int) < 0) from by omega,if_false,Int.toNat_natCast,hx]
 refine qa (qa (wpAny_typeNameOfWhole_valiter kT (qb (qa (wpAny_isOneOf_valiter kT ?_)))))
 show wpAny _ _ (setField (.ref it) 1 (rawInt ((i:Int)+1)) >>= _) _ _ s
 refine qa (wpAny_setField ei fi (by simp) ?_)
 have k':(s.heap.update it (Obj.mapFields (·.setIfInBounds 1 (rawInt ((i:Int)+1))))).IsValIter it d (i+1) es.size ep :=
  ⟨_,Heap.get?_update_self _ ei (Obj.isFreed_of_fields (Obj.data_mapFields fi _)),(Obj.cls_mapFields ..).trans ci,by rw [Obj.data_mapFields fi]; simp [rawInt]⟩
 refine qa (wpAny_holding (qa (wpAny_isOneOf_valiter (s:={ s with heap:=s.heap.update it (Obj.mapFields (·.setIfInBounds 1 (rawInt ((i:Int)+1)))) }) k'.typeIs ?_)))
 refine qa (wpAny_isOneOf_valiter (s:={ s with heap:=s.heap.update it (Obj.mapFields (·.setIfInBounds 1 (rawInt ((i:Int)+1)))) }) k'.typeIs ?_)
 show wpAny _ _ (pure x.val) _ _ _
 exact qb (qb ⟨_,rfl,qb (q _ k' (Heap.SameBut.update ..))⟩)
theorem zq9{Q:Option Value->Shared->Prop}(hh:A.handled=none)(k:s.heap.IsValIter it d i es.size ep)(r:zes s.heap d es ep)(hx:es.size<=i)
  (q:∀ h':Heap,Heap.ExtBut it s.heap h'->Q none { s with heap:=h' }):wpAny (model prog w) A (pyNext (.ref it)) Q E s:=by
 have kT:=k.typeIs
 obtain⟨oi,ei,ci,fi⟩:=id k
 obtain⟨o,e,_,dat⟩:=r
 unfold pyNext
 refine qa (wpAny_attempt (wpAny_callSpecial?_slot (name:=Str.ofString "__next__") kT F.slot_dict_valueiterator_next
  (wpAny_call_entry F.slot_dict_valueiterator_next kT F.entry_dict_valueiterator_next ?_ (F.args_dict_valueiterator_next_1 _))))
 refine qa (qb (qa (qa ?_)))
 refine qa (wpAny_typeNameOfWhole_valiter kT (qb (qa (wpAny_fieldsOf ei fi ?_))))
 simp only [show Builtin.Dict_items.ownsTuple "dict_valueiterator"=false by decide,Bool.false_eq_true,if_false]
 show wpAny _ _ (if(Value.ref d==Value.none)=true then _ else _) _ _ s
 rw [if_neg (show ¬((Value.ref d==Value.none)=true) from qf)]
 refine qa (qb (qa (wpAny_dictEntries e dat ?_)))
 rw [if_neg (by simp)]
 refine qa (qb (qa (wpAny_dictEpoch e dat ?_)))
 rw [if_neg (by simp)]
 refine qb ?_
 simp only [show ¬((i:Int) < 0) from by omega,if_false,Int.toNat_natCast,Array.getElem?_eq_none hx]
 refine qa (qa (wpAny_typeNameOfWhole_valiter kT (qb ?_)))
 show wpAny _ _ (setField (.ref it) 0 .none >>= _) _ _ s
 refine qa (wpAny_setField ei fi (by simp) ?_)
 show wpAny _ _ (newExc (.type "StopIteration") [] >>= _) _ _ _
 refine qa ?_
 simp only [newExc,newTuple]
 refine qa (qy ?_ (by show(0:Nat)<=sizeLine; exact Nat.zero_le _))
 refine qa (m:=firstArgMember _ _) (wpAny_of_eq (a:=Value.none) (by first | rfl | (simp only [firstArgMember]; rfl)) ?_)
 refine qy ?_ (by first | trivial | size_fits)
 simp only [raiseNew]
 refine qa (wpAny_handled ?_)
 rw [show A.in1.handled=none from hh]
 refine qa (qb (wpAny_throw ?_))
 refine qa (wpAny_isInstance (T := "StopIteration") (b:=true) ⟨_,qg _ rfl,rfl⟩ isSubtype_stop ?_)
 exact qb (q _ (((Heap.SameBut.update ..).extBut.push _).push _))
theorem zlY{Q:Value->Shared->Prop}(hd:(d==sysModules)=false)(r:zes s.heap d es ep)
  (q:Q (.ref s.heap.objs.size) { s with heap:=s.heap.push { cls:=.type "dict_values",data:=.fields #[.ref d] } }):wpAny (model prog w) A (call (.builtin "dict.values") [.ref d]) Q E s:=by
 have hT:=r.typeIs
 obtain⟨o,e,_,dat⟩:=r
 refine wpAny_call_entry F.slot_dict_values hT F.entry_dict_values ?_ (F.args_dict_values_1 _)
 refine qa ?_
 unfold Builtin.Dict.noArgs
 refine qa (wpAny_notOrdered_dict hT ?_)
 show wpAny _ _ (pure d) _ _ s
 refine qb ?_
 show wpAny _ _ (Builtin.Dict.showsAll d >>= _) _ _ s
 unfold Builtin.Dict.showsAll
 rw [if_neg (by rw [hd]; exact qf)]
 refine qa (qb ?_)
 exact qa (qy (qb ⟨_,rfl,q⟩))
theorem zoq{v:Addr}{Q:Value->Shared->Prop}(hv:s.heap.IsValuesView v d)(r:zes s.heap d es ep)
  (q:∀ h':Heap,h'.IsValIter s.heap.objs.size d 0 es.size ep->(∀ b o,s.heap.get? b=some o->h'.get? b=some o)->Q (.ref s.heap.objs.size) { s with heap:=h' }):wpAny (model prog w) A (pyIter (.ref v)) Q E s:=by
 obtain⟨o,e,_,dat⟩:=r
 obtain⟨o2,e2,c2,d2⟩:=id hv
 have hT:=hv.typeIs (s:=s)
 refine wpAny_pyIter_slot hT F.slot_dict_values_iter (wpAny_call_entry F.slot_dict_values_iter hT F.entry_dict_values_iter ?_ (F.args_dict_values_iter_1 _))
 unfold Builtin.«dict_values.__iter__»
 refine qa (qb ?_)
 unfold Builtin.Dict_items.dictOf
 refine qa (qa (wpAny_field e2 d2 (x:=.ref d) rfl (qb ?_)))
 unfold Builtin.Dict_items.newIterator
 refine qa (qa (wpAny_dictEntries e dat (qa (wpAny_dictEpoch e dat ?_))))
 have hown:Builtin.Dict_items.ownsTuple "dict_valueiterator"=false:=by decide
 simp only [hown,Bool.false_eq_true,if_false]
 refine qy (qb ⟨_,rfl, "dict_valueiterator",_,⟨_,qg _ rfl,rfl⟩,F.slot_dict_valueiterator_next.lookup,?_⟩)
 exact q _ ⟨_,qg _ rfl,rfl,by simp [rawInt]⟩ fun b o z=>qd _ z
end
def ItV(a:Addr)(o:Obj)(kvs:List (List Key×V)):It :=
 ⟨fun i H=>H a=some (.frz o (.dT kvs))/\i < kvs.length,fun i H x H'=>H'=H/\∀ k v,kvs[i]?=some (k,v)->x=v,fun i H=>H a=some (.frz o (.dT kvs))/\kvs.length<=i⟩
theorem zor{P:Program}{w:World}{K:qc}{tg:Expr}(a it:Addr)(o:Obj)(kvs:List (List Key×V))(ep:Nat)(hep:∃ es,o.data=.dict es ep):Turn P w K tg (ItV a o kvs) [it] it (fun i h=>h.IsValIter it a i kvs.length ep) where
 mem:=by simp
 obj:=fun i h st b hb=>by
  have e:b=it:=by simpa using hb
  subst e
  obtain⟨oi,e,c,d⟩:=st
  exact⟨oi,e,fun v z=>by rw [d]at z; cases z⟩
 keep:=fun i h h' st k=>by
  obtain⟨oi,e,c,d⟩:=st
  exact⟨oi,k it (by simp) _ e,c,d⟩
 item:=by
  intro X hP hw hK hc i pins s σ H E I hf st hg
  subst hP hw hK
  obtain⟨e,hi⟩:=hg
  obtain⟨hsm,es,ep',ea,xd,dat,hsz,ent⟩:=zdD I e
  have eep:ep'=ep:=by
   obtain⟨es',z⟩:=hep
   rw [dat]at z
   injection z
  subst eep
  obtain⟨b,x,ex,kx,hb,rv⟩:=ent i kvs[i].1 kvs[i].2 (ql hi)
  obtain⟨f0,f1,f2,f3,f4,f5⟩:=hf it (by simp)
  refine zop (es:=es) (by rw [hsz]; exact st) ⟨o,ea,xd,dat⟩ ex fun h' st' sb=>?_
  have I1:Inv X pins σ H { s with heap:=h' }:=I.turned (t':=s.toks) (fun b o hb e=>(sb.2 b hb).trans e) f0 f1 f3 f4 f5
  obtain⟨oi,e',c',d'⟩:=id st'
  refine⟨x.val,rfl,zjD (s:={ s with heap:=h' }) e' c' d' (by decide) ⟨kvs[i].2,H,I1,rv,⟨rfl,fun k v hkv=>?_⟩,by rw [hsz]at st'; exact st',fun b hb=>(hf b hb).1⟩⟩
  rw [ql hi]at hkv
  rw [qw hkv]
 done:=by
  intro X hP hw hK hc i pins s σ H E I hf st hg
  subst hP hw hK
  obtain⟨e,hi⟩:=hg
  obtain⟨hsm,es,ep',ea,xd,dat,hsz,ent⟩:=zdD I e
  have eep:ep'=ep:=by
   obtain⟨es',z⟩:=hep
   rw [dat]at z
   injection z
  subst eep
  obtain⟨f0,f1,f2,f3,f4,f5⟩:=hf it (by simp)
  exact zq9 (es:=es) (I.ok.hd hc) (by rw [hsz]; exact st) ⟨o,ea,xd,dat⟩ (by omega) fun h' eb=>⟨rfl,I.turned (t':=s.toks) (fun b o hb e=>eb b o hb e) f0 f1 f3 f4 f5⟩
 self:=fun _ _ _ _ _ st h=>wpAny_pyIter_valiter st h
section
variable {X:Cx} {tg:Expr}
def zuG(td:TE):TI:=fun σ H R=>td σ H fun x H1=>∃ a o kvs,x=.ref a/\H1 a=some (.frz o (.dT kvs))/\R (ItV a o kvs) H1
theorem zwH{d:Expr}{td:TE}{apos cpos:Pos}(hd:Wr (PE X d td))(hbase:attributeBase d "values" X.env (eval d X.env)=eval d X.env:=by rfl)(hline:(apos.endLine==cpos.line)=true:=by rfl):Wr (PI X tg (.Call (.Attribute d "values" apos) [] [] cpos) (zuG td)):=by
 refine⟨?_⟩
 intro pins s σ H R I h
 refine wpAny_Call_method0_late hbase hline (thn (hd.run pins s σ H _ I h) fun v s1 ⟨x,H1,I1,r1,q1⟩=>?_)
 obtain⟨a,o,kvs,rfl,e,q⟩:=q1
 cases r1
 obtain⟨hsm,es,ep,ea,xd,dat,hsz,_⟩:=zdD I1 e
 have rw1:zes s1.heap a es ep:=⟨o,ea,xd,dat⟩
 refine⟨"dict", "dict.values",F.plainAttrs_dict,F.slot_dict_values,F.type_dict_values,rw1.typeIs,fun b hb=>?_,Calls.callWith_builtin rfl (PySem.evalArgs_none (zlY hsm rw1 ?_))⟩
 ·cases hb
  exact⟨o,ea,xd.2.1⟩
 have I2:Inv X pins σ H1 { s1 with heap:=s1.heap.push { cls:=.type "dict_values",data:=.fields #[.ref a] } }:=I1.kept (t':=s1.toks) fun b o z=>qd _ z
 refine zoq (v:=s1.heap.objs.size) (s:={ s1 with heap:=s1.heap.push { cls:=.type "dict_values",data:=.fields #[.ref a] } }) ⟨_,qg _ rfl,rfl,rfl⟩ ⟨o,qd _ ea,xd,dat⟩ fun h' hit kk2=>?_
 refine⟨_,_,_,_,H1,rfl,I2.kept (t':=s1.toks) kk2,zor a _ o kvs ep ⟨es,dat⟩,by rw [<-hsz]; exact hit,fun b hb=>?_,q⟩
 rw [qp.mp hb]
 exact I2.fpOk (qe _) (I2.hok.fresh (qe _))
end
def zng:U->Option (List D)
 | .d (.dict kvs)=>if noX kvs=true then some (kvs.map (·.2))else none
 | _=>none
theorem ztj{K:qc}{te:TE}{me:ME}(h:VE K te me):VI K (zuG te) (mIt zng me):=by
 intro ρ σ H ds ρ' R r e q
 obtain⟨⟨a,ρ1⟩,e1,e⟩:=zb e
 obtain⟨u,eu,e⟩:=zb e
 obtain⟨xs,ex,e⟩:=zb e
 cases e
 refine h ρ σ H a _ _ r e1 fun v H1 g1 k1=>?_
 have p:=k1.now r g1 eu
 unfold zng at ex
 split at ex
 ·split at ex
  rotate_left
  ·cases ex
  rename_i nx
  cases ex
  obtain⟨b,o,ws,rfl,h1,h2⟩:=DF.dct_inv p nx
  refine⟨b,o,ws,rfl,h1,q _ _ g1 fun H2 k i=>?_⟩
  have h1':=k.frz _ _ _ h1
  refine⟨fun d ed=>?_,fun ei=>?_⟩
  ·rw [List.getElem?_map]at ed
   obtain⟨⟨kd,vd⟩,ew,rfl⟩:=qq.mp ed
   obtain⟨ks,w,ew',rfl,dv⟩:=zjd h2 ew
   refine⟨⟨h1',(qk.mp ew').1⟩,fun x H' y=>?_⟩
   obtain⟨rfl,y⟩:=y
   rw [y ks w ew']
   exact⟨fun _ _ z=>z,dv.kp k⟩
  ·rw [List.length_map,<-zje h2]at ei
   exact⟨h1',Nat.le_of_eq ei.symm⟩
 ·cases ex
section
variable {X:Cx} {pins:List (Addr×Obj)} {σ:St} {H:Hp} {s:Shared} {a C dx:Addr} {fs:List (Str×V)} {f:Str} {v:V} {A:Around} {E:Value->Shared->Prop}
theorem Inv.frzI(I:Inv X pins σ H s)(e:H a=some (.ins C dx fs)):∃ o,Inv X pins σ (upd H a (.frz o (.ins C dx fs))) s:=by
 have ok:=(show zaj X.prog X.w X.K H s.heap a (.ins C dx fs) from I.hok a _ e)
 obtain⟨d,z,ne,ob,_⟩:=id ok
 refine⟨PySem.W.instObj C dx,?_⟩
 have ok2:zaj X.prog X.w X.K (upd H a (.frz (PySem.W.instObj C dx) (.ins C dx fs))) s.heap a (.ins C dx fs) :=
  ok.stay (fun _ _ _ q=>q) (fun b q=>by rw [zA (zfe q e (by intro z; cases z))]; exact q) fun b ys q=>by rw [zA (zfe q e (by intro z; cases z))]; exact q
 exact I.write (t':=s.toks) (h':=s.heap) (by rw [e]; trivial) (.inl rfl) (fun _ _ _ q=>q) ⟨_,ob⟩ ⟨ob,ok2⟩
theorem zkA{b:Bool}{o:Obj}{Q:Value->Shared->Prop}(I:Inv X pins σ H s)(e:H a=some (.frz o (.ins C dx fs)))(c:Cls X.K C)(n:zbQ X.K C f)(l:fs.lookup f=some v)
  (h:∀ u s',Inv X pins σ H s'->zU v u->Q u s'):wpAny (model X.prog X.w) A (getAttr (.ref a) f b) Q E s:=by
 obtain⟨_,d,z,ne,ob,mA,nn,r,q⟩:=(show zaj X.prog X.w X.K H s.heap a (.frz o (.ins C dx fs)) from I.hok a _ e)
 obtain⟨u,hu,ru⟩:=zeK.some_of (v:=v) (o:=mA f) (by rw [<-l]; exact r f)
 exact zsg I.kIn (⟨ob,nn,ne⟩:ObjM s.heap a dx C mA) (c.get f) c.hd n hu (znJ ru) (h u _ (I.tok _) ru)
end
def zuH(K:qc)(f:Str):V->Hp->VK->Prop:=fun x H Q=>∃ a C dx o fs v,x=.ref a/\H a=some (.frz o (.ins C dx fs))/\Cls K C/\zbQ K C f/\fs.lookup f=some v/\Q v H
section
variable {X:Cx} {o e value:Expr} {f:Str} {pos pos' tpos:Pos} {ta tv:TE}
theorem zbR(K:qc)(hK:X.K=K)(he:Wr (PE X e ta))(hb:attributeBase e f X.env (eval e X.env)=eval e X.env):Wr (PE X (.Attribute e f pos) (tUn (zuH K f) ta)):=by
 subst hK
 refine⟨?_⟩
 intro pins s σ H Q I h
 refine zsi hb (thn (he.run pins s σ H _ I h) fun u s1 ⟨x,H1,I1,rx,a,C,dx,oo,fs,v,ex,ea,c,n,l,q⟩=>?_)
 subst ex
 obtain rfl:u=Value.ref a:=rx
 exact zkA I1 ea c n l fun u' s2 I2 ru=>⟨v,H1,I2,ru,q⟩
end
def spO(K:qc)(C:Addr)(fl:List Str):Sp:=fun vs H Q _=>∃ a dx us,vs=.ref a::us/\us.length=fl.length/\H a=some (.ins C dx [])/\Q .non (upd H a (.ins C dx (fl.zip us)))
theorem ztk{K:qc}{C:Addr}{fl:List Str}{vs:List V}{H:Hp}{Q:VK}{E:XK}(h:spO K C fl vs H Q E):vs.length=fl.length+1:=by
 obtain⟨a,dx,us,rfl,l,_⟩:=h
 rw [qt,l]
theorem zra{K:qc}{C:Addr}{f g h:Str}{N:List Str}{vs:List V}{H:Hp}{Q:VK}{E:XK}(c:Cls K C)(n1:zbQ K C f)(n2:zbQ K C g)(n3:zbQ K C h)(d1:¬f=g)(d2:¬f=h)(d3:¬g=h)(q:spO K C [f,g,h] vs H Q E) :
  zoG (zsj K (zfg 0) (zfg 1) f) (zoG (zsj K (zfg 0) (zfg 2) g) (zsj K (zfg 0) (zfg 3) h)) { nx:=fun _ H'=>Q .non H',rt:=Q } (zck N vs) H:=by
 obtain⟨a,dx,us,rfl,l,e,q⟩:=q
 match us,l with
 | [u,v,w],_ =>
  refine⟨u,rfl,.ref a,rfl,a,C,dx,[],rfl,e,c,n1,by decide,?_⟩
  refine⟨v,rfl,.ref a,rfl,a,C,dx,_,rfl,zx,c,n2,?_,?_⟩
  ·show(zcP f u []).length < 1000
   simp [zcP]
  refine⟨w,rfl,.ref a,rfl,a,C,dx,_,rfl,zx,c,n3,?_,?_⟩
  ·simp only [zcP]
   split<;>simp
  ·show Q .non _
   rw [zgA,zgA]
   have e3:zcP h w (zcP g v (zcP f u []))=[f,g,h].zip [u,v,w]:=by
    simp [zcP,d1,d2,d3,List.zip]
   rw [e3]
   exact q
def zyi(K:qc)(C:Addr)(fl:List Str)(t:TA):TE:=fun σ H Q=>ztH C (spO K C fl) [] E0 t σ H fun v H2=>∃ a dx fs,v=.ref a/\H2 a=some (.ins C dx fs)/\∀ o,Q v (upd H2 a (.frz o (.ins C dx fs)))
structure OCal (P:Program) (w:World) (K:qc) (mg:Str->Option Value) (base:Heap) (n:Str) (C:Addr) (fl:List Str):Prop where
 xn:XN K n C
 cl:Cls K C
 na:∀ f∈fl,zbQ K C f
 gm:mg n=some (.ref C)
 fn:∃ (f:Addr) (fd:FuncData) (ps:List Str),Mk K C f/\zfj K fd ps []/\FnOk P w K mg base CX0 1 f fd ps (spO K C fl)
section
variable {X:Cx} {C:Addr} {fl:List Str} {k:Nat} {x:Str} {p pos:Pos} {e:Expr} {es:List Expr} {t:TA}
theorem zrb(O:OCal X.prog X.w X.K X.mg X.base x C fl)(hr:Room 2 X.A)(hg:Gl X x)(ha:Wr (PA X (e::es) t))(hdb:(x==("__debug__":Str))=false:=by decide)
  (he:zah e=true:=by rfl) (hpl:es.all zah=true:=by rfl):Wr (PE X (.Call (.Name x p) (e::es) [] pos) (zyi X.K C fl t)):=by
 obtain⟨f,fd,ps,M,hb,F⟩:=O.fn
 refine⟨fun pins s σ H Q I h=>?_⟩
 refine thn (zsm (p:=p) (pos:=pos) (dvs:=[]) (E:=E0) M F hr hg O.gm hb .nil ztJ ha.run hdb (zdg he) (zcQ hpl) pins s σ H _ I h) fun u s1 ⟨v,H2,I2,r,a,dx,fs,ev,e,q⟩=>?_
 obtain⟨o,I3⟩:=I2.frzI e
 exact⟨v,_,I3,r,q o⟩
end
section
variable {K:qc} {n:Str} {C:Addr} {fl:List Str} {f:Str}
def mkF:List Str->List D->List (D×D)
 | f::fl,d::ds=>(.str f,d)::mkF fl ds
 | _,_=>[]
theorem zrc{H:Hp}:∀ {fl:List Str} {vs:List V} {ds:List D},DFs K H vs ds->DFf K H (fl.zip vs) (mkF fl ds)
 | [],_,_,_=>.nil
 | _::_,_,_,.nil=>.nil
 | _::_,_,_,.cons h t=>.cons h (zrc t)
def zlZ(n:Str)(fl:List Str)(ds:List D):D:=.dict ((.bool true,.str n)::mkF fl ds)
def zos(n:Str)(fl:List Str)(ma:MA):ME:=fun ρ=>(ma ρ).bind fun p=>(zbc p.2 p.1).bind fun us=>(zcV us).bind fun ds=>if ds.length=fl.length then some (.u (.d (zlZ n fl ds)),p.2)else none
theorem zrd{t:TA}{m:MA}(xn:XN K n C)(h:VAs K t m):VE K (zyi K C fl t) (zos n fl m):=by
 intro ρ σ H a ρ' Q rs e q
 obtain⟨⟨as,ρ1⟩,e1,e⟩:=zb e
 obtain⟨us,eu,e⟩:=zb e
 obtain⟨ds,ed,e⟩:=zb e
 split at e
 rotate_left
 ·cases e
 rename_i hl
 cases e
 refine h ρ σ H as ρ1 _ rs e1 fun vs H1 g1 s1=>?_
 have df:=zlo (s1.rpl rs g1 eu) ed
 intro x dx hx hdx ne
 refine⟨x,dx,vs,by rw [List.append_nil],by rw [df.len,hl],zx,rfl,x,dx,_,rfl,zx,fun o=>?_⟩
 rw [zgA,zgA]
 have sm:zbf H1 (upd (upd H1 dx (.own x)) x (.frz o (.ins C dx (fl.zip vs)))):=fun b u hb=>by
  rw [zA (zac hb hx),zA (zac hb hdx)]
  exact hb
 exact q _ _ (g1.trans (Go.grow g1.rs sm)) ⟨DF.obj zx xn (zrc (df.kp sm.kp)),Nw.data⟩
theorem DF.obj_inv{H:Hp}{v:V}{ds:List (D×D)}(h:DF K H v (.dict ((.bool true,.str n)::ds))):∃ a C dx o fs,v=.ref a/\H a=some (.frz o (.ins C dx fs))/\XN K n C/\DFf K H fs ds:=by
 generalize eq:(PyData.dict ((.bool true,.str n)::ds))=z at h
 cases h with
 | dct h t =>
  cases eq
  generalize eq2:((PyData.bool true,PyData.str n)::ds)=y at t
  cases t with
  | nil=>cases eq2
  | cons=>cases eq2
 | exc h e t=>cases eq
 | obj h e t=>cases eq; exact⟨_,_,_,_,_,rfl,h,e,t⟩
 | _=>cases eq
def zby(n f:Str):U->Option U
 | .d (.dict ((.bool true,.str m)::ds))=>if m=n then(zlB f ds).map .d else none
 | _=>none
theorem za1(xn:XN K n C)(c:Cls K C)(na:zbQ K C f):VU K (zuH K f) (zby n f):=by
 intro x a u H Q h e q
 unfold zby at e
 split at e
 ·rename_i m ds
  split at e
  ·rename_i hn
   subst hn
   obtain⟨d,ed,rfl⟩:=qq.mp e
   obtain⟨a,C',dx,o,fs,rfl,ha,xn',t⟩:=DF.obj_inv h
   obtain⟨v,ev,hv⟩:=t.get ed
   have:C'=C:=by
    have z:=(show PySem.W.nsIn K mainGlobals m=some (some (.ref C')) from xn').symm.trans (show PySem.W.nsIn K mainGlobals m=some (some (.ref C)) from xn)
    injection z with z
    injection z with z
    injection z
   subst this
   exact⟨a,C',dx,o,fs,v,rfl,ha,c,na,ev,q v H (zbf.refl H) hv Nw.data⟩
  ·cases e
 ·cases e
end
section
variable {X:Cx} {K:qc}
theorem zhx{H:Hp}:∀ (ns:List Int),DFs K H (ns.map V.int) (ns.map PyData.int)
 | []=>.nil
 | n::ns=>.cons (.int n) (zhx ns)
theorem zre{g:Addr}{ns:List Int}(gt:GTi K g ns):VE K (tC (.ref g)) (mC (.tuple (ns.map PyData.int))):=by
 intro ρ σ H a ρ' Q rs e q
 cases e
 exact q _ _ (Go.refl rs) ⟨DF.tup (.inr gt) (zhx ns),Nw.data⟩
def zfL(i:Int):Int:=(Builtin.Int.intBits i:Nat)
def zuI:V->List V->Hp->VK->Prop:=fun x xs H Q=>∃ i,x=.int i/\xs=[]/\Q (.int (zfL i)) H
theorem znh:MtM X "int.bit_length" zuI:=by
 intro pins s σ H x xs v us Q I rx rv h
 obtain⟨i,rfl,rfl,q⟩:=h
 obtain⟨t,rfl⟩:=rx
 cases rv
 exact call_int_bit_length ⟨.int (zfL i),H,I.tok _,⟨_,rfl⟩,q⟩
def zkB:U->Option U
 | .d (.int i)=>some (.d (.int (zfL i)))
 | _=>none
theorem zrf{to:TE}{mo:ME}(h:VE K to mo):VE K (zvC K "int" zuI to) (mUn zkB mo):=by
 intro ρ σ H a ρ' Q rs e q
 obtain⟨⟨a1,ρ1⟩,e1,e⟩:=zb e
 obtain⟨x,ex,e⟩:=zb e
 obtain⟨u,eu,e⟩:=zb e
 cases e
 refine h ρ σ H a1 _ _ rs e1 fun v1 H1 g1 k1=>?_
 have p:=k1.now rs g1 ex
 unfold zkB at eu
 split at eu
 ·rename_i z
  cases eu
  cases DF.int_inv p
  exact⟨rfl,z,rfl,rfl,q _ _ g1 ⟨DF.int _,Nw.data⟩⟩
 ·cases eu
theorem zl0{prog:Program}{w:World}{A:Around}{E:Value->Shared->Prop}{s:Shared}{d:Addr}{es:Array DictEntry}{ep:Nat}{Q:Bool->Shared->Prop}(hd:(d==sysModules)=false)(r:zes s.heap d es ep)(hfit:(es.size:Int) < 2^63)
  (h:Q (es.size != 0) { s with toks:=s.toks+1+1 }):wpAny (model prog w) A (truthy (.ref d)) Q E s:=by
 have hT:=r.typeIs
 obtain⟨o,e,_,dat⟩:=r
 have hne:((es.size:Int) != 0)=(es.size != 0):=by
  cases z:es.size with
  | zero=>rfl
  | succ n =>
   rw [bne_iff_ne.mpr (by omega),bne_iff_ne.mpr (by omega)]
 have key:wpAny (model prog w) A (runValue (.builtin "len" ⟨[.ref d],[]⟩)) (fun r s'=>r=.int es.size (s.toks+1)/\Q (es.size != 0) s') E s:=by
  refine wpAny_runValue (codeAny_builtin entry_len ?_)
  rw [Around.under_plainId plain_len _]
  unfold Builtin.«len»
  refine qa (m:=oneArg "len" _) (qb ?_)
  refine qa (m:=callSpecial? (.ref d) (Str.ofString "__len__")) (wpAny_callSpecial?_slot (name:=Str.ofString "__len__") hT F.slot_dict_len
   (wpAny_call_entry F.slot_dict_len hT F.entry_dict_len ?_ (F.args_dict_len_1 _)))
  show wpAny _ _ (dictSize d >>= _) _ _ s
  unfold dictSize
  refine qa (qa (wpAny_dictEntries e dat (qb ?_)))
  show wpAny _ _ (Builtin.Dict.pendingCount d >>= _) _ _ s
  refine qa (wpAny_pendingCount_other hd ?_)
  refine wpAny_ret_mkInt ?_
  show wpAny _ _ _ _ _ { s with toks:=s.toks+1 }
  refine qa (wpAny_holding (qb ?_))
  refine qa (wpAny_letGo ?_)
  show wpAny _ _ (if((es.size+0:Nat):Int) < 0 then _ else _) _ _ _
  rw [if_neg (by omega)]
  show wpAny _ _ (if((es.size+0:Nat):Int)>=2^63 then _ else _) _ _ _
  rw [if_neg (by rw [Nat.add_zero]; omega)]
  exact qa (wpAny_mkInt (qb ⟨rfl,h⟩))
 unfold truthy
 first
  | refine qa (wpAny_callSpecial?_none (name:=Str.ofString "__bool__") hT noBool_dict ?_)
  | refine qa (qb (qa (wpAny_callSpecial?_none (name:=Str.ofString "__bool__") hT noBool_dict ?_)))
 first
  | refine qa (wpAny_specialOf (name:=Str.ofString "__len__") hT F.slot_dict_len.lookup ?_)
  | refine qa (qb (qa (wpAny_specialOf (name:=Str.ofString "__len__") hT F.slot_dict_len.lookup ?_)))
 first
  | exact qa (wpAny_mono key (fun r s' h'=>by obtain⟨rfl,hq⟩:=h'; exact qb (hne▸hq)) fun _ _ e=>e)
  | exact qa (qb (qa (wpAny_mono key (fun r s' h'=>by obtain⟨rfl,hq⟩:=h'; exact qb (hne▸hq)) fun _ _ e=>e)))
def zuJ(ta:TE):TT:=fun σ H Q=>ta σ H fun x H1=>∃ p kvs,x=.ref p/\H1 p=some (.dT kvs)/\Q (!kvs.isEmpty) H1
theorem zwI{a:Expr}{ta:TE}(ha:Wr (PE X a ta))(he:∀ whole,isTrue a X.env whole=(do let v <-whole; standAt a.pos; holding [v] (truthy v)):=by intro _; rfl):Wr (PT X a (zuJ ta)):=by
 refine⟨?_⟩
 intro pins s σ H Q I h
 refine isTrue_plain (thn (ha.run pins s σ H _ I h) fun v s1 ⟨x,H1,I1,r1,p,kvs,ex,ep,q1⟩=>?_) (he _)
 subst ex
 cases r1
 obtain⟨z,y,xs,r,o,es,eq,h1,h2,h3,h4,h5⟩:=(show zaj X.prog X.w X.K H1 s1.heap p (.dT kvs) from I1.hok p _ ep)
 have hl:es.size=kvs.length:=by
  have:=congrArg List.length h4
  rw [Array.length_toList,List.length_map,<-zcR r]at this
  exact this
 have hs:sizeLine=16777216:=sizeLine_eq
 refine zl0 y ⟨o,h1,h2,h3⟩ (by omega) ⟨H1,I1.tok _,?_⟩
 have e2:(es.size != 0)=!kvs.isEmpty:=by
  rw [hl]
  cases kvs<;>rfl
 rw [e2]
 exact q1
def zkC(ma:ME):MT:=fun ρ=>(ma ρ).bind fun p=>(p.1.get p.2).bind fun u=>match u with
 | .t kvs=>some (!kvs.isEmpty,p.2)
 | _=>none
theorem ztl{ta:TE}{ma:ME}(ha:VE K ta ma):VT K (zuJ ta) (zkC ma):=by
 intro ρ σ H b ρ' Q r e q
 obtain⟨⟨a,ρ1⟩,e1,e⟩:=zb e
 obtain⟨u,eu,e⟩:=zb e
 refine ha ρ σ H a _ _ r e1 fun v H1 g1 k1=>?_
 have p:=k1.now r g1 eu
 cases u with
 | t kvs =>
  cases e
  obtain⟨a,ws,rfl,h1,h2⟩:=p
  refine⟨a,ws,rfl,h1,?_⟩
  have e2:(!ws.isEmpty)=!kvs.isEmpty:=by cases h2<;>rfl
  rw [e2]
  exact q _ g1
 | _=>cases e
def zrg(K:qc):List V->Hp->VK->Prop:=fun xs H Q=>∃ (d:Addr) (ns:List Int),xs=[.ref d]/\SqT K H d (ns.map V.int)/\ns.length < 64 /\
 ∀ (ms:List Int) l,ms.Perm ns->ms.Pairwise (·<=·)->H l=none->Q (.ref l) (upd H l (.lst (ms.map V.int)))
theorem zl1(K:qc)(hK:X.K=K):zbU X (.builtin "sorted") (zrg K):=by
 subst hK
 intro pins s σ H xs us Q I r h
 obtain⟨d,ns,rfl,hd,h64,q⟩:=h
 obtain⟨u,rfl,ru⟩:=zdV r
 cases ru
 obtain⟨its,rv,⟨o,eo,co,n,dO⟩,_⟩:=I.tuple hd
 have hI:=zgZ rv
 have lv:its.length=ns.length:=by
  have:=rv.length
  rw [List.length_map]at this
  exact this.symm
 have line:(64:Nat)<=sizeLine:=by decide
 refine Calls.call_function_entry kind_sorted plain_sorted entry_sorted (args_sorted1 _) ?_
 unfold Builtin.«sorted»
 refine qa (m:=checkCount "sorted" 1 1 _) (qb ?_)
 refine qa (wpAny_collect_seq d (.inr rfl) eo co dO (fun h1 keep=>?_) (by rw [List.size_toArray]; omega))
 rw [List.toList_toArray]
 refine qa (wpAny_newList ?_ (by omega))
 have I1:Inv X pins σ H { s with heap:=h1,toks:=s.toks }:=I.kept keep
 have hoL:(h1.push (seqObj "list" its.toArray 0)).get? h1.objs.size=some (seqObj "list" its.toArray 0):=qg _ rfl
 refine qa (wpAny_holding (wpAny_call_entry slot_list_sort ⟨_,hoL,rfl⟩ entry_list_sort (list_sort_tree (s:={ s with heap:=h1.push (seqObj "list" its.toArray 0) }) hoL hI (by omega) fun out ms a1 a2 a3=>⟨_,rfl,?_⟩) (args_list_sort _)))
 refine qb ⟨_,rfl,?_⟩
 obtain⟨en,ho⟩:=sortedHeap_at (vs:=its) (out:=out) hoL
 have fresh:H h1.objs.size=none:=I1.hok.fresh (qe _)
 have lm:ms.length=ns.length:=a2.length_eq
 refine⟨.ref h1.objs.size,_,I1.laid (t':=s.toks) (a:=h1.objs.size) (o:=.lst (ms.map V.int)) (fun b o e=>?_) (qe _) ⟨by rw [List.length_map]; omega,out.toList,en,zf0 a1,by simpa using ho⟩,rfl,q ms _ a2 a3 fresh⟩
 have hb:b < h1.objs.size:=qh e
 rw [sortedHeap_old (qj hb) (by rw [Heap.size_push]; exact Nat.lt_succ_of_lt hb)]
 exact qd _ e
def zot(x:Int):List Int->List Int
 | []=>[x]
 | y::ys=>if x<=y then x::y::ys else y::zot x ys
def za4:List Int->List Int
 | []=>[]
 | x::xs=>zot x (za4 xs)
theorem zgd(x:Int):∀ xs,(zot x xs).Perm (x::xs)
 | []=>.refl _
 | y::ys=>by
  unfold zot
  split
  ·exact .refl _
  ·exact((zgd x ys).cons y).trans (.swap x y ys)
theorem ze5:∀ xs,(za4 xs).Perm xs
 | []=>.refl _
 | x::xs=>(zgd x _).trans ((ze5 xs).cons x)
theorem zni(x:Int):∀ {xs:List Int},xs.Pairwise (·<=·)->(zot x xs).Pairwise (·<=·)
 | [],_=>List.pairwise_singleton _ _
 | y::ys,h=>by
  obtain⟨h1,h2⟩:=List.pairwise_cons.mp h
  unfold zot
  split
  ·rename_i le
   refine List.pairwise_cons.mpr ⟨fun z hz=>?_,h⟩
   rcases qu.mp hz with e | hz
   ·omega
   ·have:=h1 z hz
    omega
  ·rename_i le
   refine List.pairwise_cons.mpr ⟨fun z hz=>?_,zni x h2⟩
   rcases qu.mp ((zgd x ys).mem_iff.mp hz)with e | hz
   ·omega
   ·exact h1 z hz
theorem zkD:∀ xs,(za4 xs).Pairwise (·<=·)
 | []=>.nil
 | x::xs=>zni x (zkD xs)
theorem zrh{xs ys:List Int}(p:ys.Perm xs)(s:ys.Pairwise (·<=·)):ys=za4 xs:=by
 refine List.Perm.eq_of_pairwise (le:=(·<=·)) (fun a b _ _ h1 h2=>Int.le_antisymm h1 h2) s (zkD xs) (p.trans (ze5 xs).symm)
def zjm(u:U):Option U:=match u with
 | .d (.tuple xs)=>(zfr xs).bind fun ns=>if ns.length < 64 then some (.l ((za4 ns).map .int))else none
 | _=>none
theorem zri:VC K (zrg K) (f1 zjm):=zlp fun v a u H Q h e q=>by
 unfold zjm at e
 split at e
 ·obtain⟨ns,en,e⟩:=zb e
  split at e
  ·rename_i hz
   cases e
   obtain⟨b,xs,rfl,h1,h2⟩:=DF.tup_inv h
   refine⟨b,ns,rfl,by rw [<-zjX h2 en]; exact h1.sq,hz,fun ms l hp hs hl=>?_⟩
   rw [zrh hp hs]
   have sm:=zP hl (.lst ((za4 ns).map V.int))
   exact q _ _ sm ⟨l,_,rfl,zx,zhx _⟩ fun _=>⟨l,rfl,hl⟩
  ·cases e
 ·cases e
theorem zkE{prog:Program}{w:World}{A:Around}{E:Value->Shared->Prop}{s:Shared}{Q:List Value->Shared->Prop}{r:Addr}{a b c:Int}{t u v:Tok}{n:Nat}(hh:A.handled=none)(hr:IsRange s.heap r a b c t u v)(hsmall:Builtin.Range.small a b c=true)
  (hn:Builtin.Range.rangeSize a b c=n) (hlen:n<=2^24)
  (hQ:∀ h' tk acc,(∀ b o,s.heap.get? b=some o->h'.get? b=some o)->ItemsOf (fun i v=>∃ t,v=.int (a+i * c) t) acc n->Q acc.toList { s with heap:=h',toks:=tk }) :
  wpAny (model prog w) A (collect (.ref r)) Q E s:=by
 unfold collect
 refine qa (wpAny_runValue (codeAny_builtin F.entry_proto_collect ?_))
 rw [Around.under_plainId F.plain_proto_collect _]
 show wpAny _ A.in1 (newList [] >>= fun l=>again (.builtin "list.__iadd__" ⟨[l,.ref r],[]⟩)) _ _ s
 refine qa (qy ?_)
 refine qb ⟨plainId_quiet F.plain_list_iadd _,codeAny_builtin F.entry_list_iadd ?_⟩
 rw [Around.under_plainId F.plain_list_iadd _]
 show wpAny _ A.in1 (Builtin.List.listExtendWith (.ref s.heap.objs.size) (.ref r) (.ref s.heap.objs.size)) _ _ _
 have hS:(s.heap.push { cls:=.type "list",data:=.seq ([]:List Value).toArray }).get? s.heap.objs.size=some { cls:=.type "list",data:=.seq #[] 0 }:=qg _ rfl
 have fin':∀ (s':Shared),(∃ h' tk acc c',s'={ s with heap:=h',toks:=tk }/\(∀ b o,b≠s.heap.objs.size->(s.heap.push { cls:=.type "list",data:=.seq ([]:List Value).toArray }).get? b=some o->h'.get? b=some o) /\
   h'.get? s.heap.objs.size=some { cls:=.type "list",dict:=none,data:=.seq acc c',slots:=#[] }/\ItemsOf (fun i v=>∃ t,v=.int (a+i * c) t) acc n)->wpAny (model prog w) A (match Value.ref s.heap.objs.size with
   | Value.ref a=>do
    match (<-load a).data with
     | Data.seq xs _=>pure xs.toList
     | _=>unsupported "internal:collect"
   | _=>unsupported "internal:collect") Q E s':=by
  rintro s' ⟨h',tk,acc,c',rfl,hk,hS',hacc⟩
  show wpAny _ A (load s.heap.objs.size >>= _) _ _ _
  refine qa (wpAny_load hS' (qb ?_))
  exact hQ h' tk acc (fun b o e=>hk b o (qj (qh e)) (qd _ e)) hacc
 refine wpAny_mono (wpAny_extend_range (A:=A) (R:=fun r s'=>r=.ok (.ret (.ref s.heap.objs.size))/\∃ h' tk acc c',s'={ s with heap:=h',toks:=tk }/\(∀ b o,b≠s.heap.objs.size->(s.heap.push { cls:=.type "list",data:=.seq ([]:List Value).toArray }).get? b=some o->h'.get? b=some o) /\
   h'.get? s.heap.objs.size=some { cls:=.type "list",dict:=none,data:=.seq acc c',slots:=#[] }/\ItemsOf (fun i v=>∃ t,v=.int (a+i * c) t) acc n)
  (s:={ s with heap:=s.heap.push { cls:=.type "list",data:=.seq ([]:List Value).toArray } }) hh (qd _ hr) hsmall hn hlen s.heap.objs.size _ 0 hS fun h' tk acc c' hk hS' hacc=>⟨rfl,h',tk,acc,c',rfl,hk,hS',hacc⟩) (fun fin s' h=>?_) (fun e s' h=>?_)
 ·cases fin with
  | done f =>
   obtain⟨e,h⟩:=h
   cases e
   exact fin' s' h
  | again c'=>exact⟨h.1,codeAny_mono h.2 fun r s'' hr=>by obtain⟨rfl,h⟩:=hr; exact fin' s'' h⟩
 ·exact absurd h.1 (by simp)
theorem zgv{r:Addr}{a b c:Int}{t u v:Tok}{n:Nat}(hsmall:Builtin.Range.small a b c=true)(hn:Builtin.Range.rangeSize a b c=n)(hlen:n<=2^24) :
  Meets (Builtin.«tuple.__new__» ⟨[.type "tuple",.ref r],[]⟩)
   (fun A R s=>A.handled=none/\IsRange s.heap r a b c t u v/\∀ (h':Heap) (tk:Nat) (acc:Array Value),(∀ b o,s.heap.get? b=some o->h'.get? b=some o)->ItemsOf (fun i v=>∃ t,v=.int (a+i * c) t) acc n ->
    R (.ok (.ret (.ref h'.objs.size))) { s with heap:=h'.push { cls:=.type "tuple",data:=.seq acc },toks:=tk }) :=
 .of_wp fun prog w A R s h=>by
  obtain⟨hp,g,d,tk,os⟩:=s
  obtain⟨hh,hr,h⟩:=h
  have hsub:=sub_tuple_self
  have hinit:=init_tuple_lookup
  have hmh:=madeHere_tuple
  have hT:Shared.TypeIs ⟨hp,g,d,tk,os⟩ (.ref r) "range":=⟨_,hr,rfl⟩
  have hh1:A.in1.handled=none:=hh
  wp_walk using AutoSeq1.wpAny_loadPart' hr,wpAny_typeOf hT,zkE (A:=A.in1) hh1 hr hsmall hn hlen
  intro h' tk' acc hk hacc
  show wpAny _ _ (Builtin.Tuple.tupleExact acc.toList.toArray >>= fun v=>ret v) _ _ _
  unfold Builtin.Tuple.tupleExact
  refine qa (qy ?_ (show acc.toList.toArray.size<=sizeLine by simp only [Array.toArray_toList]; rw [hacc.1,sizeLine_eq]; omega))
  refine qb ⟨_,rfl,?_⟩
  have e:acc.toList.toArray=acc:=by simp
  rw [e]
  exact h h' tk' acc hk hacc
def zuK:List V->Hp->VK->Prop:=fun xs H Q=>∃ (p:Addr) (lo hi:Int),xs=[.ref p]/\H p=some (.rng lo hi)/\(-(2^62)<=lo/\lo < 2^62/\-(2^62)<=hi/\hi < 2^62)/\(hi - lo).toNat<=sizeLine /\
 ∀ l,H l=none->Q (.ref l) (upd H l (.tup ((List.range (hi - lo).toNat).map fun i=>.int (lo+(i:Nat)))))
theorem zou(hc:X.calm=true):zbU X (.type "tuple") zuK:=by
 intro pins s σ H xs us Q I r h
 obtain⟨p,lo,hi,rfl,hp,⟨b1,b2,b3,b4⟩,hz,q⟩:=h
 obtain⟨u,rfl,ru⟩:=zdV r
 cases ru
 obtain⟨t,u',v,e⟩:=I.hok p _ hp
 have hs:sizeLine=2^24:=rfl
 refine callType_new F.called_tuple (by decide) (F.typeCall_tuple_1 _) (F.newCall_tuple_1 _) (fun obj=>F.args_object_init_2 obj _) F.entry_tuple_new
  (zgv (n:=(hi - lo).toNat) (small_one b1 b2 b3 b4) (by rw [rangeSize_one]; split<;>omega) (by omega)) ⟨I.ok.hd hc,e,fun h' tk acc hk hacc=>⟨⟨_,qg _ rfl,rfl⟩,?_⟩⟩
 have I1:Inv X pins σ H { s with heap:=h',toks:=tk }:=I.kept hk
 refine⟨.ref h'.objs.size,_,I1.laid (t':=tk) (a:=h'.objs.size) (o:=.tup ((List.range (hi - lo).toNat).map fun i=>.int (lo+(i:Nat)))) (fun b o e=>qd _ e) (qe _) ?_,rfl,q _ (I1.hok.fresh (qe _))⟩
 refine⟨by simpa using hz,acc.toList,?_,_,qg _ rfl,rfl,0,by simp⟩
 obtain⟨hl,ha⟩:=hacc
 refine zhi (by simpa using hl.symm) fun j x w e1 e2=>?_
 obtain⟨t2,rfl⟩:=ha j w (by simpa using e2)
 rw [List.getElem?_map]at e1
 obtain⟨k,ek,rfl⟩:=qq.mp e1
 have hj:j < (hi - lo).toNat:=by
  have:=(qk.mp ek).1
  simpa using this
 rw [List.getElem?_range hj]at ek
 cases ek
 exact⟨t2,by rw [Int.mul_one]⟩
def ztm:List U->Option U
 | [.d (.int j)]=>if(-(2^62)<=j/\j < 2^62)/\j.toNat<=sizeLine then some (.d (.tuple (zaR 0 j.toNat)))else none
 | _=>none
def zfM(ma:MA):ME:=fun ρ=>(ma ρ).bind fun p=>(zbc p.2 p.1).bind fun us=>(ztm us).bind fun u=>some (.u u,p.2)
theorem zov{ta:TA}{ma:MA}(h:VAs K ta ma):VE K (tCB zuK (zfi (tCB ztT ta) zk5)) (zfM ma):=by
 intro ρ σ H a ρ' Q rs e q
 replace e:=zb e
 obtain⟨⟨as,ρ1⟩,e1,e⟩:=e
 replace e:=zb e
 obtain⟨us,eu,e⟩:=e
 obtain⟨uu,et,e⟩:=zb e
 cases e
 refine h ρ σ H as ρ1 _ rs e1 fun vs H1 g1 s1=>?_
 have rp:=s1.rpl rs g1 eu
 unfold ztm at et
 split at et
 ·split at et
  ·rename_i j hc
   cases et
   cases rp with
   | cons h1 t =>
    cases t
    cases DF.int_inv h1
    refine⟨j,rfl,fun p hp=>?_⟩
    have sm1:=zP hp (.rng 0 j)
    refine⟨p,0,j,rfl,zx,⟨by decide,by decide,hc.1.1,hc.1.2⟩,by rw [Int.sub_zero]; exact hc.2,fun l hl=>?_⟩
    have sm2:=zP hl (.tup ((List.range (j - 0).toNat).map fun i=>.int (0+(i:Nat))))
    have s12:=sm1.trans sm2
    refine q _ _ (g1.trans (Go.grow g1.rs s12)) ⟨DF.tup (.inl zx) ?_,Nw.data⟩
    rw [Int.sub_zero]
    exact zv1
  ·cases et
 ·cases et
end
theorem na3{K:qc}{C:Addr}{f g h:Str}(a:zbQ K C f)(b:zbQ K C g)(c:zbQ K C h):∀ x∈[f,g,h],zbQ K C x:=fun x hx=>by
 rcases qu.mp hx with rfl | hx
 ·exact a
 rcases qu.mp hx with rfl | hx
 ·exact b
 rcases qu.mp hx with rfl | hx
 ·exact c
 cases hx
section
variable {α β:Type} {c:β->D} {mI:MI} {mg:MG} {mt:MT} {mk mv me ma:ME} {mA:MA} {ρ:En} {QE:Ar×En->Prop} {QT:Bool×En->Prop} {nt:Nat} {js:List Nat}
theorem zrj:Wo (mDC mI nt js mg mt mk mv ρ) QE=Wo (mI ρ) (Co (fun p=>(dcM nt mg mt mk mv p.1 (cEn nt js p.2) []).bind fun q=>some (.u (.t q.1),back js (q.2.drop nt) p.2)) ⟨0⟩ QE):=by
 unfold mDC
 rw [zu]
def zwJ(nt:Nat)(mk mv:ME)(ys:List (List Key×D))(P:En->List (List Key×D)->Prop)(p:Bool×En):Prop :=
 if p.1=true then Wo (mk p.2) (Co (fun p=>(mv p.2).bind fun q=>(p.1.get q.2).bind fun uk=>(q.1.get q.2).bind fun uv=>uk.da.bind fun dk=>uv.da.bind fun dv=>(za2 dk).bind fun k=>some (reset nt q.2,zf6 ys k dv)) ⟨0⟩ fun z=>P z.1 z.2)else P (reset nt p.2) ys
theorem zrk{ys:List (List Key×D)}{P:En->List (List Key×D)->Prop}:zwJ nt mk mv ys P (true,ρ)=Wo (mk ρ) (Co (fun p=>(mv p.2).bind fun q=>(p.1.get q.2).bind fun uk=>(q.1.get q.2).bind fun uv=>uk.da.bind fun dk=>uv.da.bind fun dv=>(za2 dk).bind fun k=>some (reset nt q.2,zf6 ys k dv)) ⟨0⟩ fun z=>P z.1 z.2):=rfl
theorem zrl{ys:List (List Key×D)}{P:En->List (List Key×D)->Prop}:zwJ nt mk mv ys P (false,ρ)=P (reset nt ρ) ys:=rfl
def dcP(l:Pq β):Pq β:=l.foldl (fun ys t=>zaZ ys t.1 t.2) []
theorem ztn{l:Pq β}:∀ {acc:Pq β},NdK (acc++l)->l.foldl (fun ys t=>zaZ ys t.1 t.2) acc=acc++l:=by
 induction l with
 | nil=>intro acc _; simp
 | cons t l ih =>
  intro acc h
  have e:zaZ acc t.1 t.2=acc++[t]:=by
   unfold zaZ
   rw [if_neg]
   intro z
   obtain⟨u,hu,e⟩:=List.any_eq_true.mp z
   have e:=of_decide_eq_true e
   have:(acc++t::l).map (·.1)=acc.map (·.1)++t.1::l.map (·.1):=by simp
   rw [NdK,this,List.nodup_append]at h
   exact h.2.2 u.1 (List.mem_map.mpr ⟨u,hu,rfl⟩) t.1 (by simp) e
  rw [List.foldl_cons,e,ih (by rw [List.append_assoc]; exact h)]
  simp
theorem zrm{l:Pq β}(h:NdK l):dcP l=l:=ztn (acc:=[]) h
theorem zhy{g:α->D}{b:α->Bool}{k:α->List Int}{v:α->β}{as:List α}{Q:List (List Key×D)×En->Prop}(hz:as.length<=16777216)
  (st:∀ a∈as,∀ ys:Pq β,Wo (mg (g a) ρ) (Co mt ⟨0⟩ (zwJ nt mk mv (kvG c ys) fun ρ' zs=>ρ'=ρ/\zs=kvG c (if b a=true then zaZ ys (k a) (v a)else ys))))
  (q:Q (kvG c (dcP ((as.filter b).map fun a=>(k a,v a))),ρ)):Wo (dcM nt mg mt mk mv (as.map g) ρ []) Q:=by
 have main:∀ (es:List α) (acc:Pq β),(∀ a∈es,a∈as)->acc.length+es.length<=16777216->Q (kvG c (((es.filter b).map fun a=>(k a,v a)).foldl (fun ys t=>zaZ ys t.1 t.2) acc),ρ)->Wo (dcM nt mg mt mk mv (es.map g) ρ (kvG c acc)) Q:=by
  intro es
  induction es with
  | nil=>intro acc _ _ q; exact⟨_,rfl,q⟩
  | cons a es ih =>
   intro acc hm hl q
   rw [qt]at hl
   obtain⟨ρ1,e1,⟨bb,ρ2⟩,e2,kk⟩:=st a (hm a qo) acc
   rw [List.map_cons]
   unfold dcM
   rw [if_pos (by rw [zqV]; show _ < 16777216; omega),zu]
   refine⟨ρ1,e1,?_⟩
   rw [zdC,zu]
   refine⟨_,e2,?_⟩
   rw [zdC]
   rw [List.filter_cons]at q
   have pl:=zjf acc (k a) (v a)
   cases bb with
   | false =>
    obtain⟨e3,e4⟩:=kk
    rw [if_neg qf,e3,e4]
    by_cases hb:b a=true
    ·rw [if_pos hb]
     rw [if_pos hb]at q
     exact ih _ (fun x hx=>hm x (qm _ hx)) (by omega) q
    ·rw [if_neg hb]
     rw [if_neg hb]at q
     exact ih _ (fun x hx=>hm x (qm _ hx)) (by omega) q
   | true =>
    rw [if_pos rfl,zu]
    obtain⟨p,e3,kk⟩:=kk
    refine⟨p,e3,?_⟩
    rw [zdC]
    obtain⟨z,e4,e5,e6⟩:=kk
    obtain⟨q1,f1,e4⟩:=zb e4
    obtain⟨uk,f2,e4⟩:=zb e4
    obtain⟨uv,f3,e4⟩:=zb e4
    obtain⟨dk,f4,e4⟩:=zb e4
    obtain⟨dv,f5,e4⟩:=zb e4
    obtain⟨kk,f6,e4⟩:=zb e4
    cases e4
    rw [f1,bd,f2,bd,f3,bd,f4,bd,f5,bd,f6,bd]
    dsimp only at e5 e6
    rw [e5,e6]
    by_cases hb:b a=true
    ·rw [if_pos hb]
     rw [if_pos hb]at q
     exact ih _ (fun x hx=>hm x (qm _ hx)) (by omega) q
    ·rw [if_neg hb]
     rw [if_neg hb]at q
     exact ih _ (fun x hx=>hm x (qm _ hx)) (by omega) q
 exact main as [] (fun _ h=>h) (by simpa using hz) q
theorem zrn{n:Str}{fl:List Str}:Wo (zos n fl mA ρ) QE=Wo (mA ρ) (Co (fun p=>(zbc p.2 p.1).bind fun us=>(zcV us).bind fun ds=>if ds.length=fl.length then some (.u (.d (zlZ n fl ds)),p.2)else none) ⟨0⟩ QE):=by
 unfold zos
 rw [zu]
def fmD(p:Pq Int)(b r:Int):D:=zlZ "Form" ["numbers", "beneath", "room"] [.dict (dcG .int p),.int b,.int r]
theorem zro{p:Pq Int}{b r:Int}:zlZ "Form" ["numbers", "beneath", "room"] [.dict (dcG .int p),.int b,.int r]=fmD p b r:=id rfl
theorem zrp{p:Pq Int}{b r:Int}:zby "Form" "numbers" (.d (fmD p b r))=some (.d (.dict (dcG .int p))):=by
 unfold fmD zlZ
 simp [zby,mkF,zlB]
theorem zrq{p:Pq Int}{b r:Int}:zby "Form" "beneath" (.d (fmD p b r))=some (.d (.int b)):=by
 unfold fmD zlZ
 simp only [zby,mkF,zlB,if_true]
 rw [if_neg (by decide)]
 rfl
theorem zrr{p:Pq Int}{b r:Int}:zby "Form" "room" (.d (fmD p b r))=some (.d (.int r)):=by
 unfold fmD zlZ
 simp only [zby,mkF,zlB,if_true]
 rw [if_neg (by decide),if_neg (by decide)]
 rfl
def zrs:U->Option Bool
 | .t kvs=>some (!kvs.isEmpty)
 | _=>none
theorem znj:Wo (zkC ma ρ) QT=Wo (ma ρ) (Co (fun p=>(p.1.get p.2).bind fun u=>(zrs u).bind fun b=>some (b,p.2)) ⟨0⟩ QT):=by
 have e:zkC ma ρ=(ma ρ).bind fun p=>(p.1.get p.2).bind fun u=>(zrs u).bind fun b=>some (b,p.2):=by
  unfold zkC
  congr 1
  funext p
  congr 1
  funext u
  cases u<;>rfl
 rw [e,zu]
theorem znk{p:Pq β}:zrs (.t (kvG c p))=some (!p.isEmpty):=by
 show some (!(kvG c p).isEmpty)=_
 unfold kvG
 rw [List.isEmpty_map]
theorem zkF{p:Pq β}:zng (.d (.dict (dcG c p)))=some (p.map fun t=>c t.2):=by
 show(if noX (dcG c p)=true then _ else _)=_
 rw [if_pos (zhu p)]
 unfold dcG
 rw [List.map_map]
 rfl
theorem znl{i:Int}:zkB (.d (.int i))=some (.d (.int (zfL i))):=id rfl
theorem znm:Wo (zfM mA ρ) QE=Wo (mA ρ) (Co (fun p=>(zbc p.2 p.1).bind fun us=>(ztm us).bind fun u=>some (.u u,p.2)) ⟨0⟩ QE):=by
 unfold zfM
 rw [zu]
theorem zjn{j:Int}(h:j < 1000)(h2:-1000 < j):ztm [.d (.int j)]=some (.d (pwD ((List.range j.toNat).map fun i:Nat=>(i:Int)))):=by
 have hs:sizeLine=16777216:=rfl
 show(if _ then _ else _)=_
 rw [if_pos ⟨⟨by omega,by omega⟩,by omega⟩]
 unfold zaR pwD
 rw [List.map_map]
 congr 3
 simp [Function.comp_def]
theorem zhz{ks:List Int}(h:ks.length < 64):zjm (.d (pwD ks))=some (.l ((za4 ks).map .int)):=by
 show(zfr (ks.map PyData.int)).bind _=_
 rw [zf8,bd,if_pos h]
theorem zfN{ks:List Int}(h:ks.length < 64):zco (.l (ks.map .int))=some (.d (pwD ks)):=by
 have hs:sizeLine=16777216:=rfl
 first | rfl | (unfold zco; simp; unfold pwD; rfl)
end
end L2
namespace K45
open PySem L2
def top(i:Nat):Stmt:=PySem.Challenge.pw_undivide_k45_signed_sums.main.body.getD i (.Pass ⟨0,0,0,0⟩)
abbrev zaT:Stmt:=top 3
theorem zdF:FnScope ["one", "other"] ["one", "other"] (zn zaT):=⟨rfl,rfl,rfl,by decide +kernel,rfl,by decide +kernel,by decide +kernel⟩
abbrev zcq:Stmt:=top 4
theorem zec:FnScope ["n", "d", "factor"] ["n", "d"] (zn zcq):=⟨rfl,rfl,rfl,by decide +kernel,rfl,by decide +kernel,by decide +kernel⟩
abbrev zbh:Stmt:=top 6
theorem zhA:FnScope ["one", "other"] ["one", "other"] (zn zbh):=⟨rfl,rfl,rfl,by decide +kernel,rfl,by decide +kernel,by decide +kernel⟩
abbrev zcO:Stmt:=top 10
theorem zb0:FnScope ["numbers", "beneath", "room", "kept", "factor", "many", "lowest"] ["numbers", "beneath", "room"] (zn zcO):=⟨rfl,rfl,rfl,by decide +kernel,rfl,by decide +kernel,by decide +kernel⟩
abbrev zcr:Stmt:=top 11
theorem zba:FnScope ["one", "other", "f", "beneath", "factor", "first", "second", "sums", "product", "many"] ["one", "other", "f"] (zn zcr):=⟨rfl,rfl,rfl,by decide +kernel,rfl,by decide +kernel,by decide +kernel⟩
abbrev zaq:Stmt:=top 12
theorem zev:FnScope ["f", "many_letters"] ["f", "many_letters"] (zn zaq):=⟨rfl,rfl,rfl,by decide +kernel,rfl,by decide +kernel,by decide +kernel⟩
abbrev zar:Stmt:=top 13
theorem zew:FnScope ["k", "many_letters"] ["k", "many_letters"] (zn zar):=⟨rfl,rfl,rfl,by decide +kernel,rfl,by decide +kernel,by decide +kernel⟩
abbrev zaA:Stmt:=top 14
theorem zae:FnScope ["one", "other", "sums", "powers", "many", "others", "more", "both"] ["one", "other"] (zn zaA):=⟨rfl,rfl,rfl,by decide +kernel,rfl,by decide +kernel,by decide +kernel⟩
abbrev za5:Stmt:=top 15
theorem zgw:FnScope ["form"] ["form"] (zn za5):=⟨rfl,rfl,rfl,by decide +kernel,rfl,by decide +kernel,by decide +kernel⟩
abbrev zb7:Stmt:=top 17
theorem zjo:FnScope ["form", "letter", "many_letters"] ["form", "letter", "many_letters"] (zn zb7):=⟨rfl,rfl,rfl,by decide +kernel,rfl,by decide +kernel,by decide +kernel⟩
abbrev zbK:Stmt:=top 19
theorem zG:FnScope ["table", "letters", "rows", "many", "nought", "ahead", "row", "behind", "taken", "form", "column", "f", "letter", "is_odd", "signed", "both"] ["table"] (zn zbK):=⟨rfl,rfl,rfl,by decide +kernel,rfl,by decide +kernel,by decide +kernel⟩
abbrev zb8:Stmt:=top 21
theorem zcd:FnScope ["_law_script", "_law_k", "_law_cell", "_law_seed"] ["_law_script", "_law_k"] (zn zb8):=⟨rfl,rfl,rfl,by decide +kernel,rfl,by decide +kernel,by decide +kernel⟩
abbrev zbL:Stmt:=top 22
theorem zdk:FnScope ["_law_box_here", "_law_wide", "_law_digit", "_law_one"] ["_law_box_here", "_law_wide"] (zn zbL):=⟨rfl,rfl,rfl,by decide +kernel,rfl,by decide +kernel,by decide +kernel⟩
abbrev zbi:Stmt:=top 23
theorem zW:FnScope ["_law_box_here", "_law_many", "_law_alphabet", "_law_signs", "_law_spot", "_law_first", "_law_found", "_law_k", "_law_one", "_law_name", "_law_odd"] ["_law_box_here", "_law_many"] (zn zbi):=⟨rfl,rfl,rfl,by decide +kernel,rfl,by decide +kernel,by decide +kernel⟩
abbrev zaM:Stmt:=top 24
theorem zaV:FnScope ["_law_n", "_law_d", "_law_one", "_law_two"] ["_law_n", "_law_d"] (zn zaM):=⟨rfl,rfl,rfl,by decide +kernel,rfl,by decide +kernel,by decide +kernel⟩
abbrev zbM:Stmt:=top 25
theorem zhU:FnScope ["_law_one", "_law_other"] ["_law_one", "_law_other"] (zn zbM):=⟨rfl,rfl,rfl,by decide +kernel,rfl,by decide +kernel,by decide +kernel⟩
abbrev zbj:Stmt:=top 26
theorem zhB:FnScope ["_law_one", "_law_other"] ["_law_one", "_law_other"] (zn zbj):=⟨rfl,rfl,rfl,by decide +kernel,rfl,by decide +kernel,by decide +kernel⟩
abbrev zaN:Stmt:=top 27
theorem zaB:FnScope ["_law_one", "_law_other", "_law_sign", "_law_found", "_law_powers", "_law_more", "_law_kept"] ["_law_one", "_law_other", "_law_sign"] (zn zaN):=⟨rfl,rfl,rfl,by decide +kernel,rfl,by decide +kernel,by decide +kernel⟩
abbrev zaC:Stmt:=top 28
theorem zZ:FnScope ["_law_one", "_law_other", "_law_found", "_law_left", "_law_right", "_law_powers", "_law_more", "_law_kept"] ["_law_one", "_law_other"] (zn zaC):=⟨rfl,rfl,rfl,by decide +kernel,rfl,by decide +kernel,by decide +kernel⟩
abbrev zam:Stmt:=top 29
theorem zed:FnScope ["_law_many", "_law_f"] ["_law_many", "_law_f"] (zn zam):=⟨rfl,rfl,rfl,by decide +kernel,rfl,by decide +kernel,by decide +kernel⟩
abbrev zaD:Stmt:=top 30
theorem ze6:FnScope ["_law_sums"] ["_law_sums"] (zn zaD):=⟨rfl,rfl,rfl,by decide +kernel,rfl,by decide +kernel,by decide +kernel⟩
abbrev zaO:Stmt:=top 31
theorem zde:FnScope ["_law_box_here", "_law_kind"] ["_law_box_here"] (zn zaO):=⟨rfl,rfl,rfl,by decide +kernel,rfl,by decide +kernel,by decide +kernel⟩
abbrev zbk:Stmt:=top 32
theorem zce:FnScope ["_law_box_here", "_law_many", "_law_may_be_nought", "_law_f", "_law_k"] ["_law_box_here", "_law_many", "_law_may_be_nought"] (zn zbk):=⟨rfl,rfl,rfl,by decide +kernel,rfl,by decide +kernel,by decide +kernel⟩
abbrev zas:Stmt:=top 33
theorem zbS:FnScope ["_law_entry_here", "_law_many", "_law_f", "_law_letter"] ["_law_entry_here", "_law_many"] (zn zas):=⟨rfl,rfl,rfl,by decide +kernel,rfl,by decide +kernel,by decide +kernel⟩
abbrev zbl:Stmt:=top 34
theorem zal:FnScope ["_law_box_here", "_law_letters", "_law_most", "_law_many", "_law_kind", "_law_rows", "_law_k", "_law_row", "_law_j", "_law_entry_here"] ["_law_box_here", "_law_letters", "_law_most"] (zn zbl):=⟨rfl,rfl,rfl,by decide +kernel,rfl,by decide +kernel,by decide +kernel⟩
abbrev za6:Stmt:=top 35
theorem zab:FnScope ["_law_many", "_law_found", "_law_k", "_law_longer", "_law_order", "_law_sign", "_law_place", "_law_other"] ["_law_many"] (zn za6):=⟨rfl,rfl,rfl,by decide +kernel,rfl,by decide +kernel,by decide +kernel⟩
abbrev zat:Stmt:=top 36
theorem zE:FnScope ["_law_table_here", "_law_letters", "_law_rows", "_law_found", "_law_order", "_law_sign", "_law_part", "_law_row", "_law_column"] ["_law_table_here"] (zn zat):=⟨rfl,rfl,rfl,by decide +kernel,rfl,by decide +kernel,by decide +kernel⟩
abbrev zfO:Stmt:=top 37
theorem zge:FnScope ["_law_script", "_law_tables", "_law_k", "_law_box_here", "_law_table_here", "_law_heard"] ["_law_script"] (zn zfO):=⟨rfl,rfl,rfl,by decide +kernel,rfl,by decide +kernel,by decide +kernel⟩
def zcf:List (Str×List Str):=[]
abbrev xfl:List Str:=[]
def zwK:Stmt->Stmt
 | .ClassDef _ _ _ (b::_) _ _ _ _ _ _ _=>b
 | s=>s
abbrev zfP:Stmt:=zwK (top 9)
theorem zrt:FnScope ["self", "numbers", "beneath", "room"] ["self", "numbers", "beneath", "room"] (zn zfP):=⟨rfl,rfl,rfl,by decide +kernel,rfl,by decide +kernel,by decide +kernel⟩
section
variable {P:Program} {w:World} {K:qc} {mg:Str->Option Value} {base:Heap} {f:Addr} {fd:FuncData}
noncomputable def zcJ:MS:=(zF (zeY (zpw (zi 1)) (zn3 0 1 (zf (zi 1) (zf (mOp zeU (zi 0) (zi 1)) zr))))
  (zbB (zi 0)))
noncomputable def zO:FD:=zbZ 2 [] zcJ
theorem zgf(F:Fun K "common_factor" "common_factor" zaT f fd)(hB:Bl mg ["abs", "tuple", "zip", "max", "sorted", "len", "enumerate", "range", "int", "dict", "min", "isinstance"])(hT:XT K zcf xfl):FnOk P w K mg base CX0 1 f fd ["one", "other"] (spV K 2 zO) :=
 F.okV (n:=2) (nn:=2) (pn:=[]) (m:=zcJ) zdF rfl rfl (by decide) fun cdv A outer s H E hr=>⟨_,(w_s (zmk PassesOwn.never (ztN K rfl (w_v 1)) (zX (zpl (i:=0) (j:=1) rfl zdF.nd rfl rfl (by decide) rfl rfl (w_a (w_v 1) (w_a (zJ zcC (w_v 0) (w_v 1)) zj)) rfl)))
  (zX (zax (w_v 0)))),
  (zv (zmt (zpx (ze 1)) (zpC (by decide) (by decide) (zd (ze 1) (zd (zt zcF (ze 0) (ze 1)) zk))))
  (zaK (ze 0)))⟩
noncomputable def zdl:MS:=(zbB (mCB (f1 zco) (zf (mLC (zqF (zf (zi 0) (zf (zi 1) zr))) 2 [] (zbC 2 (zV (zB 0) (zV (zB 1) zbV))) zhj (mOp zcS (zi 0) (zi 1))) zr)))
noncomputable def zbm:FD:=zbZ 2 [0,1] zdl
theorem zhC(F:Fun K "powers_plus" "powers_plus" zbh f fd)(hB:Bl mg ["abs", "tuple", "zip", "max", "sorted", "len", "enumerate", "range", "int", "dict", "min", "isinstance"])(hT:XT K zcf xfl):FnOk P w K mg base CX0 1 f fd ["one", "other"] (spV K 2 zbm) :=
 F.okV (n:=2) (nn:=2) (pn:=[0,1]) (m:=zdl) zhA rfl rfl (by decide) fun cdv A outer s H E hr=>⟨_,(zX (zax (zfm (zbH K rfl) rfl (hB "tuple" (by decide)) PyProof.Rows.boot_tuple (w_a (znU 2 ["first", "second"] rfl rfl ⟨rfl,by decide,by decide,by decide,by decide⟩ .nil rfl (zlH K rfl rfl (hB "zip" (by decide)) (w_a (w_v 0) (w_a (w_v 1) zj))) (fun _ _ _ _=>(zbu K rfl rfl (w_g (zy (i:=0) (by show List.Nodup (["first", "second"]:List Str); decide) rfl (by first | exact Or.inl rfl | exact Or.inr rfl)) (w_g (zy (i:=1) (by show List.Nodup (["first", "second"]:List Str); decide) rfl (by first | exact Or.inl rfl | exact Or.inr rfl)) zbt)))) (zir (zeo (zaS (i:=0) (by decide) (zaS (i:=1) (by decide) zdB)))) (fun _ _ _ _=>zdY) (fun _ _ _ _=>(zJ zaX (w_v 0) (w_v 1)))) zj)))),
  (zaK (zbz zcb (zd (zlv (nt:=2) (js:=[]) (by decide) (zlJ (zd (ze 0) (zd (ze 1) zk))) (zbw (zK (zz (by decide)) (zK (zz (by decide)) zbv))) zd6 (zt zaY (ze 0) (ze 1))) zk)))⟩
noncomputable def zee:MS:=(zF (zY 2 (mOp zcS (mOp zet (mC (.int 7919)) (zi 1)) (mC (.int 11))))
  (zF (zcL (mB (mOp fLt (zi 1) (mCB (f1 zeu) (zf (zi 0) zr)))) (zY 2 (mOp zfq (zi 0) (zi 1))) (zcL (mB (mOp fGt (mCB (f1 zeu) (zf (zi 0) zr)) (mC (.int 0)))) (zY 2 (mOp zcS (zi 2) (mOp zet (mOp zeU (mOp zfq (zi 0) (mOp zeU (zi 1) (mCB (f1 zeu) (zf (zi 0) zr)))) (mC (.int 2147483629))) (mC (.int 69623))))) zbA))
  (zF (zY 3 (mOp zcS (mOp zeU (mOp zcS (mOp zet (mOp zeU (zi 2) (mC (.int 2147483629))) (mC (.int 48271))) (mOp zet (mC (.int 40692)) (zi 1))) (mC (.int 2147483629))) (mC (.int 1))))
  (zbB (zf2 (zf (mOp zet (zi 2) (mCB (f1 zjW) (zf (mOp fGe (zi 2) (mOp zsF (mC (.int 10)) (mC (.int 18)))) zr))) (zf (zi 3) zr)))))))
noncomputable def zb9:FD:=zbZ 4 [0,1] zee
theorem zjp(F:Fun K "_law_box" "_law_box" zb8 f fd)(hB:Bl mg ["abs", "tuple", "zip", "max", "sorted", "len", "enumerate", "range", "int", "dict", "min", "isinstance"])(hT:XT K zcf xfl):FnOk P w K mg base CX0 1 f fd ["_law_script", "_law_k"] (spV K 2 zb9) :=
 F.okV (n:=2) (nn:=4) (pn:=[0,1]) (m:=zee) zcd rfl rfl (by decide) fun cdv A outer s H E hr=>⟨_,(w_s (zH (i:=2) zcd.nd rfl (by first | exact Or.inl rfl | exact Or.inr rfl) (zJ zaX (zJ zcB zq (w_v 1)) zq))
  (w_s (zeN (zdx (zap zjE (w_v 1) (zcD (zdS K rfl) rfl (hB "len" (by decide)) PySem.boot_len (w_a (w_v 0) zj)) (zaH _)) (zX (zH (i:=2) zcd.nd rfl (by first | exact Or.inl rfl | exact Or.inr rfl) (zbs (zeG K rfl) (w_v 0) (w_v 1) (fun _ _=>rfl)))) (zX (zdx (zap zoO (zcD (zdS K rfl) rfl (hB "len" (by decide)) PySem.boot_len (w_a (w_v 0) zj)) zq (zaH _)) (zX (zH (i:=2) zcd.nd rfl (by first | exact Or.inl rfl | exact Or.inr rfl) (zJ zaX (w_v 2) (zJ zcB (zJ zcC (zbs (zeG K rfl) (w_v 0) (zJ zcC (w_v 1) (zcD (zdS K rfl) rfl (hB "len" (by decide)) PySem.boot_len (w_a (w_v 0) zj))) (fun _ _=>rfl)) zq) zq)))) zbb))))
  (w_s (zH (i:=3) zcd.nd rfl (by first | exact Or.inl rfl | exact Or.inr rfl) (zJ zaX (zJ zcC (zJ zaX (zJ zcB (zJ zcC (w_v 2) zq) zq) (zJ zcB zq (w_v 1))) zq) zq))
  (zX (zax (zeF (w_a (zJ zcB (w_v 2) (zfm zh8 rfl (hB "int" (by decide)) PyProof.Rows.boot_int (w_a (ztK zw8 (w_v 2) (zJ zvj zq zq) (zaH _)) zj))) (w_a (w_v 3) zj)))))))),
  (zv (zD (by decide) (zt zaY (zt zcE zo (ze 1)) zo))
  (zv (zeW (zb6 (zaa (zt zjU (ze 1) (zbz zcH (zd (ze 0) zk)))) (zD (by decide) (zt zdi (ze 0) (ze 1))) (zb6 (zaa (zt zpr (zbz zcH (zd (ze 0) zk)) zo)) (zD (by decide) (zt zaY (ze 2) (zt zcE (zt zcF (zt zdi (ze 0) (zt zcF (ze 1) (zbz zcH (zd (ze 0) zk)))) zo) zo))) zbd)))
  (zv (zD (by decide) (zt zaY (zt zcF (zt zaY (zt zcE (zt zcF (ze 2) zo) zo) (zt zcE zo (ze 1))) zo) zo))
  (zaK (zeI (zd (zt zcE (ze 2) (zbz zmo (zd (zt zxs (ze 2) (zt zvT zo zo)) zk))) (zd (ze 3) zk)))))))⟩
noncomputable def zdP:MS:=(zF (zcL (mB (mOp fGt (mOp zfq (zi 0) (mC (.int 0))) (mC (.int 0)))) (zF (zY 2 (mOp zeU (mOp zfq (zi 0) (mC (.int 0))) (zi 1)))
  (zF (zeZ 0 (mOp zhd (mOp zfq (zi 0) (mC (.int 0))) (zi 1)) (mC (.int 0)))
  (zbB (zi 2)))) zbA)
  (zF (zY 3 (mOp zeU (mOp zet (mOp zfq (zi 0) (mC (.int 1))) (mC (.int 69623))) (mC (.int 2147483647))))
  (zF (zeZ 0 (mOp zcS (mOp zeU (mOp zcS (mOp zet (zi 3) (mC (.int 48271))) (mC (.int 30103))) (mC (.int 2147483629))) (mC (.int 1))) (mC (.int 1)))
  (zbB (mOp zeU (mOp zhd (mOp zcS (mOp zet (zi 3) (mC (.int 2147483647))) (mOp zfq (zi 0) (mC (.int 1)))) (mC (.int 8191))) (zi 1))))))
noncomputable def zw:FD:=zbZ 4 [0,1] zdP
theorem zhV(F:Fun K "_law_take" "_law_take" zbL f fd)(hB:Bl mg ["abs", "tuple", "zip", "max", "sorted", "len", "enumerate", "range", "int", "dict", "min", "isinstance"])(hT:XT K zcf xfl):FnOk P w K mg base CX0 1 f fd ["_law_box_here", "_law_wide"] (spV K 2 zw) :=
 F.okV (n:=2) (nn:=4) (pn:=[0,1]) (m:=zdP) zdk rfl rfl (by decide) fun cdv A outer s H E hr=>⟨_,(w_s (zdx (zap zoO (zbs (zeG K rfl) (w_v 0) zq (fun _ _=>rfl)) zq (zaH _)) (w_s (zH (i:=2) zdk.nd rfl (by first | exact Or.inl rfl | exact Or.inr rfl) (zJ zcC (zbs (zeG K rfl) (w_v 0) zq (fun _ _=>rfl)) (w_v 1)))
  (w_s (zii (zJ zfl (zbs (zeG K rfl) (w_v 0) zq (fun _ _=>rfl)) (w_v 1)) (zlf (w_v 0) zq zg0))
  (zX (zax (w_v 2))))) zbb)
  (w_s (zH (i:=3) zdk.nd rfl (by first | exact Or.inl rfl | exact Or.inr rfl) (zJ zcC (zJ zcB (zbs (zeG K rfl) (w_v 0) zq (fun _ _=>rfl)) zq) zq))
  (w_s (zii (zJ zaX (zJ zcC (zJ zaX (zJ zcB (w_v 3) zq) zq) zq) zq) (zlf (w_v 0) zq zg0))
  (zX (zax (zJ zcC (zJ zfl (zJ zaX (zJ zcB (w_v 3) zq) (zbs (zeG K rfl) (w_v 0) zq (fun _ _=>rfl))) zq) (w_v 1))))))),
  (zv (zb6 (zaa (zt zpr (zt zdi (ze 0) zo) zo)) (zv (zD (by decide) (zt zcF (zt zdi (ze 0) zo) (ze 1)))
  (zv (zi4 (i:=0) (zt zgE (zt zdi (ze 0) zo) (ze 1)) zo)
  (zaK (ze 2)))) zbd)
  (zv (zD (by decide) (zt zcF (zt zcE (zt zdi (ze 0) zo) zo) zo))
  (zv (zi4 (i:=0) (zt zaY (zt zcF (zt zaY (zt zcE (ze 3) zo) zo) zo) zo) zo)
  (zaK (zt zcF (zt zgE (zt zaY (zt zcE (ze 3) zo) (zt zdi (ze 0) zo)) zo) (ze 1))))))⟩
noncomputable def zcs:MS:=(zF (zY 2 (mCB (f1 zlq) (zf (zi 0) zr)))
  (zF (zY 3 (mCB (f1 zlq) (zf (zi 1) zr)))
  (zF (zeY (mB (mOp (zdA true) (zi 3) (mC (.int 0)))) (zn3 2 3 (zf (zi 3) (zf (mOp zeU (zi 2) (zi 3)) zr))))
  (zF (zcL (mB (mOp fLt (zi 1) (mC (.int 0)))) (zY 2 (mOp ziX (mC (.int 0)) (zi 2))) zbA)
  (zbB (zbg (zf (mOp zgm (zi 0) (zi 2)) (zf (mOp zgm (zi 1) (zi 2)) zr))))))))
noncomputable def zQ:FD:=zbZ 4 [0,1] zcs
theorem zfQ(F:Fun K "_law_fraction" "_law_fraction" zaM f fd)(hB:Bl mg ["abs", "tuple", "zip", "max", "sorted", "len", "enumerate", "range", "int", "dict", "min", "isinstance"])(hT:XT K zcf xfl):FnOk P w K mg base CX0 1 f fd ["_law_n", "_law_d"] (spV K 2 zQ) :=
 F.okV (n:=2) (nn:=4) (pn:=[0,1]) (m:=zcs) zaV rfl rfl (by decide) fun cdv A outer s H E hr=>⟨_,(w_s (zH (i:=2) zaV.nd rfl (by first | exact Or.inl rfl | exact Or.inr rfl) (zcD zfh rfl (hB "abs" (by decide)) PyProof.Rows.boot_abs (w_a (w_v 0) zj)))
  (w_s (zH (i:=3) zaV.nd rfl (by first | exact Or.inl rfl | exact Or.inr rfl) (zcD zfh rfl (hB "abs" (by decide)) PyProof.Rows.boot_abs (w_a (w_v 1) zj)))
  (w_s (zmk PassesOwn.never (zap zma (w_v 3) zq (zaH _)) (zX (zpl (i:=2) (j:=3) rfl zaV.nd rfl rfl (by decide) rfl rfl (w_a (w_v 3) (w_a (zJ zcC (w_v 2) (w_v 3)) zj)) rfl)))
  (w_s (zeN (zdx (zap zjE (w_v 1) zq (zaH _)) (zX (zH (i:=2) zaV.nd rfl (by first | exact Or.inl rfl | exact Or.inr rfl) (zJ zeL zq (w_v 2)))) zbb))
  (zX (zax (zay (w_a (zJ zdw (w_v 0) (w_v 2)) (w_a (zJ zdw (w_v 1) (w_v 2)) zj))))))))),
  (zv (zD (by decide) (zbz ziY (zd (ze 0) zk)))
  (zv (zD (by decide) (zbz ziY (zd (ze 1) zk)))
  (zv (zmt (zaa (zt zja (ze 3) zo)) (zpC (by decide) (by decide) (zd (ze 3) (zd (zt zcF (ze 2) (ze 3)) zk))))
  (zv (zeW (zb6 (zaa (zt zjU (ze 1) zo)) (zD (by decide) (zt zeV zo (ze 2))) zbd))
  (zaK (zaz (zd (zt zel (ze 0) (ze 2)) (zd (zt zel (ze 1) (ze 2)) zk))))))))⟩
noncomputable def zbT:MS:=(zF (zcL (mB (mOp (zdA false) (mOp zca (zi 1) (mC (.int 0))) (mC (.int 0)))) (zbB zcX) zbA)
  (zbB (ze4 (mOp zgr (zbg (zf (mC (.int 0)) zr)) (zi 0)) (zi 1))))
noncomputable def zan:FD:=zbZ 2 [0,1] zbT
theorem zef(F:Fun K "_law_poly_number" "_law_poly_number" zam f fd)(hB:Bl mg ["abs", "tuple", "zip", "max", "sorted", "len", "enumerate", "range", "int", "dict", "min", "isinstance"])(hT:XT K zcf xfl):FnOk P w K mg base CX0 1 f fd ["_law_many", "_law_f"] (spV K 2 zan) :=
 F.okV (n:=2) (nn:=2) (pn:=[0,1]) (m:=zbT) zed rfl rfl (by decide) fun cdv A outer s H E hr=>⟨_,(w_s (zdx (zap zgh (zbs (zbx K rfl) (w_v 1) zq (fun _ _=>rfl)) zq (zaH _)) (zX (zax zc5)) zbb)
  (zX (zax (zfJ hr (zJ (zgO K rfl) (zay (w_a zq zj)) (w_v 0)) (w_v 1))))),
  (zv (zb6 (zaa (zt zd7 (zt zaI (ze 1) zo) zo)) (zaK zda) zbd)
  (zaK (zfK (zt zgP (zaz (zd zo zk)) (ze 0)) (ze 1))))⟩
noncomputable def zcg:MS:=(zbB (mCB (f1 zco) (zf (mCB (f1 zi8) (zf (mLC (mIt zfz (mFz (zi 0))) 1 [0] (zB 0) zhj (zbg (zf (zi 0) (zf (zc9 (zi 1) (zi 0)) zr)))) zr)) zr)))
noncomputable def zaE:FD:=zbZ 1 [0] zcg
theorem ze7(F:Fun K "_law_poly_told" "_law_poly_told" zaD f fd)(hB:Bl mg ["abs", "tuple", "zip", "max", "sorted", "len", "enumerate", "range", "int", "dict", "min", "isinstance"])(hT:XT K zcf xfl):FnOk P w K mg base CX0 1 f fd ["_law_sums"] (spV K 1 zaE) :=
 F.okV (n:=1) (nn:=1) (pn:=[0]) (m:=zcg) ze6 rfl rfl (by decide) fun cdv A outer s H E hr=>⟨_,(zX (zax (zfm (zbH K rfl) rfl (hB "tuple" (by decide)) PyProof.Rows.boot_tuple (w_a (zcD (zhc K rfl hr) rfl (hB "sorted" (by decide)) PyProof.Rows.boot_sorted (w_a (znU 1 ["_law_powers"] rfl rfl ⟨rfl,by decide,by decide,by decide,by decide⟩ (.cons (j:=0) rfl (.inl rfl) rfl .nil) rfl (zdz (zcT K rfl (w_v 0))) (fun _ _ _ _=>(zy (i:=0) (by show List.Nodup (["_law_powers", "_law_sums"]:List Str); decide) rfl (by first | exact Or.inl rfl | exact Or.inr rfl))) (zgC (by decide)) (fun _ _ _ _=>zdY) (fun _ _ _ _=>(zay (w_a (w_v 0) (w_a (zdJ hr (w_v 1) (w_v 0)) zj))))) zj)) zj)))),
  (zaK (zbz zcb (zd (zbz zj4 (zd (zlv (nt:=1) (js:=[0]) (by decide) (zen (zcU (ze 0))) (zz (by decide)) zd6 (zaz (zd (ze 0) (zd (zdN (ze 1) (ze 0)) zk)))) zk)) zk)))⟩
noncomputable def zb1:MS:=(zF (zlt (zi 0) (zbC 2 (zV (zB 2) (zV (zB 3) zbV))))
  (zF (zcL (mB (mOp (zdA false) (mOp zca (zi 2) (mC (.int 0))) (mC (.int 0)))) (zbB zcX) zbA)
  (zbB (ze4 (mCB (f1 zco) (zf (mLC (zd2 (zf (zi 1) zr)) 1 [3] (zB 0) zhj (mCB (f1 zjW) (zf (mOp (zdA false) (zi 0) (zi 1)) zr))) zr)) (zi 2)))))
noncomputable def zau:FD:=zbZ 4 [0,1] zb1
theorem zex(F:Fun K "_law_entry_poly" "_law_entry_poly" zas f fd)(hB:Bl mg ["abs", "tuple", "zip", "max", "sorted", "len", "enumerate", "range", "int", "dict", "min", "isinstance"])(hT:XT K zcf xfl):FnOk P w K mg base CX0 1 f fd ["_law_entry_here", "_law_many"] (spV K 2 zau) :=
 F.okV (n:=2) (nn:=4) (pn:=[0,1]) (m:=zb1) zbS rfl rfl (by decide) fun cdv A outer s H E hr=>⟨_,(w_s (zii (w_v 0) (zbu K rfl rfl (w_g (zy (i:=2) zbS.nd rfl (by first | exact Or.inl rfl | exact Or.inr rfl)) (w_g (zy (i:=3) zbS.nd rfl (by first | exact Or.inl rfl | exact Or.inr rfl)) zbt))))
  (w_s (zdx (zap zgh (zbs (zbx K rfl) (w_v 2) zq (fun _ _=>rfl)) zq (zaH _)) (zX (zax zc5)) zbb)
  (zX (zax (zfJ hr (zfm (zbH K rfl) rfl (hB "tuple" (by decide)) PyProof.Rows.boot_tuple (w_a (znU 1 ["_law_k"] rfl rfl ⟨rfl,by decide,by decide,by decide,by decide⟩ (.cons (j:=3) rfl (.inl rfl) rfl .nil) rfl (zcy rfl (hB "range" (by decide)) (w_a (w_v 1) zj)) (fun _ _ _ _=>(zy (i:=0) (by show List.Nodup (["_law_k", "_law_letter"]:List Str); decide) rfl (by first | exact Or.inl rfl | exact Or.inr rfl))) (zgC (by decide)) (fun _ _ _ _=>zdY) (fun _ _ _ _=>(zfm zh8 rfl (hB "int" (by decide)) PyProof.Rows.boot_int (w_a (ztK zgh (w_v 0) (w_v 1) (zaH _)) zj)))) zj)) (w_v 2)))))),
  (zv (zpB (ze 0) (zbw (zK (zz (by decide)) (zK (zz (by decide)) zbv))))
  (zv (zb6 (zaa (zt zd7 (zt zaI (ze 2) zo) zo)) (zaK zda) zbd)
  (zaK (zfK (zbz zcb (zd (zlv (nt:=1) (js:=[3]) (by decide) (zc6 (zd (ze 1) zk)) (zz (by decide)) zd6 (zbz zmo (zd (zt zd7 (ze 0) (ze 1)) zk))) zk)) (ze 2)))))⟩
noncomputable def zc2:MS:=(zF (zY 1 (zf2 (zf (zbg (zf (zbg zr) (zf (mC (.int 1)) zr))) zr)))
  (zF (zcI (zd2 (zf (zi 0) zr)) (zB 2) (zF (zY 3 (zf2 zr))
  (zF (zcI (mIt zn1 (mFz (zi 1))) (zbC 2 (zV (zB 4) (zV (zB 5) zbV))) (zcI (zd2 (zf (mOp zcS (zi 2) (mC (.int 1))) zr)) (zB 6) (zF (zY 7 (mOp zet (zi 5) (mOp ziX (mC (.int 1)) (mOp zet (mC (.int 2)) (mOp zeU (mOp ziX (zi 2) (zi 6)) (mC (.int 2)))))))
  (zgn (zhQ 3 (zbg (zf (mOp zdO (mOp zdO (mSl zn5 (zi 4) zdb (zgo (zi 6))) (zbg (zf (zi 2) zr))) (mSl zn5 (zi 4) (zgo (zi 6)) zdb)) (zf (zi 7) zr))))))))
  (zY 1 (mFz (zi 3))))))
  (zft [0] 1)))
noncomputable def za7:FD:=zbZ 8 [0] zc2
theorem zgx(F:Fun K "_law_orders" "_law_orders" za6 f fd)(hB:Bl mg ["abs", "tuple", "zip", "max", "sorted", "len", "enumerate", "range", "int", "dict", "min", "isinstance"])(hT:XT K zcf xfl):FnOk P w K mg base CX0 1 f fd ["_law_many"] (spV K 1 za7) :=
 F.okV (n:=1) (nn:=8) (pn:=[0]) (m:=zc2) zab rfl rfl (by decide) fun cdv A outer s H E hr=>⟨_,(w_s (zH (i:=1) zab.nd rfl (by first | exact Or.inl rfl | exact Or.inr rfl) (zeF (w_a (zay (w_a (zay zj) (w_a zq zj))) zj)))
  (w_s (zbO PassesOwn.never rfl (zcy rfl (hB "range" (by decide)) (w_a (w_v 0) zj)) (zy (i:=2) zab.nd rfl (by first | exact Or.inl rfl | exact Or.inr rfl)) (w_s (zH (i:=3) zab.nd rfl (by first | exact Or.inl rfl | exact Or.inr rfl) (zeF zj))
  (w_s (zbO PassesOwn.never rfl (ziS K rfl (zcT K rfl (w_v 1))) (zbu K rfl rfl (w_g (zy (i:=4) zab.nd rfl (by first | exact Or.inl rfl | exact Or.inr rfl)) (w_g (zy (i:=5) zab.nd rfl (by first | exact Or.inl rfl | exact Or.inr rfl)) zbt))) (zX (zbO PassesOwn.never rfl (zcy rfl (hB "range" (by decide)) (w_a (zJ zaX (w_v 2) zq) zj)) (zy (i:=6) zab.nd rfl (by first | exact Or.inl rfl | exact Or.inr rfl)) (w_s (zH (i:=7) zab.nd rfl (by first | exact Or.inl rfl | exact Or.inr rfl) (zJ zcB (w_v 5) (zJ zeL zq (zJ zcB zq (zJ zcC (zJ zeL (w_v 2) (w_v 6)) zq)))))
  (zX (zg7 (zlg K rfl PySem.F.plainAttrs_list PySem.F.slot_list_append PySem.F.type_list_append zdv (w_v 3) (w_a (zay (w_a (zJ (zd8 K rfl) (zJ (zd8 K rfl) (zfp zxy (w_v 4) zfn (zfo (w_v 6))) (zay (w_a (w_v 2) zj))) (zfp zxy (w_v 4) (zfo (w_v 6)) zfn)) (w_a (w_v 7) zj))) zj))))))))
  (zX (zH (i:=1) zab.nd rfl (by first | exact Or.inl rfl | exact Or.inr rfl) (zcT K rfl (w_v 3)))))))
  (zX (zax (w_v 1))))),
  (zv (zD (by decide) (zeI (zd (zaz (zd (zaz zk) (zd zo zk))) zk)))
  (zv (zbP (zc6 (zd (ze 0) zk)) (zz (by decide)) (zv (zD (by decide) (zeI zk))
  (zv (zbP (zi2 (zcU (ze 1))) (zbw (zK (zz (by decide)) (zK (zz (by decide)) zbv))) (zbP (zc6 (zd (zt zaY (ze 2) zo) zk)) (zz (by decide)) (zv (zD (by decide) (zt zcE (ze 5) (zt zeV zo (zt zcE zo (zt zcF (zt zeV (ze 2) (ze 6)) zo)))))
  (zhh (zj0 (i:=3) (zaz (zd (zt zd9 (zt zd9 (zpJ zpK (ze 4) zfA (zfB (ze 6))) (zaz (zd (ze 2) zk))) (zpJ zpK (ze 4) (zfB (ze 6)) zfA)) (zd (ze 7) zk))))))))
  (zD (by decide) (zcU (ze 3))))))
  (zi1 (i:=1))))⟩
noncomputable def ze8:MS:=(zF (zcL (mB (mOp fLt (zi 1) (mC (.int 0)))) (zn3 0 1 (zf (mUn zjV (zi 0)) (zf (mUn zjV (zi 1)) zr))) zbA)
  (zF (zY 2 (zao zO (zf (mCB (f1 zlq) (zf (zi 0) zr)) (zf (zi 1) zr))))
  (zbB (zbg (zf (mOp zhd (zi 0) (zi 2)) (zf (mOp zhd (zi 1) (zi 2)) zr))))))
noncomputable def zct:FD:=zbZ 3 [] ze8
theorem zkG(F:Fun K "fraction" "fraction" zcq f fd)(hB:Bl mg ["abs", "tuple", "zip", "max", "sorted", "len", "enumerate", "range", "int", "dict", "min", "isinstance"])(hT:XT K zcf xfl)(c_common_factor:Cal P w K mg base "common_factor" 1 ["one", "other"] (spV K 2 zO)):FnOk P w K mg base CX0 2 f fd ["n", "d"] (spV K 2 zct) :=
 F.okV (n:=2) (nn:=3) (pn:=[]) (m:=ze8) zec rfl rfl (by decide) fun cdv A outer s H E hr=>⟨_,(w_s (zeN (zdx (zap zjE (w_v 1) zq (zaH _)) (zX (zpl (i:=0) (j:=1) rfl zec.nd rfl rfl (by decide) rfl rfl (w_a (zpe zgV (w_v 0)) (w_a (zpe zgV (w_v 1)) zj)) rfl)) zbb))
  (w_s (zH (i:=2) zec.nd rfl (by first | exact Or.inl rfl | exact Or.inr rfl) (zR c_common_factor (hr.mono (by decide)) rfl (w_a (zcD zfh rfl (hB "abs" (by decide)) PyProof.Rows.boot_abs (w_a (w_v 0) zj)) (w_a (w_v 1) zj))))
  (zX (zax (zay (w_a (zJ zfl (w_v 0) (w_v 2)) (w_a (zJ zfl (w_v 1) (w_v 2)) zj))))))),
  (zv (zeW (zb6 (zaa (zt zjU (ze 1) zo)) (zpC (by decide) (by decide) (zd (zdh zhe (ze 0)) (zd (zdh zhe (ze 1)) zk))) zbd))
  (zv (zD (by decide) (zS (zd (zbz ziY (zd (ze 0) zk)) (zd (ze 1) zk)) (zm (zm zT))))
  (zaK (zaz (zd (zt zgE (ze 0) (ze 2)) (zd (zt zgE (ze 1) (ze 2)) zk))))))⟩
noncomputable def zdm:MS:=(zF (zY 2 (mC (.str "abcdefghijklmnopqrstuvwxyz")))
  (zF (zY 3 (mLC (zd2 (zf (mOp zcS (mC (.int 1)) (zao zw (zf (zi 0) (zf (mC (.int 4)) zr)))) zr)) 1 [0,2] (zB 0) zhj (mOp zlC (zi 2) (zao zw (zf (zi 1) (zf (mC (.int 26)) zr))))))
  (zF (zY 4 (zao zw (zf (zi 0) (zf (mCB (f1 zeu) (zf (zi 3) zr)) zr))))
  (zF (zY 5 (zao zw (zf (zi 0) (zf (mC (.int 26)) zr))))
  (zF (zY 6 (zf2 zr))
  (zF (zcI (zd2 (zf (zi 1) zr)) (zB 7) (zF (zY 8 (mOp zlC (zi 2) (mOp zeU (mOp zcS (zi 5) (mOp zet (mC (.int 7)) (zi 7))) (mC (.int 26)))))
  (zF (zY 9 (mOp zfC (mOp zfC (mM1 tyS ziw (mC (.str "")) (mSl zn4 (zi 3) zdb (zgo (zi 4)))) (zi 8)) (mM1 tyS ziw (mC (.str "")) (mSl zn4 (zi 3) (zgo (mOp zcS (zi 4) (mC (.int 1)))) zdb))))
  (zF (zY 9 (mOp zfC (zi 9) (mOp zj8 (mC (.str "q")) (zao zw (zf (zi 0) (zf (mC (.int 2)) zr))))))
  (zF (zcL (mOr (mB (mOp (fIn false) (zi 9) (zi 6))) (mB (mOp (fIn false) (zi 9) (zbg (zf (mC (.str "part")) (zf (mC (.str "end")) (zf (mC (.str "give")) (zf (mC (.str "rounds")) (zf (mC (.str "letters")) zr))))))))) (zY 9 (mOp zfC (mC (.str "zz")) (mOp zlC (zi 2) (zi 7)))) zbA)
  (zgn (zhQ 6 (zi 9))))))))
  (zF (zcL (mB (mOp (zdA false) (zao zw (zf (zi 0) (zf (mC (.int 5)) zr))) (mC (.int 0)))) (zF (zY 10 (mOp zfq (zf2 (zf (mC (.str "ends")) (zf (mC (.str "pa")) (zf (mC (.str "gives")) (zf (mC (.str "giv")) (zf (mC (.str "x")) (zf (mC (.str "y")) (zf (mC (.str "r")) (zf (mC (.str "rk")) zr))))))))) (zao zw (zf (zi 0) (zf (mC (.int 8)) zr)))))
  (zcL (mB (mOp (fIn true) (zi 10) (zi 6))) (zeZ 6 (zi 10) (zao zw (zf (zi 0) (zf (zi 1) zr)))) zbA)) zbA)
  (zbB (mCB (f1 zco) (zf (zi 6) zr))))))))))
noncomputable def zbn:FD:=zbZ 11 [0,1] zdm
theorem zhD(F:Fun K "_law_names" "_law_names" zbi f fd)(hB:Bl mg ["abs", "tuple", "zip", "max", "sorted", "len", "enumerate", "range", "int", "dict", "min", "isinstance"])(hT:XT K zcf xfl)(c_n_law_take:Cal P w K mg base "_law_take" 1 ["_law_box_here", "_law_wide"] (spV K 2 zw)):FnOk P w K mg base CX0 2 f fd ["_law_box_here", "_law_many"] (spV K 2 zbn) :=
 F.okV (n:=2) (nn:=11) (pn:=[0,1]) (m:=zdm) zW rfl rfl (by decide) fun cdv A outer s H E hr=>⟨_,(w_s (zH (i:=2) zW.nd rfl (by first | exact Or.inl rfl | exact Or.inr rfl) zcl)
  (w_s (zxo (i:=3) zW.nd rfl (by first | exact Or.inl rfl | exact Or.inr rfl) 1 ["_law_k"] rfl rfl ⟨rfl,by decide,by decide,by decide,by decide⟩ (.cons (j:=0) rfl (.inl rfl) rfl (.cons (j:=2) rfl (.inl rfl) rfl .nil)) rfl (zcy rfl (hB "range" (by decide)) (w_a (zJ zaX zq (zR c_n_law_take (hr.mono (by decide)) rfl (w_a (w_v 0) (w_a zq zj)))) zj)) (fun _ _ _ _=>(zy (i:=0) (by show List.Nodup (["_law_k", "_law_box_here", "_law_alphabet"]:List Str); decide) rfl (by first | exact Or.inl rfl | exact Or.inr rfl))) (zgC (by decide)) (fun _ _ _ _=>zdY) (fun _ _ _ _=>(zbs zk8 (w_v 2) (zR c_n_law_take (hr.mono (by decide)) rfl (w_a (w_v 1) (w_a zq zj))) (fun _ _=>rfl))))
  (w_s (zH (i:=4) zW.nd rfl (by first | exact Or.inl rfl | exact Or.inr rfl) (zR c_n_law_take (hr.mono (by decide)) rfl (w_a (w_v 0) (w_a (zcD (zdS K rfl) rfl (hB "len" (by decide)) PySem.boot_len (w_a (w_v 3) zj)) zj))))
  (w_s (zH (i:=5) zW.nd rfl (by first | exact Or.inl rfl | exact Or.inr rfl) (zR c_n_law_take (hr.mono (by decide)) rfl (w_a (w_v 0) (w_a zq zj))))
  (w_s (zH (i:=6) zW.nd rfl (by first | exact Or.inl rfl | exact Or.inr rfl) (zeF zj))
  (w_s (zbO PassesOwn.never rfl (zcy rfl (hB "range" (by decide)) (w_a (w_v 1) zj)) (zy (i:=7) zW.nd rfl (by first | exact Or.inl rfl | exact Or.inr rfl)) (w_s (zH (i:=8) zW.nd rfl (by first | exact Or.inl rfl | exact Or.inr rfl) (zbs zk8 (w_v 2) (zJ zcC (zJ zaX (w_v 5) (zJ zcB zq (w_v 7))) zq) (fun _ _=>rfl)))
  (w_s (zH (i:=9) zW.nd rfl (by first | exact Or.inl rfl | exact Or.inr rfl) (zJ zdH (zJ zdH (zlg K rfl PySem.F.plainAttrs_str PySem.F.slot_str_join PySem.F.type_str_join (zmm K rfl) zcl (w_a (zfp (zpj K rfl) (w_v 3) zfn (zfo (w_v 4))) zj)) (w_v 8)) (zlg K rfl PySem.F.plainAttrs_str PySem.F.slot_str_join PySem.F.type_str_join (zmm K rfl) zcl (w_a (zfp (zpj K rfl) (w_v 3) (zfo (zJ zaX (w_v 4) zq)) zfn) zj))))
  (w_s (zH (i:=9) zW.nd rfl (by first | exact Or.inl rfl | exact Or.inr rfl) (zJ zdH (w_v 9) (zJ zlh zcl (zR c_n_law_take (hr.mono (by decide)) rfl (w_a (w_v 0) (w_a zq zj))))))
  (w_s (zeN (zdx (znT (ztL (zap (zxn K rfl) (w_v 9) (w_v 6) rfl) (zpf (zap (zxn K rfl) (w_v 9) (zay (w_a zcl (w_a zcl (w_a zcl (w_a zcl (w_a zcl zj)))))) rfl)))) (zX (zH (i:=9) zW.nd rfl (by first | exact Or.inl rfl | exact Or.inr rfl) (zJ zdH zcl (zbs zk8 (w_v 2) (w_v 7) (fun _ _=>rfl))))) zbb))
  (zX (zg7 (zlg K rfl PySem.F.plainAttrs_list PySem.F.slot_list_append PySem.F.type_list_append zdv (w_v 6) (w_a (w_v 9) zj)))))))))
  (w_s (zeN (zdx (zap zgh (zR c_n_law_take (hr.mono (by decide)) rfl (w_a (w_v 0) (w_a zq zj))) zq (zaH _)) (w_s (zH (i:=10) zW.nd rfl (by first | exact Or.inl rfl | exact Or.inr rfl) (zbs (zeG K rfl) (zeF (w_a zcl (w_a zcl (w_a zcl (w_a zcl (w_a zcl (w_a zcl (w_a zcl (w_a zcl zj))))))))) (zR c_n_law_take (hr.mono (by decide)) rfl (w_a (w_v 0) (w_a zq zj))) (fun _ _=>rfl)))
  (zX (zdx (zap (zmj K rfl) (w_v 10) (w_v 6) rfl) (zX (zii (w_v 10) (zlf (w_v 6) (zR c_n_law_take (hr.mono (by decide)) rfl (w_a (w_v 0) (w_a (w_v 1) zj))) zg0))) zbb))) zbb))
  (zX (zax (zfm (zbH K rfl) rfl (hB "tuple" (by decide)) PyProof.Rows.boot_tuple (w_a (w_v 6) zj))))))))))),
  (zv (zD (by decide) zcm)
  (zv (zD (by decide) (zlv (nt:=1) (js:=[0,2]) (by decide) (zc6 (zd (zt zaY zo (zS (zd (ze 0) (zd zo zk)) (zm (zm zT)))) zk)) (zz (by decide)) zd6 (zt zlD (ze 2) (zS (zd (ze 1) (zd zo zk)) (zm (zm zT))))))
  (zv (zD (by decide) (zS (zd (ze 0) (zd (zbz zcH (zd (ze 3) zk)) zk)) (zm (zm zT))))
  (zv (zD (by decide) (zS (zd (ze 0) (zd zo zk)) (zm (zm zT))))
  (zv (zD (by decide) (zeI zk))
  (zv (zbP (zc6 (zd (ze 1) zk)) (zz (by decide)) (zv (zD (by decide) (zt zlD (ze 2) (zt zcF (zt zaY (ze 5) (zt zcE zo (ze 7))) zo)))
  (zv (zD (by decide) (zt zgJ (zt zgJ (zx7 zp2 zmJ zcm (zpJ zi7 (ze 3) zfA (zfB (ze 4)))) (ze 8)) (zx7 zp2 zmJ zcm (zpJ zi7 (ze 3) (zfB (zt zaY (ze 4) zo)) zfA))))
  (zv (zD (by decide) (zt zgJ (ze 9) (zt zs0 zcm (zS (zd (ze 0) (zd zo zk)) (zm (zm zT))))))
  (zv (zeW (zb6 (ztR (zaa (zt (zmN false) (ze 9) (ze 6))) (zaa (zt (zmN false) (ze 9) (zaz (zd zcm (zd zcm (zd zcm (zd zcm (zd zcm zk))))))))) (zD (by decide) (zt zgJ zcm (zt zlD (ze 2) (ze 7)))) zbd))
  (zhh (zj0 (i:=6) (ze 9))))))))
  (zv (zeW (zb6 (zaa (zt zd7 (zS (zd (ze 0) (zd zo zk)) (zm (zm zT))) zo)) (zv (zD (by decide) (zt zdi (zeI (zd zcm (zd zcm (zd zcm (zd zcm (zd zcm (zd zcm (zd zcm (zd zcm zk))))))))) (zS (zd (ze 0) (zd zo zk)) (zm (zm zT)))))
  (zb6 (zaa (zt (zmN true) (ze 10) (ze 6))) (zi4 (i:=6) (ze 10) (zS (zd (ze 0) (zd (ze 1) zk)) (zm (zm zT)))) zbd)) zbd))
  (zaK (zbz zcb (zd (ze 6) zk))))))))))⟩
noncomputable def zdQ:MS:=(zbB (zao zQ (zf (mOp zcS (mOp zcZ (mOp zca (zi 0) (mC (.int 0))) (mOp zca (zi 1) (mC (.int 1)))) (mOp zcZ (mOp zca (zi 1) (mC (.int 0))) (mOp zca (zi 0) (mC (.int 1))))) (zf (mOp zcZ (mOp zca (zi 0) (mC (.int 1))) (mOp zca (zi 1) (mC (.int 1)))) zr))))
noncomputable def zaW:FD:=zbZ 2 [0,1] zdQ
theorem zhW(F:Fun K "_law_plus" "_law_plus" zbM f fd)(hB:Bl mg ["abs", "tuple", "zip", "max", "sorted", "len", "enumerate", "range", "int", "dict", "min", "isinstance"])(hT:XT K zcf xfl)(c_n_law_fraction:Cal P w K mg base "_law_fraction" 1 ["_law_n", "_law_d"] (spV K 2 zQ)):FnOk P w K mg base CX0 2 f fd ["_law_one", "_law_other"] (spV K 2 zaW) :=
 F.okV (n:=2) (nn:=2) (pn:=[0,1]) (m:=zdQ) zhU rfl rfl (by decide) fun cdv A outer s H E hr=>⟨_,(zX (zax (zR c_n_law_fraction (hr.mono (by decide)) rfl (w_a (zJ zaX (zJ zbI (zbs (zbx K rfl) (w_v 0) zq (fun _ _=>rfl)) (zbs (zbx K rfl) (w_v 1) zq (fun _ _=>rfl))) (zJ zbI (zbs (zbx K rfl) (w_v 1) zq (fun _ _=>rfl)) (zbs (zbx K rfl) (w_v 0) zq (fun _ _=>rfl)))) (w_a (zJ zbI (zbs (zbx K rfl) (w_v 0) zq (fun _ _=>rfl)) (zbs (zbx K rfl) (w_v 1) zq (fun _ _=>rfl))) zj))))),
  (zaK (zS (zd (zt zaY (zt zbJ (zt zaI (ze 0) zo) (zt zaI (ze 1) zo)) (zt zbJ (zt zaI (ze 1) zo) (zt zaI (ze 0) zo))) (zd (zt zbJ (zt zaI (ze 0) zo) (zt zaI (ze 1) zo)) zk)) (zm (zm zT))))⟩
noncomputable def zdn:MS:=(zbB (zao zQ (zf (mOp zcZ (mOp zca (zi 0) (mC (.int 0))) (mOp zca (zi 1) (mC (.int 0)))) (zf (mOp zcZ (mOp zca (zi 0) (mC (.int 1))) (mOp zca (zi 1) (mC (.int 1)))) zr))))
noncomputable def zbo:FD:=zbZ 2 [0,1] zdn
theorem zhE(F:Fun K "_law_times" "_law_times" zbj f fd)(hB:Bl mg ["abs", "tuple", "zip", "max", "sorted", "len", "enumerate", "range", "int", "dict", "min", "isinstance"])(hT:XT K zcf xfl)(c_n_law_fraction:Cal P w K mg base "_law_fraction" 1 ["_law_n", "_law_d"] (spV K 2 zQ)):FnOk P w K mg base CX0 2 f fd ["_law_one", "_law_other"] (spV K 2 zbo) :=
 F.okV (n:=2) (nn:=2) (pn:=[0,1]) (m:=zdn) zhB rfl rfl (by decide) fun cdv A outer s H E hr=>⟨_,(zX (zax (zR c_n_law_fraction (hr.mono (by decide)) rfl (w_a (zJ zbI (zbs (zbx K rfl) (w_v 0) zq (fun _ _=>rfl)) (zbs (zbx K rfl) (w_v 1) zq (fun _ _=>rfl))) (w_a (zJ zbI (zbs (zbx K rfl) (w_v 0) zq (fun _ _=>rfl)) (zbs (zbx K rfl) (w_v 1) zq (fun _ _=>rfl))) zj))))),
  (zaK (zS (zd (zt zbJ (zt zaI (ze 0) zo) (zt zaI (ze 1) zo)) (zd (zt zbJ (zt zaI (ze 0) zo) (zt zaI (ze 1) zo)) zk)) (zm (zm zT))))⟩
noncomputable def zcu:MS:=(zF (zY 1 (zao zw (zf (zi 0) (zf (mC (.int 12)) zr))))
  (zF (zcL (mB (mOp fLt (zi 1) (mC (.int 7)))) (zbB (mOp zfq (zf2 (zf (zbg (zf (mC (.int 0)) (zf (mC (.int 1)) zr))) (zf (zbg (zf (mC (.int 1)) (zf (mC (.int 1)) zr))) (zf (zbg (zf (mC (.int 1)) (zf (mC (.int 1)) zr))) (zf (zbg (zf (mUn zjV (mC (.int 1))) (zf (mC (.int 1)) zr))) (zf (zbg (zf (mC (.int 2)) (zf (mC (.int 1)) zr))) (zf (zbg (zf (mC (.int 1)) (zf (mC (.int 2)) zr))) (zf (zbg (zf (mUn zjV (mC (.int 2))) (zf (mC (.int 3)) zr))) zr)))))))) (zi 1))) zbA)
  (zF (zcL (mB (mOp fLt (zi 1) (mC (.int 11)))) (zbB (zao zQ (zf (mOp ziX (zao zw (zf (zi 0) (zf (mC (.int 19)) zr))) (mC (.int 9))) (zf (mOp zcS (mC (.int 1)) (zao zw (zf (zi 0) (zf (mC (.int 4)) zr)))) zr)))) zbA)
  (zbB (zao zQ (zf (mOp ziX (zao zw (zf (zi 0) (zf (mC (.int 1999999)) zr))) (mC (.int 999999))) (zf (mOp zcS (mC (.int 1)) (zao zw (zf (zi 0) (zf (mC (.int 4)) zr)))) zr)))))))
noncomputable def zaP:FD:=zbZ 2 [0] zcu
theorem zfR(F:Fun K "_law_multiple" "_law_multiple" zaO f fd)(hB:Bl mg ["abs", "tuple", "zip", "max", "sorted", "len", "enumerate", "range", "int", "dict", "min", "isinstance"])(hT:XT K zcf xfl)(c_n_law_take:Cal P w K mg base "_law_take" 1 ["_law_box_here", "_law_wide"] (spV K 2 zw))(c_n_law_fraction:Cal P w K mg base "_law_fraction" 1 ["_law_n", "_law_d"] (spV K 2 zQ)):FnOk P w K mg base CX0 2 f fd ["_law_box_here"] (spV K 1 zaP) :=
 F.okV (n:=1) (nn:=2) (pn:=[0]) (m:=zcu) zde rfl rfl (by decide) fun cdv A outer s H E hr=>⟨_,(w_s (zH (i:=1) zde.nd rfl (by first | exact Or.inl rfl | exact Or.inr rfl) (zR c_n_law_take (hr.mono (by decide)) rfl (w_a (w_v 0) (w_a zq zj))))
  (w_s (zdx (zap zjE (w_v 1) zq (zaH _)) (zX (zax (zbs (zeG K rfl) (zeF (w_a (zay (w_a zq (w_a zq zj))) (w_a (zay (w_a zq (w_a zq zj))) (w_a (zay (w_a zq (w_a zq zj))) (w_a (zay (w_a (zpe zgV zq) (w_a zq zj))) (w_a (zay (w_a zq (w_a zq zj))) (w_a (zay (w_a zq (w_a zq zj))) (w_a (zay (w_a (zpe zgV zq) (w_a zq zj))) zj)))))))) (w_v 1) (fun _ _=>rfl)))) zbb)
  (w_s (zdx (zap zjE (w_v 1) zq (zaH _)) (zX (zax (zR c_n_law_fraction (hr.mono (by decide)) rfl (w_a (zJ zeL (zR c_n_law_take (hr.mono (by decide)) rfl (w_a (w_v 0) (w_a zq zj))) zq) (w_a (zJ zaX zq (zR c_n_law_take (hr.mono (by decide)) rfl (w_a (w_v 0) (w_a zq zj)))) zj))))) zbb)
  (zX (zax (zR c_n_law_fraction (hr.mono (by decide)) rfl (w_a (zJ zeL (zR c_n_law_take (hr.mono (by decide)) rfl (w_a (w_v 0) (w_a zq zj))) zq) (w_a (zJ zaX zq (zR c_n_law_take (hr.mono (by decide)) rfl (w_a (w_v 0) (w_a zq zj)))) zj)))))))),
  (zv (zD (by decide) (zS (zd (ze 0) (zd zo zk)) (zm (zm zT))))
  (zv (zb6 (zaa (zt zjU (ze 1) zo)) (zaK (zt zdi (zeI (zd (zaz (zd zo (zd zo zk))) (zd (zaz (zd zo (zd zo zk))) (zd (zaz (zd zo (zd zo zk))) (zd (zaz (zd (zdh zhe zo) (zd zo zk))) (zd (zaz (zd zo (zd zo zk))) (zd (zaz (zd zo (zd zo zk))) (zd (zaz (zd (zdh zhe zo) (zd zo zk))) zk)))))))) (ze 1))) zbd)
  (zv (zb6 (zaa (zt zjU (ze 1) zo)) (zaK (zS (zd (zt zeV (zS (zd (ze 0) (zd zo zk)) (zm (zm zT))) zo) (zd (zt zaY zo (zS (zd (ze 0) (zd zo zk)) (zm (zm zT)))) zk)) (zm (zm zT)))) zbd)
  (zaK (zS (zd (zt zeV (zS (zd (ze 0) (zd zo zk)) (zm (zm zT))) zo) (zd (zt zaY zo (zS (zd (ze 0) (zd zo zk)) (zm (zm zT)))) zk)) (zm (zm zT)))))))⟩
noncomputable def zgg:MS:=(zF (zY 3 (mDC (mIt zcY (mFz (zi 0))) 2 [] (zbC 2 (zV (zB 0) (zV (zB 1) zbV))) (mB (mOp (zdA true) (zi 1) (mC (.int 0)))) (zi 0) (zi 1)))
  (zF (zcL (zlr (zkC (zi 3)) (mB (mOp fLe (mUn zkB (zi 1)) (zi 2)))) (zbB (zos "Form" ["numbers", "beneath", "room"] (zf (mFz (zi 3)) (zf (zi 1) (zf (zi 2) zr))))) zbA)
  (zF (zY 4 (zi 1))
  (zF (zcI (mIt zng (mFz (zi 3))) (zB 5) (zY 4 (zao zO (zf (zi 4) (zf (mCB (f1 zlq) (zf (zi 5) zr)) zr)))))
  (zF (zY 6 (mDC (mIt zcY (mFz (zi 3))) 2 [4] (zbC 2 (zV (zB 0) (zV (zB 1) zbV))) zhj (zi 0) (mOp zgm (zi 1) (zi 2))))
  (zF (zY 1 (mOp zgm (zi 1) (zi 4)))
  (zbB (zos "Form" ["numbers", "beneath", "room"] (zf (mFz (zi 6)) (zf (zi 1) (zf (mCB zhf (zf (mC (.int 256)) (zf (mOp zcZ (mC (.int 2)) (mUn zkB (zi 1))) zr))) zr)))))))))))
noncomputable def zbp:FD:=zbZ 7 [0,2] zgg
theorem zl2(F:Fun K "settled" "settled" zcO f fd)(hB:Bl mg ["abs", "tuple", "zip", "max", "sorted", "len", "enumerate", "range", "int", "dict", "min", "isinstance"])(hT:XT K zcf xfl){TROOM:Tok}(g_ROOM:mg "ROOM"=some (.int 256 TROOM)){CForm:Addr}(oXForm:OCal P w K mg base "Form" CForm ["numbers", "beneath", "room"])(c_common_factor:Cal P w K mg base "common_factor" 1 ["one", "other"] (spV K 2 zO)):FnOk P w K mg base CX0 3 f fd ["numbers", "beneath", "room"] (spV K 3 zbp) :=
 F.okV (n:=3) (nn:=7) (pn:=[0,2]) (m:=zgg) zb0 rfl rfl (by decide) fun cdv A outer s H E hr=>⟨_,(w_s (zq7 hr (i:=3) zb0.nd rfl (by first | exact Or.inl rfl | exact Or.inr rfl) 2 ["product", "many"] rfl rfl ⟨rfl,by decide,by decide,by decide,by decide⟩ .nil rfl (zdc (zcT K rfl (w_v 0))) (fun _ _ _ _=>(zbu K rfl rfl (w_g (zy (i:=0) (by show List.Nodup (["product", "many"]:List Str); decide) rfl (by first | exact Or.inl rfl | exact Or.inr rfl)) (w_g (zy (i:=1) (by show List.Nodup (["product", "many"]:List Str); decide) rfl (by first | exact Or.inl rfl | exact Or.inr rfl)) zbt)))) (zir (zeo (zaS (i:=0) (by decide) (zaS (i:=1) (by decide) zdB)))) (fun _ _ _ _=>(zpi (zap zma (w_v 1) zq (zaH _)))) (fun _ _ _ _=>(w_v 0)) (fun _ _ _ _=>(w_v 1)))
  (w_s (zdx (znT (ziR (zwI (w_v 3)) (zgD (zap zw7 (ztO K rfl PySem.F.plainAttrs_int PySem.F.slot_int_bit_length PySem.F.type_int_bit_length znh (w_v 1)) (w_v 2) (zaH _))))) (zX (zax (zrb oXForm (hr.mono (by decide)) rfl (w_a (zcT K rfl (w_v 3)) (w_a (w_v 1) (w_a (w_v 2) zj)))))) zbb)
  (w_s (zH (i:=4) zb0.nd rfl (by first | exact Or.inl rfl | exact Or.inr rfl) (w_v 1))
  (w_s (zbO PassesOwn.never rfl (zwH (zcT K rfl (w_v 3))) (zy (i:=5) zb0.nd rfl (by first | exact Or.inl rfl | exact Or.inr rfl)) (zX (zH (i:=4) zb0.nd rfl (by first | exact Or.inl rfl | exact Or.inr rfl) (zR c_common_factor (hr.mono (by decide)) rfl (w_a (w_v 4) (w_a (zcD zfh rfl (hB "abs" (by decide)) PyProof.Rows.boot_abs (w_a (w_v 5) zj)) zj))))))
  (w_s (zq7 hr (i:=6) zb0.nd rfl (by first | exact Or.inl rfl | exact Or.inr rfl) 2 ["product", "many"] rfl rfl ⟨rfl,by decide,by decide,by decide,by decide⟩ (.cons (j:=4) rfl (.inl rfl) rfl .nil) rfl (zdc (zcT K rfl (w_v 3))) (fun _ _ _ _=>(zbu K rfl rfl (w_g (zy (i:=0) (by show List.Nodup (["product", "many", "factor"]:List Str); decide) rfl (by first | exact Or.inl rfl | exact Or.inr rfl)) (w_g (zy (i:=1) (by show List.Nodup (["product", "many", "factor"]:List Str); decide) rfl (by first | exact Or.inl rfl | exact Or.inr rfl)) zbt)))) (zir (zeo (zaS (i:=0) (by decide) (zaS (i:=1) (by decide) zdB)))) (fun _ _ _ _=>zdY) (fun _ _ _ _=>(w_v 0)) (fun _ _ _ _=>(zJ zdw (w_v 1) (w_v 2))))
  (w_s (zH (i:=1) zb0.nd rfl (by first | exact Or.inl rfl | exact Or.inr rfl) (zJ zdw (w_v 1) (w_v 4)))
  (zX (zax (zrb oXForm (hr.mono (by decide)) rfl (w_a (zcT K rfl (w_v 6)) (w_a (w_v 1) (w_a (zcD (zej rfl) rfl (hB "max" (by decide)) PyProof.Rows.boot_max (w_a (zf1 (v:=.int 256) rfl g_ROOM ⟨_,rfl⟩) (w_a (zJ zbI zq (ztO K rfl PySem.F.plainAttrs_int PySem.F.slot_int_bit_length PySem.F.type_int_bit_length znh (w_v 1))) zj))) zj)))))))))))),
  (zv (zD (by decide) (zwG (nt:=2) (js:=[]) (by decide) (zcA (zcU (ze 0))) (zbw (zK (zz (by decide)) (zK (zz (by decide)) zbv))) (zaa (zt zja (ze 1) zo)) (ze 0) (ze 1)))
  (zv (zb6 (ziZ (ztl (ze 3)) (zaa (zt zxr (zrf (ze 1)) (ze 2)))) (zaK (zrd oXForm.xn (zd (zcU (ze 3)) (zd (ze 1) (zd (ze 2) zk))))) zbd)
  (zv (zD (by decide) (ze 1))
  (zv (zbP (ztj (zcU (ze 3))) (zz (by decide)) (zD (by decide) (zS (zd (ze 4) (zd (zbz ziY (zd (ze 5) zk)) zk)) (zm (zm zT)))))
  (zv (zD (by decide) (zwG (nt:=2) (js:=[4]) (by decide) (zcA (zcU (ze 3))) (zbw (zK (zz (by decide)) (zK (zz (by decide)) zbv))) zd6 (ze 0) (zt zel (ze 1) (ze 2))))
  (zv (zD (by decide) (zt zel (ze 1) (ze 4)))
  (zaK (zrd oXForm.xn (zd (zcU (ze 6)) (zd (ze 1) (zd (zbz zgF (zd zo (zd (zt zbJ zo (zrf (ze 1))) zk))) zk)))))))))))⟩
noncomputable def zb2:MS:=(zbB (zos "Form" ["numbers", "beneath", "room"] (zf (mFz (ze4 (mOp zdO (mOp zdO (mOp zgr (zbg (zf (mC (.int 0)) zr)) (zi 0)) (zbg (zf (mC (.int 1)) zr))) (mOp zgr (zbg (zf (mC (.int 0)) zr)) (mOp ziX (mOp ziX (zi 1) (zi 0)) (mC (.int 1))))) (mC (.int 1)))) (zf (mC (.int 1)) (zf (mC (.int 256)) zr)))))
noncomputable def zav:FD:=zbZ 2 [0,1] zb2
theorem zey(F:Fun K "letter_by_powers" "letter_by_powers" zar f fd)(hB:Bl mg ["abs", "tuple", "zip", "max", "sorted", "len", "enumerate", "range", "int", "dict", "min", "isinstance"])(hT:XT K zcf xfl){TROOM:Tok}(g_ROOM:mg "ROOM"=some (.int 256 TROOM)){CForm:Addr}(oXForm:OCal P w K mg base "Form" CForm ["numbers", "beneath", "room"]):FnOk P w K mg base CX0 3 f fd ["k", "many_letters"] (spV K 2 zav) :=
 F.okV (n:=2) (nn:=2) (pn:=[0,1]) (m:=zb2) zew rfl rfl (by decide) fun cdv A outer s H E hr=>⟨_,(zX (zax (zrb oXForm (hr.mono (by decide)) rfl (w_a (zcT K rfl (zfJ hr (zJ (zd8 K rfl) (zJ (zd8 K rfl) (zJ (zgO K rfl) (zay (w_a zq zj)) (w_v 0)) (zay (w_a zq zj))) (zJ (zgO K rfl) (zay (w_a zq zj)) (zJ zeL (zJ zeL (w_v 1) (w_v 0)) zq))) zq)) (w_a zq (w_a (zf1 (v:=.int 256) rfl g_ROOM ⟨_,rfl⟩) zj)))))),
  (zaK (zrd oXForm.xn (zd (zcU (zfK (zt zd9 (zt zd9 (zt zgP (zaz (zd zo zk)) (ze 0)) (zaz (zd zo zk))) (zt zgP (zaz (zd zo zk)) (zt zeV (zt zeV (ze 1) (ze 0)) zo))) zo)) (zd zo (zd zo zk)))))⟩
noncomputable def zc3:MS:=(zbB (mCB (f1 zi8) (zf (mLC (mIt zcY (mFz (mUn (zby "Form" "numbers") (zi 0)))) 2 [0] (zbC 2 (zV (zB 0) (zV (zB 1) zbV))) zhj (zbg (zf (zi 0) (zf (zao zct (zf (zi 1) (zf (mUn (zby "Form" "beneath") (zi 2)) zr))) zr)))) zr)))
noncomputable def za8:FD:=zbZ 1 [0] zc3
theorem zgy(F:Fun K "fractions_of" "fractions_of" za5 f fd)(hB:Bl mg ["abs", "tuple", "zip", "max", "sorted", "len", "enumerate", "range", "int", "dict", "min", "isinstance"])(hT:XT K zcf xfl){CForm:Addr}(oXForm:OCal P w K mg base "Form" CForm ["numbers", "beneath", "room"])(c_fraction:Cal P w K mg base "fraction" 2 ["n", "d"] (spV K 2 zct)):FnOk P w K mg base CX0 3 f fd ["form"] (spV K 1 za8) :=
 F.okV (n:=1) (nn:=1) (pn:=[0]) (m:=zc3) zgw rfl rfl (by decide) fun cdv A outer s H E hr=>⟨_,(zX (zax (zcD (zhc K rfl hr) rfl (hB "sorted" (by decide)) PyProof.Rows.boot_sorted (w_a (znU 2 ["product", "many"] rfl rfl ⟨rfl,by decide,by decide,by decide,by decide⟩ (.cons (j:=0) rfl (.inl rfl) rfl .nil) rfl (zdc (zcT K rfl (zbR K rfl (w_v 0) rfl))) (fun _ _ _ _=>(zbu K rfl rfl (w_g (zy (i:=0) (by show List.Nodup (["product", "many", "form"]:List Str); decide) rfl (by first | exact Or.inl rfl | exact Or.inr rfl)) (w_g (zy (i:=1) (by show List.Nodup (["product", "many", "form"]:List Str); decide) rfl (by first | exact Or.inl rfl | exact Or.inr rfl)) zbt)))) (zir (zeo (zaS (i:=0) (by decide) (zaS (i:=1) (by decide) zdB)))) (fun _ _ _ _=>zdY) (fun _ _ _ _=>(zay (w_a (w_v 0) (w_a (zR c_fraction (hr.mono (by decide)) rfl (w_a (w_v 1) (w_a (zbR K rfl (w_v 2) rfl) zj))) zj))))) zj)))),
  (zaK (zbz zj4 (zd (zlv (nt:=2) (js:=[0]) (by decide) (zcA (zcU (zdh (za1 oXForm.xn oXForm.cl (oXForm.na _ (by decide))) (ze 0)))) (zbw (zK (zz (by decide)) (zK (zz (by decide)) zbv))) zd6 (zaz (zd (ze 0) (zd (zS (zd (ze 1) (zd (zdh (za1 oXForm.xn oXForm.cl (oXForm.na _ (by decide))) (ze 2)) zk)) (zm (zm zT))) zk)))) zk)))⟩
noncomputable def zcv:MS:=(zF (zY 3 (mCB (f1 zfE) (zf (zi 0) zr)))
  (zF (zcI (mIt zfz (mFz (zi 1))) (zB 4) (zF (zY 5 (zbg (zf (mOp zet (zi 2) (mOp zca (zc9 (zi 1) (zi 4)) (mC (.int 0)))) (zf (mOp zca (zc9 (zi 1) (zi 4)) (mC (.int 1))) zr))))
  (zdT 3 (zi 4) (zao zaW (zf (zdj (zi 3) (zi 4) (zbg (zf (mC (.int 0)) (zf (mC (.int 1)) zr)))) (zf (zi 5) zr))))))
  (zF (zY 6 zcX)
  (zF (zcI (mIt zfz (mFz (zi 3))) (zB 4) (zcL (mB (mOp (zdA true) (mOp zca (zc9 (zi 3) (zi 4)) (mC (.int 0))) (mC (.int 0)))) (zdT 6 (zi 4) (zc9 (zi 3) (zi 4))) zbA))
  (zft [0,1,2] 6)))))
noncomputable def zaQ:FD:=zbZ 7 [0,1,2] zcv
theorem zfS(F:Fun K "_law_poly_add" "_law_poly_add" zaN f fd)(hB:Bl mg ["abs", "tuple", "zip", "max", "sorted", "len", "enumerate", "range", "int", "dict", "min", "isinstance"])(hT:XT K zcf xfl)(c_n_law_plus:Cal P w K mg base "_law_plus" 2 ["_law_one", "_law_other"] (spV K 2 zaW)):FnOk P w K mg base CX0 3 f fd ["_law_one", "_law_other", "_law_sign"] (spV K 3 zaQ) :=
 F.okV (n:=3) (nn:=7) (pn:=[0,1,2]) (m:=zcv) zaB rfl rfl (by decide) fun cdv A outer s H E hr=>⟨_,(w_s (zH (i:=3) zaB.nd rfl (by first | exact Or.inl rfl | exact Or.inr rfl) (zfm zlL rfl (hB "dict" (by decide)) PyProof.Rows.boot_dict (w_a (w_v 0) zj)))
  (w_s (zbO PassesOwn.never rfl (zdz (zcT K rfl (w_v 1))) (zy (i:=4) zaB.nd rfl (by first | exact Or.inl rfl | exact Or.inr rfl)) (w_s (zH (i:=5) zaB.nd rfl (by first | exact Or.inl rfl | exact Or.inr rfl) (zay (w_a (zJ zcB (w_v 2) (zbs (zbx K rfl) (zdJ hr (w_v 1) (w_v 4)) zq (fun _ _=>rfl))) (w_a (zbs (zbx K rfl) (zdJ hr (w_v 1) (w_v 4)) zq (fun _ _=>rfl)) zj))))
  (zX (zeP hr (w_v 3) (w_v 4) (zR c_n_law_plus (hr.mono (by decide)) rfl (w_a (zep hr (w_v 3) (w_v 4) (zay (w_a zq (w_a zq zj))) ⟨rfl,rfl,rfl,rfl⟩) (w_a (w_v 5) zj)))))))
  (w_s (zH (i:=6) zaB.nd rfl (by first | exact Or.inl rfl | exact Or.inr rfl) zc5)
  (w_s (zbO PassesOwn.never rfl (zdz (zcT K rfl (w_v 3))) (zy (i:=4) zaB.nd rfl (by first | exact Or.inl rfl | exact Or.inr rfl)) (zX (zdx (zap zma (zbs (zbx K rfl) (zdJ hr (w_v 3) (w_v 4)) zq (fun _ _=>rfl)) zq (zaH _)) (zX (zeP hr (w_v 6) (w_v 4) (zdJ hr (w_v 3) (w_v 4)))) zbb)))
  (zX (zax (w_v 6))))))),
  (zv (zD (by decide) (zbz zoi (zd (ze 0) zk)))
  (zv (zbP (zen (zcU (ze 1))) (zz (by decide)) (zv (zD (by decide) (zaz (zd (zt zcE (ze 2) (zt zaI (zdN (ze 1) (ze 4)) zo)) (zd (zt zaI (zdN (ze 1) (ze 4)) zo) zk))))
  (ze0 (i:=3) (ze 4) (zS (zd (zeq (ze 3) (ze 4) (zaz (zd zo (zd zo zk)))) (zd (ze 5) zk)) (zm (zm zT))))))
  (zv (zD (by decide) zda)
  (zv (zbP (zen (zcU (ze 3))) (zz (by decide)) (zb6 (zaa (zt zja (zt zaI (zdN (ze 3) (ze 4)) zo) zo)) (ze0 (i:=6) (ze 4) (zdN (ze 3) (ze 4))) zbd))
  (zi1 (i:=6))))))⟩
noncomputable def zch:MS:=(zF (zY 2 zcX)
  (zF (zcI (mIt zfz (mFz (zi 0))) (zB 3) (zcI (mIt zfz (mFz (zi 1))) (zB 4) (zF (zY 5 (mCB (f1 zco) (zf (mLC (zqF (zf (zi 3) (zf (zi 4) zr))) 2 [] (zbC 2 (zV (zB 0) (zV (zB 1) zbV))) zhj (mOp zcS (zi 0) (zi 1))) zr)))
  (zF (zY 6 (zao zbo (zf (zc9 (zi 0) (zi 3)) (zf (zc9 (zi 1) (zi 4)) zr))))
  (zdT 2 (zi 5) (zao zaW (zf (zdj (zi 2) (zi 5) (zbg (zf (mC (.int 0)) (zf (mC (.int 1)) zr)))) (zf (zi 6) zr))))))))
  (zF (zY 7 zcX)
  (zF (zcI (mIt zfz (mFz (zi 2))) (zB 5) (zcL (mB (mOp (zdA true) (mOp zca (zc9 (zi 2) (zi 5)) (mC (.int 0))) (mC (.int 0)))) (zdT 7 (zi 5) (zc9 (zi 2) (zi 5))) zbA))
  (zft [0,1] 7)))))
noncomputable def zaF:FD:=zbZ 8 [0,1] zch
theorem ze9(F:Fun K "_law_poly_mult" "_law_poly_mult" zaC f fd)(hB:Bl mg ["abs", "tuple", "zip", "max", "sorted", "len", "enumerate", "range", "int", "dict", "min", "isinstance"])(hT:XT K zcf xfl)(c_n_law_plus:Cal P w K mg base "_law_plus" 2 ["_law_one", "_law_other"] (spV K 2 zaW))(c_n_law_times:Cal P w K mg base "_law_times" 2 ["_law_one", "_law_other"] (spV K 2 zbo)):FnOk P w K mg base CX0 3 f fd ["_law_one", "_law_other"] (spV K 2 zaF) :=
 F.okV (n:=2) (nn:=8) (pn:=[0,1]) (m:=zch) zZ rfl rfl (by decide) fun cdv A outer s H E hr=>⟨_,(w_s (zH (i:=2) zZ.nd rfl (by first | exact Or.inl rfl | exact Or.inr rfl) zc5)
  (w_s (zbO PassesOwn.never rfl (zdz (zcT K rfl (w_v 0))) (zy (i:=3) zZ.nd rfl (by first | exact Or.inl rfl | exact Or.inr rfl)) (zX (zbO PassesOwn.never rfl (zdz (zcT K rfl (w_v 1))) (zy (i:=4) zZ.nd rfl (by first | exact Or.inl rfl | exact Or.inr rfl)) (w_s (zH (i:=5) zZ.nd rfl (by first | exact Or.inl rfl | exact Or.inr rfl) (zfm (zbH K rfl) rfl (hB "tuple" (by decide)) PyProof.Rows.boot_tuple (w_a (znU 2 ["_law_a", "_law_b"] rfl rfl ⟨rfl,by decide,by decide,by decide,by decide⟩ .nil rfl (zlH K rfl rfl (hB "zip" (by decide)) (w_a (w_v 3) (w_a (w_v 4) zj))) (fun _ _ _ _=>(zbu K rfl rfl (w_g (zy (i:=0) (by show List.Nodup (["_law_a", "_law_b"]:List Str); decide) rfl (by first | exact Or.inl rfl | exact Or.inr rfl)) (w_g (zy (i:=1) (by show List.Nodup (["_law_a", "_law_b"]:List Str); decide) rfl (by first | exact Or.inl rfl | exact Or.inr rfl)) zbt)))) (zir (zeo (zaS (i:=0) (by decide) (zaS (i:=1) (by decide) zdB)))) (fun _ _ _ _=>zdY) (fun _ _ _ _=>(zJ zaX (w_v 0) (w_v 1)))) zj)))
  (w_s (zH (i:=6) zZ.nd rfl (by first | exact Or.inl rfl | exact Or.inr rfl) (zR c_n_law_times (hr.mono (by decide)) rfl (w_a (zdJ hr (w_v 0) (w_v 3)) (w_a (zdJ hr (w_v 1) (w_v 4)) zj))))
  (zX (zeP hr (w_v 2) (w_v 5) (zR c_n_law_plus (hr.mono (by decide)) rfl (w_a (zep hr (w_v 2) (w_v 5) (zay (w_a zq (w_a zq zj))) ⟨rfl,rfl,rfl,rfl⟩) (w_a (w_v 6) zj))))))))))
  (w_s (zH (i:=7) zZ.nd rfl (by first | exact Or.inl rfl | exact Or.inr rfl) zc5)
  (w_s (zbO PassesOwn.never rfl (zdz (zcT K rfl (w_v 2))) (zy (i:=5) zZ.nd rfl (by first | exact Or.inl rfl | exact Or.inr rfl)) (zX (zdx (zap zma (zbs (zbx K rfl) (zdJ hr (w_v 2) (w_v 5)) zq (fun _ _=>rfl)) zq (zaH _)) (zX (zeP hr (w_v 7) (w_v 5) (zdJ hr (w_v 2) (w_v 5)))) zbb)))
  (zX (zax (w_v 7))))))),
  (zv (zD (by decide) zda)
  (zv (zbP (zen (zcU (ze 0))) (zz (by decide)) (zbP (zen (zcU (ze 1))) (zz (by decide)) (zv (zD (by decide) (zbz zcb (zd (zlv (nt:=2) (js:=[]) (by decide) (zlJ (zd (ze 3) (zd (ze 4) zk))) (zbw (zK (zz (by decide)) (zK (zz (by decide)) zbv))) zd6 (zt zaY (ze 0) (ze 1))) zk)))
  (zv (zD (by decide) (zS (zd (zdN (ze 0) (ze 3)) (zd (zdN (ze 1) (ze 4)) zk)) (zm (zm zT))))
  (ze0 (i:=2) (ze 5) (zS (zd (zeq (ze 2) (ze 5) (zaz (zd zo (zd zo zk)))) (zd (ze 6) zk)) (zm (zm zT))))))))
  (zv (zD (by decide) zda)
  (zv (zbP (zen (zcU (ze 2))) (zz (by decide)) (zb6 (zaa (zt zja (zt zaI (zdN (ze 2) (ze 5)) zo) zo)) (ze0 (i:=7) (ze 5) (zdN (ze 2) (ze 5))) zbd))
  (zi1 (i:=7))))))⟩
noncomputable def zdo:MS:=(zF (zY 3 (zao zaP (zf (zi 0) zr)))
  (zF (zcL (zlr (mB (mOp (zdA false) (mOp zca (zi 3) (mC (.int 0))) (mC (.int 0)))) (zpu (mB (zi 2)))) (zY 3 (zbg (zf (mC (.int 1)) (zf (mC (.int 1)) zr)))) zbA)
  (zF (zY 4 (zao zw (zf (zi 0) (zf (mOp zcS (zi 1) (mC (.int 1))) zr))))
  (zF (zcL (mB (mOp (zdA false) (zi 4) (zi 1))) (zbB (zbg (zf (zi 3) (zf (mC .none) zr)))) zbA)
  (zbB (zbg (zf (mOp zfq (zf2 (zf (zi 3) (zf (zbg (zf (mC (.int 1)) (zf (mC (.int 1)) zr))) zr))) (zao zw (zf (zi 0) (zf (mC (.int 2)) zr)))) (zf (zi 4) zr))))))))
noncomputable def zbq:FD:=zbZ 5 [0,1,2] zdo
theorem zhF(F:Fun K "_law_entry" "_law_entry" zbk f fd)(hB:Bl mg ["abs", "tuple", "zip", "max", "sorted", "len", "enumerate", "range", "int", "dict", "min", "isinstance"])(hT:XT K zcf xfl)(c_n_law_take:Cal P w K mg base "_law_take" 1 ["_law_box_here", "_law_wide"] (spV K 2 zw))(c_n_law_multiple:Cal P w K mg base "_law_multiple" 2 ["_law_box_here"] (spV K 1 zaP)):FnOk P w K mg base CX0 3 f fd ["_law_box_here", "_law_many", "_law_may_be_nought"] (spV K 3 zbq) :=
 F.okV (n:=3) (nn:=5) (pn:=[0,1,2]) (m:=zdo) zce rfl rfl (by decide) fun cdv A outer s H E hr=>⟨_,(w_s (zH (i:=3) zce.nd rfl (by first | exact Or.inl rfl | exact Or.inr rfl) (zR c_n_law_multiple (hr.mono (by decide)) rfl (w_a (w_v 0) zj)))
  (w_s (zeN (zdx (znT (ziR (zap zgh (zbs (zbx K rfl) (w_v 3) zq (fun _ _=>rfl)) zq (zaH _)) (zgD (zpg (zph (w_v 2)))))) (zX (zH (i:=3) zce.nd rfl (by first | exact Or.inl rfl | exact Or.inr rfl) (zay (w_a zq (w_a zq zj))))) zbb))
  (w_s (zH (i:=4) zce.nd rfl (by first | exact Or.inl rfl | exact Or.inr rfl) (zR c_n_law_take (hr.mono (by decide)) rfl (w_a (w_v 0) (w_a (zJ zaX (w_v 1) zq) zj))))
  (w_s (zdx (zap zgh (w_v 4) (w_v 1) (zaH _)) (zX (zax (zay (w_a (w_v 3) (w_a zpd zj))))) zbb)
  (zX (zax (zay (w_a (zbs (zeG K rfl) (zeF (w_a (w_v 3) (w_a (zay (w_a zq (w_a zq zj))) zj))) (zR c_n_law_take (hr.mono (by decide)) rfl (w_a (w_v 0) (w_a zq zj))) (fun _ _=>rfl)) (w_a (w_v 4) zj))))))))),
  (zv (zD (by decide) (zS (zd (ze 0) zk) (zm zT)))
  (zv (zeW (zb6 (ziZ (zaa (zt zd7 (zt zaI (ze 3) zo) zo)) (zpv (zvZ (ze 2)))) (zD (by decide) (zaz (zd zo (zd zo zk)))) zbd))
  (zv (zD (by decide) (zS (zd (ze 0) (zd (zt zaY (ze 1) zo) zk)) (zm (zm zT))))
  (zv (zb6 (zaa (zt zd7 (ze 4) (ze 1))) (zaK (zaz (zd (ze 3) (zd zpq zk)))) zbd)
  (zaK (zaz (zd (zt zdi (zeI (zd (ze 3) (zd (zaz (zd zo (zd zo zk))) zk))) (zS (zd (ze 0) (zd zo zk)) (zm (zm zT)))) (zd (ze 4) zk))))))))⟩
noncomputable def zfa:MS:=(zF (zY 3 (mOp zcZ (mUn (zby "Form" "beneath") (zi 1)) (mOp zca (zi 2) (mC (.int 1)))))
  (zF (zY 4 (zao zO (zf (mUn (zby "Form" "beneath") (zi 0)) (zf (zi 3) zr))))
  (zF (zY 5 (mOp zgm (zi 3) (zi 4)))
  (zF (zY 6 (mOp zcZ (mOp zgm (mUn (zby "Form" "beneath") (zi 0)) (zi 4)) (mOp zca (zi 2) (mC (.int 0)))))
  (zF (zY 7 (mDC (mIt zcY (mFz (mUn (zby "Form" "numbers") (zi 0)))) 2 [5] (zbC 2 (zV (zB 0) (zV (zB 1) zbV))) zhj (zi 0) (mOp zcZ (zi 1) (zi 2))))
  (zF (zcI (mIt zcY (mFz (mUn (zby "Form" "numbers") (zi 1)))) (zbC 2 (zV (zB 8) (zV (zB 9) zbV))) (zdT 7 (zi 8) (mOp zcS (zdj (zi 7) (zi 8) (mC (.int 0))) (mOp zcZ (zi 9) (zi 6)))))
  (zbB (zao zbp (zf (zi 7) (zf (mOp zcZ (mUn (zby "Form" "beneath") (zi 0)) (zi 5)) (zf (mCB zhf (zf (mUn (zby "Form" "room") (zi 0)) (zf (mUn (zby "Form" "room") (zi 1)) zr))) zr)))))))))))
noncomputable def zb3:FD:=zbZ 10 [0,1,2] zfa
theorem zkH(F:Fun K "form_sum" "form_sum" zcr f fd)(hB:Bl mg ["abs", "tuple", "zip", "max", "sorted", "len", "enumerate", "range", "int", "dict", "min", "isinstance"])(hT:XT K zcf xfl){CForm:Addr}(oXForm:OCal P w K mg base "Form" CForm ["numbers", "beneath", "room"])(c_common_factor:Cal P w K mg base "common_factor" 1 ["one", "other"] (spV K 2 zO))(c_settled:Cal P w K mg base "settled" 3 ["numbers", "beneath", "room"] (spV K 3 zbp)):FnOk P w K mg base CX0 4 f fd ["one", "other", "f"] (spV K 3 zb3) :=
 F.okV (n:=3) (nn:=10) (pn:=[0,1,2]) (m:=zfa) zba rfl rfl (by decide) fun cdv A outer s H E hr=>⟨_,(w_s (zH (i:=3) zba.nd rfl (by first | exact Or.inl rfl | exact Or.inr rfl) (zJ zbI (zbR K rfl (w_v 1) rfl) (zbs (zbx K rfl) (w_v 2) zq (fun _ _=>rfl))))
  (w_s (zH (i:=4) zba.nd rfl (by first | exact Or.inl rfl | exact Or.inr rfl) (zR c_common_factor (hr.mono (by decide)) rfl (w_a (zbR K rfl (w_v 0) rfl) (w_a (w_v 3) zj))))
  (w_s (zH (i:=5) zba.nd rfl (by first | exact Or.inl rfl | exact Or.inr rfl) (zJ zdw (w_v 3) (w_v 4)))
  (w_s (zH (i:=6) zba.nd rfl (by first | exact Or.inl rfl | exact Or.inr rfl) (zJ zbI (zJ zdw (zbR K rfl (w_v 0) rfl) (w_v 4)) (zbs (zbx K rfl) (w_v 2) zq (fun _ _=>rfl))))
  (w_s (zq7 hr (i:=7) zba.nd rfl (by first | exact Or.inl rfl | exact Or.inr rfl) 2 ["product", "many"] rfl rfl ⟨rfl,by decide,by decide,by decide,by decide⟩ (.cons (j:=5) rfl (.inl rfl) rfl .nil) rfl (zdc (zcT K rfl (zbR K rfl (w_v 0) rfl))) (fun _ _ _ _=>(zbu K rfl rfl (w_g (zy (i:=0) (by show List.Nodup (["product", "many", "first"]:List Str); decide) rfl (by first | exact Or.inl rfl | exact Or.inr rfl)) (w_g (zy (i:=1) (by show List.Nodup (["product", "many", "first"]:List Str); decide) rfl (by first | exact Or.inl rfl | exact Or.inr rfl)) zbt)))) (zir (zeo (zaS (i:=0) (by decide) (zaS (i:=1) (by decide) zdB)))) (fun _ _ _ _=>zdY) (fun _ _ _ _=>(w_v 0)) (fun _ _ _ _=>(zJ zbI (w_v 1) (w_v 2))))
  (w_s (zbO PassesOwn.never rfl (zdc (zcT K rfl (zbR K rfl (w_v 1) rfl))) (zbu K rfl rfl (w_g (zy (i:=8) zba.nd rfl (by first | exact Or.inl rfl | exact Or.inr rfl)) (w_g (zy (i:=9) zba.nd rfl (by first | exact Or.inl rfl | exact Or.inr rfl)) zbt))) (zX (zeP hr (w_v 7) (w_v 8) (zJ zaX (zep hr (w_v 7) (w_v 8) zq ⟨rfl,rfl,rfl,rfl⟩) (zJ zbI (w_v 9) (w_v 6))))))
  (zX (zax (zR c_settled (hr.mono (by decide)) rfl (w_a (w_v 7) (w_a (zJ zbI (zbR K rfl (w_v 0) rfl) (w_v 5)) (w_a (zcD (zej rfl) rfl (hB "max" (by decide)) PyProof.Rows.boot_max (w_a (zbR K rfl (w_v 0) rfl) (w_a (zbR K rfl (w_v 1) rfl) zj))) zj)))))))))))),
  (zv (zD (by decide) (zt zbJ (zdh (za1 oXForm.xn oXForm.cl (oXForm.na _ (by decide))) (ze 1)) (zt zaI (ze 2) zo)))
  (zv (zD (by decide) (zS (zd (zdh (za1 oXForm.xn oXForm.cl (oXForm.na _ (by decide))) (ze 0)) (zd (ze 3) zk)) (zm (zm zT))))
  (zv (zD (by decide) (zt zel (ze 3) (ze 4)))
  (zv (zD (by decide) (zt zbJ (zt zel (zdh (za1 oXForm.xn oXForm.cl (oXForm.na _ (by decide))) (ze 0)) (ze 4)) (zt zaI (ze 2) zo)))
  (zv (zD (by decide) (zwG (nt:=2) (js:=[5]) (by decide) (zcA (zcU (zdh (za1 oXForm.xn oXForm.cl (oXForm.na _ (by decide))) (ze 0)))) (zbw (zK (zz (by decide)) (zK (zz (by decide)) zbv))) zd6 (ze 0) (zt zbJ (ze 1) (ze 2))))
  (zv (zbP (zcA (zcU (zdh (za1 oXForm.xn oXForm.cl (oXForm.na _ (by decide))) (ze 1)))) (zbw (zK (zz (by decide)) (zK (zz (by decide)) zbv))) (ze0 (i:=7) (ze 8) (zt zaY (zeq (ze 7) (ze 8) zo) (zt zbJ (ze 9) (ze 6)))))
  (zaK (zS (zd (ze 7) (zd (zt zbJ (zdh (za1 oXForm.xn oXForm.cl (oXForm.na _ (by decide))) (ze 0)) (ze 5)) (zd (zbz zgF (zd (zdh (za1 oXForm.xn oXForm.cl (oXForm.na _ (by decide))) (ze 0)) (zd (zdh (za1 oXForm.xn oXForm.cl (oXForm.na _ (by decide))) (ze 1)) zk))) zk))) (zm (zm (zm zT)))))))))))⟩
noncomputable def zb4:MS:=(zbB (zao zbp (zf (ze4 (mOp zgr (zbg (zf (mC (.int 0)) zr)) (zi 1)) (mOp zca (zi 0) (mC (.int 0)))) (zf (mOp zca (zi 0) (mC (.int 1))) (zf (mC (.int 256)) zr)))))
noncomputable def zaf:FD:=zbZ 2 [0,1] zb4
theorem zez(F:Fun K "number_by_powers" "number_by_powers" zaq f fd)(hB:Bl mg ["abs", "tuple", "zip", "max", "sorted", "len", "enumerate", "range", "int", "dict", "min", "isinstance"])(hT:XT K zcf xfl){TROOM:Tok}(g_ROOM:mg "ROOM"=some (.int 256 TROOM))(c_settled:Cal P w K mg base "settled" 3 ["numbers", "beneath", "room"] (spV K 3 zbp)):FnOk P w K mg base CX0 4 f fd ["f", "many_letters"] (spV K 2 zaf) :=
 F.okV (n:=2) (nn:=2) (pn:=[0,1]) (m:=zb4) zev rfl rfl (by decide) fun cdv A outer s H E hr=>⟨_,(zX (zax (zR c_settled (hr.mono (by decide)) rfl (w_a (zfJ hr (zJ (zgO K rfl) (zay (w_a zq zj)) (w_v 1)) (zbs (zbx K rfl) (w_v 0) zq (fun _ _=>rfl))) (w_a (zbs (zbx K rfl) (w_v 0) zq (fun _ _=>rfl)) (w_a (zf1 (v:=.int 256) rfl g_ROOM ⟨_,rfl⟩) zj)))))),
  (zaK (zS (zd (zfK (zt zgP (zaz (zd zo zk)) (ze 1)) (zt zaI (ze 0) zo)) (zd (zt zaI (ze 0) zo) (zd zo zk))) (zm (zm (zm zT)))))⟩
noncomputable def zci:MS:=(zF (zY 2 zcX)
  (zF (zcI (mIt zcY (mFz (mUn (zby "Form" "numbers") (zi 0)))) (zbC 2 (zV (zB 3) (zV (zB 4) zbV))) (zcI (mIt zcY (mFz (mUn (zby "Form" "numbers") (zi 1)))) (zbC 2 (zV (zB 5) (zV (zB 6) zbV))) (zF (zY 7 (zao zbm (zf (zi 3) (zf (zi 5) zr))))
  (zdT 2 (zi 7) (mOp zcS (zdj (zi 2) (zi 7) (mC (.int 0))) (mOp zcZ (zi 4) (zi 6)))))))
  (zbB (zao zbp (zf (zi 2) (zf (mOp zcZ (mUn (zby "Form" "beneath") (zi 0)) (mUn (zby "Form" "beneath") (zi 1))) (zf (mCB zhf (zf (mUn (zby "Form" "room") (zi 0)) (zf (mUn (zby "Form" "room") (zi 1)) zr))) zr)))))))
noncomputable def zaG:FD:=zbZ 8 [0,1] zci
theorem zfb(F:Fun K "times_by_powers" "times_by_powers" zaA f fd)(hB:Bl mg ["abs", "tuple", "zip", "max", "sorted", "len", "enumerate", "range", "int", "dict", "min", "isinstance"])(hT:XT K zcf xfl){CForm:Addr}(oXForm:OCal P w K mg base "Form" CForm ["numbers", "beneath", "room"])(c_powers_plus:Cal P w K mg base "powers_plus" 1 ["one", "other"] (spV K 2 zbm))(c_settled:Cal P w K mg base "settled" 3 ["numbers", "beneath", "room"] (spV K 3 zbp)):FnOk P w K mg base CX0 4 f fd ["one", "other"] (spV K 2 zaG) :=
 F.okV (n:=2) (nn:=8) (pn:=[0,1]) (m:=zci) zae rfl rfl (by decide) fun cdv A outer s H E hr=>⟨_,(w_s (zH (i:=2) zae.nd rfl (by first | exact Or.inl rfl | exact Or.inr rfl) zc5)
  (w_s (zbO PassesOwn.never rfl (zdc (zcT K rfl (zbR K rfl (w_v 0) rfl))) (zbu K rfl rfl (w_g (zy (i:=3) zae.nd rfl (by first | exact Or.inl rfl | exact Or.inr rfl)) (w_g (zy (i:=4) zae.nd rfl (by first | exact Or.inl rfl | exact Or.inr rfl)) zbt))) (zX (zbO PassesOwn.never rfl (zdc (zcT K rfl (zbR K rfl (w_v 1) rfl))) (zbu K rfl rfl (w_g (zy (i:=5) zae.nd rfl (by first | exact Or.inl rfl | exact Or.inr rfl)) (w_g (zy (i:=6) zae.nd rfl (by first | exact Or.inl rfl | exact Or.inr rfl)) zbt))) (w_s (zH (i:=7) zae.nd rfl (by first | exact Or.inl rfl | exact Or.inr rfl) (zR c_powers_plus (hr.mono (by decide)) rfl (w_a (w_v 3) (w_a (w_v 5) zj))))
  (zX (zeP hr (w_v 2) (w_v 7) (zJ zaX (zep hr (w_v 2) (w_v 7) zq ⟨rfl,rfl,rfl,rfl⟩) (zJ zbI (w_v 4) (w_v 6)))))))))
  (zX (zax (zR c_settled (hr.mono (by decide)) rfl (w_a (w_v 2) (w_a (zJ zbI (zbR K rfl (w_v 0) rfl) (zbR K rfl (w_v 1) rfl)) (w_a (zcD (zej rfl) rfl (hB "max" (by decide)) PyProof.Rows.boot_max (w_a (zbR K rfl (w_v 0) rfl) (w_a (zbR K rfl (w_v 1) rfl) zj))) zj)))))))),
  (zv (zD (by decide) zda)
  (zv (zbP (zcA (zcU (zdh (za1 oXForm.xn oXForm.cl (oXForm.na _ (by decide))) (ze 0)))) (zbw (zK (zz (by decide)) (zK (zz (by decide)) zbv))) (zbP (zcA (zcU (zdh (za1 oXForm.xn oXForm.cl (oXForm.na _ (by decide))) (ze 1)))) (zbw (zK (zz (by decide)) (zK (zz (by decide)) zbv))) (zv (zD (by decide) (zS (zd (ze 3) (zd (ze 5) zk)) (zm (zm zT))))
  (ze0 (i:=2) (ze 7) (zt zaY (zeq (ze 2) (ze 7) zo) (zt zbJ (ze 4) (ze 6)))))))
  (zaK (zS (zd (ze 2) (zd (zt zbJ (zdh (za1 oXForm.xn oXForm.cl (oXForm.na _ (by decide))) (ze 0)) (zdh (za1 oXForm.xn oXForm.cl (oXForm.na _ (by decide))) (ze 1))) (zd (zbz zgF (zd (zdh (za1 oXForm.xn oXForm.cl (oXForm.na _ (by decide))) (ze 0)) (zd (zdh (za1 oXForm.xn oXForm.cl (oXForm.na _ (by decide))) (ze 1)) zk))) zk))) (zm (zm (zm zT)))))))⟩
noncomputable def zdp:MS:=(zF (zY 3 (mOp zcS (mC (.int 1)) (zao zw (zf (zi 0) (zf (zi 2) zr)))))
  (zF (zY 4 (zao zw (zf (zi 0) (zf (mC (.int 3)) zr))))
  (zF (zY 5 (zf2 zr))
  (zF (zcI (zd2 (zf (zi 3) zr)) (zB 6) (zF (zY 7 (zf2 zr))
  (zF (zcI (zd2 (zf (zi 3) zr)) (zB 8) (zF (zY 9 (zao zbq (zf (zi 0) (zf (mCB (f1 zeu) (zf (zi 1) zr)) (zf (mC (.bool true)) zr)))))
  (zF (zcL (zlr (mB (mOp (zdA false) (zi 4) (mC (.int 2)))) (mB (mOp (zdA false) (zao zw (zf (zi 0) (zf (mC (.int 3)) zr))) (mC (.int 0))))) (zY 9 (zbg (zf (zbg (zf (mC (.int 0)) (zf (mC (.int 1)) zr))) (zf (mC .none) zr)))) zbA)
  (zgn (zhQ 7 (zi 9))))))
  (zgn (zhQ 5 (mCB (f1 zco) (zf (zi 7) zr)))))))
  (zbB (zbg (zf (zi 1) (zf (mCB (f1 zco) (zf (zi 5) zr)) zr))))))))
noncomputable def zbr:FD:=zbZ 10 [0,1,2] zdp
theorem zhG(F:Fun K "_law_table" "_law_table" zbl f fd)(hB:Bl mg ["abs", "tuple", "zip", "max", "sorted", "len", "enumerate", "range", "int", "dict", "min", "isinstance"])(hT:XT K zcf xfl)(c_n_law_take:Cal P w K mg base "_law_take" 1 ["_law_box_here", "_law_wide"] (spV K 2 zw))(c_n_law_entry:Cal P w K mg base "_law_entry" 3 ["_law_box_here", "_law_many", "_law_may_be_nought"] (spV K 3 zbq)):FnOk P w K mg base CX0 4 f fd ["_law_box_here", "_law_letters", "_law_most"] (spV K 3 zbr) :=
 F.okV (n:=3) (nn:=10) (pn:=[0,1,2]) (m:=zdp) zal rfl rfl (by decide) fun cdv A outer s H E hr=>⟨_,(w_s (zH (i:=3) zal.nd rfl (by first | exact Or.inl rfl | exact Or.inr rfl) (zJ zaX zq (zR c_n_law_take (hr.mono (by decide)) rfl (w_a (w_v 0) (w_a (w_v 2) zj)))))
  (w_s (zH (i:=4) zal.nd rfl (by first | exact Or.inl rfl | exact Or.inr rfl) (zR c_n_law_take (hr.mono (by decide)) rfl (w_a (w_v 0) (w_a zq zj))))
  (w_s (zH (i:=5) zal.nd rfl (by first | exact Or.inl rfl | exact Or.inr rfl) (zeF zj))
  (w_s (zbO PassesOwn.never rfl (zcy rfl (hB "range" (by decide)) (w_a (w_v 3) zj)) (zy (i:=6) zal.nd rfl (by first | exact Or.inl rfl | exact Or.inr rfl)) (w_s (zH (i:=7) zal.nd rfl (by first | exact Or.inl rfl | exact Or.inr rfl) (zeF zj))
  (w_s (zbO PassesOwn.never rfl (zcy rfl (hB "range" (by decide)) (w_a (w_v 3) zj)) (zy (i:=8) zal.nd rfl (by first | exact Or.inl rfl | exact Or.inr rfl)) (w_s (zH (i:=9) zal.nd rfl (by first | exact Or.inl rfl | exact Or.inr rfl) (zR c_n_law_entry (hr.mono (by decide)) rfl (w_a (w_v 0) (w_a (zcD (zdS K rfl) rfl (hB "len" (by decide)) PySem.boot_len (w_a (w_v 1) zj)) (w_a zvP zj)))))
  (w_s (zeN (zdx (znT (ziR (zap zgh (w_v 4) zq (zaH _)) (zgD (zap zgh (zR c_n_law_take (hr.mono (by decide)) rfl (w_a (w_v 0) (w_a zq zj))) zq (zaH _))))) (zX (zH (i:=9) zal.nd rfl (by first | exact Or.inl rfl | exact Or.inr rfl) (zay (w_a (zay (w_a zq (w_a zq zj))) (w_a zpd zj))))) zbb))
  (zX (zg7 (zlg K rfl PySem.F.plainAttrs_list PySem.F.slot_list_append PySem.F.type_list_append zdv (w_v 7) (w_a (w_v 9) zj)))))))
  (zX (zg7 (zlg K rfl PySem.F.plainAttrs_list PySem.F.slot_list_append PySem.F.type_list_append zdv (w_v 5) (w_a (zfm (zbH K rfl) rfl (hB "tuple" (by decide)) PyProof.Rows.boot_tuple (w_a (w_v 7) zj)) zj)))))))
  (zX (zax (zay (w_a (w_v 1) (w_a (zfm (zbH K rfl) rfl (hB "tuple" (by decide)) PyProof.Rows.boot_tuple (w_a (w_v 5) zj)) zj))))))))),
  (zv (zD (by decide) (zt zaY zo (zS (zd (ze 0) (zd (ze 2) zk)) (zm (zm zT)))))
  (zv (zD (by decide) (zS (zd (ze 0) (zd zo zk)) (zm (zm zT))))
  (zv (zD (by decide) (zeI zk))
  (zv (zbP (zc6 (zd (ze 3) zk)) (zz (by decide)) (zv (zD (by decide) (zeI zk))
  (zv (zbP (zc6 (zd (ze 3) zk)) (zz (by decide)) (zv (zD (by decide) (zS (zd (ze 0) (zd (zbz zcH (zd (ze 1) zk)) (zd zvS zk))) (zm (zm (zm zT)))))
  (zv (zeW (zb6 (ziZ (zaa (zt zd7 (ze 4) zo)) (zaa (zt zd7 (zS (zd (ze 0) (zd zo zk)) (zm (zm zT))) zo))) (zD (by decide) (zaz (zd (zaz (zd zo (zd zo zk))) (zd zpq zk)))) zbd))
  (zhh (zj0 (i:=7) (ze 9))))))
  (zhh (zj0 (i:=5) (zbz zcb (zd (ze 7) zk)))))))
  (zaK (zaz (zd (ze 1) (zd (zbz zcb (zd (ze 5) zk)) zk))))))))⟩
noncomputable def zb5:MS:=(zF (zlt (zi 0) (zbC 2 (zV (zB 1) (zV (zB 2) zbV))))
  (zF (zY 3 zcX)
  (zF (zcI (mIt zn1 (mFz (zao za7 (zf (mCB (f1 zeu) (zf (zi 2) zr)) zr)))) (zbC 2 (zV (zB 4) (zV (zB 5) zbV))) (zF (zY 6 (zao zan (zf (mCB (f1 zeu) (zf (zi 1) zr)) (zf (zbg (zf (mC (.int 1)) (zf (mC (.int 1)) zr))) zr))))
  (zF (zcI (zqF (zf (zi 2) (zf (zi 4) zr))) (zbC 2 (zV (zB 7) (zV (zB 8) zbV))) (zY 6 (zao zaF (zf (zi 6) (zf (zao zau (zf (mOp zca (zi 7) (zi 8)) (zf (mCB (f1 zeu) (zf (zi 1) zr)) zr))) zr)))))
  (zY 3 (zao zaQ (zf (zi 3) (zf (zi 6) (zf (zi 5) zr))))))))
  (zft [0] 3))))
noncomputable def zaw:FD:=zbZ 9 [0] zb5
theorem zeA(F:Fun K "_law_signed_sum" "_law_signed_sum" zat f fd)(hB:Bl mg ["abs", "tuple", "zip", "max", "sorted", "len", "enumerate", "range", "int", "dict", "min", "isinstance"])(hT:XT K zcf xfl)(c_n_law_poly_add:Cal P w K mg base "_law_poly_add" 3 ["_law_one", "_law_other", "_law_sign"] (spV K 3 zaQ))(c_n_law_poly_mult:Cal P w K mg base "_law_poly_mult" 3 ["_law_one", "_law_other"] (spV K 2 zaF))(c_n_law_poly_number:Cal P w K mg base "_law_poly_number" 1 ["_law_many", "_law_f"] (spV K 2 zan))(c_n_law_entry_poly:Cal P w K mg base "_law_entry_poly" 1 ["_law_entry_here", "_law_many"] (spV K 2 zau))(c_n_law_orders:Cal P w K mg base "_law_orders" 1 ["_law_many"] (spV K 1 za7)):FnOk P w K mg base CX0 4 f fd ["_law_table_here"] (spV K 1 zaw) :=
 F.okV (n:=1) (nn:=9) (pn:=[0]) (m:=zb5) zE rfl rfl (by decide) fun cdv A outer s H E hr=>⟨_,(w_s (zii (w_v 0) (zbu K rfl rfl (w_g (zy (i:=1) zE.nd rfl (by first | exact Or.inl rfl | exact Or.inr rfl)) (w_g (zy (i:=2) zE.nd rfl (by first | exact Or.inl rfl | exact Or.inr rfl)) zbt))))
  (w_s (zH (i:=3) zE.nd rfl (by first | exact Or.inl rfl | exact Or.inr rfl) zc5)
  (w_s (zbO PassesOwn.never rfl (ziS K rfl (zcT K rfl (zR c_n_law_orders (hr.mono (by decide)) rfl (w_a (zcD (zdS K rfl) rfl (hB "len" (by decide)) PySem.boot_len (w_a (w_v 2) zj)) zj)))) (zbu K rfl rfl (w_g (zy (i:=4) zE.nd rfl (by first | exact Or.inl rfl | exact Or.inr rfl)) (w_g (zy (i:=5) zE.nd rfl (by first | exact Or.inl rfl | exact Or.inr rfl)) zbt))) (w_s (zH (i:=6) zE.nd rfl (by first | exact Or.inl rfl | exact Or.inr rfl) (zR c_n_law_poly_number (hr.mono (by decide)) rfl (w_a (zcD (zdS K rfl) rfl (hB "len" (by decide)) PySem.boot_len (w_a (w_v 1) zj)) (w_a (zay (w_a zq (w_a zq zj))) zj))))
  (w_s (zbO PassesOwn.never rfl (zlH K rfl rfl (hB "zip" (by decide)) (w_a (w_v 2) (w_a (w_v 4) zj))) (zbu K rfl rfl (w_g (zy (i:=7) zE.nd rfl (by first | exact Or.inl rfl | exact Or.inr rfl)) (w_g (zy (i:=8) zE.nd rfl (by first | exact Or.inl rfl | exact Or.inr rfl)) zbt))) (zX (zH (i:=6) zE.nd rfl (by first | exact Or.inl rfl | exact Or.inr rfl) (zR c_n_law_poly_mult (hr.mono (by decide)) rfl (w_a (w_v 6) (w_a (zR c_n_law_entry_poly (hr.mono (by decide)) rfl (w_a (zbs (zbx K rfl) (w_v 7) (w_v 8) (fun _ _=>rfl)) (w_a (zcD (zdS K rfl) rfl (hB "len" (by decide)) PySem.boot_len (w_a (w_v 1) zj)) zj))) zj))))))
  (zX (zH (i:=3) zE.nd rfl (by first | exact Or.inl rfl | exact Or.inr rfl) (zR c_n_law_poly_add (hr.mono (by decide)) rfl (w_a (w_v 3) (w_a (w_v 6) (w_a (w_v 5) zj)))))))))
  (zX (zax (w_v 3)))))),
  (zv (zpB (ze 0) (zbw (zK (zz (by decide)) (zK (zz (by decide)) zbv))))
  (zv (zD (by decide) zda)
  (zv (zbP (zi2 (zcU (zS (zd (zbz zcH (zd (ze 2) zk)) zk) (zm zT)))) (zbw (zK (zz (by decide)) (zK (zz (by decide)) zbv))) (zv (zD (by decide) (zS (zd (zbz zcH (zd (ze 1) zk)) (zd (zaz (zd zo (zd zo zk))) zk)) (zm (zm zT))))
  (zv (zbP (zlJ (zd (ze 2) (zd (ze 4) zk))) (zbw (zK (zz (by decide)) (zK (zz (by decide)) zbv))) (zD (by decide) (zS (zd (ze 6) (zd (zS (zd (zt zaI (ze 7) (ze 8)) (zd (zbz zcH (zd (ze 1) zk)) zk)) (zm (zm zT))) zk)) (zm (zm zT)))))
  (zD (by decide) (zS (zd (ze 3) (zd (ze 6) (zd (ze 5) zk))) (zm (zm (zm zT))))))))
  (zi1 (i:=3)))))⟩
noncomputable def zdf:MS:=(zbB (mIf (mB (mOp (zpL false) (zi 1) (mC .none))) (zi 0) (zao zaG (zf (zi 0) (zf (zao zav (zf (zi 1) (zf (zi 2) zr))) zr)))))
noncomputable def zbF:FD:=zbZ 3 [0,1,2] zdf
theorem zjq(F:Fun K "by_letter" "by_letter" zb7 f fd)(hB:Bl mg ["abs", "tuple", "zip", "max", "sorted", "len", "enumerate", "range", "int", "dict", "min", "isinstance"])(hT:XT K zcf xfl)(c_letter_by_powers:Cal P w K mg base "letter_by_powers" 3 ["k", "many_letters"] (spV K 2 zav))(c_times_by_powers:Cal P w K mg base "times_by_powers" 4 ["one", "other"] (spV K 2 zaG)):FnOk P w K mg base CX0 5 f fd ["form", "letter", "many_letters"] (spV K 3 zbF) :=
 F.okV (n:=3) (nn:=3) (pn:=[0,1,2]) (m:=zdf) zjo rfl rfl (by decide) fun cdv A outer s H E hr=>⟨_,(zX (zax (ztM (zap zvm (w_v 1) zpd (zaH _)) (w_v 0) (zR c_times_by_powers (hr.mono (by decide)) rfl (w_a (w_v 0) (w_a (zR c_letter_by_powers (hr.mono (by decide)) rfl (w_a (w_v 1) (w_a (w_v 2) zj))) zj)))))),
  (zaK (zxv (zaa (zt zv2 (ze 1) zpq)) (ze 0) (zS (zd (ze 0) (zd (zS (zd (ze 1) (zd (ze 2) zk)) (zm (zm zT))) zk)) (zm (zm zT)))))⟩
noncomputable def zdR:MS:=(zF (zlt (zi 0) (zbC 2 (zV (zB 1) (zV (zB 2) zbV))))
  (zF (zY 3 (mCB (f1 zeu) (zf (zi 1) zr)))
  (zF (zY 4 (zao zaf (zf (mC (.tuple [.int 0,.int 1])) (zf (zi 3) zr))))
  (zF (zY 5 (ze4 (zbg zr) (zao zaf (zf (mC (.tuple [.int 1,.int 1])) (zf (zi 3) zr)))))
  (zF (zcI (mIt zn2 (zi 2)) (zB 6) (zF (zY 7 zcX)
  (zF (zcI (mIt zcY (mFz (zi 5))) (zbC 2 (zV (zB 8) (zV (zB 9) zbV))) (zcI (zms (zf (zi 6) zr)) (zbC 2 (zV (zB 10) (zV (zbC 2 (zV (zB 11) (zV (zB 12) zbV))) zbV))) (zcL (zlr (mB (mOp (fIn true) (zi 10) (zi 8))) (mB (mUn (zwt true [0,1]) (zi 11)))) (zF (zY 13 (mOp zwx (mCB (f1 zeu) (zf (mLC (mIt zn2 (zi 8)) 1 [10] (zB 0) (mB (mOp fGt (zi 0) (zi 1))) (zi 0)) zr)) (mC (.int 1))))
  (zF (zY 14 (mIf (zpw (zi 13)) (zbg (zf (mUn zjV (mOp zca (zi 11) (mC (.int 0)))) (zf (mOp zca (zi 11) (mC (.int 1))) zr))) (zi 11)))
  (zF (zY 15 (mCB (f1 zco) (zf (mCB (f1 zjm) (zf (mOp zdO (zi 8) (zbg (zf (zi 10) zr))) zr)) zr)))
  (zdT 7 (zi 15) (zao zb3 (zf (zdj (zi 7) (zi 15) (zi 4)) (zf (zao zbF (zf (zi 9) (zf (zi 12) (zf (zi 3) zr)))) (zf (zi 14) zr)))))))) zbA)))
  (zY 5 (mFz (zi 7))))))
  (zbB (mCB (f1 zco) (zf (zao za8 (zf (zdj (zi 5) (zfM (zf (mCB (f1 zeu) (zf (zi 2) zr)) zr)) (zi 4)) zr)) zr))))))))
noncomputable def zbN:FD:=zbZ 16 [0] zdR
theorem zhX(F:Fun K "signed_sum" "signed_sum" zbK f fd)(hB:Bl mg ["abs", "tuple", "zip", "max", "sorted", "len", "enumerate", "range", "int", "dict", "min", "isinstance"])(hT:XT K zcf xfl){GNOUGHT:Addr}(g_NOUGHT:mg "NOUGHT"=some (.ref GNOUGHT))(gt_NOUGHT:GTi K GNOUGHT [0,1]){GONE:Addr}(g_ONE:mg "ONE"=some (.ref GONE))(gt_ONE:GTi K GONE [1,1])(c_form_sum:Cal P w K mg base "form_sum" 4 ["one", "other", "f"] (spV K 3 zb3))(c_number_by_powers:Cal P w K mg base "number_by_powers" 4 ["f", "many_letters"] (spV K 2 zaf))(c_fractions_of:Cal P w K mg base "fractions_of" 3 ["form"] (spV K 1 za8))(c_by_letter:Cal P w K mg base "by_letter" 5 ["form", "letter", "many_letters"] (spV K 3 zbF)):FnOk P w K mg base CX0 6 f fd ["table"] (spV K 1 zbN) :=
 F.okV (n:=1) (nn:=16) (pn:=[0]) (m:=zdR) zG rfl rfl (by decide) fun cdv A outer s H E hr=>⟨_,(w_s (zii (w_v 0) (zbu K rfl rfl (w_g (zy (i:=1) zG.nd rfl (by first | exact Or.inl rfl | exact Or.inr rfl)) (w_g (zy (i:=2) zG.nd rfl (by first | exact Or.inl rfl | exact Or.inr rfl)) zbt))))
  (w_s (zH (i:=3) zG.nd rfl (by first | exact Or.inl rfl | exact Or.inr rfl) (zcD (zdS K rfl) rfl (hB "len" (by decide)) PySem.boot_len (w_a (w_v 1) zj)))
  (w_s (zH (i:=4) zG.nd rfl (by first | exact Or.inl rfl | exact Or.inr rfl) (zR c_number_by_powers (hr.mono (by decide)) rfl (w_a (zf1 (v:=.ref GNOUGHT) rfl g_NOUGHT rfl) (w_a (w_v 3) zj))))
  (w_s (zH (i:=5) zG.nd rfl (by first | exact Or.inl rfl | exact Or.inr rfl) (zfJ hr (zay zj) (zR c_number_by_powers (hr.mono (by decide)) rfl (w_a (zf1 (v:=.ref GONE) rfl g_ONE rfl) (w_a (w_v 3) zj)))))
  (w_s (zbO PassesOwn.never rfl (zpk K rfl (w_v 2)) (zy (i:=6) zG.nd rfl (by first | exact Or.inl rfl | exact Or.inr rfl)) (w_s (zH (i:=7) zG.nd rfl (by first | exact Or.inl rfl | exact Or.inr rfl) zc5)
  (w_s (zbO PassesOwn.never rfl (zdc (zcT K rfl (w_v 5))) (zbu K rfl rfl (w_g (zy (i:=8) zG.nd rfl (by first | exact Or.inl rfl | exact Or.inr rfl)) (w_g (zy (i:=9) zG.nd rfl (by first | exact Or.inl rfl | exact Or.inr rfl)) zbt))) (zX (zbO PassesOwn.never rfl (zsB K rfl rfl (hB "enumerate" (by decide)) (w_a (w_v 6) zj)) (zbu K rfl rfl (w_g (zy (i:=10) zG.nd rfl (by first | exact Or.inl rfl | exact Or.inr rfl)) (w_g (zbu K rfl rfl (w_g (zy (i:=11) zG.nd rfl (by first | exact Or.inl rfl | exact Or.inr rfl)) (w_g (zy (i:=12) zG.nd rfl (by first | exact Or.inl rfl | exact Or.inr rfl)) zbt))) zbt))) (zX (zdx (znT (ziR (zap (zmj K rfl) (w_v 10) (w_v 8) rfl) (zgD (zap (zps K rfl hr) (w_v 11) (zf1 (v:=.ref GNOUGHT) rfl g_NOUGHT rfl) (zaH _))))) (w_s (zH (i:=13) zG.nd rfl (by first | exact Or.inl rfl | exact Or.inr rfl) (zJ zvk (zcD (zdS K rfl) rfl (hB "len" (by decide)) PySem.boot_len (w_a (znU 1 ["other"] rfl rfl ⟨rfl,by decide,by decide,by decide,by decide⟩ (.cons (j:=10) rfl (.inl rfl) rfl .nil) rfl (zpk K rfl (w_v 8)) (fun _ _ _ _=>(zy (i:=0) (by show List.Nodup (["other", "column"]:List Str); decide) rfl (by first | exact Or.inl rfl | exact Or.inr rfl))) (zgC (by decide)) (fun _ _ _ _=>(zpi (zap zoO (w_v 0) (w_v 1) (zaH _)))) (fun _ _ _ _=>(w_v 0))) zj)) zq))
  (w_s (zH (i:=14) zG.nd rfl (by first | exact Or.inl rfl | exact Or.inr rfl) (ztM (ztN K rfl (w_v 13)) (zay (w_a (zpe zgV (zbs (zbx K rfl) (w_v 11) zq (fun _ _=>rfl))) (w_a (zbs (zbx K rfl) (w_v 11) zq (fun _ _=>rfl)) zj))) (w_v 11)))
  (w_s (zH (i:=15) zG.nd rfl (by first | exact Or.inl rfl | exact Or.inr rfl) (zfm (zbH K rfl) rfl (hB "tuple" (by decide)) PyProof.Rows.boot_tuple (w_a (zcD (zl1 K rfl) rfl (hB "sorted" (by decide)) PyProof.Rows.boot_sorted (w_a (zJ (zd8 K rfl) (w_v 8) (zay (w_a (w_v 10) zj))) zj)) zj)))
  (zX (zeP hr (w_v 7) (w_v 15) (zR c_form_sum (hr.mono (by decide)) rfl (w_a (zep hr (w_v 7) (w_v 15) (w_v 4) ⟨rfl,rfl,rfl,rfl⟩) (w_a (zR c_by_letter (hr.mono (by decide)) rfl (w_a (w_v 9) (w_a (w_v 12) (w_a (w_v 3) zj)))) (w_a (w_v 14) zj))))))))) zbb)))))
  (zX (zH (i:=5) zG.nd rfl (by first | exact Or.inl rfl | exact Or.inr rfl) (zcT K rfl (w_v 7)))))))
  (zX (zax (zfm (zbH K rfl) rfl (hB "tuple" (by decide)) PyProof.Rows.boot_tuple (w_a (zR c_fractions_of (hr.mono (by decide)) rfl (w_a (zep hr (w_v 5) (zfm (zou rfl) rfl (hB "tuple" (by decide)) PyProof.Rows.boot_tuple (w_a (zfm zn6 rfl (hB "range" (by decide)) PyProof.Rows.boot_range (w_a (zcD (zdS K rfl) rfl (hB "len" (by decide)) PySem.boot_len (w_a (w_v 2) zj)) zj)) zj)) (w_v 4) ⟨rfl,rfl,rfl,rfl⟩) zj)) zj))))))))),
  (zv (zpB (ze 0) (zbw (zK (zz (by decide)) (zK (zz (by decide)) zbv))))
  (zv (zD (by decide) (zbz zcH (zd (ze 1) zk)))
  (zv (zD (by decide) (zS (zd (zre gt_NOUGHT) (zd (ze 3) zk)) (zm (zm zT))))
  (zv (zD (by decide) (zfK (zaz zk) (zS (zd (zre gt_ONE) (zd (ze 3) zk)) (zm (zm zT)))))
  (zv (zbP (zpA (ze 2)) (zz (by decide)) (zv (zD (by decide) zda)
  (zv (zbP (zcA (zcU (ze 5))) (zbw (zK (zz (by decide)) (zK (zz (by decide)) zbv))) (zbP (zsG (zd (ze 6) zk)) (zbw (zK (zz (by decide)) (zK (zbw (zK (zz (by decide)) (zK (zz (by decide)) zbv))) zbv))) (zb6 (ziZ (zaa (zt (zmN true) (ze 10) (ze 8))) (zaa (zyc (neg:=true) gt_NOUGHT (ze 11)))) (zv (zD (by decide) (zt zwy (zbz zcH (zd (zlv (nt:=1) (js:=[10]) (by decide) (zpA (ze 8)) (zz (by decide)) (zaa (zt zpr (ze 0) (ze 1))) (ze 0)) zk)) zo))
  (zv (zD (by decide) (zxv (zpx (ze 13)) (zaz (zd (zdh zhe (zt zaI (ze 11) zo)) (zd (zt zaI (ze 11) zo) zk))) (ze 11)))
  (zv (zD (by decide) (zbz zcb (zd (zbz zri (zd (zt zd9 (ze 8) (zaz (zd (ze 10) zk))) zk)) zk)))
  (ze0 (i:=7) (ze 15) (zS (zd (zeq (ze 7) (ze 15) (ze 4)) (zd (zS (zd (ze 9) (zd (ze 12) (zd (ze 3) zk))) (zm (zm (zm zT)))) (zd (ze 14) zk))) (zm (zm (zm zT)))))))) zbd)))
  (zD (by decide) (zcU (ze 7))))))
  (zaK (zbz zcb (zd (zS (zd (zeq (ze 5) (zov (zd (zbz zcH (zd (ze 2) zk)) zk)) (ze 4)) zk) (zm zT)) zk))))))))⟩
noncomputable def zru:MS:=(zF (zY 1 (zf2 zr))
  (zF (zcI (zd2 (zf (mCB zhf (zf (mC (.int 2)) (zf (mCB zm4 (zf (mCB (f1 zeu) (zf (zi 0) zr)) (zf (mC (.int 3)) zr))) zr))) zr)) (zB 2) (zF (zY 3 (zao zb9 (zf (zi 0) (zf (zi 2) zr))))
  (zgn (zhQ 1 (zao zbr (zf (zi 3) (zf (zao zbn (zf (zi 3) (zf (mOp zcS (mC (.int 1)) (zao zw (zf (zi 3) (zf (mC (.int 3)) zr)))) zr))) (zf (mC (.int 4)) zr))))))))
  (zF (zcI (mIt zn1 (mFz (mOp zpt (zi 1) (mSl zn4 (zi 1) zdb (zgo (mC (.int 1))))))) (zB 4) (zF (zY 5 (zao zbN (zf (zi 4) zr)))
  (zcL (mOr (zpu (mB (mUn (zsZ "tuple") (zi 5)))) (mB (mOp (zn0 true) (zi 5) (zao zaE (zf (zao zaw (zf (zi 4) zr)) zr))))) (zbB (mC (.bool false))) zbA)))
  (zbB (mC (.bool true))))))
noncomputable def ziC:FD:=zbZ 6 [0] zru
theorem zwL(F:Fun K "law" "law" zfO f fd)(hB:Bl mg ["abs", "tuple", "zip", "max", "sorted", "len", "enumerate", "range", "int", "dict", "min", "isinstance"])(hT:XT K zcf xfl)(c_signed_sum:Cal P w K mg base "signed_sum" 6 ["table"] (spV K 1 zbN))(c_n_law_box:Cal P w K mg base "_law_box" 1 ["_law_script", "_law_k"] (spV K 2 zb9))(c_n_law_take:Cal P w K mg base "_law_take" 1 ["_law_box_here", "_law_wide"] (spV K 2 zw))(c_n_law_names:Cal P w K mg base "_law_names" 2 ["_law_box_here", "_law_many"] (spV K 2 zbn))(c_n_law_poly_told:Cal P w K mg base "_law_poly_told" 1 ["_law_sums"] (spV K 1 zaE))(c_n_law_table:Cal P w K mg base "_law_table" 4 ["_law_box_here", "_law_letters", "_law_most"] (spV K 3 zbr))(c_n_law_signed_sum:Cal P w K mg base "_law_signed_sum" 4 ["_law_table_here"] (spV K 1 zaw)):FnOk P w K mg base CX0 7 f fd ["_law_script"] (spV K 1 ziC) :=
 F.okV (n:=1) (nn:=6) (pn:=[0]) (m:=zru) zge rfl rfl (by decide) fun cdv A outer s H E hr=>⟨_,(w_s (zH (i:=1) zge.nd rfl (by first | exact Or.inl rfl | exact Or.inr rfl) (zeF zj))
  (w_s (zbO PassesOwn.never rfl (zcy rfl (hB "range" (by decide)) (w_a (zcD (zej rfl) rfl (hB "max" (by decide)) PyProof.Rows.boot_max (w_a zq (w_a (zcD (znH rfl) rfl (hB "min" (by decide)) PyProof.Rows.boot_min (w_a (zcD (zdS K rfl) rfl (hB "len" (by decide)) PySem.boot_len (w_a (w_v 0) zj)) (w_a zq zj))) zj))) zj)) (zy (i:=2) zge.nd rfl (by first | exact Or.inl rfl | exact Or.inr rfl)) (w_s (zH (i:=3) zge.nd rfl (by first | exact Or.inl rfl | exact Or.inr rfl) (zR c_n_law_box (hr.mono (by decide)) rfl (w_a (w_v 0) (w_a (w_v 2) zj))))
  (zX (zg7 (zlg K rfl PySem.F.plainAttrs_list PySem.F.slot_list_append PySem.F.type_list_append zdv (w_v 1) (w_a (zR c_n_law_table (hr.mono (by decide)) rfl (w_a (w_v 3) (w_a (zR c_n_law_names (hr.mono (by decide)) rfl (w_a (w_v 3) (w_a (zJ zaX zq (zR c_n_law_take (hr.mono (by decide)) rfl (w_a (w_v 3) (w_a zq zj)))) zj))) (w_a zq zj)))) zj))))))
  (w_s (zbO PassesOwn.never rfl (ziS K rfl (zcT K rfl (zJ zvE (w_v 1) (zfp (zpj K rfl) (w_v 1) zfn (zfo zq))))) (zy (i:=4) zge.nd rfl (by first | exact Or.inl rfl | exact Or.inr rfl)) (w_s (zH (i:=5) zge.nd rfl (by first | exact Or.inl rfl | exact Or.inr rfl) (zR c_signed_sum (hr.mono (by decide)) rfl (w_a (w_v 4) zj)))
  (zX (zdx (znT (ztL (zpg (zph (zcD (zxm K rfl) rfl (hB "isinstance" (by decide)) PyProof.Rows.boot_isinstance (w_a (w_v 5) (w_a (zvQ (v:=.ty "tuple") rfl (hB "tuple" (by decide)) PyProof.Rows.boot_tuple rfl) zj))))) (zpf (zap (zps K rfl hr) (w_v 5) (zR c_n_law_poly_told (hr.mono (by decide)) rfl (w_a (zR c_n_law_signed_sum (hr.mono (by decide)) rfl (w_a (w_v 4) zj)) zj)) (zaH _))))) (zX (zax zvP)) zbb))))
  (zX (zax zvP))))),
  (zv (zD (by decide) (zeI zk))
  (zv (zbP (zc6 (zd (zbz zgF (zd zo (zd (zbz zta (zd (zbz zcH (zd (ze 0) zk)) (zd zo zk))) zk))) zk)) (zz (by decide)) (zv (zD (by decide) (zS (zd (ze 0) (zd (ze 2) zk)) (zm (zm zT))))
  (zhh (zj0 (i:=1) (zS (zd (ze 3) (zd (zS (zd (ze 3) (zd (zt zaY zo (zS (zd (ze 3) (zd zo zk)) (zm (zm zT)))) zk)) (zm (zm zT))) (zd zo zk))) (zm (zm (zm zT))))))))
  (zv (zbP (zi2 (zcU (zt zvW (ze 1) (zpJ zi7 (ze 1) zfA (zfB zo))))) (zz (by decide)) (zv (zD (by decide) (zS (zd (ze 4) zk) (zm zT)))
  (zb6 (ztR (zpv (zvZ (zyb (T := "tuple") (ze 5)))) (zaa (zt (zvV true) (ze 5) (zS (zd (zS (zd (ze 4) zk) (zm zT)) zk) (zm zT))))) (zaK zvS) zbd)))
  (zaK zvS))))⟩
end
end K45
set_option exponentiation.threshold 10000
open PySem L2
local macro_rules | `(tactic| simp_arith [$ls,*])=>`(tactic| simp (disch:=first | omega | (simp only [List.length_cons,List.length_nil,List.length_map,List.length_append,List.length_take,List.length_drop,Nat.zero_add,Nat.reduceAdd]<;>omega) | fail) only [$ls,*,↓zbW,↓zu,↓nr zdC,↓zp6,↓zyd,↓zuo,↓zp7,↓zmO,↓zup,↓zp8,↓zmP,↓zp9,↓zqa,↓zuq,↓zqb,↓zqc,↓zqd,↓zqe,↓zmQ,↓zmR,↓zmS,↓zqf,↓zqg,↓zye,↓zqh,↓zur,↓zqi,↓zqj,↓zqk,↓zql,↓zka,↓zmT,↓zmU,↓zkb,↓zus,↓zut,↓zmV,↓zmX,↓zqn,↓zqo,↓zuv,↓ziy,↓zmY,↓zqp,↓zqq,↓zkc,↓zmZ,↓zkd,↓zm0,↓zuw,↓zqr,↓zkq,↓zqG,↓zkx,↓zrj,↓zhy,↓zrn,↓znj,↓znm,nr bd,nr ztU,nr zpN,nr zmy,nr zj5,nr zis,nr zit,nr zhl,nr zj6,nr zpO,nr zxE,nr zxF,nr zpP,nr zmz,nr zmA,nr ztV,ztW,nr ztX,nr ztY,nr zmB,nr zxI,nr zxJ,nr ztZ,nr zt0,nr zt1,nr zxL,nr zxM,nr zxN,nr zpS,nr zpT,nr zmC,nr zpU,nr zt2,nr zt3,nr zxT,nr zxU,nr zxV,nr zxW,nr zt5,nr zt6,nr zpX,nr zpY,nr zxX,nr zt7,nr zt8,nr zt9,nr zmD,nr zua,nr zub,nr zuc,zud,zue,nr zmE,nr zj7,nr ziv,nr zuf,nr zug,nr zpZ,nr zmF,zxY,zxZ,zx0,zx1,zx2,zx3,zx4,zx5,zx6,nr zui,nr zuj,nr zuk,nr zmH,nr zul,nr zum,zmI,nr zp0,zp1,zun,zuu,nr zmW,nr zux,nr zkf,nr zqs,nr zuy,zob,zqt,zjc,nr zuB,nr zm5,nr zqH,zm6,zlO,zcx,znb,znc,zqS,zqT,zkv,zqU,ziA,nr zuD,nr zuE,zgN,zfI,zlR,zq2,zjl,nr zrk,nr zrl,zro,zrp,zrq,zrr,znk,zkF,znl,zjn,zhz,zfN,List.getElem?_cons_zero,List.getElem?_cons_succ,List.set_cons_zero,List.set_cons_succ,List.cons_append,List.nil_append,List.length_cons,List.length_nil,List.replicate,Option.map_some,decide_eq_true_eq,List.mem_cons,List.not_mem_nil,true_or,or_true,or_false,false_or,if_true,if_false,ite_true,ite_false,true_and,and_true,and_false,false_and,Bool.not_true,Bool.not_false,Bool.false_eq_true,not_true,not_false_iff,Nat.zero_add,Nat.reduceAdd,Nat.reduceLeDiff,Nat.reduceEqDiff,Nat.reduceSub,Nat.reduceLT,List.map_cons,List.map_nil,List.getD_cons_zero,List.getD_cons_succ,List.drop_succ_cons,List.drop_zero,decide_true,decide_false,Bool.true_and,Bool.and_true,Bool.true_or,Bool.or_true,Bool.false_or,Bool.or_false,Bool.false_and,Bool.and_false,reduceCtorEq,List.length_map,List.length_append,nr zuh,nr zmG,String.reduceEq,↓reduceIte,Int.reduceEq,Int.reduceNe,Int.reduceLT,Int.reduceLE,Int.reduceAdd,Int.reduceSub,Int.reduceNeg,Int.reduceToNat,Int.cast_ofNat_Int,implies_true,forall_const,Option.map_none])
local macro_rules | `(tactic| simp_arith)=>`(tactic| simp_arith [Option.map_none])
namespace K45
open PySem L2
abbrev bx(x y:Int):U:=.l [.int x,.int y]
theorem zbe{x y w:Int}{Q:U×List U->Prop}(hw:0 < w)(hw2:w<=18446744073709551616)(k:∀ r x' y',0<=r->r < w->Q (.d (.int r),[bx x' y',.d (.int w)])):Wo (zw [bx x y,.d (.int w)]) Q:=by
 simp_arith [zw,zdP]
 refine zgq (fun hx=>?_) (fun hx=>?_)
 ·simp_arith [hx]
  exact k _ _ _ (Int.emod_nonneg _ (by omega)) (Int.emod_lt_of_pos _ hw)
 ·simp_arith [hx]
  exact k _ _ _ (Int.emod_nonneg _ (by omega)) (Int.emod_lt_of_pos _ hw)
theorem zrv{ns:List Int}{k:Int}(h0:0<=k)(h:k < (ns.length:Int)):∃ v:Int,atI (ns.map PyData.int) k=some (.int v):=by
 have hk:k.toNat < ns.length:=by omega
 refine⟨ns[k.toNat],?_⟩
 unfold atI ixN
 rw [if_pos h0,if_pos (by rw [List.length_map]; exact h),bd,List.getElem?_map,ql hk]
 rfl
theorem zyj{ns:List Int}{k:Int}{Q:U×List U->Prop}(h0:0<=k)(q:∀ x y,Q (bx x y,[.d (.list (ns.map .int)),.d (.int k)])):Wo (zb9 [.d (.list (ns.map .int)),.d (.int k)]) Q:=by
 simp_arith [zb9,zee,List.length_map]
 refine zgq (fun h1=>?_) (fun h1=>?_)
 ·obtain⟨v,hv⟩:=zrv h0 h1
  simp_arith [hv]
  exact q _ _
 ·simp_arith [List.length_map]
  refine zgq (fun h2=>?_) (fun h2=>?_)
  ·have hm:=Int.emod_lt_of_pos k h2
   have hm0:=Int.emod_nonneg k (show(ns.length:Int)≠0 by omega)
   obtain⟨v,hv⟩:=zrv hm0 hm
   simp_arith [hv]
   exact q _ _
  ·simp_arith
   exact q _ _
theorem zcw{x y:Int}(hx:0<=x)(hy:0<=y):zO [.d (.int x),.d (.int y)]=some (.d (.int (Int.gcd x y:Nat)),[.d (.int x),.d (.int y)]):=by
 refine zag ?_
 simp_arith [zO,zcJ]
 refine zkg (fun k ρ=>∃ a b:Int,ρ=[some (.d (.int a)),some (.d (.int b))]/\0<=a/\0<=b/\b.toNat=k/\Int.gcd a b=Int.gcd x y) _ ⟨x,y,rfl,hx,hy,rfl,rfl⟩ ?_
 rintro k _ ⟨a,b,rfl,ha,hb,hk,hg⟩
 simp_arith
 by_cases hz:b=0
 ·subst hz
  have e:a=((Int.gcd x y:Nat):Int):=by rw [<-hg,Int.gcd_zero_right]; omega
  subst e
  simp_arith [bne_self_eq_false]
 ·have hb':(b != 0)=true:=by simp [hz]
  simp_arith [hb']
  refine⟨(a % b).toNat,?_,_,_,rfl,by omega,Int.emod_nonneg _ hz,rfl,?_⟩
  ·have:=Int.emod_lt_of_pos a (show 0 < b by omega)
   have:=Int.emod_nonneg a hz
   omega
  ·rw [zjO a b ha (by omega)]
   exact hg
theorem zl3{a b:Nat}(h:a<=b)(hb:b.log2 < 9000):a.log2 < 9000:=by
 by_cases z:a=0
 ·rw [z]; decide
 ·exact Nat.lt_of_le_of_lt ((Nat.le_log2 (by omega)).mpr (qx (Nat.log2_self_le z) h)) hb
theorem zbX{n d:Int}(hd:d≠0)(hb:d.natAbs.log2 < 9000):zQ [.d (.int n),.d (.int d)]=some (.d (fR (Rat.divInt n d)),[.d (.int n),.d (.int d)]):=by
 have gl:Int.gcd n d<=d.natAbs:=Int.gcd_le_natAbs_right n hd
 have gp:0 < Int.gcd n d:=Int.gcd_pos_of_ne_zero_right n hd
 have glog:=zl3 gl hb
 refine zag ?_
 rw [<-zqL hd]
 unfold zhT zhq
 rw [<-zkr n d (show(0:Int) < (Int.gcd n d:Nat) by omega),<-zkr d d (show(0:Int) < (Int.gcd n d:Nat) by omega)]
 simp_arith [zQ,zcs]
 refine zkg (fun k ρ=>∃ a b:Int,ρ=[some (.d (.int n)),some (.d (.int d)),some (.d (.int a)),some (.d (.int b))]/\0<=a/\0<=b/\b.toNat=k/\Int.gcd a b=Int.gcd n d) _ ⟨_,_,rfl,by split<;>omega,by split<;>omega,rfl,zqK n d⟩ ?_
 rintro k _ ⟨a,b,rfl,ha,hb0,hk,hg⟩
 simp_arith
 by_cases hz:b=0
 ·subst hz
  have e:a=((Int.gcd n d:Nat):Int):=by rw [<-hg,Int.gcd_zero_right]; omega
  subst e
  have c1:zg6 n ((Int.gcd n d:Nat):Int):=⟨by omega,by rw [Int.natAbs_natCast]; exact glog⟩
  have c2:zg6 n (0 - ((Int.gcd n d:Nat):Int)):=⟨by omega,by rw [Int.zero_sub,Int.natAbs_neg,Int.natAbs_natCast]; exact glog⟩
  simp_arith
  refine zgq (fun h=>?_) (fun h=>?_)
  ·simp_arith [h,zf7 (a:=n) c2,zf7 (a:=d) c2]
  ·simp_arith [h,zf7 (a:=n) c1,zf7 (a:=d) c1]
 ·simp_arith [hz]
  refine⟨(a % b).toNat,?_,_,_,rfl,by omega,Int.emod_nonneg _ hz,rfl,?_⟩
  ·have:=Int.emod_lt_of_pos a (show 0 < b by omega)
   have:=Int.emod_nonneg a hz
   omega
  ·rw [zjO a b ha (by omega)]
   exact hg
theorem zeB{n d:Int}(hd:d≠0)(hb:d.natAbs.log2 < 9000):zct [.d (.int n),.d (.int d)]=some (.d (fR (Rat.divInt n d)),[.d (.int n),.d (.int d)]):=by
 have gl:Int.gcd n d<=d.natAbs:=Int.gcd_le_natAbs_right n hd
 have gp:0 < Int.gcd n d:=Int.gcd_pos_of_ne_zero_right n hd
 have c1:∀ z:Int,zih z ((Int.gcd n d:Nat):Int):=fun z=>⟨by omega,by rw [Int.natAbs_natCast]; exact zl3 gl hb⟩
 refine zag ?_
 rw [<-zqL hd]
 unfold zhT zhq
 simp_arith [zct,ze8]
 by_cases h:d < 0
 ·have cf:zO [.d (.int (if -n < 0 then - -n else -n)),.d (.int (-d))]=some (.d (.int (Int.gcd n d:Nat)),[.d (.int (if -n < 0 then - -n else -n)),.d (.int (-d))]):=by
   rw [zcw (by split<;>omega) (by omega),ziQ,Int.neg_gcd,Int.gcd_neg]
  simp_arith [h,cf,zlz (c1 _)]
 ·have cf:zO [.d (.int (if n < 0 then -n else n)),.d (.int d)]=some (.d (.int (Int.gcd n d:Nat)),[.d (.int (if n < 0 then -n else n)),.d (.int d)]):=by
   rw [zcw (by split<;>omega) (by omega),ziQ]
  simp_arith [h,cf,zlz (c1 _)]
structure Sz (r:Rat):Prop where
 n:r.num.natAbs < 2^4000
 d:r.den < 2^4000
theorem Sz.di{r:Rat}(h:Sz r):(r.den:Int).natAbs < 2^4000:=by rw [Int.natAbs_natCast]; exact h.d
theorem lgd{n:Nat}(h:n < 2^4000):n.log2 < 4000:=zbY (by decide) h
theorem lgm{n:Nat}(h:n < 2^4000):n.log2 < 1000000:=Nat.lt_trans (lgd h) (by decide)
theorem zrw{a b:Nat}(h:a < 2^4000)(h':b < 2^4000):(a * b).log2 < 9000:=by
 refine Nat.lt_trans (zbY (k:=4000+4000) (by decide) ?_) (by decide)
 rw [Nat.pow_add]
 exact Nat.mul_lt_mul'' h h'
section
variable {a b:Rat}
theorem zgs(ha:Sz a)(hb:Sz b):zaW [.d (fR a),.d (fR b)]=some (.d (fR (a+b)),[.d (fR a),.d (fR b)]):=by
 refine zag ?_
 have da:=zhr a
 have db:=zhr b
 have dab:((a.den:Int) * (b.den:Int))≠0:=Int.mul_ne_zero (by omega) (by omega)
 have lf:=zbX (n:=a.num * (b.den:Int)+b.num * (a.den:Int)) dab (by rw [Int.natAbs_mul,Int.natAbs_natCast,Int.natAbs_natCast]; exact zrw ha.d hb.d)
 rw [ztc]at lf
 simp_arith [zaW,zdQ,zcp (lgm ha.n) (lgm hb.di),zcp (lgm hb.n) (lgm ha.di),zcp (lgm ha.di) (lgm hb.di),lf]
theorem zjr(ha:Sz a)(hb:Sz b):zbo [.d (fR a),.d (fR b)]=some (.d (fR (a * b)),[.d (fR a),.d (fR b)]):=by
 refine zag ?_
 have da:=zhr a
 have db:=zhr b
 have dab:((a.den:Int) * (b.den:Int))≠0:=Int.mul_ne_zero (by omega) (by omega)
 have lf:=zbX (n:=a.num * b.num) dab (by rw [Int.natAbs_mul,Int.natAbs_natCast,Int.natAbs_natCast]; exact zrw ha.d hb.d)
 rw [ztd]at lf
 simp_arith [zbo,zdn,zcp (lgm ha.n) (lgm hb.n),zcp (lgm ha.di) (lgm hb.di),lf]
end
end K45
open PySem L2
namespace K45
open PySem L2
abbrev abc:Str := "abcdefghijklmnopqrstuvwxyz"
theorem zgR:∀ c∈abc.cps.toList,c < 128:=by decide
theorem zgS:abc.length=26:=by decide
theorem zto{z:Str}{n:Int}(h0:0<=n)(h1:n<=1):zj8 (.d (.str z)) (.d (.int n))=some (.d (.str (znV z n))):=by
 unfold zj8
 dsimp only
 rw [if_pos ⟨h0,h1⟩]
theorem ztp{k:Nat}{z:Str}{n:Int}(hz:Asc k z)(h0:0<=n)(h1:n<=1):Asc k (znV z n):=by
 rcases(by omega:n=0\/n=1)with rfl | rfl
 ·exact⟨Nat.zero_le _,fun c hc=>by cases hc⟩
 ·exact hz
theorem zyk{zs:List Str}{lo hi:Option Int}:∃ ws:List Str,zdU (zs.map PyData.str) lo hi=ws.map PyData.str/\ws.length<=zs.length/\∀ z∈ws,z∈zs:=by
 refine⟨(zs.drop (HT.sIx zs.length 0 lo)).take (HT.sIx zs.length zs.length hi - HT.sIx zs.length 0 lo),?_,?_,fun z hz=>List.mem_of_mem_drop (List.mem_of_mem_take hz)⟩
 ·unfold zdU
  rw [List.length_map,<-List.map_drop,<-List.map_take]
 ·rw [List.length_take,List.length_drop]
  omega
theorem zuL{neg:Bool}{x:Str}{zs:List Str}{Q:U->Prop}(k:∀ b,Q (.d (.bool b))):Wo (fIn neg (.d (.str x)) (.l (zs.map PyData.str))) Q:=by
 unfold fIn
 show Wo ((zlE (.str x) (zs.map PyData.str)).bind _) Q
 unfold zlE
 rw [zho]
 exact⟨_,rfl,k _⟩
theorem zyl{neg:Bool}{x:Str}{zs:List Str}{Q:U->Prop}(k:∀ b,Q (.d (.bool b))):Wo (fIn neg (.d (.str x)) (.d (.tuple (zs.map PyData.str)))) Q:=by
 unfold fIn
 show Wo ((zlE (.str x) (zs.map PyData.str)).bind _) Q
 unfold zlE
 rw [zho]
 exact⟨_,rfl,k _⟩
theorem ztq{x y m:Int}{Q:U×List U->Prop}(h1:1<=m)(h3:m<=3)(k:∀ (ns:List Str) x' y',ns.length=m.toNat->(∀ z∈ns,Asc 10 z)->Q (.d (.tuple (ns.map .str)),[bx x' y',.d (.int m)])):Wo (zbn [bx x y,.d (.int m)]) Q:=by
 simp_arith [zbn,zdm]
 refine zbe (by decide) (by decide) fun r1 x1 y1 a1 b1=>?_
 simp_arith
 refine zs5 (fun i ρ ys=>∃ (x y:Int) (zs:List Str),ρ=[none,some (bx x y),some (.d (.str abc))]/\ys=zs.map PyData.str/\zs.length=i/\∀ z∈zs,Asc 1 z) ?_ ⟨_,_,[],rfl,rfl,rfl,fun z hz=>by cases hz⟩ ?_ ?_ ?_
 ·rw [zl]; omega
 ·rintro i ρ ys ⟨x,y,zs,rfl,rfl,hl,_⟩
  simp [hl]
 ·rintro i _ _ hi ⟨x,y,zs,rfl,rfl,hl,hz⟩
  simp_arith [zqs]
  refine zbe (by decide) (by decide) fun r2 x2 y2 a2 b2=>?_
  simp_arith
  refine zgK a2 (by rw [zgS]; omega) (by decide) fun c hc=>?_
  simp_arith
  exact⟨x2,y2,zs++[⟨#[c]⟩],rfl,by rw [List.map_append]; rfl,by rw [qr,hl]; rfl,fun z hz'=>by
   rcases List.mem_append.mp hz' with h | h
   ·exact hz z h
   ·cases qp.mp h
    exact Asc.one (zgR c hc)⟩
 rintro _ _ ⟨x2,y2,sg,rfl,rfl,hl,hs⟩
 simp_arith
 refine zbe (by omega) (by omega) fun r3 x3 y3 a3 b3=>?_
 simp_arith
 refine zbe (by decide) (by decide) fun r4 x4 y4 a4 b4=>?_
 simp_arith
 refine zkh (fun i ρ=>∃ (x y:Int) (v7 v8 v9:Option U) (zs:List Str),ρ=[some (bx x y),some (.d (.int m)),some (.d (.str abc)),some (.l (sg.map .str)),some (.d (.int r3)),some (.d (.int r4)),some (.l (zs.map PyData.str)),v7,v8,v9,none]/\zs.length=i/\∀ z∈zs,Asc 10 z) ⟨x4,y4,none,none,none,[],rfl,rfl,fun z hz=>by cases hz⟩ ?_ ?_
 ·rintro i _ hi ⟨x,y,v7,v8,v9,zs,rfl,hlz,hz⟩
  simp_arith
  refine zgK (Int.emod_nonneg _ (by decide)) (by rw [zgS]; exact Int.emod_lt_of_pos _ (by decide)) (by decide) fun c hc=>?_
  simp_arith
  obtain⟨w1,e1,l1,m1⟩:=zyk (zs:=sg) (lo:=none) (hi:=some r3)
  rw [e1]
  refine zm1 (n:=1) (m:=4) (fun z hz=>hs z (m1 z hz)) (by omega) (by decide) fun j1=>?_
  simp_arith
  refine zhn j1 (Asc.one (zgR c hc)) (by decide) fun j2=>?_
  simp_arith
  obtain⟨w2,e2,l2,m2⟩:=zyk (zs:=sg) (lo:=some (r3+1)) (hi:=none)
  rw [e2]
  refine zm1 (n:=1) (m:=4) (fun z hz=>hs z (m2 z hz)) (by omega) (by decide) fun j3=>?_
  simp_arith
  refine zhn j2 j3 (by decide) fun j4=>?_
  simp_arith
  refine zbe (by decide) (by decide) fun r5 x5 y5 a5 b5=>?_
  simp_arith [zto]
  refine zhn j4 (ztp (show Asc 1 "q" by unfold Asc; decide) a5 (by omega)) (by decide) fun j5=>?_
  simp_arith
  refine zuL fun b=>?_
  generalize Txt.join "" w1++{ cps:=#[c] }++Txt.join "" w2++znV "q" r5=nm at *
  have fin:∀ (nm:Str),Asc 10 nm->∃ (x y:Int) (v7 v8 v9:Option U) (ws:List Str),[some (bx x5 y5),some (.d (.int m)),some (.d (.str abc)),some (.l (sg.map .str)),some (.d (.int r3)),some (.d (.int r4)),some (.l (zs.map PyData.str++[.str nm])),some (.d (.int (0+(i:Nat)))),some (.d (.str ⟨#[c]⟩)),some (.d (.str nm)),none]=[some (bx x y),some (U.d (.int m)),some (.d (.str abc)),some (.l (sg.map .str)),some (.d (.int r3)),some (.d (.int r4)),some (.l (ws.map PyData.str)),v7,v8,v9,none]/\ws.length=i+1/\∀ z∈ws,Asc 10 z:=fun nm hn =>
   ⟨x5,y5,_,_,_,zs++[nm],by rw [List.map_append]; rfl,by rw [qr,hlz]; rfl,fun z hz'=>by
    rcases List.mem_append.mp hz' with h | h
    ·exact hz z h
    ·cases qp.mp h
     exact hn⟩
  cases b with
  | true =>
   simp_arith
   refine zgK (by omega) (by rw [zgS]; omega) (by decide) fun d hd=>?_
   simp_arith
   refine zhn (show Asc 2 "zz" by unfold Asc; decide) (Asc.one (zgR d hd)) (by decide) fun j6=>?_
   simp_arith
   exact fin _ (j6.mono (by decide))
  | false =>
   simp_arith
   refine zyl (zs:=["part", "end", "give", "rounds", "letters"]) fun b=>?_
   cases b with
   | true =>
    simp_arith
    refine zgK (by omega) (by rw [zgS]; omega) (by decide) fun d hd=>?_
    simp_arith
    refine zhn (show Asc 2 "zz" by unfold Asc; decide) (Asc.one (zgR d hd)) (by decide) fun j6=>?_
    simp_arith
    exact fin _ (j6.mono (by decide))
   | false =>
    simp_arith
    exact fin _ j5
 ·rintro _ ⟨x,y,v7,v8,v9,zs,rfl,hlz,hz⟩
  simp_arith
  refine zbe (by decide) (by decide) fun r5 x5 y5 a5 b5=>?_
  simp_arith
  refine zgq (fun h5=>?_) (fun h5=>?_)
  ·simp_arith
   refine zbe (by decide) (by decide) fun r6 x6 y6 a6 b6=>?_
   simp_arith
   refine zwu (f:=PyData.str) (xs:=["ends", "pa", "gives", "giv", "x", "y", "r", "rk"]) a6 b6 fun z mz _=>?_
   have az:Asc 10 z:=by
    have:∀ z∈(["ends", "pa", "gives", "giv", "x", "y", "r", "rk"]:List Str),Asc 10 z:=by unfold Asc; decide
    exact this z mz
   simp_arith
   refine zuL fun b=>?_
   cases b with
   | false =>
    simp_arith
    exact k zs _ _ hlz hz
   | true =>
    simp_arith
    refine zbe (by omega) (by omega) fun r7 x7 y7 a7 b7=>?_
    have e7:ixN zs.length r7=some r7.toNat:=by
     unfold ixN
     rw [if_pos a7,if_pos (by omega)]
    simp_arith [e7]
    have es:(zs.map PyData.str).set r7.toNat (.str z)=(zs.set r7.toNat z).map PyData.str:=by rw [List.map_set]
    rw [es]
    refine k _ _ _ (by rw [List.length_set]; exact hlz) fun w hw=>?_
    rcases List.mem_or_eq_of_mem_set hw with h | h
    ·exact hz w h
    ·exact h▸az
  ·simp_arith
   exact k zs _ _ hlz hz
theorem zym{d:Int}(h:1<=d)(h2:d<=1000000):d.natAbs.log2 < 9000:=Nat.lt_trans (zbY (k:=30) (by decide) (by omega)) (by decide)
theorem zhY{n d:Int}(hn:n.natAbs<=1000000)(h1:1<=d)(h4:d<=4):Bd 12 12000000 (Rat.divInt n d):=by
 have:d∣((12:Nat):Int):=by
  rcases(by omega:d=1\/d=2\/d=3\/d=4)with rfl | rfl | rfl | rfl<;>decide
 exact(zwE (M:=12) (by omega) this (by decide)).le (by omega)
theorem zrx{x y:Int}{Q:U×List U->Prop}(k:∀ r x' y',Bd 12 12000000 r->Q (.d (fR r),[bx x' y'])):Wo (zaP [bx x y]) Q:=by
 simp_arith [zaP,zcu]
 refine zbe (by decide) (by decide) fun r x1 y1 h0 h1=>?_
 simp_arith
 refine zgq (fun h7=>?_) (fun h7=>?_)
 ·simp_arith
  refine zqu h0 (by show r < 7; omega) fun a ha=>?_
  have hq:∃ q:Rat,a=fR q/\Bd 12 12000000 q:=by
   simp only [qu,List.not_mem_nil,or_false]at ha
   rcases ha with rfl | rfl | rfl | rfl | rfl | rfl | rfl
   ·exact⟨Rat.divInt 0 1,rfl,zhY (by decide) (by decide) (by decide)⟩
   ·exact⟨Rat.divInt 1 1,rfl,zhY (by decide) (by decide) (by decide)⟩
   ·exact⟨Rat.divInt 1 1,rfl,zhY (by decide) (by decide) (by decide)⟩
   ·exact⟨Rat.divInt (-1) 1,rfl,zhY (by decide) (by decide) (by decide)⟩
   ·exact⟨Rat.divInt 2 1,rfl,zhY (by decide) (by decide) (by decide)⟩
   ·exact⟨Rat.divInt 1 2,rfl,zhY (by decide) (by decide) (by decide)⟩
   ·exact⟨Rat.divInt (-2) 3,rfl,zhY (by decide) (by decide) (by decide)⟩
  obtain⟨q,rfl,hq⟩:=hq
  simp_arith
  exact k q _ _ hq
 ·simp_arith
  refine zgq (fun h11=>?_) (fun h11=>?_)
  ·simp_arith
   refine zbe (by decide) (by decide) fun r2 x2 y2 h2 h3=>?_
   simp_arith
   refine zbe (by decide) (by decide) fun r3 x3 y3 h4 h5=>?_
   simp_arith [zbX (n:=r2 - 9) (d:=1+r3) (by omega) (zym (by omega) (by omega))]
   exact k _ _ _ (zhY (by omega) (by omega) (by omega))
  ·simp_arith
   refine zbe (by decide) (by decide) fun r2 x2 y2 h2 h3=>?_
   simp_arith
   refine zbe (by decide) (by decide) fun r3 x3 y3 h4 h5=>?_
   simp_arith [zbX (n:=r2 - 999999) (d:=1+r3) (by omega) (zym (by omega) (by omega))]
   exact k _ _ _ (zhY (by omega) (by omega) (by omega))
abbrev Et:=Rat×Option Nat
def leD:Option Nat->D
 | none=>.none
 | some k=>.int (k:Int)
def enD(e:Et):D:=.tuple [fR e.1,leD e.2]
def roD(r:List Et):D:=.tuple (r.map enD)
structure EO (n:Nat) (e:Et):Prop where
 bd:Bd 12 12000000 e.1
 lt:∀ k,e.2=some k->k < n
theorem bd1:Bd 12 12000000 1:=zhY (n:=1) (d:=1) (by decide) (by decide) (by decide)
theorem fR1:PyData.tuple [.int 1,.int 1]=fR 1:=rfl
theorem fR0:PyData.tuple [.int 0,.int 1]=fR 0:=rfl
theorem zry{c:Prop}[Decidable c]{X:Option (Bool×En)}{ρ:En}{Q:Bool×En->Prop}(h:c->X=some (false,ρ))(q:Q (false,ρ)):Wo (if c then X else some (false,ρ)) Q:=by
 split
 ·rename_i hc
  rw [h hc]
  exact⟨_,rfl,q⟩
 ·exact⟨_,rfl,q⟩
theorem ztr{x y:Int}{n:Nat}{Q:U×List U->Prop}(n1:1<=n)(n3:n<=3)(k:∀ e x' y',EO n e->Q (.d (enD e),[bx x' y',.d (.int (n:Int)),.d (.bool true)])):Wo (zbq [bx x y,.d (.int (n:Int)),.d (.bool true)]) Q:=by
 simp_arith [zbq,zdo]
 refine zrx fun p x1 y1 sm=>?_
 simp_arith
 refine zry (fun c=>zag ?_) ?_
 ·simp_arith
 simp_arith
 refine zbe (by omega) (by omega) fun r x2 y2 a2 b2=>?_
 simp_arith
 by_cases c:r=(n:Int)
 ·simp_arith [c]
  exact k (p,none) _ _ ⟨sm,fun k hk=>by cases hk⟩
 ·simp_arith [c]
  refine zbe (by decide) (by decide) fun r3 x3 y3 a3 b3=>?_
  simp_arith
  refine zqu a3 b3 fun z hz=>?_
  have e:(r.toNat:Int)=r:=by omega
  have hq:∃ q:Rat,z=fR q/\Bd 12 12000000 q:=by
   simp only [qu,List.not_mem_nil,or_false]at hz
   rcases hz with rfl | rfl
   ·exact⟨p,rfl,sm⟩
   ·exact⟨1,rfl,bd1⟩
  obtain⟨q,rfl,hq⟩:=hq
  simp_arith
  have:=k (q,some r.toNat) x3 y3 ⟨hq,fun k hk=>by cases hk; omega⟩
  simp only [enD,leD,e]at this
  exact this
structure TO (n:Nat) (t:List (List Et)):Prop where
 l1:1<=t.length
 l4:t.length<=4
 sq:∀ r∈t,r.length=t.length
 en:∀ r∈t,∀ e∈r,EO n e
def taD(ns:List Str)(t:List (List Et)):D:=.tuple [.tuple (ns.map .str),.tuple (t.map roD)]
theorem zts{x y:Int}{ns:List Str}{Q:U×List U->Prop}(n1:1<=ns.length)(n3:ns.length<=3)(k:∀ t x' y',TO ns.length t->Q (.d (taD ns t),[bx x' y',.d (.tuple (ns.map .str)),.d (.int 4)])):Wo (zbr [bx x y,.d (.tuple (ns.map .str)),.d (.int 4)]) Q:=by
 simp_arith [zbr,zdp]
 refine zbe (by decide) (by decide) fun r1 x1 y1 a1 b1=>?_
 simp_arith
 refine zbe (by decide) (by decide) fun r2 x2 y2 a2 b2=>?_
 simp_arith
 refine zkh (fun i ρ=>∃ (x y:Int) (v6 v7 v8 v9:Option U) (t:List (List Et)),ρ=[some (bx x y),some (.d (.tuple (ns.map .str))),some (.d (.int 4)),some (.d (.int (1+r1))),some (.d (.int r2)),some (.l (t.map roD)),v6,v7,v8,v9]/\t.length=i/\∀ r∈t,r.length=(1+r1).toNat/\∀ e∈r,EO ns.length e)
  ⟨_,_,_,_,_,_,[],rfl,rfl,fun r hr=>by cases hr⟩ ?_ ?_
 ·rintro i _ hi ⟨x,y,v6,v7,v8,v9,t,rfl,ht,hr⟩
  simp_arith
  refine zkh (fun j ρ=>∃ (x y:Int) (v8 v9:Option U) (ro:List Et),ρ=[some (bx x y),some (.d (.tuple (ns.map .str))),some (.d (.int 4)),some (.d (.int (1+r1))),some (.d (.int r2)),some (.l (t.map roD)),some (.d (.int (0+(i:Nat)))),some (.l (ro.map enD)),v8,v9]/\ro.length=j/\∀ e∈ro,EO ns.length e)
   ⟨_,_,_,_,[],rfl,rfl,fun r hr=>by cases hr⟩ ?_ ?_
  ·rintro j _ hj ⟨x,y,v8,v9,ro,rfl,hl,he⟩
   have goon:∀ {e:Et} {x' y':Int},EO ns.length e->∃ (x y:Int) (v8 v9:Option U) (ro':List Et),[some (bx x' y'),some (U.d (.tuple (ns.map .str))),some (.d (.int 4)),some (.d (.int (1+r1))),some (.d (.int r2)),some (.l (t.map roD)),some (.d (.int (0+(i:Nat)))),some (.l (ro.map enD++[enD e])),some (.d (.int (0+(j:Nat)))),some (.d (enD e))]=[some (bx x y),some (.d (.tuple (ns.map .str))),some (.d (.int 4)),some (.d (.int (1+r1))),some (.d (.int r2)),some (.l (t.map roD)),some (.d (.int (0+(i:Nat)))),some (.l (ro'.map enD)),v8,v9]/\ro'.length=j+1/\∀ e∈ro',EO ns.length e:=fun{e x' y'} h =>
    ⟨x',y',_,_,ro++[e],by rw [List.map_append]; rfl,by simp [hl],fun z hz=>by
     rcases List.mem_append.mp hz with hz | hz
     ·exact he z hz
     ·cases qp.mp hz
      exact h⟩
   have z0:EO ns.length (0,none):=⟨Bd.zero,fun k hk=>by cases hk⟩
   have e0:PyData.tuple [.tuple [.int 0,.int 1],.none]=enD (0,none):=rfl
   simp_arith
   refine ztr n1 n3 fun e x3 y3 ho=>?_
   simp_arith
   by_cases c2:r2=2
   ·simp_arith [c2]
    refine zbe (by decide) (by decide) fun r3 x4 y4 a3 b3=>?_
    simp_arith
    by_cases c3:r3=0
    ·simp_arith [c3,e0]
     rw [<-c2]
     exact goon z0
    ·simp_arith [c3]
     rw [<-c2]
     exact goon ho
   ·simp_arith [c2]
    exact goon ho
  ·rintro _ ⟨x,y,v8,v9,ro,rfl,hl,he⟩
   simp_arith
   refine⟨x,y,_,_,_,_,t++[ro],by rw [List.map_append]; rfl,by simp [ht],fun z hz=>?_⟩
   rcases List.mem_append.mp hz with hz | hz
   ·exact hr z hz
   ·cases qp.mp hz
    exact⟨hl,he⟩
 ·rintro _ ⟨x,y,v6,v7,v8,v9,t,rfl,ht,hr⟩
  simp_arith
  exact k t x y ⟨by omega,by omega,fun r h=>by rw [(hr r h).1,ht],fun r h=>(hr r h).2⟩
end K45
open PySem L2
namespace K45
open PySem L2
theorem ziD{M B:Nat}{r:Rat}(h:Bd M B r)(hM:0 < M)(h1:M < 2^4000)(h2:B < 2^4000):Sz r:=by
 obtain⟨a,b⟩:=h.size hM
 exact⟨Nat.lt_of_le_of_lt b h2,Nat.lt_of_le_of_lt a h1⟩
abbrev znn(p:Pq Rat):U:=.d (.tuple (tmG fR p))
abbrev dT(p:Pq Rat):U:=.d (.dict (dcG fR p))
theorem zrz{u:U}{α:Type}{a b:Option α}:(if u.own=true/\u.own=false then a else b)=b:=if_neg fun⟨h,h'⟩=>by rw [h]at h'; cases h'
def Ln{α:Type}(n:Nat)(p:Pq α):Prop:=∀ t∈p,t.1.length=n
theorem ztt{p:Pq Rat}{u:U}(hu:u.fz=some (.dict (dcG fR p)))(nd:NdK p)(hl:p.length < 64):zaE [u]=some (znn (srt p),[dT p]):=by
 refine zag ?_
 simp_arith [zaE,zcg,hu]
 refine zgb (e:=fun t=>.tuple [pwD t.1,fR t.2]) (by omega) (fun t ht ys=>?_) ?_
 ·simp_arith [zdd nd ht]
 ·rw [show(p.map fun t=>PyData.tuple [pwD t.1,fR t.2])=tmG fR p from rfl]
  simp_arith [zq0 (c:=fR) nd hl]
theorem zkI{M B:Nat}{p q:Pq Rat}{u1 u2:U}{s:Int}(hu1:zfE u1=some (.t (kvG fR p)))(hu2:u2.fz=some (.dict (dcG fR q)))(hs:s=1\/s=-1)(np:NdK p)(nq:NdK q)(hp:PB M B p)(hq:PB M B q)(hM:0 < M)(h1:M < 2^4000)(h2:B+q.length * B < 2^4000)(l1:p.length < 64)(l2:q.length < 64) :
  zaQ [u1,u2,.d (.int s)]=some (.t (kvG fR (nz (gat p (psg s q)))),[u1,dT q,.d (.int s)]):=by
 refine zag ?_
 have sp:psg s q=q.map fun t=>(t.1,(s:Rat) * t.2):=rfl
 simp_arith [zaQ,zcv,hu1,hu2]
 refine za3 (fun bs cs ρ=>∃ o4 o5,ρ=[some u1,some (dT q),some (.d (.int s)),some (.t (kvG fR (gat p (psg s bs)))),o4,o5,none]) ⟨_,_,rfl⟩ ?_ ?_
 ·rintro bs t cs _ e ⟨o4,o5,rfl⟩
  have tq:t∈q:=by rw [e]; simp
  have lb:bs.length+1<=q.length:=by rw [e,qr,qt]; omega
  have gl:=zcM (psg s bs) p
  rw [show(psg s bs).length=bs.length from List.length_map ..]at gl
  have gb:PB M (B+q.length * B) (gat p (psg s bs)):=fun v hv=>(zf9 (psg s bs) hp (zlS hs fun w hw=>hq w (by rw [e]; exact List.mem_append_left _ hw)) v hv).le (by
   rw [show(psg s bs).length=bs.length from List.length_map ..]
   have:=Nat.mul_le_mul_right B (show bs.length<=q.length by omega)
   omega)
  have s1:=ziD (zjh gb t.1) hM h1 h2
  have s2:Sz ((s:Rat) * t.2):=ziD (zlS hs hq (t.1,(s:Rat) * t.2) (List.mem_map.mpr ⟨t,tq,rfl⟩)) hM h1 (by omega)
  simp_arith [zdd nq tq,zwD hs,zgs s1 s2]
  rw [zlQ (by omega)]
  simp_arith
  rw [show psg s (bs++[t])=psg s bs++[(t.1,(s:Rat) * t.2)] by unfold psg; rw [List.map_append]; rfl,zfF]
  exact⟨_,_,rfl⟩
 ·rintro _ ⟨o4,o5,rfl⟩
  have gn:NdK (gat p (psg s q)):=zea _ np
  have gl:=zcM (psg s q) p
  rw [show(psg s q).length=q.length from List.length_map ..]at gl
  generalize gat p (psg s q)=r at gn gl
  simp_arith
  refine za3 (fun bs cs ρ=>∃ o4,ρ=[some u1,some (dT q),some (.d (.int s)),some (dT r),o4,o5,some (.t (kvG fR (nz bs)))]) ⟨_,rfl⟩ ?_ ?_
  ·rintro bs t cs _ e ⟨o4,rfl⟩
   have tr:t∈r:=by rw [e]; simp
   have ln:(nz bs).length<=bs.length:=List.length_filter_le _ _
   have lb:bs.length+1<=r.length:=by rw [e,qr,qt]; omega
   simp_arith [zdd gn tr,zq1]
   rw [zne]
   by_cases z:t.2=0
   ·simp_arith [z,ne_eq]
    exact⟨_,rfl⟩
   ·simp_arith [z,ne_eq,zdd gn tr,zlQ (c:=fR) (p:=nz bs) (k:=t.1) (x:=t.2) (by omega)]
    rw [zq4 (cs:=cs) (by rw [<-e]; exact gn)]
    exact⟨_,rfl⟩
  ·rintro _ ⟨o4,rfl⟩
   simp_arith [zrz]
theorem zkJ{M N B C n:Nat}{p q:Pq Rat}{u1 u2:U}{Q:U×List U->Prop}(hu1:u1.fz=some (.dict (dcG fR p)))(hu2:u2.fz=some (.dict (dcG fR q)))(np:NdK p)(nq:NdK q)(hp:PB M B p)(hq:PB N C q)(lp:Ln n p)(lq:Ln n q)(ln:n < 64)(hM:0 < M)(hN:0 < N)(h1:M * N < 2^4000)(h2:M < 2^4000)(h3:N < 2^4000)(h4:B < 2^4000)(h5:C < 2^4000)(h6:p.length * q.length * (B * C) < 2^4000)(hBC:0 < B * C)
  (l1:p.length * q.length < 64) (lp6:p.length < 64) (lq6:q.length < 64) (kq:∀ u2',u2'.fz=some (.dict (dcG fR q))->Q (.t (kvG fR (nz (gat [] (za0 p q)))),[dT p,u2'])):Wo (zaF [u1,u2]) Q:=by
 have fin:∀ (o1 o3 o4 o5 o6:Option U) (r:Pq Rat),NdK r->r.length < 64->∀ (Q:Fl->Prop),(∀ o5,Q (.nx [some (dT p),o1,some (dT r),o3,o4,o5,o6,some (.t (kvG fR (nz r)))]))->Wo (zcz (zB 5) (zcL (mB (mOp (zdA true) (mOp zca (zc9 (zi 2) (zi 5)) (mC (.int 0))) (mC (.int 0)))) (zdT 7 (zi 5) (zc9 (zi 2) (zi 5))) zbA) (r.map fun t=>pwD t.1) [some (dT p),o1,some (dT r),o3,o4,o5,o6,some (.t [])]) Q:=by
  intro o1 o3 o4 o5 o6 r gn gl Q hQ
  refine za3 (fun bs cs ρ=>∃ o5,ρ=[some (dT p),o1,some (dT r),o3,o4,o5,o6,some (.t (kvG fR (nz bs)))]) ⟨_,rfl⟩ ?_ ?_
  ·rintro bs t cs _ e ⟨o5,rfl⟩
   have tr:t∈r:=by rw [e]; simp
   have ln:(nz bs).length<=bs.length:=List.length_filter_le _ _
   have lb:bs.length+1<=r.length:=by rw [e,qr,qt]; omega
   simp_arith [zdd gn tr,zq1]
   rw [zne]
   by_cases z:t.2=0
   ·simp_arith [z,ne_eq]
    exact⟨_,rfl⟩
   ·simp_arith [z,ne_eq,zdd gn tr,zlQ (c:=fR) (p:=nz bs) (k:=t.1) (x:=t.2) (by omega)]
    rw [zq4 (cs:=cs) (by rw [<-e]; exact gn)]
    exact⟨_,rfl⟩
  ·rintro _ ⟨o5,rfl⟩
   exact hQ o5
 simp_arith [zaF,zch,hu1]
 refine za3 (fun bs cs ρ=>∃ (x:U) (o3 o4 o5 o6:Option U),ρ=[some (dT p),some x,some (.t (kvG fR (gat [] (za0 bs q)))),o3,o4,o5,o6,none]/\(x=u2\/x=dT q)) ⟨u2,_,_,_,_,rfl,.inl rfl⟩ ?_ ?_
 ·rintro bs s cs _ e ⟨x,o3,o4,o5,o6,rfl,hx'⟩
  have hx:x.fz=some (.dict (dcG fR q)):=by
   rcases hx' with rfl | rfl
   ·exact hu2
   ·rfl
  have sp:s∈p:=by rw [e]; simp
  have lbs:bs.length+1<=p.length:=by rw [e,qr,qt]; omega
  have lpm:(za0 bs q).length+q.length<=p.length * q.length:=by
   rw [zeb]
   have:=Nat.mul_le_mul_right q.length lbs
   rw [Nat.add_mul,Nat.one_mul]at this
   exact this
  simp_arith [hx]
  refine za3 (fun ds fs ρ=>∃ (o4 o5 o6:Option U),ρ=[some (dT p),some (dT q),some (.t (kvG fR (gat [] (za0 bs q++ds.map fun t=>(zaL s.1 t.1,s.2 * t.2))))),some (.d (pwD s.1)),o4,o5,o6,none]) ⟨_,_,_,by rw [List.map_nil,List.append_nil]⟩ ?_ ?_
  ·rintro ds t fs _ e2 ⟨o4,o5,o6,rfl⟩
   have tq:t∈q:=by rw [e2]; simp
   have lds:ds.length+1<=q.length:=by rw [e2,qr,qt]; omega
   have hle:s.1.length=t.1.length:=by rw [lp s sp,lq t tq]
   have s1:=ziD (hp s sp) hM h2 h4
   have s2:=ziD (hq t tq) hN h3 h5
   have hb:PB (M * N) (B * C) (za0 bs q++ds.map fun t=>(zaL s.1 t.1,s.2 * t.2)):=fun v hv=>by
    rcases List.mem_append.mp hv with z | z
    ·obtain⟨a,ha,b,hb,rfl⟩:=zji z
     exact(hp a (by rw [e]; exact List.mem_append_left _ ha)).mul (hq b hb)
    ·obtain⟨b,hb,rfl⟩:=List.mem_map.mp z
     exact(hp s sp).mul (hq b (by rw [e2]; exact List.mem_append_left _ hb))
   have ll:(za0 bs q++ds.map fun t=>(zaL s.1 t.1,s.2 * t.2)).length<=p.length * q.length:=by
    rw [qr,List.length_map]
    omega
   have gl:=zcM (za0 bs q++ds.map fun t=>(zaL s.1 t.1,s.2 * t.2)) []
   rw [List.length_nil,Nat.zero_add]at gl
   have gb:PB (M * N) (p.length * q.length * (B * C)) (gat [] (za0 bs q++ds.map fun t=>(zaL s.1 t.1,s.2 * t.2))):=fun v hv=>(zf9 _ (C:=0) pb0 hb v hv).le (by
    have:=Nat.mul_le_mul_right (B * C) ll
    omega)
   have s3:=ziD (zjh gb (zaL s.1 t.1)) (Nat.mul_pos hM hN) h1 h6
   have s4:Sz (s.2 * t.2):=ziD ((hp s sp).mul (hq t tq)) (Nat.mul_pos hM hN) h1 (by
    have h7:1 * (B * C)<=p.length * q.length * (B * C):=Nat.mul_le_mul_right _ (by
     have:1 * 1<=p.length * q.length:=Nat.mul_le_mul (by omega) (by omega)
     omega)
    omega)
   simp_arith [zfI hle]
   refine zgb (e:=fun t=>.int (t.1+t.2)) (by rw [List.length_zip,lp s sp]; omega) (fun t ht ys=>?_) ?_
   ·simp_arith
   ·rw [show((s.1.zip t.1).map fun t=>PyData.int (t.1+t.2))=(zaL s.1 t.1).map PyData.int by unfold zaL; rw [List.map_zipWith,List.zip,List.map_zipWith]]
    simp_arith [show PyData.tuple ((zaL s.1 t.1).map PyData.int)=pwD (zaL s.1 t.1) from rfl,zdd np sp,zdd nq tq,zjr s1 s2,zgs s3 s4]
    rw [zlQ (by omega)]
    simp_arith
    rw [List.map_append,<-List.append_assoc,List.map_cons,List.map_nil,zfF]
    exact⟨_,_,_,rfl⟩
  ·rintro _ ⟨o4,o5,o6,rfl⟩
   simp_arith
   rw [zom]
   exact⟨dT q,_,_,_,_,rfl,.inr rfl⟩
 ·rintro _ ⟨x,o3,o4,o5,o6,rfl,hx⟩
  have gl:=zcM (za0 p q) []
  rw [List.length_nil,zeb]at gl
  simp_arith
  refine fin _ _ _ _ _ _ (zea _ nd0) (by omega) _ fun o5=>?_
  rcases hx with rfl | rfl
  ·simp_arith [zrz]
   exact kq x hu2
  ·simp_arith
   exact kq (dT q) rfl
def zhZ:Nat->Nat->List (List Int)
 | 0,_=>[[]]
 | n+1,w=>(List.range (w+1)).flatMap fun(j:Nat)=>(zhZ n (w - j)).map fun l=>(j:Int)::l
structure Ks (n w:Nat) (a:List Int):Prop where
 ln:a.length=n
 pos:∀ k∈a,0<=k
 sm:a.sum<=(w:Int)
theorem zno:∀ {a:List Int},(∀ k∈a,0<=k)->0<=a.sum
 | [],_=>by decide
 | k::a,h=>by
  rw [List.sum_cons]
  have:=h k qo
  have:=zno fun j hj=>h j (qm k hj)
  omega
theorem znp:∀ {n w:Nat} {a:List Int},Ks n w a->a∈zhZ n w
 | 0,_,[],_=>qp.mpr rfl
 | 0,_,_::_,h=>by have:=h.ln; simp at this
 | n+1,_,[],h=>by have:=h.ln; simp at this
 | n+1,w,k::a,h=>by
  have h1:=h.pos k qo
  have h2:=zno fun j hj=>h.pos j (qm k hj)
  have h3:=h.sm
  rw [List.sum_cons]at h3
  refine List.mem_flatMap.mpr ⟨k.toNat,List.mem_range.mpr (by omega),List.mem_map.mpr ⟨a,znp ⟨Nat.succ.inj h.ln,fun j hj=>h.pos j (qm k hj),by omega⟩,?_⟩⟩
  rw [Int.toNat_of_nonneg h1]
theorem Ks.up{n w w':Nat}{a:List Int}(h:Ks n w a)(c:w<=w'):Ks n w' a:=⟨h.ln,h.pos,by have:=h.sm; omega⟩
theorem zkK:∀ {a b:List Int},a.length=b.length->(zaL a b).sum=a.sum+b.sum
 | [],[],_=>rfl
 | [],_::_,h=>by simp at h
 | _::_,[],h=>by simp at h
 | x::a,y::b,h=>by
  show((x+y)::zaL a b).sum=_
  rw [List.sum_cons,List.sum_cons,List.sum_cons,zkK (Nat.succ.inj h)]
  omega
theorem zkL:∀ {a b:List Int},(∀ k∈a,0<=k)->(∀ k∈b,0<=k)->∀ k∈zaL a b,0<=k
 | [],_,_,_,k,hk=>by simp [zaL]at hk
 | _::_,[],_,_,k,hk=>by simp [zaL]at hk
 | x::a,y::b,h,h',k,hk=>by
  rcases qu.mp (show k∈(x+y)::zaL a b from hk)with rfl | hk
  ·have:=h x qo
   have:=h' y qo
   omega
  ·exact zkL (fun j hj=>h j (qm _ hj)) (fun j hj=>h' j (qm _ hj)) k hk
theorem Ks.add{n w w':Nat}{a b:List Int}(h:Ks n w a)(h':Ks n w' b):Ks n (w+w') (zaL a b):=by
 refine⟨?_,zkL h.pos h'.pos,?_⟩
 ·unfold zaL
  rw [List.length_zipWith,h.ln,h'.ln,Nat.min_self]
 ·rw [zkK (h.ln.trans h'.ln.symm)]
  have:=h.sm
  have:=h'.sm
  omega
theorem zwM:((zhZ 1 4).map fun a=>hT (kL a)).Nodup:=by decide +kernel
theorem zwN:((zhZ 2 4).map fun a=>hT (kL a)).Nodup:=by decide +kernel
theorem zwO:((zhZ 3 4).map fun a=>hT (kL a)).Nodup:=by decide +kernel
theorem zwP{n:Nat}{p:Pq Rat}(h1:1<=n)(h3:n<=3)(nd:NdK p)(ky:∀ t∈p,Ks n 4 t.1):znd p:=by
 have inj:∀ a∈zhZ n 4,∀ b∈zhZ n 4,hT (kL a)=hT (kL b)->a=b:=by
  rcases(by omega:n=1\/n=2\/n=3)with rfl | rfl | rfl
  ·exact zjj zwM
  ·exact zjj zwN
  ·exact zjj zwO
 unfold znd ze2
 rw [Bool.and_eq_true_iff]
 constructor
 ·rw [List.all_eq_true]
  intro ks hk
  obtain⟨a,_,rfl⟩:=List.mem_map.mp hk
  rw [zwA,List.all_eq_true]
  intro k hk
  obtain⟨i,_,rfl⟩:=List.mem_map.mp hk
  rfl
 ·rw [decide_eq_true_iff,List.map_map]
  have mem:∀ a∈p.map (·.1),a∈zhZ n 4:=fun a ha=>by
   obtain⟨t,ht,rfl⟩:=List.mem_map.mp ha
   exact znp (ky t ht)
  refine List.pairwise_map.mpr (List.Pairwise.imp_of_mem (fun{a b} ha hb (hne:a≠b)=>?_) nd)
  exact fun e=>hne (inj a (mem a ha) b (mem b hb) e)
structure PG (n e a:Nat) (p:Pq Rat):Prop where
 nd:NdK p
 ky:∀ t∈p,Ks n a t.1
 bd:PB (12^a) (2^(24 * a+e)) p
section
variable {n e e' a c:Nat} {p q:Pq Rat}
theorem PG.len(h:PG n e a p)(n1:1<=n)(n3:n<=3)(a4:a<=4):p.length<=35:=by
 have:=List.Nodup.length_le_of_subset h.nd (l₂:=zhZ n 4) fun x hx=>by
  obtain⟨t,ht,rfl⟩:=List.mem_map.mp hx
  exact znp ((h.ky t ht).up a4)
 rw [List.length_map]at this
 refine qx this ?_
 rcases(by omega:n=1\/n=2\/n=3)with rfl | rfl | rfl<;>decide
theorem PG.up(h:PG n e a p)(hc:a<=c)(he:e<=e'):PG n e' c p:=by
 refine⟨h.nd,fun t ht=>(h.ky t ht).up hc,fun t ht=>?_⟩
 obtain⟨d,rfl⟩:=Nat.exists_eq_add_of_le hc
 rw [Nat.pow_add]
 refine((h.bd t ht).wide (12^d)).le ?_
 have h1:12^d<=2^(24 * d):=by rw [Nat.pow_mul]; exact Nat.pow_le_pow_left (by decide) d
 refine qx (Nat.mul_le_mul_left _ h1) ?_
 rw [<-Nat.pow_add]
 exact Nat.pow_le_pow_right (by decide) (by omega)
theorem PG.hash(h:PG n e a p)(n1:1<=n)(n3:n<=3)(a4:a<=4):znd p:=zwP n1 n3 h.nd fun t ht=>(h.ky t ht).up a4
theorem PG.mul(h:PG n e a p)(h':PG n e' c q)(n1:1<=n)(n3:n<=3)(hac:a+c<=4):PG n (e+e'+11) (a+c) (nz (gat [] (za0 p q))):=by
 refine⟨zuC (zea _ nd0),fun t ht=>?_,fun t ht=>?_⟩
 ·refine zfG (Pk:=fun k=>Ks n (a+c) k) (za0 p q) (fun t h=>by cases h) (fun t ht=>?_) t (List.mem_filter.mp ht).1
  obtain⟨u,hu,v,hv,rfl⟩:=zji ht
  exact(h.ky u hu).add (h'.ky v hv)
 ·have:=zf9 (za0 p q) (C:=0) pb0 (ztg h.bd h'.bd) t (List.mem_filter.mp ht).1
  rw [<-Nat.pow_add]at this
  refine this.le ?_
  rw [zeb,Nat.zero_add]
  have l1:=h.len n1 n3 (by omega)
  have l2:=h'.len n1 n3 (by omega)
  have l3:p.length * q.length<=2^11:=qx (Nat.mul_le_mul l1 l2) (by decide)
  refine qx (Nat.mul_le_mul_right _ l3) ?_
  rw [<-Nat.pow_add,<-Nat.pow_add]
  exact Nat.pow_le_pow_right (by decide) (by omega)
theorem PG.add(h:PG n e a p)(h':PG n e a q)(n1:1<=n)(n3:n<=3)(a4:a<=4){s:Int}(hs:s=1\/s=-1):PG n (e+6) a (nz (gat p (psg s q))):=by
 have pk:∀ t∈psg s q,Ks n a t.1:=fun t ht=>by
  obtain⟨u,hu,rfl⟩:=List.mem_map.mp ht
  exact h'.ky u hu
 refine⟨zuC (zea _ h.nd),fun t ht=>zfG (Pk:=fun k=>Ks n a k) (psg s q) h.ky pk t (List.mem_filter.mp ht).1,fun t ht=>?_⟩
 refine(zf9 (psg s q) h.bd (zlS hs h'.bd) t (List.mem_filter.mp ht).1).le ?_
 rw [show(psg s q).length=q.length from List.length_map ..]
 have l2:=h'.len n1 n3 a4
 have:=Nat.mul_le_mul_right (2^(24 * a+e)) l2
 rw [<-Nat.add_assoc,Nat.pow_add _ _ 6]
 omega
end
def zs(n:Nat):List Int:=List.replicate n 0
def zeg(n k:Nat):List Int:=List.replicate k 0++[1]++List.replicate (n - k - 1) 0
def ztu(n:Nat)(f:Rat):Pq Rat:=if f=0 then []else [(zs n,f)]
theorem zjs(k:Nat):PyData.tuple (List.replicate k [PyData.int 0]).flatten=pwD (List.replicate k 0):=by
 unfold pwD
 congr 1
 induction k with
 | zero=>rfl
 | succ k ih=>rw [List.replicate_succ,List.flatten_cons,List.replicate_succ,List.map_cons,<-ih]; rfl
theorem zkM(r:Rat):decide (r.num=0)=decide (r=0):=decide_eq_decide.mpr Rat.num_eq_zero
theorem zhH{n:Nat}{f:Rat}(hn:n<=3):zan [.d (.int (n:Int)),.d (fR f)]=some (.t (kvG fR (ztu n f)),[.d (.int (n:Int)),.d (fR f)]):=by
 refine zag ?_
 simp_arith [zan,zbT,zkM]
 unfold ztu
 by_cases z:f=0
 ·simp_arith [z]
  rfl
 ·simp_arith [z,zjs,Int.toNat_natCast]
  rfl
theorem zyn{k:Int}(h:k < 1000)(h2:-1000 < k):zgr (.d (pwD [0])) (.d (.int k))=some (.d (pwD (List.replicate k.toNat 0))):=by
 rw [<-zjs]
 exact zjl (xs:=[.int 0]) (by decide) h h2 (by decide)
theorem zhI{n k:Nat}(hk:k < n):(zeg n k).length=n:=by
 unfold zeg
 rw [qr,qr,List.length_replicate,List.length_replicate,List.length_singleton]
 omega
theorem zjt(n:Nat):(zs n).length=n:=List.length_replicate
theorem zrA{n k:Nat}:∀ j∈zeg n k,0<=j/\j<=1:=fun j hj=>by
 unfold zeg at hj
 rcases List.mem_append.mp hj with z | z
 ·rcases List.mem_append.mp z with z | z
  ·rw [List.eq_of_mem_replicate z]; omega
  ·rw [qp.mp z]; omega
 ·rw [List.eq_of_mem_replicate z]; omega
theorem zl4{n:Nat}:∀ j∈zs n,j=0:=fun j hj=>List.eq_of_mem_replicate hj
theorem nd1{t:List Int×Rat}:NdK [t]:=by unfold NdK; simp
end K45
open PySem L2
namespace K45
open PySem L2
structure Fm where
 p:Pq Int
 b:Int
 r:Int
def cF(F:Fm):D:=fmD F.p F.b F.r
def zgz(p:Pq Int)(b r:Int):Fm:=if(p.filter fun t=>!decide (t.2=0)).isEmpty=true then⟨[],1,256⟩else⟨p.filter fun t=>!decide (t.2=0),b,r⟩
theorem ziE{α:Type}{p:Pq α}(h:NdK p)(f:List Int×α->Bool):NdK (p.filter f):=h.sublist (List.filter_sublist.map _)
theorem zyo:zfL 1=1:=by decide
theorem zrB{α:Type}(p:Pq α):(p.map fun a=>(a.1,a.2))=p:=by simp
theorem zfc{p:Pq Int}{b r:Int}{u:U}(hu:u.fz=some (.dict (dcG .int p)))(nd:NdK p)(hl:p.length < 1000)(b1:1<=b)(hb:zfL b<=r)(hg:b.natAbs.log2 < 9000) :
  zbp [u,.d (.int b),.d (.int r)]=some (.d (cF (zgz p b r)),[.d (.dict (dcG .int p)),.d (.int b),.d (.int r)]):=by
 refine zag ?_
 simp_arith [zbp,zgg,hu]
 rw [ze3 p]
 refine zhy (c:=PyData.int) (b:=fun t=>!decide (t.2=0)) (k:=(·.1)) (v:=(·.2)) (by omega) (fun t ht ys=>?_) ?_
 ·simp_arith
  by_cases h:t.2=0
  ·simp_arith [h]
  ·simp_arith [h,zlP]
 ·rw [zrB,zrm (ziE nd _)]
  simp_arith
  by_cases h:(p.filter fun t=>!decide (t.2=0)).isEmpty=true
  ·have e:zgz p b r=⟨[],1,256⟩:=if_pos h
   have e2:(p.filter fun t=>!decide (t.2=0))=[]:=by simpa using h
   rw [e]
   simp_arith [h]
   rw [e2]
   refine zfD (fun i ρ=>i=0/\ρ=[some (U.d (.dict (dcG .int p))),some (.d (.int b)),some (.d (.int r)),some (.d (.dict (dcG .int ([]:Pq Int)))),some (.d (.int b)),none,none]) ⟨rfl,rfl⟩ (fun i d ρ hd=>by cases hd) ?_
   rintro _ ⟨_,rfl⟩
   simp_arith
   refine zhy (c:=PyData.int) (b:=fun t=>true) (k:=(·.1)) (v:=fun t:List Int×Int=>t.2) (as:=[]) (by decide) (fun t ht=>by cases ht) ?_
   have e3:dcP (List.map (fun a:List Int×Int=>(a.1,a.2)) (List.filter (fun _=>true) []))=[]:=rfl
   rw [e3]
   have d1:b.fdiv b=1:=Int.fdiv_self (by omega)
   have lg:∀ i:Int,i=1\/i=2->i.natAbs.log2 < 1000000:=by rintro i (rfl | rfl)<;>exact Nat.lt_of_le_of_lt (Nat.log2_le_self _) (by decide)
   simp_arith [zf7 (a:=b) (b:=b) ⟨by omega,hg⟩,d1,zyo,zcp (a:=2) (b:=1) (lg _ (.inr rfl)) (lg _ (.inl rfl))]
   rfl
  ·have e:zgz p b r=⟨p.filter fun t=>!decide (t.2=0),b,r⟩:=if_neg h
   have h':(p.filter fun t=>!decide (t.2=0)).isEmpty=false:=by simpa using h
   rw [e]
   simp_arith [h',hb]
   rfl
theorem zrC{t:List Int×Int}:NdK [t]:=by unfold NdK; simp
theorem zeh{n:Nat}{f:Rat}(hn:n<=3)(hb:zfL (f.den:Int)<=256)(hg:f.den.log2 < 9000):zaf [.d (fR f),.d (.int (n:Int))]=some (.d (cF (zgz [(zs n,f.num)] f.den 256)),[.d (fR f),.d (.int (n:Int))]):=by
 refine zag ?_
 have s:=zfc (u:=.t (kvG .int [(zs n,f.num)])) (p:=[(zs n,f.num)]) (b:=f.den) (r:=256) zcx zrC (by show(1:Nat) < 1000; decide) (zhr f) hb (by rw [Int.natAbs_natCast]; exact hg)
 simp_arith [zaf,zb4,zjs,Int.toNat_natCast]
 rw [show [(kL (List.replicate n 0),PyData.int f.num)]=kvG PyData.int [(zs n,f.num)] from rfl]
 simp_arith [s]
theorem zhJ{n k:Nat}(hk:k < n)(hn:n<=3):zav [.d (.int (k:Int)),.d (.int (n:Int))]=some (.d (cF ⟨[(zeg n k,1)],1,256⟩),[.d (.int (k:Int)),.d (.int (n:Int))]):=by
 refine zag ?_
 have e:((n:Int) - (k:Int) - 1).toNat=n - k - 1:=by omega
 simp_arith [zav,zb2,zjs,Int.toNat_natCast,e,zhw,zq6 (a:=List.replicate k 0) (b:=[1]) (by rw [List.length_replicate]; show k+1<=1000; omega),zq6 (a:=List.replicate k 0++[1]) (b:=List.replicate (n - k - 1) 0) (by rw [qr,List.length_replicate,List.length_replicate]; show k+1+_<=1000; omega),zyn (k:=(k:Int)) (by omega) (by omega),zyn (k:=(n:Int) - (k:Int) - 1) (by omega) (by omega)]
 rw [zlN]
 rfl
theorem zhK{a b:List Int}(h:a.length=b.length)(hl:a.length < 64):zbm [.d (pwD a),.d (pwD b)]=some (.d (pwD (zaL a b)),[.d (pwD a),.d (pwD b)]):=by
 refine zag ?_
 simp_arith [zbm,zdl,zfI h]
 refine zgb (e:=fun t=>.int (t.1+t.2)) (by rw [List.length_zip,<-h]; omega) (fun t ht ys=>?_) ?_
 ·simp_arith
 ·rw [show((a.zip b).map fun t=>PyData.int (t.1+t.2))=(zaL a b).map PyData.int by unfold zaL; rw [List.map_zipWith,List.zip,List.map_zipWith]]
  simp_arith
  rfl
end K45
open PySem L2
namespace K45
open PySem L2
structure FZ (F:Fm):Prop where
 nd:NdK F.p
 ln:F.p.length < 64
 b1:1<=F.b
 bs:F.b.natAbs < 2^1000
 ns:∀ t∈F.p,t.2.natAbs < 2^3000
 r1:256<=F.r
def scI(p:Pq Int)(c:Int):Pq Int:=p.map fun t=>(t.1,t.2 * c)
def zju(F G:Fm)(f:Rat):Fm :=
 zgz (gat (scI F.p ((G.b * f.den).fdiv (Int.gcd F.b (G.b * f.den):Nat))) (scI G.p (F.b.fdiv (Int.gcd F.b (G.b * f.den):Nat) * f.num))) (F.b * (G.b * f.den).fdiv (Int.gcd F.b (G.b * f.den):Nat)) (if G.r > F.r then G.r else F.r)
theorem zjv{p:Pq Int}(h:NdK p)(c:Int):NdK (scI p c):=by
 unfold NdK scI
 rw [List.map_map]
 exact h
theorem zgT(p:Pq Int)(c:Int):(scI p c).length=p.length:=List.length_map ..
theorem lgs{x:Int}{k:Nat}(h:x.natAbs < 2^k)(hk:k < 9000)(h0:0 < k):x.natAbs.log2 < 1000000:=Nat.lt_trans (zbY h0 h) (Nat.lt_trans hk (by decide))
theorem ztv{x:Int}{k:Nat}(h:x.natAbs < 2^k)(hk:k < 9000)(h0:0 < k):x.natAbs.log2 < 9000:=Nat.lt_trans (zbY h0 h) hk
theorem zrD{x y:Int}{j k:Nat}(hx:x.natAbs < 2^j)(hy:y.natAbs < 2^k):(x * y).natAbs < 2^(j+k):=by
 rw [Int.natAbs_mul,Nat.pow_add]
 exact Nat.mul_lt_mul'' hx hy
theorem znq{x g:Int}{k:Nat}(h0:0<=x)(hg:0 < g)(hx:x.natAbs < 2^k):(x.fdiv g).natAbs < 2^k:=by
 rw [Int.fdiv_eq_ediv_of_nonneg _ (by omega)]
 refine Nat.lt_of_le_of_lt ?_ hx
 have:=Int.ediv_le_self g h0
 have:=Int.ediv_nonneg h0 (by omega:0<=g)
 omega
theorem znr{b:Int}{k:Nat}(h0:0 < k)(h:b.natAbs < 2^k):zfL b<=k:=by
 unfold zfL Builtin.Int.intBits
 split
 ·exact Int.natCast_nonneg _
 ·have:=zbY h0 h
  omega
theorem zkN{F G:Fm}{f:Rat}(hF:FZ F)(hG:FZ G)(hn:f.num.natAbs < 2^1000)(hd:f.den < 2^100)(hb:(F.b * (G.b * f.den).fdiv (Int.gcd F.b (G.b * f.den):Nat)).natAbs < 2^256) :
  zb3 [.d (cF F),.d (cF G),.d (fR f)]=some (.d (cF (zju F G f)),[.d (cF F),.d (cF G),.d (fR f)]):=by
 refine zag ?_
 have hd':((f.den:Nat):Int).natAbs < 2^100:=by rw [Int.natAbs_natCast]; exact hd
 have d1:=zhr f
 have Fb:=hF.b1
 have Gb:=hG.b1
 have be0:0 < G.b * (f.den:Int):=Int.mul_pos (by omega) (by omega)
 have bes:=zrD hG.bs hd'
 have gp:0 < Int.gcd F.b (G.b * f.den):=Int.gcd_pos_of_ne_zero_left _ (by omega)
 have gl:Int.gcd F.b (G.b * f.den)<=F.b.natAbs:=Int.gcd_le_natAbs_left _ (by omega)
 have cg:∀ z:Int,zg6 z ((Int.gcd F.b (G.b * f.den):Nat):Int):=fun z=>⟨by omega,by rw [Int.natAbs_natCast]; exact zl3 gl (ztv hF.bs (by decide) (by decide))⟩
 have fs:=znq (Int.le_of_lt be0) (by omega:(0:Int) < (Int.gcd F.b (G.b * f.den):Nat)) bes
 have ss:=znq (by omega:0<=F.b) (by omega:(0:Int) < (Int.gcd F.b (G.b * f.den):Nat)) hF.bs
 have ss2:=zrD ss hn
 have cf:=zcw (x:=F.b) (y:=G.b * f.den) (by omega) (by omega)
 unfold cF zju
 generalize hfi:(G.b * (f.den:Int)).fdiv (Int.gcd F.b (G.b * f.den):Nat)=fi at *
 generalize hse:F.b.fdiv (Int.gcd F.b (G.b * f.den):Nat)=se at *
 simp_arith [zb3,zfa,zcp (a:=G.b) (b:=(f.den:Int)) (lgs hG.bs (by decide) (by decide)) (lgs hd' (by decide) (by decide)),cf,zf7 (cg _),hfi,hse,zcp (a:=se) (b:=f.num) (lgs ss (by decide) (by decide)) (lgs hn (by decide) (by decide))]
 rw [ze3 F.p]
 have ec:(F.p.filter fun _=>true).map (fun a=>(a.1,a.2 * fi))=scI F.p fi:=by
  unfold scI
  rw [List.filter_eq_self.mpr fun _ _=>rfl]
 refine zhy (c:=PyData.int) (b:=fun t=>true) (k:=(·.1)) (v:=fun t:List Int×Int=>t.2 * fi) (by have:=hF.ln; omega) (fun t ht ys=>?_) ?_
 ·simp_arith [zcp (a:=t.2) (b:=fi) (lgs (hF.ns t ht) (by decide) (by decide)) (lgs fs (by decide) (by decide)),zlP]
 rw [ec,zrm (zjv hF.nd fi)]
 simp_arith
 rw [ze3 G.p]
 have gnd:=zjv hF.nd fi
 refine za3 (fun bs cs ρ=>∃ o8 o9,ρ=[some (U.d (fmD F.p F.b F.r)),some (U.d (fmD G.p G.b G.r)),some (U.d (fR f)),some (U.d (PyData.int (G.b * (f.den:Int)))),some (U.d (PyData.int ((F.b.gcd (G.b * (f.den:Int)):Nat):Int))),some (U.d (PyData.int fi)),some (U.d (PyData.int (se * f.num))),some (.t (kvG PyData.int (gat (scI F.p fi) (scI bs (se * f.num))))),o8,o9]) ⟨none,none,rfl⟩ ?_ ?_
 ·rintro bs t cs _ e ⟨o8,o9,rfl⟩
  have ht:t∈G.p:=by rw [e]; simp
  have lb:bs.length+cs.length+1=G.p.length:=by rw [e,qr,qt]; omega
  have l1:=zcM (scI bs (se * f.num)) (scI F.p fi)
  rw [zgT,zgT]at l1
  have l2:=hF.ln
  have l3:=hG.ln
  have eg:gat (scI F.p fi) (scI (bs++[t]) (se * f.num))=zaZ (gat (scI F.p fi) (scI bs (se * f.num))) t.1 ((look (gat (scI F.p fi) (scI bs (se * f.num))) t.1).getD 0+t.2 * (se * f.num)):=by
   unfold scI
   rw [List.map_append]
   exact zfF _ _ _
  rw [eg]
  have pu:∀ x:Int,zix (.t (kvG PyData.int (gat (scI F.p fi) (scI bs (se * f.num))))) (pwD t.1) (.int x)=some (.t (kvG PyData.int (zaZ (gat (scI F.p fi) (scI bs (se * f.num))) t.1 x))):=fun x=>zlQ (c:=PyData.int) (by omega)
  have mb:=zcp (a:=t.2) (b:=se * f.num) (lgs (hG.ns t ht) (by decide) (by decide)) (lgs ss2 (by decide) (by decide))
  cases hl:look (gat (scI F.p fi) (scI bs (se * f.num))) t.1 with
  | none =>
   simp_arith [hl,mb,pu,Option.getD_none]
   exact⟨_,_,rfl⟩
  | some z =>
   simp_arith [hl,mb,pu,Option.getD_some]
   exact⟨_,_,rfl⟩
 ·rintro _ ⟨o8,o9,rfl⟩
  have l1:=zcM (scI G.p (se * f.num)) (scI F.p fi)
  rw [zgT,zgT]at l1
  have l2:=hF.ln
  have l3:=hG.ln
  have fi0:0 < fi:=by
   rw [<-hfi,Int.fdiv_eq_ediv_of_nonneg _ (by omega)]
   exact Int.ediv_pos_of_pos_of_dvd be0 (by omega) (Int.gcd_dvd_right _ _)
  have b1':1<=F.b * fi:=by have:=Int.mul_pos (by omega:0 < F.b) fi0; omega
  have rr:256<=(if G.r > F.r then G.r else F.r):=by have:=hF.r1; have:=hG.r1; split<;>omega
  have s:=zfc (u:=.t (kvG .int (gat (scI F.p fi) (scI G.p (se * f.num))))) (p:=gat (scI F.p fi) (scI G.p (se * f.num))) (b:=F.b * fi) (r:=if G.r > F.r then G.r else F.r) zcx (zea _ gnd) (by omega) b1' (Int.le_trans (znr (by decide) hb) rr) (ztv hb (by decide) (by decide))
  simp_arith [zcp (a:=F.b) (b:=fi) (lgs hF.bs (by decide) (by decide)) (lgs fs (by decide) (by decide)),s]
  rfl
def zow(F G:Fm):Fm:=zgz (gat [] (za0 F.p G.p)) (F.b * G.b) (if G.r > F.r then G.r else F.r)
theorem ztw(acc ts us:Pq Int):gat acc (ts++us)=gat (gat acc ts) us:=List.foldl_append ..
theorem zh0{F G:Fm}{n:Nat}(hF:FZ F)(hG:FZ G)(h1:∀ t∈F.p,t.1.length=n)(h2:∀ t∈G.p,t.1.length=n)(hn:n < 64)(hb:(F.b * G.b).natAbs < 2^256)(hl:F.p.length * G.p.length < 1000) :
  zaG [.d (cF F),.d (cF G)]=some (.d (cF (zow F G)),[.d (cF F),.d (cF G)]):=by
 refine zag ?_
 unfold cF zow
 have Fb:=hF.b1
 have Gb:=hG.b1
 have l2:=hF.ln
 have l3:=hG.ln
 simp_arith [zaG,zci]
 rw [ze3 F.p]
 have pl:∀ bs:Pq Int,bs.length<=F.p.length->(za0 bs G.p).length < 1000:=fun bs hb=>by
  rw [zeb]
  exact Nat.lt_of_le_of_lt (Nat.mul_le_mul_right _ hb) hl
 refine za3 (fun bs cs ρ=>∃ o3 o4 o5 o6 o7,ρ=[some (U.d (fmD F.p F.b F.r)),some (U.d (fmD G.p G.b G.r)),some (.t (kvG PyData.int (gat [] (za0 bs G.p)))),o3,o4,o5,o6,o7]) ⟨none,none,none,none,none,rfl⟩ ?_ ?_
 ·rintro bs s cs _ e ⟨o3,o4,o5,o6,o7,rfl⟩
  have hs:s∈F.p:=by rw [e]; simp
  have lb:bs.length+cs.length+1=F.p.length:=by rw [e,qr,qt]; omega
  simp_arith
  rw [ze3 G.p]
  have epm:∀ ds:Pq Int,gat [] (za0 bs G.p++ds.map fun t=>(zaL s.1 t.1,s.2 * t.2))=gat (gat [] (za0 bs G.p)) (ds.map fun t=>(zaL s.1 t.1,s.2 * t.2)):=fun ds=>ztw _ _ _
  refine za3 (fun ds es ρ=>∃ o5 o6 o7,ρ=[some (U.d (fmD F.p F.b F.r)),some (U.d (fmD G.p G.b G.r)),some (.t (kvG PyData.int (gat [] (za0 bs G.p++ds.map fun t=>(zaL s.1 t.1,s.2 * t.2))))),some (.d (pwD s.1)),some (.d (.int s.2)),o5,o6,o7]) ⟨o5,o6,o7,by rw [List.map_nil,List.append_nil]⟩ ?_ ?_
  ·rintro ds t es _ e2 ⟨o5,o6,o7,rfl⟩
   have ht:t∈G.p:=by rw [e2]; simp
   have ld:ds.length+es.length+1=G.p.length:=by rw [e2,qr,qt]; omega
   have l1:=zcM (za0 bs G.p++ds.map fun t=>(zaL s.1 t.1,s.2 * t.2)) []
   rw [qr,List.length_map]at l1
   have l4:=pl bs (by omega)
   have pp:=zhK (a:=s.1) (b:=t.1) ((h1 s hs).trans (h2 t ht).symm) (by rw [h1 s hs]; exact hn)
   have eg:gat [] (za0 bs G.p++(ds++[t]).map fun t=>(zaL s.1 t.1,s.2 * t.2))=zaZ (gat [] (za0 bs G.p++ds.map fun t=>(zaL s.1 t.1,s.2 * t.2))) (zaL s.1 t.1) ((look (gat [] (za0 bs G.p++ds.map fun t=>(zaL s.1 t.1,s.2 * t.2))) (zaL s.1 t.1)).getD 0+s.2 * t.2):=by
    rw [List.map_append,<-List.append_assoc]
    exact zfF _ _ _
   rw [eg]
   generalize gat [] (za0 bs G.p++ds.map fun t=>(zaL s.1 t.1,s.2 * t.2))=gg at *
   have pu:∀ x:Int,zix (.t (kvG PyData.int gg)) (pwD (zaL s.1 t.1)) (.int x)=some (.t (kvG PyData.int (zaZ gg (zaL s.1 t.1) x))):=fun x=>zlQ (c:=PyData.int) (by simp at l1; omega)
   have mb:=zcp (a:=s.2) (b:=t.2) (lgs (hF.ns s hs) (by decide) (by decide)) (lgs (hG.ns t ht) (by decide) (by decide))
   cases hlk:look gg (zaL s.1 t.1)with
   | none =>
    simp_arith [pp,hlk,mb,pu,Option.getD_none]
    exact⟨_,_,_,rfl⟩
   | some z =>
    simp_arith [pp,hlk,mb,pu,Option.getD_some]
    exact⟨_,_,_,rfl⟩
  ·rintro _ ⟨o5,o6,o7,rfl⟩
   simp_arith
   have:za0 (bs++[s]) G.p=za0 bs G.p++G.p.map fun t=>(zaL s.1 t.1,s.2 * t.2):=by unfold za0; simp
   rw [this]
   exact⟨_,_,_,_,_,rfl⟩
 ·rintro _ ⟨o3,o4,o5,o6,o7,rfl⟩
  have l1:=zcM (za0 F.p G.p) []
  have l4:=pl F.p (qe _)
  have b1':1<=F.b * G.b:=by have:=Int.mul_pos (by omega:0 < F.b) (by omega:0 < G.b); omega
  have rr:256<=(if G.r > F.r then G.r else F.r):=by have:=hF.r1; have:=hG.r1; split<;>omega
  have s:=zfc (u:=.t (kvG .int (gat [] (za0 F.p G.p)))) (p:=gat [] (za0 F.p G.p)) (b:=F.b * G.b) (r:=if G.r > F.r then G.r else F.r) zcx (zea _ List.nodup_nil) (by simp at l1; omega) b1' (Int.le_trans (znr (by decide) hb) rr) (ztv hb (by decide) (by decide))
  simp_arith [zcp (a:=F.b) (b:=G.b) (lgs hF.bs (by decide) (by decide)) (lgs hG.bs (by decide) (by decide)),s]
  rfl
theorem zjw{F:Fm}(hF:FZ F):za8 [.d (cF F)]=some (.l (tmG fR (srt (toR F.b F.p))),[.d (cF F)]):=by
 refine zag ?_
 unfold cF
 have l2:=hF.ln
 have Fb:=hF.b1
 simp_arith [za8,zc3]
 rw [ze3 F.p]
 refine zgb (e:=fun t=>.tuple [pwD t.1,fR (Rat.divInt t.2 F.b)]) (by omega) (fun t ht ys=>?_) ?_
 ·simp_arith [zeB (n:=t.2) (d:=F.b) (by omega) (ztv hF.bs (by decide) (by decide))]
 ·have e:(F.p.map fun t=>PyData.tuple [pwD t.1,fR (Rat.divInt t.2 F.b)])=tmG fR (toR F.b F.p):=by
   unfold toR tmG
   rw [List.map_map]
   rfl
  have nd:NdK (toR F.b F.p):=by
   unfold NdK toR
   rw [List.map_map]
   exact hF.nd
  have st:=zq0 (c:=fR) nd (by unfold toR; rw [List.length_map]; exact l2)
  rw [e]
  simp_arith [st]
def za9(F:Fm)(h:List Int->Rat):Rat:=lin (toR F.b F.p) h
structure FO (n e a w:Nat) (F:Fm):Prop where
 nd:NdK F.p
 ky:∀ t∈F.p,Ks n w t.1
 b1:1<=F.b
 dv:F.b∣((12^a:Nat):Int)
 bd:∀ t∈F.p,Bd (12^a) (2^(24 * a+e)) (Rat.divInt t.2 F.b)
 nz:∀ t∈F.p,t.2≠0
 r1:256<=F.r
theorem zwQ{M B:Nat}{x b:Int}(h:Bd M B (Rat.divInt x b))(b1:1<=b)(dv:b∣(M:Int))(hM:0 < M):x.natAbs<=B:=by
 obtain⟨k,e,hk⟩:=h
 obtain⟨c,hc⟩:=dv
 have e2:(k:Rat)=((x * c:Int):Rat):=by
  rw [<-e,show((M:Nat):Rat)=((M:Int):Rat) from rfl,hc,Rat.intCast_mul,Rat.intCast_mul,Rat.divInt_eq_div]
  have:(b:Rat)≠0:=fun z=>by
   have:b=0:=by exact_mod_cast z
   omega
  grind
 have e3:k=x * c:=by exact_mod_cast e2
 have c0:c≠0:=fun z=>by rw [z,Int.mul_zero]at hc; omega
 rw [e3,Int.natAbs_mul]at hk
 have:1<=c.natAbs:=by omega
 exact qx (Nat.le_mul_of_pos_right _ this) hk
section
variable {n e a w:Nat} {F G:Fm}
theorem FO.len(h:FO n e a w F)(n1:1<=n)(n3:n<=3)(w4:w<=4):F.p.length<=35:=by
 have:=List.Nodup.length_le_of_subset h.nd (l₂:=zhZ n 4) fun x hx=>by
  obtain⟨t,ht,rfl⟩:=List.mem_map.mp hx
  exact znp ((h.ky t ht).up w4)
 rw [List.length_map]at this
 refine qx this ?_
 rcases(by omega:n=1\/n=2\/n=3)with rfl | rfl | rfl<;>decide
theorem FO.ble(h:FO n e a w F)(a4:a<=4):F.b.natAbs<=20736:=by
 have h1:=Int.le_of_dvd (by exact_mod_cast Nat.pow_pos (by decide)) h.dv
 have h2:(12:Nat)^a<=12^4:=Nat.pow_le_pow_right (by decide) a4
 have h3:=h.b1
 have:(12:Nat)^4=20736:=by decide
 omega
theorem zyN{x y:Nat}(h:x < y):2^x < 2^y:=Nat.pow_lt_pow_right (by decide) h
theorem FO.fz(h:FO n e a w F)(n1:1<=n)(n3:n<=3)(w4:w<=4)(a4:a<=4)(he:e<=2800):FZ F :=
 ⟨h.nd,by have:=h.len n1 n3 w4; omega,h.b1,Nat.lt_of_le_of_lt (h.ble a4) (qi (by decide:20736 < 2^15) (Nat.pow_le_pow_right (by decide) (by decide))),
  fun t ht=>Nat.lt_of_le_of_lt (zwQ (h.bd t ht) h.b1 h.dv (Nat.pow_pos (by decide))) (zyN (by omega)),h.r1⟩
theorem FO.up(h:FO n e a w F){e' w':Nat}(he:e<=e')(hw:w<=w'):FO n e' a w' F :=
 ⟨h.nd,fun t ht=>(h.ky t ht).up hw,h.b1,h.dv,fun t ht=>(h.bd t ht).le (Nat.pow_le_pow_right (by decide) (by omega)),h.nz,h.r1⟩
theorem zkO{p:Pq Int}{b r:Int}(hb:b≠0)(h:List Int->Rat):za9 (zgz p b r) h=lin (toR b p) h:=by
 unfold zgz za9
 rw [<-zlM (toR b p) h,show(toR b p).filter (fun t=>decide (t.2≠0))=toR b (p.filter fun t=>!decide (t.2=0)) from zwB hb p]
 split
 ·rename_i z
  have e2:(p.filter fun t=>!decide (t.2=0))=[]:=by simpa using z
  rw [e2]
  rfl
 ·rfl
theorem zns{p:Pq Int}{b r:Int}(nd:NdK p)(ky:∀ t∈p,Ks n w t.1)(b1:1<=b)(dv:b∣((12^a:Nat):Int))(bd:∀ t∈p,Bd (12^a) (2^(24 * a+e)) (Rat.divInt t.2 b))(r1:256<=r):FO n e a w (zgz p b r):=by
 unfold zgz
 split
 ·exact⟨List.nodup_nil,fun t h=>(by cases h),by decide,⟨_,(Int.one_mul _).symm⟩,fun t h=>(by cases h),fun t h=>(by cases h),by decide⟩
 ·refine⟨ziE nd _,fun t h=>ky t (List.mem_filter.mp h).1,b1,dv,fun t h=>bd t (List.mem_filter.mp h).1,fun t h=>?_,r1⟩
  have:=(List.mem_filter.mp h).2
  simpa using this
theorem zrE{c:Int}{p:Pq Int}(h:NdK p):NdK (toR c p):=by
 unfold NdK toR
 rw [List.map_map]
 exact h
theorem zkP{c:Int}(hc:c≠0)(acc ts:Pq Int):toR c (gat acc ts)=gat (toR c acc) (toR c ts):=zm9 (fun k=>Rat.divInt k c) (Rat.zero_divInt c) (fun a b=>by
 rw [Rat.divInt_add_divInt _ _ hc hc,<-Int.add_mul,Rat.divInt_mul_right hc]) ts acc
theorem zdG{A X:Int}(hA:1<=A)(hX:1<=X):1<=X.fdiv (Int.gcd A X:Nat)/\X.fdiv (Int.gcd A X:Nat) * (Int.gcd A X:Nat)=X/\A.fdiv (Int.gcd A X:Nat) * (Int.gcd A X:Nat)=A/\(0:Int) < (Int.gcd A X:Nat):=by
 have g0:(0:Int) < (Int.gcd A X:Nat):=by exact_mod_cast Int.gcd_pos_of_ne_zero_left _ (by omega)
 rw [Int.fdiv_eq_ediv_of_nonneg _ (by omega),Int.fdiv_eq_ediv_of_nonneg _ (by omega)]
 refine⟨?_,Int.ediv_mul_cancel (Int.gcd_dvd_right _ _),Int.ediv_mul_cancel (Int.gcd_dvd_left _ _),g0⟩
 exact Int.ediv_pos_of_pos_of_dvd (by omega) (by omega) (Int.gcd_dvd_right _ _)
theorem sc1{p:Pq Int}{b c:Int}(hb:b≠0)(hc:c≠0):toR (b * c) (scI p c)=toR b p:=by
 unfold toR scI
 rw [List.map_map]
 refine List.map_congr_left fun t _=>?_
 show(t.1,Rat.divInt (t.2 * c) (b * c))=_
 rw [Rat.divInt_mul_right hc]
theorem sc2{p:Pq Int}{b c d s:Int}{f:Rat}(h:∀ x:Int,Rat.divInt (x * s) (b * c)=f * Rat.divInt x d):toR (b * c) (scI p s)=(toR d p).map fun t=>(t.1,f * t.2):=by
 unfold toR scI
 rw [List.map_map,List.map_map]
 refine List.map_congr_left fun t _=>?_
 show(t.1,Rat.divInt (t.2 * s) (b * c))=(t.1,f * Rat.divInt t.2 d)
 rw [h]
theorem zkQ(f:Rat)(p:Pq Rat)(h:List Int->Rat):lin (p.map fun t=>(t.1,f * t.2)) h=f * lin p h:=by
 induction p with
 | nil=>rw [List.map_nil,zaJ,Rat.mul_zero]
 | cons t p ih =>
  rw [List.map_cons,zC,zC,ih]
  grind
theorem zrF{A d:Int}{f:Rat}(hA:1<=A)(hd:1<=d)(x:Int) :
  Rat.divInt (x * (A.fdiv (Int.gcd A (d * f.den):Nat) * f.num)) (A * (d * f.den).fdiv (Int.gcd A (d * f.den):Nat))=f * Rat.divInt x d:=by
 have d1:=zhr f
 have X1:1<=d * (f.den:Int):=by have:=Int.mul_pos (by omega:0 < d) (by omega:(0:Int) < f.den); omega
 obtain⟨h1,h2,h3,h4⟩:=zdG hA X1
 generalize (d * (f.den:Int)).fdiv (Int.gcd A (d * f.den):Nat)=fi at *
 generalize A.fdiv (Int.gcd A (d * f.den):Nat)=se at *
 generalize ((Int.gcd A (d * f.den):Nat):Int)=g at *
 have hf:f * (f.den:Rat)=(f.num:Rat):=zhs f
 have q1:((A * fi:Int):Rat)≠0:=fun z=>by
  have z:A * fi=0:=by exact_mod_cast z
  have:=Int.mul_pos (by omega:0 < A) (by omega:0 < fi)
  omega
 have q2:(d:Rat)≠0:=fun z=>by
  have z:d=0:=by exact_mod_cast z
  omega
 have q3:(g:Rat)≠0:=fun z=>by
  have z:g=0:=by exact_mod_cast z
  omega
 have r2:(fi:Rat) * (g:Rat)=(d:Rat) * ((f.den:Int):Rat):=by rw [<-Rat.intCast_mul,<-Rat.intCast_mul,h2]
 have r3:(se:Rat) * (g:Rat)=(A:Rat):=by rw [<-Rat.intCast_mul,h3]
 have hf':f * ((f.den:Int):Rat)=(f.num:Rat):=hf
 rw [Rat.divInt_eq_div,Rat.divInt_eq_div]
 rw [Rat.intCast_mul,Rat.intCast_mul]
 rw [Rat.intCast_mul]at q1 ⊢
 grind
theorem ztx(hF:FO n e a w F)(hG:1<=G.b){f:Rat}(h:List Int->Rat):za9 (zju F G f) h=za9 F h+f * za9 G h:=by
 have d1:=zhr f
 have X1:1<=G.b * (f.den:Int):=by have:=Int.mul_pos (by omega:0 < G.b) (by omega:(0:Int) < f.den); omega
 obtain⟨h1,h2,h3,h4⟩:=zdG hF.b1 X1
 have A1:=hF.b1
 have c0:F.b * (G.b * (f.den:Int)).fdiv (Int.gcd F.b (G.b * f.den):Nat)≠0:=by
  have:=Int.mul_pos (by omega:0 < F.b) (by omega:0 < (G.b * (f.den:Int)).fdiv (Int.gcd F.b (G.b * f.den):Nat))
  omega
 unfold zju
 rw [zkO c0,zkP c0,zgM _ _ (zrE (zjv hF.nd _)),sc1 (by omega) (by omega),sc2 (zrF hF.b1 hG),zkQ]
 rfl
theorem zwR{A X:Int}{M:Nat}(hA:1<=A)(hX:1<=X)(h1:A∣(M:Int))(h2:X∣(M:Int)):A * X.fdiv (Int.gcd A X:Nat)∣(M:Int):=by
 obtain⟨f1,f2,f3,f4⟩:=zdG hA hX
 have e:A * X.fdiv (Int.gcd A X:Nat)=(Int.lcm A X:Nat):=by
  have hg:=Int.gcd_mul_lcm A X
  have hg':((Int.gcd A X:Nat):Int) * ((Int.lcm A X:Nat):Int)=A * X:=by
   rw [<-Int.natCast_mul,hg]
   have:=Int.mul_pos (by omega:0 < A) (by omega:0 < X)
   first | exact Int.natAbs_of_nonneg (Int.le_of_lt this) | (rw [<-Int.natAbs_mul]; exact Int.natAbs_of_nonneg (Int.le_of_lt this))
  refine Int.eq_of_mul_eq_mul_left (a:=((Int.gcd A X:Nat):Int)) (by omega) ?_
  rw [hg',Int.mul_left_comm,Int.mul_comm _ (X.fdiv _),f2]
 rw [e]
 exact Int.natCast_dvd_natCast.mpr (Int.lcm_dvd h1 h2)
theorem znt{c:Int}{p:Pq Int}{t:List Int×Int}(h:t∈p):(t.1,Rat.divInt t.2 c)∈toR c p:=List.mem_map.mpr ⟨t,h,rfl⟩
theorem zuM{A X:Int}(hF:FO n e (a+1) w F)(hG:FO n e a w G){f:Rat}(hf:f.den∣12):F.b * (G.b * (f.den:Int)).fdiv (Int.gcd F.b (G.b * f.den):Nat)∣((12^(a+1):Nat):Int):=by
 have d1:=zhr f
 have G1:=hG.b1
 have X1:1<=G.b * (f.den:Int):=by have:=Int.mul_pos (by omega:0 < G.b) (by omega:(0:Int) < f.den); omega
 refine zwR hF.b1 X1 hF.dv ?_
 rw [Nat.pow_succ,Int.natCast_mul]
 exact Int.mul_dvd_mul hG.dv (by exact_mod_cast hf)
theorem zwS(n1:1<=n)(n3:n<=3)(w4:w<=4)(hF:FO n e (a+1) w F)(hG:FO n e a w G){f:Rat}(hf:Bd 12 (2^24) f):FO n (e+6) (a+1) w (zju F G f):=by
 have d1:=zhr f
 have G1:=hG.b1
 have A1:=hF.b1
 have X1:1<=G.b * (f.den:Int):=by have:=Int.mul_pos (by omega:0 < G.b) (by omega:(0:Int) < f.den); omega
 obtain⟨h1,h2,h3,h4⟩:=zdG hF.b1 X1
 have c1:1<=F.b * (G.b * (f.den:Int)).fdiv (Int.gcd F.b (G.b * f.den):Nat):=by
  have:=Int.mul_pos (by omega:0 < F.b) (by omega:0 < (G.b * (f.den:Int)).fdiv (Int.gcd F.b (G.b * f.den):Nat))
  omega
 unfold zju
 refine zns (zea _ (zjv hF.nd _)) ?_ c1 (zuM (A:=0) (X:=0) hF hG hf.dvd) ?_ (by have:=hF.r1; have:=hG.r1; split<;>omega)
 ·refine zfG (Pk:=fun k=>Ks n w k) _ (fun t ht=>?_) (fun t ht=>?_)
  ·obtain⟨u,hu,rfl⟩:=List.mem_map.mp ht
   exact hF.ky u hu
  ·obtain⟨u,hu,rfl⟩:=List.mem_map.mp ht
   exact hG.ky u hu
 ·intro t ht
  have hm:=znt (c:=F.b * (G.b * (f.den:Int)).fdiv (Int.gcd F.b (G.b * f.den):Nat)) ht
  rw [zkP (by omega),sc1 (by omega) (by omega),sc2 (zrF hF.b1 hG.b1)]at hm
  have b1:PB (12^(a+1)) (2^(24 * (a+1)+e)) (toR F.b F.p):=fun t ht=>by
   obtain⟨u,hu,rfl⟩:=List.mem_map.mp ht
   exact hF.bd u hu
  have b2:PB (12^(a+1)) (2^(24 * (a+1)+e)) ((toR G.b G.p).map fun t=>(t.1,f * t.2)):=fun t ht=>by
   obtain⟨v,hv,rfl⟩:=List.mem_map.mp ht
   obtain⟨u,hu,rfl⟩:=List.mem_map.mp hv
   have:=hf.mul (hG.bd u hu)
   rw [Nat.mul_comm 12,<-Nat.pow_succ]at this
   refine this.le ?_
   rw [<-Nat.pow_add]
   exact Nat.pow_le_pow_right (by decide) (by omega)
  have:=zf9 _ b1 b2 _ hm
  refine this.le ?_
  rw [List.length_map]
  unfold toR
  rw [List.length_map]
  have l2:=hG.len n1 n3 w4
  have e1:2^(24 * (a+1)+(e+6))=64 * 2^(24 * (a+1)+e):=by rw [show 24 * (a+1)+(e+6)=6+(24 * (a+1)+e) by omega,Nat.pow_add]
  rw [e1]
  have:=Nat.mul_le_mul_right (2^(24 * (a+1)+e)) l2
  omega
def sh(n:Nat):Option Nat->List Int->List Int
 | none,k=>k
 | some j,k=>zaL k (zeg n j)
def leF(n j:Nat):Fm:=⟨[(zeg n j,1)],1,256⟩
def byF(n:Nat)(F:Fm):Option Nat->Fm
 | none=>F
 | some j=>zow F (leF n j)
theorem zuN(p:Pq Int)(u:List Int):za0 p [(u,1)]=p.map fun t=>(zaL t.1 u,t.2):=by
 unfold za0
 induction p with
 | nil=>rfl
 | cons t p ih =>
  rw [List.flatMap_cons,List.map_cons,ih]
  simp
theorem zty{j:Nat}(b1:1<=F.b)(h:List Int->Rat):za9 (zow F (leF n j)) h=za9 F fun k=>h (zaL k (zeg n j)):=by
 unfold zow leF
 dsimp only
 rw [Int.mul_one,zkO (by omega),zuN,zna (by omega),zgM _ _ nd0,zaJ,Rat.zero_add]
 unfold za9 toR lin
 rw [List.map_map,List.map_map,List.map_map]
 rfl
theorem zwT(b1:1<=F.b)(l:Option Nat)(h:List Int->Rat):za9 (byF n F l) h=za9 F fun k=>h (sh n l k):=by
 cases l with
 | none=>rfl
 | some j=>exact zty b1 h
theorem zrG{n j:Nat}:(zeg n j).sum=1:=by
 unfold zeg
 simp
theorem znu{j:Nat}(hj:j < n):Ks n 1 (zeg n j):=⟨zhI hj,fun k hk=>(zrA k hk).1,by rw [zrG]; decide⟩
theorem zyp(n1:1<=n)(n3:n<=3)(w3:w<=3)(hF:FO n e a w F){l:Option Nat}(hl:∀ k,l=some k->k < n):FO n (e+6) a (w+1) (byF n F l):=by
 cases l with
 | none=>exact hF.up (by omega) (by omega)
 | some j =>
  have hj:=hl j rfl
  unfold byF zow leF
  dsimp only
  rw [Int.mul_one,zuN]
  have F1:=hF.b1
  refine zns (zea _ List.nodup_nil) ?_ hF.b1 hF.dv ?_ (by have:=hF.r1; split<;>omega)
  ·refine zfG (Pk:=fun k=>Ks n (w+1) k) _ (fun t ht=>by cases ht) (fun t ht=>?_)
   obtain⟨u,hu,rfl⟩:=List.mem_map.mp ht
   exact(hF.ky u hu).add (znu hj)
  ·intro t ht
   have hm:=znt (c:=F.b) ht
   rw [zna (by omega)]at hm
   have b2:PB (12^a) (2^(24 * a+e)) (toR F.b (F.p.map fun t=>(zaL t.1 (zeg n j),t.2))):=fun t ht=>by
    obtain⟨v,hv,rfl⟩:=List.mem_map.mp ht
    obtain⟨u,hu,rfl⟩:=List.mem_map.mp hv
    exact hF.bd u hu
   have:=zf9 _ (C:=0) pb0 b2 _ hm
   refine this.le ?_
   unfold toR
   rw [List.length_map,List.length_map]
   have l2:=hF.len n1 n3 (by omega)
   have e1:2^(24 * a+(e+6))=64 * 2^(24 * a+e):=by rw [show 24 * a+(e+6)=6+(24 * a+e) by omega,Nat.pow_add]
   rw [e1]
   have:=Nat.mul_le_mul_right (2^(24 * a+e)) l2
   omega
theorem zyq:FO n e a w ⟨[],1,256⟩:=⟨List.nodup_nil,fun t h=>(by cases h),by decide,⟨_,(Int.one_mul _).symm⟩,fun t h=>(by cases h),fun t h=>(by cases h),by decide⟩
theorem zrH(h:List Int->Rat):za9 ⟨[],1,256⟩ h=0:=rfl
theorem zyO:zgz [(zs n,(0:Rat).num)] ((0:Rat).den:Int) 256=⟨[],1,256⟩:=rfl
theorem zyP:zgz [(zs n,(1:Rat).num)] ((1:Rat).den:Int) 256=⟨[(zs n,1)],1,256⟩:=rfl
theorem di1:Rat.divInt 1 1=1:=by decide
theorem zwU:FO n 0 0 0 ⟨[(zs n,1)],1,256⟩:=by
 refine⟨zrC,fun t h=>?_,Int.le_refl 1,⟨_,(Int.one_mul _).symm⟩,fun t h=>?_,fun t h=>?_,Int.le_refl 256⟩
 ·cases qp.mp h
  refine⟨zjt n,fun k hk=>by rw [zl4 k hk]; decide,?_⟩
  unfold zs
  simp
 ·cases qp.mp h
  show Bd 1 1 (Rat.divInt 1 1)
  rw [di1]
  exact Bd.one
 ·cases qp.mp h
  exact Int.one_ne_zero
theorem ztz(h:List Int->Rat):za9 ⟨[(zs n,1)],1,256⟩ h=h (zs n):=by
 have e:toR 1 [(zs n,1)]=[(zs n,(1:Rat))]:=by
  unfold toR
  rw [List.map_cons,List.map_nil,di1]
 show lin (toR 1 [(zs n,1)]) h=_
 rw [e,zC,zaJ]
 grind
end
end K45
open PySem L2
namespace K45
open PySem L2
section
variable {n e a w:Nat} {F G:Fm}
theorem zyr:zpL false (.d .none) (.d .none)=some (.d (.bool true)):=id rfl
theorem zys{j:Int}:zpL false (.d (.int j)) (.d .none)=some (.d (.bool false)):=id rfl
theorem zwV{j:Nat}:FZ (leF n j):=⟨zrC,by show(1:Nat) < 64; decide,Int.le_refl 1,by show(1:Nat) < 2^1000; exact Nat.one_lt_two_pow (by decide),fun t ht=>by cases qp.mp ht; show(1:Nat) < 2^3000; exact Nat.one_lt_two_pow (by decide),Int.le_refl 256⟩
theorem zjx(n1:1<=n)(n3:n<=3)(w4:w<=4)(a4:a<=4)(he:e<=2800)(hF:FO n e a w F){l:Option Nat}(hl:∀ k,l=some k->k < n) :
  zbF [.d (cF F),.d (leD l),.d (.int (n:Int))]=some (.d (cF (byF n F l)),[.d (cF F),.d (leD l),.d (.int (n:Int))]):=by
 refine zag ?_
 cases l with
 | none =>
  simp_arith [zbF,zdf,leD,zyr]
  rfl
 | some j =>
  have hj:=hl j rfl
  have t:=zh0 (n:=n) (hF.fz n1 n3 w4 a4 he) (zwV (n:=n) (j:=j)) (fun t ht=>(hF.ky t ht).ln) (fun t ht=>by cases qp.mp ht; exact zhI hj) (by omega)
   (by show(F.b * 1).natAbs < _; rw [Int.mul_one]; exact Nat.lt_of_le_of_lt (hF.ble a4) (qi (by decide:20736 < 2^15) (Nat.pow_le_pow_right (by decide) (by decide)))) (by show F.p.length * 1 < 1000; have:=hF.len n1 n3 w4; omega)
  have l:=zhJ hj n3
  unfold leF at t
  simp_arith [zbF,zdf,leD,l,t,zys]
  rfl
end
def zeC(A:Pq Fm)(φ:List Int->List Int->Rat):Rat:=(A.map fun t=>za9 t.2 (φ t.1)).sum
structure AO (n e a:Nat) (A:Pq Fm):Prop where
 nd:NdK A
 fo:∀ t∈A,FO n e a a t.2
 kl:∀ t∈A,t.1.length=a
def nof:Fm:=⟨[],1,256⟩
theorem zfT(xs ys:List Rat):(xs++ys).sum=xs.sum+ys.sum:=by
 induction xs with
 | nil=>rw [List.nil_append,List.sum_nil,Rat.zero_add]
 | cons x xs ih=>rw [List.cons_append,List.sum_cons,List.sum_cons,ih,Rat.add_assoc]
theorem zrI{A:Pq Fm}(nd:NdK A){k:List Int}{F':Fm}{x:Rat}{φ:List Int->List Int->Rat}(h:za9 F' (φ k)=za9 ((look A k).getD nof) (φ k)+x):zeC (zaZ A k F') φ=zeC A φ+x:=by
 unfold zaZ
 split
 ·rename_i hk
  induction A with
  | nil=>simp at hk
  | cons t A ih =>
   have nd':NdK A:=(List.nodup_cons.mp nd).2
   have ni:t.1∉A.map (·.1):=(List.nodup_cons.mp nd).1
   by_cases e:t.1=k
   ·have hl:look (t::A) k=some t.2:=by unfold look; rw [List.find?_cons,decide_eq_true e]; rfl
    rw [hl,Option.getD_some]at h
    have e2:A.map (fun t=>if t.1=k then(t.1,F')else t)=A:=by
     conv=>rhs; rw [<-List.map_id A]
     refine List.map_congr_left fun u hu=>?_
     rw [if_neg fun z=>ni (by rw [e,<-z]; exact List.mem_map.mpr ⟨u,hu,rfl⟩)]
     rfl
    unfold zeC
    rw [List.map_cons,if_pos e,e2,List.map_cons,List.map_cons,List.sum_cons,List.sum_cons]
    dsimp only
    rw [e,h]
    grind
   ·have hl:look (t::A) k=look A k:=by unfold look; rw [List.find?_cons,decide_eq_false e]
    rw [hl]at h
    rw [List.any_cons,decide_eq_false e,Bool.false_or]at hk
    have:=ih nd' h hk
    unfold zeC at this ⊢
    rw [List.map_cons,if_neg e,List.map_cons,List.map_cons,List.sum_cons,List.sum_cons,this,Rat.add_assoc]
 ·rename_i hk
  have hl:look A k=none:=zdE.mpr (Bool.eq_false_iff.mpr hk)
  rw [hl,Option.getD_none,show nof=⟨[],1,256⟩ from rfl,zrH,Rat.zero_add]at h
  unfold zeC
  rw [List.map_append,zfT,List.map_cons,List.map_nil,List.sum_cons,List.sum_nil,h,Rat.add_zero]
theorem AO.get{n e a:Nat}{A:Pq Fm}(h:AO n e a A)(k:List Int):FO n e a a ((look A k).getD nof):=by
 cases hl:look A k with
 | none=>exact zyq
 | some F=>exact h.fo _ (zks hl)
theorem AO.put{n e e' a:Nat}{A:Pq Fm}(h:AO n e a A)(he:e<=e'){k:List Int}{F:Fm}(hF:FO n e' a a F)(hk:k.length=a):AO n e' a (zaZ A k F):=by
 refine⟨h.nd.put k F,fun t ht=>?_,fun t ht=>?_⟩
 ·rcases zgL ht with ⟨h1,_⟩ | rfl
  ·exact(h.fo t h1).up he (qe _)
  ·exact hF
 ·rcases zgL ht with ⟨h1,_⟩ | rfl
  ·exact h.kl t h1
  ·exact hk
theorem zkR:∀ (ks:List Int),(ks.map PyData.int).mapM flD=some (ks.map V.int)
 | []=>rfl
 | z::zs=>by
  rw [List.map_cons,List.mapM_cons,zkR zs]
  rfl
theorem znv{c:Int}:∀ {ks:List Int},inV (.int c) (ks.map V.int)=decide (c∈ks)
 | []=>rfl
 | k::ks=>by
  have ih:=znv (c:=c) (ks:=ks)
  unfold inV at ih ⊢
  rw [List.map_cons,List.any_cons,ih]
  have e:eqV (.int k) (.int c)=decide (k=c):=by
   show(k==c)=_
   by_cases h:k=c<;>simp [h]
  rw [e]
  by_cases h:k=c
  ·simp [h]
  ·simp [h,Ne.symm h]
theorem inP{neg:Bool}{c:Int}{ks:List Int}:fIn neg (.d (.int c)) (.d (pwD ks))=some (.d (.bool (if neg=true then !decide (c∈ks)else decide (c∈ks)))):=by
 unfold fIn
 show((zlE (.int c) (ks.map PyData.int)).bind _)=_
 unfold zlE
 rw [zkR,show flD (.int c)=some (V.int c) from rfl,bd,bd,znv,bd]
theorem zyt(b:Rat):zwt true [0,1] (.d (fR b))=some (.d (.bool (!decide (b=0)))):=zlR (a:=b) (b:=0) (neg:=true)
theorem zwW(f:Rat):PyData.tuple [.int (-f.num),.int (f.den:Int)]=fR (-f):=by
 unfold fR
 rw [Rat.neg_num,Rat.neg_den]
end K45
open PySem L2
namespace K45
open PySem L2
def odd(tk:List Int)(c:Int):Bool:=decide ((tk.filter fun x=>decide (x > c)).length % 2=1)
def sg(tk:List Int)(c:Int):Rat:=if odd tk c=true then -1 else 1
def tm(n:Nat)(φ:List Int->List Int->Rat)(tk:List Int)(row:List Et)(c:Nat)(k:List Int):Rat :=
 if(c:Int)∈tk then 0 else sg tk c * (row.getD c (0,none)).1 * φ (za4 (tk++[(c:Int)])) (sh n (row.getD c (0,none)).2 k)
def ziF(n:Nat)(row:List Et)(φ:List Int->List Int->Rat)(tk k:List Int):Rat:=((List.range row.length).map fun c=>tm n φ tk row c k).sum
def zdq(n:Nat):List (List Et)->(List Int->List Int->Rat)->List Int->List Int->Rat
 | [],φ=>φ
 | r::rs,φ=>ziF n r (zdq n rs φ)
theorem zkS(n:Nat)(rs:List (List Et))(r:List Et)(φ:List Int->List Int->Rat):zdq n (rs++[r]) φ=zdq n rs (ziF n r φ):=by
 induction rs with
 | nil=>rfl
 | cons s rs ih =>
  show ziF n s (zdq n (rs++[r]) φ)=_
  rw [ih]
  rfl
theorem zrJ(p:Pq Rat)(g h:List Int->Rat):lin p (fun k=>g k+h k)=lin p g+lin p h:=by
 induction p with
 | nil=>rw [zaJ,zaJ,zaJ,Rat.add_zero]
 | cons t p ih =>
  rw [zC,zC,zC,ih]
  grind
theorem zhL(p:Pq Rat):lin p (fun _=>0)=0:=by
 induction p with
 | nil=>rfl
 | cons t p ih =>
  rw [zC,ih,Rat.mul_zero,Rat.add_zero]
theorem zrK{α:Type}(F:Fm)(l:List α)(g:α->List Int->Rat):za9 F (fun k=>(l.map fun c=>g c k).sum)=(l.map fun c=>za9 F (g c)).sum:=by
 unfold za9
 induction l with
 | nil=>exact zhL _
 | cons c l ih =>
  simp only [List.map_cons,List.sum_cons]
  rw [zrJ,ih]
theorem zrL{n:Nat}{row:List Et}{φ:List Int->List Int->Rat}(A:Pq Fm):zeC A (ziF n row φ)=(A.map fun t=>((List.range row.length).map fun c=>za9 t.2 fun k=>tm n φ t.1 row c k).sum).sum:=by
 unfold zeC
 congr 1
 refine List.map_congr_left fun t _=>?_
 exact zrK t.2 _ _
theorem znw{n:Nat}{F:Fm}{φ:List Int->List Int->Rat}{tk:List Int}{row:List Et}{c:Nat}(h:¬(c:Int)∈tk):(za9 F fun k=>tm n φ tk row c k)=(sg tk c * (row.getD c (0,none)).1) * za9 F fun k=>φ (za4 (tk++[(c:Int)])) (sh n (row.getD c (0,none)).2 k):=by
 unfold za9
 rw [<-zol]
 congr 1
 funext k
 unfold tm
 rw [if_neg h]
theorem zrM{n:Nat}{F:Fm}{φ:List Int->List Int->Rat}{tk:List Int}{row:List Et}{c:Nat}(h:(c:Int)∈tk):(za9 F fun k=>tm n φ tk row c k)=0:=by
 unfold za9
 rw [<-zhL (toR F.b F.p)]
 congr 1
 funext k
 unfold tm
 rw [if_pos h]
def EE:Nat->Nat
 | 0=>0
 | k+1=>EE k+6+6 * 4^(k+1)
theorem zrN{k:Nat}(h:k<=4):EE k<=2100:=by
 rcases(by omega:k=0\/k=1\/k=2\/k=3\/k=4)with rfl | rfl | rfl | rfl | rfl<;>decide
theorem zox{A:Pq Fm}(nd:NdK A){k:List Int}{h:List Int->Rat}:zeC A (fun K=>if K=k then h else fun _=>0)=za9 ((look A k).getD nof) h:=by
 induction A with
 | nil=>rfl
 | cons t A ih =>
  have nd':NdK A:=(List.nodup_cons.mp nd).2
  have ni:t.1∉A.map (·.1):=(List.nodup_cons.mp nd).1
  have z:∀ F:Fm,(za9 F fun _=>0)=0:=fun F=>zhL _
  have st:zeC (t::A) (fun K=>if K=k then h else fun _=>0)=za9 t.2 (if t.1=k then h else fun _=>0)+zeC A (fun K=>if K=k then h else fun _=>0):=rfl
  rw [st,ih nd']
  by_cases e:t.1=k
  ·have hl:look (t::A) k=some t.2:=by unfold look; rw [List.find?_cons,decide_eq_true e]; rfl
   have hn:look A k=none:=zdE.mpr (Bool.eq_false_iff.mpr fun hh=>by
    obtain⟨u,hu,eu⟩:=List.any_eq_true.mp hh
    exact ni (by rw [e,<-of_decide_eq_true eu]; exact List.mem_map.mpr ⟨u,hu,rfl⟩))
   rw [hl,hn,if_pos e,Option.getD_some,Option.getD_none,show nof=⟨[],1,256⟩ from rfl,zrH,Rat.add_zero]
  ·have hl:look (t::A) k=look A k:=by unfold look; rw [List.find?_cons,decide_eq_false e]
   rw [hl,if_neg e,z,Rat.zero_add]
theorem zrO{ns:List Str}{t:List (List Et)}{Q:U×List U->Prop}(n1:1<=ns.length)(n3:ns.length<=3)(hT:TO ns.length t)
  (k:∀ F e a w,FO ns.length e a w F->a<=4->w<=4->e<=2100->(∀ h,za9 F h=zdq ns.length t (fun K=>if K=(List.range t.length).map (fun i:Nat=>(i:Int))then h else fun _=>0) [] (zs ns.length))->Q (znn (srt (toR F.b F.p)),[.d (taD ns t)])):Wo (zbN [.d (taD ns t)]) Q:=by
 have nf0:=zeh (n:=ns.length) (f:=0) n3 (by decide) (by decide)
 have nf1:=zeh (n:=ns.length) (f:=1) n3 (by decide) (by decide)
 rw [zyO]at nf0
 rw [zyP]at nf1
 unfold taD
 have k0:PyData.tuple []=pwD []:=rfl
 have no_:(⟨[],1,256⟩:Fm)=nof:=rfl
 rw [no_]at nf0
 simp_arith [zbN,zdR,fR0,fR1,nf0,nf1,k0]
 rw [show [(([]:List Key),cF ⟨[(zs ns.length,1)],1,256⟩)]=kvG cF [([],⟨[(zs ns.length,1)],1,256⟩)] from rfl]
 refine za3 (fun bs cs ρ=>∃ (u5:U) (A:Pq Fm) (v6 v7 v8 v9 v10 v11 v12 v13 v14 v15:Option U),ρ=[some (U.d (PyData.tuple [PyData.tuple (List.map PyData.str ns),PyData.tuple (List.map roD t)])),some (U.d (PyData.tuple (List.map PyData.str ns))),some (U.d (PyData.tuple (List.map roD t))),some (U.d (PyData.int (ns.length:Int))),some (U.d (cF nof)),some u5,v6,v7,v8,v9,v10,v11,v12,v13,v14,v15]/\(u5=.t (kvG cF A)\/u5=.d (.dict (dcG cF A)))/\AO ns.length (EE bs.length) bs.length A/\A.length<=4^bs.length/\∀ φ,zeC A φ=zdq ns.length bs φ [] (zs ns.length)) ⟨_,[([],⟨[(zs ns.length,1)],1,256⟩)],_,_,_,_,_,_,_,_,_,_,rfl,.inl rfl,?_,qe _,fun φ=>?_⟩ ?_ ?_
 ·refine⟨by unfold NdK; simp,fun s hs=>?_,fun s hs=>?_⟩
  ·cases qp.mp hs
   exact zwU
  ·cases qp.mp hs
   rfl
 ·unfold zeC
  rw [List.map_cons,List.map_nil,List.sum_cons,List.sum_nil,ztz,Rat.add_zero]
  rfl
 ·rintro bs r cs _ e ⟨u5,A,v6,v7,v8,v9,v10,v11,v12,v13,v14,v15,rfl,hu,hA,hAl,hφ⟩
  have hr:r∈t:=by rw [e]; simp
  have lr:=hT.sq r hr
  have lb:bs.length+cs.length+1=t.length:=by rw [e,qr,qt]; omega
  have t4:=hT.l4
  have b3:bs.length<=3:=by omega
  have ee:=zrN (k:=bs.length) (by omega)
  have hz:u5.fz=some (.dict (dcG cF A)):=by
   rcases hu with rfl | rfl
   ·exact zcx
   ·rfl
  have hA4:A.length<=64:=qx hAl (qx (Nat.pow_le_pow_right (by decide) b3) (by decide))
  have fz5:∀ ρ:En,(mFz (zi 5)) ρ=(mFz (zi 5)) ρ:=fun _=>rfl
  simp_arith [hz]
  rw [ze3 A]
  refine za3 (fun ds es ρ=>∃ (B:Pq Fm) (v8 v9 v10 v11 v12 v13 v14 v15:Option U),ρ=[some (U.d (PyData.tuple [PyData.tuple (List.map PyData.str ns),PyData.tuple (List.map roD t)])),some (U.d (PyData.tuple (List.map PyData.str ns))),some (U.d (PyData.tuple (List.map roD t))),some (U.d (PyData.int (ns.length:Int))),some (U.d (cF nof)),some (U.d (PyData.dict (dcG cF A))),some (U.d (roD r)),some (U.t (kvG cF B)),v8,v9,v10,v11,v12,v13,v14,v15]/\AO ns.length (EE bs.length+6+6 * (t.length * ds.length)) (bs.length+1) B/\B.length<=t.length * ds.length/\∀ φ,zeC B φ=(ds.map fun s=>((List.range r.length).map fun c=>za9 s.2 fun k=>tm ns.length φ s.1 r c k).sum).sum) ⟨[],_,_,_,_,_,_,_,_,rfl,⟨List.nodup_nil,fun s hs=>(by cases hs),fun s hs=>(by cases hs)⟩,Nat.zero_le _,fun φ=>rfl⟩ ?_ ?_
  ·rintro ds s es _ e2 ⟨B,v8,v9,v10,v11,v12,v13,v14,v15,rfl,hB,hBl,hBφ⟩
   have hs:s∈A:=by rw [e2]; simp
   have la:ds.length+es.length+1=A.length:=by rw [e2,qr,qt]; omega
   have hF:=hA.fo s hs
   have kl:=hA.kl s hs
   have er:roD r=.tuple (r.map enD):=rfl
   simp_arith [er]
   rw [<-er]
   refine zfD (fun i ρ=>∃ (B:Pq Fm) (v10 v11 v12 v13 v14 v15:Option U),ρ=[some (U.d (PyData.tuple [PyData.tuple (List.map PyData.str ns),PyData.tuple (List.map roD t)])),some (U.d (PyData.tuple (List.map PyData.str ns))),some (U.d (PyData.tuple (List.map roD t))),some (U.d (PyData.int (ns.length:Int))),some (U.d (cF nof)),some (U.d (PyData.dict (dcG cF A))),some (U.d (roD r)),some (U.t (kvG cF B)),some (U.d (pwD s.1)),some (U.d (cF s.2)),v10,v11,v12,v13,v14,v15]/\AO ns.length (EE bs.length+6+6 * (t.length * ds.length+i)) (bs.length+1) B/\B.length<=t.length * ds.length+i/\∀ φ,zeC B φ=(ds.map fun s=>((List.range r.length).map fun c=>za9 s.2 fun k=>tm ns.length φ s.1 r c k).sum).sum+((List.range i).map fun c=>za9 s.2 fun k=>tm ns.length φ s.1 r c k).sum) ⟨B,_,_,_,_,_,_,rfl,hB,hBl,fun φ=>by rw [hBφ,List.range_zero,List.map_nil,List.sum_nil,Rat.add_zero]⟩ ?_ ?_
   ·rintro i d _ hd ⟨B,v10,v11,v12,v13,v14,v15,rfl,hB,hBl,hBφ⟩
    obtain⟨x,hx,rfl⟩:=zd3 hd
    rw [List.getElem?_map]at hx
    obtain⟨en,hen,rfl⟩:=qq.mp hx
    obtain⟨f,l⟩:=en
    have hen':=hT.en r hr (f,l) (List.mem_of_getElem? hen)
    have il:i < r.length:=(qk.mp hen).1
    have ge:r.getD i (0,none)=(f,l):=by rw [qA,hen]; rfl
    rw [Nat.zero_add]
    have ed:enD (f,l)=.tuple [fR f,leD l]:=rfl
    have eb:EE bs.length+6+6 * (t.length * ds.length+i)<=2100:=by
     refine qx ?_ (zrN (k:=bs.length+1) (by omega))
     show _<=EE bs.length+6+6 * 4^(bs.length+1)
     have h1:t.length * (ds.length+1)<=4 * 4^bs.length:=Nat.mul_le_mul t4 (by omega)
     rw [Nat.mul_add,Nat.mul_one]at h1
     rw [Nat.pow_succ]
     omega
    have stp:∀ φ,((List.range (i+1)).map fun c=>za9 s.2 fun k=>tm ns.length φ s.1 r c k).sum=((List.range i).map fun c=>za9 s.2 fun k=>tm ns.length φ s.1 r c k).sum+za9 s.2 fun k=>tm ns.length φ s.1 r i k:=fun φ=>by
     rw [List.range_succ,List.map_append,zfT,List.map_cons,List.map_nil,List.sum_cons,List.sum_nil,Rat.add_zero]
    have stay:∀ {v10 v11 v12 v13 v14 v15:Option U},(∀ φ,(za9 s.2 fun k=>tm ns.length φ s.1 r i k)=0)->∃ (B1:Pq Fm) (w10 w11 w12 w13 w14 w15:Option U),[some (U.d (PyData.tuple [PyData.tuple (List.map PyData.str ns),PyData.tuple (List.map roD t)])),some (U.d (PyData.tuple (List.map PyData.str ns))),some (U.d (PyData.tuple (List.map roD t))),some (U.d (PyData.int (ns.length:Int))),some (U.d (cF nof)),some (U.d (PyData.dict (dcG cF A))),some (U.d (roD r)),some (U.t (kvG cF B)),some (U.d (pwD s.1)),some (U.d (cF s.2)),v10,v11,v12,v13,v14,v15]=[some (U.d (PyData.tuple [PyData.tuple (List.map PyData.str ns),PyData.tuple (List.map roD t)])),some (U.d (PyData.tuple (List.map PyData.str ns))),some (U.d (PyData.tuple (List.map roD t))),some (U.d (PyData.int (ns.length:Int))),some (U.d (cF nof)),some (U.d (PyData.dict (dcG cF A))),some (U.d (roD r)),some (U.t (kvG cF B1)),some (U.d (pwD s.1)),some (U.d (cF s.2)),w10,w11,w12,w13,w14,w15]/\AO ns.length (EE bs.length+6+6 * (t.length * ds.length+(i+1))) (bs.length+1) B1/\B1.length<=t.length * ds.length+(i+1)/\∀ φ,zeC B1 φ=(ds.map fun s=>((List.range r.length).map fun c=>za9 s.2 fun k=>tm ns.length φ s.1 r c k).sum).sum+((List.range (i+1)).map fun c=>za9 s.2 fun k=>tm ns.length φ s.1 r c k).sum:=fun h0=>⟨B,_,_,_,_,_,_,rfl,⟨hB.nd,fun t ht=>(hB.fo t ht).up (by omega) (qe _),hB.kl⟩,by omega,fun φ=>by rw [hBφ,stp,h0,Rat.add_zero]⟩
    by_cases hm:(i:Int)∈s.1
    ·simp_arith [ed,inP,hm,if_true]
     exact stay fun φ=>zrM hm
    ·by_cases hf:f=0
     ·simp_arith [ed,inP,hm,zyt,decide_eq_true hf,if_true]
      refine stay fun φ=>?_
      rw [znw hm,ge,hf,Rat.mul_zero,Rat.zero_mul]
     ·have dt:zn2 (.d (pwD s.1))=some (s.1.map PyData.int):=rfl
      simp_arith [ed,inP,hm,zyt,decide_eq_false hf,if_true,dt]
      refine zqI (g:=PyData.int) (b:=fun x=>decide (x > (i:Int))) (e:=PyData.int) (as:=s.1) (by rw [kl]; show _<=16777216; omega) (fun x hx ys=>?_) ?_
      ·by_cases hxi:x > (i:Int)
       ·simp_arith [hxi]
       ·simp_arith [hxi]
      ·have lf:=List.length_filter_le (fun x=>decide (x > (i:Int))) s.1
       have hK:(za4 (s.1++[(i:Int)])).length=bs.length+1:=by rw [(ze5 _).length_eq,qr,kl]; rfl
       have c1:=zq6 (a:=s.1) (b:=[(i:Int)]) (by rw [kl]; show bs.length+1<=1000; omega)
       have c2:=zhz (ks:=s.1++[(i:Int)]) (by rw [qr,kl]; show bs.length+1 < 64; omega)
       have c3:=zfN (ks:=za4 (s.1++[(i:Int)])) (by rw [hK]; omega)
       have bl:=zjx n1 n3 (by omega) (by omega) (by omega:EE bs.length<=2800) hF hen'.lt
       have hFO:=zyp n1 n3 b3 hF hen'.lt
       have sz:2^15<=2^256:=Nat.pow_le_pow_right (by decide) (by decide)
       have main:∀ g:Rat,Bd 12 12000000 g->g=sg s.1 i * f->zb3 [.d (cF ((look B (za4 (s.1++[(i:Int)]))).getD nof)),.d (cF (byF ns.length s.2 l)),.d (fR g)]=some (.d (cF (zju ((look B (za4 (s.1++[(i:Int)]))).getD nof) (byF ns.length s.2 l) g)),[.d (cF ((look B (za4 (s.1++[(i:Int)]))).getD nof)),.d (cF (byF ns.length s.2 l)),.d (fR g)]) /\
         ∀ {v10 v11 v12 v13 v14 v15:Option U},∃ (B1:Pq Fm) (w10 w11 w12 w13 w14 w15:Option U),[some (U.d (PyData.tuple [PyData.tuple (List.map PyData.str ns),PyData.tuple (List.map roD t)])),some (U.d (PyData.tuple (List.map PyData.str ns))),some (U.d (PyData.tuple (List.map roD t))),some (U.d (PyData.int (ns.length:Int))),some (U.d (cF nof)),some (U.d (PyData.dict (dcG cF A))),some (U.d (roD r)),some (U.t (kvG cF (zaZ B (za4 (s.1++[(i:Int)])) (zju ((look B (za4 (s.1++[(i:Int)]))).getD nof) (byF ns.length s.2 l) g)))),some (U.d (pwD s.1)),some (U.d (cF s.2)),v10,v11,v12,v13,v14,v15]=[some (U.d (PyData.tuple [PyData.tuple (List.map PyData.str ns),PyData.tuple (List.map roD t)])),some (U.d (PyData.tuple (List.map PyData.str ns))),some (U.d (PyData.tuple (List.map roD t))),some (U.d (PyData.int (ns.length:Int))),some (U.d (cF nof)),some (U.d (PyData.dict (dcG cF A))),some (U.d (roD r)),some (U.t (kvG cF B1)),some (U.d (pwD s.1)),some (U.d (cF s.2)),w10,w11,w12,w13,w14,w15]/\AO ns.length (EE bs.length+6+6 * (t.length * ds.length+(i+1))) (bs.length+1) B1/\B1.length<=t.length * ds.length+(i+1)/\∀ φ,zeC B1 φ=(ds.map fun s=>((List.range r.length).map fun c=>za9 s.2 fun k=>tm ns.length φ s.1 r c k).sum).sum+((List.range (i+1)).map fun c=>za9 s.2 fun k=>tm ns.length φ s.1 r c k).sum:=fun g hg eg=>by
        have hg2:Bd 12 (2^24) g:=hg.le (by decide)
        have one:=hB.get (za4 (s.1++[(i:Int)]))
        have oth:FO ns.length (EE bs.length+6+6 * (t.length * ds.length+i)) bs.length (bs.length+1) (byF ns.length s.2 l):=hFO.up (by omega) (qe _)
        obtain⟨gd,gn⟩:=hg.size (by decide)
        have sb:=zuM (A:=0) (X:=0) one oth hg.dvd
        have sb2:=Int.le_of_dvd (by exact_mod_cast Nat.pow_pos (by decide)) sb
        have p4:(12:Nat)^(bs.length+1)<=12^4:=Nat.pow_le_pow_right (by decide) (by omega)
        have p5:(12:Nat)^4=20736:=by decide
        have p6:20736 < 2^15:=by decide
        have sF:=zwS n1 n3 (by omega) one oth hg2
        have b0:=zdG one.b1 (by have:=zhr g; have:=Int.mul_pos (by have:=oth.b1; omega:0 < (byF ns.length s.2 l).b) (by omega:(0:Int) < g.den); omega:1<=(byF ns.length s.2 l).b * (g.den:Int))
        have b00:=Int.mul_pos (by have:=one.b1; omega:0 < ((look B (za4 (s.1++[(i:Int)]))).getD nof).b) (by have:=b0.1; omega:0 < ((byF ns.length s.2 l).b * (g.den:Int)).fdiv (Int.gcd ((look B (za4 (s.1++[(i:Int)]))).getD nof).b ((byF ns.length s.2 l).b * (g.den:Int)):Nat))
        refine⟨zkN (one.fz n1 n3 (by omega) (by omega) (by omega)) (oth.fz n1 n3 (by omega) (by omega) (by omega)) (Nat.lt_of_le_of_lt gn (qi (by decide:12000000 < 2^24) (Nat.pow_le_pow_right (by decide) (by decide)))) (Nat.lt_of_le_of_lt gd (qi (by decide:12 < 2^4) (Nat.pow_le_pow_right (by decide) (by decide)))) (by omega),?_⟩
        intro v10 v11 v12 v13 v14 v15
        refine⟨_,_,_,_,_,_,_,rfl,hB.put (by omega) (sF.up (by omega) (qe _)) hK,?_,fun φ=>?_⟩
        ·have:=zjf B (za4 (s.1++[(i:Int)])) (zju ((look B (za4 (s.1++[(i:Int)]))).getD nof) (byF ns.length s.2 l) g)
         omega
        ·rw [zrI hB.nd (ztx one oth.b1 _),hBφ,stp,znw hm,ge,zwT (hF.b1),<-eg,Rat.add_assoc]
       have lk:((look B (za4 (s.1++[(i:Int)]))).map cF).getD (cF nof)=cF ((look B (za4 (s.1++[(i:Int)]))).getD nof):=by cases look B (za4 (s.1++[(i:Int)]))<;>rfl
       have pu:∀ X:Fm,zix (.t (kvG cF B)) (pwD (za4 (s.1++[(i:Int)]))) (cF X)=some (.t (kvG cF (zaZ B (za4 (s.1++[(i:Int)])) X))):=fun X=>zlQ (c:=cF) (by omega)
       simp_arith [zhw]
       refine zgq (fun ho=>?_) (fun ho=>?_)
       ·have ho':odd s.1 i=true:=by
         unfold odd
         rw [decide_eq_true_iff]
         simp only [bne_iff_ne,ne_eq]at ho
         omega
        obtain⟨m1,m2⟩:=main (-f) hen'.bd.neg (by unfold sg; rw [if_pos ho']; grind)
        simp_arith [zhw,c1,c2,c3,lk,bl,zwW,m1,pu]
        exact m2
       ·have ho':¬odd s.1 i=true:=by
         unfold odd
         rw [decide_eq_true_iff]
         simp only [bne_iff_ne,ne_eq,Decidable.not_not]at ho
         omega
        obtain⟨m1,m2⟩:=main f hen'.bd (by unfold sg; rw [if_neg ho']; grind)
        simp_arith [zhw,c1,c2,c3,lk,bl,m1,pu]
        exact m2
   ·rintro _ ⟨B,v10,v11,v12,v13,v14,v15,rfl,hB,hBl,hBφ⟩
    rw [zdM,List.length_map,lr]at hB hBl hBφ
    simp_arith
    refine⟨B,_,_,_,_,_,_,_,_,rfl,?_,?_,fun φ=>?_⟩
    ·rw [Nat.mul_add,Nat.mul_one]
     exact hB
    ·rw [Nat.mul_add,Nat.mul_one]
     exact hBl
    ·rw [hBφ,List.map_append,zfT,List.map_cons,List.map_nil,List.sum_cons,List.sum_nil,Rat.add_zero,lr]
  ·rintro _ ⟨B,v8,v9,v10,v11,v12,v13,v14,v15,rfl,hB,hBl,hBφ⟩
   have h1:t.length * A.length<=4 * 4^bs.length:=Nat.mul_le_mul t4 hAl
   simp_arith
   refine⟨_,B,_,_,_,_,_,_,_,_,_,_,rfl,.inr rfl,?_,?_,fun φ=>?_⟩
   ·refine⟨hB.nd,fun t ht=>(hB.fo t ht).up ?_ (qe _),hB.kl⟩
    show _<=EE bs.length+6+6 * 4^(bs.length+1)
    rw [Nat.pow_succ]
    omega
   ·show B.length<=4^(bs.length+1)
    rw [Nat.pow_succ]
    omega
   ·rw [hBφ,<-zrL,hφ,zkS]
 ·rintro _ ⟨u5,A,v6,v7,v8,v9,v10,v11,v12,v13,v14,v15,rfl,hu,hA,hAl,hφ⟩
  have t4:=hT.l4
  have ee:=zrN (k:=t.length) (by omega)
  have hF:=hA.get ((List.range t.length).map fun i:Nat=>(i:Int))
  have hl:∀ h:List Int->Rat,za9 ((look A ((List.range t.length).map fun i:Nat=>(i:Int))).getD nof) h=zdq ns.length t (fun K=>if K=(List.range t.length).map (fun i:Nat=>(i:Int))then h else fun _=>0) [] (zs ns.length):=fun h=>by
   rw [<-hφ,zox hA.nd]
  have lk:((look A ((List.range t.length).map fun i:Nat=>(i:Int))).map cF).getD (cF nof)=cF ((look A ((List.range t.length).map fun i:Nat=>(i:Int))).getD nof):=by cases look A ((List.range t.length).map fun i:Nat=>(i:Int))<;>rfl
  have fo:=zjw (hF.fz n1 n3 t4 t4 (by omega))
  have tr:=zjn (j:=(t.length:Int)) (by omega) (by omega)
  rw [Int.toNat_natCast]at tr
  have fin:=k _ _ _ _ hF t4 t4 ee hl
  rcases hu with rfl | rfl
  ·simp_arith [tr,lk,fo]
   exact fin
  ·simp_arith [tr,lk,fo]
   exact fin
end K45
open PySem L2
namespace K45
open PySem L2
def zwX(n:Nat):Option Nat->List Int
 | none=>zs n
 | some j=>zeg n j
def zkT(n:Nat)(e:Et):Pq Rat:=if e.1=0 then []else [(zwX n e.2,e.1)]
theorem zl5{n j:Nat}(h:j < n):((List.range n).map fun i:Nat=>if(i:Int)=(j:Int)then(1:Int)else 0)=zeg n j:=by
 apply List.ext_getElem?
 intro i
 unfold zeg
 by_cases hi:i < n
 ·rw [List.getElem?_map,List.getElem?_range hi,Option.map_some]
  by_cases e:i=j
  ·subst e
   rw [List.append_assoc,List.getElem?_append_right (by simp)]
   simp
  ·by_cases l:i < j
   ·rw [List.append_assoc,List.getElem?_append_left (by simpa using l),List.getElem?_replicate,if_pos l,if_neg (by omega)]
   ·rw [List.getElem?_append_right (by rw [qr,List.length_replicate,List.length_singleton]; omega),qr,List.length_replicate,List.length_singleton,List.getElem?_replicate,if_neg (show ¬(i:Int)=(j:Int) by omega),if_pos (by omega)]
 ·rw [List.getElem?_eq_none (by simpa using hi),List.getElem?_eq_none (by simp; omega)]
theorem zrP{n:Nat}:((List.range n).map fun _:Nat=>(0:Int))=zs n:=by
 unfold zs
 rw [List.map_const',List.length_range]
theorem zh6{n:Nat}{e:Et}(n3:n<=3)(hl:∀ k,e.2=some k->k < n):zau [.d (enD e),.d (.int (n:Int))]=some (.t (kvG fR (zkT n e)),[.d (enD e),.d (.int (n:Int))]):=by
 refine zag ?_
 obtain⟨f,l⟩:=e
 have ed:enD (f,l)=.tuple [fR f,leD l]:=rfl
 unfold zkT
 dsimp only at hl ⊢
 simp_arith [zau,zb1,ed,zkM]
 by_cases hf:f=0
 ·simp_arith [hf]
  rfl
 ·have up:zaR 0 n=(List.range n).map fun i:Nat=>PyData.int (i:Int):=by
   unfold zaR
   refine List.map_congr_left fun i _=>?_
   rw [Int.zero_add]
  simp_arith [hf]
  rw [Int.toNat_natCast,up]
  cases l with
  | none =>
   refine zgb (e:=fun _:Nat=>.int 0) (by rw [List.length_range]; omega) (fun i hi ys=>?_) ?_
   ·have q:zdA false (.d (.int (i:Int))) (.d .none)=some (.d (.bool false)):=rfl
    simp_arith [leD,q]
   ·have e0:((List.range n).map fun _:Nat=>PyData.int 0)=(zs n).map PyData.int:=by rw [<-zrP,List.map_map]; rfl
    rw [e0]
    simp_arith [zfN (ks:=zs n) (by rw [zjt]; omega)]
    rfl
  | some j =>
   have hj:=hl j rfl
   refine zgb (e:=fun i:Nat=>.int (if(i:Int)=(j:Int)then 1 else 0)) (by rw [List.length_range]; omega) (fun i hi ys=>?_) ?_
   ·simp_arith [leD]
   ·have e0:((List.range n).map fun i:Nat=>PyData.int (if(i:Int)=(j:Int)then 1 else 0))=(zeg n j).map PyData.int:=by rw [<-zl5 hj,List.map_map]; rfl
    rw [e0]
    simp_arith [zfN (ks:=zeg n j) (by rw [zhI hj]; omega)]
    rfl
abbrev Od:=List Int×Int
def oD(o:Od):D:=.tuple [pwD o.1,.int o.2]
def znx(k p:Nat)(σ:List Int):List Int:=σ.take p++[(k:Int)]++σ.drop p
def zeD(k:Nat)(o:Od):List Od:=(List.range (k+1)).map fun p=>(znx k p o.1,o.2 * (1 - 2 * (((k:Int) - (p:Int)) % 2)))
def zei:Nat->List Od
 | 0=>[([],1)]
 | k+1=>(zei k).flatMap (zeD k)
theorem zkU{k:Nat}:∀ o∈zei k,o.1.length=k/\(o.2=1\/o.2=-1):=by
 induction k with
 | zero =>
  intro o ho
  cases qp.mp ho
  exact⟨rfl,.inl rfl⟩
 | succ k ih =>
  intro o ho
  obtain⟨u,hu,ho⟩:=List.mem_flatMap.mp ho
  obtain⟨p,hp,rfl⟩:=List.mem_map.mp ho
  obtain⟨h1,h2⟩:=ih u hu
  have hp:=List.mem_range.mp hp
  refine⟨?_,?_⟩
  ·unfold znx
   simp
   omega
  ·dsimp only
   rcases h2 with h | h<;>rw [h]<;>omega
theorem zyu{σ:List Int}{p:Nat}:zn5 (.d (pwD σ)) none (some (p:Int))=some (.d (pwD (σ.take p))):=by
 show some (U.d (.tuple (zdU (σ.map PyData.int) none (some (p:Int)))))=_
 rw [zww (by omega),Int.toNat_natCast,<-List.map_take]
 rfl
theorem ztA{σ:List Int}{p:Nat}:zn5 (.d (pwD σ)) (some (p:Int)) none=some (.d (pwD (σ.drop p))):=by
 show some (U.d (.tuple (zdU (σ.map PyData.int) (some (p:Int)) none)))=_
 rw [zqv (by omega),Int.toNat_natCast,<-List.map_drop]
 rfl
theorem ztB{k:Nat}(h:k<=3):(zei k).length<=6:=by
 rcases(by omega:k=0\/k=1\/k=2\/k=3)with rfl | rfl | rfl | rfl<;>decide
theorem zny{k:Nat}:∀ bs:List Od,(bs.flatMap (zeD k)).length=bs.length * (k+1)
 | []=>by simp
 | b::bs=>by
  rw [List.flatMap_cons,qr,zny bs,qt,Nat.add_mul,Nat.one_mul,Nat.add_comm]
  unfold zeD
  simp
theorem zoy{m:Nat}(h1:1<=m)(h4:m<=4):za7 [.d (.int (m:Int))]=some (.d (.list ((zei m).map oD)),[.d (.int (m:Int))]):=by
 refine zag ?_
 simp_arith [za7,zc2]
 rw [Int.toNat_natCast]
 refine zkh (fun i ρ=>∃ (u1:U) (v2 v3 v4 v5 v6 v7:Option U),ρ=[some (U.d (.int (m:Int))),some u1,v2,v3,v4,v5,v6,v7]/\u1.fz=some (.list ((zei i).map oD))/\(1<=i->u1=.d (.list ((zei i).map oD)))) ⟨_,_,_,_,_,_,_,rfl,rfl,fun z=>by omega⟩ ?_ ?_
 ·rintro k _ hk ⟨u1,v2,v3,v4,v5,v6,v7,rfl,hu,_⟩
  have ek:(0:Int)+(k:Nat)=(k:Int):=by omega
  rw [ek]
  simp_arith [hu]
  refine za3 (fun bs cs ρ=>∃ (v4 v5 v6 v7:Option U),ρ=[some (U.d (.int (m:Int))),some (.d (.list ((zei k).map oD))),some (.d (.int (k:Int))),some (.l ((bs.flatMap (zeD k)).map oD)),v4,v5,v6,v7]) ⟨_,_,_,_,rfl⟩ ?_ ?_
  ·rintro bs o cs _ e ⟨v4,v5,v6,v7,rfl⟩
   have ho:o∈zei k:=by rw [e]; simp
   obtain⟨hl,hs⟩:=zkU o ho
   have lb:bs.length+cs.length+1=(zei k).length:=by rw [e,qr,qt]; omega
   have lo6:=ztB (k:=k) (by omega)
   have fl:(bs.flatMap (zeD k)).length<=6 * 4:=by rw [zny]; exact Nat.mul_le_mul (by omega) (by omega)
   have ed:oD o=.tuple [pwD o.1,.int o.2]:=rfl
   have et:((k:Int)+1).toNat=k+1:=by omega
   simp_arith [ed]
   rw [et]
   refine zkh (fun j ρ=>∃ (v6 v7:Option U),ρ=[some (U.d (.int (m:Int))),some (.d (.list ((zei k).map oD))),some (.d (.int (k:Int))),some (.l ((bs.flatMap (zeD k)++(zeD k o).take j).map oD)),some (.d (pwD o.1)),some (.d (.int o.2)),v6,v7]) ⟨v6,v7,by rw [List.take_zero,List.append_nil]⟩ ?_ ?_
   ·rintro p _ hp ⟨v6,v7,rfl⟩
    have ep:(0:Int)+(p:Nat)=(p:Int):=by omega
    rw [ep]
    have l1:(o.1.take p).length<=k:=by rw [List.length_take]; omega
    have l2:(o.1.drop p).length<=k:=by rw [List.length_drop]; omega
    have c1:=zq6 (a:=o.1.take p) (b:=[(k:Int)]) (by show _+1<=1000; omega)
    have c2:=zq6 (a:=o.1.take p++[(k:Int)]) (b:=o.1.drop p) (by rw [qr]; show _+1+_<=1000; omega)
    have tk:(zeD k o).take (p+1)=(zeD k o).take p++[(znx k p o.1,o.2 * (1 - 2 * (((k:Int) - (p:Int)) % 2)))]:=by
     unfold zeD
     rw [<-List.map_take,<-List.map_take,List.take_range,List.take_range,Nat.min_eq_left (by omega),Nat.min_eq_left (by omega),List.range_succ,List.map_append]
     rfl
    simp_arith [zyu,ztA,zhw,c1,c2]
    rw [tk,<-List.append_assoc]
    simp only [List.map_append]
    exact⟨_,_,rfl⟩
   ·rintro _ ⟨v6,v7,rfl⟩
    simp_arith
    have tk2:(zeD k o).take (k+1)=zeD k o:=List.take_of_length_le (by unfold zeD; simp)
    have fm:(bs++[o]).flatMap (zeD k)=bs.flatMap (zeD k)++zeD k o:=by simp
    rw [tk2,fm]
    exact⟨_,_,_,_,rfl⟩
  ·rintro _ ⟨v4,v5,v6,v7,rfl⟩
   simp_arith
   exact⟨_,_,_,_,_,_,_,rfl,rfl,rfl⟩
 ·rintro _ ⟨u1,v2,v3,v4,v5,v6,v7,rfl,hu,h⟩
  rw [h h1]
  simp_arith
end K45
open PySem L2
namespace K45
open PySem L2
def NN(n:Nat):List (List Et×Int)->(List Int->Rat)->List Int->Rat
 | [],g,k=>g k
 | x::xs,g,k=>(x.1.getD x.2.toNat (0,none)).1 * NN n xs g (sh n (x.1.getD x.2.toNat (0,none)).2 k)
theorem ztC(n:Nat)(xs:List (List Et×Int))(x:List Et×Int)(g:List Int->Rat):∀ k,NN n (xs++[x]) g k=NN n xs (fun a=>(x.1.getD x.2.toNat (0,none)).1 * g (sh n (x.1.getD x.2.toNat (0,none)).2 a)) k:=by
 induction xs with
 | nil=>intro k; rfl
 | cons y xs ih =>
  intro k
  show _ * NN n (xs++[x]) g _=_ * NN n xs _ _
  rw [ih]
theorem ztD{n:Nat}:∀ {a:List Int},a.length=n->zaL a (zs n)=a:=by
 intro a ha
 subst ha
 unfold zaL zs
 induction a with
 | nil=>rfl
 | cons x a ih =>
  rw [qt,List.replicate_succ,List.zipWith_cons_cons,ih,Int.add_zero]
theorem zrQ{n:Nat}{a:List Int}(h:a.length=n)(l:Option Nat):zaL a (zwX n l)=sh n l a:=by
 cases l with
 | none=>exact ztD h
 | some j=>rfl
theorem zrR{n:Nat}{e:Et}{g:List Int->Rat}:lin (zkT n e) g=e.1 * g (zwX n e.2):=by
 unfold zkT
 split
 ·rename_i h
  rw [h,zaJ,Rat.zero_mul]
 ·rw [zC,zaJ,Rat.add_zero]
theorem ztE{n:Nat}{e:Et}(h:EO n e):PG n 0 1 (zkT n e)/\(zkT n e).length<=1:=by
 unfold zkT
 split
 ·exact⟨⟨List.nodup_nil,fun t ht=>(by cases ht),fun t ht=>(by cases ht)⟩,Nat.zero_le _⟩
 ·refine⟨⟨nd1,fun t ht=>?_,fun t ht=>?_⟩,qe _⟩
  ·cases qp.mp ht
   obtain⟨f,l⟩:=e
   cases l with
   | none =>
    refine⟨zjt n,fun k hk=>by rw [zl4 k hk]; decide,?_⟩
    show(zs n).sum<=_
    unfold zs
    simp
   | some j=>exact znu (h.lt j rfl)
  ·cases qp.mp ht
   exact h.bd.le (by decide)
theorem zrS{n:Nat}{p:Pq Rat}{e:Et}(hk:∀ t∈p,t.1.length=n)(g:List Int->Rat):lin (nz (gat [] (za0 p (zkT n e)))) g=lin p fun a=>e.1 * g (sh n e.2 a):=by
 unfold nz
 rw [zlM,zgM _ _ nd0,zaJ,Rat.zero_add,ztf]
 refine zok fun t ht=>?_
 rw [zrR,zrQ (hk t ht)]
theorem zrT{k:Nat}:∀ o∈zei k,∀ c∈o.1,0<=c/\c < (k:Int):=by
 induction k with
 | zero =>
  intro o ho
  cases qp.mp ho
  intro c hc
  cases hc
 | succ k ih =>
  intro o ho c hc
  obtain⟨u,hu,ho⟩:=List.mem_flatMap.mp ho
  obtain⟨p,hp,rfl⟩:=List.mem_map.mp ho
  unfold znx at hc
  rcases List.mem_append.mp hc with hc | hc
  ·rcases List.mem_append.mp hc with hc | hc
   ·have:=ih u hu c (List.mem_of_mem_take hc)
    omega
   ·rw [qp.mp hc]
    omega
  ·have:=ih u hu c (List.mem_of_mem_drop hc)
   omega
theorem zwY{r:List Et}{c:Int}(h0:0<=c)(h1:c < (r.length:Int)):zca (.d (roD r)) (.d (.int c))=some (.d (enD (r.getD c.toNat (0,none)))):=by
 have hk:c.toNat < r.length:=by omega
 show(atI (r.map enD) c).map U.d=_
 have e:atI (r.map enD) c=some (enD r[c.toNat]):=by
  unfold atI ixN
  rw [if_pos h0,if_pos (by rw [List.length_map]; exact h1),bd,List.getElem?_map,ql hk]
  rfl
 rw [e,qA,ql hk]
 rfl
theorem zrU{n:Nat}:ztu n 1=[(zs n,1)]:=if_neg (by decide)
theorem p24{x:Nat}(h:x < 4000):2^x < 2^4000:=Nat.pow_lt_pow_right (by decide) h
theorem p12{x:Nat}(h:x<=8):12^x < 2^4000:=Nat.lt_of_le_of_lt (Nat.pow_le_pow_right (by decide) h) (qi (by decide:12^8 < 2^32) (Nat.pow_le_pow_right (by decide) (by decide)))
theorem zjy{ns:List Str}{t:List (List Et)}{Q:U×List U->Prop}(n1:1<=ns.length)(n3:ns.length<=3)(hT:TO ns.length t)
  (k:∀ p e,PG ns.length e t.length p->e<=400->(∀ u∈p,u.2≠0)->(∀ g,lin p g=((zei t.length).map fun o=>(o.2:Rat) * NN ns.length (t.zip o.1) g (zs ns.length)).sum)->Q (.t (kvG fR p),[.d (taD ns t)])):Wo (zaw [.d (taD ns t)]) Q:=by
 have h1:=hT.l1
 have h4:=hT.l4
 have oo:=zoy h1 h4
 have pn:=zhH (n:=ns.length) (f:=1) n3
 unfold taD
 simp_arith [zaw,zb5,oo,pn]
 refine za3 (fun bs cs ρ=>∃ (p:Pq Rat) (v4 v5 v6 v7 v8:Option U),ρ=[some (U.d (PyData.tuple [PyData.tuple (List.map PyData.str ns),PyData.tuple (List.map roD t)])),some (U.d (PyData.tuple (List.map PyData.str ns))),some (U.d (PyData.tuple (List.map roD t))),some (.t (kvG fR p)),v4,v5,v6,v7,v8]/\PG ns.length (50+6 * bs.length) t.length p/\(∀ u∈p,u.2≠0)/\∀ g,lin p g=(bs.map fun o=>(o.2:Rat) * NN ns.length (t.zip o.1) g (zs ns.length)).sum) ⟨[],_,_,_,_,_,rfl,⟨List.nodup_nil,fun s hs=>(by cases hs),fun s hs=>(by cases hs)⟩,(fun s hs=>by cases hs),fun g=>rfl⟩ ?_ ?_
 ·rintro bs o cs _ e ⟨p,v4,v5,v6,v7,v8,rfl,hp,hpz,hpl⟩
  have ho:o∈zei t.length:=by rw [e]; simp
  obtain⟨hl,hs⟩:=zkU o ho
  have lo:bs.length+cs.length+1<=24:=by
   have:(zei t.length).length<=24:=by rcases(by omega:t.length=1\/t.length=2\/t.length=3\/t.length=4)with h | h | h | h<;>rw [h]<;>decide
   rw [e,qr,qt]at this
   omega
  have ed:oD o=.tuple [pwD o.1,.int o.2]:=rfl
  have zp:=zgN (f:=roD) (as:=t) (ks:=o.1) hl.symm
  simp_arith [ed,pn,fR1,zp]
  refine za3 (fun ds es ρ=>∃ (q:Pq Rat) (u6:U) (v7 v8:Option U),ρ=[some (U.d (PyData.tuple [PyData.tuple (List.map PyData.str ns),PyData.tuple (List.map roD t)])),some (U.d (PyData.tuple (List.map PyData.str ns))),some (U.d (PyData.tuple (List.map roD t))),some (.t (kvG fR p)),some (.d (pwD o.1)),some (.d (.int o.2)),some u6,v7,v8]/\u6.fz=some (.dict (dcG fR q))/\PG ns.length (11 * ds.length) ds.length q/\q.length<=1/\∀ g,lin q g=NN ns.length ds g (zs ns.length)) ⟨ztu ns.length 1,_,_,_,rfl,zcx,?_,?_,fun g=>?_⟩ ?_ ?_
  ·rw [zrU]
   refine⟨nd1,fun s hs=>?_,fun s hs=>?_⟩
   ·cases qp.mp hs
    refine⟨zjt _,fun k hk=>by rw [zl4 k hk]; decide,?_⟩
    show(zs ns.length).sum<=_
    unfold zs
    simp
   ·cases qp.mp hs
    exact Bd.one
  ·rw [zrU]
   exact qe _
  ·rw [zrU,zC,zaJ]
   show 1 * g (zs ns.length)+0=g (zs ns.length)
   grind
  ·rintro ds x es _ e2 ⟨q,u6,v7,v8,rfl,hu,hq,hq1,hql⟩
   have hx:x∈t.zip o.1:=by rw [e2]; simp
   obtain⟨xr,xc⟩:=x
   obtain⟨hx1,hx2⟩:=List.of_mem_zip hx
   have rl:=hT.sq xr hx1
   have cr:=zrT o ho xc hx2
   have ld:ds.length+es.length+1=t.length:=by
    have:=congrArg List.length e2
    rw [List.length_zip,qr,qt,hl,Nat.min_self]at this
    omega
   have ix:=zwY (r:=xr) (c:=xc) cr.1 (by rw [rl]; exact cr.2)
   have hen:EO ns.length (xr.getD xc.toNat (0,none)):=by
    have hk:xc.toNat < xr.length:=by omega
    rw [qA,ql hk]
    exact hT.en xr hx1 _ (List.getElem_mem hk)
   generalize hge:xr.getD xc.toNat (0,none)=en at *
   obtain⟨eP,eL⟩:=ztE hen
   have ep:=zh6 (e:=en) n3 hen.lt
   have pm:=hq.mul eP n1 n3 (by omega)
   simp_arith [ix,ep]
   refine zkJ hu zcx hq.nd eP.nd hq.bd eP.bd (fun s hs=>(hq.ky s hs).ln) (fun s hs=>(eP.ky s hs).ln) (by omega) (Nat.pow_pos (by decide)) (Nat.pow_pos (by decide)) (by rw [<-Nat.pow_add]; exact p12 (by omega)) (p12 (by omega)) (p12 (by decide)) (p24 (by omega)) (p24 (by decide)) ?_ ?_ ?_ (by omega) (by omega) fun u2' h2=>?_
   ·rw [<-Nat.pow_add]
    refine Nat.lt_of_le_of_lt (Nat.mul_le_mul_right _ (Nat.mul_le_mul hq1 eL)) ?_
    simp only [Nat.one_mul]
    exact p24 (by omega)
   ·rw [<-Nat.pow_add]
    exact Nat.pow_pos (by decide)
   ·exact Nat.lt_of_le_of_lt (Nat.mul_le_mul hq1 eL) (by decide)
   ·simp_arith
    refine⟨_,_,_,_,rfl,zcx,pm.up (qe _) (by omega),?_,fun g=>?_⟩
    ·refine qx (List.length_filter_le _ _) (qx (zcM _ _) ?_)
     rw [zeb,List.length_nil,Nat.zero_add]
     exact Nat.mul_le_mul hq1 eL
    ·rw [zrS (fun s hs=>(hq.ky s hs).ln),hql,ztC]
     dsimp only
     rw [hge]
  ·rintro _ ⟨q,u6,v7,v8,rfl,hu,hq,hq1,hql⟩
   have lz:(t.zip o.1).length=t.length:=by rw [List.length_zip,hl,Nat.min_self]
   rw [lz]at hq
   have hq2:=hq.up (qe _) (by omega:11 * t.length<=50+6 * bs.length)
   have l1:=hp.len n1 n3 h4
   have pa:=zkI (u1:=.t (kvG fR p)) (u2:=u6) (s:=o.2) (zyh (hp.hash n1 n3 h4)) hu hs hp.nd hq2.nd hp.bd hq2.bd (Nat.pow_pos (by decide)) (p12 (by omega)) (by
    refine Nat.lt_of_le_of_lt (Nat.add_le_add_left (Nat.mul_le_mul_right _ hq1) _) ?_
    rw [Nat.one_mul,<-Nat.two_mul,<-Nat.pow_succ']
    exact p24 (by omega)) (by omega) (by omega)
   have pp:=hp.add hq2 n1 n3 h4 hs
   simp_arith [pa]
   refine⟨_,_,_,_,_,_,rfl,pp.up (qe _) (by omega),fun u hu=>?_,fun g=>?_⟩
   ·have:=(List.mem_filter.mp hu).2
    simpa using this
   ·unfold nz
    rw [zlM,zgM _ _ hp.nd,hpl,show psg o.2 q=q.map fun t=>(t.1,(o.2:Rat) * t.2) from rfl,zkQ,hql,List.map_append,zfT,List.map_cons,List.map_nil,List.sum_cons,List.sum_nil,Rat.add_zero]
 ·rintro _ ⟨p,v4,v5,v6,v7,v8,rfl,hp,hpz,hpl⟩
  have l24:(zei t.length).length<=24:=by rcases(by omega:t.length=1\/t.length=2\/t.length=3\/t.length=4)with h | h | h | h<;>rw [h]<;>decide
  have fin:=k p _ hp (by omega) hpz hpl
  simp_arith
  exact fin
end K45
open PySem L2
namespace K45
open PySem L2
def sgI(tk:List Int)(c:Int):Int:=if odd tk c=true then -1 else 1
theorem zyQ(tk:List Int)(c:Int):sg tk c=(sgI tk c:Rat):=by
 unfold sg sgI
 split<;>rfl
def ext(m:Nat):Nat->List Int->List (List Int×Int×List Int)
 | 0,tk=>[([],1,tk)]
 | j+1,tk=>(List.range m).flatMap fun(c:Nat)=>if(c:Int)∈tk then []else(ext m j (za4 (tk++[(c:Int)]))).map fun x=>((c:Int)::x.1,sgI tk c * x.2.1,x.2.2)
theorem zkV{α β:Type}(f:α->List β)(g:β->Rat):∀ l:List α,((l.flatMap f).map g).sum=(l.map fun a=>((f a).map g).sum).sum
 | []=>rfl
 | a::l=>by
  rw [List.flatMap_cons,List.map_append,zfT,zkV f g l,List.map_cons,List.sum_cons]
theorem znz{α:Type}(c:Rat)(g:α->Rat):∀ l:List α,(l.map fun a=>c * g a).sum=c * (l.map g).sum
 | []=>by rw [List.map_nil,List.map_nil,List.sum_nil,Rat.mul_zero]
 | a::l=>by
  rw [List.map_cons,List.map_cons,List.sum_cons,List.sum_cons,znz c g l]
  grind
theorem zkW{n m:Nat}{φ:List Int->List Int->Rat}:∀ (rs:List (List Et)) (tk k:List Int),(∀ r∈rs,r.length=m) ->
  zdq n rs φ tk k=((ext m rs.length tk).map fun x=>(x.2.1:Rat) * NN n (rs.zip x.1) (φ x.2.2) k).sum
 | [],tk,k,_=>by
  show φ tk k=(1:Rat) * φ tk k+0
  grind
 | r::rs,tk,k,h=>by
  have hr:=h r qo
  show ziF n r (zdq n rs φ) tk k=((List.flatMap _ (List.range m)).map _).sum
  unfold ziF
  rw [zkV,hr]
  congr 1
  refine List.map_congr_left fun c hc=>?_
  unfold tm
  by_cases hm:(c:Int)∈tk
  ·rw [if_pos hm,if_pos hm]
   rfl
  ·rw [if_neg hm,if_neg hm,List.map_map,zkW rs _ _ fun s hs=>h s (qm _ hs),<-znz]
   congr 1
   refine List.map_congr_left fun x hx=>?_
   show _=((sgI tk c * x.2.1:Int):Rat) * NN n ((r,(c:Int))::rs.zip x.1) (φ x.2.2) k
   show _=((sgI tk c * x.2.1:Int):Rat) * ((r.getD (c:Int).toNat (0,none)).1 * NN n (rs.zip x.1) (φ x.2.2) (sh n (r.getD (c:Int).toNat (0,none)).2 k))
   rw [Int.toNat_natCast,Rat.intCast_mul,zyQ]
   grind
theorem zrV{α:Type}{g:α->Rat}{l l':List α}(h:l.Perm l'):(l.map g).sum=(l'.map g).sum:=by
 induction h with
 | nil=>rfl
 | cons a _ ih=>rw [List.map_cons,List.map_cons,List.sum_cons,List.sum_cons,ih]
 | swap a b l =>
  rw [List.map_cons,List.map_cons,List.map_cons,List.map_cons,List.sum_cons,List.sum_cons,List.sum_cons,List.sum_cons]
  grind
 | trans _ _ ih1 ih2=>exact ih1.trans ih2
def ziG(m:Nat):List (List Int×Int×List Int):=(zei m).map fun o=>(o.1,o.2,(List.range m).map fun i:Nat=>(i:Int))
theorem zyR:(ext 1 1 []).Perm (ziG 1):=by decide +kernel
theorem zyS:(ext 2 2 []).Perm (ziG 2):=by decide +kernel
theorem zyT:(ext 3 3 []).Perm (ziG 3):=by decide +kernel
theorem zyU:(ext 4 4 []).Perm (ziG 4):=by decide +kernel
theorem zyV{n:Nat}{t:List (List Et)}(hT:TO n t)(h:List Int->Rat)(k:List Int) :
  zdq n t (fun K=>if K=(List.range t.length).map (fun i:Nat=>(i:Int))then h else fun _=>0) [] k=((zei t.length).map fun o=>(o.2:Rat) * NN n (t.zip o.1) h k).sum:=by
 rw [zkW t [] k hT.sq]
 have p:(ext t.length t.length []).Perm (ziG t.length):=by
  have h1:=hT.l1
  have h4:=hT.l4
  rcases(by omega:t.length=1\/t.length=2\/t.length=3\/t.length=4)with e | e | e | e<;>rw [e]
  ·exact zyR
  ·exact zyS
  ·exact zyT
  ·exact zyU
 rw [zrV p]
 unfold ziG
 rw [List.map_map]
 congr 1
 refine List.map_congr_left fun o _=>?_
 show(o.2:Rat) * NN n (t.zip o.1) (if(List.range t.length).map (fun i:Nat=>(i:Int))=(List.range t.length).map (fun i:Nat=>(i:Int))then h else fun _=>0) k=_
 rw [if_pos rfl]
end K45
open PySem L2
namespace K45
open PySem L2
theorem zrW:∀ p:Pq Rat,PyData.canLayAll0 (tmG fR p)=true/\PyData.depthAll (tmG fR p)<=2
 | []=>⟨by simp [tmG,PyData.canLayAll0],by simp [tmG,PyData.depthAll]⟩
 | t::p=>by
  obtain⟨h1,h2⟩:=zrW p
  have e:tmG fR (t::p)=.tuple [pwD t.1,fR t.2]::tmG fR p:=rfl
  have a1:=PyProof.Rows.canLayAll_ints t.1
  have a2:=PyProof.Rows.depthAll_ints t.1
  rw [e]
  constructor
  ·simp [PyData.canLayAll0,PyData.canLay0,pwD,fR,h1,a1]
  ·simp [PyData.depthAll,PyData.depth,pwD,fR,a2]
   omega
theorem zoz(p:Pq Rat):SeqAt.shaped (.tuple (tmG fR p))=true:=by
 obtain⟨h1,h2⟩:=zrW p
 unfold SeqAt.shaped
 simp [PyData.canLay0,PyData.depth,h1]
 omega
theorem ztF{a b:U}{x:D}(ha:a.py=some x)(hb:b.py=some x)(hs:SeqAt.shaped x=true):zn0 true a b=some (.d (.bool false)):=by
 unfold zn0
 rw [ha,bd,hb,bd,if_pos ⟨hs,hs⟩,if_pos rfl,SeqAt.eqv_refl x (SeqAt.canLay_of_shaped hs)]
 rfl
def Tb(d:D):Prop:=∃ (ns:List Str) (t:List (List Et)),d=taD ns t/\1<=ns.length/\ns.length<=3/\TO ns.length t
theorem zyv(ns:List Int)(hl:ns.length<=63):Wo (ziC [.d (.list (ns.map .int))]) fun o=>o=(.d (.bool true),[.d (.list (ns.map .int))]):=by
 simp_arith [ziC,zru,List.length_map]
 refine zfD (fun i ρ=>∃ (ts:List D) (o2 o3 o4 o5:Option U),ρ=[some (.d (.list (ns.map .int))),some (.l ts),o2,o3,o4,o5]/\ts.length=i/\∀ d∈ts,Tb d) ⟨_,_,_,_,_,rfl,rfl,fun d hd=>by cases hd⟩ ?_ ?_
 ·rintro i d _ hd ⟨ts,o2,o3,o4,o5,rfl,ht,hts⟩
  obtain⟨hi,rfl⟩:=zf4 hd
  have hi4:i < 4:=by
   refine qi hi ?_
   split<;>split<;>omega
  simp_arith
  refine zyj (by omega) fun x y=>?_
  simp_arith
  refine zbe (by decide) (by decide) fun r x1 y1 r0 r1=>?_
  simp_arith
  refine ztq (by omega) (by omega) fun ls x2 y2 hls _=>?_
  have l1:1<=ls.length:=by omega
  have l3:ls.length<=3:=by omega
  simp_arith
  refine zts l1 l3 fun t x3 y3 hT=>?_
  simp_arith
  refine⟨_,_,_,_,_,rfl,by simp [ht],fun d hd=>?_⟩
  rcases List.mem_append.mp hd with hd | hd
  ·exact hts d hd
  ·cases qp.mp hd
   exact⟨ls,t,rfl,l1,l3,hT⟩
 ·rintro _ ⟨ts,o2,o3,o4,o5,rfl,ht,hts⟩
  have l4:ts.length<=4:=by
   rw [ht,zeX]
   split<;>split<;>omega
  have lc:=zs7 ts none (some 1)
  simp_arith
  refine zfD (fun i ρ=>∃ (o1 o4 o5:Option U),ρ=[some (.d (.list (ns.map .int))),o1,o2,o3,o4,o5]) ⟨_,_,_,rfl⟩ ?_ ?_
  ·rintro i d _ hd ⟨o1,o4,o5,rfl⟩
   have hd':Tb d:=by
    rcases List.mem_append.mp (List.mem_of_getElem? hd)with h | h
    ·exact hts d h
    ·exact hts d (zs6 h)
   obtain⟨ls,t,rfl,l1,l3,hT⟩:=hd'
   simp_arith
   refine zrO l1 l3 hT fun F e a w hF a4 w4 he hFl=>?_
   simp_arith
   refine zjy l1 l3 hT fun p e' hp he' hpz hpl=>?_
   have t4:=hT.l4
   have lp:=hp.len l1 l3 t4
   have told:=ztt (u:=.t (kvG fR p)) zcx hp.nd (by omega)
   have nfF:Nf (srt (toR F.b F.p)):=⟨zfH (zrE hF.nd),fun s hs=>by
    obtain⟨u,hu,rfl⟩:=List.mem_map.mp ((zc0 _).mem_iff.mp hs)
    have h1:=hF.nz u hu
    have h2:=hF.b1
    intro z
    have z:Rat.divInt u.2 F.b=0:=z
    rw [Rat.divInt_eq_div]at z
    have hb:(F.b:Rat)≠0:=fun q=>by
     have q:F.b=0:=by exact_mod_cast q
     omega
    have z2:(u.2:Rat)=0:=by grind
    exact h1 (by exact_mod_cast z2)⟩
   have nfp:Nf (srt p):=⟨zfH hp.nd,fun s hs=>hpz s ((zc0 _).mem_iff.mp hs)⟩
   have same:srt (toR F.b F.p)=srt p:=zm8 nfF nfp fun g=>by
    rw [zkt (zc0 _),zkt (zc0 _),hpl]
    show za9 F g=_
    rw [hFl,zyV hT]
   have eq:=ztF (a:=znn (srt p)) (b:=znn (srt p)) rfl rfl (zoz _)
   rw [same]
   simp_arith [told,eq]
   exact⟨_,_,_,rfl⟩
  ·rintro _ ⟨o1,o4,o5,rfl⟩
   simp_arith
theorem zwZ(ns:List Int)(hl:ns.length<=63):∃ outs,ziC [.d (.list (ns.map .int))]=some (.d (.bool true),outs):=⟨_,zag (zyv ns hl)⟩
abbrev zrX(K:qc):Sp:=spV K 1 ziC
theorem zoA{α:Type}:∀ {us:List α},us.length=1->∃ a,us=[a]
 | [a],_=>⟨a,rfl⟩
theorem zfd{α:Type}:∀ {us:List α},us.length=2->∃ a b,us=[a,b]
 | [a,b],_=>⟨a,b,rfl⟩
theorem zoB{α:Type}:∀ {us:List α},us.length=3->∃ a b c,us=[a,b,c]
 | [a,b,c],_=>⟨a,b,c,rfl⟩
theorem zyW{α:Type}:∀ {us:List α},us.length=4->∃ a b c d,us=[a,b,c,d]
 | [a,b,c,d],_=>⟨a,b,c,d,rfl⟩
theorem all_mk{l:PySem.W.OpenLaw}{w:World}{K:qc}{h:Heap}{mg:Str->Option Value}{fa f0 f1 f2 f3 f4 f5 f6 f7 f8 f9 f10 f11 f12 f13 f14 f15 f16 f17 f18 f19 f20 f21 f22 f23 f24 f25 f26 f27:Addr}(X:K.In h)(G:h.Ns mainGlobals mg)(hfa:mg "law"=some (.ref fa))
  {od0 an0 od1 an1 od2 an2 od3 an3 od4 an4 od5 an5 od6 an6 od7 an7 od8 an8 od9 an9 od10 an10 od11 an11 od12 an12 od13 an13 od14 an14 od15 an15 od16 an16 od17 an17 od18 an18 od19 an19 od20 an20 od21 an21 od22 an22 od23 an23 od24 an24 od25 an25 od26 an26 od27 an27:Option Addr} {sl0 sl1 sl2 sl3 sl4 sl5 sl6 sl7 sl8 sl9 sl10 sl11 sl12 sl13 sl14 sl15 sl16 sl17 sl18 sl19 sl20 sl21 sl22 sl23 sl24 sl25 sl26 sl27:Array (Option Value)} {oc0 kV0 dc0 pm0 cd0 ct0 oc1 kV1 dc1 pm1 cd1 ct1 oc2 kV2 dc2 pm2 cd2 ct2 oc3 kV3 dc3 pm3 cd3 ct3 oc4 kV4 dc4 pm4 cd4 ct4 oc5 kV5 dc5 pm5 cd5 ct5 oc6 kV6 dc6 pm6 cd6 ct6 oc7 kV7 dc7 pm7 cd7 ct7 oc8 kV8 dc8 pm8 cd8 ct8 oc9 kV9 dc9 pm9 cd9 ct9 oc10 kV10 dc10 pm10 cd10 ct10 oc11 kV11 dc11 pm11 cd11 ct11 oc12 kV12 dc12 pm12 cd12 ct12 oc13 kV13 dc13 pm13 cd13 ct13 oc14 kV14 dc14 pm14 cd14 ct14 oc15 kV15 dc15 pm15 cd15 ct15 oc16 kV16 dc16 pm16 cd16 ct16 oc17 kV17 dc17 pm17 cd17 ct17 oc18 kV18 dc18 pm18 cd18 ct18 oc19 kV19 dc19 pm19 cd19 ct19 oc20 kV20 dc20 pm20 cd20 ct20 oc21 kV21 dc21 pm21 cd21 ct21 oc22 kV22 dc22 pm22 cd22 ct22 oc23 kV23 dc23 pm23 cd23 ct23 oc24 kV24 dc24 pm24 cd24 ct24 oc25 kV25 dc25 pm25 cd25 ct25 oc26 kV26 dc26 pm26 cd26 ct26 oc27 kV27 dc27 pm27 cd27 ct27:Value}
  (a0:PySem.W.nsIn K mainGlobals "common_factor"=some (some (.ref f0))) (l0:K.lookup f0=some ⟨oc0,od0,.func (PySem.W.fnOf "common_factor" "common_factor" (zM zaT) (zI zaT) (zn zaT) .none kV0 dc0 pm0 an0 cd0 ct0),sl0⟩) (c0:PySem.W.codeIn K cd0 "common_factor"=true) (k0:PySem.W.keepIn K (.ref f0)=true)
  (a1:PySem.W.nsIn K mainGlobals "fraction"=some (some (.ref f1))) (l1:K.lookup f1=some ⟨oc1,od1,.func (PySem.W.fnOf "fraction" "fraction" (zM zcq) (zI zcq) (zn zcq) .none kV1 dc1 pm1 an1 cd1 ct1),sl1⟩) (c1:PySem.W.codeIn K cd1 "fraction"=true) (k1:PySem.W.keepIn K (.ref f1)=true)
  (a2:PySem.W.nsIn K mainGlobals "powers_plus"=some (some (.ref f2))) (l2:K.lookup f2=some ⟨oc2,od2,.func (PySem.W.fnOf "powers_plus" "powers_plus" (zM zbh) (zI zbh) (zn zbh) .none kV2 dc2 pm2 an2 cd2 ct2),sl2⟩) (c2:PySem.W.codeIn K cd2 "powers_plus"=true) (k2:PySem.W.keepIn K (.ref f2)=true)
  (a3:PySem.W.nsIn K mainGlobals "settled"=some (some (.ref f3))) (l3:K.lookup f3=some ⟨oc3,od3,.func (PySem.W.fnOf "settled" "settled" (zM zcO) (zI zcO) (zn zcO) .none kV3 dc3 pm3 an3 cd3 ct3),sl3⟩) (c3:PySem.W.codeIn K cd3 "settled"=true) (k3:PySem.W.keepIn K (.ref f3)=true)
  (a4:PySem.W.nsIn K mainGlobals "form_sum"=some (some (.ref f4))) (l4:K.lookup f4=some ⟨oc4,od4,.func (PySem.W.fnOf "form_sum" "form_sum" (zM zcr) (zI zcr) (zn zcr) .none kV4 dc4 pm4 an4 cd4 ct4),sl4⟩) (c4:PySem.W.codeIn K cd4 "form_sum"=true) (k4:PySem.W.keepIn K (.ref f4)=true)
  (a5:PySem.W.nsIn K mainGlobals "number_by_powers"=some (some (.ref f5))) (l5:K.lookup f5=some ⟨oc5,od5,.func (PySem.W.fnOf "number_by_powers" "number_by_powers" (zM zaq) (zI zaq) (zn zaq) .none kV5 dc5 pm5 an5 cd5 ct5),sl5⟩) (c5:PySem.W.codeIn K cd5 "number_by_powers"=true) (k5:PySem.W.keepIn K (.ref f5)=true)
  (a6:PySem.W.nsIn K mainGlobals "letter_by_powers"=some (some (.ref f6))) (l6:K.lookup f6=some ⟨oc6,od6,.func (PySem.W.fnOf "letter_by_powers" "letter_by_powers" (zM zar) (zI zar) (zn zar) .none kV6 dc6 pm6 an6 cd6 ct6),sl6⟩) (c6:PySem.W.codeIn K cd6 "letter_by_powers"=true) (k6:PySem.W.keepIn K (.ref f6)=true)
  (a7:PySem.W.nsIn K mainGlobals "times_by_powers"=some (some (.ref f7))) (l7:K.lookup f7=some ⟨oc7,od7,.func (PySem.W.fnOf "times_by_powers" "times_by_powers" (zM zaA) (zI zaA) (zn zaA) .none kV7 dc7 pm7 an7 cd7 ct7),sl7⟩) (c7:PySem.W.codeIn K cd7 "times_by_powers"=true) (k7:PySem.W.keepIn K (.ref f7)=true)
  (a8:PySem.W.nsIn K mainGlobals "fractions_of"=some (some (.ref f8))) (l8:K.lookup f8=some ⟨oc8,od8,.func (PySem.W.fnOf "fractions_of" "fractions_of" (zM za5) (zI za5) (zn za5) .none kV8 dc8 pm8 an8 cd8 ct8),sl8⟩) (c8:PySem.W.codeIn K cd8 "fractions_of"=true) (k8:PySem.W.keepIn K (.ref f8)=true)
  (a9:PySem.W.nsIn K mainGlobals "by_letter"=some (some (.ref f9))) (l9:K.lookup f9=some ⟨oc9,od9,.func (PySem.W.fnOf "by_letter" "by_letter" (zM zb7) (zI zb7) (zn zb7) .none kV9 dc9 pm9 an9 cd9 ct9),sl9⟩) (c9:PySem.W.codeIn K cd9 "by_letter"=true) (k9:PySem.W.keepIn K (.ref f9)=true)
  (a10:PySem.W.nsIn K mainGlobals "signed_sum"=some (some (.ref f10))) (l10:K.lookup f10=some ⟨oc10,od10,.func (PySem.W.fnOf "signed_sum" "signed_sum" (zM zbK) (zI zbK) (zn zbK) .none kV10 dc10 pm10 an10 cd10 ct10),sl10⟩) (c10:PySem.W.codeIn K cd10 "signed_sum"=true) (k10:PySem.W.keepIn K (.ref f10)=true)
  (a11:PySem.W.nsIn K mainGlobals "_law_box"=some (some (.ref f11))) (l11:K.lookup f11=some ⟨oc11,od11,.func (PySem.W.fnOf "_law_box" "_law_box" (zM zb8) (zI zb8) (zn zb8) .none kV11 dc11 pm11 an11 cd11 ct11),sl11⟩) (c11:PySem.W.codeIn K cd11 "_law_box"=true) (k11:PySem.W.keepIn K (.ref f11)=true)
  (a12:PySem.W.nsIn K mainGlobals "_law_take"=some (some (.ref f12))) (l12:K.lookup f12=some ⟨oc12,od12,.func (PySem.W.fnOf "_law_take" "_law_take" (zM zbL) (zI zbL) (zn zbL) .none kV12 dc12 pm12 an12 cd12 ct12),sl12⟩) (c12:PySem.W.codeIn K cd12 "_law_take"=true) (k12:PySem.W.keepIn K (.ref f12)=true)
  (a13:PySem.W.nsIn K mainGlobals "_law_names"=some (some (.ref f13))) (l13:K.lookup f13=some ⟨oc13,od13,.func (PySem.W.fnOf "_law_names" "_law_names" (zM zbi) (zI zbi) (zn zbi) .none kV13 dc13 pm13 an13 cd13 ct13),sl13⟩) (c13:PySem.W.codeIn K cd13 "_law_names"=true) (k13:PySem.W.keepIn K (.ref f13)=true)
  (a14:PySem.W.nsIn K mainGlobals "_law_fraction"=some (some (.ref f14))) (l14:K.lookup f14=some ⟨oc14,od14,.func (PySem.W.fnOf "_law_fraction" "_law_fraction" (zM zaM) (zI zaM) (zn zaM) .none kV14 dc14 pm14 an14 cd14 ct14),sl14⟩) (c14:PySem.W.codeIn K cd14 "_law_fraction"=true) (k14:PySem.W.keepIn K (.ref f14)=true)
  (a15:PySem.W.nsIn K mainGlobals "_law_plus"=some (some (.ref f15))) (l15:K.lookup f15=some ⟨oc15,od15,.func (PySem.W.fnOf "_law_plus" "_law_plus" (zM zbM) (zI zbM) (zn zbM) .none kV15 dc15 pm15 an15 cd15 ct15),sl15⟩) (c15:PySem.W.codeIn K cd15 "_law_plus"=true) (k15:PySem.W.keepIn K (.ref f15)=true)
  (a16:PySem.W.nsIn K mainGlobals "_law_times"=some (some (.ref f16))) (l16:K.lookup f16=some ⟨oc16,od16,.func (PySem.W.fnOf "_law_times" "_law_times" (zM zbj) (zI zbj) (zn zbj) .none kV16 dc16 pm16 an16 cd16 ct16),sl16⟩) (c16:PySem.W.codeIn K cd16 "_law_times"=true) (k16:PySem.W.keepIn K (.ref f16)=true)
  (a17:PySem.W.nsIn K mainGlobals "_law_poly_add"=some (some (.ref f17))) (l17:K.lookup f17=some ⟨oc17,od17,.func (PySem.W.fnOf "_law_poly_add" "_law_poly_add" (zM zaN) (zI zaN) (zn zaN) .none kV17 dc17 pm17 an17 cd17 ct17),sl17⟩) (c17:PySem.W.codeIn K cd17 "_law_poly_add"=true) (k17:PySem.W.keepIn K (.ref f17)=true)
  (a18:PySem.W.nsIn K mainGlobals "_law_poly_mult"=some (some (.ref f18))) (l18:K.lookup f18=some ⟨oc18,od18,.func (PySem.W.fnOf "_law_poly_mult" "_law_poly_mult" (zM zaC) (zI zaC) (zn zaC) .none kV18 dc18 pm18 an18 cd18 ct18),sl18⟩) (c18:PySem.W.codeIn K cd18 "_law_poly_mult"=true) (k18:PySem.W.keepIn K (.ref f18)=true)
  (a19:PySem.W.nsIn K mainGlobals "_law_poly_number"=some (some (.ref f19))) (l19:K.lookup f19=some ⟨oc19,od19,.func (PySem.W.fnOf "_law_poly_number" "_law_poly_number" (zM zam) (zI zam) (zn zam) .none kV19 dc19 pm19 an19 cd19 ct19),sl19⟩) (c19:PySem.W.codeIn K cd19 "_law_poly_number"=true) (k19:PySem.W.keepIn K (.ref f19)=true)
  (a20:PySem.W.nsIn K mainGlobals "_law_poly_told"=some (some (.ref f20))) (l20:K.lookup f20=some ⟨oc20,od20,.func (PySem.W.fnOf "_law_poly_told" "_law_poly_told" (zM zaD) (zI zaD) (zn zaD) .none kV20 dc20 pm20 an20 cd20 ct20),sl20⟩) (c20:PySem.W.codeIn K cd20 "_law_poly_told"=true) (k20:PySem.W.keepIn K (.ref f20)=true)
  (a21:PySem.W.nsIn K mainGlobals "_law_multiple"=some (some (.ref f21))) (l21:K.lookup f21=some ⟨oc21,od21,.func (PySem.W.fnOf "_law_multiple" "_law_multiple" (zM zaO) (zI zaO) (zn zaO) .none kV21 dc21 pm21 an21 cd21 ct21),sl21⟩) (c21:PySem.W.codeIn K cd21 "_law_multiple"=true) (k21:PySem.W.keepIn K (.ref f21)=true)
  (a22:PySem.W.nsIn K mainGlobals "_law_entry"=some (some (.ref f22))) (l22:K.lookup f22=some ⟨oc22,od22,.func (PySem.W.fnOf "_law_entry" "_law_entry" (zM zbk) (zI zbk) (zn zbk) .none kV22 dc22 pm22 an22 cd22 ct22),sl22⟩) (c22:PySem.W.codeIn K cd22 "_law_entry"=true) (k22:PySem.W.keepIn K (.ref f22)=true)
  (a23:PySem.W.nsIn K mainGlobals "_law_entry_poly"=some (some (.ref f23))) (l23:K.lookup f23=some ⟨oc23,od23,.func (PySem.W.fnOf "_law_entry_poly" "_law_entry_poly" (zM zas) (zI zas) (zn zas) .none kV23 dc23 pm23 an23 cd23 ct23),sl23⟩) (c23:PySem.W.codeIn K cd23 "_law_entry_poly"=true) (k23:PySem.W.keepIn K (.ref f23)=true)
  (a24:PySem.W.nsIn K mainGlobals "_law_table"=some (some (.ref f24))) (l24:K.lookup f24=some ⟨oc24,od24,.func (PySem.W.fnOf "_law_table" "_law_table" (zM zbl) (zI zbl) (zn zbl) .none kV24 dc24 pm24 an24 cd24 ct24),sl24⟩) (c24:PySem.W.codeIn K cd24 "_law_table"=true) (k24:PySem.W.keepIn K (.ref f24)=true)
  (a25:PySem.W.nsIn K mainGlobals "_law_orders"=some (some (.ref f25))) (l25:K.lookup f25=some ⟨oc25,od25,.func (PySem.W.fnOf "_law_orders" "_law_orders" (zM za6) (zI za6) (zn za6) .none kV25 dc25 pm25 an25 cd25 ct25),sl25⟩) (c25:PySem.W.codeIn K cd25 "_law_orders"=true) (k25:PySem.W.keepIn K (.ref f25)=true)
  (a26:PySem.W.nsIn K mainGlobals "_law_signed_sum"=some (some (.ref f26))) (l26:K.lookup f26=some ⟨oc26,od26,.func (PySem.W.fnOf "_law_signed_sum" "_law_signed_sum" (zM zat) (zI zat) (zn zat) .none kV26 dc26 pm26 an26 cd26 ct26),sl26⟩) (c26:PySem.W.codeIn K cd26 "_law_signed_sum"=true) (k26:PySem.W.keepIn K (.ref f26)=true)
  (a27:PySem.W.nsIn K mainGlobals "law"=some (some (.ref f27))) (l27:K.lookup f27=some ⟨oc27,od27,.func (PySem.W.fnOf "law" "law" (zM zfO) (zI zfO) (zn zfO) .none kV27 dc27 pm27 an27 cd27 ct27),sl27⟩) (c27:PySem.W.codeIn K cd27 "law"=true) (k27:PySem.W.keepIn K (.ref f27)=true)
  (z0:PySem.W.nsIn K mainGlobals "abs"=some none)
  (z1:PySem.W.nsIn K mainGlobals "tuple"=some none)
  (z2:PySem.W.nsIn K mainGlobals "zip"=some none)
  (z3:PySem.W.nsIn K mainGlobals "max"=some none)
  (z4:PySem.W.nsIn K mainGlobals "sorted"=some none)
  (z5:PySem.W.nsIn K mainGlobals "len"=some none)
  (z6:PySem.W.nsIn K mainGlobals "enumerate"=some none)
  (z7:PySem.W.nsIn K mainGlobals "range"=some none)
  (z8:PySem.W.nsIn K mainGlobals "int"=some none)
  (z9:PySem.W.nsIn K mainGlobals "dict"=some none)
  (z10:PySem.W.nsIn K mainGlobals "min"=some none)
  (z11:PySem.W.nsIn K mainGlobals "isinstance"=some none)
  (xt0:zwr K zcf xfl=true)
  (aIROOM:PySem.W.nsIn K mainGlobals "ROOM"=some (some (.int 256 TROOM)))
  (aTNOUGHT:PySem.W.nsIn K mainGlobals "NOUGHT"=some (some (.ref GNOUGHT)))
  (lTNOUGHT:K.lookup GNOUGHT=some ⟨.type "tuple",odTNOUGHT,.seq itTNOUGHT nTNOUGHT,slTNOUGHT⟩)
  (vTNOUGHT:zN [.int (0),.int (1)] itTNOUGHT.toList)
  (zTNOUGHT:itTNOUGHT.size<=sizeLine)
  (aTONE:PySem.W.nsIn K mainGlobals "ONE"=some (some (.ref GONE)))
  (lTONE:K.lookup GONE=some ⟨.type "tuple",odTONE,.seq itTONE nTONE,slTONE⟩)
  (vTONE:zN [.int (1),.int (1)] itTONE.toList)
  (zTONE:itTONE.size<=sizeLine)
  (aXForm:PySem.W.nsIn K mainGlobals "Form"=some (some (.ref CForm)))
  (kXForm:PySem.W.keepIn K (.ref CForm)=true)
  (mXForm:PySem.W.makesIn K CForm=true)
  (pgXForm:PySem.W.plainGet K CForm Str.empty=true)
  (hdXForm:PySem.W.hasDictIn K CForm=true)
  (poXForm:PySem.W.plainOver K CForm=true)
  (saXForm:PySem.W.findIn K (.ref CForm) "__setattr__"=some (some (.builtin "object.__setattr__")))
  (nXForm_numbers:PySem.W.findIn K (.ref CForm) "numbers"=some none)
  (nXForm_beneath:PySem.W.findIn K (.ref CForm) "beneath"=some none)
  (nXForm_room:PySem.W.findIn K (.ref CForm) "room"=some none)
  (iXForm:PySem.W.findIn K (.ref CForm) "__init__"=some (some (.ref fXForm)))
  (lXForm:K.lookup fXForm=some ⟨ocXForm,odXForm,.func (PySem.W.fnOf "__init__" "Form.__init__" (zM zfP) (zI zfP) (zn zfP) .none kVXForm dcXForm pmXForm anXForm cdXForm ctXForm),slXForm⟩)
  (cXForm:PySem.W.codeIn K cdXForm "Form.__init__"=true)
  (kfXForm:PySem.W.keepIn K (.ref fXForm)=true)
  (fnXForm:PySem.W.isFn K (.ref fXForm)=true)
  : ∃ fd:FuncData,(∀ (s:Shared) (v:Value),BindsTo s fd ⟨[v],[]⟩ [("_law_script",v)])/\∀ base:Heap,K.In base->base.Ns mainGlobals mg->FnOk l.prog w K mg base CX0 7 fa fd ["_law_script"] (spV K 1 ziC):=by
 have e:=hfa.symm.trans (PySem.W.mg_of X G a27)
 cases e
 have hB:Bl mg ["abs", "tuple", "zip", "max", "sorted", "len", "enumerate", "range", "int", "dict", "min", "isinstance"]:=Bl.cons (PySem.W.mg_none_of X G z0) (Bl.cons (PySem.W.mg_none_of X G z1) (Bl.cons (PySem.W.mg_none_of X G z2) (Bl.cons (PySem.W.mg_none_of X G z3) (Bl.cons (PySem.W.mg_none_of X G z4) (Bl.cons (PySem.W.mg_none_of X G z5) (Bl.cons (PySem.W.mg_none_of X G z6) (Bl.cons (PySem.W.mg_none_of X G z7) (Bl.cons (PySem.W.mg_none_of X G z8) (Bl.cons (PySem.W.mg_none_of X G z9) (Bl.cons (PySem.W.mg_none_of X G z10) (Bl.cons (PySem.W.mg_none_of X G z11) (Bl.nil))))))))))))
 refine⟨PySem.W.fnOf "law" "law" (zM zfO) (zI zfO) (zn zfO) .none kV27 dc27 pm27 an27 cd27 ct27,fun s v=>.of_eq rfl,fun base _ _=>?_⟩
 have hT:=zya xt0
 have g_ROOM:=PySem.W.mg_of X G aIROOM
 have g_NOUGHT:=PySem.W.mg_of X G aTNOUGHT
 have gt_NOUGHT:GTi K GNOUGHT [0,1]:=⟨_,itTNOUGHT,nTNOUGHT,lTNOUGHT,rfl,rfl,zTNOUGHT,vTNOUGHT⟩
 have g_ONE:=PySem.W.mg_of X G aTONE
 have gt_ONE:GTi K GONE [1,1]:=⟨_,itTONE,nTONE,lTONE,rfl,rfl,zTONE,vTONE⟩
 have gXForm:=PySem.W.mg_of X G aXForm
 have FXForm:=zak (st:=zfP) lXForm cXForm kfXForm
 have oXForm:OCal l.prog w K mg base "Form" CForm ["numbers", "beneath", "room"]:=⟨aXForm,⟨pgXForm,hdXForm,poXForm,saXForm⟩,na3 nXForm_numbers nXForm_beneath nXForm_room,gXForm,_,_,["self", "numbers", "beneath", "room"],⟨mXForm,iXForm,fnXForm,kXForm⟩,FXForm.binds (fun _ _ _ _ _ _ us hl=>by obtain⟨_,_,_,_,rfl⟩:=zyW hl; rfl),FXForm.ok (k:=0) zrt (fun vs H Q E h=>ztk h) fun cdv A outer s H vs Q E hr hsp=>⟨_,zgU (zk2 (pv 0) (pv 1) rfl) (zgU (zk2 (pv 0) (pv 2) rfl) (zl6 (zk2 (pv 0) (pv 3) rfl))),zra ⟨pgXForm,hdXForm,poXForm,saXForm⟩ nXForm_numbers nXForm_beneath nXForm_room (by decide) (by decide) (by decide) hsp⟩⟩
 have F0:=zak (st:=zaT) l0 c0 k0
 have C0:Cal l.prog w K mg base "common_factor" 1 ["one", "other"] (spV K 2 zO):=⟨⟨_,_,zgf F0 hB  hT ,F0.binds (fun _ _ _ _ _ _ us hl=>by obtain⟨_,_,rfl⟩:=zfd hl; rfl),k0,PySem.W.mg_of X G a0⟩⟩
 have F1:=zak (st:=zcq) l1 c1 k1
 have C1:Cal l.prog w K mg base "fraction" 2 ["n", "d"] (spV K 2 zct):=⟨⟨_,_,zkG F1 hB  hT C0,F1.binds (fun _ _ _ _ _ _ us hl=>by obtain⟨_,_,rfl⟩:=zfd hl; rfl),k1,PySem.W.mg_of X G a1⟩⟩
 have F2:=zak (st:=zbh) l2 c2 k2
 have C2:Cal l.prog w K mg base "powers_plus" 1 ["one", "other"] (spV K 2 zbm):=⟨⟨_,_,zhC F2 hB  hT ,F2.binds (fun _ _ _ _ _ _ us hl=>by obtain⟨_,_,rfl⟩:=zfd hl; rfl),k2,PySem.W.mg_of X G a2⟩⟩
 have F3:=zak (st:=zcO) l3 c3 k3
 have C3:Cal l.prog w K mg base "settled" 3 ["numbers", "beneath", "room"] (spV K 3 zbp):=⟨⟨_,_,zl2 F3 hB  hT g_ROOM oXForm C0,F3.binds (fun _ _ _ _ _ _ us hl=>by obtain⟨_,_,_,rfl⟩:=zoB hl; rfl),k3,PySem.W.mg_of X G a3⟩⟩
 have F4:=zak (st:=zcr) l4 c4 k4
 have C4:Cal l.prog w K mg base "form_sum" 4 ["one", "other", "f"] (spV K 3 zb3):=⟨⟨_,_,zkH F4 hB  hT oXForm C0 C3,F4.binds (fun _ _ _ _ _ _ us hl=>by obtain⟨_,_,_,rfl⟩:=zoB hl; rfl),k4,PySem.W.mg_of X G a4⟩⟩
 have F5:=zak (st:=zaq) l5 c5 k5
 have C5:Cal l.prog w K mg base "number_by_powers" 4 ["f", "many_letters"] (spV K 2 zaf):=⟨⟨_,_,zez F5 hB  hT g_ROOM C3,F5.binds (fun _ _ _ _ _ _ us hl=>by obtain⟨_,_,rfl⟩:=zfd hl; rfl),k5,PySem.W.mg_of X G a5⟩⟩
 have F6:=zak (st:=zar) l6 c6 k6
 have C6:Cal l.prog w K mg base "letter_by_powers" 3 ["k", "many_letters"] (spV K 2 zav):=⟨⟨_,_,zey F6 hB  hT g_ROOM oXForm ,F6.binds (fun _ _ _ _ _ _ us hl=>by obtain⟨_,_,rfl⟩:=zfd hl; rfl),k6,PySem.W.mg_of X G a6⟩⟩
 have F7:=zak (st:=zaA) l7 c7 k7
 have C7:Cal l.prog w K mg base "times_by_powers" 4 ["one", "other"] (spV K 2 zaG):=⟨⟨_,_,zfb F7 hB  hT oXForm C2 C3,F7.binds (fun _ _ _ _ _ _ us hl=>by obtain⟨_,_,rfl⟩:=zfd hl; rfl),k7,PySem.W.mg_of X G a7⟩⟩
 have F8:=zak (st:=za5) l8 c8 k8
 have C8:Cal l.prog w K mg base "fractions_of" 3 ["form"] (spV K 1 za8):=⟨⟨_,_,zgy F8 hB  hT oXForm C1,F8.binds (fun _ _ _ _ _ _ us hl=>by obtain⟨_,rfl⟩:=zoA hl; rfl),k8,PySem.W.mg_of X G a8⟩⟩
 have F9:=zak (st:=zb7) l9 c9 k9
 have C9:Cal l.prog w K mg base "by_letter" 5 ["form", "letter", "many_letters"] (spV K 3 zbF):=⟨⟨_,_,zjq F9 hB  hT C6 C7,F9.binds (fun _ _ _ _ _ _ us hl=>by obtain⟨_,_,_,rfl⟩:=zoB hl; rfl),k9,PySem.W.mg_of X G a9⟩⟩
 have F10:=zak (st:=zbK) l10 c10 k10
 have C10:Cal l.prog w K mg base "signed_sum" 6 ["table"] (spV K 1 zbN):=⟨⟨_,_,zhX F10 hB  hT g_NOUGHT gt_NOUGHT g_ONE gt_ONE C4 C5 C8 C9,F10.binds (fun _ _ _ _ _ _ us hl=>by obtain⟨_,rfl⟩:=zoA hl; rfl),k10,PySem.W.mg_of X G a10⟩⟩
 have F11:=zak (st:=zb8) l11 c11 k11
 have C11:Cal l.prog w K mg base "_law_box" 1 ["_law_script", "_law_k"] (spV K 2 zb9):=⟨⟨_,_,zjp F11 hB  hT ,F11.binds (fun _ _ _ _ _ _ us hl=>by obtain⟨_,_,rfl⟩:=zfd hl; rfl),k11,PySem.W.mg_of X G a11⟩⟩
 have F12:=zak (st:=zbL) l12 c12 k12
 have C12:Cal l.prog w K mg base "_law_take" 1 ["_law_box_here", "_law_wide"] (spV K 2 zw):=⟨⟨_,_,zhV F12 hB  hT ,F12.binds (fun _ _ _ _ _ _ us hl=>by obtain⟨_,_,rfl⟩:=zfd hl; rfl),k12,PySem.W.mg_of X G a12⟩⟩
 have F13:=zak (st:=zbi) l13 c13 k13
 have C13:Cal l.prog w K mg base "_law_names" 2 ["_law_box_here", "_law_many"] (spV K 2 zbn):=⟨⟨_,_,zhD F13 hB  hT C12,F13.binds (fun _ _ _ _ _ _ us hl=>by obtain⟨_,_,rfl⟩:=zfd hl; rfl),k13,PySem.W.mg_of X G a13⟩⟩
 have F14:=zak (st:=zaM) l14 c14 k14
 have C14:Cal l.prog w K mg base "_law_fraction" 1 ["_law_n", "_law_d"] (spV K 2 zQ):=⟨⟨_,_,zfQ F14 hB  hT ,F14.binds (fun _ _ _ _ _ _ us hl=>by obtain⟨_,_,rfl⟩:=zfd hl; rfl),k14,PySem.W.mg_of X G a14⟩⟩
 have F15:=zak (st:=zbM) l15 c15 k15
 have C15:Cal l.prog w K mg base "_law_plus" 2 ["_law_one", "_law_other"] (spV K 2 zaW):=⟨⟨_,_,zhW F15 hB  hT C14,F15.binds (fun _ _ _ _ _ _ us hl=>by obtain⟨_,_,rfl⟩:=zfd hl; rfl),k15,PySem.W.mg_of X G a15⟩⟩
 have F16:=zak (st:=zbj) l16 c16 k16
 have C16:Cal l.prog w K mg base "_law_times" 2 ["_law_one", "_law_other"] (spV K 2 zbo):=⟨⟨_,_,zhE F16 hB  hT C14,F16.binds (fun _ _ _ _ _ _ us hl=>by obtain⟨_,_,rfl⟩:=zfd hl; rfl),k16,PySem.W.mg_of X G a16⟩⟩
 have F17:=zak (st:=zaN) l17 c17 k17
 have C17:Cal l.prog w K mg base "_law_poly_add" 3 ["_law_one", "_law_other", "_law_sign"] (spV K 3 zaQ):=⟨⟨_,_,zfS F17 hB  hT C15,F17.binds (fun _ _ _ _ _ _ us hl=>by obtain⟨_,_,_,rfl⟩:=zoB hl; rfl),k17,PySem.W.mg_of X G a17⟩⟩
 have F18:=zak (st:=zaC) l18 c18 k18
 have C18:Cal l.prog w K mg base "_law_poly_mult" 3 ["_law_one", "_law_other"] (spV K 2 zaF):=⟨⟨_,_,ze9 F18 hB  hT C15 C16,F18.binds (fun _ _ _ _ _ _ us hl=>by obtain⟨_,_,rfl⟩:=zfd hl; rfl),k18,PySem.W.mg_of X G a18⟩⟩
 have F19:=zak (st:=zam) l19 c19 k19
 have C19:Cal l.prog w K mg base "_law_poly_number" 1 ["_law_many", "_law_f"] (spV K 2 zan):=⟨⟨_,_,zef F19 hB  hT ,F19.binds (fun _ _ _ _ _ _ us hl=>by obtain⟨_,_,rfl⟩:=zfd hl; rfl),k19,PySem.W.mg_of X G a19⟩⟩
 have F20:=zak (st:=zaD) l20 c20 k20
 have C20:Cal l.prog w K mg base "_law_poly_told" 1 ["_law_sums"] (spV K 1 zaE):=⟨⟨_,_,ze7 F20 hB  hT ,F20.binds (fun _ _ _ _ _ _ us hl=>by obtain⟨_,rfl⟩:=zoA hl; rfl),k20,PySem.W.mg_of X G a20⟩⟩
 have F21:=zak (st:=zaO) l21 c21 k21
 have C21:Cal l.prog w K mg base "_law_multiple" 2 ["_law_box_here"] (spV K 1 zaP):=⟨⟨_,_,zfR F21 hB  hT C12 C14,F21.binds (fun _ _ _ _ _ _ us hl=>by obtain⟨_,rfl⟩:=zoA hl; rfl),k21,PySem.W.mg_of X G a21⟩⟩
 have F22:=zak (st:=zbk) l22 c22 k22
 have C22:Cal l.prog w K mg base "_law_entry" 3 ["_law_box_here", "_law_many", "_law_may_be_nought"] (spV K 3 zbq):=⟨⟨_,_,zhF F22 hB  hT C12 C21,F22.binds (fun _ _ _ _ _ _ us hl=>by obtain⟨_,_,_,rfl⟩:=zoB hl; rfl),k22,PySem.W.mg_of X G a22⟩⟩
 have F23:=zak (st:=zas) l23 c23 k23
 have C23:Cal l.prog w K mg base "_law_entry_poly" 1 ["_law_entry_here", "_law_many"] (spV K 2 zau):=⟨⟨_,_,zex F23 hB  hT ,F23.binds (fun _ _ _ _ _ _ us hl=>by obtain⟨_,_,rfl⟩:=zfd hl; rfl),k23,PySem.W.mg_of X G a23⟩⟩
 have F24:=zak (st:=zbl) l24 c24 k24
 have C24:Cal l.prog w K mg base "_law_table" 4 ["_law_box_here", "_law_letters", "_law_most"] (spV K 3 zbr):=⟨⟨_,_,zhG F24 hB  hT C12 C22,F24.binds (fun _ _ _ _ _ _ us hl=>by obtain⟨_,_,_,rfl⟩:=zoB hl; rfl),k24,PySem.W.mg_of X G a24⟩⟩
 have F25:=zak (st:=za6) l25 c25 k25
 have C25:Cal l.prog w K mg base "_law_orders" 1 ["_law_many"] (spV K 1 za7):=⟨⟨_,_,zgx F25 hB  hT ,F25.binds (fun _ _ _ _ _ _ us hl=>by obtain⟨_,rfl⟩:=zoA hl; rfl),k25,PySem.W.mg_of X G a25⟩⟩
 have F26:=zak (st:=zat) l26 c26 k26
 have C26:Cal l.prog w K mg base "_law_signed_sum" 4 ["_law_table_here"] (spV K 1 zaw):=⟨⟨_,_,zeA F26 hB  hT C17 C18 C19 C23 C25,F26.binds (fun _ _ _ _ _ _ us hl=>by obtain⟨_,rfl⟩:=zoA hl; rfl),k26,PySem.W.mg_of X G a26⟩⟩
 have F27:=zak (st:=zfO) l27 c27 k27
 exact zwL F27 hB  hT C10 C11 C12 C13 C20 C24 C26
theorem walk{l:PySem.W.OpenLaw}{q:Program}{loose:List Str}{XP:(Str->Option Value)->Heap->Prop}{YP:World->Heap->Prop}{d:DefRec}{K:Params->qc}(hn:l.most=some 63)(hdf:d.params.defaults=[])
  (hY:∀ (w:World) (h:Heap),YP w h->(K w.params).In h)
  (F:∀ (w:World) (mg:Str->Option Value) (fa:Addr) (h:Heap),(K w.params).In h->h.Ns mainGlobals mg->mg d.name=some (.ref fa) ->
   ∃ fd:FuncData,(∀ (s:Shared) (u:Value),BindsTo s fd ⟨[u],[]⟩ [("_law_script",u)])/\∀ base:Heap,(K w.params).In base->base.Ns mainGlobals mg->FnOk l.prog w (K w.params) mg base CX0 7 fa fd ["_law_script"] (zrX (K w.params))) :
  PySem.W.WalkO q loose XP YP l.row.toRowW d [] (fun f vs=>PySem.call f vs) :=
 L2.walk_of (n:=63) (k:=7) (x := "_law_script") (CX:=fun _=>CX0) (sp:=fun w=>zrX (K w.params)) hn (by decide) hdf ⟨rfl,by decide,by decide,rfl⟩ hY F (fun w H a ns hl hO hS=>zv3 hO hS (zwZ ns hl)) fun _ _ _ _ _ z=>z
end K45
def PySem.W.Fast.tw4047954259705513258:Unit:=()
def PySem.W.Fast.tw12932667629010519561:Unit:=()
def PySem.W.Fast.tw146685921994216553:Unit:=()
def PySem.W.Fast.tw15674901034818727094:Unit:=()
def PySem.W.Fast.tw5472755861601746424:Unit:=()
def PySem.W.Fast.tw7569249566943060468:Unit:=()
def PySem.W.Fast.tw13269524189476758658:Unit:=()
def PySem.W.Fast.tw921850684061867176:Unit:=()
def PySem.W.Fast.tw8399438235505156673:Unit:=()
def PySem.W.Fast.tw2499934625228944707:Unit:=()
def PySem.W.Fast.tw17450607975197619515:Unit:=()
def PySem.W.Fast.tw17640352077566789500:Unit:=()
def PySem.W.Fast.tw10230822924008063732:Unit:=()
def PySem.W.Fast.tw13977465487321580815:Unit:=()
def PySem.W.Fast.tw16264171094954707243:Unit:=()
def PySem.W.Fast.tw3749888245006662495:Unit:=()
def PySem.W.Fast.tw575239817406145491:Unit:=()
def PySem.W.Fast.tw13179604465450302887:Unit:=()
def PySem.W.Fast.tw517879936555805423:Unit:=()
def PySem.W.Fast.tw18145069457478335154:Unit:=()
def PySem.W.Fast.tw6559352446312957865:Unit:=()
def PySem.W.Fast.tw15316348766195945379:Unit:=()
def PySem.W.Fast.tw13204291126081993415:Unit:=()
def PySem.W.Fast.tw5562068691906296762:Unit:=()
def PySem.W.Fast.tw9020033187847871366:Unit:=()
def PySem.W.Fast.tw4953765699799442755:Unit:=()
def PySem.W.Fast.tw6815777242713507628:Unit:=()
def PySem.W.Fast.tw8377510662805362674:Unit:=()
def PySem.W.Fast.tw7591504945094244724:Unit:=()
def PySem.W.Fast.tw8566159300396128256:Unit:=()
def PySem.W.Fast.tw13609578858180675046:Unit:=()
def PySem.W.Fast.tw4762945444551914736:Unit:=()
def PySem.W.Fast.tw14699857090899619381:Unit:=()
def PySem.W.Fast.tw15775429115735970186:Unit:=()
def PySem.W.Fast.tw12924748233019586293:Unit:=()
def PySem.W.Fast.tw11596295122338117070:Unit:=()
def PySem.W.Fast.tw16685327032133962998:Unit:=()
def PySem.W.Fast.tw3910549534355243752:Unit:=()
def PySem.W.Fast.tw15472802604181592161:Unit:=()
def PySem.W.Fast.tw14889554899072045834:Unit:=()
def PySem.W.Fast.tw1173786906654351657:Unit:=()
def PySem.W.Fast.tw12534054336534220220:Unit:=()
def PySem.W.Fast.tw8013776457521138135:Unit:=()
def PySem.W.Fast.tw13478817056826352493:Unit:=()
def PySem.W.Fast.tw11512005887116550001:Unit:=()
def PySem.W.Fast.tw9303389905090642275:Unit:=()
def PySem.W.Fast.tw9704863492731233387:Unit:=()
def PySem.W.Fast.tw7092836430796662441:Unit:=()
def PySem.W.Fast.tw782791759997113565:Unit:=()
def PySem.W.Fast.tw8675719495463185921:Unit:=()
def PySem.W.Fast.tw1722304103362808963:Unit:=()
def PySem.W.Fast.tw5097195770495675062:Unit:=()
def PySem.W.Fast.tw15961179868063811492:Unit:=()
def PySem.W.Fast.tw9725486120734454256:Unit:=()
def PySem.W.Fast.tw9285635495366797440:Unit:=()
def PySem.W.Fast.tw3867540075285789976:Unit:=()
def PySem.W.Fast.tw461150491091594453:Unit:=()
def PySem.W.Fast.tw16214206658031797630:Unit:=()
def PySem.W.Fast.tw16524261743516881598:Unit:=()
def PySem.W.Fast.tw4243381914194232053:Unit:=()
def PySem.W.Fast.tw15607903123983901424:Unit:=()
def PySem.W.Fast.tw2925791217679651346:Unit:=()
def PySem.W.Fast.tw7955763391683028726:Unit:=()
def PySem.W.Fast.tw11288761355429043608:Unit:=()
def PySem.W.Fast.tw3999764887487751560:Unit:=()
def PySem.W.Fast.tw12265240066736575137:Unit:=()
def PySem.W.Fast.tw13529780265049584745:Unit:=()
def PySem.W.Fast.tw9693717914008620257:Unit:=()
def PySem.W.Fast.tw13206130896476720608:Unit:=()
def PySem.W.Fast.tw3959970261815503021:Unit:=()
def PySem.W.Fast.tw9099199188612378120:Unit:=()
def PySem.W.Fast.tw15027945991258973029:Unit:=()
def PySem.W.Fast.tw8901953275159372753:Unit:=()
def PySem.W.Fast.tw8922559748277492043:Unit:=()
def PySem.W.Fast.tw4030306080769505322:Unit:=()
def PySem.W.Fast.tw1100605519088776641:Unit:=()
def PySem.W.Fast.tw11609310283615964902:Unit:=()
def PySem.W.Fast.tw13534757973503658250:Unit:=()
def PySem.W.Fast.tw11092764188347191887:Unit:=()
def PySem.W.Fast.tw18040283131122252869:Unit:=()
def PySem.W.Fast.tw15868069796864570556:Unit:=()
def PySem.W.Fast.tw16622153099259367416:Unit:=()
def PySem.W.Fast.tw568322289426235996:Unit:=()
def PySem.W.Fast.tw14717616754845051519:Unit:=()
def PySem.W.Fast.tw15983190334688252090:Unit:=()
def PySem.W.Fast.tw3226591986960410675:Unit:=()
def PySem.W.Fast.tw5012287746467916759:Unit:=()
def PySem.W.Fast.tw14878679894033365778:Unit:=()
def PySem.W.Fast.tw6163532348742266184:Unit:=()
def PySem.W.Fast.tw16586373279813685457:Unit:=()
def PySem.W.Fast.tw11327757379539797204:Unit:=()
def PySem.W.Fast.tw11844764263138535001:Unit:=()
def PySem.W.Fast.tw6170922129981068921:Unit:=()
def PySem.W.Fast.tw13805549009616210198:Unit:=()
def PySem.W.Fast.tw2011185968807467843:Unit:=()
def PySem.W.Fast.tw1029271920510989172:Unit:=()
def PySem.W.Fast.tw15471425820616470780:Unit:=()
def PySem.W.Fast.tw8496643997437994879:Unit:=()
def PySem.W.Fast.tw11431541080068854575:Unit:=()
def PySem.W.Fast.tw546922065274551817:Unit:=()
def PySem.W.Fast.tw12767395830855336173:Unit:=()
def PySem.W.Fast.tw1231966478728689628:Unit:=()
def PySem.W.Fast.tw2952430007033793855:Unit:=()
def PySem.W.Fast.tw3301532703855596995:Unit:=()
def PySem.W.Fast.tw10229507729248632697:Unit:=()
def PySem.W.Fast.tw11093145297742468684:Unit:=()
def PySem.W.Fast.tw5129736799388332964:Unit:=()
def PySem.W.Fast.tw13558364638695486981:Unit:=()
def PySem.W.Fast.tw14520671910685601537:Unit:=()
def PySem.W.Fast.tw16052445039643305610:Unit:=()
def PySem.W.Fast.tw8070601729010705580:Unit:=()
def PySem.W.Fast.tw6096961944945389897:Unit:=()
def PySem.W.Fast.tw1231038159046412213:Unit:=()
def PySem.W.Fast.tw12313195743141683704:Unit:=()
def PySem.W.Fast.tw5976049978758431424:Unit:=()
def PySem.W.Fast.tw9651340817631044637:Unit:=()
def PySem.W.Fast.tw12078193620878570588:Unit:=()
def PySem.W.Fast.tw663525287725087576:Unit:=()
def PySem.W.Fast.tw16160414283070961337:Unit:=()
def PySem.W.Fast.tw10186712993473231148:Unit:=()
def PySem.W.Fast.tw12883472814609288225:Unit:=()
def PySem.W.Fast.tw3649608262334733487:Unit:=()
def PySem.W.Fast.tw10540148648469875152:Unit:=()
def PySem.W.Fast.tw14585005540189786770:Unit:=()
def PySem.W.Fast.tw5682545135820259108:Unit:=()
def PySem.W.Fast.tw3663920850092435412:Unit:=()
def PySem.W.Fast.tw17393081565147001164:Unit:=()
def PySem.W.Fast.tw8391325882525122332:Unit:=()
def PySem.W.Fast.tw14173118585641460426:Unit:=()
def PySem.W.Fast.tw2458585751334016267:Unit:=()
def PySem.W.Fast.tw6265728673569609919:Unit:=()
def PySem.W.Fast.tw10822960043030912517:Unit:=()
def PySem.W.Fast.tw6639607287816441814:Unit:=()
open PySem PySem.W PyProof.Rows
set_option maxRecDepth 100000 in
set_option maxHeartbeats 0 in
theorem PySem.Challenge.cw_undivide_k45_signed_sums_holds : PySem.Challenge.rw_undivide_k45_signed_sums.Holds := by
 w_on; o_law; k_head; (case hw=>w_witness2)
 k_fill
 refine K45.walk (l:=PySem.Challenge.rw_undivide_k45_signed_sums) rfl rfl (fun w h Y=>PySem.W.kIn_of Y) ?F
 case F =>
  intro w mg fa h KX G hmg
  refine' K45.all_mk KX G hmg ?a0 ?l0 ?c0 ?k0 ?a1 ?l1 ?c1 ?k1 ?a2 ?l2 ?c2 ?k2 ?a3 ?l3 ?c3 ?k3 ?a4 ?l4 ?c4 ?k4 ?a5 ?l5 ?c5 ?k5 ?a6 ?l6 ?c6 ?k6 ?a7 ?l7 ?c7 ?k7 ?a8 ?l8 ?c8 ?k8 ?a9 ?l9 ?c9 ?k9 ?a10 ?l10 ?c10 ?k10 ?a11 ?l11 ?c11 ?k11 ?a12 ?l12 ?c12 ?k12 ?a13 ?l13 ?c13 ?k13 ?a14 ?l14 ?c14 ?k14 ?a15 ?l15 ?c15 ?k15 ?a16 ?l16 ?c16 ?k16 ?a17 ?l17 ?c17 ?k17 ?a18 ?l18 ?c18 ?k18 ?a19 ?l19 ?c19 ?k19 ?a20 ?l20 ?c20 ?k20 ?a21 ?l21 ?c21 ?k21 ?a22 ?l22 ?c22 ?k22 ?a23 ?l23 ?c23 ?k23 ?a24 ?l24 ?c24 ?k24 ?a25 ?l25 ?c25 ?k25 ?a26 ?l26 ?c26 ?k26 ?a27 ?l27 ?c27 ?k27 ?z0 ?z1 ?z2 ?z3 ?z4 ?z5 ?z6 ?z7 ?z8 ?z9 ?z10 ?z11 ?xt0 ?aIROOM ?aTNOUGHT ?lTNOUGHT ?vTNOUGHT ?zTNOUGHT ?aTONE ?lTONE ?vTONE ?zTONE ?aXForm ?kXForm ?mXForm ?pgXForm ?hdXForm ?poXForm ?saXForm ?nXForm_numbers ?nXForm_beneath ?nXForm_room ?iXForm ?lXForm ?cXForm ?kfXForm ?fnXForm
  (case a0=>k_is)
  (case l0=>k_is)
  (case c0=>k_is)
  (case k0=>k_is)
  (case a1=>k_is)
  (case l1=>k_is)
  (case c1=>k_is)
  (case k1=>k_is)
  (case a2=>k_is)
  (case l2=>k_is)
  (case c2=>k_is)
  (case k2=>k_is)
  (case a3=>k_is)
  (case l3=>k_is)
  (case c3=>k_is)
  (case k3=>k_is)
  (case a4=>k_is)
  (case l4=>k_is)
  (case c4=>k_is)
  (case k4=>k_is)
  (case a5=>k_is)
  (case l5=>k_is)
  (case c5=>k_is)
  (case k5=>k_is)
  (case a6=>k_is)
  (case l6=>k_is)
  (case c6=>k_is)
  (case k6=>k_is)
  (case a7=>k_is)
  (case l7=>k_is)
  (case c7=>k_is)
  (case k7=>k_is)
  (case a8=>k_is)
  (case l8=>k_is)
  (case c8=>k_is)
  (case k8=>k_is)
  (case a9=>k_is)
  (case l9=>k_is)
  (case c9=>k_is)
  (case k9=>k_is)
  (case a10=>k_is)
  (case l10=>k_is)
  (case c10=>k_is)
  (case k10=>k_is)
  (case a11=>k_is)
  (case l11=>k_is)
  (case c11=>k_is)
  (case k11=>k_is)
  (case a12=>k_is)
  (case l12=>k_is)
  (case c12=>k_is)
  (case k12=>k_is)
  (case a13=>k_is)
  (case l13=>k_is)
  (case c13=>k_is)
  (case k13=>k_is)
  (case a14=>k_is)
  (case l14=>k_is)
  (case c14=>k_is)
  (case k14=>k_is)
  (case a15=>k_is)
  (case l15=>k_is)
  (case c15=>k_is)
  (case k15=>k_is)
  (case a16=>k_is)
  (case l16=>k_is)
  (case c16=>k_is)
  (case k16=>k_is)
  (case a17=>k_is)
  (case l17=>k_is)
  (case c17=>k_is)
  (case k17=>k_is)
  (case a18=>k_is)
  (case l18=>k_is)
  (case c18=>k_is)
  (case k18=>k_is)
  (case a19=>k_is)
  (case l19=>k_is)
  (case c19=>k_is)
  (case k19=>k_is)
  (case a20=>k_is)
  (case l20=>k_is)
  (case c20=>k_is)
  (case k20=>k_is)
  (case a21=>k_is)
  (case l21=>k_is)
  (case c21=>k_is)
  (case k21=>k_is)
  (case a22=>k_is)
  (case l22=>k_is)
  (case c22=>k_is)
  (case k22=>k_is)
  (case a23=>k_is)
  (case l23=>k_is)
  (case c23=>k_is)
  (case k23=>k_is)
  (case a24=>k_is)
  (case l24=>k_is)
  (case c24=>k_is)
  (case k24=>k_is)
  (case a25=>k_is)
  (case l25=>k_is)
  (case c25=>k_is)
  (case k25=>k_is)
  (case a26=>k_is)
  (case l26=>k_is)
  (case c26=>k_is)
  (case k26=>k_is)
  (case a27=>k_is)
  (case l27=>k_is)
  (case c27=>k_is)
  (case k27=>k_is)
  (case z0=>k_is)
  (case z1=>k_is)
  (case z2=>k_is)
  (case z3=>k_is)
  (case z4=>k_is)
  (case z5=>k_is)
  (case z6=>k_is)
  (case z7=>k_is)
  (case z8=>k_is)
  (case z9=>k_is)
  (case z10=>k_is)
  (case z11=>k_is)
  (case xt0=>kernel_rfl)
  (case aIROOM=>k_is)
  (case aTNOUGHT=>k_is)
  (case lTNOUGHT=>k_is)
  (case vTNOUGHT=>(repeat (first | exact .nil | refine .cons ⟨_,rfl⟩ ?_)))
  (case zTNOUGHT=>exact by decide)
  (case aTONE=>k_is)
  (case lTONE=>k_is)
  (case vTONE=>(repeat (first | exact .nil | refine .cons ⟨_,rfl⟩ ?_)))
  (case zTONE=>exact by decide)
  (case aXForm=>k_is)
  (case kXForm=>k_is)
  (case mXForm=>k_is)
  (case pgXForm=>k_is)
  (case hdXForm=>k_is)
  (case poXForm=>k_is)
  (case saXForm=>k_is)
  (case nXForm_numbers=>k_is)
  (case nXForm_beneath=>k_is)
  (case nXForm_room=>k_is)
  (case iXForm=>k_is)
  (case lXForm=>k_is)
  (case cXForm=>k_is)
  (case kfXForm=>k_is)
  (case fnXForm=>k_is)
