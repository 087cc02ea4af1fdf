import PyProof.Rows.All
import Wide.All
import OpenK.AllK
import Wide.FinOn
import Lean
import PyProof.EqAt
import PyProof.EqKinds
import PyProof.TupleCall
import PySem.Challenge.RW_undivide_k10_run_at_points
set_option Elab.async false
set_option linter.all false
set_option maxRecDepth 100000
namespace L2
open PySem PySem.Spec PyProof.Rows
abbrev Key:=Sum Int Str
def zhf:Key->Value->Bool
 | .inl k,v=>Value.isInt k v
 | .inr x,v=>Value.isStrOf x v
def zvw(w:World):Key->Int
 | .inl k=>hashInt k
 | .inr x=>hashStr w x
theorem zbl:∀ {k:Key} {v:Value},zhf k v=true->(∃ i t,k=Sum.inl i/\v=Value.int i t)\/(∃ x t,k=Sum.inr x/\v=Value.str x t)
 | .inl i,v,h=>by
  obtain⟨t,e⟩:=Value.isInt_shape (k:=i) (v:=v) h
  exact .inl ⟨i,t,rfl,e⟩
 | .inr x,v,h=>by
  obtain⟨t,e⟩:=Value.isStrOf_shape (x:=x) (v:=v) h
  exact .inr ⟨x,t,rfl,e⟩
theorem zlK(i:Int)(t:Tok):zhf (.inl i) (.int i t)=true:=by simp [zhf,Value.isInt]
theorem zlL(x:Str)(t:Tok):zhf (.inr x) (.str x t)=true:=by simp [zhf,Value.isStrOf]
theorem zsa(a b:Int):decide ((Sum.inl a:Key)=Sum.inl b)=(a==b):=by
 by_cases e:a=b
 ·subst e; simp
 ·have h:¬(Sum.inl a:Key)=Sum.inl b:=fun q=>e (Sum.inl.inj q)
  rw [decide_eq_false h]
  exact(beq_eq_false_iff_ne.mpr e).symm
theorem zsb(a b:Str):decide ((Sum.inr a:Key)=Sum.inr b)=decide (a=b):=by
 by_cases e:a=b
 ·subst e; simp
 ·have h:¬(Sum.inr a:Key)=Sum.inr b:=fun q=>e (Sum.inr.inj q)
  rw [decide_eq_false h,decide_eq_false e]
theorem zsc(a:Int)(b:Str):decide ((Sum.inl a:Key)=Sum.inr b)=false:=decide_eq_false (fun q=>nomatch q)
theorem zsd(a:Str)(b:Int):decide ((Sum.inr a:Key)=Sum.inl b)=false:=decide_eq_false (fun q=>nomatch q)
def za6(prog:Program)(w:World):PySem.KeyKind prog w Key where
 is:=zhf
 hash:=zvw w
 inj:=fun v a b ha hb=>by
  rcases zbl ha with ⟨i,t,rfl,rfl⟩ | ⟨x,t,rfl,rfl⟩
  ·rcases zbl hb with ⟨j,u,rfl,e⟩ | ⟨y,u,rfl,e⟩
   ·injection e with e1 _; rw [e1]
   ·exact nomatch e
  ·rcases zbl hb with ⟨j,u,rfl,e⟩ | ⟨y,u,rfl,e⟩
   ·exact nomatch e
   ·injection e with e1 _; rw [e1]
 byValue:=fun k v h=>by
  rcases zbl h with ⟨i,t,rfl,rfl⟩ | ⟨x,t,rfl,rfl⟩<;>rfl
 pyHash:=fun hv h=>by
  rcases zbl hv with ⟨i,t,rfl,rfl⟩ | ⟨x,t,rfl,rfl⟩
  ·exact wpAny_pyHash_int h
  ·exact wpAny_pyHash_str h
 eqBool:=fun hu hv h=>by
  rcases zbl hu with ⟨i,t,rfl,rfl⟩ | ⟨x,t,rfl,rfl⟩
  ·rcases zbl hv with ⟨j,u,rfl,rfl⟩ | ⟨y,u,rfl,rfl⟩
   ·rw [zsa]at h; exact wpAny_eqBool_int h
   ·rw [zsc]at h; exact SeqAt.EqAt.int_str i t y u _ _ _ _ h
  ·rcases zbl hv with ⟨j,u,rfl,rfl⟩ | ⟨y,u,rfl,rfl⟩
   ·rw [zsd]at h; exact SeqAt.EqAt.str_int x t j u _ _ _ _ h
   ·rw [zsb]at h; exact wpAny_eqBool_str h
 «strs»:=fun k x t v h=>by
  rcases zbl h with ⟨i,u,rfl,e⟩ | ⟨y,u,rfl,e⟩
  ·exact nomatch e
  ·injection e with e1 _
   subst e1
   cases v<;>rfl
theorem ziJ(prog:Program)(w:World)(i:Int)(t:Tok):(za6 prog w).is (.inl i) (.int i t)=true:=zlK i t
theorem ziK(prog:Program)(w:World)(x:Str)(t:Tok):(za6 prog w).is (.inr x) (.str x t)=true:=zlL x t
inductive V where
 | non | bl (b:Bool) | int (i:Int) | str (x:Str) | byt (b:Array UInt8) | flt (b:UInt64) | ref (a:Addr) | ty (n:String)
 deriving DecidableEq
def zap:V->Value->Prop
 | .non,u=>u=Value.none
 | .bl b,u=>u=Value.bool b
 | .int i,u=>∃ t,u=Value.int i t
 | .str x,u=>∃ t,u=Value.str x t
 | .byt b,u=>∃ t,u=Value.bytes b t
 | .flt b,u=>∃ t,u=Value.float b t
 | .ref a,u=>u=Value.ref a
 | .ty n,u=>u=Value.type n
abbrev zac:List V->List Value->Prop:=Paired zap
theorem zac.length{xs:List V}{us:List Value}(r:zac xs us):xs.length=us.length:=Paired.length r
theorem zac.get:∀ {xs:List V} {us:List Value} {i:Nat} {x:V},zac xs us->xs[i]?=some x->∃ u,us[i]?=some u/\zap x u
 | _,_,_,_,.nil,e=>by simp at e
 | _,_,0,_,.cons r _,e=>by simp at e; subst e; exact⟨_,rfl,r⟩
 | _,_,i+1,x,.cons _ t,e=>by
  obtain⟨u,h1,h2⟩:=zac.get (i:=i) (x:=x) t (by simpa using e)
  exact⟨u,by simpa using h1,h2⟩
theorem zac.set{x:V}{u:Value}(r:zap x u):∀ {xs:List V} {us:List Value} (i:Nat),zac xs us->zac (xs.set i x) (us.set i u)
 | _,_,_,.nil=>.nil
 | _,_,0,.cons _ t=>.cons r t
 | _,_,i+1,.cons q t=>.cons q (zac.set r i t)
theorem zac.append:∀ {xs ys:List V} {us ws:List Value},zac xs us->zac ys ws->zac (xs++ys) (us++ws)
 | _,_,_,_,.nil,s=>s
 | _,_,_,_,.cons r t,s=>.cons r (zac.append t s)
theorem zac.take:∀ {xs:List V} {us:List Value} (n:Nat),zac xs us->zac (xs.take n) (us.take n)
 | _,_,0,_=>.nil
 | _,_,_+1,.nil=>.nil
 | _,_,n+1,.cons r t=>.cons r (zac.take n t)
theorem zac.drop:∀ {xs:List V} {us:List Value} (n:Nat),zac xs us->zac (xs.drop n) (us.drop n)
 | _,_,0,r=>r
 | _,_,_+1,.nil=>.nil
 | _,_,n+1,.cons _ t=>zac.drop n t
def zew:Option V->Option Value->Prop
 | some v,some u=>zap v u
 | none,none=>True
 | _,_=>False
def KV{κ:Type}:List (κ×V)->List (κ×Value)->Prop:=Paired fun(p:κ×V) (q:κ×Value)=>p.1=q.1/\zap p.2 q.2
def kV:Key->V
 | .inl i=>.int i
 | .inr x=>.str x
inductive HO where
 | lst (xs:List V)
 | tup (xs:List V)
 | dK (kvs:List (Key×V)) | dT (kvs:List (List Key×V))
 | set (S:Int->Bool) (n:Nat)
 | ins (C dx:Addr) (fs:List (Str×V))
 | own (x:Addr)
 | xd (fs:List (Str×V))
 | met (f x:Addr)
 | rng (lo hi:Int)
 | frz (o:Obj) (u:HO)
 | tbl (ps:Array Value)
 | ext (φ:Heap->Prop)
abbrev Hp:=Addr->Option HO
def upd(H:Hp)(a:Addr)(o:HO):Hp:=fun b=>if b=a then some o else H b
theorem zG{H:Hp}{a:Addr}{o:HO}:upd H a o a=some o:=by unfold upd; rw [if_pos rfl]
theorem zD{H:Hp}{a b:Addr}{o:HO}(h:b≠a):upd H a o b=H b:=by unfold upd; rw [if_neg h]
theorem zo5{H:Hp}{a:Addr}{o u:HO}:upd (upd H a o) a u=upd H a u:=by
 funext b; unfold upd; split<;>rfl
theorem zhg{H:Hp}{a b:Addr}{o u:HO}(h:H a=some o)(h':H b=some u)(d:o≠u):a≠b:=by
 intro e; subst e; rw [h]at h'; exact d (Option.some.inj h')
theorem zav{H:Hp}{a b:Addr}{o:HO}(h:H a=some o)(h':H b=none):a≠b:=by
 intro e; subst e; rw [h]at h'; cases h'
section
variable (P:Program) (w:World)
def zaN(H:Hp)(h:Heap)(a:Addr):HO->Prop
 | .lst xs=>xs.length<=sizeLine/\∃ (its:List Value) (n:Nat),zac xs its/\h.get? a=some { cls:=.type "list",data:=.seq its.toArray n }
 | .tup xs=>xs.length<=sizeLine/\∃ its:List Value,zac xs its/\IsTup h a its.toArray
 | .dK kvs=>kvs.length<=sizeLine/\(a==sysModules)=false/\∃ vs,KV kvs vs/\h.DictOf (za6 P w) a vs
 | .dT kvs=>kvs.length<=sizeLine/\(a==sysModules)=false/\∃ xs:List (List Key×Addr×Value),
   Paired (fun(p:List Key×V) (q:List Key×Addr×Value)=>p.1=q.1/\H q.2.1=some (.tup (p.1.map kV))/\zap p.2 q.2.2) kvs xs /\
   ∃ o es ep,h.get? a=some o/\o.ExactDict/\o.data=.dict es ep/\es.toList=xs.map (entryOfKey (tupleKind (za6 P w)))/\(xs.map (·.1)).Nodup
 | .set S n=>h.SetOf (intKind P w) a S n
 | .ins C dx fs=>H dx=some (.own a)/\fs.length<=1000/\dx≠a/\h.get? a=some (PySem.W.instObj C dx) /\
   ∃ mA,h.Ns1 dx mA/\(∀ f,zew (fs.lookup f) (mA f))/\PySem.Within mA (fs.map (·.1))
 | .own _=>∃ o,h.get? a=some o
 | .xd fs=>∃ mA,h.Ns1 a mA/\∀ f,zew (fs.lookup f) (mA f)
 | .rng lo hi=>∃ t u v,h.get? a=some { cls:=.type "range",data:=.fields #[.int lo t,.int hi u,.int 1 v] }
 | .frz o u=>h.get? a=some o/\zaN H h a u
 | .tbl ps=>h.get? a=some { cls:=.none,data:=.fields ps }
 | .met f x=>h.get? a=some (PySem.W.methodObj (.ref f) (.ref x))
 | .ext φ=>φ h/\(∃ o,h.get? a=some o)/\∀ h1 h2:Heap,φ h1->(∀ o,h1.get? a=some o->h2.get? a=some o)->φ h2
def HOk(H:Hp)(h:Heap):Prop:=∀ a o,H a=some o->zaN P w H h a o
end
section
variable {P:Program} {w:World} {H H':Hp} {h h':Heap} {a:Addr} {o:HO}
theorem zaN.lt(x:zaN P w H h a o):a < h.objs.size:=by
 cases o with
 | lst xs=>obtain⟨_,_,_,_,e⟩:=x; exact Heap.lt_size e
 | tup xs=>obtain⟨_,_,_,p⟩:=x; exact p.lt
 | dK kvs=>obtain⟨_,_,_,_,o,_,_,e,_⟩:=x; exact Heap.lt_size e
 | dT kvs=>obtain⟨_,_,_,_,o,_,_,e,_⟩:=x; exact Heap.lt_size e
 | set S n=>obtain⟨o,_,_,_,e,_⟩:=x; exact Heap.lt_size e
 | ins C dx fs=>obtain⟨_,_,_,e,_⟩:=x; exact Heap.lt_size e
 | own y=>obtain⟨_,e⟩:=x; exact Heap.lt_size e
 | xd fs=>obtain⟨_,⟨_,_,_,e,_⟩,_⟩:=x; exact Heap.lt_size e
 | rng lo hi=>obtain⟨_,_,_,e⟩:=x; exact Heap.lt_size e
 | frz ob u=>obtain⟨e,_⟩:=x; exact Heap.lt_size e
 | tbl ps=>exact Heap.lt_size (show h.get? a=some _ from x)
 | met f y=>exact Heap.lt_size (show h.get? a=some _ from x)
 | ext φ=>obtain⟨_,⟨_,e⟩,_⟩:=x; exact Heap.lt_size e
theorem Paired.mapP{α β:Type}{F G:α->β->Prop}:∀ {l₁:List α} {l₂:List β},Paired F l₁ l₂->(∀ a b,F a b->G a b)->Paired G l₁ l₂
 | _,_,.nil,_=>.nil
 | _,_,.cons r t,f=>.cons (f _ _ r) (Paired.mapP t f)
theorem zaN.stay(x:zaN P w H h a o)(k:∀ b u,(b=a\/H b=some (.own a))->h.get? b=some u->h'.get? b=some u)
  (ho:∀ b,H b=some (.own a)->H' b=some (.own a)) (ht:∀ b xs,H b=some (.tup xs)->H' b=some (.tup xs)):zaN P w H' h' a o:=by
 induction o with
 | lst xs=>obtain⟨z,its,n,r,e⟩:=x; exact⟨z,its,n,r,k _ _ (.inl rfl) e⟩
 | tup xs=>obtain⟨z,its,r,ob,e,c⟩:=x; exact⟨z,its,r,ob,k _ _ (.inl rfl) e,c⟩
 | dK kvs=>obtain⟨z,y,vs,r,ob,es,ep,e,c⟩:=x; exact⟨z,y,vs,r,ob,es,ep,k _ _ (.inl rfl) e,c⟩
 | dT kvs =>
  obtain⟨z,y,xs,r,ob,es,ep,e,c⟩:=x
  exact⟨z,y,xs,Paired.mapP r fun p q z=>⟨z.1,ht _ _ z.2.1,z.2.2⟩,ob,es,ep,k _ _ (.inl rfl) e,c⟩
 | set S n=>obtain⟨ob,es,ep,t,e,c⟩:=x; exact⟨ob,es,ep,t,k _ _ (.inl rfl) e,c⟩
 | ins C dx fs =>
  obtain⟨d,z,ne,e,mA,⟨od,es,ep,e2,c⟩,r⟩:=x
  exact⟨ho _ d,z,ne,k _ _ (.inl rfl) e,mA,⟨od,es,ep,k _ _ (.inr d) e2,c⟩,r⟩
 | own y=>obtain⟨ob,e⟩:=x; exact⟨ob,k _ _ (.inl rfl) e⟩
 | xd fs=>obtain⟨mA,⟨od,es,ep,e,c⟩,r⟩:=x; exact⟨mA,⟨od,es,ep,k _ _ (.inl rfl) e,c⟩,r⟩
 | rng lo hi=>obtain⟨t,u,v,e⟩:=x; exact⟨t,u,v,k _ _ (.inl rfl) e⟩
 | frz ob u ih=>obtain⟨e,q⟩:=x; exact⟨k _ _ (.inl rfl) e,ih q⟩
 | tbl ps =>
  have e:h.get? a=some { cls:=.none,data:=.fields ps }:=x
  show h'.get? a=some { cls:=.none,data:=.fields ps }
  exact k a _ (.inl rfl) e
 | met f y =>
  have e:h.get? a=some (PySem.W.methodObj (.ref f) (.ref y)):=x
  show h'.get? a=some (PySem.W.methodObj (.ref f) (.ref y))
  exact k a _ (.inl rfl) e
 | ext φ=>obtain⟨p,⟨o,e⟩,st⟩:=x; exact⟨st _ _ p fun o q=>k _ _ (.inl rfl) q,⟨o,k _ _ (.inl rfl) e⟩,st⟩
theorem HOk.lt(x:HOk P w H h)(e:H a=some o):a < h.objs.size:=(x a o e).lt
theorem HOk.fresh(x:HOk P w H h)(e:h.objs.size<=a):H a=none:=by
 cases q:H a with
 | none=>rfl
 | some u=>exact absurd (Nat.lt_of_lt_of_le (x.lt q) e) (Nat.lt_irrefl _)
theorem HOk.kept(x:HOk P w H h)(k:∀ b u,h.get? b=some u->h'.get? b=some u):HOk P w H h':=fun a o e =>
 (x a o e).stay (fun b u _ q=>k b u q) (fun _ q=>q) fun _ _ q=>q
theorem HOk.laid(x:HOk P w H h)(k:∀ b u,h.get? b=some u->h'.get? b=some u)(hp:h.objs.size<=a)(new:zaN P w (upd H a o) h' a o):HOk P w (upd H a o) h':=fun b u e=>by
 have hn:=x.fresh hp
 by_cases hb:b=a
 ·subst hb; rw [zG]at e; cases e; exact new
 ·rw [zD hb]at e
  exact(x b u e).stay (fun c v _ q=>k c v q) (fun c q=>by rw [zD (zav q hn)]; exact q) fun c xs q=>by rw [zD (zav q hn)]; exact q
end
def Rd(H:Hp)(a:Addr)(u:HO):Prop:=H a=some u\/∃ o,H a=some (.frz o u)
theorem Rd.ok{P:Program}{w:World}{H:Hp}{h:Heap}{a:Addr}{u:HO}(r:Rd H a u)(x:HOk P w H h):zaN P w H h a u:=by
 rcases r with r | ⟨o,r⟩
 ·exact x a u r
 ·obtain⟨_,q⟩:=x a _ r
  exact q
def Mut:Option HO->Prop
 | some (.lst _)=>True
 | some (.dK _)=>True
 | some (.dT _)=>True
 | some (.set _ _)=>True
 | some (.ins _ _ _)=>True
 | some (.ext _)=>True
 | _=>False
section
variable {P:Program} {w:World} {H:Hp} {h h':Heap} {x e:Addr} {o':HO}
theorem HOk.write(ok:HOk P w H h)(mu:Mut (H x))(he:e=x\/H e=some (.own x))(k:∀ b u,b≠e->h.get? b=some u->h'.get? b=some u)(heo:∃ u,h'.get? e=some u)
  (new:zaN P w (upd H x o') h' x o'):HOk P w (upd H x o') h':=fun b u q=>by
 have nown:∀ c y,H c=some (.own y)->c≠x:=fun c y r z=>by subst z; rw [r]at mu; exact mu
 have ntup:∀ c xs,H c=some (.tup xs)->c≠x:=fun c xs r z=>by subst z; rw [r]at mu; exact mu
 by_cases hb:b=x
 ·subst hb; rw [zG]at q; cases q; exact new
 ·rw [zD hb]at q
  by_cases hbe:b=e
  ·have q':H b=some (.own x):=by
    rcases he with z | z
    ·exact absurd (hbe.trans z) hb
    ·rw [hbe]; exact z
   rw [q]at q'; cases q'
   obtain⟨v,hv⟩:=heo
   exact⟨v,by rw [hbe]; exact hv⟩
  ·refine(ok b u q).stay (fun c v hc r=>k c v ?_ r) (fun c r=>by rw [zD (nown c b r)]; exact r) fun c xs r=>by rw [zD (ntup c xs r)]; exact r
   rcases hc with rfl | hc
   ·exact hbe
   ·rintro rfl
    rcases he with z | z
    ·exact nown c b hc z
    ·rw [hc]at z; cases z; exact hb rfl
end
structure Un (fs ex:List Addr) (H H':Hp) (h h':Heap):Prop where
 keep:∀ b o,h.get? b=some o->H b=none->b∉fs->b∉ex->h'.get? b=some o
 slot:∀ b o,h.get? b=some o->H b=none->b∈fs->b∉ex->∃ sl,h'.get? b=some { o with slots:=sl }
 free:∀ b o,h.get? b=some o->H b=none->b∉ex->H' b=none
 there:∀ b o,h.get? b=some o->b∉ex->∃ o',h'.get? b=some o'
 tups:∀ b xs,H b=some (.tup xs)->H' b=some (.tup xs)
 frzs:∀ b o u,H b=some (.frz o u)->H' b=some (.frz o u)
 tbls:∀ b ps,H b=some (.tbl ps)->∃ more,H' b=some (.tbl (ps++more))
section
variable {fs fs' ex ex':List Addr} {H H1 H2:Hp} {h h1 h2 h':Heap} {a x e:Addr} {o:HO}
theorem Un.any(u:Un fs ex H H1 h h1){b:Addr}{ob:Obj}(q:h.get? b=some ob)(n:H b=none)(hx:b∉ex):∃ sl,h1.get? b=some { ob with slots:=sl }:=by
 by_cases hb:b∈fs
 ·exact u.slot b ob q n hb hx
 ·exact⟨ob.slots,u.keep b ob q n hb hx⟩
theorem Un.kept(k:∀ b u,h.get? b=some u->h'.get? b=some u):Un fs ex H H h h' :=
 ⟨fun b ob q _ _ _=>k b ob q,fun b ob q _ _ _=>⟨ob.slots,k b ob q⟩,fun _ _ _ n _=>n,fun b ob q _=>⟨ob,k b ob q⟩,fun _ _ q=>q,fun _ _ _ q=>q,fun _ ps q=>⟨#[],by rw [q]; simp⟩⟩
theorem Un.refl:Un fs ex H H h h:=Un.kept fun _ _ q=>q
theorem Un.laid(k:∀ b u,h.get? b=some u->h'.get? b=some u)(hp:h.objs.size<=a)(hn:H a=none):Un fs ex H (upd H a o) h h' where
 keep:=fun b u q _ _ _=>k b u q
 slot:=fun b u q _ _ _=>⟨u.slots,k b u q⟩
 free:=fun b u q n _=>by rw [zD (Nat.ne_of_lt (Nat.lt_of_lt_of_le (Heap.lt_size q) hp))]; exact n
 there:=fun b u q _=>⟨u,k b u q⟩
 tups:=fun b xs q=>by rw [zD (zav q hn)]; exact q
 frzs:=fun b u xs q=>by rw [zD (zav q hn)]; exact q
 tbls:=fun b ps q=>⟨#[],by rw [zD (zav q hn),q]; simp⟩
theorem Un.write(mu:Mut (H x))(he:e=x\/H e=some (.own x))(k:∀ b u,b≠e->h.get? b=some u->h'.get? b=some u)(heo:∃ u,h'.get? e=some u):Un fs ex H (upd H x o) h h':=by
 have hx:∀ b,H b=none->b≠x:=fun b n z=>by subst z; rw [n]at mu; exact mu
 have hb:∀ b,H b=none->b≠e:=fun b n z=>by
  subst z
  rcases he with r | r
  ·exact hx b n r
  ·rw [n]at r; cases r
 have hm:∀ b u,H b=some u->¬Mut (some u)->b≠x:=fun b u q nm z=>by subst z; rw [q]at mu; exact nm mu
 refine⟨fun b u q n _ _=>k b u (hb b n) q,fun b u q n _ _=>⟨u.slots,k b u (hb b n) q⟩,fun b u q n _=>by rw [zD (hx b n)]; exact n,fun b u q _=>?_,
  fun b xs q=>by rw [zD (hm b _ q fun z=>z)]; exact q,fun b u xs q=>by rw [zD (hm b _ q fun z=>z)]; exact q,fun b ps q=>⟨#[],by rw [zD (hm b _ q fun z=>z),q]; simp⟩⟩
 by_cases hbe:b=e
 ·subst hbe; exact heo
 ·exact⟨u,k b u hbe q⟩
end
def trk(h:Heap)(H:Hp):List Addr:=(List.range h.objs.size).filter fun a=>(H a).isSome
def zhM(h:Heap)(H:Hp):Heap:=PySem.W.hideAll h (trk h H)
theorem zlM(h:Heap)(H:Hp):(zhM h H).objs.size=h.objs.size:=PySem.W.hideAll_size _ _
theorem zmx{h:Heap}{H:Hp}{b:Addr}{o:Obj}(e:h.get? b=some o)(n:H b=none):(zhM h H).get? b=some o :=
 PySem.W.hideAll_get _ e fun hm=>by
  have q:(H b).isSome=true:=(List.mem_filter.mp hm).2
  rw [n]at q; simp at q
theorem zo6{h:Heap}{H:Hp}{b:Addr}{o:Obj}(e:(zhM h H).get? b=some o):h.get? b=some o/\H b=none:=by
 have e':h.get? b=some o:=PySem.W.of_hideAll (trk h H) e
 refine⟨e',?_⟩
 cases q:H b with
 | none=>rfl
 | some x =>
  have hm:b∈trk h H:=List.mem_filter.mpr ⟨List.mem_range.mpr (Heap.lt_size e'),by simp [q]⟩
  have z:(zhM h H).get? b=none:=PySem.W.hideAll_none (trk h H) hm
  rw [z]at e; cases e
def zo7(g h:Heap)(L:Addr):List (Addr×Obj):=(List.range h.objs.size).filterMap fun a=>if a=L\/(g.get? a).isSome=true then none else(h.get? a).map fun o=>(a,o)
def zcb(g h:Heap)(L d:Addr):List (Addr×Obj):=(zo7 g h L).filter fun p=>decide (p.1≠d)
structure Mod (K:PySem.W.Frag) (mg:Str->Option Value) (base:Heap):Prop where
 kin:K.In base
 glob:base.Ns mainGlobals mg
 blt:∃ mb,base.Ns builtinsNs mb/\∀ x:Str,x ≠ "__name__"->mb x=bootBuiltins x
 nolimit:base.NoLimit
structure Cx where
 prog:Program
 w:World
 K:PySem.W.Frag
 mg:Str->Option Value
 base:Heap
 A:Around
 N:List Str
 s₀:Shared
 H₀:Hp
 env:Env
 outer:List Env
 stack:List Env
 ex:List Addr
 fn:Str->Bool
 calm:Bool
 pn:List (Addr×Obj)
 xe:Value->Shared->Prop
def frs(l:List Env):List Addr:=l.filterMap (·.frame)
abbrev Cx.fs(X:Cx):List Addr:=frs X.outer
def Vis(sc:Scope)(x:Str):Prop:=sc.names.lookup x=some .local\/sc.names.lookup x=some .cell\/sc.names.lookup x=some .free
def Loc(sc:Scope)(x:Str):Prop:=sc.names.lookup x=some .local\/sc.names.lookup x=some .cell
def zxG(env:Env)(h:Heap)(m:Str->Option Value)(x:Str)(u:Value):Prop :=
 (env.kindOf x=some .local/\m x=some u)\/((env.kindOf x=some .cell\/env.kindOf x=some .free)/\∃ c,env.cells.lookup x=some c/\h.IsCell c (some u))
structure Cx.Ok (X:Cx):Prop where
 mod:Mod X.K X.mg X.base
 kind:X.env.scope.kind=.function
 glob:X.env.globals=mainGlobals
 blt:X.env.builtins=builtinsNs
 above:X.s₀.heap.objs.size<=X.env.locals
 inj:∀ x y c,X.env.cells.lookup x=some c->X.env.cells.lookup y=some c->x=y
 has:∀ x,(X.env.kindOf x=some .cell\/X.env.kindOf x=some .free)->∃ c,X.env.cells.lookup x=some c
 cab:∀ x c,X.fn x=true->X.env.cells.lookup x=some c->X.s₀.heap.objs.size<=c
 hd:X.calm=true->X.A.handled=none
 frames:X.A.frames=some X.stack
 stk:X.stack=X.outer\/(X.stack=X.env::X.outer/\X.env.frame=some X.env.locals)
 exf:∀ b∈X.ex,b≠X.env.locals/\∀ x c,X.env.cells.lookup x=some c->c≠b
 bs:∀ b o,X.base.get? b=some o->X.s₀.heap.get? b=some o/\X.H₀ b=none
 bsz:X.base.objs.size<=X.s₀.heap.objs.size
 noex:∀ b o,X.base.get? b=some o->b∉X.ex
 exfs:∀ b∈X.ex,b∉X.fs
 funs:X.s₀.heap.FunFrames X.base X.outer
 frf:∀ b∈X.fs,X.H₀ b=none
structure Inv (X:Cx) (pins:List (Addr×Obj)) (σ:List (Option V)) (H:Hp) (s:Shared):Prop where
 ok:X.Ok
 os:s.os=X.s₀.os
 bare:AllBare s.gens
 base:Un X.fs X.ex X.H₀ H X.s₀.heap s.heap
 loc:∃ m,s.heap.Ns X.env.locals m/\∀ (i:Nat) (x:Str) (v:V),X.N[i]?=some x->σ[i]?=some (some v)->Vis X.env.scope x->∃ u,zap v u/\zxG X.env s.heap m x u
 cell:∀ x c,X.env.cells.lookup x=some c->∃ v,s.heap.IsCell c v
 free:H X.env.locals=none
 freeC:∀ x c,X.env.cells.lookup x=some c->H c=none
 pin:∀ p∈X.pn++pins,s.heap.get? p.1=some p.2/\H p.1=none/\p.1≠X.env.locals/\p.1∉X.fs/\∀ v,p.2.data≠.cell v
 hok:HOk X.prog X.w H s.heap
 len:σ.length=X.N.length
section
variable {X:Cx} {pins:List (Addr×Obj)} {σ:List (Option V)} {H H':Hp} {s:Shared} {h':Heap}
theorem Cx.Ok.nofr(ok:X.Ok){b:Addr}{o:Obj}(e:X.base.get? b=some o):b∉X.fs:=fun hb=>by
 have:=(ok.funs.mem hb).1
 rw [e]at this; cases this
theorem Inv.bs(I:Inv X pins σ H s):∀ b o,X.base.get? b=some o->s.heap.get? b=some o/\H b=none:=fun b o e =>
 ⟨I.base.keep b o (I.ok.bs b o e).1 (I.ok.bs b o e).2 (I.ok.nofr e) (I.ok.noex b o e),I.base.free b o (I.ok.bs b o e).1 (I.ok.bs b o e).2 (I.ok.noex b o e)⟩
theorem Inv.bk(I:Inv X pins σ H s):∀ b o,X.base.get? b=some o->s.heap.get? b=some o:=fun b o e=>(I.bs b o e).1
theorem Inv.mod(I:Inv X pins σ H s):Mod X.K X.mg X.base:=I.ok.mod
theorem Inv.kIn(I:Inv X pins σ H s):X.K.In s.heap:=I.ok.mod.kin.keeps I.bk
theorem Inv.nolimit(I:Inv X pins σ H s):s.heap.NoLimit:=I.ok.mod.nolimit.keeps I.bk
theorem Inv.fr(I:Inv X pins σ H s):∃ m,Fr X.base X.env.locals s.heap m :=
 let ⟨m,hn,_⟩:=I.loc
 ⟨m,hn,I.bk,Nat.le_trans I.ok.bsz I.ok.above⟩
theorem Inv.lt(I:Inv X pins σ H s):X.env.locals < s.heap.objs.size:=let ⟨_,hn,_⟩:=I.loc; hn.lt
theorem Inv.sz(I:Inv X pins σ H s):X.s₀.heap.objs.size<=s.heap.objs.size:=Nat.le_trans I.ok.above (Nat.le_of_lt I.lt)
theorem Inv.nofs(I:Inv X pins σ H s){a:Addr}(h:s.heap.objs.size<=a):a∉X.fs:=fun hb=>by
 obtain⟨_,o,ho,_⟩:=I.ok.funs.mem hb
 exact absurd (Nat.lt_of_lt_of_le (Heap.lt_size ho) (Nat.le_trans I.sz h)) (Nat.lt_irrefl _)
theorem Inv.cne(I:Inv X pins σ H s):∀ x c,X.env.cells.lookup x=some c->c≠X.env.locals:=fun x c e z=>by
 obtain⟨v,o,ho,hd⟩:=I.cell x c e
 obtain⟨m,⟨o',es,ep,ho',hd',_⟩,_⟩:=I.loc
 rw [z,ho']at ho; cases ho; rw [hd']at hd; cases hd
theorem Inv.funs(I:Inv X pins σ H s):s.heap.FunFrames X.base X.outer:=by
 have all:∀ (l:List Env),(∀ b∈frs l,b∈X.fs)->X.s₀.heap.FunFrames X.base l->s.heap.FunFrames X.base l:=by
  intro l
  induction l with
  | nil=>intro _ _; trivial
  | cons env r ih =>
   intro hs hl
   obtain⟨hk,⟨L,o,hf,hn,ho,hd⟩,hr⟩:=hl
   have hL:L∈X.fs:=hs L (by unfold frs; rw [List.filterMap_cons,hf]; exact List.mem_cons_self)
   obtain⟨sl,e⟩:=I.base.slot L o ho (I.ok.frf L hL) hL fun z=>I.ok.exfs L z hL
   exact⟨hk,⟨L,_,hf,hn,e,hd⟩,ih (fun b hb=>hs b (by unfold frs; rw [List.filterMap_cons,hf]; exact List.mem_cons_of_mem _ hb)) hr⟩
 exact all X.outer (fun _ hb=>hb) I.ok.funs
theorem Inv.stack(I:Inv X pins σ H s):s.heap.FunFrames X.base X.stack:=by
 rcases I.ok.stk with e | ⟨e,hf⟩
 ·rw [e]; exact I.funs
 ·rw [e]
  obtain⟨m,hn,_⟩:=I.loc
  refine .cons (by rw [I.ok.kind]; decide) hf hn ?_ I.funs
  exact Heap.get?_none_of_le (Nat.le_trans I.ok.bsz I.ok.above)
theorem Inv.stkSub(I:Inv X pins σ H s):∀ b∈frs X.stack,b∈X.env.locals::X.fs:=fun b hb=>by
 rcases I.ok.stk with e | ⟨e,hf⟩
 ·rw [e]at hb; exact List.mem_cons_of_mem _ hb
 ·rw [e]at hb
  unfold frs at hb
  rw [List.filterMap_cons,hf]at hb
  exact hb
theorem Inv.stkFree(I:Inv X pins σ H s):∀ b∈frs X.stack,H b=none:=fun b hb=>by
 rcases List.mem_cons.mp (I.stkSub b hb)with e | hb
 ·rw [e]; exact I.free
 ·obtain⟨_,o,ho,_⟩:=I.ok.funs.mem hb
  exact I.base.free b o ho (I.ok.frf b hb) fun z=>I.ok.exfs b z hb
theorem Inv.step{g':Array GenState}{t':Nat}{d':Drawn}{ch:List Addr}(I:Inv X pins σ H s)
  (hch:∀ b∈ch,(b∈X.ex\/X.s₀.heap.objs.size<=b)/\b≠X.env.locals/\(∀ x c,X.env.cells.lookup x=some c->c≠b)/\∀ p∈X.pn++pins,p.1≠b)
  (keep:∀ b o,b≠X.env.locals->b∉X.fs->b∉ch->s.heap.get? b=some o->H b=none->h'.get? b=some o)
  (slot:∀ b o,b≠X.env.locals->b∈X.fs->b∉ch->s.heap.get? b=some o->H b=none->∃ sl,h'.get? b=some { o with slots:=sl }) (free:∀ b o,b∉ch->s.heap.get? b=some o->H b=none->H' b=none)
  (there:∀ b o,b∉ch->s.heap.get? b=some o->∃ o',h'.get? b=some o')
  (tups:∀ b xs,H b=some (.tup xs)->H' b=some (.tup xs)) (frzs:∀ b o u,H b=some (.frz o u)->H' b=some (.frz o u)) (tbls:∀ b ps,H b=some (.tbl ps)->∃ more,H' b=some (.tbl (ps++more)))
  (ns:∀ m,s.heap.Ns X.env.locals m->h'.Ns X.env.locals m) (hok:HOk X.prog X.w H' h') (hg:AllBare g') :
  Inv X pins σ H' { s with heap:=h',gens:=g',drawn:=d',toks:=t' }:=by
 have neL:∀ b o,X.s₀.heap.get? b=some o->b≠X.env.locals:=fun b o e=>Nat.ne_of_lt (Nat.lt_of_lt_of_le (Heap.lt_size e) I.ok.above)
 have neC:∀ b o,X.s₀.heap.get? b=some o->b∉X.ex->b∉ch:=fun b o e hx hb=>by
  rcases(hch b hb).1 with z | z
  ·exact hx z
  ·exact absurd (Nat.lt_of_lt_of_le (Heap.lt_size e) z) (Nat.lt_irrefl _)
 have cellK:∀ x c,X.env.cells.lookup x=some c->∀ v,s.heap.IsCell c v->h'.IsCell c v:=fun x c e v ⟨o,ho,hd⟩=>by
  have nch:c∉ch:=fun z=>(hch c z).2.2.1 x c e rfl
  by_cases hc:c∈X.fs
  ·obtain⟨sl,q⟩:=slot c o (I.cne x c e) hc nch ho (I.freeC x c e)
   exact⟨_,q,hd⟩
  ·exact⟨o,keep c o (I.cne x c e) hc nch ho (I.freeC x c e),hd⟩
 refine⟨I.ok,I.os,hg,⟨fun b o e n hb hx=>?_,fun b o e n hb hx=>?_,fun b o e n hx=>?_,fun b o e hx=>?_,fun b xs e=>tups b xs (I.base.tups b xs e),fun b o xs e=>frzs b o xs (I.base.frzs b o xs e),fun b ps e=>?_⟩,?_,fun x c e=>?_,?_,fun x c e=>?_,fun p hp=>?_,hok,I.len⟩
 ·exact keep b o (neL b o e) hb (neC b o e hx) (I.base.keep b o e n hb hx) (I.base.free b o e n hx)
 ·obtain⟨sl,e1⟩:=I.base.slot b o e n hb hx
  obtain⟨sl',e2⟩:=slot b _ (neL b o e) hb (neC b o e hx) e1 (I.base.free b o e n hx)
  exact⟨sl',e2⟩
 ·obtain⟨o',e1⟩:=I.base.there b o e hx
  exact free b o' (neC b o e hx) e1 (I.base.free b o e n hx)
 ·obtain⟨o',e1⟩:=I.base.there b o e hx
  exact there b o' (neC b o e hx) e1
 ·obtain⟨m1,e1⟩:=I.base.tbls b ps e
  obtain⟨m2,e2⟩:=tbls b _ e1
  exact⟨m1++m2,by rw [e2,Array.append_assoc]⟩
 ·obtain⟨m,hn,hl⟩:=I.loc
  refine⟨m,ns m hn,fun i x v e1 e2 e3=>?_⟩
  obtain⟨u,r,l⟩:=hl i x v e1 e2 e3
  refine⟨u,r,?_⟩
  rcases l with l | ⟨k,c,e,z⟩
  ·exact .inl l
  ·exact .inr ⟨k,c,e,cellK x c e _ z⟩
 ·obtain⟨v,z⟩:=I.cell x c e
  exact⟨v,cellK x c e v z⟩
 ·obtain⟨m,⟨o,_,_,ho,_⟩,_⟩:=I.loc
  exact free _ o (fun z=>(hch _ z).2.1 rfl) ho I.free
 ·obtain⟨v,o,ho,hd⟩:=I.cell x c e
  exact free c o (fun z=>(hch c z).2.2.1 x c e rfl) ho (I.freeC x c e)
 ·obtain⟨e,n,ne,nf,d⟩:=I.pin p hp
  have nch:p.1∉ch:=fun z=>(hch p.1 z).2.2.2 p hp rfl
  exact⟨keep p.1 p.2 ne nf nch e n,free p.1 p.2 nch e n,ne,nf,d⟩
theorem Inv.un{t':Nat}(I:Inv X pins σ H s)(u:Un X.fs [] H H' s.heap h')(hok:HOk X.prog X.w H' h'):Inv X pins σ H' { s with heap:=h',toks:=t' }:=by
 obtain⟨m,⟨o,es,ep,ho,r⟩,_⟩:=id I.loc
 obtain⟨sl,hL⟩:=u.any ho I.free (by simp)
 exact I.step (g':=s.gens) (d':=s.drawn) (ch:=[]) (fun _ z=>nomatch z) (fun b o _ hb _ e n=>u.keep b o e n hb (by simp)) (fun b o _ hb _ e n=>u.slot b o e n hb (by simp)) (fun b o _ e n=>u.free b o e n (by simp)) (fun b o _ e=>u.there b o e (by simp)) u.tups u.frzs u.tbls (fun m' hm=>by
  obtain⟨o',es',ep',ho',r'⟩:=hm
  rw [ho]at ho'; cases ho'
  exact⟨_,es',ep',hL,r'⟩) hok I.bare
theorem Inv.call{g':Array GenState}{t':Nat}{d':Drawn}{ch:List Addr}(I:Inv X pins σ H s)(u:Un (frs X.stack) ch H H' s.heap h')(hok:HOk X.prog X.w H' h')(hg:AllBare g')
  (hch:∀ b∈ch,(b∈X.ex\/X.s₀.heap.objs.size<=b)/\b≠X.env.locals/\(∀ x c,X.env.cells.lookup x=some c->c≠b)/\∀ p∈X.pn++pins,p.1≠b) :
  Inv X pins σ H' { s with heap:=h',gens:=g',drawn:=d',toks:=t' }:=by
 obtain⟨m,⟨o,es,ep,ho,r⟩,_⟩:=id I.loc
 obtain⟨sl,hL⟩:=u.any ho I.free fun z=>(hch _ z).2.1 rfl
 exact I.step (ch:=ch) hch (fun b o hL hb hc e n=>u.keep b o e n (fun z=>(List.mem_cons.mp (I.stkSub b z)).elim hL hb) hc) (fun b o _ _ hc e n=>u.any e n hc) (fun b o hc e n=>u.free b o e n hc) (fun b o hc e=>u.there b o e hc) u.tups u.frzs u.tbls (fun m' hm=>by
  obtain⟨o',es',ep',ho',r'⟩:=hm
  rw [ho]at ho'; cases ho'
  exact⟨_,es',ep',hL,r'⟩) hok hg
theorem Inv.turned{t':Nat}{it:Addr}(I:Inv X pins σ H s)(k:∀ b o,b≠it->s.heap.get? b=some o->h'.get? b=some o)(hn:H it=none)(hL:it≠X.env.locals)
  (h1:it∈X.ex\/X.s₀.heap.objs.size<=it) (h2:∀ x c,X.env.cells.lookup x=some c->c≠it) (h3:∀ p∈X.pn++pins,p.1≠it):Inv X pins σ H { s with heap:=h',toks:=t' }:=by
 have nit:∀ b u,H b=some u->b≠it:=fun b u e z=>by rw [z,hn]at e; cases e
 refine I.step (g':=s.gens) (d':=s.drawn) (ch:=[it]) (fun b hb=>?_) (fun b o _ _ hc e _=>k b o (fun z=>hc (by simp [z])) e) (fun b o _ _ hc e _=>⟨o.slots,k b o (fun z=>hc (by simp [z])) e⟩) (fun _ _ _ _ n=>n)
  (fun b o hc e=>⟨o,k b o (fun z=>hc (by simp [z])) e⟩) (fun _ _ e=>e) (fun _ _ _ e=>e) (fun b ps e=>⟨#[],by rw [e]; simp⟩) (fun m hm=>?_) (fun b u e=>?_) I.bare
 ·have e:b=it:=by simpa using hb
  subst e
  exact⟨h1,hL,h2,h3⟩
 ·obtain⟨o,es,ep,ho,r⟩:=hm
  exact⟨o,es,ep,k _ o (Ne.symm hL) ho,r⟩
 ·refine(I.hok b u e).stay (fun c v hc q=>k c v ?_ q) (fun _ q=>q) fun _ _ q=>q
  rcases hc with z | z
  ·rw [z]; exact nit b u e
  ·exact nit c _ z
theorem Inv.tok(I:Inv X pins σ H s)(t:Nat):Inv X pins σ H { s with toks:=t }:=I.un (h':=s.heap) (t':=t) Un.refl I.hok
theorem Inv.kept{t':Nat}(I:Inv X pins σ H s)(k:∀ b u,s.heap.get? b=some u->h'.get? b=some u):Inv X pins σ H { s with heap:=h',toks:=t' }:=I.un (Un.kept k) (I.hok.kept k)
theorem Inv.laid{a:Addr}{o:HO}{t':Nat}(I:Inv X pins σ H s)(k:∀ b u,s.heap.get? b=some u->h'.get? b=some u)(hp:s.heap.objs.size<=a)(new:zaN X.prog X.w (upd H a o) h' a o) :
  Inv X pins σ (upd H a o) { s with heap:=h',toks:=t' }:=I.un (Un.laid k hp (I.hok.fresh hp)) (I.hok.laid k hp new)
theorem Inv.write{x e:Addr}{o:HO}{t':Nat}(I:Inv X pins σ H s)(mu:Mut (H x))(he:e=x\/H e=some (.own x))(k:∀ b u,b≠e->s.heap.get? b=some u->h'.get? b=some u)(heo:∃ u,h'.get? e=some u)
  (new:zaN X.prog X.w (upd H x o) h' x o):Inv X pins σ (upd H x o) { s with heap:=h',toks:=t' }:=I.un (Un.write mu he k heo) (I.hok.write mu he k heo new)
theorem Inv.weak{σ':List (Option V)}(I:Inv X pins σ H s)(hl:σ'.length=σ.length)(w:∀ (i:Nat) v,σ'[i]?=some (some v)->σ[i]?=some (some v)):Inv X pins σ' H s :=
 ⟨I.ok,I.os,I.bare,I.base,let ⟨m,hn,hl'⟩:=I.loc; ⟨m,hn,fun i x v e1 e2 e3=>hl' i x v e1 (w i v e2) e3⟩,I.cell,I.free,I.freeC,I.pin,I.hok,hl.trans I.len⟩
theorem Inv.pins_of{pins':List (Addr×Obj)}(I:Inv X pins σ H s)(h:∀ p∈pins',s.heap.get? p.1=some p.2/\H p.1=none/\p.1≠X.env.locals/\p.1∉X.fs/\∀ v,p.2.data≠.cell v):Inv X pins' σ H s :=
 ⟨I.ok,I.os,I.bare,I.base,I.loc,I.cell,I.free,I.freeC,fun p hp=>(List.mem_append.mp hp).elim (fun z=>I.pin p (List.mem_append_left _ z)) (h p),I.hok,I.len⟩
theorem zf6{N:List Str}(hN:N.Nodup){i j:Nat}{x:Str}(a:N[i]?=some x)(b:N[j]?=some x):i=j:=by
 obtain⟨h1,e1⟩:=List.getElem?_eq_some_iff.mp a
 obtain⟨h2,e2⟩:=List.getElem?_eq_some_iff.mp b
 exact(List.getElem_inj hN).mp (e1.trans e2.symm)
theorem zhh{M:Model}{A:Around}{E:Value->Shared->Prop}{i:Nat}{x:Str}{v:V}{u:Value}{Q:Unit->Shared->Prop}(I:Inv X pins σ H s)(hN:X.N.Nodup)(hi:X.N[i]?=some x)(hx:Loc X.env.scope x)(r:zap v u)
  (h:∀ s',Inv X pins (σ.set i (some v)) H s'->(∃ a,Heap.SameBut a s.heap s'.heap/\(a=X.env.locals\/X.env.cells.lookup x=some a))->Q () s') (hf:X.fn x=true\/X.env.scope.names.lookup x=some .local:=by first | exact .inl rfl | exact .inr rfl | assumption):wpAny M A (storeName X.env x u) Q E s:=by
 obtain⟨m,hn,hl⟩:=id I.loc
 have hcls:(X.env.scope.kind==.class || (X.env.scope.kind==.module && X.env.locals != X.env.globals))=false:=by rw [I.ok.kind]; rfl
 have hiσ:i < σ.length:=by rw [I.len]; exact(List.getElem?_eq_some_iff.mp hi).1
 have cne:=I.cne
 have tracked:∀ {a:Addr} {h':Heap},(∃ o,s.heap.get? a=some o/\H a=none)->Heap.SameBut a s.heap h'->HOk X.prog X.w H h':=fun{a h'} ha hs b ob e=>by
  obtain⟨_,_,hfree⟩:=ha
  refine(I.hok b ob e).stay (fun c w' hc q=>(hs.2 c ?_).trans q) (fun _ q=>q) fun _ _ q=>q
  rintro rfl
  rcases hc with rfl | hc
  ·rw [hfree]at e; cases e
  ·rw [hfree]at hc; cases hc
 rcases hx with hk | hk
 ·refine wpAny_storeName_local hk hn (fun h' hn' hs=>?_) hcls
  obtain⟨oL,_,_,hoL,_⟩:=id hn
  refine h _ ⟨I.ok,I.os,I.bare,⟨fun b o e n hb hx=>?_,fun b o e n hb hx=>?_,I.base.free,fun b o e hx=>?_,I.base.tups,I.base.frzs,I.base.tbls⟩,⟨_,hn',fun j y v' e1 e2 e3=>?_⟩,fun y c e=>?_,I.free,I.freeC,fun p hp=>?_,tracked ⟨oL,hoL,I.free⟩ hs,by simpa using I.len⟩ ⟨_,hs,.inl rfl⟩
  ·exact(hs.2 b (Nat.ne_of_lt (Nat.lt_of_lt_of_le (Heap.lt_size e) I.ok.above))).trans (I.base.keep b o e n hb hx)
  ·obtain⟨sl,e1⟩:=I.base.slot b o e n hb hx
   exact⟨sl,(hs.2 b (Nat.ne_of_lt (Nat.lt_of_lt_of_le (Heap.lt_size e) I.ok.above))).trans e1⟩
  ·obtain⟨o',e1⟩:=I.base.there b o e hx
   exact⟨o',(hs.2 b (Nat.ne_of_lt (Nat.lt_of_lt_of_le (Heap.lt_size e) I.ok.above))).trans e1⟩
  ·by_cases hj:j=i
   ·subst hj
    rw [hi]at e1; cases e1
    rw [List.getElem?_set_self hiσ]at e2
    cases e2
    exact⟨u,r,.inl ⟨hk,by simp⟩⟩
   ·rw [List.getElem?_set_ne (Ne.symm hj)]at e2
    obtain⟨u',r',q⟩:=hl j y v' e1 e2 e3
    refine⟨u',r',?_⟩
    rcases q with ⟨k,e⟩ | ⟨k,c,e,z⟩
    ·refine .inl ⟨k,?_⟩
     have:y≠x:=fun e=>hj (zf6 hN e1 (e▸hi))
     simp [this,e]
    ·exact .inr ⟨k,c,e,z.sameBut hs (cne y c e)⟩
  ·obtain⟨w',z⟩:=I.cell y c e
   exact⟨w',z.sameBut hs (cne y c e)⟩
  ·obtain⟨e,n,ne,nf,d⟩:=I.pin p hp
   exact⟨(hs.2 p.1 ne).trans e,n,ne,nf,d⟩
 ·have hfn:X.fn x=true:=by
   rcases hf with z | z
   ·exact z
   ·rw [z]at hk; cases hk
  obtain⟨c,hc⟩:=I.ok.has x (.inl hk)
  obtain⟨w',z⟩:=I.cell x c hc
  refine wpAny_storeName_cell I.ok.kind hk hc z (fun h' hc' hs=>?_)
  obtain⟨oc,hoc,hocd⟩:=id z
  refine h { s with heap:=h' } ⟨I.ok,I.os,I.bare,⟨fun b o e n hb hx=>?_,fun b o e n hb hx=>?_,I.base.free,fun b o e hx=>?_,I.base.tups,I.base.frzs,I.base.tbls⟩,⟨m,hn.sameBut hs (Ne.symm (cne x c hc)),fun j y v' e1 e2 e3=>?_⟩,fun y c' e=>?_,I.free,I.freeC,fun p hp=>?_,tracked ⟨oc,hoc,I.freeC x c hc⟩ hs,by simpa using I.len⟩ ⟨c,hs,.inr hc⟩
  ·exact(hs.2 b (Nat.ne_of_lt (Nat.lt_of_lt_of_le (Heap.lt_size e) (I.ok.cab x c hfn hc)))).trans (I.base.keep b o e n hb hx)
  ·obtain⟨sl,e1⟩:=I.base.slot b o e n hb hx
   exact⟨sl,(hs.2 b (Nat.ne_of_lt (Nat.lt_of_lt_of_le (Heap.lt_size e) (I.ok.cab x c hfn hc)))).trans e1⟩
  ·obtain⟨o',e1⟩:=I.base.there b o e hx
   exact⟨o',(hs.2 b (Nat.ne_of_lt (Nat.lt_of_lt_of_le (Heap.lt_size e) (I.ok.cab x c hfn hc)))).trans e1⟩
  ·by_cases hj:j=i
   ·subst hj
    rw [hi]at e1; cases e1
    rw [List.getElem?_set_self hiσ]at e2
    cases e2
    exact⟨u,r,.inr ⟨.inl hk,c,hc,hc'⟩⟩
   ·rw [List.getElem?_set_ne (Ne.symm hj)]at e2
    obtain⟨u',r',q⟩:=hl j y v' e1 e2 e3
    refine⟨u',r',?_⟩
    rcases q with q | ⟨k,c',e,z'⟩
    ·exact .inl q
    ·refine .inr ⟨k,c',e,z'.sameBut hs ?_⟩
     rintro rfl
     exact hj (zf6 hN e1 (I.ok.inj _ _ _ e hc▸hi))
  ·by_cases hcc:c'=c
   ·subst hcc; exact⟨_,hc'⟩
   ·obtain⟨w2,z2⟩:=I.cell y c' e
    exact⟨w2,z2.sameBut hs hcc⟩
  ·obtain⟨e,n,ne,nf,d⟩:=I.pin p hp
   refine⟨(hs.2 p.1 ?_).trans e,n,ne,nf,d⟩
   intro q
   rw [q,hoc]at e
   have q':oc=p.2:=Option.some.inj e
   exact d w' (by rw [<-q']; exact hocd)
theorem zdW{M:Model}{A:Around}{E:Value->Shared->Prop}{i:Nat}{x:Str}{v:V}{u:Value}{Q:Unit->Shared->Prop}(I:Inv X pins σ H s)(hN:X.N.Nodup)(hi:X.N[i]?=some x)(hx:Loc X.env.scope x)(r:zap v u)
  (h:∀ s',Inv X pins (σ.set i (some v)) H s'->Q () s') (hf:X.fn x=true\/X.env.scope.names.lookup x=some .local:=by first | exact .inl rfl | exact .inr rfl | assumption):wpAny M A (storeName X.env x u) Q E s :=
 zhh I hN hi hx r (fun s' I' _=>h s' I') hf
theorem Inv.call'{s':Shared}{ch:List Addr}(I:Inv X pins σ H s)(ho:s'.os=s.os)(u:Un (frs X.stack) ch H H' s.heap s'.heap)(hok:HOk X.prog X.w H' s'.heap)(hg:AllBare s'.gens)
  (hch:∀ b∈ch,(b∈X.ex\/X.s₀.heap.objs.size<=b)/\b≠X.env.locals/\(∀ x c,X.env.cells.lookup x=some c->c≠b)/\∀ p∈X.pn++pins,p.1≠b):Inv X pins σ H' s':=by
 obtain⟨h',g',d',t',o'⟩:=s'
 have e:o'=s.os:=ho
 subst e
 exact I.call (g':=g') (t':=t') (d':=d') u hok hg hch
end
abbrev XK:=Value->Option Addr->Hp->Prop
abbrev St:=List (Option V)
abbrev VK:=V->Hp->Prop
abbrev TE:=St->Hp->VK->Prop
abbrev TT:=St->Hp->(Bool->Hp->Prop)->Prop
abbrev TA:=St->Hp->(List V->Hp->Prop)->Prop
structure Ends where
 nx:St->Hp->Prop
 rt:VK
 bk:St->Hp->Prop:=fun _ _=>False
 ct:St->Hp->Prop:=fun _ _=>False
abbrev TS:=Ends->St->Hp->Prop
def EP(X:Cx)(pins:List (Addr×Obj))(σ:St)(Q:VK)(u:Value)(s':Shared):Prop:=∃ v H',Inv X pins σ H' s'/\zap v u/\Q v H'
def TP(X:Cx)(pins:List (Addr×Obj))(σ:St)(Q:Bool->Hp->Prop)(b:Bool)(s':Shared):Prop:=∃ H',Inv X pins σ H' s'/\Q b H'
def AP(X:Cx)(pins:List (Addr×Obj))(σ:St)(Q:List V->Hp->Prop)(us:List Value)(s':Shared):Prop:=∃ vs H',Inv X pins σ H' s'/\zac vs us/\Q vs H'
def SP(X:Cx)(pins:List (Addr×Obj))(D:Ends)(f:Flow)(s':Shared):Prop :=
 match f with
 | .next=>∃ σ' H',Inv X pins σ' H' s'/\D.nx σ' H'
 | .brk=>∃ σ' H',Inv X pins σ' H' s'/\D.bk σ' H'
 | .cont=>∃ σ' H',Inv X pins σ' H' s'/\D.ct σ' H'
 | .ret u=>∃ v σ' H',Inv X pins σ' H' s'/\zap v u/\D.rt v H'
def PE(X:Cx)(e:Expr)(t:TE):Prop :=
 ∀ (pins:List (Addr×Obj)) (s:Shared) (σ:St) (H:Hp) (Q:VK),Inv X pins σ H s->t σ H Q->wpAny (model X.prog X.w) X.A (eval e X.env) (EP X pins σ Q) X.xe s
def PT(X:Cx)(e:Expr)(t:TT):Prop :=
 ∀ (pins:List (Addr×Obj)) (s:Shared) (σ:St) (H:Hp) (Q:Bool->Hp->Prop),Inv X pins σ H s->t σ H Q->wpAny (model X.prog X.w) X.A (isTrue e X.env (eval e X.env)) (TP X pins σ Q) X.xe s
def PW(X:Cx)(e:Expr)(t:TT):Prop :=
 ∀ (whole:Sem Value) (pins:List (Addr×Obj)) (s:Shared) (σ:St) (H:Hp) (Q:Bool->Hp->Prop),Inv X pins σ H s->t σ H Q->wpAny (model X.prog X.w) X.A (isTrue e X.env whole) (TP X pins σ Q) X.xe s
theorem PW.pt{X:Cx}{e:Expr}{t:TT}(h:PW X e t):PT X e t:=h _
def PA(X:Cx)(es:List Expr)(t:TA):Prop :=
 ∀ (pos:Pos) (pins:List (Addr×Obj)) (s:Shared) (σ:St) (H:Hp) (Q:List V->Hp->Prop),Inv X pins σ H s->t σ H Q->wpAny (model X.prog X.w) X.A (spliced (backTo pos (starEach es X.env))) (AP X pins σ Q) X.xe s
def PS(X:Cx)(st:Stmt)(t:TS):Prop :=
 ∀ (pins:List (Addr×Obj)) (s:Shared) (σ:St) (H:Hp) (D:Ends),Inv X pins σ H s->t D σ H->wpAny (model X.prog X.w) X.A (exec st X.env) (SP X pins D) X.xe s
def PSs(X:Cx)(st:List Stmt)(t:TS):Prop :=
 ∀ (pins:List (Addr×Obj)) (s:Shared) (σ:St) (H:Hp) (D:Ends),Inv X pins σ H s->t D σ H->wpAny (model X.prog X.w) X.A (execs st X.env) (SP X pins D) X.xe s
theorem thn{α:Type}{t:Sem α}{Q Q':α->Shared->Prop}{M:Model}{A:Around}{E:Value->Shared->Prop}{s:Shared}(h:wpAny M A t Q E s)(hQ:∀ a s,Q a s->Q' a s):wpAny M A t Q' E s:=wpAny_mono h hQ fun _ _ x=>x
section
variable {X:Cx}
theorem bin{a b:Expr}{ta tb:TE}(ha:PE X a ta)(hb:PE X b tb){pins:List (Addr×Obj)}{s:Shared}{σ:St}{H:Hp}{R:V->V->Hp->Prop}(I:Inv X pins σ H s)(h:ta σ H fun x H1=>tb σ H1 fun y H2=>R x y H2)
  {α:Type} {Q:α->Shared->Prop} {f:Value->Value->Sem α}
  (hf:∀ v u s2 x y H2,Inv X pins σ H2 s2->zap x v->zap y u->R x y H2->wpAny (model X.prog X.w) X.A (f v u) Q X.xe s2) :
  wpAny (model X.prog X.w) X.A (eval a X.env) (fun v s₁=>wpAny (model X.prog X.w) X.A (eval b X.env) (fun u s₂=>wpAny (model X.prog X.w) X.A (f v u) Q X.xe s₂) X.xe s₁) X.xe s:=by
 refine thn (ha pins s σ H _ I h) fun v s1 ⟨x,H1,I1,r1,q1⟩=>?_
 refine thn (hb pins s1 σ H1 _ I1 q1) fun u s2 ⟨y,H2,I2,r2,q2⟩=>?_
 exact hf v u s2 x y H2 I2 r1 r2 q2
def zf7(i:Nat):TE:=fun σ H Q=>∃ v,σ[i]?=some (some v)/\Q v H
def tC(v:V):TE:=fun _ H Q=>Q v H
theorem zse{i:Nat}{x:Str}{pos:Pos}(hN:X.N[i]?=some x)(hv:Vis X.env.scope x)(hd:(x==("__debug__":Str))=false:=by decide)(hcd:(x==("__classdict__":Str))=false:=by decide):PE X (.Name x pos) (zf7 i):=by
 intro pins s σ H Q I h
 obtain⟨v,e,h⟩:=h
 obtain⟨m,hn,hl⟩:=I.loc
 obtain⟨u,r,l⟩:=hl i x v hN e hv
 have fin:EP X pins σ Q u s:=⟨v,H,I,r,h⟩
 rcases l with ⟨hk,hm⟩ | ⟨hk,c,hc,hcell⟩
 ·exact wpAny_Name (wpAny_loadName_local I.ok.kind hk hn hm fin) hd
 ·rcases hk with hk | hk
  ·exact wpAny_Name (wpAny_loadName_cell I.ok.kind hk hc hcell fin) hd
  ·exact wpAny_Name (wpAny_loadName_free I.ok.kind hk hc hcell fin hcd) hd
theorem zsf{i j pos}:PE X (.Constant (.int i) j pos) (tC (.int i)):=fun _ _ _ H _ I h=>wpAny_Constant_int ⟨.int i,H,I.tok _,⟨_,rfl⟩,h⟩
theorem zvx{b j pos}:PE X (.Constant (.bool b) j pos) (tC (.bl b)):=fun _ _ _ H _ I h=>Constant_bool ⟨.bl b,H,I,rfl,h⟩
theorem zsg{j pos}:PE X (.Constant .none j pos) (tC .non):=fun _ _ _ H _ I h=>Constant_none ⟨.non,H,I,rfl,h⟩
theorem zsh{x j pos}:PE X (.Constant (.str x) j pos) (tC (.str x)):=fun _ _ _ H _ I h=>Calls.Constant_str ⟨.str x,H,I.tok _,⟨_,rfl⟩,h⟩
def Gl(X:Cx)(x:Str):Prop:=X.env.kindOf x=some .globalImplicit
theorem zeL{E:Value->Shared->Prop}{pins:List (Addr×Obj)}{s:Shared}{σ:St}{H:Hp}{x:Str}{u:Value}{pos:Pos}{Q:Value->Shared->Prop}(I:Inv X pins σ H s)(hg:Gl X x)(hm:X.mg x=some u)(h:Q u s)
  (hd:(x==("__debug__":Str))=false:=by decide):wpAny (model X.prog X.w) X.A (eval (.Name x pos) X.env) Q E s :=
 Calls.Name_function_global I.ok.kind hg (Calls.loadGlobal_global (by rw [I.ok.glob]; exact I.mod.glob.keeps I.bk) hm h) hd
theorem zfb{E:Value->Shared->Prop}{pins:List (Addr×Obj)}{s:Shared}{σ:St}{H:Hp}{x:Str}{u:Value}{pos:Pos}{Q:Value->Shared->Prop}(I:Inv X pins σ H s)(hg:Gl X x)(hm:X.mg x=none)(hv:bootBuiltins x=some u)(h:Q u s)
  (hn:x ≠ "__name__":=by decide) (hd:(x==("__debug__":Str))=false:=by decide):wpAny (model X.prog X.w) X.A (eval (.Name x pos) X.env) Q E s:=by
 obtain⟨mb,h1,h2⟩:=I.mod.blt
 exact Calls.Name_function_global I.ok.kind hg (Calls.loadGlobal_builtin (by rw [I.ok.glob]; exact I.mod.glob.keeps I.bk) hm (by rw [I.ok.blt]; exact h1.keeps I.bk) ((h2 x hn).trans hv) h) hd
theorem zkJ{x:Str}{v:V}{u:Value}{pos:Pos}(hg:Gl X x)(hm:X.mg x=some u)(r:zap v u)(hd:(x==("__debug__":Str))=false:=by decide):PE X (.Name x pos) (tC v) :=
 fun _ _ _ H _ I h=>zeL I hg hm ⟨v,H,I,r,h⟩ hd
theorem zo8{x:Str}{v:V}{u:Value}{pos:Pos}(hg:Gl X x)(hm:X.mg x=none)(hv:bootBuiltins x=some u)(r:zap v u)(hn:x ≠ "__name__":=by decide)(hd:(x==("__debug__":Str))=false:=by decide):PE X (.Name x pos) (tC v) :=
 fun _ _ _ H _ I h=>zfb I hg hm hv ⟨v,H,I,r,h⟩ hn hd
variable {a b:Expr} {ta tb:TE} {pos:Pos}
def PC(X:Cx)(op:CmpOp)(a b:Expr)(t:TE):Prop :=
 ∀ (pins:List (Addr×Obj)) (s:Shared) (σ:St) (H:Hp) (Q:VK),Inv X pins σ H s->t σ H Q ->
  wpAny (model X.prog X.w) X.A (eval a X.env) (fun v s₁=>wpAny (model X.prog X.w) X.A (eval b X.env) (fun u s₂=>wpAny (model X.prog X.w) X.A (compareOp op v u) (EP X pins σ Q) X.xe s₂) X.xe s₁) X.xe s
theorem zmy(b:Expr){op:CmpOp}(h:op≠.In)(h2:op≠.NotIn):behindInMarks op b=false:=by
 have e1:(op==CmpOp.In)=false:=by cases op<;>first | rfl | exact absurd rfl h
 have e2:(op==CmpOp.NotIn)=false:=by cases op<;>first | rfl | exact absurd rfl h2
 cases b<;>simp [behindInMarks,e1,e2]
def tB(t:TE):TT:=fun σ H Q=>t σ H fun x H1=>∃ c,x=.bl c/\Q c H1
theorem zxH{op:CmpOp}{t:TE}(h:PC X op a b t)(h1:behindInMarks op b=false:=by first | exact zmy _ (by decide) (by decide) | rfl):PT X (.Compare a [op] [b] pos) (tB t):=by
 intro pins s σ H Q I hw
 refine wpAny_isTrue_Compare1 (thn (h pins s σ H _ I hw) fun v s1 h1=>thn h1 fun u s2 h2=>thn h2 fun c s3 ⟨x,H1,I1,r1,q1⟩=>?_) h1
 obtain⟨d,rfl,q⟩:=q1
 cases r1
 exact wpAny_truthy_bool ⟨H1,I1,q⟩
theorem zsi{e:Expr}{t:TE}(h:PE X e t)(he:∀ whole,isTrue e X.env whole=(do let v <-whole; standAt e.pos; holding [v] (truthy v)):=by intro _; rfl):PT X e (tB t):=by
 intro pins s σ H Q I hw
 refine isTrue_plain (thn (h pins s σ H _ I hw) fun v s1 ⟨x,H1,I1,r1,q1⟩=>?_) (he _)
 obtain⟨d,rfl,q⟩:=q1
 cases r1
 exact wpAny_truthy_bool ⟨H1,I1,q⟩
variable {tA tB':TT} {zcb:List Expr}
def zsj(t u:TT):TT:=fun σ H Q=>t σ H fun c H1=>if c=true then u σ H1 Q else Q false H1
def tOr(t u:TT):TT:=fun σ H Q=>t σ H fun c H1=>if c=true then Q true H1 else u σ H1 Q
def zsk(t:TT):TT:=fun σ H Q=>t σ H fun c H1=>Q (!c) H1
theorem zo9(ha:PT X a tA):PW X (.BoolOp .And [a] pos) tA:=by
 intro wh pins s σ H Q I h
 refine isTrue_and (thn (ha pins s σ H Q I h) fun c s1 e=>?_)
 cases c with
 | true=>exact isTrue_and_nil e
 | false=>exact e
theorem zsl(ha:PT X a tA):PW X (.BoolOp .Or [a] pos) tA:=by
 intro wh pins s σ H Q I h
 refine isTrue_or (thn (ha pins s σ H Q I h) fun c s1 e=>?_)
 cases c with
 | false=>exact isTrue_or_nil e
 | true=>exact e
theorem zsm(ha:PT X a tA)(hb:PW X (.BoolOp .And (b::zcb) pos) tB'):PW X (.BoolOp .And (a::b::zcb) pos) (zsj tA tB'):=by
 intro wh pins s σ H Q I h
 refine isTrue_and (thn (ha pins s σ H _ I h) fun c s1 ⟨H1,I1,q1⟩=>?_)
 cases c with
 | true=>exact hb wh pins s1 σ H1 Q I1 q1
 | false=>exact⟨H1,I1,q1⟩
theorem zvy(ha:PT X a tA)(hb:PW X (.BoolOp .Or (b::zcb) pos) tB'):PW X (.BoolOp .Or (a::b::zcb) pos) (tOr tA tB'):=by
 intro wh pins s σ H Q I h
 refine isTrue_or (thn (ha pins s σ H _ I h) fun c s1 ⟨H1,I1,q1⟩=>?_)
 cases c with
 | true=>exact⟨H1,I1,q1⟩
 | false=>exact hb wh pins s1 σ H1 Q I1 q1
theorem zsn(ha:PT X a tA):PT X (.UnaryOp .Not a pos) (zsk tA):=by
 intro pins s σ H Q I h
 exact isTrue_not (ha pins s σ H (fun c H1=>Q (!c) H1) I h)
def zrG(ta:TE):TE:=fun σ H Q=>ta σ H fun x H1=>∃ c,x=.bl c/\Q (.bl (!c)) H1
theorem zso(ha:PE X a ta):PE X (.UnaryOp .Not a pos) (zrG ta):=by
 intro pins s σ H Q I h
 refine UnaryOp_ (thn (ha pins s σ H _ I h) fun v s1 ⟨x,H1,I1,r1,q1⟩=>?_)
 obtain⟨c,rfl,q1⟩:=q1
 cases r1
 exact not_of (wpAny_truthy_bool ⟨.bl (!c),H1,I1,rfl,q1⟩)
end
def SqL(K:PySem.W.Frag)(H:Hp)(a:Addr)(xs:List V):Prop :=
 Rd H a (.lst xs) \/
  ∃ (o:Obj) (its:Array Value) (n:Nat),K.lookup a=some o/\o.cls=.type "list"/\o.dict=none/\o.data=.seq its n/\its.size<=sizeLine/\zac xs its.toList
def SqT(K:PySem.W.Frag)(H:Hp)(a:Addr)(xs:List V):Prop :=
 Rd H a (.tup xs) \/
  ∃ (o:Obj) (its:Array Value) (n:Nat),K.lookup a=some o/\o.cls=.type "tuple"/\o.data=.seq its n/\its.size<=sizeLine/\zac xs its.toList
def zxI:Value->Option V
 | .none=>some .non
 | .bool b=>some (.bl b)
 | .int i _=>some (.int i)
 | .str x _=>some (.str x)
 | .bytes b _=>some (.byt b)
 | .float b _=>some (.flt b)
 | .ref a=>some (.ref a)
 | .type n=>some (.ty n)
 | _=>none
theorem zap.abs{x:V}{u:Value}(r:zap x u):zxI u=some x:=by
 cases x with
 | non=>cases r; rfl
 | bl _=>cases r; rfl
 | int _=>obtain⟨t,rfl⟩:=r; rfl
 | str _=>obtain⟨t,rfl⟩:=r; rfl
 | byt _=>obtain⟨t,rfl⟩:=r; rfl
 | flt _=>obtain⟨t,rfl⟩:=r; rfl
 | ref _=>cases r; rfl
 | ty _=>cases r; rfl
theorem zap.inj{x y:V}{u:Value}(r:zap x u)(q:zap y u):x=y:=Option.some.inj (r.abs.symm.trans q.abs)
theorem zac.inj:∀ {xs ys:List V} {us:List Value},zac xs us->zac ys us->xs=ys
 | _,_,_,.nil,.nil=>rfl
 | _,_,_,.cons r t,.cons r' t'=>by rw [r.inj r',zac.inj t t']
section
variable {X:Cx} {pins:List (Addr×Obj)} {σ:St} {H:Hp} {s:Shared} {a:Addr} {xs ys:List V}
theorem SqL.of{K:PySem.W.Frag}(h:H a=some (.lst xs)):SqL K H a xs:=.inl (.inl h)
theorem SqT.of{K:PySem.W.Frag}(h:H a=some (.tup xs)):SqT K H a xs:=.inl (.inl h)
theorem Inv.list(I:Inv X pins σ H s)(h:SqL X.K H a xs):∃ its:List Value,zac xs its/\PlainL s.heap a its.toArray/\xs.length<=sizeLine:=by
 rcases h with h | ⟨o,its,n,hk,hc,hd,hs,hz,r⟩
 ·obtain⟨z,its,n,r,e⟩:=h.ok I.hok
  exact⟨its,r,⟨_,n,e,rfl,rfl,rfl⟩,z⟩
 ·refine⟨its.toList,r,⟨o,n,I.kIn a o hk,hc,hd,by simpa using hs⟩,?_⟩
  have e:=r.length
  simp only [Array.length_toList]at e
  omega
theorem Inv.tuple(I:Inv X pins σ H s)(h:SqT X.K H a xs):∃ its:List Value,zac xs its/\IsTup s.heap a its.toArray/\xs.length<=sizeLine:=by
 rcases h with h | ⟨o,its,n,hk,hc,hs,hz,r⟩
 ·obtain⟨z,its,r,p⟩:=h.ok I.hok
  exact⟨its,r,p,z⟩
 ·refine⟨its.toList,r,⟨o,I.kIn a o hk,hc,n,by simpa using hs⟩,?_⟩
  have e:=r.length
  simp only [Array.length_toList]at e
  omega
theorem Inv.list_inj(I:Inv X pins σ H s)(h:SqL X.K H a xs)(h':SqL X.K H a ys):xs=ys:=by
 obtain⟨its,r,⟨o,n,e,_,_,d⟩,_⟩:=I.list h
 obtain⟨its',r',⟨o',n',e',_,_,d'⟩,_⟩:=I.list h'
 rw [e]at e'; cases e'
 rw [d]at d'
 injection d' with d1 _
 have:its=its':=by simpa using congrArg Array.toList d1
 subst this
 exact r.inj r'
theorem Inv.tuple_inj(I:Inv X pins σ H s)(h:SqT X.K H a xs)(h':SqT X.K H a ys):xs=ys:=by
 obtain⟨its,r,⟨o,e,_,n,d⟩,_⟩:=I.tuple h
 obtain⟨its',r',⟨o',e',_,n',d'⟩,_⟩:=I.tuple h'
 rw [e]at e'; cases e'
 rw [d]at d'
 injection d' with d1 _
 have:its=its':=by simpa using congrArg Array.toList d1
 subst this
 exact r.inj r'
end
abbrev Cx.wish(X:Cx)(E:Value->Shared->Prop):Cx:={ X with xe:=E }
abbrev Cx.nox(X:Cx):Cx:=X.wish fun _ _=>False
theorem Cx.Ok.wish{X:Cx}(ok:X.Ok)(E:Value->Shared->Prop):(X.wish E).Ok :=
 ⟨ok.mod,ok.kind,ok.glob,ok.blt,ok.above,ok.inj,ok.has,ok.cab,ok.hd,ok.frames,ok.stk,ok.exf,ok.bs,ok.bsz,ok.noex,ok.exfs,ok.funs,ok.frf⟩
theorem Cx.Ok.unwish{X:Cx}{E:Value->Shared->Prop}(ok:(X.wish E).Ok):X.Ok :=
 ⟨ok.mod,ok.kind,ok.glob,ok.blt,ok.above,ok.inj,ok.has,ok.cab,ok.hd,ok.frames,ok.stk,ok.exf,ok.bs,ok.bsz,ok.noex,ok.exfs,ok.funs,ok.frf⟩
section
variable {X:Cx} {pins:List (Addr×Obj)} {σ:St} {H:Hp} {s:Shared} {E:Value->Shared->Prop}
theorem Inv.wish(I:Inv X pins σ H s)(E:Value->Shared->Prop):Inv (X.wish E) pins σ H s:=⟨I.ok.wish E,I.os,I.bare,I.base,I.loc,I.cell,I.free,I.freeC,I.pin,I.hok,I.len⟩
theorem Inv.unwish(I:Inv (X.wish E) pins σ H s):Inv X pins σ H s:=⟨I.ok.unwish,I.os,I.bare,I.base,I.loc,I.cell,I.free,I.freeC,I.pin,I.hok,I.len⟩
theorem SP.unwish{D:Ends}{f:Flow}{s':Shared}(h:SP (X.wish E) pins D f s'):SP X pins D f s':=by
 cases f with
 | next=>obtain⟨σ',H',I,q⟩:=h; exact⟨σ',H',I.unwish,q⟩
 | brk=>obtain⟨σ',H',I,q⟩:=h; exact⟨σ',H',I.unwish,q⟩
 | cont=>obtain⟨σ',H',I,q⟩:=h; exact⟨σ',H',I.unwish,q⟩
 | ret u=>obtain⟨v,σ',H',I,r,q⟩:=h; exact⟨v,σ',H',I.unwish,r,q⟩
theorem PSs.nox{st:List Stmt}{t:TS}(h:PSs X.nox st t):PSs X st t:=fun pins s σ H D I hw =>
 wpAny_mono (h pins s σ H D (I.wish _) hw) (fun _ _ q=>q.unwish) fun _ _ z=>False.elim z
end
section
variable {X:Cx} {st:Stmt} {zcb:List Stmt} {t u:TS} {e:Expr} {te:TE} {pos:Pos}
def zmz:TS:=fun D σ H=>D.nx σ H
def zsp(t u:TS):TS:=fun D σ H=>t { D with nx:=u D } σ H
theorem zpa:PSs X [] zmz:=fun _ _ σ H _ I h=>wpAny_execs_nil ⟨σ,H,I,h⟩
theorem zmA(h1:PS X st t)(h2:PSs X zcb u):PSs X (st::zcb) (zsp t u):=by
 intro pins s σ H D I h
 refine wpAny_execs_cons (thn (h1 pins s σ H { D with nx:=u D } I h) fun f s1 q=>?_)
 cases f with
 | next =>
  obtain⟨σ',H',I',q⟩:=q
  exact h2 pins s1 σ' H' D I' q
 | ret v=>exact q
 | brk=>exact q
 | cont=>exact q
theorem zkK(h1:PS X st t):PSs X [st] t:=by
 intro pins s σ H D I h
 refine wpAny_execs_cons (thn (h1 pins s σ H D I h) fun f s1 q=>?_)
 cases f with
 | next=>exact wpAny_execs_nil q
 | ret v=>exact q
 | brk=>exact q
 | cont=>exact q
theorem Inv.quiet{pins:List (Addr×Obj)}{σ:St}{H:Hp}{s:Shared}(I:Inv X pins σ H s):interactive X.env=false:=by simp [interactive,I.ok.kind]
def zmB(te:TE):TS:=fun D σ H=>te σ H fun _ H1=>D.nx σ H1
theorem zpb(he:PE X e te)(hs:swapsWith e none pos.line X.env=pure false:=by rfl):PS X (.Expr e pos) (zmB te):=by
 intro pins s σ H D I h
 exact wpAny_Expr_any (thn (he pins s σ H _ I h) fun v s1 ⟨x,H1,I1,r1,q1⟩=>⟨σ,H1,I1,q1⟩) I.quiet hs
def zpc(te:TE):TS:=fun D σ H=>te σ H D.rt
theorem zsq(he:PE X e te):PS X (.Return (some e) pos) (zpc te):=by
 intro pins s σ H D I h
 exact wpAny_Return_some (thn (he pins s σ H _ I h) fun v s1 ⟨x,H1,I1,r1,q1⟩=>⟨x,σ,H1,I1,r1,q1⟩)
def zsr(c:TT)(t u:TS):TS:=fun D σ H=>c σ H fun b H1=>if b=true then t D σ H1 else u D σ H1
theorem zvz{c:Expr}{a b:List Stmt}{tc:TT}(hc:PT X c tc)(ha:PSs X a t)(hb:PSs X b u):PS X (.If c a b pos) (zsr tc t u):=by
 intro pins s σ H D I h
 refine wpAny_If (thn (hc pins s σ H _ I h) fun d s1 ⟨H1,I1,q1⟩=>?_)
 cases d with
 | true=>exact ha pins s1 σ H1 D I1 q1
 | false=>exact hb pins s1 σ H1 D I1 q1
end
abbrev TG:=V->St->Hp->(St->Hp->Prop)->Prop
abbrev TGs:=List V->St->Hp->(St->Hp->Prop)->Prop
def PG(X:Cx)(target:Expr)(t:TG):Prop :=
 ∀ (pins:List (Addr×Obj)) (s:Shared) (σ:St) (H:Hp) (v:V) (u:Value) (Q:St->Hp->Prop),Inv X pins σ H s->zap v u->t v σ H Q ->
  wpAny (model X.prog X.w) X.A (assign target X.env u) (fun _ s'=>∃ σ' H',Inv X pins σ' H' s'/\Q σ' H') X.xe s
def PGs(X:Cx)(ts:List Expr)(t:TGs):Prop :=
 ∀ (pins:List (Addr×Obj)) (s:Shared) (σ:St) (H:Hp) (vs:List V) (us:List Value) (Q:St->Hp->Prop),Inv X pins σ H s->zac vs us->t vs σ H Q ->
  wpAny (model X.prog X.w) X.A (assignInOrder ((assignEach ts X.env).map (·.2)) us) (fun _ s'=>∃ σ' H',Inv X pins σ' H' s'/\Q σ' H') X.xe s
abbrev zpd:=V->V->V->Hp->(Hp->Prop)->Prop
def zss(X:Cx)(t:zpd):Prop :=
 ∀ (pins:List (Addr×Obj)) (s:Shared) (σ:St) (H:Hp) (o i v:V) (ov iv u:Value) (Q:Hp->Prop),Inv X pins σ H s->zap o ov->zap i iv->zap v u->t o i v H Q ->
  wpAny (model X.prog X.w) X.A (setItem ov iv u) (fun _ s'=>∃ H',Inv X pins σ H' s'/\Q H') X.xe s
section
variable {X:Cx} {pos:Pos}
def zcY(i:Nat):TG:=fun v σ H Q=>Q (σ.set i (some v)) H
theorem zpe{i:Nat}{x:Str}(hN:X.N.Nodup)(hi:X.N[i]?=some x)(hx:Loc X.env.scope x)(hf:X.fn x=true\/X.env.scope.names.lookup x=some .local:=by first | exact .inl rfl | exact .inr rfl | assumption):PG X (.Name x pos) (zcY i):=by
 intro pins s σ H v u Q I r h
 exact wpAny_assign_Name (zdW I hN hi hx r (fun s' I'=>⟨_,H,I',h⟩) hf)
def zpf:TGs:=fun vs σ H Q=>vs=[]/\Q σ H
def ziL(t:TG)(u:TGs):TGs:=fun vs σ H Q=>∃ v r,vs=v::r/\t v σ H fun σ' H'=>u r σ' H' Q
theorem zpg:PGs X [] zpf:=by
 intro pins s σ H vs us Q I r h
 obtain⟨e,h⟩:=h
 subst e
 cases r
 exact assignInOrder_nil ⟨σ,H,I,h⟩
theorem zmC{e:Expr}{es:List Expr}{t:TG}{u:TGs}(h1:PG X e t)(h2:PGs X es u)
  (hs:(assignEach (e::es) X.env).map (·.2)=assign e X.env::(assignEach es X.env).map (·.2):=by rfl):PGs X (e::es) (ziL t u):=by
 intro pins s σ H vs us Q I r h
 obtain⟨v,vr,e1,h⟩:=h
 subst e1
 cases r with
 | cons r rr =>
  rw [hs]
  refine assignInOrder_cons (thn (h1 pins s σ H _ _ _ I r h) fun _ s1 ⟨σ1,H1,I1,q1⟩=>?_)
  exact h2 pins s1 σ1 H1 _ _ Q I1 rr q1
def zph(K:PySem.W.Frag)(n:Nat)(t:TGs):TG:=fun v σ H Q=>∃ a xs,v=.ref a/\SqT K H a xs/\xs.length=n/\t xs σ H Q
theorem zst{es:List Expr}{k:Nat}{t:TGs}{n:Nat}(hc:X.calm=true)(h:PGs X es t)
  (hn:(assignEach es X.env).length=n:=by rfl) (hst:(assignEach es X.env).findIdx? (·.1)=none:=by rfl):PG X (.Tuple es k pos) (zph X.K n t):=by
 intro pins s σ H v u Q I r hw
 obtain⟨a,xs,e1,hq,hl,hw⟩:=hw
 subst e1
 cases r
 obtain⟨its,rv,ht,hz⟩:=I.tuple hq
 refine assign_Tuple_tuple (I.ok.hd hc) ht (by simp [hn,<-hl,rv.length]) hst fun h' hx=>?_
 have I1:Inv X pins σ H { s with heap:=h' }:=I.kept (t':=s.toks) fun b o e=>hx b o (Nat.ne_of_lt (Heap.lt_size e)) e
 exact h pins _ σ H xs _ Q I1 (by simpa using rv) hw
def zsu(to ti:TE)(t:zpd):TG:=fun v σ H Q=>to σ H fun o H1=>ti σ H1 fun i H2=>t o i v H2 fun H3=>Q σ H3
theorem zsv{o i:Expr}{to ti:TE}{t:zpd}(ho:PE X o to)(hi:PE X i ti)(hs:zss X t)
  (ha:∀ v,assign (.Subscript o i pos) X.env v=(do
   let ov <-holding [v] (eval o X.env)
   let iv <-holding [v,ov] (eval i X.env)
   standAt pos
   holding [v,ov,iv] (setItem ov iv v)
   release [v,ov,iv] []):=by intro _; rfl):PG X (.Subscript o i pos) (zsu to ti t):=by
 intro pins s σ H v u Q I r h
 rw [ha]
 refine wpAny_bind (wpAny_holding (thn (ho pins s σ H _ I h) fun ov s1 ⟨x,H1,I1,r1,q1⟩=>?_))
 refine wpAny_bind (wpAny_holding (thn (hi pins s1 σ H1 _ I1 q1) fun iv s2 ⟨y,H2,I2,r2,q2⟩=>?_))
 refine wpAny_bind (wpAny_standAt (wpAny_bind (wpAny_holding (thn (hs pins s2 σ H2 x y v ov iv u _ I2 r1 r2 r q2) fun _ s3 ⟨H3,I3,q3⟩=>?_))))
 exact wpAny_release ⟨σ,H3,I3,q3⟩
def zgX(te:TE)(g:TG):TS:=fun D σ H=>te σ H fun x H1=>g x σ H1 D.nx
theorem zsw{tg e:Expr}{te:TE}{g:TG}(he:PE X e te)(hg:PG X tg g)(hs:swapsWithSole [tg] e pos.line X.env=pure false:=by rfl)(hw:swappedStores [tg] e X.env=pure none:=by rfl)
  (h1:(assignEach [tg] X.env).map (·.2)=[assign tg X.env]:=by rfl):PS X (.Assign [tg] e pos) (zgX te g):=by
 intro pins s σ H D I h
 refine wpAny_Assign_stores (thn (he pins s σ H _ I h) fun v s1 ⟨x,H1,I1,r1,q1⟩=>?_) hs hw
 rw [h1]
 exact thn (hg pins s1 σ H1 x v _ I1 r1 q1) fun _ s2 q=>q
theorem zsx{i:Nat}{x:Str}{e:Expr}{te:TE}{pos':Pos}(hN:X.N.Nodup)(hi:X.N[i]?=some x)(hx:Loc X.env.scope x)(he:PE X e te)(hs:swapsWith e (some (.Name x pos')) pos.line X.env=pure false:=by rfl)(hf:X.fn x=true\/X.env.scope.names.lookup x=some .local:=by first | exact .inl rfl | exact .inr rfl | assumption) :
  PS X (.Assign [.Name x pos'] e pos) (zgX te (zcY i)):=by
 intro pins s σ H D I h
 refine wpAny_Assign_Name (thn (he pins s σ H _ I h) fun v s1 ⟨y,H1,I1,r1,q1⟩=>?_) hs
 exact zdW I1 hN hi hx r1 (fun s2 I2=>⟨_,H1,I2,q1⟩) hf
def zsy(i j:Nat)(ta:TA):TS:=fun D σ H=>ta σ H fun vs H1=>∃ v w,vs=[v,w]/\D.nx ((σ.set i (some v)).set j (some w)) H1
theorem zsz{i j:Nat}{x y:Str}{a b:Expr}{ta:TA}{px py pt:Pos}{kt k2 pt2}(hc:X.calm=true)(hN:X.N.Nodup)(hi:X.N[i]?=some x)(hj:X.N[j]?=some y)(hij:i≠j)
  (hx:X.env.scope.names.lookup x=some .local) (hy:X.env.scope.names.lookup y=some .local) (ha:PA X [a,b] ta)
  (hw:swappedStores [.Tuple [.Name x px,.Name y py] kt pt] (.Tuple [a,b] k2 pt2) X.env=pure (some [x,y]))
  (hs:swapsWithSole [.Tuple [.Name x px,.Name y py] kt pt] (.Tuple [a,b] k2 pt2) pos.line X.env=pure false:=by rfl) :
  PS X (.Assign [.Tuple [.Name x px,.Name y py] kt pt] (.Tuple [a,b] k2 pt2) pos) (zsy i j ta):=by
 intro pins s σ H D I h
 rw [exec_Assign_arm]
 refine wpAny_bind (wpAny_standAt ?_)
 rw [hs]
 refine wpAny_bind (wpAny_pure ?_)
 rw [if_neg (by decide)]
 refine wpAny_bind (Tuple_ (thn (ha _ pins s σ H _ I h) fun us s1 ⟨vs,H1,I1,r1,q1⟩=>?_))
 obtain⟨v,w,e1,q1⟩:=q1
 subst e1
 obtain⟨u1,u2,rfl,rv,rw'⟩:∃ u1 u2,us=[u1,u2]/\zap v u1/\zap w u2:=by
  cases r1 with
  | cons p q =>
   cases q with
   | cons p' q' =>
    cases q'
    exact⟨_,_,rfl,p,p'⟩
 refine wpAny_newObj_type ?_ (by show 2<=sizeLine; decide)
 have I2:Inv X pins σ H1 { s1 with heap:=s1.heap.push { cls:=.type "tuple",data:=.seq [u1,u2].toArray } }:=I1.kept (t':=s1.toks) fun b o e=>Heap.get?_push_of_some _ e
 rw [hw]
 refine wpAny_bind (wpAny_pure ?_)
 show wpAny (model X.prog X.w) X.A (do rule "assign.swapped-stores"; let items <-unpackItems (.ref s1.heap.objs.size) 2 none; assignInOrder [fun v=>bindName X.env y v,fun v=>bindName X.env x v] items.reverse; pure Flow.next) _ _ _
 refine wpAny_bind (wpAny_rule (wpAny_bind (unpackItems_tuple (items:=#[u1,u2]) (I.ok.hd hc) (IsTup.new s1.heap _) fun h' hx'=>?_)))
 have I3:=I2.kept (h':=h') (t':=s1.toks) fun b o e=>hx' b o (Nat.ne_of_lt (Heap.lt_size e)) e
 show wpAny _ _ (assignInOrder [fun v=>bindName X.env y v,fun v=>bindName X.env x v] [u2,u1] >>= fun _=>pure Flow.next) _ _ _
 refine wpAny_bind (assignInOrder_cons (wpAny_bindName (zdW I3 hN hj (.inl hy) rw' (fun s2 I4=>?_) (.inr hy))))
 refine assignInOrder_cons (wpAny_bindName (zdW I4 hN hi (.inl hx) rv (fun s3 I5=>assignInOrder_nil (wpAny_pure ?_)) (.inr hx)))
 rw [List.set_comm _ _ (Ne.symm hij)]at I5
 exact⟨_,H1,I5,q1⟩
end
section
variable {X:Cx} {pos:Pos}
def zjL(c:TT)(tb:TS):TS:=fun D σ H=>∃ W:Nat->St->Hp->Prop,(∃ m,W m σ H)/\∀ m σ H,W m σ H ->
 c σ H fun b H1=>if b=true then ∃ N:St->Hp->Prop,(∀ σ' H',N σ' H'->∃ m',m' < m/\W m' σ' H')/\tb { D with nx:=N,ct:=N,bk:=D.nx } σ H1 else D.nx σ H1
theorem zmD{c:Expr}{body:List Stmt}{tc:TT}{tb:TS}(hp:PassesOwn (model X.prog X.w) X.A X.env X.xe)(hc:PT X c tc)(hb:PSs X body tb):PS X (.While c body [] pos) (zjL tc tb):=by
 intro pins s σ H D I h
 obtain⟨W,⟨m0,w0⟩,turn⟩:=h
 refine wpAny_While (codeAny_whileLoop (fun n s'=>∃ σ' H',Inv X pins σ' H' s'/\W n σ' H') ?_ m0 ⟨σ,H,I,w0⟩)
 rintro n s1 ⟨σ1,H1,I1,w1⟩
 refine wpAny_passesOwn hp (thn (hc pins s1 σ1 H1 _ I1 (turn n σ1 H1 w1)) fun b s2 ⟨H2,I2,q2⟩=>?_)
 cases b with
 | true =>
  obtain⟨N,hN,q2⟩:=q2
  rw [if_pos rfl]
  refine wpAny_passesOwn hp (thn (hb pins s2 σ1 H2 _ I2 q2) fun f s3 q3=>?_)
  cases f with
  | next =>
   obtain⟨σ3,H3,I3,n3⟩:=q3
   obtain⟨m',hm,w3⟩:=hN σ3 H3 n3
   exact⟨m',hm,σ3,H3,I3,w3⟩
  | cont =>
   obtain⟨σ3,H3,I3,n3⟩:=q3
   obtain⟨m',hm,w3⟩:=hN σ3 H3 n3
   exact⟨m',hm,σ3,H3,I3,w3⟩
  | brk=>exact q3
  | ret v=>exact q3
 | false =>
  rw [if_neg Bool.false_ne_true]
  exact wpAny_execs_nil ⟨σ1,H2,I2,q2⟩
end
structure It where
 go:Nat->Hp->Prop
 yld:Nat->Hp->V->Hp->Prop
 stop:Nat->Hp->Prop
def zex(X:Cx)(pins:List (Addr×Obj))(H:Hp)(b:Addr):Prop :=
 H b=none/\b≠X.env.locals/\b∉X.fs/\(b∈X.ex\/X.s₀.heap.objs.size<=b)/\(∀ x c,X.env.cells.lookup x=some c->c≠b)/\∀ p∈X.pn++pins,p.1≠b
theorem Inv.fpOk{X:Cx}{pins:List (Addr×Obj)}{σ:St}{H H':Hp}{s:Shared}{b:Addr}(I:Inv X pins σ H s)(hb:s.heap.objs.size<=b)(hn:H' b=none):zex X pins H' b:=by
 refine⟨hn,Nat.ne_of_gt (Nat.lt_of_lt_of_le I.lt hb),I.nofs hb,.inr (Nat.le_trans I.sz hb),fun x c e z=>?_,fun p hp z=>?_⟩
 ·obtain⟨v,q⟩:=I.cell x c e
  exact absurd (Nat.lt_of_lt_of_le q.lt (by rw [z]; exact hb)) (Nat.lt_irrefl _)
 ·exact absurd (Nat.lt_of_lt_of_le (Heap.lt_size (I.pin p hp).1) (by rw [z]; exact hb)) (Nat.lt_irrefl _)
structure Turn (P:Program) (w:World) (K:PySem.W.Frag) (tg:Expr) (J:It) (fp:List Addr) (it:Addr) (tn:Nat->Heap->Prop):Prop where
 mem:it∈fp
 obj:∀ i h,tn i h->∀ b∈fp,∃ o,h.get? b=some o/\∀ v,o.data≠.cell v
 keep:∀ i h h',tn i h->(∀ b∈fp,∀ o,h.get? b=some o->h'.get? b=some o)->tn i h'
 item:∀ (X:Cx),X.prog=P->X.w=w->X.K=K->X.calm=true->∀ (i:Nat) (pins:List (Addr×Obj)) (s:Shared) (σ:St) (H:Hp) (E:Value->Shared->Prop),Inv X pins σ H s->(∀ b∈fp,zex X pins H b)->tn i s.heap->J.go i H ->
  wpAny (model P w) X.A (pyNext (.ref it)) (fun r s1=>∃ u,r=some u /\
   wpAny (model P w) X.A (letOwnedTupleGo tg (.ref it) u) (fun _ s2=>∃ x H',Inv X pins σ H' s2/\zap x u/\J.yld i H x H'/\tn (i+1) s2.heap/\∀ b∈fp,H' b=none) E s1) E s
 done:∀ (X:Cx),X.prog=P->X.w=w->X.K=K->X.calm=true->∀ (i:Nat) (pins:List (Addr×Obj)) (s:Shared) (σ:St) (H:Hp) (E:Value->Shared->Prop),Inv X pins σ H s->(∀ b∈fp,zex X pins H b)->tn i s.heap->J.stop i H ->
  wpAny (model P w) X.A (pyNext (.ref it)) (fun r s1=>r=none/\Inv X pins σ H s1) E s
 self:∀ (A:Around) (i:Nat) (s:Shared) (Q:Value->Shared->Prop) (E:Value->Shared->Prop),tn i s.heap->Q (.ref it) s->wpAny (model P w) A (pyIter (.ref it)) Q E s
abbrev TI:=St->Hp->(It->Hp->Prop)->Prop
def PIE(X:Cx)(pins:List (Addr×Obj))(σ:St)(tg:Expr)(R:It->Hp->Prop)(itv:Value)(s2:Shared):Prop :=
 ∃ (it:Addr) (fp:List Addr) (tn:Nat->Heap->Prop) (J:It) (H':Hp),itv=.ref it/\Inv X pins σ H' s2/\Turn X.prog X.w X.K tg J fp it tn/\tn 0 s2.heap/\(∀ b∈fp,zex X pins H' b)/\R J H'
def PI(X:Cx)(tg iter:Expr)(wi:TI):Prop :=
 ∀ (pins:List (Addr×Obj)) (s:Shared) (σ:St) (H:Hp) (R:It->Hp->Prop),Inv X pins σ H s->wi σ H R ->
  wpAny (model X.prog X.w) X.A (eval iter X.env) (fun v s1=>wpAny (model X.prog X.w) X.A (pyIter v) (PIE X pins σ tg R) X.xe s1) X.xe s
theorem zmE{M:Model}{A:Around}{E:Value->Shared->Prop}{s:Shared}{tg:Expr}{it:Addr}{u:Value}{o:Obj}{n:String}{vs:Array Value}{Q:Unit->Shared->Prop}(ho:s.heap.get? it=some o)(hc:o.cls=.type n)(hd:o.data=.fields vs)
  (hn:["enumerate", "zip", "dict_itemiterator", "dict_reverseitemiterator", "odict_iterator", "itertools.zip_longest", "itertools.pairwise"].contains n=false) (hQ:Q () s):wpAny M A (letOwnedTupleGo tg (.ref it) u) Q E s:=by
 unfold letOwnedTupleGo
 cases tg<;>first
  | exact wpAny_pure hQ
  | (cases u<;>first
    | exact wpAny_pure hQ
    | (refine wpAny_bind (wpAny_load ho ?_)
       rw [hc,hd]
       show wpAny M A (if(["enumerate", "zip", "dict_itemiterator", "dict_reverseitemiterator", "odict_iterator", "itertools.zip_longest", "itertools.pairwise"].contains n && vs[0]?==some (rawInt _))=true then _ else _) Q E s
       rw [if_neg (by intro h; rw [hn,Bool.false_and]at h; cases h)]
       exact wpAny_pure hQ))
def Itl(K:PySem.W.Frag)(a:Addr):It :=
 ⟨fun i H=>∃ xs x,SqL K H a xs/\xs[i]?=some x,fun i H x H'=>H'=H/\∀ xs,SqL K H a xs->xs[i]?=some x,fun i H=>∃ xs,SqL K H a xs/\xs.length<=i⟩
def Itr(lo:Int)(n:Nat):It:=⟨fun i _=>i < n,fun i H x H'=>H'=H/\x=.int (lo+i),fun i _=>n<=i⟩
theorem zlN{P:Program}{w:World}{K:PySem.W.Frag}{tg:Expr}(a it:Addr):Turn P w K tg (Itl K a) [it] it (fun i h=>h.IsListIter it a i) where
 mem:=by simp
 obj:=fun i h st b hb=>by
  have e:b=it:=by simpa using hb
  subst e
  obtain⟨o,e,c,d⟩:=st
  exact⟨o,e,fun v z=>by rw [d]at z; cases z⟩
 keep:=fun i h h' st k=>st.at fun o e=>k it (by simp) o e
 item:=by
  intro X hP hw hK hc i pins s σ H E I hf st hg
  subst hP hw hK
  obtain⟨xs,x,hq,hx⟩:=hg
  obtain⟨its,rv,p,hz⟩:=I.list hq
  obtain⟨u,hu,ru⟩:=rv.get hx
  obtain⟨f0,f1,f2,f3,f4,f5⟩:=hf it (by simp)
  refine wpAny_pyNext_list_item st p.isList (x:=u) (by simpa using hu) fun h' st' sb=>?_
  have I1:Inv X pins σ H { s with heap:=h' }:=I.turned (t':=s.toks) (fun b o hb e=>(sb.2 b hb).trans e) f0 f1 f3 f4 f5
  obtain⟨o,e,c,d⟩:=id st'
  exact⟨u,rfl,zmE (s:={ s with heap:=h' }) e c d (by decide) ⟨x,H,I1,ru,⟨rfl,fun ys hy=>by rw [I.list_inj hy hq]; exact hx⟩,st',fun b hb=>(hf b hb).1⟩⟩
 done:=by
  intro X hP hw hK hc i pins s σ H E I hf st hg
  subst hP hw hK
  obtain⟨xs,hq,hx⟩:=hg
  obtain⟨its,rv,p,hz⟩:=I.list hq
  obtain⟨f0,f1,f2,f3,f4,f5⟩:=hf it (by simp)
  have hl:=rv.length
  exact wpAny_pyNext_list_end (I.ok.hd hc) st p.isList (by simp; omega) fun h' eb=>⟨rfl,I.turned (t':=s.toks) (fun b o hb e=>eb b o hb e) f0 f1 f3 f4 f5⟩
 self:=fun _ _ _ _ _ st h=>wpAny_pyIter_listiter st h
theorem zjM{P:Program}{w:World}{K:PySem.W.Frag}{tg:Expr}(it:Addr)(lo:Int)(n:Nat):Turn P w K tg (Itr lo n) [it] it (fun i h=>IsRangeIter h it (lo+(i:Nat) * 1) ((n:Int) - (i:Nat)) 1) where
 mem:=by simp
 obj:=fun i h st b hb=>by
  have e:b=it:=by simpa using hb
  subst e
  exact⟨_,st,fun v z=>by
   have z':Data.fields _=Data.cell v:=z
   cases z'⟩
 keep:=fun i h h' st k=>k it (by simp) _ st
 item:=by
  intro X hP hw hK hc i pins s σ H E I hf st hg
  subst hP hw hK
  obtain⟨f0,f1,f2,f3,f4,f5⟩:=hf it (by simp)
  have W:=Walks.range (prog:=X.prog) (w:=X.w) (I.ok.hd hc) it lo 1 n
  refine W.item i s _ _ hg st fun v h' tk hv st' kk=>?_
  obtain⟨t,rfl⟩:=hv
  have I1:Inv X pins σ H { s with heap:=h',toks:=tk }:=I.turned (fun b o hb e=>kk b o (by simpa using hb) e) f0 f1 f3 f4 f5
  refine⟨_,rfl,zmE (s:={ s with heap:=h',toks:=tk }) (n := "range_iterator") st' rfl rfl (by decide) ⟨.int (lo+i),H,I1,⟨t,?_⟩,⟨rfl,rfl⟩,st',fun b hb=>(hf b hb).1⟩⟩
  rw [Int.mul_one]
 done:=by
  intro X hP hw hK hc i pins s σ H E I hf st hg
  subst hP hw hK
  obtain⟨f0,f1,f2,f3,f4,f5⟩:=hf it (by simp)
  exact wpAny_pyNext_range_end (I.ok.hd hc) st (by have:n<=i:=hg; omega) fun h' eb=>⟨rfl,I.turned (t':=s.toks) (fun b o hb e=>eb b o hb e) f0 f1 f3 f4 f5⟩
 self:=fun _ _ _ _ _ st h=>wpAny_pyIter_rangeiter st h
section
variable {X:Cx} {tg:Expr}
def zmF(K:PySem.W.Frag)(tl:TE):TI:=fun σ H R=>tl σ H fun x H1=>∃ a,x=.ref a/\(∃ xs,SqL K H1 a xs)/\R (Itl K a) H1
theorem zpi{l:Expr}{tl:TE}(hl:PE X l tl):PI X tg l (zmF X.K tl):=by
 intro pins s σ H R I h
 refine thn (hl pins s σ H _ I h) fun v s1 ⟨x,H1,I1,r1,q1⟩=>?_
 obtain⟨a,e,⟨xs,hq⟩,q⟩:=q1
 subst e
 cases r1
 obtain⟨its,rv,p,hz⟩:=I1.list hq
 refine wpAny_pyIter_list p.isList ?_
 refine⟨s1.heap.objs.size,[s1.heap.objs.size],_,_,H1,rfl,I1.kept (t':=s1.toks) fun b o e=>Heap.get?_push_of_some _ e,zlN a _,⟨_,Heap.get?_push_size _ rfl,rfl,rfl⟩,fun b hb=>?_,q⟩
 have e:b=s1.heap.objs.size:=by simpa using hb
 subst e
 exact I1.fpOk (Nat.le_refl _) (I1.hok.fresh (Nat.le_refl _))
theorem zmG{pins:List (Addr×Obj)}{σ:St}{H:Hp}{s:Shared}{R:It->Hp->Prop}{E:Value->Shared->Prop}{lo hi:Int}{t u v:Tok}{tk:Nat}(I:Inv X pins σ H s)(h1:-(2^62)<=lo)(h2:lo < 2^62)(h3:-(2^62)<=hi)(h4:hi < 2^62)
  (q:R (Itr lo (hi - lo).toNat) H):wpAny (model X.prog X.w) X.A (pyIter (.ref s.heap.objs.size)) (PIE X pins σ tg R) E { s with heap:=s.heap.push { cls:=.type "range",data:=.fields #[.int lo t,.int hi u,.int 1 v] },toks:=tk }:=by
 refine wpAny_pyIter_range (IsRange.new ..) (small_one h1 h2 h3 h4) ?_
 have I1:Inv X pins σ H { s with heap:=s.heap.push { cls:=.type "range",data:=.fields #[.int lo t,.int hi u,.int 1 v] },toks:=tk }:=I.kept fun b o e=>Heap.get?_push_of_some _ e
 refine⟨(s.heap.push { cls:=.type "range",data:=.fields #[.int lo t,.int hi u,.int 1 v] }).objs.size,[(s.heap.push { cls:=.type "range",data:=.fields #[.int lo t,.int hi u,.int 1 v] }).objs.size],_,_,H,rfl,
  I1.kept (t':=tk) fun b o e=>Heap.get?_push_of_some _ e,zjM _ lo (hi - lo).toNat,?_,fun b hb=>?_,q⟩
 ·have e1:lo+((0:Nat):Int) * 1=lo:=by simp
  have e2:(((hi - lo).toNat:Nat):Int) - ((0:Nat):Int)=Builtin.Range.rangeSize lo hi 1:=by rw [rangeSize_one]; split<;>omega
  show IsRangeIter _ _ (lo+((0:Nat):Int) * 1) ((((hi - lo).toNat:Nat):Int) - ((0:Nat):Int)) 1
  rw [e1,e2]
  exact Heap.get?_push_size _ rfl
 ·have e:b=(s.heap.push { cls:=.type "range",data:=.fields #[.int lo t,.int hi u,.int 1 v] }).objs.size:=by simpa using hb
  subst e
  exact I1.fpOk (Nat.le_refl _) (I1.hok.fresh (Nat.le_refl _))
def zmH(ta:TA):TI:=fun σ H R=>ta σ H fun vs H1=>∃ j:Int,vs=[.int j]/\-(2^62)<=j/\j < 2^62/\R (Itr 0 j.toNat) H1
theorem zlO{a:Expr}{ta:TA}{p pos:Pos}(hg:Gl X "range")(hm:X.mg "range"=none)(ha:PA X [a] ta)(hs:starEach [a] X.env=[(false,eval a X.env)]:=by rfl):PI X tg (.Call (.Name "range" p) [a] [] pos) (zmH ta):=by
 intro pins s σ H R I h
 refine Call_ (zfb I hg hm boot_range (PyProof.Rows.callWith_type1 (thn (ha pos pins s σ H _ I h) fun us s1 ⟨vs,H1,I1,r1,q1⟩=>?_) hs rfl))
 obtain⟨j,e,q1,q2,q⟩:=q1
 subst e
 cases r1 with
 | cons r rr =>
  cases rr
  obtain⟨t,rfl⟩:=r
  exact call_range_1 (zmG I1 (by omega) (by omega) q1 q2 (by simpa using q))
def zsA(wi:TI)(g:TG)(tb:TS):TS:=fun D σ H=>wi σ H fun J H1=>∃ W:Nat->Nat->St->Hp->Prop,(∃ m,W 0 m σ H1)/\∀ i m σ H,W i m σ H ->
 (J.stop i H/\D.nx σ H)\/(J.go i H/\∃ N:St->Hp->Prop,(∀ σ' H',N σ' H'->∃ m',m' < m/\W (i+1) m' σ' H')/\∀ x H',J.yld i H x H'->g x σ H' fun σ2 H2=>tb { D with nx:=N,ct:=N,bk:=D.nx } σ2 H2)
def zf8(fp:List Addr)(h:Heap):List (Addr×Obj):=fp.filterMap fun b=>(h.get? b).map fun o=>(b,o)
theorem zdw{fp:List Addr}{h:Heap}{b:Addr}{o:Obj}(hb:b∈fp)(e:h.get? b=some o):(b,o)∈zf8 fp h:=List.mem_filterMap.mpr ⟨b,hb,by rw [e]; rfl⟩
theorem zlP{fp:List Addr}{h:Heap}{p:Addr×Obj}(hp:p∈zf8 fp h):p.1∈fp/\h.get? p.1=some p.2:=by
 obtain⟨b,hb,e⟩:=List.mem_filterMap.mp hp
 cases q:h.get? b with
 | none=>rw [q]at e; cases e
 | some o =>
  rw [q]at e
  have e':(b,o)=p:=Option.some.inj e
  subst e'
  exact⟨hb,q⟩
theorem Inv.pinned{pins:List (Addr×Obj)}{σ:St}{H:Hp}{s:Shared}{fp:List Addr}(I:Inv X pins σ H s)(hf:∀ b∈fp,zex X pins H b)(ho:∀ b∈fp,∃ o,s.heap.get? b=some o/\∀ v,o.data≠.cell v):Inv X (pins++zf8 fp s.heap) σ H s :=
 I.pins_of fun p hp=>(List.mem_append.mp hp).elim (fun z=>I.pin p (List.mem_append_right _ z)) fun z=>by
  obtain⟨hb,e⟩:=zlP z
  obtain⟨f0,f1,f2,_⟩:=hf p.1 hb
  obtain⟨o,e',d⟩:=ho p.1 hb
  rw [e]at e'; cases e'
  exact⟨e,f0,f1,f2,d⟩
theorem Inv.unpinned{pins pl:List (Addr×Obj)}{σ:St}{H:Hp}{s:Shared}(I:Inv X (pins++pl) σ H s):Inv X pins σ H s:=I.pins_of fun p hp=>I.pin p (List.mem_append_right _ (List.mem_append_left _ hp))
theorem zsB{iter:Expr}{body:List Stmt}{wi:TI}{g:TG}{tb:TS}{pos:Pos}(hp:PassesOwn (model X.prog X.w) X.A X.env X.xe)(hc:X.calm=true)(hi:PI X tg iter wi)(hg:PG X tg g)(hb:PSs X body tb)
  (hs:∀ x,foldedSetIterable iter X.env x=pure x:=by intro _; rfl):PS X (.For tg iter body [] pos) (zsA wi g tb):=by
 intro pins s σ H D I h
 refine wpAny_For (thn (hi pins s σ H _ I h) fun v s1 h1=>thn h1 fun itv s2 h2=>?_) hs
 obtain⟨it,fp,tn,J,H2,e,I2,T,st2,f2,W,⟨m0,w0⟩,turn⟩:=h2
 subst e
 have stat:∀ {H':Hp},(∀ b∈fp,H' b=none)->∀ b∈fp,zex X pins H' b:=fun hn b hb=>⟨hn b hb,(f2 b hb).2⟩
 refine codeAny_forLoop_any (fun n s'=>∃ i σ' H',Inv X pins σ' H' s'/\tn i s'.heap/\(∀ b∈fp,H' b=none)/\W i n σ' H') ?_ m0 ⟨0,σ,H2,I2,st2,fun b hb=>(f2 b hb).1,w0⟩
 rintro n s3 ⟨i,σ3,H3,I3,st3,fr3,w3⟩
 rcases turn i n σ3 H3 w3 with ⟨stop,qn⟩ | ⟨go,N,hN,step⟩
 ·refine wpAny_passesOwn hp (thn (T.done X rfl rfl rfl hc i pins s3 σ3 H3 X.xe I3 (stat fr3) st3 stop) fun r s4 ⟨hr,I4⟩=>?_)
  subst hr
  exact wpAny_execs_nil ⟨σ3,H3,I4,qn⟩
 ·refine wpAny_passesOwn hp (thn (T.item X rfl rfl rfl hc i pins s3 σ3 H3 X.xe I3 (stat fr3) st3 go) fun r s4 ⟨u,hr,h4⟩=>?_)
  subst hr
  refine wpAny_passesOwn hp (thn h4 fun _ s5 ⟨x,H5,I5,r5,y5,st5,fr5⟩=>?_)
  have I5':=I5.pinned (stat fr5) (T.obj _ _ st5)
  refine wpAny_passesOwn hp (thn (hg _ s5 σ3 H5 x u _ I5' r5 (step x H5 y5)) fun _ s6 ⟨σ6,H6,I6,q6⟩=>?_)
  refine wpAny_passesOwn hp (thn (hb _ s6 σ6 H6 _ I6 q6) fun f s7 q7=>?_)
  have again:∀ {σ7:St} {H7:Hp},Inv X (pins++zf8 fp s5.heap) σ7 H7 s7->N σ7 H7->∃ m,m < n/\∃ i σ' H',Inv X pins σ' H' s7/\tn i s7.heap/\(∀ b∈fp,H' b=none)/\W i m σ' H':=fun{σ7 H7} I7 n7=>by
   obtain⟨m',hm,w7⟩:=hN σ7 H7 n7
   refine⟨m',hm,i+1,σ7,H7,I7.unpinned,T.keep _ _ _ st5 fun b hb o e=>(I7.pin (b,o) (List.mem_append_right _ (List.mem_append_right _ (zdw hb e)))).1,fun b hb=>?_,w7⟩
   obtain⟨o,e,d⟩:=T.obj _ _ st5 b hb
   exact(I7.pin (b,o) (List.mem_append_right _ (List.mem_append_right _ (zdw hb e)))).2.1
  cases f with
  | next=>obtain⟨σ7,H7,I7,n7⟩:=q7; exact again I7 n7
  | cont=>obtain⟨σ7,H7,I7,n7⟩:=q7; exact again I7 n7
  | brk=>obtain⟨σ7,H7,I7,q7⟩:=q7; exact⟨σ7,H7,I7.unpinned,q7⟩
  | ret v=>obtain⟨x7,σ7,H7,I7,r7,q7⟩:=q7; exact⟨x7,σ7,H7,I7.unpinned,r7,q7⟩
end
abbrev R2:=V->V->Hp->VK->Prop
def OpR(X:Cx)(f:Value->Value->Sem Value)(r:R2):Prop :=
 ∀ (pins:List (Addr×Obj)) (s:Shared) (σ:St) (H:Hp) (x y:V) (v u:Value) (Q:VK),Inv X pins σ H s->zap x v->zap y u->r x y H Q ->
  wpAny (model X.prog X.w) X.A (f v u) (EP X pins σ Q) X.xe s
def UnR(X:Cx)(f:Value->Sem Value)(r:V->Hp->VK->Prop):Prop :=
 ∀ (pins:List (Addr×Obj)) (s:Shared) (σ:St) (H:Hp) (x:V) (v:Value) (Q:VK),Inv X pins σ H s->zap x v->r x H Q ->
  wpAny (model X.prog X.w) X.A (f v) (EP X pins σ Q) X.xe s
def zb6(X:Cx)(f:Value)(r:List V->Hp->VK->Prop):Prop :=
 ∀ (pins:List (Addr×Obj)) (s:Shared) (σ:St) (H:Hp) (xs:List V) (us:List Value) (Q:VK),Inv X pins σ H s->zac xs us->r xs H Q ->
  wpAny (model X.prog X.w) X.A (call f us) (EP X pins σ Q) X.xe s
def zxJ(X:Cx)(r:V->Hp->(Bool->Hp->Prop)->Prop):Prop :=
 ∀ (pins:List (Addr×Obj)) (s:Shared) (σ:St) (H:Hp) (x:V) (v:Value) (Q:Bool->Hp->Prop),Inv X pins σ H s->zap x v->r x H Q ->
  wpAny (model X.prog X.w) X.A (truthy v) (TP X pins σ Q) X.xe s
def tOp(r:R2)(ta tb:TE):TE:=fun σ H Q=>ta σ H fun x H1=>tb σ H1 fun y H2=>r x y H2 Q
def tUn(r:V->Hp->VK->Prop)(ta:TE):TE:=fun σ H Q=>ta σ H fun x H1=>r x H1 Q
def rI(C:Int->Int->Prop)(g:Int->Int->V):R2:=fun x y H Q=>∃ i j,x=.int i/\y=.int j/\C i j/\Q (g i j) H
def rI0(g:Int->Int->V):R2:=fun x y H Q=>∃ i j,x=.int i/\y=.int j/\Q (g i j) H
def rU(g:Int->V):V->Hp->VK->Prop:=fun x H Q=>∃ i,x=.int i/\Q (g i) H
section
variable {X:Cx} {a b c:Expr} {ta tb tc:TE} {pos:Pos}
theorem zsC(ha:PE X a ta)(hb:PE X b tb){pins:List (Addr×Obj)}{s:Shared}{σ:St}{H:Hp}{R:V->V->Hp->Prop}(I:Inv X pins σ H s)
  (h:ta σ H fun x H1=>tb σ H1 fun y H2=>R x y H2) {Q:Value->Shared->Prop} {f:Value->Value->Sem Value}
  (hf:∀ v u s2 x y H2,Inv X pins σ H2 s2->zap x v->zap y u->R x y H2->wpAny (model X.prog X.w) X.A (f v u) Q X.xe s2) :
  wpAny (model X.prog X.w) X.A (eval a X.env) (fun v s₁=>wpAny (model X.prog X.w) X.A (eval b X.env) (fun u s₂=>wpAny (model X.prog X.w) X.A (f v u) Q X.xe s₂) X.xe s₁) X.xe s:=by
 refine thn (ha pins s σ H _ I h) fun v s1 ⟨x,H1,I1,r1,q1⟩=>?_
 refine thn (hb pins s1 σ H1 _ I1 q1) fun u s2 ⟨y,H2,I2,r2,q2⟩=>?_
 exact hf v u s2 x y H2 I2 r1 r2 q2
theorem zvA{op:Operator}{r:R2}(ho:OpR X (binaryOp op) r)(ha:PE X a ta)(hb:PE X b tb):PE X (.BinOp a op b pos) (tOp r ta tb):=by
 intro pins s σ H Q I h
 exact wpAny_BinOp (zsC ha hb I h fun v u s2 x y H2 I2 rx ry q=>ho pins s2 σ H2 x y v u Q I2 rx ry q)
theorem zvB{op:UnaryOp}{r:V->Hp->VK->Prop}(ho:UnR X (unaryOp op) r)(ha:PE X a ta):PE X (.UnaryOp op a pos) (tUn r ta):=by
 intro pins s σ H Q I h
 exact UnaryOp_ (thn (ha pins s σ H _ I h) fun v s1 ⟨x,H1,I1,r1,q1⟩=>ho pins s1 σ H1 x v Q I1 r1 q1)
theorem opI{f:Value->Value->Sem Value}{C:Int->Int->Prop}{g:Int->Int->Int}
  (rule:∀ (i j:Int) (t u:Tok) (s:Shared) (Q:Value->Shared->Prop) (E:Value->Shared->Prop),C i j->Q (.int (g i j) s.toks) { s with toks:=s.toks+1 }->wpAny (model X.prog X.w) X.A (f (.int i t) (.int j u)) Q E s) :
  OpR X f (rI C fun i j=>.int (g i j)):=by
 intro pins s σ H x y v u Q I rx ry h
 obtain⟨i,j,rfl,rfl,hc,q⟩:=h
 obtain⟨t,rfl⟩:=rx
 obtain⟨t',rfl⟩:=ry
 exact rule i j t t' s _ _ hc ⟨.int (g i j),H,I.tok _,⟨_,rfl⟩,q⟩
theorem zvC{f:Value->Value->Sem Value}{g:Int->Int->Int}
  (rule:∀ (i j:Int) (t u:Tok) (s:Shared) (Q:Value->Shared->Prop) (E:Value->Shared->Prop),Q (.int (g i j) s.toks) { s with toks:=s.toks+1 }->wpAny (model X.prog X.w) X.A (f (.int i t) (.int j u)) Q E s) :
  OpR X f (rI0 fun i j=>.int (g i j)):=by
 intro pins s σ H x y v u Q I rx ry h
 obtain⟨i,j,rfl,rfl,q⟩:=h
 obtain⟨t,rfl⟩:=rx
 obtain⟨t',rfl⟩:=ry
 exact rule i j t t' s _ _ ⟨.int (g i j),H,I.tok _,⟨_,rfl⟩,q⟩
theorem zsD{f:Value->Value->Sem Value}{g:Int->Int->Bool}
  (rule:∀ (i j:Int) (t u:Tok) (s:Shared) (Q:Value->Shared->Prop) (E:Value->Shared->Prop),Q (.bool (g i j)) s->wpAny (model X.prog X.w) X.A (f (.int i t) (.int j u)) Q E s) :
  OpR X f (rI0 fun i j=>.bl (g i j)):=by
 intro pins s σ H x y v u Q I rx ry h
 obtain⟨i,j,rfl,rfl,q⟩:=h
 obtain⟨t,rfl⟩:=rx
 obtain⟨t',rfl⟩:=ry
 exact rule i j t t' s _ _ ⟨.bl (g i j),H,I,rfl,q⟩
def zpj(i j:Int):Prop:=0<=j/\j<=1000000/\i.natAbs < 2^64
def zlQ(i j:Int):Prop:=(-(2^64) < i/\i < 2^64)\/(-(2^64) < j/\j < 2^64)
theorem zlQ.ok{i j:Int}(h:zlQ i j):IntMulOk i j:=by
 rcases h with ⟨h1,h2⟩ | ⟨h1,h2⟩
 ·exact .of_left (intBits_le_64 h1 h2)
 ·exact .of_right (intBits_le_64 h1 h2)
theorem zaH:OpR X (binaryOp .Add) (rI0 fun i j=>.int (i+j)):=zvC fun _ _ _ _ _ _ _ q=>add_int q
theorem zcz:OpR X (binaryOp .Sub) (rI0 fun i j=>.int (i - j)):=zvC fun _ _ _ _ _ _ _ q=>sub_int q
theorem zc3:OpR X (binaryOp .Mult) (rI zlQ fun i j=>.int (i * j)):=opI fun _ _ _ _ _ _ _ hc q=>mul_int q hc.ok
theorem zcL:OpR X (binaryOp .Mod) (rI (fun _ j=>0 < j) fun i j=>.int (i % j)):=opI fun i j _ _ _ _ _ hc q=>by
 have h1:(0:Int) < j:=hc
 exact mod_int' (by omega) (by rw [Int.fmod_eq_emod_of_nonneg i (by omega)]; exact q)
theorem zsE:OpR X (binaryOp .Pow) (rI zpj fun i j=>.int (i^j.toNat)):=opI fun _ _ _ _ _ _ _ hc q=>pow_int_small hc.1 hc.2.1 hc.2.2 q
theorem unI{f:Value->Sem Value}{g:Int->Int}
  (rule:∀ (i:Int) (t:Tok) (s:Shared) (Q:Value->Shared->Prop) (E:Value->Shared->Prop),Q (.int (g i) s.toks) { s with toks:=s.toks+1 }->wpAny (model X.prog X.w) X.A (f (.int i t)) Q E s) :
  UnR X f (rU fun i=>.int (g i)):=by
 intro pins s σ H x v Q I rx h
 obtain⟨i,rfl,q⟩:=h
 obtain⟨t,rfl⟩:=rx
 exact rule i t s _ _ ⟨.int (g i),H,I.tok _,⟨_,rfl⟩,q⟩
theorem zfc:UnR X (unaryOp .USub) (rU fun i=>.int (-i)):=unI fun _ _ _ _ _ q=>neg_int q
end
def zsF:V->V->Bool
 | .non,.non=>true | .non,.int _=>true | .int _,.non=>true | .non,.bl _=>true | .bl _,.non=>true | .non,.str _=>true | .str _,.non=>true
 | .int _,.int _=>true | .bl _,.bl _=>true | .str _,.str _=>true | .byt _,.byt _=>true
 | .int _,.str _=>true | .str _,.int _=>true | .bl _,.str _=>true | .str _,.bl _=>true
 | _,_=>false
def rEq:R2:=fun x y H Q=>zsF x y=true/\Q (.bl (decide (x=y))) H
def rNe:R2:=fun x y H Q=>zsF x y=true/\Q (.bl (!decide (x=y))) H
theorem zkL{i j:Int}:decide (V.int i=V.int j)=(i==j):=by
 rw [Bool.eq_iff_iff]
 simp
theorem zmI{i j:Bool}:decide (V.bl i=V.bl j)=(i==j):=by
 rw [Bool.eq_iff_iff]
 simp
theorem zkM{i j:Str}:decide (V.str i=V.str j)=(i==j):=by
 rw [Bool.eq_iff_iff]
 simp
theorem zkN{i j:Array UInt8}:decide (V.byt i=V.byt j)=(i.toList==j.toList):=by
 rw [Bool.eq_iff_iff]
 cases i
 cases j
 simp
section
variable {X:Cx} {a b c:Expr} {ta tb tc:TE} {pos:Pos}
theorem zaK{pins:List (Addr×Obj)}{σ:St}{H:Hp}{s:Shared}{Q:VK}{k k':Bool}(I:Inv X pins σ H s)(q:Q (.bl k) H)(e:k=k'):EP X pins σ Q (.bool k') s:=by
 subst e
 exact⟨.bl k,H,I,rfl,q⟩
theorem za5:OpR X (compareOp .Eq) rEq:=by
 intro pins s σ H x y v u Q I rx ry h
 obtain⟨hs,q⟩:=h
 cases x with
 | non =>
  cases rx
  cases y with
  | non=>cases ry; exact PySem.EqNone.eq_none_none (zaK I q (by simp))
  | bl j=>cases ry; exact PySem.EqNone.eq_none_bool (zaK I q (by simp))
  | int j=>obtain⟨t',rfl⟩:=ry; exact PySem.EqNone.eq_none_int (zaK I q (by simp))
  | str j=>obtain⟨t',rfl⟩:=ry; exact PySem.EqNone.eq_none_str (zaK I q (by simp))
  | _=>exact absurd (show false=true from hs) Bool.false_ne_true
 | bl i =>
  cases rx
  cases y with
  | non=>cases ry; exact PySem.EqNone.eq_bool_none (zaK I q (by simp))
  | bl j=>cases ry; exact eq_bool (zaK I q zmI)
  | str j=>obtain⟨t',rfl⟩:=ry; exact PySem.EqMixed.eq_bool_str (zaK I q (by simp))
  | _=>exact absurd (show false=true from hs) Bool.false_ne_true
 | int i =>
  obtain⟨t,rfl⟩:=rx
  cases y with
  | non=>cases ry; exact PySem.EqNone.eq_int_none (zaK I q (by simp))
  | int j=>obtain⟨t',rfl⟩:=ry; exact eq_int (zaK I q zkL)
  | str j=>obtain⟨t',rfl⟩:=ry; exact PySem.EqMixed.eq_int_str (zaK I q (by simp))
  | _=>exact absurd (show false=true from hs) Bool.false_ne_true
 | str i =>
  obtain⟨t,rfl⟩:=rx
  cases y with
  | non=>cases ry; exact PySem.EqNone.eq_str_none (zaK I q (by simp))
  | bl j=>cases ry; exact PySem.EqMixed.eq_str_bool (zaK I q (by simp))
  | int j=>obtain⟨t',rfl⟩:=ry; exact PySem.EqMixed.eq_str_int (zaK I q (by simp))
  | str j=>obtain⟨t',rfl⟩:=ry; exact eq_str (zaK I q zkM)
  | _=>exact absurd (show false=true from hs) Bool.false_ne_true
 | byt i =>
  obtain⟨t,rfl⟩:=rx
  cases y with
  | byt j=>obtain⟨t',rfl⟩:=ry; exact PySem.W.eq_bytes (zaK I q zkN)
  | _=>exact absurd (show false=true from hs) Bool.false_ne_true
 | _=>cases y<;>exact absurd (show false=true from hs) Bool.false_ne_true
theorem zf9:OpR X (compareOp .NotEq) rNe:=by
 intro pins s σ H x y v u Q I rx ry h
 obtain⟨hs,q⟩:=h
 cases x with
 | non =>
  cases rx
  cases y with
  | non=>cases ry; exact PySem.EqNone.ne_none_none (zaK I q (by simp))
  | bl j=>cases ry; exact PySem.EqNone.ne_none_bool (zaK I q (by simp))
  | int j=>obtain⟨t',rfl⟩:=ry; exact PySem.EqNone.ne_none_int (zaK I q (by simp))
  | str j=>obtain⟨t',rfl⟩:=ry; exact PySem.EqNone.ne_none_str (zaK I q (by simp))
  | _=>exact absurd (show false=true from hs) Bool.false_ne_true
 | bl i =>
  cases rx
  cases y with
  | non=>cases ry; exact PySem.EqNone.ne_bool_none (zaK I q (by simp))
  | bl j=>cases ry; exact ne_bool (zaK I q (congrArg not zmI))
  | str j=>obtain⟨t',rfl⟩:=ry; exact PySem.EqMixed.ne_bool_str (zaK I q (by simp))
  | _=>exact absurd (show false=true from hs) Bool.false_ne_true
 | int i =>
  obtain⟨t,rfl⟩:=rx
  cases y with
  | non=>cases ry; exact PySem.EqNone.ne_int_none (zaK I q (by simp))
  | int j=>obtain⟨t',rfl⟩:=ry; exact ne_int (zaK I q (congrArg not zkL))
  | str j=>obtain⟨t',rfl⟩:=ry; exact PySem.EqMixed.ne_int_str (zaK I q (by simp))
  | _=>exact absurd (show false=true from hs) Bool.false_ne_true
 | str i =>
  obtain⟨t,rfl⟩:=rx
  cases y with
  | non=>cases ry; exact PySem.EqNone.ne_str_none (zaK I q (by simp))
  | bl j=>cases ry; exact PySem.EqMixed.ne_str_bool (zaK I q (by simp))
  | int j=>obtain⟨t',rfl⟩:=ry; exact PySem.EqMixed.ne_str_int (zaK I q (by simp))
  | str j=>obtain⟨t',rfl⟩:=ry; exact ne_str (zaK I q (congrArg not zkM))
  | _=>exact absurd (show false=true from hs) Bool.false_ne_true
 | byt i =>
  obtain⟨t,rfl⟩:=rx
  cases y with
  | byt j=>obtain⟨t',rfl⟩:=ry; exact PySem.W.ne_bytes (zaK I q (congrArg not zkN))
  | _=>exact absurd (show false=true from hs) Bool.false_ne_true
 | _=>cases y<;>exact absurd (show false=true from hs) Bool.false_ne_true
theorem zga:OpR X (compareOp .Lt) (rI0 fun i j=>.bl (decide (i < j))):=zsD fun _ _ _ _ _ _ _ q=>lt_int q
theorem zhi:OpR X (compareOp .Gt) (rI0 fun i j=>.bl (decide (j < i))):=zsD fun _ _ _ _ _ _ _ q=>gt_int q
theorem zvD:OpR X (compareOp .GtE) (rI0 fun i j=>.bl (decide (j<=i))):=zsD fun _ _ _ _ _ _ _ q=>ge_int q
theorem zP(b:Expr){op:CmpOp}(h:op≠.In:=by decide)(h2:op≠.NotIn:=by decide):behindInMarks op b=false:=by
 have e1:(op==CmpOp.In)=false:=by cases op<;>first | rfl | exact absurd rfl h
 have e2:(op==CmpOp.NotIn)=false:=by cases op<;>first | rfl | exact absurd rfl h2
 cases b<;>simp [behindInMarks,e1,e2]
theorem zpk{op:CmpOp}{r:R2}(ho:OpR X (compareOp op) r)(ha:PE X a ta)(hb:PE X b tb)(hm:behindInMarks op b=false):PE X (.Compare a [op] [b] pos) (tOp r ta tb):=by
 intro pins s σ H Q I h
 exact wpAny_Compare1 (zsC ha hb I h fun v u s2 x y H2 I2 rx ry q=>ho pins s2 σ H2 x y v u Q I2 rx ry q) hm
def zmJ(t:TE):TT:=fun σ H Q=>t σ H fun x H'=>∃ k,x=.bl k/\Q k H'
theorem zpl{op:CmpOp}{r:R2}(ho:OpR X (compareOp op) r)(ha:PE X a ta)(hb:PE X b tb)(hm:behindInMarks op b=false):PT X (.Compare a [op] [b] pos) (zmJ (tOp r ta tb)):=by
 intro pins s σ H Q I h
 refine wpAny_isTrue_Compare1 (thn (ha pins s σ H _ I h) fun v s1 ⟨x,H1,I1,r1,q1⟩=>thn (hb pins s1 σ H1 _ I1 q1) fun u s2 ⟨y,H2,I2,r2,q2⟩ =>
  thn (ho pins s2 σ H2 x y v u _ I2 r1 r2 q2) fun c s3 ⟨z,H3,I3,r3,k,e,q3⟩=>?_) hm
 subst e
 cases r3
 exact wpAny_truthy_bool ⟨H3,I3,q3⟩
def zsG(K:PySem.W.Frag)(x:V)(H:Hp)(k:Bool):Prop :=
 match x with
 | .non=>k=false
 | .bl b=>k=b
 | .int i=>k=(i != 0)
 | .str y=>y.length<=sizeLine/\k=((y.length:Int) != 0)
 | .byt y=>y.size<=sizeLine/\k=((y.size:Int) != 0)
 | .ref p=>(∃ xs,SqL K H p xs/\k=!xs.isEmpty)\/(∃ xs,SqT K H p xs/\k=!xs.isEmpty)\/∃ kvs,H p=some (.dK kvs)/\k=!kvs.isEmpty
 | _=>False
theorem zjN{κ:Type}{kvs:List (κ×V)}{vs:List (κ×Value)}(r:KV kvs vs):(!vs.isEmpty)=!kvs.isEmpty:=by
 cases r<;>rfl
theorem zgb{xs:List V}{its:List Value}(r:zac xs its):(!its.toArray.isEmpty)=!xs.isEmpty:=by
 cases r<;>simp
theorem zey:(sizeLine:Nat) < 2^63:=by rw [sizeLine_eq]; decide
theorem zsH:zxJ X (fun x H Q=>∃ k,zsG X.K x H k/\Q k H):=by
 intro pins s σ H x v Q I rx h
 obtain⟨k,e,q⟩:=h
 have hl:=zey
 have hs:sizeLine=16777216:=sizeLine_eq
 cases x with
 | non =>
  cases rx
  have e':k=false:=e
  subst e'
  exact truthy_none ⟨H,I,q⟩
 | bl b =>
  cases rx
  have e':k=b:=e
  subst e'
  exact wpAny_truthy_bool ⟨H,I,q⟩
 | int i =>
  obtain⟨t,rfl⟩:=rx
  have e':k=(i != 0):=e
  subst e'
  exact PySem.P.truthy_int ⟨H,I,q⟩
 | str y =>
  obtain⟨t,rfl⟩:=rx
  obtain⟨hy,e'⟩:y.length<=sizeLine/\k=((y.length:Int) != 0):=e
  subst e'
  exact PySem.P.truthy_str (by omega) ⟨H,I.tok _,q⟩
 | byt y =>
  obtain⟨t,rfl⟩:=rx
  obtain⟨hy,e'⟩:y.size<=sizeLine/\k=((y.size:Int) != 0):=e
  subst e'
  exact PySem.W.truthy_bytes (by omega) ⟨H,I.tok _,q⟩
 | ref p =>
  cases rx
  have e':(∃ xs,SqL X.K H p xs/\k=!xs.isEmpty)\/(∃ xs,SqT X.K H p xs/\k=!xs.isEmpty)\/∃ kvs,H p=some (.dK kvs)/\k=!kvs.isEmpty:=e
  rcases e' with ⟨xs,hx,e'⟩ | ⟨xs,hx,e'⟩ | ⟨kvs,hx,e'⟩
  ·subst e'
   obtain⟨its,r,pl,hz⟩:=I.list hx
   have hlen:=r.length
   exact wpAny_truthy_list pl.isList (by simp only [List.size_toArray]; omega) ⟨H,I.tok _,by rw [zgb r]; exact q⟩
  ·subst e'
   obtain⟨its,r,pl,hz⟩:=I.tuple hx
   have hlen:=r.length
   exact truthy_tuple pl (by simp only [List.size_toArray]; omega) ⟨H,I.tok _,by rw [zgb r]; exact q⟩
  ·subst e'
   obtain⟨hz,hS,vs,r,m⟩:kvs.length<=sizeLine/\(p==sysModules)=false/\∃ vs,KV kvs vs/\s.heap.DictOf (za6 X.prog X.w) p vs:=I.hok p _ hx
   have hlen:kvs.length=vs.length:=Paired.length r
   exact wpAny_truthy_dict hS m (by omega) ⟨H,I.tok _,by rw [zjN r]; exact q⟩
 | _=>exact(show False from e).elim
theorem zmK(ha:PE X a ta)(he:∀ whole,isTrue a X.env whole=(do let v <-whole; standAt a.pos; holding [v] (truthy v))) :
  PT X a (fun σ H Q=>ta σ H fun x H'=>∃ k,zsG X.K x H' k/\Q k H'):=by
 intro pins s σ H Q I h
 exact isTrue_plain (thn (ha pins s σ H _ I h) fun v s1 ⟨x,H1,I1,r1,q1⟩=>zsH pins s1 σ H1 x v Q I1 r1 q1) (he _)
theorem zdx:OpR X (binaryOp .Add) (fun x y H Q=>∃ i j,x=.str i/\y=.str j/\i.length+j.length<=sizeLine/\Q (.str (i++j)) H):=by
 intro pins s σ H x y v u Q I rx ry h
 obtain⟨i,j,rfl,rfl,hz,q⟩:=h
 obtain⟨t,rfl⟩:=rx
 obtain⟨t',rfl⟩:=ry
 exact add_str (fun t' tk=>⟨.str (i++j),H,I.tok _,⟨_,rfl⟩,q⟩) hz
theorem zeM{x:V}{us:List Value}(r:zac [x] us):∃ u,us=[u]/\zap x u:=by
 cases r with
 | cons r1 r2=>cases r2; exact⟨_,rfl,r1⟩
theorem ziM{x y:V}{us:List Value}(r:zac [x,y] us):∃ u w',us=[u,w']/\zap x u/\zap y w':=by
 cases r with
 | cons r1 r2 =>
  cases r2 with
  | cons r3 r4=>cases r4; exact⟨_,_,rfl,r1,r3⟩
theorem zdX:zb6 X (.builtin "abs") (fun xs H Q=>∃ i,xs=[.int i]/\Q (.int (if i < 0 then -i else i)) H):=by
 intro pins s σ H xs us Q I r h
 obtain⟨i,rfl,q⟩:=h
 obtain⟨u,rfl,t,rfl⟩:=zeM r
 exact call_abs_int fun u tk=>⟨.int (if i < 0 then -i else i),H,I.tok _,⟨_,rfl⟩,q⟩
theorem zlR(hc:X.calm=true):zb6 X (.builtin "max") (fun xs H Q=>∃ i j,xs=[.int i,.int j]/\Q (.int (if j > i then j else i)) H):=by
 intro pins s σ H xs us Q I r h
 obtain⟨i,j,rfl,q⟩:=h
 obtain⟨u,w',rfl,⟨t,rfl⟩,⟨t',rfl⟩⟩:=ziM r
 refine max_two_ints (I.ok.hd hc) fun h' tk k=>⟨_,H,I.kept k,?_,q⟩
 by_cases hj:j > i
 ·rw [if_pos hj,if_pos hj]; exact⟨_,rfl⟩
 ·rw [if_neg hj,if_neg hj]; exact⟨_,rfl⟩
theorem zfd:zb6 X (.type "int") (fun xs H Q=>(∃ i,xs=[.int i]/\Q (.int i) H)\/∃ k,xs=[.bl k]/\Q (.int (if k then 1 else 0)) H):=by
 intro pins s σ H xs us Q I r h
 rcases h with ⟨i,rfl,q⟩ | ⟨k,rfl,q⟩
 ·obtain⟨u,rfl,t,rfl⟩:=zeM r
  exact call_int_int ⟨.int i,H,I,⟨_,rfl⟩,q⟩
 ·obtain⟨u,rfl,r1⟩:=zeM r
  cases r1
  exact call_int_bool ⟨.int (if k then 1 else 0),H,I.tok _,⟨_,rfl⟩,q⟩
end
structure ObjM (h:Heap) (x dx C:Addr) (mA:Str->Option Value):Prop where
 obj:h.get? x=some (PySem.W.instObj C dx)
 ns:h.Ns1 dx mA
 ne:dx≠x
theorem zfe{h:Heap}{dx:Addr}{mA:Str->Option Value}(n:h.Ns1 dx mA):∃ od,h.get? dx=some od/\∀ name,PySem.W.lookIn name od=some (mA name):=by
 obtain⟨o,es,ep,ho,hd,hk,_,hm⟩:=n
 refine⟨o,ho,fun name=>?_⟩
 have e:=hm name
 unfold nsFind findBy at e
 rw [<-Array.find?_toList]at e
 unfold PySem.W.lookIn
 rw [hd]
 dsimp only
 split
 ·rename_i y q
  rw [q]at e
  exact congrArg some e
 ·rename_i q
  rw [q]at e
  have a:es.toList.any (·.refKey)=false:=by
   rw [List.any_eq_false]
   intro y hy
   obtain⟨z,t,hkey⟩:=hk y (Array.mem_toList_iff.mp hy)
   simp [DictEntry.refKey,hkey]
  have a':¬es.toList.any (·.refKey)=true:=by rw [a]; exact Bool.false_ne_true
  rw [if_neg a']
  exact congrArg some e
theorem ObjM.look{h:Heap}{x dx C:Addr}{mA:Str->Option Value}(I:ObjM h x dx C mA):∃ od,PySem.W.InstAt h x (PySem.W.instObj C dx) C (some od)/\∀ name,PySem.W.lookIn name od=some (mA name) :=
 let ⟨od,ho,hl⟩:=zfe I.ns
 ⟨od,⟨I.obj,rfl,rfl,ho⟩,hl⟩
section
variable {prog:Program} {w:World} {A:Around} {E:Value->Shared->Prop} {s:Shared} {K:PySem.W.Frag} {x dx C f:Addr} {mA:Str->Option Value} {name:Str} {v:Value}
end
theorem zew.some_of{v:V}{o:Option Value}(r:zew (some v) o):∃ u,o=some u/\zap v u:=by
 cases o with
 | none=>exact(show False from r).elim
 | some u=>exact⟨u,rfl,r⟩
theorem zlS{v:V}{u:Value}(r:zap v u):PySem.W.handedIn u=true:=by
 cases v with
 | non=>cases(show u=Value.none from r); rfl
 | bl b=>cases(show u=Value.bool b from r); rfl
 | int i=>obtain⟨t,e⟩:=(show ∃ t,u=Value.int i t from r); cases e; rfl
 | str x=>obtain⟨t,e⟩:=(show ∃ t,u=Value.str x t from r); cases e; rfl
 | byt b=>obtain⟨t,e⟩:=(show ∃ t,u=Value.bytes b t from r); cases e; rfl
 | flt b=>obtain⟨t,e⟩:=(show ∃ t,u=Value.float b t from r); cases e; rfl
 | ref a=>cases(show u=Value.ref a from r); rfl
 | ty n=>cases(show u=Value.type n from r); rfl
section
variable {P:Program} {w:World} {H H':Hp} {h h':Heap} {a C dx:Addr} {fs fs':List (Str×V)}
theorem zpm(hok:HOk P w H h)(e:H a=some (.ins C dx fs)):∃ mA,ObjM h a dx C mA/\(∀ f,zew (fs.lookup f) (mA f))/\PySem.Within mA (fs.map (·.1))/\fs.length<=1000/\H dx=some (.own a):=by
 obtain⟨d,z,ne,ob,mA,n,r,q⟩:=(show zaN P w H h a (.ins C dx fs) from hok a _ e)
 exact⟨mA,⟨ob,n,ne⟩,r,q,z,d⟩
end
structure Cls (K:PySem.W.Frag) (C:Addr):Prop where
 pg:PySem.W.plainGet K C Str.empty=true
 hd:PySem.W.hasDictIn K C=true
 po:PySem.W.plainOver K C=true
 sa:PySem.W.findIn K (.ref C) "__setattr__"=some (some (.builtin "object.__setattr__"))
theorem Cls.get{K:PySem.W.Frag}{C:Addr}(c:Cls K C)(f:Str):PySem.W.plainGet K C f=true:=c.pg
def zcM(K:PySem.W.Frag)(C:Addr)(f:Str):Prop:=PySem.W.findIn K (.ref C) f=some none
section
variable {X:Cx} {pins:List (Addr×Obj)} {σ:St} {H:Hp} {s:Shared} {a C dx:Addr} {fs:List (Str×V)} {f:Str} {v:V} {A:Around} {E:Value->Shared->Prop}
theorem zpn{prog:Program}{w:World}{env:Env}{e:Expr}{f:Str}{pos:Pos}{s:Shared}{Q:Value->Shared->Prop}(hb:attributeBase e f env (eval e env)=eval e env)
  (h:wpAny (model prog w) A (eval e env) (fun o s₁=>wpAny (model prog w) A (getAttr o f true) Q E s₁) E s):wpAny (model prog w) A (eval (.Attribute e f pos) env) Q E s :=
 Attribute_any_ h (by rw [arm_eval_Attribute,hb])
end
section
variable {X:Cx} {o e value:Expr} {f:Str} {pos pos' tpos:Pos} {ta tv:TE}
end
section
variable {X:Cx} {pins:List (Addr×Obj)} {σ:St} {H:Hp} {s:Shared} {A:Around} {E:Value->Shared->Prop} {Q:Value->Shared->Prop} {c:Value} {b:Bool}
inductive TyOf (K:PySem.W.Frag) (H:Hp):V->Value->Prop where
 | non:TyOf K H .non (.type "NoneType")
 | bl (x:Bool):TyOf K H (.bl x) (.type "bool")
 | int (i:Int):TyOf K H (.int i) (.type "int")
 | str (x:Str):TyOf K H (.str x) (.type "str")
 | flt (x:UInt64):TyOf K H (.flt x) (.type "float")
 | lst {a:Addr} {xs:List V} (e:H a=some (.lst xs)):TyOf K H (.ref a) (.type "list")
 | frz {a:Addr} {o:Obj} {xs:List V} (e:H a=some (.frz o (.lst xs))):TyOf K H (.ref a) (.type "list")
 | tup {a:Addr} {xs:List V} (e:H a=some (.tup xs)):TyOf K H (.ref a) (.type "tuple")
 | dK {a:Addr} {kvs:List (Key×V)} (e:H a=some (.dK kvs)):TyOf K H (.ref a) (.type "dict")
 | dT {a:Addr} {kvs:List (List Key×V)} (e:H a=some (.dT kvs)):TyOf K H (.ref a) (.type "dict")
 | ins {a C dx:Addr} {fs:List (Str×V)} (e:H a=some (.ins C dx fs)) (cl:Cls K C) (ha:PySem.W.findIn K (.ref C) "__class__"=some (some (.builtin "object.__class__")))
   (hn:PySem.W.specialIn K (.builtin "object.__class__") "__get__"=some (some (.builtin "getset_descriptor.__get__"))) (htk:PySem.W.takesIn K (.builtin "object.__class__")=some true)
   (hm:PySem.W.mroIn K C (.type "object")=some true):TyOf K H (.ref a) (.ref C)
theorem zlT{x:V}{u t:Value}(I:Inv X pins σ H s)(rx:zap x u)(ty:TyOf X.K H x t)(e:PySem.W.kitOne X.K t c=some b)(h:∀ tk,Q (.bool b) { s with toks:=tk }) :
  wpAny (model X.prog X.w) A (call (.builtin "isinstance") [u,c]) Q E s:=by
 cases ty with
 | non=>cases(show u=Value.none from rx); exact PySem.W.kia_one PySem.W.kitx_none I.kIn True.intro e (fun z=>nomatch z) h
 | bl y=>cases(show u=Value.bool y from rx); exact PySem.W.kia_one PySem.W.kitx_bool I.kIn True.intro e (fun z=>nomatch z) h
 | int i=>obtain⟨t,q⟩:=(show ∃ t,u=Value.int i t from rx); cases q; exact PySem.W.kia_one PySem.W.kitx_int I.kIn True.intro e (fun z=>nomatch z) h
 | str y=>obtain⟨t,q⟩:=(show ∃ t,u=Value.str y t from rx); cases q; exact PySem.W.kia_one PySem.W.kitx_str I.kIn True.intro e (fun z=>nomatch z) h
 | flt y=>obtain⟨t,q⟩:=(show ∃ t,u=Value.float y t from rx); cases q; exact PySem.W.kia_one PySem.W.kitx_float I.kIn True.intro e (fun z=>nomatch z) h
 | @lst a xs ea =>
  cases(show u=Value.ref a from rx)
  obtain⟨_,_,n,_,h1⟩:=(show zaN X.prog X.w H s.heap a (.lst xs) from I.hok a _ ea)
  exact PySem.W.kia_one PySem.W.kitx_list I.kIn ⟨_,h1,rfl⟩ e (fun z=>nomatch z) h
 | @frz a ob xs ea =>
  cases(show u=Value.ref a from rx)
  obtain⟨_,_,_,n,_,h1⟩:=(show zaN X.prog X.w H s.heap a (.frz ob (.lst xs)) from I.hok a _ ea)
  exact PySem.W.kia_one PySem.W.kitx_list I.kIn ⟨_,h1,rfl⟩ e (fun z=>nomatch z) h
 | @tup a xs ea =>
  cases(show u=Value.ref a from rx)
  obtain⟨_,_,_,p⟩:=(show zaN X.prog X.w H s.heap a (.tup xs) from I.hok a _ ea)
  obtain⟨o,h1,h2,_⟩:=p
  exact PySem.W.kia_one PySem.W.kitx_tuple I.kIn ⟨o,h1,h2⟩ e (fun z=>nomatch z) h
 | @dK a kvs ea =>
  cases(show u=Value.ref a from rx)
  obtain⟨_,_,vs,_,p⟩:=(show zaN X.prog X.w H s.heap a (.dK kvs) from I.hok a _ ea)
  obtain⟨o,es,ep,h1,h2,_⟩:=p
  exact PySem.W.kia_one PySem.W.kitx_dict I.kIn ⟨o,h1,h2.1⟩ e (fun z=>nomatch z) h
 | @dT a kvs ea =>
  cases(show u=Value.ref a from rx)
  obtain⟨_,_,xs,_,o,es,ep,h1,h2,_⟩:=(show zaN X.prog X.w H s.heap a (.dT kvs) from I.hok a _ ea)
  exact PySem.W.kia_one PySem.W.kitx_dict I.kIn ⟨o,h1,h2.1⟩ e (fun z=>nomatch z) h
 | @ins a C dx fs ea cl ha hn htk hm =>
  cases(show u=Value.ref a from rx)
  obtain⟨mA,O,_⟩:=zpm I.hok ea
  obtain⟨od,J,_⟩:=O.look
  exact PySem.W.kia_one (PySem.W.kitx_own (cl.get _) cl.hd ha hn htk hm) I.kIn J e (fun z=>nomatch z) h
end
structure Room (k:Nat) (A:Around):Prop where
 hd:A.handled=none
 dp:A.depth+3 * k+5 < recursionLimit
 un:A.units+16 * k+200 < cLine
 gd:A.guards=some []
theorem Room.mono{j k:Nat}{A:Around}(r:Room k A)(h:j<=k):Room j A:=⟨r.hd,by have:=r.dp; omega,by have:=r.un; omega,r.gd⟩
theorem Room.deeper{k:Nat}{A:Around}(r:Room (k+1) A)(env:Env):Room k (A.deeper env) :=
 ⟨r.hd,by have:=r.dp; show A.depth+1+3 * k+5 < _; omega,by have:=r.un; show A.units+3+16 * k+200 < _; omega,r.gd⟩
theorem Room.in1{k:Nat}{A:Around}(r:Room (k+1) A):Room k A.in1 :=
 ⟨r.hd,by have:=r.dp; show A.depth+3 * k+5 < _; omega,by have:=r.un; show A.units+1+16 * k+200 < _; omega,r.gd⟩
theorem zjO{A:Around}{C:Addr}{us:List Value}{kw:List (Str×Value)}:(A.under (.builtin "type.__call__" ⟨.ref C::us,kw⟩)).depth=A.depth+1:=by
 first | rfl | simp [Around.under,Code.weight,Code.isCreation,Code.isGuard,Code.isCaller,Code.frames,Code.isFrame,guardIds]
theorem zjP{A:Around}{C:Addr}{us:List Value}{kw:List (Str×Value)}:(A.under (.builtin "type.__call__" ⟨.ref C::us,kw⟩)).units=A.units+1:=by
 first | rfl | simp [Around.under,Code.cUnits,Code.frames,Code.isFrame]
theorem Room.make{k:Nat}{A:Around}(r:Room (k+1) A)(C:Addr)(us:List Value)(kw:List (Str×Value)):Room k (A.under (.builtin "type.__call__" ⟨.ref C::us,kw⟩)) :=
 ⟨r.hd,by have:=r.dp; rw [zjO]; omega,by have:=r.un; rw [zjP]; omega,by have:=r.gd; first | exact this | simpa [Around.under,Code.isGuard,guardIds] using this⟩
theorem Room.depth{k:Nat}{A:Around}(r:Room k A):A.depth < recursionLimit:=by have:=r.dp; omega
theorem Room.units{k:Nat}{A:Around}(r:Room k A):A.units+64 < cLine:=by have:=r.un; omega
def zgY:TA:=fun _ H Q=>Q [] H
def zcN(ta:TE)(tr:TA):TA:=fun σ H Q=>ta σ H fun x H1=>tr σ H1 fun xs H2=>Q (x::xs) H2
section
variable {X:Cx} {e:Expr} {es:List Expr} {te:TE} {t:TA} {pos:Pos}
theorem zsI:PA X [] zgY:=fun _ _ _ _ H Q I h=>Calls.spliced_nil ⟨[],H,I,.nil,h⟩
theorem zpo(ha:PE X e te)(hr:PA X es t)(hs:starEach (e::es) X.env=(false,eval e X.env)::starEach es X.env:=by rfl):PA X (e::es) (zcN te t):=by
 intro pos pins s σ H Q I h
 rw [hs]
 show wpAny _ _ (spliced ((false,eval e X.env)::backTo pos (starEach es X.env))) _ _ s
 refine Calls.spliced_cons (thn (ha pins s σ H _ I h) fun u s1 ⟨x,H1,I1,r1,q1⟩=>?_)
 exact thn (hr pos pins s1 σ H1 _ I1 q1) fun us s2 ⟨xs,H2,I2,r2,q2⟩=>⟨x::xs,H2,I2,.cons r1 r2,q2⟩
def zpp(t:TA):TE:=fun σ H Q=>t σ H fun xs H1=>xs.length<=sizeLine/\∀ p,H1 p=none->Q (.ref p) (upd H1 p (.tup xs))
def zsJ(t:TA):TE:=fun σ H Q=>t σ H fun xs H1=>xs.length<=sizeLine/\∀ p,H1 p=none->Q (.ref p) (upd H1 p (.lst xs))
theorem zsK{x1}(h:PA X es t):PE X (.Tuple es x1 pos) (zpp t):=by
 intro pins s σ H Q I hq
 refine wpAny_Tuple_spliced (thn (h pos pins s σ H _ I hq) fun us s1 ⟨xs,H1,I1,r,z,q⟩=>⟨by rw [<-r.length]; exact z,?_⟩)
 have hf:H1 s1.heap.objs.size=none:=I1.hok.fresh (Nat.le_refl _)
 refine⟨.ref s1.heap.objs.size,upd H1 s1.heap.objs.size (.tup xs),I1.laid (t':=s1.toks) (fun b u e=>Heap.get?_push_of_some _ e) (Nat.le_refl _) ?_,rfl,q _ hf⟩
 exact⟨z,us,r,⟨_,Heap.get?_push_size _ rfl,rfl,_,rfl⟩⟩
theorem zsL(h:PA X es t):PE X (.List es pos) (zsJ t):=by
 intro pins s σ H Q I hq
 refine wpAny_List_spliced (thn (h pos pins s σ H _ I hq) fun us s1 ⟨xs,H1,I1,r,z,q⟩=>⟨by rw [<-r.length]; exact z,?_⟩)
 have hf:H1 s1.heap.objs.size=none:=I1.hok.fresh (Nat.le_refl _)
 refine⟨.ref s1.heap.objs.size,upd H1 s1.heap.objs.size (.lst xs),I1.laid (t':=s1.toks) (fun b u e=>Heap.get?_push_of_some _ e) (Nat.le_refl _) ?_,rfl,q _ hf⟩
 exact⟨z,us,0,r,Heap.get?_push_size _ rfl⟩
end
abbrev Sp:=List V->Hp->VK->XK->Prop
abbrev CXT:=List Env->Hp->Shared->XK->Value->Shared->Prop
structure Env0 (P:Program) (w:World) (K:PySem.W.Frag) (mg:Str->Option Value) (base:Heap) (A:Around) (outer:List Env) (s:Shared) (H:Hp):Prop where
 frames:A.frames=some outer
 mod:Mod K mg base
 bs:∀ b o,base.get? b=some o->s.heap.get? b=some o/\H b=none
 bsz:base.objs.size<=s.heap.objs.size
 funs:s.heap.FunFrames base outer
 frf:∀ b∈frs outer,H b=none
 hok:HOk P w H s.heap
 bare:AllBare s.gens
def CE(outer:List Env)(P:Program)(w:World)(H:Hp)(s:Shared)(Q:VK)(u:Value)(s':Shared):Prop :=
 ∃ v H',s'.os=s.os/\AllBare s'.gens/\Un (frs outer) [] H H' s.heap s'.heap/\HOk P w H' s'.heap/\zap v u/\Q v H'
def CR(CX:CXT)(outer:List Env)(P:Program)(w:World)(H:Hp)(s:Shared)(Q:VK)(E:XK)(r:Result)(s':Shared):Prop :=
 match r with
 | .ok (.ret u)=>CE outer P w H s Q u s'
 | .ok _=>False
 | .error e=>CX outer H s E e s'
structure FnOk (P:Program) (w:World) (K:PySem.W.Frag) (mg:Str->Option Value) (base:Heap) (CX:CXT) (k:Nat) (f:Addr) (fd:FuncData) (ps:List Str) (sp:Sp):Prop where
 len:∀ vs H Q E,sp vs H Q E->vs.length=ps.length
 run:∀ (A:Around) (outer:List Env) (s:Shared) (H:Hp) (args:Args) (us:List Value) (vs:List V) (Q:VK) (E:XK),Room k A->Env0 P w K mg base A outer s H->BindsTo s fd args (ps.zip us)->zac vs us->sp vs H Q E ->
  codeAny (model P w) A (.call (.ref f) args) (CR CX outer P w H s Q E) s
theorem Env0.make{P:Program}{w:World}{K:PySem.W.Frag}{mg:Str->Option Value}{base:Heap}{A:Around}{outer:List Env}{s:Shared}{H:Hp}(e:Env0 P w K mg base A outer s H)(C:Addr)(us:List Value)(kw:List (Str×Value)) :
  Env0 P w K mg base (A.under (.builtin "type.__call__" ⟨.ref C::us,kw⟩)) outer s H:=⟨by first | exact e.frames | (simpa [Around.under,Code.envs,Code.isFrame,pushEnvs] using e.frames),e.mod,e.bs,e.bsz,e.funs,e.frf,e.hok,e.bare⟩
theorem Env0.in1{P:Program}{w:World}{K:PySem.W.Frag}{mg:Str->Option Value}{base:Heap}{A:Around}{outer:List Env}{s:Shared}{H:Hp}(e:Env0 P w K mg base A outer s H) :
  Env0 P w K mg base A.in1 outer s H:=⟨e.frames,e.mod,e.bs,e.bsz,e.funs,e.frf,e.hok,e.bare⟩
section
variable {X:Cx} {pins:List (Addr×Obj)} {σ:St} {H:Hp} {s s':Shared}
theorem Inv.env0(I:Inv X pins σ H s):Env0 X.prog X.w X.K X.mg X.base X.A X.stack s H :=
 ⟨I.ok.frames,I.ok.mod,I.bs,Nat.le_trans I.ok.bsz I.sz,I.stack,I.stkFree,I.hok,I.bare⟩
theorem Inv.after{Q:VK}{u:Value}(I:Inv X pins σ H s)(h:CE X.stack X.prog X.w H s Q u s'):EP X pins σ Q u s':=by
 obtain⟨v,H',os,bare,un,hok,r,q⟩:=h
 obtain⟨hh,g,d,t,os'⟩:=s'
 obtain rfl:os'=s.os:=os
 exact⟨v,H',I.call (h':=hh) (g':=g) (d':=d) (t':=t) (ch:=[]) un hok bare (fun b z=>absurd z (by simp)),r,q⟩
end
def zvE(sp:Sp)(dvs:List V)(E:XK)(t:TA):TE:=fun σ H Q=>t σ H fun vs H1=>sp (vs++dvs) H1 Q E
def zdQ(K:PySem.W.Frag)(fd:FuncData)(ps:List Str)(ds:List Value):Prop :=
 ∀ (s:Shared) (us:List Value),K.In s.heap->(us++ds).length=ps.length->BindsTo s fd ⟨us,[]⟩ (ps.zip (us++ds))
theorem zdQ.all{K:PySem.W.Frag}{fd:FuncData}{ps:List Str}(h:∀ us:List Value,us.length=ps.length->bindArgs fd ⟨us,[]⟩=pure (ps.zip us)):zdQ K fd ps []:=fun s us _ hl=>by
 rw [List.append_nil]at hl ⊢
 exact .of_eq (h us hl)
def zgc(CX:CXT)(X:Cx)(E:XK):Prop:=∀ (pins:List (Addr×Obj)) (σ:St) (H:Hp) (s:Shared) (e:Value) (s':Shared),Inv X pins σ H s->CX X.stack H s E e s'->X.xe e s'
section
variable {X:Cx} {CX:CXT} {k:Nat} {f C:Addr} {fd:FuncData} {ps:List Str} {sp:Sp} {dvs:List V} {ds:List Value} {E:XK} {x m:Str} {p pos apos:Pos} {e o:Expr} {es:List Expr} {ta:TE} {t:TA}
theorem zsM{pins:List (Addr×Obj)}{σ:St}{H:Hp}{s:Shared}{Q:VK}{us:List Value}{vs:List V}(F:FnOk X.prog X.w X.K X.mg X.base CX k f fd ps sp)(hr:Room k X.A)(hb:zdQ X.K fd ps ds)(hd:zac dvs ds)(hx:zgc CX X E)
  (I:Inv X pins σ H s) (r:zac vs us) (h:sp (vs++dvs) H Q E):wpAny (model X.prog X.w) X.A (call (.ref f) us) (EP X pins σ Q) X.xe s:=by
 have r2:zac (vs++dvs) (us++ds):=r.append hd
 have hl:(us++ds).length=ps.length:=by rw [<-r2.length]; exact F.len _ _ _ _ h
 refine wpAny_call (codeAny_mono (F.run X.A X.stack s H ⟨us,[]⟩ (us++ds) (vs++dvs) Q E hr I.env0 (hb s us I.kIn hl) r2 h) fun r s' hq=>?_)
 cases r with
 | error e=>exact hx pins σ H s e s' I hq
 | ok fl =>
  cases fl with
  | ret u=>exact I.after hq
  | next=>exact False.elim hq
  | brk=>exact False.elim hq
  | cont=>exact False.elim hq
theorem zpq(F:FnOk X.prog X.w X.K X.mg X.base CX k f fd ps sp)(hr:Room k X.A)(hg:Gl X x)(hm:X.mg x=some (.ref f))(hk:PySem.W.keepIn X.K (.ref f)=true)(hb:zdQ X.K fd ps ds)(hd:zac dvs ds)(hx:zgc CX X E)
  (ha:PA X (e::es) t) (hdb:(x==("__debug__":Str))=false:=by decide) (he:starEach (e::es) X.env=(false,eval e X.env)::starEach es X.env:=by rfl) (hpl:(backTo pos (starEach es X.env)).any (·.1)=false:=by rfl) :
  PE X (.Call (.Name x p) (e::es) [] pos) (zvE sp dvs E t):=by
 intro pins s σ H Q I h
 refine wpAny_Call_Name_kw (zeL I hg hm ?_ hdb)
 refine PySem.W.callWith_K (h₀:=X.base) I.ok.mod.kin hk (thn (ha pos pins s σ H _ I h) fun us s1 ⟨vs,H1,I1,r,q⟩=>⟨I1.kIn,?_⟩) he hpl
 exact zsM F hr hb hd hx I1 r q
end
section
variable {X:Cx} {CX:CXT} {k:Nat} {f C:Addr} {fd:FuncData} {ps ks:List Str} {sp:Sp} {E:XK} {x m:Str} {p pos apos kpos:Pos} {e o:Expr} {es:List Expr} {kws:List Keyword} {te ta:TE} {t tk:TA} {nm:Option Str}
variable {g:List Value->List Value->List Value} {gV:List V->List V->List V}
end
structure FnScope (N P:List Str) (sc:Scope):Prop where
 kind:sc.kind=.function
 co:sc.isCoroutine=false
 gen:sc.isGenerator=false
 nd:N.Nodup
 pre:N.take P.length=P
 par:∀ x∈P,sc.names.lookup x=some .local\/sc.names.lookup x=some .cell
 nofree:∀ y∈sc.names,y.2≠.free
theorem zhj{kindOf:Str->Option NameKind}{x:Str}:∀ {binds:List (Str×Value)} {m:Str->Option Value},(∀ v,(x,v)∉binds)->bindL kindOf binds m x=m x
 | [],_,_=>rfl
 | (n,v)::r,m,h=>by
  unfold bindL
  rw [zhj fun w hw=>h w (List.mem_cons_of_mem _ hw)]
  split
  ·have:x≠n:=by rintro rfl; exact h v List.mem_cons_self
   simp [this]
  ·rfl
theorem zhk{kindOf:Str->Option NameKind}{x:Str}:∀ {binds:List (Str×Value)} {m:Str->Option Value},(∀ v,(x,v)∉binds)->bindC kindOf binds m x=m x
 | [],_,_=>rfl
 | (n,v)::r,m,h=>by
  unfold bindC
  rw [zhk fun w hw=>h w (List.mem_cons_of_mem _ hw)]
  split
  ·rfl
  ·have:x≠n:=by rintro rfl; exact h v List.mem_cons_self
   simp [this]
theorem zhl{kindOf:Str->Option NameKind}{x:Str}{v:Value}:∀ {P:List Str} {vs:List Value} {i:Nat} {m:Str->Option Value},P.Nodup->P[i]?=some x->vs[i]?=some v->kindOf x=some .local ->
  bindL kindOf (P.zip vs) m x=some v
 | [],_,_,_,_,h,_,_=>by simp at h
 | _::_,[],_,_,_,_,h,_=>by simp at h
 | p::P,w::vs,0,m,nd,h1,h2,hk=>by
  simp at h1 h2; subst h1; subst h2
  show bindL kindOf ((p,w)::P.zip vs) m p=_
  unfold bindL
  rw [zhj fun v hv=>(List.nodup_cons.mp nd).1 (List.of_mem_zip hv).1,if_pos hk]
  simp
 | p::P,w::vs,i+1,m,nd,h1,h2,hk=>by
  show bindL kindOf ((p,w)::P.zip vs) m x=_
  unfold bindL
  exact zhl (i:=i) (List.nodup_cons.mp nd).2 (by simpa using h1) (by simpa using h2) hk
theorem zhm{kindOf:Str->Option NameKind}{x:Str}{v:Value}:∀ {P:List Str} {vs:List Value} {i:Nat} {m:Str->Option Value},P.Nodup->P[i]?=some x->vs[i]?=some v->kindOf x≠some .local ->
  bindC kindOf (P.zip vs) m x=some v
 | [],_,_,_,_,h,_,_=>by simp at h
 | _::_,[],_,_,_,_,h,_=>by simp at h
 | p::P,w::vs,0,m,nd,h1,h2,hk=>by
  simp at h1 h2; subst h1; subst h2
  show bindC kindOf ((p,w)::P.zip vs) m p=_
  unfold bindC
  rw [zhk fun v hv=>(List.nodup_cons.mp nd).1 (List.of_mem_zip hv).1,if_neg hk]
  simp
 | p::P,w::vs,i+1,m,nd,h1,h2,hk=>by
  show bindC kindOf ((p,w)::P.zip vs) m x=_
  unfold bindC
  exact zhm (i:=i) (List.nodup_cons.mp nd).2 (by simpa using h1) (by simpa using h2) hk
def zcd(N:List Str)(vs:List V):St:=vs.map some++List.replicate (N.length - vs.length) none
def zgd(CX:CXT)(P:Program)(w:World)(K:PySem.W.Frag)(mg:Str->Option Value)(base:Heap)(N:List Str)(qual:Str)(scope:Scope)(f:Addr)(cd:Value)(A:Around)(outer:List Env)(s:Shared)(H:Hp)(E:XK):Cx where
 prog:=P
 w:=w
 K:=K
 mg:=mg
 base:=base
 A:=A.deeper (envOfC qual scope s.heap.objs.size f cd)
 N:=N
 s₀:=s
 H₀:=H
 env:=envOfC qual scope s.heap.objs.size f cd
 outer:=outer
 stack:=envOfC qual scope s.heap.objs.size f cd::outer
 ex:=[]
 calm:=true
 fn:=fun _=>true
 pn:=[]
 xe:=fun e s'=>wpAny (model P w) (A.deeper (envOfC qual scope s.heap.objs.size f cd)) (leaving (envOfC qual scope s.heap.objs.size f cd) e) (fun _ s''=>CX outer H s E e s'') (fun e' s''=>CX outer H s E e' s'') s'
theorem ziN{sc:Scope}{n:Nat}{x:Str}(h:sc.names.lookup x=some .cell):∃ c,(cellsFrom n sc.names []).lookup x=some c:=by
 have q:=PySem.W.cellsFrom_some sc.names n [] (.inl h)
 exact Option.isSome_iff_exists.mp q
theorem zlU{CX:CXT}{P:Program}{w:World}{K:PySem.W.Frag}{mg:Str->Option Value}{base:Heap}{N ps:List Str}{qual:Str}{scope:Scope}{f:Addr}{cd:Value}{A:Around}{outer:List Env}{s s1:Shared}{H:Hp}{E:XK}{us:List Value}{vs:List V}
  (S:FnScope N ps scope) (hd:A.handled=none) (e0:Env0 P w K mg base A outer s H) (hl:vs.length=ps.length) (r:zac vs us)
  (x:InCallC s s.heap.objs.size (bindL (envOfC qual scope s.heap.objs.size f cd).kindOf (ps.zip us) fun _=>none) (cellsFrom (s.heap.objs.size+1) scope.names []) (bindC (envOfC qual scope s.heap.objs.size f cd).kindOf (ps.zip us) fun _=>none) s1) :
  Inv (zgd CX P w K mg base N qual scope f cd A outer s H E) [] (zcd N vs) H s1:=by
 have hpl:ps.length<=N.length:=by have:=congrArg List.length S.pre; rw [List.length_take]at this; omega
 obtain⟨h1,tk,rfl,hk⟩:=x.done
 have noA:∀ b:Addr,b∉(zgd CX P w K mg base N qual scope f cd A outer s H E).ex:=fun b z=>absurd (show b∈([]:List Addr) from z) (by simp)
 refine⟨⟨e0.mod,S.kind,rfl,rfl,Nat.le_refl _,fun y z c h1 h2=>?_,fun y hy=>?_,fun y c _ h=>?_,fun _=>hd,Around.frames_deeper e0.frames,.inr ⟨rfl,rfl⟩,fun b z=>absurd z (noA b),e0.bs,e0.bsz,fun b _ _=>noA b,fun b z=>absurd z (noA b),e0.funs,e0.frf⟩,
  rfl,e0.bare,Un.kept hk,⟨_,x.toInCall.ns,fun i y v h1 h2 h3=>?_⟩,fun y c h=>⟨_,x.cell y c h⟩,e0.hok.fresh (Nat.le_refl _),fun y c h=>?_,fun p hp=>absurd (show p∈([]:List (Addr×Obj)) from hp) (by simp),e0.hok.kept hk,?_⟩
 ·exact name_of_addr x.apart (PySem.mem_of_lookup h1) (PySem.mem_of_lookup h2)
 ·have hy:scope.names.lookup y=some .cell\/scope.names.lookup y=some .free:=hy
  rcases hy with hy | hy
  ·exact ziN hy
  ·exact absurd rfl (S.nofree _ (PySem.mem_of_lookup hy))
 ·exact Nat.le_of_lt (x.above y c (PySem.mem_of_lookup h))
 ·have hi:i < vs.length:=by
   unfold zcd at h2
   by_cases hi:i < vs.length
   ·exact hi
   ·rw [List.getElem?_append_right (by simpa using hi)]at h2
    rw [List.getElem?_replicate]at h2
    split at h2<;>cases h2
  have ha:vs[i]?=some v:=by
   unfold zcd at h2
   rw [List.getElem?_append_left (by simpa using hi),List.getElem?_map]at h2
   cases e:vs[i]? with
   | none=>rw [e]at h2; cases h2
   | some a=>rw [e]at h2; cases h2; rfl
  obtain⟨u,hu,rv⟩:=r.get ha
  have hp:ps[i]?=some y:=by
   rw [<-S.pre,List.getElem?_take_of_lt (by omega)]; exact h1
  have ndP:ps.Nodup:=by rw [<-S.pre]; exact S.nd.sublist (List.take_sublist _ _)
  refine⟨u,rv,?_⟩
  rcases S.par y (List.mem_of_getElem? hp)with k | k
  ·exact .inl ⟨k,zhl ndP hp hu k⟩
  ·obtain⟨c,e⟩:=ziN (n:=s.heap.objs.size+1) k
   refine .inr ⟨.inl k,c,e,?_⟩
   have q:=x.cell y c e
   rw [zhm ndP hp hu (by show scope.names.lookup y≠_; rw [k]; decide)]at q
   exact q
 ·exact e0.hok.fresh (Nat.le_of_lt (x.above y c (PySem.mem_of_lookup h)))
 ·unfold zcd
  show _=N.length
  rw [List.length_append,List.length_map,List.length_replicate]
  omega
theorem zrH{CX:CXT}{P:Program}{w:World}{K:PySem.W.Frag}{mg:Str->Option Value}{base:Heap}{k:Nat}{f:Addr}{name qual:Str}{params:Arguments}{body:List Stmt}{scope:Scope}{dV kV doc pm cdv ct oc:Value}{an od:Option Addr}
  {osl:Array (Option Value)} {N ps:List Str} {sp:Sp} (lk:K.lookup f=some ⟨oc,od,.func (PySem.W.fnOf name qual params body scope dV kV doc pm an cdv ct),osl⟩) (hcd:PySem.W.codeIn K cdv qual=true) (S:FnScope N ps scope)
  (len:∀ vs H Q E,sp vs H Q E->vs.length=ps.length)
  (hbody:∀ (A:Around) (outer:List Env) (s:Shared) (H:Hp) (vs:List V) (Q:VK) (E:XK),Room k (A.deeper (envOfC qual scope s.heap.objs.size f cdv))->sp vs H Q E ->
   ∃ t,PSs (zgd CX P w K mg base N qual scope f cdv A outer s H E) body t/\t { nx:=fun _ H'=>Q .non H',rt:=Q } (zcd N vs) H) :
  FnOk P w K mg base CX (k+1) f (PySem.W.fnOf name qual params body scope dV kV doc pm an cdv ct) ps sp:=by
 refine⟨len,fun A outer s H args us vs Q E hr e0 hb r hsp=>?_⟩
 have hl:=len _ _ _ _ hsp
 have KX:K.In s.heap:=e0.mod.kin.keeps fun b o e=>(e0.bs b o e).1
 have lim:s.heap.NoLimit:=e0.mod.nolimit.keeps fun b o e=>(e0.bs b o e).1
 have hkind:∀ y∈ps.zip us,scope.names.lookup y.1=some .local\/(scope.names.lookup y.1=some .cell/\((cellsFrom (s.heap.objs.size+1) scope.names []).lookup y.1).isSome=true):=fun⟨n,v⟩ hy=>by
  rcases S.par n (List.of_mem_zip hy).1 with q | q
  ·exact .inl q
  ·exact .inr ⟨q,PySem.W.cellsFrom_some _ _ _ (.inl q)⟩
 refine codeAny_call_function hr.depth (KX _ _ lk) rfl S.co S.gen rfl (PySem.W.codeRec_of KX hcd) (hb _ _ _ _ ?_)
 refine wpAny_newFunctionEnv_cells S.kind hkind fun env he s1 x=>?_
 subst he
 refine⟨lim.keeps x.toInCall.keep,codeAny_func ?_⟩
 obtain⟨t,ht,hq⟩:=hbody A outer s H vs Q E (hr.deeper _) hsp
 have I:Inv (zgd CX P w K mg base N qual scope f cdv A outer s H E) [] (zcd N vs) H s1:=zlU S hr.hd e0 hl r x
 refine wpAny_mono (ht [] s1 (zcd N vs) H _ I hq) (fun fl s' hs=>?_) fun e s' hs=>hs
 have fin:∀ {σ':St} {H':Hp} {v:V} {u:Value},Inv (zgd CX P w K mg base N qual scope f cdv A outer s H E) [] σ' H' s'->zap v u->Q v H'->CE outer P w H s Q u s' :=
  fun{σ' H' v u} J rv q=>⟨v,H',J.os,J.bare,J.base,J.hok,rv,q⟩
 cases fl with
 | ret u =>
  obtain⟨v,σ',H',J,rv,q⟩:=hs
  exact fin J rv q
 | next =>
  obtain⟨σ',H',J,q⟩:=hs
  exact fin (v:=V.non) (u:=Value.none) J rfl q
 | brk =>
  obtain⟨_,_,_,q⟩:=hs
  exact False.elim q
 | cont =>
  obtain⟨_,_,_,q⟩:=hs
  exact False.elim q
section
variable {X:Cx} {x:Str} {p pos:Pos} {e:Expr} {es:List Expr} {t:TA} {id T:String} {r:List V->Hp->VK->Prop}
def tCB(r:List V->Hp->VK->Prop)(t:TA):TE:=fun σ H Q=>t σ H fun vs H1=>r vs H1 Q
theorem zmL(hc:zb6 X (.builtin id) r)(hg:Gl X x)(hm:X.mg x=none)(hv:bootBuiltins x=some (.builtin id))(ha:PA X (e::es) t)(hn:x ≠ "__name__":=by decide)(hdb:(x==("__debug__":Str))=false:=by decide)
  (he:starEach (e::es) X.env=(false,eval e X.env)::starEach es X.env:=by rfl) (hpl:(backTo pos (starEach es X.env)).any (·.1)=false:=by rfl):PE X (.Call (.Name x p) (e::es) [] pos) (tCB r t):=by
 intro pins s σ H Q I h
 refine wpAny_Call_Name_kw (zfb I hg hm hv ?_ hn hdb)
 exact PyProof.Rows.callWith_builtin1 (thn (ha pos pins s σ H _ I h) fun us s1 ⟨vs,H1,I1,r1,q1⟩=>hc pins s1 σ H1 vs us Q I1 r1 q1) he hpl
theorem zlV(hc:zb6 X (.type T) r)(hg:Gl X x)(hm:X.mg x=none)(hv:bootBuiltins x=some (.type T))(ha:PA X (e::es) t)(hn:x ≠ "__name__":=by decide)(hdb:(x==("__debug__":Str))=false:=by decide)
  (he:starEach (e::es) X.env=(false,eval e X.env)::starEach es X.env:=by rfl) (hpl:(backTo pos (starEach es X.env)).any (·.1)=false:=by rfl):PE X (.Call (.Name x p) (e::es) [] pos) (tCB r t):=by
 intro pins s σ H Q I h
 refine wpAny_Call_Name_kw (zfb I hg hm hv ?_ hn hdb)
 exact PyProof.Rows.callWith_type1 (thn (ha pos pins s σ H _ I h) fun us s1 ⟨vs,H1,I1,r1,q1⟩=>hc pins s1 σ H1 vs us Q I1 r1 q1) he hpl
end
end L2
namespace HT
open PySem PyProof.Rows
section
open PySem.SeqAt
open PySem.AutoSeq1 (wpAny_loadPart')
open PySem.MeetsSeq PySem.MeetsSeq2 PySem.MeetsSeq3
end
section
variable {prog:Program} {w:World} {A:Around} {E:Value->Shared->Prop} {s:Shared}
theorem cat_tup{t b:Addr}{vs ws:List Value}{Q:Value->Shared->Prop}(ht:IsTup s.heap t vs.toArray)(hb:IsTup s.heap b ws.toArray)(hv:vs≠[])
  (h1:ws=[]->Q (.ref t) s) (h2:ws≠[]->Q (.ref s.heap.objs.size) { s with heap:=s.heap.push { cls:=.type "tuple",data:=.seq (vs++ws).toArray } })
  (hsz:vs.length+ws.length<=sizeLine):wpAny (model prog w) A (binaryOp .Add (.ref t) (.ref b)) Q E s:=by
 obtain⟨⟨cls,dd,data,sl⟩,ho,hc,n,hd⟩:=id ht
 obtain⟨⟨cls2,dd2,data2,sl2⟩,ho2,hc2,n2,hd2⟩:=id hb
 simp only at hc hd hc2 hd2
 subst hc hd hc2 hd2
 have e:vs.toArray++ws.toArray=(vs++ws).toArray:=by simp
 by_cases hw:ws=[]
 ·exact concat_meets ⟨_,ho,rfl⟩ ⟨_,ho2,rfl⟩ noFill_tuple_add seq_tuple_add PySem.F.slot_tuple_add PySem.F.entry_tuple_add (PySem.F.args_tuple_add_2 _ _)
   (tuple_addW1 t b vs.toArray ws.toArray n n2 dd dd2 sl sl2 (by simpa using hv) (by simp [hw])) ⟨ho,ho2,h1 hw⟩
 ·refine concat_meets ⟨_,ho,rfl⟩ ⟨_,ho2,rfl⟩ noFill_tuple_add seq_tuple_add PySem.F.slot_tuple_add PySem.F.entry_tuple_add (PySem.F.args_tuple_add_2 _ _)
   (tuple_addW2 t b vs.toArray ws.toArray n n2 dd dd2 sl sl2 (by simpa using hv) (by simpa using hw) (by rw [List.size_toArray,List.size_toArray]; exact hsz)) ⟨ho,ho2,?_⟩
  rw [e]
  exact h2 hw
def sIx(n d:Nat):Option Int->Nat
 | none=>d
 | some v=>if v < 0 then(v+(n:Int)).toNat else min v.toNat n
theorem sIx_none(n d:Nat):sIx n d none=d:=rfl
theorem sIx_nat(n d k:Nat):sIx n d (some (k:Int))=min k n:=by
 show(if(k:Int) < 0 then((k:Int)+(n:Int)).toNat else min (k:Int).toNat n)=min k n
 rw [if_neg (by omega),Int.toNat_natCast]
theorem zsN(n d:Nat)(hd:d<=n)(o:Option Int):sIx n d o<=n:=by
 cases o with
 | none=>exact hd
 | some v =>
  show(if v < 0 then(v+(n:Int)).toNat else min v.toNat n)<=n
  by_cases hv:v < 0
  ·rw [if_pos hv]; omega
  ·rw [if_neg hv]; exact Nat.min_le_right _ _
theorem zkO(v:Int)(n d:Nat):(if v < 0 then max (v+(n:Int)) 0 else min v (n:Int))=((sIx n d (some v):Nat):Int):=by
 show(if v < 0 then max (v+(n:Int)) 0 else min v (n:Int))=(((if v < 0 then(v+(n:Int)).toNat else min v.toNat n):Nat):Int)
 by_cases hv:v < 0
 ·simp only [if_pos hv]; omega
 ·simp only [if_neg hv]; omega
theorem zjQ(lo hi:Option Int)(n:Nat):Builtin.Slice.sliceAdjust lo hi 1 (n:Int)=(((sIx n 0 lo:Nat):Int),((sIx n n hi:Nat):Int)):=by
 have h1:¬((1:Int) < 0):=by omega
 unfold Builtin.Slice.sliceAdjust
 simp only [h1,if_false]
 refine Prod.ext ?_ ?_
 ·cases lo with
  | none=>rfl
  | some v=>exact zkO v n 0
 ·cases hi with
  | none=>rfl
  | some v=>exact zkO v n n
theorem zjR(i j:Nat):Builtin.Slice.slicePlaces (i:Int) (j:Int) 1=j - i:=by
 unfold Builtin.Slice.slicePlaces
 have h1:(1:Int) > 0:=by omega
 simp only [h1,if_true,Int.ediv_one]
 split<;>omega
theorem zge{v:Value}{o:Option Int}{Q:Option Int->Shared->Prop}(p:IsPart v o)(h:Q o s):wpAny (model prog w) A (Builtin.Slice.slicePartIndex v) Q E s:=by
 cases p with
 | none=>exact slicePart_none h
 | int i t=>exact slicePart_int h
theorem zdj{sl:Addr}{vl vu:Value}{lo hi:Option Int}{n:Nat}{Q:Int×Int×Nat->Shared->Prop}(hs:s.heap.IsSliceOf sl vl vu .none)(pl:IsPart vl lo)(pu:IsPart vu hi)
  (h:Q (((sIx n 0 lo:Nat):Int),1,sIx n n hi - sIx n 0 lo) s):wpAny (model prog w) A (Builtin.Slice.sliceApplied (.ref sl) (pure (n:Int))) Q E s:=by
 obtain⟨os,hos,hcs,hds⟩:=id hs
 unfold Builtin.Slice.sliceApplied Builtin.Slice.sliceFields
 refine wpAny_bind (wpAny_bind (wpAny_field hos hds (x:=vl) rfl (wpAny_bind (wpAny_field hos hds (x:=vu) rfl (wpAny_bind (wpAny_field hos hds (x:=.none) rfl (wpAny_pure ?_)))))))
 refine wpAny_bind (slicePart_none ?_)
 show wpAny _ _ (if((1:Int)==0)=true then _ else _) _ _ s
 rw [if_neg (by decide)]
 refine wpAny_bind (zge pl (wpAny_bind (zge pu (wpAny_bind (wpAny_pure ?_)))))
 show wpAny _ _ (match Builtin.Slice.sliceAdjust lo hi 1 (n:Int)with | (lo,hi)=>pure (lo,(1:Int),Builtin.Slice.slicePlaces lo hi 1)) _ _ s
 rw [zjQ lo hi n]
 show wpAny _ _ (pure (((sIx n 0 lo:Nat):Int),(1:Int),Builtin.Slice.slicePlaces ((sIx n 0 lo:Nat):Int) ((sIx n n hi:Nat):Int) 1)) _ _ s
 rw [zjR]
 exact wpAny_pure h
theorem zmM(xs:Array Value)(i k:Nat):((List.range k).filterMap fun(m:Nat)=>xs[((i:Int)+(m:Int) * 1).toNat]?).toArray=((xs.toList.drop i).take k).toArray:=by
 have e:(fun(m:Nat)=>xs[((i:Int)+(m:Int) * 1).toNat]?)=fun m=>xs[i+m]?:=by
  funext m
  have:((i:Int)+(m:Int) * 1).toNat=i+m:=by omega
  rw [this]
 rw [e]
 have:=pick_run xs i k
 rw [List.filterMap_map]at this
 have e2:((fun x=>xs[x]?) ∘ fun x=>i+x)=fun m=>xs[i+m]?:=rfl
 rw [e2]at this
 rw [this]
theorem getItem_tuple_cut{t sl:Addr}{items:Array Value}{vl vu:Value}{lo hi:Option Int}{Q:Value->Shared->Prop}(ht:IsTup s.heap t items)(hs:s.heap.IsSliceOf sl vl vu .none)(pl:IsPart vl lo)(pu:IsPart vu hi)
  (hw:¬(sIx items.size 0 lo=0/\sIx items.size items.size hi=items.size))
  (h:Q (.ref s.heap.objs.size) { s with heap:=s.heap.push { cls:=.type "tuple",data:=.seq ((items.toList.drop (sIx items.size 0 lo)).take (sIx items.size items.size hi - sIx items.size 0 lo)).toArray } })
  (hsz:items.size<=sizeLine):wpAny (model prog w) A (getItem (.ref t) (.ref sl)) Q E s:=by
 have htake:sizeOk (.seq ((items.toList.drop (sIx items.size 0 lo)).take (sIx items.size items.size hi - sIx items.size 0 lo)).toArray):=by
  show((items.toList.drop (sIx items.size 0 lo)).take (sIx items.size items.size hi - sIx items.size 0 lo)).toArray.size<=sizeLine
  rw [List.size_toArray,List.length_take,List.length_drop,Array.length_toList]
  omega
 have hj:sIx items.size items.size hi<=items.size:=zsN _ _ (Nat.le_refl _) hi
 obtain⟨os,hos,hcs,hds⟩:=id hs
 have hTs:s.TypeIs (.ref sl) "slice":=⟨os,hos,hcs⟩
 unfold getItem
 try with_reducible refine wpAny_holding ?_
 first | refine wpAny_bind (wpAny_pure ?_) | skip
 refine wpAny_bind (wpAny_sequenceKey ht.typeIs (by decide) ?_)
 refine wpAny_bind (wpAny_callSpecial?_slot (name:=Str.ofString "__getitem__") ht.typeIs PyProof.Rows.slot_tuple_getitem
  (wpAny_call_entry PyProof.Rows.slot_tuple_getitem ht.typeIs entry_tuple_getitem ?_ (args_tuple_getitem _ _)))
 show wpAny _ _ (Builtin.Tuple.tupleItemsOf (.ref t) >>= _) _ _ s
 refine wpAny_bind (tupleItemsOf_ ht ?_)
 refine wpAny_bind (wpAny_typeOf hTs ?_)
 rw [if_pos (by decide)]
 refine wpAny_bind (zdj hs pl pu ?_)
 have hno:¬((((sIx items.size 0 lo:Nat):Int)==0 && (1:Int)==1 && (sIx items.size items.size hi - sIx items.size 0 lo)==items.size)=true):=by
  intro q
  rw [Bool.and_eq_true,Bool.and_eq_true]at q
  have q1:((sIx items.size 0 lo:Nat):Int)=0:=eq_of_beq q.1.1
  have q2:sIx items.size items.size hi - sIx items.size 0 lo=items.size:=eq_of_beq q.2
  exact hw ⟨by omega,by omega⟩
 show wpAny _ _ (if(((sIx items.size 0 lo:Nat):Int)==0 && (1:Int)==1 && (sIx items.size items.size hi - sIx items.size 0 lo)==items.size)=true then _ else _) _ _ s
 rw [if_neg hno,zmM]
 first
  | exact wpAny_bind (m:=Builtin.Tuple.tupleExact _) (wpAny_newObj_type (wpAny_pure ⟨_,rfl,wpAny_pure h⟩) htake)
  | exact wpAny_bind (m:=Builtin.Tuple.tupleExact _) (wpAny_newObj_type (wpAny_bind (wpAny_pure (wpAny_pure ⟨_,rfl,wpAny_pure h⟩))) htake)
  | exact wpAny_bind (wpAny_bind (m:=Builtin.Tuple.tupleExact _) (wpAny_newObj_type (wpAny_pure (wpAny_pure ⟨_,rfl,wpAny_pure h⟩)) htake))
  | exact wpAny_bind (wpAny_bind (m:=Builtin.Tuple.tupleExact _) (wpAny_newObj_type (wpAny_pure ⟨_,rfl,wpAny_pure h⟩) htake))
end
end HT
namespace L2
open PySem PySem.Spec PyProof.Rows
abbrev TO:=St->Hp->(Option Int->Hp->Prop)->Prop
def PO(X:Cx)(e:Option Expr)(t:TO):Prop :=
 ∀ (pins:List (Addr×Obj)) (s:Shared) (σ:St) (H:Hp) (Q:Option Int->Hp->Prop),Inv X pins σ H s->t σ H Q ->
  wpAny (model X.prog X.w) X.A (evalPart e X.env) (fun u s'=>∃ o H',Inv X pins σ H' s'/\IsPart u o/\Q o H') X.xe s
def zhN:TO:=fun _ H Q=>Q none H
def zmN(t:TE):TO:=fun σ H Q=>t σ H fun x H1=>∃ i,x=.int i/\Q (some i) H1
section
variable {X:Cx} {e:Expr} {te:TE} {lo hi:Option Expr} {tl th:TO} {pos p2:Pos}
theorem zpr:PO X none zhN:=by
 intro pins s σ H Q I h
 rw [evalPart_none]
 exact wpAny_pure ⟨none,H,I,.none,h⟩
theorem zps(h:PE X e te):PO X (some e) (zmN te):=by
 intro pins s σ H Q I hw
 rw [evalPart_some]
 refine thn (h pins s σ H _ I hw) fun u s1 ⟨x,H1,I1,r1,q1⟩=>?_
 obtain⟨i,rfl,q⟩:=q1
 obtain⟨t,rfl⟩:=r1
 exact⟨some i,H1,I1,.int i t,q⟩
def SlR(X:Cx)(r:V->Option Int->Option Int->Hp->VK->Prop):Prop :=
 ∀ (pins:List (Addr×Obj)) (s:Shared) (σ:St) (H:Hp) (x:V) (v vl vu:Value) (lo hi:Option Int) (sl:Addr) (Q:VK),Inv X pins σ H s->zap x v->s.heap.IsSliceOf sl vl vu .none->IsPart vl lo->IsPart vu hi->r x lo hi H Q ->
  ∃ T id,typeLookup (.type T) "__getitem__"=pure (some (.builtin id))/\s.TypeIs v T/\wpAny (model X.prog X.w) X.A (getItem v (.ref sl)) (EP X pins σ Q) X.xe s
def tSl(r:V->Option Int->Option Int->Hp->VK->Prop)(te:TE)(tl th:TO):TE:=fun σ H Q=>te σ H fun x H1=>tl σ H1 fun l H2=>th σ H2 fun u H3=>r x l u H3 Q
theorem zmO{r:V->Option Int->Option Int->Hp->VK->Prop}(hr:SlR X r)(he:PE X e te)(hl:PO X lo tl)(hu:PO X hi th):PE X (.Subscript e (.Slice lo hi none p2) pos) (tSl r te tl th):=by
 intro pins s σ H Q I h
 refine Subscript_ (thn (he pins s σ H _ I h) fun v s1 ⟨x,H1,I1,r1,q1⟩=>?_)
 refine wpAny_Slice (thn (hl pins s1 σ H1 _ I1 q1) fun vl s2 ⟨l,H2,I2,pl,q2⟩=>thn (hu pins s2 σ H2 _ I2 q2) fun vu s3 ⟨u,H3,I3,pu,q3⟩=>?_)
 rw [evalPart_none]
 refine wpAny_pure ?_
 have I4:Inv X pins σ H3 { s3 with heap:=s3.heap.push { cls:=.type "slice",data:=.fields #[vl,vu,.none] } }:=I3.kept (t':=s3.toks) fun b ob q=>Heap.get?_push_of_some _ q
 obtain⟨T,id,hT,ht,hg⟩:=hr pins { s3 with heap:=s3.heap.push { cls:=.type "slice",data:=.fields #[vl,vu,.none] } } σ H3 x v vl vu l u s3.heap.objs.size Q I4 r1 (Heap.IsSliceOf.new ..) pl pu q3
 show wpAny (model X.prog X.w) X.A (subscriptTail e (.Slice lo hi none p2) v (.ref s3.heap.objs.size)) (EP X pins σ Q) X.xe { s3 with heap:=s3.heap.push { cls:=.type "slice",data:=.fields #[vl,vu,.none] } }
 exact tail_any (ops:=[.ref s3.heap.objs.size,v]) ht hT hg (by with_unfolding_all rfl)
def zfG(xs:List V)(lo hi:Option Int):List V:=(xs.drop (HT.sIx xs.length 0 lo)).take (HT.sIx xs.length xs.length hi - HT.sIx xs.length 0 lo)
theorem zfA(xs:List V)(lo hi:Option Int):(zfG xs lo hi).length<=xs.length:=by
 unfold zfG
 rw [List.length_take,List.length_drop]
 omega
def zxK(K:PySem.W.Frag):V->Option Int->Option Int->Hp->VK->Prop:=fun x lo hi H Q=>∃ a xs,x=.ref a/\SqT K H a xs /\
 ¬(HT.sIx xs.length 0 lo=0/\HT.sIx xs.length xs.length hi=xs.length)/\∀ p,H p=none->Q (.ref p) (upd H p (.tup (zfG xs lo hi)))
theorem zsO:SlR X (zxK X.K):=by
 intro pins s σ H x v vl vu lo hi sl Q I rx hs pl pu h
 obtain⟨a,xs,rfl,hx,hw,q⟩:=h
 cases rx
 obtain⟨its,r,ht,hz⟩:=I.tuple hx
 have hlen:its.toArray.size=xs.length:=by rw [List.size_toArray]; exact r.length.symm
 refine⟨"tuple",_,PyProof.Rows.slot_tuple_getitem.lookup,ht.typeIs,?_⟩
 refine HT.getItem_tuple_cut ht hs pl pu (by rw [hlen]; exact hw) ?_ (by rw [hlen]; exact hz)
 rw [hlen]
 refine⟨.ref s.heap.objs.size,_,I.laid (t':=s.toks) (o:=.tup (zfG xs lo hi)) (fun b ob q=>Heap.get?_push_of_some _ q) (Nat.le_refl _) ?_,rfl,q _ (I.hok.fresh (Nat.le_refl _))⟩
 exact⟨Nat.le_trans (zfA xs lo hi) hz,_,(r.drop (HT.sIx xs.length 0 lo)).take (HT.sIx xs.length xs.length hi - HT.sIx xs.length 0 lo),IsTup.new _ _⟩
def zmP(K:PySem.W.Frag):R2:=fun x y H Q=>∃ a b xs ys,x=.ref a/\y=.ref b/\SqT K H a xs/\SqT K H b ys/\xs≠[]/\xs.length+ys.length<=sizeLine /\
 (ys=[]->Q (.ref a) H)/\(ys≠[]->∀ p,H p=none->Q (.ref p) (upd H p (.tup (xs++ys))))
theorem zac.nil_iff{xs:List V}{us:List Value}(r:zac xs us):us=[]↔xs=[]:=by
 cases r with
 | nil=>simp
 | cons _ _=>simp
theorem zpt:OpR X (binaryOp .Add) (zmP X.K):=by
 intro pins s σ H x y v u Q I rx ry h
 obtain⟨a,b,xs,ys,rfl,rfl,ha,hb,hx,hz,q1,q2⟩:=h
 cases rx
 cases ry
 obtain⟨its,r1,p1,_⟩:=I.tuple ha
 obtain⟨its2,r2,p2,_⟩:=I.tuple hb
 refine HT.cat_tup p1 p2 (fun z=>hx (r1.nil_iff.mp z)) (fun z=>⟨.ref a,H,I,rfl,q1 (r2.nil_iff.mp z)⟩) (fun z=>?_) (by rw [<-r1.length,<-r2.length]; exact hz)
 refine⟨.ref s.heap.objs.size,_,I.laid (t':=s.toks) (o:=.tup (xs++ys)) (fun b ob q=>Heap.get?_push_of_some _ q) (Nat.le_refl _) ?_,rfl,q2 (fun w=>z (r2.nil_iff.mpr w)) _ (I.hok.fresh (Nat.le_refl _))⟩
 exact⟨by rw [List.length_append]; exact hz,_,r1.append r2,IsTup.new _ _⟩
end
def ixN(n:Nat)(i:Int):Option Nat:=if 0<=i then(if i < n then some i.toNat else none)else if -(n:Int)<=i then some (i+n).toNat else none
def atI{α:Type}(xs:List α)(i:Int):Option α:=(ixN xs.length i).bind fun j=>xs[j]?
theorem zkP{n:Nat}{i:Int}{j:Nat}(h:ixN n i=some j):seqIndex? i n=some j/\j < n/\-(n:Int)<=i/\i < n:=by
 unfold ixN at h
 by_cases h0:0<=i
 ·rw [if_pos h0]at h
  by_cases h1:i < n
  ·rw [if_pos h1]at h
   have e:i.toNat=j:=Option.some.inj h
   exact⟨by rw [seqIndex_of h0 h1,e],by omega,by omega,h1⟩
  ·rw [if_neg h1]at h; cases h
 ·rw [if_neg h0]at h
  by_cases h1:-(n:Int)<=i
  ·rw [if_pos h1]at h
   have e:(i+n).toNat=j:=Option.some.inj h
   exact⟨by rw [seqIndex_neg (by omega) h1,e],by omega,h1,by omega⟩
  ·rw [if_neg h1]at h; cases h
theorem zhO{α:Type}{xs:List α}{i:Int}{v:α}(h:atI xs i=some v):∃ j,seqIndex? i xs.length=some j/\xs[j]?=some v/\j < xs.length/\-(xs.length:Int)<=i/\i < xs.length:=by
 unfold atI at h
 cases e:ixN xs.length i with
 | none=>rw [e]at h; cases h
 | some j =>
  rw [e]at h
  obtain⟨h1,h2,h3,h4⟩:=zkP e
  exact⟨j,h1,h,h2,h3,h4⟩
theorem zpu{α:Type}{xs:List α}{j:Nat}{v:α}(h:xs[j]?=some v):atI xs (j:Int)=some v:=by
 have hj:j < xs.length:=(List.getElem?_eq_some_iff.mp h).1
 have e:ixN xs.length (j:Int)=some j:=by
  unfold ixN
  rw [if_pos (by omega),if_pos (by omega)]; simp
 unfold atI; rw [e]; exact h
def zkQ(b:Expr):Prop:=∀ o i,subscripted b false o i=operate [o,i] (getItem o i)
def IxR(X:Cx)(r:R2):Prop :=
 ∀ (value slice:Expr) (pins:List (Addr×Obj)) (s:Shared) (σ:St) (H:Hp) (x y:V) (v u:Value) (Q:VK),Inv X pins σ H s->zap x v->zap y u->r x y H Q ->
  subscripted slice false v u=operate [v,u] (getItem v u)->wpAny (model X.prog X.w) X.A (subscriptTail value slice v u) (EP X pins σ Q) X.xe s
def MtR(X:Cx)(id:String)(r:V->List V->Hp->VK->Prop):Prop :=
 ∀ (pins:List (Addr×Obj)) (s:Shared) (σ:St) (H:Hp) (x:V) (xs:List V) (v:Value) (us:List Value) (Q:VK),Inv X pins σ H s->zap x v->zac xs us->r x xs H Q ->
  wpAny (model X.prog X.w) X.A (call (.builtin id) (v::us)) (EP X pins σ Q) X.xe s
section
variable {X:Cx} {a b:Expr} {ta tb:TE} {pos:Pos}
theorem zvF{r:R2}(hr:IxR X r)(ha:PE X a ta)(hb:PE X b tb)(hs:zkQ b):PE X (.Subscript a b pos) (tOp r ta tb):=by
 intro pins s σ H Q I h
 exact Subscript_ (zsC ha hb I h fun v u s2 x y H2 I2 rx ry q=>hr a b pins s2 σ H2 x y v u Q I2 rx ry q (hs _ _))
def zsP(K:PySem.W.Frag):R2:=fun x y H Q=>∃ p xs i v,x=.ref p/\y=.int i/\SqL K H p xs/\atI xs i=some v/\Q v H
def zsQ(K:PySem.W.Frag):R2:=fun x y H Q=>∃ p xs i v,x=.ref p/\y=.int i/\SqT K H p xs/\atI xs i=some v/\Q v H
def zvG:R2:=fun x y H Q=>∃ z i c,x=.str z/\y=.int i/\z.length<=sizeLine/\atI z.cps.toList i=some c/\Q (.str ⟨#[c]⟩) H
theorem zpv:IxR X (zsP X.K):=by
 intro value slice pins s σ H x y v u Q I rx ry h hs
 obtain⟨p,xs,i,z,rfl,rfl,hq,he,q⟩:=h
 cases rx
 obtain⟨t,rfl⟩:=ry
 obtain⟨its,r,pl,hz⟩:=I.list hq
 obtain⟨j,h1,h2,h3,h4,h5⟩:=zhO he
 obtain⟨w,ew,rw'⟩:=r.get h2
 have hl:=r.length
 have hn:=zey
 have fin:EP X pins σ Q w s:=⟨z,H,I,rw',q⟩
 by_cases h0:0<=i
 ·have hj:i.toNat=j:=by
   rw [seqIndex_of h0 h5]at h1
   exact Option.some.inj h1
  exact item_listR pl.isList h0 (by omega) (by rw [hj]; simpa using ew) fin hs
 ·have hj:(i+(its.toArray.size:Int)).toNat=j:=by
   rw [seqIndex_neg (by omega) h4]at h1
   rw [List.size_toArray,<-hl]
   exact Option.some.inj h1
  exact subscriptTail_builtinR (x:=w) pl.isList.typeIs slot_list_getitem.lookup
   (wpAny_getItem_list_neg (Q:=fun r s'=>r=w/\EP X pins σ Q r s') pl.isList (by omega) (by rw [List.size_toArray]<;>omega) (by omega) (by rw [hj]; simpa using ew) ⟨rfl,fin⟩) hs
theorem zsR:IxR X (zsQ X.K):=by
 intro value slice pins s σ H x y v u Q I rx ry h hs
 obtain⟨p,xs,i,z,rfl,rfl,hq,he,q⟩:=h
 cases rx
 obtain⟨t,rfl⟩:=ry
 obtain⟨its,r,pl,hz⟩:=I.tuple hq
 obtain⟨j,h1,h2,h3,h4,h5⟩:=zhO he
 obtain⟨w,ew,rw'⟩:=r.get h2
 have hl:=r.length
 have hn:=zey
 have fin:EP X pins σ Q w s:=⟨z,H,I,rw',q⟩
 exact subscriptTail_builtinR (x:=w) pl.typeIs slot_tuple_getitem.lookup
  (getItem_tuple (j:=j) (Q:=fun r s'=>r=w/\EP X pins σ Q r s') pl (by omega) (by omega) (by rw [List.size_toArray,<-hl]; exact h1) (by simpa using ew) ⟨rfl,fin⟩) hs
theorem zjS:IxR X zvG:=by
 intro value slice pins s σ H x y v u Q I rx ry h hs
 obtain⟨z,i,c,rfl,rfl,hz,he,q⟩:=h
 obtain⟨t,rfl⟩:=rx
 obtain⟨t',rfl⟩:=ry
 obtain⟨j,h1,h2,h3,h4,h5⟩:=zhO he
 have hl:z.cps.toList.length=z.length:=by simp [Str.length]
 rw [hl]at h1 h4 h5
 have hn:=zey
 exact tail_any (typeIs_str s z t) slot_str_getitem.lookup (getItem_str (c:=c) (by
  have e1:decide (i < -(2^63:Int))=false:=decide_eq_false (by omega)
  have e2:decide (i>=2^63)=false:=decide_eq_false (by omega)
  rw [e1,e2,Bool.or_false]) (by rw [h1]; simpa using h2) ⟨.str ⟨#[c]⟩,H,I.tok _,⟨_,rfl⟩,q⟩) hs
theorem zjT(its:List Value)(n j:Nat)(u:Value):Obj.mapSeq (·.setIfInBounds j u) { cls:=.type "list",data:=.seq its.toArray n }={ cls:=.type "list",data:=.seq (its.set j u).toArray n }:=by
 simp [Obj.mapSeq]
theorem Inv.lst{pins:List (Addr×Obj)}{σ:St}{H:Hp}{s:Shared}{p:Addr}{xs:List V}(I:Inv X pins σ H s)(h:H p=some (.lst xs)) :
  ∃ (its:List Value) (n:Nat),zac xs its/\s.heap.get? p=some { cls:=.type "list",data:=.seq its.toArray n }/\xs.length<=sizeLine:=by
 obtain⟨z,its,n,r,e⟩:=I.hok p _ h
 exact⟨its,n,r,e,z⟩
theorem Inv.lstUpd{pins:List (Addr×Obj)}{σ:St}{H:Hp}{s:Shared}{p:Addr}{xs ys:List V}{its its':List Value}{n n':Nat}{f:Obj->Obj}(I:Inv X pins σ H s)(h:H p=some (.lst xs))
  (ho:s.heap.get? p=some { cls:=.type "list",data:=.seq its.toArray n }) (hf:f { cls:=.type "list",data:=.seq its.toArray n }={ cls:=.type "list",data:=.seq its'.toArray n' }) (r:zac ys its') (hz:ys.length<=sizeLine) (t:Nat) :
  Inv X pins σ (upd H p (.lst ys)) { s with heap:=s.heap.update p f,toks:=t }:=by
 have e:(s.heap.update p f).get? p=some { cls:=.type "list",data:=.seq its'.toArray n' }:=by
  rw [Heap.get?_update_self f ho (by rw [hf]<;>rfl),hf]
 refine I.write (x:=p) (e:=p) (by rw [h]; trivial) (.inl rfl) (fun b u hb q=>(Heap.get?_update_other _ _ (Ne.symm hb)).trans q) ⟨_,e⟩ ?_
 exact⟨hz,its',n',r,e⟩
def zrI:V->V->V->Hp->(Hp->Prop)->Prop:=fun o i v H Q=>∃ p xs k j,o=.ref p/\i=.int k/\H p=some (.lst xs)/\ixN xs.length k=some j/\Q (upd H p (.lst (xs.set j v)))
theorem zgf:zss X zrI:=by
 intro pins s σ H o i v ov iv u Q I ro ri rv h
 obtain⟨p,xs,k,j,rfl,rfl,hp,hj,q⟩:=h
 cases ro
 obtain⟨t,rfl⟩:=ri
 obtain⟨its,n,r,ho,hz⟩:=I.lst hp
 obtain⟨h1,h2,h3,h4⟩:=zkP hj
 have hl:=r.length
 have hn:=zey
 have I':Inv X pins σ (upd H p (.lst (xs.set j v))) { s with heap:=s.heap.update p (Obj.mapSeq (·.setIfInBounds j u)) } :=
  I.lstUpd hp ho (zjT its n j u) (r.set rv j) (by rw [List.length_set]; exact hz) s.toks
 by_cases h0:0<=k
 ·have hk:k.toNat=j:=by
   rw [seqIndex_of h0 h4]at h1
   exact Option.some.inj h1
  exact PySem.W.ki_setAt ho h0 (by omega) (by rw [List.size_toArray,<-hl]; exact h4) (by rw [hk]; exact⟨_,I',q⟩)
 ·have hk:(k+(its.toArray.size:Int)).toNat=j:=by
   rw [seqIndex_neg (by omega) h3]at h1
   rw [List.size_toArray,<-hl]
   exact Option.some.inj h1
  exact PySem.W.ki_setBack ho (by omega) (by rw [List.size_toArray,<-hl]; exact h3) (by omega) (by rw [hk]; exact⟨_,I',q⟩)
theorem zhP(lo hi:Option Int)(n:Nat):(sliceBounds lo hi none n).1=((HT.sIx n 0 lo:Nat):Int)/\(sliceBounds lo hi none n).2.1=((HT.sIx n n hi:Nat):Int)/\(sliceBounds lo hi none n).2.2=1:=by
 refine⟨?_,?_,rfl⟩
 ·cases lo with
  | none=>simp [sliceBounds,HT.sIx]
  | some i =>
   simp only [sliceBounds,HT.sIx,Option.getD_none,show(1:Int) > 0 by decide,if_true]
   by_cases h:i < 0
   ·simp only [h,if_true]<;>omega
   ·simp only [h,if_false]<;>omega
 ·cases hi with
  | none=>simp [sliceBounds,HT.sIx]
  | some i =>
   simp only [sliceBounds,HT.sIx,Option.getD_none,show(1:Int) > 0 by decide,if_true]
   by_cases h:i < 0
   ·simp only [h,if_true]<;>omega
   ·simp only [h,if_false]<;>omega
theorem zgZ(its:List Value)(lo hi:Option Int):slicePick its.toArray lo hi none=((its.drop (HT.sIx its.length 0 lo)).take (HT.sIx its.length its.length hi - HT.sIx its.length 0 lo)).toArray:=by
 obtain⟨h1,h2,h3⟩:=zhP lo hi its.toArray.size
 unfold slicePick
 rw [h1,h2,h3]
 simp only [sliceRange_one,pick_run,List.size_toArray]<;>rfl
def zsS(K:PySem.W.Frag):V->Option Int->Option Int->Hp->VK->Prop:=fun x lo hi H Q=>∃ a xs,x=.ref a/\SqL K H a xs/\∀ p,H p=none->Q (.ref p) (upd H p (.lst (zfG xs lo hi)))
theorem zpw:SlR X (zsS X.K):=by
 intro pins s σ H x v vl vu lo hi sl Q I rx hs pl pu h
 obtain⟨a,xs,rfl,hx,q⟩:=h
 cases rx
 obtain⟨its,r,ht,hz⟩:=I.list hx
 have hlen:=r.length
 refine⟨"list",_,slot_list_getitem.lookup,ht.isList.typeIs,?_⟩
 refine wpAny_getItem_list_slice ht.isList hs pl pu .none (by simp) ?_ (by rw [List.size_toArray]<;>omega)
 rw [zgZ,<-hlen]
 refine⟨.ref s.heap.objs.size,_,I.laid (t':=s.toks) (o:=.lst (zfG xs lo hi)) (fun b ob q=>Heap.get?_push_of_some _ q) (Nat.le_refl _) ?_,rfl,q _ (I.hok.fresh (Nat.le_refl _))⟩
 exact⟨Nat.le_trans (zfA xs lo hi) hz,_,0,(r.drop (HT.sIx xs.length 0 lo)).take (HT.sIx xs.length xs.length hi - HT.sIx xs.length 0 lo),Heap.get?_push_size _ rfl⟩
def zdR:V->Bool
 | .non=>true
 | .bl _=>true
 | .int _=>true
 | .str _=>true
 | _=>false
def eqV:V->V->Bool
 | .non,.non=>true
 | .bl a,.bl b=>a==b
 | .bl a,.int b=>(if a then 1 else 0)==b
 | .int a,.bl b=>a==(if b then 1 else 0)
 | .int a,.int b=>a==b
 | .str a,.str b=>a==b
 | _,_=>false
theorem zsT{A:Around}{s:Shared}{y x:V}{u v:Value}(ry:zap y u)(rx:zap x v)(fy:zdR y=true)(fx:zdR x=true):SeqAt.EqAt A s u v (eqV y x):=by
 cases y with
 | non =>
  cases ry
  cases x with
  | non=>cases rx; exact SeqAt.EqAt.same _
  | bl b=>cases rx; exact SeqAt.EqAt.none_bool b
  | int b=>obtain⟨t,rfl⟩:=rx; exact SeqAt.EqAt.none_int b t
  | str b=>obtain⟨t,rfl⟩:=rx; exact SeqAt.EqAt.none_str b t
  | _=>exact absurd (show false=true from fx) Bool.false_ne_true
 | bl a =>
  cases ry
  cases x with
  | non=>cases rx; exact SeqAt.EqAt.bool_none a
  | bl b=>cases rx; exact SeqAt.EqAt.bool_bool a b
  | int b=>obtain⟨t,rfl⟩:=rx; exact SeqAt.EqAt.bool_int a b t
  | str b=>obtain⟨t,rfl⟩:=rx; exact SeqAt.EqAt.bool_str a b t
  | _=>exact absurd (show false=true from fx) Bool.false_ne_true
 | int a =>
  obtain⟨t',rfl⟩:=ry
  cases x with
  | non=>cases rx; exact SeqAt.EqAt.int_none a t'
  | bl b=>cases rx; exact SeqAt.EqAt.int_bool a t' b
  | int b=>obtain⟨t,rfl⟩:=rx; exact SeqAt.EqAt.int_int a t' b t
  | str b=>obtain⟨t,rfl⟩:=rx; exact SeqAt.EqAt.int_str a t' b t
  | _=>exact absurd (show false=true from fx) Bool.false_ne_true
 | str a =>
  obtain⟨t',rfl⟩:=ry
  cases x with
  | non=>cases rx; exact SeqAt.EqAt.str_none a t'
  | bl b=>cases rx; exact SeqAt.EqAt.str_bool a t' b
  | int b=>obtain⟨t,rfl⟩:=rx; exact SeqAt.EqAt.str_int a t' b t
  | str b=>obtain⟨t,rfl⟩:=rx; exact SeqAt.EqAt.str_str a t' b t
  | _=>exact absurd (show false=true from fx) Bool.false_ne_true
 | _=>exact absurd (show false=true from fy) Bool.false_ne_true
def eqU(x:V)(u:Value):Bool:=match u with
 | .none=>eqV .non x
 | .bool b=>eqV (.bl b) x
 | .int i _=>eqV (.int i) x
 | .str z _=>eqV (.str z) x
 | _=>false
theorem zjU{x y:V}{u:Value}(r:zap y u)(f:zdR y=true):eqU x u=eqV y x:=by
 cases y with
 | non=>cases r; rfl
 | bl b=>cases r; rfl
 | int i=>obtain⟨t,rfl⟩:=r; rfl
 | str z=>obtain⟨t,rfl⟩:=r; rfl
 | _=>exact absurd (show false=true from f) Bool.false_ne_true
theorem zeN{x:V}:∀ {xs:List V} {us:List Value},zac xs us->xs.all zdR=true->us.any (eqU x)=xs.any fun y=>eqV y x
 | _,_,.nil,_=>rfl
 | y::xs,u::us,.cons r t,f=>by
  rw [List.all_cons,Bool.and_eq_true]at f
  rw [List.any_cons,List.any_cons,zjU r f.1,zeN t f.2]
theorem zdk{A:Around}{s:Shared}{x:V}{v:Value}(rx:zap x v)(fx:zdR x=true):∀ {xs:List V} {us:List Value},zac xs us->xs.all zdR=true->∀ u∈us,SeqAt.EqAt A s u v (eqU x u)
 | _,_,.nil,_=>fun u hu=>by cases hu
 | y::xs,u::us,.cons r t,f=>fun u' hu=>by
  rw [List.all_cons,Bool.and_eq_true]at f
  rcases List.mem_cons.mp hu with rfl | hu
  ·rw [zjU r f.1]; exact zsT r rx f.1 fx
  ·exact zdk rx fx t f.2 u' hu
def inV(x:V)(xs:List V):Bool:=xs.any fun y=>eqV y x
def rIn(K:PySem.W.Frag)(neg:Bool):R2:=fun x y H Q=>∃ p xs,y=.ref p/\(SqL K H p xs\/SqT K H p xs)/\zdR x=true/\xs.all zdR=true/\Q (.bl (if neg then !inV x xs else inV x xs)) H
theorem zlW:OpR X (compareOp .In) (rIn X.K false):=by
 intro pins s σ H x y v u Q I rx ry h
 obtain⟨p,xs,rfl,hq,fx,fs,q⟩:=h
 cases ry
 rcases hq with hq | hq
 ·obtain⟨its,r,pl,hz⟩:=I.list hq
  refine SeqAt.in_listAt (eqU x) pl.isList (fun w hw=>zdk rx fx r fs w (by simpa using hw)) ⟨.bl _,H,I,rfl,?_⟩
  rw [show its.toArray.any (eqU x)=its.any (eqU x) by simp,zeN r fs]
  exact q
 ·obtain⟨its,r,pl,hz⟩:=I.tuple hq
  refine SeqAt.in_tupleAt (eqU x) pl (fun w hw=>zdk rx fx r fs w (by simpa using hw)) ⟨.bl _,H,I,rfl,?_⟩
  rw [show its.toArray.any (eqU x)=its.any (eqU x) by simp,zeN r fs]
  exact q
theorem zhQ:OpR X (compareOp .NotIn) (rIn X.K true):=by
 intro pins s σ H x y v u Q I rx ry h
 obtain⟨p,xs,rfl,hq,fx,fs,q⟩:=h
 cases ry
 rcases hq with hq | hq
 ·obtain⟨its,r,pl,hz⟩:=I.list hq
  refine SeqAt.notIn_listAt (eqU x) pl.isList (fun w hw=>zdk rx fx r fs w (by simpa using hw)) ⟨.bl _,H,I,rfl,?_⟩
  rw [show its.toArray.any (eqU x)=its.any (eqU x) by simp,zeN r fs]
  exact q
 ·obtain⟨its,r,pl,hz⟩:=I.tuple hq
  refine SeqAt.notIn_tupleAt (eqU x) pl (fun w hw=>zdk rx fx r fs w (by simpa using hw)) ⟨.bl _,H,I,rfl,?_⟩
  rw [show its.toArray.any (eqU x)=its.any (eqU x) by simp,zeN r fs]
  exact q
theorem zhR:zb6 X (.builtin "len") (fun xs H Q=>∃ p ys,xs=[.ref p]/\(SqL X.K H p ys\/SqT X.K H p ys)/\Q (.int ys.length) H):=by
 intro pins s σ H xs us Q I r h
 obtain⟨p,ys,rfl,hq,q⟩:=h
 obtain⟨u,rfl,rx⟩:=zeM r
 cases rx
 have hn:=zey
 rcases hq with hq | hq
 ·obtain⟨its,r',pl,hz⟩:=I.list hq
  have hlen:=r'.length
  exact Calls.call_len_list pl.isList (by simp only [List.size_toArray]<;>omega) ⟨.int ys.length,H,I.tok _,⟨s.toks+1,by rw [List.size_toArray,hlen]⟩,q⟩
 ·obtain⟨its,r',pl,hz⟩:=I.tuple hq
  have hlen:=r'.length
  exact len_tuple pl (by simp only [List.size_toArray]<;>omega) ⟨.int ys.length,H,I.tok _,⟨s.toks+1,by rw [List.size_toArray,hlen]⟩,q⟩
theorem zg0:zb6 X (.type "tuple") (fun xs H Q=>∃ p ys,xs=[.ref p]/\((SqL X.K H p ys/\∀ l,H l=none->Q (.ref l) (upd H l (.tup ys)))\/(SqT X.K H p ys/\Q (.ref p) H))):=by
 intro pins s σ H xs us Q I r h
 obtain⟨p,ys,rfl,h⟩:=h
 obtain⟨u,rfl,rx⟩:=zeM r
 cases rx
 rcases h with ⟨hq,q⟩ | ⟨hq,q⟩
 ·obtain⟨its,r',pl,hz⟩:=I.list hq
  have hlen:=r'.length
  refine call_tuple_list pl.isList (fun h' kp=>?_) (by simp only [List.size_toArray]<;>omega)
  have I1:Inv X pins σ H { s with heap:=h' }:=I.kept (t':=s.toks) kp
  have I2:Inv X pins σ (upd H h'.objs.size (.tup ys)) { s with heap:=h'.push { cls:=.type "tuple",data:=.seq its.toArray } } :=
   I1.laid (t':=s.toks) (fun b o e=>Heap.get?_push_of_some _ e) (Nat.le_refl _) (show zaN X.prog X.w _ _ _ (.tup ys) from⟨hz,its,r',IsTup.new _ _⟩)
  exact⟨.ref h'.objs.size,_,I2,rfl,q _ (I1.hok.fresh (Nat.le_refl _))⟩
 ·obtain⟨its,r',pl,hz⟩:=I.tuple hq
  exact call_tuple_same pl ⟨.ref p,H,I,rfl,q⟩
def tyV(K:PySem.W.Frag)(T:String)(x:V)(H:Hp):Prop:=match x with
 | .str _=>T = "str"
 | .int _=>T = "int"
 | .ref p=>(T = "list"/\∃ xs,SqL K H p xs)\/(T = "tuple"/\∃ o,K.lookup p=some o/\o.cls=.type "tuple"/\o.dict=none) \/
   (T = "dict"/\((∃ kvs,H p=some (.dK kvs))\/∃ kvs,H p=some (.dT kvs)))\/(T = "set"/\∃ S n,H p=some (.set S n))
 | _=>False
theorem zmQ{pins:List (Addr×Obj)}{σ:St}{H:Hp}{s:Shared}{T:String}{x:V}{v:Value}(I:Inv X pins σ H s)(r:zap x v)(ty:tyV X.K T x H) :
  s.TypeIs v T/\∀ a,v=.ref a->∃ ob,s.heap.get? a=some ob/\ob.dict=none:=by
 cases x with
 | str z =>
  obtain⟨t,rfl⟩:=r
  cases(show T = "str" from ty)
  exact⟨typeIs_str s z t,fun _ e=>nomatch e⟩
 | int i =>
  obtain⟨t,rfl⟩:=r
  cases(show T = "int" from ty)
  exact⟨typeIs_int s i t,fun _ e=>nomatch e⟩
 | ref p =>
  cases r
  rcases ty with ⟨rfl,xs,hq⟩ | ⟨rfl,o,hk,hc,hd⟩ | ⟨rfl,hk⟩ | ⟨rfl,S,n,hk⟩
  ·obtain⟨its,_,pl,_⟩:=I.list hq
   refine⟨pl.isList.typeIs,fun a e=>?_⟩
   cases e
   obtain⟨o,n,e,c,hd,_⟩:=pl
   exact⟨o,e,hd⟩
  ·refine⟨⟨o,I.kIn p o hk,hc⟩,fun a e=>?_⟩
   cases e
   exact⟨o,I.kIn _ o hk,hd⟩
  ·have z:∃ o,s.heap.get? p=some o/\o.ExactDict:=by
    rcases hk with ⟨kvs,hk⟩ | ⟨kvs,hk⟩
    ·obtain⟨_,_,_,_,o,_,_,e,ex,_⟩:=I.hok p _ hk
     exact⟨o,e,ex⟩
    ·obtain⟨_,_,_,_,o,_,_,e,ex,_⟩:=I.hok p _ hk
     exact⟨o,e,ex⟩
   obtain⟨o,e,ex⟩:=z
   refine⟨⟨o,e,ex.1⟩,fun a e2=>?_⟩
   cases e2
   exact⟨o,e,ex.2.1⟩
  ·obtain⟨o,_,_,_,e,ex,_⟩:=I.hok p _ hk
   refine⟨⟨o,e,ex.1⟩,fun a e2=>?_⟩
   cases e2
   exact⟨o,e,ex.2.1⟩
 | _=>exact False.elim ty
def zsU(K:PySem.W.Frag)(T:String)(r:V->List V->Hp->VK->Prop)(to:TE):TE:=fun σ H Q=>to σ H fun x H1=>tyV K T x H1/\r x [] H1 Q
def tBM(K:PySem.W.Frag)(T:String)(r:V->List V->Hp->VK->Prop)(to:TE)(t:TA):TE:=fun σ H Q=>to σ H fun x H1=>tyV K T x H1/\t σ H1 fun xs H2=>r x xs H2 Q
variable {o e:Expr} {es:List Expr} {to:TE} {t:TA} {name:Str} {apos cpos:Pos} {T id:String} {r:V->List V->Hp->VK->Prop}
theorem zsV(pa:PlainAttrs T)(slot:Slot T name id)(hty:typeOf (.builtin id)=pure (.type "method_descriptor"))(hm:MtR X id r)(ho:PE X o to)
  (hbase:attributeBase o name X.env (eval o X.env)=eval o X.env:=by rfl) (hline:(apos.endLine==cpos.line)=true:=by rfl):PE X (.Call (.Attribute o name apos) [] [] cpos) (zsU X.K T r to):=by
 intro pins s σ H Q I h
 refine wpAny_Call_method0_late hbase hline (thn (ho pins s σ H _ I h) fun v s1 ⟨x,H1,I1,r1,ty,q1⟩=>?_)
 obtain⟨h1,h2⟩:=zmQ I1 r1 ty
 exact⟨T,id,pa,slot,hty,h1,h2,Calls.callWith_builtin rfl (PySem.evalArgs_none (hm pins s1 σ H1 x [] v [] Q I1 r1 .nil q1))⟩
theorem zvH(pa:PlainAttrs T)(slot:Slot T name id)(hty:typeOf (.builtin id)=pure (.type "method_descriptor"))(hm:MtR X id r)(ho:PE X o to)(ha:PA X (e::es) t)
  (hbase:attributeBase o name X.env (eval o X.env)=eval o X.env:=by rfl)
  (hfew:((backTo cpos (starEach (e::es) X.env)).all (fun x=>!x.1) && (backToKw cpos (keywordEach [] X.env)).all (fun x=>x.1.isSome)
   && decide ((e::es).length+([]:List Keyword).length+(if([]:List Keyword).isEmpty then 0 else 1) < 30))=true:=by rfl)
  (hline:(apos.endLine==cpos.line)=true:=by rfl) (hs:starEach (e::es) X.env=(false,eval e X.env)::starEach es X.env:=by rfl) (hplain:(backTo cpos (starEach es X.env)).any (·.1)=false:=by rfl) :
  PE X (.Call (.Attribute o name apos) (e::es) [] cpos) (tBM X.K T r to t):=by
 intro pins s σ H Q I h
 refine wpAny_Call_method_late hbase hfew hline rfl (thn (ho pins s σ H _ I h) fun v s1 ⟨x,H1,I1,r1,ty,q1⟩=>?_)
 obtain⟨h1,h2⟩:=zmQ I1 r1 ty
 refine⟨T,id,pa,slot,hty,h1,h2,?_⟩
 have hA:=ha cpos pins s1 σ H1 _ I1 q1
 rw [hs]at hA ⊢
 refine Calls.callWith_builtin (by show(false || (backTo cpos (starEach es X.env)).any (·.1))=false; rw [hplain]<;>rfl) (Calls.evalArgs_plain ?_)
 exact thn hA fun us s2 ⟨vs,H2,I2,r2,q2⟩=>hm pins s2 σ H2 x vs v us Q I2 r1 r2 q2
end
def MtM(X:Cx)(id:String)(r:V->List V->Hp->VK->Prop):Prop :=
 ∀ (pins:List (Addr×Obj)) (s:Shared) (σ:St) (H:Hp) (x:V) (xs:List V) (v:Value) (us:List Value) (Q:VK),Inv X pins σ H s->zap x v->zac xs us->r x xs H Q ->
  wpAny (model X.prog X.w) X.A (call (.builtin id) (v::us)) (EP X pins σ Q) X.xe s
theorem zac.one:∀ {x:V} {us:List Value},zac [x] us->∃ u,us=[u]/\zap x u
 | _,_,.cons r .nil=>⟨_,rfl,r⟩
theorem zac.zero:∀ {us:List Value},zac [] us->us=[]
 | _,.nil=>rfl
theorem zac.dropLast{xs:List V}{us:List Value}(h:zac xs us):zac xs.dropLast us.dropLast:=by
 induction h with
 | nil=>exact .nil
 | cons r t ih =>
  cases t with
  | nil=>exact .nil
  | cons q t'=>exact .cons r ih
theorem zac.eraseIdx:∀ {xs:List V} {us:List Value} (i:Nat),zac xs us->zac (xs.eraseIdx i) (us.eraseIdx i)
 | _,_,_,.nil=>.nil
 | _,_,0,.cons _ t=>t
 | _,_,i+1,.cons r t=>.cons r (zac.eraseIdx i t)
theorem zac.reverse{xs:List V}{us:List Value}(h:zac xs us):zac xs.reverse us.reverse:=by
 induction h with
 | nil=>exact .nil
 | cons r t ih=>rw [List.reverse_cons,List.reverse_cons]; exact zac.append ih (.cons r .nil)
theorem zac.rep{xs:List V}{us:List Value}(h:zac xs us):∀ k:Nat,zac (List.replicate k xs).flatten (List.replicate k us).flatten
 | 0=>.nil
 | k+1=>by
  rw [List.replicate_succ,List.replicate_succ,List.flatten_cons,List.flatten_cons]
  exact zac.append h (zac.rep h k)
theorem zjV{α:Type}(l:List α):l.eraseIdx (l.length - 1)=l.dropLast:=by
 induction l with
 | nil=>rfl
 | cons a r ih =>
  cases r with
  | nil=>rfl
  | cons b r =>
   have e:(a::b::r).length - 1=((b::r).length - 1)+1:=by
    have h1:(a::b::r).length=r.length+2:=rfl
    have h2:(b::r).length=r.length+1:=rfl
    omega
   rw [e,List.eraseIdx_cons_succ,ih]
   all_goals rfl
theorem zhn(its:List Value):∀ (k:Nat) (acc:List Value),
  List.foldl (fun x1 x2=>x1++x2) acc.toArray (List.replicate k its.toArray)=(acc++(List.replicate k its).flatten).toArray
 | 0,acc=>by simp
 | k+1,acc=>by
  have e:acc.toArray++its.toArray=(acc++its).toArray:=by simp
  have e2:(acc++its)++(List.replicate k its).flatten=acc++(List.replicate (k+1) its).flatten:=by
   rw [List.replicate_succ,List.flatten_cons,List.append_assoc]
  rw [<-e2,<-zhn its k (acc++its),<-e,List.replicate_succ,List.foldl_cons]
section
variable {X:Cx} {pins:List (Addr×Obj)} {σ:St} {H:Hp} {s:Shared} {l b:Addr} {xs ys zs:List V}
theorem Inv.lset{its its':List Value}{n:Nat}{f:Array Value->Array Value}{t':Nat}(I:Inv X pins σ H s)(hH:H l=some (.lst xs))
  (e:s.heap.get? l=some { cls:=.type "list",data:=.seq its.toArray n }) (hf:f its.toArray=its'.toArray) (hv:zac ys its') (hz:ys.length<=sizeLine) :
  Inv X pins σ (upd H l (.lst ys)) { s with heap:=s.heap.update l (Obj.mapSeq f),toks:=t' }:=by
 have q:=PySem.IsL.update e f
 rw [hf]at q
 refine I.write (x:=l) (e:=l) (by rw [hH]; exact trivial) (.inl rfl) (fun b' u hb hu=>(Heap.get?_update_other s.heap (Obj.mapSeq f) (Ne.symm hb)).trans hu) ⟨_,q⟩ ?_
 exact⟨hz,its',_,hv,q⟩
theorem Inv.lnew{its:List Value}{t':Nat}(I:Inv X pins σ H s)(hv:zac ys its)(hz:ys.length<=sizeLine) :
  Inv X pins σ (upd H s.heap.objs.size (.lst ys)) { s with heap:=s.heap.push { cls:=.type "list",data:=.seq its.toArray },toks:=t' } :=
 I.laid (fun _ _ q=>Heap.get?_push_of_some _ q) (Nat.le_refl _) ⟨hz,its,0,hv,Heap.get?_push_size _ rfl⟩
theorem Inv.fresh(I:Inv X pins σ H s):H s.heap.objs.size=none:=I.hok.fresh (Nat.le_refl _)
theorem Inv.lstM(I:Inv X pins σ H s)(hH:H l=some (.lst xs)):xs.length<=sizeLine/\∃ (its:List Value) (n:Nat),zac xs its/\xs.length=its.length/\s.heap.get? l=some { cls:=.type "list",data:=.seq its.toArray n }:=by
 obtain⟨z,its,n,r,e⟩:=I.hok l _ hH
 exact⟨z,its,n,r,r.length,e⟩
theorem zmR{n:Nat}(h:n<=sizeLine):Builtin.List.listTooLong n=false:=by
 unfold Builtin.List.listTooLong
 exact decide_eq_false (by omega)
end
section
variable {X:Cx}
def zkR:V->List V->Hp->VK->Prop:=fun x vs H Q=>∃ l xs y,x=.ref l/\vs=[y]/\H l=some (.lst xs)/\xs.length < sizeLine/\Q .non (upd H l (.lst (xs++[y])))
theorem zbc:MtM X "list.append" zkR:=by
 intro pins s σ H x vs v us Q I rx rv h
 obtain⟨l,xs,y,rfl,rfl,hH,hz,q⟩:=h
 cases rx
 obtain⟨u,rfl,ru⟩:=rv.one
 obtain⟨z,its,n,r,hl,e⟩:=I.lstM hH
 refine call_meets F.slot_list_append ⟨_,e,rfl⟩ F.entry_list_append (F.args_list_append_2 _ _) (PySem.list_append l its.toArray n u (by rw [List.size_toArray]; omega)) ⟨e,?_⟩
 refine⟨.non,_,I.lset (its':=its++[u]) hH e (by simp) (r.append (.cons ru .nil)) ?_,rfl,q⟩
 rw [List.length_append,List.length_singleton]
 omega
def zpx:V->List V->Hp->VK->Prop:=fun x vs H Q=>∃ l b xs zs,x=.ref l/\vs=[.ref b]/\H l=some (.lst xs)/\H b=some (.lst zs)/\xs.length+zs.length<=sizeLine/\Q .non (upd H l (.lst (xs++zs)))
theorem zvv:MtM X "list.extend" zpx:=by
 intro pins s σ H x vs v us Q I rx rv h
 obtain⟨l,b,xs,zs,rfl,rfl,hH,hB,hz,q⟩:=h
 cases rx
 obtain⟨u,rfl,ru⟩:=rv.one
 cases ru
 obtain⟨z,its,n,r,hl,e⟩:=I.lstM hH
 obtain⟨z2,its2,n2,r2,hl2,e2⟩:=I.lstM hB
 have hsz:its.toArray.size+its2.toArray.size<=sizeLine:=by rw [List.size_toArray,List.size_toArray]; omega
 have hlong:¬(!its.toArray.isEmpty && Builtin.List.listTooLong (its.toArray.size+its2.toArray.size))=true:=by
  rw [zmR hsz,Bool.and_false]
  exact Bool.false_ne_true
 refine call_meets F.slot_list_extend ⟨_,e,rfl⟩ F.entry_list_extend (F.args_list_extend_2 _ _)
  (AutoSeq1.list_extend_list_list_0 l its.toArray n b its2.toArray n2 hlong (by rw [List.size_toArray]; omega) (by omega)) ⟨e,e2,?_⟩
 refine⟨.non,_,I.lset (its':=its++its2) hH e (by simp) (r.append r2) ?_,rfl,q⟩
 rw [List.length_append]
 omega
def zxL:V->List V->Hp->VK->Prop:=fun x vs H Q=>∃ l xs y,x=.ref l/\vs=[]/\H l=some (.lst xs)/\xs[xs.length - 1]?=some y/\Q y (upd H l (.lst xs.dropLast))
theorem zxM:MtM X "list.pop" zxL:=by
 intro pins s σ H x vs v us Q I rx rv h
 obtain⟨l,xs,y,rfl,rfl,hH,hy,q⟩:=h
 cases rx
 have hus:=rv.zero
 subst hus
 obtain⟨z,its,n,r,hl,e⟩:=I.lstM hH
 obtain⟨u,hu,ru⟩:=r.get hy
 have hy':its.toArray[its.toArray.size - 1]?=some u:=by
  show its.toArray[its.length - 1]?=some u
  rw [<-Array.getElem?_toList,<-hl]
  exact hu
 refine call_meets F.slot_list_pop ⟨_,e,rfl⟩ F.entry_list_pop (F.args_list_pop_1 _) (MeetsSeq.list_pop_last l its.toArray n u hy' (by rw [List.size_toArray]; omega)) ⟨e,?_⟩
 refine⟨y,_,I.lset (its':=its.dropLast) hH e ?_ r.dropLast ?_,ru,q⟩
 ·show its.toArray.eraseIdxIfInBounds (its.toArray.size - 1)=its.dropLast.toArray
  rw [List.size_toArray,List.eraseIdxIfInBounds_toArray,zjV]
 ·rw [List.length_dropLast]
  omega
def zmS:V->List V->Hp->VK->Prop:=fun x vs H Q=>∃ l xs,x=.ref l/\vs=[]/\H l=some (.lst xs)/\Q .non (upd H l (.lst []))
theorem zmT:MtM X "list.clear" zmS:=by
 intro pins s σ H x vs v us Q I rx rv h
 obtain⟨l,xs,rfl,rfl,hH,q⟩:=h
 cases rx
 have hus:=rv.zero
 subst hus
 obtain⟨z,its,n,r,hl,e⟩:=I.lstM hH
 refine call_meets F.slot_list_clear ⟨_,e,rfl⟩ F.entry_list_clear (F.args_list_clear_1 _) (AutoSeq1.list_clear_list_0 l its.toArray n (by rw [List.size_toArray]; omega)) ⟨e,?_⟩
 exact⟨.non,_,I.lset (its':=[]) (ys:=[]) hH e rfl .nil (Nat.zero_le _),rfl,q⟩
def zvI:R2:=fun x y H Q=>∃ l b xs zs,x=.ref l/\y=.ref b/\H l=some (.lst xs)/\H b=some (.lst zs)/\xs.length+zs.length<=sizeLine/\∀ p,H p=none->Q (.ref p) (upd H p (.lst (xs++zs)))
theorem zsW:OpR X (binaryOp .Add) zvI:=by
 intro pins s σ H x y v u Q I rx ry h
 obtain⟨l,b,xs,zs,rfl,rfl,hH,hB,hz,q⟩:=h
 cases rx
 cases ry
 obtain⟨z,its,n,r,hl,e⟩:=I.lstM hH
 obtain⟨z2,its2,n2,r2,hl2,e2⟩:=I.lstM hB
 refine PySem.P.add_list e e2 ?_ (by rw [List.size_toArray,List.size_toArray]; omega)
 have ea:its.toArray++its2.toArray=(its++its2).toArray:=by simp
 rw [ea]
 exact⟨.ref _,_,I.lnew (t':=s.toks) (r.append r2) (by rw [List.length_append]; omega),rfl,q _ I.fresh⟩
theorem zkS{α:Type}(xs:List α)(k:Nat):(List.replicate k xs).flatten.length=k * xs.length:=by
 induction k with
 | zero=>simp
 | succ k ih=>rw [List.replicate_succ,List.flatten_cons,List.length_append,ih,Nat.succ_mul,Nat.add_comm]
end
section
variable {prog:Program} {w:World} {A:Around} {E:Value->Shared->Prop} {s:Shared}
end
section
variable {X:Cx}
end
section
variable {κ:Type} [DecidableEq κ]
def zeq(kvs:List (κ×V))(k:κ):Option V:=(kvs.find? fun kv=>decide (kv.1=k)).map (·.2)
def zdU(kvs:List (κ×V))(k:κ)(v:V):List (κ×V) :=
 if(kvs.any fun kv=>decide (kv.1=k))=true then kvs.map (fun kv=>if kv.1=k then(kv.1,v)else kv)else kvs++[(k,v)]
theorem zgg{p:κ×V}{r:List (κ×V)}{k:κ}(e:p.1=k):zeq (p::r) k=some p.2:=by simp [zeq,List.find?_cons,e]
theorem zgh{p:κ×V}{r:List (κ×V)}{k:κ}(e:¬p.1=k):zeq (p::r) k=zeq r k:=by simp [zeq,List.find?_cons,e]
theorem ziO(k:κ):∀ kvs:List (κ×V),(kvs.any fun kv=>decide (kv.1=k))=(zeq kvs k).isSome
 | []=>rfl
 | p::r=>by
  rw [List.any_cons]
  by_cases e:p.1=k
  ·simp only [zgg e,decide_eq_true e,Bool.true_or,Option.isSome_some]
  ·rw [zgh e,decide_eq_false e,Bool.false_or]; exact ziO k r
theorem zfB(kvs:List (κ×V))(k:κ)(v:V):(zdU kvs k v).length<=kvs.length+1:=by
 unfold zdU
 split
 ·rw [List.length_map]; omega
 ·rw [List.length_append,List.length_cons,List.length_nil]; omega
theorem zew.isSome_eq{o:Option V}{u:Option Value}(r:zew o u):o.isSome=u.isSome:=by
 cases o with
 | none=>cases u with
  | none=>rfl
  | some _=>exact(show False from r).elim
 | some _=>cases u with
  | none=>exact(show False from r).elim
  | some _=>rfl
theorem zew.getD{o:Option V}{u:Option Value}{d:V}{d':Value}(r:zew o u)(rd:zap d d'):zap (o.getD d) (u.getD d'):=by
 cases o with
 | none=>cases u with
  | none=>exact rd
  | some _=>exact(show False from r).elim
 | some _=>cases u with
  | none=>exact(show False from r).elim
  | some _=>exact r
theorem KV.val{kvs:List (κ×V)}{vs:List (κ×Value)}(r:KV kvs vs)(k:κ):zew (zeq kvs k) (valueAt vs k):=by
 unfold KV at r
 induction r with
 | nil=>exact True.intro
 | @cons p q ps qs h t ih =>
  obtain⟨h1,h2⟩:=h
  by_cases e:p.1=k
  ·have e':q.1=k:=h1.symm.trans e
   have b:valueAt (q::qs) k=some q.2:=by simp [valueAt,List.find?_cons,e']
   rw [zgg e,b]; exact h2
  ·have e':¬q.1=k:=fun z=>e (h1.trans z)
   have b:valueAt (q::qs) k=valueAt qs k:=by simp [valueAt,List.find?_cons,e']
   rw [zgh e,b]; exact ih
theorem KV.any{kvs:List (κ×V)}{vs:List (κ×Value)}(r:KV kvs vs)(k:κ):(kvs.any fun kv=>decide (kv.1=k))=vs.any fun kv=>decide (kv.1=k):=by
 unfold KV at r
 induction r with
 | nil=>rfl
 | cons h t ih=>rw [List.any_cons,List.any_cons,ih,h.1]
theorem KV.repl{kvs:List (κ×V)}{vs:List (κ×Value)}(r:KV kvs vs)(k:κ){y:V}{u:Value}(ry:zap y u) :
  KV (kvs.map fun kv=>if kv.1=k then(kv.1,y)else kv) (vs.map fun kv=>if kv.1=k then(kv.1,u)else kv):=by
 unfold KV at r ⊢
 induction r with
 | nil=>exact .nil
 | @cons p q ps qs h t ih =>
  rw [List.map_cons,List.map_cons]
  refine .cons ?_ ih
  obtain⟨h1,h2⟩:=h
  by_cases e:p.1=k
  ·rw [if_pos e,if_pos (h1.symm.trans e)]; exact⟨h1,ry⟩
  ·rw [if_neg e,if_neg (fun z=>e (h1.trans z))]; exact⟨h1,h2⟩
theorem KV.put{kvs:List (κ×V)}{vs:List (κ×Value)}(r:KV kvs vs)(k:κ){y:V}{u:Value}(ry:zap y u):KV (zdU kvs k y) (stored vs k u):=by
 unfold zdU stored
 rw [r.any k]
 by_cases e:(vs.any fun kv=>decide (kv.1=k))=true
 ·rw [if_pos e,if_pos e]; exact r.repl k ry
 ·rw [if_neg e,if_neg e]; exact Paired.snoc r ⟨rfl,ry⟩
theorem KV.length{kvs:List (κ×V)}{vs:List (κ×Value)}(r:KV kvs vs):kvs.length=vs.length:=Paired.length r
end
theorem zkT{P:Program}{w:World}{k:Key}{u:Value}(r:zap (kV k) u):(za6 P w).is k u=true:=by
 cases k with
 | inl i=>obtain⟨t,e⟩:=(show ∃ t,u=Value.int i t from r); subst e; exact ziJ P w i t
 | inr x=>obtain⟨t,e⟩:=(show ∃ t,u=Value.str x t from r); subst e; exact ziK P w x t
theorem zho{P:Program}{w:World}:∀ {ks:List Key} {us:List Value},zac (ks.map kV) us->ItemsAre (za6 P w) ks us
 | [],_,r=>by rw [List.map_nil]at r; cases r; exact .nil
 | k::ks,_,r=>by
  rw [List.map_cons]at r
  cases r with
  | cons h t=>exact .cons (zkT h) (zho t)
abbrev KT(H:Hp):List (List Key×V)->List (List Key×Addr×Value)->Prop:=Paired fun p q=>p.1=q.1/\H q.2.1=some (.tup (p.1.map kV))/\zap p.2 q.2.2
theorem KT.val{H:Hp}{kvs:List (List Key×V)}{xs:List (List Key×Addr×Value)}(r:KT H kvs xs)(k:List Key):zew (zeq kvs k) ((atKey xs k).map (·.2)):=by
 induction r with
 | nil=>exact True.intro
 | @cons p q ps qs h t ih =>
  obtain⟨h1,_,h2⟩:=h
  by_cases e:p.1=k
  ·have e':q.1=k:=h1.symm.trans e
   have b:atKey (q::qs) k=some q.2:=by simp [atKey,List.find?_cons,e']
   rw [zgg e,b]; exact h2
  ·have e':¬q.1=k:=fun z=>e (h1.trans z)
   have b:atKey (q::qs) k=atKey qs k:=by simp [atKey,List.find?_cons,e']
   rw [zgh e,b]; exact ih
theorem KT.repl{H:Hp}{kvs:List (List Key×V)}{xs:List (List Key×Addr×Value)}(r:KT H kvs xs)(k:List Key){y:V}{u:Value}(ry:zap y u) :
  KT H (kvs.map fun kv=>if kv.1=k then(kv.1,y)else kv) (xs.map (putAt k u)):=by
 induction r with
 | nil=>exact .nil
 | @cons p q ps qs h t ih =>
  rw [List.map_cons,List.map_cons]
  refine .cons ?_ ih
  obtain⟨h1,h2,h3⟩:=h
  unfold putAt
  by_cases e:p.1=k
  ·rw [if_pos e,if_pos (h1.symm.trans e)]; exact⟨h1,h2,ry⟩
  ·rw [if_neg e,if_neg (fun z=>e (h1.trans z))]; exact⟨h1,h2,h3⟩
theorem KT.put{H:Hp}{kvs:List (List Key×V)}{xs:List (List Key×Addr×Value)}(r:KT H kvs xs)(k:List Key){b:Addr}{y:V}{u:Value}(hb:H b=some (.tup (k.map kV)))(ry:zap y u) :
  KT H (zdU kvs k y) (storedH xs k b u):=by
 have e:(kvs.any fun kv=>decide (kv.1=k))=(atKey xs k).isSome:=by
  rw [ziO,(r.val k).isSome_eq,Option.isSome_map]
 unfold zdU storedH
 rw [e]
 by_cases q:(atKey xs k).isSome=true
 ·rw [if_pos q,if_pos q]; exact r.repl k ry
 ·rw [if_neg q,if_neg q]; exact Paired.snoc r ⟨rfl,hb,ry⟩
theorem KT.keeps{H H':Hp}{kvs:List (List Key×V)}{xs:List (List Key×Addr×Value)}(r:KT H kvs xs)(ht:∀ b ys,H b=some (.tup ys)->H' b=some (.tup ys)):KT H' kvs xs :=
 Paired.mapP r fun _ _ z=>⟨z.1,ht _ _ z.2.1,z.2.2⟩
section
variable {P:Program} {w:World} {H:Hp} {h:Heap} {a:Addr}
theorem ziP{u:HO}(ok:HOk P w H h)(e:Rd H a u):zaN P w H h a u:=e.ok ok
theorem ziQ{kvs:List (Key×V)}(ok:HOk P w H h)(e:Rd H a (.dK kvs)):kvs.length<=sizeLine/\(a==sysModules)=false/\∃ vs,KV kvs vs/\h.DictOf (za6 P w) a vs :=
 show zaN P w H h a (.dK kvs) from ziP ok e
theorem zvJ{kvs:List (Key×V)}(ok:HOk P w H h)(e:H a=some (.dK kvs)):kvs.length<=sizeLine/\(a==sysModules)=false/\∃ vs,KV kvs vs/\h.DictOf (za6 P w) a vs:=ziQ ok (.inl e)
theorem zff{ks:List Key}(ok:HOk P w H h)(e:H a=some (.tup (ks.map kV))):(tupleKind (za6 P w)).is h ks a:=by
 obtain⟨_,its,r,o,h1,h2,n,h3⟩:=(show zaN P w H h a (.tup (ks.map kV)) from ok a _ e)
 exact⟨o,its.toArray,n,h1,h2,h3,by simpa using zho r⟩
theorem zhp{kvs:List (List Key×V)}(ok:HOk P w H h)(e:Rd H a (.dT kvs)):kvs.length<=sizeLine/\(a==sysModules)=false /\
  ∃ xs,KT H kvs xs/\h.DictOfH (tupleKind (za6 P w)) a xs:=by
 obtain⟨z,y,xs,r,o,es,ep,h1,h2,h3,h4,h5⟩:=(show zaN P w H h a (.dT kvs) from ziP ok e)
 refine⟨z,y,xs,r,o,es,ep,h1,h2,h3,h4,fun x hx=>?_,h5⟩
 have all:∀ {l:List (List Key×V)} {m:List (List Key×Addr×Value)},KT H l m->∀ x∈m,(tupleKind (za6 P w)).is h x.1 x.2.1:=by
  intro l m q
  induction q with
  | nil=>intro x hx; exact nomatch hx
  | @cons p q ps qs hq t ih =>
   intro x hx
   rcases List.mem_cons.mp hx with e | hx
   ·subst e
    exact zff ok (by rw [<-hq.1]; exact hq.2.1)
   ·exact ih x hx
 exact all r x hx
theorem zrJ{kvs:List (List Key×V)}(ok:HOk P w H h)(e:H a=some (.dT kvs)):kvs.length<=sizeLine/\(a==sysModules)=false /\
  ∃ xs,KT H kvs xs/\h.DictOfH (tupleKind (za6 P w)) a xs:=zhp ok (.inl e)
end
def zjW(H:Hp)(a:Addr)(y:V)(r:Option V):Prop :=
 (∃ kvs k,Rd H a (.dK kvs)/\y=kV k/\r=zeq kvs k)\/∃ kvs k b,Rd H a (.dT kvs)/\y=.ref b/\H b=some (.tup (k.map kV))/\r=zeq kvs k
def ziR(H:Hp)(a:Addr)(y v:V)(H':Hp):Prop :=
 (∃ kvs k,H a=some (.dK kvs)/\y=kV k/\kvs.length < sizeLine/\H'=upd H a (.dK (zdU kvs k v))) \/
 ∃ kvs k b,H a=some (.dT kvs)/\y=.ref b/\H b=some (.tup (k.map kV))/\kvs.length < sizeLine/\H'=upd H a (.dT (zdU kvs k v))
theorem ziR.k{H:Hp}{a:Addr}{kvs:List (Key×V)}{k:Key}{v:V}(e:H a=some (.dK kvs))(hl:kvs.length < sizeLine):ziR H a (kV k) v (upd H a (.dK (zdU kvs k v))):=.inl ⟨kvs,k,e,rfl,hl,rfl⟩
theorem ziR.t{H:Hp}{a b:Addr}{kvs:List (List Key×V)}{k:List Key}{v:V}(e:H a=some (.dT kvs))(eb:H b=some (.tup (k.map kV)))(hl:kvs.length < sizeLine) :
  ziR H a (.ref b) v (upd H a (.dT (zdU kvs k v))):=.inr ⟨kvs,k,b,e,rfl,eb,hl,rfl⟩
section
variable {X:Cx} {pins:List (Addr×Obj)} {σ:St} {H:Hp} {s:Shared} {a:Addr} {y v:V} {u r:Value} {o:Option V} {A:Around} {E:Value->Shared->Prop}
theorem Inv.big(I:Inv X pins σ H s):sysModules < s.heap.objs.size:=by
 have h:mainGlobals < s.heap.objs.size:=(I.mod.glob.keeps I.bk).lt
 exact Nat.lt_trans (by decide) h
theorem zlX{Q:Value->Shared->Prop}(hu:A.units+1 < cLine)(I:Inv X pins σ H s)(g:zjW H a y (some v))(ry:zap y u)(h:∀ w' s',Inv X pins σ H s'->zap v w'->Q w' s') :
  wpAny (model X.prog X.w) A (getItem (.ref a) u) Q E s:=by
 rcases g with ⟨kvs,k,e,ey,l⟩ | ⟨kvs,k,b,e,ey,eb,l⟩
 ·subst ey
  obtain⟨z,hd,vs,rel,dd⟩:=ziQ I.hok e
  obtain⟨w',hw,rw'⟩:=zew.some_of (v:=v) (o:=valueAt vs k) (by rw [l]; exact rel.val k)
  exact wpAny_getItem_of (zkT ry) dd.mapOf hw (h w' _ (I.tok _) rw')
 ·subst ey
  cases(show u=Value.ref b from ry)
  obtain⟨z,hd,xs,rel,dd⟩:=zhp I.hok e
  obtain⟨w',hw,rw'⟩:=zew.some_of (v:=v) (o:=(atKey xs k).map (·.2)) (by rw [l]; exact rel.val k)
  obtain⟨p,hp,hp2⟩:=Option.map_eq_some_iff.mp hw
  refine wpAny_getItem_heap (tupleKind_room_in1 hu) (zff I.hok eb) dd hp ?_
  rw [hp2]
  exact h w' _ (I.tok _) rw'
theorem zhS{h':Heap}{t':Nat}{ob:HO}(I:Inv X pins σ H s)(mu:Mut (H a))(hs:Heap.SameBut a s.heap h')(he:∃ q,h'.get? a=some q)(new:zaN X.prog X.w (upd H a ob) h' a ob) :
  Inv X pins σ (upd H a ob) { s with heap:=h',toks:=t' } :=
 I.write (x:=a) (e:=a) mu (.inl rfl) (fun b q hb z=>(hs.2 b hb).trans z) he new
theorem zsX{P:Program}{w:World}{H':Hp}{h':Heap}{kvs:List (Key×V)}{vs:List (Key×Value)}(z:kvs.length<=sizeLine)(hd:(a==sysModules)=false)(rel:KV kvs vs)(dd:h'.DictOf (za6 P w) a vs) :
  zaN P w H' h' a (.dK kvs):=⟨z,hd,vs,rel,dd⟩
theorem zlY{H':Hp}{Q:Unit->Shared->Prop}(hu:A.units+1 < cLine)(I:Inv X pins σ H s)(g:ziR H a y v H')(ry:zap y u)(rv:zap v r)(h:∀ s',Inv X pins σ H' s'->Q () s') :
  wpAny (model X.prog X.w) A (setItem (.ref a) u r) Q E s:=by
 rcases g with ⟨kvs,k,e,ey,l,eH⟩ | ⟨kvs,k,b,e,ey,eb,l,eH⟩
 ·subst ey eH
  obtain⟨z,hd,vs,rel,dd⟩:=zvJ I.hok e
  have hz:vs.length<=sizeLine:=by rw [<-rel.length]; exact z
  have hl:(zdU kvs k v).length<=sizeLine:=by have:=zfB kvs k v; omega
  refine wpAny_setItem_pairs (hsz:=hz) (zkT ry) dd fun h' dd' hs=>h _ ?_
  have he:∃ q,h'.get? a=some q:=let ⟨q,_,_,hq,_⟩:=dd'; ⟨q,hq⟩
  exact zhS I (by rw [e]; exact True.intro) hs he (zsX hl hd (rel.put k rv) dd')
 ·subst ey eH
  cases(show u=Value.ref b from ry)
  obtain⟨z,hd,xs,rel,dd⟩:=zrJ I.hok e
  have hz:xs.length<=sizeLine:=by rw [<-Paired.length rel]; exact z
  have hl:(zdU kvs k v).length<=sizeLine:=by have:=zfB kvs k v; omega
  refine wpAny_setItem_heap (hsz:=hz) (tupleKind_room_in1 hu) (zff I.hok eb) dd fun h' dd' hs=>h _ ?_
  obtain⟨q,es,ep,hq,h2,h3,h4,_,h5⟩:=dd'
  refine zhS I (by rw [e]; exact True.intro) hs ⟨q,hq⟩ ⟨hl,hd,_,(rel.put k eb rv).keeps fun c ys ec=>?_,q,es,ep,hq,h2,h3,h4,h5⟩
  rw [zD (zhg ec e (fun z=>nomatch z))]
  exact ec
end
section
variable {X:Cx} {pins:List (Addr×Obj)} {σ:St} {H:Hp} {s:Shared} {a:Addr} {kvs:List (Key×V)} {k:Key} {u:Value} {A:Around} {E:Value->Shared->Prop}
end
def zsY(i:Expr):Prop:=∀ ov iv,subscripted i false ov iv=operate [ov,iv] (getItem ov iv)
theorem zpy{prog:Program}{w:World}{A:Around}{E:Value->Shared->Prop}{s:Shared}{env:Env}{value slice:Expr}{pos:Pos}{T id:String}{Q:Value->Shared->Prop}
  (hl:typeLookup (.type T) "__getitem__"=pure (some (.builtin id))) (hs:zsY slice)
  (h:wpAny (model prog w) A (eval value env) (fun o s₁=>wpAny (model prog w) A (eval slice env) (fun i s₂=>s₂.TypeIs o T/\wpAny (model prog w) A (getItem o i) Q E s₂) E s₁) E s) :
  wpAny (model prog w) A (eval (.Subscript value slice pos) env) Q E s:=by
 refine Subscript_ (wpAny_mono h (fun o s₁ h₁=>wpAny_mono h₁ (fun i s₂ h₂=>?_) fun _ _ x=>x) fun _ _ x=>x)
 obtain⟨hT,h₂⟩:=h₂
 unfold subscriptTail
 refine wpAny_bind ?_
 rw [getitemInPython_of_ne hT.not_modules]
 refine wpAny_bind (wpAny_specialOf hT hl ?_)
 have fin:wpAny (model prog w) A (subscripted slice false o i) (fun r s₃=>wpAny (model prog w) A (letTemporaryGo value o r >>= fun _=>pure r) Q E s₃) E s₂:=by
  rw [hs o i]
  exact wpAny_operating (wpAny_mono h₂ (fun r s₃ h₃=>wpAny_bind (wpAny_letTemporaryGo (wpAny_pure h₃))) fun _ _ x=>x)
 first
  | exact wpAny_pure (wpAny_bind fin)
  | exact wpAny_bind (wpAny_pure (wpAny_bind fin))
  | exact wpAny_bind fin
theorem ziS{X:Cx}{pins:List (Addr×Obj)}{σ:St}{H:Hp}{s:Shared}{a:Addr}{y:V}{o:Option V}(I:Inv X pins σ H s)(g:zjW H a y o):s.TypeIs (.ref a) "dict":=by
 rcases g with ⟨kvs,k,e,_,_⟩ | ⟨kvs,k,b,e,_,_,_⟩
 ·obtain⟨_,_,vs,_,dd⟩:=ziQ I.hok e
  exact dd.typeIs
 ·obtain⟨_,_,xs,_,dd⟩:=zhp I.hok e
  exact dd.typeIs
def zmU(td ty:TE):TE:=fun σ H Q=>td σ H fun x H1=>ty σ H1 fun y H2=>∃ a v,x=.ref a/\zjW H2 a y (some v)/\Q v H2
def zmV(td ty tv:TE):TS:=fun D σ H=>tv σ H fun v H1=>td σ H1 fun x H2=>ty σ H2 fun y H3=>∃ a H4,x=.ref a/\ziR H3 a y v H4/\D.nx σ H4
section
variable {X:Cx} {o i e value:Expr} {pos pos' tpos:Pos} {td ty tv:TE}
theorem zpz(hu:X.A.units+1 < cLine)(ho:PE X o td)(hi:PE X i ty)(hs:zsY i):PE X (.Subscript o i pos) (zmU td ty):=by
 intro pins s σ H Q I h
 refine zpy PySem.F.slot_dict_getitem.lookup hs (thn (ho pins s σ H _ I h) fun u s1 ⟨x,H1,I1,rx,q1⟩=>thn (hi pins s1 σ H1 _ I1 q1) fun iv s2 ⟨y,H2,I2,ry,a,v,ex,g,q2⟩=>?_)
 subst ex
 obtain rfl:u=Value.ref a:=rx
 exact⟨ziS I2 g,zlX hu I2 g ry fun w' s3 I3 rw'=>⟨v,H2,I3,rw',q2⟩⟩
theorem zpA(hu:X.A.units+1 < cLine)(ho:PE X o td)(hi:PE X i ty)(hv:PE X value tv)(hs:swapsWith value (some (.Subscript o i pos')) pos.line X.env=pure false) :
  PS X (.Assign [.Subscript o i pos'] value pos) (zmV td ty tv):=by
 intro pins s σ H D I h
 refine wpAny_Assign_Subscript (thn (hv pins s σ H _ I h) fun r s1 ⟨v,H1,I1,rv,q1⟩=>thn (ho pins s1 σ H1 _ I1 q1) fun u s2 ⟨x,H2,I2,rx,q2⟩=>thn (hi pins s2 σ H2 _ I2 q2) fun iv s3 ⟨y,H3,I3,ry,a,H4,ex,g,q3⟩=>?_) hs
 subst ex
 obtain rfl:u=Value.ref a:=rx
 exact zlY hu I3 g ry rv fun s4 I4=>⟨σ,H4,I4,q3⟩
end
theorem ziT{P:Program}{w:World}{H:Hp}(h:Heap)(hb:sysModules < h.objs.size):zaN P w H (h.push { cls:=.type "dict",data:=.dict #[] }) h.objs.size (.dT []) :=
 ⟨Nat.zero_le _,beq_eq_false_iff_ne.mpr (Ne.symm (Nat.ne_of_lt hb)),[],.nil,_,#[],0,Heap.get?_push_size _ rfl,⟨rfl,rfl,rfl⟩,rfl,rfl,List.nodup_nil⟩
def zjX:TE:=fun _ H Q=>∀ p,H p=none->Q (.ref p) (upd H p (.dT []))
section
variable {X:Cx} {pos:Pos}
theorem zmW:PE X (.Dict [] [] pos) zjX:=fun pins s σ H Q I h =>
 wpAny_Dict_empty ⟨.ref s.heap.objs.size,_,I.laid (a:=s.heap.objs.size) (o:=.dT []) (t':=s.toks) (fun _ _ q=>Heap.get?_push_of_some _ q) (Nat.le_refl _) (ziT s.heap I.big),rfl,h _ (I.hok.fresh (Nat.le_refl _))⟩
end
def zsZ(kvs more:List (Key×V)):List (Key×V):=more.foldl (fun acc kv=>zdU acc kv.1 kv.2) kvs
theorem KV.merge:∀ {more:List (Key×V)} {rs:List (Key×Value)} {kvs:List (Key×V)} {vs:List (Key×Value)},KV more rs->KV kvs vs->KV (zsZ kvs more) (merged vs rs):=by
 intro more rs kvs vs r
 unfold KV at r
 induction r generalizing kvs vs with
 | nil=>intro q; exact q
 | @cons p q ps qs h t ih =>
  intro r0
  have e:KV (zdU kvs p.1 p.2) (stored vs q.1 q.2):=by
   have:=r0.put p.1 h.2
   rw [<-h.1]; exact this
  exact ih e
structure M2 (X:Cx) (o:Expr) (m:Str) (apos:Pos) (e f:Expr) (cpos:Pos):Prop where
 base:attributeBase o m X.env (eval o X.env)=eval o X.env
 few:((backTo cpos (starEach [e,f] X.env)).all (fun x=>!x.1) && (backToKw cpos (keywordEach [] X.env)).all (fun x=>x.1.isSome)
  && decide (([e,f]:List Expr).length+([]:List Keyword).length+(if([]:List Keyword).isEmpty then 0 else 1) < 30))=true
 line:(apos.endLine==cpos.line)=true
 trees:backTo cpos (starEach [e,f] X.env)=[(false,eval e X.env),(false,eval f X.env)]
def IsD(H:Hp)(a:Addr):Prop:=(∃ kvs,Rd H a (.dK kvs))\/∃ kvs,Rd H a (.dT kvs)
theorem zs0{X:Cx}{pins:List (Addr×Obj)}{σ:St}{H:Hp}{s:Shared}{a:Addr}(I:Inv X pins σ H s)(d:IsD H a) :
  s.TypeIs (.ref a) "dict"/\(∀ b,Value.ref a=.ref b->∃ ob,s.heap.get? b=some ob/\ob.dict=none)/\(a==sysModules)=false:=by
 rcases d with ⟨kvs,e⟩ | ⟨kvs,e⟩
 ·obtain⟨_,hd,vs,_,dd⟩:=ziQ I.hok e
  refine⟨dd.typeIs,fun b q=>?_,hd⟩
  cases q
  obtain⟨ob,_,_,h1,h2,_⟩:=dd
  exact⟨ob,h1,h2.2.1⟩
 ·obtain⟨_,hd,xs,_,dd⟩:=zhp I.hok e
  refine⟨dd.typeIs,fun b q=>?_,hd⟩
  cases q
  obtain⟨ob,_,_,h1,h2,_⟩:=dd
  exact⟨ob,h1,h2.2.1⟩
section
variable {X:Cx} {pins:List (Addr×Obj)} {σ:St} {H:Hp} {s:Shared} {a:Addr} {y d:V} {u r:Value} {o:Option V} {A:Around} {E:Value->Shared->Prop}
theorem zs1{Q:Value->Shared->Prop}(hu:A.units+1 < cLine)(I:Inv X pins σ H s)(g:zjW H a y o)(ry:zap y u)(rd:zap d r)(h:∀ w' s',Inv X pins σ H s'->zap (o.getD d) w'->Q w' s') :
  wpAny (model X.prog X.w) A (call (.builtin "dict.get") [.ref a,u,r]) Q E s:=by
 rcases g with ⟨kvs,k,e,ey,l⟩ | ⟨kvs,k,b,e,ey,eb,l⟩
 ·subst ey
  obtain⟨z,hd,vs,rel,dd⟩:=ziQ I.hok e
  refine call_meetsIn PySem.F.slot_dict_get dd.typeIs PySem.F.entry_dict_get (PySem.F.args_dict_get_3 _ _ _) (meets_dict_get_default (za6 X.prog X.w) a (zkT ry) hd r) ⟨_,dd.mapOf,h _ _ (I.tok _) ?_⟩
  rw [l]
  exact(rel.val k).getD rd
 ·subst ey
  cases(show u=Value.ref b from ry)
  obtain⟨z,hd,xs,rel,dd⟩:=zhp I.hok e
  refine call_meetsIn PySem.F.slot_dict_get dd.typeIs PySem.F.entry_dict_get (PySem.F.args_dict_get_3 _ _ _) (meetsH_dict_get_default (tupleKind (za6 X.prog X.w)) a b hd r) ⟨tupleKind_room_in1 hu,k,xs,zff I.hok eb,dd,h _ _ (I.tok _) ?_⟩
  rw [l]
  exact(rel.val k).getD rd
end
def zjY(td ty tx:TE):TE:=fun σ H Q=>td σ H fun x H1=>∃ a,x=.ref a/\IsD H1 a/\ty σ H1 fun y H2=>tx σ H2 fun z H3=>∃ o,zjW H3 a y o/\Q (o.getD z) H3
section
variable {X:Cx} {o e f:Expr} {apos cpos:Pos} {td ty tx:TE}
theorem zmX(hu:X.A.units+1 < cLine)(ho:PE X o td)(he:PE X e ty)(hf:PE X f tx)(m:M2 X o "get" apos e f cpos):PE X (.Call (.Attribute o "get" apos) [e,f] [] cpos) (zjY td ty tx):=by
 intro pins s σ H Q I h
 refine wpAny_Call_method m.base m.few m.line PySem.F.plainAttrs_dict PySem.F.slot_dict_get PySem.F.type_dict_get (thn (ho pins s σ H _ I h) fun u s1 ⟨x,H1,I1,rx,a,ex,d,q1⟩=>?_)
 subst ex
 obtain rfl:u=Value.ref a:=rx
 obtain⟨t1,t2,_⟩:=zs0 I1 d
 refine⟨t1,t2,?_⟩
 rw [m.trees]
 refine Calls.callWith_builtin rfl (Calls.evalArgs_plain (Calls.spliced_cons (thn (he pins s1 σ H1 _ I1 q1) fun iv s2 ⟨y,H2,I2,ry,q2⟩ =>
  Calls.spliced_cons (thn (hf pins s2 σ H2 _ I2 q2) fun fv s3 ⟨z,H3,I3,rz,ov,g,q3⟩=>Calls.spliced_nil ?_))))
 exact zs1 hu I3 g ry rz fun w' s4 I4 rw'=>⟨_,H3,I4,rw',q3⟩
end
section
variable {X:Cx} {pins:List (Addr×Obj)} {σ:St} {H:Hp} {s:Shared} {a:Addr} {kvs:List (Key×V)} {A:Around} {E:Value->Shared->Prop}
end
section
variable {X:Cx} {pins:List (Addr×Obj)} {σ:St} {H:Hp} {s:Shared} {a:Addr} {y:V} {u:Value} {A:Around} {E:Value->Shared->Prop}
end
end L2
namespace Att
open PySem PySem.W PySem.Calls PyProof.Rows
theorem zfH{P:Params}{h:Heap}:∀ (ns:List Int) (vs:List Value),WellAll P h vs (ns.map WData.int)->IntsAre vs ns:=by
 intro ns
 induction ns with
 | nil =>
  intro vs w
  rw [List.map_nil]at w
  cases w
  exact .nil
 | cons n ns ih =>
  intro vs w
  rw [List.map_cons]at w
  cases w with
  | cons a b =>
   cases a
   exact .cons _ _ (ih _ b)
theorem zlZ{l:OpenLaw}{n:Nat}(hn:l.most=some n){P:Params}{h:Heap}{args:List WData}{vals:List Value}
  (hpre:l.row.toRowW.claim.pre args=true) (hwl:WellAll P h vals args) :
  ∃ a vs ns,vals=[Value.ref a]/\args=[WData.list (ns.map WData.int)]/\h.get? a=some { cls:=.type "list",data:=.seq vs.toArray }/\IntsAre vs ns/\ns.length<=n:=by
 have hsh:WShape.hasAll [] args [.list .int]=true:=(pre_splitW hpre).1
 have hc:l.pre.holds [] { args:=args }=true:=(pre_splitW hpre).2
 obtain⟨d,r,rfl,h1,h2⟩:=hasAllW_cons hsh
 obtain rfl:=hasAllW_nil h2
 obtain⟨xs,rfl,h3⟩:=hasW_list h1
 obtain⟨ns,rfl⟩:=items_int h3
 have hlen:ns.length<=n:=by
  unfold OpenLaw.pre at hc
  have h4:(WTm.not (.lt (.lit (.int (n:Int))) (.len (.arg 0)))).holds [] { args:=[.list (ns.map .int)] }=true:=by
   have h4:=(holds_andW hc).1
   rw [hn]at h4
   exact h4
  have h5:=condW_of h4 (w_not (w_lt w_lit (w_len_list (w_arg rfl))))
  rw [List.length_map]at h5
  refine Nat.le_of_not_lt fun q=>?_
  have q':(n:Int) < ((ns.length:Nat):Int):=by omega
  first
   | (rw [decide_eq_true q']at h5; exact absurd h5 (by decide))
   | (simp at h5; omega)
 cases hwl with
 | cons w1 w2 =>
  cases w2
  cases w1 with
  | list ho hall=>exact⟨_,_,ns,rfl,rfl,ho,zfH ns _ hall,hlen⟩
theorem zl0(l:OpenLaw)(args:List WData):l.row.toRowW.claim.post args (.bool true) args=true :=
 postW_of (r:=l.row.toRowW) (X:=(true==true))
  (show WShape.has [] (.bool true) .bool=true by first | rfl | decide | simp [WShape.has,WShape.arms,WShape.armsAll])
  (show(WTm.eq .res (.lit (.bool true))).value [] { args:=args,res:=some (.bool true),after:=args }=some (.bool (true==true)) from w_eq_bool (w_res rfl) w_lit) rfl
theorem attach_call{l:OpenLaw}{n:Nat}{q:Program}{loose:List Str}{XP:(Str->Option Value)->Heap->Prop}{YP:World->Heap->Prop}{d:DefRec}
  (hn:l.most=some n) (hdf:d.params.defaults=[])
  (call:∀ (w:World) (s₀ s₁:Shared) (mg mb:Str->Option Value) (fa:Addr) (o:Obj) (pm cd doc:Value) (a:Addr) (vs:List Value) (ns:List Int),
   Ground q loose [] XP w s₀ mg mb s₁.heap->YP w s₁.heap ->
   s₁.heap.get? fa=some o->o.data=.func (docDef d.name d.params d.body d.scope pm cd doc)->s₁.heap.CodeRec cd d.name->mg d.name=some (.ref fa) ->
   s₁.heap.get? a=some { cls:=.type "list",data:=.seq vs.toArray }->IntsAre vs ns->ns.length<=n->s₁.gens=#[] ->
   codeAny (model l.prog w) callerA (.call (.ref fa) ⟨[.ref a],[]⟩) (fun r s'=>r=.ok (.ret (.bool true))/\OldK s₁.heap s'.heap/\s'.os=s₁.os/\AllBare s'.gens) s₁) :
  WalkO q loose XP YP l.row.toRowW d [] (fun f vs=>PySem.call f vs):=by
 intro w s₀ s₁ mg mb G Y fa o pm cd doc dV kV ho hd hcd hD hmg hg args vals as hpre hlay hrd hwl hlo
 obtain rfl:dV=.none:=Dflts.none hD hdf
 obtain rfl:kV=.none:=Dflts.noKw hD
 obtain⟨a,vs,ns,rfl,rfl,hobj,hints,hlen⟩:=zlZ hn hpre hwl
 refine enter_call (codeAny_mono (call w s₀ s₁ mg mb fa o pm cd doc a vs ns G Y ho (fd_plain hd) hcd hmg hobj hints hlen hg) fun r s' hq=>?_)
 obtain⟨rfl,h2,h3,h4⟩:=hq
 exact⟨.inl ⟨.bool true,.bool true,[],rfl,fun _=>rfl,.bool true,zl0 l _,fun _=>⟨List.Pairwise.nil,fun _ hm=>(nomatch hm)⟩⟩,h2,h3,h4⟩
section
variable {prog:Program} {w:World} {A:Around} {E:Value->Shared->Prop} {s:Shared} {K:Frag}
end
end Att
namespace L2
open PySem PySem.Spec PyProof.Rows
theorem zhq:∀ {vs:List Value} {ns:List Int},IntsAre vs ns->zac (ns.map V.int) vs
 | _,_,.nil=>.nil
 | _,_,.cons n t h=>.cons ⟨t,rfl⟩ (zhq h)
def zpB(H:Hp):Prop:=∀ b,H b=none\/∃ o xs,H b=some (.frz o (.lst xs))
theorem zmY{P:Program}{w:World}{K:PySem.W.Frag}{mg mb:Str->Option Value}{CX:CXT}{k:Nat}{fa a:Addr}{fd:FuncData}{x:Str}{sp:Sp}{s₁:Shared}{vs:List Value}{ns:List Int}
  (KX:K.In s₁.heap) (hns:s₁.heap.Ns mainGlobals mg) (hb:s₁.heap.Ns builtinsNs mb) (hbb:∀ x:Str,x ≠ "__name__"->mb x=bootBuiltins x) (hlim:s₁.heap.NoLimit) (hg:s₁.gens=#[])
  (ha:s₁.heap.get? a=some { cls:=.type "list",data:=.seq vs.toArray }) (hi:IntsAre vs ns) (hl:ns.length<=sizeLine) (hr:Room k callerA)
  (F:∀ base:Heap,K.In base->base.Ns mainGlobals mg->FnOk P w K mg base CX k fa fd [x] sp) (hbind:∀ (s:Shared) (u:Value),BindsTo s fd ⟨[u],[]⟩ [(x,u)])
  (hsp:∀ H:Hp,zpB H->SqL K H a (ns.map V.int)->sp [.ref a] H (fun v _=>v=.bl true) fun _ _ _=>False)
  (hCX:∀ H e s',CX [] H s₁ (fun _ _ _=>False) e s'->False) :
  codeAny (model P w) callerA (.call (.ref fa) ⟨[.ref a],[]⟩) (fun r s'=>r=.ok (.ret (.bool true))/\OldK s₁.heap s'.heap/\s'.os=s₁.os/\AllBare s'.gens) s₁:=by
 have rv:=zhq hi
 have lenV:=hi.length
 have core:∀ H:Hp,zpB H->SqL K H a (ns.map V.int)->HOk P w H s₁.heap->(∀ b,H b≠none->b=a)->(H a≠none->K.lookup a=none) ->
   codeAny (model P w) callerA (.call (.ref fa) ⟨[.ref a],[]⟩) (fun r s'=>r=.ok (.ret (.bool true))/\OldK s₁.heap s'.heap/\s'.os=s₁.os/\AllBare s'.gens) s₁:=by
  intro H hO hS hok hA hK
  have base_of:∀ {b:Addr} {o:Obj},s₁.heap.get? b=some o->H b=none->(zhM s₁.heap H).get? b=some o:=fun e n=>zmx e n
  have noA:∀ {b:Addr} {o:Obj} {es:Array DictEntry} {ep:Nat},s₁.heap.get? b=some o->o.data=.dict es ep->H b=none:=fun{b o es ep} e d=>by
   cases q:H b with
   | none=>rfl
   | some u =>
    have e':b=a:=hA b (by rw [q]; simp)
    subst e'
    rw [ha]at e; cases e
    have d':Data.seq vs.toArray _=Data.dict es ep:=d
    cases d'
  have nsK:∀ {b:Addr} {m:Str->Option Value},s₁.heap.Ns b m->(zhM s₁.heap H).Ns b m:=fun{b m} ⟨o,es,ep,e,d,r⟩=>⟨o,es,ep,base_of e (noA e d),d,r⟩
  have hKb:K.In (zhM s₁.heap H):=fun b o e=>base_of (KX b o e) (by
   cases q:H b with
   | none=>rfl
   | some u =>
    have e':b=a:=hA b (by rw [q]; simp)
    subst e'
    rw [hK (by rw [q]; simp)]at e; cases e)
  have hM:Mod K mg (zhM s₁.heap H):=⟨hKb,nsK hns,⟨mb,nsK hb,hbb⟩,let ⟨mc,h1,h2⟩:=hlim; ⟨mc,nsK h1,h2⟩⟩
  have e0:Env0 P w K mg (zhM s₁.heap H) callerA [] s₁ H:=⟨rfl,hM,fun b o e=>zo6 e,Nat.le_of_eq (zlM _ _),trivial,fun b hb=>absurd (show b∈([]:List Addr) from hb) (by simp),hok,.of_eq hg⟩
  refine codeAny_mono ((F _ hKb (nsK hns)).run callerA [] s₁ H ⟨[.ref a],[]⟩ [.ref a] [.ref a] _ _ hr e0 (hbind s₁ (.ref a)) (.cons rfl .nil) (hsp H hO hS)) fun r s' h=>?_
  cases r with
  | error e=>exact(hCX H e s' h).elim
  | ok fl =>
   cases fl with
   | next=>exact False.elim h
   | brk=>exact False.elim h
   | cont=>exact False.elim h
   | ret u =>
    obtain⟨v,H',os,bare,un,hok',r',q⟩:=h
    have q':v=.bl true:=q
    subst q'
    obtain rfl:u=Value.bool true:=r'
    refine⟨rfl,OldK.of_keep fun b o e=>?_,os,bare⟩
    cases q:H b with
    | none=>exact un.keep b o e q (by intro z; exact absurd (show b∈([]:List Addr) from z) (by simp)) (by simp)
    | some u =>
     rcases hO b with z | ⟨ob,xs,z⟩
     ·rw [q]at z; cases z
     ·have z2:=un.frzs b ob _ z
      obtain⟨e1,_⟩:=hok b _ z
      obtain⟨e2,_⟩:=hok' b _ z2
      rw [e]at e1; cases e1
      exact e2
 cases hk:K.lookup a with
 | some o =>
  have e:=KX a o hk
  rw [ha]at e
  cases e
  refine core (fun _=>none) (fun _=>.inl rfl) (.inr ⟨_,vs.toArray,_,hk,rfl,rfl,rfl,by rw [List.size_toArray,lenV]; exact hl,by simpa using rv⟩) (fun b u z=>by have z':(none:Option HO)=some u:=z; cases z') (fun b z=>absurd rfl z) fun z=>absurd rfl z
 | none =>
  refine core (fun b=>if b=a then some (.frz { cls:=.type "list",data:=.seq vs.toArray } (.lst (ns.map V.int)))else none) (fun b=>?_) (.inl (.inr ⟨{ cls:=.type "list",data:=.seq vs.toArray },if_pos rfl⟩)) (fun b u z=>?_) (fun b z=>?_) fun _=>hk
  ·by_cases hb:b=a
   ·exact .inr ⟨_,_,if_pos hb⟩
   ·exact .inl (if_neg hb)
  ·by_cases hb:b=a
   ·have z':=(if_pos hb).symm.trans z
    cases z'
    subst hb
    exact⟨ha,by rw [List.length_map]; exact hl,vs,_,rv,ha⟩
   ·have z':=(if_neg hb).symm.trans z
    cases z'
  ·by_cases hb:b=a
   ·exact hb
   ·exact absurd (if_neg hb) z
theorem walk_of{l:PySem.W.OpenLaw}{n k:Nat}{q:Program}{loose:List Str}{XP:(Str->Option Value)->Heap->Prop}{YP:World->Heap->Prop}{d:DefRec}{K:Params->PySem.W.Frag}{CX:World->CXT}{sp:World->Sp}{x:Str}
  (hn:l.most=some n) (hn2:n<=sizeLine) (hdf:d.params.defaults=[]) (hr:Room k callerA)
  (hY:∀ (w:World) (h:Heap),YP w h->(K w.params).In h)
  (F:∀ (w:World) (mg:Str->Option Value) (fa:Addr) (h:Heap),(K w.params).In h->h.Ns mainGlobals mg->mg d.name=some (.ref fa) ->
   ∃ fd:FuncData,(∀ (s:Shared) (u:Value),BindsTo s fd ⟨[u],[]⟩ [(x,u)]) /\
    ∀ base:Heap,(K w.params).In base->base.Ns mainGlobals mg->FnOk l.prog w (K w.params) mg base (CX w) k fa fd [x] (sp w))
  (hsp:∀ (w:World) (H:Hp) (a:Addr) (ns:List Int),ns.length<=n->zpB H->SqL (K w.params) H a (ns.map V.int)->sp w [.ref a] H (fun v _=>v=.bl true) fun _ _ _=>False)
  (hCX:∀ (w:World) (H:Hp) (s:Shared) (e:Value) (s':Shared),CX w [] H s (fun _ _ _=>False) e s'->False) :
  PySem.W.WalkO q loose XP YP l.row.toRowW d [] (fun f vs=>PySem.call f vs):=by
 refine Att.attach_call hn hdf fun w s₀ s₁ mg mb fa o pm cd doc a vs ns G Y ho hd hcd hmg hobj hints hlen hg=>?_
 have KX:=hY w _ Y
 obtain⟨fd,hb,hF⟩:=F w mg fa _ KX G.T.g hmg
 exact zmY KX G.T.g G.T.b G.T.builtins G.T.nolimit hg hobj hints (Nat.le_trans hlen hn2) hr hF hb (fun H hO hS=>hsp w H a ns hlen hO hS) fun H e s'=>hCX w H s₁ e s'
def zZ(s:Stmt):Arguments:=match s with
 | .FunctionDef _ a _ _ _ _ _ _ _ _=>a
 | _=>{ posonlyargs:=[],args:=[],vararg:=none,kwonlyargs:=[],kw_defaults:=[],kwarg:=none,defaults:=[] }
def zV(s:Stmt):List Stmt:=match s with
 | .FunctionDef _ _ b _ _ _ _ _ _ _=>b
 | _=>[]
def zt(s:Stmt):Scope:=match s with
 | .FunctionDef _ _ _ _ _ _ sc _ _ _=>sc
 | _=>{ kind:=.function,names:=[],isGenerator:=false,isCoroutine:=false }
abbrev CX0:CXT:=fun _ _ _ _ _ _=>False
abbrev E0:XK:=fun _ _ _=>False
theorem zrK{X:Cx}:zgc CX0 X E0:=fun _ _ _ _ _ _ _ h=>h.elim
structure Fun (K:PySem.W.Frag) (x qual:Str) (st:Stmt) (f:Addr) (fd:FuncData):Prop where
 ex:∃ (oc:Value) (od:Option Addr) (kV doc pm:Value) (an:Option Addr) (cdv ct:Value) (osl:Array (Option Value)),
  fd=PySem.W.fnOf x qual (zZ st) (zV st) (zt st) .none kV doc pm an cdv ct/\K.lookup f=some ⟨oc,od,.func fd,osl⟩/\PySem.W.codeIn K cdv qual=true
 kp:PySem.W.keepIn K (.ref f)=true
section
variable {P:Program} {w:World} {K:PySem.W.Frag} {mg:Str->Option Value} {base:Heap}
theorem Fun.ok{x qual:Str}{st:Stmt}{f:Addr}{fd:FuncData}{N ps:List Str}{k:Nat}{sp:Sp}(F:Fun K x qual st f fd)(S:FnScope N ps (zt st))(len:∀ vs H Q E,sp vs H Q E->vs.length=ps.length)
  (hbody:∀ (cdv:Value) (A:Around) (outer:List Env) (s:Shared) (H:Hp) (vs:List V) (Q:VK) (E:XK),Room k (A.deeper (envOfC qual (zt st) s.heap.objs.size f cdv))->sp vs H Q E ->
   ∃ t,PSs (zgd CX0 P w K mg base N qual (zt st) f cdv A outer s H E).nox (zV st) t/\t { nx:=fun _ H'=>Q .non H',rt:=Q } (zcd N vs) H):FnOk P w K mg base CX0 (k+1) f fd ps sp:=by
 obtain⟨oc,od,kV,doc,pm,an,cdv,ct,osl,rfl,lk,hcd⟩:=F.ex
 refine zrH lk hcd S len fun A outer s H vs Q E hr hsp=>?_
 obtain⟨t,h,q⟩:=hbody cdv A outer s H vs Q E hr hsp
 exact⟨t,h.nox,q⟩
theorem Fun.binds{x qual:Str}{st:Stmt}{f:Addr}{fd:FuncData}{ps:List Str}(F:Fun K x qual st f fd)
  (h:∀ (kV doc pm:Value) (an:Option Addr) (cdv ct:Value) (us:List Value),us.length=ps.length->bindArgs (PySem.W.fnOf x qual (zZ st) (zV st) (zt st) .none kV doc pm an cdv ct) ⟨us,[]⟩=pure (ps.zip us)):zdQ K fd ps []:=by
 obtain⟨oc,od,kV,doc,pm,an,cdv,ct,osl,rfl,lk,hcd⟩:=F.ex
 exact .all (h kV doc pm an cdv ct)
theorem zaE{x qual:Str}{st:Stmt}{f:Addr}{oc:Value}{od an:Option Addr}{osl:Array (Option Value)}{kV doc pm cdv ct:Value}(l:K.lookup f=some ⟨oc,od,.func (PySem.W.fnOf x qual (zZ st) (zV st) (zt st) .none kV doc pm an cdv ct),osl⟩)
  (c:PySem.W.codeIn K cdv qual=true) (k:PySem.W.keepIn K (.ref f)=true):Fun K x qual st f (PySem.W.fnOf x qual (zZ st) (zV st) (zt st) .none kV doc pm an cdv ct):=⟨⟨oc,od,kV,doc,pm,an,cdv,ct,osl,rfl,l,c⟩,k⟩
end
theorem zkU{A:Around}{k:Nat}(hr:Room k A):A.units+1 < cLine:=Nat.lt_of_le_of_lt (Nat.add_le_add_left (by decide:1<=64) _) hr.units
section
variable {X:Cx}
theorem pv(i:Nat){x:Str}{pos:Pos}(hN:X.N[i]?=some x:=by rfl)(hv:Vis X.env.scope x:=by first | exact Or.inl rfl | exact Or.inr (Or.inl rfl) | exact Or.inr (Or.inr rfl))(hd:(x==("__debug__":Str))=false:=by decide)
  (hcd:(x==("__classdict__":Str))=false:=by decide):PE X (.Name x pos) (zf7 i):=zse hN hv hd hcd
end
def zbE(H H':Hp):Prop:=∀ b o,H b=some o->H' b=some o
theorem zbE.refl(H:Hp):zbE H H:=fun _ _ h=>h
theorem zbE.seq{K:PySem.W.Frag}{H H':Hp}{a:Addr}{xs:List V}(e:zbE H H')(h:SqL K H a xs):SqL K H' a xs:=by
 rcases h with (h | ⟨o,h⟩) | h
 ·exact .inl (.inl (e _ _ h))
 ·exact .inl (.inr ⟨o,e _ _ h⟩)
 ·exact .inr h
section
variable {X:Cx}
end
section
variable {κ:Type} [DecidableEq κ]
end
end L2
set_option maxHeartbeats 4000000
namespace L2
open PySem PySem.Spec PyProof.Rows
inductive Frees (X:Cx):List (Str×Addr)->List Str->List Nat->Prop where
 | nil:Frees X [] [] []
 | cons {x:Str} {c:Addr} {j:Nat} {cl:List (Str×Addr)} {xs:List Str} {js:List Nat} (hN:X.N[j]?=some x) (hk:X.env.scope.names.lookup x=some .cell\/X.env.scope.names.lookup x=some .free)
   (hc:X.env.cells.lookup x=some c) (t:Frees X cl xs js):Frees X ((x,c)::cl) (x::xs) (j::js)
def za7(X:Cx)(scope:Scope)(cl:List (Str×Addr))(Nc:List Str)(C:Addr)(s:Shared)(H:Hp)(ex:List Addr):Cx :=
 { X with s₀:=s,H₀:=H,env:=compEnvC scope cl C X.env,N:=Nc,outer:=X.stack,stack:=X.stack,ex:=ex,fn:=fun _=>false,pn:=[],xe:=fun _ _=>False }
def c0(nt:Nat)(js:List Nat)(σ:St):St:=List.replicate nt none++js.map fun j=>σ.getD j none
def Wk(a b:St):Prop:=a.length=b.length/\∀ (i:Nat) (v:V),a[i]?=some (some v)->b[i]?=some (some v)
theorem zs2{a:St}{i:Nat}{x:Option V}(h:a[i]?=some none):Wk a (a.set i x):=by
 refine⟨by simp,fun j v e=>?_⟩
 have ne:i≠j:=by intro z; rw [z,e]at h; cases h
 rw [List.getElem?_set_ne ne]
 exact e
theorem zhT{nt:Nat}{js:List Nat}{σ:St}{i:Nat}(h:i < nt):(c0 nt js σ)[i]?=some none:=by
 unfold c0
 rw [List.getElem?_append_left (by simpa using h),List.getElem?_replicate,if_pos h]
theorem zce{X:Cx}{cl:List (Str×Addr)}{xs:List Str}{js:List Nat}(f:Frees X cl xs js):∀ x c,cl.lookup x=some c->X.env.cells.lookup x=some c:=by
 induction f with
 | nil=>intro x c e; cases e
 | @cons y d j cl xs js hN hk hc t ih =>
  intro x c e
  rw [List.lookup_cons]at e
  by_cases q:x=y
  ·subst q
   rw [beq_self_eq_true]at e
   injection e with e1
   rw [<-e1]
   exact hc
  ·rw [beq_eq_false_iff_ne.mpr q]at e
   exact ih x c e
theorem zhr{X:Cx}{cl:List (Str×Addr)}{xs:List Str}{js:List Nat}(f:Frees X cl xs js):∀ x,x∈xs->∃ c,cl.lookup x=some c:=by
 induction f with
 | nil=>intro x m; cases m
 | @cons y d j cl xs js hN hk hc t ih =>
  intro x m
  rw [List.lookup_cons]
  by_cases q:x=y
  ·subst q
   rw [beq_self_eq_true]
   exact⟨d,rfl⟩
  ·rw [beq_eq_false_iff_ne.mpr q]
   rcases List.mem_cons.mp m with z | z
   ·exact absurd z q
   ·exact ih x z
theorem zmZ{X:Cx}{cl:List (Str×Addr)}{xs:List Str}{js:List Nat}(f:Frees X cl xs js):∀ (i:Nat) (x:Str) (σ:St) (v:V),xs[i]?=some x->(js.map fun j=>σ.getD j none)[i]?=some (some v) ->
  ∃ j:Nat,X.N[j]?=some x/\σ[j]?=some (some v)/\(X.env.scope.names.lookup x=some .cell\/X.env.scope.names.lookup x=some .free)/\(∃ c,X.env.cells.lookup x=some c):=by
 induction f with
 | nil=>intro i x σ v e; simp at e
 | @cons y d j cl xs js hN hk hc t ih =>
  intro i x σ v e1 e2
  cases i with
  | zero =>
   simp only [List.getElem?_cons_zero,Option.some.injEq]at e1
   subst e1
   refine⟨j,hN,?_,hk,d,hc⟩
   simp only [List.map_cons,List.getElem?_cons_zero,Option.some.injEq]at e2
   rw [List.getD_eq_getElem?_getD]at e2
   cases q:σ[j]? with
   | none=>rw [q]at e2; cases e2
   | some o=>rw [q]at e2; simp at e2; rw [e2]
  | succ i =>
   exact ih i x σ v (by simpa using e1) (by simpa using e2)
theorem zdy{env:Env}:∀ {names:List (Str×NameKind)} {x:Str} {k:NameKind},
  (names.map fun(n,k)=>if(k==NameKind.free && env.scope.kind==.function && env.kindOf n==some .cell)then(n,NameKind.cell)else(n,k)).lookup x=some k ->
  ∃ k0,names.lookup x=some k0/\(x,k0)∈names/\(k=k0\/(k0=.free/\k=.cell)):=by
 intro names
 induction names with
 | nil=>intro x k e; cases e
 | cons p r ih =>
  intro x k e
  obtain⟨n,kn⟩:=p
  by_cases q:x=n
  ·subst q
   refine⟨kn,by rw [List.lookup_cons,beq_self_eq_true],List.mem_cons_self,?_⟩
   rw [List.map_cons]at e
   change List.lookup x ((if(kn==NameKind.free && env.scope.kind==.function && env.kindOf x==some .cell)=true then(x,NameKind.cell)else(x,kn))::_)=_ at e
   by_cases hh:(kn==NameKind.free && env.scope.kind==.function && env.kindOf x==some .cell)=true
   ·rw [if_pos hh,List.lookup_cons,beq_self_eq_true]at e
    injection e with e1
    refine .inr ⟨?_,e1.symm⟩
    simp only [Bool.and_eq_true]at hh
    exact by simpa using hh.1.1
   ·rw [if_neg hh,List.lookup_cons,beq_self_eq_true]at e
    injection e with e1
    exact .inl e1.symm
  ·rw [List.map_cons]at e
   change List.lookup x ((if(kn==NameKind.free && env.scope.kind==.function && env.kindOf n==some .cell)=true then(n,NameKind.cell)else(n,kn))::_)=_ at e
   have e':(r.map fun(n,k)=>if(k==NameKind.free && env.scope.kind==.function && env.kindOf n==some .cell)then(n,NameKind.cell)else(n,k)).lookup x=some k:=by
    by_cases hh:(kn==NameKind.free && env.scope.kind==.function && env.kindOf n==some .cell)=true
    ·rw [if_pos hh,List.lookup_cons,beq_eq_false_iff_ne.mpr q]at e
     exact e
    ·rw [if_neg hh,List.lookup_cons,beq_eq_false_iff_ne.mpr q]at e
     exact e
   obtain⟨k0,h1,h2,h3⟩:=ih e'
   refine⟨k0,by rw [List.lookup_cons,beq_eq_false_iff_ne.mpr q]; exact h1,List.mem_cons_of_mem _ h2,h3⟩
theorem zl1{X:Cx}{cl:List (Str×Addr)}{xs:List Str}{js:List Nat}(f:Frees X cl xs js):js.length=xs.length:=by
 induction f with
 | nil=>rfl
 | cons _ _ _ _ ih=>simp [ih]
structure ScC (scope:Scope) (xs:List Str):Prop where
 kind:scope.kind=.function
 cell:∀ y∈scope.names,y.2≠.cell
 names:∀ y∈scope.names,y.2=.local->scope.names.lookup y.1=some .local
 free:∀ y∈scope.names,y.2=.free->y.1∈xs
 fk:∀ x∈xs,scope.names.lookup x=some .free
section
variable {X:Cx} {pins:List (Addr×Obj)} {σ:St} {H:Hp} {s:Shared} {scope:Scope} {cl:List (Str×Addr)} {xs:List Str} {js:List Nat} {nt:Nat} {ts:List Str} {fp:List Addr} {C:Addr}
theorem zpC(I:Inv X pins σ H s)(S:ScC scope xs)(f:Frees X cl xs js)(hC:s.heap.objs.size<=C)(hf:∀ b∈fp,zex X pins H b)(hl:∀ b∈fp,b < s.heap.objs.size) :
  (za7 X scope cl (ts++xs) C s H fp).Ok where
 mod:=I.ok.mod
 kind:=S.kind
 glob:=I.ok.glob
 blt:=I.ok.blt
 above:=hC
 inj:=fun x y c e1 e2=>I.ok.inj x y c (zce f x c e1) (zce f y c e2)
 has:=fun x h=>by
  have z:∃ k0,scope.names.lookup x=some k0/\(x,k0)∈scope.names/\k0=NameKind.free:=by
   rcases h with h | h
   ·obtain⟨k0,h1,h2,h3⟩:=zdy (env:=X.env) (names:=scope.names) h
    rcases h3 with h3 | h3
    ·exact absurd h3.symm (S.cell _ h2)
    ·exact⟨k0,h1,h2,h3.1⟩
   ·obtain⟨k0,h1,h2,h3⟩:=zdy (env:=X.env) (names:=scope.names) h
    rcases h3 with h3 | h3
    ·exact⟨k0,h1,h2,h3.symm⟩
    ·cases h3.2
  obtain⟨k0,_,h2,h3⟩:=z
  exact zhr f x (S.free _ h2 h3)
 cab:=fun x c h=>by cases h
 hd:=I.ok.hd
 frames:=I.ok.frames
 stk:=.inl rfl
 exf:=fun b hb=>⟨Nat.ne_of_lt (Nat.lt_of_lt_of_le (hl b hb) hC),fun x c e=>(hf b hb).2.2.2.2.1 x c (zce f x c e)⟩
 bs:=I.bs
 bsz:=Nat.le_trans I.ok.bsz I.sz
 noex:=fun b o e hb=>by
  rcases(hf b hb).2.2.2.1 with z | z
  ·exact I.ok.noex b o e z
  ·exact absurd (Nat.lt_of_lt_of_le (Heap.lt_size (I.ok.bs b o e).1) z) (Nat.lt_irrefl _)
 exfs:=fun b hb z=>by
  rcases List.mem_cons.mp (I.stkSub b z)with q | q
  ·exact(hf b hb).2.1 q
  ·exact(hf b hb).2.2.1 q
 funs:=I.stack
 frf:=I.stkFree
theorem zm0{m:Str->Option Value}{h1:Heap}{tk:Nat}(I:Inv X pins σ H s)(S:ScC scope xs)(f:Frees X cl xs js)(hts:ts.length=nt)(hC:s.heap.objs.size<=C)(hf:∀ b∈fp,zex X pins H b)(hl:∀ b∈fp,b < s.heap.objs.size)
  (hk:∀ b o,s.heap.get? b=some o->h1.get? b=some o) (hn:h1.Ns C m):Inv (za7 X scope cl (ts++xs) C s H fp) [] (c0 nt js σ) H { s with heap:=h1,toks:=tk } where
 ok:=zpC I S f hC hf hl
 os:=rfl
 bare:=I.bare
 base:=Un.kept hk
 loc:=by
  refine⟨m,hn,fun i x v e1 e2 e3=>?_⟩
  have hi:nt<=i:=by
   rcases Nat.lt_or_ge i nt with z | z
   ·rw [zhT z]at e2; cases e2
   ·exact z
  have e1':xs[i - nt]?=some x:=by
   have z:(ts++xs)[i]?=some x:=e1
   rw [List.getElem?_append_right (by omega),hts]at z
   exact z
  have e2':(js.map fun j=>σ.getD j none)[i - nt]?=some (some v):=by
   unfold c0 at e2
   rw [List.getElem?_append_right (by simpa using hi),List.length_replicate]at e2
   exact e2
  obtain⟨j,hN,hσ,hkk,c,hc⟩:=zmZ f (i - nt) x σ v e1' e2'
  obtain⟨m0,_,hl0⟩:=I.loc
  obtain⟨u,r,lk⟩:=hl0 j x v hN hσ (.inr hkk)
  refine⟨u,r,.inr ⟨?_,?_⟩⟩
  ·rcases e3 with z | z | z
   ·have hx:x∈xs:=List.mem_of_getElem? e1'
    obtain⟨k0,h1,h2,h3⟩:=zdy (env:=X.env) (names:=scope.names) z
    have q:=S.fk x hx
    rw [h1]at q
    cases q
    rcases h3 with h3 | h3
    ·cases h3
    ·cases h3.2
   ·exact .inl z
   ·exact .inr z
  ·obtain⟨c',hc'⟩:=zhr f x (List.mem_of_getElem? e1')
   refine⟨c',hc',?_⟩
   have q:=zce f x c' hc'
   rcases lk with ⟨l1,_⟩ | ⟨_,c'',l2,l3⟩
   ·exfalso
    have l1':X.env.scope.names.lookup x=some .local:=l1
    rcases hkk with z | z<;>rw [z]at l1'<;>cases l1'
   ·rw [q]at l2
    cases l2
    exact l3.keeps hk
 cell:=fun x c e=>by
  obtain⟨v,z⟩:=I.cell x c (zce f x c e)
  exact⟨v,z.keeps hk⟩
 free:=I.hok.fresh hC
 freeC:=fun x c e=>I.freeC x c (zce f x c e)
 pin:=fun p hp=>by cases hp
 hok:=I.hok.kept hk
 len:=by
  show(c0 nt js σ).length=(ts++xs).length
  unfold c0
  rw [List.length_append,List.length_append,List.length_replicate,List.length_map,hts]
  rw [zl1 f]
theorem zhs{P:Program}{w:World}{H:Hp}{h:Heap}{a:Addr}{o:HO}(x:HOk P w H h)(hn:H a=none)(new:zaN P w (upd H a o) h a o):HOk P w (upd H a o) h:=fun b u e=>by
 by_cases hb:b=a
 ·subst hb; rw [zG]at e; cases e; exact new
 ·rw [zD hb]at e
  exact(x b u e).stay (fun _ _ _ q=>q) (fun c q=>(zD (zav q hn)).trans q) fun c ys q=>(zD (zav q hn)).trans q
theorem ziU{fs ex:List Addr}{H H1:Hp}{h h1:Heap}{a:Addr}{o:HO}(u:Un fs ex H H1 h h1)(hn:H1 a=none)(ha:h.objs.size<=a):Un fs ex H (upd H1 a o) h h1 where
 keep:=u.keep
 slot:=u.slot
 free:=fun b ob q n hx=>(zD (Nat.ne_of_lt (Nat.lt_of_lt_of_le (Heap.lt_size q) ha))).trans (u.free b ob q n hx)
 there:=u.there
 tups:=fun b ys q=>(zD (zav (u.tups b ys q) hn)).trans (u.tups b ys q)
 frzs:=fun b ob ys q=>(zD (zav (u.frzs b ob ys q) hn)).trans (u.frzs b ob ys q)
 tbls:=fun b ps q=>by
  obtain⟨more,e⟩:=u.tbls b ps q
  exact⟨more,(zD (zav e hn)).trans e⟩
def ziV(X:Cx)(ifs:List Expr)(t:TT):Prop :=
 ∀ (pins:List (Addr×Obj)) (s:Shared) (σ:St) (H:Hp) (Q:Bool->Hp->Prop),Inv X pins σ H s->t σ H Q ->
  wpAny (model X.prog X.w) X.A (forIn ifs true fun c r=>if r=true then do let ok <-isTrue c X.env (eval c X.env); pure (ForInStep.yield ok)else pure (ForInStep.yield r)) (TP X pins σ Q) X.xe s
def zs3:TT:=fun _ H Q=>Q true H
theorem zm1{X:Cx}:ziV X [] zs3:=fun _ _ _ H _ I h=>wpAny_tests_nil ⟨H,I,h⟩
theorem zm2{X:Cx}{c:Expr}{t:TT}(h:PT X c t):ziV X [c] t:=fun pins s σ H Q I q=>wpAny_tests_one (h pins s σ H Q I q)
theorem zs4{α:Type}{t:Sem α}{Q Q':α->Shared->Prop}{M:Model}{A:Around}{E:Value->Shared->Prop}{s:Shared}(h:wpAny M A t Q (fun _ _=>False) s)(hQ:∀ a s,Q a s->Q' a s):wpAny M A t Q' E s:=wpAny_mono h hQ fun _ _ x=>x.elim
theorem zjZ{prog:Program}{w:World}{A:Around}{R:Result->Shared->Prop}{s:Shared}{elt target iter:Expr}{ifs:List Expr}{scope:Scope}{pos:Pos}{it acc:Value}{env:Env}(I:Nat->Shared->Prop)
  (turn:∀ n s,I n s->∀ E,wpAny (model prog w) A (pyNext it) (fun r s1=>match r with
   | none=>R (.ok .next) s1
   | some v=>wpAny (model prog w) A (letOwnedTupleGo target it v) (fun _ s2=>wpAny (model prog w) A (assign target env v) (fun _ s3 =>
     wpAny (model prog w) A (forIn ifs true fun c r=>if r=true then do let ok <-isTrue c env (eval c env); pure (ForInStep.yield ok)else pure (ForInStep.yield r)) (fun ok s4 =>
      (ok=true->wpAny (model prog w) A (eval elt env) (fun x s5=>wpAny (model prog w) A (call (.builtin "list.append") [acc,x]) (fun _ s6=>∃ m,m < n/\I m s6) E s5) E s4) /\
      (ok=false->∃ m,m < n/\I m s4)) E s3) E s2) E s1) E s)
  (n:Nat) (h:I n s):codeAny (model prog w) A (.compLoop (.ListComp elt [⟨target,iter,ifs,0⟩] scope pos) 0 it acc env) R s:=by
 refine codeAny_loop rfl I (fun n s hI=>?_) n h
 show wpAny _ A ((compTurn _ 0 it acc env).onRaise (fun x=>do noteFrame x env; theTreesLotGoes x)) _ _ s
 refine wpAny_noted ?_
 rw [compTurn_list]
 refine wpAny_bind (wpAny_standAt (wpAny_bind (wpAny_mono (turn n s hI _) (fun r s1 h1=>?_) fun _ _ z=>z)))
 cases r with
 | none=>exact wpAny_pure h1
 | some v =>
  refine wpAny_bind (wpAny_mono h1 (fun _ s2 h2=>?_) fun _ _ z=>z)
  refine wpAny_bind (wpAny_mono h2 (fun _ s3 h3=>?_) fun _ _ z=>z)
  refine wpAny_bind (wpAny_mono h3 (fun ok s4 h4=>?_) fun _ _ z=>z)
  cases ok with
  | false=>exact wpAny_pure ⟨rfl,h4.2 rfl⟩
  | true =>
   refine wpAny_bind (wpAny_bind (wpAny_mono (h4.1 rfl) (fun x s5 h5=>?_) fun _ _ z=>z))
   exact wpAny_bind (wpAny_mono h5 (fun _ s6 h6=>wpAny_pure (wpAny_pure ⟨rfl,h6⟩)) fun _ _ z=>z)
def zvK(J:It)(σc:St)(g:TG)(tt:TT)(te:TE)(Z:List V->Hp->Prop)(H1:Hp):Prop :=
 ∃ W:Nat->Nat->List V->Hp->Prop,(∃ m,W 0 m [] H1)/\∀ i m ys H,W i m ys H ->
  (J.stop i H/\Z ys H)\/(J.go i H/\ys.length < sizeLine/\∃ N:List V->Hp->Prop,(∀ ys' H',N ys' H'->∃ m',m' < m/\W (i+1) m' ys' H') /\
   ∀ x H',J.yld i H x H'->g x σc H' fun σ2 H2=>tt σ2 H2 fun b H3=>if b=true then te σ2 H3 fun y H4=>N (ys++[y]) H4 else N ys H3)
def GW(σc:St)(g:TG):Prop:=∀ x H (Q:St->Hp->Prop),g x σc H Q->g x σc H fun σ2 H2=>Wk σc σ2/\Q σ2 H2
theorem zgi{elt iter tg:Expr}{ifs:List Expr}{pos:Pos}{J:It}{it:Addr}{tn:Nat->Heap->Prop}{g:TG}{tt:TT}{te:TE}{Z:List V->Hp->Prop}{RR:Value->Addr->Result->Shared->Prop}{E:Value->Shared->Prop}
  (hc:X.calm=true) (I:Inv X pins σ H s) (S:ScC scope xs) (f:Frees X cl xs js) (hts:ts.length=nt) (T:Turn X.prog X.w X.K tg J fp it tn) (st:tn 0 s.heap) (hf:∀ b∈fp,zex X pins H b)
  (hg:∀ C s H ex,PG (za7 X scope cl (ts++xs) C s H ex) tg g) (ht:∀ C s H ex,ziV (za7 X scope cl (ts++xs) C s H ex) ifs tt) (he:∀ C s H ex,PE (za7 X scope cl (ts++xs) C s H ex) elt te)
  (gw:GW (c0 nt js σ) g) (h:zvK J (c0 nt js σ) g tt te Z H)
  (hRR:∀ (D C:Addr) (m:Str->Option Value) (s':Shared) (ys:List V) (H':Hp),Z ys H'->H' D=none->Inv X pins σ (upd H' D (.lst ys)) s'->s'.heap.Ns C m->upd H' D (.lst ys) C=none->C≠X.env.locals ->
   (∀ x c,X.env.cells.lookup x=some c->c≠C)->X.s₀.heap.objs.size<=C->(∀ p∈X.pn++pins,p.1≠C)->RR (.ref D) C (.ok .next) s') :
  wpAny (model X.prog X.w) X.A (newList []) (fun acc s3=>wpAny (model X.prog X.w) X.A (newFunctionEnv scope X.env.globals cl [] X.env.qual none .none (some X.env)) (fun cenv s4 =>
   codeAny (model X.prog X.w) X.A (.compStart (.ListComp elt [⟨tg,iter,ifs,0⟩] scope pos) 0 (.ref it) acc { cenv with scope:=relabel scope X.env }) (RR acc cenv.locals) s4) E s3) E s:=by
 refine wpAny_newObj_type (wpAny_newFunctionEnv S.cell (by intro y hy; cases hy) (fun h1 hn1 hsb1=>?_) S.kind)
 dsimp only at hn1 hsb1 ⊢
 generalize hH2:s.heap.push { cls:=.type "list",dict:=none,data:=.seq ([]:List Value).toArray }=G at hn1 hsb1 ⊢
 have hCs:G.objs.size=s.heap.objs.size+1:=by rw [<-hH2,Heap.size_push]
 have hC:s.heap.objs.size<=G.objs.size:=by rw [hCs]; exact Nat.le_succ _
 have hDC:s.heap.objs.size≠G.objs.size:=by rw [hCs]; exact Nat.ne_of_lt (Nat.lt_succ_self _)
 have hl:∀ b∈fp,b < s.heap.objs.size:=fun b hb=>by
  obtain⟨o,e,_⟩:=T.obj _ _ st b hb
  exact Heap.lt_size e
 have old:∀ b o,s.heap.get? b=some o->h1.get? b=some o:=fun b o e =>
  hsb1.extBut b o (Nat.ne_of_lt (Nat.lt_of_lt_of_le (Heap.lt_size e) hC)) (Heap.get?_push_of_some _ (hH2▸Heap.get?_push_of_some _ e))
 have hD1:h1.get? s.heap.objs.size=some { cls:=.type "list",data:=.seq ([]:List Value).toArray }:=hsb1.extBut _ _ hDC (Heap.get?_push_of_some _ (hH2▸Heap.get?_push_size _ rfl))
 have J0:Inv (za7 X scope cl (ts++xs) G.objs.size s H fp) [] (c0 nt js σ) H { s with heap:=h1,toks:=s.toks+([]:List (Str×Value)).length }:=zm0 I S f hts hC hf hl old hn1
 obtain⟨W,⟨m0,w0⟩,turn⟩:=h
 have st1:tn 0 h1:=T.keep _ _ _ st fun b hb o e=>old b o e
 have hDn:H s.heap.objs.size=none:=I.hok.fresh (Nat.le_refl _)
 have Dnot:∀ b∈fp,s.heap.objs.size≠b:=fun b hb z=>absurd (hl b hb) (by rw [<-z]; exact Nat.lt_irrefl _)
 have fpk:∀ {H':Hp} {pl:List (Addr×Obj)},(∀ b∈fp,H' b=none)->(∀ p∈pl,p.1=s.heap.objs.size)->∀ b∈fp,zex (za7 X scope cl (ts++xs) G.objs.size s H fp) pl H' b:=fun{H' pl} hn hp b hb=>by
  refine⟨hn b hb,Nat.ne_of_lt (Nat.lt_of_lt_of_le (hl b hb) hC),fun z=>?_,.inl hb,fun x c e=>(hf b hb).2.2.2.2.1 x c (zce f x c e),fun p hpp z=>?_⟩
  ·rcases List.mem_cons.mp (I.stkSub b z)with q | q
   ·exact(hf b hb).2.1 q
   ·exact(hf b hb).2.2.1 q
  ·rcases List.mem_append.mp hpp with q | q
   ·cases q
   ·exact Dnot b hb ((hp p q).symm.trans z)
 have loop:codeAny (model X.prog X.w) X.A (.compLoop (.ListComp elt [⟨tg,iter,ifs,0⟩] scope pos) 0 (.ref it) (.ref s.heap.objs.size) (compEnvC scope cl G.objs.size X.env)) (RR (.ref s.heap.objs.size) G.objs.size)
   { s with heap:=h1,toks:=s.toks+([]:List (Str×Value)).length }:=by
  refine zjZ (fun n s'=>∃ i ys its nn H',Inv (za7 X scope cl (ts++xs) G.objs.size s H fp) [] (c0 nt js σ) H' s'/\tn i s'.heap/\(∀ b∈fp,H' b=none)/\H' s.heap.objs.size=none /\
   s'.heap.get? s.heap.objs.size=some { cls:=.type "list",data:=.seq (List.toArray its) nn }/\zac ys its/\ys.length<=sizeLine/\W i n ys H') ?_ m0
   ⟨0,[],[],0,H,J0,st1,fun b hb=>(hf b hb).1,hDn,hD1,.nil,Nat.zero_le _,w0⟩
  rintro n s3 ⟨i,ys,its,nn,H3,I3,st3,fr3,d3,o3,r3,z3,w3⟩ E'
  have cne:s.heap.objs.size≠(za7 X scope cl (ts++xs) G.objs.size s H fp).env.locals:=hDC
  have I3p:Inv (za7 X scope cl (ts++xs) G.objs.size s H fp) [(s.heap.objs.size,{ cls:=.type "list",data:=.seq its.toArray nn })] (c0 nt js σ) H3 s3:=I3.pins_of fun p hp=>by
   have e:p=(s.heap.objs.size,{ cls:=.type "list",data:=.seq its.toArray nn }):=by simpa using hp
   subst e
   refine⟨o3,d3,cne,fun z=>?_,fun v z=>by cases z⟩
   obtain⟨_,ob,e,_⟩:=I.stack.mem z
   exact absurd (Heap.lt_size e) (Nat.lt_irrefl _)
  have pl1:∀ p∈[(s.heap.objs.size,({ cls:=.type "list",data:=.seq its.toArray nn }:Obj))],p.1=s.heap.objs.size:=fun p hp=>by
   have e:p=(s.heap.objs.size,{ cls:=.type "list",data:=.seq its.toArray nn }):=by simpa using hp
   rw [e]
  rcases turn i n ys H3 w3 with ⟨stop,qz⟩ | ⟨go,hsz,N,hN,step⟩
  ·refine thn (T.done (za7 X scope cl (ts++xs) G.objs.size s H fp) rfl rfl rfl hc i _ s3 _ H3 E' I3p (fpk fr3 pl1) st3 stop) fun r s4 ⟨hr,I4⟩=>?_
   subst hr
   have o4:s4.heap.get? s.heap.objs.size=some { cls:=.type "list",data:=.seq its.toArray nn }:=(I4.pin _ (List.mem_append_right _ List.mem_cons_self)).1
   obtain⟨m4,n4,_⟩:=I4.loc
   have hk4:HOk X.prog X.w (upd H3 s.heap.objs.size (.lst ys)) s4.heap:=zhs I4.hok d3 ⟨z3,its,nn,r3,o4⟩
   have un4:Un (frs X.stack) fp H (upd H3 s.heap.objs.size (.lst ys)) s.heap s4.heap:=ziU I4.base d3 (Nat.le_refl _)
   refine hRR _ _ m4 s4 ys H3 qz d3 (I.call' I4.os un4 hk4 I4.bare fun b hb=>⟨(hf b hb).2.2.2.1,(hf b hb).2.1,(hf b hb).2.2.2.2.1,fun p hp=>(hf b hb).2.2.2.2.2 p hp⟩) n4 ?_ ?_ ?_ ?_ ?_
   ·rw [zD (Ne.symm hDC)]
    exact I4.free
   ·exact fun z=>absurd I.lt (by rw [<-z]; exact Nat.not_lt.mpr hC)
   ·intro x c e z
    obtain⟨v,ob,q,_⟩:=I.cell x c e
    exact absurd (Heap.lt_size q) (by rw [z]; exact Nat.not_lt.mpr hC)
   ·exact Nat.le_trans I.sz hC
   ·intro p hp z
    have q:=(I.pin p hp).1
    exact absurd (Heap.lt_size q) (by rw [z]; exact Nat.not_lt.mpr hC)
  ·refine thn (T.item (za7 X scope cl (ts++xs) G.objs.size s H fp) rfl rfl rfl hc i _ s3 _ H3 E' I3p (fpk fr3 pl1) st3 go) fun r s4 ⟨u,hr,h4⟩=>?_
   subst hr
   refine thn h4 fun _ s5 ⟨x,H5,I5,r5,y5,st5,fr5⟩=>?_
   have I5':=I5.pinned (fpk fr5 pl1) (T.obj _ _ st5)
   refine zs4 (hg _ _ _ _ _ s5 _ H5 x u _ I5' r5 (gw _ _ _ (step x H5 y5))) fun _ s6 ⟨σ6,H6,I6,wk6,q6⟩=>?_
   refine zs4 (ht _ _ _ _ _ s6 σ6 H6 _ I6 q6) fun ok s7 ⟨H7,I7,q7⟩=>?_
   have after:∀ {H8:Hp} {s8:Shared},Inv (za7 X scope cl (ts++xs) G.objs.size s H fp) ([(s.heap.objs.size,({ cls:=.type "list",data:=.seq its.toArray nn }:Obj))]++zf8 fp s5.heap) σ6 H8 s8 ->
     tn (i+1) s8.heap/\(∀ b∈fp,H8 b=none)/\H8 s.heap.objs.size=none/\s8.heap.get? s.heap.objs.size=some { cls:=.type "list",data:=.seq its.toArray nn } /\
      Inv (za7 X scope cl (ts++xs) G.objs.size s H fp) [] (c0 nt js σ) H8 s8:=fun{H8 s8} I8=>by
    have dd:=I8.pin (s.heap.objs.size,({ cls:=.type "list",data:=.seq its.toArray nn }:Obj)) (List.mem_append_right _ (List.mem_append_left _ List.mem_cons_self))
    refine⟨T.keep _ _ _ st5 fun b hb o e=>(I8.pin (b,o) (List.mem_append_right _ (List.mem_append_right _ (zdw hb e)))).1,fun b hb=>?_,dd.2.1,dd.1,?_⟩
    ·obtain⟨o,e,d⟩:=T.obj _ _ st5 b hb
     exact(I8.pin (b,o) (List.mem_append_right _ (List.mem_append_right _ (zdw hb e)))).2.1
    ·exact(I8.weak wk6.1 wk6.2).pins_of fun p hp=>by cases hp
   refine⟨fun hok=>?_,fun hok=>?_⟩
   ·subst hok
    rw [if_pos rfl]at q7
    refine zs4 (he _ _ _ _ _ s7 σ6 H7 _ I7 q7) fun v s8 ⟨y,H8,I8,ry,q8⟩=>?_
    obtain⟨st8,fr8,d8,o8,I8'⟩:=after I8
    obtain⟨m',hm,w8⟩:=hN _ _ q8
    refine call_meets F.slot_list_append ⟨_,o8,rfl⟩ F.entry_list_append (F.args_list_append_2 _ _) (PySem.list_append s.heap.objs.size its.toArray nn v (by rw [List.size_toArray,<-r3.length]; omega)) ⟨o8,?_⟩
    obtain⟨_,f1,_,f3,f4,_⟩:=(⟨d8,cne,trivial,.inr (Nat.le_refl _),fun x c e=>by
     obtain⟨v0,ob,q,_⟩:=I.cell x c (zce f x c e)
     exact Nat.ne_of_lt (Heap.lt_size q),trivial⟩:H8 s.heap.objs.size=none/\s.heap.objs.size≠(za7 X scope cl (ts++xs) G.objs.size s H fp).env.locals/\True/\(s.heap.objs.size∈fp\/s.heap.objs.size<=s.heap.objs.size) /\
      (∀ x c,cl.lookup x=some c->c≠s.heap.objs.size)/\True)
    have q:=PySem.IsL.update o8 (fun x=>x.push v)
    have hp:its.toArray.push v=(its++[v]).toArray:=by simp
    rw [hp]at q
    refine⟨m',hm,i+1,ys++[y],its++[v],_,H8,I8'.turned (t':=s8.toks) (it:=s.heap.objs.size) (fun b o hb e=>(Heap.get?_update_other s8.heap _ (Ne.symm hb)).trans e) d8 f1 f3 f4 (fun p hp=>by cases hp),?_,fr8,d8,q,r3.append (.cons ry .nil),?_,w8⟩
    ·exact T.keep _ _ _ st8 fun b hb o e=>(Heap.get?_update_other s8.heap _ (Dnot b hb)).trans e
    ·rw [List.length_append,List.length_singleton]
     omega
   ·subst hok
    rw [if_neg Bool.false_ne_true]at q7
    obtain⟨st7,fr7,d7,o7,I7'⟩:=after I7
    obtain⟨m',hm,w7⟩:=hN _ _ q7
    exact⟨m',hm,i+1,ys,its,nn,H7,I7',st7,fr7,d7,o7,r3,z3,w7⟩
 exact codeAny_compStart_list loop (T.self _ _ _ _ _ st1 loop)
def tLC(wi:TI)(nt:Nat)(js:List Nat)(g:TG)(tt:TT)(te:TE):TE:=fun σ H Q=>wi σ H fun J H1 =>
 zvK J (c0 nt js σ) g tt te (fun ys H2=>∀ D,H2 D=none->Q (.ref D) (upd H2 D (.lst ys))) H1
theorem zvL{elt iter tg:Expr}{ifs:List Expr}{pos:Pos}{wi:TI}{g:TG}{tt:TT}{te:TE}(nt:Nat)(ts:List Str)(hts:ts.length=nt)(hc:X.calm=true)(S:ScC scope xs)(f:Frees X cl xs js)(hclos:closureFor scope X.env=pure cl)
  (hi:PI X tg iter wi) (hg:∀ C s H ex,PG (za7 X scope cl (ts++xs) C s H ex) tg g) (gw:∀ σ:St,GW (c0 nt js σ) g) (ht:∀ C s H ex,ziV (za7 X scope cl (ts++xs) C s H ex) ifs tt)
  (he:∀ C s H ex,PE (za7 X scope cl (ts++xs) C s H ex) elt te) (hs:∀ x,foldedSetIterable iter X.env x=pure x:=by intro _; rfl) :
  PE X (.ListComp elt [⟨tg,iter,ifs,0⟩] scope pos) (tLC wi nt js g tt te):=by
 intro pins s σ H Q I h
 rw [eval_ListComp]
 refine wpAny_comprehension_free (use:=none) rfl hs hclos S.kind S.names (thn (hi pins s σ H _ I h) fun v s1 h1=>thn h1 fun itv s2 h2=>?_)
 obtain⟨it,fp,tn,J,H2,e,I2,T,st2,f2,q⟩:=h2
 subst e
 refine zgi (RR:=fun acc C=>compPost (model X.prog X.w) X.A X.xe none (EP X pins σ Q) acc C) hc I2 S f hts T st2 f2 hg ht he (gw σ) q ?_
 intro D C m s' ys H' z hD I' hn hCn hCL hCc hCs hCp
 refine⟨m,hn,fun h' hs'=>⟨.ref D,_,I'.turned (it:=C) (fun b o hb e=>hs'.extBut b o hb e) hCn hCL (.inr hCs) hCc hCp,rfl,z D hD⟩⟩
end
section
variable {X:Cx}
def zeO(_ j:Int):Prop:=0 < j/\j.natAbs.log2 < 9000
theorem zbH:OpR X (binaryOp .FloorDiv) (rI zeO fun i j=>.int (i / j)):=opI fun i j _ _ _ _ _ hc q=>by
 have h1:(0:Int) < j:=hc.1
 exact floordiv_int (by omega) (by rw [Int.fdiv_eq_ediv_of_nonneg i (by omega)]; exact q) (.inl (PyProof.noPylong_of_log2 hc.2))
def zht(_ j:Int):Prop:=j≠0/\j.natAbs.log2 < 9000
theorem ziW:OpR X (binaryOp .FloorDiv) (rI zht fun i j=>.int (i.fdiv j)):=opI fun i j _ _ _ _ _ hc q =>
 floordiv_int hc.1 q (.inl (PyProof.noPylong_of_log2 hc.2))
theorem zdz{n:Nat}{k:Nat}(hk:0 < k)(h:n < 2^k):n.log2 < k:=by
 by_cases hn:n=0
 ·subst hn; exact hk
 ·exact(Nat.log2_lt hn).mpr h
theorem zpD{i j:Int}(h:0 < j)(h2:j<=2^128):zeO i j:=⟨h,Nat.lt_trans (zdz (k:=129) (by decide) (by omega)) (by decide)⟩
def zs5(K:PySem.W.Frag):List V->Hp->VK->Prop:=fun xs H Q=>∃ x t T b,xs=[x,.ty T]/\TyOf K H x t/\PySem.W.kitOne K t (.type T)=some b/\Q (.bl b) H
theorem zm3:zb6 X (.builtin "isinstance") (zs5 X.K):=by
 intro pins s σ H xs us Q I r h
 obtain⟨x,t,T,b,rfl,ty,e,q⟩:=h
 obtain⟨u,u',rfl,rx,rt⟩:=ziM r
 cases rt
 exact zlT I rx ty e fun tk=>⟨.bl b,H,I.tok tk,rfl,q⟩
end
theorem zeP{nt:Nat}{js:List Nat}{i:Nat}(h:i < nt):∀ σ:St,GW (c0 nt js σ) (zcY i):=fun σ x H Q q=>⟨zs2 (zhT h),q⟩
def SameBut(p:Addr)(H H':Hp):Prop:=∀ b o,b≠p->H b=some o->H' b=some o
theorem zaJ{H:Hp}{p:Addr}(h:H p=none)(o:HO):zbE H (upd H p o):=fun b u q=>by rw [zD (zav q h)]; exact q
def Bl(mg:Str->Option Value)(xs:List Str):Prop:=∀ x,x∈xs->mg x=none
theorem Bl.nil{mg:Str->Option Value}:Bl mg []:=fun _ h=>by cases h
theorem Bl.cons{mg:Str->Option Value}{x:Str}{xs:List Str}(h:mg x=none)(t:Bl mg xs):Bl mg (x::xs):=fun y m=>by
 rcases List.mem_cons.mp m with e | e
 ·rw [e]; exact h
 ·exact t y e
def zaC:Expr->Bool
 | .Starred _ _=>false
 | _=>true
theorem zcO{e:Expr}{es:List Expr}{env:Env}(h:zaC e=true):starEach (e::es) env=(false,eval e env)::starEach es env:=by
 cases e<;>first | rfl | cases h
theorem zcu{pos:Pos}{env:Env}:∀ {es:List Expr},es.all zaC=true->(backTo pos (starEach es env)).any (·.1)=false
 | [],_=>rfl
 | e::es,h=>by
  rw [List.all_cons,Bool.and_eq_true]at h
  rw [zcO h.1]
  show(false || (backTo pos (starEach es env)).any (·.1))=false
  rw [Bool.false_or]
  exact zcu h.2
section
variable {X:Cx} {e:Expr} {es:List Expr} {te:TE} {t:TA} {r:List V->Hp->VK->Prop} {x:Str} {id T:String} {p pos:Pos}
theorem zxN(ha:PE X e te)(hr:PA X es t)(hs:zaC e=true:=by rfl):PA X (e::es) (zcN te t):=zpo ha hr (zcO hs)
theorem zvM(hc:zb6 X (.builtin id) r)(hg:Gl X x)(hm:X.mg x=none)(hv:bootBuiltins x=some (.builtin id))(ha:PA X (e::es) t)(hn:x ≠ "__name__":=by decide)(hdb:(x==("__debug__":Str))=false:=by decide)
  (he:zaC e=true:=by rfl) (hpl:es.all zaC=true:=by rfl):PE X (.Call (.Name x p) (e::es) [] pos) (tCB r t):=zmL hc hg hm hv ha hn hdb (zcO he) (zcu hpl)
theorem zvN(hc:zb6 X (.type T) r)(hg:Gl X x)(hm:X.mg x=none)(hv:bootBuiltins x=some (.type T))(ha:PA X (e::es) t)(hn:x ≠ "__name__":=by decide)(hdb:(x==("__debug__":Str))=false:=by decide)
  (he:zaC e=true:=by rfl) (hpl:es.all zaC=true:=by rfl):PE X (.Call (.Name x p) (e::es) [] pos) (tCB r t):=zlV hc hg hm hv ha hn hdb (zcO he) (zcu hpl)
end
structure Cal (P:Program) (w:World) (K:PySem.W.Frag) (mg:Str->Option Value) (base:Heap) (x:Str) (k:Nat) (ps:List Str) (sp:Sp):Prop where
 ex:∃ (f:Addr) (fd:FuncData),FnOk P w K mg base CX0 k f fd ps sp/\zdQ K fd ps []/\PySem.W.keepIn K (.ref f)=true/\mg x=some (.ref f)
def zs6(sp:Sp)(t:TA):TE:=fun σ H Q=>t σ H fun vs H1=>sp vs H1 Q E0
section
variable {X:Cx} {k:Nat} {ps:List Str} {sp:Sp} {x:Str} {p pos:Pos} {e:Expr} {es:List Expr} {t:TA}
theorem zs7(C:Cal X.prog X.w X.K X.mg X.base x k ps sp)(hr:Room k X.A)(hg:Gl X x)(ha:PA X (e::es) t)(hdb:(x==("__debug__":Str))=false:=by decide)
  (he:zaC e=true:=by rfl) (hpl:es.all zaC=true:=by rfl):PE X (.Call (.Name x p) (e::es) [] pos) (zs6 sp t):=by
 obtain⟨f,fd,F,hb,hk,hm⟩:=C.ex
 intro pins s σ H Q I h
 refine zpq (dvs:=[]) (E:=E0) F hr hg hm hk hb .nil zrK ha hdb (zcO he) (zcu hpl) pins s σ H Q I ?_
 show t σ H fun vs H1=>sp (vs++[]) H1 Q E0
 have z:(fun(vs:List V) (H1:Hp)=>sp (vs++[]) H1 Q E0)=fun vs H1=>sp vs H1 Q E0:=by
  funext vs H1
  rw [List.append_nil]
 rw [z]
 exact h
end
def zm4(t:TS):TS:=fun D σ H=>∃ J:St->Hp->Prop,t { D with nx:=J } σ H/\∀ σ' H',J σ' H'->D.nx σ' H'
theorem zpE{X:Cx}{st:Stmt}{t:TS}(h:PS X st t):PS X st (zm4 t):=by
 intro pins s σ H D I ⟨J,q,z⟩
 refine thn (h pins s σ H _ I q) fun f s' r=>?_
 cases f with
 | next=>obtain⟨σ',H',I',j⟩:=r; exact⟨σ',H',I',z _ _ j⟩
 | brk=>exact r
 | cont=>exact r
 | ret u=>exact r
theorem ziX(x y:Int)(hx:0<=x)(hy:0 < y):Int.gcd y (x % y)=Int.gcd x y:=by
 obtain⟨a,rfl⟩:=Int.eq_ofNat_of_zero_le hx
 obtain⟨b,rfl⟩:=Int.eq_ofNat_of_zero_le (Int.le_of_lt hy)
 rw [<-Int.natCast_emod]
 show Nat.gcd b (a % b)=Nat.gcd a b
 rw [Nat.gcd_comm a b,Nat.gcd_comm b (a % b)]
 exact(Nat.gcd_rec b a).symm
theorem zhU(x y:Int):Int.gcd (if x < 0 then -x else x) y=Int.gcd x y:=by
 split
 ·exact Int.neg_gcd
 ·rfl
structure Wr (p:Prop):Prop where
 run:p
section
variable {X:Cx} {pos p pos':Pos} {e a b c o:Expr} {es zcb:List Expr} {te ta tb:TE} {t:TA} {r:List V->Hp->VK->Prop} {rd:R2} {x:Str} {id T:String} {i j:Nat} {tA tB':TT} {st:Stmt} {sts body:List Stmt} {ts us:TS} {g:TG} {gs:TGs} {wi:TI} {tg:Expr}
theorem w_v(i:Nat)(hN:X.N[i]?=some x:=by rfl)(hv:Vis X.env.scope x:=by first | exact Or.inl rfl | exact Or.inr (Or.inl rfl) | exact Or.inr (Or.inr rfl))(hd:(x==("__debug__":Str))=false:=by decide)
  (hcd:(x==("__classdict__":Str))=false:=by decide):Wr (PE X (.Name x pos) (zf7 i)):=⟨pv i hN hv hd hcd⟩
theorem zp{n:Int}:Wr (PE X (.Constant (.int n) j pos) (tC (.int n))):=⟨zsf⟩
theorem zs8{n:Bool}:Wr (PE X (.Constant (.bool n) j pos) (tC (.bl n))):=⟨zvx⟩
theorem zvO:Wr (PE X (.Constant .none j pos) (tC .non)):=⟨zsg⟩
theorem zL{n:Str}:Wr (PE X (.Constant (.str n) j pos) (tC (.str n))):=⟨zsh⟩
theorem zj0{v:V}{u:Value}(hg:Gl X x)(hm:X.mg x=none)(hv:bootBuiltins x=some u)(r:zap v u)(hn:x ≠ "__name__":=by decide)(hd:(x==("__debug__":Str))=false:=by decide):Wr (PE X (.Name x pos) (tC v)):=⟨zo8 hg hm hv r hn hd⟩
theorem zR{op:Operator}(ho:OpR X (binaryOp op) rd)(ha:Wr (PE X a ta))(hb:Wr (PE X b tb)):Wr (PE X (.BinOp a op b pos) (tOp rd ta tb)):=⟨zvA ho ha.run hb.run⟩
theorem zl2{op:UnaryOp}{r:V->Hp->VK->Prop}(ho:UnR X (unaryOp op) r)(ha:Wr (PE X a ta)):Wr (PE X (.UnaryOp op a pos) (tUn r ta)):=⟨zvB ho ha.run⟩
theorem w_not(ha:Wr (PE X a ta)):Wr (PE X (.UnaryOp .Not a pos) (zrG ta)):=⟨zso ha.run⟩
theorem zm5{op:CmpOp}(ho:OpR X (compareOp op) rd)(ha:Wr (PE X a ta))(hb:Wr (PE X b tb))(hm:behindInMarks op b=false):Wr (PE X (.Compare a [op] [b] pos) (tOp rd ta tb)):=⟨zpk ho ha.run hb.run hm⟩
theorem zQ{op:CmpOp}(ho:OpR X (compareOp op) rd)(ha:Wr (PE X a ta))(hb:Wr (PE X b tb))(hm:behindInMarks op b=false):Wr (PT X (.Compare a [op] [b] pos) (zmJ (tOp rd ta tb))):=⟨zpl ho ha.run hb.run hm⟩
theorem zdA(ha:Wr (PT X a tA)):Wr (PW X (.BoolOp .And [a] pos) tA):=⟨zo9 ha.run⟩
theorem zhV(ha:Wr (PT X a tA)):Wr (PW X (.BoolOp .Or [a] pos) tA):=⟨zsl ha.run⟩
theorem zdB(ha:Wr (PT X a tA))(hb:Wr (PW X (.BoolOp .And (b::zcb) pos) tB')):Wr (PW X (.BoolOp .And (a::b::zcb) pos) (zsj tA tB')):=⟨zsm ha.run hb.run⟩
theorem zkV(ha:Wr (PT X a tA))(hb:Wr (PW X (.BoolOp .Or (b::zcb) pos) tB')):Wr (PW X (.BoolOp .Or (a::b::zcb) pos) (tOr tA tB')):=⟨zvy ha.run hb.run⟩
theorem zgj(h:Wr (PW X e tA)):Wr (PT X e tA):=⟨h.run.pt⟩
theorem zs9(ha:Wr (PT X a tA)):Wr (PT X (.UnaryOp .Not a pos) (zsk tA)):=⟨zsn ha.run⟩
theorem zgk(h:Wr (PE X e te))(he:∀ whole,isTrue e X.env whole=(do let v <-whole; standAt e.pos; holding [v] (truthy v)):=by intro _; rfl):Wr (PT X e (tB te)):=⟨zsi h.run he⟩
def zvP(K:PySem.W.Frag)(ta:TE):TT:=fun σ H Q=>ta σ H fun x H'=>∃ k,zsG K x H' k/\Q k H'
theorem zi:Wr (PA X [] zgY):=⟨zsI⟩
theorem w_a(ha:Wr (PE X e te))(hr:Wr (PA X es t))(hs:zaC e=true:=by rfl):Wr (PA X (e::es) (zcN te t)):=⟨zxN ha.run hr.run hs⟩
theorem zad{x1}(h:Wr (PA X es t)):Wr (PE X (.Tuple es x1 pos) (zpp t)):=⟨zsK h.run⟩
theorem zbY(h:Wr (PA X es t)):Wr (PE X (.List es pos) (zsJ t)):=⟨zsL h.run⟩
theorem zbN(hc:zb6 X (.builtin id) r)(hg:Gl X x)(hm:X.mg x=none)(hv:bootBuiltins x=some (.builtin id))(ha:Wr (PA X (e::es) t))(hn:x ≠ "__name__":=by decide)(hdb:(x==("__debug__":Str))=false:=by decide)
  (he:zaC e=true:=by rfl) (hpl:es.all zaC=true:=by rfl):Wr (PE X (.Call (.Name x p) (e::es) [] pos) (tCB r t)):=⟨zvM hc hg hm hv ha.run hn hdb he hpl⟩
theorem zfI(hc:zb6 X (.type T) r)(hg:Gl X x)(hm:X.mg x=none)(hv:bootBuiltins x=some (.type T))(ha:Wr (PA X (e::es) t))(hn:x ≠ "__name__":=by decide)(hdb:(x==("__debug__":Str))=false:=by decide)
  (he:zaC e=true:=by rfl) (hpl:es.all zaC=true:=by rfl):Wr (PE X (.Call (.Name x p) (e::es) [] pos) (tCB r t)):=⟨zvN hc hg hm hv ha.run hn hdb he hpl⟩
theorem zB{k:Nat}{ps:List Str}{sp:Sp}(C:Cal X.prog X.w X.K X.mg X.base x k ps sp)(hr:Room k X.A)(hg:Gl X x)(ha:Wr (PA X (e::es) t))(hdb:(x==("__debug__":Str))=false:=by decide)
  (he:zaC e=true:=by rfl) (hpl:es.all zaC=true:=by rfl):Wr (PE X (.Call (.Name x p) (e::es) [] pos) (zs6 sp t)):=⟨zs7 C hr hg ha.run hdb he hpl⟩
theorem zS(hr:IxR X rd)(ha:Wr (PE X a ta))(hb:Wr (PE X b tb))(hs:zkQ b):Wr (PE X (.Subscript a b pos) (tOp rd ta tb)):=⟨zvF hr ha.run hb.run hs⟩
theorem zef:Wr (PO X none zhN):=⟨zpr⟩
theorem zeg(h:Wr (PE X e te)):Wr (PO X (some e) (zmN te)):=⟨zps h.run⟩
theorem zeh{r:V->Option Int->Option Int->Hp->VK->Prop}{lo hi:Option Expr}{tl th:TO}{p2:Pos}(hr:SlR X r)(he:Wr (PE X e te))(hl:Wr (PO X lo tl))(hu:Wr (PO X hi th)):Wr (PE X (.Subscript e (.Slice lo hi none p2) pos) (tSl r te tl th)):=⟨zmO hr he.run hl.run hu.run⟩
theorem zbI{ta:TA}(hg:Gl X "range")(hm:X.mg "range"=none)(ha:Wr (PA X [a] ta))(hs:zaC a=true:=by rfl):Wr (PI X tg (.Call (.Name "range" p) [a] [] pos) (zmH ta)):=⟨zlO hg hm ha.run (zcO hs)⟩
theorem zaa(hN:X.N.Nodup)(hi:X.N[i]?=some x)(hx:Loc X.env.scope x)(hf:X.fn x=true\/X.env.scope.names.lookup x=some .local:=by first | exact .inl rfl | exact .inr rfl | assumption):Wr (PG X (.Name x pos) (zcY i)):=⟨zpe hN hi hx hf⟩
theorem zc4:Wr (PGs X [] zpf):=⟨zpg⟩
theorem w_g(h1:Wr (PG X e g))(h2:Wr (PGs X es gs))(hs:(assignEach (e::es) X.env).map (·.2)=assign e X.env::(assignEach es X.env).map (·.2):=by rfl):Wr (PGs X (e::es) (ziL g gs)):=⟨zmC h1.run h2.run hs⟩
theorem zj1{ti:TE}{tset:zpd}(ho:Wr (PE X o ta))(hi:Wr (PE X e ti))(hs:zss X tset)
  (hh:∀ v,assign (.Subscript o e pos) X.env v=(do
   let ov <-holding [v] (eval o X.env)
   let iv <-holding [v,ov] (eval e X.env)
   standAt pos
   holding [v,ov,iv] (setItem ov iv v)
   release [v,ov,iv] []):=by intro _; rfl):Wr (PG X (.Subscript o e pos) (zsu ta ti tset)):=⟨zsv ho.run hi.run hs hh⟩
theorem zgl:Wr (ziV X [] zs3):=⟨zm1⟩
theorem zta(h:Wr (PT X c tA)):Wr (ziV X [c] tA):=⟨zm2 h.run⟩
theorem ztb{elt iter:Expr}{ifs:List Expr}{scope:Scope}{cl:List (Str×Addr)}{xs:List Str}{js:List Nat}{tt:TT}(nt:Nat)(ns:List Str)(hts:ns.length=nt)(hc:X.calm=true)(S:ScC scope xs)(f:Frees X cl xs js)(hclos:closureFor scope X.env=pure cl)
  (hi:Wr (PI X tg iter wi)) (hg:∀ C s H ex,Wr (PG (za7 X scope cl (ns++xs) C s H ex) tg g)) (gw:∀ σ:St,GW (c0 nt js σ) g) (ht:∀ C s H ex,Wr (ziV (za7 X scope cl (ns++xs) C s H ex) ifs tt))
  (he:∀ C s H ex,Wr (PE (za7 X scope cl (ns++xs) C s H ex) elt te)) (hs:∀ x,foldedSetIterable iter X.env x=pure x:=by intro _; rfl) :
  Wr (PE X (.ListComp elt [⟨tg,iter,ifs,0⟩] scope pos) (tLC wi nt js g tt te)):=⟨zvL nt ns hts hc S f hclos hi.run (fun C s H ex=>(hg C s H ex).run) gw (fun C s H ex=>(ht C s H ex).run) (fun C s H ex=>(he C s H ex).run) hs⟩
def zvQ(K:PySem.W.Frag):List V->Hp->VK->Prop:=fun xs H Q=>∃ p ys,xs=[.ref p]/\(SqL K H p ys\/SqT K H p ys)/\Q (.int ys.length) H
def ziY(K:PySem.W.Frag):List V->Hp->VK->Prop:=fun xs H Q=>∃ p ys,xs=[.ref p]/\((SqL K H p ys/\∀ l,H l=none->Q (.ref l) (upd H l (.tup ys)))\/(SqT K H p ys/\Q (.ref p) H))
theorem zrL(K:PySem.W.Frag)(hK:X.K=K):zb6 X (.builtin "isinstance") (zs5 K):=hK▸zm3
theorem zcG(K:PySem.W.Frag)(hK:X.K=K):zb6 X (.builtin "len") (zvQ K):=hK▸zhR
theorem zcf(K:PySem.W.Frag)(hK:X.K=K):zb6 X (.type "tuple") (ziY K):=hK▸zg0
theorem zbh(K:PySem.W.Frag)(hK:X.K=K):IxR X (zsP K):=hK▸zpv
theorem zM(K:PySem.W.Frag)(hK:X.K=K):IxR X (zsQ K):=hK▸zsR
theorem zvR(K:PySem.W.Frag)(hK:X.K=K):OpR X (compareOp .In) (rIn K false):=hK▸zlW
theorem zpF(K:PySem.W.Frag)(hK:X.K=K):OpR X (compareOp .NotIn) (rIn K true):=hK▸zhQ
theorem zkW(K:PySem.W.Frag)(hK:X.K=K):SlR X (zsS K):=hK▸zpw
theorem zpG{l:Expr}{tl:TE}(K:PySem.W.Frag)(hK:X.K=K)(hl:Wr (PE X l tl)):Wr (PI X tg l (zmF K tl)):=hK▸⟨zpi hl.run⟩
theorem zc5{k n:Nat}(K:PySem.W.Frag)(hK:X.K=K)(hc:X.calm=true)(h:Wr (PGs X es gs))(hn:(assignEach es X.env).length=n:=by rfl)(hst:(assignEach es X.env).findIdx? (·.1)=none:=by rfl):Wr (PG X (.Tuple es k pos) (zph K n gs)):=hK▸⟨zst hc h.run hn hst⟩
theorem zvS(K:PySem.W.Frag)(hK:X.K=K)(ha:Wr (PE X a ta))(he:∀ whole,isTrue a X.env whole=(do let v <-whole; standAt a.pos; holding [v] (truthy v)):=by intro _; rfl):Wr (PT X a (zvP K ta)):=hK▸⟨zmK ha.run he⟩
theorem zak:Wr (PSs X [] zmz):=⟨zpa⟩
theorem w_s(h1:Wr (PS X st ts))(h2:Wr (PSs X sts us)):Wr (PSs X (st::sts) (zsp ts us)):=⟨zmA h1.run h2.run⟩
theorem zW(h1:Wr (PS X st ts)):Wr (PSs X [st] ts):=⟨zkK h1.run⟩
theorem zci(he:Wr (PE X e te))(hs:swapsWith e none pos.line X.env=pure false:=by rfl):Wr (PS X (.Expr e pos) (zmB te)):=⟨zpb he.run hs⟩
theorem zaj(he:Wr (PE X e te)):Wr (PS X (.Return (some e) pos) (zpc te)):=⟨zsq he.run⟩
theorem zbg{sa sb:List Stmt}(hc:Wr (PT X c tA))(ha:Wr (PSs X sa ts))(hb:Wr (PSs X sb us)):Wr (PS X (.If c sa sb pos) (zsr tA ts us)):=⟨zvz hc.run ha.run hb.run⟩
theorem zcA(h:Wr (PS X st ts)):Wr (PS X st (zm4 ts)):=⟨zpE h.run⟩
theorem zkX(hp:PassesOwn (model X.prog X.w) X.A X.env X.xe)(hc:Wr (PT X c tA))(hb:Wr (PSs X body ts)):Wr (PS X (.While c body [] pos) (zjL tA ts)):=⟨zmD hp hc.run hb.run⟩
theorem zdl{iter:Expr}(hp:PassesOwn (model X.prog X.w) X.A X.env X.xe)(hc:X.calm=true)(hi:Wr (PI X tg iter wi))(hg:Wr (PG X tg g))(hb:Wr (PSs X body ts))(hs:∀ x,foldedSetIterable iter X.env x=pure x:=by intro _; rfl) :
  Wr (PS X (.For tg iter body [] pos) (zsA wi g ts)):=⟨zsB hp hc hi.run hg.run hb.run hs⟩
theorem zT(hN:X.N.Nodup)(hi:X.N[i]?=some x)(hx:Loc X.env.scope x)(he:Wr (PE X e te))(hs:swapsWith e (some (.Name x pos')) pos.line X.env=pure false:=by rfl)(hf:X.fn x=true\/X.env.scope.names.lookup x=some .local:=by first | exact .inl rfl | exact .inr rfl | assumption) :
  Wr (PS X (.Assign [.Name x pos'] e pos) (zgX te (zcY i))):=⟨zsx hN hi hx he.run hs hf⟩
theorem zdY(he:Wr (PE X e te))(hg:Wr (PG X tg g))(hs:swapsWithSole [tg] e pos.line X.env=pure false:=by rfl)(hw:swappedStores [tg] e X.env=pure none:=by rfl)(h1:(assignEach [tg] X.env).map (·.2)=[assign tg X.env]:=by rfl) :
  Wr (PS X (.Assign [tg] e pos) (zgX te g)):=⟨zsw he.run hg.run hs hw h1⟩
theorem zrM{x y:Str}{ta:TA}{px py pt:Pos}{kt k2 pt2}(hc:X.calm=true)(hN:X.N.Nodup)(hi:X.N[i]?=some x)(hj:X.N[j]?=some y)(hij:i≠j)
  (hx:X.env.scope.names.lookup x=some .local) (hy:X.env.scope.names.lookup y=some .local) (ha:Wr (PA X [a,b] ta))
  (hw:swappedStores [.Tuple [.Name x px,.Name y py] kt pt] (.Tuple [a,b] k2 pt2) X.env=pure (some [x,y]))
  (hs:swapsWithSole [.Tuple [.Name x px,.Name y py] kt pt] (.Tuple [a,b] k2 pt2) pos.line X.env=pure false:=by rfl) :
  Wr (PS X (.Assign [.Tuple [.Name x px,.Name y py] kt pt] (.Tuple [a,b] k2 pt2) pos) (zsy i j ta)):=⟨zsz hc hN hi hj hij hx hy ha.run hw hs⟩
end
theorem Fun.okW{P:Program}{w:World}{K:PySem.W.Frag}{mg:Str->Option Value}{base:Heap}{x qual:Str}{st:Stmt}{f:Addr}{fd:FuncData}{N ps:List Str}{k:Nat}{sp:Sp}(F:Fun K x qual st f fd)(S:FnScope N ps (zt st))(len:∀ vs H Q E,sp vs H Q E->vs.length=ps.length)
  (hbody:∀ (cdv:Value) (A:Around) (outer:List Env) (s:Shared) (H:Hp) (vs:List V) (Q:VK) (E:XK),Room k (A.deeper (envOfC qual (zt st) s.heap.objs.size f cdv))->sp vs H Q E ->
   ∃ t,Wr (PSs (zgd CX0 P w K mg base N qual (zt st) f cdv A outer s H E).nox (zV st) t)/\t { nx:=fun _ H'=>Q .non H',rt:=Q } (zcd N vs) H):FnOk P w K mg base CX0 (k+1) f fd ps sp :=
 F.ok S len fun cdv A outer s H vs Q E hr h=>let ⟨t,w,q⟩:=hbody cdv A outer s H vs Q E hr h; ⟨t,w.run,q⟩
mutual
inductive DV (K:PySem.W.Frag) (H:Hp):V->PyData->Prop
 | non:DV K H .non .none
 | bl (b:Bool):DV K H (.bl b) (.bool b)
 | int (i:Int):DV K H (.int i) (.int i)
 | str (x:Str):DV K H (.str x) (.str x)
 | lst {a:Addr} {xs:List V} {ds:List PyData} (h:SqL K H a xs) (t:DVs K H xs ds):DV K H (.ref a) (.list ds)
 | tup {a:Addr} {xs:List V} {ds:List PyData} (h:SqT K H a xs) (t:DVs K H xs ds):DV K H (.ref a) (.tuple ds)
inductive DVs (K:PySem.W.Frag) (H:Hp):List V->List PyData->Prop
 | nil:DVs K H [] []
 | cons {v:V} {d:PyData} {vs:List V} {ds:List PyData} (h:DV K H v d) (t:DVs K H vs ds):DVs K H (v::vs) (d::ds)
end
theorem zbE.seqT{K:PySem.W.Frag}{H H':Hp}{a:Addr}{xs:List V}(e:zbE H H')(h:SqT K H a xs):SqT K H' a xs:=by
 rcases h with (h | ⟨o,h⟩) | h
 ·exact .inl (.inl (e _ _ h))
 ·exact .inl (.inr ⟨o,e _ _ h⟩)
 ·exact .inr h
mutual
theorem DV.same{K:PySem.W.Frag}{H H':Hp}(e:zbE H H'):∀ {v:V} {d:PyData},DV K H v d->DV K H' v d
 | _,_,.non=>.non
 | _,_,.bl b=>.bl b
 | _,_,.int i=>.int i
 | _,_,.str x=>.str x
 | _,_,.lst h t=>.lst (e.seq h) (DVs.same e t)
 | _,_,.tup h t=>.tup (e.seqT h) (DVs.same e t)
theorem DVs.same{K:PySem.W.Frag}{H H':Hp}(e:zbE H H'):∀ {v:List V} {d:List PyData},DVs K H v d->DVs K H' v d
 | _,_,.nil=>.nil
 | _,_,.cons h t=>.cons (DV.same e h) (DVs.same e t)
end
section
variable {X:Cx} {pins:List (Addr×Obj)} {σ:St} {H:Hp} {s:Shared}
mutual
theorem DV.reads(I:Inv X pins σ H s):∀ {v:V} {d:PyData} {u:Value},DV X.K H v d->zap v u->∃ as,Reads s.heap u d as
 | _,_,_,.non,r=>by cases r; exact⟨_,.none⟩
 | _,_,_,.bl b,r=>by cases r; exact⟨_,.bool b⟩
 | _,_,_,.int i,r=>by obtain⟨t,rfl⟩:=r; exact⟨_,.int i t⟩
 | _,_,_,.str x,r=>by obtain⟨t,rfl⟩:=r; exact⟨_,.str x t⟩
 | _,_,_,.lst h t,r=>by
  cases r
  obtain⟨its,rv,⟨o,n,e1,e2,e3,e4⟩,hz⟩:=I.list h
  obtain⟨as,q⟩:=DVs.reads I t rv
  exact⟨_,.list e1 e2 e4 q⟩
 | _,_,_,.tup h t,r=>by
  cases r
  obtain⟨its,rv,⟨o,e1,e2,n,e4⟩,hz⟩:=I.tuple h
  obtain⟨as,q⟩:=DVs.reads I t rv
  exact⟨_,.tuple e1 e2 e4 q⟩
theorem DVs.reads(I:Inv X pins σ H s):∀ {v:List V} {d:List PyData} {u:List Value},DVs X.K H v d->zac v u->∃ as,ReadsAll s.heap u d as
 | _,_,_,.nil,r=>by cases r; exact⟨_,.nil⟩
 | _,_,_,.cons h t,r=>by
  cases r with
  | cons r1 r2 =>
   obtain⟨a1,q1⟩:=DV.reads I h r1
   obtain⟨a2,q2⟩:=DVs.reads I t r2
   exact⟨_,.cons q1 q2⟩
end
mutual
theorem DV.noDict{K:PySem.W.Frag}:∀ {v:V} {d:PyData},DV K H v d->d.hasDict=false
 | _,_,.non=>rfl
 | _,_,.bl _=>rfl
 | _,_,.int _=>rfl
 | _,_,.str _=>rfl
 | _,_,.lst _ t=>by simp only [PyData.hasDict]; exact DVs.noDict t
 | _,_,.tup _ t=>by simp only [PyData.hasDict]; exact DVs.noDict t
theorem DVs.noDict{K:PySem.W.Frag}:∀ {v:List V} {d:List PyData},DVs K H v d->PyData.hasDictAll d=false
 | _,_,.nil=>rfl
 | _,_,.cons h t=>by simp only [PyData.hasDictAll]; rw [DV.noDict h,DVs.noDict t]; rfl
end
def zm6(K:PySem.W.Frag):List V->Hp->VK->Prop:=fun xs H Q=>∃ v d,xs=[v]/\DV K H v d/\d.showable=true/\d.shown.length<=sizeLine/\d.depth<=60/\Q (.str d.shown) H
theorem zl3(hg:X.A.guards=some [])(hu:X.A.units+64 < cLine):zb6 X (.builtin "repr") (zm6 X.K):=by
 intro pins s σ H xs us Q I r h
 obtain⟨v,d,rfl,dv,hs,hz,hd,q⟩:=h
 obtain⟨u,rfl,ru⟩:=zeM r
 obtain⟨as,rd⟩:=DV.reads I dv ru
 have nd:=DV.noDict dv
 cases dv with
 | non =>
  cases ru
  exact PySem.P.repr_of_none ⟨.str _,H,I.tok _,⟨_,rfl⟩,q⟩
 | bl b =>
  cases ru
  exact PySem.P.repr_of_bool ⟨.str _,H,I.tok _,⟨_,rfl⟩,q⟩
 | int i =>
  obtain⟨t,rfl⟩:=ru
  exact PySem.P.repr_of_int (by simpa [PyData.showable] using hs) ⟨.str _,H,I.tok _,⟨_,rfl⟩,q⟩
 | str x =>
  obtain⟨t,rfl⟩:=ru
  exact PySem.P.repr_of_str ⟨.str _,H,I.tok _,⟨_,rfl⟩,q⟩ hz
 | lst h t =>
  cases ru
  exact repr_of_reads' rd hs (PyData.noDict_hsm nd) hg (by omega) (fun _ _ e=>e) (fun h' u tk hk=>⟨.str _,H,I.kept hk,⟨_,rfl⟩,q⟩) hz
 | tup h t =>
  cases ru
  exact repr_of_reads' rd hs (PyData.noDict_hsm nd) hg (by omega) (fun _ _ e=>e) (fun h' u tk hk=>⟨.str _,H,I.kept hk,⟨_,rfl⟩,q⟩) hz
theorem zhW(K:PySem.W.Frag)(hK:X.K=K){k:Nat}(hr:Room k X.A):zb6 X (.builtin "repr") (zm6 K):=hK▸zl3 hr.gd hr.units
end
section
variable {X:Cx} {pos p pos':Pos} {e a b c o:Expr} {es zcb:List Expr} {te ta tb:TE} {t:TA} {r:List V->Hp->VK->Prop} {rd:R2} {x:Str} {id T:String} {i j:Nat} {tA tB':TT} {st:Stmt} {sts body:List Stmt} {ts us:TS} {g:TG} {gs:TGs} {wi:TI} {tg:Expr}
theorem zm7{y:Str}{py spos:Pos}{elt iter:Expr}{ifs:List Expr}{scope:Scope}{cl:List (Str×Addr)}{xs:List Str}{js:List Nat}{tt:TT}(hN:X.N.Nodup)(hi':X.N[i]?=some y)(hy:Loc X.env.scope y)
  (nt:Nat) (ns:List Str) (hts:ns.length=nt) (hc:X.calm=true) (S:ScC scope xs) (f:Frees X cl xs js) (hclos:closureFor scope X.env=pure cl)
  (hi:Wr (PI X tg iter wi)) (hg:∀ C s H ex,Wr (PG (za7 X scope cl (ns++xs) C s H ex) tg g)) (gw:∀ σ:St,GW (c0 nt js σ) g) (ht:∀ C s H ex,Wr (ziV (za7 X scope cl (ns++xs) C s H ex) ifs tt))
  (he:∀ C s H ex,Wr (PE (za7 X scope cl (ns++xs) C s H ex) elt te)) (hs:∀ x,foldedSetIterable iter X.env x=pure x:=by intro _; rfl)
  (hsw:swapsWith (.ListComp elt [⟨tg,iter,ifs,0⟩] scope pos) (some (.Name y py)) spos.line X.env=pure true:=by rfl)
  (hf:X.fn y=true\/X.env.scope.names.lookup y=some .local:=by first | exact .inl rfl | exact .inr rfl | assumption) :
  Wr (PS X (.Assign [.Name y py] (.ListComp elt [⟨tg,iter,ifs,0⟩] scope pos) spos) (zgX (tLC wi nt js g tt te) (zcY i))):=by
 refine⟨?_⟩
 intro pins s σ H D I h
 rw [exec_Assign_Name_used _ _ _ _ hsw]
 refine wpAny_bind (wpAny_standAt (wpAny_bind ?_))
 show wpAny _ X.A (do let _ <-comprehension (.ListComp elt [⟨tg,iter,ifs,0⟩] scope pos) scope X.env _ (newList []) false (eval iter X.env) (some (assign (.Name y py) X.env))) _ _ s
 refine wpAny_bind (wpAny_mono (wpAny_comprehension_free (use:=some (assign (.Name y py) X.env)) (Q:=fun _ s'=>SP X pins D .next s') rfl hs hclos S.kind S.names
  (thn (hi.run pins s σ H _ I h) fun v s1 h1=>thn h1 fun itv s2 h2=>?_)) (fun _ s' hq=>wpAny_pure (wpAny_pure hq)) fun _ _ e=>e)
 obtain⟨it,fp,tn,J,H2,e,I2,T,st2,f2,q⟩:=h2
 subst e
 refine zgi (RR:=fun acc C=>compPost (model X.prog X.w) X.A X.xe (some (assign (.Name y py) X.env)) (fun _ s'=>SP X pins D .next s') acc C) hc I2 S f hts T st2 f2 (fun C s H ex=>(hg C s H ex).run) (fun C s H ex=>(ht C s H ex).run) (fun C s H ex=>(he C s H ex).run) (gw σ) q ?_
 intro D' C m s' ys H' z hD I' hn hCn hCL hCc hCs hCp
 show wpAny _ _ (assign (.Name y py) X.env (.ref D')) _ _ _
 refine wpAny_assign_Name (zhh (v:=.ref D') I' hN hi' hy rfl (fun s'' I'' ⟨a,sb,ha⟩=>?_) hf)
 have ne:C≠a:=by
  rcases ha with rfl | ha
  ·exact hCL
  ·exact(hCc _ _ ha).symm
 exact⟨m,hn.sameBut sb ne,fun h' hs'=>⟨_,_,I''.turned (it:=C) (fun b o hb e=>hs'.extBut b o hb e) hCn hCL (.inr hCs) hCc hCp,z D' hD⟩⟩
theorem zer{name:Str}{r:V->List V->Hp->VK->Prop}{apos cpos:Pos}(K:PySem.W.Frag)(hK:X.K=K)(pa:PlainAttrs T)(slot:Slot T name id)(hty:typeOf (.builtin id)=pure (.type "method_descriptor"))(hm:MtM X id r)(ho:Wr (PE X o te))(ha:Wr (PA X (e::es) t))
  (hbase:attributeBase o name X.env (eval o X.env)=eval o X.env:=by rfl)
  (hfew:((backTo cpos (starEach (e::es) X.env)).all (fun x=>!x.1) && (backToKw cpos (keywordEach [] X.env)).all (fun x=>x.1.isSome)
   && decide ((e::es).length+([]:List Keyword).length+(if([]:List Keyword).isEmpty then 0 else 1) < 30))=true:=by rfl)
  (hline:(apos.endLine==cpos.line)=true:=by rfl) (hs:zaC e=true:=by rfl) (hpl:es.all zaC=true:=by rfl) :
  Wr (PE X (.Call (.Attribute o name apos) (e::es) [] cpos) (tBM K T r te t)):=hK▸⟨zvH pa slot hty hm ho.run ha.run hbase hfew hline (zcO hs) (zcu hpl)⟩
theorem zvT{name:Str}{r:V->List V->Hp->VK->Prop}{apos cpos:Pos}(K:PySem.W.Frag)(hK:X.K=K)(pa:PlainAttrs T)(slot:Slot T name id)(hty:typeOf (.builtin id)=pure (.type "method_descriptor"))(hm:MtM X id r)(ho:Wr (PE X o te))
  (hbase:attributeBase o name X.env (eval o X.env)=eval o X.env:=by rfl) (hline:(apos.endLine==cpos.line)=true:=by rfl) :
  Wr (PE X (.Call (.Attribute o name apos) [] [] cpos) (zsU K T r te)):=hK▸⟨zsV pa slot hty hm ho.run hbase hline⟩
theorem ztc{v:V}{u:Value}(hg:Gl X x)(hm:X.mg x=some u)(r:zap v u)(hd:(x==("__debug__":Str))=false:=by decide):Wr (PE X (.Name x pos) (tC v)):=⟨zkJ hg hm r hd⟩
theorem zkY:∀ {ys:List Str} {us:List Value},zac (ys.map V.str) us->StrsAre us ys
 | [],_,r=>by cases r; exact .nil
 | y::ys,_,r=>by
  cases r with
  | cons r1 r2 =>
   obtain⟨t,rfl⟩:=r1
   exact .cons y t (zkY r2)
def zrN(K:PySem.W.Frag):V->List V->Hp->VK->Prop:=fun x vs H Q=>∃ sep a ys,x=.str sep/\vs=[.ref a]/\SqL K H a (ys.map V.str)/\(ys.map (·.length)).sum+ys.length * sep.length<=16777216/\Q (.str (Txt.join sep ys)) H
theorem zkZ(K:PySem.W.Frag)(hK:X.K=K):MtM X "str.join" (zrN K):=by
 intro pins s σ H x vs v us Q I rx rv h
 obtain⟨sep,a,ys,rfl,rfl,hS,hz,q⟩:=h
 obtain⟨t,rfl⟩:=rx
 obtain⟨u,rfl,ru⟩:=rv.one
 cases ru
 subst hK
 obtain⟨its,r,pl,_⟩:=I.list hS
 exact join_list pl.isList (by simpa using zkY r) hz fun t' k=>⟨.str _,H,I.tok _,⟨_,rfl⟩,q⟩
def zl4(x:Str)(n:Int):Str:=if n < 1 then Str.empty else if(n==1 || x.length==0)=true then x else⟨(List.replicate n.toNat x.cps).foldl (·++·) #[]⟩
theorem zj2:OpR X (binaryOp .Mult) (fun x y H Q=>∃ z n,x=.str z/\y=.int n/\0<=n/\n<=1/\Q (.str (zl4 z n)) H):=by
 intro pins s σ H x y v u Q I rx ry h
 obtain⟨z,n,rfl,rfl,h0,h1,q⟩:=h
 obtain⟨t,rfl⟩:=rx
 obtain⟨t',rfl⟩:=ry
 rcases(by omega:n=0\/n=1)with rfl | rfl
 ·exact PySem.P.mul_str_none (by decide) (by decide) ⟨.str _,H,I.tok _,⟨_,rfl⟩,q⟩
 ·refine PySem.P.mul_str (by decide) (fun _ z=>by simp at z) (fun _ z=>by simp at z) ?_
  rw [if_neg (by decide),if_pos (by rfl)]
  exact⟨.str _,H,I,⟨_,rfl⟩,q⟩
end
structure Kp (H H':Hp):Prop where
 tup:∀ b xs,H b=some (.tup xs)->H' b=some (.tup xs)
 frz:∀ b o u,H b=some (.frz o u)->H' b=some (.frz o u)
theorem Kp.refl(H:Hp):Kp H H:=⟨fun _ _ h=>h,fun _ _ _ h=>h⟩
theorem Kp.trans{H H1 H2:Hp}(a:Kp H H1)(b:Kp H1 H2):Kp H H2:=⟨fun x y h=>b.tup x y (a.tup x y h),fun x y z h=>b.frz x y z (a.frz x y z h)⟩
theorem zbE.kp{H H':Hp}(s:zbE H H'):Kp H H':=⟨fun _ _ h=>s _ _ h,fun _ _ _ h=>s _ _ h⟩
theorem SameBut.new{H H1:Hp}{p L:Addr}(s:SameBut p H H1)(hn:H L=none)(o:HO):SameBut p H (L2.upd H1 L o):=fun b u n h=>by
 rw [zD (zav h hn)]
 exact s b u n h
theorem zbE.new{H H1:Hp}{L:Addr}(s:zbE H H1)(hn:H L=none)(o:HO):zbE H (L2.upd H1 L o):=fun b u h=>by
 rw [zD (zav h hn)]
 exact s b u h
end L2
namespace HT
open PySem PyProof.Rows
open PySem.SeqAt
open PySem.MeetsSeq PySem.MeetsSeq2 PySem.MeetsSeq3
section
variable {prog:Program} {w:World} {A:Around} {E:Value->Shared->Prop} {s:Shared}
theorem getItem_tuple_all{t sl:Addr}{items:Array Value}{vl vu:Value}{lo hi:Option Int}{Q:Value->Shared->Prop}(ht:IsTup s.heap t items)(hs:s.heap.IsSliceOf sl vl vu .none)(pl:IsPart vl lo)(pu:IsPart vu hi)
  (hw:sIx items.size 0 lo=0/\sIx items.size items.size hi=items.size) (h:Q (.ref t) s):wpAny (model prog w) A (getItem (.ref t) (.ref sl)) Q E s:=by
 obtain⟨os,hos,hcs,hds⟩:=id hs
 have hTs:s.TypeIs (.ref sl) "slice":=⟨os,hos,hcs⟩
 unfold getItem
 try with_reducible refine wpAny_holding ?_
 first | refine wpAny_bind (wpAny_pure ?_) | skip
 refine wpAny_bind (wpAny_sequenceKey ht.typeIs (by decide) ?_)
 refine wpAny_bind (wpAny_callSpecial?_slot (name:=Str.ofString "__getitem__") ht.typeIs PyProof.Rows.slot_tuple_getitem
  (wpAny_call_entry PyProof.Rows.slot_tuple_getitem ht.typeIs entry_tuple_getitem ?_ (args_tuple_getitem _ _)))
 show wpAny _ _ (Builtin.Tuple.tupleItemsOf (.ref t) >>= _) _ _ s
 refine wpAny_bind (tupleItemsOf_ ht ?_)
 refine wpAny_bind (wpAny_typeOf hTs ?_)
 rw [if_pos (by decide)]
 refine wpAny_bind (zdj hs pl pu ?_)
 have hyes:(((sIx items.size 0 lo:Nat):Int)==0 && (1:Int)==1 && (sIx items.size items.size hi - sIx items.size 0 lo)==items.size)=true:=by
  rw [hw.1,hw.2]
  simp
 show wpAny _ _ (if(((sIx items.size 0 lo:Nat):Int)==0 && (1:Int)==1 && (sIx items.size items.size hi - sIx items.size 0 lo)==items.size)=true then _ else _) _ _ s
 rw [if_pos hyes]
 refine wpAny_bind (m:=Builtin.Tuple.tupleIsExact _) (wpAny_bind (wpAny_typeOf ht.typeIs (wpAny_pure ?_)))
 rw [if_pos (by decide)]
 exact wpAny_bind (wpAny_rule (wpAny_pure ⟨_,rfl,wpAny_pure h⟩))
end
end HT
namespace L2
open PySem PySem.Spec PyProof.Rows
section
variable {X:Cx}
end
section
variable {X:Cx} {tg:Expr}
end
section
variable {X:Cx}
def zm8(K:PySem.W.Frag):V->List V->Hp->VK->Prop:=fun o vs H Q=>∃ l xs x j,o=.ref l/\vs=[x]/\H l=some (.lst xs)/\zdR x=true/\xs.all zdR=true /\
 (∃ y,xs[j]?=some y/\eqV y x=true)/\(∀ m y,m < j->xs[m]?=some y->eqV y x=false)/\Q (.int (j:Nat)) H
theorem zm9(K:PySem.W.Frag):MtM X "list.index" (zm8 K):=by
 intro pins s σ H x vs v us Q I rx rv h
 obtain⟨l,xs,y,j,rfl,rfl,hH,fy,fx,⟨yj,ej,tj⟩,no,q⟩:=h
 cases rx
 obtain⟨u,rfl,ru⟩:=rv.one
 obtain⟨z,its,n,r,hl,e⟩:=I.lstM hH
 have hn:=zey
 obtain⟨uj,euj,rj⟩:=r.get ej
 have hj:j < its.toArray.size:=by rw [List.size_toArray]; exact(List.getElem?_eq_some_iff.mp euj).1
 have at_:∀ m (hm:m < its.toArray.size),∃ ym,xs[m]?=some ym/\eqU y its.toArray[m]=eqV ym y:=fun m hm=>by
  have hm':m < its.length:=by simpa using hm
  have hx:m < xs.length:=by omega
  obtain⟨um,em,rm⟩:=r.get (List.getElem?_eq_getElem hx)
  refine⟨xs[m],List.getElem?_eq_getElem hx,?_⟩
  rw [List.getElem?_eq_getElem hm']at em
  have eu:its.toArray[m]=um:=by
   rw [List.getElem_toArray]
   exact Option.some.inj em
  rw [eu]
  exact zjU rm (List.all_eq_true.mp fx _ (List.getElem_mem hx))
 refine call_meets F.slot_list_index ⟨_,e,rfl⟩ F.entry_list_index (F.args_list_index_2 _ _) (SeqAt.list_indexAt l its.toArray n none #[] u (eqU y) j hj (by rw [List.size_toArray]at hj; omega) ?_ ?_) ⟨e,fun w hw=>zdk ru fy r fx w (by simpa using hw),?_⟩
 ·obtain⟨ym,em,q1⟩:=at_ j hj
  rw [ej]at em
  cases em
  rw [q1]
  exact tj
 ·intro m hm hlt
  obtain⟨ym,em,q1⟩:=at_ m hm
  rw [q1]
  exact no m ym hlt em
 ·exact⟨.int _,H,I.tok _,⟨_,rfl⟩,q⟩
end
section
variable {X:Cx}
theorem zac.at:∀ {xs:List V} {us:List Value} {i:Nat} {u:Value},zac xs us->us[i]?=some u->∃ x,xs[i]?=some x/\zap x u
 | _,_,0,_,.cons r _,e=>by
  cases(show some _=some _ from e)
  exact⟨_,rfl,r⟩
 | _,_,i+1,_,.cons _ t,e=>zac.at (i:=i) t e
 | _,_,0,_,.nil,e=>by cases e
 | _,_,_+1,_,.nil,e=>by cases e
theorem zna{pins:List (Addr×Obj)}{σ:St}{H:Hp}{s:Shared}{p:Addr}{xs:List V}{A:Around}{E:Value->Shared->Prop}{Q:Value->Shared->Prop}(I:Inv X pins σ H s)(hh:A.handled=none)(hq:SqL X.K H p xs\/SqT X.K H p xs)
  (h:∀ (it:Addr) (fp wr:List Addr) (n:Nat) (P:Nat->Value->Prop) (St:Nat->Heap->Prop) (s2:Shared),Walks X.prog X.w A it fp wr n P St->St 0 s2.heap->(∀ b∈fp,b < s2.heap.objs.size)->n=xs.length->(∀ i v,P i v->∃ x,xs[i]?=some x/\zap x v) ->
   (∀ h' tk,(∀ b o,b∉wr->s2.heap.get? b=some o->h'.get? b=some o)->Inv X pins σ H { s2 with heap:=h',toks:=tk })->Q (.ref it) s2) :
  wpAny (model X.prog X.w) A (pyIter (.ref p)) Q E s:=by
 rcases hq with hq | hq
 ·obtain⟨its,r,pl,hz⟩:=I.list hq
  have hp:p < s.heap.objs.size:=by
   obtain⟨o,n,e,_⟩:=pl
   exact Heap.lt_size e
  have ne:p≠s.heap.objs.size:=Nat.ne_of_lt hp
  refine wpAny_pyIter_list pl.isList (h s.heap.objs.size [s.heap.objs.size,p] [s.heap.objs.size] its.toArray.size _ _ _ (Walks.list hh _ p ne its.toArray) ⟨⟨_,Heap.get?_push_size _ rfl,rfl,rfl⟩,?_⟩ (fun b hb=>?_) (by rw [List.size_toArray]; exact r.length.symm) (fun i v e=>zac.at r (by simpa using e)) fun h' tk hk=>?_)
  ·obtain⟨o,n,e,c,d,f⟩:=pl
   exact⟨o,Heap.get?_push_of_some _ e,c,n,f⟩
  ·rw [Heap.size_push]
   rcases List.mem_cons.mp hb with z | z
   ·rw [z]; exact Nat.lt_succ_self _
   ·rw [List.mem_singleton.mp z]; exact Nat.lt_succ_of_lt hp
  ·exact I.kept fun b u e=>hk b u (fun z=>absurd (Heap.lt_size e) (by rw [List.mem_singleton.mp z]; exact Nat.lt_irrefl _)) (Heap.get?_push_of_some _ e)
 ·obtain⟨its,r,pl,hz⟩:=I.tuple hq
  have hp:p < s.heap.objs.size:=by
   obtain⟨o,e,_⟩:=pl
   exact Heap.lt_size e
  have ne:p≠s.heap.objs.size:=Nat.ne_of_lt hp
  refine wpAny_pyIter_tuple (show s.heap.IsTuple p its.toArray from pl) (h s.heap.objs.size [s.heap.objs.size,p] [s.heap.objs.size] its.toArray.size _ _ _ (Walks.tuple hh _ p ne its.toArray) ⟨⟨_,Heap.get?_push_size _ rfl,rfl,rfl⟩,?_⟩ (fun b hb=>?_) (by rw [List.size_toArray]; exact r.length.symm) (fun i v e=>zac.at r (by simpa using e)) fun h' tk hk=>?_)
  ·obtain⟨o,e,c,n,f⟩:=pl
   exact⟨o,Heap.get?_push_of_some _ e,c,n,f⟩
  ·rw [Heap.size_push]
   rcases List.mem_cons.mp hb with z | z
   ·rw [z]; exact Nat.lt_succ_self _
   ·rw [List.mem_singleton.mp z]; exact Nat.lt_succ_of_lt hp
  ·exact I.kept fun b u e=>hk b u (fun z=>absurd (Heap.lt_size e) (by rw [List.mem_singleton.mp z]; exact Nat.lt_irrefl _)) (Heap.get?_push_of_some _ e)
end
section
variable {prog:Program} {w:World} {A:Around} {R:Result->Shared->Prop} {it:Addr} {fp wr:List Addr} {n:Nat} {P:Nat->Value->Prop} {St:Nat->Heap->Prop}
end
section
variable {prog:Program} {w:World} {A:Around} {E:Value->Shared->Prop} {s:Shared}
end
section
variable {X:Cx}
theorem zhu(val:Nat->Int):∀ k,argBest (fun i j=>decide (val i > val j)) k<=k/\∀ i,i<=k->val i<=val (argBest (fun i j=>decide (val i > val j)) k)
 | 0=>⟨Nat.le_refl _,fun i hi=>by cases Nat.le_zero.mp hi; exact Int.le_refl _⟩
 | k+1=>by
  obtain⟨h1,h2⟩:=zhu val k
  unfold argBest
  by_cases c:val (k+1) > val (argBest (fun i j=>decide (val i > val j)) k)
  ·rw [if_pos (decide_eq_true c)]
   refine⟨Nat.le_refl _,fun i hi=>?_⟩
   rcases Nat.lt_or_ge i (k+1)with z | z
   ·have:=h2 i (by omega)
    omega
   ·have:i=k+1:=by omega
    subst this
    exact Int.le_refl _
  ·rw [if_neg (by rw [decide_eq_false c]; exact Bool.false_ne_true)]
   refine⟨by omega,fun i hi=>?_⟩
   rcases Nat.lt_or_ge i (k+1)with z | z
   ·exact h2 i (by omega)
   ·have:i=k+1:=by omega
    subst this
    omega
end
section
variable {prog:Program} {w:World} {A:Around} {E:Value->Shared->Prop} {s:Shared}
theorem zez{it t:Addr}{i:Nat}{items:Array Value}{x:Value}{Q:Value->Shared->Prop}(hi:s.heap.IsTupleIter it t i)(ht:s.heap.IsTuple t items)(hx:items[i]?=some x)
  (q:∀ h',h'.IsTupleIter it t (i+1)->Heap.SameBut it s.heap h'->Q x { s with heap:=h' }):wpAny (model prog w) A (Builtin.SmallTypes.nextOf (.ref it)) Q E s:=by
 obtain⟨oi,e1,e2,e3⟩:=id hi
 obtain⟨ot,f1,f2,nt,f3⟩:=ht
 unfold Builtin.SmallTypes.nextOf
 refine wpAny_bind (wpAny_callSpecial?_slot (name:=Str.ofString "__next__") hi.typeIs slot_tupleiter_next
  (wpAny_call_entry slot_tupleiter_next hi.typeIs entry_tupleiter_next ?_ (args_tupleiter_next _)))
 show wpAny _ _ (field (.ref it) 0 >>= _) _ _ s
 refine wpAny_bind (wpAny_field e1 e3 (x:=.ref t) rfl ?_)
 show wpAny _ _ (if(Value.ref t==Value.none)=true then _ else _) _ _ s
 rw [if_neg (show ¬((Value.ref t==Value.none)=true) from Bool.false_ne_true)]
 show wpAny _ _ (field (.ref it) 1 >>= _) _ _ s
 refine wpAny_bind (wpAny_field e1 e3 (x:=.int i 0) rfl ?_)
 show wpAny _ _ (seqItems? (.ref t) >>= _) _ _ s
 refine wpAny_bind (wpAny_seqItems f1 f3 ?_)
 simp only [Int.toNat_natCast,hx]
 refine wpAny_bind (wpAny_setField e1 e3 (by simp) (wpAny_pure ⟨x,rfl,wpAny_pure (q _ ?_ (Heap.SameBut.update ..))⟩))
 refine⟨_,Heap.get?_update_self _ e1 (Obj.isFreed_of_fields (Obj.data_mapFields e3 _)),(Obj.cls_mapFields ..).trans e2,?_⟩
 rw [Obj.data_mapFields e3]
 simp [rawInt]
theorem zhv{it t:Addr}{i:Nat}{items:Array Value}{Q:Value->Shared->Prop}(hh:A.handled=none)(hi:s.heap.IsTupleIter it t i)(ht:s.heap.IsTuple t items)(hx:items[i]?=none)
  (q:∀ h' e,Heap.ExtBut it s.heap h'->(∃ o,h'.get? e=some o/\o.cls=.type "StopIteration")->E (.ref e) { s with heap:=h' }):wpAny (model prog w) A (Builtin.SmallTypes.nextOf (.ref it)) Q E s:=by
 obtain⟨oi,e1,e2,e3⟩:=id hi
 obtain⟨ot,f1,f2,nt,f3⟩:=ht
 unfold Builtin.SmallTypes.nextOf
 refine wpAny_bind (wpAny_callSpecial?_slot (name:=Str.ofString "__next__") hi.typeIs slot_tupleiter_next
  (wpAny_call_entry slot_tupleiter_next hi.typeIs entry_tupleiter_next ?_ (args_tupleiter_next _)))
 show wpAny _ _ (field (.ref it) 0 >>= _) _ _ s
 refine wpAny_bind (wpAny_field e1 e3 (x:=.ref t) rfl ?_)
 show wpAny _ _ (if(Value.ref t==Value.none)=true then _ else _) _ _ s
 rw [if_neg (show ¬((Value.ref t==Value.none)=true) from Bool.false_ne_true)]
 show wpAny _ _ (field (.ref it) 1 >>= _) _ _ s
 refine wpAny_bind (wpAny_field e1 e3 (x:=.int i 0) rfl ?_)
 show wpAny _ _ (seqItems? (.ref t) >>= _) _ _ s
 refine wpAny_bind (wpAny_seqItems f1 f3 ?_)
 simp only [Int.toNat_natCast,hx]
 refine wpAny_bind (wpAny_rule (wpAny_bind (wpAny_setField e1 e3 (by simp) ?_)))
 show wpAny _ _ (newExc (.type "StopIteration") [] >>= _) _ _ _
 refine wpAny_bind ?_
 simp only [newExc,newTuple]
 refine wpAny_bind (wpAny_newObj_type ?_ (by show(0:Nat)<=sizeLine; exact Nat.zero_le _))
 refine wpAny_bind (m:=firstArgMember _ _) (wpAny_of_eq (a:=Value.none) (by first | rfl | (simp only [firstArgMember]; rfl)) ?_)
 refine wpAny_newObj_type ?_ (by first | trivial | size_fits)
 simp only [raiseNew]
 refine wpAny_bind (wpAny_handled ?_)
 first | rw [show A.in1.handled=none from hh] | rw [hh]
 refine wpAny_bind (wpAny_pure (wpAny_throw ?_))
 exact q _ _ (((Heap.SameBut.update ..).extBut.push _).push _) ⟨_,Heap.get?_push_size _ rfl,rfl⟩
end
theorem zfC{prog:Program}{w:World}{A:Around}(hh:A.handled=none)(it t:Addr)(ne:t≠it)(items:Array Value) :
  Draws prog w A it [it,t] items.size (fun i v=>items[i]?=some v) (fun i h=>h.IsTupleIter it t i/\h.IsTuple t items) where
 live:=fun _ _ st=>let ⟨o,ho,_⟩:=st.1; ⟨o,ho⟩
 frame:=fun _ _ _ st hk=>by
  obtain⟨⟨o,a1,a2,a3⟩,⟨o2,b1,b2⟩⟩:=st
  exact⟨⟨o,hk it (by simp) o a1,a2,a3⟩,⟨o2,hk t (by simp) o2 b1,b2⟩⟩
 item:=fun i s Q E hi st q=>by
  refine zez st.1 st.2 (x:=items[i]) (by simp [hi]) fun h' hit' hs'=>?_
  exact q _ h' s.toks (by simp [hi]) ⟨hit',st.2.extBut hs'.extBut ne⟩ hs'
 done:=fun s Q E st q=>zhv hh st.1 st.2 (by simp) q
theorem zl5(t:Addr)(items:Array Value)(n:Nat)(dct:Option Addr)(sl:Array (Option Value)) :
  Meets (Builtin.«enumerate.__new__» ⟨[.type "enumerate",.ref t],[]⟩) (fun _ R s=>s.heap.get? t=some { cls:=.type "tuple",dict:=dct,data:=.seq items n,slots:=sl } /\
   R (.ok (.ret (.ref (s.heap.push { cls:=.type "tuple_iterator",data:=.fields #[.ref t,.int 0 0] }).objs.size)))
    { s with heap:=(s.heap.push { cls:=.type "tuple_iterator",data:=.fields #[.ref t,.int 0 0] }).push { cls:=.type "enumerate",data:=.fields #[.none,.bool false,.ref s.heap.objs.size,rawInt 0,.none,.none] } }) :=
 .of_wp fun prog w A R s h=>by
  obtain⟨hp,g,d,tk,os⟩:=s
  obtain⟨hl,h⟩:=h
  have hsub:=sub_enumerate
  have hT:Heap.IsTuple (Shared.heap ⟨hp,g,d,tk,os⟩) t items:=⟨_,hl,rfl,n,rfl⟩
  wp_walk using PySem.AutoSeq1.wpAny_loadPart' hl
  refine wpAny_stack_any fun st=>wpAny_pure ?_
  split
  ·rename_i c _ _ _ _ _
   cases(c==Value.type "enumerate")
   ·wp_walk using PySem.AutoSeq1.wpAny_loadPart' hl,wpAny_pyIter_tuple hT
    exact⟨_,rfl,h⟩
   ·wp_walk using PySem.AutoSeq1.wpAny_loadPart' hl,wpAny_pyIter_tuple hT
    exact⟨_,rfl,h⟩
  ·wp_walk using PySem.AutoSeq1.wpAny_loadPart' hl,wpAny_pyIter_tuple hT
   exact⟨_,rfl,h⟩
section
variable {prog:Program} {w:World} {A:Around} {E:Value->Shared->Prop} {s:Shared}
theorem zj3{t:Addr}{items:Array Value}{Q:Value->Shared->Prop}(hT:s.heap.IsTuple t items)
  (h:∀ h',IsEnum h' (s.heap.objs.size+1) s.heap.objs.size 0 .none->h'.IsTupleIter s.heap.objs.size t 0->(∀ b o,s.heap.get? b=some o->h'.get? b=some o)->Q (.ref (s.heap.objs.size+1)) { s with heap:=h' }) :
  wpAny (model prog w) A (call (.type "enumerate") [.ref t]) Q E s:=by
 obtain⟨⟨c,dct,dt,sl⟩,hl,hc,n,hd⟩:=hT
 replace hc:c=.type "tuple":=hc
 replace hd:dt=.seq items n:=hd
 subst hc hd
 refine callType_new F.called_enumerate (by decide) (F.typeCall_enumerate_1 _) (F.newCall_enumerate_1 _) (fun obj=>F.args_object_init_2 obj _) F.entry_enumerate_new
  (zl5 t items n dct sl) ⟨hl,?_⟩
 have hz:(s.heap.push { cls:=.type "tuple_iterator",data:=.fields #[.ref t,.int 0 0] }).objs.size=s.heap.objs.size+1:=Heap.size_push ..
 show _/\_
 rw [hz]
 have he:IsEnum ((s.heap.push { cls:=.type "tuple_iterator",data:=.fields #[.ref t,.int 0 0] }).push
   { cls:=.type "enumerate",data:=.fields #[.none,.bool false,.ref s.heap.objs.size,rawInt 0,.none,.none] }) (s.heap.objs.size+1) s.heap.objs.size 0 .none:=by
  have z:=Heap.get?_push_size (s.heap.push { cls:=.type "tuple_iterator",data:=.fields #[.ref t,.int 0 0] })
   (o:={ cls:=.type "enumerate",data:=.fields #[.none,.bool false,.ref s.heap.objs.size,rawInt 0,.none,.none] }) rfl
  rw [hz]at z
  exact z
 exact⟨⟨_,he,rfl⟩,h _ he ⟨_,Heap.get?_push_of_some _ (Heap.get?_push_size _ rfl),rfl,rfl⟩ fun b o x=>Heap.get?_push_of_some _ (Heap.get?_push_of_some _ x)⟩
end
section
variable {X:Cx} {pins:List (Addr×Obj)} {σ:St} {H:Hp} {s:Shared} {h':Heap}
theorem Inv.turnedW{t':Nat}{wr:List Addr}(I:Inv X pins σ H s)(k:∀ b o,b∉wr->s.heap.get? b=some o->h'.get? b=some o)(hf:∀ b∈wr,zex X pins H b):Inv X pins σ H { s with heap:=h',toks:=t' }:=by
 have nit:∀ b u,H b=some u->b∉wr:=fun b u e z=>by rw [(hf b z).1]at e; cases e
 refine I.step (g':=s.gens) (d':=s.drawn) (ch:=wr) (fun b hb=>?_) (fun b o _ _ hc e _=>k b o hc e) (fun b o _ _ hc e _=>⟨o.slots,k b o hc e⟩) (fun _ _ _ _ n=>n)
  (fun b o hc e=>⟨o,k b o hc e⟩) (fun _ _ e=>e) (fun _ _ _ e=>e) (fun b ps e=>⟨#[],by rw [e]; simp⟩) (fun m hm=>?_) (fun b u e=>?_) I.bare
 ·obtain⟨_,z1,_,z3,z4,z5⟩:=hf b hb
  exact⟨z3,z1,z4,z5⟩
 ·obtain⟨o,es,ep,ho,r⟩:=hm
  exact⟨o,es,ep,k _ o (fun z=>(hf _ z).2.1 rfl) ho,r⟩
 ·refine(I.hok b u e).stay (fun c v hc q=>k c v ?_ q) (fun _ q=>q) fun _ _ q=>q
  rcases hc with z | z
  ·rw [z]; exact nit b u e
  ·exact nit c _ z
theorem Inv.track{a:Addr}{o:HO}(I:Inv X pins σ H s)(f:zex X pins H a)(ha:X.s₀.heap.objs.size<=a)(new:zaN X.prog X.w (upd H a o) s.heap a o):Inv X pins σ (upd H a o) s:=by
 obtain⟨f0,f1,f2,f3,f4,f5⟩:=f
 refine⟨I.ok,I.os,I.bare,ziU I.base f0 ha,I.loc,I.cell,?_,fun x c e=>?_,fun p hp=>?_,zhs I.hok f0 new,I.len⟩
 ·rw [zD (Ne.symm f1)]
  exact I.free
 ·rw [zD (f4 x c e)]
  exact I.freeC x c e
 ·obtain⟨p1,p2,p3⟩:=I.pin p hp
  refine⟨p1,?_,p3⟩
  rw [zD (f5 p hp)]
  exact p2
end
def Ite(K:PySem.W.Frag)(a:Addr):It :=
 ⟨fun i H=>∃ xs x,SqT K H a xs/\xs[i]?=some x,fun i H x H'=>∃ T,H T=none/\x=.ref T/\∀ xs v,SqT K H a xs->xs[i]?=some v->H'=upd H T (.tup [.int i,v]),fun i H=>∃ xs,SqT K H a xs/\xs.length=i⟩
theorem zl6{P:Program}{w:World}{K:PySem.W.Frag}{elts:List Expr}{k:Nat}{pos:Pos}(e it t:Addr)(hei:e≠it)(hte:t≠e)(hti:t≠it) :
  Turn P w K (.Tuple elts k pos) (Ite K t) [e,it] e (fun i h=>(∃ old,IsEnum h e it i old)/\h.IsTupleIter it t i) where
 mem:=by simp
 obj:=fun i h st b hb=>by
  obtain⟨⟨old,he⟩,⟨o,ho,_,hd⟩⟩:=st
  rcases List.mem_cons.mp hb with z | z
  ·subst z
   exact⟨_,he,fun v q=>by
    have q':Data.fields _=Data.cell v:=q
    cases q'⟩
  ·rw [List.mem_singleton.mp z]
   exact⟨o,ho,fun v q=>by rw [hd]at q; cases q⟩
 keep:=fun i h h' st kk=>by
  obtain⟨⟨old,he⟩,⟨o,ho,hc,hd⟩⟩:=st
  exact⟨⟨old,kk e (by simp) _ he⟩,⟨o,kk it (by simp) _ ho,hc,hd⟩⟩
 item:=by
  intro X hP hw hK hc i pins s σ H E I hf st hg
  subst hP hw hK
  obtain⟨xs,x,hq,hx⟩:=hg
  obtain⟨its,rv,ht,hz⟩:=I.tuple hq
  have hi:i < its.toArray.size:=by
   rw [List.size_toArray,<-rv.length]
   exact(List.getElem?_eq_some_iff.mp hx).1
  have W:=WalksT.enumerateD (zfC (prog:=X.prog) (w:=X.w) (A:=X.A.in1) (I.ok.hd hc) it t hti its.toArray) e hei (by simp [hei,Ne.symm hte]) (by simp)
  refine W.item i s _ _ hi ⟨st.1,st.2,ht⟩ fun T vals h1 tk hP hT isT mid kk=>?_
  refine⟨_,rfl,W.go elts k pos i T { s with heap:=h1,toks:=tk } _ _ mid fun h2 st2 kk2=>?_⟩
  obtain⟨tt,u,hu,rfl⟩:=hP
  have apart:=W.apart _ _ _ mid
  have I2:Inv X pins σ H { s with heap:=h2,toks:=tk }:=I.turnedW (wr:=[e,it]) (fun b o hb q=>kk2 b o hb (kk b o hb q)) hf
  have fT:zex X pins H T:=I.fpOk hT (I.hok.fresh hT)
  have ru:zap x u:=by
   obtain⟨u',eu,r⟩:=rv.get hx
   have:u'=u:=by
    have z:its[i]?=some u:=by simpa using hu
    rw [eu]at z
    exact Option.some.inj z
   rw [<-this]
   exact r
  obtain⟨oT,g1,g2,nT,g3⟩:=isT
  have I3:Inv X pins σ (upd H T (.tup [.int i,x])) { s with heap:=h2,toks:=tk }:=I2.track fT (Nat.le_trans I.sz hT) ⟨by show 2<=sizeLine; decide,[.int i tt,u],.cons ⟨tt,rfl⟩ (.cons ru .nil),oT,kk2 T oT apart g1,g2,nT,g3⟩
  refine⟨.ref T,_,I3,rfl,⟨T,I.hok.fresh hT,rfl,fun xs' v hq' hv=>?_⟩,⟨?_,st2.2.1⟩,fun b hb=>?_⟩
  ·have:=I.tuple_inj hq hq'
   subst this
   rw [hx]at hv
   cases hv
   rfl
  ·exact st2.1
  ·have ne:b≠T:=fun z=>apart (by rw [<-z]; exact hb)
   rw [zD ne]
   exact(hf b hb).1
 done:=by
  intro X hP hw hK hc i pins s σ H E I hf st hg
  subst hP hw hK
  obtain⟨xs,hq,hl⟩:=hg
  obtain⟨its,rv,ht,hz⟩:=I.tuple hq
  have hi:i=its.toArray.size:=by
   rw [List.size_toArray,<-rv.length]
   exact hl.symm
  have W:=WalksT.enumerateD (zfC (prog:=X.prog) (w:=X.w) (A:=X.A.in1) (I.ok.hd hc) it t hti its.toArray) e hei (by simp [hei,Ne.symm hte]) (by simp)
  refine W.done s _ _ ?_ fun h1 tk kk=>⟨rfl,I.turnedW (wr:=[e,it]) kk hf⟩
  rw [<-hi]
  exact⟨st.1,st.2,ht⟩
 self:=fun _ _ _ _ _ st h=>by
  obtain⟨⟨old,he⟩,_⟩:=st
  exact wpAny_pyIter_enum he h
section
variable {X:Cx} {elts:List Expr} {k:Nat} {tpos:Pos}
def zrO(K:PySem.W.Frag)(ta:TA):TI:=fun σ H R=>ta σ H fun vs H1=>∃ a,vs=[.ref a]/\(∃ xs,SqT K H1 a xs)/\R (Ite K a) H1
theorem zpH{a:Expr}{ta:TA}{p pos:Pos}(K:PySem.W.Frag)(hK:X.K=K)(hg:Gl X "enumerate")(hm:X.mg "enumerate"=none)(ha:Wr (PA X [a] ta))(hs:zaC a=true:=by rfl) :
  Wr (PI X (.Tuple elts k tpos) (.Call (.Name "enumerate" p) [a] [] pos) (zrO K ta)):=by
 subst hK
 refine⟨?_⟩
 intro pins s σ H R I h
 refine Call_ (zfb I hg hm boot_enumerate (PyProof.Rows.callWith_type1 (thn (ha.run pos pins s σ H _ I h) fun us s1 ⟨vs,H1,I1,r1,q1⟩=>?_) (zcO hs) rfl))
 obtain⟨t,e,⟨xs,hq⟩,q⟩:=q1
 subst e
 obtain⟨u,rfl,ru⟩:=zeM r1
 cases ru
 obtain⟨its,rv,ht,hz⟩:=I1.tuple hq
 have tl:t < s1.heap.objs.size:=by
  obtain⟨o,e,_⟩:=ht
  exact Heap.lt_size e
 refine zj3 (show s1.heap.IsTuple t its.toArray from ht) fun h' he hit kk=>?_
 have I2:Inv X pins σ H1 { s1 with heap:=h' }:=I1.kept (t':=s1.toks) kk
 refine wpAny_pyIter_enum he ?_
 refine⟨s1.heap.objs.size+1,[s1.heap.objs.size+1,s1.heap.objs.size],_,_,H1,rfl,I2,zl6 (s1.heap.objs.size+1) s1.heap.objs.size t (Nat.succ_ne_self _) (Nat.ne_of_lt (Nat.lt_succ_of_lt tl)) (Nat.ne_of_lt tl),⟨⟨_,he⟩,hit⟩,fun b hb=>?_,q⟩
 rcases List.mem_cons.mp hb with z | z
 ·subst z
  exact I1.fpOk (Nat.le_succ _) (I1.hok.fresh (Nat.le_succ _))
 ·rw [List.mem_singleton.mp z]
  exact I1.fpOk (Nat.le_refl _) (I1.hok.fresh (Nat.le_refl _))
end
section
variable {X:Cx}
end
section
variable {X:Cx} {pos pos':Pos} {o i v:Expr} {td ty tv:TE} {k:Nat}
theorem zeQ:Wr (PE X (.Dict [] [] pos) zjX):=⟨zmW⟩
theorem zdZ(hr:Room k X.A)(ho:Wr (PE X o td))(hi:Wr (PE X i ty))(hs:zsY i:=by intro _ _; rfl):Wr (PE X (.Subscript o i pos) (zmU td ty)):=⟨zpz (zkU hr) ho.run hi.run hs⟩
theorem zhX(hr:Room k X.A)(ho:Wr (PE X o td))(hi:Wr (PE X i ty))(hv:Wr (PE X v tv))(hs:swapsWith v (some (.Subscript o i pos')) pos.line X.env=pure false:=by rfl) :
  Wr (PS X (.Assign [.Subscript o i pos'] v pos) (zmV td ty tv)):=⟨zpA (zkU hr) ho.run hi.run hv.run hs⟩
end
end L2
namespace L2
open PySem PySem.W PyProof.Rows
section
variable {α β:Type}
def zl7(lt:Nat->Nat->Bool)(n:Nat):KasT α->(α->Prop)->Prop
 | .ret a,Q=>Q a
 | .ask i j k,Q=>i < n/\j < n/\zl7 lt n (k (lt i j)) Q
theorem zl7.bind{lt:Nat->Nat->Bool}{n:Nat}{f:α->KasT β}{Q:β->Prop}:∀ {t:KasT α},zl7 lt n t (fun a=>zl7 lt n (f a) Q)->zl7 lt n (t.bind f) Q
 | .ret _,h=>h
 | .ask _ _ _,⟨h1,h2,h3⟩=>⟨h1,h2,zl7.bind h3⟩
end
section
variable {rk:Nat->Int} {n:Nat}
def KR(rk:Nat->Int)(p:Array Nat)(i:Nat):Int:=rk (p.getD i 0)
def Up(rk:Nat->Int)(p:Array Nat)(m:Nat):Prop:=∀ i j,i<=j->j < m->KR rk p i<=KR rk p j
def Dn(rk:Nat->Int)(p:Array Nat)(m:Nat):Prop:=∀ i j,i<=j->j < m->KR rk p j<=KR rk p i
theorem Up.more{p:Array Nat}{m:Nat}(h:Up rk p m)(h1:1<=m)(hm:KR rk p (m - 1)<=KR rk p m):Up rk p (m+1):=fun i j hij hj=>by
 by_cases e:j=m
 ·subst e
  by_cases e2:i=j
  ·subst e2; exact Int.le_refl _
  ·exact Int.le_trans (h i (j - 1) (by omega) (by omega)) hm
 ·exact h i j hij (by omega)
theorem Dn.more{p:Array Nat}{m:Nat}(h:Dn rk p m)(h1:1<=m)(hm:KR rk p m<=KR rk p (m - 1)):Dn rk p (m+1):=fun i j hij hj=>by
 by_cases e:j=m
 ·subst e
  by_cases e2:i=j
  ·subst e2; exact Int.le_refl _
  ·exact Int.le_trans hm (h i (j - 1) (by omega) (by omega))
 ·exact h i j hij (by omega)
theorem Dn.congr{p p':Array Nat}{m:Nat}(h:Dn rk p m)(e:∀ k,KR rk p' k=KR rk p k):Dn rk p' m:=fun i j hij hj=>by
 rw [e,e]
 exact h i j hij hj
end
end L2
namespace L2
open PySem PySem.Spec PyProof.Rows
open PySem.AutoSeq1 (wpAny_loadPart')
open MeetsSeq MeetsSeq2 MeetsSeq3 SeqRoads2
def znb:List Int->List Int->Bool
 | [],[]=>false
 | [],_::_=>true
 | _::_,[]=>false
 | a::as,b::bs=>if a=b then znb as bs else decide (a < b)
end L2
namespace L2
open PySem PySem.Spec PySem.W PyProof.Rows
section
variable {prog:Program} {w:World} {A:Around} {E:Value->Shared->Prop} {s:Shared}
end
theorem zk0:∀ a:List Int,znb a a=false
 | []=>rfl
 | a::as=>by unfold znb; rw [if_pos rfl]; exact zk0 as
theorem zpI{ns ms:List Int}:(ns.map fun n=>(Sum.inl n:Key))=(ms.map fun n=>(Sum.inl n:Key))↔ns=ms:=by
 constructor
 ·intro h
  have:=congrArg (List.map fun k:Key=>match k with | .inl n=>n | .inr _=>0) h
  rw [List.map_map,List.map_map]at this
  simpa [Function.comp_def] using this
 ·rintro rfl; rfl
section
variable {prog:Program} {w:World} {A:Around} {s:Shared}
end
section
variable {X:Cx}
end
end L2
namespace L2
open PySem PySem.Spec PyProof.Rows
def znc(h:Heap)(d:Addr)(es:Array DictEntry)(ep:Nat):Prop:=∃ o,h.get? d=some o/\o.ExactDict/\o.data=.dict es ep
theorem znc.typeIs{s:Shared}{d:Addr}{es:Array DictEntry}{ep:Nat}(r:znc s.heap d es ep):s.TypeIs (.ref d) "dict":=by
 obtain⟨o,e,x,_⟩:=r
 exact⟨o,e,x.1⟩
section
variable {prog:Program} {w:World} {A:Around} {E:Value->Shared->Prop} {s:Shared} {it d:Addr} {i ep:Nat} {es:Array DictEntry}
theorem znd{Q:Value->Shared->Prop}(hd:(d==sysModules)=false)(r:znc s.heap d es ep)
  (q:∀ h':Heap,h'.IsKeyIter s.heap.objs.size d 0 es.size ep->(∀ b o,s.heap.get? b=some o->h'.get? b=some o)->Q (.ref s.heap.objs.size) { s with heap:=h' }):wpAny (model prog w) A (pyIter (.ref d)) Q E s:=by
 have hT:=r.typeIs
 obtain⟨o,e,_,dat⟩:=r
 refine wpAny_pyIter_slot hT F.slot_dict_iter (wpAny_call_entry F.slot_dict_iter hT F.entry_dict_iter ?_ (F.args_dict_iter_1 _))
 unfold Builtin.«dict.__iter__»
 refine wpAny_bind ?_
 unfold Builtin.Dict.dictSlotNone
 refine wpAny_bind (wpAny_notOrdered_dict hT (wpAny_pure ?_))
 show wpAny _ _ (Builtin.Dict.showsAll d >>= _) _ _ s
 unfold Builtin.Dict.showsAll
 rw [hd,if_neg Bool.false_ne_true]
 refine wpAny_bind (wpAny_pure (wpAny_bind (wpAny_dictEntries e dat (wpAny_bind (wpAny_dictEpoch e dat (wpAny_bind (wpAny_newObj_type (wpAny_pure ⟨_,rfl, "dict_keyiterator",_,⟨_,Heap.get?_push_size _ rfl,rfl⟩,F.slot_dict_keyiterator_next.lookup,?_⟩))))))))
 exact q _ ⟨_,Heap.get?_push_size _ rfl,rfl,by simp [rawInt]⟩ fun b o z=>Heap.get?_push_of_some _ z
theorem zne{Q:Option Value->Shared->Prop}(k:s.heap.IsKeyIter it d i es.size ep)(r:znc s.heap d es ep){x:DictEntry}(hx:es[i]?=some x)
  (q:∀ h':Heap,h'.IsKeyIter it d (i+1) es.size ep->Heap.SameBut it s.heap h'->Q (some x.key) { s with heap:=h' }):wpAny (model prog w) A (pyNext (.ref it)) Q E s:=by
 have kT:=k.typeIs
 obtain⟨oi,ei,ci,fi⟩:=id k
 obtain⟨o,e,_,dat⟩:=r
 unfold pyNext
 refine wpAny_bind (wpAny_attempt (wpAny_callSpecial?_slot (name:=Str.ofString "__next__") kT F.slot_dict_keyiterator_next
  (wpAny_call_entry F.slot_dict_keyiterator_next kT F.entry_dict_keyiterator_next ?_ (F.args_dict_keyiterator_next_1 _))))
 refine wpAny_bind (wpAny_pure (wpAny_bind (wpAny_bind ?_)))
 refine wpAny_bind (wpAny_typeNameOfWhole_keyiter kT (wpAny_pure (wpAny_bind (wpAny_fieldsOf ei fi ?_))))
 simp only [show Builtin.Dict_items.ownsTuple "dict_keyiterator"=false by decide,Bool.false_eq_true,if_false]
 show wpAny _ _ (if(Value.ref d==Value.none)=true then _ else _) _ _ s
 rw [if_neg (show ¬((Value.ref d==Value.none)=true) from Bool.false_ne_true)]
 refine wpAny_bind (wpAny_pure (wpAny_bind (wpAny_dictEntries e dat ?_)))
 rw [if_neg (by simp)]
 refine wpAny_bind (wpAny_pure (wpAny_bind (wpAny_dictEpoch e dat ?_)))
 rw [if_neg (by simp)]
 refine wpAny_pure ?_
 simp only [show ¬((i:Int) < 0) from by omega,if_false,Int.toNat_natCast,hx]
 refine wpAny_bind (wpAny_bind (wpAny_typeNameOfWhole_keyiter kT (wpAny_pure (wpAny_bind (wpAny_isOneOf_keyiter kT ?_)))))
 show wpAny _ _ (setField (.ref it) 1 (rawInt ((i:Int)+1)) >>= _) _ _ s
 refine wpAny_bind (wpAny_setField ei fi (by simp) ?_)
 have k':(s.heap.update it (Obj.mapFields (·.setIfInBounds 1 (rawInt ((i:Int)+1))))).IsKeyIter it d (i+1) es.size ep :=
  ⟨_,Heap.get?_update_self _ ei (Obj.isFreed_of_fields (Obj.data_mapFields fi _)),(Obj.cls_mapFields ..).trans ci,by rw [Obj.data_mapFields fi]; simp [rawInt]⟩
 refine wpAny_bind (wpAny_holding (wpAny_bind (wpAny_isOneOf_keyiter (s:={ s with heap:=s.heap.update it (Obj.mapFields (·.setIfInBounds 1 (rawInt ((i:Int)+1)))) }) k'.typeIs ?_)))
 show wpAny _ _ (pure x.key) _ _ _
 exact wpAny_pure (wpAny_pure ⟨_,rfl,wpAny_pure (q _ k' (Heap.SameBut.update ..))⟩)
theorem zpJ{Q:Option Value->Shared->Prop}(hh:A.handled=none)(k:s.heap.IsKeyIter it d i es.size ep)(r:znc s.heap d es ep)(hx:es.size<=i)
  (q:∀ h':Heap,Heap.ExtBut it s.heap h'->Q none { s with heap:=h' }):wpAny (model prog w) A (pyNext (.ref it)) Q E s:=by
 have kT:=k.typeIs
 obtain⟨oi,ei,ci,fi⟩:=id k
 obtain⟨o,e,_,dat⟩:=r
 unfold pyNext
 refine wpAny_bind (wpAny_attempt (wpAny_callSpecial?_slot (name:=Str.ofString "__next__") kT F.slot_dict_keyiterator_next
  (wpAny_call_entry F.slot_dict_keyiterator_next kT F.entry_dict_keyiterator_next ?_ (F.args_dict_keyiterator_next_1 _))))
 refine wpAny_bind (wpAny_pure (wpAny_bind (wpAny_bind ?_)))
 refine wpAny_bind (wpAny_typeNameOfWhole_keyiter kT (wpAny_pure (wpAny_bind (wpAny_fieldsOf ei fi ?_))))
 simp only [show Builtin.Dict_items.ownsTuple "dict_keyiterator"=false by decide,Bool.false_eq_true,if_false]
 show wpAny _ _ (if(Value.ref d==Value.none)=true then _ else _) _ _ s
 rw [if_neg (show ¬((Value.ref d==Value.none)=true) from Bool.false_ne_true)]
 refine wpAny_bind (wpAny_pure (wpAny_bind (wpAny_dictEntries e dat ?_)))
 rw [if_neg (by simp)]
 refine wpAny_bind (wpAny_pure (wpAny_bind (wpAny_dictEpoch e dat ?_)))
 rw [if_neg (by simp)]
 refine wpAny_pure ?_
 simp only [show ¬((i:Int) < 0) from by omega,if_false,Int.toNat_natCast,Array.getElem?_eq_none hx]
 refine wpAny_bind (wpAny_bind (wpAny_typeNameOfWhole_keyiter kT (wpAny_pure ?_)))
 show wpAny _ _ (setField (.ref it) 0 .none >>= _) _ _ s
 refine wpAny_bind (wpAny_setField ei fi (by simp) ?_)
 show wpAny _ _ (newExc (.type "StopIteration") [] >>= _) _ _ _
 refine wpAny_bind ?_
 simp only [newExc,newTuple]
 refine wpAny_bind (wpAny_newObj_type ?_ (by show(0:Nat)<=sizeLine; exact Nat.zero_le _))
 refine wpAny_bind (m:=firstArgMember _ _) (wpAny_of_eq (a:=Value.none) (by first | rfl | (simp only [firstArgMember]; rfl)) ?_)
 refine wpAny_newObj_type ?_ (by first | trivial | size_fits)
 simp only [raiseNew]
 refine wpAny_bind (wpAny_handled ?_)
 rw [show A.in1.handled=none from hh]
 refine wpAny_bind (wpAny_pure (wpAny_throw ?_))
 refine wpAny_bind (wpAny_isInstance (T := "StopIteration") (b:=true) ⟨_,Heap.get?_push_size _ rfl,rfl⟩ isSubtype_stop ?_)
 exact wpAny_pure (q _ (((Heap.SameBut.update ..).extBut.push _).push _))
end
theorem zgm{α β:Type}{R:α->β->Prop}:∀ {xs:List α} {ys:List β},Paired R xs ys->∀ (i:Nat) (x:α),xs[i]?=some x->∃ y,ys[i]?=some y/\R x y
 | _,_,.nil,i,x,h=>by simp at h
 | _,_,.cons r _,0,x,h=>by
  cases(show some _=some x from h)
  exact⟨_,rfl,r⟩
 | _,_,.cons _ t,i+1,x,h=>zgm t i x h
theorem zcP{α β:Type}{R:α->β->Prop}:∀ {xs:List α} {ys:List β},Paired R xs ys->xs.length=ys.length
 | _,_,.nil=>rfl
 | _,_,.cons _ t=>by rw [List.length_cons,List.length_cons,zcP t]
theorem zhY{X:Cx}{pins:List (Addr×Obj)}{σ:St}{H:Hp}{s:Shared}{a:Addr}{o:Obj}{kvs:List (List Key×V)}(I:Inv X pins σ H s)(e:H a=some (.frz o (.dT kvs))) :
  (a==sysModules)=false/\∃ (es:Array DictEntry) (ep:Nat),s.heap.get? a=some o/\o.ExactDict/\o.data=.dict es ep/\es.size=kvs.length/\∀ (i:Nat) (k:List Key) (v:V),kvs[i]?=some (k,v)->∃ (b:Addr) (x:DictEntry),es[i]?=some x/\x.key=.ref b/\H b=some (.tup (k.map kV)):=by
 obtain⟨ea,z,y,xs,r,o',es,ep,h1,h2,h3,h4,h5⟩:=(show zaN X.prog X.w H s.heap a (.frz o (.dT kvs)) from I.hok a _ e)
 rw [ea]at h1
 cases h1
 refine⟨y,es,ep,ea,h2,h3,?_,fun i k v hi=>?_⟩
 ·have:=congrArg List.length h4
  rw [Array.length_toList,List.length_map,<-zcP r]at this
  exact this
 ·obtain⟨q,hq,r1,r2,_⟩:=zgm r i (k,v) hi
  refine⟨q.2.1,entryOfKey (tupleKind (za6 X.prog X.w)) q,?_,rfl,r2⟩
  have:es.toList[i]?=some (entryOfKey (tupleKind (za6 X.prog X.w)) q):=by rw [h4,List.getElem?_map,hq]; rfl
  simpa using this
def ItK(a:Addr)(o:Obj)(kvs:List (List Key×V)):It :=
 ⟨fun i H=>H a=some (.frz o (.dT kvs))/\i < kvs.length,fun i H x H'=>H'=H/\∀ k v,kvs[i]?=some (k,v)->∃ b,x=.ref b/\H b=some (.tup (k.map kV)),fun i H=>H a=some (.frz o (.dT kvs))/\kvs.length<=i⟩
theorem zj4{P:Program}{w:World}{K:PySem.W.Frag}{tg:Expr}(a it:Addr)(o:Obj)(kvs:List (List Key×V))(ep:Nat)(hep:∃ es,o.data=.dict es ep):Turn P w K tg (ItK a o kvs) [it] it (fun i h=>h.IsKeyIter it a i kvs.length ep) where
 mem:=by simp
 obj:=fun i h st b hb=>by
  have e:b=it:=by simpa using hb
  subst e
  obtain⟨oi,e,c,d⟩:=st
  exact⟨oi,e,fun v z=>by rw [d]at z; cases z⟩
 keep:=fun i h h' st k=>st.at fun oi e=>k it (by simp) oi e
 item:=by
  intro X hP hw hK hc i pins s σ H E I hf st hg
  subst hP hw hK
  obtain⟨e,hi⟩:=hg
  obtain⟨hsm,es,ep',ea,xd,dat,hsz,ent⟩:=zhY I e
  have eep:ep'=ep:=by
   obtain⟨es',z⟩:=hep
   rw [dat]at z
   injection z
  subst eep
  obtain⟨f0,f1,f2,f3,f4,f5⟩:=hf it (by simp)
  obtain⟨b,x,ex,kx,hb⟩:=ent i kvs[i].1 kvs[i].2 (List.getElem?_eq_getElem hi)
  refine zne (es:=es) (by rw [hsz]; exact st) ⟨o,ea,xd,dat⟩ ex fun h' st' sb=>?_
  have I1:Inv X pins σ H { s with heap:=h' }:=I.turned (t':=s.toks) (fun b o hb e=>(sb.2 b hb).trans e) f0 f1 f3 f4 f5
  obtain⟨oi,e',c',d'⟩:=id st'
  rw [kx]
  refine⟨.ref b,rfl,zmE (s:={ s with heap:=h' }) e' c' d' (by decide) ⟨.ref b,H,I1,rfl,⟨rfl,fun k v hkv=>⟨b,rfl,?_⟩⟩,by rw [hsz]at st'; exact st',fun b hb=>(hf b hb).1⟩⟩
  rw [List.getElem?_eq_getElem hi]at hkv
  rw [Option.some.inj hkv]at hb
  exact hb
 done:=by
  intro X hP hw hK hc i pins s σ H E I hf st hg
  subst hP hw hK
  obtain⟨e,hi⟩:=hg
  obtain⟨hsm,es,ep',ea,xd,dat,hsz,ent⟩:=zhY I e
  have eep:ep'=ep:=by
   obtain⟨es',z⟩:=hep
   rw [dat]at z
   injection z
  subst eep
  obtain⟨f0,f1,f2,f3,f4,f5⟩:=hf it (by simp)
  exact zpJ (es:=es) (I.ok.hd hc) (by rw [hsz]; exact st) ⟨o,ea,xd,dat⟩ (by omega) fun h' eb=>⟨rfl,I.turned (t':=s.toks) (fun b o hb e=>eb b o hb e) f0 f1 f3 f4 f5⟩
 self:=fun _ _ _ _ _ st h=>wpAny_pyIter_keyiter st h
section
variable {X:Cx} {tg:Expr}
theorem Inv.freeze{pins:List (Addr×Obj)}{σ:St}{H:Hp}{s:Shared}{a:Addr}{kvs:List (List Key×V)}(I:Inv X pins σ H s)(e:H a=some (.dT kvs)):∃ o,s.heap.get? a=some o/\Inv X pins σ (upd H a (.frz o (.dT kvs))) s:=by
 have ok:=(show zaN X.prog X.w H s.heap a (.dT kvs) from I.hok a _ e)
 obtain⟨z,y,xs,r,o,es,ep,h1,h2⟩:=id ok
 refine⟨o,h1,?_⟩
 have ok2:zaN X.prog X.w (upd H a (.frz o (.dT kvs))) s.heap a (.dT kvs):=ok.stay (fun _ _ _ q=>q) (fun b q=>by rw [zD (zhg q e (by intro z; cases z))]; exact q) fun b ys q=>by rw [zD (zhg q e (by intro z; cases z))]; exact q
 exact I.write (t':=s.toks) (h':=s.heap) (by rw [e]; trivial) (.inl rfl) (fun _ _ _ q=>q) ⟨o,h1⟩ ⟨h1,ok2⟩
def znf(td:TE):TI:=fun σ H R=>td σ H fun x H1=>∃ a kvs,x=.ref a/\((H1 a=some (.dT kvs)/\∀ o,R (ItK a o kvs) (upd H1 a (.frz o (.dT kvs))))\/∃ o,H1 a=some (.frz o (.dT kvs))/\R (ItK a o kvs) H1)
theorem zd0{d:Expr}{td:TE}(hd:Wr (PE X d td)):Wr (PI X tg d (znf td)):=by
 refine⟨?_⟩
 intro pins s σ H R I h
 refine thn (hd.run pins s σ H _ I h) fun v s1 ⟨x,H1,I1,r1,q1⟩=>?_
 obtain⟨a,kvs,e,q⟩:=q1
 subst e
 cases r1
 have key:∀ (H2:Hp) (o:Obj),Inv X pins σ H2 s1->H2 a=some (.frz o (.dT kvs))->R (ItK a o kvs) H2->wpAny (model X.prog X.w) X.A (pyIter (.ref a)) (PIE X pins σ tg R) X.xe s1:=fun H2 o I2 e2 q2=>by
  obtain⟨hsm,es,ep,ea,xd,dat,hsz,_⟩:=zhY I2 e2
  refine znd (es:=es) hsm ⟨o,ea,xd,dat⟩ fun h' hit kk=>?_
  refine⟨s1.heap.objs.size,[s1.heap.objs.size],_,_,H2,rfl,I2.kept (t':=s1.toks) kk,zj4 a s1.heap.objs.size o kvs ep ⟨es,dat⟩,by rw [<-hsz]; exact hit,fun b hb=>?_,q2⟩
  have e:b=s1.heap.objs.size:=by simpa using hb
  subst e
  exact I2.fpOk (Nat.le_refl _) (I2.hok.fresh (Nat.le_refl _))
 rcases q with ⟨e1,q⟩ | ⟨o,e1,q⟩
 ·obtain⟨o,_,I2⟩:=I1.freeze e1
  exact key _ o I2 zG (q o)
 ·exact key H1 o I1 e1 q
end
end L2
namespace L2
open PySem PySem.Spec PyProof.Rows
open PySem.W (Looks)
def zrP(r:List Value):Obj:={ cls:=.type "tuple",data:=.seq r.toArray }
def zfJ(C p:Addr):Obj:={ cls:=.ref C,data:=.fields #[.ref p,.none,.none,.none,.bool false,.none] }
def zeR(h:Heap)(C:Addr)(r:List Value):Heap:=(h.push (zrP r)).push (zfJ C h.objs.size)
theorem zhw{h:Heap}{C:Addr}{r:List Value}{b:Addr}{o:Obj}(e:h.get? b=some o):(zeR h C r).get? b=some o:=Heap.get?_push_of_some _ (Heap.get?_push_of_some _ e)
theorem zfg{h:Heap}{C:Addr}{r:List Value}:(zeR h C r).get? (h.objs.size+1)=some (zfJ C h.objs.size):=by
 have:=Heap.get?_push_size (h.push (zrP r)) (o:=zfJ C h.objs.size) rfl
 rwa [Heap.size_push]at this
section
variable {prog:Program} {w:World} {A:Around} {E:Value->Shared->Prop} {h:Heap} {g:Array GenState} {d:Drawn} {t:Nat} {os:OsState}
variable {nm q:Str} {C N:Addr} {bs bm bmB:List Value} {hdct:Bool} {sn:List Str} {sub:List Value} {ab:Bool} {col:Option Bool} {dd:Option Addr} {k0 k1 k2 k3 k5:Option Value} {B newId initId:String}
theorem ziZ{zcb:List Value}{f:Value}{Q:Fin->Shared->Prop}(F:ExcBaseFacts B newId initId bmB)(T:OwnTail h bmB bm)
  (hC:h.get? C=some (excClassObj nm q C N bs bm hdct sn sub ab col dd k0 k1 k2 k3 k5 newId))
  (li:Looks (model prog w) h (typeLookup (.ref C) "__init__") (some f)) (lb:∀ v,Looks (model prog w) h (bindSpecial f v) (f,[v])) (hl:zcb.length<=sizeLine)
  (k:wpAny (model prog w) A (call f (.ref (h.objs.size+1)::zcb)) (fun r s'=>r=.none/\Q (.done (.ret (.ref (h.objs.size+1)))) s') E ⟨zeR h C zcb,g,d,t,os⟩) :
  wpAny (model prog w) A (Builtin.«type.__call__» ⟨.ref C::zcb,[]⟩) Q E ⟨h,g,d,t,os⟩:=by
 have up:∀ b o,h.get? b=some o->(zeR h C zcb).get? b=some o:=fun b o e=>zhw e
 have hC1:=up _ _ hC
 have hx:(zeR h C zcb).get? (h.objs.size+1)=some (zfJ C h.objs.size):=zfg
 have li1:=li.keeps up
 have lb1:=(lb (.ref (h.objs.size+1))).keeps up
 have is:(Value.ref C::bm).contains (.ref C)=true:=by simp
 repeat (first | with_reducible refine wpAny_loadPart_at hC ?_ | with_reducible refine wpAny_madeBy_exc hC ?_ | wp_step)
 refine codeAny_call_builtin_code (Code.quiet_builtin _ F.quiet) (wpAny_check_new_subT F T hC (codeAny_exc_new_subT F T hC ?_ hl))
 change wpAny (model prog w) _ _ _ _ ⟨zeR h C zcb,g,d,t,os⟩
 unfold isInstance
 repeat (first | (with_reducible refine wpAny_loadPart_at hx ?_; rw [show(zfJ C h.objs.size).cls=.ref C from rfl]) | (with_reducible refine wpAny_isSubtype_exc hC1 ?_; rw [is]) | wp_step)
 show wpAny _ _ (typeLookup (.ref C) _) _ _ _
 refine li1.at ?_
 refine wpAny_holding (wpAny_bind (lb1.at ?_))
 refine wpAny_bind (wpAny_mono k (fun r s' z=>?_) fun _ _ z=>z)
 obtain⟨rfl,z⟩:=z
 wp_walk
 exact z
end
abbrev xUp:List Value:=[.type "ValueError",.type "Exception",.type "BaseException",.type "object"]
structure XC (K:PySem.W.Frag) (C:Addr):Prop where
 at_:∃ nm q N bs bm sn sub ab col dd k0 k1 k2 k3 k5,K.lookup C=some (excClassObj nm q C N bs bm true sn sub ab col dd k0 k1 k2 k3 k5 "ValueError.__new__")/\PySem.W.tailIn K xUp bm=true
 ga:PySem.W.findIn K (.ref C) "__getattribute__"=some (some (.builtin "BaseException.__getattribute__"))
 gh:PySem.W.findIn K (.ref C) "__getattr__"=some none
 sa:PySem.W.findIn K (.ref C) "__setattr__"=some (some (.builtin "object.__setattr__"))
section
variable {prog:Program} {w:World} {A:Around} {K:PySem.W.Frag} {C x:Addr} {s:Shared} {R:Result->Shared->Prop}
theorem ztd{f:Addr}{zcb:List Value}(X:XC K C)(I:K.In s.heap)(hi:PySem.W.findIn K (.ref C) "__init__"=some (some (.ref f)))(hf:PySem.W.typeIn K (.ref f)=some (.type "function"))(hl:zcb.length<=sizeLine)
  (k:codeAny (model prog w) (A.under (.builtin "type.__call__" ⟨.ref C::zcb,[]⟩)) (.call (.ref f) ⟨.ref (s.heap.objs.size+1)::zcb,[]⟩) (PySem.W.InitBack (s.heap.objs.size+1) R) { s with heap:=zeR s.heap C zcb }) :
  codeAny (model prog w) A (.call (.ref C) ⟨zcb,[]⟩) R s:=by
 obtain⟨hh,g,d,t,os⟩:=s
 obtain⟨nm,q,N,bs,bm,sn,sub,ab,col,dd,k0,k1,k2,k3,k5,e,tl⟩:=X.at_
 have hC:=I _ _ e
 have c1:=tc_lookup
 have c2:=tc_bind (.ref C)
 have hT:(⟨hh,g,d,t,os⟩:Shared).TypeIs (.ref C) "type":=⟨_,hC,rfl⟩
 refine codeAny_of_tree ?_
 change wpAny _ _ (callAny (.ref C) _) _ _ _
 repeat (any_goals (first | assumption | with_reducible refine wpAny_loadPart_at hC ?_ | wp_step))
 refine And.intro rfl (codeAny_call_builtin_at (Code.quiet_builtin _ (by decide +kernel)) entry_typeCall (wpAny_check_type_call_sub hC ?_))
 refine ziZ PySem.F.excBase_ValueError (PySem.W.tail_of_in I tl) hC (PySem.W.looks_findIn I hi) (fun v=>PySem.W.bind_fn I v hf) hl ?_
 refine wpAny_call (codeAny_mono k fun r s' z=>?_)
 rcases r with e | (v | _ | _ | _)<;>first | exact z | exact z.elim
end
end L2
namespace L2
open PySem PySem.Spec PyProof.Rows
open PySem.W (Looks InstAt)
section
variable {prog:Program} {w:World} {A:Around} {E:Value->Shared->Prop} {K:PySem.W.Frag} {C x:Addr} {s:Shared} {R:Result->Shared->Prop}
theorem zi0(self:Value){K:PySem.W.Frag}:∀ {l:List Value},PySem.W.tailIn K xUp l=true->refuseLoop self "__setattr__" l=pure ()
 | [],e=>by cases e
 | v::r,e=>by
  unfold PySem.W.tailIn at e
  rcases Bool.or_eq_true_iff.mp e with q | q
  ·rw [beq_iff_eq.mp q]; exact PySem.F.store_ValueError.passes self
  ·split at q
   ·split at q
    ·simp only [Bool.and_eq_true]at q
     rw [refuseLoop_ref]
     exact zi0 self q.2
    ·cases q
   ·cases q
theorem XC.cls(X:XC K C):∃ cd bm,PySem.W.clsIn K C=some cd/\cd.mro=.ref C::bm/\PySem.W.tailIn K xUp bm=true/\cd.hasDict=true:=by
 obtain⟨nm,q,N,bs,bm,sn,sub,ab,col,dd,k0,k1,k2,k3,k5,e,tl⟩:=X.at_
 refine⟨{ name:=nm,bases:=bs,mro:=.ref C::bm,ns:=N,qualname:=q,hasDict:=true,slotNames:=sn,subclasses:=sub,abstract:=ab,collection:=col,hasDel:=false },bm,?_,rfl,tl,rfl⟩
 unfold PySem.W.clsIn
 rw [e]
theorem XC.up(X:XC K C){M:Model}{h:Heap}(I:K.In h){n:String}(hn:xUp.contains (.type n)=true):Looks M h (isSubtype (.ref C) (.type n)) true:=by
 obtain⟨cd,bm,hc,hm,tl,_⟩:=X.cls
 refine PySem.W.looks_mroIn I ?_
 unfold PySem.W.mroIn
 rw [hc,Option.bind_some,hm,if_neg (by simp),List.contains_cons,(PySem.W.tail_of_in I tl).hasType hn,Bool.or_true]
theorem zxO{name:Str}{v:Value}{tk:Tok}{h:Heap}{g:Array GenState}{d:Drawn}{t:Nat}{os:OsState}(L1:Looks (model prog w) h (typeOf (.ref x)) (.ref C))(L5:Looks (model prog w) h (isInstance (.ref x) (.type "BaseException")) true)
  (L4:Looks (model prog w) h (Builtin.ObjectAttr.find (.ref x) (.ref C) name) (.value v)) (k:R (.ok (.ret v)) ⟨h,g,d,t,os⟩) :
  codeAny (model prog w) A (.call (.builtin "BaseException.__getattribute__") ⟨[.ref x,.str name tk],[]⟩) R ⟨h,g,d,t,os⟩:=by
 have hk:builtinKind "BaseException.__getattribute__"=some .slot:=by decide +kernel
 have hs:splitId "BaseException.__getattribute__"=some ("BaseException", "__getattribute__"):=by decide +kernel
 refine codeAny_call_builtin PySem.F.attr_ValueError.ga.plain PySem.F.entry_bexc_ga (@PySem.W.check_slot (model prog w) _ _ _ "BaseException.__getattribute__" "BaseException" "__getattribute__" (.ref x) [.str name tk] [] _ hk hs L5 (PySem.F.args_bexc_ga _ _) ?_)
 unfold Builtin.«object.__getattribute__»
 repeat (first | with_reducible refine L1.at ?_ | with_reducible refine L4.at ?_ | wp_step)
 exact k
theorem zvU{ox od:Obj}{name:Str}{v:Value}{b:Bool}{Q:Value->Shared->Prop}(X:XC K C)(I:K.In s.heap)(Z:InstAt s.heap x ox C (some od))(n:zcM K C name)(l:PySem.W.lookIn name od=some (some v))(hh:handedOut v=pure v)
  (k:∀ t,Q v { s with toks:=t }):wpAny (model prog w) A (getAttr (.ref x) name b) Q E s:=by
 obtain⟨hh',g,d,t,os⟩:=s
 obtain⟨cd,bm,hc,hm,tl,hd⟩:=X.cls
 have L1:Looks (model prog w) hh' (typeOf (.ref x)) (.ref C):=Z.type
 have L2:=PySem.W.looks_findIn (M:=model prog w) I X.ga
 have L3:=PySem.W.looks_findIn (M:=model prog w) I X.gh
 have F1:PySem.W.findObj K C (some od) name=some (.value v):=by
  unfold PySem.W.findObj PySem.W.ownOf
  rw [hc,Option.bind_some,show PySem.W.findIn K (.ref C) name=some none from n,Option.bind_some,hd]
  simp [l]
 have L4:=PySem.W.looks_find (M:=model prog w) I Z F1
 have L5:Looks (model prog w) hh' (isInstance (.ref x) (.type "BaseException")) true:=L1.andThen (X.up I (by decide))
 have G:=PySem.F.attr_ValueError.ga
 have e0:(onTheHeap (Value.ref C) && Value.builtin "BaseException.__getattribute__"==Value.builtin "object.__getattribute__")=false:=by
  rw [show(Value.builtin "BaseException.__getattribute__"==Value.builtin "object.__getattribute__")=false from by decide +kernel]; rfl
 have e1:(b && onTheHeap (Value.builtin "BaseException.__getattribute__"))=false:=by cases b<;>rfl
 unfold getAttr
 refine wpAny_bind (wpAny_mkText ?_)
 unfold getAttrBy
 refine wpAny_holding (wpAny_bind (L1.at (wpAny_bind (L2.at ?_))))
 dsimp only
 rw [e0,if_neg (by decide)]
 unfold getAttrByItsOwn hookBefore callGetattribute boundAndCalled
 rw [if_pos (show onTheHeap (Value.ref C)=true from rfl),e1,if_neg (by decide),G.bind (.ref x)]
 refine wpAny_bind (L3.at (wpAny_bind (wpAny_attempt (wpAny_holding (wpAny_bind (wpAny_pure (wpAny_call ?_)))))))
 refine zxO L1 L5 L4 ?_
 change wpAny _ _ (handedOut v) _ _ _
 rw [hh]
 exact wpAny_pure (k _)
theorem zxP{ox:Obj}{name:Str}{v:Value}{tk:Tok}{h:Heap}{g:Array GenState}{d:Drawn}{t:Nat}{os:OsState}(X:XC K C)(I:K.In h)(hx:h.get? x=some ox)(hc:ox.cls=.ref C)(hd:ox.dict=none)(hn:∀ c,ox.data≠.cls c)
  (n:zcM K C name) (k:∀ h' t,h'.get? x=some { ox with dict:=some h.objs.size }->h'.Ns1 h.objs.size (fun y=>if y=name then some v else none) ->
   (∀ b o,b≠x->h.get? b=some o->h'.get? b=some o)->R (.ok (.ret .none)) ⟨h',g,d,t,os⟩) :
  codeAny (model prog w) A (.call (.builtin "object.__setattr__") ⟨[.ref x,.str name tk,v],[]⟩) R ⟨h,g,d,t,os⟩:=by
 obtain⟨cd,bm,hc',hm,tl,hd'⟩:=X.cls
 have Z:InstAt h x ox C none:=⟨hx,hc,by obtain⟨_,_,dt,_⟩:=ox; cases dt<;>first | rfl | exact absurd rfl (hn _),by rw [hd]; trivial⟩
 have L1:Looks (model prog w) h (typeOf (.ref x)) (.ref C):=Z.type
 have LC:=PySem.W.looks_clsIn (M:=model prog w) I hc'
 have LM:Looks (model prog w) h (mroOf (.ref C)) cd.mro:=LC.andThen .now
 have LN:=PySem.W.looks_findIn (M:=model prog w) I n
 have LO:Looks (model prog w) h (isInstance (.ref x) (.type "object")) true:=L1.andThen (X.up I (by decide))
 have SF:=PySem.F.store_ValueError
 have rf:refuseLoop (.ref x) "__setattr__" cd.mro=pure ():=by rw [hm,refuseLoop_ref]; exact zi0 _ tl
 refine codeAny_call_builtin SF.slot.plain SF.entry (@PySem.W.check_slot (model prog w) _ _ _ "object.__setattr__" "object" "__setattr__" (.ref x) [.str name tk,v] [] _ SF.kind SF.split LO (SF.args (.ref x) (.str name tk) v) ?_)
 rw [PySem.W.osa_eq,refuse_eq]
 refine wpAny_bind (wpAny_bind (L1.at (wpAny_bind (LM.at ?_))))
 rw [rf]
 refine wpAny_pure (wpAny_bind (L1.at (wpAny_bind (LN.at (wpAny_bind (wpAny_pure ?_))))))
 change wpAny _ _ (Builtin.ObjectAttr.storeInOwnDict (.ref x) (.ref C) (.str name tk) name v false) _ _ _
 refine wpAny_bind (wpAny_pure (wpAny_bind ?_))
 change wpAny _ _ (instanceDict x true) _ _ _
 obtain⟨oc,od,dt,sl⟩:=ox
 dsimp only at hc hd hn
 subst hc hd
 unfold instanceDict
 refine wpAny_bind (wpAny_loadPart hx ?_)
 dsimp only
 refine wpAny_bind (LC.at ?_)
 rw [hd']
 rw [if_neg (by decide),if_neg (by simp [typeHasDict])]
 split
 ·exact absurd rfl (hn _)
 have nx:x≠h.objs.size:=Nat.ne_of_lt (Heap.lt_size hx)
 have x1:(h.push PySem.W.emptyDict).get? x=some ⟨.ref C,none,dt,sl⟩:=Heap.get?_push_of_some _ hx
 refine wpAny_bind (wpAny_alloc' (wpAny_bind (wpAny_update' x1 (wpAny_pure ?_))))
 change wpAny _ _ (Builtin.ObjectAttr.storeInDict h.objs.size (.str name tk) name v) _ _ _
 have d2:((h.push PySem.W.emptyDict).update x fun o=>{ o with dict:=some h.objs.size }).get? h.objs.size=some PySem.W.emptyDict:=(Heap.get?_update_ne _ _ _ _ nx.symm).trans (Heap.get?_push_at rfl rfl)
 have n2:((h.push PySem.W.emptyDict).update x fun o=>{ o with dict:=some h.objs.size }).Ns h.objs.size (fun _=>none):=⟨_,#[],_,d2,rfl,fun e he=>absurd he (by simp),fun _=>rfl⟩
 have x2:((h.push PySem.W.emptyDict).update x fun o=>{ o with dict:=some h.objs.size }).get? x=some ⟨.ref C,some h.objs.size,dt,sl⟩:=by
  refine Heap.get?_update_self _ x1 ?_
  have fr:=(Heap.get?_some_iff.mp hx).2
  cases dt<;>first | rfl | exact fr
 unfold Builtin.ObjectAttr.storeInDict Builtin.ObjectAttr.newKeyGuard
 refine wpAny_bind (wpAny_pure (wpAny_bind (wpAny_nsSet1 (Heap.Ns1.of_empty n2) fun h' n' sm=>?_)))
 obtain⟨oD,esD,epD,hoD,hdD,hcD⟩:=n'.count (Within.cons name v Within.nil)
 refine wpAny_bind (wpAny_lookBehind hoD (by rw [hdD]; exact pastItsLine_dict (Nat.le_trans hcD (by rw [List.length_cons,List.length_nil,sizeLine_eq]; omega))) ?_)
 refine wpAny_pure (k h' _ ((sm.2 x nx).trans x2) n' fun b o nb e=>?_)
 exact(sm.2 b (Nat.ne_of_lt (Heap.lt_size e))).trans ((Heap.get?_update_ne _ _ _ _ nb).trans (Heap.get?_push_of_some _ e))
theorem zvV{ox:Obj}{name:Str}{v:Value}{Q:Unit->Shared->Prop}(X:XC K C)(I:K.In s.heap)(hx:s.heap.get? x=some ox)(hc:ox.cls=.ref C)(hd:ox.dict=none)(hn:∀ c,ox.data≠.cls c)(n:zcM K C name)
  (k:∀ h' t,h'.get? x=some { ox with dict:=some s.heap.objs.size }->h'.Ns1 s.heap.objs.size (fun y=>if y=name then some v else none) ->
   (∀ b o,b≠x->s.heap.get? b=some o->h'.get? b=some o)->Q () { s with heap:=h',toks:=t }) :
  wpAny (model prog w) A (setAttr (.ref x) name v) Q E s:=by
 obtain⟨h,g,d,t,os⟩:=s
 have L1:Looks (model prog w) h (typeOf (.ref x)) (.ref C):=(Looks.ld (part:=some headPart) hx).andThen (Looks.of_pure (by rw [hc]))
 have LS:=PySem.W.looks_findIn (M:=model prog w) I X.sa
 unfold setAttr callSpecial? specialOf
 refine wpAny_bind (wpAny_mkText (wpAny_bind (wpAny_bind (wpAny_bind (L1.at (LS.at ?_))))))
 dsimp only
 refine wpAny_holding ?_
 rw [PySem.F.store_ValueError.slot.bind]
 refine wpAny_bind (wpAny_pure (wpAny_bind (wpAny_call ?_)))
 refine zxP X I hx hc hd hn n fun h' t' a b c=>?_
 exact wpAny_pure (wpAny_pure (k h' t' a b c))
end
end L2
namespace L2
open PySem PySem.Spec PyProof.Rows
open PySem.W (Looks InstAt)
structure XI (K:PySem.W.Frag) (C:Addr):Prop where
 cl:XC K C
 ca:PySem.W.findIn K (.ref C) "__class__"=some (some (.builtin "object.__class__"))
 cg:PySem.W.specialIn K (.builtin "object.__class__") "__get__"=some (some (.builtin "getset_descriptor.__get__"))
 ct:PySem.W.takesIn K (.builtin "object.__class__")=some true
 cm:PySem.W.mroIn K C (.type "object")=some true
section
variable {prog:Program} {w:World} {A:Around} {E:Value->Shared->Prop} {K:PySem.W.Frag} {C x:Addr} {s:Shared} {R:Result->Shared->Prop}
theorem zte{ox:Obj}{od:Option Obj}{tk:Tok}{h:Heap}{g:Array GenState}{d:Drawn}{t:Nat}{os:OsState}(Y:XI K C)(I:K.In h)(Z:InstAt h x ox C od)(k:R (.ok (.ret (.ref C))) ⟨h,g,d,t,os⟩) :
  codeAny (model prog w) A (.call (.builtin "BaseException.__getattribute__") ⟨[.ref x,.str "__class__" tk],[]⟩) R ⟨h,g,d,t,os⟩:=by
 have L1:Looks (model prog w) h (typeOf (.ref x)) (.ref C):=Z.type
 have L5:Looks (model prog w) h (isInstance (.ref x) (.type "BaseException")) true:=L1.andThen (Y.cl.up I (by decide))
 obtain⟨cd,bm,hc,hm,tl,hd⟩:=Y.cl.cls
 have F1:PySem.W.findObj K C od "__class__"=some (.bind (.builtin "getset_descriptor.__get__") (.builtin "object.__class__")):=by
  unfold PySem.W.findObj
  rw [hc,Option.bind_some,Y.ca,Option.bind_some]
  simp [Y.cg,Y.ct]
 have L4:=PySem.W.looks_find (M:=model prog w) I Z F1
 have hk:builtinKind "BaseException.__getattribute__"=some .slot:=by decide +kernel
 have hs:splitId "BaseException.__getattribute__"=some ("BaseException", "__getattribute__"):=by decide +kernel
 refine codeAny_call_builtin PySem.F.attr_ValueError.ga.plain PySem.F.entry_bexc_ga (@PySem.W.check_slot (model prog w) _ _ _ "BaseException.__getattribute__" "BaseException" "__getattribute__" (.ref x) [.str "__class__" tk] [] _ hk hs L5 (PySem.F.args_bexc_ga _ _) ?_)
 unfold Builtin.«object.__getattribute__»
 repeat (first | with_reducible refine L1.at ?_ | with_reducible refine L4.at ?_ | with_reducible refine wpAny_call ?_ | wp_step)
 exact PySem.W.class_get I Z Y.cm (wpAny_pure k)
theorem zpK{ox:Obj}{od:Option Obj}{Q:Option Value->Shared->Prop}(Y:XI K C)(I:K.In s.heap)(Z:InstAt s.heap x ox C od)(k:Q (some (.ref C)) { s with toks:=s.toks+1 }):wpAny (model prog w) A (getAttr? (.ref x) "__class__") Q E s:=by
 obtain⟨h,g,d,t,os⟩:=s
 have L1:Looks (model prog w) h (typeOf (.ref x)) (.ref C):=Z.type
 have L2:=PySem.W.looks_findIn (M:=model prog w) I Y.cl.ga
 have L3:=PySem.W.looks_findIn (M:=model prog w) I Y.cl.gh
 have e0:(onTheHeap (Value.ref C) && Value.builtin "BaseException.__getattribute__"==Value.builtin "object.__getattribute__")=false:=by
  rw [show(Value.builtin "BaseException.__getattribute__"==Value.builtin "object.__getattribute__")=false from by decide +kernel]; rfl
 unfold getAttr? getAttrBy? getAttrBy
 refine wpAny_bind (wpAny_mkText (wpAny_bind (wpAny_attempt (wpAny_holding (wpAny_bind (L1.at (wpAny_bind (L2.at ?_))))))))
 dsimp only
 rw [e0,if_neg (by decide)]
 unfold getAttrByItsOwn hookBefore callGetattribute boundAndCalled
 rw [if_pos (show onTheHeap (Value.ref C)=true from rfl),if_neg (by decide),PySem.F.attr_ValueError.ga.bind (.ref x)]
 refine wpAny_bind (L3.at (wpAny_bind (wpAny_attempt (wpAny_holding (wpAny_bind (wpAny_pure (wpAny_call ?_)))))))
 refine zte Y I Z ?_
 change wpAny _ _ (handedOut (.ref C)) _ _ _
 exact wpAny_pure (wpAny_pure k)
theorem XI.at_(Y:XI K C):∃ c d cd sl,K.lookup C=some ⟨c,d,.cls cd,sl⟩:=by
 obtain⟨nm,q,N,bs,bm,sn,sub,ab,col,dd,k0,k1,k2,k3,k5,e,tl⟩:=Y.cl.at_
 exact⟨_,_,_,_,e⟩
theorem zi1{ox:Obj}{od:Option Obj}(Y:XI K C):PySem.W.KitX K (.ref x) (.ref C) (fun h=>InstAt h x ox C od) where
 ty:=fun _ _ _ Z=>Z.type
 it:=fun M h I _=>by
  obtain⟨c,d,cd,sl,e⟩:=Y.at_
  intro A' Q' E' s' k q
  unfold isType loadHead
  exact wpAny_bind (wpAny_loadPart (k _ _ (I _ _ e)) (wpAny_pure q))
 ne:=fun h tp dd its n sl I htp=>by
  obtain⟨c,d,cd,sl',e⟩:=Y.at_
  refine Bool.eq_false_iff.mpr fun q=>?_
  have z:C=tp:=Value.ref.inj (beq_iff_eq.mp q)
  subst z
  cases(I _ _ e).symm.trans htp
 ca:=fun I Z k=>zpK Y I Z k
end
end L2
namespace L2
open PySem PySem.Spec PyProof.Rows
open PySem.W (Looks InstAt)
def zj5(a C p:Addr):HO:=.ext fun h=>h.get? a=some (zfJ C p)
def XV(H:Hp)(a C:Addr)(fs:List (Str×V)):Prop:=∃ ox,H a=some (.frz ox (.own 0))/\ox.cls=.ref C/\PySem.W.notCls ox=true /\
 ((fs=[]/\ox.dict=none)\/∃ od dx,ox.dict=some dx/\H dx=some (.frz od (.xd fs)))
section
variable {X:Cx} {pins:List (Addr×Obj)} {σ:St} {H:Hp} {s:Shared} {a C:Addr} {fs:List (Str×V)} {o e value:Expr} {f:Str} {pos pos':Pos} {ta tv:TE} {v:V}
def zvW(K:PySem.W.Frag)(ta:TE)(f:Str):TE:=fun σ H Q=>ta σ H fun x H1=>∃ a C fs v,x=.ref a/\XV H1 a C fs/\XC K C/\zcM K C f/\fs.lookup f=some v/\Q v H1
theorem zpL(he:PE X e ta)(hb:attributeBase e f X.env (eval e X.env)=eval e X.env):PE X (.Attribute e f pos) (zvW X.K ta f):=by
 intro pins s σ H Q I h
 refine zpn hb (thn (he pins s σ H _ I h) fun u s1 ⟨x,H1,I1,rx,a,C,fs,v,ex,xv,c,n,l,q⟩=>?_)
 subst ex
 obtain rfl:u=Value.ref a:=rx
 obtain⟨ox,ea,ec,en,z⟩:=xv
 rcases z with ⟨rfl,_⟩ | ⟨od,dx,ed,edx⟩
 ·cases l
 obtain⟨ha,_⟩:=I1.hok a _ ea
 obtain⟨hdx,mA,ns,rel⟩:=I1.hok dx _ edx
 obtain⟨od',ho',hl⟩:=zfe ns
 obtain rfl:od=od':=Option.some.inj (hdx.symm.trans ho')
 obtain⟨u,hu,ru⟩:=zew.some_of (v:=v) (o:=mA f) (by rw [<-l]; exact rel f)
 have Z:InstAt s1.heap a ox C (some od):=⟨ha,ec,en,by rw [ed]; exact hdx⟩
 exact zvU c I1.kIn Z n (by rw [hl,hu]) (PySem.W.handedOut_of (zlS ru)) fun t=>⟨v,H1,I1.tok _,ru,q⟩
def zrQ(K:PySem.W.Frag)(ta tv:TE)(f:Str):TS:=fun D σ H=>tv σ H fun y H1=>ta σ H1 fun x H2=>∃ a C p,x=.ref a/\H2 a=some (zj5 a C p)/\XC K C/\zcM K C f /\
 ∀ dx ox od,H2 dx=none->dx≠a->ox.cls=.ref C->ox.dict=some dx->PySem.W.notCls ox=true->ox={ zfJ C p with dict:=some dx }->D.nx σ (upd (upd H2 dx (.frz od (.xd [(f,y)]))) a (.frz ox (.own 0)))
theorem zpM(ha:PE X o ta)(hv:PE X value tv)(hs:swapsWith value (some (.Attribute o f pos')) pos.line X.env=pure false):PS X (.Assign [.Attribute o f pos'] value pos) (zrQ X.K ta tv f):=by
 intro pins s σ H D I h
 refine plainObj_wpAny_Assign_Attribute (thn (hv pins s σ H _ I h) fun u s1 ⟨y,H1,I1,ry,q⟩=>thn (ha pins s1 σ H1 _ I1 q) fun ov s2 ⟨x,H2,I2,rx,a,C,p,ex,ea,c,n,q2⟩=>?_) hs
 subst ex
 obtain rfl:ov=Value.ref a:=rx
 obtain⟨hx,_,_⟩:=I2.hok a _ ea
 have lt:a < s2.heap.objs.size:=Heap.lt_size hx
 refine zvV (ox:=zfJ C p) c I2.kIn hx rfl rfl (fun _ z=>nomatch z) n fun h' t hx' hn' keep=>?_
 obtain⟨od,hod,_⟩:=zfe hn'
 have fr:od.isFreed=false:=(Heap.get?_some_iff.mp hod).2
 have hm:(s2.heap.push od).get? s2.heap.objs.size=some od:=Heap.get?_push_size s2.heap fr
 have nd:s2.heap.objs.size≠a:=Nat.ne_of_gt lt
 have I3:=I2.laid (a:=s2.heap.objs.size) (o:=.frz od (.xd [(f,y)])) (h':=s2.heap.push od) (t':=s2.toks) (fun b w e=>Heap.get?_push_of_some _ e) (Nat.le_refl _)
  ⟨hm,fun z=>if z=f then some u else none,?_,fun g=>?_⟩
 ·have I4:=I3.write (x:=a) (e:=a) (o:=.frz { zfJ C p with dict:=some s2.heap.objs.size } (.own 0)) (h':=h') (t':=t) (by rw [zD nd.symm,ea]; trivial) (.inl rfl) (fun b w nb e=>?_) ⟨_,hx'⟩ ⟨hx',_,hx'⟩
  ·exact⟨σ,_,I4,q2 _ _ od (I2.hok.fresh (Nat.le_refl _)) nd rfl rfl rfl rfl⟩
  ·by_cases eb:b=s2.heap.objs.size
   ·subst eb
    rw [hm]at e
    cases e
    exact hod
   ·refine keep b w nb ?_
    rcases Heap.get?_push_cases e with ⟨z,_⟩ | z
    ·exact absurd z eb
    ·exact z
 ·obtain⟨o1,es,ep,e1,r⟩:=hn'
  obtain rfl:od=o1:=Option.some.inj (hod.symm.trans e1)
  exact⟨od,es,ep,hm,r⟩
 ·show zew ([(f,y)].lookup g) (if g=f then some u else none)
  rw [List.lookup_cons]
  by_cases q:g=f
  ·subst q; simp only [beq_self_eq_true,if_true]; exact ry
  ·rw [if_neg q,show(g==f)=false from beq_eq_false_iff_ne.mpr q]; trivial
end
section
variable {X:Cx} {CX:CXT} {k:Nat} {f C:Addr} {fd:FuncData} {ps:List Str} {sp:Sp} {E:XK} {x:Str} {p pos:Pos} {e:Expr} {es:List Expr} {t:TA}
def zj6(C:Addr)(sp:Sp)(E:XK)(t:TA):TE:=fun σ H Q=>t σ H fun vs H1=>vs.length<=1000/\∀ a p,H1 a=none->sp (.ref a::vs) (upd H1 a (zj5 a C p)) (fun v H2=>v=.non/\Q (.ref a) H2) E
theorem Inv.xmade{pins:List (Addr×Obj)}{σ:St}{H:Hp}{s:Shared}{r:List Value}(I:Inv X pins σ H s):Inv X pins σ (upd H (s.heap.objs.size+1) (zj5 (s.heap.objs.size+1) C s.heap.objs.size)) { s with heap:=zeR s.heap C r } :=
 I.laid (a:=s.heap.objs.size+1) (t':=s.toks) (fun b u q=>zhw q) (Nat.le_succ _) ⟨zfg,⟨_,zfg⟩,fun h1 h2 z k=>k _ z⟩
theorem zl8{pins:List (Addr×Obj)}{σ:St}{H:Hp}{s:Shared}{Q:VK}{us:List Value}{vs:List V}(Y:XC X.K C)(hi:PySem.W.findIn X.K (.ref C) "__init__"=some (some (.ref f)))(fn:PySem.W.isFn X.K (.ref f)=true)
  (F:FnOk X.prog X.w X.K X.mg X.base CX k f fd ps sp) (hr:Room (k+1) X.A) (hb:zdQ X.K fd ps []) (hx:zgc CX X E) (I:Inv X pins σ H s) (r:zac vs us) (hl:vs.length<=1000)
  (h:∀ a p,H a=none->sp (.ref a::vs) (upd H a (zj5 a C p)) (fun v H2=>v=.non/\Q (.ref a) H2) E):wpAny (model X.prog X.w) X.A (call (.ref C) us) (EP X pins σ Q) X.xe s:=by
 have hq:=h (s.heap.objs.size+1) s.heap.objs.size (I.hok.fresh (Nat.le_succ _))
 have I2:=Inv.xmade (C:=C) (r:=us) I
 have r2:zac (V.ref (s.heap.objs.size+1)::vs) (Value.ref (s.heap.objs.size+1)::us):=.cons rfl r
 have ln:(Value.ref (s.heap.objs.size+1)::us++[]).length=ps.length:=by
  have z:=r2.length
  rw [F.len _ _ _ _ hq]at z
  rw [List.append_nil]
  exact z.symm
 have hb2:=hb { s with heap:=zeR s.heap C us } (Value.ref (s.heap.objs.size+1)::us) I2.kIn ln
 rw [List.append_nil]at hb2
 refine wpAny_call (ztd Y I.kIn hi (beq_iff_eq.mp fn) (by rw [<-r.length,sizeLine_eq]; omega) (codeAny_mono (F.run _ X.stack _ _ ⟨Value.ref (s.heap.objs.size+1)::us,[]⟩ (Value.ref (s.heap.objs.size+1)::us) _ _ E (hr.make C us [])
  (I2.env0.make C us []) hb2 r2 hq) fun r s' hq'=>?_))
 cases r with
 | error e=>exact hx pins σ _ _ e s' I2 hq'
 | ok fl =>
  cases fl with
  | ret u =>
   obtain⟨v,H',I3,rv,ev,q3⟩:=I2.after hq'
   subst ev
   exact⟨rv,⟨V.ref (s.heap.objs.size+1),H',I3,rfl,q3⟩⟩
  | next=>exact False.elim hq'
  | brk=>exact False.elim hq'
  | cont=>exact False.elim hq'
theorem zng(Y:XC X.K C)(hi:PySem.W.findIn X.K (.ref C) "__init__"=some (some (.ref f)))(fn:PySem.W.isFn X.K (.ref f)=true)(kp:PySem.W.keepIn X.K (.ref C)=true)(F:FnOk X.prog X.w X.K X.mg X.base CX k f fd ps sp)(hr:Room (k+1) X.A)
  (hg:Gl X x) (hm:X.mg x=some (.ref C)) (hb:zdQ X.K fd ps []) (hx:zgc CX X E) (ha:PA X (e::es) t) (hdb:(x==("__debug__":Str))=false:=by decide)
  (he:starEach (e::es) X.env=(false,eval e X.env)::starEach es X.env:=by rfl) (hpl:(backTo pos (starEach es X.env)).any (·.1)=false:=by rfl):PE X (.Call (.Name x p) (e::es) [] pos) (zj6 C sp E t):=by
 intro pins s σ H Q I h
 refine wpAny_Call_Name_kw (zeL I hg hm ?_ hdb)
 refine PySem.W.callWith_K (h₀:=X.base) I.ok.mod.kin kp (thn (ha pos pins s σ H _ I h) fun us s1 ⟨vs,H1,I1,r,hl,q⟩=>⟨I1.kIn,?_⟩) he hpl
 exact zl8 Y hi fn F hr hb hx I1 r hl q
end
end L2
namespace L2
open PySem PySem.Spec PyProof.Rows
open PySem.W (Looks InstAt)
section
variable {prog:Program} {w:World} {A:Around} {K:PySem.W.Frag} {C x:Addr} {s:Shared} {R:Result->Shared->Prop}
end
section
variable {X:Cx} {C:Addr} {x:Str} {p pos:Pos}
theorem ztf{pins:List (Addr×Obj)}{σ:St}{H:Hp}{s:Shared}{A:Around}{E:Value->Shared->Prop}{Q:Value->Shared->Prop}{a:Addr}{fs:List (Str×V)}{c:Value}{b:Bool}(I:Inv X pins σ H s)(xv:XV H a C fs)(Y:XI X.K C)
  (e:PySem.W.kitOne X.K (.ref C) c=some b) (h:∀ tk,Q (.bool b) { s with toks:=tk }):wpAny (model X.prog X.w) A (call (.builtin "isinstance") [.ref a,c]) Q E s:=by
 obtain⟨ox,ea,ec,en,z⟩:=xv
 obtain⟨ha,_⟩:=I.hok a _ ea
 have Z:∃ od,InstAt s.heap a ox C od:=by
  rcases z with ⟨_,ed⟩ | ⟨od,dx,ed,edx⟩
  ·exact⟨none,ha,ec,en,by rw [ed]; trivial⟩
  ·obtain⟨hdx,_⟩:=I.hok dx _ edx
   exact⟨some od,ha,ec,en,by rw [ed]; exact hdx⟩
 obtain⟨od,Z⟩:=Z
 exact PySem.W.kia_one (zi1 Y) I.kIn Z e (fun z=>nomatch z) h
end
end L2
namespace L2
open PySem PySem.Spec PyProof.Rows
open PySem.W (Looks InstAt)
def zvX(a C:Addr)(d tb:Option Addr)(h:Heap):Prop:=∃ oe vs,h.get? a=some oe/\oe.cls=.ref C/\oe.dict=d/\oe.data=.fields vs/\vs[1]?=some (tb.elim .none .ref)/\(tb=none->∃ p,oe={ zfJ C p with dict:=d })
def pTb(T:Addr)(h:Heap):Prop:=∃ oT ts,h.get? T=some oT/\oT.data=.fields ts/\ts[3]?=some .none
def zhZ(a C:Addr)(d tb:Option Addr):HO:=.ext (zvX a C d tb)
def xTb(T:Addr):HO:=.ext (pTb T)
def zh0(H:Hp)(a C:Addr)(fs:List (Str×V)):Prop:=∃ d tb,H a=some (zhZ a C d tb)/\(∀ T,tb=some T->H T=some (xTb T)/\T≠a) /\
 ((fs=[]/\d=none)\/∃ od dx,d=some dx/\H dx=some (.frz od (.xd fs)))
theorem zk1{P:Program}{w:World}{H:Hp}{h:Heap}{a C:Addr}{d tb:Option Addr}(x:zvX a C d tb h):zaN P w H h a (zhZ a C d tb):=by
 obtain⟨oe,vs,h1,h2⟩:=x
 exact⟨⟨oe,vs,h1,h2⟩,⟨oe,h1⟩,fun h1 h2 ⟨oe,vs,z1,z2⟩ k=>⟨oe,vs,k _ z1,z2⟩⟩
theorem zj7{P:Program}{w:World}{H:Hp}{h:Heap}{a:Addr}(x:pTb a h):zaN P w H h a (xTb a):=by
 obtain⟨oe,vs,h1,h2⟩:=x
 exact⟨⟨oe,vs,h1,h2⟩,⟨oe,h1⟩,fun h1 h2 ⟨oe,vs,z1,z2⟩ k=>⟨oe,vs,k _ z1,z2⟩⟩
section
variable {X:Cx} {pins:List (Addr×Obj)} {σ:St} {H:Hp} {s:Shared} {h':Heap}
theorem Inv.slots(I:Inv X pins σ H s)(z:Heap.SlotsOnly (frs X.stack) s.heap h'):Inv X pins σ H { s with heap:=h' }:=by
 obtain⟨z1,z2,z3⟩:=z
 have sub:=I.stkSub
 have sfree:=I.stkFree
 have trk:∀ b u,H b=some u->h'.get? b=s.heap.get? b:=fun b u e=>z2 b fun hb=>by rw [sfree b hb]at e; cases e
 have old:∀ b o,X.s₀.heap.get? b=some o->b∉X.fs->b∉frs X.stack:=fun b o e hn hb=>by
  rcases List.mem_cons.mp (sub b hb)with q | q
  ·have h1:=Heap.lt_size e
   have h2:=I.ok.above
   rw [q]at h1
   exact absurd (Nat.lt_of_lt_of_le h1 h2) (Nat.lt_irrefl _)
  ·exact hn q
 refine⟨I.ok,I.os,I.bare,⟨fun b o e n hc hx=>?_,fun b o e n hc hx=>?_,I.base.free,fun b o e hx=>?_,I.base.tups,I.base.frzs,I.base.tbls⟩,?_,fun x c e=>?_,I.free,I.freeC,fun p hp=>?_,fun b u e=>?_,I.len⟩
 ·exact(z2 b (old b o e hc)).trans (I.base.keep b o e n hc hx)
 ·obtain⟨sl,q⟩:=I.base.slot b o e n hc hx
  obtain⟨sl',q'⟩:=z3 b _ q
  exact⟨sl',q'⟩
 ·obtain⟨o',q⟩:=I.base.there b o e hx
  obtain⟨sl',q'⟩:=z3 b _ q
  exact⟨_,q'⟩
 ·obtain⟨m,⟨o,es,ep,ho,hd,r⟩,hl⟩:=I.loc
  obtain⟨sl,hs⟩:=z3 _ _ ho
  refine⟨m,⟨_,es,ep,hs,hd,r⟩,fun i x v e1 e2 e3=>?_⟩
  obtain⟨u,ru,lk⟩:=hl i x v e1 e2 e3
  refine⟨u,ru,?_⟩
  rcases lk with lk | ⟨k,c,ec,oc,hoc,hdc⟩
  ·exact .inl lk
  ·obtain⟨sl,hs⟩:=z3 _ _ hoc
   exact .inr ⟨k,c,ec,_,hs,hdc⟩
 ·obtain⟨v,oc,hoc,hdc⟩:=I.cell x c e
  obtain⟨sl,hs⟩:=z3 _ _ hoc
  exact⟨v,_,hs,hdc⟩
 ·obtain⟨h1,h2,h3,h4,h5⟩:=I.pin p hp
  refine⟨(z2 _ fun hb=>?_).trans h1,h2,h3,h4,h5⟩
  rcases List.mem_cons.mp (sub _ hb)with q | q
  ·exact h3 q
  ·exact h4 q
 ·refine(I.hok b u e).stay (fun c v hc r=>?_) (fun _ r=>r) fun _ _ r=>r
  rcases hc with rfl | hc
  ·exact(trk _ _ e).trans r
  ·exact(trk _ _ hc).trans r
theorem zhx{M:Model}{A:Around}{E E':Value->Shared->Prop}{Q:Unit->Shared->Prop}{outer:List Env}{a C:Addr}{fs:List (Str×V)}(I:Inv X pins σ H s)(hA:A.frames=some X.stack)(hst:X.stack=X.env::outer)(hf:X.env.frame=some X.env.locals)(fl:zh0 H a C fs)
  (k:∀ h' H',Inv X pins σ H' { s with heap:=h' }->zh0 H' a C fs->(∀ b o,b≠a->H b=some o->H' b=some o)->(∀ b,H' b=none->H b=none)->Q () { s with heap:=h' }) :
  wpAny M A (noteFrame (.ref a) X.env) (fun _ s1=>wpAny M A (setFlight (.ref a) none) Q E' s1) E s:=by
 obtain⟨d,tb,ea,et,ed⟩:=fl
 obtain⟨⟨oe,vs,he,hc,hd',hv,h1,_⟩,_⟩:=I.hok a _ ea
 have hsz:1 < vs.size:=(Array.getElem?_eq_some_iff.mp h1).1
 have nf:∀ {b u} {H2:Hp} {s2:Shared},Inv X pins σ H2 s2->H2 b=some u->b∉frs X.stack:=fun I2 e hb=>by rw [I2.stkFree _ hb]at e; cases e
 have main:∀ (s2:Shared) (head:Value) (hn:Bool),s2={ s with heap:=s2.heap }->Inv X pins σ H s2->s2.heap.get? a=some oe ->
   wpAny M A (do let b <-frameOf X.env; let pl <-entryPlaceOf X.env.locals hn; let c <-EntryCells.newEntry head b .none (rawInt X.env.locals) .none pl; setField (.ref a) 1 c) (fun _ s1=>wpAny M A (setFlight (.ref a) none) Q E' s1) E s2:=by
  intro s2 head hn es2 I2 he2
  refine wpAny_bind (wpAny_frameOf_fun (base:=X.base) (by rw [hA,hst]) (by rw [<-hst]; exact I2.stack) hf fun h₁ hs₁=>?_)
  rw [show((X.env::outer).filterMap (·.frame))=frs X.stack by rw [hst]; rfl]at hs₁
  have I3:=I2.slots hs₁
  have he3:h₁.get? a=some oe:=(hs₁.2.1 a (nf I2 ea)).trans he2
  refine wpAny_bind (wpAny_entryPlaceOf fun pl hpl=>?_)
  unfold EntryCells.newEntry newFields
  refine wpAny_bind (wpAny_newObj_type ?_ (hpl.sizeOk5 _ _ _ _ _))
  generalize hoT:(({ cls:=.type "traceback",dict:=none,data:=.fields ([head,.ref X.env.locals,.none,rawInt X.env.locals,.none]++(if pl.isEmpty then List.replicate 6 Value.none else pl)).toArray }):Obj)=oT
  have hTd:oT.data=.fields ([head,.ref X.env.locals,.none,rawInt X.env.locals,.none]++(if pl.isEmpty then List.replicate 6 Value.none else pl)).toArray:=by rw [<-hoT]
  have hTf:oT.isFreed=false:=Obj.isFreed_of_fields hTd
  have he4:=Heap.get?_push_of_some (h:=h₁) oT he3
  refine wpAny_setField he4 hv hsz ?_
  have hTe:h₁.objs.size≠a:=Nat.ne_of_gt (Heap.lt_size he3)
  have hd5:=Obj.data_mapFields hv (·.setIfInBounds 1 (Value.ref h₁.objs.size))
  have he5:=Heap.get?_update_self (Obj.mapFields (·.setIfInBounds 1 (Value.ref h₁.objs.size))) he4 (Obj.isFreed_of_fields hd5)
  have hT4:(h₁.push oT).get? h₁.objs.size=some oT:=Heap.get?_push_size h₁ hTf
  have hT5:=(Heap.get?_update_other (h₁.push oT) (Obj.mapFields (·.setIfInBounds 1 (Value.ref h₁.objs.size))) (Ne.symm hTe)).trans hT4
  unfold setFlight
  refine wpAny_bind (wpAny_field he5 hd5 (x:=.ref h₁.objs.size) (by simp [hsz]) ?_)
  rw [if_pos (show(Value.ref h₁.objs.size != Value.none)=true from by simp)]
  refine wpAny_setField hT5 hTd (by simp only [List.size_toArray,List.length_append,List.length_cons,List.length_nil]<;>omega) ?_
  have hd6:=Obj.data_mapFields hTd (·.setIfInBounds 3 ((none:Option Addr).elim Value.none fun f=>rawInt f))
  have hT6:=Heap.get?_update_self (Obj.mapFields (·.setIfInBounds 3 ((none:Option Addr).elim Value.none fun f=>rawInt f))) hT5 (Obj.isFreed_of_fields hd6)
  have he6:=(Heap.get?_update_other ((h₁.push oT).update a (Obj.mapFields (·.setIfInBounds 1 (Value.ref h₁.objs.size)))) (Obj.mapFields (·.setIfInBounds 3 ((none:Option Addr).elim Value.none fun f=>rawInt f))) hTe).trans he5
  have hTn:H h₁.objs.size=none:=I3.hok.fresh (Nat.le_refl _)
  have I4:=I3.laid (a:=h₁.objs.size) (o:=.ext fun h=>∃ o,h.get? h₁.objs.size=some o) (h':=h₁.push oT) (t':=s2.toks) (fun b u e=>Heap.get?_push_of_some _ e) (Nat.le_refl _) ⟨⟨_,hT4⟩,⟨_,hT4⟩,fun x y ⟨o,z⟩ k=>⟨o,k _ z⟩⟩
  have I5:=I4.write (x:=a) (e:=a) (o:=zhZ a C d (some h₁.objs.size)) (h':=(h₁.push oT).update a (Obj.mapFields (·.setIfInBounds 1 (Value.ref h₁.objs.size)))) (t':=s2.toks) (by rw [zD (Ne.symm hTe),ea]; trivial) (.inl rfl)
   (fun b u nb e=>(Heap.get?_update_other _ _ (Ne.symm nb)).trans e) ⟨_,he5⟩ (zk1 ⟨_,_,he5,(Obj.cls_mapFields _ _).trans hc,by obtain⟨c1,c2,c3,c4⟩:=oe; cases c3<;>exact hd',hd5,by simp [hsz],fun z=>nomatch z⟩)
  have I6:=I5.write (x:=h₁.objs.size) (e:=h₁.objs.size) (o:=xTb h₁.objs.size) (h':=((h₁.push oT).update a (Obj.mapFields (·.setIfInBounds 1 (Value.ref h₁.objs.size)))).update h₁.objs.size (Obj.mapFields (·.setIfInBounds 3 ((none:Option Addr).elim Value.none fun f=>rawInt f)))) (t':=s2.toks)
   (by rw [zD hTe,zG]; trivial) (.inl rfl) (fun b u nb e=>(Heap.get?_update_other _ _ (Ne.symm nb)).trans e) ⟨_,hT6⟩ (zj7 ⟨_,_,hT6,hd6,by simp⟩)
  have ee:({ s2 with heap:=((h₁.push oT).update a (Obj.mapFields (·.setIfInBounds 1 (Value.ref h₁.objs.size)))).update h₁.objs.size (Obj.mapFields (·.setIfInBounds 3 ((none:Option Addr).elim Value.none fun f=>rawInt f))) }:Shared) =
    { s with heap:=((h₁.push oT).update a (Obj.mapFields (·.setIfInBounds 1 (Value.ref h₁.objs.size)))).update h₁.objs.size (Obj.mapFields (·.setIfInBounds 3 ((none:Option Addr).elim Value.none fun f=>rawInt f))) }:=by rw [es2]
  have kk:∀ b o,b≠a->H b=some o->upd (upd (upd H h₁.objs.size (.ext fun h=>∃ o,h.get? h₁.objs.size=some o)) a (zhZ a C d (some h₁.objs.size))) h₁.objs.size (xTb h₁.objs.size) b=some o:=fun b o nb e=>by
   have nT:b≠h₁.objs.size:=fun z=>by rw [z,hTn]at e; cases e
   rw [zD nT,zD nb,zD nT]; exact e
  have fin:=k _ _ (by rw [<-ee]; exact I6) ⟨d,some h₁.objs.size,by rw [zD (Ne.symm hTe),zG],fun T eT=>by cases eT; exact⟨zG,hTe⟩,?_⟩ kk (fun b e=>?_)
  ·rw [<-ee]at fin; exact fin
  ·rcases ed with ed | ⟨od,dx,e1,e2⟩
   ·exact .inl ed
   ·exact .inr ⟨od,dx,e1,kk dx _ (fun z=>by rw [z,ea]at e2; cases e2) e2⟩
  ·by_cases b1:b=h₁.objs.size
   ·rw [b1,zG]at e; cases e
   ·rw [zD b1]at e
    by_cases b2:b=a
    ·rw [b2,zG]at e; cases e
    ·rw [zD b2,zD b1]at e; exact e
 unfold noteFrame
 simp only [hf]
 cases tb with
 | none =>
  refine wpAny_bind (wpAny_field (x:=.none) he hv h1 ?_)
  rw [if_neg (by decide)]
  exact main s .none _ rfl I he
 | some T =>
  obtain⟨eT,nT⟩:=et T rfl
  obtain⟨⟨oT,ts,hT,hdT,h3⟩,_⟩:=I.hok T _ eT
  refine wpAny_bind (wpAny_field (x:=.ref T) he hv h1 ?_)
  rw [if_pos (show(Value.ref T != Value.none)=true from by simp)]
  refine wpAny_bind (wpAny_field hT hdT h3 ?_)
  rw [if_neg (show ¬((Value.none==rawInt X.env.locals)=true) from by simp [rawInt])]
  refine wpAny_bind (wpAny_setField hT hdT (Array.getElem?_eq_some_iff.mp h3).1 ?_)
  have hd7:=Obj.data_mapFields hdT (·.setIfInBounds 3 Value.none)
  have hT7:=Heap.get?_update_self (Obj.mapFields (·.setIfInBounds 3 Value.none)) hT (Obj.isFreed_of_fields hd7)
  have I7:=I.write (x:=T) (e:=T) (o:=xTb T) (h':=s.heap.update T (Obj.mapFields (·.setIfInBounds 3 Value.none))) (t':=s.toks) (by rw [eT]; trivial) (.inl rfl) (fun b u nb e=>(Heap.get?_update_other _ _ (Ne.symm nb)).trans e) ⟨_,hT7⟩
   (zj7 ⟨_,_,hT7,hd7,by have:=(Array.getElem?_eq_some_iff.mp h3).1; simp [this]⟩)
  have eu:upd H T (xTb T)=H:=by
   funext b
   unfold upd
   split
   ·rename_i z; rw [z,eT]
   ·rfl
  rw [eu]at I7
  exact main { s with heap:=s.heap.update T (Obj.mapFields (·.setIfInBounds 3 Value.none)) } (.ref T) _ rfl I7 ((Heap.get?_update_other _ _ nT).trans he)
end
end L2
namespace L2
open PySem PySem.Spec PyProof.Rows
open PySem.W (Looks InstAt)
abbrev EXT:=St->Addr->Hp->Prop
def zeS(X:Cx)(EX:EXT):Prop:=∀ (pins:List (Addr×Obj)) (σ:St) (H:Hp) (s:Shared) (a:Addr),Inv X pins σ H s->EX σ a H->X.xe (.ref a) s
section
variable {X:Cx} {EX:EXT} {e:Expr} {te:TE} {pos:Pos}
def zj8(K:PySem.W.Frag)(EX:EXT)(te:TE):TS:=fun _ σ H=>te σ H fun v H1=>∃ a C d,v=.ref a/\H1 a=some (zhZ a C d none)/\XC K C/\EX σ a H1
theorem znh(hx:zeS X EX)(hh:X.A.handled=none)(he:PE X e te):PS X (.Raise (some e) none pos) (zj8 X.K EX te):=by
 intro pins s σ H D I h
 rw [arm_exec_Raise]
 simp only [evalOpt,Option.map]
 refine wpAny_bind (wpAny_standAt ?_)
 unfold raiseStmt
 refine wpAny_bind (wpAny_bind (thn (he pins s σ H _ I h) fun u s1 ⟨v,H1,I1,rv,a,C,d,ev,ea,xc,q⟩=>wpAny_bind (wpAny_standAt (wpAny_pure ?_))))
 subst ev
 obtain rfl:u=Value.ref a:=rv
 obtain⟨⟨oe,vs,hea,_,_,_,_,hp⟩,_⟩:=I1.hok a _ ea
 obtain⟨p,rfl⟩:=hp rfl
 replace hea:s1.heap.get? a=some { cls:=.ref C,dict:=d,data:=.fields #[.ref p,.none,.none,.none,.bool false,.none] }:=hea
 obtain⟨nm,qn,N,bs,bm,sn,sub,ab,col,dd,k0,k1,k2,k3,k5,eC,tl⟩:=xc.at_
 have hC:=I1.kIn _ _ eC
 have hcb:xUp.contains (.type "BaseException")=true:=by decide
 have hcB:(Value.ref C::bm).contains (.type "BaseException")=true:=by rw [List.contains_cons,(PySem.W.tail_of_in I1.kIn tl).hasType hcb,Bool.or_true]
 have fin:=hx pins σ H1 s1 a I1 q
 obtain⟨hp1,g,dr,tk,os⟩:=s1
 repeat (first | with_reducible refine wpAny_loadPart_at hea ?_ | with_reducible refine wpAny_loadPart_at hC ?_ | (with_reducible refine wpAny_isSubtype_exc hC ?_; rw [hcB]) | wp_step)
 exact wpAny_raiseNew_none hh fin
end
def ztg(K:PySem.W.Frag)(f:Str):Sp:=fun vs H Q _=>∃ a C p v,vs=[.ref a,v]/\H a=some (zj5 a C p)/\XC K C/\zcM K C f /\
 ∀ dx od,H dx=none->dx≠a->Q .non (upd (upd H dx (.frz od (.xd [(f,v)]))) a (zhZ a C (some dx) none))
theorem zpN{P:Program}{w:World}{fs:List Addr}{H H':Hp}{h h':Heap}{a:Addr}{φ:Heap->Prop}{o u:HO}(un:Un fs [] H H' h h')(hok:HOk P w H' h')(ea:H a=some (.ext φ))(ea':H' a=some o)(no:∀ xs,o≠.tup xs)(nw:∀ x,o≠.own x)(new:zaN P w (upd H' a u) h' a u) :
  Un fs [] H (upd H' a u) h h'/\HOk P w (upd H' a u) h':=by
 have ne:∀ b,(∀ ψ,H b≠some (.ext ψ))->b≠a:=fun b q z=>by subst z; exact q _ ea
 refine⟨⟨un.keep,un.slot,fun b ob q n hx=>?_,un.there,fun b xs q=>?_,fun b ob v q=>?_,fun b ps q=>?_⟩,fun b v q=>?_⟩
 ·rw [zD (ne b fun ψ z=>by rw [n]at z; cases z)]; exact un.free b ob q n hx
 ·rw [zD (ne b fun ψ z=>by rw [q]at z; cases z)]; exact un.tups b xs q
 ·rw [zD (ne b fun ψ z=>by rw [q]at z; cases z)]; exact un.frzs b ob v q
 ·obtain⟨m,e⟩:=un.tbls b ps q
  exact⟨m,by rw [zD (ne b fun ψ z=>by rw [q]at z; cases z)]; exact e⟩
 ·by_cases hb:b=a
  ·subst hb
   rw [zG]at q
   cases q
   exact new
  ·rw [zD hb]at q
   refine(hok b v q).stay (fun _ _ _ r=>r) (fun c r=>?_) fun c xs r=>?_
   ·rw [zD fun z=>by subst z; rw [ea']at r; cases r; exact nw _ rfl]; exact r
   ·rw [zD fun z=>by subst z; rw [ea']at r; cases r; exact no _ rfl]; exact r
section
variable {X:Cx} {C:Addr} {x:Str} {p pos:Pos}
end
def CXv(P:Program)(w:World):CXT:=fun outer H s E e s'=>∃ a H',e=.ref a/\s'.os=s.os/\AllBare s'.gens/\Un (frs outer) [] H H' s.heap s'.heap/\HOk P w H' s'.heap/\E e none H'
section
variable {X:Cx} {EX:EXT} {k:Nat} {f:Addr} {fd:FuncData} {ps:List Str} {sp:Sp} {x:Str} {p pos:Pos} {e:Expr} {es:List Expr} {t:TA}
def zth(EX:EXT)(σ:St):XK:=fun u _ H'=>∃ a,u=.ref a/\EX σ a H'
def zj9(sp:Sp)(EX:EXT)(t:TA):TE:=fun σ H Q=>t σ H fun vs H1=>sp vs H1 Q (zth EX σ)
theorem zpO{pins:List (Addr×Obj)}{σ:St}{H:Hp}{s:Shared}{Q:VK}{us:List Value}{vs:List V}(F:FnOk X.prog X.w X.K X.mg X.base (CXv X.prog X.w) k f fd ps sp)(hr:Room k X.A)(hb:zdQ X.K fd ps [])(hx:zeS X EX)
  (I:Inv X pins σ H s) (r:zac vs us) (h:sp vs H Q (zth EX σ)):wpAny (model X.prog X.w) X.A (call (.ref f) us) (EP X pins σ Q) X.xe s:=by
 have hl:(us++[]).length=ps.length:=by rw [List.append_nil,<-r.length]; exact F.len _ _ _ _ h
 have hb2:=hb s us I.kIn hl
 rw [List.append_nil]at hb2
 refine wpAny_call (codeAny_mono (F.run X.A X.stack s H ⟨us,[]⟩ us vs Q (zth EX σ) hr I.env0 hb2 r h) fun r s' hq=>?_)
 cases r with
 | error e =>
  obtain⟨a,H',rfl,os,bare,un,hok,a',ea,q⟩:=hq
  cases ea
  obtain⟨hh,g,d,t,os'⟩:=s'
  obtain rfl:os'=s.os:=os
  exact hx pins σ H' _ a (I.call (h':=hh) (g':=g) (d':=d) (t':=t) (ch:=[]) un hok bare (fun b z=>absurd z (by simp))) q
 | ok fl =>
  cases fl with
  | ret u=>exact I.after hq
  | next=>exact False.elim hq
  | brk=>exact False.elim hq
  | cont=>exact False.elim hq
theorem zni(F:FnOk X.prog X.w X.K X.mg X.base (CXv X.prog X.w) k f fd ps sp)(hr:Room k X.A)(hg:Gl X x)(hm:X.mg x=some (.ref f))(hk:PySem.W.keepIn X.K (.ref f)=true)(hb:zdQ X.K fd ps [])(hx:zeS X EX)
  (ha:PA X (e::es) t) (hdb:(x==("__debug__":Str))=false:=by decide) (he:starEach (e::es) X.env=(false,eval e X.env)::starEach es X.env:=by rfl) (hpl:(backTo pos (starEach es X.env)).any (·.1)=false:=by rfl) :
  PE X (.Call (.Name x p) (e::es) [] pos) (zj9 sp EX t):=by
 intro pins s σ H Q I h
 refine wpAny_Call_Name_kw (zeL I hg hm ?_ hdb)
 refine PySem.W.callWith_K (h₀:=X.base) I.ok.mod.kin hk (thn (ha pos pins s σ H _ I h) fun us s1 ⟨vs,H1,I1,r,q⟩=>⟨I1.kIn,?_⟩) he hpl
 exact zpO F hr hb hx I1 r q
def EXd(E:XK):EXT:=fun _ a H=>∃ C fs,zh0 H a C fs/\∀ H',zh0 H' a C fs->(∀ b o,b≠a->H b=some o->H' b=some o)->(∀ b,H' b=none->H b=none)->E (.ref a) none H'
theorem zvY{P:Program}{w:World}{K:PySem.W.Frag}{mg:Str->Option Value}{base:Heap}{N:List Str}{qual:Str}{scope:Scope}{f:Addr}{cd:Value}{A:Around}{outer:List Env}{s:Shared}{H:Hp}{E:XK} :
  zeS (zgd (CXv P w) P w K mg base N qual scope f cd A outer s H E) (EXd E):=by
 intro pins σ H1 s1 a I ⟨C,fs,fl,q⟩
 show wpAny _ _ (leaving _ _) _ _ _
 unfold leaving
 refine wpAny_bind (zhx (outer:=outer) I I.ok.frames rfl rfl fl fun h' H' I' fl' k1 k2=>?_)
 exact⟨a,H',rfl,I'.os,I'.bare,I'.base,I'.hok,q H' fl' k1 k2⟩
end
end L2
namespace L2
open PySem PySem.Spec PyProof.Rows
open PySem.W (Looks InstAt)
abbrev Cx.body(X:Cx)(pn:List (Addr×Obj))(E:Value->Shared->Prop):Cx:={ X with pn:=pn,xe:=E }
abbrev Cx.held(X:Cx)(a:Addr):Cx:={ X with A:=X.A.mark (some (.ref a)),calm:=false,xe:=fun _ _=>False }
section
variable {X:Cx} {pins:List (Addr×Obj)} {σ:St} {H:Hp} {s:Shared} {E:Value->Shared->Prop} {a:Addr} {pn:List (Addr×Obj)}
theorem Cx.Ok.body(ok:X.Ok):(X.body pn E).Ok:=⟨ok.mod,ok.kind,ok.glob,ok.blt,ok.above,ok.inj,ok.has,ok.cab,ok.hd,ok.frames,ok.stk,ok.exf,ok.bs,ok.bsz,ok.noex,ok.exfs,ok.funs,ok.frf⟩
theorem Cx.Ok.held(ok:X.Ok):(X.held a).Ok:=⟨ok.mod,ok.kind,ok.glob,ok.blt,ok.above,ok.inj,ok.has,ok.cab,(fun z=>by cases z),ok.frames,ok.stk,ok.exf,ok.bs,ok.bsz,ok.noex,ok.exfs,ok.funs,ok.frf⟩
theorem Inv.body(I:Inv X pins σ H s):Inv (X.body (X.pn++pins) E) [] σ H s:=⟨I.ok.body,I.os,I.bare,I.base,I.loc,I.cell,I.free,I.freeC,fun p hp=>I.pin p (by simpa using hp),I.hok,I.len⟩
theorem Inv.unbody{pins':List (Addr×Obj)}(ok:X.Ok)(I:Inv (X.body (X.pn++pins) E) pins' σ H s):Inv X pins σ H s:=⟨ok,I.os,I.bare,I.base,I.loc,I.cell,I.free,I.freeC,fun p hp=>I.pin p (List.mem_append_left _ hp),I.hok,I.len⟩
theorem Inv.held(I:Inv X pins σ H s):Inv (X.held a) pins σ H s:=⟨I.ok.held,I.os,I.bare,I.base,I.loc,I.cell,I.free,I.freeC,I.pin,I.hok,I.len⟩
theorem Inv.unheld(ok:X.Ok)(I:Inv (X.held a) pins σ H s):Inv X pins σ H s:=⟨ok,I.os,I.bare,I.base,I.loc,I.cell,I.free,I.freeC,I.pin,I.hok,I.len⟩
theorem zka{M:Model}{A:Around}{E:Value->Shared->Prop}{Q:Unit->Shared->Prop}{C:Addr}{fs:List (Str×V)}(I:Inv X pins σ H s)(fl:zh0 H a C fs)(k:∀ h',Inv X pins σ H { s with heap:=h' }->Q () { s with heap:=h' }) :
  wpAny M A (setFlight (.ref a) none) Q E s:=by
 obtain⟨d,tb,ea,et,ed⟩:=fl
 obtain⟨⟨oe,vs,he,hc,hd',hv,h1,_⟩,_⟩:=I.hok a _ ea
 unfold setFlight
 cases tb with
 | none =>
  refine wpAny_bind (wpAny_field (x:=.none) he hv h1 ?_)
  rw [if_neg (by decide)]
  exact wpAny_pure (k s.heap I)
 | some T =>
  obtain⟨eT,nT⟩:=et T rfl
  obtain⟨⟨oT,ts,hT,hdT,h3⟩,_⟩:=I.hok T _ eT
  refine wpAny_bind (wpAny_field (x:=.ref T) he hv h1 ?_)
  rw [if_pos (show(Value.ref T != Value.none)=true from by simp)]
  refine wpAny_setField hT hdT (Array.getElem?_eq_some_iff.mp h3).1 ?_
  have hd7:=Obj.data_mapFields hdT (·.setIfInBounds 3 ((none:Option Addr).elim Value.none fun f=>rawInt f))
  have hT7:=Heap.get?_update_self (Obj.mapFields (·.setIfInBounds 3 ((none:Option Addr).elim Value.none fun f=>rawInt f))) hT (Obj.isFreed_of_fields hd7)
  have I7:=I.write (x:=T) (e:=T) (o:=xTb T) (h':=s.heap.update T (Obj.mapFields (·.setIfInBounds 3 ((none:Option Addr).elim Value.none fun f=>rawInt f)))) (t':=s.toks) (by rw [eT]; trivial) (.inl rfl) (fun b u nb e=>(Heap.get?_update_other _ _ (Ne.symm nb)).trans e) ⟨_,hT7⟩
   (zj7 ⟨_,_,hT7,hd7,by have:=(Array.getElem?_eq_some_iff.mp h3).1; simp [this]⟩)
  have eu:upd H T (xTb T)=H:=by
   funext b
   unfold upd
   split
   ·rename_i z; rw [z,eT]
   ·rfl
  rw [eu]at I7
  exact k _ I7
theorem zei{M:Model}{A:Around}{E:Value->Shared->Prop}{Q:Unit->Shared->Prop}{i:Nat}{n:Str}{pos:Pos}(I:Inv X pins σ H s)(hN:X.N.Nodup)(hi:X.N[i]?=some n)(hx:X.env.scope.names.lookup n=some .local)
  (h:∀ s',Inv X pins (σ.set i none) H s'->Q () s'):wpAny M A (do bindName X.env n .none; unbindBehindTheSuite X.env n pos) Q E s:=by
 obtain⟨m,hn,hl⟩:=id I.loc
 have hcls:(X.env.scope.kind==.class || (X.env.scope.kind==.module && X.env.locals != X.env.globals))=false:=by rw [I.ok.kind]; rfl
 have hiσ:i < σ.length:=by rw [I.len]; exact(List.getElem?_eq_some_iff.mp hi).1
 refine wpAny_nameGoes_keeps hx hn hcls fun h' v hn' hs=>h _ ?_
 refine Inv.tok (s:={ s with heap:=h' }) ?_ _
 refine⟨I.ok,I.os,I.bare,⟨fun b o e n hb hx=>?_,fun b o e n hb hx=>?_,I.base.free,fun b o e hx=>?_,I.base.tups,I.base.frzs,I.base.tbls⟩,⟨_,hn',fun j y v' e1 e2 e3=>?_⟩,fun y c e=>?_,I.free,I.freeC,fun p hp=>?_,fun b u e=>?_,by simpa using I.len⟩
 ·exact(hs.2 b (Nat.ne_of_lt (Nat.lt_of_lt_of_le (Heap.lt_size e) I.ok.above))).trans (I.base.keep b o e n hb hx)
 ·obtain⟨sl,e1⟩:=I.base.slot b o e n hb hx
  exact⟨sl,(hs.2 b (Nat.ne_of_lt (Nat.lt_of_lt_of_le (Heap.lt_size e) I.ok.above))).trans e1⟩
 ·obtain⟨o',e1⟩:=I.base.there b o e hx
  exact⟨o',(hs.2 b (Nat.ne_of_lt (Nat.lt_of_lt_of_le (Heap.lt_size e) I.ok.above))).trans e1⟩
 ·by_cases hj:j=i
  ·subst hj
   rw [List.getElem?_set_self hiσ]at e2
   cases e2
  ·rw [List.getElem?_set_ne (Ne.symm hj)]at e2
   obtain⟨u',r',q⟩:=hl j y v' e1 e2 e3
   refine⟨u',r',?_⟩
   rcases q with ⟨k,e⟩ | ⟨k,c,e,z⟩
   ·refine .inl ⟨k,?_⟩
    have:y≠n:=fun e=>hj (zf6 hN e1 (e▸hi))
    simp [this,e]
   ·exact .inr ⟨k,c,e,z.sameBut hs (I.cne y c e)⟩
 ·obtain⟨w',z⟩:=I.cell y c e
  exact⟨w',z.sameBut hs (I.cne y c e)⟩
 ·obtain⟨e,n,ne,nf,d⟩:=I.pin p hp
  exact⟨(hs.2 p.1 ne).trans e,n,ne,nf,d⟩
 ·refine(I.hok b u e).stay (fun c w' hc q=>(hs.2 c ?_).trans q) (fun _ q=>q) fun _ _ q=>q
  rintro rfl
  rcases hc with rfl | hc
  ·rw [I.free]at e; cases e
  ·rw [I.free]at hc; cases hc
end
def zvZ(D:Ends)(i:Nat):Ends:={ nx:=fun σ H=>D.nx (σ.set i none) H,rt:=D.rt,bk:=fun σ H=>D.bk (σ.set i none) H,ct:=fun σ H=>D.ct (σ.set i none) H }
def EXt(K:PySem.W.Frag)(C':Addr)(i:Nat)(th:TS)(D:Ends):EXT:=fun σ a H=>∃ C fs,zh0 H a C fs/\XC K C/\PySem.W.mroIn K C (.ref C')=some true /\
 ∀ H',XV H' a C fs->(∀ b o,b≠a->H b=some o->H' b=some o)->(∀ b,H' b=none->H b=none)->th (zvZ D i) (σ.set i (some (.ref a))) H'
def zti(K:PySem.W.Frag)(C':Addr)(i:Nat)(tb:EXT->TS)(th:TS):TS:=fun D σ H=>tb (EXt K C' i th D) D σ H
section
variable {prog:Program} {w:World} {A:Around} {E:Value->Shared->Prop} {K:PySem.W.Frag} {C C':Addr}
theorem zl9{h:Heap}{g:Array GenState}{d:Drawn}{t:Nat}{os:OsState}{e:Addr}{oe:Obj}{Q:Bool->Shared->Prop}(I:K.In h)(X:XC K C)(X':XC K C')(he:h.get? e=some oe)(hcls:oe.cls=.ref C)(hm:PySem.W.mroIn K C (.ref C')=some true)
  (hq:Q true ⟨h,g,d,t,os⟩):wpAny (model prog w) A (excMatches (.ref e) (.ref C')) Q E ⟨h,g,d,t,os⟩:=by
 obtain⟨nm,qn,N,bs,bm,sn,sub,ab,col,dd,k0,k1,k2,k3,k5,eC,tl⟩:=X.at_
 obtain⟨nm',qn',N',bs',bm',sn',sub',ab',col',dd',k0',k1',k2',k3',k5',eC',tl'⟩:=X'.at_
 have hC:=I _ _ eC
 have hC':=I _ _ eC'
 have hcb:xUp.contains (.type "BaseException")=true:=by decide
 have hcB':(Value.ref C'::bm').contains (.type "BaseException")=true:=by rw [List.contains_cons,(PySem.W.tail_of_in I tl').hasType hcb,Bool.or_true]
 have hcC:(Value.ref C::bm).contains (.ref C')=true:=by
  unfold PySem.W.mroIn PySem.W.clsIn at hm
  rw [eC]at hm
  simpa [excClassObj] using hm
 have f:=tc_notTuple
 unfold excMatches
 repeat (first | (with_reducible refine wpAny_loadPart_at he ?_; rw [hcls]) | with_reducible refine wpAny_loadPart_at hC' ?_ | (with_reducible refine wpAny_isSubtype_exc hC' ?_; rw [hcB']) | (with_reducible refine wpAny_isSubtype_exc hC ?_; rw [hcC]) | wp_step)
 exact hq
end
section
variable {X:Cx} {i:Nat} {n cls:Str} {C':Addr} {body suite:List Stmt} {b₀:Stmt} {tb:EXT->TS} {th:TS} {np hpos pos:Pos}
theorem ztj{outer:List Env}(hst:X.stack=X.env::outer)(hf:X.env.frame=some X.env.locals)(hN:X.N.Nodup)(hi:X.N[i]?=some n)(hl:X.env.scope.names.lookup n=some .local)(hg:Gl X cls)(hm:X.mg cls=some (.ref C'))(hC':XC X.K C')
  (hb:∀ (pn:List (Addr×Obj)) (E:Value->Shared->Prop) (EX:EXT),zeS (X.body pn E) EX->PSs (X.body pn E) body (tb EX))
  (hs:∀ a,PSs (X.held a) (b₀::suite) th) (hdb:(cls==("__debug__":Str))=false:=by decide) :
  PS X (.Try body [.ExceptHandler (some (.Name cls np)) (some n) (b₀::suite) hpos] [] [] pos) (zti X.K C' i tb th):=by
 intro pins s σ H D I h
 refine wpAny_Try_except ?_
 have run:=hb (X.pn++pins) (fun e s₁=>wpAny (model X.prog X.w) X.A (noteFrame e X.env) (fun _ s₂=>wpAny (model X.prog X.w) X.A (setFlight e none) (fun _ s₃ =>
  wpAny (model X.prog X.w) X.A (handleBy e X.env [.ExceptHandler (some (.Name cls np)) (some n) (b₀::suite) hpos]) (SP X pins D) X.xe s₃) X.xe s₂) X.xe s₁) (EXt X.K C' i th D) ?_ [] s σ H D I.body h
 ·refine wpAny_mono run (fun f s1 q=>?_) fun _ _ z=>z
  cases f with
  | next=>obtain⟨σ',H',I',q⟩:=q; exact wpAny_execs_nil ⟨σ',H',I'.unbody I.ok,q⟩
  | brk=>obtain⟨σ',H',I',q⟩:=q; exact⟨σ',H',I'.unbody I.ok,q⟩
  | cont=>obtain⟨σ',H',I',q⟩:=q; exact⟨σ',H',I'.unbody I.ok,q⟩
  | ret u=>obtain⟨v,σ',H',I',r,q⟩:=q; exact⟨v,σ',H',I'.unbody I.ok,r,q⟩
 ·intro pins' σ' H1 s1 a I1 ⟨C,fs,fl,xc,hmr,q⟩
  have J1:=I1.unbody I.ok
  refine zhx (outer:=outer) J1 I.ok.frames hst hf fl fun h2 H2 J2 fl2 k1 k2=>?_
  obtain⟨d2,tb2,ea2,et2,ed2⟩:=id fl2
  obtain⟨⟨oe,vs,he,hc,hd',hv,h1,_⟩,_⟩:=J2.hok a _ ea2
  refine wpAny_handleBy_cons (codeAny_handlers_test (zeL (J2.held (a:=a)) hg hm ?_ hdb)) (by intro q; cases q)
  refine zl9 J2.kIn xc hC' he hc hmr (codeAny_handlers_suite_as ?_)
  refine zka J2 fl2 fun h3 J3=>?_
  refine zdW (v:=.ref a) J3 hN hi (.inl hl) rfl (fun s4 J4'=>?_) (.inr hl)
  have J4:=J4'.held (a:=a)
  obtain⟨⟨oe4,vs4,he4,hc4,hd4,hv4,_⟩,_⟩:=J4.hok a _ ea2
  obtain⟨hp4,g4,dr4,tk4,os4⟩:=s4
  have J6:=J4.write (x:=a) (e:=a) (o:=.frz oe4 (.own 0)) (h':=hp4) (t':=tk4) (by rw [ea2]; trivial) (.inl rfl) (fun b u nb e=>e) ⟨oe4,he4⟩ ⟨he4,_,he4⟩
  have kk:∀ b o,b≠a->H1 b=some o->upd H2 a (.frz oe4 (.own 0)) b=some o:=fun b o nb e=>by rw [zD nb]; exact k1 b o nb e
  have sem:=q (upd H2 a (.frz oe4 (.own 0))) ⟨oe4,zG,hc4,by obtain⟨c1,c2,c3,c4⟩:=oe4; cases hv4; rfl,?_⟩ kk (fun b e=>?_)
  ·refine wpAny_mono (hs a pins _ _ _ _ J6 sem) (fun f s5 q5=>?_) fun _ _ z=>z.elim
   cases f with
   | next=>obtain⟨σ5,H5,J7,q7⟩:=q5; exact zei (J7.unheld I.ok) hN hi hl fun s6 J8=>⟨_,H5,J8,q7⟩
   | brk=>obtain⟨σ5,H5,J7,q7⟩:=q5; exact zei (J7.unheld I.ok) hN hi hl fun s6 J8=>⟨_,H5,J8,q7⟩
   | cont=>obtain⟨σ5,H5,J7,q7⟩:=q5; exact zei (J7.unheld I.ok) hN hi hl fun s6 J8=>⟨_,H5,J8,q7⟩
   | ret u=>obtain⟨v,σ5,H5,J7,r7,q7⟩:=q5; exact zei (J7.unheld I.ok) hN hi hl fun s6 J8=>⟨v,_,H5,J8,r7,q7⟩
  ·rcases ed2 with ⟨e1,e2⟩ | ⟨od,dx,e1,e2⟩
   ·exact .inl ⟨e1,hd4.trans e2⟩
   ·exact .inr ⟨od,dx,hd4.trans e1,by rw [zD fun z=>by rw [z,ea2]at e2; cases e2]; exact e2⟩
  ·by_cases b2:b=a
   ·rw [b2,zG]at e; cases e
   ·rw [zD b2]at e; exact k2 b e
end
end L2
namespace L2
open PySem PySem.Spec PyProof.Rows
abbrev D:=PyData
def k1D:Key->D
 | .inl i=>.int i
 | .inr x=>.str x
def kTD(ks:List Key):D:=.tuple (ks.map k1D)
def PL(K:PySem.W.Frag)(H:Hp)(a:Addr)(xs:List V):Prop :=
 (∃ o,H a=some (.frz o (.lst xs)))\/∃ (o:Obj) (its:Array Value) (n:Nat),K.lookup a=some o/\o.cls=.type "list"/\o.dict=none/\o.data=.seq its n/\its.size<=sizeLine/\zac xs its.toList
def XN(K:PySem.W.Frag)(n:Str)(C:Addr):Prop:=PySem.W.nsIn K mainGlobals n=some (some (.ref C))
def noX:List (D×D)->Bool
 | (.none,_)::_=>false
 | _=>true
mutual
inductive DF (K:PySem.W.Frag) (H:Hp):V->D->Prop
 | non:DF K H .non .none
 | bl (b:Bool):DF K H (.bl b) (.bool b)
 | int (i:Int):DF K H (.int i) (.int i)
 | str (x:Str):DF K H (.str x) (.str x)
 | tup {a:Addr} {xs:List V} {ds:List D} (h:H a=some (.tup xs)) (t:DFs K H xs ds):DF K H (.ref a) (.tuple ds)
 | lst {a:Addr} {xs:List V} {ds:List D} (h:PL K H a xs) (t:DFs K H xs ds):DF K H (.ref a) (.list ds)
 | dct {a:Addr} {o:Obj} {ws:List (List Key×V)} {kvs:List (D×D)} (h:H a=some (.frz o (.dT ws))) (t:DFt K H ws kvs):DF K H (.ref a) (.dict kvs)
 | exc {a C:Addr} {n:Str} {fs:List (Str×V)} {ds:List (D×D)} (h:XV H a C fs) (e:XN K n C) (t:DFf K H fs ds):DF K H (.ref a) (.dict ((.none,.str n)::ds))
inductive DFs (K:PySem.W.Frag) (H:Hp):List V->List D->Prop
 | nil:DFs K H [] []
 | cons {v:V} {d:D} {vs:List V} {ds:List D} (h:DF K H v d) (t:DFs K H vs ds):DFs K H (v::vs) (d::ds)
inductive DFt (K:PySem.W.Frag) (H:Hp):List (List Key×V)->List (D×D)->Prop
 | nil:DFt K H [] []
 | cons {k:List Key} {v:V} {d:D} {vs:List (List Key×V)} {ds:List (D×D)} (h:DF K H v d) (t:DFt K H vs ds):DFt K H ((k,v)::vs) ((kTD k,d)::ds)
inductive DFf (K:PySem.W.Frag) (H:Hp):List (Str×V)->List (D×D)->Prop
 | nil:DFf K H [] []
 | cons {k:Str} {v:V} {d:D} {vs:List (Str×V)} {ds:List (D×D)} (h:DF K H v d) (t:DFf K H vs ds):DFf K H ((k,v)::vs) ((.str k,d)::ds)
end
theorem XV.kp{H H':Hp}{a C:Addr}{fs:List (Str×V)}(e:Kp H H')(h:XV H a C fs):XV H' a C fs:=by
 obtain⟨ox,h1,h2,h3,h4⟩:=h
 refine⟨ox,e.frz _ _ _ h1,h2,h3,?_⟩
 rcases h4 with h4 | ⟨od,dx,h5,h6⟩
 ·exact .inl h4
 ·exact .inr ⟨od,dx,h5,e.frz _ _ _ h6⟩
theorem PL.kp{K:PySem.W.Frag}{H H':Hp}{a:Addr}{xs:List V}(e:Kp H H')(h:PL K H a xs):PL K H' a xs:=by
 rcases h with ⟨o,h⟩ | h
 ·exact .inl ⟨o,e.frz _ _ _ h⟩
 ·exact .inr h
theorem PL.sq{K:PySem.W.Frag}{H:Hp}{a:Addr}{xs:List V}(h:PL K H a xs):SqL K H a xs:=by
 rcases h with ⟨o,h⟩ | h
 ·exact .inl (.inr ⟨o,h⟩)
 ·exact .inr h
mutual
theorem DF.kp{K:PySem.W.Frag}{H H':Hp}(e:Kp H H'):∀ {v:V} {d:D},DF K H v d->DF K H' v d
 | _,_,.non=>.non
 | _,_,.bl b=>.bl b
 | _,_,.int i=>.int i
 | _,_,.str x=>.str x
 | _,_,.tup h t=>.tup (e.tup _ _ h) (DFs.kp e t)
 | _,_,.lst h t=>.lst (h.kp e) (DFs.kp e t)
 | _,_,.dct h t=>.dct (e.frz _ _ _ h) (DFt.kp e t)
 | _,_,.exc h n t=>.exc (h.kp e) n (DFf.kp e t)
theorem DFs.kp{K:PySem.W.Frag}{H H':Hp}(e:Kp H H'):∀ {v:List V} {d:List D},DFs K H v d->DFs K H' v d
 | _,_,.nil=>.nil
 | _,_,.cons h t=>.cons (DF.kp e h) (DFs.kp e t)
theorem DFt.kp{K:PySem.W.Frag}{H H':Hp}(e:Kp H H'):∀ {v:List (List Key×V)} {d:List (D×D)},DFt K H v d->DFt K H' v d
 | _,_,.nil=>.nil
 | _,_,.cons h t=>.cons (DF.kp e h) (DFt.kp e t)
theorem DFf.kp{K:PySem.W.Frag}{H H':Hp}(e:Kp H H'):∀ {v:List (Str×V)} {d:List (D×D)},DFf K H v d->DFf K H' v d
 | _,_,.nil=>.nil
 | _,_,.cons h t=>.cons (DF.kp e h) (DFf.kp e t)
end
section
variable {K:PySem.W.Frag} {H:Hp}
theorem DFs.snoc{v:V}{d:D}(h:DF K H v d):∀ {vs:List V} {ds:List D},DFs K H vs ds->DFs K H (vs++[v]) (ds++[d])
 | _,_,.nil=>.cons h .nil
 | _,_,.cons a t=>.cons a (DFs.snoc h t)
theorem DFs.app:∀ {vs ws:List V} {ds es:List D},DFs K H vs ds->DFs K H ws es->DFs K H (vs++ws) (ds++es)
 | _,_,_,_,.nil,q=>q
 | _,_,_,_,.cons a t,q=>.cons a (DFs.app t q)
theorem DFs.len:∀ {vs:List V} {ds:List D},DFs K H vs ds->vs.length=ds.length
 | _,_,.nil=>rfl
 | _,_,.cons _ t=>congrArg (·+1) (DFs.len t)
theorem DFs.get:∀ {vs:List V} {ds:List D} {i:Nat} {d:D},DFs K H vs ds->ds[i]?=some d->∃ v,vs[i]?=some v/\DF K H v d
 | _,_,0,_,.cons h _,e=>by
  cases(show some _=some _ from e)
  exact⟨_,rfl,h⟩
 | _,_,i+1,_,.cons _ t,e=>DFs.get (i:=i) t e
 | _,_,0,_,.nil,e=>by cases e
 | _,_,_+1,_,.nil,e=>by cases e
theorem DFs.take:∀ {vs:List V} {ds:List D} (n:Nat),DFs K H vs ds->DFs K H (vs.take n) (ds.take n)
 | _,_,0,_=>by simpa using DFs.nil
 | _,_,n+1,.nil=>by simpa using DFs.nil
 | _,_,n+1,.cons h t=>.cons h (DFs.take n t)
theorem DFs.drop:∀ {vs:List V} {ds:List D} (n:Nat),DFs K H vs ds->DFs K H (vs.drop n) (ds.drop n)
 | _,_,0,q=>q
 | _,_,n+1,.nil=>by simpa using DFs.nil
 | _,_,n+1,.cons h t=>DFs.drop n t
theorem DFs.set{v:V}{d:D}(h:DF K H v d):∀ {vs:List V} {ds:List D} (n:Nat),DFs K H vs ds->DFs K H (vs.set n v) (ds.set n d)
 | _,_,_,.nil=>.nil
 | _,_,0,.cons _ t=>.cons h t
 | _,_,n+1,.cons a t=>.cons a (DFs.set h n t)
end
inductive U where
 | d (x:D)
 | l (xs:List D) | t (kvs:List (List Key×D)) | k (kvs:List (Key×D))
def U.own:U->Bool
 | .d _=>false
 | _=>true
def KVd{κ:Type}(K:PySem.W.Frag)(H:Hp):List (κ×V)->List (κ×D)->Prop:=Paired fun p q=>p.1=q.1/\DF K H p.2 q.2
def Rp(K:PySem.W.Frag)(H:Hp)(v:V):U->Prop
 | .d x=>DF K H v x
 | .l xs=>∃ a us,v=.ref a/\H a=some (.lst us)/\DFs K H us xs
 | .t kvs=>∃ a ws,v=.ref a/\H a=some (.dT ws)/\KVd K H ws kvs
 | .k kvs=>∃ a ws,v=.ref a/\H a=some (.dK ws)/\KVd K H ws kvs
def Mo:HO->Prop
 | .lst _=>True
 | .dT _=>True
 | .dK _=>True
 | _=>False
theorem Rp.own{K:PySem.W.Frag}{H:Hp}{v:V}{u:U}(h:Rp K H v u)(o:u.own=true):∃ a c,v=.ref a/\H a=some c/\Mo c:=by
 cases u with
 | d x=>cases o
 | l xs=>obtain⟨a,us,e,q,_⟩:=h; exact⟨a,_,e,q,trivial⟩
 | t xs=>obtain⟨a,us,e,q,_⟩:=h; exact⟨a,_,e,q,trivial⟩
 | k xs=>obtain⟨a,us,e,q,_⟩:=h; exact⟨a,_,e,q,trivial⟩
theorem KVd.kp{κ:Type}{K:PySem.W.Frag}{H H':Hp}(e:Kp H H'){ws:List (κ×V)}{kvs:List (κ×D)}(h:KVd K H ws kvs):KVd K H' ws kvs:=Paired.mapP h fun _ _ z=>⟨z.1,z.2.kp e⟩
theorem Rp.kp{K:PySem.W.Frag}{H H':Hp}{v:V}{u:U}(h:Rp K H v u)(e:Kp H H')(o:u.own=true->∀ a c,v=.ref a->H a=some c->H' a=some c):Rp K H' v u:=by
 cases u with
 | d x=>exact DF.kp e h
 | l xs=>obtain⟨a,us,ev,q,t⟩:=h; exact⟨a,us,ev,o rfl a _ ev q,t.kp e⟩
 | t xs=>obtain⟨a,us,ev,q,t⟩:=h; exact⟨a,us,ev,o rfl a _ ev q,t.kp e⟩
 | k xs=>obtain⟨a,us,ev,q,t⟩:=h; exact⟨a,us,ev,o rfl a _ ev q,t.kp e⟩
abbrev En:=List (Option U)
def Ow(ρ:En)(σ:St)(a:Addr):Prop:=∃ (i:Nat) (u:U),ρ[i]?=some (some u)/\u.own=true/\σ[i]?=some (some (.ref a))
structure Rs (K:PySem.W.Frag) (ρ:En) (σ:St) (H:Hp):Prop where
 len:ρ.length=σ.length
 rep:∀ (i:Nat) (u:U),ρ[i]?=some (some u)->∃ v,σ[i]?=some (some v)/\Rp K H v u
 apart:∀ (i j:Nat) (u w:U),ρ[i]?=some (some u)->ρ[j]?=some (some w)->u.own=true->w.own=true->σ[i]?=σ[j]?->i=j
def Fr'(A:Addr->Prop)(H H':Hp):Prop:=∀ a o,H a=some o->¬A a->H' a=some o
structure Shr (ρ ρ':En):Prop where
 len:ρ'.length=ρ.length
 own:∀ (i:Nat) (u:U),ρ'[i]?=some (some u)->u.own=true->∃ w,ρ[i]?=some (some w)/\w.own=true
 live:∀ (i:Nat) (u:U),ρ[i]?=some (some u)->∃ w,ρ'[i]?=some (some w)
def Nw(H:Hp)(v:V)(u:U):Prop:=u.own=true->∃ a,v=.ref a/\H a=none
structure Go (K:PySem.W.Frag) (ρ:En) (σ:St) (H:Hp) (ρ':En) (H':Hp):Prop where
 rs:Rs K ρ' σ H'
 fr:Fr' (Ow ρ σ) H H'
 shr:Shr ρ ρ'
 dm:∀ a,H' a=none->H a=none
section
variable {K:PySem.W.Frag} {ρ ρ' ρ'':En} {σ:St} {H H' H'':Hp} {a:Addr}
theorem Rs.ow(r:Rs K ρ σ H)(o:Ow ρ σ a):∃ c,H a=some c/\Mo c:=by
 obtain⟨i,u,e,ou,es⟩:=o
 obtain⟨v,ev,p⟩:=r.rep i u e
 rw [es]at ev
 cases ev
 obtain⟨b,c,eb,q,m⟩:=p.own ou
 cases eb
 exact⟨c,q,m⟩
theorem Fr'.kp(r:Rs K ρ σ H)(f:Fr' (Ow ρ σ) H H'):Kp H H':=by
 refine⟨fun b xs h=>f b _ h fun o=>?_,fun b ob u h=>f b _ h fun o=>?_⟩
 ·obtain⟨c,q,m⟩:=r.ow o
  rw [h]at q
  cases q
  exact m
 ·obtain⟨c,q,m⟩:=r.ow o
  rw [h]at q
  cases q
  exact m
theorem Shr.refl(ρ:En):Shr ρ ρ:=⟨rfl,fun i u e o=>⟨u,e,o⟩,fun i u e=>⟨u,e⟩⟩
theorem Shr.trans(a:Shr ρ ρ')(b:Shr ρ' ρ''):Shr ρ ρ'':=⟨b.1.trans a.1,fun i u e o=>let ⟨w,e',o'⟩:=b.2 i u e o; a.2 i w e' o',fun i u e=>let ⟨w,e'⟩:=a.3 i u e; b.3 i w e'⟩
theorem Shr.ow(s:Shr ρ ρ')(o:Ow ρ' σ a):Ow ρ σ a:=by
 obtain⟨i,u,e,ou,es⟩:=o
 obtain⟨w,e',o'⟩:=s.2 i u e ou
 exact⟨i,w,e',o',es⟩
theorem Go.refl(r:Rs K ρ σ H):Go K ρ σ H ρ H:=⟨r,fun _ _ h _=>h,Shr.refl _,fun _ h=>h⟩
theorem Go.trans(a:Go K ρ σ H ρ' H')(b:Go K ρ' σ H' ρ'' H''):Go K ρ σ H ρ'' H'' :=
 ⟨b.rs,fun c o h n=>b.fr c o (a.fr c o h n) fun z=>n (a.shr.ow z),a.shr.trans b.shr,fun c h=>a.dm c (b.dm c h)⟩
theorem Go.kp(r:Rs K ρ σ H)(g:Go K ρ σ H ρ' H'):Kp H H':=g.fr.kp r
theorem Go.stay{v:V}{u:U}(r:Rs K ρ σ H)(g:Go K ρ σ H ρ' H')(h:Rp K H v u)(n:u.own=true->∃ a,v=.ref a/\¬Ow ρ σ a):Rp K H' v u:=by
 refine h.kp (g.kp r) fun o a c ev q=>?_
 obtain⟨b,eb,nb⟩:=n o
 cases ev
 cases eb
 exact g.fr _ _ q nb
theorem Nw.out{v:V}{u:U}(r:Rs K ρ σ H)(n:Nw H v u):u.own=true->∃ a,v=.ref a/\¬Ow ρ σ a:=fun o=>by
 obtain⟨a,e,h⟩:=n o
 refine⟨a,e,fun z=>?_⟩
 obtain⟨c,q,_⟩:=r.ow z
 rw [h]at q
 cases q
theorem zbE.dm(s:zbE H H'):∀ a,H' a=none->H a=none:=fun a h=>by
 cases e:H a with
 | none=>rfl
 | some o=>rw [s a o e]at h; cases h
theorem Go.grow(r:Rs K ρ σ H)(s:zbE H H'):Go K ρ σ H ρ H' :=
 ⟨⟨r.len,fun i u e=>let ⟨v,ev,p⟩:=r.rep i u e; ⟨v,ev,p.kp s.kp fun _ a c _ q=>s a c q⟩,r.apart⟩,fun a o h _=>s a o h,Shr.refl _,s.dm⟩
end
inductive Ar where
 | s (i:Nat) | u (x:U)
def Ar.get(ρ:En):Ar->Option U
 | .s i=>(ρ[i]?).join
 | .u x=>some x
def zi2(K:PySem.W.Frag)(ρ:En)(σ:St)(H H':Hp)(v:V):Ar->Prop
 | .s i=>σ[i]?=some (some v)/\∃ u,ρ[i]?=some (some u)
 | .u x=>Rp K H' v x/\Nw H v x
abbrev ME:=En->Option (Ar×En)
abbrev MA:=En->Option (List Ar×En)
abbrev MT:=En->Option (Bool×En)
def VE(K:PySem.W.Frag)(t:TE)(m:ME):Prop :=
 ∀ (ρ:En) (σ:St) (H:Hp) (a:Ar) (ρ':En) (Q:VK),Rs K ρ σ H->m ρ=some (a,ρ')->(∀ v H',Go K ρ σ H ρ' H'->zi2 K ρ' σ H H' v a->Q v H')->t σ H Q
def VT(K:PySem.W.Frag)(t:TT)(m:MT):Prop :=
 ∀ (ρ:En) (σ:St) (H:Hp) (b:Bool) (ρ':En) (Q:Bool->Hp->Prop),Rs K ρ σ H->m ρ=some (b,ρ')->(∀ H',Go K ρ σ H ρ' H'->Q b H')->t σ H Q
structure ArS (K:PySem.W.Frag) (ρ:En) (σ:St) (H H':Hp) (vs:List V) (as:List Ar):Prop where
 len:vs.length=as.length
 ar:∀ (i:Nat) (a:Ar),as[i]?=some a->∃ v,vs[i]?=some v/\zi2 K ρ σ H H' v a
 ap:∀ (i j:Nat) (x y:U),as[i]?=some (.u x)->as[j]?=some (.u y)->x.own=true->y.own=true->vs[i]?=vs[j]?->i=j
def VAs(K:PySem.W.Frag)(t:TA)(m:MA):Prop :=
 ∀ (ρ:En) (σ:St) (H:Hp) (as:List Ar) (ρ':En) (Q:List V->Hp->Prop),Rs K ρ σ H->m ρ=some (as,ρ')->(∀ vs H',Go K ρ σ H ρ' H'->ArS K ρ' σ H H' vs as->Q vs H')->t σ H Q
section
variable {K:PySem.W.Frag} {ρ ρ' ρ'':En} {σ:St} {H H' H'':Hp} {v:V} {a:Ar} {u:U}
theorem Nw.mono(n:Nw H' v u)(h:∀ a,H' a=none->H a=none):Nw H v u:=fun o=>let ⟨a,e,q⟩:=n o; ⟨a,e,h a q⟩
theorem Nw.out'(r:Rs K ρ σ H)(g:Go K ρ σ H ρ' H')(n:Nw H v u):u.own=true->∃ a,v=.ref a/\¬Ow ρ' σ a:=fun o=>by
 obtain⟨b,e,q⟩:=n.out r o
 exact⟨b,e,fun z=>q (g.shr.ow z)⟩
theorem zi2.later(r:Rs K ρ σ H)(g1:Go K ρ σ H ρ' H')(g2:Go K ρ' σ H' ρ'' H'')(h:zi2 K ρ' σ H H' v a)(e:a.get ρ''=some u):Rp K H'' v u:=by
 cases a with
 | s i =>
  obtain⟨es,_⟩:=h
  have e':ρ''[i]?=some (some u):=by
   cases q:ρ''[i]? with
   | none=>rw [show Ar.get ρ'' (.s i)=(ρ''[i]?).join from rfl,q]at e; cases e
   | some o =>
    rw [show Ar.get ρ'' (.s i)=(ρ''[i]?).join from rfl,q]at e
    cases o with
    | none=>cases e
    | some x=>cases e; rfl
  obtain⟨w,ew,p⟩:=g2.rs.rep i u e'
  rw [es]at ew
  cases ew
  exact p
 | u x =>
  cases(show some x=some u from e)
  exact g2.stay g1.rs h.1 (h.2.out' r g1)
theorem zi2.now(r:Rs K ρ σ H)(g1:Go K ρ σ H ρ' H')(h:zi2 K ρ' σ H H' v a)(e:a.get ρ'=some u):Rp K H' v u:=h.later r g1 (Go.refl g1.rs) e
theorem Nw.data{x:D}:Nw H v (.d x):=fun o=>by cases o
def ze(i:Nat):ME:=fun ρ=>match ρ[i]? with
 | some (some _)=>some (.s i,ρ)
 | _=>none
theorem zf(i:Nat):VE K (zf7 i) (ze i):=by
 intro ρ σ H a ρ' Q r e q
 unfold ze at e
 split at e
 ·rename_i u eu
  cases e
  obtain⟨v,ev,p⟩:=r.rep i u eu
  exact⟨v,ev,q v H (Go.refl r) ⟨ev,u,eu⟩⟩
 ·cases e
def mC(x:D):ME:=fun ρ=>some (.u (.d x),ρ)
theorem v_c{c:V}{x:D}(h:∀ H,DF K H c x):VE K (tC c) (mC x):=by
 intro ρ σ H a ρ' Q r e q
 cases e
 exact q _ _ (Go.refl r) ⟨h H,Nw.data⟩
theorem zq{n:Int}:VE K (tC (.int n)) (mC (.int n)):=v_c fun _=>.int n
theorem zN{n:Str}:VE K (tC (.str n)) (mC (.str n)):=v_c fun _=>.str n
theorem ztk{n:Bool}:VE K (tC (.bl n)) (mC (.bool n)):=v_c fun _=>.bl n
theorem zv0:VE K (tC .non) (mC .none):=v_c fun _=>.non
def VO(K:PySem.W.Frag)(r:R2)(f:U->U->Option U):Prop :=
 ∀ (x y:V) (a b u:U) (H:Hp) (Q:VK),Rp K H x a->Rp K H y b->f a b=some u->(∀ v H',zbE H H'->Rp K H' v u->Nw H v u->Q v H')->r x y H Q
def mOp(f:U->U->Option U)(ma mb:ME):ME:=fun ρ=>(ma ρ).bind fun p=>(mb p.2).bind fun q=>(p.1.get q.2).bind fun x=>(q.1.get q.2).bind fun y=>(f x y).bind fun u=>some (.u u,q.2)
theorem bind_some{α β:Type}{o:Option α}{f:α->Option β}{b:β}(h:o.bind f=some b):∃ a,o=some a/\f a=some b:=Option.bind_eq_some_iff.mp h
theorem zr{r:R2}{f:U->U->Option U}{ta tb:TE}{ma mb:ME}(h:VO K r f)(ha:VE K ta ma)(hb:VE K tb mb):VE K (tOp r ta tb) (mOp f ma mb):=by
 intro ρ σ H a ρ' Q rs e q
 obtain⟨⟨a1,ρ1⟩,e1,e⟩:=bind_some e
 obtain⟨⟨b1,ρ2⟩,e2,e⟩:=bind_some e
 obtain⟨x,ex,e⟩:=bind_some e
 obtain⟨y,ey,e⟩:=bind_some e
 obtain⟨u,eu,e⟩:=bind_some e
 cases e
 refine ha ρ σ H a1 ρ1 _ rs e1 fun v1 H1 g1 k1=>hb ρ1 σ H1 b1 ρ2 _ g1.rs e2 fun v2 H2 g2 k2=>?_
 refine h _ _ x y u H2 _ (k1.later rs g1 g2 ex) (k2.now g1.rs g2 ey) eu fun v H3 s p n=>?_
 exact q v H3 ((g1.trans g2).trans (Go.grow g2.rs s)) ⟨p,n.mono (g1.trans g2).dm⟩
def VU(K:PySem.W.Frag)(r:V->Hp->VK->Prop)(f:U->Option U):Prop :=
 ∀ (x:V) (a u:U) (H:Hp) (Q:VK),Rp K H x a->f a=some u->(∀ v H',zbE H H'->Rp K H' v u->Nw H v u->Q v H')->r x H Q
def mUn(f:U->Option U)(ma:ME):ME:=fun ρ=>(ma ρ).bind fun p=>(p.1.get p.2).bind fun x=>(f x).bind fun u=>some (.u u,p.2)
theorem zi3{r:V->Hp->VK->Prop}{f:U->Option U}{ta:TE}{ma:ME}(h:VU K r f)(ha:VE K ta ma):VE K (tUn r ta) (mUn f ma):=by
 intro ρ σ H a ρ' Q rs e q
 obtain⟨⟨a1,ρ1⟩,e1,e⟩:=bind_some e
 obtain⟨x,ex,e⟩:=bind_some e
 obtain⟨u,eu,e⟩:=bind_some e
 cases e
 refine ha ρ σ H a1 ρ1 _ rs e1 fun v1 H1 g1 k1=>?_
 refine h _ x u H1 _ (k1.now rs g1 ex) eu fun v H3 s p n=>?_
 exact q v H3 (g1.trans (Go.grow g1.rs s)) ⟨p,n.mono g1.dm⟩
def zm:MA:=fun ρ=>some ([],ρ)
def zb(me:ME)(ma:MA):MA:=fun ρ=>(me ρ).bind fun p=>(ma p.2).bind fun q=>some (p.1::q.1,q.2)
theorem zn:VAs K zgY zm:=by
 intro ρ σ H as ρ' Q r e q
 cases e
 exact q [] H (Go.refl r) ⟨rfl,fun i a e=>by simp at e,fun i j x y e=>by simp at e⟩
theorem zd{te:TE}{t:TA}{me:ME}{ma:MA}(he:VE K te me)(ha:VAs K t ma):VAs K (zcN te t) (zb me ma):=by
 intro ρ σ H as ρ' Q r e q
 obtain⟨⟨a1,ρ1⟩,e1,e⟩:=bind_some e
 obtain⟨⟨as2,ρ2⟩,e2,e⟩:=bind_some e
 cases e
 refine he ρ σ H a1 ρ1 _ r e1 fun v1 H1 g1 k1=>ha ρ1 σ H1 as2 _ _ g1.rs e2 fun vs H2 g2 s2=>?_
 have own1:∀ x,a1=.u x->x.own=true->∃ b c,v1=.ref b/\H1 b=some c:=fun x ea o=>by
  subst ea
  obtain⟨b,c,eb,hb,_⟩:=k1.1.own o
  exact⟨b,c,eb,hb⟩
 have oth:∀ (j:Nat) (y:U),as2[j]?=some (.u y)->y.own=true->∃ b,vs[j]?=some (.ref b)/\H1 b=none:=fun j y ej o=>by
  obtain⟨v,ev,k⟩:=s2.ar j _ ej
  obtain⟨b,eb,hb⟩:=k.2 o
  subst eb
  exact⟨b,ev,hb⟩
 have ne:∀ (x:U) (j:Nat) (y:U),a1=.u x->x.own=true->as2[j]?=some (.u y)->y.own=true->some v1≠vs[j]?:=fun x j y ea ox ej oy z=>by
  obtain⟨b,c,e1,h1⟩:=own1 x ea ox
  obtain⟨b',e2,h2⟩:=oth j y ej oy
  rw [e2,e1]at z
  cases z
  rw [h1]at h2
  cases h2
 refine q (v1::vs) H2 (g1.trans g2) ⟨by simp [s2.len],fun i a ei=>?_,fun i j x y ei ej ox oy ev=>?_⟩
 ·cases i with
  | zero =>
   cases(show some a1=some a from ei)
   refine⟨v1,rfl,?_⟩
   cases a1 with
   | s k =>
    obtain⟨es,w,ew⟩:=k1
    exact⟨es,g2.shr.live k w ew⟩
   | u x=>exact⟨g2.stay g1.rs k1.1 (k1.2.out' r g1),k1.2⟩
  | succ i =>
   obtain⟨v,ev,k⟩:=s2.ar i a ei
   refine⟨v,ev,?_⟩
   cases a with
   | s k'=>exact k
   | u x=>exact⟨k.1,k.2.mono g1.dm⟩
 ·cases i with
  | zero =>
   cases j with
   | zero=>rfl
   | succ j=>exact absurd ev (ne x j y (Option.some.inj ei) ox ej oy)
  | succ i =>
   cases j with
   | zero=>exact absurd ev.symm (ne y i x (Option.some.inj ej) oy ei ox)
   | succ j=>exact congrArg (·+1) (s2.ap i j x y ei ej ox oy ev)
end
end L2
namespace L2
open PySem PySem.Spec PyProof.Rows
open Classical in
noncomputable def fIC(c:Int->Int->Prop)(g:Int->Int->D):U->U->Option U
 | .d (.int i),.d (.int j)=>if c i j then some (.d (g i j))else none
 | _,_=>none
def fI(g:Int->Int->D):U->U->Option U
 | .d (.int i),.d (.int j)=>some (.d (g i j))
 | _,_=>none
section
variable {K:PySem.W.Frag}
theorem DF.int_inv{H:Hp}{v:V}{i:Int}(h:DF K H v (.int i)):v=.int i:=by cases h; rfl
theorem DF.str_inv{H:Hp}{v:V}{x:Str}(h:DF K H v (.str x)):v=.str x:=by cases h; rfl
theorem DF.bl_inv{H:Hp}{v:V}{b:Bool}(h:DF K H v (.bool b)):v=.bl b:=by cases h; rfl
theorem DF.tup_inv{H:Hp}{v:V}{ds:List D}(h:DF K H v (.tuple ds)):∃ a xs,v=.ref a/\H a=some (.tup xs)/\DFs K H xs ds:=by cases h with | tup h t=>exact⟨_,_,rfl,h,t⟩
theorem DF.lst_inv{H:Hp}{v:V}{ds:List D}(h:DF K H v (.list ds)):∃ a xs,v=.ref a/\PL K H a xs/\DFs K H xs ds:=by cases h with | lst h t=>exact⟨_,_,rfl,h,t⟩
theorem DF.dct_inv{H:Hp}{v:V}{ds:List (D×D)}(h:DF K H v (.dict ds))(nx:noX ds=true):∃ a o ws,v=.ref a/\H a=some (.frz o (.dT ws))/\DFt K H ws ds:=by
 cases h with
 | dct h t=>exact⟨_,_,_,rfl,h,t⟩
 | exc h n t=>cases nx
theorem zhy{c:Int->Int->Prop}{g:Int->Int->V}{gd:Int->Int->D}(h:∀ i j H,DF K H (g i j) (gd i j)):VO K (rI c g) (fIC c gd):=by
 intro x y a b u H Q ha hb e q
 unfold fIC at e
 split at e
 ·rename_i i j
  split at e
  ·rename_i hc
   cases e
   exact⟨i,j,DF.int_inv ha,DF.int_inv hb,hc,q _ _ (fun _ _ z=>z) (h i j H) Nw.data⟩
  ·cases e
 ·cases e
theorem znj{g:Int->Int->V}{gd:Int->Int->D}(h:∀ i j H,DF K H (g i j) (gd i j)):VO K (rI0 g) (fI gd):=by
 intro x y a b u H Q ha hb e q
 unfold fI at e
 split at e
 ·rename_i i j
  cases e
  exact⟨i,j,DF.int_inv ha,DF.int_inv hb,q _ _ (fun _ _ z=>z) (h i j H) Nw.data⟩
 ·cases e
def za3:=fI fun i j=>.int (i+j)
def zd1:=fI fun i j=>.int (i - j)
noncomputable def zdC:=fIC zlQ fun i j=>.int (i * j)
noncomputable def zdV:=fIC (fun _ j=>0 < j) fun i j=>.int (i % j)
noncomputable def zcZ:=fIC zeO fun i j=>.int (i / j)
noncomputable def zk2:=fIC zht fun i j=>.int (i.fdiv j)
noncomputable def znk:=fIC zpj fun i j=>.int (i^j.toNat)
def fLt:=fI fun i j=>.bool (decide (i < j))
def fGt:=fI fun i j=>.bool (decide (j < i))
def fGe:=fI fun i j=>.bool (decide (j<=i))
theorem zaI:VO K (rI0 fun i j=>.int (i+j)) za3:=znj fun i j H=>.int _
theorem zcB:VO K (rI0 fun i j=>.int (i - j)) zd1:=znj fun i j H=>.int _
theorem zc6:VO K (rI zlQ fun i j=>.int (i * j)) zdC:=zhy fun i j H=>.int _
theorem zcQ:VO K (rI (fun _ j=>0 < j) fun i j=>.int (i % j)) zdV:=zhy fun i j H=>.int _
theorem zcj:VO K (rI zeO fun i j=>.int (i / j)) zcZ:=zhy fun i j H=>.int _
theorem zk3:VO K (rI zht fun i j=>.int (i.fdiv j)) zk2:=zhy fun i j H=>.int _
theorem ztl:VO K (rI zpj fun i j=>.int (i^j.toNat)) znk:=zhy fun i j H=>.int _
theorem zgn:VO K (rI0 fun i j=>.bl (decide (i < j))) fLt:=znj fun i j H=>.bl _
theorem zhz:VO K (rI0 fun i j=>.bl (decide (j < i))) fGt:=znj fun i j H=>.bl _
theorem zv1:VO K (rI0 fun i j=>.bl (decide (j<=i))) fGe:=znj fun i j H=>.bl _
def zgo:U->Option U
 | .d (.int i)=>some (.d (.int (-i)))
 | _=>none
theorem zfh:VU K (rU fun i=>.int (-i)) zgo:=by
 intro x a u H Q ha e q
 unfold zgo at e
 split at e
 ·rename_i i
  cases e
  exact⟨i,DF.int_inv ha,q _ _ (fun _ _ z=>z) (.int _) Nw.data⟩
 ·cases e
def U.py:U->Option D
 | .d x=>some x
 | .l xs=>some (.list xs)
 | _=>none
mutual
theorem DF.dv{H:Hp}:∀ {v:V} {d:D},DF K H v d->d.hasDict=false->DV K H v d
 | _,_,.non,_=>.non
 | _,_,.bl b,_=>.bl b
 | _,_,.int i,_=>.int i
 | _,_,.str x,_=>.str x
 | _,_,.tup h t,q=>.tup (SqT.of h) (DFs.dv t (by simpa [PyData.hasDict] using q))
 | _,_,.lst h t,q=>.lst h.sq (DFs.dv t (by simpa [PyData.hasDict] using q))
 | _,_,.dct h t,q=>by simp [PyData.hasDict]at q
 | _,_,.exc h n t,q=>by simp [PyData.hasDict]at q
theorem DFs.dv{H:Hp}:∀ {v:List V} {d:List D},DFs K H v d->PyData.hasDictAll d=false->DVs K H v d
 | _,_,.nil,_=>.nil
 | _,_,.cons h t,q=>by
  simp only [PyData.hasDictAll,Bool.or_eq_false_iff]at q
  exact .cons (DF.dv h q.1) (DFs.dv t q.2)
end
theorem Rp.dv{H:Hp}{v:V}{u:U}{x:D}(h:Rp K H v u)(e:u.py=some x)(q:x.hasDict=false):DV K H v x:=by
 cases u with
 | d y=>cases e; exact DF.dv h q
 | l xs =>
  cases e
  obtain⟨a,us,rfl,h1,h2⟩:=h
  exact .lst (SqL.of h1) (DFs.dv h2 (by simpa [PyData.hasDict] using q))
 | t=>cases e
 | k=>cases e
mutual
theorem zeA:∀ (x:D),x.canLay0=true->x.hasDict=false
 | .none,_=>rfl
 | .bool _,_=>rfl
 | .int _,_=>rfl
 | .str _,_=>rfl
 | .list xs,h=>by simp only [PyData.hasDict]; exact hasDictAll_of xs (by simpa [PyData.canLay0] using h)
 | .tuple xs,h=>by simp only [PyData.hasDict]; exact hasDictAll_of xs (by simpa [PyData.canLay0] using h)
 | .dict _,h=>by simp [PyData.canLay0]at h
theorem hasDictAll_of:∀ (xs:List D),PyData.canLayAll0 xs=true->PyData.hasDictAll xs=false
 | [],_=>rfl
 | x::xs,h=>by
  simp only [PyData.canLayAll0,Bool.and_eq_true]at h
  simp only [PyData.hasDictAll,zeA x h.1,hasDictAll_of xs h.2]
  rfl
end
def zv2(K:PySem.W.Frag)(neg:Bool):R2:=fun x y H Q=>∃ a b,DV K H x a/\DV K H y b/\SeqAt.shaped a=true/\SeqAt.shaped b=true/\Q (.bl (if neg=true then !PyData.eqv a b else PyData.eqv a b)) H
theorem ztm{X:Cx}(K:PySem.W.Frag)(hK:X.K=K){k:Nat}(hr:Room k X.A):OpR X (compareOp .Eq) (zv2 K false):=by
 subst hK
 intro pins s σ H x y v u Q I rx ry h
 obtain⟨a,b,da,db,sa,sb,q⟩:=h
 obtain⟨as,ra⟩:=DV.reads I da rx
 obtain⟨bs,rb⟩:=DV.reads I db ry
 exact SeqAt.compareEq_shaped ra rb sa sb hr.units ⟨.bl _,H,I,rfl,q⟩
def zv3(neg:Bool)(a b:U):Option U:=a.py.bind fun x=>b.py.bind fun y=>if SeqAt.shaped x=true/\SeqAt.shaped y=true then some (.d (.bool (if neg=true then !PyData.eqv x y else PyData.eqv x y)))else none
theorem DFs.atI{H:Hp}{xs:List V}{ds:List D}{i:Int}{d:D}(h:DFs K H xs ds)(e:L2.atI ds i=some d):∃ v,L2.atI xs i=some v/\DF K H v d:=by
 unfold L2.atI at e ⊢
 obtain⟨j,ej,e⟩:=bind_some e
 obtain⟨v,ev,k⟩:=h.get e
 refine⟨v,?_,k⟩
 rw [h.len,ej]
 exact ev
def zaS:U->U->Option U
 | .l ds,.d (.int i)=>(atI ds i).map .d
 | .d (.list ds),.d (.int i)=>(atI ds i).map .d
 | _,_=>none
def zJ:U->U->Option U
 | .d (.tuple ds),.d (.int i)=>(atI ds i).map .d
 | _,_=>none
theorem zaL:VO K (zsP K) zaS:=by
 intro x y a b u H Q ha hb e q
 unfold zaS at e
 split at e
 ·rename_i ds i
  obtain⟨d,ed,rfl⟩:=Option.map_eq_some_iff.mp e
  obtain⟨p,us,rfl,h1,h2⟩:=ha
  obtain⟨v,ev,k⟩:=h2.atI ed
  exact⟨p,us,i,v,rfl,DF.int_inv hb,SqL.of h1,ev,q _ _ (fun _ _ z=>z) k Nw.data⟩
 ·rename_i ds i
  obtain⟨d,ed,rfl⟩:=Option.map_eq_some_iff.mp e
  obtain⟨p,us,rfl,h1,h2⟩:=DF.lst_inv ha
  obtain⟨v,ev,k⟩:=h2.atI ed
  exact⟨p,us,i,v,rfl,DF.int_inv hb,h1.sq,ev,q _ _ (fun _ _ z=>z) k Nw.data⟩
 ·cases e
theorem zy:VO K (zsQ K) zJ:=by
 intro x y a b u H Q ha hb e q
 unfold zJ at e
 split at e
 ·rename_i ds i
  obtain⟨d,ed,rfl⟩:=Option.map_eq_some_iff.mp e
  obtain⟨p,us,rfl,h1,h2⟩:=DF.tup_inv ha
  obtain⟨v,ev,k⟩:=h2.atI ed
  exact⟨p,us,i,v,rfl,DF.int_inv hb,SqT.of h1,ev,q _ _ (fun _ _ z=>z) k Nw.data⟩
 ·cases e
def znl:U->U->Option U
 | .l xs,.l ys=>if xs.length+ys.length<=sizeLine then some (.l (xs++ys))else none
 | _,_=>none
theorem ztn:VO K zvI znl:=by
 intro x y a b u H Q ha hb e q
 unfold znl at e
 split at e
 ·split at e
  ·rename_i xs ys hz
   cases e
   obtain⟨p,us,rfl,h1,h2⟩:=ha
   obtain⟨p',us',rfl,h1',h2'⟩:=hb
   refine⟨p,p',us,us',rfl,rfl,h1,h1',by rw [h2.len,h2'.len]; exact hz,fun r hr=>?_⟩
   have s:=zaJ hr (.lst (us++us'))
   exact q _ _ s ⟨r,_,rfl,zG,(h2.app h2').kp s.kp⟩ fun _=>⟨r,rfl,hr⟩
  ·cases e
 ·cases e
end
end L2
namespace L2
open PySem PySem.Spec PyProof.Rows
section
variable {K:PySem.W.Frag} {ρ ρ':En} {σ:St} {H H':Hp}
theorem zc7{a:Addr}{c:HO}(h:H a=some c)(m:Mo c)(o:HO):Kp H (upd H a o):=by
 refine⟨fun b xs e=>?_,fun b ob u e=>?_⟩
 ·rw [zD (zhg e h (by rintro rfl; exact m))]; exact e
 ·rw [zD (zhg e h (by rintro rfl; exact m))]; exact e
theorem Go.own{i:Nat}{u u':U}{a:Addr}{o:HO}(r:Rs K ρ σ H)(e:ρ[i]?=some (some u))(ou:u.own=true)(es:σ[i]?=some (some (.ref a)))(p:Rp K (upd H a o) (.ref a) u'):Go K ρ σ H (ρ.set i (some u')) (upd H a o):=by
 have hi:i < ρ.length:=(List.getElem?_eq_some_iff.mp e).1
 obtain⟨c,hc,mc⟩:=r.ow ⟨i,u,e,ou,es⟩
 have kp:=zc7 hc mc o
 refine⟨⟨by rw [List.length_set]; exact r.len,fun j w ej=>?_,fun j k w w' ej ek oj ok es'=>?_⟩,fun b ob hb n=>?_,⟨List.length_set,fun j w ej oj=>?_,fun j w ej=>?_⟩,fun b hb=>?_⟩
 ·by_cases hj:i=j
  ·subst hj
   rw [List.getElem?_set_self hi]at ej
   cases ej
   exact⟨_,es,p⟩
  ·rw [List.getElem?_set_ne hj]at ej
   obtain⟨v,ev,q⟩:=r.rep j w ej
   refine⟨v,ev,q.kp kp fun ow b c' eb hb=>?_⟩
   have ne:b≠a:=by
    rintro rfl
    exact hj (r.apart i j u w e ej ou ow (by rw [es,ev,eb]))
   rw [zD ne]
   exact hb
 ·have own:∀ (j:Nat) (w:U),(ρ.set i (some u'))[j]?=some (some w)->w.own=true->∃ w',ρ[j]?=some (some w')/\w'.own=true:=fun j w ej oj=>by
   by_cases hj:i=j
   ·subst hj; exact⟨u,e,ou⟩
   ·rw [List.getElem?_set_ne hj]at ej; exact⟨w,ej,oj⟩
  obtain⟨x,ex,ox⟩:=own j w ej oj
  obtain⟨y,ey,oy⟩:=own k w' ek ok
  exact r.apart j k x y ex ey ox oy es'
 ·have ne:b≠a:=by
   rintro rfl
   exact n ⟨i,u,e,ou,es⟩
  rw [zD ne]
  exact hb
 ·by_cases hj:i=j
  ·subst hj; exact⟨u,e,ou⟩
  ·rw [List.getElem?_set_ne hj]at ej; exact⟨w,ej,oj⟩
 ·by_cases hj:i=j
  ·subst hj; exact⟨u',List.getElem?_set_self hi⟩
  ·exact⟨w,by rw [List.getElem?_set_ne hj]; exact ej⟩
 ·by_cases hb':b=a
  ·subst hb'; rw [zG]at hb; cases hb
  ·rw [zD hb']at hb; exact hb
theorem Rp.own_ref{v:V}{u:U}(h:Rp K H v u)(o:u.own=true):∃ a,v=.ref a:=let ⟨a,_,e,_⟩:=h.own o; ⟨a,e⟩
def Fz(K:PySem.W.Frag)(H:Hp)(v:V)(H':Hp):Prop :=
 (∃ a xs o,v=.ref a/\K.lookup a=none/\H a=some (.lst xs)/\H'=upd H a (.frz o (.lst xs)))\/(∃ a xs o,v=.ref a/\K.lookup a=none/\H a=some (.dT xs)/\H'=upd H a (.frz o (.dT xs))) \/
  ((∀ a,v=.ref a->(∀ xs,H a≠some (.lst xs))/\∀ xs,H a≠some (.dT xs))/\H'=H)
def tFz(K:PySem.W.Frag)(t:TE):TE:=fun σ H Q=>t σ H fun v H1=>∀ H2,Fz K H1 v H2->Q v H2
theorem Inv.freezeL{X:Cx}{pins:List (Addr×Obj)}{s:Shared}{a:Addr}{xs:List V}(I:Inv X pins σ H s)(e:H a=some (.lst xs)):∃ o,s.heap.get? a=some o/\Inv X pins σ (upd H a (.frz o (.lst xs))) s:=by
 have ok:=(show zaN X.prog X.w H s.heap a (.lst xs) from I.hok a _ e)
 obtain⟨z,its,n,r,h1⟩:=id ok
 refine⟨_,h1,?_⟩
 have ok2:zaN X.prog X.w (upd H a (.frz { cls:=.type "list",data:=.seq its.toArray n } (.lst xs))) s.heap a (.lst xs):=⟨z,its,n,r,h1⟩
 exact I.write (t':=s.toks) (h':=s.heap) (by rw [e]; trivial) (.inl rfl) (fun _ _ _ q=>q) ⟨_,h1⟩ ⟨h1,ok2⟩
theorem zv4{X:Cx}{e:Expr}{t:TE}(h:PE X e t):PE X e (tFz X.K t):=by
 intro pins s σ H Q I q
 refine thn (h pins s σ H _ I q) fun u s1 ⟨v,H1,I1,r,k⟩=>?_
 have nk:∀ a c,H1 a=some c->X.K.lookup a=none:=fun a c ea=>by
  cases q:X.K.lookup a with
  | none=>rfl
  | some o=>rw [(I1.bs a o (I1.ok.mod.kin a o q)).2]at ea; cases ea
 by_cases c1:∃ a xs,v=.ref a/\H1 a=some (.lst xs)
 ·obtain⟨a,xs,ev,ea⟩:=c1
  obtain⟨o,_,I2⟩:=I1.freezeL ea
  exact⟨v,_,I2,r,k _ (.inl ⟨a,xs,o,ev,nk a _ ea,ea,rfl⟩)⟩
 ·by_cases c2:∃ a xs,v=.ref a/\H1 a=some (.dT xs)
  ·obtain⟨a,xs,ev,ea⟩:=c2
   obtain⟨o,_,I2⟩:=I1.freeze ea
   exact⟨v,_,I2,r,k _ (.inr (.inl ⟨a,xs,o,ev,nk a _ ea,ea,rfl⟩))⟩
  ·exact⟨v,H1,I1,r,k _ (.inr (.inr ⟨fun a ev=>⟨fun xs z=>c1 ⟨a,xs,ev,z⟩,fun xs z=>c2 ⟨a,xs,ev,z⟩⟩,rfl⟩))⟩
theorem zes{X:Cx}{e:Expr}{t:TE}(K:PySem.W.Frag)(hK:X.K=K)(h:Wr (PE X e t)):Wr (PE X e (tFz K t)):=hK▸⟨zv4 h.run⟩
def U.fz:U->Option D
 | .d x=>some x
 | .l xs=>some (.list xs)
 | .t kvs=>some (.dict (kvs.map fun p=>(kTD p.1,p.2)))
 | .k _=>none
def mFz(me:ME):ME:=fun ρ=>(me ρ).bind fun p=>(p.1.get p.2).bind fun u=>u.fz.bind fun x=>some (.u (.d x),match p.1 with | .s i=>p.2.set i (some (.d x)) | .u _=>p.2)
theorem zto{ws:List (List Key×V)}{kvs:List (List Key×D)}(h:KVd K H ws kvs):DFt K H ws (kvs.map fun p=>(kTD p.1,p.2)):=by
 induction h with
 | nil=>exact .nil
 | @cons p q ps qs hq t ih =>
  obtain⟨k,v⟩:=p
  obtain⟨k',d⟩:=q
  obtain⟨e,hd⟩:=hq
  cases(show k=k' from e)
  exact .cons hd ih
theorem Fz.rp{v:V}{u:U}{x:D}(h:Fz K H v H')(p:Rp K H v u)(e:u.fz=some x):DF K H' v x/\(u.own=false->H'=H)/\(u.own=true->∃ a o,v=.ref a/\H'=upd H a o):=by
 cases u with
 | d y =>
  cases e
  have k:H'=H:=by
   rcases h with ⟨a,xs,o,rfl,nk,ea,_⟩ | ⟨a,xs,o,rfl,nk,ea,_⟩ | ⟨_,rfl⟩
   ·exfalso
    cases(show DF K H _ _ from p)with
    | tup h _=>rw [ea]at h; cases h
    | lst h _ =>
     rcases h with ⟨o,h⟩ | ⟨ob,its,n,hk,_⟩
     ·rw [ea]at h; cases h
     ·rw [nk]at hk; cases hk
    | dct h _=>rw [ea]at h; cases h
    | exc h _ _=>obtain⟨_,h,_⟩:=h; rw [ea]at h; cases h
   ·exfalso
    cases(show DF K H _ _ from p)with
    | tup h _=>rw [ea]at h; cases h
    | lst h _ =>
     rcases h with ⟨o,h⟩ | ⟨ob,its,n,hk,_⟩
     ·rw [ea]at h; cases h
     ·rw [nk]at hk; cases hk
    | dct h _=>rw [ea]at h; cases h
    | exc h _ _=>obtain⟨_,h,_⟩:=h; rw [ea]at h; cases h
   ·rfl
  subst k
  exact⟨p,fun _=>rfl,fun z=>by cases z⟩
 | l xs =>
  cases e
  obtain⟨a,us,rfl,ea,ds⟩:=p
  rcases h with ⟨a',xs',o,ev,_,ea',rfl⟩ | ⟨a',xs',o,ev,_,ea',_⟩ | ⟨z,_⟩
  ·cases ev
   rw [ea]at ea'
   cases ea'
   exact⟨.lst (.inl ⟨o,zG⟩) (ds.kp (zc7 ea trivial _)),(fun z=>by cases z),fun _=>⟨a,_,rfl,rfl⟩⟩
  ·cases ev
   rw [ea]at ea'
   cases ea'
  ·exact absurd ea ((z a rfl).1 us)
 | t xs =>
  cases e
  obtain⟨a,us,rfl,ea,ds⟩:=p
  rcases h with ⟨a',xs',o,ev,_,ea',_⟩ | ⟨a',xs',o,ev,_,ea',rfl⟩ | ⟨z,_⟩
  ·cases ev
   rw [ea]at ea'
   cases ea'
  ·cases ev
   rw [ea]at ea'
   cases ea'
   exact⟨.dct zG (zto (ds.kp (zc7 ea trivial _))),(fun z=>by cases z),fun _=>⟨a,_,rfl,rfl⟩⟩
  ·exact absurd ea ((z a rfl).2 us)
 | k xs=>cases e
theorem zet{t:TE}{m:ME}(h:VE K t m):VE K (tFz K t) (mFz m):=by
 intro ρ σ H a ρ' Q r e q
 obtain⟨⟨b,ρ1⟩,e1,e⟩:=bind_some e
 obtain⟨u,eu,e⟩:=bind_some e
 obtain⟨x,ex,e⟩:=bind_some e
 cases e
 refine h ρ σ H b ρ1 _ r e1 fun v H1 g1 k1=>fun H2 fz=>?_
 have p:=k1.now r g1 eu
 obtain⟨d,f1,f2⟩:=fz.rp p ex
 cases b with
 | s i =>
  have ei:ρ1[i]?=some (some u):=by
   have z:(ρ1[i]?).join=some u:=eu
   cases q:ρ1[i]? with
   | none=>rw [q]at z; cases z
   | some o=>rw [q]at z; cases o with
    | none=>cases z
    | some w=>cases z; rfl
  have hi:i < ρ1.length:=(List.getElem?_eq_some_iff.mp ei).1
  by_cases ou:u.own=true
  ·obtain⟨a,o,rfl,rfl⟩:=f2 ou
   exact q _ _ (g1.trans (Go.own (u':=.d x) g1.rs ei ou k1.1 d)) ⟨d,Nw.data⟩
  ·have ou':u.own=false:=by simpa using ou
   cases f1 ou'
   cases u with
   | d y =>
    cases ex
    have es:ρ1.set i (some (.d x))=ρ1:=by
     apply List.ext_getElem?
     intro j
     by_cases hj:i=j
     ·subst hj; rw [List.getElem?_set_self hi,ei]
     ·rw [List.getElem?_set_ne hj]
    show Q v H1
    refine q v H1 ?_ ⟨d,Nw.data⟩
    show Go K ρ σ H (ρ1.set i (some (.d x))) H1
    rw [es]
    exact g1
   | l=>cases ou'
   | t=>cases ou'
   | k=>cases ou'
 | u w =>
  cases(show some w=some u from eu)
  by_cases ou:u.own=true
  ·obtain⟨a,o,rfl,rfl⟩:=f2 ou
   obtain⟨a',ea',na'⟩:=k1.2 ou
   cases ea'
   obtain⟨c,hc,mc⟩:∃ c,H1 a=some c/\Mo c:=by
    obtain⟨b,c,eb,hb,m⟩:=p.own ou
    cases eb
    exact⟨c,hb,m⟩
   have nw:¬Ow ρ1 σ a:=by
    obtain⟨b,eb,nb⟩:=k1.2.out' r g1 ou
    cases eb
    exact nb
   have kp:=zc7 hc mc o
   refine q _ _ ⟨⟨g1.rs.len,fun j y ej=>?_,g1.rs.apart⟩,fun b ob hb n=>?_,g1.shr,fun b hb=>?_⟩ ⟨d,Nw.data⟩
   ·obtain⟨v,ev,p'⟩:=g1.rs.rep j y ej
    refine⟨v,ev,p'.kp kp fun oy b c' eb hb=>?_⟩
    have ne:b≠a:=by
     rintro rfl
     subst eb
     exact nw ⟨j,y,ej,oy,ev⟩
    rw [zD ne]
    exact hb
   ·have ne:b≠a:=by
     rintro rfl
     rw [na']at hb
     cases hb
    rw [zD ne]
    exact g1.fr b ob hb n
   ·by_cases hb':b=a
    ·subst hb'; exact na'
    ·rw [zD hb']at hb; exact g1.dm b hb
  ·have ou':u.own=false:=by simpa using ou
   cases f1 ou'
   exact q v H1 g1 ⟨d,Nw.data⟩
end
section
variable {K:PySem.W.Frag} {ρ ρ':En} {σ:St} {H H':Hp}
def zbp(ρ:En):List Ar->Option (List U)
 | []=>some []
 | a::as=>(a.get ρ).bind fun u=>(zbp ρ as).bind fun us=>some (u::us)
def zcv:List U->Option (List D)
 | []=>some []
 | .d x::us=>(zcv us).bind fun xs=>some (x::xs)
 | _::_=>none
def RpL(K:PySem.W.Frag)(H:Hp):List V->List U->Prop:=Paired fun v u=>Rp K H v u
theorem ztp{vs:List V}{as:List Ar}{us:List U}(len:vs.length=as.length)(h:∀ (i:Nat) (a:Ar),as[i]?=some a->∃ v,vs[i]?=some v/\∀ u,a.get ρ=some u->Rp K H v u)(e:zbp ρ as=some us):RpL K H vs us:=by
 induction as generalizing vs us with
 | nil =>
  cases e
  cases vs with
  | nil=>exact .nil
  | cons=>simp at len
 | cons a as ih =>
  obtain⟨u,eu,e⟩:=bind_some e
  obtain⟨us',eus,e⟩:=bind_some e
  cases e
  cases vs with
  | nil=>simp at len
  | cons v vs =>
   obtain⟨v',ev,k⟩:=h 0 a rfl
   cases(show some v=some v' from ev)
   exact .cons (k u eu) (ih (by simpa using len) (fun i b eb=>h (i+1) b eb) eus)
theorem ArS.rpl{vs:List V}{as:List Ar}{us:List U}(r:Rs K ρ σ H)(g:Go K ρ σ H ρ' H')(s:ArS K ρ' σ H H' vs as)(e:zbp ρ' as=some us):RpL K H' vs us :=
 ztp s.len (fun i a ea=>let ⟨v,ev,k⟩:=s.ar i a ea; ⟨v,ev,fun u eu=>k.now r g eu⟩) e
theorem zkb{vs:List V}{us:List U}{ds:List D}(h:RpL K H vs us)(e:zcv us=some ds):DFs K H vs ds:=by
 induction h generalizing ds with
 | nil=>cases e; exact .nil
 | @cons v u vs us hv t ih =>
  cases u with
  | d x =>
   obtain⟨xs,ex,e⟩:=bind_some (show(zcv us).bind (fun xs=>some (x::xs))=some ds from e)
   cases e
   exact .cons hv (ih ex)
  | l=>cases e
  | t=>cases e
  | k=>cases e
def zY(ma:MA):ME:=fun ρ=>(ma ρ).bind fun p=>(zbp p.2 p.1).bind fun us=>(zcv us).bind fun ds=>if ds.length<=sizeLine then some (.u (.d (.tuple ds)),p.2)else none
def zbq(ma:MA):ME:=fun ρ=>(ma ρ).bind fun p=>(zbp p.2 p.1).bind fun us=>(zcv us).bind fun ds=>if ds.length<=sizeLine then some (.u (.l ds),p.2)else none
theorem zae{t:TA}{m:MA}(h:VAs K t m):VE K (zpp t) (zY m):=by
 intro ρ σ H a ρ' Q r e q
 obtain⟨⟨as,ρ1⟩,e1,e⟩:=bind_some e
 obtain⟨us,eu,e⟩:=bind_some e
 obtain⟨ds,ed,e⟩:=bind_some e
 split at e
 ·rename_i hz
  cases e
  refine h ρ σ H as _ _ r e1 fun vs H1 g1 s1=>?_
  have dd:=zkb (s1.rpl r g1 eu) ed
  refine⟨by rw [dd.len]; exact hz,fun p hp=>?_⟩
  have sm:=zaJ hp (.tup vs)
  exact q _ _ (g1.trans (Go.grow g1.rs sm)) ⟨.tup zG (dd.kp sm.kp),Nw.data⟩
 ·cases e
theorem zbZ{t:TA}{m:MA}(h:VAs K t m):VE K (zsJ t) (zbq m):=by
 intro ρ σ H a ρ' Q r e q
 obtain⟨⟨as,ρ1⟩,e1,e⟩:=bind_some e
 obtain⟨us,eu,e⟩:=bind_some e
 obtain⟨ds,ed,e⟩:=bind_some e
 split at e
 ·rename_i hz
  cases e
  refine h ρ σ H as _ _ r e1 fun vs H1 g1 s1=>?_
  have dd:=zkb (s1.rpl r g1 eu) ed
  refine⟨by rw [dd.len]; exact hz,fun p hp=>?_⟩
  have sm:=zaJ hp (.lst vs)
  exact q _ _ (g1.trans (Go.grow g1.rs sm)) ⟨⟨p,_,rfl,zG,dd.kp sm.kp⟩,fun _=>⟨p,rfl,g1.dm p hp⟩⟩
 ·cases e
def VC(K:PySem.W.Frag)(r:List V->Hp->VK->Prop)(f:List U->Option U):Prop :=
 ∀ (vs:List V) (us:List U) (u:U) (H:Hp) (Q:VK),RpL K H vs us->f us=some u->(∀ v H',zbE H H'->Rp K H' v u->Nw H v u->Q v H')->r vs H Q
def mCB(f:List U->Option U)(ma:MA):ME:=fun ρ=>(ma ρ).bind fun p=>(zbp p.2 p.1).bind fun us=>(f us).bind fun u=>some (.u u,p.2)
theorem zbr{r:List V->Hp->VK->Prop}{f:List U->Option U}{t:TA}{m:MA}(hc:VC K r f)(h:VAs K t m):VE K (tCB r t) (mCB f m):=by
 intro ρ σ H a ρ' Q rs e q
 obtain⟨⟨as,ρ1⟩,e1,e⟩:=bind_some e
 obtain⟨us,eu,e⟩:=bind_some e
 obtain⟨u,ef,e⟩:=bind_some e
 cases e
 refine h ρ σ H as _ _ rs e1 fun vs H1 g1 s1=>hc vs us u H1 _ (s1.rpl rs g1 eu) ef fun v H2 s p n=>?_
 exact q v H2 (g1.trans (Go.grow g1.rs s)) ⟨p,n.mono g1.dm⟩
def f1(f:U->Option U):List U->Option U
 | [u]=>f u
 | _=>none
theorem zkc{r:List V->Hp->VK->Prop}{f:U->Option U}(h:∀ (v:V) (a u:U) (H:Hp) (Q:VK),Rp K H v a->f a=some u->(∀ v H',zbE H H'->Rp K H' v u->Nw H v u->Q v H')->r [v] H Q):VC K r (f1 f):=by
 intro vs us u H Q hr e q
 cases hr with
 | nil=>cases e
 | cons h1 t =>
  cases t with
  | nil=>exact h _ _ _ _ _ h1 e q
  | cons=>cases e
def U.items:U->Option (List D)
 | .d (.tuple xs)=>some xs
 | .d (.list xs)=>some xs
 | .l xs=>some xs
 | _=>none
theorem Rp.items{v:V}{u:U}{xs:List D}(h:Rp K H v u)(e:u.items=some xs):∃ p ys,v=.ref p/\(SqL K H p ys\/SqT K H p ys)/\DFs K H ys xs:=by
 cases u with
 | d x =>
  cases x with
  | tuple ds=>cases e; obtain⟨a,ys,rfl,h1,h2⟩:=DF.tup_inv h; exact⟨a,ys,rfl,.inr (SqT.of h1),h2⟩
  | list ds=>cases e; obtain⟨a,ys,rfl,h1,h2⟩:=DF.lst_inv h; exact⟨a,ys,rfl,.inl h1.sq,h2⟩
  | _=>cases e
 | l ds=>cases e; obtain⟨a,ys,rfl,h1,h2⟩:=h; exact⟨a,ys,rfl,.inl (SqL.of h1),h2⟩
 | t=>cases e
 | k=>cases e
def zbF(u:U):Option U:=u.items.map fun xs=>.d (.int xs.length)
theorem zb1:VC K (zvQ K) (f1 zbF):=zkc fun v a u H Q h e q=>by
 obtain⟨xs,ex,rfl⟩:=Option.map_eq_some_iff.mp e
 obtain⟨p,ys,rfl,s,d⟩:=h.items ex
 exact⟨p,ys,rfl,s,q _ _ (fun _ _ z=>z) (by rw [d.len]; exact .int _) Nw.data⟩
def zcC(u:U):Option U:=u.items.map fun xs=>.d (.tuple xs)
theorem zcw:VC K (ziY K) (f1 zcC):=zkc fun v a u H Q h e q=>by
 obtain⟨xs,ex,rfl⟩:=Option.map_eq_some_iff.mp e
 cases a with
 | d x =>
  cases x with
  | tuple ds =>
   cases ex
   obtain⟨a,ys,rfl,h1,h2⟩:=DF.tup_inv h
   exact⟨a,ys,rfl,.inr ⟨SqT.of h1,q _ _ (fun _ _ z=>z) (.tup h1 h2) Nw.data⟩⟩
  | list ds =>
   cases ex
   obtain⟨a,ys,rfl,h1,h2⟩:=DF.lst_inv h
   refine⟨a,ys,rfl,.inl ⟨h1.sq,fun l hl=>?_⟩⟩
   have sm:=zaJ hl (.tup ys)
   exact q _ _ sm (.tup zG (h2.kp sm.kp)) Nw.data
  | _=>cases ex
 | l ds =>
  cases ex
  obtain⟨a,ys,rfl,h1,h2⟩:=h
  refine⟨a,ys,rfl,.inl ⟨SqL.of h1,fun l hl=>?_⟩⟩
  have sm:=zaJ hl (.tup ys)
  exact q _ _ sm (.tup zG (h2.kp sm.kp)) Nw.data
 | t=>cases ex
 | k=>cases ex
def zi4:U->Option U
 | .d (.int i)=>some (.d (.int (if i < 0 then -i else i)))
 | _=>none
theorem zgp:VC K (fun xs H Q=>∃ i,xs=[.int i]/\Q (.int (if i < 0 then -i else i)) H) (f1 zi4):=zkc fun v a u H Q h e q=>by
 unfold zi4 at e
 split at e
 ·rename_i i
  cases e
  cases DF.int_inv h
  exact⟨i,rfl,q _ _ (fun _ _ z=>z) (.int _) Nw.data⟩
 ·cases e
def zeT:U->Option U
 | .d (.int i)=>some (.d (.int i))
 | .d (.bool k)=>some (.d (.int (if k then 1 else 0)))
 | _=>none
theorem zh6:VC K (fun xs H Q=>(∃ i,xs=[.int i]/\Q (.int i) H)\/∃ k,xs=[.bl k]/\Q (.int (if k then 1 else 0)) H) (f1 zeT):=zkc fun v a u H Q h e q=>by
 unfold zeT at e
 split at e
 ·rename_i i
  cases e
  cases DF.int_inv h
  exact .inl ⟨i,rfl,q _ _ (fun _ _ z=>z) (.int _) Nw.data⟩
 ·rename_i i
  cases e
  cases DF.bl_inv h
  exact .inr ⟨i,rfl,q _ _ (fun _ _ z=>z) (.int _) Nw.data⟩
 ·cases e
def zi5:List U->Option U
 | [.d (.int i),.d (.int j)]=>some (.d (.int (if j > i then j else i)))
 | _=>none
theorem zpP:VC K (fun xs H Q=>∃ i j,xs=[.int i,.int j]/\Q (.int (if j > i then j else i)) H) zi5:=by
 intro vs us u H Q hr e q
 unfold zi5 at e
 split at e
 ·rename_i i j
  cases e
  cases hr with
  | cons h1 t =>
   cases t with
   | cons h2 t =>
    cases t
    cases DF.int_inv h1
    cases DF.int_inv h2
    exact⟨i,j,rfl,q _ _ (fun _ _ z=>z) (.int _) Nw.data⟩
 ·cases e
def znm:List D->Option (List Int)
 | []=>some []
 | .int i::xs=>(znm xs).bind fun is=>some (i::is)
 | _::_=>none
def zc0(u:U):Option U:=u.py.bind fun x=>if x.hasDict=false/\x.showable=true/\x.shown.length<=sizeLine/\x.depth<=60 then some (.d (.str x.shown))else none
theorem zfP:VC K (zm6 K) (f1 zc0):=zkc fun v a u H Q h e q=>by
 obtain⟨x,ex,e⟩:=bind_some e
 split at e
 ·rename_i hc
  cases e
  exact⟨v,x,rfl,h.dv ex hc.1,hc.2.1,hc.2.2.1,hc.2.2.2,q _ _ (fun _ _ z=>z) (.str _) Nw.data⟩
 ·cases e
def mB(me:ME):MT:=fun ρ=>(me ρ).bind fun p=>(p.1.get p.2).bind fun u=>match u with | .d (.bool b)=>some (b,p.2) | _=>none
theorem zma{t:TE}{m:ME}(h:VE K t m):VT K (tB t) (mB m):=by
 intro ρ σ H b ρ' Q r e q
 obtain⟨⟨a,ρ1⟩,e1,e⟩:=bind_some e
 obtain⟨u,eu,e⟩:=bind_some e
 split at e
 ·cases e
  refine h ρ σ H a _ _ r e1 fun v H1 g1 k1=>?_
  exact⟨_,DF.bl_inv (k1.now r g1 eu),q _ g1⟩
 ·cases e
theorem zF{t:TE}{m:ME}(h:VE K t m):VT K (zmJ t) (mB m):=zma h
def zdm(ma mb:MT):MT:=fun ρ=>(ma ρ).bind fun p=>if p.1=true then mb p.2 else some (false,p.2)
def mOr(ma mb:MT):MT:=fun ρ=>(ma ρ).bind fun p=>if p.1=true then some (true,p.2)else mb p.2
def zpQ(ma:MT):MT:=fun ρ=>(ma ρ).bind fun p=>some (!p.1,p.2)
theorem zdD{ta tb:TT}{ma mb:MT}(ha:VT K ta ma)(hb:VT K tb mb):VT K (zsj ta tb) (zdm ma mb):=by
 intro ρ σ H b ρ' Q r e q
 obtain⟨⟨c,ρ1⟩,e1,e⟩:=bind_some e
 refine ha ρ σ H c ρ1 _ r e1 fun H1 g1=>?_
 dsimp only at e
 split at e
 ·rename_i hc
  rw [if_pos hc]
  exact hb ρ1 σ H1 b ρ' _ g1.rs e fun H2 g2=>q H2 (g1.trans g2)
 ·rename_i hc
  rw [if_neg hc]
  cases e
  exact q H1 g1
theorem zk4{ta tb:TT}{ma mb:MT}(ha:VT K ta ma)(hb:VT K tb mb):VT K (tOr ta tb) (mOr ma mb):=by
 intro ρ σ H b ρ' Q r e q
 obtain⟨⟨c,ρ1⟩,e1,e⟩:=bind_some e
 refine ha ρ σ H c ρ1 _ r e1 fun H1 g1=>?_
 dsimp only at e
 split at e
 ·rename_i hc
  rw [if_pos hc]
  cases e
  exact q H1 g1
 ·rename_i hc
  rw [if_neg hc]
  exact hb ρ1 σ H1 b ρ' _ g1.rs e fun H2 g2=>q H2 (g1.trans g2)
theorem ztq{ta:TT}{ma:MT}(ha:VT K ta ma):VT K (zsk ta) (zpQ ma):=by
 intro ρ σ H b ρ' Q r e q
 obtain⟨⟨c,ρ1⟩,e1,e⟩:=bind_some e
 cases e
 exact ha ρ σ H c _ _ r e1 fun H1 g1=>q H1 g1
def U.tru:U->Option Bool
 | .d .none=>some false
 | .d (.bool b)=>some b
 | .d (.int i)=>some (i != 0)
 | .d (.str x)=>if x.length<=sizeLine then some ((x.length:Int) != 0)else none
 | .d (.tuple xs)=>some (!xs.isEmpty)
 | .d (.list xs)=>some (!xs.isEmpty)
 | .l xs=>some (!xs.isEmpty)
 | _=>none
theorem zd2{ys:List V}{xs:List D}(h:DFs K H ys xs):(!xs.isEmpty)=!ys.isEmpty:=by cases h<;>rfl
def zpR(ma:ME):MT:=fun ρ=>(ma ρ).bind fun p=>(p.1.get p.2).bind fun u=>u.tru.bind fun b=>some (b,p.2)
theorem ztr{ta:TE}{ma:ME}(ha:VE K ta ma):VT K (zvP K ta) (zpR ma):=by
 intro ρ σ H b ρ' Q r e q
 obtain⟨⟨a,ρ1⟩,e1,e⟩:=bind_some e
 obtain⟨u,eu,e⟩:=bind_some e
 obtain⟨c,ec,e⟩:=bind_some e
 cases e
 refine ha ρ σ H a _ _ r e1 fun v H1 g1 k1=>⟨_,?_,q _ g1⟩
 have p:=k1.now r g1 eu
 cases u with
 | d x =>
  cases(show DF K H1 v x from p)with
  | non=>cases ec; rfl
  | bl=>cases ec; rfl
  | int=>cases ec; rfl
  | str x =>
   unfold U.tru at ec
   dsimp only at ec
   split at ec
   ·cases ec; exact⟨by assumption,rfl⟩
   ·cases ec
  | tup h t=>cases ec; exact .inr (.inl ⟨_,SqT.of h,zd2 t⟩)
  | lst h t=>cases ec; exact .inl ⟨_,h.sq,zd2 t⟩
  | dct=>cases ec
  | exc=>cases ec
 | l xs=>cases ec; obtain⟨a,us,rfl,h1,h2⟩:=p; exact .inl ⟨_,SqL.of h1,zd2 h2⟩
 | t=>cases ec
 | k=>cases ec
end
section
variable {K:PySem.W.Frag} {ρ ρ':En} {σ:St} {H H':Hp}
abbrev FD:=List U->Option (U×List U)
def sm(xs:List U):En:=xs.map some
def smV(vs:List V):St:=vs.map some
def spV(K:PySem.W.Frag)(n:Nat)(f:FD):Sp:=fun vs H Q _=>∃ us r outs,us.length=n/\Rs K (sm us) (smV vs) H/\f us=some (r,outs) /\
 ∀ v H',Go K (sm us) (smV vs) H (sm outs) H'->Rp K H' v r->Nw H v r->Q v H'
def wb:En->List Ar->List U->En
 | ρ,.s j::as,o::os=>wb (ρ.set j (some o)) as os
 | ρ,.u _::as,_::os=>wb ρ as os
 | ρ,_,_=>ρ
def zdE(ρ:En):List Ar->Bool
 | []=>true
 | .s j::as=>(match ρ[j]? with | some (some u)=>!u.own || !(as.any fun a=>match a with | .s k=>decide (k=j) | _=>false) | _=>true) && zdE ρ as
 | .u _::as=>zdE ρ as
def zx(f:FD)(ma:MA):ME:=fun ρ=>(ma ρ).bind fun p=>if zdE p.2 p.1=true then(zbp p.2 p.1).bind fun us=>(f us).bind fun o=>some (.u o.1,wb p.2 p.1 o.2)else none
theorem zdn:∀ {as:List Ar} {us:List U},zbp ρ as=some us->us.length=as.length
 | [],us,e=>by cases e; rfl
 | a::as,us,e=>by
  obtain⟨u,eu,e⟩:=bind_some e
  obtain⟨us',eus,e⟩:=bind_some e
  cases e
  simp [zdn eus]
theorem zk5:∀ {as:List Ar} {us:List U} {i:Nat} {a:Ar},zbp ρ as=some us->as[i]?=some a->∃ u,us[i]?=some u/\a.get ρ=some u
 | [],us,i,a,e,ea=>by simp at ea
 | b::as,us,i,a,e,ea=>by
  obtain⟨u,eu,e⟩:=bind_some e
  obtain⟨us',eus,e⟩:=bind_some e
  cases e
  cases i with
  | zero=>cases(show some b=some a from ea); exact⟨u,rfl,eu⟩
  | succ i=>exact zk5 (i:=i) eus ea
theorem zgq:∀ {as:List Ar} {us:List U} {i:Nat} {u:U},zbp ρ as=some us->us[i]?=some u->∃ a,as[i]?=some a/\a.get ρ=some u:=fun{as us i u} e eu=>by
 have hi:i < as.length:=by rw [<-zdn e]; exact(List.getElem?_eq_some_iff.mp eu).1
 obtain⟨u',e1,e2⟩:=zk5 e (List.getElem?_eq_getElem hi)
 rw [eu]at e1
 cases e1
 exact⟨_,List.getElem?_eq_getElem hi,e2⟩
theorem zrR{j:Nat}{u:U}(e:Ar.get ρ (.s j)=some u):ρ[j]?=some (some u):=by
 have z:(ρ[j]?).join=some u:=e
 cases q:ρ[j]? with
 | none=>rw [q]at z; cases z
 | some o =>
  rw [q]at z
  cases o with
  | none=>cases z
  | some w=>cases z; rfl
theorem zk6:∀ {as:List Ar} {p q j:Nat} {u:U},zdE ρ as=true->as[p]?=some (.s j)->as[q]?=some (.s j)->ρ[j]?=some (some u)->u.own=true->p=q
 | [],p,q,j,u,_,e,_,_,_=>by simp at e
 | a::as,p,q,j,u,d,ep,eq,ej,ou=>by
  have dd:zdE ρ as=true:=by
   cases a with
   | s k=>unfold zdE at d; rw [Bool.and_eq_true]at d; exact d.2
   | u=>exact d
  have nope:∀ {q':Nat},a=.s j->as[q']?=some (.s j)->False:=fun{q'} ea eq'=>by
   subst ea
   unfold zdE at d
   rw [Bool.and_eq_true,ej]at d
   have d1:=d.1
   dsimp only at d1
   rw [ou]at d1
   have m:(as.any fun a=>match a with | .s k=>decide (k=j) | _=>false)=true:=List.any_eq_true.mpr ⟨.s j,List.mem_of_getElem? eq',by simp⟩
   rw [m]at d1
   cases d1
  cases p with
  | zero =>
   cases q with
   | zero=>rfl
   | succ q=>exact(nope (Option.some.inj ep) eq).elim
  | succ p =>
   cases q with
   | zero=>exact(nope (Option.some.inj eq) ep).elim
   | succ q=>exact congrArg (·+1) (zk6 dd ep eq ej ou)
theorem zck{us:List U}{i:Nat}{u:U}:(sm us)[i]?=some (some u)↔us[i]?=some u:=by
 unfold sm
 rw [List.getElem?_map]
 cases us[i]?<;>simp
theorem zfi{vs:List V}{i:Nat}{v:V}:(smV vs)[i]?=some (some v)↔vs[i]?=some v:=by
 unfold smV
 rw [List.getElem?_map]
 cases vs[i]?<;>simp
theorem zk7:∀ {as:List Ar} {os:List U} {ρ:En} {j:Nat} {w:U},(wb ρ as os)[j]?=some (some w)->as.length=os.length->(∃ p:Nat,as[p]?=some (Ar.s j)/\os[p]?=some w)\/(ρ[j]?=some (some w)/\∀ p:Nat,as[p]?≠some (Ar.s j))
 | [],os,ρ,j,w,e,_=>.inr ⟨by cases os<;>exact e,fun p z=>by simp at z⟩
 | a::as,[],ρ,j,w,e,l=>by simp at l
 | .u x::as,o::os,ρ,j,w,e,l=>by
  rcases zk7 (as:=as) (os:=os) (ρ:=ρ) (show(wb ρ as os)[j]?=some (some w) from e) (by simpa using l)with ⟨p,h1,h2⟩ | ⟨h1,h2⟩
  ·exact .inl ⟨p+1,h1,h2⟩
  ·refine .inr ⟨h1,fun p z=>?_⟩
   cases p with
   | zero=>cases(show some (Ar.u x)=some (.s j) from z)
   | succ p=>exact h2 p z
 | .s k::as,o::os,ρ,j,w,e,l=>by
  rcases zk7 (as:=as) (os:=os) (ρ:=ρ.set k (some o)) (show(wb (ρ.set k (some o)) as os)[j]?=some (some w) from e) (by simpa using l)with ⟨p,h1,h2⟩ | ⟨h1,h2⟩
  ·exact .inl ⟨p+1,h1,h2⟩
  ·by_cases hk:k=j
   ·subst hk
    have hl:k < (ρ.set k (some o)).length:=(List.getElem?_eq_some_iff.mp h1).1
    rw [List.length_set]at hl
    rw [List.getElem?_set_self hl]at h1
    exact .inl ⟨0,rfl,by cases h1; rfl⟩
   ·rw [List.getElem?_set_ne hk]at h1
    refine .inr ⟨h1,fun p z=>?_⟩
    cases p with
    | zero=>cases(show some (Ar.s k)=some (.s j) from z); exact hk rfl
    | succ p=>exact h2 p z
theorem zh7:∀ (ρ:En) (as:List Ar) (os:List U),(wb ρ as os).length=ρ.length
 | ρ,[],os=>by cases os<;>rfl
 | ρ,.s k::as,[]=>rfl
 | ρ,.u k::as,[]=>rfl
 | ρ,.s k::as,o::os=>by show(wb (ρ.set k (some o)) as os).length=_; rw [zh7]; exact List.length_set
 | ρ,.u k::as,o::os=>zh7 ρ as os
theorem zfQ:∀ {as:List Ar} {os:List U} {ρ:En} {j:Nat} {w:U},ρ[j]?=some (some w)->∃ w',(wb ρ as os)[j]?=some (some w')
 | [],os,ρ,j,w,e=>⟨w,by cases os<;>exact e⟩
 | .s k::as,[],ρ,j,w,e=>⟨w,e⟩
 | .u k::as,[],ρ,j,w,e=>⟨w,e⟩
 | .u k::as,o::os,ρ,j,w,e=>zfQ (as:=as) (os:=os) e
 | .s k::as,o::os,ρ,j,w,e=>by
  by_cases hk:k=j
  ·subst hk
   exact zfQ (as:=as) (os:=os) (w:=o) (List.getElem?_set_self (List.getElem?_eq_some_iff.mp e).1)
  ·exact zfQ (as:=as) (os:=os) (w:=w) (by rw [List.getElem?_set_ne hk]; exact e)
theorem zkd{as:List Ar}{us:List U}{vs:List V}{ρ1:En}{H1:Hp}(rs:Rs K ρ σ H)(g1:Go K ρ σ H ρ1 H1)(s1:ArS K ρ1 σ H H1 vs as)(dj:zdE ρ1 as=true)(eu:zbp ρ1 as=some us) :
  Rs K (sm us) (smV vs) H1/\∀ (outs:List U) (H2:Hp),Go K (sm us) (smV vs) H1 (sm outs) H2->Go K ρ σ H (wb ρ1 as outs) H2:=by
 have rp:=s1.rpl rs g1 eu
 have lus:=zdn eu
 have lvs:=s1.len
 have adr:∀ (i:Nat) (u:U),us[i]?=some u->u.own=true->∃ b,vs[i]?=some (.ref b)/\((∃ j,as[i]?=some (.s j)/\σ[j]?=some (some (.ref b))/\ρ1[j]?=some (some u))\/(as[i]?=some (.u u)/\H b=none)):=fun i u ei ou=>by
  obtain⟨a,ea,eg⟩:=zgq eu ei
  obtain⟨v,ev,k⟩:=s1.ar i a ea
  have p:=k.now rs g1 eg
  obtain⟨b,rfl⟩:=p.own_ref ou
  refine⟨b,ev,?_⟩
  cases a with
  | s j=>exact .inl ⟨j,ea,k.1,zrR eg⟩
  | u x =>
   cases(show some x=some u from eg)
   obtain⟨b',eb,hb⟩:=k.2 ou
   cases eb
   exact .inr ⟨ea,hb⟩
 have apart:∀ (i j:Nat) (u w:U),us[i]?=some u->us[j]?=some w->u.own=true->w.own=true->vs[i]?=vs[j]?->i=j:=fun i j u w ei ej ou ow ev=>by
  obtain⟨b,vb,hb⟩:=adr i u ei ou
  obtain⟨c,vc,hc⟩:=adr j w ej ow
  have bc:b=c:=by rw [vb,vc]at ev; cases ev; rfl
  subst bc
  rcases hb with ⟨x,ax,sx,rx⟩ | ⟨ax,nx⟩
  ·rcases hc with ⟨y,ay,sy,ry⟩ | ⟨ay,ny⟩
   ·have xy:x=y:=g1.rs.apart x y u w rx ry ou ow (by rw [sx,sy])
    subst xy
    exact zk6 dj ax ay rx ou
   ·exfalso
    obtain⟨w',ew',ow'⟩:=g1.shr.own x u rx ou
    obtain⟨c',hc',_⟩:=rs.ow ⟨x,w',ew',ow',sx⟩
    rw [ny]at hc'
    cases hc'
  ·rcases hc with ⟨y,ay,sy,ry⟩ | ⟨ay,ny⟩
   ·exfalso
    obtain⟨w',ew',ow'⟩:=g1.shr.own y w ry ow
    obtain⟨c',hc',_⟩:=rs.ow ⟨y,w',ew',ow',sy⟩
    rw [nx]at hc'
    cases hc'
   ·exact s1.ap i j u w ax ay ou ow ev
 have rsA:Rs K (sm us) (smV vs) H1:=by
  refine⟨by unfold sm smV; rw [List.length_map,List.length_map]; omega,fun i u ei=>?_,fun i j u w ei ej ou ow ev=>?_⟩
  ·have ei':=zck.mp ei
   obtain⟨a,ea,eg⟩:=zgq eu ei'
   obtain⟨v,ev,k⟩:=s1.ar i a ea
   exact⟨v,zfi.mpr ev,k.now rs g1 eg⟩
  ·have ei':=zck.mp ei
   have ej':=zck.mp ej
   refine apart i j u w ei' ej' ou ow ?_
   obtain⟨b,vb,_⟩:=adr i u ei' ou
   obtain⟨c,vc,_⟩:=adr j w ej' ow
   rw [zfi.mpr vb,zfi.mpr vc]at ev
   rw [vb,vc]
   exact Option.some.inj ev
 refine⟨rsA,fun outs H2 g2=>?_⟩
 have lo:outs.length=us.length:=by have:=g2.shr.len; unfold sm at this; simpa using this
 have kp2:=g2.kp rsA
 have owA:∀ b,Ow (sm us) (smV vs) b->Ow ρ1 σ b\/H b=none:=fun b ⟨i,u,ei,ou,es⟩=>by
  obtain⟨c,vc,hc⟩:=adr i u (zck.mp ei) ou
  rw [zfi.mp es]at vc
  cases vc
  rcases hc with ⟨j,_,sj,rj⟩ | ⟨_,nb⟩
  ·exact .inl ⟨j,u,rj,ou,sj⟩
  ·exact .inr nb
 have outsAt:∀ (i:Nat) (w:U),outs[i]?=some w->∃ x,vs[i]?=some x/\Rp K H2 x w:=fun i w ei=>by
  obtain⟨x,ex,px⟩:=g2.rs.rep i w (zck.mpr ei)
  exact⟨x,zfi.mp ex,px⟩
 have lao:as.length=outs.length:=by omega
 have ownBack:∀ (j:Nat) (w:U),(wb ρ1 as outs)[j]?=some (some w)->w.own=true->∃ w',ρ1[j]?=some (some w')/\w'.own=true:=fun j w ej ow=>by
  rcases zk7 ej lao with ⟨p,ap,op⟩ | ⟨h1,_⟩
  ·obtain⟨w',ew',ow'⟩:=g2.shr.own p w (zck.mpr op) ow
   obtain⟨a,ea,eg⟩:=zgq eu (zck.mp ew')
   rw [ap]at ea
   cases ea
   exact⟨w',zrR eg,ow'⟩
  ·exact⟨w,h1,ow⟩
 refine⟨⟨by rw [zh7]; exact g1.rs.len,fun j w ej=>?_,fun i j u w ei ej ou ow es=>?_⟩,fun b ob hb nb=>?_,?_,fun b hb=>g1.dm b (g2.dm b hb)⟩
 ·rcases zk7 ej lao with ⟨p,ap,op⟩ | ⟨h1,h2⟩
  ·obtain⟨x,vx,px⟩:=outsAt p w op
   obtain⟨v',ev',k'⟩:=s1.ar p _ ap
   rw [vx]at ev'
   cases ev'
   exact⟨x,k'.1,px⟩
  ·obtain⟨x,ex,px⟩:=g1.rs.rep j w h1
   refine⟨x,ex,px.kp kp2 fun ow b c eb hb=>?_⟩
   refine g2.fr b c hb fun⟨i,u,ei,ou,es⟩=>?_
   obtain⟨c',vc',hc'⟩:=adr i u (zck.mp ei) ou
   rw [zfi.mp es]at vc'
   cases vc'
   subst eb
   rcases hc' with ⟨k,ak,sk,rk⟩ | ⟨_,nb⟩
   ·have:k=j:=g1.rs.apart k j u w rk h1 ou ow (by rw [sk,ex])
    subst this
    exact h2 i ak
   ·obtain⟨w',ew',ow'⟩:=g1.shr.own j w h1 ow
    obtain⟨c'',hc'',_⟩:=rs.ow ⟨j,w',ew',ow',ex⟩
    rw [nb]at hc''
    cases hc''
 ·obtain⟨x,ex,ox⟩:=ownBack i u ei ou
  obtain⟨y,ey,oy⟩:=ownBack j w ej ow
  exact g1.rs.apart i j x y ex ey ox oy es
 ·refine g2.fr b ob (g1.fr b ob hb nb) fun z=>?_
  rcases owA b z with z | z
  ·exact nb (g1.shr.ow z)
  ·rw [z]at hb; cases hb
 ·refine⟨by rw [zh7]; exact g1.shr.len,fun j w ej ow=>?_,fun j w ej=>?_⟩
  ·obtain⟨x,ex,ox⟩:=ownBack j w ej ow
   exact g1.shr.own j x ex ox
  ·obtain⟨x,ex⟩:=g1.shr.live j w ej
   exact zfQ ex
theorem zC{n:Nat}{f:FD}{t:TA}{m:MA}(h:VAs K t m)(hn:∀ ρ as ρ',m ρ=some (as,ρ')->as.length=n):VE K (zs6 (spV K n f) t) (zx f m):=by
 intro ρ σ H a ρ' Q rs e q
 obtain⟨⟨as,ρ1⟩,e1,e⟩:=bind_some e
 dsimp only at e
 split at e
 ·rename_i dj
  obtain⟨us,eu,e⟩:=bind_some e
  obtain⟨⟨r,outs⟩,ef,e⟩:=bind_some e
  cases e
  refine h ρ σ H as ρ1 _ rs e1 fun vs H1 g1 s1=>?_
  obtain⟨rsA,back⟩:=zkd rs g1 s1 dj eu
  exact⟨us,r,outs,by rw [zdn eu]; exact hn _ _ _ e1,rsA,ef,fun v H2 g2 p n2=>q v H2 (back outs H2 g2) ⟨p,n2.mono g1.dm⟩⟩
 ·cases e
theorem zA:∀ ρ as ρ',zm ρ=some (as,ρ')->as.length=0:=fun ρ as ρ' e=>by cases e; rfl
theorem zj{n:Nat}{me:ME}{ma:MA}(h:∀ ρ as ρ',ma ρ=some (as,ρ')->as.length=n):∀ ρ as ρ',zb me ma ρ=some (as,ρ')->as.length=n+1:=fun ρ as ρ' e=>by
 obtain⟨⟨a1,ρ1⟩,e1,e⟩:=bind_some e
 obtain⟨⟨as2,ρ2⟩,e2,e⟩:=bind_some e
 cases e
 simp [h _ _ _ e2]
end
inductive Fl where
 | nx (ρ:En) | bk (ρ:En) | ct (ρ:En) | rt (u:U) (ρ:En) | ex (x:D) (ρ:En)
def zpS(K:PySem.W.Frag)(H:Hp)(a:Addr)(x:D):Prop:=∃ n C fs ds,x=.dict ((.none,.str n)::ds)/\zh0 H a C fs/\XN K n C/\DFf K H fs ds
structure Sn (K:PySem.W.Frag) (pn:List Nat) (σ₀:St) (A:Addr->Prop) (H₀ H₁:Hp) (ρ:En) (σ:St) (H:Hp):Prop where
 rs:Rs K ρ σ H
 fr:Fr' A H₀ H
 ow:∀ (i:Nat) (u:U) (a:Addr),ρ[i]?=some (some u)->u.own=true->σ[i]?=some (some (.ref a))->(i∈pn/\A a)\/H₀ a=none
 pin:∀ i∈pn,σ[i]?=σ₀[i]?
 dm:∀ a,H a=none->H₀ a=none
 kp:Kp H₁ H
def EX0:EXT:=fun _ _ _=>False
def zxQ(K:PySem.W.Frag)(pn:List Nat)(EX:EXT)(σ₀:St)(A:Addr->Prop)(H₀ H₁:Hp)(D:Ends):Fl->Prop
 | .nx ρ=>∀ σ H,Sn K pn σ₀ A H₀ H₁ ρ σ H->D.nx σ H
 | .bk ρ=>∀ σ H,Sn K pn σ₀ A H₀ H₁ ρ σ H->D.bk σ H
 | .ct ρ=>∀ σ H,Sn K pn σ₀ A H₀ H₁ ρ σ H->D.ct σ H
 | .rt u ρ=>∀ v σ H,Sn K pn σ₀ A H₀ H₁ ρ σ H->Rp K H v u->Nw H₀ v u->D.rt v H
 | .ex x ρ=>∀ a σ H,Sn K pn σ₀ A H₀ H₁ ρ σ H->H₀ a=none->zpS K H a x->EX σ a H
abbrev MS:=En->Option Fl
def VS(K:PySem.W.Frag)(pn:List Nat)(EX:EXT)(t:TS)(m:MS):Prop :=
 ∀ (σ₀:St) (A:Addr->Prop) (H₀ H₁:Hp) (ρ:En) (σ:St) (H:Hp) (f:Fl) (D:Ends),Sn K pn σ₀ A H₀ H₁ ρ σ H->m ρ=some f->zxQ K pn EX σ₀ A H₀ H₁ D f->t D σ H
section
variable {EX:EXT} {K:PySem.W.Frag} {pn:List Nat} {σ₀:St} {A:Addr->Prop} {H₀ H₁ H₂:Hp} {ρ ρ':En} {σ:St} {H H':Hp}
theorem Sn.go(s:Sn K pn σ₀ A H₀ H₁ ρ σ H)(g:Go K ρ σ H ρ' H'):Sn K pn σ₀ A H₀ H₁ ρ' σ H':=by
 refine⟨g.rs,fun a o h n=>g.fr a o (s.fr a o h n) fun⟨i,u,e,ou,es⟩=>?_,fun i u a e o es=>?_,s.pin,fun a h=>s.dm a (g.dm a h),s.kp.trans (g.kp s.rs)⟩
 ·rcases s.ow i u a e ou es with z | z
  ·exact n z.2
  ·rw [z]at h; cases h
 ·obtain⟨w,e',o'⟩:=g.shr.own i u e o
  exact s.ow i w a e' o' es
theorem Sn.re(s:Sn K pn σ₀ A H₀ H₂ ρ σ H)(k:Kp H₁ H₂):Sn K pn σ₀ A H₀ H₁ ρ σ H:=⟨s.rs,s.fr,s.ow,s.pin,s.dm,k.trans s.kp⟩
theorem Sn.at(s:Sn K pn σ₀ A H₀ H₁ ρ σ H):Sn K pn σ₀ A H₀ H ρ σ H:=⟨s.rs,s.fr,s.ow,s.pin,s.dm,Kp.refl H⟩
theorem Sn.set{i:Nat}{v:V}{u:U}(s:Sn K pn σ₀ A H₀ H₁ ρ σ H)(hi:i∉pn)(p:Rp K H v u)(n:u.own=true->∃ a,v=.ref a/\H₀ a=none/\¬Ow ρ σ a):Sn K pn σ₀ A H₀ H₁ (ρ.set i (some u)) (σ.set i (some v)) H:=by
 have ll:=s.rs.len
 have inv:∀ (j:Nat) (w:U),(ρ.set i (some u))[j]?=some (some w)->(j=i/\w=u/\i < ρ.length)\/(j≠i/\ρ[j]?=some (some w)):=fun j w e=>by
  by_cases hj:i=j
  ·subst hj
   have hl:=(List.getElem?_eq_some_iff.mp e).1
   rw [List.length_set]at hl
   rw [List.getElem?_set_self hl]at e
   cases e
   exact .inl ⟨rfl,rfl,hl⟩
  ·rw [List.getElem?_set_ne hj]at e
   exact .inr ⟨Ne.symm hj,e⟩
 have sat:∀ j,j≠i->(σ.set i (some v))[j]?=σ[j]?:=fun j h=>List.getElem?_set_ne (Ne.symm h)
 have sself:i < ρ.length->(σ.set i (some v))[i]?=some (some v):=fun h=>List.getElem?_set_self (by omega)
 refine⟨⟨by rw [List.length_set,List.length_set]; exact ll,fun j w e=>?_,fun j k x y ej ek ox oy es=>?_⟩,s.fr,fun j w a e o es=>?_,fun j hj=>?_,s.dm,s.kp⟩
 ·rcases inv j w e with ⟨rfl,rfl,hl⟩ | ⟨hj,e'⟩
  ·exact⟨v,sself hl,p⟩
  ·rw [sat j hj]
   exact s.rs.rep j w e'
 ·rcases inv j x ej with ⟨rfl,rfl,hl⟩ | ⟨hj,ej'⟩
  ·rcases inv k y ek with ⟨rfl,rfl,_⟩ | ⟨hk,ek'⟩
   ·rfl
   ·exfalso
    obtain⟨a,rfl,_,na⟩:=n ox
    rw [sself hl,sat k hk]at es
    exact na ⟨k,y,ek',oy,es.symm⟩
  ·rcases inv k y ek with ⟨rfl,rfl,hl⟩ | ⟨hk,ek'⟩
   ·exfalso
    obtain⟨a,rfl,_,na⟩:=n oy
    rw [sself hl,sat j hj]at es
    exact na ⟨j,x,ej',ox,es⟩
   ·rw [sat j hj,sat k hk]at es
    exact s.rs.apart j k x y ej' ek' ox oy es
 ·rcases inv j w e with ⟨rfl,rfl,hl⟩ | ⟨hj,e'⟩
  ·rw [sself hl]at es
   cases es
   obtain⟨b,eb,hb,_⟩:=n o
   cases eb
   exact .inr hb
  ·rw [sat j hj]at es
   exact s.ow j w a e' o es
 ·rw [sat j (fun z=>hi (z▸hj))]
  exact s.pin j hj
theorem zi2.own{a:Ar}{v:V}{u:U}(r:Rs K ρ σ H)(g:Go K ρ σ H ρ' H')(k:zi2 K ρ' σ H H' v a)(e:a.get ρ'=some u)(nc:∀ j,a=.s j->u.own=false):Nw H v u/\(u.own=true->∃ b,v=.ref b/\¬Ow ρ' σ b):=by
 cases a with
 | s j=>exact⟨(fun o=>by rw [nc j rfl]at o; cases o),fun o=>by rw [nc j rfl]at o; cases o⟩
 | u x =>
  cases(show some x=some u from e)
  exact⟨k.2,k.2.out' r g⟩
def put(p:Ar×En):Option (U×En):=match p.1 with
 | .s i=>match p.2[i]? with
  | some (some (.d x))=>some (.d x,p.2)
  | _=>none
 | .u u=>some (u,p.2)
theorem znn{a:Ar}{u:U}{ρ1 ρ2:En}(e:put (a,ρ1)=some (u,ρ2)):ρ2=ρ1/\a.get ρ1=some u/\∀ j,a=.s j->u.own=false:=by
 cases a with
 | s i =>
  unfold put at e
  dsimp only at e
  split at e
  ·rename_i x ex
   cases e
   refine⟨rfl,?_,fun _ _=>rfl⟩
   show(ρ1[i]?).join=_
   rw [ex]
   rfl
  ·cases e
 | u x =>
  cases e
  exact⟨rfl,rfl,fun j z=>by cases z⟩
def zK(i:Nat)(me:ME):MS:=fun ρ=>(me ρ).bind fun p=>(put p).bind fun q=>some (.nx (q.2.set i (some q.1)))
theorem zO{i:Nat}{te:TE}{me:ME}(hi:i∉pn)(h:VE K te me):VS K pn EX (zgX te (zcY i)) (zK i me):=by
 intro σ₀ A H₀ H₁ ρ σ H f D s e k
 obtain⟨⟨a,ρ1⟩,e1,e⟩:=bind_some e
 obtain⟨⟨u,ρ2⟩,e2,e3⟩:=bind_some e
 clear e
 obtain⟨rfl,eg,nc⟩:=znn e2
 cases e3
 refine h ρ σ H a ρ2 _ s.rs e1 fun v H1 g1 k1=>?_
 obtain⟨n1,n2⟩:=k1.own s.rs g1 eg nc
 have s1:=s.go g1
 refine k _ _ (s1.set hi (k1.now s.rs g1 eg) fun o=>?_)
 obtain⟨b,rfl,hb⟩:=n2 o
 obtain⟨b',eb,hb'⟩:=n1 o
 cases eb
 exact⟨b,rfl,s.dm b hb',hb⟩
def zv(m1 m2:MS):MS:=fun ρ=>(m1 ρ).bind fun f=>match f with
 | .nx ρ'=>m2 ρ'
 | f=>some f
theorem zw{t1 t2:TS}{m1 m2:MS}(h1:VS K pn EX t1 m1)(h2:VS K pn EX t2 m2):VS K pn EX (zsp t1 t2) (zv m1 m2):=by
 intro σ₀ A H₀ H₁ ρ σ H f D s e k
 obtain⟨f1,e1,e⟩:=bind_some e
 refine h1 σ₀ A H₀ H₁ ρ σ H f1 _ s e1 ?_
 cases f1 with
 | nx ρ1=>exact fun σ1 H1 s1=>h2 σ₀ A H₀ H₁ ρ1 σ1 H1 f D s1 e k
 | bk ρ1=>cases e; exact k
 | ct ρ1=>cases e; exact k
 | rt u ρ1=>cases e; exact k
 | ex x ρ1=>cases e; exact k
def zU:MS:=fun ρ=>some (.nx ρ)
theorem zal:VS K pn EX zmz zU:=fun σ₀ A H₀ H₁ ρ σ H f D s e k=>by cases e; exact k σ H s
def zah(mt:MT)(m1 m2:MS):MS:=fun ρ=>(mt ρ).bind fun p=>if p.1=true then m1 p.2 else m2 p.2
theorem zay{tt:TT}{t1 t2:TS}{mt:MT}{m1 m2:MS}(ht:VT K tt mt)(h1:VS K pn EX t1 m1)(h2:VS K pn EX t2 m2):VS K pn EX (zsr tt t1 t2) (zah mt m1 m2):=by
 intro σ₀ A H₀ H₁ ρ σ H f D s e k
 obtain⟨⟨c,ρ1⟩,e1,e⟩:=bind_some e
 refine ht ρ σ H c ρ1 _ s.rs e1 fun H1 g1=>?_
 dsimp only at e
 split at e
 ·rename_i hc
  rw [if_pos hc]
  exact h1 σ₀ A H₀ H₁ ρ1 σ H1 f D (s.go g1) e k
 ·rename_i hc
  rw [if_neg hc]
  exact h2 σ₀ A H₀ H₁ ρ1 σ H1 f D (s.go g1) e k
theorem zcD{t:TS}{m:MS}(h:VS K pn EX t m):VS K pn EX (zm4 t) m:=by
 intro σ₀ A H₀ H₁ ρ σ H f D s e k
 cases f with
 | nx ρ1=>exact⟨fun σ' H'=>Sn K pn σ₀ A H₀ H₁ ρ1 σ' H',h σ₀ A H₀ H₁ ρ σ H _ _ s e (fun σ' H' s'=>s'),fun σ' H' s'=>k σ' H' s'⟩
 | bk ρ1=>exact⟨D.nx,h σ₀ A H₀ H₁ ρ σ H _ _ s e k,fun _ _ z=>z⟩
 | ct ρ1=>exact⟨D.nx,h σ₀ A H₀ H₁ ρ σ H _ _ s e k,fun _ _ z=>z⟩
 | rt u ρ1=>exact⟨D.nx,h σ₀ A H₀ H₁ ρ σ H _ _ s e k,fun _ _ z=>z⟩
 | ex x ρ1=>exact⟨D.nx,h σ₀ A H₀ H₁ ρ σ H _ _ s e k,fun _ _ z=>z⟩
def za9(me:ME):MS:=fun ρ=>(me ρ).bind fun p=>some (.nx p.2)
theorem zcl{te:TE}{me:ME}(h:VE K te me):VS K pn EX (zmB te) (za9 me):=by
 intro σ₀ A H₀ H₁ ρ σ H f D s e k
 obtain⟨⟨a,ρ1⟩,e1,e⟩:=bind_some e
 cases e
 exact h ρ σ H a _ _ s.rs e1 fun v H1 g1 k1=>k σ H1 (s.go g1)
def zaq(me:ME):MS:=fun ρ=>(me ρ).bind fun p=>(put p).bind fun q=>some (.rt q.1 q.2)
theorem zas{te:TE}{me:ME}(h:VE K te me):VS K pn EX (zpc te) (zaq me):=by
 intro σ₀ A H₀ H₁ ρ σ H f D s e k
 obtain⟨⟨a,ρ1⟩,e1,e⟩:=bind_some e
 obtain⟨⟨u,ρ2⟩,e2,e3⟩:=bind_some e
 clear e
 obtain⟨rfl,eg,nc⟩:=znn e2
 cases e3
 refine h ρ σ H a _ _ s.rs e1 fun v H1 g1 k1=>?_
 obtain⟨n1,n2⟩:=k1.own s.rs g1 eg nc
 exact k v σ H1 (s.go g1) (k1.now s.rs g1 eg) (n1.mono s.dm)
def zd3(pn:List Nat)(i:Nat):MS:=fun ρ=>if i∈pn then none else(match ρ[i]? with
 | some (some u)=>some (.rt u (ρ.set i none))
 | _=>none)
theorem zgr{i:Nat}:VS K pn EX (zpc (zf7 i)) (zd3 pn i):=by
 intro σ₀ A H₀ H₁ ρ σ H f D s e k
 unfold zd3 at e
 split at e
 ·cases e
 rename_i hi
 split at e
 ·rename_i u eu
  cases e
  obtain⟨v,ev,p⟩:=s.rs.rep i u eu
  have back:∀ (j:Nat) (w:U),(ρ.set i none)[j]?=some (some w)->ρ[j]?=some (some w):=fun j w e=>by
   by_cases hj:i=j
   ·subst hj
    have hl:=(List.getElem?_eq_some_iff.mp e).1
    rw [List.length_set]at hl
    rw [List.getElem?_set_self hl]at e
    cases e
   ·rw [List.getElem?_set_ne hj]at e
    exact e
  refine⟨v,ev,k v σ H ⟨⟨by rw [List.length_set]; exact s.rs.len,fun j w e=>s.rs.rep j w (back j w e),fun a b x y ea eb=>s.rs.apart a b x y (back a x ea) (back b y eb)⟩,s.fr,fun j w a e=>s.ow j w a (back j w e),s.pin,s.dm,s.kp⟩ p fun o=>?_⟩
  obtain⟨a,rfl⟩:=p.own_ref o
  rcases s.ow i u a eu o ev with z | z
  ·exact absurd z.1 hi
  ·exact⟨a,rfl,z⟩
 ·cases e
end
section
variable {EX:EXT} {K:PySem.W.Frag} {pn:List Nat} {σ₀:St} {A:Addr->Prop} {H₀ H₁ H₂:Hp} {ρ ρ':En} {σ:St} {H H':Hp}
def zno(K:PySem.W.Frag)(J:It)(H₁:Hp)(ds:List D):Prop:=∀ H,Kp H₁ H->∀ i:Nat,(∀ d,ds[i]?=some d->J.go i H/\∀ x H',J.yld i H x H'->zbE H H'/\DF K H' x d)/\(i=ds.length->J.stop i H)
abbrev MI:=En->Option (List D×En)
def VI(K:PySem.W.Frag)(wi:TI)(mi:MI):Prop :=
 ∀ (ρ:En) (σ:St) (H:Hp) (ds:List D) (ρ':En) (R:It->Hp->Prop),Rs K ρ σ H->mi ρ=some (ds,ρ')->(∀ J H',Go K ρ σ H ρ' H'->zno K J H' ds->R J H')->wi σ H R
def znp:U->Option (List D)
 | .d (.list xs)=>some xs
 | _=>none
def zyr:U->Option (List D)
 | .d (.tuple xs)=>some xs
 | _=>none
def mIt(f:U->Option (List D))(me:ME):MI:=fun ρ=>(me ρ).bind fun p=>(p.1.get p.2).bind fun u=>(f u).bind fun ds=>some (ds,p.2)
theorem zpT{te:TE}{me:ME}(h:VE K te me):VI K (zmF K te) (mIt znp me):=by
 intro ρ σ H ds ρ' R r e q
 obtain⟨⟨a,ρ1⟩,e1,e⟩:=bind_some e
 obtain⟨u,eu,e⟩:=bind_some e
 obtain⟨xs,ex,e⟩:=bind_some e
 cases e
 refine h ρ σ H a _ _ r e1 fun v H1 g1 k1=>?_
 have p:=k1.now r g1 eu
 unfold znp at ex
 split at ex
 ·cases ex
  obtain⟨b,ys,rfl,h1,h2⟩:=DF.lst_inv p
  refine⟨b,rfl,⟨ys,h1.sq⟩,q _ _ g1 fun H2 k i=>⟨fun d ed=>?_,fun ei=>?_⟩⟩
  ·obtain⟨v,ev,dv⟩:=(h2.kp k).get ed
   refine⟨⟨ys,v,(h1.kp k).sq,ev⟩,fun x H' y=>?_⟩
   obtain⟨rfl,y⟩:=y
   have:=y ys (h1.kp k).sq
   rw [ev]at this
   cases this
   exact⟨fun _ _ z=>z,dv⟩
  ·exact⟨ys,(h1.kp k).sq,by rw [h2.len]; omega⟩
 ·cases ex
def zb2(lo:Int)(n:Nat):List D:=(List.range n).map fun i=>.int (lo+(i:Nat))
theorem zbJ(lo:Int)(n:Nat):(zb2 lo n).length=n:=by simp [zb2]
theorem zej{lo:Int}{n i:Nat}{d:D}(h:(zb2 lo n)[i]?=some d):i < n/\d=.int (lo+(i:Nat)):=by
 have hl:=(List.getElem?_eq_some_iff.mp h).1
 rw [zbJ]at hl
 refine⟨hl,?_⟩
 unfold zb2 at h
 rw [List.getElem?_map,List.getElem?_range hl]at h
 cases h
 rfl
theorem zke{lo:Int}{n:Nat}:zno K (Itr lo n) H₁ (zb2 lo n):=fun H k i=>⟨fun d ed=>by
  obtain⟨hi,rfl⟩:=zej ed
  refine⟨hi,fun x H' y=>?_⟩
  obtain⟨rfl,rfl⟩:=y
  exact⟨fun _ _ z=>z,.int _⟩,fun ei=>by rw [zbJ]at ei; exact Nat.le_of_eq ei.symm⟩
def zcm(ma:MA):MI:=fun ρ=>(ma ρ).bind fun p=>(zbp p.2 p.1).bind fun us=>match us with
 | [.d (.int j)]=>if -(2^62)<=j/\j < 2^62 then some (zb2 0 j.toNat,p.2)else none
 | _=>none
theorem zcn{ta:TA}{ma:MA}(h:VAs K ta ma):VI K (zmH ta) (zcm ma):=by
 intro ρ σ H ds ρ' R r e q
 obtain⟨⟨as,ρ1⟩,e1,e⟩:=bind_some e
 obtain⟨us,eu,e⟩:=bind_some e
 refine h ρ σ H as ρ1 _ r e1 fun vs H1 g1 s1=>?_
 have rp:=s1.rpl r g1 eu
 dsimp only at e
 split at e
 ·split at e
  ·rename_i j hc
   cases e
   cases rp with
   | cons h1 t =>
    cases t
    cases DF.int_inv h1
    exact⟨j,rfl,hc.1,hc.2,q _ _ g1 zke⟩
  ·cases e
 ·cases e
def zcx:Nat->List D->List D
 | _,[]=>[]
 | i,d::ds=>.tuple [.int (i:Nat),d]::zcx (i+1) ds
theorem zd4:∀ {ds:List D} {n i:Nat} {d:D},(zcx n ds)[i]?=some d->∃ x,ds[i]?=some x/\d=.tuple [.int ((n+i:Nat):Int),x]
 | [],n,i,d,h=>by simp [zcx]at h
 | x::ds,n,0,d,h=>by cases h; exact⟨x,rfl,rfl⟩
 | x::ds,n,i+1,d,h=>by
  obtain⟨y,ey,ed⟩:=zd4 (ds:=ds) (n:=n+1) (i:=i) h
  exact⟨y,ey,by rw [ed]; congr 3; omega⟩
theorem zdF:∀ (ds:List D) (n:Nat),(zcx n ds).length=ds.length
 | [],_=>rfl
 | _::ds,n=>congrArg (·+1) (zdF ds (n+1))
def zk8(ma:MA):MI:=fun ρ=>(ma ρ).bind fun p=>(zbp p.2 p.1).bind fun us=>match us with
 | [.d (.tuple ds)]=>some (zcx 0 ds,p.2)
 | _=>none
theorem zpU{ta:TA}{ma:MA}(h:VAs K ta ma):VI K (zrO K ta) (zk8 ma):=by
 intro ρ σ H ds ρ' R r e q
 obtain⟨⟨as,ρ1⟩,e1,e⟩:=bind_some e
 obtain⟨us,eu,e⟩:=bind_some e
 refine h ρ σ H as ρ1 _ r e1 fun vs H1 g1 s1=>?_
 have rp:=s1.rpl r g1 eu
 dsimp only at e
 split at e
 ·rename_i xs
  cases e
  cases rp with
  | cons h1 t =>
   cases t
   obtain⟨b,ys,rfl,h1,h2⟩:=DF.tup_inv h1
   refine⟨b,rfl,⟨ys,SqT.of h1⟩,q _ _ g1 fun H2 k i=>⟨fun d ed=>?_,fun ei=>?_⟩⟩
   ·obtain⟨x,ex,rfl⟩:=zd4 ed
    obtain⟨v,ev,dv⟩:=(h2.kp k).get ex
    refine⟨⟨ys,v,SqT.of (k.tup _ _ h1),ev⟩,fun x H' y=>?_⟩
    obtain⟨T,nT,rfl,y⟩:=y
    cases y ys v (SqT.of (k.tup _ _ h1)) ev
    have sm:=zaJ nT (.tup [.int i,v])
    refine⟨sm,.tup zG (.cons ?_ (.cons (dv.kp sm.kp) .nil))⟩
    rw [Nat.zero_add]
    exact .int _
   ·exact⟨ys,SqT.of (k.tup _ _ h1),by rw [zdF]at ei; rw [h2.len]; exact ei.symm⟩
 ·cases e
abbrev MG:=D->En->Option En
def zxR(pn:List Nat)(mg:MG):Prop:=∀ d ρ ρ',mg d ρ=some ρ'->ρ'.length=ρ.length/\∀ i∈pn,ρ'[i]?=ρ[i]?
def zv5(pn:List Nat)(mg:List D->En->Option En):Prop:=∀ ds ρ ρ',mg ds ρ=some ρ'->ρ'.length=ρ.length/\∀ i∈pn,ρ'[i]?=ρ[i]?
structure VGt (K:PySem.W.Frag) (pn:List Nat) (g:TG) (mg:MG):Prop where
 run:∀ (σ₀:St) (A:Addr->Prop) (H₀ H₁:Hp) (ρ:En) (σ:St) (H:Hp) (v:V) (d:D) (ρ':En) (Q:St->Hp->Prop),Sn K pn σ₀ A H₀ H₁ ρ σ H->DF K H v d->mg d ρ=some ρ'->(∀ σ',Sn K pn σ₀ A H₀ H₁ ρ' σ' H->Q σ' H)->g v σ H Q
 ok:zxR pn mg
structure VGs (K:PySem.W.Frag) (pn:List Nat) (g:TGs) (mg:List D->En->Option En):Prop where
 run:∀ (σ₀:St) (A:Addr->Prop) (H₀ H₁:Hp) (ρ:En) (σ:St) (H:Hp) (vs:List V) (ds:List D) (ρ':En) (Q:St->Hp->Prop),Sn K pn σ₀ A H₀ H₁ ρ σ H->DFs K H vs ds->mg ds ρ=some ρ'->(∀ σ',Sn K pn σ₀ A H₀ H₁ ρ' σ' H->Q σ' H)->g vs σ H Q
 ok:zv5 pn mg
def zH(i:Nat):MG:=fun d ρ=>some (ρ.set i (some (.d d)))
theorem zab{i:Nat}(hi:i∉pn):VGt K pn (zcY i) (zH i) where
 run:=by
  intro σ₀ A H₀ H₁ ρ σ H v d ρ' Q s h e q
  cases e
  exact q _ (s.set hi (u:=.d d) h fun o=>by cases o)
 ok:=fun d ρ ρ' e=>by
  cases e
  exact⟨List.length_set,fun j hj=>List.getElem?_set_ne (by rintro rfl; exact hi hj)⟩
def zb0:List D->En->Option En:=fun ds ρ=>match ds with | []=>some ρ | _=>none
def zaf(g:MG)(gs:List D->En->Option En):List D->En->Option En:=fun ds ρ=>match ds with
 | d::ds=>(g d ρ).bind fun ρ1=>gs ds ρ1
 | []=>none
theorem zc8:VGs K pn zpf zb0 where
 run:=by
  intro σ₀ A H₀ H₁ ρ σ H vs ds ρ' Q s h e q
  cases h with
  | nil=>cases e; exact⟨rfl,q σ s⟩
  | cons=>cases e
 ok:=fun ds ρ ρ' e=>by
  cases ds with
  | nil=>cases e; exact⟨rfl,fun _ _=>rfl⟩
  | cons=>cases e
theorem zaW{g:TG}{gs:TGs}{mg:MG}{mgs:List D->En->Option En}(h1:VGt K pn g mg)(h2:VGs K pn gs mgs):VGs K pn (ziL g gs) (zaf mg mgs) where
 run:=by
  intro σ₀ A H₀ H₁ ρ σ H vs ds ρ' Q s h e q
  cases h with
  | nil=>cases e
  | @cons v d vs ds hv t =>
   obtain⟨ρ1,e1,e⟩:=bind_some (show(mg d ρ).bind (fun ρ1=>mgs ds ρ1)=some ρ' from e)
   exact⟨v,vs,rfl,h1.run σ₀ A H₀ H₁ ρ σ H v d ρ1 _ s hv e1 fun σ1 s1=>h2.run σ₀ A H₀ H₁ ρ1 σ1 H vs ds ρ' Q s1 t e q⟩
 ok:=fun ds ρ ρ' e=>by
  cases ds with
  | nil=>cases e
  | cons d ds =>
   obtain⟨ρ1,e1,e⟩:=bind_some (show(mg d ρ).bind (fun ρ1=>mgs ds ρ1)=some ρ' from e)
   obtain⟨a1,a2⟩:=h1.ok d ρ ρ1 e1
   obtain⟨b1,b2⟩:=h2.ok ds ρ1 ρ' e
   exact⟨b1.trans a1,fun i hi=>(b2 i hi).trans (a2 i hi)⟩
def zbG(n:Nat)(gs:List D->En->Option En):MG:=fun d ρ=>match d with
 | .tuple ds=>if ds.length=n then gs ds ρ else none
 | _=>none
theorem zc9{n:Nat}{gs:TGs}{mgs:List D->En->Option En}(h:VGs K pn gs mgs):VGt K pn (zph K n gs) (zbG n mgs) where
 run:=by
  intro σ₀ A H₀ H₁ ρ σ H v d ρ' Q s hd e q
  unfold zbG at e
  split at e
  ·split at e
   ·rename_i ds hl
    obtain⟨a,xs,rfl,h1,h2⟩:=DF.tup_inv hd
    exact⟨a,xs,rfl,SqT.of h1,by rw [h2.len]; exact hl,h.run σ₀ A H₀ H₁ ρ σ H xs ds ρ' Q s h2 e q⟩
   ·cases e
  ·cases e
 ok:=fun d ρ ρ' e=>by
  unfold zbG at e
  split at e
  ·split at e
   ·exact h.ok _ _ _ e
   ·cases e
  ·cases e
def zda(me:ME)(mg:MG):MS:=fun ρ=>(me ρ).bind fun p=>(p.1.get p.2).bind fun u=>match u with
 | .d d=>(mg d p.2).bind fun ρ'=>some (.nx ρ')
 | _=>none
theorem zfD{te:TE}{g:TG}{me:ME}{mg:MG}(h:VE K te me)(hg:VGt K pn g mg):VS K pn EX (zgX te g) (zda me mg):=by
 intro σ₀ A H₀ H₁ ρ σ H f D s e k
 obtain⟨⟨a,ρ1⟩,e1,e⟩:=bind_some e
 obtain⟨u,eu,e⟩:=bind_some e
 refine h ρ σ H a ρ1 _ s.rs e1 fun v H1 g1 k1=>?_
 have p:=k1.now s.rs g1 eu
 dsimp only at e
 split at e
 ·obtain⟨ρ2,e2,e3⟩:=bind_some e
  cases e3
  exact hg.run σ₀ A H₀ H₁ ρ1 σ H1 v _ ρ2 _ (s.go g1) p e2 fun σ' s'=>k σ' H1 s'
 ·cases e
def znq(i j:Nat)(ma:MA):MS:=fun ρ=>(ma ρ).bind fun p=>(zbp p.2 p.1).bind fun us=>match us with
 | [.d x,.d y]=>some (.nx ((p.2.set i (some (.d x))).set j (some (.d y))))
 | _=>none
theorem zrS{i j:Nat}{ta:TA}{ma:MA}(hi:i∉pn)(hj:j∉pn)(h:VAs K ta ma):VS K pn EX (zsy i j ta) (znq i j ma):=by
 intro σ₀ A H₀ H₁ ρ σ H f D s e k
 obtain⟨⟨as,ρ1⟩,e1,e⟩:=bind_some e
 obtain⟨us,eu,e⟩:=bind_some e
 refine h ρ σ H as ρ1 _ s.rs e1 fun vs H1 g1 s1=>?_
 have rp:=s1.rpl s.rs g1 eu
 dsimp only at e
 split at e
 ·rename_i x y
  cases e
  cases rp with
  | @cons v _ vs _ h1 t =>
   cases t with
   | @cons w _ _ _ h2 t =>
    cases t
    have sn:=(s.go g1).set hi (u:=.d x) h1 fun o=>by cases o
    exact⟨v,w,rfl,k _ _ (sn.set hj (u:=.d y) h2 fun o=>by cases o)⟩
 ·cases e
def zcy(mg:MG)(mb:MS):List D->En->Option Fl
 | [],ρ=>some (.nx ρ)
 | d::ds,ρ=>(mg d ρ).bind fun ρ1=>(mb ρ1).bind fun f=>match f with
  | .nx ρ2=>zcy mg mb ds ρ2
  | .ct ρ2=>zcy mg mb ds ρ2
  | .bk ρ2=>some (.nx ρ2)
  | .rt u ρ2=>some (.rt u ρ2)
  | .ex x ρ2=>some (.ex x ρ2)
def zdb(mi:MI)(mg:MG)(mb:MS):MS:=fun ρ=>(mi ρ).bind fun p=>zcy mg mb p.1 p.2
theorem zdo{wi:TI}{g:TG}{tb:TS}{mi:MI}{mg:MG}{mb:MS}(hi:VI K wi mi)(hg:VGt K pn g mg)(hb:VS K pn EX tb mb):VS K pn EX (zsA wi g tb) (zdb mi mg mb):=by
 intro σ₀ A H₀ H₁ ρ σ H f D s e k
 obtain⟨⟨ds,ρ1⟩,e1,e⟩:=bind_some e
 refine hi ρ σ H ds ρ1 _ s.rs e1 fun J H1 g1 run=>?_
 have s1:=(s.go g1).at
 have kp01:Kp H₁ H1:=(s.go g1).kp
 refine⟨fun i m σ' H'=>m=ds.length - i/\i<=ds.length/\∃ ρ',Sn K pn σ₀ A H₀ H1 ρ' σ' H'/\zcy mg mb (ds.drop i) ρ'=some f,⟨ds.length,by simp,Nat.zero_le _,ρ1,s1,e⟩,?_⟩
 rintro i m σ' H' ⟨rfl,hi',ρ',s',el⟩
 by_cases hlt:i < ds.length
 ·rw [List.drop_eq_getElem_cons hlt]at el
  obtain⟨ρ2,e2,el⟩:=bind_some (show(mg ds[i] ρ').bind _=some f from el)
  obtain⟨fb,eb,el⟩:=bind_some el
  obtain⟨go,yl⟩:=(run H' s'.kp i).1 ds[i] (List.getElem?_eq_getElem hlt)
  refine .inr ⟨go,fun σ3 H3=>∃ ρ3,Sn K pn σ₀ A H₀ H1 ρ3 σ3 H3/\zcy mg mb (ds.drop (i+1)) ρ3=some f,fun σ3 H3 ⟨ρ3,s3,e3⟩=>⟨ds.length - (i+1),by omega,rfl,hlt,ρ3,s3,e3⟩,fun x H2 y=>?_⟩
  obtain⟨sm,dx⟩:=yl x H2 y
  have s2:=s'.go (Go.grow s'.rs sm)
  refine hg.run σ₀ A H₀ H1 ρ' σ' H2 x ds[i] ρ2 _ s2 dx e2 fun σ3 s3=>?_
  refine hb σ₀ A H₀ H1 ρ2 σ3 H2 fb _ s3 eb ?_
  cases fb with
  | nx ρ4=>exact fun σ4 H4 s4=>⟨ρ4,s4,el⟩
  | ct ρ4=>exact fun σ4 H4 s4=>⟨ρ4,s4,el⟩
  | bk ρ4=>cases el; exact fun σ4 H4 s4=>k σ4 H4 (s4.re kp01)
  | rt u ρ4=>cases el; exact fun v σ4 H4 s4 p n=>k v σ4 H4 (s4.re kp01) p n
  | ex x ρ4=>cases el; exact fun a σ4 H4 s4 p n=>k a σ4 H4 (s4.re kp01) p n
 ·have ei:i=ds.length:=by omega
  subst ei
  rw [List.drop_length]at el
  cases el
  exact .inl ⟨(run H' s'.kp _).2 rfl,k σ' H' (s'.re kp01)⟩
def zbK(mt:MT)(mb:MS):Nat->En->Option Fl
 | 0,_=>none
 | n+1,ρ=>(mt ρ).bind fun p=>if p.1=true then(mb p.2).bind fun f=>match f with
  | .nx ρ2=>zbK mt mb n ρ2
  | .ct ρ2=>zbK mt mb n ρ2
  | .bk ρ2=>some (.nx ρ2)
  | .rt u ρ2=>some (.rt u ρ2)
  | .ex x ρ2=>some (.ex x ρ2)else some (.nx p.2)
open Classical in
noncomputable def zeB(mt:MT)(mb:MS):MS:=fun ρ=>if h:∃ n,(zbK mt mb n ρ).isSome=true then zbK mt mb h.choose ρ else none
theorem zk9{tt:TT}{tb:TS}{mt:MT}{mb:MS}(ht:VT K tt mt)(hb:VS K pn EX tb mb):VS K pn EX (zjL tt tb) (zeB mt mb):=by
 intro σ₀ A H₀ H₁ ρ σ H f D s e k
 unfold zeB at e
 split at e
 ·rename_i hn
  generalize hn.choose=n at e
  refine⟨fun m σ' H'=>∃ ρ',Sn K pn σ₀ A H₀ H₁ ρ' σ' H'/\zbK mt mb m ρ'=some f,⟨n,ρ,s,e⟩,?_⟩
  rintro m σ' H' ⟨ρ',s',el⟩
  cases m with
  | zero=>cases el
  | succ m =>
   obtain⟨⟨b,ρ1⟩,e1,el⟩:=bind_some (show(mt ρ').bind _=some f from el)
   refine ht ρ' σ' H' b ρ1 _ s'.rs e1 fun H1 g1=>?_
   dsimp only at el
   split at el
   ·rename_i hc
    rw [if_pos hc]
    obtain⟨fb,eb,el⟩:=bind_some el
    refine⟨fun σ2 H2=>∃ ρ2,Sn K pn σ₀ A H₀ H₁ ρ2 σ2 H2/\zbK mt mb m ρ2=some f,fun σ2 H2 ⟨ρ2,s2,e2⟩=>⟨m,Nat.lt_succ_self m,ρ2,s2,e2⟩,?_⟩
    refine hb σ₀ A H₀ H₁ ρ1 σ' H1 fb _ (s'.go g1) eb ?_
    cases fb with
    | nx ρ4=>exact fun σ4 H4 s4=>⟨ρ4,s4,el⟩
    | ct ρ4=>exact fun σ4 H4 s4=>⟨ρ4,s4,el⟩
    | bk ρ4=>cases el; exact fun σ4 H4 s4=>k σ4 H4 s4
    | rt u ρ4=>cases el; exact fun v σ4 H4 s4 p n=>k v σ4 H4 s4 p n
    | ex x ρ4=>cases el; exact fun a σ4 H4 s4 p n=>k a σ4 H4 s4 p n
   ·rename_i hc
    rw [if_neg hc]
    cases el
    exact k σ' H1 (s'.go g1)
 ·cases e
theorem zc1{mt:MT}{mb:MS}:∀ {n:Nat} {ρ:En} {f:Fl},zbK mt mb n ρ=some f->∀ k,zbK mt mb (n+k) ρ=some f
 | 0,_,_,e,_=>by cases e
 | n+1,ρ,f,e,k=>by
  rw [show n+1+k=(n+k)+1 by omega]
  obtain⟨⟨b,ρ1⟩,e1,e⟩:=bind_some (show(mt ρ).bind _=some f from e)
  show(mt ρ).bind _=some f
  rw [e1]
  show(if b=true then _ else _)=_
  dsimp only at e
  split at e
  ·rename_i hc
   rw [if_pos hc]
   obtain⟨fb,eb,e⟩:=bind_some e
   rw [eb]
   cases fb with
   | nx ρ2=>exact zc1 (n:=n) e k
   | ct ρ2=>exact zc1 (n:=n) e k
   | bk ρ2=>exact e
   | rt u ρ2=>exact e
   | ex x ρ2=>exact e
  ·rename_i hc
   rw [if_neg hc]
   exact e
theorem znr{mt:MT}{mb:MS}{n:Nat}{ρ:En}{f:Fl}(e:zbK mt mb n ρ=some f):zeB mt mb ρ=some f:=by
 have h:∃ n,(zbK mt mb n ρ).isSome=true:=⟨n,by rw [e]; rfl⟩
 unfold zeB
 rw [dif_pos h]
 obtain⟨f',ef'⟩:=Option.isSome_iff_exists.mp h.choose_spec
 rw [ef']
 have a:=zc1 e h.choose
 have b:=zc1 ef' n
 rw [Nat.add_comm,b]at a
 exact a
end
section
variable {K:PySem.W.Frag} {pn:List Nat} {σ₀:St} {A:Addr->Prop} {H₀ H₁ H₂:Hp} {ρ ρ':En} {σ:St} {H H':Hp}
def cEn(nt:Nat)(js:List Nat)(ρ:En):En:=List.replicate nt none++js.map fun j=>ρ.getD j none
def reset(nt:Nat)(ρ:En):En:=List.replicate nt none++ρ.drop nt
def back:List Nat->List (Option U)->En->En
 | j::js,some u::us,ρ=>back js us (ρ.set j (some u))
 | _::js,none::us,ρ=>back js us ρ
 | _,_,ρ=>ρ
def lcM(nt:Nat)(mg:MG)(mt:MT)(me:ME):List D->En->List D->Option (List D×En)
 | [],ρ,ys=>some (ys,ρ)
 | d::ds,ρ,ys=>if ys.length < sizeLine then(mg d ρ).bind fun ρ1=>(mt ρ1).bind fun b=>if b.1=true then(me b.2).bind fun p=>(p.1.get p.2).bind fun u=>(match u with
   | .d y=>lcM nt mg mt me ds (reset nt p.2) (ys++[y])
   | _=>none)else lcM nt mg mt me ds (reset nt b.2) ys else none
def mLC(mi:MI)(nt:Nat)(js:List Nat)(mg:MG)(mt:MT)(me:ME):ME:=fun ρ=>(mi ρ).bind fun p=>(lcM nt mg mt me p.1 (cEn nt js p.2) []).bind fun q=>some (.u (.l q.1),back js (q.2.drop nt) p.2)
def zg1(nt n:Nat):List Nat:=(List.range n).map (nt+·)
theorem zfR{nt n i:Nat}:i∈zg1 nt n↔nt<=i/\i < nt+n:=by
 unfold zg1
 rw [List.mem_map]
 constructor
 ·rintro⟨a,ha,rfl⟩
  have:=List.mem_range.mp ha
  omega
 ·intro h
  exact⟨i - nt,List.mem_range.mpr (by omega),by omega⟩
theorem zgs{nt:Nat}{js:List Nat}{i:Nat}{u:U}(h:(cEn nt js ρ)[i]?=some (some u)):∃ p j,i=nt+p/\js[p]?=some j/\ρ[j]?=some (some u):=by
 unfold cEn at h
 by_cases hi:i < nt
 ·rw [List.getElem?_append_left (by simpa using hi),List.getElem?_replicate,if_pos hi]at h
  cases h
 ·rw [List.getElem?_append_right (by simp; omega),List.length_replicate,List.getElem?_map]at h
  obtain⟨j,ej,e⟩:=Option.map_eq_some_iff.mp h
  refine⟨i - nt,j,by omega,ej,?_⟩
  rw [List.getD_eq_getElem?_getD]at e
  cases q:ρ[j]? with
  | none=>rw [q]at e; cases e
  | some o=>rw [q]at e; exact congrArg some e
theorem zrT{nt:Nat}{js:List Nat}{p j:Nat}(h:js[p]?=some j):(c0 nt js σ)[nt+p]?=some (σ.getD j none):=by
 unfold c0
 rw [List.getElem?_append_right (by simp),List.length_replicate,Nat.add_sub_cancel_left,List.getElem?_map,h]
 rfl
theorem zns{nt:Nat}{js:List Nat}:(c0 nt js σ).length=nt+js.length:=by unfold c0; simp
theorem zla{nt:Nat}{js:List Nat}:(cEn nt js ρ).length=nt+js.length:=by unfold cEn; simp
def znt(ρ:En)(σ:St)(js:List Nat)(a:Addr):Prop:=∃ (p j:Nat) (u:U),js[p]?=some j/\ρ[j]?=some (some u)/\u.own=true/\σ[j]?=some (some (.ref a))
theorem zpV{nt:Nat}{js:List Nat}(r:Rs K ρ σ H)(nd:js.Nodup):Sn K (zg1 nt js.length) (c0 nt js σ) (znt ρ σ js) H H (cEn nt js ρ) (c0 nt js σ) H:=by
 have sat:∀ {p j:Nat} {v:V},js[p]?=some j->σ[j]?=some (some v)->(c0 nt js σ)[nt+p]?=some (some v):=fun{p j v} hp hv=>by
  rw [zrT hp,List.getD_eq_getElem?_getD,hv]
  rfl
 refine⟨⟨by rw [zla,zns],fun i u e=>?_,fun i k u w ei ek ou ow es=>?_⟩,fun _ _ h _=>h,fun i u a e o es=>?_,fun _ _=>rfl,fun _ h=>h,Kp.refl H⟩
 ·obtain⟨p,j,rfl,hj,hr⟩:=zgs e
  obtain⟨v,ev,q⟩:=r.rep j u hr
  exact⟨v,sat hj ev,q⟩
 ·obtain⟨p,j,rfl,hj,hr⟩:=zgs ei
  obtain⟨p',j',rfl,hj',hr'⟩:=zgs ek
  obtain⟨v,ev,_⟩:=r.rep j u hr
  obtain⟨v',ev',_⟩:=r.rep j' w hr'
  rw [sat hj ev,sat hj' ev']at es
  have:j=j':=r.apart j j' u w hr hr' ou ow (by rw [ev,ev']; exact es)
  subst this
  have l1:=(List.getElem?_eq_some_iff.mp hj)
  have l2:=(List.getElem?_eq_some_iff.mp hj')
  obtain⟨h1,e1⟩:=l1
  obtain⟨h2,e2⟩:=l2
  have:=(List.getElem_inj nd).mp (e1.trans e2.symm)
  omega
 ·obtain⟨p,j,rfl,hj,hr⟩:=zgs e
  obtain⟨v,ev,_⟩:=r.rep j u hr
  rw [sat hj ev]at es
  cases es
  exact .inl ⟨zfR.mpr ⟨by omega,by have:=(List.getElem?_eq_some_iff.mp hj).1; omega⟩,p,j,u,hj,hr,o,ev⟩
theorem Sn.reset{nt n:Nat}{σc:St}{ρ2:En}{σ2:St}(s:Sn K (zg1 nt n) σc A H₀ H₁ ρ2 σ2 H)(l1:ρ2.length=nt+n)(l2:σc.length=nt+n):Sn K (zg1 nt n) σc A H₀ H₁ (L2.reset nt ρ2) σc H:=by
 have bk:∀ (i:Nat) (u:U),(L2.reset nt ρ2)[i]?=some (some u)->nt<=i/\i < nt+n/\ρ2[i]?=some (some u):=fun i u e=>by
  unfold L2.reset at e
  by_cases hi:i < nt
  ·rw [List.getElem?_append_left (by simpa using hi),List.getElem?_replicate,if_pos hi]at e
   cases e
  ·rw [List.getElem?_append_right (by simp; omega),List.length_replicate,List.getElem?_drop,show nt+(i - nt)=i by omega]at e
   have:=(List.getElem?_eq_some_iff.mp e).1
   exact⟨by omega,by omega,e⟩
 have pin:∀ i,nt<=i->i < nt+n->σc[i]?=σ2[i]?:=fun i h1 h2=>(s.pin i (zfR.mpr ⟨h1,h2⟩)).symm
 have ll:(L2.reset nt ρ2).length=nt+n:=by unfold L2.reset; simp; omega
 refine⟨⟨by omega,fun i u e=>?_,fun i j u w ei ej ou ow es=>?_⟩,s.fr,fun i u a e o es=>?_,fun _ _=>rfl,s.dm,s.kp⟩
 ·obtain⟨h1,h2,e'⟩:=bk i u e
  rw [pin i h1 h2]
  exact s.rs.rep i u e'
 ·obtain⟨h1,h2,ei'⟩:=bk i u ei
  obtain⟨h3,h4,ej'⟩:=bk j w ej
  rw [pin i h1 h2,pin j h3 h4]at es
  exact s.rs.apart i j u w ei' ej' ou ow es
 ·obtain⟨h1,h2,e'⟩:=bk i u e
  rw [pin i h1 h2]at es
  exact s.ow i u a e' o es
theorem zfS:∀ {js:List Nat} {us:List (Option U)} {ρ:En} {j:Nat} {w:U},(back js us ρ)[j]?=some (some w)->(∃ p:Nat,js[p]?=some j/\us[p]?=some (some w))\/(ρ[j]?=some (some w)/\∀ p:Nat,js[p]?=some j->∀ x,us[p]?≠some (some x))
 | [],us,ρ,j,w,e=>.inr ⟨by cases us<;>exact e,fun p z=>by simp at z⟩
 | k::js,[],ρ,j,w,e=>.inr ⟨e,fun p z x=>by simp⟩
 | k::js,none::us,ρ,j,w,e=>by
  rcases zfS (js:=js) (us:=us) (ρ:=ρ) (show(back js us ρ)[j]?=some (some w) from e)with ⟨p,h1,h2⟩ | ⟨h1,h2⟩
  ·exact .inl ⟨p+1,h1,h2⟩
  ·refine .inr ⟨h1,fun p z x=>?_⟩
   cases p with
   | zero=>intro q; cases q
   | succ p=>exact h2 p z x
 | k::js,some u::us,ρ,j,w,e=>by
  rcases zfS (js:=js) (us:=us) (ρ:=ρ.set k (some u)) (show(back js us (ρ.set k (some u)))[j]?=some (some w) from e)with ⟨p,h1,h2⟩ | ⟨h1,h2⟩
  ·exact .inl ⟨p+1,h1,h2⟩
  ·by_cases hk:k=j
   ·subst hk
    have hl:k < (ρ.set k (some u)).length:=(List.getElem?_eq_some_iff.mp h1).1
    rw [List.length_set]at hl
    rw [List.getElem?_set_self hl]at h1
    exact .inl ⟨0,rfl,by cases h1; rfl⟩
   ·rw [List.getElem?_set_ne hk]at h1
    refine .inr ⟨h1,fun p z x=>?_⟩
    cases p with
    | zero=>cases(show some k=some j from z); exact absurd rfl hk
    | succ p=>exact h2 p z x
theorem zeU:∀ (js:List Nat) (us:List (Option U)) (ρ:En),(back js us ρ).length=ρ.length
 | [],us,ρ=>by cases us<;>rfl
 | _::js,[],ρ=>rfl
 | _::js,none::us,ρ=>zeU js us ρ
 | j::js,some u::us,ρ=>by show(back js us (ρ.set j (some u))).length=_; rw [zeU]; exact List.length_set
theorem zek:∀ {js:List Nat} {us:List (Option U)} {ρ:En} {j:Nat} {w:U},ρ[j]?=some (some w)->∃ w',(back js us ρ)[j]?=some (some w')
 | [],us,ρ,j,w,e=>⟨w,by cases us<;>exact e⟩
 | _::js,[],ρ,j,w,e=>⟨w,e⟩
 | _::js,none::us,ρ,j,w,e=>zek (js:=js) (us:=us) e
 | k::js,some u::us,ρ,j,w,e=>by
  by_cases hk:k=j
  ·subst hk
   exact zek (js:=js) (us:=us) (w:=u) (List.getElem?_set_self (List.getElem?_eq_some_iff.mp e).1)
  ·exact zek (js:=js) (us:=us) (w:=w) (by rw [List.getElem?_set_ne hk]; exact e)
theorem Sn.comp_back{nt:Nat}{js:List Nat}{ρ2:En}(r:Rs K ρ σ H)(s:Sn K (zg1 nt js.length) (c0 nt js σ) (znt ρ σ js) H H₁ ρ2 (c0 nt js σ) H')(l:ρ2.length=nt+js.length)(sh:Shr (cEn nt js ρ) ρ2) :
  Go K ρ σ H (back js (ρ2.drop nt) ρ) H':=by
 have usAt:∀ (p:Nat) (w:U),(ρ2.drop nt)[p]?=some (some w)->ρ2[nt+p]?=some (some w):=fun p w e=>by rw [List.getElem?_drop]at e; exact e
 have kp:Kp H H':=by
  refine⟨fun b xs h=>s.fr b _ h fun⟨p,j,u,hj,hr,ou,es⟩=>?_,fun b ob u h=>s.fr b _ h fun⟨p,j,u,hj,hr,ou,es⟩=>?_⟩
  ·obtain⟨c,q,m⟩:=r.ow ⟨j,u,hr,ou,es⟩
   rw [h]at q; cases q; exact m
  ·obtain⟨c,q,m⟩:=r.ow ⟨j,u,hr,ou,es⟩
   rw [h]at q; cases q; exact m
 have orig:∀ (p j:Nat) (w:U),js[p]?=some j->(ρ2.drop nt)[p]?=some (some w)->w.own=true->∃ x,ρ[j]?=some (some x)/\x.own=true:=fun p j w hj e o=>by
  obtain⟨x,ex,ox⟩:=sh.own (nt+p) w (usAt p w e) o
  obtain⟨p',j',ep,hj',hr⟩:=zgs ex
  have:p'=p:=by omega
  subst this
  rw [hj]at hj'
  cases hj'
  exact⟨x,hr,ox⟩
 have own:∀ (j:Nat) (w:U),(back js (ρ2.drop nt) ρ)[j]?=some (some w)->w.own=true->∃ x,ρ[j]?=some (some x)/\x.own=true:=fun j w e o=>by
  rcases zfS e with ⟨p,hj,hu⟩ | ⟨h1,_⟩
  ·exact orig p j w hj hu o
  ·exact⟨w,h1,o⟩
 refine⟨⟨by rw [zeU]; exact r.len,fun j w e=>?_,fun i j u w ei ej ou ow es=>?_⟩,fun a o h n=>s.fr a o h fun⟨p,j,u,hj,hr,ou,es⟩=>n ⟨j,u,hr,ou,es⟩,⟨zeU _ _ _,own,fun j w e=>zek e⟩,s.dm⟩
 ·rcases zfS e with ⟨p,hj,hu⟩ | ⟨h1,h2⟩
  ·obtain⟨v,ev,q⟩:=s.rs.rep (nt+p) w (usAt p w hu)
   rw [zrT hj]at ev
   refine⟨v,?_,q⟩
   rw [List.getD_eq_getElem?_getD]at ev
   cases z:σ[j]? with
   | none=>rw [z]at ev; cases ev
   | some o=>rw [z]at ev; exact congrArg some (Option.some.inj ev)
  ·obtain⟨v,ev,q⟩:=r.rep j w h1
   refine⟨v,ev,q.kp kp fun ow a c ea hc=>s.fr a c hc fun⟨p,j',u,hj,hr,ou,es⟩=>?_⟩
   subst ea
   have:j'=j:=r.apart j' j u w hr h1 ou ow (by rw [es,ev])
   subst this
   have e1:(cEn nt js ρ)[nt+p]?=some (some u):=by
    unfold cEn
    rw [List.getElem?_append_right (by simp),List.length_replicate,Nat.add_sub_cancel_left,List.getElem?_map,hj]
    show some (ρ.getD j' none)=_
    rw [List.getD_eq_getElem?_getD,hr]
    rfl
   obtain⟨w',ew'⟩:=sh.live _ _ e1
   exact h2 p hj w' (by rw [List.getElem?_drop]; exact ew')
 ·obtain⟨x,ex,ox⟩:=own i u ei ou
  obtain⟨y,ey,oy⟩:=own j w ej ow
  exact r.apart i j x y ex ey ox oy es
theorem Shr.reset'{nt n:Nat}{ρc ρ1:En}(l:ρc.length=nt+n)(h0:∀ i,i < nt->ρc[i]?=some none)(l1:ρ1.length=nt+n)(own:∀ (i:Nat) (u:U),nt<=i->ρ1[i]?=some (some u)->u.own=true->∃ w,ρc[i]?=some (some w)/\w.own=true)(live:∀ (i:Nat) (u:U),nt<=i->ρc[i]?=some (some u)->∃ w,ρ1[i]?=some (some w)):Shr ρc (L2.reset nt ρ1):=by
 have at':∀ i,nt<=i->(L2.reset nt ρ1)[i]?=ρ1[i]?:=fun i hi=>by
  unfold L2.reset
  rw [List.getElem?_append_right (by simp; omega),List.length_replicate,List.getElem?_drop,show nt+(i - nt)=i by omega]
 have lo:∀ i,i < nt->(L2.reset nt ρ1)[i]?=some none:=fun i hi=>by
  unfold L2.reset
  rw [List.getElem?_append_left (by simpa using hi),List.getElem?_replicate,if_pos hi]
 refine⟨by unfold L2.reset; simp; omega,fun i u e o=>?_,fun i u e=>?_⟩
 ·by_cases hi:i < nt
  ·rw [lo i hi]at e; cases e
  ·rw [at' i (by omega)]at e
   exact own i u (by omega) e o
 ·by_cases hi:i < nt
  ·rw [h0 i hi]at e; cases e
  ·rw [at' i (by omega)]
   exact live i u (by omega) e
theorem zi6{nt:Nat}{ρ1:En}{i:Nat}(h:i < nt):(L2.reset nt ρ1)[i]?=some none:=by
 unfold L2.reset
 rw [List.getElem?_append_left (by simpa using h),List.getElem?_replicate,if_pos h]
theorem zts{nt:Nat}{js:List Nat}{i:Nat}(h:i < nt):(cEn nt js ρ)[i]?=some none:=by
 unfold cEn
 rw [List.getElem?_append_left (by simpa using h),List.getElem?_replicate,if_pos h]
theorem zmb{wi:TI}{nt:Nat}{js:List Nat}{g:TG}{tt:TT}{te:TE}{mi:MI}{mg:MG}{mt:MT}{me:ME}(nd:js.Nodup)(hi:VI K wi mi)(hg:VGt K (zg1 nt js.length) g mg)(ht:VT K tt mt)(he:VE K te me) :
  VE K (tLC wi nt js g tt te) (mLC mi nt js mg mt me):=by
 intro ρ σ H a ρ' Q r e q
 obtain⟨⟨ds,ρ1⟩,e1,e⟩:=bind_some e
 obtain⟨⟨zs,ρz⟩,e2,e⟩:=bind_some e
 cases e
 refine hi ρ σ H ds ρ1 _ r e1 fun J H1 g1 run=>?_
 have s1:=zpV (nt:=nt) (js:=js) g1.rs nd
 refine⟨fun i m ys H'=>m=ds.length - i/\i<=ds.length/\∃ ρc yd,Sn K (zg1 nt js.length) (c0 nt js σ) (znt ρ1 σ js) H1 H1 ρc (c0 nt js σ) H'/\Shr (cEn nt js ρ1) ρc/\(∀ k,k < nt->ρc[k]?=some none)/\DFs K H' ys yd/\lcM nt mg mt me (ds.drop i) ρc yd=some (zs,ρz),
  ⟨ds.length,by simp,Nat.zero_le _,_,[],s1,Shr.refl _,fun k hk=>zts hk,.nil,e2⟩,?_⟩
 rintro i m ys H' ⟨rfl,hi',ρc,yd,s',sh,lo,dy,el⟩
 have lc:ρc.length=nt+js.length:=by rw [sh.len,zla]
 by_cases hlt:i < ds.length
 ·rw [List.drop_eq_getElem_cons hlt]at el
  unfold lcM at el
  split at el
  ·rename_i hz
   obtain⟨ρ2,e3,el⟩:=bind_some el
   obtain⟨⟨b,ρ3⟩,e4,el⟩:=bind_some el
   obtain⟨l2,p2⟩:=hg.ok _ _ _ e3
   obtain⟨go,yl⟩:=(run H' s'.kp i).1 ds[i] (List.getElem?_eq_getElem hlt)
   refine .inr ⟨go,by rw [dy.len]; exact hz,fun ys' H2=>∃ ρc' yd',Sn K (zg1 nt js.length) (c0 nt js σ) (znt ρ1 σ js) H1 H1 ρc' (c0 nt js σ) H2/\Shr (cEn nt js ρ1) ρc'/\(∀ k,k < nt->ρc'[k]?=some none)/\DFs K H2 ys' yd'/\lcM nt mg mt me (ds.drop (i+1)) ρc' yd'=some (zs,ρz),
    fun ys' H2 ⟨ρc',yd',z⟩=>⟨ds.length - (i+1),by omega,rfl,hlt,ρc',yd',z⟩,fun x H2 y=>?_⟩
   obtain⟨sm,dx⟩:=yl x H2 y
   have s2:=s'.go (Go.grow s'.rs sm)
   refine hg.run _ _ _ _ ρc _ H2 x ds[i] ρ2 _ s2 dx e3 fun σ3 s3=>?_
   have toEnd:∀ {ρ4:En} {H4:Hp},Go K ρ2 σ3 H2 ρ4 H4->Sn K (zg1 nt js.length) (c0 nt js σ) (znt ρ1 σ js) H1 H1 (L2.reset nt ρ4) (c0 nt js σ) H4/\Shr (cEn nt js ρ1) (L2.reset nt ρ4):=fun{ρ4 H4} g4=>by
    have l4:ρ4.length=nt+js.length:=by rw [g4.shr.len,l2,lc]
    refine⟨(s3.go g4).reset l4 zns,sh.trans (Shr.reset' lc lo l4 (fun k u hk ek ou=>?_) fun k u hk ek=>?_)⟩
    ·obtain⟨w,ew,ow⟩:=g4.shr.own k u ek ou
     have lk:k < nt+js.length:=by rw [<-l2.trans lc]; exact(List.getElem?_eq_some_iff.mp ew).1
     rw [p2 k (zfR.mpr ⟨hk,lk⟩)]at ew
     exact⟨w,ew,ow⟩
    ·have lk:k < nt+js.length:=by rw [<-lc]; exact(List.getElem?_eq_some_iff.mp ek).1
     rw [<-p2 k (zfR.mpr ⟨hk,lk⟩)]at ek
     exact g4.shr.live k u ek
   refine ht ρ2 σ3 H2 b ρ3 _ s3.rs e4 fun H3 g3=>?_
   dsimp only at el
   split at el
   ·rename_i hb
    rw [if_pos hb]
    obtain⟨⟨a4,ρ4⟩,e5,el⟩:=bind_some el
    obtain⟨u,e6,el⟩:=bind_some el
    refine he ρ3 σ3 H3 a4 ρ4 _ g3.rs e5 fun v H4 g4 k4=>?_
    have pv:=k4.now g3.rs g4 e6
    dsimp only at el
    split at el
    ·rename_i yv
     obtain⟨sn,sr⟩:=toEnd (g3.trans g4)
     exact⟨_,_,sn,sr,fun k hk=>zi6 hk,((dy.kp sm.kp).kp ((g3.trans g4).kp s3.rs)).snoc pv,el⟩
    ·cases el
   ·rename_i hb
    rw [if_neg hb]
    obtain⟨sn,sr⟩:=toEnd g3
    exact⟨_,_,sn,sr,fun k hk=>zi6 hk,(dy.kp sm.kp).kp (g3.kp s3.rs),el⟩
  ·cases el
 ·have ei:i=ds.length:=by omega
  subst ei
  rw [List.drop_length]at el
  cases el
  refine .inl ⟨(run H' s'.kp _).2 rfl,fun Da hD=>?_⟩
  have gb:=Sn.comp_back g1.rs s' lc sh
  have sm:=zaJ hD (.lst ys)
  exact q _ _ ((g1.trans gb).trans (Go.grow gb.rs sm)) ⟨⟨Da,ys,rfl,zG,dy.kp sm.kp⟩,fun _=>⟨Da,rfl,(g1.trans gb).dm _ hD⟩⟩
end
section
variable {EX:EXT} {K:PySem.W.Frag} {pn:List Nat} {σ₀:St} {A:Addr->Prop} {H₀ H₁ H₂:Hp} {ρ ρ':En} {σ:St} {H H':Hp}
def zaU(pn:List Nat)(ρ:En):Nat->List U->Option (List U)
 | _,[]=>some []
 | i,u::us=>(if i∈pn then(ρ[i]?).join.bind fun o=>if o.own=true/\u.own=false then none else some o else if u.own=true then none else some u).bind fun o=>(zaU pn ρ (i+1) us).bind fun os=>some (o::os)
def zb3(n:Nat)(pn:List Nat)(m:MS):FD:=fun us=>(m (sm us++List.replicate (n - us.length) none)).bind fun f=>match f with
 | .rt u ρ=>(zaU pn ρ 0 us).bind fun os=>some (u,os)
 | .nx ρ=>(zaU pn ρ 0 us).bind fun os=>some (.d .none,os)
 | _=>none
theorem zi7:∀ {us os:List U} {i:Nat},zaU pn ρ i us=some os->os.length=us.length
 | [],os,i,e=>by cases e; rfl
 | u::us,os,i,e=>by
  obtain⟨o,e1,e⟩:=bind_some e
  obtain⟨os',e2,e⟩:=bind_some e
  cases e
  simp [zi7 e2]
theorem zeV:∀ {us os:List U} {i p:Nat} {o:U},zaU pn ρ i us=some os->os[p]?=some o->∃ u,us[p]?=some u/\((i+p∈pn/\ρ[i+p]?=some (some o)/\(o.own=true->u.own=true))\/(i+p∉pn/\o=u/\u.own=false))
 | [],os,i,p,o,e,ep=>by cases e; simp at ep
 | u::us,os,i,p,o,e,ep=>by
  obtain⟨o1,e1,e⟩:=bind_some e
  obtain⟨os',e2,e⟩:=bind_some e
  cases e
  cases p with
  | zero =>
   cases(show some o1=some o from ep)
   refine⟨u,rfl,?_⟩
   rw [Nat.add_zero]
   split at e1
   ·rename_i hi
    obtain⟨o2,e3,e1⟩:=bind_some e1
    split at e1
    ·cases e1
    ·rename_i hc
     cases e1
     refine .inl ⟨hi,?_,fun oo=>?_⟩
     ·cases q:ρ[i]? with
      | none=>rw [q]at e3; cases e3
      | some x=>rw [q]at e3; cases x with
       | none=>cases e3
       | some y=>cases e3; rfl
     ·cases hu:u.own with
      | true=>rfl
      | false=>exact absurd ⟨oo,hu⟩ hc
   ·rename_i hi
    split at e1
    ·cases e1
    ·rename_i hc
     cases e1
     exact .inr ⟨hi,rfl,by simpa using hc⟩
  | succ p =>
   obtain⟨u',eu,h⟩:=zeV (i:=i+1) (p:=p) e2 ep
   refine⟨u',eu,?_⟩
   rw [show i+(p+1)=i+1+p by omega]
   exact h
theorem zi8:∀ {us os:List U} {i p:Nat} {u:U},zaU pn ρ i us=some os->us[p]?=some u->u.own=true->i+p∈pn
 | [],os,i,p,u,e,ep,_=>by simp at ep
 | u::us,os,i,p,u',e,ep,o=>by
  obtain⟨o1,e1,e⟩:=bind_some e
  obtain⟨os',e2,e⟩:=bind_some e
  cases p with
  | zero =>
   cases(show some u=some u' from ep)
   rw [Nat.add_zero]
   split at e1
   ·assumption
   ·first | cases e1 | (rw [if_pos o]at e1; cases e1)
  | succ p =>
   rw [show i+(p+1)=i+1+p by omega]
   exact zi8 (i:=i+1) (p:=p) e2 ep o
theorem zd5{N:List Str}{vs:List V}{i:Nat}(h:i < vs.length):(zcd N vs)[i]?=(smV vs)[i]?:=by
 unfold zcd smV
 rw [List.getElem?_append_left (by simpa using h)]
theorem zi9{N:List Str}{us os:List U}{vs:List V}{ρx:En}(r:Rs K (sm us) (smV vs) H)(hl:us.length<=N.length)(ho:zaU pn ρx 0 us=some os) :
  Sn K pn (zcd N vs) (Ow (sm us) (smV vs)) H H (sm us++List.replicate (N.length - us.length) none) (zcd N vs) H:=by
 have lv:us.length=vs.length:=by have:=r.len; unfold sm smV at this; simpa using this
 have inv:∀ (i:Nat) (u:U),(sm us++List.replicate (N.length - us.length) none)[i]?=some (some u)->i < us.length/\(sm us)[i]?=some (some u):=fun i u e=>by
  by_cases hi:i < us.length
  ·rw [List.getElem?_append_left (by unfold sm; simpa using hi)]at e
   exact⟨hi,e⟩
  ·rw [List.getElem?_append_right (by unfold sm; simp; omega),List.getElem?_replicate]at e
   split at e<;>cases e
 refine⟨⟨?_,fun i u e=>?_,fun i j u w ei ej ou ow es=>?_⟩,fun _ _ h _=>h,fun i u a e o es=>?_,fun _ _=>rfl,fun _ h=>h,Kp.refl H⟩
 ·unfold zcd sm; simp; omega
 ·obtain⟨hi,e'⟩:=inv i u e
  rw [zd5 (by omega)]
  exact r.rep i u e'
 ·obtain⟨hi,ei'⟩:=inv i u ei
  obtain⟨hj,ej'⟩:=inv j w ej
  rw [zd5 (by omega),zd5 (by omega)]at es
  exact r.apart i j u w ei' ej' ou ow es
 ·obtain⟨hi,e'⟩:=inv i u e
  rw [zd5 (by omega)]at es
  have:=zi8 ho (zck.mp e') o
  rw [Nat.zero_add]at this
  exact .inl ⟨this,i,u,e',o,es⟩
theorem zgt{N:List Str}{us os:List U}{vs:List V}{σ':St}(r:Rs K (sm us) (smV vs) H)(s:Sn K pn (zcd N vs) (Ow (sm us) (smV vs)) H H ρ' σ' H')(ho:zaU pn ρ' 0 us=some os):Go K (sm us) (smV vs) H (sm os) H':=by
 have lv:us.length=vs.length:=by have:=r.len; unfold sm smV at this; simpa using this
 have lo:=zi7 ho
 have bnd:∀ {p:Nat} {o:U},os[p]?=some o->p < vs.length:=fun{p o} e=>by have:=(List.getElem?_eq_some_iff.mp e).1; omega
 have pin:∀ {p:Nat} {o:U},os[p]?=some o->p∈pn->σ'[p]?=(smV vs)[p]?:=fun{p o} e hp=>by rw [s.pin p hp,zd5 (bnd e)]
 refine⟨⟨by unfold sm smV; simp; omega,fun p o e=>?_,fun p q o o' ep eq oo oo' es=>?_⟩,s.fr,⟨by unfold sm; simp; omega,fun p o e oo=>?_,fun p u e=>?_⟩,s.dm⟩
 ·have e':=zck.mp e
  obtain⟨u,eu,h⟩:=zeV ho e'
  rw [Nat.zero_add]at h
  rcases h with ⟨hp,hr,_⟩ | ⟨_,rfl,ou⟩
  ·obtain⟨v,ev,q⟩:=s.rs.rep p o hr
   rw [pin e' hp]at ev
   exact⟨v,ev,q⟩
  ·obtain⟨v,ev,q⟩:=r.rep p o (zck.mpr eu)
   exact⟨v,ev,q.kp s.kp fun oo=>by rw [ou]at oo; cases oo⟩
 ·have ep':=zck.mp ep
  have eq':=zck.mp eq
  obtain⟨u,eu,h⟩:=zeV ho ep'
  obtain⟨u',eu',h'⟩:=zeV ho eq'
  rw [Nat.zero_add]at h h'
  rcases h with ⟨hp,hr,_⟩ | ⟨_,rfl,ou⟩
  ·rcases h' with ⟨hq,hr',_⟩ | ⟨_,rfl,ou'⟩
   ·rw [<-pin ep' hp,<-pin eq' hq]at es
    exact s.rs.apart p q o o' hr hr' oo oo' es
   ·rw [ou']at oo'; cases oo'
  ·rw [ou]at oo; cases oo
 ·have e':=zck.mp e
  obtain⟨u,eu,h⟩:=zeV ho e'
  rcases h with ⟨_,_,h⟩ | ⟨_,rfl,ou⟩
  ·exact⟨u,zck.mpr eu,h oo⟩
  ·rw [ou]at oo; cases oo
 ·have e':=zck.mp e
  have hp:p < os.length:=by have:=(List.getElem?_eq_some_iff.mp e').1; omega
  exact⟨os[p],zck.mpr (List.getElem?_eq_getElem hp)⟩
theorem Fun.okV{P:Program}{w:World}{mg:Str->Option Value}{base:Heap}{x qual:Str}{st:Stmt}{f:Addr}{fd:FuncData}{N ps:List Str}{k n nn:Nat}{m:MS}(F:Fun K x qual st f fd)(S:FnScope N ps (zt st))(hps:ps.length=n)(hN:N.length=nn)(hnn:n<=nn)
  (hbody:∀ (cdv:Value) (A:Around) (outer:List Env) (s:Shared) (H:Hp) (E:XK),Room k (A.deeper (envOfC qual (zt st) s.heap.objs.size f cdv)) ->
   ∃ t,Wr (PSs (zgd CX0 P w K mg base N qual (zt st) f cdv A outer s H E).nox (zV st) t)/\VS K pn EX0 t m):FnOk P w K mg base CX0 (k+1) f fd ps (spV K n (zb3 nn pn m)):=by
 refine F.okW S (fun vs H Q E h=>?_) (fun cdv A outer s H vs Q E hr h=>?_)
 ·obtain⟨us,r,outs,hl,rs,_⟩:=h
  have:=rs.len
  unfold sm smV at this
  simp at this
  omega
 obtain⟨us,r,outs,hl,rs,ef,q⟩:=h
 obtain⟨t,wt,vt⟩:=hbody cdv A outer s H E hr
 refine⟨t,wt,?_⟩
 obtain⟨fl,em,ef⟩:=bind_some ef
 have go:∀ (ρ':En),zaU pn ρ' 0 us=some outs->Sn K pn (zcd N vs) (Ow (sm us) (smV vs)) H H (sm us++List.replicate (N.length - us.length) none) (zcd N vs) H:=fun ρ' ho=>zi9 rs (by omega) ho
 subst hN
 cases fl with
 | nx ρ' =>
  obtain⟨os,eo,ef⟩:=bind_some (show(zaU pn ρ' 0 us).bind _=_ from ef)
  cases ef
  refine vt _ _ _ _ _ _ _ (.nx ρ') _ (go ρ' eo) em fun σ' H' s'=>?_
  exact q _ _ (zgt rs s' eo) .non Nw.data
 | rt u ρ' =>
  obtain⟨os,eo,ef⟩:=bind_some (show(zaU pn ρ' 0 us).bind _=_ from ef)
  cases ef
  refine vt _ _ _ _ _ _ _ (.rt r ρ') _ (go ρ' eo) em fun v σ' H' s' p n'=>?_
  exact q _ _ (zgt rs s' eo) p n'
 | bk=>cases ef
 | ct=>cases ef
 | ex=>cases ef
end
section
variable {EX:EXT} {K:PySem.W.Frag} {pn:List Nat} {ρ ρ':En} {σ:St} {H H':Hp}
def zb7(i:Nat)(me:ME):ME:=fun ρ=>match ρ[i]? with
 | some (some (.l _))=>(me ρ).bind fun p=>(p.1.get p.2).bind fun u=>match u,p.2[i]? with
  | .d x,some (some (.l xs))=>if xs.length < sizeLine then some (.u (.d .none),p.2.set i (some (.l (xs++[x]))))else none
  | _,_=>none
 | _=>none
theorem zdp{i:Nat}{te:TE}{me:ME}(h:VE K te me):VE K (tBM K "list" zkR (zf7 i) (zcN te zgY)) (zb7 i me):=by
 intro ρ σ H a ρ' Q r e q
 unfold zb7 at e
 split at e
 ·rename_i xs0 e0
  obtain⟨⟨b,ρ1⟩,e1,e⟩:=bind_some e
  obtain⟨u,eu,e⟩:=bind_some e
  obtain⟨v0,ev0,p0⟩:=r.rep i _ e0
  obtain⟨l,us0,rfl,hl0,_⟩:=p0
  refine⟨_,ev0,.inl ⟨rfl,us0,SqL.of hl0⟩,?_⟩
  refine h ρ σ H b ρ1 _ r e1 fun v H1 g1 k1=>?_
  have pv:=k1.now r g1 eu
  dsimp only at e
  split at e
  ·rename_i x xs ex
   split at e
   ·rename_i hz
    cases e
    obtain⟨w,ew,p1⟩:=g1.rs.rep i _ ex
    obtain⟨l',us,rfl,hl,ds⟩:=p1
    rw [ev0]at ew
    cases ew
    refine⟨l,us,v,rfl,rfl,hl,by rw [ds.len]; exact hz,q _ _ (g1.trans (Go.own (u':=.l (xs++[x])) g1.rs ex rfl ev0 ?_)) ⟨.non,Nw.data⟩⟩
    have kp:=zc7 hl trivial (.lst (us++[v]))
    exact⟨l,_,rfl,zG,(ds.kp kp).snoc (DF.kp kp pv)⟩
   ·cases e
  ·cases e
 ·cases e
theorem zel{o:Option (Option U)}{u:U}(e:o.join=some u):o=some (some u):=by
 cases o with
 | none=>cases e
 | some x=>cases x with
  | none=>cases e
  | some y=>cases e; rfl
def zeC(i:Nat)(me mi:ME):MS:=fun ρ=>(ρ[i]?).join.bind fun _=>(me ρ).bind fun p=>(mi p.2).bind fun q=>(p.1.get q.2).bind fun u=>(q.1.get q.2).bind fun w=>match u,w,q.2[i]? with
 | .d x,.d (.int k),some (some (.l xs))=>(ixN xs.length k).bind fun j=>some (.nx (q.2.set i (some (.l (xs.set j x)))))
 | _,_,_=>none
theorem zh8{i:Nat}{te ti:TE}{me mi:ME}(h:VE K te me)(hi:VE K ti mi):VS K pn EX (zgX te (zsu (zf7 i) ti zrI)) (zeC i me mi):=by
 intro σ₀ A H₀ H₁ ρ σ H f D s e k
 replace e:=bind_some e
 obtain⟨w0,e0,e⟩:=e
 replace e:=bind_some e
 obtain⟨⟨a,ρ1⟩,e1,e⟩:=e
 replace e:=bind_some e
 obtain⟨⟨b,ρ2⟩,e2,e⟩:=e
 replace e:=bind_some e
 obtain⟨u,eu,e⟩:=e
 replace e:=bind_some e
 obtain⟨w,ew,e⟩:=e
 obtain⟨v0,ev0,_⟩:=s.rs.rep i w0 (zel e0)
 refine h ρ σ H a ρ1 _ s.rs e1 fun v H1 g1 k1=>⟨v0,ev0,?_⟩
 refine hi ρ1 σ H1 b ρ2 _ g1.rs e2 fun y H2 g2 k2=>?_
 have pv:=k1.later s.rs g1 g2 eu
 have py:=k2.now g1.rs g2 ew
 dsimp only at e
 split at e
 ·rename_i x n xs ex
  replace e:=bind_some e
  obtain⟨j,ej,e⟩:=e
  cases e
  obtain⟨w',ew',p1⟩:=g2.rs.rep i _ ex
  obtain⟨l,us,rfl,hl,ds⟩:=p1
  rw [ev0]at ew'
  cases ew'
  refine⟨l,us,n,j,rfl,DF.int_inv py,hl,by rw [ds.len]; exact ej,k _ _ ((s.go (g1.trans g2)).go (Go.own (u':=.l (xs.set j x)) g2.rs ex rfl ev0 ?_))⟩
  have kp:=zc7 hl trivial (.lst (us.set j v))
  exact⟨l,_,rfl,zG,(ds.kp kp).set (DF.kp kp pv) j⟩
 ·cases e
def zh9:List D->Option (List Key)
 | []=>some []
 | .int i::ds=>(zh9 ds).bind fun ks=>some (.inl i::ks)
 | .str x::ds=>(zh9 ds).bind fun ks=>some (.inr x::ks)
 | _::_=>none
def zbL:D->Option (List Key)
 | .tuple ds=>zh9 ds
 | _=>none
def zja:D->Option Key
 | .int i=>some (.inl i)
 | .str x=>some (.inr x)
 | _=>none
theorem zia:∀ ks:List Key,zh9 (ks.map k1D)=some ks
 | []=>rfl
 | .inl i::ks=>by show(zh9 (ks.map k1D)).bind _=_; rw [zia ks]; rfl
 | .inr x::ks=>by show(zh9 (ks.map k1D)).bind _=_; rw [zia ks]; rfl
theorem zeW(ks:List Key):zbL (kTD ks)=some ks:=zia ks
theorem zkf:∀ {ds:List D} {ks:List Key} {xs:List V},DFs K H xs ds->zh9 ds=some ks->xs=ks.map kV
 | [],ks,xs,h,e=>by cases e; cases h; rfl
 | d::ds,ks,xs,h,e=>by
  cases h with
  | cons h1 t =>
   cases d with
   | int i =>
    obtain⟨ks',e1,e⟩:=bind_some (show(zh9 ds).bind (fun ks=>some (Sum.inl i::ks))=some ks from e)
    cases e
    rw [zkf t e1,DF.int_inv h1]
    rfl
   | str x =>
    obtain⟨ks',e1,e⟩:=bind_some (show(zh9 ds).bind (fun ks=>some (Sum.inr x::ks))=some ks from e)
    cases e
    rw [zkf t e1,DF.str_inv h1]
    rfl
   | _=>cases e
theorem zfT{d:D}{ks:List Key}{v:V}(h:DF K H v d)(e:zbL d=some ks):∃ b,v=.ref b/\H b=some (.tup (ks.map kV)):=by
 cases d with
 | tuple ds =>
  obtain⟨b,xs,rfl,h1,h2⟩:=DF.tup_inv h
  exact⟨b,rfl,by rw [<-zkf h2 e]; exact h1⟩
 | _=>cases e
theorem znu{d:D}{k:Key}{v:V}(h:DF K H v d)(e:zja d=some k):v=kV k:=by
 cases d with
 | int i=>cases e; exact DF.int_inv h
 | str x=>cases e; exact DF.str_inv h
 | _=>cases e
theorem zib:∀ {ks:List Key},DFs K H (ks.map kV) (ks.map k1D)
 | []=>.nil
 | .inl i::ks=>.cons (.int i) zib
 | .inr x::ks=>.cons (.str x) zib
section
variable {κ:Type} [DecidableEq κ]
def zkg(kvs:List (κ×D))(k:κ):Option D:=(kvs.find? fun kv=>decide (kv.1=k)).map (·.2)
def zg2(kvs:List (κ×D))(k:κ)(d:D):List (κ×D):=if(kvs.any fun kv=>decide (kv.1=k))=true then kvs.map (fun kv=>if kv.1=k then(kv.1,d)else kv)else kvs++[(k,d)]
theorem KVd.val{ws:List (κ×V)}{kvs:List (κ×D)}(h:KVd K H ws kvs)(k:κ):(∃ v d,zeq ws k=some v/\zkg kvs k=some d/\DF K H v d)\/(zeq ws k=none/\zkg kvs k=none):=by
 induction h with
 | nil=>exact .inr ⟨rfl,rfl⟩
 | @cons p q ps qs hq t ih =>
  unfold zeq zkg at ih ⊢
  rw [List.find?_cons,List.find?_cons]
  by_cases hk:p.1=k
  ·have hk':q.1=k:=hq.1▸hk
   rw [decide_eq_true hk,decide_eq_true hk']
   exact .inl ⟨_,_,rfl,rfl,hq.2⟩
  ·have hk':¬q.1=k:=fun z=>hk (hq.1.trans z)
   rw [decide_eq_false hk,decide_eq_false hk']
   exact ih
theorem KVd.any{ws:List (κ×V)}{kvs:List (κ×D)}(h:KVd K H ws kvs)(k:κ):(ws.any fun kv=>decide (kv.1=k))=(kvs.any fun kv=>decide (kv.1=k)):=by
 induction h with
 | nil=>rfl
 | @cons p q ps qs hq t ih=>rw [List.any_cons,List.any_cons,ih,hq.1]
theorem KVd.repl{ws:List (κ×V)}{kvs:List (κ×D)}(h:KVd K H ws kvs)(k:κ){v:V}{d:D}(hd:DF K H v d):KVd K H (ws.map fun kv=>if kv.1=k then(kv.1,v)else kv) (kvs.map fun kv=>if kv.1=k then(kv.1,d)else kv):=by
 induction h with
 | nil=>exact .nil
 | @cons p q ps qs hq t ih =>
  refine .cons ?_ ih
  dsimp only
  by_cases hk:p.1=k
  ·have hk':q.1=k:=hq.1▸hk
   rw [if_pos hk,if_pos hk']
   exact⟨hq.1,hd⟩
  ·have hk':¬q.1=k:=fun z=>hk (hq.1.trans z)
   rw [if_neg hk,if_neg hk']
   exact hq
theorem KVd.put{ws:List (κ×V)}{kvs:List (κ×D)}(h:KVd K H ws kvs)(k:κ){v:V}{d:D}(hd:DF K H v d):KVd K H (zdU ws k v) (zg2 kvs k d):=by
 unfold zdU zg2
 rw [h.any k]
 split
 ·exact h.repl k hd
 ·exact Paired.snoc h ⟨rfl,hd⟩
theorem KVd.len{ws:List (κ×V)}{kvs:List (κ×D)}(h:KVd K H ws kvs):ws.length=kvs.length:=Paired.length h
end
def zhA(kvs:List (D×D))(k:List Key):Option D:=(kvs.find? fun kv=>decide (zbL kv.1=some k)).map (·.2)
theorem DFt.val{ws:List (List Key×V)}{kvs:List (D×D)}(h:DFt K H ws kvs)(k:List Key):(∃ v d,zeq ws k=some v/\zhA kvs k=some d/\DF K H v d)\/(zeq ws k=none/\zhA kvs k=none):=by
 induction ws generalizing kvs with
 | nil=>cases h; exact .inr ⟨rfl,rfl⟩
 | cons p ws ih =>
  cases h with
  | @cons k' v d _ ds hv t =>
   unfold zeq zhA at ih ⊢
   rw [List.find?_cons,List.find?_cons]
   by_cases hk:k'=k
   ·have hk':zbL (kTD k')=some k:=by rw [zeW,hk]
    rw [decide_eq_true hk,decide_eq_true hk']
    exact .inl ⟨_,_,rfl,rfl,hv⟩
   ·have hk':¬zbL (kTD k')=some k:=by rw [zeW]; exact fun z=>hk (Option.some.inj z)
    rw [decide_eq_false hk,decide_eq_false hk']
    exact ih t
def zg3(u y:U):Option (Option D):=match u,y with
 | .t kvs,.d y=>(zbL y).map fun k=>zkg kvs k
 | .k kvs,.d y=>(zja y).map fun k=>zkg kvs k
 | .d (.dict kvs),.d y=>if noX kvs=true then(zbL y).map fun k=>zhA kvs k else none
 | _,_=>none
theorem zlb{u y:U}{o:Option D}{x v:V}(hu:Rp K H x u)(hy:Rp K H v y)(e:zg3 u y=some o):∃ a,x=.ref a/\((∃ w d,o=some d/\zjW H a v (some w)/\DF K H w d)\/(o=none/\zjW H a v none)):=by
 unfold zg3 at e
 split at e
 ·rename_i kvs y
  obtain⟨k,ek,rfl⟩:=Option.map_eq_some_iff.mp e
  obtain⟨a,ws,rfl,h1,h2⟩:=hu
  obtain⟨b,rfl,hb⟩:=zfT hy ek
  refine⟨a,rfl,?_⟩
  rcases h2.val k with ⟨w,d,e1,e2,p⟩ | ⟨e1,e2⟩
  ·exact .inl ⟨w,d,e2,.inr ⟨ws,k,b,.inl h1,rfl,hb,e1.symm⟩,p⟩
  ·exact .inr ⟨e2,.inr ⟨ws,k,b,.inl h1,rfl,hb,e1.symm⟩⟩
 ·rename_i kvs y
  obtain⟨k,ek,rfl⟩:=Option.map_eq_some_iff.mp e
  obtain⟨a,ws,rfl,h1,h2⟩:=hu
  cases znu hy ek
  refine⟨a,rfl,?_⟩
  rcases h2.val k with ⟨w,d,e1,e2,p⟩ | ⟨e1,e2⟩
  ·exact .inl ⟨w,d,e2,.inl ⟨ws,k,.inl h1,rfl,e1.symm⟩,p⟩
  ·exact .inr ⟨e2,.inl ⟨ws,k,.inl h1,rfl,e1.symm⟩⟩
 ·rename_i kvs y
  split at e
  rotate_left
  ·cases e
  rename_i nx
  obtain⟨k,ek,rfl⟩:=Option.map_eq_some_iff.mp e
  obtain⟨a,ob,ws,rfl,h1,h2⟩:=DF.dct_inv hu nx
  obtain⟨b,rfl,hb⟩:=zfT hy ek
  refine⟨a,rfl,?_⟩
  rcases h2.val k with ⟨w,d,e1,e2,p⟩ | ⟨e1,e2⟩
  ·exact .inl ⟨w,d,e2,.inr ⟨ws,k,b,.inr ⟨ob,h1⟩,rfl,hb,e1.symm⟩,p⟩
  ·exact .inr ⟨e2,.inr ⟨ws,k,b,.inr ⟨ob,h1⟩,rfl,hb,e1.symm⟩⟩
 ·cases e
def zdq(md my:ME):ME:=fun ρ=>(md ρ).bind fun p=>(my p.2).bind fun q=>(p.1.get q.2).bind fun u=>(q.1.get q.2).bind fun y=>(zg3 u y).bind fun o=>o.bind fun d=>some (.u (.d d),q.2)
theorem zd6{td ty:TE}{md my:ME}(hd:VE K td md)(hy:VE K ty my):VE K (zmU td ty) (zdq md my):=by
 intro ρ σ H a ρ' Q r e q
 obtain⟨⟨a1,ρ1⟩,e1,e⟩:=bind_some e
 obtain⟨⟨b1,ρ2⟩,e2,e⟩:=bind_some e
 obtain⟨u,eu,e⟩:=bind_some e
 obtain⟨y,ey,e⟩:=bind_some e
 obtain⟨o,eo,e⟩:=bind_some e
 obtain⟨d,ed,e⟩:=bind_some e
 cases e
 refine hd ρ σ H a1 ρ1 _ r e1 fun v1 H1 g1 k1=>hy ρ1 σ H1 b1 _ _ g1.rs e2 fun v2 H2 g2 k2=>?_
 obtain⟨b,rfl,h⟩:=zlb (k1.later r g1 g2 eu) (k2.now g1.rs g2 ey) eo
 rcases h with ⟨w,d',rfl,g,p⟩ | ⟨rfl,_⟩
 ·cases ed
  exact⟨b,w,rfl,g,q w H2 (g1.trans g2) ⟨p,Nw.data⟩⟩
 ·cases ed
def zcR:ME:=fun ρ=>some (.u (.t []),ρ)
theorem zeX:VE K zjX zcR:=by
 intro ρ σ H a ρ' Q r e q
 cases e
 intro p hp
 have sm:=zaJ hp (.dT [])
 exact q _ _ (Go.grow r sm) ⟨⟨p,[],rfl,zG,.nil⟩,fun _=>⟨p,rfl,hp⟩⟩
def zeY(i:Nat)(my mv:ME):MS:=fun ρ=>(ρ[i]?).join.bind fun _=>(mv ρ).bind fun p=>(my p.2).bind fun q=>(p.1.get q.2).bind fun x=>(q.1.get q.2).bind fun y=>match x,y,q.2[i]? with
 | .d x,.d y,some (some (.t kvs))=>(zbL y).bind fun k=>if kvs.length < sizeLine then some (.nx (q.2.set i (some (.t (zg2 kvs k x)))))else none
 | .d x,.d y,some (some (.k kvs))=>(zja y).bind fun k=>if kvs.length < sizeLine then some (.nx (q.2.set i (some (.k (zg2 kvs k x)))))else none
 | _,_,_=>none
theorem zic{i:Nat}{ty tv:TE}{my mv:ME}(hy:VE K ty my)(hv:VE K tv mv):VS K pn EX (zmV (zf7 i) ty tv) (zeY i my mv):=by
 intro σ₀ A H₀ H₁ ρ σ H f D s e k
 replace e:=bind_some e
 obtain⟨w0,e0,e⟩:=e
 replace e:=bind_some e
 obtain⟨⟨a,ρ1⟩,e1,e⟩:=e
 replace e:=bind_some e
 obtain⟨⟨b,ρ2⟩,e2,e⟩:=e
 replace e:=bind_some e
 obtain⟨u,eu,e⟩:=e
 replace e:=bind_some e
 obtain⟨w,ew,e⟩:=e
 obtain⟨v0,ev0,_⟩:=s.rs.rep i w0 (zel e0)
 refine hv ρ σ H a ρ1 _ s.rs e1 fun v H1 g1 k1=>⟨v0,ev0,?_⟩
 refine hy ρ1 σ H1 b ρ2 _ g1.rs e2 fun y H2 g2 k2=>?_
 have pv:=k1.later s.rs g1 g2 eu
 have py:=k2.now g1.rs g2 ew
 dsimp only at e
 split at e
 ·rename_i x yd kvs ex
  replace e:=bind_some e
  obtain⟨ks,ek,e⟩:=e
  split at e
  ·rename_i hz
   cases e
   obtain⟨w',ew',p1⟩:=g2.rs.rep i _ ex
   obtain⟨l,us,rfl,hl,ds⟩:=p1
   rw [ev0]at ew'
   cases ew'
   obtain⟨kb,rfl,hkb⟩:=zfT py ek
   refine⟨l,_,rfl,ziR.t hl hkb (by rw [ds.len]; exact hz),k _ _ ((s.go (g1.trans g2)).go (Go.own (u':=.t (zg2 kvs ks x)) g2.rs ex rfl ev0 ?_))⟩
   have kp:=zc7 hl trivial (.dT (zdU us ks v))
   exact⟨l,_,rfl,zG,(ds.kp kp).put ks (DF.kp kp pv)⟩
  ·cases e
 ·rename_i x yd kvs ex
  replace e:=bind_some e
  obtain⟨ks,ek,e⟩:=e
  split at e
  ·rename_i hz
   cases e
   obtain⟨w',ew',p1⟩:=g2.rs.rep i _ ex
   obtain⟨l,us,rfl,hl,ds⟩:=p1
   rw [ev0]at ew'
   cases ew'
   cases znu py ek
   refine⟨l,_,rfl,ziR.k hl (by rw [ds.len]; exact hz),k _ _ ((s.go (g1.trans g2)).go (Go.own (u':=.k (zg2 kvs ks x)) g2.rs ex rfl ev0 ?_))⟩
   have kp:=zc7 hl trivial (.dK (zdU us ks v))
   exact⟨l,_,rfl,zG,(ds.kp kp).put ks (DF.kp kp pv)⟩
  ·cases e
 ·cases e
def zfE:U->Option (List D)
 | .d (.dict kvs)=>if noX kvs=true then some (kvs.map (·.1))else none
 | _=>none
theorem zjb:∀ {ws:List (List Key×V)} {kvs:List (D×D)},DFt K H ws kvs->kvs.map (·.1)=ws.map fun p=>kTD p.1
 | [],_,.nil=>rfl
 | _::_,_,.cons _ t=>by rw [List.map_cons,List.map_cons,zjb t]
theorem zeZ{te:TE}{me:ME}(h:VE K te me):VI K (znf te) (mIt zfE me):=by
 intro ρ σ H ds ρ' R r e q
 obtain⟨⟨a,ρ1⟩,e1,e⟩:=bind_some e
 obtain⟨u,eu,e⟩:=bind_some e
 obtain⟨xs,ex,e⟩:=bind_some e
 cases e
 refine h ρ σ H a _ _ r e1 fun v H1 g1 k1=>?_
 have p:=k1.now r g1 eu
 unfold zfE at ex
 split at ex
 ·split at ex
  rotate_left
  ·cases ex
  rename_i nx
  cases ex
  obtain⟨b,o,ws,rfl,h1,h2⟩:=DF.dct_inv p nx
  refine⟨b,ws,rfl,.inr ⟨o,h1,q _ _ g1 fun H2 k i=>?_⟩⟩
  rw [zjb h2]
  have h1':=k.frz _ _ _ h1
  refine⟨fun d ed=>?_,fun ei=>?_⟩
  ·rw [List.getElem?_map]at ed
   obtain⟨⟨ks,w⟩,ew,rfl⟩:=Option.map_eq_some_iff.mp ed
   refine⟨⟨h1',(List.getElem?_eq_some_iff.mp ew).1⟩,fun x H' y=>?_⟩
   obtain⟨rfl,y⟩:=y
   obtain⟨kb,rfl,hkb⟩:=y ks w ew
   exact⟨fun _ _ z=>z,.tup hkb zib⟩
  ·rw [List.length_map]at ei
   exact⟨h1',Nat.le_of_eq ei.symm⟩
 ·cases ex
end
section
variable {K:PySem.W.Frag} {pn:List Nat} {ρ ρ':En} {σ:St} {H H':Hp}
abbrev MO:=En->Option (Option Int×En)
def zpW(K:PySem.W.Frag)(t:TO)(m:MO):Prop :=
 ∀ (ρ:En) (σ:St) (H:Hp) (o:Option Int) (ρ':En) (Q:Option Int->Hp->Prop),Rs K ρ σ H->m ρ=some (o,ρ')->(∀ H',Go K ρ σ H ρ' H'->Q o H')->t σ H Q
def zbO:MO:=fun ρ=>some (none,ρ)
def zdr(me:ME):MO:=fun ρ=>(me ρ).bind fun p=>(p.1.get p.2).bind fun u=>match u with | .d (.int i)=>some (some i,p.2) | _=>none
theorem zem:zpW K zhN zbO:=fun ρ σ H o ρ' Q r e q=>by cases e; exact q H (Go.refl r)
theorem zen{te:TE}{me:ME}(h:VE K te me):zpW K (zmN te) (zdr me):=by
 intro ρ σ H o ρ' Q r e q
 replace e:=bind_some e
 obtain⟨⟨a,ρ1⟩,e1,e⟩:=e
 replace e:=bind_some e
 obtain⟨u,eu,e⟩:=e
 refine h ρ σ H a ρ1 _ r e1 fun v H1 g1 k1=>?_
 have p:=k1.now r g1 eu
 dsimp only at e
 split at e
 ·rename_i i
  cases e
  exact⟨i,DF.int_inv p,q _ g1⟩
 ·cases e
def zeu(xs:List D)(lo hi:Option Int):List D:=(xs.drop (HT.sIx xs.length 0 lo)).take (HT.sIx xs.length xs.length hi - HT.sIx xs.length 0 lo)
theorem DFs.cut{xs:List V}{ds:List D}(h:DFs K H xs ds)(lo hi:Option Int):DFs K H (zfG xs lo hi) (zeu ds lo hi):=by
 unfold zfG zeu
 rw [h.len]
 exact(h.drop _).take _
def VSl(K:PySem.W.Frag)(r:V->Option Int->Option Int->Hp->VK->Prop)(f:U->Option Int->Option Int->Option U):Prop :=
 ∀ (x:V) (a u:U) (lo hi:Option Int) (H:Hp) (Q:VK),Rp K H x a->f a lo hi=some u->(∀ v H',zbE H H'->Rp K H' v u->Nw H v u->Q v H')->r x lo hi H Q
def mSl(f:U->Option Int->Option Int->Option U)(me:ME)(ml mh:MO):ME:=fun ρ=>(me ρ).bind fun p=>(ml p.2).bind fun l=>(mh l.2).bind fun h=>(p.1.get h.2).bind fun x=>(f x l.1 h.1).bind fun u=>some (.u u,h.2)
theorem zmc{r:V->Option Int->Option Int->Hp->VK->Prop}{f:U->Option Int->Option Int->Option U}{te:TE}{tl th:TO}{me:ME}{ml mh:MO}(hs:VSl K r f)(he:VE K te me)(hl:zpW K tl ml)(hh:zpW K th mh):VE K (tSl r te tl th) (mSl f me ml mh):=by
 intro ρ σ H a ρ' Q rs e q
 obtain⟨⟨a1,ρ1⟩,e1,e⟩:=bind_some e
 obtain⟨⟨lo,ρ2⟩,e2,e⟩:=bind_some e
 obtain⟨⟨hi,ρ3⟩,e3,e⟩:=bind_some e
 obtain⟨x,ex,e⟩:=bind_some e
 obtain⟨u,eu,e⟩:=bind_some e
 cases e
 refine he ρ σ H a1 ρ1 _ rs e1 fun v1 H1 g1 k1=>hl ρ1 σ H1 lo ρ2 _ g1.rs e2 fun H2 g2=>hh ρ2 σ H2 hi _ _ g2.rs e3 fun H3 g3=>?_
 refine hs _ x u lo hi H3 _ (k1.later rs g1 (g2.trans g3) ex) eu fun v H4 s p n=>?_
 have g:=g1.trans (g2.trans g3)
 exact q v H4 (g.trans (Go.grow g.rs s)) ⟨p,n.mono g.dm⟩
def zg4(u:U)(lo hi:Option Int):Option U:=match u with
 | .l xs=>some (.l (zeu xs lo hi))
 | .d (.list xs)=>some (.l (zeu xs lo hi))
 | _=>none
theorem zfU:VSl K (zsS K) zg4:=by
 intro x a u lo hi H Q p e q
 unfold zg4 at e
 split at e
 ·cases e
  obtain⟨b,us,rfl,h1,h2⟩:=p
  refine⟨b,us,rfl,SqL.of h1,fun l hl=>?_⟩
  have sm:=zaJ hl (.lst (zfG us lo hi))
  exact q _ _ sm ⟨l,_,rfl,zG,(h2.cut lo hi).kp sm.kp⟩ fun _=>⟨l,rfl,hl⟩
 ·cases e
  obtain⟨b,us,rfl,h1,h2⟩:=DF.lst_inv p
  refine⟨b,us,rfl,h1.sq,fun l hl=>?_⟩
  have sm:=zaJ hl (.lst (zfG us lo hi))
  exact q _ _ sm ⟨l,_,rfl,zG,(h2.cut lo hi).kp sm.kp⟩ fun _=>⟨l,rfl,hl⟩
 ·cases e
def zv6:V->Option Int->Option Int->Hp->VK->Prop:=fun x lo hi H Q=>∃ a xs,x=.ref a/\H a=some (.tup xs)/\∀ p H',zbE H H'->H' p=some (.tup (zfG xs lo hi))->Q (.ref p) H'
theorem zv7{X:Cx}:SlR X zv6:=by
 intro pins s σ H x v vl vu lo hi sl Q I rx hs pl pu h
 obtain⟨a,xs,rfl,hx',q⟩:=h
 have hx:SqT X.K H a xs:=SqT.of hx'
 by_cases hw:HT.sIx xs.length 0 lo=0/\HT.sIx xs.length xs.length hi=xs.length
 ·cases rx
  obtain⟨its,r,ht,hz⟩:=I.tuple hx
  have hlen:its.toArray.size=xs.length:=by rw [List.size_toArray]; exact r.length.symm
  refine⟨"tuple",_,PyProof.Rows.slot_tuple_getitem.lookup,ht.typeIs,?_⟩
  refine HT.getItem_tuple_all ht hs pl pu (by rw [hlen]; exact hw) ⟨.ref a,H,I,rfl,q a H (zbE.refl _) ?_⟩
  unfold zfG
  rw [hw.1,hw.2]
  simpa using hx'
 ·exact zsO pins s σ H _ v vl vu lo hi sl Q I rx hs pl pu ⟨a,xs,rfl,hx,hw,fun p hp=>q p _ (zaJ hp _) zG⟩
def zkh(u:U)(lo hi:Option Int):Option U:=match u with
 | .d (.tuple xs)=>some (.d (.tuple (zeu xs lo hi)))
 | _=>none
theorem znv:VSl K zv6 zkh:=by
 intro x a u lo hi H Q p e q
 unfold zkh at e
 split at e
 ·cases e
  obtain⟨b,us,rfl,h1,h2⟩:=DF.tup_inv p
  exact⟨b,us,rfl,h1,fun l H' sm hl=>q _ _ sm (.tup hl ((h2.cut lo hi).kp sm.kp)) Nw.data⟩
 ·cases e
def zjc:U->U->Option U
 | .d (.tuple xs),.d (.tuple ys)=>if xs≠[]/\xs.length+ys.length<=sizeLine then some (.d (.tuple (xs++ys)))else none
 | _,_=>none
theorem zpX:VO K (zmP K) zjc:=by
 intro x y a b u H Q ha hb e q
 unfold zjc at e
 split at e
 ·split at e
  ·rename_i xs ys hc
   cases e
   obtain⟨p,us,rfl,h1,h2⟩:=DF.tup_inv ha
   obtain⟨p',us',rfl,h1',h2'⟩:=DF.tup_inv hb
   refine⟨p,p',us,us',rfl,rfl,SqT.of h1,SqT.of h1',?_,by rw [h2.len,h2'.len]; exact hc.2,fun z=>?_,fun _ r hr=>?_⟩
   ·rintro rfl
    cases h2
    exact hc.1 rfl
   ·subst z
    cases h2'
    exact q _ _ (fun _ _ z=>z) (by rw [List.append_nil]; exact .tup h1 h2) Nw.data
   ·have s:=zaJ hr (.tup (us++us'))
    exact q _ _ s (.tup zG ((h2.app h2').kp s.kp)) Nw.data
  ·cases e
 ·cases e
def zv8:List Int->Int->Int
 | [],d=>d
 | n::ns,_=>ns.foldl (fun a b=>if a < b then b else a) n
def zyq:List U->List U->Option U
 | [u],[.d (.int d)]=>u.items.bind fun xs=>(znm xs).map fun ns=>.d (.int (zv8 ns d))
 | _,_=>none
def pk:D->Option (List Int)
 | .tuple [.tuple ks,_]=>znm ks
 | _=>none
end
section
variable {K:PySem.W.Frag} {pn:List Nat} {ρ ρ':En} {σ:St} {H H':Hp}
def zv9(ma:MA):ME:=fun ρ=>(ma ρ).bind fun p=>(zbp p.2 p.1).bind fun us=>match us with
 | [.d (.int j)]=>if(-(2^62)<=j/\j < 2^62)/\j.toNat<=sizeLine then some (.u (.l (zb2 0 j.toNat)),p.2)else none
 | _=>none
def zjd:MT:=fun ρ=>some (true,ρ)
theorem zgu:VT K zs3 zjd:=fun ρ σ H b ρ' Q r e q=>by cases e; exact q H (Go.refl r)
def sV:D->Option V
 | .none=>some .non
 | .bool b=>some (.bl b)
 | .int i=>some (.int i)
 | .str x=>some (.str x)
 | _=>none
theorem zpY{x:D}{v w:V}(h:DF K H v x)(e:sV x=some w):v=w:=by
 cases h<;>cases e<;>rfl
def zai(neg:Bool):U->U->Option U
 | .d x,.d y=>(sV x).bind fun v=>(sV y).bind fun w=>if zsF v w=true then some (.d (.bool (if neg=true then !decide (v=w)else decide (v=w))))else none
 | _,_=>none
theorem zaz:VO K rEq (zai false):=by
 intro x y a b u H Q ha hb e q
 unfold zai at e
 split at e
 ·obtain⟨v,ev,e⟩:=bind_some e
  obtain⟨w,ew,e⟩:=bind_some e
  split at e
  ·rename_i hs
   cases e
   cases zpY ha ev
   cases zpY hb ew
   exact⟨hs,q _ _ (fun _ _ z=>z) (.bl _) Nw.data⟩
  ·cases e
 ·cases e
theorem zeD:VO K rNe (zai true):=by
 intro x y a b u H Q ha hb e q
 unfold zai at e
 split at e
 ·obtain⟨v,ev,e⟩:=bind_some e
  obtain⟨w,ew,e⟩:=bind_some e
  split at e
  ·rename_i hs
   cases e
   cases zpY ha ev
   cases zpY hb ew
   exact⟨hs,q _ _ (fun _ _ z=>z) (.bl _) Nw.data⟩
  ·cases e
 ·cases e
def GWx(nt:Nat)(g:TG):Prop:=∀ (js:List Nat) (σ σ1:St),Wk (c0 nt js σ) σ1->∀ x H (Q:St->Hp->Prop),g x σ1 H Q->g x σ1 H fun σ2 H2=>Wk (c0 nt js σ) σ2/\Q σ2 H2
def zmd(nt:Nat)(g:TGs):Prop:=∀ (js:List Nat) (σ σ1:St),Wk (c0 nt js σ) σ1->∀ x H (Q:St->Hp->Prop),g x σ1 H Q->g x σ1 H fun σ2 H2=>Wk (c0 nt js σ) σ2/\Q σ2 H2
theorem znw{nt i:Nat}(h:i < nt):GWx nt (zcY i):=by
 intro js σ σ1 w x H Q q
 refine⟨⟨by rw [List.length_set]; exact w.1,fun j v e=>?_⟩,q⟩
 have ne:i≠j:=by
  rintro rfl
  rw [zhT h]at e
  cases e
 rw [List.getElem?_set_ne ne]
 exact w.2 j v e
theorem znx{nt:Nat}:zmd nt zpf:=fun js σ σ1 w x H Q q=>⟨q.1,w,q.2⟩
theorem zme{nt:Nat}{g:TG}{gs:TGs}(h1:GWx nt g)(h2:zmd nt gs)(mono:∀ v σ H (Q Q':St->Hp->Prop),(∀ σ' H',Q σ' H'->Q' σ' H')->g v σ H Q->g v σ H Q'):zmd nt (ziL g gs):=by
 intro js σ σ1 w x H Q q
 obtain⟨v,r,e,k⟩:=q
 refine⟨v,r,e,mono _ _ _ _ _ (fun σ' H' ⟨w',q'⟩=>?_) (h1 js σ σ1 w v H _ k)⟩
 exact h2 js σ σ' w' r H' Q q'
theorem zpZ{nt n:Nat}{gs:TGs}(h:zmd nt gs):GWx nt (zph K n gs):=by
 intro js σ σ1 w x H Q q
 obtain⟨a,xs,e,s,l,k⟩:=q
 exact⟨a,xs,e,s,l,h js σ σ1 w xs H Q k⟩
theorem zwa{nt:Nat}{js:List Nat}{g:TG}(h:GWx nt g):∀ σ:St,GW (c0 nt js σ) g:=fun σ x H Q q=>h js σ _ ⟨rfl,fun _ _ e=>e⟩ x H Q q
theorem zmf{i:Nat}:∀ v σ H (Q Q':St->Hp->Prop),(∀ σ' H',Q σ' H'->Q' σ' H')->zcY i v σ H Q->zcY i v σ H Q':=fun v σ H Q Q' h q=>h _ _ q
theorem zhB{nt i:Nat}{gs:TGs}(h:i < nt)(h2:zmd nt gs):zmd nt (ziL (zcY i) gs):=zme (znw h) h2 zmf
theorem ztt{F:FD}{a:Addr}{ns:List Int}{E:XK}(hO:zpB H)(hS:SqL K H a (ns.map V.int))(h:∃ outs,F [.d (.list (ns.map .int))]=some (.d (.bool true),outs)):spV K 1 F [.ref a] H (fun v _=>v=.bl true) E:=by
 obtain⟨outs,ho⟩:=h
 have pl:PL K H a (ns.map V.int):=by
  rcases hS with (h | ⟨o,h⟩) | h
  ·rcases hO a with z | ⟨o,xs,z⟩
   ·rw [z]at h; cases h
   ·rw [z]at h; cases h
  ·exact .inl ⟨o,h⟩
  ·exact .inr h
 have dd:DFs K H (ns.map V.int) (ns.map PyData.int):=by
  clear ho hS pl
  induction ns with
  | nil=>exact .nil
  | cons n ns ih=>exact .cons (.int n) ih
 refine⟨[.d (.list (ns.map .int))],.d (.bool true),outs,rfl,⟨rfl,fun i u e=>?_,fun i j u w ei ej ou ow es=>?_⟩,ho,fun v H' g p n=>DF.bl_inv p⟩
 ·have e':=zck.mp e
  cases i with
  | zero=>cases e'; exact⟨.ref a,rfl,DF.lst pl dd⟩
  | succ i=>simp at e'
 ·have e':=zck.mp ei
  cases i with
  | zero=>cases e'; cases ou
  | succ i=>simp at e'
end
section
variable {ρ:En} {me ma mb mk mi md my mv:ME} {mA mK:MA} {mt mu:MT} {m1 m2:MS} {i j:Nat} {u:U} {x:D} {f:U->U->Option U}
theorem bd{α β:Type}{a:α}{f:α->Option β}:(some a).bind f=f a:=rfl
theorem zwb{u:U}:Ar.get ρ (.u u)=some u:=rfl
theorem ztu:Ar.get ρ (.s i)=(ρ[i]?).join:=rfl
theorem zp0{u:U}:(some (some u)).join=some u:=rfl
theorem ztv:ze i ρ=(ρ[i]?).join.bind fun _=>some (.s i,ρ):=by
 unfold ze
 cases ρ[i]? with
 | none=>rfl
 | some o=>cases o<;>rfl
theorem zxS:mC x ρ=some (.u (.d x),ρ):=rfl
theorem zwc:mOp f ma mb ρ=(ma ρ).bind fun p=>(mb p.2).bind fun q=>(p.1.get q.2).bind fun x=>(q.1.get q.2).bind fun y=>(f x y).bind fun u=>some (.u u,q.2):=rfl
theorem zwd{f:U->Option U}:mUn f ma ρ=(ma ρ).bind fun p=>(p.1.get p.2).bind fun x=>(f x).bind fun u=>some (.u u,p.2):=rfl
theorem ztw:zm ρ=some ([],ρ):=rfl
theorem zp1:zb me mA ρ=(me ρ).bind fun p=>(mA p.2).bind fun q=>some (p.1::q.1,q.2):=rfl
theorem zny:zbp ρ []=some []:=rfl
theorem zmg{a:Ar}{as:List Ar}:zbp ρ (a::as)=(a.get ρ).bind fun u=>(zbp ρ as).bind fun us=>some (u::us):=rfl
theorem zmh:zcv []=some []:=rfl
theorem zki{us:List U}:zcv (.d x::us)=(zcv us).bind fun xs=>some (x::xs):=rfl
theorem ztx:zY mA ρ=(mA ρ).bind fun p=>(zbp p.2 p.1).bind fun us=>(zcv us).bind fun ds=>if ds.length<=sizeLine then some (.u (.d (.tuple ds)),p.2)else none:=rfl
theorem zty:zbq mA ρ=(mA ρ).bind fun p=>(zbp p.2 p.1).bind fun us=>(zcv us).bind fun ds=>if ds.length<=sizeLine then some (.u (.l ds),p.2)else none:=rfl
theorem zwe{f:List U->Option U}:mCB f mA ρ=(mA ρ).bind fun p=>(zbp p.2 p.1).bind fun us=>(f us).bind fun u=>some (.u u,p.2):=rfl
theorem ztz{f:FD}:zx f mA ρ=(mA ρ).bind fun p=>if zdE p.2 p.1=true then(zbp p.2 p.1).bind fun us=>(f us).bind fun o=>some (.u o.1,wb p.2 p.1 o.2)else none:=rfl
theorem znz:zdE ρ []=true:=rfl
theorem ztA{as:List Ar}:zdE ρ (.u u::as)=zdE ρ as:=rfl
theorem ztB{as:List Ar}:zdE ρ (.s j::as)=((match ρ[j]? with | some (some u)=>!u.own || !(as.any fun a=>match a with | .s k=>decide (k=j) | _=>false) | _=>true) && zdE ρ as):=rfl
theorem zxT{as:List Ar}{o:U}{os:List U}:wb ρ (.s j::as) (o::os)=wb (ρ.set j (some o)) as os:=rfl
theorem zxU{as:List Ar}{o:U}{os:List U}:wb ρ (.u u::as) (o::os)=wb ρ as os:=rfl
theorem ztC:wb ρ [] []=ρ:=rfl
def znA(m2:MS):Fl->Option Fl
 | .nx ρ'=>m2 ρ'
 | f=>some f
theorem bind_fn{α β:Type}{o:Option α}{f g:α->Option β}(h:∀ a,f a=g a):o.bind f=o.bind g:=by cases o with | none=>rfl | some a=>exact h a
theorem ztD:zv m1 m2 ρ=(m1 ρ).bind (znA m2):=bind_fn fun f=>by cases f<;>rfl
theorem zp2:znA m2 (.nx ρ)=m2 ρ:=rfl
theorem zp3:znA m2 (.ex x ρ)=some (.ex x ρ):=rfl
theorem zp4:znA m2 (.rt u ρ)=some (.rt u ρ):=rfl
def U.dat:U->Option U
 | .d x=>some (.d x)
 | _=>none
theorem zwf:U.dat (.d x)=some (.d x):=rfl
theorem zwg:put (.s i,ρ)=(ρ[i]?).join.bind fun u=>u.dat.bind fun d=>some (d,ρ):=by
 unfold put
 dsimp only
 cases ρ[i]? with
 | none=>rfl
 | some o =>
  cases o with
  | none=>rfl
  | some u=>cases u<;>rfl
theorem zwh:put (.u u,ρ)=some (u,ρ):=rfl
theorem znB:zK i me ρ=(me ρ).bind fun p=>(put p).bind fun q=>some (.nx (q.2.set i (some q.1))):=rfl
theorem ztE:zaq me ρ=(me ρ).bind fun p=>(put p).bind fun q=>some (.rt q.1 q.2):=rfl
theorem zp5{pn:List Nat}:zd3 pn i ρ=if i∈pn then none else(ρ[i]?).join.bind fun u=>some (.rt u (ρ.set i none)):=by
 unfold zd3
 split
 ·rfl
 ·cases ρ[i]? with
  | none=>rfl
  | some o=>cases o<;>rfl
theorem zp6:zU ρ=some (.nx ρ):=rfl
theorem zp7:za9 me ρ=(me ρ).bind fun p=>some (.nx p.2):=rfl
theorem ztF:zah mt m1 m2 ρ=(mt ρ).bind fun p=>if p.1=true then m1 p.2 else m2 p.2:=rfl
def U.bol:U->Option Bool
 | .d (.bool b)=>some b
 | _=>none
theorem zwi{b:Bool}:U.bol (.d (.bool b))=some b:=rfl
theorem zxV:mB me ρ=(me ρ).bind fun p=>(p.1.get p.2).bind fun u=>u.bol.bind fun b=>some (b,p.2):=by
 unfold mB
 congr 1
 funext p
 congr 1
 funext u
 cases u with
 | d x=>cases x<;>rfl
 | l=>rfl
 | t=>rfl
 | k=>rfl
theorem ztG:zdm mt mu ρ=(mt ρ).bind fun p=>if p.1=true then mu p.2 else some (false,p.2):=rfl
theorem zwj:mOr mt mu ρ=(mt ρ).bind fun p=>if p.1=true then some (true,p.2)else mu p.2:=rfl
theorem ztH:zpQ mt ρ=(mt ρ).bind fun p=>some (!p.1,p.2):=rfl
theorem ztI:zpR ma ρ=(ma ρ).bind fun p=>(p.1.get p.2).bind fun u=>u.tru.bind fun b=>some (b,p.2):=rfl
theorem zp8{n:Int}:U.tru (.d (.int n))=some (n != 0):=rfl
theorem ztJ:zjd ρ=some (true,ρ):=rfl
def U.lo:U->Option (List D)
 | .l xs=>some xs
 | _=>none
theorem zxW{xs:List D}:U.lo (.l xs)=some xs:=rfl
def U.da:U->Option D
 | .d x=>some x
 | _=>none
theorem zxX:U.da (.d x)=some x:=rfl
def U.num:U->Option Int
 | .d (.int i)=>some i
 | _=>none
theorem zwk{n:Int}:U.num (.d (.int n))=some n:=rfl
theorem ztK:zb7 i me ρ=(ρ[i]?).join.bind fun w=>w.lo.bind fun _=>(me ρ).bind fun p=>(p.1.get p.2).bind fun u=>u.da.bind fun x=>(p.2[i]?).join.bind fun w=>w.lo.bind fun xs=>if xs.length < sizeLine then some (.u (.d .none),p.2.set i (some (.l (xs++[x]))))else none:=by
 unfold zb7
 cases ρ[i]? with
 | none=>rfl
 | some o =>
  cases o with
  | none=>rfl
  | some w =>
   cases w with
   | l xs0 =>
    show((me ρ).bind _)=((me ρ).bind _)
    congr 1
    funext p
    congr 1
    funext u
    cases u with
    | d x =>
     show(match U.d x,p.2[i]? with | .d x,some (some (.l xs))=>_ | _,_=>none)=((p.2[i]?).join.bind _)
     cases p.2[i]? with
     | none=>rfl
     | some o =>
      cases o with
      | none=>rfl
      | some w=>cases w<;>rfl
    | l=>rfl
    | t=>rfl
    | k=>rfl
   | d=>rfl
   | t=>rfl
   | k=>rfl
theorem znC:zeC i me mi ρ=(ρ[i]?).join.bind fun _=>(me ρ).bind fun p=>(mi p.2).bind fun q=>(p.1.get q.2).bind fun u=>(q.1.get q.2).bind fun w=>u.da.bind fun x=>w.num.bind fun k=>(q.2[i]?).join.bind fun z=>z.lo.bind fun xs=>(ixN xs.length k).bind fun j=>some (.nx (q.2.set i (some (.l (xs.set j x))))):=by
 unfold zeC
 congr 1; funext _; congr 1; funext p; congr 1; funext q; congr 1; funext u; congr 1; funext w
 cases u with
 | d x =>
  cases w with
  | d y =>
   cases y with
   | int k =>
    show(match U.d x,U.d (.int k),q.2[i]? with | .d x,.d (.int k),some (some (.l xs))=>_ | _,_,_=>none)=((q.2[i]?).join.bind _)
    cases q.2[i]? with
    | none=>rfl
    | some o =>
     cases o with
     | none=>rfl
     | some w=>cases w<;>rfl
   | _=>rfl
  | l=>rfl
  | t=>rfl
  | k=>rfl
 | l=>rfl
 | t=>rfl
 | k=>rfl
def U.pd:U->Option (List (List Key×D))
 | .t kvs=>some kvs
 | _=>none
theorem zp9:zdq md my ρ=(md ρ).bind fun p=>(my p.2).bind fun q=>(p.1.get q.2).bind fun u=>(q.1.get q.2).bind fun y=>(zg3 u y).bind fun o=>o.bind fun d=>some (.u (.d d),q.2):=rfl
theorem znD:zcR ρ=some (.u (.t []),ρ):=rfl
def kFz(x:D):Ar×En->En
 | (.s i,ρ)=>ρ.set i (some (.d x))
 | (.u _,ρ)=>ρ
theorem zwl:mFz me ρ=(me ρ).bind fun p=>(p.1.get p.2).bind fun u=>u.fz.bind fun x=>some (.u (.d x),kFz x p):=by
 unfold mFz
 congr 1; funext p; congr 1; funext u; congr 1; funext x
 obtain⟨a,ρ1⟩:=p
 cases a<;>rfl
theorem zwm:kFz x (.s i,ρ)=ρ.set i (some (.d x)):=rfl
theorem zwn:kFz x (.u u,ρ)=ρ:=rfl
theorem zxY:U.fz (.d x)=some x:=rfl
theorem zxZ{xs:List D}:U.fz (.l xs)=some (.list xs):=rfl
theorem zx0{kvs:List (List Key×D)}:U.fz (.t kvs)=some (.dict (kvs.map fun p=>(kTD p.1,p.2))):=rfl
theorem zwo{g:U->Option (List D)}:mIt g me ρ=(me ρ).bind fun p=>(p.1.get p.2).bind fun u=>(g u).bind fun ds=>some (ds,p.2):=rfl
theorem ztL{xs:List D}:znp (.d (.list xs))=some xs:=rfl
theorem zqa{kvs:List (D×D)}:zfE (.d (.dict kvs))=if noX kvs=true then some (kvs.map (·.1))else none:=rfl
def zqb:List U->Option (List D)
 | [.d (.int j)]=>if -(2^62)<=j/\j < 2^62 then some (zb2 0 j.toNat)else none
 | _=>none
theorem ztM{n:Int}:zqb [.d (.int n)]=if -(2^62)<=n/\n < 2^62 then some (zb2 0 n.toNat)else none:=rfl
theorem zqc:zcm mA ρ=(mA ρ).bind fun p=>(zbp p.2 p.1).bind fun us=>(zqb us).bind fun ds=>some (ds,p.2):=bind_fn fun p=>bind_fn fun us=>match us with
 | []=>rfl
 | [.d (.int j)]=>by
  show(if _ then _ else _)=(if _ then _ else _:Option (List D)).bind _
  split<;>rfl
 | [.d .none]=>rfl
 | [.d (.bool _)]=>rfl
 | [.d (.str _)]=>rfl
 | [.d (.list _)]=>rfl
 | [.d (.tuple _)]=>rfl
 | [.d (.dict _)]=>rfl
 | [.l _]=>rfl
 | [.t _]=>rfl
 | [.k _]=>rfl
 | .d x::b::us=>by cases x<;>rfl
 | .l x::b::us=>rfl
 | .t x::b::us=>rfl
 | .k x::b::us=>rfl
theorem ztN{mI:MI}{mg:MG}:zdb mI mg m1 ρ=(mI ρ).bind fun p=>zcy mg m1 p.1 p.2:=rfl
theorem zwp{mI:MI}{nt:Nat}{js:List Nat}{mg:MG}:mLC mI nt js mg mt me ρ=(mI ρ).bind fun p=>(lcM nt mg mt me p.1 (cEn nt js p.2) []).bind fun q=>some (.u (.l q.1),back js (q.2.drop nt) p.2):=rfl
theorem zwq{f:U->Option Int->Option Int->Option U}{ml mh:MO}:mSl f me ml mh ρ=(me ρ).bind fun p=>(ml p.2).bind fun l=>(mh l.2).bind fun h=>(p.1.get h.2).bind fun x=>(f x l.1 h.1).bind fun u=>some (.u u,h.2):=rfl
theorem zmi:zbO ρ=some (none,ρ):=rfl
theorem zqd:zdr me ρ=(me ρ).bind fun p=>(p.1.get p.2).bind fun u=>u.num.bind fun i=>some (some i,p.2):=bind_fn fun p=>bind_fn fun u=>by
 cases u with
 | d x=>cases x<;>rfl
 | l=>rfl
 | t=>rfl
 | k=>rfl
def ztO:List U->Option (D×D)
 | [.d x,.d y]=>some (x,y)
 | _=>none
theorem ztP{y:D}:ztO [.d x,.d y]=some (x,y):=rfl
theorem ztQ:znq i j mA ρ=(mA ρ).bind fun p=>(zbp p.2 p.1).bind fun us=>(ztO us).bind fun z=>some (.nx ((p.2.set i (some (.d z.1))).set j (some (.d z.2)))):=by
 refine bind_fn fun p=>bind_fn fun us=>?_
 match us with
 | []=>rfl
 | [a]=>cases a<;>rfl
 | [.d x,.d y]=>rfl
 | [.d x,.l y]=>rfl
 | [.d x,.t y]=>rfl
 | [.d x,.k y]=>rfl
 | [.l x,b]=>rfl
 | [.t x,b]=>rfl
 | [.k x,b]=>rfl
 | a::b::c::us=>cases a<;>(try rfl)<;>(cases b<;>rfl)
theorem ztR{mg:MG}:zda me mg ρ=(me ρ).bind fun p=>(p.1.get p.2).bind fun u=>u.da.bind fun d=>(mg d p.2).bind fun ρ'=>some (.nx ρ'):=by
 unfold zda
 congr 1; funext p; congr 1; funext u
 cases u<;>rfl
theorem znE:zH i x ρ=some (ρ.set i (some (.d x))):=rfl
theorem zqe{n:Nat}{gs:List D->En->Option En}{ds:List D}:zbG n gs (.tuple ds) ρ=if ds.length=n then gs ds ρ else none:=rfl
theorem znF{g:MG}{gs:List D->En->Option En}{ds:List D}:zaf g gs (x::ds) ρ=(g x ρ).bind fun ρ1=>gs ds ρ1:=rfl
theorem zqf:zb0 [] ρ=some ρ:=rfl
theorem zhC{c:Int->Int->Prop}{g:Int->Int->D}{a b:Int}(h:c a b):fIC c g (.d (.int a)) (.d (.int b))=some (.d (g a b)):=by
 unfold fIC
 dsimp only
 rw [if_pos h]
theorem zwr{a b:Int}:za3 (.d (.int a)) (.d (.int b))=some (.d (.int (a+b))):=rfl
theorem zws{a b:Int}:zd1 (.d (.int a)) (.d (.int b))=some (.d (.int (a - b))):=rfl
theorem zrU{a b:Int}(h:zlQ a b):zdC (.d (.int a)) (.d (.int b))=some (.d (.int (a * b))):=zhC h
theorem zwt{a b:Int}(h:0 < b):zdV (.d (.int a)) (.d (.int b))=some (.d (.int (a % b))):=zhC (c:=fun _ j=>0 < j) h
theorem zgv{a b:Int}(h:zeO a b):zcZ (.d (.int a)) (.d (.int b))=some (.d (.int (a / b))):=zhC h
theorem zid{a b:Int}(h:zht a b):zk2 (.d (.int a)) (.d (.int b))=some (.d (.int (a.fdiv b))):=zhC h
theorem zwu{a b:Int}(h:zpj a b):znk (.d (.int a)) (.d (.int b))=some (.d (.int (a^b.toNat))):=zhC h
theorem zx1{a b:Int}:fLt (.d (.int a)) (.d (.int b))=some (.d (.bool (decide (a < b)))):=rfl
theorem zx2{a b:Int}:fGt (.d (.int a)) (.d (.int b))=some (.d (.bool (decide (b < a)))):=rfl
theorem zx3{a b:Int}:fGe (.d (.int a)) (.d (.int b))=some (.d (.bool (decide (b<=a)))):=rfl
theorem zwv{a:Int}:zgo (.d (.int a))=some (.d (.int (-a))):=rfl
theorem zww{a:Int}:zi4 (.d (.int a))=some (.d (.int (if a < 0 then -a else a))):=rfl
theorem ztS{b:Bool}:zeT (.d (.bool b))=some (.d (.int (if b then 1 else 0))):=rfl
theorem ztT{a b:Int}:zi5 [.d (.int a),.d (.int b)]=some (.d (.int (if b > a then b else a))):=rfl
theorem zx4{f:U->Option U}:f1 f [u]=f u:=rfl
theorem zwx{xs:List D}:zbF (.l xs)=some (.d (.int xs.length)):=rfl
theorem zwy{xs:List D}:zbF (.d (.tuple xs))=some (.d (.int xs.length)):=rfl
theorem zwz{xs:List D}:zbF (.d (.list xs))=some (.d (.int xs.length)):=rfl
theorem zqg{xs:List D}:zcC (.l xs)=some (.d (.tuple xs)):=rfl
theorem zwA{xs:List D}{k:Int}:zaS (.l xs) (.d (.int k))=(atI xs k).map .d:=rfl
theorem zwB{xs:List D}{k:Int}:zaS (.d (.list xs)) (.d (.int k))=(atI xs k).map .d:=rfl
theorem zwC{xs:List D}{k:Int}:zJ (.d (.tuple xs)) (.d (.int k))=(atI xs k).map .d:=rfl
theorem zwD{xs:List D}{lo hi:Option Int}:zg4 (.l xs) lo hi=some (.l (zeu xs lo hi)):=rfl
theorem zwE{xs:List D}{lo hi:Option Int}:zg4 (.d (.list xs)) lo hi=some (.l (zeu xs lo hi)):=rfl
theorem zwF{a b:Int}:zai false (.d (.int a)) (.d (.int b))=some (.d (.bool (decide (a=b)))):=by
 show some (U.d (.bool (decide (V.int a=V.int b))))=_
 congr 3
 exact decide_eq_decide.mpr ⟨fun h=>by cases h; rfl,fun h=>by rw [h]⟩
theorem zwG{a b:Int}:zai true (.d (.int a)) (.d (.int b))=some (.d (.bool (!decide (a=b)))):=by
 show some (U.d (.bool (!decide (V.int a=V.int b))))=_
 congr 4
 exact decide_eq_decide.mpr ⟨fun h=>by cases h; rfl,fun h=>by rw [h]⟩
theorem zwH{a b:Str}:zai false (.d (.str a)) (.d (.str b))=some (.d (.bool (decide (a=b)))):=by
 show some (U.d (.bool (decide (V.str a=V.str b))))=_
 congr 3
 exact decide_eq_decide.mpr ⟨fun h=>by cases h; rfl,fun h=>by rw [h]⟩
theorem zwI{a b:Str}:zai true (.d (.str a)) (.d (.str b))=some (.d (.bool (!decide (a=b)))):=by
 show some (U.d (.bool (!decide (V.str a=V.str b))))=_
 congr 4
 exact decide_eq_decide.mpr ⟨fun h=>by cases h; rfl,fun h=>by rw [h]⟩
def zqh(pn:List Nat)(us:List U):Fl->Option (U×List U)
 | .rt u ρ=>(zaU pn ρ 0 us).bind fun os=>some (u,os)
 | .nx ρ=>(zaU pn ρ 0 us).bind fun os=>some (.d .none,os)
 | _=>none
theorem ztU{n:Nat}{pn:List Nat}{us:List U}:zb3 n pn m1 us=(m1 (sm us++List.replicate (n - us.length) none)).bind (zqh pn us):=by
 exact bind_fn fun f=>by cases f<;>rfl
theorem zqi{pn:List Nat}{us:List U}:zqh pn us (.rt u ρ)=(zaU pn ρ 0 us).bind fun os=>some (u,os):=rfl
theorem znG{pn:List Nat}{n:Nat}:zaU pn ρ n []=some []:=rfl
theorem zmj{pn:List Nat}{n:Nat}{us:List U}:zaU pn ρ n (u::us)=(if n∈pn then(ρ[n]?).join.bind fun o=>if o.own=true/\u.own=false then none else some o else if u.own=true then none else some u).bind fun o=>(zaU pn ρ (n+1) us).bind fun os=>some (o::os):=rfl
theorem zwJ:U.own (.d x)=false:=rfl
theorem zwK{xs:List D}:U.own (.l xs)=true:=rfl
theorem ztV:sm []=[]:=rfl
theorem zqj{us:List U}:sm (u::us)=some u::sm us:=rfl
theorem zx5{α:Type}{a:α}{xs:List α}:atI (a::xs) 0=some a:=by
 unfold atI ixN
 rw [if_pos (by decide),if_pos (by simp only [List.length_cons]; omega)]
 rfl
theorem zx6{α:Type}{a b:α}{xs:List α}:atI (a::b::xs) 1=some b:=by
 unfold atI ixN
 rw [if_pos (by decide),if_pos (by simp only [List.length_cons]; omega)]
 rfl
theorem zx7{α:Type}{a b c:α}{xs:List α}:atI (a::b::c::xs) 2=some c:=by
 unfold atI ixN
 rw [if_pos (by decide),if_pos (by simp only [List.length_cons]; omega)]
 rfl
theorem zx8{n:Nat}:ixN (n+1) 0=some 0:=by
 unfold ixN
 rw [if_pos (by decide),if_pos (by omega)]
 rfl
theorem zx9{n:Nat}:ixN (n+1+1) 1=some 1:=by
 unfold ixN
 rw [if_pos (by decide),if_pos (by omega)]
 rfl
theorem zya{a b:Int}(h:b.natAbs < 18446744073709551616):zdC (.d (.int a)) (.d (.int b))=some (.d (.int (a * b))):=zrU (.inr ⟨by omega,by omega⟩)
theorem zyb{a b:Int}(h:a.natAbs < 18446744073709551616):zdC (.d (.int a)) (.d (.int b))=some (.d (.int (a * b))):=zrU (.inl ⟨by omega,by omega⟩)
theorem zyc{a b:Int}(h:0 < b):zdV (.d (.int a)) (.d (.int b))=some (.d (.int (a % b))):=zwt h
theorem zyd{a b:Int}(h:0 < b)(h2:b<=340282366920938463463374607431768211456):zcZ (.d (.int a)) (.d (.int b))=some (.d (.int (a / b))):=zgv (zpD h (by omega))
theorem zye{a b:Int}(h:0<=b)(h2:b<=1000000)(h3:a.natAbs < 18446744073709551616):znk (.d (.int a)) (.d (.int b))=some (.d (.int (a^b.toNat))):=zwu ⟨h,h2,by omega⟩
theorem zl:sizeLine=16777216:=rfl
theorem zqk{nt:Nat}:reset nt ρ=List.replicate nt none++ρ.drop nt:=rfl
theorem zwL{nt:Nat}{js:List Nat}:cEn nt js ρ=List.replicate nt none++js.map fun j=>ρ.getD j none:=rfl
def noS(j:Nat):List Ar->Bool
 | []=>true
 | .u _::as=>noS j as
 | .s k::as=>!decide (k=j) && noS j as
theorem zkj{j:Nat}:∀ {as:List Ar},noS j as=!(as.any fun a=>match a with | .s k=>decide (k=j) | _=>false)
 | []=>rfl
 | .u _::as=>by rw [List.any_cons]; exact zkj (as:=as)
 | .s k::as=>by
  unfold noS
  rw [List.any_cons,zkj (as:=as),Bool.not_or]
def dAt:Option U->Bool
 | some u=>!u.own
 | none=>true
theorem zwM:dAt (some (.d x))=true:=rfl
theorem zwN{xs:List D}:dAt (some (.l xs))=false:=rfl
theorem zql:noS j []=true:=rfl
theorem zwO{as:List Ar}:noS j (.u u::as)=noS j as:=rfl
theorem zwP{k:Nat}{as:List Ar}:noS j (.s k::as)=(!decide (k=j) && noS j as):=rfl
theorem zqm{as:List Ar}:zdE ρ (.s j::as)=((noS j as || dAt (ρ[j]?).join) && zdE ρ as):=by
 rw [ztB,zkj]
 congr 1
 cases ρ[j]? with
 | none=>simp [dAt]
 | some o =>
  cases o with
  | none=>simp [dAt]
  | some u=>simp [dAt,Bool.or_comm]
theorem ztW{js:List Nat}{us:List (Option U)}:back (j::js) (some u::us) ρ=back js us (ρ.set j (some u)):=rfl
theorem ztX{us:List (Option U)}:back [] us ρ=ρ:=by cases us<;>rfl
theorem znH(ks:List Int):kTD (ks.map Sum.inl)=.tuple (ks.map PyData.int):=by
 unfold kTD
 rw [List.map_map]
 rfl
end
structure XT (K:PySem.W.Frag) (tab:List (Str×List Str)) (fl:List Str):Prop where
 cl:∀ n ups C,tab.lookup n=some ups->XN K n C->XI K C/\∀ f∈fl,zcM K C f
 is:∀ n ups C,tab.lookup n=some ups->XN K n C->∀ c C',(tab.lookup c).isSome=true->XN K c C'->PySem.W.kitOne K (.ref C) (.ref C')=some (decide (c=n) || ups.contains c)
 isT:∀ n ups C,tab.lookup n=some ups->XN K n C->PySem.W.kitOne K (.ref C) (.type "ValueError")=some (ups.contains ("ValueError":Str))
def zqn(f:Str):List (D×D)->Option D
 | (.str g,d)::ds=>if f=g then some d else zqn f ds
 | _=>none
section
variable {K:PySem.W.Frag} {tab:List (Str×List Str)} {fl:List Str} {f n:Str} {H:Hp}
theorem DFf.get:∀ {fs:List (Str×V)} {ds:List (D×D)} {d:D},DFf K H fs ds->zqn f ds=some d->∃ v,fs.lookup f=some v/\DF K H v d
 | _,_,_,.nil,e=>by cases e
 | _,_,d,.cons (k:=k) (v:=v) (vs:=vs) h t,e=>by
  unfold zqn at e
  rw [List.lookup_cons]
  split at e
  ·rename_i q
   cases e
   exact⟨v,by rw [show(f==k)=true from beq_iff_eq.mpr q],h⟩
  ·rename_i q
   obtain⟨w,e1,e2⟩:=DFf.get t e
   exact⟨w,by rw [show(f==k)=false from beq_eq_false_iff_ne.mpr q]; exact e1,e2⟩
theorem DF.exc_inv{v:V}{ds:List (D×D)}(h:DF K H v (.dict ((.none,.str n)::ds))):∃ a C fs,v=.ref a/\XV H a C fs/\XN K n C/\DFf K H fs ds:=by
 generalize eq:(PyData.dict ((.none,.str n)::ds))=z at h
 cases h with
 | dct h t =>
  cases eq
  generalize eq2:((PyData.none,PyData.str n)::ds)=y at t
  cases t with
  | nil=>cases eq2
  | cons=>cases eq2
 | exc h e t=>cases eq; exact⟨_,_,_,rfl,h,e,t⟩
 | _=>cases eq
def zrV(K:PySem.W.Frag)(f:Str):V->Hp->VK->Prop:=fun x H Q=>∃ a C fs v,x=.ref a/\XV H a C fs/\XC K C/\zcM K C f/\fs.lookup f=some v/\Q v H
def zje(tab:List (Str×List Str))(f:Str):U->Option U
 | .d (.dict ((.none,.str n)::ds))=>if(tab.lookup n).isSome=true then(zqn f ds).map .d else none
 | _=>none
theorem zlc(T:XT K tab fl)(hf:f∈fl):VU K (zrV K f) (zje tab f):=by
 intro x a u H Q h e q
 unfold zje at e
 split at e
 ·rename_i n ds
  split at e
  ·rename_i hn
   obtain⟨ups,hu⟩:=Option.isSome_iff_exists.mp hn
   obtain⟨d,ed,rfl⟩:=Option.map_eq_some_iff.mp e
   obtain⟨a,C,fs,rfl,xv,xn,t⟩:=DF.exc_inv h
   obtain⟨v,ev,hv⟩:=t.get ed
   obtain⟨c1,c2⟩:=T.cl n ups C hu xn
   exact⟨a,C,fs,v,rfl,xv,c1.cl,c2 f hf,ev,q v H (zbE.refl H) hv Nw.data⟩
  ·cases e
 ·cases e
end
section
variable {K:PySem.W.Frag} {tab:List (Str×List Str)} {fl:List Str} {f n:Str} {H:Hp}
def spI(K:PySem.W.Frag)(f:Str):Sp:=fun vs H Q _=>∃ a C p v,vs=[.ref a,v]/\H a=some (zj5 a C p)/\XC K C/\zcM K C f /\
 ∀ dx ox od,H dx=none->dx≠a->ox.cls=.ref C->ox.dict=some dx->PySem.W.notCls ox=true->ox={ zfJ C p with dict:=some dx }->Q .non (upd (upd H dx (.frz od (.xd [(f,v)]))) a (.frz ox (.own 0)))
theorem zqo{vs:List V}{Q:VK}{E:XK}(h:spI K f vs H Q E):vs.length=2:=by
 obtain⟨a,C,p,v,rfl,_⟩:=h
 rfl
theorem zqp{N:List Str}{vs:List V}{Q:VK}{E:XK}(h:spI K f vs H Q E):zrQ K (zf7 0) (zf7 1) f { nx:=fun _ H'=>Q .non H',rt:=Q } (zcd N vs) H:=by
 obtain⟨a,C,p,v,rfl,h1,h2,h3,h4⟩:=h
 refine⟨v,rfl,.ref a,rfl,a,C,p,rfl,h1,h2,h3,h4⟩
def ztY(n f:Str)(ma:MA):ME:=fun ρ=>(ma ρ).bind fun p=>(zbp p.2 p.1).bind fun us=>(zcv us).bind fun ds=>match ds with
 | [x]=>some (.u (.d (.dict [(.none,.str n),(.str f,x)])),p.2)
 | _=>none
end
def znI(K:PySem.W.Frag):List V->Hp->VK->Prop:=fun xs H Q=>∃ a C fs c u b,xs=[.ref a,c]/\zap c u/\(∀ u',zap c u'->u'=u)/\XV H a C fs/\XI K C/\PySem.W.kitOne K (.ref C) u=some b/\Q (.bl b) H
section
variable {X:Cx} {K:PySem.W.Frag} {tab:List (Str×List Str)} {fl:List Str} {c n:Str}
theorem zjf(hK:X.K=K):zb6 X (.builtin "isinstance") (znI K):=by
 subst hK
 intro pins s σ H xs us Q I r h
 obtain⟨a,C,fs,c,u,b,rfl,rc,un,xv,Y,e,q⟩:=h
 obtain⟨w,u',rfl,rx,rt⟩:=ziM r
 cases un u' rt
 cases(show w=Value.ref a from rx)
 exact ztf I xv Y e fun tk=>⟨.bl b,H,I.tok tk,rfl,q⟩
def zjg(tab:List (Str×List Str))(own:Bool)(c:Str):U->Option U
 | .d (.dict ((.none,.str n)::_))=>(tab.lookup n).map fun ups=>.d (.bool ((own && decide (c=n)) || ups.contains c))
 | _=>none
theorem zwQ{te:TE}{me:ME}{C':Addr}(T:XT K tab fl)(hc:XN K c C')(ht:(tab.lookup c).isSome=true)(h:VE K te me):VE K (tCB (znI K) (zcN te (zcN (tC (.ref C')) zgY))) (mUn (zjg tab true c) me):=by
 intro ρ σ H a ρ' Q rs e q
 obtain⟨⟨a1,ρ1⟩,e1,e⟩:=bind_some e
 obtain⟨x,ex,e⟩:=bind_some e
 obtain⟨u,eu,e⟩:=bind_some e
 cases e
 refine h ρ σ H a1 _ _ rs e1 fun v1 H1 g1 k1=>?_
 have p:=k1.now rs g1 ex
 unfold zjg at eu
 split at eu
 ·rename_i n ds
  obtain⟨ups,hu,rfl⟩:=Option.map_eq_some_iff.mp eu
  obtain⟨a,C,fs,rfl,xv,xn,t⟩:=DF.exc_inv p
  refine⟨a,C,fs,.ref C',.ref C',_,rfl,rfl,fun u' z=>z,xv,(T.cl n ups C hu xn).1,T.is n ups C hu xn c C' ht hc,?_⟩
  exact q _ _ g1 ⟨DF.bl _,Nw.data⟩
 ·cases eu
theorem ztZ{te:TE}{me:ME}(T:XT K tab fl)(h:VE K te me):VE K (tCB (znI K) (zcN te (zcN (tC (.ty "ValueError")) zgY))) (mUn (zjg tab false "ValueError") me):=by
 intro ρ σ H a ρ' Q rs e q
 obtain⟨⟨a1,ρ1⟩,e1,e⟩:=bind_some e
 obtain⟨x,ex,e⟩:=bind_some e
 obtain⟨u,eu,e⟩:=bind_some e
 cases e
 refine h ρ σ H a1 _ _ rs e1 fun v1 H1 g1 k1=>?_
 have p:=k1.now rs g1 ex
 unfold zjg at eu
 split at eu
 ·rename_i n ds
  obtain⟨ups,hu,rfl⟩:=Option.map_eq_some_iff.mp eu
  obtain⟨a,C,fs,rfl,xv,xn,t⟩:=DF.exc_inv p
  refine⟨a,C,fs,.ty "ValueError",.type "ValueError",_,rfl,rfl,fun u' z=>z,xv,(T.cl n ups C hu xn).1,T.isT n ups C hu xn,?_⟩
  rw [Bool.false_and,Bool.false_or]at q
  exact q _ _ g1 ⟨DF.bl _,Nw.data⟩
 ·cases eu
end
section
variable {K:PySem.W.Frag}
def ze0:U->U->Option U
 | .d (.str i),.d (.str j)=>if i.length+j.length<=sizeLine then some (.d (.str (i++j)))else none
 | _,_=>none
theorem zfV:VO K (fun x y H Q=>∃ i j,x=.str i/\y=.str j/\i.length+j.length<=sizeLine/\Q (.str (i++j)) H) ze0:=by
 intro x y a b u H Q ha hb e q
 unfold ze0 at e
 split at e
 ·split at e
  ·rename_i i j hc
   cases e
   exact⟨i,j,DF.str_inv ha,DF.str_inv hb,hc,q _ _ (zbE.refl H) (DF.str _) Nw.data⟩
  ·cases e
 ·cases e
def zkk:U->U->Option U
 | .d (.str z),.d (.int i)=>if z.length<=sizeLine then(atI z.cps.toList i).map fun c=>.d (.str ⟨#[c]⟩)else none
 | _,_=>none
theorem zkl:VO K zvG zkk:=by
 intro x y a b u H Q ha hb e q
 unfold zkk at e
 split at e
 ·split at e
  ·rename_i z i hc
   obtain⟨c,ec,rfl⟩:=Option.map_eq_some_iff.mp e
   exact⟨z,i,c,DF.str_inv ha,DF.int_inv hb,hc,ec,q _ _ (zbE.refl H) (DF.str _) Nw.data⟩
  ·cases e
 ·cases e
def mM1(ty:U->Bool)(f:U->U->Option U)(mo ma:ME):ME:=fun ρ=>(mo ρ).bind fun p=>(p.1.get p.2).bind fun x0=>if ty x0=true then(ma p.2).bind fun q=>(p.1.get q.2).bind fun x=>(q.1.get q.2).bind fun y=>(f x y).bind fun u=>some (.u u,q.2)else none
theorem zt0{T:String}{r:V->List V->Hp->VK->Prop}{ty:U->Bool}{f:U->U->Option U}{to ta:TE}{mo ma:ME}(ht:∀ (x:V) (a:U) (H:Hp),Rp K H x a->ty a=true->tyV K T x H)(h:VO K (fun x y H Q=>r x [y] H Q) f)
  (ho:VE K to mo) (ha:VE K ta ma):VE K (tBM K T r to (zcN ta zgY)) (mM1 ty f mo ma):=by
 intro ρ σ H a ρ' Q rs e q
 obtain⟨⟨a1,ρ1⟩,e1,e⟩:=bind_some e
 obtain⟨x0,ex0,e⟩:=bind_some e
 split at e
 rotate_left
 ·cases e
 rename_i hty
 obtain⟨⟨b1,ρ2⟩,e2,e⟩:=bind_some e
 obtain⟨x,ex,e⟩:=bind_some e
 obtain⟨y,ey,e⟩:=bind_some e
 obtain⟨u,eu,e⟩:=bind_some e
 cases e
 refine ho ρ σ H a1 ρ1 _ rs e1 fun v1 H1 g1 k1=>⟨ht _ _ _ (k1.now rs g1 ex0) hty,ha ρ1 σ H1 b1 ρ2 _ g1.rs e2 fun v2 H2 g2 k2=>?_⟩
 refine h _ _ x y u H2 _ (k1.later rs g1 g2 ex) (k2.now g1.rs g2 ey) eu fun v H3 s p n=>?_
 exact q v H3 ((g1.trans g2).trans (Go.grow g2.rs s)) ⟨p,n.mono (g1.trans g2).dm⟩
def tyL:U->Bool
 | .l _=>true
 | .d (.list _)=>true
 | _=>false
theorem zt1(x:V)(a:U)(H:Hp)(h:Rp K H x a)(e:tyL a=true):tyV K "list" x H:=by
 unfold tyL at e
 split at e
 ·obtain⟨b,us,rfl,h1,_⟩:=h
  exact .inl ⟨rfl,_,SqL.of h1⟩
 ·obtain⟨b,us,rfl,h1,_⟩:=DF.lst_inv h
  exact .inl ⟨rfl,_,h1.sq⟩
 ·cases e
def tyS:U->Bool
 | .d (.str _)=>true
 | _=>false
theorem znJ(x:V)(a:U)(H:Hp)(h:Rp K H x a)(e:tyS a=true):tyV K "str" x H:=by
 unfold tyS at e
 split at e
 ·cases DF.str_inv h; rfl
 ·cases e
def zqq:D->Option Str
 | .str x=>some x
 | _=>none
theorem zgw{H:Hp}:∀ {us:List V} {ds:List D} {ys:List Str},DFs K H us ds->ds.mapM zqq=some ys->us=ys.map V.str
 | _,_,ys,.nil,e=>by cases e; rfl
 | _,_,ys,.cons (d:=d) h t,e=>by
  rw [List.mapM_cons]at e
  obtain⟨y,e1,e⟩:=bind_some e
  obtain⟨ys',e2,e⟩:=bind_some e
  cases e
  cases d with
  | str x=>cases e1; cases DF.str_inv h; rw [zgw t e2]; rfl
  | _=>cases e1
def zhD:U->U->Option U
 | .d (.str sep),.l ds=>(ds.mapM zqq).bind fun ys=>if(ys.map (·.length)).sum+ys.length * sep.length<=16777216 then some (.d (.str (Txt.join sep ys)))else none
 | .d (.str sep),.d (.list ds)=>(ds.mapM zqq).bind fun ys=>if(ys.map (·.length)).sum+ys.length * sep.length<=16777216 then some (.d (.str (Txt.join sep ys)))else none
 | _,_=>none
theorem zld:VO K (fun x y H Q=>zrN K x [y] H Q) zhD:=by
 intro x y a b u H Q ha hb e q
 unfold zhD at e
 split at e
 ·obtain⟨ys,ey,e⟩:=bind_some e
  split at e
  ·rename_i hc
   cases e
   obtain⟨l,us,rfl,h1,h2⟩:=hb
   cases zgw h2 ey
   exact⟨_,l,ys,DF.str_inv ha,rfl,SqL.of h1,hc,q _ _ (zbE.refl H) (DF.str _) Nw.data⟩
  ·cases e
 ·obtain⟨ys,ey,e⟩:=bind_some e
  split at e
  ·rename_i hc
   cases e
   obtain⟨l,us,rfl,h1,h2⟩:=DF.lst_inv hb
   cases zgw h2 ey
   exact⟨_,l,ys,DF.str_inv ha,rfl,h1.sq,hc,q _ _ (zbE.refl H) (DF.str _) Nw.data⟩
  ·cases e
 ·cases e
def flD:D->Option V
 | .none=>some .non
 | .bool b=>some (.bl b)
 | .int i=>some (.int i)
 | .str x=>some (.str x)
 | _=>none
theorem zie{H:Hp}{v w:V}{d:D}(h:DF K H v d)(e:flD d=some w):v=w/\zdR w=true:=by
 cases d with
 | none=>cases e; cases h; exact⟨rfl,rfl⟩
 | bool b=>cases e; cases DF.bl_inv h; exact⟨rfl,rfl⟩
 | int i=>cases e; cases DF.int_inv h; exact⟨rfl,rfl⟩
 | str x=>cases e; cases DF.str_inv h; exact⟨rfl,rfl⟩
 | _=>cases e
theorem zif{H:Hp}:∀ {us:List V} {ds:List D} {ws:List V},DFs K H us ds->ds.mapM flD=some ws->us=ws/\ws.all zdR=true
 | _,_,ws,.nil,e=>by cases e; exact⟨rfl,rfl⟩
 | _,_,ws,.cons h t,e=>by
  rw [List.mapM_cons]at e
  obtain⟨y,e1,e⟩:=bind_some e
  obtain⟨ys',e2,e⟩:=bind_some e
  cases e
  obtain⟨rfl,f1⟩:=zie h e1
  obtain⟨rfl,f2⟩:=zif t e2
  exact⟨rfl,by rw [List.all_cons,f1,f2]; rfl⟩
end
def zqr(K:PySem.W.Frag)(C:Addr):Bool:=match K.lookup C with
 | some ⟨.type "type",_,.cls cd,sl⟩=>(match cd.mro,sl.toList with
  | .ref C'::bm,[_,_,_,_,some (.builtin m),_]=>C'==C && m == "ValueError.__new__" && !cd.hasDel && cd.hasDict && PySem.W.tailIn K xUp bm
  | _,_=>false)
 | _=>false
def zqs(K:PySem.W.Frag)(C:Addr):Bool:=zqr K C && PySem.W.findIn K (.ref C) "__getattribute__"==some (some (.builtin "BaseException.__getattribute__")) && PySem.W.findIn K (.ref C) "__getattr__"==some none &&
 PySem.W.findIn K (.ref C) "__setattr__"==some (some (.builtin "object.__setattr__")) && PySem.W.findIn K (.ref C) "__class__"==some (some (.builtin "object.__class__")) &&
 PySem.W.specialIn K (.builtin "object.__class__") "__get__"==some (some (.builtin "getset_descriptor.__get__")) && PySem.W.takesIn K (.builtin "object.__class__")==some true && PySem.W.mroIn K C (.type "object")==some true
theorem zrW{K:PySem.W.Frag}{C:Addr}(q:zqr K C=true):∃ nm qn N bs bm sn sub ab col dd k0 k1 k2 k3 k5,K.lookup C=some (excClassObj nm qn C N bs bm true sn sub ab col dd k0 k1 k2 k3 k5 "ValueError.__new__")/\PySem.W.tailIn K xUp bm=true:=by
 unfold zqr at q
 split at q
 ·rename_i dd cd sl ho
  split at q
  ·rename_i C' bm k0 k1 k2 k3 m k5 hm hs
   simp only [Bool.and_eq_true,beq_iff_eq,Bool.not_eq_true']at q
   obtain⟨⟨⟨⟨rfl,rfl⟩,hdel⟩,hdct⟩,ht⟩:=q
   obtain⟨nm,bs,mro,ns,qn,hd,sn,sub,ab,col,del⟩:=cd
   dsimp only at hm hdel hdct
   subst hm hdel hdct
   obtain⟨l⟩:=sl
   dsimp only at hs
   subst hs
   exact⟨nm,qn,ns,bs,bm,sn,sub,ab,col,dd,k0,k1,k2,k3,k5,ho,ht⟩
  ·cases q
 ·cases q
theorem zwR{K:PySem.W.Frag}{C:Addr}(q:zqs K C=true):XI K C:=by
 unfold zqs at q
 simp only [Bool.and_eq_true,beq_iff_eq]at q
 obtain⟨⟨⟨⟨⟨⟨⟨h1,h2⟩,h3⟩,h4⟩,h5⟩,h6⟩,h7⟩,h8⟩:=q
 exact⟨⟨zrW h1,h2,h3,h4⟩,h5,h6,h7,h8⟩
def zkm(K:PySem.W.Frag)(n:Str):Option Addr:=match PySem.W.nsIn K mainGlobals n with
 | some (some (.ref C))=>some C
 | _=>none
theorem zfW{K:PySem.W.Frag}{n:Str}{C:Addr}(h:XN K n C):zkm K n=some C:=by
 unfold zkm
 rw [show PySem.W.nsIn K mainGlobals n=some (some (.ref C)) from h]
def zt2(K:PySem.W.Frag)(tab:List (Str×List Str))(fl:List Str):Bool:=tab.all fun p=>match zkm K p.1 with
 | some C=>zqs K C && fl.all (fun f=>PySem.W.findIn K (.ref C) f==some none) && PySem.W.kitOne K (.ref C) (.type "ValueError")==some (p.2.contains ("ValueError":Str)) &&
   tab.all fun p'=>match zkm K p'.1 with
    | some C'=>PySem.W.kitOne K (.ref C) (.ref C')==some (decide (p'.1=p.1) || p.2.contains p'.1)
    | none=>false
 | none=>false
theorem zdG{β:Type}:∀ {l:List (Str×β)} {n:Str} {b:β},l.lookup n=some b->(n,b)∈l
 | [],_,_,e=>by cases e
 | (m,c)::l,n,b,e=>by
  rw [List.lookup_cons]at e
  cases q:(n==m)with
  | true =>
   rw [q]at e
   cases e
   rw [beq_iff_eq.mp q]
   exact List.mem_cons_self
  | false =>
   rw [q]at e
   exact List.mem_cons_of_mem _ (zdG e)
theorem zwS{K:PySem.W.Frag}{tab:List (Str×List Str)}{fl:List Str}(h:zt2 K tab fl=true):XT K tab fl:=by
 unfold zt2 at h
 have one:∀ n ups C,tab.lookup n=some ups->XN K n C->(zqs K C && fl.all (fun f=>PySem.W.findIn K (.ref C) f==some none) && PySem.W.kitOne K (.ref C) (.type "ValueError")==some (ups.contains ("ValueError":Str)) &&
   tab.all fun p'=>match zkm K p'.1 with
    | some C'=>PySem.W.kitOne K (.ref C) (.ref C')==some (decide (p'.1=n) || ups.contains p'.1)
    | none=>false)=true:=fun n ups C hn xn=>by
  have z:=List.all_eq_true.mp h (n,ups) (zdG hn)
  dsimp only at z
  rw [zfW xn]at z
  exact z
 refine⟨fun n ups C hn xn=>?_,fun n ups C hn xn c C' hc xc=>?_,fun n ups C hn xn=>?_⟩
 ·have z:=one n ups C hn xn
  simp only [Bool.and_eq_true]at z
  refine⟨zwR z.1.1.1,fun f hf=>?_⟩
  exact beq_iff_eq.mp (List.all_eq_true.mp z.1.1.2 f hf)
 ·have z:=one n ups C hn xn
  simp only [Bool.and_eq_true]at z
  obtain⟨ups',hu'⟩:=Option.isSome_iff_exists.mp hc
  have y:=List.all_eq_true.mp z.2 (c,ups') (zdG hu')
  dsimp only at y
  rw [zfW xc]at y
  exact beq_iff_eq.mp y
 ·have z:=one n ups C hn xn
  simp only [Bool.and_eq_true]at z
  exact beq_iff_eq.mp z.1.2
structure XCal (P:Program) (w:World) (K:PySem.W.Frag) (mg:Str->Option Value) (base:Heap) (x:Str) (C:Addr) (f:Str):Prop where
 xn:XN K x C
 cl:XC K C
 na:zcM K C f
 mg_:mg x=some (.ref C)
 kp:PySem.W.keepIn K (.ref C)=true
 ini:∃ i fd,PySem.W.findIn K (.ref C) "__init__"=some (some (.ref i))/\PySem.W.isFn K (.ref i)=true/\zdQ K fd ["self",f] []/\FnOk P w K mg base CX0 1 i fd ["self",f] (spI K f)
section
variable {X:Cx} {K:PySem.W.Frag} {C:Addr} {x f:Str} {p pos:Pos} {e:Expr} {es:List Expr} {t:TA} {ta:TE}
theorem zgx(hm:X.mg x=some (.ref C))(hg:Gl X x)(hdb:(x==("__debug__":Str))=false:=by decide):Wr (PE X (.Name x pos) (tC (.ref C))):=⟨zkJ hg hm rfl hdb⟩
theorem znK(K:PySem.W.Frag)(hK:X.K=K)(he:Wr (PE X e ta))(hb:attributeBase e f X.env (eval e X.env)=eval e X.env):Wr (PE X (.Attribute e f pos) (tUn (zrV K f) ta)):=hK▸⟨zpL he.run hb⟩
end
abbrev RX(α:Type):=(α×En) ⊕ (D×En)
abbrev MX:=En->Option (RX Ar)
abbrev MXA:=En->Option (RX (List Ar))
def lft{α:Type}(m:En->Option (RX α)):En->Option (α×En):=fun ρ=>(m ρ).bind fun r=>match r with | .inl p=>some p | .inr _=>none
def XOk(K:PySem.W.Frag)(EX:EXT)(ρ:En)(σ:St)(H:Hp)(x:D)(ρ':En):Prop:=∀ a H',Go K ρ σ H ρ' H'->H a=none->zpS K H' a x->EX σ a H'
def VX(K:PySem.W.Frag)(EX:EXT)(t:TE)(m:MX):Prop:=VE K t (lft m)/\∀ (ρ:En) (σ:St) (H:Hp) (x:D) (ρ':En) (Q:VK),Rs K ρ σ H->m ρ=some (.inr (x,ρ'))->XOk K EX ρ σ H x ρ'->t σ H Q
section
variable {K:PySem.W.Frag} {EX:EXT} {pn:List Nat} {ρ ρ':En} {σ σ₀:St} {H H' H₀ H₁:Hp} {A:Addr->Prop}
def zyf(me:MX)(ma:MXA):MXA:=fun ρ=>(me ρ).bind fun r=>match r with
 | .inl p=>(ma p.2).bind fun r'=>match r' with
  | .inl q=>some (.inl (p.1::q.1,q.2))
  | .inr z=>some (.inr z)
 | .inr z=>some (.inr z)
def zmk(mS:ME->MS)(m:MX):MS:=fun ρ=>(m ρ).bind fun r=>match r with
 | .inl _=>mS (lft m) ρ
 | .inr z=>some (.ex z.1 z.2)
theorem znL{t:TE}{m:MX}{tS:TE->TS}{mS:ME->MS}(h:VX K EX t m)(hF:VE K t (lft m)->VS K pn EX (tS t) (mS (lft m)))(hX:∀ D σ H,(∀ Q',t σ H Q')->tS t D σ H):VS K pn EX (tS t) (zmk mS m):=by
 intro σ₀ A H₀ H₁ ρ σ H f D s e k
 obtain⟨r2,e2,e1⟩:=bind_some e
 cases r2 with
 | inl p=>exact hF h.1 σ₀ A H₀ H₁ ρ σ H f D s e1 k
 | inr z =>
  cases e1
  exact hX D σ H fun Q'=>h.2 ρ σ H z.1 z.2 Q' s.rs e2 fun a H' g hn fl=>k a σ H' (s.go g) (s.dm a hn) fl
theorem zqt{i:Nat}{t:TE}{m:MX}(hi:i∉pn)(h:VX K EX t m):VS K pn EX (zgX t (zcY i)) (zmk (zK i) m):=znL (tS:=fun t=>zgX t (zcY i)) (mS:=zK i) h (zO hi) fun D σ H z=>z _
def VRz(K:PySem.W.Frag)(te:TE)(m:En->Option (D×En)):Prop:=∀ (ρ:En) (σ:St) (H:Hp) (x:D) (ρ':En) (Q:VK),Rs K ρ σ H->m ρ=some (x,ρ') ->
 (∀ a H',Go K ρ σ H ρ' H'->H a=none->(∃ C d,H' a=some (zhZ a C d none)/\XC K C)->zpS K H' a x->Q (.ref a) H')->te σ H Q
def zkn(m:En->Option (D×En)):MS:=fun ρ=>(m ρ).bind fun p=>some (.ex p.1 p.2)
theorem zqu{te:TE}{m:En->Option (D×En)}(h:VRz K te m):VS K pn EX (zj8 K EX te) (zkn m):=by
 intro σ₀ A H₀ H₁ ρ σ H f D s e k
 obtain⟨⟨x,ρ1⟩,e1,e⟩:=bind_some e
 cases e
 exact h ρ σ H x ρ1 _ s.rs e1 fun a H' g hn ⟨C,d,ha,xc⟩ fl=>⟨a,C,d,rfl,ha,xc,k a σ H' (s.go g) (s.dm a hn) fl⟩
def mXR(n f:Str)(ma:MA):En->Option (D×En):=fun ρ=>(ma ρ).bind fun p=>(zbp p.2 p.1).bind fun us=>(zcv us).bind fun ds=>match ds with
 | [x]=>some (.dict [(.none,.str n),(.str f,x)],p.2)
 | _=>none
theorem zqv{C:Addr}{E:XK}{n f:Str}{t:TA}{m:MA}(xn:XN K n C)(c:XC K C)(na:zcM K C f)(h:VAs K t m):VRz K (zj6 C (ztg K f) E t) (mXR n f m):=by
 intro ρ σ H x ρ' Q rs e q
 obtain⟨⟨as,ρ1⟩,e1,e⟩:=bind_some e
 obtain⟨us,eu,e⟩:=bind_some e
 obtain⟨ds,ed,e⟩:=bind_some e
 split at e
 rotate_left
 ·cases e
 rename_i x
 cases e
 refine h ρ σ H as ρ1 _ rs e1 fun vs H1 g1 s1=>?_
 have df:=zkb (s1.rpl rs g1 eu) ed
 generalize eq:[x]=ys at df
 cases df with
 | nil=>cases eq
 | @cons v d vs' ds' hd t' =>
  cases eq
  cases t'
  refine⟨by show 1<=1000; decide,fun a p ha=>⟨a,C,p,v,rfl,zG,c,na,fun dx od hdx ne=>⟨rfl,?_⟩⟩⟩
  have hdx1:H1 dx=none:=by rw [zD ne]at hdx; exact hdx
  have sm:zbE H1 (upd (upd (upd H1 a (zj5 a C p)) dx (.frz od (.xd [(f,v)]))) a (zhZ a C (some dx) none)):=fun b o hb=>by
   rw [zD (zav hb ha),zD (zav hb hdx1),zD (zav hb ha)]
   exact hb
  refine q a _ (g1.trans (Go.grow g1.rs sm)) (g1.dm a ha) ⟨C,some dx,zG,c⟩ ?_
  exact⟨n,C,[(f,v)],_,rfl,⟨some dx,none,zG,(fun T z=>nomatch z),.inr ⟨od,dx,rfl,by rw [zD ne,zG]⟩⟩,xn,.cons (hd.kp sm.kp) .nil⟩
theorem Rs.mv{a:Addr}(r:Rs K ρ σ H)(ea:∃ φ,H a=some (.ext φ))(k:∀ b o,b≠a->H b=some o->H' b=some o):Rs K ρ σ H'/\Kp H H':=by
 obtain⟨φ,ea⟩:=ea
 have kp:Kp H H':=⟨fun b xs h=>k b _ (fun z=>by rw [z,ea]at h; cases h) h,fun b ob u h=>k b _ (fun z=>by rw [z,ea]at h; cases h) h⟩
 refine⟨⟨r.len,fun i u e=>?_,r.apart⟩,kp⟩
 obtain⟨v,ev,p⟩:=r.rep i u e
 refine⟨v,ev,p.kp kp fun o b c eb hb=>?_⟩
 obtain⟨b',c',eb',hb',m⟩:=p.own o
 rw [eb]at eb'
 cases eb'
 rw [hb]at hb'
 cases hb'
 exact k b c (fun z=>by rw [z,ea]at hb; cases hb; exact m) hb
theorem Sn.mv{a:Addr}(s:Sn K pn σ₀ A H₀ H₁ ρ σ H)(hn:H₀ a=none)(ea:∃ φ,H a=some (.ext φ))(k:∀ b o,b≠a->H b=some o->H' b=some o)(dm:∀ b,H' b=none->H b=none):Sn K pn σ₀ A H₀ H₁ ρ σ H':=by
 obtain⟨r,kp⟩:=s.rs.mv ea k
 exact⟨r,fun b o h n=>k b o (fun z=>by rw [z,hn]at h; cases h) (s.fr b o h n),s.ow,s.pin,fun b h=>s.dm b (dm b h),s.kp.trans kp⟩
theorem zh0.ext{a C:Addr}{fs:List (Str×V)}(f:zh0 H a C fs):∃ φ,H a=some (.ext φ):=by
 obtain⟨d,tb,ea,_⟩:=f
 exact⟨_,ea⟩
theorem Sn.clear{i:Nat}(s:Sn K pn σ₀ A H₀ H₁ ρ σ H)(hi:i∉pn):Sn K pn σ₀ A H₀ H₁ (ρ.set i none) (σ.set i none) H:=by
 have inv:∀ (j:Nat) (w:U),(ρ.set i none)[j]?=some (some w)->j≠i/\ρ[j]?=some (some w):=fun j w e=>by
  by_cases hj:i=j
  ·subst hj
   have hl:=(List.getElem?_eq_some_iff.mp e).1
   rw [List.length_set]at hl
   rw [List.getElem?_set_self hl]at e
   cases e
  ·rw [List.getElem?_set_ne hj]at e
   exact⟨Ne.symm hj,e⟩
 have sat:∀ j,j≠i->(σ.set i none)[j]?=σ[j]?:=fun j h=>List.getElem?_set_ne (Ne.symm h)
 refine⟨⟨by rw [List.length_set,List.length_set]; exact s.rs.len,fun j w e=>?_,fun j k x y ej ek ox oy es=>?_⟩,s.fr,fun j w a e o es=>?_,fun j hj=>?_,s.dm,s.kp⟩
 ·obtain⟨hj,e'⟩:=inv j w e
  rw [sat j hj]
  exact s.rs.rep j w e'
 ·obtain⟨hj,ej'⟩:=inv j x ej
  obtain⟨hk,ek'⟩:=inv k y ek
  rw [sat j hj,sat k hk]at es
  exact s.rs.apart j k x y ej' ek' ox oy es
 ·obtain⟨hj,e'⟩:=inv j w e
  rw [sat j hj]at es
  exact s.ow j w a e' o es
 ·rw [sat j (fun z=>hi (z▸hj))]
  exact s.pin j hj
def XM(K:PySem.W.Frag)(tab:List (Str×List Str))(c:Str)(C':Addr):Prop:=∀ n ups C,tab.lookup n=some ups->XN K n C->ups.contains c=true->XC K C/\PySem.W.mroIn K C (.ref C')=some true
def clr(i:Nat):Fl->Option Fl
 | .nx ρ=>some (.nx (ρ.set i none))
 | .bk ρ=>some (.bk (ρ.set i none))
 | .ct ρ=>some (.ct (ρ.set i none))
 | .rt u ρ=>some (.rt u ρ)
 | .ex _ _=>none
def under(tab:List (Str×List Str))(c:Str):D->Bool
 | .dict ((.none,.str n)::_)=>match tab.lookup n with | some ups=>ups.contains c | none=>false
 | _=>false
def zt3(tab:List (Str×List Str))(c:Str)(i:Nat)(mb mh:MS):MS:=fun ρ=>(mb ρ).bind fun f=>match f with
 | .ex x ρ'=>if under tab c x=true then(mh (ρ'.set i (some (.d x)))).bind (clr i)else none
 | f=>some f
theorem zwT{tab:List (Str×List Str)}{c:Str}{C':Addr}{i:Nat}{tb:EXT->TS}{th:TS}{mb mh:MS}(T:XM K tab c C')(hi:i∉pn)(hb:∀ EX,VS K pn EX (tb EX) mb)(hh:VS K pn EX0 th mh):VS K pn EX (zti K C' i tb th) (zt3 tab c i mb mh):=by
 intro σ₀ A H₀ H₁ ρ σ H f D s e k
 obtain⟨f1,e1,e⟩:=bind_some e
 refine hb _ σ₀ A H₀ H₁ ρ σ H f1 D s e1 ?_
 cases f1 with
 | nx ρ1=>cases e; exact k
 | bk ρ1=>cases e; exact k
 | ct ρ1=>cases e; exact k
 | rt u ρ1=>cases e; exact k
 | ex x ρ1 =>
  dsimp only at e
  split at e
  rotate_left
  ·cases e
  rename_i hu
  obtain⟨f2,e2,e⟩:=bind_some e
  intro a σ1 H1 s1 hn fl
  obtain⟨n,C,fs,ds,rfl,fv,xn,t⟩:=fl
  unfold under at hu
  dsimp only at hu
  cases hl:tab.lookup n with
  | none=>rw [hl]at hu; cases hu
  | some ups =>
   rw [hl]at hu
   obtain⟨xc,mr⟩:=T n ups C hl xn hu
   refine⟨C,fs,fv,xc,mr,fun H2 xv kk dm=>?_⟩
   have s2:=s1.mv hn fv.ext kk dm
   have kp:=(s1.rs.mv fv.ext kk).2
   have s3:=s2.set (i:=i) (v:=.ref a) (u:=.d (.dict ((.none,.str n)::ds))) hi (DF.exc xv xn (t.kp kp)) (fun o=>by cases o)
   refine hh σ₀ A H₀ H₁ _ _ H2 f2 _ s3 e2 ?_
   cases f2 with
   | nx ρ2=>cases e; exact fun σ4 H4 s4=>k _ _ (s4.clear hi)
   | bk ρ2=>cases e; exact fun σ4 H4 s4=>k _ _ (s4.clear hi)
   | ct ρ2=>cases e; exact fun σ4 H4 s4=>k _ _ (s4.clear hi)
   | rt u ρ2=>cases e; exact k
   | ex y ρ2=>cases e
end
abbrev FX:=List U->Option ((U×List U) ⊕ (D×List U))
def spX(K:PySem.W.Frag)(n:Nat)(f:FX):Sp:=fun vs H Q E=>∃ us r,us.length=n/\Rs K (sm us) (smV vs) H/\f us=some r/\match r with
 | .inl o=>∀ v H',Go K (sm us) (smV vs) H (sm o.2) H'->Rp K H' v o.1->Nw H v o.1->Q v H'
 | .inr o=>∀ a H',Go K (sm us) (smV vs) H (sm o.2) H'->H a=none->zpS K H' a o.1->E (.ref a) none H'
structure CalX (P:Program) (w:World) (K:PySem.W.Frag) (mg:Str->Option Value) (base:Heap) (x:Str) (k:Nat) (ps:List Str) (sp:Sp):Prop where
 ex:∃ (f:Addr) (fd:FuncData),FnOk P w K mg base (CXv P w) k f fd ps sp/\zdQ K fd ps []/\PySem.W.keepIn K (.ref f)=true/\mg x=some (.ref f)
section
variable {X:Cx} {EX:EXT} {k:Nat} {ps:List Str} {sp:Sp} {x:Str} {p pos:Pos} {e:Expr} {es:List Expr} {t:TA}
theorem zt4(C:CalX X.prog X.w X.K X.mg X.base x k ps sp)(hr:Room k X.A)(hg:Gl X x)(hx:zeS X EX)(ha:Wr (PA X (e::es) t))(hdb:(x==("__debug__":Str))=false:=by decide)
  (he:zaC e=true:=by rfl) (hpl:es.all zaC=true:=by rfl):Wr (PE X (.Call (.Name x p) (e::es) [] pos) (zj9 sp EX t)):=by
 obtain⟨f,fd,F,hb,hk,hm⟩:=C.ex
 exact⟨zni F hr hg hm hk hb hx ha.run hdb (zcO he) (zcu hpl)⟩
end
section
variable {K:PySem.W.Frag} {EX:EXT} {pn:List Nat} {ρ ρ':En} {σ σ₀:St} {H H' H₀ H₁:Hp} {A:Addr->Prop}
def zqw(ρ:En)(as:List Ar):(U×List U) ⊕ (D×List U)->RX Ar
 | .inl o=>.inl (.u o.1,wb ρ as o.2)
 | .inr o=>.inr (o.1,wb ρ as o.2)
def znM(f:FX)(ma:MA):MX:=fun ρ=>(ma ρ).bind fun p=>if zdE p.2 p.1=true then(zbp p.2 p.1).bind fun us=>(f us).bind fun o=>some (zqw p.2 p.1 o)else none
theorem zt5{n:Nat}{f:FX}{t:TA}{m:MA}(h:VAs K t m)(hn:∀ ρ as ρ',m ρ=some (as,ρ')->as.length=n):VX K EX (zj9 (spX K n f) EX t) (znM f m):=by
 refine⟨fun ρ σ H a ρ' Q rs e q=>?_,fun ρ σ H x ρ' Q rs e q=>?_⟩
 ·unfold lft at e
  obtain⟨r,e1,e⟩:=bind_some e
  obtain⟨⟨as,ρ1⟩,e2,e1⟩:=bind_some e1
  dsimp only at e1
  split at e1
  ·rename_i dj
   obtain⟨us,eu,e1⟩:=bind_some e1
   obtain⟨o,ef,e1⟩:=bind_some e1
   cases e1
   cases o with
   | inr o=>cases e
   | inl o =>
    cases e
    refine h ρ σ H as ρ1 _ rs e2 fun vs H1 g1 s1=>?_
    obtain⟨rsA,back⟩:=zkd rs g1 s1 dj eu
    exact⟨us,.inl o,by rw [zdn eu]; exact hn _ _ _ e2,rsA,ef,fun v H2 g2 p n2=>q v H2 (back o.2 H2 g2) ⟨p,n2.mono g1.dm⟩⟩
  ·cases e1
 ·obtain⟨⟨as,ρ1⟩,e2,e1⟩:=bind_some e
  dsimp only at e1
  split at e1
  ·rename_i dj
   obtain⟨us,eu,e1⟩:=bind_some e1
   obtain⟨o,ef,e1⟩:=bind_some e1
   cases o with
   | inl o=>cases e1
   | inr o =>
    cases e1
    refine h ρ σ H as ρ1 _ rs e2 fun vs H1 g1 s1=>?_
    obtain⟨rsA,back⟩:=zkd rs g1 s1 dj eu
    exact⟨us,.inr o,by rw [zdn eu]; exact hn _ _ _ e2,rsA,ef,fun a H2 g2 hn fl=>⟨a,rfl,q a H2 (back o.2 H2 g2) (g1.dm a hn) fl⟩⟩
  ·cases e1
def zle(pn:List Nat)(us:List U):Fl->Option ((U×List U) ⊕ (D×List U))
 | .rt u ρ=>(zaU pn ρ 0 us).bind fun os=>some (.inl (u,os))
 | .nx ρ=>(zaU pn ρ 0 us).bind fun os=>some (.inl (.d .none,os))
 | .ex x ρ=>(zaU pn ρ 0 us).bind fun os=>some (.inr (x,os))
 | _=>none
def zt6(n:Nat)(pn:List Nat)(m:MS):FX:=fun us=>(m (sm us++List.replicate (n - us.length) none)).bind (zle pn us)
theorem Fun.okX{P:Program}{w:World}{mg:Str->Option Value}{base:Heap}{x qual:Str}{st:Stmt}{f:Addr}{fd:FuncData}{N ps:List Str}{k n nn:Nat}{m:MS}(F:Fun K x qual st f fd)(S:FnScope N ps (zt st))(hps:ps.length=n)(hN:N.length=nn)(hnn:n<=nn)
  (hbody:∀ (cdv:Value) (A:Around) (outer:List Env) (s:Shared) (H:Hp) (E:XK),Room k (A.deeper (envOfC qual (zt st) s.heap.objs.size f cdv))->zeS (zgd (CXv P w) P w K mg base N qual (zt st) f cdv A outer s H E) (EXd E) ->
   ∃ t,Wr (PSs (zgd (CXv P w) P w K mg base N qual (zt st) f cdv A outer s H E) (zV st) t)/\VS K pn (EXd E) t m):FnOk P w K mg base (CXv P w) (k+1) f fd ps (spX K n (zt6 nn pn m)):=by
 obtain⟨oc,od,kV,doc,pm,an,cdv,ct,osl,rfl,lk,hcd⟩:=F.ex
 refine zrH lk hcd S (fun vs H Q E h=>?_) fun A outer s H vs Q E hr h=>?_
 ·obtain⟨us,r,hl,rs,_⟩:=h
  have:=rs.len
  unfold sm smV at this
  simp at this
  omega
 obtain⟨us,r,hl,rs,ef,q⟩:=h
 obtain⟨t,wt,vt⟩:=hbody cdv A outer s H E hr zvY
 refine⟨t,wt.run,?_⟩
 obtain⟨fl,em,ef⟩:=bind_some ef
 have go:∀ (ρ':En) (outs:List U),zaU pn ρ' 0 us=some outs->Sn K pn (zcd N vs) (Ow (sm us) (smV vs)) H H (sm us++List.replicate (N.length - us.length) none) (zcd N vs) H:=fun ρ' outs ho=>zi9 rs (by omega) ho
 subst hN
 cases fl with
 | nx ρ' =>
  obtain⟨os,eo,ef⟩:=bind_some (show(zaU pn ρ' 0 us).bind _=_ from ef)
  cases ef
  refine vt _ _ _ _ _ _ _ (.nx ρ') _ (go ρ' _ eo) em fun σ' H' s'=>?_
  exact q _ _ (zgt rs s' eo) .non Nw.data
 | rt u ρ' =>
  obtain⟨os,eo,ef⟩:=bind_some (show(zaU pn ρ' 0 us).bind _=_ from ef)
  cases ef
  refine vt _ _ _ _ _ _ _ (.rt u ρ') _ (go ρ' _ eo) em fun v σ' H' s' p n'=>?_
  exact q _ _ (zgt rs s' eo) p n'
 | ex x ρ' =>
  obtain⟨os,eo,ef⟩:=bind_some (show(zaU pn ρ' 0 us).bind _=_ from ef)
  cases ef
  refine vt _ _ _ _ _ _ _ (.ex x ρ') _ (go ρ' _ eo) em fun a σ' H' s' hn fl=>?_
  obtain⟨n,C,fs,ds,rfl,fv,xn,t⟩:=fl
  refine⟨C,fs,fv,fun H2 fv2 kk dm=>?_⟩
  exact q a H2 (zgt rs (s'.mv hn fv.ext kk dm) eo) hn ⟨n,C,fs,ds,rfl,fv2,xn,t.kp (s'.rs.mv fv.ext kk).2⟩
 | bk=>cases ef
 | ct=>cases ef
end
theorem zwU{P:Program}{w:World}{K:PySem.W.Frag}{mg:Str->Option Value}{base:Heap}{k:Nat}{i:Addr}{fd:FuncData}{f:Str}(F:FnOk P w K mg base CX0 k i fd ["self",f] (spI K f)):FnOk P w K mg base CX0 k i fd ["self",f] (ztg K f):=by
 refine⟨fun vs H Q E h=>by obtain⟨a,C,p,v,rfl,_⟩:=h; rfl,fun A outer s H args us vs Q E hr e0 hb r h=>?_⟩
 obtain⟨a,C,p,v,rfl,ea,xc,na,q⟩:=h
 refine codeAny_mono (F.run A outer s H args us [.ref a,v] (fun v' H'=>v'=.non/\∃ dx ox od,H dx=none/\dx≠a/\ox={ zfJ C p with dict:=some dx }/\H'=upd (upd H dx (.frz od (.xd [(f,v)]))) a (.frz ox (.own 0))) E hr e0 hb r
  ⟨a,C,p,v,rfl,ea,xc,na,fun dx ox od h1 h2 h3 h4 h5 h6=>⟨rfl,dx,ox,od,h1,h2,h6,rfl⟩⟩) fun r s' z=>?_
 cases r with
 | error e=>exact z.elim
 | ok fl =>
  cases fl with
  | ret u =>
   obtain⟨v',H',os,bare,un,hok,rv,rfl,dx,ox,od,h1,h2,h3,rfl⟩:=z
   obtain⟨ha,_⟩:=hok a _ zG
   subst h3
   obtain⟨un2,hok2⟩:=zpN (u:=zhZ a C (some dx) none) un hok ea zG (fun _ z=>nomatch z) (fun _ z=>nomatch z) (zk1 ⟨_,_,ha,rfl,rfl,rfl,rfl,fun _=>⟨p,rfl⟩⟩)
   rw [zo5]at un2 hok2
   exact⟨.non,_,os,bare,un2,hok2,rv,q dx od h1 h2⟩
  | next=>exact z.elim
  | brk=>exact z.elim
  | cont=>exact z.elim
section
variable {X:Cx} {K:PySem.W.Frag} {C:Addr} {x f:Str} {p pos:Pos} {e:Expr} {es:List Expr} {t:TA} {te:TE} {EX:EXT}
theorem znN(c:XCal X.prog X.w X.K X.mg X.base x C f)(hr:Room 2 X.A)(hg:Gl X x)(ha:Wr (PA X (e::es) t))(hdb:(x==("__debug__":Str))=false:=by decide)
  (he:zaC e=true:=by rfl) (hpl:es.all zaC=true:=by rfl):Wr (PE X (.Call (.Name x p) (e::es) [] pos) (zj6 C (ztg X.K f) E0 t)):=by
 obtain⟨i,fd,h1,h2,h3,h4⟩:=c.ini
 exact⟨zng c.cl h1 h2 c.kp (zwU h4) hr hg c.mg_ h3 zrK ha.run hdb (zcO he) (zcu hpl)⟩
theorem zqx(K:PySem.W.Frag)(hK:X.K=K){k:Nat}(hr:Room k X.A)(hx:zeS X EX)(he:Wr (PE X e te)):Wr (PS X (.Raise (some e) none pos) (zj8 K EX te)):=hK▸⟨znh hx hr.hd he.run⟩
theorem zwV{i:Nat}{n cls:Str}{C':Addr}{body suite:List Stmt}{b₀:Stmt}{tb:EXT->TS}{th:TS}{np hpos:Pos}{outer:List Env}(K:PySem.W.Frag)(hK:X.K=K)(hst:X.stack=X.env::outer)(hf:X.env.frame=some X.env.locals)(hN:X.N.Nodup)(hi:X.N[i]?=some n)(hl:X.env.scope.names.lookup n=some .local)(hg:Gl X cls)(hm:X.mg cls=some (.ref C'))(hC':XC K C')
  (hb:∀ (pn:List (Addr×Obj)) (E:Value->Shared->Prop) (EX:EXT),zeS (X.body pn E) EX->Wr (PSs (X.body pn E) body (tb EX)))
  (hs:∀ a,Wr (PSs (X.held a) (b₀::suite) th)) (hdb:(cls==("__debug__":Str))=false:=by decide) :
  Wr (PS X (.Try body [.ExceptHandler (some (.Name cls np)) (some n) (b₀::suite) hpos] [] [] pos) (zti K C' i tb th)):=by
 subst hK
 exact⟨ztj hst hf hN hi hl hg hm hC' (fun pn E EX h=>(hb pn E EX h).run) (fun a=>(hs a).run) hdb⟩
end
def zt7(K:PySem.W.Frag)(tab:List (Str×List Str))(c:Str):Bool:=match zkm K c with
 | some C'=>tab.all fun p=>!p.2.contains c || (match zkm K p.1 with
  | some C=>zqr K C && PySem.W.findIn K (.ref C) "__getattribute__"==some (some (.builtin "BaseException.__getattribute__")) && PySem.W.findIn K (.ref C) "__getattr__"==some none && PySem.W.findIn K (.ref C) "__setattr__"==some (some (.builtin "object.__setattr__")) && PySem.W.mroIn K C (.ref C')==some true
  | none=>false)
 | none=>false
theorem zwW{K:PySem.W.Frag}{tab:List (Str×List Str)}{c:Str}{C':Addr}(h:zt7 K tab c=true)(xn:XN K c C'):XM K tab c C':=by
 intro n ups C hl xc hu
 unfold zt7 at h
 rw [zfW xn]at h
 have z:=List.all_eq_true.mp h (n,ups) (zdG hl)
 dsimp only at z
 rw [hu,zfW xc]at z
 simp only [Bool.not_true,Bool.false_or,Bool.and_eq_true,beq_iff_eq]at z
 obtain⟨⟨⟨⟨h1,h2⟩,h3⟩,h4⟩,h5⟩:=z
 exact⟨⟨zrW h1,h2,h3,h4⟩,h5⟩
def tyD:D->Option String
 | .none=>some "NoneType"
 | .bool _=>some "bool"
 | .int _=>some "int"
 | .str _=>some "str"
 | .tuple _=>some "tuple"
 | _=>none
def tyU:U->Option String
 | .d x=>tyD x
 | .l _=>some "list"
 | _=>none
def isT(t T:String):Bool:=t==T || (t == "bool" && T == "int")
def znO:List String:=["NoneType", "bool", "int", "str", "tuple", "list"]
theorem zqy(K:PySem.W.Frag):∀ t∈znO,∀ T∈["int", "bool", "str", "tuple", "list"],PySem.W.kitOne K (.type t) (.type T)=some (isT t T):=by
 have hm:∀ T∈["int", "bool", "str", "tuple", "list"],PySem.W.kitMeta T=true:=by decide +kernel
 have hs:∀ t∈znO,∀ T∈["int", "bool", "str", "tuple", "list"],(PySem.fastBuiltinMro t).map (·.contains (Value.type T))=some (isT t T):=by decide +kernel
 intro t ht T hT
 unfold PySem.W.kitOne
 split
 ·rename_i q
  have e:t=T:=Value.type.inj (beq_iff_eq.mp q)
  subst e
  unfold isT
  simp
 ·unfold PySem.W.kitCls PySem.W.subIn
  simp only [hm T hT,if_true]
  exact hs t ht T hT
def zko(T:String)(u:U):Option U:=(tyU u).bind fun t=>if t∈znO/\T∈["int", "bool", "str", "tuple", "list"]then some (.d (.bool (isT t T)))else none
section
variable {K:PySem.W.Frag}
theorem zt8{H:Hp}{v:V}{u:U}{t:String}(h:Rp K H v u)(e:tyU u=some t):TyOf K H v (.type t):=by
 cases u with
 | d x =>
  cases x with
  | none=>cases e; cases h; exact .non
  | bool b=>cases e; cases DF.bl_inv h; exact .bl _
  | int i=>cases e; cases DF.int_inv h; exact .int _
  | str x=>cases e; cases DF.str_inv h; exact .str _
  | tuple ds=>cases e; obtain⟨a,ys,rfl,h1,_⟩:=DF.tup_inv h; exact .tup h1
  | list ds=>cases e
  | dict ds=>cases e
 | l xs=>cases e; obtain⟨a,us,rfl,h1,_⟩:=h; exact .lst h1
 | t kvs=>cases e
 | k kvs=>cases e
theorem zrX{T:String}{te:TE}{me:ME}(h:VE K te me):VE K (tCB (zs5 K) (zcN te (zcN (tC (.ty T)) zgY))) (mUn (zko T) me):=by
 intro ρ σ H a ρ' Q rs e q
 obtain⟨⟨a1,ρ1⟩,e1,e⟩:=bind_some e
 obtain⟨x,ex,e⟩:=bind_some e
 obtain⟨u,eu,e⟩:=bind_some e
 cases e
 refine h ρ σ H a1 _ _ rs e1 fun v1 H1 g1 k1=>?_
 have p:=k1.now rs g1 ex
 unfold zko at eu
 obtain⟨t,et,eu⟩:=bind_some eu
 split at eu
 ·rename_i hc
  cases eu
  exact⟨v1,.type t,T,_,rfl,zt8 p et,zqy K t hc.1 T hc.2,q _ _ g1 ⟨DF.bl _,Nw.data⟩⟩
 ·cases eu
def znP(x:D)(ds:List D):Option Bool:=(flD x).bind fun w=>(ds.mapM flD).bind fun ws=>some (inV w ws)
def fIn(neg:Bool)(a b:U):Option U:=match a with
 | .d x=>b.items.bind fun ds=>(znP x ds).bind fun r=>some (.d (.bool (if neg=true then !r else r)))
 | _=>none
theorem znQ(neg:Bool):VO K (rIn K neg) (fIn neg):=by
 intro x y a b u H Q ha hb e q
 cases a with
 | d d =>
  obtain⟨ds,e1,e⟩:=bind_some (show b.items.bind _=some u from e)
  obtain⟨r,e2,e⟩:=bind_some e
  obtain⟨w,e3,e2⟩:=bind_some e2
  obtain⟨ws,e4,e2⟩:=bind_some e2
  cases e2
  cases e
  obtain⟨p,ys,rfl,sq,df⟩:=hb.items e1
  obtain⟨rfl,f1⟩:=zie ha e3
  obtain⟨rfl,f2⟩:=zif df e4
  exact⟨p,_,rfl,sq,f1,f2,q _ _ (zbE.refl H) (by cases neg<;>exact DF.bl _) Nw.data⟩
 | _=>cases e
def zjh:U->U->Option U
 | .d (.str z),.d (.int n)=>if 0<=n/\n<=1 then some (.d (.str (zl4 z n)))else none
 | _,_=>none
theorem zqz:VO K (fun x y H Q=>∃ z n,x=.str z/\y=.int n/\0<=n/\n<=1/\Q (.str (zl4 z n)) H) zjh:=by
 intro x y a b u H Q ha hb e q
 unfold zjh at e
 split at e
 ·split at e
  ·rename_i z n hc
   cases e
   exact⟨z,n,DF.str_inv ha,DF.int_inv hb,hc.1,hc.2,q _ _ (zbE.refl H) (DF.str _) Nw.data⟩
  ·cases e
 ·cases e
end
section
variable {X:Cx} {K:PySem.W.Frag}
end
def zyg(ks:List Key)(i:Nat)(k:Key):Bool:=(ks.take i).any fun x=>decide (x=k)
def zlf(ks:List Key):Nat->Nat
 | 0=>0
 | i+1=>match ks[i]? with
  | some k=>if zyg ks i k=true then zlf ks i else zlf ks i+1
  | none=>zlf ks i
section
variable {prog:Program} {w:World} {A:Around} {R:Result->Shared->Prop} {I:Addr} {fp wr:List Addr} {G:Array GenState->Array GenState->Prop} {ks:List Key} {P:Nat->Value->Prop} {St:Nat->Shared->Prop}
end
section
variable {prog:Program} {w:World} {A:Around} {E:Value->Shared->Prop} {s:Shared}
end
section
variable {X:Cx} {K:PySem.W.Frag}
def zxF:U->Option U
 | .d (.tuple ds)=>(ds.mapM zja).bind fun ks=>if ks.length<=1000 then some (.d (.int (zlf ks ks.length)))else none
 | _=>none
def zt9:List Addr->TA
 | []=>zgY
 | C::cs=>zcN (tC (.ref C)) (zt9 cs)
theorem zlg:∀ {cs:List Addr} {σ:St} {H:Hp} {Q:List V->Hp->Prop},Q (cs.map V.ref) H->zt9 cs σ H Q
 | [],_,_,_,q=>q
 | C::cs,σ,H,Q,q=>zlg (cs:=cs) (σ:=σ) (H:=H) (Q:=fun vs H'=>Q (.ref C::vs) H') q
def zua(K:PySem.W.Frag)(tab:List (Str×List Str)):List (Str×Addr)->Prop
 | []=>True
 | p::ps=>(XN K p.1 p.2/\(tab.lookup p.1).isSome=true)/\zua K tab ps
def zrY(K:PySem.W.Frag):List V->Hp->VK->Prop:=fun xs H Q=>∃ (a C:Addr) (fs:List (Str×V)) (p:Addr) (cs:List Addr) (b:Bool),xs=[.ref a,.ref p]/\H p=some (.tup (cs.map V.ref))/\XV H a C fs/\XI K C/\PySem.W.kitAny K (.ref C) (cs.map Value.ref)=some b/\Q (.bl b) H
theorem zji:∀ {cs:List Addr} {us:List Value},zac (cs.map V.ref) us->us=cs.map Value.ref
 | [],_,.nil=>rfl
 | C::cs,u::us,.cons r t=>by
  cases(show u=Value.ref C from r)
  rw [zji t]
  rfl
theorem zml(K:PySem.W.Frag)(hK:X.K=K):zb6 X (.builtin "isinstance") (zrY K):=by
 subst hK
 intro pins s σ H xs us Q I r h
 obtain⟨a,C,fs,p,cs,b,rfl,hp,xv,Y,e,q⟩:=h
 obtain⟨w,u,rfl,rx,ru⟩:=ziM r
 cases(show w=Value.ref a from rx)
 cases(show u=Value.ref p from ru)
 obtain⟨its,rv,⟨ob,h1,h2,n,h3⟩,_⟩:=I.tuple (SqT.of hp)
 cases zji rv
 obtain⟨ox,ea,ec,en,z⟩:=xv
 obtain⟨ha,_⟩:=I.hok a _ ea
 have Z:∃ od,PySem.W.InstAt s.heap a ox C od:=by
  rcases z with ⟨_,ed⟩ | ⟨od,dx,ed,edx⟩
  ·exact⟨none,ha,ec,en,by rw [ed]; trivial⟩
  ·obtain⟨hdx,_⟩:=I.hok dx _ edx
   exact⟨some od,ha,ec,en,by rw [ed]; exact hdx⟩
 obtain⟨od,Z⟩:=Z
 obtain⟨oc,odd,odt,osl⟩:=ob
 cases(show oc=_ from h2)
 cases(show odt=_ from h3)
 exact PySem.W.kia_tup (zi1 Y) I.kIn Z h1 e (fun z=>nomatch z) fun tk=>⟨.bl b,H,I.tok tk,rfl,q⟩
def zlh(tab:List (Str×List Str))(cs:List Str):U->Option U
 | .d (.dict ((.none,.str n)::_))=>(tab.lookup n).map fun ups=>.d (.bool (cs.any fun c=>decide (c=n) || ups.contains c))
 | _=>none
theorem zhE{tab:List (Str×List Str)}{fl:List Str}(T:XT K tab fl){n:Str}{ups:List Str}{C:Addr}(hn:tab.lookup n=some ups)(xn:XN K n C):∀ {cs:List (Str×Addr)},zua K tab cs->PySem.W.kitAny K (.ref C) ((cs.map (·.2)).map Value.ref)=some ((cs.map (·.1)).any fun c=>decide (c=n) || ups.contains c)
 | [],_=>rfl
 | p::cs,h=>by
  have z:=T.is n ups C hn xn p.1 p.2 h.1.2 h.1.1
  rw [List.map_cons,List.map_cons,List.map_cons,List.any_cons]
  unfold PySem.W.kitAny
  rw [z]
  cases hb:(decide (p.1=n) || ups.contains p.1)with
  | true=>simp [hb]
  | false =>
   dsimp only
   rw [zhE T hn xn h.2]
   simp [hb]
theorem znR{tab:List (Str×List Str)}{fl:List Str}{cs:List (Str×Addr)}{te:TE}{me:ME}(T:XT K tab fl)(hc:zua K tab cs)(hl:cs.length<=1000)(h:VE K te me):VE K (tCB (zrY K) (zcN te (zcN (zpp (zt9 (cs.map (·.2)))) zgY))) (mUn (zlh tab (cs.map (·.1))) me):=by
 intro ρ σ H a ρ' Q rs e q
 obtain⟨⟨a1,ρ1⟩,e1,e⟩:=bind_some e
 obtain⟨x,ex,e⟩:=bind_some e
 obtain⟨u,eu,e⟩:=bind_some e
 cases e
 refine h ρ σ H a1 _ _ rs e1 fun v1 H1 g1 k1=>?_
 have p:=k1.now rs g1 ex
 unfold zlh at eu
 split at eu
 ·rename_i n ds
  obtain⟨ups,hu,rfl⟩:=Option.map_eq_some_iff.mp eu
  obtain⟨a,C,fs,rfl,xv,xn,t⟩:=DF.exc_inv p
  refine zlg ⟨by rw [List.length_map,List.length_map,sizeLine_eq]; omega,fun pp hp=>?_⟩
  have sm:zbE H1 (upd H1 pp (.tup ((cs.map (·.2)).map V.ref))):=fun b o hb=>by rw [zD (zav hb hp)]; exact hb
  refine⟨a,C,fs,pp,cs.map (·.2),_,rfl,zG,xv.kp sm.kp,(T.cl n ups C hu xn).1,zhE T hu xn hc,?_⟩
  exact q _ _ (g1.trans (Go.grow g1.rs sm)) ⟨DF.bl _,Nw.data⟩
 ·cases eu
def znS(K:PySem.W.Frag):R2:=fun x y H Q=>zmP K x y H Q\/∃ a b,x=.ref a/\y=.ref b/\SqT K H a []/\(∃ ys,SqT K H b ys)/\Q y H
end
section
variable {X:Cx} {K:PySem.W.Frag}
theorem zqA{prog:Program}{w:World}{A:Around}{E:Value->Shared->Prop}{s:Shared}{t b:Addr}{ws:List Value}{Q:Value->Shared->Prop}(ht:IsTup s.heap t #[])(hb:IsTup s.heap b ws.toArray)(h:Q (.ref b) s):wpAny (model prog w) A (binaryOp .Add (.ref t) (.ref b)) Q E s:=by
 obtain⟨⟨c1,d1,o1,s1⟩,h1,z1,n1,y1⟩:=id ht
 obtain⟨⟨c2,d2,o2,s2⟩,h2,z2,n2,y2⟩:=id hb
 cases(show c1=_ from z1)
 cases(show c2=_ from z2)
 cases(show o1=_ from y1)
 cases(show o2=_ from y2)
 have mt:=tuple_addW0 t b #[] ws.toArray n1 n2 d1 d2 s1 s2 rfl
 exact concat_meets ⟨_,h1,rfl⟩ ⟨_,h2,rfl⟩ noFill_tuple_add seq_tuple_add PySem.F.slot_tuple_add PySem.F.entry_tuple_add (PySem.F.args_tuple_add_2 _ _) mt ⟨h1,h2,h⟩
theorem zjj(K:PySem.W.Frag)(hK:X.K=K):OpR X (binaryOp .Add) (znS K):=by
 subst hK
 intro pins s σ H x y v u Q I rx ry h
 rcases h with h | ⟨a,b,rfl,rfl,ha,⟨ys,hb⟩,q⟩
 ·exact zpt pins s σ H x y v u Q I rx ry h
 ·cases rx
  cases ry
  obtain⟨its,r1,p1,_⟩:=I.tuple ha
  obtain⟨its2,r2,p2,_⟩:=I.tuple hb
  cases r1
  exact zqA p1 p2 ⟨.ref b,H,I,rfl,q⟩
def zfj:U->U->Option U
 | .d (.tuple []),.d (.tuple ys)=>some (.d (.tuple ys))
 | a,b=>zjc a b
theorem zjk:VO K (znS K) zfj:=by
 intro x y a b u H Q ha hb e q
 unfold zfj at e
 split at e
 ·cases e
  obtain⟨p,us,rfl,h1,h2⟩:=DF.tup_inv ha
  obtain⟨p',us',rfl,h1',h2'⟩:=DF.tup_inv hb
  cases h2
  exact .inr ⟨p,p',rfl,rfl,SqT.of h1,⟨us',SqT.of h1'⟩,q _ _ (zbE.refl H) hb Nw.data⟩
 ·exact .inl (zpX x y _ _ u H Q ha hb e q)
end
def GTi(K:PySem.W.Frag)(g:Addr)(ns:List Int):Prop:=∃ (o:Obj) (its:Array Value) (n:Nat),K.lookup g=some o/\o.cls=.type "tuple"/\o.data=.seq its n/\its.size<=sizeLine/\zac (ns.map V.int) its.toList
section
variable {X:Cx} {K:PySem.W.Frag}
theorem GTi.sq{g:Addr}{ns:List Int}{H:Hp}(h:GTi K g ns):SqT K H g (ns.map V.int):=.inr h
theorem zjl{H:Hp}:∀ (ns:List Int),DVs K H (ns.map V.int) (ns.map PyData.int)
 | []=>.nil
 | n::ns=>.cons (.int n) (zjl ns)
theorem GTi.dv{g:Addr}{ns:List Int}{H:Hp}(h:GTi K g ns):DV K H (.ref g) (.tuple (ns.map PyData.int)):=.tup h.sq (zjl ns)
def zub(neg:Bool)(ns:List Int)(a:U):Option U:=zv3 neg a (.d (.tuple (ns.map PyData.int)))
theorem zwX{neg:Bool}{g:Addr}{ns:List Int}{te:TE}{me:ME}(gt:GTi K g ns)(h:VE K te me):VE K (tOp (zv2 K neg) te (tC (.ref g))) (mUn (zub neg ns) me):=by
 intro ρ σ H a ρ' Q rs e q
 obtain⟨⟨a1,ρ1⟩,e1,e⟩:=bind_some e
 obtain⟨x,ex,e⟩:=bind_some e
 obtain⟨u,eu,e⟩:=bind_some e
 cases e
 refine h ρ σ H a1 _ _ rs e1 fun v1 H1 g1 k1=>?_
 have p:=k1.now rs g1 ex
 obtain⟨dx,e2,eu⟩:=bind_some eu
 obtain⟨dy,e3,eu⟩:=bind_some eu
 cases e3
 split at eu
 ·rename_i hs
  cases eu
  exact⟨dx,_,p.dv e2 (zeA _ (SeqAt.canLay_of_shaped hs.1)),gt.dv,hs.1,hs.2,q _ _ g1 ⟨DF.bl _,Nw.data⟩⟩
 ·cases eu
end
theorem nr{α:Sort _}{a b:α}(h:a=b):a=b:=h
structure Ph {α:Type} (a:α):Type where
 n:Nat
def Wo{α:Type}(o:Option α)(Q:α->Prop):Prop:=∃ a,o=some a/\Q a
def Co{α β:Type}(f:α->Option β)(t:Ph f)(Q:β->Prop)(a:α):Prop:=Wo (f a) Q
section
variable {α β:Type} {a:α} {o:Option α} {f:α->Option β} {Q:α->Prop} {R:β->Prop}
theorem zca:Wo (some a) Q=Q a:=propext ⟨fun⟨_,e,h⟩=>(by cases e; exact h),fun h=>⟨a,rfl,h⟩⟩
theorem zE:Wo (o.bind f) R=Wo o (Co f ⟨0⟩ R):=propext (by
 cases o with
 | none=>exact⟨fun⟨_,e,_⟩=>(by cases e),fun⟨_,e,_⟩=>(by cases e)⟩
 | some a=>rw [zca]; exact Iff.rfl)
theorem ze1{t:Ph f}:Co f t R a=Wo (f a) R:=rfl
theorem zcS{c:Prop}[Decidable c]{x y:Option α}(h:c->Wo x Q)(h':¬c->Wo y Q):Wo (if c then x else y) Q:=by
 split
 ·exact h ‹_›
 ·exact h' ‹_›
end
section
variable {ρ:En} {me ma mb mc mk mi md my mv mo:ME} {mA mK:MA} {mt mu:MT} {mI:MI} {mg:MG} {m1 m2:MS} {i j n:Nat} {u:U} {x:D} {mx:MX} {mXA:MXA}
variable {QE:Ar×En->Prop} {QA:List Ar×En->Prop} {QT:Bool×En->Prop} {QS:Fl->Prop} {QI:List D×En->Prop} {QO:Option Int×En->Prop} {QG:En->Prop} {QX:RX Ar->Prop} {QXA:RX (List Ar)->Prop} {QR:D×En->Prop} {QF:U×List U->Prop} {QFX:(U×List U) ⊕ (D×List U)->Prop}
theorem zuc:Wo (ze i ρ) QE=Wo (ρ[i]?).join (Co (fun _=>some (.s i,ρ)) ⟨0⟩ QE):=by rw [ztv,zE]
theorem zyh:Wo (mC x ρ) QE=QE (.u (.d x),ρ):=by rw [zxS,zca]
def zqB(f:U->U->Option U)(a:Ar)(q:Ar×En):Option (Ar×En):=(a.get q.2).bind fun x=>(q.1.get q.2).bind fun y=>(f x y).bind fun u=>some (.u u,q.2)
def kOp(f:U->U->Option U)(mb:ME)(p:Ar×En):Option (Ar×En):=(mb p.2).bind (zqB f p.1)
theorem zwY{f:U->U->Option U}:Wo (mOp f ma mb ρ) QE=Wo (ma ρ) (Co (kOp f mb) ⟨0⟩ QE):=by rw [zwc,zE]; rfl
theorem zud{f:U->U->Option U}{p:Ar×En}:Wo (kOp f mb p) QE=Wo (mb p.2) (Co (zqB f p.1) ⟨0⟩ QE):=by unfold kOp; rw [zE]
theorem zqC{f:U->U->Option U}{a:Ar}{q:Ar×En}:Wo (zqB f a q) QE=Wo (a.get q.2) (Co (fun x=>(q.1.get q.2).bind fun y=>(f x y).bind fun u=>some (.u u,q.2)) ⟨0⟩ QE):=by unfold zqB; rw [zE]
theorem zwZ{f:U->Option U}:Wo (mUn f ma ρ) QE=Wo (ma ρ) (Co (fun p=>(p.1.get p.2).bind fun x=>(f x).bind fun u=>some (.u u,p.2)) ⟨0⟩ QE):=by rw [zwd,zE]
theorem zue:Wo (zm ρ) QA=QA ([],ρ):=by rw [ztw,zca]
theorem zqD:Wo (zb me mA ρ) QA=Wo (me ρ) (Co (fun p=>(mA p.2).bind fun q=>some (p.1::q.1,q.2)) ⟨0⟩ QA):=by rw [zp1,zE]
theorem zuf:Wo (zY mA ρ) QE=Wo (mA ρ) (Co (fun p=>(zbp p.2 p.1).bind fun us=>(zcv us).bind fun ds=>if ds.length<=sizeLine then some (.u (.d (.tuple ds)),p.2)else none) ⟨0⟩ QE):=by rw [ztx,zE]
theorem zug:Wo (zbq mA ρ) QE=Wo (mA ρ) (Co (fun p=>(zbp p.2 p.1).bind fun us=>(zcv us).bind fun ds=>if ds.length<=sizeLine then some (.u (.l ds),p.2)else none) ⟨0⟩ QE):=by rw [zty,zE]
theorem zw0{f:List U->Option U}:Wo (mCB f mA ρ) QE=Wo (mA ρ) (Co (fun p=>(zbp p.2 p.1).bind fun us=>(f us).bind fun u=>some (.u u,p.2)) ⟨0⟩ QE):=by rw [zwe,zE]
theorem zuh{f:FD}:Wo (zx f mA ρ) QE=Wo (mA ρ) (Co (fun p=>if zdE p.2 p.1=true then(zbp p.2 p.1).bind fun us=>(f us).bind fun o=>some (.u o.1,wb p.2 p.1 o.2)else none) ⟨0⟩ QE):=by rw [ztz,zE]
theorem zui:Wo (zv m1 m2 ρ) QS=Wo (m1 ρ) (Co (znA m2) ⟨0⟩ QS):=by rw [ztD,zE]
theorem zuj:Wo (zK i me ρ) QS=Wo (me ρ) (Co (fun p=>(put p).bind fun q=>some (.nx (q.2.set i (some q.1)))) ⟨0⟩ QS):=by rw [znB,zE]
theorem zuk:Wo (zaq me ρ) QS=Wo (me ρ) (Co (fun p=>(put p).bind fun q=>some (.rt q.1 q.2)) ⟨0⟩ QS):=by rw [ztE,zE]
theorem zqE{pn:List Nat}:Wo (zd3 pn i ρ) QS=Wo (if i∈pn then none else(ρ[i]?).join.bind fun u=>some (.rt u (ρ.set i none))) QS:=by rw [zp5]
theorem zqF:Wo (zU ρ) QS=QS (.nx ρ):=by rw [zp6,zca]
theorem zqG:Wo (za9 me ρ) QS=Wo (me ρ) (Co (fun p=>some (.nx p.2)) ⟨0⟩ QS):=by rw [zp7,zE]
theorem zul:Wo (zah mt m1 m2 ρ) QS=Wo (mt ρ) (Co (fun p=>if p.1=true then m1 p.2 else m2 p.2) ⟨0⟩ QS):=by rw [ztF,zE]
theorem zyi:Wo (mB me ρ) QT=Wo (me ρ) (Co (fun p=>(p.1.get p.2).bind fun u=>u.bol.bind fun b=>some (b,p.2)) ⟨0⟩ QT):=by rw [zxV,zE]
theorem zum:Wo (zdm mt mu ρ) QT=Wo (mt ρ) (Co (fun p=>if p.1=true then mu p.2 else some (false,p.2)) ⟨0⟩ QT):=by rw [ztG,zE]
theorem zw1:Wo (mOr mt mu ρ) QT=Wo (mt ρ) (Co (fun p=>if p.1=true then some (true,p.2)else mu p.2) ⟨0⟩ QT):=by rw [zwj,zE]
theorem zun:Wo (zpQ mt ρ) QT=Wo (mt ρ) (Co (fun p=>some (!p.1,p.2)) ⟨0⟩ QT):=by rw [ztH,zE]
theorem zuo:Wo (zpR ma ρ) QT=Wo (ma ρ) (Co (fun p=>(p.1.get p.2).bind fun u=>u.tru.bind fun b=>some (b,p.2)) ⟨0⟩ QT):=by rw [ztI,zE]
theorem zup:Wo (zjd ρ) QT=QT (true,ρ):=by rw [ztJ,zca]
theorem zuq:Wo (zb7 i me ρ) QE=Wo (ρ[i]?).join (Co (fun w=>w.lo.bind fun _=>(me ρ).bind fun p=>(p.1.get p.2).bind fun u=>u.da.bind fun x=>(p.2[i]?).join.bind fun w=>w.lo.bind fun xs=>if xs.length < sizeLine then some (.u (.d .none),p.2.set i (some (.l (xs++[x]))))else none) ⟨0⟩ QE):=by rw [ztK,zE]
theorem znT:Wo (zeC i me mi ρ) QS=Wo (ρ[i]?).join (Co (fun _=>(me ρ).bind fun p=>(mi p.2).bind fun q=>(p.1.get q.2).bind fun u=>(q.1.get q.2).bind fun w=>u.da.bind fun x=>w.num.bind fun k=>(q.2[i]?).join.bind fun z=>z.lo.bind fun xs=>(ixN xs.length k).bind fun j=>some (.nx (q.2.set i (some (.l (xs.set j x)))))) ⟨0⟩ QS):=by rw [znC,zE]
def znU(w:U)(y x:D):Option U:=match w with
 | .t kvs=>(zbL y).bind fun k=>if kvs.length < sizeLine then some (.t (zg2 kvs k x))else none
 | .k kvs=>(zja y).bind fun k=>if kvs.length < sizeLine then some (.k (zg2 kvs k x))else none
 | _=>none
theorem zqH:zeY i my mv ρ=(ρ[i]?).join.bind fun _=>(mv ρ).bind fun p=>(my p.2).bind fun q=>(p.1.get q.2).bind fun x=>(q.1.get q.2).bind fun y=>x.da.bind fun x=>y.da.bind fun y=>(q.2[i]?).join.bind fun w=>(znU w y x).bind fun z=>some (.nx (q.2.set i (some z))):=by
 unfold zeY
 refine bind_fn fun _=>bind_fn fun p=>bind_fn fun q=>bind_fn fun x=>bind_fn fun y=>?_
 cases x with
 | l=>rfl
 | t=>rfl
 | k=>rfl
 | d x =>
  cases y with
  | l=>rfl
  | t=>rfl
  | k=>rfl
  | d y =>
   show _=((q.2[i]?).join.bind _)
   cases q.2[i]? with
   | none=>rfl
   | some o =>
    cases o with
    | none=>rfl
    | some w =>
     cases w with
     | l=>rfl
     | d=>rfl
     | t kvs =>
      show(zbL y).bind _=((zbL y).bind _).bind _
      cases zbL y with
      | none=>rfl
      | some k =>
       show(if _ then _ else _)=(if _ then _ else _:Option U).bind _
       split<;>rfl
     | k kvs =>
      show(zja y).bind _=((zja y).bind _).bind _
      cases zja y with
      | none=>rfl
      | some k =>
       show(if _ then _ else _)=(if _ then _ else _:Option U).bind _
       split<;>rfl
theorem zqI:Wo (zeY i my mv ρ) QS=Wo (ρ[i]?).join (Co (fun _=>(mv ρ).bind fun p=>(my p.2).bind fun q=>(p.1.get q.2).bind fun x=>(q.1.get q.2).bind fun y=>x.da.bind fun x=>y.da.bind fun y=>(q.2[i]?).join.bind fun w=>(znU w y x).bind fun z=>some (.nx (q.2.set i (some z)))) ⟨0⟩ QS):=by rw [zqH,zE]
theorem zqJ:Wo (zdq md my ρ) QE=Wo (md ρ) (Co (fun p=>(my p.2).bind fun q=>(p.1.get q.2).bind fun u=>(q.1.get q.2).bind fun y=>(zg3 u y).bind fun o=>o.bind fun d=>some (.u (.d d),q.2)) ⟨0⟩ QE):=by rw [zp9,zE]
theorem znV:Wo (zcR ρ) QE=QE (.u (.t []),ρ):=by rw [znD,zca]
theorem zw2:Wo (mFz me ρ) QE=Wo (me ρ) (Co (fun p=>(p.1.get p.2).bind fun u=>u.fz.bind fun x=>some (.u (.d x),kFz x p)) ⟨0⟩ QE):=by rw [zwl,zE]
theorem zw3{g:U->Option (List D)}:Wo (mIt g me ρ) QI=Wo (me ρ) (Co (fun p=>(p.1.get p.2).bind fun u=>(g u).bind fun ds=>some (ds,p.2)) ⟨0⟩ QI):=by rw [zwo,zE]
theorem zw4{n:Int}(h:-4611686018427387904<=n)(h2:n < 4611686018427387904):zqb [.d (.int n)]=some (zb2 0 n.toNat):=by rw [ztM,if_pos ⟨by omega,by omega⟩]
theorem zqK:Wo (zcm mA ρ) QI=Wo (mA ρ) (Co (fun p=>(zbp p.2 p.1).bind fun us=>(zqb us).bind fun ds=>some (ds,p.2)) ⟨0⟩ QI):=by rw [zqc,zE]
def zys:List U->Option (List D)
 | [.d (.int i),.d (.int j)]=>if -(2^62)<=i/\i < 2^62/\-(2^62)<=j/\j < 2^62 then some (zb2 i (j - i).toNat)else none
 | _=>none
def znW:List U->Option (List D)
 | [.d (.tuple ds)]=>some (zcx 0 ds)
 | _=>none
theorem zqL{ds:List D}:znW [.d (.tuple ds)]=some (zcx 0 ds):=rfl
theorem zqM:zk8 mA ρ=(mA ρ).bind fun p=>(zbp p.2 p.1).bind fun us=>(znW us).bind fun ds=>some (ds,p.2):=bind_fn fun p=>bind_fn fun us=>by
 match us with
 | []=>rfl
 | [.d x]=>cases x<;>rfl
 | [.l _]=>rfl
 | [.t _]=>rfl
 | [.k _]=>rfl
 | .d x::b::us=>cases x<;>rfl
 | .l x::b::us=>rfl
 | .t x::b::us=>rfl
 | .k x::b::us=>rfl
theorem zqN:Wo (zk8 mA ρ) QI=Wo (mA ρ) (Co (fun p=>(zbp p.2 p.1).bind fun us=>(znW us).bind fun ds=>some (ds,p.2)) ⟨0⟩ QI):=by rw [zqM,zE]
theorem zur:Wo (zdb mI mg m1 ρ) QS=Wo (mI ρ) (Co (fun p=>zcy mg m1 p.1 p.2) ⟨0⟩ QS):=by rw [ztN,zE]
theorem zus{nt:Nat}{js:List Nat}:Wo (mLC mI nt js mg mt me ρ) QE=Wo (mI ρ) (Co (fun p=>(lcM nt mg mt me p.1 (cEn nt js p.2) []).bind fun q=>some (.u (.l q.1),back js (q.2.drop nt) p.2)) ⟨0⟩ QE):=by rw [zwp,zE]
theorem zw5{f:U->Option Int->Option Int->Option U}{ml mh:MO}:Wo (mSl f me ml mh ρ) QE=Wo (me ρ) (Co (fun p=>(ml p.2).bind fun l=>(mh l.2).bind fun h=>(p.1.get h.2).bind fun x=>(f x l.1 h.1).bind fun u=>some (.u u,h.2)) ⟨0⟩ QE):=by rw [zwq,zE]
theorem zmm:Wo (zbO ρ) QO=QO (none,ρ):=by rw [zmi,zca]
theorem zqO:Wo (zdr me ρ) QO=Wo (me ρ) (Co (fun p=>(p.1.get p.2).bind fun u=>u.num.bind fun i=>some (some i,p.2)) ⟨0⟩ QO):=by rw [zqd,zE]
theorem zut:Wo (znq i j mA ρ) QS=Wo (mA ρ) (Co (fun p=>(zbp p.2 p.1).bind fun us=>(ztO us).bind fun z=>some (.nx ((p.2.set i (some (.d z.1))).set j (some (.d z.2))))) ⟨0⟩ QS):=by rw [ztQ,zE]
theorem zuu:Wo (zda me mg ρ) QS=Wo (me ρ) (Co (fun p=>(p.1.get p.2).bind fun u=>u.da.bind fun d=>(mg d p.2).bind fun ρ'=>some (.nx ρ')) ⟨0⟩ QS):=by rw [ztR,zE]
theorem znX:Wo (zH i x ρ) QG=QG (ρ.set i (some (.d x))):=by rw [znE,zca]
theorem zqP{gs:List D->En->Option En}{ds:List D}:Wo (zbG n gs (.tuple ds) ρ) QG=Wo (if ds.length=n then gs ds ρ else none) QG:=by rw [zqe]
theorem znY{g:MG}{gs:List D->En->Option En}{ds:List D}:Wo (zaf g gs (x::ds) ρ) QG=Wo (g x ρ) (Co (fun ρ1=>gs ds ρ1) ⟨0⟩ QG):=by rw [znF,zE]
theorem zqQ:Wo (zb0 [] ρ) QG=QG ρ:=by rw [zqf,zca]
theorem zw6{ty:U->Bool}{f:U->U->Option U}:Wo (mM1 ty f mo ma ρ) QE=Wo (mo ρ) (Co (fun p=>(p.1.get p.2).bind fun x0=>if ty x0=true then(ma p.2).bind fun q=>(p.1.get q.2).bind fun x=>(q.1.get q.2).bind fun y=>(f x y).bind fun u=>some (.u u,q.2)else none) ⟨0⟩ QE):=by
 show Wo (Option.bind _ _) QE=_
 rw [zE]
theorem zw7{xs:List D}:tyL (.l xs)=true:=rfl
theorem zw8{z:Str}:tyS (.d (.str z))=true:=rfl
def x1:List D->Option D
 | [x]=>some x
 | _=>none
theorem zyj:x1 [x]=some x:=rfl
theorem zw9{n f:Str}:ztY n f mA ρ=(mA ρ).bind fun p=>(zbp p.2 p.1).bind fun us=>(zcv us).bind fun ds=>(x1 ds).bind fun x=>some (.u (.d (.dict [(.none,.str n),(.str f,x)])),p.2):=bind_fn fun p=>bind_fn fun us=>bind_fn fun ds=>match ds with
 | []=>rfl
 | [_]=>rfl
 | _::_::_=>rfl
theorem zxa{n f:Str}:mXR n f mA ρ=(mA ρ).bind fun p=>(zbp p.2 p.1).bind fun us=>(zcv us).bind fun ds=>(x1 ds).bind fun x=>some (.dict [(.none,.str n),(.str f,x)],p.2):=bind_fn fun p=>bind_fn fun us=>bind_fn fun ds=>match ds with
 | []=>rfl
 | [_]=>rfl
 | _::_::_=>rfl
theorem zxb{n f:Str}:Wo (mXR n f mA ρ) QR=Wo (mA ρ) (Co (fun p=>(zbp p.2 p.1).bind fun us=>(zcv us).bind fun ds=>(x1 ds).bind fun x=>some (.dict [(.none,.str n),(.str f,x)],p.2)) ⟨0⟩ QR):=by rw [zxa,zE]
theorem znZ{m:En->Option (D×En)}:Wo (zkn m ρ) QS=Wo (m ρ) (Co (fun p=>some (.ex p.1 p.2)) ⟨0⟩ QS):=by show Wo (Option.bind _ _) QS=_; rw [zE]
theorem zqR{f:FX}:Wo (znM f mA ρ) QX=Wo (mA ρ) (Co (fun p=>if zdE p.2 p.1=true then(zbp p.2 p.1).bind fun us=>(f us).bind fun o=>some (zqw p.2 p.1 o)else none) ⟨0⟩ QX):=by show Wo (Option.bind _ _) QX=_; rw [zE]
theorem zuv{as:List Ar}{o:U×List U}:zqw ρ as (.inl o)=.inl (.u o.1,wb ρ as o.2):=rfl
theorem zuw{as:List Ar}{o:D×List U}:zqw ρ as (.inr o)=.inr (o.1,wb ρ as o.2):=rfl
def kX{α β:Type}(f:α×En->Option β)(g:D×En->Option β):RX α->Option β
 | .inl p=>f p
 | .inr z=>g z
theorem zqS{mS:ME->MS}{k:Ar×En->Option Fl}(h:∀ me:ME,mS me ρ=(me ρ).bind k):zmk mS mx ρ=(mx ρ).bind (kX k fun z=>some (.ex z.1 z.2)):=by
 unfold zmk
 rw [h (lft mx)]
 unfold lft
 cases mx ρ with
 | none=>rfl
 | some r=>cases r<;>rfl
theorem zqT:Wo (zmk (zK i) mx ρ) QS=Wo (mx ρ) (Co (kX (fun p=>(put p).bind fun q=>some (.nx (q.2.set i (some q.1)))) fun z=>some (.ex z.1 z.2)) ⟨0⟩ QS):=by rw [zqS (fun _=>znB),zE]
def zux(tab:List (Str×List Str))(c:Str)(i:Nat)(mh:MS):Fl->Option Fl
 | .ex x ρ'=>if under tab c x=true then(mh (ρ'.set i (some (.d x)))).bind (clr i)else none
 | f=>some f
theorem zuy{tab:List (Str×List Str)}{c:Str}:Wo (zt3 tab c i m1 m2 ρ) QS=Wo (m1 ρ) (Co (zux tab c i m2) ⟨0⟩ QS):=by
 rw [<-zE]
 exact congrArg (Wo · QS) (bind_fn fun f=>by cases f<;>rfl)
theorem zqU{tab:List (Str×List Str)}{c:Str}:zux tab c i m2 (.nx ρ)=some (.nx ρ):=rfl
theorem zqV{tab:List (Str×List Str)}{c:Str}:zux tab c i m2 (.ex x ρ)=if under tab c x=true then(m2 (ρ.set i (some (.d x)))).bind (clr i)else none:=rfl
theorem zuz:clr i (.nx ρ)=some (.nx (ρ.set i none)):=rfl
theorem zuA{pn:List Nat}{us:List U}:Wo (zb3 n pn m1 us) QF=Wo (m1 (sm us++List.replicate (n - us.length) none)) (Co (zqh pn us) ⟨0⟩ QF):=by rw [ztU,zE]
theorem zqW{pn:List Nat}{us:List U}:Wo (zt6 n pn m1 us) QFX=Wo (m1 (sm us++List.replicate (n - us.length) none)) (Co (zle pn us) ⟨0⟩ QFX):=by
 show Wo (Option.bind _ _) QFX=_
 exact zE
theorem zn0{pn:List Nat}{us:List U}:zle pn us (.rt u ρ)=(zaU pn ρ 0 us).bind fun os=>some (.inl (u,os)):=rfl
theorem zn1{pn:List Nat}{us:List U}:zle pn us (.ex x ρ)=(zaU pn ρ 0 us).bind fun os=>some (.inr (x,os)):=rfl
def zgy(Q:Fl->Prop)(P:En->Prop):Fl->Prop
 | .nx ρ=>P ρ
 | .ct ρ=>P ρ
 | .bk ρ=>Q (.nx ρ)
 | .rt u ρ=>Q (.rt u ρ)
 | .ex x ρ=>Q (.ex x ρ)
theorem zn2{Q:Fl->Prop}{P:En->Prop}:zgy Q P (.nx ρ)=P ρ:=rfl
theorem zn3{Q:Fl->Prop}{P:En->Prop}:zgy Q P (.rt u ρ)=Q (.rt u ρ):=rfl
theorem zn4{Q:Fl->Prop}{P:En->Prop}:zgy Q P (.ex x ρ)=Q (.ex x ρ):=rfl
theorem ze2{Q:Fl->Prop}(P:Nat->En->Prop){ds:List D}(h0:P 0 ρ)(st:∀ i d ρ,ds[i]?=some d->P i ρ->Wo (mg d ρ) (Co m1 ⟨0⟩ (zgy Q (P (i+1)))))(hQ:∀ ρ,P ds.length ρ->Q (.nx ρ)):Wo (zcy mg m1 ds ρ) Q:=by
 have main:∀ (es:List D) (n:Nat) (ρ:En),n+es.length=ds.length->(∀ i,es[i]?=ds[n+i]?)->P n ρ->Wo (zcy mg m1 es ρ) Q:=by
  intro es
  induction es with
  | nil =>
   intro n ρ hn _ hp
   show Wo (some _) Q
   rw [zca]
   rw [List.length_nil,Nat.add_zero]at hn
   exact hQ ρ (hn▸hp)
  | cons d es ih =>
   intro n ρ hn he hp
   have e0:=he 0
   rw [List.getElem?_cons_zero,Nat.add_zero]at e0
   obtain⟨ρ1,e1,f,e2,k⟩:=st n d ρ e0.symm hp
   have nxt:∀ ρ2,P (n+1) ρ2->Wo (zcy mg m1 es ρ2) Q:=fun ρ2 z=>ih (n+1) ρ2 (by rw [List.length_cons]at hn; omega) (fun i=>by
    have:=he (i+1)
    rw [List.getElem?_cons_succ]at this
    rw [this,show n+(i+1)=n+1+i by omega]) z
   unfold zcy
   rw [zE]
   refine⟨ρ1,e1,?_⟩
   rw [ze1,zE]
   refine⟨f,e2,?_⟩
   rw [ze1]
   cases f with
   | nx ρ2=>exact nxt ρ2 k
   | ct ρ2=>exact nxt ρ2 k
   | bk ρ2=>exact⟨_,rfl,k⟩
   | rt u ρ2=>exact⟨_,rfl,k⟩
   | ex x ρ2=>exact⟨_,rfl,k⟩
 exact main ds 0 ρ (by omega) (fun i=>by rw [Nat.zero_add]) h0
theorem zd7{α:Type}{g:α->D}{Q:Fl->Prop}(P:List α->List α->En->Prop){as:List α}(h0:P [] as ρ)(st:∀ bs a cs ρ,as=bs++a::cs->P bs (a::cs) ρ->Wo (mg (g a) ρ) (Co m1 ⟨0⟩ (zgy Q (P (bs++[a]) cs))))(hQ:∀ ρ,P as [] ρ->Q (.nx ρ)):Wo (zcy mg m1 (as.map g) ρ) Q:=by
 have main:∀ (cs bs:List α) (ρ:En),as=bs++cs->P bs cs ρ->Wo (zcy mg m1 (cs.map g) ρ) Q:=by
  intro cs
  induction cs with
  | nil =>
   intro bs ρ e hp
   rw [List.append_nil]at e
   subst e
   exact⟨_,rfl,hQ ρ hp⟩
  | cons a cs ih =>
   intro bs ρ e hp
   obtain⟨ρ1,e1,f,e2,k⟩:=st bs a cs ρ e hp
   have nxt:∀ ρ2,P (bs++[a]) cs ρ2->Wo (zcy mg m1 (cs.map g) ρ2) Q:=fun ρ2 z=>ih (bs++[a]) ρ2 (by rw [e,List.append_assoc]; rfl) z
   rw [List.map_cons]
   unfold zcy
   rw [zE]
   refine⟨ρ1,e1,?_⟩
   rw [ze1,zE]
   refine⟨f,e2,?_⟩
   rw [ze1]
   cases f with
   | nx ρ2=>exact nxt ρ2 k
   | ct ρ2=>exact nxt ρ2 k
   | bk ρ2=>exact⟨_,rfl,k⟩
   | rt u ρ2=>exact⟨_,rfl,k⟩
   | ex x ρ2=>exact⟨_,rfl,k⟩
 exact main as [] ρ rfl h0
def kLC(nt:Nat)(me:ME)(ys:List D)(P:En->List D->Prop)(p:Bool×En):Prop:=if p.1=true then Wo (me p.2) (Co (fun q=>(q.1.get q.2).bind fun u=>u.da.bind fun y=>some (reset nt q.2,ys++[y])) ⟨0⟩ fun z=>P z.1 z.2)else P (reset nt p.2) ys
theorem zrZ{nt:Nat}{ys:List D}{P:En->List D->Prop}:kLC nt me ys P (true,ρ)=Wo (me ρ) (Co (fun q=>(q.1.get q.2).bind fun u=>u.da.bind fun y=>some (reset nt q.2,ys++[y])) ⟨0⟩ fun z=>P z.1 z.2):=rfl
theorem zxc{nt:Nat}{ys:List D}{P:En->List D->Prop}:kLC nt me ys P (false,ρ)=P (reset nt ρ) ys:=rfl
theorem zjm{nt:Nat}{Q:List D×En->Prop}(P:Nat->En->List D->Prop){ds:List D}(hz:ds.length<=sizeLine)(hP:∀ i ρ ys,P i ρ ys->ys.length<=i)(h0:P 0 ρ [])(st:∀ i d ρ ys,ds[i]?=some d->P i ρ ys->Wo (mg d ρ) (Co mt ⟨0⟩ (kLC nt me ys (P (i+1)))))(hQ:∀ ρ ys,P ds.length ρ ys->Q (ys,ρ)):Wo (lcM nt mg mt me ds ρ []) Q:=by
 have main:∀ (es:List D) (n:Nat) (ρ:En) (ys:List D),n+es.length=ds.length->(∀ i,es[i]?=ds[n+i]?)->P n ρ ys->Wo (lcM nt mg mt me es ρ ys) Q:=by
  intro es
  induction es with
  | nil =>
   intro n ρ ys hn _ hp
   rw [List.length_nil,Nat.add_zero]at hn
   exact⟨_,rfl,hQ ρ ys (hn▸hp)⟩
  | cons d es ih =>
   intro n ρ ys hn he hp
   have e0:=he 0
   rw [List.getElem?_cons_zero,Nat.add_zero]at e0
   obtain⟨ρ1,e1,⟨b,ρ2⟩,e2,k⟩:=st n d ρ ys e0.symm hp
   have hl:=hP _ _ _ hp
   rw [List.length_cons]at hn
   have nxt:∀ ρ2 ys2,P (n+1) ρ2 ys2->Wo (lcM nt mg mt me es ρ2 ys2) Q:=fun ρ2 ys2 z=>ih (n+1) ρ2 ys2 (by omega) (fun i=>by
    have:=he (i+1)
    rw [List.getElem?_cons_succ]at this
    rw [this,show n+(i+1)=n+1+i by omega]) z
   unfold lcM
   rw [if_pos (by omega),zE]
   refine⟨ρ1,e1,?_⟩
   rw [ze1,zE]
   refine⟨_,e2,?_⟩
   rw [ze1]
   cases b with
   | false=>rw [if_neg Bool.false_ne_true]; exact nxt _ _ k
   | true =>
    rw [if_pos rfl,zE]
    obtain⟨q,e3,k⟩:=k
    refine⟨q,e3,?_⟩
    rw [ze1,zE]at k ⊢
    obtain⟨u,e4,k⟩:=k
    refine⟨u,e4,?_⟩
    rw [ze1,zE]at k
    obtain⟨y,e5,z,e6,k⟩:=k
    cases u with
    | d y'=>cases e5; cases e6; exact nxt _ _ k
    | l=>cases e5
    | t=>cases e5
    | k=>cases e5
 exact main ds 0 ρ [] (by omega) (fun i=>by rw [Nat.zero_add]) h0
theorem zjn{Q:Fl->Prop}(P:Nat->En->Prop)(k:Nat)(h0:P k ρ)(st:∀ k ρ,P k ρ->Wo (mt ρ) fun p=>if p.1=true then Wo (m1 p.2) (zgy Q fun ρ'=>∃ k',k' < k/\P k' ρ')else Q (.nx p.2)):Wo (zeB mt m1 ρ) Q:=by
 have main:∀ (k:Nat) (ρ:En),P k ρ->∃ n f,zbK mt m1 n ρ=some f/\Q f:=by
  intro k
  induction k using Nat.strongRecOn with
  | ind k ih =>
   intro ρ hp
   obtain⟨⟨b,ρ1⟩,e1,z⟩:=st k ρ hp
   cases b with
   | false =>
    rw [if_neg Bool.false_ne_true]at z
    exact⟨1,_,by unfold zbK; rw [e1]; rfl,z⟩
   | true =>
    rw [if_pos rfl]at z
    obtain⟨f,e2,z⟩:=z
    have nxt:∀ ρ2,(∃ k',k' < k/\P k' ρ2)->f=.nx ρ2\/f=.ct ρ2->∃ n f,zbK mt m1 n ρ=some f/\Q f:=by
     rintro ρ2 ⟨k',hk,hp'⟩ hf
     obtain⟨n,f',e3,q⟩:=ih k' hk ρ2 hp'
     refine⟨n+1,f',?_,q⟩
     unfold zbK
     rw [e1,bd,if_pos rfl,e2,bd]
     rcases hf with rfl | rfl<;>exact e3
    cases f with
    | nx ρ2=>exact nxt ρ2 z (.inl rfl)
    | ct ρ2=>exact nxt ρ2 z (.inr rfl)
    | bk ρ2=>exact⟨1,_,by unfold zbK; rw [e1,bd,if_pos rfl,e2]; rfl,z⟩
    | rt u ρ2=>exact⟨1,_,by unfold zbK; rw [e1,bd,if_pos rfl,e2]; rfl,z⟩
    | ex u ρ2=>exact⟨1,_,by unfold zbK; rw [e1,bd,if_pos rfl,e2]; rfl,z⟩
 obtain⟨n,f,e,q⟩:=main k ρ h0
 exact⟨f,znr e,q⟩
end
theorem zag{α:Type}{o:Option α}{b:α}(h:Wo o (fun a=>a=b)):o=some b:=by
 obtain⟨a,e,rfl⟩:=h
 exact e
theorem zuB{α β:Type}{f:α×En->Option β}{g:D×En->Option β}{p:α×En}:kX f g (.inl p)=f p:=rfl
theorem zuC{α β:Type}{f:α×En->Option β}{g:D×En->Option β}{p:D×En}:kX f g (.inr p)=g p:=rfl
theorem zig:sizeLine=16777216:=Eq.trans zl (Eq.symm (Eq.symm (Nat.add_zero _)))
theorem zuD{α:Type}{n:Nat}{dc:Decidable (n < 16777216)}{a b:Option α}(h:n < 16777216):(if n < 16777216 then a else b)=a:=if_pos h
theorem zih{α:Type}{xs:List α}{r:Int}(h0:0<=r)(h1:r < (xs.length:Int)):∃ a,atI xs r=some a/\a∈xs/\xs[r.toNat]?=some a:=by
 have hk:r.toNat < xs.length:=by omega
 have ek:r=((r.toNat:Nat):Int):=by omega
 have q:atI xs ((r.toNat:Nat):Int)=some xs[r.toNat]:=zpu (List.getElem?_eq_getElem hk)
 rw [<-ek]at q
 exact⟨_,q,List.getElem_mem hk,List.getElem?_eq_getElem hk⟩
theorem zfk{xs:List D}{r:Int}{Q:U->Prop}(h0:0<=r)(h1:r < (xs.length:Int))(k:∀ a∈xs,Q (.d a)):Wo ((atI xs r).map U.d) Q:=by
 obtain⟨a,e,m,_⟩:=zih h0 h1
 rw [e]
 exact⟨_,rfl,k a m⟩
theorem zuE{α:Type}{f:α->D}{xs:List α}{r:Int}{Q:U->Prop}(h0:0<=r)(h1:r < (xs.length:Int))(k:∀ a∈xs,xs[r.toNat]?=some a->Q (.d (f a))):Wo ((atI (xs.map f) r).map U.d) Q:=by
 obtain⟨a,e,m,z⟩:=zih (xs:=xs.map f) h0 (by rw [List.length_map]; exact h1)
 rw [List.getElem?_map]at z
 obtain⟨b,hb,rfl⟩:=Option.map_eq_some_iff.mp z
 rw [e]
 exact⟨_,rfl,k b (List.mem_of_getElem? hb) hb⟩
theorem zr0{lo:Int}{n i:Nat}{d:D}(h:(zb2 lo n)[i]?=some d):i < n/\d=.int (lo+(i:Nat)):=zej h
theorem zkp{lo:Int}{n:Nat}:(zb2 lo n).length=n:=by
 unfold zb2
 rw [List.length_map,List.length_range]
theorem zli{ρ:En}{mg:MG}{m1:MS}{n:Nat}{Q:Fl->Prop}(P:Nat->En->Prop)(h0:P 0 ρ)(st:∀ i ρ,i < n->P i ρ->Wo (mg (.int (0+(i:Nat))) ρ) (Co m1 ⟨0⟩ (zgy Q (P (i+1)))))(hQ:∀ ρ,P n ρ->Q (.nx ρ)):Wo (zcy mg m1 (zb2 0 n) ρ) Q :=
 ze2 P h0 (fun i d ρ hd hp=>by
  obtain⟨hi,rfl⟩:=zr0 hd
  exact st i ρ hi hp) fun ρ hp=>hQ ρ (by rw [zkp]at hp; exact hp)
theorem zlj{ρ:En}{mg:MG}{mt:MT}{me:ME}{nt n:Nat}{Q:List D×En->Prop}(P:Nat->En->List D->Prop)(hz:n<=sizeLine)(h0:P 0 ρ [])(hP:∀ i ρ ys,P i ρ ys->ys.length<=i)(st:∀ i ρ ys,i < n->P i ρ ys->Wo (mg (.int (0+(i:Nat))) ρ) (Co mt ⟨0⟩ (kLC nt me ys (P (i+1)))))(hQ:∀ ρ ys,P n ρ ys->Q (ys,ρ)):Wo (lcM nt mg mt me (zb2 0 n) ρ []) Q :=
 zjm P (by rw [zkp]; exact hz) hP h0 (fun i d ρ ys hd hp=>by
  obtain⟨hi,rfl⟩:=zr0 hd
  exact st i ρ ys hi hp) fun ρ ys hp=>hQ ρ ys (by rw [zkp]at hp; exact hp)
def Asc(n:Nat)(z:Str):Prop:=z.length<=n/\∀ c∈z.cps.toList,c < 128
theorem Asc.mono{n m:Nat}{z:Str}(h:Asc n z)(hm:n<=m):Asc m z:=⟨Nat.le_trans h.1 hm,h.2⟩
theorem Asc.app{n m:Nat}{x y:Str}(hx:Asc n x)(hy:Asc m y):Asc (n+m) (x++y):=⟨by rw [PySem.Str.length_append]; have:=hx.1; have:=hy.1; omega,fun c hc=>by
 rw [PySem.Str.cps_append,Array.toList_append,List.mem_append]at hc
 exact hc.elim (hx.2 c) (hy.2 c)⟩
theorem Asc.one{c:Nat}(h:c < 128):Asc 1 ⟨#[c]⟩:=⟨Nat.le_refl _,fun d hd=>by
 cases List.mem_singleton.mp hd
 exact h⟩
theorem Asc.join{n:Nat}:∀ {ys:List Str},(∀ z∈ys,Asc n z)->Asc (ys.length * n) (PySem.Str.join "" ys)
 | [],_=>⟨Nat.zero_le _,fun c hc=>by cases hc⟩
 | [x],h=>(h x List.mem_cons_self).mono (by simp)
 | x::y::r,h=>by
  have:=((h x List.mem_cons_self).app (show Asc 0 "" from⟨Nat.le_refl _,fun c hc=>by cases hc⟩)).app (Asc.join fun z hz=>h z (List.mem_cons_of_mem _ hz))
  exact this.mono (by simp only [List.length_cons,Nat.add_mul]; omega)
theorem zmn{n:Nat}{ys:List Str}(h:∀ z∈ys,Asc n z):Asc (ys.length * n) (Txt.join "" ys):=by
 show Asc _ (PySem.Builtin.Str.glued "" ys)
 rw [PySem.StrLaws.glued_eq_join]
 exact Asc.join h
theorem Asc.slice{n:Nat}{z:Str}(h:Asc n z)(lo hi:Option Int):Asc n (Txt.slice z lo hi):=by
 refine⟨Nat.le_trans (Txt.slice_le _ _ _) h.1,?_⟩
 unfold Txt.slice
 split
 ·exact h.2
 ·intro c hc
  rw [List.toList_toArray,List.mem_filterMap]at hc
  obtain⟨i,_,e⟩:=hc
  exact h.2 c (Array.mem_toList_iff.mpr (Array.mem_of_getElem? e))
theorem zuF{x y:Str}(h:x.length+y.length<=16777216):ze0 (.d (.str x)) (.d (.str y))=some (.d (.str (x++y))):=by
 unfold ze0
 dsimp only
 rw [if_pos (by rw [zl]; exact h)]
theorem zgz{n m:Nat}{x y:Str}{Q:U->Prop}(hx:Asc n x)(hy:Asc m y)(hn:n+m<=1000)(k:Asc (n+m) (x++y)->Q (.d (.str (x++y)))):Wo (ze0 (.d (.str x)) (.d (.str y))) Q:=by
 rw [zuF (by have:=hx.1; have:=hy.1; omega)]
 exact⟨_,rfl,k (hx.app hy)⟩
theorem zfX{z:Str}{r:Int}{Q:U->Prop}(h0:0<=r)(h1:r < (z.length:Int))(hz:z.length<=1000)(k:∀ c∈z.cps.toList,Q (.d (.str ⟨#[c]⟩))):Wo (zkk (.d (.str z)) (.d (.int r))) Q:=by
 have hl:z.length=z.cps.toList.length:=by rw [Array.length_toList]; rfl
 obtain⟨c,e,m,_⟩:=zih (xs:=z.cps.toList) h0 (by rw [<-hl]; exact h1)
 unfold zkk
 dsimp only
 rw [if_pos (by rw [zl]; omega),e]
 exact⟨_,rfl,k c m⟩
theorem zhF:∀ (zs:List Str),(zs.map PyData.str).mapM zqq=some zs
 | []=>rfl
 | z::zs=>by
  rw [List.map_cons,List.mapM_cons,zhF zs]
  rfl
theorem zjo{n:Nat}:∀ {ys:List Str},(∀ z∈ys,z.length<=n)->(ys.map (·.length)).sum<=ys.length * n
 | [],_=>by simp
 | y::ys,h=>by
  have:=zjo (ys:=ys) fun z hz=>h z (List.mem_cons_of_mem _ hz)
  have:=h y List.mem_cons_self
  simp only [List.map_cons,List.sum_cons,List.length_cons,Nat.add_mul]
  omega
theorem zlk{n m:Nat}{zs:List Str}{Q:U->Prop}(h:∀ z∈zs,Asc n z)(hl:zs.length<=m)(hm:m * n<=1000)(k:Asc (m * n) (Txt.join "" zs)->Q (.d (.str (Txt.join "" zs)))):Wo (zhD (.d (.str "")) (.l (zs.map PyData.str))) Q:=by
 have h1:=zjo (n:=n) fun z hz=>(h z hz).1
 have h2:zs.length * n<=m * n:=Nat.mul_le_mul_right _ hl
 unfold zhD
 dsimp only
 rw [zhF,bd,if_pos (by rw [show(("":Str)).length=0 by decide,Nat.mul_zero]; omega)]
 exact⟨_,rfl,k ((zmn h).mono h2)⟩
theorem zgA:∀ (zs:List Str),(zs.map PyData.str).mapM flD=some (zs.map V.str)
 | []=>rfl
 | z::zs=>by
  rw [List.map_cons,List.mapM_cons,zgA zs]
  rfl
theorem zuG{xs:List D}{lo hi:Option Int}:zkh (.d (.tuple xs)) lo hi=some (.d (.tuple (zeu xs lo hi))):=rfl
theorem zll{xs ys:List D}(h:xs.length+ys.length<=16777216):zfj (.d (.tuple xs)) (.d (.tuple ys))=some (.d (.tuple (xs++ys))):=by
 cases xs with
 | nil=>rfl
 | cons x xs =>
  show zjc (.d (.tuple (x::xs))) (.d (.tuple ys))=_
  unfold zjc
  dsimp only
  rw [if_pos ⟨by simp,by rw [zl]; exact h⟩]
theorem zxd{i:Int}:zko "bool" (.d (.int i))=some (.d (.bool false)):=rfl
theorem zuH{a b:String}:(PySem.Str.ofString a=PySem.Str.ofString b)=(a=b):=propext ⟨fun h=>by
 rw [PySem.Str.ofString_eq_toList,PySem.Str.ofString_eq_toList]at h
 have h1:=congrArg (fun z:Str=>z.cps.toList) h
 dsimp only at h1
 exact String.toList_inj.mp (List.map_inj_right (fun x y e=>Char.ext (UInt32.toNat_inj.mp e)) |>.mp h1),fun h=>by rw [h]⟩
theorem zuI{xs:List D}{k:Int}(h:0<=k):zeu xs none (some k)=xs.take k.toNat:=by
 have e:k=((k.toNat:Nat):Int):=by omega
 unfold zeu
 rw [e,HT.sIx_nat,HT.sIx_none,List.drop_zero,Nat.sub_zero]
 rw [show((k.toNat:Nat):Int).toNat=k.toNat by omega]
 rw [Nat.min_def]
 split
 ·rfl
 ·rw [List.take_of_length_le (Nat.le_refl _),List.take_of_length_le (by omega)]
theorem zqX(xs:List D)(lo hi:Option Int):(zeu xs lo hi).length<=xs.length:=by
 unfold zeu
 rw [List.length_take,List.length_drop]
 omega
structure Nic (k M:Nat) (d:D):Prop where
 lay:d.canLay0=true
 dep:d.depth<=k
 shw:d.showable=true
 len:d.shown.length<=M
theorem Nic.mono{k M k' M':Nat}{d:D}(h:Nic k M d)(h1:k<=k')(h2:M<=M'):Nic k' M' d:=⟨h.lay,Nat.le_trans h.dep h1,h.shw,Nat.le_trans h.len h2⟩
theorem zii{n:Nat}{i:Int}(h:i.natAbs < 10^n)(h0:0 < n:=by decide)(h1:n<=470:=by decide):Nic 0 (n+1) (.int i):=by
 refine⟨rfl,by simp [PyData.depth],?_,?_⟩
 ·show decide (i.natAbs.log2 < 1920)=true
  refine decide_eq_true ?_
  by_cases z:i.natAbs=0
  ·rw [z]; decide
  ·have e1:10^n<=16^n:=Nat.pow_le_pow_left (by decide) n
   have e2:16^n=2^(4 * n):=by rw [Nat.pow_mul]
   have e3:i.natAbs < 2^(4 * n):=by rw [<-e2]; exact Nat.lt_of_lt_of_le h e1
   exact Nat.lt_of_lt_of_le ((Nat.log2_lt z).mpr e3) (by omega)
 ·show(PySem.Str.ofString (toString i)).length<=n+1
  rw [PySem.ofString_length]
  exact PySem.int_text_length_le10 h0 h
theorem zqY{n:Nat}{z:Str}(h:Asc n z):Nic 0 (10 * n+2) (.str z):=by
 refine⟨?_,by simp [PyData.depth],rfl,?_⟩
 ·show z.cps.all (· < 0x110000)=true
  rw [Array.all_eq_true']
  intro c hc
  have:=h.2 c (Array.mem_toList_iff.mpr hc)
  exact decide_eq_true (by omega)
 ·have:=PySem.StrLaws.reprText_len z fun c hc=>Nat.lt_trans (h.2 c hc) (by decide)
  have:=h.1
  show(reprText z).length<=_
  omega
theorem zij{k M:Nat}:∀ {ds:List D},(∀ d∈ds,Nic k M d)->PyData.canLayAll0 ds=true/\PyData.depthAll ds<=k/\PyData.showableAll ds=true/\((PyData.shownAll ds).map (·.length)).sum+2 * ds.length<=ds.length * (M+2)
 | [],_=>⟨rfl,by simp [PyData.depthAll],rfl,by simp [PyData.shownAll]⟩
 | d::ds,h=>by
  obtain⟨a0,a1,a2,a3⟩:=zij (ds:=ds) fun x hx=>h x (List.mem_cons_of_mem _ hx)
  obtain⟨b0,b1,b2,b3⟩:=h d List.mem_cons_self
  refine⟨?_,?_,?_,?_⟩
  ·show(d.canLay0 && PyData.canLayAll0 ds)=true
   rw [a0,b0]
   rfl
  ·simp only [PyData.depthAll]
   omega
  ·show(d.showable && PyData.showableAll ds)=true
   rw [a2,b2]
   rfl
  ·show((d.shown::PyData.shownAll ds).map (·.length)).sum+_<=_
   rw [List.map_cons,List.sum_cons,List.length_cons,Nat.add_mul,Nat.one_mul]
   omega
theorem zlm{n k M:Nat}{ds:List D}(h:∀ d∈ds,Nic k M d)(hn:ds.length<=n):Nic (k+1) (n * (M+2)+3) (.tuple ds):=by
 obtain⟨a0,a1,a2,a3⟩:=zij h
 refine⟨a0,?_,a2,?_⟩
 ·simp only [PyData.depth]
  omega
 ·have:=tupleText_len_le (PyData.shownAll ds)
  have e:=PyData.shownAll_length ds
  have m:ds.length * (M+2)<=n * (M+2):=Nat.mul_le_mul_right _ hn
  show(tupleText (PyData.shownAll ds)).length<=_
  omega
theorem zn5{n k M:Nat}{ds:List D}(h:∀ d∈ds,Nic k M d)(hn:ds.length<=n):Nic (k+1) (n * (M+2)+3) (.list ds):=by
 obtain⟨a0,a1,a2,a3⟩:=zij h
 refine⟨a0,?_,a2,?_⟩
 ·simp only [PyData.depth]
  omega
 ·have:=listText_len_le (PyData.shownAll ds)
  have e:=PyData.shownAll_length ds
  have m:ds.length * (M+2)<=n * (M+2):=Nat.mul_le_mul_right _ hn
  show(listText (PyData.shownAll ds)).length<=_
  omega
theorem Nic.repr{k M:Nat}{d:D}(h:Nic k M d)(hM:M<=16777216)(hk:k<=60):zc0 (.d d)=some (.d (.str d.shown)):=by
 unfold zc0
 show(some d).bind _=_
 rw [bd,if_pos ⟨zeA d h.lay,h.shw,by rw [zl]; exact Nat.le_trans h.len hM,Nat.le_trans h.dep hk⟩]
theorem Nic.shaped{k M:Nat}{d:D}(h:Nic k M d)(hk:k<=64):SeqAt.shaped d=true:=by
 unfold SeqAt.shaped
 rw [h.lay,Bool.true_and]
 exact decide_eq_true (Nat.le_trans h.dep hk)
section
variable {X:Cx} {K:PySem.W.Frag}
end
section
variable {X:Cx} {pos:Pos}
end
section
variable {K:PySem.W.Frag}
def zyt:U->Option U
 | .d (.int i)=>if i.natAbs.log2 < 1920 then some (.d (.str (toString i)))else none
 | .d (.str z)=>if z.length<=sizeLine then some (.d (.str z))else none
 | _=>none
abbrev MJ:=En->Str->Option (Str×En)
def U.sr:U->Option Str
 | .d (.str z)=>some z
 | _=>none
end
section
variable {ρ:En} {me:ME} {mj:MJ} {QE:Ar×En->Prop} {QJ:Str×En->Prop} {acc z y:Str} {i:Int}
end
end L2
namespace L2
open PySem PySem.Spec PyProof.Rows PySem.NumText
abbrev ts(n:Int):Str:=PySem.Str.ofString (toString n)
end L2
namespace L2
open PySem PySem.Spec PyProof.Rows
section
variable {X:Cx} {o e f:Expr} {apos cpos:Pos} {td ty tx:TE} {k:Nat}
theorem zln(hr:Room k X.A)(ho:Wr (PE X o td))(he:Wr (PE X e ty))(hf:Wr (PE X f tx))(m:M2 X o "get" apos e f cpos):Wr (PE X (.Call (.Attribute o "get" apos) [e,f] [] cpos) (zjY td ty tx)):=⟨zmX (zkU hr) ho.run he.run hf.run m⟩
end
section
variable {K:PySem.W.Frag}
def zhG:U->Bool
 | .t _=>true
 | .k _=>true
 | .d (.dict kvs)=>noX kvs
 | _=>false
theorem zn6{H:Hp}{x:V}{u:U}(h:Rp K H x u)(e:zhG u=true):∃ a,x=.ref a/\IsD H a:=by
 unfold zhG at e
 split at e
 ·obtain⟨a,ws,rfl,h1,_⟩:=h
  exact⟨a,rfl,.inr ⟨_,.inl h1⟩⟩
 ·obtain⟨a,ws,rfl,h1,_⟩:=h
  exact⟨a,rfl,.inl ⟨_,.inl h1⟩⟩
 ·obtain⟨a,ob,ws,rfl,h1,_⟩:=DF.dct_inv h e
  exact⟨a,rfl,.inr ⟨_,.inr ⟨ob,h1⟩⟩⟩
 ·cases e
def zfl(md my mx:ME):ME:=fun ρ=>(md ρ).bind fun p=>(p.1.get p.2).bind fun u0=>if zhG u0=true then(my p.2).bind fun q=>(mx q.2).bind fun z=>(p.1.get z.2).bind fun u=>(q.1.get z.2).bind fun y=>(z.1.get z.2).bind fun x=>(zg3 u y).bind fun o=>match x with
 | .d x=>some (.u (.d (o.getD x)),z.2)
 | _=>none else none
theorem zlo{td ty tx:TE}{md my mx:ME}(hd:VE K td md)(hy:VE K ty my)(hx:VE K tx mx):VE K (zjY td ty tx) (zfl md my mx):=by
 intro ρ σ H a ρ' Q r e q
 obtain⟨⟨a1,ρ1⟩,e1,e⟩:=bind_some e
 obtain⟨u0,e0,e⟩:=bind_some e
 split at e
 rotate_left
 ·cases e
 rename_i hu0
 obtain⟨⟨b1,ρ2⟩,e2,e⟩:=bind_some e
 obtain⟨⟨c1,ρ3⟩,e3,e⟩:=bind_some e
 obtain⟨u,eu,e⟩:=bind_some e
 obtain⟨y,ey,e⟩:=bind_some e
 obtain⟨x,ex,e⟩:=bind_some e
 obtain⟨o,eo,e⟩:=bind_some e
 split at e
 rotate_left
 ·cases e
 cases e
 refine hd ρ σ H a1 ρ1 _ r e1 fun v1 H1 g1 k1=>?_
 obtain⟨b,rfl,hb⟩:=zn6 (k1.now r g1 e0) hu0
 refine⟨b,rfl,hb,hy ρ1 σ H1 b1 _ _ g1.rs e2 fun v2 H2 g2 k2=>hx ρ2 σ H2 c1 _ _ g2.rs e3 fun v3 H3 g3 k3=>?_⟩
 obtain⟨b',eb,h⟩:=zlb (k1.later r g1 (g2.trans g3) eu) (k2.later g1.rs g2 g3 ey) eo
 cases eb
 have p3:=k3.now g2.rs g3 ex
 rcases h with ⟨w,d',rfl,g,p⟩ | ⟨rfl,g⟩
 ·exact⟨_,g,q w H3 ((g1.trans g2).trans g3) ⟨p,Nw.data⟩⟩
 ·exact⟨_,g,q v3 H3 ((g1.trans g2).trans g3) ⟨p3,Nw.data⟩⟩
end
section
variable {prog:Program} {w:World} {A:Around} {E:Value->Shared->Prop} {s:Shared} {it d:Addr} {i ep:Nat} {es:Array DictEntry} {ok ov:Value}
theorem zjp{T:Value}{vs:Array Value}{j:Nat}{x:Value}{Q:Unit->Shared->Prop}(e:s.heap.get? it=some { cls:=T,data:=.fields vs })(hj:j < vs.size)
  (q:∀ h':Heap,h'.get? it=some { cls:=T,data:=.fields (vs.setIfInBounds j x) }->h'.objs.size=s.heap.objs.size->(∀ b o,b≠it->s.heap.get? b=some o->h'.get? b=some o)->Q () { s with heap:=h' }):wpAny (model prog w) A (setField (.ref it) j x) Q E s:=by
 refine wpAny_setField e rfl hj (q _ ?_ ?_ fun b o hb z=>?_)
 ·exact Heap.get?_update_self _ e (Obj.isFreed_of_fields (Obj.data_mapFields rfl _))
 ·exact Heap.size_update ..
 ·exact((Heap.SameBut.update ..).2 b hb).trans z
end
section
variable {X:Cx} {elts:List Expr} {kk:Nat} {tpos:Pos}
end
theorem zlp{K:PySem.W.Frag}{H:Hp}:∀ {ws:List (List Key×V)} {kvs:List (D×D)},DFt K H ws kvs->ws.length=kvs.length
 | _,_,.nil=>rfl
 | _,_,.cons hv t=>congrArg (·+1) (zlp t)
abbrev zh1(h:Heap)(t1:Addr):Heap:=h.push { cls:=.type "tuple_iterator",data:=.fields #[.ref t1,.int 0 0] }
abbrev zh2(h:Heap)(t1 t2:Addr):Heap:=(zh1 h t1).push { cls:=.type "tuple_iterator",data:=.fields #[.ref t2,.int 0 0] }
abbrev zh3(h:Heap)(t1 t2:Addr):Heap:=(zh2 h t1 t2).push { cls:=.type "tuple",data:=.seq #[.ref h.objs.size,.ref (zh1 h t1).objs.size] }
abbrev zh4(h:Heap)(t1 t2:Addr):Heap:=(zh3 h t1 t2).push { cls:=.type "tuple",data:=.seq #[.none,.none] }
abbrev zh5(h:Heap)(t1 t2:Addr):Heap:=(zh4 h t1 t2).push { cls:=.type "zip",data:=.fields #[.none,.bool false,.bool false,.ref (zh2 h t1 t2).objs.size,.ref (zh3 h t1 t2).objs.size] }
theorem zn7(t1 t2:Addr)(xs ys:Array Value) :
  Meets (Builtin.«zip.__new__» ⟨[.type "zip",.ref t1,.ref t2],[]⟩) (fun _ R s=>s.heap.IsTuple t1 xs/\s.heap.IsTuple t2 ys /\
   R (.ok (.ret (.ref (zh4 s.heap t1 t2).objs.size))) { s with heap:=zh5 s.heap t1 t2 }) :=
 .of_wp fun prog w A R s h=>by
  obtain⟨hp,g,d,tk,os⟩:=s
  obtain⟨h1,h2,h⟩:=h
  have h2':Heap.IsTuple (zh1 hp t1) t2 ys:=by
   obtain⟨o,e,r⟩:=h2
   exact⟨o,Heap.get?_push_of_some _ e,r⟩
  have hsub:=sub_zip
  wp_walk using wpAny_pyIter_tuple h1,wpAny_pyIter_tuple h2'
  exact⟨_,rfl,h⟩
section
variable {prog:Program} {w:World} {A:Around} {E:Value->Shared->Prop} {s:Shared} {z TI TO i1 i2 t1 t2:Addr} {k:Nat} {xs ys:Array Value} {x y a b:Value}
theorem zmo{Q:Option Value->Shared->Prop}(ap:ZipApart z TI TO i1 i2 t1 t2)(hz:IsZip s.heap z TI TO .none)(hI:IsPair s.heap TI (.ref i1) (.ref i2))(hO:IsPair s.heap TO a b)
  (h1:s.heap.IsTupleIter i1 t1 k) (h2:s.heap.IsTupleIter i2 t2 k) (g1:s.heap.IsTuple t1 xs) (g2:s.heap.IsTuple t2 ys) (ex:xs[k]?=some x) (ey:ys[k]?=some y)
  (q:∀ h':Heap,IsZip h' z TI TO (rawInt s.heap.objs.size)->IsPair h' TO x y->h'.IsTupleIter i1 t1 (k+1)->h'.IsTupleIter i2 t2 (k+1)->IsPair h' s.heap.objs.size x y ->
   (∀ c o,c≠z->c≠TO->c≠i1->c≠i2->s.heap.get? c=some o->h'.get? c=some o)->Q (some (.ref s.heap.objs.size)) { s with heap:=h' }):wpAny (model prog w) A (pyNext (.ref z)) Q E s:=by
 have kT:s.TypeIs (.ref z) "zip":=⟨_,hz,rfl⟩
 unfold pyNext
 refine wpAny_bind (wpAny_attempt (wpAny_callSpecial?_slot (name:=Str.ofString "__next__") kT F.slot_zip_next (wpAny_call_entry F.slot_zip_next kT F.entry_zip_next ?_ (F.args_zip_next_1 _))))
 unfold Builtin.«zip.__next__»
 refine wpAny_bind (wpAny_pure ?_)
 refine wpAny_bind (wpAny_field hz rfl (x:=.bool false) rfl ?_)
 refine wpAny_bind (wpAny_field hz rfl (x:=.ref TI) rfl ?_)
 refine wpAny_bind (wpAny_seqItems hI rfl ?_)
 show wpAny _ _ (Builtin.SmallTypes.ownedTupleIsFree (.ref z) >>= _) _ _ s
 unfold Builtin.SmallTypes.ownedTupleIsFree
 refine wpAny_bind (wpAny_bind (wpAny_field hz rfl (x:=.none) rfl (wpAny_pure ?_)))
 show wpAny _ _ (if true=true then _ else _) _ _ _
 rw [if_pos rfl]
 refine wpAny_bind (wpAny_rule (wpAny_bind (wpAny_field hz rfl (x:=.ref TO) rfl ?_)))
 refine wpAny_bind (zjp hz (by simp) fun ha ka za fa=>?_)
 have hO1:IsPair ha TO a b:=fa _ _ ap.TOz hO
 have h11:ha.IsTupleIter i1 t1 k:=by
  obtain⟨o,e,r⟩:=h1
  exact⟨o,fa _ _ ap.i1z e,r⟩
 have g11:ha.IsTuple t1 xs:=by
  obtain⟨o,e,r⟩:=g1
  exact⟨o,fa _ _ ap.l1z e,r⟩
 refine wpAny_bind ?_
 show wpAny _ _ (forIn [(Value.ref i1,0),(Value.ref i2,1)] (none,()) _) _ _ _
 rw [List.forIn_cons]
 refine wpAny_bind (wpAny_bind (wpAny_onRaise ?_))
 show wpAny _ _ (Builtin.SmallTypes.nextOf (.ref i1) >>= _) _ _ _
 refine wpAny_bind (zez (s:={ s with heap:=ha }) h11 g11 ex fun hb kb sb=>wpAny_pure ?_)
 refine wpAny_bind (wpAny_seqItems (s:={ s with heap:=hb }) (o:=_) ((sb.2 _ ap.TOi1).trans hO1) rfl ?_)
 refine wpAny_bind (wpAny_updateSeq_pair (s:={ s with heap:=hb }) ((sb.2 _ ap.TOi1).trans hO1) fun hc kc sc=>?_)
 refine wpAny_bind (wpAny_letGo (wpAny_pure ?_))
 show wpAny _ _ (forIn [(Value.ref i2,1)] (none,()) _) _ _ _
 rw [List.forIn_cons]
 have keepC:∀ c o,c≠z->c≠TO->c≠i1->s.heap.get? c=some o->hc.get? c=some o:=fun c o n1 n2 n3 e=>(sc.2 c n2).trans ((sb.2 c n3).trans (fa c o n1 e))
 have h22:hc.IsTupleIter i2 t2 k:=by
  obtain⟨o,e,r⟩:=h2
  exact⟨o,keepC _ _ ap.i2z (Ne.symm ap.TOi2) (Ne.symm ap.i12) e,r⟩
 have g22:hc.IsTuple t2 ys:=by
  obtain⟨o,e,r⟩:=g2
  exact⟨o,keepC _ _ ap.l2z ap.l2TO ap.l2i1 e,r⟩
 refine wpAny_bind (wpAny_bind (wpAny_onRaise ?_))
 show wpAny _ _ (Builtin.SmallTypes.nextOf (.ref i2) >>= _) _ _ _
 refine wpAny_bind (zez (s:={ s with heap:=hc }) h22 g22 ey fun hd kd sd=>wpAny_pure ?_)
 have hO3:IsPair hd TO x b:=(sd.2 _ ap.TOi2).trans kc
 refine wpAny_bind (wpAny_seqItems (s:={ s with heap:=hd }) hO3 rfl ?_)
 refine wpAny_bind (wpAny_updateSeq_pair (s:={ s with heap:=hd }) hO3 fun he ke se=>?_)
 refine wpAny_bind (wpAny_letGo (wpAny_pure ?_))
 show wpAny _ _ (forIn ([]:List (Value×Nat)) (none,()) _) _ _ _
 rw [List.forIn_nil]
 refine wpAny_pure ?_
 have hO4:IsPair he TO x y:=ke
 show wpAny _ _ (seqItems? (.ref TO) >>= _) _ _ _
 refine wpAny_bind (wpAny_seqItems (s:={ s with heap:=he }) hO4 rfl ?_)
 simp only [newTuple]
 refine wpAny_bind (wpAny_newObj_type ?_ (by show(2:Nat)<=sizeLine; decide))
 have sz:he.objs.size=s.heap.objs.size:=by rw [se.1,sd.1,sc.1,sb.1]; exact za
 show wpAny _ _ (Builtin.SmallTypes.ownedTupleHandOut (.ref z) (.ref he.objs.size) >>= _) _ _ { s with heap:=he.push { cls:=.type "tuple",data:=.seq #[x,y] } }
 have kz:(he.push { cls:=.type "tuple",data:=.seq #[x,y] }).get? z=some { cls:=.type "zip",data:=.fields #[.ellipsis,.bool false,.bool false,.ref TI,.ref TO] } :=
  Heap.get?_push_of_some _ ((se.2 _ (Ne.symm ap.TOz)).trans ((sd.2 _ (Ne.symm ap.i2z)).trans ((sc.2 _ (Ne.symm ap.TOz)).trans ((sb.2 _ (Ne.symm ap.i1z)).trans ka))))
 have kt:(he.push { cls:=.type "tuple",data:=.seq #[x,y] }).get? he.objs.size=some { cls:=.type "tuple",data:=.seq #[x,y] }:=Heap.get?_push_size _ rfl
 have kO:(he.push { cls:=.type "tuple",data:=.seq #[x,y] }).get? TO=_:=Heap.get?_push_of_some _ hO4
 have k1:Heap.IsTupleIter (he.push { cls:=.type "tuple",data:=.seq #[x,y] }) i1 t1 (k+1):=by
  obtain⟨o,e,r⟩:=kb
  exact⟨o,Heap.get?_push_of_some _ ((se.2 _ (Ne.symm ap.TOi1)).trans ((sd.2 _ ap.i12).trans ((sc.2 _ (Ne.symm ap.TOi1)).trans e))),r⟩
 have k2:Heap.IsTupleIter (he.push { cls:=.type "tuple",data:=.seq #[x,y] }) i2 t2 (k+1):=by
  obtain⟨o,e,r⟩:=kd
  exact⟨o,Heap.get?_push_of_some _ ((se.2 _ (Ne.symm ap.TOi2)).trans e),r⟩
 have kk:∀ c o,c≠z->c≠TO->c≠i1->c≠i2->s.heap.get? c=some o->(he.push { cls:=.type "tuple",data:=.seq #[x,y] }).get? c=some o:=fun c o n1 n2 n3 n4 e =>
  Heap.get?_push_of_some _ ((se.2 c n2).trans ((sd.2 c n4).trans (keepC c o n1 n2 n3 e)))
 have nz:he.objs.size≠z:=by
  rw [sz]
  exact Ne.symm (Nat.ne_of_lt (Heap.lt_size hz))
 generalize he.push { cls:=.type "tuple",data:=.seq #[x,y] }=hf at kz kt kO k1 k2 kk ⊢
 unfold Builtin.SmallTypes.ownedTupleHandOut
 refine wpAny_bind (wpAny_bind (zjp (s:={ s with heap:=hf }) kz (by simp) fun hg kg zg fg=>?_))
 refine zjp (s:={ s with heap:=hg }) kg (by simp) fun hh kh zh fh=>?_
 have up:∀ c o,c≠z->hf.get? c=some o->hh.get? c=some o:=fun c o n e=>fh c o n (fg c o n e)
 refine wpAny_pure ⟨_,rfl,wpAny_pure ?_⟩
 rw [sz]at kt kh nz ⊢
 refine q hh kh (up _ _ ap.TOz kO) ?_ ?_ (up _ _ nz kt) fun c o n1 n2 n3 n4 e=>up _ _ n1 (kk c o n1 n2 n3 n4 e)
 ·obtain⟨o,e,r⟩:=k1
  exact⟨o,up _ _ ap.i1z e,r⟩
 ·obtain⟨o,e,r⟩:=k2
  exact⟨o,up _ _ ap.i2z e,r⟩
theorem zn8{Q:Option Value->Shared->Prop}(hh:A.handled=none)(ap:ZipApart z TI TO i1 i2 t1 t2)(hz:IsZip s.heap z TI TO .none)(hI:IsPair s.heap TI (.ref i1) (.ref i2))(hO:IsPair s.heap TO a b)
  (h1:s.heap.IsTupleIter i1 t1 k) (h2:s.heap.IsTupleIter i2 t2 k) (g1:s.heap.IsTuple t1 xs) (g2:s.heap.IsTuple t2 ys) (en:xs[k]?=none)
  (q:∀ h':Heap,(∀ c o,c≠z->c≠TO->c≠i1->c≠i2->s.heap.get? c=some o->h'.get? c=some o)->Q none { s with heap:=h' }):wpAny (model prog w) A (pyNext (.ref z)) Q E s:=by
 have kT:s.TypeIs (.ref z) "zip":=⟨_,hz,rfl⟩
 unfold pyNext
 refine wpAny_bind (wpAny_attempt (wpAny_callSpecial?_slot (name:=Str.ofString "__next__") kT F.slot_zip_next (wpAny_call_entry F.slot_zip_next kT F.entry_zip_next ?_ (F.args_zip_next_1 _))))
 unfold Builtin.«zip.__next__»
 refine wpAny_bind (wpAny_pure ?_)
 refine wpAny_bind (wpAny_field hz rfl (x:=.bool false) rfl ?_)
 refine wpAny_bind (wpAny_field hz rfl (x:=.ref TI) rfl ?_)
 refine wpAny_bind (wpAny_seqItems hI rfl ?_)
 show wpAny _ _ (Builtin.SmallTypes.ownedTupleIsFree (.ref z) >>= _) _ _ s
 unfold Builtin.SmallTypes.ownedTupleIsFree
 refine wpAny_bind (wpAny_bind (wpAny_field hz rfl (x:=.none) rfl (wpAny_pure ?_)))
 show wpAny _ _ (if true=true then _ else _) _ _ _
 rw [if_pos rfl]
 refine wpAny_bind (wpAny_rule (wpAny_bind (wpAny_field hz rfl (x:=.ref TO) rfl ?_)))
 refine wpAny_bind (zjp hz (by simp) fun ha ka za fa=>?_)
 have h11:ha.IsTupleIter i1 t1 k:=by
  obtain⟨o,e,r⟩:=h1
  exact⟨o,fa _ _ ap.i1z e,r⟩
 have g11:ha.IsTuple t1 xs:=by
  obtain⟨o,e,r⟩:=g1
  exact⟨o,fa _ _ ap.l1z e,r⟩
 refine wpAny_bind ?_
 show wpAny _ _ (forIn [(Value.ref i1,0),(Value.ref i2,1)] (none,()) _) _ _ _
 rw [List.forIn_cons]
 refine wpAny_bind (wpAny_bind (wpAny_onRaise ?_))
 show wpAny _ _ (Builtin.SmallTypes.nextOf (.ref i1) >>= _) _ _ _
 refine wpAny_bind (zhv (s:={ s with heap:=ha }) hh h11 g11 en fun hb e sb ⟨oe,ge,ce⟩=>?_)
 have kb:=sb z _ (Ne.symm ap.i1z) ka
 refine zjp (s:={ s with heap:=hb }) kb (by simp) fun hc kc zc fc=>?_
 have nez:e≠z:=fun h=>by
  rw [h]at ge
  have z1:=Option.some.inj (ge.symm.trans kb)
  rw [z1]at ce
  have z2 : "zip" = "StopIteration":=Value.type.inj ce
  exact absurd z2 (by decide)
 show wpAny _ _ (isInstance (.ref e) (.type "StopIteration") >>= _) _ _ _
 refine wpAny_bind (wpAny_isInstance (T := "StopIteration") (b:=true) ⟨oe,fc _ _ nez ge,ce⟩ isSubtype_stop ?_)
 exact wpAny_pure (q hc fun c o n1 n2 n3 n4 e=>fc c o n1 (sb c o n3 (fa c o n1 e)))
end
def Itz(K:PySem.W.Frag)(a b:Addr):It :=
 ⟨fun i H=>∃ xs ys x y,SqT K H a xs/\SqT K H b ys/\xs[i]?=some x/\ys[i]?=some y,fun i H x H'=>∃ T,H T=none/\x=.ref T/\∀ xs ys v u,SqT K H a xs->SqT K H b ys->xs[i]?=some v->ys[i]?=some u->H'=upd H T (.tup [v,u]),fun i H=>∃ xs ys,SqT K H a xs/\SqT K H b ys/\xs.length=i⟩
abbrev ZSt(z TI TO i1 i2 t1 t2:Addr)(i:Nat)(h:Heap):Prop:=IsZip h z TI TO .none/\IsPair h TI (.ref i1) (.ref i2)/\(∃ a b,IsPair h TO a b)/\h.IsTupleIter i1 t1 i/\h.IsTupleIter i2 t2 i
theorem zn9{P:Program}{w:World}{K:PySem.W.Frag}{elts:List Expr}{k:Nat}{pos:Pos}(z TI TO i1 i2 t1 t2:Addr)(ap:ZipApart z TI TO i1 i2 t1 t2) :
  Turn P w K (.Tuple elts k pos) (Itz K t1 t2) [z,TI,TO,i1,i2] z (ZSt z TI TO i1 i2 t1 t2) where
 mem:=by simp
 obj:=fun i h st c hc=>by
  obtain⟨hz,hI,⟨a,b,hO⟩,⟨o1,e1,_,d1⟩,⟨o2,e2,_,d2⟩⟩:=st
  simp only [List.mem_cons,List.not_mem_nil,or_false]at hc
  rcases hc with rfl | rfl | rfl | rfl | rfl
  ·exact⟨_,hz,fun v q=>by
    have q':Data.fields _=Data.cell v:=q
    cases q'⟩
  ·exact⟨_,hI,fun v q=>by
    have q':Data.seq _ _=Data.cell v:=q
    cases q'⟩
  ·exact⟨_,hO,fun v q=>by
    have q':Data.seq _ _=Data.cell v:=q
    cases q'⟩
  ·exact⟨o1,e1,fun v q=>by rw [d1]at q; cases q⟩
  ·exact⟨o2,e2,fun v q=>by rw [d2]at q; cases q⟩
 keep:=fun i h h' st kk=>by
  obtain⟨hz,hI,⟨a,b,hO⟩,⟨o1,e1,r1⟩,⟨o2,e2,r2⟩⟩:=st
  exact⟨kk z (by simp) _ hz,kk TI (by simp) _ hI,⟨a,b,kk TO (by simp) _ hO⟩,⟨o1,kk i1 (by simp) _ e1,r1⟩,⟨o2,kk i2 (by simp) _ e2,r2⟩⟩
 item:=by
  intro X hP hw hK hc i pins s σ H E I hf st hg
  subst hP hw hK
  obtain⟨xs,ys,x,y,hq1,hq2,hx,hy⟩:=hg
  obtain⟨hz,hI,⟨a,b,hO⟩,h1,h2⟩:=st
  obtain⟨its1,rv1,ht1,_⟩:=I.tuple hq1
  obtain⟨its2,rv2,ht2,_⟩:=I.tuple hq2
  obtain⟨u1,eu1,r1⟩:=rv1.get hx
  obtain⟨u2,eu2,r2⟩:=rv2.get hy
  refine zmo ap hz hI hO h1 h2 ht1 ht2 (by simpa using eu1) (by simpa using eu2) fun h' z' O' k1 k2 isT kk=>?_
  refine⟨_,rfl,wpAny_letOwnedTupleGo_zip (s:={ s with heap:=h' }) z' fun h2' z2 sb=>?_⟩
  have nm:s.heap.objs.size∉[z,TI,TO,i1,i2]:=fun hm=>by
   have:s.heap.objs.size < s.heap.objs.size:=by
    simp only [List.mem_cons,List.not_mem_nil,or_false]at hm
    obtain⟨_,e1,_⟩:=h1
    obtain⟨_,e2,_⟩:=h2
    rcases hm with h | h | h | h | h
    ·exact Nat.lt_of_lt_of_le (h▸Heap.lt_size hz) (Nat.le_refl _)
    ·exact Nat.lt_of_lt_of_le (h▸Heap.lt_size hI) (Nat.le_refl _)
    ·exact Nat.lt_of_lt_of_le (h▸Heap.lt_size hO) (Nat.le_refl _)
    ·exact Nat.lt_of_lt_of_le (h▸Heap.lt_size e1) (Nat.le_refl _)
    ·exact Nat.lt_of_lt_of_le (h▸Heap.lt_size e2) (Nat.le_refl _)
   exact Nat.lt_irrefl _ this
  have nz:s.heap.objs.size≠z:=fun h=>nm (by rw [h]; simp)
  have I2:Inv X pins σ H { s with heap:=h2' }:=I.turnedW (t':=s.toks) (wr:=[z,TI,TO,i1,i2]) (fun c o hc q=>by
   simp only [List.mem_cons,List.not_mem_nil,or_false,not_or]at hc
   exact(sb.2 c hc.1).trans (kk c o hc.1 hc.2.2.1 hc.2.2.2.1 hc.2.2.2.2 q)) hf
  have fT:zex X pins H s.heap.objs.size:=I.fpOk (Nat.le_refl _) (I.hok.fresh (Nat.le_refl _))
  have I3:Inv X pins σ (upd H s.heap.objs.size (.tup [x,y])) { s with heap:=h2' }:=I2.track fT I.sz ⟨by show 2<=sizeLine; decide,[u1,u2],.cons r1 (.cons r2 .nil),_,(sb.2 _ nz).trans isT,rfl,_,rfl⟩
  refine⟨.ref s.heap.objs.size,_,I3,rfl,⟨_,I.hok.fresh (Nat.le_refl _),rfl,fun xs' ys' v u hq1' hq2' hv hu=>?_⟩,⟨z2,(sb.2 _ ap.TIz).trans (kk _ _ ap.TIz ap.TITO ap.TIi1 ap.TIi2 hI),⟨_,_,(sb.2 _ ap.TOz).trans O'⟩,?_,?_⟩,fun c hc=>?_⟩
  ·cases I.tuple_inj hq1 hq1'
   cases I.tuple_inj hq2 hq2'
   rw [hx]at hv
   rw [hy]at hu
   cases hv
   cases hu
   rfl
  ·obtain⟨o,e,r⟩:=k1
   exact⟨o,(sb.2 _ ap.i1z).trans e,r⟩
  ·obtain⟨o,e,r⟩:=k2
   exact⟨o,(sb.2 _ ap.i2z).trans e,r⟩
  ·have ne:c≠s.heap.objs.size:=fun h=>nm (h▸hc)
   rw [zD ne]
   exact(hf c hc).1
 done:=by
  intro X hP hw hK hc i pins s σ H E I hf st hg
  subst hP hw hK
  obtain⟨xs,ys,hq1,hq2,hl⟩:=hg
  obtain⟨hz,hI,⟨a,b,hO⟩,h1,h2⟩:=st
  obtain⟨its1,rv1,ht1,_⟩:=I.tuple hq1
  obtain⟨its2,rv2,ht2,_⟩:=I.tuple hq2
  refine zn8 (I.ok.hd hc) ap hz hI hO h1 h2 ht1 ht2 (by
   have:=rv1.length
   simp
   omega) fun h' kk=>⟨rfl,I.turnedW (t':=s.toks) (wr:=[z,TI,TO,i1,i2]) (fun c o hc q=>by
   simp only [List.mem_cons,List.not_mem_nil,or_false,not_or]at hc
   exact kk c o hc.1 hc.2.2.1 hc.2.2.2.1 hc.2.2.2.2 q) hf⟩
 self:=fun _ _ _ _ _ st h=>wpAny_pyIter_zip st.1 h
section
variable {prog:Program} {w:World} {A:Around} {E:Value->Shared->Prop} {s:Shared}
theorem zmp{t1 t2:Addr}{xs ys:Array Value}{Q:Value->Shared->Prop}(h1:s.heap.IsTuple t1 xs)(h2:s.heap.IsTuple t2 ys)
  (h:∀ h':Heap,ZSt (s.heap.objs.size+4) (s.heap.objs.size+2) (s.heap.objs.size+3) s.heap.objs.size (s.heap.objs.size+1) t1 t2 0 h'->(∀ b o,s.heap.get? b=some o->h'.get? b=some o)->Q (.ref (s.heap.objs.size+4)) { s with heap:=h' }) :
  wpAny (model prog w) A (call (.type "zip") [.ref t1,.ref t2]) Q E s:=by
 refine callType_new F.called_zip (by decide) (F.typeCall_zip_2 _ _) (F.newCall_zip_2 _ _) (fun obj=>F.args_object_init_3 obj _ _) F.entry_zip_new (zn7 t1 t2 xs ys) ⟨h1,h2,?_⟩
 have z1:(zh1 s.heap t1).objs.size=s.heap.objs.size+1:=Heap.size_push ..
 have z2:(zh2 s.heap t1 t2).objs.size=s.heap.objs.size+2:=by rw [Heap.size_push,z1]
 have z3:(zh3 s.heap t1 t2).objs.size=s.heap.objs.size+3:=by rw [Heap.size_push,z2]
 have z4:(zh4 s.heap t1 t2).objs.size=s.heap.objs.size+4:=by rw [Heap.size_push,z3]
 show _/\_
 rw [z4]
 have ez:(zh5 s.heap t1 t2).get? (s.heap.objs.size+4)=some { cls:=.type "zip",data:=.fields #[.none,.bool false,.bool false,.ref (s.heap.objs.size+2),.ref (s.heap.objs.size+3)] }:=by
  have:=Heap.get?_push_size (zh4 s.heap t1 t2) (o:={ cls:=.type "zip",data:=.fields #[.none,.bool false,.bool false,.ref (zh2 s.heap t1 t2).objs.size,.ref (zh3 s.heap t1 t2).objs.size] }) rfl
  rw [z4,z2,z3]at this
  rw [<-this]
  unfold zh5
  rw [z2,z3]
 refine⟨⟨_,ez,rfl⟩,h _ ⟨ez,?_,⟨.none,.none,?_⟩,⟨{ cls:=.type "tuple_iterator",data:=.fields #[.ref t1,.int 0 0] },?_,rfl,rfl⟩,⟨{ cls:=.type "tuple_iterator",data:=.fields #[.ref t2,.int 0 0] },?_,rfl,rfl⟩⟩ fun b o x=>?_⟩
 ·have:=Heap.get?_push_size (zh2 s.heap t1 t2) (o:={ cls:=.type "tuple",data:=.seq #[.ref s.heap.objs.size,.ref (zh1 s.heap t1).objs.size] }) rfl
  rw [z2,z1]at this
  refine Heap.get?_push_of_some _ (Heap.get?_push_of_some _ ?_)
  unfold zh3
  rw [z1]
  exact this
 ·have:=Heap.get?_push_size (zh3 s.heap t1 t2) (o:={ cls:=.type "tuple",data:=.seq #[.none,.none] }) rfl
  rw [z3]at this
  exact Heap.get?_push_of_some _ this
 ·exact Heap.get?_push_of_some _ (Heap.get?_push_of_some _ (Heap.get?_push_of_some _ (Heap.get?_push_of_some _ (Heap.get?_push_size _ rfl))))
 ·have:=Heap.get?_push_size (zh1 s.heap t1) (o:={ cls:=.type "tuple_iterator",data:=.fields #[.ref t2,.int 0 0] }) rfl
  rw [z1]at this
  exact Heap.get?_push_of_some _ (Heap.get?_push_of_some _ (Heap.get?_push_of_some _ this))
 ·exact Heap.get?_push_of_some _ (Heap.get?_push_of_some _ (Heap.get?_push_of_some _ (Heap.get?_push_of_some _ (Heap.get?_push_of_some _ x))))
end
section
variable {X:Cx} {elts:List Expr} {k:Nat} {tpos:Pos}
def zxe(K:PySem.W.Frag)(ta:TA):TI:=fun σ H R=>ta σ H fun vs H1=>∃ a b,vs=[.ref a,.ref b]/\(∃ xs,SqT K H1 a xs)/\(∃ ys,SqT K H1 b ys)/\R (Itz K a b) H1
theorem zuJ{a b:Expr}{ta:TA}{p pos:Pos}(K:PySem.W.Frag)(hK:X.K=K)(hg:Gl X "zip")(hm:X.mg "zip"=none)(ha:Wr (PA X [a,b] ta))(hs:zaC a=true:=by rfl)(hs2:[b].all zaC=true:=by rfl) :
  Wr (PI X (.Tuple elts k tpos) (.Call (.Name "zip" p) [a,b] [] pos) (zxe K ta)):=by
 subst hK
 refine⟨?_⟩
 intro pins s σ H R I h
 refine Call_ (zfb I hg hm boot_zip (PyProof.Rows.callWith_type1 (thn (ha.run pos pins s σ H _ I h) fun us s1 ⟨vs,H1,I1,r1,q1⟩=>?_) (zcO hs) (zcu hs2)))
 obtain⟨t1,t2,e,⟨xs,hq1⟩,⟨ys,hq2⟩,q⟩:=q1
 subst e
 obtain⟨u1,u2,rfl,ru1,ru2⟩:=ziM r1
 cases ru1
 cases ru2
 obtain⟨its1,rv1,ht1,hz1⟩:=I1.tuple hq1
 obtain⟨its2,rv2,ht2,hz2⟩:=I1.tuple hq2
 have tl1:t1 < s1.heap.objs.size:=by
  obtain⟨o,e,_⟩:=ht1
  exact Heap.lt_size e
 have tl2:t2 < s1.heap.objs.size:=by
  obtain⟨o,e,_⟩:=ht2
  exact Heap.lt_size e
 have lt_ne:∀ {x y:Nat},x < y->x≠y:=fun h=>Nat.ne_of_lt h
 refine zmp (show s1.heap.IsTuple t1 its1.toArray from ht1) (show s1.heap.IsTuple t2 its2.toArray from ht2) fun h' hst kk=>?_
 have I2:Inv X pins σ H1 { s1 with heap:=h' }:=I1.kept (t':=s1.toks) kk
 refine wpAny_pyIter_zip hst.1 ?_
 have f:∀ j:Nat,zex X pins H1 (s1.heap.objs.size+j):=fun j=>I1.fpOk (Nat.le_add_right _ _) (I1.hok.fresh (Nat.le_add_right _ _))
 have ap:ZipApart (s1.heap.objs.size+4) (s1.heap.objs.size+2) (s1.heap.objs.size+3) s1.heap.objs.size (s1.heap.objs.size+1) t1 t2:=by
  generalize s1.heap.objs.size=n at tl1 tl2
  constructor<;>(simp only [Addr]at *; omega)
 refine⟨_,_,_,_,H1,rfl,I2,zn9 _ _ _ _ _ t1 t2 ap,hst,fun c hc=>?_,q⟩
 simp only [List.mem_cons,List.not_mem_nil,or_false]at hc
 rcases hc with rfl | rfl | rfl | rfl | rfl
 ·exact f 4
 ·exact f 2
 ·exact f 3
 ·exact f 0
 ·exact f 1
end
def zkq:List D->List D->List D
 | x::xs,y::ys=>.tuple [x,y]::zkq xs ys
 | _,_=>[]
theorem zlq:∀ {xs ys:List D} {i:Nat} {d:D},(zkq xs ys)[i]?=some d->∃ x y,xs[i]?=some x/\ys[i]?=some y/\d=.tuple [x,y]
 | [],ys,i,d,h=>by simp [zkq]at h
 | x::xs,[],i,d,h=>by simp [zkq]at h
 | x::xs,y::ys,0,d,h=>by cases h; exact⟨x,y,rfl,rfl,rfl⟩
 | x::xs,y::ys,i+1,d,h=>zlq (xs:=xs) (ys:=ys) (i:=i) h
theorem zjq:∀ (xs ys:List D),xs.length=ys.length->(zkq xs ys).length=xs.length
 | [],[],_=>rfl
 | [],y::ys,h=>by cases h
 | x::xs,[],h=>by cases h
 | x::xs,y::ys,h=>congrArg (·+1) (zjq xs ys (Nat.succ.inj h))
def zoa:List U->Option (List D)
 | [.d (.tuple xs),.d (.tuple ys)]=>if xs.length=ys.length then some (zkq xs ys)else none
 | _=>none
def zuK(ma:MA):MI:=fun ρ=>(ma ρ).bind fun p=>(zbp p.2 p.1).bind fun us=>(zoa us).bind fun ds=>some (ds,p.2)
theorem zuL{K:PySem.W.Frag}{ta:TA}{ma:MA}(h:VAs K ta ma):VI K (zxe K ta) (zuK ma):=by
 intro ρ σ H ds ρ' R r e q
 obtain⟨⟨as,ρ1⟩,e1,e⟩:=bind_some e
 obtain⟨us,eu,e⟩:=bind_some e
 obtain⟨zs,ez,e⟩:=bind_some e
 cases e
 refine h ρ σ H as ρ1 _ r e1 fun vs H1 g1 s1=>?_
 have rp:=s1.rpl r g1 eu
 unfold zoa at ez
 split at ez
 ·split at ez
  rotate_left
  ·cases ez
  rename_i xs ys hl
  cases ez
  cases rp with
  | cons p1 t =>
   cases t with
   | cons p2 t =>
    cases t
    obtain⟨a,vx,rfl,h1,d1⟩:=DF.tup_inv p1
    obtain⟨b,vy,rfl,h2,d2⟩:=DF.tup_inv p2
    refine⟨a,b,rfl,⟨vx,SqT.of h1⟩,⟨vy,SqT.of h2⟩,q _ _ g1 fun H2 kk i=>⟨fun d ed=>?_,fun ei=>?_⟩⟩
    ·obtain⟨x,y,ex,ey,rfl⟩:=zlq ed
     obtain⟨v,ev,dv⟩:=(d1.kp kk).get ex
     obtain⟨w,ew,dw⟩:=(d2.kp kk).get ey
     refine⟨⟨vx,vy,v,w,SqT.of (kk.tup _ _ h1),SqT.of (kk.tup _ _ h2),ev,ew⟩,fun z H' y=>?_⟩
     obtain⟨T,nT,rfl,y⟩:=y
     cases y vx vy v w (SqT.of (kk.tup _ _ h1)) (SqT.of (kk.tup _ _ h2)) ev ew
     have sm:=zaJ nT (.tup [v,w])
     exact⟨sm,.tup zG (.cons (dv.kp sm.kp) (.cons (dw.kp sm.kp) .nil))⟩
    ·exact⟨vx,vy,SqT.of (kk.tup _ _ h1),SqT.of (kk.tup _ _ h2),by rw [zjq _ _ hl]at ei; rw [d1.len]; exact ei.symm⟩
 ·cases ez
section
variable {prog:Program} {w:World} {A:Around} {E:Value->Shared->Prop} {s:Shared}
theorem zjr{b:Addr}{Q:Bool->Shared->Prop}(hT:s.TypeIs (.ref b) "tuple")(h:Q false s):wpAny (model prog w) A (Builtin.Dict.quietEq (.ref b)) Q E s:=by
 unfold Builtin.Dict.quietEq
 refine wpAny_bind (wpAny_specialOf hT F.slot_tuple_eq.lookup (wpAny_pure ?_))
 exact h
theorem zjs{id:String}{d:Addr}{o:Obj}{es:Array DictEntry}{ep:Nat}{Q:Array DictEntry->Shared->Prop}(ho:s.heap.get? d=some o)(hd:o.data=.dict es ep)
  (hk:∀ e∈es.toList,∃ b,e.key=.ref b/\s.TypeIs (.ref b) "tuple") (hh:∀ e∈es.toList,¬(es.filter (·.hash==e.hash)).size > 1) (h:Q es s) :
  wpAny (model prog w) A (Builtin.Dict.entriesForEmpty id d) Q E s:=by
 unfold Builtin.Dict.entriesForEmpty
 refine wpAny_bind (wpAny_dictEntries ho hd ?_)
 refine wpAny_bind ?_
 rw [<-Array.forIn_toList]
 refine wpAny_forIn_list _ (fun zcb _ s'=>s'=s/\∀ e∈zcb,e∈es.toList) _ ?_ ?_ _ _ ⟨rfl,fun e h=>h⟩
 ·rintro e zcb b s' ⟨rfl,hr⟩
  obtain⟨c,ec,tc⟩:=hk e (hr e List.mem_cons_self)
  rw [ec]
  refine wpAny_bind (zjr tc ?_)
  simp only [Bool.not_false,if_true]
  rw [if_neg (hh e (hr e List.mem_cons_self))]
  exact wpAny_pure ⟨rfl,fun e h=>hr e (List.mem_cons_of_mem _ h)⟩
 ·rintro b s' ⟨rfl,_⟩
  exact wpAny_pure h
theorem zuM{es:Array DictEntry}(ne:es.isEmpty=false)(hk:∀ e∈es.toList,∃ b,e.key=.ref b):(decide (es.size<=8) && es.all fun e=>(keyPart e.key).isSome)=false:=by
 have:(es.all fun e=>(keyPart e.key).isSome)=false:=by
  rw [<-Array.all_toList]
  cases h:es.toList with
  | nil =>
   have:es=#[]:=by
    apply Array.ext'
    rw [h]
   rw [this]at ne
   cases ne
  | cons e r =>
   obtain⟨b,eb⟩:=hk e (by rw [h]; exact List.mem_cons_self)
   rw [List.all_cons,eb]
   rfl
 rw [this,Bool.and_false]
theorem zg5{d:Addr}{o:Obj}{es:Array DictEntry}{ep:Nat}{Q:Value->Shared->Prop}(hdS:(d==sysModules)=false)(ho:s.heap.get? d=some o)(hx:o.ExactDict)(hd:o.data=.dict es ep)(hz:es.size<=sizeLine)
  (hk:∀ e∈es.toList,∃ b,e.key=.ref b/\s.TypeIs (.ref b) "tuple") (hh:∀ e∈es.toList,¬(es.filter (·.hash==e.hash)).size > 1)
  (h:∀ h':Heap,(∃ o' ep',h'.get? s.heap.objs.size=some o'/\o'.ExactDict/\o'.data=.dict es ep')->(∀ b u,s.heap.get? b=some u->h'.get? b=some u)->Q (.ref s.heap.objs.size) { s with heap:=h' }) :
  wpAny (model prog w) A (call (.type "dict") [.ref d]) Q E s:=by
 refine callType_codes (Q₁:=fun obj s₁=>obj=.ref s.heap.objs.size/\s₁={ s with heap:=s.heap.push { cls:=.type "dict",data:=.dict #[] } }) F.kt_called_dict (F.kt_typeCall_dict_1 _) F.entry_dict_init (kt_code_dict_new _ ⟨rfl,rfl⟩) ?_
 rintro obj s₁ ⟨rfl,rfl⟩
 have nd:s.heap.objs.size≠d:=Ne.symm (Nat.ne_of_lt (Heap.lt_size ho))
 have hn:(s.heap.push { cls:=.type "dict",data:=.dict #[] }).get? s.heap.objs.size=some { cls:=.type "dict",data:=.dict #[] }:=Heap.get?_push_size _ rfl
 have ho':(s.heap.push { cls:=.type "dict",data:=.dict #[] }).get? d=some o:=Heap.get?_push_of_some _ ho
 have kk:∀ b u,s.heap.get? b=some u->(s.heap.push { cls:=.type "dict",data:=.dict #[] }).get? b=some u:=fun b u e=>Heap.get?_push_of_some _ e
 generalize s.heap.push { cls:=.type "dict",data:=.dict #[] }=h1 at hn ho' kk ⊢
 have tn:Shared.TypeIs { s with heap:=h1 } (.ref s.heap.objs.size) "dict":=⟨_,hn,rfl⟩
 have to:Shared.TypeIs { s with heap:=h1 } (.ref d) "dict":=⟨_,ho',hx.1⟩
 refine⟨tn,F.args_dict_init_2 _ _,?_⟩
 unfold Builtin.«dict.__init__»
 refine wpAny_bind ?_
 unfold Builtin.Dict.selfAndRest
 refine wpAny_bind (wpAny_notOrdered_dict tn ?_)
 show wpAny _ _ (pure (s.heap.objs.size,[Value.ref d])) _ _ _
 refine wpAny_pure ?_
 show wpAny _ _ (Builtin.Dict.updateFrom "dict.__init__" s.heap.objs.size (.ref d) [] .none) _ _ _
 unfold Builtin.Dict.updateFrom
 refine wpAny_bind (wpAny_typeOf to ?_)
 rw [if_neg (by decide)]
 refine wpAny_bind ?_
 unfold Builtin.Dict.merge
 refine wpAny_bind ?_
 unfold Builtin.Dict.readDirectly
 refine wpAny_bind (wpAny_isInstance to isSubtype_dict_dict ?_)
 simp only [Bool.not_true,Bool.false_eq_true,if_false]
 refine wpAny_bind (wpAny_specialOf to F.slot_dict_iter.lookup (wpAny_pure ?_))
 simp only [beq_self_eq_true,if_true]
 refine wpAny_bind (wpAny_pure ?_)
 unfold Builtin.Dict.mergeDict
 rw [if_neg (by simpa using nd)]
 unfold Builtin.Dict.showsAll
 rw [if_neg (by rw [hdS]; exact Bool.false_ne_true)]
 refine wpAny_bind (wpAny_pure ?_)
 refine wpAny_bind (wpAny_dictEntries ho' hd ?_)
 cases ne:es.isEmpty with
 | true =>
  have e0:es=#[]:=Array.isEmpty_iff.mp ne
  subst e0
  have fw:(decide ((#[]:Array DictEntry).size<=8) && (#[]:Array DictEntry).all fun e=>(keyPart e.key).isSome)=true:=by rw [<-Array.all_toList]; rfl
  simp only [fw,Bool.not_true,Bool.false_eq_true,if_false]
  refine wpAny_bind (wpAny_dictEpoch (s:={ s with heap:=h1 }) ho' hd ?_)
  refine wpAny_bind (wpAny_dictEntries (s:={ s with heap:=h1 }) ho' hd ?_)
  refine wpAny_bind ?_
  rw [Std.Legacy.Range.forIn_eq_forIn_range']
  simp only [Std.Legacy.Range.size,Nat.sub_zero,Nat.add_sub_cancel,Nat.div_one,Array.size_empty,List.range'_zero,List.forIn_nil]
  refine wpAny_pure (wpAny_pure ?_)
  exact wpAny_bind (wpAny_pure (wpAny_pure ⟨rfl,h h1 ⟨_,0,hn,⟨rfl,rfl,rfl⟩,rfl⟩ kk⟩))
 | false =>
  have fw:=zuM ne fun e he=>let ⟨b,eb,_⟩:=hk e he; ⟨b,eb⟩
  simp only [fw,Bool.not_false,if_true]
  refine wpAny_bind (wpAny_dictEntries hn rfl ?_)
  simp only [Array.isEmpty_empty,if_true]
  refine wpAny_bind (zjs (s:={ s with heap:=h1 }) ho' hd (fun e he=>?_) hh ?_)
  ·obtain⟨b,eb,o2,eo,ec⟩:=hk e he
   exact⟨b,eb,o2,kk _ _ eo,ec⟩
  simp only [ne,Bool.not_false,if_true]
  refine wpAny_bind (wpAny_updateDictKeysTo hn rfl ?_ (by show es.size<=_; omega))
  refine wpAny_pure (wpAny_bind (wpAny_pure (wpAny_pure ⟨rfl,h _ ⟨_,_,Heap.get?_update_self _ hn rfl,⟨rfl,rfl,rfl⟩,rfl⟩ fun b u e=>?_⟩)))
  exact((Heap.SameBut.update ..).2 b (Nat.ne_of_lt (Heap.lt_size e))).trans (kk b u e)
end
def hK:Key->Int
 | .inl i=>hashInt i
 | .inr _=>0
def hT(ks:List Key):Int:=reduceHash (Builtin.Tuple.tupleHashOf (ks.map hK))
def zuN(ks:List Key):Bool:=ks.all fun k=>match k with | .inl _=>true | .inr _=>false
def zeE(kss:List (List Key)):Bool:=kss.all zuN && decide ((kss.map hT).Nodup)
theorem zxf{P:Program}{w:World}:∀ {ks:List Key},zuN ks=true->(tupleKind (za6 P w)).hash ks=hT ks:=fun{ks} h=>by
 show reduceHash (Builtin.Tuple.tupleHashOf (ks.map (zvw w)))=_
 unfold hT
 congr 2
 refine List.map_congr_left fun k hk=>?_
 have:=List.all_eq_true.mp h k hk
 cases k with
 | inl i=>rfl
 | inr x=>cases this
theorem zkr{es:List DictEntry}(hn:(es.map (·.hash)).Nodup){e:DictEntry}(he:e∈es):(es.filter (·.hash==e.hash)).length<=1:=by
 induction es with
 | nil=>cases he
 | cons x es ih =>
  rw [List.map_cons,List.nodup_cons]at hn
  rw [List.filter_cons]
  rcases List.mem_cons.mp he with rfl | he'
  ·rw [if_pos (by simp)]
   have:es.filter (·.hash==e.hash)=[]:=List.filter_eq_nil_iff.mpr fun y hy z=>hn.1 (List.mem_map.mpr ⟨y,hy,by simpa using z⟩)
   rw [this]
   simp
  ·have:¬((x.hash==e.hash)=true):=fun z=>hn.1 (List.mem_map.mpr ⟨e,he',by simpa using (beq_iff_eq.mp z).symm⟩)
   rw [if_neg this]
   exact ih hn.2 he'
section
variable {X:Cx} {pins:List (Addr×Obj)} {σ:St} {H:Hp} {s:Shared} {a:Addr} {kvs:List (List Key×V)} {A:Around} {E:Value->Shared->Prop}
theorem zqZ{l:List (List Key×V)}{m:List (List Key×Addr×Value)}(r:KT H l m):m.map (·.1)=l.map (·.1):=by
 induction r with
 | nil=>rfl
 | cons hq t ih=>rw [List.map_cons,List.map_cons,ih,hq.1]
theorem zq0{Q:Value->Shared->Prop}(I:Inv X pins σ H s)(e:Rd H a (.dT kvs))(hh:zeE (kvs.map (·.1))=true)(h:∀ p s',H p=none->Inv X pins σ (upd H p (.dT kvs)) s'->Q (.ref p) s'):wpAny (model X.prog X.w) A (call (.type "dict") [.ref a]) Q E s:=by
 obtain⟨z,y,xs,r,o,es,ep,h1,h2,h3,h4,h5⟩:=(show zaN X.prog X.w H s.heap a (.dT kvs) from ziP I.hok e)
 obtain⟨_,_,xs',r',dd⟩:=zhp I.hok e
 have hlen:es.size=kvs.length:=by
  have:=congrArg List.length h4
  rw [Array.length_toList,List.length_map,<-zcP r]at this
  exact this
 obtain⟨hi,hn⟩:=Bool.and_eq_true_iff.mp hh
 have hn:=of_decide_eq_true hn
 have keysEq:=zqZ r
 have hashes:es.toList.map (·.hash)=(kvs.map (·.1)).map hT:=by
  rw [h4,<-keysEq,List.map_map,List.map_map]
  refine List.map_congr_left fun x hx=>?_
  exact zxf (List.all_eq_true.mp hi x.1 (by rw [<-keysEq]; exact List.mem_map.mpr ⟨x,hx,rfl⟩))
 refine zg5 y h1 h2 h3 (by omega) (fun q hq=>?_) (fun q hq=>?_) fun h' ⟨o',ep',n1,n2,n3⟩ kk=>?_
 ·rw [h4]at hq
  obtain⟨x,hx,rfl⟩:=List.mem_map.mp hq
  have key:∀ {l:List (List Key×V)} {m:List (List Key×Addr×Value)},KT H l m->∀ x∈m,H x.2.1=some (.tup (x.1.map kV)):=by
   intro l m q
   induction q with
   | nil=>intro x hx; cases hx
   | cons hq _ ih =>
    intro x hx
    rcases List.mem_cons.mp hx with e | hx
    ·subst e
     rw [<-hq.1]
     exact hq.2.1
    ·exact ih x hx
  exact⟨x.2.1,rfl,(zff I.hok (key r x hx)).typeIs⟩
 ·rw [<-hashes]at hn
  have:=zkr hn hq
  rw [<-Array.length_toList,Array.toList_filter]
  omega
 ·refine h _ _ (I.hok.fresh (Nat.le_refl _)) (I.laid (a:=s.heap.objs.size) (o:=.dT kvs) (t':=s.toks) kk (Nat.le_refl _) ⟨z,beq_eq_false_iff_ne.mpr (Ne.symm (Nat.ne_of_lt I.big)),xs,?_,o',es,ep',n1,n2,n3,h4,h5⟩)
  exact KT.keeps r fun b ys hb=>by rw [zD (fun z=>by rw [z,I.hok.fresh (Nat.le_refl _)]at hb; cases hb)]; exact hb
theorem zks:zb6 X (.type "dict") (fun xs H Q=>∃ a kvs,xs=[.ref a]/\Rd H a (.dT kvs)/\zeE (kvs.map (·.1))=true/\∀ p,H p=none->Q (.ref p) (upd H p (.dT kvs))):=by
 intro pins s σ H xs us Q I r h
 obtain⟨a,kvs,rfl,hr,hh,q⟩:=h
 obtain⟨u,rfl,ru⟩:=zeM r
 cases ru
 exact zq0 I hr hh fun p s' hp I'=>⟨.ref p,_,I',rfl,q p hp⟩
end
def zob:List (D×D)->Option (List (List Key×D))
 | []=>some []
 | (k,d)::r=>(zbL k).bind fun k=>(zob r).bind fun r=>some ((k,d)::r)
def ze3:U->Option U
 | .t kvs=>if zeE (kvs.map (·.1))=true then some (.t kvs)else none
 | .d (.dict kvs)=>if noX kvs=true then(zob kvs).bind fun kvs=>if zeE (kvs.map (·.1))=true then some (.t kvs)else none else none
 | _=>none
section
variable {K:PySem.W.Frag} {H:Hp}
theorem zjt{ws:List (List Key×V)}{kvs:List (List Key×D)}(h:KVd K H ws kvs):ws.map (·.1)=kvs.map (·.1):=by
 induction h with
 | nil=>rfl
 | cons hq t ih=>rw [List.map_cons,List.map_cons,ih,hq.1]
theorem zju:∀ {kvs:List (D×D)} {ws:List (List Key×V)} {r:List (List Key×D)},DFt K H ws kvs->zob kvs=some r->KVd K H ws r
 | [],ws,r,h,e=>by cases h; cases e; exact .nil
 | (k,d)::kvs,ws,r,h,e=>by
  obtain⟨k',ek,e⟩:=bind_some (show(zbL k).bind _=some r from e)
  obtain⟨r',er,e⟩:=bind_some e
  cases e
  cases h with
  | @cons k2 v _ vs ds hv t =>
   rw [zeW]at ek
   cases ek
   exact .cons ⟨rfl,hv⟩ (zju t er)
theorem zmq:VC K (fun xs H Q=>∃ a kvs,xs=[.ref a]/\Rd H a (.dT kvs)/\zeE (kvs.map (·.1))=true/\∀ p,H p=none->Q (.ref p) (upd H p (.dT kvs))) (f1 ze3):=zkc fun v a u H Q h e q=>by
 unfold ze3 at e
 split at e
 ·split at e
  rotate_left
  ·cases e
  rename_i kvs hh
  cases e
  obtain⟨b,ws,rfl,h1,h2⟩:=h
  refine⟨b,ws,rfl,.inl h1,by rw [zjt h2]; exact hh,fun p hp=>?_⟩
  have sm:=zaJ hp (.dT ws)
  exact q _ _ sm ⟨p,ws,rfl,zG,h2.kp sm.kp⟩ fun _=>⟨p,rfl,hp⟩
 ·split at e
  rotate_left
  ·cases e
  rename_i nx
  obtain⟨r,er,e⟩:=bind_some e
  split at e
  rotate_left
  ·cases e
  rename_i hh
  cases e
  obtain⟨b,o,ws,rfl,h1,h2⟩:=DF.dct_inv h nx
  have kd:=zju h2 er
  refine⟨b,ws,rfl,.inr ⟨o,h1⟩,by rw [zjt kd]; exact hh,fun p hp=>?_⟩
  have sm:=zaJ hp (.dT ws)
  exact q _ _ sm ⟨p,ws,rfl,zG,kd.kp sm.kp⟩ fun _=>⟨p,rfl,hp⟩
 ·cases e
end
def zlr(i j:Int):Prop:=i.natAbs.log2 < 1000000/\j.natAbs.log2 < 1000000
theorem zjv{n:Int}(h:n.natAbs.log2 < 1000000):Builtin.Int.intBits n<=2^20:=by
 refine intBits_le ?_
 by_cases z:n.natAbs=0
 ·rw [z]; exact Nat.two_pow_pos _
 ·exact Nat.lt_of_lt_of_le ((Nat.log2_lt z).mp h) (Nat.pow_le_pow_right (by decide) (by decide))
section
variable {X:Cx}
theorem zaX:OpR X (binaryOp .Mult) (rI zlr fun i j=>.int (i * j)):=opI fun _ _ _ _ _ _ _ hc q=>mul_int q (IntMulOk.of_bits (zjv hc.1) (zjv hc.2))
end
section
variable {K:PySem.W.Frag}
noncomputable def zba:=fIC zlr fun i j=>.int (i * j)
theorem zaY:VO K (rI zlr fun i j=>.int (i * j)) zba:=zhy fun i j H=>.int _
theorem zq1{w:U}{xs:List D}(h:w.lo=some xs):w=.l xs:=by
 cases w<;>first | (cases h; rfl) | cases h
end
section
variable {ρ:En} {me ma mb mc mk mi md my mv mx mo:ME} {mA mK:MA} {mt mu:MT} {mI:MI} {mg:MG} {m1 m2:MS} {i j n:Nat} {u:U} {x:D}
variable {QE:Ar×En->Prop} {QI:List D×En->Prop}
theorem zoc:Wo (zfl md my mx ρ) QE=Wo (md ρ) (Co (fun p=>(p.1.get p.2).bind fun u0=>if zhG u0=true then(my p.2).bind fun q=>(mx q.2).bind fun z=>(p.1.get z.2).bind fun u=>(q.1.get z.2).bind fun y=>(z.1.get z.2).bind fun x=>(zg3 u y).bind fun o=>x.da.bind fun x=>some (.u (.d (o.getD x)),z.2)else none) ⟨0⟩ QE):=by
 have e:zfl md my mx ρ=(md ρ).bind fun p=>(p.1.get p.2).bind fun u0=>if zhG u0=true then(my p.2).bind fun q=>(mx q.2).bind fun z=>(p.1.get z.2).bind fun u=>(q.1.get z.2).bind fun y=>(z.1.get z.2).bind fun x=>(zg3 u y).bind fun o=>x.da.bind fun x=>some (.u (.d (o.getD x)),z.2)else none:=by
  unfold zfl
  refine bind_fn fun p=>bind_fn fun u0=>?_
  split
  ·refine bind_fn fun q=>bind_fn fun z=>bind_fn fun u=>bind_fn fun y=>bind_fn fun x=>bind_fn fun o=>?_
   cases x<;>rfl
  ·rfl
 rw [e,zE]
theorem zuO:Wo (zuK mA ρ) QI=Wo (mA ρ) (Co (fun p=>(zbp p.2 p.1).bind fun us=>(zoa us).bind fun ds=>some (ds,p.2)) ⟨0⟩ QI):=by
 show Wo (Option.bind _ _) QI=_
 rw [zE]
theorem zq2{kvs:List (List Key×D)}:zhG (.t kvs)=true:=rfl
theorem zcc{a b:Int}(h:a.natAbs.log2 < 1000000)(h2:b.natAbs.log2 < 1000000):zba (.d (.int a)) (.d (.int b))=some (.d (.int (a * b))):=zhC (c:=zlr) ⟨h,h2⟩
theorem zuP{α:Type}{g:α->D}{nt:Nat}{b:α->Bool}{e:α->D}{as:List α}{Q:List D×En->Prop}(hz:as.length<=sizeLine)
  (st:∀ a∈as,∀ ys,Wo (mg (g a) ρ) (Co mt ⟨0⟩ (kLC nt me ys fun ρ' zs=>ρ'=ρ/\zs=if b a=true then ys++[e a]else ys))) (q:Q ((as.filter b).map e,ρ)):Wo (lcM nt mg mt me (as.map g) ρ []) Q:=by
 refine zjm (fun i ρ' ys=>ρ'=ρ/\ys=((as.take i).filter b).map e) (by rw [List.length_map]; exact hz) (fun i ρ' ys h=>?_) ⟨rfl,rfl⟩ (fun i d ρ' ys hd h=>?_) fun ρ' ys h=>?_
 ·rw [h.2,List.length_map]
  exact Nat.le_trans (List.length_filter_le _ _) (by rw [List.length_take]; exact Nat.min_le_left _ _)
 ·obtain⟨rfl,rfl⟩:=h
  rw [List.getElem?_map]at hd
  obtain⟨a,ha,rfl⟩:=Option.map_eq_some_iff.mp hd
  have:=st a (List.mem_of_getElem? ha) (((as.take i).filter b).map e)
  have en:((as.take (i+1)).filter b).map e=if b a=true then((as.take i).filter b).map e++[e a]else((as.take i).filter b).map e:=by
   rw [List.take_succ,ha,List.filter_append,List.map_append]
   show _++(([a]:List α).filter b).map e=_
   rw [List.filter_cons]
   split<;>simp
  rw [en]
  exact this
 ·obtain⟨rfl,rfl⟩:=h
  rw [List.length_map,List.take_of_length_le (Nat.le_refl _)]
  exact q
end
section
variable {X:Cx} {tg:Expr}
end
end L2
namespace L2
open PySem
def zgB(n d:Int):Int:=(if d < 0 then -n else n) / (Int.gcd n d:Nat)
def zfK(n d:Int):Int:=(if d < 0 then -d else d) / (Int.gcd n d:Nat)
theorem zfm{n d:Int}(hd:d≠0):zgB n d * d=n * zfK n d/\1<=zfK n d/\Int.gcd (zgB n d) (zfK n d)=1/\zfK n d<=d.natAbs/\(zgB n d).natAbs<=n.natAbs:=by
 have hg:0 < Int.gcd n d:=Int.gcd_pos_of_ne_zero_right n hd
 obtain⟨u,hu⟩:=Int.gcd_dvd_left n d
 obtain⟨v,hv⟩:=Int.gcd_dvd_right n d
 have hg':(0:Int) < (Int.gcd n d:Nat):=Int.natCast_pos.mpr hg
 have hc:Int.gcd (n / (Int.gcd n d:Nat)) (d / (Int.gcd n d:Nat))=1:=Int.gcd_ediv_gcd_ediv_gcd hg
 unfold zgB zfK
 generalize (Int.gcd n d:Nat)=g at *
 have gne:(g:Int)≠0:=by omega
 have eu:n / (g:Int)=u:=by rw [hu]; exact Int.mul_ediv_cancel_left u gne
 have ev:d / (g:Int)=v:=by rw [hv]; exact Int.mul_ediv_cancel_left v gne
 have eu':(-n) / (g:Int)=-u:=by rw [hu,<-Int.mul_neg]; exact Int.mul_ediv_cancel_left (-u) gne
 have ev':(-d) / (g:Int)=-v:=by rw [hv,<-Int.mul_neg]; exact Int.mul_ediv_cancel_left (-v) gne
 rw [eu,ev]at hc
 have g1:1<=g:=hg
 have an:n.natAbs=g * u.natAbs:=by rw [hu,Int.natAbs_mul]; rfl
 have ad:d.natAbs=g * v.natAbs:=by rw [hv,Int.natAbs_mul]; rfl
 have lu:u.natAbs<=n.natAbs:=by rw [an]; exact Nat.le_mul_of_pos_left _ hg
 have lv:v.natAbs<=d.natAbs:=by rw [ad]; exact Nat.le_mul_of_pos_left _ hg
 by_cases c:d < 0
 ·rw [if_pos c,if_pos c,eu',ev']
  have hv0:v < 0:=by
   rcases(by omega:v < 0\/0<=v)with z | z
   ·exact z
   ·have:=Int.mul_nonneg (Int.le_of_lt hg') z
    omega
  refine⟨?_,by omega,?_,by omega,by omega⟩
  ·rw [hu,hv]
   simp only [Int.neg_mul,Int.mul_neg,Int.neg_inj]
   ac_rfl
  ·rw [Int.neg_gcd,Int.gcd_neg]
   exact hc
 ·rw [if_neg c,if_neg c,eu,ev]
  have hv0:0 < v:=by
   rcases(by omega:0 < v\/v<=0)with z | z
   ·exact z
   ·have:=Int.mul_nonneg (Int.le_of_lt hg') (show 0<=-v by omega)
    rw [Int.mul_neg,<-hv]at this
    omega
  refine⟨?_,by omega,hc,by omega,by omega⟩
  rw [hu,hv]
  ac_rfl
theorem zgC{n d N D:Int}(hd:d≠0)(h1:1<=D)(hc:Int.gcd N D=1)(he:N * d=n * D):N=zgB n d/\D=zfK n d:=by
 obtain⟨e,y1,c,_,_⟩:=zfm (n:=n) hd
 generalize zgB n d=x at *
 generalize zfK n d=y at *
 have k:N * y=x * D:=by
  have z:(N * y) * d=(x * D) * d:=by grind
  exact Int.eq_of_mul_eq_mul_right hd z
 have d1:D∣y:=by
  have t:D∣N * y:=⟨x,by rw [k]; ac_rfl⟩
  have u:=Int.dvd_gcd_mul_iff_dvd_mul.mpr t
  rw [Int.gcd_comm,hc]at u
  simpa using u
 have d2:y∣D:=by
  have t:y∣x * D:=⟨N,by rw [<-k]; ac_rfl⟩
  have u:=Int.dvd_gcd_mul_iff_dvd_mul.mpr t
  rw [Int.gcd_comm,c]at u
  simpa using u
 have l1:=Int.le_of_dvd (by omega) d1
 have l2:=Int.le_of_dvd (by omega) d2
 have e2:D=y:=by omega
 refine⟨?_,e2⟩
 rw [e2]at k
 exact Int.eq_of_mul_eq_mul_right (by omega) k
theorem zq3{a b c d:Int}(hb:1<=b)(hd:1<=d)(ca:Int.gcd a b=1)(cc:Int.gcd c d=1){g t l:Int}(eg:g=(Int.gcd b d:Nat))(et:t=a * (d / g)+c * (b / g))(el:l=(Int.gcd t g:Nat)) :
  t / l=zgB (a * d+c * b) (b * d)/\b / g * (d / l)=zfK (a * d+c * b) (b * d):=by
 have gp:0 < Int.gcd b d:=Int.gcd_pos_of_ne_zero_right b (by omega)
 have g0:0 < g:=by omega
 obtain⟨u,hu⟩:g∣b:=by rw [eg]; exact Int.gcd_dvd_left b d
 obtain⟨v,hv⟩:g∣d:=by rw [eg]; exact Int.gcd_dvd_right b d
 have eu:b / g=u:=by rw [hu]; exact Int.mul_ediv_cancel_left u (by omega)
 have ev:d / g=v:=by rw [hv]; exact Int.mul_ediv_cancel_left v (by omega)
 have cuv:Int.gcd u v=1:=by
  have z:=Int.gcd_ediv_gcd_ediv_gcd gp
  rw [<-eg,eu,ev]at z
  exact z
 have lp:0 < Int.gcd t g:=Int.gcd_pos_of_ne_zero_right t (by omega)
 obtain⟨s,hs⟩:l∣t:=by rw [el]; exact Int.gcd_dvd_left t g
 obtain⟨k,hk⟩:l∣g:=by rw [el]; exact Int.gcd_dvd_right t g
 have l0:0 < l:=by omega
 have es:t / l=s:=by rw [hs]; exact Int.mul_ediv_cancel_left s (by omega)
 have ek:g / l=k:=by rw [hk]; exact Int.mul_ediv_cancel_left k (by omega)
 have ed:d / l=k * v:=by rw [hv,hk,Int.mul_assoc]; exact Int.mul_ediv_cancel_left _ (by omega)
 have csk:Int.gcd s k=1:=by
  have z:=Int.gcd_ediv_gcd_ediv_gcd lp
  rw [<-el,es,ek]at z
  exact z
 rw [es,eu,ed]
 rw [eu,ev]at et
 have cau:Int.gcd a u=1:=by
  have z:Int.gcd a u∣Int.gcd a b:=Int.gcd_dvd_gcd_of_dvd_right a ⟨g,by rw [hu]; ac_rfl⟩
  rw [ca]at z
  exact Nat.dvd_one.mp z
 have ccv:Int.gcd c v=1:=by
  have z:Int.gcd c v∣Int.gcd c d:=Int.gcd_dvd_gcd_of_dvd_right c ⟨g,by rw [hv]; ac_rfl⟩
  rw [cc]at z
  exact Nat.dvd_one.mp z
 have ctu:Int.gcd t u=1:=by
  rw [et,Int.gcd_add_mul_right_left,Int.gcd_mul_right_left_of_gcd_eq_one cau,Int.gcd_comm]
  exact cuv
 have ctv:Int.gcd t v=1:=by
  rw [et,Int.add_comm,Int.gcd_add_mul_right_left,Int.gcd_mul_right_left_of_gcd_eq_one ccv]
  exact cuv
 have csu:Int.gcd s u=1:=by
  have z:Int.gcd s u∣Int.gcd t u:=Int.gcd_dvd_gcd_of_dvd_left u ⟨l,by rw [hs]; ac_rfl⟩
  rw [ctu]at z
  exact Nat.dvd_one.mp z
 have csv:Int.gcd s v=1:=by
  have z:Int.gcd s v∣Int.gcd t v:=Int.gcd_dvd_gcd_of_dvd_left v ⟨l,by rw [hs]; ac_rfl⟩
  rw [ctv]at z
  exact Nat.dvd_one.mp z
 have k0:0 < k:=Int.pos_of_mul_pos_right (by rw [<-hk]; exact g0) l0
 have u0:0 < u:=Int.pos_of_mul_pos_right (by rw [<-hu]; omega) g0
 have v0:0 < v:=Int.pos_of_mul_pos_right (by rw [<-hv]; omega) g0
 refine zgC (Int.mul_ne_zero (by omega) (by omega)) ?_ ?_ ?_
 ·have:=Int.mul_pos u0 (Int.mul_pos k0 v0)
  omega
 ·rw [Int.gcd_mul_right_right_of_gcd_eq_one csu,Int.gcd_mul_right_right_of_gcd_eq_one csk]
  exact csv
 ·have e1:a * d+c * b=g * t:=by rw [et]; grind
  rw [e1]
  grind
theorem zq4{a b c d:Int}(hb:1<=b)(hd:1<=d)(ca:Int.gcd a b=1)(cc:Int.gcd c d=1){g h:Int}(eg:g=(Int.gcd a d:Nat))(eh:h=(Int.gcd c b:Nat)) :
  a / g * (c / h)=zgB (a * c) (b * d)/\b / h * (d / g)=zfK (a * c) (b * d):=by
 have gp:0 < Int.gcd a d:=Int.gcd_pos_of_ne_zero_right a (by omega)
 have hp:0 < Int.gcd c b:=Int.gcd_pos_of_ne_zero_right c (by omega)
 have g0:0 < g:=by omega
 have h0:0 < h:=by omega
 obtain⟨u,hu⟩:g∣a:=by rw [eg]; exact Int.gcd_dvd_left a d
 obtain⟨v,hv⟩:g∣d:=by rw [eg]; exact Int.gcd_dvd_right a d
 obtain⟨x,hx⟩:h∣c:=by rw [eh]; exact Int.gcd_dvd_left c b
 obtain⟨y,hy⟩:h∣b:=by rw [eh]; exact Int.gcd_dvd_right c b
 have eu:a / g=u:=by rw [hu]; exact Int.mul_ediv_cancel_left u (by omega)
 have ev:d / g=v:=by rw [hv]; exact Int.mul_ediv_cancel_left v (by omega)
 have ex:c / h=x:=by rw [hx]; exact Int.mul_ediv_cancel_left x (by omega)
 have ey:b / h=y:=by rw [hy]; exact Int.mul_ediv_cancel_left y (by omega)
 have cuv:Int.gcd u v=1:=by
  have z:=Int.gcd_ediv_gcd_ediv_gcd gp
  rw [<-eg,eu,ev]at z
  exact z
 have cxy:Int.gcd x y=1:=by
  have z:=Int.gcd_ediv_gcd_ediv_gcd hp
  rw [<-eh,ex,ey]at z
  exact z
 have cuy:Int.gcd u y=1:=by
  have z:Int.gcd u y∣Int.gcd a b:=Nat.dvd_trans (Int.gcd_dvd_gcd_of_dvd_left y ⟨g,by rw [hu]; ac_rfl⟩) (Int.gcd_dvd_gcd_of_dvd_right a ⟨h,by rw [hy]; ac_rfl⟩)
  rw [ca]at z
  exact Nat.dvd_one.mp z
 have cxv:Int.gcd x v=1:=by
  have z:Int.gcd x v∣Int.gcd c d:=Nat.dvd_trans (Int.gcd_dvd_gcd_of_dvd_left v ⟨h,by rw [hx]; ac_rfl⟩) (Int.gcd_dvd_gcd_of_dvd_right c ⟨g,by rw [hv]; ac_rfl⟩)
  rw [cc]at z
  exact Nat.dvd_one.mp z
 have v0:0 < v:=Int.pos_of_mul_pos_right (by rw [<-hv]; omega) g0
 have y0:0 < y:=Int.pos_of_mul_pos_right (by rw [<-hy]; omega) h0
 rw [eu,ev,ex,ey]
 refine zgC (Int.mul_ne_zero (by omega) (by omega)) ?_ ?_ ?_
 ·have:=Int.mul_pos y0 v0
  omega
 ·rw [Int.gcd_mul_right_left_of_gcd_eq_one (n:=u) (k:=x)]
  ·rw [Int.gcd_mul_right_right_of_gcd_eq_one cxy]; exact cxv
  ·rw [Int.gcd_mul_right_right_of_gcd_eq_one cuy]; exact cuv
 ·grind
theorem zjw(n d:Int){g:Int}(hg:0 < g):n.fdiv (if d < 0 then 0 - g else g)=(if d < 0 then -n else n) / g:=by
 split
 ·rw [Int.zero_sub,<-Int.fdiv_eq_ediv_of_nonneg _ (Int.le_of_lt hg)]
  have:=Int.neg_fdiv_neg (-n) g
  rw [Int.neg_neg]at this
  exact this
 ·rw [Int.fdiv_eq_ediv_of_nonneg _ (Int.le_of_lt hg)]
theorem zod(x y:Int):Int.gcd (if x < 0 then -x else x) (if y < 0 then -y else y)=Int.gcd x y:=by
 rw [zhU]
 split
 ·exact Int.gcd_neg
 ·rfl
theorem ze4{n d:Int}(hd:d≠0):zgB n d=(Rat.divInt n d).num/\zfK n d=((Rat.divInt n d).den:Int):=by
 have h:=zgC (n:=n) (d:=d) (N:=(Rat.divInt n d).num) (D:=((Rat.divInt n d).den:Int)) hd (by have:=(Rat.divInt n d).den_pos; omega) (by
  have:=(Rat.divInt n d).reduced
  exact this) (by
  have e:Rat.divInt (Rat.divInt n d).num ((Rat.divInt n d).den:Int)=Rat.divInt n d:=Rat.num_divInt_den _
  rw [Rat.divInt_eq_divInt_iff (by have:=(Rat.divInt n d).den_pos; omega) hd]at e
  rw [e])
 exact⟨h.1.symm,h.2.symm⟩
def fR(r:Rat):D:=.tuple [.int r.num,.int (r.den:Int)]
theorem zuQ{n d:Int}(hd:d≠0):PyData.tuple [.int (zgB n d),.int (zfK n d)]=fR (Rat.divInt n d):=by
 obtain⟨e1,e2⟩:=ze4 (n:=n) hd
 rw [e1,e2]
 rfl
theorem zfL(r:Rat):1<=(r.den:Int):=by have:=r.den_pos; omega
theorem cop(r:Rat):Int.gcd r.num (r.den:Int)=1:=by
 have:=r.reduced
 exact this
theorem zfY(a b:Rat):Rat.divInt (a.num * b.den+b.num * a.den) ((a.den:Int) * b.den)=a+b:=by
 rw [Rat.add_def',<-Rat.divInt_ofNat,Int.natCast_mul]
theorem zik(a b:Rat):Rat.divInt (a.num * b.num) ((a.den:Int) * b.den)=a * b:=by
 rw [Rat.mul_def',<-Rat.divInt_ofNat,Int.natCast_mul]
theorem zgD(r:Rat):r * (r.den:Rat)=(r.num:Rat):=by
 have e:(r.num:Rat) / ((r.den:Int):Rat)=r:=by rw [<-Rat.divInt_eq_div]; exact Rat.num_divInt_den r
 have n:((r.den:Int):Rat)≠0:=fun h=>by
  have:=Rat.intCast_inj.mp (show((r.den:Int):Rat)=((0:Int):Rat) from h)
  have:=r.den_pos
  omega
 have:=Rat.div_mul_cancel (a:=(r.num:Rat)) n
 rw [e]at this
 exact this
def Bd(M B:Nat)(r:Rat):Prop:=∃ k:Int,r * (M:Rat)=(k:Rat)/\k.natAbs<=B
section
variable {M N B C:Nat} {r s:Rat}
theorem Bd.le(h:Bd M B r)(c:B<=C):Bd M C r:=let ⟨k,e,b⟩:=h; ⟨k,e,Nat.le_trans b c⟩
theorem Bd.size(hM:0 < M)(h:Bd M B r):r.den<=M/\r.num.natAbs<=B:=by
 obtain⟨k,e,b⟩:=h
 have e2:r.num * (M:Int)=k * (r.den:Int):=by
  have h1:=zgD r
  have h2:((r.num * (M:Int):Int):Rat)=((k * (r.den:Int):Int):Rat):=by
   rw [Rat.intCast_mul,Rat.intCast_mul,<-h1,<-e,Rat.intCast_natCast,Rat.intCast_natCast,Rat.mul_assoc,Rat.mul_assoc,Rat.mul_comm (r.den:Rat)]
  exact Rat.intCast_inj.mp h2
 have dv:(r.den:Int)∣(M:Int):=by
  have t:(r.den:Int)∣r.num * (M:Int):=⟨k,by rw [e2,Int.mul_comm]⟩
  have u:=Int.dvd_gcd_mul_iff_dvd_mul.mpr t
  rw [Int.gcd_comm,cop]at u
  simpa using u
 obtain⟨c,hc⟩:=dv
 have dp:(0:Int) < r.den:=by have:=r.den_pos; omega
 have c0:0 < c:=by
  rcases(by omega:0 < c\/c<=0)with z | z
  ·exact z
  ·have:=Int.mul_nonneg (Int.le_of_lt dp) (show 0<=-c by omega)
   rw [Int.mul_neg,<-hc]at this
   omega
 have ek:k=r.num * c:=by
  rw [hc]at e2
  have:k * (r.den:Int)=(r.num * c) * (r.den:Int):=by rw [<-e2]; ac_rfl
  exact Int.eq_of_mul_eq_mul_right (by omega) this
 constructor
 ·have:(r.den:Int) * 1<=(r.den:Int) * c:=Int.mul_le_mul_of_nonneg_left (by omega) (by omega)
  omega
 ·rw [ek,Int.natAbs_mul]at b
  exact Nat.le_trans (Nat.le_mul_of_pos_right _ (by omega)) b
theorem Bd.add(h:Bd M B r)(h':Bd M C s):Bd M (B+C) (r+s):=by
 obtain⟨k,e,b⟩:=h
 obtain⟨l,f,c⟩:=h'
 exact⟨k+l,by rw [Rat.add_mul,e,f,Rat.intCast_add],Nat.le_trans (Int.natAbs_add_le _ _) (Nat.add_le_add b c)⟩
theorem Bd.mul(h:Bd M B r)(h':Bd N C s):Bd (M * N) (B * C) (r * s):=by
 obtain⟨k,e,b⟩:=h
 obtain⟨l,f,c⟩:=h'
 refine⟨k * l,?_,by rw [Int.natAbs_mul]; exact Nat.mul_le_mul b c⟩
 rw [Rat.intCast_mul,<-e,<-f,Rat.natCast_mul]
 grind
theorem Bd.neg(h:Bd M B r):Bd M B (-r):=by
 obtain⟨k,e,b⟩:=h
 exact⟨-k,by rw [Rat.neg_mul,e,Rat.intCast_neg],by rw [Int.natAbs_neg]; exact b⟩
theorem Bd.zero:Bd M B 0:=⟨0,by rw [Rat.zero_mul]; rfl,Nat.zero_le _⟩
theorem Bd.wide(h:Bd M B r)(c:Nat):Bd (M * c) (B * c) r:=by
 obtain⟨k,e,b⟩:=h
 refine⟨k * c,?_,by rw [Int.natAbs_mul,Int.natAbs_natCast]; exact Nat.mul_le_mul_right _ b⟩
 rw [Rat.intCast_mul,<-e,Rat.natCast_mul,Rat.intCast_natCast,Rat.mul_assoc]
theorem Bd.one:Bd 1 1 1:=⟨1,by rw [Rat.one_mul]; rfl,Nat.le_refl _⟩
theorem Bd.int(n:Int):Bd 1 n.natAbs (n:Rat):=⟨n,by rw [show((1:Nat):Rat)=1 from rfl,Rat.mul_one],Nat.le_refl _⟩
end
abbrev Pq(α:Type):=List (List Int×α)
section
variable {α β:Type}
def look(p:Pq α)(k:List Int):Option α:=(p.find? fun t=>decide (t.1=k)).map (·.2)
def zdH(p:Pq α)(k:List Int)(x:α):Pq α:=if(p.any fun t=>decide (t.1=k))=true then p.map (fun t=>if t.1=k then(t.1,x)else t)else p++[(k,x)]
def NdK(p:Pq α):Prop:=(p.map (·.1)).Nodup
theorem zoe(p:Pq α)(k:List Int)(x:α):(zdH p k x).map (·.1)=if(p.any fun t=>decide (t.1=k))=true then p.map (·.1)else p.map (·.1)++[k]:=by
 unfold zdH
 split
 ·rw [List.map_map]
  refine List.map_congr_left fun t _=>?_
  show(if t.1=k then(t.1,x)else t).1=t.1
  split<;>rfl
 ·rw [List.map_append]
  rfl
theorem zls{p:Pq α}{k:List Int}{x:α}{t:List Int×α}(h:t∈zdH p k x):(t∈p/\t.1≠k)\/t=(k,x):=by
 unfold zdH at h
 split at h
 ·obtain⟨u,hu,rfl⟩:=List.mem_map.mp h
  by_cases c:u.1=k
  ·rw [if_pos c]; exact .inr (by rw [c])
  ·rw [if_neg c]; exact .inl ⟨hu,c⟩
 ·rename_i hn
  rcases List.mem_append.mp h with z | z
  ·exact .inl ⟨z,fun e=>hn (List.any_eq_true.mpr ⟨t,z,decide_eq_true e⟩)⟩
  ·exact .inr (List.mem_singleton.mp z)
theorem NdK.put{p:Pq α}(h:NdK p)(k:List Int)(x:α):NdK (zdH p k x):=by
 unfold NdK
 rw [zoe]
 split
 ·exact h
 ·rename_i hn
  refine List.nodup_append.mpr ⟨h,by simp,fun a ha b hb=>?_⟩
  have:b=k:=by simpa using hb
  rw [this]
  obtain⟨t,ht,rfl⟩:=List.mem_map.mp ha
  exact fun e=>hn (List.any_eq_true.mpr ⟨t,ht,decide_eq_true e⟩)
theorem zq5(p:Pq α)(k:List Int)(x:α):(zdH p k x).length<=p.length+1:=by
 unfold zdH
 split
 ·rw [List.length_map]; omega
 ·rw [List.length_append]; exact Nat.le_refl _
def gat[Add α][Zero α](acc:Pq α)(ts:Pq α):Pq α:=ts.foldl (fun a t=>zdH a t.1 ((look a t.1).getD 0+t.2)) acc
end
section
variable {α:Type} [Add α] [Zero α]
theorem zil(ts:Pq α):∀ {acc:Pq α},NdK acc->NdK (gat acc ts):=by
 induction ts with
 | nil=>exact fun h=>h
 | cons t ts ih=>exact fun h=>ih (h.put _ _)
theorem zfZ(ts:Pq α):∀ (acc:Pq α),(gat acc ts).length<=acc.length+ts.length:=by
 induction ts with
 | nil=>intro acc; exact Nat.le_refl _
 | cons t ts ih =>
  intro acc
  have h1:=ih (zdH acc t.1 ((look acc t.1).getD 0+t.2))
  have h2:=zq5 acc t.1 ((look acc t.1).getD 0+t.2)
  rw [List.length_cons]
  show(gat (zdH acc t.1 ((look acc t.1).getD 0+t.2)) ts).length<=_
  omega
theorem zjx(acc ts:Pq α)(t:List Int×α):gat acc (ts++[t])=zdH (gat acc ts) t.1 ((look (gat acc ts) t.1).getD 0+t.2):=by
 unfold gat
 rw [List.foldl_append]
 rfl
theorem zjy{Pk:List Int->Prop}(ts:Pq α):∀ {acc:Pq α},(∀ t∈acc,Pk t.1)->(∀ t∈ts,Pk t.1)->∀ t∈gat acc ts,Pk t.1:=by
 induction ts with
 | nil=>exact fun h _=>h
 | cons t ts ih =>
  intro acc h1 h2
  refine ih (acc:=zdH acc t.1 _) (fun u hu=>?_) fun u hu=>h2 u (List.mem_cons_of_mem _ hu)
  rcases zls hu with ⟨z,_⟩ | rfl
  ·exact h1 u z
  ·exact h2 t List.mem_cons_self
end
theorem zof{α:Type}{p:Pq α}{k:List Int}{x:α}(h:look p k=some x):(k,x)∈p:=by
 unfold look at h
 obtain⟨t,ht,rfl⟩:=Option.map_eq_some_iff.mp h
 have h1:=List.mem_of_find?_eq_some ht
 have h2:t.1=k:=by simpa using List.find?_some ht
 rw [<-h2]
 exact h1
theorem zdI{α:Type}{p:Pq α}(nd:NdK p){t:List Int×α}(h:t∈p):look p t.1=some t.2:=by
 induction p with
 | nil=>cases h
 | cons u p ih =>
  have nd':u.1∉p.map (·.1)/\NdK p:=List.nodup_cons.mp nd
  unfold look at ih ⊢
  rw [List.find?_cons]
  rcases List.mem_cons.mp h with rfl | h
  ·rw [decide_eq_true rfl]; rfl
  ·rw [decide_eq_false (fun e=>nd'.1 (List.mem_map.mpr ⟨t,h,e.symm⟩))]
   exact ih nd'.2 h
def ltP{α:Type}(a b:List Int×α):Prop:=znb a.1 b.1=true
def ins{α:Type}(x:List Int×α):Pq α->Pq α
 | []=>[x]
 | y::l=>if znb x.1 y.1=true then x::y::l else y::ins x l
theorem lt_ne{α:Type}{a b:List Int×α}(h:ltP a b):a.1≠b.1:=fun e=>by
 unfold ltP at h
 rw [e,zk0]at h
 cases h
def nz(p:Pq Rat):Pq Rat:=p.filter fun t=>decide (t.2≠0)
theorem zr1{p:Pq Rat}(h:NdK p):NdK (nz p):=h.sublist (List.filter_sublist.map _)
theorem nd0:NdK ([]:Pq Rat):=List.nodup_nil
def PB(M B:Nat)(p:Pq Rat):Prop:=∀ t∈p,Bd M B t.2
theorem zim{M B:Nat}{p:Pq Rat}(h:PB M B p)(k:List Int):Bd M B ((look p k).getD 0):=by
 cases e:look p k with
 | none=>exact Bd.zero
 | some x=>exact h _ (zof e)
theorem zin{M B:Nat}(ts:Pq Rat):∀ {C:Nat} {acc:Pq Rat},PB M C acc->PB M B ts->PB M (C+ts.length * B) (gat acc ts):=by
 induction ts with
 | nil=>intro C acc h _ t ht; exact(h t ht).le (by rw [List.length_nil]; omega)
 | cons t ts ih =>
  intro C acc h h' u hu
  have hp:PB M (C+B) (zdH acc t.1 ((look acc t.1).getD 0+t.2)):=fun v hv=>by
   rcases zls hv with ⟨z,_⟩ | rfl
   ·exact(h v z).le (by omega)
   ·exact(zim h _).add (h' t List.mem_cons_self)
  exact(ih hp (fun v hv=>h' v (List.mem_cons_of_mem _ hv)) u hu).le (by rw [List.length_cons,Nat.add_mul]; omega)
theorem pb0{M B:Nat}:PB M B []:=fun t ht=>by cases ht
def zdc(a b:List Int):List Int:=List.zipWith (·+·) a b
def zdd{α:Type}[Mul α](p q:Pq α):Pq α:=p.flatMap fun s=>q.map fun t=>(zdc s.1 t.1,s.2 * t.2)
theorem zgE{α:Type}[Mul α](p q:Pq α):(zdd p q).length=p.length * q.length:=by
 induction p with
 | nil=>simp [zdd]
 | cons s p ih =>
  show(_++zdd p q).length=_
  rw [List.length_append,ih,List.length_map,List.length_cons,Nat.add_mul,Nat.one_mul,Nat.add_comm]
theorem zio{α:Type}[Mul α]{p q:Pq α}{t:List Int×α}(h:t∈zdd p q):∃ u∈p,∃ v∈q,t=(zdc u.1 v.1,u.2 * v.2):=by
 obtain⟨u,hu,h⟩:=List.mem_flatMap.mp h
 obtain⟨v,hv,rfl⟩:=List.mem_map.mp h
 exact⟨u,hu,v,hv,rfl⟩
theorem zq6{M N B C:Nat}{p q:Pq Rat}(h:PB M B p)(h':PB N C q):PB (M * N) (B * C) (zdd p q):=fun t ht=>by
 obtain⟨u,hu,v,hv,rfl⟩:=zio ht
 exact(h u hu).mul (h' v hv)
def iv(m:Nat)(r:Rat):Int:=r.num * ((m:Int) / (r.den:Int))
def pwD(ks:List Int):D:=.tuple (ks.map PyData.int)
abbrev kL(ks:List Int):List Key:=ks.map Sum.inl
section
variable {α:Type} {c:α->D}
def kvG(c:α->D)(p:Pq α):List (List Key×D):=p.map fun t=>(kL t.1,c t.2)
def dcG(c:α->D)(p:Pq α):List (D×D):=p.map fun t=>(pwD t.1,c t.2)
theorem zfn{a b:List Int}:kL a=kL b↔a=b:=zpI
theorem zog(k:List Int):kTD (kL k)=pwD k:=by
 unfold kTD pwD kL
 rw [List.map_map]
 rfl
theorem zds(k:List Int):zbL (pwD k)=some (kL k):=by rw [<-zog,zeW]
theorem zoh(p:Pq α):(kvG c p).map (fun p=>(kTD p.1,p.2))=dcG c p:=by
 unfold kvG dcG
 rw [List.map_map]
 refine List.map_congr_left fun t _=>?_
 show(kTD (kL t.1),c t.2)=_
 rw [zog]
theorem zdJ{p:Pq α}:U.fz (.t (kvG c p))=some (.dict (dcG c p)):=by
 show some (PyData.dict _)=_
 rw [zoh]
theorem zkt(p:Pq α):noX (dcG c p)=true:=by
 cases p with
 | nil=>rfl
 | cons t p=>rfl
theorem zq7(p:Pq α)(k:List Int):zkg (kvG c p) (kL k)=(look p k).map c:=by
 unfold zkg kvG look
 induction p with
 | nil=>rfl
 | cons t p ih =>
  rw [List.map_cons,List.find?_cons,List.find?_cons]
  by_cases h:t.1=k
  ·rw [decide_eq_true h,decide_eq_true (zfn.mpr h)]; rfl
  ·rw [decide_eq_false h,decide_eq_false (fun z=>h (zfn.mp z))]; exact ih
theorem zoi(p:Pq α)(k:List Int):zhA (dcG c p) (kL k)=(look p k).map c:=by
 unfold zhA dcG look
 induction p with
 | nil=>rfl
 | cons t p ih =>
  rw [List.map_cons,List.find?_cons,List.find?_cons]
  by_cases h:t.1=k
  ·rw [decide_eq_true h,decide_eq_true (show zbL (pwD t.1)=some (kL k) by rw [zds,h])]; rfl
  ·rw [decide_eq_false h,decide_eq_false (show ¬zbL (pwD t.1)=some (kL k) by rw [zds]; exact fun z=>h (zfn.mp (Option.some.inj z)))]; exact ih
theorem zq8{p:Pq α}{k:List Int}:zg3 (.t (kvG c p)) (.d (pwD k))=some ((look p k).map c):=by
 show(zbL (pwD k)).map _=_
 rw [zds,Option.map_some,zq7]
theorem zq9{p:Pq α}{k:List Int}:zg3 (.d (.dict (dcG c p))) (.d (pwD k))=some ((look p k).map c):=by
 show(if noX (dcG c p)=true then _ else _)=_
 rw [if_pos (zkt p)]
 show(zbL (pwD k)).map _=_
 rw [zds,Option.map_some,zoi]
theorem zuR{p:Pq α}:noX (dcG c p)=true:=zkt p
theorem zuS{p:Pq α}:(dcG c p).map (fun x=>x.1)=p.map fun t=>pwD t.1:=by
 unfold dcG
 rw [List.map_map]
 rfl
theorem zoj{k:List Int}:zbL (pwD k)=some (kL k):=zds k
theorem zuT(p:Pq α)(k:List Int)(x:α):zg2 (kvG c p) (kL k) (c x)=kvG c (zdH p k x):=by
 have any:((kvG c p).any fun kv=>decide (kv.1=kL k))=(p.any fun t=>decide (t.1=k)):=by
  unfold kvG
  rw [List.any_map]
  congr 1
  funext t
  exact decide_eq_decide.mpr zfn
 unfold zg2 zdH
 rw [any]
 split
 ·unfold kvG
  rw [List.map_map,List.map_map]
  refine List.map_congr_left fun t _=>?_
  show(if kL t.1=kL k then _ else _)=(fun t:List Int×α=>(kL t.1,c t.2)) (if t.1=k then(t.1,x)else t)
  by_cases h:t.1=k
  ·rw [if_pos (zfn.mpr h),if_pos h]
  ·rw [if_neg (fun z=>h (zfn.mp z)),if_neg h]
 ·unfold kvG
  rw [List.map_append]
  rfl
theorem zuU(p:Pq α):(kvG c p).length=p.length:=List.length_map ..
theorem zra{p:Pq α}{k:List Int}{x:α}(h:p.length < 16777216):znU (.t (kvG c p)) (pwD k) (c x)=some (.t (kvG c (zdH p k x))):=by
 show(zbL (pwD k)).bind _=_
 rw [zds,bd,if_pos (by rw [zuU]; exact h),zuT]
theorem zok(p:Pq α):(kvG c p).map (·.1)=(p.map (·.1)).map kL:=by
 unfold kvG
 rw [List.map_map,List.map_map]
 rfl
def zlt(p:Pq α):Prop:=zeE ((p.map (·.1)).map kL)=true
theorem zxg{p:Pq α}(h:zlt p):ze3 (.t (kvG c p))=some (.t (kvG c p)):=by
 show(if _ then _ else _)=_
 rw [if_pos (by rw [zok]; exact h)]
end
theorem zxh{r:Rat}:zJ (.d (fR r)) (.d (.int 0))=some (.d (.int r.num)):=rfl
theorem zxi{r:Rat}:zJ (.d (fR r)) (.d (.int 1))=some (.d (.int (r.den:Int))):=rfl
theorem zol(r:Rat):(!decide (r.num=0))=decide (r≠0):=by
 rw [Bool.eq_iff_iff,Bool.not_eq_true',decide_eq_false_iff_not,decide_eq_true_iff]
 exact not_congr Rat.num_eq_zero
theorem zjz{α β:Type}{f:α->D}{g:β->D}:∀ (as:List α) (bs:List β),zkq (as.map f) (bs.map g)=(as.zip bs).map fun t=>.tuple [f t.1,g t.2]
 | [],bs=>by cases bs<;>rfl
 | a::as,[]=>rfl
 | a::as,b::bs=>by rw [List.map_cons,List.map_cons,List.zip_cons_cons,List.map_cons,<-zjz as bs]; rfl
theorem zlu{α:Type}{f:α->D}{as:List α}{ks:List Int}(h:as.length=ks.length):zoa [.d (.tuple (as.map f)),.d (pwD ks)]=some ((as.zip ks).map fun t=>.tuple [f t.1,.int t.2]):=by
 show(if _ then _ else _)=_
 rw [if_pos (by rw [List.length_map,List.length_map]; exact h),zjz]
theorem zjA{as ks:List Int}(h:as.length=ks.length):zoa [.d (pwD as),.d (pwD ks)]=some ((as.zip ks).map fun t=>.tuple [.int t.1,.int t.2]):=zlu (f:=PyData.int) h
theorem zuV{α:Type}{g:α->D}{nt:Nat}{e:α->D}{as:List α}{mg:MG}{mt:MT}{me:ME}{ρ:En}{Q:List D×En->Prop}(hz:as.length<=16777216)
  (st:∀ a∈as,∀ ys,Wo (mg (g a) ρ) (Co mt ⟨0⟩ (kLC nt me ys fun ρ' zs=>ρ'=ρ/\zs=ys++[e a]))) (q:Q (as.map e,ρ)):Wo (lcM nt mg mt me (as.map g) ρ []) Q:=by
 refine zuP (b:=fun _=>true) (e:=e) (by rw [zig]; exact hz) (fun a ha ys=>?_) ?_
 ·simp only [if_true]
  exact st a ha ys
 ·rw [show as.filter (fun _=>true)=as from List.filter_eq_self.mpr fun _ _=>rfl]
  exact q
theorem zhH(r:Rat):SeqAt.shaped (fR r)=true:=by
 unfold SeqAt.shaped fR
 simp [PyData.canLay0,PyData.canLayAll0,PyData.depth,PyData.depthAll]
theorem zuW(a b:Rat):PyData.eqv (fR a) (fR b)=decide (a=b):=by
 unfold fR
 simp only [PyData.eqv,PyData.eqvAll]
 rw [Bool.eq_iff_iff,decide_eq_true_iff]
 constructor
 ·intro h
  simp only [Bool.and_eq_true,beq_iff_eq]at h
  exact Rat.ext h.1 (by omega)
 ·rintro rfl
  simp
theorem zom{a b:Rat}{neg:Bool}:zv3 neg (.d (fR a)) (.d (fR b))=some (.d (.bool (if neg=true then !decide (a=b)else decide (a=b)))):=by
 show(some (fR a)).bind _=_
 rw [bd]
 show(some (fR b)).bind _=_
 rw [bd,if_pos ⟨zhH a,zhH b⟩,zuW]
theorem zuX:PyData.tuple [.int 1,.int 1]=fR 1:=rfl
theorem zuY{n:Nat}{r:Rat}(h1:r.num.natAbs < 10^n)(h2:r.den < 10^n)(h0:0 < n:=by decide)(h3:n<=470:=by decide):Nic 1 (2 * (n+1+2)+3) (fR r):=by
 refine zlm (fun d hd=>?_) (Nat.le_refl _)
 rcases List.mem_cons.mp hd with rfl | hd
 ·exact zii h1 h0 h3
 ·rw [List.mem_singleton.mp hd]
  exact zii (by rw [Int.natAbs_natCast]; exact h2) h0 h3
theorem zuZ{o:Option Rat}:(Option.map fR o).getD (.tuple [.int 0,.int 1])=fR (o.getD 0):=by cases o<;>rfl
theorem zmr{α:Type}[Mul α](p q:Pq α)(s:List Int×α):zdd (p++[s]) q=zdd p q++q.map fun t=>(zdc s.1 t.1,s.2 * t.2):=by
 unfold zdd
 rw [List.flatMap_append]
 simp
def psg(s:Int)(q:Pq Rat):Pq Rat:=q.map fun t=>(t.1,(s:Rat) * t.2)
theorem zu0{s:Int}(hs:s=1\/s=-1)(r:Rat):PyData.tuple [.int (s * r.num),.int (r.den:Int)]=fR ((s:Rat) * r):=by
 rcases hs with rfl | rfl
 ·rw [Int.one_mul,show((1:Int):Rat)=1 from rfl,Rat.one_mul]; rfl
 ·rw [show((-1:Int):Rat)=-1 from rfl,Rat.neg_mul,Rat.one_mul,Int.neg_mul,Int.one_mul]; rfl
theorem zku{M B:Nat}{s:Int}(hs:s=1\/s=-1){q:Pq Rat}(h:PB M B q):PB M B (psg s q):=fun t ht=>by
 obtain⟨u,hu,rfl⟩:=List.mem_map.mp ht
 rcases hs with rfl | rfl
 ·show Bd M B (((1:Int):Rat) * u.2)
  rw [show((1:Int):Rat)=1 from rfl,Rat.one_mul]
  exact h u hu
 ·show Bd M B (((-1:Int):Rat) * u.2)
  rw [show((-1:Int):Rat)=-1 from rfl,Rat.neg_mul,Rat.one_mul]
  exact(h u hu).neg
theorem zms{α:Type}{p:Pq α}{k:List Int}{x:α}(h:∀ t∈p,t.1≠k):zdH p k x=p++[(k,x)]:=by
 unfold zdH
 rw [if_neg]
 intro z
 obtain⟨t,ht,e⟩:=List.any_eq_true.mp z
 exact h t ht (of_decide_eq_true e)
theorem zon{α:Type}{bs cs:Pq α}{t:List Int×α}(nd:NdK (bs++t::cs)):∀ u∈bs,u.1≠t.1:=fun u hu e=>by
 unfold NdK at nd
 rw [List.map_append,List.map_cons]at nd
 exact(List.nodup_append.mp nd).2.2 u.1 (List.mem_map.mpr ⟨u,hu,rfl⟩) t.1 List.mem_cons_self e
theorem zlv(bs:Pq Rat)(t:List Int×Rat):nz (bs++[t])=if t.2=0 then nz bs else nz bs++[t]:=by
 unfold nz
 rw [List.filter_append,List.filter_cons]
 by_cases h:t.2=0
 ·rw [if_pos h,if_neg (by simp [h])]; simp
 ·rw [if_neg h,if_pos (by simp [h])]; rfl
theorem zoo{bs cs:Pq Rat}{t:List Int×Rat}(nd:NdK (bs++t::cs)):zdH (nz bs) t.1 t.2=nz bs++[t]:=zms fun u hu=>zon nd u (List.mem_filter.mp hu).1
theorem ziq{α β:Type}{f:α->β}:∀ {l:List α},(l.map f).Nodup->∀ a∈l,∀ b∈l,f a=f b->a=b
 | [],_,a,ha,_,_,_=>by cases ha
 | x::l,nd,a,ha,b,hb,e=>by
  rw [List.map_cons,List.nodup_cons]at nd
  rcases List.mem_cons.mp ha with h1 | h1
  ·rcases List.mem_cons.mp hb with h2 | h2
   ·rw [h1,h2]
   ·exact(nd.1 (List.mem_map.mpr ⟨b,h2,by rw [<-e,h1]⟩)).elim
  ·rcases List.mem_cons.mp hb with h2 | h2
   ·exact(nd.1 (List.mem_map.mpr ⟨a,h1,by rw [e,h2]⟩)).elim
   ·exact ziq nd.2 a h1 b h2 e
theorem zop{n d:Int}{M:Nat}(hd:0 < d)(h:d∣(M:Int))(h0:0 < M):Bd M (n.natAbs * M) (Rat.divInt n d):=by
 obtain⟨c,hc⟩:=h
 have c0:0 < c:=by
  rcases(by omega:0 < c\/c<=0)with z | z
  ·exact z
  ·have:=Int.mul_nonneg (Int.le_of_lt hd) (show 0<=-c by omega)
   rw [Int.mul_neg,<-hc]at this
   omega
 have dr:((d:Int):Rat)≠0:=fun z=>by
  have:=Rat.intCast_inj.mp (show((d:Int):Rat)=((0:Int):Rat) from z)
  omega
 refine⟨n * c,?_,?_⟩
 ·have e:(M:Rat)=((d:Int):Rat) * ((c:Int):Rat):=by rw [<-Rat.intCast_mul,<-hc,Rat.intCast_natCast]
  rw [e,Rat.divInt_eq_div,Rat.intCast_mul]
  grind
 ·rw [Int.natAbs_mul]
  refine Nat.mul_le_mul_left _ ?_
  have:1 * c<=d * c:=Int.mul_le_mul_of_nonneg_right (by omega) (by omega)
  omega
end L2
namespace L2
open PySem PySem.Spec PyProof.Rows
open PySem.AutoSeq1 (wpAny_loadPart')
theorem zkv(t:Addr)(items:Array Value)(n:Nat)(dd:Option Addr)(sl:Array (Option Value))(u:Tok) :
  Meets (Builtin.«tuple.__mul__» ⟨[.ref t,.int 1 u],[]⟩) (fun _ R s=>s.heap.get? t=some { cls:=.type "tuple",dict:=dd,data:=.seq items n,slots:=sl }/\R (.ok (.ret (.ref t))) s) :=
 .of_wp fun prog w A R s h=>by
  obtain⟨hp,g,d,tk,os⟩:=s
  obtain⟨hl,h⟩:=h
  wp_walk using wpAny_loadPart' hl
  exact⟨_,rfl,h⟩
theorem zkw(t:Addr)(items:Array Value)(n:Nat)(dd:Option Addr)(sl:Array (Option Value))(x:Int)(u:Tok)(hf:(decide (x < -2^63) || decide (x>=2^63))=false)(h1:(items.isEmpty || x==1)=false)(h0:(decide (x<=0) || items.isEmpty)=true) :
  Meets (Builtin.«tuple.__mul__» ⟨[.ref t,.int x u],[]⟩) (fun _ R s=>s.heap.get? t=some { cls:=.type "tuple",dict:=dd,data:=.seq items n,slots:=sl } /\
   R (.ok (.ret (.ref s.heap.objs.size))) { s with heap:=s.heap.push { cls:=.type "tuple",data:=.seq #[] } }) :=
 .of_wp fun prog w A R s h=>by
  obtain⟨hp,g,d,tk,os⟩:=s
  obtain⟨hl,h⟩:=h
  wp_walk using wpAny_loadPart' hl
  refine wpAny_ite_false (by rw [hf]; rfl) ?_
  wp_walk using wpAny_loadPart' hl
  exact⟨_,rfl,h⟩
theorem zkx(t:Addr)(items:Array Value)(n:Nat)(dd:Option Addr)(sl:Array (Option Value))(x:Int)(u:Tok)(hf:(decide (x < -2^63) || decide (x>=2^63))=false)(h1:(items.isEmpty || x==1)=false)(h0:(decide (x<=0) || items.isEmpty)=false)
  (hm:¬((items.size:Int) * x > (2^63 - 1) / 8)) (ht:Builtin.Tuple.tupleTooMany ((items.size:Int) * x)=false) (hz:(List.foldl (fun x1 x2=>x1++x2) #[] (List.replicate x.toNat items)).size<=sizeLine) :
  Meets (Builtin.«tuple.__mul__» ⟨[.ref t,.int x u],[]⟩) (fun _ R s=>s.heap.get? t=some { cls:=.type "tuple",dict:=dd,data:=.seq items n,slots:=sl } /\
   R (.ok (.ret (.ref s.heap.objs.size))) { s with heap:=s.heap.push { cls:=.type "tuple",data:=.seq (List.foldl (fun x1 x2=>x1++x2) #[] (List.replicate x.toNat items)) } }) :=
 .of_wp fun prog w A R s h=>by
  obtain⟨hp,g,d,tk,os⟩:=s
  obtain⟨hl,h⟩:=h
  wp_walk using wpAny_loadPart' hl
  refine wpAny_ite_false (by rw [hf]; rfl) ?_
  wp_walk using wpAny_loadPart' hl
  refine wpAny_ite_false (decide_eq_false hm) ?_
  wp_walk using wpAny_loadPart' hl
  exact⟨_,rfl,h⟩
theorem zfo:fillsNumberSlot (.type "tuple") "mul"=pure false :=
 PySem.fillsNumberSlot_seq (id := "tuple.__mul__") (r:=some (.builtin "tuple.__rmul__")) F.slot_tuple_mul.lookup (by decide +kernel) F.slot_tuple_rmul.lookup (by decide +kernel)
theorem zir:seqRepeat? (.type "tuple")=pure (some (.builtin "tuple.__mul__")):=by
 unfold seqRepeat?
 rw [PySem.seqSlot_of (T := "tuple") (name := "__mul__") (id := "tuple.__mul__") F.slot_tuple_mul.lookup (by decide +kernel),PySem.seqSlot_of (T := "tuple") (name := "__rmul__") (id := "tuple.__rmul__") F.slot_tuple_rmul.lookup (by decide +kernel)]
 rfl
theorem zgF(a:Int)(t:Tok)(l:Addr)(items:Array Value)(n:Nat)(dd:Option Addr)(sl:Array (Option Value)) :
  Meets (Builtin.«int.__rmul__» ⟨[.int a t,.ref l],[]⟩) (fun _ R s=>s.heap.get? l=some { cls:=.type "tuple",dict:=dd,data:=.seq items n,slots:=sl }/\R (.ok (.ret Value.notImplemented)) s) :=
 .of_wp fun prog w A R s h=>by obtain⟨hp,g,d,tk,os⟩:=s; obtain⟨hl,h⟩:=h; wp_walk; exact⟨_,rfl,h⟩
section
variable {X:Cx}
def zr2(K:PySem.W.Frag):R2:=fun x y H Q=>∃ l k xs,x=.ref l/\y=.int k/\SqT K H l xs/\xs≠[]/\k < 1000000/\-1000000 < k/\xs.length * k.toNat<=1000000 /\
 ((k=1/\Q x H)\/(k≠1/\∀ p,H p=none->Q (.ref p) (upd H p (.tup (List.replicate k.toNat xs).flatten))))
theorem zf0(K:PySem.W.Frag)(hK:X.K=K):OpR X (binaryOp .Mult) (zr2 K):=by
 subst hK
 intro pins s σ H x y v u Q I rx ry h
 obtain⟨l,k,xs,rfl,rfl,hq,hne,hk,hk0,hz,q⟩:=h
 cases rx
 obtain⟨t,rfl⟩:=ry
 obtain⟨its,rv,ht,hzz⟩:=I.tuple hq
 obtain⟨⟨c,dct,dt,sl⟩,hl,hc,n,hd⟩:=ht
 replace hc:c=.type "tuple":=hc
 replace hd:dt=.seq its.toArray n:=hd
 subst hc hd
 have lv:=rv.length
 have ine:its.toArray.isEmpty=false:=by
  cases its with
  | nil=>cases rv; exact absurd rfl hne
  | cons a r=>rfl
 have hf:(decide (k < -2^63) || decide (k>=2^63))=false:=by
  rw [Bool.or_eq_false_iff]
  exact⟨decide_eq_false (by omega),decide_eq_false (by omega)⟩
 have f0:List.foldl (fun x1 x2=>x1++x2) #[] (List.replicate k.toNat its.toArray)=(List.replicate k.toNat its).flatten.toArray:=by
  have:=zhn its k.toNat []
  rw [List.nil_append]at this
  exact this
 have ln:(List.replicate k.toNat xs).flatten.length<=sizeLine:=by
  rw [zkS,Nat.mul_comm]
  have:sizeLine=16777216:=zig
  omega
 refine wpAny_binaryOp_repeat_ref (T := "tuple") (U := "int") (by decide) ⟨_,hl,rfl⟩ (fun s'=>typeIs_int s' k t) zfo F.fills_int_mul F.slot_int_rmul zir F.slot_int_index.lookup
  (call_meets F.slot_int_rmul (typeIs_int s k t) F.entry_int_rmul (F.args_int_rmul_2 _ _) (zgF k t l its.toArray n dct sl) ⟨hl,rfl,⟨_,hl,rfl⟩,?_⟩)
 rcases q with ⟨rfl,q⟩ | ⟨k1,q⟩
 ·exact call_meets F.slot_tuple_mul ⟨_,hl,rfl⟩ F.entry_tuple_mul (F.args_tuple_mul_2 _ _) (zkv l its.toArray n dct sl t) ⟨hl,.ref l,H,I,rfl,q⟩
 ·have h1:(its.toArray.isEmpty || k==1)=false:=by rw [ine,Bool.false_or]; simpa using k1
  by_cases k0:k<=0
  ·refine call_meets F.slot_tuple_mul ⟨_,hl,rfl⟩ F.entry_tuple_mul (F.args_tuple_mul_2 _ _) (zkw l its.toArray n dct sl k t hf h1 (by rw [decide_eq_true k0]; rfl)) ⟨hl,.ref _,_,I.laid (t':=s.toks) (o:=.tup []) (fun _ _ q=>Heap.get?_push_of_some _ q) (Nat.le_refl _) ⟨Nat.zero_le _,[],.nil,_,Heap.get?_push_size _ rfl,rfl,_,rfl⟩,rfl,?_⟩
   have:=q _ I.fresh
   rw [show k.toNat=0 by omega]at this
   exact this
  ·have m63:(its.toArray.size:Int) * k<=1000000:=by
    have e1:(its.toArray.size:Int)=(xs.length:Int):=by rw [List.size_toArray,lv]
    have e2:k=(k.toNat:Int):=by omega
    rw [e1,e2,<-Int.natCast_mul]
    omega
   refine call_meets F.slot_tuple_mul ⟨_,hl,rfl⟩ F.entry_tuple_mul (F.args_tuple_mul_2 _ _) (zkx l its.toArray n dct sl k t hf h1 (by rw [decide_eq_false k0,ine]; rfl) (by omega) (decide_eq_false (by rw [show((sizeLine:Nat):Int)=16777216 by rw [zig]; rfl]; omega)) ?_) ⟨hl,.ref _,_,I.laid (t':=s.toks) (o:=.tup (List.replicate k.toNat xs).flatten) (fun _ _ q=>Heap.get?_push_of_some _ q) (Nat.le_refl _) ⟨ln,(List.replicate k.toNat its).flatten,rv.rep k.toNat,_,Heap.get?_push_size _ rfl,rfl,0,?_⟩,rfl,q _ I.fresh⟩
   ·rw [f0,List.size_toArray,zkS,Nat.mul_comm]
    have:sizeLine=16777216:=zig
    rw [<-lv]
    omega
   ·show Data.seq (List.foldl (fun x1 x2=>x1++x2) #[] (List.replicate k.toNat its.toArray)) _=_
    rw [f0]
end
noncomputable def ze5:U->U->Option U
 | .d (.tuple xs),.d (.int k)=>if xs≠[]/\k < 1000000/\-1000000 < k/\xs.length * k.toNat<=1000000 then some (.d (.tuple (List.replicate k.toNat xs).flatten))else none
 | _,_=>none
theorem zlw{K:PySem.W.Frag}{H:Hp}{vs:List V}{ds:List D}(h:DFs K H vs ds):∀ n:Nat,DFs K H (List.replicate n vs).flatten (List.replicate n ds).flatten
 | 0=>.nil
 | n+1=>by
  rw [List.replicate_succ,List.replicate_succ,List.flatten_cons,List.flatten_cons]
  exact h.app (zlw h n)
theorem zf1{K:PySem.W.Frag}:VO K (zr2 K) ze5:=by
 intro x y a b u H Q ha hb e q
 unfold ze5 at e
 split at e
 ·split at e
  rotate_left
  ·cases e
  rename_i xs k hc
  cases e
  obtain⟨l,vs,rfl,h1,h2⟩:=DF.tup_inv ha
  cases DF.int_inv hb
  have ln:=h2.len
  refine⟨l,k,vs,rfl,rfl,SqT.of h1,fun z=>hc.1 (List.eq_nil_of_length_eq_zero (by rw [<-ln,z]; rfl)),hc.2.1,hc.2.2.1,by rw [ln]; exact hc.2.2.2,?_⟩
  by_cases k1:k=1
  ·subst k1
   refine .inl ⟨rfl,q _ _ (fun _ _ z=>z) ?_ Nw.data⟩
   have e:(List.replicate (1:Int).toNat xs).flatten=xs:=by simp
   rw [e]
   exact DF.tup h1 h2
  ·refine .inr ⟨k1,fun p hp=>?_⟩
   have sm:=zaJ hp (.tup (List.replicate k.toNat vs).flatten)
   exact q _ _ sm (.tup zG ((zlw h2 _).kp sm.kp)) Nw.data
 ·cases e
theorem zlx{xs:List D}{k:Int}(h:0 < xs.length)(h2:k < 1000)(h3:-1000 < k)(h4:xs.length < 1000):ze5 (.d (.tuple xs)) (.d (.int k))=some (.d (.tuple (List.replicate k.toNat xs).flatten)):=by
 show(if _ then _ else _)=_
 rw [if_pos ⟨fun z=>by rw [z]at h; exact Nat.lt_irrefl _ h,by omega,by omega,Nat.le_trans (Nat.mul_le_mul (Nat.le_of_lt h4) (show k.toNat<=1000 by omega)) (by decide)⟩]
end L2
namespace L2
open PySem PySem.Spec PyProof.Rows
def zky(tk tv:TE):TE:=fun σ H Q=>∀ p,H p=none->tk σ (upd H p (.dT [])) fun x H1=>tv σ H1 fun y H2=>H2 p=some (.dT [])/\∃ k b,x=.ref b/\H2 b=some (.tup (k.map kV))/\Q (.ref p) (upd H2 p (.dT [(k,y)]))
theorem zoq{X:Cx}{pos:Pos}{k v:Expr}{tk tv:TE}(hu:X.A.units+1 < cLine)(hk:PE X k tk)(hv:PE X v tv):PE X (.Dict [some k] [v] pos) (zky tk tv):=by
 intro pins s σ H Q I q
 have hn:=I.hok.fresh (Nat.le_refl s.heap.objs.size)
 have I1:=I.laid (a:=s.heap.objs.size) (o:=.dT []) (h':=s.heap.push { cls:=.type "dict",data:=.dict #[] }) (t':=s.toks) (fun _ _ q=>Heap.get?_push_of_some _ q) (Nat.le_refl _) (ziT s.heap I.big)
 refine wpAny_Dict_any rfl rfl (by simp) (by show 1<=15; decide) (pairTrees_cons_walk (thn (hk pins _ σ _ _ I1 (q _ hn)) fun u s1 ⟨x,H1,I1,rx,q1⟩=>thn (hv pins s1 σ H1 _ I1 q1) fun w2 s2 ⟨y,H2,I2,ry,e,ks,b,ex,eb,q2⟩=>pairTrees_nil_walk ?_))
 subst ex
 cases rx
 unfold storeAll
 rw [List.forIn_cons]
 obtain⟨z,hd,xs,rel,dd⟩:=zrJ I2.hok e
 cases rel
 refine wpAny_bind (wpAny_bind (wpAny_dictSet_heap (hsz:=Nat.zero_le _) (show X.A.units < cLine from Nat.lt_of_succ_lt hu) (zff I2.hok eb) dd fun h' dd' hs=>wpAny_pure ?_))
 dsimp only
 rw [List.forIn_nil]
 refine wpAny_pure ?_
 obtain⟨q',es,ep,hq,h2,h3,h4,_,h5⟩:=dd'
 refine⟨.ref s.heap.objs.size,_,zhS (ob:=.dT [(ks,y)]) I2 (by rw [e]; exact True.intro) hs ⟨q',hq⟩ ⟨by show 1<=sizeLine; decide,hd,_,(KT.put (kvs:=[]) .nil ks eb ry).keeps fun c ys ec=>?_,q',es,ep,hq,h2,h3,h4,h5⟩,rfl,q2⟩
 rw [zD (zhg ec e (fun z=>nomatch z))]
 exact ec
theorem zis{X:Cx}{pos:Pos}{k v:Expr}{tk tv:TE}{n:Nat}(hr:Room n X.A)(hk:Wr (PE X k tk))(hv:Wr (PE X v tv)):Wr (PE X (.Dict [some k] [v] pos) (zky tk tv)):=⟨zoq (zkU hr) hk.run hv.run⟩
section
variable {K:PySem.W.Frag} {ρ ρ1 ρ':En} {σ:St} {H H':Hp}
theorem Rs.free{p:Addr}{c o:HO}(r:Rs K ρ σ H)(hc:H p=some c)(m:Mo c)(n:¬Ow ρ σ p):Rs K ρ σ (upd H p o):=by
 have kp:=zc7 hc m o
 refine⟨r.len,fun i u e=>?_,r.apart⟩
 obtain⟨v,ev,q⟩:=r.rep i u e
 refine⟨v,ev,q.kp kp fun ou a c' ea ha=>?_⟩
 have ne:a≠p:=by
  rintro rfl
  exact n ⟨i,u,e,ou,by rw [ev,ea]⟩
 rw [zD ne]
 exact ha
theorem Go.free{p:Addr}{c o:HO}(g:Go K ρ σ H ρ' H')(hp:H p=none)(hc:H' p=some c)(m:Mo c)(n:¬Ow ρ' σ p):Go K ρ σ H ρ' (upd H' p o):=by
 refine⟨g.rs.free hc m n,fun a ob ha hn=>?_,g.shr,fun a ha=>?_⟩
 ·have ne:a≠p:=by
   rintro rfl
   rw [hp]at ha
   cases ha
  rw [zD ne]
  exact g.fr a ob ha hn
 ·by_cases e:a=p
  ·subst e
   exact hp
  ·rw [zD e]at ha
   exact g.dm a ha
def zfp(mk mv:ME):ME:=fun ρ=>(mk ρ).bind fun p=>(mv p.2).bind fun q=>(p.1.get q.2).bind fun k=>(q.1.get q.2).bind fun v=>k.da.bind fun k=>v.da.bind fun v=>(zbL k).bind fun k=>some (.u (.t [(k,v)]),q.2)
theorem zly{w:U}{x:D}(h:w.da=some x):w=.d x:=by
 cases w<;>first | (cases h; rfl) | cases h
theorem zit{tk tv:TE}{mk mv:ME}(hk:VE K tk mk)(hv:VE K tv mv):VE K (zky tk tv) (zfp mk mv):=by
 intro ρ σ H a ρ' Q r e q
 obtain⟨⟨a1,ρ1⟩,e1,e⟩:=bind_some e
 obtain⟨⟨b1,ρ2⟩,e2,e⟩:=bind_some e
 obtain⟨uk,ek,e⟩:=bind_some e
 obtain⟨uv,ev,e⟩:=bind_some e
 obtain⟨dk,edk,e⟩:=bind_some e
 obtain⟨dv,edv,e⟩:=bind_some e
 obtain⟨ks,eks,e⟩:=bind_some e
 cases e
 cases zly edk
 cases zly edv
 intro p hp
 have sm:=zaJ hp (.dT [])
 have g0:=Go.grow r sm
 have n0:¬Ow ρ σ p:=fun z=>by
  obtain⟨c,hc,_⟩:=r.ow z
  rw [hp]at hc
  cases hc
 refine hk ρ σ (upd H p (.dT [])) a1 ρ1 _ g0.rs e1 fun x H1 g1 k1=>hv ρ1 σ H1 b1 _ _ g1.rs e2 fun y H2 g2 k2=>?_
 have n1:¬Ow ρ1 σ p:=fun z=>n0 (g1.shr.ow z)
 have n2:¬Ow ρ2 σ p:=fun z=>n1 (g2.shr.ow z)
 have hp2:H2 p=some (.dT []):=g2.fr p _ (g1.fr p _ zG n0) n1
 have pk:=k1.later g0.rs g1 g2 ek
 have pv:=k2.now g1.rs g2 ev
 obtain⟨b,rfl,hb⟩:=zfT pk eks
 have kp:=zc7 hp2 trivial (.dT [(ks,y)])
 refine⟨hp2,ks,b,rfl,hb,q _ _ (((g0.trans g1).trans g2).free hp hp2 trivial n2) ⟨⟨p,[(ks,y)],rfl,zG,.cons ⟨rfl,DF.kp kp pv⟩ .nil⟩,fun _=>⟨p,rfl,hp⟩⟩⟩
def mLm(f:List D->List D)(i:Nat):ME:=fun ρ=>(ρ[i]?).join.bind fun w=>w.lo.bind fun xs=>some (.u (.d .none),ρ.set i (some (.l (f xs))))
theorem zrb{i:Nat}:VE K (zsU K "list" zmS (zf7 i)) (mLm (fun _=>[]) i):=by
 intro ρ σ H a ρ' Q r e q
 obtain⟨w,e0,e⟩:=bind_some e
 obtain⟨xs,ex,e⟩:=bind_some e
 cases e
 cases zq1 ex
 obtain⟨v0,ev0,p0⟩:=r.rep i _ (zel e0)
 obtain⟨l,us,rfl,hl,ds⟩:=p0
 exact⟨_,ev0,.inl ⟨rfl,us,SqL.of hl⟩,l,us,rfl,rfl,hl,q _ _ (Go.own (u':=.l []) r (zel e0) rfl ev0 ⟨l,_,rfl,zG,.nil⟩) ⟨.non,Nw.data⟩⟩
end
section
variable {X:Cx} {elts:List Expr} {k:Nat} {tpos:Pos}
end
section
variable {ρ:En} {mk mv:ME} {mA:MA} {i:Nat} {f:List D->List D} {QE:Ar×En->Prop} {QI:List D×En->Prop}
theorem zor:Wo (zfp mk mv ρ) QE=Wo (mk ρ) (Co (fun p=>(mv p.2).bind fun q=>(p.1.get q.2).bind fun k=>(q.1.get q.2).bind fun v=>k.da.bind fun k=>v.da.bind fun v=>(zbL k).bind fun k=>some (.u (.t [(k,v)]),q.2)) ⟨0⟩ QE):=by
 show Wo (Option.bind _ _) QE=_
 rw [zE]
theorem zxj:Wo (mLm f i ρ) QE=Wo (ρ[i]?).join (Co (fun w=>w.lo.bind fun xs=>some (.u (.d .none),ρ.set i (some (.l (f xs))))) ⟨0⟩ QE):=by
 show Wo (Option.bind _ _) QE=_
 rw [zE]
end
end L2
namespace L2
open PySem
def um(a:Rat):Nat->(Nat->Rat)->Rat
 | 0,h=>h 0
 | k+1,h=>a * um a k h+um a k fun j=>h (j+1)
def ch:Nat->Nat->Nat
 | _,0=>1
 | 0,_+1=>0
 | n+1,k+1=>ch n k+ch n (k+1)
def part(a:Rat)(k j:Nat):Rat:=(ch k j:Rat) * a^(k - j)
theorem zxk{a b:List Int}(h:a.length+b.length<=1000):zfj (.d (pwD a)) (.d (pwD b))=some (.d (pwD (a++b))):=by
 have:=zll (xs:=a.map PyData.int) (ys:=b.map PyData.int) (by rw [List.length_map,List.length_map]; omega)
 rw [<-List.map_append]at this
 exact this
theorem zu1{k:Int}:PyData.tuple [.int k]=pwD [k]:=rfl
end L2
namespace L2
open PySem PySem.Spec PyProof.Rows
open PySem.AutoSeq1 (wpAny_loadPart')
open MeetsSeq MeetsSeq2 MeetsSeq3 SeqRoads2
end L2
namespace L2
open PySem PySem.Spec PyProof.Rows
section
variable {prog:Program} {w:World} {A:Around} {E:Value->Shared->Prop} {s:Shared} {l b:Addr} {items items2:Array Value} {xs ys:List Int} {Q:Value->Shared->Prop}
end
section
variable {X:Cx} {k:Nat}
end
section
variable {K:PySem.W.Frag}
def inD:D->Option Int
 | .int i=>some i
 | _=>none
theorem zlz{H:Hp}:∀ {us:List V} {ds:List D} {bs:List Int},DFs K H us ds->ds.mapM inD=some bs->us=bs.map V.int
 | _,_,bs,.nil,e=>by cases e; rfl
 | _,_,bs,.cons (d:=d) h t,e=>by
  rw [List.mapM_cons]at e
  obtain⟨y,e1,e⟩:=bind_some e
  obtain⟨ys',e2,e⟩:=bind_some e
  cases e
  cases d with
  | int x=>cases e1; cases DF.int_inv h; rw [zlz t e2]; rfl
  | _=>cases e1
end
section
variable {X:Cx} {a b c d:Expr} {pos:Pos} {ta tb tc td:TE}
end
section
variable {K:PySem.W.Frag}
end
section
variable {f f' f'':U->U->Option U} {ma mb mc md:ME} {ρ:En} {QE:Ar×En->Prop}
end
end L2
namespace HT
open PySem PySem.Spec PyProof.Rows
section
variable {prog:Program} {w:World} {A:Around} {E:Value->Shared->Prop} {s:Shared}
end
end HT
namespace L2
open PySem PySem.Spec PyProof.Rows
section
variable {X:Cx} {e st:Expr} {te ts:TE} {pos p2:Pos}
end
section
variable {K:PySem.W.Frag}
end
section
variable {K:PySem.W.Frag}
def zdK:U->U->Option U
 | .l ds,.d y=>(ds.mapM flD).bind fun ws=>(flD y).bind fun w=>(ws.findIdx? fun z=>eqV z w).bind fun j=>some (.d (.int (j:Nat)))
 | _,_=>none
theorem zos:VO K (fun x y H Q=>zm8 K x [y] H Q) zdK:=by
 intro x y a b u H Q ha hb e q
 unfold zdK at e
 split at e
 ·obtain⟨ws,e1,e⟩:=bind_some e
  obtain⟨w,e2,e⟩:=bind_some e
  obtain⟨j,e3,e⟩:=bind_some e
  cases e
  obtain⟨l,us,rfl,h1,h2⟩:=ha
  obtain⟨rfl,f1⟩:=zif h2 e1
  obtain⟨rfl,f2⟩:=zie hb e2
  rw [List.findIdx?_eq_some_iff_getElem]at e3
  obtain⟨hj,pj,no⟩:=e3
  refine⟨l,_,_,j,rfl,rfl,h1,f2,f1,⟨_,List.getElem?_eq_getElem hj,pj⟩,fun m y hm em=>?_,q _ _ (zbE.refl H) (DF.int _) Nw.data⟩
  obtain⟨hm',rfl⟩:=List.getElem?_eq_some_iff.mp em
  exact Bool.eq_false_iff.mpr (no m hm)
 ·cases e
end
def zr3(K:PySem.W.Frag):List V->Hp->VK->Prop:=fun xs H Q=>∃ (p:Addr) (ns:List Int) (m:Int),xs=[.ref p]/\SqT K H p (ns.map V.int)/\m∈ns/\(∀ x∈ns,x<=m)/\Q (.int m) H
theorem zkz{X:Cx}(K:PySem.W.Frag)(hK:X.K=K)(hc:X.calm=true):zb6 X (.builtin "max") (zr3 K):=by
 subst hK
 intro pins s σ H xs us Q I r h
 obtain⟨p,ns,m,rfl,hq,z1,z2,q⟩:=h
 obtain⟨u,rfl,ru⟩:=zeM r
 cases ru
 have val:∀ {i:Nat} {v:Value},(∃ x,(ns.map V.int)[i]?=some x/\zap x v)->∃ t,v=.int (ns.getD i 0) t/\ns[i]?=some (ns.getD i 0):=fun{i v} hx=>by
  obtain⟨x,ex,rx⟩:=hx
  rw [List.getElem?_map]at ex
  cases eb:ns[i]? with
  | none=>rw [eb]at ex; cases ex
  | some b =>
   rw [eb]at ex
   cases ex
   obtain⟨t,rfl⟩:=rx
   have ew:ns.getD i 0=b:=by rw [List.getD_eq_getElem?_getD,eb]; rfl
   exact⟨t,by rw [ew],by rw [ew]⟩
 have h0:0 < ns.length:=List.length_pos_of_mem z1
 refine call_max_walk (zna I (I.ok.hd hc) (.inr hq) fun it fp wr n P St s2 W st hfp hn hP hI=>⟨it,fp,wr,n,P,St,_,rfl,W,st,hfp,by rw [hn,List.length_map]; exact h0,CmpOf.ints_gt (fun i=>ns.getD i 0) (fun i v hv=>let ⟨t,e,_⟩:=val (hP i v hv); ⟨t,e⟩),fun v h' tk hv hk=>?_⟩)
 rw [List.length_map]at hn
 obtain⟨t,rfl,ei⟩:=val (hP _ v hv)
 obtain⟨b1,b2⟩:=zhu (fun i=>ns.getD i 0) (n - 1)
 have e:m=ns.getD (argBest (fun i j=>decide (ns.getD i 0 > ns.getD j 0)) (n - 1)) 0:=by
  have le1:=z2 _ (List.mem_of_getElem? ei)
  obtain⟨k,hk,ek⟩:=List.getElem_of_mem z1
  have le2:=b2 k (by omega)
  have ek':ns.getD k 0=m:=by rw [List.getD_eq_getElem?_getD,List.getElem?_eq_getElem hk,ek]; rfl
  have le2':ns.getD k 0<=ns.getD (argBest (fun i j=>decide (ns.getD i 0 > ns.getD j 0)) (n - 1)) 0:=le2
  omega
 exact⟨.int m,H,hI h' tk hk,⟨t,by rw [e]⟩,q⟩
section
variable {K:PySem.W.Frag}
def zev:U->Option U
 | .d (.tuple [.int i,.int j])=>some (.d (.int (if j > i then j else i)))
 | _=>none
theorem ziu:VC K (zr3 K) (f1 zev):=zkc fun v a u H Q h e q=>by
 unfold zev at e
 split at e
 ·rename_i i j
  cases e
  obtain⟨p,us,rfl,h1,h2⟩:=DF.tup_inv h
  cases zlz h2 (bs:=[i,j]) rfl
  refine⟨p,[i,j],_,rfl,SqT.of h1,?_,?_,q _ _ (zbE.refl H) (DF.int _) Nw.data⟩
  ·split<;>simp
  ·intro x hx
   simp only [List.mem_cons,List.not_mem_nil,or_false]at hx
   split<;>rcases hx with rfl | rfl<;>omega
 ·cases e
end
end L2
namespace L2
open PySem PySem.Calls PySem.Spec PyProof.Rows
section
variable {prog:Program} {w:World} {A:Around} {E:Value->Shared->Prop} {s:Shared}
theorem zkA{nm:String}{a b:Addr}{oa ob:Obj}{es:Array DictEntry}{ep ep':Nat}{Q:Bool->Shared->Prop}(ha:(a==sysModules)=false)(hb:(b==sysModules)=false)
  (hoa:s.heap.get? a=some oa) (hda:oa.data=.dict es ep) (hob:s.heap.get? b=some ob) (hdb:ob.data=.dict #[] ep') (h:Q (es.size==0) s) :
  wpAny (model prog w) A (Builtin.Dict.samePairs nm a b) Q E s:=by
 unfold Builtin.Dict.samePairs Builtin.Dict.showsAll
 rw [if_neg (show ¬(a==sysModules)=true by rw [ha]; exact Bool.false_ne_true),if_neg (show ¬(b==sysModules)=true by rw [hb]; exact Bool.false_ne_true)]
 refine wpAny_bind (wpAny_pure (wpAny_bind (wpAny_pure ?_)))
 refine wpAny_bind (wpAny_dictEntries hoa hda ?_)
 dsimp only
 refine wpAny_bind (wpAny_dictEntries hob hdb ?_)
 by_cases hsz:es.size=0
 ·have h':Q true s:=by rw [hsz]at h; exact h
  rw [if_neg (by rw [hsz]; simp)]
  refine wpAny_bind (wpAny_dictEpoch hoa hda ?_)
  refine wpAny_bind ?_
  rw [Std.Legacy.Range.forIn_eq_forIn_range']
  simp only [Std.Legacy.Range.size,Nat.sub_zero,Nat.add_sub_cancel,Nat.div_one,hsz,List.range'_zero,List.forIn_nil]
  exact wpAny_pure (wpAny_pure h')
 ·rw [if_pos (by simpa using hsz)]
  have hbf:(es.size==0)=false:=by simpa using hsz
  rw [hbf]at h
  exact wpAny_bind (wpAny_rule (wpAny_pure h))
theorem zot{a b:Addr}{oa ob:Obj}{es:Array DictEntry}{ep ep':Nat}{Q:Value->Shared->Prop}(ha:(a==sysModules)=false)(hb:(b==sysModules)=false)
  (hoa:s.heap.get? a=some oa) (ca:oa.cls=.type "dict") (hda:oa.data=.dict es ep) (hob:s.heap.get? b=some ob) (cb:ob.cls=.type "dict") (hdb:ob.data=.dict #[] ep') (hu:A.units < cLine) (h:Q (.bool (es.size==0)) s) :
  wpAny (model prog w) A (compareOp .Eq (.ref a) (.ref b)) Q E s:=by
 have ta:s.TypeIs (.ref a) "dict":=⟨_,hoa,ca⟩
 have tb:s.TypeIs (.ref b) "dict":=⟨_,hob,cb⟩
 refine wpAny_richCompare_same_room (op:=.Eq) ta tb PySem.F.slot_dict_eq (wpAny_call_entry PySem.F.slot_dict_eq ta PySem.F.entry_dict_eq ?_ (PySem.F.args_dict_eq_2 _ _)) hu
 show wpAny _ _ (Builtin.Dict.dictSlotArgs "__eq__" ⟨[.ref a,.ref b],[]⟩ >>= _) _ _ s
 refine wpAny_bind ?_
 unfold Builtin.Dict.dictSlotArgs
 refine wpAny_bind (wpAny_notOrdered_dict ta ?_)
 show wpAny _ _ (pure (Value.ref a,Value.ref b)) _ _ s
 refine wpAny_pure ?_
 refine wpAny_bind (wpAny_isInstance (T := "dict") tb PySem.F.sub_dict_dict ?_)
 simp only [Bool.not_true,Bool.false_eq_true,if_false]
 refine wpAny_bind (wpAny_pure (wpAny_bind (wpAny_pure ?_)))
 refine wpAny_bind (zkA ha hb hoa hda hob hdb ?_)
 refine wpAny_pure ⟨_,rfl,?_,?_⟩
 ·exact fun x=>nomatch x
 ·simpa using h
end
def zxl:R2:=fun x y H Q=>∃ a b kvs,x=.ref a/\y=.ref b/\Rd H a (.dT kvs)/\Rd H b (.dT [])/\Q (.bl (kvs.length==0)) H
theorem zu2{X:Cx}{k:Nat}(hr:Room k X.A):OpR X (compareOp .Eq) zxl:=by
 intro pins s σ H x y v u Q I rx ry h
 obtain⟨a,b,kvs,rfl,rfl,ea,eb,q⟩:=h
 cases rx
 cases ry
 obtain⟨z,y,xs,r,o,es,ep,h1,h2,h3,h4,h5⟩:=(show zaN X.prog X.w H s.heap a (.dT kvs) from ziP I.hok ea)
 obtain⟨z',y',xs',r',o',es',ep',h1',h2',h3',h4',h5'⟩:=(show zaN X.prog X.w H s.heap b (.dT []) from ziP I.hok eb)
 have hlen:es.size=kvs.length:=by
  have:=congrArg List.length h4
  rw [Array.length_toList,List.length_map,<-zcP r]at this
  exact this
 have hlen':es'.size=0:=by
  have:=congrArg List.length h4'
  rw [Array.length_toList,List.length_map,<-zcP r']at this
  exact this
 have e0:es'=#[]:=Array.eq_empty_of_size_eq_zero hlen'
 rw [e0]at h3'
 exact zot y y' h1 h2.1 h3 h1' h2'.1 h3' (by have:=hr.units; omega) ⟨.bl _,H,I,by rw [hlen]; rfl,q⟩
section
variable {K:PySem.W.Frag}
def zkB:U->U->Option U
 | .d (.dict ds),.t []=>if noX ds=true then some (.d (.bool (ds.length==0)))else none
 | _,_=>none
theorem zu3:VO K zxl zkB:=by
 intro x y a b u H Q ha hb e q
 unfold zkB at e
 split at e
 ·split at e
  ·rename_i ds nx
   cases e
   obtain⟨c,o,ws,rfl,h1,h2⟩:=DF.dct_inv ha nx
   obtain⟨b',ws',rfl,h3,h4⟩:=hb
   cases h4
   refine⟨c,b',ws,rfl,rfl,.inr ⟨o,h1⟩,.inl h3,?_⟩
   rw [zlp h2]
   exact q _ _ (fun _ _ z=>z) (.bl _) Nw.data
  ·cases e
 ·cases e
end
end L2
namespace K10
open PySem L2
def top(i:Nat):Stmt:=PySem.Challenge.pw_undivide_k10_run_at_points.main.body.getD i (.Pass ⟨0,0,0,0⟩)
abbrev zbj:Stmt:=top 11
theorem zdt:FnScope ["one", "other"] ["one", "other"] (zt zbj):=⟨rfl,rfl,rfl,by decide +kernel,rfl,by decide +kernel,by decide +kernel⟩
abbrev zeo:Stmt:=top 12
theorem ze6:FnScope ["one", "above", "beneath", "factor", "total", "left"] ["one", "above", "beneath"] (zt zeo):=⟨rfl,rfl,rfl,by decide +kernel,rfl,by decide +kernel,by decide +kernel⟩
abbrev zfq:Stmt:=top 13
theorem zrc:FnScope ["one", "other"] ["one", "other"] (zt zfq):=⟨rfl,rfl,rfl,by decide +kernel,rfl,by decide +kernel,by decide +kernel⟩
abbrev zfr:Stmt:=top 14
theorem zrd:FnScope ["one", "other"] ["one", "other"] (zt zfr):=⟨rfl,rfl,rfl,by decide +kernel,rfl,by decide +kernel,by decide +kernel⟩
abbrev zep:Stmt:=top 15
theorem zgG:FnScope ["one", "other", "first", "second"] ["one", "other"] (zt zep):=⟨rfl,rfl,rfl,by decide +kernel,rfl,by decide +kernel,by decide +kernel⟩
abbrev zfs:Stmt:=top 16
theorem zre:FnScope ["one", "other"] ["one", "other"] (zt zfs):=⟨rfl,rfl,rfl,by decide +kernel,rfl,by decide +kernel,by decide +kernel⟩
abbrev zbP:Stmt:=top 18
theorem zg6:FnScope ["word", "one", "other"] ["word", "one", "other"] (zt zbP):=⟨rfl,rfl,rfl,by decide +kernel,rfl,by decide +kernel,by decide +kernel⟩
abbrev zhI:Stmt:=top 19
theorem zeF:FnScope ["reckoning", "point", "letters", "rows", "told", "at", "row", "word"] ["reckoning", "point"] (zt zhI):=⟨rfl,rfl,rfl,by decide +kernel,rfl,by decide +kernel,by decide +kernel⟩
abbrev zcg:Stmt:=top 21
theorem zco:FnScope ["_law_script", "_law_k", "_law_cell", "_law_seed"] ["_law_script", "_law_k"] (zt zcg):=⟨rfl,rfl,rfl,by decide +kernel,rfl,by decide +kernel,by decide +kernel⟩
abbrev zbQ:Stmt:=top 22
theorem zde:FnScope ["_law_box_here", "_law_wide", "_law_digit", "_law_one"] ["_law_box_here", "_law_wide"] (zt zbQ):=⟨rfl,rfl,rfl,by decide +kernel,rfl,by decide +kernel,by decide +kernel⟩
abbrev zby:Stmt:=top 23
theorem zan:FnScope ["_law_box_here", "_law_many", "_law_alphabet", "_law_signs", "_law_spot", "_law_first", "_law_found", "_law_k", "_law_one", "_law_name", "_law_odd"] ["_law_box_here", "_law_many"] (zt zby):=⟨rfl,rfl,rfl,by decide +kernel,rfl,by decide +kernel,by decide +kernel⟩
abbrev zbd:Stmt:=top 24
theorem zbm:FnScope ["_law_n", "_law_d", "_law_one", "_law_two"] ["_law_n", "_law_d"] (zt zbd):=⟨rfl,rfl,rfl,by decide +kernel,rfl,by decide +kernel,by decide +kernel⟩
abbrev zbR:Stmt:=top 25
theorem zg7:FnScope ["_law_one", "_law_other"] ["_law_one", "_law_other"] (zt zbR):=⟨rfl,rfl,rfl,by decide +kernel,rfl,by decide +kernel,by decide +kernel⟩
abbrev zbz:Stmt:=top 26
theorem zgH:FnScope ["_law_one", "_law_other"] ["_law_one", "_law_other"] (zt zbz):=⟨rfl,rfl,rfl,by decide +kernel,rfl,by decide +kernel,by decide +kernel⟩
abbrev zbe:Stmt:=top 27
theorem zaZ:FnScope ["_law_one", "_law_other", "_law_sign", "_law_found", "_law_powers", "_law_more", "_law_kept"] ["_law_one", "_law_other", "_law_sign"] (zt zbe):=⟨rfl,rfl,rfl,by decide +kernel,rfl,by decide +kernel,by decide +kernel⟩
abbrev za0:Stmt:=top 28
theorem zaw:FnScope ["_law_one", "_law_other", "_law_found", "_law_left", "_law_right", "_law_powers", "_law_more", "_law_kept"] ["_law_one", "_law_other"] (zt za0):=⟨rfl,rfl,rfl,by decide +kernel,rfl,by decide +kernel,by decide +kernel⟩
abbrev zaQ:Stmt:=top 29
theorem zd8:FnScope ["_law_many", "_law_f"] ["_law_many", "_law_f"] (zt zaQ):=⟨rfl,rfl,rfl,by decide +kernel,rfl,by decide +kernel,by decide +kernel⟩
abbrev zaR:Stmt:=top 30
theorem zd9:FnScope ["_law_many", "_law_k"] ["_law_many", "_law_k"] (zt zaR):=⟨rfl,rfl,rfl,by decide +kernel,rfl,by decide +kernel,by decide +kernel⟩
abbrev zbs:Stmt:=top 31
theorem zdS:FnScope ["_law_box_here", "_law_kind"] ["_law_box_here"] (zt zbs):=⟨rfl,rfl,rfl,by decide +kernel,rfl,by decide +kernel,by decide +kernel⟩
abbrev zbA:Stmt:=top 32
theorem zgI:FnScope ["_law_box_here"] ["_law_box_here"] (zt zbA):=⟨rfl,rfl,rfl,by decide +kernel,rfl,by decide +kernel,by decide +kernel⟩
abbrev zbB:Stmt:=top 33
theorem zgJ:FnScope ["_law_box_here", "_law_many"] ["_law_box_here", "_law_many"] (zt zbB):=⟨rfl,rfl,rfl,by decide +kernel,rfl,by decide +kernel,by decide +kernel⟩
abbrev zbt:Stmt:=top 34
theorem zbx:FnScope ["_law_row", "_law_heavy", "_law_a", "_law_b", "_law_c", "_law_d"] ["_law_row", "_law_heavy"] (zt zbt):=⟨rfl,rfl,rfl,by decide +kernel,rfl,by decide +kernel,by decide +kernel⟩
abbrev zbS:Stmt:=top 35
theorem zbb:FnScope ["_law_row", "_law_pairs", "_law_many", "_law_one", "_law_a", "_law_b", "_law_c", "_law_d", "_law_sign", "_law_above"] ["_law_row", "_law_pairs", "_law_many"] (zt zbS):=⟨rfl,rfl,rfl,by decide +kernel,rfl,by decide +kernel,by decide +kernel⟩
abbrev za1:Stmt:=top 36
theorem zax:FnScope ["_law_box_here", "_law_rows_here", "_law_many", "_law_kind", "_law_k", "_law_word", "_law_i", "_law_j", "_law_some", "_law_n"] ["_law_box_here", "_law_rows_here", "_law_many", "_law_kind"] (zt za1):=⟨rfl,rfl,rfl,by decide +kernel,rfl,by decide +kernel,by decide +kernel⟩
abbrev za2:Stmt:=top 37
theorem zam:FnScope ["_law_box_here", "_law_letters", "_law_most", "_law_weight_here", "_law_kind", "_law_rows_here", "_law_pairs", "_law_heavy", "_law_k", "_law_row"] ["_law_box_here", "_law_letters", "_law_most", "_law_weight_here", "_law_kind"] (zt za2):=⟨rfl,rfl,rfl,by decide +kernel,rfl,by decide +kernel,by decide +kernel⟩
abbrev zbT:Stmt:=top 38
theorem zaM:FnScope ["_law_box_here", "_law_letters", "_law_many", "_law_rows_here", "_law_known", "_law_k", "_law_word", "_law_row"] ["_law_box_here", "_law_letters"] (zt zbT):=⟨rfl,rfl,rfl,by decide +kernel,rfl,by decide +kernel,by decide +kernel⟩
abbrev zbk:Stmt:=top 39
theorem zbU:FnScope ["_law_letters", "_law_box_here", "_law_most", "_law_at", "_law_rows_here", "_law_k"] ["_law_letters", "_law_box_here", "_law_most"] (zt zbk):=⟨rfl,rfl,rfl,by decide +kernel,rfl,by decide +kernel,by decide +kernel⟩
abbrev zbu:Stmt:=top 40
theorem zdT:FnScope ["_law_box_here", "_law_many", "_law_far"] ["_law_box_here", "_law_many"] (zt zbu):=⟨rfl,rfl,rfl,by decide +kernel,rfl,by decide +kernel,by decide +kernel⟩
abbrev zch:Stmt:=top 41
theorem zaO:FnScope ["_law_rows_here", "_law_point_here", "_law_found", "_law_at", "_law_row", "_law_a", "_law_b", "_law_c", "_law_d", "_law_some", "_law_n", "_law_m"] ["_law_rows_here", "_law_point_here"] (zt zch):=⟨rfl,rfl,rfl,by decide +kernel,rfl,by decide +kernel,by decide +kernel⟩
abbrev zbV:Stmt:=top 42
theorem zb8:FnScope ["_law_reckoning_here", "_law_point_here", "_law_found", "e"] ["_law_reckoning_here", "_law_point_here"] (zt zbV):=⟨rfl,rfl,rfl,by decide +kernel,rfl,by decide +kernel,by decide +kernel⟩
abbrev ze7:Stmt:=top 43
theorem zcT:FnScope ["_law_script", "_law_k", "_law_box_here", "_law_letters", "_law_rows_here", "_law_points_here", "_law_cut", "_law_point_here", "_law_due_here", "_law_found"] ["_law_script"] (zt ze7):=⟨rfl,rfl,rfl,by decide +kernel,rfl,by decide +kernel,by decide +kernel⟩
def zbi:List (Str×List Str):=[("UndivideError",["ValueError", "Exception", "BaseException", "object"]),("BadText",["UndivideError", "ValueError", "Exception", "BaseException", "object"]),("BadLetters",["UndivideError", "ValueError", "Exception", "BaseException", "object"]),("BadRow",["UndivideError", "ValueError", "Exception", "BaseException", "object"]),("NoOver",["UndivideError", "ValueError", "Exception", "BaseException", "object"]),("NoName",["UndivideError", "ValueError", "Exception", "BaseException", "object"]),("NotWhole",["UndivideError", "ValueError", "Exception", "BaseException", "object"]),("NotPolynomial",["UndivideError", "ValueError", "Exception", "BaseException", "object"])]
abbrev xfl:List Str:=["at", "name", "which"]
def zou:Stmt->Stmt
 | .ClassDef _ _ _ (b::_) _ _ _ _ _ _ _=>b
 | s=>s
abbrev zkC:Stmt:=zou (top 2)
theorem zr4:FnScope ["self", "at"] ["self", "at"] (zt zkC):=⟨rfl,rfl,rfl,by decide +kernel,rfl,by decide +kernel,by decide +kernel⟩
abbrev zdu:Stmt:=zou (top 5)
theorem zkD:FnScope ["self", "at"] ["self", "at"] (zt zdu):=⟨rfl,rfl,rfl,by decide +kernel,rfl,by decide +kernel,by decide +kernel⟩
section
variable {P:Program} {w:World} {K:PySem.W.Frag} {mg:Str->Option Value} {base:Heap} {f:Addr} {fd:FuncData}
noncomputable def zcE:MS:=(zv (zeB (zpR (ze 1)) (znq 0 1 (zb (ze 1) (zb (mOp zdV (ze 0) (ze 1)) zm))))
  (zaq (ze 0)))
noncomputable def zX:FD:=zb3 2 [] zcE
theorem zft(F:Fun K "common_factor" "common_factor" zbj f fd)(hB:Bl mg ["abs", "enumerate", "len", "int", "range", "tuple", "dict", "zip", "max", "isinstance", "ValueError", "bool", "list", "repr"])(hT:XT K zbi xfl):FnOk P w K mg base CX0 1 f fd ["one", "other"] (spV K 2 zX) :=
 F.okV (n:=2) (nn:=2) (pn:=[]) (m:=zcE) zdt rfl rfl (by decide) fun cdv A outer s H E hr=>⟨_,(w_s (zkX PassesOwn.never (zvS K rfl (w_v 1)) (zW (zrM (i:=0) (j:=1) rfl zdt.nd rfl rfl (by decide) rfl rfl (w_a (w_v 1) (w_a (zR zcL (w_v 0) (w_v 1)) zi)) rfl)))
  (zW (zaj (w_v 0)))),
  (zw (zk9 (ztr (zf 1)) (zrS (by decide) (by decide) (zd (zf 1) (zd (zr zcQ (zf 0) (zf 1)) zn))))
  (zas (zf 0)))⟩
noncomputable def zea:MS:=(zv (zK 2 (mOp za3 (mOp zdC (mC (.int 7919)) (ze 1)) (mC (.int 11))))
  (zv (zah (mB (mOp fLt (ze 1) (mCB (f1 zbF) (zb (ze 0) zm)))) (zK 2 (mOp zaS (ze 0) (ze 1))) (zah (mB (mOp fGt (mCB (f1 zbF) (zb (ze 0) zm)) (mC (.int 0)))) (zK 2 (mOp za3 (ze 2) (mOp zdC (mOp zdV (mOp zaS (ze 0) (mOp zdV (ze 1) (mCB (f1 zbF) (zb (ze 0) zm)))) (mC (.int 2147483629))) (mC (.int 69623))))) zU))
  (zv (zK 3 (mOp za3 (mOp zdV (mOp za3 (mOp zdC (mOp zdV (ze 2) (mC (.int 2147483629))) (mC (.int 48271))) (mOp zdC (mC (.int 40692)) (ze 1))) (mC (.int 2147483629))) (mC (.int 1))))
  (zaq (zbq (zb (mOp zdC (ze 2) (mCB (f1 zeT) (zb (mOp fGe (ze 2) (mOp znk (mC (.int 10)) (mC (.int 18)))) zm))) (zb (ze 3) zm)))))))
noncomputable def zbM:FD:=zb3 4 [0,1] zea
theorem ziv(F:Fun K "_law_box" "_law_box" zcg f fd)(hB:Bl mg ["abs", "enumerate", "len", "int", "range", "tuple", "dict", "zip", "max", "isinstance", "ValueError", "bool", "list", "repr"])(hT:XT K zbi xfl):FnOk P w K mg base CX0 1 f fd ["_law_script", "_law_k"] (spV K 2 zbM) :=
 F.okV (n:=2) (nn:=4) (pn:=[0,1]) (m:=zea) zco rfl rfl (by decide) fun cdv A outer s H E hr=>⟨_,(w_s (zT (i:=2) zco.nd rfl (by first | exact Or.inl rfl | exact Or.inr rfl) (zR zaH (zR zc3 zp (w_v 1)) zp))
  (w_s (zcA (zbg (zQ zga (w_v 1) (zbN (zcG K rfl) rfl (hB "len" (by decide)) PySem.boot_len (w_a (w_v 0) zi)) (zP _)) (zW (zT (i:=2) zco.nd rfl (by first | exact Or.inl rfl | exact Or.inr rfl) (zS (zbh K rfl) (w_v 0) (w_v 1) (fun _ _=>rfl)))) (zW (zbg (zQ zhi (zbN (zcG K rfl) rfl (hB "len" (by decide)) PySem.boot_len (w_a (w_v 0) zi)) zp (zP _)) (zW (zT (i:=2) zco.nd rfl (by first | exact Or.inl rfl | exact Or.inr rfl) (zR zaH (w_v 2) (zR zc3 (zR zcL (zS (zbh K rfl) (w_v 0) (zR zcL (w_v 1) (zbN (zcG K rfl) rfl (hB "len" (by decide)) PySem.boot_len (w_a (w_v 0) zi))) (fun _ _=>rfl)) zp) zp)))) zak))))
  (w_s (zT (i:=3) zco.nd rfl (by first | exact Or.inl rfl | exact Or.inr rfl) (zR zaH (zR zcL (zR zaH (zR zc3 (zR zcL (w_v 2) zp) zp) (zR zc3 zp (w_v 1))) zp) zp))
  (zW (zaj (zbY (w_a (zR zc3 (w_v 2) (zfI zfd rfl (hB "int" (by decide)) PyProof.Rows.boot_int (w_a (zm5 zvD (w_v 2) (zR zsE zp zp) (zP _)) zi))) (w_a (w_v 3) zi)))))))),
  (zw (zO (by decide) (zr zaI (zr zc6 zq (zf 1)) zq))
  (zw (zcD (zay (zF (zr zgn (zf 1) (zbr zb1 (zd (zf 0) zn)))) (zO (by decide) (zr zaL (zf 0) (zf 1))) (zay (zF (zr zhz (zbr zb1 (zd (zf 0) zn)) zq)) (zO (by decide) (zr zaI (zf 2) (zr zc6 (zr zcQ (zr zaL (zf 0) (zr zcQ (zf 1) (zbr zb1 (zd (zf 0) zn)))) zq) zq))) zal)))
  (zw (zO (by decide) (zr zaI (zr zcQ (zr zaI (zr zc6 (zr zcQ (zf 2) zq) zq) (zr zc6 zq (zf 1))) zq) zq))
  (zas (zbZ (zd (zr zc6 (zf 2) (zbr zh6 (zd (zr zv1 (zf 2) (zr ztl zq zq)) zn))) (zd (zf 3) zn)))))))⟩
noncomputable def zdL:MS:=(zv (zah (mB (mOp fGt (mOp zaS (ze 0) (mC (.int 0))) (mC (.int 0)))) (zv (zK 2 (mOp zdV (mOp zaS (ze 0) (mC (.int 0))) (ze 1)))
  (zv (zeC 0 (mOp zcZ (mOp zaS (ze 0) (mC (.int 0))) (ze 1)) (mC (.int 0)))
  (zaq (ze 2)))) zU)
  (zv (zK 3 (mOp zdV (mOp zdC (mOp zaS (ze 0) (mC (.int 1))) (mC (.int 69623))) (mC (.int 2147483647))))
  (zv (zeC 0 (mOp za3 (mOp zdV (mOp za3 (mOp zdC (ze 3) (mC (.int 48271))) (mC (.int 30103))) (mC (.int 2147483629))) (mC (.int 1))) (mC (.int 1)))
  (zaq (mOp zdV (mOp zcZ (mOp za3 (mOp zdC (ze 3) (mC (.int 2147483647))) (mOp zaS (ze 0) (mC (.int 1)))) (mC (.int 8191))) (ze 1))))))
noncomputable def zk:FD:=zb3 4 [0,1] zdL
theorem zg8(F:Fun K "_law_take" "_law_take" zbQ f fd)(hB:Bl mg ["abs", "enumerate", "len", "int", "range", "tuple", "dict", "zip", "max", "isinstance", "ValueError", "bool", "list", "repr"])(hT:XT K zbi xfl):FnOk P w K mg base CX0 1 f fd ["_law_box_here", "_law_wide"] (spV K 2 zk) :=
 F.okV (n:=2) (nn:=4) (pn:=[0,1]) (m:=zdL) zde rfl rfl (by decide) fun cdv A outer s H E hr=>⟨_,(w_s (zbg (zQ zhi (zS (zbh K rfl) (w_v 0) zp (fun _ _=>rfl)) zp (zP _)) (w_s (zT (i:=2) zde.nd rfl (by first | exact Or.inl rfl | exact Or.inr rfl) (zR zcL (zS (zbh K rfl) (w_v 0) zp (fun _ _=>rfl)) (w_v 1)))
  (w_s (zdY (zR zbH (zS (zbh K rfl) (w_v 0) zp (fun _ _=>rfl)) (w_v 1)) (zj1 (w_v 0) zp zgf))
  (zW (zaj (w_v 2))))) zak)
  (w_s (zT (i:=3) zde.nd rfl (by first | exact Or.inl rfl | exact Or.inr rfl) (zR zcL (zR zc3 (zS (zbh K rfl) (w_v 0) zp (fun _ _=>rfl)) zp) zp))
  (w_s (zdY (zR zaH (zR zcL (zR zaH (zR zc3 (w_v 3) zp) zp) zp) zp) (zj1 (w_v 0) zp zgf))
  (zW (zaj (zR zcL (zR zbH (zR zaH (zR zc3 (w_v 3) zp) (zS (zbh K rfl) (w_v 0) zp (fun _ _=>rfl))) zp) (w_v 1))))))),
  (zw (zay (zF (zr zhz (zr zaL (zf 0) zq) zq)) (zw (zO (by decide) (zr zcQ (zr zaL (zf 0) zq) (zf 1)))
  (zw (zh8 (i:=0) (zr zcj (zr zaL (zf 0) zq) (zf 1)) zq)
  (zas (zf 2)))) zal)
  (zw (zO (by decide) (zr zcQ (zr zc6 (zr zaL (zf 0) zq) zq) zq))
  (zw (zh8 (i:=0) (zr zaI (zr zcQ (zr zaI (zr zc6 (zf 3) zq) zq) zq) zq) zq)
  (zas (zr zcQ (zr zcj (zr zaI (zr zc6 (zf 3) zq) (zr zaL (zf 0) zq)) zq) (zf 1))))))⟩
noncomputable def zcs:MS:=(zv (zK 2 (mCB (f1 zi4) (zb (ze 0) zm)))
  (zv (zK 3 (mCB (f1 zi4) (zb (ze 1) zm)))
  (zv (zeB (mB (mOp (zai true) (ze 3) (mC (.int 0)))) (znq 2 3 (zb (ze 3) (zb (mOp zdV (ze 2) (ze 3)) zm))))
  (zv (zah (mB (mOp fLt (ze 1) (mC (.int 0)))) (zK 2 (mOp zd1 (mC (.int 0)) (ze 2))) zU)
  (zaq (zY (zb (mOp zk2 (ze 0) (ze 2)) (zb (mOp zk2 (ze 1) (ze 2)) zm))))))))
noncomputable def zz:FD:=zb3 4 [0,1] zcs
theorem ze8(F:Fun K "_law_fraction" "_law_fraction" zbd f fd)(hB:Bl mg ["abs", "enumerate", "len", "int", "range", "tuple", "dict", "zip", "max", "isinstance", "ValueError", "bool", "list", "repr"])(hT:XT K zbi xfl):FnOk P w K mg base CX0 1 f fd ["_law_n", "_law_d"] (spV K 2 zz) :=
 F.okV (n:=2) (nn:=4) (pn:=[0,1]) (m:=zcs) zbm rfl rfl (by decide) fun cdv A outer s H E hr=>⟨_,(w_s (zT (i:=2) zbm.nd rfl (by first | exact Or.inl rfl | exact Or.inr rfl) (zbN zdX rfl (hB "abs" (by decide)) PyProof.Rows.boot_abs (w_a (w_v 0) zi)))
  (w_s (zT (i:=3) zbm.nd rfl (by first | exact Or.inl rfl | exact Or.inr rfl) (zbN zdX rfl (hB "abs" (by decide)) PyProof.Rows.boot_abs (w_a (w_v 1) zi)))
  (w_s (zkX PassesOwn.never (zQ zf9 (w_v 3) zp (zP _)) (zW (zrM (i:=2) (j:=3) rfl zbm.nd rfl rfl (by decide) rfl rfl (w_a (w_v 3) (w_a (zR zcL (w_v 2) (w_v 3)) zi)) rfl)))
  (w_s (zcA (zbg (zQ zga (w_v 1) zp (zP _)) (zW (zT (i:=2) zbm.nd rfl (by first | exact Or.inl rfl | exact Or.inr rfl) (zR zcz zp (w_v 2)))) zak))
  (zW (zaj (zad (w_a (zR ziW (w_v 0) (w_v 2)) (w_a (zR ziW (w_v 1) (w_v 2)) zi))))))))),
  (zw (zO (by decide) (zbr zgp (zd (zf 0) zn)))
  (zw (zO (by decide) (zbr zgp (zd (zf 1) zn)))
  (zw (zk9 (zF (zr zeD (zf 3) zq)) (zrS (by decide) (by decide) (zd (zf 3) (zd (zr zcQ (zf 2) (zf 3)) zn))))
  (zw (zcD (zay (zF (zr zgn (zf 1) zq)) (zO (by decide) (zr zcB zq (zf 2))) zal))
  (zas (zae (zd (zr zk3 (zf 0) (zf 2)) (zd (zr zk3 (zf 1) (zf 2)) zn))))))))⟩
noncomputable def zb4:MS:=(zv (zah (mB (mOp (zai false) (mOp zJ (ze 1) (mC (.int 0))) (mC (.int 0)))) (zaq zcR) zU)
  (zaq (zfp (mOp ze5 (zY (zb (mC (.int 0)) zm)) (ze 0)) (ze 1))))
noncomputable def zaA:FD:=zb3 2 [0,1] zb4
theorem zeb(F:Fun K "_law_poly_number" "_law_poly_number" zaQ f fd)(hB:Bl mg ["abs", "enumerate", "len", "int", "range", "tuple", "dict", "zip", "max", "isinstance", "ValueError", "bool", "list", "repr"])(hT:XT K zbi xfl):FnOk P w K mg base CX0 1 f fd ["_law_many", "_law_f"] (spV K 2 zaA) :=
 F.okV (n:=2) (nn:=2) (pn:=[0,1]) (m:=zb4) zd8 rfl rfl (by decide) fun cdv A outer s H E hr=>⟨_,(w_s (zbg (zQ za5 (zS (zM K rfl) (w_v 1) zp (fun _ _=>rfl)) zp (zP _)) (zW (zaj zeQ)) zak)
  (zW (zaj (zis hr (zR (zf0 K rfl) (zad (w_a zp zi)) (w_v 0)) (w_v 1))))),
  (zw (zay (zF (zr zaz (zr zy (zf 1) zq) zq)) (zas zeX) zal)
  (zas (zit (zr zf1 (zae (zd zq zn)) (zf 0)) (zf 1))))⟩
noncomputable def zb5:MS:=(zaq (zfp (mOp zfj (mOp zfj (mOp ze5 (zY (zb (mC (.int 0)) zm)) (ze 1)) (zY (zb (mC (.int 1)) zm))) (mOp ze5 (zY (zb (mC (.int 0)) zm)) (mOp zd1 (mOp zd1 (ze 0) (ze 1)) (mC (.int 1))))) (zY (zb (mC (.int 1)) (zb (mC (.int 1)) zm)))))
noncomputable def zaB:FD:=zb3 2 [0,1] zb5
theorem zec(F:Fun K "_law_poly_letter" "_law_poly_letter" zaR f fd)(hB:Bl mg ["abs", "enumerate", "len", "int", "range", "tuple", "dict", "zip", "max", "isinstance", "ValueError", "bool", "list", "repr"])(hT:XT K zbi xfl):FnOk P w K mg base CX0 1 f fd ["_law_many", "_law_k"] (spV K 2 zaB) :=
 F.okV (n:=2) (nn:=2) (pn:=[0,1]) (m:=zb5) zd9 rfl rfl (by decide) fun cdv A outer s H E hr=>⟨_,(zW (zaj (zis hr (zR (zjj K rfl) (zR (zjj K rfl) (zR (zf0 K rfl) (zad (w_a zp zi)) (w_v 1)) (zad (w_a zp zi))) (zR (zf0 K rfl) (zad (w_a zp zi)) (zR zcz (zR zcz (w_v 0) (w_v 1)) zp))) (zad (w_a zp (w_a zp zi)))))),
  (zas (zit (zr zjk (zr zjk (zr zf1 (zae (zd zq zn)) (zf 1)) (zae (zd zq zn))) (zr zf1 (zae (zd zq zn)) (zr zcB (zr zcB (zf 0) (zf 1)) zq))) (zae (zd zq (zd zq zn)))))⟩
noncomputable def zcU:MS:=(zv (zah (mOr (mB (mOp (zai false) (mOp zJ (ze 0) (mC (.int 0))) (mC (.str "number")))) (mB (mOp (zai false) (mOp zJ (ze 0) (mC (.int 0))) (mC (.str "letter"))))) (zaq (zY (zb (mC (.int 1)) (zb (mC (.int 0)) zm)))) zU)
  (zv (zda (mOp zaS (ze 1) (mOp zJ (ze 0) (mC (.int 1)))) (zbG 2 (zaf (zH 2) (zaf (zH 3) zb0))))
  (zv (zda (mOp zaS (ze 1) (mOp zJ (ze 0) (mC (.int 2)))) (zbG 2 (zaf (zH 4) (zaf (zH 5) zb0))))
  (zv (zah (mB (mOp (zai false) (mOp zJ (ze 0) (mC (.int 0))) (mC (.str "times")))) (zaq (zY (zb (mOp za3 (ze 2) (ze 4)) (zb (mOp za3 (ze 3) (ze 5)) zm)))) zU)
  (zv (zah (mB (mOp (zai false) (mOp zJ (ze 0) (mC (.int 0))) (mC (.str "over")))) (zaq (zY (zb (mOp za3 (ze 2) (ze 5)) (zb (mOp za3 (ze 3) (ze 4)) zm)))) zU)
  (zaq (zY (zb (mCB zi5 (zb (mOp za3 (ze 2) (ze 5)) (zb (mOp za3 (ze 4) (ze 3)) zm))) (zb (mOp za3 (ze 3) (ze 5)) zm)))))))))
noncomputable def zI:FD:=zb3 6 [0,1] zcU
theorem zfM(F:Fun K "_law_weight" "_law_weight" zbt f fd)(hB:Bl mg ["abs", "enumerate", "len", "int", "range", "tuple", "dict", "zip", "max", "isinstance", "ValueError", "bool", "list", "repr"])(hT:XT K zbi xfl):FnOk P w K mg base CX0 1 f fd ["_law_row", "_law_heavy"] (spV K 2 zI) :=
 F.okV (n:=2) (nn:=6) (pn:=[0,1]) (m:=zcU) zbx rfl rfl (by decide) fun cdv A outer s H E hr=>⟨_,(w_s (zbg (zgj (zkV (zQ za5 (zS (zM K rfl) (w_v 0) zp (fun _ _=>rfl)) zL (zP _)) (zhV (zQ za5 (zS (zM K rfl) (w_v 0) zp (fun _ _=>rfl)) zL (zP _))))) (zW (zaj (zad (w_a zp (w_a zp zi))))) zak)
  (w_s (zdY (zS (zbh K rfl) (w_v 1) (zS (zM K rfl) (w_v 0) zp (fun _ _=>rfl)) (fun _ _=>rfl)) (zc5 K rfl rfl (w_g (zaa (i:=2) zbx.nd rfl (by first | exact Or.inl rfl | exact Or.inr rfl)) (w_g (zaa (i:=3) zbx.nd rfl (by first | exact Or.inl rfl | exact Or.inr rfl)) zc4))))
  (w_s (zdY (zS (zbh K rfl) (w_v 1) (zS (zM K rfl) (w_v 0) zp (fun _ _=>rfl)) (fun _ _=>rfl)) (zc5 K rfl rfl (w_g (zaa (i:=4) zbx.nd rfl (by first | exact Or.inl rfl | exact Or.inr rfl)) (w_g (zaa (i:=5) zbx.nd rfl (by first | exact Or.inl rfl | exact Or.inr rfl)) zc4))))
  (w_s (zbg (zQ za5 (zS (zM K rfl) (w_v 0) zp (fun _ _=>rfl)) zL (zP _)) (zW (zaj (zad (w_a (zR zaH (w_v 2) (w_v 4)) (w_a (zR zaH (w_v 3) (w_v 5)) zi))))) zak)
  (w_s (zbg (zQ za5 (zS (zM K rfl) (w_v 0) zp (fun _ _=>rfl)) zL (zP _)) (zW (zaj (zad (w_a (zR zaH (w_v 2) (w_v 5)) (w_a (zR zaH (w_v 3) (w_v 4)) zi))))) zak)
  (zW (zaj (zad (w_a (zbN (zlR rfl) rfl (hB "max" (by decide)) PyProof.Rows.boot_max (w_a (zR zaH (w_v 2) (w_v 5)) (w_a (zR zaH (w_v 4) (w_v 3)) zi))) (w_a (zR zaH (w_v 3) (w_v 5)) zi)))))))))),
  (zw (zay (zk4 (zF (zr zaz (zr zy (zf 0) zq) zN)) (zF (zr zaz (zr zy (zf 0) zq) zN))) (zas (zae (zd zq (zd zq zn)))) zal)
  (zw (zfD (zr zaL (zf 1) (zr zy (zf 0) zq)) (zc9 (zaW (zab (by decide)) (zaW (zab (by decide)) zc8))))
  (zw (zfD (zr zaL (zf 1) (zr zy (zf 0) zq)) (zc9 (zaW (zab (by decide)) (zaW (zab (by decide)) zc8))))
  (zw (zay (zF (zr zaz (zr zy (zf 0) zq) zN)) (zas (zae (zd (zr zaI (zf 2) (zf 4)) (zd (zr zaI (zf 3) (zf 5)) zn)))) zal)
  (zw (zay (zF (zr zaz (zr zy (zf 0) zq) zN)) (zas (zae (zd (zr zaI (zf 2) (zf 5)) (zd (zr zaI (zf 3) (zf 4)) zn)))) zal)
  (zas (zae (zd (zbr zpP (zd (zr zaI (zf 2) (zf 5)) (zd (zr zaI (zf 4) (zf 3)) zn))) (zd (zr zaI (zf 3) (zf 5)) zn)))))))))⟩
noncomputable def ziw:MS:=(zv (zK 3 (zx zX (zb (mOp zJ (ze 0) (mC (.int 1))) (zb (ze 2) zm))))
  (zv (zK 4 (mOp za3 (mOp zba (mOp zJ (ze 0) (mC (.int 0))) (mOp zcZ (ze 2) (ze 3))) (mOp zba (ze 1) (mOp zcZ (mOp zJ (ze 0) (mC (.int 1))) (ze 3)))))
  (zv (zK 5 (zx zX (zb (mCB (f1 zi4) (zb (ze 4) zm)) (zb (ze 3) zm))))
  (zaq (zY (zb (mOp zcZ (ze 4) (ze 5)) (zb (mOp zba (mOp zcZ (mOp zJ (ze 0) (mC (.int 1))) (ze 3)) (mOp zcZ (ze 2) (ze 5))) zm)))))))
noncomputable def zc2:FD:=zb3 6 [0,1,2] ziw
theorem zov(F:Fun K "added" "added" zeo f fd)(hB:Bl mg ["abs", "enumerate", "len", "int", "range", "tuple", "dict", "zip", "max", "isinstance", "ValueError", "bool", "list", "repr"])(hT:XT K zbi xfl)(c_common_factor:Cal P w K mg base "common_factor" 1 ["one", "other"] (spV K 2 zX)):FnOk P w K mg base CX0 2 f fd ["one", "above", "beneath"] (spV K 3 zc2) :=
 F.okV (n:=3) (nn:=6) (pn:=[0,1,2]) (m:=ziw) ze6 rfl rfl (by decide) fun cdv A outer s H E hr=>⟨_,(w_s (zT (i:=3) ze6.nd rfl (by first | exact Or.inl rfl | exact Or.inr rfl) (zB c_common_factor (hr.mono (by decide)) rfl (w_a (zS (zM K rfl) (w_v 0) zp (fun _ _=>rfl)) (w_a (w_v 2) zi))))
  (w_s (zT (i:=4) ze6.nd rfl (by first | exact Or.inl rfl | exact Or.inr rfl) (zR zaH (zR zaX (zS (zM K rfl) (w_v 0) zp (fun _ _=>rfl)) (zR zbH (w_v 2) (w_v 3))) (zR zaX (w_v 1) (zR zbH (zS (zM K rfl) (w_v 0) zp (fun _ _=>rfl)) (w_v 3)))))
  (w_s (zT (i:=5) ze6.nd rfl (by first | exact Or.inl rfl | exact Or.inr rfl) (zB c_common_factor (hr.mono (by decide)) rfl (w_a (zbN zdX rfl (hB "abs" (by decide)) PyProof.Rows.boot_abs (w_a (w_v 4) zi)) (w_a (w_v 3) zi))))
  (zW (zaj (zad (w_a (zR zbH (w_v 4) (w_v 5)) (w_a (zR zaX (zR zbH (zS (zM K rfl) (w_v 0) zp (fun _ _=>rfl)) (w_v 3)) (zR zbH (w_v 2) (w_v 5))) zi)))))))),
  (zw (zO (by decide) (zC (zd (zr zy (zf 0) zq) (zd (zf 2) zn)) (zj (zj zA))))
  (zw (zO (by decide) (zr zaI (zr zaY (zr zy (zf 0) zq) (zr zcj (zf 2) (zf 3))) (zr zaY (zf 1) (zr zcj (zr zy (zf 0) zq) (zf 3)))))
  (zw (zO (by decide) (zC (zd (zbr zgp (zd (zf 4) zn)) (zd (zf 3) zn)) (zj (zj zA))))
  (zas (zae (zd (zr zcj (zf 4) (zf 5)) (zd (zr zaY (zr zcj (zr zy (zf 0) zq) (zf 3)) (zr zcj (zf 2) (zf 5))) zn)))))))⟩
noncomputable def zix:MS:=(zv (zK 2 (zx zX (zb (mCB (f1 zi4) (zb (mOp zJ (ze 0) (mC (.int 0))) zm)) (zb (mOp zJ (ze 1) (mC (.int 1))) zm))))
  (zv (zK 3 (zx zX (zb (mCB (f1 zi4) (zb (mOp zJ (ze 1) (mC (.int 0))) zm)) (zb (mOp zJ (ze 0) (mC (.int 1))) zm))))
  (zaq (zY (zb (mOp zba (mOp zcZ (mOp zJ (ze 0) (mC (.int 0))) (ze 2)) (mOp zcZ (mOp zJ (ze 1) (mC (.int 0))) (ze 3))) (zb (mOp zba (mOp zcZ (mOp zJ (ze 0) (mC (.int 1))) (ze 3)) (mOp zcZ (mOp zJ (ze 1) (mC (.int 1))) (ze 2))) zm))))))
noncomputable def zcI:FD:=zb3 4 [0,1] zix
theorem zow(F:Fun K "times" "times" zep f fd)(hB:Bl mg ["abs", "enumerate", "len", "int", "range", "tuple", "dict", "zip", "max", "isinstance", "ValueError", "bool", "list", "repr"])(hT:XT K zbi xfl)(c_common_factor:Cal P w K mg base "common_factor" 1 ["one", "other"] (spV K 2 zX)):FnOk P w K mg base CX0 2 f fd ["one", "other"] (spV K 2 zcI) :=
 F.okV (n:=2) (nn:=4) (pn:=[0,1]) (m:=zix) zgG rfl rfl (by decide) fun cdv A outer s H E hr=>⟨_,(w_s (zT (i:=2) zgG.nd rfl (by first | exact Or.inl rfl | exact Or.inr rfl) (zB c_common_factor (hr.mono (by decide)) rfl (w_a (zbN zdX rfl (hB "abs" (by decide)) PyProof.Rows.boot_abs (w_a (zS (zM K rfl) (w_v 0) zp (fun _ _=>rfl)) zi)) (w_a (zS (zM K rfl) (w_v 1) zp (fun _ _=>rfl)) zi))))
  (w_s (zT (i:=3) zgG.nd rfl (by first | exact Or.inl rfl | exact Or.inr rfl) (zB c_common_factor (hr.mono (by decide)) rfl (w_a (zbN zdX rfl (hB "abs" (by decide)) PyProof.Rows.boot_abs (w_a (zS (zM K rfl) (w_v 1) zp (fun _ _=>rfl)) zi)) (w_a (zS (zM K rfl) (w_v 0) zp (fun _ _=>rfl)) zi))))
  (zW (zaj (zad (w_a (zR zaX (zR zbH (zS (zM K rfl) (w_v 0) zp (fun _ _=>rfl)) (w_v 2)) (zR zbH (zS (zM K rfl) (w_v 1) zp (fun _ _=>rfl)) (w_v 3))) (w_a (zR zaX (zR zbH (zS (zM K rfl) (w_v 0) zp (fun _ _=>rfl)) (w_v 3)) (zR zbH (zS (zM K rfl) (w_v 1) zp (fun _ _=>rfl)) (w_v 2))) zi))))))),
  (zw (zO (by decide) (zC (zd (zbr zgp (zd (zr zy (zf 0) zq) zn)) (zd (zr zy (zf 1) zq) zn)) (zj (zj zA))))
  (zw (zO (by decide) (zC (zd (zbr zgp (zd (zr zy (zf 1) zq) zn)) (zd (zr zy (zf 0) zq) zn)) (zj (zj zA))))
  (zas (zae (zd (zr zaY (zr zcj (zr zy (zf 0) zq) (zf 2)) (zr zcj (zr zy (zf 1) zq) (zf 3))) (zd (zr zaY (zr zcj (zr zy (zf 0) zq) (zf 3)) (zr zcj (zr zy (zf 1) zq) (zf 2))) zn))))))⟩
noncomputable def zdf:MS:=(zv (zK 2 (mC (.str "abcdefghijklmnopqrstuvwxyz")))
  (zv (zK 3 (mLC (zcm (zb (mOp za3 (mC (.int 1)) (zx zk (zb (ze 0) (zb (mC (.int 4)) zm)))) zm)) 1 [0,2] (zH 0) zjd (mOp zkk (ze 2) (zx zk (zb (ze 1) (zb (mC (.int 26)) zm))))))
  (zv (zK 4 (zx zk (zb (ze 0) (zb (mCB (f1 zbF) (zb (ze 3) zm)) zm))))
  (zv (zK 5 (zx zk (zb (ze 0) (zb (mC (.int 26)) zm))))
  (zv (zK 6 (zbq zm))
  (zv (zdb (zcm (zb (ze 1) zm)) (zH 7) (zv (zK 8 (mOp zkk (ze 2) (mOp zdV (mOp za3 (ze 5) (mOp zdC (mC (.int 7)) (ze 7))) (mC (.int 26)))))
  (zv (zK 9 (mOp ze0 (mOp ze0 (mM1 tyS zhD (mC (.str "")) (mSl zg4 (ze 3) zbO (zdr (ze 4)))) (ze 8)) (mM1 tyS zhD (mC (.str "")) (mSl zg4 (ze 3) (zdr (mOp za3 (ze 4) (mC (.int 1)))) zbO))))
  (zv (zK 9 (mOp ze0 (ze 9) (mOp zjh (mC (.str "q")) (zx zk (zb (ze 0) (zb (mC (.int 2)) zm))))))
  (zv (zah (mOr (mB (mOp (fIn false) (ze 9) (ze 6))) (mB (mOp (fIn false) (ze 9) (zY (zb (mC (.str "part")) (zb (mC (.str "end")) (zb (mC (.str "give")) (zb (mC (.str "rounds")) (zb (mC (.str "letters")) zm))))))))) (zK 9 (mOp ze0 (mC (.str "zz")) (mOp zkk (ze 2) (ze 7)))) zU)
  (za9 (zb7 6 (ze 9))))))))
  (zv (zah (mB (mOp (zai false) (zx zk (zb (ze 0) (zb (mC (.int 5)) zm))) (mC (.int 0)))) (zv (zK 10 (mOp zaS (zbq (zb (mC (.str "ends")) (zb (mC (.str "pa")) (zb (mC (.str "gives")) (zb (mC (.str "giv")) (zb (mC (.str "x")) (zb (mC (.str "y")) (zb (mC (.str "r")) (zb (mC (.str "rk")) zm))))))))) (zx zk (zb (ze 0) (zb (mC (.int 8)) zm)))))
  (zah (mB (mOp (fIn true) (ze 10) (ze 6))) (zeC 6 (ze 10) (zx zk (zb (ze 0) (zb (ze 1) zm)))) zU)) zU)
  (zaq (mCB (f1 zcC) (zb (ze 6) zm))))))))))
noncomputable def zbo:FD:=zb3 11 [0,1] zdf
theorem zgK(F:Fun K "_law_names" "_law_names" zby f fd)(hB:Bl mg ["abs", "enumerate", "len", "int", "range", "tuple", "dict", "zip", "max", "isinstance", "ValueError", "bool", "list", "repr"])(hT:XT K zbi xfl)(c_n_law_take:Cal P w K mg base "_law_take" 1 ["_law_box_here", "_law_wide"] (spV K 2 zk)):FnOk P w K mg base CX0 2 f fd ["_law_box_here", "_law_many"] (spV K 2 zbo) :=
 F.okV (n:=2) (nn:=11) (pn:=[0,1]) (m:=zdf) zan rfl rfl (by decide) fun cdv A outer s H E hr=>⟨_,(w_s (zT (i:=2) zan.nd rfl (by first | exact Or.inl rfl | exact Or.inr rfl) zL)
  (w_s (zm7 (i:=3) zan.nd rfl (by first | exact Or.inl rfl | exact Or.inr rfl) 1 ["_law_k"] rfl rfl ⟨rfl,by decide,by decide,by decide,by decide⟩ (.cons (j:=0) rfl (.inl rfl) rfl (.cons (j:=2) rfl (.inl rfl) rfl .nil)) rfl (zbI rfl (hB "range" (by decide)) (w_a (zR zaH zp (zB c_n_law_take (hr.mono (by decide)) rfl (w_a (w_v 0) (w_a zp zi)))) zi)) (fun _ _ _ _=>(zaa (i:=0) (by show List.Nodup (["_law_k", "_law_box_here", "_law_alphabet"]:List Str); decide) rfl (by first | exact Or.inl rfl | exact Or.inr rfl))) (zeP (by decide)) (fun _ _ _ _=>zgl) (fun _ _ _ _=>(zS zjS (w_v 2) (zB c_n_law_take (hr.mono (by decide)) rfl (w_a (w_v 1) (w_a zp zi))) (fun _ _=>rfl))))
  (w_s (zT (i:=4) zan.nd rfl (by first | exact Or.inl rfl | exact Or.inr rfl) (zB c_n_law_take (hr.mono (by decide)) rfl (w_a (w_v 0) (w_a (zbN (zcG K rfl) rfl (hB "len" (by decide)) PySem.boot_len (w_a (w_v 3) zi)) zi))))
  (w_s (zT (i:=5) zan.nd rfl (by first | exact Or.inl rfl | exact Or.inr rfl) (zB c_n_law_take (hr.mono (by decide)) rfl (w_a (w_v 0) (w_a zp zi))))
  (w_s (zT (i:=6) zan.nd rfl (by first | exact Or.inl rfl | exact Or.inr rfl) (zbY zi))
  (w_s (zdl PassesOwn.never rfl (zbI rfl (hB "range" (by decide)) (w_a (w_v 1) zi)) (zaa (i:=7) zan.nd rfl (by first | exact Or.inl rfl | exact Or.inr rfl)) (w_s (zT (i:=8) zan.nd rfl (by first | exact Or.inl rfl | exact Or.inr rfl) (zS zjS (w_v 2) (zR zcL (zR zaH (w_v 5) (zR zc3 zp (w_v 7))) zp) (fun _ _=>rfl)))
  (w_s (zT (i:=9) zan.nd rfl (by first | exact Or.inl rfl | exact Or.inr rfl) (zR zdx (zR zdx (zer K rfl PySem.F.plainAttrs_str PySem.F.slot_str_join PySem.F.type_str_join (zkZ K rfl) zL (w_a (zeh (zkW K rfl) (w_v 3) zef (zeg (w_v 4))) zi)) (w_v 8)) (zer K rfl PySem.F.plainAttrs_str PySem.F.slot_str_join PySem.F.type_str_join (zkZ K rfl) zL (w_a (zeh (zkW K rfl) (w_v 3) (zeg (zR zaH (w_v 4) zp)) zef) zi))))
  (w_s (zT (i:=9) zan.nd rfl (by first | exact Or.inl rfl | exact Or.inr rfl) (zR zdx (w_v 9) (zR zj2 zL (zB c_n_law_take (hr.mono (by decide)) rfl (w_a (w_v 0) (w_a zp zi))))))
  (w_s (zcA (zbg (zgj (zkV (zQ (zvR K rfl) (w_v 9) (w_v 6) rfl) (zhV (zQ (zvR K rfl) (w_v 9) (zad (w_a zL (w_a zL (w_a zL (w_a zL (w_a zL zi)))))) rfl)))) (zW (zT (i:=9) zan.nd rfl (by first | exact Or.inl rfl | exact Or.inr rfl) (zR zdx zL (zS zjS (w_v 2) (w_v 7) (fun _ _=>rfl))))) zak))
  (zW (zci (zer K rfl PySem.F.plainAttrs_list PySem.F.slot_list_append PySem.F.type_list_append zbc (w_v 6) (w_a (w_v 9) zi)))))))))
  (w_s (zcA (zbg (zQ za5 (zB c_n_law_take (hr.mono (by decide)) rfl (w_a (w_v 0) (w_a zp zi))) zp (zP _)) (w_s (zT (i:=10) zan.nd rfl (by first | exact Or.inl rfl | exact Or.inr rfl) (zS (zbh K rfl) (zbY (w_a zL (w_a zL (w_a zL (w_a zL (w_a zL (w_a zL (w_a zL (w_a zL zi))))))))) (zB c_n_law_take (hr.mono (by decide)) rfl (w_a (w_v 0) (w_a zp zi))) (fun _ _=>rfl)))
  (zW (zbg (zQ (zpF K rfl) (w_v 10) (w_v 6) rfl) (zW (zdY (w_v 10) (zj1 (w_v 6) (zB c_n_law_take (hr.mono (by decide)) rfl (w_a (w_v 0) (w_a (w_v 1) zi))) zgf))) zak))) zak))
  (zW (zaj (zfI (zcf K rfl) rfl (hB "tuple" (by decide)) PyProof.Rows.boot_tuple (w_a (w_v 6) zi))))))))))),
  (zw (zO (by decide) zN)
  (zw (zO (by decide) (zmb (nt:=1) (js:=[0,2]) (by decide) (zcn (zd (zr zaI zq (zC (zd (zf 0) (zd zq zn)) (zj (zj zA)))) zn)) (zab (by decide)) zgu (zr zkl (zf 2) (zC (zd (zf 1) (zd zq zn)) (zj (zj zA))))))
  (zw (zO (by decide) (zC (zd (zf 0) (zd (zbr zb1 (zd (zf 3) zn)) zn)) (zj (zj zA))))
  (zw (zO (by decide) (zC (zd (zf 0) (zd zq zn)) (zj (zj zA))))
  (zw (zO (by decide) (zbZ zn))
  (zw (zdo (zcn (zd (zf 1) zn)) (zab (by decide)) (zw (zO (by decide) (zr zkl (zf 2) (zr zcQ (zr zaI (zf 5) (zr zc6 zq (zf 7))) zq)))
  (zw (zO (by decide) (zr zfV (zr zfV (zt0 znJ zld zN (zmc zfU (zf 3) zem (zen (zf 4)))) (zf 8)) (zt0 znJ zld zN (zmc zfU (zf 3) (zen (zr zaI (zf 4) zq)) zem))))
  (zw (zO (by decide) (zr zfV (zf 9) (zr zqz zN (zC (zd (zf 0) (zd zq zn)) (zj (zj zA))))))
  (zw (zcD (zay (zk4 (zF (zr (znQ false) (zf 9) (zf 6))) (zF (zr (znQ false) (zf 9) (zae (zd zN (zd zN (zd zN (zd zN (zd zN zn))))))))) (zO (by decide) (zr zfV zN (zr zkl (zf 2) (zf 7)))) zal))
  (zcl (zdp (i:=6) (zf 9))))))))
  (zw (zcD (zay (zF (zr zaz (zC (zd (zf 0) (zd zq zn)) (zj (zj zA))) zq)) (zw (zO (by decide) (zr zaL (zbZ (zd zN (zd zN (zd zN (zd zN (zd zN (zd zN (zd zN (zd zN zn))))))))) (zC (zd (zf 0) (zd zq zn)) (zj (zj zA)))))
  (zay (zF (zr (znQ true) (zf 10) (zf 6))) (zh8 (i:=6) (zf 10) (zC (zd (zf 0) (zd (zf 1) zn)) (zj (zj zA)))) zal)) zal))
  (zas (zbr zcw (zd (zf 6) zn))))))))))⟩
noncomputable def zdM:MS:=(zaq (zx zz (zb (mOp za3 (mOp zba (mOp zJ (ze 0) (mC (.int 0))) (mOp zJ (ze 1) (mC (.int 1)))) (mOp zba (mOp zJ (ze 1) (mC (.int 0))) (mOp zJ (ze 0) (mC (.int 1))))) (zb (mOp zba (mOp zJ (ze 0) (mC (.int 1))) (mOp zJ (ze 1) (mC (.int 1)))) zm))))
noncomputable def zbn:FD:=zb3 2 [0,1] zdM
theorem zg9(F:Fun K "_law_plus" "_law_plus" zbR f fd)(hB:Bl mg ["abs", "enumerate", "len", "int", "range", "tuple", "dict", "zip", "max", "isinstance", "ValueError", "bool", "list", "repr"])(hT:XT K zbi xfl)(c_n_law_fraction:Cal P w K mg base "_law_fraction" 1 ["_law_n", "_law_d"] (spV K 2 zz)):FnOk P w K mg base CX0 2 f fd ["_law_one", "_law_other"] (spV K 2 zbn) :=
 F.okV (n:=2) (nn:=2) (pn:=[0,1]) (m:=zdM) zg7 rfl rfl (by decide) fun cdv A outer s H E hr=>⟨_,(zW (zaj (zB c_n_law_fraction (hr.mono (by decide)) rfl (w_a (zR zaH (zR zaX (zS (zM K rfl) (w_v 0) zp (fun _ _=>rfl)) (zS (zM K rfl) (w_v 1) zp (fun _ _=>rfl))) (zR zaX (zS (zM K rfl) (w_v 1) zp (fun _ _=>rfl)) (zS (zM K rfl) (w_v 0) zp (fun _ _=>rfl)))) (w_a (zR zaX (zS (zM K rfl) (w_v 0) zp (fun _ _=>rfl)) (zS (zM K rfl) (w_v 1) zp (fun _ _=>rfl))) zi))))),
  (zas (zC (zd (zr zaI (zr zaY (zr zy (zf 0) zq) (zr zy (zf 1) zq)) (zr zaY (zr zy (zf 1) zq) (zr zy (zf 0) zq))) (zd (zr zaY (zr zy (zf 0) zq) (zr zy (zf 1) zq)) zn)) (zj (zj zA))))⟩
noncomputable def zdg:MS:=(zaq (zx zz (zb (mOp zba (mOp zJ (ze 0) (mC (.int 0))) (mOp zJ (ze 1) (mC (.int 0)))) (zb (mOp zba (mOp zJ (ze 0) (mC (.int 1))) (mOp zJ (ze 1) (mC (.int 1)))) zm))))
noncomputable def zbC:FD:=zb3 2 [0,1] zdg
theorem zgL(F:Fun K "_law_times" "_law_times" zbz f fd)(hB:Bl mg ["abs", "enumerate", "len", "int", "range", "tuple", "dict", "zip", "max", "isinstance", "ValueError", "bool", "list", "repr"])(hT:XT K zbi xfl)(c_n_law_fraction:Cal P w K mg base "_law_fraction" 1 ["_law_n", "_law_d"] (spV K 2 zz)):FnOk P w K mg base CX0 2 f fd ["_law_one", "_law_other"] (spV K 2 zbC) :=
 F.okV (n:=2) (nn:=2) (pn:=[0,1]) (m:=zdg) zgH rfl rfl (by decide) fun cdv A outer s H E hr=>⟨_,(zW (zaj (zB c_n_law_fraction (hr.mono (by decide)) rfl (w_a (zR zaX (zS (zM K rfl) (w_v 0) zp (fun _ _=>rfl)) (zS (zM K rfl) (w_v 1) zp (fun _ _=>rfl))) (w_a (zR zaX (zS (zM K rfl) (w_v 0) zp (fun _ _=>rfl)) (zS (zM K rfl) (w_v 1) zp (fun _ _=>rfl))) zi))))),
  (zas (zC (zd (zr zaY (zr zy (zf 0) zq) (zr zy (zf 1) zq)) (zd (zr zaY (zr zy (zf 0) zq) (zr zy (zf 1) zq)) zn)) (zj (zj zA))))⟩
noncomputable def zcV:MS:=(zv (zK 1 (zx zk (zb (ze 0) (zb (mC (.int 12)) zm))))
  (zv (zah (mB (mOp fLt (ze 1) (mC (.int 7)))) (zaq (mOp zaS (zbq (zb (zY (zb (mC (.int 0)) (zb (mC (.int 1)) zm))) (zb (zY (zb (mC (.int 1)) (zb (mC (.int 1)) zm))) (zb (zY (zb (mC (.int 1)) (zb (mC (.int 1)) zm))) (zb (zY (zb (mUn zgo (mC (.int 1))) (zb (mC (.int 1)) zm))) (zb (zY (zb (mC (.int 2)) (zb (mC (.int 1)) zm))) (zb (zY (zb (mC (.int 1)) (zb (mC (.int 2)) zm))) (zb (zY (zb (mUn zgo (mC (.int 2))) (zb (mC (.int 3)) zm))) zm)))))))) (ze 1))) zU)
  (zv (zah (mB (mOp fLt (ze 1) (mC (.int 11)))) (zaq (zx zz (zb (mOp zd1 (zx zk (zb (ze 0) (zb (mC (.int 19)) zm))) (mC (.int 9))) (zb (mOp za3 (mC (.int 1)) (zx zk (zb (ze 0) (zb (mC (.int 4)) zm)))) zm)))) zU)
  (zaq (zx zz (zb (mOp zd1 (zx zk (zb (ze 0) (zb (mC (.int 1999999)) zm))) (mC (.int 999999))) (zb (mOp za3 (mC (.int 1)) (zx zk (zb (ze 0) (zb (mC (.int 4)) zm)))) zm)))))))
noncomputable def zao:FD:=zb3 2 [0] zcV
theorem zfN(F:Fun K "_law_number" "_law_number" zbs f fd)(hB:Bl mg ["abs", "enumerate", "len", "int", "range", "tuple", "dict", "zip", "max", "isinstance", "ValueError", "bool", "list", "repr"])(hT:XT K zbi xfl)(c_n_law_take:Cal P w K mg base "_law_take" 1 ["_law_box_here", "_law_wide"] (spV K 2 zk))(c_n_law_fraction:Cal P w K mg base "_law_fraction" 1 ["_law_n", "_law_d"] (spV K 2 zz)):FnOk P w K mg base CX0 2 f fd ["_law_box_here"] (spV K 1 zao) :=
 F.okV (n:=1) (nn:=2) (pn:=[0]) (m:=zcV) zdS rfl rfl (by decide) fun cdv A outer s H E hr=>⟨_,(w_s (zT (i:=1) zdS.nd rfl (by first | exact Or.inl rfl | exact Or.inr rfl) (zB c_n_law_take (hr.mono (by decide)) rfl (w_a (w_v 0) (w_a zp zi))))
  (w_s (zbg (zQ zga (w_v 1) zp (zP _)) (zW (zaj (zS (zbh K rfl) (zbY (w_a (zad (w_a zp (w_a zp zi))) (w_a (zad (w_a zp (w_a zp zi))) (w_a (zad (w_a zp (w_a zp zi))) (w_a (zad (w_a (zl2 zfc zp) (w_a zp zi))) (w_a (zad (w_a zp (w_a zp zi))) (w_a (zad (w_a zp (w_a zp zi))) (w_a (zad (w_a (zl2 zfc zp) (w_a zp zi))) zi)))))))) (w_v 1) (fun _ _=>rfl)))) zak)
  (w_s (zbg (zQ zga (w_v 1) zp (zP _)) (zW (zaj (zB c_n_law_fraction (hr.mono (by decide)) rfl (w_a (zR zcz (zB c_n_law_take (hr.mono (by decide)) rfl (w_a (w_v 0) (w_a zp zi))) zp) (w_a (zR zaH zp (zB c_n_law_take (hr.mono (by decide)) rfl (w_a (w_v 0) (w_a zp zi)))) zi))))) zak)
  (zW (zaj (zB c_n_law_fraction (hr.mono (by decide)) rfl (w_a (zR zcz (zB c_n_law_take (hr.mono (by decide)) rfl (w_a (w_v 0) (w_a zp zi))) zp) (w_a (zR zaH zp (zB c_n_law_take (hr.mono (by decide)) rfl (w_a (w_v 0) (w_a zp zi)))) zi)))))))),
  (zw (zO (by decide) (zC (zd (zf 0) (zd zq zn)) (zj (zj zA))))
  (zw (zay (zF (zr zgn (zf 1) zq)) (zas (zr zaL (zbZ (zd (zae (zd zq (zd zq zn))) (zd (zae (zd zq (zd zq zn))) (zd (zae (zd zq (zd zq zn))) (zd (zae (zd (zi3 zfh zq) (zd zq zn))) (zd (zae (zd zq (zd zq zn))) (zd (zae (zd zq (zd zq zn))) (zd (zae (zd (zi3 zfh zq) (zd zq zn))) zn)))))))) (zf 1))) zal)
  (zw (zay (zF (zr zgn (zf 1) zq)) (zas (zC (zd (zr zcB (zC (zd (zf 0) (zd zq zn)) (zj (zj zA))) zq) (zd (zr zaI zq (zC (zd (zf 0) (zd zq zn)) (zj (zj zA)))) zn)) (zj (zj zA)))) zal)
  (zas (zC (zd (zr zcB (zC (zd (zf 0) (zd zq zn)) (zj (zj zA))) zq) (zd (zr zaI zq (zC (zd (zf 0) (zd zq zn)) (zj (zj zA)))) zn)) (zj (zj zA)))))))⟩
noncomputable def zdh:MS:=(zaq (zx zz (zb (mOp zd1 (zx zk (zb (ze 0) (zb (mC (.int 11)) zm))) (mC (.int 5))) (zb (mOp za3 (mC (.int 1)) (zx zk (zb (ze 0) (zb (mC (.int 3)) zm)))) zm))))
noncomputable def zaF:FD:=zb3 1 [0] zdh
theorem zgM(F:Fun K "_law_small" "_law_small" zbA f fd)(hB:Bl mg ["abs", "enumerate", "len", "int", "range", "tuple", "dict", "zip", "max", "isinstance", "ValueError", "bool", "list", "repr"])(hT:XT K zbi xfl)(c_n_law_take:Cal P w K mg base "_law_take" 1 ["_law_box_here", "_law_wide"] (spV K 2 zk))(c_n_law_fraction:Cal P w K mg base "_law_fraction" 1 ["_law_n", "_law_d"] (spV K 2 zz)):FnOk P w K mg base CX0 2 f fd ["_law_box_here"] (spV K 1 zaF) :=
 F.okV (n:=1) (nn:=1) (pn:=[0]) (m:=zdh) zgI rfl rfl (by decide) fun cdv A outer s H E hr=>⟨_,(zW (zaj (zB c_n_law_fraction (hr.mono (by decide)) rfl (w_a (zR zcz (zB c_n_law_take (hr.mono (by decide)) rfl (w_a (w_v 0) (w_a zp zi))) zp) (w_a (zR zaH zp (zB c_n_law_take (hr.mono (by decide)) rfl (w_a (w_v 0) (w_a zp zi)))) zi))))),
  (zas (zC (zd (zr zcB (zC (zd (zf 0) (zd zq zn)) (zj (zj zA))) zq) (zd (zr zaI zq (zC (zd (zf 0) (zd zq zn)) (zj (zj zA)))) zn)) (zj (zj zA))))⟩
noncomputable def zcF:MS:=(zv (zK 3 (zx zk (zb (ze 1) (zb (mOp zd1 (ze 2) (mC (.int 1))) zm))))
  (zv (zK 4 (zbq (zb (zY (zb (mC (.str "letter")) (zb (zx zk (zb (ze 1) (zb (mCB (f1 zbF) (zb (ze 0) zm)) zm))) zm))) zm)))
  (zv (zdb (zcm (zb (mOp zd1 (ze 2) (mC (.int 1))) zm)) (zH 5) (za9 (zb7 4 (zY (zb (mOp zaS (zbq (zb (mC (.str "plus")) (zb (mC (.str "times")) zm))) (mCB (f1 zeT) (zb (mOp (zai false) (ze 5) (ze 3)) zm))) (zb (ze 5) (zb (ze 5) zm)))))))
  (zaq (zY (zb (ze 0) (zb (mCB (f1 zcC) (zb (ze 4) zm)) zm)))))))
noncomputable def za4:FD:=zb3 6 [0,1,2] zcF
theorem zfu(F:Fun K "_law_doubled" "_law_doubled" zbk f fd)(hB:Bl mg ["abs", "enumerate", "len", "int", "range", "tuple", "dict", "zip", "max", "isinstance", "ValueError", "bool", "list", "repr"])(hT:XT K zbi xfl)(c_n_law_take:Cal P w K mg base "_law_take" 1 ["_law_box_here", "_law_wide"] (spV K 2 zk)):FnOk P w K mg base CX0 2 f fd ["_law_letters", "_law_box_here", "_law_most"] (spV K 3 za4) :=
 F.okV (n:=3) (nn:=6) (pn:=[0,1,2]) (m:=zcF) zbU rfl rfl (by decide) fun cdv A outer s H E hr=>⟨_,(w_s (zT (i:=3) zbU.nd rfl (by first | exact Or.inl rfl | exact Or.inr rfl) (zB c_n_law_take (hr.mono (by decide)) rfl (w_a (w_v 1) (w_a (zR zcz (w_v 2) zp) zi))))
  (w_s (zT (i:=4) zbU.nd rfl (by first | exact Or.inl rfl | exact Or.inr rfl) (zbY (w_a (zad (w_a zL (w_a (zB c_n_law_take (hr.mono (by decide)) rfl (w_a (w_v 1) (w_a (zbN (zcG K rfl) rfl (hB "len" (by decide)) PySem.boot_len (w_a (w_v 0) zi)) zi))) zi))) zi)))
  (w_s (zdl PassesOwn.never rfl (zbI rfl (hB "range" (by decide)) (w_a (zR zcz (w_v 2) zp) zi)) (zaa (i:=5) zbU.nd rfl (by first | exact Or.inl rfl | exact Or.inr rfl)) (zW (zci (zer K rfl PySem.F.plainAttrs_list PySem.F.slot_list_append PySem.F.type_list_append zbc (w_v 4) (w_a (zad (w_a (zS (zbh K rfl) (zbY (w_a zL (w_a zL zi))) (zfI zfd rfl (hB "int" (by decide)) PyProof.Rows.boot_int (w_a (zm5 za5 (w_v 5) (w_v 3) (zP _)) zi)) (fun _ _=>rfl)) (w_a (w_v 5) (w_a (w_v 5) zi)))) zi)))))
  (zW (zaj (zad (w_a (w_v 0) (w_a (zfI (zcf K rfl) rfl (hB "tuple" (by decide)) PyProof.Rows.boot_tuple (w_a (w_v 4) zi)) zi)))))))),
  (zw (zO (by decide) (zC (zd (zf 1) (zd (zr zcB (zf 2) zq) zn)) (zj (zj zA))))
  (zw (zO (by decide) (zbZ (zd (zae (zd zN (zd (zC (zd (zf 1) (zd (zbr zb1 (zd (zf 0) zn)) zn)) (zj (zj zA))) zn))) zn)))
  (zw (zdo (zcn (zd (zr zcB (zf 2) zq) zn)) (zab (by decide)) (zcl (zdp (i:=4) (zae (zd (zr zaL (zbZ (zd zN (zd zN zn))) (zbr zh6 (zd (zr zaz (zf 5) (zf 3)) zn))) (zd (zf 5) (zd (zf 5) zn)))))))
  (zas (zae (zd (zf 0) (zd (zbr zcw (zd (zf 4) zn)) zn)))))))⟩
noncomputable def zed:MS:=(zv (zK 2 (zbq zm))
  (zv (zdb (zcm (zb (mCB (f1 zbF) (zb (ze 0) zm)) zm)) (zH 3) (zv (zK 4 (mOp zJ (ze 0) (ze 3)))
  (zah (mB (mOp (zai false) (mOp zJ (ze 4) (mC (.int 0))) (mC (.str "number")))) (za9 (zb7 2 (mOp zJ (ze 4) (mC (.int 1))))) (zah (mB (mOp (zai false) (mOp zJ (ze 4) (mC (.int 0))) (mC (.str "letter")))) (za9 (zb7 2 (mOp zJ (ze 1) (mOp zJ (ze 4) (mC (.int 1)))))) (zv (zda (mOp zaS (ze 2) (mOp zJ (ze 4) (mC (.int 1)))) (zbG 2 (zaf (zH 5) (zaf (zH 6) zb0))))
  (zv (zda (mOp zaS (ze 2) (mOp zJ (ze 4) (mC (.int 2)))) (zbG 2 (zaf (zH 7) (zaf (zH 8) zb0))))
  (zv (zah (zdm (mB (mOp (zai false) (mOp zJ (ze 4) (mC (.int 0))) (mC (.str "over")))) (mB (mOp (zai false) (ze 7) (mC (.int 0))))) (zaq (zY (zb (mC (.str "refused")) (zb (ze 3) zm)))) zU)
  (zv (zK 9 (zbq (zb (zY (zb (mOp za3 (mOp zba (ze 5) (ze 8)) (mOp zba (ze 7) (ze 6))) (zb (mOp zba (ze 6) (ze 8)) zm))) (zb (zY (zb (mOp zd1 (mOp zba (ze 5) (ze 8)) (mOp zba (ze 7) (ze 6))) (zb (mOp zba (ze 6) (ze 8)) zm))) (zb (zY (zb (mOp zba (ze 5) (ze 7)) (zb (mOp zba (ze 6) (ze 8)) zm))) (zb (zY (zb (mOp zba (ze 5) (ze 8)) (zb (mOp zba (ze 6) (ze 7)) zm))) zm))))))
  (zv (zda (mOp zaS (ze 9) (mM1 tyL zdK (zbq (zb (mC (.str "plus")) (zb (mC (.str "less")) (zb (mC (.str "times")) (zb (mC (.str "over")) zm))))) (mOp zJ (ze 4) (mC (.int 0))))) (zbG 2 (zaf (zH 10) (zaf (zH 11) zb0))))
  (za9 (zb7 2 (zx zz (zb (ze 10) (zb (ze 11) zm))))))))))))))
  (zd3 [0,1] 2)))
noncomputable def zaV:FD:=zb3 12 [0,1] zed
theorem ziy(F:Fun K "_law_due" "_law_due" zch f fd)(hB:Bl mg ["abs", "enumerate", "len", "int", "range", "tuple", "dict", "zip", "max", "isinstance", "ValueError", "bool", "list", "repr"])(hT:XT K zbi xfl)(c_n_law_fraction:Cal P w K mg base "_law_fraction" 1 ["_law_n", "_law_d"] (spV K 2 zz)):FnOk P w K mg base CX0 2 f fd ["_law_rows_here", "_law_point_here"] (spV K 2 zaV) :=
 F.okV (n:=2) (nn:=12) (pn:=[0,1]) (m:=zed) zaO rfl rfl (by decide) fun cdv A outer s H E hr=>⟨_,(w_s (zT (i:=2) zaO.nd rfl (by first | exact Or.inl rfl | exact Or.inr rfl) (zbY zi))
  (w_s (zdl PassesOwn.never rfl (zbI rfl (hB "range" (by decide)) (w_a (zbN (zcG K rfl) rfl (hB "len" (by decide)) PySem.boot_len (w_a (w_v 0) zi)) zi)) (zaa (i:=3) zaO.nd rfl (by first | exact Or.inl rfl | exact Or.inr rfl)) (w_s (zT (i:=4) zaO.nd rfl (by first | exact Or.inl rfl | exact Or.inr rfl) (zS (zM K rfl) (w_v 0) (w_v 3) (fun _ _=>rfl)))
  (zW (zbg (zQ za5 (zS (zM K rfl) (w_v 4) zp (fun _ _=>rfl)) zL (zP _)) (zW (zci (zer K rfl PySem.F.plainAttrs_list PySem.F.slot_list_append PySem.F.type_list_append zbc (w_v 2) (w_a (zS (zM K rfl) (w_v 4) zp (fun _ _=>rfl)) zi)))) (zW (zbg (zQ za5 (zS (zM K rfl) (w_v 4) zp (fun _ _=>rfl)) zL (zP _)) (zW (zci (zer K rfl PySem.F.plainAttrs_list PySem.F.slot_list_append PySem.F.type_list_append zbc (w_v 2) (w_a (zS (zM K rfl) (w_v 1) (zS (zM K rfl) (w_v 4) zp (fun _ _=>rfl)) (fun _ _=>rfl)) zi)))) (w_s (zdY (zS (zbh K rfl) (w_v 2) (zS (zM K rfl) (w_v 4) zp (fun _ _=>rfl)) (fun _ _=>rfl)) (zc5 K rfl rfl (w_g (zaa (i:=5) zaO.nd rfl (by first | exact Or.inl rfl | exact Or.inr rfl)) (w_g (zaa (i:=6) zaO.nd rfl (by first | exact Or.inl rfl | exact Or.inr rfl)) zc4))))
  (w_s (zdY (zS (zbh K rfl) (w_v 2) (zS (zM K rfl) (w_v 4) zp (fun _ _=>rfl)) (fun _ _=>rfl)) (zc5 K rfl rfl (w_g (zaa (i:=7) zaO.nd rfl (by first | exact Or.inl rfl | exact Or.inr rfl)) (w_g (zaa (i:=8) zaO.nd rfl (by first | exact Or.inl rfl | exact Or.inr rfl)) zc4))))
  (w_s (zbg (zgj (zdB (zQ za5 (zS (zM K rfl) (w_v 4) zp (fun _ _=>rfl)) zL (zP _)) (zdA (zQ za5 (w_v 7) zp (zP _))))) (zW (zaj (zad (w_a zL (w_a (w_v 3) zi))))) zak)
  (w_s (zT (i:=9) zaO.nd rfl (by first | exact Or.inl rfl | exact Or.inr rfl) (zbY (w_a (zad (w_a (zR zaH (zR zaX (w_v 5) (w_v 8)) (zR zaX (w_v 7) (w_v 6))) (w_a (zR zaX (w_v 6) (w_v 8)) zi))) (w_a (zad (w_a (zR zcz (zR zaX (w_v 5) (w_v 8)) (zR zaX (w_v 7) (w_v 6))) (w_a (zR zaX (w_v 6) (w_v 8)) zi))) (w_a (zad (w_a (zR zaX (w_v 5) (w_v 7)) (w_a (zR zaX (w_v 6) (w_v 8)) zi))) (w_a (zad (w_a (zR zaX (w_v 5) (w_v 8)) (w_a (zR zaX (w_v 6) (w_v 7)) zi))) zi))))))
  (w_s (zdY (zS (zbh K rfl) (w_v 9) (zer K rfl PySem.F.plainAttrs_list PySem.F.slot_list_index PySem.F.type_list_index (zm9 K) (zbY (w_a zL (w_a zL (w_a zL (w_a zL zi))))) (w_a (zS (zM K rfl) (w_v 4) zp (fun _ _=>rfl)) zi)) (fun _ _=>rfl)) (zc5 K rfl rfl (w_g (zaa (i:=10) zaO.nd rfl (by first | exact Or.inl rfl | exact Or.inr rfl)) (w_g (zaa (i:=11) zaO.nd rfl (by first | exact Or.inl rfl | exact Or.inr rfl)) zc4))))
  (zW (zci (zer K rfl PySem.F.plainAttrs_list PySem.F.slot_list_append PySem.F.type_list_append zbc (w_v 2) (w_a (zB c_n_law_fraction (hr.mono (by decide)) rfl (w_a (w_v 10) (w_a (w_v 11) zi))) zi)))))))))))))))
  (zW (zaj (w_v 2))))),
  (zw (zO (by decide) (zbZ zn))
  (zw (zdo (zcn (zd (zbr zb1 (zd (zf 0) zn)) zn)) (zab (by decide)) (zw (zO (by decide) (zr zy (zf 0) (zf 3)))
  (zay (zF (zr zaz (zr zy (zf 4) zq) zN)) (zcl (zdp (i:=2) (zr zy (zf 4) zq))) (zay (zF (zr zaz (zr zy (zf 4) zq) zN)) (zcl (zdp (i:=2) (zr zy (zf 1) (zr zy (zf 4) zq)))) (zw (zfD (zr zaL (zf 2) (zr zy (zf 4) zq)) (zc9 (zaW (zab (by decide)) (zaW (zab (by decide)) zc8))))
  (zw (zfD (zr zaL (zf 2) (zr zy (zf 4) zq)) (zc9 (zaW (zab (by decide)) (zaW (zab (by decide)) zc8))))
  (zw (zay (zdD (zF (zr zaz (zr zy (zf 4) zq) zN)) (zF (zr zaz (zf 7) zq))) (zas (zae (zd zN (zd (zf 3) zn)))) zal)
  (zw (zO (by decide) (zbZ (zd (zae (zd (zr zaI (zr zaY (zf 5) (zf 8)) (zr zaY (zf 7) (zf 6))) (zd (zr zaY (zf 6) (zf 8)) zn))) (zd (zae (zd (zr zcB (zr zaY (zf 5) (zf 8)) (zr zaY (zf 7) (zf 6))) (zd (zr zaY (zf 6) (zf 8)) zn))) (zd (zae (zd (zr zaY (zf 5) (zf 7)) (zd (zr zaY (zf 6) (zf 8)) zn))) (zd (zae (zd (zr zaY (zf 5) (zf 8)) (zd (zr zaY (zf 6) (zf 7)) zn))) zn))))))
  (zw (zfD (zr zaL (zf 9) (zt0 zt1 zos (zbZ (zd zN (zd zN (zd zN (zd zN zn))))) (zr zy (zf 4) zq))) (zc9 (zaW (zab (by decide)) (zaW (zab (by decide)) zc8))))
  (zcl (zdp (i:=2) (zC (zd (zf 10) (zd (zf 11) zn)) (zj (zj zA))))))))))))))
  (zgr (i:=2))))⟩
noncomputable def zkE:MS:=(zaq (zx zc2 (zb (ze 0) (zb (mOp zJ (ze 1) (mC (.int 0))) (zb (mOp zJ (ze 1) (mC (.int 1))) zm)))))
noncomputable def zfv:FD:=zb3 2 [0,1] zkE
theorem zrf(F:Fun K "plus" "plus" zfq f fd)(hB:Bl mg ["abs", "enumerate", "len", "int", "range", "tuple", "dict", "zip", "max", "isinstance", "ValueError", "bool", "list", "repr"])(hT:XT K zbi xfl)(c_added:Cal P w K mg base "added" 2 ["one", "above", "beneath"] (spV K 3 zc2)):FnOk P w K mg base CX0 3 f fd ["one", "other"] (spV K 2 zfv) :=
 F.okV (n:=2) (nn:=2) (pn:=[0,1]) (m:=zkE) zrc rfl rfl (by decide) fun cdv A outer s H E hr=>⟨_,(zW (zaj (zB c_added (hr.mono (by decide)) rfl (w_a (w_v 0) (w_a (zS (zM K rfl) (w_v 1) zp (fun _ _=>rfl)) (w_a (zS (zM K rfl) (w_v 1) zp (fun _ _=>rfl)) zi)))))),
  (zas (zC (zd (zf 0) (zd (zr zy (zf 1) zq) (zd (zr zy (zf 1) zq) zn))) (zj (zj (zj zA)))))⟩
noncomputable def zkF:MS:=(zaq (zx zc2 (zb (ze 0) (zb (mUn zgo (mOp zJ (ze 1) (mC (.int 0)))) (zb (mOp zJ (ze 1) (mC (.int 1))) zm)))))
noncomputable def zfw:FD:=zb3 2 [0,1] zkF
theorem zrg(F:Fun K "less" "less" zfr f fd)(hB:Bl mg ["abs", "enumerate", "len", "int", "range", "tuple", "dict", "zip", "max", "isinstance", "ValueError", "bool", "list", "repr"])(hT:XT K zbi xfl)(c_added:Cal P w K mg base "added" 2 ["one", "above", "beneath"] (spV K 3 zc2)):FnOk P w K mg base CX0 3 f fd ["one", "other"] (spV K 2 zfw) :=
 F.okV (n:=2) (nn:=2) (pn:=[0,1]) (m:=zkF) zrd rfl rfl (by decide) fun cdv A outer s H E hr=>⟨_,(zW (zaj (zB c_added (hr.mono (by decide)) rfl (w_a (w_v 0) (w_a (zl2 zfc (zS (zM K rfl) (w_v 1) zp (fun _ _=>rfl))) (w_a (zS (zM K rfl) (w_v 1) zp (fun _ _=>rfl)) zi)))))),
  (zas (zC (zd (zf 0) (zd (zi3 zfh (zr zy (zf 1) zq)) (zd (zr zy (zf 1) zq) zn))) (zj (zj (zj zA)))))⟩
noncomputable def zkG:MS:=(zv (zah (mB (mOp fLt (mOp zJ (ze 1) (mC (.int 0))) (mC (.int 0)))) (zaq (zx zcI (zb (ze 0) (zb (zY (zb (mUn zgo (mOp zJ (ze 1) (mC (.int 1)))) (zb (mUn zgo (mOp zJ (ze 1) (mC (.int 0)))) zm))) zm)))) zU)
  (zaq (zx zcI (zb (ze 0) (zb (zY (zb (mOp zJ (ze 1) (mC (.int 1))) (zb (mOp zJ (ze 1) (mC (.int 0))) zm))) zm)))))
noncomputable def zfx:FD:=zb3 2 [0,1] zkG
theorem zrh(F:Fun K "over" "over" zfs f fd)(hB:Bl mg ["abs", "enumerate", "len", "int", "range", "tuple", "dict", "zip", "max", "isinstance", "ValueError", "bool", "list", "repr"])(hT:XT K zbi xfl)(c_times:Cal P w K mg base "times" 2 ["one", "other"] (spV K 2 zcI)):FnOk P w K mg base CX0 3 f fd ["one", "other"] (spV K 2 zfx) :=
 F.okV (n:=2) (nn:=2) (pn:=[0,1]) (m:=zkG) zre rfl rfl (by decide) fun cdv A outer s H E hr=>⟨_,(w_s (zbg (zQ zga (zS (zM K rfl) (w_v 1) zp (fun _ _=>rfl)) zp (zP _)) (zW (zaj (zB c_times (hr.mono (by decide)) rfl (w_a (w_v 0) (w_a (zad (w_a (zl2 zfc (zS (zM K rfl) (w_v 1) zp (fun _ _=>rfl))) (w_a (zl2 zfc (zS (zM K rfl) (w_v 1) zp (fun _ _=>rfl))) zi))) zi))))) zak)
  (zW (zaj (zB c_times (hr.mono (by decide)) rfl (w_a (w_v 0) (w_a (zad (w_a (zS (zM K rfl) (w_v 1) zp (fun _ _=>rfl)) (w_a (zS (zM K rfl) (w_v 1) zp (fun _ _=>rfl)) zi))) zi)))))),
  (zw (zay (zF (zr zgn (zr zy (zf 1) zq) zq)) (zas (zC (zd (zf 0) (zd (zae (zd (zi3 zfh (zr zy (zf 1) zq)) (zd (zi3 zfh (zr zy (zf 1) zq)) zn))) zn)) (zj (zj zA)))) zal)
  (zas (zC (zd (zf 0) (zd (zae (zd (zr zy (zf 1) zq) (zd (zr zy (zf 1) zq) zn))) zn)) (zj (zj zA)))))⟩
noncomputable def zct:MS:=(zv (zK 3 (mCB (f1 ze3) (zb (ze 0) zm)))
  (zv (zdb (mIt zfE (mFz (ze 1))) (zH 4) (zv (zK 5 (zY (zb (mOp zdC (ze 2) (mOp zJ (zdq (ze 1) (ze 4)) (mC (.int 0)))) (zb (mOp zJ (zdq (ze 1) (ze 4)) (mC (.int 1))) zm))))
  (zeY 3 (ze 4) (zx zbn (zb (zfl (ze 3) (ze 4) (zY (zb (mC (.int 0)) (zb (mC (.int 1)) zm)))) (zb (ze 5) zm))))))
  (zv (zK 6 zcR)
  (zv (zdb (mIt zfE (mFz (ze 3))) (zH 4) (zah (mB (mOp (zai true) (mOp zJ (zdq (ze 3) (ze 4)) (mC (.int 0))) (mC (.int 0)))) (zeY 6 (ze 4) (zdq (ze 3) (ze 4))) zU))
  (zd3 [0,1,2] 6)))))
noncomputable def zar:FD:=zb3 7 [0,1,2] zct
theorem ze9(F:Fun K "_law_poly_add" "_law_poly_add" zbe f fd)(hB:Bl mg ["abs", "enumerate", "len", "int", "range", "tuple", "dict", "zip", "max", "isinstance", "ValueError", "bool", "list", "repr"])(hT:XT K zbi xfl)(c_n_law_plus:Cal P w K mg base "_law_plus" 2 ["_law_one", "_law_other"] (spV K 2 zbn)):FnOk P w K mg base CX0 3 f fd ["_law_one", "_law_other", "_law_sign"] (spV K 3 zar) :=
 F.okV (n:=3) (nn:=7) (pn:=[0,1,2]) (m:=zct) zaZ rfl rfl (by decide) fun cdv A outer s H E hr=>⟨_,(w_s (zT (i:=3) zaZ.nd rfl (by first | exact Or.inl rfl | exact Or.inr rfl) (zfI zks rfl (hB "dict" (by decide)) PyProof.Rows.boot_dict (w_a (w_v 0) zi)))
  (w_s (zdl PassesOwn.never rfl (zd0 (zes K rfl (w_v 1))) (zaa (i:=4) zaZ.nd rfl (by first | exact Or.inl rfl | exact Or.inr rfl)) (w_s (zT (i:=5) zaZ.nd rfl (by first | exact Or.inl rfl | exact Or.inr rfl) (zad (w_a (zR zc3 (w_v 2) (zS (zM K rfl) (zdZ hr (w_v 1) (w_v 4)) zp (fun _ _=>rfl))) (w_a (zS (zM K rfl) (zdZ hr (w_v 1) (w_v 4)) zp (fun _ _=>rfl)) zi))))
  (zW (zhX hr (w_v 3) (w_v 4) (zB c_n_law_plus (hr.mono (by decide)) rfl (w_a (zln hr (w_v 3) (w_v 4) (zad (w_a zp (w_a zp zi))) ⟨rfl,rfl,rfl,rfl⟩) (w_a (w_v 5) zi)))))))
  (w_s (zT (i:=6) zaZ.nd rfl (by first | exact Or.inl rfl | exact Or.inr rfl) zeQ)
  (w_s (zdl PassesOwn.never rfl (zd0 (zes K rfl (w_v 3))) (zaa (i:=4) zaZ.nd rfl (by first | exact Or.inl rfl | exact Or.inr rfl)) (zW (zbg (zQ zf9 (zS (zM K rfl) (zdZ hr (w_v 3) (w_v 4)) zp (fun _ _=>rfl)) zp (zP _)) (zW (zhX hr (w_v 6) (w_v 4) (zdZ hr (w_v 3) (w_v 4)))) zak)))
  (zW (zaj (w_v 6))))))),
  (zw (zO (by decide) (zbr zmq (zd (zf 0) zn)))
  (zw (zdo (zeZ (zet (zf 1))) (zab (by decide)) (zw (zO (by decide) (zae (zd (zr zc6 (zf 2) (zr zy (zd6 (zf 1) (zf 4)) zq)) (zd (zr zy (zd6 (zf 1) (zf 4)) zq) zn))))
  (zic (i:=3) (zf 4) (zC (zd (zlo (zf 3) (zf 4) (zae (zd zq (zd zq zn)))) (zd (zf 5) zn)) (zj (zj zA))))))
  (zw (zO (by decide) zeX)
  (zw (zdo (zeZ (zet (zf 3))) (zab (by decide)) (zay (zF (zr zeD (zr zy (zd6 (zf 3) (zf 4)) zq) zq)) (zic (i:=6) (zf 4) (zd6 (zf 3) (zf 4))) zal))
  (zgr (i:=6))))))⟩
noncomputable def zcp:MS:=(zv (zK 2 zcR)
  (zv (zdb (mIt zfE (mFz (ze 0))) (zH 3) (zdb (mIt zfE (mFz (ze 1))) (zH 4) (zv (zK 5 (mCB (f1 zcC) (zb (mLC (zuK (zb (ze 3) (zb (ze 4) zm))) 2 [] (zbG 2 (zaf (zH 0) (zaf (zH 1) zb0))) zjd (mOp za3 (ze 0) (ze 1))) zm)))
  (zv (zK 6 (zx zbC (zb (zdq (ze 0) (ze 3)) (zb (zdq (ze 1) (ze 4)) zm))))
  (zeY 2 (ze 5) (zx zbn (zb (zfl (ze 2) (ze 5) (zY (zb (mC (.int 0)) (zb (mC (.int 1)) zm)))) (zb (ze 6) zm))))))))
  (zv (zK 7 zcR)
  (zv (zdb (mIt zfE (mFz (ze 2))) (zH 5) (zah (mB (mOp (zai true) (mOp zJ (zdq (ze 2) (ze 5)) (mC (.int 0))) (mC (.int 0)))) (zeY 7 (ze 5) (zdq (ze 2) (ze 5))) zU))
  (zd3 [0,1] 7)))))
noncomputable def zu:FD:=zb3 8 [0,1] zcp
theorem zeG(F:Fun K "_law_poly_mult" "_law_poly_mult" za0 f fd)(hB:Bl mg ["abs", "enumerate", "len", "int", "range", "tuple", "dict", "zip", "max", "isinstance", "ValueError", "bool", "list", "repr"])(hT:XT K zbi xfl)(c_n_law_plus:Cal P w K mg base "_law_plus" 2 ["_law_one", "_law_other"] (spV K 2 zbn))(c_n_law_times:Cal P w K mg base "_law_times" 2 ["_law_one", "_law_other"] (spV K 2 zbC)):FnOk P w K mg base CX0 3 f fd ["_law_one", "_law_other"] (spV K 2 zu) :=
 F.okV (n:=2) (nn:=8) (pn:=[0,1]) (m:=zcp) zaw rfl rfl (by decide) fun cdv A outer s H E hr=>⟨_,(w_s (zT (i:=2) zaw.nd rfl (by first | exact Or.inl rfl | exact Or.inr rfl) zeQ)
  (w_s (zdl PassesOwn.never rfl (zd0 (zes K rfl (w_v 0))) (zaa (i:=3) zaw.nd rfl (by first | exact Or.inl rfl | exact Or.inr rfl)) (zW (zdl PassesOwn.never rfl (zd0 (zes K rfl (w_v 1))) (zaa (i:=4) zaw.nd rfl (by first | exact Or.inl rfl | exact Or.inr rfl)) (w_s (zT (i:=5) zaw.nd rfl (by first | exact Or.inl rfl | exact Or.inr rfl) (zfI (zcf K rfl) rfl (hB "tuple" (by decide)) PyProof.Rows.boot_tuple (w_a (ztb 2 ["_law_a", "_law_b"] rfl rfl ⟨rfl,by decide,by decide,by decide,by decide⟩ .nil rfl (zuJ K rfl rfl (hB "zip" (by decide)) (w_a (w_v 3) (w_a (w_v 4) zi))) (fun _ _ _ _=>(zc5 K rfl rfl (w_g (zaa (i:=0) (by show List.Nodup (["_law_a", "_law_b"]:List Str); decide) rfl (by first | exact Or.inl rfl | exact Or.inr rfl)) (w_g (zaa (i:=1) (by show List.Nodup (["_law_a", "_law_b"]:List Str); decide) rfl (by first | exact Or.inl rfl | exact Or.inr rfl)) zc4)))) (zwa (zpZ (zhB (i:=0) (by decide) (zhB (i:=1) (by decide) znx)))) (fun _ _ _ _=>zgl) (fun _ _ _ _=>(zR zaH (w_v 0) (w_v 1)))) zi)))
  (w_s (zT (i:=6) zaw.nd rfl (by first | exact Or.inl rfl | exact Or.inr rfl) (zB c_n_law_times (hr.mono (by decide)) rfl (w_a (zdZ hr (w_v 0) (w_v 3)) (w_a (zdZ hr (w_v 1) (w_v 4)) zi))))
  (zW (zhX hr (w_v 2) (w_v 5) (zB c_n_law_plus (hr.mono (by decide)) rfl (w_a (zln hr (w_v 2) (w_v 5) (zad (w_a zp (w_a zp zi))) ⟨rfl,rfl,rfl,rfl⟩) (w_a (w_v 6) zi))))))))))
  (w_s (zT (i:=7) zaw.nd rfl (by first | exact Or.inl rfl | exact Or.inr rfl) zeQ)
  (w_s (zdl PassesOwn.never rfl (zd0 (zes K rfl (w_v 2))) (zaa (i:=5) zaw.nd rfl (by first | exact Or.inl rfl | exact Or.inr rfl)) (zW (zbg (zQ zf9 (zS (zM K rfl) (zdZ hr (w_v 2) (w_v 5)) zp (fun _ _=>rfl)) zp (zP _)) (zW (zhX hr (w_v 7) (w_v 5) (zdZ hr (w_v 2) (w_v 5)))) zak)))
  (zW (zaj (w_v 7))))))),
  (zw (zO (by decide) zeX)
  (zw (zdo (zeZ (zet (zf 0))) (zab (by decide)) (zdo (zeZ (zet (zf 1))) (zab (by decide)) (zw (zO (by decide) (zbr zcw (zd (zmb (nt:=2) (js:=[]) (by decide) (zuL (zd (zf 3) (zd (zf 4) zn))) (zc9 (zaW (zab (by decide)) (zaW (zab (by decide)) zc8))) zgu (zr zaI (zf 0) (zf 1))) zn)))
  (zw (zO (by decide) (zC (zd (zd6 (zf 0) (zf 3)) (zd (zd6 (zf 1) (zf 4)) zn)) (zj (zj zA))))
  (zic (i:=2) (zf 5) (zC (zd (zlo (zf 2) (zf 5) (zae (zd zq (zd zq zn)))) (zd (zf 6) zn)) (zj (zj zA))))))))
  (zw (zO (by decide) zeX)
  (zw (zdo (zeZ (zet (zf 2))) (zab (by decide)) (zay (zF (zr zeD (zr zy (zd6 (zf 2) (zf 5)) zq) zq)) (zic (i:=7) (zf 5) (zd6 (zf 2) (zf 5))) zal))
  (zgr (i:=7))))))⟩
noncomputable def zdi:MS:=(zaq (mCB (f1 zcC) (zb (mLC (zcm (zb (ze 1) zm)) 1 [0] (zH 0) zjd (zx zaF (zb (ze 1) zm))) zm)))
noncomputable def zbD:FD:=zb3 2 [0,1] zdi
theorem zgN(F:Fun K "_law_point" "_law_point" zbB f fd)(hB:Bl mg ["abs", "enumerate", "len", "int", "range", "tuple", "dict", "zip", "max", "isinstance", "ValueError", "bool", "list", "repr"])(hT:XT K zbi xfl)(c_n_law_small:Cal P w K mg base "_law_small" 2 ["_law_box_here"] (spV K 1 zaF)):FnOk P w K mg base CX0 3 f fd ["_law_box_here", "_law_many"] (spV K 2 zbD) :=
 F.okV (n:=2) (nn:=2) (pn:=[0,1]) (m:=zdi) zgJ rfl rfl (by decide) fun cdv A outer s H E hr=>⟨_,(zW (zaj (zfI (zcf K rfl) rfl (hB "tuple" (by decide)) PyProof.Rows.boot_tuple (w_a (ztb 1 ["_law_k"] rfl rfl ⟨rfl,by decide,by decide,by decide,by decide⟩ (.cons (j:=0) rfl (.inl rfl) rfl .nil) rfl (zbI rfl (hB "range" (by decide)) (w_a (w_v 1) zi)) (fun _ _ _ _=>(zaa (i:=0) (by show List.Nodup (["_law_k", "_law_box_here"]:List Str); decide) rfl (by first | exact Or.inl rfl | exact Or.inr rfl))) (zeP (by decide)) (fun _ _ _ _=>zgl) (fun _ _ _ _=>(zB c_n_law_small (hr.mono (by decide)) rfl (w_a (w_v 1) zi)))) zi)))),
  (zas (zbr zcw (zd (zmb (nt:=1) (js:=[0]) (by decide) (zcn (zd (zf 1) zn)) (zab (by decide)) zgu (zC (zd (zf 1) zn) (zj zA))) zn)))⟩
noncomputable def zcq:MS:=(zv (zK 4 (mCB (f1 zbF) (zb (ze 1) zm)))
  (zv (zK 5 (mOp zaS (zbq (zb (mC (.str "plus")) (zb (mC (.str "less")) (zb (mC (.str "times")) (zb (mC (.str "times")) (zb (mC (.str "over")) (zb (mC (.str "over")) zm))))))) (zx zk (zb (ze 0) (zb (mC (.int 6)) zm)))))
  (zv (zah (mOr (mB (mOp (zai false) (ze 4) (mC (.int 0)))) (mB (mOp fLt (zx zk (zb (ze 0) (zb (mC (.int 9)) zm))) (mC (.int 3))))) (zv (zah (mB (mOp (zai false) (zx zk (zb (ze 0) (zb (mC (.int 3)) zm))) (mC (.int 0)))) (zaq (zY (zb (mC (.str "number")) (zb (zx zao (zb (ze 0) zm)) zm)))) zU)
  (zaq (zY (zb (mC (.str "letter")) (zb (zx zk (zb (ze 0) (zb (ze 2) zm))) zm))))) zU)
  (zv (zK 6 (mOp zaS (zbq (zb (mOp zd1 (ze 4) (mC (.int 1))) (zb (zx zk (zb (ze 0) (zb (ze 4) zm))) zm))) (zx zk (zb (ze 0) (zb (mC (.int 2)) zm)))))
  (zv (zK 7 (zx zk (zb (ze 0) (zb (ze 4) zm))))
  (zv (zK 8 (mLC (zcm (zb (ze 4) zm)) 1 [1] (zH 0) (mB (mOp (zai false) (mOp zJ (mOp zaS (ze 1) (ze 0)) (mC (.int 0))) (mC (.str "times")))) (ze 0)))
  (zv (zah (zdm (mB (mOp (zai false) (ze 5) (mC (.str "over")))) (zdm (mB (mOp (zai false) (ze 3) (mC (.int 1)))) (mB (mOp fGt (mCB (f1 zbF) (zb (ze 8) zm)) (mC (.int 0)))))) (zv (zK 9 (mOp zaS (ze 8) (zx zk (zb (ze 0) (zb (mCB (f1 zbF) (zb (ze 8) zm)) zm)))))
  (zaq (zY (zb (mC (.str "over")) (zb (ze 9) (zb (mOp zJ (mOp zaS (ze 1) (ze 9)) (mOp za3 (mC (.int 1)) (zx zk (zb (ze 0) (zb (mC (.int 2)) zm))))) zm)))))) zU)
  (zv (zah (zdm (mB (mOp (zai false) (ze 5) (mC (.str "over")))) (mB (mOp fLt (ze 3) (mC (.int 2))))) (zK 5 (mC (.str "times"))) zU)
  (zaq (zY (zb (ze 5) (zb (ze 6) (zb (ze 7) zm)))))))))))))
noncomputable def zaP:FD:=zb3 10 [0,1,2,3] zcq
theorem zeH(F:Fun K "_law_drawn_row" "_law_drawn_row" za1 f fd)(hB:Bl mg ["abs", "enumerate", "len", "int", "range", "tuple", "dict", "zip", "max", "isinstance", "ValueError", "bool", "list", "repr"])(hT:XT K zbi xfl)(c_n_law_take:Cal P w K mg base "_law_take" 1 ["_law_box_here", "_law_wide"] (spV K 2 zk))(c_n_law_number:Cal P w K mg base "_law_number" 2 ["_law_box_here"] (spV K 1 zao)):FnOk P w K mg base CX0 3 f fd ["_law_box_here", "_law_rows_here", "_law_many", "_law_kind"] (spV K 4 zaP) :=
 F.okV (n:=4) (nn:=10) (pn:=[0,1,2,3]) (m:=zcq) zax rfl rfl (by decide) fun cdv A outer s H E hr=>⟨_,(w_s (zT (i:=4) zax.nd rfl (by first | exact Or.inl rfl | exact Or.inr rfl) (zbN (zcG K rfl) rfl (hB "len" (by decide)) PySem.boot_len (w_a (w_v 1) zi)))
  (w_s (zT (i:=5) zax.nd rfl (by first | exact Or.inl rfl | exact Or.inr rfl) (zS (zbh K rfl) (zbY (w_a zL (w_a zL (w_a zL (w_a zL (w_a zL (w_a zL zi))))))) (zB c_n_law_take (hr.mono (by decide)) rfl (w_a (w_v 0) (w_a zp zi))) (fun _ _=>rfl)))
  (w_s (zbg (zgj (zkV (zQ za5 (w_v 4) zp (zP _)) (zhV (zQ zga (zB c_n_law_take (hr.mono (by decide)) rfl (w_a (w_v 0) (w_a zp zi))) zp (zP _))))) (w_s (zbg (zQ za5 (zB c_n_law_take (hr.mono (by decide)) rfl (w_a (w_v 0) (w_a zp zi))) zp (zP _)) (zW (zaj (zad (w_a zL (w_a (zB c_n_law_number (hr.mono (by decide)) rfl (w_a (w_v 0) zi)) zi))))) zak)
  (zW (zaj (zad (w_a zL (w_a (zB c_n_law_take (hr.mono (by decide)) rfl (w_a (w_v 0) (w_a (w_v 2) zi))) zi)))))) zak)
  (w_s (zT (i:=6) zax.nd rfl (by first | exact Or.inl rfl | exact Or.inr rfl) (zS (zbh K rfl) (zbY (w_a (zR zcz (w_v 4) zp) (w_a (zB c_n_law_take (hr.mono (by decide)) rfl (w_a (w_v 0) (w_a (w_v 4) zi))) zi))) (zB c_n_law_take (hr.mono (by decide)) rfl (w_a (w_v 0) (w_a zp zi))) (fun _ _=>rfl)))
  (w_s (zT (i:=7) zax.nd rfl (by first | exact Or.inl rfl | exact Or.inr rfl) (zB c_n_law_take (hr.mono (by decide)) rfl (w_a (w_v 0) (w_a (w_v 4) zi))))
  (w_s (zm7 (i:=8) zax.nd rfl (by first | exact Or.inl rfl | exact Or.inr rfl) 1 ["_law_n"] rfl rfl ⟨rfl,by decide,by decide,by decide,by decide⟩ (.cons (j:=1) rfl (.inl rfl) rfl .nil) rfl (zbI rfl (hB "range" (by decide)) (w_a (w_v 4) zi)) (fun _ _ _ _=>(zaa (i:=0) (by show List.Nodup (["_law_n", "_law_rows_here"]:List Str); decide) rfl (by first | exact Or.inl rfl | exact Or.inr rfl))) (zeP (by decide)) (fun _ _ _ _=>(zta (zQ za5 (zS (zM K rfl) (zS (zbh K rfl) (w_v 1) (w_v 0) (fun _ _=>rfl)) zp (fun _ _=>rfl)) zL (zP _)))) (fun _ _ _ _=>(w_v 0)))
  (w_s (zbg (zgj (zdB (zQ za5 (w_v 5) zL (zP _)) (zdB (zQ za5 (w_v 3) zp (zP _)) (zdA (zQ zhi (zbN (zcG K rfl) rfl (hB "len" (by decide)) PySem.boot_len (w_a (w_v 8) zi)) zp (zP _)))))) (w_s (zT (i:=9) zax.nd rfl (by first | exact Or.inl rfl | exact Or.inr rfl) (zS (zbh K rfl) (w_v 8) (zB c_n_law_take (hr.mono (by decide)) rfl (w_a (w_v 0) (w_a (zbN (zcG K rfl) rfl (hB "len" (by decide)) PySem.boot_len (w_a (w_v 8) zi)) zi))) (fun _ _=>rfl)))
  (zW (zaj (zad (w_a zL (w_a (w_v 9) (w_a (zS (zM K rfl) (zS (zbh K rfl) (w_v 1) (w_v 9) (fun _ _=>rfl)) (zR zaH zp (zB c_n_law_take (hr.mono (by decide)) rfl (w_a (w_v 0) (w_a zp zi)))) (fun _ _=>rfl)) zi))))))) zak)
  (w_s (zcA (zbg (zgj (zdB (zQ za5 (w_v 5) zL (zP _)) (zdA (zQ zga (w_v 3) zp (zP _))))) (zW (zT (i:=5) zax.nd rfl (by first | exact Or.inl rfl | exact Or.inr rfl) zL)) zak))
  (zW (zaj (zad (w_a (w_v 5) (w_a (w_v 6) (w_a (w_v 7) zi)))))))))))))),
  (zw (zO (by decide) (zbr zb1 (zd (zf 1) zn)))
  (zw (zO (by decide) (zr zaL (zbZ (zd zN (zd zN (zd zN (zd zN (zd zN (zd zN zn))))))) (zC (zd (zf 0) (zd zq zn)) (zj (zj zA)))))
  (zw (zay (zk4 (zF (zr zaz (zf 4) zq)) (zF (zr zgn (zC (zd (zf 0) (zd zq zn)) (zj (zj zA))) zq))) (zw (zay (zF (zr zaz (zC (zd (zf 0) (zd zq zn)) (zj (zj zA))) zq)) (zas (zae (zd zN (zd (zC (zd (zf 0) zn) (zj zA)) zn)))) zal)
  (zas (zae (zd zN (zd (zC (zd (zf 0) (zd (zf 2) zn)) (zj (zj zA))) zn))))) zal)
  (zw (zO (by decide) (zr zaL (zbZ (zd (zr zcB (zf 4) zq) (zd (zC (zd (zf 0) (zd (zf 4) zn)) (zj (zj zA))) zn))) (zC (zd (zf 0) (zd zq zn)) (zj (zj zA)))))
  (zw (zO (by decide) (zC (zd (zf 0) (zd (zf 4) zn)) (zj (zj zA))))
  (zw (zO (by decide) (zmb (nt:=1) (js:=[1]) (by decide) (zcn (zd (zf 4) zn)) (zab (by decide)) (zF (zr zaz (zr zy (zr zaL (zf 1) (zf 0)) zq) zN)) (zf 0)))
  (zw (zay (zdD (zF (zr zaz (zf 5) zN)) (zdD (zF (zr zaz (zf 3) zq)) (zF (zr zhz (zbr zb1 (zd (zf 8) zn)) zq)))) (zw (zO (by decide) (zr zaL (zf 8) (zC (zd (zf 0) (zd (zbr zb1 (zd (zf 8) zn)) zn)) (zj (zj zA)))))
  (zas (zae (zd zN (zd (zf 9) (zd (zr zy (zr zaL (zf 1) (zf 9)) (zr zaI zq (zC (zd (zf 0) (zd zq zn)) (zj (zj zA))))) zn)))))) zal)
  (zw (zcD (zay (zdD (zF (zr zaz (zf 5) zN)) (zF (zr zgn (zf 3) zq))) (zO (by decide) zN) zal))
  (zas (zae (zd (zf 5) (zd (zf 6) (zd (zf 7) zn)))))))))))))⟩
noncomputable def zbW:MS:=(zv (zah (mB (mOp (zai false) (ze 0) (mC (.str "plus")))) (zaq (zx zfv (zb (ze 1) (zb (ze 2) zm)))) zU)
  (zv (zah (mB (mOp (zai false) (ze 0) (mC (.str "less")))) (zaq (zx zfw (zb (ze 1) (zb (ze 2) zm)))) zU)
  (zv (zah (mB (mOp (zai false) (ze 0) (mC (.str "times")))) (zaq (zx zcI (zb (ze 1) (zb (ze 2) zm)))) zU)
  (zaq (zx zfx (zb (ze 1) (zb (ze 2) zm)))))))
noncomputable def za8:FD:=zb3 3 [0,1,2] zbW
theorem zha(F:Fun K "made_value" "made_value" zbP f fd)(hB:Bl mg ["abs", "enumerate", "len", "int", "range", "tuple", "dict", "zip", "max", "isinstance", "ValueError", "bool", "list", "repr"])(hT:XT K zbi xfl)(c_plus:Cal P w K mg base "plus" 3 ["one", "other"] (spV K 2 zfv))(c_less:Cal P w K mg base "less" 3 ["one", "other"] (spV K 2 zfw))(c_times:Cal P w K mg base "times" 2 ["one", "other"] (spV K 2 zcI))(c_over:Cal P w K mg base "over" 3 ["one", "other"] (spV K 2 zfx)):FnOk P w K mg base CX0 4 f fd ["word", "one", "other"] (spV K 3 za8) :=
 F.okV (n:=3) (nn:=3) (pn:=[0,1,2]) (m:=zbW) zg6 rfl rfl (by decide) fun cdv A outer s H E hr=>⟨_,(w_s (zbg (zQ za5 (w_v 0) zL (zP _)) (zW (zaj (zB c_plus (hr.mono (by decide)) rfl (w_a (w_v 1) (w_a (w_v 2) zi))))) zak)
  (w_s (zbg (zQ za5 (w_v 0) zL (zP _)) (zW (zaj (zB c_less (hr.mono (by decide)) rfl (w_a (w_v 1) (w_a (w_v 2) zi))))) zak)
  (w_s (zbg (zQ za5 (w_v 0) zL (zP _)) (zW (zaj (zB c_times (hr.mono (by decide)) rfl (w_a (w_v 1) (w_a (w_v 2) zi))))) zak)
  (zW (zaj (zB c_over (hr.mono (by decide)) rfl (w_a (w_v 1) (w_a (w_v 2) zi)))))))),
  (zw (zay (zF (zr zaz (zf 0) zN)) (zas (zC (zd (zf 1) (zd (zf 2) zn)) (zj (zj zA)))) zal)
  (zw (zay (zF (zr zaz (zf 0) zN)) (zas (zC (zd (zf 1) (zd (zf 2) zn)) (zj (zj zA)))) zal)
  (zw (zay (zF (zr zaz (zf 0) zN)) (zas (zC (zd (zf 1) (zd (zf 2) zn)) (zj (zj zA)))) zal)
  (zas (zC (zd (zf 1) (zd (zf 2) zn)) (zj (zj zA)))))))⟩
noncomputable def zdN:MS:=(zv (zK 3 (zfp (mOp ze5 (zY (zb (mC (.int 0)) zm)) (ze 2)) (zY (zb (mC (.int 1)) (zb (mC (.int 1)) zm)))))
  (zv (zah (mB (mOp (zai false) (mOp zJ (ze 0) (mC (.int 0))) (mC (.str "number")))) (zaq (zY (zb (mFz (zx zaA (zb (ze 2) (zb (mOp zJ (ze 0) (mC (.int 1))) zm)))) (zb (mFz (ze 3)) zm)))) zU)
  (zv (zah (mB (mOp (zai false) (mOp zJ (ze 0) (mC (.int 0))) (mC (.str "letter")))) (zaq (zY (zb (mFz (zx zaB (zb (ze 2) (zb (mOp zJ (ze 0) (mC (.int 1))) zm)))) (zb (mFz (ze 3)) zm)))) zU)
  (zv (zda (mOp zaS (ze 1) (mOp zJ (ze 0) (mC (.int 1)))) (zbG 2 (zaf (zH 4) (zaf (zH 5) zb0))))
  (zv (zda (mOp zaS (ze 1) (mOp zJ (ze 0) (mC (.int 2)))) (zbG 2 (zaf (zH 6) (zaf (zH 7) zb0))))
  (zv (zah (mB (mOp (zai false) (mOp zJ (ze 0) (mC (.int 0))) (mC (.str "times")))) (zaq (zY (zb (mFz (zx zu (zb (ze 4) (zb (ze 6) zm)))) (zb (mFz (zx zu (zb (ze 5) (zb (ze 7) zm)))) zm)))) zU)
  (zv (zah (mB (mOp (zai false) (mOp zJ (ze 0) (mC (.int 0))) (mC (.str "over")))) (zaq (zY (zb (mFz (zx zu (zb (ze 4) (zb (ze 7) zm)))) (zb (mFz (zx zu (zb (ze 5) (zb (ze 6) zm)))) zm)))) zU)
  (zv (zK 8 (mOp zaS (zbq (zb (mC (.int 1)) (zb (mUn zgo (mC (.int 1))) zm))) (mCB (f1 zeT) (zb (mOp (zai false) (mOp zJ (ze 0) (mC (.int 0))) (mC (.str "less"))) zm))))
  (zv (zK 9 (zx zar (zb (zx zu (zb (ze 4) (zb (ze 7) zm))) (zb (zx zu (zb (ze 6) (zb (ze 5) zm))) (zb (ze 8) zm)))))
  (zaq (zY (zb (mFz (ze 9)) (zb (mFz (zx zu (zb (ze 5) (zb (ze 7) zm)))) zm)))))))))))))
noncomputable def zat:FD:=zb3 10 [0,1,2] zdN
theorem zhb(F:Fun K "_law_pair" "_law_pair" zbS f fd)(hB:Bl mg ["abs", "enumerate", "len", "int", "range", "tuple", "dict", "zip", "max", "isinstance", "ValueError", "bool", "list", "repr"])(hT:XT K zbi xfl)(c_n_law_poly_add:Cal P w K mg base "_law_poly_add" 3 ["_law_one", "_law_other", "_law_sign"] (spV K 3 zar))(c_n_law_poly_mult:Cal P w K mg base "_law_poly_mult" 3 ["_law_one", "_law_other"] (spV K 2 zu))(c_n_law_poly_number:Cal P w K mg base "_law_poly_number" 1 ["_law_many", "_law_f"] (spV K 2 zaA))(c_n_law_poly_letter:Cal P w K mg base "_law_poly_letter" 1 ["_law_many", "_law_k"] (spV K 2 zaB)):FnOk P w K mg base CX0 4 f fd ["_law_row", "_law_pairs", "_law_many"] (spV K 3 zat) :=
 F.okV (n:=3) (nn:=10) (pn:=[0,1,2]) (m:=zdN) zbb rfl rfl (by decide) fun cdv A outer s H E hr=>⟨_,(w_s (zT (i:=3) zbb.nd rfl (by first | exact Or.inl rfl | exact Or.inr rfl) (zis hr (zR (zf0 K rfl) (zad (w_a zp zi)) (w_v 2)) (zad (w_a zp (w_a zp zi)))))
  (w_s (zbg (zQ za5 (zS (zM K rfl) (w_v 0) zp (fun _ _=>rfl)) zL (zP _)) (zW (zaj (zad (w_a (zes K rfl (zB c_n_law_poly_number (hr.mono (by decide)) rfl (w_a (w_v 2) (w_a (zS (zM K rfl) (w_v 0) zp (fun _ _=>rfl)) zi)))) (w_a (zes K rfl (w_v 3)) zi))))) zak)
  (w_s (zbg (zQ za5 (zS (zM K rfl) (w_v 0) zp (fun _ _=>rfl)) zL (zP _)) (zW (zaj (zad (w_a (zes K rfl (zB c_n_law_poly_letter (hr.mono (by decide)) rfl (w_a (w_v 2) (w_a (zS (zM K rfl) (w_v 0) zp (fun _ _=>rfl)) zi)))) (w_a (zes K rfl (w_v 3)) zi))))) zak)
  (w_s (zdY (zS (zbh K rfl) (w_v 1) (zS (zM K rfl) (w_v 0) zp (fun _ _=>rfl)) (fun _ _=>rfl)) (zc5 K rfl rfl (w_g (zaa (i:=4) zbb.nd rfl (by first | exact Or.inl rfl | exact Or.inr rfl)) (w_g (zaa (i:=5) zbb.nd rfl (by first | exact Or.inl rfl | exact Or.inr rfl)) zc4))))
  (w_s (zdY (zS (zbh K rfl) (w_v 1) (zS (zM K rfl) (w_v 0) zp (fun _ _=>rfl)) (fun _ _=>rfl)) (zc5 K rfl rfl (w_g (zaa (i:=6) zbb.nd rfl (by first | exact Or.inl rfl | exact Or.inr rfl)) (w_g (zaa (i:=7) zbb.nd rfl (by first | exact Or.inl rfl | exact Or.inr rfl)) zc4))))
  (w_s (zbg (zQ za5 (zS (zM K rfl) (w_v 0) zp (fun _ _=>rfl)) zL (zP _)) (zW (zaj (zad (w_a (zes K rfl (zB c_n_law_poly_mult (hr.mono (by decide)) rfl (w_a (w_v 4) (w_a (w_v 6) zi)))) (w_a (zes K rfl (zB c_n_law_poly_mult (hr.mono (by decide)) rfl (w_a (w_v 5) (w_a (w_v 7) zi)))) zi))))) zak)
  (w_s (zbg (zQ za5 (zS (zM K rfl) (w_v 0) zp (fun _ _=>rfl)) zL (zP _)) (zW (zaj (zad (w_a (zes K rfl (zB c_n_law_poly_mult (hr.mono (by decide)) rfl (w_a (w_v 4) (w_a (w_v 7) zi)))) (w_a (zes K rfl (zB c_n_law_poly_mult (hr.mono (by decide)) rfl (w_a (w_v 5) (w_a (w_v 6) zi)))) zi))))) zak)
  (w_s (zT (i:=8) zbb.nd rfl (by first | exact Or.inl rfl | exact Or.inr rfl) (zS (zbh K rfl) (zbY (w_a zp (w_a (zl2 zfc zp) zi))) (zfI zfd rfl (hB "int" (by decide)) PyProof.Rows.boot_int (w_a (zm5 za5 (zS (zM K rfl) (w_v 0) zp (fun _ _=>rfl)) zL (zP _)) zi)) (fun _ _=>rfl)))
  (w_s (zT (i:=9) zbb.nd rfl (by first | exact Or.inl rfl | exact Or.inr rfl) (zB c_n_law_poly_add (hr.mono (by decide)) rfl (w_a (zB c_n_law_poly_mult (hr.mono (by decide)) rfl (w_a (w_v 4) (w_a (w_v 7) zi))) (w_a (zB c_n_law_poly_mult (hr.mono (by decide)) rfl (w_a (w_v 6) (w_a (w_v 5) zi))) (w_a (w_v 8) zi)))))
  (zW (zaj (zad (w_a (zes K rfl (w_v 9)) (w_a (zes K rfl (zB c_n_law_poly_mult (hr.mono (by decide)) rfl (w_a (w_v 5) (w_a (w_v 7) zi)))) zi)))))))))))))),
  (zw (zO (by decide) (zit (zr zf1 (zae (zd zq zn)) (zf 2)) (zae (zd zq (zd zq zn)))))
  (zw (zay (zF (zr zaz (zr zy (zf 0) zq) zN)) (zas (zae (zd (zet (zC (zd (zf 2) (zd (zr zy (zf 0) zq) zn)) (zj (zj zA)))) (zd (zet (zf 3)) zn)))) zal)
  (zw (zay (zF (zr zaz (zr zy (zf 0) zq) zN)) (zas (zae (zd (zet (zC (zd (zf 2) (zd (zr zy (zf 0) zq) zn)) (zj (zj zA)))) (zd (zet (zf 3)) zn)))) zal)
  (zw (zfD (zr zaL (zf 1) (zr zy (zf 0) zq)) (zc9 (zaW (zab (by decide)) (zaW (zab (by decide)) zc8))))
  (zw (zfD (zr zaL (zf 1) (zr zy (zf 0) zq)) (zc9 (zaW (zab (by decide)) (zaW (zab (by decide)) zc8))))
  (zw (zay (zF (zr zaz (zr zy (zf 0) zq) zN)) (zas (zae (zd (zet (zC (zd (zf 4) (zd (zf 6) zn)) (zj (zj zA)))) (zd (zet (zC (zd (zf 5) (zd (zf 7) zn)) (zj (zj zA)))) zn)))) zal)
  (zw (zay (zF (zr zaz (zr zy (zf 0) zq) zN)) (zas (zae (zd (zet (zC (zd (zf 4) (zd (zf 7) zn)) (zj (zj zA)))) (zd (zet (zC (zd (zf 5) (zd (zf 6) zn)) (zj (zj zA)))) zn)))) zal)
  (zw (zO (by decide) (zr zaL (zbZ (zd zq (zd (zi3 zfh zq) zn))) (zbr zh6 (zd (zr zaz (zr zy (zf 0) zq) zN) zn))))
  (zw (zO (by decide) (zC (zd (zC (zd (zf 4) (zd (zf 7) zn)) (zj (zj zA))) (zd (zC (zd (zf 6) (zd (zf 5) zn)) (zj (zj zA))) (zd (zf 8) zn))) (zj (zj (zj zA)))))
  (zas (zae (zd (zet (zf 9)) (zd (zet (zC (zd (zf 5) (zd (zf 7) zn)) (zj (zj zA)))) zn)))))))))))))⟩
noncomputable def zcW:MS:=(zv (zK 2 (mLC (zcm (zb (ze 1) zm)) 1 [0] (zH 0) zjd (zx zz (zb (mOp zd1 (zx zk (zb (ze 1) (zb (mC (.int 1999)) zm))) (mC (.int 999))) (zb (mOp za3 (mC (.int 1)) (zx zk (zb (ze 1) (zb (mC (.int 999)) zm)))) zm)))))
  (zaq (zbq (zb (zx zbD (zb (ze 0) (zb (ze 1) zm))) (zb (mCB (f1 zcC) (zb (mLC (zcm (zb (ze 1) zm)) 1 [0] (zH 0) zjd (zY (zb (zx zk (zb (ze 1) (zb (mC (.int 2)) zm))) (zb (mC (.int 1)) zm)))) zm)) (zb (mCB (f1 zcC) (zb (ze 2) zm)) zm))))))
noncomputable def zbf:FD:=zb3 3 [0,1] zcW
theorem zfO(F:Fun K "_law_points" "_law_points" zbu f fd)(hB:Bl mg ["abs", "enumerate", "len", "int", "range", "tuple", "dict", "zip", "max", "isinstance", "ValueError", "bool", "list", "repr"])(hT:XT K zbi xfl)(c_n_law_take:Cal P w K mg base "_law_take" 1 ["_law_box_here", "_law_wide"] (spV K 2 zk))(c_n_law_fraction:Cal P w K mg base "_law_fraction" 1 ["_law_n", "_law_d"] (spV K 2 zz))(c_n_law_point:Cal P w K mg base "_law_point" 3 ["_law_box_here", "_law_many"] (spV K 2 zbD)):FnOk P w K mg base CX0 4 f fd ["_law_box_here", "_law_many"] (spV K 2 zbf) :=
 F.okV (n:=2) (nn:=3) (pn:=[0,1]) (m:=zcW) zdT rfl rfl (by decide) fun cdv A outer s H E hr=>⟨_,(w_s (zm7 (i:=2) zdT.nd rfl (by first | exact Or.inl rfl | exact Or.inr rfl) 1 ["_law_k"] rfl rfl ⟨rfl,by decide,by decide,by decide,by decide⟩ (.cons (j:=0) rfl (.inl rfl) rfl .nil) rfl (zbI rfl (hB "range" (by decide)) (w_a (w_v 1) zi)) (fun _ _ _ _=>(zaa (i:=0) (by show List.Nodup (["_law_k", "_law_box_here"]:List Str); decide) rfl (by first | exact Or.inl rfl | exact Or.inr rfl))) (zeP (by decide)) (fun _ _ _ _=>zgl) (fun _ _ _ _=>(zB c_n_law_fraction (hr.mono (by decide)) rfl (w_a (zR zcz (zB c_n_law_take (hr.mono (by decide)) rfl (w_a (w_v 1) (w_a zp zi))) zp) (w_a (zR zaH zp (zB c_n_law_take (hr.mono (by decide)) rfl (w_a (w_v 1) (w_a zp zi)))) zi)))))
  (zW (zaj (zbY (w_a (zB c_n_law_point (hr.mono (by decide)) rfl (w_a (w_v 0) (w_a (w_v 1) zi))) (w_a (zfI (zcf K rfl) rfl (hB "tuple" (by decide)) PyProof.Rows.boot_tuple (w_a (ztb 1 ["_law_k"] rfl rfl ⟨rfl,by decide,by decide,by decide,by decide⟩ (.cons (j:=0) rfl (.inl rfl) rfl .nil) rfl (zbI rfl (hB "range" (by decide)) (w_a (w_v 1) zi)) (fun _ _ _ _=>(zaa (i:=0) (by show List.Nodup (["_law_k", "_law_box_here"]:List Str); decide) rfl (by first | exact Or.inl rfl | exact Or.inr rfl))) (zeP (by decide)) (fun _ _ _ _=>zgl) (fun _ _ _ _=>(zad (w_a (zB c_n_law_take (hr.mono (by decide)) rfl (w_a (w_v 1) (w_a zp zi))) (w_a zp zi))))) zi)) (w_a (zfI (zcf K rfl) rfl (hB "tuple" (by decide)) PyProof.Rows.boot_tuple (w_a (w_v 2) zi)) zi))))))),
  (zw (zO (by decide) (zmb (nt:=1) (js:=[0]) (by decide) (zcn (zd (zf 1) zn)) (zab (by decide)) zgu (zC (zd (zr zcB (zC (zd (zf 1) (zd zq zn)) (zj (zj zA))) zq) (zd (zr zaI zq (zC (zd (zf 1) (zd zq zn)) (zj (zj zA)))) zn)) (zj (zj zA)))))
  (zas (zbZ (zd (zC (zd (zf 0) (zd (zf 1) zn)) (zj (zj zA))) (zd (zbr zcw (zd (zmb (nt:=1) (js:=[0]) (by decide) (zcn (zd (zf 1) zn)) (zab (by decide)) zgu (zae (zd (zC (zd (zf 1) (zd zq zn)) (zj (zj zA))) (zd zq zn)))) zn)) (zd (zbr zcw (zd (zf 2) zn)) zn))))))⟩
noncomputable def zox:MS:=(zv (zda (ze 0) (zbG 2 (zaf (zH 2) (zaf (zH 3) zb0))))
  (zv (zK 4 (zbq zm))
  (zv (zdb (zk8 (zb (ze 3) zm)) (zbG 2 (zaf (zH 5) (zaf (zH 6) zb0))) (zv (zK 7 (mOp zJ (ze 6) (mC (.int 0))))
  (zah (mB (mOp (zai false) (ze 7) (mC (.str "number")))) (za9 (zb7 4 (mOp zJ (ze 6) (mC (.int 1))))) (zah (mB (mOp (zai false) (ze 7) (mC (.str "letter")))) (za9 (zb7 4 (mOp zJ (ze 1) (mOp zJ (ze 6) (mC (.int 1)))))) (zah (zdm (mB (mOp (zai false) (ze 7) (mC (.str "over")))) (mB (mUn (zub false [0,1]) (mOp zaS (ze 4) (mOp zJ (ze 6) (mC (.int 2))))))) (zkn (mXR "NoOver" "at" (zb (ze 5) zm))) (za9 (zb7 4 (zx za8 (zb (ze 7) (zb (mOp zaS (ze 4) (mOp zJ (ze 6) (mC (.int 1)))) (zb (mOp zaS (ze 4) (mOp zJ (ze 6) (mC (.int 2)))) zm)))))))))))
  (zd3 [0,1] 4))))
noncomputable def zhJ:FX:=zt6 8 [0,1] zox
theorem zu4(F:Fun K "run" "run" zhI f fd)(hB:Bl mg ["abs", "enumerate", "len", "int", "range", "tuple", "dict", "zip", "max", "isinstance", "ValueError", "bool", "list", "repr"])(hT:XT K zbi xfl){CNoOver:Addr}(aXNoOver:XN K "NoOver" CNoOver)(gXNoOver:mg "NoOver"=some (.ref CNoOver))(xXNoOver:XCal P w K mg base "NoOver" CNoOver "at"){GNOUGHT:Addr}(g_NOUGHT:mg "NOUGHT"=some (.ref GNOUGHT))(gt_NOUGHT:GTi K GNOUGHT [0,1])(c_made_value:Cal P w K mg base "made_value" 4 ["word", "one", "other"] (spV K 3 za8)):FnOk P w K mg base (CXv P w) 5 f fd ["reckoning", "point"] (spX K 2 zhJ) :=
 F.okX (n:=2) (nn:=8) (pn:=[0,1]) (m:=zox) zeF rfl rfl (by decide) fun cdv A outer s H E hr hx=>⟨_,(w_s (zdY (w_v 0) (zc5 K rfl rfl (w_g (zaa (i:=2) zeF.nd rfl (by first | exact Or.inl rfl | exact Or.inr rfl)) (w_g (zaa (i:=3) zeF.nd rfl (by first | exact Or.inl rfl | exact Or.inr rfl)) zc4))))
  (w_s (zT (i:=4) zeF.nd rfl (by first | exact Or.inl rfl | exact Or.inr rfl) (zbY zi))
  (w_s (zdl (by first | exact PassesOwn.leaving | exact PassesOwn.never) rfl (zpH K rfl rfl (hB "enumerate" (by decide)) (w_a (w_v 3) zi)) (zc5 K rfl rfl (w_g (zaa (i:=5) zeF.nd rfl (by first | exact Or.inl rfl | exact Or.inr rfl)) (w_g (zaa (i:=6) zeF.nd rfl (by first | exact Or.inl rfl | exact Or.inr rfl)) zc4))) (w_s (zT (i:=7) zeF.nd rfl (by first | exact Or.inl rfl | exact Or.inr rfl) (zS (zM K rfl) (w_v 6) zp (fun _ _=>rfl)))
  (zW (zbg (zQ za5 (w_v 7) zL (zP _)) (zW (zci (zer K rfl PySem.F.plainAttrs_list PySem.F.slot_list_append PySem.F.type_list_append zbc (w_v 4) (w_a (zS (zM K rfl) (w_v 6) zp (fun _ _=>rfl)) zi)))) (zW (zbg (zQ za5 (w_v 7) zL (zP _)) (zW (zci (zer K rfl PySem.F.plainAttrs_list PySem.F.slot_list_append PySem.F.type_list_append zbc (w_v 4) (w_a (zS (zM K rfl) (w_v 1) (zS (zM K rfl) (w_v 6) zp (fun _ _=>rfl)) (fun _ _=>rfl)) zi)))) (zW (zbg (zgj (zdB (zQ za5 (w_v 7) zL (zP _)) (zdA (zQ (ztm K rfl hr) (zS (zbh K rfl) (w_v 4) (zS (zM K rfl) (w_v 6) zp (fun _ _=>rfl)) (fun _ _=>rfl)) (ztc (v:=.ref GNOUGHT) rfl g_NOUGHT rfl) (zP _))))) (zW (zqx K rfl hr hx (znN xXNoOver (hr.mono (by decide)) rfl (w_a (w_v 5) zi)))) (zW (zci (zer K rfl PySem.F.plainAttrs_list PySem.F.slot_list_append PySem.F.type_list_append zbc (w_v 4) (w_a (zB c_made_value (hr.mono (by decide)) rfl (w_a (w_v 7) (w_a (zS (zbh K rfl) (w_v 4) (zS (zM K rfl) (w_v 6) zp (fun _ _=>rfl)) (fun _ _=>rfl)) (w_a (zS (zbh K rfl) (w_v 4) (zS (zM K rfl) (w_v 6) zp (fun _ _=>rfl)) (fun _ _=>rfl)) zi)))) zi))))))))))))
  (zW (zaj (w_v 4)))))),
  (zw (zfD (zf 0) (zc9 (zaW (zab (by decide)) (zaW (zab (by decide)) zc8))))
  (zw (zO (by decide) (zbZ zn))
  (zw (zdo (zpU (zd (zf 3) zn)) (zc9 (zaW (zab (by decide)) (zaW (zab (by decide)) zc8))) (zw (zO (by decide) (zr zy (zf 6) zq))
  (zay (zF (zr zaz (zf 7) zN)) (zcl (zdp (i:=4) (zr zy (zf 6) zq))) (zay (zF (zr zaz (zf 7) zN)) (zcl (zdp (i:=4) (zr zy (zf 1) (zr zy (zf 6) zq)))) (zay (zdD (zF (zr zaz (zf 7) zN)) (zF (zwX (neg:=false) gt_NOUGHT (zr zaL (zf 4) (zr zy (zf 6) zq))))) (zqu (zqv xXNoOver.xn xXNoOver.cl xXNoOver.na (zd (zf 5) zn))) (zcl (zdp (i:=4) (zC (zd (zf 7) (zd (zr zaL (zf 4) (zr zy (zf 6) zq)) (zd (zr zaL (zf 4) (zr zy (zf 6) zq)) zn))) (zj (zj (zj zA)))))))))))
  (zgr (i:=4)))))⟩
noncomputable def zcr:MS:=(zv (zK 5 (zbq zm))
  (zv (zK 6 (zbq zm))
  (zv (zK 7 (zbq zm))
  (zv (zdb (zcm (zb (mOp za3 (mC (.int 1)) (zx zk (zb (ze 0) (zb (ze 2) zm)))) zm)) (zH 8) (zv (zK 9 (zx zaP (zb (ze 0) (zb (ze 5) (zb (mCB (f1 zbF) (zb (ze 1) zm)) (zb (ze 4) zm))))))
  (zv (zah (mB (mOp fGt (mCB (f1 zev) (zb (zx zI (zb (ze 9) (zb (ze 7) zm))) zm)) (ze 3))) (zK 9 (zY (zb (mOp zaS (zbq (zb (mC (.str "plus")) (zb (mC (.str "less")) zm))) (zx zk (zb (ze 0) (zb (mC (.int 2)) zm)))) (zb (mOp zJ (ze 9) (mC (.int 1))) (zb (mOp zJ (ze 9) (mC (.int 1))) zm))))) zU)
  (zv (zah (mB (mOp fGt (mCB (f1 zev) (zb (zx zI (zb (ze 9) (zb (ze 7) zm))) zm)) (ze 3))) (zK 9 (zY (zb (mC (.str "letter")) (zb (zx zk (zb (ze 0) (zb (mCB (f1 zbF) (zb (ze 1) zm)) zm))) zm)))) zU)
  (zv (zah (zdm (mB (mOp (zai false) (mOp zJ (ze 9) (mC (.int 0))) (mC (.str "over")))) (mB (mOp zkB (mOp zJ (mOp zaS (ze 6) (mOp zJ (ze 9) (mC (.int 2)))) (mC (.int 0))) zcR))) (zK 9 (zY (zb (mC (.str "number")) (zb (zx zao (zb (ze 0) zm)) zm)))) zU)
  (zv (za9 (zb7 5 (ze 9)))
  (zv (za9 (zb7 6 (zx zat (zb (ze 9) (zb (ze 6) (zb (mCB (f1 zbF) (zb (ze 1) zm)) zm))))))
  (za9 (zb7 7 (zx zI (zb (ze 9) (zb (ze 7) zm))))))))))))
  (zaq (zY (zb (ze 1) (zb (mCB (f1 zcC) (zb (ze 5) zm)) zm))))))))
noncomputable def zaD:FD:=zb3 10 [0,1,2,3,4] zcr
theorem zeI(F:Fun K "_law_reckoning" "_law_reckoning" za2 f fd)(hB:Bl mg ["abs", "enumerate", "len", "int", "range", "tuple", "dict", "zip", "max", "isinstance", "ValueError", "bool", "list", "repr"])(hT:XT K zbi xfl)(c_n_law_take:Cal P w K mg base "_law_take" 1 ["_law_box_here", "_law_wide"] (spV K 2 zk))(c_n_law_number:Cal P w K mg base "_law_number" 2 ["_law_box_here"] (spV K 1 zao))(c_n_law_weight:Cal P w K mg base "_law_weight" 1 ["_law_row", "_law_heavy"] (spV K 2 zI))(c_n_law_pair:Cal P w K mg base "_law_pair" 4 ["_law_row", "_law_pairs", "_law_many"] (spV K 3 zat))(c_n_law_drawn_row:Cal P w K mg base "_law_drawn_row" 3 ["_law_box_here", "_law_rows_here", "_law_many", "_law_kind"] (spV K 4 zaP)):FnOk P w K mg base CX0 5 f fd ["_law_box_here", "_law_letters", "_law_most", "_law_weight_here", "_law_kind"] (spV K 5 zaD) :=
 F.okV (n:=5) (nn:=10) (pn:=[0,1,2,3,4]) (m:=zcr) zam rfl rfl (by decide) fun cdv A outer s H E hr=>⟨_,(w_s (zT (i:=5) zam.nd rfl (by first | exact Or.inl rfl | exact Or.inr rfl) (zbY zi))
  (w_s (zT (i:=6) zam.nd rfl (by first | exact Or.inl rfl | exact Or.inr rfl) (zbY zi))
  (w_s (zT (i:=7) zam.nd rfl (by first | exact Or.inl rfl | exact Or.inr rfl) (zbY zi))
  (w_s (zdl PassesOwn.never rfl (zbI rfl (hB "range" (by decide)) (w_a (zR zaH zp (zB c_n_law_take (hr.mono (by decide)) rfl (w_a (w_v 0) (w_a (w_v 2) zi)))) zi)) (zaa (i:=8) zam.nd rfl (by first | exact Or.inl rfl | exact Or.inr rfl)) (w_s (zT (i:=9) zam.nd rfl (by first | exact Or.inl rfl | exact Or.inr rfl) (zB c_n_law_drawn_row (hr.mono (by decide)) rfl (w_a (w_v 0) (w_a (w_v 5) (w_a (zbN (zcG K rfl) rfl (hB "len" (by decide)) PySem.boot_len (w_a (w_v 1) zi)) (w_a (w_v 4) zi))))))
  (w_s (zcA (zbg (zQ zhi (zbN (zkz K rfl rfl) rfl (hB "max" (by decide)) PyProof.Rows.boot_max (w_a (zB c_n_law_weight (hr.mono (by decide)) rfl (w_a (w_v 9) (w_a (w_v 7) zi))) zi)) (w_v 3) (zP _)) (zW (zT (i:=9) zam.nd rfl (by first | exact Or.inl rfl | exact Or.inr rfl) (zad (w_a (zS (zbh K rfl) (zbY (w_a zL (w_a zL zi))) (zB c_n_law_take (hr.mono (by decide)) rfl (w_a (w_v 0) (w_a zp zi))) (fun _ _=>rfl)) (w_a (zS (zM K rfl) (w_v 9) zp (fun _ _=>rfl)) (w_a (zS (zM K rfl) (w_v 9) zp (fun _ _=>rfl)) zi)))))) zak))
  (w_s (zcA (zbg (zQ zhi (zbN (zkz K rfl rfl) rfl (hB "max" (by decide)) PyProof.Rows.boot_max (w_a (zB c_n_law_weight (hr.mono (by decide)) rfl (w_a (w_v 9) (w_a (w_v 7) zi))) zi)) (w_v 3) (zP _)) (zW (zT (i:=9) zam.nd rfl (by first | exact Or.inl rfl | exact Or.inr rfl) (zad (w_a zL (w_a (zB c_n_law_take (hr.mono (by decide)) rfl (w_a (w_v 0) (w_a (zbN (zcG K rfl) rfl (hB "len" (by decide)) PySem.boot_len (w_a (w_v 1) zi)) zi))) zi))))) zak))
  (w_s (zcA (zbg (zgj (zdB (zQ za5 (zS (zM K rfl) (w_v 9) zp (fun _ _=>rfl)) zL (zP _)) (zdA (zQ (zu2 hr) (zS (zM K rfl) (zS (zbh K rfl) (w_v 6) (zS (zM K rfl) (w_v 9) zp (fun _ _=>rfl)) (fun _ _=>rfl)) zp (fun _ _=>rfl)) zeQ (zP _))))) (zW (zT (i:=9) zam.nd rfl (by first | exact Or.inl rfl | exact Or.inr rfl) (zad (w_a zL (w_a (zB c_n_law_number (hr.mono (by decide)) rfl (w_a (w_v 0) zi)) zi))))) zak))
  (w_s (zci (zer K rfl PySem.F.plainAttrs_list PySem.F.slot_list_append PySem.F.type_list_append zbc (w_v 5) (w_a (w_v 9) zi)))
  (w_s (zci (zer K rfl PySem.F.plainAttrs_list PySem.F.slot_list_append PySem.F.type_list_append zbc (w_v 6) (w_a (zB c_n_law_pair (hr.mono (by decide)) rfl (w_a (w_v 9) (w_a (w_v 6) (w_a (zbN (zcG K rfl) rfl (hB "len" (by decide)) PySem.boot_len (w_a (w_v 1) zi)) zi)))) zi)))
  (zW (zci (zer K rfl PySem.F.plainAttrs_list PySem.F.slot_list_append PySem.F.type_list_append zbc (w_v 7) (w_a (zB c_n_law_weight (hr.mono (by decide)) rfl (w_a (w_v 9) (w_a (w_v 7) zi))) zi)))))))))))
  (zW (zaj (zad (w_a (w_v 1) (w_a (zfI (zcf K rfl) rfl (hB "tuple" (by decide)) PyProof.Rows.boot_tuple (w_a (w_v 5) zi)) zi))))))))),
  (zw (zO (by decide) (zbZ zn))
  (zw (zO (by decide) (zbZ zn))
  (zw (zO (by decide) (zbZ zn))
  (zw (zdo (zcn (zd (zr zaI zq (zC (zd (zf 0) (zd (zf 2) zn)) (zj (zj zA)))) zn)) (zab (by decide)) (zw (zO (by decide) (zC (zd (zf 0) (zd (zf 5) (zd (zbr zb1 (zd (zf 1) zn)) (zd (zf 4) zn)))) (zj (zj (zj (zj zA))))))
  (zw (zcD (zay (zF (zr zhz (zbr ziu (zd (zC (zd (zf 9) (zd (zf 7) zn)) (zj (zj zA))) zn)) (zf 3))) (zO (by decide) (zae (zd (zr zaL (zbZ (zd zN (zd zN zn))) (zC (zd (zf 0) (zd zq zn)) (zj (zj zA)))) (zd (zr zy (zf 9) zq) (zd (zr zy (zf 9) zq) zn))))) zal))
  (zw (zcD (zay (zF (zr zhz (zbr ziu (zd (zC (zd (zf 9) (zd (zf 7) zn)) (zj (zj zA))) zn)) (zf 3))) (zO (by decide) (zae (zd zN (zd (zC (zd (zf 0) (zd (zbr zb1 (zd (zf 1) zn)) zn)) (zj (zj zA))) zn)))) zal))
  (zw (zcD (zay (zdD (zF (zr zaz (zr zy (zf 9) zq) zN)) (zF (zr zu3 (zr zy (zr zaL (zf 6) (zr zy (zf 9) zq)) zq) zeX))) (zO (by decide) (zae (zd zN (zd (zC (zd (zf 0) zn) (zj zA)) zn)))) zal))
  (zw (zcl (zdp (i:=5) (zf 9)))
  (zw (zcl (zdp (i:=6) (zC (zd (zf 9) (zd (zf 6) (zd (zbr zb1 (zd (zf 1) zn)) zn))) (zj (zj (zj zA))))))
  (zcl (zdp (i:=7) (zC (zd (zf 9) (zd (zf 7) zn)) (zj (zj zA))))))))))))
  (zas (zae (zd (zf 1) (zd (zbr zcw (zd (zf 5) zn)) zn))))))))⟩
noncomputable def zdO:MS:=(zv (zK 2 (mCB (f1 zbF) (zb (ze 1) zm)))
  (zv (zah (mB (mOp (zai false) (zx zk (zb (ze 0) (zb (mC (.int 3)) zm))) (mC (.int 0)))) (zaq (mOp zJ (zx zaD (zb (ze 0) (zb (ze 1) (zb (mC (.int 8)) (zb (mC (.int 4)) (zb (mC (.int 2)) zm)))))) (mC (.int 1)))) zU)
  (zv (zK 3 (zbq zm))
  (zv (zK 4 (zbq zm))
  (zv (zdb (zcm (zb (mOp za3 (mC (.int 1)) (zx zk (zb (ze 0) (zb (mC (.int 10)) zm)))) zm)) (zH 5) (zv (zK 6 (mOp zaS (zbq (zb (mC (.str "plus")) (zb (mC (.str "less")) (zb (mC (.str "times")) (zb (mC (.str "over")) (zb (mC (.str "over")) (zb (mC (.str "number")) (zb (mC (.str "letter")) zm)))))))) (zx zk (zb (ze 0) (zb (mC (.int 7)) zm)))))
  (zv (zK 7 (zY (zb (mC (.str "letter")) (zb (zx zk (zb (ze 0) (zb (ze 2) zm))) zm))))
  (zv (zah (mOr (mB (mOp (zai false) (ze 6) (mC (.str "number")))) (zdm (mB (mOp (zai false) (ze 5) (mC (.int 0)))) (mB (mOp (zai true) (ze 6) (mC (.str "letter")))))) (zK 7 (zY (zb (mC (.str "number")) (zb (zx zaF (zb (ze 0) zm)) zm)))) (zah (mB (mOp (zai true) (ze 6) (mC (.str "letter")))) (zK 7 (zY (zb (ze 6) (zb (mOp zaS (zbq (zb (mOp zd1 (ze 5) (mC (.int 1))) (zb (zx zk (zb (ze 0) (zb (ze 5) zm))) zm))) (zx zk (zb (ze 0) (zb (mC (.int 2)) zm)))) (zb (zx zk (zb (ze 0) (zb (ze 5) zm))) zm))))) zU))
  (zv (zah (mB (mOp fGt (mCB (f1 zev) (zb (zx zI (zb (ze 7) (zb (ze 4) zm))) zm)) (mC (.int 12)))) (zK 7 (zY (zb (mC (.str "number")) (zb (zx zaF (zb (ze 0) zm)) zm)))) zU)
  (zv (za9 (zb7 3 (ze 7)))
  (za9 (zb7 4 (zx zI (zb (ze 7) (zb (ze 4) zm)))))))))))
  (zaq (mCB (f1 zcC) (zb (ze 3) zm))))))))
noncomputable def zbv:FD:=zb3 8 [0,1] zdO
theorem zhc(F:Fun K "_law_rows" "_law_rows" zbT f fd)(hB:Bl mg ["abs", "enumerate", "len", "int", "range", "tuple", "dict", "zip", "max", "isinstance", "ValueError", "bool", "list", "repr"])(hT:XT K zbi xfl)(c_n_law_take:Cal P w K mg base "_law_take" 1 ["_law_box_here", "_law_wide"] (spV K 2 zk))(c_n_law_small:Cal P w K mg base "_law_small" 2 ["_law_box_here"] (spV K 1 zaF))(c_n_law_weight:Cal P w K mg base "_law_weight" 1 ["_law_row", "_law_heavy"] (spV K 2 zI))(c_n_law_reckoning:Cal P w K mg base "_law_reckoning" 5 ["_law_box_here", "_law_letters", "_law_most", "_law_weight_here", "_law_kind"] (spV K 5 zaD)):FnOk P w K mg base CX0 6 f fd ["_law_box_here", "_law_letters"] (spV K 2 zbv) :=
 F.okV (n:=2) (nn:=8) (pn:=[0,1]) (m:=zdO) zaM rfl rfl (by decide) fun cdv A outer s H E hr=>⟨_,(w_s (zT (i:=2) zaM.nd rfl (by first | exact Or.inl rfl | exact Or.inr rfl) (zbN (zcG K rfl) rfl (hB "len" (by decide)) PySem.boot_len (w_a (w_v 1) zi)))
  (w_s (zbg (zQ za5 (zB c_n_law_take (hr.mono (by decide)) rfl (w_a (w_v 0) (w_a zp zi))) zp (zP _)) (zW (zaj (zS (zM K rfl) (zB c_n_law_reckoning (hr.mono (by decide)) rfl (w_a (w_v 0) (w_a (w_v 1) (w_a zp (w_a zp (w_a zp zi)))))) zp (fun _ _=>rfl)))) zak)
  (w_s (zT (i:=3) zaM.nd rfl (by first | exact Or.inl rfl | exact Or.inr rfl) (zbY zi))
  (w_s (zT (i:=4) zaM.nd rfl (by first | exact Or.inl rfl | exact Or.inr rfl) (zbY zi))
  (w_s (zdl PassesOwn.never rfl (zbI rfl (hB "range" (by decide)) (w_a (zR zaH zp (zB c_n_law_take (hr.mono (by decide)) rfl (w_a (w_v 0) (w_a zp zi)))) zi)) (zaa (i:=5) zaM.nd rfl (by first | exact Or.inl rfl | exact Or.inr rfl)) (w_s (zT (i:=6) zaM.nd rfl (by first | exact Or.inl rfl | exact Or.inr rfl) (zS (zbh K rfl) (zbY (w_a zL (w_a zL (w_a zL (w_a zL (w_a zL (w_a zL (w_a zL zi)))))))) (zB c_n_law_take (hr.mono (by decide)) rfl (w_a (w_v 0) (w_a zp zi))) (fun _ _=>rfl)))
  (w_s (zT (i:=7) zaM.nd rfl (by first | exact Or.inl rfl | exact Or.inr rfl) (zad (w_a zL (w_a (zB c_n_law_take (hr.mono (by decide)) rfl (w_a (w_v 0) (w_a (w_v 2) zi))) zi))))
  (w_s (zcA (zbg (zgj (zkV (zQ za5 (w_v 6) zL (zP _)) (zhV (zgj (zdB (zQ za5 (w_v 5) zp (zP _)) (zdA (zQ zf9 (w_v 6) zL (zP _)))))))) (zW (zT (i:=7) zaM.nd rfl (by first | exact Or.inl rfl | exact Or.inr rfl) (zad (w_a zL (w_a (zB c_n_law_small (hr.mono (by decide)) rfl (w_a (w_v 0) zi)) zi))))) (zW (zbg (zQ zf9 (w_v 6) zL (zP _)) (zW (zT (i:=7) zaM.nd rfl (by first | exact Or.inl rfl | exact Or.inr rfl) (zad (w_a (w_v 6) (w_a (zS (zbh K rfl) (zbY (w_a (zR zcz (w_v 5) zp) (w_a (zB c_n_law_take (hr.mono (by decide)) rfl (w_a (w_v 0) (w_a (w_v 5) zi))) zi))) (zB c_n_law_take (hr.mono (by decide)) rfl (w_a (w_v 0) (w_a zp zi))) (fun _ _=>rfl)) (w_a (zB c_n_law_take (hr.mono (by decide)) rfl (w_a (w_v 0) (w_a (w_v 5) zi))) zi)))))) zak))))
  (w_s (zcA (zbg (zQ zhi (zbN (zkz K rfl rfl) rfl (hB "max" (by decide)) PyProof.Rows.boot_max (w_a (zB c_n_law_weight (hr.mono (by decide)) rfl (w_a (w_v 7) (w_a (w_v 4) zi))) zi)) zp (zP _)) (zW (zT (i:=7) zaM.nd rfl (by first | exact Or.inl rfl | exact Or.inr rfl) (zad (w_a zL (w_a (zB c_n_law_small (hr.mono (by decide)) rfl (w_a (w_v 0) zi)) zi))))) zak))
  (w_s (zci (zer K rfl PySem.F.plainAttrs_list PySem.F.slot_list_append PySem.F.type_list_append zbc (w_v 3) (w_a (w_v 7) zi)))
  (zW (zci (zer K rfl PySem.F.plainAttrs_list PySem.F.slot_list_append PySem.F.type_list_append zbc (w_v 4) (w_a (zB c_n_law_weight (hr.mono (by decide)) rfl (w_a (w_v 7) (w_a (w_v 4) zi))) zi))))))))))
  (zW (zaj (zfI (zcf K rfl) rfl (hB "tuple" (by decide)) PyProof.Rows.boot_tuple (w_a (w_v 3) zi))))))))),
  (zw (zO (by decide) (zbr zb1 (zd (zf 1) zn)))
  (zw (zay (zF (zr zaz (zC (zd (zf 0) (zd zq zn)) (zj (zj zA))) zq)) (zas (zr zy (zC (zd (zf 0) (zd (zf 1) (zd zq (zd zq (zd zq zn))))) (zj (zj (zj (zj (zj zA)))))) zq)) zal)
  (zw (zO (by decide) (zbZ zn))
  (zw (zO (by decide) (zbZ zn))
  (zw (zdo (zcn (zd (zr zaI zq (zC (zd (zf 0) (zd zq zn)) (zj (zj zA)))) zn)) (zab (by decide)) (zw (zO (by decide) (zr zaL (zbZ (zd zN (zd zN (zd zN (zd zN (zd zN (zd zN (zd zN zn)))))))) (zC (zd (zf 0) (zd zq zn)) (zj (zj zA)))))
  (zw (zO (by decide) (zae (zd zN (zd (zC (zd (zf 0) (zd (zf 2) zn)) (zj (zj zA))) zn))))
  (zw (zcD (zay (zk4 (zF (zr zaz (zf 6) zN)) (zdD (zF (zr zaz (zf 5) zq)) (zF (zr zeD (zf 6) zN)))) (zO (by decide) (zae (zd zN (zd (zC (zd (zf 0) zn) (zj zA)) zn)))) (zay (zF (zr zeD (zf 6) zN)) (zO (by decide) (zae (zd (zf 6) (zd (zr zaL (zbZ (zd (zr zcB (zf 5) zq) (zd (zC (zd (zf 0) (zd (zf 5) zn)) (zj (zj zA))) zn))) (zC (zd (zf 0) (zd zq zn)) (zj (zj zA)))) (zd (zC (zd (zf 0) (zd (zf 5) zn)) (zj (zj zA))) zn))))) zal)))
  (zw (zcD (zay (zF (zr zhz (zbr ziu (zd (zC (zd (zf 7) (zd (zf 4) zn)) (zj (zj zA))) zn)) zq)) (zO (by decide) (zae (zd zN (zd (zC (zd (zf 0) zn) (zj zA)) zn)))) zal))
  (zw (zcl (zdp (i:=3) (zf 7)))
  (zcl (zdp (i:=4) (zC (zd (zf 7) (zd (zf 4) zn)) (zj (zj zA)))))))))))
  (zas (zbr zcw (zd (zf 3) zn))))))))⟩
noncomputable def zcJ:MS:=(zv (zK 2 (mC .none))
  (zv (zt3 zbi "UndivideError" 3 (zmk (zK 2) (znM zhJ (zb (ze 0) (zb (ze 1) zm)))) (zv (zah (mB (mUn (zlh zbi ["BadLetters", "BadRow", "BadText", "NoName", "NotPolynomial", "NotWhole"]) (ze 3))) (zaq (mC (.str "other"))) zU)
  (zah (zdm (mB (mUn (zjg zbi true "NoOver") (ze 3))) (zdm (mB (mUn (zjg zbi false "ValueError") (ze 3))) (zpQ (mB (mUn (zko "bool") (mUn (zje zbi "at") (ze 3))))))) (zK 2 (zY (zb (mC (.str "refused")) (zb (mUn (zje zbi "at") (ze 3)) zm)))) zU)))
  (zd3 [0,1] 2)))
noncomputable def zaT:FD:=zb3 4 [0,1] zcJ
theorem zhd(F:Fun K "_law_told" "_law_told" zbV f fd)(hB:Bl mg ["abs", "enumerate", "len", "int", "range", "tuple", "dict", "zip", "max", "isinstance", "ValueError", "bool", "list", "repr"])(hT:XT K zbi xfl){CUndivideError:Addr}(aXUndivideError:XN K "UndivideError" CUndivideError)(gXUndivideError:mg "UndivideError"=some (.ref CUndivideError)){CBadText:Addr}(aXBadText:XN K "BadText" CBadText)(gXBadText:mg "BadText"=some (.ref CBadText)){CBadLetters:Addr}(aXBadLetters:XN K "BadLetters" CBadLetters)(gXBadLetters:mg "BadLetters"=some (.ref CBadLetters)){CBadRow:Addr}(aXBadRow:XN K "BadRow" CBadRow)(gXBadRow:mg "BadRow"=some (.ref CBadRow)){CNoOver:Addr}(aXNoOver:XN K "NoOver" CNoOver)(gXNoOver:mg "NoOver"=some (.ref CNoOver)){CNoName:Addr}(aXNoName:XN K "NoName" CNoName)(gXNoName:mg "NoName"=some (.ref CNoName)){CNotWhole:Addr}(aXNotWhole:XN K "NotWhole" CNotWhole)(gXNotWhole:mg "NotWhole"=some (.ref CNotWhole)){CNotPolynomial:Addr}(aXNotPolynomial:XN K "NotPolynomial" CNotPolynomial)(gXNotPolynomial:mg "NotPolynomial"=some (.ref CNotPolynomial))(hM:XM K zbi "UndivideError" CUndivideError)(c_run:CalX P w K mg base "run" 5 ["reckoning", "point"] (spX K 2 zhJ)):FnOk P w K mg base CX0 6 f fd ["_law_reckoning_here", "_law_point_here"] (spV K 2 zaT) :=
 F.okV (n:=2) (nn:=4) (pn:=[0,1]) (m:=zcJ) zb8 rfl rfl (by decide) fun cdv A outer s H E hr=>⟨_,(w_s (zT (i:=2) zb8.nd rfl (by first | exact Or.inl rfl | exact Or.inr rfl) zvO)
  (w_s (zwV K rfl rfl rfl zb8.nd (i:=3) rfl rfl rfl gXUndivideError (hT.cl _ _ _ rfl aXUndivideError).1.cl (fun pn E EX hy=>(zW (zT (i:=2) zb8.nd rfl (by first | exact Or.inl rfl | exact Or.inr rfl) (zt4 c_run (hr.mono (by decide)) rfl hy (w_a (w_v 0) (w_a (w_v 1) zi)))))) (fun a=>(w_s (zbg (zgk (zbN (zml K rfl) rfl (hB "isinstance" (by decide)) PyProof.Rows.boot_isinstance (w_a (w_v 3) (w_a (zad (w_a (zgx gXBadLetters rfl) (w_a (zgx gXBadRow rfl) (w_a (zgx gXBadText rfl) (w_a (zgx gXNoName rfl) (w_a (zgx gXNotPolynomial rfl) (w_a (zgx gXNotWhole rfl) zi))))))) zi)))) (zW (zaj zL)) zak)
  (zW (zbg (zgj (zdB (zgk (zbN (zjf rfl) rfl (hB "isinstance" (by decide)) PyProof.Rows.boot_isinstance (w_a (w_v 3) (w_a (zgx gXNoOver rfl) zi)))) (zdB (zgk (zbN (zjf rfl) rfl (hB "isinstance" (by decide)) PyProof.Rows.boot_isinstance (w_a (w_v 3) (w_a (zj0 (v:=.ty "ValueError") rfl (hB "ValueError" (by decide)) rfl rfl) zi)))) (zdA (zs9 (zgk (zbN (zrL K rfl) rfl (hB "isinstance" (by decide)) PyProof.Rows.boot_isinstance (w_a (znK K rfl (w_v 3) rfl) (w_a (zj0 (v:=.ty "bool") rfl (hB "bool" (by decide)) PyProof.Rows.boot_bool rfl) zi))))))))) (zW (zT (i:=2) zb8.nd rfl (by first | exact Or.inl rfl | exact Or.inr rfl) (zad (w_a zL (w_a (znK K rfl (w_v 3) rfl) zi))))) zak)))))
  (zW (zaj (w_v 2))))),
  (zw (zO (by decide) zv0)
  (zw (zwT hM (by decide) (fun EX=>(zqt (by decide) (zt5 (zd (zf 0) (zd (zf 1) zn)) (zj (zj zA))))) (zw (zay (zma (znR (cs:=[("BadLetters",CBadLetters),("BadRow",CBadRow),("BadText",CBadText),("NoName",CNoName),("NotPolynomial",CNotPolynomial),("NotWhole",CNotWhole)]) hT ⟨⟨aXBadLetters,rfl⟩,⟨⟨aXBadRow,rfl⟩,⟨⟨aXBadText,rfl⟩,⟨⟨aXNoName,rfl⟩,⟨⟨aXNotPolynomial,rfl⟩,⟨⟨aXNotWhole,rfl⟩,trivial⟩⟩⟩⟩⟩⟩ (by simp) (zf 3))) (zas zN) zal)
  (zay (zdD (zma (zwQ hT aXNoOver rfl (zf 3))) (zdD (zma (ztZ hT (zf 3))) (ztq (zma (zrX (T := "bool") (zi3 (zlc hT (by decide)) (zf 3))))))) (zO (by decide) (zae (zd zN (zd (zi3 (zlc hT (by decide)) (zf 3)) zn)))) zal)))
  (zgr (i:=2))))⟩
noncomputable def zoy:MS:=(zv (zdb (zcm (zb (mOp za3 (mC (.int 1)) (mCB (f1 zbF) (zb (mSl zg4 (ze 0) zbO (zdr (mC (.int 6)))) zm))) zm)) (zH 1) (zv (zK 2 (zx zbM (zb (ze 0) (zb (ze 1) zm))))
  (zv (zK 3 (zx zbo (zb (ze 2) (zb (mOp za3 (mC (.int 1)) (zx zk (zb (ze 2) (zb (mC (.int 3)) zm)))) zm))))
  (zv (zK 4 (zx zbv (zb (ze 2) (zb (ze 3) zm))))
  (zv (zah (mB (mOp (zai false) (zx zk (zb (ze 2) (zb (mC (.int 8)) zm))) (mC (.int 0)))) (zK 4 (mOp zJ (zx za4 (zb (ze 3) (zb (ze 2) (zb (mC (.int 24)) zm)))) (mC (.int 1)))) zU)
  (zv (zK 5 (zx zbf (zb (ze 2) (zb (mCB (f1 zbF) (zb (ze 3) zm)) zm))))
  (zv (zK 6 (mOp za3 (mC (.int 1)) (zx zk (zb (ze 2) (zb (mCB (f1 zbF) (zb (ze 4) zm)) zm)))))
  (zdb (mIt znp (mFz (mOp znl (ze 5) (mSl zg4 (ze 5) zbO (zdr (mC (.int 1))))))) (zH 7) (zv (zK 8 (zx zaV (zb (ze 4) (zb (ze 7) zm))))
  (zv (zK 9 (zx zaT (zb (zY (zb (ze 3) (zb (ze 4) zm))) (zb (ze 7) zm))))
  (zv (zah (mB (mOp (zai true) (mCB (f1 zc0) (zb (ze 9) zm)) (mCB (f1 zc0) (zb (ze 8) zm)))) (zaq (mC (.bool false))) zU)
  (zv (zah (mB (mUn (zko "list") (ze 9))) (za9 (mLm (fun _=>[]) 9)) zU)
  (zah (mB (mOp (zai true) (mCB (f1 zc0) (zb (zx zaT (zb (zY (zb (ze 3) (zb (mSl zkh (ze 4) zbO (zdr (ze 6))) zm))) (zb (ze 7) zm))) zm)) (mCB (f1 zc0) (zb (zx zaV (zb (mSl zkh (ze 4) zbO (zdr (ze 6))) (zb (ze 7) zm))) zm)))) (zaq (mC (.bool false))) zU)))))))))))))
  (zaq (mC (.bool true))))
noncomputable def zhK:FD:=zb3 10 [0] zoy
theorem zu5(F:Fun K "law" "law" ze7 f fd)(hB:Bl mg ["abs", "enumerate", "len", "int", "range", "tuple", "dict", "zip", "max", "isinstance", "ValueError", "bool", "list", "repr"])(hT:XT K zbi xfl)(c_n_law_box:Cal P w K mg base "_law_box" 1 ["_law_script", "_law_k"] (spV K 2 zbM))(c_n_law_take:Cal P w K mg base "_law_take" 1 ["_law_box_here", "_law_wide"] (spV K 2 zk))(c_n_law_names:Cal P w K mg base "_law_names" 2 ["_law_box_here", "_law_many"] (spV K 2 zbo))(c_n_law_rows:Cal P w K mg base "_law_rows" 6 ["_law_box_here", "_law_letters"] (spV K 2 zbv))(c_n_law_doubled:Cal P w K mg base "_law_doubled" 2 ["_law_letters", "_law_box_here", "_law_most"] (spV K 3 za4))(c_n_law_points:Cal P w K mg base "_law_points" 4 ["_law_box_here", "_law_many"] (spV K 2 zbf))(c_n_law_due:Cal P w K mg base "_law_due" 2 ["_law_rows_here", "_law_point_here"] (spV K 2 zaV))(c_n_law_told:Cal P w K mg base "_law_told" 6 ["_law_reckoning_here", "_law_point_here"] (spV K 2 zaT)):FnOk P w K mg base CX0 7 f fd ["_law_script"] (spV K 1 zhK) :=
 F.okV (n:=1) (nn:=10) (pn:=[0]) (m:=zoy) zcT rfl rfl (by decide) fun cdv A outer s H E hr=>⟨_,(w_s (zdl PassesOwn.never rfl (zbI rfl (hB "range" (by decide)) (w_a (zR zaH zp (zbN (zcG K rfl) rfl (hB "len" (by decide)) PySem.boot_len (w_a (zeh (zkW K rfl) (w_v 0) zef (zeg zp)) zi))) zi)) (zaa (i:=1) zcT.nd rfl (by first | exact Or.inl rfl | exact Or.inr rfl)) (w_s (zT (i:=2) zcT.nd rfl (by first | exact Or.inl rfl | exact Or.inr rfl) (zB c_n_law_box (hr.mono (by decide)) rfl (w_a (w_v 0) (w_a (w_v 1) zi))))
  (w_s (zT (i:=3) zcT.nd rfl (by first | exact Or.inl rfl | exact Or.inr rfl) (zB c_n_law_names (hr.mono (by decide)) rfl (w_a (w_v 2) (w_a (zR zaH zp (zB c_n_law_take (hr.mono (by decide)) rfl (w_a (w_v 2) (w_a zp zi)))) zi))))
  (w_s (zT (i:=4) zcT.nd rfl (by first | exact Or.inl rfl | exact Or.inr rfl) (zB c_n_law_rows (hr.mono (by decide)) rfl (w_a (w_v 2) (w_a (w_v 3) zi))))
  (w_s (zcA (zbg (zQ za5 (zB c_n_law_take (hr.mono (by decide)) rfl (w_a (w_v 2) (w_a zp zi))) zp (zP _)) (zW (zT (i:=4) zcT.nd rfl (by first | exact Or.inl rfl | exact Or.inr rfl) (zS (zM K rfl) (zB c_n_law_doubled (hr.mono (by decide)) rfl (w_a (w_v 3) (w_a (w_v 2) (w_a zp zi)))) zp (fun _ _=>rfl)))) zak))
  (w_s (zT (i:=5) zcT.nd rfl (by first | exact Or.inl rfl | exact Or.inr rfl) (zB c_n_law_points (hr.mono (by decide)) rfl (w_a (w_v 2) (w_a (zbN (zcG K rfl) rfl (hB "len" (by decide)) PySem.boot_len (w_a (w_v 3) zi)) zi))))
  (w_s (zT (i:=6) zcT.nd rfl (by first | exact Or.inl rfl | exact Or.inr rfl) (zR zaH zp (zB c_n_law_take (hr.mono (by decide)) rfl (w_a (w_v 2) (w_a (zbN (zcG K rfl) rfl (hB "len" (by decide)) PySem.boot_len (w_a (w_v 4) zi)) zi)))))
  (zW (zdl PassesOwn.never rfl (zpG K rfl (zes K rfl (zR zsW (w_v 5) (zeh (zkW K rfl) (w_v 5) zef (zeg zp))))) (zaa (i:=7) zcT.nd rfl (by first | exact Or.inl rfl | exact Or.inr rfl)) (w_s (zT (i:=8) zcT.nd rfl (by first | exact Or.inl rfl | exact Or.inr rfl) (zB c_n_law_due (hr.mono (by decide)) rfl (w_a (w_v 4) (w_a (w_v 7) zi))))
  (w_s (zT (i:=9) zcT.nd rfl (by first | exact Or.inl rfl | exact Or.inr rfl) (zB c_n_law_told (hr.mono (by decide)) rfl (w_a (zad (w_a (w_v 3) (w_a (w_v 4) zi))) (w_a (w_v 7) zi))))
  (w_s (zbg (zQ zf9 (zbN (zhW K rfl hr) rfl (hB "repr" (by decide)) PyProof.Rows.boot_repr (w_a (w_v 9) zi)) (zbN (zhW K rfl hr) rfl (hB "repr" (by decide)) PyProof.Rows.boot_repr (w_a (w_v 8) zi)) (zP _)) (zW (zaj zs8)) zak)
  (w_s (zcA (zbg (zgk (zbN (zrL K rfl) rfl (hB "isinstance" (by decide)) PyProof.Rows.boot_isinstance (w_a (w_v 9) (w_a (zj0 (v:=.ty "list") rfl (hB "list" (by decide)) PyProof.Rows.boot_list rfl) zi)))) (zW (zci (zvT K rfl PySem.F.plainAttrs_list PySem.F.slot_list_clear PySem.F.type_list_clear zmT (w_v 9)))) zak))
  (zW (zbg (zQ zf9 (zbN (zhW K rfl hr) rfl (hB "repr" (by decide)) PyProof.Rows.boot_repr (w_a (zB c_n_law_told (hr.mono (by decide)) rfl (w_a (zad (w_a (w_v 3) (w_a (zeh zv7 (w_v 4) zef (zeg (w_v 6))) zi))) (w_a (w_v 7) zi))) zi)) (zbN (zhW K rfl hr) rfl (hB "repr" (by decide)) PyProof.Rows.boot_repr (w_a (zB c_n_law_due (hr.mono (by decide)) rfl (w_a (zeh zv7 (w_v 4) zef (zeg (w_v 6))) (w_a (w_v 7) zi))) zi)) (zP _)) (zW (zaj zs8)) zak)))))))))))))))
  (zW (zaj zs8))),
  (zw (zdo (zcn (zd (zr zaI zq (zbr zb1 (zd (zmc zfU (zf 0) zem (zen zq)) zn))) zn)) (zab (by decide)) (zw (zO (by decide) (zC (zd (zf 0) (zd (zf 1) zn)) (zj (zj zA))))
  (zw (zO (by decide) (zC (zd (zf 2) (zd (zr zaI zq (zC (zd (zf 2) (zd zq zn)) (zj (zj zA)))) zn)) (zj (zj zA))))
  (zw (zO (by decide) (zC (zd (zf 2) (zd (zf 3) zn)) (zj (zj zA))))
  (zw (zcD (zay (zF (zr zaz (zC (zd (zf 2) (zd zq zn)) (zj (zj zA))) zq)) (zO (by decide) (zr zy (zC (zd (zf 3) (zd (zf 2) (zd zq zn))) (zj (zj (zj zA)))) zq)) zal))
  (zw (zO (by decide) (zC (zd (zf 2) (zd (zbr zb1 (zd (zf 3) zn)) zn)) (zj (zj zA))))
  (zw (zO (by decide) (zr zaI zq (zC (zd (zf 2) (zd (zbr zb1 (zd (zf 4) zn)) zn)) (zj (zj zA)))))
  (zdo (zpT (zet (zr ztn (zf 5) (zmc zfU (zf 5) zem (zen zq))))) (zab (by decide)) (zw (zO (by decide) (zC (zd (zf 4) (zd (zf 7) zn)) (zj (zj zA))))
  (zw (zO (by decide) (zC (zd (zae (zd (zf 3) (zd (zf 4) zn))) (zd (zf 7) zn)) (zj (zj zA))))
  (zw (zay (zF (zr zeD (zbr zfP (zd (zf 9) zn)) (zbr zfP (zd (zf 8) zn)))) (zas ztk) zal)
  (zw (zcD (zay (zma (zrX (T := "list") (zf 9))) (zcl (zrb (i:=9))) zal))
  (zay (zF (zr zeD (zbr zfP (zd (zC (zd (zae (zd (zf 3) (zd (zmc znv (zf 4) zem (zen (zf 6))) zn))) (zd (zf 7) zn)) (zj (zj zA))) zn)) (zbr zfP (zd (zC (zd (zmc znv (zf 4) zem (zen (zf 6))) (zd (zf 7) zn)) (zj (zj zA))) zn)))) (zas ztk) zal)))))))))))))
  (zas ztk))⟩
end
end K10
open PySem L2
local macro_rules | `(tactic| simp_arith [$ls,*])=>`(tactic| simp (disch:=first | omega | (simp only [List.length_cons,List.length_nil,List.length_map,List.length_append,List.length_take,List.length_drop,Nat.zero_add,Nat.reduceAdd]<;>omega) | fail) only [$ls,*,↓zca,↓zE,↓nr ze1,↓zuc,↓zyh,↓zwY,↓zud,↓zqC,↓zwZ,↓zue,↓zqD,↓zuf,↓zug,↓zw0,↓zuh,↓zui,↓zuj,↓zuk,↓zqE,↓zqF,↓zqG,↓zul,↓zyi,↓zum,↓zw1,↓zun,↓zuo,↓zup,↓zuq,↓znT,↓zqI,↓zqJ,↓znV,↓zw2,↓zw3,↓zqK,↓zqN,↓zur,↓zus,↓zw5,↓zmm,↓zqO,↓zut,↓zuu,↓znX,↓zqP,↓znY,↓zqQ,↓zw6,↓zxb,↓znZ,↓zqR,↓zqT,↓zuy,↓zuA,↓zqW,↓zoc,↓zuO,↓zor,↓zxj,nr bd,nr zwb,nr ztu,nr zp0,nr zny,nr zmg,nr zmh,nr zki,nr znz,nr ztA,nr zxT,nr zxU,nr ztC,nr zp2,nr zp3,nr zp4,nr zwf,zwg,nr zwh,nr zwi,nr zp8,nr zxW,nr zxX,nr zwk,nr zwm,nr zwn,nr zxY,nr zxZ,nr zx0,nr ztL,nr zqa,nr ztP,nr zwr,nr zws,nr zx1,nr zx2,nr zx3,nr zwv,nr zww,nr ztS,nr ztT,nr zx4,nr zwx,nr zwy,nr zwz,nr zqg,nr zwA,nr zwB,nr zwC,nr zwD,nr zwE,zwF,zwG,zwH,zwI,nr zqi,nr znG,nr zmj,nr zwJ,nr zwK,nr ztV,nr zqj,zx5,zx6,zx7,zx8,zx9,zya,zyb,zyc,zyd,zye,nr zwM,nr zwN,nr zql,nr zwO,nr zwP,zqm,nr ztW,ztX,zw4,nr zqL,nr zw7,nr zw8,nr zyj,nr zuv,nr zuw,nr zqU,nr zqV,nr zuz,nr zn0,nr zn1,nr zn2,nr zn3,nr zn4,nr zrZ,nr zxc,nr zuB,nr zuC,zig,zuD,nr zuG,zll,nr zxd,zuH,nr zq2,zoh,zdJ,zq8,zq9,zuR,zuS,zoj,nr zxh,nr zxi,zlu,zjA,zom,zuZ,zlx,List.getElem?_cons_zero,List.getElem?_cons_succ,List.set_cons_zero,List.set_cons_succ,List.cons_append,List.nil_append,List.length_cons,List.length_nil,List.replicate,Option.map_some,decide_eq_true_eq,List.mem_cons,List.not_mem_nil,true_or,or_true,or_false,false_or,if_true,if_false,ite_true,ite_false,true_and,and_true,and_false,false_and,Bool.not_true,Bool.not_false,Bool.false_eq_true,not_true,not_false_iff,Nat.zero_add,Nat.reduceAdd,Nat.reduceLeDiff,Nat.reduceEqDiff,Nat.reduceSub,Nat.reduceLT,List.map_cons,List.map_nil,List.getD_cons_zero,List.getD_cons_succ,List.drop_succ_cons,List.drop_zero,decide_true,decide_false,Bool.true_and,Bool.and_true,Bool.true_or,Bool.or_true,Bool.false_or,Bool.or_false,Bool.false_and,Bool.and_false,reduceCtorEq,List.length_map,List.length_append,nr zwL,nr zqk,String.reduceEq,↓reduceIte,Int.reduceEq,Int.reduceNe,Int.reduceLT,Int.reduceLE,Int.reduceAdd,Int.reduceSub,Int.reduceNeg,Int.reduceToNat,Int.cast_ofNat_Int,implies_true,forall_const,Option.map_none])
local macro_rules | `(tactic| simp_arith)=>`(tactic| simp_arith [zca])
namespace K10
open PySem L2
abbrev bx(x y:Int):U:=.l [.int x,.int y]
theorem zau{x y w:Int}{Q:U×List U->Prop}(hw:0 < w)(hw2:w<=18446744073709551616)(k:∀ r x' y',0<=r->r < w->Q (.d (.int r),[bx x' y',.d (.int w)])):Wo (zk [bx x y,.d (.int w)]) Q:=by
 simp_arith [zk,zdL]
 refine zcS (fun hx=>?_) (fun hx=>?_)
 ·simp_arith [hx]
  exact k _ _ _ (Int.emod_nonneg _ (by omega)) (Int.emod_lt_of_pos _ hw)
 ·simp_arith [hx]
  exact k _ _ _ (Int.emod_nonneg _ (by omega)) (Int.emod_lt_of_pos _ hw)
theorem zgO{x y:Int}{N:Nat}{Q:U×List U->Prop}(hN:0 < N)(hM:N<=1000)(k:∀ (r:Nat) x' y',r < N->Q (.d (.int (r:Int)),[bx x' y',.d (.int (N:Int))])):Wo (zk [bx x y,.d (.int (N:Int))]) Q :=
 zau (by omega) (by omega) fun r x' y' h0 h1=>by
  obtain⟨q,rfl⟩:=Int.eq_ofNat_of_zero_le h0
  exact k q x' y' (by omega)
theorem zdP{n m:Nat}(h:n<=m)(hm:m<=1000:=by decide):n<=1000:=Nat.le_trans h hm
theorem zu6{r:Int}{N:Nat}(h0:0<=r)(h1:r < 0+(N:Int)):∃ q:Nat,r=(q:Int)/\q < N:=⟨r.toNat,by omega,by omega⟩
theorem zxm{c r:Int}{N:Nat}(hN:0 < 0+(N:Int))(h0:0<=r)(h1:r < 0+(N:Int))(hc:c=0+(N:Int) - 1\/c=r):∃ p:Nat,c=(p:Int)/\p < N:=⟨c.toNat,by omega,by omega⟩
theorem zyk{N:Nat}(h:¬0+(N:Int)=0)(hM:N<=1000):0 < 0+(N:Int)/\0+(N:Int)<=18446744073709551616:=by omega
theorem zxn{N:Nat}(h:1<=N)(hM:N<=1000):0 < (N:Int)/\(N:Int)<=18446744073709551616:=by omega
theorem zoz{ns:List Int}{k:Int}(h0:0<=k)(h:k < (ns.length:Int)):∃ v:Int,atI (ns.map PyData.int) k=some (.int v):=by
 have hk:k.toNat < ns.length:=by omega
 refine⟨ns[k.toNat],?_⟩
 unfold atI ixN
 rw [if_pos h0,if_pos (by rw [List.length_map]; exact h),bd,List.getElem?_map,List.getElem?_eq_getElem hk]
 rfl
noncomputable def zoA:MS:=(zv (zK 3 (mOp za3 (mOp zdV (mOp za3 (mOp zdC (mOp zdV (ze 2) (mC (.int 2147483629))) (mC (.int 48271))) (mOp zdC (mC (.int 40692)) (ze 1))) (mC (.int 2147483629))) (mC (.int 1))))
  (zaq (zbq (zb (mOp zdC (ze 2) (mCB (f1 zeT) (zb (mOp fGe (ze 2) (mOp znk (mC (.int 10)) (mC (.int 18)))) zm))) (zb (ze 3) zm)))))
theorem zu7:zea=(zv (zK 2 (mOp za3 (mOp zdC (mC (.int 7919)) (ze 1)) (mC (.int 11))))
  (zv (zah (mB (mOp fLt (ze 1) (mCB (f1 zbF) (zb (ze 0) zm)))) (zK 2 (mOp zaS (ze 0) (ze 1))) (zah (mB (mOp fGt (mCB (f1 zbF) (zb (ze 0) zm)) (mC (.int 0)))) (zK 2 (mOp za3 (ze 2) (mOp zdC (mOp zdV (mOp zaS (ze 0) (mOp zdV (ze 1) (mCB (f1 zbF) (zb (ze 0) zm)))) (mC (.int 2147483629))) (mC (.int 69623))))) zU))
  zoA)):=rfl
theorem ziz{s:U}{k c:Int}{Q:Fl->Prop}(q:∀ x y o2 o3,Q (.rt (bx x y) [some s,some (.d (.int k)),o2,o3])):Wo (zoA [some s,some (.d (.int k)),some (.d (.int c)),none]) Q:=by
 simp_arith [zoA]
 exact q _ _ _ _
theorem zxo{ns:List Int}{k:Int}{Q:U×List U->Prop}(h0:0<=k)(q:∀ x y,Q (bx x y,[.d (.list (ns.map .int)),.d (.int k)])):Wo (zbM [.d (.list (ns.map .int)),.d (.int k)]) Q:=by
 simp_arith [zbM,zu7,List.length_map]
 refine zcS (fun h1=>?_) (fun h1=>?_)
 ·obtain⟨v,hv⟩:=zoz h0 h1
  simp_arith [hv]
  refine ziz fun x y o2 o3=>?_
  simp_arith
  exact q _ _
 ·simp_arith [List.length_map]
  refine zcS (fun h2=>?_) (fun h2=>?_)
  ·have hm:=Int.emod_lt_of_pos k h2
   have hm0:=Int.emod_nonneg k (show(ns.length:Int)≠0 by omega)
   obtain⟨v,hv⟩:=zoz hm0 hm
   simp_arith [hv]
   refine ziz fun x y o2 o3=>?_
   simp_arith
   exact q _ _
  ·simp_arith
   refine ziz fun x y o2 o3=>?_
   simp_arith
   exact q _ _
end K10
open PySem L2
namespace K10
open PySem L2
theorem zbX{x y:Int}(hx:0<=x)(hy:0<=y):zX [.d (.int x),.d (.int y)]=some (.d (.int (Int.gcd x y:Nat)),[.d (.int x),.d (.int y)]):=by
 refine zag ?_
 simp_arith [zX,zcE]
 refine zjn (fun k ρ=>∃ a b:Int,ρ=[some (.d (.int a)),some (.d (.int b))]/\0<=a/\0<=b/\b.toNat=k/\Int.gcd a b=Int.gcd x y) _ ⟨x,y,rfl,hx,hy,rfl,rfl⟩ ?_
 rintro k _ ⟨a,b,rfl,ha,hb,hk,hg⟩
 simp_arith
 by_cases hz:b=0
 ·subst hz
  have e:a=((Int.gcd x y:Nat):Int):=by rw [<-hg,Int.gcd_zero_right]; omega
  subst e
  simp_arith [bne_self_eq_false]
 ·have hb':(b != 0)=true:=by simp [hz]
  simp_arith [hb']
  refine⟨(a % b).toNat,?_,_,_,rfl,by omega,Int.emod_nonneg _ hz,rfl,?_⟩
  ·have:=Int.emod_lt_of_pos a (show 0 < b by omega)
   have:=Int.emod_nonneg a hz
   omega
  ·rw [ziX a b ha (by omega)]
   exact hg
theorem zgP{a b:Nat}(h:a<=b)(hb:b.log2 < 9000):a.log2 < 9000:=by
 by_cases z:a=0
 ·rw [z]; decide
 ·exact Nat.lt_of_le_of_lt ((Nat.le_log2 (by omega)).mpr (Nat.le_trans (Nat.log2_self_le z) h)) hb
theorem zaG{n d:Int}(hd:d≠0)(hb:d.natAbs.log2 < 9000):zz [.d (.int n),.d (.int d)]=some (.d (fR (Rat.divInt n d)),[.d (.int n),.d (.int d)]):=by
 have gl:Int.gcd n d<=d.natAbs:=Int.gcd_le_natAbs_right n hd
 have gp:0 < Int.gcd n d:=Int.gcd_pos_of_ne_zero_right n hd
 have glog:=zgP gl hb
 refine zag ?_
 rw [<-zuQ hd]
 unfold zgB zfK
 rw [<-zjw n d (show(0:Int) < (Int.gcd n d:Nat) by omega),<-zjw d d (show(0:Int) < (Int.gcd n d:Nat) by omega)]
 simp_arith [zz,zcs]
 refine zjn (fun k ρ=>∃ a b:Int,ρ=[some (.d (.int n)),some (.d (.int d)),some (.d (.int a)),some (.d (.int b))]/\0<=a/\0<=b/\b.toNat=k/\Int.gcd a b=Int.gcd n d) _ ⟨_,_,rfl,by split<;>omega,by split<;>omega,rfl,zod n d⟩ ?_
 rintro k _ ⟨a,b,rfl,ha,hb0,hk,hg⟩
 simp_arith
 by_cases hz:b=0
 ·subst hz
  have e:a=((Int.gcd n d:Nat):Int):=by rw [<-hg,Int.gcd_zero_right]; omega
  subst e
  have c1:zht n ((Int.gcd n d:Nat):Int):=⟨by omega,by rw [Int.natAbs_natCast]; exact glog⟩
  have c2:zht n (0 - ((Int.gcd n d:Nat):Int)):=⟨by omega,by rw [Int.zero_sub,Int.natAbs_neg,Int.natAbs_natCast]; exact glog⟩
  simp_arith
  refine zcS (fun h=>?_) (fun h=>?_)
  ·simp_arith [h,zid (a:=n) c2,zid (a:=d) c2]
  ·simp_arith [h,zid (a:=n) c1,zid (a:=d) c1]
 ·simp_arith [hz]
  refine⟨(a % b).toNat,?_,_,_,rfl,by omega,Int.emod_nonneg _ hz,rfl,?_⟩
  ·have:=Int.emod_lt_of_pos a (show 0 < b by omega)
   have:=Int.emod_nonneg a hz
   omega
  ·rw [ziX a b ha (by omega)]
   exact hg
structure Sz (r:Rat):Prop where
 n:r.num.natAbs < 2^4000
 d:r.den < 2^4000
theorem Sz.di{r:Rat}(h:Sz r):(r.den:Int).natAbs < 2^4000:=by rw [Int.natAbs_natCast]; exact h.d
theorem lgd{n:Nat}(h:n < 2^4000):n.log2 < 4000:=zdz (by decide) h
theorem lg9{n:Nat}(h:n < 2^4000):n.log2 < 9000:=Nat.lt_trans (lgd h) (by decide)
theorem lgm{n:Nat}(h:n < 2^4000):n.log2 < 1000000:=Nat.lt_trans (lgd h) (by decide)
theorem ziA{a b:Nat}(h:a < 2^4000)(h':b < 2^4000):(a * b).log2 < 9000:=by
 refine Nat.lt_trans (zdz (k:=4000+4000) (by decide) ?_) (by decide)
 rw [Nat.pow_add]
 exact Nat.mul_lt_mul'' h h'
section
variable {a b:Rat}
theorem zfF(ha:Sz a)(hb:Sz b):zbn [.d (fR a),.d (fR b)]=some (.d (fR (a+b)),[.d (fR a),.d (fR b)]):=by
 refine zag ?_
 have da:=zfL a
 have db:=zfL b
 have dab:((a.den:Int) * (b.den:Int))≠0:=Int.mul_ne_zero (by omega) (by omega)
 have lf:=zaG (n:=a.num * (b.den:Int)+b.num * (a.den:Int)) dab (by rw [Int.natAbs_mul,Int.natAbs_natCast,Int.natAbs_natCast]; exact ziA ha.d hb.d)
 rw [zfY]at lf
 simp_arith [zbn,zdM,zcc (lgm ha.n) (lgm hb.di),zcc (lgm hb.n) (lgm ha.di),zcc (lgm ha.di) (lgm hb.di),lf]
theorem ziB(ha:Sz a)(hb:Sz b):zbC [.d (fR a),.d (fR b)]=some (.d (fR (a * b)),[.d (fR a),.d (fR b)]):=by
 refine zag ?_
 have da:=zfL a
 have db:=zfL b
 have dab:((a.den:Int) * (b.den:Int))≠0:=Int.mul_ne_zero (by omega) (by omega)
 have lf:=zaG (n:=a.num * b.num) dab (by rw [Int.natAbs_mul,Int.natAbs_natCast,Int.natAbs_natCast]; exact ziA ha.d hb.d)
 rw [zik]at lf
 simp_arith [zbC,zdg,zcc (lgm ha.n) (lgm hb.n),zcc (lgm ha.di) (lgm hb.di),lf]
theorem zeJ{x g:Int}(hx:0<=x)(hg:0 < g)(h:x.natAbs < 2^4000):(x / g).natAbs < 2^4000:=by
 have h1:x / g<=x:=Int.ediv_le_self g hx
 have h2:0<=x / g:=Int.ediv_nonneg hx (by omega)
 omega
theorem zjB(ha:Sz a)(hb:Sz b):zc2 [.d (fR a),.d (.int b.num),.d (.int (b.den:Int))]=some (.d (fR (a+b)),[.d (fR a),.d (.int b.num),.d (.int (b.den:Int))]):=by
 refine zag ?_
 have da:=zfL a
 have db:=zfL b
 have dab:((a.den:Int) * (b.den:Int))≠0:=Int.mul_ne_zero (by omega) (by omega)
 have al:=zq3 (a:=a.num) (b:=(a.den:Int)) (c:=b.num) (d:=(b.den:Int)) da db (cop a) (cop b) rfl rfl rfl
 obtain⟨lr1,lr2⟩:=ze4 (n:=a.num * (b.den:Int)+b.num * (a.den:Int)) dab
 rw [lr1,lr2,zfY]at al
 have gl:Int.gcd (a.den:Int) (b.den:Int)<=(b.den:Int).natAbs:=Int.gcd_le_natAbs_right _ (by omega)
 have gp:0 < Int.gcd (a.den:Int) (b.den:Int):=Int.gcd_pos_of_ne_zero_right _ (by omega)
 have cf:zX [.d (.int (a.den:Int)),.d (.int (b.den:Int))]=_:=zbX (by omega) (by omega)
 generalize eg:Int.gcd (a.den:Int) (b.den:Int)=g at al gl gp cf
 have g0:(0:Int) < (g:Int):=by omega
 have cg:∀ z:Int,zeO z (g:Int):=fun z=>⟨g0,by rw [Int.natAbs_natCast]; exact zgP gl (lg9 hb.di)⟩
 have s1:=zeJ (x:=(b.den:Int)) (by omega) g0 hb.di
 have s2:=zeJ (x:=(a.den:Int)) (by omega) g0 ha.di
 generalize et:a.num * ((b.den:Int) / (g:Int))+b.num * ((a.den:Int) / (g:Int))=t at al
 have ll:Int.gcd t (g:Int)<=(g:Int).natAbs:=Int.gcd_le_natAbs_right _ (by omega)
 have lp:0 < Int.gcd t (g:Int):=Int.gcd_pos_of_ne_zero_right _ (by omega)
 have cf2:zX [.d (.int (if t < 0 then -t else t)),.d (.int (g:Int))]=_:=zbX (by split<;>omega) (by omega)
 rw [zhU]at cf2
 generalize el:Int.gcd t (g:Int)=l at al ll lp cf2
 have l0:(0:Int) < (l:Int):=by omega
 have cl:∀ z:Int,zeO z (l:Int):=fun z=>⟨l0,by rw [Int.natAbs_natCast]; exact zgP (by omega) (lg9 hb.di)⟩
 have s3:=zeJ (x:=(b.den:Int)) (by omega) l0 hb.di
 simp_arith [zc2,ziw,cf,zgv (cg _),zcc (lgm ha.n) (lgm s1),zcc (lgm hb.n) (lgm s2),et,cf2,zgv (cl _),zcc (lgm s2) (lgm s3)]
 rw [al.1,al.2]
 rfl
theorem zri(ha:Sz a)(hb:Sz b):zfv [.d (fR a),.d (fR b)]=some (.d (fR (a+b)),[.d (fR a),.d (fR b)]):=by
 refine zag ?_
 simp_arith [zfv,zkE,zjB ha hb]
end
end K10
set_option exponentiation.threshold 10000
open PySem L2
namespace K10
open PySem L2
section
variable {a b:Rat}
theorem zjC(ha:Sz a)(hb:Sz b):zcI [.d (fR a),.d (fR b)]=some (.d (fR (a * b)),[.d (fR a),.d (fR b)]):=by
 refine zag ?_
 have da:=zfL a
 have db:=zfL b
 have dab:((a.den:Int) * (b.den:Int))≠0:=Int.mul_ne_zero (by omega) (by omega)
 have ml:=zq4 (a:=a.num) (b:=(a.den:Int)) (c:=b.num) (d:=(b.den:Int)) da db (cop a) (cop b) rfl rfl
 obtain⟨lr1,lr2⟩:=ze4 (n:=a.num * b.num) dab
 rw [lr1,lr2,zik]at ml
 have gl:Int.gcd a.num (b.den:Int)<=(b.den:Int).natAbs:=Int.gcd_le_natAbs_right _ (by omega)
 have gp:0 < Int.gcd a.num (b.den:Int):=Int.gcd_pos_of_ne_zero_right _ (by omega)
 have hl:Int.gcd b.num (a.den:Int)<=(a.den:Int).natAbs:=Int.gcd_le_natAbs_right _ (by omega)
 have hp:0 < Int.gcd b.num (a.den:Int):=Int.gcd_pos_of_ne_zero_right _ (by omega)
 have c1:zX [.d (.int (if a.num < 0 then -a.num else a.num)),.d (.int (b.den:Int))]=_:=zbX (by split<;>omega) (by omega)
 have c2:zX [.d (.int (if b.num < 0 then -b.num else b.num)),.d (.int (a.den:Int))]=_:=zbX (by split<;>omega) (by omega)
 rw [zhU]at c1 c2
 generalize Int.gcd a.num (b.den:Int)=g at ml gl gp c1
 generalize Int.gcd b.num (a.den:Int)=h at ml hl hp c2
 have cg:∀ z:Int,zeO z (g:Int):=fun z=>⟨by omega,by rw [Int.natAbs_natCast]; exact zgP gl (lg9 hb.di)⟩
 have chh:∀ z:Int,zeO z (h:Int):=fun z=>⟨by omega,by rw [Int.natAbs_natCast]; exact zgP hl (lg9 ha.di)⟩
 have sm:∀ {x:Int} {k:Nat},0 < k->x.natAbs < 2^4000->(x / (k:Int)).natAbs < 2^4000:=fun{x k} hk hx=>Nat.lt_of_le_of_lt (Int.natAbs_ediv_le_natAbs x (k:Int)) hx
 simp_arith [zcI,zix,c1,c2,zgv (cg _),zgv (chh _),zcc (lgm (sm gp ha.n)) (lgm (sm hp hb.n)),zcc (lgm (sm hp ha.di)) (lgm (sm gp hb.di))]
 rw [ml.1,ml.2]
 rfl
end
section
variable {a b:Rat}
theorem Sz.neg(h:Sz b):Sz (-b):=⟨by rw [Rat.neg_num,Int.natAbs_neg]; exact h.n,by rw [Rat.neg_den]; exact h.d⟩
theorem zrj(ha:Sz a)(hb:Sz b):zfw [.d (fR a),.d (fR b)]=some (.d (fR (a - b)),[.d (fR a),.d (fR b)]):=by
 refine zag ?_
 have h:=zjB ha hb.neg
 rw [Rat.neg_num,Rat.neg_den,<-Rat.sub_eq_add_neg]at h
 simp_arith [zfw,zkF,h]
theorem zxp(h:b≠0)(c:b.num < 0):PyData.tuple [.int (-(b.den:Int)),.int (-b.num)]=fR b⁻¹:=by
 unfold fR
 rw [Rat.num_inv,Rat.den_inv,Int.sign_eq_neg_one_of_neg c,if_neg (by omega)]
 congr 2
 ·congr 1; omega
 ·congr 2; omega
theorem zxq(h:b≠0)(c:0 < b.num):PyData.tuple [.int (b.den:Int),.int b.num]=fR b⁻¹:=by
 unfold fR
 rw [Rat.num_inv,Rat.den_inv,Int.sign_eq_one_of_pos c,if_neg (by omega)]
 congr 2
 ·congr 1; omega
 ·congr 2; omega
theorem Sz.inv(h:b≠0)(hb:Sz b):Sz b⁻¹:=by
 have h0:b.num≠0:=fun z=>h (Rat.num_eq_zero.mp z)
 constructor
 ·rw [Rat.num_inv,Int.natAbs_mul,Int.natAbs_natCast,Int.natAbs_sign_of_ne_zero h0,Nat.one_mul]
  exact hb.d
 ·rw [Rat.den_inv,if_neg h0]
  exact hb.n
theorem zrk(ha:Sz a)(hb:Sz b)(h:b≠0):zfx [.d (fR a),.d (fR b)]=some (.d (fR (a / b)),[.d (fR a),.d (fR b)]):=by
 refine zag ?_
 have h0:b.num≠0:=fun z=>h (Rat.num_eq_zero.mp z)
 have t:=zjC ha (hb.inv h)
 rw [<-Rat.div_def]at t
 simp_arith [zfx,zkG]
 refine zcS (fun c=>?_) (fun c=>?_)
 ·rw [<-zxp h c]at t
  simp_arith [c,t]
 ·rw [<-zxq h (by omega)]at t
  simp_arith [c,t]
end
end K10
open PySem L2
namespace K10
open PySem L2
inductive Wd where | plus | less | times | over
def Wd.s:Wd->Str
 | .plus => "plus" | .less => "less" | .times => "times" | .over => "over"
inductive Rw where | num (f:Rat) | lt (k:Nat) | op (w:Wd) (i j:Nat)
def Rw.d:Rw->D
 | .num f=>.tuple [.str "number",fR f]
 | .lt k=>.tuple [.str "letter",.int (k:Int)]
 | .op w i j=>.tuple [.str w.s,.int (i:Int),.int (j:Int)]
def wv:Wd->Rat->Rat->Option Rat
 | .plus,a,b=>some (a+b)
 | .less,a,b=>some (a - b)
 | .times,a,b=>some (a * b)
 | .over,a,b=>if b=0 then none else some (a / b)
def rv(pt vs:List Rat):Rw->Option Rat
 | .num f=>some f
 | .lt k=>some (pt.getD k 0)
 | .op w i j=>wv w (vs.getD i 0) (vs.getD j 0)
def go(pt:List Rat):List Rat->List Rw->Except Nat (List Rat)
 | vs,[]=>.ok vs
 | vs,r::rs=>match rv pt vs r with
  | none=>.error vs.length
  | some v=>go pt (vs++[v]) rs
abbrev W2:=Nat×Nat
def wt(ws:List W2):Rw->W2
 | .op .times i j=>((ws.getD i (1,0)).1+(ws.getD j (1,0)).1,(ws.getD i (1,0)).2+(ws.getD j (1,0)).2)
 | .op .over i j=>((ws.getD i (1,0)).1+(ws.getD j (1,0)).2,(ws.getD i (1,0)).2+(ws.getD j (1,0)).1)
 | .op _ i j=>(max ((ws.getD i (1,0)).1+(ws.getD j (1,0)).2) ((ws.getD j (1,0)).1+(ws.getD i (1,0)).2),(ws.getD i (1,0)).2+(ws.getD j (1,0)).2)
 | _=>(1,0)
def zee(n i:Nat):Rw->Prop
 | .num f=>Bd 12 12000000 f
 | .lt k=>k < n
 | .op _ a b=>a < i/\b < i
structure RG (n W:Nat) (rs:List Rw) (ws:List W2):Prop where
 ln:ws.length=rs.length
 ok:∀ i r,rs[i]?=some r->zee n i r/\ws[i]?=some (wt ws r)/\(wt ws r).1<=W/\(wt ws r).2<=W
theorem RG.nil{n W:Nat}:RG n W [] []:=⟨rfl,fun i r h=>by simp at h⟩
theorem zoB{n i:Nat}{ws ws':List W2}{r:Rw}(h:zee n i r)(e:∀ j,j < i->ws.getD j (1,0)=ws'.getD j (1,0)):wt ws r=wt ws' r:=by
 cases r with
 | num=>rfl
 | lt=>rfl
 | op w a b =>
  have ea:=e a h.1
  have eb:=e b h.2
  cases w<;>simp only [wt,ea,eb]
theorem RG.snoc{n W:Nat}{rs:List Rw}{ws:List W2}{r:Rw}(h:RG n W rs ws)(hr:zee n rs.length r)(h1:(wt ws r).1<=W)(h2:(wt ws r).2<=W):RG n W (rs++[r]) (ws++[wt ws r]):=by
 have ge:∀ j,j < ws.length->(ws++[wt ws r]).getD j (1,0)=ws.getD j (1,0):=fun j hj=>by
  rw [List.getD_eq_getElem?_getD,List.getD_eq_getElem?_getD,List.getElem?_append_left hj]
 refine⟨by rw [List.length_append,List.length_append,h.ln]; rfl,fun i r' hi=>?_⟩
 rcases Nat.lt_or_ge i rs.length with c | c
 ·rw [List.getElem?_append_left c]at hi
  obtain⟨a,b,e1,e2⟩:=h.ok i r' hi
  have we:=zoB (ws':=ws) a fun j hj=>ge j (by rw [h.ln]; omega)
  refine⟨a,?_,by rw [we]; exact e1,by rw [we]; exact e2⟩
  rw [List.getElem?_append_left (by rw [h.ln]; exact c),we,b]
 ·have hlt:=(List.getElem?_eq_some_iff.mp hi).1
  rw [List.length_append,List.length_singleton]at hlt
  have ei:i=rs.length:=by omega
  subst ei
  rw [List.getElem?_append_right (Nat.le_refl _),Nat.sub_self]at hi
  cases hi
  have we:=zoB (ws:=ws++[wt ws r]) (ws':=ws) hr fun j hj=>ge j (by rw [h.ln]; omega)
  refine⟨hr,?_,by rw [we]; exact h1,by rw [we]; exact h2⟩
  rw [<-h.ln,List.getElem?_append_right (Nat.le_refl _),Nat.sub_self,we]
  rfl
theorem RG.take{n W:Nat}{rs:List Rw}{ws:List W2}(h:RG n W rs ws)(c:Nat):RG n W (rs.take c) (ws.take c):=by
 refine⟨by rw [List.length_take,List.length_take,h.ln],fun i r hi=>?_⟩
 rw [List.getElem?_take]at hi
 split at hi
 ·rename_i hc
  obtain⟨a,b,e1,e2⟩:=h.ok i r hi
  have we:=zoB (ws:=ws.take c) (ws':=ws) a fun j hj=>by
   rw [List.getD_eq_getElem?_getD,List.getD_eq_getElem?_getD,List.getElem?_take,if_pos (by omega)]
  refine⟨a,?_,by rw [we]; exact e1,by rw [we]; exact e2⟩
  rw [List.getElem?_take,if_pos hc,we,b]
 ·cases hi
theorem RG.mono{n W W':Nat}{rs:List Rw}{ws:List W2}(h:RG n W rs ws)(c:W<=W'):RG n W' rs ws:=⟨h.ln,fun i r hi=>let ⟨a,b,e1,e2⟩:=h.ok i r hi; ⟨a,b,by omega,by omega⟩⟩
theorem zb9(x:Rat)(m:Nat):∀ n:Nat,x^(m+n)=x^m * x^n
 | 0=>by rw [Nat.add_zero,Rat.pow_zero,Rat.mul_one]
 | n+1=>by rw [<-Nat.add_assoc,Rat.pow_succ,Rat.pow_succ,zb9 x m n,Rat.mul_assoc]
theorem zlA{x:Rat}(h:x≠0):∀ n:Nat,x^n≠0
 | 0=>by rw [Rat.pow_zero]; decide
 | n+1=>by
  rw [Rat.pow_succ]
  exact fun z=>(Rat.mul_eq_zero.mp z).elim (zlA h n) h
theorem zcK(x:Int):∀ n:Nat,((x^n:Int):Rat)=(x:Rat)^n
 | 0=>by rw [Rat.pow_zero,Int.pow_zero]; rfl
 | n+1=>by rw [Rat.pow_succ,Int.pow_succ,Rat.intCast_mul,zcK x n]
structure Vb (M G k:Nat) (w:W2) (v:Rat):Prop where
 one:1<=w.1
 ex:∃ p q:Int,q≠0/\v * (q:Rat) * (M:Rat)^w.1=(p:Rat) * (M:Rat)^w.2/\p.natAbs<=(2^k * G)^w.1/\q.natAbs<=(2^k * G)^w.2
section
variable {M G k:Nat} {v v':Rat} {w w':W2}
theorem Vb.leaf(h:Bd M G v):Vb M G k (1,0) v:=by
 obtain⟨p,e,hp⟩:=h
 refine⟨Nat.le_refl _,p,1,by decide,?_,?_,by simp⟩
 ·show v * (1:Rat) * (M:Rat)^1=(p:Rat) * (M:Rat)^0
  rw [Rat.pow_zero,Rat.pow_succ,Rat.pow_zero,Rat.one_mul,Rat.mul_one,Rat.mul_one,e]
 ·show p.natAbs<=(2^k * G)^1
  rw [Nat.pow_one]
  have:=Nat.mul_le_mul_right G (Nat.one_le_two_pow (n:=k))
  omega
theorem Vb.up(h:Vb M G k w v){k':Nat}(c:k<=k'):Vb M G k' w v:=by
 obtain⟨o,p,q,q0,e,hp,hq⟩:=h
 have X:2^k * G<=2^k' * G:=Nat.mul_le_mul_right _ (Nat.pow_le_pow_right (by decide) c)
 exact⟨o,p,q,q0,e,Nat.le_trans hp (Nat.pow_le_pow_left X _),Nat.le_trans hq (Nat.pow_le_pow_left X _)⟩
theorem zbw{a b X i j:Nat}(h:a<=X^i)(h':b<=X^j):a * b<=X^(i+j):=by
 rw [Nat.pow_add]
 exact Nat.mul_le_mul h h'
theorem Vb.times(h:Vb M G k w v)(h':Vb M G k w' v'):Vb M G k (w.1+w'.1,w.2+w'.2) (v * v'):=by
 obtain⟨o,p,q,q0,e,hp,hq⟩:=h
 obtain⟨o',p',q',q0',e',hp',hq'⟩:=h'
 refine⟨Nat.le_add_right_of_le o,p * p',q * q',Int.mul_ne_zero q0 q0',?_,by rw [Int.natAbs_mul]; exact zbw hp hp',by rw [Int.natAbs_mul]; exact zbw hq hq'⟩
 dsimp only
 rw [Rat.intCast_mul,Rat.intCast_mul,zb9,zb9]
 generalize (M:Rat)^w.1=A at *
 generalize (M:Rat)^w'.1=A' at *
 generalize (M:Rat)^w.2=B at *
 generalize (M:Rat)^w'.2=B' at *
 have:=congr (congrArg HMul.hMul e) e'
 grind
theorem Vb.over(h:Vb M G k w v)(h':Vb M G k w' v')(hM:0 < M)(z:v'≠0):Vb M G k (w.1+w'.2,w.2+w'.1) (v / v'):=by
 obtain⟨o,p,q,q0,e,hp,hq⟩:=h
 obtain⟨o',p',q',q0',e',hp',hq'⟩:=h'
 have M0:(M:Rat)≠0:=fun h=>by
  have:((M:Int):Rat)=((0:Int):Rat):=h
  rw [Rat.intCast_inj]at this
  omega
 have p0:p'≠0:=fun h=>by
  rw [h]at e'
  have:v' * (q':Rat) * (M:Rat)^w'.1=0:=by rw [e']; exact Rat.zero_mul _
  rcases Rat.mul_eq_zero.mp this with h1 | h1
  ·rcases Rat.mul_eq_zero.mp h1 with h2 | h2
   ·exact z h2
   ·exact q0' (Rat.intCast_inj.mp h2)
  ·exact zlA M0 _ h1
 refine⟨Nat.le_add_right_of_le o,p * q',q * p',Int.mul_ne_zero q0 p0,?_,by rw [Int.natAbs_mul]; exact zbw hp hq',by rw [Int.natAbs_mul]; exact zbw hq hp'⟩
 dsimp only
 rw [Rat.intCast_mul,Rat.intCast_mul,zb9,zb9]
 generalize (M:Rat)^w.1=A at *
 generalize (M:Rat)^w'.1=A' at *
 generalize (M:Rat)^w.2=B at *
 generalize (M:Rat)^w'.2=B' at *
 have ev:v / v' * v'=v:=Rat.div_mul_cancel z
 generalize v / v'=u at *
 subst ev
 calc u * ((q:Rat) * (p':Rat)) * (A * B')=u * (q:Rat) * A * ((p':Rat) * B'):=by grind
  _=u * (q:Rat) * A * (v' * (q':Rat) * A'):=by rw [<-e']
  _=u * v' * (q:Rat) * A * ((q':Rat) * A'):=by grind
  _=(p:Rat) * B * ((q':Rat) * A'):=by rw [e]
  _=(p:Rat) * (q':Rat) * (B * A'):=by grind
theorem Vb.plus(h:Vb M G k w v)(h':Vb M G k w' v')(hM:M<=G)(s:Int)(hs:s=1\/s=-1):Vb M G (k+1) (max (w.1+w'.2) (w'.1+w.2),w.2+w'.2) (v+(s:Rat) * v'):=by
 obtain⟨o,p,q,q0,e,hp,hq⟩:=h
 obtain⟨o',p',q',q0',e',hp',hq'⟩:=h'
 obtain⟨c,hc⟩:∃ c,max (w.1+w'.2) (w'.1+w.2)=w.1+w'.2+c:=⟨_,(Nat.add_sub_cancel' (Nat.le_max_left _ _)).symm⟩
 obtain⟨d,hd⟩:∃ d,max (w.1+w'.2) (w'.1+w.2)=w'.1+w.2+d:=⟨_,(Nat.add_sub_cancel' (Nat.le_max_right _ _)).symm⟩
 generalize max (w.1+w'.2) (w'.1+w.2)=m at *
 have X:2^k * G<=2^(k+1) * G:=Nat.mul_le_mul_right _ (Nat.pow_le_pow_right (by decide) (by omega))
 have MX:M<=2^k * G:=Nat.le_trans hM (by
  have:=Nat.mul_le_mul_right G (Nat.one_le_two_pow (n:=k))
  omega)
 refine⟨by dsimp only; omega,p * q' * (M:Int)^c+s * (p' * q * (M:Int)^d),q * q',Int.mul_ne_zero q0 q0',?_,?_,by
  rw [Int.natAbs_mul]
  exact Nat.le_trans (zbw hq hq') (Nat.pow_le_pow_left X _)⟩
 ·dsimp only
  have e1:(v+(s:Rat) * v') * ((q * q':Int):Rat) * (M:Rat)^m=v * (q:Rat) * (M:Rat)^m * (q':Rat)+(s:Rat) * (v' * (q':Rat) * (M:Rat)^m * (q:Rat)):=by
   rw [Rat.intCast_mul]; grind
  have e2:v * (q:Rat) * (M:Rat)^m=(p:Rat) * (M:Rat)^w.2 * ((M:Rat)^w'.2 * (M:Rat)^c):=by
   rw [hc,zb9,zb9,<-e]; grind
  have e3:v' * (q':Rat) * (M:Rat)^m=(p':Rat) * (M:Rat)^w'.2 * ((M:Rat)^w.2 * (M:Rat)^d):=by
   rw [hd,zb9,zb9,<-e']; grind
  rw [e1,e2,e3,Rat.intCast_add,Rat.intCast_mul,Rat.intCast_mul,Rat.intCast_mul,Rat.intCast_mul,Rat.intCast_mul,zcK,zcK,zb9]
  rw [show(((M:Nat):Int):Rat)=(M:Rat) from rfl]
  grind
 ·dsimp only
  have b1:(p * q' * (M:Int)^c).natAbs<=(2^k * G)^m:=by
   rw [hc,Int.natAbs_mul,Int.natAbs_mul,Int.natAbs_pow,Int.natAbs_natCast]
   exact zbw (zbw hp hq') (Nat.pow_le_pow_left MX _)
  have b2:(s * (p' * q * (M:Int)^d)).natAbs<=(2^k * G)^m:=by
   have:s.natAbs=1:=by rcases hs with rfl | rfl<;>rfl
   rw [hd,Int.natAbs_mul,this,Nat.one_mul,Int.natAbs_mul,Int.natAbs_mul,Int.natAbs_pow,Int.natAbs_natCast]
   exact zbw (zbw hp' hq) (Nat.pow_le_pow_left MX _)
  refine Nat.le_trans (Int.natAbs_add_le _ _) (Nat.le_trans (Nat.add_le_add b1 b2) ?_)
  rw [Nat.pow_succ,Nat.mul_right_comm,Nat.mul_pow _ 2,<-Nat.mul_two]
  refine Nat.mul_le_mul_left _ ?_
  have:=Nat.pow_le_pow_right (n:=2) (by decide) (show 1<=m by omega)
  rw [Nat.pow_one]at this
  exact this
theorem Vb.size(h:Vb M G k w v)(hM:0 < M){W X Y:Nat}(h1:w.1<=W)(h2:w.2<=W)(hX:2^k * G<=X)(hY:M<=Y)(X0:0 < X):v.num.natAbs<=X^W * Y^W/\v.den<=X^W * Y^W:=by
 obtain⟨o,p,q,q0,e,hp,hq⟩:=h
 have d0:q * (M:Int)^w.1≠0:=Int.mul_ne_zero q0 (Int.pow_ne_zero (by omega))
 have ev:v=Rat.divInt (p * (M:Int)^w.2) (q * (M:Int)^w.1):=by
  rw [Rat.divInt_eq_div,Rat.intCast_mul,Rat.intCast_mul,zcK,zcK]
  rw [show(((M:Nat):Int):Rat)=(M:Rat) from rfl,<-e,Rat.mul_assoc]
  have:((q:Rat) * (M:Rat)^w.1)≠0:=fun h=>d0 (Rat.intCast_inj.mp (by rw [Rat.intCast_mul,zcK]; exact h))
  rw [Rat.mul_div_cancel this]
 obtain⟨_,_,_,f4,f5⟩:=zfm (n:=p * (M:Int)^w.2) d0
 obtain⟨l1,l2⟩:=ze4 (n:=p * (M:Int)^w.2) d0
 rw [<-ev]at l1 l2
 have lx:∀ {a:Nat} {m:Nat},a<=W->m<=(2^k * G)^a->m<=X^W:=fun ha h=>Nat.le_trans h (Nat.le_trans (Nat.pow_le_pow_left hX _) (Nat.pow_le_pow_right X0 ha))
 have ly:∀ {a:Nat},a<=W->M^a<=Y^W:=fun ha=>Nat.le_trans (Nat.pow_le_pow_left hY _) (Nat.pow_le_pow_right (by omega) ha)
 constructor
 ·rw [<-l1]
  refine Nat.le_trans f5 ?_
  rw [Int.natAbs_mul,Int.natAbs_pow,Int.natAbs_natCast]
  exact Nat.mul_le_mul (lx h1 hp) (ly h2)
 ·have:(v.den:Int)<=((q * (M:Int)^w.1).natAbs:Int):=by rw [<-l2]; exact f4
  refine Nat.le_trans (show v.den<=(q * (M:Int)^w.1).natAbs by omega) ?_
  rw [Int.natAbs_mul,Int.natAbs_pow,Int.natAbs_natCast]
  exact Nat.mul_le_mul (lx h2 hq) (ly h1)
end
structure PtOk (n M G:Nat) (pt:List Rat):Prop where
 ln:pt.length=n
 bd:∀ v∈pt,Bd M G v
 nb:∀ f,Bd 12 12000000 f->Bd M G f
 M0:0 < M
 M34:M<=2^34
 MG:M<=G
 G54:G<=2^54
def VV(M G:Nat)(ws:List W2)(vs:List Rat):Prop:=∀ i,i < vs.length->Vb M G vs.length (ws.getD i (1,0)) (vs.getD i 0)
theorem zkH{α:Type}{xs:List α}{y z:α}{i:Nat}(h:i < xs.length):(xs++[y]).getD i z=xs.getD i z:=by
 rw [List.getD_eq_getElem?_getD,List.getD_eq_getElem?_getD,List.getElem?_append_left h]
theorem ziC{α:Type}{xs:List α}{y z:α}:(xs++[y]).getD xs.length z=y:=by
 rw [List.getD_eq_getElem?_getD,List.getElem?_append_right (Nat.le_refl _),Nat.sub_self]
 rfl
theorem zoC{α:Type}{xs:List α}{z:α}{i:Nat}(h:i < xs.length):xs.getD i z∈xs:=by
 rw [List.getD_eq_getElem?_getD,List.getElem?_eq_getElem h]
 exact List.getElem_mem h
theorem VV.snoc{n W M G:Nat}{pt vs:List Rat}{rs:List Rw}{ws:List W2}{r:Rw}{v:Rat}(hR:RG n W rs ws)(hp:PtOk n M G pt)(hv:VV M G ws vs)(er:rs[vs.length]?=some r)(e:rv pt vs r=some v):VV M G ws (vs++[v]):=by
 intro i hi
 rw [List.length_append,List.length_singleton]at hi ⊢
 rcases Nat.lt_or_ge i vs.length with c | c
 ·rw [zkH c]
  exact(hv i c).up (by omega)
 have ei:i=vs.length:=by omega
 subst ei
 obtain⟨ok,ew,_,_⟩:=hR.ok _ r er
 rw [ziC,List.getD_eq_getElem?_getD,ew,Option.getD_some]
 cases r with
 | num f=>cases e; exact .leaf (hp.nb _ ok)
 | lt k=>cases e; exact .leaf (hp.bd _ (zoC (by rw [hp.ln]; exact ok)))
 | op w a b =>
  have va:=hv a ok.1
  have vb:=hv b ok.2
  cases w with
  | plus=>cases e; have:=va.plus vb hp.MG 1 (.inl rfl); rw [show((1:Int):Rat)=1 from rfl,Rat.one_mul]at this; exact this
  | less=>cases e; have:=va.plus vb hp.MG (-1) (.inr rfl); rw [show(((-1:Int)):Rat)=-1 from rfl,Rat.neg_mul,Rat.one_mul,<-Rat.sub_eq_add_neg]at this; exact this
  | times=>cases e; exact(va.times vb).up (by omega)
  | over =>
   by_cases z:vs.getD b 0=0
   ·rw [show rv pt vs (.op .over a b)=if vs.getD b 0=0 then none else some (vs.getD a 0 / vs.getD b 0) from rfl,if_pos z]at e
    cases e
   ·rw [show rv pt vs (.op .over a b)=if vs.getD b 0=0 then none else some (vs.getD a 0 / vs.getD b 0) from rfl,if_neg z]at e
    cases e
    exact(va.over vb hp.M0 z).up (by omega)
structure Sv (r:Rat):Prop where
 n:r.num.natAbs < 10^410
 d:r.den < 10^410
theorem Sv.sz{r:Rat}(h:Sv r):Sz r:=⟨Nat.lt_trans h.n (by decide +kernel),Nat.lt_trans h.d (by decide +kernel)⟩
theorem VV.sv{n M G:Nat}{pt vs:List Rat}{rs:List Rw}{ws:List W2}{i:Nat}(hR:RG n 12 rs ws)(hp:PtOk n M G pt)(hv:VV M G ws vs)(hl:rs.length<=24)(hs:vs.length<=rs.length)(hi:i < vs.length):Sv (vs.getD i 0):=by
 obtain⟨_,ew,w1,w2⟩:=hR.ok i _ (List.getElem?_eq_getElem (by omega))
 have h:=hv i hi
 rw [List.getD_eq_getElem?_getD,ew,Option.getD_some]at h
 obtain⟨a,b⟩:=h.size hp.M0 w1 w2 (X:=2^24 * 2^54) (Y:=2^34) (Nat.mul_le_mul (Nat.pow_le_pow_right (by decide) (by omega)) hp.G54) hp.M34 (by decide)
 have t:(2^24 * 2^54)^12 * (2^34)^12 < 10^410:=by decide +kernel
 exact⟨Nat.lt_of_le_of_lt a t,Nat.lt_of_le_of_lt b t⟩
end K10
open PySem L2
namespace K10
open PySem L2
theorem zgQ{vs:List Rat}{i:Nat}(h:i < vs.length):atI (vs.map fR) (i:Int)=some (fR (vs.getD i 0)):=by
 unfold atI ixN
 rw [if_pos (by omega),if_pos (by rw [List.length_map]; omega),bd,List.getElem?_map,Int.toNat_natCast,List.getElem?_eq_getElem h,List.getD_eq_getElem?_getD,List.getElem?_eq_getElem h]
 rfl
theorem zhe{w:Wd}{a b v:Rat}(ha:Sz a)(hb:Sz b)(e:wv w a b=some v):za8 [.d (.str w.s),.d (fR a),.d (fR b)]=some (.d (fR v),[.d (.str w.s),.d (fR a),.d (fR b)]):=by
 refine zag ?_
 cases w with
 | plus=>cases e; simp_arith [za8,zbW,Wd.s,zri ha hb]
 | less=>cases e; simp_arith [za8,zbW,Wd.s,zrj ha hb]
 | times=>cases e; simp_arith [za8,zbW,Wd.s,zjC ha hb]
 | over =>
  by_cases z:b=0
  ·rw [show wv .over a b=if b=0 then none else some (a / b) from rfl,if_pos z]at e
   cases e
  ·rw [show wv .over a b=if b=0 then none else some (a / b) from rfl,if_neg z]at e
   cases e
   simp_arith [za8,zbW,Wd.s,zrk ha hb z]
theorem zxr(b:Rat):zub false [0,1] (.d (fR b))=some (.d (.bool (decide (b=0)))):=zom (a:=b) (b:=0) (neg:=false)
abbrev zcH(rs:List Rw):D:=.tuple (rs.map Rw.d)
abbrev ptD(pt:List Rat):D:=.tuple (pt.map fR)
abbrev zmt(ls:List D)(rs:List Rw):D:=.tuple [.tuple ls,zcH rs]
theorem zmu{w:Wd}:(w.s=Str.ofString "number")=False:=by
 cases w<;>exact eq_false (by decide)
theorem zmv{w:Wd}:(w.s=Str.ofString "letter")=False:=by
 cases w<;>exact eq_false (by decide)
theorem zu8{w:Wd}(h:w.s=Str.ofString "over"):w=.over:=by
 cases w
 ·exact absurd h (by decide)
 ·exact absurd h (by decide)
 ·exact absurd h (by decide)
 ·rfl
theorem zr5(w:Wd)(a b:Rat):(w=.over/\b=0)\/∃ v,wv w a b=some v/\(w=.over->¬b=0):=by
 cases w with
 | plus=>exact .inr ⟨_,rfl,fun h=>by cases h⟩
 | less=>exact .inr ⟨_,rfl,fun h=>by cases h⟩
 | times=>exact .inr ⟨_,rfl,fun h=>by cases h⟩
 | over =>
  by_cases z:b=0
  ·exact .inl ⟨rfl,z⟩
  ·exact .inr ⟨a / b,by rw [show wv .over a b=if b=0 then none else some (a / b) from rfl,if_neg z],fun _=>z⟩
theorem zgR{c:Prop}[Decidable c]{X:Option (Bool×En)}{ρ:En}{Q:Bool×En->Prop}(h:c->X=some (false,ρ))(q:Q (false,ρ)):Wo (if c then X else some (false,ρ)) Q:=by
 by_cases z:c
 ·rw [if_pos z,h z]; exact⟨_,rfl,q⟩
 ·rw [if_neg z]; exact⟨_,rfl,q⟩
theorem zu9{n M G:Nat}{ls:List D}{rs:List Rw}{ws:List W2}{pt:List Rat}(hR:RG n 12 rs ws)(hp:PtOk n M G pt)(hl:rs.length<=24) :
  zhJ [.d (zmt ls rs),.d (ptD pt)]=some (match go pt [] rs with | .ok vs=>.inl (.l (vs.map fR),[.d (zmt ls rs),.d (ptD pt)]) | .error k=>.inr (.dict [(.none,.str "NoOver"),(.str "at",.int (k:Int))],[.d (zmt ls rs),.d (ptD pt)])):=by
 refine zag ?_
 simp_arith [zhJ,zox]
 refine ze2 (fun i ρ=>∃ (vs:List Rat) (v5 v6 v7:Option U),ρ=[some (.d (zmt ls rs)),some (.d (ptD pt)),some (.d (.tuple ls)),some (.d (zcH rs)),some (.l (vs.map fR)),v5,v6,v7]/\vs.length=i/\go pt [] rs=go pt vs (rs.drop i)/\VV M G ws vs) ⟨[],none,none,none,rfl,rfl,by rw [List.drop_zero],fun i hi=>absurd hi (Nat.not_lt_zero _)⟩ ?_ ?_
 ·rintro i d _ hd ⟨vs,v5,v6,v7,rfl,hi,hg,hv⟩
  obtain⟨x,ex,rfl⟩:=zd4 hd
  rw [List.getElem?_map]at ex
  obtain⟨r,er,rfl⟩:=Option.map_eq_some_iff.mp ex
  have hlt:=(List.getElem?_eq_some_iff.mp er).1
  have dr:rs.drop i=r::rs.drop (i+1):=by
   obtain⟨hi,e⟩:=List.getElem?_eq_some_iff.mp er
   rw [List.drop_eq_getElem_cons hi,e]
  rw [dr]at hg
  have ok:=(hR.ok i r er).1
  subst hi
  have nx:∀ v,rv pt vs r=some v->(vs++[v]).length=vs.length+1/\go pt [] rs=go pt (vs++[v]) (rs.drop (vs.length+1))/\VV M G ws (vs++[v]):=fun v e=>⟨by simp,by rw [hg,go,e],hv.snoc hR hp er e⟩
  have mp:∀ v,vs.map fR++[fR v]=(vs++[v]).map fR:=fun v=>by rw [List.map_append]; rfl
  cases r with
  | num f =>
   simp_arith [Rw.d,mp]
   exact⟨_,_,_,_,rfl,nx f rfl⟩
  | lt k =>
   simp_arith [Rw.d,zgQ (vs:=pt) (i:=k) (by rw [hp.ln]; exact ok),mp]
   exact⟨_,_,_,_,rfl,nx _ rfl⟩
  | op w a b =>
   have sa:=(hv.sv hR hp hl (by omega) ok.1).sz
   have sb:=(hv.sv hR hp hl (by omega) ok.2).sz
   rcases zr5 w (vs.getD a 0) (vs.getD b 0)with ⟨rfl,z⟩ | ⟨v,e1,z⟩
   ·have e0:go pt [] rs=.error vs.length:=by
     rw [hg,go,show rv pt vs (.op .over a b)=if vs.getD b 0=0 then none else some (vs.getD a 0 / vs.getD b 0) from rfl,if_pos z]
    simp_arith [Rw.d,Wd.s,zgQ ok.1,zgQ ok.2,zxr,z,e0,Nat.zero_add]
   ·have mv:=zhe sa sb e1
    simp_arith [Rw.d,zmu,zmv]
    refine zgR (fun c=>zag ?_) ?_
    ·simp_arith [zgQ ok.2,zxr,z (zu8 c)]
    ·simp_arith [zgQ ok.1,zgQ ok.2,mv,mp]
     exact⟨_,_,_,_,rfl,nx _ e1⟩
 ·rintro _ ⟨vs,v5,v6,v7,rfl,hi,hg,hv⟩
  have e0:go pt [] rs=.ok vs:=by rw [hg,show(zcx 0 (rs.map Rw.d)).length=rs.length by rw [zdF,List.length_map],List.drop_length]; rfl
  simp_arith [e0]
theorem zrl(a b:Rat):Rat.divInt (a.num * b.den - b.num * a.den) ((a.den:Int) * b.den)=a - b:=by
 have:=zfY a (-b)
 rw [Rat.neg_num,Rat.neg_den,Int.neg_mul,<-Int.sub_eq_add_neg,<-Rat.sub_eq_add_neg]at this
 exact this
theorem zrm{a b:Rat}(h:b≠0):Rat.divInt (a.num * b.den) ((a.den:Int) * b.num)=a / b:=by
 have n0:b.num≠0:=fun z=>h (Rat.num_eq_zero.mp z)
 have d0:(a.den:Int) * b.num≠0:=Int.mul_ne_zero (by have:=zfL a; omega) n0
 have e1:=zgD a
 have e2:=zgD b
 have ev:a / b * b=a:=Rat.div_mul_cancel h
 have d1:(((a.den:Int):Rat) * (b.num:Rat))≠0:=fun z=>d0 (Rat.intCast_inj.mp (by rw [Rat.intCast_mul]; exact z))
 rw [Rat.divInt_eq_div,Rat.intCast_mul,Rat.intCast_mul]
 have:(a.num:Rat) * ((b.den:Int):Rat)=a / b * (((a.den:Int):Rat) * (b.num:Rat)):=by
  rw [<-e1,<-e2]
  show a * ((a.den:Nat):Rat) * ((b.den:Nat):Rat)=a / b * (((a.den:Nat):Rat) * (b * ((b.den:Nat):Rat)))
  generalize a / b=u at *
  subst ev
  grind
 rw [this,Rat.mul_div_cancel d1]
theorem zrn:zdK (.l [.str "plus",.str "less",.str "times",.str "over"]) (.d (.str "plus"))=some (.d (.int 0)):=by kernel_rfl
theorem zro:zdK (.l [.str "plus",.str "less",.str "times",.str "over"]) (.d (.str "less"))=some (.d (.int 1)):=by kernel_rfl
theorem zoD:zdK (.l [.str "plus",.str "less",.str "times",.str "over"]) (.d (.str "times"))=some (.d (.int 2)):=by kernel_rfl
theorem zrp:zdK (.l [.str "plus",.str "less",.str "times",.str "over"]) (.d (.str "over"))=some (.d (.int 3)):=by kernel_rfl
def Wd.n:Wd->Int
 | .plus=>0 | .less=>1 | .times=>2 | .over=>3
def nm(w:Wd)(a b:Rat):Int×Int:=match w with
 | .plus=>(a.num * (b.den:Int)+b.num * (a.den:Int),(a.den:Int) * (b.den:Int))
 | .less=>(a.num * (b.den:Int) - b.num * (a.den:Int),(a.den:Int) * (b.den:Int))
 | .times=>(a.num * b.num,(a.den:Int) * (b.den:Int))
 | .over=>(a.num * (b.den:Int),(a.den:Int) * b.num)
theorem zyl(w:Wd):zdK (.l [.str "plus",.str "less",.str "times",.str "over"]) (.d (.str w.s))=some (.d (.int w.n)):=by
 cases w
 ·exact zrn
 ·exact zro
 ·exact zoD
 ·exact zrp
theorem zxs(w:Wd)(a b:Rat):atI [PyData.tuple [.int (a.num * (b.den:Int)+b.num * (a.den:Int)),.int ((a.den:Int) * (b.den:Int))],.tuple [.int (a.num * (b.den:Int) - b.num * (a.den:Int)),.int ((a.den:Int) * (b.den:Int))],.tuple [.int (a.num * b.num),.int ((a.den:Int) * (b.den:Int))],.tuple [.int (a.num * (b.den:Int)),.int ((a.den:Int) * b.num)]] w.n=some (.tuple [.int (nm w a b).1,.int (nm w a b).2]):=by
 cases w<;>rfl
theorem zrq{w:Wd}{a b v:Rat}(sa:Sz a)(sb:Sz b)(e:wv w a b=some v):zz [.d (.int (nm w a b).1),.d (.int (nm w a b).2)]=some (.d (fR v),[.d (.int (nm w a b).1),.d (.int (nm w a b).2)]):=by
 have da:=zfL a
 have db:=zfL b
 have ld:(((a.den:Nat):Int) * ((b.den:Nat):Int)).natAbs.log2 < 9000:=by rw [Int.natAbs_mul,Int.natAbs_natCast,Int.natAbs_natCast]; exact ziA sa.d sb.d
 have dab:(((a.den:Nat):Int) * ((b.den:Nat):Int))≠0:=Int.mul_ne_zero (by omega) (by omega)
 cases w with
 | plus=>cases e; have:=zaG (n:=a.num * (b.den:Int)+b.num * (a.den:Int)) dab ld; rw [zfY]at this; exact this
 | less=>cases e; have:=zaG (n:=a.num * (b.den:Int) - b.num * (a.den:Int)) dab ld; rw [zrl]at this; exact this
 | times=>cases e; have:=zaG (n:=a.num * b.num) dab ld; rw [zik]at this; exact this
 | over =>
  by_cases z:b=0
  ·rw [show wv .over a b=if b=0 then none else some (a / b) from rfl,if_pos z]at e
   cases e
  ·rw [show wv .over a b=if b=0 then none else some (a / b) from rfl,if_neg z]at e
   cases e
   have z':b.num≠0:=fun h=>z (Rat.num_eq_zero.mp h)
   have:=zaG (n:=a.num * (b.den:Int)) (d:=(a.den:Int) * b.num) (Int.mul_ne_zero (by omega) z') (by rw [Int.natAbs_mul,Int.natAbs_natCast]; exact ziA sa.d sb.n)
   rw [zrm z]at this
   exact this
noncomputable def zoE:MS:=(zv (zK 9 (zbq (zb (zY (zb (mOp za3 (mOp zba (ze 5) (ze 8)) (mOp zba (ze 7) (ze 6))) (zb (mOp zba (ze 6) (ze 8)) zm))) (zb (zY (zb (mOp zd1 (mOp zba (ze 5) (ze 8)) (mOp zba (ze 7) (ze 6))) (zb (mOp zba (ze 6) (ze 8)) zm))) (zb (zY (zb (mOp zba (ze 5) (ze 7)) (zb (mOp zba (ze 6) (ze 8)) zm))) (zb (zY (zb (mOp zba (ze 5) (ze 8)) (zb (mOp zba (ze 6) (ze 7)) zm))) zm))))))
  (zv (zda (mOp zaS (ze 9) (mM1 tyL zdK (zbq (zb (mC (.str "plus")) (zb (mC (.str "less")) (zb (mC (.str "times")) (zb (mC (.str "over")) zm))))) (mOp zJ (ze 4) (mC (.int 0))))) (zbG 2 (zaf (zH 10) (zaf (zH 11) zb0))))
  (za9 (zb7 2 (zx zz (zb (ze 10) (zb (ze 11) zm)))))))
theorem zoF:zed=(zv (zK 2 (zbq zm))
  (zv (zdb (zcm (zb (mCB (f1 zbF) (zb (ze 0) zm)) zm)) (zH 3) (zv (zK 4 (mOp zJ (ze 0) (ze 3)))
  (zah (mB (mOp (zai false) (mOp zJ (ze 4) (mC (.int 0))) (mC (.str "number")))) (za9 (zb7 2 (mOp zJ (ze 4) (mC (.int 1))))) (zah (mB (mOp (zai false) (mOp zJ (ze 4) (mC (.int 0))) (mC (.str "letter")))) (za9 (zb7 2 (mOp zJ (ze 1) (mOp zJ (ze 4) (mC (.int 1)))))) (zv (zda (mOp zaS (ze 2) (mOp zJ (ze 4) (mC (.int 1)))) (zbG 2 (zaf (zH 5) (zaf (zH 6) zb0))))
  (zv (zda (mOp zaS (ze 2) (mOp zJ (ze 4) (mC (.int 2)))) (zbG 2 (zaf (zH 7) (zaf (zH 8) zb0))))
  (zv (zah (zdm (mB (mOp (zai false) (mOp zJ (ze 4) (mC (.int 0))) (mC (.str "over")))) (mB (mOp (zai false) (ze 7) (mC (.int 0))))) (zaq (zY (zb (mC (.str "refused")) (zb (ze 3) zm)))) zU)
  zoE)))))))
  (zd3 [0,1] 2))):=rfl
theorem zrr{w:Wd}{a b v:Rat}{xs:List D}{t:List D}{o0 o1 o3 o9 o10 o11:Option U}{Q:Fl->Prop}(hx:xs.length < 16777216)(sa:Sz a)(sb:Sz b)(e:wv w a b=some v)
  (k:∀ o9 o10 o11,Q (.nx [o0,o1,some (.l (xs++[fR v])),o3,some (.d (.tuple (.str w.s::t))),some (.d (.int a.num)),some (.d (.int (a.den:Int))),some (.d (.int b.num)),some (.d (.int (b.den:Int))),o9,o10,o11])) :
  Wo (zoE [o0,o1,some (.l xs),o3,some (.d (.tuple (.str w.s::t))),some (.d (.int a.num)),some (.d (.int (a.den:Int))),some (.d (.int b.num)),some (.d (.int (b.den:Int))),o9,o10,o11]) Q:=by
 simp_arith [zoE,zcc (lgm sa.n) (lgm sb.di),zcc (lgm sb.n) (lgm sa.di),zcc (lgm sa.di) (lgm sb.di),zcc (lgm sa.n) (lgm sb.n),zcc (lgm sa.di) (lgm sb.n),zyl,zxs,zrq sa sb e]
 exact k _ _ _
theorem zoG{n M G:Nat}{rs:List Rw}{ws:List W2}{pt:List Rat}(hR:RG n 12 rs ws)(hp:PtOk n M G pt)(hl:rs.length<=24) :
  zaV [.d (zcH rs),.d (ptD pt)]=some ((match go pt [] rs with | .ok vs=>.l (vs.map fR) | .error k=>.d (.tuple [.str "refused",.int (k:Int)])),[.d (zcH rs),.d (ptD pt)]):=by
 refine zag ?_
 simp_arith [zaV,zoF,List.length_map]
 refine ze2 (fun i ρ=>∃ (vs:List Rat) (v3 v4 v5 v6 v7 v8 v9 v10 v11:Option U),ρ=[some (.d (zcH rs)),some (.d (ptD pt)),some (.l (vs.map fR)),v3,v4,v5,v6,v7,v8,v9,v10,v11]/\vs.length=i/\go pt [] rs=go pt vs (rs.drop i)/\VV M G ws vs) ⟨[],none,none,none,none,none,none,none,none,none,rfl,rfl,by rw [List.drop_zero],fun i hi=>absurd hi (Nat.not_lt_zero _)⟩ ?_ ?_
 ·rintro i d _ hd ⟨vs,v3,v4,v5,v6,v7,v8,v9,v10,v11,rfl,hi,hg,hv⟩
  obtain⟨hlt,rfl⟩:=zej hd
  have hlt:i < rs.length:=by omega
  have er:=List.getElem?_eq_getElem hlt
  generalize rs[i]=r at er
  have dr:rs.drop i=r::rs.drop (i+1):=by
   obtain⟨hi,e⟩:=List.getElem?_eq_some_iff.mp er
   rw [List.drop_eq_getElem_cons hi,e]
  rw [dr]at hg
  have ok:=(hR.ok i r er).1
  have ar:atI (rs.map Rw.d) (0+(i:Int))=some r.d:=by
   unfold atI ixN
   rw [Int.zero_add,if_pos (by omega),if_pos (by rw [List.length_map]; omega),bd,List.getElem?_map,Int.toNat_natCast,er]
   rfl
  have ar2:=ar
  rw [Int.zero_add]at ar2
  subst hi
  have nx:∀ v,rv pt vs r=some v->(vs++[v]).length=vs.length+1/\go pt [] rs=go pt (vs++[v]) (rs.drop (vs.length+1))/\VV M G ws (vs++[v]):=fun v e=>⟨by simp,by rw [hg,go,e],hv.snoc hR hp er e⟩
  have mp:∀ v,vs.map fR++[fR v]=(vs++[v]).map fR:=fun v=>by rw [List.map_append]; rfl
  cases r with
  | num f =>
   simp_arith [ar,Rw.d,mp]
   exact⟨_,_,_,_,_,_,_,_,_,_,rfl,nx f rfl⟩
  | lt k =>
   simp_arith [ar,Rw.d,zgQ (vs:=pt) (i:=k) (by rw [hp.ln]; exact ok),mp]
   exact⟨_,_,_,_,_,_,_,_,_,_,rfl,nx _ rfl⟩
  | op w a b =>
   have sa:=(hv.sv hR hp hl (by omega) ok.1).sz
   have sb:=(hv.sv hR hp hl (by omega) ok.2).sz
   rcases zr5 w (vs.getD a 0) (vs.getD b 0)with ⟨rfl,z⟩ | ⟨v,e1,z⟩
   ·have e0:go pt [] rs=.error vs.length:=by
     rw [hg,go,show rv pt vs (.op .over a b)=if vs.getD b 0=0 then none else some (vs.getD a 0 / vs.getD b 0) from rfl,if_pos z]
    have z':(vs.getD b 0).num=0:=Rat.num_eq_zero.mpr z
    simp_arith [zoF,ar2,Rw.d,Wd.s,zgQ ok.1,zgQ ok.2,fR,z',e0,Int.zero_add]
   ·simp_arith [ar,Rw.d,zmu,zmv,zgQ ok.1,zgQ ok.2,fR]
    refine zgR (fun c=>zag ?_) ?_
    ·have z':(vs.getD b 0).num≠0:=fun h=>z (zu8 c) (Rat.num_eq_zero.mp h)
     simp_arith [z']
    ·simp_arith
     refine zrr (by rw [List.length_map]; omega) sa sb e1 (fun o9 o10 o11=>?_)
     simp_arith [mp]
     exact⟨_,_,_,_,_,_,_,_,_,_,rfl,nx _ e1⟩
 ·rintro _ ⟨vs,v3,v4,v5,v6,v7,v8,v9,v10,v11,rfl,hi,hg,hv⟩
  have e0:go pt [] rs=.ok vs:=by rw [hg,zbJ,show((rs.length:Int)).toNat=rs.length by omega,List.drop_length]; rfl
  simp_arith [e0]
abbrev xO(k:Int):D:=.dict [(.none,.str "NoOver"),(.str "at",.int k)]
theorem uO(k:Int):under zbi "UndivideError" (xO k)=true:=by kernel_rfl
theorem tO(k:Int):zlh zbi ["BadLetters", "BadRow", "BadText", "NoName", "NotPolynomial", "NotWhole"] (.d (xO k))=some (.d (.bool false)):=by kernel_rfl
theorem vO(k:Int):zjg zbi false "ValueError" (.d (xO k))=some (.d (.bool true)):=by kernel_rfl
theorem nO(k:Int):zjg zbi true "NoOver" (.d (xO k))=some (.d (.bool true)):=by kernel_rfl
theorem fO(k:Int):zje zbi "at" (.d (xO k))=some (.d (.int k)):=by kernel_rfl
abbrev zgS(pt:List Rat)(rs:List Rw):U:=match go pt [] rs with | .ok vs=>.l (vs.map fR) | .error k=>.d (.tuple [.str "refused",.int (k:Int)])
theorem zlB{n M G:Nat}{ls:List D}{rs:List Rw}{ws:List W2}{pt:List Rat}(hR:RG n 12 rs ws)(hp:PtOk n M G pt)(hl:rs.length<=24) :
  zaT [.d (zmt ls rs),.d (ptD pt)]=some (zgS pt rs,[.d (zmt ls rs),.d (ptD pt)]):=by
 refine zag ?_
 have ro:=zu9 (ls:=ls) hR hp hl
 unfold zgS
 cases e:go pt [] rs with
 | ok vs =>
  rw [e]at ro
  simp_arith [zaT,zcJ,ro]
 | error k =>
  rw [e]at ro
  simp_arith [zaT,zcJ,ro,uO,tO,vO,nO,fO]
end K10
open PySem L2
namespace K10
open PySem L2
abbrev abc:Str := "abcdefghijklmnopqrstuvwxyz"
theorem zf2:∀ c∈abc.cps.toList,c < 128:=by decide
theorem zf3:abc.length=26:=by decide
theorem zrs{z:Str}{n:Int}(h0:0<=n)(h1:n<=1):zjh (.d (.str z)) (.d (.int n))=some (.d (.str (zl4 z n))):=by
 unfold zjh
 dsimp only
 rw [if_pos ⟨h0,h1⟩]
theorem zrt{k:Nat}{z:Str}{n:Int}(hz:Asc k z)(h0:0<=n)(h1:n<=1):Asc k (zl4 z n):=by
 rcases(by omega:n=0\/n=1)with rfl | rfl
 ·exact⟨Nat.zero_le _,fun c hc=>by cases hc⟩
 ·exact hz
theorem zxt{zs:List Str}{lo hi:Option Int}:∃ ws:List Str,zeu (zs.map PyData.str) lo hi=ws.map PyData.str/\ws.length<=zs.length/\∀ z∈ws,z∈zs:=by
 refine⟨(zs.drop (HT.sIx zs.length 0 lo)).take (HT.sIx zs.length zs.length hi - HT.sIx zs.length 0 lo),?_,?_,fun z hz=>List.mem_of_mem_drop (List.mem_of_mem_take hz)⟩
 ·unfold zeu
  rw [List.length_map,<-List.map_drop,<-List.map_take]
 ·rw [List.length_take,List.length_drop]
  omega
theorem zr6{neg:Bool}{x:Str}{zs:List Str}{Q:U->Prop}(k:∀ b,Q (.d (.bool b))):Wo (fIn neg (.d (.str x)) (.l (zs.map PyData.str))) Q:=by
 unfold fIn
 show Wo ((znP (.str x) (zs.map PyData.str)).bind _) Q
 unfold znP
 rw [zgA]
 exact⟨_,rfl,k _⟩
theorem zxu{neg:Bool}{x:Str}{zs:List Str}{Q:U->Prop}(k:∀ b,Q (.d (.bool b))):Wo (fIn neg (.d (.str x)) (.d (.tuple (zs.map PyData.str)))) Q:=by
 unfold fIn
 show Wo ((znP (.str x) (zs.map PyData.str)).bind _) Q
 unfold znP
 rw [zgA]
 exact⟨_,rfl,k _⟩
theorem zru{x y m:Int}{Q:U×List U->Prop}(h1:1<=m)(h3:m<=3)(k:∀ (ns:List Str) x' y',ns.length=m.toNat->(∀ z∈ns,Asc 10 z)->Q (.d (.tuple (ns.map .str)),[bx x' y',.d (.int m)])):Wo (zbo [bx x y,.d (.int m)]) Q:=by
 simp_arith [zbo,zdf]
 refine zau (by decide) (by decide) fun r1 x1 y1 a1 b1=>?_
 simp_arith
 refine zlj (fun i ρ ys=>∃ (x y:Int) (zs:List Str),ρ=[none,some (bx x y),some (.d (.str abc))]/\ys=zs.map PyData.str/\zs.length=i/\∀ z∈zs,Asc 1 z) ?_ ⟨_,_,[],rfl,rfl,rfl,fun z hz=>by cases hz⟩ ?_ ?_ ?_
 ·rw [zl]; omega
 ·rintro i ρ ys ⟨x,y,zs,rfl,rfl,hl,_⟩
  simp [hl]
 ·rintro i _ _ hi ⟨x,y,zs,rfl,rfl,hl,hz⟩
  simp_arith [zrZ]
  refine zau (by decide) (by decide) fun r2 x2 y2 a2 b2=>?_
  simp_arith
  refine zfX a2 (by rw [zf3]; omega) (by decide) fun c hc=>?_
  simp_arith
  exact⟨x2,y2,zs++[⟨#[c]⟩],rfl,by rw [List.map_append]; rfl,by rw [List.length_append,hl]; rfl,fun z hz'=>by
   rcases List.mem_append.mp hz' with h | h
   ·exact hz z h
   ·cases List.mem_singleton.mp h
    exact Asc.one (zf2 c hc)⟩
 rintro _ _ ⟨x2,y2,sg,rfl,rfl,hl,hs⟩
 simp_arith
 refine zau (by omega) (by omega) fun r3 x3 y3 a3 b3=>?_
 simp_arith
 refine zau (by decide) (by decide) fun r4 x4 y4 a4 b4=>?_
 simp_arith
 refine zli (fun i ρ=>∃ (x y:Int) (v7 v8 v9:Option U) (zs:List Str),ρ=[some (bx x y),some (.d (.int m)),some (.d (.str abc)),some (.l (sg.map .str)),some (.d (.int r3)),some (.d (.int r4)),some (.l (zs.map PyData.str)),v7,v8,v9,none]/\zs.length=i/\∀ z∈zs,Asc 10 z) ⟨x4,y4,none,none,none,[],rfl,rfl,fun z hz=>by cases hz⟩ ?_ ?_
 ·rintro i _ hi ⟨x,y,v7,v8,v9,zs,rfl,hlz,hz⟩
  simp_arith
  refine zfX (Int.emod_nonneg _ (by decide)) (by rw [zf3]; exact Int.emod_lt_of_pos _ (by decide)) (by decide) fun c hc=>?_
  simp_arith
  obtain⟨w1,e1,l1,m1⟩:=zxt (zs:=sg) (lo:=none) (hi:=some r3)
  rw [e1]
  refine zlk (n:=1) (m:=4) (fun z hz=>hs z (m1 z hz)) (by omega) (by decide) fun j1=>?_
  simp_arith
  refine zgz j1 (Asc.one (zf2 c hc)) (by decide) fun j2=>?_
  simp_arith
  obtain⟨w2,e2,l2,m2⟩:=zxt (zs:=sg) (lo:=some (r3+1)) (hi:=none)
  rw [e2]
  refine zlk (n:=1) (m:=4) (fun z hz=>hs z (m2 z hz)) (by omega) (by decide) fun j3=>?_
  simp_arith
  refine zgz j2 j3 (by decide) fun j4=>?_
  simp_arith
  refine zau (by decide) (by decide) fun r5 x5 y5 a5 b5=>?_
  simp_arith [zrs]
  refine zgz j4 (zrt (show Asc 1 "q" by unfold Asc; decide) a5 (by omega)) (by decide) fun j5=>?_
  simp_arith
  refine zr6 fun b=>?_
  generalize Txt.join "" w1++{ cps:=#[c] }++Txt.join "" w2++zl4 "q" r5=nm at *
  have fin:∀ (nm:Str),Asc 10 nm->∃ (x y:Int) (v7 v8 v9:Option U) (ws:List Str),[some (bx x5 y5),some (.d (.int m)),some (.d (.str abc)),some (.l (sg.map .str)),some (.d (.int r3)),some (.d (.int r4)),some (.l (zs.map PyData.str++[.str nm])),some (.d (.int (0+(i:Nat)))),some (.d (.str ⟨#[c]⟩)),some (.d (.str nm)),none]=[some (bx x y),some (U.d (.int m)),some (.d (.str abc)),some (.l (sg.map .str)),some (.d (.int r3)),some (.d (.int r4)),some (.l (ws.map PyData.str)),v7,v8,v9,none]/\ws.length=i+1/\∀ z∈ws,Asc 10 z:=fun nm hn =>
   ⟨x5,y5,_,_,_,zs++[nm],by rw [List.map_append]; rfl,by rw [List.length_append,hlz]; rfl,fun z hz'=>by
    rcases List.mem_append.mp hz' with h | h
    ·exact hz z h
    ·cases List.mem_singleton.mp h
     exact hn⟩
  cases b with
  | true =>
   simp_arith
   refine zfX (by omega) (by rw [zf3]; omega) (by decide) fun d hd=>?_
   simp_arith
   refine zgz (show Asc 2 "zz" by unfold Asc; decide) (Asc.one (zf2 d hd)) (by decide) fun j6=>?_
   simp_arith
   exact fin _ (j6.mono (by decide))
  | false =>
   simp_arith
   refine zxu (zs:=["part", "end", "give", "rounds", "letters"]) fun b=>?_
   cases b with
   | true =>
    simp_arith
    refine zfX (by omega) (by rw [zf3]; omega) (by decide) fun d hd=>?_
    simp_arith
    refine zgz (show Asc 2 "zz" by unfold Asc; decide) (Asc.one (zf2 d hd)) (by decide) fun j6=>?_
    simp_arith
    exact fin _ (j6.mono (by decide))
   | false =>
    simp_arith
    exact fin _ j5
 ·rintro _ ⟨x,y,v7,v8,v9,zs,rfl,hlz,hz⟩
  simp_arith
  refine zau (by decide) (by decide) fun r5 x5 y5 a5 b5=>?_
  simp_arith
  refine zcS (fun h5=>?_) (fun h5=>?_)
  ·simp_arith
   refine zau (by decide) (by decide) fun r6 x6 y6 a6 b6=>?_
   simp_arith
   refine zuE (f:=PyData.str) (xs:=["ends", "pa", "gives", "giv", "x", "y", "r", "rk"]) a6 b6 fun z mz _=>?_
   have az:Asc 10 z:=by
    have:∀ z∈(["ends", "pa", "gives", "giv", "x", "y", "r", "rk"]:List Str),Asc 10 z:=by unfold Asc; decide
    exact this z mz
   simp_arith
   refine zr6 fun b=>?_
   cases b with
   | false =>
    simp_arith
    exact k zs _ _ hlz hz
   | true =>
    simp_arith
    refine zau (by omega) (by omega) fun r7 x7 y7 a7 b7=>?_
    have e7:ixN zs.length r7=some r7.toNat:=by
     unfold ixN
     rw [if_pos a7,if_pos (by omega)]
    simp_arith [e7]
    have es:(zs.map PyData.str).set r7.toNat (.str z)=(zs.set r7.toNat z).map PyData.str:=by rw [List.map_set]
    rw [es]
    refine k _ _ _ (by rw [List.length_set]; exact hlz) fun w hw=>?_
    rcases List.mem_or_eq_of_mem_set hw with h | h
    ·exact hz w h
    ·exact h▸az
  ·simp_arith
   exact k zs _ _ hlz hz
theorem zva{d:Int}(h:1<=d)(h2:d<=1000000):d.natAbs.log2 < 9000:=Nat.lt_trans (zdz (k:=30) (by decide) (by omega)) (by decide)
theorem ziD{n d:Int}(hn:n.natAbs<=1000000)(h1:1<=d)(h4:d<=4):Bd 12 12000000 (Rat.divInt n d):=by
 have:d∣((12:Nat):Int):=by
  rcases(by omega:d=1\/d=2\/d=3\/d=4)with rfl | rfl | rfl | rfl<;>decide
 exact(zop (M:=12) (by omega) this (by decide)).le (by omega)
structure Pn (r:Rat):Prop where
 n:r.num.natAbs<=999
 d:r.den<=999
theorem pn{n d:Int}(hn:n.natAbs<=999)(h1:1<=d)(h4:d<=999):Pn (Rat.divInt n d):=by
 have d0:d≠0:=by omega
 obtain⟨_,_,_,f4,f5⟩:=zfm (n:=n) d0
 obtain⟨l1,l2⟩:=ze4 (n:=n) d0
 rw [l1]at f5
 rw [l2]at f4
 exact⟨by omega,by omega⟩
theorem zlC:∀ {pt:List Rat},(∀ r∈pt,Pn r)->∃ c,0 < c/\c<=999^pt.length/\∀ r∈pt,r.den∣c
 | [],_=>⟨1,by decide,by decide,fun r hr=>by cases hr⟩
 | a::pt,h=>by
  obtain⟨c,c0,c1,hc⟩:=zlC fun r hr=>h r (List.mem_cons_of_mem _ hr)
  have ha:=h a List.mem_cons_self
  refine⟨c * a.den,Nat.mul_pos c0 a.den_pos,?_,fun r hr=>?_⟩
  ·rw [List.length_cons,Nat.pow_succ]
   exact Nat.mul_le_mul c1 ha.d
  ·rcases List.mem_cons.mp hr with rfl | hr
   ·exact Nat.dvd_mul_left _ _
   ·exact Nat.dvd_mul_right_of_dvd (hc r hr) _
theorem zxv{n:Nat}{pt:List Rat}(hn:n<=3)(hl:pt.length=n)(h:∀ r∈pt,Pn r):∃ M G,PtOk n M G pt:=by
 obtain⟨c,c0,c1,hc⟩:=zlC h
 have c3:c<=999^3:=Nat.le_trans c1 (Nat.pow_le_pow_right (by decide) (by omega))
 have c4:(999^3:Nat)=997002999:=by decide
 refine⟨12 * c,12000000 * c,hl,fun r hr=>?_,fun f hf=>hf.wide c,by omega,by omega,by omega,by omega⟩
 have hd:((r.den:Nat):Int)∣((12 * c:Nat):Int):=Int.natCast_dvd_natCast.mpr (Nat.dvd_mul_left_of_dvd (hc r hr) 12)
 have:=zop (n:=r.num) (d:=(r.den:Int)) (by have:=zfL r; omega) hd (by omega)
 rw [Rat.num_divInt_den]at this
 refine this.le (Nat.le_trans (Nat.mul_le_mul_right _ (h r hr).n) (by omega))
theorem zrv:∀ z∈[PyData.tuple [.int 0,.int 1],.tuple [.int 1,.int 1],.tuple [.int 1,.int 1],.tuple [.int (-1),.int 1],.tuple [.int 2,.int 1],.tuple [.int 1,.int 2],.tuple [.int (-2),.int 3]],∃ r,z=fR r/\Bd 12 12000000 r:=by
 simp only [List.forall_mem_cons]
 exact⟨⟨Rat.divInt 0 1,rfl,ziD (by decide) (by decide) (by decide)⟩,⟨Rat.divInt 1 1,rfl,ziD (by decide) (by decide) (by decide)⟩,⟨Rat.divInt 1 1,rfl,ziD (by decide) (by decide) (by decide)⟩,⟨Rat.divInt (-1) 1,rfl,ziD (by decide) (by decide) (by decide)⟩,⟨Rat.divInt 2 1,rfl,ziD (by decide) (by decide) (by decide)⟩,⟨Rat.divInt 1 2,rfl,ziD (by decide) (by decide) (by decide)⟩,⟨Rat.divInt (-2) 3,rfl,ziD (by decide) (by decide) (by decide)⟩,List.forall_mem_nil _⟩
theorem zvb{r2 r3:Int}(h2:0<=r2)(h3:r2 < 1999)(h4:0<=r3)(h5:r3 < 999):∃ v,Pn v/\zz [.d (.int (r2 - 999)),.d (.int (1+r3))]=some (.d (fR v),[.d (.int (r2 - 999)),.d (.int (1+r3))]) :=
 ⟨_,pn (by omega) (by omega) (by omega),zaG (n:=r2 - 999) (d:=1+r3) (by omega) (zva (by omega) (by omega))⟩
theorem zoH{r2 r3 c:Int}(h2:0<=r2)(h3:r2<=c+c)(hc:c<=999999)(h4:0<=r3)(h5:r3 < 4):∃ v,Bd 12 12000000 v/\zz [.d (.int (r2 - c)),.d (.int (1+r3))]=some (.d (fR v),[.d (.int (r2 - c)),.d (.int (1+r3))]) :=
 ⟨_,ziD (by omega) (by omega) (by omega),zaG (n:=r2 - c) (d:=1+r3) (by omega) (zva (by omega) (by omega))⟩
theorem zjD{x y:Int}{Q:U×List U->Prop}(k:∀ r x' y',Bd 12 12000000 r->Q (.d (fR r),[bx x' y'])):Wo (zao [bx x y]) Q:=by
 simp_arith [zao,zcV]
 refine zau (by decide) (by decide) fun r x1 y1 h0 h1=>?_
 simp_arith
 refine zcS (fun h7=>?_) (fun h7=>?_)
 ·simp_arith
  refine zfk h0 h7 fun z hz=>?_
  obtain⟨r,rfl,hr⟩:=zrv z hz
  simp_arith
  exact k _ _ _ hr
 ·simp_arith
  refine zcS (fun h11=>?_) (fun h11=>?_)
  ·simp_arith
   refine zau (by decide) (by decide) fun r2 x2 y2 h2 h3=>?_
   simp_arith
   refine zau (by decide) (by decide) fun r3 x3 y3 h4 h5=>?_
   obtain⟨v,hv,f⟩:=zoH (c:=9) h2 (Int.le_of_lt_add_one h3) (by decide) h4 h5
   simp_arith [f]
   exact k _ _ _ hv
  ·simp_arith
   refine zau (by decide) (by decide) fun r2 x2 y2 h2 h3=>?_
   simp_arith
   refine zau (by decide) (by decide) fun r3 x3 y3 h4 h5=>?_
   obtain⟨v,hv,f⟩:=zoH (c:=999999) h2 (Int.le_of_lt_add_one h3) (by decide) h4 h5
   simp_arith [f]
   exact k _ _ _ hv
theorem zf4{x y:Int}{Q:U×List U->Prop}(k:∀ r x' y',Pn r->Bd 12 12000000 r->Q (.d (fR r),[bx x' y'])):Wo (zaF [bx x y]) Q:=by
 simp_arith [zaF,zdh]
 refine zau (by decide) (by decide) fun r2 x2 y2 h2 h3=>?_
 simp_arith
 refine zau (by decide) (by decide) fun r3 x3 y3 h4 h5=>?_
 simp_arith [zaG (n:=r2 - 5) (d:=1+r3) (by omega) (zva (by omega) (by omega))]
 exact k _ _ _ (pn (by omega) (by omega) (by omega)) (ziD (by omega) (by omega) (by omega))
theorem zgT{pt:List Rat}{r:Rat}{i:Nat}(hl:pt.length=i)(hb:∀ r∈pt,Pn r)(hr:Pn r):pt.map fR++[fR r]=(pt++[r]).map fR/\(pt++[r]).length=i+1/\∀ s∈pt++[r],Pn s :=
 ⟨by rw [List.map_append]; rfl,by rw [List.length_append,List.length_singleton]; omega,fun s hs=>by
   rcases List.mem_append.mp hs with z | z
   ·exact hb s z
   ·rw [List.mem_singleton.mp z]; exact hr⟩
theorem zrw{x y n:Int}{Q:U×List U->Prop}(h0:0<=n)(h1:n<=3)(k:∀ pt x' y',pt.length=n.toNat->(∀ r∈pt,Pn r)->Q (.d (ptD pt),[bx x' y',.d (.int n)])):Wo (zbD [bx x y,.d (.int n)]) Q:=by
 simp_arith [zbD,zdi]
 refine zjm (fun i ρ ys=>∃ (x' y':Int) (pt:List Rat),ρ=[none,some (bx x' y')]/\ys=pt.map fR/\pt.length=i/\∀ r∈pt,Pn r) (by rw [zbJ,zig]; omega) ?_ ⟨_,_,[],rfl,rfl,rfl,fun r hr=>by cases hr⟩ ?_ ?_
 ·rintro i _ _ ⟨x',y',pt,rfl,rfl,hl,_⟩
  rw [List.length_map]
  omega
 ·rintro i d _ _ hd ⟨x',y',pt,rfl,rfl,hl,hb⟩
  simp_arith
  refine zf4 fun r x2 y2 hr _=>?_
  simp_arith
  exact⟨_,_,pt++[r],rfl,zgT hl hb hr⟩
 ·rintro _ _ ⟨x',y',pt,rfl,rfl,hl,hb⟩
  simp_arith
  rw [zbJ]at hl
  exact k pt _ _ hl hb
theorem zoI{x y n:Int}{Q:U×List U->Prop}(h0:0<=n)(h1:n<=3)(k:∀ p1 p2 p3 x' y',(∀ p∈[p1,p2,p3],p.length=n.toNat/\∀ r∈p,Pn r)->Q (.l [ptD p1,ptD p2,ptD p3],[bx x' y',.d (.int n)])):Wo (zbf [bx x y,.d (.int n)]) Q:=by
 simp_arith [zbf,zcW]
 refine zjm (fun i ρ ys=>∃ (x' y':Int) (pt:List Rat),ρ=[none,some (bx x' y')]/\ys=pt.map fR/\pt.length=i/\∀ r∈pt,Pn r) (by rw [zbJ,zig]; omega) ?_ ⟨_,_,[],rfl,rfl,rfl,fun r hr=>by cases hr⟩ ?_ ?_
 ·rintro i _ _ ⟨x',y',pt,rfl,rfl,hl,_⟩
  rw [List.length_map]
  omega
 ·rintro i d _ _ hd ⟨x',y',pt,rfl,rfl,hl,hb⟩
  simp_arith
  refine zau (by decide) (by decide) fun r2 x2 y2 h2 h3=>?_
  simp_arith
  refine zau (by decide) (by decide) fun r3 x3 y3 h4 h5=>?_
  obtain⟨v,hv,f⟩:=zvb h2 h3 h4 h5
  simp_arith [f]
  exact⟨_,_,pt++[v],rfl,zgT hl hb hv⟩
 rintro _ _ ⟨x',y',p3,rfl,rfl,hl3,hb3⟩
 simp_arith
 refine zrw h0 h1 fun p1 x2 y2 hl1 hb1=>?_
 simp_arith
 refine zjm (fun i ρ ys=>∃ (x' y':Int) (pt:List Rat),ρ=[none,some (bx x' y')]/\ys=pt.map fR/\pt.length=i/\∀ r∈pt,Pn r) (by rw [zbJ,zig]; omega) ?_ ⟨_,_,[],rfl,rfl,rfl,fun r hr=>by cases hr⟩ ?_ ?_
 ·rintro i _ _ ⟨x',y',pt,rfl,rfl,hl,_⟩
  rw [List.length_map]
  omega
 ·rintro i d _ _ hd ⟨x',y',pt,rfl,rfl,hl,hb⟩
  simp_arith
  refine zau (by decide) (by decide) fun r2 x2 y2 h2 h3=>?_
  have er:PyData.tuple [.int r2,.int 1]=fR (Rat.divInt r2 1):=by
   rcases(by omega:r2=0\/r2=1)with rfl | rfl<;>rfl
  simp_arith [er]
  exact⟨_,_,pt++[_],rfl,zgT hl hb (pn (n:=r2) (d:=1) (by omega) (by omega) (by omega))⟩
 rintro _ _ ⟨x3,y3,p2,rfl,rfl,hl2,hb2⟩
 rw [zbJ]at hl3 hl2
 simp_arith
 refine k p1 p2 p3 _ _ ?_
 simp only [List.forall_mem_cons]
 exact⟨⟨hl1,hb1⟩,⟨hl2,hb2⟩,⟨hl3,hb3⟩,List.forall_mem_nil _⟩
end K10
open PySem L2
namespace K10
open PySem L2
abbrev wD(w:W2):D:=.tuple [.int (w.1:Int),.int (w.2:Int)]
abbrev wL(ws:List W2):U:=.l (ws.map wD)
theorem zxw{ws:List W2}{i:Nat}(h:i < ws.length):atI (ws.map wD) (i:Int)=some (.tuple [.int ((ws.getD i (1,0)).1:Int),.int ((ws.getD i (1,0)).2:Int)]):=by
 unfold atI ixN
 rw [if_pos (by omega),if_pos (by rw [List.length_map]; omega),bd,List.getElem?_map,Int.toNat_natCast,List.getElem?_eq_getElem h,List.getD_eq_getElem?_getD,List.getElem?_eq_getElem h]
 rfl
theorem zvc{a b c d:Nat}:(if(c:Int)+(b:Int) > (a:Int)+(d:Int)then(c:Int)+(b:Int)else(a:Int)+(d:Int))=((max (a+d) (c+b):Nat):Int):=by
 split<;>omega
noncomputable def zr7:MS:=(zv (zda (mOp zaS (ze 1) (mOp zJ (ze 0) (mC (.int 1)))) (zbG 2 (zaf (zH 2) (zaf (zH 3) zb0))))
  (zv (zda (mOp zaS (ze 1) (mOp zJ (ze 0) (mC (.int 2)))) (zbG 2 (zaf (zH 4) (zaf (zH 5) zb0))))
  (zv (zah (mB (mOp (zai false) (mOp zJ (ze 0) (mC (.int 0))) (mC (.str "times")))) (zaq (zY (zb (mOp za3 (ze 2) (ze 4)) (zb (mOp za3 (ze 3) (ze 5)) zm)))) zU)
  (zv (zah (mB (mOp (zai false) (mOp zJ (ze 0) (mC (.int 0))) (mC (.str "over")))) (zaq (zY (zb (mOp za3 (ze 2) (ze 5)) (zb (mOp za3 (ze 3) (ze 4)) zm)))) zU)
  (zaq (zY (zb (mCB zi5 (zb (mOp za3 (ze 2) (ze 5)) (zb (mOp za3 (ze 4) (ze 3)) zm))) (zb (mOp za3 (ze 3) (ze 5)) zm))))))))
theorem zfy:zcU=(zv (zah (mOr (mB (mOp (zai false) (mOp zJ (ze 0) (mC (.int 0))) (mC (.str "number")))) (mB (mOp (zai false) (mOp zJ (ze 0) (mC (.int 0))) (mC (.str "letter"))))) (zaq (zY (zb (mC (.int 1)) (zb (mC (.int 0)) zm)))) zU)
  zr7):=rfl
theorem zxx{w:Wd}(h:¬w=.times):(w.s=Str.ofString "times")=False:=by
 cases w<;>first | exact absurd rfl h | exact eq_false (by decide)
theorem zxy{w:Wd}(h:¬w=.over):(w.s=Str.ofString "over")=False:=eq_false fun z=>h (zu8 z)
theorem zdv{n:Nat}{ws:List W2}{r:Rw}(h:zee n ws.length r):zI [.d r.d,wL ws]=some (.d (wD (wt ws r)),[.d r.d,wL ws]):=by
 refine zag ?_
 cases r with
 | num f=>simp_arith [zI,zfy,Rw.d]; rfl
 | lt k=>simp_arith [zI,zfy,Rw.d]; rfl
 | op w a b =>
  simp_arith [zI,zfy,Rw.d,zmu,zmv,zr7,zxw h.1,zxw h.2]
  by_cases ht:w=.times
  ·subst ht; simp_arith [Wd.s]; rfl
  by_cases ho:w=.over
  ·subst ho; simp_arith [Wd.s]; rfl
  have e:wt ws (.op w a b)=(max ((ws.getD a (1,0)).1+(ws.getD b (1,0)).2) ((ws.getD b (1,0)).1+(ws.getD a (1,0)).2),(ws.getD a (1,0)).2+(ws.getD b (1,0)).2):=by
   cases w<;>first | rfl | exact absurd rfl ht | exact absurd rfl ho
  rw [e]
  simp_arith [zxx ht,zxy ho,zvc]
  rfl
noncomputable def zoJ:MS:=(zv (zah (mB (mOp fGt (mCB (f1 zev) (zb (zx zI (zb (ze 7) (zb (ze 4) zm))) zm)) (mC (.int 12)))) (zK 7 (zY (zb (mC (.str "number")) (zb (zx zaF (zb (ze 0) zm)) zm)))) zU)
  (zv (za9 (zb7 3 (ze 7)))
  (za9 (zb7 4 (zx zI (zb (ze 7) (zb (ze 4) zm)))))))
theorem zrx:zdO=(zv (zK 2 (mCB (f1 zbF) (zb (ze 1) zm)))
  (zv (zah (mB (mOp (zai false) (zx zk (zb (ze 0) (zb (mC (.int 3)) zm))) (mC (.int 0)))) (zaq (mOp zJ (zx zaD (zb (ze 0) (zb (ze 1) (zb (mC (.int 8)) (zb (mC (.int 4)) (zb (mC (.int 2)) zm)))))) (mC (.int 1)))) zU)
  (zv (zK 3 (zbq zm))
  (zv (zK 4 (zbq zm))
  (zv (zdb (zcm (zb (mOp za3 (mC (.int 1)) (zx zk (zb (ze 0) (zb (mC (.int 10)) zm)))) zm)) (zH 5) (zv (zK 6 (mOp zaS (zbq (zb (mC (.str "plus")) (zb (mC (.str "less")) (zb (mC (.str "times")) (zb (mC (.str "over")) (zb (mC (.str "over")) (zb (mC (.str "number")) (zb (mC (.str "letter")) zm)))))))) (zx zk (zb (ze 0) (zb (mC (.int 7)) zm)))))
  (zv (zK 7 (zY (zb (mC (.str "letter")) (zb (zx zk (zb (ze 0) (zb (ze 2) zm))) zm))))
  (zv (zah (mOr (mB (mOp (zai false) (ze 6) (mC (.str "number")))) (zdm (mB (mOp (zai false) (ze 5) (mC (.int 0)))) (mB (mOp (zai true) (ze 6) (mC (.str "letter")))))) (zK 7 (zY (zb (mC (.str "number")) (zb (zx zaF (zb (ze 0) zm)) zm)))) (zah (mB (mOp (zai true) (ze 6) (mC (.str "letter")))) (zK 7 (zY (zb (ze 6) (zb (mOp zaS (zbq (zb (mOp zd1 (ze 5) (mC (.int 1))) (zb (zx zk (zb (ze 0) (zb (ze 5) zm))) zm))) (zx zk (zb (ze 0) (zb (mC (.int 2)) zm)))) (zb (zx zk (zb (ze 0) (zb (ze 5) zm))) zm))))) zU))
  zoJ))))
  (zaq (mCB (f1 zcC) (zb (ze 3) zm)))))))):=rfl
theorem zjE{rs:List Rw}{r:Rw}:rs.map Rw.d++[r.d]=(rs++[r]).map Rw.d:=by rw [List.map_append]; rfl
theorem zoK{ws:List W2}{w:W2}:ws.map wD++[.tuple [.int (w.1:Int),.int (w.2:Int)]]=(ws++[w]).map wD:=by rw [List.map_append]; rfl
theorem zxz{w:W2}{c:Nat}(h:¬(if(w.2:Int) > (w.1:Int)then(w.2:Int)else(w.1:Int)) > (c:Int)):w.1<=c/\w.2<=c:=by
 split at h<;>omega
theorem zvd{w:W2}:zev (.d (wD w))=some (.d (.int (if(w.2:Int) > (w.1:Int)then(w.2:Int)else(w.1:Int)))):=rfl
theorem zf5{n:Nat}{x y:Int}{ls:U}{rs:List Rw}{ws:List W2}{r:Rw}{o2 o5 o6:Option U}{Q:Fl->Prop}(hR:RG n 12 rs ws)(hr:zee n rs.length r)(hl:rs.length<=100)
  (k:∀ x' y' r' o7,RG n 12 (rs++[r']) (ws++[wt ws r'])->Q (.nx [some (bx x' y'),some ls,o2,some (.l ((rs++[r']).map Rw.d)),some (wL (ws++[wt ws r'])),o5,o6,o7])) :
  Wo (zoJ [some (bx x y),some ls,o2,some (.l (rs.map Rw.d)),some (wL ws),o5,o6,some (.d r.d)]) Q:=by
 have ln:=hR.ln
 have hw:=zdv (ws:=ws) (r:=r) (by rw [ln]; exact hr)
 simp_arith [zoJ,hw,zvd]
 refine zcS (fun h=>?_) (fun h=>?_)
 ·simp_arith [h]
  refine zf4 fun f x2 y2 _ hf=>?_
  have hw2:=zdv (n:=n) (ws:=ws) (r:=.num f) hf
  rw [show(Rw.num f).d=.tuple [.str "number",fR f] from rfl]at hw2
  simp_arith [hw2,zoK]
  rw [show rs.map Rw.d++[.tuple [.str "number",fR f]]=(rs++[Rw.num f]).map Rw.d from zjE (r:=Rw.num f)]
  exact k _ _ _ _ (hR.snoc hf (show 1<=12 by decide) (show 0<=12 by decide))
 ·obtain⟨h1,h2⟩:=zxz (c:=12) h
  simp_arith [h,hw,zoK,zjE]
  exact k _ _ _ _ (hR.snoc hr h1 h2)
theorem zoL:∀ z∈[PyData.str "plus",.str "less",.str "times",.str "over",.str "over",.str "number",.str "letter"],z=.str "number"\/z=.str "letter"\/∃ w:Wd,z=.str w.s:=by
 intro z hz
 simp only [List.mem_cons,List.not_mem_nil,or_false]at hz
 rcases hz with rfl | rfl | rfl | rfl | rfl | rfl | rfl
 ·exact .inr (.inr ⟨.plus,rfl⟩)
 ·exact .inr (.inr ⟨.less,rfl⟩)
 ·exact .inr (.inr ⟨.times,rfl⟩)
 ·exact .inr (.inr ⟨.over,rfl⟩)
 ·exact .inr (.inr ⟨.over,rfl⟩)
 ·exact .inl rfl
 ·exact .inr (.inl rfl)
theorem zlD{a b:Int}{z:D}(h:z∈[PyData.int a,.int b]):∃ c,z=.int c/\(c=a\/c=b):=by
 rcases List.mem_cons.mp h with rfl | h
 ·exact⟨a,rfl,.inl rfl⟩
 ·rw [List.mem_singleton.mp h]; exact⟨b,rfl,.inr rfl⟩
def Rows(n:Nat)(rs:List Rw):Prop:=1<=rs.length/\rs.length<=24/\∃ ws,RG n 12 rs ws
theorem zve{n:Nat}{x y:Int}{ns:List Str}{Q:U×List U->Prop}(hn:ns.length=n)(n1:1<=n)(n3:n<=3)
  (hk:∀ {x y:Int} {Q:U×List U->Prop},(∀ ls rs x' y',Rows n rs->Q (.d (.tuple [ls,zcH rs]),[bx x' y',.d (.tuple (ns.map .str)),.d (.int 8),.d (.int 4),.d (.int 2)]))->Wo (zaD [bx x y,.d (.tuple (ns.map .str)),.d (.int 8),.d (.int 4),.d (.int 2)]) Q)
  (k:∀ rs x' y',Rows n rs->Q (.d (zcH rs),[bx x' y',.d (.tuple (ns.map .str))])):Wo (zbv [bx x y,.d (.tuple (ns.map .str))]) Q:=by
 have ll:(List.map PyData.str ns).length=n:=by rw [List.length_map,hn]
 simp_arith [zbv,zrx,ll]
 refine zau (by decide) (by decide) fun r1 x1 y1 a1 b1=>?_
 simp_arith
 refine zcS (fun h1=>?_) (fun h1=>?_)
 ·simp_arith
  refine hk fun ls rs x2 y2 hr=>?_
  simp_arith
  exact k rs _ _ hr
 simp_arith
 refine zau (by decide) (by decide) fun r2 x2 y2 a2 b2=>?_
 simp_arith
 refine zli (fun i ρ=>∃ (x y:Int) (rs:List Rw) (ws:List W2) (o5 o6 o7:Option U),ρ=[some (bx x y),some (.d (.tuple (ns.map .str))),some (.d (.int (n:Int))),some (.l (rs.map Rw.d)),some (wL ws),o5,o6,o7]/\rs.length=i/\RG n 12 rs ws) ⟨_,_,[],[],_,_,_,rfl,rfl,RG.nil⟩ ?_ ?_
 ·rintro i _ hi ⟨x,y,rs,ws,o5,o6,o7,rfl,hl,hR⟩
  have fin:∀ {r':Rw} {x y:Int} {o5 o6 o7:Option U},RG n 12 (rs++[r']) (ws++[wt ws r'])->∃ (x' y':Int) (rs':List Rw) (ws':List W2) (o5' o6' o7':Option U),([some (bx x y),some (.d (.tuple (ns.map .str))),some (.d (.int (n:Int))),some (.l ((rs++[r']).map Rw.d)),some (wL (ws++[wt ws r'])),o5,o6,o7]:En)=[some (bx x' y'),some (.d (.tuple (ns.map .str))),some (.d (.int (n:Int))),some (.l (rs'.map Rw.d)),some (wL ws'),o5',o6',o7']/\rs'.length=i+1/\RG n 12 rs' ws':=fun{r' x y o5 o6 o7} h=>⟨x,y,rs++[r'],_,o5,o6,o7,rfl,by rw [List.length_append,hl]; rfl,h⟩
  simp_arith
  refine zau (by decide) (by decide) fun r3 x3 y3 a3 b3=>?_
  simp_arith
  refine zfk a3 b3 fun z hz=>?_
  simp_arith
  have h100:rs.length<=100:=by omega
  subst hl
  refine zgO n1 (zdP n3) fun q x4 y4 hq=>?_
  rcases zoL z hz with rfl | rfl | ⟨w,rfl⟩
  ·simp_arith
   refine zf4 fun f x5 y5 _ hf=>?_
   simp_arith
   refine zf5 (r:=.num f) hR hf h100 fun x6 y6 r' o7 h=>?_
   simp_arith
   exact fin h
  ·simp_arith
   refine zgR (fun c=>zag ?_) ?_
   ·simp_arith
   ·simp_arith
    refine zf5 (r:=.lt q) hR hq h100 fun x6 y6 r' o7 h=>?_
    simp_arith
    exact fin h
  ·by_cases i0:(0+(rs.length:Int))=0
   ·simp_arith [zmu,zmv,i0]
    refine zf4 fun f x5 y5 _ hf=>?_
    simp_arith
    refine zf5 (r:=.num f) hR hf h100 fun x6 y6 r' o7 h=>?_
    simp_arith
    exact fin h
   ·obtain⟨w0,w1⟩:=zyk i0 (zdP h100)
    simp_arith [zmu,zmv,i0]
    refine zau w0 w1 fun r5 x5 y5 a5 b5=>?_
    simp_arith
    refine zau (by decide) (by decide) fun r6 x6 y6 a6 b6=>?_
    simp_arith
    refine zfk a6 b6 fun z hz=>?_
    obtain⟨c,rfl,hc⟩:=zlD hz
    simp_arith
    refine zau w0 w1 fun r7 x7 y7 a7 b7=>?_
    obtain⟨p,rfl,hp⟩:=zxm w0 a5 b5 hc
    obtain⟨q,rfl,hq⟩:=zu6 a7 b7
    simp_arith
    refine zf5 (r:=.op w p q) hR ⟨hp,hq⟩ h100 fun x6 y6 r' o7 h=>?_
    simp_arith
    exact fin h
 ·rintro _ ⟨x,y,rs,ws,o5,o6,o7,rfl,hl,hR⟩
  simp_arith
  exact k rs _ _ ⟨by omega,by omega,ws,hR⟩
theorem zmw{n:Nat}{x y:Int}{ns:List Str}{Q:U×List U->Prop}(hn:ns.length=n)(n1:1<=n)(n3:n<=3)
  (k:∀ rs x' y',Rows n rs->Q (.d (.tuple [.tuple (ns.map .str),zcH rs]),[.d (.tuple (ns.map .str)),bx x' y',.d (.int 24)])):Wo (za4 [.d (.tuple (ns.map .str)),bx x y,.d (.int 24)]) Q:=by
 subst hn
 have ll:(List.map PyData.str ns).length=ns.length:=List.length_map _
 simp_arith [za4,zcF,ll]
 refine zau (by decide) (by decide) fun r1 x1 y1 a1 b1=>?_
 simp_arith
 refine zgO n1 (zdP n3) fun q x2 y2 hq=>?_
 have h0:RG ns.length 12 [Rw.lt q] [(1,0)]:=RG.nil.snoc (r:=.lt q) hq (show 1<=12 by decide) (show 0<=12 by decide)
 simp_arith
 refine zli (fun i ρ=>∃ (rs:List Rw) (ws:List W2) (o5:Option U),ρ=[some (.d (.tuple (ns.map .str))),some (bx x2 y2),some (.d (.int 24)),some (.d (.int r1)),some (.l (rs.map Rw.d)),o5]/\rs.length=i+1/\RG ns.length 12 rs ws/\ws.getD i (1,0)=(if(i:Int)<=r1 then 1 else 2,0)) ⟨[Rw.lt q],_,_,rfl,rfl,h0,by rw [show((0:Nat):Int)=0 from rfl,if_pos a1]; rfl⟩ ?_ ?_
 ·rintro i _ hi ⟨rs,ws,o5,rfl,hl,hR,hw⟩
  have ln:=hR.ln
  have hi':i < rs.length:=by omega
  have wl:i+1=ws.length:=by omega
  have fin:∀ {w:Wd} {o5:Option U},wt ws (.op w i i)=(if((i+1:Nat):Int)<=r1 then 1 else 2,0)->∃ (rs':List Rw) (ws':List W2) (o5':Option U),([some (.d (.tuple (ns.map .str))),some (bx x2 y2),some (.d (.int 24)),some (.d (.int r1)),some (.l ((rs++[Rw.op w i i]).map Rw.d)),o5]:En)=[some (.d (.tuple (ns.map .str))),some (bx x2 y2),some (.d (.int 24)),some (.d (.int r1)),some (.l (rs'.map Rw.d)),o5']/\rs'.length=i+1+1/\RG ns.length 12 rs' ws'/\ws'.getD (i+1) (1,0)=(if((i+1:Nat):Int)<=r1 then 1 else 2,0):=fun{w o5} h =>
   ⟨_,ws++[wt ws (.op w i i)],o5,rfl,by rw [List.length_append,hl]; rfl,hR.snoc ⟨hi',hi'⟩ (by rw [h]; dsimp only; split<;>decide) (by rw [h]; exact Nat.zero_le _),by rw [<-h,wl,ziC]⟩
  have rp:rs.map Rw.d++[.tuple [.str "plus",.int (0+(i:Int)),.int (0+(i:Int))]]=(rs++[Rw.op .plus i i]).map Rw.d:=by rw [Int.zero_add]; exact zjE (r:=Rw.op .plus i i)
  by_cases c:0+(i:Int)=r1
  ·have rt:rs.map Rw.d++[.tuple [.str "times",.int r1,.int r1]]=(rs++[Rw.op .times i i]).map Rw.d:=by rw [<-c,Int.zero_add]; exact zjE (r:=Rw.op .times i i)
   simp_arith [c]
   rw [rt]
   refine fin ?_
   show((ws.getD i (1,0)).1+(ws.getD i (1,0)).1,(ws.getD i (1,0)).2+(ws.getD i (1,0)).2)=_
   rw [hw,if_pos (by omega),if_neg (by omega)]; rfl
  ·simp_arith [c]
   rw [rp]
   refine fin ?_
   show(max ((ws.getD i (1,0)).1+(ws.getD i (1,0)).2) ((ws.getD i (1,0)).1+(ws.getD i (1,0)).2),(ws.getD i (1,0)).2+(ws.getD i (1,0)).2)=_
   rw [hw]
   by_cases c2:(i:Int)<=r1
   ·rw [if_pos c2,if_pos (by omega)]; rfl
   ·rw [if_neg c2,if_neg (by omega)]; rfl
 ·rintro _ ⟨rs,ws,o5,rfl,hl,hR,hw⟩
  simp_arith
  exact k rs _ _ ⟨by omega,by omega,ws,hR⟩
end K10
open PySem L2
namespace K10
open PySem L2
theorem zhL{M B:Nat}{r:Rat}(h:Bd M B r)(hM:0 < M)(h1:M < 2^4000)(h2:B < 2^4000):Sz r:=by
 obtain⟨a,b⟩:=h.size hM
 exact⟨Nat.lt_of_le_of_lt b h2,Nat.lt_of_le_of_lt a h1⟩
abbrev dT(p:Pq Rat):U:=.d (.dict (dcG fR p))
theorem zvf{u:U}{α:Type}{a b:Option α}:(if u.own=true/\u.own=false then a else b)=b:=if_neg fun⟨h,h'⟩=>by rw [h]at h'; cases h'
def Ln{α:Type}(n:Nat)(p:Pq α):Prop:=∀ t∈p,t.1.length=n
theorem zjF{M B:Nat}{p q:Pq Rat}{u1 u2:U}{s:Int}(hu1:ze3 u1=some (.t (kvG fR p)))(hu2:u2.fz=some (.dict (dcG fR q)))(hs:s=1\/s=-1)(np:NdK p)(nq:NdK q)(hp:PB M B p)(hq:PB M B q)(hM:0 < M)(h1:M < 2^4000)(h2:B+q.length * B < 2^4000)(l1:p.length < 4096)(l2:q.length < 4096) :
  zar [u1,u2,.d (.int s)]=some (.t (kvG fR (nz (gat p (psg s q)))),[u1,dT q,.d (.int s)]):=by
 refine zag ?_
 have sp:psg s q=q.map fun t=>(t.1,(s:Rat) * t.2):=rfl
 simp_arith [zar,zct,hu1,hu2]
 refine zd7 (fun bs cs ρ=>∃ o4 o5,ρ=[some u1,some (dT q),some (.d (.int s)),some (.t (kvG fR (gat p (psg s bs)))),o4,o5,none]) ⟨_,_,rfl⟩ ?_ ?_
 ·rintro bs t cs _ e ⟨o4,o5,rfl⟩
  have tq:t∈q:=by rw [e]; simp
  have lb:bs.length+1<=q.length:=by rw [e,List.length_append,List.length_cons]; omega
  have gl:=zfZ (psg s bs) p
  rw [show(psg s bs).length=bs.length from List.length_map ..]at gl
  have gb:PB M (B+q.length * B) (gat p (psg s bs)):=fun v hv=>(zin (psg s bs) hp (zku hs fun w hw=>hq w (by rw [e]; exact List.mem_append_left _ hw)) v hv).le (by
   rw [show(psg s bs).length=bs.length from List.length_map ..]
   have:=Nat.mul_le_mul_right B (show bs.length<=q.length by omega)
   omega)
  have s1:=zhL (zim gb t.1) hM h1 h2
  have s2:Sz ((s:Rat) * t.2):=zhL (zku hs hq (t.1,(s:Rat) * t.2) (List.mem_map.mpr ⟨t,tq,rfl⟩)) hM h1 (by omega)
  simp_arith [zdI nq tq,zu0 hs,zfF s1 s2]
  rw [zra (by omega)]
  simp_arith
  rw [show psg s (bs++[t])=psg s bs++[(t.1,(s:Rat) * t.2)] by unfold psg; rw [List.map_append]; rfl,zjx]
  exact⟨_,_,rfl⟩
 ·rintro _ ⟨o4,o5,rfl⟩
  have gn:NdK (gat p (psg s q)):=zil _ np
  have gl:=zfZ (psg s q) p
  rw [show(psg s q).length=q.length from List.length_map ..]at gl
  generalize gat p (psg s q)=r at gn gl
  simp_arith
  refine zd7 (fun bs cs ρ=>∃ o4,ρ=[some u1,some (dT q),some (.d (.int s)),some (dT r),o4,o5,some (.t (kvG fR (nz bs)))]) ⟨_,rfl⟩ ?_ ?_
  ·rintro bs t cs _ e ⟨o4,rfl⟩
   have tr:t∈r:=by rw [e]; simp
   have ln:(nz bs).length<=bs.length:=List.length_filter_le _ _
   have lb:bs.length+1<=r.length:=by rw [e,List.length_append,List.length_cons]; omega
   simp_arith [zdI gn tr,zol]
   rw [zlv]
   by_cases z:t.2=0
   ·simp_arith [z,ne_eq]
    exact⟨_,rfl⟩
   ·simp_arith [z,ne_eq,zdI gn tr,zra (c:=fR) (p:=nz bs) (k:=t.1) (x:=t.2) (by omega)]
    rw [zoo (cs:=cs) (by rw [<-e]; exact gn)]
    exact⟨_,rfl⟩
  ·rintro _ ⟨o4,rfl⟩
   simp_arith [zvf]
theorem ziE{M N B C n:Nat}{p q:Pq Rat}(np:NdK p)(nq:NdK q)(hp:PB M B p)(hq:PB N C q)(lp:Ln n p)(lq:Ln n q)(ln:n < 4096)(hM:0 < M)(hN:0 < N)(h1:M * N < 2^4000)(h2:M < 2^4000)(h3:N < 2^4000)(h4:B < 2^4000)(h5:C < 2^4000)(h6:p.length * q.length * (B * C) < 2^4000)(hBC:0 < B * C)
  (l1:p.length * q.length < 4096) (lp6:p.length < 4096) (lq6:q.length < 4096):zu [dT p,dT q]=some (.t (kvG fR (nz (gat [] (zdd p q)))),[dT p,dT q]):=by
 refine zag ?_
 have fin:∀ (o1 o3 o4 o5 o6:Option U) (r:Pq Rat),NdK r->r.length < 4096->∀ (Q:Fl->Prop),(∀ o5,Q (.nx [some (dT p),o1,some (dT r),o3,o4,o5,o6,some (.t (kvG fR (nz r)))]))->Wo (zcy (zH 5) (zah (mB (mOp (zai true) (mOp zJ (zdq (ze 2) (ze 5)) (mC (.int 0))) (mC (.int 0)))) (zeY 7 (ze 5) (zdq (ze 2) (ze 5))) zU) (r.map fun t=>pwD t.1) [some (dT p),o1,some (dT r),o3,o4,o5,o6,some (.t [])]) Q:=by
  intro o1 o3 o4 o5 o6 r gn gl Q hQ
  refine zd7 (fun bs cs ρ=>∃ o5,ρ=[some (dT p),o1,some (dT r),o3,o4,o5,o6,some (.t (kvG fR (nz bs)))]) ⟨_,rfl⟩ ?_ ?_
  ·rintro bs t cs _ e ⟨o5,rfl⟩
   have tr:t∈r:=by rw [e]; simp
   have ln:(nz bs).length<=bs.length:=List.length_filter_le _ _
   have lb:bs.length+1<=r.length:=by rw [e,List.length_append,List.length_cons]; omega
   simp_arith [zdI gn tr,zol]
   rw [zlv]
   by_cases z:t.2=0
   ·simp_arith [z,ne_eq]
    exact⟨_,rfl⟩
   ·simp_arith [z,ne_eq,zdI gn tr,zra (c:=fR) (p:=nz bs) (k:=t.1) (x:=t.2) (by omega)]
    rw [zoo (cs:=cs) (by rw [<-e]; exact gn)]
    exact⟨_,rfl⟩
  ·rintro _ ⟨o5,rfl⟩
   exact hQ o5
 simp_arith [zu,zcp]
 refine zd7 (fun bs cs ρ=>∃ (o3 o4 o5 o6:Option U),ρ=[some (dT p),some (dT q),some (.t (kvG fR (gat [] (zdd bs q)))),o3,o4,o5,o6,none]) ⟨_,_,_,_,rfl⟩ ?_ ?_
 ·rintro bs s cs _ e ⟨o3,o4,o5,o6,rfl⟩
  have sp:s∈p:=by rw [e]; simp
  have lbs:bs.length+1<=p.length:=by rw [e,List.length_append,List.length_cons]; omega
  have lpm:(zdd bs q).length+q.length<=p.length * q.length:=by
   rw [zgE]
   have:=Nat.mul_le_mul_right q.length lbs
   rw [Nat.add_mul,Nat.one_mul]at this
   exact this
  simp_arith
  refine zd7 (fun ds fs ρ=>∃ (o4 o5 o6:Option U),ρ=[some (dT p),some (dT q),some (.t (kvG fR (gat [] (zdd bs q++ds.map fun t=>(zdc s.1 t.1,s.2 * t.2))))),some (.d (pwD s.1)),o4,o5,o6,none]) ⟨_,_,_,by rw [List.map_nil,List.append_nil]⟩ ?_ ?_
  ·rintro ds t fs _ e2 ⟨o4,o5,o6,rfl⟩
   have tq:t∈q:=by rw [e2]; simp
   have lds:ds.length+1<=q.length:=by rw [e2,List.length_append,List.length_cons]; omega
   have hle:s.1.length=t.1.length:=by rw [lp s sp,lq t tq]
   have s1:=zhL (hp s sp) hM h2 h4
   have s2:=zhL (hq t tq) hN h3 h5
   have hb:PB (M * N) (B * C) (zdd bs q++ds.map fun t=>(zdc s.1 t.1,s.2 * t.2)):=fun v hv=>by
    rcases List.mem_append.mp hv with z | z
    ·obtain⟨a,ha,b,hb,rfl⟩:=zio z
     exact(hp a (by rw [e]; exact List.mem_append_left _ ha)).mul (hq b hb)
    ·obtain⟨b,hb,rfl⟩:=List.mem_map.mp z
     exact(hp s sp).mul (hq b (by rw [e2]; exact List.mem_append_left _ hb))
   have ll:(zdd bs q++ds.map fun t=>(zdc s.1 t.1,s.2 * t.2)).length<=p.length * q.length:=by
    rw [List.length_append,List.length_map]
    omega
   have gl:=zfZ (zdd bs q++ds.map fun t=>(zdc s.1 t.1,s.2 * t.2)) []
   rw [List.length_nil,Nat.zero_add]at gl
   have gb:PB (M * N) (p.length * q.length * (B * C)) (gat [] (zdd bs q++ds.map fun t=>(zdc s.1 t.1,s.2 * t.2))):=fun v hv=>(zin _ (C:=0) pb0 hb v hv).le (by
    have:=Nat.mul_le_mul_right (B * C) ll
    omega)
   have s3:=zhL (zim gb (zdc s.1 t.1)) (Nat.mul_pos hM hN) h1 h6
   have s4:Sz (s.2 * t.2):=zhL ((hp s sp).mul (hq t tq)) (Nat.mul_pos hM hN) h1 (by
    have h7:1 * (B * C)<=p.length * q.length * (B * C):=Nat.mul_le_mul_right _ (by
     have:1 * 1<=p.length * q.length:=Nat.mul_le_mul (by omega) (by omega)
     omega)
    omega)
   simp_arith [zjA hle]
   refine zuV (e:=fun t=>.int (t.1+t.2)) (by rw [List.length_zip,lp s sp]; omega) (fun t ht ys=>?_) ?_
   ·simp_arith
   ·rw [show((s.1.zip t.1).map fun t=>PyData.int (t.1+t.2))=(zdc s.1 t.1).map PyData.int by unfold zdc; rw [List.map_zipWith,List.zip,List.map_zipWith]]
    simp_arith [show PyData.tuple ((zdc s.1 t.1).map PyData.int)=pwD (zdc s.1 t.1) from rfl,zdI np sp,zdI nq tq,ziB s1 s2,zfF s3 s4]
    rw [zra (by omega)]
    simp_arith
    rw [List.map_append,<-List.append_assoc,List.map_cons,List.map_nil,zjx]
    exact⟨_,_,_,rfl⟩
  ·rintro _ ⟨o4,o5,o6,rfl⟩
   simp_arith
   rw [zmr]
   exact⟨_,_,_,_,rfl⟩
 ·rintro _ ⟨o3,o4,o5,o6,rfl⟩
  have gl:=zfZ (zdd p q) []
  rw [List.length_nil,zgE]at gl
  simp_arith
  refine fin _ _ _ _ _ _ (zil _ nd0) (by omega) _ fun o5=>?_
  simp_arith
def ziF:Nat->Nat->List (List Int)
 | 0,_=>[[]]
 | n+1,w=>(List.range (w+1)).flatMap fun(j:Nat)=>(ziF n (w - j)).map fun l=>(j:Int)::l
structure Ks (n w:Nat) (a:List Int):Prop where
 ln:a.length=n
 pos:∀ k∈a,0<=k
 sm:a.sum<=(w:Int)
theorem zlE:∀ {a:List Int},(∀ k∈a,0<=k)->0<=a.sum
 | [],_=>by decide
 | k::a,h=>by
  rw [List.sum_cons]
  have:=h k List.mem_cons_self
  have:=zlE fun j hj=>h j (List.mem_cons_of_mem k hj)
  omega
theorem zoM:∀ {n w:Nat} {a:List Int},Ks n w a->a∈ziF n w
 | 0,_,[],_=>List.mem_singleton.mpr rfl
 | 0,_,_::_,h=>by have:=h.ln; simp at this
 | n+1,_,[],h=>by have:=h.ln; simp at this
 | n+1,w,k::a,h=>by
  have h1:=h.pos k List.mem_cons_self
  have h2:=zlE fun j hj=>h.pos j (List.mem_cons_of_mem k hj)
  have h3:=h.sm
  rw [List.sum_cons]at h3
  refine List.mem_flatMap.mpr ⟨k.toNat,List.mem_range.mpr (by omega),List.mem_map.mpr ⟨a,zoM ⟨Nat.succ.inj h.ln,fun j hj=>h.pos j (List.mem_cons_of_mem k hj),by omega⟩,?_⟩⟩
  rw [Int.toNat_of_nonneg h1]
theorem Ks.up{n w w':Nat}{a:List Int}(h:Ks n w a)(c:w<=w'):Ks n w' a:=⟨h.ln,h.pos,by have:=h.sm; omega⟩
theorem zjG:∀ {a b:List Int},a.length=b.length->(zdc a b).sum=a.sum+b.sum
 | [],[],_=>rfl
 | [],_::_,h=>by simp at h
 | _::_,[],h=>by simp at h
 | x::a,y::b,h=>by
  show((x+y)::zdc a b).sum=_
  rw [List.sum_cons,List.sum_cons,List.sum_cons,zjG (Nat.succ.inj h)]
  omega
theorem zjH:∀ {a b:List Int},(∀ k∈a,0<=k)->(∀ k∈b,0<=k)->∀ k∈zdc a b,0<=k
 | [],_,_,_,k,hk=>by simp [zdc]at hk
 | _::_,[],_,_,k,hk=>by simp [zdc]at hk
 | x::a,y::b,h,h',k,hk=>by
  rcases List.mem_cons.mp (show k∈(x+y)::zdc a b from hk)with rfl | hk
  ·have:=h x List.mem_cons_self
   have:=h' y List.mem_cons_self
   omega
  ·exact zjH (fun j hj=>h j (List.mem_cons_of_mem _ hj)) (fun j hj=>h' j (List.mem_cons_of_mem _ hj)) k hk
theorem Ks.add{n w w':Nat}{a b:List Int}(h:Ks n w a)(h':Ks n w' b):Ks n (w+w') (zdc a b):=by
 refine⟨?_,zjH h.pos h'.pos,?_⟩
 ·unfold zdc
  rw [List.length_zipWith,h.ln,h'.ln,Nat.min_self]
 ·rw [zjG (h.ln.trans h'.ln.symm)]
  have:=h.sm
  have:=h'.sm
  omega
theorem zvg:((ziF 1 4).map fun a=>hT (kL a)).Nodup:=by decide +kernel
theorem zvh:((ziF 2 4).map fun a=>hT (kL a)).Nodup:=by decide +kernel
theorem zvi:((ziF 3 4).map fun a=>hT (kL a)).Nodup:=by decide +kernel
theorem zvj{n:Nat}{p:Pq Rat}(h1:1<=n)(h3:n<=3)(nd:NdK p)(ky:∀ t∈p,Ks n 4 t.1):zlt p:=by
 have inj:∀ a∈ziF n 4,∀ b∈ziF n 4,hT (kL a)=hT (kL b)->a=b:=by
  rcases(by omega:n=1\/n=2\/n=3)with rfl | rfl | rfl
  ·exact ziq zvg
  ·exact ziq zvh
  ·exact ziq zvi
 unfold zlt zeE
 rw [Bool.and_eq_true_iff]
 constructor
 ·rw [List.all_eq_true]
  intro ks hk
  obtain⟨a,_,rfl⟩:=List.mem_map.mp hk
  rw [zuN,List.all_eq_true]
  intro k hk
  obtain⟨i,_,rfl⟩:=List.mem_map.mp hk
  rfl
 ·rw [decide_eq_true_iff,List.map_map]
  have mem:∀ a∈p.map (·.1),a∈ziF n 4:=fun a ha=>by
   obtain⟨t,ht,rfl⟩:=List.mem_map.mp ha
   exact zoM (ky t ht)
  refine List.pairwise_map.mpr (List.Pairwise.imp_of_mem (fun{a b} ha hb (hne:a≠b)=>?_) nd)
  exact fun e=>hne (inj a (mem a ha) b (mem b hb) e)
structure PG (n e a:Nat) (p:Pq Rat):Prop where
 nd:NdK p
 ky:∀ t∈p,Ks n a t.1
 bd:PB (12^a) (2^(24 * a+e)) p
section
variable {n e e' a c:Nat} {p q:Pq Rat}
theorem PG.len(h:PG n e a p)(n1:1<=n)(n3:n<=3)(a4:a<=4):p.length<=35:=by
 have:=List.Nodup.length_le_of_subset h.nd (l₂:=ziF n 4) fun x hx=>by
  obtain⟨t,ht,rfl⟩:=List.mem_map.mp hx
  exact zoM ((h.ky t ht).up a4)
 rw [List.length_map]at this
 refine Nat.le_trans this ?_
 rcases(by omega:n=1\/n=2\/n=3)with rfl | rfl | rfl<;>decide
theorem PG.up(h:PG n e a p)(hc:a<=c)(he:e<=e'):PG n e' c p:=by
 refine⟨h.nd,fun t ht=>(h.ky t ht).up hc,fun t ht=>?_⟩
 obtain⟨d,rfl⟩:=Nat.exists_eq_add_of_le hc
 rw [Nat.pow_add]
 refine((h.bd t ht).wide (12^d)).le ?_
 have h1:12^d<=2^(24 * d):=by rw [Nat.pow_mul]; exact Nat.pow_le_pow_left (by decide) d
 refine Nat.le_trans (Nat.mul_le_mul_left _ h1) ?_
 rw [<-Nat.pow_add]
 exact Nat.pow_le_pow_right (by decide) (by omega)
theorem PG.hash(h:PG n e a p)(n1:1<=n)(n3:n<=3)(a4:a<=4):zlt p:=zvj n1 n3 h.nd fun t ht=>(h.ky t ht).up a4
theorem PG.mul(h:PG n e a p)(h':PG n e' c q)(n1:1<=n)(n3:n<=3)(hac:a+c<=4):PG n (e+e'+11) (a+c) (nz (gat [] (zdd p q))):=by
 refine⟨zr1 (zil _ nd0),fun t ht=>?_,fun t ht=>?_⟩
 ·refine zjy (Pk:=fun k=>Ks n (a+c) k) (zdd p q) (fun t h=>by cases h) (fun t ht=>?_) t (List.mem_filter.mp ht).1
  obtain⟨u,hu,v,hv,rfl⟩:=zio ht
  exact(h.ky u hu).add (h'.ky v hv)
 ·have:=zin (zdd p q) (C:=0) pb0 (zq6 h.bd h'.bd) t (List.mem_filter.mp ht).1
  rw [<-Nat.pow_add]at this
  refine this.le ?_
  rw [zgE,Nat.zero_add]
  have l1:=h.len n1 n3 (by omega)
  have l2:=h'.len n1 n3 (by omega)
  have l3:p.length * q.length<=2^11:=Nat.le_trans (Nat.mul_le_mul l1 l2) (by decide)
  refine Nat.le_trans (Nat.mul_le_mul_right _ l3) ?_
  rw [<-Nat.pow_add,<-Nat.pow_add]
  exact Nat.pow_le_pow_right (by decide) (by omega)
theorem PG.add(h:PG n e a p)(h':PG n e a q)(n1:1<=n)(n3:n<=3)(a4:a<=4){s:Int}(hs:s=1\/s=-1):PG n (e+6) a (nz (gat p (psg s q))):=by
 have pk:∀ t∈psg s q,Ks n a t.1:=fun t ht=>by
  obtain⟨u,hu,rfl⟩:=List.mem_map.mp ht
  exact h'.ky u hu
 refine⟨zr1 (zil _ h.nd),fun t ht=>zjy (Pk:=fun k=>Ks n a k) (psg s q) h.ky pk t (List.mem_filter.mp ht).1,fun t ht=>?_⟩
 refine(zin (psg s q) h.bd (zku hs h'.bd) t (List.mem_filter.mp ht).1).le ?_
 rw [show(psg s q).length=q.length from List.length_map ..]
 have l2:=h'.len n1 n3 a4
 have:=Nat.mul_le_mul_right (2^(24 * a+e)) l2
 rw [<-Nat.add_assoc,Nat.pow_add _ _ 6]
 omega
theorem PG.mult_ok(h:PG n e a p)(h':PG n e' c q)(n1:1<=n)(n3:n<=3)(hac:a+c<=4)(he:e+e'<=3800):zu [dT p,dT q]=some (.t (kvG fR (nz (gat [] (zdd p q)))),[dT p,dT q]):=by
 have l1:=h.len n1 n3 (by omega)
 have l2:=h'.len n1 n3 (by omega)
 have l3:p.length * q.length<=35 * 35:=Nat.mul_le_mul l1 l2
 have pw:∀ {x:Nat},x < 4000->2^x < 2^4000:=fun hx=>Nat.pow_lt_pow_right (by decide) hx
 have tw:∀ {x:Nat},x<=8->12^x < 2^4000:=fun hx=>Nat.lt_of_le_of_lt (Nat.pow_le_pow_right (by decide) hx) (by decide +kernel)
 refine ziE (n:=n) h.nd h'.nd h.bd h'.bd (fun t ht=>(h.ky t ht).ln) (fun t ht=>(h'.ky t ht).ln) (by omega) (Nat.pow_pos (by decide)) (Nat.pow_pos (by decide)) (by rw [<-Nat.pow_add]; exact tw (by omega)) (tw (by omega)) (tw (by omega)) (pw (by omega)) (pw (by omega)) ?_ (Nat.mul_pos (Nat.two_pow_pos _) (Nat.two_pow_pos _)) (by omega) (by omega) (by omega)
 refine Nat.lt_of_le_of_lt (Nat.mul_le_mul_right _ (show p.length * q.length<=2^11 from Nat.le_trans l3 (by decide))) ?_
 rw [<-Nat.pow_add,<-Nat.pow_add]
 exact pw (by omega)
theorem PG.add_ok(h:PG n e a p)(h':PG n e a q)(n1:1<=n)(n3:n<=3)(a4:a<=4){s:Int}(hs:s=1\/s=-1)(he:e<=3800):zar [.t (kvG fR p),.t (kvG fR q),.d (.int s)]=some (.t (kvG fR (nz (gat p (psg s q)))),[.t (kvG fR p),dT q,.d (.int s)]):=by
 have l1:=h.len n1 n3 a4
 have l2:=h'.len n1 n3 a4
 refine zjF (zxg (h.hash n1 n3 a4)) zdJ hs h.nd h'.nd h.bd h'.bd (Nat.pow_pos (by decide)) ?_ ?_ (by omega) (by omega)
 ·exact Nat.lt_of_le_of_lt (Nat.pow_le_pow_right (by decide) a4) (by decide +kernel)
 ·have:=Nat.mul_le_mul_right (2^(24 * a+e)) l2
  refine Nat.lt_of_le_of_lt (show _<=2^(24 * a+e) * 2^6 by omega) ?_
  rw [<-Nat.pow_add]
  exact Nat.pow_lt_pow_right (by decide) (by omega)
end
end K10
open PySem L2
namespace K10
open PySem L2
def zs(n:Nat):List Int:=List.replicate n 0
def ziG(n k:Nat):List Int:=List.replicate k 0++[1]++List.replicate (n - k - 1) 0
def zkI(n:Nat)(f:Rat):Pq Rat:=if f=0 then []else [(zs n,f)]
theorem zfz(k:Nat):PyData.tuple (List.replicate k [PyData.int 0]).flatten=pwD (List.replicate k 0):=by
 unfold pwD
 congr 1
 induction k with
 | zero=>rfl
 | succ k ih=>rw [List.replicate_succ,List.flatten_cons,List.replicate_succ,List.map_cons,<-ih]; rfl
theorem zoN(r:Rat):decide (r.num=0)=decide (r=0):=decide_eq_decide.mpr Rat.num_eq_zero
theorem zgU{n:Nat}{f:Rat}(hn:n<=3):zaA [.d (.int (n:Int)),.d (fR f)]=some (.t (kvG fR (zkI n f)),[.d (.int (n:Int)),.d (fR f)]):=by
 refine zag ?_
 simp_arith [zaA,zb4,zoN]
 unfold zkI
 by_cases z:f=0
 ·simp_arith [z]
  rfl
 ·simp_arith [z,zfz,Int.toNat_natCast]
  rfl
theorem zxA{k:Int}(h:k < 1000)(h2:-1000 < k):ze5 (.d (pwD [0])) (.d (.int k))=some (.d (pwD (List.replicate k.toNat 0))):=by
 rw [<-zfz]
 exact zlx (xs:=[.int 0]) (by decide) h h2 (by decide)
theorem zgV{n k:Nat}(hk:k < n)(hn:n<=3):zaB [.d (.int (n:Int)),.d (.int (k:Int))]=some (.t (kvG fR [(ziG n k,1)]),[.d (.int (n:Int)),.d (.int (k:Int))]):=by
 refine zag ?_
 have e:((n:Int) - (k:Int) - 1).toNat=n - k - 1:=by omega
 simp_arith [zaB,zb5,zfz,Int.toNat_natCast,e,zu1,zuX,zxk (a:=List.replicate k 0) (b:=[1]) (by rw [List.length_replicate]; show k+1<=1000; omega),zxk (a:=List.replicate k 0++[1]) (b:=List.replicate (n - k - 1) 0) (by rw [List.length_append,List.length_replicate,List.length_replicate]; show k+1+_<=1000; omega),zxA (k:=(k:Int)) (by omega) (by omega),zxA (k:=(n:Int) - (k:Int) - 1) (by omega) (by omega)]
 rfl
theorem zoO{n k:Nat}(hk:k < n):(ziG n k).length=n:=by
 unfold ziG
 rw [List.length_append,List.length_append,List.length_replicate,List.length_replicate,List.length_singleton]
 omega
theorem zvk(n:Nat):(zs n).length=n:=List.length_replicate
theorem zoP{n k:Nat}:∀ j∈ziG n k,0<=j/\j<=1:=fun j hj=>by
 unfold ziG at hj
 rcases List.mem_append.mp hj with z | z
 ·rcases List.mem_append.mp z with z | z
  ·rw [List.eq_of_mem_replicate z]; omega
  ·rw [List.mem_singleton.mp z]; omega
 ·rw [List.eq_of_mem_replicate z]; omega
theorem zvl{n:Nat}:∀ j∈zs n,j=0:=fun j hj=>List.eq_of_mem_replicate hj
theorem nd1{t:List Int×Rat}:NdK [t]:=by unfold NdK; simp
theorem zjI{n:Nat}{f:Rat}{t:List Int×Rat}(h:t∈zkI n f):t=(zs n,f)/\f≠0:=by
 unfold zkI at h
 split at h
 ·cases h
 ·exact⟨List.mem_singleton.mp h,by assumption⟩
theorem zfa:∀ k:Nat,(List.replicate k (0:Int)).sum=0
 | 0=>rfl
 | k+1=>by rw [List.replicate_succ,List.sum_cons,zfa k]; rfl
theorem zr8{n:Nat}:Ks n 0 (zs n):=⟨zvk n,fun k hk=>by rw [zvl k hk]; decide,by unfold zs; rw [zfa]; decide⟩
theorem zry{n k:Nat}(hk:k < n):Ks n 1 (ziG n k):=⟨zoO hk,fun j hj=>(zoP j hj).1,by
 unfold ziG
 rw [List.sum_append,List.sum_append,zfa,zfa]
 decide⟩
theorem zvm{n:Nat}{f:Rat}(h:Bd 12 12000000 f):PG n 0 1 (zkI n f):=by
 refine⟨?_,fun t ht=>?_,fun t ht=>?_⟩
 ·unfold zkI
  split
  ·exact nd0
  ·exact nd1
 ·rw [(zjI ht).1]; exact zr8.up (by decide)
 ·rw [(zjI ht).1]; exact h.le (by decide)
theorem zvn{n k:Nat}(hk:k < n):PG n 0 1 [(ziG n k,1)]:=⟨nd1,fun t ht=>by rw [List.mem_singleton.mp ht]; exact zry hk,fun t ht=>by
 rw [List.mem_singleton.mp ht]
 exact(Bd.one.wide 12).le (by decide)⟩
theorem zoQ{n:Nat}:PG n 0 0 [(zs n,1)]:=⟨nd1,fun t ht=>by rw [List.mem_singleton.mp ht]; exact zr8,fun t ht=>by
 rw [List.mem_singleton.mp ht]
 exact Bd.one⟩
abbrev P2:=Pq Rat×Pq Rat
abbrev pD(p:P2):D:=.tuple [.dict (dcG fR p.1),.dict (dcG fR p.2)]
abbrev pL(ps:List P2):U:=.l (ps.map pD)
theorem zvo{ps:List P2}{i:Nat}(h:i < ps.length):atI (ps.map pD) (i:Int)=some (.tuple [.dict (dcG fR (ps.getD i ([],[])).1),.dict (dcG fR (ps.getD i ([],[])).2)]):=by
 unfold atI ixN
 rw [if_pos (by omega),if_pos (by rw [List.length_map]; omega),bd,List.getElem?_map,Int.toNat_natCast,List.getElem?_eq_getElem h,List.getD_eq_getElem?_getD,List.getElem?_eq_getElem h]
 rfl
structure PP (n e:Nat) (w:W2) (p:P2):Prop where
 a:PG n e w.1 p.1
 b:PG n e w.2 p.2
theorem PP.up{n e e':Nat}{w:W2}{p:P2}(h:PP n e w p)(c:e<=e'):PP n e' w p:=⟨h.a.up (Nat.le_refl _) c,h.b.up (Nat.le_refl _) c⟩
structure PPs (n e:Nat) (ws:List W2) (ps:List P2):Prop where
 ln:ps.length=ws.length
 ok:∀ i,i < ps.length->PP n e (ws.getD i (1,0)) (ps.getD i ([],[]))
noncomputable def zoR:MS:=(zv (zda (mOp zaS (ze 1) (mOp zJ (ze 0) (mC (.int 1)))) (zbG 2 (zaf (zH 4) (zaf (zH 5) zb0))))
  (zv (zda (mOp zaS (ze 1) (mOp zJ (ze 0) (mC (.int 2)))) (zbG 2 (zaf (zH 6) (zaf (zH 7) zb0))))
  (zv (zah (mB (mOp (zai false) (mOp zJ (ze 0) (mC (.int 0))) (mC (.str "times")))) (zaq (zY (zb (mFz (zx zu (zb (ze 4) (zb (ze 6) zm)))) (zb (mFz (zx zu (zb (ze 5) (zb (ze 7) zm)))) zm)))) zU)
  (zv (zah (mB (mOp (zai false) (mOp zJ (ze 0) (mC (.int 0))) (mC (.str "over")))) (zaq (zY (zb (mFz (zx zu (zb (ze 4) (zb (ze 7) zm)))) (zb (mFz (zx zu (zb (ze 5) (zb (ze 6) zm)))) zm)))) zU)
  (zv (zK 8 (mOp zaS (zbq (zb (mC (.int 1)) (zb (mUn zgo (mC (.int 1))) zm))) (mCB (f1 zeT) (zb (mOp (zai false) (mOp zJ (ze 0) (mC (.int 0))) (mC (.str "less"))) zm))))
  (zv (zK 9 (zx zar (zb (zx zu (zb (ze 4) (zb (ze 7) zm))) (zb (zx zu (zb (ze 6) (zb (ze 5) zm))) (zb (ze 8) zm)))))
  (zaq (zY (zb (mFz (ze 9)) (zb (mFz (zx zu (zb (ze 5) (zb (ze 7) zm)))) zm))))))))))
theorem ziH:zdN=(zv (zK 3 (zfp (mOp ze5 (zY (zb (mC (.int 0)) zm)) (ze 2)) (zY (zb (mC (.int 1)) (zb (mC (.int 1)) zm)))))
  (zv (zah (mB (mOp (zai false) (mOp zJ (ze 0) (mC (.int 0))) (mC (.str "number")))) (zaq (zY (zb (mFz (zx zaA (zb (ze 2) (zb (mOp zJ (ze 0) (mC (.int 1))) zm)))) (zb (mFz (ze 3)) zm)))) zU)
  (zv (zah (mB (mOp (zai false) (mOp zJ (ze 0) (mC (.int 0))) (mC (.str "letter")))) (zaq (zY (zb (mFz (zx zaB (zb (ze 2) (zb (mOp zJ (ze 0) (mC (.int 1))) zm)))) (zb (mFz (ze 3)) zm)))) zU)
  zoR))):=rfl
noncomputable def zoS:MS:=(zv (zK 9 (zx zar (zb (zx zu (zb (ze 4) (zb (ze 7) zm))) (zb (zx zu (zb (ze 6) (zb (ze 5) zm))) (zb (ze 8) zm)))))
  (zaq (zY (zb (mFz (ze 9)) (zb (mFz (zx zu (zb (ze 5) (zb (ze 7) zm)))) zm)))))
theorem zgW:zoR=(zv (zda (mOp zaS (ze 1) (mOp zJ (ze 0) (mC (.int 1)))) (zbG 2 (zaf (zH 4) (zaf (zH 5) zb0))))
  (zv (zda (mOp zaS (ze 1) (mOp zJ (ze 0) (mC (.int 2)))) (zbG 2 (zaf (zH 6) (zaf (zH 7) zb0))))
  (zv (zah (mB (mOp (zai false) (mOp zJ (ze 0) (mC (.int 0))) (mC (.str "times")))) (zaq (zY (zb (mFz (zx zu (zb (ze 4) (zb (ze 6) zm)))) (zb (mFz (zx zu (zb (ze 5) (zb (ze 7) zm)))) zm)))) zU)
  (zv (zah (mB (mOp (zai false) (mOp zJ (ze 0) (mC (.int 0))) (mC (.str "over")))) (zaq (zY (zb (mFz (zx zu (zb (ze 4) (zb (ze 7) zm)))) (zb (mFz (zx zu (zb (ze 5) (zb (ze 6) zm)))) zm)))) zU)
  (zv (zK 8 (mOp zaS (zbq (zb (mC (.int 1)) (zb (mUn zgo (mC (.int 1))) zm))) (mCB (f1 zeT) (zb (mOp (zai false) (mOp zJ (ze 0) (mC (.int 0))) (mC (.str "less"))) zm))))
  zoS))))):=rfl
theorem kz{n:Nat}:kTD (kL (List.replicate n 0))=pwD (zs n):=znH _
section
variable {n e e' a c:Nat} {p q:Pq Rat}
theorem PG.mx(h:PG n e a p)(h':PG n e' c q)(n1:1<=n)(n3:n<=3)(hac:a+c<=4)(he:e+e'<=3800):∃ A,PG n (e+e'+11) (a+c) A/\zu [dT p,dT q]=some (.t (kvG fR A),[dT p,dT q]):=⟨_,h.mul h' n1 n3 hac,h.mult_ok h' n1 n3 hac he⟩
theorem PG.ax(h:PG n e a p)(h':PG n e a q)(n1:1<=n)(n3:n<=3)(a4:a<=4){s:Int}(hs:s=1\/s=-1)(he:e<=3800):∃ A,PG n (e+6) a A/\zar [.t (kvG fR p),.t (kvG fR q),.d (.int s)]=some (.t (kvG fR A),[.t (kvG fR p),dT q,.d (.int s)]):=⟨_,h.add h' n1 n3 a4 hs,h.add_ok h' n1 n3 a4 hs he⟩
end
theorem zrz{n e a b c d A:Nat}{P R:P2}{s:Int}{o0 o1 o2 o3 o9:Option U}(n1:1<=n)(n3:n<=3)(pa:PG n e a P.1)(pb:PG n e b P.2)(pc:PG n e c R.1)(pd:PG n e d R.2)(m1:a+d<=A)(m2:c+b<=A)(w1:A<=4)(w2:b+d<=4)(he:e+e<=3700)(hs:s=1\/s=-1) :
  ∃ pq,PP n (e+e+17) (A,b+d) pq/\∀ {Q:Fl->Prop},(∀ o9,Q (.rt (.d (pD pq)) [o0,o1,o2,o3,some (dT P.1),some (dT P.2),some (dT R.1),some (dT R.2),some (.d (.int s)),o9])) ->
  Wo (zoS [o0,o1,o2,o3,some (dT P.1),some (dT P.2),some (dT R.1),some (dT R.2),some (.d (.int s)),o9]) Q:=by
 obtain⟨g1,h1,f1⟩:=pa.mx pd n1 n3 (by omega) (by omega)
 obtain⟨g2,h2,f2⟩:=pc.mx pb n1 n3 (by omega) (by omega)
 obtain⟨g3,h3,f3⟩:=pb.mx pd n1 n3 w2 (by omega)
 obtain⟨g4,h4,f4⟩:=(h1.up m1 (Nat.le_refl _)).ax (h2.up m2 (Nat.le_refl _)) n1 n3 w1 hs (by omega)
 refine⟨(g4,g3),⟨h4.up (Nat.le_refl _) (by omega),h3.up (Nat.le_refl _) (by omega)⟩,fun k=>?_⟩
 simp_arith [zoS,f1,f2,f3,f4,zdJ]
 exact k _
section
variable {n:Nat} {ps:List P2}
theorem zoT{f:Rat}(n3:n<=3):zat [.d (Rw.num f).d,pL ps,.d (.int (n:Int))]=some (.d (pD (zkI n f,[(zs n,1)])),[.d (Rw.num f).d,pL ps,.d (.int (n:Int))]):=by
 refine zag ?_
 simp_arith [zat,ziH,Rw.d,zfz,Int.toNat_natCast,zgU (f:=f) n3,zdJ,kz]
 rfl
theorem zoU{k:Nat}(hk:k < n)(n3:n<=3):zat [.d (Rw.lt k).d,pL ps,.d (.int (n:Int))]=some (.d (pD ([(ziG n k,1)],[(zs n,1)])),[.d (Rw.lt k).d,pL ps,.d (.int (n:Int))]):=by
 refine zag ?_
 simp_arith [zat,ziH,Rw.d,zfz,Int.toNat_natCast,zgV (k:=k) hk n3,zdJ,kz]
 rfl
theorem zeK{w:Wd}{i j:Nat}{Q:U×List U->Prop}(n3:n<=3)(h:Wo (zoR [some (.d (Rw.op w i j).d),some (pL ps),some (.d (.int (n:Int))),some (.t (kvG fR [(zs n,1)])),none,none,none,none,none,none]) (Co (zqh [0,1,2] [.d (Rw.op w i j).d,pL ps,.d (.int (n:Int))]) ⟨0⟩ Q)):Wo (zat [.d (Rw.op w i j).d,pL ps,.d (.int (n:Int))]) Q:=by
 simp_arith [zat,ziH,Rw.d,zmu,zmv,zfz,Int.toNat_natCast]
 exact h
end
def sgW(w:Wd):Int:=if w.s=Str.ofString "less" then -1 else 1
theorem zvp(w:Wd):sgW w=1\/sgW w=-1:=by
 unfold sgW
 split
 ·exact .inr rfl
 ·exact .inl rfl
theorem zxB{w:Wd}:atI [PyData.int 1,.int (-1)] (if w.s=Str.ofString "less" then 1 else 0)=some (.int (sgW w)):=by
 unfold sgW
 split<;>rfl
theorem zrA{n e e':Nat}{ws:List W2}{ps:List P2}{r:Rw}(n1:1<=n)(n3:n<=3)(hP:PPs n e ws ps)(hr:zee n ps.length r)(w1:(wt ws r).1<=4)(w2:(wt ws r).2<=4)(he:e+e<=3700)(h':ps.length=0\/e+e+17<=e') :
  ∃ pq:P2,PP n e' (wt ws r) pq/\zat [.d r.d,pL ps,.d (.int (n:Int))]=some (.d (pD pq),[.d r.d,pL ps,.d (.int (n:Int))]):=by
 cases r with
 | num f=>exact⟨_,⟨(zvm hr).up (Nat.le_refl 1) (Nat.zero_le _),zoQ.up (Nat.zero_le _) (Nat.zero_le _)⟩,zoT n3⟩
 | lt k=>exact⟨_,⟨(zvn hr).up (Nat.le_refl 1) (Nat.zero_le _),zoQ.up (Nat.zero_le _) (Nat.zero_le _)⟩,zoU hr n3⟩
 | op w i j =>
  have h':e+e+17<=e':=h'.resolve_left (Nat.ne_of_gt (Nat.lt_of_le_of_lt (Nat.zero_le _) hr.1))
  have h11:e+e+11<=e':=Nat.le_trans (Nat.add_le_add_left (by decide) _) h'
  have he8:e+e<=3800:=Nat.le_trans he (by decide)
  obtain⟨pa,pb⟩:=hP.ok i hr.1
  obtain⟨pc,pd⟩:=hP.ok j hr.2
  have ai:=zvo hr.1
  have aj:=zvo hr.2
  generalize ps.getD i ([],[])=P at *
  generalize ps.getD j ([],[])=R at *
  by_cases ht:w=.times
  ·subst ht
   obtain⟨g1,h1,f1⟩:=pa.mx pc n1 n3 w1 he8
   obtain⟨g2,h2,f2⟩:=pb.mx pd n1 n3 w2 he8
   refine⟨(g1,g2),⟨h1.up (Nat.le_refl _) h11,h2.up (Nat.le_refl _) h11⟩,zag (zeK n3 ?_)⟩
   simp_arith [zgW,Rw.d,Wd.s,ai,aj,f1,f2,zdJ]
  by_cases ho:w=.over
  ·subst ho
   obtain⟨g1,h1,f1⟩:=pa.mx pd n1 n3 w1 he8
   obtain⟨g2,h2,f2⟩:=pb.mx pc n1 n3 w2 he8
   refine⟨(g1,g2),⟨h1.up (Nat.le_refl _) h11,h2.up (Nat.le_refl _) h11⟩,zag (zeK n3 ?_)⟩
   simp_arith [zgW,Rw.d,Wd.s,ai,aj,f1,f2,zdJ]
  have wte:wt ws (.op w i j)=(max ((ws.getD i (1,0)).1+(ws.getD j (1,0)).2) ((ws.getD j (1,0)).1+(ws.getD i (1,0)).2),(ws.getD i (1,0)).2+(ws.getD j (1,0)).2):=by
   cases w<;>first | rfl | exact absurd rfl ht | exact absurd rfl ho
  rw [wte]at w1 w2 ⊢
  obtain⟨pq,h,g⟩:=zrz (s:=sgW w) n1 n3 pa pb pc pd (Nat.le_max_left _ _) (Nat.le_max_right _ _) w1 w2 he (zvp w)
  refine⟨pq,h.up h',zag (zeK n3 ?_)⟩
  simp_arith [zgW,Rw.d,zxx ht,zxy ho,ai,aj,zxB]
  refine g fun o9=>?_
  simp_arith
end K10
open PySem L2
namespace K10
open PySem L2
theorem zvq:∀ z∈[PyData.str "plus",.str "less",.str "times",.str "times",.str "over",.str "over"],∃ w:Wd,z=.str w.s:=by
 intro z hz
 simp only [List.mem_cons,List.not_mem_nil,or_false]at hz
 rcases hz with rfl | rfl | rfl | rfl | rfl | rfl
 ·exact⟨.plus,rfl⟩
 ·exact⟨.less,rfl⟩
 ·exact⟨.times,rfl⟩
 ·exact⟨.times,rfl⟩
 ·exact⟨.over,rfl⟩
 ·exact⟨.over,rfl⟩
theorem zrB(r:Rw):∃ z t,r.d=.tuple (.str z::t):=by
 cases r<;>exact⟨_,_,rfl⟩
theorem zym{rs:List Rw}{i:Nat}(h:i < rs.length):∃ r:Rw,atI (rs.map Rw.d) (i:Int)=some r.d:=by
 refine⟨rs[i],?_⟩
 unfold atI ixN
 rw [if_pos (by omega),if_pos (by rw [List.length_map]; omega),bd,List.getElem?_map,Int.toNat_natCast,List.getElem?_eq_getElem h]
 rfl
noncomputable def zoV:MS:=(zv (zK 6 (mOp zaS (zbq (zb (mOp zd1 (ze 4) (mC (.int 1))) (zb (zx zk (zb (ze 0) (zb (ze 4) zm))) zm))) (zx zk (zb (ze 0) (zb (mC (.int 2)) zm)))))
  (zv (zK 7 (zx zk (zb (ze 0) (zb (ze 4) zm))))
  (zv (zK 8 (mLC (zcm (zb (ze 4) zm)) 1 [1] (zH 0) (mB (mOp (zai false) (mOp zJ (mOp zaS (ze 1) (ze 0)) (mC (.int 0))) (mC (.str "times")))) (ze 0)))
  (zv (zah (zdm (mB (mOp (zai false) (ze 5) (mC (.str "over")))) (zdm (mB (mOp (zai false) (ze 3) (mC (.int 1)))) (mB (mOp fGt (mCB (f1 zbF) (zb (ze 8) zm)) (mC (.int 0)))))) (zv (zK 9 (mOp zaS (ze 8) (zx zk (zb (ze 0) (zb (mCB (f1 zbF) (zb (ze 8) zm)) zm)))))
  (zaq (zY (zb (mC (.str "over")) (zb (ze 9) (zb (mOp zJ (mOp zaS (ze 1) (ze 9)) (mOp za3 (mC (.int 1)) (zx zk (zb (ze 0) (zb (mC (.int 2)) zm))))) zm)))))) zU)
  (zv (zah (zdm (mB (mOp (zai false) (ze 5) (mC (.str "over")))) (mB (mOp fLt (ze 3) (mC (.int 2))))) (zK 5 (mC (.str "times"))) zU)
  (zaq (zY (zb (ze 5) (zb (ze 6) (zb (ze 7) zm))))))))))
noncomputable def zoW:MS:=(zv (zah (mB (mOp (zai false) (zx zk (zb (ze 0) (zb (mC (.int 3)) zm))) (mC (.int 0)))) (zaq (zY (zb (mC (.str "number")) (zb (zx zao (zb (ze 0) zm)) zm)))) zU)
  (zaq (zY (zb (mC (.str "letter")) (zb (zx zk (zb (ze 0) (zb (ze 2) zm))) zm)))))
theorem zoX:zcq=(zv (zK 4 (mCB (f1 zbF) (zb (ze 1) zm)))
  (zv (zK 5 (mOp zaS (zbq (zb (mC (.str "plus")) (zb (mC (.str "less")) (zb (mC (.str "times")) (zb (mC (.str "times")) (zb (mC (.str "over")) (zb (mC (.str "over")) zm))))))) (zx zk (zb (ze 0) (zb (mC (.int 6)) zm)))))
  (zv (zah (mOr (mB (mOp (zai false) (ze 4) (mC (.int 0)))) (mB (mOp fLt (zx zk (zb (ze 0) (zb (mC (.int 9)) zm))) (mC (.int 3))))) zoW zU)
  zoV))):=rfl
theorem zrC{n:Nat}{x y:Int}{w:Wd}{rs:List Rw}{o2 o6 o7 o8 o9:Option U}{Q:Fl->Prop}(hl:rs.length<=100)(h1:1<=rs.length)
  (k:∀ i j x' y' o6 o7 o8,i < rs.length->j < rs.length->Q (.rt (.d (Rw.op w i j).d) [some (bx x' y'),some (.l (rs.map Rw.d)),o2,some (.d (.int 2)),some (.d (.int (rs.length:Int))),some (.d (.str w.s)),o6,o7,o8,o9])) :
  Wo (zoV [some (bx x y),some (.l (rs.map Rw.d)),o2,some (.d (.int 2)),some (.d (.int (rs.length:Int))),some (.d (.str w.s)),o6,o7,o8,o9]) Q:=by
 obtain⟨w0,w1⟩:=zxn h1 (zdP hl)
 simp_arith [zoV]
 refine zau w0 w1 fun r5 x5 y5 a5 b5=>?_
 simp_arith
 refine zau (by decide) (by decide) fun r6 x6 y6 a6 b6=>?_
 simp_arith
 refine zfk a6 b6 fun z hz=>?_
 obtain⟨c,rfl,hc⟩:=zlD hz
 simp_arith
 refine zgO h1 (zdP hl) fun q x7 y7 hq=>?_
 obtain⟨p,rfl,hp⟩:∃ p:Nat,c=(p:Int)/\p < rs.length:=zxm (by rw [Int.zero_add]; exact w0) a5 (by rw [Int.zero_add]; exact b5) (by rw [Int.zero_add]; exact hc)
 simp_arith
 refine zlj (fun i ρ ys=>ρ=[none,some (.l (rs.map Rw.d))]/\ys.length<=i) (by rw [zig]; omega) ⟨rfl,Nat.le_refl _⟩ ?_ ?_ ?_
 ·rintro i _ ys ⟨rfl,h⟩
  exact h
 ·rintro i _ ys hi ⟨rfl,h⟩
  obtain⟨r,er⟩:=zym (rs:=rs) (i:=i) (by omega)
  obtain⟨z,t,ez⟩:=zrB r
  simp_arith [Int.zero_add,er,ez]
  by_cases c:z=Str.ofString "times"
  ·simp_arith [c]
   exact h
  ·simp_arith [c]
   omega
 ·rintro _ ys ⟨rfl,h⟩
  simp_arith
  by_cases c:w.s=Str.ofString "over"
  ·simp_arith [c]
   have:=k p q x7 y7 (some (.d (.int (p:Int)))) (some (.d (.int (q:Int)))) (some (.l ys)) hp hq
   simp only [Rw.d,c]at this
   exact this
  ·simp_arith [c]
   exact k p q _ _ _ _ _ hp hq
theorem zlF{n:Nat}{x y:Int}{o1 o3 o4 o5 o6 o7 o8 o9:Option U}{Q:Fl->Prop}(n1:1<=n)(n3:n<=3)
  (k:∀ r x' y',(∀ m,zee n m r)->Q (.rt (.d r.d) [some (bx x' y'),o1,some (.d (.int (n:Int))),o3,o4,o5,o6,o7,o8,o9])) :
  Wo (zoW [some (bx x y),o1,some (.d (.int (n:Int))),o3,o4,o5,o6,o7,o8,o9]) Q:=by
 simp_arith [zoW]
 refine zau (by decide) (by decide) fun r2 x2 y2 a2 b2=>?_
 simp_arith
 refine zcS (fun c=>?_) (fun c=>?_)
 ·simp_arith
  refine zjD fun f x3 y3 hf=>?_
  simp_arith
  exact k (.num f) _ _ fun _=>hf
 ·simp_arith
  refine zgO n1 (zdP n3) fun q x3 y3 hq=>?_
  simp_arith
  exact k (.lt q) _ _ fun _=>hq
theorem zrD{n:Nat}{x y:Int}{rs:List Rw}{Q:U×List U->Prop}(n1:1<=n)(n3:n<=3)(hl:rs.length<=100)
  (k:∀ r x' y',zee n rs.length r->Q (.d r.d,[bx x' y',.l (rs.map Rw.d),.d (.int (n:Int)),.d (.int 2)])) :
  Wo (zaP [bx x y,.l (rs.map Rw.d),.d (.int (n:Int)),.d (.int 2)]) Q:=by
 have ll:(List.map Rw.d rs).length=rs.length:=List.length_map _
 simp_arith [zaP,zoX,ll]
 refine zau (by decide) (by decide) fun r1 x1 y1 a1 b1=>?_
 simp_arith
 refine zfk a1 b1 fun z hz=>?_
 obtain⟨w,rfl⟩:=zvq z hz
 by_cases h0:(rs.length:Int)=0
 ·simp_arith [h0]
  refine zlF n1 n3 fun r x3 y3 hr=>?_
  simp_arith
  exact k r _ _ (hr _)
 ·simp_arith [h0]
  refine zau (by decide) (by decide) fun r2 x2 y2 a2 b2=>?_
  simp_arith
  refine zcS (fun c=>?_) (fun c=>?_)
  ·refine zlF n1 n3 fun r x3 y3 hr=>?_
   simp_arith
   exact k r _ _ (hr _)
  ·simp_arith
   refine zrC (n:=n) hl (by omega) fun i j x3 y3 o6 o7 o8 hi hj=>?_
   simp_arith
   exact k (.op w i j) _ _ ⟨hi,hj⟩
end K10
open PySem L2
namespace K10
open PySem L2
theorem PPs.snoc{n e e':Nat}{ws:List W2}{ps:List P2}{w:W2}{p:P2}(h:PPs n e ws ps)(c:e<=e')(hp:PP n e' w p):PPs n e' (ws++[w]) (ps++[p]):=by
 refine⟨by rw [List.length_append,List.length_append,h.ln]; rfl,fun i hi=>?_⟩
 rw [List.length_append,List.length_singleton]at hi
 rcases Nat.lt_or_ge i ps.length with z | z
 ·rw [zkH z,zkH (by rw [<-h.ln]; exact z)]
  exact(h.ok i z).up c
 ·have e:i=ps.length:=by omega
  subst e
  rw [ziC,h.ln,ziC]
  exact hp
theorem zxC{ps:List P2}{p:P2}:ps.map pD++[.tuple [.dict (dcG fR p.1),.dict (dcG fR p.2)]]=(ps++[p]).map pD:=by rw [List.map_append]; rfl
def ex(k:Nat):Nat:=20 * (2^(k - 1) - 1)
theorem zyn{k:Nat}(h:k<=7):ex k+ex k<=3700/\ex k<=ex (k+1)/\(k=0\/ex k+ex k+17<=ex (k+1)):=by
 rcases(by omega:k=0\/k=1\/k=2\/k=3\/k=4\/k=5\/k=6\/k=7)with rfl | rfl | rfl | rfl | rfl | rfl | rfl | rfl<;>decide
abbrev sC(x y:Int)(ns:List Str)(rs:List Rw)(ps:List P2)(ws:List W2)(o8 o9:Option U):En:=[some (bx x y),some (.d (.tuple (ns.map .str))),some (.d (.int 8)),some (.d (.int 4)),some (.d (.int 2)),some (.l (rs.map Rw.d)),some (pL ps),some (wL ws),o8,o9]
structure JC (n:Nat) (rs:List Rw) (ps:List P2) (ws:List W2):Prop where
 rg:RG n 4 rs ws
 pp:PPs n (ex rs.length) ws ps
noncomputable def zoY:MS:=(zv (za9 (zb7 5 (ze 9)))
  (zv (za9 (zb7 6 (zx zat (zb (ze 9) (zb (ze 6) (zb (mCB (f1 zbF) (zb (ze 1) zm)) zm))))))
  (za9 (zb7 7 (zx zI (zb (ze 9) (zb (ze 7) zm)))))))
noncomputable def zoZ:MS:=(zv (zah (zdm (mB (mOp (zai false) (mOp zJ (ze 9) (mC (.int 0))) (mC (.str "over")))) (mB (mOp zkB (mOp zJ (mOp zaS (ze 6) (mOp zJ (ze 9) (mC (.int 2)))) (mC (.int 0))) zcR))) (zK 9 (zY (zb (mC (.str "number")) (zb (zx zao (zb (ze 0) zm)) zm)))) zU)
  (zv (za9 (zb7 5 (ze 9)))
  (zv (za9 (zb7 6 (zx zat (zb (ze 9) (zb (ze 6) (zb (mCB (f1 zbF) (zb (ze 1) zm)) zm))))))
  (za9 (zb7 7 (zx zI (zb (ze 9) (zb (ze 7) zm))))))))
noncomputable def zo0:MS:=(zv (zah (mB (mOp fGt (mCB (f1 zev) (zb (zx zI (zb (ze 9) (zb (ze 7) zm))) zm)) (ze 3))) (zK 9 (zY (zb (mC (.str "letter")) (zb (zx zk (zb (ze 0) (zb (mCB (f1 zbF) (zb (ze 1) zm)) zm))) zm)))) zU)
  (zv (zah (zdm (mB (mOp (zai false) (mOp zJ (ze 9) (mC (.int 0))) (mC (.str "over")))) (mB (mOp zkB (mOp zJ (mOp zaS (ze 6) (mOp zJ (ze 9) (mC (.int 2)))) (mC (.int 0))) zcR))) (zK 9 (zY (zb (mC (.str "number")) (zb (zx zao (zb (ze 0) zm)) zm)))) zU)
  (zv (za9 (zb7 5 (ze 9)))
  (zv (za9 (zb7 6 (zx zat (zb (ze 9) (zb (ze 6) (zb (mCB (f1 zbF) (zb (ze 1) zm)) zm))))))
  (za9 (zb7 7 (zx zI (zb (ze 9) (zb (ze 7) zm)))))))))
theorem zo1:zo0=zv (zah (mB (mOp fGt (mCB (f1 zev) (zb (zx zI (zb (ze 9) (zb (ze 7) zm))) zm)) (ze 3))) (zK 9 (zY (zb (mC (.str "letter")) (zb (zx zk (zb (ze 0) (zb (mCB (f1 zbF) (zb (ze 1) zm)) zm))) zm)))) zU) zoZ:=rfl
theorem zjJ:zoZ=zv (zah (zdm (mB (mOp (zai false) (mOp zJ (ze 9) (mC (.int 0))) (mC (.str "over")))) (mB (mOp zkB (mOp zJ (mOp zaS (ze 6) (mOp zJ (ze 9) (mC (.int 2)))) (mC (.int 0))) zcR))) (zK 9 (zY (zb (mC (.str "number")) (zb (zx zao (zb (ze 0) zm)) zm)))) zU) zoY:=rfl
theorem zrE:zcr=(zv (zK 5 (zbq zm))
  (zv (zK 6 (zbq zm))
  (zv (zK 7 (zbq zm))
  (zv (zdb (zcm (zb (mOp za3 (mC (.int 1)) (zx zk (zb (ze 0) (zb (ze 2) zm)))) zm)) (zH 8) (zv (zK 9 (zx zaP (zb (ze 0) (zb (ze 5) (zb (mCB (f1 zbF) (zb (ze 1) zm)) (zb (ze 4) zm))))))
  (zv (zah (mB (mOp fGt (mCB (f1 zev) (zb (zx zI (zb (ze 9) (zb (ze 7) zm))) zm)) (ze 3))) (zK 9 (zY (zb (mOp zaS (zbq (zb (mC (.str "plus")) (zb (mC (.str "less")) zm))) (zx zk (zb (ze 0) (zb (mC (.int 2)) zm)))) (zb (mOp zJ (ze 9) (mC (.int 1))) (zb (mOp zJ (ze 9) (mC (.int 1))) zm))))) zU)
  zo0)))
  (zaq (zY (zb (ze 1) (zb (mCB (f1 zcC) (zb (ze 5) zm)) zm)))))))):=rfl
section
variable {n:Nat} {x y:Int} {ns:List Str} {rs:List Rw} {ps:List P2} {ws:List W2} {r:Rw} {o8:Option U} {Q:Fl->Prop}
theorem ziI(hn:ns.length=n)(n1:1<=n)(n3:n<=3)(h:JC n rs ps ws)(hl:rs.length<=7)(hr:zee n rs.length r)(w1:(wt ws r).1<=4)(w2:(wt ws r).2<=4)
  (k:∀ r' pq x' y' o9,JC n (rs++[r']) (ps++[pq]) (ws++[wt ws r'])->Q (.nx (sC x' y' ns (rs++[r']) (ps++[pq]) (ws++[wt ws r']) o8 o9))):Wo (zoY (sC x y ns rs ps ws o8 (some (.d r.d)))) Q:=by
 have ll:(List.map PyData.str ns).length=n:=by rw [List.length_map,hn]
 have ln:=h.rg.ln
 have lp:=h.pp.ln
 obtain⟨e1,e2,e3⟩:=zyn hl
 have hw:=zdv (ws:=ws) (r:=r) (by rw [ln]; exact hr)
 obtain⟨pq,hp,fp⟩:=zrA (r:=r) (e':=ex (rs.length+1)) n1 n3 h.pp (by rw [lp,ln]; exact hr) w1 w2 e1 (by rw [lp,ln]; exact e3)
 simp_arith [zoY,hw,ll,fp,zoK,zxC,zjE]
 refine k _ _ _ _ _ ⟨h.rg.snoc hr w1 w2,?_⟩
 rw [List.length_append,List.length_singleton]
 exact h.pp.snoc e2 hp
theorem zvr{p:Pq Rat}:zkB (.d (.dict (dcG fR p))) (.t [])=some (.d (.bool ((dcG fR p).length==0))):=by
 show(if noX (dcG fR p)=true then _ else _)=_
 rw [if_pos (zkt p)]
theorem zlG(hn:ns.length=n)(n1:1<=n)(n3:n<=3)(h:JC n rs ps ws)(hl:rs.length<=7)(hr:zee n rs.length r)(w1:(wt ws r).1<=4)(w2:(wt ws r).2<=4)
  (k:∀ r' pq x' y' o9,JC n (rs++[r']) (ps++[pq]) (ws++[wt ws r'])->Q (.nx (sC x' y' ns (rs++[r']) (ps++[pq]) (ws++[wt ws r']) o8 o9))):Wo (zoZ (sC x y ns rs ps ws o8 (some (.d r.d)))) Q:=by
 by_cases ho:∃ i j,r=.op .over i j
 ·obtain⟨i,j,rfl⟩:=ho
  have lp:=h.pp.ln
  have ln:=h.rg.ln
  have aj:=zvo (ps:=ps) (i:=j) (by have:=hr.2; omega)
  simp_arith [zjJ,Rw.d,Wd.s,aj,zvr]
  cases hb:((dcG fR (ps.getD j ([],[])).1).length==0)with
  | true =>
   simp_arith
   refine zjD fun f x2 y2 hf=>?_
   simp_arith
   exact ziI (r:=.num f) hn n1 n3 h hl hf (show 1<=4 by decide) (show 0<=4 by decide) k
  | false =>
   simp_arith
   exact ziI (r:=.op .over i j) hn n1 n3 h hl hr w1 w2 k
 ·obtain⟨z,t,ez,zo⟩:∃ z t,r.d=.tuple (.str z::t)/\(z=Str.ofString "over")=False:=by
   cases r with
   | num f=>exact⟨_,_,rfl,eq_false (by decide)⟩
   | lt k=>exact⟨_,_,rfl,eq_false (by decide)⟩
   | op w i j =>
    cases w with
    | over=>exact absurd ⟨i,j,rfl⟩ ho
    | plus=>exact⟨_,_,rfl,eq_false (by decide)⟩
    | less=>exact⟨_,_,rfl,eq_false (by decide)⟩
    | times=>exact⟨_,_,rfl,eq_false (by decide)⟩
  have:=ziI (x:=x) (y:=y) (r:=r) (o8:=o8) (Q:=Q) hn n1 n3 h hl hr w1 w2 k
  rw [ez]at this
  simp_arith [zjJ,ez,zo]
  exact this
theorem zlH(hn:ns.length=n)(n1:1<=n)(n3:n<=3)(h:JC n rs ps ws)(hl:rs.length<=7)(hr:zee n rs.length r)
  (k:∀ r' pq x' y' o9,JC n (rs++[r']) (ps++[pq]) (ws++[wt ws r'])->Q (.nx (sC x' y' ns (rs++[r']) (ps++[pq]) (ws++[wt ws r']) o8 o9))):Wo (zo0 (sC x y ns rs ps ws o8 (some (.d r.d)))) Q:=by
 have ll:(List.map PyData.str ns).length=n:=by rw [List.length_map,hn]
 have ln:=h.rg.ln
 have hw:=zdv (ws:=ws) (r:=r) (by rw [ln]; exact hr)
 simp_arith [zo1,hw,zvd]
 refine zcS (fun c=>?_) (fun c=>?_)
 ·simp_arith [ll]
  refine zgO n1 (zdP n3) fun q x3 y3 hq=>?_
  simp_arith
  exact zlG (r:=.lt q) hn n1 n3 h hl hq (show 1<=4 by decide) (show 0<=4 by decide) k
 ·obtain⟨h1,h2⟩:=zxz (c:=4) c
  simp_arith
  exact zlG hn n1 n3 h hl hr h1 h2 k
end
theorem zjK{n:Nat}{x y:Int}{ns:List Str}{Q:U×List U->Prop}(hn:ns.length=n)(n1:1<=n)(n3:n<=3)
  (k:∀ ls rs x' y',Rows n rs->Q (.d (.tuple [ls,zcH rs]),[bx x' y',.d (.tuple (ns.map .str)),.d (.int 8),.d (.int 4),.d (.int 2)])) :
  Wo (zaD [bx x y,.d (.tuple (ns.map .str)),.d (.int 8),.d (.int 4),.d (.int 2)]) Q:=by
 have ll:(List.map PyData.str ns).length=n:=by rw [List.length_map,hn]
 simp_arith [zaD,zrE]
 refine zau (by decide) (by decide) fun r1 x1 y1 a1 b1=>?_
 simp_arith
 refine zli (fun i ρ=>∃ (x y:Int) (rs:List Rw) (ps:List P2) (ws:List W2) (o8 o9:Option U),ρ=sC x y ns rs ps ws o8 o9/\rs.length=i/\JC n rs ps ws) ⟨_,_,[],[],[],_,_,rfl,rfl,⟨RG.nil,rfl,fun i hi=>absurd hi (Nat.not_lt_zero _)⟩⟩ ?_ ?_
 ·rintro i _ hi ⟨x,y,rs,ps,ws,o8,o9,rfl,hl,h⟩
  have ln:=h.rg.ln
  have fin:∀ {r':Rw} {pq:P2} {x y:Int} {o8 o9:Option U},JC n (rs++[r']) (ps++[pq]) (ws++[wt ws r'])->∃ (x' y':Int) (rs':List Rw) (ps':List P2) (ws':List W2) (o8' o9':Option U),sC x y ns (rs++[r']) (ps++[pq]) (ws++[wt ws r']) o8 o9=sC x' y' ns rs' ps' ws' o8' o9'/\rs'.length=i+1/\JC n rs' ps' ws':=fun{r' pq x y o8 o9} h=>⟨x,y,_,_,_,o8,o9,rfl,by rw [List.length_append,hl]; rfl,h⟩
  have h7:rs.length<=7:=by omega
  simp_arith [ll]
  refine zrD n1 n3 (Nat.le_trans h7 (by decide)) fun r x2 y2 hr=>?_
  have hw:=zdv (ws:=ws) (r:=r) (by rw [ln]; exact hr)
  simp_arith [hw,zvd]
  refine zcS (fun c=>?_) (fun c=>?_)
  ·cases r with
   | num f=>exact absurd (show(if((0:Nat):Int) > ((1:Nat):Int)then((0:Nat):Int)else((1:Nat):Int)) > 4 from c) (by decide)
   | lt q=>exact absurd (show(if((0:Nat):Int) > ((1:Nat):Int)then((0:Nat):Int)else((1:Nat):Int)) > 4 from c) (by decide)
   | op w a b =>
    simp_arith
    refine zau (by decide) (by decide) fun r3 x3 y3 a3 b3=>?_
    simp_arith
    refine zfk a3 b3 fun z hz=>?_
    obtain⟨w',rfl⟩:∃ w:Wd,z=.str w.s:=by
     rcases List.mem_cons.mp hz with rfl | hz
     ·exact⟨.plus,rfl⟩
     ·exact⟨.less,List.mem_singleton.mp hz⟩
    simp_arith [Rw.d]
    refine zlH (r:=.op w' a a) hn n1 n3 h h7 ⟨hr.1,hr.1⟩ fun r' pq x4 y4 o9 h'=>?_
    simp_arith
    exact fin h'
  ·simp_arith
   refine zlH hn n1 n3 h h7 hr fun r' pq x4 y4 o9 h'=>?_
   simp_arith
   exact fin h'
 ·rintro _ ⟨x,y,rs,ps,ws,o8,o9,rfl,hl,h⟩
  simp_arith
  exact k _ rs _ _ ⟨by omega,by omega,ws,h.rg.mono (by decide)⟩
end K10
open PySem L2
namespace K10
open PySem L2
theorem zr9{n M G:Nat}{pt:List Rat}{rs:List Rw}{ws:List W2}(hR:RG n 12 rs ws)(hp:PtOk n M G pt):∀ (cs:List Rw) (vs:List Rat),rs.drop vs.length=cs->VV M G ws vs->vs.length<=rs.length ->
  match go pt vs cs with | .ok us=>us.length<=rs.length/\VV M G ws us | .error k=>k<=rs.length
 | [],vs,_,hv,hl=>⟨hl,hv⟩
 | r::cs,vs,e,hv,hl=>by
  have hlt:vs.length < rs.length:=by
   rcases Nat.lt_or_ge vs.length rs.length with h | h
   ·exact h
   ·rw [List.drop_eq_nil_of_le h]at e; cases e
  have e2:=List.drop_eq_getElem_cons hlt
  rw [e]at e2
  injection e2 with e3 e4
  have er:rs[vs.length]?=some r:=by rw [List.getElem?_eq_getElem hlt,<-e3]
  unfold go
  cases hv':rv pt vs r with
  | none=>exact hl
  | some v=>exact zr9 hR hp cs (vs++[v]) (by rw [List.length_append,List.length_singleton]; exact e4.symm) (hv.snoc hR hp er hv') (by rw [List.length_append,List.length_singleton]; exact hlt)
theorem zvs{k M:Nat}{xs:List D}(h:Nic k M (.list xs))(hM:M<=16777216)(hk:k<=60):zc0 (.l xs)=some (.d (.str (PyData.list xs).shown)):=by
 have:=h.repr hM hk
 unfold zc0 at this ⊢
 exact this
theorem zlI{n M G:Nat}{pt:List Rat}{rs:List Rw}{ws:List W2}(hR:RG n 12 rs ws)(hp:PtOk n M G pt)(hl:rs.length<=24):∃ t,zc0 (zgS pt rs)=some (.d (.str t)):=by
 have h:=zr9 hR hp rs [] rfl (fun i hi=>absurd hi (Nat.not_lt_zero _)) (Nat.zero_le _)
 unfold zgS
 cases e:go pt [] rs with
 | ok vs =>
  rw [e]at h
  refine⟨_,zvs (k:=2) (M:=24 * (2 * (410+1+2)+3+2)+3) (zn5 (fun d hd=>?_) (by rw [List.length_map]; exact Nat.le_trans h.1 hl)) (by decide) (by decide)⟩
  obtain⟨v,hv,rfl⟩:=List.mem_map.mp hd
  obtain⟨i,hi,rfl⟩:=List.getElem_of_mem hv
  have sv:=h.2.sv hR hp hl h.1 hi
  rw [List.getD_eq_getElem?_getD,List.getElem?_eq_getElem hi,Option.getD_some]at sv
  exact zuY sv.n sv.d
 | error k =>
  rw [e]at h
  refine⟨_,Nic.repr (k:=1) (M:=2 * (82+2)+3) (zlm (fun d hd=>?_) (Nat.le_refl _)) (by decide) (by decide)⟩
  rcases List.mem_cons.mp hd with rfl | hd
  ·exact(zqY (n:=8) (by unfold Asc; decide)).mono (Nat.le_refl _) (by decide)
  ·rw [List.mem_singleton.mp hd]
   exact(zii (n:=3) (by rw [Int.natAbs_natCast]; omega)).mono (Nat.le_refl _) (by decide)
theorem zrF{pt:List Rat}{rs:List Rw}:∃ b,zko "list" (zgS pt rs)=some (.d (.bool b))/\(b=true->∃ vs,zgS pt rs=.l vs):=by
 unfold zgS
 cases go pt [] rs with
 | ok vs=>exact⟨true,rfl,fun _=>⟨_,rfl⟩⟩
 | error k=>exact⟨false,rfl,fun h=>by cases h⟩
noncomputable def zo2:MS:=(zv (zK 5 (zx zbf (zb (ze 2) (zb (mCB (f1 zbF) (zb (ze 3) zm)) zm))))
  (zv (zK 6 (mOp za3 (mC (.int 1)) (zx zk (zb (ze 2) (zb (mCB (f1 zbF) (zb (ze 4) zm)) zm)))))
  (zdb (mIt znp (mFz (mOp znl (ze 5) (mSl zg4 (ze 5) zbO (zdr (mC (.int 1))))))) (zH 7) (zv (zK 8 (zx zaV (zb (ze 4) (zb (ze 7) zm))))
  (zv (zK 9 (zx zaT (zb (zY (zb (ze 3) (zb (ze 4) zm))) (zb (ze 7) zm))))
  (zv (zah (mB (mOp (zai true) (mCB (f1 zc0) (zb (ze 9) zm)) (mCB (f1 zc0) (zb (ze 8) zm)))) (zaq (mC (.bool false))) zU)
  (zv (zah (mB (mUn (zko "list") (ze 9))) (za9 (mLm (fun _=>[]) 9)) zU)
  (zah (mB (mOp (zai true) (mCB (f1 zc0) (zb (zx zaT (zb (zY (zb (ze 3) (zb (mSl zkh (ze 4) zbO (zdr (ze 6))) zm))) (zb (ze 7) zm))) zm)) (mCB (f1 zc0) (zb (zx zaV (zb (mSl zkh (ze 4) zbO (zdr (ze 6))) (zb (ze 7) zm))) zm)))) (zaq (mC (.bool false))) zU))))))))
theorem zvt:zoy=(zv (zdb (zcm (zb (mOp za3 (mC (.int 1)) (mCB (f1 zbF) (zb (mSl zg4 (ze 0) zbO (zdr (mC (.int 6)))) zm))) zm)) (zH 1) (zv (zK 2 (zx zbM (zb (ze 0) (zb (ze 1) zm))))
  (zv (zK 3 (zx zbo (zb (ze 2) (zb (mOp za3 (mC (.int 1)) (zx zk (zb (ze 2) (zb (mC (.int 3)) zm)))) zm))))
  (zv (zK 4 (zx zbv (zb (ze 2) (zb (ze 3) zm))))
  (zv (zah (mB (mOp (zai false) (zx zk (zb (ze 2) (zb (mC (.int 8)) zm))) (mC (.int 0)))) (zK 4 (mOp zJ (zx za4 (zb (ze 3) (zb (ze 2) (zb (mC (.int 24)) zm)))) (mC (.int 1)))) zU)
  zo2)))))
  (zaq (mC (.bool true)))):=rfl
theorem zlJ{n:Nat}{ns:List Int}{ls:List Str}{x y:Int}{rs:List Rw}{o1 o5 o6 o7 o8 o9:Option U}{Q:Fl->Prop}(hn:ls.length=n)(n1:1<=n)(n3:n<=3)(hr:Rows n rs)
  (k:∀ x' y' o5 o6 o7 o8 o9,Q (.nx [some (.d (.list (ns.map .int))),o1,some (bx x' y'),some (.d (.tuple (ls.map .str))),some (.d (zcH rs)),o5,o6,o7,o8,o9])) :
  Wo (zo2 [some (.d (.list (ns.map .int))),o1,some (bx x y),some (.d (.tuple (ls.map .str))),some (.d (zcH rs)),o5,o6,o7,o8,o9]) Q:=by
 have ll:(List.map PyData.str ls).length=n:=by rw [List.length_map,hn]
 obtain⟨r1,r24,ws,hR⟩:=hr
 simp_arith [zo2,ll]
 refine zoI (Int.natCast_nonneg n) (Int.ofNat_le.mpr n3) fun p1 p2 p3 x1 y1 hp=>?_
 simp_arith [List.length_map]
 refine zau (by omega) (by omega) fun c x2 y2 c0 c1=>?_
 have ct:zeu (rs.map Rw.d) none (some (1+c))=(rs.take (1+c).toNat).map Rw.d:=by rw [zuI (by omega),List.map_take]
 have hR2:=hR.take (1+c).toNat
 have l2:(rs.take (1+c).toNat).length<=24:=by rw [List.length_take]; omega
 have fc:znl (.l [ptD p1,ptD p2,ptD p3]) (.l (zeu [ptD p1,ptD p2,ptD p3] none (some 1)))=some (.l [ptD p1,ptD p2,ptD p3,ptD p1]):=rfl
 simp_arith [fc]
 refine ze2 (fun i ρ=>∃ o7 o8 o9,ρ=[some (.d (.list (ns.map .int))),o1,some (bx x2 y2),some (.d (.tuple (ls.map .str))),some (.d (zcH rs)),some (.l [ptD p1,ptD p2,ptD p3]),some (.d (.int (1+c))),o7,o8,o9]) ⟨_,_,_,rfl⟩ ?_ ?_
 ·rintro i d _ hd ⟨o7,o8,o9,rfl⟩
  obtain⟨pt,rfl,hl,hb⟩:∃ pt,d=ptD pt/\pt.length=((n:Int)).toNat/\∀ r∈pt,Pn r:=by
   have hm:=List.mem_of_getElem? hd
   simp only [List.mem_cons,List.not_mem_nil,or_false]at hm
   rcases hm with rfl | rfl | rfl | rfl
   ·exact⟨p1,rfl,hp p1 (by simp)⟩
   ·exact⟨p2,rfl,hp p2 (by simp)⟩
   ·exact⟨p3,rfl,hp p3 (by simp)⟩
   ·exact⟨p1,rfl,hp p1 (by simp)⟩
  obtain⟨M,G,hpt⟩:=zxv n3 (by omega) hb
  have d1:zaV [.d (zcH rs),.d (ptD pt)]=some (zgS pt rs,[.d (zcH rs),.d (ptD pt)]):=zoG hR hpt r24
  have d2:zaV [.d (zcH (rs.take (1+c).toNat)),.d (ptD pt)]=some (zgS pt (rs.take (1+c).toNat),[.d (zcH (rs.take (1+c).toNat)),.d (ptD pt)]):=zoG hR2 hpt l2
  have t1:=zlB (ls:=ls.map .str) hR hpt r24
  have t2:=zlB (ls:=ls.map .str) hR2 hpt l2
  obtain⟨s1,f1⟩:=zlI hR hpt r24
  obtain⟨s2,f2⟩:=zlI hR2 hpt l2
  obtain⟨b,fb,hb⟩:=zrF (pt:=pt) (rs:=rs)
  generalize zgS pt rs=u1 at d1 t1 f1 fb hb
  generalize zgS pt (rs.take (1+c).toNat)=u2 at d2 t2 f2
  simp_arith [d1,t1,f1,fb]
  cases b with
  | true =>
   obtain⟨vs,rfl⟩:=hb rfl
   simp_arith [ct,t2,d2,f2]
   exact⟨_,_,_,rfl⟩
  | false =>
   simp_arith [ct,t2,d2,f2]
   exact⟨_,_,_,rfl⟩
 ·rintro _ ⟨o7,o8,o9,rfl⟩
  exact k _ _ _ _ _ _ _
theorem zxD(ns:List Int)(hl:ns.length<=63):Wo (zhK [.d (.list (ns.map .int))]) fun o=>o=(.d (.bool true),[.d (.list (ns.map .int))]):=by
 have hc:=zqX (ns.map PyData.int) none (some 6)
 rw [List.length_map]at hc
 simp_arith [zhK,zvt,List.length_map]
 refine ze2 (fun i ρ=>∃ (o1 o2 o3 o4 o5 o6 o7 o8 o9:Option U),ρ=[some (.d (.list (ns.map .int))),o1,o2,o3,o4,o5,o6,o7,o8,o9]) ⟨_,_,_,_,_,_,_,_,_,rfl⟩ ?_ ?_
 ·rintro i d _ hd ⟨o1,o2,o3,o4,o5,o6,o7,o8,o9,rfl⟩
  obtain⟨hi,rfl⟩:=zej hd
  simp_arith
  refine zxo (by omega) fun x y=>?_
  simp_arith
  refine zau (by decide) (by decide) fun r x1 y1 r0 r1=>?_
  simp_arith
  refine zru (by omega) (by omega) fun ls x2 y2 hls _=>?_
  have l1:1<=ls.length:=by omega
  have l3:ls.length<=3:=by omega
  simp_arith
  refine zve (n:=ls.length) rfl l1 l3 (fun k=>zjK rfl l1 l3 k) fun rs x3 y3 hr=>?_
  simp_arith
  refine zau (by decide) (by decide) fun r2 x4 y4 a2 b2=>?_
  simp_arith
  refine zcS (fun c=>?_) (fun c=>?_)
  ·simp_arith
   refine zmw rfl l1 l3 fun rs x5 y5 hr=>?_
   simp_arith
   refine zlJ rfl l1 l3 hr fun x6 y6 o5 o6 o7 o8 o9=>?_
   simp_arith
   exact⟨_,_,_,_,_,_,_,_,_,rfl⟩
  ·simp_arith
   refine zlJ rfl l1 l3 hr fun x6 y6 o5 o6 o7 o8 o9=>?_
   simp_arith
   exact⟨_,_,_,_,_,_,_,_,_,rfl⟩
 ·rintro _ ⟨o1,o2,o3,o4,o5,o6,o7,o8,o9,rfl⟩
  simp_arith
theorem zvu(ns:List Int)(hl:ns.length<=63):∃ outs,zhK [.d (.list (ns.map .int))]=some (.d (.bool true),outs):=⟨_,zag (zxD ns hl)⟩
abbrev zo3(K:PySem.W.Frag):Sp:=spV K 1 zhK
theorem zxE{α:Type}:∀ {us:List α},us.length=1->∃ a,us=[a]
 | [a],_=>⟨a,rfl⟩
theorem zcX{α:Type}:∀ {us:List α},us.length=2->∃ a b,us=[a,b]
 | [a,b],_=>⟨a,b,rfl⟩
theorem zo4{α:Type}:∀ {us:List α},us.length=3->∃ a b c,us=[a,b,c]
 | [a,b,c],_=>⟨a,b,c,rfl⟩
theorem zyo{α:Type}:∀ {us:List α},us.length=4->∃ a b c d,us=[a,b,c,d]
 | [a,b,c,d],_=>⟨a,b,c,d,rfl⟩
theorem zyp{α:Type}:∀ {us:List α},us.length=5->∃ a b c d e,us=[a,b,c,d,e]
 | [a,b,c,d,e],_=>⟨a,b,c,d,e,rfl⟩
theorem all_mk{l:PySem.W.OpenLaw}{w:World}{K:PySem.W.Frag}{h:Heap}{mg:Str->Option Value}{fa f0 f1 f2 f3 f4 f5 f6 f7 f8 f9 f10 f11 f12 f13 f14 f15 f16 f17 f18 f19 f20 f21 f22 f23 f24 f25 f26 f27 f28 f29 f30:Addr}(X:K.In h)(G:h.Ns mainGlobals mg)(hfa:mg "law"=some (.ref fa))
  {od0 an0 od1 an1 od2 an2 od3 an3 od4 an4 od5 an5 od6 an6 od7 an7 od8 an8 od9 an9 od10 an10 od11 an11 od12 an12 od13 an13 od14 an14 od15 an15 od16 an16 od17 an17 od18 an18 od19 an19 od20 an20 od21 an21 od22 an22 od23 an23 od24 an24 od25 an25 od26 an26 od27 an27 od28 an28 od29 an29 od30 an30:Option Addr} {sl0 sl1 sl2 sl3 sl4 sl5 sl6 sl7 sl8 sl9 sl10 sl11 sl12 sl13 sl14 sl15 sl16 sl17 sl18 sl19 sl20 sl21 sl22 sl23 sl24 sl25 sl26 sl27 sl28 sl29 sl30:Array (Option Value)} {oc0 kV0 dc0 pm0 cd0 ct0 oc1 kV1 dc1 pm1 cd1 ct1 oc2 kV2 dc2 pm2 cd2 ct2 oc3 kV3 dc3 pm3 cd3 ct3 oc4 kV4 dc4 pm4 cd4 ct4 oc5 kV5 dc5 pm5 cd5 ct5 oc6 kV6 dc6 pm6 cd6 ct6 oc7 kV7 dc7 pm7 cd7 ct7 oc8 kV8 dc8 pm8 cd8 ct8 oc9 kV9 dc9 pm9 cd9 ct9 oc10 kV10 dc10 pm10 cd10 ct10 oc11 kV11 dc11 pm11 cd11 ct11 oc12 kV12 dc12 pm12 cd12 ct12 oc13 kV13 dc13 pm13 cd13 ct13 oc14 kV14 dc14 pm14 cd14 ct14 oc15 kV15 dc15 pm15 cd15 ct15 oc16 kV16 dc16 pm16 cd16 ct16 oc17 kV17 dc17 pm17 cd17 ct17 oc18 kV18 dc18 pm18 cd18 ct18 oc19 kV19 dc19 pm19 cd19 ct19 oc20 kV20 dc20 pm20 cd20 ct20 oc21 kV21 dc21 pm21 cd21 ct21 oc22 kV22 dc22 pm22 cd22 ct22 oc23 kV23 dc23 pm23 cd23 ct23 oc24 kV24 dc24 pm24 cd24 ct24 oc25 kV25 dc25 pm25 cd25 ct25 oc26 kV26 dc26 pm26 cd26 ct26 oc27 kV27 dc27 pm27 cd27 ct27 oc28 kV28 dc28 pm28 cd28 ct28 oc29 kV29 dc29 pm29 cd29 ct29 oc30 kV30 dc30 pm30 cd30 ct30:Value}
  (a0:PySem.W.nsIn K mainGlobals "common_factor"=some (some (.ref f0))) (l0:K.lookup f0=some ⟨oc0,od0,.func (PySem.W.fnOf "common_factor" "common_factor" (zZ zbj) (zV zbj) (zt zbj) .none kV0 dc0 pm0 an0 cd0 ct0),sl0⟩) (c0:PySem.W.codeIn K cd0 "common_factor"=true) (k0:PySem.W.keepIn K (.ref f0)=true)
  (a1:PySem.W.nsIn K mainGlobals "added"=some (some (.ref f1))) (l1:K.lookup f1=some ⟨oc1,od1,.func (PySem.W.fnOf "added" "added" (zZ zeo) (zV zeo) (zt zeo) .none kV1 dc1 pm1 an1 cd1 ct1),sl1⟩) (c1:PySem.W.codeIn K cd1 "added"=true) (k1:PySem.W.keepIn K (.ref f1)=true)
  (a2:PySem.W.nsIn K mainGlobals "plus"=some (some (.ref f2))) (l2:K.lookup f2=some ⟨oc2,od2,.func (PySem.W.fnOf "plus" "plus" (zZ zfq) (zV zfq) (zt zfq) .none kV2 dc2 pm2 an2 cd2 ct2),sl2⟩) (c2:PySem.W.codeIn K cd2 "plus"=true) (k2:PySem.W.keepIn K (.ref f2)=true)
  (a3:PySem.W.nsIn K mainGlobals "less"=some (some (.ref f3))) (l3:K.lookup f3=some ⟨oc3,od3,.func (PySem.W.fnOf "less" "less" (zZ zfr) (zV zfr) (zt zfr) .none kV3 dc3 pm3 an3 cd3 ct3),sl3⟩) (c3:PySem.W.codeIn K cd3 "less"=true) (k3:PySem.W.keepIn K (.ref f3)=true)
  (a4:PySem.W.nsIn K mainGlobals "times"=some (some (.ref f4))) (l4:K.lookup f4=some ⟨oc4,od4,.func (PySem.W.fnOf "times" "times" (zZ zep) (zV zep) (zt zep) .none kV4 dc4 pm4 an4 cd4 ct4),sl4⟩) (c4:PySem.W.codeIn K cd4 "times"=true) (k4:PySem.W.keepIn K (.ref f4)=true)
  (a5:PySem.W.nsIn K mainGlobals "over"=some (some (.ref f5))) (l5:K.lookup f5=some ⟨oc5,od5,.func (PySem.W.fnOf "over" "over" (zZ zfs) (zV zfs) (zt zfs) .none kV5 dc5 pm5 an5 cd5 ct5),sl5⟩) (c5:PySem.W.codeIn K cd5 "over"=true) (k5:PySem.W.keepIn K (.ref f5)=true)
  (a6:PySem.W.nsIn K mainGlobals "made_value"=some (some (.ref f6))) (l6:K.lookup f6=some ⟨oc6,od6,.func (PySem.W.fnOf "made_value" "made_value" (zZ zbP) (zV zbP) (zt zbP) .none kV6 dc6 pm6 an6 cd6 ct6),sl6⟩) (c6:PySem.W.codeIn K cd6 "made_value"=true) (k6:PySem.W.keepIn K (.ref f6)=true)
  (a7:PySem.W.nsIn K mainGlobals "run"=some (some (.ref f7))) (l7:K.lookup f7=some ⟨oc7,od7,.func (PySem.W.fnOf "run" "run" (zZ zhI) (zV zhI) (zt zhI) .none kV7 dc7 pm7 an7 cd7 ct7),sl7⟩) (c7:PySem.W.codeIn K cd7 "run"=true) (k7:PySem.W.keepIn K (.ref f7)=true)
  (a8:PySem.W.nsIn K mainGlobals "_law_box"=some (some (.ref f8))) (l8:K.lookup f8=some ⟨oc8,od8,.func (PySem.W.fnOf "_law_box" "_law_box" (zZ zcg) (zV zcg) (zt zcg) .none kV8 dc8 pm8 an8 cd8 ct8),sl8⟩) (c8:PySem.W.codeIn K cd8 "_law_box"=true) (k8:PySem.W.keepIn K (.ref f8)=true)
  (a9:PySem.W.nsIn K mainGlobals "_law_take"=some (some (.ref f9))) (l9:K.lookup f9=some ⟨oc9,od9,.func (PySem.W.fnOf "_law_take" "_law_take" (zZ zbQ) (zV zbQ) (zt zbQ) .none kV9 dc9 pm9 an9 cd9 ct9),sl9⟩) (c9:PySem.W.codeIn K cd9 "_law_take"=true) (k9:PySem.W.keepIn K (.ref f9)=true)
  (a10:PySem.W.nsIn K mainGlobals "_law_names"=some (some (.ref f10))) (l10:K.lookup f10=some ⟨oc10,od10,.func (PySem.W.fnOf "_law_names" "_law_names" (zZ zby) (zV zby) (zt zby) .none kV10 dc10 pm10 an10 cd10 ct10),sl10⟩) (c10:PySem.W.codeIn K cd10 "_law_names"=true) (k10:PySem.W.keepIn K (.ref f10)=true)
  (a11:PySem.W.nsIn K mainGlobals "_law_fraction"=some (some (.ref f11))) (l11:K.lookup f11=some ⟨oc11,od11,.func (PySem.W.fnOf "_law_fraction" "_law_fraction" (zZ zbd) (zV zbd) (zt zbd) .none kV11 dc11 pm11 an11 cd11 ct11),sl11⟩) (c11:PySem.W.codeIn K cd11 "_law_fraction"=true) (k11:PySem.W.keepIn K (.ref f11)=true)
  (a12:PySem.W.nsIn K mainGlobals "_law_plus"=some (some (.ref f12))) (l12:K.lookup f12=some ⟨oc12,od12,.func (PySem.W.fnOf "_law_plus" "_law_plus" (zZ zbR) (zV zbR) (zt zbR) .none kV12 dc12 pm12 an12 cd12 ct12),sl12⟩) (c12:PySem.W.codeIn K cd12 "_law_plus"=true) (k12:PySem.W.keepIn K (.ref f12)=true)
  (a13:PySem.W.nsIn K mainGlobals "_law_times"=some (some (.ref f13))) (l13:K.lookup f13=some ⟨oc13,od13,.func (PySem.W.fnOf "_law_times" "_law_times" (zZ zbz) (zV zbz) (zt zbz) .none kV13 dc13 pm13 an13 cd13 ct13),sl13⟩) (c13:PySem.W.codeIn K cd13 "_law_times"=true) (k13:PySem.W.keepIn K (.ref f13)=true)
  (a14:PySem.W.nsIn K mainGlobals "_law_poly_add"=some (some (.ref f14))) (l14:K.lookup f14=some ⟨oc14,od14,.func (PySem.W.fnOf "_law_poly_add" "_law_poly_add" (zZ zbe) (zV zbe) (zt zbe) .none kV14 dc14 pm14 an14 cd14 ct14),sl14⟩) (c14:PySem.W.codeIn K cd14 "_law_poly_add"=true) (k14:PySem.W.keepIn K (.ref f14)=true)
  (a15:PySem.W.nsIn K mainGlobals "_law_poly_mult"=some (some (.ref f15))) (l15:K.lookup f15=some ⟨oc15,od15,.func (PySem.W.fnOf "_law_poly_mult" "_law_poly_mult" (zZ za0) (zV za0) (zt za0) .none kV15 dc15 pm15 an15 cd15 ct15),sl15⟩) (c15:PySem.W.codeIn K cd15 "_law_poly_mult"=true) (k15:PySem.W.keepIn K (.ref f15)=true)
  (a16:PySem.W.nsIn K mainGlobals "_law_poly_number"=some (some (.ref f16))) (l16:K.lookup f16=some ⟨oc16,od16,.func (PySem.W.fnOf "_law_poly_number" "_law_poly_number" (zZ zaQ) (zV zaQ) (zt zaQ) .none kV16 dc16 pm16 an16 cd16 ct16),sl16⟩) (c16:PySem.W.codeIn K cd16 "_law_poly_number"=true) (k16:PySem.W.keepIn K (.ref f16)=true)
  (a17:PySem.W.nsIn K mainGlobals "_law_poly_letter"=some (some (.ref f17))) (l17:K.lookup f17=some ⟨oc17,od17,.func (PySem.W.fnOf "_law_poly_letter" "_law_poly_letter" (zZ zaR) (zV zaR) (zt zaR) .none kV17 dc17 pm17 an17 cd17 ct17),sl17⟩) (c17:PySem.W.codeIn K cd17 "_law_poly_letter"=true) (k17:PySem.W.keepIn K (.ref f17)=true)
  (a18:PySem.W.nsIn K mainGlobals "_law_number"=some (some (.ref f18))) (l18:K.lookup f18=some ⟨oc18,od18,.func (PySem.W.fnOf "_law_number" "_law_number" (zZ zbs) (zV zbs) (zt zbs) .none kV18 dc18 pm18 an18 cd18 ct18),sl18⟩) (c18:PySem.W.codeIn K cd18 "_law_number"=true) (k18:PySem.W.keepIn K (.ref f18)=true)
  (a19:PySem.W.nsIn K mainGlobals "_law_small"=some (some (.ref f19))) (l19:K.lookup f19=some ⟨oc19,od19,.func (PySem.W.fnOf "_law_small" "_law_small" (zZ zbA) (zV zbA) (zt zbA) .none kV19 dc19 pm19 an19 cd19 ct19),sl19⟩) (c19:PySem.W.codeIn K cd19 "_law_small"=true) (k19:PySem.W.keepIn K (.ref f19)=true)
  (a20:PySem.W.nsIn K mainGlobals "_law_point"=some (some (.ref f20))) (l20:K.lookup f20=some ⟨oc20,od20,.func (PySem.W.fnOf "_law_point" "_law_point" (zZ zbB) (zV zbB) (zt zbB) .none kV20 dc20 pm20 an20 cd20 ct20),sl20⟩) (c20:PySem.W.codeIn K cd20 "_law_point"=true) (k20:PySem.W.keepIn K (.ref f20)=true)
  (a21:PySem.W.nsIn K mainGlobals "_law_weight"=some (some (.ref f21))) (l21:K.lookup f21=some ⟨oc21,od21,.func (PySem.W.fnOf "_law_weight" "_law_weight" (zZ zbt) (zV zbt) (zt zbt) .none kV21 dc21 pm21 an21 cd21 ct21),sl21⟩) (c21:PySem.W.codeIn K cd21 "_law_weight"=true) (k21:PySem.W.keepIn K (.ref f21)=true)
  (a22:PySem.W.nsIn K mainGlobals "_law_pair"=some (some (.ref f22))) (l22:K.lookup f22=some ⟨oc22,od22,.func (PySem.W.fnOf "_law_pair" "_law_pair" (zZ zbS) (zV zbS) (zt zbS) .none kV22 dc22 pm22 an22 cd22 ct22),sl22⟩) (c22:PySem.W.codeIn K cd22 "_law_pair"=true) (k22:PySem.W.keepIn K (.ref f22)=true)
  (a23:PySem.W.nsIn K mainGlobals "_law_drawn_row"=some (some (.ref f23))) (l23:K.lookup f23=some ⟨oc23,od23,.func (PySem.W.fnOf "_law_drawn_row" "_law_drawn_row" (zZ za1) (zV za1) (zt za1) .none kV23 dc23 pm23 an23 cd23 ct23),sl23⟩) (c23:PySem.W.codeIn K cd23 "_law_drawn_row"=true) (k23:PySem.W.keepIn K (.ref f23)=true)
  (a24:PySem.W.nsIn K mainGlobals "_law_reckoning"=some (some (.ref f24))) (l24:K.lookup f24=some ⟨oc24,od24,.func (PySem.W.fnOf "_law_reckoning" "_law_reckoning" (zZ za2) (zV za2) (zt za2) .none kV24 dc24 pm24 an24 cd24 ct24),sl24⟩) (c24:PySem.W.codeIn K cd24 "_law_reckoning"=true) (k24:PySem.W.keepIn K (.ref f24)=true)
  (a25:PySem.W.nsIn K mainGlobals "_law_rows"=some (some (.ref f25))) (l25:K.lookup f25=some ⟨oc25,od25,.func (PySem.W.fnOf "_law_rows" "_law_rows" (zZ zbT) (zV zbT) (zt zbT) .none kV25 dc25 pm25 an25 cd25 ct25),sl25⟩) (c25:PySem.W.codeIn K cd25 "_law_rows"=true) (k25:PySem.W.keepIn K (.ref f25)=true)
  (a26:PySem.W.nsIn K mainGlobals "_law_doubled"=some (some (.ref f26))) (l26:K.lookup f26=some ⟨oc26,od26,.func (PySem.W.fnOf "_law_doubled" "_law_doubled" (zZ zbk) (zV zbk) (zt zbk) .none kV26 dc26 pm26 an26 cd26 ct26),sl26⟩) (c26:PySem.W.codeIn K cd26 "_law_doubled"=true) (k26:PySem.W.keepIn K (.ref f26)=true)
  (a27:PySem.W.nsIn K mainGlobals "_law_points"=some (some (.ref f27))) (l27:K.lookup f27=some ⟨oc27,od27,.func (PySem.W.fnOf "_law_points" "_law_points" (zZ zbu) (zV zbu) (zt zbu) .none kV27 dc27 pm27 an27 cd27 ct27),sl27⟩) (c27:PySem.W.codeIn K cd27 "_law_points"=true) (k27:PySem.W.keepIn K (.ref f27)=true)
  (a28:PySem.W.nsIn K mainGlobals "_law_due"=some (some (.ref f28))) (l28:K.lookup f28=some ⟨oc28,od28,.func (PySem.W.fnOf "_law_due" "_law_due" (zZ zch) (zV zch) (zt zch) .none kV28 dc28 pm28 an28 cd28 ct28),sl28⟩) (c28:PySem.W.codeIn K cd28 "_law_due"=true) (k28:PySem.W.keepIn K (.ref f28)=true)
  (a29:PySem.W.nsIn K mainGlobals "_law_told"=some (some (.ref f29))) (l29:K.lookup f29=some ⟨oc29,od29,.func (PySem.W.fnOf "_law_told" "_law_told" (zZ zbV) (zV zbV) (zt zbV) .none kV29 dc29 pm29 an29 cd29 ct29),sl29⟩) (c29:PySem.W.codeIn K cd29 "_law_told"=true) (k29:PySem.W.keepIn K (.ref f29)=true)
  (a30:PySem.W.nsIn K mainGlobals "law"=some (some (.ref f30))) (l30:K.lookup f30=some ⟨oc30,od30,.func (PySem.W.fnOf "law" "law" (zZ ze7) (zV ze7) (zt ze7) .none kV30 dc30 pm30 an30 cd30 ct30),sl30⟩) (c30:PySem.W.codeIn K cd30 "law"=true) (k30:PySem.W.keepIn K (.ref f30)=true)
  (z0:PySem.W.nsIn K mainGlobals "abs"=some none)
  (z1:PySem.W.nsIn K mainGlobals "enumerate"=some none)
  (z2:PySem.W.nsIn K mainGlobals "len"=some none)
  (z3:PySem.W.nsIn K mainGlobals "int"=some none)
  (z4:PySem.W.nsIn K mainGlobals "range"=some none)
  (z5:PySem.W.nsIn K mainGlobals "tuple"=some none)
  (z6:PySem.W.nsIn K mainGlobals "dict"=some none)
  (z7:PySem.W.nsIn K mainGlobals "zip"=some none)
  (z8:PySem.W.nsIn K mainGlobals "max"=some none)
  (z9:PySem.W.nsIn K mainGlobals "isinstance"=some none)
  (z10:PySem.W.nsIn K mainGlobals "ValueError"=some none)
  (z11:PySem.W.nsIn K mainGlobals "bool"=some none)
  (z12:PySem.W.nsIn K mainGlobals "list"=some none)
  (z13:PySem.W.nsIn K mainGlobals "repr"=some none)
  (xt0:zt2 K zbi xfl=true)
  (aXUndivideError:PySem.W.nsIn K mainGlobals "UndivideError"=some (some (.ref CUndivideError)))
  (aXBadText:PySem.W.nsIn K mainGlobals "BadText"=some (some (.ref CBadText)))
  (aXBadLetters:PySem.W.nsIn K mainGlobals "BadLetters"=some (some (.ref CBadLetters)))
  (aXBadRow:PySem.W.nsIn K mainGlobals "BadRow"=some (some (.ref CBadRow)))
  (aXNoOver:PySem.W.nsIn K mainGlobals "NoOver"=some (some (.ref CNoOver)))
  (kXNoOver:PySem.W.keepIn K (.ref CNoOver)=true)
  (iXNoOver:PySem.W.findIn K (.ref CNoOver) "__init__"=some (some (.ref fXNoOver)))
  (lXNoOver:K.lookup fXNoOver=some ⟨ocXNoOver,odXNoOver,.func (PySem.W.fnOf "__init__" "NoOver.__init__" (zZ zdu) (zV zdu) (zt zdu) .none kVXNoOver dcXNoOver pmXNoOver anXNoOver cdXNoOver ctXNoOver),slXNoOver⟩)
  (cXNoOver:PySem.W.codeIn K cdXNoOver "NoOver.__init__"=true)
  (kfXNoOver:PySem.W.keepIn K (.ref fXNoOver)=true)
  (fnXNoOver:PySem.W.isFn K (.ref fXNoOver)=true)
  (aXNoName:PySem.W.nsIn K mainGlobals "NoName"=some (some (.ref CNoName)))
  (aXNotWhole:PySem.W.nsIn K mainGlobals "NotWhole"=some (some (.ref CNotWhole)))
  (aXNotPolynomial:PySem.W.nsIn K mainGlobals "NotPolynomial"=some (some (.ref CNotPolynomial)))
  (xm0:zt7 K zbi "UndivideError"=true)
  (aTNOUGHT:PySem.W.nsIn K mainGlobals "NOUGHT"=some (some (.ref GNOUGHT)))
  (lTNOUGHT:K.lookup GNOUGHT=some ⟨.type "tuple",odTNOUGHT,.seq itTNOUGHT nTNOUGHT,slTNOUGHT⟩)
  (vTNOUGHT:zac [.int (0),.int (1)] itTNOUGHT.toList)
  (zTNOUGHT:itTNOUGHT.size<=sizeLine)
  : ∃ fd:FuncData,(∀ (s:Shared) (v:Value),BindsTo s fd ⟨[v],[]⟩ [("_law_script",v)])/\∀ base:Heap,K.In base->base.Ns mainGlobals mg->FnOk l.prog w K mg base CX0 7 fa fd ["_law_script"] (spV K 1 zhK):=by
 have e:=hfa.symm.trans (PySem.W.mg_of X G a30)
 cases e
 have hB:Bl mg ["abs", "enumerate", "len", "int", "range", "tuple", "dict", "zip", "max", "isinstance", "ValueError", "bool", "list", "repr"]:=Bl.cons (PySem.W.mg_none_of X G z0) (Bl.cons (PySem.W.mg_none_of X G z1) (Bl.cons (PySem.W.mg_none_of X G z2) (Bl.cons (PySem.W.mg_none_of X G z3) (Bl.cons (PySem.W.mg_none_of X G z4) (Bl.cons (PySem.W.mg_none_of X G z5) (Bl.cons (PySem.W.mg_none_of X G z6) (Bl.cons (PySem.W.mg_none_of X G z7) (Bl.cons (PySem.W.mg_none_of X G z8) (Bl.cons (PySem.W.mg_none_of X G z9) (Bl.cons (PySem.W.mg_none_of X G z10) (Bl.cons (PySem.W.mg_none_of X G z11) (Bl.cons (PySem.W.mg_none_of X G z12) (Bl.cons (PySem.W.mg_none_of X G z13) (Bl.nil))))))))))))))
 refine⟨PySem.W.fnOf "law" "law" (zZ ze7) (zV ze7) (zt ze7) .none kV30 dc30 pm30 an30 cd30 ct30,fun s v=>.of_eq rfl,fun base _ _=>?_⟩
 have hT:=zwS xt0
 have gXUndivideError:=PySem.W.mg_of X G aXUndivideError
 have gXBadText:=PySem.W.mg_of X G aXBadText
 have gXBadLetters:=PySem.W.mg_of X G aXBadLetters
 have gXBadRow:=PySem.W.mg_of X G aXBadRow
 have gXNoOver:=PySem.W.mg_of X G aXNoOver
 have FXNoOver:=zaE (st:=zdu) lXNoOver cXNoOver kfXNoOver
 have xXNoOver:XCal l.prog w K mg base "NoOver" CNoOver "at":=⟨aXNoOver,(hT.cl _ _ _ rfl aXNoOver).1.cl,(hT.cl _ _ _ rfl aXNoOver).2 _ (by decide),gXNoOver,kXNoOver,⟨_,_,iXNoOver,fnXNoOver,FXNoOver.binds (fun _ _ _ _ _ _ us hl=>by obtain⟨_,_,rfl⟩:=zcX hl; rfl),FXNoOver.ok (k:=0) zkD (fun vs H Q E h=>zqo h) fun cdv A outer s H vs Q E hr hsp=>⟨_,zkK (zpM (pv 0) (pv 1) rfl),zqp hsp⟩⟩⟩
 have gXNoName:=PySem.W.mg_of X G aXNoName
 have gXNotWhole:=PySem.W.mg_of X G aXNotWhole
 have gXNotPolynomial:=PySem.W.mg_of X G aXNotPolynomial
 have hM:=zwW xm0 aXUndivideError
 have g_NOUGHT:=PySem.W.mg_of X G aTNOUGHT
 have gt_NOUGHT:GTi K GNOUGHT [0,1]:=⟨_,itTNOUGHT,nTNOUGHT,lTNOUGHT,rfl,rfl,zTNOUGHT,vTNOUGHT⟩
 have F0:=zaE (st:=zbj) l0 c0 k0
 have C0:Cal l.prog w K mg base "common_factor" 1 ["one", "other"] (spV K 2 zX):=⟨⟨_,_,zft F0 hB  hT ,F0.binds (fun _ _ _ _ _ _ us hl=>by obtain⟨_,_,rfl⟩:=zcX hl; rfl),k0,PySem.W.mg_of X G a0⟩⟩
 have F1:=zaE (st:=zeo) l1 c1 k1
 have C1:Cal l.prog w K mg base "added" 2 ["one", "above", "beneath"] (spV K 3 zc2):=⟨⟨_,_,zov F1 hB  hT C0,F1.binds (fun _ _ _ _ _ _ us hl=>by obtain⟨_,_,_,rfl⟩:=zo4 hl; rfl),k1,PySem.W.mg_of X G a1⟩⟩
 have F2:=zaE (st:=zfq) l2 c2 k2
 have C2:Cal l.prog w K mg base "plus" 3 ["one", "other"] (spV K 2 zfv):=⟨⟨_,_,zrf F2 hB  hT C1,F2.binds (fun _ _ _ _ _ _ us hl=>by obtain⟨_,_,rfl⟩:=zcX hl; rfl),k2,PySem.W.mg_of X G a2⟩⟩
 have F3:=zaE (st:=zfr) l3 c3 k3
 have C3:Cal l.prog w K mg base "less" 3 ["one", "other"] (spV K 2 zfw):=⟨⟨_,_,zrg F3 hB  hT C1,F3.binds (fun _ _ _ _ _ _ us hl=>by obtain⟨_,_,rfl⟩:=zcX hl; rfl),k3,PySem.W.mg_of X G a3⟩⟩
 have F4:=zaE (st:=zep) l4 c4 k4
 have C4:Cal l.prog w K mg base "times" 2 ["one", "other"] (spV K 2 zcI):=⟨⟨_,_,zow F4 hB  hT C0,F4.binds (fun _ _ _ _ _ _ us hl=>by obtain⟨_,_,rfl⟩:=zcX hl; rfl),k4,PySem.W.mg_of X G a4⟩⟩
 have F5:=zaE (st:=zfs) l5 c5 k5
 have C5:Cal l.prog w K mg base "over" 3 ["one", "other"] (spV K 2 zfx):=⟨⟨_,_,zrh F5 hB  hT C4,F5.binds (fun _ _ _ _ _ _ us hl=>by obtain⟨_,_,rfl⟩:=zcX hl; rfl),k5,PySem.W.mg_of X G a5⟩⟩
 have F6:=zaE (st:=zbP) l6 c6 k6
 have C6:Cal l.prog w K mg base "made_value" 4 ["word", "one", "other"] (spV K 3 za8):=⟨⟨_,_,zha F6 hB  hT C2 C3 C4 C5,F6.binds (fun _ _ _ _ _ _ us hl=>by obtain⟨_,_,_,rfl⟩:=zo4 hl; rfl),k6,PySem.W.mg_of X G a6⟩⟩
 have F7:=zaE (st:=zhI) l7 c7 k7
 have C7:CalX l.prog w K mg base "run" 5 ["reckoning", "point"] (spX K 2 zhJ):=⟨⟨_,_,zu4 F7 hB  hT aXNoOver gXNoOver xXNoOver g_NOUGHT gt_NOUGHT C6,F7.binds (fun _ _ _ _ _ _ us hl=>by obtain⟨_,_,rfl⟩:=zcX hl; rfl),k7,PySem.W.mg_of X G a7⟩⟩
 have F8:=zaE (st:=zcg) l8 c8 k8
 have C8:Cal l.prog w K mg base "_law_box" 1 ["_law_script", "_law_k"] (spV K 2 zbM):=⟨⟨_,_,ziv F8 hB  hT ,F8.binds (fun _ _ _ _ _ _ us hl=>by obtain⟨_,_,rfl⟩:=zcX hl; rfl),k8,PySem.W.mg_of X G a8⟩⟩
 have F9:=zaE (st:=zbQ) l9 c9 k9
 have C9:Cal l.prog w K mg base "_law_take" 1 ["_law_box_here", "_law_wide"] (spV K 2 zk):=⟨⟨_,_,zg8 F9 hB  hT ,F9.binds (fun _ _ _ _ _ _ us hl=>by obtain⟨_,_,rfl⟩:=zcX hl; rfl),k9,PySem.W.mg_of X G a9⟩⟩
 have F10:=zaE (st:=zby) l10 c10 k10
 have C10:Cal l.prog w K mg base "_law_names" 2 ["_law_box_here", "_law_many"] (spV K 2 zbo):=⟨⟨_,_,zgK F10 hB  hT C9,F10.binds (fun _ _ _ _ _ _ us hl=>by obtain⟨_,_,rfl⟩:=zcX hl; rfl),k10,PySem.W.mg_of X G a10⟩⟩
 have F11:=zaE (st:=zbd) l11 c11 k11
 have C11:Cal l.prog w K mg base "_law_fraction" 1 ["_law_n", "_law_d"] (spV K 2 zz):=⟨⟨_,_,ze8 F11 hB  hT ,F11.binds (fun _ _ _ _ _ _ us hl=>by obtain⟨_,_,rfl⟩:=zcX hl; rfl),k11,PySem.W.mg_of X G a11⟩⟩
 have F12:=zaE (st:=zbR) l12 c12 k12
 have C12:Cal l.prog w K mg base "_law_plus" 2 ["_law_one", "_law_other"] (spV K 2 zbn):=⟨⟨_,_,zg9 F12 hB  hT C11,F12.binds (fun _ _ _ _ _ _ us hl=>by obtain⟨_,_,rfl⟩:=zcX hl; rfl),k12,PySem.W.mg_of X G a12⟩⟩
 have F13:=zaE (st:=zbz) l13 c13 k13
 have C13:Cal l.prog w K mg base "_law_times" 2 ["_law_one", "_law_other"] (spV K 2 zbC):=⟨⟨_,_,zgL F13 hB  hT C11,F13.binds (fun _ _ _ _ _ _ us hl=>by obtain⟨_,_,rfl⟩:=zcX hl; rfl),k13,PySem.W.mg_of X G a13⟩⟩
 have F14:=zaE (st:=zbe) l14 c14 k14
 have C14:Cal l.prog w K mg base "_law_poly_add" 3 ["_law_one", "_law_other", "_law_sign"] (spV K 3 zar):=⟨⟨_,_,ze9 F14 hB  hT C12,F14.binds (fun _ _ _ _ _ _ us hl=>by obtain⟨_,_,_,rfl⟩:=zo4 hl; rfl),k14,PySem.W.mg_of X G a14⟩⟩
 have F15:=zaE (st:=za0) l15 c15 k15
 have C15:Cal l.prog w K mg base "_law_poly_mult" 3 ["_law_one", "_law_other"] (spV K 2 zu):=⟨⟨_,_,zeG F15 hB  hT C12 C13,F15.binds (fun _ _ _ _ _ _ us hl=>by obtain⟨_,_,rfl⟩:=zcX hl; rfl),k15,PySem.W.mg_of X G a15⟩⟩
 have F16:=zaE (st:=zaQ) l16 c16 k16
 have C16:Cal l.prog w K mg base "_law_poly_number" 1 ["_law_many", "_law_f"] (spV K 2 zaA):=⟨⟨_,_,zeb F16 hB  hT ,F16.binds (fun _ _ _ _ _ _ us hl=>by obtain⟨_,_,rfl⟩:=zcX hl; rfl),k16,PySem.W.mg_of X G a16⟩⟩
 have F17:=zaE (st:=zaR) l17 c17 k17
 have C17:Cal l.prog w K mg base "_law_poly_letter" 1 ["_law_many", "_law_k"] (spV K 2 zaB):=⟨⟨_,_,zec F17 hB  hT ,F17.binds (fun _ _ _ _ _ _ us hl=>by obtain⟨_,_,rfl⟩:=zcX hl; rfl),k17,PySem.W.mg_of X G a17⟩⟩
 have F18:=zaE (st:=zbs) l18 c18 k18
 have C18:Cal l.prog w K mg base "_law_number" 2 ["_law_box_here"] (spV K 1 zao):=⟨⟨_,_,zfN F18 hB  hT C9 C11,F18.binds (fun _ _ _ _ _ _ us hl=>by obtain⟨_,rfl⟩:=zxE hl; rfl),k18,PySem.W.mg_of X G a18⟩⟩
 have F19:=zaE (st:=zbA) l19 c19 k19
 have C19:Cal l.prog w K mg base "_law_small" 2 ["_law_box_here"] (spV K 1 zaF):=⟨⟨_,_,zgM F19 hB  hT C9 C11,F19.binds (fun _ _ _ _ _ _ us hl=>by obtain⟨_,rfl⟩:=zxE hl; rfl),k19,PySem.W.mg_of X G a19⟩⟩
 have F20:=zaE (st:=zbB) l20 c20 k20
 have C20:Cal l.prog w K mg base "_law_point" 3 ["_law_box_here", "_law_many"] (spV K 2 zbD):=⟨⟨_,_,zgN F20 hB  hT C19,F20.binds (fun _ _ _ _ _ _ us hl=>by obtain⟨_,_,rfl⟩:=zcX hl; rfl),k20,PySem.W.mg_of X G a20⟩⟩
 have F21:=zaE (st:=zbt) l21 c21 k21
 have C21:Cal l.prog w K mg base "_law_weight" 1 ["_law_row", "_law_heavy"] (spV K 2 zI):=⟨⟨_,_,zfM F21 hB  hT ,F21.binds (fun _ _ _ _ _ _ us hl=>by obtain⟨_,_,rfl⟩:=zcX hl; rfl),k21,PySem.W.mg_of X G a21⟩⟩
 have F22:=zaE (st:=zbS) l22 c22 k22
 have C22:Cal l.prog w K mg base "_law_pair" 4 ["_law_row", "_law_pairs", "_law_many"] (spV K 3 zat):=⟨⟨_,_,zhb F22 hB  hT C14 C15 C16 C17,F22.binds (fun _ _ _ _ _ _ us hl=>by obtain⟨_,_,_,rfl⟩:=zo4 hl; rfl),k22,PySem.W.mg_of X G a22⟩⟩
 have F23:=zaE (st:=za1) l23 c23 k23
 have C23:Cal l.prog w K mg base "_law_drawn_row" 3 ["_law_box_here", "_law_rows_here", "_law_many", "_law_kind"] (spV K 4 zaP):=⟨⟨_,_,zeH F23 hB  hT C9 C18,F23.binds (fun _ _ _ _ _ _ us hl=>by obtain⟨_,_,_,_,rfl⟩:=zyo hl; rfl),k23,PySem.W.mg_of X G a23⟩⟩
 have F24:=zaE (st:=za2) l24 c24 k24
 have C24:Cal l.prog w K mg base "_law_reckoning" 5 ["_law_box_here", "_law_letters", "_law_most", "_law_weight_here", "_law_kind"] (spV K 5 zaD):=⟨⟨_,_,zeI F24 hB  hT C9 C18 C21 C22 C23,F24.binds (fun _ _ _ _ _ _ us hl=>by obtain⟨_,_,_,_,_,rfl⟩:=zyp hl; rfl),k24,PySem.W.mg_of X G a24⟩⟩
 have F25:=zaE (st:=zbT) l25 c25 k25
 have C25:Cal l.prog w K mg base "_law_rows" 6 ["_law_box_here", "_law_letters"] (spV K 2 zbv):=⟨⟨_,_,zhc F25 hB  hT C9 C19 C21 C24,F25.binds (fun _ _ _ _ _ _ us hl=>by obtain⟨_,_,rfl⟩:=zcX hl; rfl),k25,PySem.W.mg_of X G a25⟩⟩
 have F26:=zaE (st:=zbk) l26 c26 k26
 have C26:Cal l.prog w K mg base "_law_doubled" 2 ["_law_letters", "_law_box_here", "_law_most"] (spV K 3 za4):=⟨⟨_,_,zfu F26 hB  hT C9,F26.binds (fun _ _ _ _ _ _ us hl=>by obtain⟨_,_,_,rfl⟩:=zo4 hl; rfl),k26,PySem.W.mg_of X G a26⟩⟩
 have F27:=zaE (st:=zbu) l27 c27 k27
 have C27:Cal l.prog w K mg base "_law_points" 4 ["_law_box_here", "_law_many"] (spV K 2 zbf):=⟨⟨_,_,zfO F27 hB  hT C9 C11 C20,F27.binds (fun _ _ _ _ _ _ us hl=>by obtain⟨_,_,rfl⟩:=zcX hl; rfl),k27,PySem.W.mg_of X G a27⟩⟩
 have F28:=zaE (st:=zch) l28 c28 k28
 have C28:Cal l.prog w K mg base "_law_due" 2 ["_law_rows_here", "_law_point_here"] (spV K 2 zaV):=⟨⟨_,_,ziy F28 hB  hT C11,F28.binds (fun _ _ _ _ _ _ us hl=>by obtain⟨_,_,rfl⟩:=zcX hl; rfl),k28,PySem.W.mg_of X G a28⟩⟩
 have F29:=zaE (st:=zbV) l29 c29 k29
 have C29:Cal l.prog w K mg base "_law_told" 6 ["_law_reckoning_here", "_law_point_here"] (spV K 2 zaT):=⟨⟨_,_,zhd F29 hB  hT aXUndivideError gXUndivideError aXBadText gXBadText aXBadLetters gXBadLetters aXBadRow gXBadRow aXNoOver gXNoOver aXNoName gXNoName aXNotWhole gXNotWhole aXNotPolynomial gXNotPolynomial hM C7,F29.binds (fun _ _ _ _ _ _ us hl=>by obtain⟨_,_,rfl⟩:=zcX hl; rfl),k29,PySem.W.mg_of X G a29⟩⟩
 have F30:=zaE (st:=ze7) l30 c30 k30
 exact zu5 F30 hB  hT C8 C9 C10 C25 C26 C27 C28 C29
theorem walk{l:PySem.W.OpenLaw}{q:Program}{loose:List Str}{XP:(Str->Option Value)->Heap->Prop}{YP:World->Heap->Prop}{d:DefRec}{K:Params->PySem.W.Frag}(hn:l.most=some 63)(hdf:d.params.defaults=[])
  (hY:∀ (w:World) (h:Heap),YP w h->(K w.params).In h)
  (F:∀ (w:World) (mg:Str->Option Value) (fa:Addr) (h:Heap),(K w.params).In h->h.Ns mainGlobals mg->mg d.name=some (.ref fa) ->
   ∃ fd:FuncData,(∀ (s:Shared) (u:Value),BindsTo s fd ⟨[u],[]⟩ [("_law_script",u)])/\∀ base:Heap,(K w.params).In base->base.Ns mainGlobals mg->FnOk l.prog w (K w.params) mg base CX0 7 fa fd ["_law_script"] (zo3 (K w.params))) :
  PySem.W.WalkO q loose XP YP l.row.toRowW d [] (fun f vs=>PySem.call f vs) :=
 L2.walk_of (n:=63) (k:=7) (x := "_law_script") (CX:=fun _=>CX0) (sp:=fun w=>zo3 (K w.params)) hn (by decide) hdf ⟨rfl,by decide,by decide,rfl⟩ hY F (fun w H a ns hl hO hS=>ztt hO hS (zvu ns hl)) fun _ _ _ _ _ z=>z
end K10
def PySem.W.Fast.tw14425928064990708523:Unit:=()
def PySem.W.Fast.tw18389761026928101575:Unit:=()
def PySem.W.Fast.tw14362758835884199971:Unit:=()
def PySem.W.Fast.tw1000447087277468954:Unit:=()
def PySem.W.Fast.tw5977828081234268591:Unit:=()
def PySem.W.Fast.tw8953960105980594629:Unit:=()
def PySem.W.Fast.tw55124476090195103:Unit:=()
def PySem.W.Fast.tw2367631102304266245:Unit:=()
def PySem.W.Fast.tw14746637730308682817:Unit:=()
def PySem.W.Fast.tw6185655990775754560:Unit:=()
def PySem.W.Fast.tw17486879211603124550:Unit:=()
def PySem.W.Fast.tw11233249822611794326:Unit:=()
def PySem.W.Fast.tw9313599774763744123:Unit:=()
def PySem.W.Fast.tw16884045313147220680:Unit:=()
def PySem.W.Fast.tw16632574261703117078:Unit:=()
def PySem.W.Fast.tw17195929811343478741:Unit:=()
def PySem.W.Fast.tw4213765510555124180:Unit:=()
def PySem.W.Fast.tw14625396730346163662:Unit:=()
def PySem.W.Fast.tw5704053192288140481:Unit:=()
def PySem.W.Fast.tw7321553295857748962:Unit:=()
def PySem.W.Fast.tw17645828362518159068:Unit:=()
def PySem.W.Fast.tw2744516538772819013:Unit:=()
def PySem.W.Fast.tw7968752080795184576:Unit:=()
def PySem.W.Fast.tw385702751895787296:Unit:=()
def PySem.W.Fast.tw1636275537725381048:Unit:=()
def PySem.W.Fast.tw9471348664534531494:Unit:=()
def PySem.W.Fast.tw3800705522764416508:Unit:=()
def PySem.W.Fast.tw4370409534534060125:Unit:=()
def PySem.W.Fast.tw1243369102344963227:Unit:=()
def PySem.W.Fast.tw223134167850659604:Unit:=()
def PySem.W.Fast.tw7681646961912652213:Unit:=()
def PySem.W.Fast.tw14096673663140946730:Unit:=()
def PySem.W.Fast.tw10109074363042341685:Unit:=()
def PySem.W.Fast.tw3346808191616045974:Unit:=()
def PySem.W.Fast.tw17184341383309874545:Unit:=()
def PySem.W.Fast.tw167631624802926465:Unit:=()
def PySem.W.Fast.tw15684075185350064776:Unit:=()
def PySem.W.Fast.tw1718949808639602977:Unit:=()
def PySem.W.Fast.tw14442520963397861355:Unit:=()
def PySem.W.Fast.tw10676272416919566513:Unit:=()
def PySem.W.Fast.tw1701938216576953973:Unit:=()
def PySem.W.Fast.tw12820889240643168584:Unit:=()
def PySem.W.Fast.tw3071970681861274221:Unit:=()
def PySem.W.Fast.tw13073861011493688381:Unit:=()
def PySem.W.Fast.tw15073608472889323759:Unit:=()
def PySem.W.Fast.tw12728500712706499118:Unit:=()
def PySem.W.Fast.tw12061901873150270519:Unit:=()
def PySem.W.Fast.tw6399884308190387397:Unit:=()
def PySem.W.Fast.tw17337963847166910588:Unit:=()
def PySem.W.Fast.tw6148365074058490570:Unit:=()
def PySem.W.Fast.tw3186277121799469260:Unit:=()
def PySem.W.Fast.tw10756722849492532837:Unit:=()
def PySem.W.Fast.tw13301437064930387121:Unit:=()
def PySem.W.Fast.tw15244457404962672238:Unit:=()
def PySem.W.Fast.tw693782309875308943:Unit:=()
def PySem.W.Fast.tw12172619058671200542:Unit:=()
def PySem.W.Fast.tw12613569235476964796:Unit:=()
def PySem.W.Fast.tw344471196525872972:Unit:=()
def PySem.W.Fast.tw1494823051726972444:Unit:=()
def PySem.W.Fast.tw8623305670125993694:Unit:=()
def PySem.W.Fast.tw9957569769359270122:Unit:=()
def PySem.W.Fast.tw1886157019739667033:Unit:=()
def PySem.W.Fast.tw514706709803238772:Unit:=()
def PySem.W.Fast.tw4317904938133772738:Unit:=()
def PySem.W.Fast.tw13650102432745373469:Unit:=()
def PySem.W.Fast.tw7451522375811889101:Unit:=()
def PySem.W.Fast.tw698943074211684804:Unit:=()
def PySem.W.Fast.tw12282220845424192573:Unit:=()
def PySem.W.Fast.tw7625150811248456861:Unit:=()
def PySem.W.Fast.tw11175309556428779805:Unit:=()
def PySem.W.Fast.tw13449707512223830161:Unit:=()
def PySem.W.Fast.tw480062416639626935:Unit:=()
def PySem.W.Fast.tw9308009135269952205:Unit:=()
def PySem.W.Fast.tw4837811002902312953:Unit:=()
def PySem.W.Fast.tw14342853290818160077:Unit:=()
def PySem.W.Fast.tw17138749367213305259:Unit:=()
def PySem.W.Fast.tw17515543150408649559:Unit:=()
def PySem.W.Fast.tw3644868644029665148:Unit:=()
def PySem.W.Fast.tw14488023173355022790:Unit:=()
def PySem.W.Fast.tw12843304667663847861:Unit:=()
def PySem.W.Fast.tw3898196282175819010:Unit:=()
def PySem.W.Fast.tw17181496132967505323:Unit:=()
def PySem.W.Fast.tw10373211660635479035:Unit:=()
def PySem.W.Fast.tw5065493909812366743:Unit:=()
def PySem.W.Fast.tw9277829176680770805:Unit:=()
def PySem.W.Fast.tw18438159526187146725:Unit:=()
def PySem.W.Fast.tw5874453974861654884:Unit:=()
def PySem.W.Fast.tw15738701376548304643:Unit:=()
def PySem.W.Fast.tw13875649284561801822:Unit:=()
def PySem.W.Fast.tw6096982447252734125:Unit:=()
def PySem.W.Fast.tw17034753142242373051:Unit:=()
def PySem.W.Fast.tw412454532236514034:Unit:=()
def PySem.W.Fast.tw8475260999122782869:Unit:=()
def PySem.W.Fast.tw8040782870410355514:Unit:=()
def PySem.W.Fast.tw16189464669614955697:Unit:=()
def PySem.W.Fast.tw1583797260150201938:Unit:=()
def PySem.W.Fast.tw5534187353228046712:Unit:=()
def PySem.W.Fast.tw12550095218917961757:Unit:=()
def PySem.W.Fast.tw10754121497356844179:Unit:=()
def PySem.W.Fast.tw15059497809081577564:Unit:=()
def PySem.W.Fast.tw12418933231354537700:Unit:=()
def PySem.W.Fast.tw11279386300927170183:Unit:=()
def PySem.W.Fast.tw16905838315111866525:Unit:=()
def PySem.W.Fast.tw1985469521758684588:Unit:=()
def PySem.W.Fast.tw12672700085650107673:Unit:=()
def PySem.W.Fast.tw4366197306727688369:Unit:=()
def PySem.W.Fast.tw16538491725397740913:Unit:=()
def PySem.W.Fast.tw467766188628297231:Unit:=()
def PySem.W.Fast.tw11659587129691940463:Unit:=()
def PySem.W.Fast.tw16264375093905696068:Unit:=()
def PySem.W.Fast.tw16402037165592712390:Unit:=()
def PySem.W.Fast.tw5143221375359601201:Unit:=()
def PySem.W.Fast.tw12432710444316766675:Unit:=()
def PySem.W.Fast.tw13266810332016939522:Unit:=()
def PySem.W.Fast.tw8511822612017685683:Unit:=()
def PySem.W.Fast.tw10042006416114653245:Unit:=()
def PySem.W.Fast.tw8864319752134194312:Unit:=()
def PySem.W.Fast.tw5463473438516379525:Unit:=()
def PySem.W.Fast.tw9875397071174411283:Unit:=()
def PySem.W.Fast.tw1439103006016539430:Unit:=()
def PySem.W.Fast.tw17509356757092559809:Unit:=()
def PySem.W.Fast.tw17262015115849493131:Unit:=()
def PySem.W.Fast.tw15867705215577869484:Unit:=()
def PySem.W.Fast.tw12255367115702364453:Unit:=()
def PySem.W.Fast.tw16470209759810988264:Unit:=()
def PySem.W.Fast.tw8758635656810381532:Unit:=()
def PySem.W.Fast.tw5693960564493784489:Unit:=()
def PySem.W.Fast.tw13492099309626941675:Unit:=()
def PySem.W.Fast.tw201330964165611194:Unit:=()
def PySem.W.Fast.tw1197410290466306367:Unit:=()
def PySem.W.Fast.tw10261267547770252053:Unit:=()
def PySem.W.Fast.tw11218594272254089132:Unit:=()
def PySem.W.Fast.tw5180322224884360803:Unit:=()
def PySem.W.Fast.tw14553150953850784448:Unit:=()
def PySem.W.Fast.tw5760536984080786648:Unit:=()
def PySem.W.Fast.tw12759051130721567679:Unit:=()
def PySem.W.Fast.tw5766359283013637662:Unit:=()
def PySem.W.Fast.tw14337711622918041776:Unit:=()
def PySem.W.Fast.tw17114413173918087220:Unit:=()
def PySem.W.Fast.tw17132233549725861211:Unit:=()
def PySem.W.Fast.tw7004414403171953907:Unit:=()
def PySem.W.Fast.tw1378186936170232010:Unit:=()
def PySem.W.Fast.tw12371563599876395792:Unit:=()
def PySem.W.Fast.tw3269492620763539846:Unit:=()
def PySem.W.Fast.tw11066940559119893919:Unit:=()
def PySem.W.Fast.tw1219750613400083896:Unit:=()
def PySem.W.Fast.tw7623771066073153021:Unit:=()
def PySem.W.Fast.tw12415857645383968063:Unit:=()
def PySem.W.Fast.tw15301511446097273188:Unit:=()
def PySem.W.Fast.tw13639660915555612966:Unit:=()
def PySem.W.Fast.tw8383341878138272444:Unit:=()
def PySem.W.Fast.tw7655177851977124188:Unit:=()
def PySem.W.Fast.tw9233796663611818694:Unit:=()
def PySem.W.Fast.tw18410734971953574186:Unit:=()
def PySem.W.Fast.tw18237308359371285705:Unit:=()
def PySem.W.Fast.tw657419613063961499:Unit:=()
def PySem.W.Fast.tw14697797587805038117:Unit:=()
def PySem.W.Fast.tw7362537226682036082:Unit:=()
def PySem.W.Fast.tw11799262310458947007:Unit:=()
def PySem.W.Fast.tw1900646483652920268:Unit:=()
def PySem.W.Fast.tw14136728828860785529:Unit:=()
def PySem.W.Fast.tw7048500727484222221:Unit:=()
def PySem.W.Fast.tw7709471895410834780:Unit:=()
def PySem.W.Fast.tw388690116675043521:Unit:=()
def PySem.W.Fast.tw4816194934109505976:Unit:=()
def PySem.W.Fast.tw10688482026971817696:Unit:=()
def PySem.W.Fast.tw7166749933107560003:Unit:=()
def PySem.W.Fast.tw9071887805569182395:Unit:=()
def PySem.W.Fast.tw2912512909536165026:Unit:=()
def PySem.W.Fast.tw18157167356449600996:Unit:=()
def PySem.W.Fast.tw8456068510244266956:Unit:=()
def PySem.W.Fast.tw6574129481257844285:Unit:=()
def PySem.W.Fast.tw5755405096147356559:Unit:=()
def PySem.W.Fast.tw14806901813788193396:Unit:=()
def PySem.W.Fast.tw17695160917377652995:Unit:=()
def PySem.W.Fast.tw14948433801297054850:Unit:=()
def PySem.W.Fast.tw17697687593374712942:Unit:=()
def PySem.W.Fast.tw17375757017319512679:Unit:=()
def PySem.W.Fast.tw10944581280172227677:Unit:=()
def PySem.W.Fast.tw10245710269124205458:Unit:=()
def PySem.W.Fast.tw475571224444191216:Unit:=()
def PySem.W.Fast.tw4394438996496838402:Unit:=()
def PySem.W.Fast.tw16430181130998387723:Unit:=()
def PySem.W.Fast.tw7700859688990981625:Unit:=()
def PySem.W.Fast.tw17691443956042909250:Unit:=()
def PySem.W.Fast.tw11686547241700320009:Unit:=()
def PySem.W.Fast.tw9404848905001849795:Unit:=()
def PySem.W.Fast.tw583092577467389391:Unit:=()
def PySem.W.Fast.tw1872170622396239228:Unit:=()
def PySem.W.Fast.tw4757961534680406392:Unit:=()
def PySem.W.Fast.tw9413644256287412478:Unit:=()
def PySem.W.Fast.tw9135834376069980949:Unit:=()
def PySem.W.Fast.tw14173047458651194417:Unit:=()
def PySem.W.Fast.tw333459038447507720:Unit:=()
def PySem.W.Fast.tw9815507051225213174:Unit:=()
def PySem.W.Fast.tw6929061551082534269:Unit:=()
def PySem.W.Fast.tw16717290622014640591:Unit:=()
def PySem.W.Fast.tw3504920637240009315:Unit:=()
def PySem.W.Fast.tw15199263103409086808:Unit:=()
def PySem.W.Fast.tw8190445768263185451:Unit:=()
def PySem.W.Fast.tw10135268438811597542:Unit:=()
def PySem.W.Fast.tw15940800915670930484:Unit:=()
def PySem.W.Fast.tw16324149527705441666:Unit:=()
def PySem.W.Fast.tw3239623131271360035:Unit:=()
def PySem.W.Fast.tw1498239649048031953:Unit:=()
def PySem.W.Fast.tw626599297575405669:Unit:=()
def PySem.W.Fast.tw10005444538016270343:Unit:=()
def PySem.W.Fast.tw16763084942278365548:Unit:=()
def PySem.W.Fast.tw17370423901402634354:Unit:=()
def PySem.W.Fast.tw13312311451546078296:Unit:=()
def PySem.W.Fast.tw15613138513433882691:Unit:=()
def PySem.W.Fast.tw10387968649139953048:Unit:=()
def PySem.W.Fast.tw9296225684833162655:Unit:=()
def PySem.W.Fast.tw5115726802287865391:Unit:=()
def PySem.W.Fast.tw17011102320594249142:Unit:=()
def PySem.W.Fast.tw5843359329144466960:Unit:=()
def PySem.W.Fast.tw10487604763801528173:Unit:=()
def PySem.W.Fast.tw13636854784534686762:Unit:=()
def PySem.W.Fast.tw10308823282842573794:Unit:=()
def PySem.W.Fast.tw1754999413086720771:Unit:=()
def PySem.W.Fast.tw26767119397312197:Unit:=()
def PySem.W.Fast.tw14503687760217941981:Unit:=()
def PySem.W.Fast.tw2889696069267957637:Unit:=()
def PySem.W.Fast.tw1758497538196152058:Unit:=()
def PySem.W.Fast.tw11784418715634396651:Unit:=()
def PySem.W.Fast.tw12499011387676770360:Unit:=()
def PySem.W.Fast.tw2616910249435669620:Unit:=()
def PySem.W.Fast.tw10204117572663403132:Unit:=()
def PySem.W.Fast.tw12929685115875501940:Unit:=()
def PySem.W.Fast.tw9777106989413101210:Unit:=()
def PySem.W.Fast.tw17414025981235104469:Unit:=()
def PySem.W.Fast.tw9129102056296047090:Unit:=()
def PySem.W.Fast.tw3192248047791550739:Unit:=()
open PySem PySem.W PyProof.Rows
set_option maxRecDepth 100000 in
set_option maxHeartbeats 0 in
theorem PySem.Challenge.cw_undivide_k10_run_at_points_holds : PySem.Challenge.rw_undivide_k10_run_at_points.Holds := by
 w_on; o_law; k_head; (case hw=>w_witness2)
 k_fill
 refine K10.walk (l:=PySem.Challenge.rw_undivide_k10_run_at_points) rfl rfl (fun w h Y=>PySem.W.kIn_of Y) ?F
 case F =>
  intro w mg fa h KX G hmg
  refine' K10.all_mk KX G hmg ?a0 ?l0 ?c0 ?k0 ?a1 ?l1 ?c1 ?k1 ?a2 ?l2 ?c2 ?k2 ?a3 ?l3 ?c3 ?k3 ?a4 ?l4 ?c4 ?k4 ?a5 ?l5 ?c5 ?k5 ?a6 ?l6 ?c6 ?k6 ?a7 ?l7 ?c7 ?k7 ?a8 ?l8 ?c8 ?k8 ?a9 ?l9 ?c9 ?k9 ?a10 ?l10 ?c10 ?k10 ?a11 ?l11 ?c11 ?k11 ?a12 ?l12 ?c12 ?k12 ?a13 ?l13 ?c13 ?k13 ?a14 ?l14 ?c14 ?k14 ?a15 ?l15 ?c15 ?k15 ?a16 ?l16 ?c16 ?k16 ?a17 ?l17 ?c17 ?k17 ?a18 ?l18 ?c18 ?k18 ?a19 ?l19 ?c19 ?k19 ?a20 ?l20 ?c20 ?k20 ?a21 ?l21 ?c21 ?k21 ?a22 ?l22 ?c22 ?k22 ?a23 ?l23 ?c23 ?k23 ?a24 ?l24 ?c24 ?k24 ?a25 ?l25 ?c25 ?k25 ?a26 ?l26 ?c26 ?k26 ?a27 ?l27 ?c27 ?k27 ?a28 ?l28 ?c28 ?k28 ?a29 ?l29 ?c29 ?k29 ?a30 ?l30 ?c30 ?k30 ?z0 ?z1 ?z2 ?z3 ?z4 ?z5 ?z6 ?z7 ?z8 ?z9 ?z10 ?z11 ?z12 ?z13 ?xt0 ?aXUndivideError ?aXBadText ?aXBadLetters ?aXBadRow ?aXNoOver ?kXNoOver ?iXNoOver ?lXNoOver ?cXNoOver ?kfXNoOver ?fnXNoOver ?aXNoName ?aXNotWhole ?aXNotPolynomial ?xm0 ?aTNOUGHT ?lTNOUGHT ?vTNOUGHT ?zTNOUGHT
  (case a0=>k_is)
  (case l0=>k_is)
  (case c0=>k_is)
  (case k0=>k_is)
  (case a1=>k_is)
  (case l1=>k_is)
  (case c1=>k_is)
  (case k1=>k_is)
  (case a2=>k_is)
  (case l2=>k_is)
  (case c2=>k_is)
  (case k2=>k_is)
  (case a3=>k_is)
  (case l3=>k_is)
  (case c3=>k_is)
  (case k3=>k_is)
  (case a4=>k_is)
  (case l4=>k_is)
  (case c4=>k_is)
  (case k4=>k_is)
  (case a5=>k_is)
  (case l5=>k_is)
  (case c5=>k_is)
  (case k5=>k_is)
  (case a6=>k_is)
  (case l6=>k_is)
  (case c6=>k_is)
  (case k6=>k_is)
  (case a7=>k_is)
  (case l7=>k_is)
  (case c7=>k_is)
  (case k7=>k_is)
  (case a8=>k_is)
  (case l8=>k_is)
  (case c8=>k_is)
  (case k8=>k_is)
  (case a9=>k_is)
  (case l9=>k_is)
  (case c9=>k_is)
  (case k9=>k_is)
  (case a10=>k_is)
  (case l10=>k_is)
  (case c10=>k_is)
  (case k10=>k_is)
  (case a11=>k_is)
  (case l11=>k_is)
  (case c11=>k_is)
  (case k11=>k_is)
  (case a12=>k_is)
  (case l12=>k_is)
  (case c12=>k_is)
  (case k12=>k_is)
  (case a13=>k_is)
  (case l13=>k_is)
  (case c13=>k_is)
  (case k13=>k_is)
  (case a14=>k_is)
  (case l14=>k_is)
  (case c14=>k_is)
  (case k14=>k_is)
  (case a15=>k_is)
  (case l15=>k_is)
  (case c15=>k_is)
  (case k15=>k_is)
  (case a16=>k_is)
  (case l16=>k_is)
  (case c16=>k_is)
  (case k16=>k_is)
  (case a17=>k_is)
  (case l17=>k_is)
  (case c17=>k_is)
  (case k17=>k_is)
  (case a18=>k_is)
  (case l18=>k_is)
  (case c18=>k_is)
  (case k18=>k_is)
  (case a19=>k_is)
  (case l19=>k_is)
  (case c19=>k_is)
  (case k19=>k_is)
  (case a20=>k_is)
  (case l20=>k_is)
  (case c20=>k_is)
  (case k20=>k_is)
  (case a21=>k_is)
  (case l21=>k_is)
  (case c21=>k_is)
  (case k21=>k_is)
  (case a22=>k_is)
  (case l22=>k_is)
  (case c22=>k_is)
  (case k22=>k_is)
  (case a23=>k_is)
  (case l23=>k_is)
  (case c23=>k_is)
  (case k23=>k_is)
  (case a24=>k_is)
  (case l24=>k_is)
  (case c24=>k_is)
  (case k24=>k_is)
  (case a25=>k_is)
  (case l25=>k_is)
  (case c25=>k_is)
  (case k25=>k_is)
  (case a26=>k_is)
  (case l26=>k_is)
  (case c26=>k_is)
  (case k26=>k_is)
  (case a27=>k_is)
  (case l27=>k_is)
  (case c27=>k_is)
  (case k27=>k_is)
  (case a28=>k_is)
  (case l28=>k_is)
  (case c28=>k_is)
  (case k28=>k_is)
  (case a29=>k_is)
  (case l29=>k_is)
  (case c29=>k_is)
  (case k29=>k_is)
  (case a30=>k_is)
  (case l30=>k_is)
  (case c30=>k_is)
  (case k30=>k_is)
  (case z0=>k_is)
  (case z1=>k_is)
  (case z2=>k_is)
  (case z3=>k_is)
  (case z4=>k_is)
  (case z5=>k_is)
  (case z6=>k_is)
  (case z7=>k_is)
  (case z8=>k_is)
  (case z9=>k_is)
  (case z10=>k_is)
  (case z11=>k_is)
  (case z12=>k_is)
  (case z13=>k_is)
  (case xt0=>kernel_rfl)
  (case aXUndivideError=>k_is)
  (case aXBadText=>k_is)
  (case aXBadLetters=>k_is)
  (case aXBadRow=>k_is)
  (case aXNoOver=>k_is)
  (case kXNoOver=>k_is)
  (case iXNoOver=>k_is)
  (case lXNoOver=>k_is)
  (case cXNoOver=>k_is)
  (case kfXNoOver=>k_is)
  (case fnXNoOver=>k_is)
  (case aXNoName=>k_is)
  (case aXNotWhole=>k_is)
  (case aXNotPolynomial=>k_is)
  (case xm0=>kernel_rfl)
  (case aTNOUGHT=>k_is)
  (case lTNOUGHT=>k_is)
  (case vTNOUGHT=>(repeat (first | exact .nil | refine .cons ⟨_,rfl⟩ ?_)))
  (case zTNOUGHT=>exact by decide)
