import PyProof.Rows.All
import Wide.All
import OpenK.AllK
import Wide.FinOn
import Lean
import PyProof.EqAt
import PyProof.EqKinds
import PyProof.TupleCall
import PySem.Challenge.RW_undivide_k31_nets_looked_at
set_option Elab.async false
set_option linter.all false
set_option maxRecDepth 100000
namespace L2
open PySem PySem.Spec PyProof.Rows
abbrev Key:=Sum Int Str
def zfl:Key->Value->Bool
 | .inl k,v=>Value.isInt k v
 | .inr x,v=>Value.isStrOf x v
def zvt(w:World):Key->Int
 | .inl k=>hashInt k
 | .inr x=>hashStr w x
theorem za8:∀ {k:Key} {v:Value},zfl k v=true->(∃ i t,k=Sum.inl i/\v=Value.int i t)\/(∃ x t,k=Sum.inr x/\v=Value.str x t)
 | .inl i,v,h=>by
  obtain⟨t,e⟩:=Value.isInt_shape (k:=i) (v:=v) h
  exact .inl ⟨i,t,rfl,e⟩
 | .inr x,v,h=>by
  obtain⟨t,e⟩:=Value.isStrOf_shape (x:=x) (v:=v) h
  exact .inr ⟨x,t,rfl,e⟩
theorem zkA(i:Int)(t:Tok):zfl (.inl i) (.int i t)=true:=by simp [zfl,Value.isInt]
theorem zkB(x:Str)(t:Tok):zfl (.inr x) (.str x t)=true:=by simp [zfl,Value.isStrOf]
theorem zqk(a b:Int):decide ((Sum.inl a:Key)=Sum.inl b)=(a==b):=by
 by_cases e:a=b
 ·subst e; simp
 ·have h:¬(Sum.inl a:Key)=Sum.inl b:=fun q=>e (Sum.inl.inj q)
  rw [decide_eq_false h]
  exact(beq_eq_false_iff_ne.mpr e).symm
theorem zql(a b:Str):decide ((Sum.inr a:Key)=Sum.inr b)=decide (a=b):=by
 by_cases e:a=b
 ·subst e; simp
 ·have h:¬(Sum.inr a:Key)=Sum.inr b:=fun q=>e (Sum.inr.inj q)
  rw [decide_eq_false h,decide_eq_false e]
theorem zqm(a:Int)(b:Str):decide ((Sum.inl a:Key)=Sum.inr b)=false:=decide_eq_false (fun q=>nomatch q)
theorem zqn(a:Str)(b:Int):decide ((Sum.inr a:Key)=Sum.inl b)=false:=decide_eq_false (fun q=>nomatch q)
def zcP(prog:Program)(w:World):PySem.KeyKind prog w Key where
 is:=zfl
 hash:=zvt w
 inj:=fun v a b ha hb=>by
  rcases za8 ha with ⟨i,t,rfl,rfl⟩ | ⟨x,t,rfl,rfl⟩
  ·rcases za8 hb with ⟨j,u,rfl,e⟩ | ⟨y,u,rfl,e⟩
   ·injection e with e1 _; rw [e1]
   ·exact nomatch e
  ·rcases za8 hb with ⟨j,u,rfl,e⟩ | ⟨y,u,rfl,e⟩
   ·exact nomatch e
   ·injection e with e1 _; rw [e1]
 byValue:=fun k v h=>by
  rcases za8 h with ⟨i,t,rfl,rfl⟩ | ⟨x,t,rfl,rfl⟩<;>rfl
 pyHash:=fun hv h=>by
  rcases za8 hv with ⟨i,t,rfl,rfl⟩ | ⟨x,t,rfl,rfl⟩
  ·exact wpAny_pyHash_int h
  ·exact wpAny_pyHash_str h
 eqBool:=fun hu hv h=>by
  rcases za8 hu with ⟨i,t,rfl,rfl⟩ | ⟨x,t,rfl,rfl⟩
  ·rcases za8 hv with ⟨j,u,rfl,rfl⟩ | ⟨y,u,rfl,rfl⟩
   ·rw [zqk]at h; exact wpAny_eqBool_int h
   ·rw [zqm]at h; exact SeqAt.EqAt.int_str i t y u _ _ _ _ h
  ·rcases za8 hv with ⟨j,u,rfl,rfl⟩ | ⟨y,u,rfl,rfl⟩
   ·rw [zqn]at h; exact SeqAt.EqAt.str_int x t j u _ _ _ _ h
   ·rw [zql]at h; exact wpAny_eqBool_str h
 «strs»:=fun k x t v h=>by
  rcases za8 h with ⟨i,u,rfl,e⟩ | ⟨y,u,rfl,e⟩
  ·exact nomatch e
  ·injection e with e1 _
   subst e1
   cases v<;>rfl
inductive V where
 | non | bl (b:Bool) | int (i:Int) | str (x:Str) | byt (b:Array UInt8) | flt (b:UInt64) | ref (a:Addr) | ty (n:String)
 deriving DecidableEq
def zaj:V->Value->Prop
 | .non,u=>u=Value.none
 | .bl b,u=>u=Value.bool b
 | .int i,u=>∃ t,u=Value.int i t
 | .str x,u=>∃ t,u=Value.str x t
 | .byt b,u=>∃ t,u=Value.bytes b t
 | .flt b,u=>∃ t,u=Value.float b t
 | .ref a,u=>u=Value.ref a
 | .ty n,u=>u=Value.type n
abbrev zM:List V->List Value->Prop:=Paired zaj
theorem zM.length{xs:List V}{us:List Value}(r:zM xs us):xs.length=us.length:=Paired.length r
theorem zM.get:∀ {xs:List V} {us:List Value} {i:Nat} {x:V},zM xs us->xs[i]?=some x->∃ u,us[i]?=some u/\zaj x u
 | _,_,_,_,.nil,e=>by simp at e
 | _,_,0,_,.cons r _,e=>by simp at e; subst e; exact⟨_,rfl,r⟩
 | _,_,i+1,x,.cons _ t,e=>by
  obtain⟨u,h1,h2⟩:=zM.get (i:=i) (x:=x) t (by simpa using e)
  exact⟨u,by simpa using h1,h2⟩
theorem zM.set{x:V}{u:Value}(r:zaj x u):∀ {xs:List V} {us:List Value} (i:Nat),zM xs us->zM (xs.set i x) (us.set i u)
 | _,_,_,.nil=>.nil
 | _,_,0,.cons _ t=>.cons r t
 | _,_,i+1,.cons q t=>.cons q (zM.set r i t)
theorem zM.append:∀ {xs ys:List V} {us ws:List Value},zM xs us->zM ys ws->zM (xs++ys) (us++ws)
 | _,_,_,_,.nil,s=>s
 | _,_,_,_,.cons r t,s=>.cons r (zM.append t s)
theorem zM.take:∀ {xs:List V} {us:List Value} (n:Nat),zM xs us->zM (xs.take n) (us.take n)
 | _,_,0,_=>.nil
 | _,_,_+1,.nil=>.nil
 | _,_,n+1,.cons r t=>.cons r (zM.take n t)
theorem zM.drop:∀ {xs:List V} {us:List Value} (n:Nat),zM xs us->zM (xs.drop n) (us.drop n)
 | _,_,0,r=>r
 | _,_,_+1,.nil=>.nil
 | _,_,n+1,.cons _ t=>zM.drop n t
def zhg:Option V->Option Value->Prop
 | some v,some u=>zaj v u
 | none,none=>True
 | _,_=>False
def KV{κ:Type}:List (κ×V)->List (κ×Value)->Prop:=Paired fun(p:κ×V) (q:κ×Value)=>p.1=q.1/\zaj p.2 q.2
def kV:Key->V
 | .inl i=>.int i
 | .inr x=>.str x
inductive HO where
 | lst (xs:List V)
 | tup (xs:List V)
 | dK (kvs:List (Key×V)) | dT (kvs:List (List Key×V))
 | set (S:Int->Bool) (n:Nat)
 | ins (C dx:Addr) (fs:List (Str×V))
 | own (x:Addr)
 | xd (fs:List (Str×V))
 | met (f x:Addr)
 | rng (lo hi:Int)
 | frz (o:Obj) (u:HO)
 | tbl (ps:Array Value)
 | ext (φ:Heap->Prop)
abbrev Hp:=Addr->Option HO
def upd(H:Hp)(a:Addr)(o:HO):Hp:=fun b=>if b=a then some o else H b
theorem zA{H:Hp}{a:Addr}{o:HO}:upd H a o a=some o:=by unfold upd; rw [if_pos rfl]
theorem zz{H:Hp}{a b:Addr}{o:HO}(h:b≠a):upd H a o b=H b:=by unfold upd; rw [if_neg h]
theorem znp{H:Hp}{a:Addr}{o u:HO}:upd (upd H a o) a u=upd H a u:=by
 funext b; unfold upd; split<;>rfl
theorem zpN{H:Hp}{a b:Addr}{o u:HO}(h:H a=some o)(h':H b=some u)(d:o≠u):a≠b:=by
 intro e; subst e; rw [h]at h'; exact d (Option.some.inj h')
theorem zX{H:Hp}{a b:Addr}{o:HO}(h:H a=some o)(h':H b=none):a≠b:=by
 intro e; subst e; rw [h]at h'; cases h'
section
variable (P:Program) (w:World)
def zbq(H:Hp)(h:Heap)(a:Addr):HO->Prop
 | .lst xs=>xs.length<=sizeLine/\∃ (its:List Value) (n:Nat),zM xs its/\h.get? a=some { cls:=.type "list",data:=.seq its.toArray n }
 | .tup xs=>xs.length<=sizeLine/\∃ its:List Value,zM xs its/\IsTup h a its.toArray
 | .dK kvs=>kvs.length<=sizeLine/\(a==sysModules)=false/\∃ vs,KV kvs vs/\h.DictOf (zcP P w) a vs
 | .dT kvs=>kvs.length<=sizeLine/\(a==sysModules)=false/\∃ xs:List (List Key×Addr×Value),
   Paired (fun(p:List Key×V) (q:List Key×Addr×Value)=>p.1=q.1/\H q.2.1=some (.tup (p.1.map kV))/\zaj p.2 q.2.2) kvs xs /\
   ∃ o es ep,h.get? a=some o/\o.ExactDict/\o.data=.dict es ep/\es.toList=xs.map (entryOfKey (tupleKind (zcP P w)))/\(xs.map (·.1)).Nodup
 | .set S n=>h.SetOf (intKind P w) a S n
 | .ins C dx fs=>H dx=some (.own a)/\fs.length<=1000/\dx≠a/\h.get? a=some (PySem.W.instObj C dx) /\
   ∃ mA,h.Ns1 dx mA/\(∀ f,zhg (fs.lookup f) (mA f))/\PySem.Within mA (fs.map (·.1))
 | .own _=>∃ o,h.get? a=some o
 | .xd fs=>∃ mA,h.Ns1 a mA/\∀ f,zhg (fs.lookup f) (mA f)
 | .rng lo hi=>∃ t u v,h.get? a=some { cls:=.type "range",data:=.fields #[.int lo t,.int hi u,.int 1 v] }
 | .frz o u=>h.get? a=some o/\zbq H h a u
 | .tbl ps=>h.get? a=some { cls:=.none,data:=.fields ps }
 | .met f x=>h.get? a=some (PySem.W.methodObj (.ref f) (.ref x))
 | .ext φ=>φ h/\(∃ o,h.get? a=some o)/\∀ h1 h2:Heap,φ h1->(∀ o,h1.get? a=some o->h2.get? a=some o)->φ h2
def HOk(H:Hp)(h:Heap):Prop:=∀ a o,H a=some o->zbq P w H h a o
end
section
variable {P:Program} {w:World} {H H':Hp} {h h':Heap} {a:Addr} {o:HO}
theorem zbq.lt(x:zbq P w H h a o):a < h.objs.size:=by
 cases o with
 | lst xs=>obtain⟨_,_,_,_,e⟩:=x; exact Heap.lt_size e
 | tup xs=>obtain⟨_,_,_,p⟩:=x; exact p.lt
 | dK kvs=>obtain⟨_,_,_,_,o,_,_,e,_⟩:=x; exact Heap.lt_size e
 | dT kvs=>obtain⟨_,_,_,_,o,_,_,e,_⟩:=x; exact Heap.lt_size e
 | set S n=>obtain⟨o,_,_,_,e,_⟩:=x; exact Heap.lt_size e
 | ins C dx fs=>obtain⟨_,_,_,e,_⟩:=x; exact Heap.lt_size e
 | own y=>obtain⟨_,e⟩:=x; exact Heap.lt_size e
 | xd fs=>obtain⟨_,⟨_,_,_,e,_⟩,_⟩:=x; exact Heap.lt_size e
 | rng lo hi=>obtain⟨_,_,_,e⟩:=x; exact Heap.lt_size e
 | frz ob u=>obtain⟨e,_⟩:=x; exact Heap.lt_size e
 | tbl ps=>exact Heap.lt_size (show h.get? a=some _ from x)
 | met f y=>exact Heap.lt_size (show h.get? a=some _ from x)
 | ext φ=>obtain⟨_,⟨_,e⟩,_⟩:=x; exact Heap.lt_size e
theorem Paired.mapP{α β:Type}{F G:α->β->Prop}:∀ {l₁:List α} {l₂:List β},Paired F l₁ l₂->(∀ a b,F a b->G a b)->Paired G l₁ l₂
 | _,_,.nil,_=>.nil
 | _,_,.cons r t,f=>.cons (f _ _ r) (Paired.mapP t f)
theorem zbq.stay(x:zbq P w H h a o)(k:∀ b u,(b=a\/H b=some (.own a))->h.get? b=some u->h'.get? b=some u)
  (ho:∀ b,H b=some (.own a)->H' b=some (.own a)) (ht:∀ b xs,H b=some (.tup xs)->H' b=some (.tup xs)):zbq P w H' h' a o:=by
 induction o with
 | lst xs=>obtain⟨z,its,n,r,e⟩:=x; exact⟨z,its,n,r,k _ _ (.inl rfl) e⟩
 | tup xs=>obtain⟨z,its,r,ob,e,c⟩:=x; exact⟨z,its,r,ob,k _ _ (.inl rfl) e,c⟩
 | dK kvs=>obtain⟨z,y,vs,r,ob,es,ep,e,c⟩:=x; exact⟨z,y,vs,r,ob,es,ep,k _ _ (.inl rfl) e,c⟩
 | dT kvs =>
  obtain⟨z,y,xs,r,ob,es,ep,e,c⟩:=x
  exact⟨z,y,xs,Paired.mapP r fun p q z=>⟨z.1,ht _ _ z.2.1,z.2.2⟩,ob,es,ep,k _ _ (.inl rfl) e,c⟩
 | set S n=>obtain⟨ob,es,ep,t,e,c⟩:=x; exact⟨ob,es,ep,t,k _ _ (.inl rfl) e,c⟩
 | ins C dx fs =>
  obtain⟨d,z,ne,e,mA,⟨od,es,ep,e2,c⟩,r⟩:=x
  exact⟨ho _ d,z,ne,k _ _ (.inl rfl) e,mA,⟨od,es,ep,k _ _ (.inr d) e2,c⟩,r⟩
 | own y=>obtain⟨ob,e⟩:=x; exact⟨ob,k _ _ (.inl rfl) e⟩
 | xd fs=>obtain⟨mA,⟨od,es,ep,e,c⟩,r⟩:=x; exact⟨mA,⟨od,es,ep,k _ _ (.inl rfl) e,c⟩,r⟩
 | rng lo hi=>obtain⟨t,u,v,e⟩:=x; exact⟨t,u,v,k _ _ (.inl rfl) e⟩
 | frz ob u ih=>obtain⟨e,q⟩:=x; exact⟨k _ _ (.inl rfl) e,ih q⟩
 | tbl ps =>
  have e:h.get? a=some { cls:=.none,data:=.fields ps }:=x
  show h'.get? a=some { cls:=.none,data:=.fields ps }
  exact k a _ (.inl rfl) e
 | met f y =>
  have e:h.get? a=some (PySem.W.methodObj (.ref f) (.ref y)):=x
  show h'.get? a=some (PySem.W.methodObj (.ref f) (.ref y))
  exact k a _ (.inl rfl) e
 | ext φ=>obtain⟨p,⟨o,e⟩,st⟩:=x; exact⟨st _ _ p fun o q=>k _ _ (.inl rfl) q,⟨o,k _ _ (.inl rfl) e⟩,st⟩
theorem HOk.lt(x:HOk P w H h)(e:H a=some o):a < h.objs.size:=(x a o e).lt
theorem HOk.fresh(x:HOk P w H h)(e:h.objs.size<=a):H a=none:=by
 cases q:H a with
 | none=>rfl
 | some u=>exact absurd (Nat.lt_of_lt_of_le (x.lt q) e) (Nat.lt_irrefl _)
theorem HOk.kept(x:HOk P w H h)(k:∀ b u,h.get? b=some u->h'.get? b=some u):HOk P w H h':=fun a o e =>
 (x a o e).stay (fun b u _ q=>k b u q) (fun _ q=>q) fun _ _ q=>q
theorem HOk.laid(x:HOk P w H h)(k:∀ b u,h.get? b=some u->h'.get? b=some u)(hp:h.objs.size<=a)(new:zbq P w (upd H a o) h' a o):HOk P w (upd H a o) h':=fun b u e=>by
 have hn:=x.fresh hp
 by_cases hb:b=a
 ·subst hb; rw [zA]at e; cases e; exact new
 ·rw [zz hb]at e
  exact(x b u e).stay (fun c v _ q=>k c v q) (fun c q=>by rw [zz (zX q hn)]; exact q) fun c xs q=>by rw [zz (zX q hn)]; exact q
end
def Rd(H:Hp)(a:Addr)(u:HO):Prop:=H a=some u\/∃ o,H a=some (.frz o u)
theorem Rd.ok{P:Program}{w:World}{H:Hp}{h:Heap}{a:Addr}{u:HO}(r:Rd H a u)(x:HOk P w H h):zbq P w H h a u:=by
 rcases r with r | ⟨o,r⟩
 ·exact x a u r
 ·obtain⟨_,q⟩:=x a _ r
  exact q
def Mut:Option HO->Prop
 | some (.lst _)=>True
 | some (.dK _)=>True
 | some (.dT _)=>True
 | some (.set _ _)=>True
 | some (.ins _ _ _)=>True
 | some (.ext _)=>True
 | _=>False
section
variable {P:Program} {w:World} {H:Hp} {h h':Heap} {x e:Addr} {o':HO}
theorem HOk.write(ok:HOk P w H h)(mu:Mut (H x))(he:e=x\/H e=some (.own x))(k:∀ b u,b≠e->h.get? b=some u->h'.get? b=some u)(heo:∃ u,h'.get? e=some u)
  (new:zbq P w (upd H x o') h' x o'):HOk P w (upd H x o') h':=fun b u q=>by
 have nown:∀ c y,H c=some (.own y)->c≠x:=fun c y r z=>by subst z; rw [r]at mu; exact mu
 have ntup:∀ c xs,H c=some (.tup xs)->c≠x:=fun c xs r z=>by subst z; rw [r]at mu; exact mu
 by_cases hb:b=x
 ·subst hb; rw [zA]at q; cases q; exact new
 ·rw [zz hb]at q
  by_cases hbe:b=e
  ·have q':H b=some (.own x):=by
    rcases he with z | z
    ·exact absurd (hbe.trans z) hb
    ·rw [hbe]; exact z
   rw [q]at q'; cases q'
   obtain⟨v,hv⟩:=heo
   exact⟨v,by rw [hbe]; exact hv⟩
  ·refine(ok b u q).stay (fun c v hc r=>k c v ?_ r) (fun c r=>by rw [zz (nown c b r)]; exact r) fun c xs r=>by rw [zz (ntup c xs r)]; exact r
   rcases hc with rfl | hc
   ·exact hbe
   ·rintro rfl
    rcases he with z | z
    ·exact nown c b hc z
    ·rw [hc]at z; cases z; exact hb rfl
end
structure Un (fs ex:List Addr) (H H':Hp) (h h':Heap):Prop where
 keep:∀ b o,h.get? b=some o->H b=none->b∉fs->b∉ex->h'.get? b=some o
 slot:∀ b o,h.get? b=some o->H b=none->b∈fs->b∉ex->∃ sl,h'.get? b=some { o with slots:=sl }
 free:∀ b o,h.get? b=some o->H b=none->b∉ex->H' b=none
 there:∀ b o,h.get? b=some o->b∉ex->∃ o',h'.get? b=some o'
 tups:∀ b xs,H b=some (.tup xs)->H' b=some (.tup xs)
 frzs:∀ b o u,H b=some (.frz o u)->H' b=some (.frz o u)
 tbls:∀ b ps,H b=some (.tbl ps)->∃ more,H' b=some (.tbl (ps++more))
section
variable {fs fs' ex ex':List Addr} {H H1 H2:Hp} {h h1 h2 h':Heap} {a x e:Addr} {o:HO}
theorem Un.any(u:Un fs ex H H1 h h1){b:Addr}{ob:Obj}(q:h.get? b=some ob)(n:H b=none)(hx:b∉ex):∃ sl,h1.get? b=some { ob with slots:=sl }:=by
 by_cases hb:b∈fs
 ·exact u.slot b ob q n hb hx
 ·exact⟨ob.slots,u.keep b ob q n hb hx⟩
theorem Un.kept(k:∀ b u,h.get? b=some u->h'.get? b=some u):Un fs ex H H h h' :=
 ⟨fun b ob q _ _ _=>k b ob q,fun b ob q _ _ _=>⟨ob.slots,k b ob q⟩,fun _ _ _ n _=>n,fun b ob q _=>⟨ob,k b ob q⟩,fun _ _ q=>q,fun _ _ _ q=>q,fun _ ps q=>⟨#[],by rw [q]; simp⟩⟩
theorem Un.refl:Un fs ex H H h h:=Un.kept fun _ _ q=>q
theorem Un.laid(k:∀ b u,h.get? b=some u->h'.get? b=some u)(hp:h.objs.size<=a)(hn:H a=none):Un fs ex H (upd H a o) h h' where
 keep:=fun b u q _ _ _=>k b u q
 slot:=fun b u q _ _ _=>⟨u.slots,k b u q⟩
 free:=fun b u q n _=>by rw [zz (Nat.ne_of_lt (Nat.lt_of_lt_of_le (Heap.lt_size q) hp))]; exact n
 there:=fun b u q _=>⟨u,k b u q⟩
 tups:=fun b xs q=>by rw [zz (zX q hn)]; exact q
 frzs:=fun b u xs q=>by rw [zz (zX q hn)]; exact q
 tbls:=fun b ps q=>⟨#[],by rw [zz (zX q hn),q]; simp⟩
theorem Un.write(mu:Mut (H x))(he:e=x\/H e=some (.own x))(k:∀ b u,b≠e->h.get? b=some u->h'.get? b=some u)(heo:∃ u,h'.get? e=some u):Un fs ex H (upd H x o) h h':=by
 have hx:∀ b,H b=none->b≠x:=fun b n z=>by subst z; rw [n]at mu; exact mu
 have hb:∀ b,H b=none->b≠e:=fun b n z=>by
  subst z
  rcases he with r | r
  ·exact hx b n r
  ·rw [n]at r; cases r
 have hm:∀ b u,H b=some u->¬Mut (some u)->b≠x:=fun b u q nm z=>by subst z; rw [q]at mu; exact nm mu
 refine⟨fun b u q n _ _=>k b u (hb b n) q,fun b u q n _ _=>⟨u.slots,k b u (hb b n) q⟩,fun b u q n _=>by rw [zz (hx b n)]; exact n,fun b u q _=>?_,
  fun b xs q=>by rw [zz (hm b _ q fun z=>z)]; exact q,fun b u xs q=>by rw [zz (hm b _ q fun z=>z)]; exact q,fun b ps q=>⟨#[],by rw [zz (hm b _ q fun z=>z),q]; simp⟩⟩
 by_cases hbe:b=e
 ·subst hbe; exact heo
 ·exact⟨u,k b u hbe q⟩
end
def trk(h:Heap)(H:Hp):List Addr:=(List.range h.objs.size).filter fun a=>(H a).isSome
def zhh(h:Heap)(H:Hp):Heap:=PySem.W.hideAll h (trk h H)
theorem zkC(h:Heap)(H:Hp):(zhh h H).objs.size=h.objs.size:=PySem.W.hideAll_size _ _
theorem zlo{h:Heap}{H:Hp}{b:Addr}{o:Obj}(e:h.get? b=some o)(n:H b=none):(zhh h H).get? b=some o :=
 PySem.W.hideAll_get _ e fun hm=>by
  have q:(H b).isSome=true:=(List.mem_filter.mp hm).2
  rw [n]at q; simp at q
theorem znq{h:Heap}{H:Hp}{b:Addr}{o:Obj}(e:(zhh h H).get? b=some o):h.get? b=some o/\H b=none:=by
 have e':h.get? b=some o:=PySem.W.of_hideAll (trk h H) e
 refine⟨e',?_⟩
 cases q:H b with
 | none=>rfl
 | some x =>
  have hm:b∈trk h H:=List.mem_filter.mpr ⟨List.mem_range.mpr (Heap.lt_size e'),by simp [q]⟩
  have z:(zhh h H).get? b=none:=PySem.W.hideAll_none (trk h H) hm
  rw [z]at e; cases e
def znr(g h:Heap)(L:Addr):List (Addr×Obj):=(List.range h.objs.size).filterMap fun a=>if a=L\/(g.get? a).isSome=true then none else(h.get? a).map fun o=>(a,o)
def zbW(g h:Heap)(L d:Addr):List (Addr×Obj):=(znr g h L).filter fun p=>decide (p.1≠d)
structure Mod (K:PySem.W.Frag) (mg:Str->Option Value) (base:Heap):Prop where
 kin:K.In base
 glob:base.Ns mainGlobals mg
 blt:∃ mb,base.Ns builtinsNs mb/\∀ x:Str,x ≠ "__name__"->mb x=bootBuiltins x
 nolimit:base.NoLimit
structure Cx where
 prog:Program
 w:World
 K:PySem.W.Frag
 mg:Str->Option Value
 base:Heap
 A:Around
 N:List Str
 s₀:Shared
 H₀:Hp
 env:Env
 outer:List Env
 stack:List Env
 ex:List Addr
 fn:Str->Bool
 calm:Bool
 pn:List (Addr×Obj)
 xe:Value->Shared->Prop
def frs(l:List Env):List Addr:=l.filterMap (·.frame)
abbrev Cx.fs(X:Cx):List Addr:=frs X.outer
def Vis(sc:Scope)(x:Str):Prop:=sc.names.lookup x=some .local\/sc.names.lookup x=some .cell\/sc.names.lookup x=some .free
def Loc(sc:Scope)(x:Str):Prop:=sc.names.lookup x=some .local\/sc.names.lookup x=some .cell
def zvu(env:Env)(h:Heap)(m:Str->Option Value)(x:Str)(u:Value):Prop :=
 (env.kindOf x=some .local/\m x=some u)\/((env.kindOf x=some .cell\/env.kindOf x=some .free)/\∃ c,env.cells.lookup x=some c/\h.IsCell c (some u))
structure Cx.Ok (X:Cx):Prop where
 mod:Mod X.K X.mg X.base
 kind:X.env.scope.kind=.function
 glob:X.env.globals=mainGlobals
 blt:X.env.builtins=builtinsNs
 above:X.s₀.heap.objs.size<=X.env.locals
 inj:∀ x y c,X.env.cells.lookup x=some c->X.env.cells.lookup y=some c->x=y
 has:∀ x,(X.env.kindOf x=some .cell\/X.env.kindOf x=some .free)->∃ c,X.env.cells.lookup x=some c
 cab:∀ x c,X.fn x=true->X.env.cells.lookup x=some c->X.s₀.heap.objs.size<=c
 hd:X.calm=true->X.A.handled=none
 frames:X.A.frames=some X.stack
 stk:X.stack=X.outer\/(X.stack=X.env::X.outer/\X.env.frame=some X.env.locals)
 exf:∀ b∈X.ex,b≠X.env.locals/\∀ x c,X.env.cells.lookup x=some c->c≠b
 bs:∀ b o,X.base.get? b=some o->X.s₀.heap.get? b=some o/\X.H₀ b=none
 bsz:X.base.objs.size<=X.s₀.heap.objs.size
 noex:∀ b o,X.base.get? b=some o->b∉X.ex
 exfs:∀ b∈X.ex,b∉X.fs
 funs:X.s₀.heap.FunFrames X.base X.outer
 frf:∀ b∈X.fs,X.H₀ b=none
structure Inv (X:Cx) (pins:List (Addr×Obj)) (σ:List (Option V)) (H:Hp) (s:Shared):Prop where
 ok:X.Ok
 os:s.os=X.s₀.os
 bare:AllBare s.gens
 base:Un X.fs X.ex X.H₀ H X.s₀.heap s.heap
 loc:∃ m,s.heap.Ns X.env.locals m/\∀ (i:Nat) (x:Str) (v:V),X.N[i]?=some x->σ[i]?=some (some v)->Vis X.env.scope x->∃ u,zaj v u/\zvu X.env s.heap m x u
 cell:∀ x c,X.env.cells.lookup x=some c->∃ v,s.heap.IsCell c v
 free:H X.env.locals=none
 freeC:∀ x c,X.env.cells.lookup x=some c->H c=none
 pin:∀ p∈X.pn++pins,s.heap.get? p.1=some p.2/\H p.1=none/\p.1≠X.env.locals/\p.1∉X.fs/\∀ v,p.2.data≠.cell v
 hok:HOk X.prog X.w H s.heap
 len:σ.length=X.N.length
section
variable {X:Cx} {pins:List (Addr×Obj)} {σ:List (Option V)} {H H':Hp} {s:Shared} {h':Heap}
theorem Cx.Ok.nofr(ok:X.Ok){b:Addr}{o:Obj}(e:X.base.get? b=some o):b∉X.fs:=fun hb=>by
 have:=(ok.funs.mem hb).1
 rw [e]at this; cases this
theorem Inv.bs(I:Inv X pins σ H s):∀ b o,X.base.get? b=some o->s.heap.get? b=some o/\H b=none:=fun b o e =>
 ⟨I.base.keep b o (I.ok.bs b o e).1 (I.ok.bs b o e).2 (I.ok.nofr e) (I.ok.noex b o e),I.base.free b o (I.ok.bs b o e).1 (I.ok.bs b o e).2 (I.ok.noex b o e)⟩
theorem Inv.bk(I:Inv X pins σ H s):∀ b o,X.base.get? b=some o->s.heap.get? b=some o:=fun b o e=>(I.bs b o e).1
theorem Inv.mod(I:Inv X pins σ H s):Mod X.K X.mg X.base:=I.ok.mod
theorem Inv.kIn(I:Inv X pins σ H s):X.K.In s.heap:=I.ok.mod.kin.keeps I.bk
theorem Inv.nolimit(I:Inv X pins σ H s):s.heap.NoLimit:=I.ok.mod.nolimit.keeps I.bk
theorem Inv.fr(I:Inv X pins σ H s):∃ m,Fr X.base X.env.locals s.heap m :=
 let ⟨m,hn,_⟩:=I.loc
 ⟨m,hn,I.bk,Nat.le_trans I.ok.bsz I.ok.above⟩
theorem Inv.lt(I:Inv X pins σ H s):X.env.locals < s.heap.objs.size:=let ⟨_,hn,_⟩:=I.loc; hn.lt
theorem Inv.sz(I:Inv X pins σ H s):X.s₀.heap.objs.size<=s.heap.objs.size:=Nat.le_trans I.ok.above (Nat.le_of_lt I.lt)
theorem Inv.nofs(I:Inv X pins σ H s){a:Addr}(h:s.heap.objs.size<=a):a∉X.fs:=fun hb=>by
 obtain⟨_,o,ho,_⟩:=I.ok.funs.mem hb
 exact absurd (Nat.lt_of_lt_of_le (Heap.lt_size ho) (Nat.le_trans I.sz h)) (Nat.lt_irrefl _)
theorem Inv.cne(I:Inv X pins σ H s):∀ x c,X.env.cells.lookup x=some c->c≠X.env.locals:=fun x c e z=>by
 obtain⟨v,o,ho,hd⟩:=I.cell x c e
 obtain⟨m,⟨o',es,ep,ho',hd',_⟩,_⟩:=I.loc
 rw [z,ho']at ho; cases ho; rw [hd']at hd; cases hd
theorem Inv.funs(I:Inv X pins σ H s):s.heap.FunFrames X.base X.outer:=by
 have all:∀ (l:List Env),(∀ b∈frs l,b∈X.fs)->X.s₀.heap.FunFrames X.base l->s.heap.FunFrames X.base l:=by
  intro l
  induction l with
  | nil=>intro _ _; trivial
  | cons env r ih =>
   intro hs hl
   obtain⟨hk,⟨L,o,hf,hn,ho,hd⟩,hr⟩:=hl
   have hL:L∈X.fs:=hs L (by unfold frs; rw [List.filterMap_cons,hf]; exact List.mem_cons_self)
   obtain⟨sl,e⟩:=I.base.slot L o ho (I.ok.frf L hL) hL fun z=>I.ok.exfs L z hL
   exact⟨hk,⟨L,_,hf,hn,e,hd⟩,ih (fun b hb=>hs b (by unfold frs; rw [List.filterMap_cons,hf]; exact List.mem_cons_of_mem _ hb)) hr⟩
 exact all X.outer (fun _ hb=>hb) I.ok.funs
theorem Inv.stack(I:Inv X pins σ H s):s.heap.FunFrames X.base X.stack:=by
 rcases I.ok.stk with e | ⟨e,hf⟩
 ·rw [e]; exact I.funs
 ·rw [e]
  obtain⟨m,hn,_⟩:=I.loc
  refine .cons (by rw [I.ok.kind]; decide) hf hn ?_ I.funs
  exact Heap.get?_none_of_le (Nat.le_trans I.ok.bsz I.ok.above)
theorem Inv.stkSub(I:Inv X pins σ H s):∀ b∈frs X.stack,b∈X.env.locals::X.fs:=fun b hb=>by
 rcases I.ok.stk with e | ⟨e,hf⟩
 ·rw [e]at hb; exact List.mem_cons_of_mem _ hb
 ·rw [e]at hb
  unfold frs at hb
  rw [List.filterMap_cons,hf]at hb
  exact hb
theorem Inv.stkFree(I:Inv X pins σ H s):∀ b∈frs X.stack,H b=none:=fun b hb=>by
 rcases List.mem_cons.mp (I.stkSub b hb)with e | hb
 ·rw [e]; exact I.free
 ·obtain⟨_,o,ho,_⟩:=I.ok.funs.mem hb
  exact I.base.free b o ho (I.ok.frf b hb) fun z=>I.ok.exfs b z hb
theorem Inv.step{g':Array GenState}{t':Nat}{d':Drawn}{ch:List Addr}(I:Inv X pins σ H s)
  (hch:∀ b∈ch,(b∈X.ex\/X.s₀.heap.objs.size<=b)/\b≠X.env.locals/\(∀ x c,X.env.cells.lookup x=some c->c≠b)/\∀ p∈X.pn++pins,p.1≠b)
  (keep:∀ b o,b≠X.env.locals->b∉X.fs->b∉ch->s.heap.get? b=some o->H b=none->h'.get? b=some o)
  (slot:∀ b o,b≠X.env.locals->b∈X.fs->b∉ch->s.heap.get? b=some o->H b=none->∃ sl,h'.get? b=some { o with slots:=sl }) (free:∀ b o,b∉ch->s.heap.get? b=some o->H b=none->H' b=none)
  (there:∀ b o,b∉ch->s.heap.get? b=some o->∃ o',h'.get? b=some o')
  (tups:∀ b xs,H b=some (.tup xs)->H' b=some (.tup xs)) (frzs:∀ b o u,H b=some (.frz o u)->H' b=some (.frz o u)) (tbls:∀ b ps,H b=some (.tbl ps)->∃ more,H' b=some (.tbl (ps++more)))
  (ns:∀ m,s.heap.Ns X.env.locals m->h'.Ns X.env.locals m) (hok:HOk X.prog X.w H' h') (hg:AllBare g') :
  Inv X pins σ H' { s with heap:=h',gens:=g',drawn:=d',toks:=t' }:=by
 have neL:∀ b o,X.s₀.heap.get? b=some o->b≠X.env.locals:=fun b o e=>Nat.ne_of_lt (Nat.lt_of_lt_of_le (Heap.lt_size e) I.ok.above)
 have neC:∀ b o,X.s₀.heap.get? b=some o->b∉X.ex->b∉ch:=fun b o e hx hb=>by
  rcases(hch b hb).1 with z | z
  ·exact hx z
  ·exact absurd (Nat.lt_of_lt_of_le (Heap.lt_size e) z) (Nat.lt_irrefl _)
 have cellK:∀ x c,X.env.cells.lookup x=some c->∀ v,s.heap.IsCell c v->h'.IsCell c v:=fun x c e v ⟨o,ho,hd⟩=>by
  have nch:c∉ch:=fun z=>(hch c z).2.2.1 x c e rfl
  by_cases hc:c∈X.fs
  ·obtain⟨sl,q⟩:=slot c o (I.cne x c e) hc nch ho (I.freeC x c e)
   exact⟨_,q,hd⟩
  ·exact⟨o,keep c o (I.cne x c e) hc nch ho (I.freeC x c e),hd⟩
 refine⟨I.ok,I.os,hg,⟨fun b o e n hb hx=>?_,fun b o e n hb hx=>?_,fun b o e n hx=>?_,fun b o e hx=>?_,fun b xs e=>tups b xs (I.base.tups b xs e),fun b o xs e=>frzs b o xs (I.base.frzs b o xs e),fun b ps e=>?_⟩,?_,fun x c e=>?_,?_,fun x c e=>?_,fun p hp=>?_,hok,I.len⟩
 ·exact keep b o (neL b o e) hb (neC b o e hx) (I.base.keep b o e n hb hx) (I.base.free b o e n hx)
 ·obtain⟨sl,e1⟩:=I.base.slot b o e n hb hx
  obtain⟨sl',e2⟩:=slot b _ (neL b o e) hb (neC b o e hx) e1 (I.base.free b o e n hx)
  exact⟨sl',e2⟩
 ·obtain⟨o',e1⟩:=I.base.there b o e hx
  exact free b o' (neC b o e hx) e1 (I.base.free b o e n hx)
 ·obtain⟨o',e1⟩:=I.base.there b o e hx
  exact there b o' (neC b o e hx) e1
 ·obtain⟨m1,e1⟩:=I.base.tbls b ps e
  obtain⟨m2,e2⟩:=tbls b _ e1
  exact⟨m1++m2,by rw [e2,Array.append_assoc]⟩
 ·obtain⟨m,hn,hl⟩:=I.loc
  refine⟨m,ns m hn,fun i x v e1 e2 e3=>?_⟩
  obtain⟨u,r,l⟩:=hl i x v e1 e2 e3
  refine⟨u,r,?_⟩
  rcases l with l | ⟨k,c,e,z⟩
  ·exact .inl l
  ·exact .inr ⟨k,c,e,cellK x c e _ z⟩
 ·obtain⟨v,z⟩:=I.cell x c e
  exact⟨v,cellK x c e v z⟩
 ·obtain⟨m,⟨o,_,_,ho,_⟩,_⟩:=I.loc
  exact free _ o (fun z=>(hch _ z).2.1 rfl) ho I.free
 ·obtain⟨v,o,ho,hd⟩:=I.cell x c e
  exact free c o (fun z=>(hch c z).2.2.1 x c e rfl) ho (I.freeC x c e)
 ·obtain⟨e,n,ne,nf,d⟩:=I.pin p hp
  have nch:p.1∉ch:=fun z=>(hch p.1 z).2.2.2 p hp rfl
  exact⟨keep p.1 p.2 ne nf nch e n,free p.1 p.2 nch e n,ne,nf,d⟩
theorem Inv.un{t':Nat}(I:Inv X pins σ H s)(u:Un X.fs [] H H' s.heap h')(hok:HOk X.prog X.w H' h'):Inv X pins σ H' { s with heap:=h',toks:=t' }:=by
 obtain⟨m,⟨o,es,ep,ho,r⟩,_⟩:=id I.loc
 obtain⟨sl,hL⟩:=u.any ho I.free (by simp)
 exact I.step (g':=s.gens) (d':=s.drawn) (ch:=[]) (fun _ z=>nomatch z) (fun b o _ hb _ e n=>u.keep b o e n hb (by simp)) (fun b o _ hb _ e n=>u.slot b o e n hb (by simp)) (fun b o _ e n=>u.free b o e n (by simp)) (fun b o _ e=>u.there b o e (by simp)) u.tups u.frzs u.tbls (fun m' hm=>by
  obtain⟨o',es',ep',ho',r'⟩:=hm
  rw [ho]at ho'; cases ho'
  exact⟨_,es',ep',hL,r'⟩) hok I.bare
theorem Inv.call{g':Array GenState}{t':Nat}{d':Drawn}{ch:List Addr}(I:Inv X pins σ H s)(u:Un (frs X.stack) ch H H' s.heap h')(hok:HOk X.prog X.w H' h')(hg:AllBare g')
  (hch:∀ b∈ch,(b∈X.ex\/X.s₀.heap.objs.size<=b)/\b≠X.env.locals/\(∀ x c,X.env.cells.lookup x=some c->c≠b)/\∀ p∈X.pn++pins,p.1≠b) :
  Inv X pins σ H' { s with heap:=h',gens:=g',drawn:=d',toks:=t' }:=by
 obtain⟨m,⟨o,es,ep,ho,r⟩,_⟩:=id I.loc
 obtain⟨sl,hL⟩:=u.any ho I.free fun z=>(hch _ z).2.1 rfl
 exact I.step (ch:=ch) hch (fun b o hL hb hc e n=>u.keep b o e n (fun z=>(List.mem_cons.mp (I.stkSub b z)).elim hL hb) hc) (fun b o _ _ hc e n=>u.any e n hc) (fun b o hc e n=>u.free b o e n hc) (fun b o hc e=>u.there b o e hc) u.tups u.frzs u.tbls (fun m' hm=>by
  obtain⟨o',es',ep',ho',r'⟩:=hm
  rw [ho]at ho'; cases ho'
  exact⟨_,es',ep',hL,r'⟩) hok hg
theorem Inv.turned{t':Nat}{it:Addr}(I:Inv X pins σ H s)(k:∀ b o,b≠it->s.heap.get? b=some o->h'.get? b=some o)(hn:H it=none)(hL:it≠X.env.locals)
  (h1:it∈X.ex\/X.s₀.heap.objs.size<=it) (h2:∀ x c,X.env.cells.lookup x=some c->c≠it) (h3:∀ p∈X.pn++pins,p.1≠it):Inv X pins σ H { s with heap:=h',toks:=t' }:=by
 have nit:∀ b u,H b=some u->b≠it:=fun b u e z=>by rw [z,hn]at e; cases e
 refine I.step (g':=s.gens) (d':=s.drawn) (ch:=[it]) (fun b hb=>?_) (fun b o _ _ hc e _=>k b o (fun z=>hc (by simp [z])) e) (fun b o _ _ hc e _=>⟨o.slots,k b o (fun z=>hc (by simp [z])) e⟩) (fun _ _ _ _ n=>n)
  (fun b o hc e=>⟨o,k b o (fun z=>hc (by simp [z])) e⟩) (fun _ _ e=>e) (fun _ _ _ e=>e) (fun b ps e=>⟨#[],by rw [e]; simp⟩) (fun m hm=>?_) (fun b u e=>?_) I.bare
 ·have e:b=it:=by simpa using hb
  subst e
  exact⟨h1,hL,h2,h3⟩
 ·obtain⟨o,es,ep,ho,r⟩:=hm
  exact⟨o,es,ep,k _ o (Ne.symm hL) ho,r⟩
 ·refine(I.hok b u e).stay (fun c v hc q=>k c v ?_ q) (fun _ q=>q) fun _ _ q=>q
  rcases hc with z | z
  ·rw [z]; exact nit b u e
  ·exact nit c _ z
theorem Inv.tok(I:Inv X pins σ H s)(t:Nat):Inv X pins σ H { s with toks:=t }:=I.un (h':=s.heap) (t':=t) Un.refl I.hok
theorem Inv.kept{t':Nat}(I:Inv X pins σ H s)(k:∀ b u,s.heap.get? b=some u->h'.get? b=some u):Inv X pins σ H { s with heap:=h',toks:=t' }:=I.un (Un.kept k) (I.hok.kept k)
theorem Inv.laid{a:Addr}{o:HO}{t':Nat}(I:Inv X pins σ H s)(k:∀ b u,s.heap.get? b=some u->h'.get? b=some u)(hp:s.heap.objs.size<=a)(new:zbq X.prog X.w (upd H a o) h' a o) :
  Inv X pins σ (upd H a o) { s with heap:=h',toks:=t' }:=I.un (Un.laid k hp (I.hok.fresh hp)) (I.hok.laid k hp new)
theorem Inv.write{x e:Addr}{o:HO}{t':Nat}(I:Inv X pins σ H s)(mu:Mut (H x))(he:e=x\/H e=some (.own x))(k:∀ b u,b≠e->s.heap.get? b=some u->h'.get? b=some u)(heo:∃ u,h'.get? e=some u)
  (new:zbq X.prog X.w (upd H x o) h' x o):Inv X pins σ (upd H x o) { s with heap:=h',toks:=t' }:=I.un (Un.write mu he k heo) (I.hok.write mu he k heo new)
theorem Inv.weak{σ':List (Option V)}(I:Inv X pins σ H s)(hl:σ'.length=σ.length)(w:∀ (i:Nat) v,σ'[i]?=some (some v)->σ[i]?=some (some v)):Inv X pins σ' H s :=
 ⟨I.ok,I.os,I.bare,I.base,let ⟨m,hn,hl'⟩:=I.loc; ⟨m,hn,fun i x v e1 e2 e3=>hl' i x v e1 (w i v e2) e3⟩,I.cell,I.free,I.freeC,I.pin,I.hok,hl.trans I.len⟩
theorem Inv.pins_of{pins':List (Addr×Obj)}(I:Inv X pins σ H s)(h:∀ p∈pins',s.heap.get? p.1=some p.2/\H p.1=none/\p.1≠X.env.locals/\p.1∉X.fs/\∀ v,p.2.data≠.cell v):Inv X pins' σ H s :=
 ⟨I.ok,I.os,I.bare,I.base,I.loc,I.cell,I.free,I.freeC,fun p hp=>(List.mem_append.mp hp).elim (fun z=>I.pin p (List.mem_append_left _ z)) (h p),I.hok,I.len⟩
theorem zfX{N:List Str}(hN:N.Nodup){i j:Nat}{x:Str}(a:N[i]?=some x)(b:N[j]?=some x):i=j:=by
 obtain⟨h1,e1⟩:=List.getElem?_eq_some_iff.mp a
 obtain⟨h2,e2⟩:=List.getElem?_eq_some_iff.mp b
 exact(List.getElem_inj hN).mp (e1.trans e2.symm)
theorem zgX{M:Model}{A:Around}{E:Value->Shared->Prop}{i:Nat}{x:Str}{v:V}{u:Value}{Q:Unit->Shared->Prop}(I:Inv X pins σ H s)(hN:X.N.Nodup)(hi:X.N[i]?=some x)(hx:Loc X.env.scope x)(r:zaj v u)
  (h:∀ s',Inv X pins (σ.set i (some v)) H s'->(∃ a,Heap.SameBut a s.heap s'.heap/\(a=X.env.locals\/X.env.cells.lookup x=some a))->Q () s') (hf:X.fn x=true\/X.env.scope.names.lookup x=some .local:=by first | exact .inl rfl | exact .inr rfl | assumption):wpAny M A (storeName X.env x u) Q E s:=by
 obtain⟨m,hn,hl⟩:=id I.loc
 have hcls:(X.env.scope.kind==.class || (X.env.scope.kind==.module && X.env.locals != X.env.globals))=false:=by rw [I.ok.kind]; rfl
 have hiσ:i < σ.length:=by rw [I.len]; exact(List.getElem?_eq_some_iff.mp hi).1
 have cne:=I.cne
 have tracked:∀ {a:Addr} {h':Heap},(∃ o,s.heap.get? a=some o/\H a=none)->Heap.SameBut a s.heap h'->HOk X.prog X.w H h':=fun{a h'} ha hs b ob e=>by
  obtain⟨_,_,hfree⟩:=ha
  refine(I.hok b ob e).stay (fun c w' hc q=>(hs.2 c ?_).trans q) (fun _ q=>q) fun _ _ q=>q
  rintro rfl
  rcases hc with rfl | hc
  ·rw [hfree]at e; cases e
  ·rw [hfree]at hc; cases hc
 rcases hx with hk | hk
 ·refine wpAny_storeName_local hk hn (fun h' hn' hs=>?_) hcls
  obtain⟨oL,_,_,hoL,_⟩:=id hn
  refine h _ ⟨I.ok,I.os,I.bare,⟨fun b o e n hb hx=>?_,fun b o e n hb hx=>?_,I.base.free,fun b o e hx=>?_,I.base.tups,I.base.frzs,I.base.tbls⟩,⟨_,hn',fun j y v' e1 e2 e3=>?_⟩,fun y c e=>?_,I.free,I.freeC,fun p hp=>?_,tracked ⟨oL,hoL,I.free⟩ hs,by simpa using I.len⟩ ⟨_,hs,.inl rfl⟩
  ·exact(hs.2 b (Nat.ne_of_lt (Nat.lt_of_lt_of_le (Heap.lt_size e) I.ok.above))).trans (I.base.keep b o e n hb hx)
  ·obtain⟨sl,e1⟩:=I.base.slot b o e n hb hx
   exact⟨sl,(hs.2 b (Nat.ne_of_lt (Nat.lt_of_lt_of_le (Heap.lt_size e) I.ok.above))).trans e1⟩
  ·obtain⟨o',e1⟩:=I.base.there b o e hx
   exact⟨o',(hs.2 b (Nat.ne_of_lt (Nat.lt_of_lt_of_le (Heap.lt_size e) I.ok.above))).trans e1⟩
  ·by_cases hj:j=i
   ·subst hj
    rw [hi]at e1; cases e1
    rw [List.getElem?_set_self hiσ]at e2
    cases e2
    exact⟨u,r,.inl ⟨hk,by simp⟩⟩
   ·rw [List.getElem?_set_ne (Ne.symm hj)]at e2
    obtain⟨u',r',q⟩:=hl j y v' e1 e2 e3
    refine⟨u',r',?_⟩
    rcases q with ⟨k,e⟩ | ⟨k,c,e,z⟩
    ·refine .inl ⟨k,?_⟩
     have:y≠x:=fun e=>hj (zfX hN e1 (e▸hi))
     simp [this,e]
    ·exact .inr ⟨k,c,e,z.sameBut hs (cne y c e)⟩
  ·obtain⟨w',z⟩:=I.cell y c e
   exact⟨w',z.sameBut hs (cne y c e)⟩
  ·obtain⟨e,n,ne,nf,d⟩:=I.pin p hp
   exact⟨(hs.2 p.1 ne).trans e,n,ne,nf,d⟩
 ·have hfn:X.fn x=true:=by
   rcases hf with z | z
   ·exact z
   ·rw [z]at hk; cases hk
  obtain⟨c,hc⟩:=I.ok.has x (.inl hk)
  obtain⟨w',z⟩:=I.cell x c hc
  refine wpAny_storeName_cell I.ok.kind hk hc z (fun h' hc' hs=>?_)
  obtain⟨oc,hoc,hocd⟩:=id z
  refine h { s with heap:=h' } ⟨I.ok,I.os,I.bare,⟨fun b o e n hb hx=>?_,fun b o e n hb hx=>?_,I.base.free,fun b o e hx=>?_,I.base.tups,I.base.frzs,I.base.tbls⟩,⟨m,hn.sameBut hs (Ne.symm (cne x c hc)),fun j y v' e1 e2 e3=>?_⟩,fun y c' e=>?_,I.free,I.freeC,fun p hp=>?_,tracked ⟨oc,hoc,I.freeC x c hc⟩ hs,by simpa using I.len⟩ ⟨c,hs,.inr hc⟩
  ·exact(hs.2 b (Nat.ne_of_lt (Nat.lt_of_lt_of_le (Heap.lt_size e) (I.ok.cab x c hfn hc)))).trans (I.base.keep b o e n hb hx)
  ·obtain⟨sl,e1⟩:=I.base.slot b o e n hb hx
   exact⟨sl,(hs.2 b (Nat.ne_of_lt (Nat.lt_of_lt_of_le (Heap.lt_size e) (I.ok.cab x c hfn hc)))).trans e1⟩
  ·obtain⟨o',e1⟩:=I.base.there b o e hx
   exact⟨o',(hs.2 b (Nat.ne_of_lt (Nat.lt_of_lt_of_le (Heap.lt_size e) (I.ok.cab x c hfn hc)))).trans e1⟩
  ·by_cases hj:j=i
   ·subst hj
    rw [hi]at e1; cases e1
    rw [List.getElem?_set_self hiσ]at e2
    cases e2
    exact⟨u,r,.inr ⟨.inl hk,c,hc,hc'⟩⟩
   ·rw [List.getElem?_set_ne (Ne.symm hj)]at e2
    obtain⟨u',r',q⟩:=hl j y v' e1 e2 e3
    refine⟨u',r',?_⟩
    rcases q with q | ⟨k,c',e,z'⟩
    ·exact .inl q
    ·refine .inr ⟨k,c',e,z'.sameBut hs ?_⟩
     rintro rfl
     exact hj (zfX hN e1 (I.ok.inj _ _ _ e hc▸hi))
  ·by_cases hcc:c'=c
   ·subst hcc; exact⟨_,hc'⟩
   ·obtain⟨w2,z2⟩:=I.cell y c' e
    exact⟨w2,z2.sameBut hs hcc⟩
  ·obtain⟨e,n,ne,nf,d⟩:=I.pin p hp
   refine⟨(hs.2 p.1 ?_).trans e,n,ne,nf,d⟩
   intro q
   rw [q,hoc]at e
   have q':oc=p.2:=Option.some.inj e
   exact d w' (by rw [<-q']; exact hocd)
theorem zdT{M:Model}{A:Around}{E:Value->Shared->Prop}{i:Nat}{x:Str}{v:V}{u:Value}{Q:Unit->Shared->Prop}(I:Inv X pins σ H s)(hN:X.N.Nodup)(hi:X.N[i]?=some x)(hx:Loc X.env.scope x)(r:zaj v u)
  (h:∀ s',Inv X pins (σ.set i (some v)) H s'->Q () s') (hf:X.fn x=true\/X.env.scope.names.lookup x=some .local:=by first | exact .inl rfl | exact .inr rfl | assumption):wpAny M A (storeName X.env x u) Q E s :=
 zgX I hN hi hx r (fun s' I' _=>h s' I') hf
theorem Inv.call'{s':Shared}{ch:List Addr}(I:Inv X pins σ H s)(ho:s'.os=s.os)(u:Un (frs X.stack) ch H H' s.heap s'.heap)(hok:HOk X.prog X.w H' s'.heap)(hg:AllBare s'.gens)
  (hch:∀ b∈ch,(b∈X.ex\/X.s₀.heap.objs.size<=b)/\b≠X.env.locals/\(∀ x c,X.env.cells.lookup x=some c->c≠b)/\∀ p∈X.pn++pins,p.1≠b):Inv X pins σ H' s':=by
 obtain⟨h',g',d',t',o'⟩:=s'
 have e:o'=s.os:=ho
 subst e
 exact I.call (g':=g') (t':=t') (d':=d') u hok hg hch
end
abbrev XK:=Value->Option Addr->Hp->Prop
abbrev St:=List (Option V)
abbrev VK:=V->Hp->Prop
abbrev TE:=St->Hp->VK->Prop
abbrev TT:=St->Hp->(Bool->Hp->Prop)->Prop
abbrev TA:=St->Hp->(List V->Hp->Prop)->Prop
structure Ends where
 nx:St->Hp->Prop
 rt:VK
 bk:St->Hp->Prop:=fun _ _=>False
 ct:St->Hp->Prop:=fun _ _=>False
abbrev TS:=Ends->St->Hp->Prop
def EP(X:Cx)(pins:List (Addr×Obj))(σ:St)(Q:VK)(u:Value)(s':Shared):Prop:=∃ v H',Inv X pins σ H' s'/\zaj v u/\Q v H'
def TP(X:Cx)(pins:List (Addr×Obj))(σ:St)(Q:Bool->Hp->Prop)(b:Bool)(s':Shared):Prop:=∃ H',Inv X pins σ H' s'/\Q b H'
def AP(X:Cx)(pins:List (Addr×Obj))(σ:St)(Q:List V->Hp->Prop)(us:List Value)(s':Shared):Prop:=∃ vs H',Inv X pins σ H' s'/\zM vs us/\Q vs H'
def SP(X:Cx)(pins:List (Addr×Obj))(D:Ends)(f:Flow)(s':Shared):Prop :=
 match f with
 | .next=>∃ σ' H',Inv X pins σ' H' s'/\D.nx σ' H'
 | .brk=>∃ σ' H',Inv X pins σ' H' s'/\D.bk σ' H'
 | .cont=>∃ σ' H',Inv X pins σ' H' s'/\D.ct σ' H'
 | .ret u=>∃ v σ' H',Inv X pins σ' H' s'/\zaj v u/\D.rt v H'
def PE(X:Cx)(e:Expr)(t:TE):Prop :=
 ∀ (pins:List (Addr×Obj)) (s:Shared) (σ:St) (H:Hp) (Q:VK),Inv X pins σ H s->t σ H Q->wpAny (model X.prog X.w) X.A (eval e X.env) (EP X pins σ Q) X.xe s
def PT(X:Cx)(e:Expr)(t:TT):Prop :=
 ∀ (pins:List (Addr×Obj)) (s:Shared) (σ:St) (H:Hp) (Q:Bool->Hp->Prop),Inv X pins σ H s->t σ H Q->wpAny (model X.prog X.w) X.A (isTrue e X.env (eval e X.env)) (TP X pins σ Q) X.xe s
def PW(X:Cx)(e:Expr)(t:TT):Prop :=
 ∀ (whole:Sem Value) (pins:List (Addr×Obj)) (s:Shared) (σ:St) (H:Hp) (Q:Bool->Hp->Prop),Inv X pins σ H s->t σ H Q->wpAny (model X.prog X.w) X.A (isTrue e X.env whole) (TP X pins σ Q) X.xe s
theorem PW.pt{X:Cx}{e:Expr}{t:TT}(h:PW X e t):PT X e t:=h _
def PA(X:Cx)(es:List Expr)(t:TA):Prop :=
 ∀ (pos:Pos) (pins:List (Addr×Obj)) (s:Shared) (σ:St) (H:Hp) (Q:List V->Hp->Prop),Inv X pins σ H s->t σ H Q->wpAny (model X.prog X.w) X.A (spliced (backTo pos (starEach es X.env))) (AP X pins σ Q) X.xe s
def PS(X:Cx)(st:Stmt)(t:TS):Prop :=
 ∀ (pins:List (Addr×Obj)) (s:Shared) (σ:St) (H:Hp) (D:Ends),Inv X pins σ H s->t D σ H->wpAny (model X.prog X.w) X.A (exec st X.env) (SP X pins D) X.xe s
def PSs(X:Cx)(st:List Stmt)(t:TS):Prop :=
 ∀ (pins:List (Addr×Obj)) (s:Shared) (σ:St) (H:Hp) (D:Ends),Inv X pins σ H s->t D σ H->wpAny (model X.prog X.w) X.A (execs st X.env) (SP X pins D) X.xe s
theorem thn{α:Type}{t:Sem α}{Q Q':α->Shared->Prop}{M:Model}{A:Around}{E:Value->Shared->Prop}{s:Shared}(h:wpAny M A t Q E s)(hQ:∀ a s,Q a s->Q' a s):wpAny M A t Q' E s:=wpAny_mono h hQ fun _ _ x=>x
section
variable {X:Cx}
theorem bin{a b:Expr}{ta tb:TE}(ha:PE X a ta)(hb:PE X b tb){pins:List (Addr×Obj)}{s:Shared}{σ:St}{H:Hp}{R:V->V->Hp->Prop}(I:Inv X pins σ H s)(h:ta σ H fun x H1=>tb σ H1 fun y H2=>R x y H2)
  {α:Type} {Q:α->Shared->Prop} {f:Value->Value->Sem α}
  (hf:∀ v u s2 x y H2,Inv X pins σ H2 s2->zaj x v->zaj y u->R x y H2->wpAny (model X.prog X.w) X.A (f v u) Q X.xe s2) :
  wpAny (model X.prog X.w) X.A (eval a X.env) (fun v s₁=>wpAny (model X.prog X.w) X.A (eval b X.env) (fun u s₂=>wpAny (model X.prog X.w) X.A (f v u) Q X.xe s₂) X.xe s₁) X.xe s:=by
 refine thn (ha pins s σ H _ I h) fun v s1 ⟨x,H1,I1,r1,q1⟩=>?_
 refine thn (hb pins s1 σ H1 _ I1 q1) fun u s2 ⟨y,H2,I2,r2,q2⟩=>?_
 exact hf v u s2 x y H2 I2 r1 r2 q2
def zgJ(i:Nat):TE:=fun σ H Q=>∃ v,σ[i]?=some (some v)/\Q v H
def tC(v:V):TE:=fun _ H Q=>Q v H
theorem zqo{i:Nat}{x:Str}{pos:Pos}(hN:X.N[i]?=some x)(hv:Vis X.env.scope x)(hd:(x==("__debug__":Str))=false:=by decide)(hcd:(x==("__classdict__":Str))=false:=by decide):PE X (.Name x pos) (zgJ i):=by
 intro pins s σ H Q I h
 obtain⟨v,e,h⟩:=h
 obtain⟨m,hn,hl⟩:=I.loc
 obtain⟨u,r,l⟩:=hl i x v hN e hv
 have fin:EP X pins σ Q u s:=⟨v,H,I,r,h⟩
 rcases l with ⟨hk,hm⟩ | ⟨hk,c,hc,hcell⟩
 ·exact wpAny_Name (wpAny_loadName_local I.ok.kind hk hn hm fin) hd
 ·rcases hk with hk | hk
  ·exact wpAny_Name (wpAny_loadName_cell I.ok.kind hk hc hcell fin) hd
  ·exact wpAny_Name (wpAny_loadName_free I.ok.kind hk hc hcell fin hcd) hd
theorem zqp{i j pos}:PE X (.Constant (.int i) j pos) (tC (.int i)):=fun _ _ _ H _ I h=>wpAny_Constant_int ⟨.int i,H,I.tok _,⟨_,rfl⟩,h⟩
theorem zts{b j pos}:PE X (.Constant (.bool b) j pos) (tC (.bl b)):=fun _ _ _ H _ I h=>Constant_bool ⟨.bl b,H,I,rfl,h⟩
theorem zqq{j pos}:PE X (.Constant .none j pos) (tC .non):=fun _ _ _ H _ I h=>Constant_none ⟨.non,H,I,rfl,h⟩
theorem zqr{x j pos}:PE X (.Constant (.str x) j pos) (tC (.str x)):=fun _ _ _ H _ I h=>Calls.Constant_str ⟨.str x,H,I.tok _,⟨_,rfl⟩,h⟩
def Gl(X:Cx)(x:Str):Prop:=X.env.kindOf x=some .globalImplicit
theorem zdE{E:Value->Shared->Prop}{pins:List (Addr×Obj)}{s:Shared}{σ:St}{H:Hp}{x:Str}{u:Value}{pos:Pos}{Q:Value->Shared->Prop}(I:Inv X pins σ H s)(hg:Gl X x)(hm:X.mg x=some u)(h:Q u s)
  (hd:(x==("__debug__":Str))=false:=by decide):wpAny (model X.prog X.w) X.A (eval (.Name x pos) X.env) Q E s :=
 Calls.Name_function_global I.ok.kind hg (Calls.loadGlobal_global (by rw [I.ok.glob]; exact I.mod.glob.keeps I.bk) hm h) hd
theorem zeq{E:Value->Shared->Prop}{pins:List (Addr×Obj)}{s:Shared}{σ:St}{H:Hp}{x:Str}{u:Value}{pos:Pos}{Q:Value->Shared->Prop}(I:Inv X pins σ H s)(hg:Gl X x)(hm:X.mg x=none)(hv:bootBuiltins x=some u)(h:Q u s)
  (hn:x ≠ "__name__":=by decide) (hd:(x==("__debug__":Str))=false:=by decide):wpAny (model X.prog X.w) X.A (eval (.Name x pos) X.env) Q E s:=by
 obtain⟨mb,h1,h2⟩:=I.mod.blt
 exact Calls.Name_function_global I.ok.kind hg (Calls.loadGlobal_builtin (by rw [I.ok.glob]; exact I.mod.glob.keeps I.bk) hm (by rw [I.ok.blt]; exact h1.keeps I.bk) ((h2 x hn).trans hv) h) hd
theorem zjJ{x:Str}{v:V}{u:Value}{pos:Pos}(hg:Gl X x)(hm:X.mg x=some u)(r:zaj v u)(hd:(x==("__debug__":Str))=false:=by decide):PE X (.Name x pos) (tC v) :=
 fun _ _ _ H _ I h=>zdE I hg hm ⟨v,H,I,r,h⟩ hd
theorem zns{x:Str}{v:V}{u:Value}{pos:Pos}(hg:Gl X x)(hm:X.mg x=none)(hv:bootBuiltins x=some u)(r:zaj v u)(hn:x ≠ "__name__":=by decide)(hd:(x==("__debug__":Str))=false:=by decide):PE X (.Name x pos) (tC v) :=
 fun _ _ _ H _ I h=>zeq I hg hm hv ⟨v,H,I,r,h⟩ hn hd
variable {a b:Expr} {ta tb:TE} {pos:Pos}
def PC(X:Cx)(op:CmpOp)(a b:Expr)(t:TE):Prop :=
 ∀ (pins:List (Addr×Obj)) (s:Shared) (σ:St) (H:Hp) (Q:VK),Inv X pins σ H s->t σ H Q ->
  wpAny (model X.prog X.w) X.A (eval a X.env) (fun v s₁=>wpAny (model X.prog X.w) X.A (eval b X.env) (fun u s₂=>wpAny (model X.prog X.w) X.A (compareOp op v u) (EP X pins σ Q) X.xe s₂) X.xe s₁) X.xe s
theorem zlp(b:Expr){op:CmpOp}(h:op≠.In)(h2:op≠.NotIn):behindInMarks op b=false:=by
 have e1:(op==CmpOp.In)=false:=by cases op<;>first | rfl | exact absurd rfl h
 have e2:(op==CmpOp.NotIn)=false:=by cases op<;>first | rfl | exact absurd rfl h2
 cases b<;>simp [behindInMarks,e1,e2]
def tB(t:TE):TT:=fun σ H Q=>t σ H fun x H1=>∃ c,x=.bl c/\Q c H1
theorem zvv{op:CmpOp}{t:TE}(h:PC X op a b t)(h1:behindInMarks op b=false:=by first | exact zlp _ (by decide) (by decide) | rfl):PT X (.Compare a [op] [b] pos) (tB t):=by
 intro pins s σ H Q I hw
 refine wpAny_isTrue_Compare1 (thn (h pins s σ H _ I hw) fun v s1 h1=>thn h1 fun u s2 h2=>thn h2 fun c s3 ⟨x,H1,I1,r1,q1⟩=>?_) h1
 obtain⟨d,rfl,q⟩:=q1
 cases r1
 exact wpAny_truthy_bool ⟨H1,I1,q⟩
theorem zqs{e:Expr}{t:TE}(h:PE X e t)(he:∀ whole,isTrue e X.env whole=(do let v <-whole; standAt e.pos; holding [v] (truthy v)):=by intro _; rfl):PT X e (tB t):=by
 intro pins s σ H Q I hw
 refine isTrue_plain (thn (h pins s σ H _ I hw) fun v s1 ⟨x,H1,I1,r1,q1⟩=>?_) (he _)
 obtain⟨d,rfl,q⟩:=q1
 cases r1
 exact wpAny_truthy_bool ⟨H1,I1,q⟩
variable {tA tB':TT} {zbW:List Expr}
def zqt(t u:TT):TT:=fun σ H Q=>t σ H fun c H1=>if c=true then u σ H1 Q else Q false H1
def tOr(t u:TT):TT:=fun σ H Q=>t σ H fun c H1=>if c=true then Q true H1 else u σ H1 Q
def zqu(t:TT):TT:=fun σ H Q=>t σ H fun c H1=>Q (!c) H1
theorem znt(ha:PT X a tA):PW X (.BoolOp .And [a] pos) tA:=by
 intro wh pins s σ H Q I h
 refine isTrue_and (thn (ha pins s σ H Q I h) fun c s1 e=>?_)
 cases c with
 | true=>exact isTrue_and_nil e
 | false=>exact e
theorem zqv(ha:PT X a tA):PW X (.BoolOp .Or [a] pos) tA:=by
 intro wh pins s σ H Q I h
 refine isTrue_or (thn (ha pins s σ H Q I h) fun c s1 e=>?_)
 cases c with
 | false=>exact isTrue_or_nil e
 | true=>exact e
theorem zqw(ha:PT X a tA)(hb:PW X (.BoolOp .And (b::zbW) pos) tB'):PW X (.BoolOp .And (a::b::zbW) pos) (zqt tA tB'):=by
 intro wh pins s σ H Q I h
 refine isTrue_and (thn (ha pins s σ H _ I h) fun c s1 ⟨H1,I1,q1⟩=>?_)
 cases c with
 | true=>exact hb wh pins s1 σ H1 Q I1 q1
 | false=>exact⟨H1,I1,q1⟩
theorem ztt(ha:PT X a tA)(hb:PW X (.BoolOp .Or (b::zbW) pos) tB'):PW X (.BoolOp .Or (a::b::zbW) pos) (tOr tA tB'):=by
 intro wh pins s σ H Q I h
 refine isTrue_or (thn (ha pins s σ H _ I h) fun c s1 ⟨H1,I1,q1⟩=>?_)
 cases c with
 | true=>exact⟨H1,I1,q1⟩
 | false=>exact hb wh pins s1 σ H1 Q I1 q1
theorem zqx(ha:PT X a tA):PT X (.UnaryOp .Not a pos) (zqu tA):=by
 intro pins s σ H Q I h
 exact isTrue_not (ha pins s σ H (fun c H1=>Q (!c) H1) I h)
def zlq(ta tb:TE):TE:=fun σ H Q=>ta σ H fun x H1=>∃ c,x=.bl c/\if c=true then tb σ H1 Q else Q (.bl false) H1
def zlr(ta:TE):TE:=fun σ H Q=>ta σ H fun x H1=>∃ c,x=.bl c/\Q (.bl (!c)) H1
theorem zqy{op}{t:TE}(h:PE X a t):PE X (.BoolOp op [a] pos) t:=fun pins s σ H Q I hw=>BoolOp_one (h pins s σ H Q I hw)
theorem zqz(ha:PE X a ta)(hb:PE X (.BoolOp .And (b::zbW) pos) tb):PE X (.BoolOp .And (a::b::zbW) pos) (zlq ta tb):=by
 intro pins s σ H Q I h
 refine BoolOp_and (thn (ha pins s σ H _ I h) fun v s1 ⟨x,H1,I1,r1,q1⟩=>?_)
 obtain⟨c,rfl,q1⟩:=q1
 cases r1
 refine wpAny_truthy_bool ?_
 cases c with
 | true=>exact hb pins s1 σ H1 Q I1 q1
 | false=>exact⟨.bl false,H1,I1,rfl,q1⟩
theorem zqA(ha:PE X a ta):PE X (.UnaryOp .Not a pos) (zlr ta):=by
 intro pins s σ H Q I h
 refine UnaryOp_ (thn (ha pins s σ H _ I h) fun v s1 ⟨x,H1,I1,r1,q1⟩=>?_)
 obtain⟨c,rfl,q1⟩:=q1
 cases r1
 exact not_of (wpAny_truthy_bool ⟨.bl (!c),H1,I1,rfl,q1⟩)
def tIf(t:TT)(ta tb:TE):TE:=fun σ H Q=>t σ H fun c H1=>if c=true then ta σ H1 Q else tb σ H1 Q
theorem zls{c:Expr}(hc:PT X c tA)(ha:PE X a ta)(hb:PE X b tb):PE X (.IfExp c a b pos) (tIf tA ta tb):=by
 intro pins s σ H Q I h
 refine wpAny_IfExp (thn (hc pins s σ H _ I h) fun d s1 ⟨H1,I1,q1⟩=>?_)
 cases d with
 | true=>exact ha pins s1 σ H1 Q I1 q1
 | false=>exact hb pins s1 σ H1 Q I1 q1
end
def SqL(K:PySem.W.Frag)(H:Hp)(a:Addr)(xs:List V):Prop :=
 Rd H a (.lst xs) \/
  ∃ (o:Obj) (its:Array Value) (n:Nat),K.lookup a=some o/\o.cls=.type "list"/\o.dict=none/\o.data=.seq its n/\its.size<=sizeLine/\zM xs its.toList
def SqT(K:PySem.W.Frag)(H:Hp)(a:Addr)(xs:List V):Prop :=
 Rd H a (.tup xs) \/
  ∃ (o:Obj) (its:Array Value) (n:Nat),K.lookup a=some o/\o.cls=.type "tuple"/\o.data=.seq its n/\its.size<=sizeLine/\zM xs its.toList
def zvw:Value->Option V
 | .none=>some .non
 | .bool b=>some (.bl b)
 | .int i _=>some (.int i)
 | .str x _=>some (.str x)
 | .bytes b _=>some (.byt b)
 | .float b _=>some (.flt b)
 | .ref a=>some (.ref a)
 | .type n=>some (.ty n)
 | _=>none
theorem zaj.abs{x:V}{u:Value}(r:zaj x u):zvw u=some x:=by
 cases x with
 | non=>cases r; rfl
 | bl _=>cases r; rfl
 | int _=>obtain⟨t,rfl⟩:=r; rfl
 | str _=>obtain⟨t,rfl⟩:=r; rfl
 | byt _=>obtain⟨t,rfl⟩:=r; rfl
 | flt _=>obtain⟨t,rfl⟩:=r; rfl
 | ref _=>cases r; rfl
 | ty _=>cases r; rfl
theorem zaj.inj{x y:V}{u:Value}(r:zaj x u)(q:zaj y u):x=y:=Option.some.inj (r.abs.symm.trans q.abs)
theorem zM.inj:∀ {xs ys:List V} {us:List Value},zM xs us->zM ys us->xs=ys
 | _,_,_,.nil,.nil=>rfl
 | _,_,_,.cons r t,.cons r' t'=>by rw [r.inj r',zM.inj t t']
section
variable {X:Cx} {pins:List (Addr×Obj)} {σ:St} {H:Hp} {s:Shared} {a:Addr} {xs ys:List V}
theorem SqL.of{K:PySem.W.Frag}(h:H a=some (.lst xs)):SqL K H a xs:=.inl (.inl h)
theorem SqT.of{K:PySem.W.Frag}(h:H a=some (.tup xs)):SqT K H a xs:=.inl (.inl h)
theorem Inv.list(I:Inv X pins σ H s)(h:SqL X.K H a xs):∃ its:List Value,zM xs its/\PlainL s.heap a its.toArray/\xs.length<=sizeLine:=by
 rcases h with h | ⟨o,its,n,hk,hc,hd,hs,hz,r⟩
 ·obtain⟨z,its,n,r,e⟩:=h.ok I.hok
  exact⟨its,r,⟨_,n,e,rfl,rfl,rfl⟩,z⟩
 ·refine⟨its.toList,r,⟨o,n,I.kIn a o hk,hc,hd,by simpa using hs⟩,?_⟩
  have e:=r.length
  simp only [Array.length_toList]at e
  omega
theorem Inv.tuple(I:Inv X pins σ H s)(h:SqT X.K H a xs):∃ its:List Value,zM xs its/\IsTup s.heap a its.toArray/\xs.length<=sizeLine:=by
 rcases h with h | ⟨o,its,n,hk,hc,hs,hz,r⟩
 ·obtain⟨z,its,r,p⟩:=h.ok I.hok
  exact⟨its,r,p,z⟩
 ·refine⟨its.toList,r,⟨o,I.kIn a o hk,hc,n,by simpa using hs⟩,?_⟩
  have e:=r.length
  simp only [Array.length_toList]at e
  omega
theorem Inv.list_inj(I:Inv X pins σ H s)(h:SqL X.K H a xs)(h':SqL X.K H a ys):xs=ys:=by
 obtain⟨its,r,⟨o,n,e,_,_,d⟩,_⟩:=I.list h
 obtain⟨its',r',⟨o',n',e',_,_,d'⟩,_⟩:=I.list h'
 rw [e]at e'; cases e'
 rw [d]at d'
 injection d' with d1 _
 have:its=its':=by simpa using congrArg Array.toList d1
 subst this
 exact r.inj r'
theorem Inv.tuple_inj(I:Inv X pins σ H s)(h:SqT X.K H a xs)(h':SqT X.K H a ys):xs=ys:=by
 obtain⟨its,r,⟨o,e,_,n,d⟩,_⟩:=I.tuple h
 obtain⟨its',r',⟨o',e',_,n',d'⟩,_⟩:=I.tuple h'
 rw [e]at e'; cases e'
 rw [d]at d'
 injection d' with d1 _
 have:its=its':=by simpa using congrArg Array.toList d1
 subst this
 exact r.inj r'
end
abbrev Cx.wish(X:Cx)(E:Value->Shared->Prop):Cx:={ X with xe:=E }
abbrev Cx.nox(X:Cx):Cx:=X.wish fun _ _=>False
theorem Cx.Ok.wish{X:Cx}(ok:X.Ok)(E:Value->Shared->Prop):(X.wish E).Ok :=
 ⟨ok.mod,ok.kind,ok.glob,ok.blt,ok.above,ok.inj,ok.has,ok.cab,ok.hd,ok.frames,ok.stk,ok.exf,ok.bs,ok.bsz,ok.noex,ok.exfs,ok.funs,ok.frf⟩
theorem Cx.Ok.unwish{X:Cx}{E:Value->Shared->Prop}(ok:(X.wish E).Ok):X.Ok :=
 ⟨ok.mod,ok.kind,ok.glob,ok.blt,ok.above,ok.inj,ok.has,ok.cab,ok.hd,ok.frames,ok.stk,ok.exf,ok.bs,ok.bsz,ok.noex,ok.exfs,ok.funs,ok.frf⟩
section
variable {X:Cx} {pins:List (Addr×Obj)} {σ:St} {H:Hp} {s:Shared} {E:Value->Shared->Prop}
theorem Inv.wish(I:Inv X pins σ H s)(E:Value->Shared->Prop):Inv (X.wish E) pins σ H s:=⟨I.ok.wish E,I.os,I.bare,I.base,I.loc,I.cell,I.free,I.freeC,I.pin,I.hok,I.len⟩
theorem Inv.unwish(I:Inv (X.wish E) pins σ H s):Inv X pins σ H s:=⟨I.ok.unwish,I.os,I.bare,I.base,I.loc,I.cell,I.free,I.freeC,I.pin,I.hok,I.len⟩
theorem SP.unwish{D:Ends}{f:Flow}{s':Shared}(h:SP (X.wish E) pins D f s'):SP X pins D f s':=by
 cases f with
 | next=>obtain⟨σ',H',I,q⟩:=h; exact⟨σ',H',I.unwish,q⟩
 | brk=>obtain⟨σ',H',I,q⟩:=h; exact⟨σ',H',I.unwish,q⟩
 | cont=>obtain⟨σ',H',I,q⟩:=h; exact⟨σ',H',I.unwish,q⟩
 | ret u=>obtain⟨v,σ',H',I,r,q⟩:=h; exact⟨v,σ',H',I.unwish,r,q⟩
theorem PSs.nox{st:List Stmt}{t:TS}(h:PSs X.nox st t):PSs X st t:=fun pins s σ H D I hw =>
 wpAny_mono (h pins s σ H D (I.wish _) hw) (fun _ _ q=>q.unwish) fun _ _ z=>False.elim z
end
section
variable {X:Cx} {st:Stmt} {zbW:List Stmt} {t u:TS} {e:Expr} {te:TE} {pos:Pos}
def zlt:TS:=fun D σ H=>D.nx σ H
def zqB(t u:TS):TS:=fun D σ H=>t { D with nx:=u D } σ H
theorem znu:PSs X [] zlt:=fun _ _ σ H _ I h=>wpAny_execs_nil ⟨σ,H,I,h⟩
theorem zlu(h1:PS X st t)(h2:PSs X zbW u):PSs X (st::zbW) (zqB t u):=by
 intro pins s σ H D I h
 refine wpAny_execs_cons (thn (h1 pins s σ H { D with nx:=u D } I h) fun f s1 q=>?_)
 cases f with
 | next =>
  obtain⟨σ',H',I',q⟩:=q
  exact h2 pins s1 σ' H' D I' q
 | ret v=>exact q
 | brk=>exact q
 | cont=>exact q
theorem zjK(h1:PS X st t):PSs X [st] t:=by
 intro pins s σ H D I h
 refine wpAny_execs_cons (thn (h1 pins s σ H D I h) fun f s1 q=>?_)
 cases f with
 | next=>exact wpAny_execs_nil q
 | ret v=>exact q
 | brk=>exact q
 | cont=>exact q
def zlv:TS:=fun D σ H=>D.ct σ H
theorem zh3:PS X (.Continue pos) zlv:=fun _ _ σ H _ I h=>wpAny_Continue ⟨σ,H,I,h⟩
theorem Inv.quiet{pins:List (Addr×Obj)}{σ:St}{H:Hp}{s:Shared}(I:Inv X pins σ H s):interactive X.env=false:=by simp [interactive,I.ok.kind]
def zh4(te:TE):TS:=fun D σ H=>te σ H fun _ H1=>D.nx σ H1
theorem znv(he:PE X e te)(hs:swapsWith e none pos.line X.env=pure false:=by rfl):PS X (.Expr e pos) (zh4 te):=by
 intro pins s σ H D I h
 exact wpAny_Expr_any (thn (he pins s σ H _ I h) fun v s1 ⟨x,H1,I1,r1,q1⟩=>⟨σ,H1,I1,q1⟩) I.quiet hs
def znw(te:TE):TS:=fun D σ H=>te σ H D.rt
theorem zqC(he:PE X e te):PS X (.Return (some e) pos) (znw te):=by
 intro pins s σ H D I h
 exact wpAny_Return_some (thn (he pins s σ H _ I h) fun v s1 ⟨x,H1,I1,r1,q1⟩=>⟨x,σ,H1,I1,r1,q1⟩)
def zqD(c:TT)(t u:TS):TS:=fun D σ H=>c σ H fun b H1=>if b=true then t D σ H1 else u D σ H1
theorem ztu{c:Expr}{a b:List Stmt}{tc:TT}(hc:PT X c tc)(ha:PSs X a t)(hb:PSs X b u):PS X (.If c a b pos) (zqD tc t u):=by
 intro pins s σ H D I h
 refine wpAny_If (thn (hc pins s σ H _ I h) fun d s1 ⟨H1,I1,q1⟩=>?_)
 cases d with
 | true=>exact ha pins s1 σ H1 D I1 q1
 | false=>exact hb pins s1 σ H1 D I1 q1
end
abbrev TG:=V->St->Hp->(St->Hp->Prop)->Prop
abbrev TGs:=List V->St->Hp->(St->Hp->Prop)->Prop
def PG(X:Cx)(target:Expr)(t:TG):Prop :=
 ∀ (pins:List (Addr×Obj)) (s:Shared) (σ:St) (H:Hp) (v:V) (u:Value) (Q:St->Hp->Prop),Inv X pins σ H s->zaj v u->t v σ H Q ->
  wpAny (model X.prog X.w) X.A (assign target X.env u) (fun _ s'=>∃ σ' H',Inv X pins σ' H' s'/\Q σ' H') X.xe s
def PGs(X:Cx)(ts:List Expr)(t:TGs):Prop :=
 ∀ (pins:List (Addr×Obj)) (s:Shared) (σ:St) (H:Hp) (vs:List V) (us:List Value) (Q:St->Hp->Prop),Inv X pins σ H s->zM vs us->t vs σ H Q ->
  wpAny (model X.prog X.w) X.A (assignInOrder ((assignEach ts X.env).map (·.2)) us) (fun _ s'=>∃ σ' H',Inv X pins σ' H' s'/\Q σ' H') X.xe s
abbrev znx:=V->V->V->Hp->(Hp->Prop)->Prop
def zqE(X:Cx)(t:znx):Prop :=
 ∀ (pins:List (Addr×Obj)) (s:Shared) (σ:St) (H:Hp) (o i v:V) (ov iv u:Value) (Q:Hp->Prop),Inv X pins σ H s->zaj o ov->zaj i iv->zaj v u->t o i v H Q ->
  wpAny (model X.prog X.w) X.A (setItem ov iv u) (fun _ s'=>∃ H',Inv X pins σ H' s'/\Q H') X.xe s
section
variable {X:Cx} {pos:Pos}
def zel(i:Nat):TG:=fun v σ H Q=>Q (σ.set i (some v)) H
theorem zny{i:Nat}{x:Str}(hN:X.N.Nodup)(hi:X.N[i]?=some x)(hx:Loc X.env.scope x)(hf:X.fn x=true\/X.env.scope.names.lookup x=some .local:=by first | exact .inl rfl | exact .inr rfl | assumption):PG X (.Name x pos) (zel i):=by
 intro pins s σ H v u Q I r h
 exact wpAny_assign_Name (zdT I hN hi hx r (fun s' I'=>⟨_,H,I',h⟩) hf)
def zqF:TGs:=fun vs σ H Q=>vs=[]/\Q σ H
def zlw(t:TG)(u:TGs):TGs:=fun vs σ H Q=>∃ v r,vs=v::r/\t v σ H fun σ' H'=>u r σ' H' Q
theorem znz:PGs X [] zqF:=by
 intro pins s σ H vs us Q I r h
 obtain⟨e,h⟩:=h
 subst e
 cases r
 exact assignInOrder_nil ⟨σ,H,I,h⟩
theorem zlx{e:Expr}{es:List Expr}{t:TG}{u:TGs}(h1:PG X e t)(h2:PGs X es u)
  (hs:(assignEach (e::es) X.env).map (·.2)=assign e X.env::(assignEach es X.env).map (·.2):=by rfl):PGs X (e::es) (zlw t u):=by
 intro pins s σ H vs us Q I r h
 obtain⟨v,vr,e1,h⟩:=h
 subst e1
 cases r with
 | cons r rr =>
  rw [hs]
  refine assignInOrder_cons (thn (h1 pins s σ H _ _ _ I r h) fun _ s1 ⟨σ1,H1,I1,q1⟩=>?_)
  exact h2 pins s1 σ1 H1 _ _ Q I1 rr q1
def zqG(K:PySem.W.Frag)(n:Nat)(t:TGs):TG:=fun v σ H Q=>∃ a xs,v=.ref a/\SqT K H a xs/\xs.length=n/\t xs σ H Q
theorem zqH{es:List Expr}{k:Nat}{t:TGs}{n:Nat}(hc:X.calm=true)(h:PGs X es t)
  (hn:(assignEach es X.env).length=n:=by rfl) (hst:(assignEach es X.env).findIdx? (·.1)=none:=by rfl):PG X (.Tuple es k pos) (zqG X.K n t):=by
 intro pins s σ H v u Q I r hw
 obtain⟨a,xs,e1,hq,hl,hw⟩:=hw
 subst e1
 cases r
 obtain⟨its,rv,ht,hz⟩:=I.tuple hq
 refine assign_Tuple_tuple (I.ok.hd hc) ht (by simp [hn,<-hl,rv.length]) hst fun h' hx=>?_
 have I1:Inv X pins σ H { s with heap:=h' }:=I.kept (t':=s.toks) fun b o e=>hx b o (Nat.ne_of_lt (Heap.lt_size e)) e
 exact h pins _ σ H xs _ Q I1 (by simpa using rv) hw
def zqI(to ti:TE)(t:znx):TG:=fun v σ H Q=>to σ H fun o H1=>ti σ H1 fun i H2=>t o i v H2 fun H3=>Q σ H3
theorem zqJ{o i:Expr}{to ti:TE}{t:znx}(ho:PE X o to)(hi:PE X i ti)(hs:zqE X t)
  (ha:∀ v,assign (.Subscript o i pos) X.env v=(do
   let ov <-holding [v] (eval o X.env)
   let iv <-holding [v,ov] (eval i X.env)
   standAt pos
   holding [v,ov,iv] (setItem ov iv v)
   release [v,ov,iv] []):=by intro _; rfl):PG X (.Subscript o i pos) (zqI to ti t):=by
 intro pins s σ H v u Q I r h
 rw [ha]
 refine wpAny_bind (wpAny_holding (thn (ho pins s σ H _ I h) fun ov s1 ⟨x,H1,I1,r1,q1⟩=>?_))
 refine wpAny_bind (wpAny_holding (thn (hi pins s1 σ H1 _ I1 q1) fun iv s2 ⟨y,H2,I2,r2,q2⟩=>?_))
 refine wpAny_bind (wpAny_standAt (wpAny_bind (wpAny_holding (thn (hs pins s2 σ H2 x y v ov iv u _ I2 r1 r2 r q2) fun _ s3 ⟨H3,I3,q3⟩=>?_))))
 exact wpAny_release ⟨σ,H3,I3,q3⟩
def zgK(te:TE)(g:TG):TS:=fun D σ H=>te σ H fun x H1=>g x σ H1 D.nx
theorem zqK{tg e:Expr}{te:TE}{g:TG}(he:PE X e te)(hg:PG X tg g)(hs:swapsWithSole [tg] e pos.line X.env=pure false:=by rfl)(hw:swappedStores [tg] e X.env=pure none:=by rfl)
  (h1:(assignEach [tg] X.env).map (·.2)=[assign tg X.env]:=by rfl):PS X (.Assign [tg] e pos) (zgK te g):=by
 intro pins s σ H D I h
 refine wpAny_Assign_stores (thn (he pins s σ H _ I h) fun v s1 ⟨x,H1,I1,r1,q1⟩=>?_) hs hw
 rw [h1]
 exact thn (hg pins s1 σ H1 x v _ I1 r1 q1) fun _ s2 q=>q
theorem zqL{i:Nat}{x:Str}{e:Expr}{te:TE}{pos':Pos}(hN:X.N.Nodup)(hi:X.N[i]?=some x)(hx:Loc X.env.scope x)(he:PE X e te)(hs:swapsWith e (some (.Name x pos')) pos.line X.env=pure false:=by rfl)(hf:X.fn x=true\/X.env.scope.names.lookup x=some .local:=by first | exact .inl rfl | exact .inr rfl | assumption) :
  PS X (.Assign [.Name x pos'] e pos) (zgK te (zel i)):=by
 intro pins s σ H D I h
 refine wpAny_Assign_Name (thn (he pins s σ H _ I h) fun v s1 ⟨y,H1,I1,r1,q1⟩=>?_) hs
 exact zdT I1 hN hi hx r1 (fun s2 I2=>⟨_,H1,I2,q1⟩) hf
def zqM(i j:Nat)(ta:TA):TS:=fun D σ H=>ta σ H fun vs H1=>∃ v w,vs=[v,w]/\D.nx ((σ.set i (some v)).set j (some w)) H1
theorem zqN{i j:Nat}{x y:Str}{a b:Expr}{ta:TA}{px py pt:Pos}{kt k2 pt2}(hc:X.calm=true)(hN:X.N.Nodup)(hi:X.N[i]?=some x)(hj:X.N[j]?=some y)(hij:i≠j)
  (hx:X.env.scope.names.lookup x=some .local) (hy:X.env.scope.names.lookup y=some .local) (ha:PA X [a,b] ta)
  (hw:swappedStores [.Tuple [.Name x px,.Name y py] kt pt] (.Tuple [a,b] k2 pt2) X.env=pure (some [x,y]))
  (hs:swapsWithSole [.Tuple [.Name x px,.Name y py] kt pt] (.Tuple [a,b] k2 pt2) pos.line X.env=pure false:=by rfl) :
  PS X (.Assign [.Tuple [.Name x px,.Name y py] kt pt] (.Tuple [a,b] k2 pt2) pos) (zqM i j ta):=by
 intro pins s σ H D I h
 rw [exec_Assign_arm]
 refine wpAny_bind (wpAny_standAt ?_)
 rw [hs]
 refine wpAny_bind (wpAny_pure ?_)
 rw [if_neg (by decide)]
 refine wpAny_bind (Tuple_ (thn (ha _ pins s σ H _ I h) fun us s1 ⟨vs,H1,I1,r1,q1⟩=>?_))
 obtain⟨v,w,e1,q1⟩:=q1
 subst e1
 obtain⟨u1,u2,rfl,rv,rw'⟩:∃ u1 u2,us=[u1,u2]/\zaj v u1/\zaj w u2:=by
  cases r1 with
  | cons p q =>
   cases q with
   | cons p' q' =>
    cases q'
    exact⟨_,_,rfl,p,p'⟩
 refine wpAny_newObj_type ?_ (by show 2<=sizeLine; decide)
 have I2:Inv X pins σ H1 { s1 with heap:=s1.heap.push { cls:=.type "tuple",data:=.seq [u1,u2].toArray } }:=I1.kept (t':=s1.toks) fun b o e=>Heap.get?_push_of_some _ e
 rw [hw]
 refine wpAny_bind (wpAny_pure ?_)
 show wpAny (model X.prog X.w) X.A (do rule "assign.swapped-stores"; let items <-unpackItems (.ref s1.heap.objs.size) 2 none; assignInOrder [fun v=>bindName X.env y v,fun v=>bindName X.env x v] items.reverse; pure Flow.next) _ _ _
 refine wpAny_bind (wpAny_rule (wpAny_bind (unpackItems_tuple (items:=#[u1,u2]) (I.ok.hd hc) (IsTup.new s1.heap _) fun h' hx'=>?_)))
 have I3:=I2.kept (h':=h') (t':=s1.toks) fun b o e=>hx' b o (Nat.ne_of_lt (Heap.lt_size e)) e
 show wpAny _ _ (assignInOrder [fun v=>bindName X.env y v,fun v=>bindName X.env x v] [u2,u1] >>= fun _=>pure Flow.next) _ _ _
 refine wpAny_bind (assignInOrder_cons (wpAny_bindName (zdT I3 hN hj (.inl hy) rw' (fun s2 I4=>?_) (.inr hy))))
 refine assignInOrder_cons (wpAny_bindName (zdT I4 hN hi (.inl hx) rv (fun s3 I5=>assignInOrder_nil (wpAny_pure ?_)) (.inr hx)))
 rw [List.set_comm _ _ (Ne.symm hij)]at I5
 exact⟨_,H1,I5,q1⟩
end
section
variable {X:Cx} {pos:Pos}
def ziW(c:TT)(tb:TS):TS:=fun D σ H=>∃ W:Nat->St->Hp->Prop,(∃ m,W m σ H)/\∀ m σ H,W m σ H ->
 c σ H fun b H1=>if b=true then ∃ N:St->Hp->Prop,(∀ σ' H',N σ' H'->∃ m',m' < m/\W m' σ' H')/\tb { D with nx:=N,ct:=N,bk:=D.nx } σ H1 else D.nx σ H1
theorem zly{c:Expr}{body:List Stmt}{tc:TT}{tb:TS}(hp:PassesOwn (model X.prog X.w) X.A X.env X.xe)(hc:PT X c tc)(hb:PSs X body tb):PS X (.While c body [] pos) (ziW tc tb):=by
 intro pins s σ H D I h
 obtain⟨W,⟨m0,w0⟩,turn⟩:=h
 refine wpAny_While (codeAny_whileLoop (fun n s'=>∃ σ' H',Inv X pins σ' H' s'/\W n σ' H') ?_ m0 ⟨σ,H,I,w0⟩)
 rintro n s1 ⟨σ1,H1,I1,w1⟩
 refine wpAny_passesOwn hp (thn (hc pins s1 σ1 H1 _ I1 (turn n σ1 H1 w1)) fun b s2 ⟨H2,I2,q2⟩=>?_)
 cases b with
 | true =>
  obtain⟨N,hN,q2⟩:=q2
  rw [if_pos rfl]
  refine wpAny_passesOwn hp (thn (hb pins s2 σ1 H2 _ I2 q2) fun f s3 q3=>?_)
  cases f with
  | next =>
   obtain⟨σ3,H3,I3,n3⟩:=q3
   obtain⟨m',hm,w3⟩:=hN σ3 H3 n3
   exact⟨m',hm,σ3,H3,I3,w3⟩
  | cont =>
   obtain⟨σ3,H3,I3,n3⟩:=q3
   obtain⟨m',hm,w3⟩:=hN σ3 H3 n3
   exact⟨m',hm,σ3,H3,I3,w3⟩
  | brk=>exact q3
  | ret v=>exact q3
 | false =>
  rw [if_neg Bool.false_ne_true]
  exact wpAny_execs_nil ⟨σ1,H2,I2,q2⟩
end
structure It where
 go:Nat->Hp->Prop
 yld:Nat->Hp->V->Hp->Prop
 stop:Nat->Hp->Prop
def zeC(X:Cx)(pins:List (Addr×Obj))(H:Hp)(b:Addr):Prop :=
 H b=none/\b≠X.env.locals/\b∉X.fs/\(b∈X.ex\/X.s₀.heap.objs.size<=b)/\(∀ x c,X.env.cells.lookup x=some c->c≠b)/\∀ p∈X.pn++pins,p.1≠b
theorem Inv.fpOk{X:Cx}{pins:List (Addr×Obj)}{σ:St}{H H':Hp}{s:Shared}{b:Addr}(I:Inv X pins σ H s)(hb:s.heap.objs.size<=b)(hn:H' b=none):zeC X pins H' b:=by
 refine⟨hn,Nat.ne_of_gt (Nat.lt_of_lt_of_le I.lt hb),I.nofs hb,.inr (Nat.le_trans I.sz hb),fun x c e z=>?_,fun p hp z=>?_⟩
 ·obtain⟨v,q⟩:=I.cell x c e
  exact absurd (Nat.lt_of_lt_of_le q.lt (by rw [z]; exact hb)) (Nat.lt_irrefl _)
 ·exact absurd (Nat.lt_of_lt_of_le (Heap.lt_size (I.pin p hp).1) (by rw [z]; exact hb)) (Nat.lt_irrefl _)
structure Turn (P:Program) (w:World) (K:PySem.W.Frag) (tg:Expr) (J:It) (fp:List Addr) (it:Addr) (tn:Nat->Heap->Prop):Prop where
 mem:it∈fp
 obj:∀ i h,tn i h->∀ b∈fp,∃ o,h.get? b=some o/\∀ v,o.data≠.cell v
 keep:∀ i h h',tn i h->(∀ b∈fp,∀ o,h.get? b=some o->h'.get? b=some o)->tn i h'
 item:∀ (X:Cx),X.prog=P->X.w=w->X.K=K->X.calm=true->∀ (i:Nat) (pins:List (Addr×Obj)) (s:Shared) (σ:St) (H:Hp) (E:Value->Shared->Prop),Inv X pins σ H s->(∀ b∈fp,zeC X pins H b)->tn i s.heap->J.go i H ->
  wpAny (model P w) X.A (pyNext (.ref it)) (fun r s1=>∃ u,r=some u /\
   wpAny (model P w) X.A (letOwnedTupleGo tg (.ref it) u) (fun _ s2=>∃ x H',Inv X pins σ H' s2/\zaj x u/\J.yld i H x H'/\tn (i+1) s2.heap/\∀ b∈fp,H' b=none) E s1) E s
 done:∀ (X:Cx),X.prog=P->X.w=w->X.K=K->X.calm=true->∀ (i:Nat) (pins:List (Addr×Obj)) (s:Shared) (σ:St) (H:Hp) (E:Value->Shared->Prop),Inv X pins σ H s->(∀ b∈fp,zeC X pins H b)->tn i s.heap->J.stop i H ->
  wpAny (model P w) X.A (pyNext (.ref it)) (fun r s1=>r=none/\Inv X pins σ H s1) E s
 self:∀ (A:Around) (i:Nat) (s:Shared) (Q:Value->Shared->Prop) (E:Value->Shared->Prop),tn i s.heap->Q (.ref it) s->wpAny (model P w) A (pyIter (.ref it)) Q E s
abbrev TI:=St->Hp->(It->Hp->Prop)->Prop
def PIE(X:Cx)(pins:List (Addr×Obj))(σ:St)(tg:Expr)(R:It->Hp->Prop)(itv:Value)(s2:Shared):Prop :=
 ∃ (it:Addr) (fp:List Addr) (tn:Nat->Heap->Prop) (J:It) (H':Hp),itv=.ref it/\Inv X pins σ H' s2/\Turn X.prog X.w X.K tg J fp it tn/\tn 0 s2.heap/\(∀ b∈fp,zeC X pins H' b)/\R J H'
def PI(X:Cx)(tg iter:Expr)(wi:TI):Prop :=
 ∀ (pins:List (Addr×Obj)) (s:Shared) (σ:St) (H:Hp) (R:It->Hp->Prop),Inv X pins σ H s->wi σ H R ->
  wpAny (model X.prog X.w) X.A (eval iter X.env) (fun v s1=>wpAny (model X.prog X.w) X.A (pyIter v) (PIE X pins σ tg R) X.xe s1) X.xe s
theorem zlz{M:Model}{A:Around}{E:Value->Shared->Prop}{s:Shared}{tg:Expr}{it:Addr}{u:Value}{o:Obj}{n:String}{vs:Array Value}{Q:Unit->Shared->Prop}(ho:s.heap.get? it=some o)(hc:o.cls=.type n)(hd:o.data=.fields vs)
  (hn:["enumerate", "zip", "dict_itemiterator", "dict_reverseitemiterator", "odict_iterator", "itertools.zip_longest", "itertools.pairwise"].contains n=false) (hQ:Q () s):wpAny M A (letOwnedTupleGo tg (.ref it) u) Q E s:=by
 unfold letOwnedTupleGo
 cases tg<;>first
  | exact wpAny_pure hQ
  | (cases u<;>first
    | exact wpAny_pure hQ
    | (refine wpAny_bind (wpAny_load ho ?_)
       rw [hc,hd]
       show wpAny M A (if(["enumerate", "zip", "dict_itemiterator", "dict_reverseitemiterator", "odict_iterator", "itertools.zip_longest", "itertools.pairwise"].contains n && vs[0]?==some (rawInt _))=true then _ else _) Q E s
       rw [if_neg (by intro h; rw [hn,Bool.false_and]at h; cases h)]
       exact wpAny_pure hQ))
def Itl(K:PySem.W.Frag)(a:Addr):It :=
 ⟨fun i H=>∃ xs x,SqL K H a xs/\xs[i]?=some x,fun i H x H'=>H'=H/\∀ xs,SqL K H a xs->xs[i]?=some x,fun i H=>∃ xs,SqL K H a xs/\xs.length<=i⟩
def Itt(K:PySem.W.Frag)(a:Addr):It :=
 ⟨fun i H=>∃ xs x,SqT K H a xs/\xs[i]?=some x,fun i H x H'=>H'=H/\∀ xs,SqT K H a xs->xs[i]?=some x,fun i H=>∃ xs,SqT K H a xs/\xs.length<=i⟩
def Itr(lo:Int)(n:Nat):It:=⟨fun i _=>i < n,fun i H x H'=>H'=H/\x=.int (lo+i),fun i _=>n<=i⟩
theorem zkD{P:Program}{w:World}{K:PySem.W.Frag}{tg:Expr}(a it:Addr):Turn P w K tg (Itl K a) [it] it (fun i h=>h.IsListIter it a i) where
 mem:=by simp
 obj:=fun i h st b hb=>by
  have e:b=it:=by simpa using hb
  subst e
  obtain⟨o,e,c,d⟩:=st
  exact⟨o,e,fun v z=>by rw [d]at z; cases z⟩
 keep:=fun i h h' st k=>st.at fun o e=>k it (by simp) o e
 item:=by
  intro X hP hw hK hc i pins s σ H E I hf st hg
  subst hP hw hK
  obtain⟨xs,x,hq,hx⟩:=hg
  obtain⟨its,rv,p,hz⟩:=I.list hq
  obtain⟨u,hu,ru⟩:=rv.get hx
  obtain⟨f0,f1,f2,f3,f4,f5⟩:=hf it (by simp)
  refine wpAny_pyNext_list_item st p.isList (x:=u) (by simpa using hu) fun h' st' sb=>?_
  have I1:Inv X pins σ H { s with heap:=h' }:=I.turned (t':=s.toks) (fun b o hb e=>(sb.2 b hb).trans e) f0 f1 f3 f4 f5
  obtain⟨o,e,c,d⟩:=id st'
  exact⟨u,rfl,zlz (s:={ s with heap:=h' }) e c d (by decide) ⟨x,H,I1,ru,⟨rfl,fun ys hy=>by rw [I.list_inj hy hq]; exact hx⟩,st',fun b hb=>(hf b hb).1⟩⟩
 done:=by
  intro X hP hw hK hc i pins s σ H E I hf st hg
  subst hP hw hK
  obtain⟨xs,hq,hx⟩:=hg
  obtain⟨its,rv,p,hz⟩:=I.list hq
  obtain⟨f0,f1,f2,f3,f4,f5⟩:=hf it (by simp)
  have hl:=rv.length
  exact wpAny_pyNext_list_end (I.ok.hd hc) st p.isList (by simp; omega) fun h' eb=>⟨rfl,I.turned (t':=s.toks) (fun b o hb e=>eb b o hb e) f0 f1 f3 f4 f5⟩
 self:=fun _ _ _ _ _ st h=>wpAny_pyIter_listiter st h
theorem zfY{P:Program}{w:World}{K:PySem.W.Frag}{tg:Expr}(a it:Addr):Turn P w K tg (Itt K a) [it] it (fun i h=>h.IsTupleIter it a i) where
 mem:=by simp
 obj:=fun i h st b hb=>by
  have e:b=it:=by simpa using hb
  subst e
  obtain⟨o,e,c,d⟩:=st
  exact⟨o,e,fun v z=>by rw [d]at z; cases z⟩
 keep:=fun i h h' st k=>st.at fun o e=>k it (by simp) o e
 item:=by
  intro X hP hw hK hc i pins s σ H E I hf st hg
  subst hP hw hK
  obtain⟨xs,x,hq,hx⟩:=hg
  obtain⟨its,rv,p,hz⟩:=I.tuple hq
  obtain⟨u,hu,ru⟩:=rv.get hx
  obtain⟨f0,f1,f2,f3,f4,f5⟩:=hf it (by simp)
  refine wpAny_pyNext_tuple_item st (show s.heap.IsTuple a its.toArray from p) (x:=u) (by simpa using hu) fun h' st' sb=>?_
  have I1:Inv X pins σ H { s with heap:=h' }:=I.turned (t':=s.toks) (fun b o hb e=>(sb.2 b hb).trans e) f0 f1 f3 f4 f5
  obtain⟨o,e,c,d⟩:=id st'
  exact⟨u,rfl,zlz (s:={ s with heap:=h' }) e c d (by decide) ⟨x,H,I1,ru,⟨rfl,fun ys hy=>by rw [I.tuple_inj hy hq]; exact hx⟩,st',fun b hb=>(hf b hb).1⟩⟩
 done:=by
  intro X hP hw hK hc i pins s σ H E I hf st hg
  subst hP hw hK
  obtain⟨xs,hq,hx⟩:=hg
  obtain⟨its,rv,p,hz⟩:=I.tuple hq
  obtain⟨f0,f1,f2,f3,f4,f5⟩:=hf it (by simp)
  have hl:=rv.length
  exact wpAny_pyNext_tuple_end (I.ok.hd hc) st (show s.heap.IsTuple a its.toArray from p) (by simp; omega) fun h' eb=>⟨rfl,I.turned (t':=s.toks) (fun b o hb e=>eb b o hb e) f0 f1 f3 f4 f5⟩
 self:=fun _ _ _ _ _ st h=>wpAny_pyIter_tupleiter st h
theorem ziX{P:Program}{w:World}{K:PySem.W.Frag}{tg:Expr}(it:Addr)(lo:Int)(n:Nat):Turn P w K tg (Itr lo n) [it] it (fun i h=>IsRangeIter h it (lo+(i:Nat) * 1) ((n:Int) - (i:Nat)) 1) where
 mem:=by simp
 obj:=fun i h st b hb=>by
  have e:b=it:=by simpa using hb
  subst e
  exact⟨_,st,fun v z=>by
   have z':Data.fields _=Data.cell v:=z
   cases z'⟩
 keep:=fun i h h' st k=>k it (by simp) _ st
 item:=by
  intro X hP hw hK hc i pins s σ H E I hf st hg
  subst hP hw hK
  obtain⟨f0,f1,f2,f3,f4,f5⟩:=hf it (by simp)
  have W:=Walks.range (prog:=X.prog) (w:=X.w) (I.ok.hd hc) it lo 1 n
  refine W.item i s _ _ hg st fun v h' tk hv st' kk=>?_
  obtain⟨t,rfl⟩:=hv
  have I1:Inv X pins σ H { s with heap:=h',toks:=tk }:=I.turned (fun b o hb e=>kk b o (by simpa using hb) e) f0 f1 f3 f4 f5
  refine⟨_,rfl,zlz (s:={ s with heap:=h',toks:=tk }) (n := "range_iterator") st' rfl rfl (by decide) ⟨.int (lo+i),H,I1,⟨t,?_⟩,⟨rfl,rfl⟩,st',fun b hb=>(hf b hb).1⟩⟩
  rw [Int.mul_one]
 done:=by
  intro X hP hw hK hc i pins s σ H E I hf st hg
  subst hP hw hK
  obtain⟨f0,f1,f2,f3,f4,f5⟩:=hf it (by simp)
  exact wpAny_pyNext_range_end (I.ok.hd hc) st (by have:n<=i:=hg; omega) fun h' eb=>⟨rfl,I.turned (t':=s.toks) (fun b o hb e=>eb b o hb e) f0 f1 f3 f4 f5⟩
 self:=fun _ _ _ _ _ st h=>wpAny_pyIter_rangeiter st h
section
variable {X:Cx} {tg:Expr}
def ztv(K:PySem.W.Frag)(tl:TE):TI:=fun σ H R=>tl σ H fun x H1=>∃ a,x=.ref a/\(∃ xs,SqL K H1 a xs)/\R (Itl K a) H1
def zqO(K:PySem.W.Frag)(tl:TE):TI:=fun σ H R=>tl σ H fun x H1=>∃ a,x=.ref a/\(∃ xs,SqT K H1 a xs)/\R (Itt K a) H1
theorem zqP{l:Expr}{tl:TE}(hl:PE X l tl):PI X tg l (zqO X.K tl):=by
 intro pins s σ H R I h
 refine thn (hl pins s σ H _ I h) fun v s1 ⟨x,H1,I1,r1,q1⟩=>?_
 obtain⟨a,e,⟨xs,hq⟩,q⟩:=q1
 subst e
 cases r1
 obtain⟨its,rv,p,hz⟩:=I1.tuple hq
 refine wpAny_pyIter_tuple (show s1.heap.IsTuple a its.toArray from p) ?_
 refine⟨s1.heap.objs.size,[s1.heap.objs.size],_,_,H1,rfl,I1.kept (t':=s1.toks) fun b o e=>Heap.get?_push_of_some _ e,zfY a _,⟨_,Heap.get?_push_size _ rfl,rfl,rfl⟩,fun b hb=>?_,q⟩
 have e:b=s1.heap.objs.size:=by simpa using hb
 subst e
 exact I1.fpOk (Nat.le_refl _) (I1.hok.fresh (Nat.le_refl _))
theorem zh5{pins:List (Addr×Obj)}{σ:St}{H:Hp}{s:Shared}{R:It->Hp->Prop}{E:Value->Shared->Prop}{lo hi:Int}{t u v:Tok}{tk:Nat}(I:Inv X pins σ H s)(h1:-(2^62)<=lo)(h2:lo < 2^62)(h3:-(2^62)<=hi)(h4:hi < 2^62)
  (q:R (Itr lo (hi - lo).toNat) H):wpAny (model X.prog X.w) X.A (pyIter (.ref s.heap.objs.size)) (PIE X pins σ tg R) E { s with heap:=s.heap.push { cls:=.type "range",data:=.fields #[.int lo t,.int hi u,.int 1 v] },toks:=tk }:=by
 refine wpAny_pyIter_range (IsRange.new ..) (small_one h1 h2 h3 h4) ?_
 have I1:Inv X pins σ H { s with heap:=s.heap.push { cls:=.type "range",data:=.fields #[.int lo t,.int hi u,.int 1 v] },toks:=tk }:=I.kept fun b o e=>Heap.get?_push_of_some _ e
 refine⟨(s.heap.push { cls:=.type "range",data:=.fields #[.int lo t,.int hi u,.int 1 v] }).objs.size,[(s.heap.push { cls:=.type "range",data:=.fields #[.int lo t,.int hi u,.int 1 v] }).objs.size],_,_,H,rfl,
  I1.kept (t':=tk) fun b o e=>Heap.get?_push_of_some _ e,ziX _ lo (hi - lo).toNat,?_,fun b hb=>?_,q⟩
 ·have e1:lo+((0:Nat):Int) * 1=lo:=by simp
  have e2:(((hi - lo).toNat:Nat):Int) - ((0:Nat):Int)=Builtin.Range.rangeSize lo hi 1:=by rw [rangeSize_one]; split<;>omega
  show IsRangeIter _ _ (lo+((0:Nat):Int) * 1) ((((hi - lo).toNat:Nat):Int) - ((0:Nat):Int)) 1
  rw [e1,e2]
  exact Heap.get?_push_size _ rfl
 ·have e:b=(s.heap.push { cls:=.type "range",data:=.fields #[.int lo t,.int hi u,.int 1 v] }).objs.size:=by simpa using hb
  subst e
  exact I1.fpOk (Nat.le_refl _) (I1.hok.fresh (Nat.le_refl _))
def zlA(ta:TA):TI:=fun σ H R=>ta σ H fun vs H1=>∃ j:Int,vs=[.int j]/\-(2^62)<=j/\j < 2^62/\R (Itr 0 j.toNat) H1
def zlB(ta:TA):TI:=fun σ H R=>ta σ H fun vs H1=>∃ i j:Int,vs=[.int i,.int j]/\(-(2^62)<=i/\i < 2^62/\-(2^62)<=j/\j < 2^62)/\R (Itr i (j - i).toNat) H1
theorem zkE{a:Expr}{ta:TA}{p pos:Pos}(hg:Gl X "range")(hm:X.mg "range"=none)(ha:PA X [a] ta)(hs:starEach [a] X.env=[(false,eval a X.env)]:=by rfl):PI X tg (.Call (.Name "range" p) [a] [] pos) (zlA ta):=by
 intro pins s σ H R I h
 refine Call_ (zeq I hg hm boot_range (PyProof.Rows.callWith_type1 (thn (ha pos pins s σ H _ I h) fun us s1 ⟨vs,H1,I1,r1,q1⟩=>?_) hs rfl))
 obtain⟨j,e,q1,q2,q⟩:=q1
 subst e
 cases r1 with
 | cons r rr =>
  cases rr
  obtain⟨t,rfl⟩:=r
  exact call_range_1 (zh5 I1 (by omega) (by omega) q1 q2 (by simpa using q))
theorem zkF{a b:Expr}{ta:TA}{p pos:Pos}(hg:Gl X "range")(hm:X.mg "range"=none)(ha:PA X [a,b] ta)(hs:starEach [a,b] X.env=[(false,eval a X.env),(false,eval b X.env)]:=by rfl)(hs2:starEach [b] X.env=[(false,eval b X.env)]:=by rfl) :
  PI X tg (.Call (.Name "range" p) [a,b] [] pos) (zlB ta):=by
 intro pins s σ H R I h
 refine Call_ (zeq I hg hm boot_range (PyProof.Rows.callWith_type1 (thn (ha pos pins s σ H _ I h) fun us s1 ⟨vs,H1,I1,r1,q1⟩=>?_) (by rw [hs,hs2]) (by rw [hs2]; rfl)))
 obtain⟨i,j,e,⟨q1,q2,q3,q4⟩,q⟩:=q1
 subst e
 cases r1 with
 | cons r rr =>
  cases rr with
  | cons r' rr =>
   cases rr
   obtain⟨t,rfl⟩:=r
   obtain⟨t',rfl⟩:=r'
   exact call_range_2 (zh5 I1 q1 q2 q3 q4 q)
def znA(wi:TI)(g:TG)(tb:TS):TS:=fun D σ H=>wi σ H fun J H1=>∃ W:Nat->Nat->St->Hp->Prop,(∃ m,W 0 m σ H1)/\∀ i m σ H,W i m σ H ->
 (J.stop i H/\D.nx σ H)\/(J.go i H/\∃ N:St->Hp->Prop,(∀ σ' H',N σ' H'->∃ m',m' < m/\W (i+1) m' σ' H')/\∀ x H',J.yld i H x H'->g x σ H' fun σ2 H2=>tb { D with nx:=N,ct:=N,bk:=D.nx } σ2 H2)
def zfZ(fp:List Addr)(h:Heap):List (Addr×Obj):=fp.filterMap fun b=>(h.get? b).map fun o=>(b,o)
theorem zdF{fp:List Addr}{h:Heap}{b:Addr}{o:Obj}(hb:b∈fp)(e:h.get? b=some o):(b,o)∈zfZ fp h:=List.mem_filterMap.mpr ⟨b,hb,by rw [e]; rfl⟩
theorem zkG{fp:List Addr}{h:Heap}{p:Addr×Obj}(hp:p∈zfZ fp h):p.1∈fp/\h.get? p.1=some p.2:=by
 obtain⟨b,hb,e⟩:=List.mem_filterMap.mp hp
 cases q:h.get? b with
 | none=>rw [q]at e; cases e
 | some o =>
  rw [q]at e
  have e':(b,o)=p:=Option.some.inj e
  subst e'
  exact⟨hb,q⟩
theorem Inv.pinned{pins:List (Addr×Obj)}{σ:St}{H:Hp}{s:Shared}{fp:List Addr}(I:Inv X pins σ H s)(hf:∀ b∈fp,zeC X pins H b)(ho:∀ b∈fp,∃ o,s.heap.get? b=some o/\∀ v,o.data≠.cell v):Inv X (pins++zfZ fp s.heap) σ H s :=
 I.pins_of fun p hp=>(List.mem_append.mp hp).elim (fun z=>I.pin p (List.mem_append_right _ z)) fun z=>by
  obtain⟨hb,e⟩:=zkG z
  obtain⟨f0,f1,f2,_⟩:=hf p.1 hb
  obtain⟨o,e',d⟩:=ho p.1 hb
  rw [e]at e'; cases e'
  exact⟨e,f0,f1,f2,d⟩
theorem Inv.unpinned{pins pl:List (Addr×Obj)}{σ:St}{H:Hp}{s:Shared}(I:Inv X (pins++pl) σ H s):Inv X pins σ H s:=I.pins_of fun p hp=>I.pin p (List.mem_append_right _ (List.mem_append_left _ hp))
theorem zqQ{iter:Expr}{body:List Stmt}{wi:TI}{g:TG}{tb:TS}{pos:Pos}(hp:PassesOwn (model X.prog X.w) X.A X.env X.xe)(hc:X.calm=true)(hi:PI X tg iter wi)(hg:PG X tg g)(hb:PSs X body tb)
  (hs:∀ x,foldedSetIterable iter X.env x=pure x:=by intro _; rfl):PS X (.For tg iter body [] pos) (znA wi g tb):=by
 intro pins s σ H D I h
 refine wpAny_For (thn (hi pins s σ H _ I h) fun v s1 h1=>thn h1 fun itv s2 h2=>?_) hs
 obtain⟨it,fp,tn,J,H2,e,I2,T,st2,f2,W,⟨m0,w0⟩,turn⟩:=h2
 subst e
 have stat:∀ {H':Hp},(∀ b∈fp,H' b=none)->∀ b∈fp,zeC X pins H' b:=fun hn b hb=>⟨hn b hb,(f2 b hb).2⟩
 refine codeAny_forLoop_any (fun n s'=>∃ i σ' H',Inv X pins σ' H' s'/\tn i s'.heap/\(∀ b∈fp,H' b=none)/\W i n σ' H') ?_ m0 ⟨0,σ,H2,I2,st2,fun b hb=>(f2 b hb).1,w0⟩
 rintro n s3 ⟨i,σ3,H3,I3,st3,fr3,w3⟩
 rcases turn i n σ3 H3 w3 with ⟨stop,qn⟩ | ⟨go,N,hN,step⟩
 ·refine wpAny_passesOwn hp (thn (T.done X rfl rfl rfl hc i pins s3 σ3 H3 X.xe I3 (stat fr3) st3 stop) fun r s4 ⟨hr,I4⟩=>?_)
  subst hr
  exact wpAny_execs_nil ⟨σ3,H3,I4,qn⟩
 ·refine wpAny_passesOwn hp (thn (T.item X rfl rfl rfl hc i pins s3 σ3 H3 X.xe I3 (stat fr3) st3 go) fun r s4 ⟨u,hr,h4⟩=>?_)
  subst hr
  refine wpAny_passesOwn hp (thn h4 fun _ s5 ⟨x,H5,I5,r5,y5,st5,fr5⟩=>?_)
  have I5':=I5.pinned (stat fr5) (T.obj _ _ st5)
  refine wpAny_passesOwn hp (thn (hg _ s5 σ3 H5 x u _ I5' r5 (step x H5 y5)) fun _ s6 ⟨σ6,H6,I6,q6⟩=>?_)
  refine wpAny_passesOwn hp (thn (hb _ s6 σ6 H6 _ I6 q6) fun f s7 q7=>?_)
  have again:∀ {σ7:St} {H7:Hp},Inv X (pins++zfZ fp s5.heap) σ7 H7 s7->N σ7 H7->∃ m,m < n/\∃ i σ' H',Inv X pins σ' H' s7/\tn i s7.heap/\(∀ b∈fp,H' b=none)/\W i m σ' H':=fun{σ7 H7} I7 n7=>by
   obtain⟨m',hm,w7⟩:=hN σ7 H7 n7
   refine⟨m',hm,i+1,σ7,H7,I7.unpinned,T.keep _ _ _ st5 fun b hb o e=>(I7.pin (b,o) (List.mem_append_right _ (List.mem_append_right _ (zdF hb e)))).1,fun b hb=>?_,w7⟩
   obtain⟨o,e,d⟩:=T.obj _ _ st5 b hb
   exact(I7.pin (b,o) (List.mem_append_right _ (List.mem_append_right _ (zdF hb e)))).2.1
  cases f with
  | next=>obtain⟨σ7,H7,I7,n7⟩:=q7; exact again I7 n7
  | cont=>obtain⟨σ7,H7,I7,n7⟩:=q7; exact again I7 n7
  | brk=>obtain⟨σ7,H7,I7,q7⟩:=q7; exact⟨σ7,H7,I7.unpinned,q7⟩
  | ret v=>obtain⟨x7,σ7,H7,I7,r7,q7⟩:=q7; exact⟨x7,σ7,H7,I7.unpinned,r7,q7⟩
end
abbrev R2:=V->V->Hp->VK->Prop
def OpR(X:Cx)(f:Value->Value->Sem Value)(r:R2):Prop :=
 ∀ (pins:List (Addr×Obj)) (s:Shared) (σ:St) (H:Hp) (x y:V) (v u:Value) (Q:VK),Inv X pins σ H s->zaj x v->zaj y u->r x y H Q ->
  wpAny (model X.prog X.w) X.A (f v u) (EP X pins σ Q) X.xe s
def UnR(X:Cx)(f:Value->Sem Value)(r:V->Hp->VK->Prop):Prop :=
 ∀ (pins:List (Addr×Obj)) (s:Shared) (σ:St) (H:Hp) (x:V) (v:Value) (Q:VK),Inv X pins σ H s->zaj x v->r x H Q ->
  wpAny (model X.prog X.w) X.A (f v) (EP X pins σ Q) X.xe s
def zbT(X:Cx)(f:Value)(r:List V->Hp->VK->Prop):Prop :=
 ∀ (pins:List (Addr×Obj)) (s:Shared) (σ:St) (H:Hp) (xs:List V) (us:List Value) (Q:VK),Inv X pins σ H s->zM xs us->r xs H Q ->
  wpAny (model X.prog X.w) X.A (call f us) (EP X pins σ Q) X.xe s
def zvx(X:Cx)(r:V->Hp->(Bool->Hp->Prop)->Prop):Prop :=
 ∀ (pins:List (Addr×Obj)) (s:Shared) (σ:St) (H:Hp) (x:V) (v:Value) (Q:Bool->Hp->Prop),Inv X pins σ H s->zaj x v->r x H Q ->
  wpAny (model X.prog X.w) X.A (truthy v) (TP X pins σ Q) X.xe s
def tOp(r:R2)(ta tb:TE):TE:=fun σ H Q=>ta σ H fun x H1=>tb σ H1 fun y H2=>r x y H2 Q
def tUn(r:V->Hp->VK->Prop)(ta:TE):TE:=fun σ H Q=>ta σ H fun x H1=>r x H1 Q
def rI(C:Int->Int->Prop)(g:Int->Int->V):R2:=fun x y H Q=>∃ i j,x=.int i/\y=.int j/\C i j/\Q (g i j) H
def rI0(g:Int->Int->V):R2:=fun x y H Q=>∃ i j,x=.int i/\y=.int j/\Q (g i j) H
def rU(g:Int->V):V->Hp->VK->Prop:=fun x H Q=>∃ i,x=.int i/\Q (g i) H
section
variable {X:Cx} {a b c:Expr} {ta tb tc:TE} {pos:Pos}
theorem zqR(ha:PE X a ta)(hb:PE X b tb){pins:List (Addr×Obj)}{s:Shared}{σ:St}{H:Hp}{R:V->V->Hp->Prop}(I:Inv X pins σ H s)
  (h:ta σ H fun x H1=>tb σ H1 fun y H2=>R x y H2) {Q:Value->Shared->Prop} {f:Value->Value->Sem Value}
  (hf:∀ v u s2 x y H2,Inv X pins σ H2 s2->zaj x v->zaj y u->R x y H2->wpAny (model X.prog X.w) X.A (f v u) Q X.xe s2) :
  wpAny (model X.prog X.w) X.A (eval a X.env) (fun v s₁=>wpAny (model X.prog X.w) X.A (eval b X.env) (fun u s₂=>wpAny (model X.prog X.w) X.A (f v u) Q X.xe s₂) X.xe s₁) X.xe s:=by
 refine thn (ha pins s σ H _ I h) fun v s1 ⟨x,H1,I1,r1,q1⟩=>?_
 refine thn (hb pins s1 σ H1 _ I1 q1) fun u s2 ⟨y,H2,I2,r2,q2⟩=>?_
 exact hf v u s2 x y H2 I2 r1 r2 q2
theorem ztw{op:Operator}{r:R2}(ho:OpR X (binaryOp op) r)(ha:PE X a ta)(hb:PE X b tb):PE X (.BinOp a op b pos) (tOp r ta tb):=by
 intro pins s σ H Q I h
 exact wpAny_BinOp (zqR ha hb I h fun v u s2 x y H2 I2 rx ry q=>ho pins s2 σ H2 x y v u Q I2 rx ry q)
theorem ztx{op:UnaryOp}{r:V->Hp->VK->Prop}(ho:UnR X (unaryOp op) r)(ha:PE X a ta):PE X (.UnaryOp op a pos) (tUn r ta):=by
 intro pins s σ H Q I h
 exact UnaryOp_ (thn (ha pins s σ H _ I h) fun v s1 ⟨x,H1,I1,r1,q1⟩=>ho pins s1 σ H1 x v Q I1 r1 q1)
theorem opI{f:Value->Value->Sem Value}{C:Int->Int->Prop}{g:Int->Int->Int}
  (rule:∀ (i j:Int) (t u:Tok) (s:Shared) (Q:Value->Shared->Prop) (E:Value->Shared->Prop),C i j->Q (.int (g i j) s.toks) { s with toks:=s.toks+1 }->wpAny (model X.prog X.w) X.A (f (.int i t) (.int j u)) Q E s) :
  OpR X f (rI C fun i j=>.int (g i j)):=by
 intro pins s σ H x y v u Q I rx ry h
 obtain⟨i,j,rfl,rfl,hc,q⟩:=h
 obtain⟨t,rfl⟩:=rx
 obtain⟨t',rfl⟩:=ry
 exact rule i j t t' s _ _ hc ⟨.int (g i j),H,I.tok _,⟨_,rfl⟩,q⟩
theorem zty{f:Value->Value->Sem Value}{g:Int->Int->Int}
  (rule:∀ (i j:Int) (t u:Tok) (s:Shared) (Q:Value->Shared->Prop) (E:Value->Shared->Prop),Q (.int (g i j) s.toks) { s with toks:=s.toks+1 }->wpAny (model X.prog X.w) X.A (f (.int i t) (.int j u)) Q E s) :
  OpR X f (rI0 fun i j=>.int (g i j)):=by
 intro pins s σ H x y v u Q I rx ry h
 obtain⟨i,j,rfl,rfl,q⟩:=h
 obtain⟨t,rfl⟩:=rx
 obtain⟨t',rfl⟩:=ry
 exact rule i j t t' s _ _ ⟨.int (g i j),H,I.tok _,⟨_,rfl⟩,q⟩
theorem znB{f:Value->Value->Sem Value}{g:Int->Int->Bool}
  (rule:∀ (i j:Int) (t u:Tok) (s:Shared) (Q:Value->Shared->Prop) (E:Value->Shared->Prop),Q (.bool (g i j)) s->wpAny (model X.prog X.w) X.A (f (.int i t) (.int j u)) Q E s) :
  OpR X f (rI0 fun i j=>.bl (g i j)):=by
 intro pins s σ H x y v u Q I rx ry h
 obtain⟨i,j,rfl,rfl,q⟩:=h
 obtain⟨t,rfl⟩:=rx
 obtain⟨t',rfl⟩:=ry
 exact rule i j t t' s _ _ ⟨.bl (g i j),H,I,rfl,q⟩
def znC(i j:Int):Prop:=0<=j/\j<=1000000/\i.natAbs < 2^64
def zkH(i j:Int):Prop:=(-(2^64) < i/\i < 2^64)\/(-(2^64) < j/\j < 2^64)
theorem zkH.ok{i j:Int}(h:zkH i j):IntMulOk i j:=by
 rcases h with ⟨h1,h2⟩ | ⟨h1,h2⟩
 ·exact .of_left (intBits_le_64 h1 h2)
 ·exact .of_right (intBits_le_64 h1 h2)
theorem zaN:OpR X (binaryOp .Add) (rI0 fun i j=>.int (i+j)):=zty fun _ _ _ _ _ _ _ q=>add_int q
theorem zf0:OpR X (binaryOp .Sub) (rI0 fun i j=>.int (i - j)):=zty fun _ _ _ _ _ _ _ q=>sub_int q
theorem zdh:OpR X (binaryOp .Mult) (rI zkH fun i j=>.int (i * j)):=opI fun _ _ _ _ _ _ _ hc q=>mul_int q hc.ok
theorem zcV:OpR X (binaryOp .Mod) (rI (fun _ j=>0 < j) fun i j=>.int (i % j)):=opI fun i j _ _ _ _ _ hc q=>by
 have h1:(0:Int) < j:=hc
 exact mod_int' (by omega) (by rw [Int.fmod_eq_emod_of_nonneg i (by omega)]; exact q)
theorem zqS:OpR X (binaryOp .Pow) (rI znC fun i j=>.int (i^j.toNat)):=opI fun _ _ _ _ _ _ _ hc q=>pow_int_small hc.1 hc.2.1 hc.2.2 q
theorem unI{f:Value->Sem Value}{g:Int->Int}
  (rule:∀ (i:Int) (t:Tok) (s:Shared) (Q:Value->Shared->Prop) (E:Value->Shared->Prop),Q (.int (g i) s.toks) { s with toks:=s.toks+1 }->wpAny (model X.prog X.w) X.A (f (.int i t)) Q E s) :
  UnR X f (rU fun i=>.int (g i)):=by
 intro pins s σ H x v Q I rx h
 obtain⟨i,rfl,q⟩:=h
 obtain⟨t,rfl⟩:=rx
 exact rule i t s _ _ ⟨.int (g i),H,I.tok _,⟨_,rfl⟩,q⟩
theorem zcI:UnR X (unaryOp .USub) (rU fun i=>.int (-i)):=unI fun _ _ _ _ _ q=>neg_int q
end
def zqT:V->V->Bool
 | .non,.non=>true | .non,.int _=>true | .int _,.non=>true | .non,.bl _=>true | .bl _,.non=>true | .non,.str _=>true | .str _,.non=>true
 | .int _,.int _=>true | .bl _,.bl _=>true | .str _,.str _=>true | .byt _,.byt _=>true
 | .int _,.str _=>true | .str _,.int _=>true | .bl _,.str _=>true | .str _,.bl _=>true
 | _,_=>false
def rEq:R2:=fun x y H Q=>zqT x y=true/\Q (.bl (decide (x=y))) H
def rNe:R2:=fun x y H Q=>zqT x y=true/\Q (.bl (!decide (x=y))) H
theorem zjL{i j:Int}:decide (V.int i=V.int j)=(i==j):=by
 rw [Bool.eq_iff_iff]
 simp
theorem zlC{i j:Bool}:decide (V.bl i=V.bl j)=(i==j):=by
 rw [Bool.eq_iff_iff]
 simp
theorem zjM{i j:Str}:decide (V.str i=V.str j)=(i==j):=by
 rw [Bool.eq_iff_iff]
 simp
theorem zjN{i j:Array UInt8}:decide (V.byt i=V.byt j)=(i.toList==j.toList):=by
 rw [Bool.eq_iff_iff]
 cases i
 cases j
 simp
section
variable {X:Cx} {a b c:Expr} {ta tb tc:TE} {pos:Pos}
theorem zae{pins:List (Addr×Obj)}{σ:St}{H:Hp}{s:Shared}{Q:VK}{k k':Bool}(I:Inv X pins σ H s)(q:Q (.bl k) H)(e:k=k'):EP X pins σ Q (.bool k') s:=by
 subst e
 exact⟨.bl k,H,I,rfl,q⟩
theorem zca:OpR X (compareOp .Eq) rEq:=by
 intro pins s σ H x y v u Q I rx ry h
 obtain⟨hs,q⟩:=h
 cases x with
 | non =>
  cases rx
  cases y with
  | non=>cases ry; exact PySem.EqNone.eq_none_none (zae I q (by simp))
  | bl j=>cases ry; exact PySem.EqNone.eq_none_bool (zae I q (by simp))
  | int j=>obtain⟨t',rfl⟩:=ry; exact PySem.EqNone.eq_none_int (zae I q (by simp))
  | str j=>obtain⟨t',rfl⟩:=ry; exact PySem.EqNone.eq_none_str (zae I q (by simp))
  | _=>exact absurd (show false=true from hs) Bool.false_ne_true
 | bl i =>
  cases rx
  cases y with
  | non=>cases ry; exact PySem.EqNone.eq_bool_none (zae I q (by simp))
  | bl j=>cases ry; exact eq_bool (zae I q zlC)
  | str j=>obtain⟨t',rfl⟩:=ry; exact PySem.EqMixed.eq_bool_str (zae I q (by simp))
  | _=>exact absurd (show false=true from hs) Bool.false_ne_true
 | int i =>
  obtain⟨t,rfl⟩:=rx
  cases y with
  | non=>cases ry; exact PySem.EqNone.eq_int_none (zae I q (by simp))
  | int j=>obtain⟨t',rfl⟩:=ry; exact eq_int (zae I q zjL)
  | str j=>obtain⟨t',rfl⟩:=ry; exact PySem.EqMixed.eq_int_str (zae I q (by simp))
  | _=>exact absurd (show false=true from hs) Bool.false_ne_true
 | str i =>
  obtain⟨t,rfl⟩:=rx
  cases y with
  | non=>cases ry; exact PySem.EqNone.eq_str_none (zae I q (by simp))
  | bl j=>cases ry; exact PySem.EqMixed.eq_str_bool (zae I q (by simp))
  | int j=>obtain⟨t',rfl⟩:=ry; exact PySem.EqMixed.eq_str_int (zae I q (by simp))
  | str j=>obtain⟨t',rfl⟩:=ry; exact eq_str (zae I q zjM)
  | _=>exact absurd (show false=true from hs) Bool.false_ne_true
 | byt i =>
  obtain⟨t,rfl⟩:=rx
  cases y with
  | byt j=>obtain⟨t',rfl⟩:=ry; exact PySem.W.eq_bytes (zae I q zjN)
  | _=>exact absurd (show false=true from hs) Bool.false_ne_true
 | _=>cases y<;>exact absurd (show false=true from hs) Bool.false_ne_true
theorem zgY:OpR X (compareOp .NotEq) rNe:=by
 intro pins s σ H x y v u Q I rx ry h
 obtain⟨hs,q⟩:=h
 cases x with
 | non =>
  cases rx
  cases y with
  | non=>cases ry; exact PySem.EqNone.ne_none_none (zae I q (by simp))
  | bl j=>cases ry; exact PySem.EqNone.ne_none_bool (zae I q (by simp))
  | int j=>obtain⟨t',rfl⟩:=ry; exact PySem.EqNone.ne_none_int (zae I q (by simp))
  | str j=>obtain⟨t',rfl⟩:=ry; exact PySem.EqNone.ne_none_str (zae I q (by simp))
  | _=>exact absurd (show false=true from hs) Bool.false_ne_true
 | bl i =>
  cases rx
  cases y with
  | non=>cases ry; exact PySem.EqNone.ne_bool_none (zae I q (by simp))
  | bl j=>cases ry; exact ne_bool (zae I q (congrArg not zlC))
  | str j=>obtain⟨t',rfl⟩:=ry; exact PySem.EqMixed.ne_bool_str (zae I q (by simp))
  | _=>exact absurd (show false=true from hs) Bool.false_ne_true
 | int i =>
  obtain⟨t,rfl⟩:=rx
  cases y with
  | non=>cases ry; exact PySem.EqNone.ne_int_none (zae I q (by simp))
  | int j=>obtain⟨t',rfl⟩:=ry; exact ne_int (zae I q (congrArg not zjL))
  | str j=>obtain⟨t',rfl⟩:=ry; exact PySem.EqMixed.ne_int_str (zae I q (by simp))
  | _=>exact absurd (show false=true from hs) Bool.false_ne_true
 | str i =>
  obtain⟨t,rfl⟩:=rx
  cases y with
  | non=>cases ry; exact PySem.EqNone.ne_str_none (zae I q (by simp))
  | bl j=>cases ry; exact PySem.EqMixed.ne_str_bool (zae I q (by simp))
  | int j=>obtain⟨t',rfl⟩:=ry; exact PySem.EqMixed.ne_str_int (zae I q (by simp))
  | str j=>obtain⟨t',rfl⟩:=ry; exact ne_str (zae I q (congrArg not zjM))
  | _=>exact absurd (show false=true from hs) Bool.false_ne_true
 | byt i =>
  obtain⟨t,rfl⟩:=rx
  cases y with
  | byt j=>obtain⟨t',rfl⟩:=ry; exact PySem.W.ne_bytes (zae I q (congrArg not zjN))
  | _=>exact absurd (show false=true from hs) Bool.false_ne_true
 | _=>cases y<;>exact absurd (show false=true from hs) Bool.false_ne_true
theorem zem:OpR X (compareOp .Lt) (rI0 fun i j=>.bl (decide (i < j))):=znB fun _ _ _ _ _ _ _ q=>lt_int q
theorem zjO:OpR X (compareOp .LtE) (rI0 fun i j=>.bl (decide (i<=j))):=znB fun _ _ _ _ _ _ _ q=>le_int q
theorem zjP:OpR X (compareOp .Gt) (rI0 fun i j=>.bl (decide (j < i))):=znB fun _ _ _ _ _ _ _ q=>gt_int q
theorem zpO:OpR X (compareOp .GtE) (rI0 fun i j=>.bl (decide (j<=i))):=znB fun _ _ _ _ _ _ _ q=>ge_int q
theorem zqU:OpR X (compareOp .Is) (fun x y H Q=>y=.non/\Q (.bl (decide (x=.non))) H):=by
 intro pins s σ H x y v u Q I rx ry h
 obtain⟨rfl,q⟩:=h
 cases ry
 refine is_none_gen (zae I q ?_)
 cases x<;>first
  | (cases rx; rfl)
  | (obtain⟨t,rfl⟩:=rx; rfl)
theorem zjQ:OpR X (compareOp .IsNot) (fun x y H Q=>y=.non/\Q (.bl (!decide (x=.non))) H):=by
 intro pins s σ H x y v u Q I rx ry h
 obtain⟨rfl,q⟩:=h
 cases ry
 refine isnot_none_gen (zae I q ?_)
 cases x<;>first
  | (cases rx; rfl)
  | (obtain⟨t,rfl⟩:=rx; rfl)
theorem zE(b:Expr){op:CmpOp}(h:op≠.In:=by decide)(h2:op≠.NotIn:=by decide):behindInMarks op b=false:=by
 have e1:(op==CmpOp.In)=false:=by cases op<;>first | rfl | exact absurd rfl h
 have e2:(op==CmpOp.NotIn)=false:=by cases op<;>first | rfl | exact absurd rfl h2
 cases b<;>simp [behindInMarks,e1,e2]
theorem znD{op:CmpOp}{r:R2}(ho:OpR X (compareOp op) r)(ha:PE X a ta)(hb:PE X b tb)(hm:behindInMarks op b=false):PE X (.Compare a [op] [b] pos) (tOp r ta tb):=by
 intro pins s σ H Q I h
 exact wpAny_Compare1 (zqR ha hb I h fun v u s2 x y H2 I2 rx ry q=>ho pins s2 σ H2 x y v u Q I2 rx ry q) hm
def zh6(t:TE):TT:=fun σ H Q=>t σ H fun x H'=>∃ k,x=.bl k/\Q k H'
theorem znE{op:CmpOp}{r:R2}(ho:OpR X (compareOp op) r)(ha:PE X a ta)(hb:PE X b tb)(hm:behindInMarks op b=false):PT X (.Compare a [op] [b] pos) (zh6 (tOp r ta tb)):=by
 intro pins s σ H Q I h
 refine wpAny_isTrue_Compare1 (thn (ha pins s σ H _ I h) fun v s1 ⟨x,H1,I1,r1,q1⟩=>thn (hb pins s1 σ H1 _ I1 q1) fun u s2 ⟨y,H2,I2,r2,q2⟩ =>
  thn (ho pins s2 σ H2 x y v u _ I2 r1 r2 q2) fun c s3 ⟨z,H3,I3,r3,k,e,q3⟩=>?_) hm
 subst e
 cases r3
 exact wpAny_truthy_bool ⟨H3,I3,q3⟩
def zf1(r r':R2)(ta tb tc:TE):TE:=fun σ H Q=>ta σ H fun x H1=>tb σ H1 fun y H2=>r x y H2 fun z H3=>∃ k,z=.bl k /\
 (if k=true then tc σ H3 fun w' H4=>r' y w' H4 Q else Q (.bl false) H3)
theorem zlD{op op':CmpOp}{r r':R2}(ho:OpR X (compareOp op) r)(ho':OpR X (compareOp op') r')(ha:PE X a ta)(hb:PE X b tb)(hc:PE X c tc)
  (hm:lastMarks [op,op'] [b,c]=false:=by with_unfolding_all rfl):PE X (.Compare a [op,op'] [b,c] pos) (zf1 r r' ta tb tc):=by
 intro pins s σ H Q I h
 refine Compare_chain (thn (ha pins s σ H _ I h) fun v s1 ⟨x,H1,I1,r1,q1⟩=>chain_link (thn (hb pins s1 σ H1 _ I1 q1) fun u s2 ⟨y,H2,I2,r2,q2⟩ =>
  thn (ho pins s2 σ H2 x y v u _ I2 r1 r2 q2) fun d s3 ⟨z,H3,I3,r3,k,e,q3⟩=>?_)) hm
 subst e
 cases r3
 refine wpAny_truthy_bool ?_
 cases k with
 | false=>exact ite_ff ⟨.bl false,H3,I3,rfl,q3⟩
 | true=>exact ite_tt (chain_last (thn (hc pins s3 σ H3 _ I3 q3) fun w' s4 ⟨z',H4,I4,r4,q4⟩=>ho' pins s4 σ H4 y z' u w' Q I4 r2 r4 q4))
theorem zlE{op op':CmpOp}{r r':R2}(ho:OpR X (compareOp op) r)(ho':OpR X (compareOp op') r')(ha:PE X a ta)(hb:PE X b tb)(hc:PE X c tc)
  (hm:lastMarks [op,op'] [b,c]=false:=by with_unfolding_all rfl):PT X (.Compare a [op,op'] [b,c] pos) (zh6 (zf1 r r' ta tb tc)):=by
 intro pins s σ H Q I h
 refine isTrue_chain (thn (ha pins s σ H _ I h) fun v s1 ⟨x,H1,I1,r1,q1⟩=>test_link (thn (hb pins s1 σ H1 _ I1 q1) fun u s2 ⟨y,H2,I2,r2,q2⟩ =>
  thn (ho pins s2 σ H2 x y v u _ I2 r1 r2 q2) fun d s3 ⟨z,H3,I3,r3,k,e,q3⟩=>?_)) hm
 subst e
 cases r3
 refine wpAny_truthy_bool ?_
 cases k with
 | false =>
  obtain⟨k',e',q'⟩:=q3
  cases e'
  exact ite_ff ⟨H3,I3,q'⟩
 | true =>
  refine ite_tt (test_last (thn (hc pins s3 σ H3 _ I3 q3) fun w' s4 ⟨z',H4,I4,r4,q4⟩=>thn (ho' pins s4 σ H4 y z' u w' _ I4 r2 r4 q4) fun d' s5 ⟨z2,H5,I5,r5,k2,e2,q5⟩=>?_))
  subst e2
  cases r5
  exact wpAny_truthy_bool ⟨H5,I5,q5⟩
def zqV(K:PySem.W.Frag)(x:V)(H:Hp)(k:Bool):Prop :=
 match x with
 | .non=>k=false
 | .bl b=>k=b
 | .int i=>k=(i != 0)
 | .str y=>y.length<=sizeLine/\k=((y.length:Int) != 0)
 | .byt y=>y.size<=sizeLine/\k=((y.size:Int) != 0)
 | .ref p=>(∃ xs,SqL K H p xs/\k=!xs.isEmpty)\/(∃ xs,SqT K H p xs/\k=!xs.isEmpty)\/∃ kvs,H p=some (.dK kvs)/\k=!kvs.isEmpty
 | _=>False
theorem ziY{κ:Type}{kvs:List (κ×V)}{vs:List (κ×Value)}(r:KV kvs vs):(!vs.isEmpty)=!kvs.isEmpty:=by
 cases r<;>rfl
theorem zf2{xs:List V}{its:List Value}(r:zM xs its):(!its.toArray.isEmpty)=!xs.isEmpty:=by
 cases r<;>simp
theorem zer:(sizeLine:Nat) < 2^63:=by rw [sizeLine_eq]; decide
theorem zqW:zvx X (fun x H Q=>∃ k,zqV X.K x H k/\Q k H):=by
 intro pins s σ H x v Q I rx h
 obtain⟨k,e,q⟩:=h
 have hl:=zer
 have hs:sizeLine=16777216:=sizeLine_eq
 cases x with
 | non =>
  cases rx
  have e':k=false:=e
  subst e'
  exact truthy_none ⟨H,I,q⟩
 | bl b =>
  cases rx
  have e':k=b:=e
  subst e'
  exact wpAny_truthy_bool ⟨H,I,q⟩
 | int i =>
  obtain⟨t,rfl⟩:=rx
  have e':k=(i != 0):=e
  subst e'
  exact PySem.P.truthy_int ⟨H,I,q⟩
 | str y =>
  obtain⟨t,rfl⟩:=rx
  obtain⟨hy,e'⟩:y.length<=sizeLine/\k=((y.length:Int) != 0):=e
  subst e'
  exact PySem.P.truthy_str (by omega) ⟨H,I.tok _,q⟩
 | byt y =>
  obtain⟨t,rfl⟩:=rx
  obtain⟨hy,e'⟩:y.size<=sizeLine/\k=((y.size:Int) != 0):=e
  subst e'
  exact PySem.W.truthy_bytes (by omega) ⟨H,I.tok _,q⟩
 | ref p =>
  cases rx
  have e':(∃ xs,SqL X.K H p xs/\k=!xs.isEmpty)\/(∃ xs,SqT X.K H p xs/\k=!xs.isEmpty)\/∃ kvs,H p=some (.dK kvs)/\k=!kvs.isEmpty:=e
  rcases e' with ⟨xs,hx,e'⟩ | ⟨xs,hx,e'⟩ | ⟨kvs,hx,e'⟩
  ·subst e'
   obtain⟨its,r,pl,hz⟩:=I.list hx
   have hlen:=r.length
   exact wpAny_truthy_list pl.isList (by simp only [List.size_toArray]; omega) ⟨H,I.tok _,by rw [zf2 r]; exact q⟩
  ·subst e'
   obtain⟨its,r,pl,hz⟩:=I.tuple hx
   have hlen:=r.length
   exact truthy_tuple pl (by simp only [List.size_toArray]; omega) ⟨H,I.tok _,by rw [zf2 r]; exact q⟩
  ·subst e'
   obtain⟨hz,hS,vs,r,m⟩:kvs.length<=sizeLine/\(p==sysModules)=false/\∃ vs,KV kvs vs/\s.heap.DictOf (zcP X.prog X.w) p vs:=I.hok p _ hx
   have hlen:kvs.length=vs.length:=Paired.length r
   exact wpAny_truthy_dict hS m (by omega) ⟨H,I.tok _,by rw [ziY r]; exact q⟩
 | _=>exact(show False from e).elim
theorem zlF(ha:PE X a ta)(he:∀ whole,isTrue a X.env whole=(do let v <-whole; standAt a.pos; holding [v] (truthy v))) :
  PT X a (fun σ H Q=>ta σ H fun x H'=>∃ k,zqV X.K x H' k/\Q k H'):=by
 intro pins s σ H Q I h
 exact isTrue_plain (thn (ha pins s σ H _ I h) fun v s1 ⟨x,H1,I1,r1,q1⟩=>zqW pins s1 σ H1 x v Q I1 r1 q1) (he _)
theorem zdG:OpR X (binaryOp .Add) (fun x y H Q=>∃ i j,x=.str i/\y=.str j/\i.length+j.length<=sizeLine/\Q (.str (i++j)) H):=by
 intro pins s σ H x y v u Q I rx ry h
 obtain⟨i,j,rfl,rfl,hz,q⟩:=h
 obtain⟨t,rfl⟩:=rx
 obtain⟨t',rfl⟩:=ry
 exact add_str (fun t' tk=>⟨.str (i++j),H,I.tok _,⟨_,rfl⟩,q⟩) hz
theorem zdU{x:V}{us:List Value}(r:zM [x] us):∃ u,us=[u]/\zaj x u:=by
 cases r with
 | cons r1 r2=>cases r2; exact⟨_,rfl,r1⟩
theorem zlG{x y:V}{us:List Value}(r:zM [x,y] us):∃ u w',us=[u,w']/\zaj x u/\zaj y w':=by
 cases r with
 | cons r1 r2 =>
  cases r2 with
  | cons r3 r4=>cases r4; exact⟨_,_,rfl,r1,r3⟩
theorem zf3:zbT X (.builtin "abs") (fun xs H Q=>∃ i,xs=[.int i]/\Q (.int (if i < 0 then -i else i)) H):=by
 intro pins s σ H xs us Q I r h
 obtain⟨i,rfl,q⟩:=h
 obtain⟨u,rfl,t,rfl⟩:=zdU r
 exact call_abs_int fun u tk=>⟨.int (if i < 0 then -i else i),H,I.tok _,⟨_,rfl⟩,q⟩
theorem ze0:zbT X (.type "int") (fun xs H Q=>(∃ i,xs=[.int i]/\Q (.int i) H)\/∃ k,xs=[.bl k]/\Q (.int (if k then 1 else 0)) H):=by
 intro pins s σ H xs us Q I r h
 rcases h with ⟨i,rfl,q⟩ | ⟨k,rfl,q⟩
 ·obtain⟨u,rfl,t,rfl⟩:=zdU r
  exact call_int_int ⟨.int i,H,I,⟨_,rfl⟩,q⟩
 ·obtain⟨u,rfl,r1⟩:=zdU r
  cases r1
  exact call_int_bool ⟨.int (if k then 1 else 0),H,I.tok _,⟨_,rfl⟩,q⟩
end
structure ObjM (h:Heap) (x dx C:Addr) (mA:Str->Option Value):Prop where
 obj:h.get? x=some (PySem.W.instObj C dx)
 ns:h.Ns1 dx mA
 ne:dx≠x
theorem ze1{h:Heap}{dx:Addr}{mA:Str->Option Value}(n:h.Ns1 dx mA):∃ od,h.get? dx=some od/\∀ name,PySem.W.lookIn name od=some (mA name):=by
 obtain⟨o,es,ep,ho,hd,hk,_,hm⟩:=n
 refine⟨o,ho,fun name=>?_⟩
 have e:=hm name
 unfold nsFind findBy at e
 rw [<-Array.find?_toList]at e
 unfold PySem.W.lookIn
 rw [hd]
 dsimp only
 split
 ·rename_i y q
  rw [q]at e
  exact congrArg some e
 ·rename_i q
  rw [q]at e
  have a:es.toList.any (·.refKey)=false:=by
   rw [List.any_eq_false]
   intro y hy
   obtain⟨z,t,hkey⟩:=hk y (Array.mem_toList_iff.mp hy)
   simp [DictEntry.refKey,hkey]
  have a':¬es.toList.any (·.refKey)=true:=by rw [a]; exact Bool.false_ne_true
  rw [if_neg a']
  exact congrArg some e
theorem ObjM.look{h:Heap}{x dx C:Addr}{mA:Str->Option Value}(I:ObjM h x dx C mA):∃ od,PySem.W.InstAt h x (PySem.W.instObj C dx) C (some od)/\∀ name,PySem.W.lookIn name od=some (mA name) :=
 let ⟨od,ho,hl⟩:=ze1 I.ns
 ⟨od,⟨I.obj,rfl,rfl,ho⟩,hl⟩
section
variable {prog:Program} {w:World} {A:Around} {E:Value->Shared->Prop} {s:Shared} {K:PySem.W.Frag} {x dx C f:Addr} {mA:Str->Option Value} {name:Str} {v:Value}
end
theorem zhg.some_of{v:V}{o:Option Value}(r:zhg (some v) o):∃ u,o=some u/\zaj v u:=by
 cases o with
 | none=>exact(show False from r).elim
 | some u=>exact⟨u,rfl,r⟩
theorem zkI{v:V}{u:Value}(r:zaj v u):PySem.W.handedIn u=true:=by
 cases v with
 | non=>cases(show u=Value.none from r); rfl
 | bl b=>cases(show u=Value.bool b from r); rfl
 | int i=>obtain⟨t,e⟩:=(show ∃ t,u=Value.int i t from r); cases e; rfl
 | str x=>obtain⟨t,e⟩:=(show ∃ t,u=Value.str x t from r); cases e; rfl
 | byt b=>obtain⟨t,e⟩:=(show ∃ t,u=Value.bytes b t from r); cases e; rfl
 | flt b=>obtain⟨t,e⟩:=(show ∃ t,u=Value.float b t from r); cases e; rfl
 | ref a=>cases(show u=Value.ref a from r); rfl
 | ty n=>cases(show u=Value.type n from r); rfl
section
variable {P:Program} {w:World} {H H':Hp} {h h':Heap} {a C dx:Addr} {fs fs':List (Str×V)}
theorem znF(hok:HOk P w H h)(e:H a=some (.ins C dx fs)):∃ mA,ObjM h a dx C mA/\(∀ f,zhg (fs.lookup f) (mA f))/\PySem.Within mA (fs.map (·.1))/\fs.length<=1000/\H dx=some (.own a):=by
 obtain⟨d,z,ne,ob,mA,n,r,q⟩:=(show zbq P w H h a (.ins C dx fs) from hok a _ e)
 exact⟨mA,⟨ob,n,ne⟩,r,q,z,d⟩
end
structure Cls (K:PySem.W.Frag) (C:Addr):Prop where
 pg:PySem.W.plainGet K C Str.empty=true
 hd:PySem.W.hasDictIn K C=true
 po:PySem.W.plainOver K C=true
 sa:PySem.W.findIn K (.ref C) "__setattr__"=some (some (.builtin "object.__setattr__"))
theorem Cls.get{K:PySem.W.Frag}{C:Addr}(c:Cls K C)(f:Str):PySem.W.plainGet K C f=true:=c.pg
def zcW(K:PySem.W.Frag)(C:Addr)(f:Str):Prop:=PySem.W.findIn K (.ref C) f=some none
section
variable {X:Cx} {pins:List (Addr×Obj)} {σ:St} {H:Hp} {s:Shared} {a C dx:Addr} {fs:List (Str×V)} {f:Str} {v:V} {A:Around} {E:Value->Shared->Prop}
theorem Inv.made(I:Inv X pins σ H s):Inv X pins σ (upd (upd H s.heap.objs.size (.own (s.heap.objs.size+1))) (s.heap.objs.size+1) (.ins C s.heap.objs.size []))
  { s with heap:=(s.heap.push PySem.W.emptyDict).push (PySem.W.instObj C s.heap.objs.size) }:=by
 have e1:(s.heap.push PySem.W.emptyDict).get? s.heap.objs.size=some PySem.W.emptyDict:=Heap.get?_push_size s.heap rfl
 have e2:((s.heap.push PySem.W.emptyDict).push (PySem.W.instObj C s.heap.objs.size)).get? (s.heap.objs.size+1)=some (PySem.W.instObj C s.heap.objs.size):=by
  have:=Heap.get?_push_size (s.heap.push PySem.W.emptyDict) (o:=PySem.W.instObj C s.heap.objs.size) rfl
  rwa [Heap.size_push]at this
 have e3:(s.heap.push PySem.W.emptyDict).Ns s.heap.objs.size (fun _=>none):=⟨PySem.W.emptyDict,#[],_,e1,rfl,(fun e he=>absurd he (by simp)),fun _=>rfl⟩
 have I1:=I.laid (a:=s.heap.objs.size) (o:=.own (s.heap.objs.size+1)) (h':=s.heap.push PySem.W.emptyDict) (t':=s.toks) (fun b u q=>Heap.get?_push_of_some _ q) (Nat.le_refl _) ⟨_,e1⟩
 refine I1.laid (a:=s.heap.objs.size+1) (o:=.ins C s.heap.objs.size []) (t':=s.toks) (fun b u q=>Heap.get?_push_of_some _ q) (Nat.le_of_eq (Heap.size_push _ _)) ?_
 have ne:s.heap.objs.size≠s.heap.objs.size+1:=Nat.ne_of_lt (Nat.lt_succ_self _)
 refine⟨by rw [zz ne,zA],Nat.zero_le _,ne,e2,fun _=>none,(Heap.Ns1.of_empty e3).at fun o q=>Heap.get?_push_of_some _ q,fun _=>True.intro,fun y hy=>absurd rfl hy⟩
theorem znG{prog:Program}{w:World}{env:Env}{e:Expr}{f:Str}{pos:Pos}{s:Shared}{Q:Value->Shared->Prop}(hb:attributeBase e f env (eval e env)=eval e env)
  (h:wpAny (model prog w) A (eval e env) (fun o s₁=>wpAny (model prog w) A (getAttr o f true) Q E s₁) E s):wpAny (model prog w) A (eval (.Attribute e f pos) env) Q E s :=
 Attribute_any_ h (by rw [arm_eval_Attribute,hb])
end
section
variable {X:Cx} {o e value:Expr} {f:Str} {pos pos' tpos:Pos} {ta tv:TE}
end
section
variable {X:Cx} {pins:List (Addr×Obj)} {σ:St} {H:Hp} {s:Shared} {A:Around} {E:Value->Shared->Prop} {Q:Value->Shared->Prop} {c:Value} {b:Bool}
inductive TyOf (K:PySem.W.Frag) (H:Hp):V->Value->Prop where
 | non:TyOf K H .non (.type "NoneType")
 | bl (x:Bool):TyOf K H (.bl x) (.type "bool")
 | int (i:Int):TyOf K H (.int i) (.type "int")
 | str (x:Str):TyOf K H (.str x) (.type "str")
 | flt (x:UInt64):TyOf K H (.flt x) (.type "float")
 | lst {a:Addr} {xs:List V} (e:H a=some (.lst xs)):TyOf K H (.ref a) (.type "list")
 | frz {a:Addr} {o:Obj} {xs:List V} (e:H a=some (.frz o (.lst xs))):TyOf K H (.ref a) (.type "list")
 | tup {a:Addr} {xs:List V} (e:H a=some (.tup xs)):TyOf K H (.ref a) (.type "tuple")
 | dK {a:Addr} {kvs:List (Key×V)} (e:H a=some (.dK kvs)):TyOf K H (.ref a) (.type "dict")
 | dT {a:Addr} {kvs:List (List Key×V)} (e:H a=some (.dT kvs)):TyOf K H (.ref a) (.type "dict")
 | ins {a C dx:Addr} {fs:List (Str×V)} (e:H a=some (.ins C dx fs)) (cl:Cls K C) (ha:PySem.W.findIn K (.ref C) "__class__"=some (some (.builtin "object.__class__")))
   (hn:PySem.W.specialIn K (.builtin "object.__class__") "__get__"=some (some (.builtin "getset_descriptor.__get__"))) (htk:PySem.W.takesIn K (.builtin "object.__class__")=some true)
   (hm:PySem.W.mroIn K C (.type "object")=some true):TyOf K H (.ref a) (.ref C)
theorem zkJ{x:V}{u t:Value}(I:Inv X pins σ H s)(rx:zaj x u)(ty:TyOf X.K H x t)(e:PySem.W.kitOne X.K t c=some b)(h:∀ tk,Q (.bool b) { s with toks:=tk }) :
  wpAny (model X.prog X.w) A (call (.builtin "isinstance") [u,c]) Q E s:=by
 cases ty with
 | non=>cases(show u=Value.none from rx); exact PySem.W.kia_one PySem.W.kitx_none I.kIn True.intro e (fun z=>nomatch z) h
 | bl y=>cases(show u=Value.bool y from rx); exact PySem.W.kia_one PySem.W.kitx_bool I.kIn True.intro e (fun z=>nomatch z) h
 | int i=>obtain⟨t,q⟩:=(show ∃ t,u=Value.int i t from rx); cases q; exact PySem.W.kia_one PySem.W.kitx_int I.kIn True.intro e (fun z=>nomatch z) h
 | str y=>obtain⟨t,q⟩:=(show ∃ t,u=Value.str y t from rx); cases q; exact PySem.W.kia_one PySem.W.kitx_str I.kIn True.intro e (fun z=>nomatch z) h
 | flt y=>obtain⟨t,q⟩:=(show ∃ t,u=Value.float y t from rx); cases q; exact PySem.W.kia_one PySem.W.kitx_float I.kIn True.intro e (fun z=>nomatch z) h
 | @lst a xs ea =>
  cases(show u=Value.ref a from rx)
  obtain⟨_,_,n,_,h1⟩:=(show zbq X.prog X.w H s.heap a (.lst xs) from I.hok a _ ea)
  exact PySem.W.kia_one PySem.W.kitx_list I.kIn ⟨_,h1,rfl⟩ e (fun z=>nomatch z) h
 | @frz a ob xs ea =>
  cases(show u=Value.ref a from rx)
  obtain⟨_,_,_,n,_,h1⟩:=(show zbq X.prog X.w H s.heap a (.frz ob (.lst xs)) from I.hok a _ ea)
  exact PySem.W.kia_one PySem.W.kitx_list I.kIn ⟨_,h1,rfl⟩ e (fun z=>nomatch z) h
 | @tup a xs ea =>
  cases(show u=Value.ref a from rx)
  obtain⟨_,_,_,p⟩:=(show zbq X.prog X.w H s.heap a (.tup xs) from I.hok a _ ea)
  obtain⟨o,h1,h2,_⟩:=p
  exact PySem.W.kia_one PySem.W.kitx_tuple I.kIn ⟨o,h1,h2⟩ e (fun z=>nomatch z) h
 | @dK a kvs ea =>
  cases(show u=Value.ref a from rx)
  obtain⟨_,_,vs,_,p⟩:=(show zbq X.prog X.w H s.heap a (.dK kvs) from I.hok a _ ea)
  obtain⟨o,es,ep,h1,h2,_⟩:=p
  exact PySem.W.kia_one PySem.W.kitx_dict I.kIn ⟨o,h1,h2.1⟩ e (fun z=>nomatch z) h
 | @dT a kvs ea =>
  cases(show u=Value.ref a from rx)
  obtain⟨_,_,xs,_,o,es,ep,h1,h2,_⟩:=(show zbq X.prog X.w H s.heap a (.dT kvs) from I.hok a _ ea)
  exact PySem.W.kia_one PySem.W.kitx_dict I.kIn ⟨o,h1,h2.1⟩ e (fun z=>nomatch z) h
 | @ins a C dx fs ea cl ha hn htk hm =>
  cases(show u=Value.ref a from rx)
  obtain⟨mA,O,_⟩:=znF I.hok ea
  obtain⟨od,J,_⟩:=O.look
  exact PySem.W.kia_one (PySem.W.kitx_own (cl.get _) cl.hd ha hn htk hm) I.kIn J e (fun z=>nomatch z) h
end
structure Room (k:Nat) (A:Around):Prop where
 hd:A.handled=none
 dp:A.depth+3 * k+5 < recursionLimit
 un:A.units+16 * k+200 < cLine
 gd:A.guards=some []
theorem Room.mono{j k:Nat}{A:Around}(r:Room k A)(h:j<=k):Room j A:=⟨r.hd,by have:=r.dp; omega,by have:=r.un; omega,r.gd⟩
theorem Room.deeper{k:Nat}{A:Around}(r:Room (k+1) A)(env:Env):Room k (A.deeper env) :=
 ⟨r.hd,by have:=r.dp; show A.depth+1+3 * k+5 < _; omega,by have:=r.un; show A.units+3+16 * k+200 < _; omega,r.gd⟩
theorem Room.in1{k:Nat}{A:Around}(r:Room (k+1) A):Room k A.in1 :=
 ⟨r.hd,by have:=r.dp; show A.depth+3 * k+5 < _; omega,by have:=r.un; show A.units+1+16 * k+200 < _; omega,r.gd⟩
theorem ziZ{A:Around}{C:Addr}{us:List Value}{kw:List (Str×Value)}:(A.under (.builtin "type.__call__" ⟨.ref C::us,kw⟩)).depth=A.depth+1:=by
 first | rfl | simp [Around.under,Code.weight,Code.isCreation,Code.isGuard,Code.isCaller,Code.frames,Code.isFrame,guardIds]
theorem zi0{A:Around}{C:Addr}{us:List Value}{kw:List (Str×Value)}:(A.under (.builtin "type.__call__" ⟨.ref C::us,kw⟩)).units=A.units+1:=by
 first | rfl | simp [Around.under,Code.cUnits,Code.frames,Code.isFrame]
theorem Room.make{k:Nat}{A:Around}(r:Room (k+1) A)(C:Addr)(us:List Value)(kw:List (Str×Value)):Room k (A.under (.builtin "type.__call__" ⟨.ref C::us,kw⟩)) :=
 ⟨r.hd,by have:=r.dp; rw [ziZ]; omega,by have:=r.un; rw [zi0]; omega,by have:=r.gd; first | exact this | simpa [Around.under,Code.isGuard,guardIds] using this⟩
theorem Room.depth{k:Nat}{A:Around}(r:Room k A):A.depth < recursionLimit:=by have:=r.dp; omega
theorem Room.units{k:Nat}{A:Around}(r:Room k A):A.units+64 < cLine:=by have:=r.un; omega
def zes:TA:=fun _ H Q=>Q [] H
def zcb(ta:TE)(tr:TA):TA:=fun σ H Q=>ta σ H fun x H1=>tr σ H1 fun xs H2=>Q (x::xs) H2
section
variable {X:Cx} {e:Expr} {es:List Expr} {te:TE} {t:TA} {pos:Pos}
theorem zqX:PA X [] zes:=fun _ _ _ _ H Q I h=>Calls.spliced_nil ⟨[],H,I,.nil,h⟩
theorem znH(ha:PE X e te)(hr:PA X es t)(hs:starEach (e::es) X.env=(false,eval e X.env)::starEach es X.env:=by rfl):PA X (e::es) (zcb te t):=by
 intro pos pins s σ H Q I h
 rw [hs]
 show wpAny _ _ (spliced ((false,eval e X.env)::backTo pos (starEach es X.env))) _ _ s
 refine Calls.spliced_cons (thn (ha pins s σ H _ I h) fun u s1 ⟨x,H1,I1,r1,q1⟩=>?_)
 exact thn (hr pos pins s1 σ H1 _ I1 q1) fun us s2 ⟨xs,H2,I2,r2,q2⟩=>⟨x::xs,H2,I2,.cons r1 r2,q2⟩
def znI(t:TA):TE:=fun σ H Q=>t σ H fun xs H1=>xs.length<=sizeLine/\∀ p,H1 p=none->Q (.ref p) (upd H1 p (.tup xs))
def zqY(t:TA):TE:=fun σ H Q=>t σ H fun xs H1=>xs.length<=sizeLine/\∀ p,H1 p=none->Q (.ref p) (upd H1 p (.lst xs))
theorem zqZ{x1}(h:PA X es t):PE X (.Tuple es x1 pos) (znI t):=by
 intro pins s σ H Q I hq
 refine wpAny_Tuple_spliced (thn (h pos pins s σ H _ I hq) fun us s1 ⟨xs,H1,I1,r,z,q⟩=>⟨by rw [<-r.length]; exact z,?_⟩)
 have hf:H1 s1.heap.objs.size=none:=I1.hok.fresh (Nat.le_refl _)
 refine⟨.ref s1.heap.objs.size,upd H1 s1.heap.objs.size (.tup xs),I1.laid (t':=s1.toks) (fun b u e=>Heap.get?_push_of_some _ e) (Nat.le_refl _) ?_,rfl,q _ hf⟩
 exact⟨z,us,r,⟨_,Heap.get?_push_size _ rfl,rfl,_,rfl⟩⟩
theorem zq0(h:PA X es t):PE X (.List es pos) (zqY t):=by
 intro pins s σ H Q I hq
 refine wpAny_List_spliced (thn (h pos pins s σ H _ I hq) fun us s1 ⟨xs,H1,I1,r,z,q⟩=>⟨by rw [<-r.length]; exact z,?_⟩)
 have hf:H1 s1.heap.objs.size=none:=I1.hok.fresh (Nat.le_refl _)
 refine⟨.ref s1.heap.objs.size,upd H1 s1.heap.objs.size (.lst xs),I1.laid (t':=s1.toks) (fun b u e=>Heap.get?_push_of_some _ e) (Nat.le_refl _) ?_,rfl,q _ hf⟩
 exact⟨z,us,0,r,Heap.get?_push_size _ rfl⟩
end
abbrev Sp:=List V->Hp->VK->XK->Prop
abbrev CXT:=List Env->Hp->Shared->XK->Value->Shared->Prop
structure Env0 (P:Program) (w:World) (K:PySem.W.Frag) (mg:Str->Option Value) (base:Heap) (A:Around) (outer:List Env) (s:Shared) (H:Hp):Prop where
 frames:A.frames=some outer
 mod:Mod K mg base
 bs:∀ b o,base.get? b=some o->s.heap.get? b=some o/\H b=none
 bsz:base.objs.size<=s.heap.objs.size
 funs:s.heap.FunFrames base outer
 frf:∀ b∈frs outer,H b=none
 hok:HOk P w H s.heap
 bare:AllBare s.gens
def CE(outer:List Env)(P:Program)(w:World)(H:Hp)(s:Shared)(Q:VK)(u:Value)(s':Shared):Prop :=
 ∃ v H',s'.os=s.os/\AllBare s'.gens/\Un (frs outer) [] H H' s.heap s'.heap/\HOk P w H' s'.heap/\zaj v u/\Q v H'
def CR(CX:CXT)(outer:List Env)(P:Program)(w:World)(H:Hp)(s:Shared)(Q:VK)(E:XK)(r:Result)(s':Shared):Prop :=
 match r with
 | .ok (.ret u)=>CE outer P w H s Q u s'
 | .ok _=>False
 | .error e=>CX outer H s E e s'
structure FnOk (P:Program) (w:World) (K:PySem.W.Frag) (mg:Str->Option Value) (base:Heap) (CX:CXT) (k:Nat) (f:Addr) (fd:FuncData) (ps:List Str) (sp:Sp):Prop where
 len:∀ vs H Q E,sp vs H Q E->vs.length=ps.length
 run:∀ (A:Around) (outer:List Env) (s:Shared) (H:Hp) (args:Args) (us:List Value) (vs:List V) (Q:VK) (E:XK),Room k A->Env0 P w K mg base A outer s H->BindsTo s fd args (ps.zip us)->zM vs us->sp vs H Q E ->
  codeAny (model P w) A (.call (.ref f) args) (CR CX outer P w H s Q E) s
theorem FnOk.imp{P:Program}{w:World}{K:PySem.W.Frag}{mg:Str->Option Value}{base:Heap}{CX:CXT}{k:Nat}{f:Addr}{fd:FuncData}{ps:List Str}{sp sp':Sp}(F:FnOk P w K mg base CX k f fd ps sp)
  (h:∀ vs H Q E,sp' vs H Q E->sp vs H Q E):FnOk P w K mg base CX k f fd ps sp' :=
 ⟨fun vs H Q E q=>F.len vs H Q E (h _ _ _ _ q),fun A outer s H args us vs Q E hr he hb hv hs=>F.run A outer s H args us vs Q E hr he hb hv (h _ _ _ _ hs)⟩
theorem Env0.make{P:Program}{w:World}{K:PySem.W.Frag}{mg:Str->Option Value}{base:Heap}{A:Around}{outer:List Env}{s:Shared}{H:Hp}(e:Env0 P w K mg base A outer s H)(C:Addr)(us:List Value)(kw:List (Str×Value)) :
  Env0 P w K mg base (A.under (.builtin "type.__call__" ⟨.ref C::us,kw⟩)) outer s H:=⟨by first | exact e.frames | (simpa [Around.under,Code.envs,Code.isFrame,pushEnvs] using e.frames),e.mod,e.bs,e.bsz,e.funs,e.frf,e.hok,e.bare⟩
theorem Env0.in1{P:Program}{w:World}{K:PySem.W.Frag}{mg:Str->Option Value}{base:Heap}{A:Around}{outer:List Env}{s:Shared}{H:Hp}(e:Env0 P w K mg base A outer s H) :
  Env0 P w K mg base A.in1 outer s H:=⟨e.frames,e.mod,e.bs,e.bsz,e.funs,e.frf,e.hok,e.bare⟩
section
variable {X:Cx} {pins:List (Addr×Obj)} {σ:St} {H:Hp} {s s':Shared}
theorem Inv.env0(I:Inv X pins σ H s):Env0 X.prog X.w X.K X.mg X.base X.A X.stack s H :=
 ⟨I.ok.frames,I.ok.mod,I.bs,Nat.le_trans I.ok.bsz I.sz,I.stack,I.stkFree,I.hok,I.bare⟩
theorem Inv.after{Q:VK}{u:Value}(I:Inv X pins σ H s)(h:CE X.stack X.prog X.w H s Q u s'):EP X pins σ Q u s':=by
 obtain⟨v,H',os,bare,un,hok,r,q⟩:=h
 obtain⟨hh,g,d,t,os'⟩:=s'
 obtain rfl:os'=s.os:=os
 exact⟨v,H',I.call (h':=hh) (g':=g) (d':=d) (t':=t) (ch:=[]) un hok bare (fun b z=>absurd z (by simp)),r,q⟩
end
def zpP(sp:Sp)(dvs:List V)(E:XK)(t:TA):TE:=fun σ H Q=>t σ H fun vs H1=>sp (vs++dvs) H1 Q E
def zcX(K:PySem.W.Frag)(fd:FuncData)(ps:List Str)(ds:List Value):Prop :=
 ∀ (s:Shared) (us:List Value),K.In s.heap->(us++ds).length=ps.length->BindsTo s fd ⟨us,[]⟩ (ps.zip (us++ds))
theorem zcX.all{K:PySem.W.Frag}{fd:FuncData}{ps:List Str}(h:∀ us:List Value,us.length=ps.length->bindArgs fd ⟨us,[]⟩=pure (ps.zip us)):zcX K fd ps []:=fun s us _ hl=>by
 rw [List.append_nil]at hl ⊢
 exact .of_eq (h us hl)
def zet(CX:CXT)(X:Cx)(E:XK):Prop:=∀ (pins:List (Addr×Obj)) (σ:St) (H:Hp) (s:Shared) (e:Value) (s':Shared),Inv X pins σ H s->CX X.stack H s E e s'->X.xe e s'
section
variable {X:Cx} {CX:CXT} {k:Nat} {f C:Addr} {fd:FuncData} {ps:List Str} {sp:Sp} {dvs:List V} {ds:List Value} {E:XK} {x m:Str} {p pos apos:Pos} {e o:Expr} {es:List Expr} {ta:TE} {t:TA}
theorem zq1{pins:List (Addr×Obj)}{σ:St}{H:Hp}{s:Shared}{Q:VK}{us:List Value}{vs:List V}(F:FnOk X.prog X.w X.K X.mg X.base CX k f fd ps sp)(hr:Room k X.A)(hb:zcX X.K fd ps ds)(hd:zM dvs ds)(hx:zet CX X E)
  (I:Inv X pins σ H s) (r:zM vs us) (h:sp (vs++dvs) H Q E):wpAny (model X.prog X.w) X.A (call (.ref f) us) (EP X pins σ Q) X.xe s:=by
 have r2:zM (vs++dvs) (us++ds):=r.append hd
 have hl:(us++ds).length=ps.length:=by rw [<-r2.length]; exact F.len _ _ _ _ h
 refine wpAny_call (codeAny_mono (F.run X.A X.stack s H ⟨us,[]⟩ (us++ds) (vs++dvs) Q E hr I.env0 (hb s us I.kIn hl) r2 h) fun r s' hq=>?_)
 cases r with
 | error e=>exact hx pins σ H s e s' I hq
 | ok fl =>
  cases fl with
  | ret u=>exact I.after hq
  | next=>exact False.elim hq
  | brk=>exact False.elim hq
  | cont=>exact False.elim hq
theorem znJ(F:FnOk X.prog X.w X.K X.mg X.base CX k f fd ps sp)(hr:Room k X.A)(hg:Gl X x)(hm:X.mg x=some (.ref f))(hk:PySem.W.keepIn X.K (.ref f)=true)(hb:zcX X.K fd ps ds)(hd:zM dvs ds)(hx:zet CX X E)
  (ha:PA X (e::es) t) (hdb:(x==("__debug__":Str))=false:=by decide) (he:starEach (e::es) X.env=(false,eval e X.env)::starEach es X.env:=by rfl) (hpl:(backTo pos (starEach es X.env)).any (·.1)=false:=by rfl) :
  PE X (.Call (.Name x p) (e::es) [] pos) (zpP sp dvs E t):=by
 intro pins s σ H Q I h
 refine wpAny_Call_Name_kw (zdE I hg hm ?_ hdb)
 refine PySem.W.callWith_K (h₀:=X.base) I.ok.mod.kin hk (thn (ha pos pins s σ H _ I h) fun us s1 ⟨vs,H1,I1,r,q⟩=>⟨I1.kIn,?_⟩) he hpl
 exact zq1 F hr hb hd hx I1 r q
end
def PK(X:Cx)(kws:List Keyword)(t:TA):Prop :=
 ∀ (pos:Pos) (pins:List (Addr×Obj)) (s:Shared) (σ:St) (H:Hp) (Q:List V->Hp->Prop),Inv X pins σ H s->t σ H Q->wpAny (model X.prog X.w) X.A (evalAll ((backToKw pos (keywordEach kws X.env)).map (·.2))) (AP X pins σ Q) X.xe s
section
variable {X:Cx} {CX:CXT} {k:Nat} {f C:Addr} {fd:FuncData} {ps ks:List Str} {sp:Sp} {E:XK} {x m:Str} {p pos apos kpos:Pos} {e o:Expr} {es:List Expr} {kws:List Keyword} {te ta:TE} {t tk:TA} {nm:Option Str}
theorem zq2:PK X [] zes:=fun _ _ _ _ H Q I h=>wpAny_evalAll_nil ⟨[],H,I,.nil,h⟩
theorem znK(ha:PE X e te)(hr:PK X kws t):PK X (⟨nm,e,kpos⟩::kws) (zcb te t):=by
 intro pos pins s σ H Q I h
 show wpAny _ _ (evalAll ((do let v <-eval e X.env; standAt pos; pure v)::(backToKw pos (keywordEach kws X.env)).map (·.2))) _ _ s
 refine wpAny_evalAll_cons (wpAny_bind (thn (ha pins s σ H _ I h) fun u s1 ⟨x,H1,I1,r1,q1⟩=>wpAny_bind (wpAny_standAt (wpAny_pure ?_))))
 exact thn (hr pos pins s1 σ H1 _ I1 q1) fun us s2 ⟨xs,H2,I2,r2,q2⟩=>⟨x::xs,H2,I2,.cons r1 r2,q2⟩
variable {g:List Value->List Value->List Value} {gV:List V->List V->List V}
end
structure FnScope (N P:List Str) (sc:Scope):Prop where
 kind:sc.kind=.function
 co:sc.isCoroutine=false
 gen:sc.isGenerator=false
 nd:N.Nodup
 pre:N.take P.length=P
 par:∀ x∈P,sc.names.lookup x=some .local\/sc.names.lookup x=some .cell
 nofree:∀ y∈sc.names,y.2≠.free
theorem zgZ{kindOf:Str->Option NameKind}{x:Str}:∀ {binds:List (Str×Value)} {m:Str->Option Value},(∀ v,(x,v)∉binds)->bindL kindOf binds m x=m x
 | [],_,_=>rfl
 | (n,v)::r,m,h=>by
  unfold bindL
  rw [zgZ fun w hw=>h w (List.mem_cons_of_mem _ hw)]
  split
  ·have:x≠n:=by rintro rfl; exact h v List.mem_cons_self
   simp [this]
  ·rfl
theorem zg0{kindOf:Str->Option NameKind}{x:Str}:∀ {binds:List (Str×Value)} {m:Str->Option Value},(∀ v,(x,v)∉binds)->bindC kindOf binds m x=m x
 | [],_,_=>rfl
 | (n,v)::r,m,h=>by
  unfold bindC
  rw [zg0 fun w hw=>h w (List.mem_cons_of_mem _ hw)]
  split
  ·rfl
  ·have:x≠n:=by rintro rfl; exact h v List.mem_cons_self
   simp [this]
theorem ze2{kindOf:Str->Option NameKind}{x:Str}{v:Value}:∀ {P:List Str} {vs:List Value} {i:Nat} {m:Str->Option Value},P.Nodup->P[i]?=some x->vs[i]?=some v->kindOf x=some .local ->
  bindL kindOf (P.zip vs) m x=some v
 | [],_,_,_,_,h,_,_=>by simp at h
 | _::_,[],_,_,_,_,h,_=>by simp at h
 | p::P,w::vs,0,m,nd,h1,h2,hk=>by
  simp at h1 h2; subst h1; subst h2
  show bindL kindOf ((p,w)::P.zip vs) m p=_
  unfold bindL
  rw [zgZ fun v hv=>(List.nodup_cons.mp nd).1 (List.of_mem_zip hv).1,if_pos hk]
  simp
 | p::P,w::vs,i+1,m,nd,h1,h2,hk=>by
  show bindL kindOf ((p,w)::P.zip vs) m x=_
  unfold bindL
  exact ze2 (i:=i) (List.nodup_cons.mp nd).2 (by simpa using h1) (by simpa using h2) hk
theorem ze3{kindOf:Str->Option NameKind}{x:Str}{v:Value}:∀ {P:List Str} {vs:List Value} {i:Nat} {m:Str->Option Value},P.Nodup->P[i]?=some x->vs[i]?=some v->kindOf x≠some .local ->
  bindC kindOf (P.zip vs) m x=some v
 | [],_,_,_,_,h,_,_=>by simp at h
 | _::_,[],_,_,_,_,h,_=>by simp at h
 | p::P,w::vs,0,m,nd,h1,h2,hk=>by
  simp at h1 h2; subst h1; subst h2
  show bindC kindOf ((p,w)::P.zip vs) m p=_
  unfold bindC
  rw [zg0 fun v hv=>(List.nodup_cons.mp nd).1 (List.of_mem_zip hv).1,if_neg hk]
  simp
 | p::P,w::vs,i+1,m,nd,h1,h2,hk=>by
  show bindC kindOf ((p,w)::P.zip vs) m x=_
  unfold bindC
  exact ze3 (i:=i) (List.nodup_cons.mp nd).2 (by simpa using h1) (by simpa using h2) hk
def za9(N:List Str)(vs:List V):St:=vs.map some++List.replicate (N.length - vs.length) none
def zfv(CX:CXT)(P:Program)(w:World)(K:PySem.W.Frag)(mg:Str->Option Value)(base:Heap)(N:List Str)(qual:Str)(scope:Scope)(f:Addr)(cd:Value)(A:Around)(outer:List Env)(s:Shared)(H:Hp)(E:XK):Cx where
 prog:=P
 w:=w
 K:=K
 mg:=mg
 base:=base
 A:=A.deeper (envOfC qual scope s.heap.objs.size f cd)
 N:=N
 s₀:=s
 H₀:=H
 env:=envOfC qual scope s.heap.objs.size f cd
 outer:=outer
 stack:=envOfC qual scope s.heap.objs.size f cd::outer
 ex:=[]
 calm:=true
 fn:=fun _=>true
 pn:=[]
 xe:=fun e s'=>wpAny (model P w) (A.deeper (envOfC qual scope s.heap.objs.size f cd)) (leaving (envOfC qual scope s.heap.objs.size f cd) e) (fun _ s''=>CX outer H s E e s'') (fun e' s''=>CX outer H s E e' s'') s'
theorem zeD{sc:Scope}{n:Nat}{x:Str}(h:sc.names.lookup x=some .cell):∃ c,(cellsFrom n sc.names []).lookup x=some c:=by
 have q:=PySem.W.cellsFrom_some sc.names n [] (.inl h)
 exact Option.isSome_iff_exists.mp q
theorem zkK{CX:CXT}{P:Program}{w:World}{K:PySem.W.Frag}{mg:Str->Option Value}{base:Heap}{N ps:List Str}{qual:Str}{scope:Scope}{f:Addr}{cd:Value}{A:Around}{outer:List Env}{s s1:Shared}{H:Hp}{E:XK}{us:List Value}{vs:List V}
  (S:FnScope N ps scope) (hd:A.handled=none) (e0:Env0 P w K mg base A outer s H) (hl:vs.length=ps.length) (r:zM vs us)
  (x:InCallC s s.heap.objs.size (bindL (envOfC qual scope s.heap.objs.size f cd).kindOf (ps.zip us) fun _=>none) (cellsFrom (s.heap.objs.size+1) scope.names []) (bindC (envOfC qual scope s.heap.objs.size f cd).kindOf (ps.zip us) fun _=>none) s1) :
  Inv (zfv CX P w K mg base N qual scope f cd A outer s H E) [] (za9 N vs) H s1:=by
 have hpl:ps.length<=N.length:=by have:=congrArg List.length S.pre; rw [List.length_take]at this; omega
 obtain⟨h1,tk,rfl,hk⟩:=x.done
 have noA:∀ b:Addr,b∉(zfv CX P w K mg base N qual scope f cd A outer s H E).ex:=fun b z=>absurd (show b∈([]:List Addr) from z) (by simp)
 refine⟨⟨e0.mod,S.kind,rfl,rfl,Nat.le_refl _,fun y z c h1 h2=>?_,fun y hy=>?_,fun y c _ h=>?_,fun _=>hd,Around.frames_deeper e0.frames,.inr ⟨rfl,rfl⟩,fun b z=>absurd z (noA b),e0.bs,e0.bsz,fun b _ _=>noA b,fun b z=>absurd z (noA b),e0.funs,e0.frf⟩,
  rfl,e0.bare,Un.kept hk,⟨_,x.toInCall.ns,fun i y v h1 h2 h3=>?_⟩,fun y c h=>⟨_,x.cell y c h⟩,e0.hok.fresh (Nat.le_refl _),fun y c h=>?_,fun p hp=>absurd (show p∈([]:List (Addr×Obj)) from hp) (by simp),e0.hok.kept hk,?_⟩
 ·exact name_of_addr x.apart (PySem.mem_of_lookup h1) (PySem.mem_of_lookup h2)
 ·have hy:scope.names.lookup y=some .cell\/scope.names.lookup y=some .free:=hy
  rcases hy with hy | hy
  ·exact zeD hy
  ·exact absurd rfl (S.nofree _ (PySem.mem_of_lookup hy))
 ·exact Nat.le_of_lt (x.above y c (PySem.mem_of_lookup h))
 ·have hi:i < vs.length:=by
   unfold za9 at h2
   by_cases hi:i < vs.length
   ·exact hi
   ·rw [List.getElem?_append_right (by simpa using hi)]at h2
    rw [List.getElem?_replicate]at h2
    split at h2<;>cases h2
  have ha:vs[i]?=some v:=by
   unfold za9 at h2
   rw [List.getElem?_append_left (by simpa using hi),List.getElem?_map]at h2
   cases e:vs[i]? with
   | none=>rw [e]at h2; cases h2
   | some a=>rw [e]at h2; cases h2; rfl
  obtain⟨u,hu,rv⟩:=r.get ha
  have hp:ps[i]?=some y:=by
   rw [<-S.pre,List.getElem?_take_of_lt (by omega)]; exact h1
  have ndP:ps.Nodup:=by rw [<-S.pre]; exact S.nd.sublist (List.take_sublist _ _)
  refine⟨u,rv,?_⟩
  rcases S.par y (List.mem_of_getElem? hp)with k | k
  ·exact .inl ⟨k,ze2 ndP hp hu k⟩
  ·obtain⟨c,e⟩:=zeD (n:=s.heap.objs.size+1) k
   refine .inr ⟨.inl k,c,e,?_⟩
   have q:=x.cell y c e
   rw [ze3 ndP hp hu (by show scope.names.lookup y≠_; rw [k]; decide)]at q
   exact q
 ·exact e0.hok.fresh (Nat.le_of_lt (x.above y c (PySem.mem_of_lookup h)))
 ·unfold za9
  show _=N.length
  rw [List.length_append,List.length_map,List.length_replicate]
  omega
theorem zpQ{CX:CXT}{P:Program}{w:World}{K:PySem.W.Frag}{mg:Str->Option Value}{base:Heap}{k:Nat}{f:Addr}{name qual:Str}{params:Arguments}{body:List Stmt}{scope:Scope}{dV kV doc pm cdv ct oc:Value}{an od:Option Addr}
  {osl:Array (Option Value)} {N ps:List Str} {sp:Sp} (lk:K.lookup f=some ⟨oc,od,.func (PySem.W.fnOf name qual params body scope dV kV doc pm an cdv ct),osl⟩) (hcd:PySem.W.codeIn K cdv qual=true) (S:FnScope N ps scope)
  (len:∀ vs H Q E,sp vs H Q E->vs.length=ps.length)
  (hbody:∀ (A:Around) (outer:List Env) (s:Shared) (H:Hp) (vs:List V) (Q:VK) (E:XK),Room k (A.deeper (envOfC qual scope s.heap.objs.size f cdv))->sp vs H Q E ->
   ∃ t,PSs (zfv CX P w K mg base N qual scope f cdv A outer s H E) body t/\t { nx:=fun _ H'=>Q .non H',rt:=Q } (za9 N vs) H) :
  FnOk P w K mg base CX (k+1) f (PySem.W.fnOf name qual params body scope dV kV doc pm an cdv ct) ps sp:=by
 refine⟨len,fun A outer s H args us vs Q E hr e0 hb r hsp=>?_⟩
 have hl:=len _ _ _ _ hsp
 have KX:K.In s.heap:=e0.mod.kin.keeps fun b o e=>(e0.bs b o e).1
 have lim:s.heap.NoLimit:=e0.mod.nolimit.keeps fun b o e=>(e0.bs b o e).1
 have hkind:∀ y∈ps.zip us,scope.names.lookup y.1=some .local\/(scope.names.lookup y.1=some .cell/\((cellsFrom (s.heap.objs.size+1) scope.names []).lookup y.1).isSome=true):=fun⟨n,v⟩ hy=>by
  rcases S.par n (List.of_mem_zip hy).1 with q | q
  ·exact .inl q
  ·exact .inr ⟨q,PySem.W.cellsFrom_some _ _ _ (.inl q)⟩
 refine codeAny_call_function hr.depth (KX _ _ lk) rfl S.co S.gen rfl (PySem.W.codeRec_of KX hcd) (hb _ _ _ _ ?_)
 refine wpAny_newFunctionEnv_cells S.kind hkind fun env he s1 x=>?_
 subst he
 refine⟨lim.keeps x.toInCall.keep,codeAny_func ?_⟩
 obtain⟨t,ht,hq⟩:=hbody A outer s H vs Q E (hr.deeper _) hsp
 have I:Inv (zfv CX P w K mg base N qual scope f cdv A outer s H E) [] (za9 N vs) H s1:=zkK S hr.hd e0 hl r x
 refine wpAny_mono (ht [] s1 (za9 N vs) H _ I hq) (fun fl s' hs=>?_) fun e s' hs=>hs
 have fin:∀ {σ':St} {H':Hp} {v:V} {u:Value},Inv (zfv CX P w K mg base N qual scope f cdv A outer s H E) [] σ' H' s'->zaj v u->Q v H'->CE outer P w H s Q u s' :=
  fun{σ' H' v u} J rv q=>⟨v,H',J.os,J.bare,J.base,J.hok,rv,q⟩
 cases fl with
 | ret u =>
  obtain⟨v,σ',H',J,rv,q⟩:=hs
  exact fin J rv q
 | next =>
  obtain⟨σ',H',J,q⟩:=hs
  exact fin (v:=V.non) (u:=Value.none) J rfl q
 | brk =>
  obtain⟨_,_,_,q⟩:=hs
  exact False.elim q
 | cont =>
  obtain⟨_,_,_,q⟩:=hs
  exact False.elim q
section
variable {X:Cx} {x:Str} {p pos:Pos} {e:Expr} {es:List Expr} {t:TA} {id T:String} {r:List V->Hp->VK->Prop}
def tCB(r:List V->Hp->VK->Prop)(t:TA):TE:=fun σ H Q=>t σ H fun vs H1=>r vs H1 Q
theorem zlH(hc:zbT X (.builtin id) r)(hg:Gl X x)(hm:X.mg x=none)(hv:bootBuiltins x=some (.builtin id))(ha:PA X (e::es) t)(hn:x ≠ "__name__":=by decide)(hdb:(x==("__debug__":Str))=false:=by decide)
  (he:starEach (e::es) X.env=(false,eval e X.env)::starEach es X.env:=by rfl) (hpl:(backTo pos (starEach es X.env)).any (·.1)=false:=by rfl):PE X (.Call (.Name x p) (e::es) [] pos) (tCB r t):=by
 intro pins s σ H Q I h
 refine wpAny_Call_Name_kw (zeq I hg hm hv ?_ hn hdb)
 exact PyProof.Rows.callWith_builtin1 (thn (ha pos pins s σ H _ I h) fun us s1 ⟨vs,H1,I1,r1,q1⟩=>hc pins s1 σ H1 vs us Q I1 r1 q1) he hpl
theorem zkL(hc:zbT X (.type T) r)(hg:Gl X x)(hm:X.mg x=none)(hv:bootBuiltins x=some (.type T))(ha:PA X (e::es) t)(hn:x ≠ "__name__":=by decide)(hdb:(x==("__debug__":Str))=false:=by decide)
  (he:starEach (e::es) X.env=(false,eval e X.env)::starEach es X.env:=by rfl) (hpl:(backTo pos (starEach es X.env)).any (·.1)=false:=by rfl):PE X (.Call (.Name x p) (e::es) [] pos) (tCB r t):=by
 intro pins s σ H Q I h
 refine wpAny_Call_Name_kw (zeq I hg hm hv ?_ hn hdb)
 exact PyProof.Rows.callWith_type1 (thn (ha pos pins s σ H _ I h) fun us s1 ⟨vs,H1,I1,r1,q1⟩=>hc pins s1 σ H1 vs us Q I1 r1 q1) he hpl
end
end L2
namespace HT
open PySem PyProof.Rows
section
open PySem.SeqAt
open PySem.AutoSeq1 (wpAny_loadPart')
open PySem.MeetsSeq PySem.MeetsSeq2 PySem.MeetsSeq3
end
section
variable {prog:Program} {w:World} {A:Around} {E:Value->Shared->Prop} {s:Shared}
theorem cat_tup{t b:Addr}{vs ws:List Value}{Q:Value->Shared->Prop}(ht:IsTup s.heap t vs.toArray)(hb:IsTup s.heap b ws.toArray)(hv:vs≠[])
  (h1:ws=[]->Q (.ref t) s) (h2:ws≠[]->Q (.ref s.heap.objs.size) { s with heap:=s.heap.push { cls:=.type "tuple",data:=.seq (vs++ws).toArray } })
  (hsz:vs.length+ws.length<=sizeLine):wpAny (model prog w) A (binaryOp .Add (.ref t) (.ref b)) Q E s:=by
 obtain⟨⟨cls,dd,data,sl⟩,ho,hc,n,hd⟩:=id ht
 obtain⟨⟨cls2,dd2,data2,sl2⟩,ho2,hc2,n2,hd2⟩:=id hb
 simp only at hc hd hc2 hd2
 subst hc hd hc2 hd2
 have e:vs.toArray++ws.toArray=(vs++ws).toArray:=by simp
 by_cases hw:ws=[]
 ·exact concat_meets ⟨_,ho,rfl⟩ ⟨_,ho2,rfl⟩ noFill_tuple_add seq_tuple_add PySem.F.slot_tuple_add PySem.F.entry_tuple_add (PySem.F.args_tuple_add_2 _ _)
   (tuple_addW1 t b vs.toArray ws.toArray n n2 dd dd2 sl sl2 (by simpa using hv) (by simp [hw])) ⟨ho,ho2,h1 hw⟩
 ·refine concat_meets ⟨_,ho,rfl⟩ ⟨_,ho2,rfl⟩ noFill_tuple_add seq_tuple_add PySem.F.slot_tuple_add PySem.F.entry_tuple_add (PySem.F.args_tuple_add_2 _ _)
   (tuple_addW2 t b vs.toArray ws.toArray n n2 dd dd2 sl sl2 (by simpa using hv) (by simpa using hw) (by rw [List.size_toArray,List.size_toArray]; exact hsz)) ⟨ho,ho2,?_⟩
  rw [e]
  exact h2 hw
def sIx(n d:Nat):Option Int->Nat
 | none=>d
 | some v=>if v < 0 then(v+(n:Int)).toNat else min v.toNat n
theorem sIx_none(n d:Nat):sIx n d none=d:=rfl
theorem sIx_nat(n d k:Nat):sIx n d (some (k:Int))=min k n:=by
 show(if(k:Int) < 0 then((k:Int)+(n:Int)).toNat else min (k:Int).toNat n)=min k n
 rw [if_neg (by omega),Int.toNat_natCast]
theorem zq3(n d:Nat)(hd:d<=n)(o:Option Int):sIx n d o<=n:=by
 cases o with
 | none=>exact hd
 | some v =>
  show(if v < 0 then(v+(n:Int)).toNat else min v.toNat n)<=n
  by_cases hv:v < 0
  ·rw [if_pos hv]; omega
  ·rw [if_neg hv]; exact Nat.min_le_right _ _
theorem zjR(v:Int)(n d:Nat):(if v < 0 then max (v+(n:Int)) 0 else min v (n:Int))=((sIx n d (some v):Nat):Int):=by
 show(if v < 0 then max (v+(n:Int)) 0 else min v (n:Int))=(((if v < 0 then(v+(n:Int)).toNat else min v.toNat n):Nat):Int)
 by_cases hv:v < 0
 ·simp only [if_pos hv]; omega
 ·simp only [if_neg hv]; omega
theorem zi1(lo hi:Option Int)(n:Nat):Builtin.Slice.sliceAdjust lo hi 1 (n:Int)=(((sIx n 0 lo:Nat):Int),((sIx n n hi:Nat):Int)):=by
 have h1:¬((1:Int) < 0):=by omega
 unfold Builtin.Slice.sliceAdjust
 simp only [h1,if_false]
 refine Prod.ext ?_ ?_
 ·cases lo with
  | none=>rfl
  | some v=>exact zjR v n 0
 ·cases hi with
  | none=>rfl
  | some v=>exact zjR v n n
theorem zi2(i j:Nat):Builtin.Slice.slicePlaces (i:Int) (j:Int) 1=j - i:=by
 unfold Builtin.Slice.slicePlaces
 have h1:(1:Int) > 0:=by omega
 simp only [h1,if_true,Int.ediv_one]
 split<;>omega
theorem zf4{v:Value}{o:Option Int}{Q:Option Int->Shared->Prop}(p:IsPart v o)(h:Q o s):wpAny (model prog w) A (Builtin.Slice.slicePartIndex v) Q E s:=by
 cases p with
 | none=>exact slicePart_none h
 | int i t=>exact slicePart_int h
theorem zds{sl:Addr}{vl vu:Value}{lo hi:Option Int}{n:Nat}{Q:Int×Int×Nat->Shared->Prop}(hs:s.heap.IsSliceOf sl vl vu .none)(pl:IsPart vl lo)(pu:IsPart vu hi)
  (h:Q (((sIx n 0 lo:Nat):Int),1,sIx n n hi - sIx n 0 lo) s):wpAny (model prog w) A (Builtin.Slice.sliceApplied (.ref sl) (pure (n:Int))) Q E s:=by
 obtain⟨os,hos,hcs,hds⟩:=id hs
 unfold Builtin.Slice.sliceApplied Builtin.Slice.sliceFields
 refine wpAny_bind (wpAny_bind (wpAny_field hos hds (x:=vl) rfl (wpAny_bind (wpAny_field hos hds (x:=vu) rfl (wpAny_bind (wpAny_field hos hds (x:=.none) rfl (wpAny_pure ?_)))))))
 refine wpAny_bind (slicePart_none ?_)
 show wpAny _ _ (if((1:Int)==0)=true then _ else _) _ _ s
 rw [if_neg (by decide)]
 refine wpAny_bind (zf4 pl (wpAny_bind (zf4 pu (wpAny_bind (wpAny_pure ?_)))))
 show wpAny _ _ (match Builtin.Slice.sliceAdjust lo hi 1 (n:Int)with | (lo,hi)=>pure (lo,(1:Int),Builtin.Slice.slicePlaces lo hi 1)) _ _ s
 rw [zi1 lo hi n]
 show wpAny _ _ (pure (((sIx n 0 lo:Nat):Int),(1:Int),Builtin.Slice.slicePlaces ((sIx n 0 lo:Nat):Int) ((sIx n n hi:Nat):Int) 1)) _ _ s
 rw [zi2]
 exact wpAny_pure h
theorem zlI(xs:Array Value)(i k:Nat):((List.range k).filterMap fun(m:Nat)=>xs[((i:Int)+(m:Int) * 1).toNat]?).toArray=((xs.toList.drop i).take k).toArray:=by
 have e:(fun(m:Nat)=>xs[((i:Int)+(m:Int) * 1).toNat]?)=fun m=>xs[i+m]?:=by
  funext m
  have:((i:Int)+(m:Int) * 1).toNat=i+m:=by omega
  rw [this]
 rw [e]
 have:=pick_run xs i k
 rw [List.filterMap_map]at this
 have e2:((fun x=>xs[x]?) ∘ fun x=>i+x)=fun m=>xs[i+m]?:=rfl
 rw [e2]at this
 rw [this]
theorem getItem_tuple_cut{t sl:Addr}{items:Array Value}{vl vu:Value}{lo hi:Option Int}{Q:Value->Shared->Prop}(ht:IsTup s.heap t items)(hs:s.heap.IsSliceOf sl vl vu .none)(pl:IsPart vl lo)(pu:IsPart vu hi)
  (hw:¬(sIx items.size 0 lo=0/\sIx items.size items.size hi=items.size))
  (h:Q (.ref s.heap.objs.size) { s with heap:=s.heap.push { cls:=.type "tuple",data:=.seq ((items.toList.drop (sIx items.size 0 lo)).take (sIx items.size items.size hi - sIx items.size 0 lo)).toArray } })
  (hsz:items.size<=sizeLine):wpAny (model prog w) A (getItem (.ref t) (.ref sl)) Q E s:=by
 have htake:sizeOk (.seq ((items.toList.drop (sIx items.size 0 lo)).take (sIx items.size items.size hi - sIx items.size 0 lo)).toArray):=by
  show((items.toList.drop (sIx items.size 0 lo)).take (sIx items.size items.size hi - sIx items.size 0 lo)).toArray.size<=sizeLine
  rw [List.size_toArray,List.length_take,List.length_drop,Array.length_toList]
  omega
 have hj:sIx items.size items.size hi<=items.size:=zq3 _ _ (Nat.le_refl _) hi
 obtain⟨os,hos,hcs,hds⟩:=id hs
 have hTs:s.TypeIs (.ref sl) "slice":=⟨os,hos,hcs⟩
 unfold getItem
 try with_reducible refine wpAny_holding ?_
 first | refine wpAny_bind (wpAny_pure ?_) | skip
 refine wpAny_bind (wpAny_sequenceKey ht.typeIs (by decide) ?_)
 refine wpAny_bind (wpAny_callSpecial?_slot (name:=Str.ofString "__getitem__") ht.typeIs PyProof.Rows.slot_tuple_getitem
  (wpAny_call_entry PyProof.Rows.slot_tuple_getitem ht.typeIs entry_tuple_getitem ?_ (args_tuple_getitem _ _)))
 show wpAny _ _ (Builtin.Tuple.tupleItemsOf (.ref t) >>= _) _ _ s
 refine wpAny_bind (tupleItemsOf_ ht ?_)
 refine wpAny_bind (wpAny_typeOf hTs ?_)
 rw [if_pos (by decide)]
 refine wpAny_bind (zds hs pl pu ?_)
 have hno:¬((((sIx items.size 0 lo:Nat):Int)==0 && (1:Int)==1 && (sIx items.size items.size hi - sIx items.size 0 lo)==items.size)=true):=by
  intro q
  rw [Bool.and_eq_true,Bool.and_eq_true]at q
  have q1:((sIx items.size 0 lo:Nat):Int)=0:=eq_of_beq q.1.1
  have q2:sIx items.size items.size hi - sIx items.size 0 lo=items.size:=eq_of_beq q.2
  exact hw ⟨by omega,by omega⟩
 show wpAny _ _ (if(((sIx items.size 0 lo:Nat):Int)==0 && (1:Int)==1 && (sIx items.size items.size hi - sIx items.size 0 lo)==items.size)=true then _ else _) _ _ s
 rw [if_neg hno,zlI]
 first
  | exact wpAny_bind (m:=Builtin.Tuple.tupleExact _) (wpAny_newObj_type (wpAny_pure ⟨_,rfl,wpAny_pure h⟩) htake)
  | exact wpAny_bind (m:=Builtin.Tuple.tupleExact _) (wpAny_newObj_type (wpAny_bind (wpAny_pure (wpAny_pure ⟨_,rfl,wpAny_pure h⟩))) htake)
  | exact wpAny_bind (wpAny_bind (m:=Builtin.Tuple.tupleExact _) (wpAny_newObj_type (wpAny_pure (wpAny_pure ⟨_,rfl,wpAny_pure h⟩)) htake))
  | exact wpAny_bind (wpAny_bind (m:=Builtin.Tuple.tupleExact _) (wpAny_newObj_type (wpAny_pure ⟨_,rfl,wpAny_pure h⟩) htake))
end
end HT
namespace L2
open PySem PySem.Spec PyProof.Rows
abbrev TO:=St->Hp->(Option Int->Hp->Prop)->Prop
def PO(X:Cx)(e:Option Expr)(t:TO):Prop :=
 ∀ (pins:List (Addr×Obj)) (s:Shared) (σ:St) (H:Hp) (Q:Option Int->Hp->Prop),Inv X pins σ H s->t σ H Q ->
  wpAny (model X.prog X.w) X.A (evalPart e X.env) (fun u s'=>∃ o H',Inv X pins σ H' s'/\IsPart u o/\Q o H') X.xe s
def zhi:TO:=fun _ H Q=>Q none H
def zlJ(t:TE):TO:=fun σ H Q=>t σ H fun x H1=>∃ i,x=.int i/\Q (some i) H1
section
variable {X:Cx} {e:Expr} {te:TE} {lo hi:Option Expr} {tl th:TO} {pos p2:Pos}
theorem znL:PO X none zhi:=by
 intro pins s σ H Q I h
 rw [evalPart_none]
 exact wpAny_pure ⟨none,H,I,.none,h⟩
theorem znM(h:PE X e te):PO X (some e) (zlJ te):=by
 intro pins s σ H Q I hw
 rw [evalPart_some]
 refine thn (h pins s σ H _ I hw) fun u s1 ⟨x,H1,I1,r1,q1⟩=>?_
 obtain⟨i,rfl,q⟩:=q1
 obtain⟨t,rfl⟩:=r1
 exact⟨some i,H1,I1,.int i t,q⟩
def SlR(X:Cx)(r:V->Option Int->Option Int->Hp->VK->Prop):Prop :=
 ∀ (pins:List (Addr×Obj)) (s:Shared) (σ:St) (H:Hp) (x:V) (v vl vu:Value) (lo hi:Option Int) (sl:Addr) (Q:VK),Inv X pins σ H s->zaj x v->s.heap.IsSliceOf sl vl vu .none->IsPart vl lo->IsPart vu hi->r x lo hi H Q ->
  ∃ T id,typeLookup (.type T) "__getitem__"=pure (some (.builtin id))/\s.TypeIs v T/\wpAny (model X.prog X.w) X.A (getItem v (.ref sl)) (EP X pins σ Q) X.xe s
def tSl(r:V->Option Int->Option Int->Hp->VK->Prop)(te:TE)(tl th:TO):TE:=fun σ H Q=>te σ H fun x H1=>tl σ H1 fun l H2=>th σ H2 fun u H3=>r x l u H3 Q
theorem zlK{r:V->Option Int->Option Int->Hp->VK->Prop}(hr:SlR X r)(he:PE X e te)(hl:PO X lo tl)(hu:PO X hi th):PE X (.Subscript e (.Slice lo hi none p2) pos) (tSl r te tl th):=by
 intro pins s σ H Q I h
 refine Subscript_ (thn (he pins s σ H _ I h) fun v s1 ⟨x,H1,I1,r1,q1⟩=>?_)
 refine wpAny_Slice (thn (hl pins s1 σ H1 _ I1 q1) fun vl s2 ⟨l,H2,I2,pl,q2⟩=>thn (hu pins s2 σ H2 _ I2 q2) fun vu s3 ⟨u,H3,I3,pu,q3⟩=>?_)
 rw [evalPart_none]
 refine wpAny_pure ?_
 have I4:Inv X pins σ H3 { s3 with heap:=s3.heap.push { cls:=.type "slice",data:=.fields #[vl,vu,.none] } }:=I3.kept (t':=s3.toks) fun b ob q=>Heap.get?_push_of_some _ q
 obtain⟨T,id,hT,ht,hg⟩:=hr pins { s3 with heap:=s3.heap.push { cls:=.type "slice",data:=.fields #[vl,vu,.none] } } σ H3 x v vl vu l u s3.heap.objs.size Q I4 r1 (Heap.IsSliceOf.new ..) pl pu q3
 show wpAny (model X.prog X.w) X.A (subscriptTail e (.Slice lo hi none p2) v (.ref s3.heap.objs.size)) (EP X pins σ Q) X.xe { s3 with heap:=s3.heap.push { cls:=.type "slice",data:=.fields #[vl,vu,.none] } }
 exact tail_any (ops:=[.ref s3.heap.objs.size,v]) ht hT hg (by with_unfolding_all rfl)
def zfw(xs:List V)(lo hi:Option Int):List V:=(xs.drop (HT.sIx xs.length 0 lo)).take (HT.sIx xs.length xs.length hi - HT.sIx xs.length 0 lo)
theorem zfm(xs:List V)(lo hi:Option Int):(zfw xs lo hi).length<=xs.length:=by
 unfold zfw
 rw [List.length_take,List.length_drop]
 omega
def zvy(K:PySem.W.Frag):V->Option Int->Option Int->Hp->VK->Prop:=fun x lo hi H Q=>∃ a xs,x=.ref a/\SqT K H a xs /\
 ¬(HT.sIx xs.length 0 lo=0/\HT.sIx xs.length xs.length hi=xs.length)/\∀ p,H p=none->Q (.ref p) (upd H p (.tup (zfw xs lo hi)))
theorem zq4:SlR X (zvy X.K):=by
 intro pins s σ H x v vl vu lo hi sl Q I rx hs pl pu h
 obtain⟨a,xs,rfl,hx,hw,q⟩:=h
 cases rx
 obtain⟨its,r,ht,hz⟩:=I.tuple hx
 have hlen:its.toArray.size=xs.length:=by rw [List.size_toArray]; exact r.length.symm
 refine⟨"tuple",_,PyProof.Rows.slot_tuple_getitem.lookup,ht.typeIs,?_⟩
 refine HT.getItem_tuple_cut ht hs pl pu (by rw [hlen]; exact hw) ?_ (by rw [hlen]; exact hz)
 rw [hlen]
 refine⟨.ref s.heap.objs.size,_,I.laid (t':=s.toks) (o:=.tup (zfw xs lo hi)) (fun b ob q=>Heap.get?_push_of_some _ q) (Nat.le_refl _) ?_,rfl,q _ (I.hok.fresh (Nat.le_refl _))⟩
 exact⟨Nat.le_trans (zfm xs lo hi) hz,_,(r.drop (HT.sIx xs.length 0 lo)).take (HT.sIx xs.length xs.length hi - HT.sIx xs.length 0 lo),IsTup.new _ _⟩
def zlL(K:PySem.W.Frag):R2:=fun x y H Q=>∃ a b xs ys,x=.ref a/\y=.ref b/\SqT K H a xs/\SqT K H b ys/\xs≠[]/\xs.length+ys.length<=sizeLine /\
 (ys=[]->Q (.ref a) H)/\(ys≠[]->∀ p,H p=none->Q (.ref p) (upd H p (.tup (xs++ys))))
theorem zM.nil_iff{xs:List V}{us:List Value}(r:zM xs us):us=[]↔xs=[]:=by
 cases r with
 | nil=>simp
 | cons _ _=>simp
theorem znN:OpR X (binaryOp .Add) (zlL X.K):=by
 intro pins s σ H x y v u Q I rx ry h
 obtain⟨a,b,xs,ys,rfl,rfl,ha,hb,hx,hz,q1,q2⟩:=h
 cases rx
 cases ry
 obtain⟨its,r1,p1,_⟩:=I.tuple ha
 obtain⟨its2,r2,p2,_⟩:=I.tuple hb
 refine HT.cat_tup p1 p2 (fun z=>hx (r1.nil_iff.mp z)) (fun z=>⟨.ref a,H,I,rfl,q1 (r2.nil_iff.mp z)⟩) (fun z=>?_) (by rw [<-r1.length,<-r2.length]; exact hz)
 refine⟨.ref s.heap.objs.size,_,I.laid (t':=s.toks) (o:=.tup (xs++ys)) (fun b ob q=>Heap.get?_push_of_some _ q) (Nat.le_refl _) ?_,rfl,q2 (fun w=>z (r2.nil_iff.mpr w)) _ (I.hok.fresh (Nat.le_refl _))⟩
 exact⟨by rw [List.length_append]; exact hz,_,r1.append r2,IsTup.new _ _⟩
end
def ixN(n:Nat)(i:Int):Option Nat:=if 0<=i then(if i < n then some i.toNat else none)else if -(n:Int)<=i then some (i+n).toNat else none
def atI{α:Type}(xs:List α)(i:Int):Option α:=(ixN xs.length i).bind fun j=>xs[j]?
theorem zjS{n:Nat}{i:Int}{j:Nat}(h:ixN n i=some j):seqIndex? i n=some j/\j < n/\-(n:Int)<=i/\i < n:=by
 unfold ixN at h
 by_cases h0:0<=i
 ·rw [if_pos h0]at h
  by_cases h1:i < n
  ·rw [if_pos h1]at h
   have e:i.toNat=j:=Option.some.inj h
   exact⟨by rw [seqIndex_of h0 h1,e],by omega,by omega,h1⟩
  ·rw [if_neg h1]at h; cases h
 ·rw [if_neg h0]at h
  by_cases h1:-(n:Int)<=i
  ·rw [if_pos h1]at h
   have e:(i+n).toNat=j:=Option.some.inj h
   exact⟨by rw [seqIndex_neg (by omega) h1,e],by omega,h1,by omega⟩
  ·rw [if_neg h1]at h; cases h
theorem zhj{α:Type}{xs:List α}{i:Int}{v:α}(h:atI xs i=some v):∃ j,seqIndex? i xs.length=some j/\xs[j]?=some v/\j < xs.length/\-(xs.length:Int)<=i/\i < xs.length:=by
 unfold atI at h
 cases e:ixN xs.length i with
 | none=>rw [e]at h; cases h
 | some j =>
  rw [e]at h
  obtain⟨h1,h2,h3,h4⟩:=zjS e
  exact⟨j,h1,h,h2,h3,h4⟩
theorem znO{α:Type}{xs:List α}{j:Nat}{v:α}(h:xs[j]?=some v):atI xs (j:Int)=some v:=by
 have hj:j < xs.length:=(List.getElem?_eq_some_iff.mp h).1
 have e:ixN xs.length (j:Int)=some j:=by
  unfold ixN
  rw [if_pos (by omega),if_pos (by omega)]; simp
 unfold atI; rw [e]; exact h
def zjT(b:Expr):Prop:=∀ o i,subscripted b false o i=operate [o,i] (getItem o i)
def IxR(X:Cx)(r:R2):Prop :=
 ∀ (value slice:Expr) (pins:List (Addr×Obj)) (s:Shared) (σ:St) (H:Hp) (x y:V) (v u:Value) (Q:VK),Inv X pins σ H s->zaj x v->zaj y u->r x y H Q ->
  subscripted slice false v u=operate [v,u] (getItem v u)->wpAny (model X.prog X.w) X.A (subscriptTail value slice v u) (EP X pins σ Q) X.xe s
def MtR(X:Cx)(id:String)(r:V->List V->Hp->VK->Prop):Prop :=
 ∀ (pins:List (Addr×Obj)) (s:Shared) (σ:St) (H:Hp) (x:V) (xs:List V) (v:Value) (us:List Value) (Q:VK),Inv X pins σ H s->zaj x v->zM xs us->r x xs H Q ->
  wpAny (model X.prog X.w) X.A (call (.builtin id) (v::us)) (EP X pins σ Q) X.xe s
section
variable {X:Cx} {a b:Expr} {ta tb:TE} {pos:Pos}
theorem ztz{r:R2}(hr:IxR X r)(ha:PE X a ta)(hb:PE X b tb)(hs:zjT b):PE X (.Subscript a b pos) (tOp r ta tb):=by
 intro pins s σ H Q I h
 exact Subscript_ (zqR ha hb I h fun v u s2 x y H2 I2 rx ry q=>hr a b pins s2 σ H2 x y v u Q I2 rx ry q (hs _ _))
def zq5(K:PySem.W.Frag):R2:=fun x y H Q=>∃ p xs i v,x=.ref p/\y=.int i/\SqL K H p xs/\atI xs i=some v/\Q v H
def zq6(K:PySem.W.Frag):R2:=fun x y H Q=>∃ p xs i v,x=.ref p/\y=.int i/\SqT K H p xs/\atI xs i=some v/\Q v H
def ztA:R2:=fun x y H Q=>∃ z i c,x=.str z/\y=.int i/\z.length<=sizeLine/\atI z.cps.toList i=some c/\Q (.str ⟨#[c]⟩) H
theorem znP:IxR X (zq5 X.K):=by
 intro value slice pins s σ H x y v u Q I rx ry h hs
 obtain⟨p,xs,i,z,rfl,rfl,hq,he,q⟩:=h
 cases rx
 obtain⟨t,rfl⟩:=ry
 obtain⟨its,r,pl,hz⟩:=I.list hq
 obtain⟨j,h1,h2,h3,h4,h5⟩:=zhj he
 obtain⟨w,ew,rw'⟩:=r.get h2
 have hl:=r.length
 have hn:=zer
 have fin:EP X pins σ Q w s:=⟨z,H,I,rw',q⟩
 by_cases h0:0<=i
 ·have hj:i.toNat=j:=by
   rw [seqIndex_of h0 h5]at h1
   exact Option.some.inj h1
  exact item_listR pl.isList h0 (by omega) (by rw [hj]; simpa using ew) fin hs
 ·have hj:(i+(its.toArray.size:Int)).toNat=j:=by
   rw [seqIndex_neg (by omega) h4]at h1
   rw [List.size_toArray,<-hl]
   exact Option.some.inj h1
  exact subscriptTail_builtinR (x:=w) pl.isList.typeIs slot_list_getitem.lookup
   (wpAny_getItem_list_neg (Q:=fun r s'=>r=w/\EP X pins σ Q r s') pl.isList (by omega) (by rw [List.size_toArray]<;>omega) (by omega) (by rw [hj]; simpa using ew) ⟨rfl,fin⟩) hs
theorem zq7:IxR X (zq6 X.K):=by
 intro value slice pins s σ H x y v u Q I rx ry h hs
 obtain⟨p,xs,i,z,rfl,rfl,hq,he,q⟩:=h
 cases rx
 obtain⟨t,rfl⟩:=ry
 obtain⟨its,r,pl,hz⟩:=I.tuple hq
 obtain⟨j,h1,h2,h3,h4,h5⟩:=zhj he
 obtain⟨w,ew,rw'⟩:=r.get h2
 have hl:=r.length
 have hn:=zer
 have fin:EP X pins σ Q w s:=⟨z,H,I,rw',q⟩
 exact subscriptTail_builtinR (x:=w) pl.typeIs slot_tuple_getitem.lookup
  (getItem_tuple (j:=j) (Q:=fun r s'=>r=w/\EP X pins σ Q r s') pl (by omega) (by omega) (by rw [List.size_toArray,<-hl]; exact h1) (by simpa using ew) ⟨rfl,fin⟩) hs
theorem zi3:IxR X ztA:=by
 intro value slice pins s σ H x y v u Q I rx ry h hs
 obtain⟨z,i,c,rfl,rfl,hz,he,q⟩:=h
 obtain⟨t,rfl⟩:=rx
 obtain⟨t',rfl⟩:=ry
 obtain⟨j,h1,h2,h3,h4,h5⟩:=zhj he
 have hl:z.cps.toList.length=z.length:=by simp [Str.length]
 rw [hl]at h1 h4 h5
 have hn:=zer
 exact tail_any (typeIs_str s z t) slot_str_getitem.lookup (getItem_str (c:=c) (by
  have e1:decide (i < -(2^63:Int))=false:=decide_eq_false (by omega)
  have e2:decide (i>=2^63)=false:=decide_eq_false (by omega)
  rw [e1,e2,Bool.or_false]) (by rw [h1]; simpa using h2) ⟨.str ⟨#[c]⟩,H,I.tok _,⟨_,rfl⟩,q⟩) hs
theorem zi4(its:List Value)(n j:Nat)(u:Value):Obj.mapSeq (·.setIfInBounds j u) { cls:=.type "list",data:=.seq its.toArray n }={ cls:=.type "list",data:=.seq (its.set j u).toArray n }:=by
 simp [Obj.mapSeq]
theorem Inv.lst{pins:List (Addr×Obj)}{σ:St}{H:Hp}{s:Shared}{p:Addr}{xs:List V}(I:Inv X pins σ H s)(h:H p=some (.lst xs)) :
  ∃ (its:List Value) (n:Nat),zM xs its/\s.heap.get? p=some { cls:=.type "list",data:=.seq its.toArray n }/\xs.length<=sizeLine:=by
 obtain⟨z,its,n,r,e⟩:=I.hok p _ h
 exact⟨its,n,r,e,z⟩
theorem Inv.lstUpd{pins:List (Addr×Obj)}{σ:St}{H:Hp}{s:Shared}{p:Addr}{xs ys:List V}{its its':List Value}{n n':Nat}{f:Obj->Obj}(I:Inv X pins σ H s)(h:H p=some (.lst xs))
  (ho:s.heap.get? p=some { cls:=.type "list",data:=.seq its.toArray n }) (hf:f { cls:=.type "list",data:=.seq its.toArray n }={ cls:=.type "list",data:=.seq its'.toArray n' }) (r:zM ys its') (hz:ys.length<=sizeLine) (t:Nat) :
  Inv X pins σ (upd H p (.lst ys)) { s with heap:=s.heap.update p f,toks:=t }:=by
 have e:(s.heap.update p f).get? p=some { cls:=.type "list",data:=.seq its'.toArray n' }:=by
  rw [Heap.get?_update_self f ho (by rw [hf]<;>rfl),hf]
 refine I.write (x:=p) (e:=p) (by rw [h]; trivial) (.inl rfl) (fun b u hb q=>(Heap.get?_update_other _ _ (Ne.symm hb)).trans q) ⟨_,e⟩ ?_
 exact⟨hz,its',n',r,e⟩
def zpR:V->V->V->Hp->(Hp->Prop)->Prop:=fun o i v H Q=>∃ p xs k j,o=.ref p/\i=.int k/\H p=some (.lst xs)/\ixN xs.length k=some j/\Q (upd H p (.lst (xs.set j v)))
theorem zf5:zqE X zpR:=by
 intro pins s σ H o i v ov iv u Q I ro ri rv h
 obtain⟨p,xs,k,j,rfl,rfl,hp,hj,q⟩:=h
 cases ro
 obtain⟨t,rfl⟩:=ri
 obtain⟨its,n,r,ho,hz⟩:=I.lst hp
 obtain⟨h1,h2,h3,h4⟩:=zjS hj
 have hl:=r.length
 have hn:=zer
 have I':Inv X pins σ (upd H p (.lst (xs.set j v))) { s with heap:=s.heap.update p (Obj.mapSeq (·.setIfInBounds j u)) } :=
  I.lstUpd hp ho (zi4 its n j u) (r.set rv j) (by rw [List.length_set]; exact hz) s.toks
 by_cases h0:0<=k
 ·have hk:k.toNat=j:=by
   rw [seqIndex_of h0 h4]at h1
   exact Option.some.inj h1
  exact PySem.W.ki_setAt ho h0 (by omega) (by rw [List.size_toArray,<-hl]; exact h4) (by rw [hk]; exact⟨_,I',q⟩)
 ·have hk:(k+(its.toArray.size:Int)).toNat=j:=by
   rw [seqIndex_neg (by omega) h3]at h1
   rw [List.size_toArray,<-hl]
   exact Option.some.inj h1
  exact PySem.W.ki_setBack ho (by omega) (by rw [List.size_toArray,<-hl]; exact h3) (by omega) (by rw [hk]; exact⟨_,I',q⟩)
theorem zhk(lo hi:Option Int)(n:Nat):(sliceBounds lo hi none n).1=((HT.sIx n 0 lo:Nat):Int)/\(sliceBounds lo hi none n).2.1=((HT.sIx n n hi:Nat):Int)/\(sliceBounds lo hi none n).2.2=1:=by
 refine⟨?_,?_,rfl⟩
 ·cases lo with
  | none=>simp [sliceBounds,HT.sIx]
  | some i =>
   simp only [sliceBounds,HT.sIx,Option.getD_none,show(1:Int) > 0 by decide,if_true]
   by_cases h:i < 0
   ·simp only [h,if_true]<;>omega
   ·simp only [h,if_false]<;>omega
 ·cases hi with
  | none=>simp [sliceBounds,HT.sIx]
  | some i =>
   simp only [sliceBounds,HT.sIx,Option.getD_none,show(1:Int) > 0 by decide,if_true]
   by_cases h:i < 0
   ·simp only [h,if_true]<;>omega
   ·simp only [h,if_false]<;>omega
theorem zgL(its:List Value)(lo hi:Option Int):slicePick its.toArray lo hi none=((its.drop (HT.sIx its.length 0 lo)).take (HT.sIx its.length its.length hi - HT.sIx its.length 0 lo)).toArray:=by
 obtain⟨h1,h2,h3⟩:=zhk lo hi its.toArray.size
 unfold slicePick
 rw [h1,h2,h3]
 simp only [sliceRange_one,pick_run,List.size_toArray]<;>rfl
def zq8(K:PySem.W.Frag):V->Option Int->Option Int->Hp->VK->Prop:=fun x lo hi H Q=>∃ a xs,x=.ref a/\SqL K H a xs/\∀ p,H p=none->Q (.ref p) (upd H p (.lst (zfw xs lo hi)))
theorem znQ:SlR X (zq8 X.K):=by
 intro pins s σ H x v vl vu lo hi sl Q I rx hs pl pu h
 obtain⟨a,xs,rfl,hx,q⟩:=h
 cases rx
 obtain⟨its,r,ht,hz⟩:=I.list hx
 have hlen:=r.length
 refine⟨"list",_,slot_list_getitem.lookup,ht.isList.typeIs,?_⟩
 refine wpAny_getItem_list_slice ht.isList hs pl pu .none (by simp) ?_ (by rw [List.size_toArray]<;>omega)
 rw [zgL,<-hlen]
 refine⟨.ref s.heap.objs.size,_,I.laid (t':=s.toks) (o:=.lst (zfw xs lo hi)) (fun b ob q=>Heap.get?_push_of_some _ q) (Nat.le_refl _) ?_,rfl,q _ (I.hok.fresh (Nat.le_refl _))⟩
 exact⟨Nat.le_trans (zfm xs lo hi) hz,_,0,(r.drop (HT.sIx xs.length 0 lo)).take (HT.sIx xs.length xs.length hi - HT.sIx xs.length 0 lo),Heap.get?_push_size _ rfl⟩
def zdO:V->Bool
 | .non=>true
 | .bl _=>true
 | .int _=>true
 | .str _=>true
 | _=>false
def eqV:V->V->Bool
 | .non,.non=>true
 | .bl a,.bl b=>a==b
 | .bl a,.int b=>(if a then 1 else 0)==b
 | .int a,.bl b=>a==(if b then 1 else 0)
 | .int a,.int b=>a==b
 | .str a,.str b=>a==b
 | _,_=>false
theorem zq9{A:Around}{s:Shared}{y x:V}{u v:Value}(ry:zaj y u)(rx:zaj x v)(fy:zdO y=true)(fx:zdO x=true):SeqAt.EqAt A s u v (eqV y x):=by
 cases y with
 | non =>
  cases ry
  cases x with
  | non=>cases rx; exact SeqAt.EqAt.same _
  | bl b=>cases rx; exact SeqAt.EqAt.none_bool b
  | int b=>obtain⟨t,rfl⟩:=rx; exact SeqAt.EqAt.none_int b t
  | str b=>obtain⟨t,rfl⟩:=rx; exact SeqAt.EqAt.none_str b t
  | _=>exact absurd (show false=true from fx) Bool.false_ne_true
 | bl a =>
  cases ry
  cases x with
  | non=>cases rx; exact SeqAt.EqAt.bool_none a
  | bl b=>cases rx; exact SeqAt.EqAt.bool_bool a b
  | int b=>obtain⟨t,rfl⟩:=rx; exact SeqAt.EqAt.bool_int a b t
  | str b=>obtain⟨t,rfl⟩:=rx; exact SeqAt.EqAt.bool_str a b t
  | _=>exact absurd (show false=true from fx) Bool.false_ne_true
 | int a =>
  obtain⟨t',rfl⟩:=ry
  cases x with
  | non=>cases rx; exact SeqAt.EqAt.int_none a t'
  | bl b=>cases rx; exact SeqAt.EqAt.int_bool a t' b
  | int b=>obtain⟨t,rfl⟩:=rx; exact SeqAt.EqAt.int_int a t' b t
  | str b=>obtain⟨t,rfl⟩:=rx; exact SeqAt.EqAt.int_str a t' b t
  | _=>exact absurd (show false=true from fx) Bool.false_ne_true
 | str a =>
  obtain⟨t',rfl⟩:=ry
  cases x with
  | non=>cases rx; exact SeqAt.EqAt.str_none a t'
  | bl b=>cases rx; exact SeqAt.EqAt.str_bool a t' b
  | int b=>obtain⟨t,rfl⟩:=rx; exact SeqAt.EqAt.str_int a t' b t
  | str b=>obtain⟨t,rfl⟩:=rx; exact SeqAt.EqAt.str_str a t' b t
  | _=>exact absurd (show false=true from fx) Bool.false_ne_true
 | _=>exact absurd (show false=true from fy) Bool.false_ne_true
def eqU(x:V)(u:Value):Bool:=match u with
 | .none=>eqV .non x
 | .bool b=>eqV (.bl b) x
 | .int i _=>eqV (.int i) x
 | .str z _=>eqV (.str z) x
 | _=>false
theorem zlM{x y:V}{u:Value}(r:zaj y u)(f:zdO y=true):eqU x u=eqV y x:=by
 cases y with
 | non=>cases r; rfl
 | bl b=>cases r; rfl
 | int i=>obtain⟨t,rfl⟩:=r; rfl
 | str z=>obtain⟨t,rfl⟩:=r; rfl
 | _=>exact absurd (show false=true from f) Bool.false_ne_true
theorem zeE{x:V}:∀ {xs:List V} {us:List Value},zM xs us->xs.all zdO=true->us.any (eqU x)=xs.any fun y=>eqV y x
 | _,_,.nil,_=>rfl
 | y::xs,u::us,.cons r t,f=>by
  rw [List.all_cons,Bool.and_eq_true]at f
  rw [List.any_cons,List.any_cons,zlM r f.1,zeE t f.2]
theorem zdV{A:Around}{s:Shared}{x:V}{v:Value}(rx:zaj x v)(fx:zdO x=true):∀ {xs:List V} {us:List Value},zM xs us->xs.all zdO=true->∀ u∈us,SeqAt.EqAt A s u v (eqU x u)
 | _,_,.nil,_=>fun u hu=>by cases hu
 | y::xs,u::us,.cons r t,f=>fun u' hu=>by
  rw [List.all_cons,Bool.and_eq_true]at f
  rcases List.mem_cons.mp hu with rfl | hu
  ·rw [zlM r f.1]; exact zq9 r rx f.1 fx
  ·exact zdV rx fx t f.2 u' hu
def inV(x:V)(xs:List V):Bool:=xs.any fun y=>eqV y x
def rIn(K:PySem.W.Frag)(neg:Bool):R2:=fun x y H Q=>∃ p xs,y=.ref p/\(SqL K H p xs\/SqT K H p xs)/\zdO x=true/\xs.all zdO=true/\Q (.bl (if neg then !inV x xs else inV x xs)) H
theorem zg1:OpR X (compareOp .In) (rIn X.K false):=by
 intro pins s σ H x y v u Q I rx ry h
 obtain⟨p,xs,rfl,hq,fx,fs,q⟩:=h
 cases ry
 rcases hq with hq | hq
 ·obtain⟨its,r,pl,hz⟩:=I.list hq
  refine SeqAt.in_listAt (eqU x) pl.isList (fun w hw=>zdV rx fx r fs w (by simpa using hw)) ⟨.bl _,H,I,rfl,?_⟩
  rw [show its.toArray.any (eqU x)=its.any (eqU x) by simp,zeE r fs]
  exact q
 ·obtain⟨its,r,pl,hz⟩:=I.tuple hq
  refine SeqAt.in_tupleAt (eqU x) pl (fun w hw=>zdV rx fx r fs w (by simpa using hw)) ⟨.bl _,H,I,rfl,?_⟩
  rw [show its.toArray.any (eqU x)=its.any (eqU x) by simp,zeE r fs]
  exact q
theorem zhl:OpR X (compareOp .NotIn) (rIn X.K true):=by
 intro pins s σ H x y v u Q I rx ry h
 obtain⟨p,xs,rfl,hq,fx,fs,q⟩:=h
 cases ry
 rcases hq with hq | hq
 ·obtain⟨its,r,pl,hz⟩:=I.list hq
  refine SeqAt.notIn_listAt (eqU x) pl.isList (fun w hw=>zdV rx fx r fs w (by simpa using hw)) ⟨.bl _,H,I,rfl,?_⟩
  rw [show its.toArray.any (eqU x)=its.any (eqU x) by simp,zeE r fs]
  exact q
 ·obtain⟨its,r,pl,hz⟩:=I.tuple hq
  refine SeqAt.notIn_tupleAt (eqU x) pl (fun w hw=>zdV rx fx r fs w (by simpa using hw)) ⟨.bl _,H,I,rfl,?_⟩
  rw [show its.toArray.any (eqU x)=its.any (eqU x) by simp,zeE r fs]
  exact q
theorem zhm:zbT X (.builtin "len") (fun xs H Q=>∃ p ys,xs=[.ref p]/\(SqL X.K H p ys\/SqT X.K H p ys)/\Q (.int ys.length) H):=by
 intro pins s σ H xs us Q I r h
 obtain⟨p,ys,rfl,hq,q⟩:=h
 obtain⟨u,rfl,rx⟩:=zdU r
 cases rx
 have hn:=zer
 rcases hq with hq | hq
 ·obtain⟨its,r',pl,hz⟩:=I.list hq
  have hlen:=r'.length
  exact Calls.call_len_list pl.isList (by simp only [List.size_toArray]<;>omega) ⟨.int ys.length,H,I.tok _,⟨s.toks+1,by rw [List.size_toArray,hlen]⟩,q⟩
 ·obtain⟨its,r',pl,hz⟩:=I.tuple hq
  have hlen:=r'.length
  exact len_tuple pl (by simp only [List.size_toArray]<;>omega) ⟨.int ys.length,H,I.tok _,⟨s.toks+1,by rw [List.size_toArray,hlen]⟩,q⟩
theorem zhn:zbT X (.builtin "len") (fun xs H Q=>∃ z,xs=[.str z]/\z.length<=sizeLine/\Q (.int z.length) H):=by
 intro pins s σ H xs us Q I r h
 obtain⟨z,rfl,hz,q⟩:=h
 obtain⟨u,rfl,t,rfl⟩:=zdU r
 have hn:=zer
 exact len_str (by omega) ⟨.int z.length,H,I.tok _,⟨_,rfl⟩,q⟩
theorem zho:zbT X (.type "list") (fun xs H Q=>∃ p ys,xs=[.ref p]/\(SqL X.K H p ys\/SqT X.K H p ys)/\∀ l,H l=none->Q (.ref l) (upd H l (.lst ys))):=by
 intro pins s σ H xs us Q I r h
 obtain⟨p,ys,rfl,hq,q⟩:=h
 obtain⟨u,rfl,rx⟩:=zdU r
 cases rx
 have fin:∀ (its:List Value),zM ys its->ys.length<=sizeLine->∀ (h':Heap) (c':Nat),(∀ b o',s.heap.get? b=some o'->h'.get? b=some o') ->
   h'.get? s.heap.objs.size=some { cls:=.type "list",dict:=none,data:=.seq its.toArray c',slots:=#[] }->EP X pins σ Q (.ref s.heap.objs.size) { s with heap:=h' }:=fun its r' hz h' c' kp e =>
  ⟨.ref s.heap.objs.size,_,I.laid (t':=s.toks) kp (Nat.le_refl _) (show zbq X.prog X.w _ h' _ (.lst ys) from⟨hz,its,c',r',e⟩),rfl,q _ (I.hok.fresh (Nat.le_refl _))⟩
 rcases hq with hq | hq
 ·obtain⟨its,r',pl,hz⟩:=I.list hq
  have hlen:=r'.length
  obtain⟨o,ho,hc,n,hd⟩:=pl.isList
  exact call_list_seq p (.inl rfl) ho hc hd (fun h' c' kp e=>fin its r' hz h' c' kp e) (by simp only [List.size_toArray]<;>omega)
 ·obtain⟨its,r',pl,hz⟩:=I.tuple hq
  have hlen:=r'.length
  obtain⟨o,ho,hc,n,hd⟩:=pl
  exact call_list_seq p (.inr rfl) ho hc hd (fun h' c' kp e=>fin its r' hz h' c' kp e) (by simp only [List.size_toArray]<;>omega)
theorem zgM:zbT X (.type "tuple") (fun xs H Q=>∃ p ys,xs=[.ref p]/\((SqL X.K H p ys/\∀ l,H l=none->Q (.ref l) (upd H l (.tup ys)))\/(SqT X.K H p ys/\Q (.ref p) H))):=by
 intro pins s σ H xs us Q I r h
 obtain⟨p,ys,rfl,h⟩:=h
 obtain⟨u,rfl,rx⟩:=zdU r
 cases rx
 rcases h with ⟨hq,q⟩ | ⟨hq,q⟩
 ·obtain⟨its,r',pl,hz⟩:=I.list hq
  have hlen:=r'.length
  refine call_tuple_list pl.isList (fun h' kp=>?_) (by simp only [List.size_toArray]<;>omega)
  have I1:Inv X pins σ H { s with heap:=h' }:=I.kept (t':=s.toks) kp
  have I2:Inv X pins σ (upd H h'.objs.size (.tup ys)) { s with heap:=h'.push { cls:=.type "tuple",data:=.seq its.toArray } } :=
   I1.laid (t':=s.toks) (fun b o e=>Heap.get?_push_of_some _ e) (Nat.le_refl _) (show zbq X.prog X.w _ _ _ (.tup ys) from⟨hz,its,r',IsTup.new _ _⟩)
  exact⟨.ref h'.objs.size,_,I2,rfl,q _ (I1.hok.fresh (Nat.le_refl _))⟩
 ·obtain⟨its,r',pl,hz⟩:=I.tuple hq
  exact call_tuple_same pl ⟨.ref p,H,I,rfl,q⟩
def tyV(K:PySem.W.Frag)(T:String)(x:V)(H:Hp):Prop:=match x with
 | .str _=>T = "str"
 | .int _=>T = "int"
 | .ref p=>(T = "list"/\∃ xs,SqL K H p xs)\/(T = "tuple"/\∃ o,K.lookup p=some o/\o.cls=.type "tuple"/\o.dict=none) \/
   (T = "dict"/\((∃ kvs,H p=some (.dK kvs))\/∃ kvs,H p=some (.dT kvs)))\/(T = "set"/\∃ S n,H p=some (.set S n))
 | _=>False
theorem zlN{pins:List (Addr×Obj)}{σ:St}{H:Hp}{s:Shared}{T:String}{x:V}{v:Value}(I:Inv X pins σ H s)(r:zaj x v)(ty:tyV X.K T x H) :
  s.TypeIs v T/\∀ a,v=.ref a->∃ ob,s.heap.get? a=some ob/\ob.dict=none:=by
 cases x with
 | str z =>
  obtain⟨t,rfl⟩:=r
  cases(show T = "str" from ty)
  exact⟨typeIs_str s z t,fun _ e=>nomatch e⟩
 | int i =>
  obtain⟨t,rfl⟩:=r
  cases(show T = "int" from ty)
  exact⟨typeIs_int s i t,fun _ e=>nomatch e⟩
 | ref p =>
  cases r
  rcases ty with ⟨rfl,xs,hq⟩ | ⟨rfl,o,hk,hc,hd⟩ | ⟨rfl,hk⟩ | ⟨rfl,S,n,hk⟩
  ·obtain⟨its,_,pl,_⟩:=I.list hq
   refine⟨pl.isList.typeIs,fun a e=>?_⟩
   cases e
   obtain⟨o,n,e,c,hd,_⟩:=pl
   exact⟨o,e,hd⟩
  ·refine⟨⟨o,I.kIn p o hk,hc⟩,fun a e=>?_⟩
   cases e
   exact⟨o,I.kIn _ o hk,hd⟩
  ·have z:∃ o,s.heap.get? p=some o/\o.ExactDict:=by
    rcases hk with ⟨kvs,hk⟩ | ⟨kvs,hk⟩
    ·obtain⟨_,_,_,_,o,_,_,e,ex,_⟩:=I.hok p _ hk
     exact⟨o,e,ex⟩
    ·obtain⟨_,_,_,_,o,_,_,e,ex,_⟩:=I.hok p _ hk
     exact⟨o,e,ex⟩
   obtain⟨o,e,ex⟩:=z
   refine⟨⟨o,e,ex.1⟩,fun a e2=>?_⟩
   cases e2
   exact⟨o,e,ex.2.1⟩
  ·obtain⟨o,_,_,_,e,ex,_⟩:=I.hok p _ hk
   refine⟨⟨o,e,ex.1⟩,fun a e2=>?_⟩
   cases e2
   exact⟨o,e,ex.2.1⟩
 | _=>exact False.elim ty
def zra(K:PySem.W.Frag)(T:String)(r:V->List V->Hp->VK->Prop)(to:TE):TE:=fun σ H Q=>to σ H fun x H1=>tyV K T x H1/\r x [] H1 Q
def tBM(K:PySem.W.Frag)(T:String)(r:V->List V->Hp->VK->Prop)(to:TE)(t:TA):TE:=fun σ H Q=>to σ H fun x H1=>tyV K T x H1/\t σ H1 fun xs H2=>r x xs H2 Q
variable {o e:Expr} {es:List Expr} {to:TE} {t:TA} {name:Str} {apos cpos:Pos} {T id:String} {r:V->List V->Hp->VK->Prop}
theorem zrb(pa:PlainAttrs T)(slot:Slot T name id)(hty:typeOf (.builtin id)=pure (.type "method_descriptor"))(hm:MtR X id r)(ho:PE X o to)
  (hbase:attributeBase o name X.env (eval o X.env)=eval o X.env:=by rfl) (hline:(apos.endLine==cpos.line)=true:=by rfl):PE X (.Call (.Attribute o name apos) [] [] cpos) (zra X.K T r to):=by
 intro pins s σ H Q I h
 refine wpAny_Call_method0_late hbase hline (thn (ho pins s σ H _ I h) fun v s1 ⟨x,H1,I1,r1,ty,q1⟩=>?_)
 obtain⟨h1,h2⟩:=zlN I1 r1 ty
 exact⟨T,id,pa,slot,hty,h1,h2,Calls.callWith_builtin rfl (PySem.evalArgs_none (hm pins s1 σ H1 x [] v [] Q I1 r1 .nil q1))⟩
theorem ztB(pa:PlainAttrs T)(slot:Slot T name id)(hty:typeOf (.builtin id)=pure (.type "method_descriptor"))(hm:MtR X id r)(ho:PE X o to)(ha:PA X (e::es) t)
  (hbase:attributeBase o name X.env (eval o X.env)=eval o X.env:=by rfl)
  (hfew:((backTo cpos (starEach (e::es) X.env)).all (fun x=>!x.1) && (backToKw cpos (keywordEach [] X.env)).all (fun x=>x.1.isSome)
   && decide ((e::es).length+([]:List Keyword).length+(if([]:List Keyword).isEmpty then 0 else 1) < 30))=true:=by rfl)
  (hline:(apos.endLine==cpos.line)=true:=by rfl) (hs:starEach (e::es) X.env=(false,eval e X.env)::starEach es X.env:=by rfl) (hplain:(backTo cpos (starEach es X.env)).any (·.1)=false:=by rfl) :
  PE X (.Call (.Attribute o name apos) (e::es) [] cpos) (tBM X.K T r to t):=by
 intro pins s σ H Q I h
 refine wpAny_Call_method_late hbase hfew hline rfl (thn (ho pins s σ H _ I h) fun v s1 ⟨x,H1,I1,r1,ty,q1⟩=>?_)
 obtain⟨h1,h2⟩:=zlN I1 r1 ty
 refine⟨T,id,pa,slot,hty,h1,h2,?_⟩
 have hA:=ha cpos pins s1 σ H1 _ I1 q1
 rw [hs]at hA ⊢
 refine Calls.callWith_builtin (by show(false || (backTo cpos (starEach es X.env)).any (·.1))=false; rw [hplain]<;>rfl) (Calls.evalArgs_plain ?_)
 exact thn hA fun us s2 ⟨vs,H2,I2,r2,q2⟩=>hm pins s2 σ H2 x vs v us Q I2 r1 r2 q2
end
def MtM(X:Cx)(id:String)(r:V->List V->Hp->VK->Prop):Prop :=
 ∀ (pins:List (Addr×Obj)) (s:Shared) (σ:St) (H:Hp) (x:V) (xs:List V) (v:Value) (us:List Value) (Q:VK),Inv X pins σ H s->zaj x v->zM xs us->r x xs H Q ->
  wpAny (model X.prog X.w) X.A (call (.builtin id) (v::us)) (EP X pins σ Q) X.xe s
theorem zM.one:∀ {x:V} {us:List Value},zM [x] us->∃ u,us=[u]/\zaj x u
 | _,_,.cons r .nil=>⟨_,rfl,r⟩
theorem zM.zero:∀ {us:List Value},zM [] us->us=[]
 | _,.nil=>rfl
theorem zM.reverse{xs:List V}{us:List Value}(h:zM xs us):zM xs.reverse us.reverse:=by
 induction h with
 | nil=>exact .nil
 | cons r t ih=>rw [List.reverse_cons,List.reverse_cons]; exact zM.append ih (.cons r .nil)
theorem zM.rep{xs:List V}{us:List Value}(h:zM xs us):∀ k:Nat,zM (List.replicate k xs).flatten (List.replicate k us).flatten
 | 0=>.nil
 | k+1=>by
  rw [List.replicate_succ,List.replicate_succ,List.flatten_cons,List.flatten_cons]
  exact zM.append h (zM.rep h k)
section
variable {X:Cx} {pins:List (Addr×Obj)} {σ:St} {H:Hp} {s:Shared} {l b:Addr} {xs ys zs:List V}
theorem Inv.lset{its its':List Value}{n:Nat}{f:Array Value->Array Value}{t':Nat}(I:Inv X pins σ H s)(hH:H l=some (.lst xs))
  (e:s.heap.get? l=some { cls:=.type "list",data:=.seq its.toArray n }) (hf:f its.toArray=its'.toArray) (hv:zM ys its') (hz:ys.length<=sizeLine) :
  Inv X pins σ (upd H l (.lst ys)) { s with heap:=s.heap.update l (Obj.mapSeq f),toks:=t' }:=by
 have q:=PySem.IsL.update e f
 rw [hf]at q
 refine I.write (x:=l) (e:=l) (by rw [hH]; exact trivial) (.inl rfl) (fun b' u hb hu=>(Heap.get?_update_other s.heap (Obj.mapSeq f) (Ne.symm hb)).trans hu) ⟨_,q⟩ ?_
 exact⟨hz,its',_,hv,q⟩
theorem Inv.lnew{its:List Value}{t':Nat}(I:Inv X pins σ H s)(hv:zM ys its)(hz:ys.length<=sizeLine) :
  Inv X pins σ (upd H s.heap.objs.size (.lst ys)) { s with heap:=s.heap.push { cls:=.type "list",data:=.seq its.toArray },toks:=t' } :=
 I.laid (fun _ _ q=>Heap.get?_push_of_some _ q) (Nat.le_refl _) ⟨hz,its,0,hv,Heap.get?_push_size _ rfl⟩
theorem Inv.fresh(I:Inv X pins σ H s):H s.heap.objs.size=none:=I.hok.fresh (Nat.le_refl _)
theorem Inv.lstM(I:Inv X pins σ H s)(hH:H l=some (.lst xs)):xs.length<=sizeLine/\∃ (its:List Value) (n:Nat),zM xs its/\xs.length=its.length/\s.heap.get? l=some { cls:=.type "list",data:=.seq its.toArray n }:=by
 obtain⟨z,its,n,r,e⟩:=I.hok l _ hH
 exact⟨z,its,n,r,r.length,e⟩
theorem zlO{n:Nat}(h:n<=sizeLine):Builtin.List.listTooLong n=false:=by
 unfold Builtin.List.listTooLong
 exact decide_eq_false (by omega)
end
section
variable {X:Cx}
def zjU:V->List V->Hp->VK->Prop:=fun x vs H Q=>∃ l xs y,x=.ref l/\vs=[y]/\H l=some (.lst xs)/\xs.length < sizeLine/\Q .non (upd H l (.lst (xs++[y])))
theorem zay:MtM X "list.append" zjU:=by
 intro pins s σ H x vs v us Q I rx rv h
 obtain⟨l,xs,y,rfl,rfl,hH,hz,q⟩:=h
 cases rx
 obtain⟨u,rfl,ru⟩:=rv.one
 obtain⟨z,its,n,r,hl,e⟩:=I.lstM hH
 refine call_meets F.slot_list_append ⟨_,e,rfl⟩ F.entry_list_append (F.args_list_append_2 _ _) (PySem.list_append l its.toArray n u (by rw [List.size_toArray]; omega)) ⟨e,?_⟩
 refine⟨.non,_,I.lset (its':=its++[u]) hH e (by simp) (r.append (.cons ru .nil)) ?_,rfl,q⟩
 rw [List.length_append,List.length_singleton]
 omega
def znR:V->List V->Hp->VK->Prop:=fun x vs H Q=>∃ l b xs zs,x=.ref l/\vs=[.ref b]/\H l=some (.lst xs)/\H b=some (.lst zs)/\xs.length+zs.length<=sizeLine/\Q .non (upd H l (.lst (xs++zs)))
theorem ztr:MtM X "list.extend" znR:=by
 intro pins s σ H x vs v us Q I rx rv h
 obtain⟨l,b,xs,zs,rfl,rfl,hH,hB,hz,q⟩:=h
 cases rx
 obtain⟨u,rfl,ru⟩:=rv.one
 cases ru
 obtain⟨z,its,n,r,hl,e⟩:=I.lstM hH
 obtain⟨z2,its2,n2,r2,hl2,e2⟩:=I.lstM hB
 have hsz:its.toArray.size+its2.toArray.size<=sizeLine:=by rw [List.size_toArray,List.size_toArray]; omega
 have hlong:¬(!its.toArray.isEmpty && Builtin.List.listTooLong (its.toArray.size+its2.toArray.size))=true:=by
  rw [zlO hsz,Bool.and_false]
  exact Bool.false_ne_true
 refine call_meets F.slot_list_extend ⟨_,e,rfl⟩ F.entry_list_extend (F.args_list_extend_2 _ _)
  (AutoSeq1.list_extend_list_list_0 l its.toArray n b its2.toArray n2 hlong (by rw [List.size_toArray]; omega) (by omega)) ⟨e,e2,?_⟩
 refine⟨.non,_,I.lset (its':=its++its2) hH e (by simp) (r.append r2) ?_,rfl,q⟩
 rw [List.length_append]
 omega
def ztC:R2:=fun x y H Q=>∃ l b xs zs,x=.ref l/\y=.ref b/\H l=some (.lst xs)/\H b=some (.lst zs)/\xs.length+zs.length<=sizeLine/\∀ p,H p=none->Q (.ref p) (upd H p (.lst (xs++zs)))
theorem zbX:OpR X (binaryOp .Add) ztC:=by
 intro pins s σ H x y v u Q I rx ry h
 obtain⟨l,b,xs,zs,rfl,rfl,hH,hB,hz,q⟩:=h
 cases rx
 cases ry
 obtain⟨z,its,n,r,hl,e⟩:=I.lstM hH
 obtain⟨z2,its2,n2,r2,hl2,e2⟩:=I.lstM hB
 refine PySem.P.add_list e e2 ?_ (by rw [List.size_toArray,List.size_toArray]; omega)
 have ea:its.toArray++its2.toArray=(its++its2).toArray:=by simp
 rw [ea]
 exact⟨.ref _,_,I.lnew (t':=s.toks) (r.append r2) (by rw [List.length_append]; omega),rfl,q _ I.fresh⟩
end
section
variable {prog:Program} {w:World} {A:Around} {E:Value->Shared->Prop} {s:Shared}
end
section
variable {X:Cx}
end
section
variable {κ:Type} [DecidableEq κ]
def znS(kvs:List (κ×V))(k:κ):Option V:=(kvs.find? fun kv=>decide (kv.1=k)).map (·.2)
def znT(kvs:List (κ×V))(k:κ)(v:V):List (κ×V) :=
 if(kvs.any fun kv=>decide (kv.1=k))=true then kvs.map (fun kv=>if kv.1=k then(kv.1,v)else kv)else kvs++[(k,v)]
theorem zhg.getD{o:Option V}{u:Option Value}{d:V}{d':Value}(r:zhg o u)(rd:zaj d d'):zaj (o.getD d) (u.getD d'):=by
 cases o with
 | none=>cases u with
  | none=>exact rd
  | some _=>exact(show False from r).elim
 | some _=>cases u with
  | none=>exact(show False from r).elim
  | some _=>exact r
end
abbrev KT(H:Hp):List (List Key×V)->List (List Key×Addr×Value)->Prop:=Paired fun p q=>p.1=q.1/\H q.2.1=some (.tup (p.1.map kV))/\zaj p.2 q.2.2
theorem KT.keeps{H H':Hp}{kvs:List (List Key×V)}{xs:List (List Key×Addr×Value)}(r:KT H kvs xs)(ht:∀ b ys,H b=some (.tup ys)->H' b=some (.tup ys)):KT H' kvs xs :=
 Paired.mapP r fun _ _ z=>⟨z.1,ht _ _ z.2.1,z.2.2⟩
section
variable {P:Program} {w:World} {H:Hp} {h:Heap} {a:Addr}
end
def znU(H:Hp)(a:Addr)(y:V)(r:Option V):Prop :=
 (∃ kvs k,Rd H a (.dK kvs)/\y=kV k/\r=znS kvs k)\/∃ kvs k b,Rd H a (.dT kvs)/\y=.ref b/\H b=some (.tup (k.map kV))/\r=znS kvs k
def znV(H:Hp)(a:Addr)(y v:V)(H':Hp):Prop :=
 (∃ kvs k,H a=some (.dK kvs)/\y=kV k/\kvs.length < sizeLine/\H'=upd H a (.dK (znT kvs k v))) \/
 ∃ kvs k b,H a=some (.dT kvs)/\y=.ref b/\H b=some (.tup (k.map kV))/\kvs.length < sizeLine/\H'=upd H a (.dT (znT kvs k v))
theorem znU.k{H:Hp}{a:Addr}{kvs:List (Key×V)}{k:Key}(e:H a=some (.dK kvs)):znU H a (kV k) (znS kvs k):=.inl ⟨kvs,k,.inl e,rfl,rfl⟩
theorem znU.t{H:Hp}{a b:Addr}{kvs:List (List Key×V)}{k:List Key}(e:H a=some (.dT kvs))(eb:H b=some (.tup (k.map kV))):znU H a (.ref b) (znS kvs k):=.inr ⟨kvs,k,b,.inl e,rfl,eb,rfl⟩
theorem znV.k{H:Hp}{a:Addr}{kvs:List (Key×V)}{k:Key}{v:V}(e:H a=some (.dK kvs))(hl:kvs.length < sizeLine):znV H a (kV k) v (upd H a (.dK (znT kvs k v))):=.inl ⟨kvs,k,e,rfl,hl,rfl⟩
theorem znV.t{H:Hp}{a b:Addr}{kvs:List (List Key×V)}{k:List Key}{v:V}(e:H a=some (.dT kvs))(eb:H b=some (.tup (k.map kV)))(hl:kvs.length < sizeLine) :
  znV H a (.ref b) v (upd H a (.dT (znT kvs k v))):=.inr ⟨kvs,k,b,e,rfl,eb,hl,rfl⟩
section
variable {X:Cx} {pins:List (Addr×Obj)} {σ:St} {H:Hp} {s:Shared} {a:Addr} {y v:V} {u r:Value} {o:Option V} {A:Around} {E:Value->Shared->Prop}
end
section
variable {X:Cx} {pins:List (Addr×Obj)} {σ:St} {H:Hp} {s:Shared} {a:Addr} {kvs:List (Key×V)} {k:Key} {u:Value} {A:Around} {E:Value->Shared->Prop}
end
section
variable {X:Cx} {o i e value:Expr} {pos pos' tpos:Pos} {td ty tv:TE}
end
section
variable {X:Cx} {pos:Pos}
end
section
variable {X:Cx} {pins:List (Addr×Obj)} {σ:St} {H:Hp} {s:Shared} {a:Addr} {y d:V} {u r:Value} {o:Option V} {A:Around} {E:Value->Shared->Prop}
end
section
variable {X:Cx} {o e f:Expr} {apos cpos:Pos} {td ty tx:TE}
end
section
variable {X:Cx} {pins:List (Addr×Obj)} {σ:St} {H:Hp} {s:Shared} {a:Addr} {kvs:List (Key×V)} {A:Around} {E:Value->Shared->Prop}
end
section
variable {X:Cx} {pins:List (Addr×Obj)} {σ:St} {H:Hp} {s:Shared} {a:Addr} {y:V} {u:Value} {A:Around} {E:Value->Shared->Prop}
end
end L2
namespace Att
open PySem PySem.W PySem.Calls PyProof.Rows
theorem zfx{P:Params}{h:Heap}:∀ (ns:List Int) (vs:List Value),WellAll P h vs (ns.map WData.int)->IntsAre vs ns:=by
 intro ns
 induction ns with
 | nil =>
  intro vs w
  rw [List.map_nil]at w
  cases w
  exact .nil
 | cons n ns ih =>
  intro vs w
  rw [List.map_cons]at w
  cases w with
  | cons a b =>
   cases a
   exact .cons _ _ (ih _ b)
theorem zkM{l:OpenLaw}{n:Nat}(hn:l.most=some n){P:Params}{h:Heap}{args:List WData}{vals:List Value}
  (hpre:l.row.toRowW.claim.pre args=true) (hwl:WellAll P h vals args) :
  ∃ a vs ns,vals=[Value.ref a]/\args=[WData.list (ns.map WData.int)]/\h.get? a=some { cls:=.type "list",data:=.seq vs.toArray }/\IntsAre vs ns/\ns.length<=n:=by
 have hsh:WShape.hasAll [] args [.list .int]=true:=(pre_splitW hpre).1
 have hc:l.pre.holds [] { args:=args }=true:=(pre_splitW hpre).2
 obtain⟨d,r,rfl,h1,h2⟩:=hasAllW_cons hsh
 obtain rfl:=hasAllW_nil h2
 obtain⟨xs,rfl,h3⟩:=hasW_list h1
 obtain⟨ns,rfl⟩:=items_int h3
 have hlen:ns.length<=n:=by
  unfold OpenLaw.pre at hc
  have h4:(WTm.not (.lt (.lit (.int (n:Int))) (.len (.arg 0)))).holds [] { args:=[.list (ns.map .int)] }=true:=by
   have h4:=(holds_andW hc).1
   rw [hn]at h4
   exact h4
  have h5:=condW_of h4 (w_not (w_lt w_lit (w_len_list (w_arg rfl))))
  rw [List.length_map]at h5
  refine Nat.le_of_not_lt fun q=>?_
  have q':(n:Int) < ((ns.length:Nat):Int):=by omega
  first
   | (rw [decide_eq_true q']at h5; exact absurd h5 (by decide))
   | (simp at h5; omega)
 cases hwl with
 | cons w1 w2 =>
  cases w2
  cases w1 with
  | list ho hall=>exact⟨_,_,ns,rfl,rfl,ho,zfx ns _ hall,hlen⟩
theorem zkN(l:OpenLaw)(args:List WData):l.row.toRowW.claim.post args (.bool true) args=true :=
 postW_of (r:=l.row.toRowW) (X:=(true==true))
  (show WShape.has [] (.bool true) .bool=true by first | rfl | decide | simp [WShape.has,WShape.arms,WShape.armsAll])
  (show(WTm.eq .res (.lit (.bool true))).value [] { args:=args,res:=some (.bool true),after:=args }=some (.bool (true==true)) from w_eq_bool (w_res rfl) w_lit) rfl
theorem attach_call{l:OpenLaw}{n:Nat}{q:Program}{loose:List Str}{XP:(Str->Option Value)->Heap->Prop}{YP:World->Heap->Prop}{d:DefRec}
  (hn:l.most=some n) (hdf:d.params.defaults=[])
  (call:∀ (w:World) (s₀ s₁:Shared) (mg mb:Str->Option Value) (fa:Addr) (o:Obj) (pm cd doc:Value) (a:Addr) (vs:List Value) (ns:List Int),
   Ground q loose [] XP w s₀ mg mb s₁.heap->YP w s₁.heap ->
   s₁.heap.get? fa=some o->o.data=.func (docDef d.name d.params d.body d.scope pm cd doc)->s₁.heap.CodeRec cd d.name->mg d.name=some (.ref fa) ->
   s₁.heap.get? a=some { cls:=.type "list",data:=.seq vs.toArray }->IntsAre vs ns->ns.length<=n->s₁.gens=#[] ->
   codeAny (model l.prog w) callerA (.call (.ref fa) ⟨[.ref a],[]⟩) (fun r s'=>r=.ok (.ret (.bool true))/\OldK s₁.heap s'.heap/\s'.os=s₁.os/\AllBare s'.gens) s₁) :
  WalkO q loose XP YP l.row.toRowW d [] (fun f vs=>PySem.call f vs):=by
 intro w s₀ s₁ mg mb G Y fa o pm cd doc dV kV ho hd hcd hD hmg hg args vals as hpre hlay hrd hwl hlo
 obtain rfl:dV=.none:=Dflts.none hD hdf
 obtain rfl:kV=.none:=Dflts.noKw hD
 obtain⟨a,vs,ns,rfl,rfl,hobj,hints,hlen⟩:=zkM hn hpre hwl
 refine enter_call (codeAny_mono (call w s₀ s₁ mg mb fa o pm cd doc a vs ns G Y ho (fd_plain hd) hcd hmg hobj hints hlen hg) fun r s' hq=>?_)
 obtain⟨rfl,h2,h3,h4⟩:=hq
 exact⟨.inl ⟨.bool true,.bool true,[],rfl,fun _=>rfl,.bool true,zkN l _,fun _=>⟨List.Pairwise.nil,fun _ hm=>(nomatch hm)⟩⟩,h2,h3,h4⟩
section
variable {prog:Program} {w:World} {A:Around} {E:Value->Shared->Prop} {s:Shared} {K:Frag}
end
end Att
namespace L2
open PySem PySem.Spec PyProof.Rows
theorem zg2:∀ {vs:List Value} {ns:List Int},IntsAre vs ns->zM (ns.map V.int) vs
 | _,_,.nil=>.nil
 | _,_,.cons n t h=>.cons ⟨t,rfl⟩ (zg2 h)
def znW(H:Hp):Prop:=∀ b,H b=none\/∃ o xs,H b=some (.frz o (.lst xs))
theorem zlP{P:Program}{w:World}{K:PySem.W.Frag}{mg mb:Str->Option Value}{CX:CXT}{k:Nat}{fa a:Addr}{fd:FuncData}{x:Str}{sp:Sp}{s₁:Shared}{vs:List Value}{ns:List Int}
  (KX:K.In s₁.heap) (hns:s₁.heap.Ns mainGlobals mg) (hb:s₁.heap.Ns builtinsNs mb) (hbb:∀ x:Str,x ≠ "__name__"->mb x=bootBuiltins x) (hlim:s₁.heap.NoLimit) (hg:s₁.gens=#[])
  (ha:s₁.heap.get? a=some { cls:=.type "list",data:=.seq vs.toArray }) (hi:IntsAre vs ns) (hl:ns.length<=sizeLine) (hr:Room k callerA)
  (F:∀ base:Heap,K.In base->base.Ns mainGlobals mg->FnOk P w K mg base CX k fa fd [x] sp) (hbind:∀ (s:Shared) (u:Value),BindsTo s fd ⟨[u],[]⟩ [(x,u)])
  (hsp:∀ H:Hp,znW H->SqL K H a (ns.map V.int)->sp [.ref a] H (fun v _=>v=.bl true) fun _ _ _=>False)
  (hCX:∀ H e s',CX [] H s₁ (fun _ _ _=>False) e s'->False) :
  codeAny (model P w) callerA (.call (.ref fa) ⟨[.ref a],[]⟩) (fun r s'=>r=.ok (.ret (.bool true))/\OldK s₁.heap s'.heap/\s'.os=s₁.os/\AllBare s'.gens) s₁:=by
 have rv:=zg2 hi
 have lenV:=hi.length
 have core:∀ H:Hp,znW H->SqL K H a (ns.map V.int)->HOk P w H s₁.heap->(∀ b,H b≠none->b=a)->(H a≠none->K.lookup a=none) ->
   codeAny (model P w) callerA (.call (.ref fa) ⟨[.ref a],[]⟩) (fun r s'=>r=.ok (.ret (.bool true))/\OldK s₁.heap s'.heap/\s'.os=s₁.os/\AllBare s'.gens) s₁:=by
  intro H hO hS hok hA hK
  have base_of:∀ {b:Addr} {o:Obj},s₁.heap.get? b=some o->H b=none->(zhh s₁.heap H).get? b=some o:=fun e n=>zlo e n
  have noA:∀ {b:Addr} {o:Obj} {es:Array DictEntry} {ep:Nat},s₁.heap.get? b=some o->o.data=.dict es ep->H b=none:=fun{b o es ep} e d=>by
   cases q:H b with
   | none=>rfl
   | some u =>
    have e':b=a:=hA b (by rw [q]; simp)
    subst e'
    rw [ha]at e; cases e
    have d':Data.seq vs.toArray _=Data.dict es ep:=d
    cases d'
  have nsK:∀ {b:Addr} {m:Str->Option Value},s₁.heap.Ns b m->(zhh s₁.heap H).Ns b m:=fun{b m} ⟨o,es,ep,e,d,r⟩=>⟨o,es,ep,base_of e (noA e d),d,r⟩
  have hKb:K.In (zhh s₁.heap H):=fun b o e=>base_of (KX b o e) (by
   cases q:H b with
   | none=>rfl
   | some u =>
    have e':b=a:=hA b (by rw [q]; simp)
    subst e'
    rw [hK (by rw [q]; simp)]at e; cases e)
  have hM:Mod K mg (zhh s₁.heap H):=⟨hKb,nsK hns,⟨mb,nsK hb,hbb⟩,let ⟨mc,h1,h2⟩:=hlim; ⟨mc,nsK h1,h2⟩⟩
  have e0:Env0 P w K mg (zhh s₁.heap H) callerA [] s₁ H:=⟨rfl,hM,fun b o e=>znq e,Nat.le_of_eq (zkC _ _),trivial,fun b hb=>absurd (show b∈([]:List Addr) from hb) (by simp),hok,.of_eq hg⟩
  refine codeAny_mono ((F _ hKb (nsK hns)).run callerA [] s₁ H ⟨[.ref a],[]⟩ [.ref a] [.ref a] _ _ hr e0 (hbind s₁ (.ref a)) (.cons rfl .nil) (hsp H hO hS)) fun r s' h=>?_
  cases r with
  | error e=>exact(hCX H e s' h).elim
  | ok fl =>
   cases fl with
   | next=>exact False.elim h
   | brk=>exact False.elim h
   | cont=>exact False.elim h
   | ret u =>
    obtain⟨v,H',os,bare,un,hok',r',q⟩:=h
    have q':v=.bl true:=q
    subst q'
    obtain rfl:u=Value.bool true:=r'
    refine⟨rfl,OldK.of_keep fun b o e=>?_,os,bare⟩
    cases q:H b with
    | none=>exact un.keep b o e q (by intro z; exact absurd (show b∈([]:List Addr) from z) (by simp)) (by simp)
    | some u =>
     rcases hO b with z | ⟨ob,xs,z⟩
     ·rw [q]at z; cases z
     ·have z2:=un.frzs b ob _ z
      obtain⟨e1,_⟩:=hok b _ z
      obtain⟨e2,_⟩:=hok' b _ z2
      rw [e]at e1; cases e1
      exact e2
 cases hk:K.lookup a with
 | some o =>
  have e:=KX a o hk
  rw [ha]at e
  cases e
  refine core (fun _=>none) (fun _=>.inl rfl) (.inr ⟨_,vs.toArray,_,hk,rfl,rfl,rfl,by rw [List.size_toArray,lenV]; exact hl,by simpa using rv⟩) (fun b u z=>by have z':(none:Option HO)=some u:=z; cases z') (fun b z=>absurd rfl z) fun z=>absurd rfl z
 | none =>
  refine core (fun b=>if b=a then some (.frz { cls:=.type "list",data:=.seq vs.toArray } (.lst (ns.map V.int)))else none) (fun b=>?_) (.inl (.inr ⟨{ cls:=.type "list",data:=.seq vs.toArray },if_pos rfl⟩)) (fun b u z=>?_) (fun b z=>?_) fun _=>hk
  ·by_cases hb:b=a
   ·exact .inr ⟨_,_,if_pos hb⟩
   ·exact .inl (if_neg hb)
  ·by_cases hb:b=a
   ·have z':=(if_pos hb).symm.trans z
    cases z'
    subst hb
    exact⟨ha,by rw [List.length_map]; exact hl,vs,_,rv,ha⟩
   ·have z':=(if_neg hb).symm.trans z
    cases z'
  ·by_cases hb:b=a
   ·exact hb
   ·exact absurd (if_neg hb) z
theorem walk_of{l:PySem.W.OpenLaw}{n k:Nat}{q:Program}{loose:List Str}{XP:(Str->Option Value)->Heap->Prop}{YP:World->Heap->Prop}{d:DefRec}{K:Params->PySem.W.Frag}{CX:World->CXT}{sp:World->Sp}{x:Str}
  (hn:l.most=some n) (hn2:n<=sizeLine) (hdf:d.params.defaults=[]) (hr:Room k callerA)
  (hY:∀ (w:World) (h:Heap),YP w h->(K w.params).In h)
  (F:∀ (w:World) (mg:Str->Option Value) (fa:Addr) (h:Heap),(K w.params).In h->h.Ns mainGlobals mg->mg d.name=some (.ref fa) ->
   ∃ fd:FuncData,(∀ (s:Shared) (u:Value),BindsTo s fd ⟨[u],[]⟩ [(x,u)]) /\
    ∀ base:Heap,(K w.params).In base->base.Ns mainGlobals mg->FnOk l.prog w (K w.params) mg base (CX w) k fa fd [x] (sp w))
  (hsp:∀ (w:World) (H:Hp) (a:Addr) (ns:List Int),ns.length<=n->znW H->SqL (K w.params) H a (ns.map V.int)->sp w [.ref a] H (fun v _=>v=.bl true) fun _ _ _=>False)
  (hCX:∀ (w:World) (H:Hp) (s:Shared) (e:Value) (s':Shared),CX w [] H s (fun _ _ _=>False) e s'->False) :
  PySem.W.WalkO q loose XP YP l.row.toRowW d [] (fun f vs=>PySem.call f vs):=by
 refine Att.attach_call hn hdf fun w s₀ s₁ mg mb fa o pm cd doc a vs ns G Y ho hd hcd hmg hobj hints hlen hg=>?_
 have KX:=hY w _ Y
 obtain⟨fd,hb,hF⟩:=F w mg fa _ KX G.T.g hmg
 exact zlP KX G.T.g G.T.b G.T.builtins G.T.nolimit hg hobj hints (Nat.le_trans hlen hn2) hr hF hb (fun H hO hS=>hsp w H a ns hlen hO hS) fun H e s'=>hCX w H s₁ e s'
def zS(s:Stmt):Arguments:=match s with
 | .FunctionDef _ a _ _ _ _ _ _ _ _=>a
 | _=>{ posonlyargs:=[],args:=[],vararg:=none,kwonlyargs:=[],kw_defaults:=[],kwarg:=none,defaults:=[] }
def zK(s:Stmt):List Stmt:=match s with
 | .FunctionDef _ _ b _ _ _ _ _ _ _=>b
 | _=>[]
def zo(s:Stmt):Scope:=match s with
 | .FunctionDef _ _ _ _ _ _ sc _ _ _=>sc
 | _=>{ kind:=.function,names:=[],isGenerator:=false,isCoroutine:=false }
abbrev CX0:CXT:=fun _ _ _ _ _ _=>False
abbrev E0:XK:=fun _ _ _=>False
theorem zlQ{X:Cx}:zet CX0 X E0:=fun _ _ _ _ _ _ _ h=>h.elim
structure Fun (K:PySem.W.Frag) (x qual:Str) (st:Stmt) (f:Addr) (fd:FuncData):Prop where
 ex:∃ (oc:Value) (od:Option Addr) (kV doc pm:Value) (an:Option Addr) (cdv ct:Value) (osl:Array (Option Value)),
  fd=PySem.W.fnOf x qual (zS st) (zK st) (zo st) .none kV doc pm an cdv ct/\K.lookup f=some ⟨oc,od,.func fd,osl⟩/\PySem.W.codeIn K cdv qual=true
 kp:PySem.W.keepIn K (.ref f)=true
section
variable {P:Program} {w:World} {K:PySem.W.Frag} {mg:Str->Option Value} {base:Heap}
theorem Fun.ok{x qual:Str}{st:Stmt}{f:Addr}{fd:FuncData}{N ps:List Str}{k:Nat}{sp:Sp}(F:Fun K x qual st f fd)(S:FnScope N ps (zo st))(len:∀ vs H Q E,sp vs H Q E->vs.length=ps.length)
  (hbody:∀ (cdv:Value) (A:Around) (outer:List Env) (s:Shared) (H:Hp) (vs:List V) (Q:VK) (E:XK),Room k (A.deeper (envOfC qual (zo st) s.heap.objs.size f cdv))->sp vs H Q E ->
   ∃ t,PSs (zfv CX0 P w K mg base N qual (zo st) f cdv A outer s H E).nox (zK st) t/\t { nx:=fun _ H'=>Q .non H',rt:=Q } (za9 N vs) H):FnOk P w K mg base CX0 (k+1) f fd ps sp:=by
 obtain⟨oc,od,kV,doc,pm,an,cdv,ct,osl,rfl,lk,hcd⟩:=F.ex
 refine zpQ lk hcd S len fun A outer s H vs Q E hr hsp=>?_
 obtain⟨t,h,q⟩:=hbody cdv A outer s H vs Q E hr hsp
 exact⟨t,h.nox,q⟩
theorem Fun.binds{x qual:Str}{st:Stmt}{f:Addr}{fd:FuncData}{ps:List Str}(F:Fun K x qual st f fd)
  (h:∀ (kV doc pm:Value) (an:Option Addr) (cdv ct:Value) (us:List Value),us.length=ps.length->bindArgs (PySem.W.fnOf x qual (zS st) (zK st) (zo st) .none kV doc pm an cdv ct) ⟨us,[]⟩=pure (ps.zip us)):zcX K fd ps []:=by
 obtain⟨oc,od,kV,doc,pm,an,cdv,ct,osl,rfl,lk,hcd⟩:=F.ex
 exact .all (h kV doc pm an cdv ct)
theorem zao{x qual:Str}{st:Stmt}{f:Addr}{oc:Value}{od an:Option Addr}{osl:Array (Option Value)}{kV doc pm cdv ct:Value}(l:K.lookup f=some ⟨oc,od,.func (PySem.W.fnOf x qual (zS st) (zK st) (zo st) .none kV doc pm an cdv ct),osl⟩)
  (c:PySem.W.codeIn K cdv qual=true) (k:PySem.W.keepIn K (.ref f)=true):Fun K x qual st f (PySem.W.fnOf x qual (zS st) (zK st) (zo st) .none kV doc pm an cdv ct):=⟨⟨oc,od,kV,doc,pm,an,cdv,ct,osl,rfl,l,c⟩,k⟩
end
section
variable {X:Cx}
theorem pv(i:Nat){x:Str}{pos:Pos}(hN:X.N[i]?=some x:=by rfl)(hv:Vis X.env.scope x:=by first | exact Or.inl rfl | exact Or.inr (Or.inl rfl) | exact Or.inr (Or.inr rfl))(hd:(x==("__debug__":Str))=false:=by decide)
  (hcd:(x==("__classdict__":Str))=false:=by decide):PE X (.Name x pos) (zgJ i):=zqo hN hv hd hcd
end
def zbg(H H':Hp):Prop:=∀ b o,H b=some o->H' b=some o
theorem zbg.refl(H:Hp):zbg H H:=fun _ _ h=>h
theorem zbg.free{H H':Hp}(e:zbg H H'){l:Addr}(h:H' l=Option.none):H l=Option.none:=by
 cases q:H l with
 | none=>rfl
 | some o =>
  rw [e l o q]at h
  cases h
theorem zbg.seq{K:PySem.W.Frag}{H H':Hp}{a:Addr}{xs:List V}(e:zbg H H')(h:SqL K H a xs):SqL K H' a xs:=by
 rcases h with (h | ⟨o,h⟩) | h
 ·exact .inl (.inl (e _ _ h))
 ·exact .inl (.inr ⟨o,e _ _ h⟩)
 ·exact .inr h
section
variable {X:Cx}
end
section
variable {κ:Type} [DecidableEq κ]
end
end L2
set_option maxHeartbeats 4000000
namespace L2
open PySem PySem.Spec PyProof.Rows
inductive Frees (X:Cx):List (Str×Addr)->List Str->List Nat->Prop where
 | nil:Frees X [] [] []
 | cons {x:Str} {c:Addr} {j:Nat} {cl:List (Str×Addr)} {xs:List Str} {js:List Nat} (hN:X.N[j]?=some x) (hk:X.env.scope.names.lookup x=some .cell\/X.env.scope.names.lookup x=some .free)
   (hc:X.env.cells.lookup x=some c) (t:Frees X cl xs js):Frees X ((x,c)::cl) (x::xs) (j::js)
def zaO(X:Cx)(scope:Scope)(cl:List (Str×Addr))(Nc:List Str)(C:Addr)(s:Shared)(H:Hp)(ex:List Addr):Cx :=
 { X with s₀:=s,H₀:=H,env:=compEnvC scope cl C X.env,N:=Nc,outer:=X.stack,stack:=X.stack,ex:=ex,fn:=fun _=>false,pn:=[],xe:=fun _ _=>False }
def c0(nt:Nat)(js:List Nat)(σ:St):St:=List.replicate nt none++js.map fun j=>σ.getD j none
def Wk(a b:St):Prop:=a.length=b.length/\∀ (i:Nat) (v:V),a[i]?=some (some v)->b[i]?=some (some v)
theorem zrc{a:St}{i:Nat}{x:Option V}(h:a[i]?=some none):Wk a (a.set i x):=by
 refine⟨by simp,fun j v e=>?_⟩
 have ne:i≠j:=by intro z; rw [z,e]at h; cases h
 rw [List.getElem?_set_ne ne]
 exact e
theorem zjV{nt:Nat}{js:List Nat}{σ:St}{i:Nat}(h:i < nt):(c0 nt js σ)[i]?=some none:=by
 unfold c0
 rw [List.getElem?_append_left (by simpa using h),List.getElem?_replicate,if_pos h]
theorem zcc{X:Cx}{cl:List (Str×Addr)}{xs:List Str}{js:List Nat}(f:Frees X cl xs js):∀ x c,cl.lookup x=some c->X.env.cells.lookup x=some c:=by
 induction f with
 | nil=>intro x c e; cases e
 | @cons y d j cl xs js hN hk hc t ih =>
  intro x c e
  rw [List.lookup_cons]at e
  by_cases q:x=y
  ·subst q
   rw [beq_self_eq_true]at e
   injection e with e1
   rw [<-e1]
   exact hc
  ·rw [beq_eq_false_iff_ne.mpr q]at e
   exact ih x c e
theorem zg3{X:Cx}{cl:List (Str×Addr)}{xs:List Str}{js:List Nat}(f:Frees X cl xs js):∀ x,x∈xs->∃ c,cl.lookup x=some c:=by
 induction f with
 | nil=>intro x m; cases m
 | @cons y d j cl xs js hN hk hc t ih =>
  intro x m
  rw [List.lookup_cons]
  by_cases q:x=y
  ·subst q
   rw [beq_self_eq_true]
   exact⟨d,rfl⟩
  ·rw [beq_eq_false_iff_ne.mpr q]
   rcases List.mem_cons.mp m with z | z
   ·exact absurd z q
   ·exact ih x z
theorem zlR{X:Cx}{cl:List (Str×Addr)}{xs:List Str}{js:List Nat}(f:Frees X cl xs js):∀ (i:Nat) (x:Str) (σ:St) (v:V),xs[i]?=some x->(js.map fun j=>σ.getD j none)[i]?=some (some v) ->
  ∃ j:Nat,X.N[j]?=some x/\σ[j]?=some (some v)/\(X.env.scope.names.lookup x=some .cell\/X.env.scope.names.lookup x=some .free)/\(∃ c,X.env.cells.lookup x=some c):=by
 induction f with
 | nil=>intro i x σ v e; simp at e
 | @cons y d j cl xs js hN hk hc t ih =>
  intro i x σ v e1 e2
  cases i with
  | zero =>
   simp only [List.getElem?_cons_zero,Option.some.injEq]at e1
   subst e1
   refine⟨j,hN,?_,hk,d,hc⟩
   simp only [List.map_cons,List.getElem?_cons_zero,Option.some.injEq]at e2
   rw [List.getD_eq_getElem?_getD]at e2
   cases q:σ[j]? with
   | none=>rw [q]at e2; cases e2
   | some o=>rw [q]at e2; simp at e2; rw [e2]
  | succ i =>
   exact ih i x σ v (by simpa using e1) (by simpa using e2)
theorem zdH{env:Env}:∀ {names:List (Str×NameKind)} {x:Str} {k:NameKind},
  (names.map fun(n,k)=>if(k==NameKind.free && env.scope.kind==.function && env.kindOf n==some .cell)then(n,NameKind.cell)else(n,k)).lookup x=some k ->
  ∃ k0,names.lookup x=some k0/\(x,k0)∈names/\(k=k0\/(k0=.free/\k=.cell)):=by
 intro names
 induction names with
 | nil=>intro x k e; cases e
 | cons p r ih =>
  intro x k e
  obtain⟨n,kn⟩:=p
  by_cases q:x=n
  ·subst q
   refine⟨kn,by rw [List.lookup_cons,beq_self_eq_true],List.mem_cons_self,?_⟩
   rw [List.map_cons]at e
   change List.lookup x ((if(kn==NameKind.free && env.scope.kind==.function && env.kindOf x==some .cell)=true then(x,NameKind.cell)else(x,kn))::_)=_ at e
   by_cases hh:(kn==NameKind.free && env.scope.kind==.function && env.kindOf x==some .cell)=true
   ·rw [if_pos hh,List.lookup_cons,beq_self_eq_true]at e
    injection e with e1
    refine .inr ⟨?_,e1.symm⟩
    simp only [Bool.and_eq_true]at hh
    exact by simpa using hh.1.1
   ·rw [if_neg hh,List.lookup_cons,beq_self_eq_true]at e
    injection e with e1
    exact .inl e1.symm
  ·rw [List.map_cons]at e
   change List.lookup x ((if(kn==NameKind.free && env.scope.kind==.function && env.kindOf n==some .cell)=true then(n,NameKind.cell)else(n,kn))::_)=_ at e
   have e':(r.map fun(n,k)=>if(k==NameKind.free && env.scope.kind==.function && env.kindOf n==some .cell)then(n,NameKind.cell)else(n,k)).lookup x=some k:=by
    by_cases hh:(kn==NameKind.free && env.scope.kind==.function && env.kindOf n==some .cell)=true
    ·rw [if_pos hh,List.lookup_cons,beq_eq_false_iff_ne.mpr q]at e
     exact e
    ·rw [if_neg hh,List.lookup_cons,beq_eq_false_iff_ne.mpr q]at e
     exact e
   obtain⟨k0,h1,h2,h3⟩:=ih e'
   refine⟨k0,by rw [List.lookup_cons,beq_eq_false_iff_ne.mpr q]; exact h1,List.mem_cons_of_mem _ h2,h3⟩
theorem zkO{X:Cx}{cl:List (Str×Addr)}{xs:List Str}{js:List Nat}(f:Frees X cl xs js):js.length=xs.length:=by
 induction f with
 | nil=>rfl
 | cons _ _ _ _ ih=>simp [ih]
structure ScC (scope:Scope) (xs:List Str):Prop where
 kind:scope.kind=.function
 cell:∀ y∈scope.names,y.2≠.cell
 names:∀ y∈scope.names,y.2=.local->scope.names.lookup y.1=some .local
 free:∀ y∈scope.names,y.2=.free->y.1∈xs
 fk:∀ x∈xs,scope.names.lookup x=some .free
section
variable {X:Cx} {pins:List (Addr×Obj)} {σ:St} {H:Hp} {s:Shared} {scope:Scope} {cl:List (Str×Addr)} {xs:List Str} {js:List Nat} {nt:Nat} {ts:List Str} {fp:List Addr} {C:Addr}
theorem znX(I:Inv X pins σ H s)(S:ScC scope xs)(f:Frees X cl xs js)(hC:s.heap.objs.size<=C)(hf:∀ b∈fp,zeC X pins H b)(hl:∀ b∈fp,b < s.heap.objs.size) :
  (zaO X scope cl (ts++xs) C s H fp).Ok where
 mod:=I.ok.mod
 kind:=S.kind
 glob:=I.ok.glob
 blt:=I.ok.blt
 above:=hC
 inj:=fun x y c e1 e2=>I.ok.inj x y c (zcc f x c e1) (zcc f y c e2)
 has:=fun x h=>by
  have z:∃ k0,scope.names.lookup x=some k0/\(x,k0)∈scope.names/\k0=NameKind.free:=by
   rcases h with h | h
   ·obtain⟨k0,h1,h2,h3⟩:=zdH (env:=X.env) (names:=scope.names) h
    rcases h3 with h3 | h3
    ·exact absurd h3.symm (S.cell _ h2)
    ·exact⟨k0,h1,h2,h3.1⟩
   ·obtain⟨k0,h1,h2,h3⟩:=zdH (env:=X.env) (names:=scope.names) h
    rcases h3 with h3 | h3
    ·exact⟨k0,h1,h2,h3.symm⟩
    ·cases h3.2
  obtain⟨k0,_,h2,h3⟩:=z
  exact zg3 f x (S.free _ h2 h3)
 cab:=fun x c h=>by cases h
 hd:=I.ok.hd
 frames:=I.ok.frames
 stk:=.inl rfl
 exf:=fun b hb=>⟨Nat.ne_of_lt (Nat.lt_of_lt_of_le (hl b hb) hC),fun x c e=>(hf b hb).2.2.2.2.1 x c (zcc f x c e)⟩
 bs:=I.bs
 bsz:=Nat.le_trans I.ok.bsz I.sz
 noex:=fun b o e hb=>by
  rcases(hf b hb).2.2.2.1 with z | z
  ·exact I.ok.noex b o e z
  ·exact absurd (Nat.lt_of_lt_of_le (Heap.lt_size (I.ok.bs b o e).1) z) (Nat.lt_irrefl _)
 exfs:=fun b hb z=>by
  rcases List.mem_cons.mp (I.stkSub b z)with q | q
  ·exact(hf b hb).2.1 q
  ·exact(hf b hb).2.2.1 q
 funs:=I.stack
 frf:=I.stkFree
theorem zlS{m:Str->Option Value}{h1:Heap}{tk:Nat}(I:Inv X pins σ H s)(S:ScC scope xs)(f:Frees X cl xs js)(hts:ts.length=nt)(hC:s.heap.objs.size<=C)(hf:∀ b∈fp,zeC X pins H b)(hl:∀ b∈fp,b < s.heap.objs.size)
  (hk:∀ b o,s.heap.get? b=some o->h1.get? b=some o) (hn:h1.Ns C m):Inv (zaO X scope cl (ts++xs) C s H fp) [] (c0 nt js σ) H { s with heap:=h1,toks:=tk } where
 ok:=znX I S f hC hf hl
 os:=rfl
 bare:=I.bare
 base:=Un.kept hk
 loc:=by
  refine⟨m,hn,fun i x v e1 e2 e3=>?_⟩
  have hi:nt<=i:=by
   rcases Nat.lt_or_ge i nt with z | z
   ·rw [zjV z]at e2; cases e2
   ·exact z
  have e1':xs[i - nt]?=some x:=by
   have z:(ts++xs)[i]?=some x:=e1
   rw [List.getElem?_append_right (by omega),hts]at z
   exact z
  have e2':(js.map fun j=>σ.getD j none)[i - nt]?=some (some v):=by
   unfold c0 at e2
   rw [List.getElem?_append_right (by simpa using hi),List.length_replicate]at e2
   exact e2
  obtain⟨j,hN,hσ,hkk,c,hc⟩:=zlR f (i - nt) x σ v e1' e2'
  obtain⟨m0,_,hl0⟩:=I.loc
  obtain⟨u,r,lk⟩:=hl0 j x v hN hσ (.inr hkk)
  refine⟨u,r,.inr ⟨?_,?_⟩⟩
  ·rcases e3 with z | z | z
   ·have hx:x∈xs:=List.mem_of_getElem? e1'
    obtain⟨k0,h1,h2,h3⟩:=zdH (env:=X.env) (names:=scope.names) z
    have q:=S.fk x hx
    rw [h1]at q
    cases q
    rcases h3 with h3 | h3
    ·cases h3
    ·cases h3.2
   ·exact .inl z
   ·exact .inr z
  ·obtain⟨c',hc'⟩:=zg3 f x (List.mem_of_getElem? e1')
   refine⟨c',hc',?_⟩
   have q:=zcc f x c' hc'
   rcases lk with ⟨l1,_⟩ | ⟨_,c'',l2,l3⟩
   ·exfalso
    have l1':X.env.scope.names.lookup x=some .local:=l1
    rcases hkk with z | z<;>rw [z]at l1'<;>cases l1'
   ·rw [q]at l2
    cases l2
    exact l3.keeps hk
 cell:=fun x c e=>by
  obtain⟨v,z⟩:=I.cell x c (zcc f x c e)
  exact⟨v,z.keeps hk⟩
 free:=I.hok.fresh hC
 freeC:=fun x c e=>I.freeC x c (zcc f x c e)
 pin:=fun p hp=>by cases hp
 hok:=I.hok.kept hk
 len:=by
  show(c0 nt js σ).length=(ts++xs).length
  unfold c0
  rw [List.length_append,List.length_append,List.length_replicate,List.length_map,hts]
  rw [zkO f]
theorem zg4{P:Program}{w:World}{H:Hp}{h:Heap}{a:Addr}{o:HO}(x:HOk P w H h)(hn:H a=none)(new:zbq P w (upd H a o) h a o):HOk P w (upd H a o) h:=fun b u e=>by
 by_cases hb:b=a
 ·subst hb; rw [zA]at e; cases e; exact new
 ·rw [zz hb]at e
  exact(x b u e).stay (fun _ _ _ q=>q) (fun c q=>(zz (zX q hn)).trans q) fun c ys q=>(zz (zX q hn)).trans q
theorem zh7{fs ex:List Addr}{H H1:Hp}{h h1:Heap}{a:Addr}{o:HO}(u:Un fs ex H H1 h h1)(hn:H1 a=none)(ha:h.objs.size<=a):Un fs ex H (upd H1 a o) h h1 where
 keep:=u.keep
 slot:=u.slot
 free:=fun b ob q n hx=>(zz (Nat.ne_of_lt (Nat.lt_of_lt_of_le (Heap.lt_size q) ha))).trans (u.free b ob q n hx)
 there:=u.there
 tups:=fun b ys q=>(zz (zX (u.tups b ys q) hn)).trans (u.tups b ys q)
 frzs:=fun b ob ys q=>(zz (zX (u.frzs b ob ys q) hn)).trans (u.frzs b ob ys q)
 tbls:=fun b ps q=>by
  obtain⟨more,e⟩:=u.tbls b ps q
  exact⟨more,(zz (zX e hn)).trans e⟩
def zh8(X:Cx)(ifs:List Expr)(t:TT):Prop :=
 ∀ (pins:List (Addr×Obj)) (s:Shared) (σ:St) (H:Hp) (Q:Bool->Hp->Prop),Inv X pins σ H s->t σ H Q ->
  wpAny (model X.prog X.w) X.A (forIn ifs true fun c r=>if r=true then do let ok <-isTrue c X.env (eval c X.env); pure (ForInStep.yield ok)else pure (ForInStep.yield r)) (TP X pins σ Q) X.xe s
def zrd:TT:=fun _ H Q=>Q true H
theorem zlT{X:Cx}:zh8 X [] zrd:=fun _ _ _ H _ I h=>wpAny_tests_nil ⟨H,I,h⟩
theorem zlU{X:Cx}{c:Expr}{t:TT}(h:PT X c t):zh8 X [c] t:=fun pins s σ H Q I q=>wpAny_tests_one (h pins s σ H Q I q)
theorem zre{α:Type}{t:Sem α}{Q Q':α->Shared->Prop}{M:Model}{A:Around}{E:Value->Shared->Prop}{s:Shared}(h:wpAny M A t Q (fun _ _=>False) s)(hQ:∀ a s,Q a s->Q' a s):wpAny M A t Q' E s:=wpAny_mono h hQ fun _ _ x=>x.elim
theorem zi5{prog:Program}{w:World}{A:Around}{R:Result->Shared->Prop}{s:Shared}{elt target iter:Expr}{ifs:List Expr}{scope:Scope}{pos:Pos}{it acc:Value}{env:Env}(I:Nat->Shared->Prop)
  (turn:∀ n s,I n s->∀ E,wpAny (model prog w) A (pyNext it) (fun r s1=>match r with
   | none=>R (.ok .next) s1
   | some v=>wpAny (model prog w) A (letOwnedTupleGo target it v) (fun _ s2=>wpAny (model prog w) A (assign target env v) (fun _ s3 =>
     wpAny (model prog w) A (forIn ifs true fun c r=>if r=true then do let ok <-isTrue c env (eval c env); pure (ForInStep.yield ok)else pure (ForInStep.yield r)) (fun ok s4 =>
      (ok=true->wpAny (model prog w) A (eval elt env) (fun x s5=>wpAny (model prog w) A (call (.builtin "list.append") [acc,x]) (fun _ s6=>∃ m,m < n/\I m s6) E s5) E s4) /\
      (ok=false->∃ m,m < n/\I m s4)) E s3) E s2) E s1) E s)
  (n:Nat) (h:I n s):codeAny (model prog w) A (.compLoop (.ListComp elt [⟨target,iter,ifs,0⟩] scope pos) 0 it acc env) R s:=by
 refine codeAny_loop rfl I (fun n s hI=>?_) n h
 show wpAny _ A ((compTurn _ 0 it acc env).onRaise (fun x=>do noteFrame x env; theTreesLotGoes x)) _ _ s
 refine wpAny_noted ?_
 rw [compTurn_list]
 refine wpAny_bind (wpAny_standAt (wpAny_bind (wpAny_mono (turn n s hI _) (fun r s1 h1=>?_) fun _ _ z=>z)))
 cases r with
 | none=>exact wpAny_pure h1
 | some v =>
  refine wpAny_bind (wpAny_mono h1 (fun _ s2 h2=>?_) fun _ _ z=>z)
  refine wpAny_bind (wpAny_mono h2 (fun _ s3 h3=>?_) fun _ _ z=>z)
  refine wpAny_bind (wpAny_mono h3 (fun ok s4 h4=>?_) fun _ _ z=>z)
  cases ok with
  | false=>exact wpAny_pure ⟨rfl,h4.2 rfl⟩
  | true =>
   refine wpAny_bind (wpAny_bind (wpAny_mono (h4.1 rfl) (fun x s5 h5=>?_) fun _ _ z=>z))
   exact wpAny_bind (wpAny_mono h5 (fun _ s6 h6=>wpAny_pure (wpAny_pure ⟨rfl,h6⟩)) fun _ _ z=>z)
def ztD(J:It)(σc:St)(g:TG)(tt:TT)(te:TE)(Z:List V->Hp->Prop)(H1:Hp):Prop :=
 ∃ W:Nat->Nat->List V->Hp->Prop,(∃ m,W 0 m [] H1)/\∀ i m ys H,W i m ys H ->
  (J.stop i H/\Z ys H)\/(J.go i H/\ys.length < sizeLine/\∃ N:List V->Hp->Prop,(∀ ys' H',N ys' H'->∃ m',m' < m/\W (i+1) m' ys' H') /\
   ∀ x H',J.yld i H x H'->g x σc H' fun σ2 H2=>tt σ2 H2 fun b H3=>if b=true then te σ2 H3 fun y H4=>N (ys++[y]) H4 else N ys H3)
def GW(σc:St)(g:TG):Prop:=∀ x H (Q:St->Hp->Prop),g x σc H Q->g x σc H fun σ2 H2=>Wk σc σ2/\Q σ2 H2
theorem zf6{elt iter tg:Expr}{ifs:List Expr}{pos:Pos}{J:It}{it:Addr}{tn:Nat->Heap->Prop}{g:TG}{tt:TT}{te:TE}{Z:List V->Hp->Prop}{RR:Value->Addr->Result->Shared->Prop}{E:Value->Shared->Prop}
  (hc:X.calm=true) (I:Inv X pins σ H s) (S:ScC scope xs) (f:Frees X cl xs js) (hts:ts.length=nt) (T:Turn X.prog X.w X.K tg J fp it tn) (st:tn 0 s.heap) (hf:∀ b∈fp,zeC X pins H b)
  (hg:∀ C s H ex,PG (zaO X scope cl (ts++xs) C s H ex) tg g) (ht:∀ C s H ex,zh8 (zaO X scope cl (ts++xs) C s H ex) ifs tt) (he:∀ C s H ex,PE (zaO X scope cl (ts++xs) C s H ex) elt te)
  (gw:GW (c0 nt js σ) g) (h:ztD J (c0 nt js σ) g tt te Z H)
  (hRR:∀ (D C:Addr) (m:Str->Option Value) (s':Shared) (ys:List V) (H':Hp),Z ys H'->H' D=none->Inv X pins σ (upd H' D (.lst ys)) s'->s'.heap.Ns C m->upd H' D (.lst ys) C=none->C≠X.env.locals ->
   (∀ x c,X.env.cells.lookup x=some c->c≠C)->X.s₀.heap.objs.size<=C->(∀ p∈X.pn++pins,p.1≠C)->RR (.ref D) C (.ok .next) s') :
  wpAny (model X.prog X.w) X.A (newList []) (fun acc s3=>wpAny (model X.prog X.w) X.A (newFunctionEnv scope X.env.globals cl [] X.env.qual none .none (some X.env)) (fun cenv s4 =>
   codeAny (model X.prog X.w) X.A (.compStart (.ListComp elt [⟨tg,iter,ifs,0⟩] scope pos) 0 (.ref it) acc { cenv with scope:=relabel scope X.env }) (RR acc cenv.locals) s4) E s3) E s:=by
 refine wpAny_newObj_type (wpAny_newFunctionEnv S.cell (by intro y hy; cases hy) (fun h1 hn1 hsb1=>?_) S.kind)
 dsimp only at hn1 hsb1 ⊢
 generalize hH2:s.heap.push { cls:=.type "list",dict:=none,data:=.seq ([]:List Value).toArray }=G at hn1 hsb1 ⊢
 have hCs:G.objs.size=s.heap.objs.size+1:=by rw [<-hH2,Heap.size_push]
 have hC:s.heap.objs.size<=G.objs.size:=by rw [hCs]; exact Nat.le_succ _
 have hDC:s.heap.objs.size≠G.objs.size:=by rw [hCs]; exact Nat.ne_of_lt (Nat.lt_succ_self _)
 have hl:∀ b∈fp,b < s.heap.objs.size:=fun b hb=>by
  obtain⟨o,e,_⟩:=T.obj _ _ st b hb
  exact Heap.lt_size e
 have old:∀ b o,s.heap.get? b=some o->h1.get? b=some o:=fun b o e =>
  hsb1.extBut b o (Nat.ne_of_lt (Nat.lt_of_lt_of_le (Heap.lt_size e) hC)) (Heap.get?_push_of_some _ (hH2▸Heap.get?_push_of_some _ e))
 have hD1:h1.get? s.heap.objs.size=some { cls:=.type "list",data:=.seq ([]:List Value).toArray }:=hsb1.extBut _ _ hDC (Heap.get?_push_of_some _ (hH2▸Heap.get?_push_size _ rfl))
 have J0:Inv (zaO X scope cl (ts++xs) G.objs.size s H fp) [] (c0 nt js σ) H { s with heap:=h1,toks:=s.toks+([]:List (Str×Value)).length }:=zlS I S f hts hC hf hl old hn1
 obtain⟨W,⟨m0,w0⟩,turn⟩:=h
 have st1:tn 0 h1:=T.keep _ _ _ st fun b hb o e=>old b o e
 have hDn:H s.heap.objs.size=none:=I.hok.fresh (Nat.le_refl _)
 have Dnot:∀ b∈fp,s.heap.objs.size≠b:=fun b hb z=>absurd (hl b hb) (by rw [<-z]; exact Nat.lt_irrefl _)
 have fpk:∀ {H':Hp} {pl:List (Addr×Obj)},(∀ b∈fp,H' b=none)->(∀ p∈pl,p.1=s.heap.objs.size)->∀ b∈fp,zeC (zaO X scope cl (ts++xs) G.objs.size s H fp) pl H' b:=fun{H' pl} hn hp b hb=>by
  refine⟨hn b hb,Nat.ne_of_lt (Nat.lt_of_lt_of_le (hl b hb) hC),fun z=>?_,.inl hb,fun x c e=>(hf b hb).2.2.2.2.1 x c (zcc f x c e),fun p hpp z=>?_⟩
  ·rcases List.mem_cons.mp (I.stkSub b z)with q | q
   ·exact(hf b hb).2.1 q
   ·exact(hf b hb).2.2.1 q
  ·rcases List.mem_append.mp hpp with q | q
   ·cases q
   ·exact Dnot b hb ((hp p q).symm.trans z)
 have loop:codeAny (model X.prog X.w) X.A (.compLoop (.ListComp elt [⟨tg,iter,ifs,0⟩] scope pos) 0 (.ref it) (.ref s.heap.objs.size) (compEnvC scope cl G.objs.size X.env)) (RR (.ref s.heap.objs.size) G.objs.size)
   { s with heap:=h1,toks:=s.toks+([]:List (Str×Value)).length }:=by
  refine zi5 (fun n s'=>∃ i ys its nn H',Inv (zaO X scope cl (ts++xs) G.objs.size s H fp) [] (c0 nt js σ) H' s'/\tn i s'.heap/\(∀ b∈fp,H' b=none)/\H' s.heap.objs.size=none /\
   s'.heap.get? s.heap.objs.size=some { cls:=.type "list",data:=.seq (List.toArray its) nn }/\zM ys its/\ys.length<=sizeLine/\W i n ys H') ?_ m0
   ⟨0,[],[],0,H,J0,st1,fun b hb=>(hf b hb).1,hDn,hD1,.nil,Nat.zero_le _,w0⟩
  rintro n s3 ⟨i,ys,its,nn,H3,I3,st3,fr3,d3,o3,r3,z3,w3⟩ E'
  have cne:s.heap.objs.size≠(zaO X scope cl (ts++xs) G.objs.size s H fp).env.locals:=hDC
  have I3p:Inv (zaO X scope cl (ts++xs) G.objs.size s H fp) [(s.heap.objs.size,{ cls:=.type "list",data:=.seq its.toArray nn })] (c0 nt js σ) H3 s3:=I3.pins_of fun p hp=>by
   have e:p=(s.heap.objs.size,{ cls:=.type "list",data:=.seq its.toArray nn }):=by simpa using hp
   subst e
   refine⟨o3,d3,cne,fun z=>?_,fun v z=>by cases z⟩
   obtain⟨_,ob,e,_⟩:=I.stack.mem z
   exact absurd (Heap.lt_size e) (Nat.lt_irrefl _)
  have pl1:∀ p∈[(s.heap.objs.size,({ cls:=.type "list",data:=.seq its.toArray nn }:Obj))],p.1=s.heap.objs.size:=fun p hp=>by
   have e:p=(s.heap.objs.size,{ cls:=.type "list",data:=.seq its.toArray nn }):=by simpa using hp
   rw [e]
  rcases turn i n ys H3 w3 with ⟨stop,qz⟩ | ⟨go,hsz,N,hN,step⟩
  ·refine thn (T.done (zaO X scope cl (ts++xs) G.objs.size s H fp) rfl rfl rfl hc i _ s3 _ H3 E' I3p (fpk fr3 pl1) st3 stop) fun r s4 ⟨hr,I4⟩=>?_
   subst hr
   have o4:s4.heap.get? s.heap.objs.size=some { cls:=.type "list",data:=.seq its.toArray nn }:=(I4.pin _ (List.mem_append_right _ List.mem_cons_self)).1
   obtain⟨m4,n4,_⟩:=I4.loc
   have hk4:HOk X.prog X.w (upd H3 s.heap.objs.size (.lst ys)) s4.heap:=zg4 I4.hok d3 ⟨z3,its,nn,r3,o4⟩
   have un4:Un (frs X.stack) fp H (upd H3 s.heap.objs.size (.lst ys)) s.heap s4.heap:=zh7 I4.base d3 (Nat.le_refl _)
   refine hRR _ _ m4 s4 ys H3 qz d3 (I.call' I4.os un4 hk4 I4.bare fun b hb=>⟨(hf b hb).2.2.2.1,(hf b hb).2.1,(hf b hb).2.2.2.2.1,fun p hp=>(hf b hb).2.2.2.2.2 p hp⟩) n4 ?_ ?_ ?_ ?_ ?_
   ·rw [zz (Ne.symm hDC)]
    exact I4.free
   ·exact fun z=>absurd I.lt (by rw [<-z]; exact Nat.not_lt.mpr hC)
   ·intro x c e z
    obtain⟨v,ob,q,_⟩:=I.cell x c e
    exact absurd (Heap.lt_size q) (by rw [z]; exact Nat.not_lt.mpr hC)
   ·exact Nat.le_trans I.sz hC
   ·intro p hp z
    have q:=(I.pin p hp).1
    exact absurd (Heap.lt_size q) (by rw [z]; exact Nat.not_lt.mpr hC)
  ·refine thn (T.item (zaO X scope cl (ts++xs) G.objs.size s H fp) rfl rfl rfl hc i _ s3 _ H3 E' I3p (fpk fr3 pl1) st3 go) fun r s4 ⟨u,hr,h4⟩=>?_
   subst hr
   refine thn h4 fun _ s5 ⟨x,H5,I5,r5,y5,st5,fr5⟩=>?_
   have I5':=I5.pinned (fpk fr5 pl1) (T.obj _ _ st5)
   refine zre (hg _ _ _ _ _ s5 _ H5 x u _ I5' r5 (gw _ _ _ (step x H5 y5))) fun _ s6 ⟨σ6,H6,I6,wk6,q6⟩=>?_
   refine zre (ht _ _ _ _ _ s6 σ6 H6 _ I6 q6) fun ok s7 ⟨H7,I7,q7⟩=>?_
   have after:∀ {H8:Hp} {s8:Shared},Inv (zaO X scope cl (ts++xs) G.objs.size s H fp) ([(s.heap.objs.size,({ cls:=.type "list",data:=.seq its.toArray nn }:Obj))]++zfZ fp s5.heap) σ6 H8 s8 ->
     tn (i+1) s8.heap/\(∀ b∈fp,H8 b=none)/\H8 s.heap.objs.size=none/\s8.heap.get? s.heap.objs.size=some { cls:=.type "list",data:=.seq its.toArray nn } /\
      Inv (zaO X scope cl (ts++xs) G.objs.size s H fp) [] (c0 nt js σ) H8 s8:=fun{H8 s8} I8=>by
    have dd:=I8.pin (s.heap.objs.size,({ cls:=.type "list",data:=.seq its.toArray nn }:Obj)) (List.mem_append_right _ (List.mem_append_left _ List.mem_cons_self))
    refine⟨T.keep _ _ _ st5 fun b hb o e=>(I8.pin (b,o) (List.mem_append_right _ (List.mem_append_right _ (zdF hb e)))).1,fun b hb=>?_,dd.2.1,dd.1,?_⟩
    ·obtain⟨o,e,d⟩:=T.obj _ _ st5 b hb
     exact(I8.pin (b,o) (List.mem_append_right _ (List.mem_append_right _ (zdF hb e)))).2.1
    ·exact(I8.weak wk6.1 wk6.2).pins_of fun p hp=>by cases hp
   refine⟨fun hok=>?_,fun hok=>?_⟩
   ·subst hok
    rw [if_pos rfl]at q7
    refine zre (he _ _ _ _ _ s7 σ6 H7 _ I7 q7) fun v s8 ⟨y,H8,I8,ry,q8⟩=>?_
    obtain⟨st8,fr8,d8,o8,I8'⟩:=after I8
    obtain⟨m',hm,w8⟩:=hN _ _ q8
    refine call_meets F.slot_list_append ⟨_,o8,rfl⟩ F.entry_list_append (F.args_list_append_2 _ _) (PySem.list_append s.heap.objs.size its.toArray nn v (by rw [List.size_toArray,<-r3.length]; omega)) ⟨o8,?_⟩
    obtain⟨_,f1,_,f3,f4,_⟩:=(⟨d8,cne,trivial,.inr (Nat.le_refl _),fun x c e=>by
     obtain⟨v0,ob,q,_⟩:=I.cell x c (zcc f x c e)
     exact Nat.ne_of_lt (Heap.lt_size q),trivial⟩:H8 s.heap.objs.size=none/\s.heap.objs.size≠(zaO X scope cl (ts++xs) G.objs.size s H fp).env.locals/\True/\(s.heap.objs.size∈fp\/s.heap.objs.size<=s.heap.objs.size) /\
      (∀ x c,cl.lookup x=some c->c≠s.heap.objs.size)/\True)
    have q:=PySem.IsL.update o8 (fun x=>x.push v)
    have hp:its.toArray.push v=(its++[v]).toArray:=by simp
    rw [hp]at q
    refine⟨m',hm,i+1,ys++[y],its++[v],_,H8,I8'.turned (t':=s8.toks) (it:=s.heap.objs.size) (fun b o hb e=>(Heap.get?_update_other s8.heap _ (Ne.symm hb)).trans e) d8 f1 f3 f4 (fun p hp=>by cases hp),?_,fr8,d8,q,r3.append (.cons ry .nil),?_,w8⟩
    ·exact T.keep _ _ _ st8 fun b hb o e=>(Heap.get?_update_other s8.heap _ (Dnot b hb)).trans e
    ·rw [List.length_append,List.length_singleton]
     omega
   ·subst hok
    rw [if_neg Bool.false_ne_true]at q7
    obtain⟨st7,fr7,d7,o7,I7'⟩:=after I7
    obtain⟨m',hm,w7⟩:=hN _ _ q7
    exact⟨m',hm,i+1,ys,its,nn,H7,I7',st7,fr7,d7,o7,r3,z3,w7⟩
 exact codeAny_compStart_list loop (T.self _ _ _ _ _ st1 loop)
def tLC(wi:TI)(nt:Nat)(js:List Nat)(g:TG)(tt:TT)(te:TE):TE:=fun σ H Q=>wi σ H fun J H1 =>
 ztD J (c0 nt js σ) g tt te (fun ys H2=>∀ D,H2 D=none->Q (.ref D) (upd H2 D (.lst ys))) H1
theorem ztE{elt iter tg:Expr}{ifs:List Expr}{pos:Pos}{wi:TI}{g:TG}{tt:TT}{te:TE}(nt:Nat)(ts:List Str)(hts:ts.length=nt)(hc:X.calm=true)(S:ScC scope xs)(f:Frees X cl xs js)(hclos:closureFor scope X.env=pure cl)
  (hi:PI X tg iter wi) (hg:∀ C s H ex,PG (zaO X scope cl (ts++xs) C s H ex) tg g) (gw:∀ σ:St,GW (c0 nt js σ) g) (ht:∀ C s H ex,zh8 (zaO X scope cl (ts++xs) C s H ex) ifs tt)
  (he:∀ C s H ex,PE (zaO X scope cl (ts++xs) C s H ex) elt te) (hs:∀ x,foldedSetIterable iter X.env x=pure x:=by intro _; rfl) :
  PE X (.ListComp elt [⟨tg,iter,ifs,0⟩] scope pos) (tLC wi nt js g tt te):=by
 intro pins s σ H Q I h
 rw [eval_ListComp]
 refine wpAny_comprehension_free (use:=none) rfl hs hclos S.kind S.names (thn (hi pins s σ H _ I h) fun v s1 h1=>thn h1 fun itv s2 h2=>?_)
 obtain⟨it,fp,tn,J,H2,e,I2,T,st2,f2,q⟩:=h2
 subst e
 refine zf6 (RR:=fun acc C=>compPost (model X.prog X.w) X.A X.xe none (EP X pins σ Q) acc C) hc I2 S f hts T st2 f2 hg ht he (gw σ) q ?_
 intro D C m s' ys H' z hD I' hn hCn hCL hCc hCs hCp
 refine⟨m,hn,fun h' hs'=>⟨.ref D,_,I'.turned (it:=C) (fun b o hb e=>hs'.extBut b o hb e) hCn hCL (.inr hCs) hCc hCp,rfl,z D hD⟩⟩
end
section
variable {X:Cx}
def zh9(_ j:Int):Prop:=0 < j/\j.natAbs.log2 < 9000
theorem zia:OpR X (binaryOp .FloorDiv) (rI zh9 fun i j=>.int (i / j)):=opI fun i j _ _ _ _ _ hc q=>by
 have h1:(0:Int) < j:=hc.1
 exact floordiv_int (by omega) (by rw [Int.fdiv_eq_ediv_of_nonneg i (by omega)]; exact q) (.inl (PyProof.noPylong_of_log2 hc.2))
def zib(_ j:Int):Prop:=j≠0/\j.natAbs.log2 < 9000
theorem zic:OpR X (binaryOp .FloorDiv) (rI zib fun i j=>.int (i.fdiv j)):=opI fun i j _ _ _ _ _ hc q =>
 floordiv_int hc.1 q (.inl (PyProof.noPylong_of_log2 hc.2))
theorem zf7{n:Nat}{k:Nat}(hk:0 < k)(h:n < 2^k):n.log2 < k:=by
 by_cases hn:n=0
 ·subst hn; exact hk
 ·exact(Nat.log2_lt hn).mpr h
theorem znY{i j:Int}(h:0 < j)(h2:j<=2^128):zh9 i j:=⟨h,Nat.lt_trans (zf7 (k:=129) (by decide) (by omega)) (by decide)⟩
theorem znZ{i j:Int}(h:j≠0)(h2:j.natAbs<=2^128):zib i j:=⟨h,Nat.lt_trans (zf7 (k:=129) (by decide) (by omega)) (by decide)⟩
def zrf(K:PySem.W.Frag):List V->Hp->VK->Prop:=fun xs H Q=>∃ x t T b,xs=[x,.ty T]/\TyOf K H x t/\PySem.W.kitOne K t (.type T)=some b/\Q (.bl b) H
theorem zlV:zbT X (.builtin "isinstance") (zrf X.K):=by
 intro pins s σ H xs us Q I r h
 obtain⟨x,t,T,b,rfl,ty,e,q⟩:=h
 obtain⟨u,u',rfl,rx,rt⟩:=zlG r
 cases rt
 exact zkJ I rx ty e fun tk=>⟨.bl b,H,I.tok tk,rfl,q⟩
end
theorem zhp{nt:Nat}{js:List Nat}{i:Nat}(h:i < nt):∀ σ:St,GW (c0 nt js σ) (zel i):=fun σ x H Q q=>⟨zrc (zjV h),q⟩
def SameBut(p:Addr)(H H':Hp):Prop:=∀ b o,b≠p->H b=some o->H' b=some o
theorem zaT{H:Hp}{p:Addr}(h:H p=none)(o:HO):zbg H (upd H p o):=fun b u q=>by rw [zz (zX q h)]; exact q
def Bl(mg:Str->Option Value)(xs:List Str):Prop:=∀ x,x∈xs->mg x=none
theorem Bl.nil{mg:Str->Option Value}:Bl mg []:=fun _ h=>by cases h
theorem Bl.cons{mg:Str->Option Value}{x:Str}{xs:List Str}(h:mg x=none)(t:Bl mg xs):Bl mg (x::xs):=fun y m=>by
 rcases List.mem_cons.mp m with e | e
 ·rw [e]; exact h
 ·exact t y e
def zac:Expr->Bool
 | .Starred _ _=>false
 | _=>true
theorem zb9{e:Expr}{es:List Expr}{env:Env}(h:zac e=true):starEach (e::es) env=(false,eval e env)::starEach es env:=by
 cases e<;>first | rfl | cases h
theorem zcn{pos:Pos}{env:Env}:∀ {es:List Expr},es.all zac=true->(backTo pos (starEach es env)).any (·.1)=false
 | [],_=>rfl
 | e::es,h=>by
  rw [List.all_cons,Bool.and_eq_true]at h
  rw [zb9 h.1]
  show(false || (backTo pos (starEach es env)).any (·.1))=false
  rw [Bool.false_or]
  exact zcn h.2
section
variable {X:Cx} {e:Expr} {es:List Expr} {te:TE} {t:TA} {r:List V->Hp->VK->Prop} {x:Str} {id T:String} {p pos:Pos}
theorem zvz(ha:PE X e te)(hr:PA X es t)(hs:zac e=true:=by rfl):PA X (e::es) (zcb te t):=znH ha hr (zb9 hs)
theorem ztF(hc:zbT X (.builtin id) r)(hg:Gl X x)(hm:X.mg x=none)(hv:bootBuiltins x=some (.builtin id))(ha:PA X (e::es) t)(hn:x ≠ "__name__":=by decide)(hdb:(x==("__debug__":Str))=false:=by decide)
  (he:zac e=true:=by rfl) (hpl:es.all zac=true:=by rfl):PE X (.Call (.Name x p) (e::es) [] pos) (tCB r t):=zlH hc hg hm hv ha hn hdb (zb9 he) (zcn hpl)
theorem ztG(hc:zbT X (.type T) r)(hg:Gl X x)(hm:X.mg x=none)(hv:bootBuiltins x=some (.type T))(ha:PA X (e::es) t)(hn:x ≠ "__name__":=by decide)(hdb:(x==("__debug__":Str))=false:=by decide)
  (he:zac e=true:=by rfl) (hpl:es.all zac=true:=by rfl):PE X (.Call (.Name x p) (e::es) [] pos) (tCB r t):=zkL hc hg hm hv ha hn hdb (zb9 he) (zcn hpl)
end
structure Cal (P:Program) (w:World) (K:PySem.W.Frag) (mg:Str->Option Value) (base:Heap) (x:Str) (k:Nat) (ps:List Str) (sp:Sp):Prop where
 ex:∃ (f:Addr) (fd:FuncData),FnOk P w K mg base CX0 k f fd ps sp/\zcX K fd ps []/\PySem.W.keepIn K (.ref f)=true/\mg x=some (.ref f)
def zn0(sp:Sp)(t:TA):TE:=fun σ H Q=>t σ H fun vs H1=>sp vs H1 Q E0
section
variable {X:Cx} {k:Nat} {ps:List Str} {sp:Sp} {x:Str} {p pos:Pos} {e:Expr} {es:List Expr} {t:TA}
theorem zrg(C:Cal X.prog X.w X.K X.mg X.base x k ps sp)(hr:Room k X.A)(hg:Gl X x)(ha:PA X (e::es) t)(hdb:(x==("__debug__":Str))=false:=by decide)
  (he:zac e=true:=by rfl) (hpl:es.all zac=true:=by rfl):PE X (.Call (.Name x p) (e::es) [] pos) (zn0 sp t):=by
 obtain⟨f,fd,F,hb,hk,hm⟩:=C.ex
 intro pins s σ H Q I h
 refine znJ (dvs:=[]) (E:=E0) F hr hg hm hk hb .nil zlQ ha hdb (zb9 he) (zcn hpl) pins s σ H Q I ?_
 show t σ H fun vs H1=>sp (vs++[]) H1 Q E0
 have z:(fun(vs:List V) (H1:Hp)=>sp (vs++[]) H1 Q E0)=fun vs H1=>sp vs H1 Q E0:=by
  funext vs H1
  rw [List.append_nil]
 rw [z]
 exact h
end
def zlW(t:TS):TS:=fun D σ H=>∃ J:St->Hp->Prop,t { D with nx:=J } σ H/\∀ σ' H',J σ' H'->D.nx σ' H'
theorem zn1{X:Cx}{st:Stmt}{t:TS}(h:PS X st t):PS X st (zlW t):=by
 intro pins s σ H D I ⟨J,q,z⟩
 refine thn (h pins s σ H _ I q) fun f s' r=>?_
 cases f with
 | next=>obtain⟨σ',H',I',j⟩:=r; exact⟨σ',H',I',z _ _ j⟩
 | brk=>exact r
 | cont=>exact r
 | ret u=>exact r
theorem zid(x y:Int)(hx:0<=x)(hy:0 < y):Int.gcd y (x % y)=Int.gcd x y:=by
 obtain⟨a,rfl⟩:=Int.eq_ofNat_of_zero_le hx
 obtain⟨b,rfl⟩:=Int.eq_ofNat_of_zero_le (Int.le_of_lt hy)
 rw [<-Int.natCast_emod]
 show Nat.gcd b (a % b)=Nat.gcd a b
 rw [Nat.gcd_comm a b,Nat.gcd_comm b (a % b)]
 exact(Nat.gcd_rec b a).symm
theorem zn2(x y:Int):Int.gcd (if x < 0 then -x else x) y=Int.gcd x y:=by
 split
 ·exact Int.neg_gcd
 ·rfl
structure Wr (p:Prop):Prop where
 run:p
section
variable {X:Cx} {pos p pos':Pos} {e a b c o:Expr} {es zbW:List Expr} {te ta tb:TE} {t:TA} {r:List V->Hp->VK->Prop} {rd:R2} {x:Str} {id T:String} {i j:Nat} {tA tB':TT} {st:Stmt} {sts body:List Stmt} {ts us:TS} {g:TG} {gs:TGs} {wi:TI} {tg:Expr}
theorem w_v(i:Nat)(hN:X.N[i]?=some x:=by rfl)(hv:Vis X.env.scope x:=by first | exact Or.inl rfl | exact Or.inr (Or.inl rfl) | exact Or.inr (Or.inr rfl))(hd:(x==("__debug__":Str))=false:=by decide)
  (hcd:(x==("__classdict__":Str))=false:=by decide):Wr (PE X (.Name x pos) (zgJ i)):=⟨pv i hN hv hd hcd⟩
theorem zi{n:Int}:Wr (PE X (.Constant (.int n) j pos) (tC (.int n))):=⟨zqp⟩
theorem zcY{n:Bool}:Wr (PE X (.Constant (.bool n) j pos) (tC (.bl n))):=⟨zts⟩
theorem zaZ:Wr (PE X (.Constant .none j pos) (tC .non)):=⟨zqq⟩
theorem zu{n:Str}:Wr (PE X (.Constant (.str n) j pos) (tC (.str n))):=⟨zqr⟩
theorem zco{v:V}{u:Value}(hg:Gl X x)(hm:X.mg x=none)(hv:bootBuiltins x=some u)(r:zaj v u)(hn:x ≠ "__name__":=by decide)(hd:(x==("__debug__":Str))=false:=by decide):Wr (PE X (.Name x pos) (tC v)):=⟨zns hg hm hv r hn hd⟩
theorem zY{op:Operator}(ho:OpR X (binaryOp op) rd)(ha:Wr (PE X a ta))(hb:Wr (PE X b tb)):Wr (PE X (.BinOp a op b pos) (tOp rd ta tb)):=⟨ztw ho ha.run hb.run⟩
theorem zfy{op:UnaryOp}{r:V->Hp->VK->Prop}(ho:UnR X (unaryOp op) r)(ha:Wr (PE X a ta)):Wr (PE X (.UnaryOp op a pos) (tUn r ta)):=⟨ztx ho ha.run⟩
theorem w_not(ha:Wr (PE X a ta)):Wr (PE X (.UnaryOp .Not a pos) (zlr ta)):=⟨zqA ha.run⟩
theorem zfn{op:CmpOp}(ho:OpR X (compareOp op) rd)(ha:Wr (PE X a ta))(hb:Wr (PE X b tb))(hm:behindInMarks op b=false):Wr (PE X (.Compare a [op] [b] pos) (tOp rd ta tb)):=⟨znD ho ha.run hb.run hm⟩
theorem zH{op:CmpOp}(ho:OpR X (compareOp op) rd)(ha:Wr (PE X a ta))(hb:Wr (PE X b tb))(hm:behindInMarks op b=false):Wr (PT X (.Compare a [op] [b] pos) (zh6 (tOp rd ta tb))):=⟨znE ho ha.run hb.run hm⟩
theorem zn3{op op':CmpOp}{rd':R2}{tc:TE}(ho:OpR X (compareOp op) rd)(ho':OpR X (compareOp op') rd')(ha:Wr (PE X a ta))(hb:Wr (PE X b tb))(hc:Wr (PE X c tc))(hm:lastMarks [op,op'] [b,c]=false:=by rfl) :
  Wr (PE X (.Compare a [op,op'] [b,c] pos) (zf1 rd rd' ta tb tc)):=⟨zlD ho ho' ha.run hb.run hc.run hm⟩
theorem zf8{op}(h:Wr (PE X a te)):Wr (PE X (.BoolOp op [a] pos) te):=⟨zqy h.run⟩
theorem zfo(ha:Wr (PE X a ta))(hb:Wr (PE X (.BoolOp .And (b::zbW) pos) tb)):Wr (PE X (.BoolOp .And (a::b::zbW) pos) (zlq ta tb)):=⟨zqz ha.run hb.run⟩
theorem zfL(ha:Wr (PT X a tA)):Wr (PW X (.BoolOp .And [a] pos) tA):=⟨znt ha.run⟩
theorem zbC(ha:Wr (PT X a tA)):Wr (PW X (.BoolOp .Or [a] pos) tA):=⟨zqv ha.run⟩
theorem zhq(ha:Wr (PT X a tA))(hb:Wr (PW X (.BoolOp .And (b::zbW) pos) tB')):Wr (PW X (.BoolOp .And (a::b::zbW) pos) (zqt tA tB')):=⟨zqw ha.run hb.run⟩
theorem zbU(ha:Wr (PT X a tA))(hb:Wr (PW X (.BoolOp .Or (b::zbW) pos) tB')):Wr (PW X (.BoolOp .Or (a::b::zbW) pos) (tOr tA tB')):=⟨ztt ha.run hb.run⟩
theorem zdc(h:Wr (PW X e tA)):Wr (PT X e tA):=⟨h.run.pt⟩
theorem za1(ha:Wr (PT X a tA)):Wr (PT X (.UnaryOp .Not a pos) (zqu tA)):=⟨zqx ha.run⟩
theorem zaI(h:Wr (PE X e te))(he:∀ whole,isTrue e X.env whole=(do let v <-whole; standAt e.pos; holding [v] (truthy v)):=by intro _; rfl):Wr (PT X e (tB te)):=⟨zqs h.run he⟩
def ztH(K:PySem.W.Frag)(ta:TE):TT:=fun σ H Q=>ta σ H fun x H'=>∃ k,zqV K x H' k/\Q k H'
theorem zlX(hc:Wr (PT X c tA))(ha:Wr (PE X a ta))(hb:Wr (PE X b tb)):Wr (PE X (.IfExp c a b pos) (tIf tA ta tb)):=⟨zls hc.run ha.run hb.run⟩
theorem zc:Wr (PA X [] zes):=⟨zqX⟩
theorem w_a(ha:Wr (PE X e te))(hr:Wr (PA X es t))(hs:zac e=true:=by rfl):Wr (PA X (e::es) (zcb te t)):=⟨zvz ha.run hr.run hs⟩
theorem zk{x1}(h:Wr (PA X es t)):Wr (PE X (.Tuple es x1 pos) (znI t)):=⟨zqZ h.run⟩
theorem zaL(h:Wr (PA X es t)):Wr (PE X (.List es pos) (zqY t)):=⟨zq0 h.run⟩
theorem zal(hc:zbT X (.builtin id) r)(hg:Gl X x)(hm:X.mg x=none)(hv:bootBuiltins x=some (.builtin id))(ha:Wr (PA X (e::es) t))(hn:x ≠ "__name__":=by decide)(hdb:(x==("__debug__":Str))=false:=by decide)
  (he:zac e=true:=by rfl) (hpl:es.all zac=true:=by rfl):Wr (PE X (.Call (.Name x p) (e::es) [] pos) (tCB r t)):=⟨ztF hc hg hm hv ha.run hn hdb he hpl⟩
theorem zhr(hc:zbT X (.type T) r)(hg:Gl X x)(hm:X.mg x=none)(hv:bootBuiltins x=some (.type T))(ha:Wr (PA X (e::es) t))(hn:x ≠ "__name__":=by decide)(hdb:(x==("__debug__":Str))=false:=by decide)
  (he:zac e=true:=by rfl) (hpl:es.all zac=true:=by rfl):Wr (PE X (.Call (.Name x p) (e::es) [] pos) (tCB r t)):=⟨ztG hc hg hm hv ha.run hn hdb he hpl⟩
theorem zD{k:Nat}{ps:List Str}{sp:Sp}(C:Cal X.prog X.w X.K X.mg X.base x k ps sp)(hr:Room k X.A)(hg:Gl X x)(ha:Wr (PA X (e::es) t))(hdb:(x==("__debug__":Str))=false:=by decide)
  (he:zac e=true:=by rfl) (hpl:es.all zac=true:=by rfl):Wr (PE X (.Call (.Name x p) (e::es) [] pos) (zn0 sp t)):=⟨zrg C hr hg ha.run hdb he hpl⟩
theorem zag(hr:IxR X rd)(ha:Wr (PE X a ta))(hb:Wr (PE X b tb))(hs:zjT b):Wr (PE X (.Subscript a b pos) (tOp rd ta tb)):=⟨ztz hr ha.run hb.run hs⟩
theorem zeF:Wr (PO X none zhi):=⟨znL⟩
theorem zcQ(h:Wr (PE X e te)):Wr (PO X (some e) (zlJ te)):=⟨znM h.run⟩
theorem zdI{r:V->Option Int->Option Int->Hp->VK->Prop}{lo hi:Option Expr}{tl th:TO}{p2:Pos}(hr:SlR X r)(he:Wr (PE X e te))(hl:Wr (PO X lo tl))(hu:Wr (PO X hi th)):Wr (PE X (.Subscript e (.Slice lo hi none p2) pos) (tSl r te tl th)):=⟨zlK hr he.run hl.run hu.run⟩
theorem zdt{ta:TA}(hg:Gl X "range")(hm:X.mg "range"=none)(ha:Wr (PA X [a] ta))(hs:zac a=true:=by rfl):Wr (PI X tg (.Call (.Name "range" p) [a] [] pos) (zlA ta)):=⟨zkE hg hm ha.run (zb9 hs)⟩
theorem zlY{ta:TA}(hg:Gl X "range")(hm:X.mg "range"=none)(ha:Wr (PA X [a,b] ta))(hs:zac a=true:=by rfl)(hs2:zac b=true:=by rfl):Wr (PI X tg (.Call (.Name "range" p) [a,b] [] pos) (zlB ta)) :=
 ⟨zkF hg hm ha.run ((zb9 hs).trans (by rw [zb9 hs2]; rfl)) (zb9 hs2)⟩
theorem zap(hN:X.N.Nodup)(hi:X.N[i]?=some x)(hx:Loc X.env.scope x)(hf:X.fn x=true\/X.env.scope.names.lookup x=some .local:=by first | exact .inl rfl | exact .inr rfl | assumption):Wr (PG X (.Name x pos) (zel i)):=⟨zny hN hi hx hf⟩
theorem ze4:Wr (PGs X [] zqF):=⟨znz⟩
theorem w_g(h1:Wr (PG X e g))(h2:Wr (PGs X es gs))(hs:(assignEach (e::es) X.env).map (·.2)=assign e X.env::(assignEach es X.env).map (·.2):=by rfl):Wr (PGs X (e::es) (zlw g gs)):=⟨zlx h1.run h2.run hs⟩
theorem zi6{ti:TE}{tset:znx}(ho:Wr (PE X o ta))(hi:Wr (PE X e ti))(hs:zqE X tset)
  (hh:∀ v,assign (.Subscript o e pos) X.env v=(do
   let ov <-holding [v] (eval o X.env)
   let iv <-holding [v,ov] (eval e X.env)
   standAt pos
   holding [v,ov,iv] (setItem ov iv v)
   release [v,ov,iv] []):=by intro _; rfl):Wr (PG X (.Subscript o e pos) (zqI ta ti tset)):=⟨zqJ ho.run hi.run hs hh⟩
theorem zlZ:Wr (zh8 X [] zrd):=⟨zlT⟩
theorem zrh(h:Wr (PT X c tA)):Wr (zh8 X [c] tA):=⟨zlU h.run⟩
theorem zvA{elt iter:Expr}{ifs:List Expr}{scope:Scope}{cl:List (Str×Addr)}{xs:List Str}{js:List Nat}{tt:TT}(nt:Nat)(ns:List Str)(hts:ns.length=nt)(hc:X.calm=true)(S:ScC scope xs)(f:Frees X cl xs js)(hclos:closureFor scope X.env=pure cl)
  (hi:Wr (PI X tg iter wi)) (hg:∀ C s H ex,Wr (PG (zaO X scope cl (ns++xs) C s H ex) tg g)) (gw:∀ σ:St,GW (c0 nt js σ) g) (ht:∀ C s H ex,Wr (zh8 (zaO X scope cl (ns++xs) C s H ex) ifs tt))
  (he:∀ C s H ex,Wr (PE (zaO X scope cl (ns++xs) C s H ex) elt te)) (hs:∀ x,foldedSetIterable iter X.env x=pure x:=by intro _; rfl) :
  Wr (PE X (.ListComp elt [⟨tg,iter,ifs,0⟩] scope pos) (tLC wi nt js g tt te)):=⟨ztE nt ns hts hc S f hclos hi.run (fun C s H ex=>(hg C s H ex).run) gw (fun C s H ex=>(ht C s H ex).run) (fun C s H ex=>(he C s H ex).run) hs⟩
def ztI(K:PySem.W.Frag):List V->Hp->VK->Prop:=fun xs H Q=>∃ p ys,xs=[.ref p]/\(SqL K H p ys\/SqT K H p ys)/\Q (.int ys.length) H
def zjW(K:PySem.W.Frag):List V->Hp->VK->Prop:=fun xs H Q=>∃ p ys,xs=[.ref p]/\(SqL K H p ys\/SqT K H p ys)/\∀ l,H l=none->Q (.ref l) (upd H l (.lst ys))
def zie(K:PySem.W.Frag):List V->Hp->VK->Prop:=fun xs H Q=>∃ p ys,xs=[.ref p]/\((SqL K H p ys/\∀ l,H l=none->Q (.ref l) (upd H l (.tup ys)))\/(SqT K H p ys/\Q (.ref p) H))
theorem zdu(K:PySem.W.Frag)(hK:X.K=K):zbT X (.builtin "isinstance") (zrf K):=hK▸zlV
theorem zaq(K:PySem.W.Frag)(hK:X.K=K):zbT X (.builtin "len") (ztI K):=hK▸zhm
theorem zl0(K:PySem.W.Frag)(hK:X.K=K):zbT X (.type "list") (zjW K):=hK▸zho
theorem zeb(K:PySem.W.Frag)(hK:X.K=K):zbT X (.type "tuple") (zie K):=hK▸zgM
theorem zak(K:PySem.W.Frag)(hK:X.K=K):IxR X (zq5 K):=hK▸znP
theorem zbF(K:PySem.W.Frag)(hK:X.K=K):IxR X (zq6 K):=hK▸zq7
theorem ztJ(K:PySem.W.Frag)(hK:X.K=K):OpR X (compareOp .In) (rIn K false):=hK▸zg1
theorem zn4(K:PySem.W.Frag)(hK:X.K=K):OpR X (compareOp .NotIn) (rIn K true):=hK▸zhl
theorem zjX(K:PySem.W.Frag)(hK:X.K=K):SlR X (zq8 K):=hK▸znQ
theorem zl1{l:Expr}{tl:TE}(K:PySem.W.Frag)(hK:X.K=K)(hl:Wr (PE X l tl)):Wr (PI X tg l (zqO K tl)):=hK▸⟨zqP hl.run⟩
theorem ze5{k n:Nat}(K:PySem.W.Frag)(hK:X.K=K)(hc:X.calm=true)(h:Wr (PGs X es gs))(hn:(assignEach es X.env).length=n:=by rfl)(hst:(assignEach es X.env).findIdx? (·.1)=none:=by rfl):Wr (PG X (.Tuple es k pos) (zqG K n gs)):=hK▸⟨zqH hc h.run hn hst⟩
theorem ztK(K:PySem.W.Frag)(hK:X.K=K)(ha:Wr (PE X a ta))(he:∀ whole,isTrue a X.env whole=(do let v <-whole; standAt a.pos; holding [v] (truthy v)):=by intro _; rfl):Wr (PT X a (ztH K ta)):=hK▸⟨zlF ha.run he⟩
theorem zQ:Wr (PSs X [] zlt):=⟨znu⟩
theorem w_s(h1:Wr (PS X st ts))(h2:Wr (PSs X sts us)):Wr (PSs X (st::sts) (zqB ts us)):=⟨zlu h1.run h2.run⟩
theorem zL(h1:Wr (PS X st ts)):Wr (PSs X [st] ts):=⟨zjK h1.run⟩
theorem zi7:Wr (PS X (.Continue pos) zlv):=⟨zh3⟩
theorem zbY(he:Wr (PE X e te))(hs:swapsWith e none pos.line X.env=pure false:=by rfl):Wr (PS X (.Expr e pos) (zh4 te)):=⟨znv he.run hs⟩
theorem zN(he:Wr (PE X e te)):Wr (PS X (.Return (some e) pos) (znw te)):=⟨zqC he.run⟩
theorem zaP{sa sb:List Stmt}(hc:Wr (PT X c tA))(ha:Wr (PSs X sa ts))(hb:Wr (PSs X sb us)):Wr (PS X (.If c sa sb pos) (zqD tA ts us)):=⟨ztu hc.run ha.run hb.run⟩
theorem zhs(h:Wr (PS X st ts)):Wr (PS X st (zlW ts)):=⟨zn1 h.run⟩
theorem zjY(hp:PassesOwn (model X.prog X.w) X.A X.env X.xe)(hc:Wr (PT X c tA))(hb:Wr (PSs X body ts)):Wr (PS X (.While c body [] pos) (ziW tA ts)):=⟨zly hp hc.run hb.run⟩
theorem zeG{iter:Expr}(hp:PassesOwn (model X.prog X.w) X.A X.env X.xe)(hc:X.calm=true)(hi:Wr (PI X tg iter wi))(hg:Wr (PG X tg g))(hb:Wr (PSs X body ts))(hs:∀ x,foldedSetIterable iter X.env x=pure x:=by intro _; rfl) :
  Wr (PS X (.For tg iter body [] pos) (znA wi g ts)):=⟨zqQ hp hc hi.run hg.run hb.run hs⟩
theorem zJ(hN:X.N.Nodup)(hi:X.N[i]?=some x)(hx:Loc X.env.scope x)(he:Wr (PE X e te))(hs:swapsWith e (some (.Name x pos')) pos.line X.env=pure false:=by rfl)(hf:X.fn x=true\/X.env.scope.names.lookup x=some .local:=by first | exact .inl rfl | exact .inr rfl | assumption) :
  Wr (PS X (.Assign [.Name x pos'] e pos) (zgK te (zel i))):=⟨zqL hN hi hx he.run hs hf⟩
theorem zf9(he:Wr (PE X e te))(hg:Wr (PG X tg g))(hs:swapsWithSole [tg] e pos.line X.env=pure false:=by rfl)(hw:swappedStores [tg] e X.env=pure none:=by rfl)(h1:(assignEach [tg] X.env).map (·.2)=[assign tg X.env]:=by rfl) :
  Wr (PS X (.Assign [tg] e pos) (zgK te g)):=⟨zqK he.run hg.run hs hw h1⟩
theorem zpS{x y:Str}{ta:TA}{px py pt:Pos}{kt k2 pt2}(hc:X.calm=true)(hN:X.N.Nodup)(hi:X.N[i]?=some x)(hj:X.N[j]?=some y)(hij:i≠j)
  (hx:X.env.scope.names.lookup x=some .local) (hy:X.env.scope.names.lookup y=some .local) (ha:Wr (PA X [a,b] ta))
  (hw:swappedStores [.Tuple [.Name x px,.Name y py] kt pt] (.Tuple [a,b] k2 pt2) X.env=pure (some [x,y]))
  (hs:swapsWithSole [.Tuple [.Name x px,.Name y py] kt pt] (.Tuple [a,b] k2 pt2) pos.line X.env=pure false:=by rfl) :
  Wr (PS X (.Assign [.Tuple [.Name x px,.Name y py] kt pt] (.Tuple [a,b] k2 pt2) pos) (zqM i j ta)):=⟨zqN hc hN hi hj hij hx hy ha.run hw hs⟩
end
theorem Fun.okW{P:Program}{w:World}{K:PySem.W.Frag}{mg:Str->Option Value}{base:Heap}{x qual:Str}{st:Stmt}{f:Addr}{fd:FuncData}{N ps:List Str}{k:Nat}{sp:Sp}(F:Fun K x qual st f fd)(S:FnScope N ps (zo st))(len:∀ vs H Q E,sp vs H Q E->vs.length=ps.length)
  (hbody:∀ (cdv:Value) (A:Around) (outer:List Env) (s:Shared) (H:Hp) (vs:List V) (Q:VK) (E:XK),Room k (A.deeper (envOfC qual (zo st) s.heap.objs.size f cdv))->sp vs H Q E ->
   ∃ t,Wr (PSs (zfv CX0 P w K mg base N qual (zo st) f cdv A outer s H E).nox (zK st) t)/\t { nx:=fun _ H'=>Q .non H',rt:=Q } (za9 N vs) H):FnOk P w K mg base CX0 (k+1) f fd ps sp :=
 F.ok S len fun cdv A outer s H vs Q E hr h=>let ⟨t,w,q⟩:=hbody cdv A outer s H vs Q E hr h; ⟨t,w.run,q⟩
mutual
inductive DV (K:PySem.W.Frag) (H:Hp):V->PyData->Prop
 | non:DV K H .non .none
 | bl (b:Bool):DV K H (.bl b) (.bool b)
 | int (i:Int):DV K H (.int i) (.int i)
 | str (x:Str):DV K H (.str x) (.str x)
 | lst {a:Addr} {xs:List V} {ds:List PyData} (h:SqL K H a xs) (t:DVs K H xs ds):DV K H (.ref a) (.list ds)
 | tup {a:Addr} {xs:List V} {ds:List PyData} (h:SqT K H a xs) (t:DVs K H xs ds):DV K H (.ref a) (.tuple ds)
inductive DVs (K:PySem.W.Frag) (H:Hp):List V->List PyData->Prop
 | nil:DVs K H [] []
 | cons {v:V} {d:PyData} {vs:List V} {ds:List PyData} (h:DV K H v d) (t:DVs K H vs ds):DVs K H (v::vs) (d::ds)
end
theorem zbg.seqT{K:PySem.W.Frag}{H H':Hp}{a:Addr}{xs:List V}(e:zbg H H')(h:SqT K H a xs):SqT K H' a xs:=by
 rcases h with (h | ⟨o,h⟩) | h
 ·exact .inl (.inl (e _ _ h))
 ·exact .inl (.inr ⟨o,e _ _ h⟩)
 ·exact .inr h
mutual
theorem DV.same{K:PySem.W.Frag}{H H':Hp}(e:zbg H H'):∀ {v:V} {d:PyData},DV K H v d->DV K H' v d
 | _,_,.non=>.non
 | _,_,.bl b=>.bl b
 | _,_,.int i=>.int i
 | _,_,.str x=>.str x
 | _,_,.lst h t=>.lst (e.seq h) (DVs.same e t)
 | _,_,.tup h t=>.tup (e.seqT h) (DVs.same e t)
theorem DVs.same{K:PySem.W.Frag}{H H':Hp}(e:zbg H H'):∀ {v:List V} {d:List PyData},DVs K H v d->DVs K H' v d
 | _,_,.nil=>.nil
 | _,_,.cons h t=>.cons (DV.same e h) (DVs.same e t)
end
section
variable {X:Cx} {pins:List (Addr×Obj)} {σ:St} {H:Hp} {s:Shared}
mutual
theorem DV.reads(I:Inv X pins σ H s):∀ {v:V} {d:PyData} {u:Value},DV X.K H v d->zaj v u->∃ as,Reads s.heap u d as
 | _,_,_,.non,r=>by cases r; exact⟨_,.none⟩
 | _,_,_,.bl b,r=>by cases r; exact⟨_,.bool b⟩
 | _,_,_,.int i,r=>by obtain⟨t,rfl⟩:=r; exact⟨_,.int i t⟩
 | _,_,_,.str x,r=>by obtain⟨t,rfl⟩:=r; exact⟨_,.str x t⟩
 | _,_,_,.lst h t,r=>by
  cases r
  obtain⟨its,rv,⟨o,n,e1,e2,e3,e4⟩,hz⟩:=I.list h
  obtain⟨as,q⟩:=DVs.reads I t rv
  exact⟨_,.list e1 e2 e4 q⟩
 | _,_,_,.tup h t,r=>by
  cases r
  obtain⟨its,rv,⟨o,e1,e2,n,e4⟩,hz⟩:=I.tuple h
  obtain⟨as,q⟩:=DVs.reads I t rv
  exact⟨_,.tuple e1 e2 e4 q⟩
theorem DVs.reads(I:Inv X pins σ H s):∀ {v:List V} {d:List PyData} {u:List Value},DVs X.K H v d->zM v u->∃ as,ReadsAll s.heap u d as
 | _,_,_,.nil,r=>by cases r; exact⟨_,.nil⟩
 | _,_,_,.cons h t,r=>by
  cases r with
  | cons r1 r2 =>
   obtain⟨a1,q1⟩:=DV.reads I h r1
   obtain⟨a2,q2⟩:=DVs.reads I t r2
   exact⟨_,.cons q1 q2⟩
end
end
section
variable {X:Cx} {pos p pos':Pos} {e a b c o:Expr} {es zbW:List Expr} {te ta tb:TE} {t:TA} {r:List V->Hp->VK->Prop} {rd:R2} {x:Str} {id T:String} {i j:Nat} {tA tB':TT} {st:Stmt} {sts body:List Stmt} {ts us:TS} {g:TG} {gs:TGs} {wi:TI} {tg:Expr}
theorem zpT{y:Str}{py spos:Pos}{elt iter:Expr}{ifs:List Expr}{scope:Scope}{cl:List (Str×Addr)}{xs:List Str}{js:List Nat}{tt:TT}(hN:X.N.Nodup)(hi':X.N[i]?=some y)(hy:Loc X.env.scope y)
  (nt:Nat) (ns:List Str) (hts:ns.length=nt) (hc:X.calm=true) (S:ScC scope xs) (f:Frees X cl xs js) (hclos:closureFor scope X.env=pure cl)
  (hi:Wr (PI X tg iter wi)) (hg:∀ C s H ex,Wr (PG (zaO X scope cl (ns++xs) C s H ex) tg g)) (gw:∀ σ:St,GW (c0 nt js σ) g) (ht:∀ C s H ex,Wr (zh8 (zaO X scope cl (ns++xs) C s H ex) ifs tt))
  (he:∀ C s H ex,Wr (PE (zaO X scope cl (ns++xs) C s H ex) elt te)) (hs:∀ x,foldedSetIterable iter X.env x=pure x:=by intro _; rfl)
  (hsw:swapsWith (.ListComp elt [⟨tg,iter,ifs,0⟩] scope pos) (some (.Name y py)) spos.line X.env=pure true:=by rfl)
  (hf:X.fn y=true\/X.env.scope.names.lookup y=some .local:=by first | exact .inl rfl | exact .inr rfl | assumption) :
  Wr (PS X (.Assign [.Name y py] (.ListComp elt [⟨tg,iter,ifs,0⟩] scope pos) spos) (zgK (tLC wi nt js g tt te) (zel i))):=by
 refine⟨?_⟩
 intro pins s σ H D I h
 rw [exec_Assign_Name_used _ _ _ _ hsw]
 refine wpAny_bind (wpAny_standAt (wpAny_bind ?_))
 show wpAny _ X.A (do let _ <-comprehension (.ListComp elt [⟨tg,iter,ifs,0⟩] scope pos) scope X.env _ (newList []) false (eval iter X.env) (some (assign (.Name y py) X.env))) _ _ s
 refine wpAny_bind (wpAny_mono (wpAny_comprehension_free (use:=some (assign (.Name y py) X.env)) (Q:=fun _ s'=>SP X pins D .next s') rfl hs hclos S.kind S.names
  (thn (hi.run pins s σ H _ I h) fun v s1 h1=>thn h1 fun itv s2 h2=>?_)) (fun _ s' hq=>wpAny_pure (wpAny_pure hq)) fun _ _ e=>e)
 obtain⟨it,fp,tn,J,H2,e,I2,T,st2,f2,q⟩:=h2
 subst e
 refine zf6 (RR:=fun acc C=>compPost (model X.prog X.w) X.A X.xe (some (assign (.Name y py) X.env)) (fun _ s'=>SP X pins D .next s') acc C) hc I2 S f hts T st2 f2 (fun C s H ex=>(hg C s H ex).run) (fun C s H ex=>(ht C s H ex).run) (fun C s H ex=>(he C s H ex).run) (gw σ) q ?_
 intro D' C m s' ys H' z hD I' hn hCn hCL hCc hCs hCp
 show wpAny _ _ (assign (.Name y py) X.env (.ref D')) _ _ _
 refine wpAny_assign_Name (zgX (v:=.ref D') I' hN hi' hy rfl (fun s'' I'' ⟨a,sb,ha⟩=>?_) hf)
 have ne:C≠a:=by
  rcases ha with rfl | ha
  ·exact hCL
  ·exact(hCc _ _ ha).symm
 exact⟨m,hn.sameBut sb ne,fun h' hs'=>⟨_,_,I''.turned (it:=C) (fun b o hb e=>hs'.extBut b o hb e) hCn hCL (.inr hCs) hCc hCp,z D' hD⟩⟩
theorem zdW{name:Str}{r:V->List V->Hp->VK->Prop}{apos cpos:Pos}(K:PySem.W.Frag)(hK:X.K=K)(pa:PlainAttrs T)(slot:Slot T name id)(hty:typeOf (.builtin id)=pure (.type "method_descriptor"))(hm:MtM X id r)(ho:Wr (PE X o te))(ha:Wr (PA X (e::es) t))
  (hbase:attributeBase o name X.env (eval o X.env)=eval o X.env:=by rfl)
  (hfew:((backTo cpos (starEach (e::es) X.env)).all (fun x=>!x.1) && (backToKw cpos (keywordEach [] X.env)).all (fun x=>x.1.isSome)
   && decide ((e::es).length+([]:List Keyword).length+(if([]:List Keyword).isEmpty then 0 else 1) < 30))=true:=by rfl)
  (hline:(apos.endLine==cpos.line)=true:=by rfl) (hs:zac e=true:=by rfl) (hpl:es.all zac=true:=by rfl) :
  Wr (PE X (.Call (.Attribute o name apos) (e::es) [] cpos) (tBM K T r te t)):=hK▸⟨ztB pa slot hty hm ho.run ha.run hbase hfew hline (zb9 hs) (zcn hpl)⟩
theorem zl2{name:Str}{r:V->List V->Hp->VK->Prop}{apos cpos:Pos}(K:PySem.W.Frag)(hK:X.K=K)(pa:PlainAttrs T)(slot:Slot T name id)(hty:typeOf (.builtin id)=pure (.type "method_descriptor"))(hm:MtM X id r)(ho:Wr (PE X o te))
  (hbase:attributeBase o name X.env (eval o X.env)=eval o X.env:=by rfl) (hline:(apos.endLine==cpos.line)=true:=by rfl) :
  Wr (PE X (.Call (.Attribute o name apos) [] [] cpos) (zra K T r te)):=hK▸⟨zrb pa slot hty hm ho.run hbase hline⟩
theorem zht{v:V}{u:Value}(hg:Gl X x)(hm:X.mg x=some u)(r:zaj v u)(hd:(x==("__debug__":Str))=false:=by decide):Wr (PE X (.Name x pos) (tC v)):=⟨zjJ hg hm r hd⟩
theorem zjZ:∀ {ys:List Str} {us:List Value},zM (ys.map V.str) us->StrsAre us ys
 | [],_,r=>by cases r; exact .nil
 | y::ys,_,r=>by
  cases r with
  | cons r1 r2 =>
   obtain⟨t,rfl⟩:=r1
   exact .cons y t (zjZ r2)
def zpU(K:PySem.W.Frag):V->List V->Hp->VK->Prop:=fun x vs H Q=>∃ sep a ys,x=.str sep/\vs=[.ref a]/\SqL K H a (ys.map V.str)/\(ys.map (·.length)).sum+ys.length * sep.length<=16777216/\Q (.str (Txt.join sep ys)) H
theorem zj0(K:PySem.W.Frag)(hK:X.K=K):MtM X "str.join" (zpU K):=by
 intro pins s σ H x vs v us Q I rx rv h
 obtain⟨sep,a,ys,rfl,rfl,hS,hz,q⟩:=h
 obtain⟨t,rfl⟩:=rx
 obtain⟨u,rfl,ru⟩:=rv.one
 cases ru
 subst hK
 obtain⟨its,r,pl,_⟩:=I.list hS
 exact join_list pl.isList (by simpa using zjZ r) hz fun t' k=>⟨.str _,H,I.tok _,⟨_,rfl⟩,q⟩
def zhu(x:Str)(n:Int):Str:=if n < 1 then Str.empty else if(n==1 || x.length==0)=true then x else⟨(List.replicate n.toNat x.cps).foldl (·++·) #[]⟩
theorem zi8:OpR X (binaryOp .Mult) (fun x y H Q=>∃ z n,x=.str z/\y=.int n/\0<=n/\n<=1/\Q (.str (zhu z n)) H):=by
 intro pins s σ H x y v u Q I rx ry h
 obtain⟨z,n,rfl,rfl,h0,h1,q⟩:=h
 obtain⟨t,rfl⟩:=rx
 obtain⟨t',rfl⟩:=ry
 rcases(by omega:n=0\/n=1)with rfl | rfl
 ·exact PySem.P.mul_str_none (by decide) (by decide) ⟨.str _,H,I.tok _,⟨_,rfl⟩,q⟩
 ·refine PySem.P.mul_str (by decide) (fun _ z=>by simp at z) (fun _ z=>by simp at z) ?_
  rw [if_neg (by decide),if_pos (by rfl)]
  exact⟨.str _,H,I,⟨_,rfl⟩,q⟩
end
structure Kp (H H':Hp):Prop where
 tup:∀ b xs,H b=some (.tup xs)->H' b=some (.tup xs)
 frz:∀ b o u,H b=some (.frz o u)->H' b=some (.frz o u)
theorem Kp.refl(H:Hp):Kp H H:=⟨fun _ _ h=>h,fun _ _ _ h=>h⟩
theorem Kp.trans{H H1 H2:Hp}(a:Kp H H1)(b:Kp H1 H2):Kp H H2:=⟨fun x y h=>b.tup x y (a.tup x y h),fun x y z h=>b.frz x y z (a.frz x y z h)⟩
theorem zbg.kp{H H':Hp}(s:zbg H H'):Kp H H':=⟨fun _ _ h=>s _ _ h,fun _ _ _ h=>s _ _ h⟩
theorem SameBut.new{H H1:Hp}{p L:Addr}(s:SameBut p H H1)(hn:H L=none)(o:HO):SameBut p H (L2.upd H1 L o):=fun b u n h=>by
 rw [zz (zX h hn)]
 exact s b u n h
theorem zbg.new{H H1:Hp}{L:Addr}(s:zbg H H1)(hn:H L=none)(o:HO):zbg H (L2.upd H1 L o):=fun b u h=>by
 rw [zz (zX h hn)]
 exact s b u h
end L2
namespace HT
open PySem PyProof.Rows
open PySem.SeqAt
open PySem.MeetsSeq PySem.MeetsSeq2 PySem.MeetsSeq3
section
variable {prog:Program} {w:World} {A:Around} {E:Value->Shared->Prop} {s:Shared}
theorem getItem_tuple_all{t sl:Addr}{items:Array Value}{vl vu:Value}{lo hi:Option Int}{Q:Value->Shared->Prop}(ht:IsTup s.heap t items)(hs:s.heap.IsSliceOf sl vl vu .none)(pl:IsPart vl lo)(pu:IsPart vu hi)
  (hw:sIx items.size 0 lo=0/\sIx items.size items.size hi=items.size) (h:Q (.ref t) s):wpAny (model prog w) A (getItem (.ref t) (.ref sl)) Q E s:=by
 obtain⟨os,hos,hcs,hds⟩:=id hs
 have hTs:s.TypeIs (.ref sl) "slice":=⟨os,hos,hcs⟩
 unfold getItem
 try with_reducible refine wpAny_holding ?_
 first | refine wpAny_bind (wpAny_pure ?_) | skip
 refine wpAny_bind (wpAny_sequenceKey ht.typeIs (by decide) ?_)
 refine wpAny_bind (wpAny_callSpecial?_slot (name:=Str.ofString "__getitem__") ht.typeIs PyProof.Rows.slot_tuple_getitem
  (wpAny_call_entry PyProof.Rows.slot_tuple_getitem ht.typeIs entry_tuple_getitem ?_ (args_tuple_getitem _ _)))
 show wpAny _ _ (Builtin.Tuple.tupleItemsOf (.ref t) >>= _) _ _ s
 refine wpAny_bind (tupleItemsOf_ ht ?_)
 refine wpAny_bind (wpAny_typeOf hTs ?_)
 rw [if_pos (by decide)]
 refine wpAny_bind (zds hs pl pu ?_)
 have hyes:(((sIx items.size 0 lo:Nat):Int)==0 && (1:Int)==1 && (sIx items.size items.size hi - sIx items.size 0 lo)==items.size)=true:=by
  rw [hw.1,hw.2]
  simp
 show wpAny _ _ (if(((sIx items.size 0 lo:Nat):Int)==0 && (1:Int)==1 && (sIx items.size items.size hi - sIx items.size 0 lo)==items.size)=true then _ else _) _ _ s
 rw [if_pos hyes]
 refine wpAny_bind (m:=Builtin.Tuple.tupleIsExact _) (wpAny_bind (wpAny_typeOf ht.typeIs (wpAny_pure ?_)))
 rw [if_pos (by decide)]
 exact wpAny_bind (wpAny_rule (wpAny_pure ⟨_,rfl,wpAny_pure h⟩))
end
end HT
namespace L2
open PySem PySem.Spec PyProof.Rows
section
variable {X:Cx}
end
section
variable {X:Cx} {tg:Expr}
end
section
variable {X:Cx}
end
section
variable {X:Cx}
theorem zM.at:∀ {xs:List V} {us:List Value} {i:Nat} {u:Value},zM xs us->us[i]?=some u->∃ x,xs[i]?=some x/\zaj x u
 | _,_,0,_,.cons r _,e=>by
  cases(show some _=some _ from e)
  exact⟨_,rfl,r⟩
 | _,_,i+1,_,.cons _ t,e=>zM.at (i:=i) t e
 | _,_,0,_,.nil,e=>by cases e
 | _,_,_+1,_,.nil,e=>by cases e
theorem zl3{pins:List (Addr×Obj)}{σ:St}{H:Hp}{s:Shared}{p:Addr}{xs:List V}{A:Around}{E:Value->Shared->Prop}{Q:Value->Shared->Prop}(I:Inv X pins σ H s)(hh:A.handled=none)(hq:SqL X.K H p xs\/SqT X.K H p xs)
  (h:∀ (it:Addr) (fp wr:List Addr) (n:Nat) (P:Nat->Value->Prop) (St:Nat->Heap->Prop) (s2:Shared),Walks X.prog X.w A it fp wr n P St->St 0 s2.heap->(∀ b∈fp,b < s2.heap.objs.size)->n=xs.length->(∀ i v,P i v->∃ x,xs[i]?=some x/\zaj x v) ->
   (∀ h' tk,(∀ b o,b∉wr->s2.heap.get? b=some o->h'.get? b=some o)->Inv X pins σ H { s2 with heap:=h',toks:=tk })->Q (.ref it) s2) :
  wpAny (model X.prog X.w) A (pyIter (.ref p)) Q E s:=by
 rcases hq with hq | hq
 ·obtain⟨its,r,pl,hz⟩:=I.list hq
  have hp:p < s.heap.objs.size:=by
   obtain⟨o,n,e,_⟩:=pl
   exact Heap.lt_size e
  have ne:p≠s.heap.objs.size:=Nat.ne_of_lt hp
  refine wpAny_pyIter_list pl.isList (h s.heap.objs.size [s.heap.objs.size,p] [s.heap.objs.size] its.toArray.size _ _ _ (Walks.list hh _ p ne its.toArray) ⟨⟨_,Heap.get?_push_size _ rfl,rfl,rfl⟩,?_⟩ (fun b hb=>?_) (by rw [List.size_toArray]; exact r.length.symm) (fun i v e=>zM.at r (by simpa using e)) fun h' tk hk=>?_)
  ·obtain⟨o,n,e,c,d,f⟩:=pl
   exact⟨o,Heap.get?_push_of_some _ e,c,n,f⟩
  ·rw [Heap.size_push]
   rcases List.mem_cons.mp hb with z | z
   ·rw [z]; exact Nat.lt_succ_self _
   ·rw [List.mem_singleton.mp z]; exact Nat.lt_succ_of_lt hp
  ·exact I.kept fun b u e=>hk b u (fun z=>absurd (Heap.lt_size e) (by rw [List.mem_singleton.mp z]; exact Nat.lt_irrefl _)) (Heap.get?_push_of_some _ e)
 ·obtain⟨its,r,pl,hz⟩:=I.tuple hq
  have hp:p < s.heap.objs.size:=by
   obtain⟨o,e,_⟩:=pl
   exact Heap.lt_size e
  have ne:p≠s.heap.objs.size:=Nat.ne_of_lt hp
  refine wpAny_pyIter_tuple (show s.heap.IsTuple p its.toArray from pl) (h s.heap.objs.size [s.heap.objs.size,p] [s.heap.objs.size] its.toArray.size _ _ _ (Walks.tuple hh _ p ne its.toArray) ⟨⟨_,Heap.get?_push_size _ rfl,rfl,rfl⟩,?_⟩ (fun b hb=>?_) (by rw [List.size_toArray]; exact r.length.symm) (fun i v e=>zM.at r (by simpa using e)) fun h' tk hk=>?_)
  ·obtain⟨o,e,c,n,f⟩:=pl
   exact⟨o,Heap.get?_push_of_some _ e,c,n,f⟩
  ·rw [Heap.size_push]
   rcases List.mem_cons.mp hb with z | z
   ·rw [z]; exact Nat.lt_succ_self _
   ·rw [List.mem_singleton.mp z]; exact Nat.lt_succ_of_lt hp
  ·exact I.kept fun b u e=>hk b u (fun z=>absurd (Heap.lt_size e) (by rw [List.mem_singleton.mp z]; exact Nat.lt_irrefl _)) (Heap.get?_push_of_some _ e)
theorem zkP(bs:List Bool):(List.range bs.length).all (fun i=>bs.getD i false)=bs.all id:=by
 rw [Bool.eq_iff_iff,List.all_eq_true,List.all_eq_true]
 constructor
 ·intro h b hb
  obtain⟨i,hi,e⟩:=List.getElem_of_mem hb
  have:=h i (List.mem_range.mpr hi)
  rw [List.getD_eq_getElem?_getD,List.getElem?_eq_getElem hi,e]at this
  exact this
 ·intro h i hi
  have hi':=List.mem_range.mp hi
  rw [List.getD_eq_getElem?_getD,List.getElem?_eq_getElem hi']
  exact h _ (List.getElem_mem hi')
def ztL(K:PySem.W.Frag):List V->Hp->VK->Prop:=fun xs H Q=>∃ (p:Addr) (bs:List Bool),xs=[.ref p]/\(SqL K H p (bs.map V.bl)\/SqT K H p (bs.map V.bl))/\Q (.bl (bs.all id)) H
theorem ztM(K:PySem.W.Frag)(hK:X.K=K)(hc:X.calm=true):zbT X (.builtin "all") (ztL K):=by
 subst hK
 intro pins s σ H xs us Q I r h
 obtain⟨p,bs,rfl,hq,q⟩:=h
 obtain⟨u,rfl,ru⟩:=zdU r
 cases ru
 refine call_all_walk (zl3 I (I.ok.hd hc) hq fun it fp wr n P St s2 W st hfp hn hP hI=>⟨it,fp,wr,n,P,St,fun i=>bs.getD i false,rfl,W,st,?_,fun h' tk hk=>?_⟩)
 ·intro i v s' Q' E' hv hQ'
  obtain⟨x,ex,rx⟩:=hP i v hv
  rw [List.getElem?_map]at ex
  cases eb:bs[i]? with
  | none=>rw [eb]at ex; cases ex
  | some b =>
   rw [eb]at ex
   cases ex
   cases rx
   have ew:bs.getD i false=b:=by rw [List.getD_eq_getElem?_getD,eb]; rfl
   have hQ2:Q' (bs.getD i false) s':=hQ'
   rw [ew]at hQ2
   exact wpAny_truthy_bool hQ2
 ·rw [hn,List.length_map,zkP]
  exact⟨.bl _,H,hI h' tk hk,rfl,q⟩
end
section
variable {prog:Program} {w:World} {A:Around} {R:Result->Shared->Prop} {it:Addr} {fp wr:List Addr} {n:Nat} {P:Nat->Value->Prop} {St:Nat->Heap->Prop}
end
section
variable {prog:Program} {w:World} {A:Around} {E:Value->Shared->Prop} {s:Shared}
end
section
variable {X:Cx}
theorem zri:Wr (PK X [] zes):=⟨zq2⟩
theorem zn5{e:Expr}{te:TE}{kws:List Keyword}{t:TA}{nm:Option Str}{kpos:Pos}(ha:Wr (PE X e te))(hr:Wr (PK X kws t)):Wr (PK X (⟨nm,e,kpos⟩::kws) (zcb te t)):=⟨znK ha.run hr.run⟩
end
section
variable {prog:Program} {w:World} {A:Around} {E:Value->Shared->Prop} {s:Shared}
theorem zi9{it t:Addr}{i:Nat}{items:Array Value}{x:Value}{Q:Value->Shared->Prop}(hi:s.heap.IsTupleIter it t i)(ht:s.heap.IsTuple t items)(hx:items[i]?=some x)
  (q:∀ h',h'.IsTupleIter it t (i+1)->Heap.SameBut it s.heap h'->Q x { s with heap:=h' }):wpAny (model prog w) A (Builtin.SmallTypes.nextOf (.ref it)) Q E s:=by
 obtain⟨oi,e1,e2,e3⟩:=id hi
 obtain⟨ot,f1,f2,nt,f3⟩:=ht
 unfold Builtin.SmallTypes.nextOf
 refine wpAny_bind (wpAny_callSpecial?_slot (name:=Str.ofString "__next__") hi.typeIs slot_tupleiter_next
  (wpAny_call_entry slot_tupleiter_next hi.typeIs entry_tupleiter_next ?_ (args_tupleiter_next _)))
 show wpAny _ _ (field (.ref it) 0 >>= _) _ _ s
 refine wpAny_bind (wpAny_field e1 e3 (x:=.ref t) rfl ?_)
 show wpAny _ _ (if(Value.ref t==Value.none)=true then _ else _) _ _ s
 rw [if_neg (show ¬((Value.ref t==Value.none)=true) from Bool.false_ne_true)]
 show wpAny _ _ (field (.ref it) 1 >>= _) _ _ s
 refine wpAny_bind (wpAny_field e1 e3 (x:=.int i 0) rfl ?_)
 show wpAny _ _ (seqItems? (.ref t) >>= _) _ _ s
 refine wpAny_bind (wpAny_seqItems f1 f3 ?_)
 simp only [Int.toNat_natCast,hx]
 refine wpAny_bind (wpAny_setField e1 e3 (by simp) (wpAny_pure ⟨x,rfl,wpAny_pure (q _ ?_ (Heap.SameBut.update ..))⟩))
 refine⟨_,Heap.get?_update_self _ e1 (Obj.isFreed_of_fields (Obj.data_mapFields e3 _)),(Obj.cls_mapFields ..).trans e2,?_⟩
 rw [Obj.data_mapFields e3]
 simp [rawInt]
theorem zkQ{it t:Addr}{i:Nat}{items:Array Value}{Q:Value->Shared->Prop}(hh:A.handled=none)(hi:s.heap.IsTupleIter it t i)(ht:s.heap.IsTuple t items)(hx:items[i]?=none)
  (q:∀ h' e,Heap.ExtBut it s.heap h'->(∃ o,h'.get? e=some o/\o.cls=.type "StopIteration")->E (.ref e) { s with heap:=h' }):wpAny (model prog w) A (Builtin.SmallTypes.nextOf (.ref it)) Q E s:=by
 obtain⟨oi,e1,e2,e3⟩:=id hi
 obtain⟨ot,f1,f2,nt,f3⟩:=ht
 unfold Builtin.SmallTypes.nextOf
 refine wpAny_bind (wpAny_callSpecial?_slot (name:=Str.ofString "__next__") hi.typeIs slot_tupleiter_next
  (wpAny_call_entry slot_tupleiter_next hi.typeIs entry_tupleiter_next ?_ (args_tupleiter_next _)))
 show wpAny _ _ (field (.ref it) 0 >>= _) _ _ s
 refine wpAny_bind (wpAny_field e1 e3 (x:=.ref t) rfl ?_)
 show wpAny _ _ (if(Value.ref t==Value.none)=true then _ else _) _ _ s
 rw [if_neg (show ¬((Value.ref t==Value.none)=true) from Bool.false_ne_true)]
 show wpAny _ _ (field (.ref it) 1 >>= _) _ _ s
 refine wpAny_bind (wpAny_field e1 e3 (x:=.int i 0) rfl ?_)
 show wpAny _ _ (seqItems? (.ref t) >>= _) _ _ s
 refine wpAny_bind (wpAny_seqItems f1 f3 ?_)
 simp only [Int.toNat_natCast,hx]
 refine wpAny_bind (wpAny_rule (wpAny_bind (wpAny_setField e1 e3 (by simp) ?_)))
 show wpAny _ _ (newExc (.type "StopIteration") [] >>= _) _ _ _
 refine wpAny_bind ?_
 simp only [newExc,newTuple]
 refine wpAny_bind (wpAny_newObj_type ?_ (by show(0:Nat)<=sizeLine; exact Nat.zero_le _))
 refine wpAny_bind (m:=firstArgMember _ _) (wpAny_of_eq (a:=Value.none) (by first | rfl | (simp only [firstArgMember]; rfl)) ?_)
 refine wpAny_newObj_type ?_ (by first | trivial | size_fits)
 simp only [raiseNew]
 refine wpAny_bind (wpAny_handled ?_)
 first | rw [show A.in1.handled=none from hh] | rw [hh]
 refine wpAny_bind (wpAny_pure (wpAny_throw ?_))
 exact q _ _ (((Heap.SameBut.update ..).extBut.push _).push _) ⟨_,Heap.get?_push_size _ rfl,rfl⟩
end
theorem zde{prog:Program}{w:World}{A:Around}(hh:A.handled=none)(it t:Addr)(ne:t≠it)(items:Array Value) :
  Draws prog w A it [it,t] items.size (fun i v=>items[i]?=some v) (fun i h=>h.IsTupleIter it t i/\h.IsTuple t items) where
 live:=fun _ _ st=>let ⟨o,ho,_⟩:=st.1; ⟨o,ho⟩
 frame:=fun _ _ _ st hk=>by
  obtain⟨⟨o,a1,a2,a3⟩,⟨o2,b1,b2⟩⟩:=st
  exact⟨⟨o,hk it (by simp) o a1,a2,a3⟩,⟨o2,hk t (by simp) o2 b1,b2⟩⟩
 item:=fun i s Q E hi st q=>by
  refine zi9 st.1 st.2 (x:=items[i]) (by simp [hi]) fun h' hit' hs'=>?_
  exact q _ h' s.toks (by simp [hi]) ⟨hit',st.2.extBut hs'.extBut ne⟩ hs'
 done:=fun s Q E st q=>zkQ hh st.1 st.2 (by simp) q
theorem zkR(t:Addr)(items:Array Value)(n:Nat)(dct:Option Addr)(sl:Array (Option Value)) :
  Meets (Builtin.«enumerate.__new__» ⟨[.type "enumerate",.ref t],[]⟩) (fun _ R s=>s.heap.get? t=some { cls:=.type "tuple",dict:=dct,data:=.seq items n,slots:=sl } /\
   R (.ok (.ret (.ref (s.heap.push { cls:=.type "tuple_iterator",data:=.fields #[.ref t,.int 0 0] }).objs.size)))
    { s with heap:=(s.heap.push { cls:=.type "tuple_iterator",data:=.fields #[.ref t,.int 0 0] }).push { cls:=.type "enumerate",data:=.fields #[.none,.bool false,.ref s.heap.objs.size,rawInt 0,.none,.none] } }) :=
 .of_wp fun prog w A R s h=>by
  obtain⟨hp,g,d,tk,os⟩:=s
  obtain⟨hl,h⟩:=h
  have hsub:=sub_enumerate
  have hT:Heap.IsTuple (Shared.heap ⟨hp,g,d,tk,os⟩) t items:=⟨_,hl,rfl,n,rfl⟩
  wp_walk using PySem.AutoSeq1.wpAny_loadPart' hl
  refine wpAny_stack_any fun st=>wpAny_pure ?_
  split
  ·rename_i c _ _ _ _ _
   cases(c==Value.type "enumerate")
   ·wp_walk using PySem.AutoSeq1.wpAny_loadPart' hl,wpAny_pyIter_tuple hT
    exact⟨_,rfl,h⟩
   ·wp_walk using PySem.AutoSeq1.wpAny_loadPart' hl,wpAny_pyIter_tuple hT
    exact⟨_,rfl,h⟩
  ·wp_walk using PySem.AutoSeq1.wpAny_loadPart' hl,wpAny_pyIter_tuple hT
   exact⟨_,rfl,h⟩
section
variable {prog:Program} {w:World} {A:Around} {E:Value->Shared->Prop} {s:Shared}
theorem zja{t:Addr}{items:Array Value}{Q:Value->Shared->Prop}(hT:s.heap.IsTuple t items)
  (h:∀ h',IsEnum h' (s.heap.objs.size+1) s.heap.objs.size 0 .none->h'.IsTupleIter s.heap.objs.size t 0->(∀ b o,s.heap.get? b=some o->h'.get? b=some o)->Q (.ref (s.heap.objs.size+1)) { s with heap:=h' }) :
  wpAny (model prog w) A (call (.type "enumerate") [.ref t]) Q E s:=by
 obtain⟨⟨c,dct,dt,sl⟩,hl,hc,n,hd⟩:=hT
 replace hc:c=.type "tuple":=hc
 replace hd:dt=.seq items n:=hd
 subst hc hd
 refine callType_new F.called_enumerate (by decide) (F.typeCall_enumerate_1 _) (F.newCall_enumerate_1 _) (fun obj=>F.args_object_init_2 obj _) F.entry_enumerate_new
  (zkR t items n dct sl) ⟨hl,?_⟩
 have hz:(s.heap.push { cls:=.type "tuple_iterator",data:=.fields #[.ref t,.int 0 0] }).objs.size=s.heap.objs.size+1:=Heap.size_push ..
 show _/\_
 rw [hz]
 have he:IsEnum ((s.heap.push { cls:=.type "tuple_iterator",data:=.fields #[.ref t,.int 0 0] }).push
   { cls:=.type "enumerate",data:=.fields #[.none,.bool false,.ref s.heap.objs.size,rawInt 0,.none,.none] }) (s.heap.objs.size+1) s.heap.objs.size 0 .none:=by
  have z:=Heap.get?_push_size (s.heap.push { cls:=.type "tuple_iterator",data:=.fields #[.ref t,.int 0 0] })
   (o:={ cls:=.type "enumerate",data:=.fields #[.none,.bool false,.ref s.heap.objs.size,rawInt 0,.none,.none] }) rfl
  rw [hz]at z
  exact z
 exact⟨⟨_,he,rfl⟩,h _ he ⟨_,Heap.get?_push_of_some _ (Heap.get?_push_size _ rfl),rfl,rfl⟩ fun b o x=>Heap.get?_push_of_some _ (Heap.get?_push_of_some _ x)⟩
end
section
variable {X:Cx} {pins:List (Addr×Obj)} {σ:St} {H:Hp} {s:Shared} {h':Heap}
theorem Inv.turnedW{t':Nat}{wr:List Addr}(I:Inv X pins σ H s)(k:∀ b o,b∉wr->s.heap.get? b=some o->h'.get? b=some o)(hf:∀ b∈wr,zeC X pins H b):Inv X pins σ H { s with heap:=h',toks:=t' }:=by
 have nit:∀ b u,H b=some u->b∉wr:=fun b u e z=>by rw [(hf b z).1]at e; cases e
 refine I.step (g':=s.gens) (d':=s.drawn) (ch:=wr) (fun b hb=>?_) (fun b o _ _ hc e _=>k b o hc e) (fun b o _ _ hc e _=>⟨o.slots,k b o hc e⟩) (fun _ _ _ _ n=>n)
  (fun b o hc e=>⟨o,k b o hc e⟩) (fun _ _ e=>e) (fun _ _ _ e=>e) (fun b ps e=>⟨#[],by rw [e]; simp⟩) (fun m hm=>?_) (fun b u e=>?_) I.bare
 ·obtain⟨_,z1,_,z3,z4,z5⟩:=hf b hb
  exact⟨z3,z1,z4,z5⟩
 ·obtain⟨o,es,ep,ho,r⟩:=hm
  exact⟨o,es,ep,k _ o (fun z=>(hf _ z).2.1 rfl) ho,r⟩
 ·refine(I.hok b u e).stay (fun c v hc q=>k c v ?_ q) (fun _ q=>q) fun _ _ q=>q
  rcases hc with z | z
  ·rw [z]; exact nit b u e
  ·exact nit c _ z
theorem Inv.track{a:Addr}{o:HO}(I:Inv X pins σ H s)(f:zeC X pins H a)(ha:X.s₀.heap.objs.size<=a)(new:zbq X.prog X.w (upd H a o) s.heap a o):Inv X pins σ (upd H a o) s:=by
 obtain⟨f0,f1,f2,f3,f4,f5⟩:=f
 refine⟨I.ok,I.os,I.bare,zh7 I.base f0 ha,I.loc,I.cell,?_,fun x c e=>?_,fun p hp=>?_,zg4 I.hok f0 new,I.len⟩
 ·rw [zz (Ne.symm f1)]
  exact I.free
 ·rw [zz (f4 x c e)]
  exact I.freeC x c e
 ·obtain⟨p1,p2,p3⟩:=I.pin p hp
  refine⟨p1,?_,p3⟩
  rw [zz (f5 p hp)]
  exact p2
end
def Ite(K:PySem.W.Frag)(a:Addr):It :=
 ⟨fun i H=>∃ xs x,SqT K H a xs/\xs[i]?=some x,fun i H x H'=>∃ T,H T=none/\x=.ref T/\∀ xs v,SqT K H a xs->xs[i]?=some v->H'=upd H T (.tup [.int i,v]),fun i H=>∃ xs,SqT K H a xs/\xs.length=i⟩
theorem zkS{P:Program}{w:World}{K:PySem.W.Frag}{elts:List Expr}{k:Nat}{pos:Pos}(e it t:Addr)(hei:e≠it)(hte:t≠e)(hti:t≠it) :
  Turn P w K (.Tuple elts k pos) (Ite K t) [e,it] e (fun i h=>(∃ old,IsEnum h e it i old)/\h.IsTupleIter it t i) where
 mem:=by simp
 obj:=fun i h st b hb=>by
  obtain⟨⟨old,he⟩,⟨o,ho,_,hd⟩⟩:=st
  rcases List.mem_cons.mp hb with z | z
  ·subst z
   exact⟨_,he,fun v q=>by
    have q':Data.fields _=Data.cell v:=q
    cases q'⟩
  ·rw [List.mem_singleton.mp z]
   exact⟨o,ho,fun v q=>by rw [hd]at q; cases q⟩
 keep:=fun i h h' st kk=>by
  obtain⟨⟨old,he⟩,⟨o,ho,hc,hd⟩⟩:=st
  exact⟨⟨old,kk e (by simp) _ he⟩,⟨o,kk it (by simp) _ ho,hc,hd⟩⟩
 item:=by
  intro X hP hw hK hc i pins s σ H E I hf st hg
  subst hP hw hK
  obtain⟨xs,x,hq,hx⟩:=hg
  obtain⟨its,rv,ht,hz⟩:=I.tuple hq
  have hi:i < its.toArray.size:=by
   rw [List.size_toArray,<-rv.length]
   exact(List.getElem?_eq_some_iff.mp hx).1
  have W:=WalksT.enumerateD (zde (prog:=X.prog) (w:=X.w) (A:=X.A.in1) (I.ok.hd hc) it t hti its.toArray) e hei (by simp [hei,Ne.symm hte]) (by simp)
  refine W.item i s _ _ hi ⟨st.1,st.2,ht⟩ fun T vals h1 tk hP hT isT mid kk=>?_
  refine⟨_,rfl,W.go elts k pos i T { s with heap:=h1,toks:=tk } _ _ mid fun h2 st2 kk2=>?_⟩
  obtain⟨tt,u,hu,rfl⟩:=hP
  have apart:=W.apart _ _ _ mid
  have I2:Inv X pins σ H { s with heap:=h2,toks:=tk }:=I.turnedW (wr:=[e,it]) (fun b o hb q=>kk2 b o hb (kk b o hb q)) hf
  have fT:zeC X pins H T:=I.fpOk hT (I.hok.fresh hT)
  have ru:zaj x u:=by
   obtain⟨u',eu,r⟩:=rv.get hx
   have:u'=u:=by
    have z:its[i]?=some u:=by simpa using hu
    rw [eu]at z
    exact Option.some.inj z
   rw [<-this]
   exact r
  obtain⟨oT,g1,g2,nT,g3⟩:=isT
  have I3:Inv X pins σ (upd H T (.tup [.int i,x])) { s with heap:=h2,toks:=tk }:=I2.track fT (Nat.le_trans I.sz hT) ⟨by show 2<=sizeLine; decide,[.int i tt,u],.cons ⟨tt,rfl⟩ (.cons ru .nil),oT,kk2 T oT apart g1,g2,nT,g3⟩
  refine⟨.ref T,_,I3,rfl,⟨T,I.hok.fresh hT,rfl,fun xs' v hq' hv=>?_⟩,⟨?_,st2.2.1⟩,fun b hb=>?_⟩
  ·have:=I.tuple_inj hq hq'
   subst this
   rw [hx]at hv
   cases hv
   rfl
  ·exact st2.1
  ·have ne:b≠T:=fun z=>apart (by rw [<-z]; exact hb)
   rw [zz ne]
   exact(hf b hb).1
 done:=by
  intro X hP hw hK hc i pins s σ H E I hf st hg
  subst hP hw hK
  obtain⟨xs,hq,hl⟩:=hg
  obtain⟨its,rv,ht,hz⟩:=I.tuple hq
  have hi:i=its.toArray.size:=by
   rw [List.size_toArray,<-rv.length]
   exact hl.symm
  have W:=WalksT.enumerateD (zde (prog:=X.prog) (w:=X.w) (A:=X.A.in1) (I.ok.hd hc) it t hti its.toArray) e hei (by simp [hei,Ne.symm hte]) (by simp)
  refine W.done s _ _ ?_ fun h1 tk kk=>⟨rfl,I.turnedW (wr:=[e,it]) kk hf⟩
  rw [<-hi]
  exact⟨st.1,st.2,ht⟩
 self:=fun _ _ _ _ _ st h=>by
  obtain⟨⟨old,he⟩,_⟩:=st
  exact wpAny_pyIter_enum he h
section
variable {X:Cx} {elts:List Expr} {k:Nat} {tpos:Pos}
def zpV(K:PySem.W.Frag)(ta:TA):TI:=fun σ H R=>ta σ H fun vs H1=>∃ a,vs=[.ref a]/\(∃ xs,SqT K H1 a xs)/\R (Ite K a) H1
theorem zn6{a:Expr}{ta:TA}{p pos:Pos}(K:PySem.W.Frag)(hK:X.K=K)(hg:Gl X "enumerate")(hm:X.mg "enumerate"=none)(ha:Wr (PA X [a] ta))(hs:zac a=true:=by rfl) :
  Wr (PI X (.Tuple elts k tpos) (.Call (.Name "enumerate" p) [a] [] pos) (zpV K ta)):=by
 subst hK
 refine⟨?_⟩
 intro pins s σ H R I h
 refine Call_ (zeq I hg hm boot_enumerate (PyProof.Rows.callWith_type1 (thn (ha.run pos pins s σ H _ I h) fun us s1 ⟨vs,H1,I1,r1,q1⟩=>?_) (zb9 hs) rfl))
 obtain⟨t,e,⟨xs,hq⟩,q⟩:=q1
 subst e
 obtain⟨u,rfl,ru⟩:=zdU r1
 cases ru
 obtain⟨its,rv,ht,hz⟩:=I1.tuple hq
 have tl:t < s1.heap.objs.size:=by
  obtain⟨o,e,_⟩:=ht
  exact Heap.lt_size e
 refine zja (show s1.heap.IsTuple t its.toArray from ht) fun h' he hit kk=>?_
 have I2:Inv X pins σ H1 { s1 with heap:=h' }:=I1.kept (t':=s1.toks) kk
 refine wpAny_pyIter_enum he ?_
 refine⟨s1.heap.objs.size+1,[s1.heap.objs.size+1,s1.heap.objs.size],_,_,H1,rfl,I2,zkS (s1.heap.objs.size+1) s1.heap.objs.size t (Nat.succ_ne_self _) (Nat.ne_of_lt (Nat.lt_succ_of_lt tl)) (Nat.ne_of_lt tl),⟨⟨_,he⟩,hit⟩,fun b hb=>?_,q⟩
 rcases List.mem_cons.mp hb with z | z
 ·subst z
  exact I1.fpOk (Nat.le_succ _) (I1.hok.fresh (Nat.le_succ _))
 ·rw [List.mem_singleton.mp z]
  exact I1.fpOk (Nat.le_refl _) (I1.hok.fresh (Nat.le_refl _))
end
section
variable {X:Cx}
end
section
variable {X:Cx} {pos pos':Pos} {o i v:Expr} {td ty tv:TE} {k:Nat}
end
end L2
namespace L2
open PySem PySem.W PyProof.Rows
section
variable {α β:Type}
def zkT(lt:Nat->Nat->Bool)(n:Nat):KasT α->(α->Prop)->Prop
 | .ret a,Q=>Q a
 | .ask i j k,Q=>i < n/\j < n/\zkT lt n (k (lt i j)) Q
theorem zkT.bind{lt:Nat->Nat->Bool}{n:Nat}{f:α->KasT β}{Q:β->Prop}:∀ {t:KasT α},zkT lt n t (fun a=>zkT lt n (f a) Q)->zkT lt n (t.bind f) Q
 | .ret _,h=>h
 | .ask _ _ _,⟨h1,h2,h3⟩=>⟨h1,h2,zkT.bind h3⟩
end
section
variable {rk:Nat->Int} {n:Nat}
def KR(rk:Nat->Int)(p:Array Nat)(i:Nat):Int:=rk (p.getD i 0)
def Pm(n:Nat)(p:Array Nat):Prop:=p.Perm (List.range n).toArray
theorem Pm.size{p:Array Nat}(h:Pm n p):p.size=n:=by
 have:=h.size_eq
 simpa using this
def Up(rk:Nat->Int)(p:Array Nat)(m:Nat):Prop:=∀ i j,i<=j->j < m->KR rk p i<=KR rk p j
def Dn(rk:Nat->Int)(p:Array Nat)(m:Nat):Prop:=∀ i j,i<=j->j < m->KR rk p j<=KR rk p i
theorem Up.more{p:Array Nat}{m:Nat}(h:Up rk p m)(h1:1<=m)(hm:KR rk p (m - 1)<=KR rk p m):Up rk p (m+1):=fun i j hij hj=>by
 by_cases e:j=m
 ·subst e
  by_cases e2:i=j
  ·subst e2; exact Int.le_refl _
  ·exact Int.le_trans (h i (j - 1) (by omega) (by omega)) hm
 ·exact h i j hij (by omega)
theorem Dn.more{p:Array Nat}{m:Nat}(h:Dn rk p m)(h1:1<=m)(hm:KR rk p m<=KR rk p (m - 1)):Dn rk p (m+1):=fun i j hij hj=>by
 by_cases e:j=m
 ·subst e
  by_cases e2:i=j
  ·subst e2; exact Int.le_refl _
  ·exact Int.le_trans hm (h i (j - 1) (by omega) (by omega))
 ·exact h i j hij (by omega)
theorem Dn.congr{p p':Array Nat}{m:Nat}(h:Dn rk p m)(e:∀ k,KR rk p' k=KR rk p k):Dn rk p' m:=fun i j hij hj=>by
 rw [e,e]
 exact h i j hij hj
end
end L2
namespace L2
open PySem PySem.Spec PyProof.Rows
open PySem.AutoSeq1 (wpAny_loadPart')
open MeetsSeq MeetsSeq2 MeetsSeq3 SeqRoads2
def ztN:List Int->List Int->Bool
 | [],[]=>false
 | [],_::_=>true
 | _::_,[]=>false
 | a::as,b::bs=>if a=b then ztN as bs else decide (a < b)
end L2
namespace L2
open PySem PySem.Spec PySem.W PyProof.Rows
section
variable {prog:Program} {w:World} {A:Around} {E:Value->Shared->Prop} {s:Shared}
end
section
variable {prog:Program} {w:World} {A:Around} {s:Shared}
end
section
variable {X:Cx}
end
end L2
namespace L2
open PySem PySem.Spec PyProof.Rows
def ztO(h:Heap)(d:Addr)(es:Array DictEntry)(ep:Nat):Prop:=∃ o,h.get? d=some o/\o.ExactDict/\o.data=.dict es ep
theorem ztO.typeIs{s:Shared}{d:Addr}{es:Array DictEntry}{ep:Nat}(r:ztO s.heap d es ep):s.TypeIs (.ref d) "dict":=by
 obtain⟨o,e,x,_⟩:=r
 exact⟨o,e,x.1⟩
section
variable {prog:Program} {w:World} {A:Around} {E:Value->Shared->Prop} {s:Shared} {it d:Addr} {i ep:Nat} {es:Array DictEntry}
end
section
variable {X:Cx} {tg:Expr}
end
end L2
namespace L2
open PySem PySem.Spec PyProof.Rows
open PySem.W (Looks)
def zpW(r:List Value):Obj:={ cls:=.type "tuple",data:=.seq r.toArray }
def zeu(C p:Addr):Obj:={ cls:=.ref C,data:=.fields #[.ref p,.none,.none,.none,.bool false,.none] }
def zdv(h:Heap)(C:Addr)(r:List Value):Heap:=(h.push (zpW r)).push (zeu C h.objs.size)
theorem ze6{h:Heap}{C:Addr}{r:List Value}{b:Addr}{o:Obj}(e:h.get? b=some o):(zdv h C r).get? b=some o:=Heap.get?_push_of_some _ (Heap.get?_push_of_some _ e)
theorem zec{h:Heap}{C:Addr}{r:List Value}:(zdv h C r).get? (h.objs.size+1)=some (zeu C h.objs.size):=by
 have:=Heap.get?_push_size (h.push (zpW r)) (o:=zeu C h.objs.size) rfl
 rwa [Heap.size_push]at this
section
variable {prog:Program} {w:World} {A:Around} {E:Value->Shared->Prop} {h:Heap} {g:Array GenState} {d:Drawn} {t:Nat} {os:OsState}
variable {nm q:Str} {C N:Addr} {bs bm bmB:List Value} {hdct:Bool} {sn:List Str} {sub:List Value} {ab:Bool} {col:Option Bool} {dd:Option Addr} {k0 k1 k2 k3 k5:Option Value} {B newId initId:String}
theorem zfp{zbW:List Value}{f:Value}{Q:Fin->Shared->Prop}(F:ExcBaseFacts B newId initId bmB)(T:OwnTail h bmB bm)
  (hC:h.get? C=some (excClassObj nm q C N bs bm hdct sn sub ab col dd k0 k1 k2 k3 k5 newId))
  (li:Looks (model prog w) h (typeLookup (.ref C) "__init__") (some f)) (lb:∀ v,Looks (model prog w) h (bindSpecial f v) (f,[v])) (hl:zbW.length<=sizeLine)
  (k:wpAny (model prog w) A (call f (.ref (h.objs.size+1)::zbW)) (fun r s'=>r=.none/\Q (.done (.ret (.ref (h.objs.size+1)))) s') E ⟨zdv h C zbW,g,d,t,os⟩) :
  wpAny (model prog w) A (Builtin.«type.__call__» ⟨.ref C::zbW,[]⟩) Q E ⟨h,g,d,t,os⟩:=by
 have up:∀ b o,h.get? b=some o->(zdv h C zbW).get? b=some o:=fun b o e=>ze6 e
 have hC1:=up _ _ hC
 have hx:(zdv h C zbW).get? (h.objs.size+1)=some (zeu C h.objs.size):=zec
 have li1:=li.keeps up
 have lb1:=(lb (.ref (h.objs.size+1))).keeps up
 have is:(Value.ref C::bm).contains (.ref C)=true:=by simp
 repeat (first | with_reducible refine wpAny_loadPart_at hC ?_ | with_reducible refine wpAny_madeBy_exc hC ?_ | wp_step)
 refine codeAny_call_builtin_code (Code.quiet_builtin _ F.quiet) (wpAny_check_new_subT F T hC (codeAny_exc_new_subT F T hC ?_ hl))
 change wpAny (model prog w) _ _ _ _ ⟨zdv h C zbW,g,d,t,os⟩
 unfold isInstance
 repeat (first | (with_reducible refine wpAny_loadPart_at hx ?_; rw [show(zeu C h.objs.size).cls=.ref C from rfl]) | (with_reducible refine wpAny_isSubtype_exc hC1 ?_; rw [is]) | wp_step)
 show wpAny _ _ (typeLookup (.ref C) _) _ _ _
 refine li1.at ?_
 refine wpAny_holding (wpAny_bind (lb1.at ?_))
 refine wpAny_bind (wpAny_mono k (fun r s' z=>?_) fun _ _ z=>z)
 obtain⟨rfl,z⟩:=z
 wp_walk
 exact z
end
abbrev xUp:List Value:=[.type "ValueError",.type "Exception",.type "BaseException",.type "object"]
structure XC (K:PySem.W.Frag) (C:Addr):Prop where
 at_:∃ nm q N bs bm sn sub ab col dd k0 k1 k2 k3 k5,K.lookup C=some (excClassObj nm q C N bs bm true sn sub ab col dd k0 k1 k2 k3 k5 "ValueError.__new__")/\PySem.W.tailIn K xUp bm=true
 ga:PySem.W.findIn K (.ref C) "__getattribute__"=some (some (.builtin "BaseException.__getattribute__"))
 gh:PySem.W.findIn K (.ref C) "__getattr__"=some none
 sa:PySem.W.findIn K (.ref C) "__setattr__"=some (some (.builtin "object.__setattr__"))
section
variable {prog:Program} {w:World} {A:Around} {K:PySem.W.Frag} {C x:Addr} {s:Shared} {R:Result->Shared->Prop}
theorem zrj{f:Addr}{zbW:List Value}(X:XC K C)(I:K.In s.heap)(hi:PySem.W.findIn K (.ref C) "__init__"=some (some (.ref f)))(hf:PySem.W.typeIn K (.ref f)=some (.type "function"))(hl:zbW.length<=sizeLine)
  (k:codeAny (model prog w) (A.under (.builtin "type.__call__" ⟨.ref C::zbW,[]⟩)) (.call (.ref f) ⟨.ref (s.heap.objs.size+1)::zbW,[]⟩) (PySem.W.InitBack (s.heap.objs.size+1) R) { s with heap:=zdv s.heap C zbW }) :
  codeAny (model prog w) A (.call (.ref C) ⟨zbW,[]⟩) R s:=by
 obtain⟨hh,g,d,t,os⟩:=s
 obtain⟨nm,q,N,bs,bm,sn,sub,ab,col,dd,k0,k1,k2,k3,k5,e,tl⟩:=X.at_
 have hC:=I _ _ e
 have c1:=tc_lookup
 have c2:=tc_bind (.ref C)
 have hT:(⟨hh,g,d,t,os⟩:Shared).TypeIs (.ref C) "type":=⟨_,hC,rfl⟩
 refine codeAny_of_tree ?_
 change wpAny _ _ (callAny (.ref C) _) _ _ _
 repeat (any_goals (first | assumption | with_reducible refine wpAny_loadPart_at hC ?_ | wp_step))
 refine And.intro rfl (codeAny_call_builtin_at (Code.quiet_builtin _ (by decide +kernel)) entry_typeCall (wpAny_check_type_call_sub hC ?_))
 refine zfp PySem.F.excBase_ValueError (PySem.W.tail_of_in I tl) hC (PySem.W.looks_findIn I hi) (fun v=>PySem.W.bind_fn I v hf) hl ?_
 refine wpAny_call (codeAny_mono k fun r s' z=>?_)
 rcases r with e | (v | _ | _ | _)<;>first | exact z | exact z.elim
end
end L2
namespace L2
open PySem PySem.Spec PyProof.Rows
open PySem.W (Looks InstAt)
section
variable {prog:Program} {w:World} {A:Around} {E:Value->Shared->Prop} {K:PySem.W.Frag} {C x:Addr} {s:Shared} {R:Result->Shared->Prop}
theorem zif(self:Value){K:PySem.W.Frag}:∀ {l:List Value},PySem.W.tailIn K xUp l=true->refuseLoop self "__setattr__" l=pure ()
 | [],e=>by cases e
 | v::r,e=>by
  unfold PySem.W.tailIn at e
  rcases Bool.or_eq_true_iff.mp e with q | q
  ·rw [beq_iff_eq.mp q]; exact PySem.F.store_ValueError.passes self
  ·split at q
   ·split at q
    ·simp only [Bool.and_eq_true]at q
     rw [refuseLoop_ref]
     exact zif self q.2
    ·cases q
   ·cases q
theorem XC.cls(X:XC K C):∃ cd bm,PySem.W.clsIn K C=some cd/\cd.mro=.ref C::bm/\PySem.W.tailIn K xUp bm=true/\cd.hasDict=true:=by
 obtain⟨nm,q,N,bs,bm,sn,sub,ab,col,dd,k0,k1,k2,k3,k5,e,tl⟩:=X.at_
 refine⟨{ name:=nm,bases:=bs,mro:=.ref C::bm,ns:=N,qualname:=q,hasDict:=true,slotNames:=sn,subclasses:=sub,abstract:=ab,collection:=col,hasDel:=false },bm,?_,rfl,tl,rfl⟩
 unfold PySem.W.clsIn
 rw [e]
theorem XC.up(X:XC K C){M:Model}{h:Heap}(I:K.In h){n:String}(hn:xUp.contains (.type n)=true):Looks M h (isSubtype (.ref C) (.type n)) true:=by
 obtain⟨cd,bm,hc,hm,tl,_⟩:=X.cls
 refine PySem.W.looks_mroIn I ?_
 unfold PySem.W.mroIn
 rw [hc,Option.bind_some,hm,if_neg (by simp),List.contains_cons,(PySem.W.tail_of_in I tl).hasType hn,Bool.or_true]
theorem zvB{name:Str}{v:Value}{tk:Tok}{h:Heap}{g:Array GenState}{d:Drawn}{t:Nat}{os:OsState}(L1:Looks (model prog w) h (typeOf (.ref x)) (.ref C))(L5:Looks (model prog w) h (isInstance (.ref x) (.type "BaseException")) true)
  (L4:Looks (model prog w) h (Builtin.ObjectAttr.find (.ref x) (.ref C) name) (.value v)) (k:R (.ok (.ret v)) ⟨h,g,d,t,os⟩) :
  codeAny (model prog w) A (.call (.builtin "BaseException.__getattribute__") ⟨[.ref x,.str name tk],[]⟩) R ⟨h,g,d,t,os⟩:=by
 have hk:builtinKind "BaseException.__getattribute__"=some .slot:=by decide +kernel
 have hs:splitId "BaseException.__getattribute__"=some ("BaseException", "__getattribute__"):=by decide +kernel
 refine codeAny_call_builtin PySem.F.attr_ValueError.ga.plain PySem.F.entry_bexc_ga (@PySem.W.check_slot (model prog w) _ _ _ "BaseException.__getattribute__" "BaseException" "__getattribute__" (.ref x) [.str name tk] [] _ hk hs L5 (PySem.F.args_bexc_ga _ _) ?_)
 unfold Builtin.«object.__getattribute__»
 repeat (first | with_reducible refine L1.at ?_ | with_reducible refine L4.at ?_ | wp_step)
 exact k
theorem ztP{ox od:Obj}{name:Str}{v:Value}{b:Bool}{Q:Value->Shared->Prop}(X:XC K C)(I:K.In s.heap)(Z:InstAt s.heap x ox C (some od))(n:zcW K C name)(l:PySem.W.lookIn name od=some (some v))(hh:handedOut v=pure v)
  (k:∀ t,Q v { s with toks:=t }):wpAny (model prog w) A (getAttr (.ref x) name b) Q E s:=by
 obtain⟨hh',g,d,t,os⟩:=s
 obtain⟨cd,bm,hc,hm,tl,hd⟩:=X.cls
 have L1:Looks (model prog w) hh' (typeOf (.ref x)) (.ref C):=Z.type
 have L2:=PySem.W.looks_findIn (M:=model prog w) I X.ga
 have L3:=PySem.W.looks_findIn (M:=model prog w) I X.gh
 have F1:PySem.W.findObj K C (some od) name=some (.value v):=by
  unfold PySem.W.findObj PySem.W.ownOf
  rw [hc,Option.bind_some,show PySem.W.findIn K (.ref C) name=some none from n,Option.bind_some,hd]
  simp [l]
 have L4:=PySem.W.looks_find (M:=model prog w) I Z F1
 have L5:Looks (model prog w) hh' (isInstance (.ref x) (.type "BaseException")) true:=L1.andThen (X.up I (by decide))
 have G:=PySem.F.attr_ValueError.ga
 have e0:(onTheHeap (Value.ref C) && Value.builtin "BaseException.__getattribute__"==Value.builtin "object.__getattribute__")=false:=by
  rw [show(Value.builtin "BaseException.__getattribute__"==Value.builtin "object.__getattribute__")=false from by decide +kernel]; rfl
 have e1:(b && onTheHeap (Value.builtin "BaseException.__getattribute__"))=false:=by cases b<;>rfl
 unfold getAttr
 refine wpAny_bind (wpAny_mkText ?_)
 unfold getAttrBy
 refine wpAny_holding (wpAny_bind (L1.at (wpAny_bind (L2.at ?_))))
 dsimp only
 rw [e0,if_neg (by decide)]
 unfold getAttrByItsOwn hookBefore callGetattribute boundAndCalled
 rw [if_pos (show onTheHeap (Value.ref C)=true from rfl),e1,if_neg (by decide),G.bind (.ref x)]
 refine wpAny_bind (L3.at (wpAny_bind (wpAny_attempt (wpAny_holding (wpAny_bind (wpAny_pure (wpAny_call ?_)))))))
 refine zvB L1 L5 L4 ?_
 change wpAny _ _ (handedOut v) _ _ _
 rw [hh]
 exact wpAny_pure (k _)
theorem zvC{ox:Obj}{name:Str}{v:Value}{tk:Tok}{h:Heap}{g:Array GenState}{d:Drawn}{t:Nat}{os:OsState}(X:XC K C)(I:K.In h)(hx:h.get? x=some ox)(hc:ox.cls=.ref C)(hd:ox.dict=none)(hn:∀ c,ox.data≠.cls c)
  (n:zcW K C name) (k:∀ h' t,h'.get? x=some { ox with dict:=some h.objs.size }->h'.Ns1 h.objs.size (fun y=>if y=name then some v else none) ->
   (∀ b o,b≠x->h.get? b=some o->h'.get? b=some o)->R (.ok (.ret .none)) ⟨h',g,d,t,os⟩) :
  codeAny (model prog w) A (.call (.builtin "object.__setattr__") ⟨[.ref x,.str name tk,v],[]⟩) R ⟨h,g,d,t,os⟩:=by
 obtain⟨cd,bm,hc',hm,tl,hd'⟩:=X.cls
 have Z:InstAt h x ox C none:=⟨hx,hc,by obtain⟨_,_,dt,_⟩:=ox; cases dt<;>first | rfl | exact absurd rfl (hn _),by rw [hd]; trivial⟩
 have L1:Looks (model prog w) h (typeOf (.ref x)) (.ref C):=Z.type
 have LC:=PySem.W.looks_clsIn (M:=model prog w) I hc'
 have LM:Looks (model prog w) h (mroOf (.ref C)) cd.mro:=LC.andThen .now
 have LN:=PySem.W.looks_findIn (M:=model prog w) I n
 have LO:Looks (model prog w) h (isInstance (.ref x) (.type "object")) true:=L1.andThen (X.up I (by decide))
 have SF:=PySem.F.store_ValueError
 have rf:refuseLoop (.ref x) "__setattr__" cd.mro=pure ():=by rw [hm,refuseLoop_ref]; exact zif _ tl
 refine codeAny_call_builtin SF.slot.plain SF.entry (@PySem.W.check_slot (model prog w) _ _ _ "object.__setattr__" "object" "__setattr__" (.ref x) [.str name tk,v] [] _ SF.kind SF.split LO (SF.args (.ref x) (.str name tk) v) ?_)
 rw [PySem.W.osa_eq,refuse_eq]
 refine wpAny_bind (wpAny_bind (L1.at (wpAny_bind (LM.at ?_))))
 rw [rf]
 refine wpAny_pure (wpAny_bind (L1.at (wpAny_bind (LN.at (wpAny_bind (wpAny_pure ?_))))))
 change wpAny _ _ (Builtin.ObjectAttr.storeInOwnDict (.ref x) (.ref C) (.str name tk) name v false) _ _ _
 refine wpAny_bind (wpAny_pure (wpAny_bind ?_))
 change wpAny _ _ (instanceDict x true) _ _ _
 obtain⟨oc,od,dt,sl⟩:=ox
 dsimp only at hc hd hn
 subst hc hd
 unfold instanceDict
 refine wpAny_bind (wpAny_loadPart hx ?_)
 dsimp only
 refine wpAny_bind (LC.at ?_)
 rw [hd']
 rw [if_neg (by decide),if_neg (by simp [typeHasDict])]
 split
 ·exact absurd rfl (hn _)
 have nx:x≠h.objs.size:=Nat.ne_of_lt (Heap.lt_size hx)
 have x1:(h.push PySem.W.emptyDict).get? x=some ⟨.ref C,none,dt,sl⟩:=Heap.get?_push_of_some _ hx
 refine wpAny_bind (wpAny_alloc' (wpAny_bind (wpAny_update' x1 (wpAny_pure ?_))))
 change wpAny _ _ (Builtin.ObjectAttr.storeInDict h.objs.size (.str name tk) name v) _ _ _
 have d2:((h.push PySem.W.emptyDict).update x fun o=>{ o with dict:=some h.objs.size }).get? h.objs.size=some PySem.W.emptyDict:=(Heap.get?_update_ne _ _ _ _ nx.symm).trans (Heap.get?_push_at rfl rfl)
 have n2:((h.push PySem.W.emptyDict).update x fun o=>{ o with dict:=some h.objs.size }).Ns h.objs.size (fun _=>none):=⟨_,#[],_,d2,rfl,fun e he=>absurd he (by simp),fun _=>rfl⟩
 have x2:((h.push PySem.W.emptyDict).update x fun o=>{ o with dict:=some h.objs.size }).get? x=some ⟨.ref C,some h.objs.size,dt,sl⟩:=by
  refine Heap.get?_update_self _ x1 ?_
  have fr:=(Heap.get?_some_iff.mp hx).2
  cases dt<;>first | rfl | exact fr
 unfold Builtin.ObjectAttr.storeInDict Builtin.ObjectAttr.newKeyGuard
 refine wpAny_bind (wpAny_pure (wpAny_bind (wpAny_nsSet1 (Heap.Ns1.of_empty n2) fun h' n' sm=>?_)))
 obtain⟨oD,esD,epD,hoD,hdD,hcD⟩:=n'.count (Within.cons name v Within.nil)
 refine wpAny_bind (wpAny_lookBehind hoD (by rw [hdD]; exact pastItsLine_dict (Nat.le_trans hcD (by rw [List.length_cons,List.length_nil,sizeLine_eq]; omega))) ?_)
 refine wpAny_pure (k h' _ ((sm.2 x nx).trans x2) n' fun b o nb e=>?_)
 exact(sm.2 b (Nat.ne_of_lt (Heap.lt_size e))).trans ((Heap.get?_update_ne _ _ _ _ nb).trans (Heap.get?_push_of_some _ e))
theorem ztQ{ox:Obj}{name:Str}{v:Value}{Q:Unit->Shared->Prop}(X:XC K C)(I:K.In s.heap)(hx:s.heap.get? x=some ox)(hc:ox.cls=.ref C)(hd:ox.dict=none)(hn:∀ c,ox.data≠.cls c)(n:zcW K C name)
  (k:∀ h' t,h'.get? x=some { ox with dict:=some s.heap.objs.size }->h'.Ns1 s.heap.objs.size (fun y=>if y=name then some v else none) ->
   (∀ b o,b≠x->s.heap.get? b=some o->h'.get? b=some o)->Q () { s with heap:=h',toks:=t }) :
  wpAny (model prog w) A (setAttr (.ref x) name v) Q E s:=by
 obtain⟨h,g,d,t,os⟩:=s
 have L1:Looks (model prog w) h (typeOf (.ref x)) (.ref C):=(Looks.ld (part:=some headPart) hx).andThen (Looks.of_pure (by rw [hc]))
 have LS:=PySem.W.looks_findIn (M:=model prog w) I X.sa
 unfold setAttr callSpecial? specialOf
 refine wpAny_bind (wpAny_mkText (wpAny_bind (wpAny_bind (wpAny_bind (L1.at (LS.at ?_))))))
 dsimp only
 refine wpAny_holding ?_
 rw [PySem.F.store_ValueError.slot.bind]
 refine wpAny_bind (wpAny_pure (wpAny_bind (wpAny_call ?_)))
 refine zvC X I hx hc hd hn n fun h' t' a b c=>?_
 exact wpAny_pure (wpAny_pure (k h' t' a b c))
end
end L2
namespace L2
open PySem PySem.Spec PyProof.Rows
open PySem.W (Looks InstAt)
structure XI (K:PySem.W.Frag) (C:Addr):Prop where
 cl:XC K C
 ca:PySem.W.findIn K (.ref C) "__class__"=some (some (.builtin "object.__class__"))
 cg:PySem.W.specialIn K (.builtin "object.__class__") "__get__"=some (some (.builtin "getset_descriptor.__get__"))
 ct:PySem.W.takesIn K (.builtin "object.__class__")=some true
 cm:PySem.W.mroIn K C (.type "object")=some true
section
variable {prog:Program} {w:World} {A:Around} {E:Value->Shared->Prop} {K:PySem.W.Frag} {C x:Addr} {s:Shared} {R:Result->Shared->Prop}
theorem zrk{ox:Obj}{od:Option Obj}{tk:Tok}{h:Heap}{g:Array GenState}{d:Drawn}{t:Nat}{os:OsState}(Y:XI K C)(I:K.In h)(Z:InstAt h x ox C od)(k:R (.ok (.ret (.ref C))) ⟨h,g,d,t,os⟩) :
  codeAny (model prog w) A (.call (.builtin "BaseException.__getattribute__") ⟨[.ref x,.str "__class__" tk],[]⟩) R ⟨h,g,d,t,os⟩:=by
 have L1:Looks (model prog w) h (typeOf (.ref x)) (.ref C):=Z.type
 have L5:Looks (model prog w) h (isInstance (.ref x) (.type "BaseException")) true:=L1.andThen (Y.cl.up I (by decide))
 obtain⟨cd,bm,hc,hm,tl,hd⟩:=Y.cl.cls
 have F1:PySem.W.findObj K C od "__class__"=some (.bind (.builtin "getset_descriptor.__get__") (.builtin "object.__class__")):=by
  unfold PySem.W.findObj
  rw [hc,Option.bind_some,Y.ca,Option.bind_some]
  simp [Y.cg,Y.ct]
 have L4:=PySem.W.looks_find (M:=model prog w) I Z F1
 have hk:builtinKind "BaseException.__getattribute__"=some .slot:=by decide +kernel
 have hs:splitId "BaseException.__getattribute__"=some ("BaseException", "__getattribute__"):=by decide +kernel
 refine codeAny_call_builtin PySem.F.attr_ValueError.ga.plain PySem.F.entry_bexc_ga (@PySem.W.check_slot (model prog w) _ _ _ "BaseException.__getattribute__" "BaseException" "__getattribute__" (.ref x) [.str "__class__" tk] [] _ hk hs L5 (PySem.F.args_bexc_ga _ _) ?_)
 unfold Builtin.«object.__getattribute__»
 repeat (first | with_reducible refine L1.at ?_ | with_reducible refine L4.at ?_ | with_reducible refine wpAny_call ?_ | wp_step)
 exact PySem.W.class_get I Z Y.cm (wpAny_pure k)
theorem zn7{ox:Obj}{od:Option Obj}{Q:Option Value->Shared->Prop}(Y:XI K C)(I:K.In s.heap)(Z:InstAt s.heap x ox C od)(k:Q (some (.ref C)) { s with toks:=s.toks+1 }):wpAny (model prog w) A (getAttr? (.ref x) "__class__") Q E s:=by
 obtain⟨h,g,d,t,os⟩:=s
 have L1:Looks (model prog w) h (typeOf (.ref x)) (.ref C):=Z.type
 have L2:=PySem.W.looks_findIn (M:=model prog w) I Y.cl.ga
 have L3:=PySem.W.looks_findIn (M:=model prog w) I Y.cl.gh
 have e0:(onTheHeap (Value.ref C) && Value.builtin "BaseException.__getattribute__"==Value.builtin "object.__getattribute__")=false:=by
  rw [show(Value.builtin "BaseException.__getattribute__"==Value.builtin "object.__getattribute__")=false from by decide +kernel]; rfl
 unfold getAttr? getAttrBy? getAttrBy
 refine wpAny_bind (wpAny_mkText (wpAny_bind (wpAny_attempt (wpAny_holding (wpAny_bind (L1.at (wpAny_bind (L2.at ?_))))))))
 dsimp only
 rw [e0,if_neg (by decide)]
 unfold getAttrByItsOwn hookBefore callGetattribute boundAndCalled
 rw [if_pos (show onTheHeap (Value.ref C)=true from rfl),if_neg (by decide),PySem.F.attr_ValueError.ga.bind (.ref x)]
 refine wpAny_bind (L3.at (wpAny_bind (wpAny_attempt (wpAny_holding (wpAny_bind (wpAny_pure (wpAny_call ?_)))))))
 refine zrk Y I Z ?_
 change wpAny _ _ (handedOut (.ref C)) _ _ _
 exact wpAny_pure (wpAny_pure k)
theorem XI.at_(Y:XI K C):∃ c d cd sl,K.lookup C=some ⟨c,d,.cls cd,sl⟩:=by
 obtain⟨nm,q,N,bs,bm,sn,sub,ab,col,dd,k0,k1,k2,k3,k5,e,tl⟩:=Y.cl.at_
 exact⟨_,_,_,_,e⟩
theorem zig{ox:Obj}{od:Option Obj}(Y:XI K C):PySem.W.KitX K (.ref x) (.ref C) (fun h=>InstAt h x ox C od) where
 ty:=fun _ _ _ Z=>Z.type
 it:=fun M h I _=>by
  obtain⟨c,d,cd,sl,e⟩:=Y.at_
  intro A' Q' E' s' k q
  unfold isType loadHead
  exact wpAny_bind (wpAny_loadPart (k _ _ (I _ _ e)) (wpAny_pure q))
 ne:=fun h tp dd its n sl I htp=>by
  obtain⟨c,d,cd,sl',e⟩:=Y.at_
  refine Bool.eq_false_iff.mpr fun q=>?_
  have z:C=tp:=Value.ref.inj (beq_iff_eq.mp q)
  subst z
  cases(I _ _ e).symm.trans htp
 ca:=fun I Z k=>zn7 Y I Z k
end
end L2
namespace L2
open PySem PySem.Spec PyProof.Rows
open PySem.W (Looks InstAt)
def zjb(a C p:Addr):HO:=.ext fun h=>h.get? a=some (zeu C p)
def XV(H:Hp)(a C:Addr)(fs:List (Str×V)):Prop:=∃ ox,H a=some (.frz ox (.own 0))/\ox.cls=.ref C/\PySem.W.notCls ox=true /\
 ((fs=[]/\ox.dict=none)\/∃ od dx,ox.dict=some dx/\H dx=some (.frz od (.xd fs)))
section
variable {X:Cx} {pins:List (Addr×Obj)} {σ:St} {H:Hp} {s:Shared} {a C:Addr} {fs:List (Str×V)} {o e value:Expr} {f:Str} {pos pos':Pos} {ta tv:TE} {v:V}
def ztR(K:PySem.W.Frag)(ta:TE)(f:Str):TE:=fun σ H Q=>ta σ H fun x H1=>∃ a C fs v,x=.ref a/\XV H1 a C fs/\XC K C/\zcW K C f/\fs.lookup f=some v/\Q v H1
theorem zn8(he:PE X e ta)(hb:attributeBase e f X.env (eval e X.env)=eval e X.env):PE X (.Attribute e f pos) (ztR X.K ta f):=by
 intro pins s σ H Q I h
 refine znG hb (thn (he pins s σ H _ I h) fun u s1 ⟨x,H1,I1,rx,a,C,fs,v,ex,xv,c,n,l,q⟩=>?_)
 subst ex
 obtain rfl:u=Value.ref a:=rx
 obtain⟨ox,ea,ec,en,z⟩:=xv
 rcases z with ⟨rfl,_⟩ | ⟨od,dx,ed,edx⟩
 ·cases l
 obtain⟨ha,_⟩:=I1.hok a _ ea
 obtain⟨hdx,mA,ns,rel⟩:=I1.hok dx _ edx
 obtain⟨od',ho',hl⟩:=ze1 ns
 obtain rfl:od=od':=Option.some.inj (hdx.symm.trans ho')
 obtain⟨u,hu,ru⟩:=zhg.some_of (v:=v) (o:=mA f) (by rw [<-l]; exact rel f)
 have Z:InstAt s1.heap a ox C (some od):=⟨ha,ec,en,by rw [ed]; exact hdx⟩
 exact ztP c I1.kIn Z n (by rw [hl,hu]) (PySem.W.handedOut_of (zkI ru)) fun t=>⟨v,H1,I1.tok _,ru,q⟩
def zpX(K:PySem.W.Frag)(ta tv:TE)(f:Str):TS:=fun D σ H=>tv σ H fun y H1=>ta σ H1 fun x H2=>∃ a C p,x=.ref a/\H2 a=some (zjb a C p)/\XC K C/\zcW K C f /\
 ∀ dx ox od,H2 dx=none->dx≠a->ox.cls=.ref C->ox.dict=some dx->PySem.W.notCls ox=true->ox={ zeu C p with dict:=some dx }->D.nx σ (upd (upd H2 dx (.frz od (.xd [(f,y)]))) a (.frz ox (.own 0)))
theorem zn9(ha:PE X o ta)(hv:PE X value tv)(hs:swapsWith value (some (.Attribute o f pos')) pos.line X.env=pure false):PS X (.Assign [.Attribute o f pos'] value pos) (zpX X.K ta tv f):=by
 intro pins s σ H D I h
 refine plainObj_wpAny_Assign_Attribute (thn (hv pins s σ H _ I h) fun u s1 ⟨y,H1,I1,ry,q⟩=>thn (ha pins s1 σ H1 _ I1 q) fun ov s2 ⟨x,H2,I2,rx,a,C,p,ex,ea,c,n,q2⟩=>?_) hs
 subst ex
 obtain rfl:ov=Value.ref a:=rx
 obtain⟨hx,_,_⟩:=I2.hok a _ ea
 have lt:a < s2.heap.objs.size:=Heap.lt_size hx
 refine ztQ (ox:=zeu C p) c I2.kIn hx rfl rfl (fun _ z=>nomatch z) n fun h' t hx' hn' keep=>?_
 obtain⟨od,hod,_⟩:=ze1 hn'
 have fr:od.isFreed=false:=(Heap.get?_some_iff.mp hod).2
 have hm:(s2.heap.push od).get? s2.heap.objs.size=some od:=Heap.get?_push_size s2.heap fr
 have nd:s2.heap.objs.size≠a:=Nat.ne_of_gt lt
 have I3:=I2.laid (a:=s2.heap.objs.size) (o:=.frz od (.xd [(f,y)])) (h':=s2.heap.push od) (t':=s2.toks) (fun b w e=>Heap.get?_push_of_some _ e) (Nat.le_refl _)
  ⟨hm,fun z=>if z=f then some u else none,?_,fun g=>?_⟩
 ·have I4:=I3.write (x:=a) (e:=a) (o:=.frz { zeu C p with dict:=some s2.heap.objs.size } (.own 0)) (h':=h') (t':=t) (by rw [zz nd.symm,ea]; trivial) (.inl rfl) (fun b w nb e=>?_) ⟨_,hx'⟩ ⟨hx',_,hx'⟩
  ·exact⟨σ,_,I4,q2 _ _ od (I2.hok.fresh (Nat.le_refl _)) nd rfl rfl rfl rfl⟩
  ·by_cases eb:b=s2.heap.objs.size
   ·subst eb
    rw [hm]at e
    cases e
    exact hod
   ·refine keep b w nb ?_
    rcases Heap.get?_push_cases e with ⟨z,_⟩ | z
    ·exact absurd z eb
    ·exact z
 ·obtain⟨o1,es,ep,e1,r⟩:=hn'
  obtain rfl:od=o1:=Option.some.inj (hod.symm.trans e1)
  exact⟨od,es,ep,hm,r⟩
 ·show zhg ([(f,y)].lookup g) (if g=f then some u else none)
  rw [List.lookup_cons]
  by_cases q:g=f
  ·subst q; simp only [beq_self_eq_true,if_true]; exact ry
  ·rw [if_neg q,show(g==f)=false from beq_eq_false_iff_ne.mpr q]; trivial
end
section
variable {X:Cx} {CX:CXT} {k:Nat} {f C:Addr} {fd:FuncData} {ps:List Str} {sp:Sp} {E:XK} {x:Str} {p pos:Pos} {e:Expr} {es:List Expr} {t:TA}
def zjc(C:Addr)(sp:Sp)(E:XK)(t:TA):TE:=fun σ H Q=>t σ H fun vs H1=>vs.length<=1000/\∀ a p,H1 a=none->sp (.ref a::vs) (upd H1 a (zjb a C p)) (fun v H2=>v=.non/\Q (.ref a) H2) E
theorem Inv.xmade{pins:List (Addr×Obj)}{σ:St}{H:Hp}{s:Shared}{r:List Value}(I:Inv X pins σ H s):Inv X pins σ (upd H (s.heap.objs.size+1) (zjb (s.heap.objs.size+1) C s.heap.objs.size)) { s with heap:=zdv s.heap C r } :=
 I.laid (a:=s.heap.objs.size+1) (t':=s.toks) (fun b u q=>ze6 q) (Nat.le_succ _) ⟨zec,⟨_,zec⟩,fun h1 h2 z k=>k _ z⟩
theorem zkU{pins:List (Addr×Obj)}{σ:St}{H:Hp}{s:Shared}{Q:VK}{us:List Value}{vs:List V}(Y:XC X.K C)(hi:PySem.W.findIn X.K (.ref C) "__init__"=some (some (.ref f)))(fn:PySem.W.isFn X.K (.ref f)=true)
  (F:FnOk X.prog X.w X.K X.mg X.base CX k f fd ps sp) (hr:Room (k+1) X.A) (hb:zcX X.K fd ps []) (hx:zet CX X E) (I:Inv X pins σ H s) (r:zM vs us) (hl:vs.length<=1000)
  (h:∀ a p,H a=none->sp (.ref a::vs) (upd H a (zjb a C p)) (fun v H2=>v=.non/\Q (.ref a) H2) E):wpAny (model X.prog X.w) X.A (call (.ref C) us) (EP X pins σ Q) X.xe s:=by
 have hq:=h (s.heap.objs.size+1) s.heap.objs.size (I.hok.fresh (Nat.le_succ _))
 have I2:=Inv.xmade (C:=C) (r:=us) I
 have r2:zM (V.ref (s.heap.objs.size+1)::vs) (Value.ref (s.heap.objs.size+1)::us):=.cons rfl r
 have ln:(Value.ref (s.heap.objs.size+1)::us++[]).length=ps.length:=by
  have z:=r2.length
  rw [F.len _ _ _ _ hq]at z
  rw [List.append_nil]
  exact z.symm
 have hb2:=hb { s with heap:=zdv s.heap C us } (Value.ref (s.heap.objs.size+1)::us) I2.kIn ln
 rw [List.append_nil]at hb2
 refine wpAny_call (zrj Y I.kIn hi (beq_iff_eq.mp fn) (by rw [<-r.length,sizeLine_eq]; omega) (codeAny_mono (F.run _ X.stack _ _ ⟨Value.ref (s.heap.objs.size+1)::us,[]⟩ (Value.ref (s.heap.objs.size+1)::us) _ _ E (hr.make C us [])
  (I2.env0.make C us []) hb2 r2 hq) fun r s' hq'=>?_))
 cases r with
 | error e=>exact hx pins σ _ _ e s' I2 hq'
 | ok fl =>
  cases fl with
  | ret u =>
   obtain⟨v,H',I3,rv,ev,q3⟩:=I2.after hq'
   subst ev
   exact⟨rv,⟨V.ref (s.heap.objs.size+1),H',I3,rfl,q3⟩⟩
  | next=>exact False.elim hq'
  | brk=>exact False.elim hq'
  | cont=>exact False.elim hq'
theorem zl4(Y:XC X.K C)(hi:PySem.W.findIn X.K (.ref C) "__init__"=some (some (.ref f)))(fn:PySem.W.isFn X.K (.ref f)=true)(kp:PySem.W.keepIn X.K (.ref C)=true)(F:FnOk X.prog X.w X.K X.mg X.base CX k f fd ps sp)(hr:Room (k+1) X.A)
  (hg:Gl X x) (hm:X.mg x=some (.ref C)) (hb:zcX X.K fd ps []) (hx:zet CX X E) (ha:PA X (e::es) t) (hdb:(x==("__debug__":Str))=false:=by decide)
  (he:starEach (e::es) X.env=(false,eval e X.env)::starEach es X.env:=by rfl) (hpl:(backTo pos (starEach es X.env)).any (·.1)=false:=by rfl):PE X (.Call (.Name x p) (e::es) [] pos) (zjc C sp E t):=by
 intro pins s σ H Q I h
 refine wpAny_Call_Name_kw (zdE I hg hm ?_ hdb)
 refine PySem.W.callWith_K (h₀:=X.base) I.ok.mod.kin kp (thn (ha pos pins s σ H _ I h) fun us s1 ⟨vs,H1,I1,r,hl,q⟩=>⟨I1.kIn,?_⟩) he hpl
 exact zkU Y hi fn F hr hb hx I1 r hl q
end
end L2
namespace L2
open PySem PySem.Spec PyProof.Rows
open PySem.W (Looks InstAt)
section
variable {prog:Program} {w:World} {A:Around} {K:PySem.W.Frag} {C x:Addr} {s:Shared} {R:Result->Shared->Prop}
theorem zoa(X:XC K C)(I:K.In s.heap)(hi:PySem.W.findIn K (.ref C) "__init__"=some (some (.builtin "ValueError.__init__")))
  (k:∀ h' ox,(∀ b o,s.heap.get? b=some o->h'.get? b=some o)->h'.get? (s.heap.objs.size+1)=some ox->ox.cls=.ref C->ox.dict=none->PySem.W.notCls ox=true->(∃ q,ox=zeu C q)->R (.ok (.ret (.ref (s.heap.objs.size+1)))) { s with heap:=h' }) :
  codeAny (model prog w) A (.call (.ref C) ⟨[],[]⟩) R s:=by
 obtain⟨hh,g,d,t,os⟩:=s
 obtain⟨nm,q,N,bs,bm,sn,sub,ab,col,dd,k0,k1,k2,k3,k5,e,tl⟩:=X.at_
 have hC:=I _ _ e
 have c1:=tc_lookup
 have c2:=tc_bind (.ref C)
 have F:=PySem.F.excBase_ValueError
 have T:=PySem.W.tail_of_in I tl
 have hT:(⟨hh,g,d,t,os⟩:Shared).TypeIs (.ref C) "type":=⟨_,hC,rfl⟩
 refine codeAny_of_tree ?_
 change wpAny _ _ (callAny (.ref C) _) _ _ _
 repeat (any_goals (first | assumption | with_reducible refine wpAny_loadPart_at hC ?_ | wp_step))
 refine And.intro rfl (codeAny_call_builtin_at (Code.quiet_builtin _ (by decide +kernel)) entry_typeCall (wpAny_check_type_call_sub hC ?_))
 refine zfp (zbW:=[]) F T hC (PySem.W.looks_findIn I hi) (fun v=>Looks.of_pure (F.init.bind v)) (Nat.zero_le _) ?_
 have up:∀ b o,hh.get? b=some o->(zdv hh C []).get? b=some o:=fun b o e=>ze6 e
 have hx:(zdv hh C []).get? (hh.objs.size+1)=some (zeu C hh.objs.size):=zec
 refine wpAny_call (codeAny_call_builtin F.init.plain F.initEntry (wpAny_check_init_subT F (T.keeps up) (up _ _ hC) hx rfl ?_))
 wp_walk
 have hy:((zdv hh C []).push { cls:=.type "tuple",data:=.seq #[] }).get? (hh.objs.size+1)=some (zeu C hh.objs.size):=Heap.get?_push_of_some _ hx
 refine And.intro rfl (k _ { cls:=.ref C,data:=.fields #[.ref (zdv hh C []).objs.size,.none,.none,.none,.bool false,.none] } (fun b o e=>?_) ?_ rfl rfl rfl ⟨_,rfl⟩)
 ·refine(Heap.get?_update_ne _ _ _ _ (Nat.ne_of_lt (Nat.lt_succ_of_lt (Heap.lt_size e)))).trans (Heap.get?_push_of_some _ (up _ _ e))
 ·exact Heap.get?_update_self _ hy rfl
end
section
variable {X:Cx} {C:Addr} {x:Str} {p pos:Pos}
theorem zrl{pins:List (Addr×Obj)}{σ:St}{H:Hp}{s:Shared}{A:Around}{E:Value->Shared->Prop}{Q:Value->Shared->Prop}{a:Addr}{fs:List (Str×V)}{c:Value}{b:Bool}(I:Inv X pins σ H s)(xv:XV H a C fs)(Y:XI X.K C)
  (e:PySem.W.kitOne X.K (.ref C) c=some b) (h:∀ tk,Q (.bool b) { s with toks:=tk }):wpAny (model X.prog X.w) A (call (.builtin "isinstance") [.ref a,c]) Q E s:=by
 obtain⟨ox,ea,ec,en,z⟩:=xv
 obtain⟨ha,_⟩:=I.hok a _ ea
 have Z:∃ od,InstAt s.heap a ox C od:=by
  rcases z with ⟨_,ed⟩ | ⟨od,dx,ed,edx⟩
  ·exact⟨none,ha,ec,en,by rw [ed]; trivial⟩
  ·obtain⟨hdx,_⟩:=I.hok dx _ edx
   exact⟨some od,ha,ec,en,by rw [ed]; exact hdx⟩
 obtain⟨od,Z⟩:=Z
 exact PySem.W.kia_one (zig Y) I.kIn Z e (fun z=>nomatch z) h
end
end L2
namespace L2
open PySem PySem.Spec PyProof.Rows
open PySem.W (Looks InstAt)
def ztS(a C:Addr)(d tb:Option Addr)(h:Heap):Prop:=∃ oe vs,h.get? a=some oe/\oe.cls=.ref C/\oe.dict=d/\oe.data=.fields vs/\vs[1]?=some (tb.elim .none .ref)/\(tb=none->∃ p,oe={ zeu C p with dict:=d })
def pTb(T:Addr)(h:Heap):Prop:=∃ oT ts,h.get? T=some oT/\oT.data=.fields ts/\ts[3]?=some .none
def zfz(a C:Addr)(d tb:Option Addr):HO:=.ext (ztS a C d tb)
def xTb(T:Addr):HO:=.ext (pTb T)
def zhv(H:Hp)(a C:Addr)(fs:List (Str×V)):Prop:=∃ d tb,H a=some (zfz a C d tb)/\(∀ T,tb=some T->H T=some (xTb T)/\T≠a) /\
 ((fs=[]/\d=none)\/∃ od dx,d=some dx/\H dx=some (.frz od (.xd fs)))
theorem zhw{P:Program}{w:World}{H:Hp}{h:Heap}{a C:Addr}{d tb:Option Addr}(x:ztS a C d tb h):zbq P w H h a (zfz a C d tb):=by
 obtain⟨oe,vs,h1,h2⟩:=x
 exact⟨⟨oe,vs,h1,h2⟩,⟨oe,h1⟩,fun h1 h2 ⟨oe,vs,z1,z2⟩ k=>⟨oe,vs,k _ z1,z2⟩⟩
theorem zjd{P:Program}{w:World}{H:Hp}{h:Heap}{a:Addr}(x:pTb a h):zbq P w H h a (xTb a):=by
 obtain⟨oe,vs,h1,h2⟩:=x
 exact⟨⟨oe,vs,h1,h2⟩,⟨oe,h1⟩,fun h1 h2 ⟨oe,vs,z1,z2⟩ k=>⟨oe,vs,k _ z1,z2⟩⟩
section
variable {X:Cx} {pins:List (Addr×Obj)} {σ:St} {H:Hp} {s:Shared} {h':Heap}
theorem Inv.slots(I:Inv X pins σ H s)(z:Heap.SlotsOnly (frs X.stack) s.heap h'):Inv X pins σ H { s with heap:=h' }:=by
 obtain⟨z1,z2,z3⟩:=z
 have sub:=I.stkSub
 have sfree:=I.stkFree
 have trk:∀ b u,H b=some u->h'.get? b=s.heap.get? b:=fun b u e=>z2 b fun hb=>by rw [sfree b hb]at e; cases e
 have old:∀ b o,X.s₀.heap.get? b=some o->b∉X.fs->b∉frs X.stack:=fun b o e hn hb=>by
  rcases List.mem_cons.mp (sub b hb)with q | q
  ·have h1:=Heap.lt_size e
   have h2:=I.ok.above
   rw [q]at h1
   exact absurd (Nat.lt_of_lt_of_le h1 h2) (Nat.lt_irrefl _)
  ·exact hn q
 refine⟨I.ok,I.os,I.bare,⟨fun b o e n hc hx=>?_,fun b o e n hc hx=>?_,I.base.free,fun b o e hx=>?_,I.base.tups,I.base.frzs,I.base.tbls⟩,?_,fun x c e=>?_,I.free,I.freeC,fun p hp=>?_,fun b u e=>?_,I.len⟩
 ·exact(z2 b (old b o e hc)).trans (I.base.keep b o e n hc hx)
 ·obtain⟨sl,q⟩:=I.base.slot b o e n hc hx
  obtain⟨sl',q'⟩:=z3 b _ q
  exact⟨sl',q'⟩
 ·obtain⟨o',q⟩:=I.base.there b o e hx
  obtain⟨sl',q'⟩:=z3 b _ q
  exact⟨_,q'⟩
 ·obtain⟨m,⟨o,es,ep,ho,hd,r⟩,hl⟩:=I.loc
  obtain⟨sl,hs⟩:=z3 _ _ ho
  refine⟨m,⟨_,es,ep,hs,hd,r⟩,fun i x v e1 e2 e3=>?_⟩
  obtain⟨u,ru,lk⟩:=hl i x v e1 e2 e3
  refine⟨u,ru,?_⟩
  rcases lk with lk | ⟨k,c,ec,oc,hoc,hdc⟩
  ·exact .inl lk
  ·obtain⟨sl,hs⟩:=z3 _ _ hoc
   exact .inr ⟨k,c,ec,_,hs,hdc⟩
 ·obtain⟨v,oc,hoc,hdc⟩:=I.cell x c e
  obtain⟨sl,hs⟩:=z3 _ _ hoc
  exact⟨v,_,hs,hdc⟩
 ·obtain⟨h1,h2,h3,h4,h5⟩:=I.pin p hp
  refine⟨(z2 _ fun hb=>?_).trans h1,h2,h3,h4,h5⟩
  rcases List.mem_cons.mp (sub _ hb)with q | q
  ·exact h3 q
  ·exact h4 q
 ·refine(I.hok b u e).stay (fun c v hc r=>?_) (fun _ r=>r) fun _ _ r=>r
  rcases hc with rfl | hc
  ·exact(trk _ _ e).trans r
  ·exact(trk _ _ hc).trans r
theorem zg5{M:Model}{A:Around}{E E':Value->Shared->Prop}{Q:Unit->Shared->Prop}{outer:List Env}{a C:Addr}{fs:List (Str×V)}(I:Inv X pins σ H s)(hA:A.frames=some X.stack)(hst:X.stack=X.env::outer)(hf:X.env.frame=some X.env.locals)(fl:zhv H a C fs)
  (k:∀ h' H',Inv X pins σ H' { s with heap:=h' }->zhv H' a C fs->(∀ b o,b≠a->H b=some o->H' b=some o)->(∀ b,H' b=none->H b=none)->Q () { s with heap:=h' }) :
  wpAny M A (noteFrame (.ref a) X.env) (fun _ s1=>wpAny M A (setFlight (.ref a) none) Q E' s1) E s:=by
 obtain⟨d,tb,ea,et,ed⟩:=fl
 obtain⟨⟨oe,vs,he,hc,hd',hv,h1,_⟩,_⟩:=I.hok a _ ea
 have hsz:1 < vs.size:=(Array.getElem?_eq_some_iff.mp h1).1
 have nf:∀ {b u} {H2:Hp} {s2:Shared},Inv X pins σ H2 s2->H2 b=some u->b∉frs X.stack:=fun I2 e hb=>by rw [I2.stkFree _ hb]at e; cases e
 have main:∀ (s2:Shared) (head:Value) (hn:Bool),s2={ s with heap:=s2.heap }->Inv X pins σ H s2->s2.heap.get? a=some oe ->
   wpAny M A (do let b <-frameOf X.env; let pl <-entryPlaceOf X.env.locals hn; let c <-EntryCells.newEntry head b .none (rawInt X.env.locals) .none pl; setField (.ref a) 1 c) (fun _ s1=>wpAny M A (setFlight (.ref a) none) Q E' s1) E s2:=by
  intro s2 head hn es2 I2 he2
  refine wpAny_bind (wpAny_frameOf_fun (base:=X.base) (by rw [hA,hst]) (by rw [<-hst]; exact I2.stack) hf fun h₁ hs₁=>?_)
  rw [show((X.env::outer).filterMap (·.frame))=frs X.stack by rw [hst]; rfl]at hs₁
  have I3:=I2.slots hs₁
  have he3:h₁.get? a=some oe:=(hs₁.2.1 a (nf I2 ea)).trans he2
  refine wpAny_bind (wpAny_entryPlaceOf fun pl hpl=>?_)
  unfold EntryCells.newEntry newFields
  refine wpAny_bind (wpAny_newObj_type ?_ (hpl.sizeOk5 _ _ _ _ _))
  generalize hoT:(({ cls:=.type "traceback",dict:=none,data:=.fields ([head,.ref X.env.locals,.none,rawInt X.env.locals,.none]++(if pl.isEmpty then List.replicate 6 Value.none else pl)).toArray }):Obj)=oT
  have hTd:oT.data=.fields ([head,.ref X.env.locals,.none,rawInt X.env.locals,.none]++(if pl.isEmpty then List.replicate 6 Value.none else pl)).toArray:=by rw [<-hoT]
  have hTf:oT.isFreed=false:=Obj.isFreed_of_fields hTd
  have he4:=Heap.get?_push_of_some (h:=h₁) oT he3
  refine wpAny_setField he4 hv hsz ?_
  have hTe:h₁.objs.size≠a:=Nat.ne_of_gt (Heap.lt_size he3)
  have hd5:=Obj.data_mapFields hv (·.setIfInBounds 1 (Value.ref h₁.objs.size))
  have he5:=Heap.get?_update_self (Obj.mapFields (·.setIfInBounds 1 (Value.ref h₁.objs.size))) he4 (Obj.isFreed_of_fields hd5)
  have hT4:(h₁.push oT).get? h₁.objs.size=some oT:=Heap.get?_push_size h₁ hTf
  have hT5:=(Heap.get?_update_other (h₁.push oT) (Obj.mapFields (·.setIfInBounds 1 (Value.ref h₁.objs.size))) (Ne.symm hTe)).trans hT4
  unfold setFlight
  refine wpAny_bind (wpAny_field he5 hd5 (x:=.ref h₁.objs.size) (by simp [hsz]) ?_)
  rw [if_pos (show(Value.ref h₁.objs.size != Value.none)=true from by simp)]
  refine wpAny_setField hT5 hTd (by simp only [List.size_toArray,List.length_append,List.length_cons,List.length_nil]<;>omega) ?_
  have hd6:=Obj.data_mapFields hTd (·.setIfInBounds 3 ((none:Option Addr).elim Value.none fun f=>rawInt f))
  have hT6:=Heap.get?_update_self (Obj.mapFields (·.setIfInBounds 3 ((none:Option Addr).elim Value.none fun f=>rawInt f))) hT5 (Obj.isFreed_of_fields hd6)
  have he6:=(Heap.get?_update_other ((h₁.push oT).update a (Obj.mapFields (·.setIfInBounds 1 (Value.ref h₁.objs.size)))) (Obj.mapFields (·.setIfInBounds 3 ((none:Option Addr).elim Value.none fun f=>rawInt f))) hTe).trans he5
  have hTn:H h₁.objs.size=none:=I3.hok.fresh (Nat.le_refl _)
  have I4:=I3.laid (a:=h₁.objs.size) (o:=.ext fun h=>∃ o,h.get? h₁.objs.size=some o) (h':=h₁.push oT) (t':=s2.toks) (fun b u e=>Heap.get?_push_of_some _ e) (Nat.le_refl _) ⟨⟨_,hT4⟩,⟨_,hT4⟩,fun x y ⟨o,z⟩ k=>⟨o,k _ z⟩⟩
  have I5:=I4.write (x:=a) (e:=a) (o:=zfz a C d (some h₁.objs.size)) (h':=(h₁.push oT).update a (Obj.mapFields (·.setIfInBounds 1 (Value.ref h₁.objs.size)))) (t':=s2.toks) (by rw [zz (Ne.symm hTe),ea]; trivial) (.inl rfl)
   (fun b u nb e=>(Heap.get?_update_other _ _ (Ne.symm nb)).trans e) ⟨_,he5⟩ (zhw ⟨_,_,he5,(Obj.cls_mapFields _ _).trans hc,by obtain⟨c1,c2,c3,c4⟩:=oe; cases c3<;>exact hd',hd5,by simp [hsz],fun z=>nomatch z⟩)
  have I6:=I5.write (x:=h₁.objs.size) (e:=h₁.objs.size) (o:=xTb h₁.objs.size) (h':=((h₁.push oT).update a (Obj.mapFields (·.setIfInBounds 1 (Value.ref h₁.objs.size)))).update h₁.objs.size (Obj.mapFields (·.setIfInBounds 3 ((none:Option Addr).elim Value.none fun f=>rawInt f)))) (t':=s2.toks)
   (by rw [zz hTe,zA]; trivial) (.inl rfl) (fun b u nb e=>(Heap.get?_update_other _ _ (Ne.symm nb)).trans e) ⟨_,hT6⟩ (zjd ⟨_,_,hT6,hd6,by simp⟩)
  have ee:({ s2 with heap:=((h₁.push oT).update a (Obj.mapFields (·.setIfInBounds 1 (Value.ref h₁.objs.size)))).update h₁.objs.size (Obj.mapFields (·.setIfInBounds 3 ((none:Option Addr).elim Value.none fun f=>rawInt f))) }:Shared) =
    { s with heap:=((h₁.push oT).update a (Obj.mapFields (·.setIfInBounds 1 (Value.ref h₁.objs.size)))).update h₁.objs.size (Obj.mapFields (·.setIfInBounds 3 ((none:Option Addr).elim Value.none fun f=>rawInt f))) }:=by rw [es2]
  have kk:∀ b o,b≠a->H b=some o->upd (upd (upd H h₁.objs.size (.ext fun h=>∃ o,h.get? h₁.objs.size=some o)) a (zfz a C d (some h₁.objs.size))) h₁.objs.size (xTb h₁.objs.size) b=some o:=fun b o nb e=>by
   have nT:b≠h₁.objs.size:=fun z=>by rw [z,hTn]at e; cases e
   rw [zz nT,zz nb,zz nT]; exact e
  have fin:=k _ _ (by rw [<-ee]; exact I6) ⟨d,some h₁.objs.size,by rw [zz (Ne.symm hTe),zA],fun T eT=>by cases eT; exact⟨zA,hTe⟩,?_⟩ kk (fun b e=>?_)
  ·rw [<-ee]at fin; exact fin
  ·rcases ed with ed | ⟨od,dx,e1,e2⟩
   ·exact .inl ed
   ·exact .inr ⟨od,dx,e1,kk dx _ (fun z=>by rw [z,ea]at e2; cases e2) e2⟩
  ·by_cases b1:b=h₁.objs.size
   ·rw [b1,zA]at e; cases e
   ·rw [zz b1]at e
    by_cases b2:b=a
    ·rw [b2,zA]at e; cases e
    ·rw [zz b2,zz b1]at e; exact e
 unfold noteFrame
 simp only [hf]
 cases tb with
 | none =>
  refine wpAny_bind (wpAny_field (x:=.none) he hv h1 ?_)
  rw [if_neg (by decide)]
  exact main s .none _ rfl I he
 | some T =>
  obtain⟨eT,nT⟩:=et T rfl
  obtain⟨⟨oT,ts,hT,hdT,h3⟩,_⟩:=I.hok T _ eT
  refine wpAny_bind (wpAny_field (x:=.ref T) he hv h1 ?_)
  rw [if_pos (show(Value.ref T != Value.none)=true from by simp)]
  refine wpAny_bind (wpAny_field hT hdT h3 ?_)
  rw [if_neg (show ¬((Value.none==rawInt X.env.locals)=true) from by simp [rawInt])]
  refine wpAny_bind (wpAny_setField hT hdT (Array.getElem?_eq_some_iff.mp h3).1 ?_)
  have hd7:=Obj.data_mapFields hdT (·.setIfInBounds 3 Value.none)
  have hT7:=Heap.get?_update_self (Obj.mapFields (·.setIfInBounds 3 Value.none)) hT (Obj.isFreed_of_fields hd7)
  have I7:=I.write (x:=T) (e:=T) (o:=xTb T) (h':=s.heap.update T (Obj.mapFields (·.setIfInBounds 3 Value.none))) (t':=s.toks) (by rw [eT]; trivial) (.inl rfl) (fun b u nb e=>(Heap.get?_update_other _ _ (Ne.symm nb)).trans e) ⟨_,hT7⟩
   (zjd ⟨_,_,hT7,hd7,by have:=(Array.getElem?_eq_some_iff.mp h3).1; simp [this]⟩)
  have eu:upd H T (xTb T)=H:=by
   funext b
   unfold upd
   split
   ·rename_i z; rw [z,eT]
   ·rfl
  rw [eu]at I7
  exact main { s with heap:=s.heap.update T (Obj.mapFields (·.setIfInBounds 3 Value.none)) } (.ref T) _ rfl I7 ((Heap.get?_update_other _ _ nT).trans he)
end
end L2
namespace L2
open PySem PySem.Spec PyProof.Rows
open PySem.W (Looks InstAt)
abbrev EXT:=St->Addr->Hp->Prop
def zeH(X:Cx)(EX:EXT):Prop:=∀ (pins:List (Addr×Obj)) (σ:St) (H:Hp) (s:Shared) (a:Addr),Inv X pins σ H s->EX σ a H->X.xe (.ref a) s
section
variable {X:Cx} {EX:EXT} {e:Expr} {te:TE} {pos:Pos}
def zje(K:PySem.W.Frag)(EX:EXT)(te:TE):TS:=fun _ σ H=>te σ H fun v H1=>∃ a C d,v=.ref a/\H1 a=some (zfz a C d none)/\XC K C/\EX σ a H1
theorem zl5(hx:zeH X EX)(hh:X.A.handled=none)(he:PE X e te):PS X (.Raise (some e) none pos) (zje X.K EX te):=by
 intro pins s σ H D I h
 rw [arm_exec_Raise]
 simp only [evalOpt,Option.map]
 refine wpAny_bind (wpAny_standAt ?_)
 unfold raiseStmt
 refine wpAny_bind (wpAny_bind (thn (he pins s σ H _ I h) fun u s1 ⟨v,H1,I1,rv,a,C,d,ev,ea,xc,q⟩=>wpAny_bind (wpAny_standAt (wpAny_pure ?_))))
 subst ev
 obtain rfl:u=Value.ref a:=rv
 obtain⟨⟨oe,vs,hea,_,_,_,_,hp⟩,_⟩:=I1.hok a _ ea
 obtain⟨p,rfl⟩:=hp rfl
 replace hea:s1.heap.get? a=some { cls:=.ref C,dict:=d,data:=.fields #[.ref p,.none,.none,.none,.bool false,.none] }:=hea
 obtain⟨nm,qn,N,bs,bm,sn,sub,ab,col,dd,k0,k1,k2,k3,k5,eC,tl⟩:=xc.at_
 have hC:=I1.kIn _ _ eC
 have hcb:xUp.contains (.type "BaseException")=true:=by decide
 have hcB:(Value.ref C::bm).contains (.type "BaseException")=true:=by rw [List.contains_cons,(PySem.W.tail_of_in I1.kIn tl).hasType hcb,Bool.or_true]
 have fin:=hx pins σ H1 s1 a I1 q
 obtain⟨hp1,g,dr,tk,os⟩:=s1
 repeat (first | with_reducible refine wpAny_loadPart_at hea ?_ | with_reducible refine wpAny_loadPart_at hC ?_ | (with_reducible refine wpAny_isSubtype_exc hC ?_; rw [hcB]) | wp_step)
 exact wpAny_raiseNew_none hh fin
end
def zrm(K:PySem.W.Frag)(f:Str):Sp:=fun vs H Q _=>∃ a C p v,vs=[.ref a,v]/\H a=some (zjb a C p)/\XC K C/\zcW K C f /\
 ∀ dx od,H dx=none->dx≠a->Q .non (upd (upd H dx (.frz od (.xd [(f,v)]))) a (zfz a C (some dx) none))
theorem zob{P:Program}{w:World}{fs:List Addr}{H H':Hp}{h h':Heap}{a:Addr}{φ:Heap->Prop}{o u:HO}(un:Un fs [] H H' h h')(hok:HOk P w H' h')(ea:H a=some (.ext φ))(ea':H' a=some o)(no:∀ xs,o≠.tup xs)(nw:∀ x,o≠.own x)(new:zbq P w (upd H' a u) h' a u) :
  Un fs [] H (upd H' a u) h h'/\HOk P w (upd H' a u) h':=by
 have ne:∀ b,(∀ ψ,H b≠some (.ext ψ))->b≠a:=fun b q z=>by subst z; exact q _ ea
 refine⟨⟨un.keep,un.slot,fun b ob q n hx=>?_,un.there,fun b xs q=>?_,fun b ob v q=>?_,fun b ps q=>?_⟩,fun b v q=>?_⟩
 ·rw [zz (ne b fun ψ z=>by rw [n]at z; cases z)]; exact un.free b ob q n hx
 ·rw [zz (ne b fun ψ z=>by rw [q]at z; cases z)]; exact un.tups b xs q
 ·rw [zz (ne b fun ψ z=>by rw [q]at z; cases z)]; exact un.frzs b ob v q
 ·obtain⟨m,e⟩:=un.tbls b ps q
  exact⟨m,by rw [zz (ne b fun ψ z=>by rw [q]at z; cases z)]; exact e⟩
 ·by_cases hb:b=a
  ·subst hb
   rw [zA]at q
   cases q
   exact new
  ·rw [zz hb]at q
   refine(hok b v q).stay (fun _ _ _ r=>r) (fun c r=>?_) fun c xs r=>?_
   ·rw [zz fun z=>by subst z; rw [ea']at r; cases r; exact nw _ rfl]; exact r
   ·rw [zz fun z=>by subst z; rw [ea']at r; cases r; exact no _ rfl]; exact r
section
variable {X:Cx} {C:Addr} {x:Str} {p pos:Pos}
def zga(C:Addr):TE:=fun σ H Q=>∀ a,H a=none->Q (.ref a) (upd H a (zfz a C none none))
theorem zjf(Y:XC X.K C)(hi:PySem.W.findIn X.K (.ref C) "__init__"=some (some (.builtin "ValueError.__init__")))(kp:PySem.W.keepIn X.K (.ref C)=true)(hg:Gl X x)(hm:X.mg x=some (.ref C))(hdb:(x==("__debug__":Str))=false:=by decide) :
  PE X (.Call (.Name x p) [] [] pos) (zga C):=by
 intro pins s σ H Q I h
 refine wpAny_Call_Name_kw (zdE I hg hm ?_ hdb)
 refine PySem.W.callWith_K0 I.kIn kp (wpAny_call (zoa Y I.kIn hi fun h' ox up hx h1 h2 h3 h4=>?_))
 obtain⟨q,rfl⟩:=h4
 have I2:=I.laid (a:=s.heap.objs.size+1) (o:=zfz (s.heap.objs.size+1) C none none) (h':=h') (t':=s.toks) up (Nat.le_succ _) (zhw ⟨_,_,hx,rfl,rfl,rfl,rfl,fun _=>⟨q,rfl⟩⟩)
 exact⟨.ref (s.heap.objs.size+1),_,I2,rfl,h _ (I.hok.fresh (Nat.le_succ _))⟩
end
def CXv(P:Program)(w:World):CXT:=fun outer H s E e s'=>∃ a H',e=.ref a/\s'.os=s.os/\AllBare s'.gens/\Un (frs outer) [] H H' s.heap s'.heap/\HOk P w H' s'.heap/\E e none H'
section
variable {X:Cx} {EX:EXT} {k:Nat} {f:Addr} {fd:FuncData} {ps:List Str} {sp:Sp} {x:Str} {p pos:Pos} {e:Expr} {es:List Expr} {t:TA}
def zrn(EX:EXT)(σ:St):XK:=fun u _ H'=>∃ a,u=.ref a/\EX σ a H'
def zjg(sp:Sp)(EX:EXT)(t:TA):TE:=fun σ H Q=>t σ H fun vs H1=>sp vs H1 Q (zrn EX σ)
theorem zoc{pins:List (Addr×Obj)}{σ:St}{H:Hp}{s:Shared}{Q:VK}{us:List Value}{vs:List V}(F:FnOk X.prog X.w X.K X.mg X.base (CXv X.prog X.w) k f fd ps sp)(hr:Room k X.A)(hb:zcX X.K fd ps [])(hx:zeH X EX)
  (I:Inv X pins σ H s) (r:zM vs us) (h:sp vs H Q (zrn EX σ)):wpAny (model X.prog X.w) X.A (call (.ref f) us) (EP X pins σ Q) X.xe s:=by
 have hl:(us++[]).length=ps.length:=by rw [List.append_nil,<-r.length]; exact F.len _ _ _ _ h
 have hb2:=hb s us I.kIn hl
 rw [List.append_nil]at hb2
 refine wpAny_call (codeAny_mono (F.run X.A X.stack s H ⟨us,[]⟩ us vs Q (zrn EX σ) hr I.env0 hb2 r h) fun r s' hq=>?_)
 cases r with
 | error e =>
  obtain⟨a,H',rfl,os,bare,un,hok,a',ea,q⟩:=hq
  cases ea
  obtain⟨hh,g,d,t,os'⟩:=s'
  obtain rfl:os'=s.os:=os
  exact hx pins σ H' _ a (I.call (h':=hh) (g':=g) (d':=d) (t':=t) (ch:=[]) un hok bare (fun b z=>absurd z (by simp))) q
 | ok fl =>
  cases fl with
  | ret u=>exact I.after hq
  | next=>exact False.elim hq
  | brk=>exact False.elim hq
  | cont=>exact False.elim hq
theorem zl6(F:FnOk X.prog X.w X.K X.mg X.base (CXv X.prog X.w) k f fd ps sp)(hr:Room k X.A)(hg:Gl X x)(hm:X.mg x=some (.ref f))(hk:PySem.W.keepIn X.K (.ref f)=true)(hb:zcX X.K fd ps [])(hx:zeH X EX)
  (ha:PA X (e::es) t) (hdb:(x==("__debug__":Str))=false:=by decide) (he:starEach (e::es) X.env=(false,eval e X.env)::starEach es X.env:=by rfl) (hpl:(backTo pos (starEach es X.env)).any (·.1)=false:=by rfl) :
  PE X (.Call (.Name x p) (e::es) [] pos) (zjg sp EX t):=by
 intro pins s σ H Q I h
 refine wpAny_Call_Name_kw (zdE I hg hm ?_ hdb)
 refine PySem.W.callWith_K (h₀:=X.base) I.ok.mod.kin hk (thn (ha pos pins s σ H _ I h) fun us s1 ⟨vs,H1,I1,r,q⟩=>⟨I1.kIn,?_⟩) he hpl
 exact zoc F hr hb hx I1 r q
def EXd(E:XK):EXT:=fun _ a H=>∃ C fs,zhv H a C fs/\∀ H',zhv H' a C fs->(∀ b o,b≠a->H b=some o->H' b=some o)->(∀ b,H' b=none->H b=none)->E (.ref a) none H'
theorem ztT{P:Program}{w:World}{K:PySem.W.Frag}{mg:Str->Option Value}{base:Heap}{N:List Str}{qual:Str}{scope:Scope}{f:Addr}{cd:Value}{A:Around}{outer:List Env}{s:Shared}{H:Hp}{E:XK} :
  zeH (zfv (CXv P w) P w K mg base N qual scope f cd A outer s H E) (EXd E):=by
 intro pins σ H1 s1 a I ⟨C,fs,fl,q⟩
 show wpAny _ _ (leaving _ _) _ _ _
 unfold leaving
 refine wpAny_bind (zg5 (outer:=outer) I I.ok.frames rfl rfl fl fun h' H' I' fl' k1 k2=>?_)
 exact⟨a,H',rfl,I'.os,I'.bare,I'.base,I'.hok,q H' fl' k1 k2⟩
end
end L2
namespace L2
open PySem PySem.Spec PyProof.Rows
open PySem.W (Looks InstAt)
abbrev Cx.body(X:Cx)(pn:List (Addr×Obj))(E:Value->Shared->Prop):Cx:={ X with pn:=pn,xe:=E }
abbrev Cx.held(X:Cx)(a:Addr):Cx:={ X with A:=X.A.mark (some (.ref a)),calm:=false,xe:=fun _ _=>False }
section
variable {X:Cx} {pins:List (Addr×Obj)} {σ:St} {H:Hp} {s:Shared} {E:Value->Shared->Prop} {a:Addr} {pn:List (Addr×Obj)}
theorem Cx.Ok.body(ok:X.Ok):(X.body pn E).Ok:=⟨ok.mod,ok.kind,ok.glob,ok.blt,ok.above,ok.inj,ok.has,ok.cab,ok.hd,ok.frames,ok.stk,ok.exf,ok.bs,ok.bsz,ok.noex,ok.exfs,ok.funs,ok.frf⟩
theorem Cx.Ok.held(ok:X.Ok):(X.held a).Ok:=⟨ok.mod,ok.kind,ok.glob,ok.blt,ok.above,ok.inj,ok.has,ok.cab,(fun z=>by cases z),ok.frames,ok.stk,ok.exf,ok.bs,ok.bsz,ok.noex,ok.exfs,ok.funs,ok.frf⟩
theorem Inv.body(I:Inv X pins σ H s):Inv (X.body (X.pn++pins) E) [] σ H s:=⟨I.ok.body,I.os,I.bare,I.base,I.loc,I.cell,I.free,I.freeC,fun p hp=>I.pin p (by simpa using hp),I.hok,I.len⟩
theorem Inv.unbody{pins':List (Addr×Obj)}(ok:X.Ok)(I:Inv (X.body (X.pn++pins) E) pins' σ H s):Inv X pins σ H s:=⟨ok,I.os,I.bare,I.base,I.loc,I.cell,I.free,I.freeC,fun p hp=>I.pin p (List.mem_append_left _ hp),I.hok,I.len⟩
theorem Inv.held(I:Inv X pins σ H s):Inv (X.held a) pins σ H s:=⟨I.ok.held,I.os,I.bare,I.base,I.loc,I.cell,I.free,I.freeC,I.pin,I.hok,I.len⟩
theorem Inv.unheld(ok:X.Ok)(I:Inv (X.held a) pins σ H s):Inv X pins σ H s:=⟨ok,I.os,I.bare,I.base,I.loc,I.cell,I.free,I.freeC,I.pin,I.hok,I.len⟩
theorem zjh{M:Model}{A:Around}{E:Value->Shared->Prop}{Q:Unit->Shared->Prop}{C:Addr}{fs:List (Str×V)}(I:Inv X pins σ H s)(fl:zhv H a C fs)(k:∀ h',Inv X pins σ H { s with heap:=h' }->Q () { s with heap:=h' }) :
  wpAny M A (setFlight (.ref a) none) Q E s:=by
 obtain⟨d,tb,ea,et,ed⟩:=fl
 obtain⟨⟨oe,vs,he,hc,hd',hv,h1,_⟩,_⟩:=I.hok a _ ea
 unfold setFlight
 cases tb with
 | none =>
  refine wpAny_bind (wpAny_field (x:=.none) he hv h1 ?_)
  rw [if_neg (by decide)]
  exact wpAny_pure (k s.heap I)
 | some T =>
  obtain⟨eT,nT⟩:=et T rfl
  obtain⟨⟨oT,ts,hT,hdT,h3⟩,_⟩:=I.hok T _ eT
  refine wpAny_bind (wpAny_field (x:=.ref T) he hv h1 ?_)
  rw [if_pos (show(Value.ref T != Value.none)=true from by simp)]
  refine wpAny_setField hT hdT (Array.getElem?_eq_some_iff.mp h3).1 ?_
  have hd7:=Obj.data_mapFields hdT (·.setIfInBounds 3 ((none:Option Addr).elim Value.none fun f=>rawInt f))
  have hT7:=Heap.get?_update_self (Obj.mapFields (·.setIfInBounds 3 ((none:Option Addr).elim Value.none fun f=>rawInt f))) hT (Obj.isFreed_of_fields hd7)
  have I7:=I.write (x:=T) (e:=T) (o:=xTb T) (h':=s.heap.update T (Obj.mapFields (·.setIfInBounds 3 ((none:Option Addr).elim Value.none fun f=>rawInt f)))) (t':=s.toks) (by rw [eT]; trivial) (.inl rfl) (fun b u nb e=>(Heap.get?_update_other _ _ (Ne.symm nb)).trans e) ⟨_,hT7⟩
   (zjd ⟨_,_,hT7,hd7,by have:=(Array.getElem?_eq_some_iff.mp h3).1; simp [this]⟩)
  have eu:upd H T (xTb T)=H:=by
   funext b
   unfold upd
   split
   ·rename_i z; rw [z,eT]
   ·rfl
  rw [eu]at I7
  exact k _ I7
theorem zed{M:Model}{A:Around}{E:Value->Shared->Prop}{Q:Unit->Shared->Prop}{i:Nat}{n:Str}{pos:Pos}(I:Inv X pins σ H s)(hN:X.N.Nodup)(hi:X.N[i]?=some n)(hx:X.env.scope.names.lookup n=some .local)
  (h:∀ s',Inv X pins (σ.set i none) H s'->Q () s'):wpAny M A (do bindName X.env n .none; unbindBehindTheSuite X.env n pos) Q E s:=by
 obtain⟨m,hn,hl⟩:=id I.loc
 have hcls:(X.env.scope.kind==.class || (X.env.scope.kind==.module && X.env.locals != X.env.globals))=false:=by rw [I.ok.kind]; rfl
 have hiσ:i < σ.length:=by rw [I.len]; exact(List.getElem?_eq_some_iff.mp hi).1
 refine wpAny_nameGoes_keeps hx hn hcls fun h' v hn' hs=>h _ ?_
 refine Inv.tok (s:={ s with heap:=h' }) ?_ _
 refine⟨I.ok,I.os,I.bare,⟨fun b o e n hb hx=>?_,fun b o e n hb hx=>?_,I.base.free,fun b o e hx=>?_,I.base.tups,I.base.frzs,I.base.tbls⟩,⟨_,hn',fun j y v' e1 e2 e3=>?_⟩,fun y c e=>?_,I.free,I.freeC,fun p hp=>?_,fun b u e=>?_,by simpa using I.len⟩
 ·exact(hs.2 b (Nat.ne_of_lt (Nat.lt_of_lt_of_le (Heap.lt_size e) I.ok.above))).trans (I.base.keep b o e n hb hx)
 ·obtain⟨sl,e1⟩:=I.base.slot b o e n hb hx
  exact⟨sl,(hs.2 b (Nat.ne_of_lt (Nat.lt_of_lt_of_le (Heap.lt_size e) I.ok.above))).trans e1⟩
 ·obtain⟨o',e1⟩:=I.base.there b o e hx
  exact⟨o',(hs.2 b (Nat.ne_of_lt (Nat.lt_of_lt_of_le (Heap.lt_size e) I.ok.above))).trans e1⟩
 ·by_cases hj:j=i
  ·subst hj
   rw [List.getElem?_set_self hiσ]at e2
   cases e2
  ·rw [List.getElem?_set_ne (Ne.symm hj)]at e2
   obtain⟨u',r',q⟩:=hl j y v' e1 e2 e3
   refine⟨u',r',?_⟩
   rcases q with ⟨k,e⟩ | ⟨k,c,e,z⟩
   ·refine .inl ⟨k,?_⟩
    have:y≠n:=fun e=>hj (zfX hN e1 (e▸hi))
    simp [this,e]
   ·exact .inr ⟨k,c,e,z.sameBut hs (I.cne y c e)⟩
 ·obtain⟨w',z⟩:=I.cell y c e
  exact⟨w',z.sameBut hs (I.cne y c e)⟩
 ·obtain⟨e,n,ne,nf,d⟩:=I.pin p hp
  exact⟨(hs.2 p.1 ne).trans e,n,ne,nf,d⟩
 ·refine(I.hok b u e).stay (fun c w' hc q=>(hs.2 c ?_).trans q) (fun _ q=>q) fun _ _ q=>q
  rintro rfl
  rcases hc with rfl | hc
  ·rw [I.free]at e; cases e
  ·rw [I.free]at hc; cases hc
end
def ztU(D:Ends)(i:Nat):Ends:={ nx:=fun σ H=>D.nx (σ.set i none) H,rt:=D.rt,bk:=fun σ H=>D.bk (σ.set i none) H,ct:=fun σ H=>D.ct (σ.set i none) H }
def EXt(K:PySem.W.Frag)(C':Addr)(i:Nat)(th:TS)(D:Ends):EXT:=fun σ a H=>∃ C fs,zhv H a C fs/\XC K C/\PySem.W.mroIn K C (.ref C')=some true /\
 ∀ H',XV H' a C fs->(∀ b o,b≠a->H b=some o->H' b=some o)->(∀ b,H' b=none->H b=none)->th (ztU D i) (σ.set i (some (.ref a))) H'
def zro(K:PySem.W.Frag)(C':Addr)(i:Nat)(tb:EXT->TS)(th:TS):TS:=fun D σ H=>tb (EXt K C' i th D) D σ H
section
variable {prog:Program} {w:World} {A:Around} {E:Value->Shared->Prop} {K:PySem.W.Frag} {C C':Addr}
theorem zkV{h:Heap}{g:Array GenState}{d:Drawn}{t:Nat}{os:OsState}{e:Addr}{oe:Obj}{Q:Bool->Shared->Prop}(I:K.In h)(X:XC K C)(X':XC K C')(he:h.get? e=some oe)(hcls:oe.cls=.ref C)(hm:PySem.W.mroIn K C (.ref C')=some true)
  (hq:Q true ⟨h,g,d,t,os⟩):wpAny (model prog w) A (excMatches (.ref e) (.ref C')) Q E ⟨h,g,d,t,os⟩:=by
 obtain⟨nm,qn,N,bs,bm,sn,sub,ab,col,dd,k0,k1,k2,k3,k5,eC,tl⟩:=X.at_
 obtain⟨nm',qn',N',bs',bm',sn',sub',ab',col',dd',k0',k1',k2',k3',k5',eC',tl'⟩:=X'.at_
 have hC:=I _ _ eC
 have hC':=I _ _ eC'
 have hcb:xUp.contains (.type "BaseException")=true:=by decide
 have hcB':(Value.ref C'::bm').contains (.type "BaseException")=true:=by rw [List.contains_cons,(PySem.W.tail_of_in I tl').hasType hcb,Bool.or_true]
 have hcC:(Value.ref C::bm).contains (.ref C')=true:=by
  unfold PySem.W.mroIn PySem.W.clsIn at hm
  rw [eC]at hm
  simpa [excClassObj] using hm
 have f:=tc_notTuple
 unfold excMatches
 repeat (first | (with_reducible refine wpAny_loadPart_at he ?_; rw [hcls]) | with_reducible refine wpAny_loadPart_at hC' ?_ | (with_reducible refine wpAny_isSubtype_exc hC' ?_; rw [hcB']) | (with_reducible refine wpAny_isSubtype_exc hC ?_; rw [hcC]) | wp_step)
 exact hq
end
section
variable {X:Cx} {i:Nat} {n cls:Str} {C':Addr} {body suite:List Stmt} {b₀:Stmt} {tb:EXT->TS} {th:TS} {np hpos pos:Pos}
theorem zrp{outer:List Env}(hst:X.stack=X.env::outer)(hf:X.env.frame=some X.env.locals)(hN:X.N.Nodup)(hi:X.N[i]?=some n)(hl:X.env.scope.names.lookup n=some .local)(hg:Gl X cls)(hm:X.mg cls=some (.ref C'))(hC':XC X.K C')
  (hb:∀ (pn:List (Addr×Obj)) (E:Value->Shared->Prop) (EX:EXT),zeH (X.body pn E) EX->PSs (X.body pn E) body (tb EX))
  (hs:∀ a,PSs (X.held a) (b₀::suite) th) (hdb:(cls==("__debug__":Str))=false:=by decide) :
  PS X (.Try body [.ExceptHandler (some (.Name cls np)) (some n) (b₀::suite) hpos] [] [] pos) (zro X.K C' i tb th):=by
 intro pins s σ H D I h
 refine wpAny_Try_except ?_
 have run:=hb (X.pn++pins) (fun e s₁=>wpAny (model X.prog X.w) X.A (noteFrame e X.env) (fun _ s₂=>wpAny (model X.prog X.w) X.A (setFlight e none) (fun _ s₃ =>
  wpAny (model X.prog X.w) X.A (handleBy e X.env [.ExceptHandler (some (.Name cls np)) (some n) (b₀::suite) hpos]) (SP X pins D) X.xe s₃) X.xe s₂) X.xe s₁) (EXt X.K C' i th D) ?_ [] s σ H D I.body h
 ·refine wpAny_mono run (fun f s1 q=>?_) fun _ _ z=>z
  cases f with
  | next=>obtain⟨σ',H',I',q⟩:=q; exact wpAny_execs_nil ⟨σ',H',I'.unbody I.ok,q⟩
  | brk=>obtain⟨σ',H',I',q⟩:=q; exact⟨σ',H',I'.unbody I.ok,q⟩
  | cont=>obtain⟨σ',H',I',q⟩:=q; exact⟨σ',H',I'.unbody I.ok,q⟩
  | ret u=>obtain⟨v,σ',H',I',r,q⟩:=q; exact⟨v,σ',H',I'.unbody I.ok,r,q⟩
 ·intro pins' σ' H1 s1 a I1 ⟨C,fs,fl,xc,hmr,q⟩
  have J1:=I1.unbody I.ok
  refine zg5 (outer:=outer) J1 I.ok.frames hst hf fl fun h2 H2 J2 fl2 k1 k2=>?_
  obtain⟨d2,tb2,ea2,et2,ed2⟩:=id fl2
  obtain⟨⟨oe,vs,he,hc,hd',hv,h1,_⟩,_⟩:=J2.hok a _ ea2
  refine wpAny_handleBy_cons (codeAny_handlers_test (zdE (J2.held (a:=a)) hg hm ?_ hdb)) (by intro q; cases q)
  refine zkV J2.kIn xc hC' he hc hmr (codeAny_handlers_suite_as ?_)
  refine zjh J2 fl2 fun h3 J3=>?_
  refine zdT (v:=.ref a) J3 hN hi (.inl hl) rfl (fun s4 J4'=>?_) (.inr hl)
  have J4:=J4'.held (a:=a)
  obtain⟨⟨oe4,vs4,he4,hc4,hd4,hv4,_⟩,_⟩:=J4.hok a _ ea2
  obtain⟨hp4,g4,dr4,tk4,os4⟩:=s4
  have J6:=J4.write (x:=a) (e:=a) (o:=.frz oe4 (.own 0)) (h':=hp4) (t':=tk4) (by rw [ea2]; trivial) (.inl rfl) (fun b u nb e=>e) ⟨oe4,he4⟩ ⟨he4,_,he4⟩
  have kk:∀ b o,b≠a->H1 b=some o->upd H2 a (.frz oe4 (.own 0)) b=some o:=fun b o nb e=>by rw [zz nb]; exact k1 b o nb e
  have sem:=q (upd H2 a (.frz oe4 (.own 0))) ⟨oe4,zA,hc4,by obtain⟨c1,c2,c3,c4⟩:=oe4; cases hv4; rfl,?_⟩ kk (fun b e=>?_)
  ·refine wpAny_mono (hs a pins _ _ _ _ J6 sem) (fun f s5 q5=>?_) fun _ _ z=>z.elim
   cases f with
   | next=>obtain⟨σ5,H5,J7,q7⟩:=q5; exact zed (J7.unheld I.ok) hN hi hl fun s6 J8=>⟨_,H5,J8,q7⟩
   | brk=>obtain⟨σ5,H5,J7,q7⟩:=q5; exact zed (J7.unheld I.ok) hN hi hl fun s6 J8=>⟨_,H5,J8,q7⟩
   | cont=>obtain⟨σ5,H5,J7,q7⟩:=q5; exact zed (J7.unheld I.ok) hN hi hl fun s6 J8=>⟨_,H5,J8,q7⟩
   | ret u=>obtain⟨v,σ5,H5,J7,r7,q7⟩:=q5; exact zed (J7.unheld I.ok) hN hi hl fun s6 J8=>⟨v,_,H5,J8,r7,q7⟩
  ·rcases ed2 with ⟨e1,e2⟩ | ⟨od,dx,e1,e2⟩
   ·exact .inl ⟨e1,hd4.trans e2⟩
   ·exact .inr ⟨od,dx,hd4.trans e1,by rw [zz fun z=>by rw [z,ea2]at e2; cases e2]; exact e2⟩
  ·by_cases b2:b=a
   ·rw [b2,zA]at e; cases e
   ·rw [zz b2]at e; exact k2 b e
end
end L2
namespace L2
open PySem PySem.Spec PyProof.Rows
abbrev D:=PyData
def k1D:Key->D
 | .inl i=>.int i
 | .inr x=>.str x
def kTD(ks:List Key):D:=.tuple (ks.map k1D)
def PL(K:PySem.W.Frag)(H:Hp)(a:Addr)(xs:List V):Prop :=
 (∃ o,H a=some (.frz o (.lst xs)))\/∃ (o:Obj) (its:Array Value) (n:Nat),K.lookup a=some o/\o.cls=.type "list"/\o.dict=none/\o.data=.seq its n/\its.size<=sizeLine/\zM xs its.toList
def XN(K:PySem.W.Frag)(n:Str)(C:Addr):Prop:=PySem.W.nsIn K mainGlobals n=some (some (.ref C))
mutual
inductive DF (K:PySem.W.Frag) (H:Hp):V->D->Prop
 | non:DF K H .non .none
 | bl (b:Bool):DF K H (.bl b) (.bool b)
 | int (i:Int):DF K H (.int i) (.int i)
 | str (x:Str):DF K H (.str x) (.str x)
 | tup {a:Addr} {xs:List V} {ds:List D} (h:H a=some (.tup xs)) (t:DFs K H xs ds):DF K H (.ref a) (.tuple ds)
 | lst {a:Addr} {xs:List V} {ds:List D} (h:PL K H a xs) (t:DFs K H xs ds):DF K H (.ref a) (.list ds)
 | dct {a:Addr} {o:Obj} {ws:List (List Key×V)} {kvs:List (D×D)} (h:H a=some (.frz o (.dT ws))) (t:DFt K H ws kvs):DF K H (.ref a) (.dict kvs)
 | exc {a C:Addr} {n:Str} {fs:List (Str×V)} {ds:List (D×D)} (h:XV H a C fs) (e:XN K n C) (t:DFf K H fs ds):DF K H (.ref a) (.dict ((.none,.str n)::ds))
inductive DFs (K:PySem.W.Frag) (H:Hp):List V->List D->Prop
 | nil:DFs K H [] []
 | cons {v:V} {d:D} {vs:List V} {ds:List D} (h:DF K H v d) (t:DFs K H vs ds):DFs K H (v::vs) (d::ds)
inductive DFt (K:PySem.W.Frag) (H:Hp):List (List Key×V)->List (D×D)->Prop
 | nil:DFt K H [] []
 | cons {k:List Key} {v:V} {d:D} {vs:List (List Key×V)} {ds:List (D×D)} (h:DF K H v d) (t:DFt K H vs ds):DFt K H ((k,v)::vs) ((kTD k,d)::ds)
inductive DFf (K:PySem.W.Frag) (H:Hp):List (Str×V)->List (D×D)->Prop
 | nil:DFf K H [] []
 | cons {k:Str} {v:V} {d:D} {vs:List (Str×V)} {ds:List (D×D)} (h:DF K H v d) (t:DFf K H vs ds):DFf K H ((k,v)::vs) ((.str k,d)::ds)
end
theorem XV.kp{H H':Hp}{a C:Addr}{fs:List (Str×V)}(e:Kp H H')(h:XV H a C fs):XV H' a C fs:=by
 obtain⟨ox,h1,h2,h3,h4⟩:=h
 refine⟨ox,e.frz _ _ _ h1,h2,h3,?_⟩
 rcases h4 with h4 | ⟨od,dx,h5,h6⟩
 ·exact .inl h4
 ·exact .inr ⟨od,dx,h5,e.frz _ _ _ h6⟩
theorem PL.kp{K:PySem.W.Frag}{H H':Hp}{a:Addr}{xs:List V}(e:Kp H H')(h:PL K H a xs):PL K H' a xs:=by
 rcases h with ⟨o,h⟩ | h
 ·exact .inl ⟨o,e.frz _ _ _ h⟩
 ·exact .inr h
theorem PL.sq{K:PySem.W.Frag}{H:Hp}{a:Addr}{xs:List V}(h:PL K H a xs):SqL K H a xs:=by
 rcases h with ⟨o,h⟩ | h
 ·exact .inl (.inr ⟨o,h⟩)
 ·exact .inr h
mutual
theorem DF.kp{K:PySem.W.Frag}{H H':Hp}(e:Kp H H'):∀ {v:V} {d:D},DF K H v d->DF K H' v d
 | _,_,.non=>.non
 | _,_,.bl b=>.bl b
 | _,_,.int i=>.int i
 | _,_,.str x=>.str x
 | _,_,.tup h t=>.tup (e.tup _ _ h) (DFs.kp e t)
 | _,_,.lst h t=>.lst (h.kp e) (DFs.kp e t)
 | _,_,.dct h t=>.dct (e.frz _ _ _ h) (DFt.kp e t)
 | _,_,.exc h n t=>.exc (h.kp e) n (DFf.kp e t)
theorem DFs.kp{K:PySem.W.Frag}{H H':Hp}(e:Kp H H'):∀ {v:List V} {d:List D},DFs K H v d->DFs K H' v d
 | _,_,.nil=>.nil
 | _,_,.cons h t=>.cons (DF.kp e h) (DFs.kp e t)
theorem DFt.kp{K:PySem.W.Frag}{H H':Hp}(e:Kp H H'):∀ {v:List (List Key×V)} {d:List (D×D)},DFt K H v d->DFt K H' v d
 | _,_,.nil=>.nil
 | _,_,.cons h t=>.cons (DF.kp e h) (DFt.kp e t)
theorem DFf.kp{K:PySem.W.Frag}{H H':Hp}(e:Kp H H'):∀ {v:List (Str×V)} {d:List (D×D)},DFf K H v d->DFf K H' v d
 | _,_,.nil=>.nil
 | _,_,.cons h t=>.cons (DF.kp e h) (DFf.kp e t)
end
section
variable {K:PySem.W.Frag} {H:Hp}
theorem DFs.snoc{v:V}{d:D}(h:DF K H v d):∀ {vs:List V} {ds:List D},DFs K H vs ds->DFs K H (vs++[v]) (ds++[d])
 | _,_,.nil=>.cons h .nil
 | _,_,.cons a t=>.cons a (DFs.snoc h t)
theorem DFs.app:∀ {vs ws:List V} {ds es:List D},DFs K H vs ds->DFs K H ws es->DFs K H (vs++ws) (ds++es)
 | _,_,_,_,.nil,q=>q
 | _,_,_,_,.cons a t,q=>.cons a (DFs.app t q)
theorem DFs.len:∀ {vs:List V} {ds:List D},DFs K H vs ds->vs.length=ds.length
 | _,_,.nil=>rfl
 | _,_,.cons _ t=>congrArg (·+1) (DFs.len t)
theorem DFs.get:∀ {vs:List V} {ds:List D} {i:Nat} {d:D},DFs K H vs ds->ds[i]?=some d->∃ v,vs[i]?=some v/\DF K H v d
 | _,_,0,_,.cons h _,e=>by
  cases(show some _=some _ from e)
  exact⟨_,rfl,h⟩
 | _,_,i+1,_,.cons _ t,e=>DFs.get (i:=i) t e
 | _,_,0,_,.nil,e=>by cases e
 | _,_,_+1,_,.nil,e=>by cases e
theorem DFs.take:∀ {vs:List V} {ds:List D} (n:Nat),DFs K H vs ds->DFs K H (vs.take n) (ds.take n)
 | _,_,0,_=>by simpa using DFs.nil
 | _,_,n+1,.nil=>by simpa using DFs.nil
 | _,_,n+1,.cons h t=>.cons h (DFs.take n t)
theorem DFs.drop:∀ {vs:List V} {ds:List D} (n:Nat),DFs K H vs ds->DFs K H (vs.drop n) (ds.drop n)
 | _,_,0,q=>q
 | _,_,n+1,.nil=>by simpa using DFs.nil
 | _,_,n+1,.cons h t=>DFs.drop n t
theorem DFs.set{v:V}{d:D}(h:DF K H v d):∀ {vs:List V} {ds:List D} (n:Nat),DFs K H vs ds->DFs K H (vs.set n v) (ds.set n d)
 | _,_,_,.nil=>.nil
 | _,_,0,.cons _ t=>.cons h t
 | _,_,n+1,.cons a t=>.cons a (DFs.set h n t)
end
inductive U where
 | d (x:D)
 | l (xs:List D) | t (kvs:List (List Key×D)) | k (kvs:List (Key×D))
def U.own:U->Bool
 | .d _=>false
 | _=>true
def KVd{κ:Type}(K:PySem.W.Frag)(H:Hp):List (κ×V)->List (κ×D)->Prop:=Paired fun p q=>p.1=q.1/\DF K H p.2 q.2
def Rp(K:PySem.W.Frag)(H:Hp)(v:V):U->Prop
 | .d x=>DF K H v x
 | .l xs=>∃ a us,v=.ref a/\H a=some (.lst us)/\DFs K H us xs
 | .t kvs=>∃ a ws,v=.ref a/\H a=some (.dT ws)/\KVd K H ws kvs
 | .k kvs=>∃ a ws,v=.ref a/\H a=some (.dK ws)/\KVd K H ws kvs
def Mo:HO->Prop
 | .lst _=>True
 | .dT _=>True
 | .dK _=>True
 | _=>False
theorem Rp.own{K:PySem.W.Frag}{H:Hp}{v:V}{u:U}(h:Rp K H v u)(o:u.own=true):∃ a c,v=.ref a/\H a=some c/\Mo c:=by
 cases u with
 | d x=>cases o
 | l xs=>obtain⟨a,us,e,q,_⟩:=h; exact⟨a,_,e,q,trivial⟩
 | t xs=>obtain⟨a,us,e,q,_⟩:=h; exact⟨a,_,e,q,trivial⟩
 | k xs=>obtain⟨a,us,e,q,_⟩:=h; exact⟨a,_,e,q,trivial⟩
theorem KVd.kp{κ:Type}{K:PySem.W.Frag}{H H':Hp}(e:Kp H H'){ws:List (κ×V)}{kvs:List (κ×D)}(h:KVd K H ws kvs):KVd K H' ws kvs:=Paired.mapP h fun _ _ z=>⟨z.1,z.2.kp e⟩
theorem Rp.kp{K:PySem.W.Frag}{H H':Hp}{v:V}{u:U}(h:Rp K H v u)(e:Kp H H')(o:u.own=true->∀ a c,v=.ref a->H a=some c->H' a=some c):Rp K H' v u:=by
 cases u with
 | d x=>exact DF.kp e h
 | l xs=>obtain⟨a,us,ev,q,t⟩:=h; exact⟨a,us,ev,o rfl a _ ev q,t.kp e⟩
 | t xs=>obtain⟨a,us,ev,q,t⟩:=h; exact⟨a,us,ev,o rfl a _ ev q,t.kp e⟩
 | k xs=>obtain⟨a,us,ev,q,t⟩:=h; exact⟨a,us,ev,o rfl a _ ev q,t.kp e⟩
abbrev En:=List (Option U)
def Ow(ρ:En)(σ:St)(a:Addr):Prop:=∃ (i:Nat) (u:U),ρ[i]?=some (some u)/\u.own=true/\σ[i]?=some (some (.ref a))
structure Rs (K:PySem.W.Frag) (ρ:En) (σ:St) (H:Hp):Prop where
 len:ρ.length=σ.length
 rep:∀ (i:Nat) (u:U),ρ[i]?=some (some u)->∃ v,σ[i]?=some (some v)/\Rp K H v u
 apart:∀ (i j:Nat) (u w:U),ρ[i]?=some (some u)->ρ[j]?=some (some w)->u.own=true->w.own=true->σ[i]?=σ[j]?->i=j
def Fr'(A:Addr->Prop)(H H':Hp):Prop:=∀ a o,H a=some o->¬A a->H' a=some o
structure Shr (ρ ρ':En):Prop where
 len:ρ'.length=ρ.length
 own:∀ (i:Nat) (u:U),ρ'[i]?=some (some u)->u.own=true->∃ w,ρ[i]?=some (some w)/\w.own=true
 live:∀ (i:Nat) (u:U),ρ[i]?=some (some u)->∃ w,ρ'[i]?=some (some w)
def Nw(H:Hp)(v:V)(u:U):Prop:=u.own=true->∃ a,v=.ref a/\H a=none
structure Go (K:PySem.W.Frag) (ρ:En) (σ:St) (H:Hp) (ρ':En) (H':Hp):Prop where
 rs:Rs K ρ' σ H'
 fr:Fr' (Ow ρ σ) H H'
 shr:Shr ρ ρ'
 dm:∀ a,H' a=none->H a=none
section
variable {K:PySem.W.Frag} {ρ ρ' ρ'':En} {σ:St} {H H' H'':Hp} {a:Addr}
theorem Rs.ow(r:Rs K ρ σ H)(o:Ow ρ σ a):∃ c,H a=some c/\Mo c:=by
 obtain⟨i,u,e,ou,es⟩:=o
 obtain⟨v,ev,p⟩:=r.rep i u e
 rw [es]at ev
 cases ev
 obtain⟨b,c,eb,q,m⟩:=p.own ou
 cases eb
 exact⟨c,q,m⟩
theorem Fr'.kp(r:Rs K ρ σ H)(f:Fr' (Ow ρ σ) H H'):Kp H H':=by
 refine⟨fun b xs h=>f b _ h fun o=>?_,fun b ob u h=>f b _ h fun o=>?_⟩
 ·obtain⟨c,q,m⟩:=r.ow o
  rw [h]at q
  cases q
  exact m
 ·obtain⟨c,q,m⟩:=r.ow o
  rw [h]at q
  cases q
  exact m
theorem Shr.refl(ρ:En):Shr ρ ρ:=⟨rfl,fun i u e o=>⟨u,e,o⟩,fun i u e=>⟨u,e⟩⟩
theorem Shr.trans(a:Shr ρ ρ')(b:Shr ρ' ρ''):Shr ρ ρ'':=⟨b.1.trans a.1,fun i u e o=>let ⟨w,e',o'⟩:=b.2 i u e o; a.2 i w e' o',fun i u e=>let ⟨w,e'⟩:=a.3 i u e; b.3 i w e'⟩
theorem Shr.ow(s:Shr ρ ρ')(o:Ow ρ' σ a):Ow ρ σ a:=by
 obtain⟨i,u,e,ou,es⟩:=o
 obtain⟨w,e',o'⟩:=s.2 i u e ou
 exact⟨i,w,e',o',es⟩
theorem Go.refl(r:Rs K ρ σ H):Go K ρ σ H ρ H:=⟨r,fun _ _ h _=>h,Shr.refl _,fun _ h=>h⟩
theorem Go.trans(a:Go K ρ σ H ρ' H')(b:Go K ρ' σ H' ρ'' H''):Go K ρ σ H ρ'' H'' :=
 ⟨b.rs,fun c o h n=>b.fr c o (a.fr c o h n) fun z=>n (a.shr.ow z),a.shr.trans b.shr,fun c h=>a.dm c (b.dm c h)⟩
theorem Go.kp(r:Rs K ρ σ H)(g:Go K ρ σ H ρ' H'):Kp H H':=g.fr.kp r
theorem Go.stay{v:V}{u:U}(r:Rs K ρ σ H)(g:Go K ρ σ H ρ' H')(h:Rp K H v u)(n:u.own=true->∃ a,v=.ref a/\¬Ow ρ σ a):Rp K H' v u:=by
 refine h.kp (g.kp r) fun o a c ev q=>?_
 obtain⟨b,eb,nb⟩:=n o
 cases ev
 cases eb
 exact g.fr _ _ q nb
theorem Nw.out{v:V}{u:U}(r:Rs K ρ σ H)(n:Nw H v u):u.own=true->∃ a,v=.ref a/\¬Ow ρ σ a:=fun o=>by
 obtain⟨a,e,h⟩:=n o
 refine⟨a,e,fun z=>?_⟩
 obtain⟨c,q,_⟩:=r.ow z
 rw [h]at q
 cases q
theorem zbg.dm(s:zbg H H'):∀ a,H' a=none->H a=none:=fun a h=>by
 cases e:H a with
 | none=>rfl
 | some o=>rw [s a o e]at h; cases h
theorem Go.grow(r:Rs K ρ σ H)(s:zbg H H'):Go K ρ σ H ρ H' :=
 ⟨⟨r.len,fun i u e=>let ⟨v,ev,p⟩:=r.rep i u e; ⟨v,ev,p.kp s.kp fun _ a c _ q=>s a c q⟩,r.apart⟩,fun a o h _=>s a o h,Shr.refl _,s.dm⟩
end
inductive Ar where
 | s (i:Nat) | u (x:U)
def Ar.get(ρ:En):Ar->Option U
 | .s i=>(ρ[i]?).join
 | .u x=>some x
def zgN(K:PySem.W.Frag)(ρ:En)(σ:St)(H H':Hp)(v:V):Ar->Prop
 | .s i=>σ[i]?=some (some v)/\∃ u,ρ[i]?=some (some u)
 | .u x=>Rp K H' v x/\Nw H v x
abbrev ME:=En->Option (Ar×En)
abbrev MA:=En->Option (List Ar×En)
abbrev MT:=En->Option (Bool×En)
def VE(K:PySem.W.Frag)(t:TE)(m:ME):Prop :=
 ∀ (ρ:En) (σ:St) (H:Hp) (a:Ar) (ρ':En) (Q:VK),Rs K ρ σ H->m ρ=some (a,ρ')->(∀ v H',Go K ρ σ H ρ' H'->zgN K ρ' σ H H' v a->Q v H')->t σ H Q
def VT(K:PySem.W.Frag)(t:TT)(m:MT):Prop :=
 ∀ (ρ:En) (σ:St) (H:Hp) (b:Bool) (ρ':En) (Q:Bool->Hp->Prop),Rs K ρ σ H->m ρ=some (b,ρ')->(∀ H',Go K ρ σ H ρ' H'->Q b H')->t σ H Q
structure ArS (K:PySem.W.Frag) (ρ:En) (σ:St) (H H':Hp) (vs:List V) (as:List Ar):Prop where
 len:vs.length=as.length
 ar:∀ (i:Nat) (a:Ar),as[i]?=some a->∃ v,vs[i]?=some v/\zgN K ρ σ H H' v a
 ap:∀ (i j:Nat) (x y:U),as[i]?=some (.u x)->as[j]?=some (.u y)->x.own=true->y.own=true->vs[i]?=vs[j]?->i=j
def VAs(K:PySem.W.Frag)(t:TA)(m:MA):Prop :=
 ∀ (ρ:En) (σ:St) (H:Hp) (as:List Ar) (ρ':En) (Q:List V->Hp->Prop),Rs K ρ σ H->m ρ=some (as,ρ')->(∀ vs H',Go K ρ σ H ρ' H'->ArS K ρ' σ H H' vs as->Q vs H')->t σ H Q
section
variable {K:PySem.W.Frag} {ρ ρ' ρ'':En} {σ:St} {H H' H'':Hp} {v:V} {a:Ar} {u:U}
theorem Nw.mono(n:Nw H' v u)(h:∀ a,H' a=none->H a=none):Nw H v u:=fun o=>let ⟨a,e,q⟩:=n o; ⟨a,e,h a q⟩
theorem Nw.out'(r:Rs K ρ σ H)(g:Go K ρ σ H ρ' H')(n:Nw H v u):u.own=true->∃ a,v=.ref a/\¬Ow ρ' σ a:=fun o=>by
 obtain⟨b,e,q⟩:=n.out r o
 exact⟨b,e,fun z=>q (g.shr.ow z)⟩
theorem zgN.later(r:Rs K ρ σ H)(g1:Go K ρ σ H ρ' H')(g2:Go K ρ' σ H' ρ'' H'')(h:zgN K ρ' σ H H' v a)(e:a.get ρ''=some u):Rp K H'' v u:=by
 cases a with
 | s i =>
  obtain⟨es,_⟩:=h
  have e':ρ''[i]?=some (some u):=by
   cases q:ρ''[i]? with
   | none=>rw [show Ar.get ρ'' (.s i)=(ρ''[i]?).join from rfl,q]at e; cases e
   | some o =>
    rw [show Ar.get ρ'' (.s i)=(ρ''[i]?).join from rfl,q]at e
    cases o with
    | none=>cases e
    | some x=>cases e; rfl
  obtain⟨w,ew,p⟩:=g2.rs.rep i u e'
  rw [es]at ew
  cases ew
  exact p
 | u x =>
  cases(show some x=some u from e)
  exact g2.stay g1.rs h.1 (h.2.out' r g1)
theorem zgN.now(r:Rs K ρ σ H)(g1:Go K ρ σ H ρ' H')(h:zgN K ρ' σ H H' v a)(e:a.get ρ'=some u):Rp K H' v u:=h.later r g1 (Go.refl g1.rs) e
theorem Nw.data{x:D}:Nw H v (.d x):=fun o=>by cases o
def zf(i:Nat):ME:=fun ρ=>match ρ[i]? with
 | some (some _)=>some (.s i,ρ)
 | _=>none
theorem zd(i:Nat):VE K (zgJ i) (zf i):=by
 intro ρ σ H a ρ' Q r e q
 unfold zf at e
 split at e
 ·rename_i u eu
  cases e
  obtain⟨v,ev,p⟩:=r.rep i u eu
  exact⟨v,ev,q v H (Go.refl r) ⟨ev,u,eu⟩⟩
 ·cases e
def mC(x:D):ME:=fun ρ=>some (.u (.d x),ρ)
theorem v_c{c:V}{x:D}(h:∀ H,DF K H c x):VE K (tC c) (mC x):=by
 intro ρ σ H a ρ' Q r e q
 cases e
 exact q _ _ (Go.refl r) ⟨h H,Nw.data⟩
theorem zh{n:Int}:VE K (tC (.int n)) (mC (.int n)):=v_c fun _=>.int n
theorem zv{n:Str}:VE K (tC (.str n)) (mC (.str n)):=v_c fun _=>.str n
theorem zcZ{n:Bool}:VE K (tC (.bl n)) (mC (.bool n)):=v_c fun _=>.bl n
theorem za0:VE K (tC .non) (mC .none):=v_c fun _=>.non
def VO(K:PySem.W.Frag)(r:R2)(f:U->U->Option U):Prop :=
 ∀ (x y:V) (a b u:U) (H:Hp) (Q:VK),Rp K H x a->Rp K H y b->f a b=some u->(∀ v H',zbg H H'->Rp K H' v u->Nw H v u->Q v H')->r x y H Q
def mOp(f:U->U->Option U)(ma mb:ME):ME:=fun ρ=>(ma ρ).bind fun p=>(mb p.2).bind fun q=>(p.1.get q.2).bind fun x=>(q.1.get q.2).bind fun y=>(f x y).bind fun u=>some (.u u,q.2)
theorem bind_some{α β:Type}{o:Option α}{f:α->Option β}{b:β}(h:o.bind f=some b):∃ a,o=some a/\f a=some b:=Option.bind_eq_some_iff.mp h
theorem zq{r:R2}{f:U->U->Option U}{ta tb:TE}{ma mb:ME}(h:VO K r f)(ha:VE K ta ma)(hb:VE K tb mb):VE K (tOp r ta tb) (mOp f ma mb):=by
 intro ρ σ H a ρ' Q rs e q
 obtain⟨⟨a1,ρ1⟩,e1,e⟩:=bind_some e
 obtain⟨⟨b1,ρ2⟩,e2,e⟩:=bind_some e
 obtain⟨x,ex,e⟩:=bind_some e
 obtain⟨y,ey,e⟩:=bind_some e
 obtain⟨u,eu,e⟩:=bind_some e
 cases e
 refine ha ρ σ H a1 ρ1 _ rs e1 fun v1 H1 g1 k1=>hb ρ1 σ H1 b1 ρ2 _ g1.rs e2 fun v2 H2 g2 k2=>?_
 refine h _ _ x y u H2 _ (k1.later rs g1 g2 ex) (k2.now g1.rs g2 ey) eu fun v H3 s p n=>?_
 exact q v H3 ((g1.trans g2).trans (Go.grow g2.rs s)) ⟨p,n.mono (g1.trans g2).dm⟩
def VU(K:PySem.W.Frag)(r:V->Hp->VK->Prop)(f:U->Option U):Prop :=
 ∀ (x:V) (a u:U) (H:Hp) (Q:VK),Rp K H x a->f a=some u->(∀ v H',zbg H H'->Rp K H' v u->Nw H v u->Q v H')->r x H Q
def mUn(f:U->Option U)(ma:ME):ME:=fun ρ=>(ma ρ).bind fun p=>(p.1.get p.2).bind fun x=>(f x).bind fun u=>some (.u u,p.2)
theorem zeI{r:V->Hp->VK->Prop}{f:U->Option U}{ta:TE}{ma:ME}(h:VU K r f)(ha:VE K ta ma):VE K (tUn r ta) (mUn f ma):=by
 intro ρ σ H a ρ' Q rs e q
 obtain⟨⟨a1,ρ1⟩,e1,e⟩:=bind_some e
 obtain⟨x,ex,e⟩:=bind_some e
 obtain⟨u,eu,e⟩:=bind_some e
 cases e
 refine ha ρ σ H a1 ρ1 _ rs e1 fun v1 H1 g1 k1=>?_
 refine h _ x u H1 _ (k1.now rs g1 ex) eu fun v H3 s p n=>?_
 exact q v H3 (g1.trans (Go.grow g1.rs s)) ⟨p,n.mono g1.dm⟩
def zg:MA:=fun ρ=>some ([],ρ)
def zb(me:ME)(ma:MA):MA:=fun ρ=>(me ρ).bind fun p=>(ma p.2).bind fun q=>some (p.1::q.1,q.2)
theorem ze:VAs K zes zg:=by
 intro ρ σ H as ρ' Q r e q
 cases e
 exact q [] H (Go.refl r) ⟨rfl,fun i a e=>by simp at e,fun i j x y e=>by simp at e⟩
theorem za{te:TE}{t:TA}{me:ME}{ma:MA}(he:VE K te me)(ha:VAs K t ma):VAs K (zcb te t) (zb me ma):=by
 intro ρ σ H as ρ' Q r e q
 obtain⟨⟨a1,ρ1⟩,e1,e⟩:=bind_some e
 obtain⟨⟨as2,ρ2⟩,e2,e⟩:=bind_some e
 cases e
 refine he ρ σ H a1 ρ1 _ r e1 fun v1 H1 g1 k1=>ha ρ1 σ H1 as2 _ _ g1.rs e2 fun vs H2 g2 s2=>?_
 have own1:∀ x,a1=.u x->x.own=true->∃ b c,v1=.ref b/\H1 b=some c:=fun x ea o=>by
  subst ea
  obtain⟨b,c,eb,hb,_⟩:=k1.1.own o
  exact⟨b,c,eb,hb⟩
 have oth:∀ (j:Nat) (y:U),as2[j]?=some (.u y)->y.own=true->∃ b,vs[j]?=some (.ref b)/\H1 b=none:=fun j y ej o=>by
  obtain⟨v,ev,k⟩:=s2.ar j _ ej
  obtain⟨b,eb,hb⟩:=k.2 o
  subst eb
  exact⟨b,ev,hb⟩
 have ne:∀ (x:U) (j:Nat) (y:U),a1=.u x->x.own=true->as2[j]?=some (.u y)->y.own=true->some v1≠vs[j]?:=fun x j y ea ox ej oy z=>by
  obtain⟨b,c,e1,h1⟩:=own1 x ea ox
  obtain⟨b',e2,h2⟩:=oth j y ej oy
  rw [e2,e1]at z
  cases z
  rw [h1]at h2
  cases h2
 refine q (v1::vs) H2 (g1.trans g2) ⟨by simp [s2.len],fun i a ei=>?_,fun i j x y ei ej ox oy ev=>?_⟩
 ·cases i with
  | zero =>
   cases(show some a1=some a from ei)
   refine⟨v1,rfl,?_⟩
   cases a1 with
   | s k =>
    obtain⟨es,w,ew⟩:=k1
    exact⟨es,g2.shr.live k w ew⟩
   | u x=>exact⟨g2.stay g1.rs k1.1 (k1.2.out' r g1),k1.2⟩
  | succ i =>
   obtain⟨v,ev,k⟩:=s2.ar i a ei
   refine⟨v,ev,?_⟩
   cases a with
   | s k'=>exact k
   | u x=>exact⟨k.1,k.2.mono g1.dm⟩
 ·cases i with
  | zero =>
   cases j with
   | zero=>rfl
   | succ j=>exact absurd ev (ne x j y (Option.some.inj ei) ox ej oy)
  | succ i =>
   cases j with
   | zero=>exact absurd ev.symm (ne y i x (Option.some.inj ej) oy ei ox)
   | succ j=>exact congrArg (·+1) (s2.ap i j x y ei ej ox oy ev)
end
end L2
namespace L2
open PySem PySem.Spec PyProof.Rows
open Classical in
noncomputable def fIC(c:Int->Int->Prop)(g:Int->Int->D):U->U->Option U
 | .d (.int i),.d (.int j)=>if c i j then some (.d (g i j))else none
 | _,_=>none
def fI(g:Int->Int->D):U->U->Option U
 | .d (.int i),.d (.int j)=>some (.d (g i j))
 | _,_=>none
section
variable {K:PySem.W.Frag}
theorem DF.int_inv{H:Hp}{v:V}{i:Int}(h:DF K H v (.int i)):v=.int i:=by cases h; rfl
theorem DF.str_inv{H:Hp}{v:V}{x:Str}(h:DF K H v (.str x)):v=.str x:=by cases h; rfl
theorem DF.bl_inv{H:Hp}{v:V}{b:Bool}(h:DF K H v (.bool b)):v=.bl b:=by cases h; rfl
theorem DF.tup_inv{H:Hp}{v:V}{ds:List D}(h:DF K H v (.tuple ds)):∃ a xs,v=.ref a/\H a=some (.tup xs)/\DFs K H xs ds:=by cases h with | tup h t=>exact⟨_,_,rfl,h,t⟩
theorem DF.lst_inv{H:Hp}{v:V}{ds:List D}(h:DF K H v (.list ds)):∃ a xs,v=.ref a/\PL K H a xs/\DFs K H xs ds:=by cases h with | lst h t=>exact⟨_,_,rfl,h,t⟩
theorem zih{c:Int->Int->Prop}{g:Int->Int->V}{gd:Int->Int->D}(h:∀ i j H,DF K H (g i j) (gd i j)):VO K (rI c g) (fIC c gd):=by
 intro x y a b u H Q ha hb e q
 unfold fIC at e
 split at e
 ·rename_i i j
  split at e
  ·rename_i hc
   cases e
   exact⟨i,j,DF.int_inv ha,DF.int_inv hb,hc,q _ _ (fun _ _ z=>z) (h i j H) Nw.data⟩
  ·cases e
 ·cases e
theorem zkW{g:Int->Int->V}{gd:Int->Int->D}(h:∀ i j H,DF K H (g i j) (gd i j)):VO K (rI0 g) (fI gd):=by
 intro x y a b u H Q ha hb e q
 unfold fI at e
 split at e
 ·rename_i i j
  cases e
  exact⟨i,j,DF.int_inv ha,DF.int_inv hb,q _ _ (fun _ _ z=>z) (h i j H) Nw.data⟩
 ·cases e
def zb3:=fI fun i j=>.int (i+j)
def zii:=fI fun i j=>.int (i - j)
noncomputable def zeJ:=fIC zkH fun i j=>.int (i * j)
noncomputable def zeK:=fIC (fun _ j=>0 < j) fun i j=>.int (i % j)
noncomputable def zij:=fIC zh9 fun i j=>.int (i / j)
noncomputable def zik:=fIC zib fun i j=>.int (i.fdiv j)
noncomputable def zod:=fIC znC fun i j=>.int (i^j.toNat)
def fLt:=fI fun i j=>.bool (decide (i < j))
def fLe:=fI fun i j=>.bool (decide (i<=j))
def fGt:=fI fun i j=>.bool (decide (j < i))
def fGe:=fI fun i j=>.bool (decide (j<=i))
theorem zaQ:VO K (rI0 fun i j=>.int (i+j)) zb3:=zkW fun i j H=>.int _
theorem zgb:VO K (rI0 fun i j=>.int (i - j)) zii:=zkW fun i j H=>.int _
theorem zdi:VO K (rI zkH fun i j=>.int (i * j)) zeJ:=zih fun i j H=>.int _
theorem zc0:VO K (rI (fun _ j=>0 < j) fun i j=>.int (i % j)) zeK:=zih fun i j H=>.int _
theorem zj1:VO K (rI zh9 fun i j=>.int (i / j)) zij:=zih fun i j H=>.int _
theorem zj2:VO K (rI zib fun i j=>.int (i.fdiv j)) zik:=zih fun i j H=>.int _
theorem zrq:VO K (rI znC fun i j=>.int (i^j.toNat)) zod:=zih fun i j H=>.int _
theorem zen:VO K (rI0 fun i j=>.bl (decide (i < j))) fLt:=zkW fun i j H=>.bl _
theorem zj3:VO K (rI0 fun i j=>.bl (decide (i<=j))) fLe:=zkW fun i j H=>.bl _
theorem zj4:VO K (rI0 fun i j=>.bl (decide (j < i))) fGt:=zkW fun i j H=>.bl _
theorem zpY:VO K (rI0 fun i j=>.bl (decide (j<=i))) fGe:=zkW fun i j H=>.bl _
def zek:U->Option U
 | .d (.int i)=>some (.d (.int (-i)))
 | _=>none
theorem zcJ:VU K (rU fun i=>.int (-i)) zek:=by
 intro x a u H Q ha e q
 unfold zek at e
 split at e
 ·rename_i i
  cases e
  exact⟨i,DF.int_inv ha,q _ _ (fun _ _ z=>z) (.int _) Nw.data⟩
 ·cases e
def U.py:U->Option D
 | .d x=>some x
 | .l xs=>some (.list xs)
 | _=>none
mutual
theorem DF.dv{H:Hp}:∀ {v:V} {d:D},DF K H v d->d.hasDict=false->DV K H v d
 | _,_,.non,_=>.non
 | _,_,.bl b,_=>.bl b
 | _,_,.int i,_=>.int i
 | _,_,.str x,_=>.str x
 | _,_,.tup h t,q=>.tup (SqT.of h) (DFs.dv t (by simpa [PyData.hasDict] using q))
 | _,_,.lst h t,q=>.lst h.sq (DFs.dv t (by simpa [PyData.hasDict] using q))
 | _,_,.dct h t,q=>by simp [PyData.hasDict]at q
 | _,_,.exc h n t,q=>by simp [PyData.hasDict]at q
theorem DFs.dv{H:Hp}:∀ {v:List V} {d:List D},DFs K H v d->PyData.hasDictAll d=false->DVs K H v d
 | _,_,.nil,_=>.nil
 | _,_,.cons h t,q=>by
  simp only [PyData.hasDictAll,Bool.or_eq_false_iff]at q
  exact .cons (DF.dv h q.1) (DFs.dv t q.2)
end
theorem Rp.dv{H:Hp}{v:V}{u:U}{x:D}(h:Rp K H v u)(e:u.py=some x)(q:x.hasDict=false):DV K H v x:=by
 cases u with
 | d y=>cases e; exact DF.dv h q
 | l xs =>
  cases e
  obtain⟨a,us,rfl,h1,h2⟩:=h
  exact .lst (SqL.of h1) (DFs.dv h2 (by simpa [PyData.hasDict] using q))
 | t=>cases e
 | k=>cases e
mutual
theorem zc1:∀ (x:D),x.canLay0=true->x.hasDict=false
 | .none,_=>rfl
 | .bool _,_=>rfl
 | .int _,_=>rfl
 | .str _,_=>rfl
 | .list xs,h=>by simp only [PyData.hasDict]; exact hasDictAll_of xs (by simpa [PyData.canLay0] using h)
 | .tuple xs,h=>by simp only [PyData.hasDict]; exact hasDictAll_of xs (by simpa [PyData.canLay0] using h)
 | .dict _,h=>by simp [PyData.canLay0]at h
theorem hasDictAll_of:∀ (xs:List D),PyData.canLayAll0 xs=true->PyData.hasDictAll xs=false
 | [],_=>rfl
 | x::xs,h=>by
  simp only [PyData.canLayAll0,Bool.and_eq_true]at h
  simp only [PyData.hasDictAll,zc1 x h.1,hasDictAll_of xs h.2]
  rfl
end
def zoe(K:PySem.W.Frag)(neg:Bool):R2:=fun x y H Q=>∃ a b,DV K H x a/\DV K H y b/\SeqAt.shaped a=true/\SeqAt.shaped b=true/\Q (.bl (if neg=true then !PyData.eqv a b else PyData.eqv a b)) H
theorem zji{X:Cx}(K:PySem.W.Frag)(hK:X.K=K){k:Nat}(hr:Room k X.A):OpR X (compareOp .Eq) (zoe K false):=by
 subst hK
 intro pins s σ H x y v u Q I rx ry h
 obtain⟨a,b,da,db,sa,sb,q⟩:=h
 obtain⟨as,ra⟩:=DV.reads I da rx
 obtain⟨bs,rb⟩:=DV.reads I db ry
 exact SeqAt.compareEq_shaped ra rb sa sb hr.units ⟨.bl _,H,I,rfl,q⟩
theorem ze7{X:Cx}(K:PySem.W.Frag)(hK:X.K=K){k:Nat}(hr:Room k X.A):OpR X (compareOp .NotEq) (zoe K true):=by
 subst hK
 intro pins s σ H x y v u Q I rx ry h
 obtain⟨a,b,da,db,sa,sb,q⟩:=h
 obtain⟨as,ra⟩:=DV.reads I da rx
 obtain⟨bs,rb⟩:=DV.reads I db ry
 exact SeqAt.compareNe_shaped ra rb sa sb hr.units ⟨.bl _,H,I,rfl,q⟩
def zcR(neg:Bool)(a b:U):Option U:=a.py.bind fun x=>b.py.bind fun y=>if SeqAt.shaped x=true/\SeqAt.shaped y=true then some (.d (.bool (if neg=true then !PyData.eqv x y else PyData.eqv x y)))else none
theorem zdX(neg:Bool):VO K (zoe K neg) (zcR neg):=by
 intro x y a b u H Q ha hb e q
 obtain⟨dx,ex,e⟩:=bind_some e
 obtain⟨dy,ey,e⟩:=bind_some e
 split at e
 ·rename_i hs
  cases e
  exact⟨dx,dy,ha.dv ex (zc1 _ (SeqAt.canLay_of_shaped hs.1)),hb.dv ey (zc1 _ (SeqAt.canLay_of_shaped hs.2)),hs.1,hs.2,q _ _ (fun _ _ z=>z) (.bl _) Nw.data⟩
 ·cases e
theorem DFs.atI{H:Hp}{xs:List V}{ds:List D}{i:Int}{d:D}(h:DFs K H xs ds)(e:L2.atI ds i=some d):∃ v,L2.atI xs i=some v/\DF K H v d:=by
 unfold L2.atI at e ⊢
 obtain⟨j,ej,e⟩:=bind_some e
 obtain⟨v,ev,k⟩:=h.get e
 refine⟨v,?_,k⟩
 rw [h.len,ej]
 exact ev
def zaG:U->U->Option U
 | .l ds,.d (.int i)=>(atI ds i).map .d
 | .d (.list ds),.d (.int i)=>(atI ds i).map .d
 | _,_=>none
def zbh:U->U->Option U
 | .d (.tuple ds),.d (.int i)=>(atI ds i).map .d
 | _,_=>none
theorem zT:VO K (zq5 K) zaG:=by
 intro x y a b u H Q ha hb e q
 unfold zaG at e
 split at e
 ·rename_i ds i
  obtain⟨d,ed,rfl⟩:=Option.map_eq_some_iff.mp e
  obtain⟨p,us,rfl,h1,h2⟩:=ha
  obtain⟨v,ev,k⟩:=h2.atI ed
  exact⟨p,us,i,v,rfl,DF.int_inv hb,SqL.of h1,ev,q _ _ (fun _ _ z=>z) k Nw.data⟩
 ·rename_i ds i
  obtain⟨d,ed,rfl⟩:=Option.map_eq_some_iff.mp e
  obtain⟨p,us,rfl,h1,h2⟩:=DF.lst_inv ha
  obtain⟨v,ev,k⟩:=h2.atI ed
  exact⟨p,us,i,v,rfl,DF.int_inv hb,h1.sq,ev,q _ _ (fun _ _ z=>z) k Nw.data⟩
 ·cases e
theorem zaX:VO K (zq6 K) zbh:=by
 intro x y a b u H Q ha hb e q
 unfold zbh at e
 split at e
 ·rename_i ds i
  obtain⟨d,ed,rfl⟩:=Option.map_eq_some_iff.mp e
  obtain⟨p,us,rfl,h1,h2⟩:=DF.tup_inv ha
  obtain⟨v,ev,k⟩:=h2.atI ed
  exact⟨p,us,i,v,rfl,DF.int_inv hb,SqT.of h1,ev,q _ _ (fun _ _ z=>z) k Nw.data⟩
 ·cases e
def zdw:U->U->Option U
 | .l xs,.l ys=>if xs.length+ys.length<=sizeLine then some (.l (xs++ys))else none
 | _,_=>none
theorem zbZ:VO K ztC zdw:=by
 intro x y a b u H Q ha hb e q
 unfold zdw at e
 split at e
 ·split at e
  ·rename_i xs ys hz
   cases e
   obtain⟨p,us,rfl,h1,h2⟩:=ha
   obtain⟨p',us',rfl,h1',h2'⟩:=hb
   refine⟨p,p',us,us',rfl,rfl,h1,h1',by rw [h2.len,h2'.len]; exact hz,fun r hr=>?_⟩
   have s:=zaT hr (.lst (us++us'))
   exact q _ _ s ⟨r,_,rfl,zA,(h2.app h2').kp s.kp⟩ fun _=>⟨r,rfl,hr⟩
  ·cases e
 ·cases e
end
end L2
namespace L2
open PySem PySem.Spec PyProof.Rows
section
variable {K:PySem.W.Frag} {ρ ρ':En} {σ:St} {H H':Hp}
theorem ze8{a:Addr}{c:HO}(h:H a=some c)(m:Mo c)(o:HO):Kp H (upd H a o):=by
 refine⟨fun b xs e=>?_,fun b ob u e=>?_⟩
 ·rw [zz (zpN e h (by rintro rfl; exact m))]; exact e
 ·rw [zz (zpN e h (by rintro rfl; exact m))]; exact e
theorem Go.own{i:Nat}{u u':U}{a:Addr}{o:HO}(r:Rs K ρ σ H)(e:ρ[i]?=some (some u))(ou:u.own=true)(es:σ[i]?=some (some (.ref a)))(p:Rp K (upd H a o) (.ref a) u'):Go K ρ σ H (ρ.set i (some u')) (upd H a o):=by
 have hi:i < ρ.length:=(List.getElem?_eq_some_iff.mp e).1
 obtain⟨c,hc,mc⟩:=r.ow ⟨i,u,e,ou,es⟩
 have kp:=ze8 hc mc o
 refine⟨⟨by rw [List.length_set]; exact r.len,fun j w ej=>?_,fun j k w w' ej ek oj ok es'=>?_⟩,fun b ob hb n=>?_,⟨List.length_set,fun j w ej oj=>?_,fun j w ej=>?_⟩,fun b hb=>?_⟩
 ·by_cases hj:i=j
  ·subst hj
   rw [List.getElem?_set_self hi]at ej
   cases ej
   exact⟨_,es,p⟩
  ·rw [List.getElem?_set_ne hj]at ej
   obtain⟨v,ev,q⟩:=r.rep j w ej
   refine⟨v,ev,q.kp kp fun ow b c' eb hb=>?_⟩
   have ne:b≠a:=by
    rintro rfl
    exact hj (r.apart i j u w e ej ou ow (by rw [es,ev,eb]))
   rw [zz ne]
   exact hb
 ·have own:∀ (j:Nat) (w:U),(ρ.set i (some u'))[j]?=some (some w)->w.own=true->∃ w',ρ[j]?=some (some w')/\w'.own=true:=fun j w ej oj=>by
   by_cases hj:i=j
   ·subst hj; exact⟨u,e,ou⟩
   ·rw [List.getElem?_set_ne hj]at ej; exact⟨w,ej,oj⟩
  obtain⟨x,ex,ox⟩:=own j w ej oj
  obtain⟨y,ey,oy⟩:=own k w' ek ok
  exact r.apart j k x y ex ey ox oy es'
 ·have ne:b≠a:=by
   rintro rfl
   exact n ⟨i,u,e,ou,es⟩
  rw [zz ne]
  exact hb
 ·by_cases hj:i=j
  ·subst hj; exact⟨u,e,ou⟩
  ·rw [List.getElem?_set_ne hj]at ej; exact⟨w,ej,oj⟩
 ·by_cases hj:i=j
  ·subst hj; exact⟨u',List.getElem?_set_self hi⟩
  ·exact⟨w,by rw [List.getElem?_set_ne hj]; exact ej⟩
 ·by_cases hb':b=a
  ·subst hb'; rw [zA]at hb; cases hb
  ·rw [zz hb']at hb; exact hb
theorem Rp.own_ref{v:V}{u:U}(h:Rp K H v u)(o:u.own=true):∃ a,v=.ref a:=let ⟨a,_,e,_⟩:=h.own o; ⟨a,e⟩
def Fz(K:PySem.W.Frag)(H:Hp)(v:V)(H':Hp):Prop :=
 (∃ a xs o,v=.ref a/\K.lookup a=none/\H a=some (.lst xs)/\H'=upd H a (.frz o (.lst xs)))\/(∃ a xs o,v=.ref a/\K.lookup a=none/\H a=some (.dT xs)/\H'=upd H a (.frz o (.dT xs))) \/
  ((∀ a,v=.ref a->(∀ xs,H a≠some (.lst xs))/\∀ xs,H a≠some (.dT xs))/\H'=H)
def U.fz:U->Option D
 | .d x=>some x
 | .l xs=>some (.list xs)
 | .t kvs=>some (.dict (kvs.map fun p=>(kTD p.1,p.2)))
 | .k _=>none
theorem zrr{ws:List (List Key×V)}{kvs:List (List Key×D)}(h:KVd K H ws kvs):DFt K H ws (kvs.map fun p=>(kTD p.1,p.2)):=by
 induction h with
 | nil=>exact .nil
 | @cons p q ps qs hq t ih =>
  obtain⟨k,v⟩:=p
  obtain⟨k',d⟩:=q
  obtain⟨e,hd⟩:=hq
  cases(show k=k' from e)
  exact .cons hd ih
theorem Fz.rp{v:V}{u:U}{x:D}(h:Fz K H v H')(p:Rp K H v u)(e:u.fz=some x):DF K H' v x/\(u.own=false->H'=H)/\(u.own=true->∃ a o,v=.ref a/\H'=upd H a o):=by
 cases u with
 | d y =>
  cases e
  have k:H'=H:=by
   rcases h with ⟨a,xs,o,rfl,nk,ea,_⟩ | ⟨a,xs,o,rfl,nk,ea,_⟩ | ⟨_,rfl⟩
   ·exfalso
    cases(show DF K H _ _ from p)with
    | tup h _=>rw [ea]at h; cases h
    | lst h _ =>
     rcases h with ⟨o,h⟩ | ⟨ob,its,n,hk,_⟩
     ·rw [ea]at h; cases h
     ·rw [nk]at hk; cases hk
    | dct h _=>rw [ea]at h; cases h
    | exc h _ _=>obtain⟨_,h,_⟩:=h; rw [ea]at h; cases h
   ·exfalso
    cases(show DF K H _ _ from p)with
    | tup h _=>rw [ea]at h; cases h
    | lst h _ =>
     rcases h with ⟨o,h⟩ | ⟨ob,its,n,hk,_⟩
     ·rw [ea]at h; cases h
     ·rw [nk]at hk; cases hk
    | dct h _=>rw [ea]at h; cases h
    | exc h _ _=>obtain⟨_,h,_⟩:=h; rw [ea]at h; cases h
   ·rfl
  subst k
  exact⟨p,fun _=>rfl,fun z=>by cases z⟩
 | l xs =>
  cases e
  obtain⟨a,us,rfl,ea,ds⟩:=p
  rcases h with ⟨a',xs',o,ev,_,ea',rfl⟩ | ⟨a',xs',o,ev,_,ea',_⟩ | ⟨z,_⟩
  ·cases ev
   rw [ea]at ea'
   cases ea'
   exact⟨.lst (.inl ⟨o,zA⟩) (ds.kp (ze8 ea trivial _)),(fun z=>by cases z),fun _=>⟨a,_,rfl,rfl⟩⟩
  ·cases ev
   rw [ea]at ea'
   cases ea'
  ·exact absurd ea ((z a rfl).1 us)
 | t xs =>
  cases e
  obtain⟨a,us,rfl,ea,ds⟩:=p
  rcases h with ⟨a',xs',o,ev,_,ea',_⟩ | ⟨a',xs',o,ev,_,ea',rfl⟩ | ⟨z,_⟩
  ·cases ev
   rw [ea]at ea'
   cases ea'
  ·cases ev
   rw [ea]at ea'
   cases ea'
   exact⟨.dct zA (zrr (ds.kp (ze8 ea trivial _))),(fun z=>by cases z),fun _=>⟨a,_,rfl,rfl⟩⟩
  ·exact absurd ea ((z a rfl).2 us)
 | k xs=>cases e
end
section
variable {K:PySem.W.Frag} {ρ ρ':En} {σ:St} {H H':Hp}
def za2(ρ:En):List Ar->Option (List U)
 | []=>some []
 | a::as=>(a.get ρ).bind fun u=>(za2 ρ as).bind fun us=>some (u::us)
def zcF:List U->Option (List D)
 | []=>some []
 | .d x::us=>(zcF us).bind fun xs=>some (x::xs)
 | _::_=>none
def RpL(K:PySem.W.Frag)(H:Hp):List V->List U->Prop:=Paired fun v u=>Rp K H v u
theorem zrs{vs:List V}{as:List Ar}{us:List U}(len:vs.length=as.length)(h:∀ (i:Nat) (a:Ar),as[i]?=some a->∃ v,vs[i]?=some v/\∀ u,a.get ρ=some u->Rp K H v u)(e:za2 ρ as=some us):RpL K H vs us:=by
 induction as generalizing vs us with
 | nil =>
  cases e
  cases vs with
  | nil=>exact .nil
  | cons=>simp at len
 | cons a as ih =>
  obtain⟨u,eu,e⟩:=bind_some e
  obtain⟨us',eus,e⟩:=bind_some e
  cases e
  cases vs with
  | nil=>simp at len
  | cons v vs =>
   obtain⟨v',ev,k⟩:=h 0 a rfl
   cases(show some v=some v' from ev)
   exact .cons (k u eu) (ih (by simpa using len) (fun i b eb=>h (i+1) b eb) eus)
theorem ArS.rpl{vs:List V}{as:List Ar}{us:List U}(r:Rs K ρ σ H)(g:Go K ρ σ H ρ' H')(s:ArS K ρ' σ H H' vs as)(e:za2 ρ' as=some us):RpL K H' vs us :=
 zrs s.len (fun i a ea=>let ⟨v,ev,k⟩:=s.ar i a ea; ⟨v,ev,fun u eu=>k.now r g eu⟩) e
theorem zjj{vs:List V}{us:List U}{ds:List D}(h:RpL K H vs us)(e:zcF us=some ds):DFs K H vs ds:=by
 induction h generalizing ds with
 | nil=>cases e; exact .nil
 | @cons v u vs us hv t ih =>
  cases u with
  | d x =>
   obtain⟨xs,ex,e⟩:=bind_some (show(zcF us).bind (fun xs=>some (x::xs))=some ds from e)
   cases e
   exact .cons hv (ih ex)
  | l=>cases e
  | t=>cases e
  | k=>cases e
def zp(ma:MA):ME:=fun ρ=>(ma ρ).bind fun p=>(za2 p.2 p.1).bind fun us=>(zcF us).bind fun ds=>if ds.length<=sizeLine then some (.u (.d (.tuple ds)),p.2)else none
def zbs(ma:MA):ME:=fun ρ=>(ma ρ).bind fun p=>(za2 p.2 p.1).bind fun us=>(zcF us).bind fun ds=>if ds.length<=sizeLine then some (.u (.l ds),p.2)else none
theorem zm{t:TA}{m:MA}(h:VAs K t m):VE K (znI t) (zp m):=by
 intro ρ σ H a ρ' Q r e q
 obtain⟨⟨as,ρ1⟩,e1,e⟩:=bind_some e
 obtain⟨us,eu,e⟩:=bind_some e
 obtain⟨ds,ed,e⟩:=bind_some e
 split at e
 ·rename_i hz
  cases e
  refine h ρ σ H as _ _ r e1 fun vs H1 g1 s1=>?_
  have dd:=zjj (s1.rpl r g1 eu) ed
  refine⟨by rw [dd.len]; exact hz,fun p hp=>?_⟩
  have sm:=zaT hp (.tup vs)
  exact q _ _ (g1.trans (Go.grow g1.rs sm)) ⟨.tup zA (dd.kp sm.kp),Nw.data⟩
 ·cases e
theorem zaM{t:TA}{m:MA}(h:VAs K t m):VE K (zqY t) (zbs m):=by
 intro ρ σ H a ρ' Q r e q
 obtain⟨⟨as,ρ1⟩,e1,e⟩:=bind_some e
 obtain⟨us,eu,e⟩:=bind_some e
 obtain⟨ds,ed,e⟩:=bind_some e
 split at e
 ·rename_i hz
  cases e
  refine h ρ σ H as _ _ r e1 fun vs H1 g1 s1=>?_
  have dd:=zjj (s1.rpl r g1 eu) ed
  refine⟨by rw [dd.len]; exact hz,fun p hp=>?_⟩
  have sm:=zaT hp (.lst vs)
  exact q _ _ (g1.trans (Go.grow g1.rs sm)) ⟨⟨p,_,rfl,zA,dd.kp sm.kp⟩,fun _=>⟨p,rfl,g1.dm p hp⟩⟩
 ·cases e
def VC(K:PySem.W.Frag)(r:List V->Hp->VK->Prop)(f:List U->Option U):Prop :=
 ∀ (vs:List V) (us:List U) (u:U) (H:Hp) (Q:VK),RpL K H vs us->f us=some u->(∀ v H',zbg H H'->Rp K H' v u->Nw H v u->Q v H')->r vs H Q
def mCB(f:List U->Option U)(ma:MA):ME:=fun ρ=>(ma ρ).bind fun p=>(za2 p.2 p.1).bind fun us=>(f us).bind fun u=>some (.u u,p.2)
theorem zaH{r:List V->Hp->VK->Prop}{f:List U->Option U}{t:TA}{m:MA}(hc:VC K r f)(h:VAs K t m):VE K (tCB r t) (mCB f m):=by
 intro ρ σ H a ρ' Q rs e q
 obtain⟨⟨as,ρ1⟩,e1,e⟩:=bind_some e
 obtain⟨us,eu,e⟩:=bind_some e
 obtain⟨u,ef,e⟩:=bind_some e
 cases e
 refine h ρ σ H as _ _ rs e1 fun vs H1 g1 s1=>hc vs us u H1 _ (s1.rpl rs g1 eu) ef fun v H2 s p n=>?_
 exact q v H2 (g1.trans (Go.grow g1.rs s)) ⟨p,n.mono g1.dm⟩
def f1(f:U->Option U):List U->Option U
 | [u]=>f u
 | _=>none
theorem zjk{r:List V->Hp->VK->Prop}{f:U->Option U}(h:∀ (v:V) (a u:U) (H:Hp) (Q:VK),Rp K H v a->f a=some u->(∀ v H',zbg H H'->Rp K H' v u->Nw H v u->Q v H')->r [v] H Q):VC K r (f1 f):=by
 intro vs us u H Q hr e q
 cases hr with
 | nil=>cases e
 | cons h1 t =>
  cases t with
  | nil=>exact h _ _ _ _ _ h1 e q
  | cons=>cases e
def U.items:U->Option (List D)
 | .d (.tuple xs)=>some xs
 | .d (.list xs)=>some xs
 | .l xs=>some xs
 | _=>none
theorem Rp.items{v:V}{u:U}{xs:List D}(h:Rp K H v u)(e:u.items=some xs):∃ p ys,v=.ref p/\(SqL K H p ys\/SqT K H p ys)/\DFs K H ys xs:=by
 cases u with
 | d x =>
  cases x with
  | tuple ds=>cases e; obtain⟨a,ys,rfl,h1,h2⟩:=DF.tup_inv h; exact⟨a,ys,rfl,.inr (SqT.of h1),h2⟩
  | list ds=>cases e; obtain⟨a,ys,rfl,h1,h2⟩:=DF.lst_inv h; exact⟨a,ys,rfl,.inl h1.sq,h2⟩
  | _=>cases e
 | l ds=>cases e; obtain⟨a,ys,rfl,h1,h2⟩:=h; exact⟨a,ys,rfl,.inl (SqL.of h1),h2⟩
 | t=>cases e
 | k=>cases e
def zaE(u:U):Option U:=u.items.map fun xs=>.d (.int xs.length)
theorem zZ:VC K (ztI K) (f1 zaE):=zjk fun v a u H Q h e q=>by
 obtain⟨xs,ex,rfl⟩:=Option.map_eq_some_iff.mp e
 obtain⟨p,ys,rfl,s,d⟩:=h.items ex
 exact⟨p,ys,rfl,s,q _ _ (fun _ _ z=>z) (by rw [d.len]; exact .int _) Nw.data⟩
def ze9(u:U):Option U:=u.items.map fun xs=>.d (.tuple xs)
theorem zeL:VC K (zie K) (f1 ze9):=zjk fun v a u H Q h e q=>by
 obtain⟨xs,ex,rfl⟩:=Option.map_eq_some_iff.mp e
 cases a with
 | d x =>
  cases x with
  | tuple ds =>
   cases ex
   obtain⟨a,ys,rfl,h1,h2⟩:=DF.tup_inv h
   exact⟨a,ys,rfl,.inr ⟨SqT.of h1,q _ _ (fun _ _ z=>z) (.tup h1 h2) Nw.data⟩⟩
  | list ds =>
   cases ex
   obtain⟨a,ys,rfl,h1,h2⟩:=DF.lst_inv h
   refine⟨a,ys,rfl,.inl ⟨h1.sq,fun l hl=>?_⟩⟩
   have sm:=zaT hl (.tup ys)
   exact q _ _ sm (.tup zA (h2.kp sm.kp)) Nw.data
  | _=>cases ex
 | l ds =>
  cases ex
  obtain⟨a,ys,rfl,h1,h2⟩:=h
  refine⟨a,ys,rfl,.inl ⟨SqL.of h1,fun l hl=>?_⟩⟩
  have sm:=zaT hl (.tup ys)
  exact q _ _ sm (.tup zA (h2.kp sm.kp)) Nw.data
 | t=>cases ex
 | k=>cases ex
def zl7(u:U):Option U:=u.items.map fun xs=>.l xs
theorem zof:VC K (zjW K) (f1 zl7):=zjk fun v a u H Q h e q=>by
 obtain⟨xs,ex,rfl⟩:=Option.map_eq_some_iff.mp e
 obtain⟨p,ys,rfl,s,d⟩:=h.items ex
 refine⟨p,ys,rfl,s,fun l hl=>?_⟩
 have sm:=zaT hl (.lst ys)
 exact q _ _ sm ⟨l,ys,rfl,zA,d.kp sm.kp⟩ fun _=>⟨l,rfl,hl⟩
def zkX:U->Option U
 | .d (.int i)=>some (.d (.int (if i < 0 then -i else i)))
 | _=>none
theorem zjl:VC K (fun xs H Q=>∃ i,xs=[.int i]/\Q (.int (if i < 0 then -i else i)) H) (f1 zkX):=zjk fun v a u H Q h e q=>by
 unfold zkX at e
 split at e
 ·rename_i i
  cases e
  cases DF.int_inv h
  exact⟨i,rfl,q _ _ (fun _ _ z=>z) (.int _) Nw.data⟩
 ·cases e
def zg6:U->Option U
 | .d (.int i)=>some (.d (.int i))
 | .d (.bool k)=>some (.d (.int (if k then 1 else 0)))
 | _=>none
theorem zhx:VC K (fun xs H Q=>(∃ i,xs=[.int i]/\Q (.int i) H)\/∃ k,xs=[.bl k]/\Q (.int (if k then 1 else 0)) H) (f1 zg6):=zjk fun v a u H Q h e q=>by
 unfold zg6 at e
 split at e
 ·rename_i i
  cases e
  cases DF.int_inv h
  exact .inl ⟨i,rfl,q _ _ (fun _ _ z=>z) (.int _) Nw.data⟩
 ·rename_i i
  cases e
  cases DF.bl_inv h
  exact .inr ⟨i,rfl,q _ _ (fun _ _ z=>z) (.int _) Nw.data⟩
 ·cases e
def mB(me:ME):MT:=fun ρ=>(me ρ).bind fun p=>(p.1.get p.2).bind fun u=>match u with | .d (.bool b)=>some (b,p.2) | _=>none
theorem zcs{t:TE}{m:ME}(h:VE K t m):VT K (tB t) (mB m):=by
 intro ρ σ H b ρ' Q r e q
 obtain⟨⟨a,ρ1⟩,e1,e⟩:=bind_some e
 obtain⟨u,eu,e⟩:=bind_some e
 split at e
 ·cases e
  refine h ρ σ H a _ _ r e1 fun v H1 g1 k1=>?_
  exact⟨_,DF.bl_inv (k1.now r g1 eu),q _ g1⟩
 ·cases e
theorem zy{t:TE}{m:ME}(h:VE K t m):VT K (zh6 t) (mB m):=zcs h
def zjm(ma mb:MT):MT:=fun ρ=>(ma ρ).bind fun p=>if p.1=true then mb p.2 else some (false,p.2)
def mOr(ma mb:MT):MT:=fun ρ=>(ma ρ).bind fun p=>if p.1=true then some (true,p.2)else mb p.2
def zcK(ma:MT):MT:=fun ρ=>(ma ρ).bind fun p=>some (!p.1,p.2)
theorem zhy{ta tb:TT}{ma mb:MT}(ha:VT K ta ma)(hb:VT K tb mb):VT K (zqt ta tb) (zjm ma mb):=by
 intro ρ σ H b ρ' Q r e q
 obtain⟨⟨c,ρ1⟩,e1,e⟩:=bind_some e
 refine ha ρ σ H c ρ1 _ r e1 fun H1 g1=>?_
 dsimp only at e
 split at e
 ·rename_i hc
  rw [if_pos hc]
  exact hb ρ1 σ H1 b ρ' _ g1.rs e fun H2 g2=>q H2 (g1.trans g2)
 ·rename_i hc
  rw [if_neg hc]
  cases e
  exact q H1 g1
theorem zbV{ta tb:TT}{ma mb:MT}(ha:VT K ta ma)(hb:VT K tb mb):VT K (tOr ta tb) (mOr ma mb):=by
 intro ρ σ H b ρ' Q r e q
 obtain⟨⟨c,ρ1⟩,e1,e⟩:=bind_some e
 refine ha ρ σ H c ρ1 _ r e1 fun H1 g1=>?_
 dsimp only at e
 split at e
 ·rename_i hc
  rw [if_pos hc]
  cases e
  exact q H1 g1
 ·rename_i hc
  rw [if_neg hc]
  exact hb ρ1 σ H1 b ρ' _ g1.rs e fun H2 g2=>q H2 (g1.trans g2)
theorem za3{ta:TT}{ma:MT}(ha:VT K ta ma):VT K (zqu ta) (zcK ma):=by
 intro ρ σ H b ρ' Q r e q
 obtain⟨⟨c,ρ1⟩,e1,e⟩:=bind_some e
 cases e
 exact ha ρ σ H c _ _ r e1 fun H1 g1=>q H1 g1
def zdP(ma mb:ME):ME:=fun ρ=>(mB ma ρ).bind fun p=>if p.1=true then mb p.2 else some (.u (.d (.bool false)),p.2)
theorem zrt{a:Ar}{v:V}{H1 H2:Hp}{ρ1 ρ2:En}(g1:Go K ρ σ H ρ1 H1)(h:zgN K ρ2 σ H1 H2 v a):zgN K ρ2 σ H H2 v a:=by
 cases a with
 | s i=>exact h
 | u x=>exact⟨h.1,h.2.mono g1.dm⟩
theorem zdY{ta tb:TE}{ma mb:ME}(ha:VE K ta ma)(hb:VE K tb mb):VE K (zlq ta tb) (zdP ma mb):=by
 intro ρ σ H a ρ' Q r e q
 obtain⟨⟨c,ρ1⟩,e1,e⟩:=bind_some e
 refine zcs ha ρ σ H c ρ1 (fun c H1=>if c=true then tb σ H1 Q else Q (.bl false) H1) r e1 fun H1 g1=>?_
 dsimp only at e
 split at e
 ·rename_i hc
  rw [if_pos hc]
  exact hb ρ1 σ H1 a ρ' _ g1.rs e fun v H2 g2 k=>q v H2 (g1.trans g2) (zrt g1 k)
 ·rename_i hc
  rw [if_neg hc]
  cases e
  exact q _ H1 g1 ⟨.bl _,Nw.data⟩
def zil(ma:ME):ME:=fun ρ=>(mB ma ρ).bind fun p=>some (.u (.d (.bool (!p.1))),p.2)
theorem zl8{ta:TE}{ma:ME}(ha:VE K ta ma):VE K (zlr ta) (zil ma):=by
 intro ρ σ H a ρ' Q r e q
 obtain⟨⟨c,ρ1⟩,e1,e⟩:=bind_some e
 cases e
 exact zcs ha ρ σ H c _ (fun c H1=>Q (.bl (!c)) H1) r e1 fun H1 g1=>q _ H1 g1 ⟨.bl _,Nw.data⟩
def mIf(mt:MT)(ma mb:ME):ME:=fun ρ=>(mt ρ).bind fun p=>if p.1=true then ma p.2 else mb p.2
theorem zru{tt:TT}{ta tb:TE}{mt:MT}{ma mb:ME}(ht:VT K tt mt)(ha:VE K ta ma)(hb:VE K tb mb):VE K (tIf tt ta tb) (mIf mt ma mb):=by
 intro ρ σ H a ρ' Q r e q
 obtain⟨⟨c,ρ1⟩,e1,e⟩:=bind_some e
 refine ht ρ σ H c ρ1 _ r e1 fun H1 g1=>?_
 dsimp only at e
 split at e
 ·rename_i hc
  rw [if_pos hc]
  exact ha ρ1 σ H1 a ρ' _ g1.rs e fun v H2 g2 k=>q v H2 (g1.trans g2) (zrt g1 k)
 ·rename_i hc
  rw [if_neg hc]
  exact hb ρ1 σ H1 a ρ' _ g1.rs e fun v H2 g2 k=>q v H2 (g1.trans g2) (zrt g1 k)
def U.tru:U->Option Bool
 | .d .none=>some false
 | .d (.bool b)=>some b
 | .d (.int i)=>some (i != 0)
 | .d (.str x)=>if x.length<=sizeLine then some ((x.length:Int) != 0)else none
 | .d (.tuple xs)=>some (!xs.isEmpty)
 | .d (.list xs)=>some (!xs.isEmpty)
 | .l xs=>some (!xs.isEmpty)
 | _=>none
theorem zdZ{ys:List V}{xs:List D}(h:DFs K H ys xs):(!xs.isEmpty)=!ys.isEmpty:=by cases h<;>rfl
def zog(ma:ME):MT:=fun ρ=>(ma ρ).bind fun p=>(p.1.get p.2).bind fun u=>u.tru.bind fun b=>some (b,p.2)
theorem zrv{ta:TE}{ma:ME}(ha:VE K ta ma):VT K (ztH K ta) (zog ma):=by
 intro ρ σ H b ρ' Q r e q
 obtain⟨⟨a,ρ1⟩,e1,e⟩:=bind_some e
 obtain⟨u,eu,e⟩:=bind_some e
 obtain⟨c,ec,e⟩:=bind_some e
 cases e
 refine ha ρ σ H a _ _ r e1 fun v H1 g1 k1=>⟨_,?_,q _ g1⟩
 have p:=k1.now r g1 eu
 cases u with
 | d x =>
  cases(show DF K H1 v x from p)with
  | non=>cases ec; rfl
  | bl=>cases ec; rfl
  | int=>cases ec; rfl
  | str x =>
   unfold U.tru at ec
   dsimp only at ec
   split at ec
   ·cases ec; exact⟨by assumption,rfl⟩
   ·cases ec
  | tup h t=>cases ec; exact .inr (.inl ⟨_,SqT.of h,zdZ t⟩)
  | lst h t=>cases ec; exact .inl ⟨_,h.sq,zdZ t⟩
  | dct=>cases ec
  | exc=>cases ec
 | l xs=>cases ec; obtain⟨a,us,rfl,h1,h2⟩:=p; exact .inl ⟨_,SqL.of h1,zdZ h2⟩
 | t=>cases ec
 | k=>cases ec
end
section
variable {K:PySem.W.Frag} {ρ ρ':En} {σ:St} {H H':Hp}
abbrev FD:=List U->Option (U×List U)
def sm(xs:List U):En:=xs.map some
def smV(vs:List V):St:=vs.map some
def spV(K:PySem.W.Frag)(n:Nat)(f:FD):Sp:=fun vs H Q _=>∃ us r outs,us.length=n/\Rs K (sm us) (smV vs) H/\f us=some (r,outs) /\
 ∀ v H',Go K (sm us) (smV vs) H (sm outs) H'->Rp K H' v r->Nw H v r->Q v H'
def wb:En->List Ar->List U->En
 | ρ,.s j::as,o::os=>wb (ρ.set j (some o)) as os
 | ρ,.u _::as,_::os=>wb ρ as os
 | ρ,_,_=>ρ
def zdJ(ρ:En):List Ar->Bool
 | []=>true
 | .s j::as=>(match ρ[j]? with | some (some u)=>!u.own || !(as.any fun a=>match a with | .s k=>decide (k=j) | _=>false) | _=>true) && zdJ ρ as
 | .u _::as=>zdJ ρ as
def zI(f:FD)(ma:MA):ME:=fun ρ=>(ma ρ).bind fun p=>if zdJ p.2 p.1=true then(za2 p.2 p.1).bind fun us=>(f us).bind fun o=>some (.u o.1,wb p.2 p.1 o.2)else none
theorem zdx:∀ {as:List Ar} {us:List U},za2 ρ as=some us->us.length=as.length
 | [],us,e=>by cases e; rfl
 | a::as,us,e=>by
  obtain⟨u,eu,e⟩:=bind_some e
  obtain⟨us',eus,e⟩:=bind_some e
  cases e
  simp [zdx eus]
theorem zj5:∀ {as:List Ar} {us:List U} {i:Nat} {a:Ar},za2 ρ as=some us->as[i]?=some a->∃ u,us[i]?=some u/\a.get ρ=some u
 | [],us,i,a,e,ea=>by simp at ea
 | b::as,us,i,a,e,ea=>by
  obtain⟨u,eu,e⟩:=bind_some e
  obtain⟨us',eus,e⟩:=bind_some e
  cases e
  cases i with
  | zero=>cases(show some b=some a from ea); exact⟨u,rfl,eu⟩
  | succ i=>exact zj5 (i:=i) eus ea
theorem zgc:∀ {as:List Ar} {us:List U} {i:Nat} {u:U},za2 ρ as=some us->us[i]?=some u->∃ a,as[i]?=some a/\a.get ρ=some u:=fun{as us i u} e eu=>by
 have hi:i < as.length:=by rw [<-zdx e]; exact(List.getElem?_eq_some_iff.mp eu).1
 obtain⟨u',e1,e2⟩:=zj5 e (List.getElem?_eq_getElem hi)
 rw [eu]at e1
 cases e1
 exact⟨_,List.getElem?_eq_getElem hi,e2⟩
theorem zpZ{j:Nat}{u:U}(e:Ar.get ρ (.s j)=some u):ρ[j]?=some (some u):=by
 have z:(ρ[j]?).join=some u:=e
 cases q:ρ[j]? with
 | none=>rw [q]at z; cases z
 | some o =>
  rw [q]at z
  cases o with
  | none=>cases z
  | some w=>cases z; rfl
theorem zj6:∀ {as:List Ar} {p q j:Nat} {u:U},zdJ ρ as=true->as[p]?=some (.s j)->as[q]?=some (.s j)->ρ[j]?=some (some u)->u.own=true->p=q
 | [],p,q,j,u,_,e,_,_,_=>by simp at e
 | a::as,p,q,j,u,d,ep,eq,ej,ou=>by
  have dd:zdJ ρ as=true:=by
   cases a with
   | s k=>unfold zdJ at d; rw [Bool.and_eq_true]at d; exact d.2
   | u=>exact d
  have nope:∀ {q':Nat},a=.s j->as[q']?=some (.s j)->False:=fun{q'} ea eq'=>by
   subst ea
   unfold zdJ at d
   rw [Bool.and_eq_true,ej]at d
   have d1:=d.1
   dsimp only at d1
   rw [ou]at d1
   have m:(as.any fun a=>match a with | .s k=>decide (k=j) | _=>false)=true:=List.any_eq_true.mpr ⟨.s j,List.mem_of_getElem? eq',by simp⟩
   rw [m]at d1
   cases d1
  cases p with
  | zero =>
   cases q with
   | zero=>rfl
   | succ q=>exact(nope (Option.some.inj ep) eq).elim
  | succ p =>
   cases q with
   | zero=>exact(nope (Option.some.inj eq) ep).elim
   | succ q=>exact congrArg (·+1) (zj6 dd ep eq ej ou)
theorem zcp{us:List U}{i:Nat}{u:U}:(sm us)[i]?=some (some u)↔us[i]?=some u:=by
 unfold sm
 rw [List.getElem?_map]
 cases us[i]?<;>simp
theorem zfa{vs:List V}{i:Nat}{v:V}:(smV vs)[i]?=some (some v)↔vs[i]?=some v:=by
 unfold smV
 rw [List.getElem?_map]
 cases vs[i]?<;>simp
theorem zj7:∀ {as:List Ar} {os:List U} {ρ:En} {j:Nat} {w:U},(wb ρ as os)[j]?=some (some w)->as.length=os.length->(∃ p:Nat,as[p]?=some (Ar.s j)/\os[p]?=some w)\/(ρ[j]?=some (some w)/\∀ p:Nat,as[p]?≠some (Ar.s j))
 | [],os,ρ,j,w,e,_=>.inr ⟨by cases os<;>exact e,fun p z=>by simp at z⟩
 | a::as,[],ρ,j,w,e,l=>by simp at l
 | .u x::as,o::os,ρ,j,w,e,l=>by
  rcases zj7 (as:=as) (os:=os) (ρ:=ρ) (show(wb ρ as os)[j]?=some (some w) from e) (by simpa using l)with ⟨p,h1,h2⟩ | ⟨h1,h2⟩
  ·exact .inl ⟨p+1,h1,h2⟩
  ·refine .inr ⟨h1,fun p z=>?_⟩
   cases p with
   | zero=>cases(show some (Ar.u x)=some (.s j) from z)
   | succ p=>exact h2 p z
 | .s k::as,o::os,ρ,j,w,e,l=>by
  rcases zj7 (as:=as) (os:=os) (ρ:=ρ.set k (some o)) (show(wb (ρ.set k (some o)) as os)[j]?=some (some w) from e) (by simpa using l)with ⟨p,h1,h2⟩ | ⟨h1,h2⟩
  ·exact .inl ⟨p+1,h1,h2⟩
  ·by_cases hk:k=j
   ·subst hk
    have hl:k < (ρ.set k (some o)).length:=(List.getElem?_eq_some_iff.mp h1).1
    rw [List.length_set]at hl
    rw [List.getElem?_set_self hl]at h1
    exact .inl ⟨0,rfl,by cases h1; rfl⟩
   ·rw [List.getElem?_set_ne hk]at h1
    refine .inr ⟨h1,fun p z=>?_⟩
    cases p with
    | zero=>cases(show some (Ar.s k)=some (.s j) from z); exact hk rfl
    | succ p=>exact h2 p z
theorem zhz:∀ (ρ:En) (as:List Ar) (os:List U),(wb ρ as os).length=ρ.length
 | ρ,[],os=>by cases os<;>rfl
 | ρ,.s k::as,[]=>rfl
 | ρ,.u k::as,[]=>rfl
 | ρ,.s k::as,o::os=>by show(wb (ρ.set k (some o)) as os).length=_; rw [zhz]; exact List.length_set
 | ρ,.u k::as,o::os=>zhz ρ as os
theorem zfM:∀ {as:List Ar} {os:List U} {ρ:En} {j:Nat} {w:U},ρ[j]?=some (some w)->∃ w',(wb ρ as os)[j]?=some (some w')
 | [],os,ρ,j,w,e=>⟨w,by cases os<;>exact e⟩
 | .s k::as,[],ρ,j,w,e=>⟨w,e⟩
 | .u k::as,[],ρ,j,w,e=>⟨w,e⟩
 | .u k::as,o::os,ρ,j,w,e=>zfM (as:=as) (os:=os) e
 | .s k::as,o::os,ρ,j,w,e=>by
  by_cases hk:k=j
  ·subst hk
   exact zfM (as:=as) (os:=os) (w:=o) (List.getElem?_set_self (List.getElem?_eq_some_iff.mp e).1)
  ·exact zfM (as:=as) (os:=os) (w:=w) (by rw [List.getElem?_set_ne hk]; exact e)
theorem zjn{as:List Ar}{us:List U}{vs:List V}{ρ1:En}{H1:Hp}(rs:Rs K ρ σ H)(g1:Go K ρ σ H ρ1 H1)(s1:ArS K ρ1 σ H H1 vs as)(dj:zdJ ρ1 as=true)(eu:za2 ρ1 as=some us) :
  Rs K (sm us) (smV vs) H1/\∀ (outs:List U) (H2:Hp),Go K (sm us) (smV vs) H1 (sm outs) H2->Go K ρ σ H (wb ρ1 as outs) H2:=by
 have rp:=s1.rpl rs g1 eu
 have lus:=zdx eu
 have lvs:=s1.len
 have adr:∀ (i:Nat) (u:U),us[i]?=some u->u.own=true->∃ b,vs[i]?=some (.ref b)/\((∃ j,as[i]?=some (.s j)/\σ[j]?=some (some (.ref b))/\ρ1[j]?=some (some u))\/(as[i]?=some (.u u)/\H b=none)):=fun i u ei ou=>by
  obtain⟨a,ea,eg⟩:=zgc eu ei
  obtain⟨v,ev,k⟩:=s1.ar i a ea
  have p:=k.now rs g1 eg
  obtain⟨b,rfl⟩:=p.own_ref ou
  refine⟨b,ev,?_⟩
  cases a with
  | s j=>exact .inl ⟨j,ea,k.1,zpZ eg⟩
  | u x =>
   cases(show some x=some u from eg)
   obtain⟨b',eb,hb⟩:=k.2 ou
   cases eb
   exact .inr ⟨ea,hb⟩
 have apart:∀ (i j:Nat) (u w:U),us[i]?=some u->us[j]?=some w->u.own=true->w.own=true->vs[i]?=vs[j]?->i=j:=fun i j u w ei ej ou ow ev=>by
  obtain⟨b,vb,hb⟩:=adr i u ei ou
  obtain⟨c,vc,hc⟩:=adr j w ej ow
  have bc:b=c:=by rw [vb,vc]at ev; cases ev; rfl
  subst bc
  rcases hb with ⟨x,ax,sx,rx⟩ | ⟨ax,nx⟩
  ·rcases hc with ⟨y,ay,sy,ry⟩ | ⟨ay,ny⟩
   ·have xy:x=y:=g1.rs.apart x y u w rx ry ou ow (by rw [sx,sy])
    subst xy
    exact zj6 dj ax ay rx ou
   ·exfalso
    obtain⟨w',ew',ow'⟩:=g1.shr.own x u rx ou
    obtain⟨c',hc',_⟩:=rs.ow ⟨x,w',ew',ow',sx⟩
    rw [ny]at hc'
    cases hc'
  ·rcases hc with ⟨y,ay,sy,ry⟩ | ⟨ay,ny⟩
   ·exfalso
    obtain⟨w',ew',ow'⟩:=g1.shr.own y w ry ow
    obtain⟨c',hc',_⟩:=rs.ow ⟨y,w',ew',ow',sy⟩
    rw [nx]at hc'
    cases hc'
   ·exact s1.ap i j u w ax ay ou ow ev
 have rsA:Rs K (sm us) (smV vs) H1:=by
  refine⟨by unfold sm smV; rw [List.length_map,List.length_map]; omega,fun i u ei=>?_,fun i j u w ei ej ou ow ev=>?_⟩
  ·have ei':=zcp.mp ei
   obtain⟨a,ea,eg⟩:=zgc eu ei'
   obtain⟨v,ev,k⟩:=s1.ar i a ea
   exact⟨v,zfa.mpr ev,k.now rs g1 eg⟩
  ·have ei':=zcp.mp ei
   have ej':=zcp.mp ej
   refine apart i j u w ei' ej' ou ow ?_
   obtain⟨b,vb,_⟩:=adr i u ei' ou
   obtain⟨c,vc,_⟩:=adr j w ej' ow
   rw [zfa.mpr vb,zfa.mpr vc]at ev
   rw [vb,vc]
   exact Option.some.inj ev
 refine⟨rsA,fun outs H2 g2=>?_⟩
 have lo:outs.length=us.length:=by have:=g2.shr.len; unfold sm at this; simpa using this
 have kp2:=g2.kp rsA
 have owA:∀ b,Ow (sm us) (smV vs) b->Ow ρ1 σ b\/H b=none:=fun b ⟨i,u,ei,ou,es⟩=>by
  obtain⟨c,vc,hc⟩:=adr i u (zcp.mp ei) ou
  rw [zfa.mp es]at vc
  cases vc
  rcases hc with ⟨j,_,sj,rj⟩ | ⟨_,nb⟩
  ·exact .inl ⟨j,u,rj,ou,sj⟩
  ·exact .inr nb
 have outsAt:∀ (i:Nat) (w:U),outs[i]?=some w->∃ x,vs[i]?=some x/\Rp K H2 x w:=fun i w ei=>by
  obtain⟨x,ex,px⟩:=g2.rs.rep i w (zcp.mpr ei)
  exact⟨x,zfa.mp ex,px⟩
 have lao:as.length=outs.length:=by omega
 have ownBack:∀ (j:Nat) (w:U),(wb ρ1 as outs)[j]?=some (some w)->w.own=true->∃ w',ρ1[j]?=some (some w')/\w'.own=true:=fun j w ej ow=>by
  rcases zj7 ej lao with ⟨p,ap,op⟩ | ⟨h1,_⟩
  ·obtain⟨w',ew',ow'⟩:=g2.shr.own p w (zcp.mpr op) ow
   obtain⟨a,ea,eg⟩:=zgc eu (zcp.mp ew')
   rw [ap]at ea
   cases ea
   exact⟨w',zpZ eg,ow'⟩
  ·exact⟨w,h1,ow⟩
 refine⟨⟨by rw [zhz]; exact g1.rs.len,fun j w ej=>?_,fun i j u w ei ej ou ow es=>?_⟩,fun b ob hb nb=>?_,?_,fun b hb=>g1.dm b (g2.dm b hb)⟩
 ·rcases zj7 ej lao with ⟨p,ap,op⟩ | ⟨h1,h2⟩
  ·obtain⟨x,vx,px⟩:=outsAt p w op
   obtain⟨v',ev',k'⟩:=s1.ar p _ ap
   rw [vx]at ev'
   cases ev'
   exact⟨x,k'.1,px⟩
  ·obtain⟨x,ex,px⟩:=g1.rs.rep j w h1
   refine⟨x,ex,px.kp kp2 fun ow b c eb hb=>?_⟩
   refine g2.fr b c hb fun⟨i,u,ei,ou,es⟩=>?_
   obtain⟨c',vc',hc'⟩:=adr i u (zcp.mp ei) ou
   rw [zfa.mp es]at vc'
   cases vc'
   subst eb
   rcases hc' with ⟨k,ak,sk,rk⟩ | ⟨_,nb⟩
   ·have:k=j:=g1.rs.apart k j u w rk h1 ou ow (by rw [sk,ex])
    subst this
    exact h2 i ak
   ·obtain⟨w',ew',ow'⟩:=g1.shr.own j w h1 ow
    obtain⟨c'',hc'',_⟩:=rs.ow ⟨j,w',ew',ow',ex⟩
    rw [nb]at hc''
    cases hc''
 ·obtain⟨x,ex,ox⟩:=ownBack i u ei ou
  obtain⟨y,ey,oy⟩:=ownBack j w ej ow
  exact g1.rs.apart i j x y ex ey ox oy es
 ·refine g2.fr b ob (g1.fr b ob hb nb) fun z=>?_
  rcases owA b z with z | z
  ·exact nb (g1.shr.ow z)
  ·rw [z]at hb; cases hb
 ·refine⟨by rw [zhz]; exact g1.shr.len,fun j w ej ow=>?_,fun j w ej=>?_⟩
  ·obtain⟨x,ex,ox⟩:=ownBack j w ej ow
   exact g1.shr.own j x ex ox
  ·obtain⟨x,ex⟩:=g1.shr.live j w ej
   exact zfM ex
theorem zC{n:Nat}{f:FD}{t:TA}{m:MA}(h:VAs K t m)(hn:∀ ρ as ρ',m ρ=some (as,ρ')->as.length=n):VE K (zn0 (spV K n f) t) (zI f m):=by
 intro ρ σ H a ρ' Q rs e q
 obtain⟨⟨as,ρ1⟩,e1,e⟩:=bind_some e
 dsimp only at e
 split at e
 ·rename_i dj
  obtain⟨us,eu,e⟩:=bind_some e
  obtain⟨⟨r,outs⟩,ef,e⟩:=bind_some e
  cases e
  refine h ρ σ H as ρ1 _ rs e1 fun vs H1 g1 s1=>?_
  obtain⟨rsA,back⟩:=zjn rs g1 s1 dj eu
  exact⟨us,r,outs,by rw [zdx eu]; exact hn _ _ _ e1,rsA,ef,fun v H2 g2 p n2=>q v H2 (back outs H2 g2) ⟨p,n2.mono g1.dm⟩⟩
 ·cases e
theorem zB:∀ ρ as ρ',zg ρ=some (as,ρ')->as.length=0:=fun ρ as ρ' e=>by cases e; rfl
theorem zj{n:Nat}{me:ME}{ma:MA}(h:∀ ρ as ρ',ma ρ=some (as,ρ')->as.length=n):∀ ρ as ρ',zb me ma ρ=some (as,ρ')->as.length=n+1:=fun ρ as ρ' e=>by
 obtain⟨⟨a1,ρ1⟩,e1,e⟩:=bind_some e
 obtain⟨⟨as2,ρ2⟩,e2,e⟩:=bind_some e
 cases e
 simp [h _ _ _ e2]
end
inductive Fl where
 | nx (ρ:En) | bk (ρ:En) | ct (ρ:En) | rt (u:U) (ρ:En) | ex (x:D) (ρ:En)
def zoh(K:PySem.W.Frag)(H:Hp)(a:Addr)(x:D):Prop:=∃ n C fs ds,x=.dict ((.none,.str n)::ds)/\zhv H a C fs/\XN K n C/\DFf K H fs ds
structure Sn (K:PySem.W.Frag) (pn:List Nat) (σ₀:St) (A:Addr->Prop) (H₀ H₁:Hp) (ρ:En) (σ:St) (H:Hp):Prop where
 rs:Rs K ρ σ H
 fr:Fr' A H₀ H
 ow:∀ (i:Nat) (u:U) (a:Addr),ρ[i]?=some (some u)->u.own=true->σ[i]?=some (some (.ref a))->(i∈pn/\A a)\/H₀ a=none
 pin:∀ i∈pn,σ[i]?=σ₀[i]?
 dm:∀ a,H a=none->H₀ a=none
 kp:Kp H₁ H
def EX0:EXT:=fun _ _ _=>False
def zvD(K:PySem.W.Frag)(pn:List Nat)(EX:EXT)(σ₀:St)(A:Addr->Prop)(H₀ H₁:Hp)(D:Ends):Fl->Prop
 | .nx ρ=>∀ σ H,Sn K pn σ₀ A H₀ H₁ ρ σ H->D.nx σ H
 | .bk ρ=>∀ σ H,Sn K pn σ₀ A H₀ H₁ ρ σ H->D.bk σ H
 | .ct ρ=>∀ σ H,Sn K pn σ₀ A H₀ H₁ ρ σ H->D.ct σ H
 | .rt u ρ=>∀ v σ H,Sn K pn σ₀ A H₀ H₁ ρ σ H->Rp K H v u->Nw H₀ v u->D.rt v H
 | .ex x ρ=>∀ a σ H,Sn K pn σ₀ A H₀ H₁ ρ σ H->H₀ a=none->zoh K H a x->EX σ a H
abbrev MS:=En->Option Fl
def VS(K:PySem.W.Frag)(pn:List Nat)(EX:EXT)(t:TS)(m:MS):Prop :=
 ∀ (σ₀:St) (A:Addr->Prop) (H₀ H₁:Hp) (ρ:En) (σ:St) (H:Hp) (f:Fl) (D:Ends),Sn K pn σ₀ A H₀ H₁ ρ σ H->m ρ=some f->zvD K pn EX σ₀ A H₀ H₁ D f->t D σ H
section
variable {EX:EXT} {K:PySem.W.Frag} {pn:List Nat} {σ₀:St} {A:Addr->Prop} {H₀ H₁ H₂:Hp} {ρ ρ':En} {σ:St} {H H':Hp}
theorem Sn.go(s:Sn K pn σ₀ A H₀ H₁ ρ σ H)(g:Go K ρ σ H ρ' H'):Sn K pn σ₀ A H₀ H₁ ρ' σ H':=by
 refine⟨g.rs,fun a o h n=>g.fr a o (s.fr a o h n) fun⟨i,u,e,ou,es⟩=>?_,fun i u a e o es=>?_,s.pin,fun a h=>s.dm a (g.dm a h),s.kp.trans (g.kp s.rs)⟩
 ·rcases s.ow i u a e ou es with z | z
  ·exact n z.2
  ·rw [z]at h; cases h
 ·obtain⟨w,e',o'⟩:=g.shr.own i u e o
  exact s.ow i w a e' o' es
theorem Sn.re(s:Sn K pn σ₀ A H₀ H₂ ρ σ H)(k:Kp H₁ H₂):Sn K pn σ₀ A H₀ H₁ ρ σ H:=⟨s.rs,s.fr,s.ow,s.pin,s.dm,k.trans s.kp⟩
theorem Sn.at(s:Sn K pn σ₀ A H₀ H₁ ρ σ H):Sn K pn σ₀ A H₀ H ρ σ H:=⟨s.rs,s.fr,s.ow,s.pin,s.dm,Kp.refl H⟩
theorem Sn.set{i:Nat}{v:V}{u:U}(s:Sn K pn σ₀ A H₀ H₁ ρ σ H)(hi:i∉pn)(p:Rp K H v u)(n:u.own=true->∃ a,v=.ref a/\H₀ a=none/\¬Ow ρ σ a):Sn K pn σ₀ A H₀ H₁ (ρ.set i (some u)) (σ.set i (some v)) H:=by
 have ll:=s.rs.len
 have inv:∀ (j:Nat) (w:U),(ρ.set i (some u))[j]?=some (some w)->(j=i/\w=u/\i < ρ.length)\/(j≠i/\ρ[j]?=some (some w)):=fun j w e=>by
  by_cases hj:i=j
  ·subst hj
   have hl:=(List.getElem?_eq_some_iff.mp e).1
   rw [List.length_set]at hl
   rw [List.getElem?_set_self hl]at e
   cases e
   exact .inl ⟨rfl,rfl,hl⟩
  ·rw [List.getElem?_set_ne hj]at e
   exact .inr ⟨Ne.symm hj,e⟩
 have sat:∀ j,j≠i->(σ.set i (some v))[j]?=σ[j]?:=fun j h=>List.getElem?_set_ne (Ne.symm h)
 have sself:i < ρ.length->(σ.set i (some v))[i]?=some (some v):=fun h=>List.getElem?_set_self (by omega)
 refine⟨⟨by rw [List.length_set,List.length_set]; exact ll,fun j w e=>?_,fun j k x y ej ek ox oy es=>?_⟩,s.fr,fun j w a e o es=>?_,fun j hj=>?_,s.dm,s.kp⟩
 ·rcases inv j w e with ⟨rfl,rfl,hl⟩ | ⟨hj,e'⟩
  ·exact⟨v,sself hl,p⟩
  ·rw [sat j hj]
   exact s.rs.rep j w e'
 ·rcases inv j x ej with ⟨rfl,rfl,hl⟩ | ⟨hj,ej'⟩
  ·rcases inv k y ek with ⟨rfl,rfl,_⟩ | ⟨hk,ek'⟩
   ·rfl
   ·exfalso
    obtain⟨a,rfl,_,na⟩:=n ox
    rw [sself hl,sat k hk]at es
    exact na ⟨k,y,ek',oy,es.symm⟩
  ·rcases inv k y ek with ⟨rfl,rfl,hl⟩ | ⟨hk,ek'⟩
   ·exfalso
    obtain⟨a,rfl,_,na⟩:=n oy
    rw [sself hl,sat j hj]at es
    exact na ⟨j,x,ej',ox,es⟩
   ·rw [sat j hj,sat k hk]at es
    exact s.rs.apart j k x y ej' ek' ox oy es
 ·rcases inv j w e with ⟨rfl,rfl,hl⟩ | ⟨hj,e'⟩
  ·rw [sself hl]at es
   cases es
   obtain⟨b,eb,hb,_⟩:=n o
   cases eb
   exact .inr hb
  ·rw [sat j hj]at es
   exact s.ow j w a e' o es
 ·rw [sat j (fun z=>hi (z▸hj))]
  exact s.pin j hj
theorem zgN.own{a:Ar}{v:V}{u:U}(r:Rs K ρ σ H)(g:Go K ρ σ H ρ' H')(k:zgN K ρ' σ H H' v a)(e:a.get ρ'=some u)(nc:∀ j,a=.s j->u.own=false):Nw H v u/\(u.own=true->∃ b,v=.ref b/\¬Ow ρ' σ b):=by
 cases a with
 | s j=>exact⟨(fun o=>by rw [nc j rfl]at o; cases o),fun o=>by rw [nc j rfl]at o; cases o⟩
 | u x =>
  cases(show some x=some u from e)
  exact⟨k.2,k.2.out' r g⟩
def put(p:Ar×En):Option (U×En):=match p.1 with
 | .s i=>match p.2[i]? with
  | some (some (.d x))=>some (.d x,p.2)
  | _=>none
 | .u u=>some (u,p.2)
theorem zl9{a:Ar}{u:U}{ρ1 ρ2:En}(e:put (a,ρ1)=some (u,ρ2)):ρ2=ρ1/\a.get ρ1=some u/\∀ j,a=.s j->u.own=false:=by
 cases a with
 | s i =>
  unfold put at e
  dsimp only at e
  split at e
  ·rename_i x ex
   cases e
   refine⟨rfl,?_,fun _ _=>rfl⟩
   show(ρ1[i]?).join=_
   rw [ex]
   rfl
  ·cases e
 | u x =>
  cases e
  exact⟨rfl,rfl,fun j z=>by cases z⟩
def zO(i:Nat)(me:ME):MS:=fun ρ=>(me ρ).bind fun p=>(put p).bind fun q=>some (.nx (q.2.set i (some q.1)))
theorem zG{i:Nat}{te:TE}{me:ME}(hi:i∉pn)(h:VE K te me):VS K pn EX (zgK te (zel i)) (zO i me):=by
 intro σ₀ A H₀ H₁ ρ σ H f D s e k
 obtain⟨⟨a,ρ1⟩,e1,e⟩:=bind_some e
 obtain⟨⟨u,ρ2⟩,e2,e3⟩:=bind_some e
 clear e
 obtain⟨rfl,eg,nc⟩:=zl9 e2
 cases e3
 refine h ρ σ H a ρ2 _ s.rs e1 fun v H1 g1 k1=>?_
 obtain⟨n1,n2⟩:=k1.own s.rs g1 eg nc
 have s1:=s.go g1
 refine k _ _ (s1.set hi (k1.now s.rs g1 eg) fun o=>?_)
 obtain⟨b,rfl,hb⟩:=n2 o
 obtain⟨b',eb,hb'⟩:=n1 o
 cases eb
 exact⟨b,rfl,s.dm b hb',hb⟩
def zw(m1 m2:MS):MS:=fun ρ=>(m1 ρ).bind fun f=>match f with
 | .nx ρ'=>m2 ρ'
 | f=>some f
theorem zr{t1 t2:TS}{m1 m2:MS}(h1:VS K pn EX t1 m1)(h2:VS K pn EX t2 m2):VS K pn EX (zqB t1 t2) (zw m1 m2):=by
 intro σ₀ A H₀ H₁ ρ σ H f D s e k
 obtain⟨f1,e1,e⟩:=bind_some e
 refine h1 σ₀ A H₀ H₁ ρ σ H f1 _ s e1 ?_
 cases f1 with
 | nx ρ1=>exact fun σ1 H1 s1=>h2 σ₀ A H₀ H₁ ρ1 σ1 H1 f D s1 e k
 | bk ρ1=>cases e; exact k
 | ct ρ1=>cases e; exact k
 | rt u ρ1=>cases e; exact k
 | ex x ρ1=>cases e; exact k
def zU:MS:=fun ρ=>some (.nx ρ)
theorem zR:VS K pn EX zlt zU:=fun σ₀ A H₀ H₁ ρ σ H f D s e k=>by cases e; exact k σ H s
theorem zrw:VS K pn EX zlv (fun ρ=>some (.ct ρ)):=fun σ₀ A H₀ H₁ ρ σ H f D s e k=>by cases e; exact k σ H s
def zam(mt:MT)(m1 m2:MS):MS:=fun ρ=>(mt ρ).bind fun p=>if p.1=true then m1 p.2 else m2 p.2
theorem zad{tt:TT}{t1 t2:TS}{mt:MT}{m1 m2:MS}(ht:VT K tt mt)(h1:VS K pn EX t1 m1)(h2:VS K pn EX t2 m2):VS K pn EX (zqD tt t1 t2) (zam mt m1 m2):=by
 intro σ₀ A H₀ H₁ ρ σ H f D s e k
 obtain⟨⟨c,ρ1⟩,e1,e⟩:=bind_some e
 refine ht ρ σ H c ρ1 _ s.rs e1 fun H1 g1=>?_
 dsimp only at e
 split at e
 ·rename_i hc
  rw [if_pos hc]
  exact h1 σ₀ A H₀ H₁ ρ1 σ H1 f D (s.go g1) e k
 ·rename_i hc
  rw [if_neg hc]
  exact h2 σ₀ A H₀ H₁ ρ1 σ H1 f D (s.go g1) e k
theorem zhA{t:TS}{m:MS}(h:VS K pn EX t m):VS K pn EX (zlW t) m:=by
 intro σ₀ A H₀ H₁ ρ σ H f D s e k
 cases f with
 | nx ρ1=>exact⟨fun σ' H'=>Sn K pn σ₀ A H₀ H₁ ρ1 σ' H',h σ₀ A H₀ H₁ ρ σ H _ _ s e (fun σ' H' s'=>s'),fun σ' H' s'=>k σ' H' s'⟩
 | bk ρ1=>exact⟨D.nx,h σ₀ A H₀ H₁ ρ σ H _ _ s e k,fun _ _ z=>z⟩
 | ct ρ1=>exact⟨D.nx,h σ₀ A H₀ H₁ ρ σ H _ _ s e k,fun _ _ z=>z⟩
 | rt u ρ1=>exact⟨D.nx,h σ₀ A H₀ H₁ ρ σ H _ _ s e k,fun _ _ z=>z⟩
 | ex x ρ1=>exact⟨D.nx,h σ₀ A H₀ H₁ ρ σ H _ _ s e k,fun _ _ z=>z⟩
def zbt(me:ME):MS:=fun ρ=>(me ρ).bind fun p=>some (.nx p.2)
theorem zb0{te:TE}{me:ME}(h:VE K te me):VS K pn EX (zh4 te) (zbt me):=by
 intro σ₀ A H₀ H₁ ρ σ H f D s e k
 obtain⟨⟨a,ρ1⟩,e1,e⟩:=bind_some e
 cases e
 exact h ρ σ H a _ _ s.rs e1 fun v H1 g1 k1=>k σ H1 (s.go g1)
def zaf(me:ME):MS:=fun ρ=>(me ρ).bind fun p=>(put p).bind fun q=>some (.rt q.1 q.2)
theorem zP{te:TE}{me:ME}(h:VE K te me):VS K pn EX (znw te) (zaf me):=by
 intro σ₀ A H₀ H₁ ρ σ H f D s e k
 obtain⟨⟨a,ρ1⟩,e1,e⟩:=bind_some e
 obtain⟨⟨u,ρ2⟩,e2,e3⟩:=bind_some e
 clear e
 obtain⟨rfl,eg,nc⟩:=zl9 e2
 cases e3
 refine h ρ σ H a _ _ s.rs e1 fun v H1 g1 k1=>?_
 obtain⟨n1,n2⟩:=k1.own s.rs g1 eg nc
 exact k v σ H1 (s.go g1) (k1.now s.rs g1 eg) (n1.mono s.dm)
def zg7(pn:List Nat)(i:Nat):MS:=fun ρ=>if i∈pn then none else(match ρ[i]? with
 | some (some u)=>some (.rt u (ρ.set i none))
 | _=>none)
theorem zrx{i:Nat}:VS K pn EX (znw (zgJ i)) (zg7 pn i):=by
 intro σ₀ A H₀ H₁ ρ σ H f D s e k
 unfold zg7 at e
 split at e
 ·cases e
 rename_i hi
 split at e
 ·rename_i u eu
  cases e
  obtain⟨v,ev,p⟩:=s.rs.rep i u eu
  have back:∀ (j:Nat) (w:U),(ρ.set i none)[j]?=some (some w)->ρ[j]?=some (some w):=fun j w e=>by
   by_cases hj:i=j
   ·subst hj
    have hl:=(List.getElem?_eq_some_iff.mp e).1
    rw [List.length_set]at hl
    rw [List.getElem?_set_self hl]at e
    cases e
   ·rw [List.getElem?_set_ne hj]at e
    exact e
  refine⟨v,ev,k v σ H ⟨⟨by rw [List.length_set]; exact s.rs.len,fun j w e=>s.rs.rep j w (back j w e),fun a b x y ea eb=>s.rs.apart a b x y (back a x ea) (back b y eb)⟩,s.fr,fun j w a e=>s.ow j w a (back j w e),s.pin,s.dm,s.kp⟩ p fun o=>?_⟩
  obtain⟨a,rfl⟩:=p.own_ref o
  rcases s.ow i u a eu o ev with z | z
  ·exact absurd z.1 hi
  ·exact⟨a,rfl,z⟩
 ·cases e
end
section
variable {EX:EXT} {K:PySem.W.Frag} {pn:List Nat} {σ₀:St} {A:Addr->Prop} {H₀ H₁ H₂:Hp} {ρ ρ':En} {σ:St} {H H':Hp}
def zma(K:PySem.W.Frag)(J:It)(H₁:Hp)(ds:List D):Prop:=∀ H,Kp H₁ H->∀ i:Nat,(∀ d,ds[i]?=some d->J.go i H/\∀ x H',J.yld i H x H'->zbg H H'/\DF K H' x d)/\(i=ds.length->J.stop i H)
abbrev MI:=En->Option (List D×En)
def VI(K:PySem.W.Frag)(wi:TI)(mi:MI):Prop :=
 ∀ (ρ:En) (σ:St) (H:Hp) (ds:List D) (ρ':En) (R:It->Hp->Prop),Rs K ρ σ H->mi ρ=some (ds,ρ')->(∀ J H',Go K ρ σ H ρ' H'->zma K J H' ds->R J H')->wi σ H R
def ztV:U->Option (List D)
 | .d (.list xs)=>some xs
 | _=>none
def zmb:U->Option (List D)
 | .d (.tuple xs)=>some xs
 | _=>none
def mIt(f:U->Option (List D))(me:ME):MI:=fun ρ=>(me ρ).bind fun p=>(p.1.get p.2).bind fun u=>(f u).bind fun ds=>some (ds,p.2)
theorem zvs{te:TE}{me:ME}(h:VE K te me):VI K (ztv K te) (mIt ztV me):=by
 intro ρ σ H ds ρ' R r e q
 obtain⟨⟨a,ρ1⟩,e1,e⟩:=bind_some e
 obtain⟨u,eu,e⟩:=bind_some e
 obtain⟨xs,ex,e⟩:=bind_some e
 cases e
 refine h ρ σ H a _ _ r e1 fun v H1 g1 k1=>?_
 have p:=k1.now r g1 eu
 unfold ztV at ex
 split at ex
 ·cases ex
  obtain⟨b,ys,rfl,h1,h2⟩:=DF.lst_inv p
  refine⟨b,rfl,⟨ys,h1.sq⟩,q _ _ g1 fun H2 k i=>⟨fun d ed=>?_,fun ei=>?_⟩⟩
  ·obtain⟨v,ev,dv⟩:=(h2.kp k).get ed
   refine⟨⟨ys,v,(h1.kp k).sq,ev⟩,fun x H' y=>?_⟩
   obtain⟨rfl,y⟩:=y
   have:=y ys (h1.kp k).sq
   rw [ev]at this
   cases this
   exact⟨fun _ _ z=>z,dv⟩
  ·exact⟨ys,(h1.kp k).sq,by rw [h2.len]; omega⟩
 ·cases ex
theorem zmc{te:TE}{me:ME}(h:VE K te me):VI K (zqO K te) (mIt zmb me):=by
 intro ρ σ H ds ρ' R r e q
 obtain⟨⟨a,ρ1⟩,e1,e⟩:=bind_some e
 obtain⟨u,eu,e⟩:=bind_some e
 obtain⟨xs,ex,e⟩:=bind_some e
 cases e
 refine h ρ σ H a _ _ r e1 fun v H1 g1 k1=>?_
 have p:=k1.now r g1 eu
 unfold zmb at ex
 split at ex
 ·cases ex
  obtain⟨b,ys,rfl,h1,h2⟩:=DF.tup_inv p
  refine⟨b,rfl,⟨ys,SqT.of h1⟩,q _ _ g1 fun H2 k i=>⟨fun d ed=>?_,fun ei=>?_⟩⟩
  ·obtain⟨v,ev,dv⟩:=(h2.kp k).get ed
   refine⟨⟨ys,v,SqT.of (k.tup _ _ h1),ev⟩,fun x H' y=>?_⟩
   obtain⟨rfl,y⟩:=y
   have:=y ys (SqT.of (k.tup _ _ h1))
   rw [ev]at this
   cases this
   exact⟨fun _ _ z=>z,dv⟩
  ·exact⟨ys,SqT.of (k.tup _ _ h1),by rw [h2.len]; omega⟩
 ·cases ex
def zbD(lo:Int)(n:Nat):List D:=(List.range n).map fun i=>.int (lo+(i:Nat))
theorem zev(lo:Int)(n:Nat):(zbD lo n).length=n:=by simp [zbD]
theorem zfb{lo:Int}{n i:Nat}{d:D}(h:(zbD lo n)[i]?=some d):i < n/\d=.int (lo+(i:Nat)):=by
 have hl:=(List.getElem?_eq_some_iff.mp h).1
 rw [zev]at hl
 refine⟨hl,?_⟩
 unfold zbD at h
 rw [List.getElem?_map,List.getElem?_range hl]at h
 cases h
 rfl
theorem zgd{lo:Int}{n:Nat}:zma K (Itr lo n) H₁ (zbD lo n):=fun H k i=>⟨fun d ed=>by
  obtain⟨hi,rfl⟩:=zfb ed
  refine⟨hi,fun x H' y=>?_⟩
  obtain⟨rfl,rfl⟩:=y
  exact⟨fun _ _ z=>z,.int _⟩,fun ei=>by rw [zev]at ei; exact Nat.le_of_eq ei.symm⟩
def zeo(ma:MA):MI:=fun ρ=>(ma ρ).bind fun p=>(za2 p.2 p.1).bind fun us=>match us with
 | [.d (.int j)]=>if -(2^62)<=j/\j < 2^62 then some (zbD 0 j.toNat,p.2)else none
 | _=>none
def zj8(ma:MA):MI:=fun ρ=>(ma ρ).bind fun p=>(za2 p.2 p.1).bind fun us=>match us with
 | [.d (.int i),.d (.int j)]=>if -(2^62)<=i/\i < 2^62/\-(2^62)<=j/\j < 2^62 then some (zbD i (j - i).toNat,p.2)else none
 | _=>none
theorem zee{ta:TA}{ma:MA}(h:VAs K ta ma):VI K (zlA ta) (zeo ma):=by
 intro ρ σ H ds ρ' R r e q
 obtain⟨⟨as,ρ1⟩,e1,e⟩:=bind_some e
 obtain⟨us,eu,e⟩:=bind_some e
 refine h ρ σ H as ρ1 _ r e1 fun vs H1 g1 s1=>?_
 have rp:=s1.rpl r g1 eu
 dsimp only at e
 split at e
 ·split at e
  ·rename_i j hc
   cases e
   cases rp with
   | cons h1 t =>
    cases t
    cases DF.int_inv h1
    exact⟨j,rfl,hc.1,hc.2,q _ _ g1 zgd⟩
  ·cases e
 ·cases e
theorem zoi{ta:TA}{ma:MA}(h:VAs K ta ma):VI K (zlB ta) (zj8 ma):=by
 intro ρ σ H ds ρ' R r e q
 obtain⟨⟨as,ρ1⟩,e1,e⟩:=bind_some e
 obtain⟨us,eu,e⟩:=bind_some e
 refine h ρ σ H as ρ1 _ r e1 fun vs H1 g1 s1=>?_
 have rp:=s1.rpl r g1 eu
 dsimp only at e
 split at e
 ·split at e
  ·rename_i i j hc
   cases e
   cases rp with
   | cons h1 t =>
    cases t with
    | cons h2 t =>
     cases t
     cases DF.int_inv h1
     cases DF.int_inv h2
     exact⟨i,j,rfl,hc,q _ _ g1 zgd⟩
  ·cases e
 ·cases e
def zb4:Nat->List D->List D
 | _,[]=>[]
 | i,d::ds=>.tuple [.int (i:Nat),d]::zb4 (i+1) ds
theorem zcG:∀ {ds:List D} {n i:Nat} {d:D},(zb4 n ds)[i]?=some d->∃ x,ds[i]?=some x/\d=.tuple [.int ((n+i:Nat):Int),x]
 | [],n,i,d,h=>by simp [zb4]at h
 | x::ds,n,0,d,h=>by cases h; exact⟨x,rfl,rfl⟩
 | x::ds,n,i+1,d,h=>by
  obtain⟨y,ey,ed⟩:=zcG (ds:=ds) (n:=n+1) (i:=i) h
  exact⟨y,ey,by rw [ed]; congr 3; omega⟩
theorem zbK:∀ (ds:List D) (n:Nat),(zb4 n ds).length=ds.length
 | [],_=>rfl
 | _::ds,n=>congrArg (·+1) (zbK ds (n+1))
def zj9(ma:MA):MI:=fun ρ=>(ma ρ).bind fun p=>(za2 p.2 p.1).bind fun us=>match us with
 | [.d (.tuple ds)]=>some (zb4 0 ds,p.2)
 | _=>none
theorem zoj{ta:TA}{ma:MA}(h:VAs K ta ma):VI K (zpV K ta) (zj9 ma):=by
 intro ρ σ H ds ρ' R r e q
 obtain⟨⟨as,ρ1⟩,e1,e⟩:=bind_some e
 obtain⟨us,eu,e⟩:=bind_some e
 refine h ρ σ H as ρ1 _ r e1 fun vs H1 g1 s1=>?_
 have rp:=s1.rpl r g1 eu
 dsimp only at e
 split at e
 ·rename_i xs
  cases e
  cases rp with
  | cons h1 t =>
   cases t
   obtain⟨b,ys,rfl,h1,h2⟩:=DF.tup_inv h1
   refine⟨b,rfl,⟨ys,SqT.of h1⟩,q _ _ g1 fun H2 k i=>⟨fun d ed=>?_,fun ei=>?_⟩⟩
   ·obtain⟨x,ex,rfl⟩:=zcG ed
    obtain⟨v,ev,dv⟩:=(h2.kp k).get ex
    refine⟨⟨ys,v,SqT.of (k.tup _ _ h1),ev⟩,fun x H' y=>?_⟩
    obtain⟨T,nT,rfl,y⟩:=y
    cases y ys v (SqT.of (k.tup _ _ h1)) ev
    have sm:=zaT nT (.tup [.int i,v])
    refine⟨sm,.tup zA (.cons ?_ (.cons (dv.kp sm.kp) .nil))⟩
    rw [Nat.zero_add]
    exact .int _
   ·exact⟨ys,SqT.of (k.tup _ _ h1),by rw [zbK]at ei; rw [h2.len]; exact ei.symm⟩
 ·cases e
abbrev MG:=D->En->Option En
def zvE(pn:List Nat)(mg:MG):Prop:=∀ d ρ ρ',mg d ρ=some ρ'->ρ'.length=ρ.length/\∀ i∈pn,ρ'[i]?=ρ[i]?
def ztW(pn:List Nat)(mg:List D->En->Option En):Prop:=∀ ds ρ ρ',mg ds ρ=some ρ'->ρ'.length=ρ.length/\∀ i∈pn,ρ'[i]?=ρ[i]?
structure VGt (K:PySem.W.Frag) (pn:List Nat) (g:TG) (mg:MG):Prop where
 run:∀ (σ₀:St) (A:Addr->Prop) (H₀ H₁:Hp) (ρ:En) (σ:St) (H:Hp) (v:V) (d:D) (ρ':En) (Q:St->Hp->Prop),Sn K pn σ₀ A H₀ H₁ ρ σ H->DF K H v d->mg d ρ=some ρ'->(∀ σ',Sn K pn σ₀ A H₀ H₁ ρ' σ' H->Q σ' H)->g v σ H Q
 ok:zvE pn mg
structure VGs (K:PySem.W.Frag) (pn:List Nat) (g:TGs) (mg:List D->En->Option En):Prop where
 run:∀ (σ₀:St) (A:Addr->Prop) (H₀ H₁:Hp) (ρ:En) (σ:St) (H:Hp) (vs:List V) (ds:List D) (ρ':En) (Q:St->Hp->Prop),Sn K pn σ₀ A H₀ H₁ ρ σ H->DFs K H vs ds->mg ds ρ=some ρ'->(∀ σ',Sn K pn σ₀ A H₀ H₁ ρ' σ' H->Q σ' H)->g vs σ H Q
 ok:ztW pn mg
def zaz(i:Nat):MG:=fun d ρ=>some (ρ.set i (some (.d d)))
theorem zar{i:Nat}(hi:i∉pn):VGt K pn (zel i) (zaz i) where
 run:=by
  intro σ₀ A H₀ H₁ ρ σ H v d ρ' Q s h e q
  cases e
  exact q _ (s.set hi (u:=.d d) h fun o=>by cases o)
 ok:=fun d ρ ρ' e=>by
  cases e
  exact⟨List.length_set,fun j hj=>List.getElem?_set_ne (by rintro rfl; exact hi hj)⟩
def zeM:List D->En->Option En:=fun ds ρ=>match ds with | []=>some ρ | _=>none
def zb1(g:MG)(gs:List D->En->Option En):List D->En->Option En:=fun ds ρ=>match ds with
 | d::ds=>(g d ρ).bind fun ρ1=>gs ds ρ1
 | []=>none
theorem zfc:VGs K pn zqF zeM where
 run:=by
  intro σ₀ A H₀ H₁ ρ σ H vs ds ρ' Q s h e q
  cases h with
  | nil=>cases e; exact⟨rfl,q σ s⟩
  | cons=>cases e
 ok:=fun ds ρ ρ' e=>by
  cases ds with
  | nil=>cases e; exact⟨rfl,fun _ _=>rfl⟩
  | cons=>cases e
theorem zbL{g:TG}{gs:TGs}{mg:MG}{mgs:List D->En->Option En}(h1:VGt K pn g mg)(h2:VGs K pn gs mgs):VGs K pn (zlw g gs) (zb1 mg mgs) where
 run:=by
  intro σ₀ A H₀ H₁ ρ σ H vs ds ρ' Q s h e q
  cases h with
  | nil=>cases e
  | @cons v d vs ds hv t =>
   obtain⟨ρ1,e1,e⟩:=bind_some (show(mg d ρ).bind (fun ρ1=>mgs ds ρ1)=some ρ' from e)
   exact⟨v,vs,rfl,h1.run σ₀ A H₀ H₁ ρ σ H v d ρ1 _ s hv e1 fun σ1 s1=>h2.run σ₀ A H₀ H₁ ρ1 σ1 H vs ds ρ' Q s1 t e q⟩
 ok:=fun ds ρ ρ' e=>by
  cases ds with
  | nil=>cases e
  | cons d ds =>
   obtain⟨ρ1,e1,e⟩:=bind_some (show(mg d ρ).bind (fun ρ1=>mgs ds ρ1)=some ρ' from e)
   obtain⟨a1,a2⟩:=h1.ok d ρ ρ1 e1
   obtain⟨b1,b2⟩:=h2.ok ds ρ1 ρ' e
   exact⟨b1.trans a1,fun i hi=>(b2 i hi).trans (a2 i hi)⟩
def zd0(n:Nat)(gs:List D->En->Option En):MG:=fun d ρ=>match d with
 | .tuple ds=>if ds.length=n then gs ds ρ else none
 | _=>none
theorem zfd{n:Nat}{gs:TGs}{mgs:List D->En->Option En}(h:VGs K pn gs mgs):VGt K pn (zqG K n gs) (zd0 n mgs) where
 run:=by
  intro σ₀ A H₀ H₁ ρ σ H v d ρ' Q s hd e q
  unfold zd0 at e
  split at e
  ·split at e
   ·rename_i ds hl
    obtain⟨a,xs,rfl,h1,h2⟩:=DF.tup_inv hd
    exact⟨a,xs,rfl,SqT.of h1,by rw [h2.len]; exact hl,h.run σ₀ A H₀ H₁ ρ σ H xs ds ρ' Q s h2 e q⟩
   ·cases e
  ·cases e
 ok:=fun d ρ ρ' e=>by
  unfold zd0 at e
  split at e
  ·split at e
   ·exact h.ok _ _ _ e
   ·cases e
  ·cases e
def zim(me:ME)(mg:MG):MS:=fun ρ=>(me ρ).bind fun p=>(p.1.get p.2).bind fun u=>match u with
 | .d d=>(mg d p.2).bind fun ρ'=>some (.nx ρ')
 | _=>none
theorem zka{te:TE}{g:TG}{me:ME}{mg:MG}(h:VE K te me)(hg:VGt K pn g mg):VS K pn EX (zgK te g) (zim me mg):=by
 intro σ₀ A H₀ H₁ ρ σ H f D s e k
 obtain⟨⟨a,ρ1⟩,e1,e⟩:=bind_some e
 obtain⟨u,eu,e⟩:=bind_some e
 refine h ρ σ H a ρ1 _ s.rs e1 fun v H1 g1 k1=>?_
 have p:=k1.now s.rs g1 eu
 dsimp only at e
 split at e
 ·obtain⟨ρ2,e2,e3⟩:=bind_some e
  cases e3
  exact hg.run σ₀ A H₀ H₁ ρ1 σ H1 v _ ρ2 _ (s.go g1) p e2 fun σ' s'=>k σ' H1 s'
 ·cases e
def zmd(i j:Nat)(ma:MA):MS:=fun ρ=>(ma ρ).bind fun p=>(za2 p.2 p.1).bind fun us=>match us with
 | [.d x,.d y]=>some (.nx ((p.2.set i (some (.d x))).set j (some (.d y))))
 | _=>none
theorem zp0{i j:Nat}{ta:TA}{ma:MA}(hi:i∉pn)(hj:j∉pn)(h:VAs K ta ma):VS K pn EX (zqM i j ta) (zmd i j ma):=by
 intro σ₀ A H₀ H₁ ρ σ H f D s e k
 obtain⟨⟨as,ρ1⟩,e1,e⟩:=bind_some e
 obtain⟨us,eu,e⟩:=bind_some e
 refine h ρ σ H as ρ1 _ s.rs e1 fun vs H1 g1 s1=>?_
 have rp:=s1.rpl s.rs g1 eu
 dsimp only at e
 split at e
 ·rename_i x y
  cases e
  cases rp with
  | @cons v _ vs _ h1 t =>
   cases t with
   | @cons w _ _ _ h2 t =>
    cases t
    have sn:=(s.go g1).set hi (u:=.d x) h1 fun o=>by cases o
    exact⟨v,w,rfl,k _ _ (sn.set hj (u:=.d y) h2 fun o=>by cases o)⟩
 ·cases e
def zdf(mg:MG)(mb:MS):List D->En->Option Fl
 | [],ρ=>some (.nx ρ)
 | d::ds,ρ=>(mg d ρ).bind fun ρ1=>(mb ρ1).bind fun f=>match f with
  | .nx ρ2=>zdf mg mb ds ρ2
  | .ct ρ2=>zdf mg mb ds ρ2
  | .bk ρ2=>some (.nx ρ2)
  | .rt u ρ2=>some (.rt u ρ2)
  | .ex x ρ2=>some (.ex x ρ2)
def zeN(mi:MI)(mg:MG)(mb:MS):MS:=fun ρ=>(mi ρ).bind fun p=>zdf mg mb p.1 p.2
theorem zeO{wi:TI}{g:TG}{tb:TS}{mi:MI}{mg:MG}{mb:MS}(hi:VI K wi mi)(hg:VGt K pn g mg)(hb:VS K pn EX tb mb):VS K pn EX (znA wi g tb) (zeN mi mg mb):=by
 intro σ₀ A H₀ H₁ ρ σ H f D s e k
 obtain⟨⟨ds,ρ1⟩,e1,e⟩:=bind_some e
 refine hi ρ σ H ds ρ1 _ s.rs e1 fun J H1 g1 run=>?_
 have s1:=(s.go g1).at
 have kp01:Kp H₁ H1:=(s.go g1).kp
 refine⟨fun i m σ' H'=>m=ds.length - i/\i<=ds.length/\∃ ρ',Sn K pn σ₀ A H₀ H1 ρ' σ' H'/\zdf mg mb (ds.drop i) ρ'=some f,⟨ds.length,by simp,Nat.zero_le _,ρ1,s1,e⟩,?_⟩
 rintro i m σ' H' ⟨rfl,hi',ρ',s',el⟩
 by_cases hlt:i < ds.length
 ·rw [List.drop_eq_getElem_cons hlt]at el
  obtain⟨ρ2,e2,el⟩:=bind_some (show(mg ds[i] ρ').bind _=some f from el)
  obtain⟨fb,eb,el⟩:=bind_some el
  obtain⟨go,yl⟩:=(run H' s'.kp i).1 ds[i] (List.getElem?_eq_getElem hlt)
  refine .inr ⟨go,fun σ3 H3=>∃ ρ3,Sn K pn σ₀ A H₀ H1 ρ3 σ3 H3/\zdf mg mb (ds.drop (i+1)) ρ3=some f,fun σ3 H3 ⟨ρ3,s3,e3⟩=>⟨ds.length - (i+1),by omega,rfl,hlt,ρ3,s3,e3⟩,fun x H2 y=>?_⟩
  obtain⟨sm,dx⟩:=yl x H2 y
  have s2:=s'.go (Go.grow s'.rs sm)
  refine hg.run σ₀ A H₀ H1 ρ' σ' H2 x ds[i] ρ2 _ s2 dx e2 fun σ3 s3=>?_
  refine hb σ₀ A H₀ H1 ρ2 σ3 H2 fb _ s3 eb ?_
  cases fb with
  | nx ρ4=>exact fun σ4 H4 s4=>⟨ρ4,s4,el⟩
  | ct ρ4=>exact fun σ4 H4 s4=>⟨ρ4,s4,el⟩
  | bk ρ4=>cases el; exact fun σ4 H4 s4=>k σ4 H4 (s4.re kp01)
  | rt u ρ4=>cases el; exact fun v σ4 H4 s4 p n=>k v σ4 H4 (s4.re kp01) p n
  | ex x ρ4=>cases el; exact fun a σ4 H4 s4 p n=>k a σ4 H4 (s4.re kp01) p n
 ·have ei:i=ds.length:=by omega
  subst ei
  rw [List.drop_length]at el
  cases el
  exact .inl ⟨(run H' s'.kp _).2 rfl,k σ' H' (s'.re kp01)⟩
def zbG(mt:MT)(mb:MS):Nat->En->Option Fl
 | 0,_=>none
 | n+1,ρ=>(mt ρ).bind fun p=>if p.1=true then(mb p.2).bind fun f=>match f with
  | .nx ρ2=>zbG mt mb n ρ2
  | .ct ρ2=>zbG mt mb n ρ2
  | .bk ρ2=>some (.nx ρ2)
  | .rt u ρ2=>some (.rt u ρ2)
  | .ex x ρ2=>some (.ex x ρ2)else some (.nx p.2)
open Classical in
noncomputable def zew(mt:MT)(mb:MS):MS:=fun ρ=>if h:∃ n,(zbG mt mb n ρ).isSome=true then zbG mt mb h.choose ρ else none
theorem zkb{tt:TT}{tb:TS}{mt:MT}{mb:MS}(ht:VT K tt mt)(hb:VS K pn EX tb mb):VS K pn EX (ziW tt tb) (zew mt mb):=by
 intro σ₀ A H₀ H₁ ρ σ H f D s e k
 unfold zew at e
 split at e
 ·rename_i hn
  generalize hn.choose=n at e
  refine⟨fun m σ' H'=>∃ ρ',Sn K pn σ₀ A H₀ H₁ ρ' σ' H'/\zbG mt mb m ρ'=some f,⟨n,ρ,s,e⟩,?_⟩
  rintro m σ' H' ⟨ρ',s',el⟩
  cases m with
  | zero=>cases el
  | succ m =>
   obtain⟨⟨b,ρ1⟩,e1,el⟩:=bind_some (show(mt ρ').bind _=some f from el)
   refine ht ρ' σ' H' b ρ1 _ s'.rs e1 fun H1 g1=>?_
   dsimp only at el
   split at el
   ·rename_i hc
    rw [if_pos hc]
    obtain⟨fb,eb,el⟩:=bind_some el
    refine⟨fun σ2 H2=>∃ ρ2,Sn K pn σ₀ A H₀ H₁ ρ2 σ2 H2/\zbG mt mb m ρ2=some f,fun σ2 H2 ⟨ρ2,s2,e2⟩=>⟨m,Nat.lt_succ_self m,ρ2,s2,e2⟩,?_⟩
    refine hb σ₀ A H₀ H₁ ρ1 σ' H1 fb _ (s'.go g1) eb ?_
    cases fb with
    | nx ρ4=>exact fun σ4 H4 s4=>⟨ρ4,s4,el⟩
    | ct ρ4=>exact fun σ4 H4 s4=>⟨ρ4,s4,el⟩
    | bk ρ4=>cases el; exact fun σ4 H4 s4=>k σ4 H4 s4
    | rt u ρ4=>cases el; exact fun v σ4 H4 s4 p n=>k v σ4 H4 s4 p n
    | ex x ρ4=>cases el; exact fun a σ4 H4 s4 p n=>k a σ4 H4 s4 p n
   ·rename_i hc
    rw [if_neg hc]
    cases el
    exact k σ' H1 (s'.go g1)
 ·cases e
theorem zdg{mt:MT}{mb:MS}:∀ {n:Nat} {ρ:En} {f:Fl},zbG mt mb n ρ=some f->∀ k,zbG mt mb (n+k) ρ=some f
 | 0,_,_,e,_=>by cases e
 | n+1,ρ,f,e,k=>by
  rw [show n+1+k=(n+k)+1 by omega]
  obtain⟨⟨b,ρ1⟩,e1,e⟩:=bind_some (show(mt ρ).bind _=some f from e)
  show(mt ρ).bind _=some f
  rw [e1]
  show(if b=true then _ else _)=_
  dsimp only at e
  split at e
  ·rename_i hc
   rw [if_pos hc]
   obtain⟨fb,eb,e⟩:=bind_some e
   rw [eb]
   cases fb with
   | nx ρ2=>exact zdg (n:=n) e k
   | ct ρ2=>exact zdg (n:=n) e k
   | bk ρ2=>exact e
   | rt u ρ2=>exact e
   | ex x ρ2=>exact e
  ·rename_i hc
   rw [if_neg hc]
   exact e
theorem zme{mt:MT}{mb:MS}{n:Nat}{ρ:En}{f:Fl}(e:zbG mt mb n ρ=some f):zew mt mb ρ=some f:=by
 have h:∃ n,(zbG mt mb n ρ).isSome=true:=⟨n,by rw [e]; rfl⟩
 unfold zew
 rw [dif_pos h]
 obtain⟨f',ef'⟩:=Option.isSome_iff_exists.mp h.choose_spec
 rw [ef']
 have a:=zdg e h.choose
 have b:=zdg ef' n
 rw [Nat.add_comm,b]at a
 exact a
end
section
variable {K:PySem.W.Frag} {pn:List Nat} {σ₀:St} {A:Addr->Prop} {H₀ H₁ H₂:Hp} {ρ ρ':En} {σ:St} {H H':Hp}
def cEn(nt:Nat)(js:List Nat)(ρ:En):En:=List.replicate nt none++js.map fun j=>ρ.getD j none
def reset(nt:Nat)(ρ:En):En:=List.replicate nt none++ρ.drop nt
def back:List Nat->List (Option U)->En->En
 | j::js,some u::us,ρ=>back js us (ρ.set j (some u))
 | _::js,none::us,ρ=>back js us ρ
 | _,_,ρ=>ρ
def lcM(nt:Nat)(mg:MG)(mt:MT)(me:ME):List D->En->List D->Option (List D×En)
 | [],ρ,ys=>some (ys,ρ)
 | d::ds,ρ,ys=>if ys.length < sizeLine then(mg d ρ).bind fun ρ1=>(mt ρ1).bind fun b=>if b.1=true then(me b.2).bind fun p=>(p.1.get p.2).bind fun u=>(match u with
   | .d y=>lcM nt mg mt me ds (reset nt p.2) (ys++[y])
   | _=>none)else lcM nt mg mt me ds (reset nt b.2) ys else none
def mLC(mi:MI)(nt:Nat)(js:List Nat)(mg:MG)(mt:MT)(me:ME):ME:=fun ρ=>(mi ρ).bind fun p=>(lcM nt mg mt me p.1 (cEn nt js p.2) []).bind fun q=>some (.u (.l q.1),back js (q.2.drop nt) p.2)
def zgO(nt n:Nat):List Nat:=(List.range n).map (nt+·)
theorem zfN{nt n i:Nat}:i∈zgO nt n↔nt<=i/\i < nt+n:=by
 unfold zgO
 rw [List.mem_map]
 constructor
 ·rintro⟨a,ha,rfl⟩
  have:=List.mem_range.mp ha
  omega
 ·intro h
  exact⟨i - nt,List.mem_range.mpr (by omega),by omega⟩
theorem zge{nt:Nat}{js:List Nat}{i:Nat}{u:U}(h:(cEn nt js ρ)[i]?=some (some u)):∃ p j,i=nt+p/\js[p]?=some j/\ρ[j]?=some (some u):=by
 unfold cEn at h
 by_cases hi:i < nt
 ·rw [List.getElem?_append_left (by simpa using hi),List.getElem?_replicate,if_pos hi]at h
  cases h
 ·rw [List.getElem?_append_right (by simp; omega),List.length_replicate,List.getElem?_map]at h
  obtain⟨j,ej,e⟩:=Option.map_eq_some_iff.mp h
  refine⟨i - nt,j,by omega,ej,?_⟩
  rw [List.getD_eq_getElem?_getD]at e
  cases q:ρ[j]? with
  | none=>rw [q]at e; cases e
  | some o=>rw [q]at e; exact congrArg some e
theorem zp1{nt:Nat}{js:List Nat}{p j:Nat}(h:js[p]?=some j):(c0 nt js σ)[nt+p]?=some (σ.getD j none):=by
 unfold c0
 rw [List.getElem?_append_right (by simp),List.length_replicate,Nat.add_sub_cancel_left,List.getElem?_map,h]
 rfl
theorem zmf{nt:Nat}{js:List Nat}:(c0 nt js σ).length=nt+js.length:=by unfold c0; simp
theorem zkc{nt:Nat}{js:List Nat}:(cEn nt js ρ).length=nt+js.length:=by unfold cEn; simp
def zmg(ρ:En)(σ:St)(js:List Nat)(a:Addr):Prop:=∃ (p j:Nat) (u:U),js[p]?=some j/\ρ[j]?=some (some u)/\u.own=true/\σ[j]?=some (some (.ref a))
theorem zok{nt:Nat}{js:List Nat}(r:Rs K ρ σ H)(nd:js.Nodup):Sn K (zgO nt js.length) (c0 nt js σ) (zmg ρ σ js) H H (cEn nt js ρ) (c0 nt js σ) H:=by
 have sat:∀ {p j:Nat} {v:V},js[p]?=some j->σ[j]?=some (some v)->(c0 nt js σ)[nt+p]?=some (some v):=fun{p j v} hp hv=>by
  rw [zp1 hp,List.getD_eq_getElem?_getD,hv]
  rfl
 refine⟨⟨by rw [zkc,zmf],fun i u e=>?_,fun i k u w ei ek ou ow es=>?_⟩,fun _ _ h _=>h,fun i u a e o es=>?_,fun _ _=>rfl,fun _ h=>h,Kp.refl H⟩
 ·obtain⟨p,j,rfl,hj,hr⟩:=zge e
  obtain⟨v,ev,q⟩:=r.rep j u hr
  exact⟨v,sat hj ev,q⟩
 ·obtain⟨p,j,rfl,hj,hr⟩:=zge ei
  obtain⟨p',j',rfl,hj',hr'⟩:=zge ek
  obtain⟨v,ev,_⟩:=r.rep j u hr
  obtain⟨v',ev',_⟩:=r.rep j' w hr'
  rw [sat hj ev,sat hj' ev']at es
  have:j=j':=r.apart j j' u w hr hr' ou ow (by rw [ev,ev']; exact es)
  subst this
  have l1:=(List.getElem?_eq_some_iff.mp hj)
  have l2:=(List.getElem?_eq_some_iff.mp hj')
  obtain⟨h1,e1⟩:=l1
  obtain⟨h2,e2⟩:=l2
  have:=(List.getElem_inj nd).mp (e1.trans e2.symm)
  omega
 ·obtain⟨p,j,rfl,hj,hr⟩:=zge e
  obtain⟨v,ev,_⟩:=r.rep j u hr
  rw [sat hj ev]at es
  cases es
  exact .inl ⟨zfN.mpr ⟨by omega,by have:=(List.getElem?_eq_some_iff.mp hj).1; omega⟩,p,j,u,hj,hr,o,ev⟩
theorem Sn.reset{nt n:Nat}{σc:St}{ρ2:En}{σ2:St}(s:Sn K (zgO nt n) σc A H₀ H₁ ρ2 σ2 H)(l1:ρ2.length=nt+n)(l2:σc.length=nt+n):Sn K (zgO nt n) σc A H₀ H₁ (L2.reset nt ρ2) σc H:=by
 have bk:∀ (i:Nat) (u:U),(L2.reset nt ρ2)[i]?=some (some u)->nt<=i/\i < nt+n/\ρ2[i]?=some (some u):=fun i u e=>by
  unfold L2.reset at e
  by_cases hi:i < nt
  ·rw [List.getElem?_append_left (by simpa using hi),List.getElem?_replicate,if_pos hi]at e
   cases e
  ·rw [List.getElem?_append_right (by simp; omega),List.length_replicate,List.getElem?_drop,show nt+(i - nt)=i by omega]at e
   have:=(List.getElem?_eq_some_iff.mp e).1
   exact⟨by omega,by omega,e⟩
 have pin:∀ i,nt<=i->i < nt+n->σc[i]?=σ2[i]?:=fun i h1 h2=>(s.pin i (zfN.mpr ⟨h1,h2⟩)).symm
 have ll:(L2.reset nt ρ2).length=nt+n:=by unfold L2.reset; simp; omega
 refine⟨⟨by omega,fun i u e=>?_,fun i j u w ei ej ou ow es=>?_⟩,s.fr,fun i u a e o es=>?_,fun _ _=>rfl,s.dm,s.kp⟩
 ·obtain⟨h1,h2,e'⟩:=bk i u e
  rw [pin i h1 h2]
  exact s.rs.rep i u e'
 ·obtain⟨h1,h2,ei'⟩:=bk i u ei
  obtain⟨h3,h4,ej'⟩:=bk j w ej
  rw [pin i h1 h2,pin j h3 h4]at es
  exact s.rs.apart i j u w ei' ej' ou ow es
 ·obtain⟨h1,h2,e'⟩:=bk i u e
  rw [pin i h1 h2]at es
  exact s.ow i u a e' o es
theorem zfO:∀ {js:List Nat} {us:List (Option U)} {ρ:En} {j:Nat} {w:U},(back js us ρ)[j]?=some (some w)->(∃ p:Nat,js[p]?=some j/\us[p]?=some (some w))\/(ρ[j]?=some (some w)/\∀ p:Nat,js[p]?=some j->∀ x,us[p]?≠some (some x))
 | [],us,ρ,j,w,e=>.inr ⟨by cases us<;>exact e,fun p z=>by simp at z⟩
 | k::js,[],ρ,j,w,e=>.inr ⟨e,fun p z x=>by simp⟩
 | k::js,none::us,ρ,j,w,e=>by
  rcases zfO (js:=js) (us:=us) (ρ:=ρ) (show(back js us ρ)[j]?=some (some w) from e)with ⟨p,h1,h2⟩ | ⟨h1,h2⟩
  ·exact .inl ⟨p+1,h1,h2⟩
  ·refine .inr ⟨h1,fun p z x=>?_⟩
   cases p with
   | zero=>intro q; cases q
   | succ p=>exact h2 p z x
 | k::js,some u::us,ρ,j,w,e=>by
  rcases zfO (js:=js) (us:=us) (ρ:=ρ.set k (some u)) (show(back js us (ρ.set k (some u)))[j]?=some (some w) from e)with ⟨p,h1,h2⟩ | ⟨h1,h2⟩
  ·exact .inl ⟨p+1,h1,h2⟩
  ·by_cases hk:k=j
   ·subst hk
    have hl:k < (ρ.set k (some u)).length:=(List.getElem?_eq_some_iff.mp h1).1
    rw [List.length_set]at hl
    rw [List.getElem?_set_self hl]at h1
    exact .inl ⟨0,rfl,by cases h1; rfl⟩
   ·rw [List.getElem?_set_ne hk]at h1
    refine .inr ⟨h1,fun p z x=>?_⟩
    cases p with
    | zero=>cases(show some k=some j from z); exact absurd rfl hk
    | succ p=>exact h2 p z x
theorem zeP:∀ (js:List Nat) (us:List (Option U)) (ρ:En),(back js us ρ).length=ρ.length
 | [],us,ρ=>by cases us<;>rfl
 | _::js,[],ρ=>rfl
 | _::js,none::us,ρ=>zeP js us ρ
 | j::js,some u::us,ρ=>by show(back js us (ρ.set j (some u))).length=_; rw [zeP]; exact List.length_set
theorem zef:∀ {js:List Nat} {us:List (Option U)} {ρ:En} {j:Nat} {w:U},ρ[j]?=some (some w)->∃ w',(back js us ρ)[j]?=some (some w')
 | [],us,ρ,j,w,e=>⟨w,by cases us<;>exact e⟩
 | _::js,[],ρ,j,w,e=>⟨w,e⟩
 | _::js,none::us,ρ,j,w,e=>zef (js:=js) (us:=us) e
 | k::js,some u::us,ρ,j,w,e=>by
  by_cases hk:k=j
  ·subst hk
   exact zef (js:=js) (us:=us) (w:=u) (List.getElem?_set_self (List.getElem?_eq_some_iff.mp e).1)
  ·exact zef (js:=js) (us:=us) (w:=w) (by rw [List.getElem?_set_ne hk]; exact e)
theorem Sn.comp_back{nt:Nat}{js:List Nat}{ρ2:En}(r:Rs K ρ σ H)(s:Sn K (zgO nt js.length) (c0 nt js σ) (zmg ρ σ js) H H₁ ρ2 (c0 nt js σ) H')(l:ρ2.length=nt+js.length)(sh:Shr (cEn nt js ρ) ρ2) :
  Go K ρ σ H (back js (ρ2.drop nt) ρ) H':=by
 have usAt:∀ (p:Nat) (w:U),(ρ2.drop nt)[p]?=some (some w)->ρ2[nt+p]?=some (some w):=fun p w e=>by rw [List.getElem?_drop]at e; exact e
 have kp:Kp H H':=by
  refine⟨fun b xs h=>s.fr b _ h fun⟨p,j,u,hj,hr,ou,es⟩=>?_,fun b ob u h=>s.fr b _ h fun⟨p,j,u,hj,hr,ou,es⟩=>?_⟩
  ·obtain⟨c,q,m⟩:=r.ow ⟨j,u,hr,ou,es⟩
   rw [h]at q; cases q; exact m
  ·obtain⟨c,q,m⟩:=r.ow ⟨j,u,hr,ou,es⟩
   rw [h]at q; cases q; exact m
 have orig:∀ (p j:Nat) (w:U),js[p]?=some j->(ρ2.drop nt)[p]?=some (some w)->w.own=true->∃ x,ρ[j]?=some (some x)/\x.own=true:=fun p j w hj e o=>by
  obtain⟨x,ex,ox⟩:=sh.own (nt+p) w (usAt p w e) o
  obtain⟨p',j',ep,hj',hr⟩:=zge ex
  have:p'=p:=by omega
  subst this
  rw [hj]at hj'
  cases hj'
  exact⟨x,hr,ox⟩
 have own:∀ (j:Nat) (w:U),(back js (ρ2.drop nt) ρ)[j]?=some (some w)->w.own=true->∃ x,ρ[j]?=some (some x)/\x.own=true:=fun j w e o=>by
  rcases zfO e with ⟨p,hj,hu⟩ | ⟨h1,_⟩
  ·exact orig p j w hj hu o
  ·exact⟨w,h1,o⟩
 refine⟨⟨by rw [zeP]; exact r.len,fun j w e=>?_,fun i j u w ei ej ou ow es=>?_⟩,fun a o h n=>s.fr a o h fun⟨p,j,u,hj,hr,ou,es⟩=>n ⟨j,u,hr,ou,es⟩,⟨zeP _ _ _,own,fun j w e=>zef e⟩,s.dm⟩
 ·rcases zfO e with ⟨p,hj,hu⟩ | ⟨h1,h2⟩
  ·obtain⟨v,ev,q⟩:=s.rs.rep (nt+p) w (usAt p w hu)
   rw [zp1 hj]at ev
   refine⟨v,?_,q⟩
   rw [List.getD_eq_getElem?_getD]at ev
   cases z:σ[j]? with
   | none=>rw [z]at ev; cases ev
   | some o=>rw [z]at ev; exact congrArg some (Option.some.inj ev)
  ·obtain⟨v,ev,q⟩:=r.rep j w h1
   refine⟨v,ev,q.kp kp fun ow a c ea hc=>s.fr a c hc fun⟨p,j',u,hj,hr,ou,es⟩=>?_⟩
   subst ea
   have:j'=j:=r.apart j' j u w hr h1 ou ow (by rw [es,ev])
   subst this
   have e1:(cEn nt js ρ)[nt+p]?=some (some u):=by
    unfold cEn
    rw [List.getElem?_append_right (by simp),List.length_replicate,Nat.add_sub_cancel_left,List.getElem?_map,hj]
    show some (ρ.getD j' none)=_
    rw [List.getD_eq_getElem?_getD,hr]
    rfl
   obtain⟨w',ew'⟩:=sh.live _ _ e1
   exact h2 p hj w' (by rw [List.getElem?_drop]; exact ew')
 ·obtain⟨x,ex,ox⟩:=own i u ei ou
  obtain⟨y,ey,oy⟩:=own j w ej ow
  exact r.apart i j x y ex ey ox oy es
theorem Shr.reset'{nt n:Nat}{ρc ρ1:En}(l:ρc.length=nt+n)(h0:∀ i,i < nt->ρc[i]?=some none)(l1:ρ1.length=nt+n)(own:∀ (i:Nat) (u:U),nt<=i->ρ1[i]?=some (some u)->u.own=true->∃ w,ρc[i]?=some (some w)/\w.own=true)(live:∀ (i:Nat) (u:U),nt<=i->ρc[i]?=some (some u)->∃ w,ρ1[i]?=some (some w)):Shr ρc (L2.reset nt ρ1):=by
 have at':∀ i,nt<=i->(L2.reset nt ρ1)[i]?=ρ1[i]?:=fun i hi=>by
  unfold L2.reset
  rw [List.getElem?_append_right (by simp; omega),List.length_replicate,List.getElem?_drop,show nt+(i - nt)=i by omega]
 have lo:∀ i,i < nt->(L2.reset nt ρ1)[i]?=some none:=fun i hi=>by
  unfold L2.reset
  rw [List.getElem?_append_left (by simpa using hi),List.getElem?_replicate,if_pos hi]
 refine⟨by unfold L2.reset; simp; omega,fun i u e o=>?_,fun i u e=>?_⟩
 ·by_cases hi:i < nt
  ·rw [lo i hi]at e; cases e
  ·rw [at' i (by omega)]at e
   exact own i u (by omega) e o
 ·by_cases hi:i < nt
  ·rw [h0 i hi]at e; cases e
  ·rw [at' i (by omega)]
   exact live i u (by omega) e
theorem zin{nt:Nat}{ρ1:En}{i:Nat}(h:i < nt):(L2.reset nt ρ1)[i]?=some none:=by
 unfold L2.reset
 rw [List.getElem?_append_left (by simpa using h),List.getElem?_replicate,if_pos h]
theorem zry{nt:Nat}{js:List Nat}{i:Nat}(h:i < nt):(cEn nt js ρ)[i]?=some none:=by
 unfold cEn
 rw [List.getElem?_append_left (by simpa using h),List.getElem?_replicate,if_pos h]
theorem zrz{wi:TI}{nt:Nat}{js:List Nat}{g:TG}{tt:TT}{te:TE}{mi:MI}{mg:MG}{mt:MT}{me:ME}(nd:js.Nodup)(hi:VI K wi mi)(hg:VGt K (zgO nt js.length) g mg)(ht:VT K tt mt)(he:VE K te me) :
  VE K (tLC wi nt js g tt te) (mLC mi nt js mg mt me):=by
 intro ρ σ H a ρ' Q r e q
 obtain⟨⟨ds,ρ1⟩,e1,e⟩:=bind_some e
 obtain⟨⟨zs,ρz⟩,e2,e⟩:=bind_some e
 cases e
 refine hi ρ σ H ds ρ1 _ r e1 fun J H1 g1 run=>?_
 have s1:=zok (nt:=nt) (js:=js) g1.rs nd
 refine⟨fun i m ys H'=>m=ds.length - i/\i<=ds.length/\∃ ρc yd,Sn K (zgO nt js.length) (c0 nt js σ) (zmg ρ1 σ js) H1 H1 ρc (c0 nt js σ) H'/\Shr (cEn nt js ρ1) ρc/\(∀ k,k < nt->ρc[k]?=some none)/\DFs K H' ys yd/\lcM nt mg mt me (ds.drop i) ρc yd=some (zs,ρz),
  ⟨ds.length,by simp,Nat.zero_le _,_,[],s1,Shr.refl _,fun k hk=>zry hk,.nil,e2⟩,?_⟩
 rintro i m ys H' ⟨rfl,hi',ρc,yd,s',sh,lo,dy,el⟩
 have lc:ρc.length=nt+js.length:=by rw [sh.len,zkc]
 by_cases hlt:i < ds.length
 ·rw [List.drop_eq_getElem_cons hlt]at el
  unfold lcM at el
  split at el
  ·rename_i hz
   obtain⟨ρ2,e3,el⟩:=bind_some el
   obtain⟨⟨b,ρ3⟩,e4,el⟩:=bind_some el
   obtain⟨l2,p2⟩:=hg.ok _ _ _ e3
   obtain⟨go,yl⟩:=(run H' s'.kp i).1 ds[i] (List.getElem?_eq_getElem hlt)
   refine .inr ⟨go,by rw [dy.len]; exact hz,fun ys' H2=>∃ ρc' yd',Sn K (zgO nt js.length) (c0 nt js σ) (zmg ρ1 σ js) H1 H1 ρc' (c0 nt js σ) H2/\Shr (cEn nt js ρ1) ρc'/\(∀ k,k < nt->ρc'[k]?=some none)/\DFs K H2 ys' yd'/\lcM nt mg mt me (ds.drop (i+1)) ρc' yd'=some (zs,ρz),
    fun ys' H2 ⟨ρc',yd',z⟩=>⟨ds.length - (i+1),by omega,rfl,hlt,ρc',yd',z⟩,fun x H2 y=>?_⟩
   obtain⟨sm,dx⟩:=yl x H2 y
   have s2:=s'.go (Go.grow s'.rs sm)
   refine hg.run _ _ _ _ ρc _ H2 x ds[i] ρ2 _ s2 dx e3 fun σ3 s3=>?_
   have toEnd:∀ {ρ4:En} {H4:Hp},Go K ρ2 σ3 H2 ρ4 H4->Sn K (zgO nt js.length) (c0 nt js σ) (zmg ρ1 σ js) H1 H1 (L2.reset nt ρ4) (c0 nt js σ) H4/\Shr (cEn nt js ρ1) (L2.reset nt ρ4):=fun{ρ4 H4} g4=>by
    have l4:ρ4.length=nt+js.length:=by rw [g4.shr.len,l2,lc]
    refine⟨(s3.go g4).reset l4 zmf,sh.trans (Shr.reset' lc lo l4 (fun k u hk ek ou=>?_) fun k u hk ek=>?_)⟩
    ·obtain⟨w,ew,ow⟩:=g4.shr.own k u ek ou
     have lk:k < nt+js.length:=by rw [<-l2.trans lc]; exact(List.getElem?_eq_some_iff.mp ew).1
     rw [p2 k (zfN.mpr ⟨hk,lk⟩)]at ew
     exact⟨w,ew,ow⟩
    ·have lk:k < nt+js.length:=by rw [<-lc]; exact(List.getElem?_eq_some_iff.mp ek).1
     rw [<-p2 k (zfN.mpr ⟨hk,lk⟩)]at ek
     exact g4.shr.live k u ek
   refine ht ρ2 σ3 H2 b ρ3 _ s3.rs e4 fun H3 g3=>?_
   dsimp only at el
   split at el
   ·rename_i hb
    rw [if_pos hb]
    obtain⟨⟨a4,ρ4⟩,e5,el⟩:=bind_some el
    obtain⟨u,e6,el⟩:=bind_some el
    refine he ρ3 σ3 H3 a4 ρ4 _ g3.rs e5 fun v H4 g4 k4=>?_
    have pv:=k4.now g3.rs g4 e6
    dsimp only at el
    split at el
    ·rename_i yv
     obtain⟨sn,sr⟩:=toEnd (g3.trans g4)
     exact⟨_,_,sn,sr,fun k hk=>zin hk,((dy.kp sm.kp).kp ((g3.trans g4).kp s3.rs)).snoc pv,el⟩
    ·cases el
   ·rename_i hb
    rw [if_neg hb]
    obtain⟨sn,sr⟩:=toEnd g3
    exact⟨_,_,sn,sr,fun k hk=>zin hk,(dy.kp sm.kp).kp (g3.kp s3.rs),el⟩
  ·cases el
 ·have ei:i=ds.length:=by omega
  subst ei
  rw [List.drop_length]at el
  cases el
  refine .inl ⟨(run H' s'.kp _).2 rfl,fun Da hD=>?_⟩
  have gb:=Sn.comp_back g1.rs s' lc sh
  have sm:=zaT hD (.lst ys)
  exact q _ _ ((g1.trans gb).trans (Go.grow gb.rs sm)) ⟨⟨Da,ys,rfl,zA,dy.kp sm.kp⟩,fun _=>⟨Da,rfl,(g1.trans gb).dm _ hD⟩⟩
end
section
variable {EX:EXT} {K:PySem.W.Frag} {pn:List Nat} {σ₀:St} {A:Addr->Prop} {H₀ H₁ H₂:Hp} {ρ ρ':En} {σ:St} {H H':Hp}
def zas(pn:List Nat)(ρ:En):Nat->List U->Option (List U)
 | _,[]=>some []
 | i,u::us=>(if i∈pn then(ρ[i]?).join.bind fun o=>if o.own=true/\u.own=false then none else some o else if u.own=true then none else some u).bind fun o=>(zas pn ρ (i+1) us).bind fun os=>some (o::os)
def zcm(n:Nat)(pn:List Nat)(m:MS):FD:=fun us=>(m (sm us++List.replicate (n - us.length) none)).bind fun f=>match f with
 | .rt u ρ=>(zas pn ρ 0 us).bind fun os=>some (u,os)
 | .nx ρ=>(zas pn ρ 0 us).bind fun os=>some (.d .none,os)
 | _=>none
theorem zio:∀ {us os:List U} {i:Nat},zas pn ρ i us=some os->os.length=us.length
 | [],os,i,e=>by cases e; rfl
 | u::us,os,i,e=>by
  obtain⟨o,e1,e⟩:=bind_some e
  obtain⟨os',e2,e⟩:=bind_some e
  cases e
  simp [zio e2]
theorem zeQ:∀ {us os:List U} {i p:Nat} {o:U},zas pn ρ i us=some os->os[p]?=some o->∃ u,us[p]?=some u/\((i+p∈pn/\ρ[i+p]?=some (some o)/\(o.own=true->u.own=true))\/(i+p∉pn/\o=u/\u.own=false))
 | [],os,i,p,o,e,ep=>by cases e; simp at ep
 | u::us,os,i,p,o,e,ep=>by
  obtain⟨o1,e1,e⟩:=bind_some e
  obtain⟨os',e2,e⟩:=bind_some e
  cases e
  cases p with
  | zero =>
   cases(show some o1=some o from ep)
   refine⟨u,rfl,?_⟩
   rw [Nat.add_zero]
   split at e1
   ·rename_i hi
    obtain⟨o2,e3,e1⟩:=bind_some e1
    split at e1
    ·cases e1
    ·rename_i hc
     cases e1
     refine .inl ⟨hi,?_,fun oo=>?_⟩
     ·cases q:ρ[i]? with
      | none=>rw [q]at e3; cases e3
      | some x=>rw [q]at e3; cases x with
       | none=>cases e3
       | some y=>cases e3; rfl
     ·cases hu:u.own with
      | true=>rfl
      | false=>exact absurd ⟨oo,hu⟩ hc
   ·rename_i hi
    split at e1
    ·cases e1
    ·rename_i hc
     cases e1
     exact .inr ⟨hi,rfl,by simpa using hc⟩
  | succ p =>
   obtain⟨u',eu,h⟩:=zeQ (i:=i+1) (p:=p) e2 ep
   refine⟨u',eu,?_⟩
   rw [show i+(p+1)=i+1+p by omega]
   exact h
theorem ziq:∀ {us os:List U} {i p:Nat} {u:U},zas pn ρ i us=some os->us[p]?=some u->u.own=true->i+p∈pn
 | [],os,i,p,u,e,ep,_=>by simp at ep
 | u::us,os,i,p,u',e,ep,o=>by
  obtain⟨o1,e1,e⟩:=bind_some e
  obtain⟨os',e2,e⟩:=bind_some e
  cases p with
  | zero =>
   cases(show some u=some u' from ep)
   rw [Nat.add_zero]
   split at e1
   ·assumption
   ·first | cases e1 | (rw [if_pos o]at e1; cases e1)
  | succ p =>
   rw [show i+(p+1)=i+1+p by omega]
   exact ziq (i:=i+1) (p:=p) e2 ep o
theorem zd1{N:List Str}{vs:List V}{i:Nat}(h:i < vs.length):(za9 N vs)[i]?=(smV vs)[i]?:=by
 unfold za9 smV
 rw [List.getElem?_append_left (by simpa using h)]
theorem zgf{N:List Str}{us os:List U}{vs:List V}{ρx:En}(r:Rs K (sm us) (smV vs) H)(hl:us.length<=N.length)(ho:zas pn ρx 0 us=some os) :
  Sn K pn (za9 N vs) (Ow (sm us) (smV vs)) H H (sm us++List.replicate (N.length - us.length) none) (za9 N vs) H:=by
 have lv:us.length=vs.length:=by have:=r.len; unfold sm smV at this; simpa using this
 have inv:∀ (i:Nat) (u:U),(sm us++List.replicate (N.length - us.length) none)[i]?=some (some u)->i < us.length/\(sm us)[i]?=some (some u):=fun i u e=>by
  by_cases hi:i < us.length
  ·rw [List.getElem?_append_left (by unfold sm; simpa using hi)]at e
   exact⟨hi,e⟩
  ·rw [List.getElem?_append_right (by unfold sm; simp; omega),List.getElem?_replicate]at e
   split at e<;>cases e
 refine⟨⟨?_,fun i u e=>?_,fun i j u w ei ej ou ow es=>?_⟩,fun _ _ h _=>h,fun i u a e o es=>?_,fun _ _=>rfl,fun _ h=>h,Kp.refl H⟩
 ·unfold za9 sm; simp; omega
 ·obtain⟨hi,e'⟩:=inv i u e
  rw [zd1 (by omega)]
  exact r.rep i u e'
 ·obtain⟨hi,ei'⟩:=inv i u ei
  obtain⟨hj,ej'⟩:=inv j w ej
  rw [zd1 (by omega),zd1 (by omega)]at es
  exact r.apart i j u w ei' ej' ou ow es
 ·obtain⟨hi,e'⟩:=inv i u e
  rw [zd1 (by omega)]at es
  have:=ziq ho (zcp.mp e') o
  rw [Nat.zero_add]at this
  exact .inl ⟨this,i,u,e',o,es⟩
theorem zex{N:List Str}{us os:List U}{vs:List V}{σ':St}(r:Rs K (sm us) (smV vs) H)(s:Sn K pn (za9 N vs) (Ow (sm us) (smV vs)) H H ρ' σ' H')(ho:zas pn ρ' 0 us=some os):Go K (sm us) (smV vs) H (sm os) H':=by
 have lv:us.length=vs.length:=by have:=r.len; unfold sm smV at this; simpa using this
 have lo:=zio ho
 have bnd:∀ {p:Nat} {o:U},os[p]?=some o->p < vs.length:=fun{p o} e=>by have:=(List.getElem?_eq_some_iff.mp e).1; omega
 have pin:∀ {p:Nat} {o:U},os[p]?=some o->p∈pn->σ'[p]?=(smV vs)[p]?:=fun{p o} e hp=>by rw [s.pin p hp,zd1 (bnd e)]
 refine⟨⟨by unfold sm smV; simp; omega,fun p o e=>?_,fun p q o o' ep eq oo oo' es=>?_⟩,s.fr,⟨by unfold sm; simp; omega,fun p o e oo=>?_,fun p u e=>?_⟩,s.dm⟩
 ·have e':=zcp.mp e
  obtain⟨u,eu,h⟩:=zeQ ho e'
  rw [Nat.zero_add]at h
  rcases h with ⟨hp,hr,_⟩ | ⟨_,rfl,ou⟩
  ·obtain⟨v,ev,q⟩:=s.rs.rep p o hr
   rw [pin e' hp]at ev
   exact⟨v,ev,q⟩
  ·obtain⟨v,ev,q⟩:=r.rep p o (zcp.mpr eu)
   exact⟨v,ev,q.kp s.kp fun oo=>by rw [ou]at oo; cases oo⟩
 ·have ep':=zcp.mp ep
  have eq':=zcp.mp eq
  obtain⟨u,eu,h⟩:=zeQ ho ep'
  obtain⟨u',eu',h'⟩:=zeQ ho eq'
  rw [Nat.zero_add]at h h'
  rcases h with ⟨hp,hr,_⟩ | ⟨_,rfl,ou⟩
  ·rcases h' with ⟨hq,hr',_⟩ | ⟨_,rfl,ou'⟩
   ·rw [<-pin ep' hp,<-pin eq' hq]at es
    exact s.rs.apart p q o o' hr hr' oo oo' es
   ·rw [ou']at oo'; cases oo'
  ·rw [ou]at oo; cases oo
 ·have e':=zcp.mp e
  obtain⟨u,eu,h⟩:=zeQ ho e'
  rcases h with ⟨_,_,h⟩ | ⟨_,rfl,ou⟩
  ·exact⟨u,zcp.mpr eu,h oo⟩
  ·rw [ou]at oo; cases oo
 ·have e':=zcp.mp e
  have hp:p < os.length:=by have:=(List.getElem?_eq_some_iff.mp e').1; omega
  exact⟨os[p],zcp.mpr (List.getElem?_eq_getElem hp)⟩
theorem Fun.okV{P:Program}{w:World}{mg:Str->Option Value}{base:Heap}{x qual:Str}{st:Stmt}{f:Addr}{fd:FuncData}{N ps:List Str}{k n nn:Nat}{m:MS}(F:Fun K x qual st f fd)(S:FnScope N ps (zo st))(hps:ps.length=n)(hN:N.length=nn)(hnn:n<=nn)
  (hbody:∀ (cdv:Value) (A:Around) (outer:List Env) (s:Shared) (H:Hp) (E:XK),Room k (A.deeper (envOfC qual (zo st) s.heap.objs.size f cdv)) ->
   ∃ t,Wr (PSs (zfv CX0 P w K mg base N qual (zo st) f cdv A outer s H E).nox (zK st) t)/\VS K pn EX0 t m):FnOk P w K mg base CX0 (k+1) f fd ps (spV K n (zcm nn pn m)):=by
 refine F.okW S (fun vs H Q E h=>?_) (fun cdv A outer s H vs Q E hr h=>?_)
 ·obtain⟨us,r,outs,hl,rs,_⟩:=h
  have:=rs.len
  unfold sm smV at this
  simp at this
  omega
 obtain⟨us,r,outs,hl,rs,ef,q⟩:=h
 obtain⟨t,wt,vt⟩:=hbody cdv A outer s H E hr
 refine⟨t,wt,?_⟩
 obtain⟨fl,em,ef⟩:=bind_some ef
 have go:∀ (ρ':En),zas pn ρ' 0 us=some outs->Sn K pn (za9 N vs) (Ow (sm us) (smV vs)) H H (sm us++List.replicate (N.length - us.length) none) (za9 N vs) H:=fun ρ' ho=>zgf rs (by omega) ho
 subst hN
 cases fl with
 | nx ρ' =>
  obtain⟨os,eo,ef⟩:=bind_some (show(zas pn ρ' 0 us).bind _=_ from ef)
  cases ef
  refine vt _ _ _ _ _ _ _ (.nx ρ') _ (go ρ' eo) em fun σ' H' s'=>?_
  exact q _ _ (zex rs s' eo) .non Nw.data
 | rt u ρ' =>
  obtain⟨os,eo,ef⟩:=bind_some (show(zas pn ρ' 0 us).bind _=_ from ef)
  cases ef
  refine vt _ _ _ _ _ _ _ (.rt r ρ') _ (go ρ' eo) em fun v σ' H' s' p n'=>?_
  exact q _ _ (zex rs s' eo) p n'
 | bk=>cases ef
 | ct=>cases ef
 | ex=>cases ef
end
section
variable {EX:EXT} {K:PySem.W.Frag} {pn:List Nat} {ρ ρ':En} {σ:St} {H H':Hp}
def zc2(i:Nat)(me:ME):ME:=fun ρ=>match ρ[i]? with
 | some (some (.l _))=>(me ρ).bind fun p=>(p.1.get p.2).bind fun u=>match u,p.2[i]? with
  | .d x,some (some (.l xs))=>if xs.length < sizeLine then some (.u (.d .none),p.2.set i (some (.l (xs++[x]))))else none
  | _,_=>none
 | _=>none
theorem zc3{i:Nat}{te:TE}{me:ME}(h:VE K te me):VE K (tBM K "list" zjU (zgJ i) (zcb te zes)) (zc2 i me):=by
 intro ρ σ H a ρ' Q r e q
 unfold zc2 at e
 split at e
 ·rename_i xs0 e0
  obtain⟨⟨b,ρ1⟩,e1,e⟩:=bind_some e
  obtain⟨u,eu,e⟩:=bind_some e
  obtain⟨v0,ev0,p0⟩:=r.rep i _ e0
  obtain⟨l,us0,rfl,hl0,_⟩:=p0
  refine⟨_,ev0,.inl ⟨rfl,us0,SqL.of hl0⟩,?_⟩
  refine h ρ σ H b ρ1 _ r e1 fun v H1 g1 k1=>?_
  have pv:=k1.now r g1 eu
  dsimp only at e
  split at e
  ·rename_i x xs ex
   split at e
   ·rename_i hz
    cases e
    obtain⟨w,ew,p1⟩:=g1.rs.rep i _ ex
    obtain⟨l',us,rfl,hl,ds⟩:=p1
    rw [ev0]at ew
    cases ew
    refine⟨l,us,v,rfl,rfl,hl,by rw [ds.len]; exact hz,q _ _ (g1.trans (Go.own (u':=.l (xs++[x])) g1.rs ex rfl ev0 ?_)) ⟨.non,Nw.data⟩⟩
    have kp:=ze8 hl trivial (.lst (us++[v]))
    exact⟨l,_,rfl,zA,(ds.kp kp).snoc (DF.kp kp pv)⟩
   ·cases e
  ·cases e
 ·cases e
theorem zkY{o:Option (Option U)}{u:U}(e:o.join=some u):o=some (some u):=by
 cases o with
 | none=>cases e
 | some x=>cases x with
  | none=>cases e
  | some y=>cases e; rfl
def zey(i:Nat)(me mi:ME):MS:=fun ρ=>(ρ[i]?).join.bind fun _=>(me ρ).bind fun p=>(mi p.2).bind fun q=>(p.1.get q.2).bind fun u=>(q.1.get q.2).bind fun w=>match u,w,q.2[i]? with
 | .d x,.d (.int k),some (some (.l xs))=>(ixN xs.length k).bind fun j=>some (.nx (q.2.set i (some (.l (xs.set j x)))))
 | _,_,_=>none
theorem zhB{i:Nat}{te ti:TE}{me mi:ME}(h:VE K te me)(hi:VE K ti mi):VS K pn EX (zgK te (zqI (zgJ i) ti zpR)) (zey i me mi):=by
 intro σ₀ A H₀ H₁ ρ σ H f D s e k
 replace e:=bind_some e
 obtain⟨w0,e0,e⟩:=e
 replace e:=bind_some e
 obtain⟨⟨a,ρ1⟩,e1,e⟩:=e
 replace e:=bind_some e
 obtain⟨⟨b,ρ2⟩,e2,e⟩:=e
 replace e:=bind_some e
 obtain⟨u,eu,e⟩:=e
 replace e:=bind_some e
 obtain⟨w,ew,e⟩:=e
 obtain⟨v0,ev0,_⟩:=s.rs.rep i w0 (zkY e0)
 refine h ρ σ H a ρ1 _ s.rs e1 fun v H1 g1 k1=>⟨v0,ev0,?_⟩
 refine hi ρ1 σ H1 b ρ2 _ g1.rs e2 fun y H2 g2 k2=>?_
 have pv:=k1.later s.rs g1 g2 eu
 have py:=k2.now g1.rs g2 ew
 dsimp only at e
 split at e
 ·rename_i x n xs ex
  replace e:=bind_some e
  obtain⟨j,ej,e⟩:=e
  cases e
  obtain⟨w',ew',p1⟩:=g2.rs.rep i _ ex
  obtain⟨l,us,rfl,hl,ds⟩:=p1
  rw [ev0]at ew'
  cases ew'
  refine⟨l,us,n,j,rfl,DF.int_inv py,hl,by rw [ds.len]; exact ej,k _ _ ((s.go (g1.trans g2)).go (Go.own (u':=.l (xs.set j x)) g2.rs ex rfl ev0 ?_))⟩
  have kp:=ze8 hl trivial (.lst (us.set j v))
  exact⟨l,_,rfl,zA,(ds.kp kp).set (DF.kp kp pv) j⟩
 ·cases e
def ztX:List D->Option (List Key)
 | []=>some []
 | .int i::ds=>(ztX ds).bind fun ks=>some (.inl i::ks)
 | .str x::ds=>(ztX ds).bind fun ks=>some (.inr x::ks)
 | _::_=>none
def zol:D->Option Key
 | .int i=>some (.inl i)
 | .str x=>some (.inr x)
 | _=>none
section
variable {κ:Type} [DecidableEq κ]
end
end
section
variable {K:PySem.W.Frag} {pn:List Nat} {ρ ρ':En} {σ:St} {H H':Hp}
abbrev MO:=En->Option (Option Int×En)
def zom(K:PySem.W.Frag)(t:TO)(m:MO):Prop :=
 ∀ (ρ:En) (σ:St) (H:Hp) (o:Option Int) (ρ':En) (Q:Option Int->Hp->Prop),Rs K ρ σ H->m ρ=some (o,ρ')->(∀ H',Go K ρ σ H ρ' H'->Q o H')->t σ H Q
def zcE:MO:=fun ρ=>some (none,ρ)
def zct(me:ME):MO:=fun ρ=>(me ρ).bind fun p=>(p.1.get p.2).bind fun u=>match u with | .d (.int i)=>some (some i,p.2) | _=>none
theorem zeR:zom K zhi zcE:=fun ρ σ H o ρ' Q r e q=>by cases e; exact q H (Go.refl r)
theorem zcS{te:TE}{me:ME}(h:VE K te me):zom K (zlJ te) (zct me):=by
 intro ρ σ H o ρ' Q r e q
 replace e:=bind_some e
 obtain⟨⟨a,ρ1⟩,e1,e⟩:=e
 replace e:=bind_some e
 obtain⟨u,eu,e⟩:=e
 refine h ρ σ H a ρ1 _ r e1 fun v H1 g1 k1=>?_
 have p:=k1.now r g1 eu
 dsimp only at e
 split at e
 ·rename_i i
  cases e
  exact⟨i,DF.int_inv p,q _ g1⟩
 ·cases e
def zdd(xs:List D)(lo hi:Option Int):List D:=(xs.drop (HT.sIx xs.length 0 lo)).take (HT.sIx xs.length xs.length hi - HT.sIx xs.length 0 lo)
theorem DFs.cut{xs:List V}{ds:List D}(h:DFs K H xs ds)(lo hi:Option Int):DFs K H (zfw xs lo hi) (zdd ds lo hi):=by
 unfold zfw zdd
 rw [h.len]
 exact(h.drop _).take _
def VSl(K:PySem.W.Frag)(r:V->Option Int->Option Int->Hp->VK->Prop)(f:U->Option Int->Option Int->Option U):Prop :=
 ∀ (x:V) (a u:U) (lo hi:Option Int) (H:Hp) (Q:VK),Rp K H x a->f a lo hi=some u->(∀ v H',zbg H H'->Rp K H' v u->Nw H v u->Q v H')->r x lo hi H Q
def mSl(f:U->Option Int->Option Int->Option U)(me:ME)(ml mh:MO):ME:=fun ρ=>(me ρ).bind fun p=>(ml p.2).bind fun l=>(mh l.2).bind fun h=>(p.1.get h.2).bind fun x=>(f x l.1 h.1).bind fun u=>some (.u u,h.2)
theorem zjo{r:V->Option Int->Option Int->Hp->VK->Prop}{f:U->Option Int->Option Int->Option U}{te:TE}{tl th:TO}{me:ME}{ml mh:MO}(hs:VSl K r f)(he:VE K te me)(hl:zom K tl ml)(hh:zom K th mh):VE K (tSl r te tl th) (mSl f me ml mh):=by
 intro ρ σ H a ρ' Q rs e q
 obtain⟨⟨a1,ρ1⟩,e1,e⟩:=bind_some e
 obtain⟨⟨lo,ρ2⟩,e2,e⟩:=bind_some e
 obtain⟨⟨hi,ρ3⟩,e3,e⟩:=bind_some e
 obtain⟨x,ex,e⟩:=bind_some e
 obtain⟨u,eu,e⟩:=bind_some e
 cases e
 refine he ρ σ H a1 ρ1 _ rs e1 fun v1 H1 g1 k1=>hl ρ1 σ H1 lo ρ2 _ g1.rs e2 fun H2 g2=>hh ρ2 σ H2 hi _ _ g2.rs e3 fun H3 g3=>?_
 refine hs _ x u lo hi H3 _ (k1.later rs g1 (g2.trans g3) ex) eu fun v H4 s p n=>?_
 have g:=g1.trans (g2.trans g3)
 exact q v H4 (g.trans (Go.grow g.rs s)) ⟨p,n.mono g.dm⟩
def zhC(u:U)(lo hi:Option Int):Option U:=match u with
 | .l xs=>some (.l (zdd xs lo hi))
 | .d (.list xs)=>some (.l (zdd xs lo hi))
 | _=>none
theorem zfP:VSl K (zq8 K) zhC:=by
 intro x a u lo hi H Q p e q
 unfold zhC at e
 split at e
 ·cases e
  obtain⟨b,us,rfl,h1,h2⟩:=p
  refine⟨b,us,rfl,SqL.of h1,fun l hl=>?_⟩
  have sm:=zaT hl (.lst (zfw us lo hi))
  exact q _ _ sm ⟨l,_,rfl,zA,(h2.cut lo hi).kp sm.kp⟩ fun _=>⟨l,rfl,hl⟩
 ·cases e
  obtain⟨b,us,rfl,h1,h2⟩:=DF.lst_inv p
  refine⟨b,us,rfl,h1.sq,fun l hl=>?_⟩
  have sm:=zaT hl (.lst (zfw us lo hi))
  exact q _ _ sm ⟨l,_,rfl,zA,(h2.cut lo hi).kp sm.kp⟩ fun _=>⟨l,rfl,hl⟩
 ·cases e
def ztY:V->Option Int->Option Int->Hp->VK->Prop:=fun x lo hi H Q=>∃ a xs,x=.ref a/\H a=some (.tup xs)/\∀ p H',zbg H H'->H' p=some (.tup (zfw xs lo hi))->Q (.ref p) H'
theorem zrA{X:Cx}:SlR X ztY:=by
 intro pins s σ H x v vl vu lo hi sl Q I rx hs pl pu h
 obtain⟨a,xs,rfl,hx',q⟩:=h
 have hx:SqT X.K H a xs:=SqT.of hx'
 by_cases hw:HT.sIx xs.length 0 lo=0/\HT.sIx xs.length xs.length hi=xs.length
 ·cases rx
  obtain⟨its,r,ht,hz⟩:=I.tuple hx
  have hlen:its.toArray.size=xs.length:=by rw [List.size_toArray]; exact r.length.symm
  refine⟨"tuple",_,PyProof.Rows.slot_tuple_getitem.lookup,ht.typeIs,?_⟩
  refine HT.getItem_tuple_all ht hs pl pu (by rw [hlen]; exact hw) ⟨.ref a,H,I,rfl,q a H (zbg.refl _) ?_⟩
  unfold zfw
  rw [hw.1,hw.2]
  simpa using hx'
 ·exact zq4 pins s σ H _ v vl vu lo hi sl Q I rx hs pl pu ⟨a,xs,rfl,hx,hw,fun p hp=>q p _ (zaT hp _) zA⟩
def zhD(u:U)(lo hi:Option Int):Option U:=match u with
 | .d (.tuple xs)=>some (.d (.tuple (zdd xs lo hi)))
 | _=>none
theorem zjp:VSl K ztY zhD:=by
 intro x a u lo hi H Q p e q
 unfold zhD at e
 split at e
 ·cases e
  obtain⟨b,us,rfl,h1,h2⟩:=DF.tup_inv p
  exact⟨b,us,rfl,h1,fun l H' sm hl=>q _ _ sm (.tup hl ((h2.cut lo hi).kp sm.kp)) Nw.data⟩
 ·cases e
def zir:U->U->Option U
 | .d (.tuple xs),.d (.tuple ys)=>if xs≠[]/\xs.length+ys.length<=sizeLine then some (.d (.tuple (xs++ys)))else none
 | _,_=>none
theorem zon:VO K (zlL K) zir:=by
 intro x y a b u H Q ha hb e q
 unfold zir at e
 split at e
 ·split at e
  ·rename_i xs ys hc
   cases e
   obtain⟨p,us,rfl,h1,h2⟩:=DF.tup_inv ha
   obtain⟨p',us',rfl,h1',h2'⟩:=DF.tup_inv hb
   refine⟨p,p',us,us',rfl,rfl,SqT.of h1,SqT.of h1',?_,by rw [h2.len,h2'.len]; exact hc.2,fun z=>?_,fun _ r hr=>?_⟩
   ·rintro rfl
    cases h2
    exact hc.1 rfl
   ·subst z
    cases h2'
    exact q _ _ (fun _ _ z=>z) (by rw [List.append_nil]; exact .tup h1 h2) Nw.data
   ·have s:=zaT hr (.tup (us++us'))
    exact q _ _ s (.tup zA ((h2.app h2').kp s.kp)) Nw.data
  ·cases e
 ·cases e
end
section
variable {K:PySem.W.Frag} {pn:List Nat} {ρ ρ':En} {σ:St} {H H':Hp}
def ztZ(ma:MA):ME:=fun ρ=>(ma ρ).bind fun p=>(za2 p.2 p.1).bind fun us=>match us with
 | [.d (.int j)]=>if(-(2^62)<=j/\j < 2^62)/\j.toNat<=sizeLine then some (.u (.l (zbD 0 j.toNat)),p.2)else none
 | _=>none
def zmh:MT:=fun ρ=>some (true,ρ)
theorem zmi:VT K zrd zmh:=fun ρ σ H b ρ' Q r e q=>by cases e; exact q H (Go.refl r)
def sV:D->Option V
 | .none=>some .non
 | .bool b=>some (.bl b)
 | .int i=>some (.int i)
 | .str x=>some (.str x)
 | _=>none
theorem zoo{x:D}{v w:V}(h:DF K H v x)(e:sV x=some w):v=w:=by
 cases h<;>cases e<;>rfl
def zbH(neg:Bool):U->U->Option U
 | .d x,.d y=>(sV x).bind fun v=>(sV y).bind fun w=>if zqT v w=true then some (.d (.bool (if neg=true then !decide (v=w)else decide (v=w))))else none
 | _,_=>none
theorem zbi:VO K rEq (zbH false):=by
 intro x y a b u H Q ha hb e q
 unfold zbH at e
 split at e
 ·obtain⟨v,ev,e⟩:=bind_some e
  obtain⟨w,ew,e⟩:=bind_some e
  split at e
  ·rename_i hs
   cases e
   cases zoo ha ev
   cases zoo hb ew
   exact⟨hs,q _ _ (fun _ _ z=>z) (.bl _) Nw.data⟩
  ·cases e
 ·cases e
theorem zfe:VO K rNe (zbH true):=by
 intro x y a b u H Q ha hb e q
 unfold zbH at e
 split at e
 ·obtain⟨v,ev,e⟩:=bind_some e
  obtain⟨w,ew,e⟩:=bind_some e
  split at e
  ·rename_i hs
   cases e
   cases zoo ha ev
   cases zoo hb ew
   exact⟨hs,q _ _ (fun _ _ z=>z) (.bl _) Nw.data⟩
  ·cases e
 ·cases e
def zgg:U->Bool
 | .d .none=>true
 | _=>false
def zfA(neg:Bool):U->U->Option U
 | a,.d .none=>some (.d (.bool (if neg=true then !zgg a else zgg a)))
 | _,_=>none
theorem zkd{a:U}{v:V}(h:Rp K H v a):decide (v=.non)=zgg a:=by
 cases a with
 | d x=>cases(show DF K H v x from h)<;>simp [zgg]
 | l=>obtain⟨_,_,rfl,_⟩:=h; simp [zgg]
 | t=>obtain⟨_,_,rfl,_⟩:=h; simp [zgg]
 | k=>obtain⟨_,_,rfl,_⟩:=h; simp [zgg]
theorem zrB:VO K (fun x y H Q=>y=.non/\Q (.bl (decide (x=.non))) H) (zfA false):=by
 intro x y a b u H Q ha hb e q
 unfold zfA at e
 split at e
 ·cases e
  refine⟨by cases hb; rfl,?_⟩
  rw [zkd ha]
  exact q _ _ (fun _ _ z=>z) (.bl _) Nw.data
 ·cases e
theorem zke:VO K (fun x y H Q=>y=.non/\Q (.bl (!decide (x=.non))) H) (zfA true):=by
 intro x y a b u H Q ha hb e q
 unfold zfA at e
 split at e
 ·cases e
  refine⟨by cases hb; rfl,?_⟩
  rw [zkd ha]
  exact q _ _ (fun _ _ z=>z) (.bl _) Nw.data
 ·cases e
theorem zrC{F:FD}{a:Addr}{ns:List Int}{E:XK}(hO:znW H)(hS:SqL K H a (ns.map V.int))(h:∃ outs,F [.d (.list (ns.map .int))]=some (.d (.bool true),outs)):spV K 1 F [.ref a] H (fun v _=>v=.bl true) E:=by
 obtain⟨outs,ho⟩:=h
 have pl:PL K H a (ns.map V.int):=by
  rcases hS with (h | ⟨o,h⟩) | h
  ·rcases hO a with z | ⟨o,xs,z⟩
   ·rw [z]at h; cases h
   ·rw [z]at h; cases h
  ·exact .inl ⟨o,h⟩
  ·exact .inr h
 have dd:DFs K H (ns.map V.int) (ns.map PyData.int):=by
  clear ho hS pl
  induction ns with
  | nil=>exact .nil
  | cons n ns ih=>exact .cons (.int n) ih
 refine⟨[.d (.list (ns.map .int))],.d (.bool true),outs,rfl,⟨rfl,fun i u e=>?_,fun i j u w ei ej ou ow es=>?_⟩,ho,fun v H' g p n=>DF.bl_inv p⟩
 ·have e':=zcp.mp e
  cases i with
  | zero=>cases e'; exact⟨.ref a,rfl,DF.lst pl dd⟩
  | succ i=>simp at e'
 ·have e':=zcp.mp ei
  cases i with
  | zero=>cases e'; cases ou
  | succ i=>simp at e'
end
section
variable {ρ:En} {me ma mb mk mi md my mv:ME} {mA mK:MA} {mt mu:MT} {m1 m2:MS} {i j:Nat} {u:U} {x:D} {f:U->U->Option U}
theorem bd{α β:Type}{a:α}{f:α->Option β}:(some a).bind f=f a:=rfl
theorem zt0{u:U}:Ar.get ρ (.u u)=some u:=rfl
theorem zrD:Ar.get ρ (.s i)=(ρ[i]?).join:=rfl
theorem zop{u:U}:(some (some u)).join=some u:=rfl
theorem zrE:zf i ρ=(ρ[i]?).join.bind fun _=>some (.s i,ρ):=by
 unfold zf
 cases ρ[i]? with
 | none=>rfl
 | some o=>cases o<;>rfl
theorem zvF:mC x ρ=some (.u (.d x),ρ):=rfl
theorem zt1:mOp f ma mb ρ=(ma ρ).bind fun p=>(mb p.2).bind fun q=>(p.1.get q.2).bind fun x=>(q.1.get q.2).bind fun y=>(f x y).bind fun u=>some (.u u,q.2):=rfl
theorem zt2{f:U->Option U}:mUn f ma ρ=(ma ρ).bind fun p=>(p.1.get p.2).bind fun x=>(f x).bind fun u=>some (.u u,p.2):=rfl
theorem zrF:zg ρ=some ([],ρ):=rfl
theorem zoq:zb me mA ρ=(me ρ).bind fun p=>(mA p.2).bind fun q=>some (p.1::q.1,q.2):=rfl
theorem zmj:za2 ρ []=some []:=rfl
theorem zkZ{a:Ar}{as:List Ar}:za2 ρ (a::as)=(a.get ρ).bind fun u=>(za2 ρ as).bind fun us=>some (u::us):=rfl
theorem zk0:zcF []=some []:=rfl
theorem zjq{us:List U}:zcF (.d x::us)=(zcF us).bind fun xs=>some (x::xs):=rfl
theorem zrG:zp mA ρ=(mA ρ).bind fun p=>(za2 p.2 p.1).bind fun us=>(zcF us).bind fun ds=>if ds.length<=sizeLine then some (.u (.d (.tuple ds)),p.2)else none:=rfl
theorem zrH:zbs mA ρ=(mA ρ).bind fun p=>(za2 p.2 p.1).bind fun us=>(zcF us).bind fun ds=>if ds.length<=sizeLine then some (.u (.l ds),p.2)else none:=rfl
theorem zt3{f:List U->Option U}:mCB f mA ρ=(mA ρ).bind fun p=>(za2 p.2 p.1).bind fun us=>(f us).bind fun u=>some (.u u,p.2):=rfl
theorem zrI{f:FD}:zI f mA ρ=(mA ρ).bind fun p=>if zdJ p.2 p.1=true then(za2 p.2 p.1).bind fun us=>(f us).bind fun o=>some (.u o.1,wb p.2 p.1 o.2)else none:=rfl
theorem zmk:zdJ ρ []=true:=rfl
theorem zrJ{as:List Ar}:zdJ ρ (.u u::as)=zdJ ρ as:=rfl
theorem zrK{as:List Ar}:zdJ ρ (.s j::as)=((match ρ[j]? with | some (some u)=>!u.own || !(as.any fun a=>match a with | .s k=>decide (k=j) | _=>false) | _=>true) && zdJ ρ as):=rfl
theorem zvG{as:List Ar}{o:U}{os:List U}:wb ρ (.s j::as) (o::os)=wb (ρ.set j (some o)) as os:=rfl
theorem zvH{as:List Ar}{o:U}{os:List U}:wb ρ (.u u::as) (o::os)=wb ρ as os:=rfl
theorem zrL:wb ρ [] []=ρ:=rfl
def zk1(m2:MS):Fl->Option Fl
 | .nx ρ'=>m2 ρ'
 | f=>some f
theorem bind_fn{α β:Type}{o:Option α}{f g:α->Option β}(h:∀ a,f a=g a):o.bind f=o.bind g:=by cases o with | none=>rfl | some a=>exact h a
theorem zrM:zw m1 m2 ρ=(m1 ρ).bind (zk1 m2):=bind_fn fun f=>by cases f<;>rfl
theorem zor:zk1 m2 (.nx ρ)=m2 ρ:=rfl
theorem zos:zk1 m2 (.ex x ρ)=some (.ex x ρ):=rfl
theorem zot:zk1 m2 (.rt u ρ)=some (.rt u ρ):=rfl
theorem zou:zk1 m2 (.ct ρ)=some (.ct ρ):=rfl
def U.dat:U->Option U
 | .d x=>some (.d x)
 | _=>none
theorem zt4:U.dat (.d x)=some (.d x):=rfl
theorem zt5:put (.s i,ρ)=(ρ[i]?).join.bind fun u=>u.dat.bind fun d=>some (d,ρ):=by
 unfold put
 dsimp only
 cases ρ[i]? with
 | none=>rfl
 | some o =>
  cases o with
  | none=>rfl
  | some u=>cases u<;>rfl
theorem zt6:put (.u u,ρ)=some (u,ρ):=rfl
theorem zml:zO i me ρ=(me ρ).bind fun p=>(put p).bind fun q=>some (.nx (q.2.set i (some q.1))):=rfl
theorem zrN:zaf me ρ=(me ρ).bind fun p=>(put p).bind fun q=>some (.rt q.1 q.2):=rfl
theorem zov{pn:List Nat}:zg7 pn i ρ=if i∈pn then none else(ρ[i]?).join.bind fun u=>some (.rt u (ρ.set i none)):=by
 unfold zg7
 split
 ·rfl
 ·cases ρ[i]? with
  | none=>rfl
  | some o=>cases o<;>rfl
theorem zow:zU ρ=some (.nx ρ):=rfl
theorem zkf:zbt me ρ=(me ρ).bind fun p=>some (.nx p.2):=rfl
theorem zrO:zam mt m1 m2 ρ=(mt ρ).bind fun p=>if p.1=true then m1 p.2 else m2 p.2:=rfl
theorem zt7:mIf mt ma mb ρ=(mt ρ).bind fun p=>if p.1=true then ma p.2 else mb p.2:=rfl
def U.bol:U->Option Bool
 | .d (.bool b)=>some b
 | _=>none
theorem zt8{b:Bool}:U.bol (.d (.bool b))=some b:=rfl
theorem zvI:mB me ρ=(me ρ).bind fun p=>(p.1.get p.2).bind fun u=>u.bol.bind fun b=>some (b,p.2):=by
 unfold mB
 congr 1
 funext p
 congr 1
 funext u
 cases u with
 | d x=>cases x<;>rfl
 | l=>rfl
 | t=>rfl
 | k=>rfl
theorem zrP:zjm mt mu ρ=(mt ρ).bind fun p=>if p.1=true then mu p.2 else some (false,p.2):=rfl
theorem zt9:mOr mt mu ρ=(mt ρ).bind fun p=>if p.1=true then some (true,p.2)else mu p.2:=rfl
theorem zrQ:zcK mt ρ=(mt ρ).bind fun p=>some (!p.1,p.2):=rfl
theorem zox:zdP ma mb ρ=(mB ma ρ).bind fun p=>if p.1=true then mb p.2 else some (.u (.d (.bool false)),p.2):=rfl
theorem zoy:zil ma ρ=(mB ma ρ).bind fun p=>some (.u (.d (.bool (!p.1))),p.2):=rfl
theorem zrR:zog ma ρ=(ma ρ).bind fun p=>(p.1.get p.2).bind fun u=>u.tru.bind fun b=>some (b,p.2):=rfl
theorem zoz{n:Int}:U.tru (.d (.int n))=some (n != 0):=rfl
theorem zrS:zmh ρ=some (true,ρ):=rfl
def U.lo:U->Option (List D)
 | .l xs=>some xs
 | _=>none
theorem zvJ{xs:List D}:U.lo (.l xs)=some xs:=rfl
def U.da:U->Option D
 | .d x=>some x
 | _=>none
theorem zvK:U.da (.d x)=some x:=rfl
def U.num:U->Option Int
 | .d (.int i)=>some i
 | _=>none
theorem zua{n:Int}:U.num (.d (.int n))=some n:=rfl
theorem zrT:zc2 i me ρ=(ρ[i]?).join.bind fun w=>w.lo.bind fun _=>(me ρ).bind fun p=>(p.1.get p.2).bind fun u=>u.da.bind fun x=>(p.2[i]?).join.bind fun w=>w.lo.bind fun xs=>if xs.length < sizeLine then some (.u (.d .none),p.2.set i (some (.l (xs++[x]))))else none:=by
 unfold zc2
 cases ρ[i]? with
 | none=>rfl
 | some o =>
  cases o with
  | none=>rfl
  | some w =>
   cases w with
   | l xs0 =>
    show((me ρ).bind _)=((me ρ).bind _)
    congr 1
    funext p
    congr 1
    funext u
    cases u with
    | d x =>
     show(match U.d x,p.2[i]? with | .d x,some (some (.l xs))=>_ | _,_=>none)=((p.2[i]?).join.bind _)
     cases p.2[i]? with
     | none=>rfl
     | some o =>
      cases o with
      | none=>rfl
      | some w=>cases w<;>rfl
    | l=>rfl
    | t=>rfl
    | k=>rfl
   | d=>rfl
   | t=>rfl
   | k=>rfl
theorem zmm:zey i me mi ρ=(ρ[i]?).join.bind fun _=>(me ρ).bind fun p=>(mi p.2).bind fun q=>(p.1.get q.2).bind fun u=>(q.1.get q.2).bind fun w=>u.da.bind fun x=>w.num.bind fun k=>(q.2[i]?).join.bind fun z=>z.lo.bind fun xs=>(ixN xs.length k).bind fun j=>some (.nx (q.2.set i (some (.l (xs.set j x))))):=by
 unfold zey
 congr 1; funext _; congr 1; funext p; congr 1; funext q; congr 1; funext u; congr 1; funext w
 cases u with
 | d x =>
  cases w with
  | d y =>
   cases y with
   | int k =>
    show(match U.d x,U.d (.int k),q.2[i]? with | .d x,.d (.int k),some (some (.l xs))=>_ | _,_,_=>none)=((q.2[i]?).join.bind _)
    cases q.2[i]? with
    | none=>rfl
    | some o =>
     cases o with
     | none=>rfl
     | some w=>cases w<;>rfl
   | _=>rfl
  | l=>rfl
  | t=>rfl
  | k=>rfl
 | l=>rfl
 | t=>rfl
 | k=>rfl
theorem zub{g:U->Option (List D)}:mIt g me ρ=(me ρ).bind fun p=>(p.1.get p.2).bind fun u=>(g u).bind fun ds=>some (ds,p.2):=rfl
theorem zrU{xs:List D}:zmb (.d (.tuple xs))=some xs:=rfl
def zoA:List U->Option (List D)
 | [.d (.int j)]=>if -(2^62)<=j/\j < 2^62 then some (zbD 0 j.toNat)else none
 | _=>none
theorem zrV{n:Int}:zoA [.d (.int n)]=if -(2^62)<=n/\n < 2^62 then some (zbD 0 n.toNat)else none:=rfl
theorem zoB:zeo mA ρ=(mA ρ).bind fun p=>(za2 p.2 p.1).bind fun us=>(zoA us).bind fun ds=>some (ds,p.2):=bind_fn fun p=>bind_fn fun us=>match us with
 | []=>rfl
 | [.d (.int j)]=>by
  show(if _ then _ else _)=(if _ then _ else _:Option (List D)).bind _
  split<;>rfl
 | [.d .none]=>rfl
 | [.d (.bool _)]=>rfl
 | [.d (.str _)]=>rfl
 | [.d (.list _)]=>rfl
 | [.d (.tuple _)]=>rfl
 | [.d (.dict _)]=>rfl
 | [.l _]=>rfl
 | [.t _]=>rfl
 | [.k _]=>rfl
 | .d x::b::us=>by cases x<;>rfl
 | .l x::b::us=>rfl
 | .t x::b::us=>rfl
 | .k x::b::us=>rfl
theorem zrW{mI:MI}{mg:MG}:zeN mI mg m1 ρ=(mI ρ).bind fun p=>zdf mg m1 p.1 p.2:=rfl
theorem zuc{mI:MI}{nt:Nat}{js:List Nat}{mg:MG}:mLC mI nt js mg mt me ρ=(mI ρ).bind fun p=>(lcM nt mg mt me p.1 (cEn nt js p.2) []).bind fun q=>some (.u (.l q.1),back js (q.2.drop nt) p.2):=rfl
theorem zud{f:U->Option Int->Option Int->Option U}{ml mh:MO}:mSl f me ml mh ρ=(me ρ).bind fun p=>(ml p.2).bind fun l=>(mh l.2).bind fun h=>(p.1.get h.2).bind fun x=>(f x l.1 h.1).bind fun u=>some (.u u,h.2):=rfl
theorem zk2:zcE ρ=some (none,ρ):=rfl
theorem zoC:zct me ρ=(me ρ).bind fun p=>(p.1.get p.2).bind fun u=>u.num.bind fun i=>some (some i,p.2):=bind_fn fun p=>bind_fn fun u=>by
 cases u with
 | d x=>cases x<;>rfl
 | l=>rfl
 | t=>rfl
 | k=>rfl
def zrX:List U->Option (D×D)
 | [.d x,.d y]=>some (x,y)
 | _=>none
theorem zrY{y:D}:zrX [.d x,.d y]=some (x,y):=rfl
theorem zrZ:zmd i j mA ρ=(mA ρ).bind fun p=>(za2 p.2 p.1).bind fun us=>(zrX us).bind fun z=>some (.nx ((p.2.set i (some (.d z.1))).set j (some (.d z.2)))):=by
 refine bind_fn fun p=>bind_fn fun us=>?_
 match us with
 | []=>rfl
 | [a]=>cases a<;>rfl
 | [.d x,.d y]=>rfl
 | [.d x,.l y]=>rfl
 | [.d x,.t y]=>rfl
 | [.d x,.k y]=>rfl
 | [.l x,b]=>rfl
 | [.t x,b]=>rfl
 | [.k x,b]=>rfl
 | a::b::c::us=>cases a<;>(try rfl)<;>(cases b<;>rfl)
theorem zr0{mg:MG}:zim me mg ρ=(me ρ).bind fun p=>(p.1.get p.2).bind fun u=>u.da.bind fun d=>(mg d p.2).bind fun ρ'=>some (.nx ρ'):=by
 unfold zim
 congr 1; funext p; congr 1; funext u
 cases u<;>rfl
theorem zmn:zaz i x ρ=some (ρ.set i (some (.d x))):=rfl
theorem zoD{n:Nat}{gs:List D->En->Option En}{ds:List D}:zd0 n gs (.tuple ds) ρ=if ds.length=n then gs ds ρ else none:=rfl
theorem zmo{g:MG}{gs:List D->En->Option En}{ds:List D}:zb1 g gs (x::ds) ρ=(g x ρ).bind fun ρ1=>gs ds ρ1:=rfl
theorem zoE:zeM [] ρ=some ρ:=rfl
theorem zis{c:Int->Int->Prop}{g:Int->Int->D}{a b:Int}(h:c a b):fIC c g (.d (.int a)) (.d (.int b))=some (.d (g a b)):=by
 unfold fIC
 dsimp only
 rw [if_pos h]
theorem zue{a b:Int}:zb3 (.d (.int a)) (.d (.int b))=some (.d (.int (a+b))):=rfl
theorem zuf{a b:Int}:zii (.d (.int a)) (.d (.int b))=some (.d (.int (a - b))):=rfl
theorem zp2{a b:Int}(h:zkH a b):zeJ (.d (.int a)) (.d (.int b))=some (.d (.int (a * b))):=zis h
theorem zug{a b:Int}(h:0 < b):zeK (.d (.int a)) (.d (.int b))=some (.d (.int (a % b))):=zis (c:=fun _ j=>0 < j) h
theorem zr1{a b:Int}(h:zh9 a b):zij (.d (.int a)) (.d (.int b))=some (.d (.int (a / b))):=zis h
theorem zr2{a b:Int}(h:zib a b):zik (.d (.int a)) (.d (.int b))=some (.d (.int (a.fdiv b))):=zis h
theorem zuh{a b:Int}(h:znC a b):zod (.d (.int a)) (.d (.int b))=some (.d (.int (a^b.toNat))):=zis h
theorem zvL{a b:Int}:fLt (.d (.int a)) (.d (.int b))=some (.d (.bool (decide (a < b)))):=rfl
theorem zvM{a b:Int}:fLe (.d (.int a)) (.d (.int b))=some (.d (.bool (decide (a<=b)))):=rfl
theorem zvN{a b:Int}:fGt (.d (.int a)) (.d (.int b))=some (.d (.bool (decide (b < a)))):=rfl
theorem zvO{a b:Int}:fGe (.d (.int a)) (.d (.int b))=some (.d (.bool (decide (b<=a)))):=rfl
theorem zui{a:Int}:zek (.d (.int a))=some (.d (.int (-a))):=rfl
theorem zuj{a:Int}:zkX (.d (.int a))=some (.d (.int (if a < 0 then -a else a))):=rfl
theorem zr3{b:Bool}:zg6 (.d (.bool b))=some (.d (.int (if b then 1 else 0))):=rfl
theorem zvP{f:U->Option U}:f1 f [u]=f u:=rfl
theorem zuk{xs:List D}:zaE (.l xs)=some (.d (.int xs.length)):=rfl
theorem zul{xs:List D}:zaE (.d (.tuple xs))=some (.d (.int xs.length)):=rfl
theorem zum{xs:List D}:zaE (.d (.list xs))=some (.d (.int xs.length)):=rfl
theorem zoF{xs:List D}:ze9 (.l xs)=some (.d (.tuple xs)):=rfl
theorem zun{xs:List D}{k:Int}:zaG (.l xs) (.d (.int k))=(atI xs k).map .d:=rfl
theorem zuo{xs:List D}{k:Int}:zaG (.d (.list xs)) (.d (.int k))=(atI xs k).map .d:=rfl
theorem zup{xs:List D}{k:Int}:zbh (.d (.tuple xs)) (.d (.int k))=(atI xs k).map .d:=rfl
theorem zuq{xs:List D}{lo hi:Option Int}:zhC (.l xs) lo hi=some (.l (zdd xs lo hi)):=rfl
theorem zur{xs:List D}{lo hi:Option Int}:zhC (.d (.list xs)) lo hi=some (.l (zdd xs lo hi)):=rfl
theorem zus{a b:Int}:zbH false (.d (.int a)) (.d (.int b))=some (.d (.bool (decide (a=b)))):=by
 show some (U.d (.bool (decide (V.int a=V.int b))))=_
 congr 3
 exact decide_eq_decide.mpr ⟨fun h=>by cases h; rfl,fun h=>by rw [h]⟩
theorem zut{a b:Int}:zbH true (.d (.int a)) (.d (.int b))=some (.d (.bool (!decide (a=b)))):=by
 show some (U.d (.bool (!decide (V.int a=V.int b))))=_
 congr 4
 exact decide_eq_decide.mpr ⟨fun h=>by cases h; rfl,fun h=>by rw [h]⟩
theorem zuu{a b:Str}:zbH false (.d (.str a)) (.d (.str b))=some (.d (.bool (decide (a=b)))):=by
 show some (U.d (.bool (decide (V.str a=V.str b))))=_
 congr 3
 exact decide_eq_decide.mpr ⟨fun h=>by cases h; rfl,fun h=>by rw [h]⟩
def zr4(pn:List Nat)(us:List U):Fl->Option (U×List U)
 | .rt u ρ=>(zas pn ρ 0 us).bind fun os=>some (u,os)
 | .nx ρ=>(zas pn ρ 0 us).bind fun os=>some (.d .none,os)
 | _=>none
theorem zr5{n:Nat}{pn:List Nat}{us:List U}:zcm n pn m1 us=(m1 (sm us++List.replicate (n - us.length) none)).bind (zr4 pn us):=by
 exact bind_fn fun f=>by cases f<;>rfl
theorem zoG{pn:List Nat}{us:List U}:zr4 pn us (.rt u ρ)=(zas pn ρ 0 us).bind fun os=>some (u,os):=rfl
theorem zmp{pn:List Nat}{n:Nat}:zas pn ρ n []=some []:=rfl
theorem zk3{pn:List Nat}{n:Nat}{us:List U}:zas pn ρ n (u::us)=(if n∈pn then(ρ[n]?).join.bind fun o=>if o.own=true/\u.own=false then none else some o else if u.own=true then none else some u).bind fun o=>(zas pn ρ (n+1) us).bind fun os=>some (o::os):=rfl
theorem zuv:U.own (.d x)=false:=rfl
theorem zuw{xs:List D}:U.own (.l xs)=true:=rfl
theorem zr6:sm []=[]:=rfl
theorem zoH{us:List U}:sm (u::us)=some u::sm us:=rfl
theorem zvQ{α:Type}{a:α}{xs:List α}:atI (a::xs) 0=some a:=by
 unfold atI ixN
 rw [if_pos (by decide),if_pos (by simp only [List.length_cons]; omega)]
 rfl
theorem zvR{α:Type}{a b:α}{xs:List α}:atI (a::b::xs) 1=some b:=by
 unfold atI ixN
 rw [if_pos (by decide),if_pos (by simp only [List.length_cons]; omega)]
 rfl
theorem zvS{α:Type}{a b c:α}{xs:List α}:atI (a::b::c::xs) 2=some c:=by
 unfold atI ixN
 rw [if_pos (by decide),if_pos (by simp only [List.length_cons]; omega)]
 rfl
theorem zvT{n:Nat}:ixN (n+1) 0=some 0:=by
 unfold ixN
 rw [if_pos (by decide),if_pos (by omega)]
 rfl
theorem zvU{n:Nat}:ixN (n+1+1) 1=some 1:=by
 unfold ixN
 rw [if_pos (by decide),if_pos (by omega)]
 rfl
theorem zvV{a b:Int}(h:b.natAbs < 18446744073709551616):zeJ (.d (.int a)) (.d (.int b))=some (.d (.int (a * b))):=zp2 (.inr ⟨by omega,by omega⟩)
theorem zvW{a b:Int}(h:a.natAbs < 18446744073709551616):zeJ (.d (.int a)) (.d (.int b))=some (.d (.int (a * b))):=zp2 (.inl ⟨by omega,by omega⟩)
theorem zvX{a b:Int}(h:0 < b):zeK (.d (.int a)) (.d (.int b))=some (.d (.int (a % b))):=zug h
theorem zvY{a b:Int}(h:0 < b)(h2:b<=340282366920938463463374607431768211456):zij (.d (.int a)) (.d (.int b))=some (.d (.int (a / b))):=zr1 (znY h (by omega))
theorem zux{a b:Int}(h:b≠0)(h2:b.natAbs<=340282366920938463463374607431768211456):zik (.d (.int a)) (.d (.int b))=some (.d (.int (a.fdiv b))):=zr2 (znZ h (by omega))
theorem zvZ{a b:Int}(h:0<=b)(h2:b<=1000000)(h3:a.natAbs < 18446744073709551616):zod (.d (.int a)) (.d (.int b))=some (.d (.int (a^b.toNat))):=zuh ⟨h,h2,by omega⟩
theorem zl:sizeLine=16777216:=rfl
theorem zoI{nt:Nat}:reset nt ρ=List.replicate nt none++ρ.drop nt:=rfl
theorem zuy{nt:Nat}{js:List Nat}:cEn nt js ρ=List.replicate nt none++js.map fun j=>ρ.getD j none:=rfl
def noS(j:Nat):List Ar->Bool
 | []=>true
 | .u _::as=>noS j as
 | .s k::as=>!decide (k=j) && noS j as
theorem zjr{j:Nat}:∀ {as:List Ar},noS j as=!(as.any fun a=>match a with | .s k=>decide (k=j) | _=>false)
 | []=>rfl
 | .u _::as=>by rw [List.any_cons]; exact zjr (as:=as)
 | .s k::as=>by
  unfold noS
  rw [List.any_cons,zjr (as:=as),Bool.not_or]
def dAt:Option U->Bool
 | some u=>!u.own
 | none=>true
theorem zuz:dAt (some (.d x))=true:=rfl
theorem zuA{xs:List D}:dAt (some (.l xs))=false:=rfl
theorem zoJ:noS j []=true:=rfl
theorem zuB{as:List Ar}:noS j (.u u::as)=noS j as:=rfl
theorem zuC{k:Nat}{as:List Ar}:noS j (.s k::as)=(!decide (k=j) && noS j as):=rfl
theorem zoK{as:List Ar}:zdJ ρ (.s j::as)=((noS j as || dAt (ρ[j]?).join) && zdJ ρ as):=by
 rw [zrK,zjr]
 congr 1
 cases ρ[j]? with
 | none=>simp [dAt]
 | some o =>
  cases o with
  | none=>simp [dAt]
  | some u=>simp [dAt,Bool.or_comm]
theorem zhE{nt:Nat}{mg:MG}{α:Type}{g h:α->D}{p:α->Bool}{ρ0:En}:∀ {as:List α} {ys:List D},ys.length+as.length<=sizeLine->(∀ a∈as,∃ ρ1 ρ2,mg (g a) ρ0=some ρ1/\mt ρ1=some (p a,ρ2)/\reset nt ρ2=ρ0/\(p a=true->∃ ar ρ3,me ρ2=some (ar,ρ3)/\ar.get ρ3=some (.d (h a))/\reset nt ρ3=ρ0)) ->
  lcM nt mg mt me (as.map g) ρ0 ys=some (ys++(as.filter p).map h,ρ0)
 | [],ys,_,_=>by rw [List.filter_nil,List.map_nil,List.map_nil,List.append_nil]; rfl
 | a::as,ys,hz,st=>by
  obtain⟨ρ1,ρ2,e1,e2,e3,k⟩:=st a List.mem_cons_self
  rw [List.length_cons]at hz
  have st':=fun b hb=>st b (List.mem_cons_of_mem _ hb)
  rw [List.map_cons]
  unfold lcM
  rw [if_pos (by omega),e1,bd,e2,bd]
  dsimp only
  cases hp:p a with
  | true =>
   obtain⟨ar,ρ3,e4,e5,e6⟩:=k hp
   rw [if_pos rfl,e4,bd]
   dsimp only
   rw [e5,bd]
   dsimp only
   rw [e6,zhE (by rw [List.length_append,List.length_singleton]; omega) st',List.filter_cons,if_pos hp,List.map_cons,List.append_assoc]
   rfl
  | false =>
   rw [if_neg Bool.false_ne_true,e3,zhE (by omega) st',List.filter_cons,if_neg (by rw [hp]; exact Bool.false_ne_true)]
theorem zit{α:Type}(as:List α):as.filter (fun _=>true)=as:=List.filter_eq_self.mpr fun _ _=>rfl
theorem zr7{js:List Nat}{us:List (Option U)}:back (j::js) (some u::us) ρ=back js us (ρ.set j (some u)):=rfl
theorem zr8{us:List (Option U)}:back [] us ρ=ρ:=by cases us<;>rfl
theorem zuD{xs ys:List D}(h:xs.length+ys.length<=16777216):zdw (.l xs) (.l ys)=some (.l (xs++ys)):=by
 unfold zdw
 dsimp only
 rw [zl,if_pos h]
end
structure XT (K:PySem.W.Frag) (tab:List (Str×List Str)) (fl:List Str):Prop where
 cl:∀ n ups C,tab.lookup n=some ups->XN K n C->XI K C/\∀ f∈fl,zcW K C f
 is:∀ n ups C,tab.lookup n=some ups->XN K n C->∀ c C',(tab.lookup c).isSome=true->XN K c C'->PySem.W.kitOne K (.ref C) (.ref C')=some (decide (c=n) || ups.contains c)
 isT:∀ n ups C,tab.lookup n=some ups->XN K n C->PySem.W.kitOne K (.ref C) (.type "ValueError")=some (ups.contains ("ValueError":Str))
def zoL(f:Str):List (D×D)->Option D
 | (.str g,d)::ds=>if f=g then some d else zoL f ds
 | _=>none
section
variable {K:PySem.W.Frag} {tab:List (Str×List Str)} {fl:List Str} {f n:Str} {H:Hp}
theorem DFf.get:∀ {fs:List (Str×V)} {ds:List (D×D)} {d:D},DFf K H fs ds->zoL f ds=some d->∃ v,fs.lookup f=some v/\DF K H v d
 | _,_,_,.nil,e=>by cases e
 | _,_,d,.cons (k:=k) (v:=v) (vs:=vs) h t,e=>by
  unfold zoL at e
  rw [List.lookup_cons]
  split at e
  ·rename_i q
   cases e
   exact⟨v,by rw [show(f==k)=true from beq_iff_eq.mpr q],h⟩
  ·rename_i q
   obtain⟨w,e1,e2⟩:=DFf.get t e
   exact⟨w,by rw [show(f==k)=false from beq_eq_false_iff_ne.mpr q]; exact e1,e2⟩
theorem DF.exc_inv{v:V}{ds:List (D×D)}(h:DF K H v (.dict ((.none,.str n)::ds))):∃ a C fs,v=.ref a/\XV H a C fs/\XN K n C/\DFf K H fs ds:=by
 generalize eq:(PyData.dict ((.none,.str n)::ds))=z at h
 cases h with
 | dct h t =>
  cases eq
  generalize eq2:((PyData.none,PyData.str n)::ds)=y at t
  cases t with
  | nil=>cases eq2
  | cons=>cases eq2
 | exc h e t=>cases eq; exact⟨_,_,_,rfl,h,e,t⟩
 | _=>cases eq
def zp3(K:PySem.W.Frag)(f:Str):V->Hp->VK->Prop:=fun x H Q=>∃ a C fs v,x=.ref a/\XV H a C fs/\XC K C/\zcW K C f/\fs.lookup f=some v/\Q v H
def ziu(tab:List (Str×List Str))(f:Str):U->Option U
 | .d (.dict ((.none,.str n)::ds))=>if(tab.lookup n).isSome=true then(zoL f ds).map .d else none
 | _=>none
theorem zkg(T:XT K tab fl)(hf:f∈fl):VU K (zp3 K f) (ziu tab f):=by
 intro x a u H Q h e q
 unfold ziu at e
 split at e
 ·rename_i n ds
  split at e
  ·rename_i hn
   obtain⟨ups,hu⟩:=Option.isSome_iff_exists.mp hn
   obtain⟨d,ed,rfl⟩:=Option.map_eq_some_iff.mp e
   obtain⟨a,C,fs,rfl,xv,xn,t⟩:=DF.exc_inv h
   obtain⟨v,ev,hv⟩:=t.get ed
   obtain⟨c1,c2⟩:=T.cl n ups C hu xn
   exact⟨a,C,fs,v,rfl,xv,c1.cl,c2 f hf,ev,q v H (zbg.refl H) hv Nw.data⟩
  ·cases e
 ·cases e
end
section
variable {K:PySem.W.Frag} {tab:List (Str×List Str)} {fl:List Str} {f n:Str} {H:Hp}
def spI(K:PySem.W.Frag)(f:Str):Sp:=fun vs H Q _=>∃ a C p v,vs=[.ref a,v]/\H a=some (zjb a C p)/\XC K C/\zcW K C f /\
 ∀ dx ox od,H dx=none->dx≠a->ox.cls=.ref C->ox.dict=some dx->PySem.W.notCls ox=true->ox={ zeu C p with dict:=some dx }->Q .non (upd (upd H dx (.frz od (.xd [(f,v)]))) a (.frz ox (.own 0)))
theorem zoM{vs:List V}{Q:VK}{E:XK}(h:spI K f vs H Q E):vs.length=2:=by
 obtain⟨a,C,p,v,rfl,_⟩:=h
 rfl
theorem zoN{N:List Str}{vs:List V}{Q:VK}{E:XK}(h:spI K f vs H Q E):zpX K (zgJ 0) (zgJ 1) f { nx:=fun _ H'=>Q .non H',rt:=Q } (za9 N vs) H:=by
 obtain⟨a,C,p,v,rfl,h1,h2,h3,h4⟩:=h
 refine⟨v,rfl,.ref a,rfl,a,C,p,rfl,h1,h2,h3,h4⟩
def zr9(n f:Str)(ma:MA):ME:=fun ρ=>(ma ρ).bind fun p=>(za2 p.2 p.1).bind fun us=>(zcF us).bind fun ds=>match ds with
 | [x]=>some (.u (.d (.dict [(.none,.str n),(.str f,x)])),p.2)
 | _=>none
end
def zmq(K:PySem.W.Frag):List V->Hp->VK->Prop:=fun xs H Q=>∃ a C fs c u b,xs=[.ref a,c]/\zaj c u/\(∀ u',zaj c u'->u'=u)/\XV H a C fs/\XI K C/\PySem.W.kitOne K (.ref C) u=some b/\Q (.bl b) H
section
variable {X:Cx} {K:PySem.W.Frag} {tab:List (Str×List Str)} {fl:List Str} {c n:Str}
theorem zgh(hK:X.K=K):zbT X (.builtin "isinstance") (zmq K):=by
 subst hK
 intro pins s σ H xs us Q I r h
 obtain⟨a,C,fs,c,u,b,rfl,rc,un,xv,Y,e,q⟩:=h
 obtain⟨w,u',rfl,rx,rt⟩:=zlG r
 cases un u' rt
 cases(show w=Value.ref a from rx)
 exact zrl I xv Y e fun tk=>⟨.bl b,H,I.tok tk,rfl,q⟩
def zfB(tab:List (Str×List Str))(own:Bool)(c:Str):U->Option U
 | .d (.dict ((.none,.str n)::_))=>(tab.lookup n).map fun ups=>.d (.bool ((own && decide (c=n)) || ups.contains c))
 | _=>none
theorem zp4{te:TE}{me:ME}{C':Addr}(T:XT K tab fl)(hc:XN K c C')(ht:(tab.lookup c).isSome=true)(h:VE K te me):VE K (tCB (zmq K) (zcb te (zcb (tC (.ref C')) zes))) (mUn (zfB tab true c) me):=by
 intro ρ σ H a ρ' Q rs e q
 obtain⟨⟨a1,ρ1⟩,e1,e⟩:=bind_some e
 obtain⟨x,ex,e⟩:=bind_some e
 obtain⟨u,eu,e⟩:=bind_some e
 cases e
 refine h ρ σ H a1 _ _ rs e1 fun v1 H1 g1 k1=>?_
 have p:=k1.now rs g1 ex
 unfold zfB at eu
 split at eu
 ·rename_i n ds
  obtain⟨ups,hu,rfl⟩:=Option.map_eq_some_iff.mp eu
  obtain⟨a,C,fs,rfl,xv,xn,t⟩:=DF.exc_inv p
  refine⟨a,C,fs,.ref C',.ref C',_,rfl,rfl,fun u' z=>z,xv,(T.cl n ups C hu xn).1,T.is n ups C hu xn c C' ht hc,?_⟩
  exact q _ _ g1 ⟨DF.bl _,Nw.data⟩
 ·cases eu
theorem zsa{te:TE}{me:ME}(T:XT K tab fl)(h:VE K te me):VE K (tCB (zmq K) (zcb te (zcb (tC (.ty "ValueError")) zes))) (mUn (zfB tab false "ValueError") me):=by
 intro ρ σ H a ρ' Q rs e q
 obtain⟨⟨a1,ρ1⟩,e1,e⟩:=bind_some e
 obtain⟨x,ex,e⟩:=bind_some e
 obtain⟨u,eu,e⟩:=bind_some e
 cases e
 refine h ρ σ H a1 _ _ rs e1 fun v1 H1 g1 k1=>?_
 have p:=k1.now rs g1 ex
 unfold zfB at eu
 split at eu
 ·rename_i n ds
  obtain⟨ups,hu,rfl⟩:=Option.map_eq_some_iff.mp eu
  obtain⟨a,C,fs,rfl,xv,xn,t⟩:=DF.exc_inv p
  refine⟨a,C,fs,.ty "ValueError",.type "ValueError",_,rfl,rfl,fun u' z=>z,xv,(T.cl n ups C hu xn).1,T.isT n ups C hu xn,?_⟩
  rw [Bool.false_and,Bool.false_or]at q
  exact q _ _ g1 ⟨DF.bl _,Nw.data⟩
 ·cases eu
end
section
variable {K:PySem.W.Frag}
def zeS:U->U->Option U
 | .d (.str i),.d (.str j)=>if i.length+j.length<=sizeLine then some (.d (.str (i++j)))else none
 | _,_=>none
theorem zfQ:VO K (fun x y H Q=>∃ i j,x=.str i/\y=.str j/\i.length+j.length<=sizeLine/\Q (.str (i++j)) H) zeS:=by
 intro x y a b u H Q ha hb e q
 unfold zeS at e
 split at e
 ·split at e
  ·rename_i i j hc
   cases e
   exact⟨i,j,DF.str_inv ha,DF.str_inv hb,hc,q _ _ (zbg.refl H) (DF.str _) Nw.data⟩
  ·cases e
 ·cases e
def zjs:U->U->Option U
 | .d (.str z),.d (.int i)=>if z.length<=sizeLine then(atI z.cps.toList i).map fun c=>.d (.str ⟨#[c]⟩)else none
 | _,_=>none
theorem zjt:VO K ztA zjs:=by
 intro x y a b u H Q ha hb e q
 unfold zjs at e
 split at e
 ·split at e
  ·rename_i z i hc
   obtain⟨c,ec,rfl⟩:=Option.map_eq_some_iff.mp e
   exact⟨z,i,c,DF.str_inv ha,DF.int_inv hb,hc,ec,q _ _ (zbg.refl H) (DF.str _) Nw.data⟩
  ·cases e
 ·cases e
def mM1(ty:U->Bool)(f:U->U->Option U)(mo ma:ME):ME:=fun ρ=>(mo ρ).bind fun p=>(p.1.get p.2).bind fun x0=>if ty x0=true then(ma p.2).bind fun q=>(p.1.get q.2).bind fun x=>(q.1.get q.2).bind fun y=>(f x y).bind fun u=>some (.u u,q.2)else none
theorem zuE{T:String}{r:V->List V->Hp->VK->Prop}{ty:U->Bool}{f:U->U->Option U}{to ta:TE}{mo ma:ME}(ht:∀ (x:V) (a:U) (H:Hp),Rp K H x a->ty a=true->tyV K T x H)(h:VO K (fun x y H Q=>r x [y] H Q) f)
  (ho:VE K to mo) (ha:VE K ta ma):VE K (tBM K T r to (zcb ta zes)) (mM1 ty f mo ma):=by
 intro ρ σ H a ρ' Q rs e q
 obtain⟨⟨a1,ρ1⟩,e1,e⟩:=bind_some e
 obtain⟨x0,ex0,e⟩:=bind_some e
 split at e
 rotate_left
 ·cases e
 rename_i hty
 obtain⟨⟨b1,ρ2⟩,e2,e⟩:=bind_some e
 obtain⟨x,ex,e⟩:=bind_some e
 obtain⟨y,ey,e⟩:=bind_some e
 obtain⟨u,eu,e⟩:=bind_some e
 cases e
 refine ho ρ σ H a1 ρ1 _ rs e1 fun v1 H1 g1 k1=>⟨ht _ _ _ (k1.now rs g1 ex0) hty,ha ρ1 σ H1 b1 ρ2 _ g1.rs e2 fun v2 H2 g2 k2=>?_⟩
 refine h _ _ x y u H2 _ (k1.later rs g1 g2 ex) (k2.now g1.rs g2 ey) eu fun v H3 s p n=>?_
 exact q v H3 ((g1.trans g2).trans (Go.grow g2.rs s)) ⟨p,n.mono (g1.trans g2).dm⟩
def tyL:U->Bool
 | .l _=>true
 | .d (.list _)=>true
 | _=>false
def tyS:U->Bool
 | .d (.str _)=>true
 | _=>false
theorem zmr(x:V)(a:U)(H:Hp)(h:Rp K H x a)(e:tyS a=true):tyV K "str" x H:=by
 unfold tyS at e
 split at e
 ·cases DF.str_inv h; rfl
 ·cases e
def zoO:D->Option Str
 | .str x=>some x
 | _=>none
theorem zgi{H:Hp}:∀ {us:List V} {ds:List D} {ys:List Str},DFs K H us ds->ds.mapM zoO=some ys->us=ys.map V.str
 | _,_,ys,.nil,e=>by cases e; rfl
 | _,_,ys,.cons (d:=d) h t,e=>by
  rw [List.mapM_cons]at e
  obtain⟨y,e1,e⟩:=bind_some e
  obtain⟨ys',e2,e⟩:=bind_some e
  cases e
  cases d with
  | str x=>cases e1; cases DF.str_inv h; rw [zgi t e2]; rfl
  | _=>cases e1
def zg8:U->U->Option U
 | .d (.str sep),.l ds=>(ds.mapM zoO).bind fun ys=>if(ys.map (·.length)).sum+ys.length * sep.length<=16777216 then some (.d (.str (Txt.join sep ys)))else none
 | .d (.str sep),.d (.list ds)=>(ds.mapM zoO).bind fun ys=>if(ys.map (·.length)).sum+ys.length * sep.length<=16777216 then some (.d (.str (Txt.join sep ys)))else none
 | _,_=>none
theorem zkh:VO K (fun x y H Q=>zpU K x [y] H Q) zg8:=by
 intro x y a b u H Q ha hb e q
 unfold zg8 at e
 split at e
 ·obtain⟨ys,ey,e⟩:=bind_some e
  split at e
  ·rename_i hc
   cases e
   obtain⟨l,us,rfl,h1,h2⟩:=hb
   cases zgi h2 ey
   exact⟨_,l,ys,DF.str_inv ha,rfl,SqL.of h1,hc,q _ _ (zbg.refl H) (DF.str _) Nw.data⟩
  ·cases e
 ·obtain⟨ys,ey,e⟩:=bind_some e
  split at e
  ·rename_i hc
   cases e
   obtain⟨l,us,rfl,h1,h2⟩:=DF.lst_inv hb
   cases zgi h2 ey
   exact⟨_,l,ys,DF.str_inv ha,rfl,h1.sq,hc,q _ _ (zbg.refl H) (DF.str _) Nw.data⟩
  ·cases e
 ·cases e
def flD:D->Option V
 | .none=>some .non
 | .bool b=>some (.bl b)
 | .int i=>some (.int i)
 | .str x=>some (.str x)
 | _=>none
theorem zhF{H:Hp}{v w:V}{d:D}(h:DF K H v d)(e:flD d=some w):v=w/\zdO w=true:=by
 cases d with
 | none=>cases e; cases h; exact⟨rfl,rfl⟩
 | bool b=>cases e; cases DF.bl_inv h; exact⟨rfl,rfl⟩
 | int i=>cases e; cases DF.int_inv h; exact⟨rfl,rfl⟩
 | str x=>cases e; cases DF.str_inv h; exact⟨rfl,rfl⟩
 | _=>cases e
theorem zki{H:Hp}:∀ {us:List V} {ds:List D} {ws:List V},DFs K H us ds->ds.mapM flD=some ws->us=ws/\ws.all zdO=true
 | _,_,ws,.nil,e=>by cases e; exact⟨rfl,rfl⟩
 | _,_,ws,.cons h t,e=>by
  rw [List.mapM_cons]at e
  obtain⟨y,e1,e⟩:=bind_some e
  obtain⟨ys',e2,e⟩:=bind_some e
  cases e
  obtain⟨rfl,f1⟩:=zhF h e1
  obtain⟨rfl,f2⟩:=zki t e2
  exact⟨rfl,by rw [List.all_cons,f1,f2]; rfl⟩
end
def zoP(K:PySem.W.Frag)(C:Addr):Bool:=match K.lookup C with
 | some ⟨.type "type",_,.cls cd,sl⟩=>(match cd.mro,sl.toList with
  | .ref C'::bm,[_,_,_,_,some (.builtin m),_]=>C'==C && m == "ValueError.__new__" && !cd.hasDel && cd.hasDict && PySem.W.tailIn K xUp bm
  | _,_=>false)
 | _=>false
def zoQ(K:PySem.W.Frag)(C:Addr):Bool:=zoP K C && PySem.W.findIn K (.ref C) "__getattribute__"==some (some (.builtin "BaseException.__getattribute__")) && PySem.W.findIn K (.ref C) "__getattr__"==some none &&
 PySem.W.findIn K (.ref C) "__setattr__"==some (some (.builtin "object.__setattr__")) && PySem.W.findIn K (.ref C) "__class__"==some (some (.builtin "object.__class__")) &&
 PySem.W.specialIn K (.builtin "object.__class__") "__get__"==some (some (.builtin "getset_descriptor.__get__")) && PySem.W.takesIn K (.builtin "object.__class__")==some true && PySem.W.mroIn K C (.type "object")==some true
theorem zp5{K:PySem.W.Frag}{C:Addr}(q:zoP K C=true):∃ nm qn N bs bm sn sub ab col dd k0 k1 k2 k3 k5,K.lookup C=some (excClassObj nm qn C N bs bm true sn sub ab col dd k0 k1 k2 k3 k5 "ValueError.__new__")/\PySem.W.tailIn K xUp bm=true:=by
 unfold zoP at q
 split at q
 ·rename_i dd cd sl ho
  split at q
  ·rename_i C' bm k0 k1 k2 k3 m k5 hm hs
   simp only [Bool.and_eq_true,beq_iff_eq,Bool.not_eq_true']at q
   obtain⟨⟨⟨⟨rfl,rfl⟩,hdel⟩,hdct⟩,ht⟩:=q
   obtain⟨nm,bs,mro,ns,qn,hd,sn,sub,ab,col,del⟩:=cd
   dsimp only at hm hdel hdct
   subst hm hdel hdct
   obtain⟨l⟩:=sl
   dsimp only at hs
   subst hs
   exact⟨nm,qn,ns,bs,bm,sn,sub,ab,col,dd,k0,k1,k2,k3,k5,ho,ht⟩
  ·cases q
 ·cases q
theorem zuF{K:PySem.W.Frag}{C:Addr}(q:zoQ K C=true):XI K C:=by
 unfold zoQ at q
 simp only [Bool.and_eq_true,beq_iff_eq]at q
 obtain⟨⟨⟨⟨⟨⟨⟨h1,h2⟩,h3⟩,h4⟩,h5⟩,h6⟩,h7⟩,h8⟩:=q
 exact⟨⟨zp5 h1,h2,h3,h4⟩,h5,h6,h7,h8⟩
def zju(K:PySem.W.Frag)(n:Str):Option Addr:=match PySem.W.nsIn K mainGlobals n with
 | some (some (.ref C))=>some C
 | _=>none
theorem zfR{K:PySem.W.Frag}{n:Str}{C:Addr}(h:XN K n C):zju K n=some C:=by
 unfold zju
 rw [show PySem.W.nsIn K mainGlobals n=some (some (.ref C)) from h]
def zsb(K:PySem.W.Frag)(tab:List (Str×List Str))(fl:List Str):Bool:=tab.all fun p=>match zju K p.1 with
 | some C=>zoQ K C && fl.all (fun f=>PySem.W.findIn K (.ref C) f==some none) && PySem.W.kitOne K (.ref C) (.type "ValueError")==some (p.2.contains ("ValueError":Str)) &&
   tab.all fun p'=>match zju K p'.1 with
    | some C'=>PySem.W.kitOne K (.ref C) (.ref C')==some (decide (p'.1=p.1) || p.2.contains p'.1)
    | none=>false
 | none=>false
theorem zdK{β:Type}:∀ {l:List (Str×β)} {n:Str} {b:β},l.lookup n=some b->(n,b)∈l
 | [],_,_,e=>by cases e
 | (m,c)::l,n,b,e=>by
  rw [List.lookup_cons]at e
  cases q:(n==m)with
  | true =>
   rw [q]at e
   cases e
   rw [beq_iff_eq.mp q]
   exact List.mem_cons_self
  | false =>
   rw [q]at e
   exact List.mem_cons_of_mem _ (zdK e)
theorem zuG{K:PySem.W.Frag}{tab:List (Str×List Str)}{fl:List Str}(h:zsb K tab fl=true):XT K tab fl:=by
 unfold zsb at h
 have one:∀ n ups C,tab.lookup n=some ups->XN K n C->(zoQ K C && fl.all (fun f=>PySem.W.findIn K (.ref C) f==some none) && PySem.W.kitOne K (.ref C) (.type "ValueError")==some (ups.contains ("ValueError":Str)) &&
   tab.all fun p'=>match zju K p'.1 with
    | some C'=>PySem.W.kitOne K (.ref C) (.ref C')==some (decide (p'.1=n) || ups.contains p'.1)
    | none=>false)=true:=fun n ups C hn xn=>by
  have z:=List.all_eq_true.mp h (n,ups) (zdK hn)
  dsimp only at z
  rw [zfR xn]at z
  exact z
 refine⟨fun n ups C hn xn=>?_,fun n ups C hn xn c C' hc xc=>?_,fun n ups C hn xn=>?_⟩
 ·have z:=one n ups C hn xn
  simp only [Bool.and_eq_true]at z
  refine⟨zuF z.1.1.1,fun f hf=>?_⟩
  exact beq_iff_eq.mp (List.all_eq_true.mp z.1.1.2 f hf)
 ·have z:=one n ups C hn xn
  simp only [Bool.and_eq_true]at z
  obtain⟨ups',hu'⟩:=Option.isSome_iff_exists.mp hc
  have y:=List.all_eq_true.mp z.2 (c,ups') (zdK hu')
  dsimp only at y
  rw [zfR xc]at y
  exact beq_iff_eq.mp y
 ·have z:=one n ups C hn xn
  simp only [Bool.and_eq_true]at z
  exact beq_iff_eq.mp z.1.2
structure XCal (P:Program) (w:World) (K:PySem.W.Frag) (mg:Str->Option Value) (base:Heap) (x:Str) (C:Addr) (f:Str):Prop where
 xn:XN K x C
 cl:XC K C
 na:zcW K C f
 mg_:mg x=some (.ref C)
 kp:PySem.W.keepIn K (.ref C)=true
 ini:∃ i fd,PySem.W.findIn K (.ref C) "__init__"=some (some (.ref i))/\PySem.W.isFn K (.ref i)=true/\zcX K fd ["self",f] []/\FnOk P w K mg base CX0 1 i fd ["self",f] (spI K f)
structure XCal0 (K:PySem.W.Frag) (mg:Str->Option Value) (x:Str) (C:Addr):Prop where
 xn:XN K x C
 cl:XC K C
 mg_:mg x=some (.ref C)
 kp:PySem.W.keepIn K (.ref C)=true
 hi:PySem.W.findIn K (.ref C) "__init__"=some (some (.builtin "ValueError.__init__"))
section
variable {X:Cx} {K:PySem.W.Frag} {C:Addr} {x f:Str} {p pos:Pos} {e:Expr} {es:List Expr} {t:TA} {ta:TE}
theorem zdy(hm:X.mg x=some (.ref C))(hg:Gl X x)(hdb:(x==("__debug__":Str))=false:=by decide):Wr (PE X (.Name x pos) (tC (.ref C))):=⟨zjJ hg hm rfl hdb⟩
theorem zms(K:PySem.W.Frag)(hK:X.K=K)(he:Wr (PE X e ta))(hb:attributeBase e f X.env (eval e X.env)=eval e X.env):Wr (PE X (.Attribute e f pos) (tUn (zp3 K f) ta)):=hK▸⟨zn8 he.run hb⟩
end
abbrev RX(α:Type):=(α×En) ⊕ (D×En)
abbrev MX:=En->Option (RX Ar)
abbrev MXA:=En->Option (RX (List Ar))
def lft{α:Type}(m:En->Option (RX α)):En->Option (α×En):=fun ρ=>(m ρ).bind fun r=>match r with | .inl p=>some p | .inr _=>none
def XOk(K:PySem.W.Frag)(EX:EXT)(ρ:En)(σ:St)(H:Hp)(x:D)(ρ':En):Prop:=∀ a H',Go K ρ σ H ρ' H'->H a=none->zoh K H' a x->EX σ a H'
def VX(K:PySem.W.Frag)(EX:EXT)(t:TE)(m:MX):Prop:=VE K t (lft m)/\∀ (ρ:En) (σ:St) (H:Hp) (x:D) (ρ':En) (Q:VK),Rs K ρ σ H->m ρ=some (.inr (x,ρ'))->XOk K EX ρ σ H x ρ'->t σ H Q
section
variable {K:PySem.W.Frag} {EX:EXT} {pn:List Nat} {ρ ρ':En} {σ σ₀:St} {H H' H₀ H₁:Hp} {A:Addr->Prop}
def zv0(me:MX)(ma:MXA):MXA:=fun ρ=>(me ρ).bind fun r=>match r with
 | .inl p=>(ma p.2).bind fun r'=>match r' with
  | .inl q=>some (.inl (p.1::q.1,q.2))
  | .inr z=>some (.inr z)
 | .inr z=>some (.inr z)
def zhG(mS:ME->MS)(m:MX):MS:=fun ρ=>(m ρ).bind fun r=>match r with
 | .inl _=>mS (lft m) ρ
 | .inr z=>some (.ex z.1 z.2)
theorem ziv{t:TE}{m:MX}{tS:TE->TS}{mS:ME->MS}(h:VX K EX t m)(hF:VE K t (lft m)->VS K pn EX (tS t) (mS (lft m)))(hX:∀ D σ H,(∀ Q',t σ H Q')->tS t D σ H):VS K pn EX (tS t) (zhG mS m):=by
 intro σ₀ A H₀ H₁ ρ σ H f D s e k
 obtain⟨r2,e2,e1⟩:=bind_some e
 cases r2 with
 | inl p=>exact hF h.1 σ₀ A H₀ H₁ ρ σ H f D s e1 k
 | inr z =>
  cases e1
  exact hX D σ H fun Q'=>h.2 ρ σ H z.1 z.2 Q' s.rs e2 fun a H' g hn fl=>k a σ H' (s.go g) (s.dm a hn) fl
theorem zoR{i:Nat}{t:TE}{m:MX}(hi:i∉pn)(h:VX K EX t m):VS K pn EX (zgK t (zel i)) (zhG (zO i) m):=ziv (tS:=fun t=>zgK t (zel i)) (mS:=zO i) h (zG hi) fun D σ H z=>z _
theorem zmt{t:TE}{m:MX}(h:VX K EX t m):VS K pn EX (zh4 t) (zhG zbt m):=ziv (tS:=zh4) (mS:=zbt) h zb0 fun D σ H z=>z _
def VRz(K:PySem.W.Frag)(te:TE)(m:En->Option (D×En)):Prop:=∀ (ρ:En) (σ:St) (H:Hp) (x:D) (ρ':En) (Q:VK),Rs K ρ σ H->m ρ=some (x,ρ') ->
 (∀ a H',Go K ρ σ H ρ' H'->H a=none->(∃ C d,H' a=some (zfz a C d none)/\XC K C)->zoh K H' a x->Q (.ref a) H')->te σ H Q
def zff(m:En->Option (D×En)):MS:=fun ρ=>(m ρ).bind fun p=>some (.ex p.1 p.2)
theorem zfS{te:TE}{m:En->Option (D×En)}(h:VRz K te m):VS K pn EX (zje K EX te) (zff m):=by
 intro σ₀ A H₀ H₁ ρ σ H f D s e k
 obtain⟨⟨x,ρ1⟩,e1,e⟩:=bind_some e
 cases e
 exact h ρ σ H x ρ1 _ s.rs e1 fun a H' g hn ⟨C,d,ha,xc⟩ fl=>⟨a,C,d,rfl,ha,xc,k a σ H' (s.go g) (s.dm a hn) fl⟩
def mXR(n f:Str)(ma:MA):En->Option (D×En):=fun ρ=>(ma ρ).bind fun p=>(za2 p.2 p.1).bind fun us=>(zcF us).bind fun ds=>match ds with
 | [x]=>some (.dict [(.none,.str n),(.str f,x)],p.2)
 | _=>none
theorem zhH{C:Addr}{E:XK}{n f:Str}{t:TA}{m:MA}(xn:XN K n C)(c:XC K C)(na:zcW K C f)(h:VAs K t m):VRz K (zjc C (zrm K f) E t) (mXR n f m):=by
 intro ρ σ H x ρ' Q rs e q
 obtain⟨⟨as,ρ1⟩,e1,e⟩:=bind_some e
 obtain⟨us,eu,e⟩:=bind_some e
 obtain⟨ds,ed,e⟩:=bind_some e
 split at e
 rotate_left
 ·cases e
 rename_i x
 cases e
 refine h ρ σ H as ρ1 _ rs e1 fun vs H1 g1 s1=>?_
 have df:=zjj (s1.rpl rs g1 eu) ed
 generalize eq:[x]=ys at df
 cases df with
 | nil=>cases eq
 | @cons v d vs' ds' hd t' =>
  cases eq
  cases t'
  refine⟨by show 1<=1000; decide,fun a p ha=>⟨a,C,p,v,rfl,zA,c,na,fun dx od hdx ne=>⟨rfl,?_⟩⟩⟩
  have hdx1:H1 dx=none:=by rw [zz ne]at hdx; exact hdx
  have sm:zbg H1 (upd (upd (upd H1 a (zjb a C p)) dx (.frz od (.xd [(f,v)]))) a (zfz a C (some dx) none)):=fun b o hb=>by
   rw [zz (zX hb ha),zz (zX hb hdx1),zz (zX hb ha)]
   exact hb
  refine q a _ (g1.trans (Go.grow g1.rs sm)) (g1.dm a ha) ⟨C,some dx,zA,c⟩ ?_
  exact⟨n,C,[(f,v)],_,rfl,⟨some dx,none,zA,(fun T z=>nomatch z),.inr ⟨od,dx,rfl,by rw [zz ne,zA]⟩⟩,xn,.cons (hd.kp sm.kp) .nil⟩
def zsc(n:Str):En->Option (D×En):=fun ρ=>some (.dict [(.none,.str n)],ρ)
theorem zmu{C:Addr}{n:Str}(xn:XN K n C)(c:XC K C):VRz K (zga C) (zsc n):=by
 intro ρ σ H x ρ' Q rs e q
 cases e
 intro a ha
 have sm:zbg H (upd H a (zfz a C none none)):=fun b o hb=>by rw [zz (zX hb ha)]; exact hb
 exact q a _ (Go.grow rs sm) ha ⟨C,none,zA,c⟩ ⟨n,C,[],_,rfl,⟨none,none,zA,(fun T z=>nomatch z),.inl ⟨rfl,rfl⟩⟩,xn,.nil⟩
theorem Rs.mv{a:Addr}(r:Rs K ρ σ H)(ea:∃ φ,H a=some (.ext φ))(k:∀ b o,b≠a->H b=some o->H' b=some o):Rs K ρ σ H'/\Kp H H':=by
 obtain⟨φ,ea⟩:=ea
 have kp:Kp H H':=⟨fun b xs h=>k b _ (fun z=>by rw [z,ea]at h; cases h) h,fun b ob u h=>k b _ (fun z=>by rw [z,ea]at h; cases h) h⟩
 refine⟨⟨r.len,fun i u e=>?_,r.apart⟩,kp⟩
 obtain⟨v,ev,p⟩:=r.rep i u e
 refine⟨v,ev,p.kp kp fun o b c eb hb=>?_⟩
 obtain⟨b',c',eb',hb',m⟩:=p.own o
 rw [eb]at eb'
 cases eb'
 rw [hb]at hb'
 cases hb'
 exact k b c (fun z=>by rw [z,ea]at hb; cases hb; exact m) hb
theorem Sn.mv{a:Addr}(s:Sn K pn σ₀ A H₀ H₁ ρ σ H)(hn:H₀ a=none)(ea:∃ φ,H a=some (.ext φ))(k:∀ b o,b≠a->H b=some o->H' b=some o)(dm:∀ b,H' b=none->H b=none):Sn K pn σ₀ A H₀ H₁ ρ σ H':=by
 obtain⟨r,kp⟩:=s.rs.mv ea k
 exact⟨r,fun b o h n=>k b o (fun z=>by rw [z,hn]at h; cases h) (s.fr b o h n),s.ow,s.pin,fun b h=>s.dm b (dm b h),s.kp.trans kp⟩
theorem zhv.ext{a C:Addr}{fs:List (Str×V)}(f:zhv H a C fs):∃ φ,H a=some (.ext φ):=by
 obtain⟨d,tb,ea,_⟩:=f
 exact⟨_,ea⟩
theorem Sn.clear{i:Nat}(s:Sn K pn σ₀ A H₀ H₁ ρ σ H)(hi:i∉pn):Sn K pn σ₀ A H₀ H₁ (ρ.set i none) (σ.set i none) H:=by
 have inv:∀ (j:Nat) (w:U),(ρ.set i none)[j]?=some (some w)->j≠i/\ρ[j]?=some (some w):=fun j w e=>by
  by_cases hj:i=j
  ·subst hj
   have hl:=(List.getElem?_eq_some_iff.mp e).1
   rw [List.length_set]at hl
   rw [List.getElem?_set_self hl]at e
   cases e
  ·rw [List.getElem?_set_ne hj]at e
   exact⟨Ne.symm hj,e⟩
 have sat:∀ j,j≠i->(σ.set i none)[j]?=σ[j]?:=fun j h=>List.getElem?_set_ne (Ne.symm h)
 refine⟨⟨by rw [List.length_set,List.length_set]; exact s.rs.len,fun j w e=>?_,fun j k x y ej ek ox oy es=>?_⟩,s.fr,fun j w a e o es=>?_,fun j hj=>?_,s.dm,s.kp⟩
 ·obtain⟨hj,e'⟩:=inv j w e
  rw [sat j hj]
  exact s.rs.rep j w e'
 ·obtain⟨hj,ej'⟩:=inv j x ej
  obtain⟨hk,ek'⟩:=inv k y ek
  rw [sat j hj,sat k hk]at es
  exact s.rs.apart j k x y ej' ek' ox oy es
 ·obtain⟨hj,e'⟩:=inv j w e
  rw [sat j hj]at es
  exact s.ow j w a e' o es
 ·rw [sat j (fun z=>hi (z▸hj))]
  exact s.pin j hj
def XM(K:PySem.W.Frag)(tab:List (Str×List Str))(c:Str)(C':Addr):Prop:=∀ n ups C,tab.lookup n=some ups->XN K n C->ups.contains c=true->XC K C/\PySem.W.mroIn K C (.ref C')=some true
def clr(i:Nat):Fl->Option Fl
 | .nx ρ=>some (.nx (ρ.set i none))
 | .bk ρ=>some (.bk (ρ.set i none))
 | .ct ρ=>some (.ct (ρ.set i none))
 | .rt u ρ=>some (.rt u ρ)
 | .ex _ _=>none
def under(tab:List (Str×List Str))(c:Str):D->Bool
 | .dict ((.none,.str n)::_)=>match tab.lookup n with | some ups=>ups.contains c | none=>false
 | _=>false
def zsd(tab:List (Str×List Str))(c:Str)(i:Nat)(mb mh:MS):MS:=fun ρ=>(mb ρ).bind fun f=>match f with
 | .ex x ρ'=>if under tab c x=true then(mh (ρ'.set i (some (.d x)))).bind (clr i)else none
 | f=>some f
theorem zuH{tab:List (Str×List Str)}{c:Str}{C':Addr}{i:Nat}{tb:EXT->TS}{th:TS}{mb mh:MS}(T:XM K tab c C')(hi:i∉pn)(hb:∀ EX,VS K pn EX (tb EX) mb)(hh:VS K pn EX0 th mh):VS K pn EX (zro K C' i tb th) (zsd tab c i mb mh):=by
 intro σ₀ A H₀ H₁ ρ σ H f D s e k
 obtain⟨f1,e1,e⟩:=bind_some e
 refine hb _ σ₀ A H₀ H₁ ρ σ H f1 D s e1 ?_
 cases f1 with
 | nx ρ1=>cases e; exact k
 | bk ρ1=>cases e; exact k
 | ct ρ1=>cases e; exact k
 | rt u ρ1=>cases e; exact k
 | ex x ρ1 =>
  dsimp only at e
  split at e
  rotate_left
  ·cases e
  rename_i hu
  obtain⟨f2,e2,e⟩:=bind_some e
  intro a σ1 H1 s1 hn fl
  obtain⟨n,C,fs,ds,rfl,fv,xn,t⟩:=fl
  unfold under at hu
  dsimp only at hu
  cases hl:tab.lookup n with
  | none=>rw [hl]at hu; cases hu
  | some ups =>
   rw [hl]at hu
   obtain⟨xc,mr⟩:=T n ups C hl xn hu
   refine⟨C,fs,fv,xc,mr,fun H2 xv kk dm=>?_⟩
   have s2:=s1.mv hn fv.ext kk dm
   have kp:=(s1.rs.mv fv.ext kk).2
   have s3:=s2.set (i:=i) (v:=.ref a) (u:=.d (.dict ((.none,.str n)::ds))) hi (DF.exc xv xn (t.kp kp)) (fun o=>by cases o)
   refine hh σ₀ A H₀ H₁ _ _ H2 f2 _ s3 e2 ?_
   cases f2 with
   | nx ρ2=>cases e; exact fun σ4 H4 s4=>k _ _ (s4.clear hi)
   | bk ρ2=>cases e; exact fun σ4 H4 s4=>k _ _ (s4.clear hi)
   | ct ρ2=>cases e; exact fun σ4 H4 s4=>k _ _ (s4.clear hi)
   | rt u ρ2=>cases e; exact k
   | ex y ρ2=>cases e
end
abbrev FX:=List U->Option ((U×List U) ⊕ (D×List U))
def spX(K:PySem.W.Frag)(n:Nat)(f:FX):Sp:=fun vs H Q E=>∃ us r,us.length=n/\Rs K (sm us) (smV vs) H/\f us=some r/\match r with
 | .inl o=>∀ v H',Go K (sm us) (smV vs) H (sm o.2) H'->Rp K H' v o.1->Nw H v o.1->Q v H'
 | .inr o=>∀ a H',Go K (sm us) (smV vs) H (sm o.2) H'->H a=none->zoh K H' a o.1->E (.ref a) none H'
structure CalX (P:Program) (w:World) (K:PySem.W.Frag) (mg:Str->Option Value) (base:Heap) (x:Str) (k:Nat) (ps:List Str) (sp:Sp):Prop where
 ex:∃ (f:Addr) (fd:FuncData),FnOk P w K mg base (CXv P w) k f fd ps sp/\zcX K fd ps []/\PySem.W.keepIn K (.ref f)=true/\mg x=some (.ref f)
section
variable {X:Cx} {EX:EXT} {k:Nat} {ps:List Str} {sp:Sp} {x:Str} {p pos:Pos} {e:Expr} {es:List Expr} {t:TA}
theorem zmv(C:CalX X.prog X.w X.K X.mg X.base x k ps sp)(hr:Room k X.A)(hg:Gl X x)(hx:zeH X EX)(ha:Wr (PA X (e::es) t))(hdb:(x==("__debug__":Str))=false:=by decide)
  (he:zac e=true:=by rfl) (hpl:es.all zac=true:=by rfl):Wr (PE X (.Call (.Name x p) (e::es) [] pos) (zjg sp EX t)):=by
 obtain⟨f,fd,F,hb,hk,hm⟩:=C.ex
 exact⟨zl6 F hr hg hm hk hb hx ha.run hdb (zb9 he) (zcn hpl)⟩
end
section
variable {K:PySem.W.Frag} {EX:EXT} {pn:List Nat} {ρ ρ':En} {σ σ₀:St} {H H' H₀ H₁:Hp} {A:Addr->Prop}
def zoS(ρ:En)(as:List Ar):(U×List U) ⊕ (D×List U)->RX Ar
 | .inl o=>.inl (.u o.1,wb ρ as o.2)
 | .inr o=>.inr (o.1,wb ρ as o.2)
def zkj(f:FX)(ma:MA):MX:=fun ρ=>(ma ρ).bind fun p=>if zdJ p.2 p.1=true then(za2 p.2 p.1).bind fun us=>(f us).bind fun o=>some (zoS p.2 p.1 o)else none
theorem zmw{n:Nat}{f:FX}{t:TA}{m:MA}(h:VAs K t m)(hn:∀ ρ as ρ',m ρ=some (as,ρ')->as.length=n):VX K EX (zjg (spX K n f) EX t) (zkj f m):=by
 refine⟨fun ρ σ H a ρ' Q rs e q=>?_,fun ρ σ H x ρ' Q rs e q=>?_⟩
 ·unfold lft at e
  obtain⟨r,e1,e⟩:=bind_some e
  obtain⟨⟨as,ρ1⟩,e2,e1⟩:=bind_some e1
  dsimp only at e1
  split at e1
  ·rename_i dj
   obtain⟨us,eu,e1⟩:=bind_some e1
   obtain⟨o,ef,e1⟩:=bind_some e1
   cases e1
   cases o with
   | inr o=>cases e
   | inl o =>
    cases e
    refine h ρ σ H as ρ1 _ rs e2 fun vs H1 g1 s1=>?_
    obtain⟨rsA,back⟩:=zjn rs g1 s1 dj eu
    exact⟨us,.inl o,by rw [zdx eu]; exact hn _ _ _ e2,rsA,ef,fun v H2 g2 p n2=>q v H2 (back o.2 H2 g2) ⟨p,n2.mono g1.dm⟩⟩
  ·cases e1
 ·obtain⟨⟨as,ρ1⟩,e2,e1⟩:=bind_some e
  dsimp only at e1
  split at e1
  ·rename_i dj
   obtain⟨us,eu,e1⟩:=bind_some e1
   obtain⟨o,ef,e1⟩:=bind_some e1
   cases o with
   | inl o=>cases e1
   | inr o =>
    cases e1
    refine h ρ σ H as ρ1 _ rs e2 fun vs H1 g1 s1=>?_
    obtain⟨rsA,back⟩:=zjn rs g1 s1 dj eu
    exact⟨us,.inr o,by rw [zdx eu]; exact hn _ _ _ e2,rsA,ef,fun a H2 g2 hn fl=>⟨a,rfl,q a H2 (back o.2 H2 g2) (g1.dm a hn) fl⟩⟩
  ·cases e1
def zkk(pn:List Nat)(us:List U):Fl->Option ((U×List U) ⊕ (D×List U))
 | .rt u ρ=>(zas pn ρ 0 us).bind fun os=>some (.inl (u,os))
 | .nx ρ=>(zas pn ρ 0 us).bind fun os=>some (.inl (.d .none,os))
 | .ex x ρ=>(zas pn ρ 0 us).bind fun os=>some (.inr (x,os))
 | _=>none
def zoT(n:Nat)(pn:List Nat)(m:MS):FX:=fun us=>(m (sm us++List.replicate (n - us.length) none)).bind (zkk pn us)
theorem Fun.okX{P:Program}{w:World}{mg:Str->Option Value}{base:Heap}{x qual:Str}{st:Stmt}{f:Addr}{fd:FuncData}{N ps:List Str}{k n nn:Nat}{m:MS}(F:Fun K x qual st f fd)(S:FnScope N ps (zo st))(hps:ps.length=n)(hN:N.length=nn)(hnn:n<=nn)
  (hbody:∀ (cdv:Value) (A:Around) (outer:List Env) (s:Shared) (H:Hp) (E:XK),Room k (A.deeper (envOfC qual (zo st) s.heap.objs.size f cdv))->zeH (zfv (CXv P w) P w K mg base N qual (zo st) f cdv A outer s H E) (EXd E) ->
   ∃ t,Wr (PSs (zfv (CXv P w) P w K mg base N qual (zo st) f cdv A outer s H E) (zK st) t)/\VS K pn (EXd E) t m):FnOk P w K mg base (CXv P w) (k+1) f fd ps (spX K n (zoT nn pn m)):=by
 obtain⟨oc,od,kV,doc,pm,an,cdv,ct,osl,rfl,lk,hcd⟩:=F.ex
 refine zpQ lk hcd S (fun vs H Q E h=>?_) fun A outer s H vs Q E hr h=>?_
 ·obtain⟨us,r,hl,rs,_⟩:=h
  have:=rs.len
  unfold sm smV at this
  simp at this
  omega
 obtain⟨us,r,hl,rs,ef,q⟩:=h
 obtain⟨t,wt,vt⟩:=hbody cdv A outer s H E hr ztT
 refine⟨t,wt.run,?_⟩
 obtain⟨fl,em,ef⟩:=bind_some ef
 have go:∀ (ρ':En) (outs:List U),zas pn ρ' 0 us=some outs->Sn K pn (za9 N vs) (Ow (sm us) (smV vs)) H H (sm us++List.replicate (N.length - us.length) none) (za9 N vs) H:=fun ρ' outs ho=>zgf rs (by omega) ho
 subst hN
 cases fl with
 | nx ρ' =>
  obtain⟨os,eo,ef⟩:=bind_some (show(zas pn ρ' 0 us).bind _=_ from ef)
  cases ef
  refine vt _ _ _ _ _ _ _ (.nx ρ') _ (go ρ' _ eo) em fun σ' H' s'=>?_
  exact q _ _ (zex rs s' eo) .non Nw.data
 | rt u ρ' =>
  obtain⟨os,eo,ef⟩:=bind_some (show(zas pn ρ' 0 us).bind _=_ from ef)
  cases ef
  refine vt _ _ _ _ _ _ _ (.rt u ρ') _ (go ρ' _ eo) em fun v σ' H' s' p n'=>?_
  exact q _ _ (zex rs s' eo) p n'
 | ex x ρ' =>
  obtain⟨os,eo,ef⟩:=bind_some (show(zas pn ρ' 0 us).bind _=_ from ef)
  cases ef
  refine vt _ _ _ _ _ _ _ (.ex x ρ') _ (go ρ' _ eo) em fun a σ' H' s' hn fl=>?_
  obtain⟨n,C,fs,ds,rfl,fv,xn,t⟩:=fl
  refine⟨C,fs,fv,fun H2 fv2 kk dm=>?_⟩
  exact q a H2 (zex rs (s'.mv hn fv.ext kk dm) eo) hn ⟨n,C,fs,ds,rfl,fv2,xn,t.kp (s'.rs.mv fv.ext kk).2⟩
 | bk=>cases ef
 | ct=>cases ef
end
theorem zuI{P:Program}{w:World}{K:PySem.W.Frag}{mg:Str->Option Value}{base:Heap}{k:Nat}{i:Addr}{fd:FuncData}{f:Str}(F:FnOk P w K mg base CX0 k i fd ["self",f] (spI K f)):FnOk P w K mg base CX0 k i fd ["self",f] (zrm K f):=by
 refine⟨fun vs H Q E h=>by obtain⟨a,C,p,v,rfl,_⟩:=h; rfl,fun A outer s H args us vs Q E hr e0 hb r h=>?_⟩
 obtain⟨a,C,p,v,rfl,ea,xc,na,q⟩:=h
 refine codeAny_mono (F.run A outer s H args us [.ref a,v] (fun v' H'=>v'=.non/\∃ dx ox od,H dx=none/\dx≠a/\ox={ zeu C p with dict:=some dx }/\H'=upd (upd H dx (.frz od (.xd [(f,v)]))) a (.frz ox (.own 0))) E hr e0 hb r
  ⟨a,C,p,v,rfl,ea,xc,na,fun dx ox od h1 h2 h3 h4 h5 h6=>⟨rfl,dx,ox,od,h1,h2,h6,rfl⟩⟩) fun r s' z=>?_
 cases r with
 | error e=>exact z.elim
 | ok fl =>
  cases fl with
  | ret u =>
   obtain⟨v',H',os,bare,un,hok,rv,rfl,dx,ox,od,h1,h2,h3,rfl⟩:=z
   obtain⟨ha,_⟩:=hok a _ zA
   subst h3
   obtain⟨un2,hok2⟩:=zob (u:=zfz a C (some dx) none) un hok ea zA (fun _ z=>nomatch z) (fun _ z=>nomatch z) (zhw ⟨_,_,ha,rfl,rfl,rfl,rfl,fun _=>⟨p,rfl⟩⟩)
   rw [znp]at un2 hok2
   exact⟨.non,_,os,bare,un2,hok2,rv,q dx od h1 h2⟩
  | next=>exact z.elim
  | brk=>exact z.elim
  | cont=>exact z.elim
section
variable {X:Cx} {K:PySem.W.Frag} {C:Addr} {x f:Str} {p pos:Pos} {e:Expr} {es:List Expr} {t:TA} {te:TE} {EX:EXT}
theorem zgj(c:XCal X.prog X.w X.K X.mg X.base x C f)(hr:Room 2 X.A)(hg:Gl X x)(ha:Wr (PA X (e::es) t))(hdb:(x==("__debug__":Str))=false:=by decide)
  (he:zac e=true:=by rfl) (hpl:es.all zac=true:=by rfl):Wr (PE X (.Call (.Name x p) (e::es) [] pos) (zjc C (zrm X.K f) E0 t)):=by
 obtain⟨i,fd,h1,h2,h3,h4⟩:=c.ini
 exact⟨zl4 c.cl h1 h2 c.kp (zuI h4) hr hg c.mg_ h3 zlQ ha.run hdb (zb9 he) (zcn hpl)⟩
theorem zk4(c:XCal0 X.K X.mg x C)(hg:Gl X x)(hdb:(x==("__debug__":Str))=false:=by decide):Wr (PE X (.Call (.Name x p) [] [] pos) (zga C)):=⟨zjf c.cl c.hi c.kp hg c.mg_ hdb⟩
theorem zfT(K:PySem.W.Frag)(hK:X.K=K){k:Nat}(hr:Room k X.A)(hx:zeH X EX)(he:Wr (PE X e te)):Wr (PS X (.Raise (some e) none pos) (zje K EX te)):=hK▸⟨zl5 hx hr.hd he.run⟩
theorem zuJ{i:Nat}{n cls:Str}{C':Addr}{body suite:List Stmt}{b₀:Stmt}{tb:EXT->TS}{th:TS}{np hpos:Pos}{outer:List Env}(K:PySem.W.Frag)(hK:X.K=K)(hst:X.stack=X.env::outer)(hf:X.env.frame=some X.env.locals)(hN:X.N.Nodup)(hi:X.N[i]?=some n)(hl:X.env.scope.names.lookup n=some .local)(hg:Gl X cls)(hm:X.mg cls=some (.ref C'))(hC':XC K C')
  (hb:∀ (pn:List (Addr×Obj)) (E:Value->Shared->Prop) (EX:EXT),zeH (X.body pn E) EX->Wr (PSs (X.body pn E) body (tb EX)))
  (hs:∀ a,Wr (PSs (X.held a) (b₀::suite) th)) (hdb:(cls==("__debug__":Str))=false:=by decide) :
  Wr (PS X (.Try body [.ExceptHandler (some (.Name cls np)) (some n) (b₀::suite) hpos] [] [] pos) (zro K C' i tb th)):=by
 subst hK
 exact⟨zrp hst hf hN hi hl hg hm hC' (fun pn E EX h=>(hb pn E EX h).run) (fun a=>(hs a).run) hdb⟩
end
def zse(K:PySem.W.Frag)(tab:List (Str×List Str))(c:Str):Bool:=match zju K c with
 | some C'=>tab.all fun p=>!p.2.contains c || (match zju K p.1 with
  | some C=>zoP K C && PySem.W.findIn K (.ref C) "__getattribute__"==some (some (.builtin "BaseException.__getattribute__")) && PySem.W.findIn K (.ref C) "__getattr__"==some none && PySem.W.findIn K (.ref C) "__setattr__"==some (some (.builtin "object.__setattr__")) && PySem.W.mroIn K C (.ref C')==some true
  | none=>false)
 | none=>false
theorem zuK{K:PySem.W.Frag}{tab:List (Str×List Str)}{c:Str}{C':Addr}(h:zse K tab c=true)(xn:XN K c C'):XM K tab c C':=by
 intro n ups C hl xc hu
 unfold zse at h
 rw [zfR xn]at h
 have z:=List.all_eq_true.mp h (n,ups) (zdK hl)
 dsimp only at z
 rw [hu,zfR xc]at z
 simp only [Bool.not_true,Bool.false_or,Bool.and_eq_true,beq_iff_eq]at z
 obtain⟨⟨⟨⟨h1,h2⟩,h3⟩,h4⟩,h5⟩:=z
 exact⟨⟨zp5 h1,h2,h3,h4⟩,h5⟩
def tyD:D->Option String
 | .none=>some "NoneType"
 | .bool _=>some "bool"
 | .int _=>some "int"
 | .str _=>some "str"
 | .tuple _=>some "tuple"
 | _=>none
def tyU:U->Option String
 | .d x=>tyD x
 | .l _=>some "list"
 | _=>none
def isT(t T:String):Bool:=t==T || (t == "bool" && T == "int")
def zmx:List String:=["NoneType", "bool", "int", "str", "tuple", "list"]
theorem zoU(K:PySem.W.Frag):∀ t∈zmx,∀ T∈["int", "bool", "str", "tuple", "list"],PySem.W.kitOne K (.type t) (.type T)=some (isT t T):=by
 have hm:∀ T∈["int", "bool", "str", "tuple", "list"],PySem.W.kitMeta T=true:=by decide +kernel
 have hs:∀ t∈zmx,∀ T∈["int", "bool", "str", "tuple", "list"],(PySem.fastBuiltinMro t).map (·.contains (Value.type T))=some (isT t T):=by decide +kernel
 intro t ht T hT
 unfold PySem.W.kitOne
 split
 ·rename_i q
  have e:t=T:=Value.type.inj (beq_iff_eq.mp q)
  subst e
  unfold isT
  simp
 ·unfold PySem.W.kitCls PySem.W.subIn
  simp only [hm T hT,if_true]
  exact hs t ht T hT
def zcv(T:String)(u:U):Option U:=(tyU u).bind fun t=>if t∈zmx/\T∈["int", "bool", "str", "tuple", "list"]then some (.d (.bool (isT t T)))else none
section
variable {K:PySem.W.Frag}
theorem zsf{H:Hp}{v:V}{u:U}{t:String}(h:Rp K H v u)(e:tyU u=some t):TyOf K H v (.type t):=by
 cases u with
 | d x =>
  cases x with
  | none=>cases e; cases h; exact .non
  | bool b=>cases e; cases DF.bl_inv h; exact .bl _
  | int i=>cases e; cases DF.int_inv h; exact .int _
  | str x=>cases e; cases DF.str_inv h; exact .str _
  | tuple ds=>cases e; obtain⟨a,ys,rfl,h1,_⟩:=DF.tup_inv h; exact .tup h1
  | list ds=>cases e
  | dict ds=>cases e
 | l xs=>cases e; obtain⟨a,us,rfl,h1,_⟩:=h; exact .lst h1
 | t kvs=>cases e
 | k kvs=>cases e
theorem zdz{T:String}{te:TE}{me:ME}(h:VE K te me):VE K (tCB (zrf K) (zcb te (zcb (tC (.ty T)) zes))) (mUn (zcv T) me):=by
 intro ρ σ H a ρ' Q rs e q
 obtain⟨⟨a1,ρ1⟩,e1,e⟩:=bind_some e
 obtain⟨x,ex,e⟩:=bind_some e
 obtain⟨u,eu,e⟩:=bind_some e
 cases e
 refine h ρ σ H a1 _ _ rs e1 fun v1 H1 g1 k1=>?_
 have p:=k1.now rs g1 ex
 unfold zcv at eu
 obtain⟨t,et,eu⟩:=bind_some eu
 split at eu
 ·rename_i hc
  cases eu
  exact⟨v1,.type t,T,_,rfl,zsf p et,zoU K t hc.1 T hc.2,q _ _ g1 ⟨DF.bl _,Nw.data⟩⟩
 ·cases eu
def zmy(x:D)(ds:List D):Option Bool:=(flD x).bind fun w=>(ds.mapM flD).bind fun ws=>some (inV w ws)
def fIn(neg:Bool)(a b:U):Option U:=match a with
 | .d x=>b.items.bind fun ds=>(zmy x ds).bind fun r=>some (.d (.bool (if neg=true then !r else r)))
 | _=>none
theorem zmz(neg:Bool):VO K (rIn K neg) (fIn neg):=by
 intro x y a b u H Q ha hb e q
 cases a with
 | d d =>
  obtain⟨ds,e1,e⟩:=bind_some (show b.items.bind _=some u from e)
  obtain⟨r,e2,e⟩:=bind_some e
  obtain⟨w,e3,e2⟩:=bind_some e2
  obtain⟨ws,e4,e2⟩:=bind_some e2
  cases e2
  cases e
  obtain⟨p,ys,rfl,sq,df⟩:=hb.items e1
  obtain⟨rfl,f1⟩:=zhF ha e3
  obtain⟨rfl,f2⟩:=zki df e4
  exact⟨p,_,rfl,sq,f1,f2,q _ _ (zbg.refl H) (by cases neg<;>exact DF.bl _) Nw.data⟩
 | _=>cases e
def blD:D->Option Bool
 | .bool b=>some b
 | _=>none
theorem zkl{H:Hp}:∀ {us:List V} {ds:List D} {bs:List Bool},DFs K H us ds->ds.mapM blD=some bs->us=bs.map V.bl
 | _,_,bs,.nil,e=>by cases e; rfl
 | _,_,bs,.cons (d:=d) h t,e=>by
  rw [List.mapM_cons]at e
  obtain⟨y,e1,e⟩:=bind_some e
  obtain⟨ys',e2,e⟩:=bind_some e
  cases e
  cases d with
  | bool x=>cases e1; cases DF.bl_inv h; rw [zkl t e2]; rfl
  | _=>cases e1
def zsg(u:U):Option U:=u.items.bind fun ds=>(ds.mapM blD).bind fun bs=>some (.d (.bool (bs.all id)))
theorem zsh:VC K (ztL K) (f1 zsg):=zjk fun v a u H Q h e q=>by
 obtain⟨ds,ex,e⟩:=bind_some e
 obtain⟨bs,eb,e⟩:=bind_some e
 cases e
 obtain⟨p,ys,rfl,s,d⟩:=h.items ex
 cases zkl d eb
 exact⟨p,bs,rfl,s,q _ _ (fun _ _ z=>z) (.bl _) Nw.data⟩
def zgk(f f':U->U->Option U)(ma mb mc:ME):ME:=fun ρ=>(ma ρ).bind fun p=>(mb p.2).bind fun q=>(p.1.get q.2).bind fun x=>(q.1.get q.2).bind fun y=>(f x y).bind fun r=>match r with
 | .d (.bool true)=>(mc q.2).bind fun s=>(q.1.get s.2).bind fun y'=>(s.1.get s.2).bind fun z=>(f' y' z).bind fun u=>some (.u u,s.2)
 | .d (.bool false)=>some (.u (.d (.bool false)),q.2)
 | _=>none
theorem zkm{r r':R2}{f f':U->U->Option U}{ta tb tc:TE}{ma mb mc:ME}(h:VO K r f)(h':VO K r' f')(ha:VE K ta ma)(hb:VE K tb mb)(hc:VE K tc mc):VE K (zf1 r r' ta tb tc) (zgk f f' ma mb mc):=by
 intro ρ σ H a ρ' Q rs e q
 obtain⟨⟨a1,ρ1⟩,e1,e⟩:=bind_some e
 obtain⟨⟨b1,ρ2⟩,e2,e⟩:=bind_some e
 obtain⟨x,ex,e⟩:=bind_some e
 obtain⟨y,ey,e⟩:=bind_some e
 obtain⟨rr,er,e⟩:=bind_some e
 refine ha ρ σ H a1 ρ1 _ rs e1 fun v1 H1 g1 k1=>hb ρ1 σ H1 b1 ρ2 _ g1.rs e2 fun v2 H2 g2 k2=>?_
 refine h _ _ x y rr H2 _ (k1.later rs g1 g2 ex) (k2.now g1.rs g2 ey) er fun v H3 s p n=>?_
 have g3:=Go.grow g2.rs s
 split at e
 ·cases DF.bl_inv p
  refine⟨true,rfl,?_⟩
  rw [if_pos rfl]
  obtain⟨⟨c1,ρ3⟩,e3,e⟩:=bind_some e
  obtain⟨y',ey',e⟩:=bind_some e
  obtain⟨z,ez,e⟩:=bind_some e
  obtain⟨u,eu,e⟩:=bind_some e
  cases e
  refine hc ρ2 σ H3 c1 _ _ g3.rs e3 fun v3 H4 g4 k4=>?_
  refine h' _ _ y' z u H4 _ (k2.later g1.rs g2 (g3.trans g4) ey') (k4.now g3.rs g4 ez) eu fun w H5 s5 p5 n5=>?_
  exact q w H5 ((((g1.trans g2).trans g3).trans g4).trans (Go.grow g4.rs s5)) ⟨p5,n5.mono fun b hb=>(g1.trans g2).dm b (g3.dm b (g4.dm b hb))⟩
 ·cases DF.bl_inv p
  cases e
  refine⟨false,rfl,?_⟩
  rw [if_neg (by decide)]
  exact q _ H3 ((g1.trans g2).trans g3) ⟨DF.bl _,Nw.data⟩
 ·cases e
def ziw:U->U->Option U
 | .d (.str z),.d (.int n)=>if 0<=n/\n<=1 then some (.d (.str (zhu z n)))else none
 | _,_=>none
theorem zoV:VO K (fun x y H Q=>∃ z n,x=.str z/\y=.int n/\0<=n/\n<=1/\Q (.str (zhu z n)) H) ziw:=by
 intro x y a b u H Q ha hb e q
 unfold ziw at e
 split at e
 ·split at e
  ·rename_i z n hc
   cases e
   exact⟨z,n,DF.str_inv ha,DF.int_inv hb,hc.1,hc.2,q _ _ (zbg.refl H) (DF.str _) Nw.data⟩
  ·cases e
 ·cases e
def zix:U->Option U
 | .d (.str z)=>if z.length<=sizeLine then some (.d (.int z.length))else none
 | _=>none
theorem zoW:VC K (fun xs H Q=>∃ z,xs=[.str z]/\z.length<=sizeLine/\Q (.int z.length) H) (f1 zix):=zjk fun v a u H Q h e q=>by
 unfold zix at e
 split at e
 ·split at e
  ·rename_i z hc
   cases e
   exact⟨z,by rw [DF.str_inv h],hc,q _ _ (zbg.refl H) (DF.int _) Nw.data⟩
  ·cases e
 ·cases e
def fS0(g:Str->Bool):U->Option U
 | .d (.str z)=>some (.d (.bool (g z)))
 | _=>none
def mM0(g:Str->Bool)(mo:ME):ME:=mUn (fS0 g) mo
def rS0(g:Str->Bool):V->List V->Hp->VK->Prop:=fun x xs H Q=>∃ z,x=.str z/\xs=[]/\Q (.bl (g z)) H
theorem zsi{g:Str->Bool}{to:TE}{mo:ME}(h:VE K to mo):VE K (zra K "str" (rS0 g) to) (mM0 g mo):=by
 intro ρ σ H a ρ' Q rs e q
 obtain⟨⟨a1,ρ1⟩,e1,e⟩:=bind_some e
 obtain⟨x,ex,e⟩:=bind_some e
 obtain⟨u,eu,e⟩:=bind_some e
 cases e
 refine h ρ σ H a1 _ _ rs e1 fun v1 H1 g1 k1=>?_
 have p:=k1.now rs g1 ex
 unfold fS0 at eu
 split at eu
 ·rename_i z
  cases eu
  cases DF.str_inv p
  exact⟨rfl,z,rfl,rfl,q _ _ g1 ⟨DF.bl _,Nw.data⟩⟩
 ·cases eu
end
section
variable {X:Cx} {K:PySem.W.Frag}
theorem zjv:MtM X "str.isascii" (rS0 Txt.isascii):=by
 intro pins s σ H x xs v us Q I rx rv h
 obtain⟨z,rfl,rfl,q⟩:=h
 obtain⟨t,rfl⟩:=rx
 cases rv
 exact PySem.SC.isascii (zae I q rfl)
theorem zjw:MtM X "str.isalpha" (rS0 Txt.isalpha):=by
 intro pins s σ H x xs v us Q I rx rv h
 obtain⟨z,rfl,rfl,q⟩:=h
 obtain⟨t,rfl⟩:=rx
 cases rv
 exact PySem.SC.isalpha (zae I q rfl)
theorem zjx:MtM X "str.islower" (rS0 Txt.islower):=by
 intro pins s σ H x xs v us Q I rx rv h
 obtain⟨z,rfl,rfl,q⟩:=h
 obtain⟨t,rfl⟩:=rx
 cases rv
 exact PySem.SC.islower (zae I q rfl)
def GTx(K:PySem.W.Frag)(g:Addr)(ws:List Str):Prop:=∃ (o:Obj) (its:Array Value) (n:Nat),K.lookup g=some o/\o.cls=.type "tuple"/\o.data=.seq its n/\its.size<=sizeLine/\zM (ws.map V.str) its.toList
theorem GTx.sq{g:Addr}{ws:List Str}{H:Hp}(h:GTx K g ws):SqT K H g (ws.map V.str):=.inr h
def zuL(K:PySem.W.Frag)(ws:List Str):R2:=fun x y H Q=>∃ g,y=.ref g/\GTx K g ws/\((zdO x=true/\Q (.bl (inV x (ws.map V.str))) H)\/∃ ds,DV K H x (.tuple ds)/\SeqAt.shaped (.tuple ds)=true/\Q (.bl false) H)
theorem zsj(K:PySem.W.Frag)(hK:X.K=K){k:Nat}(hr:Room k X.A)(ws:List Str)(hws:∀ z∈ws,(PyData.str z).canLay0=true):OpR X (compareOp .In) (zuL K ws):=by
 subst hK
 intro pins s σ H x y v u Q I rx ry h
 obtain⟨g,rfl,gw,h⟩:=h
 rcases h with ⟨fx,q⟩ | ⟨ds,dv,sh,q⟩
 ·refine zg1 pins s σ H x (.ref g) v u Q I rx ry ⟨g,_,rfl,.inr gw.sq,fx,?_,q⟩
  simp [zdO]
 ·cases ry
  obtain⟨its,r,pl,hz⟩:=I.tuple gw.sq
  obtain⟨as,ra⟩:=DV.reads I dv rx
  refine SeqAt.in_tupleAt (fun _=>false) pl (fun w hw=>?_) ⟨.bl _,H,I,rfl,?_⟩
  ·have hw':w∈its:=by simpa using hw
   obtain⟨j,hj,ej⟩:=List.getElem_of_mem hw'
   have hl:=r.length
   have hj2:j < ws.length:=by rw [List.length_map]at hl; omega
   obtain⟨u',e1,e2⟩:=r.get (i:=j) (x:=.str (ws[j]'(by rw [List.length_map]at hl; omega))) (by rw [List.getElem?_map,List.getElem?_eq_getElem (by rw [List.length_map]at hl; omega)]; rfl)
   rw [List.getElem?_eq_getElem hj,ej]at e1
   cases e1
   obtain⟨t,rfl⟩:=e2
   have z:=SeqAt.eqAt_reads (.str ws[j]) (.tuple ds) X.A.in1 s (.str ws[j] t) v [] as (Reads.str ..) ra (hws _ (List.getElem_mem _)) (SeqAt.canLay_of_shaped sh) (by
    have h1:=hr.units
    have h2:min (PyData.str ws[j]).depth (PyData.tuple ds).depth<=(PyData.str ws[j]).depth:=Nat.min_le_left _ _
    have h3:(PyData.str ws[j]).depth=0:=by simp [PyData.depth]
    have h4:X.A.in1.units<=X.A.units+1:=by simp [Around.in1]
    omega)
   rw [show PyData.eqv (.str ws[j]) (.tuple ds)=false by simp [PyData.eqv]]at z
   exact z
  ·rw [show(its.toArray.any fun _=>false)=false by simp]; exact q
def zoX(ws:List Str):U->Option U
 | .d (.tuple ds)=>if SeqAt.shaped (.tuple ds)=true then some (.d (.bool false))else none
 | .d x=>(flD x).bind fun w=>some (.d (.bool (inV w (ws.map V.str))))
 | _=>none
theorem zuM{g:Addr}{ws:List Str}{te:TE}{me:ME}(gw:GTx K g ws)(h:VE K te me):VE K (tOp (zuL K ws) te (tC (.ref g))) (mUn (zoX ws) me):=by
 intro ρ σ H a ρ' Q rs e q
 obtain⟨⟨a1,ρ1⟩,e1,e⟩:=bind_some e
 obtain⟨x,ex,e⟩:=bind_some e
 obtain⟨u,eu,e⟩:=bind_some e
 cases e
 refine h ρ σ H a1 _ _ rs e1 fun v1 H1 g1 k1=>?_
 have p:=k1.now rs g1 ex
 refine⟨g,rfl,gw,?_⟩
 unfold zoX at eu
 split at eu
 ·rename_i ds
  split at eu
  ·rename_i hc
   cases eu
   exact .inr ⟨ds,Rp.dv (u:=.d (.tuple ds)) p rfl (zc1 _ (SeqAt.canLay_of_shaped hc)),hc,q _ _ g1 ⟨DF.bl _,Nw.data⟩⟩
  ·cases eu
 ·obtain⟨w,ew,eu⟩:=bind_some eu
  cases eu
  obtain⟨rfl,f1⟩:=zhF p ew
  exact .inl ⟨f1,q _ _ g1 ⟨DF.bl _,Nw.data⟩⟩
 ·cases eu
end
def zgP(ks:List Key)(i:Nat)(k:Key):Bool:=(ks.take i).any fun x=>decide (x=k)
def zcd(ks:List Key):Nat->Nat
 | 0=>0
 | i+1=>match ks[i]? with
  | some k=>if zgP ks i k=true then zcd ks i else zcd ks i+1
  | none=>zcd ks i
theorem zhI(ks:List Key):∀ i,zcd ks i<=i
 | 0=>Nat.le_refl _
 | i+1=>by
  have:=zhI ks i
  unfold zcd
  split
  ·split<;>omega
  ·omega
section
variable {prog:Program} {w:World} {A:Around} {R:Result->Shared->Prop} {I:Addr} {fp wr:List Addr} {G:Array GenState->Array GenState->Prop} {ks:List Key} {P:Nat->Value->Prop} {St:Nat->Shared->Prop}
theorem ziy{kd:KeyKind prog w Key}{h h':Heap}{a:Addr}{S:Key->Bool}{n:Nat}(x:h.SetOf kd a S n)(k:∀ o,h.get? a=some o->h'.get? a=some o):h'.SetOf kd a S n :=
 let ⟨o,es,ep,t,ho,r⟩:=x
 ⟨o,es,ep,t,k o ho,r⟩
theorem zmA{kd:KeyKind prog w Key}{h:Heap}{a:Addr}{S S':Key->Bool}{n n':Nat}(x:h.SetOf kd a S n)(e:∀ k,S k=S' k)(en:n=n'):h.SetOf kd a S' n':=by
 cases funext e
 cases en
 exact x
theorem zmB(W:WalksS prog w A.in1 I fp wr G ks.length P St)(S:Addr)(hSf:S∉fp)(hv:∀ i v,P i v->∃ k,ks[i]?=some k/\zfl k v=true/\v.scannable=true)(hb:ks.length+1 < scanBound) :
  ∀ (m i:Nat) (s:Shared),i+m=ks.length->St i s->s.heap.SetOf (zcP prog w) S (zgP ks i) (zcd ks i) ->
   (∀ s',Moved (S::wr) G s s'->s'.heap.SetOf (zcP prog w) S (zgP ks ks.length) (zcd ks ks.length)->R (.ok (.ret .none)) s')->codeAny (model prog w) A (.builtin "set.update.loop" ⟨[.ref S,.ref I],[]⟩) R s:=by
 have nw:S∉wr:=fun z=>hSf (W.sub _ z)
 have up:∀ b∈wr,b∈S::wr:=fun b=>List.mem_cons_of_mem _
 intro m
 induction m with
 | zero =>
  intro i s hi st hS hR
  cases(show i=ks.length by omega)
  refine codeAny_builtin PyProof.Rows.F.entry_set_update_loop ?_
  rw [Around.under_plainId PyProof.Rows.F.plain_set_update_loop _]
  show wpAny _ A.in1 (pyNext (.ref I) >>= _) _ _ s
  exact wpAny_bind (W.done s _ _ st fun s1 mv=>wpAny_pure (hR s1 (mv.mono up) (ziy hS fun o e=>mv.heap S o nw e)))
 | succ m ih =>
  intro i s hi st hS hR
  refine codeAny_builtin PyProof.Rows.F.entry_set_update_loop ?_
  rw [Around.under_plainId PyProof.Rows.F.plain_set_update_loop _]
  show wpAny _ A.in1 (pyNext (.ref I) >>= _) _ _ s
  refine wpAny_bind (W.item i s _ _ (by omega) st fun v s1 hP st1 mv=>?_)
  obtain⟨k,ek,kv,sc⟩:=hv i v hP
  have hS1:=ziy hS fun o e=>mv.heap S o nw e
  show wpAny _ A.in1 (holding [v] (setAdd S v) >>= _) _ _ s1
  refine wpAny_bind (wpAny_holding ?_)
  unfold setAdd
  refine wpAny_holding (wpAny_bind ((zcP prog w).pyHash (k:=k) kv ?_))
  have room:zcd ks i+1 < scanBound:=by have:=zhI ks i; omega
  refine wpAny_setAddHashed_of (knd:=zcP prog w) (s:={ s1 with toks:=s1.toks+1 }) kv sc hS1 room fun h2 sb hS2=>?_
  have et:ks.take (i+1)=ks.take i++[k]:=by rw [List.take_add_one,ek]; rfl
  have hS3:=zmA (S':=zgP ks (i+1)) (n':=zcd ks (i+1)) hS2 (fun k'=>by
   unfold zgP
   rw [et,List.any_append]
   simp [eq_comm]) (by
   show _=(match ks[i]? with | some k=>if zgP ks i k=true then zcd ks i else zcd ks i+1 | none=>zcd ks i)
   rw [ek])
  refine wpAny_pure ⟨plainId_quiet PyProof.Rows.F.plain_set_update_loop _,ih (i+1) _ (by omega) (W.frame _ s1 _ _ st1 (Nat.le_succ _) fun b hb o e=>?_) hS3 fun s2 mv2 hS4=>?_⟩
  ·exact(sb.2 b fun z:b=S=>hSf (z▸hb)).trans e
  ·refine hR s2 (Moved.trans W.gtrans ((mv.mono up).then_heap (Nat.le_succ _) fun b o hb e=>?_) mv2) hS4
   exact(sb.2 b fun z:b=S=>hb (z▸List.mem_cons_self)).trans e
end
section
variable {prog:Program} {w:World} {A:Around} {E:Value->Shared->Prop} {s:Shared}
theorem zkn(b:String)(hb:b = "set"\/b = "frozenset"):isSubtype (.type "tuple") (.type b)=pure false:=by
 rcases hb with rfl | rfl<;>(rw [isSubtype_type]; kernel_rfl)
def zdj(led:Bool):Obj:={ cls:=.type "set",dict:=none,data:=.set #[] 0 (.fresh 0 0 led) }
theorem zhJ{a:Addr}{items:Array Value}{ks:List Key}{Q:Value->Shared->Prop}(hh:A.handled=none)(ht:IsTup s.heap a items)(hk:∀ (i:Nat) (v:Value),items[i]?=some v->∃ k,ks[i]?=some k/\zfl k v=true/\v.scannable=true)(hz:items.size=ks.length)(hb:ks.length+1 < scanBound)
  (h:∀ (h':Heap) (tk:Nat),h'.SetOf (zcP prog w) s.heap.objs.size (zgP ks ks.length) (zcd ks ks.length)->(∀ b o,s.heap.get? b=some o->h'.get? b=some o)->Q (.ref s.heap.objs.size) { s with heap:=h',toks:=tk }) :
  wpAny (model prog w) A (call (.type "set") [.ref a]) Q E s:=by
 obtain⟨c,tl,hmro⟩:=PySem.F.called_set.mro
 have m1:=PySem.F.called_set.made
 have m2:=PySem.F.called_set.sub
 have m3:=PySem.F.called_set.notType
 have m4:=PySem.F.called_set.canCreate
 have m5:=PySem.F.typeCall_set_1 (.ref a)
 have htl:s.heap.IsTuple a items:=ht
 obtain⟨⟨oc,od,odt,osl⟩,ho,hc,n,hd⟩:=id htl
 have hlt:a < s.heap.objs.size:=Heap.lt_size ho
 refine wpAny_call (codeAny_of_tree ?_)
 show wpAny _ _ (callAny (.type "set") _) _ _ _
 refine wpAny_pure ⟨Code.quiet_builtin _ (by decide +kernel),codeAny_builtin PySem.F.entry_type_call ?_⟩
 rw [Around.under_plain (weight_type_call_type "set" [.ref a] []) rfl]
 repeat (any_goals (first | assumption | wp_step))
 refine codeAny_mono (code_set_new_1 (.ref a) (E:=E) (Q₁:=fun obj s1=>∃ led,obj=.ref s.heap.objs.size/\s1={ s with heap:=s.heap.push (zdj led) }) fun led=>⟨led,rfl,rfl⟩) fun r s1 hr=>?_
 cases r with
 | error e=>exact hr
 | ok fl =>
 cases fl with
 | next=>exact hr.elim
 | brk=>exact hr.elim
 | cont=>exact hr.elim
 | ret obj =>
 obtain⟨led,rfl,rfl⟩:=hr
 have hS:(s.heap.push (zdj led)).get? s.heap.objs.size=some (zdj led):=Heap.get?_push_size _ rfl
 have hT:Shared.TypeIs { s with heap:=s.heap.push (zdj led) } (.ref s.heap.objs.size) "set":=⟨_,hS,rfl⟩
 have n1:=PySem.F.called_set.init.lookup
 have n2:=PySem.F.called_set.init.bind (.ref s.heap.objs.size)
 repeat (any_goals (first | assumption | wp_step))
 refine codeAny_mono (codeAny_call_builtin (R:=wants (fun r s2=>r=.none/\∃ h' tk,s2={ s with heap:=h',toks:=tk }/\h'.SetOf (zcP prog w) s.heap.objs.size (zgP ks ks.length) (zcd ks ks.length)/\(∀ b o,s.heap.get? b=some o->h'.get? b=some o)) E) PySem.F.called_set.init.plain PySem.F.entry_set_init (check_set_init_1 hT ?_)) fun r s2 hr=>?_
 rotate_left
 ·cases r with
  | error e=>exact hr
  | ok fl =>
  cases fl with
  | next=>exact hr.elim
  | brk=>exact hr.elim
  | cont=>exact hr.elim
  | ret obj =>
  obtain⟨rfl,h',tk,rfl,hS',hk'⟩:=hr
  repeat (any_goals (first | assumption | wp_step))
  exact h _ _ hS' hk'
 ·dsimp only at hc hd
  subst hc hd
  have ho2:(s.heap.push (zdj led)).get? a=some ⟨.type "tuple",od,.seq items n,osl⟩:=Heap.get?_push_of_some _ ho
  have ht2:(s.heap.push (zdj led)).IsTuple a items:=⟨_,ho2,rfl,n,rfl⟩
  have s1:=zkn "set" (.inl rfl)
  have s2:=zkn "frozenset" (.inr rfl)
  have s3:(Value.type "tuple"==Value.type "dict")=false:=by decide
  unfold Builtin.«set.__init__» noKeywords Builtin.Frozenset.updateFrom
  generalize hPI:pyIter=PI
  wp_walk
  subst hPI
  refine wpAny_pyIter_tuple ht2 (wpAny_bind (wpAny_runValue ?_))
  have hsz:(s.heap.push (zdj led)).objs.size=s.heap.objs.size+1:=Heap.size_push ..
  have ne:a≠(s.heap.push (zdj led)).objs.size:=by rw [hsz]; exact Nat.ne_of_lt (Nat.lt_succ_of_lt hlt)
  have hSf:s.heap.objs.size∉[(s.heap.push (zdj led)).objs.size,a]:=by
   rw [hsz]
   simp only [List.mem_cons,List.not_mem_nil,or_false,not_or]
   exact⟨Nat.ne_of_lt (Nat.lt_succ_self _),Nat.ne_of_gt hlt⟩
  have hh3:A.in1.in1.in1.handled=none:=by simp [hh]
  have WT:=(Walks.tuple (prog:=prog) (w:=w) hh3 _ a ne items).toS
  rw [hz]at WT
  refine zmB WT s.heap.objs.size hSf hk hb ks.length 0 _ (Nat.zero_add _) ⟨⟨_,Heap.get?_push_size _ rfl,rfl,rfl⟩,?_⟩ ?_ ?_
  ·exact⟨_,Heap.get?_push_of_some _ ho2,rfl,n,rfl⟩
  ·exact⟨zdj led,#[],0,_,Heap.get?_push_of_some _ hS,⟨rfl,rfl,rfl⟩,rfl,fun e he=>by simp at he,fun k=>by simp [zgP],by show 0 < scanBound; omega,rfl,rfl⟩
  ·intro s' mv hS'
   obtain⟨h',g',d',tk',os'⟩:=s'
   cases(show g'=s.gens from mv.gens)
   cases(show d'=s.drawn from mv.drawn)
   cases(show os'=s.os from mv.os)
   refine wpAny_pure (wpAny_pure ⟨rfl,h',tk',rfl,hS',fun b o e=>?_⟩)
   have hlb:=Heap.lt_size e
   refine mv.heap b o ?_ (Heap.get?_push_of_some _ (Heap.get?_push_of_some _ e))
   simp only [List.mem_cons,List.not_mem_nil,or_false,not_or]
   rw [hsz]
   exact⟨Nat.ne_of_lt hlb,Nat.ne_of_lt (Nat.lt_succ_of_lt hlb)⟩
end
def zuN(p:Addr)(n:Nat)(h:Heap):Prop:=∃ o es ep t,h.get? p=some o/\o.ExactSet/\o.data=.set es ep t/\t.fits es.size=true/\es.size=n
def zoY(p:Addr)(n:Nat):HO:=.ext (zuN p n)
theorem zoZ{P:Program}{w:World}{H:Hp}{h:Heap}{p:Addr}{n:Nat}(x:zuN p n h):zbq P w H h p (zoY p n):=by
 obtain⟨o,es,ep,t,h1,h2⟩:=x
 exact⟨⟨o,es,ep,t,h1,h2⟩,⟨o,h1⟩,fun a b ⟨o,es,ep,t,z1,z2⟩ k=>⟨o,es,ep,t,k _ z1,z2⟩⟩
def zp6(K:PySem.W.Frag):List V->Hp->VK->Prop:=fun xs H Q=>∃ (a:Addr) (ks:List Key),xs=[.ref a]/\SqT K H a (ks.map kV)/\ks.length<=1000/\∀ p,H p=none->Q (.ref p) (upd H p (zoY p (zcd ks ks.length)))
def zp7:List V->Hp->VK->Prop:=fun xs H Q=>∃ p n,xs=[.ref p]/\H p=some (zoY p n)/\n<=1000/\Q (.int n) H
section
variable {X:Cx} {K:PySem.W.Frag}
theorem zk5(K:PySem.W.Frag)(hK:X.K=K)(hc:X.calm=true):zbT X (.type "set") (zp6 K):=by
 subst hK
 intro pins s σ H xs us Q I r h
 obtain⟨a,ks,rfl,sq,hl,q⟩:=h
 obtain⟨u,rfl,ru⟩:=r.one
 cases(show u=Value.ref a from ru)
 obtain⟨its,rv,pl,hz⟩:=I.tuple sq
 have ll:=rv.length
 rw [List.length_map]at ll
 refine zhJ (ks:=ks) (I.ok.hd hc) pl (fun i v e=>?_) (by simp [ll]) (by unfold scanBound; omega) fun h' tk hS up=>?_
 ·have e':its[i]?=some v:=by simpa using e
  have hi:i < ks.length:=by rw [ll]; exact(List.getElem?_eq_some_iff.mp e').1
  obtain⟨u,e1,e2⟩:=rv.get (i:=i) (x:=kV ks[i]) (by rw [List.getElem?_map,List.getElem?_eq_getElem hi]; rfl)
  rw [e']at e1
  cases e1
  refine⟨ks[i],List.getElem?_eq_getElem hi,?_⟩
  generalize ks[i]=k at e2
  cases k with
  | inl n=>obtain⟨t,rfl⟩:=e2; exact⟨zkA n t,rfl⟩
  | inr z=>obtain⟨t,rfl⟩:=e2; exact⟨zkB z t,rfl⟩
 ·obtain⟨o,es,ep,t,ho,hex,hd,_,_,_,hf,hn⟩:=hS
  exact⟨.ref s.heap.objs.size,_,I.laid (t':=tk) up (Nat.le_refl _) (zoZ ⟨o,es,ep,t,ho,hex,hd,hf,hn⟩),rfl,q _ (I.hok.fresh (Nat.le_refl _))⟩
theorem zk6:zbT X (.builtin "len") zp7:=by
 intro pins s σ H xs us Q I r h
 obtain⟨p,n,rfl,hp,hn,q⟩:=h
 obtain⟨u,rfl,ru⟩:=r.one
 cases(show u=Value.ref p from ru)
 obtain⟨⟨o,es,ep,t,ho,hex,hd,hf,rfl⟩,_⟩:=I.hok p _ hp
 exact call_len_set ho hex hd hf (by omega) ⟨.int es.size,H,I.tok _,⟨_,rfl⟩,q⟩
def zfU:U->Option U
 | .d (.tuple ds)=>(ds.mapM zol).bind fun ks=>if ks.length<=1000 then some (.d (.int (zcd ks ks.length)))else none
 | _=>none
theorem ziz{H:Hp}:∀ {us:List V} {ds:List D} {ks:List Key},DFs K H us ds->ds.mapM zol=some ks->us=ks.map kV
 | _,_,ks,.nil,e=>by cases e; rfl
 | _,_,ks,.cons (d:=d) h t,e=>by
  rw [List.mapM_cons]at e
  obtain⟨y,e1,e⟩:=bind_some e
  obtain⟨ys',e2,e⟩:=bind_some e
  cases e
  rw [ziz t e2]
  cases d with
  | int i=>cases e1; cases DF.int_inv h; rfl
  | str x=>cases e1; cases DF.str_inv h; rfl
  | _=>cases e1
theorem zmC{te:TE}{me:ME}(h:VE K te me):VE K (tCB zp7 (zcb (tCB (zp6 K) (zcb te zes)) zes)) (mUn zfU me):=by
 intro ρ σ H a ρ' Q rs e q
 obtain⟨⟨a1,ρ1⟩,e1,e⟩:=bind_some e
 obtain⟨x,ex,e⟩:=bind_some e
 obtain⟨u,eu,e⟩:=bind_some e
 cases e
 refine h ρ σ H a1 _ _ rs e1 fun v1 H1 g1 k1=>?_
 have p:=k1.now rs g1 ex
 unfold zfU at eu
 split at eu
 ·obtain⟨ks,ek,eu⟩:=bind_some eu
  split at eu
  ·rename_i hl
   cases eu
   obtain⟨b,ys,rfl,h1,h2⟩:=DF.tup_inv p
   cases ziz h2 ek
   refine⟨b,ks,rfl,SqT.of h1,hl,fun pp hp=>⟨pp,_,rfl,zA,Nat.le_trans (zhI ks _) hl,?_⟩⟩
   have sm:zbg H1 (upd H1 pp (zoY pp (zcd ks ks.length))):=fun b o hb=>by rw [zz (zX hb hp)]; exact hb
   exact q _ _ (g1.trans (Go.grow g1.rs sm)) ⟨DF.int _,Nw.data⟩
  ·cases eu
 ·cases eu
def zsk:List Addr->TA
 | []=>zes
 | C::cs=>zcb (tC (.ref C)) (zsk cs)
theorem zko:∀ {cs:List Addr} {σ:St} {H:Hp} {Q:List V->Hp->Prop},Q (cs.map V.ref) H->zsk cs σ H Q
 | [],_,_,_,q=>q
 | C::cs,σ,H,Q,q=>zko (cs:=cs) (σ:=σ) (H:=H) (Q:=fun vs H'=>Q (.ref C::vs) H') q
def zsl(K:PySem.W.Frag)(tab:List (Str×List Str)):List (Str×Addr)->Prop
 | []=>True
 | p::ps=>(XN K p.1 p.2/\(tab.lookup p.1).isSome=true)/\zsl K tab ps
def zp8(K:PySem.W.Frag):List V->Hp->VK->Prop:=fun xs H Q=>∃ (a C:Addr) (fs:List (Str×V)) (p:Addr) (cs:List Addr) (b:Bool),xs=[.ref a,.ref p]/\H p=some (.tup (cs.map V.ref))/\XV H a C fs/\XI K C/\PySem.W.kitAny K (.ref C) (cs.map Value.ref)=some b/\Q (.bl b) H
theorem ziA:∀ {cs:List Addr} {us:List Value},zM (cs.map V.ref) us->us=cs.map Value.ref
 | [],_,.nil=>rfl
 | C::cs,u::us,.cons r t=>by
  cases(show u=Value.ref C from r)
  rw [ziA t]
  rfl
theorem zg9(K:PySem.W.Frag)(hK:X.K=K):zbT X (.builtin "isinstance") (zp8 K):=by
 subst hK
 intro pins s σ H xs us Q I r h
 obtain⟨a,C,fs,p,cs,b,rfl,hp,xv,Y,e,q⟩:=h
 obtain⟨w,u,rfl,rx,ru⟩:=zlG r
 cases(show w=Value.ref a from rx)
 cases(show u=Value.ref p from ru)
 obtain⟨its,rv,⟨ob,h1,h2,n,h3⟩,_⟩:=I.tuple (SqT.of hp)
 cases ziA rv
 obtain⟨ox,ea,ec,en,z⟩:=xv
 obtain⟨ha,_⟩:=I.hok a _ ea
 have Z:∃ od,PySem.W.InstAt s.heap a ox C od:=by
  rcases z with ⟨_,ed⟩ | ⟨od,dx,ed,edx⟩
  ·exact⟨none,ha,ec,en,by rw [ed]; trivial⟩
  ·obtain⟨hdx,_⟩:=I.hok dx _ edx
   exact⟨some od,ha,ec,en,by rw [ed]; exact hdx⟩
 obtain⟨od,Z⟩:=Z
 obtain⟨oc,odd,odt,osl⟩:=ob
 cases(show oc=_ from h2)
 cases(show odt=_ from h3)
 exact PySem.W.kia_tup (zig Y) I.kIn Z h1 e (fun z=>nomatch z) fun tk=>⟨.bl b,H,I.tok tk,rfl,q⟩
def zfq(tab:List (Str×List Str))(cs:List Str):U->Option U
 | .d (.dict ((.none,.str n)::_))=>(tab.lookup n).map fun ups=>.d (.bool (cs.any fun c=>decide (c=n) || ups.contains c))
 | _=>none
theorem zha{tab:List (Str×List Str)}{fl:List Str}(T:XT K tab fl){n:Str}{ups:List Str}{C:Addr}(hn:tab.lookup n=some ups)(xn:XN K n C):∀ {cs:List (Str×Addr)},zsl K tab cs->PySem.W.kitAny K (.ref C) ((cs.map (·.2)).map Value.ref)=some ((cs.map (·.1)).any fun c=>decide (c=n) || ups.contains c)
 | [],_=>rfl
 | p::cs,h=>by
  have z:=T.is n ups C hn xn p.1 p.2 h.1.2 h.1.1
  rw [List.map_cons,List.map_cons,List.map_cons,List.any_cons]
  unfold PySem.W.kitAny
  rw [z]
  cases hb:(decide (p.1=n) || ups.contains p.1)with
  | true=>simp [hb]
  | false =>
   dsimp only
   rw [zha T hn xn h.2]
   simp [hb]
theorem ziB{tab:List (Str×List Str)}{fl:List Str}{cs:List (Str×Addr)}{te:TE}{me:ME}(T:XT K tab fl)(hc:zsl K tab cs)(hl:cs.length<=1000)(h:VE K te me):VE K (tCB (zp8 K) (zcb te (zcb (znI (zsk (cs.map (·.2)))) zes))) (mUn (zfq tab (cs.map (·.1))) me):=by
 intro ρ σ H a ρ' Q rs e q
 obtain⟨⟨a1,ρ1⟩,e1,e⟩:=bind_some e
 obtain⟨x,ex,e⟩:=bind_some e
 obtain⟨u,eu,e⟩:=bind_some e
 cases e
 refine h ρ σ H a1 _ _ rs e1 fun v1 H1 g1 k1=>?_
 have p:=k1.now rs g1 ex
 unfold zfq at eu
 split at eu
 ·rename_i n ds
  obtain⟨ups,hu,rfl⟩:=Option.map_eq_some_iff.mp eu
  obtain⟨a,C,fs,rfl,xv,xn,t⟩:=DF.exc_inv p
  refine zko ⟨by rw [List.length_map,List.length_map,sizeLine_eq]; omega,fun pp hp=>?_⟩
  have sm:zbg H1 (upd H1 pp (.tup ((cs.map (·.2)).map V.ref))):=fun b o hb=>by rw [zz (zX hb hp)]; exact hb
  refine⟨a,C,fs,pp,cs.map (·.2),_,rfl,zA,xv.kp sm.kp,(T.cl n ups C hu xn).1,zha T hu xn hc,?_⟩
  exact q _ _ (g1.trans (Go.grow g1.rs sm)) ⟨DF.bl _,Nw.data⟩
 ·cases eu
theorem zmD{a b c:Expr}{ta tb tc:TE}{pos:Pos}{op op':CmpOp}{r r':R2}(ho:OpR X (compareOp op) r)(ho':OpR X (compareOp op') r')(ha:Wr (PE X a ta))(hb:Wr (PE X b tb))(hc:Wr (PE X c tc))(hm:lastMarks [op,op'] [b,c]=false:=by rfl) :
  Wr (PT X (.Compare a [op,op'] [b,c] pos) (zh6 (zf1 r r' ta tb tc))):=⟨zlE ho ho' ha.run hb.run hc.run hm⟩
def zmE(K:PySem.W.Frag):R2:=fun x y H Q=>zlL K x y H Q\/∃ a b,x=.ref a/\y=.ref b/\SqT K H a []/\(∃ ys,SqT K H b ys)/\Q y H
end
section
variable {X:Cx} {K:PySem.W.Frag}
theorem zo0{prog:Program}{w:World}{A:Around}{E:Value->Shared->Prop}{s:Shared}{t b:Addr}{ws:List Value}{Q:Value->Shared->Prop}(ht:IsTup s.heap t #[])(hb:IsTup s.heap b ws.toArray)(h:Q (.ref b) s):wpAny (model prog w) A (binaryOp .Add (.ref t) (.ref b)) Q E s:=by
 obtain⟨⟨c1,d1,o1,s1⟩,h1,z1,n1,y1⟩:=id ht
 obtain⟨⟨c2,d2,o2,s2⟩,h2,z2,n2,y2⟩:=id hb
 cases(show c1=_ from z1)
 cases(show c2=_ from z2)
 cases(show o1=_ from y1)
 cases(show o2=_ from y2)
 have mt:=tuple_addW0 t b #[] ws.toArray n1 n2 d1 d2 s1 s2 rfl
 exact concat_meets ⟨_,h1,rfl⟩ ⟨_,h2,rfl⟩ noFill_tuple_add seq_tuple_add PySem.F.slot_tuple_add PySem.F.entry_tuple_add (PySem.F.args_tuple_add_2 _ _) mt ⟨h1,h2,h⟩
theorem zgl(K:PySem.W.Frag)(hK:X.K=K):OpR X (binaryOp .Add) (zmE K):=by
 subst hK
 intro pins s σ H x y v u Q I rx ry h
 rcases h with h | ⟨a,b,rfl,rfl,ha,⟨ys,hb⟩,q⟩
 ·exact znN pins s σ H x y v u Q I rx ry h
 ·cases rx
  cases ry
  obtain⟨its,r1,p1,_⟩:=I.tuple ha
  obtain⟨its2,r2,p2,_⟩:=I.tuple hb
  cases r1
  exact zo0 p1 p2 ⟨.ref b,H,I,rfl,q⟩
def zdk:U->U->Option U
 | .d (.tuple []),.d (.tuple ys)=>some (.d (.tuple ys))
 | a,b=>zir a b
theorem zgm:VO K (zmE K) zdk:=by
 intro x y a b u H Q ha hb e q
 unfold zdk at e
 split at e
 ·cases e
  obtain⟨p,us,rfl,h1,h2⟩:=DF.tup_inv ha
  obtain⟨p',us',rfl,h1',h2'⟩:=DF.tup_inv hb
  cases h2
  exact .inr ⟨p,p',rfl,rfl,SqT.of h1,⟨us',SqT.of h1'⟩,q _ _ (zbg.refl H) hb Nw.data⟩
 ·exact .inl (zon x y _ _ u H Q ha hb e q)
end
def GTi(K:PySem.W.Frag)(g:Addr)(ns:List Int):Prop:=∃ (o:Obj) (its:Array Value) (n:Nat),K.lookup g=some o/\o.cls=.type "tuple"/\o.data=.seq its n/\its.size<=sizeLine/\zM (ns.map V.int) its.toList
section
variable {X:Cx} {K:PySem.W.Frag}
theorem GTi.sq{g:Addr}{ns:List Int}{H:Hp}(h:GTi K g ns):SqT K H g (ns.map V.int):=.inr h
theorem ziC{H:Hp}:∀ (ns:List Int),DVs K H (ns.map V.int) (ns.map PyData.int)
 | []=>.nil
 | n::ns=>.cons (.int n) (ziC ns)
theorem GTi.dv{g:Addr}{ns:List Int}{H:Hp}(h:GTi K g ns):DV K H (.ref g) (.tuple (ns.map PyData.int)):=.tup h.sq (ziC ns)
def zo1(neg:Bool)(ns:List Int)(a:U):Option U:=zcR neg a (.d (.tuple (ns.map PyData.int)))
theorem zuO{neg:Bool}{g:Addr}{ns:List Int}{te:TE}{me:ME}(gt:GTi K g ns)(h:VE K te me):VE K (tOp (zoe K neg) te (tC (.ref g))) (mUn (zo1 neg ns) me):=by
 intro ρ σ H a ρ' Q rs e q
 obtain⟨⟨a1,ρ1⟩,e1,e⟩:=bind_some e
 obtain⟨x,ex,e⟩:=bind_some e
 obtain⟨u,eu,e⟩:=bind_some e
 cases e
 refine h ρ σ H a1 _ _ rs e1 fun v1 H1 g1 k1=>?_
 have p:=k1.now rs g1 ex
 obtain⟨dx,e2,eu⟩:=bind_some eu
 obtain⟨dy,e3,eu⟩:=bind_some eu
 cases e3
 split at eu
 ·rename_i hs
  cases eu
  exact⟨dx,_,p.dv e2 (zc1 _ (SeqAt.canLay_of_shaped hs.1)),gt.dv,hs.1,hs.2,q _ _ g1 ⟨DF.bl _,Nw.data⟩⟩
 ·cases eu
end
theorem nr{α:Sort _}{a b:α}(h:a=b):a=b:=h
structure Ph {α:Type} (a:α):Type where
 n:Nat
def Wo{α:Type}(o:Option α)(Q:α->Prop):Prop:=∃ a,o=some a/\Q a
def Co{α β:Type}(f:α->Option β)(t:Ph f)(Q:β->Prop)(a:α):Prop:=Wo (f a) Q
section
variable {α β:Type} {a:α} {o:Option α} {f:α->Option β} {Q:α->Prop} {R:β->Prop}
theorem zbM:Wo (some a) Q=Q a:=propext ⟨fun⟨_,e,h⟩=>(by cases e; exact h),fun h=>⟨a,rfl,h⟩⟩
theorem zx:Wo (o.bind f) R=Wo o (Co f ⟨0⟩ R):=propext (by
 cases o with
 | none=>exact⟨fun⟨_,e,_⟩=>(by cases e),fun⟨_,e,_⟩=>(by cases e)⟩
 | some a=>rw [zbM]; exact Iff.rfl)
theorem zeT{t:Ph f}:Co f t R a=Wo (f a) R:=rfl
theorem zb5{c:Prop}[Decidable c]{x y:Option α}(h:c->Wo x Q)(h':¬c->Wo y Q):Wo (if c then x else y) Q:=by
 split
 ·exact h ‹_›
 ·exact h' ‹_›
end
section
variable {ρ:En} {me ma mb mc mk mi md my mv mo:ME} {mA mK:MA} {mt mu:MT} {mI:MI} {mg:MG} {m1 m2:MS} {i j n:Nat} {u:U} {x:D} {mx:MX} {mXA:MXA}
variable {QE:Ar×En->Prop} {QA:List Ar×En->Prop} {QT:Bool×En->Prop} {QS:Fl->Prop} {QI:List D×En->Prop} {QO:Option Int×En->Prop} {QG:En->Prop} {QX:RX Ar->Prop} {QXA:RX (List Ar)->Prop} {QR:D×En->Prop} {QF:U×List U->Prop} {QFX:(U×List U) ⊕ (D×List U)->Prop}
theorem zsm:Wo (zf i ρ) QE=Wo (ρ[i]?).join (Co (fun _=>some (.s i,ρ)) ⟨0⟩ QE):=by rw [zrE,zx]
theorem zv1:Wo (mC x ρ) QE=QE (.u (.d x),ρ):=by rw [zvF,zbM]
def zo2(f:U->U->Option U)(a:Ar)(q:Ar×En):Option (Ar×En):=(a.get q.2).bind fun x=>(q.1.get q.2).bind fun y=>(f x y).bind fun u=>some (.u u,q.2)
def kOp(f:U->U->Option U)(mb:ME)(p:Ar×En):Option (Ar×En):=(mb p.2).bind (zo2 f p.1)
theorem zuP{f:U->U->Option U}:Wo (mOp f ma mb ρ) QE=Wo (ma ρ) (Co (kOp f mb) ⟨0⟩ QE):=by rw [zt1,zx]; rfl
theorem zsn{f:U->U->Option U}{p:Ar×En}:Wo (kOp f mb p) QE=Wo (mb p.2) (Co (zo2 f p.1) ⟨0⟩ QE):=by unfold kOp; rw [zx]
theorem zo3{f:U->U->Option U}{a:Ar}{q:Ar×En}:Wo (zo2 f a q) QE=Wo (a.get q.2) (Co (fun x=>(q.1.get q.2).bind fun y=>(f x y).bind fun u=>some (.u u,q.2)) ⟨0⟩ QE):=by unfold zo2; rw [zx]
theorem zuQ{f:U->Option U}:Wo (mUn f ma ρ) QE=Wo (ma ρ) (Co (fun p=>(p.1.get p.2).bind fun x=>(f x).bind fun u=>some (.u u,p.2)) ⟨0⟩ QE):=by rw [zt2,zx]
theorem zuR{g:Str->Bool}:Wo (mM0 g ma ρ) QE=Wo (mUn (fS0 g) ma ρ) QE:=rfl
theorem zso:Wo (zg ρ) QA=QA ([],ρ):=by rw [zrF,zbM]
theorem zo4:Wo (zb me mA ρ) QA=Wo (me ρ) (Co (fun p=>(mA p.2).bind fun q=>some (p.1::q.1,q.2)) ⟨0⟩ QA):=by rw [zoq,zx]
theorem zsp:Wo (zp mA ρ) QE=Wo (mA ρ) (Co (fun p=>(za2 p.2 p.1).bind fun us=>(zcF us).bind fun ds=>if ds.length<=sizeLine then some (.u (.d (.tuple ds)),p.2)else none) ⟨0⟩ QE):=by rw [zrG,zx]
theorem zsq:Wo (zbs mA ρ) QE=Wo (mA ρ) (Co (fun p=>(za2 p.2 p.1).bind fun us=>(zcF us).bind fun ds=>if ds.length<=sizeLine then some (.u (.l ds),p.2)else none) ⟨0⟩ QE):=by rw [zrH,zx]
theorem zuS{f:List U->Option U}:Wo (mCB f mA ρ) QE=Wo (mA ρ) (Co (fun p=>(za2 p.2 p.1).bind fun us=>(f us).bind fun u=>some (.u u,p.2)) ⟨0⟩ QE):=by rw [zt3,zx]
theorem zsr{f:FD}:Wo (zI f mA ρ) QE=Wo (mA ρ) (Co (fun p=>if zdJ p.2 p.1=true then(za2 p.2 p.1).bind fun us=>(f us).bind fun o=>some (.u o.1,wb p.2 p.1 o.2)else none) ⟨0⟩ QE):=by rw [zrI,zx]
theorem zss:Wo (zw m1 m2 ρ) QS=Wo (m1 ρ) (Co (zk1 m2) ⟨0⟩ QS):=by rw [zrM,zx]
theorem zst:Wo (zO i me ρ) QS=Wo (me ρ) (Co (fun p=>(put p).bind fun q=>some (.nx (q.2.set i (some q.1)))) ⟨0⟩ QS):=by rw [zml,zx]
theorem zsu:Wo (zaf me ρ) QS=Wo (me ρ) (Co (fun p=>(put p).bind fun q=>some (.rt q.1 q.2)) ⟨0⟩ QS):=by rw [zrN,zx]
theorem zo5{pn:List Nat}:Wo (zg7 pn i ρ) QS=Wo (if i∈pn then none else(ρ[i]?).join.bind fun u=>some (.rt u (ρ.set i none))) QS:=by rw [zov]
theorem zo6:Wo (zU ρ) QS=QS (.nx ρ):=by rw [zow,zbM]
theorem zo7:Wo (zbt me ρ) QS=Wo (me ρ) (Co (fun p=>some (.nx p.2)) ⟨0⟩ QS):=by rw [zkf,zx]
theorem zsv:Wo (zam mt m1 m2 ρ) QS=Wo (mt ρ) (Co (fun p=>if p.1=true then m1 p.2 else m2 p.2) ⟨0⟩ QS):=by rw [zrO,zx]
theorem zsw:Wo (mIf mt ma mb ρ) QE=Wo (mt ρ) (Co (fun p=>if p.1=true then ma p.2 else mb p.2) ⟨0⟩ QE):=by rw [zt7,zx]
theorem zv2:Wo (mB me ρ) QT=Wo (me ρ) (Co (fun p=>(p.1.get p.2).bind fun u=>u.bol.bind fun b=>some (b,p.2)) ⟨0⟩ QT):=by rw [zvI,zx]
theorem zsx:Wo (zjm mt mu ρ) QT=Wo (mt ρ) (Co (fun p=>if p.1=true then mu p.2 else some (false,p.2)) ⟨0⟩ QT):=by rw [zrP,zx]
theorem zuT:Wo (mOr mt mu ρ) QT=Wo (mt ρ) (Co (fun p=>if p.1=true then some (true,p.2)else mu p.2) ⟨0⟩ QT):=by rw [zt9,zx]
theorem zsy:Wo (zcK mt ρ) QT=Wo (mt ρ) (Co (fun p=>some (!p.1,p.2)) ⟨0⟩ QT):=by rw [zrQ,zx]
theorem zo8:Wo (zdP ma mb ρ) QE=Wo (mB ma ρ) (Co (fun p=>if p.1=true then mb p.2 else some (.u (.d (.bool false)),p.2)) ⟨0⟩ QE):=by rw [zox,zx]
theorem zo9:Wo (zil ma ρ) QE=Wo (mB ma ρ) (Co (fun p=>some (.u (.d (.bool (!p.1))),p.2)) ⟨0⟩ QE):=by rw [zoy,zx]
theorem zsz:Wo (zog ma ρ) QT=Wo (ma ρ) (Co (fun p=>(p.1.get p.2).bind fun u=>u.tru.bind fun b=>some (b,p.2)) ⟨0⟩ QT):=by rw [zrR,zx]
theorem zsA:Wo (zmh ρ) QT=QT (true,ρ):=by rw [zrS,zbM]
theorem zsB:Wo (zc2 i me ρ) QE=Wo (ρ[i]?).join (Co (fun w=>w.lo.bind fun _=>(me ρ).bind fun p=>(p.1.get p.2).bind fun u=>u.da.bind fun x=>(p.2[i]?).join.bind fun w=>w.lo.bind fun xs=>if xs.length < sizeLine then some (.u (.d .none),p.2.set i (some (.l (xs++[x]))))else none) ⟨0⟩ QE):=by rw [zrT,zx]
theorem zmF:Wo (zey i me mi ρ) QS=Wo (ρ[i]?).join (Co (fun _=>(me ρ).bind fun p=>(mi p.2).bind fun q=>(p.1.get q.2).bind fun u=>(q.1.get q.2).bind fun w=>u.da.bind fun x=>w.num.bind fun k=>(q.2[i]?).join.bind fun z=>z.lo.bind fun xs=>(ixN xs.length k).bind fun j=>some (.nx (q.2.set i (some (.l (xs.set j x)))))) ⟨0⟩ QS):=by rw [zmm,zx]
theorem zuU{g:U->Option (List D)}:Wo (mIt g me ρ) QI=Wo (me ρ) (Co (fun p=>(p.1.get p.2).bind fun u=>(g u).bind fun ds=>some (ds,p.2)) ⟨0⟩ QI):=by rw [zub,zx]
theorem zuV{n:Int}(h:-4611686018427387904<=n)(h2:n < 4611686018427387904):zoA [.d (.int n)]=some (zbD 0 n.toNat):=by rw [zrV,if_pos ⟨by omega,by omega⟩]
theorem zpa:Wo (zeo mA ρ) QI=Wo (mA ρ) (Co (fun p=>(za2 p.2 p.1).bind fun us=>(zoA us).bind fun ds=>some (ds,p.2)) ⟨0⟩ QI):=by rw [zoB,zx]
def zsC:List U->Option (List D)
 | [.d (.int i),.d (.int j)]=>if -(2^62)<=i/\i < 2^62/\-(2^62)<=j/\j < 2^62 then some (zbD i (j - i).toNat)else none
 | _=>none
theorem zuW{a b:Int}(h:-4611686018427387904<=a)(h2:a < 4611686018427387904)(h3:-4611686018427387904<=b)(h4:b < 4611686018427387904):zsC [.d (.int a),.d (.int b)]=some (zbD a (b - a).toNat):=by
 show(if _ then _ else _)=_
 rw [if_pos ⟨by omega,by omega,by omega,by omega⟩]
theorem zpb:zj8 mA ρ=(mA ρ).bind fun p=>(za2 p.2 p.1).bind fun us=>(zsC us).bind fun ds=>some (ds,p.2):=bind_fn fun p=>bind_fn fun us=>by
 match us with
 | []=>rfl
 | [.d (.int i),.d (.int j)] =>
  show(if _ then _ else _)=(if _ then _ else _:Option (List D)).bind _
  split<;>rfl
 | [.d x]=>cases x<;>rfl
 | [.l _]=>rfl
 | [.t _]=>rfl
 | [.k _]=>rfl
 | [.d x,.d y]=>cases x<;>(try rfl)<;>(cases y<;>(try rfl)<;>(show(if _ then _ else _)=(if _ then _ else _:Option (List D)).bind _; split<;>rfl))
 | [.d x,.l y]=>cases x<;>rfl
 | [.d x,.t y]=>cases x<;>rfl
 | [.d x,.k y]=>cases x<;>rfl
 | [.l _,_]=>rfl
 | [.t _,_]=>rfl
 | [.k _,_]=>rfl
 | a::b::c::us =>
  cases a with
  | d x=>cases x<;>(try rfl)<;>(cases b with
   | d y=>cases y<;>rfl
   | l=>rfl
   | t=>rfl
   | k=>rfl)
  | l=>rfl
  | t=>rfl
  | k=>rfl
theorem zpc:Wo (zj8 mA ρ) QI=Wo (mA ρ) (Co (fun p=>(za2 p.2 p.1).bind fun us=>(zsC us).bind fun ds=>some (ds,p.2)) ⟨0⟩ QI):=by rw [zpb,zx]
def zmG:List U->Option (List D)
 | [.d (.tuple ds)]=>some (zb4 0 ds)
 | _=>none
theorem zpd{ds:List D}:zmG [.d (.tuple ds)]=some (zb4 0 ds):=rfl
theorem zpe:zj9 mA ρ=(mA ρ).bind fun p=>(za2 p.2 p.1).bind fun us=>(zmG us).bind fun ds=>some (ds,p.2):=bind_fn fun p=>bind_fn fun us=>by
 match us with
 | []=>rfl
 | [.d x]=>cases x<;>rfl
 | [.l _]=>rfl
 | [.t _]=>rfl
 | [.k _]=>rfl
 | .d x::b::us=>cases x<;>rfl
 | .l x::b::us=>rfl
 | .t x::b::us=>rfl
 | .k x::b::us=>rfl
theorem zpf:Wo (zj9 mA ρ) QI=Wo (mA ρ) (Co (fun p=>(za2 p.2 p.1).bind fun us=>(zmG us).bind fun ds=>some (ds,p.2)) ⟨0⟩ QI):=by rw [zpe,zx]
theorem zsD:Wo (zeN mI mg m1 ρ) QS=Wo (mI ρ) (Co (fun p=>zdf mg m1 p.1 p.2) ⟨0⟩ QS):=by rw [zrW,zx]
theorem zsE{nt:Nat}{js:List Nat}:Wo (mLC mI nt js mg mt me ρ) QE=Wo (mI ρ) (Co (fun p=>(lcM nt mg mt me p.1 (cEn nt js p.2) []).bind fun q=>some (.u (.l q.1),back js (q.2.drop nt) p.2)) ⟨0⟩ QE):=by rw [zuc,zx]
theorem zuX{f:U->Option Int->Option Int->Option U}{ml mh:MO}:Wo (mSl f me ml mh ρ) QE=Wo (me ρ) (Co (fun p=>(ml p.2).bind fun l=>(mh l.2).bind fun h=>(p.1.get h.2).bind fun x=>(f x l.1 h.1).bind fun u=>some (.u u,h.2)) ⟨0⟩ QE):=by rw [zud,zx]
theorem zk7:Wo (zcE ρ) QO=QO (none,ρ):=by rw [zk2,zbM]
theorem zpg:Wo (zct me ρ) QO=Wo (me ρ) (Co (fun p=>(p.1.get p.2).bind fun u=>u.num.bind fun i=>some (some i,p.2)) ⟨0⟩ QO):=by rw [zoC,zx]
theorem zsF:Wo (zmd i j mA ρ) QS=Wo (mA ρ) (Co (fun p=>(za2 p.2 p.1).bind fun us=>(zrX us).bind fun z=>some (.nx ((p.2.set i (some (.d z.1))).set j (some (.d z.2))))) ⟨0⟩ QS):=by rw [zrZ,zx]
theorem zsG:Wo (zim me mg ρ) QS=Wo (me ρ) (Co (fun p=>(p.1.get p.2).bind fun u=>u.da.bind fun d=>(mg d p.2).bind fun ρ'=>some (.nx ρ')) ⟨0⟩ QS):=by rw [zr0,zx]
theorem zmH:Wo (zaz i x ρ) QG=QG (ρ.set i (some (.d x))):=by rw [zmn,zbM]
theorem zph{gs:List D->En->Option En}{ds:List D}:Wo (zd0 n gs (.tuple ds) ρ) QG=Wo (if ds.length=n then gs ds ρ else none) QG:=by rw [zoD]
theorem zmI{g:MG}{gs:List D->En->Option En}{ds:List D}:Wo (zb1 g gs (x::ds) ρ) QG=Wo (g x ρ) (Co (fun ρ1=>gs ds ρ1) ⟨0⟩ QG):=by rw [zmo,zx]
theorem zpi:Wo (zeM [] ρ) QG=QG ρ:=by rw [zoE,zbM]
theorem zuY{ty:U->Bool}{f:U->U->Option U}:Wo (mM1 ty f mo ma ρ) QE=Wo (mo ρ) (Co (fun p=>(p.1.get p.2).bind fun x0=>if ty x0=true then(ma p.2).bind fun q=>(p.1.get q.2).bind fun x=>(q.1.get q.2).bind fun y=>(f x y).bind fun u=>some (.u u,q.2)else none) ⟨0⟩ QE):=by
 show Wo (Option.bind _ _) QE=_
 rw [zx]
theorem zuZ{z:Str}:tyS (.d (.str z))=true:=rfl
theorem zmJ{f f':U->U->Option U}:zgk f f' ma mb mc ρ=(ma ρ).bind fun p=>(mb p.2).bind fun q=>(p.1.get q.2).bind fun x=>(q.1.get q.2).bind fun y=>(f x y).bind fun r=>r.bol.bind fun b=>if b=true then(mc q.2).bind fun s=>(q.1.get s.2).bind fun y'=>(s.1.get s.2).bind fun z=>(f' y' z).bind fun u=>some (.u u,s.2)else some (.u (.d (.bool false)),q.2):=by
 refine bind_fn fun p=>bind_fn fun q=>bind_fn fun x=>bind_fn fun y=>bind_fn fun r=>?_
 cases r with
 | d x=>cases x with
  | bool b=>cases b<;>rfl
  | _=>rfl
 | l=>rfl
 | t=>rfl
 | k=>rfl
theorem zmK{f f':U->U->Option U}:Wo (zgk f f' ma mb mc ρ) QE=Wo (ma ρ) (Co (fun p=>(mb p.2).bind fun q=>(p.1.get q.2).bind fun x=>(q.1.get q.2).bind fun y=>(f x y).bind fun r=>r.bol.bind fun b=>if b=true then(mc q.2).bind fun s=>(q.1.get s.2).bind fun y'=>(s.1.get s.2).bind fun z=>(f' y' z).bind fun u=>some (.u u,s.2)else some (.u (.d (.bool false)),q.2)) ⟨0⟩ QE):=by rw [zmJ,zx]
def x1:List D->Option D
 | [x]=>some x
 | _=>none
theorem zv3:x1 [x]=some x:=rfl
theorem zu0{n f:Str}:zr9 n f mA ρ=(mA ρ).bind fun p=>(za2 p.2 p.1).bind fun us=>(zcF us).bind fun ds=>(x1 ds).bind fun x=>some (.u (.d (.dict [(.none,.str n),(.str f,x)])),p.2):=bind_fn fun p=>bind_fn fun us=>bind_fn fun ds=>match ds with
 | []=>rfl
 | [_]=>rfl
 | _::_::_=>rfl
theorem zu1{n f:Str}:mXR n f mA ρ=(mA ρ).bind fun p=>(za2 p.2 p.1).bind fun us=>(zcF us).bind fun ds=>(x1 ds).bind fun x=>some (.dict [(.none,.str n),(.str f,x)],p.2):=bind_fn fun p=>bind_fn fun us=>bind_fn fun ds=>match ds with
 | []=>rfl
 | [_]=>rfl
 | _::_::_=>rfl
theorem zu2{n f:Str}:Wo (mXR n f mA ρ) QR=Wo (mA ρ) (Co (fun p=>(za2 p.2 p.1).bind fun us=>(zcF us).bind fun ds=>(x1 ds).bind fun x=>some (.dict [(.none,.str n),(.str f,x)],p.2)) ⟨0⟩ QR):=by rw [zu1,zx]
theorem zsH{n:Str}:Wo (zsc n ρ) QR=QR (.dict [(.none,.str n)],ρ):=by show Wo (some _) QR=_; rw [zbM]
theorem zmL{m:En->Option (D×En)}:Wo (zff m ρ) QS=Wo (m ρ) (Co (fun p=>some (.ex p.1 p.2)) ⟨0⟩ QS):=by show Wo (Option.bind _ _) QS=_; rw [zx]
theorem zpj{f:FX}:Wo (zkj f mA ρ) QX=Wo (mA ρ) (Co (fun p=>if zdJ p.2 p.1=true then(za2 p.2 p.1).bind fun us=>(f us).bind fun o=>some (zoS p.2 p.1 o)else none) ⟨0⟩ QX):=by show Wo (Option.bind _ _) QX=_; rw [zx]
theorem zsI{as:List Ar}{o:U×List U}:zoS ρ as (.inl o)=.inl (.u o.1,wb ρ as o.2):=rfl
theorem zsJ{as:List Ar}{o:D×List U}:zoS ρ as (.inr o)=.inr (o.1,wb ρ as o.2):=rfl
def kX{α β:Type}(f:α×En->Option β)(g:D×En->Option β):RX α->Option β
 | .inl p=>f p
 | .inr z=>g z
theorem zkp{mS:ME->MS}{k:Ar×En->Option Fl}(h:∀ me:ME,mS me ρ=(me ρ).bind k):zhG mS mx ρ=(mx ρ).bind (kX k fun z=>some (.ex z.1 z.2)):=by
 unfold zhG
 rw [h (lft mx)]
 unfold lft
 cases mx ρ with
 | none=>rfl
 | some r=>cases r<;>rfl
theorem zpk:Wo (zhG (zO i) mx ρ) QS=Wo (mx ρ) (Co (kX (fun p=>(put p).bind fun q=>some (.nx (q.2.set i (some q.1)))) fun z=>some (.ex z.1 z.2)) ⟨0⟩ QS):=by rw [zkp (fun _=>zml),zx]
theorem zmM:Wo (zhG zbt mx ρ) QS=Wo (mx ρ) (Co (kX (fun p=>some (.nx p.2)) fun z=>some (.ex z.1 z.2)) ⟨0⟩ QS):=by rw [zkp (fun _=>zkf),zx]
def zsK(tab:List (Str×List Str))(c:Str)(i:Nat)(mh:MS):Fl->Option Fl
 | .ex x ρ'=>if under tab c x=true then(mh (ρ'.set i (some (.d x)))).bind (clr i)else none
 | f=>some f
theorem zsL{tab:List (Str×List Str)}{c:Str}:Wo (zsd tab c i m1 m2 ρ) QS=Wo (m1 ρ) (Co (zsK tab c i m2) ⟨0⟩ QS):=by
 rw [<-zx]
 exact congrArg (Wo · QS) (bind_fn fun f=>by cases f<;>rfl)
theorem zpl{tab:List (Str×List Str)}{c:Str}:zsK tab c i m2 (.nx ρ)=some (.nx ρ):=rfl
theorem zpm{tab:List (Str×List Str)}{c:Str}:zsK tab c i m2 (.ex x ρ)=if under tab c x=true then(m2 (ρ.set i (some (.d x)))).bind (clr i)else none:=rfl
theorem zsM:clr i (.nx ρ)=some (.nx (ρ.set i none)):=rfl
theorem zsN:clr i (.rt u ρ)=some (.rt u ρ):=rfl
theorem zsO{pn:List Nat}{us:List U}:Wo (zcm n pn m1 us) QF=Wo (m1 (sm us++List.replicate (n - us.length) none)) (Co (zr4 pn us) ⟨0⟩ QF):=by rw [zr5,zx]
theorem zpn{pn:List Nat}{us:List U}:Wo (zoT n pn m1 us) QFX=Wo (m1 (sm us++List.replicate (n - us.length) none)) (Co (zkk pn us) ⟨0⟩ QFX):=by
 show Wo (Option.bind _ _) QFX=_
 exact zx
theorem zmN{pn:List Nat}{us:List U}:zkk pn us (.rt u ρ)=(zas pn ρ 0 us).bind fun os=>some (.inl (u,os)):=rfl
theorem zmO{pn:List Nat}{us:List U}:zkk pn us (.ex x ρ)=(zas pn ρ 0 us).bind fun os=>some (.inr (x,os)):=rfl
def zfr(Q:Fl->Prop)(P:En->Prop):Fl->Prop
 | .nx ρ=>P ρ
 | .ct ρ=>P ρ
 | .bk ρ=>Q (.nx ρ)
 | .rt u ρ=>Q (.rt u ρ)
 | .ex x ρ=>Q (.ex x ρ)
theorem zmP{Q:Fl->Prop}{P:En->Prop}:zfr Q P (.nx ρ)=P ρ:=rfl
theorem zmQ{Q:Fl->Prop}{P:En->Prop}:zfr Q P (.ct ρ)=P ρ:=rfl
theorem zmR{Q:Fl->Prop}{P:En->Prop}:zfr Q P (.rt u ρ)=Q (.rt u ρ):=rfl
theorem zmS{Q:Fl->Prop}{P:En->Prop}:zfr Q P (.ex x ρ)=Q (.ex x ρ):=rfl
theorem zeg{Q:Fl->Prop}(P:Nat->En->Prop){ds:List D}(h0:P 0 ρ)(st:∀ i d ρ,ds[i]?=some d->P i ρ->Wo (mg d ρ) (Co m1 ⟨0⟩ (zfr Q (P (i+1)))))(hQ:∀ ρ,P ds.length ρ->Q (.nx ρ)):Wo (zdf mg m1 ds ρ) Q:=by
 have main:∀ (es:List D) (n:Nat) (ρ:En),n+es.length=ds.length->(∀ i,es[i]?=ds[n+i]?)->P n ρ->Wo (zdf mg m1 es ρ) Q:=by
  intro es
  induction es with
  | nil =>
   intro n ρ hn _ hp
   show Wo (some _) Q
   rw [zbM]
   rw [List.length_nil,Nat.add_zero]at hn
   exact hQ ρ (hn▸hp)
  | cons d es ih =>
   intro n ρ hn he hp
   have e0:=he 0
   rw [List.getElem?_cons_zero,Nat.add_zero]at e0
   obtain⟨ρ1,e1,f,e2,k⟩:=st n d ρ e0.symm hp
   have nxt:∀ ρ2,P (n+1) ρ2->Wo (zdf mg m1 es ρ2) Q:=fun ρ2 z=>ih (n+1) ρ2 (by rw [List.length_cons]at hn; omega) (fun i=>by
    have:=he (i+1)
    rw [List.getElem?_cons_succ]at this
    rw [this,show n+(i+1)=n+1+i by omega]) z
   unfold zdf
   rw [zx]
   refine⟨ρ1,e1,?_⟩
   rw [zeT,zx]
   refine⟨f,e2,?_⟩
   rw [zeT]
   cases f with
   | nx ρ2=>exact nxt ρ2 k
   | ct ρ2=>exact nxt ρ2 k
   | bk ρ2=>exact⟨_,rfl,k⟩
   | rt u ρ2=>exact⟨_,rfl,k⟩
   | ex x ρ2=>exact⟨_,rfl,k⟩
 exact main ds 0 ρ (by omega) (fun i=>by rw [Nat.zero_add]) h0
def kLC(nt:Nat)(me:ME)(ys:List D)(P:En->List D->Prop)(p:Bool×En):Prop:=if p.1=true then Wo (me p.2) (Co (fun q=>(q.1.get q.2).bind fun u=>u.da.bind fun y=>some (reset nt q.2,ys++[y])) ⟨0⟩ fun z=>P z.1 z.2)else P (reset nt p.2) ys
theorem zp9{nt:Nat}{ys:List D}{P:En->List D->Prop}:kLC nt me ys P (true,ρ)=Wo (me ρ) (Co (fun q=>(q.1.get q.2).bind fun u=>u.da.bind fun y=>some (reset nt q.2,ys++[y])) ⟨0⟩ fun z=>P z.1 z.2):=rfl
theorem zu3{nt:Nat}{ys:List D}{P:En->List D->Prop}:kLC nt me ys P (false,ρ)=P (reset nt ρ) ys:=rfl
theorem zu4{nt:Nat}{Q:List D×En->Prop}(P:Nat->En->List D->Prop){ds:List D}(hz:ds.length<=sizeLine)(hP:∀ i ρ ys,P i ρ ys->ys.length<=i)(h0:P 0 ρ [])(st:∀ i d ρ ys,ds[i]?=some d->P i ρ ys->Wo (mg d ρ) (Co mt ⟨0⟩ (kLC nt me ys (P (i+1)))))(hQ:∀ ρ ys,P ds.length ρ ys->Q (ys,ρ)):Wo (lcM nt mg mt me ds ρ []) Q:=by
 have main:∀ (es:List D) (n:Nat) (ρ:En) (ys:List D),n+es.length=ds.length->(∀ i,es[i]?=ds[n+i]?)->P n ρ ys->Wo (lcM nt mg mt me es ρ ys) Q:=by
  intro es
  induction es with
  | nil =>
   intro n ρ ys hn _ hp
   rw [List.length_nil,Nat.add_zero]at hn
   exact⟨_,rfl,hQ ρ ys (hn▸hp)⟩
  | cons d es ih =>
   intro n ρ ys hn he hp
   have e0:=he 0
   rw [List.getElem?_cons_zero,Nat.add_zero]at e0
   obtain⟨ρ1,e1,⟨b,ρ2⟩,e2,k⟩:=st n d ρ ys e0.symm hp
   have hl:=hP _ _ _ hp
   rw [List.length_cons]at hn
   have nxt:∀ ρ2 ys2,P (n+1) ρ2 ys2->Wo (lcM nt mg mt me es ρ2 ys2) Q:=fun ρ2 ys2 z=>ih (n+1) ρ2 ys2 (by omega) (fun i=>by
    have:=he (i+1)
    rw [List.getElem?_cons_succ]at this
    rw [this,show n+(i+1)=n+1+i by omega]) z
   unfold lcM
   rw [if_pos (by omega),zx]
   refine⟨ρ1,e1,?_⟩
   rw [zeT,zx]
   refine⟨_,e2,?_⟩
   rw [zeT]
   cases b with
   | false=>rw [if_neg Bool.false_ne_true]; exact nxt _ _ k
   | true =>
    rw [if_pos rfl,zx]
    obtain⟨q,e3,k⟩:=k
    refine⟨q,e3,?_⟩
    rw [zeT,zx]at k ⊢
    obtain⟨u,e4,k⟩:=k
    refine⟨u,e4,?_⟩
    rw [zeT,zx]at k
    obtain⟨y,e5,z,e6,k⟩:=k
    cases u with
    | d y'=>cases e5; cases e6; exact nxt _ _ k
    | l=>cases e5
    | t=>cases e5
    | k=>cases e5
 exact main ds 0 ρ [] (by omega) (fun i=>by rw [Nat.zero_add]) h0
theorem ziD{Q:Fl->Prop}(P:Nat->En->Prop)(k:Nat)(h0:P k ρ)(st:∀ k ρ,P k ρ->Wo (mt ρ) fun p=>if p.1=true then Wo (m1 p.2) (zfr Q fun ρ'=>∃ k',k' < k/\P k' ρ')else Q (.nx p.2)):Wo (zew mt m1 ρ) Q:=by
 have main:∀ (k:Nat) (ρ:En),P k ρ->∃ n f,zbG mt m1 n ρ=some f/\Q f:=by
  intro k
  induction k using Nat.strongRecOn with
  | ind k ih =>
   intro ρ hp
   obtain⟨⟨b,ρ1⟩,e1,z⟩:=st k ρ hp
   cases b with
   | false =>
    rw [if_neg Bool.false_ne_true]at z
    exact⟨1,_,by unfold zbG; rw [e1]; rfl,z⟩
   | true =>
    rw [if_pos rfl]at z
    obtain⟨f,e2,z⟩:=z
    have nxt:∀ ρ2,(∃ k',k' < k/\P k' ρ2)->f=.nx ρ2\/f=.ct ρ2->∃ n f,zbG mt m1 n ρ=some f/\Q f:=by
     rintro ρ2 ⟨k',hk,hp'⟩ hf
     obtain⟨n,f',e3,q⟩:=ih k' hk ρ2 hp'
     refine⟨n+1,f',?_,q⟩
     unfold zbG
     rw [e1,bd,if_pos rfl,e2,bd]
     rcases hf with rfl | rfl<;>exact e3
    cases f with
    | nx ρ2=>exact nxt ρ2 z (.inl rfl)
    | ct ρ2=>exact nxt ρ2 z (.inr rfl)
    | bk ρ2=>exact⟨1,_,by unfold zbG; rw [e1,bd,if_pos rfl,e2]; rfl,z⟩
    | rt u ρ2=>exact⟨1,_,by unfold zbG; rw [e1,bd,if_pos rfl,e2]; rfl,z⟩
    | ex u ρ2=>exact⟨1,_,by unfold zbG; rw [e1,bd,if_pos rfl,e2]; rfl,z⟩
 obtain⟨n,f,e,q⟩:=main k ρ h0
 exact⟨f,zme e,q⟩
end
theorem zax{α:Type}{o:Option α}{b:α}(h:Wo o (fun a=>a=b)):o=some b:=by
 obtain⟨a,e,rfl⟩:=h
 exact e
theorem zsP{α β:Type}{f:α×En->Option β}{g:D×En->Option β}{p:α×En}:kX f g (.inl p)=f p:=rfl
theorem zsQ{α β:Type}{f:α×En->Option β}{g:D×En->Option β}{p:D×En}:kX f g (.inr p)=g p:=rfl
theorem zsR:sizeLine=16777216:=Eq.trans zl (Eq.symm (Eq.symm (Nat.add_zero _)))
theorem zsS{α:Type}{n:Nat}{dc:Decidable (n < 16777216)}{a b:Option α}(h:n < 16777216):(if n < 16777216 then a else b)=a:=if_pos h
theorem zhK{α:Type}{xs:List α}{r:Int}(h0:0<=r)(h1:r < (xs.length:Int)):∃ a,atI xs r=some a/\a∈xs/\xs[r.toNat]?=some a:=by
 have hk:r.toNat < xs.length:=by omega
 have ek:r=((r.toNat:Nat):Int):=by omega
 have q:atI xs ((r.toNat:Nat):Int)=some xs[r.toNat]:=znO (List.getElem?_eq_getElem hk)
 rw [<-ek]at q
 exact⟨_,q,List.getElem_mem hk,List.getElem?_eq_getElem hk⟩
theorem zez{xs:List D}{r:Int}{Q:U->Prop}(h0:0<=r)(h1:r < (xs.length:Int))(k:∀ a∈xs,Q (.d a)):Wo ((atI xs r).map U.d) Q:=by
 obtain⟨a,e,m,_⟩:=zhK h0 h1
 rw [e]
 exact⟨_,rfl,k a m⟩
theorem zjy{α:Type}{f:α->D}{xs:List α}{r:Int}{Q:U->Prop}(h0:0<=r)(h1:r < (xs.length:Int))(k:∀ a∈xs,xs[r.toNat]?=some a->Q (.d (f a))):Wo ((atI (xs.map f) r).map U.d) Q:=by
 obtain⟨a,e,m,z⟩:=zhK (xs:=xs.map f) h0 (by rw [List.length_map]; exact h1)
 rw [List.getElem?_map]at z
 obtain⟨b,hb,rfl⟩:=Option.map_eq_some_iff.mp z
 rw [e]
 exact⟨_,rfl,k b (List.mem_of_getElem? hb) hb⟩
theorem zqa{lo:Int}{n i:Nat}{d:D}(h:(zbD lo n)[i]?=some d):i < n/\d=.int (lo+(i:Nat)):=zfb h
theorem zjz{lo:Int}{n:Nat}:(zbD lo n).length=n:=by
 unfold zbD
 rw [List.length_map,List.length_range]
theorem zkq{ρ:En}{mg:MG}{m1:MS}{n:Nat}{Q:Fl->Prop}(P:Nat->En->Prop)(h0:P 0 ρ)(st:∀ i ρ,i < n->P i ρ->Wo (mg (.int (0+(i:Nat))) ρ) (Co m1 ⟨0⟩ (zfr Q (P (i+1)))))(hQ:∀ ρ,P n ρ->Q (.nx ρ)):Wo (zdf mg m1 (zbD 0 n) ρ) Q :=
 zeg P h0 (fun i d ρ hd hp=>by
  obtain⟨hi,rfl⟩:=zqa hd
  exact st i ρ hi hp) fun ρ hp=>hQ ρ (by rw [zjz]at hp; exact hp)
theorem zkr{ρ:En}{mg:MG}{mt:MT}{me:ME}{nt n:Nat}{Q:List D×En->Prop}(P:Nat->En->List D->Prop)(hz:n<=sizeLine)(h0:P 0 ρ [])(hP:∀ i ρ ys,P i ρ ys->ys.length<=i)(st:∀ i ρ ys,i < n->P i ρ ys->Wo (mg (.int (0+(i:Nat))) ρ) (Co mt ⟨0⟩ (kLC nt me ys (P (i+1)))))(hQ:∀ ρ ys,P n ρ ys->Q (ys,ρ)):Wo (lcM nt mg mt me (zbD 0 n) ρ []) Q :=
 zu4 P (by rw [zjz]; exact hz) hP h0 (fun i d ρ ys hd hp=>by
  obtain⟨hi,rfl⟩:=zqa hd
  exact st i ρ ys hi hp) fun ρ ys hp=>hQ ρ ys (by rw [zjz]at hp; exact hp)
theorem zsT{ρ:En}{mg:MG}{mt:MT}{me:ME}{nt:Nat}{α:Type}{g h:α->D}{p:α->Bool}{as:List α}{Q:List D×En->Prop}(hz:as.length<=sizeLine)(st:∀ a∈as,Wo (mg (g a) ρ) (Co mt ⟨0⟩ fun z=>z.1=p a/\reset nt z.2=ρ/\(p a=true->Wo (me z.2) fun y=>y.1.get y.2=some (.d (h a))/\reset nt y.2=ρ)))(hQ:Q ((as.filter p).map h,ρ)):Wo (lcM nt mg mt me (as.map g) ρ []) Q:=by
 refine⟨_,zhE (g:=g) (h:=h) (p:=p) (by rw [List.length_nil]; omega) fun a ha=>?_,?_⟩
 ·obtain⟨ρ1,e1,⟨b,ρ2⟩,e2,hb,hr,k⟩:=st a ha
  subst hb
  refine⟨ρ1,ρ2,e1,e2,hr,fun hp=>?_⟩
  obtain⟨⟨ar,ρ3⟩,e3,hg,hr3⟩:=k hp
  exact⟨ar,ρ3,e3,hg,hr3⟩
 ·rw [List.nil_append]
  exact hQ
def Asc(n:Nat)(z:Str):Prop:=z.length<=n/\∀ c∈z.cps.toList,c < 128
theorem Asc.mono{n m:Nat}{z:Str}(h:Asc n z)(hm:n<=m):Asc m z:=⟨Nat.le_trans h.1 hm,h.2⟩
theorem Asc.app{n m:Nat}{x y:Str}(hx:Asc n x)(hy:Asc m y):Asc (n+m) (x++y):=⟨by rw [PySem.Str.length_append]; have:=hx.1; have:=hy.1; omega,fun c hc=>by
 rw [PySem.Str.cps_append,Array.toList_append,List.mem_append]at hc
 exact hc.elim (hx.2 c) (hy.2 c)⟩
theorem Asc.join{n:Nat}:∀ {ys:List Str},(∀ z∈ys,Asc n z)->Asc (ys.length * n) (PySem.Str.join "" ys)
 | [],_=>⟨Nat.zero_le _,fun c hc=>by cases hc⟩
 | [x],h=>(h x List.mem_cons_self).mono (by simp)
 | x::y::r,h=>by
  have:=((h x List.mem_cons_self).app (show Asc 0 "" from⟨Nat.le_refl _,fun c hc=>by cases hc⟩)).app (Asc.join fun z hz=>h z (List.mem_cons_of_mem _ hz))
  exact this.mono (by simp only [List.length_cons,Nat.add_mul]; omega)
theorem zk8{n:Nat}{ys:List Str}(h:∀ z∈ys,Asc n z):Asc (ys.length * n) (Txt.join "" ys):=by
 show Asc _ (PySem.Builtin.Str.glued "" ys)
 rw [PySem.StrLaws.glued_eq_join]
 exact Asc.join h
theorem Asc.slice{n:Nat}{z:Str}(h:Asc n z)(lo hi:Option Int):Asc n (Txt.slice z lo hi):=by
 refine⟨Nat.le_trans (Txt.slice_le _ _ _) h.1,?_⟩
 unfold Txt.slice
 split
 ·exact h.2
 ·intro c hc
  rw [List.toList_toArray,List.mem_filterMap]at hc
  obtain⟨i,_,e⟩:=hc
  exact h.2 c (Array.mem_toList_iff.mpr (Array.mem_of_getElem? e))
theorem zsU{x y:Str}(h:x.length+y.length<=16777216):zeS (.d (.str x)) (.d (.str y))=some (.d (.str (x++y))):=by
 unfold zeS
 dsimp only
 rw [if_pos (by rw [zl]; exact h)]
theorem zhL{n m:Nat}{x y:Str}{Q:U->Prop}(hx:Asc n x)(hy:Asc m y)(hn:n+m<=1000)(k:Asc (n+m) (x++y)->Q (.d (.str (x++y)))):Wo (zeS (.d (.str x)) (.d (.str y))) Q:=by
 rw [zsU (by have:=hx.1; have:=hy.1; omega)]
 exact⟨_,rfl,k (hx.app hy)⟩
theorem zhb:∀ (zs:List Str),(zs.map PyData.str).mapM zoO=some zs
 | []=>rfl
 | z::zs=>by
  rw [List.map_cons,List.mapM_cons,zhb zs]
  rfl
theorem ziE{n:Nat}:∀ {ys:List Str},(∀ z∈ys,z.length<=n)->(ys.map (·.length)).sum<=ys.length * n
 | [],_=>by simp
 | y::ys,h=>by
  have:=ziE (ys:=ys) fun z hz=>h z (List.mem_cons_of_mem _ hz)
  have:=h y List.mem_cons_self
  simp only [List.map_cons,List.sum_cons,List.length_cons,Nat.add_mul]
  omega
theorem zks{n m:Nat}{zs:List Str}{Q:U->Prop}(h:∀ z∈zs,Asc n z)(hl:zs.length<=m)(hm:m * n<=1000)(k:Asc (m * n) (Txt.join "" zs)->Q (.d (.str (Txt.join "" zs)))):Wo (zg8 (.d (.str "")) (.l (zs.map PyData.str))) Q:=by
 have h1:=ziE (n:=n) fun z hz=>(h z hz).1
 have h2:zs.length * n<=m * n:=Nat.mul_le_mul_right _ hl
 unfold zg8
 dsimp only
 rw [zhb,bd,if_pos (by rw [show(("":Str)).length=0 by decide,Nat.mul_zero]; omega)]
 exact⟨_,rfl,k ((zk8 h).mono h2)⟩
theorem zgn:∀ (zs:List Str),(zs.map PyData.str).mapM flD=some (zs.map V.str)
 | []=>rfl
 | z::zs=>by
  rw [List.map_cons,List.mapM_cons,zgn zs]
  rfl
theorem zsV{xs:List D}{lo hi:Option Int}:zhD (.d (.tuple xs)) lo hi=some (.d (.tuple (zdd xs lo hi))):=rfl
theorem zkt{xs ys:List D}(h:xs.length+ys.length<=16777216):zdk (.d (.tuple xs)) (.d (.tuple ys))=some (.d (.tuple (xs++ys))):=by
 cases xs with
 | nil=>rfl
 | cons x xs =>
  show zir (.d (.tuple (x::xs))) (.d (.tuple ys))=_
  unfold zir
  dsimp only
  rw [if_pos ⟨by simp,by rw [zl]; exact h⟩]
theorem zpo{z:Str}(h:z.length<=16777216):zix (.d (.str z))=some (.d (.int z.length)):=by
 unfold zix
 dsimp only
 rw [if_pos (by rw [zl]; exact h)]
theorem zu5{i:Int}:zcv "int" (.d (.int i))=some (.d (.bool true)):=rfl
theorem zu6{z:Str}:zcv "int" (.d (.str z))=some (.d (.bool false)):=rfl
theorem zu7{xs:List D}:zcv "int" (.d (.tuple xs))=some (.d (.bool false)):=rfl
theorem zu8{i:Int}:zcv "bool" (.d (.int i))=some (.d (.bool false)):=rfl
theorem zu9{z:Str}:zcv "str" (.d (.str z))=some (.d (.bool true)):=rfl
theorem zva{i:Int}:zcv "tuple" (.d (.int i))=some (.d (.bool false)):=rfl
theorem zvb{z:Str}:zcv "tuple" (.d (.str z))=some (.d (.bool false)):=rfl
theorem zvc{xs:List D}:zcv "tuple" (.d (.tuple xs))=some (.d (.bool true)):=rfl
theorem zvd{g:Str->Bool}{z:Str}:fS0 g (.d (.str z))=some (.d (.bool (g z))):=rfl
theorem zsW{a b:String}:(PySem.Str.ofString a=PySem.Str.ofString b)=(a=b):=propext ⟨fun h=>by
 rw [PySem.Str.ofString_eq_toList,PySem.Str.ofString_eq_toList]at h
 have h1:=congrArg (fun z:Str=>z.cps.toList) h
 dsimp only at h1
 exact String.toList_inj.mp (List.map_inj_right (fun x y e=>Char.ext (UInt32.toNat_inj.mp e)) |>.mp h1),fun h=>by rw [h]⟩
theorem zhM{xs:List D}{k:Int}(h:0<=k):zdd xs none (some k)=xs.take k.toNat:=by
 have e:k=((k.toNat:Nat):Int):=by omega
 unfold zdd
 rw [e,HT.sIx_nat,HT.sIx_none,List.drop_zero,Nat.sub_zero]
 rw [show((k.toNat:Nat):Int).toNat=k.toNat by omega]
 rw [Nat.min_def]
 split
 ·rfl
 ·rw [List.take_of_length_le (Nat.le_refl _),List.take_of_length_le (by omega)]
theorem zgo{xs:List D}{k:Int}(h:0<=k):zdd xs (some k) none=xs.drop k.toNat:=by
 have e:k=((k.toNat:Nat):Int):=by omega
 unfold zdd
 rw [e,HT.sIx_nat,HT.sIx_none]
 rw [show((k.toNat:Nat):Int).toNat=k.toNat by omega]
 rw [Nat.min_def]
 split
 ·rw [List.take_of_length_le (by rw [List.length_drop]; omega)]
 ·rw [List.drop_of_length_le (by omega),List.drop_of_length_le (by omega),List.take_nil]
theorem zpp{xs:List D}{lo hi:Option Int}{x:D}(h:x∈zdd xs lo hi):x∈xs:=by
 unfold zdd at h
 exact List.mem_of_mem_drop (List.mem_of_mem_take h)
theorem zhN(xs:List D)(lo hi:Option Int):(zdd xs lo hi).length<=xs.length:=by
 unfold zdd
 rw [List.length_take,List.length_drop]
 omega
structure Nic (k M:Nat) (d:D):Prop where
 lay:d.canLay0=true
 dep:d.depth<=k
 shw:d.showable=true
 len:d.shown.length<=M
theorem Nic.mono{k M k' M':Nat}{d:D}(h:Nic k M d)(h1:k<=k')(h2:M<=M'):Nic k' M' d:=⟨h.lay,Nat.le_trans h.dep h1,h.shw,Nat.le_trans h.len h2⟩
theorem zeU{n:Nat}{i:Int}(h:i.natAbs < 10^n)(h0:0 < n:=by decide)(h1:n<=470:=by decide):Nic 0 (n+1) (.int i):=by
 refine⟨rfl,by simp [PyData.depth],?_,?_⟩
 ·show decide (i.natAbs.log2 < 1920)=true
  refine decide_eq_true ?_
  by_cases z:i.natAbs=0
  ·rw [z]; decide
  ·have e1:10^n<=16^n:=Nat.pow_le_pow_left (by decide) n
   have e2:16^n=2^(4 * n):=by rw [Nat.pow_mul]
   have e3:i.natAbs < 2^(4 * n):=by rw [<-e2]; exact Nat.lt_of_lt_of_le h e1
   exact Nat.lt_of_lt_of_le ((Nat.log2_lt z).mpr e3) (by omega)
 ·show(PySem.Str.ofString (toString i)).length<=n+1
  rw [PySem.ofString_length]
  exact PySem.int_text_length_le10 h0 h
theorem zfV{n:Nat}{z:Str}(h:Asc n z):Nic 0 (10 * n+2) (.str z):=by
 refine⟨?_,by simp [PyData.depth],rfl,?_⟩
 ·show z.cps.all (· < 0x110000)=true
  rw [Array.all_eq_true']
  intro c hc
  have:=h.2 c (Array.mem_toList_iff.mpr hc)
  exact decide_eq_true (by omega)
 ·have:=PySem.StrLaws.reprText_len z fun c hc=>Nat.lt_trans (h.2 c hc) (by decide)
  have:=h.1
  show(reprText z).length<=_
  omega
theorem ziF:Nic 0 4 .none:=⟨rfl,by simp [PyData.depth],rfl,by decide⟩
theorem zku{k M:Nat}:∀ {ds:List D},(∀ d∈ds,Nic k M d)->PyData.canLayAll0 ds=true/\PyData.depthAll ds<=k/\PyData.showableAll ds=true/\((PyData.shownAll ds).map (·.length)).sum+2 * ds.length<=ds.length * (M+2)
 | [],_=>⟨rfl,by simp [PyData.depthAll],rfl,by simp [PyData.shownAll]⟩
 | d::ds,h=>by
  obtain⟨a0,a1,a2,a3⟩:=zku (ds:=ds) fun x hx=>h x (List.mem_cons_of_mem _ hx)
  obtain⟨b0,b1,b2,b3⟩:=h d List.mem_cons_self
  refine⟨?_,?_,?_,?_⟩
  ·show(d.canLay0 && PyData.canLayAll0 ds)=true
   rw [a0,b0]
   rfl
  ·simp only [PyData.depthAll]
   omega
  ·show(d.showable && PyData.showableAll ds)=true
   rw [a2,b2]
   rfl
  ·show((d.shown::PyData.shownAll ds).map (·.length)).sum+_<=_
   rw [List.map_cons,List.sum_cons,List.length_cons,Nat.add_mul,Nat.one_mul]
   omega
theorem zeh{n k M:Nat}{ds:List D}(h:∀ d∈ds,Nic k M d)(hn:ds.length<=n):Nic (k+1) (n * (M+2)+3) (.tuple ds):=by
 obtain⟨a0,a1,a2,a3⟩:=zku h
 refine⟨a0,?_,a2,?_⟩
 ·simp only [PyData.depth]
  omega
 ·have:=tupleText_len_le (PyData.shownAll ds)
  have e:=PyData.shownAll_length ds
  have m:ds.length * (M+2)<=n * (M+2):=Nat.mul_le_mul_right _ hn
  show(tupleText (PyData.shownAll ds)).length<=_
  omega
theorem Nic.shaped{k M:Nat}{d:D}(h:Nic k M d)(hk:k<=64):SeqAt.shaped d=true:=by
 unfold SeqAt.shaped
 rw [h.lay,Bool.true_and]
 exact decide_eq_true (Nat.le_trans h.dep hk)
theorem Nic.eqD{k M k' M':Nat}{a b:D}{neg:Bool}(ha:Nic k M a)(hb:Nic k' M' b)(hk:k<=64)(hk':k'<=64):zcR neg (.d a) (.d b)=some (.d (.bool (if neg=true then !PyData.eqv a b else PyData.eqv a b))):=by
 have ea:U.py (.d a)=some a:=rfl
 have eb:U.py (.d b)=some b:=rfl
 unfold zcR
 rw [ea,bd,eb,bd,if_pos ⟨ha.shaped hk,hb.shaped hk'⟩]
section
variable {X:Cx} {K:PySem.W.Frag}
end
section
variable {X:Cx} {pos:Pos}
end
section
variable {K:PySem.W.Frag}
def zwd:U->Option U
 | .d (.int i)=>if i.natAbs.log2 < 1920 then some (.d (.str (toString i)))else none
 | .d (.str z)=>if z.length<=sizeLine then some (.d (.str z))else none
 | _=>none
abbrev MJ:=En->Str->Option (Str×En)
def U.sr:U->Option Str
 | .d (.str z)=>some z
 | _=>none
end
section
variable {ρ:En} {me:ME} {mj:MJ} {QE:Ar×En->Prop} {QJ:Str×En->Prop} {acc z y:Str} {i:Int}
end
end L2
namespace L2
open PySem PySem.Spec PyProof.Rows PySem.NumText
abbrev ts(n:Int):Str:=PySem.Str.ofString (toString n)
end L2
namespace L2
open PySem PySem.Spec PyProof.Rows
section
variable {X:Cx} {o e f:Expr} {apos cpos:Pos} {td ty tx:TE} {k:Nat}
end
section
variable {K:PySem.W.Frag}
end
section
variable {prog:Program} {w:World} {A:Around} {E:Value->Shared->Prop} {s:Shared} {it d:Addr} {i ep:Nat} {es:Array DictEntry} {ok ov:Value}
end
section
variable {X:Cx} {elts:List Expr} {kk:Nat} {tpos:Pos}
end
section
variable {prog:Program} {w:World} {A:Around} {E:Value->Shared->Prop} {s:Shared} {z TI TO i1 i2 t1 t2:Addr} {k:Nat} {xs ys:Array Value} {x y a b:Value}
end
section
variable {prog:Program} {w:World} {A:Around} {E:Value->Shared->Prop} {s:Shared}
end
section
variable {X:Cx} {elts:List Expr} {k:Nat} {tpos:Pos}
end
section
variable {prog:Program} {w:World} {A:Around} {E:Value->Shared->Prop} {s:Shared}
end
def hK:Key->Int
 | .inl i=>hashInt i
 | .inr _=>0
def hT(ks:List Key):Int:=reduceHash (Builtin.Tuple.tupleHashOf (ks.map hK))
section
variable {X:Cx} {pins:List (Addr×Obj)} {σ:St} {H:Hp} {s:Shared} {a:Addr} {kvs:List (List Key×V)} {A:Around} {E:Value->Shared->Prop}
end
section
variable {K:PySem.W.Frag} {H:Hp}
end
section
variable {X:Cx}
end
section
variable {K:PySem.W.Frag}
end
section
variable {ρ:En} {me ma mb mc mk mi md my mv mx mo:ME} {mA mK:MA} {mt mu:MT} {mI:MI} {mg:MG} {m1 m2:MS} {i j n:Nat} {u:U} {x:D}
variable {QE:Ar×En->Prop} {QI:List D×En->Prop}
end
def zpq(K:PySem.W.Frag)(tl:TE):TI:=fun σ H R=>tl σ H fun x H1=>∃ a,x=.ref a/\(((∃ xs,SqL K H1 a xs)/\R (Itl K a) H1)\/((∃ xs,SqT K H1 a xs)/\R (Itt K a) H1))
section
variable {X:Cx} {tg:Expr}
theorem zsX{l:Expr}{tl:TE}(hl:PE X l tl):PI X tg l (zpq X.K tl):=by
 intro pins s σ H R I h
 refine thn (hl pins s σ H _ I h) fun v s1 ⟨x,H1,I1,r1,q1⟩=>?_
 obtain⟨a,e,z⟩:=q1
 subst e
 cases r1
 rcases z with ⟨hx,q⟩ | ⟨hx,q⟩
 ·obtain⟨xs,hq⟩:=hx
  obtain⟨its,rv,p,hz⟩:=I1.list hq
  refine wpAny_pyIter_list p.isList ?_
  refine⟨s1.heap.objs.size,[s1.heap.objs.size],_,_,H1,rfl,I1.kept (t':=s1.toks) fun b o e=>Heap.get?_push_of_some _ e,zkD a _,⟨_,Heap.get?_push_size _ rfl,rfl,rfl⟩,fun b hb=>?_,q⟩
  have e:b=s1.heap.objs.size:=by simpa using hb
  subst e
  exact I1.fpOk (Nat.le_refl _) (I1.hok.fresh (Nat.le_refl _))
 ·obtain⟨xs,hq⟩:=hx
  obtain⟨its,rv,p,hz⟩:=I1.tuple hq
  refine wpAny_pyIter_tuple (show s1.heap.IsTuple a its.toArray from p) ?_
  refine⟨s1.heap.objs.size,[s1.heap.objs.size],_,_,H1,rfl,I1.kept (t':=s1.toks) fun b o e=>Heap.get?_push_of_some _ e,zfY a _,⟨_,Heap.get?_push_size _ rfl,rfl,rfl⟩,fun b hb=>?_,q⟩
  have e:b=s1.heap.objs.size:=by simpa using hb
  subst e
  exact I1.fpOk (Nat.le_refl _) (I1.hok.fresh (Nat.le_refl _))
theorem zsY{l:Expr}{tl:TE}(K:PySem.W.Frag)(hK:X.K=K)(hl:Wr (PE X l tl)):Wr (PI X tg l (zpq K tl)):=hK▸⟨zsX hl.run⟩
end
def zpr:U->Option (List D)
 | .d (.list xs)=>some xs
 | .d (.tuple xs)=>some xs
 | _=>none
theorem zsZ{K:PySem.W.Frag}{te:TE}{me:ME}(h:VE K te me):VI K (zpq K te) (mIt zpr me):=by
 intro ρ σ H ds ρ' R r e q
 obtain⟨⟨a,ρ1⟩,e1,e⟩:=bind_some e
 obtain⟨u,eu,e⟩:=bind_some e
 obtain⟨xs,ex,e⟩:=bind_some e
 cases e
 refine h ρ σ H a _ _ r e1 fun v H1 g1 k1=>?_
 have p:=k1.now r g1 eu
 unfold zpr at ex
 split at ex
 ·cases ex
  obtain⟨b,ys,rfl,h1,h2⟩:=DF.lst_inv p
  refine⟨b,rfl,.inl ⟨⟨ys,h1.sq⟩,q _ _ g1 fun H2 k i=>⟨fun d ed=>?_,fun ei=>?_⟩⟩⟩
  ·obtain⟨v,ev,dv⟩:=(h2.kp k).get ed
   refine⟨⟨ys,v,(h1.kp k).sq,ev⟩,fun x H' y=>?_⟩
   obtain⟨rfl,y⟩:=y
   have:=y ys (h1.kp k).sq
   rw [ev]at this
   cases this
   exact⟨fun _ _ z=>z,dv⟩
  ·exact⟨ys,(h1.kp k).sq,by rw [h2.len]; omega⟩
 ·cases ex
  obtain⟨b,ys,rfl,h1,h2⟩:=DF.tup_inv p
  refine⟨b,rfl,.inr ⟨⟨ys,SqT.of h1⟩,q _ _ g1 fun H2 k i=>⟨fun d ed=>?_,fun ei=>?_⟩⟩⟩
  ·obtain⟨v,ev,dv⟩:=(h2.kp k).get ed
   refine⟨⟨ys,v,SqT.of (k.tup _ _ h1),ev⟩,fun x H' y=>?_⟩
   obtain⟨rfl,y⟩:=y
   have:=y ys (SqT.of (k.tup _ _ h1))
   rw [ev]at this
   cases this
   exact⟨fun _ _ z=>z,dv⟩
  ·exact⟨ys,SqT.of (k.tup _ _ h1),by rw [h2.len]; omega⟩
 ·cases ex
end L2
namespace L2
open PySem
theorem cop(r:Rat):Int.gcd r.num (r.den:Int)=1:=by
 have:=r.reduced
 exact this
theorem zmT(r:Rat):r * (r.den:Rat)=(r.num:Rat):=by
 have e:(r.num:Rat) / ((r.den:Int):Rat)=r:=by rw [<-Rat.divInt_eq_div]; exact Rat.num_divInt_den r
 have n:((r.den:Int):Rat)≠0:=fun h=>by
  have:=Rat.intCast_inj.mp (show((r.den:Int):Rat)=((0:Int):Rat) from h)
  have:=r.den_pos
  omega
 have:=Rat.div_mul_cancel (a:=(r.num:Rat)) n
 rw [e]at this
 exact this
def Bd(M B:Nat)(r:Rat):Prop:=∃ k:Int,r * (M:Rat)=(k:Rat)/\k.natAbs<=B
section
variable {M N B C:Nat} {r s:Rat}
theorem Bd.size(hM:0 < M)(h:Bd M B r):r.den<=M/\r.num.natAbs<=B:=by
 obtain⟨k,e,b⟩:=h
 have e2:r.num * (M:Int)=k * (r.den:Int):=by
  have h1:=zmT r
  have h2:((r.num * (M:Int):Int):Rat)=((k * (r.den:Int):Int):Rat):=by
   rw [Rat.intCast_mul,Rat.intCast_mul,<-h1,<-e,Rat.intCast_natCast,Rat.intCast_natCast,Rat.mul_assoc,Rat.mul_assoc,Rat.mul_comm (r.den:Rat)]
  exact Rat.intCast_inj.mp h2
 have dv:(r.den:Int)∣(M:Int):=by
  have t:(r.den:Int)∣r.num * (M:Int):=⟨k,by rw [e2,Int.mul_comm]⟩
  have u:=Int.dvd_gcd_mul_iff_dvd_mul.mpr t
  rw [Int.gcd_comm,cop]at u
  simpa using u
 obtain⟨c,hc⟩:=dv
 have dp:(0:Int) < r.den:=by have:=r.den_pos; omega
 have c0:0 < c:=by
  rcases(by omega:0 < c\/c<=0)with z | z
  ·exact z
  ·have:=Int.mul_nonneg (Int.le_of_lt dp) (show 0<=-c by omega)
   rw [Int.mul_neg,<-hc]at this
   omega
 have ek:k=r.num * c:=by
  rw [hc]at e2
  have:k * (r.den:Int)=(r.num * c) * (r.den:Int):=by rw [<-e2]; ac_rfl
  exact Int.eq_of_mul_eq_mul_right (by omega) this
 constructor
 ·have:(r.den:Int) * 1<=(r.den:Int) * c:=Int.mul_le_mul_of_nonneg_left (by omega) (by omega)
  omega
 ·rw [ek,Int.natAbs_mul]at b
  exact Nat.le_trans (Nat.le_mul_of_pos_right _ (by omega)) b
theorem Bd.neg(h:Bd M B r):Bd M B (-r):=by
 obtain⟨k,e,b⟩:=h
 exact⟨-k,by rw [Rat.neg_mul,e,Rat.intCast_neg],by rw [Int.natAbs_neg]; exact b⟩
theorem Bd.zero:Bd M B 0:=⟨0,by rw [Rat.zero_mul]; rfl,Nat.zero_le _⟩
theorem Bd.int(n:Int):Bd 1 n.natAbs (n:Rat):=⟨n,by rw [show((1:Nat):Rat)=1 from rfl,Rat.mul_one],Nat.le_refl _⟩
end
abbrev Pq(α:Type):=List (List Int×α)
section
variable {α β:Type}
end
section
variable {α:Type} [Add α] [Zero α]
end
def ins{α:Type}(x:List Int×α):Pq α->Pq α
 | []=>[x]
 | y::l=>if ztN x.1 y.1=true then x::y::l else y::ins x l
def iv(m:Nat)(r:Rat):Int:=r.num * ((m:Int) / (r.den:Int))
section
variable {α:Type} {c:α->D}
end
end L2
namespace L2
open PySem PySem.Spec PyProof.Rows
open PySem.AutoSeq1 (wpAny_loadPart')
section
variable {X:Cx}
end
end L2
namespace L2
open PySem PySem.Spec PyProof.Rows
section
variable {K:PySem.W.Frag} {ρ ρ1 ρ':En} {σ:St} {H H':Hp}
theorem Rs.free{p:Addr}{c o:HO}(r:Rs K ρ σ H)(hc:H p=some c)(m:Mo c)(n:¬Ow ρ σ p):Rs K ρ σ (upd H p o):=by
 have kp:=ze8 hc m o
 refine⟨r.len,fun i u e=>?_,r.apart⟩
 obtain⟨v,ev,q⟩:=r.rep i u e
 refine⟨v,ev,q.kp kp fun ou a c' ea ha=>?_⟩
 have ne:a≠p:=by
  rintro rfl
  exact n ⟨i,u,e,ou,by rw [ev,ea]⟩
 rw [zz ne]
 exact ha
theorem Go.free{p:Addr}{c o:HO}(g:Go K ρ σ H ρ' H')(hp:H p=none)(hc:H' p=some c)(m:Mo c)(n:¬Ow ρ' σ p):Go K ρ σ H ρ' (upd H' p o):=by
 refine⟨g.rs.free hc m n,fun a ob ha hn=>?_,g.shr,fun a ha=>?_⟩
 ·have ne:a≠p:=by
   rintro rfl
   rw [hp]at ha
   cases ha
  rw [zz ne]
  exact g.fr a ob ha hn
 ·by_cases e:a=p
  ·subst e
   exact hp
  ·rw [zz e]at ha
   exact g.dm a ha
end
section
variable {X:Cx} {elts:List Expr} {k:Nat} {tpos:Pos}
end
section
variable {ρ:En} {mk mv:ME} {mA:MA} {i:Nat} {f:List D->List D} {QE:Ar×En->Prop} {QI:List D×En->Prop}
end
end L2
namespace L2
open PySem
def ch:Nat->Nat->Nat
 | _,0=>1
 | 0,_+1=>0
 | n+1,k+1=>ch n k+ch n (k+1)
def part(a:Rat)(k j:Nat):Rat:=(ch k j:Rat) * a^(k - j)
end L2
namespace L2
open PySem PySem.Spec PyProof.Rows
open PySem.AutoSeq1 (wpAny_loadPart')
open MeetsSeq MeetsSeq2 MeetsSeq3 SeqRoads2
end L2
namespace L2
open PySem PySem.Spec PyProof.Rows
section
variable {prog:Program} {w:World} {A:Around} {E:Value->Shared->Prop} {s:Shared} {l b:Addr} {items items2:Array Value} {xs ys:List Int} {Q:Value->Shared->Prop}
end
section
variable {X:Cx} {k:Nat}
end
section
variable {K:PySem.W.Frag}
end
section
variable {X:Cx} {a b c d:Expr} {pos:Pos} {ta tb tc td:TE}
end
section
variable {K:PySem.W.Frag}
end
section
variable {f f' f'':U->U->Option U} {ma mb mc md:ME} {ρ:En} {QE:Ar×En->Prop}
end
end L2
namespace HT
open PySem PySem.Spec PyProof.Rows
section
variable {prog:Program} {w:World} {A:Around} {E:Value->Shared->Prop} {s:Shared}
end
end HT
namespace L2
open PySem PySem.Spec PyProof.Rows
section
variable {X:Cx} {e st:Expr} {te ts:TE} {pos p2:Pos}
end
section
variable {K:PySem.W.Frag}
end
def zve:R2:=fun x y H Q=>∃ a b,x=.bl a/\y=.bl b/\Q (.bl (a==b)) H
theorem zs0{X:Cx}:OpR X (compareOp .Is) zve:=by
 intro pins s σ H x y v u Q I rx ry h
 obtain⟨a,b,rfl,rfl,q⟩:=h
 cases rx
 cases ry
 exact is_bool ⟨.bl _,H,I,rfl,q⟩
def zmU:U->U->Option U
 | .d (.bool a),.d (.bool b)=>some (.d (.bool (a==b)))
 | _,_=>none
theorem zs1{K:PySem.W.Frag}:VO K zve zmU:=by
 intro x y a b u H Q ha hb e q
 unfold zmU at e
 split at e
 ·cases e
  exact⟨_,_,DF.bl_inv ha,DF.bl_inv hb,q _ _ (zbg.refl H) (DF.bl _) Nw.data⟩
 ·cases e
theorem zs2{a b:Bool}:zmU (.d (.bool a)) (.d (.bool b))=some (.d (.bool (a==b))):=rfl
section
variable {K:PySem.W.Frag}
end
section
variable {K:PySem.W.Frag}
end
end L2
namespace L2
open PySem PySem.Calls PySem.Spec PyProof.Rows
section
variable {prog:Program} {w:World} {A:Around} {E:Value->Shared->Prop} {s:Shared}
end
section
variable {K:PySem.W.Frag}
end
end L2
namespace L2
open PySem PySem.Spec PyProof.Rows
structure RoomQ (k:Nat) (A:Around):Prop where
 dp:A.depth+3 * k+5 < recursionLimit
 un:A.units+16 * k+200 < cLine
 gd:A.guards=some []
theorem RoomQ.deeper{k:Nat}{A:Around}(r:RoomQ (k+1) A)(env:Env):RoomQ k (A.deeper env) :=
 ⟨by have:=r.dp; show A.depth+1+3 * k+5 < _; omega,by have:=r.un; show A.units+3+16 * k+200 < _; omega,r.gd⟩
theorem RoomQ.depth{k:Nat}{A:Around}(r:RoomQ k A):A.depth < recursionLimit:=by have:=r.dp; omega
structure FnOkQ (P:Program) (w:World) (K:PySem.W.Frag) (mg:Str->Option Value) (base:Heap) (CX:CXT) (k:Nat) (f:Addr) (fd:FuncData) (ps:List Str) (sp:Sp):Prop where
 len:∀ vs H Q E,sp vs H Q E->vs.length=ps.length
 run:∀ (A:Around) (outer:List Env) (s:Shared) (H:Hp) (args:Args) (us:List Value) (vs:List V) (Q:VK) (E:XK),RoomQ k A->Env0 P w K mg base A outer s H->BindsTo s fd args (ps.zip us)->zM vs us->sp vs H Q E ->
  codeAny (model P w) A (.call (.ref f) args) (CR CX outer P w H s Q E) s
def cxQ(CX:CXT)(P:Program)(w:World)(K:PySem.W.Frag)(mg:Str->Option Value)(base:Heap)(N:List Str)(qual:Str)(scope:Scope)(f:Addr)(cd:Value)(A:Around)(outer:List Env)(s:Shared)(H:Hp)(E:XK):Cx :=
 { zfv CX P w K mg base N qual scope f cd A outer s H E with calm:=false }
theorem zjA{CX:CXT}{P:Program}{w:World}{K:PySem.W.Frag}{mg:Str->Option Value}{base:Heap}{N ps:List Str}{qual:Str}{scope:Scope}{f:Addr}{cd:Value}{A:Around}{outer:List Env}{s s1:Shared}{H:Hp}{E:XK}{us:List Value}{vs:List V}
  (S:FnScope N ps scope) (e0:Env0 P w K mg base A outer s H) (hl:vs.length=ps.length) (r:zM vs us)
  (x:InCallC s s.heap.objs.size (bindL (envOfC qual scope s.heap.objs.size f cd).kindOf (ps.zip us) fun _=>none) (cellsFrom (s.heap.objs.size+1) scope.names []) (bindC (envOfC qual scope s.heap.objs.size f cd).kindOf (ps.zip us) fun _=>none) s1) :
  Inv (cxQ CX P w K mg base N qual scope f cd A outer s H E) [] (za9 N vs) H s1:=by
 have hpl:ps.length<=N.length:=by have:=congrArg List.length S.pre; rw [List.length_take]at this; omega
 obtain⟨h1,tk,rfl,hk⟩:=x.done
 have noA:∀ b:Addr,b∉(cxQ CX P w K mg base N qual scope f cd A outer s H E).ex:=fun b z=>absurd (show b∈([]:List Addr) from z) (by simp)
 refine⟨⟨e0.mod,S.kind,rfl,rfl,Nat.le_refl _,fun y z c h1 h2=>?_,fun y hy=>?_,fun y c _ h=>?_,fun z=>absurd (show false=true from z) (by decide),Around.frames_deeper e0.frames,.inr ⟨rfl,rfl⟩,fun b z=>absurd z (noA b),e0.bs,e0.bsz,fun b _ _=>noA b,fun b z=>absurd z (noA b),e0.funs,e0.frf⟩,
  rfl,e0.bare,Un.kept hk,⟨_,x.toInCall.ns,fun i y v h1 h2 h3=>?_⟩,fun y c h=>⟨_,x.cell y c h⟩,e0.hok.fresh (Nat.le_refl _),fun y c h=>?_,fun p hp=>absurd (show p∈([]:List (Addr×Obj)) from hp) (by simp),e0.hok.kept hk,?_⟩
 ·exact name_of_addr x.apart (PySem.mem_of_lookup h1) (PySem.mem_of_lookup h2)
 ·have hy:scope.names.lookup y=some .cell\/scope.names.lookup y=some .free:=hy
  rcases hy with hy | hy
  ·exact zeD hy
  ·exact absurd rfl (S.nofree _ (PySem.mem_of_lookup hy))
 ·exact Nat.le_of_lt (x.above y c (PySem.mem_of_lookup h))
 ·have hi:i < vs.length:=by
   unfold za9 at h2
   by_cases hi:i < vs.length
   ·exact hi
   ·rw [List.getElem?_append_right (by simpa using hi)]at h2
    rw [List.getElem?_replicate]at h2
    split at h2<;>cases h2
  have ha:vs[i]?=some v:=by
   unfold za9 at h2
   rw [List.getElem?_append_left (by simpa using hi),List.getElem?_map]at h2
   cases e:vs[i]? with
   | none=>rw [e]at h2; cases h2
   | some a=>rw [e]at h2; cases h2; rfl
  obtain⟨u,hu,rv⟩:=r.get ha
  have hp:ps[i]?=some y:=by
   rw [<-S.pre,List.getElem?_take_of_lt (by omega)]; exact h1
  have ndP:ps.Nodup:=by rw [<-S.pre]; exact S.nd.sublist (List.take_sublist _ _)
  refine⟨u,rv,?_⟩
  rcases S.par y (List.mem_of_getElem? hp)with k | k
  ·exact .inl ⟨k,ze2 ndP hp hu k⟩
  ·obtain⟨c,e⟩:=zeD (n:=s.heap.objs.size+1) k
   refine .inr ⟨.inl k,c,e,?_⟩
   have q:=x.cell y c e
   rw [ze3 ndP hp hu (by show scope.names.lookup y≠_; rw [k]; decide)]at q
   exact q
 ·exact e0.hok.fresh (Nat.le_of_lt (x.above y c (PySem.mem_of_lookup h)))
 ·unfold za9
  show _=N.length
  rw [List.length_append,List.length_map,List.length_replicate]
  omega
theorem zs3{CX:CXT}{P:Program}{w:World}{K:PySem.W.Frag}{mg:Str->Option Value}{base:Heap}{k:Nat}{f:Addr}{name qual:Str}{params:Arguments}{body:List Stmt}{scope:Scope}{dV kV doc pm cdv ct oc:Value}{an od:Option Addr}
  {osl:Array (Option Value)} {N ps:List Str} {sp:Sp} (lk:K.lookup f=some ⟨oc,od,.func (PySem.W.fnOf name qual params body scope dV kV doc pm an cdv ct),osl⟩) (hcd:PySem.W.codeIn K cdv qual=true) (S:FnScope N ps scope)
  (len:∀ vs H Q E,sp vs H Q E->vs.length=ps.length)
  (hbody:∀ (A:Around) (outer:List Env) (s:Shared) (H:Hp) (vs:List V) (Q:VK) (E:XK),RoomQ k (A.deeper (envOfC qual scope s.heap.objs.size f cdv))->sp vs H Q E ->
   ∃ t,PSs (cxQ CX P w K mg base N qual scope f cdv A outer s H E) body t/\t { nx:=fun _ H'=>Q .non H',rt:=Q } (za9 N vs) H) :
  FnOkQ P w K mg base CX (k+1) f (PySem.W.fnOf name qual params body scope dV kV doc pm an cdv ct) ps sp:=by
 refine⟨len,fun A outer s H args us vs Q E hr e0 hb r hsp=>?_⟩
 have hl:=len _ _ _ _ hsp
 have KX:K.In s.heap:=e0.mod.kin.keeps fun b o e=>(e0.bs b o e).1
 have lim:s.heap.NoLimit:=e0.mod.nolimit.keeps fun b o e=>(e0.bs b o e).1
 have hkind:∀ y∈ps.zip us,scope.names.lookup y.1=some .local\/(scope.names.lookup y.1=some .cell/\((cellsFrom (s.heap.objs.size+1) scope.names []).lookup y.1).isSome=true):=fun⟨n,v⟩ hy=>by
  rcases S.par n (List.of_mem_zip hy).1 with q | q
  ·exact .inl q
  ·exact .inr ⟨q,PySem.W.cellsFrom_some _ _ _ (.inl q)⟩
 refine codeAny_call_function hr.depth (KX _ _ lk) rfl S.co S.gen rfl (PySem.W.codeRec_of KX hcd) (hb _ _ _ _ ?_)
 refine wpAny_newFunctionEnv_cells S.kind hkind fun env he s1 x=>?_
 subst he
 refine⟨lim.keeps x.toInCall.keep,codeAny_func ?_⟩
 obtain⟨t,ht,hq⟩:=hbody A outer s H vs Q E (hr.deeper _) hsp
 have I:Inv (cxQ CX P w K mg base N qual scope f cdv A outer s H E) [] (za9 N vs) H s1:=zjA S e0 hl r x
 refine wpAny_mono (ht [] s1 (za9 N vs) H _ I hq) (fun fl s' hs=>?_) fun e s' hs=>hs
 have fin:∀ {σ':St} {H':Hp} {v:V} {u:Value},Inv (cxQ CX P w K mg base N qual scope f cdv A outer s H E) [] σ' H' s'->zaj v u->Q v H'->CE outer P w H s Q u s' :=
  fun{σ' H' v u} J rv q=>⟨v,H',J.os,J.bare,J.base,J.hok,rv,q⟩
 cases fl with
 | ret u =>
  obtain⟨v,σ',H',J,rv,q⟩:=hs
  exact fin J rv q
 | next =>
  obtain⟨σ',H',J,q⟩:=hs
  exact fin (v:=V.non) (u:=Value.none) J rfl q
 | brk =>
  obtain⟨_,_,_,q⟩:=hs
  exact False.elim q
 | cont =>
  obtain⟨_,_,_,q⟩:=hs
  exact False.elim q
section
variable {X:Cx} {CX:CXT} {k:Nat} {f C:Addr} {fd:FuncData} {ps:List Str} {sp:Sp} {dvs:List V} {ds:List Value} {E:XK} {x m:Str} {p pos apos:Pos} {e o:Expr} {es:List Expr} {ta:TE} {t:TA}
theorem zps{pins:List (Addr×Obj)}{σ:St}{H:Hp}{s:Shared}{Q:VK}{us:List Value}{vs:List V}(F:FnOkQ X.prog X.w X.K X.mg X.base CX k f fd ps sp)(hr:RoomQ k X.A)(hb:zcX X.K fd ps ds)(hd:zM dvs ds)(hx:zet CX X E)
  (I:Inv X pins σ H s) (r:zM vs us) (h:sp (vs++dvs) H Q E):wpAny (model X.prog X.w) X.A (call (.ref f) us) (EP X pins σ Q) X.xe s:=by
 have r2:zM (vs++dvs) (us++ds):=r.append hd
 have hl:(us++ds).length=ps.length:=by rw [<-r2.length]; exact F.len _ _ _ _ h
 refine wpAny_call (codeAny_mono (F.run X.A X.stack s H ⟨us,[]⟩ (us++ds) (vs++dvs) Q E hr I.env0 (hb s us I.kIn hl) r2 h) fun r s' hq=>?_)
 cases r with
 | error e=>exact hx pins σ H s e s' I hq
 | ok fl =>
  cases fl with
  | ret u=>exact I.after hq
  | next=>exact False.elim hq
  | brk=>exact False.elim hq
  | cont=>exact False.elim hq
theorem zmV(F:FnOkQ X.prog X.w X.K X.mg X.base CX k f fd ps sp)(hr:RoomQ k X.A)(hg:Gl X x)(hm:X.mg x=some (.ref f))(hk:PySem.W.keepIn X.K (.ref f)=true)(hb:zcX X.K fd ps ds)(hd:zM dvs ds)(hx:zet CX X E)
  (ha:PA X (e::es) t) (hdb:(x==("__debug__":Str))=false:=by decide) (he:starEach (e::es) X.env=(false,eval e X.env)::starEach es X.env:=by rfl) (hpl:(backTo pos (starEach es X.env)).any (·.1)=false:=by rfl) :
  PE X (.Call (.Name x p) (e::es) [] pos) (zpP sp dvs E t):=by
 intro pins s σ H Q I h
 refine wpAny_Call_Name_kw (zdE I hg hm ?_ hdb)
 refine PySem.W.callWith_K (h₀:=X.base) I.ok.mod.kin hk (thn (ha pos pins s σ H _ I h) fun us s1 ⟨vs,H1,I1,r,q⟩=>⟨I1.kIn,?_⟩) he hpl
 exact zps F hr hb hd hx I1 r q
end
structure CalQ (P:Program) (w:World) (K:PySem.W.Frag) (mg:Str->Option Value) (base:Heap) (x:Str) (k:Nat) (ps:List Str) (sp:Sp):Prop where
 ex:∃ (f:Addr) (fd:FuncData),FnOkQ P w K mg base CX0 k f fd ps sp/\zcX K fd ps []/\PySem.W.keepIn K (.ref f)=true/\mg x=some (.ref f)
section
variable {X:Cx} {k:Nat} {ps:List Str} {sp:Sp} {x:Str} {p pos:Pos} {e:Expr} {es:List Expr} {t:TA}
theorem zs4(C:CalQ X.prog X.w X.K X.mg X.base x k ps sp)(hr:RoomQ k X.A)(hg:Gl X x)(ha:Wr (PA X (e::es) t))(hdb:(x==("__debug__":Str))=false:=by decide)
  (he:zac e=true:=by rfl) (hpl:es.all zac=true:=by rfl):Wr (PE X (.Call (.Name x p) (e::es) [] pos) (zn0 sp t)):=by
 obtain⟨f,fd,F,hb,hk,hm⟩:=C.ex
 refine⟨fun pins s σ H Q I h=>?_⟩
 refine zmV (dvs:=[]) (E:=E0) F hr hg hm hk hb .nil zlQ ha.run hdb (zb9 he) (zcn hpl) pins s σ H Q I ?_
 show t σ H fun vs H1=>sp (vs++[]) H1 Q E0
 have z:(fun(vs:List V) (H1:Hp)=>sp (vs++[]) H1 Q E0)=fun vs H1=>sp vs H1 Q E0:=by
  funext vs H1
  rw [List.append_nil]
 rw [z]
 exact h
theorem Room.held{A:Around}{v:Option Value}(hr:Room k A):RoomQ k (A.mark v):=⟨hr.dp,hr.un,hr.gd⟩
end
section
variable {K:PySem.W.Frag} {pn:List Nat}
theorem Fun.okQ{P:Program}{w:World}{mg:Str->Option Value}{base:Heap}{x qual:Str}{st:Stmt}{f:Addr}{fd:FuncData}{N ps:List Str}{k n nn:Nat}{m:MS}(F:Fun K x qual st f fd)(S:FnScope N ps (zo st))(hps:ps.length=n)(hN:N.length=nn)(hnn:n<=nn)
  (hbody:∀ (cdv:Value) (A:Around) (outer:List Env) (s:Shared) (H:Hp) (E:XK),RoomQ k (A.deeper (envOfC qual (zo st) s.heap.objs.size f cdv)) ->
   ∃ t,Wr (PSs (cxQ CX0 P w K mg base N qual (zo st) f cdv A outer s H E).nox (zK st) t)/\VS K pn EX0 t m):FnOkQ P w K mg base CX0 (k+1) f fd ps (spV K n (zcm nn pn m)):=by
 obtain⟨oc,od,kV,doc,pm,an,cdv,ct,osl,rfl,lk,hcd⟩:=F.ex
 refine zs3 lk hcd S (fun vs H Q E h=>?_) fun A outer s H vs Q E hr h=>?_
 ·obtain⟨us,r,outs,hl,rs,_⟩:=h
  have:=rs.len
  unfold sm smV at this
  simp at this
  omega
 obtain⟨us,r,outs,hl,rs,ef,q⟩:=h
 obtain⟨t,wt,vt⟩:=hbody cdv A outer s H E hr
 refine⟨t,wt.run.nox,?_⟩
 obtain⟨fl,em,ef⟩:=bind_some ef
 have go:∀ (ρ':En),zas pn ρ' 0 us=some outs->Sn K pn (za9 N vs) (Ow (sm us) (smV vs)) H H (sm us++List.replicate (N.length - us.length) none) (za9 N vs) H:=fun ρ' ho=>zgf rs (by omega) ho
 subst hN
 cases fl with
 | nx ρ' =>
  obtain⟨os,eo,ef⟩:=bind_some (show(zas pn ρ' 0 us).bind _=_ from ef)
  cases ef
  refine vt _ _ _ _ _ _ _ (.nx ρ') _ (go ρ' eo) em fun σ' H' s'=>?_
  exact q _ _ (zex rs s' eo) .non Nw.data
 | rt u ρ' =>
  obtain⟨os,eo,ef⟩:=bind_some (show(zas pn ρ' 0 us).bind _=_ from ef)
  cases ef
  refine vt _ _ _ _ _ _ _ (.rt r ρ') _ (go ρ' eo) em fun v σ' H' s' p n'=>?_
  exact q _ _ (zex rs s' eo) p n'
 | bk=>cases ef
 | ct=>cases ef
 | ex=>cases ef
end
section
variable {prog:Program} {w:World} {A:Around} {E:Value->Shared->Prop} {s:Shared}
abbrev kw1(k:Tok):List (Str×Value):=[(Str.ofString "start",.int 1 k)]
theorem zvf{self t:Value}{k:Tok} :
  Meets (Builtin.«object.__init__» ⟨[self,t],kw1 k⟩) (fun _ R s=>s.TypeIs self "enumerate"/\R (.ok (.ret .none)) s):=by
 refine Meets.of_wp fun prog w A R s ⟨hT,hq⟩=>?_
 have hl:=(F.called_enumerate).init.lookup
 have hm:=(F.called_enumerate).made
 repeat (any_goals first | assumption | wp_step)
 exact⟨_,rfl,hq⟩
theorem zk9(t:Addr)(k:Tok)(items:Array Value)(n:Nat)(dct:Option Addr)(sl:Array (Option Value)) :
  Meets (Builtin.«enumerate.__new__» ⟨[.type "enumerate",.ref t],kw1 k⟩) (fun _ R s=>s.heap.get? t=some { cls:=.type "tuple",dict:=dct,data:=.seq items n,slots:=sl } /\
   R (.ok (.ret (.ref (s.heap.push { cls:=.type "tuple_iterator",data:=.fields #[.ref t,.int 0 0] }).objs.size)))
    { s with heap:=(s.heap.push { cls:=.type "tuple_iterator",data:=.fields #[.ref t,.int 0 0] }).push { cls:=.type "enumerate",data:=.fields #[.none,.bool false,.ref s.heap.objs.size,rawInt 1,.none,.none] } }) :=
 .of_wp fun prog w A R s h=>by
  obtain⟨hp,g,d,tk,os⟩:=s
  obtain⟨hl,h⟩:=h
  have hsub:=sub_enumerate
  have hT:Heap.IsTuple (Shared.heap ⟨hp,g,d,tk,os⟩) t items:=⟨_,hl,rfl,n,rfl⟩
  wp_walk using PySem.AutoSeq1.wpAny_loadPart' hl
  refine wpAny_stack_any fun st=>wpAny_pure ?_
  split
  ·rename_i c _ _ _ _ _
   cases(c==Value.type "enumerate")
   ·wp_walk using PySem.AutoSeq1.wpAny_loadPart' hl,wpAny_pyIter_tuple hT
    exact⟨_,rfl,h⟩
   ·wp_walk using PySem.AutoSeq1.wpAny_loadPart' hl,wpAny_pyIter_tuple hT
    exact⟨_,rfl,h⟩
  ·wp_walk using PySem.AutoSeq1.wpAny_loadPart' hl,wpAny_pyIter_tuple hT
   exact⟨_,rfl,h⟩
theorem zla(t:Value)(k:Tok):checkTypeCall "enumerate" ⟨[t],kw1 k⟩=pure ():=by
 kernel_rfl
theorem zmW(t:Value)(k:Tok):checkBuiltinCall "enumerate.__new__" ⟨[.type "enumerate",t],kw1 k⟩=pure ():=by
 kernel_rfl
theorem zlb(o t:Value)(k:Tok):argsOk "object.__init__" ⟨[o,t],kw1 k⟩:=by unfold argsOk; kernel_rfl
theorem zjB{t:Addr}{k:Tok}{items:Array Value}{Q:Value->Shared->Prop}(hT:s.heap.IsTuple t items)
  (h:∀ h',IsEnum h' (s.heap.objs.size+1) s.heap.objs.size 1 .none->h'.IsTupleIter s.heap.objs.size t 0->(∀ b o,s.heap.get? b=some o->h'.get? b=some o)->Q (.ref (s.heap.objs.size+1)) { s with heap:=h' }) :
  wpAny (model prog w) A (call (.type "enumerate") [.ref t] (kw1 k)) Q E s:=by
 obtain⟨⟨c,dct,dt,sl⟩,hl,hc,n,hd⟩:=hT
 replace hc:c=.type "tuple":=hc
 replace hd:dt=.seq items n:=hd
 subst hc hd
 have ft:=F.called_enumerate
 obtain⟨c1,tl,mro⟩:=ft.mro
 have made:=ft.made
 have sub:=ft.sub
 have n1:=ft.notType
 have n2:=ft.canCreate
 have ct:=zla (.ref t) k
 refine wpAny_call (codeAny_of_tree ?_)
 show wpAny _ _ (callAny (.type "enumerate") ⟨[.ref t],kw1 k⟩) _ _ _
 refine wpAny_pure ⟨Code.quiet_builtin _ (by decide +kernel),codeAny_builtin F.entry_type_call ?_⟩
 rw [Around.under_plain (weight_type_call_type "enumerate" [.ref t] (kw1 k)) (units_type_call_type "enumerate" [.ref t] (kw1 k))]
 repeat (any_goals first | assumption | wp_step)
 have hz:(s.heap.push { cls:=.type "tuple_iterator",data:=.fields #[.ref t,.int 0 0] }).objs.size=s.heap.objs.size+1:=Heap.size_push ..
 have he:IsEnum ((s.heap.push { cls:=.type "tuple_iterator",data:=.fields #[.ref t,.int 0 0] }).push
   { cls:=.type "enumerate",data:=.fields #[.none,.bool false,.ref s.heap.objs.size,rawInt 1,.none,.none] }) (s.heap.objs.size+1) s.heap.objs.size 1 .none:=by
  have z:=Heap.get?_push_size (s.heap.push { cls:=.type "tuple_iterator",data:=.fields #[.ref t,.int 0 0] })
   (o:={ cls:=.type "enumerate",data:=.fields #[.none,.bool false,.ref s.heap.objs.size,rawInt 1,.none,.none] }) rfl
  rw [hz]at z
  exact z
 have fin:=h _ he ⟨_,Heap.get?_push_of_some _ (Heap.get?_push_size _ rfl),rfl,rfl⟩ fun b o x=>Heap.get?_push_of_some _ (Heap.get?_push_of_some _ x)
 refine codeAny_mono (codeAny_call_builtin ft.plain F.entry_enumerate_new (wpAny_of_eq (zmW (.ref t) k) (zk9 t k items n dct sl prog w A.in1 (wants (fun v s'=>v=.ref (s.heap.objs.size+1)/\s'={ s with heap:=(s.heap.push { cls:=.type "tuple_iterator",data:=.fields #[.ref t,.int 0 0] }).push { cls:=.type "enumerate",data:=.fields #[.none,.bool false,.ref s.heap.objs.size,rawInt 1,.none,.none] } }) E) s ⟨hl,by rw [hz]; exact⟨rfl,rfl⟩⟩))) fun r s₁ hr=>?_
 cases r with
 | error e=>exact hr
 | ok fl =>
  cases fl with
  | ret obj =>
   obtain⟨rfl,rfl⟩:=hr
   have ty:Shared.TypeIs { s with heap:=(s.heap.push { cls:=.type "tuple_iterator",data:=.fields #[.ref t,.int 0 0] }).push { cls:=.type "enumerate",data:=.fields #[.none,.bool false,.ref s.heap.objs.size,rawInt 1,.none,.none] } } (.ref (s.heap.objs.size+1)) "enumerate":=⟨_,he,rfl⟩
   have li:=ft.init.lookup
   have bi:=ft.init.bind (.ref (s.heap.objs.size+1))
   repeat (any_goals first | assumption | wp_step)
   refine codeAny_mono (codeAny_call_builtin ft.init.plain F.entry_object_init (ft.init.check _ _ _ _ _ _ _ _ ty (zlb _ _ _) (zvf prog w A.in1 (wants (fun r s₂=>r=.none/\Q (.ref (s.heap.objs.size+1)) s₂) E) _ ⟨ty,rfl,fin⟩))) fun r₂ s₂ hr₂=>?_
   cases r₂ with
   | error e=>exact hr₂
   | ok f2 =>
    cases f2 with
    | ret r =>
     obtain⟨rfl,hq⟩:=hr₂
     repeat (any_goals first | assumption | wp_step)
    | _=>exact hr₂.elim
  | _=>exact hr.elim
theorem cwK{M:Model}{pos:Pos}{T:String}{as:List (Bool×Sem Value)}{ks:List (Option Str×Sem Value)}{Q:Value->Shared->Prop}(pl:as.any (·.1)=false)(kn:ks.any (·.1.isNone)=false)
  (h:wpAny M A (evalArgs (.type T) true as ks) (fun a z=>wpAny M A (call (.type T) a.pos a.kw) Q E z) E s):wpAny M A (callWith pos (.type T) [] as ks) Q E s:=by
 unfold callWith
 refine wpAny_bind (wpAny_holding (wpAny_mono h (fun a z hz=>wpAny_bind (wpAny_standAt ?_)) fun _ _ q=>q))
 simp only [pl,kn,Bool.or_false]
 refine wpAny_bind (wpAny_pure ?_)
 exact wpAny_bind (wpAny_mono hz (fun _ _ q=>wpAny_bind (wpAny_holding (wpAny_point (wpAny_pure q)))) fun _ _ q=>q)
end
theorem zfs{prog:Program}{w:World}{A:Around}{it:Addr}{fp:List Addr}{n:Nat}{P:Nat->Value->Prop}{St:Nat->Heap->Prop}(D:Draws prog w A it fp n P St) :
  Draws prog w A it fp (n+1) (fun j v=>1<=j/\P (j - 1) v) (fun j h=>1<=j/\St (j - 1) h) where
 live:=fun _ _ st=>D.live _ _ st.2
 frame:=fun _ _ _ st hk=>⟨st.1,D.frame _ _ _ st.2 hk⟩
 item:=fun j s Q E hj st q=>D.item (j - 1) s Q E (by have:=st.1; omega) st.2 fun x h' tk hP hS sb=>q x h' tk ⟨st.1,hP⟩ ⟨by omega,by
  have e:j+1 - 1=j - 1+1:=by have:=st.1; omega
  rw [e]; exact hS⟩ sb
 done:=fun s Q E st q=>D.done s Q E st.2 q
def zs5(K:PySem.W.Frag)(a:Addr):It :=
 ⟨fun i H=>∃ xs x,SqT K H a xs/\xs[i]?=some x,fun i H x H'=>∃ T,H T=none/\x=.ref T/\∀ xs v,SqT K H a xs->xs[i]?=some v->H'=upd H T (.tup [.int ((i+1:Nat):Int),v]),fun i H=>∃ xs,SqT K H a xs/\xs.length=i⟩
theorem zjC{P:Program}{w:World}{K:PySem.W.Frag}{elts:List Expr}{k:Nat}{pos:Pos}(e it t:Addr)(hei:e≠it)(hte:t≠e)(hti:t≠it) :
  Turn P w K (.Tuple elts k pos) (zs5 K t) [e,it] e (fun i h=>(∃ old,IsEnum h e it ((i+1:Nat):Int) old)/\h.IsTupleIter it t i) where
 mem:=by simp
 obj:=fun i h st b hb=>by
  obtain⟨⟨old,he⟩,⟨o,ho,_,hd⟩⟩:=st
  rcases List.mem_cons.mp hb with z | z
  ·subst z
   exact⟨_,he,fun v q=>by
    have q':Data.fields _=Data.cell v:=q
    cases q'⟩
  ·rw [List.mem_singleton.mp z]
   exact⟨o,ho,fun v q=>by rw [hd]at q; cases q⟩
 keep:=fun i h h' st kk=>by
  obtain⟨⟨old,he⟩,⟨o,ho,hc,hd⟩⟩:=st
  exact⟨⟨old,kk e (by simp) _ he⟩,⟨o,kk it (by simp) _ ho,hc,hd⟩⟩
 item:=by
  intro X hP hw hK hc i pins s σ H E I hf st hg
  subst hP hw hK
  obtain⟨xs,x,hq,hx⟩:=hg
  obtain⟨its,rv,ht,hz⟩:=I.tuple hq
  have hi:i < its.toArray.size:=by
   rw [List.size_toArray,<-rv.length]
   exact(List.getElem?_eq_some_iff.mp hx).1
  have W:=WalksT.enumerateD (zfs (zde (prog:=X.prog) (w:=X.w) (A:=X.A.in1) (I.ok.hd hc) it t hti its.toArray)) e hei (by simp [hei,Ne.symm hte]) (by simp)
  refine W.item (i+1) s _ _ (Nat.succ_lt_succ hi) ⟨st.1,Nat.succ_le_succ (Nat.zero_le _),st.2,ht⟩ fun T vals h1 tk hP hT isT mid kk=>?_
  refine⟨_,rfl,W.go elts k pos (i+1) T { s with heap:=h1,toks:=tk } _ _ mid fun h2 st2 kk2=>?_⟩
  obtain⟨tt,u,⟨_,hu⟩,rfl⟩:=hP
  have apart:=W.apart _ _ _ mid
  have I2:Inv X pins σ H { s with heap:=h2,toks:=tk }:=I.turnedW (wr:=[e,it]) (fun b o hb q=>kk2 b o hb (kk b o hb q)) hf
  have fT:zeC X pins H T:=I.fpOk hT (I.hok.fresh hT)
  have ru:zaj x u:=by
   obtain⟨u',eu,r⟩:=rv.get hx
   have:u'=u:=by
    have z:its[i]?=some u:=by simpa using hu
    rw [eu]at z
    exact Option.some.inj z
   rw [<-this]
   exact r
  obtain⟨oT,g1,g2,nT,g3⟩:=isT
  have I3:Inv X pins σ (upd H T (.tup [.int ((i+1:Nat):Int),x])) { s with heap:=h2,toks:=tk }:=I2.track fT (Nat.le_trans I.sz hT) ⟨by show 2<=sizeLine; decide,[.int ((i+1:Nat):Int) tt,u],.cons ⟨tt,rfl⟩ (.cons ru .nil),oT,kk2 T oT apart g1,g2,nT,g3⟩
  refine⟨.ref T,_,I3,rfl,⟨T,I.hok.fresh hT,rfl,fun xs' v hq' hv=>?_⟩,⟨?_,st2.2.2.1⟩,fun b hb=>?_⟩
  ·have:=I.tuple_inj hq hq'
   subst this
   rw [hx]at hv
   cases hv
   rfl
  ·exact st2.1
  ·have ne:b≠T:=fun z=>apart (by rw [<-z]; exact hb)
   rw [zz ne]
   exact(hf b hb).1
 done:=by
  intro X hP hw hK hc i pins s σ H E I hf st hg
  subst hP hw hK
  obtain⟨xs,hq,hl⟩:=hg
  obtain⟨its,rv,ht,hz⟩:=I.tuple hq
  have hi:i=its.toArray.size:=by
   rw [List.size_toArray,<-rv.length]
   exact hl.symm
  have W:=WalksT.enumerateD (zfs (zde (prog:=X.prog) (w:=X.w) (A:=X.A.in1) (I.ok.hd hc) it t hti its.toArray)) e hei (by simp [hei,Ne.symm hte]) (by simp)
  refine W.done s _ _ ?_ fun h1 tk kk=>⟨rfl,I.turnedW (wr:=[e,it]) kk hf⟩
  rw [<-hi]
  exact⟨st.1,Nat.succ_le_succ (Nat.zero_le _),st.2,ht⟩
 self:=fun _ _ _ _ _ st h=>by
  obtain⟨⟨old,he⟩,_⟩:=st
  exact wpAny_pyIter_enum he h
section
variable {X:Cx} {elts:List Expr} {k:Nat} {tpos:Pos}
def zmX(K:PySem.W.Frag)(ta:TA):TI:=fun σ H R=>ta σ H fun vs H1=>∃ a,vs=[.ref a]/\(∃ xs,SqT K H1 a xs)/\R (zs5 K a) H1
theorem zmY{a:Expr}{ta:TA}{p pos kp cp:Pos}{j:Nat}(K:PySem.W.Frag)(hK:X.K=K)(hg:Gl X "enumerate")(hm:X.mg "enumerate"=none)(ha:Wr (PA X [a] ta))(hs:zac a=true:=by rfl) :
  Wr (PI X (.Tuple elts k tpos) (.Call (.Name "enumerate" p) [a] [⟨some "start",.Constant (.int 1) j cp,kp⟩] pos) (zmX K ta)):=by
 subst hK
 refine⟨?_⟩
 intro pins s σ H R I h
 have hk:Wr (PK X [⟨some "start",.Constant (.int 1) j cp,kp⟩] (zcb (tC (.int 1)) zes)):=zn5 zi zri
 refine wpAny_Call_Name_kw (zeq I hg hm boot_enumerate ?_ (by decide) (by decide))
 have e1:backTo pos (starEach [a] X.env)=(false,eval a X.env)::backTo pos (starEach [] X.env):=by rw [zb9 hs]; rfl
 have e2:(backTo pos (starEach [a] X.env)).any (·.1)=false:=zcn (by rw [List.all_cons,hs]; rfl)
 refine cwK e2 rfl ?_
 rw [e1]
 refine evalArgs_kwB rfl ?_
 rw [<-e1]
 refine thn (ha.run pos pins s σ H _ I h) fun us s1 ⟨vs,H1,I1,r1,q1⟩=>thn (hk.run pos pins s1 σ H1 (fun zs H2=>zs=[.int 1]/\∃ a,vs=[.ref a]/\(∃ xs,SqT X.K H2 a xs)/\R (zs5 X.K a) H2) I1 ⟨rfl,q1⟩) fun ws s2 ⟨zs,H2,I2,r2,⟨ez,q2⟩⟩=>?_
 obtain⟨t,e,⟨xs,hq⟩,q⟩:=q2
 subst e
 subst ez
 obtain⟨u,rfl,ru⟩:=zdU r1
 cases ru
 obtain⟨w1,rfl,rw1⟩:=zdU r2
 obtain⟨tk,rfl⟩:=rw1
 obtain⟨its,rv,ht,hz⟩:=I2.tuple hq
 have tl:t < s2.heap.objs.size:=by
  obtain⟨o,e,_⟩:=ht
  exact Heap.lt_size e
 refine zjB (show s2.heap.IsTuple t its.toArray from ht) fun h' he hit kk=>?_
 have I3:Inv X pins σ H2 { s2 with heap:=h' }:=I2.kept (t':=s2.toks) kk
 refine wpAny_pyIter_enum he ?_
 refine⟨s2.heap.objs.size+1,[s2.heap.objs.size+1,s2.heap.objs.size],_,_,H2,rfl,I3,zjC (s2.heap.objs.size+1) s2.heap.objs.size t (Nat.succ_ne_self _) (Nat.ne_of_lt (Nat.lt_succ_of_lt tl)) (Nat.ne_of_lt tl),⟨⟨_,he⟩,hit⟩,fun b hb=>?_,q⟩
 rcases List.mem_cons.mp hb with z | z
 ·subst z
  exact I2.fpOk (Nat.le_succ _) (I2.hok.fresh (Nat.le_succ _))
 ·rw [List.mem_singleton.mp z]
  exact I2.fpOk (Nat.le_refl _) (I2.hok.fresh (Nat.le_refl _))
end
section
variable {K:PySem.W.Frag}
def zhO(ma:MA):MI:=fun ρ=>(ma ρ).bind fun p=>(za2 p.2 p.1).bind fun us=>match us with
 | [.d (.tuple ds)]=>some (zb4 1 ds,p.2)
 | _=>none
theorem zmZ{ta:TA}{ma:MA}(h:VAs K ta ma):VI K (zmX K ta) (zhO ma):=by
 intro ρ σ H ds ρ' R r e q
 obtain⟨⟨as,ρ1⟩,e1,e⟩:=bind_some e
 obtain⟨us,eu,e⟩:=bind_some e
 refine h ρ σ H as ρ1 _ r e1 fun vs H1 g1 s1=>?_
 have rp:=s1.rpl r g1 eu
 dsimp only at e
 split at e
 ·rename_i xs
  cases e
  cases rp with
  | cons h1 t =>
   cases t
   obtain⟨b,ys,rfl,h1,h2⟩:=DF.tup_inv h1
   refine⟨b,rfl,⟨ys,SqT.of h1⟩,q _ _ g1 fun H2 k i=>⟨fun d ed=>?_,fun ei=>?_⟩⟩
   ·obtain⟨x,ex,rfl⟩:=zcG ed
    obtain⟨v,ev,dv⟩:=(h2.kp k).get ex
    refine⟨⟨ys,v,SqT.of (k.tup _ _ h1),ev⟩,fun x H' y=>?_⟩
    obtain⟨T,nT,rfl,y⟩:=y
    cases y ys v (SqT.of (k.tup _ _ h1)) ev
    have sm:=zaT nT (.tup [.int ((i+1:Nat):Int),v])
    refine⟨sm,.tup zA (.cons ?_ (.cons (dv.kp sm.kp) .nil))⟩
    rw [Nat.add_comm 1 i]
    exact .int _
   ·exact⟨ys,SqT.of (k.tup _ _ h1),by rw [zbK]at ei; rw [h2.len]; exact ei.symm⟩
 ·cases e
end
end L2
namespace L2
open PySem
def zhP:List U->Option (List D)
 | [.d (.tuple ds)]=>some (zb4 1 ds)
 | _=>none
theorem zm0{ds:List D}:zhP [.d (.tuple ds)]=some (zb4 1 ds):=rfl
section
variable {mA:MA} {ρ:En} {QI:List D×En->Prop}
theorem zm1:Wo (zhO mA ρ) QI=Wo (mA ρ) (Co (fun p=>(za2 p.2 p.1).bind fun us=>(zhP us).bind fun ds=>some (ds,p.2)) ⟨0⟩ QI):=by
 have e:zhO mA ρ=(mA ρ).bind fun p=>(za2 p.2 p.1).bind fun us=>(zhP us).bind fun ds=>some (ds,p.2):=bind_fn fun p=>bind_fn fun us=>by
  unfold zhP
  split<;>rfl
 rw [e,zx]
end
end L2
namespace L2
open PySem PySem.Spec PyProof.Rows
open Classical in
noncomputable def zcO(i:Nat)(ds0:List D)(mg:MG)(mb:MS):List D->En->Option Fl
 | [],ρ=>if ρ[i]?=some (some (.l ds0))then some (.nx ρ)else none
 | d::ds,ρ=>if ρ[i]?=some (some (.l ds0))then(mg d ρ).bind fun ρ1=>(mb ρ1).bind fun f=>match f with
  | .nx ρ2=>zcO i ds0 mg mb ds ρ2
  | .ct ρ2=>zcO i ds0 mg mb ds ρ2
  | .bk ρ2=>some (.nx ρ2)
  | .rt u ρ2=>some (.rt u ρ2)
  | .ex x ρ2=>some (.ex x ρ2)else none
noncomputable def zgp(i:Nat)(mg:MG)(mb:MS):MS:=fun ρ=>match ρ[i]? with
 | some (some (.l ds))=>zcO i ds mg mb ds ρ
 | some (some (.d (.tuple ds)))=>zdf mg mb ds ρ
 | _=>none
section
variable {K:PySem.W.Frag} {pn:List Nat} {EX:EXT}
theorem zgq{i:Nat}{ds0 ds:List D}{mg:MG}{mb:MS}{ρ:En}{f:Fl}(h:zcO i ds0 mg mb ds ρ=some f):ρ[i]?=some (some (.l ds0)):=by
 cases ds with
 | nil =>
  unfold zcO at h
  split at h
  ·assumption
  ·cases h
 | cons d ds =>
  unfold zcO at h
  split at h
  ·assumption
  ·cases h
theorem zs6{i:Nat}{g:TG}{tb:TS}{mg:MG}{mb:MS}(hp:i∈pn)(hg:VGt K pn g mg)(hb:VS K pn EX tb mb):VS K pn EX (znA (zpq K (zgJ i)) g tb) (zgp i mg mb):=by
 intro σ₀ A H₀ H₁ ρ σ H f D s e k
 unfold zgp at e
 split at e
 ·rename_i ds eu
  obtain⟨v,ev,p⟩:=s.rs.rep i _ eu
  obtain⟨a,us,rfl,h1,h2⟩:=p
  have sa:σ₀[i]?=some (some (.ref a)):=by rw [<-s.pin i hp]; exact ev
  refine⟨.ref a,ev,a,rfl,.inl ⟨⟨us,SqL.of h1⟩,?_⟩⟩
  refine⟨fun j m σ' H'=>m=ds.length - j/\j<=ds.length/\∃ ρ',Sn K pn σ₀ A H₀ H ρ' σ' H'/\zcO i ds mg mb (ds.drop j) ρ'=some f,⟨ds.length,by simp,Nat.zero_le _,ρ,s.at,e⟩,?_⟩
  rintro j m σ' H' ⟨rfl,hj,ρ',s',el⟩
  have now:∃ us',H' a=some (.lst us')/\DFs K H' us' ds:=by
   obtain⟨v',e1,p'⟩:=s'.rs.rep i _ (zgq el)
   obtain⟨a',us',rfl,q1,q2⟩:=p'
   have:some (some (V.ref a'))=some (some (V.ref a)):=by rw [<-e1,s'.pin i hp,sa]
   cases this
   exact⟨us',q1,q2⟩
  obtain⟨us',q1,q2⟩:=now
  by_cases hlt:j < ds.length
  ·rw [List.drop_eq_getElem_cons hlt]at el
   have el':=el
   unfold zcO at el'
   rw [if_pos (zgq el)]at el'
   obtain⟨ρ2,e2,el'⟩:=bind_some el'
   obtain⟨fb,eb,el'⟩:=bind_some el'
   obtain⟨x,ex,dx⟩:=q2.get (List.getElem?_eq_getElem hlt)
   refine .inr ⟨⟨us',x,SqL.of q1,ex⟩,fun σ3 H3=>∃ ρ3,Sn K pn σ₀ A H₀ H ρ3 σ3 H3/\zcO i ds mg mb (ds.drop (j+1)) ρ3=some f,fun σ3 H3 ⟨ρ3,s3,e3⟩=>⟨ds.length - (j+1),by omega,rfl,hlt,ρ3,s3,e3⟩,fun y H2 hy=>?_⟩
   obtain⟨rfl,hy⟩:=hy
   have:=hy us' (SqL.of q1)
   rw [ex]at this
   cases this
   refine hg.run σ₀ A H₀ H ρ' σ' H2 x ds[j] ρ2 _ s' dx e2 fun σ3 s3=>?_
   refine hb σ₀ A H₀ H ρ2 σ3 H2 fb _ s3 eb ?_
   cases fb with
   | nx ρ4=>exact fun σ4 H4 s4=>⟨ρ4,s4,el'⟩
   | ct ρ4=>exact fun σ4 H4 s4=>⟨ρ4,s4,el'⟩
   | bk ρ4=>cases el'; exact fun σ4 H4 s4=>k σ4 H4 (s4.re s.kp)
   | rt u ρ4=>cases el'; exact fun v σ4 H4 s4 p n=>k v σ4 H4 (s4.re s.kp) p n
   | ex x ρ4=>cases el'; exact fun a σ4 H4 s4 p n=>k a σ4 H4 (s4.re s.kp) p n
  ·have ej:j=ds.length:=by omega
   subst ej
   rw [List.drop_length]at el
   have el':=el
   unfold zcO at el'
   rw [if_pos (zgq el)]at el'
   cases el'
   exact .inl ⟨⟨us',SqL.of q1,by rw [q2.len]; exact Nat.le_refl _⟩,k σ' H' (s'.re s.kp)⟩
 ·rename_i ds eu
  have g1:zf i ρ=some (.s i,ρ):=by unfold zf; rw [eu]
  have g2:Ar.get ρ (.s i)=some (.d (.tuple ds)):=by show(ρ[i]?).join=_; rw [eu]; rfl
  have e':zeN (mIt zpr (zf i)) mg mb ρ=some f:=by
   simp only [zeN,mIt,g1,Option.bind_some,g2,zpr]
   exact e
  exact zeO (zsZ (zd i)) hg hb σ₀ A H₀ H₁ ρ σ H f D s e' k
 ·cases e
end
section
variable {mg:MG} {mb:MS} {ρ:En} {Q:Fl->Prop} {i:Nat}
theorem zs7{ds:List D}(h:ρ[i]?=some (some (.l ds))):zgp i mg mb ρ=zcO i ds mg mb ds ρ:=by unfold zgp; rw [h]
theorem zs8{ds:List D}(h:ρ[i]?=some (some (.d (.tuple ds)))):zgp i mg mb ρ=zdf mg mb ds ρ:=by unfold zgp; rw [h]
theorem zm2{ds0:List D}(P:Nat->En->Prop){ds:List D}(h0:P 0 ρ)(hP:∀ i' ρ,P i' ρ->ρ[i]?=some (some (.l ds0)))(st:∀ i d ρ,ds[i]?=some d->P i ρ->Wo (mg d ρ) (Co mb ⟨0⟩ (zfr Q (P (i+1)))))(hQ:∀ ρ,P ds.length ρ->Q (.nx ρ)):Wo (zcO i ds0 mg mb ds ρ) Q:=by
 have main:∀ (es:List D) (n:Nat) (ρ:En),n+es.length=ds.length->(∀ j,es[j]?=ds[n+j]?)->P n ρ->Wo (zcO i ds0 mg mb es ρ) Q:=by
  intro es
  induction es with
  | nil =>
   intro n ρ hn _ hp
   unfold zcO
   rw [if_pos (hP n ρ hp),zbM]
   rw [List.length_nil,Nat.add_zero]at hn
   exact hQ ρ (hn▸hp)
  | cons d es ih =>
   intro n ρ hn he hp
   have e0:=he 0
   rw [List.getElem?_cons_zero,Nat.add_zero]at e0
   obtain⟨ρ1,e1,f,e2,k⟩:=st n d ρ e0.symm hp
   have nxt:∀ ρ2,P (n+1) ρ2->Wo (zcO i ds0 mg mb es ρ2) Q:=fun ρ2 z=>ih (n+1) ρ2 (by rw [List.length_cons]at hn; omega) (fun j=>by
    have:=he (j+1)
    rw [List.getElem?_cons_succ]at this
    rw [this,show n+(j+1)=n+1+j by omega]) z
   unfold zcO
   rw [if_pos (hP n ρ hp),zx]
   refine⟨ρ1,e1,?_⟩
   rw [zeT,zx]
   refine⟨f,e2,?_⟩
   rw [zeT]
   cases f with
   | nx ρ2=>exact nxt ρ2 k
   | ct ρ2=>exact nxt ρ2 k
   | bk ρ2=>exact⟨_,rfl,k⟩
   | rt u ρ2=>exact⟨_,rfl,k⟩
   | ex x ρ2=>exact⟨_,rfl,k⟩
 exact main ds 0 ρ (by omega) (fun j=>by rw [Nat.zero_add]) h0
end
end L2
namespace L2
open PySem PySem.Spec PyProof.Rows
def zqb:R2:=fun x y H Q=>∃ a b,x=.bl a/\y=.bl b/\Q (.bl (!(a==b))) H
theorem zhQ{X:Cx}:OpR X (compareOp .IsNot) zqb:=by
 intro pins s σ H x y v u Q I rx ry h
 obtain⟨a,b,rfl,rfl,q⟩:=h
 cases rx
 cases ry
 refine wpAny_pure ?_
 refine⟨.bl _,H,I,?_,q⟩
 cases a<;>cases b<;>rfl
def zeV:U->U->Option U
 | .d (.bool a),.d (.bool b)=>some (.d (.bool (!(a==b))))
 | _,_=>none
theorem zhR{K:PySem.W.Frag}:VO K zqb zeV:=by
 intro x y a b u H Q ha hb e q
 unfold zeV at e
 split at e
 ·cases e
  exact⟨_,_,DF.bl_inv ha,DF.bl_inv hb,q _ _ (zbg.refl H) (DF.bl _) Nw.data⟩
 ·cases e
theorem zpt{a b:Bool}:zeV (.d (.bool a)) (.d (.bool b))=some (.d (.bool (!(a==b)))):=rfl
end L2
namespace K31
open PySem L2
def top(i:Nat):Stmt:=PySem.Challenge.pw_undivide_k31_nets_looked_at.main.body.getD i (.Pass ⟨0,0,0,0⟩)
abbrev zce:Stmt:=top 17
theorem zhS:FnScope ["thing"] ["thing"] (zo zce):=⟨rfl,rfl,rfl,by decide +kernel,rfl,by decide +kernel,by decide +kernel⟩
abbrev za5:Stmt:=top 18
theorem zdA:FnScope ["one", "other"] ["one", "other"] (zo za5):=⟨rfl,rfl,rfl,by decide +kernel,rfl,by decide +kernel,by decide +kernel⟩
abbrev zbu:Stmt:=top 19
theorem zc4:FnScope ["thing", "above", "beneath"] ["thing"] (zo zbu):=⟨rfl,rfl,rfl,by decide +kernel,rfl,by decide +kernel,by decide +kernel⟩
abbrev zcf:Stmt:=top 24
theorem zhT:FnScope ["thing"] ["thing"] (zo zcf):=⟨rfl,rfl,rfl,by decide +kernel,rfl,by decide +kernel,by decide +kernel⟩
abbrev zbv:Stmt:=top 25
theorem zgr:FnScope ["things"] ["things"] (zo zbv):=⟨rfl,rfl,rfl,by decide +kernel,rfl,by decide +kernel,by decide +kernel⟩
abbrev zcw:Stmt:=top 26
theorem ziG:FnScope ["thing", "many"] ["thing", "many"] (zo zcw):=⟨rfl,rfl,rfl,by decide +kernel,rfl,by decide +kernel,by decide +kernel⟩
abbrev zbj:Stmt:=top 27
theorem zfC:FnScope ["letters"] ["letters"] (zo zbj):=⟨rfl,rfl,rfl,by decide +kernel,rfl,by decide +kernel,by decide +kernel⟩
abbrev zbN:Stmt:=top 29
theorem zaS:FnScope ["pairs", "ahead", "told", "behind", "pair", "f", "node"] ["pairs", "ahead"] (zo zbN):=⟨rfl,rfl,rfl,by decide +kernel,rfl,by decide +kernel,by decide +kernel⟩
abbrev zbk:Stmt:=top 30
theorem zfD:FnScope ["one", "other", "ahead"] ["one", "other", "ahead"] (zo zbk):=⟨rfl,rfl,rfl,by decide +kernel,rfl,by decide +kernel,by decide +kernel⟩
abbrev zbw:Stmt:=top 31
theorem zgs:FnScope ["node", "ahead", "many_letters"] ["node", "ahead", "many_letters"] (zo zbw):=⟨rfl,rfl,rfl,by decide +kernel,rfl,by decide +kernel,by decide +kernel⟩
abbrev zdB:Stmt:=top 32
theorem zdC:FnScope ["top", "ahead", "f", "outs", "k", "out"] ["top", "ahead"] (zo zdB):=⟨rfl,rfl,rfl,by decide +kernel,rfl,by decide +kernel,by decide +kernel⟩
abbrev zcx:Stmt:=top 33
theorem zbr:FnScope ["net", "letters", "nodes", "top", "ahead", "at", "node", "told"] ["net"] (zo zcx):=⟨rfl,rfl,rfl,by decide +kernel,rfl,by decide +kernel,by decide +kernel⟩
abbrev zcg:Stmt:=top 35
theorem zcq:FnScope ["_law_script", "_law_k", "_law_cell", "_law_seed"] ["_law_script", "_law_k"] (zo zcg):=⟨rfl,rfl,rfl,by decide +kernel,rfl,by decide +kernel,by decide +kernel⟩
abbrev zbO:Stmt:=top 36
theorem zdl:FnScope ["_law_box_here", "_law_wide", "_law_digit", "_law_one"] ["_law_box_here", "_law_wide"] (zo zbO):=⟨rfl,rfl,rfl,by decide +kernel,rfl,by decide +kernel,by decide +kernel⟩
abbrev zbx:Stmt:=top 37
theorem zaa:FnScope ["_law_box_here", "_law_many", "_law_alphabet", "_law_signs", "_law_spot", "_law_first", "_law_found", "_law_k", "_law_one", "_law_name", "_law_odd"] ["_law_box_here", "_law_many"] (zo zbx):=⟨rfl,rfl,rfl,by decide +kernel,rfl,by decide +kernel,by decide +kernel⟩
abbrev zaU:Stmt:=top 38
theorem zba:FnScope ["_law_n", "_law_d", "_law_one", "_law_two"] ["_law_n", "_law_d"] (zo zaU):=⟨rfl,rfl,rfl,by decide +kernel,rfl,by decide +kernel,by decide +kernel⟩
abbrev zbl:Stmt:=top 39
theorem zdQ:FnScope ["_law_box_here", "_law_kind"] ["_law_box_here"] (zo zbl):=⟨rfl,rfl,rfl,by decide +kernel,rfl,by decide +kernel,by decide +kernel⟩
abbrev zbm:Stmt:=top 40
theorem zdR:FnScope ["_law_box_here", "_law_f"] ["_law_box_here"] (zo zbm):=⟨rfl,rfl,rfl,by decide +kernel,rfl,by decide +kernel,by decide +kernel⟩
abbrev zch:Stmt:=top 41
theorem zdL:FnScope ["_law_box_here", "_law_nodes_here", "_law_high_here", "_law_last", "_law_pairs", "_law_n"] ["_law_box_here", "_law_nodes_here", "_law_high_here", "_law_last"] (zo zch):=⟨rfl,rfl,rfl,by decide +kernel,rfl,by decide +kernel,by decide +kernel⟩
abbrev zby:Stmt:=top 42
theorem zaY:FnScope ["_law_box_here", "_law_many", "_law_nodes_here", "_law_most", "_law_deep", "_law_found", "_law_high_here", "_law_k", "_law_word", "_law_i", "_law_j"] ["_law_box_here", "_law_many", "_law_nodes_here", "_law_most", "_law_deep"] (zo zby):=⟨rfl,rfl,rfl,by decide +kernel,rfl,by decide +kernel,by decide +kernel⟩
abbrev zbP:Stmt:=top 43
theorem zdm:FnScope ["_law_nodes_here", "_law_found", "_law_node"] ["_law_nodes_here"] (zo zbP):=⟨rfl,rfl,rfl,by decide +kernel,rfl,by decide +kernel,by decide +kernel⟩
abbrev zci:Stmt:=top 44
theorem zbQ:FnScope ["_law_box_here", "_law_nodes_here", "_law_deep", "_law_high_here", "_law_outs", "_law_grade", "_law_some", "_law_way"] ["_law_box_here", "_law_nodes_here", "_law_deep"] (zo zci):=⟨rfl,rfl,rfl,by decide +kernel,rfl,by decide +kernel,by decide +kernel⟩
abbrev zbz:Stmt:=top 45
theorem zgt:FnScope ["_law_found"] ["_law_found"] (zo zbz):=⟨rfl,rfl,rfl,by decide +kernel,rfl,by decide +kernel,by decide +kernel⟩
abbrev zbR:Stmt:=top 46
theorem zb6:FnScope ["_law_net", "_law_found", "e"] ["_law_net"] (zo zbR):=⟨rfl,rfl,rfl,by decide +kernel,rfl,by decide +kernel,by decide +kernel⟩
abbrev zaV:Stmt:=top 47
theorem zF:FnScope ["_law_box_here", "_law_many", "_law_at", "_law_one", "_law_some"] ["_law_box_here", "_law_many", "_law_at"] (zo zaV):=⟨rfl,rfl,rfl,by decide +kernel,rfl,by decide +kernel,by decide +kernel⟩
abbrev za6:Stmt:=top 48
theorem zaW:FnScope ["_law_box_here", "_law_many", "_law_one", "_law_some"] ["_law_box_here", "_law_many"] (zo za6):=⟨rfl,rfl,rfl,by decide +kernel,rfl,by decide +kernel,by decide +kernel⟩
abbrev zau:Stmt:=top 49
theorem zbb:FnScope ["_law_box_here", "_law_some"] ["_law_box_here"] (zo zau):=⟨rfl,rfl,rfl,by decide +kernel,rfl,by decide +kernel,by decide +kernel⟩
abbrev zeW:Stmt:=top 50
theorem zcy:FnScope ["_law_script", "_law_box_here", "_law_letters", "_law_base", "_law_nodes_here", "_law_net", "_law_k", "_law_at", "_law_bad", "_law_odd", "_law_top_here", "_law_other"] ["_law_script"] (zo zeW):=⟨rfl,rfl,rfl,by decide +kernel,rfl,by decide +kernel,by decide +kernel⟩
def zaJ:List (Str×List Str):=[("UndivideError",["ValueError", "Exception", "BaseException", "object"]),("BadText",["UndivideError", "ValueError", "Exception", "BaseException", "object"]),("BadLetters",["UndivideError", "ValueError", "Exception", "BaseException", "object"]),("BadRow",["UndivideError", "ValueError", "Exception", "BaseException", "object"]),("NoOver",["UndivideError", "ValueError", "Exception", "BaseException", "object"]),("NoName",["UndivideError", "ValueError", "Exception", "BaseException", "object"]),("TooMany",["UndivideError", "ValueError", "Exception", "BaseException", "object"]),("NoPaper",["UndivideError", "ValueError", "Exception", "BaseException", "object"]),("BadNode",["UndivideError", "ValueError", "Exception", "BaseException", "object"]),("BadWay",["UndivideError", "ValueError", "Exception", "BaseException", "object"]),("NotWhole",["UndivideError", "ValueError", "Exception", "BaseException", "object"]),("OtherLetters",["UndivideError", "ValueError", "Exception", "BaseException", "object"]),("NotPolynomial",["UndivideError", "ValueError", "Exception", "BaseException", "object"]),("NoRow",["UndivideError", "ValueError", "Exception", "BaseException", "object"])]
abbrev xfl:List Str:=["at", "name", "which"]
def zm3:Stmt->Stmt
 | .ClassDef _ _ _ (b::_) _ _ _ _ _ _ _=>b
 | s=>s
abbrev zjD:Stmt:=zm3 (top 2)
theorem zqc:FnScope ["self", "at"] ["self", "at"] (zo zjD):=⟨rfl,rfl,rfl,by decide +kernel,rfl,by decide +kernel,by decide +kernel⟩
abbrev zc5:Stmt:=zm3 (top 9)
theorem ziH:FnScope ["self", "at"] ["self", "at"] (zo zc5):=⟨rfl,rfl,rfl,by decide +kernel,rfl,by decide +kernel,by decide +kernel⟩
section
variable {P:Program} {w:World} {K:PySem.W.Frag} {mg:Str->Option Value} {base:Heap} {f:Addr} {fd:FuncData}
noncomputable def zcj:MS:=(zaf (zdP (mUn (zcv "int") (zf 0)) (zil (mUn (zcv "bool") (zf 0)))))
noncomputable def zav:FD:=zcm 1 [0] zcj
theorem zhU(F:Fun K "is_number" "is_number" zce f fd)(hB:Bl mg ["isinstance", "int", "bool", "tuple", "len", "abs", "str", "all", "set", "enumerate", "range", "list", "ValueError"])(hT:XT K zaJ xfl):FnOk P w K mg base CX0 1 f fd ["thing"] (spV K 1 zav) :=
 F.okV (n:=1) (nn:=1) (pn:=[0]) (m:=zcj) zhS rfl rfl (by decide) fun cdv A outer s H E hr=>⟨_,(zL (zN (zfo (zal (zdu K rfl) rfl (hB "isinstance" (by decide)) PyProof.Rows.boot_isinstance (w_a (w_v 0) (w_a (zco (v:=.ty "int") rfl (hB "int" (by decide)) PyProof.Rows.boot_int rfl) zc))) (zf8 (w_not (zal (zdu K rfl) rfl (hB "isinstance" (by decide)) PyProof.Rows.boot_isinstance (w_a (w_v 0) (w_a (zco (v:=.ty "bool") rfl (hB "bool" (by decide)) PyProof.Rows.boot_bool rfl) zc)))))))),
  (zP (zdY (zdz (T := "int") (zd 0)) (zl8 (zdz (T := "bool") (zd 0)))))⟩
noncomputable def zcL:MS:=(zw (zew (zog (zf 1)) (zmd 0 1 (zb (zf 1) (zb (mOp zeK (zf 0) (zf 1)) zg))))
  (zaf (zf 0)))
noncomputable def za7:FD:=zcm 2 [] zcL
theorem zfg(F:Fun K "common_factor" "common_factor" za5 f fd)(hB:Bl mg ["isinstance", "int", "bool", "tuple", "len", "abs", "str", "all", "set", "enumerate", "range", "list", "ValueError"])(hT:XT K zaJ xfl):FnOk P w K mg base CX0 1 f fd ["one", "other"] (spV K 2 za7) :=
 F.okV (n:=2) (nn:=2) (pn:=[]) (m:=zcL) zdA rfl rfl (by decide) fun cdv A outer s H E hr=>⟨_,(w_s (zjY PassesOwn.never (ztK K rfl (w_v 1)) (zL (zpS (i:=0) (j:=1) rfl zdA.nd rfl rfl (by decide) rfl rfl (w_a (w_v 1) (w_a (zY zcV (w_v 0) (w_v 1)) zc)) rfl)))
  (zL (zN (w_v 0)))),
  (zr (zkb (zrv (zd 1)) (zp0 (by decide) (by decide) (za (zd 1) (za (zq zc0 (zd 0) (zd 1)) ze))))
  (zP (zd 0)))⟩
noncomputable def zd2:MS:=(zw (zam (mOr (zcK (mB (mUn (zcv "str") (zf 0)))) (mOr (mB (mOp fGt (mCB (f1 zix) (zb (zf 0) zg)) (mC (.int 5)))) (mB (mUn (zoX ["letters", "part", "rounds", "end", "give"]) (zf 0))))) (zaf (mC (.bool false))) zU)
  (zaf (zdP (mM0 Txt.isascii (zf 0)) (zdP (mM0 Txt.isalpha (zf 0)) (mM0 Txt.islower (zf 0))))))
noncomputable def zck:FD:=zcm 1 [0] zd2
theorem zhV(F:Fun K "is_letter" "is_letter" zcf f fd)(hB:Bl mg ["isinstance", "int", "bool", "tuple", "len", "abs", "str", "all", "set", "enumerate", "range", "list", "ValueError"])(hT:XT K zaJ xfl){GKEPT_WORDS:Addr}(g_KEPT_WORDS:mg "KEPT_WORDS"=some (.ref GKEPT_WORDS))(gt_KEPT_WORDS:GTx K GKEPT_WORDS ["letters", "part", "rounds", "end", "give"]){TLONGEST_LETTER:Tok}(g_LONGEST_LETTER:mg "LONGEST_LETTER"=some (.int 5 TLONGEST_LETTER)):FnOk P w K mg base CX0 1 f fd ["thing"] (spV K 1 zck) :=
 F.okV (n:=1) (nn:=1) (pn:=[0]) (m:=zd2) zhT rfl rfl (by decide) fun cdv A outer s H E hr=>⟨_,(w_s (zaP (zdc (zbU (za1 (zaI (zal (zdu K rfl) rfl (hB "isinstance" (by decide)) PyProof.Rows.boot_isinstance (w_a (w_v 0) (w_a (zco (v:=.ty "str") rfl (hB "str" (by decide)) PyProof.Rows.boot_str rfl) zc))))) (zbU (zH zjP (zal zhn rfl (hB "len" (by decide)) PySem.boot_len (w_a (w_v 0) zc)) (zht (v:=.int 5) rfl g_LONGEST_LETTER ⟨_,rfl⟩) (zE _)) (zbC (zH (zsj K rfl hr ["letters", "part", "rounds", "end", "give"] (by decide +kernel)) (w_v 0) (zht (v:=.ref GKEPT_WORDS) rfl g_KEPT_WORDS rfl) rfl))))) (zL (zN zcY)) zQ)
  (zL (zN (zfo (zl2 K rfl PySem.F.plainAttrs_str PySem.F.slot_str_isascii PySem.F.type_str_isascii zjv (w_v 0)) (zfo (zl2 K rfl PySem.F.plainAttrs_str PySem.F.slot_str_isalpha PySem.F.type_str_isalpha zjw (w_v 0)) (zf8 (zl2 K rfl PySem.F.plainAttrs_str PySem.F.slot_str_islower PySem.F.type_str_islower zjx (w_v 0)))))))),
  (zr (zad (zbV (za3 (zcs (zdz (T := "str") (zd 0)))) (zbV (zy (zq zj4 (zaH zoW (za (zd 0) ze)) zh)) (zy (zuM gt_KEPT_WORDS (zd 0))))) (zP zcZ) zR)
  (zP (zdY (zsi (zd 0)) (zdY (zsi (zd 0)) (zsi (zd 0))))))⟩
noncomputable def zd3:MS:=(zw (zO 2 (mOp zb3 (mOp zeJ (mC (.int 7919)) (zf 1)) (mC (.int 11))))
  (zw (zam (mB (mOp fLt (zf 1) (mCB (f1 zaE) (zb (zf 0) zg)))) (zO 2 (mOp zaG (zf 0) (zf 1))) (zam (mB (mOp fGt (mCB (f1 zaE) (zb (zf 0) zg)) (mC (.int 0)))) (zO 2 (mOp zb3 (zf 2) (mOp zeJ (mOp zeK (mOp zaG (zf 0) (mOp zeK (zf 1) (mCB (f1 zaE) (zb (zf 0) zg)))) (mC (.int 2147483629))) (mC (.int 69623))))) zU))
  (zw (zO 3 (mOp zb3 (mOp zeK (mOp zb3 (mOp zeJ (mOp zeK (zf 2) (mC (.int 2147483629))) (mC (.int 48271))) (mOp zeJ (mC (.int 40692)) (zf 1))) (mC (.int 2147483629))) (mC (.int 1))))
  (zaf (zbs (zb (mOp zeJ (zf 2) (mCB (f1 zg6) (zb (mOp fGe (zf 2) (mOp zod (mC (.int 10)) (mC (.int 18)))) zg))) (zb (zf 3) zg)))))))
noncomputable def zbc:FD:=zcm 4 [0,1] zd3
theorem zhW(F:Fun K "_law_box" "_law_box" zcg f fd)(hB:Bl mg ["isinstance", "int", "bool", "tuple", "len", "abs", "str", "all", "set", "enumerate", "range", "list", "ValueError"])(hT:XT K zaJ xfl):FnOk P w K mg base CX0 1 f fd ["_law_script", "_law_k"] (spV K 2 zbc) :=
 F.okV (n:=2) (nn:=4) (pn:=[0,1]) (m:=zd3) zcq rfl rfl (by decide) fun cdv A outer s H E hr=>⟨_,(w_s (zJ (i:=2) zcq.nd rfl (by first | exact Or.inl rfl | exact Or.inr rfl) (zY zaN (zY zdh zi (w_v 1)) zi))
  (w_s (zhs (zaP (zH zem (w_v 1) (zal (zaq K rfl) rfl (hB "len" (by decide)) PySem.boot_len (w_a (w_v 0) zc)) (zE _)) (zL (zJ (i:=2) zcq.nd rfl (by first | exact Or.inl rfl | exact Or.inr rfl) (zag (zak K rfl) (w_v 0) (w_v 1) (fun _ _=>rfl)))) (zL (zaP (zH zjP (zal (zaq K rfl) rfl (hB "len" (by decide)) PySem.boot_len (w_a (w_v 0) zc)) zi (zE _)) (zL (zJ (i:=2) zcq.nd rfl (by first | exact Or.inl rfl | exact Or.inr rfl) (zY zaN (w_v 2) (zY zdh (zY zcV (zag (zak K rfl) (w_v 0) (zY zcV (w_v 1) (zal (zaq K rfl) rfl (hB "len" (by decide)) PySem.boot_len (w_a (w_v 0) zc))) (fun _ _=>rfl)) zi) zi)))) zQ))))
  (w_s (zJ (i:=3) zcq.nd rfl (by first | exact Or.inl rfl | exact Or.inr rfl) (zY zaN (zY zcV (zY zaN (zY zdh (zY zcV (w_v 2) zi) zi) (zY zdh zi (w_v 1))) zi) zi))
  (zL (zN (zaL (w_a (zY zdh (w_v 2) (zhr ze0 rfl (hB "int" (by decide)) PyProof.Rows.boot_int (w_a (zfn zpO (w_v 2) (zY zqS zi zi) (zE _)) zc))) (w_a (w_v 3) zc)))))))),
  (zr (zG (by decide) (zq zaQ (zq zdi zh (zd 1)) zh))
  (zr (zhA (zad (zy (zq zen (zd 1) (zaH zZ (za (zd 0) ze)))) (zG (by decide) (zq zT (zd 0) (zd 1))) (zad (zy (zq zj4 (zaH zZ (za (zd 0) ze)) zh)) (zG (by decide) (zq zaQ (zd 2) (zq zdi (zq zc0 (zq zT (zd 0) (zq zc0 (zd 1) (zaH zZ (za (zd 0) ze)))) zh) zh))) zR)))
  (zr (zG (by decide) (zq zaQ (zq zc0 (zq zaQ (zq zdi (zq zc0 (zd 2) zh) zh) (zq zdi zh (zd 1))) zh) zh))
  (zP (zaM (za (zq zdi (zd 2) (zaH zhx (za (zq zpY (zd 2) (zq zrq zh zh)) ze))) (za (zd 3) ze)))))))⟩
noncomputable def zdM:MS:=(zw (zam (mB (mOp fGt (mOp zaG (zf 0) (mC (.int 0))) (mC (.int 0)))) (zw (zO 2 (mOp zeK (mOp zaG (zf 0) (mC (.int 0))) (zf 1)))
  (zw (zey 0 (mOp zij (mOp zaG (zf 0) (mC (.int 0))) (zf 1)) (mC (.int 0)))
  (zaf (zf 2)))) zU)
  (zw (zO 3 (mOp zeK (mOp zeJ (mOp zaG (zf 0) (mC (.int 1))) (mC (.int 69623))) (mC (.int 2147483647))))
  (zw (zey 0 (mOp zb3 (mOp zeK (mOp zb3 (mOp zeJ (zf 3) (mC (.int 48271))) (mC (.int 30103))) (mC (.int 2147483629))) (mC (.int 1))) (mC (.int 1)))
  (zaf (mOp zeK (mOp zij (mOp zb3 (mOp zeJ (zf 3) (mC (.int 2147483647))) (mOp zaG (zf 0) (mC (.int 1)))) (mC (.int 8191))) (zf 1))))))
noncomputable def zn:FD:=zcm 4 [0,1] zdM
theorem zgQ(F:Fun K "_law_take" "_law_take" zbO f fd)(hB:Bl mg ["isinstance", "int", "bool", "tuple", "len", "abs", "str", "all", "set", "enumerate", "range", "list", "ValueError"])(hT:XT K zaJ xfl):FnOk P w K mg base CX0 1 f fd ["_law_box_here", "_law_wide"] (spV K 2 zn) :=
 F.okV (n:=2) (nn:=4) (pn:=[0,1]) (m:=zdM) zdl rfl rfl (by decide) fun cdv A outer s H E hr=>⟨_,(w_s (zaP (zH zjP (zag (zak K rfl) (w_v 0) zi (fun _ _=>rfl)) zi (zE _)) (w_s (zJ (i:=2) zdl.nd rfl (by first | exact Or.inl rfl | exact Or.inr rfl) (zY zcV (zag (zak K rfl) (w_v 0) zi (fun _ _=>rfl)) (w_v 1)))
  (w_s (zf9 (zY zia (zag (zak K rfl) (w_v 0) zi (fun _ _=>rfl)) (w_v 1)) (zi6 (w_v 0) zi zf5))
  (zL (zN (w_v 2))))) zQ)
  (w_s (zJ (i:=3) zdl.nd rfl (by first | exact Or.inl rfl | exact Or.inr rfl) (zY zcV (zY zdh (zag (zak K rfl) (w_v 0) zi (fun _ _=>rfl)) zi) zi))
  (w_s (zf9 (zY zaN (zY zcV (zY zaN (zY zdh (w_v 3) zi) zi) zi) zi) (zi6 (w_v 0) zi zf5))
  (zL (zN (zY zcV (zY zia (zY zaN (zY zdh (w_v 3) zi) (zag (zak K rfl) (w_v 0) zi (fun _ _=>rfl))) zi) (w_v 1))))))),
  (zr (zad (zy (zq zj4 (zq zT (zd 0) zh) zh)) (zr (zG (by decide) (zq zc0 (zq zT (zd 0) zh) (zd 1)))
  (zr (zhB (i:=0) (zq zj1 (zq zT (zd 0) zh) (zd 1)) zh)
  (zP (zd 2)))) zR)
  (zr (zG (by decide) (zq zc0 (zq zdi (zq zT (zd 0) zh) zh) zh))
  (zr (zhB (i:=0) (zq zaQ (zq zc0 (zq zaQ (zq zdi (zd 3) zh) zh) zh) zh) zh)
  (zP (zq zc0 (zq zj1 (zq zaQ (zq zdi (zd 3) zh) (zq zT (zd 0) zh)) zh) (zd 1))))))⟩
noncomputable def zcz:MS:=(zw (zO 2 (mCB (f1 zkX) (zb (zf 0) zg)))
  (zw (zO 3 (mCB (f1 zkX) (zb (zf 1) zg)))
  (zw (zew (mB (mOp (zbH true) (zf 3) (mC (.int 0)))) (zmd 2 3 (zb (zf 3) (zb (mOp zeK (zf 2) (zf 3)) zg))))
  (zw (zam (mB (mOp fLt (zf 1) (mC (.int 0)))) (zO 2 (mOp zii (mC (.int 0)) (zf 2))) zU)
  (zaf (zp (zb (mOp zik (zf 0) (zf 2)) (zb (mOp zik (zf 1) (zf 2)) zg))))))))
noncomputable def zaA:FD:=zcm 4 [0,1] zcz
theorem zeX(F:Fun K "_law_fraction" "_law_fraction" zaU f fd)(hB:Bl mg ["isinstance", "int", "bool", "tuple", "len", "abs", "str", "all", "set", "enumerate", "range", "list", "ValueError"])(hT:XT K zaJ xfl):FnOk P w K mg base CX0 1 f fd ["_law_n", "_law_d"] (spV K 2 zaA) :=
 F.okV (n:=2) (nn:=4) (pn:=[0,1]) (m:=zcz) zba rfl rfl (by decide) fun cdv A outer s H E hr=>⟨_,(w_s (zJ (i:=2) zba.nd rfl (by first | exact Or.inl rfl | exact Or.inr rfl) (zal zf3 rfl (hB "abs" (by decide)) PyProof.Rows.boot_abs (w_a (w_v 0) zc)))
  (w_s (zJ (i:=3) zba.nd rfl (by first | exact Or.inl rfl | exact Or.inr rfl) (zal zf3 rfl (hB "abs" (by decide)) PyProof.Rows.boot_abs (w_a (w_v 1) zc)))
  (w_s (zjY PassesOwn.never (zH zgY (w_v 3) zi (zE _)) (zL (zpS (i:=2) (j:=3) rfl zba.nd rfl rfl (by decide) rfl rfl (w_a (w_v 3) (w_a (zY zcV (w_v 2) (w_v 3)) zc)) rfl)))
  (w_s (zhs (zaP (zH zem (w_v 1) zi (zE _)) (zL (zJ (i:=2) zba.nd rfl (by first | exact Or.inl rfl | exact Or.inr rfl) (zY zf0 zi (w_v 2)))) zQ))
  (zL (zN (zk (w_a (zY zic (w_v 0) (w_v 2)) (w_a (zY zic (w_v 1) (w_v 2)) zc))))))))),
  (zr (zG (by decide) (zaH zjl (za (zd 0) ze)))
  (zr (zG (by decide) (zaH zjl (za (zd 1) ze)))
  (zr (zkb (zy (zq zfe (zd 3) zh)) (zp0 (by decide) (by decide) (za (zd 3) (za (zq zc0 (zd 2) (zd 3)) ze))))
  (zr (zhA (zad (zy (zq zen (zd 1) zh)) (zG (by decide) (zq zgb zh (zd 2))) zR))
  (zP (zm (za (zq zj2 (zd 0) (zd 2)) (za (zq zj2 (zd 1) (zd 2)) ze))))))))⟩
noncomputable def zcT:MS:=(zw (zO 1 (zbs zg))
  (zw (zgp 0 (zaz 2) (zam (mB (mOp (zbH false) (mOp zbh (zf 2) (mC (.int 0))) (mC (.str "letter")))) (zbt (zc2 1 (mC (.int 1)))) (zam (mB (mOp (zbH false) (mOp zbh (zf 2) (mC (.int 0))) (mC (.str "mix")))) (zbt (zc2 1 (mOp zaG (zf 1) (mOp zbh (mOp zbh (mOp zbh (zf 2) (mC (.int 1))) (mC (.int 0))) (mC (.int 1)))))) (zbt (zc2 1 (mOp zb3 (mOp zaG (zf 1) (mOp zbh (zf 2) (mC (.int 1)))) (mOp zaG (zf 1) (mOp zbh (zf 2) (mC (.int 2))))))))))
  (zg7 [0] 1)))
noncomputable def zaC:FD:=zcm 3 [0] zcT
theorem zgR(F:Fun K "_law_high" "_law_high" zbP f fd)(hB:Bl mg ["isinstance", "int", "bool", "tuple", "len", "abs", "str", "all", "set", "enumerate", "range", "list", "ValueError"])(hT:XT K zaJ xfl):FnOk P w K mg base CX0 1 f fd ["_law_nodes_here"] (spV K 1 zaC) :=
 F.okV (n:=1) (nn:=3) (pn:=[0]) (m:=zcT) zdm rfl rfl (by decide) fun cdv A outer s H E hr=>⟨_,(w_s (zJ (i:=1) zdm.nd rfl (by first | exact Or.inl rfl | exact Or.inr rfl) (zaL zc))
  (w_s (zeG PassesOwn.never rfl (zsY K rfl (w_v 0)) (zap (i:=2) zdm.nd rfl (by first | exact Or.inl rfl | exact Or.inr rfl)) (zL (zaP (zH zca (zag (zbF K rfl) (w_v 2) zi (fun _ _=>rfl)) zu (zE _)) (zL (zbY (zdW K rfl PySem.F.plainAttrs_list PySem.F.slot_list_append PySem.F.type_list_append zay (w_v 1) (w_a zi zc)))) (zL (zaP (zH zca (zag (zbF K rfl) (w_v 2) zi (fun _ _=>rfl)) zu (zE _)) (zL (zbY (zdW K rfl PySem.F.plainAttrs_list PySem.F.slot_list_append PySem.F.type_list_append zay (w_v 1) (w_a (zag (zak K rfl) (w_v 1) (zag (zbF K rfl) (zag (zbF K rfl) (zag (zbF K rfl) (w_v 2) zi (fun _ _=>rfl)) zi (fun _ _=>rfl)) zi (fun _ _=>rfl)) (fun _ _=>rfl)) zc)))) (zL (zbY (zdW K rfl PySem.F.plainAttrs_list PySem.F.slot_list_append PySem.F.type_list_append zay (w_v 1) (w_a (zY zaN (zag (zak K rfl) (w_v 1) (zag (zbF K rfl) (w_v 2) zi (fun _ _=>rfl)) (fun _ _=>rfl)) (zag (zak K rfl) (w_v 1) (zag (zbF K rfl) (w_v 2) zi (fun _ _=>rfl)) (fun _ _=>rfl))) zc)))))))))
  (zL (zN (w_v 1))))),
  (zr (zG (by decide) (zaM ze))
  (zr (zs6 (by decide) (zar (by decide)) (zad (zy (zq zbi (zq zaX (zd 2) zh) zv)) (zb0 (zc3 (i:=1) zh)) (zad (zy (zq zbi (zq zaX (zd 2) zh) zv)) (zb0 (zc3 (i:=1) (zq zT (zd 1) (zq zaX (zq zaX (zq zaX (zd 2) zh) zh) zh)))) (zb0 (zc3 (i:=1) (zq zaQ (zq zT (zd 1) (zq zaX (zd 2) zh)) (zq zT (zd 1) (zq zaX (zd 2) zh))))))))
  (zrx (i:=1))))⟩
noncomputable def zdn:MS:=(zaf (zdP (mUn (zcv "int") (zf 0)) (zil (mUn (zcv "bool") (zf 0)))))
noncomputable def zbA:FD:=zcm 1 [0] zdn
theorem zgu(F:Fun K "_law_whole" "_law_whole" zbz f fd)(hB:Bl mg ["isinstance", "int", "bool", "tuple", "len", "abs", "str", "all", "set", "enumerate", "range", "list", "ValueError"])(hT:XT K zaJ xfl):FnOkQ P w K mg base CX0 1 f fd ["_law_found"] (spV K 1 zbA) :=
 F.okQ (n:=1) (nn:=1) (pn:=[0]) (m:=zdn) zgt rfl rfl (by decide) fun cdv A outer s H E hr=>⟨_,(zL (zN (zfo (zal (zdu K rfl) rfl (hB "isinstance" (by decide)) PyProof.Rows.boot_isinstance (w_a (w_v 0) (w_a (zco (v:=.ty "int") rfl (hB "int" (by decide)) PyProof.Rows.boot_int rfl) zc))) (zf8 (w_not (zal (zdu K rfl) rfl (hB "isinstance" (by decide)) PyProof.Rows.boot_isinstance (w_a (w_v 0) (w_a (zco (v:=.ty "bool") rfl (hB "bool" (by decide)) PyProof.Rows.boot_bool rfl) zc)))))))),
  (zP (zdY (zdz (T := "int") (zd 0)) (zl8 (zdz (T := "bool") (zd 0)))))⟩
noncomputable def zaD:MS:=(zw (zam (mOr (zcK (mB (mUn (zcv "tuple") (zf 0)))) (mB (mOp (zbH true) (mCB (f1 zaE) (zb (zf 0) zg)) (mC (.int 2))))) (zaf (mC (.bool false))) zU)
  (zw (zim (zf 0) (zd0 2 (zb1 (zaz 1) (zb1 (zaz 2) zeM))))
  (zw (zam (mOr (zcK (mB (zI zav (zb (zf 1) zg)))) (zcK (mB (zI zav (zb (zf 2) zg))))) (zaf (mC (.bool false))) zU)
  (zaf (zdP (mOp fGe (zf 2) (mC (.int 1))) (mOp (zbH false) (zI za7 (zb (mCB (f1 zkX) (zb (zf 1) zg)) (zb (zf 2) zg))) (mC (.int 1))))))))
noncomputable def zV:FD:=zcm 3 [0] zaD
theorem zgv(F:Fun K "is_fraction" "is_fraction" zbu f fd)(hB:Bl mg ["isinstance", "int", "bool", "tuple", "len", "abs", "str", "all", "set", "enumerate", "range", "list", "ValueError"])(hT:XT K zaJ xfl)(c_is_number:Cal P w K mg base "is_number" 1 ["thing"] (spV K 1 zav))(c_common_factor:Cal P w K mg base "common_factor" 1 ["one", "other"] (spV K 2 za7)):FnOk P w K mg base CX0 2 f fd ["thing"] (spV K 1 zV) :=
 F.okV (n:=1) (nn:=3) (pn:=[0]) (m:=zaD) zc4 rfl rfl (by decide) fun cdv A outer s H E hr=>⟨_,(w_s (zaP (zdc (zbU (za1 (zaI (zal (zdu K rfl) rfl (hB "isinstance" (by decide)) PyProof.Rows.boot_isinstance (w_a (w_v 0) (w_a (zco (v:=.ty "tuple") rfl (hB "tuple" (by decide)) PyProof.Rows.boot_tuple rfl) zc))))) (zbC (zH zgY (zal (zaq K rfl) rfl (hB "len" (by decide)) PySem.boot_len (w_a (w_v 0) zc)) zi (zE _))))) (zL (zN zcY)) zQ)
  (w_s (zf9 (w_v 0) (ze5 K rfl rfl (w_g (zap (i:=1) zc4.nd rfl (by first | exact Or.inl rfl | exact Or.inr rfl)) (w_g (zap (i:=2) zc4.nd rfl (by first | exact Or.inl rfl | exact Or.inr rfl)) ze4))))
  (w_s (zaP (zdc (zbU (za1 (zaI (zD c_is_number (hr.mono (by decide)) rfl (w_a (w_v 1) zc)))) (zbC (za1 (zaI (zD c_is_number (hr.mono (by decide)) rfl (w_a (w_v 2) zc))))))) (zL (zN zcY)) zQ)
  (zL (zN (zfo (zfn zpO (w_v 2) zi (zE _)) (zf8 (zfn zca (zD c_common_factor (hr.mono (by decide)) rfl (w_a (zal zf3 rfl (hB "abs" (by decide)) PyProof.Rows.boot_abs (w_a (w_v 1) zc)) (w_a (w_v 2) zc))) zi (zE _))))))))),
  (zr (zad (zbV (za3 (zcs (zdz (T := "tuple") (zd 0)))) (zy (zq zfe (zaH zZ (za (zd 0) ze)) zh))) (zP zcZ) zR)
  (zr (zka (zd 0) (zfd (zbL (zar (by decide)) (zbL (zar (by decide)) zfc))))
  (zr (zad (zbV (za3 (zcs (zC (za (zd 1) ze) (zj zB)))) (za3 (zcs (zC (za (zd 2) ze) (zj zB))))) (zP zcZ) zR)
  (zP (zdY (zq zpY (zd 2) zh) (zq zbi (zC (za (zaH zjl (za (zd 1) ze)) (za (zd 2) ze)) (zj (zj zB))) zh))))))⟩
noncomputable def zdo:MS:=(zw (zam (mOr (zcK (mB (mUn (zcv "tuple") (zf 0)))) (zcK (mB (zgk fLe fLe (mC (.int 1)) (mCB (f1 zaE) (zb (zf 0) zg)) (mC (.int 3)))))) (zaf (mC (.bool false))) zU)
  (zaf (zdP (mCB (f1 zsg) (zb (mLC (mIt zmb (zf 0)) 1 [] (zaz 0) zmh (zI zck (zb (zf 0) zg))) zg)) (mOp (zbH false) (mUn zfU (zf 0)) (mCB (f1 zaE) (zb (zf 0) zg))))))
noncomputable def zbB:FD:=zcm 1 [0] zdo
theorem zgw(F:Fun K "are_letters" "are_letters" zbv f fd)(hB:Bl mg ["isinstance", "int", "bool", "tuple", "len", "abs", "str", "all", "set", "enumerate", "range", "list", "ValueError"])(hT:XT K zaJ xfl){TMOST_LETTERS:Tok}(g_MOST_LETTERS:mg "MOST_LETTERS"=some (.int 3 TMOST_LETTERS))(c_is_letter:Cal P w K mg base "is_letter" 1 ["thing"] (spV K 1 zck)):FnOk P w K mg base CX0 2 f fd ["things"] (spV K 1 zbB) :=
 F.okV (n:=1) (nn:=1) (pn:=[0]) (m:=zdo) zgr rfl rfl (by decide) fun cdv A outer s H E hr=>⟨_,(w_s (zaP (zdc (zbU (za1 (zaI (zal (zdu K rfl) rfl (hB "isinstance" (by decide)) PyProof.Rows.boot_isinstance (w_a (w_v 0) (w_a (zco (v:=.ty "tuple") rfl (hB "tuple" (by decide)) PyProof.Rows.boot_tuple rfl) zc))))) (zbC (za1 (zmD zjO zjO zi (zal (zaq K rfl) rfl (hB "len" (by decide)) PySem.boot_len (w_a (w_v 0) zc)) (zht (v:=.int 3) rfl g_MOST_LETTERS ⟨_,rfl⟩)))))) (zL (zN zcY)) zQ)
  (zL (zN (zfo (zal (ztM K rfl rfl) rfl (hB "all" (by decide)) PyProof.Rows.boot_all (w_a (zvA 1 ["thing"] rfl rfl ⟨rfl,by decide,by decide,by decide,by decide⟩ .nil rfl (zl1 K rfl (w_v 0)) (fun _ _ _ _=>(zap (i:=0) (by show List.Nodup (["thing"]:List Str); decide) rfl (by first | exact Or.inl rfl | exact Or.inr rfl))) (zhp (by decide)) (fun _ _ _ _=>zlZ) (fun _ _ _ _=>(zD c_is_letter (hr.mono (by decide)) rfl (w_a (w_v 0) zc)))) zc)) (zf8 (zfn zca (zal zk6 rfl (hB "len" (by decide)) PySem.boot_len (w_a (zhr (zk5 K rfl rfl) rfl (hB "set" (by decide)) rfl (w_a (w_v 0) zc)) zc)) (zal (zaq K rfl) rfl (hB "len" (by decide)) PySem.boot_len (w_a (w_v 0) zc)) (zE _))))))),
  (zr (zad (zbV (za3 (zcs (zdz (T := "tuple") (zd 0)))) (za3 (zy (zkm zj3 zj3 zh (zaH zZ (za (zd 0) ze)) zh)))) (zP zcZ) zR)
  (zP (zdY (zaH zsh (za (zrz (nt:=1) (js:=[]) (by decide) (zmc (zd 0)) (zar (by decide)) zmi (zC (za (zd 0) ze) (zj zB))) ze)) (zq zbi (zmC (zd 0)) (zaH zZ (za (zd 0) ze))))))⟩
noncomputable def zcA:MS:=(zaf (zdP (zI zav (zb (zf 0) zg)) (zgk fLe fLt (mC (.int 0)) (zf 0) (zf 1))))
noncomputable def zah:FD:=zcm 2 [0,1] zcA
theorem ziI(F:Fun K "is_place" "is_place" zcw f fd)(hB:Bl mg ["isinstance", "int", "bool", "tuple", "len", "abs", "str", "all", "set", "enumerate", "range", "list", "ValueError"])(hT:XT K zaJ xfl)(c_is_number:Cal P w K mg base "is_number" 1 ["thing"] (spV K 1 zav)):FnOk P w K mg base CX0 2 f fd ["thing", "many"] (spV K 2 zah) :=
 F.okV (n:=2) (nn:=2) (pn:=[0,1]) (m:=zcA) ziG rfl rfl (by decide) fun cdv A outer s H E hr=>⟨_,(zL (zN (zfo (zD c_is_number (hr.mono (by decide)) rfl (w_a (w_v 0) zc)) (zf8 (zn3 zjO zem zi (w_v 0) (w_v 1)))))),
  (zP (zdY (zC (za (zd 0) ze) (zj zB)) (zkm zj3 zen zh (zd 0) (zd 1))))⟩
noncomputable def zdp:MS:=(zw (zO 2 (mC (.str "abcdefghijklmnopqrstuvwxyz")))
  (zw (zO 3 (mLC (zeo (zb (mOp zb3 (mC (.int 1)) (zI zn (zb (zf 0) (zb (mC (.int 4)) zg)))) zg)) 1 [0,2] (zaz 0) zmh (mOp zjs (zf 2) (zI zn (zb (zf 1) (zb (mC (.int 26)) zg))))))
  (zw (zO 4 (zI zn (zb (zf 0) (zb (mCB (f1 zaE) (zb (zf 3) zg)) zg))))
  (zw (zO 5 (zI zn (zb (zf 0) (zb (mC (.int 26)) zg))))
  (zw (zO 6 (zbs zg))
  (zw (zeN (zeo (zb (zf 1) zg)) (zaz 7) (zw (zO 8 (mOp zjs (zf 2) (mOp zeK (mOp zb3 (zf 5) (mOp zeJ (mC (.int 7)) (zf 7))) (mC (.int 26)))))
  (zw (zO 9 (mOp zeS (mOp zeS (mM1 tyS zg8 (mC (.str "")) (mSl zhC (zf 3) zcE (zct (zf 4)))) (zf 8)) (mM1 tyS zg8 (mC (.str "")) (mSl zhC (zf 3) (zct (mOp zb3 (zf 4) (mC (.int 1)))) zcE))))
  (zw (zO 9 (mOp zeS (zf 9) (mOp ziw (mC (.str "q")) (zI zn (zb (zf 0) (zb (mC (.int 2)) zg))))))
  (zw (zam (mOr (mB (mOp (fIn false) (zf 9) (zf 6))) (mB (mOp (fIn false) (zf 9) (zp (zb (mC (.str "part")) (zb (mC (.str "end")) (zb (mC (.str "give")) (zb (mC (.str "rounds")) (zb (mC (.str "letters")) zg))))))))) (zO 9 (mOp zeS (mC (.str "zz")) (mOp zjs (zf 2) (zf 7)))) zU)
  (zbt (zc2 6 (zf 9))))))))
  (zw (zam (mB (mOp (zbH false) (zI zn (zb (zf 0) (zb (mC (.int 5)) zg))) (mC (.int 0)))) (zw (zO 10 (mOp zaG (zbs (zb (mC (.str "ends")) (zb (mC (.str "pa")) (zb (mC (.str "gives")) (zb (mC (.str "giv")) (zb (mC (.str "x")) (zb (mC (.str "y")) (zb (mC (.str "r")) (zb (mC (.str "rk")) zg))))))))) (zI zn (zb (zf 0) (zb (mC (.int 8)) zg)))))
  (zam (mB (mOp (fIn true) (zf 10) (zf 6))) (zey 6 (zf 10) (zI zn (zb (zf 0) (zb (zf 1) zg)))) zU)) zU)
  (zaf (mCB (f1 ze9) (zb (zf 6) zg))))))))))
noncomputable def zbd:FD:=zcm 11 [0,1] zdp
theorem zgx(F:Fun K "_law_names" "_law_names" zbx f fd)(hB:Bl mg ["isinstance", "int", "bool", "tuple", "len", "abs", "str", "all", "set", "enumerate", "range", "list", "ValueError"])(hT:XT K zaJ xfl)(c_n_law_take:Cal P w K mg base "_law_take" 1 ["_law_box_here", "_law_wide"] (spV K 2 zn)):FnOk P w K mg base CX0 2 f fd ["_law_box_here", "_law_many"] (spV K 2 zbd) :=
 F.okV (n:=2) (nn:=11) (pn:=[0,1]) (m:=zdp) zaa rfl rfl (by decide) fun cdv A outer s H E hr=>⟨_,(w_s (zJ (i:=2) zaa.nd rfl (by first | exact Or.inl rfl | exact Or.inr rfl) zu)
  (w_s (zpT (i:=3) zaa.nd rfl (by first | exact Or.inl rfl | exact Or.inr rfl) 1 ["_law_k"] rfl rfl ⟨rfl,by decide,by decide,by decide,by decide⟩ (.cons (j:=0) rfl (.inl rfl) rfl (.cons (j:=2) rfl (.inl rfl) rfl .nil)) rfl (zdt rfl (hB "range" (by decide)) (w_a (zY zaN zi (zD c_n_law_take (hr.mono (by decide)) rfl (w_a (w_v 0) (w_a zi zc)))) zc)) (fun _ _ _ _=>(zap (i:=0) (by show List.Nodup (["_law_k", "_law_box_here", "_law_alphabet"]:List Str); decide) rfl (by first | exact Or.inl rfl | exact Or.inr rfl))) (zhp (by decide)) (fun _ _ _ _=>zlZ) (fun _ _ _ _=>(zag zi3 (w_v 2) (zD c_n_law_take (hr.mono (by decide)) rfl (w_a (w_v 1) (w_a zi zc))) (fun _ _=>rfl))))
  (w_s (zJ (i:=4) zaa.nd rfl (by first | exact Or.inl rfl | exact Or.inr rfl) (zD c_n_law_take (hr.mono (by decide)) rfl (w_a (w_v 0) (w_a (zal (zaq K rfl) rfl (hB "len" (by decide)) PySem.boot_len (w_a (w_v 3) zc)) zc))))
  (w_s (zJ (i:=5) zaa.nd rfl (by first | exact Or.inl rfl | exact Or.inr rfl) (zD c_n_law_take (hr.mono (by decide)) rfl (w_a (w_v 0) (w_a zi zc))))
  (w_s (zJ (i:=6) zaa.nd rfl (by first | exact Or.inl rfl | exact Or.inr rfl) (zaL zc))
  (w_s (zeG PassesOwn.never rfl (zdt rfl (hB "range" (by decide)) (w_a (w_v 1) zc)) (zap (i:=7) zaa.nd rfl (by first | exact Or.inl rfl | exact Or.inr rfl)) (w_s (zJ (i:=8) zaa.nd rfl (by first | exact Or.inl rfl | exact Or.inr rfl) (zag zi3 (w_v 2) (zY zcV (zY zaN (w_v 5) (zY zdh zi (w_v 7))) zi) (fun _ _=>rfl)))
  (w_s (zJ (i:=9) zaa.nd rfl (by first | exact Or.inl rfl | exact Or.inr rfl) (zY zdG (zY zdG (zdW K rfl PySem.F.plainAttrs_str PySem.F.slot_str_join PySem.F.type_str_join (zj0 K rfl) zu (w_a (zdI (zjX K rfl) (w_v 3) zeF (zcQ (w_v 4))) zc)) (w_v 8)) (zdW K rfl PySem.F.plainAttrs_str PySem.F.slot_str_join PySem.F.type_str_join (zj0 K rfl) zu (w_a (zdI (zjX K rfl) (w_v 3) (zcQ (zY zaN (w_v 4) zi)) zeF) zc))))
  (w_s (zJ (i:=9) zaa.nd rfl (by first | exact Or.inl rfl | exact Or.inr rfl) (zY zdG (w_v 9) (zY zi8 zu (zD c_n_law_take (hr.mono (by decide)) rfl (w_a (w_v 0) (w_a zi zc))))))
  (w_s (zhs (zaP (zdc (zbU (zH (ztJ K rfl) (w_v 9) (w_v 6) rfl) (zbC (zH (ztJ K rfl) (w_v 9) (zk (w_a zu (w_a zu (w_a zu (w_a zu (w_a zu zc)))))) rfl)))) (zL (zJ (i:=9) zaa.nd rfl (by first | exact Or.inl rfl | exact Or.inr rfl) (zY zdG zu (zag zi3 (w_v 2) (w_v 7) (fun _ _=>rfl))))) zQ))
  (zL (zbY (zdW K rfl PySem.F.plainAttrs_list PySem.F.slot_list_append PySem.F.type_list_append zay (w_v 6) (w_a (w_v 9) zc)))))))))
  (w_s (zhs (zaP (zH zca (zD c_n_law_take (hr.mono (by decide)) rfl (w_a (w_v 0) (w_a zi zc))) zi (zE _)) (w_s (zJ (i:=10) zaa.nd rfl (by first | exact Or.inl rfl | exact Or.inr rfl) (zag (zak K rfl) (zaL (w_a zu (w_a zu (w_a zu (w_a zu (w_a zu (w_a zu (w_a zu (w_a zu zc))))))))) (zD c_n_law_take (hr.mono (by decide)) rfl (w_a (w_v 0) (w_a zi zc))) (fun _ _=>rfl)))
  (zL (zaP (zH (zn4 K rfl) (w_v 10) (w_v 6) rfl) (zL (zf9 (w_v 10) (zi6 (w_v 6) (zD c_n_law_take (hr.mono (by decide)) rfl (w_a (w_v 0) (w_a (w_v 1) zc))) zf5))) zQ))) zQ))
  (zL (zN (zhr (zeb K rfl) rfl (hB "tuple" (by decide)) PyProof.Rows.boot_tuple (w_a (w_v 6) zc))))))))))),
  (zr (zG (by decide) zv)
  (zr (zG (by decide) (zrz (nt:=1) (js:=[0,2]) (by decide) (zee (za (zq zaQ zh (zC (za (zd 0) (za zh ze)) (zj (zj zB)))) ze)) (zar (by decide)) zmi (zq zjt (zd 2) (zC (za (zd 1) (za zh ze)) (zj (zj zB))))))
  (zr (zG (by decide) (zC (za (zd 0) (za (zaH zZ (za (zd 3) ze)) ze)) (zj (zj zB))))
  (zr (zG (by decide) (zC (za (zd 0) (za zh ze)) (zj (zj zB))))
  (zr (zG (by decide) (zaM ze))
  (zr (zeO (zee (za (zd 1) ze)) (zar (by decide)) (zr (zG (by decide) (zq zjt (zd 2) (zq zc0 (zq zaQ (zd 5) (zq zdi zh (zd 7))) zh)))
  (zr (zG (by decide) (zq zfQ (zq zfQ (zuE zmr zkh zv (zjo zfP (zd 3) zeR (zcS (zd 4)))) (zd 8)) (zuE zmr zkh zv (zjo zfP (zd 3) (zcS (zq zaQ (zd 4) zh)) zeR))))
  (zr (zG (by decide) (zq zfQ (zd 9) (zq zoV zv (zC (za (zd 0) (za zh ze)) (zj (zj zB))))))
  (zr (zhA (zad (zbV (zy (zq (zmz false) (zd 9) (zd 6))) (zy (zq (zmz false) (zd 9) (zm (za zv (za zv (za zv (za zv (za zv ze))))))))) (zG (by decide) (zq zfQ zv (zq zjt (zd 2) (zd 7)))) zR))
  (zb0 (zc3 (i:=6) (zd 9))))))))
  (zr (zhA (zad (zy (zq zbi (zC (za (zd 0) (za zh ze)) (zj (zj zB))) zh)) (zr (zG (by decide) (zq zT (zaM (za zv (za zv (za zv (za zv (za zv (za zv (za zv (za zv ze))))))))) (zC (za (zd 0) (za zh ze)) (zj (zj zB)))))
  (zad (zy (zq (zmz true) (zd 10) (zd 6))) (zhB (i:=6) (zd 10) (zC (za (zd 0) (za (zd 1) ze)) (zj (zj zB)))) zR)) zR))
  (zP (zaH zeL (za (zd 6) ze))))))))))⟩
noncomputable def zc6:MS:=(zw (zO 1 (zI zn (zb (zf 0) (zb (mC (.int 12)) zg))))
  (zw (zam (mB (mOp fLt (zf 1) (mC (.int 7)))) (zaf (mOp zaG (zbs (zb (zp (zb (mC (.int 0)) (zb (mC (.int 1)) zg))) (zb (zp (zb (mC (.int 1)) (zb (mC (.int 1)) zg))) (zb (zp (zb (mC (.int 1)) (zb (mC (.int 1)) zg))) (zb (zp (zb (mUn zek (mC (.int 1))) (zb (mC (.int 1)) zg))) (zb (zp (zb (mC (.int 2)) (zb (mC (.int 1)) zg))) (zb (zp (zb (mC (.int 1)) (zb (mC (.int 2)) zg))) (zb (zp (zb (mUn zek (mC (.int 2))) (zb (mC (.int 3)) zg))) zg)))))))) (zf 1))) zU)
  (zw (zam (mB (mOp fLt (zf 1) (mC (.int 11)))) (zaf (zI zaA (zb (mOp zii (zI zn (zb (zf 0) (zb (mC (.int 19)) zg))) (mC (.int 9))) (zb (mOp zb3 (mC (.int 1)) (zI zn (zb (zf 0) (zb (mC (.int 4)) zg)))) zg)))) zU)
  (zaf (zI zaA (zb (mOp zii (zI zn (zb (zf 0) (zb (mC (.int 1999999)) zg))) (mC (.int 999999))) (zb (mOp zb3 (mC (.int 1)) (zI zn (zb (zf 0) (zb (mC (.int 4)) zg)))) zg)))))))
noncomputable def zaF:FD:=zcm 2 [0] zc6
theorem zfE(F:Fun K "_law_number" "_law_number" zbl f fd)(hB:Bl mg ["isinstance", "int", "bool", "tuple", "len", "abs", "str", "all", "set", "enumerate", "range", "list", "ValueError"])(hT:XT K zaJ xfl)(c_n_law_take:Cal P w K mg base "_law_take" 1 ["_law_box_here", "_law_wide"] (spV K 2 zn))(c_n_law_fraction:Cal P w K mg base "_law_fraction" 1 ["_law_n", "_law_d"] (spV K 2 zaA)):FnOk P w K mg base CX0 2 f fd ["_law_box_here"] (spV K 1 zaF) :=
 F.okV (n:=1) (nn:=2) (pn:=[0]) (m:=zc6) zdQ rfl rfl (by decide) fun cdv A outer s H E hr=>⟨_,(w_s (zJ (i:=1) zdQ.nd rfl (by first | exact Or.inl rfl | exact Or.inr rfl) (zD c_n_law_take (hr.mono (by decide)) rfl (w_a (w_v 0) (w_a zi zc))))
  (w_s (zaP (zH zem (w_v 1) zi (zE _)) (zL (zN (zag (zak K rfl) (zaL (w_a (zk (w_a zi (w_a zi zc))) (w_a (zk (w_a zi (w_a zi zc))) (w_a (zk (w_a zi (w_a zi zc))) (w_a (zk (w_a (zfy zcI zi) (w_a zi zc))) (w_a (zk (w_a zi (w_a zi zc))) (w_a (zk (w_a zi (w_a zi zc))) (w_a (zk (w_a (zfy zcI zi) (w_a zi zc))) zc)))))))) (w_v 1) (fun _ _=>rfl)))) zQ)
  (w_s (zaP (zH zem (w_v 1) zi (zE _)) (zL (zN (zD c_n_law_fraction (hr.mono (by decide)) rfl (w_a (zY zf0 (zD c_n_law_take (hr.mono (by decide)) rfl (w_a (w_v 0) (w_a zi zc))) zi) (w_a (zY zaN zi (zD c_n_law_take (hr.mono (by decide)) rfl (w_a (w_v 0) (w_a zi zc)))) zc))))) zQ)
  (zL (zN (zD c_n_law_fraction (hr.mono (by decide)) rfl (w_a (zY zf0 (zD c_n_law_take (hr.mono (by decide)) rfl (w_a (w_v 0) (w_a zi zc))) zi) (w_a (zY zaN zi (zD c_n_law_take (hr.mono (by decide)) rfl (w_a (w_v 0) (w_a zi zc)))) zc)))))))),
  (zr (zG (by decide) (zC (za (zd 0) (za zh ze)) (zj (zj zB))))
  (zr (zad (zy (zq zen (zd 1) zh)) (zP (zq zT (zaM (za (zm (za zh (za zh ze))) (za (zm (za zh (za zh ze))) (za (zm (za zh (za zh ze))) (za (zm (za (zeI zcJ zh) (za zh ze))) (za (zm (za zh (za zh ze))) (za (zm (za zh (za zh ze))) (za (zm (za (zeI zcJ zh) (za zh ze))) ze)))))))) (zd 1))) zR)
  (zr (zad (zy (zq zen (zd 1) zh)) (zP (zC (za (zq zgb (zC (za (zd 0) (za zh ze)) (zj (zj zB))) zh) (za (zq zaQ zh (zC (za (zd 0) (za zh ze)) (zj (zj zB)))) ze)) (zj (zj zB)))) zR)
  (zP (zC (za (zq zgb (zC (za (zd 0) (za zh ze)) (zj (zj zB))) zh) (za (zq zaQ zh (zC (za (zd 0) (za zh ze)) (zj (zj zB)))) ze)) (zj (zj zB)))))))⟩
noncomputable def zcB:MS:=(zw (zO 3 (zp (zb (mC (.int 1)) (zb (mC (.int 1)) zg))))
  (zw (zO 4 (zbs (zb (zp (zb (mC (.str "letter")) (zb (zf 1) zg))) (zb (zp (zb (mC (.str "letter")) (zb (mUn zek (mC (.int 1))) zg))) (zb (zp (zb (mC (.str "letter")) zg)) (zb (zp (zb (mC (.str "letter")) (zb (mC (.int 0)) (zb (mC (.int 0)) zg)))) (zb (zp (zb (mC (.str "Letter")) (zb (mC (.int 0)) zg))) (zb (zp zg) zg))))))))
  (zw (zO 4 (mOp zdw (zf 4) (zbs (zb (zp (zb (mC (.str "mix")) (zb (zp zg) zg))) (zb (zp (zb (mC (.str "mix")) zg)) zg)))))
  (zw (zO 4 (mOp zdw (zf 4) (zbs (zb (zp (zb (mC (.str "mix")) (zb (zp (zb (zp (zb (zf 3) (zb (mC (.int 0)) zg))) zg)) (zb (mC (.int 0)) zg)))) (zb (zp (zb (mC (.str "mix")) (zb (zp (zb (zp (zb (zp (zb (mC (.int 0)) (zb (mC (.int 1)) zg))) (zb (mC (.int 0)) zg))) zg)) zg))) zg)))))
  (zw (zO 4 (mOp zdw (zf 4) (zbs (zb (zp (zb (mC (.str "mix")) (zb (zp (zb (zp (zb (zp (zb (mC (.int 2)) (zb (mC (.int 4)) zg))) (zb (mC (.int 0)) zg))) zg)) zg))) zg))))
  (zw (zO 4 (mOp zdw (zf 4) (zbs (zb (zp (zb (mC (.str "mix")) (zb (zp (zb (zp (zb (zp (zb (mC (.int 1)) (zb (mUn zek (mC (.int 1))) zg))) (zb (mC (.int 0)) zg))) zg)) zg))) zg))))
  (zw (zO 4 (mOp zdw (zf 4) (zbs (zb (zp (zb (mC (.str "mix")) (zb (zp (zb (zp (zb (zp (zb (mC (.int 1)) (zb (mC (.int 0)) zg))) (zb (mC (.int 0)) zg))) zg)) zg))) (zb (zp (zb (mC (.str "mix")) (zb (zp (zb (zp (zb (zf 3) (zb (mC (.int 0)) zg))) (zb (zp (zb (zf 3) (zb (mC (.int 2)) zg))) zg))) zg))) (zb (zp (zb (mC (.str "mix")) (zb (zp (zb (zp (zb (zf 3) (zb (mC (.int 1)) zg))) (zb (zp (zb (zf 3) (zb (mC (.int 0)) zg))) zg))) zg))) zg))))))
  (zw (zO 4 (mOp zdw (zf 4) (zbs (zb (zp (zb (mC (.str "mix")) (zb (zp (zb (zp (zb (zf 3) (zb (mC (.int 0)) zg))) (zb (zp (zb (zp (zb (mC (.int 2)) (zb (mC (.int 1)) zg))) (zb (mC (.int 0)) zg))) zg))) zg))) (zb (zp (zb (mC (.str "mix")) (zb (zp (zb (zp (zb (zf 3) (zb (zf 2) zg))) zg)) zg))) (zb (zp (zb (mC (.str "mix")) (zb (zp (zb (zp (zb (zf 3) (zb (mUn zek (mC (.int 1))) zg))) zg)) zg))) zg))))))
  (zw (zO 4 (mOp zdw (zf 4) (zbs (zb (zp (zb (mC (.str "mix")) (zb (zp (zb (zp (zb (zf 3) (zb (mC (.int 0)) (zb (mC (.int 0)) zg)))) zg)) zg))) (zb (zp (zb (mC (.str "mix")) (zb (zp (zb (zf 3) (zb (mC (.int 0)) zg))) zg))) (zb (zp (zb (mC (.str "mix")) (zb (zp (zb (zp (zb (mC (.int 1)) (zb (mC (.int 0)) zg))) zg)) zg))) (zb (zp (zb (mC (.str "mix")) (zb (mC (.int 0)) zg))) zg)))))))
  (zw (zO 4 (mOp zdw (zf 4) (zbs (zb (zp (zb (mC (.str "mix")) (zb (zp (zb (zp (zb (zf 3) (zb (mC .none) zg))) zg)) zg))) zg))))
  (zw (zO 4 (mOp zdw (zf 4) (zbs (zb (zp (zb (mC (.str "times")) (zb (mC (.int 0)) (zb (mC (.int 2)) zg)))) (zb (zp (zb (mC (.str "times")) (zb (zf 2) (zb (mC (.int 0)) zg)))) (zb (zp (zb (mC (.str "times")) (zb (mC (.int 2)) (zb (zf 2) zg)))) (zb (zp (zb (mC (.str "times")) (zb (mUn zek (mC (.int 1))) (zb (mC (.int 0)) zg)))) (zb (zp (zb (mC (.str "times")) (zb (mC (.int 2)) (zb (mUn zek (mC (.int 1))) zg)))) zg))))))))
  (zw (zO 4 (mOp zdw (zf 4) (zbs (zb (zp (zb (mC (.str "times")) (zb (mC (.int 0)) zg))) (zb (zp (zb (mC (.str "times")) (zb (mC (.int 0)) (zb (mC (.int 0)) (zb (mC (.int 0)) zg))))) (zb (zp (zb (mC (.str "plus")) (zb (mC (.int 0)) (zb (mC (.int 0)) zg)))) (zb (mC (.str "letter")) (zb (mC .none) (zb (mC (.int 5)) (zb (zp (zb (mC (.str "letter")) (zb (mC .none) zg))) zg))))))))))
  (zw (zO 4 (mOp zdw (zf 4) (zbs (zb (zp (zb (mC (.str "times")) (zb (mC (.int 2)) (zb (mC .none) zg)))) (zb (zp (zb (mC (.str "mix")) (zb (zp (zb (zp (zb (zf 3) (zb (mC (.int 2)) zg))) (zb (zp (zb (zf 3) (zb (mC (.int 3)) zg))) (zb (zp (zb (zf 3) (zb (mC (.int 2)) zg))) zg)))) zg))) (zb (zp (zb (mC (.str "mix")) (zb (zp (zb (zp (zb (zf 3) (zb (mC (.int 3)) zg))) (zb (zp (zb (zf 3) (zb (mC (.int 2)) zg))) zg))) zg))) zg))))))
  (zaf (mOp zaG (zf 4) (zI zn (zb (zf 0) (zb (mCB (f1 zaE) (zb (zf 4) zg)) zg))))))))))))))))))
noncomputable def zaB:FD:=zcm 5 [0,1,2] zcB
theorem zeY(F:Fun K "_law_bad_node" "_law_bad_node" zaV f fd)(hB:Bl mg ["isinstance", "int", "bool", "tuple", "len", "abs", "str", "all", "set", "enumerate", "range", "list", "ValueError"])(hT:XT K zaJ xfl)(c_n_law_take:Cal P w K mg base "_law_take" 1 ["_law_box_here", "_law_wide"] (spV K 2 zn)):FnOk P w K mg base CX0 2 f fd ["_law_box_here", "_law_many", "_law_at"] (spV K 3 zaB) :=
 F.okV (n:=3) (nn:=5) (pn:=[0,1,2]) (m:=zcB) zF rfl rfl (by decide) fun cdv A outer s H E hr=>⟨_,(w_s (zJ (i:=3) zF.nd rfl (by first | exact Or.inl rfl | exact Or.inr rfl) (zk (w_a zi (w_a zi zc))))
  (w_s (zJ (i:=4) zF.nd rfl (by first | exact Or.inl rfl | exact Or.inr rfl) (zaL (w_a (zk (w_a zu (w_a (w_v 1) zc))) (w_a (zk (w_a zu (w_a (zfy zcI zi) zc))) (w_a (zk (w_a zu zc)) (w_a (zk (w_a zu (w_a zi (w_a zi zc)))) (w_a (zk (w_a zu (w_a zi zc))) (w_a (zk zc) zc))))))))
  (w_s (zJ (i:=4) zF.nd rfl (by first | exact Or.inl rfl | exact Or.inr rfl) (zY zbX (w_v 4) (zaL (w_a (zk (w_a zu (w_a (zk zc) zc))) (w_a (zk (w_a zu zc)) zc)))))
  (w_s (zJ (i:=4) zF.nd rfl (by first | exact Or.inl rfl | exact Or.inr rfl) (zY zbX (w_v 4) (zaL (w_a (zk (w_a zu (w_a (zk (w_a (zk (w_a (w_v 3) (w_a zi zc))) zc)) (w_a zi zc)))) (w_a (zk (w_a zu (w_a (zk (w_a (zk (w_a (zk (w_a zi (w_a zi zc))) (w_a zi zc))) zc)) zc))) zc)))))
  (w_s (zJ (i:=4) zF.nd rfl (by first | exact Or.inl rfl | exact Or.inr rfl) (zY zbX (w_v 4) (zaL (w_a (zk (w_a zu (w_a (zk (w_a (zk (w_a (zk (w_a zi (w_a zi zc))) (w_a zi zc))) zc)) zc))) zc))))
  (w_s (zJ (i:=4) zF.nd rfl (by first | exact Or.inl rfl | exact Or.inr rfl) (zY zbX (w_v 4) (zaL (w_a (zk (w_a zu (w_a (zk (w_a (zk (w_a (zk (w_a zi (w_a (zfy zcI zi) zc))) (w_a zi zc))) zc)) zc))) zc))))
  (w_s (zJ (i:=4) zF.nd rfl (by first | exact Or.inl rfl | exact Or.inr rfl) (zY zbX (w_v 4) (zaL (w_a (zk (w_a zu (w_a (zk (w_a (zk (w_a (zk (w_a zi (w_a zi zc))) (w_a zi zc))) zc)) zc))) (w_a (zk (w_a zu (w_a (zk (w_a (zk (w_a (w_v 3) (w_a zi zc))) (w_a (zk (w_a (w_v 3) (w_a zi zc))) zc))) zc))) (w_a (zk (w_a zu (w_a (zk (w_a (zk (w_a (w_v 3) (w_a zi zc))) (w_a (zk (w_a (w_v 3) (w_a zi zc))) zc))) zc))) zc))))))
  (w_s (zJ (i:=4) zF.nd rfl (by first | exact Or.inl rfl | exact Or.inr rfl) (zY zbX (w_v 4) (zaL (w_a (zk (w_a zu (w_a (zk (w_a (zk (w_a (w_v 3) (w_a zi zc))) (w_a (zk (w_a (zk (w_a zi (w_a zi zc))) (w_a zi zc))) zc))) zc))) (w_a (zk (w_a zu (w_a (zk (w_a (zk (w_a (w_v 3) (w_a (w_v 2) zc))) zc)) zc))) (w_a (zk (w_a zu (w_a (zk (w_a (zk (w_a (w_v 3) (w_a (zfy zcI zi) zc))) zc)) zc))) zc))))))
  (w_s (zJ (i:=4) zF.nd rfl (by first | exact Or.inl rfl | exact Or.inr rfl) (zY zbX (w_v 4) (zaL (w_a (zk (w_a zu (w_a (zk (w_a (zk (w_a (w_v 3) (w_a zi (w_a zi zc)))) zc)) zc))) (w_a (zk (w_a zu (w_a (zk (w_a (w_v 3) (w_a zi zc))) zc))) (w_a (zk (w_a zu (w_a (zk (w_a (zk (w_a zi (w_a zi zc))) zc)) zc))) (w_a (zk (w_a zu (w_a zi zc))) zc)))))))
  (w_s (zJ (i:=4) zF.nd rfl (by first | exact Or.inl rfl | exact Or.inr rfl) (zY zbX (w_v 4) (zaL (w_a (zk (w_a zu (w_a (zk (w_a (zk (w_a (w_v 3) (w_a zaZ zc))) zc)) zc))) zc))))
  (w_s (zJ (i:=4) zF.nd rfl (by first | exact Or.inl rfl | exact Or.inr rfl) (zY zbX (w_v 4) (zaL (w_a (zk (w_a zu (w_a zi (w_a zi zc)))) (w_a (zk (w_a zu (w_a (w_v 2) (w_a zi zc)))) (w_a (zk (w_a zu (w_a zi (w_a (w_v 2) zc)))) (w_a (zk (w_a zu (w_a (zfy zcI zi) (w_a zi zc)))) (w_a (zk (w_a zu (w_a zi (w_a (zfy zcI zi) zc)))) zc))))))))
  (w_s (zJ (i:=4) zF.nd rfl (by first | exact Or.inl rfl | exact Or.inr rfl) (zY zbX (w_v 4) (zaL (w_a (zk (w_a zu (w_a zi zc))) (w_a (zk (w_a zu (w_a zi (w_a zi (w_a zi zc))))) (w_a (zk (w_a zu (w_a zi (w_a zi zc)))) (w_a zu (w_a zaZ (w_a zi (w_a (zk (w_a zu (w_a zaZ zc))) zc))))))))))
  (w_s (zJ (i:=4) zF.nd rfl (by first | exact Or.inl rfl | exact Or.inr rfl) (zY zbX (w_v 4) (zaL (w_a (zk (w_a zu (w_a zi (w_a zaZ zc)))) (w_a (zk (w_a zu (w_a (zk (w_a (zk (w_a (w_v 3) (w_a zi zc))) (w_a (zk (w_a (w_v 3) (w_a zi zc))) (w_a (zk (w_a (w_v 3) (w_a zi zc))) zc)))) zc))) (w_a (zk (w_a zu (w_a (zk (w_a (zk (w_a (w_v 3) (w_a zi zc))) (w_a (zk (w_a (w_v 3) (w_a zi zc))) zc))) zc))) zc))))))
  (zL (zN (zag (zak K rfl) (w_v 4) (zD c_n_law_take (hr.mono (by decide)) rfl (w_a (w_v 0) (w_a (zal (zaq K rfl) rfl (hB "len" (by decide)) PySem.boot_len (w_a (w_v 4) zc)) zc))) (fun _ _=>rfl))))))))))))))))),
  (zr (zG (by decide) (zm (za zh (za zh ze))))
  (zr (zG (by decide) (zaM (za (zm (za zv (za (zd 1) ze))) (za (zm (za zv (za (zeI zcJ zh) ze))) (za (zm (za zv ze)) (za (zm (za zv (za zh (za zh ze)))) (za (zm (za zv (za zh ze))) (za (zm ze) ze))))))))
  (zr (zG (by decide) (zq zbZ (zd 4) (zaM (za (zm (za zv (za (zm ze) ze))) (za (zm (za zv ze)) ze)))))
  (zr (zG (by decide) (zq zbZ (zd 4) (zaM (za (zm (za zv (za (zm (za (zm (za (zd 3) (za zh ze))) ze)) (za zh ze)))) (za (zm (za zv (za (zm (za (zm (za (zm (za zh (za zh ze))) (za zh ze))) ze)) ze))) ze)))))
  (zr (zG (by decide) (zq zbZ (zd 4) (zaM (za (zm (za zv (za (zm (za (zm (za (zm (za zh (za zh ze))) (za zh ze))) ze)) ze))) ze))))
  (zr (zG (by decide) (zq zbZ (zd 4) (zaM (za (zm (za zv (za (zm (za (zm (za (zm (za zh (za (zeI zcJ zh) ze))) (za zh ze))) ze)) ze))) ze))))
  (zr (zG (by decide) (zq zbZ (zd 4) (zaM (za (zm (za zv (za (zm (za (zm (za (zm (za zh (za zh ze))) (za zh ze))) ze)) ze))) (za (zm (za zv (za (zm (za (zm (za (zd 3) (za zh ze))) (za (zm (za (zd 3) (za zh ze))) ze))) ze))) (za (zm (za zv (za (zm (za (zm (za (zd 3) (za zh ze))) (za (zm (za (zd 3) (za zh ze))) ze))) ze))) ze))))))
  (zr (zG (by decide) (zq zbZ (zd 4) (zaM (za (zm (za zv (za (zm (za (zm (za (zd 3) (za zh ze))) (za (zm (za (zm (za zh (za zh ze))) (za zh ze))) ze))) ze))) (za (zm (za zv (za (zm (za (zm (za (zd 3) (za (zd 2) ze))) ze)) ze))) (za (zm (za zv (za (zm (za (zm (za (zd 3) (za (zeI zcJ zh) ze))) ze)) ze))) ze))))))
  (zr (zG (by decide) (zq zbZ (zd 4) (zaM (za (zm (za zv (za (zm (za (zm (za (zd 3) (za zh (za zh ze)))) ze)) ze))) (za (zm (za zv (za (zm (za (zd 3) (za zh ze))) ze))) (za (zm (za zv (za (zm (za (zm (za zh (za zh ze))) ze)) ze))) (za (zm (za zv (za zh ze))) ze)))))))
  (zr (zG (by decide) (zq zbZ (zd 4) (zaM (za (zm (za zv (za (zm (za (zm (za (zd 3) (za za0 ze))) ze)) ze))) ze))))
  (zr (zG (by decide) (zq zbZ (zd 4) (zaM (za (zm (za zv (za zh (za zh ze)))) (za (zm (za zv (za (zd 2) (za zh ze)))) (za (zm (za zv (za zh (za (zd 2) ze)))) (za (zm (za zv (za (zeI zcJ zh) (za zh ze)))) (za (zm (za zv (za zh (za (zeI zcJ zh) ze)))) ze))))))))
  (zr (zG (by decide) (zq zbZ (zd 4) (zaM (za (zm (za zv (za zh ze))) (za (zm (za zv (za zh (za zh (za zh ze))))) (za (zm (za zv (za zh (za zh ze)))) (za zv (za za0 (za zh (za (zm (za zv (za za0 ze))) ze))))))))))
  (zr (zG (by decide) (zq zbZ (zd 4) (zaM (za (zm (za zv (za zh (za za0 ze)))) (za (zm (za zv (za (zm (za (zm (za (zd 3) (za zh ze))) (za (zm (za (zd 3) (za zh ze))) (za (zm (za (zd 3) (za zh ze))) ze)))) ze))) (za (zm (za zv (za (zm (za (zm (za (zd 3) (za zh ze))) (za (zm (za (zd 3) (za zh ze))) ze))) ze))) ze))))))
  (zP (zq zT (zd 4) (zC (za (zd 0) (za (zaH zZ (za (zd 4) ze)) ze)) (zj (zj zB))))))))))))))))))⟩
noncomputable def zcM:MS:=(zw (zO 2 (zp (zb (mC (.int 1)) (zb (mC (.int 1)) zg))))
  (zw (zO 3 (zbs (zb (zp (zb (zf 2) (zb (zp (zb (mC (.int 2)) zg)) zg))) (zb (zp (zb (zf 2) (zb (zp (zb (mC .none) (zb (mC (.int 0)) zg))) zg))) (zb (zp (zb (zf 2) (zb (zp (zb (mC .none) (zb (mC .none) (zb (mC (.int 2)) zg)))) zg))) (zb (zp (zb (zf 2) (zb (zp (zb (zf 1) zg)) zg))) (zb (zp (zb (zf 2) (zb (zp (zb (mUn zek (mC (.int 1))) zg)) zg))) zg)))))))
  (zw (zO 3 (mOp zdw (zf 3) (zbs (zb (zp (zb (zp (zb (mC (.int 2)) (zb (mC (.int 2)) zg))) (zb (zp zg) zg))) (zb (zp (zb (zp (zb (mC (.int 1)) (zb (mC (.int 0)) zg))) (zb (zp zg) zg))) zg)))))
  (zw (zO 3 (mOp zdw (zf 3) (zbs (zb (zp (zb (zf 2) zg)) (zb (zp (zb (zf 2) (zb (zp zg) (zb (zp zg) zg)))) (zb (zp (zb (zf 2) (zb (mC (.int 0)) zg))) (zb (mC .none) (zb (zp (zb (zp (zb (mC (.int 1)) (zb (mUn zek (mC (.int 2))) zg))) (zb (zp zg) zg))) (zb (zp (zb (mC (.int 1)) (zb (zp zg) zg))) (zb (zp (zb (zf 2) (zb (zp (zb (mC (.int 0)) (zb (mC (.int 1)) zg))) zg))) zg))))))))))
  (zw (zO 3 (mOp zdw (zf 3) (zbs (zb (zp (zb (zf 2) (zb (zp (zb (mC (.str "0")) zg)) zg))) (zb (zp (zb (zp (zb (mC (.int 0)) (zb (mC (.int 2)) zg))) (zb (zp zg) zg))) zg)))))
  (zaf (mOp zaG (zf 3) (zI zn (zb (zf 0) (zb (mCB (f1 zaE) (zb (zf 3) zg)) zg))))))))))
noncomputable def zab:FD:=zcm 4 [0,1] zcM
theorem zfh(F:Fun K "_law_bad_top" "_law_bad_top" za6 f fd)(hB:Bl mg ["isinstance", "int", "bool", "tuple", "len", "abs", "str", "all", "set", "enumerate", "range", "list", "ValueError"])(hT:XT K zaJ xfl)(c_n_law_take:Cal P w K mg base "_law_take" 1 ["_law_box_here", "_law_wide"] (spV K 2 zn)):FnOk P w K mg base CX0 2 f fd ["_law_box_here", "_law_many"] (spV K 2 zab) :=
 F.okV (n:=2) (nn:=4) (pn:=[0,1]) (m:=zcM) zaW rfl rfl (by decide) fun cdv A outer s H E hr=>⟨_,(w_s (zJ (i:=2) zaW.nd rfl (by first | exact Or.inl rfl | exact Or.inr rfl) (zk (w_a zi (w_a zi zc))))
  (w_s (zJ (i:=3) zaW.nd rfl (by first | exact Or.inl rfl | exact Or.inr rfl) (zaL (w_a (zk (w_a (w_v 2) (w_a (zk (w_a zi zc)) zc))) (w_a (zk (w_a (w_v 2) (w_a (zk (w_a zaZ (w_a zi zc))) zc))) (w_a (zk (w_a (w_v 2) (w_a (zk (w_a zaZ (w_a zaZ (w_a zi zc)))) zc))) (w_a (zk (w_a (w_v 2) (w_a (zk (w_a (w_v 1) zc)) zc))) (w_a (zk (w_a (w_v 2) (w_a (zk (w_a (zfy zcI zi) zc)) zc))) zc)))))))
  (w_s (zJ (i:=3) zaW.nd rfl (by first | exact Or.inl rfl | exact Or.inr rfl) (zY zbX (w_v 3) (zaL (w_a (zk (w_a (zk (w_a zi (w_a zi zc))) (w_a (zk zc) zc))) (w_a (zk (w_a (zk (w_a zi (w_a zi zc))) (w_a (zk zc) zc))) zc)))))
  (w_s (zJ (i:=3) zaW.nd rfl (by first | exact Or.inl rfl | exact Or.inr rfl) (zY zbX (w_v 3) (zaL (w_a (zk (w_a (w_v 2) zc)) (w_a (zk (w_a (w_v 2) (w_a (zk zc) (w_a (zk zc) zc)))) (w_a (zk (w_a (w_v 2) (w_a zi zc))) (w_a zaZ (w_a (zk (w_a (zk (w_a zi (w_a (zfy zcI zi) zc))) (w_a (zk zc) zc))) (w_a (zk (w_a zi (w_a (zk zc) zc))) (w_a (zk (w_a (w_v 2) (w_a (zk (w_a zi (w_a zi zc))) zc))) zc))))))))))
  (w_s (zJ (i:=3) zaW.nd rfl (by first | exact Or.inl rfl | exact Or.inr rfl) (zY zbX (w_v 3) (zaL (w_a (zk (w_a (w_v 2) (w_a (zk (w_a zu zc)) zc))) (w_a (zk (w_a (zk (w_a zi (w_a zi zc))) (w_a (zk zc) zc))) zc)))))
  (zL (zN (zag (zak K rfl) (w_v 3) (zD c_n_law_take (hr.mono (by decide)) rfl (w_a (w_v 0) (w_a (zal (zaq K rfl) rfl (hB "len" (by decide)) PySem.boot_len (w_a (w_v 3) zc)) zc))) (fun _ _=>rfl))))))))),
  (zr (zG (by decide) (zm (za zh (za zh ze))))
  (zr (zG (by decide) (zaM (za (zm (za (zd 2) (za (zm (za zh ze)) ze))) (za (zm (za (zd 2) (za (zm (za za0 (za zh ze))) ze))) (za (zm (za (zd 2) (za (zm (za za0 (za za0 (za zh ze)))) ze))) (za (zm (za (zd 2) (za (zm (za (zd 1) ze)) ze))) (za (zm (za (zd 2) (za (zm (za (zeI zcJ zh) ze)) ze))) ze)))))))
  (zr (zG (by decide) (zq zbZ (zd 3) (zaM (za (zm (za (zm (za zh (za zh ze))) (za (zm ze) ze))) (za (zm (za (zm (za zh (za zh ze))) (za (zm ze) ze))) ze)))))
  (zr (zG (by decide) (zq zbZ (zd 3) (zaM (za (zm (za (zd 2) ze)) (za (zm (za (zd 2) (za (zm ze) (za (zm ze) ze)))) (za (zm (za (zd 2) (za zh ze))) (za za0 (za (zm (za (zm (za zh (za (zeI zcJ zh) ze))) (za (zm ze) ze))) (za (zm (za zh (za (zm ze) ze))) (za (zm (za (zd 2) (za (zm (za zh (za zh ze))) ze))) ze))))))))))
  (zr (zG (by decide) (zq zbZ (zd 3) (zaM (za (zm (za (zd 2) (za (zm (za zv ze)) ze))) (za (zm (za (zm (za zh (za zh ze))) (za (zm ze) ze))) ze)))))
  (zP (zq zT (zd 3) (zC (za (zd 0) (za (zaH zZ (za (zd 3) ze)) ze)) (zj (zj zB))))))))))⟩
noncomputable def zb2:MS:=(zw (zO 1 (zbs (zb (zp zg) (zb (zp (zb (mC (.str "a")) (zb (mC (.str "b")) (zb (mC (.str "c")) (zb (mC (.str "d")) zg))))) (zb (zp (zb (mC (.str "a")) (zb (mC (.str "b")) (zb (mC (.str "a")) zg)))) (zb (zp (zb (mC (.str "part")) zg)) (zb (zp (zb (mC (.str "abcdef")) zg)) (zb (zp (zb (mC (.str "A")) zg)) (zb (zp (zb (mC (.str "")) zg)) zg)))))))))
  (zw (zO 1 (mOp zdw (zf 1) (zbs (zb (zp (zb (mC (.str "a1")) zg)) (zb (zp (zb (mC (.str "a")) (zb (mC (.str "b")) (zb (mC (.str "end")) zg)))) zg)))))
  (zw (zO 1 (mOp zdw (zf 1) (zbs (zb (zp (zb (mC (.str "x")) (zb (mC (.str "x")) zg))) (zb (zp (zb (mC (.str "a b")) zg)) (zb (zp (zb (mC (.str "give")) (zb (mC (.str "x")) zg))) (zb (zp (zb (mC (.str "x")) (zb (mC (.str "letters")) zg))) (zb (zp (zb (mC (.str "rounds")) zg)) zg))))))))
  (zaf (mOp zaG (zf 1) (zI zn (zb (zf 0) (zb (mCB (f1 zaE) (zb (zf 1) zg)) zg))))))))
noncomputable def zai:FD:=zcm 2 [0] zb2
theorem zd4(F:Fun K "_law_bad_letters" "_law_bad_letters" zau f fd)(hB:Bl mg ["isinstance", "int", "bool", "tuple", "len", "abs", "str", "all", "set", "enumerate", "range", "list", "ValueError"])(hT:XT K zaJ xfl)(c_n_law_take:Cal P w K mg base "_law_take" 1 ["_law_box_here", "_law_wide"] (spV K 2 zn)):FnOk P w K mg base CX0 2 f fd ["_law_box_here"] (spV K 1 zai) :=
 F.okV (n:=1) (nn:=2) (pn:=[0]) (m:=zb2) zbb rfl rfl (by decide) fun cdv A outer s H E hr=>⟨_,(w_s (zJ (i:=1) zbb.nd rfl (by first | exact Or.inl rfl | exact Or.inr rfl) (zaL (w_a (zk zc) (w_a (zk (w_a zu (w_a zu (w_a zu (w_a zu zc))))) (w_a (zk (w_a zu (w_a zu (w_a zu zc)))) (w_a (zk (w_a zu zc)) (w_a (zk (w_a zu zc)) (w_a (zk (w_a zu zc)) (w_a (zk (w_a zu zc)) zc)))))))))
  (w_s (zJ (i:=1) zbb.nd rfl (by first | exact Or.inl rfl | exact Or.inr rfl) (zY zbX (w_v 1) (zaL (w_a (zk (w_a zu zc)) (w_a (zk (w_a zu (w_a zu (w_a zu zc)))) zc)))))
  (w_s (zJ (i:=1) zbb.nd rfl (by first | exact Or.inl rfl | exact Or.inr rfl) (zY zbX (w_v 1) (zaL (w_a (zk (w_a zu (w_a zu zc))) (w_a (zk (w_a zu zc)) (w_a (zk (w_a zu (w_a zu zc))) (w_a (zk (w_a zu (w_a zu zc))) (w_a (zk (w_a zu zc)) zc))))))))
  (zL (zN (zag (zak K rfl) (w_v 1) (zD c_n_law_take (hr.mono (by decide)) rfl (w_a (w_v 0) (w_a (zal (zaq K rfl) rfl (hB "len" (by decide)) PySem.boot_len (w_a (w_v 1) zc)) zc))) (fun _ _=>rfl))))))),
  (zr (zG (by decide) (zaM (za (zm ze) (za (zm (za zv (za zv (za zv (za zv ze))))) (za (zm (za zv (za zv (za zv ze)))) (za (zm (za zv ze)) (za (zm (za zv ze)) (za (zm (za zv ze)) (za (zm (za zv ze)) ze)))))))))
  (zr (zG (by decide) (zq zbZ (zd 1) (zaM (za (zm (za zv ze)) (za (zm (za zv (za zv (za zv ze)))) ze)))))
  (zr (zG (by decide) (zq zbZ (zd 1) (zaM (za (zm (za zv (za zv ze))) (za (zm (za zv ze)) (za (zm (za zv (za zv ze))) (za (zm (za zv (za zv ze))) (za (zm (za zv ze)) ze))))))))
  (zP (zq zT (zd 1) (zC (za (zd 0) (za (zaH zZ (za (zd 1) ze)) ze)) (zj (zj zB))))))))⟩
noncomputable def zc7:MS:=(zw (zam (zcK (mB (zI zbB (zb (zf 0) zg)))) (zff (zsc "BadLetters")) zU)
  (zaf (mC (.bool true))))
noncomputable def zbn:FX:=zoT 1 [0] zc7
theorem zfF(F:Fun K "look_letters" "look_letters" zbj f fd)(hB:Bl mg ["isinstance", "int", "bool", "tuple", "len", "abs", "str", "all", "set", "enumerate", "range", "list", "ValueError"])(hT:XT K zaJ xfl){CBadLetters:Addr}(aXBadLetters:XN K "BadLetters" CBadLetters)(gXBadLetters:mg "BadLetters"=some (.ref CBadLetters))(xXBadLetters:XCal0 K mg "BadLetters" CBadLetters)(c_are_letters:Cal P w K mg base "are_letters" 2 ["things"] (spV K 1 zbB)):FnOk P w K mg base (CXv P w) 3 f fd ["letters"] (spX K 1 zbn) :=
 F.okX (n:=1) (nn:=1) (pn:=[0]) (m:=zc7) zfC rfl rfl (by decide) fun cdv A outer s H E hr hx=>⟨_,(w_s (zaP (za1 (zaI (zD c_are_letters (hr.mono (by decide)) rfl (w_a (w_v 0) zc)))) (zL (zfT K rfl hr hx (zk4 xXBadLetters rfl))) zQ)
  (zL (zN zcY))),
  (zr (zad (za3 (zcs (zC (za (zd 0) ze) (zj zB)))) (zfS (zmu xXBadLetters.xn xXBadLetters.cl)) zR)
  (zP zcZ))⟩
noncomputable def zbS:MS:=(zw (zam (zcK (mB (mUn (zcv "tuple") (zf 0)))) (zaf (mC .none)) zU)
  (zw (zO 2 (mC .none))
  (zw (zO 3 (mUn zek (mC (.int 1))))
  (zw (zeN (mIt zmb (zf 0)) (zaz 4) (zw (zam (mOr (zcK (mB (mUn (zcv "tuple") (zf 4)))) (mB (mOp (zbH true) (mCB (f1 zaE) (zb (zf 4) zg)) (mC (.int 2))))) (zaf (mC .none)) zU)
  (zw (zim (zf 4) (zd0 2 (zb1 (zaz 5) (zb1 (zaz 6) zeM))))
  (zw (zam (mOr (zcK (mB (zI zV (zb (zf 5) zg)))) (mOr (mB (mUn (zo1 false [0,1]) (zf 5))) (mOr (zcK (mB (zI zah (zb (zf 6) (zb (mCB (f1 zaE) (zb (zf 1) zg)) zg))))) (mB (mOp fLe (zf 6) (zf 3)))))) (zaf (mC .none)) zU)
  (zw (zam (zjm (mB (mOp (zfA true) (zf 2) (mC .none))) (mB (mOp (zbH true) (mOp zaG (zf 1) (zf 6)) (zf 2)))) (zaf (mC .none)) zU)
  (zw (zO 2 (mOp zaG (zf 1) (zf 6)))
  (zO 3 (zf 6))))))))
  (zaf (zf 2))))))
noncomputable def zaR:FD:=zcm 7 [0,1] zbS
theorem zgS(F:Fun K "mix_degree" "mix_degree" zbN f fd)(hB:Bl mg ["isinstance", "int", "bool", "tuple", "len", "abs", "str", "all", "set", "enumerate", "range", "list", "ValueError"])(hT:XT K zaJ xfl){GNOUGHT:Addr}(g_NOUGHT:mg "NOUGHT"=some (.ref GNOUGHT))(gt_NOUGHT:GTi K GNOUGHT [0,1])(c_is_fraction:Cal P w K mg base "is_fraction" 2 ["thing"] (spV K 1 zV))(c_is_place:Cal P w K mg base "is_place" 2 ["thing", "many"] (spV K 2 zah)):FnOk P w K mg base CX0 3 f fd ["pairs", "ahead"] (spV K 2 zaR) :=
 F.okV (n:=2) (nn:=7) (pn:=[0,1]) (m:=zbS) zaS rfl rfl (by decide) fun cdv A outer s H E hr=>⟨_,(w_s (zaP (za1 (zaI (zal (zdu K rfl) rfl (hB "isinstance" (by decide)) PyProof.Rows.boot_isinstance (w_a (w_v 0) (w_a (zco (v:=.ty "tuple") rfl (hB "tuple" (by decide)) PyProof.Rows.boot_tuple rfl) zc))))) (zL (zN zaZ)) zQ)
  (w_s (zJ (i:=2) zaS.nd rfl (by first | exact Or.inl rfl | exact Or.inr rfl) zaZ)
  (w_s (zJ (i:=3) zaS.nd rfl (by first | exact Or.inl rfl | exact Or.inr rfl) (zfy zcI zi))
  (w_s (zeG PassesOwn.never rfl (zl1 K rfl (w_v 0)) (zap (i:=4) zaS.nd rfl (by first | exact Or.inl rfl | exact Or.inr rfl)) (w_s (zaP (zdc (zbU (za1 (zaI (zal (zdu K rfl) rfl (hB "isinstance" (by decide)) PyProof.Rows.boot_isinstance (w_a (w_v 4) (w_a (zco (v:=.ty "tuple") rfl (hB "tuple" (by decide)) PyProof.Rows.boot_tuple rfl) zc))))) (zbC (zH zgY (zal (zaq K rfl) rfl (hB "len" (by decide)) PySem.boot_len (w_a (w_v 4) zc)) zi (zE _))))) (zL (zN zaZ)) zQ)
  (w_s (zf9 (w_v 4) (ze5 K rfl rfl (w_g (zap (i:=5) zaS.nd rfl (by first | exact Or.inl rfl | exact Or.inr rfl)) (w_g (zap (i:=6) zaS.nd rfl (by first | exact Or.inl rfl | exact Or.inr rfl)) ze4))))
  (w_s (zaP (zdc (zbU (za1 (zaI (zD c_is_fraction (hr.mono (by decide)) rfl (w_a (w_v 5) zc)))) (zbU (zH (zji K rfl hr) (w_v 5) (zht (v:=.ref GNOUGHT) rfl g_NOUGHT rfl) (zE _)) (zbU (za1 (zaI (zD c_is_place (hr.mono (by decide)) rfl (w_a (w_v 6) (w_a (zal (zaq K rfl) rfl (hB "len" (by decide)) PySem.boot_len (w_a (w_v 1) zc)) zc))))) (zbC (zH zjO (w_v 6) (w_v 3) (zE _))))))) (zL (zN zaZ)) zQ)
  (w_s (zaP (zdc (zhq (zH zjQ (w_v 2) zaZ (zE _)) (zfL (zH zgY (zag (zak K rfl) (w_v 1) (w_v 6) (fun _ _=>rfl)) (w_v 2) (zE _))))) (zL (zN zaZ)) zQ)
  (w_s (zJ (i:=2) zaS.nd rfl (by first | exact Or.inl rfl | exact Or.inr rfl) (zag (zak K rfl) (w_v 1) (w_v 6) (fun _ _=>rfl)))
  (zL (zJ (i:=3) zaS.nd rfl (by first | exact Or.inl rfl | exact Or.inr rfl) (w_v 6)))))))))
  (zL (zN (w_v 2))))))),
  (zr (zad (za3 (zcs (zdz (T := "tuple") (zd 0)))) (zP za0) zR)
  (zr (zG (by decide) za0)
  (zr (zG (by decide) (zeI zcJ zh))
  (zr (zeO (zmc (zd 0)) (zar (by decide)) (zr (zad (zbV (za3 (zcs (zdz (T := "tuple") (zd 4)))) (zy (zq zfe (zaH zZ (za (zd 4) ze)) zh))) (zP za0) zR)
  (zr (zka (zd 4) (zfd (zbL (zar (by decide)) (zbL (zar (by decide)) zfc))))
  (zr (zad (zbV (za3 (zcs (zC (za (zd 5) ze) (zj zB)))) (zbV (zy (zuO (neg:=false) gt_NOUGHT (zd 5))) (zbV (za3 (zcs (zC (za (zd 6) (za (zaH zZ (za (zd 1) ze)) ze)) (zj (zj zB))))) (zy (zq zj3 (zd 6) (zd 3)))))) (zP za0) zR)
  (zr (zad (zhy (zy (zq zke (zd 2) za0)) (zy (zq zfe (zq zT (zd 1) (zd 6)) (zd 2)))) (zP za0) zR)
  (zr (zG (by decide) (zq zT (zd 1) (zd 6)))
  (zG (by decide) (zd 6))))))))
  (zP (zd 2))))))⟩
noncomputable def zc8:MS:=(zw (zam (mOr (zcK (mB (zI zah (zb (zf 0) (zb (mCB (f1 zaE) (zb (zf 2) zg)) zg))))) (mOr (zcK (mB (zI zah (zb (zf 1) (zb (mCB (f1 zaE) (zb (zf 2) zg)) zg))))) (mB (mOp fLt (mOp zaG (zf 2) (zf 0)) (mOp zaG (zf 2) (zf 1)))))) (zaf (mC .none)) zU)
  (zaf (mOp zb3 (mOp zaG (zf 2) (zf 0)) (mOp zaG (zf 2) (zf 1)))))
noncomputable def zbo:FD:=zcm 3 [0,1,2] zc8
theorem zfG(F:Fun K "times_degree" "times_degree" zbk f fd)(hB:Bl mg ["isinstance", "int", "bool", "tuple", "len", "abs", "str", "all", "set", "enumerate", "range", "list", "ValueError"])(hT:XT K zaJ xfl)(c_is_place:Cal P w K mg base "is_place" 2 ["thing", "many"] (spV K 2 zah)):FnOk P w K mg base CX0 3 f fd ["one", "other", "ahead"] (spV K 3 zbo) :=
 F.okV (n:=3) (nn:=3) (pn:=[0,1,2]) (m:=zc8) zfD rfl rfl (by decide) fun cdv A outer s H E hr=>⟨_,(w_s (zaP (zdc (zbU (za1 (zaI (zD c_is_place (hr.mono (by decide)) rfl (w_a (w_v 0) (w_a (zal (zaq K rfl) rfl (hB "len" (by decide)) PySem.boot_len (w_a (w_v 2) zc)) zc))))) (zbU (za1 (zaI (zD c_is_place (hr.mono (by decide)) rfl (w_a (w_v 1) (w_a (zal (zaq K rfl) rfl (hB "len" (by decide)) PySem.boot_len (w_a (w_v 2) zc)) zc))))) (zbC (zH zem (zag (zak K rfl) (w_v 2) (w_v 0) (fun _ _=>rfl)) (zag (zak K rfl) (w_v 2) (w_v 1) (fun _ _=>rfl)) (zE _)))))) (zL (zN zaZ)) zQ)
  (zL (zN (zY zaN (zag (zak K rfl) (w_v 2) (w_v 0) (fun _ _=>rfl)) (zag (zak K rfl) (w_v 2) (w_v 1) (fun _ _=>rfl)))))),
  (zr (zad (zbV (za3 (zcs (zC (za (zd 0) (za (zaH zZ (za (zd 2) ze)) ze)) (zj (zj zB))))) (zbV (za3 (zcs (zC (za (zd 1) (za (zaH zZ (za (zd 2) ze)) ze)) (zj (zj zB))))) (zy (zq zen (zq zT (zd 2) (zd 0)) (zq zT (zd 2) (zd 1)))))) (zP za0) zR)
  (zP (zq zaQ (zq zT (zd 2) (zd 0)) (zq zT (zd 2) (zd 1)))))⟩
noncomputable def zc9:MS:=(zw (zam (mOr (zcK (mB (mUn (zcv "tuple") (zf 0)))) (mB (mOp (zbH true) (mCB (f1 zaE) (zb (zf 0) zg)) (mC (.int 2))))) (zaf (mC (.bool false))) zU)
  (zw (zim (zf 0) (zd0 2 (zb1 (zaz 2) (zb1 (zaz 3) zeM))))
  (zw (zam (mOr (zcK (mB (zI zV (zb (zf 2) zg)))) (zcK (mB (mUn (zcv "tuple") (zf 3))))) (zaf (mC (.bool false))) zU)
  (zw (zeN (zhO (zb (zf 3) zg)) (zd0 2 (zb1 (zaz 4) (zb1 (zaz 5) zeM))) (zam (zjm (mB (mOp (zfA true) (zf 5) (mC .none))) (mOr (zcK (mB (zI zah (zb (zf 5) (zb (mCB (f1 zaE) (zb (zf 1) zg)) zg))))) (mB (mOp (zbH true) (mOp zaG (zf 1) (zf 5)) (zf 4))))) (zaf (mC (.bool false))) zU))
  (zaf (mC (.bool true)))))))
noncomputable def zb7:FD:=zcm 6 [0,1] zc9
theorem zlc(F:Fun K "is_top" "is_top" zdB f fd)(hB:Bl mg ["isinstance", "int", "bool", "tuple", "len", "abs", "str", "all", "set", "enumerate", "range", "list", "ValueError"])(hT:XT K zaJ xfl)(c_is_fraction:Cal P w K mg base "is_fraction" 2 ["thing"] (spV K 1 zV))(c_is_place:Cal P w K mg base "is_place" 2 ["thing", "many"] (spV K 2 zah)):FnOk P w K mg base CX0 3 f fd ["top", "ahead"] (spV K 2 zb7) :=
 F.okV (n:=2) (nn:=6) (pn:=[0,1]) (m:=zc9) zdC rfl rfl (by decide) fun cdv A outer s H E hr=>⟨_,(w_s (zaP (zdc (zbU (za1 (zaI (zal (zdu K rfl) rfl (hB "isinstance" (by decide)) PyProof.Rows.boot_isinstance (w_a (w_v 0) (w_a (zco (v:=.ty "tuple") rfl (hB "tuple" (by decide)) PyProof.Rows.boot_tuple rfl) zc))))) (zbC (zH zgY (zal (zaq K rfl) rfl (hB "len" (by decide)) PySem.boot_len (w_a (w_v 0) zc)) zi (zE _))))) (zL (zN zcY)) zQ)
  (w_s (zf9 (w_v 0) (ze5 K rfl rfl (w_g (zap (i:=2) zdC.nd rfl (by first | exact Or.inl rfl | exact Or.inr rfl)) (w_g (zap (i:=3) zdC.nd rfl (by first | exact Or.inl rfl | exact Or.inr rfl)) ze4))))
  (w_s (zaP (zdc (zbU (za1 (zaI (zD c_is_fraction (hr.mono (by decide)) rfl (w_a (w_v 2) zc)))) (zbC (za1 (zaI (zal (zdu K rfl) rfl (hB "isinstance" (by decide)) PyProof.Rows.boot_isinstance (w_a (w_v 3) (w_a (zco (v:=.ty "tuple") rfl (hB "tuple" (by decide)) PyProof.Rows.boot_tuple rfl) zc)))))))) (zL (zN zcY)) zQ)
  (w_s (zeG PassesOwn.never rfl (zmY K rfl rfl (hB "enumerate" (by decide)) (w_a (w_v 3) zc)) (ze5 K rfl rfl (w_g (zap (i:=4) zdC.nd rfl (by first | exact Or.inl rfl | exact Or.inr rfl)) (w_g (zap (i:=5) zdC.nd rfl (by first | exact Or.inl rfl | exact Or.inr rfl)) ze4))) (zL (zaP (zdc (zhq (zH zjQ (w_v 5) zaZ (zE _)) (zfL (zdc (zbU (za1 (zaI (zD c_is_place (hr.mono (by decide)) rfl (w_a (w_v 5) (w_a (zal (zaq K rfl) rfl (hB "len" (by decide)) PySem.boot_len (w_a (w_v 1) zc)) zc))))) (zbC (zH zgY (zag (zak K rfl) (w_v 1) (w_v 5) (fun _ _=>rfl)) (w_v 4) (zE _)))))))) (zL (zN zcY)) zQ)))
  (zL (zN zcY)))))),
  (zr (zad (zbV (za3 (zcs (zdz (T := "tuple") (zd 0)))) (zy (zq zfe (zaH zZ (za (zd 0) ze)) zh))) (zP zcZ) zR)
  (zr (zka (zd 0) (zfd (zbL (zar (by decide)) (zbL (zar (by decide)) zfc))))
  (zr (zad (zbV (za3 (zcs (zC (za (zd 2) ze) (zj zB)))) (za3 (zcs (zdz (T := "tuple") (zd 3))))) (zP zcZ) zR)
  (zr (zeO (zmZ (za (zd 3) ze)) (zfd (zbL (zar (by decide)) (zbL (zar (by decide)) zfc))) (zad (zhy (zy (zq zke (zd 5) za0)) (zbV (za3 (zcs (zC (za (zd 5) (za (zaH zZ (za (zd 1) ze)) ze)) (zj (zj zB))))) (zy (zq zfe (zq zT (zd 1) (zd 5)) (zd 4))))) (zP zcZ) zR))
  (zP zcZ)))))⟩
noncomputable def zda:MS:=(zw (zO 1 (zI zaF (zb (zf 0) zg)))
  (zw (zam (mB (mOp (zbH false) (mOp zbh (zf 1) (mC (.int 0))) (mC (.int 0)))) (zaf (zp (zb (mC (.int 3)) (zb (mC (.int 2)) zg)))) zU)
  (zaf (zf 1))))
noncomputable def zbp:FD:=zcm 2 [0] zda
theorem zfH(F:Fun K "_law_factor" "_law_factor" zbm f fd)(hB:Bl mg ["isinstance", "int", "bool", "tuple", "len", "abs", "str", "all", "set", "enumerate", "range", "list", "ValueError"])(hT:XT K zaJ xfl)(c_n_law_number:Cal P w K mg base "_law_number" 2 ["_law_box_here"] (spV K 1 zaF)):FnOk P w K mg base CX0 3 f fd ["_law_box_here"] (spV K 1 zbp) :=
 F.okV (n:=1) (nn:=2) (pn:=[0]) (m:=zda) zdR rfl rfl (by decide) fun cdv A outer s H E hr=>⟨_,(w_s (zJ (i:=1) zdR.nd rfl (by first | exact Or.inl rfl | exact Or.inr rfl) (zD c_n_law_number (hr.mono (by decide)) rfl (w_a (w_v 0) zc)))
  (w_s (zaP (zH zca (zag (zbF K rfl) (w_v 1) zi (fun _ _=>rfl)) zi (zE _)) (zL (zN (zk (w_a zi (w_a zi zc))))) zQ)
  (zL (zN (w_v 1))))),
  (zr (zG (by decide) (zC (za (zd 0) ze) (zj zB)))
  (zr (zad (zy (zq zbi (zq zaX (zd 1) zh) zh)) (zP (zm (za zh (za zh ze)))) zR)
  (zP (zd 1))))⟩
noncomputable def zd5:MS:=(zw (zO 3 (zI zaC (zb (zf 1) zg)))
  (zw (zO 4 (zbs zg))
  (zw (zeN (zj8 (zb (mC (.int 1)) (zb (mOp zb3 (zf 2) (mC (.int 1))) zg))) (zaz 5) (zw (zO 6 (mLC (zeo (zb (mCB (f1 zaE) (zb (zf 1) zg)) zg)) 1 [3,5] (zaz 0) (mB (mOp (zbH false) (mOp zaG (zf 1) (zf 0)) (zf 2))) (zf 0)))
  (zw (zO 7 (zI zn (zb (zf 0) (zb (mC (.int 4)) zg))))
  (zam (mOr (mB (mOp (zbH false) (mCB (f1 zaE) (zb (zf 6) zg)) (mC (.int 0)))) (mB (mOp (zbH false) (zf 7) (mC (.int 0))))) (zbt (zc2 4 (mC .none))) (zam (mB (mOp fLt (zf 7) (mC (.int 3)))) (zbt (zc2 4 (mOp zaG (zf 6) (mUn zek (mC (.int 1)))))) (zbt (zc2 4 (mOp zaG (zf 6) (zI zn (zb (zf 0) (zb (mCB (f1 zaE) (zb (zf 6) zg)) zg)))))))))))
  (zaf (zp (zb (zI zaF (zb (zf 0) zg)) (zb (mCB (f1 ze9) (zb (mSl zhC (zf 4) zcE (zct (mOp zb3 (mOp zeJ (zI zn (zb (zf 0) (zb (mC (.int 2)) zg))) (zf 2)) (zI zn (zb (zf 0) (zb (mOp zb3 (zf 2) (mC (.int 1))) zg)))))) zg)) zg)))))))
noncomputable def zbI:FD:=zcm 8 [0,1,2] zd5
theorem zhX(F:Fun K "_law_top" "_law_top" zci f fd)(hB:Bl mg ["isinstance", "int", "bool", "tuple", "len", "abs", "str", "all", "set", "enumerate", "range", "list", "ValueError"])(hT:XT K zaJ xfl)(c_n_law_take:Cal P w K mg base "_law_take" 1 ["_law_box_here", "_law_wide"] (spV K 2 zn))(c_n_law_number:Cal P w K mg base "_law_number" 2 ["_law_box_here"] (spV K 1 zaF))(c_n_law_high:Cal P w K mg base "_law_high" 1 ["_law_nodes_here"] (spV K 1 zaC)):FnOk P w K mg base CX0 3 f fd ["_law_box_here", "_law_nodes_here", "_law_deep"] (spV K 3 zbI) :=
 F.okV (n:=3) (nn:=8) (pn:=[0,1,2]) (m:=zd5) zbQ rfl rfl (by decide) fun cdv A outer s H E hr=>⟨_,(w_s (zJ (i:=3) zbQ.nd rfl (by first | exact Or.inl rfl | exact Or.inr rfl) (zD c_n_law_high (hr.mono (by decide)) rfl (w_a (w_v 1) zc)))
  (w_s (zJ (i:=4) zbQ.nd rfl (by first | exact Or.inl rfl | exact Or.inr rfl) (zaL zc))
  (w_s (zeG PassesOwn.never rfl (zlY rfl (hB "range" (by decide)) (w_a zi (w_a (zY zaN (w_v 2) zi) zc))) (zap (i:=5) zbQ.nd rfl (by first | exact Or.inl rfl | exact Or.inr rfl)) (w_s (zpT (i:=6) zbQ.nd rfl (by first | exact Or.inl rfl | exact Or.inr rfl) 1 ["_law_n"] rfl rfl ⟨rfl,by decide,by decide,by decide,by decide⟩ (.cons (j:=3) rfl (.inl rfl) rfl (.cons (j:=5) rfl (.inl rfl) rfl .nil)) rfl (zdt rfl (hB "range" (by decide)) (w_a (zal (zaq K rfl) rfl (hB "len" (by decide)) PySem.boot_len (w_a (w_v 1) zc)) zc)) (fun _ _ _ _=>(zap (i:=0) (by show List.Nodup (["_law_n", "_law_high_here", "_law_grade"]:List Str); decide) rfl (by first | exact Or.inl rfl | exact Or.inr rfl))) (zhp (by decide)) (fun _ _ _ _=>(zrh (zH zca (zag (zak K rfl) (w_v 1) (w_v 0) (fun _ _=>rfl)) (w_v 2) (zE _)))) (fun _ _ _ _=>(w_v 0)))
  (w_s (zJ (i:=7) zbQ.nd rfl (by first | exact Or.inl rfl | exact Or.inr rfl) (zD c_n_law_take (hr.mono (by decide)) rfl (w_a (w_v 0) (w_a zi zc))))
  (zL (zaP (zdc (zbU (zH zca (zal (zaq K rfl) rfl (hB "len" (by decide)) PySem.boot_len (w_a (w_v 6) zc)) zi (zE _)) (zbC (zH zca (w_v 7) zi (zE _))))) (zL (zbY (zdW K rfl PySem.F.plainAttrs_list PySem.F.slot_list_append PySem.F.type_list_append zay (w_v 4) (w_a zaZ zc)))) (zL (zaP (zH zem (w_v 7) zi (zE _)) (zL (zbY (zdW K rfl PySem.F.plainAttrs_list PySem.F.slot_list_append PySem.F.type_list_append zay (w_v 4) (w_a (zag (zak K rfl) (w_v 6) (zfy zcI zi) (fun _ _=>rfl)) zc)))) (zL (zbY (zdW K rfl PySem.F.plainAttrs_list PySem.F.slot_list_append PySem.F.type_list_append zay (w_v 4) (w_a (zag (zak K rfl) (w_v 6) (zD c_n_law_take (hr.mono (by decide)) rfl (w_a (w_v 0) (w_a (zal (zaq K rfl) rfl (hB "len" (by decide)) PySem.boot_len (w_a (w_v 6) zc)) zc))) (fun _ _=>rfl)) zc)))))))))))
  (zL (zN (zk (w_a (zD c_n_law_number (hr.mono (by decide)) rfl (w_a (w_v 0) zc)) (w_a (zhr (zeb K rfl) rfl (hB "tuple" (by decide)) PyProof.Rows.boot_tuple (w_a (zdI (zjX K rfl) (w_v 4) zeF (zcQ (zY zaN (zY zdh (zD c_n_law_take (hr.mono (by decide)) rfl (w_a (w_v 0) (w_a zi zc))) (w_v 2)) (zD c_n_law_take (hr.mono (by decide)) rfl (w_a (w_v 0) (w_a (zY zaN (w_v 2) zi) zc)))))) zc)) zc)))))))),
  (zr (zG (by decide) (zC (za (zd 1) ze) (zj zB)))
  (zr (zG (by decide) (zaM ze))
  (zr (zeO (zoi (za zh (za (zq zaQ (zd 2) zh) ze))) (zar (by decide)) (zr (zG (by decide) (zrz (nt:=1) (js:=[3,5]) (by decide) (zee (za (zaH zZ (za (zd 1) ze)) ze)) (zar (by decide)) (zy (zq zbi (zq zT (zd 1) (zd 0)) (zd 2))) (zd 0)))
  (zr (zG (by decide) (zC (za (zd 0) (za zh ze)) (zj (zj zB))))
  (zad (zbV (zy (zq zbi (zaH zZ (za (zd 6) ze)) zh)) (zy (zq zbi (zd 7) zh))) (zb0 (zc3 (i:=4) za0)) (zad (zy (zq zen (zd 7) zh)) (zb0 (zc3 (i:=4) (zq zT (zd 6) (zeI zcJ zh)))) (zb0 (zc3 (i:=4) (zq zT (zd 6) (zC (za (zd 0) (za (zaH zZ (za (zd 6) ze)) ze)) (zj (zj zB)))))))))))
  (zP (zm (za (zC (za (zd 0) ze) (zj zB)) (za (zaH zeL (za (zjo zfP (zd 4) zeR (zcS (zq zaQ (zq zdi (zC (za (zd 0) (za zh ze)) (zj (zj zB))) (zd 2)) (zC (za (zd 0) (za (zq zaQ (zd 2) zh) ze)) (zj (zj zB)))))) ze)) ze)))))))⟩
noncomputable def zbe:MS:=(zw (zam (mOr (zcK (mB (mUn (zcv "tuple") (zf 0)))) (mB (mOp (zcR false) (zf 0) (zp zg)))) (zaf (mC .none)) zU)
  (zw (zam (mB (mOp (zbH false) (mOp zbh (zf 0) (mC (.int 0))) (mC (.str "letter")))) (zaf (mIf (zjm (mB (mOp (zbH false) (mCB (f1 zaE) (zb (zf 0) zg)) (mC (.int 2)))) (mB (zI zah (zb (mOp zbh (zf 0) (mC (.int 1))) (zb (zf 2) zg))))) (mC (.int 1)) (mC .none))) zU)
  (zw (zam (mB (mOp (zbH false) (mOp zbh (zf 0) (mC (.int 0))) (mC (.str "mix")))) (zaf (mIf (mB (mOp (zbH false) (mCB (f1 zaE) (zb (zf 0) zg)) (mC (.int 2)))) (zI zaR (zb (mOp zbh (zf 0) (mC (.int 1))) (zb (zf 1) zg))) (mC .none))) zU)
  (zw (zam (mB (mOp (zbH false) (mOp zbh (zf 0) (mC (.int 0))) (mC (.str "times")))) (zaf (mIf (mB (mOp (zbH false) (mCB (f1 zaE) (zb (zf 0) zg)) (mC (.int 3)))) (zI zbo (zb (mOp zbh (zf 0) (mC (.int 1))) (zb (mOp zbh (zf 0) (mC (.int 2))) (zb (zf 1) zg)))) (mC .none))) zU)
  (zaf (mC .none))))))
noncomputable def zan:FD:=zcm 3 [0,1,2] zbe
theorem zgy(F:Fun K "node_degree" "node_degree" zbw f fd)(hB:Bl mg ["isinstance", "int", "bool", "tuple", "len", "abs", "str", "all", "set", "enumerate", "range", "list", "ValueError"])(hT:XT K zaJ xfl)(c_is_place:Cal P w K mg base "is_place" 2 ["thing", "many"] (spV K 2 zah))(c_mix_degree:Cal P w K mg base "mix_degree" 3 ["pairs", "ahead"] (spV K 2 zaR))(c_times_degree:Cal P w K mg base "times_degree" 3 ["one", "other", "ahead"] (spV K 3 zbo)):FnOk P w K mg base CX0 4 f fd ["node", "ahead", "many_letters"] (spV K 3 zan) :=
 F.okV (n:=3) (nn:=3) (pn:=[0,1,2]) (m:=zbe) zgs rfl rfl (by decide) fun cdv A outer s H E hr=>⟨_,(w_s (zaP (zdc (zbU (za1 (zaI (zal (zdu K rfl) rfl (hB "isinstance" (by decide)) PyProof.Rows.boot_isinstance (w_a (w_v 0) (w_a (zco (v:=.ty "tuple") rfl (hB "tuple" (by decide)) PyProof.Rows.boot_tuple rfl) zc))))) (zbC (zH (zji K rfl hr) (w_v 0) (zk zc) (zE _))))) (zL (zN zaZ)) zQ)
  (w_s (zaP (zH zca (zag (zbF K rfl) (w_v 0) zi (fun _ _=>rfl)) zu (zE _)) (zL (zN (zlX (zdc (zhq (zH zca (zal (zaq K rfl) rfl (hB "len" (by decide)) PySem.boot_len (w_a (w_v 0) zc)) zi (zE _)) (zfL (zaI (zD c_is_place (hr.mono (by decide)) rfl (w_a (zag (zbF K rfl) (w_v 0) zi (fun _ _=>rfl)) (w_a (w_v 2) zc))))))) zi zaZ))) zQ)
  (w_s (zaP (zH zca (zag (zbF K rfl) (w_v 0) zi (fun _ _=>rfl)) zu (zE _)) (zL (zN (zlX (zH zca (zal (zaq K rfl) rfl (hB "len" (by decide)) PySem.boot_len (w_a (w_v 0) zc)) zi (zE _)) (zD c_mix_degree (hr.mono (by decide)) rfl (w_a (zag (zbF K rfl) (w_v 0) zi (fun _ _=>rfl)) (w_a (w_v 1) zc))) zaZ))) zQ)
  (w_s (zaP (zH zca (zag (zbF K rfl) (w_v 0) zi (fun _ _=>rfl)) zu (zE _)) (zL (zN (zlX (zH zca (zal (zaq K rfl) rfl (hB "len" (by decide)) PySem.boot_len (w_a (w_v 0) zc)) zi (zE _)) (zD c_times_degree (hr.mono (by decide)) rfl (w_a (zag (zbF K rfl) (w_v 0) zi (fun _ _=>rfl)) (w_a (zag (zbF K rfl) (w_v 0) zi (fun _ _=>rfl)) (w_a (w_v 1) zc)))) zaZ))) zQ)
  (zL (zN zaZ)))))),
  (zr (zad (zbV (za3 (zcs (zdz (T := "tuple") (zd 0)))) (zy (zq (zdX false) (zd 0) (zm ze)))) (zP za0) zR)
  (zr (zad (zy (zq zbi (zq zaX (zd 0) zh) zv)) (zP (zru (zhy (zy (zq zbi (zaH zZ (za (zd 0) ze)) zh)) (zcs (zC (za (zq zaX (zd 0) zh) (za (zd 2) ze)) (zj (zj zB))))) zh za0)) zR)
  (zr (zad (zy (zq zbi (zq zaX (zd 0) zh) zv)) (zP (zru (zy (zq zbi (zaH zZ (za (zd 0) ze)) zh)) (zC (za (zq zaX (zd 0) zh) (za (zd 1) ze)) (zj (zj zB))) za0)) zR)
  (zr (zad (zy (zq zbi (zq zaX (zd 0) zh) zv)) (zP (zru (zy (zq zbi (zaH zZ (za (zd 0) ze)) zh)) (zC (za (zq zaX (zd 0) zh) (za (zq zaX (zd 0) zh) (za (zd 1) ze))) (zj (zj (zj zB)))) za0)) zR)
  (zP za0)))))⟩
noncomputable def zd6:MS:=(zw (zO 4 (zbs zg))
  (zw (zeN (zeo (zb (mCB (f1 zaE) (zb (zf 1) zg)) zg)) (zaz 5) (zam (zjm (mB (mOp (zbH false) (mOp zaG (zf 2) (zf 5)) (mOp zaG (zf 2) (zf 3)))) (mOr (mB (mOp (zbH false) (zf 5) (zf 3))) (mB (mOp (zbH false) (zI zn (zb (zf 0) (zb (mC (.int 3)) zg))) (mC (.int 0)))))) (zbt (zc2 4 (zp (zb (zI zbp (zb (zf 0) zg)) (zb (zf 5) zg))))) zU))
  (zaf (zp (zb (mC (.str "mix")) (zb (mCB (f1 ze9) (zb (zf 4) zg)) zg))))))
noncomputable def zcl:FD:=zcm 6 [0,1,2,3] zd6
theorem zhY(F:Fun K "_law_mix" "_law_mix" zch f fd)(hB:Bl mg ["isinstance", "int", "bool", "tuple", "len", "abs", "str", "all", "set", "enumerate", "range", "list", "ValueError"])(hT:XT K zaJ xfl)(c_n_law_take:Cal P w K mg base "_law_take" 1 ["_law_box_here", "_law_wide"] (spV K 2 zn))(c_n_law_factor:Cal P w K mg base "_law_factor" 3 ["_law_box_here"] (spV K 1 zbp)):FnOk P w K mg base CX0 4 f fd ["_law_box_here", "_law_nodes_here", "_law_high_here", "_law_last"] (spV K 4 zcl) :=
 F.okV (n:=4) (nn:=6) (pn:=[0,1,2,3]) (m:=zd6) zdL rfl rfl (by decide) fun cdv A outer s H E hr=>⟨_,(w_s (zJ (i:=4) zdL.nd rfl (by first | exact Or.inl rfl | exact Or.inr rfl) (zaL zc))
  (w_s (zeG PassesOwn.never rfl (zdt rfl (hB "range" (by decide)) (w_a (zal (zaq K rfl) rfl (hB "len" (by decide)) PySem.boot_len (w_a (w_v 1) zc)) zc)) (zap (i:=5) zdL.nd rfl (by first | exact Or.inl rfl | exact Or.inr rfl)) (zL (zaP (zdc (zhq (zH zca (zag (zak K rfl) (w_v 2) (w_v 5) (fun _ _=>rfl)) (zag (zak K rfl) (w_v 2) (w_v 3) (fun _ _=>rfl)) (zE _)) (zfL (zdc (zbU (zH zca (w_v 5) (w_v 3) (zE _)) (zbC (zH zca (zD c_n_law_take (hr.mono (by decide)) rfl (w_a (w_v 0) (w_a zi zc))) zi (zE _)))))))) (zL (zbY (zdW K rfl PySem.F.plainAttrs_list PySem.F.slot_list_append PySem.F.type_list_append zay (w_v 4) (w_a (zk (w_a (zD c_n_law_factor (hr.mono (by decide)) rfl (w_a (w_v 0) zc)) (w_a (w_v 5) zc))) zc)))) zQ)))
  (zL (zN (zk (w_a zu (w_a (zhr (zeb K rfl) rfl (hB "tuple" (by decide)) PyProof.Rows.boot_tuple (w_a (w_v 4) zc)) zc))))))),
  (zr (zG (by decide) (zaM ze))
  (zr (zeO (zee (za (zaH zZ (za (zd 1) ze)) ze)) (zar (by decide)) (zad (zhy (zy (zq zbi (zq zT (zd 2) (zd 5)) (zq zT (zd 2) (zd 3)))) (zbV (zy (zq zbi (zd 5) (zd 3))) (zy (zq zbi (zC (za (zd 0) (za zh ze)) (zj (zj zB))) zh)))) (zb0 (zc3 (i:=4) (zm (za (zC (za (zd 0) ze) (zj zB)) (za (zd 5) ze))))) zR))
  (zP (zm (za zv (za (zaH zeL (za (zd 4) ze)) ze))))))⟩
noncomputable def zeA:MS:=(zw (zim (zf 0) (zd0 3 (zb1 (zaz 1) (zb1 (zaz 2) (zb1 (zaz 3) zeM)))))
  (zw (zhG zbt (zkj zbn (zb (zf 1) zg)))
  (zw (zam (zcK (mB (mUn (zcv "tuple") (zf 2)))) (zff (mXR "BadNode" "at" (zb (mC (.int 0)) zg))) zU)
  (zw (zO 4 (zbs zg))
  (zw (zeN (zj9 (zb (zf 2) zg)) (zd0 2 (zb1 (zaz 5) (zb1 (zaz 6) zeM))) (zw (zO 7 (zI zan (zb (zf 6) (zb (zf 4) (zb (mCB (f1 zaE) (zb (zf 1) zg)) zg)))))
  (zw (zam (mB (mOp (zfA false) (zf 7) (mC .none))) (zff (mXR "BadNode" "at" (zb (zf 5) zg))) zU)
  (zbt (zc2 4 (zf 7))))))
  (zw (zam (zcK (mB (zI zb7 (zb (zf 3) (zb (zf 4) zg))))) (zff (mXR "BadNode" "at" (zb (mCB (f1 zaE) (zb (zf 2) zg)) zg))) zU)
  (zaf (mC (.bool true)))))))))
noncomputable def zcC:FX:=zoT 8 [0] zeA
theorem ziJ(F:Fun K "look_net" "look_net" zcx f fd)(hB:Bl mg ["isinstance", "int", "bool", "tuple", "len", "abs", "str", "all", "set", "enumerate", "range", "list", "ValueError"])(hT:XT K zaJ xfl){CBadNode:Addr}(aXBadNode:XN K "BadNode" CBadNode)(gXBadNode:mg "BadNode"=some (.ref CBadNode))(xXBadNode:XCal P w K mg base "BadNode" CBadNode "at")(c_look_letters:CalX P w K mg base "look_letters" 3 ["letters"] (spX K 1 zbn))(c_node_degree:Cal P w K mg base "node_degree" 4 ["node", "ahead", "many_letters"] (spV K 3 zan))(c_is_top:Cal P w K mg base "is_top" 3 ["top", "ahead"] (spV K 2 zb7)):FnOk P w K mg base (CXv P w) 5 f fd ["net"] (spX K 1 zcC) :=
 F.okX (n:=1) (nn:=8) (pn:=[0]) (m:=zeA) zbr rfl rfl (by decide) fun cdv A outer s H E hr hx=>⟨_,(w_s (zf9 (w_v 0) (ze5 K rfl rfl (w_g (zap (i:=1) zbr.nd rfl (by first | exact Or.inl rfl | exact Or.inr rfl)) (w_g (zap (i:=2) zbr.nd rfl (by first | exact Or.inl rfl | exact Or.inr rfl)) (w_g (zap (i:=3) zbr.nd rfl (by first | exact Or.inl rfl | exact Or.inr rfl)) ze4)))))
  (w_s (zbY (zmv c_look_letters (hr.mono (by decide)) rfl hx (w_a (w_v 1) zc)))
  (w_s (zaP (za1 (zaI (zal (zdu K rfl) rfl (hB "isinstance" (by decide)) PyProof.Rows.boot_isinstance (w_a (w_v 2) (w_a (zco (v:=.ty "tuple") rfl (hB "tuple" (by decide)) PyProof.Rows.boot_tuple rfl) zc))))) (zL (zfT K rfl hr hx (zgj xXBadNode (hr.mono (by decide)) rfl (w_a zi zc)))) zQ)
  (w_s (zJ (i:=4) zbr.nd rfl (by first | exact Or.inl rfl | exact Or.inr rfl) (zaL zc))
  (w_s (zeG (by first | exact PassesOwn.leaving | exact PassesOwn.never) rfl (zn6 K rfl rfl (hB "enumerate" (by decide)) (w_a (w_v 2) zc)) (ze5 K rfl rfl (w_g (zap (i:=5) zbr.nd rfl (by first | exact Or.inl rfl | exact Or.inr rfl)) (w_g (zap (i:=6) zbr.nd rfl (by first | exact Or.inl rfl | exact Or.inr rfl)) ze4))) (w_s (zJ (i:=7) zbr.nd rfl (by first | exact Or.inl rfl | exact Or.inr rfl) (zD c_node_degree (hr.mono (by decide)) rfl (w_a (w_v 6) (w_a (w_v 4) (w_a (zal (zaq K rfl) rfl (hB "len" (by decide)) PySem.boot_len (w_a (w_v 1) zc)) zc)))))
  (w_s (zaP (zH zqU (w_v 7) zaZ (zE _)) (zL (zfT K rfl hr hx (zgj xXBadNode (hr.mono (by decide)) rfl (w_a (w_v 5) zc)))) zQ)
  (zL (zbY (zdW K rfl PySem.F.plainAttrs_list PySem.F.slot_list_append PySem.F.type_list_append zay (w_v 4) (w_a (w_v 7) zc)))))))
  (w_s (zaP (za1 (zaI (zD c_is_top (hr.mono (by decide)) rfl (w_a (w_v 3) (w_a (w_v 4) zc))))) (zL (zfT K rfl hr hx (zgj xXBadNode (hr.mono (by decide)) rfl (w_a (zal (zaq K rfl) rfl (hB "len" (by decide)) PySem.boot_len (w_a (w_v 2) zc)) zc)))) zQ)
  (zL (zN zcY)))))))),
  (zr (zka (zd 0) (zfd (zbL (zar (by decide)) (zbL (zar (by decide)) (zbL (zar (by decide)) zfc)))))
  (zr (zmt (zmw (za (zd 1) ze) (zj zB)))
  (zr (zad (za3 (zcs (zdz (T := "tuple") (zd 2)))) (zfS (zhH xXBadNode.xn xXBadNode.cl xXBadNode.na (za zh ze))) zR)
  (zr (zG (by decide) (zaM ze))
  (zr (zeO (zoj (za (zd 2) ze)) (zfd (zbL (zar (by decide)) (zbL (zar (by decide)) zfc))) (zr (zG (by decide) (zC (za (zd 6) (za (zd 4) (za (zaH zZ (za (zd 1) ze)) ze))) (zj (zj (zj zB)))))
  (zr (zad (zy (zq zrB (zd 7) za0)) (zfS (zhH xXBadNode.xn xXBadNode.cl xXBadNode.na (za (zd 5) ze))) zR)
  (zb0 (zc3 (i:=4) (zd 7))))))
  (zr (zad (za3 (zcs (zC (za (zd 3) (za (zd 4) ze)) (zj (zj zB))))) (zfS (zhH xXBadNode.xn xXBadNode.cl xXBadNode.na (za (zaH zZ (za (zd 2) ze)) ze))) zR)
  (zP zcZ)))))))⟩
noncomputable def zdq:MS:=(zw (zO 5 (mCB (f1 zl7) (zb (zf 2) zg)))
  (zw (zO 6 (zI zaC (zb (zf 5) zg)))
  (zw (zeN (zeo (zb (zf 3) zg)) (zaz 7) (zw (zO 8 (zI zn (zb (zf 0) (zb (mC (.int 6)) zg))))
  (zw (zam (mOr (mB (mOp (zbH false) (mCB (f1 zaE) (zb (zf 5) zg)) (mC (.int 0)))) (mB (mOp (zbH false) (zf 8) (mC (.int 0))))) (zw (zbt (zc2 5 (zp (zb (mC (.str "letter")) (zb (zI zn (zb (zf 0) (zb (zf 1) zg))) zg)))))
  (zw (zbt (zc2 6 (mC (.int 1))))
  (fun ρ=>some (.ct ρ)))) zU)
  (zw (zO 9 (mOp zaG (zbs (zb (mOp zii (mCB (f1 zaE) (zb (zf 5) zg)) (mC (.int 1))) (zb (zI zn (zb (zf 0) (zb (mCB (f1 zaE) (zb (zf 5) zg)) zg))) zg))) (zI zn (zb (zf 0) (zb (mC (.int 2)) zg)))))
  (zw (zO 10 (zI zn (zb (zf 0) (zb (mCB (f1 zaE) (zb (zf 5) zg)) zg))))
  (zam (mOr (mB (mOp fLt (zf 8) (mC (.int 3)))) (mB (mOp fGt (mOp zb3 (mOp zaG (zf 6) (zf 9)) (mOp zaG (zf 6) (zf 10))) (zf 4)))) (zw (zbt (zc2 5 (zI zcl (zb (zf 0) (zb (zf 5) (zb (zf 6) (zb (zf 9) zg)))))))
  (zbt (zc2 6 (mOp zaG (zf 6) (zf 9))))) (zw (zbt (zc2 5 (zp (zb (mC (.str "times")) (zb (mOp zaG (zbs (zb (zf 9) (zb (zf 10) zg))) (mCB (f1 zg6) (zb (mOp fLt (mOp zaG (zf 6) (zf 9)) (mOp zaG (zf 6) (zf 10))) zg))) (zb (mOp zaG (zbs (zb (zf 10) (zb (zf 9) zg))) (mCB (f1 zg6) (zb (mOp fLt (mOp zaG (zf 6) (zf 9)) (mOp zaG (zf 6) (zf 10))) zg))) zg))))))
  (zbt (zc2 6 (mOp zb3 (mOp zaG (zf 6) (zf 9)) (mOp zaG (zf 6) (zf 10))))))))))))
  (zaf (mCB (f1 ze9) (zb (zf 5) zg))))))
noncomputable def zbf:FD:=zcm 11 [0,1,2,3,4] zdq
theorem zgz(F:Fun K "_law_nodes" "_law_nodes" zby f fd)(hB:Bl mg ["isinstance", "int", "bool", "tuple", "len", "abs", "str", "all", "set", "enumerate", "range", "list", "ValueError"])(hT:XT K zaJ xfl)(c_n_law_take:Cal P w K mg base "_law_take" 1 ["_law_box_here", "_law_wide"] (spV K 2 zn))(c_n_law_mix:Cal P w K mg base "_law_mix" 4 ["_law_box_here", "_law_nodes_here", "_law_high_here", "_law_last"] (spV K 4 zcl))(c_n_law_high:Cal P w K mg base "_law_high" 1 ["_law_nodes_here"] (spV K 1 zaC)):FnOk P w K mg base CX0 5 f fd ["_law_box_here", "_law_many", "_law_nodes_here", "_law_most", "_law_deep"] (spV K 5 zbf) :=
 F.okV (n:=5) (nn:=11) (pn:=[0,1,2,3,4]) (m:=zdq) zaY rfl rfl (by decide) fun cdv A outer s H E hr=>⟨_,(w_s (zJ (i:=5) zaY.nd rfl (by first | exact Or.inl rfl | exact Or.inr rfl) (zhr (zl0 K rfl) rfl (hB "list" (by decide)) PyProof.Rows.boot_list (w_a (w_v 2) zc)))
  (w_s (zJ (i:=6) zaY.nd rfl (by first | exact Or.inl rfl | exact Or.inr rfl) (zD c_n_law_high (hr.mono (by decide)) rfl (w_a (w_v 5) zc)))
  (w_s (zeG PassesOwn.never rfl (zdt rfl (hB "range" (by decide)) (w_a (w_v 3) zc)) (zap (i:=7) zaY.nd rfl (by first | exact Or.inl rfl | exact Or.inr rfl)) (w_s (zJ (i:=8) zaY.nd rfl (by first | exact Or.inl rfl | exact Or.inr rfl) (zD c_n_law_take (hr.mono (by decide)) rfl (w_a (w_v 0) (w_a zi zc))))
  (w_s (zaP (zdc (zbU (zH zca (zal (zaq K rfl) rfl (hB "len" (by decide)) PySem.boot_len (w_a (w_v 5) zc)) zi (zE _)) (zbC (zH zca (w_v 8) zi (zE _))))) (w_s (zbY (zdW K rfl PySem.F.plainAttrs_list PySem.F.slot_list_append PySem.F.type_list_append zay (w_v 5) (w_a (zk (w_a zu (w_a (zD c_n_law_take (hr.mono (by decide)) rfl (w_a (w_v 0) (w_a (w_v 1) zc))) zc))) zc)))
  (w_s (zbY (zdW K rfl PySem.F.plainAttrs_list PySem.F.slot_list_append PySem.F.type_list_append zay (w_v 6) (w_a zi zc)))
  (zL zi7))) zQ)
  (w_s (zJ (i:=9) zaY.nd rfl (by first | exact Or.inl rfl | exact Or.inr rfl) (zag (zak K rfl) (zaL (w_a (zY zf0 (zal (zaq K rfl) rfl (hB "len" (by decide)) PySem.boot_len (w_a (w_v 5) zc)) zi) (w_a (zD c_n_law_take (hr.mono (by decide)) rfl (w_a (w_v 0) (w_a (zal (zaq K rfl) rfl (hB "len" (by decide)) PySem.boot_len (w_a (w_v 5) zc)) zc))) zc))) (zD c_n_law_take (hr.mono (by decide)) rfl (w_a (w_v 0) (w_a zi zc))) (fun _ _=>rfl)))
  (w_s (zJ (i:=10) zaY.nd rfl (by first | exact Or.inl rfl | exact Or.inr rfl) (zD c_n_law_take (hr.mono (by decide)) rfl (w_a (w_v 0) (w_a (zal (zaq K rfl) rfl (hB "len" (by decide)) PySem.boot_len (w_a (w_v 5) zc)) zc))))
  (zL (zaP (zdc (zbU (zH zem (w_v 8) zi (zE _)) (zbC (zH zjP (zY zaN (zag (zak K rfl) (w_v 6) (w_v 9) (fun _ _=>rfl)) (zag (zak K rfl) (w_v 6) (w_v 10) (fun _ _=>rfl))) (w_v 4) (zE _))))) (w_s (zbY (zdW K rfl PySem.F.plainAttrs_list PySem.F.slot_list_append PySem.F.type_list_append zay (w_v 5) (w_a (zD c_n_law_mix (hr.mono (by decide)) rfl (w_a (w_v 0) (w_a (w_v 5) (w_a (w_v 6) (w_a (w_v 9) zc))))) zc)))
  (zL (zbY (zdW K rfl PySem.F.plainAttrs_list PySem.F.slot_list_append PySem.F.type_list_append zay (w_v 6) (w_a (zag (zak K rfl) (w_v 6) (w_v 9) (fun _ _=>rfl)) zc))))) (w_s (zbY (zdW K rfl PySem.F.plainAttrs_list PySem.F.slot_list_append PySem.F.type_list_append zay (w_v 5) (w_a (zk (w_a zu (w_a (zag (zak K rfl) (zaL (w_a (w_v 9) (w_a (w_v 10) zc))) (zhr ze0 rfl (hB "int" (by decide)) PyProof.Rows.boot_int (w_a (zfn zem (zag (zak K rfl) (w_v 6) (w_v 9) (fun _ _=>rfl)) (zag (zak K rfl) (w_v 6) (w_v 10) (fun _ _=>rfl)) (zE _)) zc)) (fun _ _=>rfl)) (w_a (zag (zak K rfl) (zaL (w_a (w_v 10) (w_a (w_v 9) zc))) (zhr ze0 rfl (hB "int" (by decide)) PyProof.Rows.boot_int (w_a (zfn zem (zag (zak K rfl) (w_v 6) (w_v 9) (fun _ _=>rfl)) (zag (zak K rfl) (w_v 6) (w_v 10) (fun _ _=>rfl)) (zE _)) zc)) (fun _ _=>rfl)) zc)))) zc)))
  (zL (zbY (zdW K rfl PySem.F.plainAttrs_list PySem.F.slot_list_append PySem.F.type_list_append zay (w_v 6) (w_a (zY zaN (zag (zak K rfl) (w_v 6) (w_v 9) (fun _ _=>rfl)) (zag (zak K rfl) (w_v 6) (w_v 10) (fun _ _=>rfl))) zc))))))))))))
  (zL (zN (zhr (zeb K rfl) rfl (hB "tuple" (by decide)) PyProof.Rows.boot_tuple (w_a (w_v 5) zc))))))),
  (zr (zG (by decide) (zaH zof (za (zd 2) ze)))
  (zr (zG (by decide) (zC (za (zd 5) ze) (zj zB)))
  (zr (zeO (zee (za (zd 3) ze)) (zar (by decide)) (zr (zG (by decide) (zC (za (zd 0) (za zh ze)) (zj (zj zB))))
  (zr (zad (zbV (zy (zq zbi (zaH zZ (za (zd 5) ze)) zh)) (zy (zq zbi (zd 8) zh))) (zr (zb0 (zc3 (i:=5) (zm (za zv (za (zC (za (zd 0) (za (zd 1) ze)) (zj (zj zB))) ze)))))
  (zr (zb0 (zc3 (i:=6) zh))
  zrw)) zR)
  (zr (zG (by decide) (zq zT (zaM (za (zq zgb (zaH zZ (za (zd 5) ze)) zh) (za (zC (za (zd 0) (za (zaH zZ (za (zd 5) ze)) ze)) (zj (zj zB))) ze))) (zC (za (zd 0) (za zh ze)) (zj (zj zB)))))
  (zr (zG (by decide) (zC (za (zd 0) (za (zaH zZ (za (zd 5) ze)) ze)) (zj (zj zB))))
  (zad (zbV (zy (zq zen (zd 8) zh)) (zy (zq zj4 (zq zaQ (zq zT (zd 6) (zd 9)) (zq zT (zd 6) (zd 10))) (zd 4)))) (zr (zb0 (zc3 (i:=5) (zC (za (zd 0) (za (zd 5) (za (zd 6) (za (zd 9) ze)))) (zj (zj (zj (zj zB)))))))
  (zb0 (zc3 (i:=6) (zq zT (zd 6) (zd 9))))) (zr (zb0 (zc3 (i:=5) (zm (za zv (za (zq zT (zaM (za (zd 9) (za (zd 10) ze))) (zaH zhx (za (zq zen (zq zT (zd 6) (zd 9)) (zq zT (zd 6) (zd 10))) ze))) (za (zq zT (zaM (za (zd 10) (za (zd 9) ze))) (zaH zhx (za (zq zen (zq zT (zd 6) (zd 9)) (zq zT (zd 6) (zd 10))) ze))) ze))))))
  (zb0 (zc3 (i:=6) (zq zaQ (zq zT (zd 6) (zd 9)) (zq zT (zd 6) (zd 10))))))))))))
  (zP (zaH zeL (za (zd 5) ze))))))⟩
noncomputable def zcr:MS:=(zw (zO 1 (mC .none))
  (zw (zsd zaJ "UndivideError" 2 (zhG (zO 1) (zkj zcC (zb (zf 0) zg))) (zw (zam (mB (mUn (zfq zaJ ["BadRow", "BadText", "BadWay", "NoName", "NoOver", "NoPaper", "NoRow", "NotPolynomial"]) (zf 2))) (zaf (mC .none)) zU)
  (zw (zam (mOr (mB (mUn (zfq zaJ ["NotWhole", "OtherLetters", "TooMany"]) (zf 2))) (zcK (mB (mUn (zfB zaJ false "ValueError") (zf 2))))) (zaf (mC .none)) zU)
  (zw (zam (mB (mUn (zfB zaJ true "BadLetters") (zf 2))) (zaf (zp (zb (mC (.str "letters")) (zb (mUn (zfB zaJ true "BadNode") (zf 2)) zg)))) zU)
  (zw (zam (zcK (mB (zI zbA (zb (mUn (ziu zaJ "at") (zf 2)) zg)))) (zaf (mC .none)) zU)
  (zO 1 (zp (zb (mC (.str "node")) (zb (mUn (ziu zaJ "at") (zf 2)) zg)))))))))
  (zaf (zf 1))))
noncomputable def zt:FD:=zcm 3 [0] zcr
theorem zgT(F:Fun K "_law_told" "_law_told" zbR f fd)(hB:Bl mg ["isinstance", "int", "bool", "tuple", "len", "abs", "str", "all", "set", "enumerate", "range", "list", "ValueError"])(hT:XT K zaJ xfl){CUndivideError:Addr}(aXUndivideError:XN K "UndivideError" CUndivideError)(gXUndivideError:mg "UndivideError"=some (.ref CUndivideError)){CBadText:Addr}(aXBadText:XN K "BadText" CBadText)(gXBadText:mg "BadText"=some (.ref CBadText)){CBadLetters:Addr}(aXBadLetters:XN K "BadLetters" CBadLetters)(gXBadLetters:mg "BadLetters"=some (.ref CBadLetters)){CBadRow:Addr}(aXBadRow:XN K "BadRow" CBadRow)(gXBadRow:mg "BadRow"=some (.ref CBadRow)){CNoOver:Addr}(aXNoOver:XN K "NoOver" CNoOver)(gXNoOver:mg "NoOver"=some (.ref CNoOver)){CNoName:Addr}(aXNoName:XN K "NoName" CNoName)(gXNoName:mg "NoName"=some (.ref CNoName)){CTooMany:Addr}(aXTooMany:XN K "TooMany" CTooMany)(gXTooMany:mg "TooMany"=some (.ref CTooMany)){CNoPaper:Addr}(aXNoPaper:XN K "NoPaper" CNoPaper)(gXNoPaper:mg "NoPaper"=some (.ref CNoPaper)){CBadNode:Addr}(aXBadNode:XN K "BadNode" CBadNode)(gXBadNode:mg "BadNode"=some (.ref CBadNode)){CBadWay:Addr}(aXBadWay:XN K "BadWay" CBadWay)(gXBadWay:mg "BadWay"=some (.ref CBadWay)){CNotWhole:Addr}(aXNotWhole:XN K "NotWhole" CNotWhole)(gXNotWhole:mg "NotWhole"=some (.ref CNotWhole)){COtherLetters:Addr}(aXOtherLetters:XN K "OtherLetters" COtherLetters)(gXOtherLetters:mg "OtherLetters"=some (.ref COtherLetters)){CNotPolynomial:Addr}(aXNotPolynomial:XN K "NotPolynomial" CNotPolynomial)(gXNotPolynomial:mg "NotPolynomial"=some (.ref CNotPolynomial)){CNoRow:Addr}(aXNoRow:XN K "NoRow" CNoRow)(gXNoRow:mg "NoRow"=some (.ref CNoRow))(hM:XM K zaJ "UndivideError" CUndivideError)(c_look_net:CalX P w K mg base "look_net" 5 ["net"] (spX K 1 zcC))(c_n_law_whole:CalQ P w K mg base "_law_whole" 1 ["_law_found"] (spV K 1 zbA)):FnOk P w K mg base CX0 6 f fd ["_law_net"] (spV K 1 zt) :=
 F.okV (n:=1) (nn:=3) (pn:=[0]) (m:=zcr) zb6 rfl rfl (by decide) fun cdv A outer s H E hr=>⟨_,(w_s (zJ (i:=1) zb6.nd rfl (by first | exact Or.inl rfl | exact Or.inr rfl) zaZ)
  (w_s (zuJ K rfl rfl rfl zb6.nd (i:=2) rfl rfl rfl gXUndivideError (hT.cl _ _ _ rfl aXUndivideError).1.cl (fun pn E EX hy=>(zL (zJ (i:=1) zb6.nd rfl (by first | exact Or.inl rfl | exact Or.inr rfl) (zmv c_look_net (hr.mono (by decide)) rfl hy (w_a (w_v 0) zc))))) (fun a=>(w_s (zaP (zaI (zal (zg9 K rfl) rfl (hB "isinstance" (by decide)) PyProof.Rows.boot_isinstance (w_a (w_v 2) (w_a (zk (w_a (zdy gXBadRow rfl) (w_a (zdy gXBadText rfl) (w_a (zdy gXBadWay rfl) (w_a (zdy gXNoName rfl) (w_a (zdy gXNoOver rfl) (w_a (zdy gXNoPaper rfl) (w_a (zdy gXNoRow rfl) (w_a (zdy gXNotPolynomial rfl) zc))))))))) zc)))) (zL (zN zaZ)) zQ)
  (w_s (zaP (zdc (zbU (zaI (zal (zg9 K rfl) rfl (hB "isinstance" (by decide)) PyProof.Rows.boot_isinstance (w_a (w_v 2) (w_a (zk (w_a (zdy gXNotWhole rfl) (w_a (zdy gXOtherLetters rfl) (w_a (zdy gXTooMany rfl) zc)))) zc)))) (zbC (za1 (zaI (zal (zgh rfl) rfl (hB "isinstance" (by decide)) PyProof.Rows.boot_isinstance (w_a (w_v 2) (w_a (zco (v:=.ty "ValueError") rfl (hB "ValueError" (by decide)) rfl rfl) zc)))))))) (zL (zN zaZ)) zQ)
  (w_s (zaP (zaI (zal (zgh rfl) rfl (hB "isinstance" (by decide)) PyProof.Rows.boot_isinstance (w_a (w_v 2) (w_a (zdy gXBadLetters rfl) zc)))) (zL (zN (zk (w_a zu (w_a (zal (zgh rfl) rfl (hB "isinstance" (by decide)) PyProof.Rows.boot_isinstance (w_a (w_v 2) (w_a (zdy gXBadNode rfl) zc))) zc))))) zQ)
  (w_s (zaP (za1 (zaI (zs4 c_n_law_whole (Room.held (hr.mono (by decide))) rfl (w_a (zms K rfl (w_v 2) rfl) zc)))) (zL (zN zaZ)) zQ)
  (zL (zJ (i:=1) zb6.nd rfl (by first | exact Or.inl rfl | exact Or.inr rfl) (zk (w_a zu (w_a (zms K rfl (w_v 2) rfl) zc)))))))))))
  (zL (zN (w_v 1))))),
  (zr (zG (by decide) za0)
  (zr (zuH hM (by decide) (fun EX=>(zoR (by decide) (zmw (za (zd 0) ze) (zj zB)))) (zr (zad (zcs (ziB (cs:=[("BadRow",CBadRow),("BadText",CBadText),("BadWay",CBadWay),("NoName",CNoName),("NoOver",CNoOver),("NoPaper",CNoPaper),("NoRow",CNoRow),("NotPolynomial",CNotPolynomial)]) hT ⟨⟨aXBadRow,rfl⟩,⟨⟨aXBadText,rfl⟩,⟨⟨aXBadWay,rfl⟩,⟨⟨aXNoName,rfl⟩,⟨⟨aXNoOver,rfl⟩,⟨⟨aXNoPaper,rfl⟩,⟨⟨aXNoRow,rfl⟩,⟨⟨aXNotPolynomial,rfl⟩,trivial⟩⟩⟩⟩⟩⟩⟩⟩ (by simp) (zd 2))) (zP za0) zR)
  (zr (zad (zbV (zcs (ziB (cs:=[("NotWhole",CNotWhole),("OtherLetters",COtherLetters),("TooMany",CTooMany)]) hT ⟨⟨aXNotWhole,rfl⟩,⟨⟨aXOtherLetters,rfl⟩,⟨⟨aXTooMany,rfl⟩,trivial⟩⟩⟩ (by simp) (zd 2))) (za3 (zcs (zsa hT (zd 2))))) (zP za0) zR)
  (zr (zad (zcs (zp4 hT aXBadLetters rfl (zd 2))) (zP (zm (za zv (za (zp4 hT aXBadNode rfl (zd 2)) ze)))) zR)
  (zr (zad (za3 (zcs (zC (za (zeI (zkg hT (by decide)) (zd 2)) ze) (zj zB)))) (zP za0) zR)
  (zG (by decide) (zm (za zv (za (zeI (zkg hT (by decide)) (zd 2)) ze)))))))))
  (zP (zd 1))))⟩
noncomputable def zm4:MS:=(zw (zO 1 (zI zbc (zb (zf 0) (zb (mC (.int 0)) zg))))
  (zw (zO 2 (zI zbd (zb (zf 1) (zb (mOp zb3 (mC (.int 1)) (zI zn (zb (zf 1) (zb (mC (.int 3)) zg)))) zg))))
  (zw (zO 3 (zp (zb (zp (zb (mC (.str "letter")) (zb (mC (.int 0)) zg))) (zb (zp (zb (mC (.str "letter")) (zb (mOp zii (mCB (f1 zaE) (zb (zf 2) zg)) (mC (.int 1))) zg))) (zb (zp (zb (mC (.str "times")) (zb (mC (.int 0)) (zb (mC (.int 1)) zg)))) (zb (zp (zb (mC (.str "times")) (zb (mC (.int 1)) (zb (mC (.int 1)) zg)))) zg))))))
  (zw (zO 4 (zI zbf (zb (zf 1) (zb (mCB (f1 zaE) (zb (zf 2) zg)) (zb (zf 3) (zb (zI zn (zb (zf 1) (zb (mC (.int 9)) zg))) (zb (mC (.int 6)) zg)))))))
  (zw (zO 5 (zp (zb (zf 2) (zb (zf 4) (zb (zI zbI (zb (zf 1) (zb (zf 4) (zb (mC (.int 4)) zg)))) zg)))))
  (zw (zam (mB (mOp zeV (zI zt (zb (zf 5) zg)) (mC (.bool true)))) (zaf (mC (.bool false))) zU)
  (zw (zeN (zeo (zb (mOp zb3 (mC (.int 2)) (mCB (f1 zaE) (zb (mSl zhC (zf 0) (zct (mC (.int 1))) (zct (mC (.int 8)))) zg))) zg)) (zaz 6) (zw (zO 1 (zI zbc (zb (zf 0) (zb (mOp zb3 (mC (.int 1)) (zf 6)) zg))))
  (zw (zO 7 (zI zn (zb (zf 1) (zb (mOp zb3 (mCB (f1 zaE) (zb (zf 4) zg)) (mC (.int 1))) zg))))
  (zw (zO 8 (mOp zdk (mOp zdk (mSl zhD (zf 4) zcE (zct (zf 7))) (zp (zb (zI zaB (zb (zf 1) (zb (mCB (f1 zaE) (zb (zf 2) zg)) (zb (zf 7) zg)))) zg))) (mSl zhD (zf 4) (zct (zf 7)) zcE)))
  (zw (zam (mB (mOp (zcR true) (zI zt (zb (zp (zb (zf 2) (zb (zf 8) (zb (mOp zbh (zf 5) (mC (.int 2))) zg)))) zg)) (zp (zb (mC (.str "node")) (zb (zf 7) zg))))) (zaf (mC (.bool false))) zU)
  (zw (zam (mB (mOp (zcR true) (zI zt (zb (zp (zb (zf 2) (zb (zf 4) (zb (zI zab (zb (zf 1) (zb (mCB (f1 zaE) (zb (zf 4) zg)) zg))) zg)))) zg)) (zp (zb (mC (.str "node")) (zb (mCB (f1 zaE) (zb (zf 4) zg)) zg))))) (zaf (mC (.bool false))) zU)
  (zw (zam (mB (mOp (zcR true) (zI zt (zb (zp (zb (zf 2) (zb (zf 8) (zb (zI zab (zb (zf 1) (zb (mCB (f1 zaE) (zb (zf 4) zg)) zg))) zg)))) zg)) (zp (zb (mC (.str "node")) (zb (zf 7) zg))))) (zaf (mC (.bool false))) zU)
  (zw (zam (mB (mOp (zcR true) (zI zt (zb (zp (zb (zf 2) (zb (mOp zdk (zf 8) (mSl zhD (zf 8) (zct (zf 7)) (zct (mOp zb3 (zf 7) (mC (.int 1)))))) (zb (mOp zbh (zf 5) (mC (.int 2))) zg)))) zg)) (zp (zb (mC (.str "node")) (zb (zf 7) zg))))) (zaf (mC (.bool false))) zU)
  (zw (zO 9 (mOp zaG (zbs (zb (mC .none) (zb (mC (.str "")) (zb (mC (.int 0)) (zb (mC (.str "letters")) (zb (mUn zek (mC (.int 1))) (zb (mCB (f1 zaE) (zb (zf 4) zg)) zg))))))) (zI zn (zb (zf 1) (zb (mC (.int 6)) zg)))))
  (zw (zO 10 (mOp zaG (zbs (zb (mOp zbh (zf 5) (mC (.int 2))) (zb (zI zab (zb (zf 1) (zb (mCB (f1 zaE) (zb (zf 4) zg)) zg))) (zb (zp (zb (mOp zbh (mOp zbh (zf 5) (mC (.int 2))) (mC (.int 0))) (zb (zp zg) zg))) (zb (zp (zb (zp (zb (mC (.int 1)) (zb (mC (.int 1)) zg))) (zb (zp (zb (mC .none) zg)) zg))) zg))))) (zI zn (zb (zf 1) (zb (mC (.int 4)) zg)))))
  (zw (zam (mB (mOp (zcR true) (zI zt (zb (zp (zb (zf 2) (zb (zf 9) (zb (zf 10) zg)))) zg)) (zp (zb (mC (.str "node")) (zb (mC (.int 0)) zg))))) (zaf (mC (.bool false))) zU)
  (zw (zO 11 (mOp zaG (zbs (zb (zf 4) (zb (zf 8) (zb (zf 9) zg)))) (zI zn (zb (zf 1) (zb (mC (.int 3)) zg)))))
  (zam (mB (mOp (zcR true) (zI zt (zb (zp (zb (zI zai (zb (zf 1) zg)) (zb (zf 11) (zb (mOp zbh (zf 5) (mC (.int 2))) zg)))) zg)) (zp (zb (mC (.str "letters")) (zb (mC (.bool false)) zg))))) (zaf (mC (.bool false))) zU)))))))))))))
  (zw (zam (mOr (mB (mOp zeV (zI zt (zb (zp (zb (zf 2) (zb (zp zg) (zb (zp (zb (mOp zbh (mOp zbh (zf 5) (mC (.int 2))) (mC (.int 0))) (zb (zp (zb (mC .none) zg)) zg))) zg)))) zg)) (mC (.bool true)))) (mB (mOp zeV (zI zt (zb (zp (zb (zf 2) (zb (zp zg) (zb (zp (zb (zp (zb (mC (.int 1)) (zb (mC (.int 1)) zg))) (zb (zp zg) zg))) zg)))) zg)) (mC (.bool true))))) (zaf (mC (.bool false))) zU)
  (zaf (zdP (mOp (zcR false) (zI zt (zb (zp (zb (zf 2) (zb (zp zg) (zb (zp (zb (zp (zb (mC (.int 1)) (zb (mC (.int 1)) zg))) (zb (zp (zb (mC (.int 0)) zg)) zg))) zg)))) zg)) (zp (zb (mC (.str "node")) (zb (mC (.int 0)) zg)))) (mOp zmU (zI zt (zb (zf 5) zg)) (mC (.bool true)))))))))))))
noncomputable def zhc:FD:=zcm 12 [0] zm4
theorem zs9(F:Fun K "law" "law" zeW f fd)(hB:Bl mg ["isinstance", "int", "bool", "tuple", "len", "abs", "str", "all", "set", "enumerate", "range", "list", "ValueError"])(hT:XT K zaJ xfl)(c_n_law_box:Cal P w K mg base "_law_box" 1 ["_law_script", "_law_k"] (spV K 2 zbc))(c_n_law_take:Cal P w K mg base "_law_take" 1 ["_law_box_here", "_law_wide"] (spV K 2 zn))(c_n_law_names:Cal P w K mg base "_law_names" 2 ["_law_box_here", "_law_many"] (spV K 2 zbd))(c_n_law_nodes:Cal P w K mg base "_law_nodes" 5 ["_law_box_here", "_law_many", "_law_nodes_here", "_law_most", "_law_deep"] (spV K 5 zbf))(c_n_law_top:Cal P w K mg base "_law_top" 3 ["_law_box_here", "_law_nodes_here", "_law_deep"] (spV K 3 zbI))(c_n_law_told:Cal P w K mg base "_law_told" 6 ["_law_net"] (spV K 1 zt))(c_n_law_bad_node:Cal P w K mg base "_law_bad_node" 2 ["_law_box_here", "_law_many", "_law_at"] (spV K 3 zaB))(c_n_law_bad_top:Cal P w K mg base "_law_bad_top" 2 ["_law_box_here", "_law_many"] (spV K 2 zab))(c_n_law_bad_letters:Cal P w K mg base "_law_bad_letters" 2 ["_law_box_here"] (spV K 1 zai)):FnOk P w K mg base CX0 7 f fd ["_law_script"] (spV K 1 zhc) :=
 F.okV (n:=1) (nn:=12) (pn:=[0]) (m:=zm4) zcy rfl rfl (by decide) fun cdv A outer s H E hr=>⟨_,(w_s (zJ (i:=1) zcy.nd rfl (by first | exact Or.inl rfl | exact Or.inr rfl) (zD c_n_law_box (hr.mono (by decide)) rfl (w_a (w_v 0) (w_a zi zc))))
  (w_s (zJ (i:=2) zcy.nd rfl (by first | exact Or.inl rfl | exact Or.inr rfl) (zD c_n_law_names (hr.mono (by decide)) rfl (w_a (w_v 1) (w_a (zY zaN zi (zD c_n_law_take (hr.mono (by decide)) rfl (w_a (w_v 1) (w_a zi zc)))) zc))))
  (w_s (zJ (i:=3) zcy.nd rfl (by first | exact Or.inl rfl | exact Or.inr rfl) (zk (w_a (zk (w_a zu (w_a zi zc))) (w_a (zk (w_a zu (w_a (zY zf0 (zal (zaq K rfl) rfl (hB "len" (by decide)) PySem.boot_len (w_a (w_v 2) zc)) zi) zc))) (w_a (zk (w_a zu (w_a zi (w_a zi zc)))) (w_a (zk (w_a zu (w_a zi (w_a zi zc)))) zc))))))
  (w_s (zJ (i:=4) zcy.nd rfl (by first | exact Or.inl rfl | exact Or.inr rfl) (zD c_n_law_nodes (hr.mono (by decide)) rfl (w_a (w_v 1) (w_a (zal (zaq K rfl) rfl (hB "len" (by decide)) PySem.boot_len (w_a (w_v 2) zc)) (w_a (w_v 3) (w_a (zD c_n_law_take (hr.mono (by decide)) rfl (w_a (w_v 1) (w_a zi zc))) (w_a zi zc)))))))
  (w_s (zJ (i:=5) zcy.nd rfl (by first | exact Or.inl rfl | exact Or.inr rfl) (zk (w_a (w_v 2) (w_a (w_v 4) (w_a (zD c_n_law_top (hr.mono (by decide)) rfl (w_a (w_v 1) (w_a (w_v 4) (w_a zi zc)))) zc)))))
  (w_s (zaP (zH zhQ (zD c_n_law_told (hr.mono (by decide)) rfl (w_a (w_v 5) zc)) zcY (zE _)) (zL (zN zcY)) zQ)
  (w_s (zeG PassesOwn.never rfl (zdt rfl (hB "range" (by decide)) (w_a (zY zaN zi (zal (zaq K rfl) rfl (hB "len" (by decide)) PySem.boot_len (w_a (zdI (zjX K rfl) (w_v 0) (zcQ zi) (zcQ zi)) zc))) zc)) (zap (i:=6) zcy.nd rfl (by first | exact Or.inl rfl | exact Or.inr rfl)) (w_s (zJ (i:=1) zcy.nd rfl (by first | exact Or.inl rfl | exact Or.inr rfl) (zD c_n_law_box (hr.mono (by decide)) rfl (w_a (w_v 0) (w_a (zY zaN zi (w_v 6)) zc))))
  (w_s (zJ (i:=7) zcy.nd rfl (by first | exact Or.inl rfl | exact Or.inr rfl) (zD c_n_law_take (hr.mono (by decide)) rfl (w_a (w_v 1) (w_a (zY zaN (zal (zaq K rfl) rfl (hB "len" (by decide)) PySem.boot_len (w_a (w_v 4) zc)) zi) zc))))
  (w_s (zJ (i:=8) zcy.nd rfl (by first | exact Or.inl rfl | exact Or.inr rfl) (zY (zgl K rfl) (zY (zgl K rfl) (zdI zrA (w_v 4) zeF (zcQ (w_v 7))) (zk (w_a (zD c_n_law_bad_node (hr.mono (by decide)) rfl (w_a (w_v 1) (w_a (zal (zaq K rfl) rfl (hB "len" (by decide)) PySem.boot_len (w_a (w_v 2) zc)) (w_a (w_v 7) zc)))) zc))) (zdI zrA (w_v 4) (zcQ (w_v 7)) zeF)))
  (w_s (zaP (zH (ze7 K rfl hr) (zD c_n_law_told (hr.mono (by decide)) rfl (w_a (zk (w_a (w_v 2) (w_a (w_v 8) (w_a (zag (zbF K rfl) (w_v 5) zi (fun _ _=>rfl)) zc)))) zc)) (zk (w_a zu (w_a (w_v 7) zc))) (zE _)) (zL (zN zcY)) zQ)
  (w_s (zaP (zH (ze7 K rfl hr) (zD c_n_law_told (hr.mono (by decide)) rfl (w_a (zk (w_a (w_v 2) (w_a (w_v 4) (w_a (zD c_n_law_bad_top (hr.mono (by decide)) rfl (w_a (w_v 1) (w_a (zal (zaq K rfl) rfl (hB "len" (by decide)) PySem.boot_len (w_a (w_v 4) zc)) zc))) zc)))) zc)) (zk (w_a zu (w_a (zal (zaq K rfl) rfl (hB "len" (by decide)) PySem.boot_len (w_a (w_v 4) zc)) zc))) (zE _)) (zL (zN zcY)) zQ)
  (w_s (zaP (zH (ze7 K rfl hr) (zD c_n_law_told (hr.mono (by decide)) rfl (w_a (zk (w_a (w_v 2) (w_a (w_v 8) (w_a (zD c_n_law_bad_top (hr.mono (by decide)) rfl (w_a (w_v 1) (w_a (zal (zaq K rfl) rfl (hB "len" (by decide)) PySem.boot_len (w_a (w_v 4) zc)) zc))) zc)))) zc)) (zk (w_a zu (w_a (w_v 7) zc))) (zE _)) (zL (zN zcY)) zQ)
  (w_s (zaP (zH (ze7 K rfl hr) (zD c_n_law_told (hr.mono (by decide)) rfl (w_a (zk (w_a (w_v 2) (w_a (zY (zgl K rfl) (w_v 8) (zdI zrA (w_v 8) (zcQ (w_v 7)) (zcQ (zY zaN (w_v 7) zi)))) (w_a (zag (zbF K rfl) (w_v 5) zi (fun _ _=>rfl)) zc)))) zc)) (zk (w_a zu (w_a (w_v 7) zc))) (zE _)) (zL (zN zcY)) zQ)
  (w_s (zJ (i:=9) zcy.nd rfl (by first | exact Or.inl rfl | exact Or.inr rfl) (zag (zak K rfl) (zaL (w_a zaZ (w_a zu (w_a zi (w_a zu (w_a (zfy zcI zi) (w_a (zal (zaq K rfl) rfl (hB "len" (by decide)) PySem.boot_len (w_a (w_v 4) zc)) zc))))))) (zD c_n_law_take (hr.mono (by decide)) rfl (w_a (w_v 1) (w_a zi zc))) (fun _ _=>rfl)))
  (w_s (zJ (i:=10) zcy.nd rfl (by first | exact Or.inl rfl | exact Or.inr rfl) (zag (zak K rfl) (zaL (w_a (zag (zbF K rfl) (w_v 5) zi (fun _ _=>rfl)) (w_a (zD c_n_law_bad_top (hr.mono (by decide)) rfl (w_a (w_v 1) (w_a (zal (zaq K rfl) rfl (hB "len" (by decide)) PySem.boot_len (w_a (w_v 4) zc)) zc))) (w_a (zk (w_a (zag (zbF K rfl) (zag (zbF K rfl) (w_v 5) zi (fun _ _=>rfl)) zi (fun _ _=>rfl)) (w_a (zk zc) zc))) (w_a (zk (w_a (zk (w_a zi (w_a zi zc))) (w_a (zk (w_a zaZ zc)) zc))) zc))))) (zD c_n_law_take (hr.mono (by decide)) rfl (w_a (w_v 1) (w_a zi zc))) (fun _ _=>rfl)))
  (w_s (zaP (zH (ze7 K rfl hr) (zD c_n_law_told (hr.mono (by decide)) rfl (w_a (zk (w_a (w_v 2) (w_a (w_v 9) (w_a (w_v 10) zc)))) zc)) (zk (w_a zu (w_a zi zc))) (zE _)) (zL (zN zcY)) zQ)
  (w_s (zJ (i:=11) zcy.nd rfl (by first | exact Or.inl rfl | exact Or.inr rfl) (zag (zak K rfl) (zaL (w_a (w_v 4) (w_a (w_v 8) (w_a (w_v 9) zc)))) (zD c_n_law_take (hr.mono (by decide)) rfl (w_a (w_v 1) (w_a zi zc))) (fun _ _=>rfl)))
  (zL (zaP (zH (ze7 K rfl hr) (zD c_n_law_told (hr.mono (by decide)) rfl (w_a (zk (w_a (zD c_n_law_bad_letters (hr.mono (by decide)) rfl (w_a (w_v 1) zc)) (w_a (w_v 11) (w_a (zag (zbF K rfl) (w_v 5) zi (fun _ _=>rfl)) zc)))) zc)) (zk (w_a zu (w_a zcY zc))) (zE _)) (zL (zN zcY)) zQ))))))))))))))
  (w_s (zaP (zdc (zbU (zH zhQ (zD c_n_law_told (hr.mono (by decide)) rfl (w_a (zk (w_a (w_v 2) (w_a (zk zc) (w_a (zk (w_a (zag (zbF K rfl) (zag (zbF K rfl) (w_v 5) zi (fun _ _=>rfl)) zi (fun _ _=>rfl)) (w_a (zk (w_a zaZ zc)) zc))) zc)))) zc)) zcY (zE _)) (zbC (zH zhQ (zD c_n_law_told (hr.mono (by decide)) rfl (w_a (zk (w_a (w_v 2) (w_a (zk zc) (w_a (zk (w_a (zk (w_a zi (w_a zi zc))) (w_a (zk zc) zc))) zc)))) zc)) zcY (zE _))))) (zL (zN zcY)) zQ)
  (zL (zN (zfo (zfn (zji K rfl hr) (zD c_n_law_told (hr.mono (by decide)) rfl (w_a (zk (w_a (w_v 2) (w_a (zk zc) (w_a (zk (w_a (zk (w_a zi (w_a zi zc))) (w_a (zk (w_a zi zc)) zc))) zc)))) zc)) (zk (w_a zu (w_a zi zc))) (zE _)) (zf8 (zfn zs0 (zD c_n_law_told (hr.mono (by decide)) rfl (w_a (w_v 5) zc)) zcY (zE _)))))))))))))),
  (zr (zG (by decide) (zC (za (zd 0) (za zh ze)) (zj (zj zB))))
  (zr (zG (by decide) (zC (za (zd 1) (za (zq zaQ zh (zC (za (zd 1) (za zh ze)) (zj (zj zB)))) ze)) (zj (zj zB))))
  (zr (zG (by decide) (zm (za (zm (za zv (za zh ze))) (za (zm (za zv (za (zq zgb (zaH zZ (za (zd 2) ze)) zh) ze))) (za (zm (za zv (za zh (za zh ze)))) (za (zm (za zv (za zh (za zh ze)))) ze))))))
  (zr (zG (by decide) (zC (za (zd 1) (za (zaH zZ (za (zd 2) ze)) (za (zd 3) (za (zC (za (zd 1) (za zh ze)) (zj (zj zB))) (za zh ze))))) (zj (zj (zj (zj (zj zB)))))))
  (zr (zG (by decide) (zm (za (zd 2) (za (zd 4) (za (zC (za (zd 1) (za (zd 4) (za zh ze))) (zj (zj (zj zB)))) ze)))))
  (zr (zad (zy (zq zhR (zC (za (zd 5) ze) (zj zB)) zcZ)) (zP zcZ) zR)
  (zr (zeO (zee (za (zq zaQ zh (zaH zZ (za (zjo zfP (zd 0) (zcS zh) (zcS zh)) ze))) ze)) (zar (by decide)) (zr (zG (by decide) (zC (za (zd 0) (za (zq zaQ zh (zd 6)) ze)) (zj (zj zB))))
  (zr (zG (by decide) (zC (za (zd 1) (za (zq zaQ (zaH zZ (za (zd 4) ze)) zh) ze)) (zj (zj zB))))
  (zr (zG (by decide) (zq zgm (zq zgm (zjo zjp (zd 4) zeR (zcS (zd 7))) (zm (za (zC (za (zd 1) (za (zaH zZ (za (zd 2) ze)) (za (zd 7) ze))) (zj (zj (zj zB)))) ze))) (zjo zjp (zd 4) (zcS (zd 7)) zeR)))
  (zr (zad (zy (zq (zdX true) (zC (za (zm (za (zd 2) (za (zd 8) (za (zq zaX (zd 5) zh) ze)))) ze) (zj zB)) (zm (za zv (za (zd 7) ze))))) (zP zcZ) zR)
  (zr (zad (zy (zq (zdX true) (zC (za (zm (za (zd 2) (za (zd 4) (za (zC (za (zd 1) (za (zaH zZ (za (zd 4) ze)) ze)) (zj (zj zB))) ze)))) ze) (zj zB)) (zm (za zv (za (zaH zZ (za (zd 4) ze)) ze))))) (zP zcZ) zR)
  (zr (zad (zy (zq (zdX true) (zC (za (zm (za (zd 2) (za (zd 8) (za (zC (za (zd 1) (za (zaH zZ (za (zd 4) ze)) ze)) (zj (zj zB))) ze)))) ze) (zj zB)) (zm (za zv (za (zd 7) ze))))) (zP zcZ) zR)
  (zr (zad (zy (zq (zdX true) (zC (za (zm (za (zd 2) (za (zq zgm (zd 8) (zjo zjp (zd 8) (zcS (zd 7)) (zcS (zq zaQ (zd 7) zh)))) (za (zq zaX (zd 5) zh) ze)))) ze) (zj zB)) (zm (za zv (za (zd 7) ze))))) (zP zcZ) zR)
  (zr (zG (by decide) (zq zT (zaM (za za0 (za zv (za zh (za zv (za (zeI zcJ zh) (za (zaH zZ (za (zd 4) ze)) ze))))))) (zC (za (zd 1) (za zh ze)) (zj (zj zB)))))
  (zr (zG (by decide) (zq zT (zaM (za (zq zaX (zd 5) zh) (za (zC (za (zd 1) (za (zaH zZ (za (zd 4) ze)) ze)) (zj (zj zB))) (za (zm (za (zq zaX (zq zaX (zd 5) zh) zh) (za (zm ze) ze))) (za (zm (za (zm (za zh (za zh ze))) (za (zm (za za0 ze)) ze))) ze))))) (zC (za (zd 1) (za zh ze)) (zj (zj zB)))))
  (zr (zad (zy (zq (zdX true) (zC (za (zm (za (zd 2) (za (zd 9) (za (zd 10) ze)))) ze) (zj zB)) (zm (za zv (za zh ze))))) (zP zcZ) zR)
  (zr (zG (by decide) (zq zT (zaM (za (zd 4) (za (zd 8) (za (zd 9) ze)))) (zC (za (zd 1) (za zh ze)) (zj (zj zB)))))
  (zad (zy (zq (zdX true) (zC (za (zm (za (zC (za (zd 1) ze) (zj zB)) (za (zd 11) (za (zq zaX (zd 5) zh) ze)))) ze) (zj zB)) (zm (za zv (za zcZ ze))))) (zP zcZ) zR)))))))))))))
  (zr (zad (zbV (zy (zq zhR (zC (za (zm (za (zd 2) (za (zm ze) (za (zm (za (zq zaX (zq zaX (zd 5) zh) zh) (za (zm (za za0 ze)) ze))) ze)))) ze) (zj zB)) zcZ)) (zy (zq zhR (zC (za (zm (za (zd 2) (za (zm ze) (za (zm (za (zm (za zh (za zh ze))) (za (zm ze) ze))) ze)))) ze) (zj zB)) zcZ))) (zP zcZ) zR)
  (zP (zdY (zq (zdX false) (zC (za (zm (za (zd 2) (za (zm ze) (za (zm (za (zm (za zh (za zh ze))) (za (zm (za zh ze)) ze))) ze)))) ze) (zj zB)) (zm (za zv (za zh ze)))) (zq zs1 (zC (za (zd 5) ze) (zj zB)) zcZ)))))))))))⟩
end
end K31
open PySem L2
local macro_rules | `(tactic| simp_arith [$ls,*])=>`(tactic| simp (disch:=first | omega | (simp only [List.length_cons,List.length_nil,List.length_map,List.length_append,List.length_take,List.length_drop,Nat.zero_add,Nat.reduceAdd]<;>omega) | fail) only [$ls,*,↓zbM,↓zx,↓nr zeT,↓zsm,↓zv1,↓zuP,↓zsn,↓zo3,↓zuQ,↓nr zuR,↓zso,↓zo4,↓zsp,↓zsq,↓zuS,↓zsr,↓zss,↓zst,↓zsu,↓zo5,↓zo6,↓zo7,↓zsv,↓zsw,↓zv2,↓zsx,↓zuT,↓zsy,↓zo8,↓zo9,↓zsz,↓zsA,↓zsB,↓zmF,↓zuU,↓zpa,↓zpc,↓zpf,↓zsD,↓zsE,↓zuX,↓zk7,↓zpg,↓zsF,↓zsG,↓zmH,↓zph,↓zmI,↓zpi,↓zuY,↓zmK,↓zu2,↓zsH,↓zmL,↓zpj,↓zpk,↓zmM,↓zsL,↓zsO,↓zpn,↓zm1,nr bd,nr zt0,nr zrD,nr zop,nr zmj,nr zkZ,nr zk0,nr zjq,nr zmk,nr zrJ,nr zvG,nr zvH,nr zrL,nr zor,nr zos,nr zot,nr zou,nr zt4,zt5,nr zt6,nr zt8,nr zoz,nr zvJ,nr zvK,nr zua,nr zrU,nr zrY,nr zue,nr zuf,nr zvL,nr zvM,nr zvN,nr zvO,nr zui,nr zuj,nr zr3,nr zvP,nr zuk,nr zul,nr zum,nr zoF,nr zun,nr zuo,nr zup,nr zuq,nr zur,zus,zut,zuu,nr zoG,nr zmp,nr zk3,nr zuv,nr zuw,nr zr6,nr zoH,zvQ,zvR,zvS,zvT,zvU,zvV,zvW,zvX,zvY,zux,zvZ,nr zuz,nr zuA,nr zoJ,nr zuB,nr zuC,zoK,nr zr7,zr8,zuD,zuV,zuW,nr zpd,nr zuZ,nr zv3,nr zsI,nr zsJ,nr zpl,nr zpm,nr zsM,nr zsN,nr zmN,nr zmO,nr zmP,nr zmQ,nr zmR,nr zmS,nr zp9,nr zu3,nr zsP,nr zsQ,zsR,zsS,nr zsV,zkt,zpo,nr zu5,nr zu6,nr zu7,nr zu8,nr zu9,nr zva,nr zvb,nr zvc,nr zvd,zsW,nr zs2,nr zm0,nr zpt,List.getElem?_cons_zero,List.getElem?_cons_succ,List.set_cons_zero,List.set_cons_succ,List.cons_append,List.nil_append,List.length_cons,List.length_nil,List.replicate,Option.map_some,decide_eq_true_eq,List.mem_cons,List.not_mem_nil,true_or,or_true,or_false,false_or,if_true,if_false,ite_true,ite_false,true_and,and_true,and_false,false_and,Bool.not_true,Bool.not_false,Bool.false_eq_true,not_true,not_false_iff,Nat.zero_add,Nat.reduceAdd,Nat.reduceLeDiff,Nat.reduceEqDiff,Nat.reduceSub,Nat.reduceLT,List.map_cons,List.map_nil,List.getD_cons_zero,List.getD_cons_succ,List.drop_succ_cons,List.drop_zero,decide_true,decide_false,Bool.true_and,Bool.and_true,Bool.true_or,Bool.or_true,Bool.false_or,Bool.or_false,Bool.false_and,Bool.and_false,reduceCtorEq,List.length_map,List.length_append,nr zuy,nr zoI,String.reduceEq,↓reduceIte,Int.reduceEq,Int.reduceNe,Int.reduceLT,Int.reduceLE,Int.reduceAdd,Int.reduceSub,Int.reduceNeg,Int.reduceToNat,Int.cast_ofNat_Int,implies_true,forall_const,Option.map_none])
local macro_rules | `(tactic| simp_arith)=>`(tactic| simp_arith [zbM])
namespace K31
open PySem L2
abbrev bx(x y:Int):U:=.l [.int x,.int y]
theorem zat{x y w:Int}{Q:U×List U->Prop}(hw:0 < w)(hw2:w<=18446744073709551616)(k:∀ r x' y',0<=r->r < w->Q (.d (.int r),[bx x' y',.d (.int w)])):Wo (zn [bx x y,.d (.int w)]) Q:=by
 simp_arith [zn,zdM]
 refine zb5 (fun hx=>?_) (fun hx=>?_)
 ·simp_arith [hx]
  exact k _ _ _ (Int.emod_nonneg _ (by omega)) (Int.emod_lt_of_pos _ hw)
 ·simp_arith [hx]
  exact k _ _ _ (Int.emod_nonneg _ (by omega)) (Int.emod_lt_of_pos _ hw)
theorem zm5{ns:List Int}{k:Int}(h0:0<=k)(h:k < (ns.length:Int)):∃ v:Int,atI (ns.map PyData.int) k=some (.int v):=by
 have hk:k.toNat < ns.length:=by omega
 refine⟨ns[k.toNat],?_⟩
 unfold atI ixN
 rw [if_pos h0,if_pos (by rw [List.length_map]; exact h),bd,List.getElem?_map,List.getElem?_eq_getElem hk]
 rfl
theorem zqd{ns:List Int}{k:Int}{Q:U×List U->Prop}(h0:0<=k)(q:∀ x y,Q (bx x y,[.d (.list (ns.map .int)),.d (.int k)])):Wo (zbc [.d (.list (ns.map .int)),.d (.int k)]) Q:=by
 simp_arith [zbc,zd3,List.length_map]
 refine zb5 (fun h1=>?_) (fun h1=>?_)
 ·obtain⟨v,hv⟩:=zm5 h0 h1
  simp_arith [hv]
  exact q _ _
 ·simp_arith [List.length_map]
  refine zb5 (fun h2=>?_) (fun h2=>?_)
  ·have hm:=Int.emod_lt_of_pos k h2
   have hm0:=Int.emod_nonneg k (show(ns.length:Int)≠0 by omega)
   obtain⟨v,hv⟩:=zm5 hm0 hm
   simp_arith [hv]
   exact q _ _
  ·simp_arith
   exact q _ _
end K31
open PySem L2
namespace K31
open PySem L2
def zjE(n d:Int):Int:=(if d < 0 then -n else n) / (Int.gcd n d:Nat)
def ziK(n d:Int):Int:=(if d < 0 then -d else d) / (Int.gcd n d:Nat)
theorem zld{n d:Int}(hd:d≠0):zjE n d * d=n * ziK n d/\1<=ziK n d/\Int.gcd (zjE n d) (ziK n d)=1/\ziK n d<=d.natAbs/\(zjE n d).natAbs<=n.natAbs:=by
 have hg:0 < Int.gcd n d:=Int.gcd_pos_of_ne_zero_right n hd
 obtain⟨u,hu⟩:=Int.gcd_dvd_left n d
 obtain⟨v,hv⟩:=Int.gcd_dvd_right n d
 have hg':(0:Int) < (Int.gcd n d:Nat):=Int.natCast_pos.mpr hg
 have hc:Int.gcd (n / (Int.gcd n d:Nat)) (d / (Int.gcd n d:Nat))=1:=Int.gcd_ediv_gcd_ediv_gcd hg
 unfold zjE ziK
 generalize (Int.gcd n d:Nat)=g at *
 have gne:(g:Int)≠0:=by omega
 have eu:n / (g:Int)=u:=by rw [hu]; exact Int.mul_ediv_cancel_left u gne
 have ev:d / (g:Int)=v:=by rw [hv]; exact Int.mul_ediv_cancel_left v gne
 have eu':(-n) / (g:Int)=-u:=by rw [hu,<-Int.mul_neg]; exact Int.mul_ediv_cancel_left (-u) gne
 have ev':(-d) / (g:Int)=-v:=by rw [hv,<-Int.mul_neg]; exact Int.mul_ediv_cancel_left (-v) gne
 rw [eu,ev]at hc
 have g1:1<=g:=hg
 have an:n.natAbs=g * u.natAbs:=by rw [hu,Int.natAbs_mul]; rfl
 have ad:d.natAbs=g * v.natAbs:=by rw [hv,Int.natAbs_mul]; rfl
 have lu:u.natAbs<=n.natAbs:=by rw [an]; exact Nat.le_mul_of_pos_left _ hg
 have lv:v.natAbs<=d.natAbs:=by rw [ad]; exact Nat.le_mul_of_pos_left _ hg
 by_cases c:d < 0
 ·rw [if_pos c,if_pos c,eu',ev']
  have hv0:v < 0:=by
   rcases(by omega:v < 0\/0<=v)with z | z
   ·exact z
   ·have:=Int.mul_nonneg (Int.le_of_lt hg') z
    omega
  refine⟨?_,by omega,?_,by omega,by omega⟩
  ·rw [hu,hv]
   simp only [Int.neg_mul,Int.mul_neg,Int.neg_inj]
   ac_rfl
  ·rw [Int.neg_gcd,Int.gcd_neg]
   exact hc
 ·rw [if_neg c,if_neg c,eu,ev]
  have hv0:0 < v:=by
   rcases(by omega:0 < v\/v<=0)with z | z
   ·exact z
   ·have:=Int.mul_nonneg (Int.le_of_lt hg') (show 0<=-v by omega)
    rw [Int.mul_neg,<-hv]at this
    omega
  refine⟨?_,by omega,hc,by omega,by omega⟩
  rw [hu,hv]
  ac_rfl
theorem ziL(n d:Int){g:Int}(hg:0 < g):n.fdiv (if d < 0 then 0 - g else g)=(if d < 0 then -n else n) / g:=by
 split
 ·rw [Int.zero_sub,<-Int.fdiv_eq_ediv_of_nonneg _ (Int.le_of_lt hg)]
  have:=Int.neg_fdiv_neg (-n) g
  rw [Int.neg_neg]at this
  exact this
 ·rw [Int.fdiv_eq_ediv_of_nonneg _ (Int.le_of_lt hg)]
theorem zm6(x y:Int):Int.gcd (if x < 0 then -x else x) (if y < 0 then -y else y)=Int.gcd x y:=by
 rw [zn2]
 split
 ·exact Int.gcd_neg
 ·rfl
theorem zfi{x y:Int}(hx:0<=x)(hy:0<=y):za7 [.d (.int x),.d (.int y)]=some (.d (.int (Int.gcd x y:Nat)),[.d (.int x),.d (.int y)]):=by
 refine zax ?_
 simp_arith [za7,zcL]
 refine ziD (fun k ρ=>∃ a b:Int,ρ=[some (.d (.int a)),some (.d (.int b))]/\0<=a/\0<=b/\b.toNat=k/\Int.gcd a b=Int.gcd x y) _ ⟨x,y,rfl,hx,hy,rfl,rfl⟩ ?_
 rintro k _ ⟨a,b,rfl,ha,hb,hk,hg⟩
 simp_arith
 by_cases hz:b=0
 ·subst hz
  have e:a=((Int.gcd x y:Nat):Int):=by rw [<-hg,Int.gcd_zero_right]; omega
  subst e
  simp_arith [bne_self_eq_false]
 ·have hb':(b != 0)=true:=by simp [hz]
  simp_arith [hb']
  refine⟨(a % b).toNat,?_,_,_,rfl,by omega,Int.emod_nonneg _ hz,rfl,?_⟩
  ·have:=Int.emod_lt_of_pos a (show 0 < b by omega)
   have:=Int.emod_nonneg a hz
   omega
  ·rw [zid a b ha (by omega)]
   exact hg
theorem zft{n d:Int}(hd:d≠0)(hb:d.natAbs<=340282366920938463463374607431768211456):zaA [.d (.int n),.d (.int d)]=some (.d (.tuple [.int (zjE n d),.int (ziK n d)]),[.d (.int n),.d (.int d)]):=by
 have gl:Int.gcd n d<=d.natAbs:=Int.gcd_le_natAbs_right n hd
 have gp:0 < Int.gcd n d:=Int.gcd_pos_of_ne_zero_right n hd
 refine zax ?_
 unfold zjE ziK
 rw [<-ziL n d (show(0:Int) < (Int.gcd n d:Nat) by omega),<-ziL d d (show(0:Int) < (Int.gcd n d:Nat) by omega)]
 simp_arith [zaA,zcz]
 refine ziD (fun k ρ=>∃ a b:Int,ρ=[some (.d (.int n)),some (.d (.int d)),some (.d (.int a)),some (.d (.int b))]/\0<=a/\0<=b/\b.toNat=k/\Int.gcd a b=Int.gcd n d) _ ⟨_,_,rfl,by split<;>omega,by split<;>omega,rfl,zm6 n d⟩ ?_
 rintro k _ ⟨a,b,rfl,ha,hb0,hk,hg⟩
 simp_arith
 by_cases hz:b=0
 ·subst hz
  have e:a=((Int.gcd n d:Nat):Int):=by rw [<-hg,Int.gcd_zero_right]; omega
  subst e
  simp_arith
  refine zb5 (fun h=>?_) (fun h=>?_)
  ·simp_arith [h]
  ·simp_arith [h]
 ·simp_arith [hz]
  refine⟨(a % b).toNat,?_,_,_,rfl,by omega,Int.emod_nonneg _ hz,rfl,?_⟩
  ·have:=Int.emod_lt_of_pos a (show 0 < b by omega)
   have:=Int.emod_nonneg a hz
   omega
  ·rw [zid a b ha (by omega)]
   exact hg
def zkv(n d:Int):Prop:=n.natAbs<=999999/\1<=d/\d<=999999/\Int.gcd n d=1
theorem ziM{n d:Int}(hn:n.natAbs<=999999)(hd:1<=d)(h:d<=999999):zkv (zjE n d) (ziK n d):=by
 obtain⟨_,f2,f3,f4,f5⟩:=zld (n:=n) (d:=d) (by omega)
 exact⟨by omega,by omega,by omega,f3⟩
theorem ziN{x y:Int}{Q:U×List U->Prop}(k:∀ n d x' y',zkv n d->Q (.d (.tuple [.int n,.int d]),[bx x' y'])):Wo (zaF [bx x y]) Q:=by
 simp_arith [zaF,zc6]
 refine zat (by decide) (by decide) fun r x1 y1 h0 h1=>?_
 simp_arith
 refine zb5 (fun h7=>?_) (fun h7=>?_)
 ·simp_arith
  refine zez h0 (by simp; omega) fun a ha=>?_
  have e:∃ n d:Int,a=.tuple [.int n,.int d]/\zkv n d:=by
   simp only [List.mem_cons,List.not_mem_nil,or_false]at ha
   rcases ha with rfl | rfl | rfl | rfl | rfl | rfl | rfl
   all_goals exact⟨_,_,rfl,by decide,by decide,by decide,by decide⟩
  obtain⟨n,d,rfl,s⟩:=e
  simp_arith
  exact k _ _ _ _ s
 ·simp_arith
  refine zb5 (fun h11=>?_) (fun h11=>?_)
  ·simp_arith
   refine zat (by decide) (by decide) fun r2 x2 y2 h2 h3=>?_
   simp_arith
   refine zat (by decide) (by decide) fun r3 x3 y3 h4 h5=>?_
   simp_arith [zft]
   exact k _ _ _ _ (ziM (by omega) (by omega) (by omega))
  ·simp_arith
   refine zat (by decide) (by decide) fun r2 x2 y2 h2 h3=>?_
   simp_arith
   refine zat (by decide) (by decide) fun r3 x3 y3 h4 h5=>?_
   simp_arith [zft]
   exact k _ _ _ _ (ziM (by omega) (by omega) (by omega))
end K31
open PySem L2
namespace K31
open PySem L2
theorem zvg{ws:List Str}{w:Str}:zoX ws (.d (.str w))=some (.d (.bool (inV (.str w) (ws.map V.str)))):=rfl
theorem zv4{neg:Bool}{ws:List Str}{w:Str}:fIn neg (.d (.str w)) (.d (.tuple (ws.map PyData.str)))=some (.d (.bool (if neg=true then !inV (.str w) (ws.map V.str)else inV (.str w) (ws.map V.str)))):=by
 unfold fIn
 show((zmy (.str w) (ws.map PyData.str)).bind _)=_
 unfold zmy
 rw [zgn]
 rfl
def low(c:Nat):Bool:=decide (97<=c) && decide (c<=122)
def kept:List Str:=["letters", "part", "rounds", "end", "give"]
def zbJ(z:Str):Bool:=decide (1<=z.length) && (decide (z.length<=5) && (!inV (.str z) (kept.map V.str) && z.cps.toList.all low))
theorem zqe:∀ c,c < 128->Unicode.isAlpha c=(low c || (decide (65<=c) && decide (c<=90))):=by decide +kernel
theorem zqf:∀ c,c < 128->Unicode.isLower c=low c:=by decide +kernel
theorem zqg:∀ c,c < 128->(Unicode.isUpper c || Unicode.isTitle c)=(decide (65<=c) && decide (c<=90)):=by decide +kernel
theorem zle{n:Nat}{z:Str}(h:Asc n z):Txt.isascii z=true:=by
 unfold Txt.isascii
 rw [Array.all_eq_true']
 intro c hc
 exact decide_eq_true (h.2 c (Array.mem_toList_iff.mpr hc))
theorem zlf{n:Nat}{z:Str}(h:Asc n z):(Txt.isalpha z && Txt.islower z)=(decide (1<=z.length) && z.cps.toList.all low):=by
 have hs:z.length=z.cps.toList.length:=by rw [Array.length_toList]; rfl
 unfold Txt.isalpha Txt.islower
 rw [<-Array.all_toList,<-Array.any_toList,<-Array.any_toList,hs]
 have ha:=h.2
 generalize z.cps.toList=cs at ha
 have e1:cs.all Unicode.isAlpha=cs.all (fun c=>low c || (decide (65<=c) && decide (c<=90))):=by
  rw [Bool.eq_iff_iff,List.all_eq_true,List.all_eq_true]
  exact⟨fun k c hc=>by rw [<-zqe c (ha c hc)]; exact k c hc,fun k c hc=>by rw [zqe c (ha c hc)]; exact k c hc⟩
 have e2:cs.any Unicode.isLower=cs.any low:=by
  rw [Bool.eq_iff_iff,List.any_eq_true,List.any_eq_true]
  exact⟨fun⟨c,hc,k⟩=>⟨c,hc,by rw [<-zqf c (ha c hc)]; exact k⟩,fun⟨c,hc,k⟩=>⟨c,hc,by rw [zqf c (ha c hc)]; exact k⟩⟩
 have e3:(cs.any fun c=>Unicode.isUpper c || Unicode.isTitle c)=cs.any (fun c=>decide (65<=c) && decide (c<=90)):=by
  rw [Bool.eq_iff_iff,List.any_eq_true,List.any_eq_true]
  exact⟨fun⟨c,hc,k⟩=>⟨c,hc,by rw [<-zqg c (ha c hc)]; exact k⟩,fun⟨c,hc,k⟩=>⟨c,hc,by rw [zqg c (ha c hc)]; exact k⟩⟩
 rw [e1,e2,e3,Bool.eq_iff_iff]
 simp only [Bool.and_eq_true_iff,decide_eq_true_iff,List.all_eq_true,List.any_eq_true,Bool.or_eq_true_iff,Bool.not_eq_true']
 constructor
 ·rintro⟨⟨h0,h1⟩,h2,h3⟩
  refine⟨h0,fun c hc=>?_⟩
  rcases h1 c hc with k | k
  ·exact k
  ·have:(cs.any fun c=>decide (65<=c) && decide (c<=90))=true:=List.any_eq_true.mpr ⟨c,hc,by simp [k]⟩
   rw [this]at h3
   cases h3
 ·rintro⟨h0,h1⟩
  refine⟨⟨h0,fun c hc=>.inl (h1 c hc)⟩,?_,?_⟩
  ·cases cs with
   | nil=>simp at h0
   | cons c cs=>exact⟨c,List.mem_cons_self,h1 c List.mem_cons_self⟩
  ·rw [Bool.eq_false_iff]
   intro k
   obtain⟨c,hc,k⟩:=List.any_eq_true.mp k
   have:=h1 c hc
   unfold low at this
   simp only [Bool.and_eq_true_iff,decide_eq_true_iff]at this k
   omega
theorem zhZ{n:Nat}{z:Str}(h:Asc n z)(hn:n<=1000):zck [.d (.str z)]=some (.d (.bool (zbJ z)),[.d (.str z)]):=by
 refine zax ?_
 have hl:=h.1
 have ea:=zle h
 have al:=zlf h
 simp_arith [zck,zd2]
 refine zb5 (fun c=>?_) (fun c=>?_)
 ·have e:zbJ z=false:=by
   unfold zbJ
   rw [show decide (z.length<=5)=false from decide_eq_false (by omega)]
   simp
  simp_arith [e]
 simp_arith [zvg]
 have l5:decide (z.length<=5)=true:=decide_eq_true (by omega)
 refine zb5 (fun c=>?_) (fun c=>?_)
 ·have e:zbJ z=false:=by
   have c':inV (V.str z) (kept.map V.str)=true:=c
   unfold zbJ
   rw [c']
   simp
  simp_arith [e]
 ·have c':inV (V.str z) (kept.map V.str)=false:=by simpa [kept] using c
  simp_arith [ea]
  have e:zbJ z=(Txt.isalpha z && Txt.islower z):=by
   unfold zbJ
   rw [l5,c',al]
   rfl
  refine zb5 (fun c=>?_) (fun c=>?_)
  ·rw [c,Bool.true_and]at e
   simp_arith [e]
  ·rw [Bool.eq_false_iff.mpr c,Bool.false_and]at e
   simp_arith [e]
abbrev ks(ns:List Str):List Key:=ns.map Sum.inr
def zjF(ns:List Str):Nat:=zcd (ks ns) (ks ns).length
def za4(ns:List Str):Bool:=decide (1<=ns.length) && (decide (ns.length<=3) && (ns.all zbJ && decide (zjF ns=ns.length)))
theorem zhd:∀ (zs:List Str),(zs.map PyData.str).mapM zol=some (ks zs)
 | []=>rfl
 | z::zs=>by
  rw [List.map_cons,List.mapM_cons,zhd zs]
  rfl
theorem ziO{α:Type}{f:α->Bool}:∀ (zs:List α),(zs.map fun z=>PyData.bool (f z)).mapM blD=some (zs.map f)
 | []=>rfl
 | z::zs=>by
  rw [List.map_cons,List.mapM_cons,ziO zs]
  rfl
theorem zhe{ns:List Str}(h:ns.length<=4):zfU (.d (.tuple (ns.map PyData.str)))=some (.d (.int (zjF ns:Nat))):=by
 show((ns.map PyData.str).mapM zol).bind _=_
 rw [zhd,bd,if_pos (by rw [List.length_map]; omega)]
 rfl
theorem zta{α:Type}{f:α->Bool}{zs:List α}:zsg (.l (zs.map fun z=>PyData.bool (f z)))=some (.d (.bool (zs.all f))):=by
 show(some _).bind _=_
 rw [bd,ziO,bd,List.all_map]
 rfl
theorem zgA{n:Nat}{ns:List Str}(hn:n<=1000)(hl:ns.length<=4)(hz:∀ z∈ns,Asc n z):zbB [.d (.tuple (ns.map .str))]=some (.d (.bool (za4 ns)),[.d (.tuple (ns.map .str))]):=by
 refine zax ?_
 simp_arith [zbB,zdo]
 refine zb5 (fun c=>?_) (fun c=>?_)
 ·simp_arith
  refine zb5 (fun c'=>?_) (fun c'=>?_)
  ·have e:za4 ns=false:=by
    unfold za4
    rw [show decide (ns.length<=3)=false from decide_eq_false (by simp at c'; omega)]
    simp
   simp_arith [e]
  have l1:decide (1<=ns.length)=true:=decide_eq_true (by omega)
  have l3:decide (ns.length<=3)=true:=decide_eq_true (by simp at c'; omega)
  simp_arith
  refine zsT (p:=fun _=>true) (h:=fun z=>.bool (zbJ z)) (by rw [zsR]; omega) (fun z hz'=>?_) ?_
  ·simp_arith [zhZ (hz z hz') hn]
  ·rw [zit]
   simp_arith [zta,zhe]
   have e:za4 ns=(ns.all zbJ && decide (((zjF ns:Nat):Int)=(ns.length:Int))):=by
    unfold za4
    rw [l1,l3,show decide (zjF ns=ns.length)=decide (((zjF ns:Nat):Int)=(ns.length:Int)) from decide_eq_decide.mpr (by omega)]
    rfl
   refine zb5 (fun c=>?_) (fun c=>?_)
   ·rw [c]at e
    simp_arith [e,zhe]
   ·rw [Bool.eq_false_iff.mpr c]at e
    simp_arith [e]
 ·have e:za4 ns=false:=by
   unfold za4
   rw [show decide (1<=ns.length)=false from decide_eq_false (by omega)]
   rfl
  simp_arith [e]
theorem zfI{n:Nat}{ns:List Str}(hn:n<=1000)(hl:ns.length<=4)(hz:∀ z∈ns,Asc n z):zbn [.d (.tuple (ns.map .str))]=some (if za4 ns=true then .inl (.d (.bool true),[.d (.tuple (ns.map .str))])else .inr (.dict [(.none,.str "BadLetters")],[.d (.tuple (ns.map .str))])):=by
 refine zax ?_
 simp_arith [zbn,zc7,zgA hn hl hz]
 cases za4 ns<;>simp_arith
end K31
open PySem L2
namespace K31
open PySem L2
abbrev cs(z:Str):List Nat:=z.cps.toList
theorem ztb{x y:Str}(h:cs x=cs y):x=y:=by
 cases x; cases y
 congr 1
 exact Array.toList_inj.mp h
theorem zfj{x y:Str}:cs (x++y)=cs x++cs y:=by
 show(x++y).cps.toList=_
 rw [PySem.Str.cps_append,Array.toList_append]
def zd7:List (List Nat):=[[108,101,116,116,101,114,115],[112,97,114,116],[114,111,117,110,100,115],[101,110,100],[103,105,118,101]]
theorem zei{x:Str}{zs:List Str}:inV (.str x) (zs.map V.str)=true↔x∈zs:=by
 unfold inV
 rw [List.any_map,List.any_eq_true]
 constructor
 ·rintro⟨y,hy,e⟩
  have:y=x:=by simpa [eqV] using e
  exact this▸hy
 ·intro h
  exact⟨x,h,by simp [eqV]⟩
theorem zkw{x:Str}:x∈kept↔cs x∈zd7:=by
 have e:kept.map cs=zd7:=by decide +kernel
 rw [<-e,List.mem_map]
 exact⟨fun h=>⟨x,h,rfl⟩,fun⟨y,hy,e⟩=>ztb e▸hy⟩
def Qs(q:List Nat):Prop:=q=[]\/q=[113]
theorem zqh{a b q q' w:List Nat}{c c' x:Nat}(hq:Qs q)(hw:w∈zd7)(h:a++c::(b++q)=[122,122,x])(h':a++c'::(b++q')=w):False:=by
 cases a with
 | nil =>
  cases b with
  | nil =>
   rcases hq with rfl | rfl<;>simp at h
  | cons y b =>
   simp only [List.nil_append,List.cons_append,List.cons.injEq]at h h'
   obtain⟨_,rfl,_⟩:=h
   subst h'
   simp [zd7]at hw
 | cons y a =>
  simp only [List.cons_append,List.cons.injEq]at h
  obtain⟨rfl,_⟩:=h
  subst h'
  simp [zd7]at hw
def Nm(a b:List Nat)(f:Int)(j:Nat)(z:Str):Prop :=
 (∃ q,Qs q/\cs z=a++(97+((f+7 * (j:Int)) % 26).toNat)::(b++q))\/(cs z=[122,122,97+j]/\∃ c q w,w∈zd7/\a++c::(b++q)=w)
theorem Nm.ne{a b:List Nat}{f:Int}{j k:Nat}{x y:Str}(hj:j < k)(hk:k<=2)(hx:Nm a b f j x)(hy:Nm a b f k y):x≠y:=by
 rintro rfl
 rcases hx with ⟨q,h1,e1⟩ | ⟨e1,c1,q1,w1,m1,k1⟩
 ·rcases hy with ⟨q',h2,e2⟩ | ⟨e2,c2,q2,w2,m2,k2⟩
  ·rw [e1,List.append_cancel_left_eq]at e2
   simp only [List.cons.injEq]at e2
   have:=e2.1
   omega
  ·rw [e1]at e2
   exact zqh h1 m2 e2 k2
 ·rcases hy with ⟨q',h2,e2⟩ | ⟨e2,_⟩
  ·rw [e2]at e1
   exact zqh h2 m1 e1 k1
  ·rw [e1]at e2
   simp at e2
   omega
theorem Nm.nodup{a b:List Nat}{f:Int}{zs:List Str}(hl:zs.length<=3)(h:∀ j z,zs[j]?=some z->Nm a b f j z):zs.Nodup:=by
 rw [List.Nodup,List.pairwise_iff_getElem]
 intro i j hi hj hij
 exact Nm.ne hij (by omega) (h i _ (List.getElem?_eq_getElem hi)) (h j _ (List.getElem?_eq_getElem hj))
theorem zlg{zs:List Str}{x:Str}{i:Nat}(h:zs.Nodup)(hx:x∉zs):(zs.set i x).Nodup:=by
 rw [List.Nodup,List.pairwise_iff_getElem]at h ⊢
 intro p q hp hq hpq
 rw [List.length_set]at hp hq
 rw [List.getElem_set,List.getElem_set]
 split
 ·split
  ·omega
  ·intro e
   exact hx (e▸List.getElem_mem _)
 ·split
  ·intro e
   exact hx (e▸List.getElem_mem _)
  ·exact h p q hp hq hpq
theorem zfW{c:Nat}:low c=true↔97<=c/\c<=122:=by
 unfold low
 rw [Bool.and_eq_true_iff,decide_eq_true_iff,decide_eq_true_iff]
theorem ziP{z:Str}(h1:1<=(cs z).length)(h5:(cs z).length<=5)(hk:¬cs z∈zd7)(hl:∀ c∈cs z,low c=true):zbJ z=true:=by
 have e:z.length=(cs z).length:=by rw [Array.length_toList]; rfl
 unfold zbJ
 rw [e,decide_eq_true h1,decide_eq_true h5,Bool.true_and,Bool.true_and,List.all_eq_true.mpr hl,Bool.and_true]
 rw [show inV (.str z) (kept.map V.str)=false from Bool.eq_false_iff.mpr fun h=>hk (zkw.mp (zei.mp h))]
 rfl
theorem zm7{z:Str}{j:Nat}(hj:j<=2)(h:cs z=[122,122,97+j]):zbJ z=true:=by
 refine ziP (by rw [h]; simp) (by rw [h]; simp) (by rw [h]; simp [zd7]) fun c hc=>?_
 rw [h]at hc
 rw [zfW]
 simp at hc
 omega
theorem zm8{z:Str}{a b q:List Nat}{c:Nat}(ha:∀ c∈a,low c=true)(hb:∀ c∈b,low c=true)(hl:a.length+b.length<=3)(hq:Qs q)(hc:low c=true)(h:cs z=a++c::(b++q))(hk:¬cs z∈zd7):zbJ z=true:=by
 have lq:q.length<=1:=by rcases hq with rfl | rfl<;>simp
 refine ziP ?_ ?_ hk fun d hd=>?_
 ·rw [h,List.length_append,List.length_cons]; omega
 ·rw [h,List.length_append,List.length_cons,List.length_append]; omega
 ·rw [h]at hd
  simp only [List.mem_append,List.mem_cons]at hd
  rcases hd with hd | rfl | hd | hd
  ·exact ha d hd
  ·exact hc
  ·exact hb d hd
  ·rcases hq with rfl | rfl
   ·cases hd
   ·cases List.mem_singleton.mp hd
    decide
theorem zgB:∀ {ks:List Key} (i:Nat),ks.Nodup->i<=ks.length->zcd ks i=i
 | ks,0,_,_=>rfl
 | ks,i+1,h,hi=>by
  have ih:=zgB i h (by omega)
  have e:ks[i]?=some ks[i]:=List.getElem?_eq_getElem (by omega)
  have n:zgP ks i ks[i]=false:=by
   rw [Bool.eq_false_iff]
   intro z
   obtain⟨x,hx,ex⟩:=List.any_eq_true.mp z
   obtain⟨j,hj,rfl⟩:=List.mem_iff_getElem.mp hx
   rw [List.length_take]at hj
   rw [List.getElem_take]at ex
   rw [List.Nodup,List.pairwise_iff_getElem]at h
   exact h j i (by omega) (by omega) (by omega) (of_decide_eq_true ex)
  unfold zcd
  rw [e]
  dsimp only
  rw [n,if_neg Bool.false_ne_true,ih]
theorem zlh{ns:List Str}(h1:1<=ns.length)(h3:ns.length<=3)(hl:∀ z∈ns,zbJ z=true)(hn:ns.Nodup):za4 ns=true:=by
 have hk:(ks ns).Nodup:=by
  unfold ks
  rw [List.Nodup,List.pairwise_map]
  exact List.Pairwise.imp (fun h e=>h (Sum.inr.inj e)) hn
 have e:zjF ns=ns.length:=by
  unfold zjF
  rw [zgB _ hk (Nat.le_refl _),List.length_map]
 unfold za4
 rw [decide_eq_true h1,decide_eq_true h3,decide_eq_true e,List.all_eq_true.mpr hl]
 rfl
end K31
open PySem L2
namespace K31
open PySem L2
abbrev abc:Str := "abcdefghijklmnopqrstuvwxyz"
theorem ztc:∀ k,k < 26->(cs abc)[k]?=some (97+k):=by decide +kernel
theorem zjG{r:Int}(h0:0<=r)(h1:r < 26):zjs (.d (.str abc)) (.d (.int r))=some (.d (.str ⟨#[97+r.toNat]⟩)):=by
 have hl:abc.length=(cs abc).length:=by rw [Array.length_toList]; rfl
 have h26:abc.length=26:=by decide
 obtain⟨c,e,m,q⟩:=zhK (xs:=cs abc) h0 (by rw [<-hl,h26]; exact h1)
 rw [ztc _ (by omega)]at q
 cases q
 unfold zjs
 dsimp only
 rw [if_pos (by decide),e]
 rfl
theorem zpu{z:Str}{n:Int}(h0:0<=n)(h1:n<=1):ziw (.d (.str z)) (.d (.int n))=some (.d (.str (zhu z n))):=by
 unfold ziw
 dsimp only
 rw [if_pos ⟨h0,h1⟩]
theorem zvh{n:Int}(h0:0<=n)(h1:n<=1):Qs (cs (zhu "q" n)):=by
 rcases(by omega:n=0\/n=1)with rfl | rfl
 ·exact .inl (by decide)
 ·exact .inr (by decide)
theorem zqi{neg:Bool}{ws:List Str}{w:Str}:fIn neg (.d (.str w)) (.l (ws.map PyData.str))=some (.d (.bool (if neg=true then !inV (.str w) (ws.map V.str)else inV (.str w) (ws.map V.str)))):=by
 unfold fIn
 show((zmy (.str w) (ws.map PyData.str)).bind _)=_
 unfold zmy
 rw [zgn]
 rfl
def Lw(n:Nat)(z:Str):Prop:=(cs z).length<=n/\∀ c∈cs z,low c=true
theorem Lw.app{n m:Nat}{x y:Str}(hx:Lw n x)(hy:Lw m y):Lw (n+m) (x++y):=⟨by rw [zfj,List.length_append]; have:=hx.1; have:=hy.1; omega,fun c hc=>by
 rw [zfj,List.mem_append]at hc
 exact hc.elim (hx.2 c) (hy.2 c)⟩
theorem Lw.mono{n m:Nat}{z:Str}(h:Lw n z)(hm:n<=m):Lw m z:=⟨Nat.le_trans h.1 hm,h.2⟩
theorem Lw.asc{n:Nat}{z:Str}(h:Lw n z):Asc n z:=⟨by have:=h.1; rw [Array.length_toList]at this; exact this,fun c hc=>by have:=zfW.mp (h.2 c hc); omega⟩
theorem Lw.one{c:Nat}(h:low c=true):Lw 1 ⟨#[c]⟩:=⟨Nat.le_refl _,fun d hd=>by
 cases List.mem_singleton.mp hd
 exact h⟩
theorem Lw.join{n:Nat}:∀ {ys:List Str},(∀ z∈ys,Lw n z)->Lw (ys.length * n) (PySem.Str.join "" ys)
 | [],_=>⟨Nat.zero_le _,fun c hc=>by cases hc⟩
 | [x],h=>(h x List.mem_cons_self).mono (by simp)
 | x::y::r,h=>by
  have:=((h x List.mem_cons_self).app (show Lw 0 "" from⟨Nat.le_refl _,fun c hc=>by cases hc⟩)).app (Lw.join fun z hz=>h z (List.mem_cons_of_mem _ hz))
  exact this.mono (by simp only [List.length_cons,Nat.add_mul]; omega)
theorem ziQ{n:Nat}{ys:List Str}(h:∀ z∈ys,Lw n z):Lw (ys.length * n) (Txt.join "" ys):=by
 show Lw _ (PySem.Builtin.Str.glued "" ys)
 rw [PySem.StrLaws.glued_eq_join]
 exact Lw.join h
theorem zli{z:Str}(h:zbJ z=true):Asc 10 z:=by
 unfold zbJ at h
 simp only [Bool.and_eq_true_iff,decide_eq_true_iff]at h
 obtain⟨_,h5,_,hl⟩:=h
 exact⟨by omega,fun c hc=>by have:=zfW.mp (List.all_eq_true.mp hl c hc); omega⟩
theorem zkx{r:Int}(h0:0<=r)(h1:r < 26):low (97+r.toNat)=true:=zfW.mpr ⟨by omega,by omega⟩
theorem zky{x:Str}:x∈(["part", "end", "give", "rounds", "letters"]:List Str)↔cs x∈zd7:=by
 rw [<-zkw]
 constructor<;>(intro h; simp only [kept,List.mem_cons,List.not_mem_nil,or_false]at h ⊢; rcases h with rfl | rfl | rfl | rfl | rfl<;>simp)
theorem zpv{x y m:Int}{Q:U×List U->Prop}(h1:1<=m)(h3:m<=3)(k:∀ (ns:List Str) x' y',ns.length=m.toNat->(∀ z∈ns,Asc 10 z)->za4 ns=true->Q (.d (.tuple (ns.map .str)),[bx x' y',.d (.int m)])):Wo (zbd [bx x y,.d (.int m)]) Q:=by
 have k':∀ (ns:List Str) x' y',ns.length=m.toNat->(∀ z∈ns,zbJ z=true)->ns.Nodup->Q (.d (.tuple (ns.map .str)),[bx x' y',.d (.int m)]):=fun ns x' y' hl hz hn=>k ns x' y' hl (fun z h=>zli (hz z h)) (zlh (by omega) (by omega) hz hn)
 simp_arith [zbd,zdp]
 refine zat (by decide) (by decide) fun r1 x1 y1 a1 b1=>?_
 simp_arith
 refine zkr (fun i ρ ys=>∃ (x y:Int) (zs:List Str),ρ=[none,some (bx x y),some (.d (.str abc))]/\ys=zs.map PyData.str/\zs.length=i/\∀ z∈zs,Lw 1 z) ?_ ⟨_,_,[],rfl,rfl,rfl,fun z hz=>by cases hz⟩ ?_ ?_ ?_
 ·rw [zl]; omega
 ·rintro i ρ ys ⟨x,y,zs,rfl,rfl,hl,_⟩
  simp [hl]
 ·rintro i _ _ hi ⟨x,y,zs,rfl,rfl,hl,hz⟩
  simp_arith [zp9]
  refine zat (by decide) (by decide) fun r2 x2 y2 a2 b2=>?_
  simp_arith [zjG]
  exact⟨x2,y2,zs++[⟨#[97+r2.toNat]⟩],rfl,by rw [List.map_append]; rfl,by rw [List.length_append,hl]; rfl,fun z hz'=>by
   rcases List.mem_append.mp hz' with h | h
   ·exact hz z h
   ·cases List.mem_singleton.mp h
    exact Lw.one (zkx a2 b2)⟩
 rintro _ _ ⟨x2,y2,sg,rfl,rfl,hl,hs⟩
 simp_arith
 refine zat (by omega) (by omega) fun r3 x3 y3 a3 b3=>?_
 simp_arith
 refine zat (by decide) (by decide) fun r4 x4 y4 a4 b4=>?_
 simp_arith
 have hw1:∀ z∈sg.take r3.toNat,Lw 1 z:=fun z hz=>hs z (List.mem_of_mem_take hz)
 have hw2:∀ z∈sg.drop (r3+1).toNat,Lw 1 z:=fun z hz=>hs z (List.mem_of_mem_drop hz)
 have jA:=ziQ hw1
 have jB:=ziQ hw2
 have la:(cs (Txt.join "" (sg.take r3.toNat))).length+(cs (Txt.join "" (sg.drop (r3+1).toNat))).length<=3:=by
  have p:=jA.1
  have q:=jB.1
  rw [List.length_take]at p
  rw [List.length_drop]at q
  omega
 have hA:=jA.2
 have hB:=jB.2
 refine zkq (fun i ρ=>∃ (x y:Int) (v7 v8 v9:Option U) (zs:List Str),ρ=[some (bx x y),some (.d (.int m)),some (.d (.str abc)),some (.l (sg.map .str)),some (.d (.int r3)),some (.d (.int r4)),some (.l (zs.map PyData.str)),v7,v8,v9,none]/\zs.length=i/\(∀ z∈zs,zbJ z=true)/\∀ j z,zs[j]?=some z->Nm (cs (Txt.join "" (sg.take r3.toNat))) (cs (Txt.join "" (sg.drop (r3+1).toNat))) r4 j z) ⟨x4,y4,none,none,none,[],rfl,rfl,(fun z hz=>by cases hz),fun j z hz=>by cases hz⟩ ?_ ?_
 ·rintro i _ hi ⟨x,y,v7,v8,v9,zs,rfl,hlz,hz,hn⟩
  have ec:(0:Int)+(i:Nat)=(i:Int):=by omega
  have m0:=Int.emod_nonneg (r4+7 * (i:Int)) (show(26:Int)≠0 by decide)
  have m1:=Int.emod_lt_of_pos (r4+7 * (i:Int)) (show(0:Int) < 26 by decide)
  rw [ec]
  simp_arith [zjG,zhM,zgo,<-List.map_take,<-List.map_drop]
  refine zks (n:=1) (m:=4) (fun z hz=>(hw1 z hz).asc) (by rw [List.length_take]; omega) (by decide) fun j1=>?_
  simp_arith
  refine zhL j1 (Lw.one (zkx m0 m1)).asc (by decide) fun j2=>?_
  simp_arith [zhM,zgo,<-List.map_take,<-List.map_drop]
  refine zks (n:=1) (m:=4) (fun z hz=>(hw2 z hz).asc) (by rw [List.length_drop]; omega) (by decide) fun j3=>?_
  simp_arith
  refine zhL j2 j3 (by decide) fun j4=>?_
  simp_arith
  refine zat (by decide) (by decide) fun r5 x5 y5 a5 b5=>?_
  have hq:=zvh (n:=r5) a5 (by omega)
  have hq1:Asc 1 (zhu "q" r5):=by
   rcases(by omega:r5=0\/r5=1)with rfl | rfl
   ·exact⟨by decide,by decide⟩
   ·exact⟨by decide,by decide⟩
  simp_arith [zpu]
  refine zhL j4 hq1 (by decide) fun j5=>?_
  have ecs:cs (Txt.join "" (sg.take r3.toNat)++⟨#[97+((r4+7 * (i:Int)) % 26).toNat]⟩++Txt.join "" (sg.drop (r3+1).toNat)++zhu "q" r5)=cs (Txt.join "" (sg.take r3.toNat))++(97+((r4+7 * (i:Int)) % 26).toNat)::(cs (Txt.join "" (sg.drop (r3+1).toNat))++cs (zhu "q" r5)):=by
   rw [zfj,zfj,zfj,List.append_assoc,List.append_assoc]
   rfl
  generalize Txt.join "" (sg.take r3.toNat)++⟨#[97+((r4+7 * (i:Int)) % 26).toNat]⟩++Txt.join "" (sg.drop (r3+1).toNat)++zhu "q" r5=nm at *
  have hN:Nm (cs (Txt.join "" (sg.take r3.toNat))) (cs (Txt.join "" (sg.drop (r3+1).toNat))) r4 i nm:=.inl ⟨_,hq,ecs⟩
  have n1:inV (.str nm) (zs.map V.str)=false:=Bool.eq_false_iff.mpr fun h=>by
   obtain⟨j,hj,e⟩:=List.mem_iff_getElem.mp (zei.mp h)
   exact Nm.ne (by omega) (by omega) (hn j _ (List.getElem?_eq_getElem hj)) hN e
  have i1:=zqi (neg:=false) (ws:=zs) (w:=nm)
  rw [n1,if_neg Bool.false_ne_true]at i1
  have i2:fIn false (.d (.str nm)) (.d (.tuple [.str "part",.str "end",.str "give",.str "rounds",.str "letters"]))=some (.d (.bool (inV (.str nm) ((["part", "end", "give", "rounds", "letters"]:List Str).map V.str)))):=zv4 (neg:=false) (ws:=["part", "end", "give", "rounds", "letters"])
  have fin:∀ (nm:Str),zbJ nm=true->Nm (cs (Txt.join "" (sg.take r3.toNat))) (cs (Txt.join "" (sg.drop (r3+1).toNat))) r4 i nm->(∀ z∈zs++[nm],zbJ z=true)/\∀ j z,(zs++[nm])[j]?=some z->Nm (cs (Txt.join "" (sg.take r3.toNat))) (cs (Txt.join "" (sg.drop (r3+1).toNat))) r4 j z:=fun nm h1 h2=>⟨fun z hz'=>by
   rcases List.mem_append.mp hz' with h | h
   ·exact hz z h
   ·cases List.mem_singleton.mp h
    exact h1,fun j z e=>by
   rcases Nat.lt_or_ge j zs.length with h | h
   ·rw [List.getElem?_append_left h]at e
    exact hn j z e
   ·rw [List.getElem?_append_right h]at e
    have:j - zs.length=0:=by
     have:=(List.getElem?_eq_some_iff.mp e).1
     simp at this
     omega
    rw [this]at e
    cases e
    rw [show j=i by omega]
    exact h2⟩
  by_cases hk:cs nm∈zd7
  ·rw [zei.mpr (zky.mpr hk)]at i2
   simp_arith [i1,i2,zjG]
   refine zhL (show Asc 2 "zz" by unfold Asc; decide) (Lw.one (zkx (r:=(i:Int)) (by omega) (by omega))).asc (by decide) fun j6=>?_
   simp_arith
   have ez:cs ("zz"++⟨#[97+((i:Int)).toNat]⟩)=[122,122,97+i]:=by
    rw [zfj,Int.toNat_natCast]
    rfl
   obtain⟨f1,f2⟩:=fin _ (zm7 (by omega) ez) (.inr ⟨ez,_,_,_,hk,ecs.symm⟩)
   exact⟨_,_,_,_,_,_,by rw [<-List.map_singleton,<-List.map_append],by rw [List.length_append,hlz]; rfl,f1,f2⟩
  ·rw [Bool.eq_false_iff.mpr fun h=>hk (zky.mp (zei.mp h))]at i2
   simp_arith [i1,i2]
   obtain⟨f1,f2⟩:=fin _ (zm8 hA hB la hq (zkx m0 m1) ecs hk) hN
   exact⟨_,_,_,_,_,_,by rw [<-List.map_singleton,<-List.map_append],by rw [List.length_append,hlz]; rfl,f1,f2⟩
 ·rintro _ ⟨x,y,v7,v8,v9,zs,rfl,hlz,hz,hn⟩
  have nd:=Nm.nodup (by omega) hn
  simp_arith
  refine zat (by decide) (by decide) fun r5 x5 y5 a5 b5=>?_
  simp_arith
  refine zb5 (fun h5=>?_) (fun h5=>?_)
  ·simp_arith
   refine zat (by decide) (by decide) fun r6 x6 y6 a6 b6=>?_
   simp_arith
   refine zjy (f:=PyData.str) (xs:=["ends", "pa", "gives", "giv", "x", "y", "r", "rk"]) a6 b6 fun z mz _=>?_
   have az:zbJ z=true:=by
    have:∀ z∈(["ends", "pa", "gives", "giv", "x", "y", "r", "rk"]:List Str),zbJ z=true:=by decide +kernel
    exact this z mz
   have i1:=zqi (neg:=true) (ws:=zs) (w:=z)
   rw [if_pos rfl]at i1
   by_cases hm:z∈zs
   ·rw [zei.mpr hm]at i1
    simp_arith [i1]
    exact k' zs _ _ hlz hz nd
   ·rw [Bool.eq_false_iff.mpr fun h=>hm (zei.mp h)]at i1
    simp_arith [i1]
    refine zat (by omega) (by omega) fun r7 x7 y7 a7 b7=>?_
    have e7:ixN zs.length r7=some r7.toNat:=by
     unfold ixN
     rw [if_pos a7,if_pos (by omega)]
    simp_arith [e7]
    have es:(zs.map PyData.str).set r7.toNat (.str z)=(zs.set r7.toNat z).map PyData.str:=by rw [List.map_set]
    rw [es]
    refine k' _ _ _ (by rw [List.length_set]; exact hlz) (fun w hw=>?_) (zlg nd hm)
    rcases List.mem_or_eq_of_mem_set hw with h | h
    ·exact hz w h
    ·exact h▸az
  ·simp_arith
   exact k' zs _ _ hlz hz nd
end K31
open PySem L2
namespace K31
open PySem L2
theorem zvi:zcv "int" (.d .none)=some (.d (.bool false)):=by unfold zcv; rfl
theorem zgC:zcv "tuple" (.d .none)=some (.d (.bool false)):=by unfold zcv; rfl
def Sm:Nat->D->Prop
 | _,.none=>True
 | _,.int i=>i.natAbs < 10^10
 | _,.str z=>Asc 10 z
 | k+1,.tuple xs=>xs.length<=4/\∀ x∈xs,Sm k x
 | _,_=>False
theorem zgD{k:Nat}{xs:List D}(h:Sm k (.tuple xs)):∃ j,k=j+1/\xs.length<=4/\∀ x∈xs,Sm j x:=by
 cases k with
 | zero=>simp [Sm]at h
 | succ k=>rw [Sm]at h; exact⟨k,rfl,h⟩
theorem Sm.nic{d:D}:∀ {k:Nat},Sm k d->Nic k (102 * 8^k) d
 | 0,h=>by
  cases d with
  | none=>exact ziF.mono (Nat.le_refl _) (by decide)
  | int i=>rw [Sm]at h; exact(zeU h).mono (Nat.le_refl _) (by decide)
  | str z=>rw [Sm]at h; exact(zfV h).mono (Nat.le_refl _) (by decide)
  | _=>simp [Sm]at h
 | k+1,h=>by
  have p:8^(k+1)=8 * 8^k:=by rw [Nat.pow_succ,Nat.mul_comm]
  have q:1<=8^k:=Nat.pow_pos (by decide)
  cases d with
  | none=>exact ziF.mono (Nat.zero_le _) (by omega)
  | int i=>rw [Sm]at h; exact(zeU h).mono (Nat.zero_le _) (by omega)
  | str z=>rw [Sm]at h; exact(zfV h).mono (Nat.zero_le _) (by omega)
  | tuple xs =>
   rw [Sm]at h
   exact(zeh (n:=4) (fun d hd=>(h.2 d hd).nic) h.1).mono (Nat.le_refl _) (by omega)
  | _=>simp [Sm]at h
def isInt:D->Bool
 | .int _=>true
 | _=>false
def zcU:D->Bool
 | .tuple [.int a,.int b]=>decide (1<=b) && decide (Int.gcd a b=1)
 | _=>false
def zcN(m:Int):D->Bool
 | .int i=>decide (0<=i) && decide (i < m)
 | _=>false
def zpw:D->Bool
 | .none=>true
 | _=>false
def nz:D->Bool
 | .tuple (.int a::_)=>decide (a≠0)
 | _=>false
theorem zdN{k:Nat}{d:D}(h:Sm k d):zav [.d d]=some (.d (.bool (isInt d)),[.d d]):=by
 refine zax ?_
 cases d with
 | none=>simp_arith [zav,zcj,isInt,zvi]
 | int=>simp_arith [zav,zcj,isInt]
 | str=>simp_arith [zav,zcj,isInt]
 | tuple=>simp_arith [zav,zcj,isInt]
 | _=>cases k<;>simp [Sm]at h
theorem zcH{k:Nat}{d:D}{m:Int}(h:Sm k d):zah [.d d,.d (.int m)]=some (.d (.bool (zcN m d)),[.d d,.d (.int m)]):=by
 refine zax ?_
 have e:=zdN h
 cases d with
 | none=>simp_arith [zah,zcA,e,isInt,zcN]
 | int i =>
  simp_arith [zah,zcA,e,isInt,zcN]
  refine zb5 (fun c=>?_) (fun c=>?_)<;>simp_arith [c]
 | str=>simp_arith [zah,zcA,e,isInt,zcN]
 | tuple=>simp_arith [zah,zcA,e,isInt,zcN]
 | _=>cases k<;>simp [Sm]at h
theorem zm9(a b:Int):Int.gcd (if a < 0 then -a else a) b=Int.gcd a b:=by
 split
 ·exact Int.neg_gcd
 ·rfl
theorem zna{a b:D}(h:(isInt a && isInt b)=false):zcU (.tuple [a,b])=false:=by
 cases a<;>first | rfl | (cases b<;>first | rfl | cases h)
theorem zd8{k:Nat}{d:D}(h:Sm k d):zV [.d d]=some (.d (.bool (zcU d)),[.d d]):=by
 refine zax ?_
 cases d with
 | none=>simp_arith [zV,zaD,zcU,zgC]
 | int=>simp_arith [zV,zaD,zcU]
 | str=>simp_arith [zV,zaD,zcU]
 | tuple xs =>
  obtain⟨j,rfl,hl,hx⟩:=zgD h
  match xs,hx with
  | [],_=>simp_arith [zV,zaD,zcU]
  | [a],_ =>
   have e:zcU (.tuple [a])=false:=by cases a<;>rfl
   simp_arith [zV,zaD,e]
  | [a,b],hx =>
   have e1:=zdN (hx a (by simp))
   have e2:=zdN (hx b (by simp))
   simp_arith [zV,zaD,e1]
   cases h1:isInt a with
   | false=>simp_arith [zna (a:=a) (b:=b) (by rw [h1]; rfl)]
   | true =>
    simp_arith [e2]
    cases h2:isInt b with
    | false=>simp_arith [zna (a:=a) (b:=b) (by rw [h1,h2]; rfl)]
    | true =>
     cases a with
     | int a =>
      cases b with
      | int b =>
       simp_arith [zcU]
       refine zb5 (fun c=>?_) (fun c=>?_)
       ·have cf:=zfi (x:=if a < 0 then -a else a) (y:=b) (by split<;>omega) (by omega)
        rw [zm9]at cf
        have ec:decide (((Int.gcd a b:Nat):Int)=1)=decide (Int.gcd a b=1):=decide_eq_decide.mpr (by omega)
        simp_arith [c,cf,ec]
       ·simp_arith [c]
      | _=>cases h2
     | _=>cases h1
  | a::b::c::r,_ =>
   have e:zcU (.tuple (a::b::c::r))=false:=by cases a<;>first | rfl | (cases b<;>rfl)
   have l:¬((r.length+1+1+1:Nat):Int)=2:=by omega
   simp_arith [zV,zaD,e,l]
 | _=>cases k<;>simp [Sm]at h
end K31
open PySem L2
namespace K31
open PySem L2
theorem ziR{a b:Int}(ha:a.natAbs < 10^10)(hb:b.natAbs < 10^10):Nic 1 29 (.tuple [.int a,.int b]):=zeh (n:=2) (M:=11) (fun d hd=>by
 rcases List.mem_cons.mp hd with rfl | hd
 ·exact zeU ha
 ·rw [List.mem_singleton.mp hd]; exact zeU hb) (Nat.le_refl _)
theorem zpx{k:Nat}{a b:Int}(h:Sm k (.tuple [.int a,.int b])):a.natAbs < 10^10/\b.natAbs < 10^10:=by
 obtain⟨j,rfl,_,hx⟩:=zgD h
 have h1:=hx (.int a) (by simp)
 have h2:=hx (.int b) (by simp)
 cases j<;>exact⟨h1,h2⟩
theorem znb{f:D}(h:zcU f=true):∃ a b:Int,f=.tuple [.int a,.int b]/\1<=b/\Int.gcd a b=1:=by
 unfold zcU at h
 split at h
 ·rw [Bool.and_eq_true_iff]at h
  exact⟨_,_,rfl,of_decide_eq_true h.1,of_decide_eq_true h.2⟩
 ·cases h
theorem zvj{k:Nat}{f:D}(hs:Sm k f)(h:zcU f=true):zo1 false [0,1] (.d f)=some (.d (.bool (!nz f))):=by
 obtain⟨a,b,rfl,hb,hg⟩:=znb h
 obtain⟨ha,hb'⟩:=zpx hs
 have e:=(ziR ha hb').eqD (neg:=false) (ziR (a:=0) (b:=1) (by decide) (by decide)) (by decide) (by decide)
 have e2:zo1 false [0,1] (.d (.tuple [.int a,.int b]))=some (.d (.bool (PyData.eqv (.tuple [.int a,.int b]) (.tuple [.int 0,.int 1])))):=e
 rw [e2]
 have e3:PyData.eqv (.tuple [.int a,.int b]) (.tuple [.int 0,.int 1])=!nz (.tuple [.int a,.int b]):=by
  simp only [PyData.eqv,PyData.eqvAll,nz,Bool.and_true]
  by_cases z:a=0
  ·subst z
   have:b=1:=by
    rw [Int.gcd_zero_left]at hg
    omega
   subst this
   rfl
  ·simp [z]
 rw [e3]
def oI:Option Int->D
 | none=>.none
 | some k=>.int k
abbrev aL(hs:List Int):U:=.l (hs.map .int)
def zbE(hs:List Int)(told:Option Int)(b:Int):D->Option Int
 | .tuple [f,.int i]=>if(zcU f && (nz f && (zcN (hs.length:Int) (.int i) && (decide (b < i) && (match told with | none=>true | some t=>decide (hs.getD i.toNat 0=t))))))=true then some i else none
 | _=>none
def zep(hs:List Int):Option Int->Int->List D->Option Int
 | told,_,[]=>told
 | told,b,p::ps=>match zbE hs told b p with
  | none=>none
  | some i=>zep hs (some (hs.getD i.toNat 0)) i ps
def zeB(hs:List Int):D->Option Int
 | .tuple ps=>zep hs none (-1) ps
 | _=>none
def zgE(d:D):Prop:=Sm 0 d\/∃ ps,d=.tuple ps/\ps.length<=20/\∀ p∈ps,Sm 2 p
theorem zh0{hs:List Int}{i:Int}(h0:0<=i)(h1:i < (hs.length:Int)):atI (hs.map PyData.int) i=some (.int (hs.getD i.toNat 0)):=by
 have hi:i.toNat < hs.length:=by omega
 unfold atI ixN
 rw [if_pos h0,if_pos (by rw [List.length_map]; omega),bd,List.getElem?_map,List.getElem?_eq_getElem hi,List.getD_eq_getElem?_getD,List.getElem?_eq_getElem hi]
 rfl
theorem znc{hs:List Int}{told:Option Int}{b:Int}{xs:List D}(h:xs.length≠2):zbE hs told b (.tuple xs)=none:=by
 match xs,h with
 | [],_=>rfl
 | [_],_=>rfl
 | [_,_],h=>exact absurd rfl h
 | a::b::_::_,_=>cases b<;>rfl
theorem zeZ{m:Int}{d:D}(h:zcN m d=true):∃ i:Int,d=.int i/\0<=i/\i < m:=by
 unfold zcN at h
 split at h
 ·rw [Bool.and_eq_true_iff]at h
  exact⟨_,rfl,of_decide_eq_true h.1,of_decide_eq_true h.2⟩
 ·cases h
theorem zvk{t:Int}:zfA true (.d (.int t)) (.d .none)=some (.d (.bool true)):=rfl
theorem zvl:zfA true (.d .none) (.d .none)=some (.d (.bool false)):=rfl
theorem zgU{hs:List Int}{d:D}(h:zgE d):zaR [.d d,aL hs]=some (.d (oI (zeB hs d)),[.d d,aL hs]):=by
 refine zax ?_
 rcases h with h | ⟨ps,rfl,pl,hp⟩
 ·cases d with
  | none=>simp_arith [zaR,zbS,zgC,zeB,oI]
  | int=>simp_arith [zaR,zbS,zeB,oI]
  | str=>simp_arith [zaR,zbS,zeB,oI]
  | _=>simp [Sm]at h
 simp_arith [zaR,zbS]
 refine zeg (fun i ρ=>∃ (told:Option Int) (b:Int) (o4 o5 o6:Option U),ρ=[some (.d (.tuple ps)),some (aL hs),some (.d (oI told)),some (.d (.int b)),o4,o5,o6]/\zep hs none (-1) ps=zep hs told b (ps.drop i)) ⟨none,-1,none,none,none,rfl,by rw [List.drop_zero]⟩ ?_ ?_
 ·rintro i p _ hd ⟨told,b,o4,o5,o6,rfl,hg⟩
  have sp:=hp p (List.mem_of_getElem? hd)
  have dr:ps.drop i=p::ps.drop (i+1):=by
   obtain⟨hi,e⟩:=List.getElem?_eq_some_iff.mp hd
   rw [List.drop_eq_getElem_cons hi,e]
  rw [dr,zep]at hg
  have bad:zbE hs told b p=none->zeB hs (.tuple ps)=none:=fun e=>by rw [e]at hg; exact hg
  cases p with
  | none=>simp_arith [zgC,bad rfl,oI]
  | int=>simp_arith [bad rfl,oI]
  | str=>simp_arith [bad rfl,oI]
  | tuple xs =>
   obtain⟨j,ej,hl,hx⟩:=zgD sp
   cases ej
   by_cases l2:xs.length=2
   ·match xs,l2,hx,hg,bad with
    | [f,nd],_,hx,hg,bad =>
     have sf:=hx f (by simp)
     have sn:=hx nd (by simp)
     have ef:=zd8 sf
     have en:=zcH (m:=(hs.length:Int)) sn
     simp_arith [ef,List.length_map]
     cases h1:zcU f with
     | false =>
      have b1:zbE hs told b (.tuple [f,nd])=none:=by cases nd<;>first | rfl | simp [zbE,h1]
      simp_arith [bad b1,oI]
     | true =>
      simp_arith [zvj sf h1]
      cases h2:nz f with
      | false =>
       have b1:zbE hs told b (.tuple [f,nd])=none:=by cases nd<;>first | rfl | simp [zbE,h1,h2]
       simp_arith [bad b1,oI]
      | true =>
       simp_arith [en,List.length_map]
       cases h3:zcN (hs.length:Int) nd with
       | false =>
        have b1:zbE hs told b (.tuple [f,nd])=none:=by cases nd<;>first | rfl | simp [zbE,h1,h2,h3]
        simp_arith [bad b1,oI]
       | true =>
        obtain⟨i',rfl,i0,i1⟩:=zeZ h3
        simp_arith
        by_cases c:b < i'
        ·have c':¬i'<=b:=by omega
         simp_arith [c']
         cases told with
         | none =>
          have e:zbE hs none b (.tuple [f,.int i'])=some i':=by simp [zbE,h1,h2,h3,c]
          rw [e]at hg
          simp_arith [oI,zvl,zh0 i0 i1]
          exact⟨some _,_,_,_,_,rfl,hg⟩
         | some t =>
          simp_arith [oI,zvk,zh0 i0 i1]
          by_cases c2:hs.getD i'.toNat 0=t
          ·have e:zbE hs (some t) b (.tuple [f,.int i'])=some i':=by simp [zbE,h1,h2,h3,c,c2,-List.getD_eq_getElem?_getD]
           rw [e]at hg
           simp_arith [c2,zh0 i0 i1]
           replace hg:zep hs none (-1) ps=zep hs (some (hs.getD i'.toNat 0)) i' (ps.drop (i+1)):=hg
           rw [c2]at hg
           exact⟨some _,_,_,_,_,rfl,hg⟩
          ·have e:zbE hs (some t) b (.tuple [f,.int i'])=none:=by simp [zbE,h1,h2,h3,c,c2,-List.getD_eq_getElem?_getD]
           simp_arith [c2,bad e,oI]
        ·have c':i'<=b:=by omega
         have e:zbE hs told b (.tuple [f,.int i'])=none:=by simp [zbE,h1,h2,h3,c]
         simp_arith [c',bad e,oI]
   ·have l2':¬((xs.length:Nat):Int)=2:=by omega
    simp_arith [l2',bad (znc l2),oI]
  | _=>simp [Sm]at sp
 ·rintro _ ⟨told,b,o4,o5,o6,rfl,hg⟩
  rw [List.drop_length]at hg
  have e:zeB hs (.tuple ps)=told:=hg
  simp_arith [e]
def zb8(hs:List Int)(a b:D):Option Int :=
 match a,b with
 | .int i,.int j=>if(zcN (hs.length:Int) (.int i) && (zcN (hs.length:Int) (.int j) && decide (¬hs.getD i.toNat 0 < hs.getD j.toNat 0)))=true then some (hs.getD i.toNat 0+hs.getD j.toNat 0)else none
 | _,_=>none
theorem zfJ{k:Nat}{hs:List Int}{a b:D}(ha:Sm k a)(hb:Sm k b):zbo [.d a,.d b,aL hs]=some (.d (oI (zb8 hs a b)),[.d a,.d b,aL hs]):=by
 refine zax ?_
 have ea:=zcH (m:=(hs.length:Int)) ha
 have eb:=zcH (m:=(hs.length:Int)) hb
 simp_arith [zbo,zc8,ea,List.length_map]
 cases h1:zcN (hs.length:Int) a with
 | false =>
  have e:zb8 hs a b=none:=by cases a<;>first | rfl | (cases b<;>first | rfl | simp [zb8,h1])
  simp_arith [e,oI]
 | true =>
  simp_arith [eb,List.length_map]
  cases h2:zcN (hs.length:Int) b with
  | false =>
   have e:zb8 hs a b=none:=by cases a<;>first | rfl | (cases b<;>first | rfl | simp [zb8,h2])
   simp_arith [e,oI]
  | true =>
   obtain⟨i,rfl,i0,i1⟩:=zeZ h1
   obtain⟨j,rfl,j0,j1⟩:=zeZ h2
   simp_arith [zh0 i0 i1,zh0 j0 j1]
   by_cases c:hs.getD i.toNat 0 < hs.getD j.toNat 0
   ·have e:zb8 hs (.int i) (.int j)=none:=by simp [zb8,h1,h2,c,-List.getD_eq_getElem?_getD]
    simp_arith [c,e,oI]
   ·have e:zb8 hs (.int i) (.int j)=some (hs.getD i.toNat 0+hs.getD j.toNat 0):=by simp [zb8,h1,h2,c,-List.getD_eq_getElem?_getD]
    simp_arith [c,e,oI,zh0 i0 i1,zh0 j0 j1]
def zW(hs:List Int)(n:Int):D->Option Int
 | .tuple (.str w::r) =>
  if w=Str.ofString "letter" then match r with
   | [k]=>if zcN n k=true then some 1 else none
   | _=>none
  else if w=Str.ofString "mix" then match r with
   | [ps]=>zeB hs ps
   | _=>none
  else if w=Str.ofString "times" then match r with
   | [a,b]=>zb8 hs a b
   | _=>none
  else none
 | _=>none
def zfu(d:D):Prop:=Sm 0 d\/d=.tuple []\/∃ w r,d=.tuple (.str w::r)/\Asc 10 w/\r.length<=3/\∀ x∈r,zgE x/\(w≠Str.ofString "mix"->Sm 0 x)
theorem zgE.nic{d:D}(h:zgE d):Nic 3 200000 d:=by
 rcases h with h | ⟨ps,rfl,hl,hp⟩
 ·exact(h.nic).mono (by decide) (by decide)
 ·exact(zeh (n:=20) (k:=2) (M:=102 * 8^2) (fun d hd=>(hp d hd).nic) hl).mono (Nat.le_refl _) (by decide)
theorem zgF{hs:List Int}{n:Int}{d:D}(h:zfu d):zan [.d d,aL hs,.d (.int n)]=some (.d (oI (zW hs n d)),[.d d,aL hs,.d (.int n)]):=by
 refine zax ?_
 rcases h with h | rfl | ⟨w,r,rfl,hw,hl,hr⟩
 ·cases d with
  | none=>simp_arith [zan,zbe,zgC,zW,oI]
  | int=>simp_arith [zan,zbe,zW,oI]
  | str=>simp_arith [zan,zbe,zW,oI]
  | _=>simp [Sm]at h
 ·have e:zcR false (.d (.tuple [])) (.d (.tuple []))=some (.d (.bool true)):=rfl
  simp_arith [zan,zbe,e,zW,oI]
 ·have nw:Nic 4 1000000 (.tuple (.str w::r)):=(zeh (n:=4) (k:=3) (M:=200000) (fun d hd=>by
   rcases List.mem_cons.mp hd with rfl | hd
   ·exact(zfV hw).mono (by decide) (by decide)
   ·exact(hr d hd).1.nic) (by rw [List.length_cons]; omega)).mono (Nat.le_refl _) (by decide)
  have e:=nw.eqD (neg:=false) (zeh (n:=0) (k:=0) (M:=0) (ds:=[]) (fun d hd=>by cases hd) (Nat.le_refl _)) (by decide) (by decide)
  have e2:zcR false (.d (.tuple (.str w::r))) (.d (.tuple []))=some (.d (.bool false)):=e
  simp_arith [zan,zbe,e2]
  by_cases h1:w=Str.ofString "letter"
  ·subst h1
   match r,hr with
   | [],_=>simp_arith [zW,oI]
   | [k],hr =>
    have ek:=zcH (m:=n) ((hr k (by simp)).2 (by decide))
    simp_arith [ek,zW]
    cases zcN n k<;>simp_arith [oI]
   | a::b::r',_ =>
    have l:¬((r'.length+1+1+1:Nat):Int)=2:=by omega
    simp_arith [zW,oI,l]
  ·by_cases h2:w=Str.ofString "mix"
   ·subst h2
    match r,hr with
    | [],_=>simp_arith [zW,oI]
    | [ps],hr=>simp_arith [zgU (hs:=hs) (hr ps (by simp)).1,zW]
    | a::b::r',_ =>
     have l:¬((r'.length+1+1+1:Nat):Int)=2:=by omega
     simp_arith [zW,oI,l]
   ·by_cases h3:w=Str.ofString "times"
    ·subst h3
     match r,hr with
     | [],_=>simp_arith [zW,oI]
     | [a],_=>simp_arith [zW,oI]
     | [a,b],hr=>simp_arith [zfJ (hs:=hs) ((hr a (by simp)).2 (by decide)) ((hr b (by simp)).2 (by decide)),zW]
     | a::b::c::r',_ =>
      have l:¬((r'.length+1+1+1+1:Nat):Int)=3:=by omega
      simp_arith [zW,oI,l]
    ·simp_arith [h1,h2,h3,zW,oI]
end K31
open PySem L2
namespace K31
open PySem L2
def dAt(hs:List Int):D->Int
 | .int i=>hs.getD i.toNat 0
 | _=>0
def zdD(hs:List Int)(k:Int)(o:D):Bool:=zpw o || (zcN (hs.length:Int) o && decide (dAt hs o=k))
def zcD(hs:List Int):Nat->List D->Bool
 | _,[]=>true
 | k,o::os=>zdD hs (k:Int) o && zcD hs (k+1) os
def zcu(hs:List Int):D->Bool
 | .tuple [f,.tuple os]=>zcU f && zcD hs 1 os
 | _=>false
theorem zpy{hs:List Int}{xs:List D}(h:xs.length≠2):zcu hs (.tuple xs)=false:=by
 match xs,h with
 | [],_=>rfl
 | [_],_=>rfl
 | [_,_],h=>exact absurd rfl h
 | a::b::_::_,_=>cases b<;>rfl
theorem zlj{hs:List Int}{d:D}(h:Sm 2 d):zb7 [.d d,aL hs]=some (.d (.bool (zcu hs d)),[.d d,aL hs]):=by
 refine zax ?_
 cases d with
 | none=>simp_arith [zb7,zc9,zgC,zcu]
 | int=>simp_arith [zb7,zc9,zcu]
 | str=>simp_arith [zb7,zc9,zcu]
 | tuple xs =>
  obtain⟨j,ej,hl,hx⟩:=zgD h
  cases ej
  by_cases l2:xs.length=2
  ·match xs,l2,hx with
   | [f,t],_,hx =>
    have ef:=zd8 (hx f (by simp))
    have st:=hx t (by simp)
    simp_arith [zb7,zc9,ef]
    cases h1:zcU f with
    | false =>
     have e:zcu hs (.tuple [f,t])=false:=by cases t<;>first | rfl | (show(zcU f && _)=false; rw [h1]; rfl)
     simp_arith [e]
    | true =>
     simp_arith
     cases t with
     | none=>simp_arith [zgC,zcu]
     | int=>simp_arith [zcu]
     | str=>simp_arith [zcu]
     | tuple os =>
      obtain⟨j,ej,hl,ho⟩:=zgD st
      cases ej
      have T:zcu hs (.tuple [f,.tuple os])=zcD hs 1 os:=by show(zcU f && _)=_; rw [h1]; rfl
      rw [T]
      simp_arith
      refine zeg (fun i ρ=>∃ (o4 o5:Option U),ρ=[some (.d (.tuple [f,.tuple os])),some (aL hs),some (.d f),some (.d (.tuple os)),o4,o5]/\zcD hs 1 os=zcD hs (1+i) (os.drop i)) ⟨none,none,rfl,by rw [List.drop_zero]⟩ ?_ ?_
      ·rintro i d _ hd ⟨o4,o5,rfl,hg⟩
       obtain⟨o,eo,rfl⟩:=zcG hd
       have so:=ho o (List.mem_of_getElem? eo)
       have dr:os.drop i=o::os.drop (i+1):=by
        obtain⟨hi,e⟩:=List.getElem?_eq_some_iff.mp eo
        rw [List.drop_eq_getElem_cons hi,e]
       rw [dr,zcD]at hg
       have nx:zdD hs ((1+i:Nat):Int) o=true->zcD hs 1 os=zcD hs (1+(i+1)) (os.drop (i+1)):=fun e=>by rw [e,Bool.true_and]at hg; exact hg
       have bd':zdD hs ((1+i:Nat):Int) o=false->zcD hs 1 os=false:=fun e=>by rw [e,Bool.false_and]at hg; exact hg
       have ep:=zcH (m:=(hs.length:Int)) so
       cases o with
       | none =>
        simp_arith [zvl]
        exact⟨_,_,rfl,nx rfl⟩
       | int v =>
        simp_arith [zvk,ep,List.length_map]
        cases h2:zcN (hs.length:Int) (.int v)with
        | false=>simp_arith [bd' (by simp [zdD,zpw,h2])]
        | true =>
         obtain⟨v',ev,v0,v1⟩:=zeZ h2
         cases ev
         simp_arith [zh0 v0 v1]
         by_cases c:hs.getD v.toNat 0=((1+i:Nat):Int)
         ·simp_arith [c]
          exact⟨_,_,rfl,nx (by simp [zdD,zpw,h2,dAt,c,-List.getD_eq_getElem?_getD])⟩
         ·have b1:=bd' (by unfold zdD; rw [h2,show dAt hs (.int v)=hs.getD v.toNat 0 from rfl,decide_eq_false c]; rfl)
          simp_arith [c,b1]
       | str z =>
        have e1:zfA true (.d (.str z)) (.d .none)=some (.d (.bool true)):=rfl
        simp_arith [e1,ep,List.length_map,zcN,bd' (by simp [zdD,zpw,zcN])]
       | _=>simp [Sm]at so
      ·rintro _ ⟨o4,o5,rfl,hg⟩
       rw [zbK,List.drop_length]at hg
       simp_arith [hg,zcD]
     | _=>simp [Sm]at st
  ·have l2':¬((xs.length:Nat):Int)=2:=by omega
   simp_arith [zb7,zc9,l2',zpy l2]
 | _=>simp [Sm]at h
def zaK(n:Int):List Int->List D->Except Nat (List Int)
 | hs,[]=>.ok hs
 | hs,d::ds=>match zW hs n d with
  | none=>.error hs.length
  | some k=>zaK n (hs++[k]) ds
def zaw(ls:List Str)(nodes top:D):Option (Option Int) :=
 if za4 ls=true then match nodes with
  | .tuple ns=>match zaK ls.length [] ns with
   | .error i=>some (some (i:Int))
   | .ok hs=>if zcu hs top=true then none else some (some (ns.length:Int))
  | _=>some (some 0)
 else some none
def zd9(d:D):Prop:=Sm 0 d\/∃ ns,d=.tuple ns/\ns.length<=100/\∀ x∈ns,zfu x
abbrev xL:D:=.dict [(.none,.str "BadLetters")]
abbrev xN(k:Int):D:=.dict [(.none,.str "BadNode"),(.str "at",.int k)]
abbrev znd(ls:List Str)(nodes top:D):D:=.tuple [.tuple (ls.map .str),nodes,top]
def zea(N:D)(o:Option (Option Int)):(U×List U) ⊕ (D×List U):=match o with
 | none=>.inl (.d (.bool true),[.d N])
 | some none=>.inr (xL,[.d N])
 | some (some k)=>.inr (xN k,[.d N])
theorem ziS{ls:List Str}{nodes top:D}(hl:ls.length<=4)(hz:∀ z∈ls,Asc 10 z)(hn:zd9 nodes)(ht:Sm 2 top) :
  zcC [.d (znd ls nodes top)]=some (zea (znd ls nodes top) (zaw ls nodes top)):=by
 refine zax ?_
 simp_arith [zcC,zeA,zfI (n:=10) (by decide) hl hz]
 cases hk:za4 ls with
 | false=>simp_arith [zaw,hk,zea]
 | true =>
  simp_arith
  rcases hn with hs | ⟨ns,rfl,nl,hd⟩
  ·cases nodes with
   | none=>simp_arith [zgC,zaw,hk,zea]
   | int=>simp_arith [zaw,hk,zea]
   | str=>simp_arith [zaw,hk,zea]
   | _=>simp [Sm]at hs
  ·have on:zaw ls (.tuple ns) top=match zaK ls.length [] ns with
     | .error i=>some (some (i:Int))
     | .ok hs=>if zcu hs top=true then none else some (some (ns.length:Int)):=by
    unfold zaw
    rw [hk,if_pos rfl]
   rw [on]
   simp_arith
   refine zeg (fun i ρ=>∃ (hs:List Int) (v5 v6 v7:Option U),ρ=[some (.d (znd ls (.tuple ns) top)),some (.d (.tuple (ls.map .str))),some (.d (.tuple ns)),some (.d top),some (aL hs),v5,v6,v7]/\hs.length=i/\zaK ls.length [] ns=zaK ls.length hs (ns.drop i)) ⟨[],none,none,none,rfl,rfl,by rw [List.drop_zero]⟩ ?_ ?_
   ·rintro i d _ hd' ⟨hs,v5,v6,v7,rfl,hi,hg⟩
    obtain⟨x,er,rfl⟩:=zcG hd'
    have nd:=hd x (List.mem_of_getElem? er)
    have hlt:=(List.getElem?_eq_some_iff.mp er).1
    have dr:ns.drop i=x::ns.drop (i+1):=by
     obtain⟨hi,e⟩:=List.getElem?_eq_some_iff.mp er
     rw [List.drop_eq_getElem_cons hi,e]
    rw [dr,zaK]at hg
    subst hi
    simp_arith [List.length_map,zgF (hs:=hs) (n:=(ls.length:Int)) nd]
    cases hk2:zW hs (ls.length:Int) x with
    | none =>
     rw [hk2]at hg
     replace hg:zaK ls.length [] ns=.error hs.length:=hg
     have e0:zfA false (.d .none) (.d .none)=some (.d (.bool true)):=rfl
     simp_arith [oI,e0,hg,zea,Nat.zero_add]
    | some k =>
     rw [hk2]at hg
     replace hg:zaK ls.length [] ns=zaK ls.length (hs++[k]) (ns.drop (hs.length+1)):=hg
     have e1:zfA false (.d (.int k)) (.d .none)=some (.d (.bool false)):=rfl
     have e2:hs.map PyData.int++[.int k]=(hs++[k]).map .int:=by rw [List.map_append]; rfl
     simp_arith [oI,e1,e2]
     exact⟨_,_,_,_,rfl,by rw [List.length_append]; rfl,hg⟩
   ·rintro _ ⟨hs,v5,v6,v7,rfl,hi,hg⟩
    rw [zbK]at hi
    rw [zbK,List.drop_length]at hg
    replace hg:zaK ls.length [] ns=.ok hs:=hg
    rw [hg]
    simp_arith [zlj (hs:=hs) ht]
    cases zcu hs top with
    | true=>simp_arith [zea]
    | false=>simp_arith [zea]
theorem zne{k:Int}:zbA [.d (.int k)]=some (.d (.bool true),[.d (.int k)]):=by
 refine zax ?_
 simp_arith [zbA,zdn]
theorem uL:under zaJ "UndivideError" xL=true:=by kernel_rfl
theorem tL:zfq zaJ ["BadRow", "BadText", "BadWay", "NoName", "NoOver", "NoPaper", "NoRow", "NotPolynomial"] (.d xL)=some (.d (.bool false)):=by kernel_rfl
theorem t2L:zfq zaJ ["NotWhole", "OtherLetters", "TooMany"] (.d xL)=some (.d (.bool false)):=by kernel_rfl
theorem vL:zfB zaJ false "ValueError" (.d xL)=some (.d (.bool true)):=by kernel_rfl
theorem lL:zfB zaJ true "BadLetters" (.d xL)=some (.d (.bool true)):=by kernel_rfl
theorem rL:zfB zaJ true "BadNode" (.d xL)=some (.d (.bool false)):=by kernel_rfl
theorem uR(k:Int):under zaJ "UndivideError" (xN k)=true:=by kernel_rfl
theorem tR(k:Int):zfq zaJ ["BadRow", "BadText", "BadWay", "NoName", "NoOver", "NoPaper", "NoRow", "NotPolynomial"] (.d (xN k))=some (.d (.bool false)):=by kernel_rfl
theorem t2R(k:Int):zfq zaJ ["NotWhole", "OtherLetters", "TooMany"] (.d (xN k))=some (.d (.bool false)):=by kernel_rfl
theorem vR(k:Int):zfB zaJ false "ValueError" (.d (xN k))=some (.d (.bool true)):=by kernel_rfl
theorem lR(k:Int):zfB zaJ true "BadLetters" (.d (xN k))=some (.d (.bool false)):=by kernel_rfl
theorem fR(k:Int):ziu zaJ "at" (.d (xN k))=some (.d (.int k)):=by kernel_rfl
def zdS:Option (Option Int)->D
 | none=>.bool true
 | some none=>.tuple [.str "letters",.bool false]
 | some (some k)=>.tuple [.str "node",.int k]
theorem zpz{ls:List Str}{nodes top:D}(hl:ls.length<=4)(hz:∀ z∈ls,Asc 10 z)(hn:zd9 nodes)(ht:Sm 2 top) :
  zt [.d (znd ls nodes top)]=some (.d (zdS (zaw ls nodes top)),[.d (znd ls nodes top)]):=by
 refine zax ?_
 have e:=ziS hl hz hn ht
 cases h:zaw ls nodes top with
 | none =>
  rw [h]at e
  simp_arith [zt,zcr,e,zea,zdS]
 | some o =>
  cases o with
  | none =>
   rw [h]at e
   simp_arith [zt,zcr,e,zea,zdS,uL,tL,t2L,vL,lL,rL]
  | some k =>
   rw [h]at e
   simp_arith [zt,zcr,e,zea,zdS,uR,tR,t2R,vR,lR,fR,zne]
end K31
open PySem L2
namespace K31
open PySem L2
structure Fg (a b:Int):Prop where
 fr:zcU (.tuple [.int a,.int b])=true
 a0:a≠0
 ha:a.natAbs < 10^10
 hb:b.natAbs < 10^10
abbrev P3:=Int×Int×Nat
abbrev prD(p:P3):D:=.tuple [.tuple [.int p.1,.int p.2.1],.int (p.2.2:Int)]
inductive Nod where | lt (k:Nat) | mx (ps:List P3) | tm (i j:Nat)
def Nod.d:Nod->D
 | .lt k=>.tuple [.str "letter",.int (k:Int)]
 | .mx ps=>.tuple [.str "mix",.tuple (ps.map prD)]
 | .tm i j=>.tuple [.str "times",.int (i:Int),.int (j:Int)]
def zgG(n:Nat)(hs:List Int)(k:Int):Nod->Prop
 | .lt m=>m < n/\k=1
 | .mx ps=>ps≠[]/\ps.length<=20/\(∀ p∈ps,Fg p.1 p.2.1/\p.2.2 < hs.length/\hs.getD p.2.2 0=k)/\ps.Pairwise (fun p q=>p.2.2 < q.2.2)
 | .tm i j=>i < hs.length/\j < hs.length/\hs.getD j 0<=hs.getD i 0/\k=hs.getD i 0+hs.getD j 0
theorem zgH{m:Int}{i:Nat}(h:(i:Int) < m):zcN m (.int (i:Int))=true:=by
 show(decide ((0:Int)<=(i:Int)) && decide ((i:Int) < m))=true
 rw [decide_eq_true (show(0:Int)<=(i:Int) by omega),decide_eq_true h]
 rfl
theorem znf{hs:List Int}{told:Option Int}{b k:Int}{p:P3}(hp:Fg p.1 p.2.1/\p.2.2 < hs.length/\hs.getD p.2.2 0=k)(hb:b < (p.2.2:Int))(ht:told=some k\/told=none):zbE hs told b (prD p)=some (p.2.2:Int):=by
 obtain⟨h1,h2,h3⟩:=hp
 have e1:nz (.tuple [.int p.1,.int p.2.1])=true:=decide_eq_true h1.a0
 have e2:=zgH (m:=(hs.length:Int)) (i:=p.2.2) (by omega)
 show(if(zcU _ && (nz _ && (zcN _ _ && (decide (b < (p.2.2:Int)) && _))))=true then _ else _)=_
 rw [h1.fr,e1,e2,decide_eq_true hb]
 rcases ht with rfl | rfl
 ·show(if(true && (true && (true && (true && decide (hs.getD ((p.2.2:Int)).toNat 0=k)))))=true then _ else _)=_
  rw [Int.toNat_natCast,h3,decide_eq_true rfl]
  rfl
 ·rfl
theorem zkz{hs:List Int}{k:Int}:∀ (ps:List P3) (told:Option Int) (b:Int),(told=some k\/told=none/\ps≠[])->(∀ p∈ps,Fg p.1 p.2.1/\p.2.2 < hs.length/\hs.getD p.2.2 0=k)->(∀ p∈ps,b < (p.2.2:Int))->ps.Pairwise (fun p q=>p.2.2 < q.2.2)->zep hs told b (ps.map prD)=some k
 | [],told,b,ht,_,_,_=>by
  rcases ht with rfl | ⟨_,h⟩
  ·rfl
  ·exact absurd rfl h
 | p::ps,told,b,ht,hp,hb,hw=>by
  have h1:=hp p List.mem_cons_self
  rw [List.map_cons,zep,znf h1 (hb p List.mem_cons_self) (ht.imp id fun z=>z.1)]
  dsimp only
  rw [Int.toNat_natCast,h1.2.2]
  obtain⟨w1,w2⟩:=List.pairwise_cons.mp hw
  exact zkz ps _ _ (.inl rfl) (fun q hq=>hp q (List.mem_cons_of_mem _ hq)) (fun q hq=>by have:=w1 q hq; omega) w2
theorem zlk{n:Nat}{hs:List Int}{k:Int}{nod:Nod}(h:zgG n hs k nod):zW hs (n:Int) nod.d=some k:=by
 cases nod with
 | lt m =>
  obtain⟨h1,rfl⟩:=h
  show(if zcN (n:Int) (.int (m:Int))=true then some 1 else none)=_
  rw [zgH (by omega)]
  rfl
 | mx ps =>
  obtain⟨h1,_,h2,h3⟩:=h
  show zep hs none (-1) (ps.map prD)=_
  exact zkz ps none (-1) (.inr ⟨rfl,h1⟩) h2 (fun p hp=>by omega) h3
 | tm i j =>
  obtain⟨h1,h2,h3,rfl⟩:=h
  show(if(zcN _ (.int (i:Int)) && (zcN _ (.int (j:Int)) && decide (¬hs.getD ((i:Int)).toNat 0 < hs.getD ((j:Int)).toNat 0)))=true then some (hs.getD ((i:Int)).toNat 0+hs.getD ((j:Int)).toNat 0)else none)=_
  rw [zgH (by omega),zgH (by omega),Int.toNat_natCast,Int.toNat_natCast,decide_eq_true (show ¬hs.getD i 0 < hs.getD j 0 by omega)]
  rfl
theorem zpA{n:Nat}{hs:List Int}{k:Int}{nod:Nod}(hn:n<=100)(hl:hs.length<=100)(h:zgG n hs k nod):zfu nod.d:=by
 have sm:∀ {i:Nat},i < 101->Sm 0 (.int (i:Int)):=fun hi=>by show((_:Nat):Int).natAbs < 10^10; omega
 cases nod with
 | lt m =>
  refine .inr (.inr ⟨_,_,rfl,by unfold Asc; decide,by simp,fun x hx=>?_⟩)
  rw [List.mem_singleton.mp hx]
  have:=sm (i:=m) (by have:=h.1; omega)
  exact⟨.inl this,fun _=>this⟩
 | mx ps =>
  obtain⟨_,h1,h2,_⟩:=h
  refine .inr (.inr ⟨_,_,rfl,by unfold Asc; decide,by simp,fun x hx=>?_⟩)
  rw [List.mem_singleton.mp hx]
  refine⟨.inr ⟨_,rfl,by rw [List.length_map]; exact h1,fun q hq=>?_⟩,fun z=>absurd rfl z⟩
  obtain⟨p,hp,rfl⟩:=List.mem_map.mp hq
  obtain⟨f,g,_⟩:=h2 p hp
  refine⟨by simp,fun y hy=>?_⟩
  rcases List.mem_cons.mp hy with rfl | hy
  ·refine⟨by simp,fun z hz=>?_⟩
   rcases List.mem_cons.mp hz with rfl | hz
   ·exact f.ha
   ·rw [List.mem_singleton.mp hz]; exact f.hb
  ·rw [List.mem_singleton.mp hy]
   show((p.2.2:Nat):Int).natAbs < 10^10
   omega
 | tm i j =>
  obtain⟨h1,h2,_,_⟩:=h
  refine .inr (.inr ⟨_,_,rfl,by unfold Asc; decide,by simp,fun x hx=>?_⟩)
  rcases List.mem_cons.mp hx with rfl | hx
  ·have:=sm (i:=i) (by omega); exact⟨.inl this,fun _=>this⟩
  ·rw [List.mem_singleton.mp hx]
   have:=sm (i:=j) (by omega); exact⟨.inl this,fun _=>this⟩
structure GN (n:Nat) (ns:List Nod) (hs:List Int):Prop where
 ln:hs.length=ns.length
 ok:∀ i nod,ns[i]?=some nod->zgG n (hs.take i) (hs.getD i 0) nod
theorem ztd{α:Type}{xs:List α}{y z:α}{i:Nat}(h:i < xs.length):(xs++[y]).getD i z=xs.getD i z:=by
 rw [List.getD_eq_getElem?_getD,List.getD_eq_getElem?_getD,List.getElem?_append_left h]
theorem zte{α:Type}{xs:List α}{y z:α}:(xs++[y]).getD xs.length z=y:=by
 rw [List.getD_eq_getElem?_getD,List.getElem?_append_right (Nat.le_refl _),Nat.sub_self]
 rfl
theorem GN.snoc{n:Nat}{ns:List Nod}{hs:List Int}{k:Int}{nod:Nod}(h:GN n ns hs)(hk:zgG n hs k nod):GN n (ns++[nod]) (hs++[k]):=by
 refine⟨by rw [List.length_append,List.length_append,h.ln]; rfl,fun i x hi=>?_⟩
 rcases Nat.lt_or_ge i ns.length with c | c
 ·rw [List.getElem?_append_left c]at hi
  rw [List.take_append_of_le_length (by rw [h.ln]; omega),ztd (by rw [h.ln]; exact c)]
  exact h.ok i x hi
 ·have hlt:=(List.getElem?_eq_some_iff.mp hi).1
  rw [List.length_append,List.length_singleton]at hlt
  have e:i=ns.length:=by omega
  subst e
  rw [List.getElem?_append_right (Nat.le_refl _),Nat.sub_self]at hi
  cases hi
  rw [<-h.ln,List.take_left,zte]
  exact hk
theorem GN.take{n:Nat}{ns:List Nod}{hs:List Int}(h:GN n ns hs)(m:Nat):GN n (ns.take m) (hs.take m):=by
 refine⟨by rw [List.length_take,List.length_take,h.ln],fun i x hi=>?_⟩
 rw [List.getElem?_take]at hi
 split at hi
 ·rename_i c
  have:=h.ok i x hi
  rw [List.take_take,Nat.min_eq_left (by omega),List.getD_eq_getElem?_getD,List.getElem?_take,if_pos c,<-List.getD_eq_getElem?_getD]
  exact this
 ·cases hi
theorem GN.degs{n:Nat}{ns:List Nod}{hs:List Int}(h:GN n ns hs):zaK (n:Int) [] (ns.map Nod.d)=.ok hs:=by
 have main:∀ c m,m+c=ns.length->zaK (n:Int) (hs.take m) ((ns.map Nod.d).drop m)=.ok hs:=by
  intro c
  induction c with
  | zero =>
   intro m hm
   rw [List.drop_eq_nil_of_le (by rw [List.length_map]; omega),List.take_of_length_le (by rw [h.ln]; omega)]
   rfl
  | succ c ih =>
   intro m hm
   have hlt:m < ns.length:=by omega
   have e:=h.ok m _ (List.getElem?_eq_getElem hlt)
   rw [List.drop_eq_getElem_cons (by rw [List.length_map]; exact hlt),List.getElem_map,zaK,zlk e]
   have e2:hs.take m++[hs.getD m 0]=hs.take (m+1):=by
    rw [List.take_succ,List.getD_eq_getElem?_getD,List.getElem?_eq_getElem (show m < hs.length by rw [h.ln]; exact hlt)]
    rfl
   show zaK _ (hs.take m++[hs.getD m 0]) _=_
   rw [e2]
   exact ih (m+1) (by omega)
 exact main ns.length 0 (by omega)
theorem GN.nd{n:Nat}{ns:List Nod}{hs:List Int}(hn:n<=100)(hl:ns.length<=100)(h:GN n ns hs):∀ d∈ns.map Nod.d,zfu d:=fun d hd=>by
 obtain⟨x,hx,rfl⟩:=List.mem_map.mp hd
 obtain⟨i,hi,rfl⟩:=List.getElem_of_mem hx
 exact zpA hn (by rw [List.length_take]; have:=h.ln; omega) (h.ok i _ (List.getElem?_eq_getElem hi))
theorem ziT{n:Int}:∀ (xs ys:List D) (hs:List Int),zaK n hs (xs++ys)=match zaK n hs xs with | .ok h=>zaK n h ys | .error e=>.error e
 | [],_,_=>rfl
 | x::xs,ys,hs=>by
  rw [List.cons_append,zaK,zaK]
  cases zW hs n x with
  | none=>rfl
  | some k=>exact ziT xs ys _
theorem zng{n:Int}{xs ys:List D}{hs:List Int}{b:D}(h:zaK n [] xs=.ok hs)(hb:zW hs n b=none):zaK n [] (xs++b::ys)=.error hs.length:=by
 rw [ziT,h]
 show zaK n hs (b::ys)=_
 rw [zaK,hb]
end K31
open PySem L2
namespace K31
open PySem L2
theorem ziU{hs:List Int}{i:Nat}(h:i < hs.length):atI (hs.map PyData.int) (i:Int)=some (.int (hs.getD i 0)):=by
 have:=zh0 (hs:=hs) (i:=(i:Int)) (by omega) (by omega)
 rw [Int.toNat_natCast]at this
 exact this
theorem zhf{hs:List Int}{i:Nat}(h:i < hs.length):(hs.take i).map PyData.int++[.int (hs.getD i 0)]=(hs.take (i+1)).map .int:=by
 rw [List.take_succ,List.getD_eq_getElem?_getD,List.getElem?_eq_getElem h,List.map_append]
 rfl
abbrev hiB:MS:=zam (mB (mOp (zbH false) (mOp zbh (zf 2) (mC (.int 0))) (mC (.str "letter")))) (zbt (zc2 1 (mC (.int 1)))) (zam (mB (mOp (zbH false) (mOp zbh (zf 2) (mC (.int 0))) (mC (.str "mix")))) (zbt (zc2 1 (mOp zaG (zf 1) (mOp zbh (mOp zbh (mOp zbh (zf 2) (mC (.int 1))) (mC (.int 0))) (mC (.int 1)))))) (zbt (zc2 1 (mOp zb3 (mOp zaG (zf 1) (mOp zbh (zf 2) (mC (.int 1)))) (mOp zaG (zf 1) (mOp zbh (zf 2) (mC (.int 2))))))))
theorem znh{n:Nat}{hs:List Int}{k:Int}{nod:Nod}{o0:Option U}{Q:Fl->Prop}(hl:hs.length<=1000)(h:zgG n hs k nod)(q:Q (.nx [o0,some (.l (hs.map .int++[.int k])),some (.d nod.d)])):Wo (hiB [o0,some (aL hs),some (.d nod.d)]) Q:=by
 cases nod with
 | lt m =>
  obtain⟨_,rfl⟩:=h
  simp_arith [hiB,Nod.d,List.length_map]
  exact q
 | mx ps =>
  obtain⟨h1,h2,h3,_⟩:=h
  match ps,h1,h3 with
  | p::ps,_,h3 =>
   obtain⟨_,a,b⟩:=h3 p List.mem_cons_self
   simp_arith [hiB,Nod.d,List.map_cons,ziU a,b,List.length_map]
   exact q
 | tm i j =>
  obtain⟨h1,h2,_,rfl⟩:=h
  simp_arith [hiB,Nod.d,ziU h1,ziU h2,List.length_map]
  exact q
theorem zpB{n:Nat}{ns:List Nod}{hs:List Int}(hl:ns.length<=1000)(h:GN n ns hs):zaC [.l (ns.map Nod.d)]=some (aL hs,[.l (ns.map Nod.d)]):=by
 refine zax ?_
 have ln:=h.ln
 simp_arith [zaC,zcT]
 rw [zs7 rfl]
 refine zm2 (fun i ρ=>∃ o2,ρ=[some (.l (ns.map Nod.d)),some (aL (hs.take i)),o2]) ⟨none,rfl⟩ (fun i ρ ⟨o2,e⟩=>by rw [e]; rfl) ?_ ?_
 ·rintro i d _ hd ⟨o2,rfl⟩
  rw [List.getElem?_map]at hd
  obtain⟨nod,en,rfl⟩:=Option.map_eq_some_iff.mp hd
  have hi:=(List.getElem?_eq_some_iff.mp en).1
  refine⟨_,rfl,znh (by rw [List.length_take]; omega) (h.ok i nod en) ?_⟩
  rw [zhf (by omega)]
  exact⟨_,rfl⟩
 ·rintro _ ⟨o2,rfl⟩
  rw [List.length_map,<-ln,List.take_length]
  simp_arith
theorem ztf{n:Nat}{ns:List Nod}{hs:List Int}(hl:ns.length<=1000)(h:GN n ns hs):zaC [.d (.tuple (ns.map Nod.d))]=some (aL hs,[.d (.tuple (ns.map Nod.d))]):=by
 refine zax ?_
 have ln:=h.ln
 simp_arith [zaC,zcT]
 rw [zs8 rfl]
 refine zeg (fun i ρ=>∃ o2,ρ=[some (.d (.tuple (ns.map Nod.d))),some (aL (hs.take i)),o2]) ⟨none,rfl⟩ ?_ ?_
 ·rintro i d _ hd ⟨o2,rfl⟩
  rw [List.getElem?_map]at hd
  obtain⟨nod,en,rfl⟩:=Option.map_eq_some_iff.mp hd
  have hi:=(List.getElem?_eq_some_iff.mp en).1
  refine⟨_,rfl,znh (by rw [List.length_take]; omega) (h.ok i nod en) ?_⟩
  rw [zhf (by omega)]
  exact⟨_,rfl⟩
 ·rintro _ ⟨o2,rfl⟩
  rw [List.length_map,<-ln,List.take_length]
  simp_arith
theorem zvm{a b:Int}(h:zkv a b)(a0:a≠0):Fg a b:=by
 obtain⟨h1,h2,h3,h4⟩:=h
 refine⟨?_,a0,by omega,by omega⟩
 show(decide (1<=b) && decide (Int.gcd a b=1))=true
 rw [decide_eq_true h2,decide_eq_true h4]
 rfl
theorem ziV{x y:Int}{Q:U×List U->Prop}(k:∀ a b x' y',Fg a b->Q (.d (.tuple [.int a,.int b]),[bx x' y'])):Wo (zbp [bx x y]) Q:=by
 simp_arith [zbp,zda]
 refine ziN fun a b x' y' h=>?_
 simp_arith
 refine zb5 (fun c=>?_) (fun c=>?_)
 ·simp_arith [c]
  exact k 3 2 _ _ ⟨by decide,by decide,by decide,by decide⟩
 ·simp_arith [c]
  exact k a b _ _ (zvm h c)
theorem zqj{x y:Int}{n:Nat}{ns:List Nod}{hs:List Int}{i:Nat}{Q:U×List U->Prop}(hl:ns.length<=20)(hi:i < ns.length)(h:GN n ns hs)
  (k:∀ ps x' y',zgG n hs (hs.getD i 0) (.mx ps)->Q (.d (Nod.mx ps).d,[bx x' y',.l (ns.map Nod.d),aL hs,.d (.int (i:Int))])):Wo (zcl [bx x y,.l (ns.map Nod.d),aL hs,.d (.int (i:Int))]) Q:=by
 have ln:=h.ln
 simp_arith [zcl,zd6,List.length_map]
 refine zkq (fun m ρ=>∃ (x y:Int) (ps:List P3) (o5:Option U),ρ=[some (bx x y),some (.l (ns.map Nod.d)),some (aL hs),some (.d (.int (i:Int))),some (.l (ps.map prD)),o5]/\ps.length<=m/\(i < m->ps≠[])/\(∀ p∈ps,Fg p.1 p.2.1/\p.2.2 < hs.length/\hs.getD p.2.2 0=hs.getD i 0)/\(∀ p∈ps,p.2.2 < m)/\ps.Pairwise (fun p q=>p.2.2 < q.2.2)) ⟨_,_,[],_,rfl,Nat.le_refl _,fun z=>absurd z (Nat.not_lt_zero _),fun p hp=>(by cases hp),fun p hp=>(by cases hp),.nil⟩ ?_ ?_
 ·rintro m _ hm ⟨x,y,ps,o5,rfl,h1,h2,h3,h4,h5⟩
  have hm':m < hs.length:=by omega
  have skip:∀ {x y:Int} {o5:Option U},m≠i->∃ (x' y':Int) (ps':List P3) (o5':Option U),([some (bx x y),some (.l (ns.map Nod.d)),some (aL hs),some (.d (.int (i:Int))),some (.l (ps.map prD)),o5]:En)=[some (bx x' y'),some (.l (ns.map Nod.d)),some (aL hs),some (.d (.int (i:Int))),some (.l (ps'.map prD)),o5']/\ps'.length<=m+1/\(i < m+1->ps'≠[])/\(∀ p∈ps',Fg p.1 p.2.1/\p.2.2 < hs.length/\hs.getD p.2.2 0=hs.getD i 0)/\(∀ p∈ps',p.2.2 < m+1)/\ps'.Pairwise (fun p q=>p.2.2 < q.2.2):=fun{x y o5} hne=>⟨x,y,ps,o5,rfl,by omega,fun z=>h2 (by omega),h3,fun p hp=>by have:=h4 p hp; omega,h5⟩
  have put:∀ {a b x y:Int} {o5:Option U},Fg a b->hs.getD m 0=hs.getD i 0->∃ (x' y':Int) (ps':List P3) (o5':Option U),([some (bx x y),some (.l (ns.map Nod.d)),some (aL hs),some (.d (.int (i:Int))),some (.l (ps.map prD++[prD (a,b,m)])),o5]:En)=[some (bx x' y'),some (.l (ns.map Nod.d)),some (aL hs),some (.d (.int (i:Int))),some (.l (ps'.map prD)),o5']/\ps'.length<=m+1/\(i < m+1->ps'≠[])/\(∀ p∈ps',Fg p.1 p.2.1/\p.2.2 < hs.length/\hs.getD p.2.2 0=hs.getD i 0)/\(∀ p∈ps',p.2.2 < m+1)/\ps'.Pairwise (fun p q=>p.2.2 < q.2.2):=fun{a b x y o5} hf he=>⟨x,y,ps++[(a,b,m)],o5,by rw [List.map_append]; rfl,by rw [List.length_append,List.length_singleton]; omega,fun _=>by simp,fun p hp=>by
    rcases List.mem_append.mp hp with z | z
    ·exact h3 p z
    ·rw [List.mem_singleton.mp z]; exact⟨hf,hm',he⟩,fun p hp=>by
    rcases List.mem_append.mp hp with z | z
    ·have:=h4 p z; omega
    ·rw [List.mem_singleton.mp z]; exact Nat.lt_succ_self m,List.pairwise_append.mpr ⟨h5,List.pairwise_singleton _ _,fun p hp q hq=>by rw [List.mem_singleton.mp hq]; exact h4 p hp⟩⟩
  have am:=ziU hm'
  have ai:=ziU (hs:=hs) (i:=i) (by omega)
  by_cases c:hs.getD m 0=hs.getD i 0
  ·simp_arith [Int.zero_add,am,ai,c]
   by_cases c2:(m:Int)=(i:Int)
   ·simp_arith [c2]
    refine ziV fun a b x2 y2 hf=>?_
    simp_arith
    have:=put (a:=a) (b:=b) (x:=x2) (y:=y2) (o5:=some (.d (.int (i:Int)))) hf c
    rw [show prD (a,b,m)=.tuple [.tuple [.int a,.int b],.int (i:Int)] by rw [<-c2]]at this
    exact this
   ·simp_arith [c2]
    refine zat (by decide) (by decide) fun r x2 y2 r0 r1=>?_
    simp_arith
    refine zb5 (fun c3=>?_) (fun c3=>?_)
    ·simp_arith
     refine ziV fun a b x3 y3 hf=>?_
     simp_arith
     exact put hf c
    ·simp_arith
     exact skip (fun z=>c2 (by rw [z]))
  ·simp_arith [Int.zero_add,am,ai,c]
   exact skip (fun z=>c (by rw [z]))
 ·rintro _ ⟨x,y,ps,o5,rfl,h1,h2,h3,h4,h5⟩
  simp_arith
  refine k ps _ _ ⟨h2 (by omega),by omega,h3,h5⟩
end K31
open PySem L2
namespace K31
open PySem L2
theorem zpC{a b:Int}{z:D}(h:z∈[PyData.int a,.int b]):∃ c,z=.int c/\(c=a\/c=b):=by
 rcases List.mem_cons.mp h with rfl | h
 ·exact⟨a,rfl,.inl rfl⟩
 ·rw [List.mem_singleton.mp h]; exact⟨b,rfl,.inr rfl⟩
theorem zh1{x y:Int}{N:Nat}{Q:U×List U->Prop}(hN:0 < N)(hM:N<=1000)(k:∀ (r:Nat) x' y',r < N->Q (.d (.int (r:Int)),[bx x' y',.d (.int (N:Int))])):Wo (zn [bx x y,.d (.int (N:Int))]) Q :=
 zat (by omega) (by omega) fun r x' y' h0 h1=>by
  obtain⟨q,rfl⟩:=Int.eq_ofNat_of_zero_le h0
  exact k q x' y' (by omega)
theorem zv5{c:Int}{r N:Nat}(hN:0 < N)(h1:r < N)(hc:c=(N:Int) - 1\/c=(r:Int)):∃ p:Nat,c=(p:Int)/\p < N:=⟨c.toNat,by omega,by omega⟩
theorem zpD{x y:Int}{n:Nat}{ns0:List Nod}{hs0:List Int}{most:Int}{Q:U×List U->Prop}(n1:1<=n)(n3:n<=3)(m0:0<=most)(m8:most<=8)(h4:ns0.length=4)(h0:GN n ns0 hs0)
  (k:∀ ns hs x' y',GN n ns hs->ns.length<=12->(∃ r,hs=hs0++r)->Q (.d (.tuple (ns.map Nod.d)),[bx x' y',.d (.int (n:Int)),.d (.tuple (ns0.map Nod.d)),.d (.int most),.d (.int 6)])) :
  Wo (zbf [bx x y,.d (.int (n:Int)),.d (.tuple (ns0.map Nod.d)),.d (.int most),.d (.int 6)]) Q:=by
 simp_arith [zbf,zdq,show zl7 (.d (.tuple (ns0.map Nod.d)))=some (.l (ns0.map Nod.d)) from rfl,zpB (by omega) h0]
 refine zkq (fun i ρ=>∃ (x y:Int) (ns:List Nod) (hs:List Int) (o7 o8 o9 o10:Option U),ρ=[some (bx x y),some (.d (.int (n:Int))),some (.d (.tuple (ns0.map Nod.d))),some (.d (.int most)),some (.d (.int 6)),some (.l (ns.map Nod.d)),some (aL hs),o7,o8,o9,o10]/\GN n ns hs/\4<=ns.length/\ns.length<=4+i/\∃ r,hs=hs0++r) ⟨_,_,ns0,hs0,_,_,_,_,rfl,h0,by omega,by omega,[],by rw [List.append_nil]⟩ ?_ ?_
 ·rintro i _ hi ⟨x,y,ns,hs,o7,o8,o9,o10,rfl,hG,l4,ll,r0,hr⟩
  have ln:=hG.ln
  have lN:(List.map Nod.d ns).length=ns.length:=List.length_map _
  have lz:¬((ns.length:Nat):Int)=0:=by omega
  have fin:∀ {nod:Nod} {kk x y:Int} {o7 o8 o9 o10:Option U},zgG n hs kk nod->∃ (x' y':Int) (ns':List Nod) (hs':List Int) (o7' o8' o9' o10':Option U),([some (bx x y),some (.d (.int (n:Int))),some (.d (.tuple (ns0.map Nod.d))),some (.d (.int most)),some (.d (.int 6)),some (.l (ns.map Nod.d++[nod.d])),some (.l (hs.map .int++[.int kk])),o7,o8,o9,o10]:En)=[some (bx x' y'),some (.d (.int (n:Int))),some (.d (.tuple (ns0.map Nod.d))),some (.d (.int most)),some (.d (.int 6)),some (.l (ns'.map Nod.d)),some (aL hs'),o7',o8',o9',o10']/\GN n ns' hs'/\4<=ns'.length/\ns'.length<=4+(i+1)/\∃ r,hs'=hs0++r:=fun{nod kk x y o7 o8 o9 o10} hk=>⟨x,y,ns++[nod],hs++[kk],o7,o8,o9,o10,by rw [List.map_append,aL,List.map_append]; rfl,hG.snoc hk,by rw [List.length_append]; omega,by rw [List.length_append,List.length_singleton]; omega,r0++[kk],by rw [hr,List.append_assoc]⟩
  simp_arith
  refine zat (by decide) (by decide) fun w x1 y1 w0 w1=>?_
  simp_arith [lN,lz]
  refine zb5 (fun c=>?_) (fun c=>?_)
  ·simp_arith
   refine zh1 n1 (by omega) fun q x2 y2 hq=>?_
   simp_arith [List.length_map]
   exact fin (nod:=.lt q) (kk:=1) ⟨hq,rfl⟩
  ·simp_arith [lN]
   refine zh1 (by omega) (by omega) fun r5 x5 y5 h5=>?_
   simp_arith
   refine zat (by decide) (by decide) fun r6 x6 y6 a6 b6=>?_
   simp_arith
   refine zez a6 b6 fun z hz=>?_
   obtain⟨c',rfl,hc⟩:=zpC hz
   obtain⟨p,rfl,hp⟩:=zv5 (by omega) h5 hc
   simp_arith [lN]
   refine zh1 (by omega) (by omega) fun q x7 y7 hq=>?_
   have ap:=ziU (hs:=hs) (i:=p) (by omega)
   have aq:=ziU (hs:=hs) (i:=q) (by omega)
   by_cases c3:w < 3
   ·simp_arith [c3]
    refine zqj (by omega) hp hG fun ps x8 y8 hk=>?_
    simp_arith [ap,List.length_map]
    exact fin hk
   ·simp_arith [c3,ap,aq]
    refine zb5 (fun c4=>?_) (fun c4=>?_)
    ·simp_arith
     refine zqj (by omega) hp hG fun ps x8 y8 hk=>?_
     simp_arith [ap,List.length_map]
     exact fin hk
    ·by_cases c5:hs.getD p 0 < hs.getD q 0
     ·simp_arith [ap,aq,c5,List.length_map]
      exact fin (nod:=.tm q p) (kk:=hs.getD p 0+hs.getD q 0) ⟨by omega,by omega,by omega,by omega⟩
     ·simp_arith [ap,aq,c5,List.length_map]
      exact fin (nod:=.tm p q) (kk:=hs.getD p 0+hs.getD q 0) ⟨by omega,by omega,by omega,rfl⟩
 ·rintro _ ⟨x,y,ns,hs,o7,o8,o9,o10,rfl,hG,l4,ll,hr⟩
  simp_arith
  exact k ns hs _ _ hG (by omega) hr
end K31
open PySem L2
namespace K31
open PySem L2
theorem zni{hs:List Int}:∀ (os:List D) (k:Nat),(∀ j o,os[j]?=some o->zdD hs ((k+j:Nat):Int) o=true)->zcD hs k os=true
 | [],_,_=>rfl
 | o::os,k,h=>by
  have h0:=h 0 o rfl
  rw [Nat.add_zero]at h0
  rw [zcD,h0,Bool.true_and]
  exact zni os (k+1) fun j o' e=>by
   have:=h (j+1) o' e
   rw [show k+(j+1)=k+1+j by omega]at this
   exact this
structure TG (hs:List Int) (t:D):Prop where
 ok:zcu hs t=true
 sm:Sm 2 t
 ex:∃ f os,t=.tuple [f,os]/\zcU f=true/\Sm 1 f
theorem zvn{x y:Int}{n:Nat}{ns:List Nod}{hs:List Int}{Q:U×List U->Prop}(hl:ns.length<=12)(h:GN n ns hs)
  (k:∀ t x' y',TG hs t->Q (.d t,[bx x' y',.d (.tuple (ns.map Nod.d)),.d (.int 4)])):Wo (zbI [bx x y,.d (.tuple (ns.map Nod.d)),.d (.int 4)]) Q:=by
 have ln:=h.ln
 have lN:(List.map Nod.d ns).length=ns.length:=List.length_map _
 simp_arith [zbI,zd5,ztf (by omega) h]
 refine zeg (fun i ρ=>∃ (x y:Int) (os:List D) (o5 o6 o7:Option U),ρ=[some (bx x y),some (.d (.tuple (ns.map Nod.d))),some (.d (.int 4)),some (aL hs),some (.l os),o5,o6,o7]/\os.length=i/\∀ j o,os[j]?=some o->zdD hs ((1+j:Nat):Int) o=true/\Sm 0 o) ⟨_,_,[],_,_,_,rfl,rfl,fun j o e=>by cases e⟩ ?_ ?_
 ·rintro i d _ hd ⟨x,y,os,o5,o6,o7,rfl,ho,hO⟩
  obtain⟨hi,rfl⟩:=zfb hd
  have fin:∀ {o:D} {x y:Int} {o5 o6 o7:Option U},zdD hs ((1+i:Nat):Int) o=true->Sm 0 o->∃ (x' y':Int) (os':List D) (o5' o6' o7':Option U),([some (bx x y),some (.d (.tuple (ns.map Nod.d))),some (.d (.int 4)),some (aL hs),some (.l (os++[o])),o5,o6,o7]:En)=[some (bx x' y'),some (.d (.tuple (ns.map Nod.d))),some (.d (.int 4)),some (aL hs),some (.l os'),o5',o6',o7']/\os'.length=i+1/\∀ j o,os'[j]?=some o->zdD hs ((1+j:Nat):Int) o=true/\Sm 0 o:=fun{o x y o5 o6 o7} h1 h2=>⟨x,y,os++[o],o5,o6,o7,rfl,by rw [List.length_append,ho]; rfl,fun j o' e=>by
   rcases Nat.lt_or_ge j os.length with z | z
   ·rw [List.getElem?_append_left z]at e
    exact hO j o' e
   ·have hlt:=(List.getElem?_eq_some_iff.mp e).1
    rw [List.length_append,List.length_singleton]at hlt
    have ej:j=os.length:=by omega
    subst ej
    rw [List.getElem?_append_right (Nat.le_refl _),Nat.sub_self]at e
    cases e
    rw [ho]
    exact⟨h1,h2⟩⟩
  have good:∀ {m:Nat},m < hs.length->hs.getD m 0=1+(i:Int)->zdD hs ((1+i:Nat):Int) (.int (m:Int))=true/\Sm 0 (.int (m:Int)):=fun{m} h1 h2=>⟨by
   show(false || (zcN _ _ && decide (hs.getD ((m:Int)).toNat 0=_)))=true
   rw [zgH (by omega),Int.toNat_natCast,h2,decide_eq_true (by omega)]
   rfl,by show((m:Nat):Int).natAbs < 10^10; omega⟩
  simp_arith [lN]
  refine zkr (fun m ρ ys=>∃ is:List Nat,ρ=[none,some (aL hs),some (.d (.int (1+(i:Int))))]/\ys=is.map (fun m:Nat=>PyData.int (m:Int))/\is.length<=m/\∀ m∈is,m < hs.length/\hs.getD m 0=1+(i:Int)) (by rw [zsR]; omega) ⟨[],rfl,rfl,Nat.le_refl _,fun m hm=>by cases hm⟩ ?_ ?_ ?_
  ·rintro m _ _ ⟨is,rfl,rfl,hl,_⟩
   rw [List.length_map]; exact hl
  ·rintro m _ _ hm ⟨is,rfl,rfl,hl,hI⟩
   have am:=ziU (hs:=hs) (i:=m) (by omega)
   by_cases c:hs.getD m 0=1+(i:Int)
   ·simp_arith [Int.zero_add,am,c]
    exact⟨is++[m],by rw [List.map_append]; rfl,by rw [List.length_append,List.length_singleton]; omega,fun j hj=>by
     rcases List.mem_append.mp hj with z | z
     ·exact hI j z
     ·rw [List.mem_singleton.mp z]; exact⟨by omega,c⟩⟩
   ·simp_arith [Int.zero_add,am,c]
    exact⟨is,rfl,by omega,hI⟩
  ·rintro _ _ ⟨is,rfl,rfl,hl,hI⟩
   have lI:(is.map (fun m:Nat=>PyData.int (m:Int))).length=is.length:=List.length_map _
   simp_arith
   refine zat (by decide) (by decide) fun w x1 y1 w0 w1=>?_
   by_cases c:((is.length:Nat):Int)=0
   ·simp_arith [lI,c]
    exact fin rfl trivial
   ·simp_arith [lI,c]
    refine zb5 (fun c2=>?_) (fun c2=>?_)
    ·simp_arith
     exact fin rfl trivial
    ·simp_arith
     refine zb5 (fun c3=>?_) (fun c3=>?_)
     ·have last:∃ m∈is,atI (is.map (fun m:Nat=>PyData.int (m:Int))) (-1)=some (.int (m:Int)):=by
       have hp:is.length - 1 < is.length:=by omega
       refine⟨is[is.length - 1],List.getElem_mem hp,?_⟩
       unfold atI ixN
       rw [if_neg (by decide)]
       rw [List.length_map,if_pos (by omega),bd,show(-1+(is.length:Int)).toNat=is.length - 1 by omega,List.getElem?_map,List.getElem?_eq_getElem hp]
       rfl
      obtain⟨m,hm,em⟩:=last
      simp_arith [em]
      exact fin (good (hI m hm).1 (hI m hm).2).1 (good (hI m hm).1 (hI m hm).2).2
     ·simp_arith [lI]
      refine zh1 (by omega) (by omega) fun q x2 y2 hq=>?_
      simp_arith
      refine zjy (f:=fun m:Nat=>PyData.int (m:Int)) (xs:=is) (by omega) (by omega) fun m hm _=>?_
      simp_arith
      exact fin (good (hI m hm).1 (hI m hm).2).1 (good (hI m hm).1 (hI m hm).2).2
 ·rintro _ ⟨x,y,os,o5,o6,o7,rfl,ho,hO⟩
  rw [zev]at ho
  simp_arith
  refine ziN fun a b x1 y1 hab=>?_
  simp_arith
  refine zat (by decide) (by decide) fun r x2 y2 r0 r1=>?_
  simp_arith
  refine zat (by decide) (by decide) fun r2 x3 y3 r3 r4=>?_
  have ct:zdd os none (some (r * 4+r2))=os.take (r * 4+r2).toNat:=zhM (by omega)
  have lt:(os.take (r * 4+r2).toNat).length<=4:=by rw [List.length_take]; omega
  simp_arith [ct]
  have hT:∀ j o,(os.take (r * 4+r2).toNat)[j]?=some o->zdD hs ((1+j:Nat):Int) o=true/\Sm 0 o:=fun j o e=>by
   rw [List.getElem?_take]at e
   split at e
   ·exact hO j o e
   ·cases e
  generalize os.take (r * 4+r2).toNat=os' at *
  have fr:zcU (.tuple [.int a,.int b])=true:=by
   obtain⟨h1,h2,h3,h4⟩:=hab
   show(decide (1<=b) && decide (Int.gcd a b=1))=true
   rw [decide_eq_true h2,decide_eq_true h4]
   rfl
  have sf:Sm 1 (.tuple [.int a,.int b]):=by
   obtain⟨h1,h2,h3,h4⟩:=hab
   refine⟨by simp,fun z hz=>?_⟩
   rcases List.mem_cons.mp hz with rfl | hz
   ·show a.natAbs < 10^10; omega
   ·rw [List.mem_singleton.mp hz]; show b.natAbs < 10^10; omega
  refine k _ _ _ ⟨?_,⟨by simp,fun z hz=>?_⟩,_,_,rfl,fr,sf⟩
  ·show(zcU _ && zcD hs 1 os')=true
   rw [fr,zni os' 1 fun j o e=>(hT j o e).1]
   rfl
  ·rcases List.mem_cons.mp hz with rfl | hz
   ·exact sf
   ·rw [List.mem_singleton.mp hz]
    refine⟨lt,fun o ho'=>?_⟩
    obtain⟨j,hj,rfl⟩:=List.getElem_of_mem ho'
    exact(hT j _ (List.getElem?_eq_getElem hj)).2
end K31
open PySem L2
namespace K31
open PySem L2
def zll(z:Str):Bool:=decide (z.length<=10) && z.cps.toList.all (fun c=>decide (c < 128))
theorem zej{z:Str}(h:zll z=true):Asc 10 z:=by
 unfold zll at h
 rw [Bool.and_eq_true_iff]at h
 exact⟨of_decide_eq_true h.1,fun c hc=>of_decide_eq_true (List.all_eq_true.mp h.2 c hc)⟩
def smB:Nat->D->Bool
 | 0,.none=>true
 | 0,.int i=>decide (i.natAbs < 10^10)
 | 0,.str z=>zll z
 | 0,_=>false
 | _+1,.none=>true
 | _+1,.int i=>decide (i.natAbs < 10^10)
 | _+1,.str z=>zll z
 | k+1,.tuple xs=>decide (xs.length<=4) && xs.all (fun x=>smB k x)
 | _+1,_=>false
theorem zdb:∀ {k:Nat} {d:D},smB k d=true->Sm k d
 | 0,.none,_=>trivial
 | 0,.int i,h=>show i.natAbs < 10^10 from of_decide_eq_true h
 | 0,.str z,h=>zej h
 | _+1,.none,_=>trivial
 | _+1,.int i,h=>show i.natAbs < 10^10 from of_decide_eq_true h
 | _+1,.str z,h=>zej h
 | k+1,.tuple xs,h=>by
  rw [smB,Bool.and_eq_true_iff]at h
  exact⟨of_decide_eq_true h.1,fun x hx=>zdb (List.all_eq_true.mp h.2 x hx)⟩
def zjH(d:D):Bool:=smB 0 d || (match d with
 | .tuple ps=>decide (ps.length<=20) && ps.all (fun x=>smB 2 x)
 | _=>false)
theorem zlm{d:D}(h:zjH d=true):zgE d:=by
 unfold zjH at h
 rcases Bool.or_eq_true_iff.mp h with h | h
 ·exact .inl (zdb h)
 ·split at h
  ·rw [Bool.and_eq_true_iff]at h
   exact .inr ⟨_,rfl,of_decide_eq_true h.1,fun x hx=>zdb (List.all_eq_true.mp h.2 x hx)⟩
  ·cases h
def znj(d:D):Bool:=smB 0 d || (match d with
 | .tuple []=>true
 | .tuple (.str w::r)=>zll w && (decide (r.length<=3) && r.all (fun x=>zjH x && (decide (w=Str.ofString "mix") || smB 0 x)))
 | _=>false)
theorem znk{d:D}(h:znj d=true):zfu d:=by
 unfold znj at h
 rcases Bool.or_eq_true_iff.mp h with h | h
 ·exact .inl (zdb h)
 ·split at h
  ·exact .inr (.inl rfl)
  ·rw [Bool.and_eq_true_iff,Bool.and_eq_true_iff]at h
   refine .inr (.inr ⟨_,_,rfl,zej h.1,of_decide_eq_true h.2.1,fun x hx=>?_⟩)
   have:=List.all_eq_true.mp h.2.2 x hx
   rw [Bool.and_eq_true_iff]at this
   refine⟨zlm this.1,fun hw=>?_⟩
   rcases Bool.or_eq_true_iff.mp this.2 with z | z
   ·exact absurd (of_decide_eq_true z) hw
   ·exact zdb z
  ·cases h
def zgI(n a:Int):List D:=[PyData.tuple [PyData.str "letter",PyData.int n],PyData.tuple [PyData.str "letter",PyData.int (-1)],PyData.tuple [PyData.str "letter"],PyData.tuple [PyData.str "letter",PyData.int 0,PyData.int 0],PyData.tuple [PyData.str "Letter",PyData.int 0],PyData.tuple [],PyData.tuple [PyData.str "mix",PyData.tuple []],PyData.tuple [PyData.str "mix"],PyData.tuple [PyData.str "mix",PyData.tuple [PyData.tuple [PyData.tuple [PyData.int 1,PyData.int 1],PyData.int 0]],PyData.int 0],PyData.tuple [PyData.str "mix",PyData.tuple [PyData.tuple [PyData.tuple [PyData.int 0,PyData.int 1],PyData.int 0]]],PyData.tuple [PyData.str "mix",PyData.tuple [PyData.tuple [PyData.tuple [PyData.int 2,PyData.int 4],PyData.int 0]]],PyData.tuple [PyData.str "mix",PyData.tuple [PyData.tuple [PyData.tuple [PyData.int 1,PyData.int (-1)],PyData.int 0]]],PyData.tuple [PyData.str "mix",PyData.tuple [PyData.tuple [PyData.tuple [PyData.int 1,PyData.int 0],PyData.int 0]]],PyData.tuple [PyData.str "mix",PyData.tuple [PyData.tuple [PyData.tuple [PyData.int 1,PyData.int 1],PyData.int 0],PyData.tuple [PyData.tuple [PyData.int 1,PyData.int 1],PyData.int 2]]],PyData.tuple [PyData.str "mix",PyData.tuple [PyData.tuple [PyData.tuple [PyData.int 1,PyData.int 1],PyData.int 1],PyData.tuple [PyData.tuple [PyData.int 1,PyData.int 1],PyData.int 0]]],PyData.tuple [PyData.str "mix",PyData.tuple [PyData.tuple [PyData.tuple [PyData.int 1,PyData.int 1],PyData.int 0],PyData.tuple [PyData.tuple [PyData.int 2,PyData.int 1],PyData.int 0]]],PyData.tuple [PyData.str "mix",PyData.tuple [PyData.tuple [PyData.tuple [PyData.int 1,PyData.int 1],PyData.int a]]],PyData.tuple [PyData.str "mix",PyData.tuple [PyData.tuple [PyData.tuple [PyData.int 1,PyData.int 1],PyData.int (-1)]]],PyData.tuple [PyData.str "mix",PyData.tuple [PyData.tuple [PyData.tuple [PyData.int 1,PyData.int 1],PyData.int 0,PyData.int 0]]],PyData.tuple [PyData.str "mix",PyData.tuple [PyData.tuple [PyData.int 1,PyData.int 1],PyData.int 0]],PyData.tuple [PyData.str "mix",PyData.tuple [PyData.tuple [PyData.int 1,PyData.int 0]]],PyData.tuple [PyData.str "mix",PyData.int 0],PyData.tuple [PyData.str "mix",PyData.tuple [PyData.tuple [PyData.tuple [PyData.int 1,PyData.int 1],PyData.none]]],PyData.tuple [PyData.str "times",PyData.int 0,PyData.int 2],PyData.tuple [PyData.str "times",PyData.int a,PyData.int 0],PyData.tuple [PyData.str "times",PyData.int 2,PyData.int a],PyData.tuple [PyData.str "times",PyData.int (-1),PyData.int 0],PyData.tuple [PyData.str "times",PyData.int 2,PyData.int (-1)],PyData.tuple [PyData.str "times",PyData.int 0],PyData.tuple [PyData.str "times",PyData.int 0,PyData.int 0,PyData.int 0],PyData.tuple [PyData.str "plus",PyData.int 0,PyData.int 0],PyData.str "letter",PyData.none,PyData.int 5,PyData.tuple [PyData.str "letter",PyData.none],PyData.tuple [PyData.str "times",PyData.int 2,PyData.none],PyData.tuple [PyData.str "mix",PyData.tuple [PyData.tuple [PyData.tuple [PyData.int 1,PyData.int 1],PyData.int 2],PyData.tuple [PyData.tuple [PyData.int 1,PyData.int 1],PyData.int 3],PyData.tuple [PyData.tuple [PyData.int 1,PyData.int 1],PyData.int 2]]],PyData.tuple [PyData.str "mix",PyData.tuple [PyData.tuple [PyData.tuple [PyData.int 1,PyData.int 1],PyData.int 3],PyData.tuple [PyData.tuple [PyData.int 1,PyData.int 1],PyData.int 2]]]]
def zpE(m:Int):List D:=[PyData.tuple [PyData.tuple [PyData.int 1,PyData.int 1],PyData.tuple [PyData.int 2]],PyData.tuple [PyData.tuple [PyData.int 1,PyData.int 1],PyData.tuple [PyData.none,PyData.int 0]],PyData.tuple [PyData.tuple [PyData.int 1,PyData.int 1],PyData.tuple [PyData.none,PyData.none,PyData.int 2]],PyData.tuple [PyData.tuple [PyData.int 1,PyData.int 1],PyData.tuple [PyData.int m]],PyData.tuple [PyData.tuple [PyData.int 1,PyData.int 1],PyData.tuple [PyData.int (-1)]],PyData.tuple [PyData.tuple [PyData.int 2,PyData.int 2],PyData.tuple []],PyData.tuple [PyData.tuple [PyData.int 1,PyData.int 0],PyData.tuple []],PyData.tuple [PyData.tuple [PyData.int 1,PyData.int 1]],PyData.tuple [PyData.tuple [PyData.int 1,PyData.int 1],PyData.tuple [],PyData.tuple []],PyData.tuple [PyData.tuple [PyData.int 1,PyData.int 1],PyData.int 0],PyData.none,PyData.tuple [PyData.tuple [PyData.int 1,PyData.int (-2)],PyData.tuple []],PyData.tuple [PyData.int 1,PyData.tuple []],PyData.tuple [PyData.tuple [PyData.int 1,PyData.int 1],PyData.tuple [PyData.int 0,PyData.int 1]],PyData.tuple [PyData.tuple [PyData.int 1,PyData.int 1],PyData.tuple [PyData.str "0"]],PyData.tuple [PyData.tuple [PyData.int 0,PyData.int 2],PyData.tuple []]]
def ztg:List (List Str):=[[],["a", "b", "c", "d"],["a", "b", "a"],["part"],["abcdef"],["A"],[""],["a1"],["a", "b", "end"],["x", "x"],["a b"],["give", "x"],["x", "letters"],["rounds"]]
theorem zth:∀ n∈[(1:Int),2,3],∀ a∈List.range 13,(zgI n (a:Int)).all znj=true:=by decide +kernel
theorem zti:∀ m∈List.range 13,(zpE (m:Int)).all (fun z=>smB 2 z)=true:=by decide +kernel
theorem zpF:ztg.all (fun ls=>!za4 ls && (decide (ls.length<=4) && ls.all zll))=true:=by decide +kernel
theorem zv6:∀ n∈[(1:Int),2,3],(zgI n 0).all (fun z=>(zW [] n z).isNone)=true:=by decide +kernel
theorem zv7:∀ n∈[(1:Int),2,3],(zgI n 1).all (fun z=>(zW [1] n z).isNone)=true:=by decide +kernel
theorem zv8:∀ n∈[(1:Int),2,3],(zgI n 2).all (fun z=>(zW [1,1] n z).isNone)=true:=by decide +kernel
theorem zv9:∀ n∈[(1:Int),2,3],(zgI n 3).all (fun z=>(zW [1,1,2] n z).isNone)=true:=by decide +kernel
theorem ztj:∀ (r:List Int),r.length<=8->(zgI 1 ((4+r.length:Nat):Int)).all (fun z=>(zW (1::1::2::2::r) 1 z).isNone)=true
 | [],_=>by kernel_rfl
 | [_],_=>by kernel_rfl
 | [_,_],_=>by kernel_rfl
 | [_,_,_],_=>by kernel_rfl
 | [_,_,_,_],_=>by kernel_rfl
 | [_,_,_,_,_],_=>by kernel_rfl
 | [_,_,_,_,_,_],_=>by kernel_rfl
 | [_,_,_,_,_,_,_],_=>by kernel_rfl
 | [_,_,_,_,_,_,_,_],_=>by kernel_rfl
 | _::_::_::_::_::_::_::_::_::_,h=>by simp only [List.length_cons]at h; omega
theorem ztk:∀ (r:List Int),r.length<=8->(zgI 2 ((4+r.length:Nat):Int)).all (fun z=>(zW (1::1::2::2::r) 2 z).isNone)=true
 | [],_=>by kernel_rfl
 | [_],_=>by kernel_rfl
 | [_,_],_=>by kernel_rfl
 | [_,_,_],_=>by kernel_rfl
 | [_,_,_,_],_=>by kernel_rfl
 | [_,_,_,_,_],_=>by kernel_rfl
 | [_,_,_,_,_,_],_=>by kernel_rfl
 | [_,_,_,_,_,_,_],_=>by kernel_rfl
 | [_,_,_,_,_,_,_,_],_=>by kernel_rfl
 | _::_::_::_::_::_::_::_::_::_,h=>by simp only [List.length_cons]at h; omega
theorem ztl:∀ (r:List Int),r.length<=8->(zgI 3 ((4+r.length:Nat):Int)).all (fun z=>(zW (1::1::2::2::r) 3 z).isNone)=true
 | [],_=>by kernel_rfl
 | [_],_=>by kernel_rfl
 | [_,_],_=>by kernel_rfl
 | [_,_,_],_=>by kernel_rfl
 | [_,_,_,_],_=>by kernel_rfl
 | [_,_,_,_,_],_=>by kernel_rfl
 | [_,_,_,_,_,_],_=>by kernel_rfl
 | [_,_,_,_,_,_,_],_=>by kernel_rfl
 | [_,_,_,_,_,_,_,_],_=>by kernel_rfl
 | _::_::_::_::_::_::_::_::_::_,h=>by simp only [List.length_cons]at h; omega
theorem zwa:∀ (r:List Int),r.length<=8->(zpE ((4+r.length:Nat):Int)).all (fun z=>!zcu (1::1::2::2::r) z)=true
 | [],_=>by kernel_rfl
 | [_],_=>by kernel_rfl
 | [_,_],_=>by kernel_rfl
 | [_,_,_],_=>by kernel_rfl
 | [_,_,_,_],_=>by kernel_rfl
 | [_,_,_,_,_],_=>by kernel_rfl
 | [_,_,_,_,_,_],_=>by kernel_rfl
 | [_,_,_,_,_,_,_],_=>by kernel_rfl
 | [_,_,_,_,_,_,_,_],_=>by kernel_rfl
 | _::_::_::_::_::_::_::_::_::_,h=>by simp only [List.length_cons]at h; omega
end K31
open PySem L2
namespace K31
open PySem L2
theorem zvo{n:Nat}(n1:1<=n)(n3:n<=3):(n:Int)∈[(1:Int),2,3]:=by
 rcases(by omega:n=1\/n=2\/n=3)with rfl | rfl | rfl<;>decide
theorem zvp{n a:Nat}{hs r:List Int}(n1:1<=n)(n3:n<=3)(hh:hs=1::1::2::2::r)(hr:r.length<=8)(ha:a<=hs.length):∀ z∈zgI (n:Int) (a:Int),zfu z/\zW (hs.take a) (n:Int) z=none:=by
 intro z hz
 have nm:=zvo n1 n3
 have hl:hs.length=r.length+4:=by rw [hh]; simp
 refine⟨znk (List.all_eq_true.mp (zth _ nm a (List.mem_range.mpr (by omega))) z hz),?_⟩
 have fin:∀ {xs:List Int},(zgI (n:Int) (a:Int)).all (fun z=>(zW xs (n:Int) z).isNone)=true->zW xs (n:Int) z=none:=fun h=>Option.isNone_iff_eq_none.mp (List.all_eq_true.mp h z hz)
 rcases(by omega:a=0\/a=1\/a=2\/a=3\/4<=a)with rfl | rfl | rfl | rfl | h4
 ·exact fin (zv6 _ nm)
 ·rw [hh]; exact fin (zv7 _ nm)
 ·rw [hh]; exact fin (zv8 _ nm)
 ·rw [hh]; exact fin (zv9 _ nm)
 ·have e:hs.take a=1::1::2::2::r.take (a - 4):=by
   obtain⟨c,rfl⟩:∃ c,a=c+4:=⟨a - 4,by omega⟩
   rw [hh]
   rfl
  rw [e]
  have l8:(r.take (a - 4)).length<=8:=by rw [List.length_take]; omega
  have la:a=4+(r.take (a - 4)).length:=by rw [List.length_take]; omega
  refine fin ?_
  generalize r.take (a - 4)=r' at l8 la
  rw [la]
  rcases(by omega:n=1\/n=2\/n=3)with rfl | rfl | rfl
  ·exact ztj r' l8
  ·exact ztk r' l8
  ·exact ztl r' l8
theorem znl{m:Nat}{hs r:List Int}(hh:hs=1::1::2::2::r)(hr:r.length<=8)(hm:m=hs.length):∀ z∈zpE (m:Int),zcu hs z=false/\Sm 2 z:=by
 intro z hz
 have hl:hs.length=r.length+4:=by rw [hh]; simp
 have e:=List.all_eq_true.mp (zwa r hr) z (by rw [show 4+r.length=m by omega]; exact hz)
 refine⟨by rw [hh]; simpa using e,zdb (List.all_eq_true.mp (zti m (List.mem_range.mpr (by omega))) z hz)⟩
theorem zjI{x y:Int}{n a:Int}{Q:U×List U->Prop}(k:∀ z x' y',z∈zgI n a->Q (.d z,[bx x' y',.d (.int n),.d (.int a)])):Wo (zaB [bx x y,.d (.int n),.d (.int a)]) Q:=by
 simp_arith [zaB,zcB]
 refine zat (by decide) (by decide) fun r x2 y2 r0 r1=>?_
 simp_arith
 refine zez r0 r1 fun z hz=>?_
 simp_arith
 exact k z _ _ hz
theorem zfk{x y m:Int}{Q:U×List U->Prop}(k:∀ z x' y',z∈zpE m->Q (.d z,[bx x' y',.d (.int m)])):Wo (zab [bx x y,.d (.int m)]) Q:=by
 simp_arith [zab,zcM]
 refine zat (by decide) (by decide) fun r x2 y2 r0 r1=>?_
 simp_arith
 refine zez r0 r1 fun z hz=>?_
 simp_arith
 exact k z _ _ hz
theorem zgV{x y:Int}{Q:U×List U->Prop}(k:∀ ls x' y',za4 ls=false->ls.length<=4->(∀ z∈ls,Asc 10 z)->Q (.d (.tuple (ls.map .str)),[bx x' y'])):Wo (zai [bx x y]) Q:=by
 simp_arith [zai,zb2]
 refine zat (by decide) (by decide) fun r x2 y2 r0 r1=>?_
 simp_arith
 refine zjy (f:=fun ls:List Str=>PyData.tuple (ls.map .str)) (xs:=ztg) r0 (show r < ((ztg.length:Nat):Int) from r1) fun ls hls _=>?_
 have h:=List.all_eq_true.mp zpF ls hls
 rw [Bool.and_eq_true_iff,Bool.and_eq_true_iff]at h
 simp_arith
 exact k ls _ _ (by simpa using h.1) (of_decide_eq_true h.2.1) fun z hz=>zej (List.all_eq_true.mp h.2.2 z hz)
theorem zh2{k:Int}(hk:k.natAbs < 10^10):zcR true (.d (.tuple [.str "node",.int k])) (.d (.tuple [.str "node",.int k]))=some (.d (.bool false)):=by
 have n1:Nic 1 1000 (.tuple [.str "node",.int k]):=(zeh (n:=2) (k:=0) (M:=102) (fun d hd=>by
  rcases List.mem_cons.mp hd with rfl | hd
  ·exact(zfV (n:=4) (by unfold Asc; decide)).mono (by decide) (by decide)
  ·rw [List.mem_singleton.mp hd]; exact(zeU hk).mono (by decide) (by decide)) (Nat.le_refl _)).mono (Nat.le_refl _) (by decide)
 rw [n1.eqD (neg:=true) n1 (by decide) (by decide)]
 simp [PyData.eqv,PyData.eqvAll]
theorem ztm:zcR true (.d (.tuple [.str "letters",.bool false])) (.d (.tuple [.str "letters",.bool false]))=some (.d (.bool false)):=by kernel_rfl
theorem znm:zcR false (.d (.tuple [.str "node",.int 0])) (.d (.tuple [.str "node",.int 0]))=some (.d (.bool true)):=by kernel_rfl
section
variable {ls:List Str} {ns:List Nod} {hs r:List Int} {t:D}
theorem ztn(hk:za4 ls=true)(h:GN ls.length ns hs)(ht:zcu hs t=true):zaw ls (.tuple (ns.map Nod.d)) t=none:=by
 unfold zaw
 rw [hk,if_pos rfl]
 dsimp only
 rw [h.degs]
 dsimp only
 rw [ht,if_pos rfl]
theorem zpG(hk:za4 ls=true)(h:GN ls.length ns hs)(ht:zcu hs t=false):zaw ls (.tuple (ns.map Nod.d)) t=some (some (ns.length:Int)):=by
 unfold zaw
 rw [hk,if_pos rfl]
 dsimp only
 rw [h.degs]
 dsimp only
 rw [ht,if_neg Bool.false_ne_true,List.length_map]
theorem zpH{xs ys:List D}{b:D}(hk:za4 ls=true)(h:zaK ls.length [] xs=.ok hs)(hb:zW hs ls.length b=none):zaw ls (.tuple (xs++b::ys)) t=some (some (hs.length:Int)):=by
 unfold zaw
 rw [hk,if_pos rfl]
 dsimp only
 rw [zng h hb]
theorem zpI{d:D}(hk:za4 ls=true)(hs:Sm 0 d):zaw ls d t=some (some 0):=by
 unfold zaw
 rw [hk,if_pos rfl]
 cases d<;>first | rfl | simp [Sm]at hs
theorem zpJ{d:D}(hk:za4 ls=false):zaw ls d t=some none:=by
 unfold zaw
 rw [hk]
 rfl
end
end K31
open PySem L2
namespace K31
open PySem L2
noncomputable def znn:MS:=(zw (zO 1 (zI zbc (zb (zf 0) (zb (mOp zb3 (mC (.int 1)) (zf 6)) zg))))
  (zw (zO 7 (zI zn (zb (zf 1) (zb (mOp zb3 (mCB (f1 zaE) (zb (zf 4) zg)) (mC (.int 1))) zg))))
  (zw (zO 8 (mOp zdk (mOp zdk (mSl zhD (zf 4) zcE (zct (zf 7))) (zp (zb (zI zaB (zb (zf 1) (zb (mCB (f1 zaE) (zb (zf 2) zg)) (zb (zf 7) zg)))) zg))) (mSl zhD (zf 4) (zct (zf 7)) zcE)))
  (zw (zam (mB (mOp (zcR true) (zI zt (zb (zp (zb (zf 2) (zb (zf 8) (zb (mOp zbh (zf 5) (mC (.int 2))) zg)))) zg)) (zp (zb (mC (.str "node")) (zb (zf 7) zg))))) (zaf (mC (.bool false))) zU)
  (zw (zam (mB (mOp (zcR true) (zI zt (zb (zp (zb (zf 2) (zb (zf 4) (zb (zI zab (zb (zf 1) (zb (mCB (f1 zaE) (zb (zf 4) zg)) zg))) zg)))) zg)) (zp (zb (mC (.str "node")) (zb (mCB (f1 zaE) (zb (zf 4) zg)) zg))))) (zaf (mC (.bool false))) zU)
  (zw (zam (mB (mOp (zcR true) (zI zt (zb (zp (zb (zf 2) (zb (zf 8) (zb (zI zab (zb (zf 1) (zb (mCB (f1 zaE) (zb (zf 4) zg)) zg))) zg)))) zg)) (zp (zb (mC (.str "node")) (zb (zf 7) zg))))) (zaf (mC (.bool false))) zU)
  (zw (zam (mB (mOp (zcR true) (zI zt (zb (zp (zb (zf 2) (zb (mOp zdk (zf 8) (mSl zhD (zf 8) (zct (zf 7)) (zct (mOp zb3 (zf 7) (mC (.int 1)))))) (zb (mOp zbh (zf 5) (mC (.int 2))) zg)))) zg)) (zp (zb (mC (.str "node")) (zb (zf 7) zg))))) (zaf (mC (.bool false))) zU)
  (zw (zO 9 (mOp zaG (zbs (zb (mC .none) (zb (mC (.str "")) (zb (mC (.int 0)) (zb (mC (.str "letters")) (zb (mUn zek (mC (.int 1))) (zb (mCB (f1 zaE) (zb (zf 4) zg)) zg))))))) (zI zn (zb (zf 1) (zb (mC (.int 6)) zg)))))
  (zw (zO 10 (mOp zaG (zbs (zb (mOp zbh (zf 5) (mC (.int 2))) (zb (zI zab (zb (zf 1) (zb (mCB (f1 zaE) (zb (zf 4) zg)) zg))) (zb (zp (zb (mOp zbh (mOp zbh (zf 5) (mC (.int 2))) (mC (.int 0))) (zb (zp zg) zg))) (zb (zp (zb (zp (zb (mC (.int 1)) (zb (mC (.int 1)) zg))) (zb (zp (zb (mC .none) zg)) zg))) zg))))) (zI zn (zb (zf 1) (zb (mC (.int 4)) zg)))))
  (zw (zam (mB (mOp (zcR true) (zI zt (zb (zp (zb (zf 2) (zb (zf 9) (zb (zf 10) zg)))) zg)) (zp (zb (mC (.str "node")) (zb (mC (.int 0)) zg))))) (zaf (mC (.bool false))) zU)
  (zw (zO 11 (mOp zaG (zbs (zb (zf 4) (zb (zf 8) (zb (zf 9) zg)))) (zI zn (zb (zf 1) (zb (mC (.int 3)) zg)))))
  (zam (mB (mOp (zcR true) (zI zt (zb (zp (zb (zI zai (zb (zf 1) zg)) (zb (zf 11) (zb (mOp zbh (zf 5) (mC (.int 2))) zg)))) zg)) (zp (zb (mC (.str "letters")) (zb (mC (.bool false)) zg))))) (zaf (mC (.bool false))) zU))))))))))))
theorem zto:zm4=(zw (zO 1 (zI zbc (zb (zf 0) (zb (mC (.int 0)) zg))))
  (zw (zO 2 (zI zbd (zb (zf 1) (zb (mOp zb3 (mC (.int 1)) (zI zn (zb (zf 1) (zb (mC (.int 3)) zg)))) zg))))
  (zw (zO 3 (zp (zb (zp (zb (mC (.str "letter")) (zb (mC (.int 0)) zg))) (zb (zp (zb (mC (.str "letter")) (zb (mOp zii (mCB (f1 zaE) (zb (zf 2) zg)) (mC (.int 1))) zg))) (zb (zp (zb (mC (.str "times")) (zb (mC (.int 0)) (zb (mC (.int 1)) zg)))) (zb (zp (zb (mC (.str "times")) (zb (mC (.int 1)) (zb (mC (.int 1)) zg)))) zg))))))
  (zw (zO 4 (zI zbf (zb (zf 1) (zb (mCB (f1 zaE) (zb (zf 2) zg)) (zb (zf 3) (zb (zI zn (zb (zf 1) (zb (mC (.int 9)) zg))) (zb (mC (.int 6)) zg)))))))
  (zw (zO 5 (zp (zb (zf 2) (zb (zf 4) (zb (zI zbI (zb (zf 1) (zb (zf 4) (zb (mC (.int 4)) zg)))) zg)))))
  (zw (zam (mB (mOp zeV (zI zt (zb (zf 5) zg)) (mC (.bool true)))) (zaf (mC (.bool false))) zU)
  (zw (zeN (zeo (zb (mOp zb3 (mC (.int 2)) (mCB (f1 zaE) (zb (mSl zhC (zf 0) (zct (mC (.int 1))) (zct (mC (.int 8)))) zg))) zg)) (zaz 6) znn)
  (zw (zam (mOr (mB (mOp zeV (zI zt (zb (zp (zb (zf 2) (zb (zp zg) (zb (zp (zb (mOp zbh (mOp zbh (zf 5) (mC (.int 2))) (mC (.int 0))) (zb (zp (zb (mC .none) zg)) zg))) zg)))) zg)) (mC (.bool true)))) (mB (mOp zeV (zI zt (zb (zp (zb (zf 2) (zb (zp zg) (zb (zp (zb (zp (zb (mC (.int 1)) (zb (mC (.int 1)) zg))) (zb (zp zg) zg))) zg)))) zg)) (mC (.bool true))))) (zaf (mC (.bool false))) zU)
  (zaf (zdP (mOp (zcR false) (zI zt (zb (zp (zb (zf 2) (zb (zp zg) (zb (zp (zb (zp (zb (mC (.int 1)) (zb (mC (.int 1)) zg))) (zb (zp (zb (mC (.int 0)) zg)) zg))) zg)))) zg)) (zp (zb (mC (.str "node")) (zb (mC (.int 0)) zg)))) (mOp zmU (zI zt (zb (zf 5) zg)) (mC (.bool true))))))))))))):=rfl
theorem zdr{ls:List Str}{nodes top:D}{o:Option (Option Int)}(hl:ls.length<=4)(hz:∀ z∈ls,Asc 10 z)(hn:zd9 nodes)(ht:Sm 2 top)(e:zaw ls nodes top=o) :
  zt [.d (.tuple [.tuple (ls.map .str),nodes,top])]=some (.d (zdS o),[.d (.tuple [.tuple (ls.map .str),nodes,top])]):=by
 have:=zpz hl hz hn ht
 rw [e]at this
 exact this
structure Gn (ls:List Str) (ns:List Nod) (hs r:List Int) (t:D):Prop where
 l1:1<=ls.length
 l3:ls.length<=3
 asc:∀ z∈ls,Asc 10 z
 lk:za4 ls=true
 gn:GN ls.length ns hs
 n12:ns.length<=12
 hh:hs=1::1::2::2::r
 tg:TG hs t
theorem Gn.r8{ls:List Str}{ns:List Nod}{hs r:List Int}{t:D}(g:Gn ls ns hs r t):r.length<=8/\hs.length=ns.length/\ns.length=r.length+4:=by
 have h1:=g.gn.ln
 have h2:hs.length=r.length+4:=by rw [g.hh]; simp
 have:=g.n12
 omega
theorem Gn.nodes{ls:List Str}{ns:List Nod}{hs r:List Int}{t:D}(g:Gn ls ns hs r t):zd9 (.tuple (ns.map Nod.d)):=.inr ⟨_,rfl,by rw [List.length_map]; have:=g.n12; omega,g.gn.nd (by have:=g.l3; omega) (by have:=g.n12; omega)⟩
abbrev Xb(ns:List Nod)(a:Nat)(z:D):List D:=(ns.map Nod.d).take a++[z]++(ns.map Nod.d).drop a
theorem zvq{ns:List Nod}{a:Nat}{z:D}:Xb ns a z=(ns.map Nod.d).take a++z::(ns.map Nod.d).drop a:=by rw [Xb,List.append_assoc]; rfl
theorem ztp{ls:List Str}{ns:List Nod}{hs r:List Int}{t z:D}{a:Nat}(g:Gn ls ns hs r t)(hz:zfu z):(Xb ns a z).length<=13/\∀ x∈Xb ns a z,zfu x:=by
 have nd:=g.gn.nd (by have:=g.l3; omega) (by have:=g.n12; omega)
 refine⟨?_,fun x hx=>?_⟩
 ·rw [List.length_append,List.length_append,List.length_take,List.length_drop,List.length_singleton,List.length_map]
  have:=g.n12
  omega
 ·rcases List.mem_append.mp hx with h | h
  ·rcases List.mem_append.mp h with h | h
   ·exact nd x (List.mem_of_mem_take h)
   ·rw [List.mem_singleton.mp h]; exact hz
  ·exact nd x (List.mem_of_mem_drop h)
theorem zln{ls:List Str}{ns:List Nod}{hs r:List Int}{t:D}(g:Gn ls ns hs r t)(a:Nat):zaK ls.length [] ((ns.map Nod.d).take a)=.ok (hs.take a):=by
 rw [<-List.map_take]
 exact(g.gn.take a).degs
theorem zpK{sc:List Int}{ls:List Str}{ns:List Nod}{hs r:List Int}{t:D}{kk:Int}{o1 o3 o7 o8 o9 o10 o11:Option U}{Q:Fl->Prop}(h0:0<=kk)(g:Gn ls ns hs r t)
  (k:∀ o1 o7 o8 o9 o10 o11,Q (.nx [some (.d (.list (sc.map .int))),o1,some (.d (.tuple (ls.map .str))),o3,some (.d (.tuple (ns.map Nod.d))),some (.d (.tuple [.tuple (ls.map .str),.tuple (ns.map Nod.d),t])),some (.d (.int kk)),o7,o8,o9,o10,o11])) :
  Wo (znn [some (.d (.list (sc.map .int))),o1,some (.d (.tuple (ls.map .str))),o3,some (.d (.tuple (ns.map Nod.d))),some (.d (.tuple [.tuple (ls.map .str),.tuple (ns.map Nod.d),t])),some (.d (.int kk)),o7,o8,o9,o10,o11]) Q:=by
 obtain⟨f,os,et,ff,sf⟩:=g.tg.ex
 subst et
 obtain⟨r8,hsl,nsl⟩:=g.r8
 have l3:=g.l3
 have l4:ls.length<=4:=by omega
 have lN:(List.map Nod.d ns).length=ns.length:=List.length_map _
 have lL:(List.map PyData.str ls).length=ls.length:=List.length_map _
 simp_arith [znn]
 refine zqd (by omega) fun x y=>?_
 simp_arith [lN]
 refine zat (by omega) (by omega) fun r7 x1 y1 a7 b7=>?_
 obtain⟨a,rfl⟩:∃ a:Nat,r7=(a:Int):=⟨r7.toNat,by omega⟩
 have ha:a<=ns.length:=by omega
 have c1:zdd (ns.map Nod.d) none (some (a:Int))=(ns.map Nod.d).take a:=by rw [zhM (by omega),Int.toNat_natCast]
 have c2:zdd (ns.map Nod.d) (some (a:Int)) none=(ns.map Nod.d).drop a:=by rw [zgo (by omega),Int.toNat_natCast]
 simp_arith [lL,c1]
 refine zjI fun z x2 y2 hz=>?_
 obtain⟨nz,bz⟩:=zvp g.l1 g.l3 g.hh r8 (by omega) z hz
 obtain⟨xl,xm⟩:=ztp (a:=a) g nz
 have la:(hs.take a).length=a:=by rw [List.length_take]; omega
 have ob:∀ {ys:List D} {t':D},zaw ls (.tuple (Xb ns a z++ys)) t'=some (some (a:Int)):=fun{ys t'}=>by
  rw [zvq,List.append_assoc,List.cons_append,zpH g.lk (zln g a) bz,la]
 have ob0:∀ {t':D},zaw ls (.tuple (Xb ns a z)) t'=some (some (a:Int)):=fun{t'}=>by
  have:=ob (ys:=[]) (t':=t')
  rw [List.append_nil]at this
  exact this
 have XD:zd9 (.tuple (Xb ns a z)):=.inr ⟨_,rfl,by omega,xm⟩
 have ne:=zh2 (k:=(a:Int)) (by omega)
 have nel:=zh2 (k:=(ns.length:Int)) (by omega)
 have t1:=zdr l4 g.asc XD g.tg.sm ob0
 simp_arith [c2,lN,t1,zdS,ne]
 refine zfk fun b1 x3 y3 hb1=>?_
 obtain⟨f1,s1⟩:=znl g.hh r8 (by omega) b1 hb1
 have t2:=zdr l4 g.asc g.nodes s1 (zpG g.lk g.gn f1)
 simp_arith [lN,t2,zdS,nel]
 refine zfk fun b2 x4 y4 hb2=>?_
 obtain⟨f2,s2⟩:=znl g.hh r8 (by omega) b2 hb2
 have t3:=zdr l4 g.asc XD s2 (ob0 (t':=b2))
 have Y:zd9 (.tuple (Xb ns a z++zdd (Xb ns a z) (some (a:Int)) (some ((a:Int)+1)))):=.inr ⟨_,rfl,by
  have:=zhN (Xb ns a z) (some (a:Int)) (some ((a:Int)+1))
  rw [List.length_append]; omega,fun x hx=>by
  rcases List.mem_append.mp hx with h | h
  ·exact xm x h
  ·exact xm x (zpp h)⟩
 have t4:=zdr l4 g.asc Y g.tg.sm ob
 have cl:=zhN (Xb ns a z) (some (a:Int)) (some ((a:Int)+1))
 have cc:zdk (.d (.tuple (Xb ns a z))) (.d (.tuple (zdd (Xb ns a z) (some (a:Int)) (some ((a:Int)+1)))))=some (.d (.tuple (Xb ns a z++zdd (Xb ns a z) (some (a:Int)) (some ((a:Int)+1))))):=zkt (by omega)
 simp_arith [t3,zdS,ne,cc,t4,lN]
 refine zat (by decide) (by decide) fun r9 x5 y5 a9 b9=>?_
 simp_arith
 refine zez a9 b9 fun od hod=>?_
 have so:Sm 0 od:=by
  revert od
  simp only [List.forall_mem_cons]
  exact⟨trivial,zej (by decide),show(0:Int).natAbs < 10^10 by decide,zej (by decide),show(-1:Int).natAbs < 10^10 by decide,show(ns.length:Int).natAbs < 10^10 by omega,List.forall_mem_nil _⟩
 simp_arith [lN]
 refine zfk fun b3 x6 y6 hb3=>?_
 obtain⟨_,s3⟩:=znl g.hh r8 (by omega) b3 hb3
 simp_arith
 refine zat (by decide) (by decide) fun r10 x7 y7 a10 b10=>?_
 simp_arith
 refine zez a10 b10 fun tp htp=>?_
 have st:Sm 2 tp:=by
  revert tp
  simp only [List.forall_mem_cons]
  refine⟨g.tg.sm,s3,⟨by simp,fun x hx=>?_⟩,zdb (by decide),List.forall_mem_nil _⟩
  rcases List.mem_cons.mp hx with rfl | hx
  ·exact sf
  ·rw [List.mem_singleton.mp hx]; exact zdb (by decide)
 have t5:=zdr l4 g.asc (.inl so) st (zpI g.lk so)
 have ne0:=zh2 (k:=0) (by decide)
 simp_arith [t5,zdS,ne0]
 refine zat (by decide) (by decide) fun r11 x8 y8 a11 b11=>?_
 simp_arith
 refine zez a11 b11 fun oth hoth=>?_
 have oD:zd9 oth:=by
  revert oth
  simp only [List.forall_mem_cons]
  exact⟨g.nodes,XD,.inl so,List.forall_mem_nil _⟩
 simp_arith
 refine zgV fun bl x9 y9 hk hbl hba=>?_
 have t6:=zdr hbl hba oD g.tg.sm (zpJ hk)
 simp_arith [t6,zdS,ztm]
 exact k _ _ _ _ _ _
theorem zpL{n:Nat}(n1:1<=n):GN n [.lt 0,.lt (n - 1),.tm 0 1,.tm 1 1] [1,1,2,2]:=by
 have h0:GN n [] []:=⟨rfl,fun i x h=>by simp at h⟩
 have h1:=h0.snoc (k:=1) (nod:=.lt 0) ⟨by omega,rfl⟩
 have h2:=h1.snoc (k:=1) (nod:=.lt (n - 1)) ⟨by omega,rfl⟩
 have h3:=h2.snoc (k:=2) (nod:=.tm 0 1) ⟨by decide,by decide,by decide,rfl⟩
 exact h3.snoc (k:=2) (nod:=.tm 1 1) ⟨by decide,by decide,by decide,rfl⟩
theorem zvr(sc:List Int)(hl:sc.length<=63):Wo (zhc [.d (.list (sc.map .int))]) fun o=>o=(.d (.bool true),[.d (.list (sc.map .int))]):=by
 have hc:=zhN (sc.map PyData.int) (some 1) (some 8)
 rw [List.length_map]at hc
 simp_arith [zhc,zto]
 refine zqd (by decide) fun x y=>?_
 simp_arith
 refine zat (by decide) (by decide) fun r x1 y1 r0 r1=>?_
 simp_arith
 refine zpv (by omega) (by omega) fun ls x2 y2 hls asc lk=>?_
 have l1:1<=ls.length:=by omega
 have l3:ls.length<=3:=by omega
 have l4:ls.length<=4:=by omega
 have lL:(List.map PyData.str ls).length=ls.length:=List.length_map _
 have eb:PyData.tuple [.tuple [.str "letter",.int 0],.tuple [.str "letter",.int ((ls.length:Int) - 1)],.tuple [.str "times",.int 0,.int 1],.tuple [.str "times",.int 1,.int 1]]=.tuple ([Nod.lt 0,.lt (ls.length - 1),.tm 0 1,.tm 1 1].map Nod.d):=by
  rw [show(ls.length:Int) - 1=((ls.length - 1:Nat):Int) by omega]
  rfl
 simp_arith [lL,eb]
 refine zat (by decide) (by decide) fun r2 x3 y3 a2 b2=>?_
 simp_arith
 have hB:=zpL l1
 have hB4:[Nod.lt 0,.lt (ls.length - 1),.tm 0 1,.tm 1 1].length=4:=rfl
 have em:[(Nod.lt 0).d,(Nod.lt (ls.length - 1)).d,(Nod.tm 0 1).d,(Nod.tm 1 1).d]=List.map Nod.d [Nod.lt 0,.lt (ls.length - 1),.tm 0 1,.tm 1 1]:=rfl
 rw [em]
 generalize [Nod.lt 0,.lt (ls.length - 1),.tm 0 1,.tm 1 1]=ns0 at hB hB4 ⊢
 refine zpD l1 l3 a2 (by omega) hB4 hB fun ns hs x4 y4 gn n12 ⟨rr,hr⟩=>?_
 simp_arith
 refine zvn n12 gn fun t x5 y5 tg=>?_
 have g:Gn ls ns hs rr t:=⟨l1,l3,asc,lk,gn,n12,hr,tg⟩
 have t0:=zdr l4 asc g.nodes tg.sm (ztn lk gn tg.ok)
 have nb:(!(true==true))=false:=rfl
 have bt:(true==true)=true:=rfl
 simp_arith [t0,zdS,nb]
 refine zkq (fun i ρ=>∃ (o1 o3 o6 o7 o8 o9 o10 o11:Option U),ρ=[some (.d (.list (sc.map .int))),o1,some (.d (.tuple (ls.map .str))),o3,some (.d (.tuple (ns.map Nod.d))),some (.d (.tuple [.tuple (ls.map .str),.tuple (ns.map Nod.d),t])),o6,o7,o8,o9,o10,o11]) ⟨_,_,_,_,_,_,_,_,rfl⟩ ?_ ?_
 ·rintro i _ hi ⟨o1,o3,o6,o7,o8,o9,o10,o11,rfl⟩
  simp_arith
  refine zpK (by omega) g fun o1 o7 o8 o9 o10 o11=>?_
  simp_arith
  exact⟨_,_,_,_,_,_,_,_,rfl⟩
 ·rintro _ ⟨o1,o3,o6,o7,o8,o9,o10,o11,rfl⟩
  obtain⟨f,os,et,ff,sf⟩:=tg.ex
  subst et
  have e0:zd9 (.tuple []):=.inr ⟨[],rfl,by decide,fun x hx=>by cases hx⟩
  have k1:zaw ls (.tuple []) (.tuple [f,.tuple [.none]])=none:=by
   unfold zaw
   rw [lk,if_pos rfl]
   show(if(zcU f && _)=true then _ else _)=_
   rw [ff]
   rfl
  have k2:zaw ls (.tuple []) (.tuple [.tuple [.int 1,.int 1],.tuple []])=none:=by
   unfold zaw
   rw [lk,if_pos rfl]
   rfl
  have k3:zaw ls (.tuple []) (.tuple [.tuple [.int 1,.int 1],.tuple [.int 0]])=some (some 0):=by
   unfold zaw
   rw [lk,if_pos rfl]
   rfl
  have s1:Sm 2 (.tuple [f,.tuple [.none]]):=⟨by simp,fun x hx=>by
   rcases List.mem_cons.mp hx with rfl | hx
   ·exact sf
   ·rw [List.mem_singleton.mp hx]; exact zdb (by decide)⟩
  have u1:=zdr l4 asc e0 s1 k1
  have u2:=zdr l4 asc e0 (zdb (k:=2) (by decide)) k2
  have u3:=zdr l4 asc e0 (zdb (k:=2) (by decide)) k3
  simp_arith [u1,u2,u3,zdS,znm,t0,nb,bt]
theorem ztq(ns:List Int)(hl:ns.length<=63):∃ outs,zhc [.d (.list (ns.map .int))]=some (.d (.bool true),outs):=⟨_,zax (zvr ns hl)⟩
abbrev zno(K:PySem.W.Frag):Sp:=spV K 1 zhc
theorem zfK{α:Type}:∀ {us:List α},us.length=1->∃ a,us=[a]
 | [a],_=>⟨a,rfl⟩
theorem zgW{α:Type}:∀ {us:List α},us.length=2->∃ a b,us=[a,b]
 | [a,b],_=>⟨a,b,rfl⟩
theorem zpM{α:Type}:∀ {us:List α},us.length=3->∃ a b c,us=[a,b,c]
 | [a,b,c],_=>⟨a,b,c,rfl⟩
theorem zwb{α:Type}:∀ {us:List α},us.length=4->∃ a b c d,us=[a,b,c,d]
 | [a,b,c,d],_=>⟨a,b,c,d,rfl⟩
theorem zwc{α:Type}:∀ {us:List α},us.length=5->∃ a b c d e,us=[a,b,c,d,e]
 | [a,b,c,d,e],_=>⟨a,b,c,d,e,rfl⟩
theorem all_mk{l:PySem.W.OpenLaw}{w:World}{K:PySem.W.Frag}{h:Heap}{mg:Str->Option Value}{fa f0 f1 f2 f3 f4 f5 f6 f7 f8 f9 f10 f11 f12 f13 f14 f15 f16 f17 f18 f19 f20 f21 f22 f23 f24 f25 f26 f27:Addr}(X:K.In h)(G:h.Ns mainGlobals mg)(hfa:mg "law"=some (.ref fa))
  {od0 an0 od1 an1 od2 an2 od3 an3 od4 an4 od5 an5 od6 an6 od7 an7 od8 an8 od9 an9 od10 an10 od11 an11 od12 an12 od13 an13 od14 an14 od15 an15 od16 an16 od17 an17 od18 an18 od19 an19 od20 an20 od21 an21 od22 an22 od23 an23 od24 an24 od25 an25 od26 an26 od27 an27:Option Addr} {sl0 sl1 sl2 sl3 sl4 sl5 sl6 sl7 sl8 sl9 sl10 sl11 sl12 sl13 sl14 sl15 sl16 sl17 sl18 sl19 sl20 sl21 sl22 sl23 sl24 sl25 sl26 sl27:Array (Option Value)} {oc0 kV0 dc0 pm0 cd0 ct0 oc1 kV1 dc1 pm1 cd1 ct1 oc2 kV2 dc2 pm2 cd2 ct2 oc3 kV3 dc3 pm3 cd3 ct3 oc4 kV4 dc4 pm4 cd4 ct4 oc5 kV5 dc5 pm5 cd5 ct5 oc6 kV6 dc6 pm6 cd6 ct6 oc7 kV7 dc7 pm7 cd7 ct7 oc8 kV8 dc8 pm8 cd8 ct8 oc9 kV9 dc9 pm9 cd9 ct9 oc10 kV10 dc10 pm10 cd10 ct10 oc11 kV11 dc11 pm11 cd11 ct11 oc12 kV12 dc12 pm12 cd12 ct12 oc13 kV13 dc13 pm13 cd13 ct13 oc14 kV14 dc14 pm14 cd14 ct14 oc15 kV15 dc15 pm15 cd15 ct15 oc16 kV16 dc16 pm16 cd16 ct16 oc17 kV17 dc17 pm17 cd17 ct17 oc18 kV18 dc18 pm18 cd18 ct18 oc19 kV19 dc19 pm19 cd19 ct19 oc20 kV20 dc20 pm20 cd20 ct20 oc21 kV21 dc21 pm21 cd21 ct21 oc22 kV22 dc22 pm22 cd22 ct22 oc23 kV23 dc23 pm23 cd23 ct23 oc24 kV24 dc24 pm24 cd24 ct24 oc25 kV25 dc25 pm25 cd25 ct25 oc26 kV26 dc26 pm26 cd26 ct26 oc27 kV27 dc27 pm27 cd27 ct27:Value}
  (a0:PySem.W.nsIn K mainGlobals "is_number"=some (some (.ref f0))) (l0:K.lookup f0=some ⟨oc0,od0,.func (PySem.W.fnOf "is_number" "is_number" (zS zce) (zK zce) (zo zce) .none kV0 dc0 pm0 an0 cd0 ct0),sl0⟩) (c0:PySem.W.codeIn K cd0 "is_number"=true) (k0:PySem.W.keepIn K (.ref f0)=true)
  (a1:PySem.W.nsIn K mainGlobals "common_factor"=some (some (.ref f1))) (l1:K.lookup f1=some ⟨oc1,od1,.func (PySem.W.fnOf "common_factor" "common_factor" (zS za5) (zK za5) (zo za5) .none kV1 dc1 pm1 an1 cd1 ct1),sl1⟩) (c1:PySem.W.codeIn K cd1 "common_factor"=true) (k1:PySem.W.keepIn K (.ref f1)=true)
  (a2:PySem.W.nsIn K mainGlobals "is_fraction"=some (some (.ref f2))) (l2:K.lookup f2=some ⟨oc2,od2,.func (PySem.W.fnOf "is_fraction" "is_fraction" (zS zbu) (zK zbu) (zo zbu) .none kV2 dc2 pm2 an2 cd2 ct2),sl2⟩) (c2:PySem.W.codeIn K cd2 "is_fraction"=true) (k2:PySem.W.keepIn K (.ref f2)=true)
  (a3:PySem.W.nsIn K mainGlobals "is_letter"=some (some (.ref f3))) (l3:K.lookup f3=some ⟨oc3,od3,.func (PySem.W.fnOf "is_letter" "is_letter" (zS zcf) (zK zcf) (zo zcf) .none kV3 dc3 pm3 an3 cd3 ct3),sl3⟩) (c3:PySem.W.codeIn K cd3 "is_letter"=true) (k3:PySem.W.keepIn K (.ref f3)=true)
  (a4:PySem.W.nsIn K mainGlobals "are_letters"=some (some (.ref f4))) (l4:K.lookup f4=some ⟨oc4,od4,.func (PySem.W.fnOf "are_letters" "are_letters" (zS zbv) (zK zbv) (zo zbv) .none kV4 dc4 pm4 an4 cd4 ct4),sl4⟩) (c4:PySem.W.codeIn K cd4 "are_letters"=true) (k4:PySem.W.keepIn K (.ref f4)=true)
  (a5:PySem.W.nsIn K mainGlobals "is_place"=some (some (.ref f5))) (l5:K.lookup f5=some ⟨oc5,od5,.func (PySem.W.fnOf "is_place" "is_place" (zS zcw) (zK zcw) (zo zcw) .none kV5 dc5 pm5 an5 cd5 ct5),sl5⟩) (c5:PySem.W.codeIn K cd5 "is_place"=true) (k5:PySem.W.keepIn K (.ref f5)=true)
  (a6:PySem.W.nsIn K mainGlobals "look_letters"=some (some (.ref f6))) (l6:K.lookup f6=some ⟨oc6,od6,.func (PySem.W.fnOf "look_letters" "look_letters" (zS zbj) (zK zbj) (zo zbj) .none kV6 dc6 pm6 an6 cd6 ct6),sl6⟩) (c6:PySem.W.codeIn K cd6 "look_letters"=true) (k6:PySem.W.keepIn K (.ref f6)=true)
  (a7:PySem.W.nsIn K mainGlobals "mix_degree"=some (some (.ref f7))) (l7:K.lookup f7=some ⟨oc7,od7,.func (PySem.W.fnOf "mix_degree" "mix_degree" (zS zbN) (zK zbN) (zo zbN) .none kV7 dc7 pm7 an7 cd7 ct7),sl7⟩) (c7:PySem.W.codeIn K cd7 "mix_degree"=true) (k7:PySem.W.keepIn K (.ref f7)=true)
  (a8:PySem.W.nsIn K mainGlobals "times_degree"=some (some (.ref f8))) (l8:K.lookup f8=some ⟨oc8,od8,.func (PySem.W.fnOf "times_degree" "times_degree" (zS zbk) (zK zbk) (zo zbk) .none kV8 dc8 pm8 an8 cd8 ct8),sl8⟩) (c8:PySem.W.codeIn K cd8 "times_degree"=true) (k8:PySem.W.keepIn K (.ref f8)=true)
  (a9:PySem.W.nsIn K mainGlobals "node_degree"=some (some (.ref f9))) (l9:K.lookup f9=some ⟨oc9,od9,.func (PySem.W.fnOf "node_degree" "node_degree" (zS zbw) (zK zbw) (zo zbw) .none kV9 dc9 pm9 an9 cd9 ct9),sl9⟩) (c9:PySem.W.codeIn K cd9 "node_degree"=true) (k9:PySem.W.keepIn K (.ref f9)=true)
  (a10:PySem.W.nsIn K mainGlobals "is_top"=some (some (.ref f10))) (l10:K.lookup f10=some ⟨oc10,od10,.func (PySem.W.fnOf "is_top" "is_top" (zS zdB) (zK zdB) (zo zdB) .none kV10 dc10 pm10 an10 cd10 ct10),sl10⟩) (c10:PySem.W.codeIn K cd10 "is_top"=true) (k10:PySem.W.keepIn K (.ref f10)=true)
  (a11:PySem.W.nsIn K mainGlobals "look_net"=some (some (.ref f11))) (l11:K.lookup f11=some ⟨oc11,od11,.func (PySem.W.fnOf "look_net" "look_net" (zS zcx) (zK zcx) (zo zcx) .none kV11 dc11 pm11 an11 cd11 ct11),sl11⟩) (c11:PySem.W.codeIn K cd11 "look_net"=true) (k11:PySem.W.keepIn K (.ref f11)=true)
  (a12:PySem.W.nsIn K mainGlobals "_law_box"=some (some (.ref f12))) (l12:K.lookup f12=some ⟨oc12,od12,.func (PySem.W.fnOf "_law_box" "_law_box" (zS zcg) (zK zcg) (zo zcg) .none kV12 dc12 pm12 an12 cd12 ct12),sl12⟩) (c12:PySem.W.codeIn K cd12 "_law_box"=true) (k12:PySem.W.keepIn K (.ref f12)=true)
  (a13:PySem.W.nsIn K mainGlobals "_law_take"=some (some (.ref f13))) (l13:K.lookup f13=some ⟨oc13,od13,.func (PySem.W.fnOf "_law_take" "_law_take" (zS zbO) (zK zbO) (zo zbO) .none kV13 dc13 pm13 an13 cd13 ct13),sl13⟩) (c13:PySem.W.codeIn K cd13 "_law_take"=true) (k13:PySem.W.keepIn K (.ref f13)=true)
  (a14:PySem.W.nsIn K mainGlobals "_law_names"=some (some (.ref f14))) (l14:K.lookup f14=some ⟨oc14,od14,.func (PySem.W.fnOf "_law_names" "_law_names" (zS zbx) (zK zbx) (zo zbx) .none kV14 dc14 pm14 an14 cd14 ct14),sl14⟩) (c14:PySem.W.codeIn K cd14 "_law_names"=true) (k14:PySem.W.keepIn K (.ref f14)=true)
  (a15:PySem.W.nsIn K mainGlobals "_law_fraction"=some (some (.ref f15))) (l15:K.lookup f15=some ⟨oc15,od15,.func (PySem.W.fnOf "_law_fraction" "_law_fraction" (zS zaU) (zK zaU) (zo zaU) .none kV15 dc15 pm15 an15 cd15 ct15),sl15⟩) (c15:PySem.W.codeIn K cd15 "_law_fraction"=true) (k15:PySem.W.keepIn K (.ref f15)=true)
  (a16:PySem.W.nsIn K mainGlobals "_law_number"=some (some (.ref f16))) (l16:K.lookup f16=some ⟨oc16,od16,.func (PySem.W.fnOf "_law_number" "_law_number" (zS zbl) (zK zbl) (zo zbl) .none kV16 dc16 pm16 an16 cd16 ct16),sl16⟩) (c16:PySem.W.codeIn K cd16 "_law_number"=true) (k16:PySem.W.keepIn K (.ref f16)=true)
  (a17:PySem.W.nsIn K mainGlobals "_law_factor"=some (some (.ref f17))) (l17:K.lookup f17=some ⟨oc17,od17,.func (PySem.W.fnOf "_law_factor" "_law_factor" (zS zbm) (zK zbm) (zo zbm) .none kV17 dc17 pm17 an17 cd17 ct17),sl17⟩) (c17:PySem.W.codeIn K cd17 "_law_factor"=true) (k17:PySem.W.keepIn K (.ref f17)=true)
  (a18:PySem.W.nsIn K mainGlobals "_law_mix"=some (some (.ref f18))) (l18:K.lookup f18=some ⟨oc18,od18,.func (PySem.W.fnOf "_law_mix" "_law_mix" (zS zch) (zK zch) (zo zch) .none kV18 dc18 pm18 an18 cd18 ct18),sl18⟩) (c18:PySem.W.codeIn K cd18 "_law_mix"=true) (k18:PySem.W.keepIn K (.ref f18)=true)
  (a19:PySem.W.nsIn K mainGlobals "_law_nodes"=some (some (.ref f19))) (l19:K.lookup f19=some ⟨oc19,od19,.func (PySem.W.fnOf "_law_nodes" "_law_nodes" (zS zby) (zK zby) (zo zby) .none kV19 dc19 pm19 an19 cd19 ct19),sl19⟩) (c19:PySem.W.codeIn K cd19 "_law_nodes"=true) (k19:PySem.W.keepIn K (.ref f19)=true)
  (a20:PySem.W.nsIn K mainGlobals "_law_high"=some (some (.ref f20))) (l20:K.lookup f20=some ⟨oc20,od20,.func (PySem.W.fnOf "_law_high" "_law_high" (zS zbP) (zK zbP) (zo zbP) .none kV20 dc20 pm20 an20 cd20 ct20),sl20⟩) (c20:PySem.W.codeIn K cd20 "_law_high"=true) (k20:PySem.W.keepIn K (.ref f20)=true)
  (a21:PySem.W.nsIn K mainGlobals "_law_top"=some (some (.ref f21))) (l21:K.lookup f21=some ⟨oc21,od21,.func (PySem.W.fnOf "_law_top" "_law_top" (zS zci) (zK zci) (zo zci) .none kV21 dc21 pm21 an21 cd21 ct21),sl21⟩) (c21:PySem.W.codeIn K cd21 "_law_top"=true) (k21:PySem.W.keepIn K (.ref f21)=true)
  (a22:PySem.W.nsIn K mainGlobals "_law_whole"=some (some (.ref f22))) (l22:K.lookup f22=some ⟨oc22,od22,.func (PySem.W.fnOf "_law_whole" "_law_whole" (zS zbz) (zK zbz) (zo zbz) .none kV22 dc22 pm22 an22 cd22 ct22),sl22⟩) (c22:PySem.W.codeIn K cd22 "_law_whole"=true) (k22:PySem.W.keepIn K (.ref f22)=true)
  (a23:PySem.W.nsIn K mainGlobals "_law_told"=some (some (.ref f23))) (l23:K.lookup f23=some ⟨oc23,od23,.func (PySem.W.fnOf "_law_told" "_law_told" (zS zbR) (zK zbR) (zo zbR) .none kV23 dc23 pm23 an23 cd23 ct23),sl23⟩) (c23:PySem.W.codeIn K cd23 "_law_told"=true) (k23:PySem.W.keepIn K (.ref f23)=true)
  (a24:PySem.W.nsIn K mainGlobals "_law_bad_node"=some (some (.ref f24))) (l24:K.lookup f24=some ⟨oc24,od24,.func (PySem.W.fnOf "_law_bad_node" "_law_bad_node" (zS zaV) (zK zaV) (zo zaV) .none kV24 dc24 pm24 an24 cd24 ct24),sl24⟩) (c24:PySem.W.codeIn K cd24 "_law_bad_node"=true) (k24:PySem.W.keepIn K (.ref f24)=true)
  (a25:PySem.W.nsIn K mainGlobals "_law_bad_top"=some (some (.ref f25))) (l25:K.lookup f25=some ⟨oc25,od25,.func (PySem.W.fnOf "_law_bad_top" "_law_bad_top" (zS za6) (zK za6) (zo za6) .none kV25 dc25 pm25 an25 cd25 ct25),sl25⟩) (c25:PySem.W.codeIn K cd25 "_law_bad_top"=true) (k25:PySem.W.keepIn K (.ref f25)=true)
  (a26:PySem.W.nsIn K mainGlobals "_law_bad_letters"=some (some (.ref f26))) (l26:K.lookup f26=some ⟨oc26,od26,.func (PySem.W.fnOf "_law_bad_letters" "_law_bad_letters" (zS zau) (zK zau) (zo zau) .none kV26 dc26 pm26 an26 cd26 ct26),sl26⟩) (c26:PySem.W.codeIn K cd26 "_law_bad_letters"=true) (k26:PySem.W.keepIn K (.ref f26)=true)
  (a27:PySem.W.nsIn K mainGlobals "law"=some (some (.ref f27))) (l27:K.lookup f27=some ⟨oc27,od27,.func (PySem.W.fnOf "law" "law" (zS zeW) (zK zeW) (zo zeW) .none kV27 dc27 pm27 an27 cd27 ct27),sl27⟩) (c27:PySem.W.codeIn K cd27 "law"=true) (k27:PySem.W.keepIn K (.ref f27)=true)
  (z0:PySem.W.nsIn K mainGlobals "isinstance"=some none)
  (z1:PySem.W.nsIn K mainGlobals "int"=some none)
  (z2:PySem.W.nsIn K mainGlobals "bool"=some none)
  (z3:PySem.W.nsIn K mainGlobals "tuple"=some none)
  (z4:PySem.W.nsIn K mainGlobals "len"=some none)
  (z5:PySem.W.nsIn K mainGlobals "abs"=some none)
  (z6:PySem.W.nsIn K mainGlobals "str"=some none)
  (z7:PySem.W.nsIn K mainGlobals "all"=some none)
  (z8:PySem.W.nsIn K mainGlobals "set"=some none)
  (z9:PySem.W.nsIn K mainGlobals "enumerate"=some none)
  (z10:PySem.W.nsIn K mainGlobals "range"=some none)
  (z11:PySem.W.nsIn K mainGlobals "list"=some none)
  (z12:PySem.W.nsIn K mainGlobals "ValueError"=some none)
  (xt0:zsb K zaJ xfl=true)
  (aXUndivideError:PySem.W.nsIn K mainGlobals "UndivideError"=some (some (.ref CUndivideError)))
  (aXBadText:PySem.W.nsIn K mainGlobals "BadText"=some (some (.ref CBadText)))
  (aXBadLetters:PySem.W.nsIn K mainGlobals "BadLetters"=some (some (.ref CBadLetters)))
  (kXBadLetters:PySem.W.keepIn K (.ref CBadLetters)=true)
  (iXBadLetters:PySem.W.findIn K (.ref CBadLetters) "__init__"=some (some (.builtin "ValueError.__init__")))
  (aXBadRow:PySem.W.nsIn K mainGlobals "BadRow"=some (some (.ref CBadRow)))
  (aXNoOver:PySem.W.nsIn K mainGlobals "NoOver"=some (some (.ref CNoOver)))
  (aXNoName:PySem.W.nsIn K mainGlobals "NoName"=some (some (.ref CNoName)))
  (aXTooMany:PySem.W.nsIn K mainGlobals "TooMany"=some (some (.ref CTooMany)))
  (aXNoPaper:PySem.W.nsIn K mainGlobals "NoPaper"=some (some (.ref CNoPaper)))
  (aXBadNode:PySem.W.nsIn K mainGlobals "BadNode"=some (some (.ref CBadNode)))
  (kXBadNode:PySem.W.keepIn K (.ref CBadNode)=true)
  (iXBadNode:PySem.W.findIn K (.ref CBadNode) "__init__"=some (some (.ref fXBadNode)))
  (lXBadNode:K.lookup fXBadNode=some ⟨ocXBadNode,odXBadNode,.func (PySem.W.fnOf "__init__" "BadNode.__init__" (zS zc5) (zK zc5) (zo zc5) .none kVXBadNode dcXBadNode pmXBadNode anXBadNode cdXBadNode ctXBadNode),slXBadNode⟩)
  (cXBadNode:PySem.W.codeIn K cdXBadNode "BadNode.__init__"=true)
  (kfXBadNode:PySem.W.keepIn K (.ref fXBadNode)=true)
  (fnXBadNode:PySem.W.isFn K (.ref fXBadNode)=true)
  (aXBadWay:PySem.W.nsIn K mainGlobals "BadWay"=some (some (.ref CBadWay)))
  (aXNotWhole:PySem.W.nsIn K mainGlobals "NotWhole"=some (some (.ref CNotWhole)))
  (aXOtherLetters:PySem.W.nsIn K mainGlobals "OtherLetters"=some (some (.ref COtherLetters)))
  (aXNotPolynomial:PySem.W.nsIn K mainGlobals "NotPolynomial"=some (some (.ref CNotPolynomial)))
  (aXNoRow:PySem.W.nsIn K mainGlobals "NoRow"=some (some (.ref CNoRow)))
  (xm0:zse K zaJ "UndivideError"=true)
  (aTKEPT_WORDS:PySem.W.nsIn K mainGlobals "KEPT_WORDS"=some (some (.ref GKEPT_WORDS)))
  (lTKEPT_WORDS:K.lookup GKEPT_WORDS=some ⟨.type "tuple",odTKEPT_WORDS,.seq itTKEPT_WORDS nTKEPT_WORDS,slTKEPT_WORDS⟩)
  (vTKEPT_WORDS:zM [.str "letters",.str "part",.str "rounds",.str "end",.str "give"] itTKEPT_WORDS.toList)
  (zTKEPT_WORDS:itTKEPT_WORDS.size<=sizeLine)
  (aIMOST_LETTERS:PySem.W.nsIn K mainGlobals "MOST_LETTERS"=some (some (.int 3 TMOST_LETTERS)))
  (aILONGEST_LETTER:PySem.W.nsIn K mainGlobals "LONGEST_LETTER"=some (some (.int 5 TLONGEST_LETTER)))
  (aTNOUGHT:PySem.W.nsIn K mainGlobals "NOUGHT"=some (some (.ref GNOUGHT)))
  (lTNOUGHT:K.lookup GNOUGHT=some ⟨.type "tuple",odTNOUGHT,.seq itTNOUGHT nTNOUGHT,slTNOUGHT⟩)
  (vTNOUGHT:zM [.int (0),.int (1)] itTNOUGHT.toList)
  (zTNOUGHT:itTNOUGHT.size<=sizeLine)
  : ∃ fd:FuncData,(∀ (s:Shared) (v:Value),BindsTo s fd ⟨[v],[]⟩ [("_law_script",v)])/\∀ base:Heap,K.In base->base.Ns mainGlobals mg->FnOk l.prog w K mg base CX0 7 fa fd ["_law_script"] (spV K 1 zhc):=by
 have e:=hfa.symm.trans (PySem.W.mg_of X G a27)
 cases e
 have hB:Bl mg ["isinstance", "int", "bool", "tuple", "len", "abs", "str", "all", "set", "enumerate", "range", "list", "ValueError"]:=Bl.cons (PySem.W.mg_none_of X G z0) (Bl.cons (PySem.W.mg_none_of X G z1) (Bl.cons (PySem.W.mg_none_of X G z2) (Bl.cons (PySem.W.mg_none_of X G z3) (Bl.cons (PySem.W.mg_none_of X G z4) (Bl.cons (PySem.W.mg_none_of X G z5) (Bl.cons (PySem.W.mg_none_of X G z6) (Bl.cons (PySem.W.mg_none_of X G z7) (Bl.cons (PySem.W.mg_none_of X G z8) (Bl.cons (PySem.W.mg_none_of X G z9) (Bl.cons (PySem.W.mg_none_of X G z10) (Bl.cons (PySem.W.mg_none_of X G z11) (Bl.cons (PySem.W.mg_none_of X G z12) (Bl.nil)))))))))))))
 refine⟨PySem.W.fnOf "law" "law" (zS zeW) (zK zeW) (zo zeW) .none kV27 dc27 pm27 an27 cd27 ct27,fun s v=>.of_eq rfl,fun base _ _=>?_⟩
 have hT:=zuG xt0
 have gXUndivideError:=PySem.W.mg_of X G aXUndivideError
 have gXBadText:=PySem.W.mg_of X G aXBadText
 have gXBadLetters:=PySem.W.mg_of X G aXBadLetters
 have xXBadLetters:XCal0 K mg "BadLetters" CBadLetters:=⟨aXBadLetters,(hT.cl _ _ _ rfl aXBadLetters).1.cl,gXBadLetters,kXBadLetters,iXBadLetters⟩
 have gXBadRow:=PySem.W.mg_of X G aXBadRow
 have gXNoOver:=PySem.W.mg_of X G aXNoOver
 have gXNoName:=PySem.W.mg_of X G aXNoName
 have gXTooMany:=PySem.W.mg_of X G aXTooMany
 have gXNoPaper:=PySem.W.mg_of X G aXNoPaper
 have gXBadNode:=PySem.W.mg_of X G aXBadNode
 have FXBadNode:=zao (st:=zc5) lXBadNode cXBadNode kfXBadNode
 have xXBadNode:XCal l.prog w K mg base "BadNode" CBadNode "at":=⟨aXBadNode,(hT.cl _ _ _ rfl aXBadNode).1.cl,(hT.cl _ _ _ rfl aXBadNode).2 _ (by decide),gXBadNode,kXBadNode,⟨_,_,iXBadNode,fnXBadNode,FXBadNode.binds (fun _ _ _ _ _ _ us hl=>by obtain⟨_,_,rfl⟩:=zgW hl; rfl),FXBadNode.ok (k:=0) ziH (fun vs H Q E h=>zoM h) fun cdv A outer s H vs Q E hr hsp=>⟨_,zjK (zn9 (pv 0) (pv 1) rfl),zoN hsp⟩⟩⟩
 have gXBadWay:=PySem.W.mg_of X G aXBadWay
 have gXNotWhole:=PySem.W.mg_of X G aXNotWhole
 have gXOtherLetters:=PySem.W.mg_of X G aXOtherLetters
 have gXNotPolynomial:=PySem.W.mg_of X G aXNotPolynomial
 have gXNoRow:=PySem.W.mg_of X G aXNoRow
 have hM:=zuK xm0 aXUndivideError
 have g_KEPT_WORDS:=PySem.W.mg_of X G aTKEPT_WORDS
 have gt_KEPT_WORDS:GTx K GKEPT_WORDS ["letters", "part", "rounds", "end", "give"]:=⟨_,itTKEPT_WORDS,nTKEPT_WORDS,lTKEPT_WORDS,rfl,rfl,zTKEPT_WORDS,vTKEPT_WORDS⟩
 have g_MOST_LETTERS:=PySem.W.mg_of X G aIMOST_LETTERS
 have g_LONGEST_LETTER:=PySem.W.mg_of X G aILONGEST_LETTER
 have g_NOUGHT:=PySem.W.mg_of X G aTNOUGHT
 have gt_NOUGHT:GTi K GNOUGHT [0,1]:=⟨_,itTNOUGHT,nTNOUGHT,lTNOUGHT,rfl,rfl,zTNOUGHT,vTNOUGHT⟩
 have F0:=zao (st:=zce) l0 c0 k0
 have C0:Cal l.prog w K mg base "is_number" 1 ["thing"] (spV K 1 zav):=⟨⟨_,_,zhU F0 hB  hT ,F0.binds (fun _ _ _ _ _ _ us hl=>by obtain⟨_,rfl⟩:=zfK hl; rfl),k0,PySem.W.mg_of X G a0⟩⟩
 have F1:=zao (st:=za5) l1 c1 k1
 have C1:Cal l.prog w K mg base "common_factor" 1 ["one", "other"] (spV K 2 za7):=⟨⟨_,_,zfg F1 hB  hT ,F1.binds (fun _ _ _ _ _ _ us hl=>by obtain⟨_,_,rfl⟩:=zgW hl; rfl),k1,PySem.W.mg_of X G a1⟩⟩
 have F2:=zao (st:=zbu) l2 c2 k2
 have C2:Cal l.prog w K mg base "is_fraction" 2 ["thing"] (spV K 1 zV):=⟨⟨_,_,zgv F2 hB  hT C0 C1,F2.binds (fun _ _ _ _ _ _ us hl=>by obtain⟨_,rfl⟩:=zfK hl; rfl),k2,PySem.W.mg_of X G a2⟩⟩
 have F3:=zao (st:=zcf) l3 c3 k3
 have C3:Cal l.prog w K mg base "is_letter" 1 ["thing"] (spV K 1 zck):=⟨⟨_,_,zhV F3 hB  hT g_KEPT_WORDS gt_KEPT_WORDS g_LONGEST_LETTER ,F3.binds (fun _ _ _ _ _ _ us hl=>by obtain⟨_,rfl⟩:=zfK hl; rfl),k3,PySem.W.mg_of X G a3⟩⟩
 have F4:=zao (st:=zbv) l4 c4 k4
 have C4:Cal l.prog w K mg base "are_letters" 2 ["things"] (spV K 1 zbB):=⟨⟨_,_,zgw F4 hB  hT g_MOST_LETTERS C3,F4.binds (fun _ _ _ _ _ _ us hl=>by obtain⟨_,rfl⟩:=zfK hl; rfl),k4,PySem.W.mg_of X G a4⟩⟩
 have F5:=zao (st:=zcw) l5 c5 k5
 have C5:Cal l.prog w K mg base "is_place" 2 ["thing", "many"] (spV K 2 zah):=⟨⟨_,_,ziI F5 hB  hT C0,F5.binds (fun _ _ _ _ _ _ us hl=>by obtain⟨_,_,rfl⟩:=zgW hl; rfl),k5,PySem.W.mg_of X G a5⟩⟩
 have F6:=zao (st:=zbj) l6 c6 k6
 have C6:CalX l.prog w K mg base "look_letters" 3 ["letters"] (spX K 1 zbn):=⟨⟨_,_,zfF F6 hB  hT aXBadLetters gXBadLetters xXBadLetters C4,F6.binds (fun _ _ _ _ _ _ us hl=>by obtain⟨_,rfl⟩:=zfK hl; rfl),k6,PySem.W.mg_of X G a6⟩⟩
 have F7:=zao (st:=zbN) l7 c7 k7
 have C7:Cal l.prog w K mg base "mix_degree" 3 ["pairs", "ahead"] (spV K 2 zaR):=⟨⟨_,_,zgS F7 hB  hT g_NOUGHT gt_NOUGHT C2 C5,F7.binds (fun _ _ _ _ _ _ us hl=>by obtain⟨_,_,rfl⟩:=zgW hl; rfl),k7,PySem.W.mg_of X G a7⟩⟩
 have F8:=zao (st:=zbk) l8 c8 k8
 have C8:Cal l.prog w K mg base "times_degree" 3 ["one", "other", "ahead"] (spV K 3 zbo):=⟨⟨_,_,zfG F8 hB  hT C5,F8.binds (fun _ _ _ _ _ _ us hl=>by obtain⟨_,_,_,rfl⟩:=zpM hl; rfl),k8,PySem.W.mg_of X G a8⟩⟩
 have F9:=zao (st:=zbw) l9 c9 k9
 have C9:Cal l.prog w K mg base "node_degree" 4 ["node", "ahead", "many_letters"] (spV K 3 zan):=⟨⟨_,_,zgy F9 hB  hT C5 C7 C8,F9.binds (fun _ _ _ _ _ _ us hl=>by obtain⟨_,_,_,rfl⟩:=zpM hl; rfl),k9,PySem.W.mg_of X G a9⟩⟩
 have F10:=zao (st:=zdB) l10 c10 k10
 have C10:Cal l.prog w K mg base "is_top" 3 ["top", "ahead"] (spV K 2 zb7):=⟨⟨_,_,zlc F10 hB  hT C2 C5,F10.binds (fun _ _ _ _ _ _ us hl=>by obtain⟨_,_,rfl⟩:=zgW hl; rfl),k10,PySem.W.mg_of X G a10⟩⟩
 have F11:=zao (st:=zcx) l11 c11 k11
 have C11:CalX l.prog w K mg base "look_net" 5 ["net"] (spX K 1 zcC):=⟨⟨_,_,ziJ F11 hB  hT aXBadNode gXBadNode xXBadNode C6 C9 C10,F11.binds (fun _ _ _ _ _ _ us hl=>by obtain⟨_,rfl⟩:=zfK hl; rfl),k11,PySem.W.mg_of X G a11⟩⟩
 have F12:=zao (st:=zcg) l12 c12 k12
 have C12:Cal l.prog w K mg base "_law_box" 1 ["_law_script", "_law_k"] (spV K 2 zbc):=⟨⟨_,_,zhW F12 hB  hT ,F12.binds (fun _ _ _ _ _ _ us hl=>by obtain⟨_,_,rfl⟩:=zgW hl; rfl),k12,PySem.W.mg_of X G a12⟩⟩
 have F13:=zao (st:=zbO) l13 c13 k13
 have C13:Cal l.prog w K mg base "_law_take" 1 ["_law_box_here", "_law_wide"] (spV K 2 zn):=⟨⟨_,_,zgQ F13 hB  hT ,F13.binds (fun _ _ _ _ _ _ us hl=>by obtain⟨_,_,rfl⟩:=zgW hl; rfl),k13,PySem.W.mg_of X G a13⟩⟩
 have F14:=zao (st:=zbx) l14 c14 k14
 have C14:Cal l.prog w K mg base "_law_names" 2 ["_law_box_here", "_law_many"] (spV K 2 zbd):=⟨⟨_,_,zgx F14 hB  hT C13,F14.binds (fun _ _ _ _ _ _ us hl=>by obtain⟨_,_,rfl⟩:=zgW hl; rfl),k14,PySem.W.mg_of X G a14⟩⟩
 have F15:=zao (st:=zaU) l15 c15 k15
 have C15:Cal l.prog w K mg base "_law_fraction" 1 ["_law_n", "_law_d"] (spV K 2 zaA):=⟨⟨_,_,zeX F15 hB  hT ,F15.binds (fun _ _ _ _ _ _ us hl=>by obtain⟨_,_,rfl⟩:=zgW hl; rfl),k15,PySem.W.mg_of X G a15⟩⟩
 have F16:=zao (st:=zbl) l16 c16 k16
 have C16:Cal l.prog w K mg base "_law_number" 2 ["_law_box_here"] (spV K 1 zaF):=⟨⟨_,_,zfE F16 hB  hT C13 C15,F16.binds (fun _ _ _ _ _ _ us hl=>by obtain⟨_,rfl⟩:=zfK hl; rfl),k16,PySem.W.mg_of X G a16⟩⟩
 have F17:=zao (st:=zbm) l17 c17 k17
 have C17:Cal l.prog w K mg base "_law_factor" 3 ["_law_box_here"] (spV K 1 zbp):=⟨⟨_,_,zfH F17 hB  hT C16,F17.binds (fun _ _ _ _ _ _ us hl=>by obtain⟨_,rfl⟩:=zfK hl; rfl),k17,PySem.W.mg_of X G a17⟩⟩
 have F18:=zao (st:=zch) l18 c18 k18
 have C18:Cal l.prog w K mg base "_law_mix" 4 ["_law_box_here", "_law_nodes_here", "_law_high_here", "_law_last"] (spV K 4 zcl):=⟨⟨_,_,zhY F18 hB  hT C13 C17,F18.binds (fun _ _ _ _ _ _ us hl=>by obtain⟨_,_,_,_,rfl⟩:=zwb hl; rfl),k18,PySem.W.mg_of X G a18⟩⟩
 have F20:=zao (st:=zbP) l20 c20 k20
 have C20:Cal l.prog w K mg base "_law_high" 1 ["_law_nodes_here"] (spV K 1 zaC):=⟨⟨_,_,zgR F20 hB  hT ,F20.binds (fun _ _ _ _ _ _ us hl=>by obtain⟨_,rfl⟩:=zfK hl; rfl),k20,PySem.W.mg_of X G a20⟩⟩
 have F19:=zao (st:=zby) l19 c19 k19
 have C19:Cal l.prog w K mg base "_law_nodes" 5 ["_law_box_here", "_law_many", "_law_nodes_here", "_law_most", "_law_deep"] (spV K 5 zbf):=⟨⟨_,_,zgz F19 hB  hT C13 C18 C20,F19.binds (fun _ _ _ _ _ _ us hl=>by obtain⟨_,_,_,_,_,rfl⟩:=zwc hl; rfl),k19,PySem.W.mg_of X G a19⟩⟩
 have F21:=zao (st:=zci) l21 c21 k21
 have C21:Cal l.prog w K mg base "_law_top" 3 ["_law_box_here", "_law_nodes_here", "_law_deep"] (spV K 3 zbI):=⟨⟨_,_,zhX F21 hB  hT C13 C16 C20,F21.binds (fun _ _ _ _ _ _ us hl=>by obtain⟨_,_,_,rfl⟩:=zpM hl; rfl),k21,PySem.W.mg_of X G a21⟩⟩
 have F22:=zao (st:=zbz) l22 c22 k22
 have C22:CalQ l.prog w K mg base "_law_whole" 1 ["_law_found"] (spV K 1 zbA):=⟨⟨_,_,zgu F22 hB  hT ,F22.binds (fun _ _ _ _ _ _ us hl=>by obtain⟨_,rfl⟩:=zfK hl; rfl),k22,PySem.W.mg_of X G a22⟩⟩
 have F23:=zao (st:=zbR) l23 c23 k23
 have C23:Cal l.prog w K mg base "_law_told" 6 ["_law_net"] (spV K 1 zt):=⟨⟨_,_,zgT F23 hB  hT aXUndivideError gXUndivideError aXBadText gXBadText aXBadLetters gXBadLetters aXBadRow gXBadRow aXNoOver gXNoOver aXNoName gXNoName aXTooMany gXTooMany aXNoPaper gXNoPaper aXBadNode gXBadNode aXBadWay gXBadWay aXNotWhole gXNotWhole aXOtherLetters gXOtherLetters aXNotPolynomial gXNotPolynomial aXNoRow gXNoRow hM C11 C22,F23.binds (fun _ _ _ _ _ _ us hl=>by obtain⟨_,rfl⟩:=zfK hl; rfl),k23,PySem.W.mg_of X G a23⟩⟩
 have F24:=zao (st:=zaV) l24 c24 k24
 have C24:Cal l.prog w K mg base "_law_bad_node" 2 ["_law_box_here", "_law_many", "_law_at"] (spV K 3 zaB):=⟨⟨_,_,zeY F24 hB  hT C13,F24.binds (fun _ _ _ _ _ _ us hl=>by obtain⟨_,_,_,rfl⟩:=zpM hl; rfl),k24,PySem.W.mg_of X G a24⟩⟩
 have F25:=zao (st:=za6) l25 c25 k25
 have C25:Cal l.prog w K mg base "_law_bad_top" 2 ["_law_box_here", "_law_many"] (spV K 2 zab):=⟨⟨_,_,zfh F25 hB  hT C13,F25.binds (fun _ _ _ _ _ _ us hl=>by obtain⟨_,_,rfl⟩:=zgW hl; rfl),k25,PySem.W.mg_of X G a25⟩⟩
 have F26:=zao (st:=zau) l26 c26 k26
 have C26:Cal l.prog w K mg base "_law_bad_letters" 2 ["_law_box_here"] (spV K 1 zai):=⟨⟨_,_,zd4 F26 hB  hT C13,F26.binds (fun _ _ _ _ _ _ us hl=>by obtain⟨_,rfl⟩:=zfK hl; rfl),k26,PySem.W.mg_of X G a26⟩⟩
 have F27:=zao (st:=zeW) l27 c27 k27
 exact zs9 F27 hB  hT C12 C13 C14 C19 C21 C23 C24 C25 C26
theorem walk{l:PySem.W.OpenLaw}{q:Program}{loose:List Str}{XP:(Str->Option Value)->Heap->Prop}{YP:World->Heap->Prop}{d:DefRec}{K:Params->PySem.W.Frag}(hn:l.most=some 63)(hdf:d.params.defaults=[])
  (hY:∀ (w:World) (h:Heap),YP w h->(K w.params).In h)
  (F:∀ (w:World) (mg:Str->Option Value) (fa:Addr) (h:Heap),(K w.params).In h->h.Ns mainGlobals mg->mg d.name=some (.ref fa) ->
   ∃ fd:FuncData,(∀ (s:Shared) (u:Value),BindsTo s fd ⟨[u],[]⟩ [("_law_script",u)])/\∀ base:Heap,(K w.params).In base->base.Ns mainGlobals mg->FnOk l.prog w (K w.params) mg base CX0 7 fa fd ["_law_script"] (zno (K w.params))) :
  PySem.W.WalkO q loose XP YP l.row.toRowW d [] (fun f vs=>PySem.call f vs) :=
 L2.walk_of (n:=63) (k:=7) (x := "_law_script") (CX:=fun _=>CX0) (sp:=fun w=>zno (K w.params)) hn (by decide) hdf ⟨rfl,by decide,by decide,rfl⟩ hY F (fun w H a ns hl hO hS=>zrC hO hS (ztq ns hl)) fun _ _ _ _ _ z=>z
end K31
def PySem.W.Fast.tw1889526503200156290:Unit:=()
def PySem.W.Fast.tw3195233935089150467:Unit:=()
def PySem.W.Fast.tw15501598444750980721:Unit:=()
def PySem.W.Fast.tw18277156125563453829:Unit:=()
def PySem.W.Fast.tw354481145498637462:Unit:=()
def PySem.W.Fast.tw4202112405173433841:Unit:=()
def PySem.W.Fast.tw17233742333371230056:Unit:=()
def PySem.W.Fast.tw8762477634672330330:Unit:=()
def PySem.W.Fast.tw2949803808631788717:Unit:=()
def PySem.W.Fast.tw15032424423268616446:Unit:=()
def PySem.W.Fast.tw18438831848960535779:Unit:=()
def PySem.W.Fast.tw9569035813774162129:Unit:=()
def PySem.W.Fast.tw16428340207593980405:Unit:=()
def PySem.W.Fast.tw14414155218329601101:Unit:=()
def PySem.W.Fast.tw24810982525812551:Unit:=()
def PySem.W.Fast.tw11253934849698404541:Unit:=()
def PySem.W.Fast.tw13908972303804354297:Unit:=()
def PySem.W.Fast.tw13841261578459404225:Unit:=()
def PySem.W.Fast.tw17960930651107521657:Unit:=()
def PySem.W.Fast.tw1192776484436935492:Unit:=()
def PySem.W.Fast.tw1685677320835926716:Unit:=()
def PySem.W.Fast.tw7752532328262319458:Unit:=()
def PySem.W.Fast.tw17904318018755247913:Unit:=()
def PySem.W.Fast.tw3590262055176832061:Unit:=()
def PySem.W.Fast.tw16765561870557434982:Unit:=()
def PySem.W.Fast.tw6876794725153442541:Unit:=()
def PySem.W.Fast.tw14647091363071192697:Unit:=()
def PySem.W.Fast.tw1645931566240432655:Unit:=()
def PySem.W.Fast.tw16329445994454275264:Unit:=()
def PySem.W.Fast.tw8644090236317224332:Unit:=()
def PySem.W.Fast.tw1763314417457711087:Unit:=()
def PySem.W.Fast.tw16453987290070877201:Unit:=()
def PySem.W.Fast.tw6541691245129719345:Unit:=()
def PySem.W.Fast.tw9034681637510903730:Unit:=()
def PySem.W.Fast.tw2674268729571969710:Unit:=()
def PySem.W.Fast.tw1954606684299114645:Unit:=()
def PySem.W.Fast.tw7969173961487468250:Unit:=()
def PySem.W.Fast.tw9903291160036696615:Unit:=()
def PySem.W.Fast.tw7425956890955956533:Unit:=()
def PySem.W.Fast.tw7177719958380244617:Unit:=()
def PySem.W.Fast.tw15102734790859047058:Unit:=()
def PySem.W.Fast.tw15726966370760778329:Unit:=()
def PySem.W.Fast.tw13777481625794072197:Unit:=()
def PySem.W.Fast.tw13010461011330248459:Unit:=()
def PySem.W.Fast.tw15276754765584376359:Unit:=()
def PySem.W.Fast.tw11577129344873686879:Unit:=()
def PySem.W.Fast.tw8233807192107070525:Unit:=()
def PySem.W.Fast.tw16475479622993947336:Unit:=()
def PySem.W.Fast.tw2982704697211956614:Unit:=()
def PySem.W.Fast.tw15646445144420170864:Unit:=()
def PySem.W.Fast.tw13472677718669899788:Unit:=()
def PySem.W.Fast.tw8079354861953816431:Unit:=()
def PySem.W.Fast.tw14681837894624288970:Unit:=()
def PySem.W.Fast.tw3026250817335325950:Unit:=()
def PySem.W.Fast.tw2679434214200150613:Unit:=()
def PySem.W.Fast.tw12979441186463589013:Unit:=()
def PySem.W.Fast.tw14874033714339463544:Unit:=()
def PySem.W.Fast.tw3019711498982824750:Unit:=()
def PySem.W.Fast.tw18301733311927050451:Unit:=()
def PySem.W.Fast.tw4518728818157364568:Unit:=()
def PySem.W.Fast.tw322695176050509649:Unit:=()
def PySem.W.Fast.tw419822087619445217:Unit:=()
def PySem.W.Fast.tw224977968323400422:Unit:=()
def PySem.W.Fast.tw7901502728267510263:Unit:=()
def PySem.W.Fast.tw2765377795582363774:Unit:=()
def PySem.W.Fast.tw8406834829722317853:Unit:=()
def PySem.W.Fast.tw15172293773399316713:Unit:=()
def PySem.W.Fast.tw1990276112380169181:Unit:=()
def PySem.W.Fast.tw11423096029624090478:Unit:=()
def PySem.W.Fast.tw8769131067673074939:Unit:=()
def PySem.W.Fast.tw13957358479874138521:Unit:=()
def PySem.W.Fast.tw2611204269193931533:Unit:=()
def PySem.W.Fast.tw10833228135518525055:Unit:=()
def PySem.W.Fast.tw6205164974699309519:Unit:=()
def PySem.W.Fast.tw2000354335733415465:Unit:=()
def PySem.W.Fast.tw7439285859689033298:Unit:=()
def PySem.W.Fast.tw15603226700152736804:Unit:=()
def PySem.W.Fast.tw687463942643820937:Unit:=()
def PySem.W.Fast.tw11189069732247874417:Unit:=()
def PySem.W.Fast.tw3553677252452401436:Unit:=()
def PySem.W.Fast.tw1035363866718900141:Unit:=()
def PySem.W.Fast.tw5107571724085065975:Unit:=()
def PySem.W.Fast.tw9044204233749270599:Unit:=()
def PySem.W.Fast.tw9616495837171087629:Unit:=()
def PySem.W.Fast.tw5024533598966715793:Unit:=()
def PySem.W.Fast.tw7005756084548891013:Unit:=()
def PySem.W.Fast.tw9829451877458203627:Unit:=()
def PySem.W.Fast.tw3095706544539557271:Unit:=()
def PySem.W.Fast.tw6377061248861854785:Unit:=()
def PySem.W.Fast.tw12705939745125827382:Unit:=()
def PySem.W.Fast.tw6638045910793662563:Unit:=()
def PySem.W.Fast.tw5302538813017953503:Unit:=()
def PySem.W.Fast.tw1316388280608317563:Unit:=()
def PySem.W.Fast.tw7568752942230561691:Unit:=()
def PySem.W.Fast.tw16432293683966657976:Unit:=()
def PySem.W.Fast.tw12185838624124266434:Unit:=()
def PySem.W.Fast.tw2416930067225560376:Unit:=()
def PySem.W.Fast.tw8776885488498709649:Unit:=()
def PySem.W.Fast.tw4160853311100706640:Unit:=()
def PySem.W.Fast.tw13852273743572211469:Unit:=()
def PySem.W.Fast.tw17914511468051177348:Unit:=()
def PySem.W.Fast.tw10783031545186861081:Unit:=()
def PySem.W.Fast.tw244035091022969898:Unit:=()
def PySem.W.Fast.tw13192481371761958166:Unit:=()
def PySem.W.Fast.tw9996357952247623049:Unit:=()
def PySem.W.Fast.tw8855410626588112275:Unit:=()
def PySem.W.Fast.tw15206960572331546988:Unit:=()
def PySem.W.Fast.tw13775970149353518782:Unit:=()
def PySem.W.Fast.tw14740835702633502606:Unit:=()
def PySem.W.Fast.tw4095323352474955222:Unit:=()
def PySem.W.Fast.tw5087786622193410985:Unit:=()
def PySem.W.Fast.tw590631568994151782:Unit:=()
def PySem.W.Fast.tw5830121299109299718:Unit:=()
def PySem.W.Fast.tw6131651898219639946:Unit:=()
def PySem.W.Fast.tw8162957988379269120:Unit:=()
def PySem.W.Fast.tw17408427828193296932:Unit:=()
def PySem.W.Fast.tw16359304919782523622:Unit:=()
def PySem.W.Fast.tw5608508394359861674:Unit:=()
def PySem.W.Fast.tw1444574204414718289:Unit:=()
def PySem.W.Fast.tw12039745605221268773:Unit:=()
def PySem.W.Fast.tw5673604780372333800:Unit:=()
def PySem.W.Fast.tw9054598334052360992:Unit:=()
def PySem.W.Fast.tw11558900065058140907:Unit:=()
def PySem.W.Fast.tw10757401301803393340:Unit:=()
def PySem.W.Fast.tw5219923943732965107:Unit:=()
def PySem.W.Fast.tw16392859924491610768:Unit:=()
def PySem.W.Fast.tw7254846834760903522:Unit:=()
def PySem.W.Fast.tw15614293332499222379:Unit:=()
def PySem.W.Fast.tw15843467176521420542:Unit:=()
def PySem.W.Fast.tw11885645440145616229:Unit:=()
def PySem.W.Fast.tw17280340302854833099:Unit:=()
def PySem.W.Fast.tw18386084697732104845:Unit:=()
def PySem.W.Fast.tw4738535335896626559:Unit:=()
def PySem.W.Fast.tw4884791910222838104:Unit:=()
def PySem.W.Fast.tw3664632932306109824:Unit:=()
def PySem.W.Fast.tw7294775230332035789:Unit:=()
def PySem.W.Fast.tw11065462825892529704:Unit:=()
def PySem.W.Fast.tw764887986382892672:Unit:=()
def PySem.W.Fast.tw14103196811223236327:Unit:=()
def PySem.W.Fast.tw14693700308244004774:Unit:=()
def PySem.W.Fast.tw10380575170407671016:Unit:=()
def PySem.W.Fast.tw7809193829731444099:Unit:=()
def PySem.W.Fast.tw8449671735545390227:Unit:=()
def PySem.W.Fast.tw12496253047398163349:Unit:=()
def PySem.W.Fast.tw15929432353888067019:Unit:=()
def PySem.W.Fast.tw4141888807215357726:Unit:=()
def PySem.W.Fast.tw17380259464277174139:Unit:=()
def PySem.W.Fast.tw3828887357746791123:Unit:=()
def PySem.W.Fast.tw14259378789836343562:Unit:=()
def PySem.W.Fast.tw15133268927752214479:Unit:=()
def PySem.W.Fast.tw16099789274066280413:Unit:=()
def PySem.W.Fast.tw10609511013494080094:Unit:=()
def PySem.W.Fast.tw8892975802586451367:Unit:=()
def PySem.W.Fast.tw2057579987461443664:Unit:=()
def PySem.W.Fast.tw516293609119842282:Unit:=()
def PySem.W.Fast.tw16612369310364147144:Unit:=()
def PySem.W.Fast.tw15551935714878925455:Unit:=()
def PySem.W.Fast.tw15491520671178505181:Unit:=()
def PySem.W.Fast.tw16491500021728700601:Unit:=()
def PySem.W.Fast.tw15920075442998840824:Unit:=()
def PySem.W.Fast.tw17199248607822934639:Unit:=()
def PySem.W.Fast.tw597610867169457113:Unit:=()
def PySem.W.Fast.tw187249785542698058:Unit:=()
def PySem.W.Fast.tw16472842026054236464:Unit:=()
def PySem.W.Fast.tw15495355471105832420:Unit:=()
def PySem.W.Fast.tw17769037110536243465:Unit:=()
def PySem.W.Fast.tw3570453246604878201:Unit:=()
def PySem.W.Fast.tw6135773299130681943:Unit:=()
def PySem.W.Fast.tw2465369753294592773:Unit:=()
def PySem.W.Fast.tw14445219968813604871:Unit:=()
def PySem.W.Fast.tw12619621181650879622:Unit:=()
def PySem.W.Fast.tw1056347168977441137:Unit:=()
def PySem.W.Fast.tw11535523192376550153:Unit:=()
def PySem.W.Fast.tw4614642952633953629:Unit:=()
def PySem.W.Fast.tw6845106633450020809:Unit:=()
def PySem.W.Fast.tw16657382678707814247:Unit:=()
def PySem.W.Fast.tw9064968141590977784:Unit:=()
def PySem.W.Fast.tw15980854369860621836:Unit:=()
def PySem.W.Fast.tw15712870469542200426:Unit:=()
def PySem.W.Fast.tw17316017917005653770:Unit:=()
def PySem.W.Fast.tw14875419035930095157:Unit:=()
def PySem.W.Fast.tw856945116677686788:Unit:=()
def PySem.W.Fast.tw27979396421293993:Unit:=()
def PySem.W.Fast.tw4124906146171689871:Unit:=()
def PySem.W.Fast.tw10056923534700478808:Unit:=()
def PySem.W.Fast.tw7587034816462935450:Unit:=()
def PySem.W.Fast.tw16694822979482065665:Unit:=()
def PySem.W.Fast.tw16275888418377823000:Unit:=()
def PySem.W.Fast.tw14311136313784425419:Unit:=()
def PySem.W.Fast.tw9648895012199010650:Unit:=()
def PySem.W.Fast.tw5671217696314087340:Unit:=()
def PySem.W.Fast.tw1603485372928718872:Unit:=()
def PySem.W.Fast.tw6436114242798176087:Unit:=()
def PySem.W.Fast.tw7257286379557857778:Unit:=()
def PySem.W.Fast.tw4552436471740780127:Unit:=()
def PySem.W.Fast.tw6338530667268123914:Unit:=()
def PySem.W.Fast.tw17232447468368819605:Unit:=()
def PySem.W.Fast.tw3735989921136994605:Unit:=()
def PySem.W.Fast.tw5388009445347432659:Unit:=()
def PySem.W.Fast.tw10447444536574059722:Unit:=()
def PySem.W.Fast.tw3443261234472849252:Unit:=()
def PySem.W.Fast.tw13830273328415239033:Unit:=()
def PySem.W.Fast.tw9049637717311240263:Unit:=()
def PySem.W.Fast.tw16339239828543454098:Unit:=()
def PySem.W.Fast.tw3663810641002255501:Unit:=()
def PySem.W.Fast.tw11663867987787773312:Unit:=()
def PySem.W.Fast.tw17859695506428294288:Unit:=()
def PySem.W.Fast.tw6452706799353099501:Unit:=()
def PySem.W.Fast.tw12896590078468093851:Unit:=()
def PySem.W.Fast.tw4970388800402142973:Unit:=()
def PySem.W.Fast.tw8282554268727541042:Unit:=()
def PySem.W.Fast.tw8333047092196265191:Unit:=()
def PySem.W.Fast.tw17061058798558366114:Unit:=()
def PySem.W.Fast.tw12269680928705301701:Unit:=()
def PySem.W.Fast.tw9618471045818869121:Unit:=()
def PySem.W.Fast.tw7052919776146908598:Unit:=()
def PySem.W.Fast.tw3383677008341278664:Unit:=()
def PySem.W.Fast.tw9936582965406001905:Unit:=()
def PySem.W.Fast.tw5235056059039310873:Unit:=()
def PySem.W.Fast.tw1016323726544040227:Unit:=()
def PySem.W.Fast.tw14179552344659734615:Unit:=()
def PySem.W.Fast.tw1812095420273687015:Unit:=()
def PySem.W.Fast.tw17642442758343480627:Unit:=()
def PySem.W.Fast.tw1269696762245816542:Unit:=()
def PySem.W.Fast.tw2466921203008804851:Unit:=()
def PySem.W.Fast.tw16658406704112801134:Unit:=()
def PySem.W.Fast.tw18092131587907955615:Unit:=()
def PySem.W.Fast.tw17724584246148236129:Unit:=()
def PySem.W.Fast.tw197373573621803894:Unit:=()
def PySem.W.Fast.tw18037249461095888495:Unit:=()
def PySem.W.Fast.tw447772603206603512:Unit:=()
def PySem.W.Fast.tw6669281497480321810:Unit:=()
def PySem.W.Fast.tw17286231231059481341:Unit:=()
def PySem.W.Fast.tw6152815966583930732:Unit:=()
def PySem.W.Fast.tw8883875573227037326:Unit:=()
def PySem.W.Fast.tw12337344406048184728:Unit:=()
def PySem.W.Fast.tw2137320682722678431:Unit:=()
def PySem.W.Fast.tw16560561692429292141:Unit:=()
def PySem.W.Fast.tw15979728627532880103:Unit:=()
def PySem.W.Fast.tw10548212303527574592:Unit:=()
def PySem.W.Fast.tw9243720619957013984:Unit:=()
def PySem.W.Fast.tw11955485844634527756:Unit:=()
def PySem.W.Fast.tw14191991765565009443:Unit:=()
def PySem.W.Fast.tw13402704614798217097:Unit:=()
def PySem.W.Fast.tw164606594635269771:Unit:=()
def PySem.W.Fast.tw5720226821733537525:Unit:=()
def PySem.W.Fast.tw10544139395515404716:Unit:=()
def PySem.W.Fast.tw6485186932876722645:Unit:=()
def PySem.W.Fast.tw16291341963584656947:Unit:=()
def PySem.W.Fast.tw2969449183077429601:Unit:=()
def PySem.W.Fast.tw17044257737725225752:Unit:=()
def PySem.W.Fast.tw494861308959258124:Unit:=()
def PySem.W.Fast.tw4817519035354983930:Unit:=()
def PySem.W.Fast.tw16509105799164249898:Unit:=()
def PySem.W.Fast.tw3632667101017147821:Unit:=()
def PySem.W.Fast.tw11263494803620715724:Unit:=()
def PySem.W.Fast.tw14606524270048355981:Unit:=()
def PySem.W.Fast.tw12688133016503106906:Unit:=()
def PySem.W.Fast.tw2275283085393105341:Unit:=()
def PySem.W.Fast.tw2820506326004791952:Unit:=()
def PySem.W.Fast.tw2058196611231645968:Unit:=()
def PySem.W.Fast.tw5793214959697736655:Unit:=()
def PySem.W.Fast.tw7163873701325163553:Unit:=()
def PySem.W.Fast.tw4662971513858702610:Unit:=()
def PySem.W.Fast.tw14244119760704277001:Unit:=()
def PySem.W.Fast.tw8569517112533863900:Unit:=()
def PySem.W.Fast.tw15826952638258819439:Unit:=()
def PySem.W.Fast.tw1097709442529778506:Unit:=()
def PySem.W.Fast.tw12946826069871642486:Unit:=()
def PySem.W.Fast.tw3677555032907427066:Unit:=()
def PySem.W.Fast.tw9557296768895531882:Unit:=()
def PySem.W.Fast.tw16869062679603560713:Unit:=()
def PySem.W.Fast.tw7608466267721975363:Unit:=()
def PySem.W.Fast.tw12495999990057290945:Unit:=()
def PySem.W.Fast.tw10920758861002957180:Unit:=()
def PySem.W.Fast.tw6088285070410196600:Unit:=()
def PySem.W.Fast.tw11614118924304573716:Unit:=()
def PySem.W.Fast.tw3769435665471754655:Unit:=()
def PySem.W.Fast.tw4289313163988567467:Unit:=()
def PySem.W.Fast.tw16950878255096350006:Unit:=()
def PySem.W.Fast.tw5037550638630478058:Unit:=()
def PySem.W.Fast.tw8680036986573383221:Unit:=()
def PySem.W.Fast.tw12018465260649926717:Unit:=()
def PySem.W.Fast.tw8273074627985144184:Unit:=()
def PySem.W.Fast.tw908974608216951441:Unit:=()
def PySem.W.Fast.tw3544516119962475582:Unit:=()
def PySem.W.Fast.tw16918466735543398091:Unit:=()
def PySem.W.Fast.tw652154416631902594:Unit:=()
def PySem.W.Fast.tw18426427372885111032:Unit:=()
open PySem PySem.W PyProof.Rows
set_option maxRecDepth 100000 in
set_option maxHeartbeats 0 in
theorem PySem.Challenge.cw_undivide_k31_nets_looked_at_holds : PySem.Challenge.rw_undivide_k31_nets_looked_at.Holds := by
 w_on; o_law; k_head; (case hw=>w_witness2)
 k_fill
 refine K31.walk (l:=PySem.Challenge.rw_undivide_k31_nets_looked_at) rfl rfl (fun w h Y=>PySem.W.kIn_of Y) ?F
 case F =>
  intro w mg fa h KX G hmg
  refine' K31.all_mk KX G hmg ?a0 ?l0 ?c0 ?k0 ?a1 ?l1 ?c1 ?k1 ?a2 ?l2 ?c2 ?k2 ?a3 ?l3 ?c3 ?k3 ?a4 ?l4 ?c4 ?k4 ?a5 ?l5 ?c5 ?k5 ?a6 ?l6 ?c6 ?k6 ?a7 ?l7 ?c7 ?k7 ?a8 ?l8 ?c8 ?k8 ?a9 ?l9 ?c9 ?k9 ?a10 ?l10 ?c10 ?k10 ?a11 ?l11 ?c11 ?k11 ?a12 ?l12 ?c12 ?k12 ?a13 ?l13 ?c13 ?k13 ?a14 ?l14 ?c14 ?k14 ?a15 ?l15 ?c15 ?k15 ?a16 ?l16 ?c16 ?k16 ?a17 ?l17 ?c17 ?k17 ?a18 ?l18 ?c18 ?k18 ?a19 ?l19 ?c19 ?k19 ?a20 ?l20 ?c20 ?k20 ?a21 ?l21 ?c21 ?k21 ?a22 ?l22 ?c22 ?k22 ?a23 ?l23 ?c23 ?k23 ?a24 ?l24 ?c24 ?k24 ?a25 ?l25 ?c25 ?k25 ?a26 ?l26 ?c26 ?k26 ?a27 ?l27 ?c27 ?k27 ?z0 ?z1 ?z2 ?z3 ?z4 ?z5 ?z6 ?z7 ?z8 ?z9 ?z10 ?z11 ?z12 ?xt0 ?aXUndivideError ?aXBadText ?aXBadLetters ?kXBadLetters ?iXBadLetters ?aXBadRow ?aXNoOver ?aXNoName ?aXTooMany ?aXNoPaper ?aXBadNode ?kXBadNode ?iXBadNode ?lXBadNode ?cXBadNode ?kfXBadNode ?fnXBadNode ?aXBadWay ?aXNotWhole ?aXOtherLetters ?aXNotPolynomial ?aXNoRow ?xm0 ?aTKEPT_WORDS ?lTKEPT_WORDS ?vTKEPT_WORDS ?zTKEPT_WORDS ?aIMOST_LETTERS ?aILONGEST_LETTER ?aTNOUGHT ?lTNOUGHT ?vTNOUGHT ?zTNOUGHT
  (case a0=>k_is)
  (case l0=>k_is)
  (case c0=>k_is)
  (case k0=>k_is)
  (case a1=>k_is)
  (case l1=>k_is)
  (case c1=>k_is)
  (case k1=>k_is)
  (case a2=>k_is)
  (case l2=>k_is)
  (case c2=>k_is)
  (case k2=>k_is)
  (case a3=>k_is)
  (case l3=>k_is)
  (case c3=>k_is)
  (case k3=>k_is)
  (case a4=>k_is)
  (case l4=>k_is)
  (case c4=>k_is)
  (case k4=>k_is)
  (case a5=>k_is)
  (case l5=>k_is)
  (case c5=>k_is)
  (case k5=>k_is)
  (case a6=>k_is)
  (case l6=>k_is)
  (case c6=>k_is)
  (case k6=>k_is)
  (case a7=>k_is)
  (case l7=>k_is)
  (case c7=>k_is)
  (case k7=>k_is)
  (case a8=>k_is)
  (case l8=>k_is)
  (case c8=>k_is)
  (case k8=>k_is)
  (case a9=>k_is)
  (case l9=>k_is)
  (case c9=>k_is)
  (case k9=>k_is)
  (case a10=>k_is)
  (case l10=>k_is)
  (case c10=>k_is)
  (case k10=>k_is)
  (case a11=>k_is)
  (case l11=>k_is)
  (case c11=>k_is)
  (case k11=>k_is)
  (case a12=>k_is)
  (case l12=>k_is)
  (case c12=>k_is)
  (case k12=>k_is)
  (case a13=>k_is)
  (case l13=>k_is)
  (case c13=>k_is)
  (case k13=>k_is)
  (case a14=>k_is)
  (case l14=>k_is)
  (case c14=>k_is)
  (case k14=>k_is)
  (case a15=>k_is)
  (case l15=>k_is)
  (case c15=>k_is)
  (case k15=>k_is)
  (case a16=>k_is)
  (case l16=>k_is)
  (case c16=>k_is)
  (case k16=>k_is)
  (case a17=>k_is)
  (case l17=>k_is)
  (case c17=>k_is)
  (case k17=>k_is)
  (case a18=>k_is)
  (case l18=>k_is)
  (case c18=>k_is)
  (case k18=>k_is)
  (case a19=>k_is)
  (case l19=>k_is)
  (case c19=>k_is)
  (case k19=>k_is)
  (case a20=>k_is)
  (case l20=>k_is)
  (case c20=>k_is)
  (case k20=>k_is)
  (case a21=>k_is)
  (case l21=>k_is)
  (case c21=>k_is)
  (case k21=>k_is)
  (case a22=>k_is)
  (case l22=>k_is)
  (case c22=>k_is)
  (case k22=>k_is)
  (case a23=>k_is)
  (case l23=>k_is)
  (case c23=>k_is)
  (case k23=>k_is)
  (case a24=>k_is)
  (case l24=>k_is)
  (case c24=>k_is)
  (case k24=>k_is)
  (case a25=>k_is)
  (case l25=>k_is)
  (case c25=>k_is)
  (case k25=>k_is)
  (case a26=>k_is)
  (case l26=>k_is)
  (case c26=>k_is)
  (case k26=>k_is)
  (case a27=>k_is)
  (case l27=>k_is)
  (case c27=>k_is)
  (case k27=>k_is)
  (case z0=>k_is)
  (case z1=>k_is)
  (case z2=>k_is)
  (case z3=>k_is)
  (case z4=>k_is)
  (case z5=>k_is)
  (case z6=>k_is)
  (case z7=>k_is)
  (case z8=>k_is)
  (case z9=>k_is)
  (case z10=>k_is)
  (case z11=>k_is)
  (case z12=>k_is)
  (case xt0=>kernel_rfl)
  (case aXUndivideError=>k_is)
  (case aXBadText=>k_is)
  (case aXBadLetters=>k_is)
  (case kXBadLetters=>k_is)
  (case iXBadLetters=>k_is)
  (case aXBadRow=>k_is)
  (case aXNoOver=>k_is)
  (case aXNoName=>k_is)
  (case aXTooMany=>k_is)
  (case aXNoPaper=>k_is)
  (case aXBadNode=>k_is)
  (case kXBadNode=>k_is)
  (case iXBadNode=>k_is)
  (case lXBadNode=>k_is)
  (case cXBadNode=>k_is)
  (case kfXBadNode=>k_is)
  (case fnXBadNode=>k_is)
  (case aXBadWay=>k_is)
  (case aXNotWhole=>k_is)
  (case aXOtherLetters=>k_is)
  (case aXNotPolynomial=>k_is)
  (case aXNoRow=>k_is)
  (case xm0=>kernel_rfl)
  (case aTKEPT_WORDS=>k_is)
  (case lTKEPT_WORDS=>k_is)
  (case vTKEPT_WORDS=>(repeat (first | exact .nil | refine .cons ⟨_,rfl⟩ ?_)))
  (case zTKEPT_WORDS=>exact by decide)
  (case aIMOST_LETTERS=>k_is)
  (case aILONGEST_LETTER=>k_is)
  (case aTNOUGHT=>k_is)
  (case lTNOUGHT=>k_is)
  (case vTNOUGHT=>(repeat (first | exact .nil | refine .cons ⟨_,rfl⟩ ?_)))
  (case zTNOUGHT=>exact by decide)
