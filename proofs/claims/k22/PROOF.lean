import PyProof.Rows.All
import Wide.All
import OpenK.AllK
import Wide.FinOn
import Lean
import PyProof.EqAt
import PyProof.EqKinds
import PyProof.TupleCall
import PyProof.Rows.EnumRows
import PyProof.EnumMake
import KE.KIntText
import PySem.Challenge.RW_rowblade_k22_a_line_read
set_option Elab.async false
set_option linter.all false
set_option maxRecDepth 100000
set_option compiler.extract_closed false
noncomputable section
namespace L2
open PySem PySem.Spec PyProof.Rows
abbrev Key:=Sum Int Str
def k7:Key->Value->Bool
 | .inl k,v=>Value.isInt k v
 | .inr x,v=>Value.isStrOf x v
def WN (w:World):Key->Int
 | .inl k=>hashInt k
 | .inr x=>hashStr w x
theorem bL:∀ {k:Key}{v:Value},k7 k v=true->(∃ i t,k=Sum.inl i/\v=Value.int i t)\/(∃ x t,k=Sum.inr x/\v=Value.str x t)
 | .inl i,v,h=>by
  obtain ⟨t,e⟩:=Value.isInt_shape (k:=i) (v:=v) h
  exact .inl ⟨i,t,rfl,e⟩
 | .inr x,v,h=>by
  obtain ⟨t,e⟩:=Value.isStrOf_shape (x:=x) (v:=v) h
  exact .inr ⟨x,t,rfl,e⟩
theorem vX (i:Int) (t:Tok):k7 (.inl i) (.int i t)=true:=by simp [k7,Value.isInt]
theorem vY (x:Str) (t:Tok):k7 (.inr x) (.str x t)=true:=by simp [k7,Value.isStrOf]
theorem IJ (a b:Int):decide ((Sum.inl a:Key)=Sum.inl b)=(a == b):=by
 by_cases e:a=b
 ·subst e;simp
 ·have h:¬ (Sum.inl a:Key)=Sum.inl b:=fun q=>e (Sum.inl.inj q)
  rw [decide_eq_false h]
  exact (beq_eq_false_iff_ne.mpr e).symm
theorem IK (a b:Str):decide ((Sum.inr a:Key)=Sum.inr b)=decide (a=b):=by
 by_cases e:a=b
 ·subst e;simp
 ·have h:¬ (Sum.inr a:Key)=Sum.inr b:=fun q=>e (Sum.inr.inj q)
  rw [decide_eq_false h,decide_eq_false e]
theorem IL (a:Int) (b:Str):decide ((Sum.inl a:Key)=Sum.inr b)=false:=decide_eq_false (fun q=>nomatch q)
theorem IM (a:Str) (b:Int):decide ((Sum.inr a:Key)=Sum.inl b)=false:=decide_eq_false (fun q=>nomatch q)
def b9 (prog:Program) (w:World):PySem.KeyKind prog w Key where
 is:=k7
 hash:=WN w
 inj:=fun v a b ha hb=>by
  rcases bL ha with ⟨i,t,rfl,rfl⟩ | ⟨x,t,rfl,rfl⟩
  ·rcases bL hb with ⟨j,u,rfl,e⟩ | ⟨y,u,rfl,e⟩
   ·injection e with e1 _;rw [e1]
   ·exact nomatch e
  ·rcases bL hb with ⟨j,u,rfl,e⟩ | ⟨y,u,rfl,e⟩
   ·exact nomatch e
   ·injection e with e1 _;rw [e1]
 byValue:=fun k v h=>by
  rcases bL h with ⟨i,t,rfl,rfl⟩ | ⟨x,t,rfl,rfl⟩<;>rfl
 pyHash:=fun hv h=>by
  rcases bL hv with ⟨i,t,rfl,rfl⟩ | ⟨x,t,rfl,rfl⟩
  ·exact wpAny_pyHash_int h
  ·exact wpAny_pyHash_str h
 eqBool:=fun hu hv h=>by
  rcases bL hu with ⟨i,t,rfl,rfl⟩ | ⟨x,t,rfl,rfl⟩
  ·rcases bL hv with ⟨j,u,rfl,rfl⟩ | ⟨y,u,rfl,rfl⟩
   ·rw [IJ] at h;exact wpAny_eqBool_int h
   ·rw [IL] at h;exact SeqAt.EqAt.int_str i t y u _ _ _ _ h
  ·rcases bL hv with ⟨j,u,rfl,rfl⟩ | ⟨y,u,rfl,rfl⟩
   ·rw [IM] at h;exact SeqAt.EqAt.str_int x t j u _ _ _ _ h
   ·rw [IK] at h;exact wpAny_eqBool_str h
 «strs»:=fun k x t v h=>by
  rcases bL h with ⟨i,u,rfl,e⟩ | ⟨y,u,rfl,e⟩
  ·exact nomatch e
  ·injection e with e1 _
   subst e1
   cases v<;>rfl
theorem nX (prog:Program) (w:World) (i:Int) (t:Tok):(b9 prog w).is (.inl i) (.int i t)=true:=vX i t
theorem nY (prog:Program) (w:World) (x:Str) (t:Tok):(b9 prog w).is (.inr x) (.str x t)=true:=vY x t
inductive V where
 | non | bl (b:Bool) | int (i:Int) | str (x:Str) | byt (b:Array UInt8) | flt (b:UInt64) | ref (a:Addr) | ty (n:String)
 deriving DecidableEq
def RelV:V->Value->Prop
 | .non,u=>u=Value.none
 | .bl b,u=>u=Value.bool b
 | .int i,u=>∃ t,u=Value.int i t
 | .str x,u=>∃ t,u=Value.str x t
 | .byt b,u=>∃ t,u=Value.bytes b t
 | .flt b,u=>∃ t,u=Value.float b t
 | .ref a,u=>u=Value.ref a
 | .ty n,u=>u=Value.type n
abbrev Vals:List V->List Value->Prop:=Paired RelV
theorem Vals.length {xs:List V}{us:List Value}(r:Vals xs us):xs.length=us.length:=Paired.length r
theorem Vals.get:∀ {xs:List V}{us:List Value}{i:Nat}{x:V},Vals xs us->xs[i]?=some x->∃ u,us[i]?=some u/\RelV x u
 | _,_,_,_,.nil,e=>by simp at e
 | _,_,0,_,.cons r _,e=>by simp at e;subst e;exact ⟨_,rfl,r⟩
 | _,_,i+1,x,.cons _ t,e=>by
  obtain ⟨u,h1,h2⟩:=Vals.get (i:=i) (x:=x) t (by simpa using e)
  exact ⟨u,by simpa using h1,h2⟩
theorem Vals.append:∀ {xs ys:List V}{us ws:List Value},Vals xs us->Vals ys ws->Vals (xs++ys) (us++ws)
 | _,_,_,_,.nil,s=>s
 | _,_,_,_,.cons r t,s=>.cons r (Vals.append t s)
theorem Vals.take:∀ {xs:List V}{us:List Value}(n:Nat),Vals xs us->Vals (xs.take n) (us.take n)
 | _,_,0,_=>.nil
 | _,_,_+1,.nil=>.nil
 | _,_,n+1,.cons r t=>.cons r (Vals.take n t)
theorem Vals.drop:∀ {xs:List V}{us:List Value}(n:Nat),Vals xs us->Vals (xs.drop n) (us.drop n)
 | _,_,0,r=>r
 | _,_,_+1,.nil=>.nil
 | _,_,n+1,.cons _ t=>Vals.drop n t
def gM:Option V->Option Value->Prop
 | some v,some u=>RelV v u
 | none,none=>True
 | _,_=>False
def KV {κ:Type}:List (κ × V)->List (κ × Value)->Prop:=Paired fun (p:κ × V) (q:κ × Value)=>p.1=q.1/\RelV p.2 q.2
def kV:Key->V
 | .inl i=>.int i
 | .inr x=>.str x
inductive HO where
 | lst (xs:List V)
 | tup (xs:List V)
 | dK (ba:List (Key × V)) | dT (ba:List (List Key × V))
 | set (S:Int->Bool) (n:Nat)
 | ins (C dx:Addr) (fs:List (Str × V))
 | own (x:Addr)
 | xd (fs:List (Str × V))
 | met (f x:Addr)
 | qQ (lo hi:Int)
 | iE (o:Obj) (u:HO)
 | tbl (ps:Array Value)
 | ext (φ:Heap->Prop)
abbrev Hp:=Addr->Option HO
def upd (H:Hp) (a:Addr) (o:HO):Hp:=fun b=>if b=a then some o else H b
theorem aw {H:Hp}{a:Addr}{o:HO}:upd H a o a=some o:=by unfold upd;rw [if_pos rfl]
theorem ay {H:Hp}{a b:Addr}{o:HO}(h:b≠a):upd H a o b=H b:=by unfold upd;rw [if_neg h]
theorem ux {H:Hp}{a:Addr}{o u:HO}:upd (upd H a o) a u=upd H a u:=by
 funext b;unfold upd;split<;>rfl
theorem OA {H:Hp}{a b:Addr}{o u:HO}(h:H a=some o) (h':H b=some u) (d:o≠u):a≠b:=by
 intro e;subst e;rw [h] at h';exact d (Option.some.inj h')
theorem aT {H:Hp}{a b:Addr}{o:HO}(h:H a=some o) (h':H b=none):a≠b:=by
 intro e;subst e;rw [h] at h';cases h'
section
variable (P:Program) (w:World)
def bV (H:Hp) (h:Heap) (a:Addr):HO->Prop
 | .lst xs=>xs.length<=sizeLine/\∃ (its:List Value) (n:Nat),Vals xs its/\h.get? a=some { cls:=.type "list", data:=.seq its.toArray n }
 | .tup xs=>xs.length<=sizeLine/\∃ its:List Value,Vals xs its/\IsTup h a its.toArray
 | .dK ba=>ba.length<=sizeLine/\(a == sysModules)=false/\∃ vs,KV ba vs/\h.DictOf (b9 P w) a vs
 | .dT ba=>ba.length<=sizeLine/\(a == sysModules)=false/\∃ xs:List (List Key × Addr × Value),
   Paired (fun (p:List Key × V) (q:List Key × Addr × Value)=>p.1=q.1/\H q.2.1=some (.tup (p.1.map kV))/\RelV p.2 q.2.2) ba xs /\
   ∃ o es ep,h.get? a=some o/\o.ExactDict/\o.data=.dict es ep/\es.toList=xs.map (entryOfKey (tupleKind (b9 P w)))/\(xs.map (·.1)).Nodup
 | .set S n=>h.SetOf (intKind P w) a S n
 | .ins C dx fs=>H dx=some (.own a)/\fs.length<=1000/\dx≠a/\h.get? a=some (PySem.W.instObj C dx) /\
   ∃ mA,h.Ns1 dx mA/\(∀ f,gM (fs.lookup f) (mA f))/\PySem.Within mA (fs.map (·.1))
 | .own _=>∃ o,h.get? a=some o
 | .xd fs=>∃ mA,h.Ns1 a mA/\∀ f,gM (fs.lookup f) (mA f)
 | .qQ lo hi=>∃ t u v,h.get? a=some { cls:=.type "range", data:=.fields #[.int lo t,.int hi u,.int 1 v] }
 | .iE o u=>h.get? a=some o/\bV H h a u
 | .tbl ps=>h.get? a=some { cls:=.none,data:=.fields ps }
 | .met f x=>h.get? a=some (PySem.W.methodObj (.ref f) (.ref x))
 | .ext φ=>φ h/\(∃ o,h.get? a=some o)/\∀ h1 h2:Heap,φ h1->(∀ o,h1.get? a=some o->h2.get? a=some o)->φ h2
def gJ (H:Hp) (h:Heap):Prop:=∀ a o,H a=some o->bV P w H h a o
end
section
variable {P:Program}{w:World}{H H':Hp}{h h':Heap}{a:Addr}{o:HO}
theorem bV.lt (x:bV P w H h a o):a<h.objs.size:=by
 cases o with
 | lst xs=>obtain ⟨_,_,_,_,e⟩:=x;exact Heap.lt_size e
 | tup xs=>obtain ⟨_,_,_,p⟩:=x;exact p.lt
 | dK ba=>obtain ⟨_,_,_,_,o,_,_,e,_⟩:=x;exact Heap.lt_size e
 | dT ba=>obtain ⟨_,_,_,_,o,_,_,e,_⟩:=x;exact Heap.lt_size e
 | set S n=>obtain ⟨o,_,_,_,e,_⟩:=x;exact Heap.lt_size e
 | ins C dx fs=>obtain ⟨_,_,_,e,_⟩:=x;exact Heap.lt_size e
 | own y=>obtain ⟨_,e⟩:=x;exact Heap.lt_size e
 | xd fs=>obtain ⟨_,⟨_,_,_,e,_⟩,_⟩:=x;exact Heap.lt_size e
 | qQ lo hi=>obtain ⟨_,_,_,e⟩:=x;exact Heap.lt_size e
 | iE ob u=>obtain ⟨e,_⟩:=x;exact Heap.lt_size e
 | tbl ps=>exact Heap.lt_size (show h.get? a=some _ from x)
 | met f y=>exact Heap.lt_size (show h.get? a=some _ from x)
 | ext φ=>obtain ⟨_,⟨_,e⟩,_⟩:=x;exact Heap.lt_size e
theorem Paired.IP {α β:Type}{F G:α->β->Prop}:∀ {l₁:List α}{l₂:List β},Paired F l₁ l₂->(∀ a b,F a b->G a b)->Paired G l₁ l₂
 | _,_,.nil,_=>.nil
 | _,_,.cons r t,f=>.cons (f _ _ r) (Paired.IP t f)
theorem bV.qU (x:bV P w H h a o) (k:∀ b u,(b=a\/H b=some (.own a))->h.get? b=some u->h'.get? b=some u)
  (ho:∀ b,H b=some (.own a)->H' b=some (.own a)) (ht:∀ b xs,H b=some (.tup xs)->H' b=some (.tup xs)):bV P w H' h' a o:=by
 induction o with
 | lst xs=>obtain ⟨z,its,n,r,e⟩:=x;exact ⟨z,its,n,r,k _ _ (.inl rfl) e⟩
 | tup xs=>obtain ⟨z,its,r,ob,e,c⟩:=x;exact ⟨z,its,r,ob,k _ _ (.inl rfl) e,c⟩
 | dK ba=>obtain ⟨z,y,vs,r,ob,es,ep,e,c⟩:=x;exact ⟨z,y,vs,r,ob,es,ep,k _ _ (.inl rfl) e,c⟩
 | dT ba=>
  obtain ⟨z,y,xs,r,ob,es,ep,e,c⟩:=x
  exact ⟨z,y,xs,Paired.IP r fun p q z=>⟨z.1,ht _ _ z.2.1,z.2.2⟩,ob,es,ep,k _ _ (.inl rfl) e,c⟩
 | set S n=>obtain ⟨ob,es,ep,t,e,c⟩:=x;exact ⟨ob,es,ep,t,k _ _ (.inl rfl) e,c⟩
 | ins C dx fs=>
  obtain ⟨d,z,ne,e,mA,⟨od,es,ep,e2,c⟩,r⟩:=x
  exact ⟨ho _ d,z,ne,k _ _ (.inl rfl) e,mA,⟨od,es,ep,k _ _ (.inr d) e2,c⟩,r⟩
 | own y=>obtain ⟨ob,e⟩:=x;exact ⟨ob,k _ _ (.inl rfl) e⟩
 | xd fs=>obtain ⟨mA,⟨od,es,ep,e,c⟩,r⟩:=x;exact ⟨mA,⟨od,es,ep,k _ _ (.inl rfl) e,c⟩,r⟩
 | qQ lo hi=>obtain ⟨t,u,v,e⟩:=x;exact ⟨t,u,v,k _ _ (.inl rfl) e⟩
 | iE ob u ih=>obtain ⟨e,q⟩:=x;exact ⟨k _ _ (.inl rfl) e,ih q⟩
 | tbl ps=>
  have e:h.get? a=some { cls:=.none,data:=.fields ps }:=x
  show h'.get? a=some { cls:=.none,data:=.fields ps }
  exact k a _ (.inl rfl) e
 | met f y=>
  have e:h.get? a=some (PySem.W.methodObj (.ref f) (.ref y)):=x
  show h'.get? a=some (PySem.W.methodObj (.ref f) (.ref y))
  exact k a _ (.inl rfl) e
 | ext φ=>obtain ⟨p,⟨o,e⟩,st⟩:=x;exact ⟨st _ _ p fun o q=>k _ _ (.inl rfl) q,⟨o,k _ _ (.inl rfl) e⟩,st⟩
theorem gJ.lt (x:gJ P w H h) (e:H a=some o):a<h.objs.size:=(x a o e).lt
theorem gJ.fresh (x:gJ P w H h) (e:h.objs.size<=a):H a=none:=by
 cases q:H a with
 | none=>rfl
 | some u=>exact absurd (Nat.lt_of_lt_of_le (x.lt q) e) (Nat.lt_irrefl _)
theorem gJ.kept (x:gJ P w H h) (k:∀ b u,h.get? b=some u->h'.get? b=some u):gJ P w H h':=fun a o e=>
 (x a o e).qU (fun b u _ q=>k b u q) (fun _ q=>q) fun _ _ q=>q
theorem gJ.laid (x:gJ P w H h) (k:∀ b u,h.get? b=some u->h'.get? b=some u) (hp:h.objs.size<=a) (new:bV P w (upd H a o) h' a o):gJ P w (upd H a o) h':=fun b u e=>by
 have hn:=x.fresh hp
 by_cases hb:b=a
 ·subst hb;rw [aw] at e;cases e;exact new
 ·rw [ay hb] at e
  exact (x b u e).qU (fun c v _ q=>k c v q) (fun c q=>by rw [ay (aT q hn)];exact q) fun c xs q=>by rw [ay (aT q hn)];exact q
end
def Rd (H:Hp) (a:Addr) (u:HO):Prop:=H a=some u\/∃ o,H a=some (.iE o u)
theorem Rd.ok {P:Program}{w:World}{H:Hp}{h:Heap}{a:Addr}{u:HO}(r:Rd H a u) (x:gJ P w H h):bV P w H h a u:=by
 rcases r with r | ⟨o,r⟩
 ·exact x a u r
 ·obtain ⟨_,q⟩:=x a _ r
  exact q
def OB:Option HO->Prop
 | some (.lst _)=>True
 | some (.dK _)=>True
 | some (.dT _)=>True
 | some (.set _ _)=>True
 | some (.ins _ _ _)=>True
 | some (.ext _)=>True
 | _=>False
section
variable {P:Program}{w:World}{H:Hp}{h h':Heap}{x e:Addr}{o':HO}
theorem gJ.write (ok:gJ P w H h) (mu:OB (H x)) (he:e=x\/H e=some (.own x)) (k:∀ b u,b≠e->h.get? b=some u->h'.get? b=some u) (Od:∃ u,h'.get? e=some u)
  (new:bV P w (upd H x o') h' x o'):gJ P w (upd H x o') h':=fun b u q=>by
 have OC:∀ c y,H c=some (.own y)->c≠x:=fun c y r z=>by subst z;rw [r] at mu;exact mu
 have WO:∀ c xs,H c=some (.tup xs)->c≠x:=fun c xs r z=>by subst z;rw [r] at mu;exact mu
 by_cases hb:b=x
 ·subst hb;rw [aw] at q;cases q;exact new
 ·rw [ay hb] at q
  by_cases hbe:b=e
  ·have q':H b=some (.own x):=by
    rcases he with z | z
    ·exact absurd (hbe.trans z) hb
    ·rw [hbe];exact z
   rw [q] at q';cases q'
   obtain ⟨v,hv⟩:=Od
   exact ⟨v,by rw [hbe];exact hv⟩
  ·refine (ok b u q).qU (fun c v hc r=>k c v ?_ r) (fun c r=>by rw [ay (OC c b r)];exact r) fun c xs r=>by rw [ay (WO c xs r)];exact r
   rcases hc with rfl | hc
   ·exact hbe
   ·rintro rfl
    rcases he with z | z
    ·exact OC c b hc z
    ·rw [hc] at z;cases z;exact hb rfl
end
structure Un (fs ex:List Addr) (H H':Hp) (h h':Heap):Prop where
 keep:∀ b o,h.get? b=some o->H b=none->b ∉ fs->b ∉ ex->h'.get? b=some o
 slot:∀ b o,h.get? b=some o->H b=none->b∈fs->b ∉ ex->∃ sl,h'.get? b=some { o with slots:=sl }
 free:∀ b o,h.get? b=some o->H b=none->b ∉ ex->H' b=none
 there:∀ b o,h.get? b=some o->b ∉ ex->∃ o',h'.get? b=some o'
 nZ:∀ b xs,H b=some (.tup xs)->H' b=some (.tup xs)
 lX:∀ b o u,H b=some (.iE o u)->H' b=some (.iE o u)
 n5:∀ b ps,H b=some (.tbl ps)->∃ more,H' b=some (.tbl (ps++more))
section
variable {fs qV ex ex':List Addr}{H H1 H2:Hp}{h h1 h2 h':Heap}{a x e:Addr}{o:HO}
theorem Un.any (u:Un fs ex H H1 h h1) {b:Addr}{ob:Obj}(q:h.get? b=some ob) (n:H b=none) (hx:b ∉ ex):∃ sl,h1.get? b=some { ob with slots:=sl }:=by
 by_cases hb:b∈fs
 ·exact u.slot b ob q n hb hx
 ·exact ⟨ob.slots,u.keep b ob q n hb hx⟩
theorem Un.kept (k:∀ b u,h.get? b=some u->h'.get? b=some u):Un fs ex H H h h':=
 ⟨fun b ob q _ _ _=>k b ob q,fun b ob q _ _ _=>⟨ob.slots,k b ob q⟩,fun _ _ _ n _=>n,fun b ob q _=>⟨ob,k b ob q⟩,fun _ _ q=>q,fun _ _ _ q=>q,fun _ ps q=>⟨#[],by rw [q];simp⟩⟩
theorem Un.refl:Un fs ex H H h h:=Un.kept fun _ _ q=>q
theorem Un.laid (k:∀ b u,h.get? b=some u->h'.get? b=some u) (hp:h.objs.size<=a) (hn:H a=none):Un fs ex H (upd H a o) h h' where
 keep:=fun b u q _ _ _=>k b u q
 slot:=fun b u q _ _ _=>⟨u.slots,k b u q⟩
 free:=fun b u q n _=>by rw [ay (Nat.ne_of_lt (Nat.lt_of_lt_of_le (Heap.lt_size q) hp))];exact n
 there:=fun b u q _=>⟨u,k b u q⟩
 nZ:=fun b xs q=>by rw [ay (aT q hn)];exact q
 lX:=fun b u xs q=>by rw [ay (aT q hn)];exact q
 n5:=fun b ps q=>⟨#[],by rw [ay (aT q hn),q];simp⟩
theorem Un.write (mu:OB (H x)) (he:e=x\/H e=some (.own x)) (k:∀ b u,b≠e->h.get? b=some u->h'.get? b=some u) (Od:∃ u,h'.get? e=some u):Un fs ex H (upd H x o) h h':=by
 have hx:∀ b,H b=none->b≠x:=fun b n z=>by subst z;rw [n] at mu;exact mu
 have hb:∀ b,H b=none->b≠e:=fun b n z=>by
  subst z
  rcases he with r | r
  ·exact hx b n r
  ·rw [n] at r;cases r
 have hm:∀ b u,H b=some u->¬ OB (some u)->b≠x:=fun b u q nm z=>by subst z;rw [q] at mu;exact nm mu
 refine ⟨fun b u q n _ _=>k b u (hb b n) q,fun b u q n _ _=>⟨u.slots,k b u (hb b n) q⟩,fun b u q n _=>by rw [ay (hx b n)];exact n,fun b u q _=>?_,
  fun b xs q=>by rw [ay (hm b _ q fun z=>z)];exact q,fun b u xs q=>by rw [ay (hm b _ q fun z=>z)];exact q,fun b ps q=>⟨#[],by rw [ay (hm b _ q fun z=>z),q];simp⟩⟩
 by_cases hbe:b=e
 ·subst hbe;exact Od
 ·exact ⟨u,k b u hbe q⟩
end
def Wh (h:Heap) (H:Hp):List Addr:=(List.range h.objs.size).filter fun a=>(H a).isSome
def lY (h:Heap) (H:Hp):Heap:=PySem.W.hideAll h (Wh h H)
theorem vZ (h:Heap) (H:Hp):(lY h H).objs.size=h.objs.size:=PySem.W.hideAll_size _ _
theorem yF {h:Heap}{H:Hp}{b:Addr}{o:Obj}(e:h.get? b=some o) (n:H b=none):(lY h H).get? b=some o:=
 PySem.W.hideAll_get _ e fun hm=>by
  have q:(H b).isSome=true:=(List.mem_filter.mp hm).2
  rw [n] at q;simp at q
theorem Cy {h:Heap}{H:Hp}{b:Addr}{o:Obj}(e:(lY h H).get? b=some o):h.get? b=some o/\H b=none:=by
 have e':h.get? b=some o:=PySem.W.of_hideAll (Wh h H) e
 refine ⟨e',?_⟩
 cases q:H b with
 | none=>rfl
 | some x=>
  have hm:b∈Wh h H:=List.mem_filter.mpr ⟨List.mem_range.mpr (Heap.lt_size e'),by simp [q]⟩
  have z:(lY h H).get? b=none:=PySem.W.hideAll_none (Wh h H) hm
  rw [z] at e;cases e
def Cz (g h:Heap) (L:Addr):List (Addr × Obj):=(List.range h.objs.size).filterMap fun a=>if a=L\/(g.get? a).isSome=true then none else (h.get? a).map fun o=>(a,o)
def rest (g h:Heap) (L d:Addr):List (Addr × Obj):=(Cz g h L).filter fun p=>decide (p.1≠d)
structure Mod (K:PySem.W.Frag) (mg:Str->Option Value) (base:Heap):Prop where
 kin:K.In base
 glob:base.Ns mainGlobals mg
 blt:∃ mb,base.Ns builtinsNs mb/\∀ x:Str,x ≠ "__name__" -> mb x=bootBuiltins x
 nolimit:base.NoLimit
structure Cx where
 prog:Program
 w:World
 K:PySem.W.Frag
 mg:Str->Option Value
 base:Heap
 A:Around
 N:List Str
 s₀:Shared
 H₀:Hp
 env:Env
 outer:List Env
 stack:List Env
 ex:List Addr
 fn:Str->Bool
 calm:Bool
 pn:List (Addr × Obj)
 xe:Value->Shared->Prop
def yG (l:List Env):List Addr:=l.filterMap (·.frame)
abbrev Cx.fs (X:Cx):List Addr:=yG X.outer
def qR (sc:Scope) (x:Str):Prop:=sc.names.lookup x=some .local\/sc.names.lookup x=some .cell\/sc.names.lookup x=some .free
def Loc (sc:Scope) (x:Str):Prop:=sc.names.lookup x=some .local\/sc.names.lookup x=some .cell
def Look (env:Env) (h:Heap) (m:Str->Option Value) (x:Str) (u:Value):Prop:=
 (env.kindOf x=some .local/\m x=some u)\/((env.kindOf x=some .cell\/env.kindOf x=some .free)/\∃ c,env.cells.lookup x=some c/\h.IsCell c (some u))
structure Cx.Ok (X:Cx):Prop where
 mod:Mod X.K X.mg X.base
 kind:X.env.scope.kind=.function
 glob:X.env.globals=mainGlobals
 blt:X.env.builtins=builtinsNs
 above:X.s₀.heap.objs.size<=X.env.locals
 inj:∀ x y c,X.env.cells.lookup x=some c->X.env.cells.lookup y=some c->x=y
 has:∀ x,(X.env.kindOf x=some .cell\/X.env.kindOf x=some .free)->∃ c,X.env.cells.lookup x=some c
 cab:∀ x c,X.fn x=true->X.env.cells.lookup x=some c->X.s₀.heap.objs.size<=c
 hd:X.calm=true->X.A.handled=none
 frames:X.A.frames=some X.stack
 stk:X.stack=X.outer\/(X.stack=X.env::X.outer/\X.env.frame=some X.env.locals)
 exf:∀ b∈X.ex,b≠X.env.locals/\∀ x c,X.env.cells.lookup x=some c->c≠b
 bs:∀ b o,X.base.get? b=some o->X.s₀.heap.get? b=some o/\X.H₀ b=none
 bsz:X.base.objs.size<=X.s₀.heap.objs.size
 noex:∀ b o,X.base.get? b=some o->b ∉ X.ex
 exfs:∀ b∈X.ex,b ∉ X.fs
 ji:X.s₀.heap.FunFrames X.base X.outer
 frf:∀ b∈X.fs,X.H₀ b=none
structure Inv (X:Cx) (pins:List (Addr × Obj)) (σ:List (Option V)) (H:Hp) (s:Shared):Prop where
 ok:X.Ok
 os:s.os=X.s₀.os
 bare:AllBare s.gens
 base:Un X.fs X.ex X.H₀ H X.s₀.heap s.heap
 loc:∃ m,s.heap.Ns X.env.locals m/\∀ (i:Nat) (x:Str) (v:V),X.N[i]?=some x->σ[i]?=some (some v)->qR X.env.scope x->∃ u,RelV v u/\Look X.env s.heap m x u
 cell:∀ x c,X.env.cells.lookup x=some c->∃ v,s.heap.IsCell c v
 free:H X.env.locals=none
 freeC:∀ x c,X.env.cells.lookup x=some c->H c=none
 pin:∀ p∈X.pn++pins,s.heap.get? p.1=some p.2/\H p.1=none/\p.1≠X.env.locals/\p.1 ∉ X.fs/\∀ v,p.2.data≠.cell v
 bU:gJ X.prog X.w H s.heap
 len:σ.length=X.N.length
section
variable {X:Cx}{pins:List (Addr × Obj)}{σ:List (Option V)}{H H':Hp}{s:Shared}{h':Heap}
theorem Cx.Ok.WQ (ok:X.Ok) {b:Addr}{o:Obj}(e:X.base.get? b=some o):b ∉ X.fs:=fun hb=>by
 have:=(ok.ji.mem hb).1
 rw [e] at this;cases this
theorem Inv.bs (I:Inv X pins σ H s):∀ b o,X.base.get? b=some o->s.heap.get? b=some o/\H b=none:=fun b o e=>
 ⟨I.base.keep b o (I.ok.bs b o e).1 (I.ok.bs b o e).2 (I.ok.WQ e) (I.ok.noex b o e),I.base.free b o (I.ok.bs b o e).1 (I.ok.bs b o e).2 (I.ok.noex b o e)⟩
theorem Inv.bk (I:Inv X pins σ H s):∀ b o,X.base.get? b=some o->s.heap.get? b=some o:=fun b o e=>(I.bs b o e).1
theorem Inv.mod (I:Inv X pins σ H s):Mod X.K X.mg X.base:=I.ok.mod
theorem Inv.gO (I:Inv X pins σ H s):X.K.In s.heap:=I.ok.mod.kin.keeps I.bk
theorem Inv.lt (I:Inv X pins σ H s):X.env.locals<s.heap.objs.size:=let ⟨_,hn,_⟩:=I.loc;hn.lt
theorem Inv.sz (I:Inv X pins σ H s):X.s₀.heap.objs.size<=s.heap.objs.size:=Nat.le_trans I.ok.above (Nat.le_of_lt I.lt)
theorem Inv.WR (I:Inv X pins σ H s) {a:Addr}(h:s.heap.objs.size<=a):a ∉ X.fs:=fun hb=>by
 obtain ⟨_,o,ho,_⟩:=I.ok.ji.mem hb
 exact absurd (Nat.lt_of_lt_of_le (Heap.lt_size ho) (Nat.le_trans I.sz h)) (Nat.lt_irrefl _)
theorem Inv.IQ (I:Inv X pins σ H s):∀ x c,X.env.cells.lookup x=some c->c≠X.env.locals:=fun x c e z=>by
 obtain ⟨v,o,ho,hd⟩:=I.cell x c e
 obtain ⟨m,⟨o',es,ep,IS,WS,_⟩,_⟩:=I.loc
 rw [z,IS] at ho;cases ho;rw [WS] at hd;cases hd
theorem Inv.ji (I:Inv X pins σ H s):s.heap.FunFrames X.base X.outer:=by
 have all:∀ (l:List Env),(∀ b∈yG l,b∈X.fs)->X.s₀.heap.FunFrames X.base l->s.heap.FunFrames X.base l:=by
  intro l
  induction l with
  | nil=>intro _ _;trivial
  | cons env r ih=>
   intro hs hl
   obtain ⟨hk,⟨L,o,hf,hn,ho,hd⟩,hr⟩:=hl
   have hL:L∈X.fs:=hs L (by unfold yG;rw [List.filterMap_cons,hf];exact List.mem_cons_self)
   obtain ⟨sl,e⟩:=I.base.slot L o ho (I.ok.frf L hL) hL fun z=>I.ok.exfs L z hL
   exact ⟨hk,⟨L,_,hf,hn,e,hd⟩,ih (fun b hb=>hs b (by unfold yG;rw [List.filterMap_cons,hf];exact List.mem_cons_of_mem _ hb)) hr⟩
 exact all X.outer (fun _ hb=>hb) I.ok.ji
theorem Inv.stack (I:Inv X pins σ H s):s.heap.FunFrames X.base X.stack:=by
 rcases I.ok.stk with e | ⟨e,hf⟩
 ·rw [e];exact I.ji
 ·rw [e]
  obtain ⟨m,hn,_⟩:=I.loc
  refine .cons (by rw [I.ok.kind];decide) hf hn ?_ I.ji
  exact Heap.get?_none_of_le (Nat.le_trans I.ok.bsz I.ok.above)
theorem Inv.lZ (I:Inv X pins σ H s):∀ b∈yG X.stack,b∈X.env.locals::X.fs:=fun b hb=>by
 rcases I.ok.stk with e | ⟨e,hf⟩
 ·rw [e] at hb;exact List.mem_cons_of_mem _ hb
 ·rw [e] at hb
  unfold yG at hb
  rw [List.filterMap_cons,hf] at hb
  exact hb
theorem Inv.uy (I:Inv X pins σ H s):∀ b∈yG X.stack,H b=none:=fun b hb=>by
 rcases List.mem_cons.mp (I.lZ b hb) with e | hb
 ·rw [e];exact I.free
 ·obtain ⟨_,o,ho,_⟩:=I.ok.ji.mem hb
  exact I.base.free b o ho (I.ok.frf b hb) fun z=>I.ok.exfs b z hb
theorem Inv.step {g':Array GenState}{t':Nat}{d':Drawn}{ch:List Addr}(I:Inv X pins σ H s)
  (yu:∀ b∈ch,(b∈X.ex\/X.s₀.heap.objs.size<=b)/\b≠X.env.locals/\(∀ x c,X.env.cells.lookup x=some c->c≠b)/\∀ p∈X.pn++pins,p.1≠b)
  (keep:∀ b o,b≠X.env.locals->b ∉ X.fs->b ∉ ch->s.heap.get? b=some o->H b=none->h'.get? b=some o)
  (slot:∀ b o,b≠X.env.locals->b∈X.fs->b ∉ ch->s.heap.get? b=some o->H b=none->∃ sl,h'.get? b=some { o with slots:=sl }) (free:∀ b o,b ∉ ch->s.heap.get? b=some o->H b=none->H' b=none)
  (there:∀ b o,b ∉ ch->s.heap.get? b=some o->∃ o',h'.get? b=some o')
  (nZ:∀ b xs,H b=some (.tup xs)->H' b=some (.tup xs)) (lX:∀ b o u,H b=some (.iE o u)->H' b=some (.iE o u)) (n5:∀ b ps,H b=some (.tbl ps)->∃ more,H' b=some (.tbl (ps++more)))
  (ns:∀ m,s.heap.Ns X.env.locals m->h'.Ns X.env.locals m) (bU:gJ X.prog X.w H' h') (hg:AllBare g') :
  Inv X pins σ H' { s with heap:=h',gens:=g',drawn:=d',toks:=t' }:=by
 have Z5:∀ b o,X.s₀.heap.get? b=some o->b≠X.env.locals:=fun b o e=>Nat.ne_of_lt (Nat.lt_of_lt_of_le (Heap.lt_size e) I.ok.above)
 have Wi:∀ b o,X.s₀.heap.get? b=some o->b ∉ X.ex->b ∉ ch:=fun b o e hx hb=>by
  rcases (yu b hb).1 with z | z
  ·exact hx z
  ·exact absurd (Nat.lt_of_lt_of_le (Heap.lt_size e) z) (Nat.lt_irrefl _)
 have cellK:∀ x c,X.env.cells.lookup x=some c->∀ v,s.heap.IsCell c v->h'.IsCell c v:=fun x c e v ⟨o,ho,hd⟩=>by
  have OD:c ∉ ch:=fun z=>(yu c z).2.2.1 x c e rfl
  by_cases hc:c∈X.fs
  ·obtain ⟨sl,q⟩:=slot c o (I.IQ x c e) hc OD ho (I.freeC x c e)
   exact ⟨_,q,hd⟩
  ·exact ⟨o,keep c o (I.IQ x c e) hc OD ho (I.freeC x c e),hd⟩
 refine ⟨I.ok,I.os,hg,⟨fun b o e n hb hx=>?_,fun b o e n hb hx=>?_,fun b o e n hx=>?_,fun b o e hx=>?_,fun b xs e=>nZ b xs (I.base.nZ b xs e),fun b o xs e=>lX b o xs (I.base.lX b o xs e),fun b ps e=>?_⟩,?_,fun x c e=>?_,?_,fun x c e=>?_,fun p hp=>?_,bU,I.len⟩
 ·exact keep b o (Z5 b o e) hb (Wi b o e hx) (I.base.keep b o e n hb hx) (I.base.free b o e n hx)
 ·obtain ⟨sl,e1⟩:=I.base.slot b o e n hb hx
  obtain ⟨sl',e2⟩:=slot b _ (Z5 b o e) hb (Wi b o e hx) e1 (I.base.free b o e n hx)
  exact ⟨sl',e2⟩
 ·obtain ⟨o',e1⟩:=I.base.there b o e hx
  exact free b o' (Wi b o e hx) e1 (I.base.free b o e n hx)
 ·obtain ⟨o',e1⟩:=I.base.there b o e hx
  exact there b o' (Wi b o e hx) e1
 ·obtain ⟨m1,e1⟩:=I.base.n5 b ps e
  obtain ⟨m2,e2⟩:=n5 b _ e1
  exact ⟨m1++m2,by rw [e2,Array.append_assoc]⟩
 ·obtain ⟨m,hn,hl⟩:=I.loc
  refine ⟨m,ns m hn,fun i x v e1 e2 e3=>?_⟩
  obtain ⟨u,r,l⟩:=hl i x v e1 e2 e3
  refine ⟨u,r,?_⟩
  rcases l with l | ⟨k,c,e,z⟩
  ·exact .inl l
  ·exact .inr ⟨k,c,e,cellK x c e _ z⟩
 ·obtain ⟨v,z⟩:=I.cell x c e
  exact ⟨v,cellK x c e v z⟩
 ·obtain ⟨m,⟨o,_,_,ho,_⟩,_⟩:=I.loc
  exact free _ o (fun z=>(yu _ z).2.1 rfl) ho I.free
 ·obtain ⟨v,o,ho,hd⟩:=I.cell x c e
  exact free c o (fun z=>(yu c z).2.2.1 x c e rfl) ho (I.freeC x c e)
 ·obtain ⟨e,n,ne,nf,d⟩:=I.pin p hp
  have OD:p.1 ∉ ch:=fun z=>(yu p.1 z).2.2.2 p hp rfl
  exact ⟨keep p.1 p.2 ne nf OD e n,free p.1 p.2 OD e n,ne,nf,d⟩
theorem Inv.un {t':Nat}(I:Inv X pins σ H s) (u:Un X.fs [] H H' s.heap h') (bU:gJ X.prog X.w H' h'):Inv X pins σ H' { s with heap:=h',toks:=t' }:=by
 obtain ⟨m,⟨o,es,ep,ho,r⟩,_⟩:=id I.loc
 obtain ⟨sl,hL⟩:=u.any ho I.free (by simp)
 exact I.step (g':=s.gens) (d':=s.drawn) (ch:=[]) (fun _ z=>nomatch z) (fun b o _ hb _ e n=>u.keep b o e n hb (by simp)) (fun b o _ hb _ e n=>u.slot b o e n hb (by simp)) (fun b o _ e n=>u.free b o e n (by simp)) (fun b o _ e=>u.there b o e (by simp)) u.nZ u.lX u.n5 (fun m' hm=>by
  obtain ⟨o',WT,WU,IS,r'⟩:=hm
  rw [ho] at IS;cases IS
  exact ⟨_,WT,WU,hL,r'⟩) bU I.bare
theorem Inv.call {g':Array GenState}{t':Nat}{d':Drawn}{ch:List Addr}(I:Inv X pins σ H s) (u:Un (yG X.stack) ch H H' s.heap h') (bU:gJ X.prog X.w H' h') (hg:AllBare g')
  (yu:∀ b∈ch,(b∈X.ex\/X.s₀.heap.objs.size<=b)/\b≠X.env.locals/\(∀ x c,X.env.cells.lookup x=some c->c≠b)/\∀ p∈X.pn++pins,p.1≠b) :
  Inv X pins σ H' { s with heap:=h',gens:=g',drawn:=d',toks:=t' }:=by
 obtain ⟨m,⟨o,es,ep,ho,r⟩,_⟩:=id I.loc
 obtain ⟨sl,hL⟩:=u.any ho I.free fun z=>(yu _ z).2.1 rfl
 exact I.step (ch:=ch) yu (fun b o hL hb hc e n=>u.keep b o e n (fun z=>(List.mem_cons.mp (I.lZ b z)).elim hL hb) hc) (fun b o _ _ hc e n=>u.any e n hc) (fun b o hc e n=>u.free b o e n hc) (fun b o hc e=>u.there b o e hc) u.nZ u.lX u.n5 (fun m' hm=>by
  obtain ⟨o',WT,WU,IS,r'⟩:=hm
  rw [ho] at IS;cases IS
  exact ⟨_,WT,WU,hL,r'⟩) bU hg
theorem Inv.turned {t':Nat}{it:Addr}(I:Inv X pins σ H s) (k:∀ b o,b≠it->s.heap.get? b=some o->h'.get? b=some o) (hn:H it=none) (hL:it≠X.env.locals)
  (h1:it∈X.ex\/X.s₀.heap.objs.size<=it) (h2:∀ x c,X.env.cells.lookup x=some c->c≠it) (h3:∀ p∈X.pn++pins,p.1≠it):Inv X pins σ H { s with heap:=h',toks:=t' }:=by
 have Z6:∀ b u,H b=some u->b≠it:=fun b u e z=>by rw [z,hn] at e;cases e
 refine I.step (g':=s.gens) (d':=s.drawn) (ch:=[it]) (fun b hb=>?_) (fun b o _ _ hc e _=>k b o (fun z=>hc (by simp [z])) e) (fun b o _ _ hc e _=>⟨o.slots,k b o (fun z=>hc (by simp [z])) e⟩) (fun _ _ _ _ n=>n)
  (fun b o hc e=>⟨o,k b o (fun z=>hc (by simp [z])) e⟩) (fun _ _ e=>e) (fun _ _ _ e=>e) (fun b ps e=>⟨#[],by rw [e];simp⟩) (fun m hm=>?_) (fun b u e=>?_) I.bare
 ·have e:b=it:=by simpa using hb
  subst e
  exact ⟨h1,hL,h2,h3⟩
 ·obtain ⟨o,es,ep,ho,r⟩:=hm
  exact ⟨o,es,ep,k _ o (Ne.symm hL) ho,r⟩
 ·refine (I.bU b u e).qU (fun c v hc q=>k c v ?_ q) (fun _ q=>q) fun _ _ q=>q
  rcases hc with z | z
  ·rw [z];exact Z6 b u e
  ·exact Z6 c _ z
theorem Inv.tok (I:Inv X pins σ H s) (t:Nat):Inv X pins σ H { s with toks:=t }:=I.un (h':=s.heap) (t':=t) Un.refl I.bU
theorem Inv.kept {t':Nat}(I:Inv X pins σ H s) (k:∀ b u,s.heap.get? b=some u->h'.get? b=some u):Inv X pins σ H { s with heap:=h',toks:=t' }:=I.un (Un.kept k) (I.bU.kept k)
theorem Inv.laid {a:Addr}{o:HO}{t':Nat}(I:Inv X pins σ H s) (k:∀ b u,s.heap.get? b=some u->h'.get? b=some u) (hp:s.heap.objs.size<=a) (new:bV X.prog X.w (upd H a o) h' a o) :
  Inv X pins σ (upd H a o) { s with heap:=h',toks:=t' }:=I.un (Un.laid k hp (I.bU.fresh hp)) (I.bU.laid k hp new)
theorem Inv.write {x e:Addr}{o:HO}{t':Nat}(I:Inv X pins σ H s) (mu:OB (H x)) (he:e=x\/H e=some (.own x)) (k:∀ b u,b≠e->s.heap.get? b=some u->h'.get? b=some u) (Od:∃ u,h'.get? e=some u)
  (new:bV X.prog X.w (upd H x o) h' x o):Inv X pins σ (upd H x o) { s with heap:=h',toks:=t' }:=I.un (Un.write mu he k Od) (I.bU.write mu he k Od new)
theorem Inv.weak {σ':List (Option V)}(I:Inv X pins σ H s) (hl:σ'.length=σ.length) (w:∀ (i:Nat) v,σ'[i]?=some (some v)->σ[i]?=some (some v)):Inv X pins σ' H s:=
 ⟨I.ok,I.os,I.bare,I.base,let ⟨m,hn,IU⟩:=I.loc;⟨m,hn,fun i x v e1 e2 e3=>IU i x v e1 (w i v e2) e3⟩,I.cell,I.free,I.freeC,I.pin,I.bU,hl.trans I.len⟩
theorem Inv.uz {GX:List (Addr × Obj)}(I:Inv X pins σ H s) (h:∀ p∈GX,s.heap.get? p.1=some p.2/\H p.1=none/\p.1≠X.env.locals/\p.1 ∉ X.fs/\∀ v,p.2.data≠.cell v):Inv X GX σ H s:=
 ⟨I.ok,I.os,I.bare,I.base,I.loc,I.cell,I.free,I.freeC,fun p hp=>(List.mem_append.mp hp).elim (fun z=>I.pin p (List.mem_append_left _ z)) (h p),I.bU,I.len⟩
theorem n6 {N:List Str}(hN:N.Nodup) {i j:Nat}{x:Str}(a:N[i]?=some x) (b:N[j]?=some x):i=j:=by
 obtain ⟨h1,e1⟩:=List.getElem?_eq_some_iff.mp a
 obtain ⟨h2,e2⟩:=List.getElem?_eq_some_iff.mp b
 exact (List.getElem_inj hN).mp (e1.trans e2.symm)
theorem k8 {M:Model}{A:Around}{E:Value->Shared->Prop}{i:Nat}{x:Str}{v:V}{u:Value}{Q:Unit->Shared->Prop}(I:Inv X pins σ H s) (hN:X.N.Nodup) (hi:X.N[i]?=some x) (hx:Loc X.env.scope x) (r:RelV v u)
  (h:∀ s',Inv X pins (σ.set i (some v)) H s'->(∃ a,Heap.SameBut a s.heap s'.heap/\(a=X.env.locals\/X.env.cells.lookup x=some a))->Q () s') (hf:X.fn x=true\/X.env.scope.names.lookup x=some .local:=by first | exact .inl rfl | exact .inr rfl | assumption):wpAny M A (storeName X.env x u) Q E s:=by
 obtain ⟨m,hn,hl⟩:=id I.loc
 have WV:(X.env.scope.kind == .class || (X.env.scope.kind == .module&&X.env.locals != X.env.globals))=false:=by rw [I.ok.kind];rfl
 have hiσ:i<σ.length:=by rw [I.len];exact (List.getElem?_eq_some_iff.mp hi).1
 have IQ:=I.IQ
 have tracked:∀ {a:Addr} {h':Heap},(∃ o,s.heap.get? a=some o/\H a=none)->Heap.SameBut a s.heap h'->gJ X.prog X.w H h':=fun {a h'} ha hs b ob e=>by
  obtain ⟨_,_,k9⟩:=ha
  refine (I.bU b ob e).qU (fun c w' hc q=>(hs.2 c ?_).trans q) (fun _ q=>q) fun _ _ q=>q
  rintro rfl
  rcases hc with rfl | hc
  ·rw [k9] at e;cases e
  ·rw [k9] at hc;cases hc
 rcases hx with hk | hk
 ·refine wpAny_storeName_local hk hn (fun h' hn' hs=>?_) WV
  obtain ⟨oL,_,_,hoL,_⟩:=id hn
  refine h _ ⟨I.ok,I.os,I.bare,⟨fun b o e n hb hx=>?_,fun b o e n hb hx=>?_,I.base.free,fun b o e hx=>?_,I.base.nZ,I.base.lX,I.base.n5⟩,⟨_,hn',fun j y v' e1 e2 e3=>?_⟩,fun y c e=>?_,I.free,I.freeC,fun p hp=>?_,tracked ⟨oL,hoL,I.free⟩ hs,by simpa using I.len⟩ ⟨_,hs,.inl rfl⟩
  ·exact (hs.2 b (Nat.ne_of_lt (Nat.lt_of_lt_of_le (Heap.lt_size e) I.ok.above))).trans (I.base.keep b o e n hb hx)
  ·obtain ⟨sl,e1⟩:=I.base.slot b o e n hb hx
   exact ⟨sl,(hs.2 b (Nat.ne_of_lt (Nat.lt_of_lt_of_le (Heap.lt_size e) I.ok.above))).trans e1⟩
  ·obtain ⟨o',e1⟩:=I.base.there b o e hx
   exact ⟨o',(hs.2 b (Nat.ne_of_lt (Nat.lt_of_lt_of_le (Heap.lt_size e) I.ok.above))).trans e1⟩
  ·by_cases hj:j=i
   ·subst hj
    rw [hi] at e1;cases e1
    rw [List.getElem?_set_self hiσ] at e2
    cases e2
    exact ⟨u,r,.inl ⟨hk,by simp⟩⟩
   ·rw [List.getElem?_set_ne (Ne.symm hj)] at e2
    obtain ⟨u',r',q⟩:=hl j y v' e1 e2 e3
    refine ⟨u',r',?_⟩
    rcases q with ⟨k,e⟩ | ⟨k,c,e,z⟩
    ·refine .inl ⟨k,?_⟩
     have:y≠x:=fun e=>hj (n6 hN e1 (e ▸ hi))
     simp [this,e]
    ·exact .inr ⟨k,c,e,z.sameBut hs (IQ y c e)⟩
  ·obtain ⟨w',z⟩:=I.cell y c e
   exact ⟨w',z.sameBut hs (IQ y c e)⟩
  ·obtain ⟨e,n,ne,nf,d⟩:=I.pin p hp
   exact ⟨(hs.2 p.1 ne).trans e,n,ne,nf,d⟩
 ·have OE:X.fn x=true:=by
   rcases hf with z | z
   ·exact z
   ·rw [z] at hk;cases hk
  obtain ⟨c,hc⟩:=I.ok.has x (.inl hk)
  obtain ⟨w',z⟩:=I.cell x c hc
  refine wpAny_storeName_cell I.ok.kind hk hc z (fun h' Oe hs=>?_)
  obtain ⟨oc,Z7,WW⟩:=id z
  refine h { s with heap:=h' } ⟨I.ok,I.os,I.bare,⟨fun b o e n hb hx=>?_,fun b o e n hb hx=>?_,I.base.free,fun b o e hx=>?_,I.base.nZ,I.base.lX,I.base.n5⟩,⟨m,hn.sameBut hs (Ne.symm (IQ x c hc)),fun j y v' e1 e2 e3=>?_⟩,fun y c' e=>?_,I.free,I.freeC,fun p hp=>?_,tracked ⟨oc,Z7,I.freeC x c hc⟩ hs,by simpa using I.len⟩ ⟨c,hs,.inr hc⟩
  ·exact (hs.2 b (Nat.ne_of_lt (Nat.lt_of_lt_of_le (Heap.lt_size e) (I.ok.cab x c OE hc)))).trans (I.base.keep b o e n hb hx)
  ·obtain ⟨sl,e1⟩:=I.base.slot b o e n hb hx
   exact ⟨sl,(hs.2 b (Nat.ne_of_lt (Nat.lt_of_lt_of_le (Heap.lt_size e) (I.ok.cab x c OE hc)))).trans e1⟩
  ·obtain ⟨o',e1⟩:=I.base.there b o e hx
   exact ⟨o',(hs.2 b (Nat.ne_of_lt (Nat.lt_of_lt_of_le (Heap.lt_size e) (I.ok.cab x c OE hc)))).trans e1⟩
  ·by_cases hj:j=i
   ·subst hj
    rw [hi] at e1;cases e1
    rw [List.getElem?_set_self hiσ] at e2
    cases e2
    exact ⟨u,r,.inr ⟨.inl hk,c,hc,Oe⟩⟩
   ·rw [List.getElem?_set_ne (Ne.symm hj)] at e2
    obtain ⟨u',r',q⟩:=hl j y v' e1 e2 e3
    refine ⟨u',r',?_⟩
    rcases q with q | ⟨k,c',e,z'⟩
    ·exact .inl q
    ·refine .inr ⟨k,c',e,z'.sameBut hs ?_⟩
     rintro rfl
     exact hj (n6 hN e1 (I.ok.inj _ _ _ e hc ▸ hi))
  ·by_cases hcc:c'=c
   ·subst hcc;exact ⟨_,Oe⟩
   ·obtain ⟨w2,z2⟩:=I.cell y c' e
    exact ⟨w2,z2.sameBut hs hcc⟩
  ·obtain ⟨e,n,ne,nf,d⟩:=I.pin p hp
   refine ⟨(hs.2 p.1 ?_).trans e,n,ne,nf,d⟩
   intro q
   rw [q,Z7] at e
   have q':oc=p.2:=Option.some.inj e
   exact d w' (by rw [<- q'];exact WW)
theorem jC {M:Model}{A:Around}{E:Value->Shared->Prop}{i:Nat}{x:Str}{v:V}{u:Value}{Q:Unit->Shared->Prop}(I:Inv X pins σ H s) (hN:X.N.Nodup) (hi:X.N[i]?=some x) (hx:Loc X.env.scope x) (r:RelV v u)
  (h:∀ s',Inv X pins (σ.set i (some v)) H s'->Q () s') (hf:X.fn x=true\/X.env.scope.names.lookup x=some .local:=by first | exact .inl rfl | exact .inr rfl | assumption):wpAny M A (storeName X.env x u) Q E s:=
 k8 I hN hi hx r (fun s' I' _=>h s' I') hf
theorem Inv.OF {s':Shared}{ch:List Addr}(I:Inv X pins σ H s) (ho:s'.os=s.os) (u:Un (yG X.stack) ch H H' s.heap s'.heap) (bU:gJ X.prog X.w H' s'.heap) (hg:AllBare s'.gens)
  (yu:∀ b∈ch,(b∈X.ex\/X.s₀.heap.objs.size<=b)/\b≠X.env.locals/\(∀ x c,X.env.cells.lookup x=some c->c≠b)/\∀ p∈X.pn++pins,p.1≠b):Inv X pins σ H' s':=by
 obtain ⟨h',g',d',t',o'⟩:=s'
 have e:o'=s.os:=ho
 subst e
 exact I.call (g':=g') (t':=t') (d':=d') u bU hg yu
end
abbrev XK:=Value->Option Addr->Hp->Prop
abbrev St:=List (Option V)
abbrev VK:=V->Hp->Prop
abbrev TE:=St->Hp->VK->Prop
abbrev TT:=St->Hp->(Bool->Hp->Prop)->Prop
abbrev TA:=St->Hp->(List V->Hp->Prop)->Prop
structure Ends where
 nx:St->Hp->Prop
 rt:VK
 bk:St->Hp->Prop:=fun _ _=>False
 ct:St->Hp->Prop:=fun _ _=>False
abbrev TS:=Ends->St->Hp->Prop
def EP (X:Cx) (pins:List (Addr × Obj)) (σ:St) (Q:VK) (u:Value) (s':Shared):Prop:=∃ v H',Inv X pins σ H' s'/\RelV v u/\Q v H'
def TP (X:Cx) (pins:List (Addr × Obj)) (σ:St) (Q:Bool->Hp->Prop) (b:Bool) (s':Shared):Prop:=∃ H',Inv X pins σ H' s'/\Q b H'
def AP (X:Cx) (pins:List (Addr × Obj)) (σ:St) (Q:List V->Hp->Prop) (us:List Value) (s':Shared):Prop:=∃ vs H',Inv X pins σ H' s'/\Vals vs us/\Q vs H'
def SP (X:Cx) (pins:List (Addr × Obj)) (D:Ends) (f:Flow) (s':Shared):Prop:=
 match f with
 | .next=>∃ σ' H',Inv X pins σ' H' s'/\D.nx σ' H'
 | .brk=>∃ σ' H',Inv X pins σ' H' s'/\D.bk σ' H'
 | .cont=>∃ σ' H',Inv X pins σ' H' s'/\D.ct σ' H'
 | .ret u=>∃ v σ' H',Inv X pins σ' H' s'/\RelV v u/\D.rt v H'
def PE (X:Cx) (e:Expr) (t:TE):Prop:=
 ∀ (pins:List (Addr × Obj)) (s:Shared) (σ:St) (H:Hp) (Q:VK),Inv X pins σ H s->t σ H Q->wpAny (model X.prog X.w) X.A (eval e X.env) (EP X pins σ Q) X.xe s
def PT (X:Cx) (e:Expr) (t:TT):Prop:=
 ∀ (pins:List (Addr × Obj)) (s:Shared) (σ:St) (H:Hp) (Q:Bool->Hp->Prop),Inv X pins σ H s->t σ H Q->wpAny (model X.prog X.w) X.A (isTrue e X.env (eval e X.env)) (TP X pins σ Q) X.xe s
def PW (X:Cx) (e:Expr) (t:TT):Prop:=
 ∀ (whole:Sem Value) (pins:List (Addr × Obj)) (s:Shared) (σ:St) (H:Hp) (Q:Bool->Hp->Prop),Inv X pins σ H s->t σ H Q->wpAny (model X.prog X.w) X.A (isTrue e X.env whole) (TP X pins σ Q) X.xe s
theorem PW.pt {X:Cx}{e:Expr}{t:TT}(h:PW X e t):PT X e t:=h _
def PA (X:Cx) (es:List Expr) (t:TA):Prop:=
 ∀ (pos:Pos) (pins:List (Addr × Obj)) (s:Shared) (σ:St) (H:Hp) (Q:List V->Hp->Prop),Inv X pins σ H s->t σ H Q->wpAny (model X.prog X.w) X.A (spliced (backTo pos (starEach es X.env))) (AP X pins σ Q) X.xe s
def PS (X:Cx) (st:Stmt) (t:TS):Prop:=
 ∀ (pins:List (Addr × Obj)) (s:Shared) (σ:St) (H:Hp) (D:Ends),Inv X pins σ H s->t D σ H->wpAny (model X.prog X.w) X.A (exec st X.env) (SP X pins D) X.xe s
def gP (X:Cx) (st:List Stmt) (t:TS):Prop:=
 ∀ (pins:List (Addr × Obj)) (s:Shared) (σ:St) (H:Hp) (D:Ends),Inv X pins σ H s->t D σ H->wpAny (model X.prog X.w) X.A (execs st X.env) (SP X pins D) X.xe s
theorem bY {α:Type}{t:Sem α}{Q Q':α->Shared->Prop}{M:Model}{A:Around}{E:Value->Shared->Prop}{s:Shared}(h:wpAny M A t Q E s) (hQ:∀ a s,Q a s->Q' a s):wpAny M A t Q' E s:=wpAny_mono h hQ fun _ _ x=>x
section
variable {X:Cx}
def yH (i:Nat):TE:=fun σ H Q=>∃ v,σ[i]?=some (some v)/\Q v H
def tC (v:V):TE:=fun _ H Q=>Q v H
theorem dP {i:Nat}{x:Str}{pos:Pos}(hN:X.N[i]?=some x) (hv:qR X.env.scope x) (hd:(x == ("__debug__" : Str))=false:=by decide) (jj:(x == ("__classdict__" : Str))=false:=by decide):PE X (.Name x pos) (yH i):=by
 intro pins s σ H Q I h
 obtain ⟨v,e,h⟩:=h
 obtain ⟨m,hn,hl⟩:=I.loc
 obtain ⟨u,r,l⟩:=hl i x v hN e hv
 have fin:EP X pins σ Q u s:=⟨v,H,I,r,h⟩
 rcases l with ⟨hk,hm⟩ | ⟨hk,c,hc,hcell⟩
 ·exact wpAny_Name (wpAny_loadName_local I.ok.kind hk hn hm fin) hd
 ·rcases hk with hk | hk
  ·exact wpAny_Name (wpAny_loadName_cell I.ok.kind hk hc hcell fin) hd
  ·exact wpAny_Name (wpAny_loadName_free I.ok.kind hk hc hcell fin jj) hd
theorem IV {i j pos}:PE X (.Constant (.int i) j pos) (tC (.int i)):=fun _ _ _ H _ I h=>wpAny_Constant_int ⟨.int i,H,I.tok _,⟨_,rfl⟩,h⟩
theorem OG {b j pos}:PE X (.Constant (.bool b) j pos) (tC (.bl b)):=fun _ _ _ H _ I h=>Constant_bool ⟨.bl b,H,I,rfl,h⟩
theorem IW {j pos}:PE X (.Constant .none j pos) (tC .non):=fun _ _ _ H _ I h=>Constant_none ⟨.non,H,I,rfl,h⟩
theorem IX {x j pos}:PE X (.Constant (.str x) j pos) (tC (.str x)):=fun _ _ _ H _ I h=>Calls.Constant_str ⟨.str x,H,I.tok _,⟨_,rfl⟩,h⟩
def Gl (X:Cx) (x:Str):Prop:=X.env.kindOf x=some .globalImplicit
theorem gQ {E:Value->Shared->Prop}{pins:List (Addr × Obj)}{s:Shared}{σ:St}{H:Hp}{x:Str}{u:Value}{pos:Pos}{Q:Value->Shared->Prop}(I:Inv X pins σ H s) (hg:Gl X x) (hm:X.mg x=some u) (h:Q u s)
  (hd:(x == ("__debug__" : Str))=false:=by decide):wpAny (model X.prog X.w) X.A (eval (.Name x pos) X.env) Q E s:=
 Calls.Name_function_global I.ok.kind hg (Calls.loadGlobal_global (by rw [I.ok.glob];exact I.mod.glob.keeps I.bk) hm h) hd
theorem eY {E:Value->Shared->Prop}{pins:List (Addr × Obj)}{s:Shared}{σ:St}{H:Hp}{x:Str}{u:Value}{pos:Pos}{Q:Value->Shared->Prop}(I:Inv X pins σ H s) (hg:Gl X x) (hm:X.mg x=none) (hv:bootBuiltins x=some u) (h:Q u s)
  (hn:x ≠ "__name__" := by decide) (hd:(x == ("__debug__" : Str))=false:=by decide):wpAny (model X.prog X.w) X.A (eval (.Name x pos) X.env) Q E s:=by
 obtain ⟨mb,h1,h2⟩:=I.mod.blt
 exact Calls.Name_function_global I.ok.kind hg (Calls.loadGlobal_builtin (by rw [I.ok.glob];exact I.mod.glob.keeps I.bk) hm (by rw [I.ok.blt];exact h1.keeps I.bk) ((h2 x hn).trans hv) h) hd
theorem l8 {x:Str}{v:V}{u:Value}{pos:Pos}(hg:Gl X x) (hm:X.mg x=some u) (r:RelV v u) (hd:(x == ("__debug__" : Str))=false:=by decide):PE X (.Name x pos) (tC v):=
 fun _ _ _ H _ I h=>gQ I hg hm ⟨v,H,I,r,h⟩ hd
theorem CA {x:Str}{v:V}{u:Value}{pos:Pos}(hg:Gl X x) (hm:X.mg x=none) (hv:bootBuiltins x=some u) (r:RelV v u) (hn:x ≠ "__name__" := by decide) (hd:(x == ("__debug__" : Str))=false:=by decide):PE X (.Name x pos) (tC v):=
 fun _ _ _ H _ I h=>eY I hg hm hv ⟨v,H,I,r,h⟩ hn hd
variable {a b:Expr}{ta tb:TE}{pos:Pos}
def PC (X:Cx) (op:CmpOp) (a b:Expr) (t:TE):Prop:=
 ∀ (pins:List (Addr × Obj)) (s:Shared) (σ:St) (H:Hp) (Q:VK),Inv X pins σ H s->t σ H Q ->
  wpAny (model X.prog X.w) X.A (eval a X.env) (fun v s₁=>wpAny (model X.prog X.w) X.A (eval b X.env) (fun u s₂=>wpAny (model X.prog X.w) X.A (compareOp op v u) (EP X pins σ Q) X.xe s₂) X.xe s₁) X.xe s
def tB (t:TE):TT:=fun σ H Q=>t σ H fun x H1=>∃ c,x=.bl c/\Q c H1
variable {tA Wj:TT}{rest:List Expr}
def WX (t u:TT):TT:=fun σ H Q=>t σ H fun c H1=>if c=true then u σ H1 Q else Q false H1
def tOr (t u:TT):TT:=fun σ H Q=>t σ H fun c H1=>if c=true then Q true H1 else u σ H1 Q
def WY (t:TT):TT:=fun σ H Q=>t σ H fun c H1=>Q (!c) H1
theorem CB (ha:PT X a tA):PW X (.BoolOp .And [a] pos) tA:=by
 intro wh pins s σ H Q I h
 refine isTrue_and (bY (ha pins s σ H Q I h) fun c s1 e=>?_)
 cases c with
 | true=>exact isTrue_and_nil e
 | false=>exact e
theorem IY (ha:PT X a tA):PW X (.BoolOp .Or [a] pos) tA:=by
 intro wh pins s σ H Q I h
 refine isTrue_or (bY (ha pins s σ H Q I h) fun c s1 e=>?_)
 cases c with
 | false=>exact isTrue_or_nil e
 | true=>exact e
theorem IZ (ha:PT X a tA) (hb:PW X (.BoolOp .And (b::rest) pos) Wj):PW X (.BoolOp .And (a::b::rest) pos) (WX tA Wj):=by
 intro wh pins s σ H Q I h
 refine isTrue_and (bY (ha pins s σ H _ I h) fun c s1 ⟨H1,I1,q1⟩=>?_)
 cases c with
 | true=>exact hb wh pins s1 σ H1 Q I1 q1
 | false=>exact ⟨H1,I1,q1⟩
theorem OH (ha:PT X a tA) (hb:PW X (.BoolOp .Or (b::rest) pos) Wj):PW X (.BoolOp .Or (a::b::rest) pos) (tOr tA Wj):=by
 intro wh pins s σ H Q I h
 refine isTrue_or (bY (ha pins s σ H _ I h) fun c s1 ⟨H1,I1,q1⟩=>?_)
 cases c with
 | true=>exact ⟨H1,I1,q1⟩
 | false=>exact hb wh pins s1 σ H1 Q I1 q1
theorem I0 (ha:PT X a tA):PT X (.UnaryOp .Not a pos) (WY tA):=by
 intro pins s σ H Q I h
 exact isTrue_not (ha pins s σ H (fun c H1=>Q (!c) H1) I h)
def OI (ta tb:TE):TE:=fun σ H Q=>ta σ H fun x H1=>∃ c,x=.bl c/\if c=true then tb σ H1 Q else Q (.bl false) H1
def WZ (ta tb:TE):TE:=fun σ H Q=>ta σ H fun x H1=>∃ c,x=.bl c/\if c=true then Q (.bl true) H1 else tb σ H1 Q
def OJ (ta:TE):TE:=fun σ H Q=>ta σ H fun x H1=>∃ c,x=.bl c/\Q (.bl (!c)) H1
theorem I_ {op}{t:TE}(h:PE X a t):PE X (.BoolOp op [a] pos) t:=fun pins s σ H Q I hw=>BoolOp_one (h pins s σ H Q I hw)
theorem Ja (ha:PE X a ta) (hb:PE X (.BoolOp .And (b::rest) pos) tb):PE X (.BoolOp .And (a::b::rest) pos) (OI ta tb):=by
 intro pins s σ H Q I h
 refine BoolOp_and (bY (ha pins s σ H _ I h) fun v s1 ⟨x,H1,I1,r1,q1⟩=>?_)
 obtain ⟨c,rfl,q1⟩:=q1
 cases r1
 refine wpAny_truthy_bool ?_
 cases c with
 | true=>exact hb pins s1 σ H1 Q I1 q1
 | false=>exact ⟨.bl false,H1,I1,rfl,q1⟩
theorem OL (ha:PE X a ta) (hb:PE X (.BoolOp .Or (b::rest) pos) tb):PE X (.BoolOp .Or (a::b::rest) pos) (WZ ta tb):=by
 intro pins s σ H Q I h
 refine BoolOp_or (bY (ha pins s σ H _ I h) fun v s1 ⟨x,H1,I1,r1,q1⟩=>?_)
 obtain ⟨c,rfl,q1⟩:=q1
 cases r1
 refine wpAny_truthy_bool ?_
 cases c with
 | false=>exact hb pins s1 σ H1 Q I1 q1
 | true=>exact ⟨.bl true,H1,I1,rfl,q1⟩
theorem Jb (ha:PE X a ta):PE X (.UnaryOp .Not a pos) (OJ ta):=by
 intro pins s σ H Q I h
 refine UnaryOp_ (bY (ha pins s σ H _ I h) fun v s1 ⟨x,H1,I1,r1,q1⟩=>?_)
 obtain ⟨c,rfl,q1⟩:=q1
 cases r1
 exact not_of (wpAny_truthy_bool ⟨.bl (!c),H1,I1,rfl,q1⟩)
def tIf (t:TT) (ta tb:TE):TE:=fun σ H Q=>t σ H fun c H1=>if c=true then ta σ H1 Q else tb σ H1 Q
theorem yI {c:Expr}(hc:PT X c tA) (ha:PE X a ta) (hb:PE X b tb):PE X (.IfExp c a b pos) (tIf tA ta tb):=by
 intro pins s σ H Q I h
 refine wpAny_IfExp (bY (hc pins s σ H _ I h) fun d s1 ⟨H1,I1,q1⟩=>?_)
 cases d with
 | true=>exact ha pins s1 σ H1 Q I1 q1
 | false=>exact hb pins s1 σ H1 Q I1 q1
end
def c9 (K:PySem.W.Frag) (H:Hp) (a:Addr) (xs:List V):Prop:=
 Rd H a (.lst xs) \/
  ∃ (o:Obj) (its:Array Value) (n:Nat),K.lookup a=some o/\o.cls=.type "list" /\ o.dict=none/\o.data=.seq its n/\its.size<=sizeLine/\Vals xs its.toList
def i9 (K:PySem.W.Frag) (H:Hp) (a:Addr) (xs:List V):Prop:=
 Rd H a (.tup xs) \/
  ∃ (o:Obj) (its:Array Value) (n:Nat),K.lookup a=some o/\o.cls=.type "tuple" /\ o.data=.seq its n/\its.size<=sizeLine/\Vals xs its.toList
def W0:Value->Option V
 | .none=>some .non
 | .bool b=>some (.bl b)
 | .int i _=>some (.int i)
 | .str x _=>some (.str x)
 | .bytes b _=>some (.byt b)
 | .float b _=>some (.flt b)
 | .ref a=>some (.ref a)
 | .type n=>some (.ty n)
 | _=>none
theorem RelV.abs {x:V}{u:Value}(r:RelV x u):W0 u=some x:=by
 cases x with
 | non=>cases r;rfl
 | bl _=>cases r;rfl
 | int _=>obtain ⟨t,rfl⟩:=r;rfl
 | str _=>obtain ⟨t,rfl⟩:=r;rfl
 | byt _=>obtain ⟨t,rfl⟩:=r;rfl
 | flt _=>obtain ⟨t,rfl⟩:=r;rfl
 | ref _=>cases r;rfl
 | ty _=>cases r;rfl
theorem RelV.inj {x y:V}{u:Value}(r:RelV x u) (q:RelV y u):x=y:=Option.some.inj (r.abs.symm.trans q.abs)
theorem Vals.inj:∀ {xs ys:List V}{us:List Value},Vals xs us->Vals ys us->xs=ys
 | _,_,_,.nil,.nil=>rfl
 | _,_,_,.cons r t,.cons r' t'=>by rw [r.inj r',Vals.inj t t']
section
variable {X:Cx}{pins:List (Addr × Obj)}{σ:St}{H:Hp}{s:Shared}{a:Addr}{xs ys:List V}
theorem c9.of {K:PySem.W.Frag}(h:H a=some (.lst xs)):c9 K H a xs:=.inl (.inl h)
theorem i9.of {K:PySem.W.Frag}(h:H a=some (.tup xs)):i9 K H a xs:=.inl (.inl h)
theorem Inv.list (I:Inv X pins σ H s) (h:c9 X.K H a xs):∃ its:List Value,Vals xs its/\PlainL s.heap a its.toArray/\xs.length<=sizeLine:=by
 rcases h with h | ⟨o,its,n,hk,hc,hd,hs,hz,r⟩
 ·obtain ⟨z,its,n,r,e⟩:=h.ok I.bU
  exact ⟨its,r,⟨_,n,e,rfl,rfl,rfl⟩,z⟩
 ·refine ⟨its.toList,r,⟨o,n,I.gO a o hk,hc,hd,by simpa using hs⟩,?_⟩
  have e:=r.length
  simp only [Array.length_toList] at e
  omega
theorem Inv.tuple (I:Inv X pins σ H s) (h:i9 X.K H a xs):∃ its:List Value,Vals xs its/\IsTup s.heap a its.toArray/\xs.length<=sizeLine:=by
 rcases h with h | ⟨o,its,n,hk,hc,hs,hz,r⟩
 ·obtain ⟨z,its,r,p⟩:=h.ok I.bU
  exact ⟨its,r,p,z⟩
 ·refine ⟨its.toList,r,⟨o,I.gO a o hk,hc,n,by simpa using hs⟩,?_⟩
  have e:=r.length
  simp only [Array.length_toList] at e
  omega
theorem Inv.yJ (I:Inv X pins σ H s) (h:c9 X.K H a xs) (h':c9 X.K H a ys):xs=ys:=by
 obtain ⟨its,r,⟨o,n,e,_,_,d⟩,_⟩:=I.list h
 obtain ⟨its',r',⟨o',n',e',_,_,d'⟩,_⟩:=I.list h'
 rw [e] at e';cases e'
 rw [d] at d'
 injection d' with d1 _
 have:its=its':=by simpa using congrArg Array.toList d1
 subst this
 exact r.inj r'
theorem Inv.k_ (I:Inv X pins σ H s) (h:i9 X.K H a xs) (h':i9 X.K H a ys):xs=ys:=by
 obtain ⟨its,r,⟨o,e,_,n,d⟩,_⟩:=I.tuple h
 obtain ⟨its',r',⟨o',e',_,n',d'⟩,_⟩:=I.tuple h'
 rw [e] at e';cases e'
 rw [d] at d'
 injection d' with d1 _
 have:its=its':=by simpa using congrArg Array.toList d1
 subst this
 exact r.inj r'
end
abbrev Cx.kQ (X:Cx) (E:Value->Shared->Prop):Cx:={ X with xe:=E }
abbrev Cx.GY (X:Cx):Cx:=X.kQ fun _ _=>False
theorem Cx.Ok.kQ {X:Cx}(ok:X.Ok) (E:Value->Shared->Prop):(X.kQ E).Ok:=
 ⟨ok.mod,ok.kind,ok.glob,ok.blt,ok.above,ok.inj,ok.has,ok.cab,ok.hd,ok.frames,ok.stk,ok.exf,ok.bs,ok.bsz,ok.noex,ok.exfs,ok.ji,ok.frf⟩
theorem Cx.Ok.fQ {X:Cx}{E:Value->Shared->Prop}(ok:(X.kQ E).Ok):X.Ok:=
 ⟨ok.mod,ok.kind,ok.glob,ok.blt,ok.above,ok.inj,ok.has,ok.cab,ok.hd,ok.frames,ok.stk,ok.exf,ok.bs,ok.bsz,ok.noex,ok.exfs,ok.ji,ok.frf⟩
section
variable {X:Cx}{pins:List (Addr × Obj)}{σ:St}{H:Hp}{s:Shared}{E:Value->Shared->Prop}
theorem Inv.kQ (I:Inv X pins σ H s) (E:Value->Shared->Prop):Inv (X.kQ E) pins σ H s:=⟨I.ok.kQ E,I.os,I.bare,I.base,I.loc,I.cell,I.free,I.freeC,I.pin,I.bU,I.len⟩
theorem Inv.fQ (I:Inv (X.kQ E) pins σ H s):Inv X pins σ H s:=⟨I.ok.fQ,I.os,I.bare,I.base,I.loc,I.cell,I.free,I.freeC,I.pin,I.bU,I.len⟩
theorem SP.fQ {D:Ends}{f:Flow}{s':Shared}(h:SP (X.kQ E) pins D f s'):SP X pins D f s':=by
 cases f with
 | next=>obtain ⟨σ',H',I,q⟩:=h;exact ⟨σ',H',I.fQ,q⟩
 | brk=>obtain ⟨σ',H',I,q⟩:=h;exact ⟨σ',H',I.fQ,q⟩
 | cont=>obtain ⟨σ',H',I,q⟩:=h;exact ⟨σ',H',I.fQ,q⟩
 | ret u=>obtain ⟨v,σ',H',I,r,q⟩:=h;exact ⟨v,σ',H',I.fQ,r,q⟩
theorem gP.GY {st:List Stmt}{t:TS}(h:gP X.GY st t):gP X st t:=fun pins s σ H D I hw=>
 wpAny_mono (h pins s σ H D (I.kQ _) hw) (fun _ _ q=>q.fQ) fun _ _ z=>False.elim z
end
section
variable {X:Cx}{st:Stmt}{rest:List Stmt}{t u:TS}{e:Expr}{te:TE}{pos:Pos}
def yK:TS:=fun D σ H=>D.nx σ H
def OM (t u:TS):TS:=fun D σ H=>t { D with nx:=u D } σ H
theorem uA:gP X [] yK:=fun _ _ σ H _ I h=>wpAny_execs_nil ⟨σ,H,I,h⟩
theorem n8 (h1:PS X st t) (h2:gP X rest u):gP X (st::rest) (OM t u):=by
 intro pins s σ H D I h
 refine wpAny_execs_cons (bY (h1 pins s σ H { D with nx:=u D } I h) fun f s1 q=>?_)
 cases f with
 | next=>
  obtain ⟨σ',H',I',q⟩:=q
  exact h2 pins s1 σ' H' D I' q
 | ret v=>exact q
 | brk=>exact q
 | cont=>exact q
theorem uB (h1:PS X st t):gP X [st] t:=by
 intro pins s σ H D I h
 refine wpAny_execs_cons (bY (h1 pins s σ H D I h) fun f s1 q=>?_)
 cases f with
 | next=>exact wpAny_execs_nil q
 | ret v=>exact q
 | brk=>exact q
 | cont=>exact q
def Jc:TS:=fun D σ H=>D.bk σ H
def ON:TS:=fun D σ H=>D.ct σ H
theorem CF:PS X (.Pass pos) yK:=fun _ _ σ H _ I h=>wpAny_Pass ⟨σ,H,I,h⟩
theorem yL:PS X (.Break pos) Jc:=fun _ _ σ H _ I h=>wpAny_Break ⟨σ,H,I,h⟩
theorem n_:PS X (.Continue pos) ON:=fun _ _ σ H _ I h=>wpAny_Continue ⟨σ,H,I,h⟩
theorem Inv.quiet {pins:List (Addr × Obj)}{σ:St}{H:Hp}{s:Shared}(I:Inv X pins σ H s):interactive X.env=false:=by simp [interactive,I.ok.kind]
def OO (te:TE):TS:=fun D σ H=>te σ H fun _ H1=>D.nx σ H1
theorem uC (he:PE X e te) (hs:swapsWith e none pos.line X.env=pure false:=by rfl):PS X (.Expr e pos) (OO te):=by
 intro pins s σ H D I h
 exact wpAny_Expr_any (bY (he pins s σ H _ I h) fun v s1 ⟨x,H1,I1,r1,q1⟩=>⟨σ,H1,I1,q1⟩) I.quiet hs
def W2 (te:TE):TS:=fun D σ H=>te σ H D.rt
theorem Jd (he:PE X e te):PS X (.Return (some e) pos) (W2 te):=by
 intro pins s σ H D I h
 exact wpAny_Return_some (bY (he pins s σ H _ I h) fun v s1 ⟨x,H1,I1,r1,q1⟩=>⟨x,σ,H1,I1,r1,q1⟩)
def OP:TS:=fun D _ H=>D.rt .non H
theorem CG:PS X (.Return none pos) OP:=fun _ _ σ H _ I h=>wpAny_Return_none ⟨.non,σ,H,I,rfl,h⟩
def W3 (c:TT) (t u:TS):TS:=fun D σ H=>c σ H fun b H1=>if b=true then t D σ H1 else u D σ H1
theorem OQ {c:Expr}{a b:List Stmt}{tc:TT}(hc:PT X c tc) (ha:gP X a t) (hb:gP X b u):PS X (.If c a b pos) (W3 tc t u):=by
 intro pins s σ H D I h
 refine wpAny_If (bY (hc pins s σ H _ I h) fun d s1 ⟨H1,I1,q1⟩=>?_)
 cases d with
 | true=>exact ha pins s1 σ H1 D I1 q1
 | false=>exact hb pins s1 σ H1 D I1 q1
end
abbrev TG:=V->St->Hp->(St->Hp->Prop)->Prop
abbrev GZ:=List V->St->Hp->(St->Hp->Prop)->Prop
def PG (X:Cx) (target:Expr) (t:TG):Prop:=
 ∀ (pins:List (Addr × Obj)) (s:Shared) (σ:St) (H:Hp) (v:V) (u:Value) (Q:St->Hp->Prop),Inv X pins σ H s->RelV v u->t v σ H Q ->
  wpAny (model X.prog X.w) X.A (assign target X.env u) (fun _ s'=>∃ σ' H',Inv X pins σ' H' s'/\Q σ' H') X.xe s
def OR (X:Cx) (ts:List Expr) (t:GZ):Prop:=
 ∀ (pins:List (Addr × Obj)) (s:Shared) (σ:St) (H:Hp) (vs:List V) (us:List Value) (Q:St->Hp->Prop),Inv X pins σ H s->Vals vs us->t vs σ H Q ->
  wpAny (model X.prog X.w) X.A (assignInOrder ((assignEach ts X.env).map (·.2)) us) (fun _ s'=>∃ σ' H',Inv X pins σ' H' s'/\Q σ' H') X.xe s
abbrev Wk:=V->V->Hp->VK->Prop
def Z8 (X:Cx) (op:Operator) (t:Wk):Prop:=
 ∀ (pins:List (Addr × Obj)) (s:Shared) (σ:St) (H:Hp) (x y:V) (v u:Value) (Q:VK),Inv X pins σ H s->RelV x v->RelV y u->t x y H Q ->
  wpAny (model X.prog X.w) X.A (inplaceOp op v u) (EP X pins σ Q) X.xe s
section
variable {X:Cx}{pos:Pos}
def uD (i:Nat):TG:=fun v σ H Q=>Q (σ.set i (some v)) H
theorem l9 {i:Nat}{x:Str}(hN:X.N.Nodup) (hi:X.N[i]?=some x) (hx:Loc X.env.scope x) (hf:X.fn x=true\/X.env.scope.names.lookup x=some .local:=by first | exact .inl rfl | exact .inr rfl | assumption):PG X (.Name x pos) (uD i):=by
 intro pins s σ H v u Q I r h
 exact wpAny_assign_Name (jC I hN hi hx r (fun s' I'=>⟨_,H,I',h⟩) hf)
def OS:GZ:=fun vs σ H Q=>vs=[]/\Q σ H
def G0 (t:TG) (u:GZ):GZ:=fun vs σ H Q=>∃ v r,vs=v::r/\t v σ H fun σ' H'=>u r σ' H' Q
theorem CH:OR X [] OS:=by
 intro pins s σ H vs us Q I r h
 obtain ⟨e,h⟩:=h
 subst e
 cases r
 exact assignInOrder_nil ⟨σ,H,I,h⟩
theorem yM {e:Expr}{es:List Expr}{t:TG}{u:GZ}(h1:PG X e t) (h2:OR X es u)
  (hs:(assignEach (e::es) X.env).map (·.2)=assign e X.env::(assignEach es X.env).map (·.2):=by rfl):OR X (e::es) (G0 t u):=by
 intro pins s σ H vs us Q I r h
 obtain ⟨v,vr,e1,h⟩:=h
 subst e1
 cases r with
 | cons r rr=>
  rw [hs]
  refine assignInOrder_cons (bY (h1 pins s σ H _ _ _ I r h) fun _ s1 ⟨σ1,H1,I1,q1⟩=>?_)
  exact h2 pins s1 σ1 H1 _ _ Q I1 rr q1
def Je (K:PySem.W.Frag) (n:Nat) (t:GZ):TG:=fun v σ H Q=>∃ a xs,v=.ref a/\i9 K H a xs/\xs.length=n/\t xs σ H Q
theorem yN {es:List Expr}{k:Nat}{t:GZ}{n:Nat}(hc:X.calm=true) (h:OR X es t)
  (hn:(assignEach es X.env).length=n:=by rfl) (W4:(assignEach es X.env).findIdx? (·.1)=none:=by rfl):PG X (.Tuple es k pos) (Je X.K n t):=by
 intro pins s σ H v u Q I r hw
 obtain ⟨a,xs,e1,hq,hl,hw⟩:=hw
 subst e1
 cases r
 obtain ⟨its,rv,ht,hz⟩:=I.tuple hq
 refine assign_Tuple_tuple (I.ok.hd hc) ht (by simp [hn,<- hl,rv.length]) W4 fun h' hx=>?_
 have I1:Inv X pins σ H { s with heap:=h' }:=I.kept (t':=s.toks) fun b o e=>hx b o (Nat.ne_of_lt (Heap.lt_size e)) e
 exact h pins _ σ H xs _ Q I1 (by simpa using rv) hw
def OT (te:TE) (g:TG):TS:=fun D σ H=>te σ H fun x H1=>g x σ H1 D.nx
theorem Jf {tg e:Expr}{te:TE}{g:TG}(he:PE X e te) (hg:PG X tg g) (hs:swapsWithSole [tg] e pos.line X.env=pure false:=by rfl) (hw:swappedStores [tg] e X.env=pure none:=by rfl)
  (h1:(assignEach [tg] X.env).map (·.2)=[assign tg X.env]:=by rfl):PS X (.Assign [tg] e pos) (OT te g):=by
 intro pins s σ H D I h
 refine wpAny_Assign_stores (bY (he pins s σ H _ I h) fun v s1 ⟨x,H1,I1,r1,q1⟩=>?_) hs hw
 rw [h1]
 exact bY (hg pins s1 σ H1 x v _ I1 r1 q1) fun _ s2 q=>q
theorem qW {i:Nat}{x:Str}{e:Expr}{te:TE}{pos':Pos}(hN:X.N.Nodup) (hi:X.N[i]?=some x) (hx:Loc X.env.scope x) (he:PE X e te) (hs:swapsWith e (some (.Name x pos')) pos.line X.env=pure false:=by rfl) (hf:X.fn x=true\/X.env.scope.names.lookup x=some .local:=by first | exact .inl rfl | exact .inr rfl | assumption) :
  PS X (.Assign [.Name x pos'] e pos) (OT te (uD i)):=by
 intro pins s σ H D I h
 refine wpAny_Assign_Name (bY (he pins s σ H _ I h) fun v s1 ⟨y,H1,I1,r1,q1⟩=>?_) hs
 exact jC I1 hN hi hx r1 (fun s2 I2=>⟨_,H1,I2,q1⟩) hf
def W5 (i:Nat) (te:TE) (ti:Wk):TS:=fun D σ H=>∃ x,σ[i]?=some (some x)/\te σ H fun y H1=>ti x y H1 fun z H2=>D.nx (σ.set i (some z)) H2
theorem Jg {i:Nat}{x:Str}{e:Expr}{te:TE}{op:Operator}{ti:Wk}{pos':Pos}(hN:X.N.Nodup) (hi:X.N[i]?=some x) (hx:Loc X.env.scope x) (he:PE X e te) (ho:Z8 X op ti) (hf:X.fn x=true\/X.env.scope.names.lookup x=some .local:=by first | exact .inl rfl | exact .inr rfl | assumption) :
  PS X (.AugAssign (.Name x pos') op e pos) (W5 i te ti):=by
 intro pins s σ H D I h
 obtain ⟨v,e1,h⟩:=h
 obtain ⟨m,hn,hl⟩:=I.loc
 have vis:qR X.env.scope x:=by rcases hx with k | k;exact .inl k;exact .inr (.inl k)
 obtain ⟨u,r,l⟩:=hl i x v hi e1 vis
 refine wpAny_AugAssign_Name ?_
 have go:wpAny (model X.prog X.w) X.A (eval e X.env) (fun w s₂=>wpAny (model X.prog X.w) X.A (inplaceOp op u w) (fun r s₃=>wpAny (model X.prog X.w) X.A (storeName X.env x r) (fun _=>SP X pins D .next) X.xe s₃) X.xe s₂) X.xe s:=by
  refine bY (he pins s σ H _ I h) fun w s1 ⟨y,H1,I1,r1,q1⟩=>?_
  refine bY (ho pins s1 σ H1 v y u w _ I1 r r1 q1) fun z s2 ⟨zv,H2,I2,r2,q2⟩=>?_
  exact jC I2 hN hi hx r2 (fun s3 I3=>⟨_,H2,I3,q2⟩) hf
 rcases l with ⟨hk,hm⟩ | ⟨hk,c,hc,hcell⟩
 ·exact wpAny_loadName_local I.ok.kind hk hn hm go
 ·rcases hk with hk | hk
  ·exact wpAny_loadName_cell I.ok.kind hk hc hcell go
  ·rcases hx with k | k
   ·have:X.env.scope.names.lookup x=some .free:=hk
    rw [k] at this;cases this
   ·have:X.env.scope.names.lookup x=some .free:=hk
    rw [k] at this;cases this
def ipI (f:Int->Int->Int):Wk:=fun x y H Q=>∃ i j,x=.int i/\y=.int j/\Q (.int (f i j)) H
theorem Jh:Z8 X .Add (ipI fun i j=>i+j):=by
 intro pins s σ H x y v u Q I r1 r2 h
 obtain ⟨i,j,e1,e2,q⟩:=h
 subst e1;subst e2
 obtain ⟨t,rfl⟩:=r1
 obtain ⟨t',rfl⟩:=r2
 exact iadd_int ⟨.int _,H,I.tok _,⟨_,rfl⟩,q⟩
end
section
variable {X:Cx}{pos:Pos}
def Ji (c:TT) (tb:TS):TS:=fun D σ H=>∃ W:Nat->St->Hp->Prop,(∃ m,W m σ H)/\∀ m σ H,W m σ H ->
 c σ H fun b H1=>if b=true then ∃ N:St->Hp->Prop,(∀ σ' H',N σ' H'->∃ m',m'<m/\W m' σ' H')/\tb { D with nx:=N,ct:=N,bk:=D.nx } σ H1 else D.nx σ H1
theorem yO {c:Expr}{body:List Stmt}{tc:TT}{tb:TS}(hp:PassesOwn (model X.prog X.w) X.A X.env X.xe) (hc:PT X c tc) (hb:gP X body tb):PS X (.While c body [] pos) (Ji tc tb):=by
 intro pins s σ H D I h
 obtain ⟨W,⟨m0,w0⟩,turn⟩:=h
 refine wpAny_While (codeAny_whileLoop (fun n s'=>∃ σ' H',Inv X pins σ' H' s'/\W n σ' H') ?_ m0 ⟨σ,H,I,w0⟩)
 rintro n s1 ⟨σ1,H1,I1,w1⟩
 refine wpAny_passesOwn hp (bY (hc pins s1 σ1 H1 _ I1 (turn n σ1 H1 w1)) fun b s2 ⟨H2,I2,q2⟩=>?_)
 cases b with
 | true=>
  obtain ⟨N,hN,q2⟩:=q2
  rw [if_pos rfl]
  refine wpAny_passesOwn hp (bY (hb pins s2 σ1 H2 _ I2 q2) fun f s3 q3=>?_)
  cases f with
  | next=>
   obtain ⟨σ3,H3,I3,n3⟩:=q3
   obtain ⟨m',hm,w3⟩:=hN σ3 H3 n3
   exact ⟨m',hm,σ3,H3,I3,w3⟩
  | cont=>
   obtain ⟨σ3,H3,I3,n3⟩:=q3
   obtain ⟨m',hm,w3⟩:=hN σ3 H3 n3
   exact ⟨m',hm,σ3,H3,I3,w3⟩
  | brk=>exact q3
  | ret v=>exact q3
 | false=>
  rw [if_neg Bool.false_ne_true]
  exact wpAny_execs_nil ⟨σ1,H2,I2,q2⟩
end
structure It where
 go:Nat->Hp->Prop
 yld:Nat->Hp->V->Hp->Prop
 stop:Nat->Hp->Prop
def jD (X:Cx) (pins:List (Addr × Obj)) (H:Hp) (b:Addr):Prop:=
 H b=none/\b≠X.env.locals/\b ∉ X.fs/\(b∈X.ex\/X.s₀.heap.objs.size<=b)/\(∀ x c,X.env.cells.lookup x=some c->c≠b)/\∀ p∈X.pn++pins,p.1≠b
theorem Inv.qX {X:Cx}{pins:List (Addr × Obj)}{σ:St}{H H':Hp}{s:Shared}{b:Addr}(I:Inv X pins σ H s) (hb:s.heap.objs.size<=b) (hn:H' b=none):jD X pins H' b:=by
 refine ⟨hn,Nat.ne_of_gt (Nat.lt_of_lt_of_le I.lt hb),I.WR hb,.inr (Nat.le_trans I.sz hb),fun x c e z=>?_,fun p hp z=>?_⟩
 ·obtain ⟨v,q⟩:=I.cell x c e
  exact absurd (Nat.lt_of_lt_of_le q.lt (by rw [z];exact hb)) (Nat.lt_irrefl _)
 ·exact absurd (Nat.lt_of_lt_of_le (Heap.lt_size (I.pin p hp).1) (by rw [z];exact hb)) (Nat.lt_irrefl _)
structure Turn (P:Program) (w:World) (K:PySem.W.Frag) (tg:Expr) (J:It) (fp:List Addr) (it:Addr) (tn:Nat->Heap->Prop):Prop where
 mem:it∈fp
 obj:∀ i h,tn i h->∀ b∈fp,∃ o,h.get? b=some o/\∀ v,o.data≠.cell v
 keep:∀ i h h',tn i h->(∀ b∈fp,∀ o,h.get? b=some o->h'.get? b=some o)->tn i h'
 item:∀ (X:Cx),X.prog=P->X.w=w->X.K=K->X.calm=true->∀ (i:Nat) (pins:List (Addr × Obj)) (s:Shared) (σ:St) (H:Hp) (E:Value->Shared->Prop),Inv X pins σ H s->(∀ b∈fp,jD X pins H b)->tn i s.heap->J.go i H ->
  wpAny (model P w) X.A (pyNext (.ref it)) (fun r s1=>∃ u,r=some u /\
   wpAny (model P w) X.A (letOwnedTupleGo tg (.ref it) u) (fun _ s2=>∃ x H',Inv X pins σ H' s2/\RelV x u/\J.yld i H x H'/\tn (i+1) s2.heap/\∀ b∈fp,H' b=none) E s1) E s
 done:∀ (X:Cx),X.prog=P->X.w=w->X.K=K->X.calm=true->∀ (i:Nat) (pins:List (Addr × Obj)) (s:Shared) (σ:St) (H:Hp) (E:Value->Shared->Prop),Inv X pins σ H s->(∀ b∈fp,jD X pins H b)->tn i s.heap->J.stop i H ->
  wpAny (model P w) X.A (pyNext (.ref it)) (fun r s1=>r=none/\Inv X pins σ H s1) E s
 self:∀ (A:Around) (i:Nat) (s:Shared) (Q:Value->Shared->Prop) (E:Value->Shared->Prop),tn i s.heap->Q (.ref it) s->wpAny (model P w) A (pyIter (.ref it)) Q E s
abbrev TI:=St->Hp->(It->Hp->Prop)->Prop
def Z9 (X:Cx) (pins:List (Addr × Obj)) (σ:St) (tg:Expr) (R:It->Hp->Prop) (W6:Value) (s2:Shared):Prop:=
 ∃ (it:Addr) (fp:List Addr) (tn:Nat->Heap->Prop) (J:It) (H':Hp),W6=.ref it/\Inv X pins σ H' s2/\Turn X.prog X.w X.K tg J fp it tn/\tn 0 s2.heap/\(∀ b∈fp,jD X pins H' b)/\R J H'
def PI (X:Cx) (tg iter:Expr) (wi:TI):Prop:=
 ∀ (pins:List (Addr × Obj)) (s:Shared) (σ:St) (H:Hp) (R:It->Hp->Prop),Inv X pins σ H s->wi σ H R ->
  wpAny (model X.prog X.w) X.A (eval iter X.env) (fun v s1=>wpAny (model X.prog X.w) X.A (pyIter v) (Z9 X pins σ tg R) X.xe s1) X.xe s
theorem yP {M:Model}{A:Around}{E:Value->Shared->Prop}{s:Shared}{tg:Expr}{it:Addr}{u:Value}{o:Obj}{n:String}{vs:Array Value}{Q:Unit->Shared->Prop}(ho:s.heap.get? it=some o) (hc:o.cls=.type n) (hd:o.data=.fields vs)
  (hn:["enumerate", "zip", "dict_itemiterator", "dict_reverseitemiterator", "odict_iterator", "itertools.zip_longest", "itertools.pairwise"].contains n=false) (hQ:Q () s):wpAny M A (letOwnedTupleGo tg (.ref it) u) Q E s:=by
 unfold letOwnedTupleGo
 cases tg<;>first
  | exact wpAny_pure hQ
  | (cases u<;>first
    | exact wpAny_pure hQ
    | (refine wpAny_bind (wpAny_load ho ?_)
       rw [hc,hd]
       show wpAny M A (if (["enumerate", "zip", "dict_itemiterator", "dict_reverseitemiterator", "odict_iterator", "itertools.zip_longest", "itertools.pairwise"].contains n&&vs[0]? == some (rawInt _))=true then _ else _) Q E s
       rw [if_neg (by intro h;rw [hn,Bool.false_and] at h;cases h)]
       exact wpAny_pure hQ))
def Wl (K:PySem.W.Frag) (a:Addr):It:=
 ⟨fun i H=>∃ xs x,c9 K H a xs/\xs[i]?=some x,fun i H x H'=>H'=H/\∀ xs,c9 K H a xs->xs[i]?=some x,fun i H=>∃ xs,c9 K H a xs/\xs.length<=i⟩
def W7 (K:PySem.W.Frag) (a:Addr):It:=
 ⟨fun i H=>∃ xs x,i9 K H a xs/\xs[i]?=some x,fun i H x H'=>H'=H/\∀ xs,i9 K H a xs->xs[i]?=some x,fun i H=>∃ xs,i9 K H a xs/\xs.length<=i⟩
def OU (lo:Int) (n:Nat):It:=⟨fun i _=>i<n,fun i H x H'=>H'=H/\x=.int (lo+i),fun i _=>n<=i⟩
theorem v5 {P:Program}{w:World}{K:PySem.W.Frag}{tg:Expr}(a it:Addr):Turn P w K tg (Wl K a) [it] it (fun i h=>h.IsListIter it a i) where
 mem:=by simp
 obj:=fun i h st b hb=>by
  have e:b=it:=by simpa using hb
  subst e
  obtain ⟨o,e,c,d⟩:=st
  exact ⟨o,e,fun v z=>by rw [d] at z;cases z⟩
 keep:=fun i h h' st k=>st.at fun o e=>k it (by simp) o e
 item:=by
  intro X hP hw hK hc i pins s σ H E I hf st hg
  subst hP hw hK
  obtain ⟨xs,x,hq,hx⟩:=hg
  obtain ⟨its,rv,p,hz⟩:=I.list hq
  obtain ⟨u,hu,ru⟩:=rv.get hx
  obtain ⟨f0,f1,f2,f3,f4,f5⟩:=hf it (by simp)
  refine wpAny_pyNext_list_item st p.isList (x:=u) (by simpa using hu) fun h' yv sb=>?_
  have I1:Inv X pins σ H { s with heap:=h' }:=I.turned (t':=s.toks) (fun b o hb e=>(sb.2 b hb).trans e) f0 f1 f3 f4 f5
  obtain ⟨o,e,c,d⟩:=id yv
  exact ⟨u,rfl,yP (s:={ s with heap:=h' }) e c d (by decide) ⟨x,H,I1,ru,⟨rfl,fun ys hy=>by rw [I.yJ hy hq];exact hx⟩,yv,fun b hb=>(hf b hb).1⟩⟩
 done:=by
  intro X hP hw hK hc i pins s σ H E I hf st hg
  subst hP hw hK
  obtain ⟨xs,hq,hx⟩:=hg
  obtain ⟨its,rv,p,hz⟩:=I.list hq
  obtain ⟨f0,f1,f2,f3,f4,f5⟩:=hf it (by simp)
  have hl:=rv.length
  exact wpAny_pyNext_list_end (I.ok.hd hc) st p.isList (by simp;omega) fun h' eb=>⟨rfl,I.turned (t':=s.toks) (fun b o hb e=>eb b o hb e) f0 f1 f3 f4 f5⟩
 self:=fun _ _ _ _ _ st h=>wpAny_pyIter_listiter st h
theorem qY {P:Program}{w:World}{K:PySem.W.Frag}{tg:Expr}(a it:Addr):Turn P w K tg (W7 K a) [it] it (fun i h=>h.IsTupleIter it a i) where
 mem:=by simp
 obj:=fun i h st b hb=>by
  have e:b=it:=by simpa using hb
  subst e
  obtain ⟨o,e,c,d⟩:=st
  exact ⟨o,e,fun v z=>by rw [d] at z;cases z⟩
 keep:=fun i h h' st k=>st.at fun o e=>k it (by simp) o e
 item:=by
  intro X hP hw hK hc i pins s σ H E I hf st hg
  subst hP hw hK
  obtain ⟨xs,x,hq,hx⟩:=hg
  obtain ⟨its,rv,p,hz⟩:=I.tuple hq
  obtain ⟨u,hu,ru⟩:=rv.get hx
  obtain ⟨f0,f1,f2,f3,f4,f5⟩:=hf it (by simp)
  refine wpAny_pyNext_tuple_item st (show s.heap.IsTuple a its.toArray from p) (x:=u) (by simpa using hu) fun h' yv sb=>?_
  have I1:Inv X pins σ H { s with heap:=h' }:=I.turned (t':=s.toks) (fun b o hb e=>(sb.2 b hb).trans e) f0 f1 f3 f4 f5
  obtain ⟨o,e,c,d⟩:=id yv
  exact ⟨u,rfl,yP (s:={ s with heap:=h' }) e c d (by decide) ⟨x,H,I1,ru,⟨rfl,fun ys hy=>by rw [I.k_ hy hq];exact hx⟩,yv,fun b hb=>(hf b hb).1⟩⟩
 done:=by
  intro X hP hw hK hc i pins s σ H E I hf st hg
  subst hP hw hK
  obtain ⟨xs,hq,hx⟩:=hg
  obtain ⟨its,rv,p,hz⟩:=I.tuple hq
  obtain ⟨f0,f1,f2,f3,f4,f5⟩:=hf it (by simp)
  have hl:=rv.length
  exact wpAny_pyNext_tuple_end (I.ok.hd hc) st (show s.heap.IsTuple a its.toArray from p) (by simp;omega) fun h' eb=>⟨rfl,I.turned (t':=s.toks) (fun b o hb e=>eb b o hb e) f0 f1 f3 f4 f5⟩
 self:=fun _ _ _ _ _ st h=>wpAny_pyIter_tupleiter st h
theorem qZ {P:Program}{w:World}{K:PySem.W.Frag}{tg:Expr}(it:Addr) (lo:Int) (n:Nat):Turn P w K tg (OU lo n) [it] it (fun i h=>IsRangeIter h it (lo+(i:Nat)*1) ((n:Int)-(i:Nat)) 1) where
 mem:=by simp
 obj:=fun i h st b hb=>by
  have e:b=it:=by simpa using hb
  subst e
  exact ⟨_,st,fun v z=>by
   have z':Data.fields _=Data.cell v:=z
   cases z'⟩
 keep:=fun i h h' st k=>k it (by simp) _ st
 item:=by
  intro X hP hw hK hc i pins s σ H E I hf st hg
  subst hP hw hK
  obtain ⟨f0,f1,f2,f3,f4,f5⟩:=hf it (by simp)
  have W:=Walks.range (prog:=X.prog) (w:=X.w) (I.ok.hd hc) it lo 1 n
  refine W.item i s _ _ hg st fun v h' tk hv yv kk=>?_
  obtain ⟨t,rfl⟩:=hv
  have I1:Inv X pins σ H { s with heap:=h',toks:=tk }:=I.turned (fun b o hb e=>kk b o (by simpa using hb) e) f0 f1 f3 f4 f5
  refine ⟨_,rfl,yP (s:={ s with heap:=h',toks:=tk }) (n := "range_iterator") yv rfl rfl (by decide) ⟨.int (lo+i),H,I1,⟨t,?_⟩,⟨rfl,rfl⟩,yv,fun b hb=>(hf b hb).1⟩⟩
  rw [Int.mul_one]
 done:=by
  intro X hP hw hK hc i pins s σ H E I hf st hg
  subst hP hw hK
  obtain ⟨f0,f1,f2,f3,f4,f5⟩:=hf it (by simp)
  exact wpAny_pyNext_range_end (I.ok.hd hc) st (by have:n<=i:=hg;omega) fun h' eb=>⟨rfl,I.turned (t':=s.toks) (fun b o hb e=>eb b o hb e) f0 f1 f3 f4 f5⟩
 self:=fun _ _ _ _ _ st h=>wpAny_pyIter_rangeiter st h
section
variable {X:Cx}{tg:Expr}
def OV (K:PySem.W.Frag) (tl:TE):TI:=fun σ H R=>tl σ H fun x H1=>∃ a,x=.ref a/\(∃ xs,c9 K H1 a xs)/\R (Wl K a) H1
def W8 (K:PySem.W.Frag) (tl:TE):TI:=fun σ H R=>tl σ H fun x H1=>∃ a,x=.ref a/\(∃ xs,i9 K H1 a xs)/\R (W7 K a) H1
theorem CI {l:Expr}{tl:TE}(hl:PE X l tl):PI X tg l (OV X.K tl):=by
 intro pins s σ H R I h
 refine bY (hl pins s σ H _ I h) fun v s1 ⟨x,H1,I1,r1,q1⟩=>?_
 obtain ⟨a,e,⟨xs,hq⟩,q⟩:=q1
 subst e
 cases r1
 obtain ⟨its,rv,p,hz⟩:=I1.list hq
 refine wpAny_pyIter_list p.isList ?_
 refine ⟨s1.heap.objs.size,[s1.heap.objs.size],_,_,H1,rfl,I1.kept (t':=s1.toks) fun b o e=>Heap.get?_push_of_some _ e,v5 a _,⟨_,Heap.get?_push_size _ rfl,rfl,rfl⟩,fun b hb=>?_,q⟩
 have e:b=s1.heap.objs.size:=by simpa using hb
 subst e
 exact I1.qX (Nat.le_refl _) (I1.bU.fresh (Nat.le_refl _))
theorem Jj {l:Expr}{tl:TE}(hl:PE X l tl):PI X tg l (W8 X.K tl):=by
 intro pins s σ H R I h
 refine bY (hl pins s σ H _ I h) fun v s1 ⟨x,H1,I1,r1,q1⟩=>?_
 obtain ⟨a,e,⟨xs,hq⟩,q⟩:=q1
 subst e
 cases r1
 obtain ⟨its,rv,p,hz⟩:=I1.tuple hq
 refine wpAny_pyIter_tuple (show s1.heap.IsTuple a its.toArray from p) ?_
 refine ⟨s1.heap.objs.size,[s1.heap.objs.size],_,_,H1,rfl,I1.kept (t':=s1.toks) fun b o e=>Heap.get?_push_of_some _ e,qY a _,⟨_,Heap.get?_push_size _ rfl,rfl,rfl⟩,fun b hb=>?_,q⟩
 have e:b=s1.heap.objs.size:=by simpa using hb
 subst e
 exact I1.qX (Nat.le_refl _) (I1.bU.fresh (Nat.le_refl _))
theorem oh {pins:List (Addr × Obj)}{σ:St}{H:Hp}{s:Shared}{R:It->Hp->Prop}{E:Value->Shared->Prop}{lo hi:Int}{t u v:Tok}{tk:Nat}(I:Inv X pins σ H s) (h1:-(2 ^ 62)<=lo) (h2:lo<2 ^ 62) (h3:-(2 ^ 62)<=hi) (h4:hi<2 ^ 62)
  (q:R (OU lo (hi-lo).toNat) H):wpAny (model X.prog X.w) X.A (pyIter (.ref s.heap.objs.size)) (Z9 X pins σ tg R) E { s with heap:=s.heap.push { cls:=.type "range", data:=.fields #[.int lo t,.int hi u,.int 1 v] },toks:=tk }:=by
 refine wpAny_pyIter_range (IsRange.new ..) (small_one h1 h2 h3 h4) ?_
 have I1:Inv X pins σ H { s with heap:=s.heap.push { cls:=.type "range", data:=.fields #[.int lo t,.int hi u,.int 1 v] },toks:=tk }:=I.kept fun b o e=>Heap.get?_push_of_some _ e
 refine ⟨(s.heap.push { cls:=.type "range", data:=.fields #[.int lo t,.int hi u,.int 1 v] }).objs.size,[(s.heap.push { cls:=.type "range", data:=.fields #[.int lo t,.int hi u,.int 1 v] }).objs.size],_,_,H,rfl,
  I1.kept (t':=tk) fun b o e=>Heap.get?_push_of_some _ e,qZ _ lo (hi-lo).toNat,?_,fun b hb=>?_,q⟩
 ·have e1:lo+((0:Nat):Int)*1=lo:=by simp
  have e2:(((hi-lo).toNat:Nat):Int)-((0:Nat):Int)=Builtin.Range.rangeSize lo hi 1:=by rw [rangeSize_one];split<;>omega
  show IsRangeIter _ _ (lo+((0:Nat):Int)*1) ((((hi-lo).toNat:Nat):Int)-((0:Nat):Int)) 1
  rw [e1,e2]
  exact Heap.get?_push_size _ rfl
 ·have e:b=(s.heap.push { cls:=.type "range", data:=.fields #[.int lo t,.int hi u,.int 1 v] }).objs.size:=by simpa using hb
  subst e
  exact I1.qX (Nat.le_refl _) (I1.bU.fresh (Nat.le_refl _))
def OW (ta:TA):TI:=fun σ H R=>ta σ H fun vs H1=>∃ j:Int,vs=[.int j]/\-(2 ^ 62)<=j/\j<2 ^ 62/\R (OU 0 j.toNat) H1
def OX (ta:TA):TI:=fun σ H R=>ta σ H fun vs H1=>∃ i j:Int,vs=[.int i,.int j]/\(-(2 ^ 62)<=i/\i<2 ^ 62/\-(2 ^ 62)<=j/\j<2 ^ 62)/\R (OU i (j-i).toNat) H1
theorem v8 {a:Expr}{ta:TA}{p pos:Pos}(hg:Gl X "range") (hm:X.mg "range" = none) (ha:PA X [a] ta) (hs:starEach [a] X.env=[(false,eval a X.env)]:=by rfl):PI X tg (.Call (.Name "range" p) [a] [] pos) (OW ta):=by
 intro pins s σ H R I h
 refine Call_ (eY I hg hm boot_range (PyProof.Rows.callWith_type1 (bY (ha pos pins s σ H _ I h) fun us s1 ⟨vs,H1,I1,r1,q1⟩=>?_) hs rfl))
 obtain ⟨j,e,q1,q2,q⟩:=q1
 subst e
 cases r1 with
 | cons r rr=>
  cases rr
  obtain ⟨t,rfl⟩:=r
  exact call_range_1 (oh I1 (by omega) (by omega) q1 q2 (by simpa using q))
theorem v9 {a b:Expr}{ta:TA}{p pos:Pos}(hg:Gl X "range") (hm:X.mg "range" = none) (ha:PA X [a,b] ta) (hs:starEach [a,b] X.env=[(false,eval a X.env),(false,eval b X.env)]:=by rfl) (yw:starEach [b] X.env=[(false,eval b X.env)]:=by rfl) :
  PI X tg (.Call (.Name "range" p) [a,b] [] pos) (OX ta):=by
 intro pins s σ H R I h
 refine Call_ (eY I hg hm boot_range (PyProof.Rows.callWith_type1 (bY (ha pos pins s σ H _ I h) fun us s1 ⟨vs,H1,I1,r1,q1⟩=>?_) (by rw [hs,yw]) (by rw [yw];rfl)))
 obtain ⟨i,j,e,⟨q1,q2,q3,q4⟩,q⟩:=q1
 subst e
 cases r1 with
 | cons r rr=>
  cases rr with
  | cons r' rr=>
   cases rr
   obtain ⟨t,rfl⟩:=r
   obtain ⟨t',rfl⟩:=r'
   exact call_range_2 (oh I1 q1 q2 q3 q4 q)
def W9 (wi:TI) (g:TG) (tb:TS):TS:=fun D σ H=>wi σ H fun J H1=>∃ W:Nat->Nat->St->Hp->Prop,(∃ m,W 0 m σ H1)/\∀ i m σ H,W i m σ H ->
 (J.stop i H/\D.nx σ H)\/(J.go i H/\∃ N:St->Hp->Prop,(∀ σ' H',N σ' H'->∃ m',m'<m/\W (i+1) m' σ' H')/\∀ x H',J.yld i H x H'->g x σ H' fun σ2 H2=>tb { D with nx:=N,ct:=N,bk:=D.nx } σ2 H2)
def jE (fp:List Addr) (h:Heap):List (Addr × Obj):=fp.filterMap fun b=>(h.get? b).map fun o=>(b,o)
theorem eZ {fp:List Addr}{h:Heap}{b:Addr}{o:Obj}(hb:b∈fp) (e:h.get? b=some o):(b,o)∈jE fp h:=List.mem_filterMap.mpr ⟨b,hb,by rw [e];rfl⟩
theorem v_ {fp:List Addr}{h:Heap}{p:Addr × Obj}(hp:p∈jE fp h):p.1∈fp/\h.get? p.1=some p.2:=by
 obtain ⟨b,hb,e⟩:=List.mem_filterMap.mp hp
 cases q:h.get? b with
 | none=>rw [q] at e;cases e
 | some o=>
  rw [q] at e
  have e':(b,o)=p:=Option.some.inj e
  subst e'
  exact ⟨hb,q⟩
theorem Inv.pinned {pins:List (Addr × Obj)}{σ:St}{H:Hp}{s:Shared}{fp:List Addr}(I:Inv X pins σ H s) (hf:∀ b∈fp,jD X pins H b) (ho:∀ b∈fp,∃ o,s.heap.get? b=some o/\∀ v,o.data≠.cell v):Inv X (pins++jE fp s.heap) σ H s:=
 I.uz fun p hp=>(List.mem_append.mp hp).elim (fun z=>I.pin p (List.mem_append_right _ z)) fun z=>by
  obtain ⟨hb,e⟩:=v_ z
  obtain ⟨f0,f1,f2,_⟩:=hf p.1 hb
  obtain ⟨o,e',d⟩:=ho p.1 hb
  rw [e] at e';cases e'
  exact ⟨e,f0,f1,f2,d⟩
theorem Inv.gR {pins pl:List (Addr × Obj)}{σ:St}{H:Hp}{s:Shared}(I:Inv X (pins++pl) σ H s):Inv X pins σ H s:=I.uz fun p hp=>I.pin p (List.mem_append_right _ (List.mem_append_left _ hp))
theorem Jk {iter:Expr}{body:List Stmt}{wi:TI}{g:TG}{tb:TS}{pos:Pos}(hp:PassesOwn (model X.prog X.w) X.A X.env X.xe) (hc:X.calm=true) (hi:PI X tg iter wi) (hg:PG X tg g) (hb:gP X body tb)
  (hs:∀ x,foldedSetIterable iter X.env x=pure x:=by intro _;rfl):PS X (.For tg iter body [] pos) (W9 wi g tb):=by
 intro pins s σ H D I h
 refine wpAny_For (bY (hi pins s σ H _ I h) fun v s1 h1=>bY h1 fun W6 s2 h2=>?_) hs
 obtain ⟨it,fp,tn,J,H2,e,I2,T,OY,f2,W,⟨m0,w0⟩,turn⟩:=h2
 subst e
 have q_:∀ {H':Hp},(∀ b∈fp,H' b=none)->∀ b∈fp,jD X pins H' b:=fun hn b hb=>⟨hn b hb,(f2 b hb).2⟩
 refine codeAny_forLoop_any (fun n s'=>∃ i σ' H',Inv X pins σ' H' s'/\tn i s'.heap/\(∀ b∈fp,H' b=none)/\W i n σ' H') ?_ m0 ⟨0,σ,H2,I2,OY,fun b hb=>(f2 b hb).1,w0⟩
 rintro n s3 ⟨i,σ3,H3,I3,st3,fr3,w3⟩
 rcases turn i n σ3 H3 w3 with ⟨stop,qn⟩ | ⟨go,N,hN,step⟩
 ·refine wpAny_passesOwn hp (bY (T.done X rfl rfl rfl hc i pins s3 σ3 H3 X.xe I3 (q_ fr3) st3 stop) fun r s4 ⟨hr,I4⟩=>?_)
  subst hr
  exact wpAny_execs_nil ⟨σ3,H3,I4,qn⟩
 ·refine wpAny_passesOwn hp (bY (T.item X rfl rfl rfl hc i pins s3 σ3 H3 X.xe I3 (q_ fr3) st3 go) fun r s4 ⟨u,hr,h4⟩=>?_)
  subst hr
  refine wpAny_passesOwn hp (bY h4 fun _ s5 ⟨x,H5,I5,r5,y5,CJ,fr5⟩=>?_)
  have I5':=I5.pinned (q_ fr5) (T.obj _ _ CJ)
  refine wpAny_passesOwn hp (bY (hg _ s5 σ3 H5 x u _ I5' r5 (step x H5 y5)) fun _ s6 ⟨σ6,H6,I6,q6⟩=>?_)
  refine wpAny_passesOwn hp (bY (hb _ s6 σ6 H6 _ I6 q6) fun f s7 q7=>?_)
  have again:∀ {σ7:St} {H7:Hp},Inv X (pins++jE fp s5.heap) σ7 H7 s7->N σ7 H7->∃ m,m<n/\∃ i σ' H',Inv X pins σ' H' s7/\tn i s7.heap/\(∀ b∈fp,H' b=none)/\W i m σ' H':=fun {σ7 H7} I7 n7=>by
   obtain ⟨m',hm,w7⟩:=hN σ7 H7 n7
   refine ⟨m',hm,i+1,σ7,H7,I7.gR,T.keep _ _ _ CJ fun b hb o e=>(I7.pin (b,o) (List.mem_append_right _ (List.mem_append_right _ (eZ hb e)))).1,fun b hb=>?_,w7⟩
   obtain ⟨o,e,d⟩:=T.obj _ _ CJ b hb
   exact (I7.pin (b,o) (List.mem_append_right _ (List.mem_append_right _ (eZ hb e)))).2.1
  cases f with
  | next=>obtain ⟨σ7,H7,I7,n7⟩:=q7;exact again I7 n7
  | cont=>obtain ⟨σ7,H7,I7,n7⟩:=q7;exact again I7 n7
  | brk=>obtain ⟨σ7,H7,I7,q7⟩:=q7;exact ⟨σ7,H7,I7.gR,q7⟩
  | ret v=>obtain ⟨x7,σ7,H7,I7,r7,q7⟩:=q7;exact ⟨x7,σ7,H7,I7.gR,r7,q7⟩
end
abbrev R2:=V->V->Hp->VK->Prop
def eE (X:Cx) (f:Value->Value->Sem Value) (r:R2):Prop:=
 ∀ (pins:List (Addr × Obj)) (s:Shared) (σ:St) (H:Hp) (x y:V) (v u:Value) (Q:VK),Inv X pins σ H s->RelV x v->RelV y u->r x y H Q ->
  wpAny (model X.prog X.w) X.A (f v u) (EP X pins σ Q) X.xe s
def W_ (X:Cx) (f:Value->Sem Value) (r:V->Hp->VK->Prop):Prop:=
 ∀ (pins:List (Addr × Obj)) (s:Shared) (σ:St) (H:Hp) (x:V) (v:Value) (Q:VK),Inv X pins σ H s->RelV x v->r x H Q ->
  wpAny (model X.prog X.w) X.A (f v) (EP X pins σ Q) X.xe s
def eu (X:Cx) (f:Value) (r:List V->Hp->VK->Prop):Prop:=
 ∀ (pins:List (Addr × Obj)) (s:Shared) (σ:St) (H:Hp) (xs:List V) (us:List Value) (Q:VK),Inv X pins σ H s->Vals xs us->r xs H Q ->
  wpAny (model X.prog X.w) X.A (call f us) (EP X pins σ Q) X.xe s
def Xa (X:Cx) (r:V->Hp->(Bool->Hp->Prop)->Prop):Prop:=
 ∀ (pins:List (Addr × Obj)) (s:Shared) (σ:St) (H:Hp) (x:V) (v:Value) (Q:Bool->Hp->Prop),Inv X pins σ H s->RelV x v->r x H Q ->
  wpAny (model X.prog X.w) X.A (truthy v) (TP X pins σ Q) X.xe s
def G1 (r:R2) (ta tb:TE):TE:=fun σ H Q=>ta σ H fun x H1=>tb σ H1 fun y H2=>r x y H2 Q
def Z_ (r:V->Hp->VK->Prop) (ta:TE):TE:=fun σ H Q=>ta σ H fun x H1=>r x H1 Q
def rI (C:Int->Int->Prop) (g:Int->Int->V):R2:=fun x y H Q=>∃ i j,x=.int i/\y=.int j/\C i j/\Q (g i j) H
def yx (g:Int->Int->V):R2:=fun x y H Q=>∃ i j,x=.int i/\y=.int j/\Q (g i j) H
def rU (g:Int->V):V->Hp->VK->Prop:=fun x H Q=>∃ i,x=.int i/\Q (g i) H
section
variable {X:Cx}{a b c:Expr}{ta tb tc:TE}{pos:Pos}
theorem Jl (ha:PE X a ta) (hb:PE X b tb) {pins:List (Addr × Obj)}{s:Shared}{σ:St}{H:Hp}{R:V->V->Hp->Prop}(I:Inv X pins σ H s)
  (h:ta σ H fun x H1=>tb σ H1 fun y H2=>R x y H2) {Q:Value->Shared->Prop} {f:Value->Value->Sem Value}
  (hf:∀ v u s2 x y H2,Inv X pins σ H2 s2->RelV x v->RelV y u->R x y H2->wpAny (model X.prog X.w) X.A (f v u) Q X.xe s2) :
  wpAny (model X.prog X.w) X.A (eval a X.env) (fun v s₁=>wpAny (model X.prog X.w) X.A (eval b X.env) (fun u s₂=>wpAny (model X.prog X.w) X.A (f v u) Q X.xe s₂) X.xe s₁) X.xe s:=by
 refine bY (ha pins s σ H _ I h) fun v s1 ⟨x,H1,I1,r1,q1⟩=>?_
 refine bY (hb pins s1 σ H1 _ I1 q1) fun u s2 ⟨y,H2,I2,r2,q2⟩=>?_
 exact hf v u s2 x y H2 I2 r1 r2 q2
theorem lg {op:Operator}{r:R2}(ho:eE X (binaryOp op) r) (ha:PE X a ta) (hb:PE X b tb):PE X (.BinOp a op b pos) (G1 r ta tb):=by
 intro pins s σ H Q I h
 exact wpAny_BinOp (Jl ha hb I h fun v u s2 x y H2 I2 rx ry q=>ho pins s2 σ H2 x y v u Q I2 rx ry q)
theorem OZ {op:UnaryOp}{r:V->Hp->VK->Prop}(ho:W_ X (unaryOp op) r) (ha:PE X a ta):PE X (.UnaryOp op a pos) (Z_ r ta):=by
 intro pins s σ H Q I h
 exact UnaryOp_ (bY (ha pins s σ H _ I h) fun v s1 ⟨x,H1,I1,r1,q1⟩=>ho pins s1 σ H1 x v Q I1 r1 q1)
theorem Wm {f:Value->Value->Sem Value}{C:Int->Int->Prop}{g:Int->Int->Int}
  (rule:∀ (i j:Int) (t u:Tok) (s:Shared) (Q:Value->Shared->Prop) (E:Value->Shared->Prop),C i j->Q (.int (g i j) s.toks) { s with toks:=s.toks+1 }->wpAny (model X.prog X.w) X.A (f (.int i t) (.int j u)) Q E s) :
  eE X f (rI C fun i j=>.int (g i j)):=by
 intro pins s σ H x y v u Q I rx ry h
 obtain ⟨i,j,rfl,rfl,hc,q⟩:=h
 obtain ⟨t,rfl⟩:=rx
 obtain ⟨t',rfl⟩:=ry
 exact rule i j t t' s _ _ hc ⟨.int (g i j),H,I.tok _,⟨_,rfl⟩,q⟩
theorem O0 {f:Value->Value->Sem Value}{g:Int->Int->Int}
  (rule:∀ (i j:Int) (t u:Tok) (s:Shared) (Q:Value->Shared->Prop) (E:Value->Shared->Prop),Q (.int (g i j) s.toks) { s with toks:=s.toks+1 }->wpAny (model X.prog X.w) X.A (f (.int i t) (.int j u)) Q E s) :
  eE X f (yx fun i j=>.int (g i j)):=by
 intro pins s σ H x y v u Q I rx ry h
 obtain ⟨i,j,rfl,rfl,q⟩:=h
 obtain ⟨t,rfl⟩:=rx
 obtain ⟨t',rfl⟩:=ry
 exact rule i j t t' s _ _ ⟨.int (g i j),H,I.tok _,⟨_,rfl⟩,q⟩
theorem CK {f:Value->Value->Sem Value}{g:Int->Int->Bool}
  (rule:∀ (i j:Int) (t u:Tok) (s:Shared) (Q:Value->Shared->Prop) (E:Value->Shared->Prop),Q (.bool (g i j)) s->wpAny (model X.prog X.w) X.A (f (.int i t) (.int j u)) Q E s) :
  eE X f (yx fun i j=>.bl (g i j)):=by
 intro pins s σ H x y v u Q I rx ry h
 obtain ⟨i,j,rfl,rfl,q⟩:=h
 obtain ⟨t,rfl⟩:=rx
 obtain ⟨t',rfl⟩:=ry
 exact rule i j t t' s _ _ ⟨.bl (g i j),H,I,rfl,q⟩
def O1 (i j:Int):Prop:=0<j/\j<1073741824
def O2 (i j:Int):Prop:=0<=j/\j<=1000000/\i.natAbs<2 ^ 64
def CL (i j:Int):Prop:=(-(2 ^ 64)<i/\i<2 ^ 64)\/(-(2 ^ 64)<j/\j<2 ^ 64)
theorem CL.ok {i j:Int}(h:CL i j):IntMulOk i j:=by
 rcases h with ⟨h1,h2⟩ | ⟨h1,h2⟩
 ·exact .of_left (intBits_le_64 h1 h2)
 ·exact .of_right (intBits_le_64 h1 h2)
theorem Jm:eE X (binaryOp .Add) (yx fun i j=>.int (i+j)):=O0 fun _ _ _ _ _ _ _ q=>add_int q
theorem Jo:eE X (binaryOp .Sub) (yx fun i j=>.int (i-j)):=O0 fun _ _ _ _ _ _ _ q=>sub_int q
theorem Jp:eE X (binaryOp .Mult) (rI CL fun i j=>.int (i*j)):=Wm fun _ _ _ _ _ _ _ hc q=>mul_int q hc.ok
theorem CM:eE X (binaryOp .FloorDiv) (rI O1 fun i j=>.int (i/j)):=Wm fun i j _ _ _ _ _ hc q=>by
 have h1:(0:Int)<j:=hc.1
 have h2:j<1073741824:=hc.2
 exact floordiv_int (by omega) (by rw [Int.fdiv_eq_ediv_of_nonneg i (by omega)];exact q) (.inl (PyProof.noPylong_small (by omega)))
theorem Jq:eE X (binaryOp .Mod) (rI (fun _ j=>0<j) fun i j=>.int (i % j)):=Wm fun i j _ _ _ _ _ hc q=>by
 have h1:(0:Int)<j:=hc
 exact mod_int' (by omega) (by rw [Int.fmod_eq_emod_of_nonneg i (by omega)];exact q)
theorem Jr:eE X (binaryOp .Pow) (rI O2 fun i j=>.int (i ^ j.toNat)):=Wm fun _ _ _ _ _ _ _ hc q=>pow_int_small hc.1 hc.2.1 hc.2.2 q
theorem unI {f:Value->Sem Value}{g:Int->Int}
  (rule:∀ (i:Int) (t:Tok) (s:Shared) (Q:Value->Shared->Prop) (E:Value->Shared->Prop),Q (.int (g i) s.toks) { s with toks:=s.toks+1 }->wpAny (model X.prog X.w) X.A (f (.int i t)) Q E s) :
  W_ X f (rU fun i=>.int (g i)):=by
 intro pins s σ H x v Q I rx h
 obtain ⟨i,rfl,q⟩:=h
 obtain ⟨t,rfl⟩:=rx
 exact rule i t s _ _ ⟨.int (g i),H,I.tok _,⟨_,rfl⟩,q⟩
theorem Js:W_ X (unaryOp .USub) (rU fun i=>.int (-i)):=unI fun _ _ _ _ _ q=>neg_int q
end
section
variable {X:Cx}{a b c:Expr}{ta tb tc:TE}{pos:Pos}
theorem fR {pins:List (Addr × Obj)}{σ:St}{H:Hp}{s:Shared}{Q:VK}{k k':Bool}(I:Inv X pins σ H s) (q:Q (.bl k) H) (e:k=k'):EP X pins σ Q (.bool k') s:=by
 subst e
 exact ⟨.bl k,H,I,rfl,q⟩
theorem O3:eE X (compareOp .Lt) (yx fun i j=>.bl (decide (i<j))):=CK fun _ _ _ _ _ _ _ q=>lt_int q
theorem O4:eE X (compareOp .LtE) (yx fun i j=>.bl (decide (i<=j))):=CK fun _ _ _ _ _ _ _ q=>le_int q
theorem O5:eE X (compareOp .Gt) (yx fun i j=>.bl (decide (j<i))):=CK fun _ _ _ _ _ _ _ q=>gt_int q
theorem O6:eE X (compareOp .GtE) (yx fun i j=>.bl (decide (j<=i))):=CK fun _ _ _ _ _ _ _ q=>ge_int q
theorem wa:eE X (compareOp .In) (fun x y H Q=>∃ i j,x=.str i/\y=.str j/\Q (.bl (!(Builtin.Str.occurrences j i 0 j.length 1).isEmpty)) H):=by
 intro pins s σ H x y v u Q I rx ry h
 obtain ⟨i,j,rfl,rfl,q⟩:=h
 obtain ⟨t,rfl⟩:=rx
 obtain ⟨t',rfl⟩:=ry
 exact in_str (fR I q rfl)
theorem Jt:eE X (compareOp .Is) (fun x y H Q=>y=.non/\Q (.bl (decide (x=.non))) H):=by
 intro pins s σ H x y v u Q I rx ry h
 obtain ⟨rfl,q⟩:=h
 cases ry
 refine is_none_gen (fR I q ?_)
 cases x<;>first
  | (cases rx;rfl)
  | (obtain ⟨t,rfl⟩:=rx;rfl)
theorem CN:eE X (compareOp .IsNot) (fun x y H Q=>y=.non/\Q (.bl (!decide (x=.non))) H):=by
 intro pins s σ H x y v u Q I rx ry h
 obtain ⟨rfl,q⟩:=h
 cases ry
 refine isnot_none_gen (fR I q ?_)
 cases x<;>first
  | (cases rx;rfl)
  | (obtain ⟨t,rfl⟩:=rx;rfl)
theorem l_:eE X (compareOp .NotIn) (fun x y H Q=>∃ i j,x=.str i/\y=.str j/\Q (.bl (!(!(Builtin.Str.occurrences j i 0 j.length 1).isEmpty))) H):=by
 intro pins s σ H x y v u Q I rx ry h
 obtain ⟨i,j,rfl,rfl,q⟩:=h
 obtain ⟨t,rfl⟩:=rx
 obtain ⟨t',rfl⟩:=ry
 exact notIn_str (fR I q rfl)
theorem eE.or {f:Value->Value->Sem Value}{r r':R2}(h:eE X f r) (h':eE X f r'):eE X f (fun x y H Q=>r x y H Q\/r' x y H Q):=by
 intro pins s σ H x y v u Q I rx ry q
 rcases q with q | q
 ·exact h pins s σ H x y v u Q I rx ry q
 ·exact h' pins s σ H x y v u Q I rx ry q
theorem mf {op:CmpOp}{r:R2}(ho:eE X (compareOp op) r) (ha:PE X a ta) (hb:PE X b tb) (hm:behindInMarks op b=false):PE X (.Compare a [op] [b] pos) (G1 r ta tb):=by
 intro pins s σ H Q I h
 exact wpAny_Compare1 (Jl ha hb I h fun v u s2 x y H2 I2 rx ry q=>ho pins s2 σ H2 x y v u Q I2 rx ry q) hm
def O7 (t:TE):TT:=fun σ H Q=>t σ H fun x H'=>∃ k,x=.bl k/\Q k H'
theorem mh {op:CmpOp}{r:R2}(ho:eE X (compareOp op) r) (ha:PE X a ta) (hb:PE X b tb) (hm:behindInMarks op b=false):PT X (.Compare a [op] [b] pos) (O7 (G1 r ta tb)):=by
 intro pins s σ H Q I h
 refine wpAny_isTrue_Compare1 (bY (ha pins s σ H _ I h) fun v s1 ⟨x,H1,I1,r1,q1⟩=>bY (hb pins s1 σ H1 _ I1 q1) fun u s2 ⟨y,H2,I2,r2,q2⟩=>
  bY (ho pins s2 σ H2 x y v u _ I2 r1 r2 q2) fun c s3 ⟨z,H3,I3,r3,k,e,q3⟩=>?_) hm
 subst e
 cases r3
 exact wpAny_truthy_bool ⟨H3,I3,q3⟩
def Ju (K:PySem.W.Frag) (x:V) (H:Hp) (k:Bool):Prop:=
 match x with
 | .non=>k=false
 | .bl b=>k=b
 | .int i=>k=(i != 0)
 | .str y=>y.length<=sizeLine/\k=((y.length:Int) != 0)
 | .byt y=>y.size<=sizeLine/\k=((y.size:Int) != 0)
 | .ref p=>(∃ xs,c9 K H p xs/\k=!xs.isEmpty)\/(∃ xs,i9 K H p xs/\k=!xs.isEmpty)\/∃ ba,H p=some (.dK ba)/\k=!ba.isEmpty
 | _=>False
theorem rf {κ:Type}{ba:List (κ × V)}{vs:List (κ × Value)}(r:KV ba vs):(!vs.isEmpty)=!ba.isEmpty:=by
 cases r<;>rfl
theorem jF {xs:List V}{its:List Value}(r:Vals xs its):(!its.toArray.isEmpty)=!xs.isEmpty:=by
 cases r<;>simp
theorem jG:(sizeLine:Nat)<2 ^ 63:=by rw [sizeLine_eq];decide
theorem Jv:Xa X (fun x H Q=>∃ k,Ju X.K x H k/\Q k H):=by
 intro pins s σ H x v Q I rx h
 obtain ⟨k,e,q⟩:=h
 have hl:=jG
 have hs:sizeLine=16777216:=sizeLine_eq
 cases x with
 | non=>
  cases rx
  have e':k=false:=e
  subst e'
  exact truthy_none ⟨H,I,q⟩
 | bl b=>
  cases rx
  have e':k=b:=e
  subst e'
  exact wpAny_truthy_bool ⟨H,I,q⟩
 | int i=>
  obtain ⟨t,rfl⟩:=rx
  have e':k=(i != 0):=e
  subst e'
  exact PySem.P.truthy_int ⟨H,I,q⟩
 | str y=>
  obtain ⟨t,rfl⟩:=rx
  obtain ⟨hy,e'⟩:y.length<=sizeLine/\k=((y.length:Int) != 0):=e
  subst e'
  exact PySem.P.truthy_str (by omega) ⟨H,I.tok _,q⟩
 | byt y=>
  obtain ⟨t,rfl⟩:=rx
  obtain ⟨hy,e'⟩:y.size<=sizeLine/\k=((y.size:Int) != 0):=e
  subst e'
  exact PySem.W.truthy_bytes (by omega) ⟨H,I.tok _,q⟩
 | ref p=>
  cases rx
  have e':(∃ xs,c9 X.K H p xs/\k=!xs.isEmpty)\/(∃ xs,i9 X.K H p xs/\k=!xs.isEmpty)\/∃ ba,H p=some (.dK ba)/\k=!ba.isEmpty:=e
  rcases e' with ⟨xs,hx,e'⟩ | ⟨xs,hx,e'⟩ | ⟨ba,hx,e'⟩
  ·subst e'
   obtain ⟨its,r,pl,hz⟩:=I.list hx
   have hlen:=r.length
   exact wpAny_truthy_list pl.isList (by simp only [List.size_toArray];omega) ⟨H,I.tok _,by rw [jF r];exact q⟩
  ·subst e'
   obtain ⟨its,r,pl,hz⟩:=I.tuple hx
   have hlen:=r.length
   exact truthy_tuple pl (by simp only [List.size_toArray];omega) ⟨H,I.tok _,by rw [jF r];exact q⟩
  ·subst e'
   obtain ⟨hz,hS,vs,r,m⟩:ba.length<=sizeLine/\(p == sysModules)=false/\∃ vs,KV ba vs/\s.heap.DictOf (b9 X.prog X.w) p vs:=I.bU p _ hx
   have hlen:ba.length=vs.length:=Paired.length r
   exact wpAny_truthy_dict hS m (by omega) ⟨H,I.tok _,by rw [rf r];exact q⟩
 | _=>exact (show False from e).elim
theorem yQ (ha:PE X a ta) (he:∀ whole,isTrue a X.env whole=(do let v <- whole;standAt a.pos;holding [v] (truthy v))) :
  PT X a (fun σ H Q=>ta σ H fun x H'=>∃ k,Ju X.K x H' k/\Q k H'):=by
 intro pins s σ H Q I h
 exact isTrue_plain (bY (ha pins s σ H _ I h) fun v s1 ⟨x,H1,I1,r1,q1⟩=>Jv pins s1 σ H1 x v Q I1 r1 q1) (he _)
theorem rh:eE X (binaryOp .Add) (fun x y H Q=>∃ i j,x=.str i/\y=.str j/\i.length+j.length<=sizeLine/\Q (.str (i++j)) H):=by
 intro pins s σ H x y v u Q I rx ry h
 obtain ⟨i,j,rfl,rfl,hz,q⟩:=h
 obtain ⟨t,rfl⟩:=rx
 obtain ⟨t',rfl⟩:=ry
 exact add_str (fun t' tk=>⟨.str (i++j),H,I.tok _,⟨_,rfl⟩,q⟩) hz
theorem vals1 {x:V}{us:List Value}(r:Vals [x] us):∃ u,us=[u]/\RelV x u:=by
 cases r with
 | cons r1 r2=>cases r2;exact ⟨_,rfl,r1⟩
theorem vals2 {x y:V}{us:List Value}(r:Vals [x,y] us):∃ u w',us=[u,w']/\RelV x u/\RelV y w':=by
 cases r with
 | cons r1 r2=>
  cases r2 with
  | cons r3 r4=>cases r4;exact ⟨_,_,rfl,r1,r3⟩
theorem yR:eu X (.builtin "abs") (fun xs H Q=>∃ i,xs=[.int i]/\Q (.int (if i<0 then -i else i)) H):=by
 intro pins s σ H xs us Q I r h
 obtain ⟨i,rfl,q⟩:=h
 obtain ⟨u,rfl,t,rfl⟩:=vals1 r
 exact call_abs_int fun u tk=>⟨.int (if i<0 then -i else i),H,I.tok _,⟨_,rfl⟩,q⟩
theorem mi:eu X (.type "str") (fun xs H Q=>∃ i,xs=[.int i]/\i.natAbs.log2<1920/\Q (.str (toString i)) H):=by
 intro pins s σ H xs us Q I r h
 obtain ⟨i,rfl,hz,q⟩:=h
 obtain ⟨u,rfl,t,rfl⟩:=vals1 r
 exact PySem.P.str_of_int hz ⟨.str _,H,I.tok _,⟨_,rfl⟩,q⟩
def O8 (K:PySem.W.Frag) (x:V) (H:Hp) (n:Nat):Prop:=
 match x with
 | .str y=>y.length<=sizeLine/\n=y.length
 | .byt y=>y.size<=sizeLine/\n=y.size
 | .ref p=>(∃ xs,c9 K H p xs/\n=xs.length)\/∃ xs,i9 K H p xs/\n=xs.length
 | _=>False
theorem oi:eu X (.builtin "len") (fun xs H Q=>∃ x n,xs=[x]/\O8 X.K x H n/\Q (.int n) H):=by
 intro pins s σ H xs us Q I r h
 obtain ⟨x,n,rfl,e,q⟩:=h
 obtain ⟨u,rfl,rx⟩:=vals1 r
 have hl:=jG
 have hs:sizeLine=16777216:=sizeLine_eq
 cases x with
 | str y=>
  obtain ⟨t,rfl⟩:=rx
  obtain ⟨hy,e'⟩:y.length<=sizeLine/\n=y.length:=e
  subst e'
  exact len_str (by omega) ⟨.int _,H,I.tok _,⟨_,rfl⟩,q⟩
 | byt y=>
  obtain ⟨t,rfl⟩:=rx
  obtain ⟨hy,e'⟩:y.size<=sizeLine/\n=y.size:=e
  subst e'
  exact PySem.W.len_bytes (by omega) ⟨.int _,H,I.tok _,⟨_,rfl⟩,q⟩
 | ref p=>
  cases rx
  have e':(∃ xs,c9 X.K H p xs/\n=xs.length)\/∃ xs,i9 X.K H p xs/\n=xs.length:=e
  rcases e' with ⟨xs,hx,e'⟩ | ⟨xs,hx,e'⟩
  ·subst e'
   obtain ⟨its,r',pl,hz⟩:=I.list hx
   have hlen:=r'.length
   exact Calls.call_len_list pl.isList (by simp only [List.size_toArray];omega) ⟨.int xs.length,H,I.tok _,⟨_,by simp only [List.size_toArray];rw [hlen]⟩,q⟩
  ·subst e'
   obtain ⟨its,r',pl,hz⟩:=I.tuple hx
   have hlen:=r'.length
   exact len_tuple pl (by simp only [List.size_toArray];omega) ⟨.int xs.length,H,I.tok _,⟨_,by simp only [List.size_toArray];rw [hlen]⟩,q⟩
 | _=>exact (show False from e).elim
end
structure ri (h:Heap) (x dx C:Addr) (mA:Str->Option Value):Prop where
 obj:h.get? x=some (PySem.W.instObj C dx)
 ns:h.Ns1 dx mA
 ne:dx≠x
theorem wb {h:Heap}{dx:Addr}{mA:Str->Option Value}(n:h.Ns1 dx mA):∃ od,h.get? dx=some od/\∀ name,PySem.W.lookIn name od=some (mA name):=by
 obtain ⟨o,es,ep,ho,hd,hk,_,hm⟩:=n
 refine ⟨o,ho,fun name=>?_⟩
 have e:=hm name
 unfold nsFind findBy at e
 rw [<- Array.find?_toList] at e
 unfold PySem.W.lookIn
 rw [hd]
 dsimp only
 split
 ·rename_i y q
  rw [q] at e
  exact congrArg some e
 ·rename_i q
  rw [q] at e
  have a:es.toList.any (·.refKey)=false:=by
   rw [List.any_eq_false]
   intro y hy
   obtain ⟨z,t,Xb⟩:=hk y (Array.mem_toList_iff.mp hy)
   simp [DictEntry.refKey,Xb]
  have a':¬ es.toList.any (·.refKey)=true:=by rw [a];exact Bool.false_ne_true
  rw [if_neg a']
  exact congrArg some e
theorem ri.look {h:Heap}{x dx C:Addr}{mA:Str->Option Value}(I:ri h x dx C mA):∃ od,PySem.W.InstAt h x (PySem.W.instObj C dx) C (some od)/\∀ name,PySem.W.lookIn name od=some (mA name):=
 let ⟨od,ho,hl⟩:=wb I.ns
 ⟨od,⟨I.obj,rfl,rfl,ho⟩,hl⟩
section
variable {prog:Program}{w:World}{A:Around}{E:Value->Shared->Prop}{s:Shared}{K:PySem.W.Frag}{x dx C f:Addr}{mA:Str->Option Value}{name:Str}{v:Value}
theorem get_map {expr:Bool}{Q:Value->Shared->Prop}(X:K.In s.heap) (I:ri s.heap x dx C mA) (hg:PySem.W.plainGet K C name=true) (hh:PySem.W.hasDictIn K C=true)
  (ha:PySem.W.findIn K (.ref C) name=some none) (hv:mA name=some v) (hv':PySem.W.handedIn v=true) (h:Q v { s with toks:=s.toks+1 }) :
  wpAny (model prog w) A (getAttr (.ref x) name expr) Q E s:=by
 obtain ⟨od,J,hl⟩:=I.look
 exact PySem.W.get_value X J (PySem.W.plainGet_of hg).1 (PySem.W.findObj_own hh ha rfl (by rw [hl,hv])) hv' h
theorem yS {pl:Sem Bool}{Q:Value × List Value->Shared->Prop}(X:K.In s.heap) (I:ri s.heap x dx C mA) (hg:PySem.W.plainGet K C name=true)
  (hf:PySem.W.findIn K (.ref C) name=some (some (.ref f))) (ht:PySem.W.isFn K (.ref f)=true) (hv:mA name=none) (h:Q (.ref f,[.ref x]) s) :
  wpAny (model prog w) A (getMethod (.ref x) name pl) Q E s:=by
 obtain ⟨od,J,hl⟩:=I.look
 exact PySem.W.method_fn X J (PySem.W.plainGet_of hg).1 (PySem.W.plainGet_of hg).2 hf (beq_iff_eq.mp ht) (by show (PySem.W.lookIn name od).map (·.isSome)=some false;rw [hl,hv];rfl) h
theorem CO {ns:List Str}{Q:Unit->Shared->Prop}(X:K.In s.heap) (I:ri s.heap x dx C mA)
  (hs:PySem.W.findIn K (.ref C) "__setattr__" = some (some (.builtin "object.__setattr__"))) (hp:PySem.W.plainOver K C=true) (ht:PySem.W.takerIn K C name=some none) (hh:PySem.W.hasDictIn K C=true)
  (hw:PySem.Within mA ns) (hsz:ns.length<=sizeLine)
  (h:∀ h',ri h' x dx C (fun y=>if y=name then some v else mA y)->Heap.SameBut dx s.heap h'->Q () { s with heap:=h',toks:=s.toks+2 }) :
  wpAny (model prog w) A (setAttr (.ref x) name v) Q E s:=by
 obtain ⟨od,J,hl⟩:=I.look
 refine PySem.W.set_plain X J hs (PySem.W.osa_open (s:={ s with toks:=s.toks+1 }) (r:=none) X J hp ht fun b=>?_)
 obtain ⟨cd,hc,WS⟩:=PySem.W.any_some hh
 have hx:s.heap.get? x=some ⟨.ref C,some dx,.plain,#[]⟩:=I.obj
 refine wpAny_bind (wpAny_pure (wpAny_bind (wpAny_bind (wpAny_loadPart hx (wpAny_bind (PySem.W.Looks.here (s:={ s with toks:=s.toks+1 }) (PySem.W.looks_clsIn X hc) ?_))))))
 rw [WS]
 refine wpAny_pure (a:=some dx) (wpAny_bind (wpAny_pure (wpAny_bind ?_)))
 refine wpAny_nsSet1 (s:={ s with toks:=s.toks+1 }) I.ns fun h' Of yw=>?_
 obtain ⟨oD,esD,epD,hoD,hdD,hcD⟩:=Of.count (PySem.Within.cons name v hw)
 refine wpAny_bind (wpAny_lookBehind hoD (by rw [hdD];exact pastItsLine_dict (Nat.le_trans hcD (by rw [List.length_cons];omega))) ?_)
 exact wpAny_pure (h _ ⟨(yw.2 _ (Ne.symm I.ne)).trans I.obj,Of,I.ne⟩ yw)
theorem yT {R:Result->Shared->Prop}{vs:List Value}{kw:List (Str × Value)}(X:K.In s.heap) (hm:PySem.W.makesIn K C=true)
  (hi:PySem.W.findIn K (.ref C) "__init__" = some (some (.ref f))) (hf:PySem.W.typeIn K (.ref f)=some (.type "function"))
  (h:codeAny (model prog w) (A.under (.builtin "type.__call__" ⟨.ref C::vs,kw⟩)) (.call (.ref f) ⟨.ref (s.heap.objs.size+1)::vs,kw⟩) (PySem.W.InitBack (s.heap.objs.size+1) R)
   { s with heap:=(s.heap.push PySem.W.emptyDict).push (PySem.W.instObj C s.heap.objs.size) }) :
  codeAny (model prog w) A (.call (.ref C) ⟨vs,kw⟩) R s:=by
 obtain ⟨hh,g,d,t,os⟩:=s
 exact PySem.W.make_core (PySem.W.makes_of X hm) (PySem.W.looks_findIn X hi) (fun self=>PySem.W.bind_fn X self hf) (.inl rfl) h
end
def dw (f:Str) (v:V):List (Str × V)->List (Str × V)
 | []=>[(f,v)]
 | (g,x)::r=>if g=f then (g,v)::r else (g,x)::dw f v r
theorem i_ (f g:Str) (v:V):∀ fs:List (Str × V),(dw f v fs).lookup g=if g=f then some v else fs.lookup g
 | []=>by
  show List.lookup g [(f,v)]=_
  by_cases h:g=f
  ·have hb:(g == f)=true:=beq_iff_eq.mpr h
   simp only [List.lookup,hb,if_pos h]
  ·have hb:(g == f)=false:=beq_eq_false_iff_ne.mpr h
   simp only [List.lookup,hb,if_neg h]
 | (k,x)::r=>by
  have ih:=i_ f g v r
  rw [show dw f v ((k,x)::r)=(if k=f then (k,v)::r else (k,x)::dw f v r) from rfl]
  by_cases hk:k=f
  ·rw [if_pos hk]
   by_cases h:g=k
   ·have hb:(g == k)=true:=beq_iff_eq.mpr h
    simp only [List.lookup,hb,if_pos (h.trans hk)]
   ·have hb:(g == k)=false:=beq_eq_false_iff_ne.mpr h
    simp only [List.lookup,hb,if_neg (fun e:g=f=>h (e.trans hk.symm))]
  ·rw [if_neg hk]
   by_cases h:g=k
   ·have hb:(g == k)=true:=beq_iff_eq.mpr h
    simp only [List.lookup,hb,if_neg (fun e:g=f=>hk (h.symm.trans e))]
   ·have hb:(g == k)=false:=beq_eq_false_iff_ne.mpr h
    simp only [List.lookup,hb]
    exact ih
theorem iH (f:Str) (v:V):∀ fs:List (Str × V),f∈(dw f v fs).map (·.1)/\∀ g,g∈fs.map (·.1)->g∈(dw f v fs).map (·.1)
 | []=>⟨by simp [dw],fun g h=>by simp at h⟩
 | (k,x)::r=>by
  obtain ⟨i1,i2⟩:=iH f v r
  rw [show dw f v ((k,x)::r)=(if k=f then (k,v)::r else (k,x)::dw f v r) from rfl]
  by_cases hk:k=f
  ·rw [if_pos hk]
   subst hk
   exact ⟨by simp,fun g h=>by simpa using h⟩
  ·rw [if_neg hk]
   refine ⟨?_,fun g h=>?_⟩
   ·rw [List.map_cons]
    exact List.mem_cons_of_mem _ i1
   ·rw [List.map_cons] at h ⊢
    rcases List.mem_cons.mp h with e | e
    ·exact List.mem_cons.mpr (.inl e)
    ·exact List.mem_cons_of_mem _ (i2 g e)
theorem ja (f:Str) (v:V):∀ fs:List (Str × V),(dw f v fs).length<=fs.length+1
 | []=>by simp [dw]
 | (k,x)::r=>by
  have ih:=ja f v r
  rw [show dw f v ((k,x)::r)=(if k=f then (k,v)::r else (k,x)::dw f v r) from rfl]
  by_cases hk:k=f
  ·rw [if_pos hk,List.length_cons,List.length_cons];omega
  ·rw [if_neg hk,List.length_cons,List.length_cons];omega
theorem gM.some_of {v:V}{o:Option Value}(r:gM (some v) o):∃ u,o=some u/\RelV v u:=by
 cases o with
 | none=>exact (show False from r).elim
 | some u=>exact ⟨u,rfl,r⟩
theorem gM.none_of {o:Option Value}(r:gM none o):o=none:=by
 cases o with
 | none=>rfl
 | some u=>exact (show False from r).elim
theorem wc {v:V}{u:Value}(r:RelV v u):PySem.W.handedIn u=true:=by
 cases v with
 | non=>cases (show u=Value.none from r);rfl
 | bl b=>cases (show u=Value.bool b from r);rfl
 | int i=>obtain ⟨t,e⟩:=(show ∃ t,u=Value.int i t from r);cases e;rfl
 | str x=>obtain ⟨t,e⟩:=(show ∃ t,u=Value.str x t from r);cases e;rfl
 | byt b=>obtain ⟨t,e⟩:=(show ∃ t,u=Value.bytes b t from r);cases e;rfl
 | flt b=>obtain ⟨t,e⟩:=(show ∃ t,u=Value.float b t from r);cases e;rfl
 | ref a=>cases (show u=Value.ref a from r);rfl
 | ty n=>cases (show u=Value.type n from r);rfl
section
variable {P:Program}{w:World}{H H':Hp}{h h':Heap}{a C dx:Addr}{fs qV:List (Str × V)}
theorem gS (bU:gJ P w H h) (e:H a=some (.ins C dx fs)):∃ mA,ri h a dx C mA/\(∀ f,gM (fs.lookup f) (mA f))/\PySem.Within mA (fs.map (·.1))/\fs.length<=1000/\H dx=some (.own a):=by
 obtain ⟨d,z,ne,ob,mA,n,r,q⟩:=(show bV P w H h a (.ins C dx fs) from bU a _ e)
 exact ⟨mA,⟨ob,n,ne⟩,r,q,z,d⟩
end
structure mj (K:PySem.W.Frag) (C:Addr):Prop where
 pg:PySem.W.plainGet K C Str.empty=true
 hd:PySem.W.hasDictIn K C=true
 po:PySem.W.plainOver K C=true
 sa:PySem.W.findIn K (.ref C) "__setattr__" = some (some (.builtin "object.__setattr__"))
theorem mj.get {K:PySem.W.Frag}{C:Addr}(c:mj K C) (f:Str):PySem.W.plainGet K C f=true:=c.pg
def dQ (K:PySem.W.Frag) (C:Addr) (f:Str):Prop:=PySem.W.findIn K (.ref C) f=some none
theorem dQ.O9 {K:PySem.W.Frag}{C:Addr}{f:Str}(n:dQ K C f):PySem.W.takerIn K C f=some none:=by
 unfold PySem.W.takerIn
 rw [show PySem.W.findIn K (.ref C) f=some none from n]
 rfl
structure Meth (K:PySem.W.Frag) (C:Addr) (m:Str) (f:Addr):Prop where
 at_:PySem.W.findIn K (.ref C) m=some (some (.ref f))
 fn:PySem.W.isFn K (.ref f)=true
 kp:PySem.W.keepIn K (.ref f)=true
section
variable {X:Cx}{pins:List (Addr × Obj)}{σ:St}{H:Hp}{s:Shared}{a C dx:Addr}{fs:List (Str × V)}{f:Str}{v:V}{A:Around}{E:Value->Shared->Prop}
theorem rj {b:Bool}{Q:Value->Shared->Prop}(I:Inv X pins σ H s) (e:H a=some (.ins C dx fs)) (c:mj X.K C) (n:dQ X.K C f) (l:fs.lookup f=some v)
  (h:∀ u s',Inv X pins σ H s'->RelV v u->Q u s'):wpAny (model X.prog X.w) A (getAttr (.ref a) f b) Q E s:=by
 obtain ⟨mA,O,r,_,_,_⟩:=gS I.bU e
 obtain ⟨u,hu,ru⟩:=gM.some_of (v:=v) (o:=mA f) (by rw [<- l];exact r f)
 exact get_map I.gO O (c.get f) c.hd n hu (wc ru) (h u _ (I.tok _) ru)
theorem jH {m:Str}{g:Addr}{pl:Sem Bool}{Q:Value × List Value->Shared->Prop}(I:Inv X pins σ H s) (e:H a=some (.ins C dx fs)) (c:mj X.K C) (k:Meth X.K C m g) (l:fs.lookup m=none)
  (h:Q (.ref g,[.ref a]) s):wpAny (model X.prog X.w) A (getMethod (.ref a) m pl) Q E s:=by
 obtain ⟨mA,O,r,_,_,_⟩:=gS I.bU e
 have hn:mA m=none:=gM.none_of (by rw [<- l];exact r m)
 exact yS I.gO O (c.get m) k.at_ k.fn hn h
theorem rk {y:V}{u:Value}{Q:Unit->Shared->Prop}(I:Inv X pins σ H s) (e:H a=some (.ins C dx fs)) (c:mj X.K C) (n:dQ X.K C f) (hl:fs.length<1000) (ry:RelV y u)
  (h:∀ s',Inv X pins σ (upd H a (.ins C dx (dw f y fs))) s'->Q () s'):wpAny (model X.prog X.w) A (setAttr (.ref a) f u) Q E s:=by
 obtain ⟨mA,O,r,wi,_,ho⟩:=gS I.bU e
 have hz:(fs.map (·.1)).length<=sizeLine:=by rw [List.length_map,sizeLine_eq];omega
 refine CO I.gO O c.sa c.po n.O9 c.hd wi hz fun h' O' sb=>h _ ?_
 have hd:∃ o,h'.get? dx=some o:=let ⟨o,_,_,e',_⟩:=O'.ns;⟨o,e'⟩
 refine I.write (x:=a) (e:=dx) (by rw [e];exact True.intro) (.inr ho) (fun b q hb z=>(sb.2 b hb).trans z) hd ?_
 refine ⟨by rw [ay O.ne];exact ho,?_,O.ne,O'.obj,_,O'.ns,fun g=>?_,fun g hg=>?_⟩
 ·have:=ja f y fs;omega
 ·show gM ((dw f y fs).lookup g) (if g=f then some u else mA g)
  rw [i_]
  by_cases q:g=f
  ·rw [if_pos q,if_pos q];exact ry
  ·rw [if_neg q,if_neg q];exact r g
 ·by_cases q:g=f
  ·rw [q];exact (iH f y fs).1
  ·refine (iH f y fs).2 g (wi g fun z=>hg ?_)
   show (if g=f then some u else mA g)=none
   rw [if_neg q];exact z
theorem Inv.made (I:Inv X pins σ H s):Inv X pins σ (upd (upd H s.heap.objs.size (.own (s.heap.objs.size+1))) (s.heap.objs.size+1) (.ins C s.heap.objs.size []))
  { s with heap:=(s.heap.push PySem.W.emptyDict).push (PySem.W.instObj C s.heap.objs.size) }:=by
 have e1:(s.heap.push PySem.W.emptyDict).get? s.heap.objs.size=some PySem.W.emptyDict:=Heap.get?_push_size s.heap rfl
 have e2:((s.heap.push PySem.W.emptyDict).push (PySem.W.instObj C s.heap.objs.size)).get? (s.heap.objs.size+1)=some (PySem.W.instObj C s.heap.objs.size):=by
  have:=Heap.get?_push_size (s.heap.push PySem.W.emptyDict) (o:=PySem.W.instObj C s.heap.objs.size) rfl
  rwa [Heap.size_push] at this
 have e3:(s.heap.push PySem.W.emptyDict).Ns s.heap.objs.size (fun _=>none):=⟨PySem.W.emptyDict,#[],_,e1,rfl,(fun e he=>absurd he (by simp)),fun _=>rfl⟩
 have I1:=I.laid (a:=s.heap.objs.size) (o:=.own (s.heap.objs.size+1)) (h':=s.heap.push PySem.W.emptyDict) (t':=s.toks) (fun b u q=>Heap.get?_push_of_some _ q) (Nat.le_refl _) ⟨_,e1⟩
 refine I1.laid (a:=s.heap.objs.size+1) (o:=.ins C s.heap.objs.size []) (t':=s.toks) (fun b u q=>Heap.get?_push_of_some _ q) (Nat.le_of_eq (Heap.size_push _ _)) ?_
 have ne:s.heap.objs.size≠s.heap.objs.size+1:=Nat.ne_of_lt (Nat.lt_succ_self _)
 refine ⟨by rw [ay ne,aw],Nat.zero_le _,ne,e2,fun _=>none,(Heap.Ns1.of_empty e3).at fun o q=>Heap.get?_push_of_some _ q,fun _=>True.intro,fun y hy=>absurd rfl hy⟩
theorem CP {prog:Program}{w:World}{env:Env}{e:Expr}{f:Str}{pos:Pos}{s:Shared}{Q:Value->Shared->Prop}(hb:attributeBase e f env (eval e env)=eval e env)
  (h:wpAny (model prog w) A (eval e env) (fun o s₁=>wpAny (model prog w) A (getAttr o f true) Q E s₁) E s):wpAny (model prog w) A (eval (.Attribute e f pos) env) Q E s:=
 Attribute_any_ h (by rw [arm_eval_Attribute,hb])
end
def Xc (K:PySem.W.Frag) (ta:TE) (f:Str):TE:=fun σ H Q=>ta σ H fun x H1=>∃ a C dx fs v,x=.ref a/\H1 a=some (.ins C dx fs)/\mj K C/\dQ K C f/\fs.lookup f=some v/\Q v H1
def O_ (K:PySem.W.Frag) (ta tv:TE) (f:Str):TS:=fun D σ H=>tv σ H fun y H1=>ta σ H1 fun x H2=>∃ a C dx fs,x=.ref a/\H2 a=some (.ins C dx fs)/\mj K C/\dQ K C f/\fs.length<1000 /\
 D.nx σ (upd H2 a (.ins C dx (dw f y fs)))
section
variable {X:Cx}{o e value:Expr}{f:Str}{pos pos' jI:Pos}{ta tv:TE}
theorem Jw (he:PE X e ta) (hb:attributeBase e f X.env (eval e X.env)=eval e X.env):PE X (.Attribute e f pos) (Xc X.K ta f):=by
 intro pins s σ H Q I h
 refine CP hb (bY (he pins s σ H _ I h) fun u s1 ⟨x,H1,I1,rx,a,C,dx,fs,v,ex,ea,c,n,l,q⟩=>?_)
 subst ex
 obtain rfl:u=Value.ref a:=rx
 exact rj I1 ea c n l fun u' s2 I2 ru=>⟨v,H1,I2,ru,q⟩
theorem rl (ha:PE X o ta) (hv:PE X value tv) (hs:swapsWith value (some (.Attribute o f pos')) pos.line X.env=pure false):PS X (.Assign [.Attribute o f pos'] value pos) (O_ X.K ta tv f):=by
 intro pins s σ H D I h
 refine plainObj_wpAny_Assign_Attribute (bY (hv pins s σ H _ I h) fun u s1 ⟨y,H1,I1,ry,q⟩=>bY (ha pins s1 σ H1 _ I1 q) fun ov s2 ⟨x,H2,I2,rx,a,C,dx,fs,ex,ea,c,n,l,q2⟩=>?_) hs
 subst ex
 obtain rfl:ov=Value.ref a:=rx
 exact rk I2 ea c n l ry fun s3 I3=>⟨σ,_,I3,q2⟩
end
section
variable {X:Cx}{pins:List (Addr × Obj)}{σ:St}{H:Hp}{s:Shared}{A:Around}{E:Value->Shared->Prop}{Q:Value->Shared->Prop}{c:Value}{b:Bool}
inductive gu (K:PySem.W.Frag) (H:Hp):V->Value->Prop where
 | non:gu K H .non (.type "NoneType")
 | bl (x:Bool):gu K H (.bl x) (.type "bool")
 | int (i:Int):gu K H (.int i) (.type "int")
 | str (x:Str):gu K H (.str x) (.type "str")
 | flt (x:UInt64):gu K H (.flt x) (.type "float")
 | lst {a:Addr} {xs:List V} (e:H a=some (.lst xs)):gu K H (.ref a) (.type "list")
 | iE {a:Addr} {o:Obj} {xs:List V} (e:H a=some (.iE o (.lst xs))):gu K H (.ref a) (.type "list")
 | tup {a:Addr} {xs:List V} (e:i9 K H a xs):gu K H (.ref a) (.type "tuple")
 | dK {a:Addr} {ba:List (Key × V)} (e:H a=some (.dK ba)):gu K H (.ref a) (.type "dict")
 | dT {a:Addr} {ba:List (List Key × V)} (e:H a=some (.dT ba)):gu K H (.ref a) (.type "dict")
 | ins {a C dx:Addr} {fs:List (Str × V)} (e:H a=some (.ins C dx fs)) (cl:mj K C) (ha:PySem.W.findIn K (.ref C) "__class__" = some (some (.builtin "object.__class__")))
   (hn:PySem.W.specialIn K (.builtin "object.__class__") "__get__" = some (some (.builtin "getset_descriptor.__get__"))) (Wn:PySem.W.takesIn K (.builtin "object.__class__")=some true)
   (hm:PySem.W.mroIn K C (.type "object")=some true):gu K H (.ref a) (.ref C)
theorem lh {x:V}{u t:Value}(I:Inv X pins σ H s) (rx:RelV x u) (ty:gu X.K H x t) (e:PySem.W.kitOne X.K t c=some b) (h:∀ tk,Q (.bool b) { s with toks:=tk }) :
  wpAny (model X.prog X.w) A (call (.builtin "isinstance") [u,c]) Q E s:=by
 cases ty with
 | non=>cases (show u=Value.none from rx);exact PySem.W.kia_one PySem.W.kitx_none I.gO True.intro e (fun z=>nomatch z) h
 | bl y=>cases (show u=Value.bool y from rx);exact PySem.W.kia_one PySem.W.kitx_bool I.gO True.intro e (fun z=>nomatch z) h
 | int i=>obtain ⟨t,q⟩:=(show ∃ t,u=Value.int i t from rx);cases q;exact PySem.W.kia_one PySem.W.kitx_int I.gO True.intro e (fun z=>nomatch z) h
 | str y=>obtain ⟨t,q⟩:=(show ∃ t,u=Value.str y t from rx);cases q;exact PySem.W.kia_one PySem.W.kitx_str I.gO True.intro e (fun z=>nomatch z) h
 | flt y=>obtain ⟨t,q⟩:=(show ∃ t,u=Value.float y t from rx);cases q;exact PySem.W.kia_one PySem.W.kitx_float I.gO True.intro e (fun z=>nomatch z) h
 | @lst a xs ea=>
  cases (show u=Value.ref a from rx)
  obtain ⟨_,_,n,_,h1⟩:=(show bV X.prog X.w H s.heap a (.lst xs) from I.bU a _ ea)
  exact PySem.W.kia_one PySem.W.kitx_list I.gO ⟨_,h1,rfl⟩ e (fun z=>nomatch z) h
 | @iE a ob xs ea=>
  cases (show u=Value.ref a from rx)
  obtain ⟨_,_,_,n,_,h1⟩:=(show bV X.prog X.w H s.heap a (.iE ob (.lst xs)) from I.bU a _ ea)
  exact PySem.W.kia_one PySem.W.kitx_list I.gO ⟨_,h1,rfl⟩ e (fun z=>nomatch z) h
 | @tup a xs ea=>
  cases (show u=Value.ref a from rx)
  obtain ⟨_,_,p,_⟩:=I.tuple ea
  obtain ⟨o,h1,h2,_⟩:=p
  exact PySem.W.kia_one PySem.W.kitx_tuple I.gO ⟨o,h1,h2⟩ e (fun z=>nomatch z) h
 | @dK a ba ea=>
  cases (show u=Value.ref a from rx)
  obtain ⟨_,_,vs,_,p⟩:=(show bV X.prog X.w H s.heap a (.dK ba) from I.bU a _ ea)
  obtain ⟨o,es,ep,h1,h2,_⟩:=p
  exact PySem.W.kia_one PySem.W.kitx_dict I.gO ⟨o,h1,h2.1⟩ e (fun z=>nomatch z) h
 | @dT a ba ea=>
  cases (show u=Value.ref a from rx)
  obtain ⟨_,_,xs,_,o,es,ep,h1,h2,_⟩:=(show bV X.prog X.w H s.heap a (.dT ba) from I.bU a _ ea)
  exact PySem.W.kia_one PySem.W.kitx_dict I.gO ⟨o,h1,h2.1⟩ e (fun z=>nomatch z) h
 | @ins a C dx fs ea cl ha hn Wn hm=>
  cases (show u=Value.ref a from rx)
  obtain ⟨mA,O,_⟩:=gS I.bU ea
  obtain ⟨od,J,_⟩:=O.look
  exact PySem.W.kia_one (PySem.W.kitx_own (cl.get _) cl.hd ha hn Wn hm) I.gO J e (fun z=>nomatch z) h
end
structure bP (k:Nat) (A:Around):Prop where
 hd:A.handled=none
 dp:A.depth+3*k+5<recursionLimit
 un:A.units+16*k+200<cLine
theorem bP.mono {j k:Nat}{A:Around}(r:bP k A) (h:j<=k):bP j A:=⟨r.hd,by have:=r.dp;omega,by have:=r.un;omega⟩
theorem bP.deeper {k:Nat}{A:Around}(r:bP (k+1) A) (env:Env):bP k (A.deeper env):=
 ⟨r.hd,by have:=r.dp;show A.depth+1+3*k+5<_;omega,by have:=r.un;show A.units+3+16*k+200<_;omega⟩
theorem rm {A:Around}{C:Addr}{us:List Value}{kw:List (Str × Value)}:(A.under (.builtin "type.__call__" ⟨.ref C::us,kw⟩)).depth=A.depth+1:=by
 first | rfl | simp [Around.under,Code.weight,Code.isCreation,Code.isGuard,Code.isCaller,Code.frames,Code.isFrame,guardIds]
theorem rn {A:Around}{C:Addr}{us:List Value}{kw:List (Str × Value)}:(A.under (.builtin "type.__call__" ⟨.ref C::us,kw⟩)).units=A.units+1:=by
 first | rfl | simp [Around.under,Code.cUnits,Code.frames,Code.isFrame]
theorem bP.make {k:Nat}{A:Around}(r:bP (k+1) A) (C:Addr) (us:List Value) (kw:List (Str × Value)):bP k (A.under (.builtin "type.__call__" ⟨.ref C::us,kw⟩)):=
 ⟨r.hd,by have:=r.dp;rw [rm];omega,by have:=r.un;rw [rn];omega⟩
theorem bP.depth {k:Nat}{A:Around}(r:bP k A):A.depth<recursionLimit:=by have:=r.dp;omega
theorem bP.units {k:Nat}{A:Around}(r:bP k A):A.units+64<cLine:=by have:=r.un;omega
def CQ:TA:=fun _ H Q=>Q [] H
def Pa (ta:TE) (tr:TA):TA:=fun σ H Q=>ta σ H fun x H1=>tr σ H1 fun xs H2=>Q (x::xs) H2
section
variable {X:Cx}{e:Expr}{es:List Expr}{te:TE}{t:TA}{pos:Pos}
theorem dD:PA X [] CQ:=fun _ _ _ _ H Q I h=>Calls.spliced_nil ⟨[],H,I,.nil,h⟩
theorem bQ (ha:PE X e te) (hr:PA X es t) (hs:starEach (e::es) X.env=(false,eval e X.env)::starEach es X.env:=by rfl):PA X (e::es) (Pa te t):=by
 intro pos pins s σ H Q I h
 rw [hs]
 show wpAny _ _ (spliced ((false,eval e X.env)::backTo pos (starEach es X.env))) _ _ s
 refine Calls.spliced_cons (bY (ha pins s σ H _ I h) fun u s1 ⟨x,H1,I1,r1,q1⟩=>?_)
 exact bY (hr pos pins s1 σ H1 _ I1 q1) fun us s2 ⟨xs,H2,I2,r2,q2⟩=>⟨x::xs,H2,I2,.cons r1 r2,q2⟩
def Xd (t:TA):TE:=fun σ H Q=>t σ H fun xs H1=>xs.length<=sizeLine/\∀ p,H1 p=none->Q (.ref p) (upd H1 p (.tup xs))
def Xe (t:TA):TE:=fun σ H Q=>t σ H fun xs H1=>xs.length<=sizeLine/\∀ p,H1 p=none->Q (.ref p) (upd H1 p (.lst xs))
theorem yU {x1}(h:PA X es t):PE X (.Tuple es x1 pos) (Xd t):=by
 intro pins s σ H Q I hq
 refine wpAny_Tuple_spliced (bY (h pos pins s σ H _ I hq) fun us s1 ⟨xs,H1,I1,r,z,q⟩=>⟨by rw [<- r.length];exact z,?_⟩)
 have hf:H1 s1.heap.objs.size=none:=I1.bU.fresh (Nat.le_refl _)
 refine ⟨.ref s1.heap.objs.size,upd H1 s1.heap.objs.size (.tup xs),I1.laid (t':=s1.toks) (fun b u e=>Heap.get?_push_of_some _ e) (Nat.le_refl _) ?_,rfl,q _ hf⟩
 exact ⟨z,us,r,⟨_,Heap.get?_push_size _ rfl,rfl,_,rfl⟩⟩
theorem yV (h:PA X es t):PE X (.List es pos) (Xe t):=by
 intro pins s σ H Q I hq
 refine wpAny_List_spliced (bY (h pos pins s σ H _ I hq) fun us s1 ⟨xs,H1,I1,r,z,q⟩=>⟨by rw [<- r.length];exact z,?_⟩)
 have hf:H1 s1.heap.objs.size=none:=I1.bU.fresh (Nat.le_refl _)
 refine ⟨.ref s1.heap.objs.size,upd H1 s1.heap.objs.size (.lst xs),I1.laid (t':=s1.toks) (fun b u e=>Heap.get?_push_of_some _ e) (Nat.le_refl _) ?_,rfl,q _ hf⟩
 exact ⟨z,us,0,r,Heap.get?_push_size _ rfl⟩
end
abbrev Sp:=List V->Hp->VK->XK->Prop
abbrev yy:=List Env->Hp->Shared->XK->Value->Shared->Prop
structure rq (P:Program) (w:World) (K:PySem.W.Frag) (mg:Str->Option Value) (base:Heap) (A:Around) (outer:List Env) (s:Shared) (H:Hp):Prop where
 frames:A.frames=some outer
 mod:Mod K mg base
 bs:∀ b o,base.get? b=some o->s.heap.get? b=some o/\H b=none
 bsz:base.objs.size<=s.heap.objs.size
 ji:s.heap.FunFrames base outer
 frf:∀ b∈yG outer,H b=none
 bU:gJ P w H s.heap
 bare:AllBare s.gens
def CE (outer:List Env) (P:Program) (w:World) (H:Hp) (s:Shared) (Q:VK) (u:Value) (s':Shared):Prop:=
 ∃ v H',s'.os=s.os/\AllBare s'.gens/\Un (yG outer) [] H H' s.heap s'.heap/\gJ P w H' s'.heap/\RelV v u/\Q v H'
def CR (CX:yy) (outer:List Env) (P:Program) (w:World) (H:Hp) (s:Shared) (Q:VK) (E:XK) (r:Result) (s':Shared):Prop:=
 match r with
 | .ok (.ret u)=>CE outer P w H s Q u s'
 | .ok _=>False
 | .error e=>CX outer H s E e s'
structure cV (P:Program) (w:World) (K:PySem.W.Frag) (mg:Str->Option Value) (base:Heap) (CX:yy) (k:Nat) (f:Addr) (fd:FuncData) (ps:List Str) (sp:Sp):Prop where
 len:∀ vs H Q E,sp vs H Q E->vs.length=ps.length
 run:∀ (A:Around) (outer:List Env) (s:Shared) (H:Hp) (args:Args) (us:List Value) (vs:List V) (Q:VK) (E:XK),bP k A->rq P w K mg base A outer s H->BindsTo s fd args (ps.zip us)->Vals vs us->sp vs H Q E ->
  codeAny (model P w) A (.call (.ref f) args) (CR CX outer P w H s Q E) s
theorem cV.imp {P:Program}{w:World}{K:PySem.W.Frag}{mg:Str->Option Value}{base:Heap}{CX:yy}{k:Nat}{f:Addr}{fd:FuncData}{ps:List Str}{sp sp':Sp}(F:cV P w K mg base CX k f fd ps sp)
  (h:∀ vs H Q E,sp' vs H Q E->sp vs H Q E):cV P w K mg base CX k f fd ps sp':=
 ⟨fun vs H Q E q=>F.len vs H Q E (h _ _ _ _ q),fun A outer s H args us vs Q E hr he hb hv hs=>F.run A outer s H args us vs Q E hr he hb hv (h _ _ _ _ hs)⟩
theorem rq.make {P:Program}{w:World}{K:PySem.W.Frag}{mg:Str->Option Value}{base:Heap}{A:Around}{outer:List Env}{s:Shared}{H:Hp}(e:rq P w K mg base A outer s H) (C:Addr) (us:List Value) (kw:List (Str × Value)) :
  rq P w K mg base (A.under (.builtin "type.__call__" ⟨.ref C::us,kw⟩)) outer s H:=⟨by first | exact e.frames | (simpa [Around.under,Code.envs,Code.isFrame,pushEnvs] using e.frames),e.mod,e.bs,e.bsz,e.ji,e.frf,e.bU,e.bare⟩
section
variable {X:Cx}{pins:List (Addr × Obj)}{σ:St}{H:Hp}{s s':Shared}
theorem Inv.Pb (I:Inv X pins σ H s):rq X.prog X.w X.K X.mg X.base X.A X.stack s H:=
 ⟨I.ok.frames,I.ok.mod,I.bs,Nat.le_trans I.ok.bsz I.sz,I.stack,I.uy,I.bU,I.bare⟩
theorem Inv.after {Q:VK}{u:Value}(I:Inv X pins σ H s) (h:CE X.stack X.prog X.w H s Q u s'):EP X pins σ Q u s':=by
 obtain ⟨v,H',os,bare,un,bU,r,q⟩:=h
 obtain ⟨hh,g,d,t,os'⟩:=s'
 obtain rfl:os'=s.os:=os
 exact ⟨v,H',I.call (h':=hh) (g':=g) (d':=d) (t':=t) (ch:=[]) un bU bare (fun b z=>absurd z (by simp)),r,q⟩
end
def G2 (sp:Sp) (iF:List V) (E:XK) (t:TA):TE:=fun σ H Q=>t σ H fun vs H1=>sp (vs++iF) H1 Q E
def uE (C:Addr) (m:Str) (sp:Sp) (iF:List V) (E:XK) (ta:TE) (t:TA):TE:=fun σ H Q=>ta σ H fun x H1=>∃ a dx fs,x=.ref a/\H1 a=some (.ins C dx fs)/\fs.lookup m=none /\
 t σ H1 fun vs H2=>sp (x::(vs++iF)) H2 Q E
def Pc (C:Addr) (sp:Sp) (iF:List V) (E:XK) (t:TA):TE:=fun σ H Q=>t σ H fun vs H1=>∀ x dx,H1 x=none->H1 dx=none->dx≠x ->
 sp (.ref x::(vs++iF)) (upd (upd H1 dx (.own x)) x (.ins C dx [])) (fun v H2=>v=.non/\Q (.ref x) H2) E
def Binds (K:PySem.W.Frag) (fd:FuncData) (ps:List Str) (ds:List Value):Prop:=
 ∀ (s:Shared) (us:List Value),K.In s.heap->(us++ds).length=ps.length->BindsTo s fd ⟨us,[]⟩ (ps.zip (us++ds))
theorem Binds.all {K:PySem.W.Frag}{fd:FuncData}{ps:List Str}(h:∀ us:List Value,us.length=ps.length->bindArgs fd ⟨us,[]⟩=pure (ps.zip us)):Binds K fd ps []:=fun s us _ hl=>by
 rw [List.append_nil] at hl ⊢
 exact .of_eq (h us hl)
def Passes (CX:yy) (X:Cx) (E:XK):Prop:=∀ (pins:List (Addr × Obj)) (σ:St) (H:Hp) (s:Shared) (e:Value) (s':Shared),Inv X pins σ H s->CX X.stack H s E e s'->X.xe e s'
section
variable {X:Cx}{CX:yy}{k:Nat}{f C:Addr}{fd:FuncData}{ps:List Str}{sp:Sp}{iF:List V}{ds:List Value}{E:XK}{x m:Str}{p pos apos:Pos}{e o:Expr}{es:List Expr}{ta:TE}{t:TA}
theorem ml {pins:List (Addr × Obj)}{σ:St}{H:Hp}{s:Shared}{Q:VK}{us:List Value}{vs:List V}(F:cV X.prog X.w X.K X.mg X.base CX k f fd ps sp) (hr:bP k X.A) (hb:Binds X.K fd ps ds) (hd:Vals iF ds) (hx:Passes CX X E)
  (I:Inv X pins σ H s) (r:Vals vs us) (h:sp (vs++iF) H Q E):wpAny (model X.prog X.w) X.A (call (.ref f) us) (EP X pins σ Q) X.xe s:=by
 have r2:Vals (vs++iF) (us++ds):=r.append hd
 have hl:(us++ds).length=ps.length:=by rw [<- r2.length];exact F.len _ _ _ _ h
 refine wpAny_call (codeAny_mono (F.run X.A X.stack s H ⟨us,[]⟩ (us++ds) (vs++iF) Q E hr I.Pb (hb s us I.gO hl) r2 h) fun r s' hq=>?_)
 cases r with
 | error e=>exact hx pins σ H s e s' I hq
 | ok fl=>
  cases fl with
  | ret u=>exact I.after hq
  | next=>exact False.elim hq
  | brk=>exact False.elim hq
  | cont=>exact False.elim hq
theorem CS (F:cV X.prog X.w X.K X.mg X.base CX k f fd ps sp) (hr:bP k X.A) (hg:Gl X x) (hm:X.mg x=some (.ref f)) (hk:PySem.W.keepIn X.K (.ref f)=true) (hb:Binds X.K fd ps ds) (hd:Vals iF ds) (hx:Passes CX X E)
  (ha:PA X (e::es) t) (jJ:(x == ("__debug__" : Str))=false:=by decide) (he:starEach (e::es) X.env=(false,eval e X.env)::starEach es X.env:=by rfl) (hpl:(backTo pos (starEach es X.env)).any (·.1)=false:=by rfl) :
  PE X (.Call (.Name x p) (e::es) [] pos) (G2 sp iF E t):=by
 intro pins s σ H Q I h
 refine wpAny_Call_Name_kw (gQ I hg hm ?_ jJ)
 refine PySem.W.callWith_K (h₀:=X.base) I.ok.mod.kin hk (bY (ha pos pins s σ H _ I h) fun us s1 ⟨vs,H1,I1,r,q⟩=>⟨I1.gO,?_⟩) he hpl
 exact ml F hr hb hd hx I1 r q
theorem yW (F:cV X.prog X.w X.K X.mg X.base CX k f fd ps sp) (hr:bP k X.A) (hg:Gl X x) (hm:X.mg x=some (.ref f)) (hk:PySem.W.keepIn X.K (.ref f)=true) (hb:Binds X.K fd ps ds) (hd:Vals iF ds) (hx:Passes CX X E)
  (jJ:(x == ("__debug__" : Str))=false:=by decide):PE X (.Call (.Name x p) [] [] pos) (G2 sp iF E CQ):=by
 intro pins s σ H Q I h
 refine wpAny_Call_Name_kw (gQ I hg hm ?_ jJ)
 exact PySem.W.callWith_K0 I.gO hk (ml (us:=[]) F hr hb hd hx I .nil h)
theorem CT {pl:Sem Bool}(he:PE X o ta) (c:mj X.K C) (hm:Meth X.K C m f) (F:cV X.prog X.w X.K X.mg X.base CX k f fd ps sp) (hr:bP k X.A) (hb:Binds X.K fd ps ds) (hd:Vals iF ds) (hx:Passes CX X E) (ha:PA X (e::es) t)
  (W4:starEach (e::es) X.env=(false,eval e X.env)::starEach es X.env:=by rfl) (hpl:(backTo pos (starEach es X.env)).any (·.1)=false:=by rfl)
  (ht:eval (.Call (.Attribute o m apos) (e::es) [] pos) X.env=(do
   let ov <- eval o X.env
   standAt apos.atName
   let (f,first) <- holding [ov] (getMethod ov m pl)
   callWith pos f first (backTo pos (starEach (e::es) X.env)) (backToKw pos (keywordEach [] X.env))):=by rfl) :
  PE X (.Call (.Attribute o m apos) (e::es) [] pos) (uE C m sp iF E ta t):=by
 intro pins s σ H Q I h
 refine PySem.W.methodCall_KW (pl:=pl) (bY (he pins s σ H _ I h) fun u s1 ⟨x,H1,I1,rx,a,dx,fs,ex,ea,l,q⟩=>?_) ht
 subst ex
 obtain rfl:u=Value.ref a:=rx
 refine jH I1 ea c hm l ?_
 refine PySem.W.callWith_K (first:=[.ref a]) (h₀:=X.base) I.ok.mod.kin hm.kp (bY (ha pos pins s1 σ H1 _ I1 q) fun us s2 ⟨vs,H2,I2,r,q2⟩=>⟨I2.gO,?_⟩) W4 hpl
 exact ml (us:=.ref a::us) (vs:=.ref a::vs) F hr hb hd hx I2 (.cons rfl r) q2
theorem yX {pl:Sem Bool}(he:PE X o ta) (c:mj X.K C) (hm:Meth X.K C m f) (F:cV X.prog X.w X.K X.mg X.base CX k f fd ps sp) (hr:bP k X.A) (hb:Binds X.K fd ps ds) (hd:Vals iF ds) (hx:Passes CX X E)
  (ht:eval (.Call (.Attribute o m apos) [] [] pos) X.env=(do
   let ov <- eval o X.env
   standAt apos.atName
   let (f,first) <- holding [ov] (getMethod ov m pl)
   callWith pos f first (backTo pos (starEach [] X.env)) (backToKw pos (keywordEach [] X.env))):=by rfl) :
  PE X (.Call (.Attribute o m apos) [] [] pos) (uE C m sp iF E ta CQ):=by
 intro pins s σ H Q I h
 refine PySem.W.methodCall_KW (pl:=pl) (bY (he pins s σ H _ I h) fun u s1 ⟨x,H1,I1,rx,a,dx,fs,ex,ea,l,q⟩=>?_) ht
 subst ex
 obtain rfl:u=Value.ref a:=rx
 refine jH I1 ea c hm l ?_
 exact PySem.W.callWith_K0 (first:=[.ref a]) I1.gO hm.kp (ml (us:=[.ref a]) (vs:=[.ref a]) F hr hb hd hx I1 (.cons rfl .nil) q)
structure Mk (K:PySem.W.Frag) (C f:Addr):Prop where
 makes:PySem.W.makesIn K C=true
 init:PySem.W.findIn K (.ref C) "__init__" = some (some (.ref f))
 fn:PySem.W.isFn K (.ref f)=true
 kp:PySem.W.keepIn K (.ref C)=true
theorem yY {pins:List (Addr × Obj)}{σ:St}{H:Hp}{s:Shared}{Q:VK}{us:List Value}{vs:List V}(M:Mk X.K C f) (F:cV X.prog X.w X.K X.mg X.base CX k f fd ps sp) (hr:bP (k+1) X.A) (hb:Binds X.K fd ps ds) (hd:Vals iF ds)
  (hx:Passes CX X E) (I:Inv X pins σ H s) (r:Vals vs us)
  (h:∀ x dx,H x=none->H dx=none->dx≠x->sp (.ref x::(vs++iF)) (upd (upd H dx (.own x)) x (.ins C dx [])) (fun v H2=>v=.non/\Q (.ref x) H2) E) :
  wpAny (model X.prog X.w) X.A (call (.ref C) us) (EP X pins σ Q) X.xe s:=by
 have hq:=h (s.heap.objs.size+1) s.heap.objs.size (I.bU.fresh (Nat.le_succ _)) (I.bU.fresh (Nat.le_refl _)) (Nat.ne_of_lt (Nat.lt_succ_self _))
 have I2:=Inv.made (C:=C) I
 have r2:Vals (V.ref (s.heap.objs.size+1)::(vs++iF)) (Value.ref (s.heap.objs.size+1)::(us++ds)):=.cons rfl (r.append hd)
 have hl:(Value.ref (s.heap.objs.size+1)::us++ds).length=ps.length:=by
  have e:=r2.length
  rw [F.len _ _ _ _ hq] at e
  exact e.symm
 refine wpAny_call (yT (f:=f) I.gO M.makes M.init (beq_iff_eq.mp M.fn) (codeAny_mono (F.run _ X.stack _ _ ⟨Value.ref (s.heap.objs.size+1)::us,[]⟩ (Value.ref (s.heap.objs.size+1)::(us++ds)) _ _ E (hr.make C us [])
  (I2.Pb.make C us []) (hb _ (Value.ref (s.heap.objs.size+1)::us) I2.gO hl) r2 hq) fun r s' Pd=>?_))
 cases r with
 | error e=>exact hx pins σ _ _ e s' I2 Pd
 | ok fl=>
  cases fl with
  | ret u=>
   obtain ⟨v,H',I3,rv,ev,q3⟩:=I2.after Pd
   subst ev
   exact ⟨rv,⟨V.ref (s.heap.objs.size+1),H',I3,rfl,q3⟩⟩
  | next=>exact False.elim Pd
  | brk=>exact False.elim Pd
  | cont=>exact False.elim Pd
theorem mq (M:Mk X.K C f) (F:cV X.prog X.w X.K X.mg X.base CX k f fd ps sp) (hr:bP (k+1) X.A) (hg:Gl X x) (hm:X.mg x=some (.ref C)) (hb:Binds X.K fd ps ds) (hd:Vals iF ds) (hx:Passes CX X E)
  (ha:PA X (e::es) t) (jJ:(x == ("__debug__" : Str))=false:=by decide) (he:starEach (e::es) X.env=(false,eval e X.env)::starEach es X.env:=by rfl) (hpl:(backTo pos (starEach es X.env)).any (·.1)=false:=by rfl) :
  PE X (.Call (.Name x p) (e::es) [] pos) (Pc C sp iF E t):=by
 intro pins s σ H Q I h
 refine wpAny_Call_Name_kw (gQ I hg hm ?_ jJ)
 refine PySem.W.callWith_K (h₀:=X.base) I.ok.mod.kin M.kp (bY (ha pos pins s σ H _ I h) fun us s1 ⟨vs,H1,I1,r,q⟩=>⟨I1.gO,?_⟩) he hpl
 exact yY M F hr hb hd hx I1 r q
end
section
variable {X:Cx}{CX:yy}{k:Nat}{f C:Addr}{fd:FuncData}{ps ks:List Str}{sp:Sp}{E:XK}{x m:Str}{p pos apos aad:Pos}{e o:Expr}{es:List Expr}{kws:List Keyword}{te ta:TE}{t tk:TA}{nm:Option Str}
variable {g:List Value->List Value->List Value}{gV:List V->List V->List V}
end
structure e_ (N P:List Str) (sc:Scope):Prop where
 kind:sc.kind=.function
 co:sc.isCoroutine=false
 gen:sc.isGenerator=false
 nd:N.Nodup
 pre:N.take P.length=P
 par:∀ x∈P,sc.names.lookup x=some .local\/sc.names.lookup x=some .cell
 nofree:∀ y∈sc.names,y.2≠.free
theorem lj {kindOf:Str->Option NameKind}{x:Str}:∀ {binds:List (Str × Value)}{m:Str->Option Value},(∀ v,(x,v) ∉ binds)->bindL kindOf binds m x=m x
 | [],_,_=>rfl
 | (n,v)::r,m,h=>by
  unfold bindL
  rw [lj fun w hw=>h w (List.mem_cons_of_mem _ hw)]
  split
  ·have:x≠n:=by rintro rfl;exact h v List.mem_cons_self
   simp [this]
  ·rfl
theorem lq {kindOf:Str->Option NameKind}{x:Str}:∀ {binds:List (Str × Value)}{m:Str->Option Value},(∀ v,(x,v) ∉ binds)->bindC kindOf binds m x=m x
 | [],_,_=>rfl
 | (n,v)::r,m,h=>by
  unfold bindC
  rw [lq fun w hw=>h w (List.mem_cons_of_mem _ hw)]
  split
  ·rfl
  ·have:x≠n:=by rintro rfl;exact h v List.mem_cons_self
   simp [this]
theorem lr {kindOf:Str->Option NameKind}{x:Str}{v:Value}:∀ {P:List Str}{vs:List Value}{i:Nat}{m:Str->Option Value},P.Nodup->P[i]?=some x->vs[i]?=some v->kindOf x=some .local ->
  bindL kindOf (P.zip vs) m x=some v
 | [],_,_,_,_,h,_,_=>by simp at h
 | _::_,[],_,_,_,_,h,_=>by simp at h
 | p::P,w::vs,0,m,nd,h1,h2,hk=>by
  simp at h1 h2;subst h1;subst h2
  show bindL kindOf ((p,w)::P.zip vs) m p=_
  unfold bindL
  rw [lj fun v hv=>(List.nodup_cons.mp nd).1 (List.of_mem_zip hv).1,if_pos hk]
  simp
 | p::P,w::vs,i+1,m,nd,h1,h2,hk=>by
  show bindL kindOf ((p,w)::P.zip vs) m x=_
  unfold bindL
  exact lr (i:=i) (List.nodup_cons.mp nd).2 (by simpa using h1) (by simpa using h2) hk
theorem lu {kindOf:Str->Option NameKind}{x:Str}{v:Value}:∀ {P:List Str}{vs:List Value}{i:Nat}{m:Str->Option Value},P.Nodup->P[i]?=some x->vs[i]?=some v->kindOf x≠some .local ->
  bindC kindOf (P.zip vs) m x=some v
 | [],_,_,_,_,h,_,_=>by simp at h
 | _::_,[],_,_,_,_,h,_=>by simp at h
 | p::P,w::vs,0,m,nd,h1,h2,hk=>by
  simp at h1 h2;subst h1;subst h2
  show bindC kindOf ((p,w)::P.zip vs) m p=_
  unfold bindC
  rw [lq fun v hv=>(List.nodup_cons.mp nd).1 (List.of_mem_zip hv).1,if_neg hk]
  simp
 | p::P,w::vs,i+1,m,nd,h1,h2,hk=>by
  show bindC kindOf ((p,w)::P.zip vs) m x=_
  unfold bindC
  exact lu (i:=i) (List.nodup_cons.mp nd).2 (by simpa using h1) (by simpa using h2) hk
def start (N:List Str) (vs:List V):St:=vs.map some++List.replicate (N.length-vs.length) none
def kR (CX:yy) (P:Program) (w:World) (K:PySem.W.Frag) (mg:Str->Option Value) (base:Heap) (N:List Str) (qual:Str) (scope:Scope) (f:Addr) (cd:Value) (A:Around) (outer:List Env) (s:Shared) (H:Hp) (E:XK):Cx where
 prog:=P
 w:=w
 K:=K
 mg:=mg
 base:=base
 A:=A.deeper (envOfC qual scope s.heap.objs.size f cd)
 N:=N
 s₀:=s
 H₀:=H
 env:=envOfC qual scope s.heap.objs.size f cd
 outer:=outer
 stack:=envOfC qual scope s.heap.objs.size f cd::outer
 ex:=[]
 calm:=true
 fn:=fun _=>true
 pn:=[]
 xe:=fun e s'=>wpAny (model P w) (A.deeper (envOfC qual scope s.heap.objs.size f cd)) (leaving (envOfC qual scope s.heap.objs.size f cd) e) (fun _ Pe=>CX outer H s E e Pe) (fun e' Pe=>CX outer H s E e' Pe) s'
theorem oj {sc:Scope}{n:Nat}{x:Str}(h:sc.names.lookup x=some .cell):∃ c,(cellsFrom n sc.names []).lookup x=some c:=by
 have q:=PySem.W.cellsFrom_some sc.names n [] (.inl h)
 exact Option.isSome_iff_exists.mp q
theorem we {CX:yy}{P:Program}{w:World}{K:PySem.W.Frag}{mg:Str->Option Value}{base:Heap}{N ps:List Str}{qual:Str}{scope:Scope}{f:Addr}{cd:Value}{A:Around}{outer:List Env}{s s1:Shared}{H:Hp}{E:XK}{us:List Value}{vs:List V}
  (S:e_ N ps scope) (hd:A.handled=none) (e0:rq P w K mg base A outer s H) (hl:vs.length=ps.length) (r:Vals vs us)
  (x:InCallC s s.heap.objs.size (bindL (envOfC qual scope s.heap.objs.size f cd).kindOf (ps.zip us) fun _=>none) (cellsFrom (s.heap.objs.size+1) scope.names []) (bindC (envOfC qual scope s.heap.objs.size f cd).kindOf (ps.zip us) fun _=>none) s1) :
  Inv (kR CX P w K mg base N qual scope f cd A outer s H E) [] (start N vs) H s1:=by
 have hpl:ps.length<=N.length:=by have:=congrArg List.length S.pre;rw [List.length_take] at this;omega
 obtain ⟨h1,tk,rfl,hk⟩:=x.done
 have Ph:∀ b:Addr,b ∉ (kR CX P w K mg base N qual scope f cd A outer s H E).ex:=fun b z=>absurd (show b∈([]:List Addr) from z) (by simp)
 refine ⟨⟨e0.mod,S.kind,rfl,rfl,Nat.le_refl _,fun y z c h1 h2=>?_,fun y hy=>?_,fun y c _ h=>?_,fun _=>hd,Around.frames_deeper e0.frames,.inr ⟨rfl,rfl⟩,fun b z=>absurd z (Ph b),e0.bs,e0.bsz,fun b _ _=>Ph b,fun b z=>absurd z (Ph b),e0.ji,e0.frf⟩,
  rfl,e0.bare,Un.kept hk,⟨_,x.toInCall.ns,fun i y v h1 h2 h3=>?_⟩,fun y c h=>⟨_,x.cell y c h⟩,e0.bU.fresh (Nat.le_refl _),fun y c h=>?_,fun p hp=>absurd (show p∈([]:List (Addr × Obj)) from hp) (by simp),e0.bU.kept hk,?_⟩
 ·exact name_of_addr x.apart (PySem.mem_of_lookup h1) (PySem.mem_of_lookup h2)
 ·have hy:scope.names.lookup y=some .cell\/scope.names.lookup y=some .free:=hy
  rcases hy with hy | hy
  ·exact oj hy
  ·exact absurd rfl (S.nofree _ (PySem.mem_of_lookup hy))
 ·exact Nat.le_of_lt (x.above y c (PySem.mem_of_lookup h))
 ·have hi:i<vs.length:=by
   unfold start at h2
   by_cases hi:i<vs.length
   ·exact hi
   ·rw [List.getElem?_append_right (by simpa using hi)] at h2
    rw [List.getElem?_replicate] at h2
    split at h2<;>cases h2
  have ha:vs[i]?=some v:=by
   unfold start at h2
   rw [List.getElem?_append_left (by simpa using hi),List.getElem?_map] at h2
   cases e:vs[i]? with
   | none=>rw [e] at h2;cases h2
   | some a=>rw [e] at h2;cases h2;rfl
  obtain ⟨u,hu,rv⟩:=r.get ha
  have hp:ps[i]?=some y:=by
   rw [<- S.pre,List.getElem?_take_of_lt (by omega)];exact h1
  have ndP:ps.Nodup:=by rw [<- S.pre];exact S.nd.sublist (List.take_sublist _ _)
  refine ⟨u,rv,?_⟩
  rcases S.par y (List.mem_of_getElem? hp) with k | k
  ·exact .inl ⟨k,lr ndP hp hu k⟩
  ·obtain ⟨c,e⟩:=oj (n:=s.heap.objs.size+1) k
   refine .inr ⟨.inl k,c,e,?_⟩
   have q:=x.cell y c e
   rw [lu ndP hp hu (by show scope.names.lookup y≠_;rw [k];decide)] at q
   exact q
 ·exact e0.bU.fresh (Nat.le_of_lt (x.above y c (PySem.mem_of_lookup h)))
 ·unfold start
  show _=N.length
  rw [List.length_append,List.length_map,List.length_replicate]
  omega
theorem Pj {CX:yy}{P:Program}{w:World}{K:PySem.W.Frag}{mg:Str->Option Value}{base:Heap}{k:Nat}{f:Addr}{name qual:Str}{params:Arguments}{body:List Stmt}{scope:Scope}{dV kV doc pm gn ct oc:Value}{an od:Option Addr}
  {wg:Array (Option Value)} {N ps:List Str} {sp:Sp} (lk:K.lookup f=some ⟨oc,od,.func (PySem.W.fnOf name qual params body scope dV kV doc pm an gn ct),wg⟩) (jj:PySem.W.codeIn K gn qual=true) (S:e_ N ps scope)
  (len:∀ vs H Q E,sp vs H Q E->vs.length=ps.length)
  (yZ:∀ (A:Around) (outer:List Env) (s:Shared) (H:Hp) (vs:List V) (Q:VK) (E:XK),bP k (A.deeper (envOfC qual scope s.heap.objs.size f gn))->sp vs H Q E ->
   ∃ t,gP (kR CX P w K mg base N qual scope f gn A outer s H E) body t/\t { nx:=fun _ H'=>Q .non H',rt:=Q } (start N vs) H) :
  cV P w K mg base CX (k+1) f (PySem.W.fnOf name qual params body scope dV kV doc pm an gn ct) ps sp:=by
 refine ⟨len,fun A outer s H args us vs Q E hr e0 hb r G3=>?_⟩
 have hl:=len _ _ _ _ G3
 have KX:K.In s.heap:=e0.mod.kin.keeps fun b o e=>(e0.bs b o e).1
 have lim:s.heap.NoLimit:=e0.mod.nolimit.keeps fun b o e=>(e0.bs b o e).1
 have Pk:∀ y∈ps.zip us,scope.names.lookup y.1=some .local\/(scope.names.lookup y.1=some .cell/\((cellsFrom (s.heap.objs.size+1) scope.names []).lookup y.1).isSome=true):=fun ⟨n,v⟩ hy=>by
  rcases S.par n (List.of_mem_zip hy).1 with q | q
  ·exact .inl q
  ·exact .inr ⟨q,PySem.W.cellsFrom_some _ _ _ (.inl q)⟩
 refine codeAny_call_function hr.depth (KX _ _ lk) rfl S.co S.gen rfl (PySem.W.codeRec_of KX jj) (hb _ _ _ _ ?_)
 refine wpAny_newFunctionEnv_cells S.kind Pk fun env he s1 x=>?_
 subst he
 refine ⟨lim.keeps x.toInCall.keep,codeAny_func ?_⟩
 obtain ⟨t,ht,hq⟩:=yZ A outer s H vs Q E (hr.deeper _) G3
 have I:Inv (kR CX P w K mg base N qual scope f gn A outer s H E) [] (start N vs) H s1:=we S hr.hd e0 hl r x
 refine wpAny_mono (ht [] s1 (start N vs) H _ I hq) (fun fl s' hs=>?_) fun e s' hs=>hs
 have fin:∀ {σ':St} {H':Hp} {v:V} {u:Value},Inv (kR CX P w K mg base N qual scope f gn A outer s H E) [] σ' H' s'->RelV v u->Q v H'->CE outer P w H s Q u s':=
  fun {σ' H' v u} J rv q=>⟨v,H',J.os,J.bare,J.base,J.bU,rv,q⟩
 cases fl with
 | ret u=>
  obtain ⟨v,σ',H',J,rv,q⟩:=hs
  exact fin J rv q
 | next=>
  obtain ⟨σ',H',J,q⟩:=hs
  exact fin (v:=V.non) (u:=Value.none) J rfl q
 | brk=>
  obtain ⟨_,_,_,q⟩:=hs
  exact False.elim q
 | cont=>
  obtain ⟨_,_,_,q⟩:=hs
  exact False.elim q
section
variable {X:Cx}{x:Str}{p pos:Pos}{e:Expr}{es:List Expr}{t:TA}{id T:String}{r:List V->Hp->VK->Prop}
def Xg (r:List V->Hp->VK->Prop) (t:TA):TE:=fun σ H Q=>t σ H fun vs H1=>r vs H1 Q
theorem fS (hc:eu X (.builtin id) r) (hg:Gl X x) (hm:X.mg x=none) (hv:bootBuiltins x=some (.builtin id)) (ha:PA X (e::es) t) (hn:x ≠ "__name__" := by decide) (jJ:(x == ("__debug__" : Str))=false:=by decide)
  (he:starEach (e::es) X.env=(false,eval e X.env)::starEach es X.env:=by rfl) (hpl:(backTo pos (starEach es X.env)).any (·.1)=false:=by rfl):PE X (.Call (.Name x p) (e::es) [] pos) (Xg r t):=by
 intro pins s σ H Q I h
 refine wpAny_Call_Name_kw (eY I hg hm hv ?_ hn jJ)
 exact PyProof.Rows.callWith_builtin1 (bY (ha pos pins s σ H _ I h) fun us s1 ⟨vs,H1,I1,r1,q1⟩=>hc pins s1 σ H1 vs us Q I1 r1 q1) he hpl
theorem ly (hc:eu X (.type T) r) (hg:Gl X x) (hm:X.mg x=none) (hv:bootBuiltins x=some (.type T)) (ha:PA X (e::es) t) (hn:x ≠ "__name__" := by decide) (jJ:(x == ("__debug__" : Str))=false:=by decide)
  (he:starEach (e::es) X.env=(false,eval e X.env)::starEach es X.env:=by rfl) (hpl:(backTo pos (starEach es X.env)).any (·.1)=false:=by rfl):PE X (.Call (.Name x p) (e::es) [] pos) (Xg r t):=by
 intro pins s σ H Q I h
 refine wpAny_Call_Name_kw (eY I hg hm hv ?_ hn jJ)
 exact PyProof.Rows.callWith_type1 (bY (ha pos pins s σ H _ I h) fun us s1 ⟨vs,H1,I1,r1,q1⟩=>hc pins s1 σ H1 vs us Q I1 r1 q1) he hpl
end
end L2
namespace HT
open PySem PyProof.Rows
section
open PySem.SeqAt
open PySem.AutoSeq1 (wpAny_loadPart')
open PySem.MeetsSeq PySem.MeetsSeq2 PySem.MeetsSeq3
end
section
variable {prog:Program}{w:World}{A:Around}{E:Value->Shared->Prop}{s:Shared}
def eK (n d:Nat):Option Int->Nat
 | none=>d
 | some v=>if v<0 then (v+(n:Int)).toNat else min v.toNat n
end
end HT
namespace L2
open PySem PySem.Spec PyProof.Rows
abbrev TO:=St->Hp->(Option Int->Hp->Prop)->Prop
def PO (X:Cx) (e:Option Expr) (t:TO):Prop:=
 ∀ (pins:List (Addr × Obj)) (s:Shared) (σ:St) (H:Hp) (Q:Option Int->Hp->Prop),Inv X pins σ H s->t σ H Q ->
  wpAny (model X.prog X.w) X.A (evalPart e X.env) (fun u s'=>∃ o H',Inv X pins σ H' s'/\IsPart u o/\Q o H') X.xe s
def CU:TO:=fun _ H Q=>Q none H
def Pn (t:TE):TO:=fun σ H Q=>t σ H fun x H1=>∃ i,x=.int i/\Q (some i) H1
section
variable {X:Cx}{e:Expr}{te:TE}{lo hi:Option Expr}{tl th:TO}{pos p2:Pos}
theorem CV:PO X none CU:=by
 intro pins s σ H Q I h
 rw [evalPart_none]
 exact wpAny_pure ⟨none,H,I,.none,h⟩
theorem CW (h:PE X e te):PO X (some e) (Pn te):=by
 intro pins s σ H Q I hw
 rw [evalPart_some]
 refine bY (h pins s σ H _ I hw) fun u s1 ⟨x,H1,I1,r1,q1⟩=>?_
 obtain ⟨i,rfl,q⟩:=q1
 obtain ⟨t,rfl⟩:=r1
 exact ⟨some i,H1,I1,.int i t,q⟩
def G4 (X:Cx) (r:V->Option Int->Option Int->Hp->VK->Prop):Prop:=
 ∀ (pins:List (Addr × Obj)) (s:Shared) (σ:St) (H:Hp) (x:V) (v vl vu:Value) (lo hi:Option Int) (sl:Addr) (Q:VK),Inv X pins σ H s->RelV x v->s.heap.IsSliceOf sl vl vu .none->IsPart vl lo->IsPart vu hi->r x lo hi H Q ->
  ∃ T id,typeLookup (.type T) "__getitem__" = pure (some (.builtin id))/\s.TypeIs v T/\wpAny (model X.prog X.w) X.A (getItem v (.ref sl)) (EP X pins σ Q) X.xe s
theorem G4.or {r r':V->Option Int->Option Int->Hp->VK->Prop}(h:G4 X r) (h':G4 X r'):G4 X (fun x lo hi H Q=>r x lo hi H Q\/r' x lo hi H Q):=by
 intro pins s σ H x v vl vu lo hi sl Q I rx hs pl pu q
 rcases q with q | q
 ·exact h pins s σ H x v vl vu lo hi sl Q I rx hs pl pu q
 ·exact h' pins s σ H x v vl vu lo hi sl Q I rx hs pl pu q
def tSl (r:V->Option Int->Option Int->Hp->VK->Prop) (te:TE) (tl th:TO):TE:=fun σ H Q=>te σ H fun x H1=>tl σ H1 fun l H2=>th σ H2 fun u H3=>r x l u H3 Q
theorem y9 {r:V->Option Int->Option Int->Hp->VK->Prop}(hr:G4 X r) (he:PE X e te) (hl:PO X lo tl) (hu:PO X hi th):PE X (.Subscript e (.Slice lo hi none p2) pos) (tSl r te tl th):=by
 intro pins s σ H Q I h
 refine Subscript_ (bY (he pins s σ H _ I h) fun v s1 ⟨x,H1,I1,r1,q1⟩=>?_)
 refine wpAny_Slice (bY (hl pins s1 σ H1 _ I1 q1) fun vl s2 ⟨l,H2,I2,pl,q2⟩=>bY (hu pins s2 σ H2 _ I2 q2) fun vu s3 ⟨u,H3,I3,pu,q3⟩=>?_)
 rw [evalPart_none]
 refine wpAny_pure ?_
 have I4:Inv X pins σ H3 { s3 with heap:=s3.heap.push { cls:=.type "slice", data:=.fields #[vl,vu,.none] } }:=I3.kept (t':=s3.toks) fun b ob q=>Heap.get?_push_of_some _ q
 obtain ⟨T,id,hT,ht,hg⟩:=hr pins { s3 with heap:=s3.heap.push { cls:=.type "slice", data:=.fields #[vl,vu,.none] } } σ H3 x v vl vu l u s3.heap.objs.size Q I4 r1 (Heap.IsSliceOf.new ..) pl pu q3
 show wpAny (model X.prog X.w) X.A (subscriptTail e (.Slice lo hi none p2) v (.ref s3.heap.objs.size)) (EP X pins σ Q) X.xe { s3 with heap:=s3.heap.push { cls:=.type "slice", data:=.fields #[vl,vu,.none] } }
 exact tail_any (ops:=[.ref s3.heap.objs.size,v]) ht hT hg (by with_unfolding_all rfl)
def wj (xs:List V) (lo hi:Option Int):List V:=(xs.drop (HT.eK xs.length 0 lo)).take (HT.eK xs.length xs.length hi-HT.eK xs.length 0 lo)
theorem om (xs:List V) (lo hi:Option Int):(wj xs lo hi).length<=xs.length:=by
 unfold wj
 rw [List.length_take,List.length_drop]
 omega
end
def Jx (n:Nat) (i:Int):Option Nat:=if 0<=i then (if i<n then some i.toNat else none) else if -(n:Int)<=i then some (i+n).toNat else none
def y_ {α:Type}(xs:List α) (i:Int):Option α:=(Jx xs.length i).bind fun j=>xs[j]?
theorem CY {n:Nat}{i:Int}{j:Nat}(h:Jx n i=some j):seqIndex? i n=some j/\j<n/\-(n:Int)<=i/\i<n:=by
 unfold Jx at h
 by_cases h0:0<=i
 ·rw [if_pos h0] at h
  by_cases h1:i<n
  ·rw [if_pos h1] at h
   have e:i.toNat=j:=Option.some.inj h
   exact ⟨by rw [seqIndex_of h0 h1,e],by omega,by omega,h1⟩
  ·rw [if_neg h1] at h;cases h
 ·rw [if_neg h0] at h
  by_cases h1:-(n:Int)<=i
  ·rw [if_pos h1] at h
   have e:(i+n).toNat=j:=Option.some.inj h
   exact ⟨by rw [seqIndex_neg (by omega) h1,e],by omega,h1,by omega⟩
  ·rw [if_neg h1] at h;cases h
theorem mw {α:Type}{xs:List α}{i:Int}{v:α}(h:y_ xs i=some v):∃ j,seqIndex? i xs.length=some j/\xs[j]?=some v/\j<xs.length/\-(xs.length:Int)<=i/\i<xs.length:=by
 unfold y_ at h
 cases e:Jx xs.length i with
 | none=>rw [e] at h;cases h
 | some j=>
  rw [e] at h
  obtain ⟨h1,h2,h3,h4⟩:=CY e
  exact ⟨j,h1,h,h2,h3,h4⟩
def jt (b:Expr):Prop:=∀ o i,subscripted b false o i=operate [o,i] (getItem o i)
def CZ (X:Cx) (r:R2):Prop:=
 ∀ (value slice:Expr) (pins:List (Addr × Obj)) (s:Shared) (σ:St) (H:Hp) (x y:V) (v u:Value) (Q:VK),Inv X pins σ H s->RelV x v->RelV y u->r x y H Q ->
  subscripted slice false v u=operate [v,u] (getItem v u)->wpAny (model X.prog X.w) X.A (subscriptTail value slice v u) (EP X pins σ Q) X.xe s
def wm (X:Cx) (id:String) (r:V->List V->Hp->VK->Prop):Prop:=
 ∀ (pins:List (Addr × Obj)) (s:Shared) (σ:St) (H:Hp) (x:V) (xs:List V) (v:Value) (us:List Value) (Q:VK),Inv X pins σ H s->RelV x v->Vals xs us->r x xs H Q ->
  wpAny (model X.prog X.w) X.A (call (.builtin id) (v::us)) (EP X pins σ Q) X.xe s
section
variable {X:Cx}{a b:Expr}{ta tb:TE}{pos:Pos}
theorem CZ.or {r r':R2}(h:CZ X r) (h':CZ X r'):CZ X (fun x y H Q=>r x y H Q\/r' x y H Q):=by
 intro value slice pins s σ H x y v u Q I rx ry q hs
 rcases q with q | q
 ·exact h value slice pins s σ H x y v u Q I rx ry q hs
 ·exact h' value slice pins s σ H x y v u Q I rx ry q hs
theorem G5 {r:R2}(hr:CZ X r) (ha:PE X a ta) (hb:PE X b tb) (hs:jt b):PE X (.Subscript a b pos) (G1 r ta tb):=by
 intro pins s σ H Q I h
 exact Subscript_ (Jl ha hb I h fun v u s2 x y H2 I2 rx ry q=>hr a b pins s2 σ H2 x y v u Q I2 rx ry q (hs _ _))
def Po (K:PySem.W.Frag):R2:=fun x y H Q=>∃ p xs i v,x=.ref p/\y=.int i/\c9 K H p xs/\y_ xs i=some v/\Q v H
def Pp (K:PySem.W.Frag):R2:=fun x y H Q=>∃ p xs i v,x=.ref p/\y=.int i/\i9 K H p xs/\y_ xs i=some v/\Q v H
def Pq:R2:=fun x y H Q=>∃ z i c,x=.str z/\y=.int i/\z.length<=sizeLine/\y_ z.cps.toList i=some c/\Q (.str ⟨#[c]⟩) H
theorem uF:CZ X (Po X.K):=by
 intro value slice pins s σ H x y v u Q I rx ry h hs
 obtain ⟨p,xs,i,z,rfl,rfl,hq,he,q⟩:=h
 cases rx
 obtain ⟨t,rfl⟩:=ry
 obtain ⟨its,r,pl,hz⟩:=I.list hq
 obtain ⟨j,h1,h2,h3,h4,h5⟩:=mw he
 obtain ⟨w,ew,Jy⟩:=r.get h2
 have hl:=r.length
 have hn:=jG
 have fin:EP X pins σ Q w s:=⟨z,H,I,Jy,q⟩
 by_cases h0:0<=i
 ·have hj:i.toNat=j:=by
   rw [seqIndex_of h0 h5] at h1
   exact Option.some.inj h1
  exact item_listR pl.isList h0 (by omega) (by rw [hj];simpa using ew) fin hs
 ·have hj:(i+(its.toArray.size:Int)).toNat=j:=by
   rw [seqIndex_neg (by omega) h4] at h1
   rw [List.size_toArray,<- hl]
   exact Option.some.inj h1
  exact subscriptTail_builtinR (x:=w) pl.isList.typeIs slot_list_getitem.lookup
   (wpAny_getItem_list_neg (Q:=fun r s'=>r=w/\EP X pins σ Q r s') pl.isList (by omega) (by rw [List.size_toArray]<;>omega) (by omega) (by rw [hj];simpa using ew) ⟨rfl,fin⟩) hs
theorem Jz:CZ X (Pp X.K):=by
 intro value slice pins s σ H x y v u Q I rx ry h hs
 obtain ⟨p,xs,i,z,rfl,rfl,hq,he,q⟩:=h
 cases rx
 obtain ⟨t,rfl⟩:=ry
 obtain ⟨its,r,pl,hz⟩:=I.tuple hq
 obtain ⟨j,h1,h2,h3,h4,h5⟩:=mw he
 obtain ⟨w,ew,Jy⟩:=r.get h2
 have hl:=r.length
 have hn:=jG
 have fin:EP X pins σ Q w s:=⟨z,H,I,Jy,q⟩
 exact subscriptTail_builtinR (x:=w) pl.typeIs slot_tuple_getitem.lookup
  (getItem_tuple (j:=j) (Q:=fun r s'=>r=w/\EP X pins σ Q r s') pl (by omega) (by omega) (by rw [List.size_toArray,<- hl];exact h1) (by simpa using ew) ⟨rfl,fin⟩) hs
theorem JA:CZ X Pq:=by
 intro value slice pins s σ H x y v u Q I rx ry h hs
 obtain ⟨z,i,c,rfl,rfl,hz,he,q⟩:=h
 obtain ⟨t,rfl⟩:=rx
 obtain ⟨t',rfl⟩:=ry
 obtain ⟨j,h1,h2,h3,h4,h5⟩:=mw he
 have hl:z.cps.toList.length=z.length:=by simp [Str.length]
 rw [hl] at h1 h4 h5
 have hn:=jG
 exact tail_any (typeIs_str s z t) slot_str_getitem.lookup (getItem_str (c:=c) (by
  have e1:decide (i < -(2 ^ 63:Int))=false:=decide_eq_false (by omega)
  have e2:decide (i ≥ 2 ^ 63)=false:=decide_eq_false (by omega)
  rw [e1,e2,Bool.or_false]) (by rw [h1];simpa using h2) ⟨.str ⟨#[c]⟩,H,I.tok _,⟨_,rfl⟩,q⟩) hs
def rIx (K:PySem.W.Frag):R2:=fun x y H Q=>Po K x y H Q\/Pp K x y H Q\/Pq x y H Q
theorem JB:CZ X (rIx X.K):=uF.or (Jz.or JA)
theorem my (lo hi:Option Int) (n:Nat):(sliceBounds lo hi none n).1=((HT.eK n 0 lo:Nat):Int)/\(sliceBounds lo hi none n).2.1=((HT.eK n n hi:Nat):Int)/\(sliceBounds lo hi none n).2.2=1:=by
 refine ⟨?_,?_,rfl⟩
 ·cases lo with
  | none=>simp [sliceBounds,HT.eK]
  | some i=>
   simp only [sliceBounds,HT.eK,Option.getD_none,show (1:Int) > 0 by decide,if_true]
   by_cases h:i<0
   ·simp only [h,if_true]<;>omega
   ·simp only [h,if_false]<;>omega
 ·cases hi with
  | none=>simp [sliceBounds,HT.eK]
  | some i=>
   simp only [sliceBounds,HT.eK,Option.getD_none,show (1:Int) > 0 by decide,if_true]
   by_cases h:i<0
   ·simp only [h,if_true]<;>omega
   ·simp only [h,if_false]<;>omega
theorem kT (its:List Value) (lo hi:Option Int):slicePick its.toArray lo hi none=((its.drop (HT.eK its.length 0 lo)).take (HT.eK its.length its.length hi-HT.eK its.length 0 lo)).toArray:=by
 obtain ⟨h1,h2,h3⟩:=my lo hi its.toArray.size
 unfold slicePick
 rw [h1,h2,h3]
 simp only [sliceRange_one,pick_run,List.size_toArray]<;>rfl
def Pu (K:PySem.W.Frag):V->Option Int->Option Int->Hp->VK->Prop:=fun x lo hi H Q=>∃ a xs,x=.ref a/\c9 K H a xs/\∀ p,H p=none->Q (.ref p) (upd H p (.lst (wj xs lo hi)))
theorem C0:G4 X (Pu X.K):=by
 intro pins s σ H x v vl vu lo hi sl Q I rx hs pl pu h
 obtain ⟨a,xs,rfl,hx,q⟩:=h
 cases rx
 obtain ⟨its,r,ht,hz⟩:=I.list hx
 have hlen:=r.length
 refine ⟨"list", _,slot_list_getitem.lookup,ht.isList.typeIs,?_⟩
 refine wpAny_getItem_list_slice ht.isList hs pl pu .none (by simp) ?_ (by rw [List.size_toArray]<;>omega)
 rw [kT,<- hlen]
 refine ⟨.ref s.heap.objs.size,_,I.laid (t':=s.toks) (o:=.lst (wj xs lo hi)) (fun b ob q=>Heap.get?_push_of_some _ q) (Nat.le_refl _) ?_,rfl,q _ (I.bU.fresh (Nat.le_refl _))⟩
 exact ⟨Nat.le_trans (om xs lo hi) hz,_,0,(r.drop (HT.eK xs.length 0 lo)).take (HT.eK xs.length xs.length hi-HT.eK xs.length 0 lo),Heap.get?_push_size _ rfl⟩
def dj:V->Bool
 | .non=>true
 | .bl _=>true
 | .int _=>true
 | .str _=>true
 | _=>false
def za:V->V->Bool
 | .non,.non=>true
 | .bl a,.bl b=>a == b
 | .bl a,.int b=>(if a then 1 else 0) == b
 | .int a,.bl b=>a == (if b then 1 else 0)
 | .int a,.int b=>a == b
 | .str a,.str b=>a == b
 | _,_=>false
theorem rz {A:Around}{s:Shared}{y x:V}{u v:Value}(ry:RelV y u) (rx:RelV x v) (fy:dj y=true) (fx:dj x=true):SeqAt.EqAt A s u v (za y x):=by
 cases y with
 | non=>
  cases ry
  cases x with
  | non=>cases rx;exact SeqAt.EqAt.same _
  | bl b=>cases rx;exact SeqAt.EqAt.none_bool b
  | int b=>obtain ⟨t,rfl⟩:=rx;exact SeqAt.EqAt.none_int b t
  | str b=>obtain ⟨t,rfl⟩:=rx;exact SeqAt.EqAt.none_str b t
  | _=>exact absurd (show false=true from fx) Bool.false_ne_true
 | bl a=>
  cases ry
  cases x with
  | non=>cases rx;exact SeqAt.EqAt.bool_none a
  | bl b=>cases rx;exact SeqAt.EqAt.bool_bool a b
  | int b=>obtain ⟨t,rfl⟩:=rx;exact SeqAt.EqAt.bool_int a b t
  | str b=>obtain ⟨t,rfl⟩:=rx;exact SeqAt.EqAt.bool_str a b t
  | _=>exact absurd (show false=true from fx) Bool.false_ne_true
 | int a=>
  obtain ⟨t',rfl⟩:=ry
  cases x with
  | non=>cases rx;exact SeqAt.EqAt.int_none a t'
  | bl b=>cases rx;exact SeqAt.EqAt.int_bool a t' b
  | int b=>obtain ⟨t,rfl⟩:=rx;exact SeqAt.EqAt.int_int a t' b t
  | str b=>obtain ⟨t,rfl⟩:=rx;exact SeqAt.EqAt.int_str a t' b t
  | _=>exact absurd (show false=true from fx) Bool.false_ne_true
 | str a=>
  obtain ⟨t',rfl⟩:=ry
  cases x with
  | non=>cases rx;exact SeqAt.EqAt.str_none a t'
  | bl b=>cases rx;exact SeqAt.EqAt.str_bool a t' b
  | int b=>obtain ⟨t,rfl⟩:=rx;exact SeqAt.EqAt.str_int a t' b t
  | str b=>obtain ⟨t,rfl⟩:=rx;exact SeqAt.EqAt.str_str a t' b t
  | _=>exact absurd (show false=true from fx) Bool.false_ne_true
 | _=>exact absurd (show false=true from fy) Bool.false_ne_true
def rA (x:V) (u:Value):Bool:=match u with
 | .none=>za .non x
 | .bool b=>za (.bl b) x
 | .int i _=>za (.int i) x
 | .str z _=>za (.str z) x
 | _=>false
theorem zb {x y:V}{u:Value}(r:RelV y u) (f:dj y=true):rA x u=za y x:=by
 cases y with
 | non=>cases r;rfl
 | bl b=>cases r;rfl
 | int i=>obtain ⟨t,rfl⟩:=r;rfl
 | str z=>obtain ⟨t,rfl⟩:=r;rfl
 | _=>exact absurd (show false=true from f) Bool.false_ne_true
theorem gT {x:V}:∀ {xs:List V}{us:List Value},Vals xs us->xs.all dj=true->us.any (rA x)=xs.any fun y=>za y x
 | _,_,.nil,_=>rfl
 | y::xs,u::us,.cons r t,f=>by
  rw [List.all_cons,Bool.and_eq_true] at f
  rw [List.any_cons,List.any_cons,zb r f.1,gT t f.2]
theorem fU {A:Around}{s:Shared}{x:V}{v:Value}(rx:RelV x v) (fx:dj x=true):∀ {xs:List V}{us:List Value},Vals xs us->xs.all dj=true->∀ u∈us,SeqAt.EqAt A s u v (rA x u)
 | _,_,.nil,_=>fun u hu=>by cases hu
 | y::xs,u::us,.cons r t,f=>fun u' hu=>by
  rw [List.all_cons,Bool.and_eq_true] at f
  rcases List.mem_cons.mp hu with rfl | hu
  ·rw [zb r f.1];exact rz r rx f.1 fx
  ·exact fU rx fx t f.2 u' hu
def Xh (x:V) (xs:List V):Bool:=xs.any fun y=>za y x
def Wo (K:PySem.W.Frag) (neg:Bool):R2:=fun x y H Q=>∃ p xs,y=.ref p/\(c9 K H p xs\/i9 K H p xs)/\dj x=true/\xs.all dj=true/\Q (.bl (if neg then !Xh x xs else Xh x xs)) H
theorem wo:eE X (compareOp .In) (Wo X.K false):=by
 intro pins s σ H x y v u Q I rx ry h
 obtain ⟨p,xs,rfl,hq,fx,fs,q⟩:=h
 cases ry
 rcases hq with hq | hq
 ·obtain ⟨its,r,pl,hz⟩:=I.list hq
  refine SeqAt.in_listAt (rA x) pl.isList (fun w hw=>fU rx fx r fs w (by simpa using hw)) ⟨.bl _,H,I,rfl,?_⟩
  rw [show its.toArray.any (rA x)=its.any (rA x) by simp,gT r fs]
  exact q
 ·obtain ⟨its,r,pl,hz⟩:=I.tuple hq
  refine SeqAt.in_tupleAt (rA x) pl (fun w hw=>fU rx fx r fs w (by simpa using hw)) ⟨.bl _,H,I,rfl,?_⟩
  rw [show its.toArray.any (rA x)=its.any (rA x) by simp,gT r fs]
  exact q
theorem mz:eE X (compareOp .NotIn) (Wo X.K true):=by
 intro pins s σ H x y v u Q I rx ry h
 obtain ⟨p,xs,rfl,hq,fx,fs,q⟩:=h
 cases ry
 rcases hq with hq | hq
 ·obtain ⟨its,r,pl,hz⟩:=I.list hq
  refine SeqAt.notIn_listAt (rA x) pl.isList (fun w hw=>fU rx fx r fs w (by simpa using hw)) ⟨.bl _,H,I,rfl,?_⟩
  rw [show its.toArray.any (rA x)=its.any (rA x) by simp,gT r fs]
  exact q
 ·obtain ⟨its,r,pl,hz⟩:=I.tuple hq
  refine SeqAt.notIn_tupleAt (rA x) pl (fun w hw=>fU rx fx r fs w (by simpa using hw)) ⟨.bl _,H,I,rfl,?_⟩
  rw [show its.toArray.any (rA x)=its.any (rA x) by simp,gT r fs]
  exact q
theorem gU:eu X (.type "list") (fun xs H Q=>∃ p ys,xs=[.ref p]/\(c9 X.K H p ys\/i9 X.K H p ys)/\∀ l,H l=none->Q (.ref l) (upd H l (.lst ys))):=by
 intro pins s σ H xs us Q I r h
 obtain ⟨p,ys,rfl,hq,q⟩:=h
 obtain ⟨u,rfl,rx⟩:=vals1 r
 cases rx
 have fin:∀ (its:List Value),Vals ys its->ys.length<=sizeLine->∀ (h':Heap) (c':Nat),(∀ b o',s.heap.get? b=some o'->h'.get? b=some o') ->
   h'.get? s.heap.objs.size=some { cls:=.type "list", dict:=none,data:=.seq its.toArray c',slots:=#[] }->EP X pins σ Q (.ref s.heap.objs.size) { s with heap:=h' }:=fun its r' hz h' c' kp e=>
  ⟨.ref s.heap.objs.size,_,I.laid (t':=s.toks) kp (Nat.le_refl _) (show bV X.prog X.w _ h' _ (.lst ys) from ⟨hz,its,c',r',e⟩),rfl,q _ (I.bU.fresh (Nat.le_refl _))⟩
 rcases hq with hq | hq
 ·obtain ⟨its,r',pl,hz⟩:=I.list hq
  have hlen:=r'.length
  obtain ⟨o,ho,hc,n,hd⟩:=pl.isList
  exact call_list_seq p (.inl rfl) ho hc hd (fun h' c' kp e=>fin its r' hz h' c' kp e) (by simp only [List.size_toArray]<;>omega)
 ·obtain ⟨its,r',pl,hz⟩:=I.tuple hq
  have hlen:=r'.length
  obtain ⟨o,ho,hc,n,hd⟩:=pl
  exact call_list_seq p (.inr rfl) ho hc hd (fun h' c' kp e=>fin its r' hz h' c' kp e) (by simp only [List.size_toArray]<;>omega)
def tyV (K:PySem.W.Frag) (T:String) (x:V) (H:Hp):Prop:=match x with
 | .str _=>T = "str"
 | .int _=>T = "int"
 | .ref p=>(T = "list" /\ ∃ xs,c9 K H p xs)\/(T = "tuple" /\ ∃ o,K.lookup p=some o/\o.cls=.type "tuple" /\ o.dict=none) \/
   (T = "dict" /\ ((∃ ba,H p=some (.dK ba))\/∃ ba,H p=some (.dT ba)))\/(T = "set" /\ ∃ S n,H p=some (.set S n))
 | _=>False
theorem JC {pins:List (Addr × Obj)}{σ:St}{H:Hp}{s:Shared}{T:String}{x:V}{v:Value}(I:Inv X pins σ H s) (r:RelV x v) (ty:tyV X.K T x H) :
  s.TypeIs v T/\∀ a,v=.ref a->∃ ob,s.heap.get? a=some ob/\ob.dict=none:=by
 cases x with
 | str z=>
  obtain ⟨t,rfl⟩:=r
  cases (show T = "str" from ty)
  exact ⟨typeIs_str s z t,fun _ e=>nomatch e⟩
 | int i=>
  obtain ⟨t,rfl⟩:=r
  cases (show T = "int" from ty)
  exact ⟨typeIs_int s i t,fun _ e=>nomatch e⟩
 | ref p=>
  cases r
  rcases ty with ⟨rfl,xs,hq⟩ | ⟨rfl,o,hk,hc,hd⟩ | ⟨rfl,hk⟩ | ⟨rfl,S,n,hk⟩
  ·obtain ⟨its,_,pl,_⟩:=I.list hq
   refine ⟨pl.isList.typeIs,fun a e=>?_⟩
   cases e
   obtain ⟨o,n,e,c,hd,_⟩:=pl
   exact ⟨o,e,hd⟩
  ·refine ⟨⟨o,I.gO p o hk,hc⟩,fun a e=>?_⟩
   cases e
   exact ⟨o,I.gO _ o hk,hd⟩
  ·have z:∃ o,s.heap.get? p=some o/\o.ExactDict:=by
    rcases hk with ⟨ba,hk⟩ | ⟨ba,hk⟩
    ·obtain ⟨_,_,_,_,o,_,_,e,ex,_⟩:=I.bU p _ hk
     exact ⟨o,e,ex⟩
    ·obtain ⟨_,_,_,_,o,_,_,e,ex,_⟩:=I.bU p _ hk
     exact ⟨o,e,ex⟩
   obtain ⟨o,e,ex⟩:=z
   refine ⟨⟨o,e,ex.1⟩,fun a e2=>?_⟩
   cases e2
   exact ⟨o,e,ex.2.1⟩
  ·obtain ⟨o,_,_,_,e,ex,_⟩:=I.bU p _ hk
   refine ⟨⟨o,e,ex.1⟩,fun a e2=>?_⟩
   cases e2
   exact ⟨o,e,ex.2.1⟩
 | _=>exact False.elim ty
def tBM (K:PySem.W.Frag) (T:String) (r:V->List V->Hp->VK->Prop) (to:TE) (t:TA):TE:=fun σ H Q=>to σ H fun x H1=>tyV K T x H1/\t σ H1 fun xs H2=>r x xs H2 Q
variable {o e:Expr}{es:List Expr}{to:TE}{t:TA}{name:Str}{apos cW:Pos}{T id:String}{r:V->List V->Hp->VK->Prop}
theorem G6 (pa:PlainAttrs T) (slot:Slot T name id) (Xi:typeOf (.builtin id)=pure (.type "method_descriptor")) (hm:wm X id r) (ho:PE X o to) (ha:PA X (e::es) t)
  (Pw:attributeBase o name X.env (eval o X.env)=eval o X.env:=by rfl)
  (Xj:((backTo cW (starEach (e::es) X.env)).all (fun x=>!x.1)&&(backToKw cW (keywordEach [] X.env)).all (fun x=>x.1.isSome)
   && decide ((e::es).length+([]:List Keyword).length+(if ([]:List Keyword).isEmpty then 0 else 1)<30))=true:=by rfl)
  (oq:(apos.endLine == cW.line)=true:=by rfl) (hs:starEach (e::es) X.env=(false,eval e X.env)::starEach es X.env:=by rfl) (JD:(backTo cW (starEach es X.env)).any (·.1)=false:=by rfl) :
  PE X (.Call (.Attribute o name apos) (e::es) [] cW) (tBM X.K T r to t):=by
 intro pins s σ H Q I h
 refine wpAny_Call_method_late Pw Xj oq rfl (bY (ho pins s σ H _ I h) fun v s1 ⟨x,H1,I1,r1,ty,q1⟩=>?_)
 obtain ⟨h1,h2⟩:=JC I1 r1 ty
 refine ⟨T,id,pa,slot,Xi,h1,h2,?_⟩
 have hA:=ha cW pins s1 σ H1 _ I1 q1
 rw [hs] at hA ⊢
 refine Calls.callWith_builtin (by show (false || (backTo cW (starEach es X.env)).any (·.1))=false;rw [JD]<;>rfl) (Calls.evalArgs_plain ?_)
 exact bY hA fun us s2 ⟨vs,H2,I2,r2,q2⟩=>hm pins s2 σ H2 x vs v us Q I2 r1 r2 q2
end
def MtM (X:Cx) (id:String) (r:V->List V->Hp->VK->Prop):Prop:=
 ∀ (pins:List (Addr × Obj)) (s:Shared) (σ:St) (H:Hp) (x:V) (xs:List V) (v:Value) (us:List Value) (Q:VK),Inv X pins σ H s->RelV x v->Vals xs us->r x xs H Q ->
  wpAny (model X.prog X.w) X.A (call (.builtin id) (v::us)) (EP X pins σ Q) X.xe s
theorem Vals.one:∀ {x:V}{us:List Value},Vals [x] us->∃ u,us=[u]/\RelV x u
 | _,_,.cons r .nil=>⟨_,rfl,r⟩
theorem Vals.two:∀ {x y:V}{us:List Value},Vals [x,y] us->∃ u v,us=[u,v]/\RelV x u/\RelV y v
 | _,_,_,.cons r (.cons q .nil)=>⟨_,_,rfl,r,q⟩
theorem Vals.rep {xs:List V}{us:List Value}(h:Vals xs us):∀ k:Nat,Vals (List.replicate k xs).flatten (List.replicate k us).flatten
 | 0=>.nil
 | k+1=>by
  rw [List.replicate_succ,List.replicate_succ,List.flatten_cons,List.flatten_cons]
  exact Vals.append h (Vals.rep h k)
theorem foldl_rep (its:List Value):∀ (k:Nat) (acc:List Value),
  List.foldl (fun x1 x2=>x1++x2) acc.toArray (List.replicate k its.toArray)=(acc++(List.replicate k its).flatten).toArray
 | 0,acc=>by simp
 | k+1,acc=>by
  have e:acc.toArray++its.toArray=(acc++its).toArray:=by simp
  have e2:(acc++its)++(List.replicate k its).flatten=acc++(List.replicate (k+1) its).flatten:=by
   rw [List.replicate_succ,List.flatten_cons,List.append_assoc]
  rw [<- e2,<- foldl_rep its k (acc++its),<- e,List.replicate_succ,List.foldl_cons]
section
variable {X:Cx}{pins:List (Addr × Obj)}{σ:St}{H:Hp}{s:Shared}{l b:Addr}{xs ys zs:List V}
theorem Inv.Xk {its its':List Value}{n:Nat}{f:Array Value->Array Value}{t':Nat}(I:Inv X pins σ H s) (hH:H l=some (.lst xs))
  (e:s.heap.get? l=some { cls:=.type "list", data:=.seq its.toArray n }) (hf:f its.toArray=its'.toArray) (hv:Vals ys its') (hz:ys.length<=sizeLine) :
  Inv X pins σ (upd H l (.lst ys)) { s with heap:=s.heap.update l (Obj.mapSeq f),toks:=t' }:=by
 have q:=PySem.IsL.update e f
 rw [hf] at q
 refine I.write (x:=l) (e:=l) (by rw [hH];exact trivial) (.inl rfl) (fun b' u hb hu=>(Heap.get?_update_other s.heap (Obj.mapSeq f) (Ne.symm hb)).trans hu) ⟨_,q⟩ ?_
 exact ⟨hz,its',_,hv,q⟩
theorem Inv.wt {its:List Value}{t':Nat}(I:Inv X pins σ H s) (hv:Vals ys its) (hz:ys.length<=sizeLine) :
  Inv X pins σ (upd H s.heap.objs.size (.lst ys)) { s with heap:=s.heap.push { cls:=.type "list", data:=.seq its.toArray },toks:=t' }:=
 I.laid (fun _ _ q=>Heap.get?_push_of_some _ q) (Nat.le_refl _) ⟨hz,its,0,hv,Heap.get?_push_size _ rfl⟩
theorem Inv.fresh (I:Inv X pins σ H s):H s.heap.objs.size=none:=I.bU.fresh (Nat.le_refl _)
theorem Inv.C1 (I:Inv X pins σ H s) (hH:H l=some (.lst xs)):xs.length<=sizeLine/\∃ (its:List Value) (n:Nat),Vals xs its/\xs.length=its.length/\s.heap.get? l=some { cls:=.type "list", data:=.seq its.toArray n }:=by
 obtain ⟨z,its,n,r,e⟩:=I.bU l _ hH
 exact ⟨z,its,n,r,r.length,e⟩
theorem zc {n:Nat}(h:n<=sizeLine):Builtin.List.listTooLong n=false:=by
 unfold Builtin.List.listTooLong
 exact decide_eq_false (by omega)
end
section
variable {X:Cx}
def C3:V->List V->Hp->VK->Prop:=fun x vs H Q=>∃ l xs y,x=.ref l/\vs=[y]/\H l=some (.lst xs)/\xs.length<sizeLine/\Q .non (upd H l (.lst (xs++[y])))
theorem lz:MtM X "list.append" C3:=by
 intro pins s σ H x vs v us Q I rx rv h
 obtain ⟨l,xs,y,rfl,rfl,hH,hz,q⟩:=h
 cases rx
 obtain ⟨u,rfl,ru⟩:=rv.one
 obtain ⟨z,its,n,r,hl,e⟩:=I.C1 hH
 refine call_meets F.slot_list_append ⟨_,e,rfl⟩ F.entry_list_append (F.args_list_append_2 _ _) (PySem.list_append l its.toArray n u (by rw [List.size_toArray];omega)) ⟨e,?_⟩
 refine ⟨.non,_,I.Xk (its':=its++[u]) hH e (by simp) (r.append (.cons ru .nil)) ?_,rfl,q⟩
 rw [List.length_append,List.length_singleton]
 omega
def Px:R2:=fun x y H Q=>∃ l b xs zs,x=.ref l/\y=.ref b/\H l=some (.lst xs)/\H b=some (.lst zs)/\xs.length+zs.length<=sizeLine/\∀ p,H p=none->Q (.ref p) (upd H p (.lst (xs++zs)))
theorem JE:eE X (binaryOp .Add) Px:=by
 intro pins s σ H x y v u Q I rx ry h
 obtain ⟨l,b,xs,zs,rfl,rfl,hH,hB,hz,q⟩:=h
 cases rx
 cases ry
 obtain ⟨z,its,n,r,hl,e⟩:=I.C1 hH
 obtain ⟨z2,Py,n2,r2,Wq,e2⟩:=I.C1 hB
 refine PySem.P.add_list e e2 ?_ (by rw [List.size_toArray,List.size_toArray];omega)
 have ea:its.toArray++Py.toArray=(its++Py).toArray:=by simp
 rw [ea]
 exact ⟨.ref _,_,I.wt (t':=s.toks) (r.append r2) (by rw [List.length_append];omega),rfl,q _ I.fresh⟩
def Pz:R2:=fun x y H Q=>∃ l k xs,x=.ref l/\y=.int k/\H l=some (.lst xs)/\-(2 ^ 63)<=k/\k<2 ^ 63/\xs.length*k.toNat<=sizeLine /\
 ∀ p,H p=none->Q (.ref p) (upd H p (.lst (List.replicate k.toNat xs).flatten))
theorem len_rep {α:Type}(xs:List α) (k:Nat):(List.replicate k xs).flatten.length=k*xs.length:=by
 induction k with
 | zero=>simp
 | succ k ih=>rw [List.replicate_succ,List.flatten_cons,List.length_append,ih,Nat.succ_mul,Nat.add_comm]
theorem JF:eE X (binaryOp .Mult) Pz:=by
 intro pins s σ H x y v u Q I rx ry h
 obtain ⟨l,k,xs,rfl,rfl,hH,h1,h2,hz,q⟩:=h
 cases rx
 obtain ⟨t,rfl⟩:=ry
 obtain ⟨z,its,n,r,hl,e⟩:=I.C1 hH
 have hlen:its.toArray.size*k.toNat<=sizeLine:=by rw [List.size_toArray,<- hl];exact hz
 have Xl:¬ its.toArray.size*k.toNat > (2 ^ 63-1)/8:=by
  have:(sizeLine:Nat)<=(2 ^ 63-1)/8:=by decide
  omega
 have Xm:¬ (!Builtin.List.listFitsIndex k)=true:=by
  rw [fitsIndex_both h1 h2]
  exact Bool.false_ne_true
 have PB:¬ Builtin.List.listTooLong (its.toArray.size*k.toNat)=true:=by
  rw [zc hlen]
  exact Bool.false_ne_true
 have Xn:List.foldl (fun x1 x2=>x1++x2) #[] (List.replicate (if its.toArray.isEmpty=true then 0 else k.toNat) its.toArray)=(List.replicate k.toNat its).flatten.toArray:=by
  have f0:∀ m:Nat,List.foldl (fun x1 x2=>x1++x2) #[] (List.replicate m its.toArray)=(List.replicate m its).flatten.toArray:=fun m=>by
   have:=foldl_rep its m []
   rw [List.nil_append] at this
   exact this
  rw [f0]
  cases its with
  | nil=>simp
  | cons a r'=>rw [if_neg (by simp)]
 refine wpAny_binaryOp_repeat_ref (T := "list") (U := "int") (by decide) ⟨_,e,rfl⟩ (fun s'=>typeIs_int s' k t) noFill_list_mul F.fills_int_mul F.slot_int_rmul repeat_list F.slot_int_index.lookup
  (call_meets F.slot_int_rmul (typeIs_int s k t) F.entry_int_rmul (F.args_int_rmul_2 _ _) (int___rmul___int_list k t l its.toArray n)
   ⟨e,rfl,⟨_,e,rfl⟩,call_meets F.slot_list_mul ⟨_,e,rfl⟩ F.entry_list_mul (F.args_list_mul_2 _ _) (AutoListH.list___mul___list_int_3 l its.toArray n k t Xm Xl PB) ⟨e,?_⟩⟩)
 rw [Xn]
 exact ⟨.ref _,_,I.wt (t':=s.toks) (r.rep k.toNat) (by rw [len_rep,Nat.mul_comm];exact hz),rfl,q _ I.fresh⟩
end
section
variable {prog:Program}{w:World}{A:Around}{E:Value->Shared->Prop}{s:Shared}
set_option maxRecDepth 100000 in
end
section
variable {X:Cx}
end
end L2
namespace Att
open PySem PySem.W PySem.Calls PyProof.Rows
theorem jk {P:Params}{h:Heap}:∀ (ns:List Int) (vs:List Value),WellAll P h vs (ns.map WData.int)->IntsAre vs ns:=by
 intro ns
 induction ns with
 | nil=>
  intro vs w
  rw [List.map_nil] at w
  cases w
  exact .nil
 | cons n ns ih=>
  intro vs w
  rw [List.map_cons] at w
  cases w with
  | cons a b=>
   cases a
   exact .cons _ _ (ih _ b)
theorem wu {l:OpenLaw}{n:Nat}(hn:l.most=some n) {P:Params}{h:Heap}{args:List WData}{vals:List Value}
  (C4:l.row.toRowW.claim.pre args=true) (Xo:WellAll P h vals args) :
  ∃ a vs ns,vals=[Value.ref a]/\args=[WData.list (ns.map WData.int)]/\h.get? a=some { cls:=.type "list", data:=.seq vs.toArray }/\IntsAre vs ns/\ns.length<=n:=by
 have Xp:WShape.hasAll [] args [.list .int]=true:=(pre_splitW C4).1
 have hc:l.pre.holds [] { args:=args }=true:=(pre_splitW C4).2
 obtain ⟨d,r,rfl,h1,h2⟩:=hasAllW_cons Xp
 obtain rfl:=hasAllW_nil h2
 obtain ⟨xs,rfl,h3⟩:=hasW_list h1
 obtain ⟨ns,rfl⟩:=items_int h3
 have hlen:ns.length<=n:=by
  unfold OpenLaw.pre at hc
  have h4:(WTm.not (.lt (.lit (.int (n:Int))) (.len (.arg 0)))).holds [] { args:=[.list (ns.map .int)] }=true:=by
   have h4:=(holds_andW hc).1
   rw [hn] at h4
   exact h4
  have h5:=condW_of h4 (w_not (w_lt w_lit (w_len_list (w_arg rfl))))
  rw [List.length_map] at h5
  refine Nat.le_of_not_lt fun q=>?_
  have q':(n:Int)<((ns.length:Nat):Int):=by omega
  first
   | (rw [decide_eq_true q'] at h5;exact absurd h5 (by decide))
   | (simp at h5;omega)
 cases Xo with
 | cons w1 w2=>
  cases w2
  cases w1 with
  | list ho hall=>exact ⟨_,_,ns,rfl,rfl,ho,jk ns _ hall,hlen⟩
theorem wx (l:OpenLaw) (args:List WData):l.row.toRowW.claim.post args (.bool true) args=true:=
 postW_of (r:=l.row.toRowW) (X:=(true == true))
  (show WShape.has [] (.bool true) .bool=true by first | rfl | decide | simp [WShape.has,WShape.arms,WShape.armsAll])
  (show (WTm.eq .res (.lit (.bool true))).value [] { args:=args,res:=some (.bool true),after:=args }=some (.bool (true == true)) from w_eq_bool (w_res rfl) w_lit) rfl
theorem ou {l:OpenLaw}{n:Nat}{q:Program}{loose:List Str}{XP:(Str->Option Value)->Heap->Prop}{YP:World->Heap->Prop}{d:DefRec}
  (hn:l.most=some n) (PD:d.params.defaults=[])
  (call:∀ (w:World) (s₀ s₁:Shared) (mg mb:Str->Option Value) (fa:Addr) (o:Obj) (pm cd doc:Value) (a:Addr) (vs:List Value) (ns:List Int),
   Ground q loose [] XP w s₀ mg mb s₁.heap->YP w s₁.heap ->
   s₁.heap.get? fa=some o->o.data=.func (docDef d.name d.params d.body d.scope pm cd doc)->s₁.heap.CodeRec cd d.name->mg d.name=some (.ref fa) ->
   s₁.heap.get? a=some { cls:=.type "list", data:=.seq vs.toArray }->IntsAre vs ns->ns.length<=n->s₁.gens=#[] ->
   codeAny (model l.prog w) callerA (.call (.ref fa) ⟨[.ref a],[]⟩) (fun r s'=>r=.ok (.ret (.bool true))/\OldK s₁.heap s'.heap/\s'.os=s₁.os/\AllBare s'.gens) s₁) :
  WalkO q loose XP YP l.row.toRowW d [] (fun f vs=>PySem.call f vs):=by
 intro w s₀ s₁ mg mb G Y fa o pm cd doc dV kV ho hd jj hD PF hg args vals as C4 aae hrd Xo hlo
 obtain rfl:dV=.none:=Dflts.none hD PD
 obtain rfl:kV=.none:=Dflts.noKw hD
 obtain ⟨a,vs,ns,rfl,rfl,JG,hints,hlen⟩:=wu hn C4 Xo
 refine enter_call (codeAny_mono (call w s₀ s₁ mg mb fa o pm cd doc a vs ns G Y ho (fd_plain hd) jj PF JG hints hlen hg) fun r s' hq=>?_)
 obtain ⟨rfl,h2,h3,h4⟩:=hq
 exact ⟨.inl ⟨.bool true,.bool true,[],rfl,fun _=>rfl,.bool true,wx l _,fun _=>⟨List.Pairwise.nil,fun _ hm=>(nomatch hm)⟩⟩,h2,h3,h4⟩
section
variable {prog:Program}{w:World}{A:Around}{E:Value->Shared->Prop}{s:Shared}{K:Frag}
end
end Att
namespace L2
open PySem PySem.Spec PyProof.Rows
theorem lA:∀ {vs:List Value}{ns:List Int},IntsAre vs ns->Vals (ns.map V.int) vs
 | _,_,.nil=>.nil
 | _,_,.cons n t h=>.cons ⟨t,rfl⟩ (lA h)
def C5 (H:Hp):Prop:=∀ b,H b=none\/∃ o xs,H b=some (.iE o (.lst xs))
theorem zd {P:Program}{w:World}{K:PySem.W.Frag}{mg mb:Str->Option Value}{CX:yy}{k:Nat}{fa a:Addr}{fd:FuncData}{x:Str}{sp:Sp}{s₁:Shared}{vs:List Value}{ns:List Int}
  (KX:K.In s₁.heap) (uG:s₁.heap.Ns mainGlobals mg) (hb:s₁.heap.Ns builtinsNs mb) (hbb:∀ x:Str,x ≠ "__name__" -> mb x=bootBuiltins x) (Xq:s₁.heap.NoLimit) (hg:s₁.gens=#[])
  (ha:s₁.heap.get? a=some { cls:=.type "list", data:=.seq vs.toArray }) (hi:IntsAre vs ns) (hl:ns.length<=sizeLine) (hr:bP k callerA)
  (F:∀ base:Heap,K.In base->base.Ns mainGlobals mg->cV P w K mg base CX k fa fd [x] sp) (PH:∀ (s:Shared) (u:Value),BindsTo s fd ⟨[u],[]⟩ [(x,u)])
  (G3:∀ H:Hp,C5 H->c9 K H a (ns.map V.int)->sp [.ref a] H (fun v _=>v=.bl true) fun _ _ _=>False)
  (Xr:∀ H e s',CX [] H s₁ (fun _ _ _=>False) e s'->False) :
  codeAny (model P w) callerA (.call (.ref fa) ⟨[.ref a],[]⟩) (fun r s'=>r=.ok (.ret (.bool true))/\OldK s₁.heap s'.heap/\s'.os=s₁.os/\AllBare s'.gens) s₁:=by
 have rv:=lA hi
 have Xu:=hi.length
 have core:∀ H:Hp,C5 H->c9 K H a (ns.map V.int)->gJ P w H s₁.heap->(∀ b,H b≠none->b=a)->(H a≠none->K.lookup a=none) ->
   codeAny (model P w) callerA (.call (.ref fa) ⟨[.ref a],[]⟩) (fun r s'=>r=.ok (.ret (.bool true))/\OldK s₁.heap s'.heap/\s'.os=s₁.os/\AllBare s'.gens) s₁:=by
  intro H hO hS bU hA hK
  have uH:∀ {b:Addr} {o:Obj},s₁.heap.get? b=some o->H b=none->(lY s₁.heap H).get? b=some o:=fun e n=>yF e n
  have Ph:∀ {b:Addr} {o:Obj} {es:Array DictEntry} {ep:Nat},s₁.heap.get? b=some o->o.data=.dict es ep->H b=none:=fun {b o es ep} e d=>by
   cases q:H b with
   | none=>rfl
   | some u=>
    have e':b=a:=hA b (by rw [q];simp)
    subst e'
    rw [ha] at e;cases e
    have d':Data.seq vs.toArray _=Data.dict es ep:=d
    cases d'
  have Wr:∀ {b:Addr} {m:Str->Option Value},s₁.heap.Ns b m->(lY s₁.heap H).Ns b m:=fun {b m} ⟨o,es,ep,e,d,r⟩=>⟨o,es,ep,uH e (Ph e d),d,r⟩
  have hKb:K.In (lY s₁.heap H):=fun b o e=>uH (KX b o e) (by
   cases q:H b with
   | none=>rfl
   | some u=>
    have e':b=a:=hA b (by rw [q];simp)
    subst e'
    rw [hK (by rw [q];simp)] at e;cases e)
  have hM:Mod K mg (lY s₁.heap H):=⟨hKb,Wr uG,⟨mb,Wr hb,hbb⟩,let ⟨mc,h1,h2⟩:=Xq;⟨mc,Wr h1,h2⟩⟩
  have e0:rq P w K mg (lY s₁.heap H) callerA [] s₁ H:=⟨rfl,hM,fun b o e=>Cy e,Nat.le_of_eq (vZ _ _),trivial,fun b hb=>absurd (show b∈([]:List Addr) from hb) (by simp),bU,.of_eq hg⟩
  refine codeAny_mono ((F _ hKb (Wr uG)).run callerA [] s₁ H ⟨[.ref a],[]⟩ [.ref a] [.ref a] _ _ hr e0 (PH s₁ (.ref a)) (.cons rfl .nil) (G3 H hO hS)) fun r s' h=>?_
  cases r with
  | error e=>exact (Xr H e s' h).elim
  | ok fl=>
   cases fl with
   | next=>exact False.elim h
   | brk=>exact False.elim h
   | cont=>exact False.elim h
   | ret u=>
    obtain ⟨v,H',os,bare,un,Xv,r',q⟩:=h
    have q':v=.bl true:=q
    subst q'
    obtain rfl:u=Value.bool true:=r'
    refine ⟨rfl,OldK.of_keep fun b o e=>?_,os,bare⟩
    cases q:H b with
    | none=>exact un.keep b o e q (by intro z;exact absurd (show b∈([]:List Addr) from z) (by simp)) (by simp)
    | some u=>
     rcases hO b with z | ⟨ob,xs,z⟩
     ·rw [q] at z;cases z
     ·have z2:=un.lX b ob _ z
      obtain ⟨e1,_⟩:=bU b _ z
      obtain ⟨e2,_⟩:=Xv b _ z2
      rw [e] at e1;cases e1
      exact e2
 cases hk:K.lookup a with
 | some o=>
  have e:=KX a o hk
  rw [ha] at e
  cases e
  refine core (fun _=>none) (fun _=>.inl rfl) (.inr ⟨_,vs.toArray,_,hk,rfl,rfl,rfl,by rw [List.size_toArray,Xu];exact hl,by simpa using rv⟩) (fun b u z=>by have z':(none:Option HO)=some u:=z;cases z') (fun b z=>absurd rfl z) fun z=>absurd rfl z
 | none=>
  refine core (fun b=>if b=a then some (.iE { cls:=.type "list", data:=.seq vs.toArray } (.lst (ns.map V.int))) else none) (fun b=>?_) (.inl (.inr ⟨{ cls:=.type "list", data:=.seq vs.toArray },if_pos rfl⟩)) (fun b u z=>?_) (fun b z=>?_) fun _=>hk
  ·by_cases hb:b=a
   ·exact .inr ⟨_,_,if_pos hb⟩
   ·exact .inl (if_neg hb)
  ·by_cases hb:b=a
   ·have z':=(if_pos hb).symm.trans z
    cases z'
    subst hb
    exact ⟨ha,by rw [List.length_map];exact hl,vs,_,rv,ha⟩
   ·have z':=(if_neg hb).symm.trans z
    cases z'
  ·by_cases hb:b=a
   ·exact hb
   ·exact absurd (if_neg hb) z
theorem C6 {l:PySem.W.OpenLaw}{n k:Nat}{q:Program}{loose:List Str}{XP:(Str->Option Value)->Heap->Prop}{YP:World->Heap->Prop}{d:DefRec}{K:Params->PySem.W.Frag}{CX:World->yy}{sp:World->Sp}{x:Str}
  (hn:l.most=some n) (Of:n<=sizeLine) (PD:d.params.defaults=[]) (hr:bP k callerA)
  (hY:∀ (w:World) (h:Heap),YP w h->(K w.params).In h)
  (F:∀ (w:World) (mg:Str->Option Value) (fa:Addr) (h:Heap),(K w.params).In h->h.Ns mainGlobals mg->mg d.name=some (.ref fa) ->
   ∃ fd:FuncData,(∀ (s:Shared) (u:Value),BindsTo s fd ⟨[u],[]⟩ [(x,u)]) /\
    ∀ base:Heap,(K w.params).In base->base.Ns mainGlobals mg->cV l.prog w (K w.params) mg base (CX w) k fa fd [x] (sp w))
  (G3:∀ (w:World) (H:Hp) (a:Addr) (ns:List Int),ns.length<=n->C5 H->c9 (K w.params) H a (ns.map V.int)->sp w [.ref a] H (fun v _=>v=.bl true) fun _ _ _=>False)
  (Xr:∀ (w:World) (H:Hp) (s:Shared) (e:Value) (s':Shared),CX w [] H s (fun _ _ _=>False) e s'->False) :
  PySem.W.WalkO q loose XP YP l.row.toRowW d [] (fun f vs=>PySem.call f vs):=by
 refine Att.ou hn PD fun w s₀ s₁ mg mb fa o pm cd doc a vs ns G Y ho hd jj PF JG hints hlen hg=>?_
 have KX:=hY w _ Y
 obtain ⟨fd,hb,hF⟩:=F w mg fa _ KX G.T.g PF
 exact zd KX G.T.g G.T.b G.T.builtins G.T.nolimit hg JG hints (Nat.le_trans hlen Of) hr hF hb (fun H hO hS=>G3 w H a ns hlen hO hS) fun H e s'=>Xr w H s₁ e s'
def inClass (s:Stmt) (j:Nat):Stmt:=match s with
 | .ClassDef _ _ _ body _ _ _ _ _ _ _=>body.getD j (.Pass ⟨0,0,0,0⟩)
 | _=>.Pass ⟨0,0,0,0⟩
def gW (s:Stmt):Arguments:=match s with
 | .FunctionDef _ a _ _ _ _ _ _ _ _=>a
 | _=>{ posonlyargs:=[],args:=[],vararg:=none,kwonlyargs:=[],kw_defaults:=[],kwarg:=none,defaults:=[] }
def b_ (s:Stmt):List Stmt:=match s with
 | .FunctionDef _ _ b _ _ _ _ _ _ _=>b
 | _=>[]
def aJ (s:Stmt):Scope:=match s with
 | .FunctionDef _ _ _ _ _ _ sc _ _ _=>sc
 | _=>{ kind:=.function,names:=[],isGenerator:=false,isCoroutine:=false }
abbrev jl:yy:=fun _ _ _ _ _ _=>False
abbrev E0:XK:=fun _ _ _=>False
theorem jK {X:Cx}:Passes jl X E0:=fun _ _ _ _ _ _ _ h=>h.elim
structure C7 (K:PySem.W.Frag) (x qual:Str) (st:Stmt) (f:Addr) (fd:FuncData):Prop where
 ex:∃ (oc:Value) (od:Option Addr) (kV doc pm:Value) (an:Option Addr) (gn ct:Value) (wg:Array (Option Value)),
  fd=PySem.W.fnOf x qual (gW st) (b_ st) (aJ st) .none kV doc pm an gn ct/\K.lookup f=some ⟨oc,od,.func fd,wg⟩/\PySem.W.codeIn K gn qual=true
 kp:PySem.W.keepIn K (.ref f)=true
section
variable {P:Program}{w:World}{K:PySem.W.Frag}{mg:Str->Option Value}{base:Heap}
theorem C7.ok {x qual:Str}{st:Stmt}{f:Addr}{fd:FuncData}{N ps:List Str}{k:Nat}{sp:Sp}(F:C7 K x qual st f fd) (S:e_ N ps (aJ st)) (len:∀ vs H Q E,sp vs H Q E->vs.length=ps.length)
  (yZ:∀ (gn:Value) (A:Around) (outer:List Env) (s:Shared) (H:Hp) (vs:List V) (Q:VK) (E:XK),bP k (A.deeper (envOfC qual (aJ st) s.heap.objs.size f gn))->sp vs H Q E ->
   ∃ t,gP (kR jl P w K mg base N qual (aJ st) f gn A outer s H E).GY (b_ st) t/\t { nx:=fun _ H'=>Q .non H',rt:=Q } (start N vs) H):cV P w K mg base jl (k+1) f fd ps sp:=by
 obtain ⟨oc,od,kV,doc,pm,an,gn,ct,wg,rfl,lk,jj⟩:=F.ex
 refine Pj lk jj S len fun A outer s H vs Q E hr G3=>?_
 obtain ⟨t,h,q⟩:=yZ gn A outer s H vs Q E hr G3
 exact ⟨t,h.GY,q⟩
theorem C7.binds {x qual:Str}{st:Stmt}{f:Addr}{fd:FuncData}{ps:List Str}(F:C7 K x qual st f fd)
  (h:∀ (kV doc pm:Value) (an:Option Addr) (gn ct:Value) (us:List Value),us.length=ps.length->bindArgs (PySem.W.fnOf x qual (gW st) (b_ st) (aJ st) .none kV doc pm an gn ct) ⟨us,[]⟩=pure (ps.zip us)):Binds K fd ps []:=by
 obtain ⟨oc,od,kV,doc,pm,an,gn,ct,wg,rfl,lk,jj⟩:=F.ex
 exact .all (h kV doc pm an gn ct)
end
section
variable {X:Cx}
end
theorem ow {A B:Prop}(h:B):if false=true then A else B:=by
 rw [if_neg Bool.false_ne_true]
 exact h
theorem oz {A B:Prop}(h:A):if true=true then A else B:=by
 rw [if_pos rfl]
 exact h
def aZ (H H':Hp):Prop:=∀ b o,H b=some o->H' b=some o
theorem aZ.refl (H:Hp):aZ H H:=fun _ _ h=>h
theorem aZ.trans {H H1 H2:Hp}(a:aZ H H1) (b:aZ H1 H2):aZ H H2:=fun c o h=>b c o (a c o h)
theorem aZ.free {H H':Hp}(e:aZ H H') {l:Addr}(h:H' l=Option.none):H l=Option.none:=by
 cases q:H l with
 | none=>rfl
 | some o=>
  rw [e l o q] at h
  cases h
theorem aZ.seq {K:PySem.W.Frag}{H H':Hp}{a:Addr}{xs:List V}(e:aZ H H') (h:c9 K H a xs):c9 K H' a xs:=by
 rcases h with (h | ⟨o,h⟩) | h
 ·exact .inl (.inl (e _ _ h))
 ·exact .inl (.inr ⟨o,e _ _ h⟩)
 ·exact .inr h
end L2
set_option maxHeartbeats 400000
namespace L2
open PySem PySem.Spec PyProof.Rows
theorem wy {prog:Program}{w:World}{A:Around}{R:Result->Shared->Prop}{s:Shared}{elt target iter:Expr}{ifs:List Expr}{scope:Scope}{pos:Pos}{it acc:Value}{env:Env}(I:Nat->Shared->Prop)
  (turn:∀ n s,I n s->wpAny (model prog w) A (pyNext it) (fun r s₁=>match r with
   | none=>R (.ok .next) s₁
   | some v=>wpAny (model prog w) A (letOwnedTupleGo target it v) (fun _ s₀=>wpAny (model prog w) A (assign target env v) (fun _ s₂=>
     wpAny (model prog w) A (forIn ifs true fun c r=>if r=true then do let ok <- isTrue c env (eval c env);pure (ForInStep.yield ok) else pure (ForInStep.yield r)) (fun ok s₃=>
      if ok=true then wpAny (model prog w) A (eval elt env) (fun x s₄=>
       wpAny (model prog w) A (call (.builtin "list.append") [acc,x]) (fun _ s₅=>∃ m,m<n/\I m s₅) (fun _ _=>False) s₄) (fun _ _=>False) s₃
      else ∃ m,m<n/\I m s₃) (fun _ _=>False) s₂) (fun _ _=>False) s₀) (fun _ _=>False) s₁) (fun _ _=>False) s)
  (n:Nat) (h:I n s):codeAny (model prog w) A (.compLoop (.ListComp elt [⟨target,iter,ifs,0⟩] scope pos) 0 it acc env) R s:=by
 refine codeAny_loop rfl I (fun n s hI=>?_) n h
 show wpAny _ A ((compTurn (.ListComp elt [⟨target,iter,ifs,0⟩] scope pos) 0 it acc env).onRaise (fun x=>do noteFrame x env;theTreesLotGoes x)) _ _ s
 refine wpAny_noted ?_
 rw [compTurn_list]
 refine wpAny_bind (wpAny_standAt (wpAny_bind (wpAny_mono (turn n s hI) (fun r s₁ h₁=>?_) fun _ _ h'=>h'.elim)))
 cases r with
 | none=>exact wpAny_pure h₁
 | some v=>
  refine wpAny_bind (wpAny_mono h₁ (fun _ s₀ h₀=>wpAny_bind (wpAny_mono h₀ (fun _ s₂ h₂=>wpAny_bind (wpAny_mono h₂ (fun ok s₃ h₃=>?_) fun _ _ h'=>h'.elim)) fun _ _ h'=>h'.elim)) fun _ _ h'=>h'.elim)
  cases ok with
  | false=>exact wpAny_pure ⟨rfl,h₃⟩
  | true=>
   exact wpAny_bind (wpAny_bind (wpAny_mono h₃ (fun x s₄ h₄=>wpAny_bind (wpAny_mono h₄ (fun _ s₅ h₅=>wpAny_pure (wpAny_pure ⟨rfl,h₅⟩)) fun _ _ h'=>h'.elim)) fun _ _ h'=>h'.elim))
theorem eF (env:Env):∀ (names:List (Str × NameKind)) (acc:List (Str × Addr)),(∀ p∈names,p.2=.free->∃ c,env.cells.lookup p.1=some c)->(∀ x c,acc.lookup x=some c->env.cells.lookup x=some c) ->
  ∃ cl,(forIn names acc fun (p:Str × NameKind) (cs:List (Str × Addr))=>if p.2 == .free then do let c <- cellOf env p.1;pure (ForInStep.yield ((p.1,c)::cs)) else pure (ForInStep.yield cs):Sem (List (Str × Addr)))=pure cl /\
   (∀ x c,cl.lookup x=some c->env.cells.lookup x=some c)/\(∀ x c,acc.lookup x=some c->∃ c',cl.lookup x=some c')/\(∀ p∈names,p.2=.free->∃ c,cl.lookup p.1=some c)
 | [],acc,_,ha=>⟨acc,rfl,ha,fun x c e=>⟨c,e⟩,fun _ h=>nomatch h⟩
 | (n,k)::r,acc,hn,ha=>by
  by_cases hk:k=.free
  ·subst hk
   obtain ⟨c,hc⟩:=hn (n,.free) List.mem_cons_self rfl
   have ha':∀ x d,((n,c)::acc).lookup x=some d->env.cells.lookup x=some d:=fun x d e=>by
    rw [List.lookup_cons] at e
    cases hx:x == n with
    | true=>rw [hx] at e;have hx:=eq_of_beq hx;subst hx;cases e;exact hc
    | false=>rw [hx] at e;exact ha x d e
   obtain ⟨cl,e,h1,h2,h3⟩:=eF env r ((n,c)::acc) (fun p hp=>hn p (List.mem_cons_of_mem _ hp)) ha'
   have self:∃ c',cl.lookup n=some c':=h2 n c (by rw [List.lookup_cons];simp)
   refine ⟨cl,?_,h1,fun x d hx=>?_,fun p hp hf=>?_⟩
   ·rw [List.forIn_cons]
    show ((do let c <- cellOf env n;pure (ForInStep.yield ((n,c)::acc))) >>= _)=_
    unfold cellOf
    rw [hc]
    exact e
   ·cases C8:x == n with
    | true=>have:=eq_of_beq C8;subst this;exact self
    | false=>exact h2 x d (by rw [List.lookup_cons,C8];exact hx)
   ·rcases List.mem_cons.mp hp with rfl | hp
    ·exact self
    ·exact h3 p hp hf
  ·obtain ⟨cl,e,h1,h2,h3⟩:=eF env r acc (fun p hp=>hn p (List.mem_cons_of_mem _ hp)) ha
   refine ⟨cl,?_,h1,h2,fun p hp hf=>?_⟩
   ·rw [List.forIn_cons]
    have hb:(k == NameKind.free)=false:=by simpa using hk
    show ((if (k == NameKind.free)=true then _ else pure (ForInStep.yield acc)) >>= _)=_
    rw [hb]
    exact e
   ·rcases List.mem_cons.mp hp with rfl | hp
    ·exact absurd hf hk
    ·exact h3 p hp hf
theorem kU {scope:Scope}{env:Env}(h:∀ p∈scope.names,p.2=.free->∃ c,env.cells.lookup p.1=some c) :
  ∃ cl,closureFor scope env=pure cl/\(∀ x c,cl.lookup x=some c->env.cells.lookup x=some c)/\∀ p∈scope.names,p.2=.free->∃ c,cl.lookup p.1=some c:=by
 obtain ⟨cl,e,h1,_,h3⟩:=eF env scope.names [] h (fun _ _ e=>nomatch e)
 refine ⟨cl,?_,h1,h3⟩
 unfold closureFor
 exact (congrArg (fun z:Sem (List (Str × Addr))=>z >>= fun cs=>pure cs) e)
abbrev Cx.block (X:Cx) (N:List Str) (scope:Scope) (cl:List (Str × Addr)) (C:Addr) (fp:List Addr) (s:Shared) (H:Hp):Cx where
 prog:=X.prog
 w:=X.w
 K:=X.K
 mg:=X.mg
 base:=X.base
 A:=X.A
 N:=N
 s₀:=s
 H₀:=H
 env:=compEnvC scope cl C X.env
 outer:=X.stack
 stack:=X.stack
 ex:=fp
 fn:=fun _=>false
 calm:=X.calm
 pn:=[]
 xe:=fun _ _=>False
inductive dR (X:Cx) (scope:Scope):List Nat->List Str->Prop where
 | nil:dR X scope [] []
 | cons {j:Nat} {x:Str} {js:List Nat} {xs:List Str}:X.N[j]?=some x->scope.names.lookup x=some .free->X.env.kindOf x=some .cell->dR X scope js xs->dR X scope (j::js) (x::xs)
theorem dR.get {X:Cx}{scope:Scope}:∀ {js:List Nat}{xs:List Str},dR X scope js xs->∀ {i:Nat}{x:Str},xs[i]?=some x->∃ j,js[i]?=some j/\X.N[j]?=some x/\scope.names.lookup x=some .free/\X.env.kindOf x=some .cell
 | _,_,.nil,_,_,e=>by simp at e
 | _,_,.cons h1 h2 h3 _,0,_,e=>by simp at e;subst e;exact ⟨_,rfl,h1,h2,h3⟩
 | _,_,.cons _ _ _ t,i+1,_,e=>by
  obtain ⟨j,a,b⟩:=t.get (i:=i) (by simpa using e)
  exact ⟨j,by simpa using a,b⟩
theorem dR.length {X:Cx}{scope:Scope}:∀ {js:List Nat}{xs:List Str},dR X scope js xs->js.length=xs.length
 | _,_,.nil=>rfl
 | _,_,.cons _ _ _ t=>by simp [t.length]
def cj (k:Nat) (js:List Nat) (σ:St):St:=List.replicate k none++js.map fun j=>(σ[j]?).join
theorem dH {env:Env}(hk:env.scope.kind=.function):∀ {names:List (Str × NameKind)}{x:Str},names.lookup x=some .free->env.kindOf x=some .cell ->
  (names.map fun (n,k)=>if (k == NameKind.free&&env.scope.kind == .function&&env.kindOf n == some .cell) then (n,NameKind.cell) else (n,k)).lookup x=some .cell
 | [],_,h,_=>by simp at h
 | (n,k)::r,x,h,hc=>by
  have ih:=@dH env hk r x
  show List.lookup x ((if (k == NameKind.free&&env.scope.kind == .function&&env.kindOf n == some .cell)=true then (n,NameKind.cell) else (n,k))::_)=_
  cases hx:x == n with
  | true=>
   have e:=eq_of_beq hx
   subst e
   simp only [List.lookup_cons,hx] at h
   cases h
   rw [if_pos (by rw [hk,hc];rfl)]
   simp [List.lookup_cons]
  | false=>
   simp only [List.lookup_cons,hx] at h
   by_cases hq:(k == NameKind.free&&env.scope.kind == .function&&env.kindOf n == some .cell)=true
   ·rw [if_pos hq];simp only [List.lookup_cons,hx];exact ih h hc
   ·rw [if_neg hq];simp only [List.lookup_cons,hx];exact ih h hc
theorem dS {env:Env}:∀ {names:List (Str × NameKind)}{x:Str},(∀ p∈names,p.2≠.cell) ->
  ((names.map fun (n,k)=>if (k == NameKind.free&&env.scope.kind == .function&&env.kindOf n == some .cell) then (n,NameKind.cell) else (n,k)).lookup x=some .cell \/
   (names.map fun (n,k)=>if (k == NameKind.free&&env.scope.kind == .function&&env.kindOf n == some .cell) then (n,NameKind.cell) else (n,k)).lookup x=some .free)->∃ p∈names,p.1=x/\p.2=.free
 | [],_,_,h=>by simp at h
 | (n,k)::r,x,hn,h=>by
  have ih:=@dS env r x (fun p hp=>hn p (List.mem_cons_of_mem _ hp))
  have h:List.lookup x ((if (k == NameKind.free&&env.scope.kind == .function&&env.kindOf n == some .cell)=true then (n,NameKind.cell) else (n,k))::(r.map fun (n,k)=>if (k == NameKind.free&&env.scope.kind == .function&&env.kindOf n == some .cell) then (n,NameKind.cell) else (n,k)))=some .cell \/
   List.lookup x ((if (k == NameKind.free&&env.scope.kind == .function&&env.kindOf n == some .cell)=true then (n,NameKind.cell) else (n,k))::(r.map fun (n,k)=>if (k == NameKind.free&&env.scope.kind == .function&&env.kindOf n == some .cell) then (n,NameKind.cell) else (n,k)))=some .free:=h
  cases hx:x == n with
  | true=>
   have e:=eq_of_beq hx
   subst e
   refine ⟨(x,k),List.mem_cons_self,rfl,?_⟩
   by_cases hq:(k == NameKind.free&&env.scope.kind == .function&&env.kindOf x == some .cell)=true
   ·cases k<;>first | rfl | (simp at hq)
   ·rw [if_neg hq] at h
    simp only [List.lookup_cons,beq_self_eq_true] at h
    rcases h with h | h
    ·cases h;exact absurd rfl (hn (x,.cell) List.mem_cons_self)
    ·cases h;rfl
  | false=>
   have h':List.lookup x (r.map fun (n,k)=>if (k == NameKind.free&&env.scope.kind == .function&&env.kindOf n == some .cell) then (n,NameKind.cell) else (n,k))=some .cell \/
    List.lookup x (r.map fun (n,k)=>if (k == NameKind.free&&env.scope.kind == .function&&env.kindOf n == some .cell) then (n,NameKind.cell) else (n,k))=some .free:=by
    by_cases hq:(k == NameKind.free&&env.scope.kind == .function&&env.kindOf n == some .cell)=true
    ·rw [if_pos hq] at h;simp only [List.lookup_cons,hx] at h;exact h
    ·rw [if_neg hq] at h;simp only [List.lookup_cons,hx] at h;exact h
   obtain ⟨p,hp,e1,e2⟩:=ih h'
   exact ⟨p,List.mem_cons_of_mem _ hp,e1,e2⟩
structure eA (X:Cx) (scope:Scope):Prop where
 kind:scope.kind=.function
 nocell:∀ p∈scope.names,p.2≠.cell
 names:∀ p∈scope.names,p.2=.local->scope.names.lookup p.1=some .local
 frees:∀ p∈scope.names,p.2=.free->X.env.kindOf p.1=some .cell
section
variable {X:Cx}{pins:List (Addr × Obj)}{σ:St}{H:Hp}{s:Shared}
theorem Inv.enter {ls fs:List Str}{js:List Nat}{scope:Scope}{cl:List (Str × Addr)}{fp:List Addr}{h₁:Heap}{tk:Nat}(I:Inv X pins σ H s) (S:eA X scope) (F:dR X scope js fs)
  (C9:∀ x c,cl.lookup x=some c->X.env.cells.lookup x=some c) (hcf:∀ p∈scope.names,p.2=.free->∃ c,cl.lookup p.1=some c)
  (hf:∀ b∈fp,jD X pins H b) (hfz:∀ b∈fp,b<s.heap.objs.size) (uG:h₁.Ns s.heap.objs.size (fun _=>none)) (hk:∀ b o,s.heap.get? b=some o->h₁.get? b=some o) :
  Inv (X.block (ls++fs) scope cl s.heap.objs.size fp s H) [] (cj ls.length js σ) H { s with heap:=h₁,toks:=tk }:=by
 have aaf:∀ x c,cl.lookup x=some c->c<s.heap.objs.size:=fun x c e=>by
  obtain ⟨v,q⟩:=I.cell x c (C9 x c e)
  exact q.lt
 refine ⟨⟨I.ok.mod,?_,I.ok.glob,I.ok.blt,Nat.le_refl _,fun x y c h1 h2=>I.ok.inj x y c (C9 x c h1) (C9 y c h2),fun x hx=>?_,(fun x c hx=>by cases hx),I.ok.hd,I.ok.frames,.inl rfl,fun b hb=>⟨Nat.ne_of_lt (hfz b hb),fun x c e=>(hf b hb).2.2.2.2.1 x c (C9 x c e)⟩,
  I.bs,Nat.le_trans I.ok.bsz I.sz,fun b o e hb=>?_,fun b hb z=>?_,I.stack,I.uy⟩,rfl,I.bare,Un.kept hk,⟨_,uG,fun i x v e1 e2 e3=>?_⟩,fun x c e=>?_,I.bU.fresh (Nat.le_refl _),fun x c e=>I.freeC x c (C9 x c e),fun p hp=>absurd hp (by simp),I.bU.kept hk,?_⟩
 ·show (relabel scope X.env).kind=.function
  exact S.kind
 ·obtain ⟨p,hp,e1,e2⟩:=dS (env:=X.env) S.nocell hx
  obtain ⟨c,e⟩:=hcf p hp e2
  exact ⟨c,by rw [<- e1];exact e⟩
 ·rcases (hf b hb).2.2.2.1 with z | z
  ·exact I.ok.noex b o e z
  ·exact absurd (Nat.lt_of_lt_of_le (Heap.lt_size (I.ok.bs b o e).1) z) (Nat.lt_irrefl _)
 ·rcases List.mem_cons.mp (I.lZ b z) with e | e
  ·exact (hf b hb).2.1 e
  ·exact (hf b hb).2.2.1 e
 ·-- a name of the block that has a value: one from around
  have hi:ls.length<=i:=by
   by_cases hi:i<ls.length
   ·unfold cj at e2
    rw [List.getElem?_append_left (by simpa using hi),List.getElem?_replicate] at e2
    split at e2<;>cases e2
   ·omega
  have e1':fs[i-ls.length]?=some x:=by
   have q:(ls++fs)[i]?=some x:=e1
   rw [List.getElem?_append_right hi] at q;exact q
  obtain ⟨j,hj,hN,hfr,Xw⟩:=F.get e1'
  have Og:(σ[j]?).join=some v:=by
   unfold cj at e2
   rw [List.getElem?_append_right (by simpa using hi),List.getElem?_map] at e2
   simp only [List.length_replicate] at e2
   rw [hj] at e2
   simpa using e2
  have hσ:σ[j]?=some (some v):=by
   cases q:σ[j]? with
   | none=>rw [q] at Og;cases Og
   | some z=>rw [q] at Og;have Og:z=some v:=Og;rw [Og]
  obtain ⟨m,_,hl⟩:=I.loc
  obtain ⟨u,r,l⟩:=hl j x v hN hσ (.inr (.inl Xw))
  refine ⟨u,r,.inr ⟨.inl (dH I.ok.kind hfr Xw),?_⟩⟩
  rcases l with ⟨z,_⟩ | ⟨_,c,e,q⟩
  ·have z':X.env.kindOf x=some .local:=z
   rw [Xw] at z';cases z'
  ·obtain ⟨c',e'⟩:=hcf (x,.free) (PySem.mem_of_lookup hfr) rfl
   have ec:=C9 x c' e'
   rw [e] at ec
   have ec:=Option.some.inj ec
   rw [<- ec] at e'
   obtain ⟨o,ho,hd⟩:=q
   exact ⟨c,e',o,hk _ _ ho,hd⟩
 ·obtain ⟨v,o,ho,hd⟩:=I.cell x c (C9 x c e)
  exact ⟨v,o,hk _ _ ho,hd⟩
 ·unfold cj
  show _=(ls++fs).length
  rw [List.length_append,List.length_replicate,List.length_map,List.length_append,F.length]
end
section
variable {X:Cx}
def Cp (X:Cx) (ifs:List Expr) (t:TT):Prop:=
 ∀ (pins:List (Addr × Obj)) (s:Shared) (σ:St) (H:Hp) (Q:Bool->Hp->Prop),Inv X pins σ H s->t σ H Q ->
  wpAny (model X.prog X.w) X.A (forIn ifs true fun c r=>if r=true then do let ok <- isTrue c X.env (eval c X.env);pure (ForInStep.yield ok) else pure (ForInStep.yield r)) (TP X pins σ Q) X.xe s
def Xx:TT:=fun _ H Q=>Q true H
theorem C_:Cp X [] Xx:=fun _ _ _ H _ I h=>wpAny_tests_nil ⟨H,I,h⟩
theorem Dc {c:Expr}{t:TT}(h:PT X c t):Cp X [c] t:=fun pins s σ H Q I hw=>wpAny_tests_one (h pins s σ H Q I hw)
def cJ:St->St->Prop
 | [],[]=>True
 | none::a,_::b=>cJ a b
 | some v::a,some w::b=>v=w/\cJ a b
 | _,_=>False
theorem cJ.len:∀ {a b:St},cJ a b->a.length=b.length
 | [],[],_=>rfl
 | [],_::_,h=>h.elim
 | none::a,[],h=>h.elim
 | some _::a,[],h=>h.elim
 | none::a,x::b,h=>by simp [cJ.len (a:=a) (b:=b) h]
 | some _::a,none::b,h=>h.elim
 | some _::a,some _::b,h=>by simp [cJ.len (a:=a) (b:=b) h.2]
theorem cJ.get:∀ {a b:St},cJ a b->∀ (i:Nat) (v:V),a[i]?=some (some v)->b[i]?=some (some v)
 | [],[],_,_,_,e=>e
 | [],_::_,h,_,_,_=>h.elim
 | none::a,[],h,_,_,_=>h.elim
 | some _::a,[],h,_,_,_=>h.elim
 | none::a,x::b,h,0,v,e=>by simp at e
 | none::a,x::b,h,i+1,v,e=>by
  have:=cJ.get (a:=a) (b:=b) h i v (by simpa using e)
  simpa using this
 | some _::a,none::b,h,_,_,_=>h.elim
 | some y::a,some z::b,h,0,v,e=>by have e1:=h.1;subst e1;simpa using e
 | some y::a,some z::b,h,i+1,v,e=>by
  have:=cJ.get (a:=a) (b:=b) h.2 i v (by simpa using e)
  simpa using this
@[irreducible] def tComp (wi:TI) (k:Nat) (js:List Nat) (g:TG) (tt:TT) (te:TE):TE:=fun σ H Q=>wi σ H fun J H1=>∀ D,H1 D=none->∃ W:Nat->Nat->List V->Hp->Prop,(∃ m,W 0 m [] (upd H1 D (.lst []))) /\
 ∀ i m ys H,W i m ys H->(J.stop i H/\Q (.ref D) H)\/(J.go i H/\∀ x H',J.yld i H x H'->g x (cj k js σ) H' fun σ2 H2=>cJ (cj k js σ) σ2/\tt σ2 H2 fun b H3=>
  if b=true then te σ2 H3 fun y H4=>H4 D=some (.lst ys)/\ys.length<sizeLine/\∃ m',m'<m/\W (i+1) m' (ys++[y]) (upd H4 D (.lst (ys++[y])))
  else ∃ m',m'<m/\W (i+1) m' ys H3)
theorem lB {scope:Scope}{ls fs:List Str}{js:List Nat}{tg iter elt:Expr}{ifs:List Expr}{pos pos':Pos}{wi:TI}{g:TG}{tt:TT}{te:TE}{use:Option (Value->Sem Unit)}{Qo:Value->Shared->Prop}
  (hc:X.calm=true) (S:eA X scope) (F:dR X scope js fs) (hi:PI X tg iter wi)
  (hg:∀ cl C fp s H,PG (X.block (ls++fs) scope cl C fp s H) tg g) (ht:∀ cl C fp s H,Cp (X.block (ls++fs) scope cl C fp s H) ifs tt) (he:∀ cl C fp s H,PE (X.block (ls++fs) scope cl C fp s H) elt te)
  {pins:List (Addr × Obj)} {s:Shared} {σ:St} {H:Hp} {Q:VK} (I:Inv X pins σ H s) (h:tComp wi ls.length js g tt te σ H Q)
  (fin:∀ D C s' H' m,Inv X pins σ H' s'->jD X pins H' C->s'.heap.Ns C m->Q (.ref D) H'->compPost (model X.prog X.w) X.A X.xe use Qo (.ref D) C (.ok .next) s')
  (hs:∀ x,foldedSetIterable iter X.env x=pure x) :
  wpAny (model X.prog X.w) X.A (comprehension (.ListComp elt [⟨tg,iter,ifs,0⟩] scope pos) scope X.env pos' (newList []) false (eval iter X.env) use) Qo X.xe s:=by
 unfold tComp at h
 obtain ⟨cl,ecl,h1,h2⟩:=kU (scope:=scope) (env:=X.env) (fun p hp hf=>I.ok.has p.1 (.inl (S.frees p hp hf)))
 refine wpAny_comprehension_free rfl hs ecl S.kind S.names (bY (hi pins s σ H _ I h) fun v s1 q1=>bY q1 fun W6 s2 q2=>?_)
 obtain ⟨it,fp,tn,J,H2,e,I2,T,OY,f2,q⟩:=q2
 subst e
 refine wpAny_newObj_type (wpAny_newFunctionEnv S.nocell (by intro y hy;simp at hy) (fun h₁ hns₁ hsb₁=>?_) S.kind)
 have I3:Inv X pins σ (upd H2 s2.heap.objs.size (.lst [])) { s2 with heap:=s2.heap.push { cls:=.type "list", dict:=none,data:=.seq ([]:List Value).toArray } }:=I2.wt (t':=s2.toks) .nil (Nat.zero_le _)
 obtain ⟨W,⟨m0,w0⟩,step⟩:=q s2.heap.objs.size I2.fresh
 dsimp only at hns₁ hsb₁ ⊢
 generalize hs3:({ s2 with heap:=s2.heap.push { cls:=.type "list", dict:=none,data:=.seq ([]:List Value).toArray } }:Shared)=s3 at I3
 have es3:s3.heap=s2.heap.push { cls:=.type "list", dict:=none,data:=.seq ([]:List Value).toArray }:=by rw [<- hs3]
 rw [<- es3] at hns₁ hsb₁ ⊢
 have old:∀ b o,s3.heap.get? b=some o->h₁.get? b=some o:=fun b o e=>hsb₁.extBut b o (Nat.ne_of_lt (Heap.lt_size e)) (Heap.get?_push_of_some _ e)
 have up:∀ b o,s2.heap.get? b=some o->s3.heap.get? b=some o:=fun b o e=>by rw [es3];exact Heap.get?_push_of_some _ e
 have fz2:∀ b∈fp,b<s2.heap.objs.size:=fun b hb=>by
  obtain ⟨o,e,_⟩:=T.obj 0 _ OY b hb
  exact Heap.lt_size e
 have f3:∀ b∈fp,jD X pins (upd H2 s2.heap.objs.size (.lst [])) b:=fun b hb=>⟨by rw [ay (Nat.ne_of_lt (fz2 b hb))];exact (f2 b hb).1,(f2 b hb).2⟩
 have fz3:∀ b∈fp,b<s3.heap.objs.size:=fun b hb=>by
  obtain ⟨o,e,_⟩:=T.obj 0 _ OY b hb
  exact Heap.lt_size (up b o e)
 have I4:=I3.enter (ls:=ls) (h₁:=h₁) (tk:=s2.toks+([]:List (Str × Value)).length) S F h1 h2 f3 fz3 (by simpa using hns₁) old
 have st4:tn 0 h₁:=T.keep 0 _ _ OY fun b _ o e=>old b o (up b o e)
 generalize hC:s3.heap.objs.size=C at I4 hns₁ hsb₁ ⊢
 generalize hH3:upd H2 s2.heap.objs.size (.lst [])=H3 at I3 I4 f3 w0
 have q_:∀ {H':Hp},(∀ b∈fp,H' b=none)->∀ b∈fp,jD (X.block (ls++fs) scope cl C fp s3 H3) [] H' b:=fun hn b hb=>
  ⟨hn b hb,by rw [<- hC];exact Nat.ne_of_lt (fz3 b hb),fun z=>(List.mem_cons.mp (I3.lZ b z)).elim (f3 b hb).2.1 (f3 b hb).2.2.1,.inl hb,fun x c e=>(f3 b hb).2.2.2.2.1 x c (h1 x c e),fun p hp=>absurd hp (by simp)⟩
 have yu:∀ b∈fp,(b∈X.ex\/X.s₀.heap.objs.size<=b)/\b≠X.env.locals/\(∀ x c,X.env.cells.lookup x=some c->c≠b)/\∀ p∈X.pn++pins,p.1≠b:=fun b hb=>⟨(f3 b hb).2.2.2.1,(f3 b hb).2.1,(f3 b hb).2.2.2.2.1,(f3 b hb).2.2.2.2.2⟩
 have loop:∀ s4:Shared,s4={ s3 with heap:=h₁,toks:=s2.toks+([]:List (Str × Value)).length } ->
   codeAny (model X.prog X.w) X.A (.compLoop (.ListComp elt [⟨tg,iter,ifs,0⟩] scope pos) 0 (.ref it) (.ref s2.heap.objs.size) (compEnvC scope cl C X.env)) (compPost (model X.prog X.w) X.A X.xe use Qo (.ref s2.heap.objs.size) C) s4:=by
  rintro s4 rfl
  refine wy (fun n s'=>∃ i ys H',Inv (X.block (ls++fs) scope cl C fp s3 H3) [] (cj ls.length js σ) H' s'/\tn i s'.heap/\(∀ b∈fp,H' b=none)/\W i n ys H') ?_ m0 ⟨0,[],H3,I4,st4,fun b hb=>(f3 b hb).1,w0⟩
  rintro n s5 ⟨i,ys,H5,I5,CJ,fr5,w5⟩
  rcases step i n ys H5 w5 with ⟨stop,qf⟩ | ⟨go,nxt⟩
  ·refine bY (T.done (X.block (ls++fs) scope cl C fp s3 H3) rfl rfl rfl hc i [] s5 _ H5 (fun _ _=>False) I5 (q_ fr5) CJ stop) fun r s6 ⟨hr,I6⟩=>?_
   subst hr
   obtain ⟨m,hm,_⟩:=id I6.loc
   have J6:Inv X pins σ H5 s6:=I3.OF (ch:=fp) I6.os I6.base I6.bU I6.bare yu
   exact fin _ C s6 H5 m J6 (I3.qX (Nat.le_of_eq hC) I6.free) hm qf
  ·refine bY (T.item (X.block (ls++fs) scope cl C fp s3 H3) rfl rfl rfl hc i [] s5 _ H5 (fun _ _=>False) I5 (q_ fr5) CJ go) fun r s6 ⟨u,hr,h6⟩=>?_
   subst hr
   refine bY h6 fun _ s7 ⟨x,H7,I7,r7,y7,st7,fr7⟩=>?_
   have I7':=I7.pinned (q_ fr7) (T.obj _ _ st7)
   refine bY (hg cl C fp s3 H3 _ s7 _ H7 x u _ I7' r7 (nxt x H7 y7)) fun _ s8 ⟨σ8,H8,I8,kp,q8⟩=>?_
   have again:∀ {s9:Shared} {H9:Hp},Inv (X.block (ls++fs) scope cl C fp s3 H3) ([]++jE fp s7.heap) σ8 H9 s9 ->
     Inv (X.block (ls++fs) scope cl C fp s3 H3) [] (cj ls.length js σ) H9 s9/\tn (i+1) s9.heap/\∀ b∈fp,H9 b=none:=fun {s9 H9} I9=>by
    refine ⟨I9.gR.weak kp.len kp.get,T.keep _ _ _ st7 fun b hb o e=>(I9.pin (b,o) (List.mem_append_right _ (List.mem_append_right _ (eZ hb e)))).1,fun b hb=>?_⟩
    obtain ⟨o,e,d⟩:=T.obj _ _ st7 b hb
    exact (I9.pin (b,o) (List.mem_append_right _ (List.mem_append_right _ (eZ hb e)))).2.1
   refine bY (ht cl C fp s3 H3 _ s8 σ8 H8 _ I8 q8) fun b s9 ⟨H9,I9,q9⟩=>?_
   cases b with
   | false=>
    obtain ⟨m',hm,w9⟩:=q9
    obtain ⟨a1,a2,a3⟩:=again I9
    exact ⟨m',hm,i+1,ys,H9,a1,a2,a3,w9⟩
   | true=>
    refine bY (he cl C fp s3 H3 _ s9 σ8 H9 _ I9 q9) fun xv ze ⟨y,H10,I10,r10,hD,hz,m',hm,Xy⟩=>?_
    refine bY (lz (X:=X.block (ls++fs) scope cl C fp s3 H3) _ ze σ8 H10 (.ref s2.heap.objs.size) [y] (.ref s2.heap.objs.size) [xv] (fun _ H11=>H11=upd H10 s2.heap.objs.size (.lst (ys++[y]))) I10 rfl (.cons r10 .nil)
     ⟨_,ys,y,rfl,rfl,hD,hz,rfl⟩) fun _ s11 ⟨z,H11,I11,_,e11⟩=>?_
    subst e11
    obtain ⟨a1,a2,a3⟩:=again I11
    exact ⟨m',hm,i+1,ys++[y],_,a1,a2,a3,Xy⟩
 have aag:({ newEnv scope C X.env.globals cl X.env.qual none .none (some X.env) builtinsNs with scope:=relabel scope X.env }:Env)=compEnvC scope cl C X.env:=rfl
 exact codeAny_compStart_list (loop _ (by rw [<- hs3])) (T.self X.A 0 _ _ _ st4 (loop _ (by rw [<- hs3])))
variable {scope:Scope}{ls fs:List Str}{js:List Nat}{tg iter elt:Expr}{ifs:List Expr}{pos:Pos}{wi:TI}{g:TG}{tt:TT}{te:TE}
theorem Dd (ls:List Str) (hc:X.calm=true) (S:eA X scope) (F:dR X scope js fs) (hi:PI X tg iter wi)
  (hg:∀ cl C fp s H,PG (X.block (ls++fs) scope cl C fp s H) tg g) (ht:∀ cl C fp s H,Cp (X.block (ls++fs) scope cl C fp s H) ifs tt) (he:∀ cl C fp s H,PE (X.block (ls++fs) scope cl C fp s H) elt te)
  (hs:∀ x,foldedSetIterable iter X.env x=pure x:=by intro _;rfl):PE X (.ListComp elt [⟨tg,iter,ifs,0⟩] scope pos) (tComp wi ls.length js g tt te):=by
 intro pins s σ H Q I h
 rw [eval_ListComp]
 refine lB (use:=none) hc S F hi hg ht he I h ?_ hs
 intro D C s' H' m J fC hm q
 exact ⟨m,hm,fun h' zf=>⟨.ref D,H',J.turned (t':=s'.toks) (it:=C) (fun b o hb e=>(zf.2 b hb).trans e) fC.1 fC.2.1 fC.2.2.2.1 fC.2.2.2.2.1 fC.2.2.2.2.2,rfl,q⟩⟩
theorem uI {i:Nat}{x:Str}{px JH:Pos}(ls:List Str) (hc:X.calm=true) (hN:X.N.Nodup) (hix:X.N[i]?=some x) (hx:Loc X.env.scope x) (S:eA X scope) (F:dR X scope js fs) (hi:PI X tg iter wi)
  (hg:∀ cl C fp s H,PG (X.block (ls++fs) scope cl C fp s H) tg g) (ht:∀ cl C fp s H,Cp (X.block (ls++fs) scope cl C fp s H) ifs tt) (he:∀ cl C fp s H,PE (X.block (ls++fs) scope cl C fp s H) elt te)
  (hs:∀ x,foldedSetIterable iter X.env x=pure x:=by intro _;rfl) (hf:X.fn x=true\/X.env.scope.names.lookup x=some .local:=by first | exact .inl rfl | exact .inr rfl | assumption)
  (Ws:swapsWith (.ListComp elt [⟨tg,iter,ifs,0⟩] scope pos) (some (.Name x px)) JH.line X.env=pure true:=by rfl) :
  PS X (.Assign [.Name x px] (.ListComp elt [⟨tg,iter,ifs,0⟩] scope pos) JH) (fun D σ H=>tComp wi ls.length js g tt te σ H fun v H1=>D.nx (σ.set i (some v)) H1):=by
 intro pins s σ H D I h
 rw [exec_Assign_Name_used _ _ _ _ Ws]
 refine wpAny_bind (wpAny_standAt (wpAny_bind ?_))
 show wpAny _ X.A (do let _ <- comprehension (.ListComp elt [⟨tg,iter,ifs,0⟩] scope pos) scope X.env _ (newList []) false (eval iter X.env) (some (assign (.Name x px) X.env))) _ _ s
 refine wpAny_bind (wpAny_mono (lB (use:=some (assign (.Name x px) X.env)) (Qo:=fun _ s'=>SP X pins D .next s') hc S F hi hg ht he I h ?_ hs) (fun _ s' hq=>wpAny_pure (wpAny_pure hq)) fun _ _ e=>e)
 intro D' C s' H' m J fC hm q
 show wpAny _ X.A (assign (.Name x px) X.env (.ref D')) _ _ _
 refine wpAny_assign_Name (k8 J hN hix hx (show RelV (.ref D') (.ref D') from rfl) (fun Pe J' ⟨a,hsb,ha⟩=>?_) hf)
 have ne:C≠a:=by
  rcases ha with e | e
  ·rw [e];exact fC.2.1
  ·exact Ne.symm (fC.2.2.2.2.1 x a e)
 refine ⟨m,hm.sameBut hsb ne,fun h' zf=>?_⟩
 exact ⟨_,H',J'.turned (t':=Pe.toks) (it:=C) (fun b o hb e=>(zf.2 b hb).trans e) fC.1 fC.2.1 fC.2.2.2.1 fC.2.2.2.2.1 fC.2.2.2.2.2,q⟩
end
section
theorem zg {P:Program}{w:World}{K:PySem.W.Frag}{x:Str}{px:Pos}{it:Addr}{n:Nat}{Pv:Nat->Value->Prop}{St:Nat->Heap->Prop}(val:Nat->V->Prop)
  (W:∀ A:Around,A.handled=none->Walks P w A it [it] [it] n Pv St) (hv:∀ i v,Pv i v->∃ y,RelV y v/\val i y)
  (ho:∀ i h,St i h->∃ o,h.get? it=some o/\∀ v,o.data≠.cell v) (hk:∀ i (h h':Heap),St i h->(∀ o,h.get? it=some o->h'.get? it=some o)->St i h')
  (PJ:∀ (A:Around) (i:Nat) (s:Shared) (Q:Value->Shared->Prop) (E:Value->Shared->Prop),St i s.heap->Q (.ref it) s->wpAny (model P w) A (pyIter (.ref it)) Q E s) :
  Turn P w K (.Name x px) ⟨fun i _=>i<n,fun i H y H'=>H'=H/\val i y,fun i _=>i=n⟩ [it] it St where
 mem:=by simp
 obj:=fun i h st b hb=>by
  have e:b=it:=by simpa using hb
  subst e
  exact ho i h st
 keep:=fun i h h' st k=>hk i h h' st (k it (by simp))
 item:=by
  intro X hP hw hK hc i pins s σ H E I hf st hg
  subst hP hw hK
  obtain ⟨f0,f1,f2,f3,f4,f5⟩:=hf it (by simp)
  refine (W X.A (I.ok.hd hc)).item i s _ _ hg st fun v h' tk hPv yv kk=>?_
  obtain ⟨y,ry,vy⟩:=hv i v hPv
  have I1:Inv X pins σ H { s with heap:=h',toks:=tk }:=I.turned (fun b o hb e=>kk b o (by simpa using hb) e) f0 f1 f3 f4 f5
  exact ⟨v,rfl,wpAny_pure ⟨y,H,I1,ry,⟨rfl,vy⟩,yv,fun b hb=>(hf b hb).1⟩⟩
 done:=by
  intro X hP hw hK hc i pins s σ H E I hf st hg
  subst hP hw hK
  obtain ⟨f0,f1,f2,f3,f4,f5⟩:=hf it (by simp)
  have hg:i=n:=hg
  rw [hg] at st
  exact (W X.A (I.ok.hd hc)).done s _ _ st fun h' tk kk=>⟨rfl,I.turned (fun b o hb e=>kk b o (by simpa using hb) e) f0 f1 f3 f4 f5⟩
 self:=PJ
variable {X:Cx}{tg:Expr}
def Its (z:Str):It:=⟨fun i _=>i<z.cps.size,fun i H y H'=>H'=H/\∃ c,z.cps[i]?=some c/\y=.str ⟨#[c]⟩,fun i _=>i=z.cps.size⟩
def Xz (tl:TE):TI:=fun σ H R=>tl σ H fun v H1=>∃ z,v=.str z/\R (Its z) H1
theorem JI {l:Expr}{tl:TE}{x:Str}{px:Pos}(hl:PE X l tl):PI X (.Name x px) l (Xz tl):=by
 intro pins s σ H R I h
 refine bY (hl pins s σ H _ I h) fun v s1 ⟨y,H1,I1,r1,q1⟩=>?_
 obtain ⟨z,rfl,q⟩:=q1
 obtain ⟨t,rfl⟩:=r1
 have fpk:∀ b∈[s1.heap.objs.size],jD X pins H1 b:=fun b hb=>by
  have e:b=s1.heap.objs.size:=by simpa using hb
  subst e
  exact I1.qX (Nat.le_refl _) (I1.bU.fresh (Nat.le_refl _))
 have hv:∀ i v,SignAt z i v->∃ y,RelV y v/\∃ c,z.cps[i]?=some c/\y=.str ⟨#[c]⟩:=fun i v ⟨c,u,e,ev⟩=>⟨.str ⟨#[c]⟩,⟨u,ev⟩,c,e,rfl⟩
 have zh:∀ (ty:String) (i:Nat) (h:Heap),h.IsStrIter s1.heap.objs.size ty z t i->∃ o,h.get? s1.heap.objs.size=some o/\∀ v,o.data≠.cell v:=fun ty i h ⟨o,e,_,d⟩=>⟨o,e,fun v q=>by rw [d] at q;cases q⟩
 have kp:∀ (ty:String) (i:Nat) (h h':Heap),h.IsStrIter s1.heap.objs.size ty z t i->(∀ o,h.get? s1.heap.objs.size=some o->h'.get? s1.heap.objs.size=some o)->h'.IsStrIter s1.heap.objs.size ty z t i:=fun ty i h h' ⟨o,e,r⟩ k=>⟨o,k o e,r⟩
 cases ha:z.cps.all (· < 128)
 ·refine wpAny_pyIter_wide ha ?_
  exact ⟨s1.heap.objs.size,[s1.heap.objs.size],_,_,H1,rfl,I1.kept (t':=s1.toks) fun b o e=>Heap.get?_push_of_some _ e,
   zg (fun i y=>∃ c,z.cps[i]?=some c/\y=.str ⟨#[c]⟩) (fun A hA=>Walks.strWide hA _ z t) hv (zh _) (kp _) (fun _ _ _ _ _ st h=>wpAny_pyIter_striter_wide st h),⟨_,Heap.get?_push_size _ rfl,rfl,rfl⟩,fpk,q⟩
 ·refine wpAny_pyIter_ascii ha ?_
  exact ⟨s1.heap.objs.size,[s1.heap.objs.size],_,_,H1,rfl,I1.kept (t':=s1.toks) fun b o e=>Heap.get?_push_of_some _ e,
   zg (fun i y=>∃ c,z.cps[i]?=some c/\y=.str ⟨#[c]⟩) (fun A hA=>Walks.strAscii hA _ z t) hv (zh _) (kp _) (fun _ _ _ _ _ st h=>wpAny_pyIter_striter_ascii st h),⟨_,Heap.get?_push_size _ rfl,rfl,rfl⟩,fpk,q⟩
end
structure XA (J:It) (src:List V) (I:Hp->Prop):Prop where
 go:∀ i H,I H->i<src.length->J.go i H
 yld:∀ i H x H',I H->i<src.length->J.yld i H x H'->H'=H/\src[i]?=some x
 stop:∀ i H,I H->i=src.length->J.stop i H
theorem De (z:Str):XA (Its z) (z.cps.toList.map fun c=>V.str ⟨#[c]⟩) (fun _=>True):=
 ⟨fun i H _ h=>by have h:i<(z.cps.toList.map fun c=>V.str ⟨#[c]⟩).length:=h;rw [List.length_map,Array.length_toList] at h;exact h,
  fun i H x H' _ _ y=>by
  obtain ⟨e,c,hc,ex⟩:=y
  refine ⟨e,?_⟩
  rw [List.getElem?_map,Array.getElem?_toList,hc,ex]
  rfl,
  fun i H _ h=>by rw [List.length_map,Array.length_toList] at h;exact h⟩
theorem lC (lo:Int) (n:Nat):XA (OU lo n) ((List.range n).map fun k=>V.int (lo+(k:Nat))) (fun _=>True):=
 ⟨fun i H _ h=>by have h:i<((List.range n).map fun k=>V.int (lo+(k:Nat))).length:=h;rw [List.length_map,List.length_range] at h;exact h,
  fun i H x H' _ hi y=>by
  obtain ⟨e,ex⟩:=y
  refine ⟨e,?_⟩
  have hi:i<n:=by rw [List.length_map,List.length_range] at hi;exact hi
  rw [List.getElem?_map,List.getElem?_range hi,ex]
  rfl,
  fun i H _ h=>by rw [List.length_map,List.length_range] at h;exact Nat.le_of_eq h.symm⟩
section
variable {X:Cx}{tg:Expr}
end
section
variable {X:Cx}
theorem kW:wm X "str.startswith" (fun x vs H Q=>∃ a b,x=.str a/\vs=[.str b]/\Q (.bl (Txt.startswith a b)) H):=by
 intro pins s σ H x vs v us Q I rx rv h
 obtain ⟨a,b,rfl,rfl,q⟩:=h
 obtain ⟨t,rfl⟩:=rx
 obtain ⟨u,rfl,⟨t',rfl⟩⟩:=rv.one
 exact SC.startswith ⟨.bl _,H,I,rfl,q⟩
theorem oB:wm X "str.endswith" (fun x vs H Q=>∃ a b,x=.str a/\vs=[.str b]/\Q (.bl (Txt.endswith a b)) H):=by
 intro pins s σ H x vs v us Q I rx rv h
 obtain ⟨a,b,rfl,rfl,q⟩:=h
 obtain ⟨t,rfl⟩:=rx
 obtain ⟨u,rfl,⟨t',rfl⟩⟩:=rv.one
 exact SC.endswith ⟨.bl _,H,I,rfl,q⟩
theorem zj:wm X "str.find" (fun x vs H Q=>∃ a b i,x=.str a/\vs=[.str b,.int i]/\Q (.int (Txt.find3 a b i)) H):=by
 intro pins s σ H x vs v us Q I rx rv h
 obtain ⟨a,b,i,rfl,rfl,q⟩:=h
 obtain ⟨t,rfl⟩:=rx
 obtain ⟨u,u',rfl,⟨t',rfl⟩,⟨t'',rfl⟩⟩:=rv.two
 exact SC.find3 ⟨.int _,H,I.tok _,⟨_,rfl⟩,q⟩
theorem jL:∀ {ys:List Str}{us:List Value},Vals (ys.map V.str) us->StrsAre us ys
 | [],_,.nil=>.nil
 | y::ys,_,.cons ⟨t,e⟩ r=>by
  subst e
  exact .cons y t (jL (ys:=ys) r)
theorem Df:wm X "str.join" (fun x vs H Q=>∃ sep l ys,x=.str sep/\vs=[.ref l]/\c9 X.K H l (ys.map V.str)/\(ys.map (·.length)).sum+ys.length*sep.length<=16777216/\Q (.str (Str.join sep ys)) H):=by
 intro pins s σ H x vs v us Q I rx rv h
 obtain ⟨sep,l,ys,rfl,rfl,hl,hz,q⟩:=h
 obtain ⟨t,rfl⟩:=rx
 obtain ⟨u,rfl,ru⟩:=rv.one
 cases ru
 obtain ⟨its,r,p,_⟩:=I.list hl
 refine join_list p.isList (ys:=ys) (by simpa using jL r) hz fun t' k=>?_
 have e:Txt.join sep ys=Str.join sep ys:=StrLaws.glued_eq_join sep ys
 rw [e]
 exact ⟨.str _,H,I.tok _,⟨_,rfl⟩,q⟩
theorem JJ:G4 X (fun x lo hi H Q=>∃ z,x=.str z/\z.length<=sizeLine/\Q (.str (Txt.slice z lo hi)) H):=by
 intro pins s σ H x v vl vu lo hi sl Q I rx hs pl pu h
 obtain ⟨z,rfl,hz,q⟩:=h
 obtain ⟨t,rfl⟩:=rx
 refine ⟨"str", _,F.slot_str_getitem.lookup,typeIs_str _ _ _,?_⟩
 obtain ⟨o,ho,hc,hd⟩:=hs
 cases pl with
 | none=>
  cases pu with
  | none=>exact wpAny_getItem_str_slice (l:=none) (u:=none) (st:=none) ⟨o,ho,hc,hd⟩ rfl (post_val_or_str ⟨Nat.le_trans (Txt.slice_le z _ _) hz,fun t' k=>⟨.str _,H,I.tok _,⟨_,rfl⟩,q⟩⟩)
  | int j tj=>exact wpAny_getItem_str_slice (l:=none) (u:=some (j,tj)) (st:=none) ⟨o,ho,hc,hd⟩ rfl (post_val_or_str ⟨Nat.le_trans (Txt.slice_le z _ _) hz,fun t' k=>⟨.str _,H,I.tok _,⟨_,rfl⟩,q⟩⟩)
 | int i ti=>
  cases pu with
  | none=>exact wpAny_getItem_str_slice (l:=some (i,ti)) (u:=none) (st:=none) ⟨o,ho,hc,hd⟩ rfl (post_val_or_str ⟨Nat.le_trans (Txt.slice_le z _ _) hz,fun t' k=>⟨.str _,H,I.tok _,⟨_,rfl⟩,q⟩⟩)
  | int j tj=>exact wpAny_getItem_str_slice (l:=some (i,ti)) (u:=some (j,tj)) (st:=none) ⟨o,ho,hc,hd⟩ rfl (post_val_or_str ⟨Nat.le_trans (Txt.slice_le z _ _) hz,fun t' k=>⟨.str _,H,I.tok _,⟨_,rfl⟩,q⟩⟩)
theorem oF:eE X (compareOp .IsNot) (fun x y H Q=>∃ a b,x=.bl a/\y=.bl b/\Q (.bl (a != b)) H):=by
 intro pins s σ H x y v u Q I rx ry h
 obtain ⟨a,b,rfl,rfl,q⟩:=h
 cases rx
 cases ry
 exact isnot_bool (fR I q rfl)
theorem oG:eu X (.builtin "isinstance") (fun xs H Q=>∃ x T t b,xs=[x,.ty T]/\gu X.K H x t/\PySem.W.kitOne X.K t (.type T)=some b/\Q (.bl b) H):=by
 intro pins s σ H xs us Q I r h
 obtain ⟨x,T,t,b,rfl,ty,e,q⟩:=h
 obtain ⟨u,u',rfl,ru,PK⟩:=vals2 r
 cases PK
 exact lh I ru ty e fun tk=>⟨.bl b,H,I.tok _,rfl,q⟩
theorem jM {ks:List Bool}{its:List Value}(r:Vals (ks.map V.bl) its) (A:Around):TruthOf X.prog X.w A (fun i v=>its.toArray[i]?=some v) (fun i=>ks.getD i true):=by
 intro i v s Q E hv hQ
 have hv:its[i]?=some v:=by simpa using hv
 have hi:i<ks.length:=by
  have h1:=(List.getElem?_eq_some_iff.mp hv).1
  have h2:=r.length
  rw [List.length_map] at h2
  omega
 obtain ⟨u,e,ru⟩:=r.get (i:=i) (x:=.bl ks[i]) (by rw [List.getElem?_map,List.getElem?_eq_getElem hi];rfl)
 rw [hv] at e
 cases e
 cases ru
 have g:ks.getD i true=ks[i]:=by rw [List.getD_eq_getElem?_getD,List.getElem?_eq_getElem hi];rfl
 have hQ:Q (ks.getD i true) s:=hQ
 rw [g] at hQ
 exact wpAny_truthy_bool hQ
theorem range_all (ks:List Bool):(List.range ks.length).all (fun i=>ks.getD i true)=ks.all id:=by
 induction ks with
 | nil=>rfl
 | cons k ks ih=>
  rw [List.length_cons,List.range_succ_eq_map,List.all_cons,List.all_map,List.all_cons,<- ih]
  rfl
theorem range_any (ks:List Bool):(List.range ks.length).any (fun i=>ks.getD i true)=ks.any id:=by
 induction ks with
 | nil=>rfl
 | cons k ks ih=>
  rw [List.length_cons,List.range_succ_eq_map,List.any_cons,List.any_map,List.any_cons,<- ih]
  rfl
theorem zk (hc:X.calm=true):eu X (.builtin "all") (fun xs H Q=>∃ (p:Addr) (ks:List Bool),xs=[.ref p]/\c9 X.K H p (ks.map V.bl)/\Q (.bl (ks.all id)) H):=by
 intro pins s σ H xs us Q I r h
 obtain ⟨p,ks,rfl,hp,q⟩:=h
 obtain ⟨u,rfl,ru⟩:=vals1 r
 cases ru
 obtain ⟨its,rv,pl,hz⟩:=I.list hp
 have hlen:=rv.length
 rw [List.length_map] at hlen
 refine call_all_walk (wpAny_pyIter_list pl.isList ?_)
 have gA:p≠s.heap.objs.size:=let ⟨_,e,_⟩:=pl.isList;Nat.ne_of_lt (Heap.lt_size e)
 refine ⟨s.heap.objs.size,_,[s.heap.objs.size],its.toArray.size,_,_,fun i=>ks.getD i true,rfl,Walks.list (show X.A.in1.handled=none from I.ok.hd hc) s.heap.objs.size p gA its.toArray,⟨⟨_,Heap.get?_push_size _ rfl,rfl,rfl⟩,Heap.IsList.push pl.isList _⟩,jM rv _,fun h' tk kk=>?_⟩
 rw [List.size_toArray,<- hlen,range_all]
 refine ⟨.bl _,H,?_,rfl,q⟩
 refine I.kept fun b o e=>kk b o (fun z=>?_) (Heap.get?_push_of_some _ e)
 have hb:b=s.heap.objs.size:=by simpa using z
 rw [hb] at e
 exact Nat.lt_irrefl _ (Heap.lt_size e)
theorem zl (hc:X.calm=true):eu X (.builtin "any") (fun xs H Q=>∃ (p:Addr) (ks:List Bool),xs=[.ref p]/\c9 X.K H p (ks.map V.bl)/\Q (.bl (ks.any id)) H):=by
 intro pins s σ H xs us Q I r h
 obtain ⟨p,ks,rfl,hp,q⟩:=h
 obtain ⟨u,rfl,ru⟩:=vals1 r
 cases ru
 obtain ⟨its,rv,pl,hz⟩:=I.list hp
 have hlen:=rv.length
 rw [List.length_map] at hlen
 refine call_any_walk (wpAny_pyIter_list pl.isList ?_)
 have gA:p≠s.heap.objs.size:=let ⟨_,e,_⟩:=pl.isList;Nat.ne_of_lt (Heap.lt_size e)
 refine ⟨s.heap.objs.size,_,[s.heap.objs.size],its.toArray.size,_,_,fun i=>ks.getD i true,rfl,Walks.list (show X.A.in1.handled=none from I.ok.hd hc) s.heap.objs.size p gA its.toArray,⟨⟨_,Heap.get?_push_size _ rfl,rfl,rfl⟩,Heap.IsList.push pl.isList _⟩,jM rv _,fun h' tk kk=>?_⟩
 rw [List.size_toArray,<- hlen,range_any]
 refine ⟨.bl _,H,?_,rfl,q⟩
 refine I.kept fun b o e=>kk b o (fun z=>?_) (Heap.get?_push_of_some _ e)
 have hb:b=s.heap.objs.size:=by simpa using z
 rw [hb] at e
 exact Nat.lt_irrefl _ (Heap.lt_size e)
end
end L2
namespace K22
open PySem L2
noncomputable abbrev top (i:Nat):Stmt:=PySem.Challenge.pw_rowblade_k22_a_line_read.main.body.getD i (.Pass ⟨0,0,0,0⟩)
end K22
noncomputable section
namespace KH
open PySem PySem.W PySem.Calls PyProof.Rows L2 K22
abbrev pw:Program:=PySem.Challenge.pw_rowblade_k22_a_line_read
noncomputable abbrev r (a:Nat):Value:=.ref a
noncomputable abbrev O (c:Value) (d:Option Addr) (x:Data) (s:List (Option Value)):Obj:=⟨c,d,x,⟨s⟩⟩
abbrev W:=Params->Obj
abbrev Z:=Str × Nat × Value
noncomputable abbrev D (P:Params) (e:Z):DictEntry:=⟨PyData.keyHash P e.1,.str e.1 e.2.1,e.2.2⟩
abbrev fN (n q:Str) (s:Stmt) (g:Addr) (cl:List (Str × Addr)) (dv kv doc pm:Value) (an:Option Addr) (cd ct:Value) (b:Addr):FuncData:=⟨n,q,gW s,.stmts (b_ s),aJ s,g,cl,dv,kv,doc,pm,an,cd,ct,b⟩
abbrev C (n q:Str) (t u L a b c g:Nat) (x:Addr) (B:Bool) (y:Addr) (k l m o:Value):W:=fun _=>O (.type "code") none (.fields ⟨[.str n t,.str q (t+1),.str "/claim/cut.py" (t+2),.int (Int.ofNat L) 0,.int (Int.ofNat a) 0,.int (Int.ofNat b) 0,.int (Int.ofNat c) 0,.int (Int.ofNat g) 0,r x,.bool B,.int (Int.ofNat 181) 0,r y,k,l,m,o,.int (Int.ofNat u) 0,.int (Int.ofNat L) 0,.str "/claim/cut.py" (u+1)]⟩) []
abbrev cf (n q:Str) (t u L a x:Nat):W:=C n q t u L a 0 0 3 x true (x+1) .none (r (x+2)) (r (x+3)) (r (x+4))
abbrev cg (n:Str) (t u L a x:Nat):W:=cf n n t u L a x
abbrev cc (n:Str) (t L x:Nat):W:=C n n t (t+3) L 0 0 0 0 x false (x+1) .none .none .none .none
abbrev lt (b:Nat) (l:List (Nat × Nat)):W:=fun _=>O .none none (.fields ⟨(l.map fun p=>[.int (Int.ofNat p.1) 0,.int (Int.ofNat b) 0,r p.2]).flatten⟩) []
abbrev fO (n q:Str) (s:Stmt) (m:Value) (c:Nat):W:=fun _=>O (.type "function") none (.func (fN n q s 3 [] .none .none .none m none (r c) .none 0)) []
abbrev fn (n q:Str) (s:Stmt):W:=fun _=>O .none none (.func (fN n q s 0 [] .none .none .none .none none .none .none 0)) []
def sS:Nat->List Str->List Value
 | _,[]=>[]
 | k,x::l=>.str x k::sS (k+1) l
abbrev tS (k:Nat) (l:List Str):W:=fun _=>O (.type "tuple") none (.seq ⟨sS k l⟩ 0) []
abbrev tV (l:List Value):W:=fun _=>O (.type "tuple") none (.seq ⟨l⟩ 0) []
abbrev di (n:Nat) (l:List Z):W:=fun P=>O (.type "dict") none (.dict ⟨l.map (D P)⟩ n) []
abbrev c1 (m:Value) (b:Nat) (q:Str) (L:Nat) (xs:List Z) (st sr n:Nat):W:=di n (("__module__", b,m)::("__qualname__", b+2,.str q (b+1))::("__firstlineno__", b+4,.int (Int.ofNat L) (b+3))::(xs.append [("__static_attributes__", st,r sr)]))
abbrev c2 (m:Value) (b L:Nat) (xs:List Z) (st sr:Nat) (ys:List Z) (dt n:Nat):W:=di n (("__module__", b,m)::("__firstlineno__", b+4,.int (Int.ofNat L) (b+3))::(xs.append (("__static_attributes__", st,r sr)::(ys.append [("__doc__", dt,.none)]))))
abbrev cG (n:Str) (bs mr:List Value) (d:Nat) (su:List Value) (h:Option Value) (t:Nat) (nw:String):W:=fun _=>O (.type "type") none (.cls ⟨n,bs,mr,d,n,true,[],su,false,none,false⟩) [h,none,some (.str n t),some (.str n (t+8)),some (.builtin nw),some (.bool true)]
abbrev ob:Value:=.type "object"
abbrev cB (n:Str) (d b:Nat) (su:List Value) (h t:Nat):W:=cG n [r b] [r (d+1),r b,ob] d su (some (r h)) t "object.__new__"
abbrev c0 (n:Str) (d:Nat) (su:List Value) (t:Nat):W:=cG n [ob] [r (d+1),ob] d su none t "object.__new__"
abbrev fr (c l:Nat) (m:Value):W:=fun _=>O (.type "frame") none .plain [some (r c),some (r 3),some (r l),none,some m,none,some (r 0)]
abbrev is (c:Nat):W:=fun _=>O (.type "builtin_function_or_method") none (.fields ⟨[.builtin "object.__init_subclass__", r c]⟩) []
abbrev su (c:Nat):W:=fun _=>O (.type "super") none (.fields ⟨[r c,r c,r c]⟩) []
noncomputable abbrev gd (t c:Nat):W:=fun _=>O (.type "getset_descriptor") none (.fields ⟨[.str "__dict__" t,r c,.builtin "function.__dict__", .builtin "function.__dict__#set"]⟩) []
abbrev gw (t c:Nat):W:=fun _=>O (.type "getset_descriptor") none (.fields ⟨[.str "__weakref__" t,r c,.builtin "ExceptionGroup.__weakref__", .none]⟩) []
noncomputable abbrev N (o:Params->Obj) (l r:Params->BT):Params->BT:=fun P=>.node (o P) (l P) (r P)
noncomputable abbrev E:Params->BT:=fun _=>.nil
abbrev L (o:Params->Obj):Params->BT:=N o E E
abbrev m0:Value:=.str "__main__" 164
abbrev m1:Value:=.str "rowblade.errors" 187
abbrev m2:Value:=.str "rowblade.lines" 298
abbrev m3:Value:=.str "rowblade.signs" 849
abbrev m4:Value:=.str "rowblade.patterns" 872
abbrev m5:Value:=.str "rowblade.linereading" 993
abbrev m6:Value:=.str "rowblade.rows" 1211
abbrev m7:Value:=.str "rowblade.reading" 1221
abbrev m8:Value:=.str "rowblade.showing" 1264
abbrev m9:Value:=.str "law_rowblade_k22_a_line_read" 1307
abbrev ae:=tV []
abbrev aB:W:=fun P=>O .none none (.fields ⟨[]⟩) []
abbrev Dg:=cc "<module>" 182 1 11
abbrev Dh:=fr 13 3 m0
abbrev d0:List Z:=[("__doc__", 166,.none),("__package__", 167,.none),("__loader__", 168,(.builtin "__main__.__loader__#opaque")),("__spec__", 169,.none),("__annotations__", 170,(r 6)),("__builtins__", 171,(r 4)),("__file__", 173,(.str "/claim/cut.py" 172)),("__cached__", 174,.none),("BladeError", 206,(r 24)),("NoPattern", 222,(r 37)),("NoLine", 247,(r 56)),("TwoMarks", 272,(r 75)),("NoMark", 297,(r 94))]
abbrev o3:=di 14 (("__name__", 165,(.str "rowblade.lines" 298))::d0)
noncomputable abbrev l0:List (Nat × Nat):=[(2,20),(4,33),(6,45),(10,64),(14,83)]
abbrev PL:=lt 0 l0
abbrev Di:=tV [(.type "ValueError")]
abbrev aV:W:=fun P=>O (.type "builtin_function_or_method") none (.fields ⟨[(.builtin "type.__prepare__"),(.type "type")]⟩) []
abbrev G7:=c1 m1 196 "BladeError" 2 [] 201 22 4
abbrev G8:=cc "BladeError" 191 2 18
abbrev G9:=fr 20 17 m1
abbrev Dj:=c2 m1 196 2 [] 201 22 [("__weakref__", 203,(r 25))] 204 3
abbrev Dk:=cG "BladeError" [(.type "ValueError")] [(r 24),(.type "ValueError"),(.type "Exception"),(.type "BaseException"),(.type "object")] 23 [(r 37),(r 56),(r 75),(r 94)] (some (r 15)) 189 "ValueError.__new__"
abbrev Dl:=gw 202 24
abbrev G_:=su 24
abbrev Ha:=is 24
abbrev fP:=tV [(r 24)]
abbrev Hb:=c1 m1 214 "NoPattern" 4 [] 219 35 4
abbrev Hc:=cc "NoPattern" 209 4 31
abbrev Hd:=fr 33 30 m1
abbrev Dm:=c2 m1 214 4 [] 219 35 [] 220 2
abbrev Dn:=cG "NoPattern" [(r 24)] [(r 37),(r 24),(.type "ValueError"),(.type "Exception"),(.type "BaseException"),(.type "object")] 36 [] (some (r 28)) 207 "ValueError.__new__"
abbrev Hf:=su 37
abbrev Hg:=is 37
abbrev Hh:=c1 m1 230 "NoLine" 6 [("__init__", 242,(r 53))] 244 54 5
abbrev Hi:=lt 4 [(8,52)]
abbrev Hj:=cc "NoLine" 225 6 43
abbrev Hk:=fr 45 42 m1
abbrev Dp:=tS 238 ["self", "row"]
abbrev Hl:=fn "__init__" "NoLine.__init__" (inClass (top 3) 0)
abbrev Dq:=cf "__init__" "NoLine.__init__" 235 240 8 2 47
abbrev Dr:=fO "__init__" "NoLine.__init__" (inClass (top 3) 0) m1 52
abbrev Dt:=tS 243 ["row"]
abbrev Du:=c2 m1 230 6 [("__init__", 242,(r 53))] 244 54 [] 245 2
abbrev Dv:=cG "NoLine" [(r 24)] [(r 56),(r 24),(.type "ValueError"),(.type "Exception"),(.type "BaseException"),(.type "object")] 55 [] (some (r 40)) 223 "ValueError.__new__"
abbrev Hm:=su 56
abbrev Hn:=is 56
abbrev Ho:=c1 m1 255 "TwoMarks" 10 [("__init__", 267,(r 72))] 269 73 5
abbrev Hq:=lt 4 [(12,71)]
abbrev Hr:=cc "TwoMarks" 250 10 62
abbrev Hs:=fr 64 61 m1
abbrev Dw:=tS 263 ["self", "row"]
abbrev Ht:=fn "__init__" "TwoMarks.__init__" (inClass (top 4) 0)
abbrev Dy:=cf "__init__" "TwoMarks.__init__" 260 265 12 2 66
abbrev Dz:=fO "__init__" "TwoMarks.__init__" (inClass (top 4) 0) m1 71
abbrev DA:=tS 268 ["row"]
abbrev DB:=c2 m1 255 10 [("__init__", 267,(r 72))] 269 73 [] 270 2
abbrev DC:=cG "TwoMarks" [(r 24)] [(r 75),(r 24),(.type "ValueError"),(.type "Exception"),(.type "BaseException"),(.type "object")] 74 [] (some (r 59)) 248 "ValueError.__new__"
abbrev Hu:=su 75
abbrev Hv:=is 75
abbrev Hw:=c1 m1 280 "NoMark" 14 [("__init__", 292,(r 91))] 294 92 5
abbrev Hx:=lt 4 [(16,90)]
abbrev Hy:=cc "NoMark" 275 14 81
abbrev Hz:=fr 83 80 m1
abbrev DE:=tS 288 ["self", "row"]
abbrev HA:=fn "__init__" "NoMark.__init__" (inClass (top 5) 0)
abbrev DF:=cf "__init__" "NoMark.__init__" 285 290 16 2 85
abbrev DG:=fO "__init__" "NoMark.__init__" (inClass (top 5) 0) m1 90
abbrev DH:=tS 293 ["row"]
abbrev DI:=c2 m1 280 14 [("__init__", 292,(r 91))] 294 92 [] 295 2
abbrev DJ:=cG "NoMark" [(r 24)] [(r 94),(r 24),(.type "ValueError"),(.type "Exception"),(.type "BaseException"),(.type "object")] 93 [] (some (r 78)) 273 "ValueError.__new__"
abbrev HB:=su 94
abbrev HC:=is 94
abbrev d1:=d0.append [("Program", 328,(r 113)),("Line", 359,(r 134)),("Cond", 379,(r 148)),("Always", 395,(r 162)),("RowIs", 420,(r 181))]
abbrev XC:=di 19 (("__name__", 165,(.str "rowblade.lines" 298))::d1)
abbrev l1:=l0++[(19,102),(23,123),(28,144),(30,158),(32,170)]
abbrev PM:=lt 0 l1
abbrev JK:=c1 m2 307 "Program" 19 [("__init__", 319,(r 110))] 321 111 5
abbrev rB:=lt 4 [(21,109)]
abbrev rC:=cc "Program" 302 19 100
abbrev rD:=fr 102 99 m2
abbrev oH:=tS 315 ["self", "lines"]
abbrev rE:=fn "__init__" "Program.__init__" (inClass (top 7) 0)
abbrev oJ:=cf "__init__" "Program.__init__" 312 317 21 2 104
abbrev oK:=fO "__init__" "Program.__init__" (inClass (top 7) 0) m2 109
abbrev oN:=tS 320 ["lines"]
abbrev oO:=c2 m2 307 19 [("__init__", 319,(r 110))] 321 111 [("__dict__", 323,(r 114)),("__weakref__", 325,(r 115))] 326 4
abbrev oQ:=c0 "Program" 112 [] 300
abbrev oR:=gd 322 113
abbrev oS:=gw 324 113
abbrev rF:=su 113
abbrev rG:=is 113
abbrev rH:=c1 m2 336 "Line" 23 [("__init__", 349,(r 131))] 352 132 5
abbrev rJ:=lt 4 [(25,130)]
abbrev rK:=cc "Line" 331 23 121
abbrev rL:=fr 123 120 m2
abbrev oU:=tS 344 ["self", "cond", "deed"]
abbrev rM:=fn "__init__" "Line.__init__" (inClass (top 8) 0)
abbrev oV:=cf "__init__" "Line.__init__" 341 347 25 3 125
abbrev oW:=fO "__init__" "Line.__init__" (inClass (top 8) 0) m2 130
abbrev oX:=tS 350 ["cond", "deed"]
abbrev oY:=c2 m2 336 23 [("__init__", 349,(r 131))] 352 132 [("__dict__", 354,(r 135)),("__weakref__", 356,(r 136))] 357 4
abbrev oZ:=c0 "Line" 133 [] 329
abbrev o8:=gd 353 134
abbrev o9:=gw 355 134
abbrev rN:=su 134
abbrev rO:=is 134
abbrev wz:=c1 m2 367 "Cond" 28 [] 372 146 4
abbrev wA:=cc "Cond" 362 28 142
abbrev rP:=fr 144 141 m2
abbrev rQ:=c2 m2 367 28 [] 372 146 [("__dict__", 374,(r 149)),("__weakref__", 376,(r 150))] 377 4
abbrev XD:=c0 "Cond" 147 [(r 162),(r 181)] 360
abbrev rR:=gd 373 148
abbrev rT:=gw 375 148
abbrev wB:=su 148
abbrev wC:=is 148
abbrev bu:=tV [(r 148)]
abbrev wD:=c1 m2 387 "Always" 30 [] 392 160 4
abbrev wF:=cc "Always" 382 30 156
abbrev wG:=fr 158 155 m2
abbrev rV:=c2 m2 387 30 [] 392 160 [] 393 2
abbrev rW:=cB "Always" 161 148 [] 153 380
abbrev wH:=su 162
abbrev wI:=is 162
abbrev wJ:=c1 m2 403 "RowIs" 32 [("__init__", 415,(r 178))] 417 179 5
abbrev wK:=lt 4 [(34,177)]
abbrev wL:=cc "RowIs" 398 32 168
abbrev wM:=fr 170 167 m2
abbrev o_:=tS 411 ["self", "number"]
abbrev rX:=fn "__init__" "RowIs.__init__" (inClass (top 11) 0)
abbrev pe:=cf "__init__" "RowIs.__init__" 408 413 34 2 172
abbrev ph:=fO "__init__" "RowIs.__init__" (inClass (top 11) 0) m2 177
abbrev pj:=tS 416 ["number"]
abbrev pA:=c2 m2 403 32 [("__init__", 415,(r 178))] 417 179 [] 418 2
abbrev pC:=cB "RowIs" 180 148 [] 165 396
abbrev rY:=su 181
abbrev rZ:=is 181
abbrev d2:=d1.append [("Last", 436,(r 193)),("Like", 461,(r 212)),("Soon", 488,(r 231)),("FromTo", 515,(r 250)),("Not", 540,(r 269))]
abbrev XE:=di 24 (("__name__", 165,(.str "rowblade.lines" 298))::d2)
abbrev l2:=l1++[(36,189),(38,201),(42,220),(47,239),(52,258)]
abbrev PN:=lt 0 l2
abbrev JL:=c0 "Cond" 147 [(r 162),(r 181),(r 193),(r 212),(r 231),(r 250),(r 269)] 360
abbrev wN:=c1 m2 428 "Last" 36 [] 433 191 4
abbrev wO:=cc "Last" 423 36 187
abbrev wQ:=fr 189 186 m2
abbrev r6:=c2 m2 428 36 [] 433 191 [] 434 2
abbrev r8:=cB "Last" 192 148 [] 184 421
abbrev wR:=su 193
abbrev wU:=is 193
abbrev wV:=c1 m2 444 "Like" 38 [("__init__", 456,(r 209))] 458 210 5
abbrev wW:=lt 4 [(40,208)]
abbrev wX:=cc "Like" 439 38 199
abbrev wY:=fr 201 198 m2
abbrev r9:=tS 452 ["self", "pattern"]
abbrev wZ:=fn "__init__" "Like.__init__" (inClass (top 13) 0)
abbrev r_:=cf "__init__" "Like.__init__" 449 454 40 2 203
abbrev sd:=fO "__init__" "Like.__init__" (inClass (top 13) 0) m2 208
abbrev se:=tS 457 ["pattern"]
abbrev sf:=c2 m2 444 38 [("__init__", 456,(r 209))] 458 210 [] 459 2
abbrev sj:=cB "Like" 211 148 [] 196 437
abbrev w_:=su 212
abbrev xf:=is 212
abbrev xg:=c1 m2 469 "Soon" 42 [("__init__", 482,(r 228))] 485 229 5
abbrev xh:=lt 4 [(44,227)]
abbrev xj:=cc "Soon" 464 42 218
abbrev xl:=fr 220 217 m2
abbrev sy:=tS 477 ["self", "many", "pattern"]
abbrev xm:=fn "__init__" "Soon.__init__" (inClass (top 14) 0)
abbrev sA:=cf "__init__" "Soon.__init__" 474 480 44 3 222
abbrev sC:=fO "__init__" "Soon.__init__" (inClass (top 14) 0) m2 227
abbrev sD:=tS 483 ["many", "pattern"]
abbrev sE:=c2 m2 469 42 [("__init__", 482,(r 228))] 485 229 [] 486 2
abbrev sF:=cB "Soon" 230 148 [] 215 462
abbrev xn:=su 231
abbrev xo:=is 231
abbrev xq:=c1 m2 496 "FromTo" 47 [("__init__", 509,(r 247))] 512 248 5
abbrev xr:=lt 4 [(49,246)]
abbrev xu:=cc "FromTo" 491 47 237
abbrev xw:=fr 239 236 m2
abbrev sG:=tS 504 ["self", "first", "second"]
abbrev xx:=fn "__init__" "FromTo.__init__" (inClass (top 15) 0)
abbrev sH:=cf "__init__" "FromTo.__init__" 501 507 49 3 241
abbrev sI:=fO "__init__" "FromTo.__init__" (inClass (top 15) 0) m2 246
abbrev sJ:=tS 510 ["first", "second"]
abbrev sL:=c2 m2 496 47 [("__init__", 509,(r 247))] 512 248 [] 513 2
abbrev sM:=cB "FromTo" 249 148 [] 234 489
abbrev xy:=su 250
abbrev xA:=is 250
abbrev xC:=c1 m2 523 "Not" 52 [("__init__", 535,(r 266))] 537 267 5
abbrev xD:=lt 4 [(54,265)]
abbrev xE:=cc "Not" 518 52 256
abbrev xF:=fr 258 255 m2
abbrev sN:=tS 531 ["self", "inner"]
abbrev xG:=fn "__init__" "Not.__init__" (inClass (top 16) 0)
abbrev sO:=cf "__init__" "Not.__init__" 528 533 54 2 260
abbrev sP:=fO "__init__" "Not.__init__" (inClass (top 16) 0) m2 265
abbrev sQ:=tS 536 ["inner"]
abbrev xH:=c2 m2 523 52 [("__init__", 535,(r 266))] 537 267 [] 538 2
abbrev xJ:=cB "Not" 268 148 [] 253 516
abbrev xK:=su 269
abbrev xM:=is 269
abbrev d3:=d2.append [("End", 556,(r 281)),("Deed", 576,(r 293)),("Mark", 601,(r 314)),("Drop", 617,(r 326)),("Print", 633,(r 338))]
abbrev XF:=di 29 (("__name__", 165,(.str "rowblade.lines" 298))::d3)
abbrev l3:=l2++[(56,277),(58,289),(60,303),(64,322),(66,334)]
abbrev PQ:=lt 0 l3
abbrev jN:=c0 "Cond" 147 [(r 162),(r 181),(r 193),(r 212),(r 231),(r 250),(r 269),(r 281)] 360
abbrev DK:=c1 m2 548 "End" 56 [] 553 279 4
abbrev DL:=cc "End" 543 56 275
abbrev DM:=fr 277 274 m2
abbrev zm:=c2 m2 548 56 [] 553 279 [] 554 2
abbrev zo:=cB "End" 280 148 [] 272 541
abbrev DN:=su 281
abbrev DO:=is 281
abbrev DP:=c1 m2 564 "Deed" 58 [] 569 291 4
abbrev DQ:=cc "Deed" 559 58 287
abbrev DR:=fr 289 286 m2
abbrev zp:=c2 m2 564 58 [] 569 291 [("__dict__", 571,(r 294)),("__weakref__", 573,(r 295))] 574 4
abbrev XG:=c0 "Deed" 292 [(r 314),(r 326),(r 338)] 557
abbrev zq:=gd 570 293
abbrev zr:=gw 572 293
abbrev DS:=su 293
abbrev DT:=is 293
abbrev bo:=tV [(r 293)]
abbrev DU:=c1 m2 584 "Mark" 60 [("__init__", 596,(r 311))] 598 312 5
abbrev zt:=lt 4 [(62,310)]
abbrev zu:=cc "Mark" 579 60 301
abbrev zw:=fr 303 300 m2
abbrev xN:=tS 592 ["self", "name"]
abbrev zx:=fn "__init__" "Mark.__init__" (inClass (top 19) 0)
abbrev xO:=cf "__init__" "Mark.__init__" 589 594 62 2 305
abbrev xP:=fO "__init__" "Mark.__init__" (inClass (top 19) 0) m2 310
abbrev xQ:=tS 597 ["name"]
abbrev xR:=c2 m2 584 60 [("__init__", 596,(r 311))] 598 312 [] 599 2
abbrev xS:=cB "Mark" 313 293 [] 298 577
abbrev zy:=su 314
abbrev zz:=is 314
abbrev zA:=c1 m2 609 "Drop" 64 [] 614 324 4
abbrev zB:=cc "Drop" 604 64 320
abbrev zC:=fr 322 319 m2
abbrev xT:=c2 m2 609 64 [] 614 324 [] 615 2
abbrev xU:=cB "Drop" 325 293 [] 317 602
abbrev zD:=su 326
abbrev zE:=is 326
abbrev zF:=c1 m2 625 "Print" 66 [] 630 336 4
abbrev zG:=cc "Print" 620 66 332
abbrev zH:=fr 334 331 m2
abbrev xV:=c2 m2 625 66 [] 630 336 [] 631 2
abbrev xW:=cB "Print" 337 293 [] 329 618
abbrev zI:=su 338
abbrev zJ:=is 338
abbrev d4:=d3.append [("Done", 649,(r 350)),("Say", 674,(r 369)),("Swap", 703,(r 388)),("Join", 728,(r 407)),("Pile", 755,(r 426))]
abbrev XH:=di 34 (("__name__", 165,(.str "rowblade.lines" 298))::d4)
abbrev l4:=l3++[(68,346),(70,358),(74,377),(80,396),(84,415)]
abbrev PR:=lt 0 l4
abbrev JM:=c0 "Deed" 292 [(r 314),(r 326),(r 338),(r 350),(r 369),(r 388),(r 407),(r 426)] 557
abbrev DV:=c1 m2 641 "Done" 68 [] 646 348 4
abbrev DW:=cc "Done" 636 68 344
abbrev DX:=fr 346 343 m2
abbrev zK:=c2 m2 641 68 [] 646 348 [] 647 2
abbrev zL:=cB "Done" 349 293 [] 341 634
abbrev DY:=su 350
abbrev DZ:=is 350
abbrev D0:=c1 m2 657 "Say" 70 [("__init__", 669,(r 366))] 671 367 5
abbrev D3:=lt 4 [(72,365)]
abbrev D4:=cc "Say" 652 70 356
abbrev D5:=fr 358 355 m2
abbrev zM:=tS 665 ["self", "words"]
abbrev D6:=fn "__init__" "Say.__init__" (inClass (top 23) 0)
abbrev zN:=cf "__init__" "Say.__init__" 662 667 72 2 360
abbrev zO:=fO "__init__" "Say.__init__" (inClass (top 23) 0) m2 365
abbrev zP:=tS 670 ["words"]
abbrev zQ:=c2 m2 657 70 [("__init__", 669,(r 366))] 671 367 [] 672 2
abbrev zR:=cB "Say" 368 293 [] 353 650
abbrev D7:=su 369
abbrev D8:=is 369
abbrev D9:=c1 m2 682 "Swap" 74 [("__init__", 696,(r 385))] 700 386 5
abbrev D_:=lt 4 [(76,384)]
abbrev Ea:=cc "Swap" 677 74 375
abbrev Eb:=fr 377 374 m2
abbrev zS:=tS 690 ["self", "pattern", "words", "every"]
abbrev Ec:=fn "__init__" "Swap.__init__" (inClass (top 24) 0)
abbrev zT:=cf "__init__" "Swap.__init__" 687 694 76 4 379
abbrev zU:=fO "__init__" "Swap.__init__" (inClass (top 24) 0) m2 384
abbrev zV:=tS 697 ["every", "pattern", "words"]
abbrev zW:=c2 m2 682 74 [("__init__", 696,(r 385))] 700 386 [] 701 2
abbrev zX:=cB "Swap" 387 293 [] 372 675
abbrev Ed:=su 388
abbrev Ef:=is 388
abbrev Eg:=c1 m2 711 "Join" 80 [("__init__", 723,(r 404))] 725 405 5
abbrev Eh:=lt 4 [(82,403)]
abbrev JN:=cc "Join" 706 80 394
abbrev JO:=fr 396 393 m2
abbrev Ei:=tS 719 ["self", "most"]
abbrev JP:=fn "__init__" "Join.__init__" (inClass (top 25) 0)
abbrev Ej:=cf "__init__" "Join.__init__" 716 721 82 2 398
abbrev Ek:=fO "__init__" "Join.__init__" (inClass (top 25) 0) m2 403
abbrev El:=tS 724 ["most"]
abbrev Em:=c2 m2 711 80 [("__init__", 723,(r 404))] 725 405 [] 726 2
abbrev En:=cB "Join" 406 293 [] 391 704
abbrev JQ:=su 407
abbrev JR:=is 407
abbrev Eo:=c1 m2 736 "Pile" 84 [("__init__", 749,(r 423))] 752 424 5
abbrev JS:=lt 4 [(86,422)]
abbrev JT:=cc "Pile" 731 84 413
abbrev Ep:=fr 415 412 m2
abbrev Er:=tS 744 ["self", "shelf", "most"]
abbrev Es:=fn "__init__" "Pile.__init__" (inClass (top 26) 0)
abbrev Et:=cf "__init__" "Pile.__init__" 741 747 86 3 417
abbrev Eu:=fO "__init__" "Pile.__init__" (inClass (top 26) 0) m2 422
abbrev Ew:=tS 750 ["most", "shelf"]
abbrev Ex:=c2 m2 736 84 [("__init__", 749,(r 423))] 752 424 [] 753 2
abbrev Ey:=cB "Pile" 425 293 [] 410 729
abbrev JU:=su 426
abbrev JV:=is 426
abbrev d5:=d4.append [("Bring", 780,(r 445)),("Go", 805,(r 464)),("Add", 832,(r 483)),("Tell", 848,(r 495)),("SIGNS", 852,(.str "abcdefghijklmnopqrstuvwxyzABCDEFGHIJKLMNOPQRSTUVWXYZ0123456789 !\"#$&'()*+,-./:;<=>?\x40[\\]^_`{|}~" 851)),("SMALL_LETTERS", 854,(.str "abcdefghijklmnopqrstuvwxyz" 853)),("FIGURES", 856,(.str "0123456789" 855)),("made_of", 862,(r 502)),("beginning_of", 871,(r 509)),("MOST_ITEMS", 875,(.int (8) 874)),("MOST_SIGNS", 877,(.int (12) 876)),("NEVER_PLAIN", 879,(.str "^$.[]*+?/" 878)),("NEVER_IN_A_SET", 881,(.str "]^/" 880)),("ONCE", 883,(.str "1" 882)),("HOW_MANY", 885,(.str "*+?" 884)),("may_stand_plain", 892,(r 516)),("pattern", 903,(r 523))]
abbrev XI:=di 51 (("__name__", 165,(.str "rowblade.patterns" 872))::d5)
abbrev l5:=l4++[(89,434),(93,453),(97,472),(102,491),(108,501),(110,508),(122,515),(124,522)]
abbrev PU:=lt 0 l5
abbrev mC:=c0 "Deed" 292 [(r 314),(r 326),(r 338),(r 350),(r 369),(r 388),(r 407),(r 426),(r 445),(r 464),(r 483),(r 495)] 557
abbrev JW:=c1 m2 763 "Bring" 89 [("__init__", 775,(r 442))] 777 443 5
abbrev JX:=lt 4 [(91,441)]
abbrev JY:=cc "Bring" 758 89 432
abbrev JZ:=fr 434 431 m2
abbrev Ez:=tS 771 ["self", "shelf"]
abbrev J0:=fn "__init__" "Bring.__init__" (inClass (top 27) 0)
abbrev EA:=cf "__init__" "Bring.__init__" 768 773 91 2 436
abbrev EB:=fO "__init__" "Bring.__init__" (inClass (top 27) 0) m2 441
abbrev EC:=tS 776 ["shelf"]
abbrev ED:=c2 m2 763 89 [("__init__", 775,(r 442))] 777 443 [] 778 2
abbrev EE:=cB "Bring" 444 293 [] 429 756
abbrev J1:=su 445
abbrev J2:=is 445
abbrev J3:=c1 m2 788 "Go" 93 [("__init__", 800,(r 461))] 802 462 5
abbrev J4:=lt 4 [(95,460)]
abbrev J5:=cc "Go" 783 93 451
abbrev J7:=fr 453 450 m2
abbrev EF:=tS 796 ["self", "name"]
abbrev J8:=fn "__init__" "Go.__init__" (inClass (top 28) 0)
abbrev EG:=cf "__init__" "Go.__init__" 793 798 95 2 455
abbrev EH:=fO "__init__" "Go.__init__" (inClass (top 28) 0) m2 460
abbrev EI:=tS 801 ["name"]
abbrev EJ:=c2 m2 788 93 [("__init__", 800,(r 461))] 802 462 [] 803 2
abbrev EK:=cB "Go" 463 293 [] 448 781
abbrev J9:=su 464
abbrev J_:=is 464
abbrev Ka:=c1 m2 813 "Add" 97 [("__init__", 826,(r 480))] 829 481 5
abbrev Kc:=lt 4 [(99,479)]
abbrev Kd:=cc "Add" 808 97 470
abbrev Ke:=fr 472 469 m2
abbrev EL:=tS 821 ["self", "first", "second"]
abbrev Kf:=fn "__init__" "Add.__init__" (inClass (top 29) 0)
abbrev EM:=cf "__init__" "Add.__init__" 818 824 99 3 474
abbrev EN:=fO "__init__" "Add.__init__" (inClass (top 29) 0) m2 479
abbrev EO:=tS 827 ["first", "second"]
abbrev ER:=c2 m2 813 97 [("__init__", 826,(r 480))] 829 481 [] 830 2
abbrev ES:=cB "Add" 482 293 [] 467 806
abbrev Kg:=su 483
abbrev Kh:=is 483
abbrev Kl:=c1 m2 840 "Tell" 102 [] 845 493 4
abbrev Km:=cc "Tell" 835 102 489
abbrev Kn:=fr 491 488 m2
abbrev ET:=c2 m2 840 102 [] 845 493 [] 846 2
abbrev EU:=cB "Tell" 494 293 [] 486 833
abbrev Ko:=su 495
abbrev Kp:=is 495
abbrev Kq:=fn "made_of" "made_of" (top 35)
abbrev EV:=C "made_of" "made_of" 857 860 108 2 0 0 3 498 true 499 .none .none .none (r 500)
abbrev EW:=fO "made_of" "made_of" (top 35) m3 501
abbrev EX:=tS 866 ["text", "signs", "many"]
abbrev Kr:=fn "beginning_of" "beginning_of" (top 36)
abbrev EY:=cg "beginning_of" 863 869 110 2 503
abbrev EZ:=fO "beginning_of" "beginning_of" (top 36) m3 508
abbrev E3:=tS 889 ["sign"]
abbrev Ks:=fn "may_stand_plain" "may_stand_plain" (top 44)
abbrev E4:=cg "may_stand_plain" 886 890 122 1 510
abbrev E5:=fO "may_stand_plain" "may_stand_plain" (top 44) m4 515
abbrev E6:=tS 896 ["text", "front", "body", "back", "items"]
abbrev Ku:=fn "pattern" "pattern" (top 45)
abbrev E7:=cg "pattern" 893 901 124 1 517
abbrev E8:=fO "pattern" "pattern" (top 45) m4 522
abbrev d6:=(d5.append [("items_of", 914,(r 530)),("place_behind_core", 923,(r 537)),("many_at", 931,(r 544)),("item_of", 939,(r 551)),("set_item", 945,(r 556)),("is_written_plain", 953,(r 563)),("written", 964,(r 570)),("written_core", 972,(r 577)),("may_be_empty", 979,(r 584)),("least_length", 985,(r 589)),("may_be_left_out", 992,(r 596)),("COND_BEGINNINGS", 1002,(r 597)),("MOST_ROW", 1004,(.int (999) 1003)),("MOST_FIGURES", 1006,(.int (3) 1005)),("MOST_SOON", 1008,(.int (3) 1007)),("LEAST_JOIN", 1010,(.int (2) 1009)),("MOST_SMALL", 1012,(.int (9) 1011)),("MOST_LETTERS", 1014,(.int (8) 1013)),("MOST_TEXT", 1016,(.int (40) 1015)),("Scan", 1089,(r 649)),("line_of", 1099,(r 660)),("line_next", 1105,(r 665)),("cond_next", 1112,(r 672)),("plain_cond_next", 1121,(r 679)),("row_or_pattern_next", 1128,(r 686))]).append [("deed_next", 1135,(r 693)),("swap_next", 1144,(r 700)),("pile_next", 1152,(r 707)),("add_next", 1160,(r 714)),("number_next", 1171,(r 721)),("name_next", 1179,(r 728)),("words_next", 1187,(r 735)),("pattern_next", 1195,(r 742))]
abbrev XJ:=di 84 (("__name__", 165,(.str "rowblade.linereading" 993))::d6)
abbrev l6:=l5++[(136,529),(145,536),(152,543),(156,550),(164,555),(176,562),(178,569),(185,576),(193,583),(195,588),(197,595),(208,603),(240,659),(246,664),(254,671),(260,678),(272,685),(276,692),(301,699),(305,706),(310,713),(314,720),(322,727),(327,734),(332,741)]
abbrev PV:=lt 0 l6
abbrev Kv:=tS 907 ["body", "items", "place", "behind", "many"]
abbrev PX:=fn "items_of" "items_of" (top 46)
abbrev Kw:=cg "items_of" 904 912 136 1 524
abbrev Kz:=fO "items_of" "items_of" (top 46) m4 529
abbrev KA:=tS 918 ["body", "place", "bracket"]
abbrev PY:=fn "place_behind_core" "place_behind_core" (top 47)
abbrev KC:=cg "place_behind_core" 915 921 145 2 531
abbrev KD:=fO "place_behind_core" "place_behind_core" (top 47) m4 536
abbrev KG:=tS 927 ["body", "place"]
abbrev PZ:=fn "many_at" "many_at" (top 48)
abbrev KI:=cg "many_at" 924 929 152 2 538
abbrev KJ:=fO "many_at" "many_at" (top 48) m4 543
abbrev KL:=tS 935 ["core", "many"]
abbrev P0:=fn "item_of" "item_of" (top 49)
abbrev KN:=cg "item_of" 932 937 156 2 545
abbrev KO:=fO "item_of" "item_of" (top 49) m4 550
abbrev P4:=fn "set_item" "set_item" (top 50)
abbrev KP:=C "set_item" "set_item" 940 943 164 2 0 0 3 552 true 553 .none .none .none (r 554)
abbrev KQ:=fO "set_item" "set_item" (top 50) m4 555
abbrev KR:=tS 949 ["signs", "others"]
abbrev P5:=fn "is_written_plain" "is_written_plain" (top 51)
abbrev KS:=cg "is_written_plain" 946 951 176 2 557
abbrev KU:=fO "is_written_plain" "is_written_plain" (top 51) m4 562
abbrev KW:=tS 957 ["one", "parts", "signs", "others", "many"]
abbrev P6:=fn "written" "written" (top 52)
abbrev KY:=cg "written" 954 962 178 1 564
abbrev KZ:=fO "written" "written" (top 52) m4 569
abbrev K0:=tS 968 ["signs", "others"]
abbrev P7:=fn "written_core" "written_core" (top 53)
abbrev K1:=cg "written_core" 965 970 185 2 571
abbrev K2:=fO "written_core" "written_core" (top 53) m4 576
abbrev K3:=tS 976 ["one"]
abbrev P8:=fn "may_be_empty" "may_be_empty" (top 54)
abbrev K4:=cg "may_be_empty" 973 977 193 1 578
abbrev K5:=fO "may_be_empty" "may_be_empty" (top 54) m4 583
abbrev P9:=fn "least_length" "least_length" (top 55)
abbrev K6:=C "least_length" "least_length" 980 983 195 1 0 0 3 585 true 586 .none .none .none (r 587)
abbrev K7:=fO "least_length" "least_length" (top 55) m4 588
abbrev K8:=tS 989 ["item"]
abbrev P_:=fn "may_be_left_out" "may_be_left_out" (top 56)
abbrev K9:=cg "may_be_left_out" 986 990 197 1 590
abbrev K_:=fO "may_be_left_out" "may_be_left_out" (top 56) m4 595
abbrev La:=tS 995 ["row ", "last", "/", "soon ", "from ", "not ", "end"]
abbrev Qa:=c1 m5 1024 "Scan" 208 [("__init__", 1037,(r 611)),("refuse", 1044,(r 618)),("passes", 1052,(r 625)),("must_pass", 1060,(r 632)),("while_made_of", 1069,(r 639)),("between", 1079,(r 646))] 1082 647 10
abbrev Qc:=lt 4 [(210,610),(214,617),(217,624),(223,631),(227,638),(232,645)]
abbrev Qd:=cc "Scan" 1019 208 601
abbrev Qe:=fr 603 600 m5
abbrev Lb:=tS 1032 ["self", "row", "number"]
abbrev Qf:=fn "__init__" "Scan.__init__" (inClass (top 66) 0)
abbrev Ld:=cf "__init__" "Scan.__init__" 1029 1035 210 3 605
abbrev Le:=fO "__init__" "Scan.__init__" (inClass (top 66) 0) m5 610
abbrev Lf:=tS 1041 ["self"]
abbrev Qg:=fn "refuse" "Scan.refuse" (inClass (top 66) 1)
abbrev Lg:=cf "refuse" "Scan.refuse" 1038 1042 214 1 612
abbrev Lh:=fO "refuse" "Scan.refuse" (inClass (top 66) 1) m5 617
abbrev Li:=tS 1048 ["self", "words"]
abbrev Qh:=fn "passes" "Scan.passes" (inClass (top 66) 2)
abbrev Lj:=cf "passes" "Scan.passes" 1045 1050 217 2 619
abbrev Ll:=fO "passes" "Scan.passes" (inClass (top 66) 2) m5 624
abbrev Lm:=tS 1056 ["self", "words"]
abbrev Qi:=fn "must_pass" "Scan.must_pass" (inClass (top 66) 3)
abbrev Ln:=cf "must_pass" "Scan.must_pass" 1053 1058 223 2 626
abbrev Lo:=fO "must_pass" "Scan.must_pass" (inClass (top 66) 3) m5 631
abbrev Lp:=tS 1064 ["self", "signs", "taken"]
abbrev Qj:=fn "while_made_of" "Scan.while_made_of" (inClass (top 66) 4)
abbrev Lq:=cf "while_made_of" "Scan.while_made_of" 1061 1067 227 2 633
abbrev Lr:=fO "while_made_of" "Scan.while_made_of" (inClass (top 66) 4) m5 638
abbrev Ls:=tS 1073 ["self", "sign", "place", "inside"]
abbrev Qk:=fn "between" "Scan.between" (inClass (top 66) 5)
abbrev Lu:=cf "between" "Scan.between" 1070 1077 232 2 640
abbrev Lv:=fO "between" "Scan.between" (inClass (top 66) 5) m5 645
abbrev Lw:=tS 1080 ["number", "rest"]
abbrev Lx:=c2 m5 1024 208 [("__init__", 1037,(r 611)),("refuse", 1044,(r 618)),("passes", 1052,(r 625)),("must_pass", 1060,(r 632)),("while_made_of", 1069,(r 639)),("between", 1079,(r 646))] 1082 647 [("__dict__", 1084,(r 650)),("__weakref__", 1086,(r 651))] 1087 4
abbrev Ly:=c0 "Scan" 648 [] 1017
abbrev Lz:=gd 1083 649
abbrev LA:=gw 1085 649
abbrev Ql:=su 649
abbrev Qm:=is 649
abbrev LB:=tS 1093 ["row", "number", "scan", "line"]
abbrev Qn:=fn "line_of" "line_of" (top 67)
abbrev LC:=cg "line_of" 1090 1097 240 2 654
abbrev LD:=fO "line_of" "line_of" (top 67) m5 659
abbrev Qp:=fn "line_next" "line_next" (top 68)
abbrev LF:=C "line_next" "line_next" 1100 1103 246 1 0 0 3 661 true 662 .none .none .none (r 663)
abbrev LG:=fO "line_next" "line_next" (top 68) m5 664
abbrev LH:=tS 1109 ["scan"]
abbrev Qq:=fn "cond_next" "cond_next" (top 69)
abbrev LI:=cg "cond_next" 1106 1110 254 1 666
abbrev LJ:=fO "cond_next" "cond_next" (top 69) m5 671
abbrev LK:=tS 1116 ["scan", "many", "first"]
abbrev Qs:=fn "plain_cond_next" "plain_cond_next" (top 70)
abbrev LL:=cg "plain_cond_next" 1113 1119 260 1 673
abbrev LO:=fO "plain_cond_next" "plain_cond_next" (top 70) m5 678
abbrev LP:=tS 1125 ["scan"]
abbrev Qt:=fn "row_or_pattern_next" "row_or_pattern_next" (top 71)
abbrev LQ:=cg "row_or_pattern_next" 1122 1126 272 1 680
abbrev LR:=fO "row_or_pattern_next" "row_or_pattern_next" (top 71) m5 685
abbrev LS:=tS 1132 ["scan"]
abbrev Qu:=fn "deed_next" "deed_next" (top 72)
abbrev LU:=cg "deed_next" 1129 1133 276 1 687
abbrev LV:=fO "deed_next" "deed_next" (top 72) m5 692
abbrev LW:=tS 1139 ["scan", "every", "one"]
abbrev Qv:=fn "swap_next" "swap_next" (top 73)
abbrev LX:=cg "swap_next" 1136 1142 301 2 694
abbrev LY:=fO "swap_next" "swap_next" (top 73) m5 699
abbrev LZ:=tS 1148 ["scan", "shelf"]
abbrev Qw:=fn "pile_next" "pile_next" (top 74)
abbrev L0:=cg "pile_next" 1145 1150 305 1 701
abbrev L3:=fO "pile_next" "pile_next" (top 74) m5 706
abbrev L4:=tS 1156 ["scan", "first"]
abbrev Qx:=fn "add_next" "add_next" (top 75)
abbrev L5:=cg "add_next" 1153 1158 310 1 708
abbrev L6:=fO "add_next" "add_next" (top 75) m5 713
abbrev L7:=tS 1164 ["scan", "least", "most", "figures", "number"]
abbrev Qy:=fn "number_next" "number_next" (top 76)
abbrev L8:=cg "number_next" 1161 1169 314 3 715
abbrev L_:=fO "number_next" "number_next" (top 76) m5 720
abbrev Ma:=tS 1175 ["scan", "name"]
abbrev Qz:=fn "name_next" "name_next" (top 77)
abbrev Mb:=cg "name_next" 1172 1177 322 1 722
abbrev Mc:=fO "name_next" "name_next" (top 77) m5 727
abbrev Me:=tS 1183 ["scan", "words"]
abbrev QA:=fn "words_next" "words_next" (top 78)
abbrev Mf:=cg "words_next" 1180 1185 327 1 729
abbrev Mg:=fO "words_next" "words_next" (top 78) m5 734
abbrev Mh:=tS 1191 ["scan", "text"]
abbrev QB:=fn "pattern_next" "pattern_next" (top 79)
abbrev Mi:=cg "pattern_next" 1188 1193 332 1 736
abbrev Mj:=fO "pattern_next" "pattern_next" (top 79) m5 741
abbrev d7:=(d6.append [("may_stand", 1203,(r 749)),("may_swap", 1210,(r 756)),("cut", 1220,(r 763)),("MOST_LINES", 1224,(.int (24) 1223)),("read", 1233,(r 770)),("lines_of", 1243,(r 777)),("marks_of", 1253,(r 784)),("refuse_go_without_mark", 1263,(r 791)),("shown", 1271,(r 796)),("line_text", 1278,(r 803)),("cond_text", 1285,(r 810)),("deed_text", 1292,(r 817)),("pattern_text", 1299,(r 824)),("quoted", 1306,(r 831)),("_law_cell_at", 1316,(r 838)),("_law_set", 1322,(r 843)),("_law_plain", 1330,(r 850)),("_law_item", 1342,(r 857)),("_law_pattern", 1348,(r 862)),("_law_name", 1358,(r 869)),("_law_words", 1364,(r 874)),("_law_first", 1370,(r 879)),("_law_cond", 1383,(r 886)),("_law_swap", 1389,(r 891)),("_law_deed", 1400,(r 898))]).append [("_law_whole", 1407,(r 905)),("_law_same", 1416,(r 912)),("_law_is_cond", 1424,(r 919)),("_law_is_numbered", 1432,(r 926)),("_law_is_deed", 1440,(r 933)),("_law_line", 1455,(r 940)),("_law_lines", 1468,(r 947)),("law", 1474,(r 952))]
abbrev QC:=di 117 (("__name__", 165,(.str "law_rowblade_k22_a_line_read" 1307))::d7)
abbrev l7:=l6++[(338,748),(344,755),(349,762),(356,769),(361,776),(368,783),(376,790),(381,795),(383,802),(387,809),(401,816),(425,823),(427,830),(430,837),(434,842),(438,849),(441,856),(454,861),(463,868),(470,873),(473,878),(478,885),(501,890),(510,897),(529,904),(531,911),(540,918),(560,925),(572,932),(596,939),(610,946),(624,951)]
abbrev QD:=lt 0 l7
abbrev QE:=tS 1199 ["cond", "deed"]
abbrev XM:=fn "may_stand" "may_stand" (top 80)
abbrev QF:=cg "may_stand" 1196 1201 338 2 743
abbrev QG:=fO "may_stand" "may_stand" (top 80) m5 748
abbrev QH:=tS 1207 ["deed"]
abbrev XN:=fn "may_swap" "may_swap" (top 81)
abbrev QI:=cg "may_swap" 1204 1208 344 1 750
abbrev QJ:=fO "may_swap" "may_swap" (top 81) m5 755
abbrev QK:=tS 1216 ["text", "rows"]
abbrev XO:=fn "cut" "cut" (top 83)
abbrev QL:=cg "cut" 1213 1218 349 1 757
abbrev QM:=fO "cut" "cut" (top 83) m6 762
abbrev QN:=tS 1228 ["text", "lines", "marks"]
abbrev XQ:=fn "read" "read" (top 86)
abbrev QO:=cg "read" 1225 1231 356 1 764
abbrev QP:=fO "read" "read" (top 86) m7 769
abbrev QQ:=tS 1237 ["rows", "lines", "number", "row"]
abbrev XR:=fn "lines_of" "lines_of" (top 87)
abbrev QR:=cg "lines_of" 1234 1241 361 1 771
abbrev QS:=fO "lines_of" "lines_of" (top 87) m7 776
abbrev QT:=tS 1247 ["lines", "marks", "number", "line"]
abbrev XS:=fn "marks_of" "marks_of" (top 88)
abbrev QU:=cg "marks_of" 1244 1251 368 1 778
abbrev QV:=fO "marks_of" "marks_of" (top 88) m7 783
abbrev QW:=tS 1257 ["lines", "marks", "number", "line"]
abbrev XT:=fn "refuse_go_without_mark" "refuse_go_without_mark" (top 89)
abbrev QX:=cg "refuse_go_without_mark" 1254 1261 376 2 785
abbrev QY:=fO "refuse_go_without_mark" "refuse_go_without_mark" (top 89) m7 790
abbrev XU:=fn "shown" "shown" (top 91)
abbrev QZ:=C "shown" "shown" 1266 1269 381 1 0 0 3 792 true 793 .none .none .none (r 794)
abbrev Q0:=fO "shown" "shown" (top 91) m8 795
abbrev Q2:=tS 1275 ["line"]
abbrev XW:=fn "line_text" "line_text" (top 92)
abbrev Q3:=cg "line_text" 1272 1276 383 1 797
abbrev Q4:=fO "line_text" "line_text" (top 92) m8 802
abbrev Q5:=tS 1282 ["cond"]
abbrev XX:=fn "cond_text" "cond_text" (top 93)
abbrev Q6:=cg "cond_text" 1279 1283 387 1 804
abbrev Q7:=fO "cond_text" "cond_text" (top 93) m8 809
abbrev Q8:=tS 1289 ["deed"]
abbrev XY:=fn "deed_text" "deed_text" (top 94)
abbrev Q9:=cg "deed_text" 1286 1290 401 1 811
abbrev Q_:=fO "deed_text" "deed_text" (top 94) m8 816
abbrev Ra:=tS 1296 ["one"]
abbrev XZ:=fn "pattern_text" "pattern_text" (top 95)
abbrev Rb:=cg "pattern_text" 1293 1297 425 1 818
abbrev Rf:=fO "pattern_text" "pattern_text" (top 95) m8 823
abbrev Rg:=tS 1303 ["words"]
abbrev X0:=fn "quoted" "quoted" (top 96)
abbrev Ri:=cg "quoted" 1300 1304 427 1 825
abbrev Rj:=fO "quoted" "quoted" (top 96) m8 830
abbrev Rk:=tS 1312 ["_law_script", "_law_k"]
abbrev X3:=fn "_law_cell_at" "_law_cell_at" (top 98)
abbrev Rl:=cg "_law_cell_at" 1309 1314 430 2 832
abbrev Rm:=fO "_law_cell_at" "_law_cell_at" (top 98) m9 837
abbrev X4:=fn "_law_set" "_law_set" (top 99)
abbrev Rn:=C "_law_set" "_law_set" 1317 1320 434 1 0 0 3 839 true 840 .none .none .none (r 841)
abbrev Ro:=fO "_law_set" "_law_set" (top 99) m9 842
abbrev Rp:=tS 1326 ["_law_cell", "_law_some"]
abbrev X5:=fn "_law_plain" "_law_plain" (top 100)
abbrev Rq:=cg "_law_plain" 1323 1328 438 1 844
abbrev Rr:=fO "_law_plain" "_law_plain" (top 100) m9 849
abbrev Rt:=tS 1334 ["_law_cell", "_law_many", "_law_behind", "_law_way", "_law_signs", "_law_sign"]
abbrev X6:=fn "_law_item" "_law_item" (top 101)
abbrev Ru:=cg "_law_item" 1331 1340 441 1 851
abbrev Rv:=fO "_law_item" "_law_item" (top 101) m9 856
abbrev X7:=fn "_law_pattern" "_law_pattern" (top 102)
abbrev Rw:=C "_law_pattern" "_law_pattern" 1343 1346 454 2 0 0 3 858 true 859 .none .none .none (r 860)
abbrev Rx:=fO "_law_pattern" "_law_pattern" (top 102) m9 861
abbrev Ry:=tS 1352 ["_law_cell", "_law_rest", "_law_word", "_law_k"]
abbrev X8:=fn "_law_name" "_law_name" (top 103)
abbrev Rz:=cg "_law_name" 1349 1356 463 1 863
abbrev RA:=fO "_law_name" "_law_name" (top 103) m9 868
abbrev X_:=fn "_law_words" "_law_words" (top 104)
abbrev RB:=C "_law_words" "_law_words" 1359 1362 470 3 0 0 3 870 true 871 .none .none .none (r 872)
abbrev RC:=fO "_law_words" "_law_words" (top 104) m9 873
abbrev Yb:=fn "_law_first" "_law_first" (top 105)
abbrev RD:=C "_law_first" "_law_first" 1365 1368 473 1 0 0 3 875 true 876 .none .none .none (r 877)
abbrev RE:=fO "_law_first" "_law_first" (top 105) m9 878
abbrev RG:=tS 1374 ["_law_cell", "_law_other", "_law_one", "_law_made", "_law_two", "_law_numbers", "_law_text"]
abbrev Yc:=fn "_law_cond" "_law_cond" (top 106)
abbrev RH:=cg "_law_cond" 1371 1381 478 2 880
abbrev RI:=fO "_law_cond" "_law_cond" (top 106) m9 885
abbrev Yd:=fn "_law_swap" "_law_swap" (top 107)
abbrev RJ:=C "_law_swap" "_law_swap" 1384 1387 501 2 0 0 3 887 true 888 .none .none .none (r 889)
abbrev RK:=fO "_law_swap" "_law_swap" (top 107) m9 890
abbrev RL:=tS 1393 ["_law_cell", "_law_other", "_law_name_here", "_law_numbers", "_law_words_here"]
abbrev Ye:=fn "_law_deed" "_law_deed" (top 108)
abbrev RM:=cg "_law_deed" 1390 1398 510 2 892
abbrev RN:=fO "_law_deed" "_law_deed" (top 108) m9 897
abbrev RO:=tS 1404 ["_law_got"]
abbrev Yg:=fn "_law_whole" "_law_whole" (top 109)
abbrev RQ:=cg "_law_whole" 1401 1405 529 1 899
abbrev RS:=fO "_law_whole" "_law_whole" (top 109) m9 904
abbrev RT:=tS 1411 ["_law_got", "_law_due", "_law_item_here"]
abbrev Yh:=fn "_law_same" "_law_same" (top 110)
abbrev RU:=cg "_law_same" 1408 1414 531 2 906
abbrev RV:=fO "_law_same" "_law_same" (top 110) m9 911
abbrev RW:=tS 1420 ["_law_got", "_law_due"]
abbrev Yi:=fn "_law_is_cond" "_law_is_cond" (top 111)
abbrev RX:=cg "_law_is_cond" 1417 1422 540 2 913
abbrev RY:=fO "_law_is_cond" "_law_is_cond" (top 111) m9 918
abbrev RZ:=tS 1428 ["_law_got", "_law_due"]
abbrev Yj:=fn "_law_is_numbered" "_law_is_numbered" (top 112)
abbrev R0:=cg "_law_is_numbered" 1425 1430 560 2 920
abbrev R1:=fO "_law_is_numbered" "_law_is_numbered" (top 112) m9 925
abbrev R3:=tS 1436 ["_law_got", "_law_due"]
abbrev Yk:=fn "_law_is_deed" "_law_is_deed" (top 113)
abbrev R4:=cg "_law_is_deed" 1433 1438 572 2 927
abbrev R5:=fO "_law_is_deed" "_law_is_deed" (top 113) m9 932
abbrev R6:=tS 1444 ["_law_script", "_law_cell", "_law_head", "_law_cond_here", "_law_text", "_law_deed_here", "_law_name_here", "_law_way", "_law_words_here"]
abbrev Yl:=fn "_law_line" "_law_line" (top 114)
abbrev R7:=cg "_law_line" 1441 1453 596 1 934
abbrev R8:=fO "_law_line" "_law_line" (top 114) m9 939
abbrev R9:=tS 1459 ["_law_script", "_law_way", "_law_name_here", "_law_mark", "_law_head", "_law_cond_here", "_law_going"]
abbrev Ym:=fn "_law_lines" "_law_lines" (top 115)
abbrev R_:=cg "_law_lines" 1456 1466 610 1 941
abbrev Sa:=fO "_law_lines" "_law_lines" (top 115) m9 946
abbrev Yn:=fn "law" "law" (top 116)
abbrev Sb:=C "law" "law" 1469 1472 624 1 0 0 3 948 true 949 .none .none .none (r 950)
abbrev Sd:=fO "law" "law" (top 116) m9 951
abbrev Yo:=N boot_o_0 (N boot_o_1 (N boot_o_3 (L boot_o_7) (L ae)) (N boot_o_5 (L boot_o_9) (L Dg))) (N boot_o_2 (N boot_o_4 (L boot_o_8) (L aB)) (N boot_o_6 (L boot_o_10) (L Dh)))
abbrev t62:=N boot_o_1 (N o3 (N boot_o_7 (N Di (N ae (L Hq) (L HB)) (N ae (L aV) E)) (N Dj (N Hg (L Dy) E) (N Du (L DE) E))) (N ae (N aB (N ae (L aB) E) (N Hl (L Hy) E)) (N Ha (N ae (L DC) E) (N fP (L DG) E)))) (N boot_o_5 (N boot_o_9 (N G7 (N Hc (L Hs) E) (N Dp (L ae) E)) (N Dl (N aV (L DA) E) (N Hm (L HA) E))) (N Dg (N G9 (N Dn (L ae) E) (N Dr (L ae) E)) (N aV (N Hj (L Hv) E) (N Ho (L DI) E))))
abbrev Yp:=N boot_o_2 (N boot_o_4 (N boot_o_8 (N aV (N aB (L Hr) (L HC)) (N aB (L Hw) E)) (N Dk (N fP (L Dz) E) (N Dv (L ae) E))) (N PL (N G8 (N Dm (L Dw) E) (N Dq (L Hz) E)) (N fP (N Hi (L Hu) E) (N aV (L DH) E)))) (N boot_o_6 (N boot_o_10 (N ae (N Hd (L ae) E) (N ae (L Hx) E)) (N G_ (N Hh (L DB) E) (N Hn (L DF) E))) (N Dh (N ae (N Hf (L Ht) E) (N Dt (L aB) E)) (N Hb (N Hk (L fP) E) (N ae (L DJ) E))))
abbrev Yq:=N boot_o_0 t62 Yp
abbrev Yr:=N XC (N boot_o_7 (N Di (N ae (N Hq (L oU) E) (N HB (L wG) E)) (N ae (N aV (L aB) E) (N oN (L ae) E))) (N Dj (N Hg (N Dy (L o8) E) (N rD (L wJ) E)) (N Du (N DE (L wB) E) (N aV (L rZ) E)))) (N ae (N aB (N ae (N aB (L oW) E) (N JK (L wH) E)) (N Hl (N Hy (L rQ) E) (N oS (L pj) E))) (N Ha (N ae (N DC (L ae) E) (N ae (L wM) E)) (N fP (N DG (L wD) E) (L rK))))
abbrev Ys:=N boot_o_5 (N boot_o_9 (N G7 (N Hc (N Hs (L rM) E) (N ae (L rV) E)) (N Dp (N ae (L rP) E) (N oQ (L pe) E))) (N Dl (N aV (N DA (L rN) E) (N aB (L wK) E)) (N Hm (N HA (L bu) E) (L ae)))) (N Dg (N G9 (N Dn (N ae (L oY) E) (N rB (L bu) E)) (N Dr (N ae (L rR) E) (N rG (L pC) E))) (N aV (N Hj (N Hv (L wz) E) (N oJ (L aB) E)) (N Ho (N DI (L aB) E) (L ae))))
abbrev Yt:=N boot_o_4 (N boot_o_8 (N aV (N aB (N Hr (L ae) E) (N HC (L ae) E)) (N aB (N Hw (L wA) E) (N oO (L rX) E))) (N Dk (N fP (N Dz (L o9) E) (N ae (L ae) E)) (N Dv (N ae (L wC) E) (L rH)))) (N PM (N G8 (N Dm (N Dw (L oX) E) (N ae (L wI) E)) (N Dq (N Hz (L XD) E) (N rF (L pA) E))) (N fP (N Hi (N Hu (L aV) E) (N rE (L ae) E)) (N aV (N DH (L ae) E) (L rL))))
abbrev Yu:=N boot_o_6 (N boot_o_10 (N ae (N Hd (N ae (L oV) E) (N aV (L rW) E)) (N ae (N Hx (L ae) E) (N oR (L ph) E))) (N G_ (N Hh (N DB (L rO) E) (N oH (L wL) E)) (N Hn (N DF (L aV) E) (L rJ)))) (N Dh (N ae (N Hf (N Ht (L oZ) E) (N rC (L aV) E)) (N Dt (N aB (L rT) E) (N ae (L rY) E))) (N Hb (N Hk (N fP (L ae) E) (N oK (L o_) E)) (N ae (N DJ (L wF) E) (L aB))))
abbrev Yv:=N boot_o_0 (N boot_o_1 Yr Ys) (N boot_o_2 Yt Yu)
abbrev Yw:=N XE (N boot_o_7 (N Di (N ae (N Hq (N oU (L xC) E) (L ae)) (N HB (L wG) (L aB))) (N ae (N aV (N aB (L xM) E) (L wZ)) (N oN (L ae) (L xu)))) (N Dj (N Hg (N Dy (N o8 (L ae) E) (L ae)) (N rD (L wJ) (L sF))) (N Du (N DE (L wB) (L bu)) (N aV (L rZ) (L sI))))) (N ae (N aB (N ae (N aB (N oW (L xF) E) (L wU)) (N JK (L wH) (L sA))) (N Hl (N Hy (L rQ) (L sf)) (N oS (L pj) (L sG)))) (N Ha (N ae (N DC (N ae (L sQ) E) (L ae)) (N ae (L wM) (L aV))) (N fP (N DG (L wD) (L xh)) (N rK (L ae) (L xy)))))
abbrev Yx:=N boot_o_5 (N boot_o_9 (N G7 (N Hc (N Hs (N rM (L xD) E) (L r8)) (N ae (L rV) (L ae))) (N Dp (N ae (L rP) (L sd)) (N oQ (L pe) (L ae)))) (N Dl (N aV (N DA (N rN (L sO) E) (L wX)) (N aB (L wK) (L xo))) (N Hm (N HA (L bu) (L xg)) (N ae (L aV) (L sL))))) (N Dg (N G9 (N Dn (N ae (N oY (L aB) E) (L aV)) (N rB (L bu) (L sD))) (N Dr (N ae (L rR) (L w_)) (N rG (L pC) (L xx)))) (N aV (N Hj (N Hv (N wz (L xJ) E) (L r9)) (N oJ (L aB) (L ae))) (N Ho (N DI (L aB) (L xl)) (N ae (L wO) (L bu)))))
abbrev Yy:=N boot_o_4 (N boot_o_8 (N aV (N aB (N Hr (N ae (L ae) E) (L r6)) (N HC (L ae) (L sy))) (N aB (N Hw (L wA) (L r_)) (N oO (L rX) (L xw)))) (N Dk (N fP (N Dz (N o9 (L xG) E) (L wW)) (N ae (L ae) (L xn))) (N Dv (N ae (L wC) (L aV)) (N rH (L bu) (L sJ))))) (N PN (N G8 (N Dm (N Dw (N oX (L ae) E) (L bu)) (N ae (L wI) (L sC))) (N Dq (N Hz (L JL) (L sj)) (N rF (L pA) (L ae)))) (N fP (N Hi (N Hu (N aV (L xH) E) (L aB)) (N rE (L ae) (L xq))) (N aV (N DH (L ae) (L xj)) (N rL (L aB) (L xA)))))
abbrev Yz:=N boot_o_6 (N boot_o_10 (N ae (N Hd (N ae (N oV (L xE) E) (L wR)) (N aV (L rW) (L xm))) (N ae (N Hx (L ae) (L se)) (N oR (L ph) (L aB)))) (N G_ (N Hh (N DB (N rO (L sP) E) (L wY)) (N oH (L wL) (L bu))) (N Hn (N DF (L aV) (L ae)) (N rJ (L wN) (L sM))))) (N Dh (N ae (N Hf (N Ht (N oZ (L sN) E) (L wV)) (N rC (L aV) (L sE))) (N Dt (N aB (L rT) (L xf)) (N ae (L rY) (L sH)))) (N Hb (N Hk (N fP (N ae (L xK) E) (L ae)) (N oK (L o_) (L xr))) (N ae (N DJ (L wF) (L ae)) (N aB (L wQ) (L aV)))))
abbrev YA:=N boot_o_0 (N boot_o_1 Yw Yx) (N boot_o_2 Yy Yz)
abbrev YB:=N XF (N boot_o_7 (N Di (N ae (N Hq (N oU (L xC) E) (N ae (L zA) E)) (N HB (N wG (L ae) E) (L aB))) (N ae (N aV (N aB (L xM) E) (N wZ (L zH) E)) (N oN (N ae (L zu) E) (L xu)))) (N Dj (N Hg (N Dy (N o8 (L ae) E) (N ae (L zD) E)) (N rD (N wJ (L zr) E) (L sF))) (N Du (N DE (N wB (L ae) E) (L bu)) (N aV (N rZ (L xP) E) (L sI))))) (N ae (N aB (N ae (N aB (N oW (L xF) E) (N wU (L zC) E)) (N JK (N wH (L ae) E) (L sA))) (N Hl (N Hy (N rQ (L ae) E) (N sf (L zI) E)) (N oS (N pj (L xN) E) (L sG)))) (N Ha (N ae (N DC (N ae (L sQ) E) (N ae (L zF) E)) (N ae (N wM (L aV) E) (L aV))) (N fP (N DG (N wD (L DO) E) (L xh)) (N rK (N ae (L zy) E) (L xy)))))
abbrev YC:=N boot_o_5 (N boot_o_9 (N G7 (N Hc (N Hs (N rM (L xD) E) (N r8 (L aB) E)) (N ae (N rV (L DQ) E) (L ae))) (N Dp (N ae (N rP (L aV) E) (N sd (L xV) E)) (N oQ (N pe (L ae) E) (L ae)))) (N Dl (N aV (N DA (N rN (L sO) E) (N wX (L bo) E)) (N aB (N wK (L DT) E) (L xo))) (N Hm (N HA (N bu (L zo) E) (L xg)) (N ae (N aV (L xR) E) (L sL))))) (N Dg (N G9 (N Dn (N ae (N oY (L aB) E) (N aV (L xT) E)) (N rB (N bu (L XG) E) (L sD))) (N Dr (N ae (N rR (L DL) E) (L w_)) (N rG (N pC (L zx) E) (L xx)))) (N aV (N Hj (N Hv (N wz (L xJ) E) (N r9 (L aB) E)) (N oJ (N aB (L ae) E) (L ae))) (N Ho (N DI (N aB (L aV) E) (L xl)) (N ae (N wO (L bo) E) (L bu)))))
abbrev YD:=N boot_o_4 (N boot_o_8 (N aV (N aB (N Hr (N ae (L ae) E) (N r6 (L ae) E)) (N HC (N ae (L aB) E) (L sy))) (N aB (N Hw (N wA (L bu) E) (N r_ (L ae) E)) (N oO (N rX (L zw) E) (L xw)))) (N Dk (N fP (N Dz (N o9 (L xG) E) (N wW (L zE) E)) (N ae (N ae (L DS) E) (L xn))) (N Dv (N ae (N wC (L zm) E) (L aV)) (N rH (N bu (L xQ) E) (L sJ))))) (N PQ (N G8 (N Dm (N Dw (N oX (L ae) E) (N bu (L ae) E)) (N ae (N wI (L zp) E) (L sC))) (N Dq (N Hz (N jN (L aB) E) (N sj (L zJ) E)) (N rF (N pA (L ae) E) (L ae)))) (N fP (N Hi (N Hu (N aV (L xH) E) (N aB (L ae) E)) (N rE (N ae (L DU) E) (L xq))) (N aV (N DH (N ae (L ae) E) (L xj)) (N rL (N aB (L zz) E) (L xA)))))
abbrev YE:=N boot_o_6 (N boot_o_10 (N ae (N Hd (N ae (N oV (L xE) E) (N wR (L zB) E)) (N aV (N rW (L DR) E) (L xm))) (N ae (N Hx (N ae (L DK) E) (N se (L xW) E)) (N oR (N ph (L aB) E) (L aB)))) (N G_ (N Hh (N DB (N rO (L sP) E) (N wY (L aV) E)) (N oH (N wL (L bo) E) (L bu))) (N Hn (N DF (N aV (L DN) E) (L ae)) (N rJ (N wN (L xS) E) (L sM))))) (N Dh (N ae (N Hf (N Ht (N oZ (L sN) E) (N wV (L xU) E)) (N rC (N aV (L zq) E) (L sE))) (N Dt (N aB (N rT (L DM) E) (L xf)) (N ae (N rY (L xO) E) (L sH)))) (N Hb (N Hk (N fP (N ae (L xK) E) (N ae (L zG) E)) (N oK (N o_ (L zt) E) (L xr))) (N ae (N DJ (N wF (L DP) E) (L ae)) (N aB (N wQ (L aV) E) (L aV)))))
abbrev YF:=N boot_o_0 (N boot_o_1 YB YC) (N boot_o_2 YD YE)
abbrev Se:=N wG (L ae) (L JT)
abbrev Sf:=N wJ (L zr) (L Eu)
abbrev Sh:=N wB (L ae) (L En)
abbrev YG:=N boot_o_7 (N Di (N ae (N Hq (N oU (L xC) (L Ec)) (N ae (L zA) E)) (N HB Se (N aB (L DY) E))) (N ae (N aV (N aB (L xM) (L aB)) (N wZ (L zH) E)) (N oN (N ae (L zu) E) (N xu (L zP) E)))) (N Dj (N Hg (N Dy (N o8 (L ae) (L bo)) (N ae (L zD) E)) (N rD Sf (N sF (L D5) E))) (N Du (N DE Sh (N bu (L DV) E)) (N aV (N rZ (L xP) E) (N sI (L ae) E))))
abbrev Si:=N wH (L ae) (L Er)
abbrev Sj:=N rQ (L ae) (L Ej)
abbrev Sk:=N wM (L aV) (L JU)
abbrev Sl:=N wD (L DO) (L aV)
abbrev YH:=N XH YG (N ae (N aB (N ae (N aB (N oW (L xF) (L zW)) (N wU (L zC) E)) (N JK Si (N sA (L D0) E))) (N Hl (N Hy Sj (N sf (L zI) E)) (N oS (N pj (L xN) E) (N sG (L D8) E)))) (N Ha (N ae (N DC (N ae (L sQ) (L Eh)) (N ae (L zF) E)) (N ae Sk (N aV (L ae) E))) (N fP (N DG Sl (N xh (L DX) E)) (N rK (N ae (L zy) E) (N xy (L ae) E)))))
abbrev Sm:=N rV (L DQ) (L ae)
abbrev Sn:=N wK (L DT) (L Ex)
abbrev So:=N bu (L zo) (L JR)
abbrev YI:=N boot_o_9 (N G7 (N Hc (N Hs (N rM (L xD) (L zU)) (N r8 (L aB) E)) (N ae Sm (N ae (L bo) E))) (N Dp (N ae (N rP (L aV) (L ae)) (N sd (L xV) E)) (N oQ (N pe (L ae) E) (N ae (L zR) E)))) (N Dl (N aV (N DA (N rN (L sO) (L Eg)) (N wX (L bo) E)) (N aB Sn (N xo (L aB) E))) (N Hm (N HA So (N xg (L aB) E)) (N ae (N aV (L xR) E) (N sL (L Ea) E))))
abbrev Sq:=N rR (L DL) (L El)
abbrev Ss:=N wz (L xJ) (L JO)
abbrev YJ:=N Dg (N G9 (N Dn (N ae (N oY (L aB) (L Ed)) (N aV (L xT) E)) (N rB (N bu (L JM) (L Es)) (N sD (L D3) E))) (N Dr (N ae Sq (N w_ (L bo) E)) (N rG (N pC (L zx) E) (N xx (L aV) E)))) (N aV (N Hj (N Hv Ss (N r9 (L aB) E)) (N oJ (N aB (L ae) E) (N ae (L zN) E))) (N Ho (N DI (N aB (L aV) (L ae)) (N xl (L zK) E)) (N ae (N wO (L bo) E) (N bu (L zS) E))))
abbrev Su:=N wA (L bu) (L Ei)
abbrev Sv:=N ae (L DS) (L Ew)
abbrev Sw:=N wC (L zm) (L JQ)
abbrev YK:=N boot_o_8 (N aV (N aB (N Hr (N ae (L ae) (L zT)) (N r6 (L ae) E)) (N HC (N ae (L aB) (L Ep)) (N sy (L DZ) E))) (N aB (N Hw Su (N r_ (L ae) E)) (N oO (N rX (L zw) E) (N xw (L zQ) E)))) (N Dk (N fP (N Dz (N o9 (L xG) (L aV)) (N wW (L zE) E)) (N ae Sv (N xn (L ae) E))) (N Dv (N ae Sw (N aV (L ae) E)) (N rH (N bu (L xQ) E) (N sJ (L D_) E))))
abbrev Sx:=N wI (L zp) (L ae)
abbrev Sy:=N jN (L aB) (L Ek)
abbrev HD:=N aV (L xH) (L JN)
abbrev HE:=N ae (L DU) (L JV)
abbrev Sz:=N boot_o_4 YK (N PR (N G8 (N Dm (N Dw (N oX (L ae) (L zX)) (N bu (L ae) E)) (N ae Sx (N sC (L ae) E))) (N Dq (N Hz Sy (N sj (L zJ) E)) (N rF (N pA (L ae) E) (N ae (L bo) E)))) (N fP (N Hi (N Hu HD (N aB (L ae) E)) (N rE HE (N xq (L D6) E))) (N aV (N DH (N ae (L ae) (L Eo)) (N xj (L ae) E)) (N rL (N aB (L zz) E) (N xA (L aB) E)))))
abbrev HG:=N rW (L DR) (L aB)
abbrev HH:=N ae (L DK) (L JP)
abbrev HJ:=N wL (L bo) (L Ey)
abbrev HK:=N aV (L DN) (L bo)
abbrev HL:=N aV (L zq) (L Et)
abbrev HM:=N rT (L DM) (L Em)
abbrev HN:=N wF (L DP) (L JS)
abbrev SA:=N Dh (N ae (N Hf (N Ht (N oZ (L sN) (L Ef)) (N wV (L xU) E)) (N rC HL (N sE (L D4) E))) (N Dt (N aB HM (N xf (L aV) E)) (N ae (N rY (L xO) E) (N sH (L D9) E)))) (N Hb (N Hk (N fP (N ae (L xK) (L ae)) (N ae (L zG) E)) (N oK (N o_ (L zt) E) (N xr (L zO) E))) (N ae (N DJ HN (N ae (L zL) E)) (N aB (N wQ (L aV) E) (N aV (L ae) E))))
abbrev SD:=N boot_o_6 (N boot_o_10 (N ae (N Hd (N ae (N oV (L xE) (L zV)) (N wR (L zB) E)) (N aV HG (N xm (L aV) E))) (N ae (N Hx HH (N se (L xW) E)) (N oR (N ph (L aB) E) (N aB (L D7) E)))) (N G_ (N Hh (N DB (N rO (L sP) (L ae)) (N wY (L aV) E)) (N oH HJ (N bu (L zM) E))) (N Hn (N DF HK (N ae (L DW) E)) (N rJ (N wN (L xS) E) (N sM (L Eb) E))))) SA
abbrev SE:=N boot_o_0 (N boot_o_1 YH (N boot_o_5 YI YJ)) (N boot_o_2 Sz SD)
abbrev SG:=N boot_o_7 (N Di (N ae (N Hq (N oU (N xC (L aB) E) (L Ec)) (N ae (L zA) (L J2))) (N HB Se (N aB (L DY) (L EM)))) (N ae (N aV (N aB (L xM) (L aB)) (N wZ (L zH) (L EJ))) (N oN (N ae (L zu) (L JW)) (N xu (L zP) (L EU))))) (N Dj (N Hg (N Dy (N o8 (N ae (L E6) E) (L bo)) (N ae (L zD) (L ae))) (N rD Sf (N sF (L D5) (L aV)))) (N Du (N DE Sh (N bu (L DV) (L Kc))) (N aV (N rZ (L xP) (L ae)) (N sI (L ae) (L ae)))))
abbrev SH:=N ae (N aB (N ae (N aB (N oW (N xF (L E4) E) (L zW)) (N wU (L zC) (L ae))) (N JK Si (N sA (L D0) (L ES)))) (N Hl (N Hy Sj (N sf (L zI) (L bo))) (N oS (N pj (L xN) (L JZ)) (N sG (L D8) (L aB))))) (N Ha (N ae (N DC (N ae (N sQ (L E8) E) (L Eh)) (N ae (L zF) (L J8))) (N ae Sk (N aV (L ae) (L Km)))) (N fP (N DG Sl (N xh (L DX) (L aB))) (N rK (N ae (L zy) (L EC)) (N xy (L ae) (L Kr)))))
abbrev SI:=N boot_o_9 (N G7 (N Hc (N Hs (N rM (N xD (L ae) E) (L zU)) (N r8 (L aB) (L aV))) (N ae Sm (N ae (L bo) (L EO)))) (N Dp (N ae (N rP (L aV) (L ae)) (N sd (L xV) (L J9))) (N oQ (N pe (L ae) (L JX)) (N ae (L zR) (L Kp))))) (N Dl (N aV (N DA (N rN (N sO (L Ku) E) (L Eg)) (N wX (L bo) (L EF))) (N aB Sn (N xo (L aB) (L ae)))) (N Hm (N HA So (N xg (L aB) (L Ke))) (N ae (N aV (L xR) (L EA)) (N sL (L Ea) (L EX)))))
abbrev SJ:=N Dg (N G9 (N Dn (N ae (N oY (N aB (L ae) E) (L Ed)) (N aV (L xT) (L J5))) (N rB (N bu (L mC) (L Es)) (N sD (L D3) (L Kh)))) (N Dr (N ae Sq (N w_ (L bo) (L Ka))) (N rG (N pC (L zx) (L aB)) (N xx (L aV) (L EV))))) (N aV (N Hj (N Hv Ss (N r9 (L aB) (L EH))) (N oJ (N aB (L ae) (L bo)) (N ae (L zN) (L ae)))) (N Ho (N DI (N aB (L aV) (L ae)) (N xl (L zK) (L ae))) (N ae (N wO (L bo) (L EE)) (N bu (L zS) (L EZ)))))
abbrev SK:=N boot_o_8 (N aV (N aB (N Hr (N ae (N ae (L E3) E) (L zT)) (N r6 (L ae) (L bo))) (N HC (N ae (L aB) (L Ep)) (N sy (L DZ) (L EN)))) (N aB (N Hw Su (N r_ (L ae) (L EK))) (N oO (N rX (L zw) (L ae)) (N xw (L zQ) (L Ko))))) (N Dk (N fP (N Dz (N o9 (N xG (L ae) E) (L aV)) (N wW (L zE) (L aB))) (N ae Sv (N xn (L ae) (L Kl)))) (N Dv (N ae Sw (N aV (L ae) (L Kd))) (N rH (N bu (L xQ) (L J0)) (N sJ (L D_) (L aB)))))
abbrev SM:=N PU (N G8 (N Dm (N Dw (N oX (N ae (L E5) E) (L zX)) (N bu (L ae) (L J4))) (N ae Sx (N sC (L ae) (L Kg)))) (N Dq (N Hz Sy (N sj (L zJ) (L aV))) (N rF (N pA (L ae) (L ae)) (N ae (L bo) (L Kq))))) (N fP (N Hi (N Hu HD (N aB (L ae) (L EG))) (N rE HE (N xq (L D6) (L Kn)))) (N aV (N DH (N ae (L ae) (L Eo)) (N xj (L ae) (L EL))) (N rL (N aB (L zz) (L ED)) (N xA (L aB) (L EY)))))
abbrev SN:=N boot_o_10 (N ae (N Hd (N ae (N oV (N xE (L Ks) E) (L zV)) (N wR (L zB) (L J3))) (N aV HG (N xm (L aV) (L ER)))) (N ae (N Hx HH (N se (L xW) (L J_))) (N oR (N ph (L aB) (L JY)) (N aB (L D7) (L ae))))) (N G_ (N Hh (N DB (N rO (N sP (L E7) E) (L ae)) (N wY (L aV) (L ae))) (N oH HJ (N bu (L zM) (L aB)))) (N Hn (N DF HK (N ae (L DW) (L ae))) (N rJ (N wN (L xS) (L EB)) (N sM (L Eb) (L ae)))))
abbrev SO:=N Dh (N ae (N Hf (N Ht (N oZ (N sN (L aB) E) (L Ef)) (N wV (L xU) (L J7))) (N rC HL (N sE (L D4) (L bo)))) (N Dt (N aB HM (N xf (L aV) (L ae))) (N ae (N rY (L xO) (L Ez)) (N sH (L D9) (L EW))))) (N Hb (N Hk (N fP (N ae (L xK) (L ae)) (N ae (L zG) (L EI))) (N oK (N o_ (L zt) (L aV)) (N xr (L zO) (L ET)))) (N ae (N DJ HN (N ae (L zL) (L Kf))) (N aB (N wQ (L aV) (L J1)) (N aV (L ae) (L ae)))))
abbrev SQ:=N boot_o_0 (N boot_o_1 (N XI SG SH) (N boot_o_5 SI SJ)) (N boot_o_2 (N boot_o_4 SK SM) (N boot_o_6 SN SO))
abbrev SS:=N Di (N ae (N Hq (N oU (N xC (L aB) E) (N Ec (L Lr) E)) (N ae (N zA (L P7) E) (N J2 (L LZ) E))) (N HB (N wG (N ae (L KI) E) (N JT (L LI) E)) (N aB (N DY (L Lb) E) (N EM (L Mg) E)))) (N ae (N aV (N aB (N xM (L ae) E) (N aB (L aB) E)) (N wZ (N zH (L aB) E) (N EJ (L Qy) E))) (N oN (N ae (N zu (L KR) E) (N JW (L ae) E)) (N xu (N zP (L Qh) E) (L EU))))
abbrev SW:=N Dj (N Hg (N Dy (N o8 (N ae (L E6) E) (N bo (L Lw) E)) (N ae (N zD (L K4) E) (N ae (L ae) E))) (N rD (N wJ (N zr (L KO) E) (N Eu (L LO) E)) (N sF (N D5 (L ae) E) (L aV)))) (N Du (N DE (N wB (N ae (L PY) E) (N En (L Qp) E)) (N bu (N DV (L aV) E) (N Kc (L Mb) E))) (N aV (N rZ (N xP (L ae) E) (N ae (L aB) E)) (N sI (N ae (L Ln) E) (L ae))))
abbrev SX:=N aB (N ae (N aB (N oW (N xF (L E4) E) (N zW (L ae) E)) (N wU (N zC (L aB) E) (N ae (L L3) E))) (N JK (N wH (N ae (L KL) E) (N Er (L LK) E)) (N sA (N D0 (L Le) E) (N ES (L ae) E)))) (N Hl (N Hy (N rQ (N ae (L ae) E) (N Ej (L LC) E)) (N sf (N zI (L K9) E) (N bo (L aB) E))) (N oS (N pj (N xN (L KU) E) (N JZ (L Qu) E)) (N sG (N D8 (L aB) E) (L aB))))
abbrev SY:=N Ha (N ae (N DC (N ae (N sQ (L E8) E) (N Eh (L LA) E)) (N ae (N zF (L P9) E) (N J8 (L ae) E))) (N ae (N wM (N aV (L KP) E) (N JU (L ae) E)) (N aV (N ae (L ae) E) (L Km)))) (N fP (N DG (N wD (N DO (L aB) E) (N aV (L aB) E)) (N xh (N DX (L Qd) E) (N aB (L Me) E))) (N rK (N ae (N zy (L ae) E) (N EC (L LX) E)) (N xy (N ae (L Lp) E) (L Kr))))
abbrev S2:=N G7 (N Hc (N Hs (N rM (N xD (L ae) E) (N zU (L aB) E)) (N r8 (N aB (L K2) E) (N aV (L Qw) E))) (N ae (N rV (N DQ (L ae) E) (N ae (L ae) E)) (N ae (N bo (L Qf) E) (N EO (L aB) E)))) (N Dp (N ae (N rP (N aV (L Kw) E) (N ae (L ae) E)) (N sd (N xV (L ae) E) (N J9 (L L_) E))) (N oQ (N pe (N ae (L P5) E) (N JX (L LS) E)) (N ae (N zR (L Ll) E) (L Kp))))
abbrev S3:=N Dl (N aV (N DA (N rN (N sO (L Ku) E) (N Eg (L Ly) E)) (N wX (N bo (L ae) E) (N EF (L L5) E))) (N aB (N wK (N DT (L aB) E) (N Ex (L aB) E)) (N xo (N aB (L Lg) E) (L ae)))) (N Hm (N HA (N bu (N zo (L KD) E) (N JR (L LG) E)) (N xg (N aB (L ae) E) (N Ke (L ae) E))) (N ae (N aV (N xR (L KY) E) (N EA (L ae) E)) (N sL (N Ea (L ae) E) (L EX))))
abbrev S4:=N G9 (N Dn (N ae (N oY (N aB (L ae) E) (N Ed (L Lu) E)) (N aV (N xT (L ae) E) (N J5 (L aB) E))) (N rB (N bu (N mC (L P0) E) (N Es (L Qs) E)) (N sD (N D3 (L aB) E) (N Kh (L Mi) E)))) (N Dr (N ae (N rR (N DL (L KA) E) (N El (L ae) E)) (N w_ (N bo (L La) E) (N Ka (L ae) E))) (N rG (N pC (N zx (L aB) E) (N aB (L LV) E)) (N xx (N aV (L ae) E) (L EV))))
abbrev S5:=N aV (N Hj (N Hv (N wz (N xJ (L aB) E) (N JO (L Qm) E)) (N r9 (N aB (L K7) E) (N EH (L L7) E))) (N oJ (N aB (N ae (L ae) E) (N bo (L LQ) E)) (N ae (N zN (L Li) E) (L ae)))) (N Ho (N DI (N aB (N aV (L ae) E) (N ae (L ae) E)) (N xl (N zK (L ae) E) (N ae (L QA) E))) (N ae (N wO (N bo (L K0) E) (N EE (L ae) E)) (N bu (N zS (L Qj) E) (L EZ))))
abbrev S6:=N aV (N aB (N Hr (N ae (N ae (L E3) E) (N zT (L ae) E)) (N r6 (N ae (L K1) E) (N bo (L ae) E))) (N HC (N ae (N aB (L KJ) E) (N Ep (L LJ) E)) (N sy (N DZ (L ae) E) (N EN (L ae) E)))) (N aB (N Hw (N wA (N bu (L PX) E) (N Ei (L LB) E)) (N r_ (N ae (L K8) E) (N EK (L L8) E))) (N oO (N rX (N zw (L ae) E) (N ae (L aB) E)) (N xw (N zQ (L Lj) E) (L Ko))))
abbrev S7:=N Dk (N fP (N Dz (N o9 (N xG (L ae) E) (N aV (L Lx) E)) (N wW (N zE (L K5) E) (N aB (L Qx) E))) (N ae (N ae (N DS (L ae) E) (N Ew (L ae) E)) (N xn (N ae (L Qg) E) (L Kl)))) (N Dv (N ae (N wC (N zm (L KC) E) (N JQ (L LF) E)) (N aV (N ae (L Qa) E) (N Kd (L Mc) E))) (N rH (N bu (N xQ (L P6) E) (N J0 (L LW) E)) (N sJ (N D_ (L Lo) E) (L aB))))
abbrev S8:=N G8 (N Dm (N Dw (N oX (N ae (L E5) E) (N zX (L Qk) E)) (N bu (N ae (L K3) E) (N J4 (L ae) E))) (N ae (N wI (N zp (L ae) E) (N ae (L ae) E)) (N sC (N ae (L ae) E) (N Kg (L QB) E)))) (N Dq (N Hz (N jN (N aB (L aB) E) (N Ek (L LD) E)) (N sj (N zJ (L K_) E) (N aV (L Ma) E))) (N rF (N pA (N ae (L ae) E) (N ae (L LU) E)) (N ae (N bo (L Lm) E) (L Kq))))
abbrev S9:=N fP (N Hi (N Hu (N aV (N xH (L ae) E) (N JN (L Ql) E)) (N aB (N ae (L K6) E) (N EG (L aB) E))) (N rE (N ae (N DU (L KQ) E) (N JV (L Qt) E)) (N xq (N D6 (L aB) E) (L Kn)))) (N aV (N DH (N ae (N ae (L KG) E) (N Eo (L LH) E)) (N xj (N ae (L Qe) E) (N EL (L ae) E))) (N rL (N aB (N zz (L aB) E) (N ED (L LY) E)) (N xA (N aB (L ae) E) (L EY))))
abbrev S_:=N ae (N Hd (N ae (N oV (N xE (L Ks) E) (N zV (L Ls) E)) (N wR (N zB (L ae) E) (N J3 (L L0) E))) (N aV (N rW (N DR (L aB) E) (N aB (L aB) E)) (N xm (N aV (L Ld) E) (N ER (L Mh) E)))) (N ae (N Hx (N ae (N DK (L Kz) E) (N JP (L Qn) E)) (N se (N xW (L P_) E) (N J_ (L ae) E))) (N oR (N ph (N aB (L KS) E) (N JY (L ae) E)) (N aB (N D7 (L ae) E) (L ae))))
abbrev Tc:=N G_ (N Hh (N DB (N rO (N sP (L E7) E) (N ae (L Lz) E)) (N wY (N aV (L aB) E) (N ae (L L6) E))) (N oH (N wL (N bo (L P4) E) (N Ey (L LP) E)) (N bu (N zM (L Lh) E) (L aB)))) (N Hn (N DF (N aV (N DN (L ae) E) (N bo (L ae) E)) (N ae (N DW (L Qc) E) (N ae (L aB) E))) (N rJ (N wN (N xS (L KZ) E) (N EB (L Qv) E)) (N sM (N Eb (L aB) E) (L ae))))
abbrev Td:=N ae (N Hf (N Ht (N oZ (N sN (L aB) E) (N Ef (L Lv) E)) (N wV (N xU (L P8) E) (N J7 (L L4) E))) (N rC (N aV (N zq (L KN) E) (N Et (L LL) E)) (N sE (N D4 (L Lf) E) (N bo (L Mj) E)))) (N Dt (N aB (N rT (N DM (L ae) E) (N Em (L aB) E)) (N xf (N aV (L ae) E) (N ae (L Qz) E))) (N ae (N rY (N xO (L KW) E) (N Ez (L ae) E)) (N sH (N D9 (L Qi) E) (L EW))))
abbrev Te:=N Hb (N Hk (N fP (N ae (N xK (L Kv) E) (N ae (L ae) E)) (N ae (N zG (L ae) E) (N EI (L ae) E))) (N oK (N o_ (N zt (L aB) E) (N aV (L LR) E)) (N xr (N zO (L ae) E) (L ET)))) (N ae (N DJ (N wF (N DP (L PZ) E) (N JS (L Qq) E)) (N ae (N zL (L aB) E) (N Kf (L Mf) E))) (N aB (N wQ (N aV (L ae) E) (N J1 (L aB) E)) (N aV (N ae (L Lq) E) (L ae))))
abbrev Tf:=N boot_o_0 (N boot_o_1 (N XJ (N boot_o_7 SS SW) (N ae SX SY)) (N boot_o_5 (N boot_o_9 S2 S3) (N Dg S4 S5))) (N boot_o_2 (N boot_o_4 (N boot_o_8 S6 S7) (N PV S8 S9)) (N boot_o_6 (N boot_o_10 S_ Tc) (N Dh Td Te)))
abbrev Tg:=N Di (N ae (N Hq (N oU (N xC (L aB) (L ae)) (N Ec (L Lr) (L ae))) (N ae (N zA (L P7) (L Rj)) (N J2 (L LZ) E))) (N HB (N wG (N ae (L KI) (L Q2)) (N JT (L LI) (L ae))) (N aB (N DY (L Lb) (L ae)) (N EM (L Mg) E)))) (N ae (N aV (N aB (N xM (L ae) (L QU)) (N aB (L aB) (L RU))) (N wZ (N zH (L aB) (L ae)) (N EJ (L Qy) E))) (N oN (N ae (N zu (L KR) (L XY)) (N JW (L ae) (L R9))) (N xu (N zP (L Qh) (L RE)) (N EU (L aB) E))))
abbrev Th:=N Dj (N Hg (N Dy (N o8 (N ae (L E6) (L XR)) (N bo (L Lw) (L Yg))) (N ae (N zD (L K4) (L ae)) (N ae (L ae) E))) (N rD (N wJ (N zr (L KO) (L ae)) (N Eu (L LO) (L aB))) (N sF (N D5 (L ae) (L aB)) (N aV (L ae) E)))) (N Du (N DE (N wB (N ae (L PY) (L QY)) (N En (L Qp) (L RY))) (N bu (N DV (L aV) (L X6)) (N Kc (L Mb) E))) (N aV (N rZ (N xP (L ae) (L Rb)) (N ae (L aB) (L Sb))) (N sI (N ae (L Ln) (L ae)) (N ae (L QK) E))))
abbrev Ti:=N aB (N ae (N aB (N oW (N xF (L E4) (L ae)) (N zW (L ae) (L ae))) (N wU (N zC (L aB) (L ae)) (N ae (L L3) E))) (N JK (N wH (N ae (L KL) (L Q4)) (N Er (L LK) (L Yk))) (N sA (N D0 (L Le) (L X8)) (N ES (L ae) E)))) (N Hl (N Hy (N rQ (N ae (L ae) (L QW)) (N Ej (L LC) (L RW))) (N sf (N zI (L K9) (L ae)) (N bo (L aB) E))) (N oS (N pj (N xN (L KU) (L aB)) (N JZ (L Qu) (L Sa))) (N sG (N D8 (L aB) (L ae)) (N aB (L QI) E))))
abbrev Tj:=N Ha (N ae (N DC (N ae (N sQ (L E8) (L aB)) (N Eh (L LA) (L aB))) (N ae (N zF (L P9) (L Ro)) (N J8 (L ae) E))) (N ae (N wM (N aV (L KP) (L ae)) (N JU (L ae) (L R7))) (N aV (N ae (L ae) (L ae)) (N Km (L XM) E)))) (N fP (N DG (N wD (N DO (L aB) (L QZ)) (N aV (L aB) (L ae))) (N xh (N DX (L Qd) (L aB)) (N aB (L Me) E))) (N rK (N ae (N zy (L ae) (L Rg)) (N EC (L LX) E)) (N xy (N ae (L Lp) (L RK)) (N Kr (L QM) E))))
abbrev Tn:=N G7 (N Hc (N Hs (N rM (N xD (L ae) (L QO)) (N zU (L aB) (L RM))) (N r8 (N aB (L K2) (L aB)) (N aV (L Qw) E))) (N ae (N rV (N DQ (L ae) (L XW)) (N ae (L ae) (L R3))) (N ae (N bo (L Qf) (L Ry)) (N EO (L aB) E)))) (N Dp (N ae (N rP (N aV (L Kw) (L ae)) (N ae (L ae) (L ae))) (N sd (N xV (L ae) (L Rq)) (N J9 (L L_) E))) (N oQ (N pe (N ae (L P5) (L Q_)) (N JX (L LS) (L Ym))) (N ae (N zR (L Ll) (L aB)) (N Kp (L ae) E))))
abbrev To:=N Dl (N aV (N DA (N rN (N sO (L Ku) (L QS)) (N Eg (L Ly) (L RS))) (N wX (N bo (L ae) (L X4)) (N EF (L L5) E))) (N aB (N wK (N DT (L aB) (L Q6)) (N Ex (L aB) (L ae))) (N xo (N aB (L Lg) (L RB)) (N ae (L QE) E)))) (N Hm (N HA (N bu (N zo (L KD) (L aB)) (N JR (L LG) (L aB))) (N xg (N aB (L ae) (L Rv)) (N Ke (L ae) E))) (N ae (N aV (N xR (L KY) (L ae)) (N EA (L ae) E)) (N sL (N Ea (L ae) (L Yd)) (N EX (L XO) E))))
abbrev Tp:=N G9 (N Dn (N ae (N oY (N aB (L ae) (L QQ)) (N Ed (L Lu) (L RO))) (N aV (N xT (L ae) (L Rl)) (N J5 (L aB) E))) (N rB (N bu (N mC (L P0) (L aB)) (N Es (L Qs) (L R5))) (N sD (N D3 (L aB) (L RA)) (N Kh (L Mi) E)))) (N Dr (N ae (N rR (N DL (L KA) (L XT)) (N El (L ae) (L Yi))) (N w_ (N bo (L La) (L Rt)) (N Ka (L ae) E))) (N rG (N pC (N zx (L aB) (L ae)) (N aB (L LV) (L aB))) (N xx (N aV (L ae) (L RH)) (N EV (L ae) E))))
abbrev Tq:=N aV (N Hj (N Hv (N wz (N xJ (L aB) (L ae)) (N JO (L Qm) (L ae))) (N r9 (N aB (L K7) (L aB)) (N EH (L L7) E))) (N oJ (N aB (N ae (L ae) (L Q8)) (N bo (L LQ) (L ae))) (N ae (N zN (L Li) (L Yb)) (N ae (L QG) E)))) (N Ho (N DI (N aB (N aV (L ae) (L ae)) (N ae (L ae) (L R0))) (N xl (N zK (L ae) (L Rw)) (N ae (L QA) E))) (N ae (N wO (N bo (L K0) (L X0)) (N EE (L ae) E)) (N bu (N zS (L Qj) (L aB)) (N EZ (L aB) E))))
abbrev Tr:=N aV (N aB (N Hr (N ae (N ae (L E3) (L XQ)) (N zT (L ae) (L Ye))) (N r6 (N ae (L K1) (L ae)) (N bo (L ae) E))) (N HC (N ae (N aB (L KJ) (L ae)) (N Ep (L LJ) (L aB))) (N sy (N DZ (L ae) (L aB)) (N EN (L ae) E)))) (N aB (N Hw (N wA (N bu (L PX) (L QV)) (N Ei (L LB) (L RV))) (N r_ (N ae (L K8) (L X5)) (N EK (L L8) E))) (N oO (N rX (N zw (L ae) (L Q9)) (N ae (L aB) (L ae))) (N xw (N zQ (L Lj) (L ae)) (N Ko (L QH) E))))
abbrev Tt:=N Dk (N fP (N Dz (N o9 (N xG (L ae) (L QR)) (N aV (L Lx) (L RQ))) (N wW (N zE (L K5) (L aB)) (N aB (L Qx) E))) (N ae (N ae (N DS (L ae) (L XX)) (N Ew (L ae) (L R6))) (N xn (N ae (L Qg) (L X_)) (N Kl (L aB) E)))) (N Dv (N ae (N wC (N zm (L KC) (L ae)) (N JQ (L LF) (L ae))) (N aV (N ae (L Qa) (L Ru)) (N Kd (L Mc) E))) (N rH (N bu (N xQ (L P6) (L Rf)) (N J0 (L LW) (L Sd))) (N sJ (N D_ (L Lo) (L aB)) (N aB (L ae) E))))
abbrev Tu:=N G8 (N Dm (N Dw (N oX (N ae (L E5) (L aB)) (N zX (L Qk) (L aB))) (N bu (N ae (L K3) (L X3)) (N J4 (L ae) E))) (N ae (N wI (N zp (L ae) (L ae)) (N ae (L ae) (L R4))) (N sC (N ae (L ae) (L Rz)) (N Kg (L QB) E)))) (N Dq (N Hz (N jN (N aB (L aB) (L ae)) (N Ek (L LD) (L ae))) (N sj (N zJ (L K_) (L aB)) (N aV (L Ma) E))) (N rF (N pA (N ae (L ae) (L Ra)) (N ae (L LU) (L ae))) (N ae (N bo (L Lm) (L Yc)) (N Kq (L QJ) E))))
abbrev Tv:=N fP (N Hi (N Hu (N aV (N xH (L ae) (L QT)) (N JN (L Ql) (L RT))) (N aB (N ae (L K6) (L ae)) (N EG (L aB) E))) (N rE (N ae (N DU (L KQ) (L aB)) (N JV (L Qt) (L R8))) (N xq (N D6 (L aB) (L aB)) (N Kn (L QF) E)))) (N aV (N DH (N ae (N ae (L KG) (L Q0)) (N Eo (L LH) (L Yj))) (N xj (N ae (L Qe) (L X7)) (N EL (L ae) E))) (N rL (N aB (N zz (L aB) (L ae)) (N ED (L LY) E)) (N xA (N aB (L ae) (L ae)) (N EY (L ae) E))))
abbrev Tw:=N ae (N Hd (N ae (N oV (N xE (L Ks) (L QP)) (N zV (L Ls) (L RN))) (N wR (N zB (L ae) (L Rk)) (N J3 (L L0) E))) (N aV (N rW (N DR (L aB) (L Q3)) (N aB (L aB) (L ae))) (N xm (N aV (L Ld) (L ae)) (N ER (L Mh) E)))) (N ae (N Hx (N ae (N DK (L Kz) (L aB)) (N JP (L Qn) (L aB))) (N se (N xW (L P_) (L Rr)) (N J_ (L ae) E))) (N oR (N ph (N aB (L KS) (L ae)) (N JY (L ae) (L R_))) (N aB (N D7 (L ae) (L RG)) (N ae (L XN) E))))
abbrev Tz:=N G_ (N Hh (N DB (N rO (N sP (L E7) (L ae)) (N ae (L Lz) (L ae))) (N wY (N aV (L aB) (L Rn)) (N ae (L L6) E))) (N oH (N wL (N bo (L P4) (L Q7)) (N Ey (L LP) (L Yl))) (N bu (N zM (L Lh) (L RC)) (N aB (L ae) E)))) (N Hn (N DF (N aV (N DN (L ae) (L XU)) (N bo (L ae) (L RZ))) (N ae (N DW (L Qc) (L ae)) (N ae (L aB) E))) (N rJ (N wN (N xS (L KZ) (L aB)) (N EB (L Qv) E)) (N sM (N Eb (L aB) (L RJ)) (N ae (L QL) E))))
abbrev TF:=N ae (N Hf (N Ht (N oZ (N sN (L aB) (L ae)) (N Ef (L Lv) (L ae))) (N wV (N xU (L P8) (L Rm)) (N J7 (L L4) E))) (N rC (N aV (N zq (L KN) (L Q5)) (N Et (L LL) (L ae))) (N sE (N D4 (L Lf) (L ae)) (N bo (L Mj) E)))) (N Dt (N aB (N rT (N DM (L ae) (L QX)) (N Em (L aB) (L RX))) (N xf (N aV (L ae) (L ae)) (N ae (L Qz) E))) (N ae (N rY (N xO (L KW) (L XZ)) (N Ez (L ae) (L Yn))) (N sH (N D9 (L Qi) (L RI)) (N EW (L aB) E))))
abbrev TH:=N Hb (N Hk (N fP (N ae (N xK (L Kv) (L XS)) (N ae (L ae) (L Yh))) (N ae (N zG (L ae) (L Rp)) (N EI (L ae) E))) (N oK (N o_ (N zt (L aB) (L ae)) (N aV (L LR) (L aB))) (N xr (N zO (L ae) (L RD)) (N ET (L ae) E)))) (N ae (N DJ (N wF (N DP (L PZ) (L aB)) (N JS (L Qq) (L R1))) (N ae (N zL (L aB) (L Rx)) (N Kf (L Mf) E))) (N aB (N wQ (N aV (L ae) (L Ri)) (N J1 (L aB) E)) (N aV (N ae (L Lq) (L RL)) (N ae (L QN) E))))
abbrev HP:=N boot_o_0 (N boot_o_1 (N QC (N boot_o_7 Tg Th) (N ae Ti Tj)) (N boot_o_5 (N boot_o_9 Tn To) (N Dg Tp Tq))) (N boot_o_2 (N boot_o_4 (N boot_o_8 Tr Tt) (N QD Tu Tv)) (N boot_o_6 (N boot_o_10 Tw Tz) (N Dh TF TH)))
abbrev lf:Life:=⟨[],[],[],0,[],[],false,#[],[],0,false,false,false,0,[2000,10,10],false,0,true,[],[],0,false⟩
abbrev TA (w:World) (os:OsState):SharedT:=⟨Yo w.params,15,lf,⟨[]⟩,⟨0,0,0,0⟩,187,os⟩
abbrev T0 (w:World) (os:OsState):SharedT:=⟨Yq w.params,97,lf,⟨[]⟩,⟨0,0,0,0⟩,300,os⟩
abbrev T1 (w:World) (os:OsState):SharedT:=⟨Yv w.params,184,lf,⟨[]⟩,⟨0,0,0,0⟩,421,os⟩
abbrev T2 (w:World) (os:OsState):SharedT:=⟨YA w.params,272,lf,⟨[]⟩,⟨0,0,0,0⟩,541,os⟩
abbrev T3 (w:World) (os:OsState):SharedT:=⟨YF w.params,341,lf,⟨[]⟩,⟨0,0,0,0⟩,634,os⟩
abbrev T4 (w:World) (os:OsState):SharedT:=⟨SE w.params,429,lf,⟨[]⟩,⟨0,0,0,0⟩,756,os⟩
abbrev T5 (w:World) (os:OsState):SharedT:=⟨SQ w.params,524,lf,⟨[]⟩,⟨0,0,0,0⟩,904,os⟩
abbrev T6 (w:World) (os:OsState):SharedT:=⟨Tf w.params,743,lf,⟨[]⟩,⟨0,0,0,0⟩,1196,os⟩
abbrev T7 (w:World) (os:OsState):SharedT:=⟨HP w.params,953,lf,⟨[]⟩,⟨0,0,0,0⟩,1475,os⟩
abbrev bE:List Stmt:=behindTheImports pw
abbrev nv:Env:={ scope:=pw.main.scope,locals:=mainNs,globals:=mainNs,cells:=[],code:=(r 13),frame:=some 14 }
abbrev cE:Code:=.body bE nv
abbrev BF:List Frame:=[topFrame ⟨0,0,0,0⟩]
abbrev an:Option Value:=(some (r 6))
abbrev TJ:List Stmt:=(bE.drop 0).take 7
abbrev TL:List Stmt:=(bE.drop 7).take 5
abbrev TM:List Stmt:=(bE.drop 12).take 5
abbrev TN:List Stmt:=(bE.drop 17).take 5
abbrev TQ:List Stmt:=(bE.drop 22).take 5
abbrev TR:List Stmt:=(bE.drop 27).take 19
abbrev TU:List Stmt:=(bE.drop 46).take 34
abbrev TV:List Stmt:=(bE.drop 80).take 37
abbrev S0 (w:World) (os:OsState):Shared:=⟨boot_heap w.params,Array.mk [],boot_drawn,boot_toks,os⟩
abbrev th0:Thread:=piecesOf TJ nv cE ⟨0,0,0,0⟩ BF
abbrev th1:Thread:=piecesOf TL nv cE ⟨18,0,18,8⟩ BF
abbrev th2:Thread:=piecesOf TM nv cE ⟨32,0,35,28⟩ BF
abbrev th3:Thread:=piecesOf TN nv cE ⟨52,0,55,26⟩ BF
abbrev th4:Thread:=piecesOf TQ nv cE ⟨66,0,67,8⟩ BF
abbrev th5:Thread:=piecesOf TR nv cE ⟨84,0,88,24⟩ BF
abbrev th6:Thread:=piecesOf TU nv cE ⟨124,0,135,31⟩ BF
abbrev th7:Thread:=piecesOf TV nv cE ⟨332,0,337,43⟩ BF
abbrev thA:Thread:=⟨denote treeTable cE,cE,⟨0,0,0,0⟩,BF⟩
abbrev thB:Thread:=blockOf bE nv cE ⟨0,0,0,0⟩ BF
abbrev thF:Thread:=⟨doneF .next,cE,⟨624,0,637,69⟩,BF⟩
noncomputable abbrev as:List Addr:=[2,3,15,22,23,24,25,28,35,36,37,40,47,49,50,52,53,54,55,56,59,66,68,69,71,72,73,74,75,78,85,87,88,90,91,92,93,94,104,106,107,109,110,111,112,113,114,115,125,127,128,130,131,132,133,134,135,136,146,147,148,149,150,153,160,161,162,165,172,174,175,177,178,179,180,181,184,191,192,193,196,203,205,206,208,209,210,211,212,215,222,224,225,227,228,229,230,231,234,241,243,244,246,247,248,249,250,253,260,262,263,265,266,267,268,269,272,279,280,281,291,292,293,294,295,298,305,307,308,310,311,312,313,314,317,324,325,326,329,336,337,338,341,348,349,350,353,360,362,363,365,366,367,368,369,372,379,381,382,384,385,386,387,388,391,398,400,401,403,404,405,406,407,410,417,419,420,422,423,424,425,426,429,436,438,439,441,442,443,444,445,448,455,457,458,460,461,462,463,464,467,474,476,477,479,480,481,482,483,486,493,494,495,498,501,502,503,505,506,508,509,510,512,513,515,516,517,519,520,522,523,524,526,527,529,530,531,533,534,536,537,538,540,541,543,544,545,547,548,550,551,552,555,556,557,559,560,562,563,564,566,567,569,570,571,573,574,576,577,578,580,581,583,584,585,588,589,590,592,593,595,596,597,605,607,608,610,611,612,614,615,617,618,619,621,622,624,625,626,628,629,631,632,633,635,636,638,639,640,642,643,645,646,647,648,649,650,651,654,656,657,659,660,661,664,665,666,668,669,671,672,673,675,676,678,679,680,682,683,685,686,687,689,690,692,693,694,696,697,699,700,701,703,704,706,707,708,710,711,713,714,715,717,718,720,721,722,724,725,727,728,729,731,732,734,735,736,738,739,741,742,743,745,746,748,749,750,752,753,755,756,757,759,760,762,763,764,766,767,769,770,771,773,774,776,777,778,780,781,783,784,785,787,788,790,791,792,795,796,797,799,800,802,803,804,806,807,809,810,811,813,814,816,817,818,820,821,823,824,825,827,828,830,831,832,834,835,837,838,839,842,843,844,846,847,849,850,851,853,854,856,857,858,861,862,863,865,866,868,869,870,873,874,875,878,879,880,882,883,885,886,887,890,891,892,894,895,897,898,899,901,902,904,905,906,908,909,911,912,913,915,916,918,919,920,922,923,925,926,927,929,930,932,933,934,936,937,939,940,941,943,944,946,947,948,951,952]
abbrev K (P:Params):Frag:=as.zip ([boot_o_2,QC,Di,ae,Dj,Dk,Dl,fP,ae,Dm,Dn,fP,ae,Dp,ae,Dq,Dr,Dt,Du,Dv,fP,ae,Dw,ae,Dy,Dz,DA,DB,DC,fP,ae,DE,ae,DF,DG,DH,DI,DJ,ae,oH,ae,oJ,oK,oN,oO,oQ,oR,oS,ae,oU,ae,oV,oW,oX,oY,oZ,o8,o9,ae,rQ,jN,rR,rT,bu,ae,rV,rW,bu,ae,o_,ae,pe,ph,pj,pA,pC,bu,ae,r6,r8,bu,ae,r9,ae,r_,sd,se,sf,sj,bu,ae,sy,ae,sA,sC,sD,sE,sF,bu,ae,sG,ae,sH,sI,sJ,sL,sM,bu,ae,sN,ae,sO,sP,sQ,xH,xJ,bu,ae,zm,zo,ae,zp,mC,zq,zr,bo,ae,xN,ae,xO,xP,xQ,xR,xS,bo,ae,xT,xU,bo,ae,xV,xW,bo,ae,zK,zL,bo,ae,zM,ae,zN,zO,zP,zQ,zR,bo,ae,zS,ae,zT,zU,zV,zW,zX,bo,ae,Ei,ae,Ej,Ek,El,Em,En,bo,ae,Er,ae,Et,Eu,Ew,Ex,Ey,bo,ae,Ez,ae,EA,EB,EC,ED,EE,bo,ae,EF,ae,EG,EH,EI,EJ,EK,bo,ae,EL,ae,EM,EN,EO,ER,ES,bo,ae,ET,EU,ae,EV,EW,ae,EX,ae,EY,EZ,ae,E3,ae,E4,E5,ae,E6,ae,E7,E8,ae,Kv,ae,Kw,Kz,ae,KA,ae,KC,KD,ae,KG,ae,KI,KJ,ae,KL,ae,KN,KO,ae,KP,KQ,ae,KR,ae,KS,KU,ae,KW,ae,KY,KZ,ae,K0,ae,K1,K2,ae,K3,ae,K4,K5,ae,K6,K7,ae,K8,ae,K9,K_,La,ae,Lb,ae,Ld,Le,ae,Lf,ae,Lg,Lh,ae,Li,ae,Lj,Ll,ae,Lm,ae,Ln,Lo,ae,Lp,ae,Lq,Lr,ae,Ls,ae,Lu,Lv,Lw,Lx,Ly,Lz,LA,ae,LB,ae,LC,LD,ae,LF,LG,ae,LH,ae,LI,LJ,ae,LK,ae,LL,LO,ae,LP,ae,LQ,LR,ae,LS,ae,LU,LV,ae,LW,ae,LX,LY,ae,LZ,ae,L0,L3,ae,L4,ae,L5,L6,ae,L7,ae,L8,L_,ae,Ma,ae,Mb,Mc,ae,Me,ae,Mf,Mg,ae,Mh,ae,Mi,Mj,ae,QE,ae,QF,QG,ae,QH,ae,QI,QJ,ae,QK,ae,QL,QM,ae,QN,ae,QO,QP,ae,QQ,ae,QR,QS,ae,QT,ae,QU,QV,ae,QW,ae,QX,QY,ae,QZ,Q0,ae,Q2,ae,Q3,Q4,ae,Q5,ae,Q6,Q7,ae,Q8,ae,Q9,Q_,ae,Ra,ae,Rb,Rf,ae,Rg,ae,Ri,Rj,ae,Rk,ae,Rl,Rm,ae,Rn,Ro,ae,Rp,ae,Rq,Rr,ae,Rt,ae,Ru,Rv,ae,Rw,Rx,ae,Ry,ae,Rz,RA,ae,RB,RC,ae,RD,RE,ae,RG,ae,RH,RI,ae,RJ,RK,ae,RL,ae,RM,RN,ae,RO,ae,RQ,RS,ae,RT,ae,RU,RV,ae,RW,ae,RX,RY,ae,RZ,ae,R0,R1,ae,R3,ae,R4,R5,ae,R6,ae,R7,R8,ae,R9,ae,R_,Sa,ae,Sb,Sd].map fun o=>o P)
abbrev vw:Program:={ pw with main:={ pw.main with body:=([1,2,3,4,5,7,8,9,10,11,12,13,14,15,16,17,18,19,20,21,22,23,24,25,26,27,28,29,30,32,33,34,35,36,38,39,40,41,42,43,44,45,46,47,48,49,50,51,52,53,54,55,56,58,59,60,61,62,63,64,65,66,67,68,69,70,71,72,73,74,75,76,77,78,79,80,81,83,85,86,87,88,89,91,92,93,94,95,96,98,99,100,101,102,103,104,105,106,107,108,109,110,111,112,113,114,115,116]:List Nat).map top } }
theorem pre:∀ w:World,(fun os=>topGo treeTable pw w 11 an 12 (S0 w os) (topStub pw))=fun os=>some ((TA w os).abs,thA):=by
 exact fun w=>by kernel_rfl
theorem Wt:∀ w:World,(fun os=>segRun treeTable pw w 11 an 1 1 (TA w os).abs thB)=fun os=>some (Flow.next,(TA w os).abs,cE,(⟨0,0,0,0⟩:Pos)):=by
 exact fun w=>by kernel_rfl
theorem g0:∀ w:World,(fun os=>segRunT treeTable pw w 11 an 1 1153 (TA w os) th0)=fun os=>some (Flow.next,T0 w os,cE,(⟨18,0,18,8⟩:Pos)):=by
 rewrite [PySem.W.Fast.te10110043849684766642]
 exact fun w=>by kernel_rfl
theorem g1:∀ w:World,(fun os=>segRunT treeTable pw w 11 an 1 1095 (T0 w os) th1)=fun os=>some (Flow.next,T1 w os,cE,(⟨32,0,35,28⟩:Pos)):=by
 rewrite [PySem.W.Fast.te10110043849684766642]
 exact fun w=>by kernel_rfl
theorem g2:∀ w:World,(fun os=>segRunT treeTable pw w 11 an 1 1198 (T1 w os) th2)=fun os=>some (Flow.next,T2 w os,cE,(⟨52,0,55,26⟩:Pos)):=by
 rewrite [PySem.W.Fast.te10110043849684766642]
 exact fun w=>by kernel_rfl
theorem g3:∀ w:World,(fun os=>segRunT treeTable pw w 11 an 1 1075 (T2 w os) th3)=fun os=>some (Flow.next,T3 w os,cE,(⟨66,0,67,8⟩:Pos)):=by
 rewrite [PySem.W.Fast.te10110043849684766642]
 exact fun w=>by kernel_rfl
theorem g4:∀ w:World,(fun os=>segRunT treeTable pw w 11 an 1 1200 (T3 w os) th4)=fun os=>some (Flow.next,T4 w os,cE,(⟨84,0,88,24⟩:Pos)):=by
 rewrite [PySem.W.Fast.te10110043849684766642]
 exact fun w=>by kernel_rfl
theorem g5:∀ w:World,(fun os=>segRunT treeTable pw w 11 an 1 1169 (T4 w os) th5)=fun os=>some (Flow.next,T5 w os,cE,(⟨124,0,135,31⟩:Pos)):=by
 rewrite [PySem.W.Fast.te10110043849684766642]
 exact fun w=>by kernel_rfl
theorem g6:∀ w:World,(fun os=>segRunT treeTable pw w 11 an 1 1193 (T5 w os) th6)=fun os=>some (Flow.next,T6 w os,cE,(⟨332,0,337,43⟩:Pos)):=by
 rewrite [PySem.W.Fast.te10110043849684766642]
 exact fun w=>by kernel_rfl
theorem g7:∀ w:World,(fun os=>segRunT treeTable pw w 11 an 1 1005 (T6 w os) th7)=fun os=>some (Flow.next,T7 w os,cE,(⟨624,0,637,69⟩:Pos)):=by
 rewrite [PySem.W.Fast.te10110043849684766642]
 exact fun w=>by kernel_rfl
theorem fin:∀ w:World,(fun os=>topRun treeTable pw w 11 an 2 (T7 w os).abs thF)=fun os=>some (T7 w os).abs:=by
 exact fun w=>by kernel_rfl
theorem chn (w:World) (os:OsState):∀ l,l=(TJ++(TL++(TM++(TN++(TQ++(TR++(TU++(TV++[]))))))))->topRun treeTable pw w 11 an (1153+(1095+(1198+(1075+(1200+(1169+(1193+(1005+2)))))))) (TA w os).abs (restOf l nv cE ⟨0,0,0,0⟩ BF)=some (T7 w os).abs:=fun l e=>by
 rw [e]
 exact piece_app (segRun_of (congrFun (g0 w) os)) (piece_app (segRun_of (congrFun (g1 w) os)) (piece_app (segRun_of (congrFun (g2 w) os)) (piece_app (segRun_of (congrFun (g3 w) os)) (piece_app (segRun_of (congrFun (g4 w) os)) (piece_app (segRun_of (congrFun (g5 w) os)) (piece_app (segRun_of (congrFun (g6 w) os)) (piece_app (segRun_of (congrFun (g7 w) os)) (congrFun (fin w) os))))))))
theorem run (w:World) (os:OsState):topRun treeTable pw w 11 an (12+(1+(1153+(1095+(1198+(1075+(1200+(1169+(1193+(1005+2)))))))))) (S0 w os) (topStub pw)=some (T7 w os).abs:=go_top (congrFun (pre w) os) (piece_block (congrFun (Wt w) os) (chn w os bE (by kernel_rfl)))
theorem Oh:∀ P,as=(K P).map (·.1):=fun _=>by kernel_rfl
abbrev H:Hook:=kHook K as Oh
abbrev H1 (P:Params):Heap:=absHeap (HP P) 953 lf
abbrev SF (w:World) (os:OsState):Shared:=⟨H1 w.params,Array.mk [],⟨0,0,0,0⟩,1475,os⟩
abbrev Xt (s:Shared):Bool:=xlAt vw [] s&&recOk (RowW.records (OpenRow.toRowW (OpenLaw.row PySem.Challenge.rw_rowblade_k22_a_line_read))) s
theorem opn:∀ w:World,(fencedOpening treeTable pw w 18286).map (fun s=>(s.heap,s.gens,s.drawn,s.toks))=some (boot_heap w.params,Array.mk [],boot_drawn,boot_toks):=boot_open (by kernel_rfl) (by decide) (fun s=>by kernel_rfl)
theorem siz:∀ w:World,((boot_heap w.params).isNs mainGlobals&&(Array.mk []:Array GenState).size == 0,(boot_heap w.params).objs.size,(boot_heap w.params).nsMap mainGlobals "__annotations__")=(true,11,an):=fun w=>by kernel_rfl
theorem lk1:∀ w:World,(fun os=>(staticsOk (importedModules pw.main.body) (boot_heap w.params) (H1 w.params)&&namesBound pw (H1 w.params)&&gensDone (SF w os)&&laidKept (boot_heap w.params) (H1 w.params)))=fun _=>true:=fun w=>by kernel_rfl
theorem q1:∀ w:World,(fun os=>PyProof.Rows.seen (List.map (fun x=>x.name) (PyProof.Rows.recsOf vw)) (PyProof.Rows.ownsOf vw) [] { heap:=(SF w os).heap,drawn:=(SF w os).drawn,toks:=(SF w os).toks,os:=(SF w os).os })=fun _=>PyProof.Rows.expectedOf vw:=fun w=>by kernel_rfl
theorem q2:∀ w:World,(fun os=>(SF w os).heap.bltView)=fun _=>bltViewBooted:=fun w=>by kernel_rfl
theorem b1:∀ w:World,(fun os=>(SF w os).heap.keysOk (looseW vw []) (List.map (fun x=>x.name) (PyProof.Rows.recsOf vw)) (List.map (fun x=>x.fst) (PyProof.Rows.litsOf vw)) (List.map (fun x=>x.name) (PyProof.Rows.clssOf vw (looseW vw []))))=fun _=>true:=fun w=>by kernel_rfl
theorem b2:∀ w:World,(fun os=>(SF w os).heap.accountedOkI (importedModules pw.main.body))=fun _=>true:=fun w=>by kernel_rfl
theorem b3:∀ w:World,(fun os=>(SF w os).heap.isNs mainGlobals)=fun _=>true:=fun w=>by kernel_rfl
theorem b4:∀ w:World,(fun os=>(SF w os).heap.isNs builtinsNs)=fun _=>true:=fun w=>by kernel_rfl
theorem b5:∀ w:World,(fun os=>PyProof.Rows.tablesOk vw (SF w os).heap)=fun _=>true:=fun w=>by kernel_rfl
theorem b6:∀ w:World,(fun os=>Xt (SF w os))=fun _=>true:=fun w=>by kernel_rfl
theorem q4:∀ w:World,(fun os=>PyProof.Rows.tabsOk vw (SF w os))=fun _=>true:=fun w=>by kernel_rfl
theorem q5:∀ w:World,(fun os=>pinSeenD vw (PyProof.Rows.drecsOf vw) (SF w os))=fun _=>pinGoodD (PyProof.Rows.drecsOf vw):=fun w=>by kernel_rfl
theorem q6:∀ w:World,(fun os=>PyProof.Rows.plainSeenE vw (looseW vw []) (SF w os))=fun _=>PyProof.Rows.plainGoodE vw (looseW vw []):=fun w=>by kernel_rfl
theorem q7:∀ w:World,(fun os=>PyProof.Rows.plainSeenD vw [] (SF w os))=fun _=>PyProof.Rows.plainGoodD vw []:=fun w=>by kernel_rfl
theorem q8:∀ w:World,(fun os=>wideSeen vw (SF w os))=fun _=>wideGood vw:=fun w=>by kernel_rfl
theorem q9:∀ w:World,(fun os=>clsSeenW vw [] (SF w os))=fun _=>clsGoodW vw []:=fun w=>by kernel_rfl
theorem lk2:∀ w:World,(fun os=>openSeen vw [] (importedModules pw.main.body) Xt true (SF w os))=fun _=>openGood vw []:=fun w=>funext fun os=>looks_pair (congrFun (q1 w) os) (looks_pair (congrFun (q2 w) os) (looks_pair (by
 show (_&&_&&_&&_&&_&&_&&_)=true
 rw [congrFun (b1 w) os,congrFun (b2 w) os,congrFun (b3 w) os,congrFun (b4 w) os,congrFun (b5 w) os,congrFun (b6 w) os];rfl) (looks_pair (congrFun (q4 w) os) (looks_pair (congrFun (q5 w) os) (looks_pair (congrFun (q6 w) os) (looks_pair (congrFun (q7 w) os) (looks_pair (congrFun (q8 w) os) (congrFun (q9 w) os))))))))
theorem lk3:∀ w:World,(fun os=>Hook.obs H (SF w os))=fun _=>Hook.val H w:=fun w=>by kernel_rfl
theorem left:LeftO pw vw [] Xt (Hook.obs H) (Hook.val H) 18286:=LeftO.of_pieces (H₁:=H1) (gs₁:=Array.mk []) (d₁:=⟨0,0,0,0⟩) (k₁:=1475) opn siz run (by decide) fun w=>funext fun os=>looks_pair (congrFun (lk1 w) os) (looks_pair (congrFun (lk2 w) os) (congrFun (lk3 w) os))
end KH
end
namespace L2
open PySem PySem.Spec PyProof.Rows
section
variable {κ:Type} [DecidableEq κ]
def iI (ba:List (κ × V)) (k:κ):Option V:=(ba.find? fun kv=>decide (kv.1=k)).map (·.2)
def putK (ba:List (κ × V)) (k:κ) (v:V):List (κ × V):=
 if (ba.any fun kv=>decide (kv.1=k))=true then ba.map (fun kv=>if kv.1=k then (kv.1,v) else kv) else ba++[(k,v)]
theorem gX {p:κ × V}{r:List (κ × V)}{k:κ}(e:p.1=k):iI (p::r) k=some p.2:=by simp [iI,List.find?_cons,e]
theorem gY {p:κ × V}{r:List (κ × V)}{k:κ}(e:¬ p.1=k):iI (p::r) k=iI r k:=by simp [iI,List.find?_cons,e]
theorem jO (k:κ):∀ ba:List (κ × V),(ba.any fun kv=>decide (kv.1=k))=(iI ba k).isSome
 | []=>rfl
 | p::r=>by
  rw [List.any_cons]
  by_cases e:p.1=k
  ·simp only [gX e,decide_eq_true e,Bool.true_or,Option.isSome_some]
  ·rw [gY e,decide_eq_false e,Bool.false_or];exact jO k r
theorem jb (ba:List (κ × V)) (k:κ) (v:V):(putK ba k v).length<=ba.length+1:=by
 unfold putK
 split
 ·rw [List.length_map];omega
 ·rw [List.length_append,List.length_cons,List.length_nil];omega
theorem gM.eO {o:Option V}{u:Option Value}(r:gM o u):o.isSome=u.isSome:=by
 cases o with
 | none=>cases u with
  | none=>rfl
  | some _=>exact (show False from r).elim
 | some _=>cases u with
  | none=>exact (show False from r).elim
  | some _=>rfl
theorem KV.val {ba:List (κ × V)}{vs:List (κ × Value)}(r:KV ba vs) (k:κ):gM (iI ba k) (valueAt vs k):=by
 unfold KV at r
 induction r with
 | nil=>exact True.intro
 | @cons p q ps qs h t ih=>
  obtain ⟨h1,h2⟩:=h
  by_cases e:p.1=k
  ·have e':q.1=k:=h1.symm.trans e
   have b:valueAt (q::qs) k=some q.2:=by simp [valueAt,List.find?_cons,e']
   rw [gX e,b];exact h2
  ·have e':¬ q.1=k:=fun z=>e (h1.trans z)
   have b:valueAt (q::qs) k=valueAt qs k:=by simp [valueAt,List.find?_cons,e']
   rw [gY e,b];exact ih
theorem KV.any {ba:List (κ × V)}{vs:List (κ × Value)}(r:KV ba vs) (k:κ):(ba.any fun kv=>decide (kv.1=k))=vs.any fun kv=>decide (kv.1=k):=by
 unfold KV at r
 induction r with
 | nil=>rfl
 | cons h t ih=>rw [List.any_cons,List.any_cons,ih,h.1]
theorem KV.Ml {ba:List (κ × V)}{vs:List (κ × Value)}(r:KV ba vs) (k:κ) {y:V}{u:Value}(ry:RelV y u) :
  KV (ba.map fun kv=>if kv.1=k then (kv.1,y) else kv) (vs.map fun kv=>if kv.1=k then (kv.1,u) else kv):=by
 unfold KV at r ⊢
 induction r with
 | nil=>exact .nil
 | @cons p q ps qs h t ih=>
  rw [List.map_cons,List.map_cons]
  refine .cons ?_ ih
  obtain ⟨h1,h2⟩:=h
  by_cases e:p.1=k
  ·rw [if_pos e,if_pos (h1.symm.trans e)];exact ⟨h1,ry⟩
  ·rw [if_neg e,if_neg (fun z=>e (h1.trans z))];exact ⟨h1,h2⟩
theorem KV.put {ba:List (κ × V)}{vs:List (κ × Value)}(r:KV ba vs) (k:κ) {y:V}{u:Value}(ry:RelV y u):KV (putK ba k y) (stored vs k u):=by
 unfold putK stored
 rw [r.any k]
 by_cases e:(vs.any fun kv=>decide (kv.1=k))=true
 ·rw [if_pos e,if_pos e];exact r.Ml k ry
 ·rw [if_neg e,if_neg e];exact Paired.snoc r ⟨rfl,ry⟩
theorem KV.length {ba:List (κ × V)}{vs:List (κ × Value)}(r:KV ba vs):ba.length=vs.length:=Paired.length r
end
theorem uJ {P:Program}{w:World}{k:Key}{u:Value}(r:RelV (kV k) u):(b9 P w).is k u=true:=by
 cases k with
 | inl i=>obtain ⟨t,e⟩:=(show ∃ t,u=Value.int i t from r);subst e;exact nX P w i t
 | inr x=>obtain ⟨t,e⟩:=(show ∃ t,u=Value.str x t from r);subst e;exact nY P w x t
theorem lD {P:Program}{w:World}:∀ {ks:List Key}{us:List Value},Vals (ks.map kV) us->ItemsAre (b9 P w) ks us
 | [],_,r=>by rw [List.map_nil] at r;cases r;exact .nil
 | k::ks,_,r=>by
  rw [List.map_cons] at r
  cases r with
  | cons h t=>exact .cons (uJ h) (lD t)
abbrev KT (H:Hp):List (List Key × V)->List (List Key × Addr × Value)->Prop:=Paired fun p q=>p.1=q.1/\H q.2.1=some (.tup (p.1.map kV))/\RelV p.2 q.2.2
theorem KT.val {H:Hp}{ba:List (List Key × V)}{xs:List (List Key × Addr × Value)}(r:KT H ba xs) (k:List Key):gM (iI ba k) ((atKey xs k).map (·.2)):=by
 induction r with
 | nil=>exact True.intro
 | @cons p q ps qs h t ih=>
  obtain ⟨h1,_,h2⟩:=h
  by_cases e:p.1=k
  ·have e':q.1=k:=h1.symm.trans e
   have b:atKey (q::qs) k=some q.2:=by simp [atKey,List.find?_cons,e']
   rw [gX e,b];exact h2
  ·have e':¬ q.1=k:=fun z=>e (h1.trans z)
   have b:atKey (q::qs) k=atKey qs k:=by simp [atKey,List.find?_cons,e']
   rw [gY e,b];exact ih
theorem KT.Ml {H:Hp}{ba:List (List Key × V)}{xs:List (List Key × Addr × Value)}(r:KT H ba xs) (k:List Key) {y:V}{u:Value}(ry:RelV y u) :
  KT H (ba.map fun kv=>if kv.1=k then (kv.1,y) else kv) (xs.map (putAt k u)):=by
 induction r with
 | nil=>exact .nil
 | @cons p q ps qs h t ih=>
  rw [List.map_cons,List.map_cons]
  refine .cons ?_ ih
  obtain ⟨h1,h2,h3⟩:=h
  unfold putAt
  by_cases e:p.1=k
  ·rw [if_pos e,if_pos (h1.symm.trans e)];exact ⟨h1,h2,ry⟩
  ·rw [if_neg e,if_neg (fun z=>e (h1.trans z))];exact ⟨h1,h2,h3⟩
theorem KT.put {H:Hp}{ba:List (List Key × V)}{xs:List (List Key × Addr × Value)}(r:KT H ba xs) (k:List Key) {b:Addr}{y:V}{u:Value}(hb:H b=some (.tup (k.map kV))) (ry:RelV y u) :
  KT H (putK ba k y) (storedH xs k b u):=by
 have e:(ba.any fun kv=>decide (kv.1=k))=(atKey xs k).isSome:=by
  rw [jO,(r.val k).eO,Option.isSome_map]
 unfold putK storedH
 rw [e]
 by_cases q:(atKey xs k).isSome=true
 ·rw [if_pos q,if_pos q];exact r.Ml k ry
 ·rw [if_neg q,if_neg q];exact Paired.snoc r ⟨rfl,hb,ry⟩
theorem KT.keeps {H H':Hp}{ba:List (List Key × V)}{xs:List (List Key × Addr × Value)}(r:KT H ba xs) (ht:∀ b ys,H b=some (.tup ys)->H' b=some (.tup ys)):KT H' ba xs:=
 Paired.IP r fun _ _ z=>⟨z.1,ht _ _ z.2.1,z.2.2⟩
section
variable {P:Program}{w:World}{H:Hp}{h:Heap}{a:Addr}
theorem HQ {u:HO}(ok:gJ P w H h) (e:Rd H a u):bV P w H h a u:=e.ok ok
theorem zY {ba:List (Key × V)}(ok:gJ P w H h) (e:Rd H a (.dK ba)):ba.length<=sizeLine/\(a == sysModules)=false/\∃ vs,KV ba vs/\h.DictOf (b9 P w) a vs:=
 show bV P w H h a (.dK ba) from HQ ok e
theorem TX {ba:List (Key × V)}(ok:gJ P w H h) (e:H a=some (.dK ba)):ba.length<=sizeLine/\(a == sysModules)=false/\∃ vs,KV ba vs/\h.DictOf (b9 P w) a vs:=zY ok (.inl e)
theorem mD {ks:List Key}(ok:gJ P w H h) (e:H a=some (.tup (ks.map kV))):(tupleKind (b9 P w)).is h ks a:=by
 obtain ⟨_,its,r,o,h1,h2,n,h3⟩:=(show bV P w H h a (.tup (ks.map kV)) from ok a _ e)
 exact ⟨o,its.toArray,n,h1,h2,h3,by simpa using lD r⟩
theorem zZ {ba:List (List Key × V)}(ok:gJ P w H h) (e:Rd H a (.dT ba)):ba.length<=sizeLine/\(a == sysModules)=false /\
  ∃ xs,KT H ba xs/\h.DictOfH (tupleKind (b9 P w)) a xs:=by
 obtain ⟨z,y,xs,r,o,es,ep,h1,h2,h3,h4,h5⟩:=(show bV P w H h a (.dT ba) from HQ ok e)
 refine ⟨z,y,xs,r,o,es,ep,h1,h2,h3,h4,fun x hx=>?_,h5⟩
 have all:∀ {l:List (List Key × V)} {m:List (List Key × Addr × Value)},KT H l m->∀ x∈m,(tupleKind (b9 P w)).is h x.1 x.2.1:=by
  intro l m q
  induction q with
  | nil=>intro x hx;exact nomatch hx
  | @cons p q ps qs hq t ih=>
   intro x hx
   rcases List.mem_cons.mp hx with e | hx
   ·subst e
    exact mD ok (by rw [<- hq.1];exact hq.2.1)
   ·exact ih x hx
 exact all r x hx
theorem TY {ba:List (List Key × V)}(ok:gJ P w H h) (e:H a=some (.dT ba)):ba.length<=sizeLine/\(a == sysModules)=false /\
  ∃ xs,KT H ba xs/\h.DictOfH (tupleKind (b9 P w)) a xs:=zZ ok (.inl e)
end
def z3 (H:Hp) (a:Addr) (y:V) (r:Option V):Prop:=
 (∃ ba k,Rd H a (.dK ba)/\y=kV k/\r=iI ba k)\/∃ ba k b,Rd H a (.dT ba)/\y=.ref b/\H b=some (.tup (k.map kV))/\r=iI ba k
def E9 (H:Hp) (a:Addr) (y v:V) (H':Hp):Prop:=
 (∃ ba k,H a=some (.dK ba)/\y=kV k/\ba.length<sizeLine/\H'=upd H a (.dK (putK ba k v))) \/
 ∃ ba k b,H a=some (.dT ba)/\y=.ref b/\H b=some (.tup (k.map kV))/\ba.length<sizeLine/\H'=upd H a (.dT (putK ba k v))
theorem z3.k {H:Hp}{a:Addr}{ba:List (Key × V)}{k:Key}(e:H a=some (.dK ba)):z3 H a (kV k) (iI ba k):=.inl ⟨ba,k,.inl e,rfl,rfl⟩
theorem E9.k {H:Hp}{a:Addr}{ba:List (Key × V)}{k:Key}{v:V}(e:H a=some (.dK ba)) (hl:ba.length<sizeLine):E9 H a (kV k) v (upd H a (.dK (putK ba k v))):=.inl ⟨ba,k,e,rfl,hl,rfl⟩
section
variable {X:Cx}{pins:List (Addr × Obj)}{σ:St}{H:Hp}{s:Shared}{a:Addr}{y v:V}{u r:Value}{o:Option V}{A:Around}{E:Value->Shared->Prop}
theorem Inv.big (I:Inv X pins σ H s):sysModules<s.heap.objs.size:=by
 have h:mainGlobals<s.heap.objs.size:=(I.mod.glob.keeps I.bk).lt
 exact Nat.lt_trans (by decide) h
theorem YL {Q:Value->Shared->Prop}(hu:A.units+1<cLine) (I:Inv X pins σ H s) (g:z3 H a y o) (ry:RelV y u) (h:∀ s',Inv X pins σ H s'->Q (.bool o.isSome) s') :
  wpAny (model X.prog X.w) A (compareOp .In u (.ref a)) Q E s:=by
 rcases g with ⟨ba,k,e,ey,l⟩ | ⟨ba,k,b,e,ey,eb,l⟩
 ·subst ey
  obtain ⟨z,hd,vs,rel,dd⟩:=zY I.bU e
  refine wpAny_in_of (uJ ry) hd dd.mapOf ?_
  rw [<- (rel.val k).eO,<- l]
  exact h _ (I.tok _)
 ·subst ey
  cases (show u=Value.ref b from ry)
  obtain ⟨z,hd,xs,rel,dd⟩:=zZ I.bU e
  refine wpAny_in_heap (tupleKind_room_in1 hu) (mD I.bU eb) hd dd ?_
  have q:=(rel.val k).eO
  rw [Option.isSome_map] at q
  rw [<- q,<- l]
  exact h _ (I.tok _)
theorem E_ {Q:Value->Shared->Prop}(hu:A.units+1<cLine) (I:Inv X pins σ H s) (g:z3 H a y o) (ry:RelV y u) (h:∀ s',Inv X pins σ H s'->Q (.bool (!o.isSome)) s') :
  wpAny (model X.prog X.w) A (compareOp .NotIn u (.ref a)) Q E s:=by
 rcases g with ⟨ba,k,e,ey,l⟩ | ⟨ba,k,b,e,ey,eb,l⟩
 ·subst ey
  obtain ⟨z,hd,vs,rel,dd⟩:=zY I.bU e
  refine wpAny_notIn_of (uJ ry) hd dd.mapOf ?_
  rw [<- (rel.val k).eO,<- l]
  exact h _ (I.tok _)
 ·subst ey
  cases (show u=Value.ref b from ry)
  obtain ⟨z,hd,xs,rel,dd⟩:=zZ I.bU e
  refine wpAny_notIn_heap (tupleKind_room_in1 hu) (mD I.bU eb) hd dd ?_
  have q:=(rel.val k).eO
  rw [Option.isSome_map] at q
  rw [<- q,<- l]
  exact h _ (I.tok _)
theorem uK {h':Heap}{t':Nat}{ob:HO}(I:Inv X pins σ H s) (mu:OB (H a)) (hs:Heap.SameBut a s.heap h') (he:∃ q,h'.get? a=some q) (new:bV X.prog X.w (upd H a ob) h' a ob) :
  Inv X pins σ (upd H a ob) { s with heap:=h',toks:=t' }:=
 I.write (x:=a) (e:=a) mu (.inl rfl) (fun b q hb z=>(hs.2 b hb).trans z) he new
theorem Mm {P:Program}{w:World}{H':Hp}{h':Heap}{ba:List (Key × V)}{vs:List (Key × Value)}(z:ba.length<=sizeLine) (hd:(a == sysModules)=false) (rel:KV ba vs) (dd:h'.DictOf (b9 P w) a vs) :
  bV P w H' h' a (.dK ba):=⟨z,hd,vs,rel,dd⟩
theorem xX {H':Hp}{Q:Unit->Shared->Prop}(hu:A.units+1<cLine) (I:Inv X pins σ H s) (g:E9 H a y v H') (ry:RelV y u) (rv:RelV v r) (h:∀ s',Inv X pins σ H' s'->Q () s') :
  wpAny (model X.prog X.w) A (setItem (.ref a) u r) Q E s:=by
 rcases g with ⟨ba,k,e,ey,l,eH⟩ | ⟨ba,k,b,e,ey,eb,l,eH⟩
 ·subst ey eH
  obtain ⟨z,hd,vs,rel,dd⟩:=TX I.bU e
  have hz:vs.length<=sizeLine:=by rw [<- rel.length];exact z
  have hl:(putK ba k v).length<=sizeLine:=by have:=jb ba k v;omega
  refine wpAny_setItem_pairs (hsz:=hz) (uJ ry) dd fun h' Wu hs=>h _ ?_
  have he:∃ q,h'.get? a=some q:=let ⟨q,_,_,hq,_⟩:=Wu;⟨q,hq⟩
  exact uK I (by rw [e];exact True.intro) hs he (Mm hl hd (rel.put k rv) Wu)
 ·subst ey eH
  cases (show u=Value.ref b from ry)
  obtain ⟨z,hd,xs,rel,dd⟩:=TY I.bU e
  have hz:xs.length<=sizeLine:=by rw [<- Paired.length rel];exact z
  have hl:(putK ba k v).length<=sizeLine:=by have:=jb ba k v;omega
  refine wpAny_setItem_heap (hsz:=hz) (tupleKind_room_in1 hu) (mD I.bU eb) dd fun h' Wu hs=>h _ ?_
  obtain ⟨q,es,ep,hq,h2,h3,h4,_,h5⟩:=Wu
  refine uK I (by rw [e];exact True.intro) hs ⟨q,hq⟩ ⟨hl,hd,_,(rel.put k eb rv).keeps fun c ys ec=>?_,q,es,ep,hq,h2,h3,h4,h5⟩
  rw [ay (OA ec e (fun z=>nomatch z))]
  exact ec
end
section
variable {X:Cx}{pins:List (Addr × Obj)}{σ:St}{H:Hp}{s:Shared}{a:Addr}{ba:List (Key × V)}{k:Key}{u:Value}{A:Around}{E:Value->Shared->Prop}
end
def TZ (td ty tv:TE):TS:=fun D σ H=>tv σ H fun v H1=>td σ H1 fun x H2=>ty σ H2 fun y H3=>∃ a H4,x=.ref a/\E9 H3 a y v H4/\D.nx σ H4
section
variable {X:Cx}{o i e value:Expr}{pos pos' jI:Pos}{td ty tv:TE}
theorem Fb (hu:X.A.units+1<cLine) (ho:PE X o td) (hi:PE X i ty) (hv:PE X value tv) (hs:swapsWith value (some (.Subscript o i pos')) pos.line X.env=pure false) :
  PS X (.Assign [.Subscript o i pos'] value pos) (TZ td ty tv):=by
 intro pins s σ H D I h
 refine wpAny_Assign_Subscript (bY (hv pins s σ H _ I h) fun r s1 ⟨v,H1,I1,rv,q1⟩=>bY (ho pins s1 σ H1 _ I1 q1) fun u s2 ⟨x,H2,I2,rx,q2⟩=>bY (hi pins s2 σ H2 _ I2 q2) fun iv s3 ⟨y,H3,I3,ry,a,H4,ex,g,q3⟩=>?_) hs
 subst ex
 obtain rfl:u=Value.ref a:=rx
 exact xX hu I3 g ry rv fun s4 I4=>⟨σ,H4,I4,q3⟩
end
theorem z4 {P:Program}{w:World}{H:Hp}(h:Heap) (hb:sysModules<h.objs.size):bV P w H (h.push { cls:=.type "dict", data:=.dict #[] }) h.objs.size (.dK []):=
 ⟨Nat.zero_le _,beq_eq_false_iff_ne.mpr (Ne.symm (Nat.ne_of_lt hb)),[],.nil,Heap.DictOf.new h⟩
def Mn:TE:=fun _ H Q=>∀ p,H p=none->Q (.ref p) (upd H p (.dK []))
section
variable {X:Cx}{pos:Pos}
theorem z5:PE X (.Dict [] [] pos) Mn:=fun pins s σ H Q I h=>
 wpAny_Dict_empty ⟨.ref s.heap.objs.size,_,I.laid (a:=s.heap.objs.size) (o:=.dK []) (t':=s.toks) (fun _ _ q=>Heap.get?_push_of_some _ q) (Nat.le_refl _) (z4 s.heap I.big),rfl,h _ (I.bU.fresh (Nat.le_refl _))⟩
end
section
variable {X:Cx}{pins:List (Addr × Obj)}{σ:St}{H:Hp}{s:Shared}{a:Addr}{y d:V}{u r:Value}{o:Option V}{A:Around}{E:Value->Shared->Prop}
end
section
variable {X:Cx}{o e f:Expr}{apos cW:Pos}{td ty tx:TE}
end
section
variable {X:Cx}{pins:List (Addr × Obj)}{σ:St}{H:Hp}{s:Shared}{a:Addr}{ba:List (Key × V)}{A:Around}{E:Value->Shared->Prop}
end
section
variable {X:Cx}{pins:List (Addr × Obj)}{σ:St}{H:Hp}{s:Shared}{a:Addr}{y:V}{u:Value}{A:Around}{E:Value->Shared->Prop}
end
end L2
namespace Pf
def fF:List Nat->List Nat->List Nat
 | seen,[]=>seen
 | seen,c::l=>fF (if c∈seen then seen else c::seen) l
end Pf
namespace L2
open PySem PySem.Spec PyProof.Rows
section
variable {prog:Program}{w:World}
def fV (seen:List Nat) (k:Str):Bool:=seen.any fun c=>decide (k=⟨#[c]⟩)
theorem gZ {A:Around}{R:Result->Shared->Prop}{I S:Addr}{x:Str}{t:Tok}(hh:A.in1.handled=none) (gA:I≠S) (hb:x.cps.size+1<scanBound) :
  ∀ (l:List Nat) (i:Nat) (seen:List Nat) (s:Shared),x.cps.toList.drop i=l->seen.length<=i->i<=x.cps.size->s.heap.IsStrIter I "str_ascii_iterator" x t i->Heap.SetOf (strKind prog w) s.heap S (fV seen) seen.length ->
   (∀ (h':Heap) (tk:Nat),(∀ b o,b≠S->b≠I->s.heap.get? b=some o->h'.get? b=some o)->Heap.SetOf (strKind prog w) h' S (fV (Pf.fF seen l)) (Pf.fF seen l).length->R (.ok (.ret .none)) { s with heap:=h',toks:=tk }) ->
   codeAny (model prog w) A (Code.builtin "set.update.loop" { pos:=[.ref S,.ref I] }) R s
 | [],i,seen,s,hl,hsn,hi,hit,pD,h=>by
  refine codeAny_builtin F.entry_set_update_loop ?_
  rw [Around.under_plainId F.plain_set_update_loop]
  have hx:x.cps[i]?=none:=by
   have:=List.drop_eq_nil_iff.mp hl
   rw [Array.length_toList] at this
   exact Array.getElem?_eq_none (by omega)
  refine wpAny_bind (wpAny_pyNext_ascii_end hh hit hx fun h' he=>?_)
  refine wpAny_pure ?_
  refine h h' s.toks (fun b o _ Wv hg=>he b o Wv hg) ?_
  obtain ⟨o,es,ep,tb,e1,e2⟩:=pD
  exact ⟨o,es,ep,tb,he _ _ (Ne.symm gA) e1,e2⟩
 | c::l,i,seen,s,hl,hsn,hi,hit,pD,h=>by
  refine codeAny_builtin F.entry_set_update_loop ?_
  rw [Around.under_plainId F.plain_set_update_loop]
  have C8:x.cps.toList[i]?=some c:=by
   have:=congrArg (fun q=>q[0]?) hl
   simpa using this
  have hx:x.cps[i]?=some c:=by simpa using C8
  have dI:i<x.cps.size:=(Array.getElem?_eq_some_iff.mp hx).1
  refine wpAny_bind (wpAny_pyNext_ascii_item hit hx fun h1 YM sb1=>?_)
  have T8:Heap.SetOf (strKind prog w) h1 S (fV seen) seen.length:=by
   obtain ⟨o,es,ep,tb,e1,e2⟩:=pD
   exact ⟨o,es,ep,tb,(sb1.2 S (Ne.symm gA)).trans e1,e2⟩
  refine wpAny_bind (wpAny_holding (wpAny_holding (wpAny_bind ((strKind prog w).pyHash (k:=⟨#[c]⟩) (strKind_is prog w ⟨#[c]⟩ _) ?_))))
  refine wpAny_setAddHashed_of (strKind_is prog w ⟨#[c]⟩ _) rfl T8 (by omega) fun h2 sb2 T9=>?_
  refine wpAny_pure ⟨plainId_quiet F.plain_set_update_loop _,?_⟩
  have T_:fV seen ⟨#[c]⟩=decide (c∈seen):=by
   unfold fV
   rw [Bool.eq_iff_iff]
   simp
  have YN:h2.IsStrIter I "str_ascii_iterator" x t (i+1):=by
   obtain ⟨o,e1,e2⟩:=YM
   exact ⟨o,(sb2.2 I gA).trans e1,e2⟩
  refine gZ hh gA hb l (i+1) (if c∈seen then seen else c::seen) _ ?_ ?_ (by omega) YN ?_ fun h' tk hk zf=>?_
  ·have:=congrArg List.tail hl
   rw [List.tail_drop] at this
   exact this
  ·split
   ·omega
   ·simp;omega
  ·refine SetOf_congr T9 (fun k=>?_) ?_
   ·by_cases hc:c∈seen
    ·rw [if_pos hc]
     unfold fV
     rw [Bool.eq_iff_iff]
     simp only [Bool.or_eq_true,List.any_eq_true,decide_eq_true_eq]
     constructor
     ·rintro (z | z)
      ·exact z
      ·exact ⟨c,hc,z⟩
     ·exact fun z=>.inl z
    ·rw [if_neg hc]
     unfold fV
     rw [List.any_cons,Bool.or_comm]
   ·rw [T_]
    by_cases hc:c∈seen
    ·rw [decide_eq_true hc,if_pos rfl,if_pos hc]
    ·rw [decide_eq_false hc,if_neg Bool.false_ne_true,if_neg hc];rfl
  ·exact h h' tk (fun b o hbS Wv hg=>hk b o hbS Wv ((sb2.2 b hbS).trans ((sb1.2 b Wv).trans hg))) zf
theorem mE {A:Around}{E:Value->Shared->Prop}{s:Shared}{x:Str}{t:Tok}{Q:Value->Shared->Prop}(hh:A.handled=none) (ha:x.cps.all (· < 128)=true) (hb:x.cps.size+1<scanBound)
  (h:∀ h' tk,(∀ b o,s.heap.get? b=some o->h'.get? b=some o)->Heap.SetOf (strKind prog w) h' s.heap.objs.size (fV (Pf.fF [] x.cps.toList)) (Pf.fF [] x.cps.toList).length->Q (.ref s.heap.objs.size) { s with heap:=h',toks:=tk }) :
  wpAny (model prog w) A (call (.type "set") [.str x t]) Q E s:=by
 obtain ⟨hp,g,d,tk0,os⟩:=s
 obtain ⟨c,tl,hm⟩:=F.called_set.mro
 refine wpAny_call (codeAny_of_tree ?_)
 refine wpAny_pure ⟨Code.quiet_builtin _ (by decide +kernel),codeAny_builtin F.entry_type_call ?_⟩
 rw [Around.under_plain (weight_type_call_type _ _ _) rfl]
 unfold Builtin.«type.__call__»
 dsimp only
 refine wpAny_ite_false ?_ ?_
 ·rw [F.called_set.notType];rfl
 refine wpAny_ite_false ?_ ?_
 ·rw [F.called_set.canCreate];rfl
 refine wpAny_bind (wpAny_of_eq (F.typeCall_set_1 _) ?_)
 refine wpAny_bind (wpAny_of_eq hm ?_)
 refine wpAny_ite_false rfl ?_
 refine wpAny_bind (wpAny_of_eq F.called_set.made ?_)
 refine wpAny_bind (wpAny_pure ?_)
 refine wpAny_bind (wpAny_holding (wpAny_call (codeAny_mono (code_set_new_1 (E:=fun _ _=>False) (Q₁:=fun v s'=>∃ led,v=.ref hp.objs.size/\s'=⟨hp.push { cls:=.type "set", data:=.set #[] 0 (SetTable.fresh 0 0 led) },g,d,tk0,os⟩) (.str x t) fun led=>⟨led,rfl,rfl⟩) ?_)))
 intro r s1 hr
 cases r with
 | error e=>exact hr.elim
 | ok f=>
  cases f with
  | next=>exact hr.elim
  | brk=>exact hr.elim
  | cont=>exact hr.elim
  | ret v=>
   obtain ⟨led,rfl,rfl⟩:=hr
   have hg:=Heap.get?_push_size hp (o:={ cls:=.type "set", data:=.set #[] 0 (SetTable.fresh 0 0 led) }) rfl
   have hT:Shared.TypeIs ⟨hp.push { cls:=.type "set", data:=.set #[] 0 (SetTable.fresh 0 0 led) },g,d,tk0,os⟩ (.ref hp.objs.size) "set" := ⟨_,hg,rfl⟩
   refine wpAny_bind (wpAny_isInstance hT F.called_set.sub ?_)
   refine wpAny_ite_false rfl ?_
   refine wpAny_bind (wpAny_holding ?_)
   unfold callSpecial?
   refine wpAny_bind (wpAny_specialOf hT F.called_set.init.lookup ?_)
   dsimp only
   refine wpAny_holding (wpAny_bind (wpAny_of_eq (F.called_set.init.bind _) ?_))
   dsimp only
   refine wpAny_bind (wpAny_call (codeAny_call_builtin F.called_set.init.plain F.entry_set_init (check_set_init_1 hT ?_)))
   have aaa:=F.sub_str_set
   have aab:=F.sub_str_frozenset
   wp_walk using wpAny_pyIter_ascii ha
   have hz:(hp.push { cls:=.type "set", data:=.set #[] 0 (SetTable.fresh 0 0 led) }).objs.size=hp.objs.size+1:=Heap.size_push ..
   refine gZ (A:=A.in1.in1) (x:=x) (t:=t) (show A.in1.in1.in1.handled=none from hh) ?_ hb x.cps.toList 0 [] _ List.drop_zero (Nat.zero_le _) (Nat.zero_le _) ?_ ?_ fun h' tk hk hs=>?_
   ·show (hp.push _).objs.size≠hp.objs.size
    rw [hz];omega
   ·exact ⟨_,Heap.get?_push_size _ rfl,rfl,rfl⟩
   ·refine SetOf_congr ((setObjOf_fresh led).setOf (Heap.get?_push_of_some _ hg) (by decide)) (fun _=>rfl) rfl
   ·refine wpAny_pure (wpAny_pure (wpAny_pure (wpAny_ite_false rfl (wpAny_pure ?_))))
    refine h h' tk (fun b o Cq=>?_) hs
    have dI:b<hp.objs.size:=Heap.lt_size Cq
    refine hk b o (Nat.ne_of_lt dI) ?_ (Heap.get?_push_of_some _ (Heap.get?_push_of_some _ Cq))
    show b≠(hp.push _).objs.size
    rw [hz];exact Nat.ne_of_lt (Nat.lt_succ_of_lt dI)
end
section
variable {X:Cx}{a:Expr}{p p1 pos jP:Pos}{ta:TE}
theorem xY (hc:X.calm=true) (YO:X.mg "len" = none) (YQ:X.mg "set" = none) (ha:PE X a ta) (YR:Gl X "len" := by rfl) (YS:Gl X "set" := by rfl)
  (hs:starEach [a] X.env=(false,eval a X.env)::starEach [] X.env:=by rfl) (hpl:(backTo jP (starEach [] X.env)).any (·.1)=false:=by rfl)
  (yw:starEach [.Call (.Name "set" p1) [a] [] jP] X.env=(false,eval (.Call (.Name "set" p1) [a] [] jP) X.env)::starEach [] X.env:=by rfl) (YT:(backTo pos (starEach [] X.env)).any (·.1)=false:=by rfl) :
  PE X (.Call (.Name "len" p) [.Call (.Name "set" p1) [a] [] jP] [] pos) (fun σ H Q=>ta σ H fun v H1=>∃ z:Str,v=.str z/\z.cps.all (· < 128)=true/\z.cps.size+1<scanBound/\Q (.int ((Pf.fF [] z.cps.toList).length:Nat)) H1):=by
 intro pins s σ H Q I h
 have inner:wpAny (model X.prog X.w) X.A (eval (.Call (.Name "set" p1) [a] [] jP) X.env) (fun u s'=>∃ (D:Addr) (n:Nat) (S:Str->Bool) (H1:Hp),u=.ref D/\Inv X pins σ H1 s'/\Heap.SetOf (strKind X.prog X.w) s'.heap D S n/\n<scanBound/\Q (.int (n:Nat)) H1) X.xe s:=by
  have hA:=(bQ ha dD hs) jP pins s σ H (fun vs H1=>∃ z:Str,vs=[.str z]/\z.cps.all (· < 128)=true/\z.cps.size+1<scanBound/\Q (.int ((Pf.fF [] z.cps.toList).length:Nat)) H1) I (by
   show ta σ H _
   exact cast (congrArg (ta σ H) (funext fun v=>funext fun H1=>propext ⟨fun ⟨z,e,q⟩=>⟨z,by rw [e],q⟩,fun ⟨z,e,q⟩=>⟨z,(by cases e;rfl),q⟩⟩)) h)
  refine wpAny_Call_Name_kw (eY I YS YQ PyProof.Rows.boot_set (PyProof.Rows.callWith_type1 (bY hA fun us s1 ⟨vs,H1,I1,r1,q1⟩=>?_) hs hpl))
  obtain ⟨z,rfl,hz1,hz2,q⟩:=q1
  obtain ⟨u,rfl,⟨t,rfl⟩⟩:=r1.one
  refine mE (I1.ok.hd hc) hz1 hz2 fun h' tk hk pD=>?_
  have dI:(Pf.fF [] z.cps.toList).length<scanBound:=by
   obtain ⟨o,es,ep,tb,_,_,_,_,_,e6,_,e8⟩:=pD
   omega
  exact ⟨_,_,_,H1,rfl,I1.kept (t':=tk) hk,pD,dI,q⟩
 refine wpAny_Call_Name_kw (eY I YR YO PySem.boot_len (PyProof.Rows.callWith_builtin1 ?_ yw YT))
 rw [yw]
 refine Calls.spliced_cons (bY inner fun u s1 ⟨D,n,S,H1,e,I1,pD,dI,q⟩=>?_)
 subst e
 refine wpAny_pure ?_
 obtain ⟨o,es,ep,tb,e1,e2,e3,e4,e5,e6,e7,e8⟩:=pD
 have hsb:scanBound=4096:=rfl
 refine call_len_set e1 e2 e3 e7 (by omega) ⟨.int (n:Nat),H1,I1.kept (t':=s1.toks+1+1) (fun _ _ z=>z),⟨s1.toks+1,?_⟩,q⟩
 rw [e8]
end
end L2
namespace PySem
open Sem (wp)
open AutoSeq1 (wpAny_loadPart')
section
variable {prog:Program}{w:World}{A:Around}{E:Value->Shared->Prop}{s:Shared}
set_option maxHeartbeats 4000000 in
theorem fW (l:Addr) (items:Array Value) (n:Nat) (dz:Option Addr) (sl:Array (Option Value)) (t:Tok) :
  Meets (Builtin.«enumerate.__new__» ⟨[.type "enumerate", .ref l],[(Str.ofString "start", .int 1 t)]⟩) (fun _ R s=>s.heap.get? l=some { cls:=.type "list", dict:=dz,data:=.seq items n,slots:=sl } /\
   R (.ok (.ret (.ref (s.heap.push { cls:=.type "list_iterator", data:=.fields #[.ref l,.int 0 0] }).objs.size)))
    { s with heap:=(s.heap.push { cls:=.type "list_iterator", data:=.fields #[.ref l,.int 0 0] }).push { cls:=.type "enumerate", data:=.fields #[.none,.bool false,.ref s.heap.objs.size,rawInt 1,.none,.none] } }):=
 .of_wp fun prog w A R s h=>by
  obtain ⟨hp,g,d,tk,os⟩:=s;obtain ⟨hl,h⟩:=h
  have YU:=sub_enumerate
  have hL:Heap.IsList (Shared.heap ⟨hp,g,d,tk,os⟩) l items:=⟨_,hl,rfl,n,rfl⟩
  wp_walk using wpAny_loadPart' hl
  refine wpAny_stack_any fun st=>wpAny_pure ?_
  split
  ·rename_i c _ _ _ _ _
   cases (c == Value.type "enumerate")
   ·wp_walk using wpAny_loadPart' hl,wpAny_pyIter_list hL
    exact ⟨_,rfl,h⟩
   ·wp_walk using wpAny_loadPart' hl,wpAny_pyIter_list hL
    exact ⟨_,rfl,h⟩
  ·wp_walk using wpAny_loadPart' hl,wpAny_pyIter_list hL
   exact ⟨_,rfl,h⟩
theorem gB {T newId:String}{self:Value}{rest:List Value}{kw:List (Str × Value)}(hl:typeLookup (.type T) "__init__" = pure (some (.builtin "object.__init__")))
  (hm:Bind.madeBy (.type T)=pure (some newId)) (gA:(some newId != some "object.__new__")=true) :
  Meets (Builtin.«object.__init__» ⟨self::rest,kw⟩) (fun _ R s=>s.TypeIs self T/\R (.ok (.ret .none)) s):=by
 refine Meets.of_wp fun prog w A R s hs=>?_
 obtain ⟨hT,hq⟩:=hs
 cases rest with
 | nil=>
  cases kw with
  | nil=>exact wpAny_pure ⟨_,rfl,hq⟩
  | cons a kw=>
   repeat (any_goals (first | assumption | wp_step))
   exact ⟨_,rfl,hq⟩
 | cons a rest=>
  repeat (any_goals (first | assumption | wp_step))
  exact ⟨_,rfl,hq⟩
theorem fX (a b:Value):checkTypeCall "enumerate" ⟨[a],[(Str.ofString "start", b)]⟩=pure ():=by kernel_rfl
theorem gv (a b:Value):checkBuiltinCall "enumerate.__new__" ⟨[.type "enumerate", a],[(Str.ofString "start", b)]⟩=pure ():=by kernel_rfl
theorem pF (o a b:Value):argsOk "object.__init__" ⟨[o,a],[(Str.ofString "start", b)]⟩:=by
 unfold argsOk;rw [signature?_of (id := "object.__init__") (n:=['_','_','t','i','n','i','_','_']) (o:=['t','c','e','j','b','o']) (by kernel_rfl) F.owner_object];kernel_rfl
set_option maxHeartbeats 4000000 in
theorem iJ {l:Addr}{items:Array Value}{t:Tok}{Q:Value->Shared->Prop}(hL:s.heap.IsList l items)
  (h:∀ h',IsEnum h' (s.heap.objs.size+1) s.heap.objs.size 1 .none->h'.IsListIter s.heap.objs.size l 0->h'.objs.size=s.heap.objs.size+2 ->
   (∀ b o,s.heap.get? b=some o->h'.get? b=some o)->Q (.ref (s.heap.objs.size+1)) { s with heap:=h' }) :
  wpAny (model prog w) A (call (.type "enumerate") [.ref l] [(Str.ofString "start", .int 1 t)]) Q E s:=by
 obtain ⟨⟨c,dz,dt,sl⟩,hl,hc,n,hd⟩:=hL
 replace hc:c=.type "list" := hc
 replace hd:dt=.seq items n:=hd
 subst hc hd
 have ft:=F.called_enumerate
 obtain ⟨c,tl,aah⟩:=ft.mro
 have aac:=ft.made
 have YU:=ft.sub
 have hct:=fX (.ref l) (.int 1 t)
 have hcn:=gv (.ref l) (.int 1 t)
 refine wpAny_call (codeAny_of_tree ?_)
 show wpAny _ _ (callAny (.type "enumerate") _) _ _ _
 refine wpAny_pure ⟨Code.quiet_builtin _ (by decide +kernel),codeAny_builtin F.entry_type_call ?_⟩
 rw [Around.under_plain (weight_type_call_type "enumerate" _ _) (units_type_call_type "enumerate" _ _)]
 have h1:=ft.notType
 have h2:=ft.canCreate
 repeat (any_goals (first | assumption | wp_step))
 have hz:(s.heap.push { cls:=.type "list_iterator", data:=.fields #[.ref l,.int 0 0] }).objs.size=s.heap.objs.size+1:=Heap.size_push ..
 have he:IsEnum ((s.heap.push { cls:=.type "list_iterator", data:=.fields #[.ref l,.int 0 0] }).push
   { cls:=.type "enumerate", data:=.fields #[.none,.bool false,.ref s.heap.objs.size,rawInt 1,.none,.none] }) (s.heap.objs.size+1) s.heap.objs.size 1 .none:=by
  have:=Heap.get?_push_size (s.heap.push { cls:=.type "list_iterator", data:=.fields #[.ref l,.int 0 0] })
   (o:={ cls:=.type "enumerate", data:=.fields #[.none,.bool false,.ref s.heap.objs.size,rawInt 1,.none,.none] }) rfl
  rw [hz] at this;exact this
 have fin:=h _ he ⟨_,Heap.get?_push_of_some _ (Heap.get?_push_size _ rfl),rfl,rfl⟩ (by rw [Heap.size_push,hz]) fun b o x=>Heap.get?_push_of_some _ (Heap.get?_push_of_some _ x)
 refine codeAny_mono (codeAny_call_builtin ft.plain F.entry_enumerate_new (wpAny_of_eq hcn (fW l items n dz sl t prog w A.in1 (wants (fun obj s₁=>s₁.TypeIs obj "enumerate" /\ Q obj s₁) E) s ⟨hl,?_⟩))) fun r s₁ hr=>?_
 ·show _/\_
  rw [hz]
  exact ⟨⟨_,he,rfl⟩,fin⟩
 cases r with
 | error e=>exact hr
 | ok fl=>
  cases fl with
  | ret obj=>
   obtain ⟨hT,hq⟩:=hr
   have YV:=ft.init.lookup
   have hbi:=ft.init.bind obj
   repeat (any_goals (first | assumption | wp_step))
   refine codeAny_mono (codeAny_call_builtin ft.init.plain F.entry_object_init (ft.init.check _ _ _ _ _ _ _ _ hT (pF _ _ _) (gB ft.init.lookup ft.made (by decide) prog w A.in1 (wants (fun r s₂=>r=.none/\Q obj s₂) E) s₁ ⟨hT,rfl,hq⟩))) fun r₂ s₂ hr₂=>?_
   cases r₂ with
   | error e=>exact hr₂
   | ok fl₂=>
    cases fl₂ with
    | ret r=>
     obtain ⟨rfl,hq⟩:=hr₂
     repeat (any_goals (first | assumption | wp_step))
    | _=>exact hr₂.elim
  | _=>exact hr.elim
end
end PySem
namespace L2
open PySem PySem.Spec PyProof.Rows
theorem z6 {prog:Program}{w:World}{A:Around}{it:Addr}{fp:List Addr}{n:Nat}{P:Nat->Value->Prop}{St:Nat->Heap->Prop}(D:Draws prog w A it fp n P St) (m:Nat):Draws prog w A it fp (m+n) (fun j x=>∃ i,j=m+i/\P i x) (fun j h=>∃ i,j=m+i/\St i h) where
 live:=fun _ h ⟨i,_,st⟩=>D.live i h st
 frame:=fun _ h h' ⟨i,e,st⟩ k=>⟨i,e,D.frame i h h' st k⟩
 item:=fun j s Q E hj ⟨i,e,st⟩ hQ=>D.item i s Q E (by omega) st fun x h' tk p yv sb=>hQ x h' tk ⟨i,e,p⟩ ⟨i+1,by omega,yv⟩ sb
 done:=fun s Q E ⟨i,e,st⟩ hE=>by
  have:i=n:=by omega
  subst this
  exact D.done s Q E st hE
def Ua (K:PySem.W.Frag) (m:Nat) (l:Addr) (xs:List V):It:=
 ⟨fun i H=>i<xs.length/\c9 K H l xs,fun i H v H'=>∃ p x,H p=none/\xs[i]?=some x/\v=.ref p/\H'=upd H p (.tup [.int ((m+i:Nat):Int),x]),fun i H=>i=xs.length/\c9 K H l xs⟩
theorem jQ {P:Program}{w:World}{K:PySem.W.Frag}{elts:List Expr}{x1:Nat}{pos:Pos}{l e it:Addr}{xs:List V}{m:Nat}(YW:e≠it) (hle:l≠e) (YV:l≠it) :
  Turn P w K (.Tuple elts x1 pos) (Ua K m l xs) [e,it] e (fun i h=>(∃ old,IsEnum h e it ((m+i:Nat):Int) old)/\h.IsListIter it l i) where
 mem:=by simp
 obj:=fun i h st b hb=>by
  obtain ⟨⟨old,he⟩,o1,e1,_,d1⟩:=st
  simp only [List.mem_cons,List.not_mem_nil,or_false] at hb
  rcases hb with rfl | rfl
  ·exact ⟨_,he,fun v q=>by cases q⟩
  ·exact ⟨o1,e1,fun v q=>by rw [d1] at q;cases q⟩
 keep:=fun i h h' st k=>by
  obtain ⟨⟨old,he⟩,h1⟩:=st
  exact ⟨⟨old,k e (by simp) _ he⟩,h1.at fun o q=>k it (by simp) o q⟩
 item:=by
  intro X hP hw hK hc i pins s σ H E I hf st hg
  subst hP hw hK
  obtain ⟨hi,hq⟩:=hg
  obtain ⟨⟨old,he⟩,h1⟩:=st
  obtain ⟨its,rv,pl,hsz⟩:=I.list hq
  obtain ⟨u,hu,ru⟩:=rv.get (List.getElem?_eq_getElem hi)
  have hil:i<its.toArray.size:=by rw [List.size_toArray,<- rv.length];exact hi
  have D:=z6 (Draws.list (prog:=X.prog) (w:=X.w) (A:=X.A.in1) (I.ok.hd hc) it l YV its.toArray) m
  refine wpAny_pyNext_enum_itemD (n:=m+its.toArray.size) D he ⟨i,rfl,h1,pl.isList⟩ (by omega) YW (by simp only [List.mem_cons,List.not_mem_nil,or_false,not_or];exact ⟨YW,Ne.symm hle⟩) fun x h' tk px a1 a2 a3 a4 kk=>?_
  obtain ⟨i',ei,px⟩:=px
  have:i'=i:=by omega
  subst this
  have hx:x=u:=by
   rw [List.getElem?_toArray,hu] at px
   exact (Option.some.inj px).symm
  subst hx
  obtain ⟨i2,ei2,a2,_⟩:=a2
  have:i2=i'+1:=by omega
  subst this
  refine ⟨.ref s.heap.objs.size,rfl,?_⟩
  refine wpAny_letOwnedTupleGo_enum (s:={ s with heap:=h',toks:=tk+1 }) a1 fun Cr b1 b2=>?_
  have lt:∀ {d o},s.heap.get? d=some o->s.heap.objs.size≠d:=fun e=>Nat.ne_of_gt (Heap.lt_size e)
  have fpn:∀ b∈[e,it],s.heap.objs.size≠b:=fun b hb=>by
   obtain ⟨o1,e1,_⟩:=h1
   simp only [List.mem_cons,List.not_mem_nil,or_false] at hb
   rcases hb with rfl | rfl
   ·exact lt he
   ·exact lt e1
  have keep:∀ b o,b ∉ [e,it]->s.heap.get? b=some o->Cr.get? b=some o:=fun b o hb q=>by
   simp only [List.mem_cons,List.not_mem_nil,or_false,not_or] at hb
   exact (b2.2 b hb.1).trans (kk b o hb.1 hb.2 q)
  have hn:H s.heap.objs.size=none:=I.bU.fresh (Nat.le_refl _)
  have hT:Cr.get? s.heap.objs.size=some { cls:=.type "tuple", data:=.seq #[.int ((m+i':Nat):Int) tk,x] }:=(b2.2 _ (lt he)).trans a3
  have Ub:IsTup Cr s.heap.objs.size ([.int ((m+i':Nat):Int) tk,x]:List Value).toArray:=⟨_,hT,rfl,0,rfl⟩
  have Uc:∀ b v,H b=some v->b ∉ [e,it]:=fun b v q hb=>by rw [(hf b hb).1] at q;cases q
  have I1:Inv X pins σ (upd H s.heap.objs.size (.tup [.int ((m+i':Nat):Int),xs[i']])) { s with heap:=Cr,toks:=tk+1 }:=by
   refine I.step (g':=s.gens) (d':=s.drawn) (t':=tk+1) (ch:=[e,it]) (fun b hb=>⟨(hf b hb).2.2.2.1,(hf b hb).2.1,(hf b hb).2.2.2.2.1,(hf b hb).2.2.2.2.2⟩) (fun b o _ _ hb e _=>keep b o hb e) (fun b o _ _ hb e _=>⟨o.slots,keep b o hb e⟩)
    (fun b o hb e n=>by rw [ay (Ne.symm (lt e))];exact n) (fun b o hb e=>⟨o,keep b o hb e⟩) (fun b ys e=>by rw [ay (aT e hn)];exact e) (fun b o v e=>by rw [ay (aT e hn)];exact e)
    (fun b ps e=>⟨#[],by rw [ay (aT e hn),e];simp⟩) (fun m hm=>?_) ?_ I.bare
   ·obtain ⟨o,es,ep,ho,r⟩:=hm
    exact ⟨o,es,ep,keep _ o (fun hb=>(hf _ hb).2.1 rfl) ho,r⟩
   ·intro b v e
    by_cases hb:b=s.heap.objs.size
    ·subst hb
     rw [aw] at e
     cases e
     exact ⟨by show 2<=sizeLine;decide,_,.cons ⟨_,rfl⟩ (.cons ru .nil),Ub⟩
    ·rw [ay hb] at e
     refine (I.bU b v e).qU (fun c o hc q=>keep c o ?_ q) (fun c q=>by rw [ay (aT q hn)];exact q) fun c ys q=>by rw [ay (aT q hn)];exact q
     rcases hc with rfl | hc
     ·exact Uc c v e
     ·exact Uc c _ hc
  have eN:((m+i':Nat):Int)+1=((m+(i'+1):Nat):Int):=by omega
  refine ⟨.ref s.heap.objs.size,_,I1,rfl,⟨_,_,hn,List.getElem?_eq_getElem hi,rfl,rfl⟩,⟨⟨x,eN ▸ b1⟩,a2.at fun o q=>(b2.2 it YW.symm).trans q⟩,fun b hb=>?_⟩
  rw [ay (Ne.symm (fpn b hb))];exact (hf b hb).1
 done:=by
  intro X hP hw hK hc i pins s σ H E I hf st hg
  subst hP hw hK
  obtain ⟨hi,hq⟩:=hg
  obtain ⟨⟨old,he⟩,h1⟩:=st
  obtain ⟨its,rv,pl,hsz⟩:=I.list hq
  have hl:=rv.length
  have D:=z6 (Draws.list (prog:=X.prog) (w:=X.w) (A:=X.A.in1) (I.ok.hd hc) it l YV its.toArray) m
  refine wpAny_pyNext_enum_endD (n:=m+its.toArray.size) D he ⟨i,by rw [List.size_toArray];omega,h1,pl.isList⟩ fun h' kk=>⟨rfl,?_⟩
  have Uc:∀ b v,H b=some v->b ∉ [e,it]:=fun b v q hb=>by rw [(hf b hb).1] at q;cases q
  have keep:∀ b o,b ∉ [e,it]->s.heap.get? b=some o->h'.get? b=some o:=fun b o hb q=>by
   simp only [List.mem_cons,List.not_mem_nil,or_false,not_or] at hb
   exact kk b o hb.2 q
  refine I.step (g':=s.gens) (d':=s.drawn) (t':=s.toks) (ch:=[e,it]) (fun b hb=>⟨(hf b hb).2.2.2.1,(hf b hb).2.1,(hf b hb).2.2.2.2.1,(hf b hb).2.2.2.2.2⟩) (fun b o _ _ hb e _=>keep b o hb e) (fun b o _ _ hb e _=>⟨o.slots,keep b o hb e⟩)
   (fun b o hb e n=>n) (fun b o hb e=>⟨o,keep b o hb e⟩) (fun _ _ e=>e) (fun _ _ _ e=>e) (fun b ps e=>⟨#[],by rw [e];simp⟩) (fun m hm=>?_) (fun b v e=>?_) I.bare
  ·obtain ⟨o,es,ep,ho,r⟩:=hm
   exact ⟨o,es,ep,keep _ o (fun hb=>(hf _ hb).2.1 rfl) ho,r⟩
  ·refine (I.bU b v e).qU (fun c o hc q=>keep c o ?_ q) (fun _ q=>q) fun _ _ q=>q
   rcases hc with rfl | hc
   ·exact Uc c v e
   ·exact Uc c _ hc
 self:=fun _ _ _ _ _ st h=>by obtain ⟨⟨old,he⟩,_⟩:=st;exact wpAny_pyIter_enum he h
section
variable {X:Cx}
def Mp (K:PySem.W.Frag) (m:Nat) (ta:TA):TI:=fun σ H R=>ta σ H fun vs H1=>∃ l xs,vs=[.ref l]/\c9 K H1 l xs/\R (Ua K m l xs) H1
theorem Ud {a:Expr}{ta:TA}{elts:List Expr}{x1:Nat}{jI p pos:Pos}(hg:Gl X "enumerate") (hm:X.mg "enumerate" = none) (ha:PA X [a] ta) (hs:starEach [a] X.env=[(false,eval a X.env)]) :
  PI X (.Tuple elts x1 jI) (.Call (.Name "enumerate" p) [a] [] pos) (Mp X.K 0 ta):=by
 intro pins s σ H R I h
 refine Call_ (eY I hg hm PyProof.Rows.boot_enumerate (PyProof.Rows.callWith_type1 (bY (ha pos pins s σ H _ I h) fun us s1 ⟨vs,H1,I1,r1,q1⟩=>?_) (by rw [hs];rfl) rfl))
 obtain ⟨l,xs,e,hq,q⟩:=q1
 subst e
 obtain ⟨u,rfl,rx⟩:=vals1 r1
 cases rx
 obtain ⟨its,rv,pl,hz⟩:=I1.list hq
 refine call_enumerate_list pl.isList fun h' a1 a2 _ kk=>wpAny_pyIter_enum (s:={ s1 with heap:=h' }) a1 ?_
 have ll:l<s1.heap.objs.size:=let ⟨_,e,_⟩:=pl.isList;Heap.lt_size e
 refine ⟨s1.heap.objs.size+1,_,_,_,H1,rfl,I1.kept (t':=s1.toks) kk,jQ (l:=l) (it:=s1.heap.objs.size) (Nat.ne_of_gt (Nat.lt_succ_self _)) (Nat.ne_of_lt (Nat.lt_succ_of_lt ll)) (Nat.ne_of_lt ll),⟨⟨_,a1⟩,a2⟩,fun b hb=>?_,q⟩
 have Cq:s1.heap.objs.size<=b:=by
  simp only [List.mem_cons,List.not_mem_nil,or_false] at hb
  rcases hb with rfl | rfl
  ·exact Nat.le_add_right _ _
  ·exact Nat.le_refl _
 exact I1.qX Cq (I1.bU.fresh Cq)
theorem Mq {a:Expr}{ta:TA}{elts:List Expr}{x1 k1:Nat}{jI p pos p1 kp:Pos}(hg:Gl X "enumerate") (hm:X.mg "enumerate" = none) (ha:PA X [a] ta) (hs:starEach [a] X.env=[(false,eval a X.env)]) :
  PI X (.Tuple elts x1 jI) (.Call (.Name "enumerate" p) [a] [⟨some (Str.ofString "start"),.Constant (.int 1) k1 p1,kp⟩] pos) (Mp X.K 1 ta):=by
 intro pins s σ H R I h
 refine wpAny_Call_Name_kw (eY I hg hm PyProof.Rows.boot_enumerate ?_)
 refine PySem.W.callWith_of (P:=fun _=>True) (by rw [hs];rfl) (fun h _=>⟨.machine,.inr (.inl rfl),.now⟩) ?_
 refine PyProof.Rows.evalArgs_kw2 rfl (bY (ha pos pins s σ H _ I h) fun us s1 ⟨vs,H1,I1,r1,q1⟩=>?_) hs
 show wpAny _ _ (evalAll [(do let v <- eval (.Constant (.int 1) k1 p1) X.env;standAt pos;pure v)]) _ _ s1
 refine wpAny_evalAll_cons (wpAny_bind (wpAny_Constant_int (wpAny_bind (wpAny_standAt (wpAny_pure (wpAny_evalAll_nil ⟨trivial,?_⟩))))))
 obtain ⟨l,xs,e,hq,q⟩:=q1
 subst e
 obtain ⟨u,rfl,rx⟩:=vals1 r1
 cases rx
 have I2:Inv X pins σ H1 { s1 with toks:=s1.toks+1 }:=I1.tok _
 obtain ⟨its,rv,pl,hz⟩:=I2.list hq
 show wpAny _ _ (call (.type "enumerate") [.ref l] [(Str.ofString "start", .int 1 s1.toks)]) _ _ { s1 with toks:=s1.toks+1 }
 refine iJ pl.isList fun h' a1 a2 _ kk=>wpAny_pyIter_enum (s:={ s1 with heap:=h',toks:=s1.toks+1 }) a1 ?_
 have ll:l<s1.heap.objs.size:=let ⟨_,e,_⟩:=pl.isList;Heap.lt_size e
 refine ⟨s1.heap.objs.size+1,_,_,_,H1,rfl,I2.kept (t':=s1.toks+1) kk,jQ (m:=1) (l:=l) (it:=s1.heap.objs.size) (Nat.ne_of_gt (Nat.lt_succ_self _)) (Nat.ne_of_lt (Nat.lt_succ_of_lt ll)) (Nat.ne_of_lt ll),⟨⟨_,a1⟩,a2⟩,fun b hb=>?_,q⟩
 have Cq:s1.heap.objs.size<=b:=by
  simp only [List.mem_cons,List.not_mem_nil,or_false] at hb
  rcases hb with rfl | rfl
  ·exact Nat.le_add_right _ _
  ·exact Nat.le_refl _
 exact I2.qX Cq (I2.bU.fresh Cq)
end
end L2
namespace D
inductive Ky where
 | i (n:Int) | s (l:List Nat)
 deriving DecidableEq
inductive T where
 | non | bl (b:Bool) | int (i:Int) | str (l:List Nat) | tup (xs:List T) | lst (xs:List T)
 | scr (ns:List Int)
 | obj (c:Nat) (fs:List T)
 | own (k:Nat)
 | dz (ks:List Ky) (vs:List T)
inductive C where
 | val (t:T) | ol (ts:List T) | od (ks:List Ky) (vs:List T)
structure Ob where
 c:Nat
 fs:List C
structure S where
 r:List (Option C)
 m:List Ob
inductive Res (α:Type) where
 | ok (a:α) | bad
 | exc (c:Nat) (fs:List T) (s:S)
noncomputable def Res.bind {α β:Type}(x:Res α) (f:α->Res β):Res β:=match x with
 | .ok a=>f a
 | .bad=>.bad
 | .exc c fs s=>.exc c fs s
theorem af {α β:Type}{x:Res α}{f:α->Res β}{b:β}(h:x.bind f=.ok b):∃ a,x=.ok a/\f a=.ok b:=by
 cases x with
 | ok a=>exact ⟨a,rfl,h⟩
 | bad=>cases h
 | exc c fs s=>cases h
noncomputable def dh {α:Type}:Option α->Res α
 | some a=>.ok a
 | none=>.bad
theorem aF {α:Type}{o:Option α}{a:α}(h:dh o=.ok a):o=some a:=by
 cases o with
 | none=>cases h
 | some b=>cases h;rfl
noncomputable def gd {α:Type}(p:Prop) [Decidable p] (x:α):Option α:=if p then some x else none
theorem bF {α:Type}{p:Prop} [Decidable p] {x a:α}(h:gd p x=some a):p/\x=a:=by
 unfold gd at h
 split at h
 ·rename_i q;cases h;exact ⟨q,rfl⟩
 ·cases h
abbrev FE:=S->Res (T × S)
abbrev FT:=S->Res (Bool × S)
abbrev FL:=S->Res (List T × S)
inductive Out where
 | nx | rt (t:T) | bk | ct
abbrev FS:=S->Res (Out × S)
abbrev Fn:=List T->List Ob->Res (T × List Ob)
def Ue:T->T->Option T
 | .int i,.int j=>some (.int (i+j))
 | .str a,.str b=>gd (a.length+b.length<=1000000) (.str (a++b))
 | .lst a,.lst b=>gd (a.length+b.length<=1000000) (.lst (a++b))
 | _,_=>none
def Ug:T->T->Option T
 | .int i,.int j=>some (.int (i-j))
 | _,_=>none
def Uh:T->T->Option T
 | .int i,.int j=>gd ((-(2 ^ 64)<i/\i<2 ^ 64)\/(-(2 ^ 64)<j/\j<2 ^ 64)) (.int (i*j))
 | .lst a,.int k=>gd (k<1000000/\-1000000<k/\a.length*k.toNat<=1000000) (.lst (List.replicate k.toNat a).flatten)
 | .str a,.int k=>gd (2<=k/\k<1000000/\a≠[]/\a.length*k.toNat<=1000000) (.str (List.replicate k.toNat a).flatten)
 | _,_=>none
def Ui:T->T->Option T
 | .int i,.int j=>gd (0<j/\j<1073741824) (.int (i/j))
 | _,_=>none
def Uj:T->T->Option T
 | .int i,.int j=>gd (0<j) (.int (i % j))
 | _,_=>none
def Uk:T->T->Option T
 | .int i,.int j=>gd (0<=j/\j<=1000000/\i.natAbs<2 ^ 64) (.int (i ^ j.toNat))
 | _,_=>none
def kX:T->Option T
 | .int i=>some (.int (-i))
 | _=>none
def z7 (f:Int->Int->Bool):T->T->Option T
 | .int i,.int j=>some (.bl (f i j))
 | _,_=>none
mutual
noncomputable def eqT:T->T->Bool
 | .non,.non=>true
 | .bl a,.bl b=>a == b
 | .int a,.int b=>decide (a=b)
 | .bl a,.int b=>decide ((if a then 1 else 0:Int)=b)
 | .int a,.bl b=>decide (a=(if b then 1 else 0:Int))
 | .str a,.str b=>decide (a=b)
 | .tup a,.tup b=>fY a b
 | .lst a,.lst b=>fY a b
 | .scr a,.scr b=>decide (a=b)
 | .obj c a,.obj d b=>decide (c=d)&&fY a b
 | .own a,.own b=>decide (a=b)
 | .dz ks a,.dz ls b=>decide (ks=ls)&&fY a b
 | _,_=>false
noncomputable def fY:List T->List T->Bool
 | [],[]=>true
 | a::as,b::bs=>eqT a b&&fY as bs
 | _,_=>false
end
mutual
theorem pG:∀ t:T,eqT t t=true
 | .non=>rfl
 | .bl b=>by cases b<;>rfl
 | .int i=>decide_eq_true rfl
 | .str l=>decide_eq_true rfl
 | .tup xs=>eQ xs
 | .lst xs=>eQ xs
 | .scr ns=>decide_eq_true rfl
 | .obj c xs=>by
  show (decide (c=c)&&fY xs xs)=true
  rw [decide_eq_true rfl,eQ xs];rfl
 | .own k=>decide_eq_true rfl
 | .dz ks xs=>by
  show (decide (ks=ks)&&fY xs xs)=true
  rw [decide_eq_true rfl,eQ xs];rfl
theorem eQ:∀ ts:List T,fY ts ts=true
 | []=>rfl
 | t::ts=>by
  show (eqT t t&&fY ts ts)=true
  rw [pG t,eQ ts];rfl
end
def bM:T->Bool
 | .bl _=>true
 | .int _=>true
 | .str _=>true
 | .non=>true
 | _=>false
def all2 (p:T->T->Bool):List T->List T->Bool
 | a::as,b::bs=>p a b&&all2 p as bs
 | _,_=>true
def shape:Nat->T->T->Bool
 | n+1,.tup as,.tup bs=>all2 (shape n) as bs
 | n+1,.lst as,.lst bs=>all2 (shape n) as bs
 | _,a,b=>bM a&&bM b
def eqD:T->T->Option T:=fun a b=>gd (shape 5 a b=true) (.bl (eqT a b))
def neD:T->T->Option T:=fun a b=>gd (shape 5 a b=true) (.bl (!eqT a b))
def YX:T->T->Option T
 | .bl a,.bl b=>some (.bl (a == b))
 | .non,.non=>some (.bl true)
 | .own _,.own _=>none
 | _,.non=>some (.bl false)
 | _,_=>none
def Mr:T->T->Option T
 | .bl a,.bl b=>some (.bl (a != b))
 | .non,.non=>some (.bl false)
 | .own _,.own _=>none
 | _,.non=>some (.bl true)
 | _,_=>none
def Oi:T->T->Option Bool
 | .str [c],.str l=>some (decide (c∈l))
 | x,.tup ys=>gd (bM x=true/\ys.all bM=true) (ys.any fun y=>eqT y x)
 | x,.lst ys=>gd (bM x=true/\ys.all bM=true) (ys.any fun y=>eqT y x)
 | _,_=>none
def inD:T->T->Option T:=fun x y=>(Oi x y).map .bl
def Ms:T->T->Option T:=fun x y=>(Oi x y).map fun b=>.bl (!b)
noncomputable def atT {α:Type}(xs:List α) (i:Int):Option α:=if 0<=i then (if i<xs.length then xs[i.toNat]? else none) else if -(xs.length:Int)<=i then xs[(i+xs.length).toNat]? else none
def Ul (ks:List Ky) (vs:List T) (k:Ky):Option T:=match ks,vs with
 | a::ks,v::vs=>if a=k then some v else Ul ks vs k
 | _,_=>none
def putK:List Ky->List T->Ky->T->List Ky × List T
 | a::ks,v::vs,k,t=>if a=k then (a::ks,t::vs) else let p:=putK ks vs k t;(a::p.1,v::p.2)
 | _,_,k,t=>([k],[t])
def z8:T->Option Ky
 | .int i=>some (.i i)
 | .str l=>some (.s l)
 | _=>none
def ixD:T->T->Option T
 | .lst xs,.int i=>atT xs i
 | .tup xs,.int i=>atT xs i
 | .str l,.int i=>(atT l i).map fun c=>.str [c]
 | .scr ns,.int i=>(atT ns i).map .int
 | .dz ks vs,x=>(z8 x).bind (Ul ks vs)
 | _,_=>none
def fK:T->Option T
 | .str l=>some (.int l.length)
 | .tup xs=>some (.int xs.length)
 | .lst xs=>some (.int xs.length)
 | .scr ns=>some (.int ns.length)
 | .dz ks _=>some (.int ks.length)
 | _=>none
def eK (n d:Nat):Option Int->Nat
 | none=>d
 | some v=>if v<0 then (v+(n:Int)).toNat else min v.toNat n
noncomputable def bZ {α:Type}(xs:List α) (lo hi:Option Int):List α:=(xs.drop (eK xs.length 0 lo)).take (eK xs.length xs.length hi-eK xs.length 0 lo)
def z9 (lo hi:Option Int):T->Option T
 | .str l=>some (.str (bZ l lo hi))
 | .lst l=>some (.lst (bZ l lo hi))
 | .scr ns=>some (.lst ((bZ ns lo hi).map .int))
 | _=>none
def Fc:T->Option Bool
 | .bl b=>some b
 | .lst ts=>some (!ts.isEmpty)
 | _=>none
noncomputable def strsOf:List T->Option (List (List Nat))
 | []=>some []
 | .str l::ts=>(strsOf ts).map (l::·)
 | _=>none
noncomputable def bf (sep:List Nat):List (List Nat)->List Nat
 | []=>[]
 | [a]=>a
 | a::b::r=>a++sep++bf sep (b::r)
def lE:T->T->Option T
 | .str sep,.lst ts=>(strsOf ts).bind fun ys=>gd ((ys.map (·.length)).sum+ys.length*sep.length<=1000000) (.str (bf sep ys))
 | _,_=>none
noncomputable def pre (s l:List Nat):Bool:=decide (s.length<=l.length)&&(l.take s.length == s)
noncomputable def Mt (s l:List Nat):Bool:=decide (s.length<=l.length)&&(l.drop (l.length-s.length) == s)
def boolsOf:List T->Option (List Bool)
 | []=>some []
 | .bl b::ts=>(boolsOf ts).map (b::·)
 | _=>none
def Mu:T->Option T
 | .lst ts=>(boolsOf ts).map fun bs=>.bl (bs.all id)
 | _=>none
def Fd:T->Option T
 | .lst ts=>(boolsOf ts).map fun bs=>.bl (bs.any id)
 | _=>none
def HR:T->Option T
 | .lst a=>some (.lst a)
 | .tup a=>some (.lst a)
 | _=>none
def Um:T->Option T
 | .int i=>some (.int (if i<0 then -i else i))
 | _=>none
def cP:FE:=fun _=>.bad
def cF (t:T):FE:=fun s=>.ok (t,s)
def ju (s:S) (i:Nat) (c:C):S:={ s with r:=s.r.set i (some c) }
noncomputable def vF (i:Nat):FE:=fun s=>match s.r[i]? with
 | some (some (.val t))=>.ok (t,s)
 | some (some (.ol ts))=>.ok (.lst ts,ju s i (.val (.lst ts)))
 | some (some (.od ks ts))=>.ok (.dz ks ts,ju s i (.val (.dz ks ts)))
 | _=>.bad
def bD (g:T->Option T) (a:FE):FE:=fun s=>(a s).bind fun p=>(dh (g p.1)).bind fun t=>.ok (t,p.2)
def bB (g:T->T->Option T) (a b:FE):FE:=fun s=>(a s).bind fun p=>(b p.2).bind fun q=>(dh (g p.1 q.1)).bind fun t=>.ok (t,q.2)
def c_:FL:=fun s=>.ok ([],s)
def cM (a:FE) (r:FL):FL:=fun s=>(a s).bind fun p=>(r p.2).bind fun q=>.ok (p.1::q.1,q.2)
def g8:FL:=fun _=>.bad
def aM (g:List T->Option T) (a:FL):FE:=fun s=>(a s).bind fun p=>(dh (g p.1)).bind fun t=>.ok (t,p.2)
def aL (ts:List T):Option T:=gd (ts.length<=1000) (.tup ts)
def cK (ts:List T):Option T:=gd (ts.length<=1000) (.lst ts)
def mF:FT:=fun _=>.bad
def tB (a:FE):FT:=fun s=>(a s).bind fun p=>(dh (Fc p.1)).bind fun b=>.ok (b,p.2)
def ee (a b:FT):FT:=fun s=>(a s).bind fun p=>if p.1 then b p.2 else .ok (false,p.2)
def eS (a b:FT):FT:=fun s=>(a s).bind fun p=>if p.1 then .ok (true,p.2) else b p.2
def bA (a:FT):FT:=fun s=>(a s).bind fun p=>.ok (!p.1,p.2)
def dE:FT:=fun s=>.ok (true,s)
def Mv:T->Option Bool
 | .bl b=>some b
 | _=>none
def dq (a b:FE):FE:=fun s=>(a s).bind fun p=>(dh (Mv p.1)).bind fun k=>if k then b p.2 else .ok (.bl false,p.2)
def YY (a b:FE):FE:=fun s=>(a s).bind fun p=>(dh (Mv p.1)).bind fun k=>if k then .ok (.bl true,p.2) else b p.2
def pH (a:FE):FE:=fun s=>(a s).bind fun p=>(dh (Mv p.1)).bind fun k=>.ok (.bl (!k),p.2)
def nS (c:FT) (a b:FE):FE:=fun s=>(c s).bind fun p=>if p.1 then a p.2 else b p.2
abbrev FO:=S->Res (Option Int × S)
def sR:FO:=fun s=>.ok (none,s)
def Uo:T->Option Int
 | .int i=>some i
 | _=>none
def kN (a:FE):FO:=fun s=>(a s).bind fun p=>(dh (Uo p.1)).bind fun i=>.ok (some i,p.2)
def mG (a:FE) (lo hi:FO):FE:=fun s=>(a s).bind fun p=>(lo p.2).bind fun q=>(hi q.2).bind fun z=>(dh (z9 q.1 z.1 p.1)).bind fun t=>.ok (t,z.2)
def mH:Option (Option C)->Option (List T)
 | some (some (.ol ts))=>some ts
 | _=>none
def HS (i:Nat):FE:=fun s=>(dh (mH s.r[i]?)).bind fun ts=>.ok (.int ts.length,s)
def Up (i:Nat) (b:FE):FE:=fun s=>(dh (mH s.r[i]?)).bind fun _=>(b s).bind fun p=>(dh (mH p.2.r[i]?)).bind fun ts=>(dh (ixD (.lst ts) p.1)).bind fun t=>.ok (t,p.2)
def z_ (tab:List (List Nat)) (c f:Nat):Option Nat:=(tab[c]?).bind fun ns=>ns.idxOf? f
def aI (tab:List (List Nat)) (f:Nat) (a:FE):FE:=fun s=>(a s).bind fun p=>match p.1 with
 | .obj c fs=>(dh ((z_ tab c f).bind fun j=>fs[j]?)).bind fun t=>.ok (t,p.2)
 | .own k=>(dh ((p.2.m[k]?).bind fun ob=>(z_ tab ob.c f).bind fun j=>ob.fs[j]?)).bind fun c=>(match c with
  | .val t=>.ok (t,p.2)
  | _=>.bad)
 | _=>.bad
def cX (c n:Nat) (fl:FL):FE:=fun s=>(fl s).bind fun p=>if p.1.length=n then .ok (.obj c p.1,p.2) else .bad
def xZ (c:Nat) (g:Fn) (fl:FL):FE:=fun s=>(fl s).bind fun p=>match g (.own p.2.m.length::p.1) (p.2.m++[⟨c,[]⟩]) with
 | .ok (.non,m')=>.ok (.own p.2.m.length,{ p.2 with m:=m' })
 | .exc c fs s'=>.exc c fs { p.2 with m:=s'.m }
 | _=>.bad
def Mw (c:Nat):T->Option T
 | .lst ts=>some (.obj c [.lst ts])
 | _=>none
def ai (g:Fn) (ds:List T) (fl:FL):FE:=fun s=>(fl s).bind fun p=>match g (p.1++ds) p.2.m with
 | .ok q=>.ok (q.1,{ p.2 with m:=q.2 })
 | .bad=>.bad
 | .exc c fs s'=>.exc c fs { p.2 with m:=s'.m }
def aP (g:Nat->Option Fn) (o:FE) (fl:FL):FE:=fun s=>(o s).bind fun p=>match p.1 with
 | .own k=>(dh ((p.2.m[k]?).bind fun ob=>g ob.c)).bind fun h=>ai h [] (fun s=>(fl s).bind fun q=>.ok (.own k::q.1,q.2)) p.2
 | .obj c fs=>(dh (g c)).bind fun h=>ai h [] (fun s=>(fl s).bind fun q=>.ok (.obj c fs::q.1,q.2)) p.2
 | _=>.bad
def YZ:T->Option (List T)
 | .lst ts=>some ts
 | .tup ts=>some ts
 | .str l=>some (l.map fun c=>.str [c])
 | .scr ns=>some (ns.map .int)
 | _=>none
def lF (a:FE):FL:=fun s=>(a s).bind fun p=>(dh (YZ p.1)).bind fun ts=>.ok (ts,p.2)
def qQ (lo:Int) (n:Nat):List T:=(List.range n).map fun k=>.int (lo+(k:Nat))
def g9:List T->Option (List T)
 | [.int j]=>gd (j<1000000/\-1000000<j) (qQ 0 j.toNat)
 | [.int i,.int j]=>gd (i<1000000/\-1000000<i/\j<1000000/\-1000000<j) (qQ i (j-i).toNat)
 | [.int i,.int j,.int k]=>gd (k=-1/\i<1000000/\-1000000<i/\j<1000000/\-1000000<j) ((List.range (i-j).toNat).map fun k=>.int (i-(k:Nat)))
 | _=>none
def sU (g:List T->Option (List T)) (a:FL):FL:=fun s=>(a s).bind fun p=>(dh (g p.1)).bind fun ts=>.ok (ts,p.2)
def fZ:Int->List T->List T
 | _,[]=>[]
 | n,t::ts=>.tup [.int n,t]::fZ (n+1) ts
def Uq (n:Int):T->Option (List T)
 | .lst ts=>some (fZ n ts)
 | _=>none
def jR (n:Int) (a:FE):FL:=fun s=>(a s).bind fun p=>(dh (Uq n p.1)).bind fun ts=>.ok (ts,p.2)
abbrev FG:=T->List (Option C)->Option (List (Option C))
def setG (i:Nat):FG:=fun t r=>some (r.set i (some (.val t)))
def uL:List Nat->List T->List (Option C)->Option (List (Option C))
 | [],[],r=>some r
 | i::is,t::ts,r=>uL is ts (r.set i (some (.val t)))
 | _,_,_=>none
def dU (is:List Nat):FG:=fun t r=>match t with
 | .tup ts=>uL is ts r
 | _=>none
def Ff (r:List (Option C)) (j:Nat):List (Option C):=match r[j]? with
 | some (some (.ol ts))=>r.set j (some (.val (.lst ts)))
 | _=>r
def jm:List Nat->List (Option C)->List (Option C)
 | [],r=>r
 | j::js,r=>jm js (Ff r j)
def iK (k:Nat) (js:List Nat) (r:List (Option C)):List (Option C):=List.replicate k none++js.map fun j=>match r[j]? with
 | some (some (.val t))=>some (.val t)
 | _=>none
def du (g:FG) (c:FT) (e:FE) (b:List (Option C)):List T->List Ob->Res (List T × List Ob)
 | [],m=>.ok ([],m)
 | t::ts,m=>(dh (g t b)).bind fun b1=>(c ⟨b1,m⟩).bind fun p=>if p.1 then (e p.2).bind fun q=>(du g c e b ts q.2.m).bind fun z=>.ok (q.1::z.1,z.2) else du g c e b ts p.2.m
def bN (src:FL) (k:Nat) (js:List Nat) (g:FG) (c:FT) (e:FE):FL:=fun s=>(src s).bind fun p=>if p.1.length<=1000000 then
  (du g c e (iK k js (jm js p.2.r)) p.1 p.2.m).bind fun q=>.ok (q.1,⟨jm js p.2.r,q.2⟩) else .bad
def dc (fl:FL):FE:=fun s=>(fl s).bind fun p=>.ok (.lst p.1,p.2)
def av:FS:=fun s=>.ok (.nx,s)
def cz:FS:=fun _=>.bad
def ah (a b:FS):FS:=fun s=>(a s).bind fun p=>match p.1 with
 | .nx=>b p.2
 | o=>.ok (o,p.2)
def aE (i:Nat) (a:FE):FS:=fun s=>(a s).bind fun p=>.ok (.nx,ju p.2 i (.val p.1))
def pI (i:Nat) (a:FL):FS:=fun s=>(a s).bind fun p=>.ok (.nx,ju p.2 i (.ol p.1))
def mJ (g:FG) (a:FE):FS:=fun s=>(a s).bind fun p=>(dh (g p.1 p.2.r)).bind fun r=>.ok (.nx,{ p.2 with r:=r })
def ak (a:FE):FS:=fun s=>(a s).bind fun p=>.ok (.rt p.1,p.2)
def cQ (a:FE):FS:=fun s=>(a s).bind fun p=>.ok (.nx,p.2)
def aW (c:FT) (a b:FS):FS:=fun s=>(c s).bind fun p=>if p.1 then a p.2 else b p.2
def Ur:FS:=fun s=>.ok (.bk,s)
def Us:FS:=fun s=>.ok (.ct,s)
def iL (i:Nat) (a:FE):FS:=fun s=>(dh (mH s.r[i]?)).bind fun _=>(a s).bind fun p=>(dh (mH p.2.r[i]?)).bind fun ts=>(dh (gd (ts.length<1000000) ts)).bind fun ts=>.ok (.nx,ju p.2 i (.ol (ts++[p.1])))
def dw (i:Nat) (b a:FE):FS:=fun s=>(a s).bind fun p=>(dh (mH p.2.r[i]?)).bind fun _=>(b p.2).bind fun q=>(dh (mH q.2.r[i]?)).bind fun ts=>(dh (Uo q.1)).bind fun j=>(dh (gd (0<=j/\j<ts.length) (ts.set j.toNat p.1))).bind fun us=>.ok (.nx,ju q.2 i (.ol us))
def Aa (g:T->T->Option T) (i:Nat) (a:FE):FS:=fun s=>match s.r[i]? with
 | some (some (.val x))=>(a s).bind fun p=>(dh (g x p.1)).bind fun t=>.ok (.nx,ju p.2 i (.val t))
 | _=>.bad
def setAt (fs:List C) (j:Nat) (c:C):Option (List C):=if j<fs.length then some (fs.set j c) else if j=fs.length then some (fs++[c]) else none
def HU (tab:List (List Nat)) (f:Nat) (c:C) (ob:Ob):Option Ob:=(z_ tab ob.c f).bind fun j=>(setAt ob.fs j c).map fun fs=>⟨ob.c,fs⟩
def gy (tab:List (List Nat)) (f:Nat) (o a:FE):FS:=fun s=>(a s).bind fun p=>(o p.2).bind fun q=>match q.1 with
 | .own k=>(dh ((q.2.m[k]?).bind (HU tab f (.val p.1)))).bind fun ob=>.ok (.nx,{ q.2 with m:=q.2.m.set k ob })
 | _=>.bad
def dJ (g:FG) (b:FS):List T->FS
 | [],s=>.ok (.nx,s)
 | t::ts,s=>(dh (g t s.r)).bind fun r=>(b ⟨r,s.m⟩).bind fun p=>match p.1 with
  | .nx=>dJ g b ts p.2
  | .ct=>dJ g b ts p.2
  | .bk=>.ok (.nx,p.2)
  | .rt t=>.ok (.rt t,p.2)
def jS (src:FL) (g:FG) (b:FS):FS:=fun s=>(src s).bind fun p=>dJ g b p.1 p.2
def bW (c:FT) (b:FS):Nat->FS
 | 0,_=>.bad
 | n+1,s=>(c s).bind fun p=>if p.1 then (b p.2).bind fun q=>(match q.1 with
  | .nx=>bW c b n q.2
  | .ct=>bW c b n q.2
  | .bk=>.ok (.nx,q.2)
  | .rt t=>.ok (.rt t,q.2)) else .ok (.nx,p.2)
def mK (n:Nat) (c:FT) (b:FS):FS:=bW c b n
def aY (np n:Nat) (b:FS):Fn:=fun ts m=>if ts.length=np then (b ⟨ts.map (fun t=>some (.val t))++List.replicate (n-ts.length) none,m⟩).bind fun p=>match p.1 with
 | .rt t=>.ok (t,p.2.m)
 | .nx=>.ok (.non,p.2.m)
 | _=>.bad else .bad
mutual
def noOwn:T->Bool
 | .own _=>false
 | .tup xs=>aO xs
 | .lst xs=>aO xs
 | .obj _ xs=>aO xs
 | .dz _ xs=>aO xs
 | _=>true
def aO:List T->Bool
 | []=>true
 | t::ts=>noOwn t&&aO ts
end
noncomputable def aU (g:Fn):Fn:=fun ts m=>if aO ts=true then (match g ts [] with
 | .ok q=>if noOwn q.1=true then .ok (q.1,m) else .bad
 | .bad=>.bad
 | .exc c fs s=>if aO fs=true then .exc c fs ⟨s.r,m⟩ else .bad) else .bad
end D
namespace D
open PySem L2
abbrev SV (l:List Nat):V:=.str ⟨l.toArray⟩
structure KT where
 K:PySem.W.Frag
 P:Program
 w:World
 cn:List Str
 fn:List (List Str)
def fL (B:KT) (c:Nat) (C:Addr) (ns:List Str):Prop:=∃ n,B.cn[c]?=some n/\B.fn[c]?=some ns/\ns.Nodup/\PySem.W.nsIn B.K mainGlobals n=some (some (.ref C))
theorem fL.eq {B:KT}{c:Nat}{C C':Addr}{ns Cs:List Str}(h:fL B c C ns) (h':fL B c C' Cs):C=C'/\ns=Cs:=by
 obtain ⟨n,a,b,_,d⟩:=h
 obtain ⟨n',a',b',_,d'⟩:=h'
 rw [a] at a';cases a'
 rw [b] at b';cases b'
 rw [d] at d';cases d'
 exact ⟨rfl,rfl⟩
def jT:Ky->Key
 | .i n=>.inl n
 | .s l=>.inr ⟨l.toArray⟩
inductive iM where
 | loc (i:Nat) | ob (k:Nat) | fld (k j:Nat)
 deriving DecidableEq
structure G where
 HF:Hp
 o:Addr->Option iM
 al:List Addr
mutual
def Rep (B:KT) (al:List Addr) (H:Hp):T->V->Prop
 | .non,v=>v=.non
 | .bl b,v=>v=.bl b
 | .int i,v=>v=.int i
 | .str l,v=>v=SV l/\l.length<=1000000
 | .tup ts,v=>∃ a vs,v=.ref a/\i9 B.K H a vs/\aH B al H ts vs
 | .lst ts,v=>∃ a vs,v=.ref a/\H a=some (.lst vs)/\aH B al H ts vs
 | .scr ns,v=>∃ a,v=.ref a/\c9 B.K H a (ns.map V.int)
 | .obj c ts,v=>∃ a C dx ns vs,v=.ref a/\fL B c C ns/\H a=some (.ins C dx (ns.zip vs))/\vs.length<=ns.length/\H dx=some (.own a)/\aH B al H ts vs
 | .own k,v=>∃ a,v=.ref a/\al[k]?=some a
 | .dz ks ts,v=>∃ a vs,v=.ref a/\H a=some (.dK ((ks.map jT).zip vs))/\ks.length=vs.length/\aH B al H ts vs
def aH (B:KT) (al:List Addr) (H:Hp):List T->List V->Prop
 | [],vs=>vs=[]
 | t::ts,vs=>∃ v r,vs=v::r/\Rep B al H t v/\aH B al H ts r
end
theorem bR {K:PySem.W.Frag}{H H':Hp}(s:aZ H H') {a:Addr}{xs:List V}(q:i9 K H a xs):i9 K H' a xs:=by
 rcases q with (q | ⟨o,q⟩) | q
 ·exact .inl (.inl (s _ _ q))
 ·exact .inl (.inr ⟨o,s _ _ q⟩)
 ·exact .inr q
theorem mL {α:Type}{l m:List α}(p:l <+: m) {k:Nat}{a:α}(h:l[k]?=some a):m[k]?=some a:=by
 obtain ⟨r,rfl⟩:=p
 rw [List.getElem?_append_left (List.getElem?_eq_some_iff.mp h).1];exact h
variable {B:KT}{al Ct:List Addr}{H H' HF eG:Hp}
mutual
theorem Rep.mv (p:al <+: Ct) (s:aZ H H'):∀ {t:T}{v:V},Rep B al H t v->Rep B Ct H' t v
 | .non,_,h=>h
 | .bl _,_,h=>h
 | .int _,_,h=>h
 | .str _,_,h=>h
 | .tup ts,_,h=>by
  obtain ⟨a,vs,e,q,r⟩:=h
  exact ⟨a,vs,e,bR s q,aH.mv p s r⟩
 | .lst ts,_,h=>by
  obtain ⟨a,vs,e,q,r⟩:=h
  exact ⟨a,vs,e,s _ _ q,aH.mv p s r⟩
 | .scr ns,_,h=>by
  obtain ⟨a,e,q⟩:=h
  exact ⟨a,e,s.seq q⟩
 | .obj c ts,_,h=>by
  obtain ⟨a,C,dx,ns,vs,e,z,q,l,q2,r⟩:=h
  exact ⟨a,C,dx,ns,vs,e,z,s _ _ q,l,s _ _ q2,aH.mv p s r⟩
 | .own k,_,h=>by
  obtain ⟨a,e,q⟩:=h
  exact ⟨a,e,mL p q⟩
 | .dz ks ts,_,h=>by
  obtain ⟨a,vs,e,q,l,r⟩:=h
  exact ⟨a,vs,e,s _ _ q,l,aH.mv p s r⟩
theorem aH.mv (p:al <+: Ct) (s:aZ H H'):∀ {ts:List T}{vs:List V},aH B al H ts vs->aH B Ct H' ts vs
 | [],_,h=>h
 | t::ts,_,h=>by
  obtain ⟨v,r,e,h1,h2⟩:=h
  exact ⟨v,r,e,Rep.mv p s h1,aH.mv p s h2⟩
end
theorem Rep.same (s:aZ H H') {t:T}{v:V}(h:Rep B al H t v):Rep B al H' t v:=h.mv List.prefix_rfl s
theorem aH.same (s:aZ H H') {t:List T}{v:List V}(h:aH B al H t v):aH B al H' t v:=h.mv List.prefix_rfl s
theorem aH.len:∀ {ts:List T}{vs:List V},aH B al H ts vs->ts.length=vs.length
 | [],_,h=>by cases (show _=[] from h);rfl
 | t::ts,_,h=>by
  obtain ⟨v,r,rfl,_,h2⟩:=h
  simp [aH.len h2]
theorem aH.get:∀ {ts:List T}{vs:List V},aH B al H ts vs->∀ {i:Nat}{t:T},ts[i]?=some t->∃ v,vs[i]?=some v/\Rep B al H t v
 | [],_,_,_,_,e=>by simp at e
 | t::ts,_,h,0,_,e=>by
  obtain ⟨v,r,rfl,h1,_⟩:=h
  simp at e;subst e
  exact ⟨v,rfl,h1⟩
 | t::ts,_,h,i+1,_,e=>by
  obtain ⟨v,r,rfl,_,h2⟩:=h
  obtain ⟨v',e',h'⟩:=aH.get h2 (i:=i) (by simpa using e)
  exact ⟨v',by simpa using e',h'⟩
theorem aH.x8:∀ {ts:List T}{vs:List V},aH B al H ts vs->∀ {i:Nat}{v:V},vs[i]?=some v->∃ t,ts[i]?=some t/\Rep B al H t v
 | [],_,h,_,_,e=>by have h:_=[]:=h;subst h;simp at e
 | t::ts,_,h,0,_,e=>by
  obtain ⟨v,r,rfl,h1,_⟩:=h
  simp at e;subst e
  exact ⟨t,rfl,h1⟩
 | t::ts,_,h,i+1,_,e=>by
  obtain ⟨v,r,rfl,_,h2⟩:=h
  obtain ⟨t',e',h'⟩:=aH.x8 h2 (i:=i) (by simpa using e)
  exact ⟨t',by simpa using e',h'⟩
theorem aH.app:∀ {ts us:List T}{vs ws:List V},aH B al H ts vs->aH B al H us ws->aH B al H (ts++us) (vs++ws)
 | [],_,_,_,h,h'=>by have h:_=[]:=h;subst h;exact h'
 | t::ts,_,_,_,h,h'=>by
  obtain ⟨v,r,rfl,h1,h2⟩:=h
  exact ⟨v,_,rfl,h1,h2.app h'⟩
theorem aH.drop:∀ {ts:List T}{vs:List V}(n:Nat),aH B al H ts vs->aH B al H (ts.drop n) (vs.drop n)
 | ts,vs,0,h=>by simpa using h
 | [],_,n+1,h=>by have h:_=[]:=h;subst h;rfl
 | t::ts,_,n+1,h=>by
  obtain ⟨v,r,rfl,_,h2⟩:=h
  simpa using h2.drop n
theorem aH.take:∀ {ts:List T}{vs:List V}(n:Nat),aH B al H ts vs->aH B al H (ts.take n) (vs.take n)
 | ts,vs,0,h=>by simp [aH]
 | [],_,n+1,h=>by have h:_=[]:=h;subst h;rfl
 | t::ts,_,n+1,h=>by
  obtain ⟨v,r,rfl,h1,h2⟩:=h
  exact ⟨v,r.take n,rfl,h1,h2.take n⟩
theorem aH.flat {ts:List T}{vs:List V}(h:aH B al H ts vs):∀ n:Nat,aH B al H (List.replicate n ts).flatten (List.replicate n vs).flatten
 | 0=>rfl
 | n+1=>by
  rw [List.replicate_succ,List.replicate_succ,List.flatten_cons,List.flatten_cons]
  exact h.app (h.flat n)
theorem aH.one {t:T}{v:V}(q:Rep B al H t v):aH B al H [t] [v]:=⟨v,[],rfl,q,rfl⟩
theorem aH.ints:∀ ns:List Int,aH B al H (ns.map T.int) (ns.map V.int)
 | []=>rfl
 | n::ns=>⟨_,_,rfl,rfl,aH.ints ns⟩
theorem aH.signs:∀ l:List Nat,aH B al H (l.map fun c=>T.str [c]) (l.map fun c=>V.str ⟨#[c]⟩)
 | []=>rfl
 | c::l=>⟨_,_,rfl,⟨rfl,by simp⟩,aH.signs l⟩
mutual
theorem Rep.no:∀ {t:T}{v:V},noOwn t=true->Rep B al H t v->Rep B Ct H t v
 | .non,_,_,h=>h
 | .bl _,_,_,h=>h
 | .int _,_,_,h=>h
 | .str _,_,_,h=>h
 | .tup ts,_,n,h=>by
  obtain ⟨a,vs,e,q,r⟩:=h
  exact ⟨a,vs,e,q,aH.no n r⟩
 | .lst ts,_,n,h=>by
  obtain ⟨a,vs,e,q,r⟩:=h
  exact ⟨a,vs,e,q,aH.no n r⟩
 | .scr ns,_,_,h=>h
 | .obj c ts,_,n,h=>by
  obtain ⟨a,C,dx,ns,vs,e,z,q,l,q2,r⟩:=h
  exact ⟨a,C,dx,ns,vs,e,z,q,l,q2,aH.no n r⟩
 | .own k,_,n,h=>by cases n
 | .dz ks ts,_,n,h=>by
  obtain ⟨a,vs,e,q,l,r⟩:=h
  exact ⟨a,vs,e,q,l,aH.no n r⟩
theorem aH.no:∀ {ts:List T}{vs:List V},aO ts=true->aH B al H ts vs->aH B Ct H ts vs
 | [],_,_,h=>h
 | t::ts,_,n,h=>by
  obtain ⟨v,r,e,h1,h2⟩:=h
  have n:(noOwn t&&aO ts)=true:=n
  rw [Bool.and_eq_true] at n
  exact ⟨v,r,e,Rep.no n.1 h1,aH.no n.2 h2⟩
end
structure Gr (HF H eG H':Hp):Prop where
 fr:aZ HF eG
 sub:aZ eG H'
 rest:∀ b o,H b=some o->HF b=none->H' b=some o/\eG b=none
theorem Gr.refl {HF H:Hp}(s:aZ HF H):Gr HF H HF H:=⟨aZ.refl _,s,fun _ _ h n=>⟨h,n⟩⟩
theorem Gr.trans {HF H HF1 H1 HF2 H2:Hp}(a:Gr HF H HF1 H1) (b:Gr HF1 H1 HF2 H2):Gr HF H HF2 H2:=
 ⟨a.fr.trans b.fr,b.sub,fun c o h n=>let ⟨h1,n1⟩:=a.rest c o h n;b.rest c o h1 n1⟩
theorem Gr.same {HF H eG H':Hp}(s:aZ HF H) (a:Gr HF H eG H'):aZ H H':=fun b o h=>by
 cases e:HF b with
 | none=>exact (a.rest b o h e).1
 | some u=>
  have:=s b u e
  rw [h] at this;cases this
  exact a.sub _ _ (a.fr _ _ e)
theorem bw {H:Hp}{p:Addr}{o:HO}(h:H p=none):aZ H (upd H p o):=fun b u e=>by rw [ay (aT e h)];exact e
theorem Gr.new {HF H:Hp}(s:aZ HF H) {p:Addr}{o:HO}(h:H p=none):Gr HF H (upd HF p o) (upd H p o):=by
 have hf:HF p=none:=s.free h
 refine ⟨bw hf,fun b u e=>?_,fun b u e n=>?_⟩
 ·by_cases hb:b=p
  ·subst hb;rw [aw] at e ⊢;exact e
  ·rw [ay hb] at e ⊢;exact s _ _ e
 ·have hb:b≠p:=aT e h
  rw [ay hb,ay hb];exact ⟨e,n⟩
theorem Gr.Ab {HF H:Hp}(s:aZ HF H) {p:Addr}{o:HO}(h:H p=none):Gr HF H HF (upd H p o):=
 ⟨aZ.refl _,s.trans (bw h),fun b u e n=>⟨bw h _ _ e,n⟩⟩
def bO (B:KT) (g:G) (H:Hp) (p:iM):C->V->Prop
 | .val t,v=>Rep B g.al g.HF t v
 | .ol ts,v=>∃ l vs,v=.ref l/\g.o l=some p/\H l=some (.lst vs)/\aH B g.al g.HF ts vs
 | .od ks ts,v=>∃ l vs,v=.ref l/\g.o l=some p/\H l=some (.dK ((ks.map jT).zip vs))/\ks.length=vs.length/\aH B g.al g.HF ts vs
structure Fg (B:KT) (g:G) (H:Hp) (k:Nat) (ob:Ob) (a C dx:Addr) (ns:List Str) (vs:List V):Prop where
 al:g.al[k]?=some a
 o:g.o a=some (.ob k)
 cl:fL B ob.c C ns
 h:H a=some (.ins C dx (ns.zip vs))
 le:vs.length<=ns.length
 ln:vs.length=ob.fs.length
 f:∀ j c,ob.fs[j]?=some c->∃ v,vs[j]?=some v/\bO B g H (.fld k j) c v
structure eT (B:KT) (g:G) (H:Hp) (m:List Ob):Prop where
 sub:aZ g.HF H
 live:∀ b p,g.o b=some p->g.HF b=none/\∃ u,H b=some u
 len:m.length=g.al.length
 at_:∀ k ob,m[k]?=some ob->∃ a C dx ns vs,Fg B g H k ob a C dx ns vs
structure jU (B:KT) (g:G) (H:Hp) (σ:St) (r:List (Option C)):Prop where
 len:r.length=σ.length
 at_:∀ i c,r[i]?=some (some c)->∃ v,σ[i]?=some (some v)/\bO B g H (.loc i) c v
structure SR (B:KT) (g:G) (H:Hp) (σ:St) (s:S):Prop where
 st:eT B g H s.m
 lc:jU B g H σ s.r
structure dW (g:G) (H:Hp) (g':G) (H':Hp):Prop where
 fr:aZ g.HF g'.HF
 pre:g.al <+: g'.al
 rest:∀ b u,H b=some u->g.HF b=none->g.o b=none->H' b=some u/\g'.HF b=none/\g'.o b=none
 there:∀ b,H' b=none->H b=none
variable {g g1 g2 g':G}{σ:St}{s s':S}{H1 H2:Hp}
theorem dW.refl:dW g H g H:=⟨aZ.refl _,List.prefix_rfl,fun _ _ h n o=>⟨h,n,o⟩,fun _ h=>h⟩
theorem dW.trans (a:dW g H g1 H1) (b:dW g1 H1 g2 H2):dW g H g2 H2:=
 ⟨a.fr.trans b.fr,a.pre.trans b.pre,fun c u h n o=>let ⟨h1,n1,o1⟩:=a.rest c u h n o;b.rest c u h1 n1 o1,fun c h=>a.there c (b.there c h)⟩
abbrev G.grow (g:G) (eG:Hp):G:={ g with HF:=eG }
theorem bO.grow (gr:Gr g.HF H eG H') (lv:∀ b p,g.o b=some p->g.HF b=none/\∃ u,H b=some u) {p:iM}:∀ {c:C}{v:V},bO B g H p c v->bO B (g.grow eG) H' p c v
 | .val t,v,h=>h.same gr.fr
 | .ol ts,v,h=>by
  obtain ⟨l,vs,e,o,q,r⟩:=h
  exact ⟨l,vs,e,o,(gr.rest l _ q (lv l p o).1).1,r.same gr.fr⟩
 | .od ks ts,v,h=>by
  obtain ⟨l,vs,e,o,q,n,r⟩:=h
  exact ⟨l,vs,e,o,(gr.rest l _ q (lv l p o).1).1,n,r.same gr.fr⟩
theorem Fg.grow {k:Nat}{ob:Ob}{a C dx:Addr}{ns:List Str}{vs:List V}(x:Fg B g H k ob a C dx ns vs) (gr:Gr g.HF H eG H') (lv:∀ b p,g.o b=some p->g.HF b=none/\∃ u,H b=some u):Fg B (g.grow eG) H' k ob a C dx ns vs:=
 ⟨x.al,x.o,x.cl,(gr.rest _ _ x.h (lv _ _ x.o).1).1,x.le,x.ln,fun j c e=>let ⟨v,h1,h2⟩:=x.f j c e;⟨v,h1,h2.grow gr lv⟩⟩
theorem eT.grow {m:List Ob}(x:eT B g H m) (gr:Gr g.HF H eG H'):eT B (g.grow eG) H' m:=
 ⟨gr.sub,fun b p e=>by
  obtain ⟨h1,u,h2⟩:=x.live b p e
  obtain ⟨h3,h4⟩:=gr.rest b u h2 h1
  exact ⟨h4,u,h3⟩,x.len,fun k ob e=>let ⟨a,C,dx,ns,vs,y⟩:=x.at_ k ob e;⟨a,C,dx,ns,vs,y.grow gr x.live⟩⟩
theorem SR.grow (x:SR B g H σ s) (gr:Gr g.HF H eG H'):SR B (g.grow eG) H' σ s:=
 ⟨x.st.grow gr,x.lc.len,fun i c e=>let ⟨v,h1,h2⟩:=x.lc.at_ i c e;⟨v,h1,h2.grow gr x.st.live⟩⟩
theorem SR.sub (x:SR B g H σ s):aZ g.HF H:=x.st.sub
theorem Gr.free (gr:Gr HF H eG H') (sm:aZ HF H) {b:Addr}(h:H' b=none):H b=none:=(gr.same sm).free h
theorem SR.eL (x:SR B g H σ s) (gr:Gr g.HF H eG H'):dW g H (g.grow eG) H':=
 ⟨gr.fr,List.prefix_rfl,fun b u h n o=>let ⟨h1,h2⟩:=gr.rest b u h n;⟨h1,h2,o⟩,fun b h=>gr.free x.sub h⟩
variable {B:KT}{al Ct:List Addr}{H H' HF eG:Hp}{g g1 g2 g':G}{σ:St}{s s':S}{H1 H2:Hp}{m:List Ob}
theorem bO.mv {p:iM}(fr:aZ g.HF g'.HF) (pre:g.al <+: g'.al) (k:∀ l,g.o l=some p->g'.o l=some p/\H' l=H l):∀ {c:C}{v:V},bO B g H p c v->bO B g' H' p c v
 | .val t,v,h=>Rep.mv pre fr h
 | .ol ts,v,h=>by
  obtain ⟨l,vs,e,o,q,r⟩:=h
  obtain ⟨o',h'⟩:=k l o
  exact ⟨l,vs,e,o',h'.trans q,r.mv pre fr⟩
 | .od ks ts,v,h=>by
  obtain ⟨l,vs,e,o,q,n,r⟩:=h
  obtain ⟨o',h'⟩:=k l o
  exact ⟨l,vs,e,o',h'.trans q,n,r.mv pre fr⟩
theorem Fg.mv {k:Nat}{ob:Ob}{a C dx:Addr}{ns:List Str}{vs:List V}(x:Fg B g H k ob a C dx ns vs) (fr:aZ g.HF g'.HF) (pre:g.al <+: g'.al) (kk:∀ l p,g.o l=some p->(p=.ob k\/∃ j,p=.fld k j)->g'.o l=some p/\H' l=H l):Fg B g' H' k ob a C dx ns vs:=by
 obtain ⟨o',h'⟩:=kk a _ x.o (.inl rfl)
 exact ⟨mL pre x.al,o',x.cl,h'.trans x.h,x.le,x.ln,fun j c e=>let ⟨v,h1,h2⟩:=x.f j c e;⟨v,h1,h2.mv fr pre fun l z=>kk l _ z (.inr ⟨j,rfl⟩)⟩⟩
theorem eT.mv (x:eT B g H m) (sub:aZ g'.HF H') (live:∀ b p,g'.o b=some p->g'.HF b=none/\∃ u,H' b=some u) (fr:aZ g.HF g'.HF) (eal:g'.al=g.al) (kk:∀ l p,g.o l=some p->(∀ i,p≠.loc i)->g'.o l=some p/\H' l=H l):eT B g' H' m:=
 ⟨sub,live,by rw [eal];exact x.len,fun k ob e=>let ⟨a,C,dx,ns,vs,y⟩:=x.at_ k ob e;⟨a,C,dx,ns,vs,y.mv fr (by rw [eal];exact List.prefix_rfl) fun l p h q=>kk l p h (by
  rcases q with q | ⟨j,q⟩
  ·subst q;exact fun i z=>by cases z
  ·subst q;exact fun i z=>by cases z)⟩⟩
theorem jU.set {r:List (Option C)}{i:Nat}{v:V}{c:C}(x:jU B g H σ r) (q:bO B g' H' (.loc i) c v) (kk:∀ j c v,j≠i->bO B g H (.loc j) c v->bO B g' H' (.loc j) c v):jU B g' H' (σ.set i (some v)) (r.set i (some c)):=by
 refine ⟨by rw [List.length_set,List.length_set];exact x.len,fun j d h=>?_⟩
 by_cases hj:i=j
 ·subst hj
  have dI:i<r.length:=by have:=(List.getElem?_eq_some_iff.mp h).1;rw [List.length_set] at this;exact this
  rw [List.getElem?_set_self dI] at h
  cases h
  exact ⟨v,List.getElem?_set_self (by rw [<- x.len];exact dI),q⟩
 ·rw [List.getElem?_set_ne hj] at h
  obtain ⟨w,h1,h2⟩:=x.at_ j d h
  exact ⟨w,by rw [List.getElem?_set_ne hj];exact h1,kk j d w (Ne.symm hj) h2⟩
theorem SR.set (x:SR B g H σ s) {i:Nat}{t:T}{v:V}(r:Rep B g.al g.HF t v):SR B g H (σ.set i (some v)) (ju s i (.val t)):=
 ⟨x.st,x.lc.set r fun _ _ _ _ h=>h⟩
def G.iE (g:G) (l:Addr) (o:HO):G:={ g with HF:=upd g.HF l o,o:=fun b=>if b=l then none else g.o b }
theorem pJ {p q:iM}{l:Addr}{o:HO}(hl:g.o l=some p) (hf:g.HF l=none) (hq:q≠p) {c:C}{v:V}(h:bO B g H q c v):bO B (g.iE l o) H q c v:=
 bO.mv (g':=g.iE l o) (bw hf) List.prefix_rfl (fun b hb=>by
  have:b≠l:=fun e=>hq (by rw [e,hl] at hb;cases hb;rfl)
  exact ⟨by show (if b=l then none else g.o b)=_;rw [if_neg this];exact hb,rfl⟩) h
theorem uM {p:iM}{l:Addr}{o:HO}(hl:g.o l=some p) (hf:g.HF l=none):dW g H (g.iE l o) H:=
 ⟨bw hf,List.prefix_rfl,fun b u h n z=>by
  have:b≠l:=fun e=>by rw [e,hl] at z;cases z
  exact ⟨h,by show upd g.HF l o b=none;rw [ay this];exact n,by show (if b=l then none else g.o b)=none;rw [if_neg this];exact z⟩,fun _ h=>h⟩
theorem uN {i:Nat}{l:Addr}{o:HO}(x:eT B g H m) (hl:g.o l=some (.loc i)) (hh:H l=some o):eT B (g.iE l o) H m:=by
 have hf:=(x.live l _ hl).1
 refine x.mv (fun b u e=>?_) (fun b p e=>?_) (bw hf) rfl fun b p hb hp=>?_
 ·have e:upd g.HF l o b=some u:=e
  by_cases hb:b=l
  ·subst hb;rw [aw] at e;cases e;exact hh
  ·rw [ay hb] at e;exact x.sub _ _ e
 ·have e:(if b=l then none else g.o b)=some p:=e
  by_cases hb:b=l
  ·rw [if_pos hb] at e;cases e
  ·rw [if_neg hb] at e
   obtain ⟨h1,h2⟩:=x.live b p e
   exact ⟨by show upd g.HF l o b=none;rw [ay hb];exact h1,h2⟩
 ·have:b≠l:=fun e=>hp i (by rw [e,hl] at hb;cases hb;rfl)
  exact ⟨by show (if b=l then none else g.o b)=_;rw [if_neg this];exact hb,rfl⟩
theorem SR.iE (x:SR B g H σ s) {i:Nat}{ts:List T}(h:s.r[i]?=some (some (.ol ts))):∃ g' v,dW g H g' H/\SR B g' H σ (ju s i (.val (.lst ts)))/\σ[i]?=some (some v)/\Rep B g'.al g'.HF (.lst ts) v:=by
 obtain ⟨v,h1,l,vs,rfl,ho,hh,r⟩:=x.lc.at_ i _ h
 have hf:=(x.st.live l _ ho).1
 have rp:Rep B (g.iE l (.lst vs)).al (g.iE l (.lst vs)).HF (.lst ts) (.ref l):=⟨l,vs,rfl,aw,r.mv List.prefix_rfl (bw hf)⟩
 refine ⟨g.iE l (.lst vs),.ref l,uM ho hf,⟨uN x.st ho hh,?_⟩,h1,rp⟩
 have:=x.lc.set (i:=i) (v:=.ref l) (c:=.val (.lst ts)) rp fun j c v hj q=>pJ (q:=.loc j) ho hf (fun z=>hj (by cases z;rfl)) q
 have es:σ.set i (some (.ref l))=σ:=by
  apply List.ext_getElem?
  intro j
  by_cases hj:i=j
  ·subst hj
   rw [List.getElem?_set_self (List.getElem?_eq_some_iff.mp h1).1,h1]
  ·rw [List.getElem?_set_ne hj]
 rw [es] at this
 exact this
theorem SR.Y0 (x:SR B g H σ s) {i:Nat}{ks:List Ky}{ts:List T}(h:s.r[i]?=some (some (.od ks ts))):∃ g' v,dW g H g' H/\SR B g' H σ (ju s i (.val (.dz ks ts)))/\σ[i]?=some (some v)/\Rep B g'.al g'.HF (.dz ks ts) v:=by
 obtain ⟨v,h1,l,vs,rfl,ho,hh,hl,r⟩:=x.lc.at_ i _ h
 have hf:=(x.st.live l _ ho).1
 have rp:Rep B (g.iE l (.dK ((ks.map jT).zip vs))).al (g.iE l (.dK ((ks.map jT).zip vs))).HF (.dz ks ts) (.ref l):=⟨l,vs,rfl,aw,hl,r.mv List.prefix_rfl (bw hf)⟩
 refine ⟨g.iE l (.dK ((ks.map jT).zip vs)),.ref l,uM ho hf,⟨uN x.st ho hh,?_⟩,h1,rp⟩
 have:=x.lc.set (i:=i) (v:=.ref l) (c:=.val (.dz ks ts)) rp fun j c v hj q=>pJ (q:=.loc j) ho hf (fun z=>hj (by cases z;rfl)) q
 have es:σ.set i (some (.ref l))=σ:=by
  apply List.ext_getElem?
  intro j
  by_cases hj:i=j
  ·subst hj
   rw [List.getElem?_set_self (List.getElem?_eq_some_iff.mp h1).1,h1]
  ·rw [List.getElem?_set_ne hj]
 rw [es] at this
 exact this
def G.own (g:G) (l:Addr) (p:iM):G:={ g with o:=fun b=>if b=l then some p else g.o b }
theorem pK {p q:iM}{l:Addr}(hn:g.o l=none) {c:C}{v:V}(h:bO B g H q c v):bO B (g.own l p) H q c v:=
 bO.mv (g:=g) (g':=g.own l p) (aZ.refl g.HF) List.prefix_rfl (fun b hb=>by
  have:b≠l:=fun e=>by rw [e,hn] at hb;cases hb
  exact ⟨by show (if b=l then some p else g.o b)=_;rw [if_neg this];exact hb,rfl⟩) h
theorem uO {p:iM}{l:Addr}{u:HO}(x:eT B g H m) (hn:g.o l=none) (hf:g.HF l=none) (hh:H l=some u):eT B (g.own l p) H m:=by
 refine x.mv x.sub (fun b q e=>?_) (aZ.refl _) rfl fun b q hb hp=>?_
 ·have e:(if b=l then some p else g.o b)=some q:=e
  by_cases hb:b=l
  ·subst hb;exact ⟨hf,u,hh⟩
  ·rw [if_neg hb] at e;exact x.live b q e
 ·have:b≠l:=fun e=>by rw [e,hn] at hb;cases hb
  exact ⟨by show (if b=l then some p else g.o b)=_;rw [if_neg this];exact hb,rfl⟩
theorem SR.own (x:SR B g H σ s) {i:Nat}{l:Addr}{ts:List T}{vs:List V}(hn:g.o l=none) (hf:g.HF l=none) (hh:H l=some (.lst vs)) (r:aH B g.al g.HF ts vs):SR B (g.own l (.loc i)) H (σ.set i (some (.ref l))) (ju s i (.ol ts)):=
 ⟨uO x.st hn hf hh,x.lc.set (c:=.ol ts) ⟨l,vs,rfl,by show (if l=l then some (iM.loc i) else g.o l)=_;rw [if_pos rfl],hh,r⟩ fun j c v hj q=>pK hn q⟩
theorem SR.Y3 (x:SR B g H σ s) {i:Nat}{l:Addr}{ks:List Ky}{ts:List T}{vs:List V}(hn:g.o l=none) (hf:g.HF l=none) (hh:H l=some (.dK ((ks.map jT).zip vs))) (hk:ks.length=vs.length) (r:aH B g.al g.HF ts vs):SR B (g.own l (.loc i)) H (σ.set i (some (.ref l))) (ju s i (.od ks ts)):=
 ⟨uO x.st hn hf hh,x.lc.set (c:=.od ks ts) ⟨l,vs,rfl,by show (if l=l then some (iM.loc i) else g.o l)=_;rw [if_pos rfl],hh,hk,r⟩ fun j c v hj q=>pK hn q⟩
theorem uP {l:Addr}{i:Nat}{u:HO}(x:eT B g H m) (ho:g.o l=some (.loc i)):eT B g (upd H l u) m:=by
 have hf:=(x.live l _ ho).1
 refine x.mv (fun b w e=>?_) (fun b q e=>?_) (aZ.refl _) rfl fun b q hb hp=>?_
 ·have:b≠l:=fun z=>by rw [z,hf] at e;cases e
  rw [ay this];exact x.sub _ _ e
 ·obtain ⟨h1,w,h2⟩:=x.live b q e
  by_cases hb:b=l
  ·exact ⟨h1,u,by rw [hb,aw]⟩
  ·exact ⟨h1,w,by rw [ay hb];exact h2⟩
 ·have:b≠l:=fun e=>hp i (by rw [e,ho] at hb;cases hb;rfl)
  exact ⟨hb,by rw [ay this]⟩
theorem mO {l:Addr}{p:iM}{u:HO}(ho:g.o l=some p):dW g H g (upd H l u):=
 ⟨aZ.refl _,List.prefix_rfl,fun b w h n z=>by
  have:b≠l:=fun e=>by rw [e,ho] at z;cases z
  exact ⟨by rw [ay this];exact h,n,z⟩,fun b h=>by
  by_cases hb:b=l
  ·subst hb;rw [aw] at h;cases h
  ·rw [ay hb] at h;exact h⟩
theorem SR.chg (x:SR B g H σ s) {i:Nat}{ts HV:List T}{l:Addr}{fh:List V}(h:s.r[i]?=some (some (.ol ts))) (hσ:σ[i]?=some (some (.ref l))) (r:aH B g.al g.HF HV fh):SR B g (upd H l (.lst fh)) σ (ju s i (.ol HV))/\dW g H g (upd H l (.lst fh)):=by
 obtain ⟨v,h1,l',vs,rfl,ho,hh,r0⟩:=x.lc.at_ i _ h
 rw [hσ] at h1;cases h1
 refine ⟨⟨uP x.st ho,?_⟩,mO ho⟩
 have:=x.lc.set (g':=g) (H':=upd H l (.lst fh)) (i:=i) (v:=.ref l) (c:=.ol HV) ⟨l,fh,rfl,ho,aw,r⟩ fun j c v hj q=>q.mv (aZ.refl _) List.prefix_rfl fun b hb=>by
  have:b≠l:=fun e=>hj (by rw [e,ho] at hb;cases hb;rfl)
  exact ⟨hb,ay this⟩
 have es:σ.set i (some (.ref l))=σ:=by
  apply List.ext_getElem?
  intro j
  by_cases hj:i=j
  ·subst hj
   rw [List.getElem?_set_self (List.getElem?_eq_some_iff.mp hσ).1,hσ]
  ·rw [List.getElem?_set_ne hj]
 rw [es] at this
 exact this
theorem SR.Y4 (x:SR B g H σ s) {i:Nat}{ks Oj:List Ky}{ts HV:List T}{l:Addr}{fh:List V}(h:s.r[i]?=some (some (.od ks ts))) (hσ:σ[i]?=some (some (.ref l))) (hk:Oj.length=fh.length) (r:aH B g.al g.HF HV fh):SR B g (upd H l (.dK ((Oj.map jT).zip fh))) σ (ju s i (.od Oj HV))/\dW g H g (upd H l (.dK ((Oj.map jT).zip fh))):=by
 obtain ⟨v,h1,l',vs,rfl,ho,hh,HW,r0⟩:=x.lc.at_ i _ h
 rw [hσ] at h1;cases h1
 refine ⟨⟨uP x.st ho,?_⟩,mO ho⟩
 have:=x.lc.set (g':=g) (H':=upd H l (.dK ((Oj.map jT).zip fh))) (i:=i) (v:=.ref l) (c:=.od Oj HV) ⟨l,fh,rfl,ho,aw,hk,r⟩ fun j c v hj q=>q.mv (aZ.refl _) List.prefix_rfl fun b hb=>by
  have:b≠l:=fun e=>hj (by rw [e,ho] at hb;cases hb;rfl)
  exact ⟨hb,ay this⟩
 have es:σ.set i (some (.ref l))=σ:=by
  apply List.ext_getElem?
  intro j
  by_cases hj:i=j
  ·subst hj
   rw [List.getElem?_set_self (List.getElem?_eq_some_iff.mp hσ).1,hσ]
  ·rw [List.getElem?_set_ne hj]
 rw [es] at this
 exact this
def Ut:Option iM->Option iM
 | some (.loc _)=>none
 | x=>x
def G.ao (g:G):G:={ g with o:=fun b=>Ut (g.o b) }
theorem x9 {q:Option iM}{p:iM}:Ut q=some p ↔ q=some p/\∀ i,p≠.loc i:=by
 cases q with
 | none=>exact ⟨fun h=>(by cases h),fun h=>(by cases h.1)⟩
 | some q=>
  cases q with
  | loc i=>exact ⟨fun h=>(by cases h),fun h=>(by obtain ⟨h,n⟩:=h;cases h;exact absurd rfl (n i))⟩
  | ob k=>exact ⟨fun h=>(by cases h;exact ⟨rfl,fun i z=>(by cases z)⟩),fun h=>h.1⟩
  | fld k j=>exact ⟨fun h=>(by cases h;exact ⟨rfl,fun i z=>(by cases z)⟩),fun h=>h.1⟩
theorem g_ {b:Addr}{p:iM}:g.ao.o b=some p ↔ g.o b=some p/\∀ i,p≠.loc i:=x9
theorem eT.ao (x:eT B g H m):eT B g.ao H m:=
 x.mv x.sub (fun b p e=>x.live b p (g_.mp e).1) (aZ.refl _) rfl fun l p h n=>⟨g_.mpr ⟨h,n⟩,rfl⟩
def Y5:Option iM->Option iM->Option iM
 | some (.loc i),_=>some (.loc i)
 | _,y=>y
def G.back (g g':G):G:={ g' with o:=fun b=>Y5 (g.o b) (g'.o b) }
theorem Ac {b:Addr}{i:Nat}(h:g.o b=some (.loc i)):(G.back g g').o b=some (.loc i):=by
 show Y5 (g.o b) (g'.o b)=_
 rw [h];rfl
theorem jV {b:Addr}(h:∀ i,g.o b≠some (.loc i)):(G.back g g').o b=g'.o b:=by
 show Y5 (g.o b) (g'.o b)=_
 cases q:g.o b with
 | none=>rfl
 | some p=>cases p with
  | loc i=>exact absurd q (h i)
  | ob k=>rfl
  | fld k j=>rfl
theorem SR.back (x:SR B g H σ s) {m':List Ob}(p:dW g.ao H g' H') (y:eT B g' H' m'):dW g H (G.back g g') H'/\SR B (G.back g g') H' σ { s with m:=m' }:=by
 have keep:∀ l i,g.o l=some (.loc i)->H' l=H l/\g'.HF l=none/\g'.o l=none:=fun l i e=>by
  obtain ⟨h1,u,h2⟩:=x.st.live l _ e
  have h3:g.ao.o l=none:=by
   cases q:g.ao.o l with
   | none=>rfl
   | some p=>obtain ⟨a,b⟩:=g_.mp q;rw [e] at a;cases a;exact absurd rfl (b i)
  obtain ⟨h4,h5,h6⟩:=p.rest l u h2 h1 h3
  exact ⟨h4.trans h2.symm,h5,h6⟩
 have Y6:∀ l q,g'.o l=some q->∀ i,g.o l≠some (.loc i):=fun l q e i z=>by rw [(keep l i z).2.2] at e;cases e
 refine ⟨⟨p.fr,p.pre,fun b u h n z=>?_,p.there⟩,⟨⟨y.sub,fun b q e=>?_,y.len,fun k ob e=>?_⟩,x.lc.len,fun i c e=>?_⟩⟩
 ·have h3:g.ao.o b=none:=by
   cases q:g.ao.o b with
   | none=>rfl
   | some p=>rw [(g_.mp q).1] at z;cases z
  obtain ⟨h4,h5,h6⟩:=p.rest b u h n h3
  exact ⟨h4,h5,(jV fun i w=>by rw [z] at w;cases w).trans h6⟩
 ·by_cases hl:∃ i,g.o b=some (.loc i)
  ·obtain ⟨i,hl⟩:=hl
   obtain ⟨h1,u,h2⟩:=x.st.live b _ hl
   obtain ⟨h4,h5,_⟩:=keep b i hl
   exact ⟨h5,u,h4.trans h2⟩
  ·rw [jV fun i w=>hl ⟨i,w⟩] at e
   exact y.live b q e
 ·obtain ⟨a,C,dx,ns,vs,z⟩:=y.at_ k ob e
  exact ⟨a,C,dx,ns,vs,z.mv (aZ.refl _) List.prefix_rfl fun l q h _=>⟨(jV (Y6 l q h)).trans h,rfl⟩⟩
 ·obtain ⟨v,h1,h2⟩:=x.lc.at_ i c e
  exact ⟨v,h1,bO.mv (g:=g) (g':=G.back g g') p.fr p.pre (fun l o=>⟨Ac o,(keep l i o).1⟩) h2⟩
variable {B:KT}{X:Cx}{e a b c:Expr}{es:List Expr}{pos p:Pos}{fa fb fc:FE}{fl:FL}{ft fu:FT}{σ:St}{H H':Hp}{g g':G}{s s':S}
abbrev KTb:=List Str × List (List Str)
def _root_.L2.Cx.kt (X:Cx) (t:KTb):KT:=⟨X.K,X.prog,X.w,t.1,t.2⟩
def tE (B:KT) (f:FE):TE:=fun σ H Q=>∃ g s t s',SR B g H σ s/\f s=.ok (t,s')/\∀ v g' H',dW g H g' H'->SR B g' H' σ s'->Rep B g'.al g'.HF t v->Q v H'
def tA (B:KT) (f:FL):TA:=fun σ H Q=>∃ g s ts s',SR B g H σ s/\f s=.ok (ts,s')/\∀ vs g' H',dW g H g' H'->SR B g' H' σ s'->aH B g'.al g'.HF ts vs->Q vs H'
def tT (B:KT) (f:FT):TT:=fun σ H Q=>∃ g s k s',SR B g H σ s/\f s=.ok (k,s')/\∀ g' H',dW g H g' H'->SR B g' H' σ s'->Q k H'
def tP (B:KT) (f:FO):TO:=fun σ H Q=>∃ g s k s',SR B g H σ s/\f s=.ok (k,s')/\∀ g' H',dW g H g' H'->SR B g' H' σ s'->Q k H'
def tO (B:KT) (f:FL):TE:=fun σ H Q=>∃ g s ts s',SR B g H σ s/\f s=.ok (ts,s')/\∀ l vs g' H',dW g H g' H'->SR B g' H' σ s'->H l=none->g'.HF l=none->g'.o l=none->H' l=some (.lst vs)->aH B g'.al g'.HF ts vs->Q (.ref l) H'
theorem bj {t t':TE}(h:PE X e t) (i:∀ σ H Q,t' σ H Q->t σ H Q):PE X e t':=fun pins s σ H Q I q=>h pins s σ H Q I (i σ H Q q)
theorem Ad {t t':TT}(h:PT X e t) (i:∀ σ H Q,t' σ H Q->t σ H Q):PT X e t':=fun pins s σ H Q I q=>h pins s σ H Q I (i σ H Q q)
theorem HX {t t':TT}(h:PW X e t) (i:∀ σ H Q,t' σ H Q->t σ H Q):PW X e t':=fun wh pins s σ H Q I q=>h wh pins s σ H Q I (i σ H Q q)
theorem HY {es:List Expr}{t t':TA}(h:PA X es t) (i:∀ σ H Q,t' σ H Q->t σ H Q):PA X es t':=fun po pins s σ H Q I q=>h po pins s σ H Q I (i σ H Q q)
theorem df {st:Stmt}{t t':TS}(h:PS X st t) (i:∀ D σ H,t' D σ H->t D σ H):PS X st t':=fun pins s σ H D I q=>h pins s σ H D I (i D σ H q)
theorem Ae {st:List Stmt}{t t':TS}(h:gP X st t) (i:∀ D σ H,t' D σ H->t D σ H):gP X st t':=fun pins s σ H D I q=>h pins s σ H D I (i D σ H q)
theorem HZ {e:Option Expr}{t t':TO}(h:PO X e t) (i:∀ σ H Q,t' σ H Q->t σ H Q):PO X e t':=fun pins s σ H Q I q=>h pins s σ H Q I (i σ H Q q)
theorem lG {tg:Expr}{t t':TI}(h:PI X tg e t) (i:∀ σ H Rh,t' σ H Rh->t σ H Rh):PI X tg e t':=fun pins s σ H Rh I q=>h pins s σ H Rh I (i σ H Rh q)
theorem bG:PE X e (tE B cP):=fun _ _ _ _ _ _ ⟨_,_,_,_,_,h,_⟩=>by cases h
theorem mQ:PT X e (tT B mF):=fun _ _ _ _ _ _ ⟨_,_,_,_,_,h,_⟩=>by cases h
theorem iN:PE X e (tO B g8):=fun _ _ _ _ _ _ ⟨_,_,_,_,_,h,_⟩=>by cases h
theorem hU {t:T}{v:V}(h:PE X e (tC v)) (r:∀ al H,Rep B al H t v):PE X e (tE B (cF t)):=bj h fun σ H Q ⟨g,s,t',s',x,h,k⟩=>by
 cases h
 exact k v g H .refl x (r _ _)
theorem Af {i:Nat}{x:Str}(hN:X.N[i]?=some x) (hv:qR X.env.scope x) (hd:(x == ("__debug__" : Str))=false) (jj:(x == ("__classdict__" : Str))=false):PE X (.Name x pos) (tE B (vF i)):=by
 refine bj (dP hN hv hd jj) fun σ H Q ⟨g,s,t,s',x,h,k⟩=>?_
 unfold vF at h
 split at h
 ·rename_i t' hr
  cases h
  obtain ⟨v,h1,h2⟩:=x.lc.at_ i _ hr
  exact ⟨v,h1,k v g H .refl x h2⟩
 ·rename_i ts hr
  cases h
  obtain ⟨g',v,p,y,h1,r⟩:=x.iE hr
  exact ⟨v,h1,k v g' H p y r⟩
 ·rename_i ks ts hr
  cases h
  obtain ⟨g',v,p,y,h1,r⟩:=x.Y0 hr
  exact ⟨v,h1,k v g' H p y r⟩
 ·cases h
def L1 (X:Cx) (f:T->Option T) (r:V->Hp->VK->Prop):Prop:=∀ (B:KT) (_:B.K=X.K) (al:List Addr) (HF H:Hp) (x:V) (t tx:T) (Q:VK),aZ HF H->Rep B al HF tx x->f tx=some t->(∀ v eG H',Gr HF H eG H'->Rep B al eG t v->Q v H')->r x H Q
def kY (X:Cx) (f:T->T->Option T) (r:R2):Prop:=∀ (B:KT) (_:B.K=X.K) (al:List Addr) (HF H:Hp) (x y:V) (t tx ty:T) (Q:VK),aZ HF H->Rep B al HF tx x->Rep B al HF ty y->f tx ty=some t->(∀ v eG H',Gr HF H eG H'->Rep B al eG t v->Q v H')->r x y H Q
def LN (X:Cx) (f:List T->Option T) (r:List V->Hp->VK->Prop):Prop:=∀ (B:KT) (_:B.K=X.K) (al:List Addr) (HF H:Hp) (xs:List V) (t:T) (ts:List T) (Q:VK),aZ HF H->aH B al HF ts xs->f ts=some t->(∀ v eG H',Gr HF H eG H'->Rep B al eG t v->Q v H')->r xs H Q
theorem Ag {f:T->Option T}{r:V->Hp->VK->Prop}(hB:B.K=X.K) (hr:L1 X f r):∀ σ H Q,tE B (bD f fa) σ H Q->Z_ r (tE B fa) σ H Q:=by
 rintro σ H Q ⟨g,s,t,s',x,h,k⟩
 obtain ⟨⟨tx,s1⟩,h1,h⟩:=af h
 obtain ⟨t',h2,h⟩:=af h
 cases h
 exact ⟨g,s,tx,s1,x,h1,fun v g1 H1 p1 x1 r1=>hr B hB g1.al g1.HF H1 v _ tx Q x1.sub r1 (aF h2) fun u eG H' gr r2=>k u (g1.grow eG) H' (p1.trans (x1.eL gr)) (x1.grow gr) r2⟩
theorem f6 {f:T->T->Option T}{r:R2}(hB:B.K=X.K) (hr:kY X f r):∀ σ H Q,tE B (bB f fa fb) σ H Q->G1 r (tE B fa) (tE B fb) σ H Q:=by
 rintro σ H Q ⟨g,s,t,s',x,h,k⟩
 obtain ⟨⟨tx,s1⟩,h1,h⟩:=af h
 obtain ⟨⟨ty,s2⟩,h2,h⟩:=af h
 obtain ⟨t',h3,h⟩:=af h
 cases h
 exact ⟨g,s,tx,s1,x,h1,fun v g1 H1 p1 x1 r1=>⟨g1,s1,ty,s2,x1,h2,fun w g2 H2 p2 x2 r2=>
  hr B hB g2.al g2.HF H2 v w _ tx ty Q x2.sub (r1.mv p2.pre p2.fr) r2 (aF h3) fun u eG H' gr r3=>k u (g2.grow eG) H' ((p1.trans p2).trans (x2.eL gr)) (x2.grow gr) r3⟩⟩
theorem H0 {f:List T->Option T}{r:List V->Hp->VK->Prop}(hB:B.K=X.K) (hr:LN X f r):∀ σ H Q,tE B (aM f fl) σ H Q->Xg r (tA B fl) σ H Q:=by
 rintro σ H Q ⟨g,s,t,s',x,h,k⟩
 obtain ⟨⟨ts,s1⟩,h1,h⟩:=af h
 obtain ⟨t',h2,h⟩:=af h
 cases h
 exact ⟨g,s,ts,s1,x,h1,fun vs g1 H1 p1 x1 r1=>hr B hB g1.al g1.HF H1 vs _ ts Q x1.sub r1 (aF h2) fun u eG H' gr r2=>k u (g1.grow eG) H' (p1.trans (x1.eL gr)) (x1.grow gr) r2⟩
theorem sV:PA X [] (tA B c_):=HY dD fun σ H Q ⟨g,s,t,s',x,h,k⟩=>by
 cases h
 exact k [] g H .refl x rfl
theorem mR (ha:PE X e (tE B fa)) (hr:PA X es (tA B fl)) (hs:starEach (e::es) X.env=(false,eval e X.env)::starEach es X.env):PA X (e::es) (tA B (cM fa fl)):=HY (bQ ha hr hs) fun σ H Q ⟨g,s,t,s',x,h,k⟩=>by
 obtain ⟨⟨tx,s1⟩,h1,h⟩:=af h
 obtain ⟨⟨ty,s2⟩,h2,h⟩:=af h
 cases h
 exact ⟨g,s,tx,s1,x,h1,fun v g1 H1 p1 x1 r1=>⟨g1,s1,ty,s2,x1,h2,fun w g2 H2 p2 x2 r2=>k (v::w) g2 H2 (p1.trans p2) x2 ⟨v,w,rfl,r1.mv p2.pre p2.fr,r2⟩⟩⟩
theorem sW {n:Nat}(h:n<=1000):n<=sizeLine:=by rw [sizeLine_eq];omega
theorem Uu {x1}(h:PA X es (tA B fl)):PE X (.Tuple es x1 pos) (tE B (aM aL fl)):=bj (yU h) fun σ H Q ⟨g,s,t,s',x,h,k⟩=>by
 obtain ⟨⟨ts,s1⟩,h1,h⟩:=af h
 obtain ⟨t',h2,h⟩:=af h
 cases h
 obtain ⟨z,rfl⟩:=bF (aF h2)
 refine ⟨g,s,ts,s1,x,h1,fun vs g1 H1 p1 x1 r1=>⟨sW (by rw [<- r1.len];exact z),fun q hq=>?_⟩⟩
 have gr:=Gr.new (o:=.tup vs) x1.sub hq
 exact k _ _ _ (p1.trans (x1.eL gr)) (x1.grow gr) ⟨q,vs,rfl,.inl (.inl aw),r1.same gr.fr⟩
theorem Uv (h:PA X es (tA B fl)):PE X (.List es pos) (tE B (aM cK fl)):=bj (yV h) fun σ H Q ⟨g,s,t,s',x,h,k⟩=>by
 obtain ⟨⟨ts,s1⟩,h1,h⟩:=af h
 obtain ⟨t',h2,h⟩:=af h
 cases h
 obtain ⟨z,rfl⟩:=bF (aF h2)
 refine ⟨g,s,ts,s1,x,h1,fun vs g1 H1 p1 x1 r1=>⟨sW (by rw [<- r1.len];exact z),fun q hq=>?_⟩⟩
 have gr:=Gr.new (o:=.lst vs) x1.sub hq
 exact k _ _ _ (p1.trans (x1.eL gr)) (x1.grow gr) ⟨q,vs,rfl,aw,r1.same gr.fr⟩
def Ah (fl:FL):FL:=fun s=>(fl s).bind fun p=>if p.1.length<=1000 then .ok p else .bad
theorem Ab {l:Addr}{u:HO}(x:SR B g H σ s) (h:H l=none):Gr g.HF H g.HF (upd H l u)/\g.HF l=none/\g.o l=none:=by
 refine ⟨.Ab x.sub h,x.sub.free h,?_⟩
 cases q:g.o l with
 | none=>rfl
 | some p=>obtain ⟨_,u,z⟩:=x.st.live l p q;rw [h] at z;cases z
theorem Mx (h:PA X es (tA B fl)):PE X (.List es pos) (tO B (Ah fl)):=bj (yV h) fun σ H Q ⟨g,s,t,s',x,h,k⟩=>by
 obtain ⟨⟨ts,s1⟩,h1,h⟩:=af h
 dsimp only at h
 split at h
 ·rename_i z
  cases h
  refine ⟨g,s,_,_,x,h1,fun vs g1 H1 p1 x1 r1=>⟨sW (by rw [<- r1.len];exact z),fun q hq=>?_⟩⟩
  obtain ⟨gr,n1,n2⟩:=Ab (u:=.lst vs) x1 hq
  exact k q vs _ _ (p1.trans (x1.eL gr)) (x1.grow gr) (p1.there q hq) n1 n2 aw r1
 ·cases h
theorem SR.Ai {l:Addr}{u:HO}(x:SR B g H σ s) (hf:g.HF l=none) (ho:g.o l=none) (hh:H l=some u):SR B (g.grow (upd g.HF l u)) H σ s:=by
 have sl:∀ p c v,bO B g H p c v->bO B (g.grow (upd g.HF l u)) H p c v:=fun p c v h=>bO.mv (g:=g) (g':=g.grow (upd g.HF l u)) (bw hf) List.prefix_rfl (fun _ q=>⟨q,rfl⟩) h
 refine ⟨x.st.mv (fun b w e=>?_) (fun b p e=>?_) (bw hf) rfl fun _ _ q _=>⟨q,rfl⟩,x.lc.len,fun i c e=>let ⟨v,h1,h2⟩:=x.lc.at_ i c e;⟨v,h1,sl _ _ _ h2⟩⟩
 ·have e:upd g.HF l u b=some w:=e
  by_cases hb:b=l
  ·subst hb;rw [aw] at e;cases e;exact hh
  ·rw [ay hb] at e;exact x.sub _ _ e
 ·obtain ⟨h1,h2⟩:=x.st.live b p e
  have:b≠l:=fun z=>by subst z;rw [show g.o b=some p from e] at ho;cases ho
  exact ⟨by show upd g.HF l u b=none;rw [ay this];exact h1,h2⟩
theorem dW.Ai {g1:G}{H1:Hp}{l:Addr}{u:HO}(p:dW g H g1 H1) (h0:H l=none) (hf:g1.HF l=none):dW g H (g1.grow (upd g1.HF l u)) H1:=
 ⟨p.fr.trans (bw hf),p.pre,fun b w h n z=>by
  obtain ⟨a,b',c⟩:=p.rest b w h n z
  have:b≠l:=aT h h0
  exact ⟨a,by show upd g1.HF l u b=none;rw [ay this];exact b',c⟩,p.there⟩
theorem Aj (h:PE X e (tO B fl)):PE X e (tE B (dc fl)):=bj h fun σ H Q ⟨g,s,t,s',x,h,k⟩=>by
 obtain ⟨⟨ts,s1⟩,h1,h⟩:=af h
 cases h
 refine ⟨g,s,_,_,x,h1,fun l vs g1 H1 p1 x1 h0 n1 n2 hl r1=>?_⟩
 exact k _ _ H1 (p1.Ai h0 n1) (x1.Ai n1 n2 hl) ⟨l,vs,rfl,aw,r1.same (bw n1)⟩
theorem My (ha:PT X a (tT B ft)):PW X (.BoolOp .And [a] pos) (tT B ft):=CB ha
theorem Uw (ha:PT X a (tT B ft)):PW X (.BoolOp .Or [a] pos) (tT B ft):=IY ha
theorem Ux {rest:List Expr}(ha:PT X a (tT B ft)) (hb:PW X (.BoolOp .And (b::rest) pos) (tT B fu)):PW X (.BoolOp .And (a::b::rest) pos) (tT B (ee ft fu)):=HX (IZ ha hb) fun σ H Q ⟨g,s,t,s',x,h,k⟩=>by
 obtain ⟨⟨d,s1⟩,h1,h⟩:=af h
 refine ⟨g,s,d,s1,x,h1,fun g1 H1 p1 x1=>?_⟩
 cases d with
 | true=>exact oz ⟨g1,s1,_,_,x1,h,fun g2 H2 p2 x2=>k g2 H2 (p1.trans p2) x2⟩
 | false=>cases h;exact ow (k g1 H1 p1 x1)
theorem Y7 {rest:List Expr}(ha:PT X a (tT B ft)) (hb:PW X (.BoolOp .Or (b::rest) pos) (tT B fu)):PW X (.BoolOp .Or (a::b::rest) pos) (tT B (eS ft fu)):=HX (OH ha hb) fun σ H Q ⟨g,s,t,s',x,h,k⟩=>by
 obtain ⟨⟨d,s1⟩,h1,h⟩:=af h
 refine ⟨g,s,d,s1,x,h1,fun g1 H1 p1 x1=>?_⟩
 cases d with
 | true=>cases h;exact oz (k g1 H1 p1 x1)
 | false=>exact ow ⟨g1,s1,_,_,x1,h,fun g2 H2 p2 x2=>k g2 H2 (p1.trans p2) x2⟩
theorem Uy (ha:PT X a (tT B ft)):PT X (.UnaryOp .Not a pos) (tT B (bA ft)):=Ad (I0 ha) fun σ H Q ⟨g,s,t,s',x,h,k⟩=>by
 obtain ⟨⟨d,s1⟩,h1,h⟩:=af h
 cases h
 exact ⟨g,s,d,s1,x,h1,fun g1 H1 p1 x1=>k g1 H1 p1 x1⟩
theorem jv {t:T}{k:Bool}(h:Mv t=some k):t=.bl k:=by
 cases t<;>first | (cases h;done) | (cases h;rfl)
theorem Ak {op}(ha:PE X a (tE B fa)):PE X (.BoolOp op [a] pos) (tE B fa):=I_ ha
theorem Mz {rest:List Expr}(ha:PE X a (tE B fa)) (hb:PE X (.BoolOp .And (b::rest) pos) (tE B fb)):PE X (.BoolOp .And (a::b::rest) pos) (tE B (dq fa fb)):=bj (Ja ha hb) fun σ H Q ⟨g,s,t,s',x,h,k⟩=>by
 obtain ⟨⟨d,s1⟩,h1,h⟩:=af h
 obtain ⟨d',h2,h⟩:=af h
 cases jv (aF h2)
 refine ⟨g,s,_,s1,x,h1,fun v g1 H1 p1 x1 r1=>⟨d',r1,?_⟩⟩
 cases d' with
 | true=>exact oz ⟨g1,s1,_,_,x1,h,fun w g2 H2 p2 x2 r2=>k w g2 H2 (p1.trans p2) x2 r2⟩
 | false=>cases h;exact ow (k _ g1 H1 p1 x1 rfl)
theorem Uz {rest:List Expr}(ha:PE X a (tE B fa)) (hb:PE X (.BoolOp .Or (b::rest) pos) (tE B fb)):PE X (.BoolOp .Or (a::b::rest) pos) (tE B (YY fa fb)):=bj (OL ha hb) fun σ H Q ⟨g,s,t,s',x,h,k⟩=>by
 obtain ⟨⟨d,s1⟩,h1,h⟩:=af h
 obtain ⟨d',h2,h⟩:=af h
 cases jv (aF h2)
 refine ⟨g,s,_,s1,x,h1,fun v g1 H1 p1 x1 r1=>⟨d',r1,?_⟩⟩
 cases d' with
 | true=>cases h;exact oz (k _ g1 H1 p1 x1 rfl)
 | false=>exact ow ⟨g1,s1,_,_,x1,h,fun w g2 H2 p2 x2 r2=>k w g2 H2 (p1.trans p2) x2 r2⟩
theorem MA (ha:PE X a (tE B fa)):PE X (.UnaryOp .Not a pos) (tE B (pH fa)):=bj (Jb ha) fun σ H Q ⟨g,s,t,s',x,h,k⟩=>by
 obtain ⟨⟨d,s1⟩,h1,h⟩:=af h
 obtain ⟨d',h2,h⟩:=af h
 cases jv (aF h2)
 cases h
 exact ⟨g,s,_,s1,x,h1,fun v g1 H1 p1 x1 r1=>⟨d',r1,k _ g1 H1 p1 x1 rfl⟩⟩
theorem UA (hc:PT X c (tT B ft)) (ha:PE X a (tE B fa)) (hb:PE X b (tE B fb)):PE X (.IfExp c a b pos) (tE B (nS ft fa fb)):=bj (yI hc ha hb) fun σ H Q ⟨g,s,t,s',x,h,k⟩=>by
 obtain ⟨⟨d,s1⟩,h1,h⟩:=af h
 refine ⟨g,s,d,s1,x,h1,fun g1 H1 p1 x1=>?_⟩
 cases d with
 | true=>exact oz ⟨g1,s1,_,_,x1,h,fun w g2 H2 p2 x2 r2=>k w g2 H2 (p1.trans p2) x2 r2⟩
 | false=>exact ow ⟨g1,s1,_,_,x1,h,fun w g2 H2 p2 x2 r2=>k w g2 H2 (p1.trans p2) x2 r2⟩
theorem Al {al:List Addr}{HF:Hp}{t:T}{k:Bool}{v:V}(h:Fc t=some k) (sm:aZ HF H) (r:Rep B al HF t v):Ju B.K v H k:=by
 cases t<;>first | (cases h;done) | skip
 ·cases h;cases r;rfl
 ·cases h
  obtain ⟨a,vs,rfl,q,rr⟩:=r
  refine .inl ⟨vs,c9.of (sm _ _ q),?_⟩
  have:=rr.len
  rename_i xs
  cases xs<;>cases vs<;>first | rfl | (cases this)
theorem UB (ha:PE X a (tE B fa)) (hB:B.K=X.K) (he:∀ whole,isTrue a X.env whole=(do let v <- whole;standAt a.pos;holding [v] (truthy v))):PT X a (tT B (tB fa)):=Ad (yQ ha he) fun σ H Q ⟨g,s,t,s',x,h,k⟩=>by
 obtain ⟨⟨d,s1⟩,h1,h⟩:=af h
 obtain ⟨d',h2,h⟩:=af h
 cases h
 exact ⟨g,s,_,s1,x,h1,fun v g1 H1 p1 x1 r1=>⟨_,hB ▸ Al (aF h2) x1.sub r1,k g1 H1 p1 x1⟩⟩
section
variable {B:KT}{X:Cx}{e a b c:Expr}{es:List Expr}{pos p:Pos}{fa fb fc:FE}{fl:FL}{σ:St}{H H':Hp}{g g':G}{s s':S}
theorem eo (l:List Nat):(⟨l.toArray⟩:Str).length=l.length:=by show l.toArray.size=_;simp
theorem Y8 {l:List Nat}(h:l.length<=1000000):(⟨l.toArray⟩:Str).length<=sizeLine:=by rw [eo,sizeLine_eq];omega
theorem MB (a b:List Nat):(⟨a.toArray⟩:Str)++⟨b.toArray⟩=⟨(a++b).toArray⟩:=by
 show (⟨a.toArray++b.toArray⟩:Str)=_
 simp
def H_:R2:=fun x y H Q=>yx (fun i j=>.int (i+j)) x y H Q\/(∃ i j,x=.str i/\y=.str j/\i.length+j.length<=sizeLine/\Q (.str (i++j)) H)\/Px x y H Q
theorem Fi:eE X (binaryOp .Add) H_:=Jm.or (rh.or JE)
theorem UC:kY X Ue H_:=fun B hB al HF H x y t tx ty Q sm rx ry h k=>by
 cases tx<;>first | (cases h;done) | (cases ty<;>first | (cases h;done) | skip)
 ·cases h;exact .inl ⟨_,_,rx,ry,k _ HF H (.refl sm) rfl⟩
 ·obtain ⟨c,rfl⟩:=bF h
  obtain ⟨rfl,_⟩:=rx
  obtain ⟨rfl,_⟩:=ry
  refine .inr (.inl ⟨_,_,rfl,rfl,?_,?_⟩)
  ·rw [eo,eo,sizeLine_eq];omega
  ·rw [MB]
   exact k _ HF H (.refl sm) ⟨rfl,by rw [List.length_append];omega⟩
 ·obtain ⟨c,rfl⟩:=bF h
  obtain ⟨l,xs,rfl,q,r⟩:=rx
  obtain ⟨m,ys,rfl,q',r'⟩:=ry
  refine .inr (.inr ⟨l,m,xs,ys,rfl,rfl,sm _ _ q,sm _ _ q',by rw [<- r.len,<- r'.len,sizeLine_eq];omega,fun p hp=>?_⟩)
  have gr:=Gr.new (o:=.lst (xs++ys)) sm hp
  exact k _ _ _ gr ⟨p,_,rfl,aw,(r.app r').same gr.fr⟩
theorem UD {f:T->T->Option T}{gg:Int->Int->V}{G:Int->Int->T}(hf:∀ tx ty t,f tx ty=some t->∃ i j,tx=.int i/\ty=.int j/\t=G i j) (hg:∀ B al i j H,Rep B al H (G i j) (gg i j)):kY X f (yx gg):=fun B hB al HF H x y t tx ty Q sm rx ry h k=>by
 obtain ⟨i,j,rfl,rfl,rfl⟩:=hf _ _ _ h
 exact ⟨i,j,rx,ry,k _ HF H (.refl sm) (hg B al i j HF)⟩
theorem Am {f:T->T->Option T}{gg:Int->Int->V}{G:Int->Int->T}{C:Int->Int->Prop}(hf:∀ tx ty t,f tx ty=some t->∃ i j,tx=.int i/\ty=.int j/\t=G i j/\C i j) (hg:∀ B al i j H,Rep B al H (G i j) (gg i j)):kY X f (rI C gg):=fun B hB al HF H x y t tx ty Q sm rx ry h k=>by
 obtain ⟨i,j,rfl,rfl,rfl,c⟩:=hf _ _ _ h
 exact ⟨i,j,rx,ry,c,k _ HF H (.refl sm) (hg B al i j HF)⟩
theorem UE:kY X Ug (yx fun i j=>.int (i-j)):=UD (G:=fun i j=>.int (i-j)) (fun tx ty t h=>by
 cases tx<;>first | (cases h;done) | (cases ty<;>first | (cases h;done) | (cases h;exact ⟨_,_,rfl,rfl,rfl⟩))) fun _ _ _ _ _=>rfl
theorem UG:kY X Ui (rI O1 fun i j=>.int (i/j)):=Am (G:=fun i j=>.int (i/j)) (fun tx ty t h=>by
 cases tx<;>first | (cases h;done) | (cases ty<;>first | (cases h;done) | (obtain ⟨c,rfl⟩:=bF h;exact ⟨_,_,rfl,rfl,rfl,c⟩))) fun _ _ _ _ _=>rfl
theorem UH:kY X Uj (rI (fun _ j=>0<j) fun i j=>.int (i % j)):=Am (G:=fun i j=>.int (i % j)) (fun tx ty t h=>by
 cases tx<;>first | (cases h;done) | (cases ty<;>first | (cases h;done) | (obtain ⟨c,rfl⟩:=bF h;exact ⟨_,_,rfl,rfl,rfl,c⟩))) fun _ _ _ _ _=>rfl
theorem UI:kY X Uk (rI O2 fun i j=>.int (i ^ j.toNat)):=Am (G:=fun i j=>.int (i ^ j.toNat)) (fun tx ty t h=>by
 cases tx<;>first | (cases h;done) | (cases ty<;>first | (cases h;done) | (obtain ⟨c,rfl⟩:=bF h;exact ⟨_,_,rfl,rfl,rfl,c⟩))) fun _ _ _ _ _=>rfl
def Ia:R2:=fun x y H Q=>rI CL (fun i j=>.int (i*j)) x y H Q\/Pz x y H Q
theorem Fj:eE X (binaryOp .Mult) Ia:=Jp.or JF
def Ib:T->T->Option T
 | .int i,.int j=>Uh (.int i) (.int j)
 | .lst a,.int k=>Uh (.lst a) (.int k)
 | _,_=>none
theorem UJ:kY X Ib Ia:=fun B hB al HF H x y t tx ty Q sm rx ry h k=>by
 cases tx<;>first | (cases h;done) | (cases ty<;>first | (cases h;done) | skip)
 ·obtain ⟨c,rfl⟩:=bF h
  exact .inl ⟨_,_,rx,ry,c,k _ HF H (.refl sm) rfl⟩
 ·obtain ⟨c,rfl⟩:=bF h
  obtain ⟨l,xs,rfl,q,r⟩:=rx
  refine .inr ⟨l,_,xs,rfl,ry,sm _ _ q,by omega,by omega,by rw [<- r.len,sizeLine_eq];omega,fun p hp=>?_⟩
  exact k _ _ _ (Gr.new sm hp) ⟨p,_,rfl,aw,(r.flat _).same (bw (sm.free hp))⟩
def cO:Operator->T->T->Option T
 | .Add=>Ue
 | .Sub=>Ug
 | .Mult=>Ib
 | .FloorDiv=>Ui
 | .Mod=>Uj
 | .Pow=>Uk
 | _=>fun _ _=>none
theorem UK (hB:B.K=X.K) (op:Operator) (ha:PE X a (tE B fa)) (hb:PE X b (tE B fb)):PE X (.BinOp a op b pos) (tE B (bB (cO op) fa fb)):=by
 have no:∀ f:T->T->Option T,(∀ x y,f x y=none)->PE X (.BinOp a op b pos) (tE B (bB f fa fb)):=fun f hf _ _ _ _ _ _ ⟨_,_,_,_,_,h,_⟩=>by
  obtain ⟨⟨tx,s1⟩,h1,h⟩:=af h
  obtain ⟨⟨ty,s2⟩,h2,h⟩:=af h
  obtain ⟨t',h3,h⟩:=af h
  rw [hf] at h3
  cases h3
 cases op
 case Add=>exact bj (lg Fi ha hb) (f6 hB UC)
 case Sub=>exact bj (lg Jo ha hb) (f6 hB UE)
 case Mult=>exact bj (lg Fj ha hb) (f6 hB UJ)
 case FloorDiv=>exact bj (lg CM ha hb) (f6 hB UG)
 case Mod=>exact bj (lg Jq ha hb) (f6 hB UH)
 case Pow=>exact bj (lg Jr ha hb) (f6 hB UI)
 all_goals exact no _ fun _ _=>rfl
theorem UL (hB:B.K=X.K) (ha:PE X a (tE B fa)):PE X (.UnaryOp .USub a pos) (tE B (bD kX fa)):=
 bj (OZ Js ha) (Ag hB fun B hB al HF H x t tx Q sm rx h k=>by
  cases tx<;>first | (cases h;done) | skip
  cases h
  exact ⟨_,rx,k _ HF H (.refl sm) rfl⟩)
end
section
variable {B:KT}{X:Cx}{e a b c:Expr}{pos p:Pos}{fa fb fc:FE}
theorem dg {B:KT}{al:List Addr}{H:Hp}{t:T}{v:V}(h:Rep B al H t v) (f:bM t=true):dj v=true:=by
 cases t with
 | non=>cases (show v=.non from h);rfl
 | bl b=>cases (show v=.bl b from h);rfl
 | int i=>cases (show v=.int i from h);rfl
 | str l=>obtain ⟨rfl,_⟩:=h;rfl
 | tup _=>cases f
 | lst _=>cases f
 | scr _=>cases f
 | obj _ _=>cases f
 | own _=>cases f
 | dz _ _=>cases f
theorem str_beq (l m:List Nat):((⟨l.toArray⟩:Str) == ⟨m.toArray⟩)=decide (l=m):=by
 by_cases h:l=m
 ·subst h;simp
 ·rw [decide_eq_false h,beq_eq_false_iff_ne]
  intro e
  injection e with e
  exact h (by simpa using e)
theorem h_ {B:KT}{al:List Addr}{H:Hp}{t u:T}{v w:V}(h:Rep B al H t v) (h':Rep B al H u w) (f:bM t=true) (f':bM u=true):za v w=eqT t u:=by
 cases t with
 | tup _=>cases f
 | lst _=>cases f
 | scr _=>cases f
 | obj _ _=>cases f
 | own _=>cases f
 | dz _ _=>cases f
 | non=>
  cases (show v=.non from h)
  cases u with
  | tup _=>cases f'
  | lst _=>cases f'
  | scr _=>cases f'
  | obj _ _=>cases f'
  | own _=>cases f'
  | dz _ _=>cases f'
  | non=>cases (show w=.non from h');rfl
  | bl b=>cases (show w=.bl b from h');rfl
  | int i=>cases (show w=.int i from h');rfl
  | str l=>obtain ⟨rfl,_⟩:=h';rfl
 | bl b0=>
  cases (show v=.bl b0 from h)
  cases u with
  | tup _=>cases f'
  | lst _=>cases f'
  | scr _=>cases f'
  | obj _ _=>cases f'
  | own _=>cases f'
  | dz _ _=>cases f'
  | non=>cases (show w=.non from h');rfl
  | bl b=>cases (show w=.bl b from h');rfl
  | int i=>
   cases (show w=.int i from h')
   show ((if b0 then 1 else 0) == i)=decide ((if b0 then 1 else 0:Int)=i)
   rw [Bool.beq_eq_decide_eq]
  | str l=>obtain ⟨rfl,_⟩:=h';rfl
 | int i0=>
  cases (show v=.int i0 from h)
  cases u with
  | tup _=>cases f'
  | lst _=>cases f'
  | scr _=>cases f'
  | obj _ _=>cases f'
  | own _=>cases f'
  | dz _ _=>cases f'
  | non=>cases (show w=.non from h');rfl
  | bl b=>
   cases (show w=.bl b from h')
   show (i0 == (if b then 1 else 0))=decide (i0=(if b then 1 else 0:Int))
   rw [Bool.beq_eq_decide_eq]
  | int i=>
   cases (show w=.int i from h')
   show (i0 == i)=decide (i0=i)
   rw [Bool.beq_eq_decide_eq]
  | str l=>obtain ⟨rfl,_⟩:=h';rfl
 | str l0=>
  obtain ⟨rfl,_⟩:=h
  cases u with
  | tup _=>cases f'
  | lst _=>cases f'
  | scr _=>cases f'
  | obj _ _=>cases f'
  | own _=>cases f'
  | dz _ _=>cases f'
  | non=>cases (show w=.non from h');rfl
  | bl b=>cases (show w=.bl b from h');rfl
  | int i=>cases (show w=.int i from h');rfl
  | str l=>obtain ⟨rfl,_⟩:=h';exact str_beq _ _
theorem ia {pins:List (Addr × Obj)}{σ:St}{H HF:Hp}{s:Shared}{a:Addr}{vs:List V}(I:Inv X pins σ H s) (sm:aZ HF H) (h:i9 X.K HF a vs):∃ its:List Value,Vals vs its/\s.heap.IsTuple a its.toArray:=by
 obtain ⟨its,r,ht,hz⟩:=I.tuple (xs:=vs) (bR sm h)
 exact ⟨its,r,ht⟩
theorem ib {pins:List (Addr × Obj)}{σ:St}{H HF:Hp}{s:Shared}{a:Addr}{vs:List V}(I:Inv X pins σ H s) (sm:aZ HF H) (h:HF a=some (.lst vs)):∃ its:List Value,Vals vs its/\s.heap.IsList a its.toArray:=by
 obtain ⟨its,r,p,hz⟩:=I.list (c9.of (sm _ _ h))
 exact ⟨its,r,p.isList⟩
theorem An {v:V}(f:dj v=true):za v v=true:=by
 cases v<;>first | (cases f;done) | rfl | (show (_ == _)=true;exact beq_self_eq_true _)
theorem Ao (t u:T):shape 0 t u=(bM t&&bM u):=rfl
theorem uQ {al:List Addr}(hB:B.K=X.K) {pins:List (Addr × Obj)}{σ:St}{H HF:Hp}{s:Shared}(I:Inv X pins σ H s) (sm:aZ HF H) (n:Nat):∀ {t u:T}{v:V},Rep B al HF t v->Rep B al HF u v->shape n t u=true->eqT t u=true:=by
 have flat:∀ {t u:T} {v:V},Rep B al HF t v->Rep B al HF u v->(bM t&&bM u)=true->eqT t u=true:=fun h h' f=>by
  obtain ⟨f1,f2⟩:=Bool.and_eq_true_iff.mp f
  rw [<- h_ h h' f1 f2]
  exact An (dg h f1)
 induction n with
 | zero=>exact fun {t u v} h h' sh=>flat h h' ((Ao t u).symm.trans sh)
 | succ n ih=>
  intro t u v h h' sh
  have items:∀ {ts us:List T} {vs:List V},aH B al HF ts vs->aH B al HF us vs->all2 (shape n) ts us=true->fY ts us=true:=by
   intro ts
   induction ts with
   | nil=>intro us vs h h' _;cases (show vs=[] from h);cases us with
    | nil=>rfl
    | cons u us=>obtain ⟨_,_,e,_⟩:=h';cases e
   | cons t ts iht=>intro us vs h h' sh;cases us with
    | nil=>obtain ⟨_,_,e,_⟩:=h;cases (show vs=[] from h');cases e
    | cons u us=>
     obtain ⟨v,r,rfl,h1,h2⟩:=h
     obtain ⟨v',r',e,UM,Cr⟩:=h'
     cases e
     obtain ⟨sh1,sh2⟩:=Bool.and_eq_true_iff.mp (show (shape n t u&&all2 (shape n) ts us)=true from sh)
     show (eqT t u&&fY ts us)=true
     rw [ih h1 UM sh1,iht h2 Cr sh2];rfl
  cases t with
  | tup ts=>
   cases u with
   | tup us=>
    obtain ⟨a,vs,rfl,q,r⟩:=h
    obtain ⟨a',fh,e,q',r'⟩:=h'
    cases e
    have ev:=I.k_ (bR sm (hB ▸ q)) (bR sm (hB ▸ q'))
    subst ev
    exact items r r' sh
   | _=>exact flat h h' sh
  | lst ts=>
   cases u with
   | lst us=>
    obtain ⟨a,vs,rfl,q,r⟩:=h
    obtain ⟨a',fh,e,q',r'⟩:=h'
    cases e
    rw [q] at q';cases q'
    exact items r r' sh
   | _=>exact flat h h' sh
  | _=>exact flat h h' (by cases u<;>exact sh)
theorem pL {p:T->T->Bool}:∀ {as bs:List T},all2 p as bs=true->∀ {j:Nat}{a b:T},as[j]?=some a->bs[j]?=some b->p a b=true
 | a::as,b::bs,h,0,_,_,e1,e2=>by
  simp at e1 e2;subst e1 e2
  exact (Bool.and_eq_true_iff.mp h).1
 | a::as,b::bs,h,j+1,_,_,e1,e2=>pL (Bool.and_eq_true_iff.mp h).2 (j:=j) (by simpa using e1) (by simpa using e2)
 | [],_,_,_,_,_,e1,_=>by simp at e1
 | _::_,[],_,_,_,_,_,e2=>by simp at e2
theorem dX:∀ (xs ys:List T),((List.range (min xs.length ys.length)).all (fun j=>eqT (xs.getD j .non) (ys.getD j .non))&&xs.length == ys.length)=fY xs ys
 | [],[]=>rfl
 | [],_::_=>by simp [fY]
 | _::_,[]=>by simp [fY]
 | x::xs,y::ys=>by
  have ih:=dX xs ys
  rw [List.length_cons,List.length_cons,Nat.succ_min_succ,List.range_succ_eq_map,List.all_cons,List.all_map]
  have e:(xs.length+1 == ys.length+1)=(xs.length == ys.length):=by
   by_cases h:xs.length=ys.length<;>simp [h]
  rw [e]
  show ((eqT x y&&(List.range (min xs.length ys.length)).all fun j=>eqT (xs.getD j .non) (ys.getD j .non))&&_)=(eqT x y&&fY xs ys)
  rw [<- ih,Bool.and_assoc]
theorem jW:∀ {xs ys:List T},xs.length≠ys.length->fY xs ys=false
 | [],[],h=>absurd rfl h
 | [],_::_,_=>rfl
 | _::_,[],_=>rfl
 | x::xs,y::ys,h=>by
  show (eqT x y&&fY xs ys)=false
  rw [jW (fun e=>h (by simp [e])),Bool.and_false]
theorem in1_units (A:Around):A.in1.units=A.units+1:=rfl
theorem ic {al:List Addr}{HF:Hp}{A:Around}{s:Shared}{ts us:List T}{vs ws:List V}{its its':List Value}{n:Nat}(r:aH B al HF ts vs) (r':aH B al HF us ws) (rv:Vals vs its) (uR:Vals ws its') (sh:all2 (shape n) ts us=true)
  (ih:∀ {t u:T} {v w:V} {x y:Value},Rep B al HF t v->Rep B al HF u w->RelV v x->RelV w y->shape n t u=true->SeqAt.EqAt A s x y (eqT t u)) :
  ∀ j (h1:j<its.toArray.size) (h2:j<its'.toArray.size),SeqAt.EqAt A s its.toArray[j] its'.toArray[j] ((fun j=>eqT (ts.getD j .non) (us.getD j .non)) j):=by
 intro j h1 h2
 have l1:=rv.length
 have l2:=uR.length
 have l3:=r.len
 have l4:=r'.len
 have UM:j<ts.length:=by rw [l3,l1];simpa using h1
 have Cr:j<us.length:=by rw [l4,l2];simpa using h2
 obtain ⟨v,e1,q1⟩:=r.get (List.getElem?_eq_getElem UM)
 obtain ⟨w,e2,q2⟩:=r'.get (List.getElem?_eq_getElem Cr)
 obtain ⟨x,e3,q3⟩:=rv.get e1
 obtain ⟨y,e4,q4⟩:=uR.get e2
 have q5:its.toArray[j]=x:=by
  obtain ⟨_,z⟩:=List.getElem?_eq_some_iff.mp e3
  simpa using z
 have q6:its'.toArray[j]=y:=by
  obtain ⟨_,z⟩:=List.getElem?_eq_some_iff.mp e4
  simpa using z
 rw [q5,q6]
 have g1:ts.getD j .non=ts[j]:=by rw [List.getD_eq_getElem?_getD,List.getElem?_eq_getElem UM];rfl
 have g2:us.getD j .non=us[j]:=by rw [List.getD_eq_getElem?_getD,List.getElem?_eq_getElem Cr];rfl
 show SeqAt.EqAt A s x y (eqT (ts.getD j .non) (us.getD j .non))
 rw [g1,g2]
 exact ih q1 q2 q3 q4 (pL sh (List.getElem?_eq_getElem UM) (List.getElem?_eq_getElem Cr))
theorem Fl {al:List Addr}(hB:B.K=X.K) {pins:List (Addr × Obj)}{σ:St}{H HF:Hp}{s:Shared}(I:Inv X pins σ H s) (sm:aZ HF H) (n:Nat):∀ (A:Around) {t u:T}{v w:V}{x y:Value},A.units+n<cLine->Rep B al HF t v->Rep B al HF u w->RelV v x->RelV w y->shape n t u=true->SeqAt.EqAt A s x y (eqT t u):=by
 induction n with
 | zero=>
  intro A t u v w x y hu rt ru rx ry sh
  have sh:=(Ao t u).symm.trans sh
  obtain ⟨f1,f2⟩:=Bool.and_eq_true_iff.mp sh
  rw [<- h_ rt ru f1 f2]
  exact rz rx ry (dg rt f1) (dg ru f2)
 | succ n ih=>
  intro A t u v w x y hu rt ru rx ry sh
  have flat:(bM t&&bM u)=true->SeqAt.EqAt A s x y (eqT t u):=fun sh=>by
   obtain ⟨f1,f2⟩:=Bool.and_eq_true_iff.mp sh
   rw [<- h_ rt ru f1 f2]
   exact rz rx ry (dg rt f1) (dg ru f2)
  cases t with
  | tup ts=>
   cases u with
   | tup us=>
    obtain ⟨a,vs,rfl,q,r⟩:=id rt
    obtain ⟨b,ws,rfl,q',r'⟩:=id ru
    cases rx
    cases ry
    by_cases Fo:a=b
    ·subst Fo
     rw [uQ hB I sm (n+1) rt ru sh]
     exact SeqAt.EqAt.same _
    obtain ⟨its,rv,ht⟩:=ia I sm (hB ▸ q)
    obtain ⟨its',uR,yz⟩:=ia I sm (hB ▸ q')
    have z:=SeqAt.RcAt.tuples ht yz (Nat.lt_of_le_of_lt (Nat.le_add_right _ _) hu) (ic (A:=A.in1) r r' rv uR sh (fun a b c d e=>ih A.in1 (by rw [in1_units];omega) a b c d e))
    rw [List.size_toArray,List.size_toArray,<- rv.length,<- uR.length,<- r.len,<- r'.len,dX] at z
    exact .of_refs Fo z
   | _=>exact flat sh
  | lst ts=>
   cases u with
   | lst us=>
    obtain ⟨a,vs,rfl,q,r⟩:=id rt
    obtain ⟨b,ws,rfl,q',r'⟩:=id ru
    cases rx
    cases ry
    by_cases Fo:a=b
    ·subst Fo
     rw [uQ hB I sm (n+1) rt ru sh]
     exact SeqAt.EqAt.same _
    obtain ⟨its,rv,ht⟩:=ib I sm q
    obtain ⟨its',uR,yz⟩:=ib I sm q'
    have l1:=rv.length
    have l2:=uR.length
    have l3:=r.len
    have l4:=r'.len
    by_cases hsz:ts.length=us.length
    ·have z:=SeqAt.RcAt.lists ht yz (by rw [List.size_toArray,List.size_toArray];omega) (Nat.lt_of_le_of_lt (Nat.le_add_right _ _) hu) (ic (A:=A.in1) r r' rv uR sh (fun a b c d e=>ih A.in1 (by rw [in1_units];omega) a b c d e))
     have e:=dX ts us
     rw [<- hsz,Nat.min_self,beq_self_eq_true,Bool.and_true] at e
     rw [List.size_toArray,<- l1,<- l3,e] at z
     exact .of_refs Fo z
    ·have z:=SeqAt.RcAt.lists_lengths (s:=s) (A:=A) ht yz (by rw [List.size_toArray,List.size_toArray,bne_iff_ne];omega) (Nat.lt_of_le_of_lt (Nat.le_add_right _ _) hu)
     rw [<- jW hsz] at z
     exact .of_refs Fo z
   | _=>exact flat sh
  | _=>exact flat (by cases u<;>exact sh)
theorem Fp {al:List Addr}{HF:Hp}{A:Around}{s:Shared}{t u:T}{v w:V}{x y:Value}(rt:Rep B al HF t v) (ru:Rep B al HF u w) (rx:RelV v x) (ry:RelV w y) (f1:bM t=true) (f2:bM u=true):SeqAt.RcAt A s x y (eqT t u)/\SeqAt.RcNeAt A s x y (!eqT t u):=by
 rw [<- h_ rt ru f1 f2]
 have g1:=dg rt f1
 have g2:=dg ru f2
 cases v with
 | non=>
  cases rx
  cases w with
  | non=>cases ry;exact ⟨SeqAt.RcAt.none_none,SeqAt.RcNeAt.none_none⟩
  | bl b=>cases ry;exact ⟨SeqAt.RcAt.none_bool b,SeqAt.RcNeAt.none_bool b⟩
  | int b=>obtain ⟨t,rfl⟩:=ry;exact ⟨SeqAt.RcAt.none_int b t,SeqAt.RcNeAt.none_int b t⟩
  | str b=>obtain ⟨t,rfl⟩:=ry;exact ⟨SeqAt.RcAt.none_str b t,SeqAt.RcNeAt.none_str b t⟩
  | _=>exact absurd (show false=true from g2) Bool.false_ne_true
 | bl a=>
  cases rx
  cases w with
  | non=>cases ry;exact ⟨SeqAt.RcAt.bool_none a,SeqAt.RcNeAt.bool_none a⟩
  | bl b=>cases ry;exact ⟨SeqAt.RcAt.bool_bool a b,SeqAt.RcNeAt.bool_bool a b⟩
  | int b=>obtain ⟨t,rfl⟩:=ry;exact ⟨SeqAt.RcAt.bool_int a b t,SeqAt.RcNeAt.bool_int a b t⟩
  | str b=>obtain ⟨t,rfl⟩:=ry;exact ⟨SeqAt.RcAt.bool_str a b t,SeqAt.RcNeAt.bool_str a b t⟩
  | _=>exact absurd (show false=true from g2) Bool.false_ne_true
 | int a=>
  obtain ⟨t',rfl⟩:=rx
  cases w with
  | non=>cases ry;exact ⟨SeqAt.RcAt.int_none a t',SeqAt.RcNeAt.int_none a t'⟩
  | bl b=>cases ry;exact ⟨SeqAt.RcAt.int_bool a t' b,SeqAt.RcNeAt.int_bool a t' b⟩
  | int b=>obtain ⟨t,rfl⟩:=ry;exact ⟨SeqAt.RcAt.int_int a t' b t,SeqAt.RcNeAt.int_int a t' b t⟩
  | str b=>obtain ⟨t,rfl⟩:=ry;exact ⟨SeqAt.RcAt.int_str a t' b t,SeqAt.RcNeAt.int_str a t' b t⟩
  | _=>exact absurd (show false=true from g2) Bool.false_ne_true
 | str a=>
  obtain ⟨t',rfl⟩:=rx
  cases w with
  | non=>cases ry;exact ⟨SeqAt.RcAt.str_none a t',SeqAt.RcNeAt.str_none a t'⟩
  | bl b=>cases ry;exact ⟨SeqAt.RcAt.str_bool a t' b,SeqAt.RcNeAt.str_bool a t' b⟩
  | int b=>obtain ⟨t,rfl⟩:=ry;exact ⟨SeqAt.RcAt.str_int a t' b t,SeqAt.RcNeAt.str_int a t' b t⟩
  | str b=>obtain ⟨t,rfl⟩:=ry;exact ⟨SeqAt.RcAt.str_str a t' b t,SeqAt.RcNeAt.str_str a t' b t⟩
  | _=>exact absurd (show false=true from g2) Bool.false_ne_true
 | _=>exact absurd (show false=true from g1) Bool.false_ne_true
theorem Aq {al:List Addr}(hB:B.K=X.K) {pins:List (Addr × Obj)}{σ:St}{H HF:Hp}{s:Shared}(I:Inv X pins σ H s) (sm:aZ HF H) (A:Around) {t u:T}{v w:V}{x y:Value}(hu:A.units+6<cLine) (rt:Rep B al HF t v) (ru:Rep B al HF u w) (rx:RelV v x) (ry:RelV w y) (sh:shape 5 t u=true) :
  SeqAt.RcAt A s x y (eqT t u)/\SeqAt.RcNeAt A s x y (!eqT t u):=by
 have flat:(bM t&&bM u)=true->SeqAt.RcAt A s x y (eqT t u)/\SeqAt.RcNeAt A s x y (!eqT t u):=fun sh=>by
  obtain ⟨f1,f2⟩:=Bool.and_eq_true_iff.mp sh
  exact Fp rt ru rx ry f1 f2
 have Ol:A.units<cLine:=by omega
 have dp:=fun {t u:T} {v w:V} {x y:Value} (a:Rep B al HF t v) (b:Rep B al HF u w) (c:RelV v x) (d:RelV w y) (e:shape 4 t u=true)=>Fl hB I sm 4 A.in1 (by rw [in1_units];omega) a b c d e
 cases t with
 | tup ts=>
  cases u with
  | tup us=>
   obtain ⟨a,vs,rfl,q,r⟩:=id rt
   obtain ⟨b,ws,rfl,q',r'⟩:=id ru
   cases rx
   cases ry
   obtain ⟨its,rv,ht⟩:=ia I sm (hB ▸ q)
   obtain ⟨its',uR,yz⟩:=ia I sm (hB ▸ q')
   have it:=ic (A:=A.in1) (s:=s) r r' rv uR sh dp
   have z:=SeqAt.RcAt.tuples ht yz Ol it
   have z2:=SeqAt.RcNeAt.tuples ht yz Ol it
   rw [List.size_toArray,List.size_toArray,<- rv.length,<- uR.length,<- r.len,<- r'.len,dX] at z z2
   exact ⟨z,z2⟩
  | _=>exact flat sh
 | lst ts=>
  cases u with
  | lst us=>
   obtain ⟨a,vs,rfl,q,r⟩:=id rt
   obtain ⟨b,ws,rfl,q',r'⟩:=id ru
   cases rx
   cases ry
   obtain ⟨its,rv,ht⟩:=ib I sm q
   obtain ⟨its',uR,yz⟩:=ib I sm q'
   have l1:=rv.length
   have l2:=uR.length
   have l3:=r.len
   have l4:=r'.len
   by_cases hsz:ts.length=us.length
   ·have it:=ic (A:=A.in1) (s:=s) r r' rv uR sh dp
    have hs:its.toArray.size=its'.toArray.size:=by rw [List.size_toArray,List.size_toArray];omega
    have z:=SeqAt.RcAt.lists ht yz hs Ol it
    have z2:=SeqAt.RcNeAt.lists ht yz hs Ol it
    have e:=dX ts us
    rw [<- hsz,Nat.min_self,beq_self_eq_true,Bool.and_true] at e
    rw [List.size_toArray,<- l1,<- l3,e] at z z2
    exact ⟨z,z2⟩
   ·have hs:(its.toArray.size != its'.toArray.size)=true:=by rw [List.size_toArray,List.size_toArray,bne_iff_ne];omega
    have z:=SeqAt.RcAt.lists_lengths (s:=s) (A:=A) ht yz hs Ol
    have z2:=SeqAt.RcNeAt.lists_lengths (s:=s) (A:=A) ht yz hs Ol
    have e:eqT (.lst ts) (.lst us)=false:=jW hsz
    rw [e]
    exact ⟨z,z2⟩
  | _=>exact flat sh
 | _=>exact flat (by cases u<;>exact sh)
theorem MC (hu:X.A.units+6<cLine):eE X (compareOp .Eq) (fun x y H Q=>∃ B al HF t u,B.K=X.K/\aZ HF H/\Rep B al HF t x/\Rep B al HF u y/\shape 5 t u=true/\Q (.bl (eqT t u)) H):=by
 intro pins s σ H x y v u Q I rx ry h
 obtain ⟨B,al,HF,t,u',hB,sm,rt,ru,sh,q⟩:=h
 exact (Aq hB I sm X.A hu rt ru rx ry sh).1 _ _ _ _ (fR I q rfl)
theorem MD (hu:X.A.units+6<cLine):eE X (compareOp .NotEq) (fun x y H Q=>∃ B al HF t u,B.K=X.K/\aZ HF H/\Rep B al HF t x/\Rep B al HF u y/\shape 5 t u=true/\Q (.bl (!eqT t u)) H):=by
 intro pins s σ H x y v u Q I rx ry h
 obtain ⟨B,al,HF,t,u',hB,sm,rt,ru,sh,q⟩:=h
 exact (Aq hB I sm X.A hu rt ru rx ry sh).2 _ _ _ _ (fR I q rfl)
theorem Ar:eE X (compareOp .Is) (fun x y H Q=>∃ a b,x=.bl a/\y=.bl b/\Q (.bl (a == b)) H):=by
 intro pins s σ H x y v u Q I rx ry h
 obtain ⟨a,b,rfl,rfl,q⟩:=h
 cases rx
 cases ry
 exact PyProof.Rows.is_bool (fR I q rfl)
theorem pM {B:KT}{al:List Addr}{H:Hp}:∀ {ts:List T}{vs:List V},aH B al H ts vs->ts.all bM=true->vs.all dj=true
 | [],_,h,_=>by cases (show _=[] from h);rfl
 | t::ts,_,h,f=>by
  obtain ⟨v,r,rfl,h1,h2⟩:=h
  rw [List.all_cons,Bool.and_eq_true] at f
  rw [List.all_cons,dg h1 f.1,pM h2 f.2];rfl
theorem any_eq {B:KT}{al:List Addr}{H:Hp}{x:T}{xv:V}(hx:Rep B al H x xv) (fx:bM x=true):∀ {ts:List T}{vs:List V},aH B al H ts vs->ts.all bM=true->(vs.any fun y=>za y xv)=ts.any fun y=>eqT y x
 | [],_,h,_=>by cases (show _=[] from h);rfl
 | t::ts,_,h,f=>by
  obtain ⟨v,r,rfl,h1,h2⟩:=h
  rw [List.all_cons,Bool.and_eq_true] at f
  rw [List.any_cons,List.any_cons,h_ h1 hx f.1 fx,any_eq hx fx h2 f.2]
theorem sX {α:Type}(xs:List α) (i:Int):atT xs i=y_ xs i:=by
 unfold atT y_ Jx
 by_cases h0:0<=i
 ·rw [if_pos h0,if_pos h0]
  by_cases h1:i<xs.length
  ·rw [if_pos h1,if_pos h1];rfl
  ·rw [if_neg h1,if_neg h1];rfl
 ·rw [if_neg h0,if_neg h0]
  by_cases h1:-(xs.length:Int)<=i
  ·rw [if_pos h1,if_pos h1];rfl
  ·rw [if_neg h1,if_neg h1];rfl
theorem mS {B:KT}{al:List Addr}{H:Hp}{ts:List T}{vs:List V}{i:Int}{t:T}(r:aH B al H ts vs) (h:atT ts i=some t):∃ v,y_ vs i=some v/\Rep B al H t v:=by
 rw [sX] at h
 unfold y_ at h ⊢
 rw [<- r.len]
 cases e:Jx ts.length i with
 | none=>rw [e] at h;cases h
 | some j=>
  rw [e] at h
  exact r.get h
end
section
variable {B:KT}{X:Cx}{e a b c:Expr}{pos p p2:Pos}{fa fb fc:FE}{Y9 Y_:FO}{Za Zb:Option Expr}
def ME:T->Bool
 | .non=>true
 | _=>false
theorem As {al:List Addr}{H:Hp}{t:T}{v:V}(h:Rep B al H t v):decide (v=.non)=ME t:=by
 cases t with
 | non=>cases (show v=.non from h);rfl
 | bl b=>cases (show v=.bl b from h);rfl
 | int i=>cases (show v=.int i from h);rfl
 | str l=>obtain ⟨rfl,_⟩:=h;rfl
 | tup ts=>obtain ⟨a,vs,rfl,_⟩:=h;rfl
 | lst ts=>obtain ⟨a,vs,rfl,_⟩:=h;rfl
 | scr ts=>obtain ⟨a,rfl,_⟩:=h;rfl
 | obj _ _=>obtain ⟨a,_,_,_,_,rfl,_⟩:=h;rfl
 | own _=>obtain ⟨a,rfl,_⟩:=h;rfl
 | dz _ _=>obtain ⟨a,xs,rfl,_⟩:=h;rfl
def rIs:R2:=fun x y H Q=>(y=.non/\Q (.bl (decide (x=.non))) H)\/∃ a b,x=.bl a/\y=.bl b/\Q (.bl (a == b)) H
def Zc:R2:=fun x y H Q=>(y=.non/\Q (.bl (!decide (x=.non))) H)\/∃ a b,x=.bl a/\y=.bl b/\Q (.bl (a != b)) H
theorem Fq {tx ty t:T}(h:YX tx ty=some t):(ty=.non/\t=.bl (ME tx))\/∃ a b,tx=.bl a/\ty=.bl b/\t=.bl (a == b):=by
 cases tx<;>cases ty<;>first | (cases h;done) | (cases h;exact .inl ⟨rfl,rfl⟩) | (cases h;exact .inr ⟨_,_,rfl,rfl,rfl⟩)
theorem Au {tx ty t:T}(h:Mr tx ty=some t):(ty=.non/\t=.bl (!ME tx))\/∃ a b,tx=.bl a/\ty=.bl b/\t=.bl (a != b):=by
 cases tx<;>cases ty<;>first | (cases h;done) | (cases h;exact .inl ⟨rfl,rfl⟩) | (cases h;exact .inr ⟨_,_,rfl,rfl,rfl⟩)
theorem Zd:kY X YX rIs:=fun B hB al HF H x y t tx ty Q sm rx ry h k=>by
 rcases Fq h with ⟨rfl,rfl⟩ | ⟨a,b,rfl,rfl,rfl⟩
 ·exact .inl ⟨ry,by rw [As rx];exact k _ HF H (.refl sm) rfl⟩
 ·exact .inr ⟨a,b,rx,ry,k _ HF H (.refl sm) rfl⟩
theorem UN:kY X Mr Zc:=fun B hB al HF H x y t tx ty Q sm rx ry h k=>by
 rcases Au h with ⟨rfl,rfl⟩ | ⟨a,b,rfl,rfl,rfl⟩
 ·exact .inl ⟨ry,by rw [As rx];exact k _ HF H (.refl sm) rfl⟩
 ·exact .inr ⟨a,b,rx,ry,k _ HF H (.refl sm) rfl⟩
def Av (K:PySem.W.Frag) (neg:Bool):R2:=fun x y H Q=>(∃ i j,x=.str i/\y=.str j/\Q (.bl (if neg then (!(!(Builtin.Str.occurrences j i 0 j.length 1).isEmpty)) else (!(Builtin.Str.occurrences j i 0 j.length 1).isEmpty))) H)\/Wo K neg x y H Q
theorem MF:eE X (compareOp .In) (Av X.K false):=wa.or wo
theorem Fu:eE X (compareOp .NotIn) (Av X.K true):=l_.or mz
theorem Fv {tx ty:T}{k:Bool}(h:Oi tx ty=some k):(∃ c l,tx=.str [c]/\ty=.str l/\k=decide (c∈l))\/((∃ ys,(ty=.tup ys\/ty=.lst ys)/\(bM tx=true/\ys.all bM=true)/\k=ys.any fun y=>eqT y tx)):=by
 cases ty with
 | str l=>
  cases tx with
  | str m=>match m with
   | []=>cases h
   | [c]=>cases h;exact .inl ⟨c,l,rfl,rfl,rfl⟩
   | _::_::_=>cases h
  | _=>cases h
 | tup ys=>
  have h:gd (bM tx=true/\ys.all bM=true) (ys.any fun y=>eqT y tx)=some k:=by
   cases tx with
   | str m=>match m with
    | []=>exact h
    | [c]=>exact h
    | _::_::_=>exact h
   | _=>exact h
  obtain ⟨c,rfl⟩:=bF h
  exact .inr ⟨ys,.inl rfl,c,rfl⟩
 | lst ys=>
  have h:gd (bM tx=true/\ys.all bM=true) (ys.any fun y=>eqT y tx)=some k:=by
   cases tx with
   | str m=>match m with
    | []=>exact h
    | [c]=>exact h
    | _::_::_=>exact h
   | _=>exact h
  obtain ⟨c,rfl⟩:=bF h
  exact .inr ⟨ys,.inr rfl,c,rfl⟩
 | _=>
  cases tx with
  | str m=>match m with
   | []=>cases h
   | [c]=>cases h
   | _::_::_=>cases h
  | _=>cases h
theorem Ic {neg:Bool}{B:KT}(hB:B.K=X.K) {al:List Addr}{HF H:Hp}{x y:V}{tx ty:T}{k:Bool}{Q:VK}(sm:aZ HF H) (rx:Rep B al HF tx x) (ry:Rep B al HF ty y) (h:Oi tx ty=some k) (q:Q (.bl (if neg then !k else k)) H):Av X.K neg x y H Q:=by
 rcases Fv h with ⟨c,l,rfl,rfl,rfl⟩ | ⟨ys,hy,⟨f1,f2⟩,rfl⟩
 ·obtain ⟨rfl,_⟩:=rx
  obtain ⟨rfl,_⟩:=ry
  refine .inl ⟨_,_,rfl,rfl,?_⟩
  have e:(!(Builtin.Str.occurrences ⟨l.toArray⟩ ⟨#[c]⟩ 0 (⟨l.toArray⟩:Str).length 1).isEmpty)=decide (c∈l):=StrLaws.found_one ..
  have e':(!(Builtin.Str.occurrences (⟨l.toArray⟩:Str) ⟨[c].toArray⟩ 0 (⟨l.toArray⟩:Str).length 1).isEmpty)=decide (c∈l):=e
  rw [e']
  exact q
 ·right
  have main:∀ a vs,y=.ref a->(c9 X.K H a vs\/i9 X.K H a vs)->aH B al HF ys vs->Wo X.K neg x y H Q:=fun a vs ey sq r=>by
   refine ⟨a,vs,ey,sq,dg rx f1,pM r f2,?_⟩
   unfold Xh
   rw [any_eq rx f1 r f2]
   exact q
  rcases hy with rfl | rfl
  ·obtain ⟨a,vs,rfl,q1,r⟩:=ry
   exact main a vs rfl (.inr (hB ▸ bR sm q1)) r
  ·obtain ⟨a,vs,rfl,q1,r⟩:=ry
   exact main a vs rfl (.inl (c9.of (sm _ _ q1))) r
theorem Ze:kY X inD (Av X.K false):=fun B hB al HF H x y t tx ty Q sm rx ry h k=>by
 unfold inD at h
 cases e:Oi tx ty with
 | none=>rw [e] at h;cases h
 | some d=>rw [e] at h;cases h;exact Ic hB sm rx ry e (k _ HF H (.refl sm) rfl)
theorem UO:kY X Ms (Av X.K true):=fun B hB al HF H x y t tx ty Q sm rx ry h k=>by
 unfold Ms at h
 cases e:Oi tx ty with
 | none=>rw [e] at h;cases h
 | some d=>rw [e] at h;cases h;exact Ic hB sm rx ry e (k _ HF H (.refl sm) rfl)
def UP (X:Cx) (neg:Bool):R2:=fun x y H Q=>∃ B al HF t u,B.K=X.K/\aZ HF H/\Rep B al HF t x/\Rep B al HF u y/\shape 5 t u=true/\Q (.bl (if neg then !eqT t u else eqT t u)) H
theorem Zf:kY X eqD (UP X false):=fun B hB al HF H x y t tx ty Q sm rx ry h k=>by
 obtain ⟨c,rfl⟩:=bF h
 exact ⟨B,al,HF,tx,ty,hB,sm,rx,ry,c,k _ HF H (.refl sm) rfl⟩
theorem Zg:kY X neD (UP X true):=fun B hB al HF H x y t tx ty Q sm rx ry h k=>by
 obtain ⟨c,rfl⟩:=bF h
 exact ⟨B,al,HF,tx,ty,hB,sm,rx,ry,c,k _ HF H (.refl sm) rfl⟩
theorem uS (f:Int->Int->Bool):kY X (z7 f) (yx fun i j=>.bl (f i j)):=UD (G:=fun i j=>.bl (f i j)) (fun tx ty t h=>by
 cases tx<;>first | (cases h;done) | (cases ty<;>first | (cases h;done) | (cases h;exact ⟨_,_,rfl,rfl,rfl⟩))) fun _ _ _ _ _=>rfl
def Fw:CmpOp->T->T->Option T
 | .Eq=>eqD
 | .NotEq=>neD
 | .Lt=>z7 fun i j=>decide (i<j)
 | .LtE=>z7 fun i j=>decide (i<=j)
 | .Gt=>z7 fun i j=>decide (j<i)
 | .GtE=>z7 fun i j=>decide (j<=i)
 | .Is=>YX
 | .IsNot=>Mr
 | .In=>inD
 | .NotIn=>Ms
theorem MG {op:CmpOp}{k:Nat}(hr:bP k X.A):∃ r,eE X (compareOp op) r/\kY X (Fw op) r:=by
 have hu:X.A.units+6<cLine:=by have:=hr.units;omega
 cases op
 case Eq=>exact ⟨_,MC hu,Zf⟩
 case NotEq=>exact ⟨_,MD hu,Zg⟩
 case Lt=>exact ⟨_,O3,uS _⟩
 case LtE=>exact ⟨_,O4,uS _⟩
 case Gt=>exact ⟨_,O5,uS _⟩
 case GtE=>exact ⟨_,O6,uS _⟩
 case Is=>exact ⟨_,Jt.or Ar,Zd⟩
 case IsNot=>exact ⟨_,CN.or oF,UN⟩
 case In=>exact ⟨_,MF,Ze⟩
 case NotIn=>exact ⟨_,Fu,UO⟩
def a_ (a:FE):FT:=fun s=>(a s).bind fun p=>(dh (Mv p.1)).bind fun b=>.ok (b,p.2)
theorem Ie {f:FE}{σ:St}{H:Hp}{Q:Bool->Hp->Prop}(h:tT B (a_ f) σ H Q):tE B f σ H (fun x H'=>∃ k,x=.bl k/\Q k H'):=by
 obtain ⟨g,s,t,s',x,h,k⟩:=h
 obtain ⟨⟨d,s1⟩,h1,h⟩:=af h
 obtain ⟨d',h2,h⟩:=af h
 cases jv (aF h2)
 cases h
 exact ⟨g,s,_,s1,x,h1,fun v g1 H1 p1 x1 r1=>⟨_,r1,k g1 H1 p1 x1⟩⟩
def f9:T->T->Option T
 | .dz _ _,_=>none
 | x,y=>ixD x y
theorem Aw {tx ty t:T}(h:f9 tx ty=some t):∃ i,ty=.int i/\((∃ xs,(tx=.lst xs\/tx=.tup xs)/\atT xs i=some t)\/(∃ l c,tx=.str l/\atT l i=some c/\t=.str [c])\/∃ ns n,tx=.scr ns/\atT ns i=some n/\t=.int n):=by
 cases tx<;>first | (cases h;done) | (cases ty<;>first | (cases h;done) | skip)
 ·rename_i l i
  have h:(atT l i).map (fun c=>T.str [c])=some t:=h
  cases e:atT l i with
  | none=>rw [e] at h;cases h
  | some c=>rw [e] at h;cases h;exact ⟨i,rfl,.inr (.inl ⟨l,c,rfl,e,rfl⟩)⟩
 ·exact ⟨_,rfl,.inl ⟨_,.inr rfl,h⟩⟩
 ·exact ⟨_,rfl,.inl ⟨_,.inl rfl,h⟩⟩
 ·rename_i l i
  have h:(atT l i).map T.int=some t:=h
  cases e:atT l i with
  | none=>rw [e] at h;cases h
  | some c=>rw [e] at h;cases h;exact ⟨i,rfl,.inr (.inr ⟨l,c,rfl,e,rfl⟩)⟩
theorem MH {α β:Type}(f:α->β) {l:List α}{i:Int}{c:α}(h:atT l i=some c):y_ (l.map f) i=some (f c):=by
 rw [sX] at h
 unfold y_ at h ⊢
 rw [List.length_map]
 cases e:Jx l.length i with
 | none=>rw [e] at h;cases h
 | some j=>
  rw [e] at h
  show (List.map f _)[j]?=_
  rw [List.getElem?_map,show _[j]?=some c from h]
  rfl
theorem Zh:kY X f9 (rIx X.K):=fun B hB al HF H x y t tx ty Q sm rx ry h k=>by
 obtain ⟨i,rfl,⟨xs,hx | hx,e⟩ | ⟨l,c,rfl,e,rfl⟩ | ⟨ns,n,rfl,e,rfl⟩⟩:=Aw h
 ·subst hx
  obtain ⟨p,vs,rfl,q,r⟩:=rx
  obtain ⟨v,e,rv⟩:=mS r e
  exact .inl ⟨p,vs,_,v,rfl,ry,c9.of (sm _ _ q),e,k v HF H (.refl sm) rv⟩
 ·subst hx
  obtain ⟨p,vs,rfl,q,r⟩:=rx
  obtain ⟨v,e,rv⟩:=mS r e
  exact .inr (.inl ⟨p,vs,_,v,rfl,ry,hB ▸ bR sm q,e,k v HF H (.refl sm) rv⟩)
 ·obtain ⟨rfl,hz⟩:=rx
  refine .inr (.inr ⟨_,_,c,rfl,ry,Y8 hz,?_,k _ HF H (.refl sm) ⟨rfl,by simp⟩⟩)
  rw [<- sX];exact e
 ·obtain ⟨p,rfl,q⟩:=rx
  exact .inl ⟨p,_,_,.int n,rfl,ry,hB ▸ sm.seq q,MH V.int e,k _ HF H (.refl sm) rfl⟩
theorem MI (hB:B.K=X.K) (ha:PE X a (tE B fa)) (hb:PE X b (tE B fb)) (hs:jt b):PE X (.Subscript a b pos) (tE B (bB f9 fa fb)):=bj (G5 JB ha hb hs) (f6 hB Zh)
end
end D
namespace L2
open PySem PySem.Spec PyProof.Rows
section
variable {X:Cx}
theorem lH:∀ (ls:List Str) (t:Nat),Vals (ls.map V.str) (strsFrom t ls)
 | [],_=>.nil
 | x::ls,t=>.cons ⟨_,rfl⟩ (lH ls (t+1))
theorem Ax:wm X "str.split" (fun x vs H Q=>∃ a b,x=.str a/\vs=[.str b]/\(b.length == 0)=false/\a.length<=sizeLine/\(Txt.split a b).length<=sizeLine/\∀ l,H l=none->Q (.ref l) (upd H l (.lst ((Txt.split a b).map V.str)))):=by
 intro pins s σ H x vs v us Q I rx rv h
 obtain ⟨a,b,rfl,rfl,hb,ha,hz,q⟩:=h
 obtain ⟨t,rfl⟩:=rx
 obtain ⟨u,rfl,⟨t',rfl⟩⟩:=rv.one
 unfold Txt.split at hz q
 by_cases c1:(decide (a.length<b.length) || decide (Builtin.Str.strKind a<Builtin.Str.strKind b))=true
 ·rw [if_pos c1] at hz q
  refine call_meets F.slot_str_split (typeIs_str s a t) F.entry_str_split (F.args_str_split_2 _ _) (meets_str_split_cannot_occur a b t t' c1) ?_
  exact ⟨.ref s.heap.objs.size,_,I.wt (t':=s.toks) (ys:=[V.str a]) (.cons ⟨_,rfl⟩ .nil) hz,rfl,q _ I.fresh⟩
 ·rw [if_neg c1] at hz q
  have c1':(decide (a.length<b.length) || decide (Builtin.Str.strKind a<Builtin.Str.strKind b))=false:=by
   rcases Bool.eq_false_or_eq_true (decide (a.length<b.length) || decide (Builtin.Str.strKind a<Builtin.Str.strKind b)) with z | z
   ·exact absurd z c1
   ·exact z
  by_cases c2:(Builtin.Str.occurrences a b 0 a.length (a.length+1)).isEmpty=true
  ·rw [if_pos c2] at hz q
   refine call_meets F.slot_str_split (typeIs_str s a t) F.entry_str_split (F.args_str_split_2 _ _) (meets_str_split_not_found a b t t' c1' hb c2) ?_
   exact ⟨.ref s.heap.objs.size,_,I.wt (t':=s.toks) (ys:=[V.str a]) (.cons ⟨_,rfl⟩ .nil) hz,rfl,q _ I.fresh⟩
  ·rw [if_neg c2] at hz q
   have c2':(Builtin.Str.occurrences a b 0 a.length (a.length+1)).isEmpty=false:=by
    rcases Bool.eq_false_or_eq_true (Builtin.Str.occurrences a b 0 a.length (a.length+1)).isEmpty with z | z
    ·exact absurd z c2
    ·exact z
   refine call_meets F.slot_str_split (typeIs_str s a t) F.entry_str_split (F.args_str_split_2 _ _) (meets_str_split_sep a b t t' c1' hb c2' ha hz) ?_
   exact ⟨.ref s.heap.objs.size,_,I.wt (lH _ _) (by rw [List.length_map];exact hz),rfl,q _ I.fresh⟩
end
section
variable {X:Cx}
theorem Ay:wm X "str.find" (fun x vs H Q=>∃ a b,x=.str a/\vs=[.str b]/\Q (.int (Txt.find a b)) H):=by
 intro pins s σ H x vs v us Q I rx rv h
 obtain ⟨a,b,rfl,rfl,q⟩:=h
 obtain ⟨t,rfl⟩:=rx
 obtain ⟨u,rfl,⟨t',rfl⟩⟩:=rv.one
 exact SC.find ⟨.int _,H,I.tok _,⟨_,rfl⟩,q⟩
end
end L2
namespace D
open PySem L2
section
variable {B:KT}{X:Cx}{e a b c:Expr}{pos p p2:Pos}{fa fb fc:FE}{Y9 Y_:FO}{Za Zb:Option Expr}
theorem Az (lo hi:Option Int) (n:Nat):Builtin.Str.strSliceIndices lo hi 1 n=Builtin.Str.strSliceIndices (some ((D.eK n 0 lo:Nat):Int)) (some ((D.eK n n hi:Nat):Int)) 1 n:=by
 have c:∀ v:Int,max 0 (min (if v<0 then v+(n:Int) else v) (n:Int))=((if v<0 then (v+(n:Int)).toNat else min v.toNat n:Nat):Int):=fun v=>by
  by_cases hv:v<0
  ·rw [if_pos hv,if_pos hv];omega
  ·rw [if_neg hv,if_neg hv];omega
 have d:∀ m:Nat,m<=n->max 0 (min (if ((m:Nat):Int)<0 then ((m:Nat):Int)+(n:Int) else ((m:Nat):Int)) (n:Int))=((m:Nat):Int):=fun m hm=>by
  rw [if_neg (by omega)];omega
 have l1:D.eK n 0 lo<=n:=by
  cases lo with
  | none=>exact Nat.zero_le _
  | some v=>show (if v<0 then (v+(n:Int)).toNat else min v.toNat n)<=n;split<;>omega
 have l2:D.eK n n hi<=n:=by
  cases hi with
  | none=>exact Nat.le_refl _
  | some v=>show (if v<0 then (v+(n:Int)).toNat else min v.toNat n)<=n;split<;>omega
 unfold Builtin.Str.strSliceIndices
 simp only [show ((1:Int) > 0) from by decide,if_true]
 rw [d _ l1,d _ l2]
 congr 1
 ·cases lo with
  | none=>rfl
  | some v=>exact c v
 ·cases hi with
  | none=>rfl
  | some v=>exact c v
theorem AA (n d:Nat) (hd:d<=n) (o:Option Int):D.eK n d o<=n:=by
 cases o with
 | none=>exact hd
 | some v=>show (if v<0 then (v+(n:Int)).toNat else min v.toNat n)<=n;split<;>omega
theorem cut_str (l:List Nat) (lo hi:Option Int):Txt.slice ⟨l.toArray⟩ lo hi=⟨(bZ l lo hi).toArray⟩:=by
 have e0:Txt.slice ⟨l.toArray⟩ lo hi=StrLaws.sliceText ⟨l.toArray⟩ lo hi:=rfl
 have e1:StrLaws.sliceText ⟨l.toArray⟩ lo hi=StrLaws.sliceText ⟨l.toArray⟩ (some ((D.eK l.length 0 lo:Nat):Int)) (some ((D.eK l.length l.length hi:Nat):Int)):=by
  unfold StrLaws.sliceText
  rw [eo,Az]
 rw [e0,e1]
 have h2:=AA l.length l.length (Nat.le_refl _) hi
 by_cases Fo:D.eK l.length 0 lo<=D.eK l.length l.length hi
 ·rw [StrLaws.sliceText_nat _ Fo (by rw [eo];exact h2)]
  rfl
 ·have h1:=AA l.length 0 (Nat.zero_le _) lo
  have e3:bZ l lo hi=[]:=by
   unfold bZ
   rw [show D.eK l.length l.length hi-D.eK l.length 0 lo=0 by omega,List.take_zero]
  rw [e3]
  have e4:Builtin.Str.strSliceIndices (some ((D.eK l.length 0 lo:Nat):Int)) (some ((D.eK l.length l.length hi:Nat):Int)) 1 l.length=[]:=by
   have d:∀ m:Nat,m<=l.length->max 0 (min (if ((m:Nat):Int)<0 then ((m:Nat):Int)+(l.length:Int) else ((m:Nat):Int)) (l.length:Int))=((m:Nat):Int):=fun m hm=>by
    rw [if_neg (by omega)];omega
   unfold Builtin.Str.strSliceIndices
   simp only [show ((1:Int) > 0) from by decide,if_true]
   rw [d _ h1,d _ h2]
   simp only [sliceRange]
   rw [if_pos (by decide),if_neg (by omega)]
   rfl
  unfold StrLaws.sliceText
  rw [eo,e4]
  rw [if_neg (by simp;omega)]
  rfl
theorem AB {α:Type}(l:List α) (lo hi:Option Int):(bZ l lo hi).length<=l.length:=by
 unfold bZ
 rw [List.length_take,List.length_drop]
 omega
theorem uT (xs:List V) (lo hi:Option Int):wj xs lo hi=bZ xs lo hi:=by
 have e:∀ (n d:Nat) (o:Option Int),HT.eK n d o=D.eK n d o:=fun n d o=>by cases o<;>rfl
 unfold wj bZ
 rw [e,e]
theorem aH.cut {B:KT}{al:List Addr}{H:Hp}{ts:List T}{vs:List V}(r:aH B al H ts vs) (lo hi:Option Int):aH B al H (bZ ts lo hi) (bZ vs lo hi):=by
 unfold bZ
 rw [r.len]
 exact (r.drop _).take _
theorem Fx {α β:Type}(f:α->β) (l:List α) (lo hi:Option Int):(bZ l lo hi).map f=bZ (l.map f) lo hi:=by
 unfold bZ
 rw [List.length_map,List.map_take,List.map_drop]
theorem pO {B:KT}{al:List Addr}{H:Hp}:∀ {ts:List T}{vs:List V}{ls:List (List Nat)},aH B al H ts vs->strsOf ts=some ls->vs=(ls.map fun l=>(⟨l.toArray⟩:Str)).map V.str
 | [],_,_,h,e=>by cases (show _=[] from h);cases e;rfl
 | t::ts,_,ls,h,e=>by
  obtain ⟨v,r,rfl,h1,h2⟩:=h
  cases t<;>first | (cases e;done) | skip
  rename_i l
  have e:(strsOf ts).map (l::·)=some ls:=e
  cases e':strsOf ts with
  | none=>rw [e'] at e;cases e
  | some ms=>
   rw [e'] at e;cases e
   obtain ⟨rfl,_⟩:=h1
   rw [pO h2 e']
   rfl
theorem join_eq (sep:List Nat):∀ ls:List (List Nat),Str.join ⟨sep.toArray⟩ (ls.map fun l=>(⟨l.toArray⟩:Str))=⟨(bf sep ls).toArray⟩
 | []=>rfl
 | [c]=>rfl
 | c::d::r=>by
  have ih:=join_eq sep (d::r)
  show (⟨c.toArray⟩:Str)++⟨sep.toArray⟩++Str.join ⟨sep.toArray⟩ ((d::r).map fun l=>(⟨l.toArray⟩:Str))=⟨(c++sep++bf sep (d::r)).toArray⟩
  rw [ih,MB,MB]
theorem lI (sep:List Nat):∀ ls:List (List Nat),(bf sep ls).length<=(ls.map (·.length)).sum+ls.length*sep.length
 | []=>by simp [bf]
 | [c]=>by simp [bf]
 | c::d::r=>by
  have ih:=lI sep (d::r)
  show (c++sep++bf sep (d::r)).length<=_
  rw [List.length_append,List.length_append,List.map_cons,List.sum_cons,List.length_cons,Nat.succ_mul]
  omega
theorem AD (ls:List (List Nat)):((ls.map fun l=>(⟨l.toArray⟩:Str)).map (·.length))=ls.map (·.length):=by
 rw [List.map_map]
 apply List.map_congr_left
 intro l _
 exact eo l
theorem MJ (l s:List Nat):Txt.startswith ⟨l.toArray⟩ ⟨s.toArray⟩=pre s l:=by
 unfold Txt.startswith pre
 rw [StrLaws.subAt_eq]
 show (decide (0+(⟨s.toArray⟩:Str).length<=l.toArray.size)&&((l.drop 0).take (⟨s.toArray⟩:Str).length == s))=_
 rw [eo,List.size_toArray,Nat.zero_add,List.drop_zero]
theorem ML (l s:List Nat):Txt.endswith ⟨l.toArray⟩ ⟨s.toArray⟩=Mt s l:=by
 unfold Txt.endswith Mt
 rw [StrLaws.subAt_eq,eo,eo]
 show (decide (0+s.length<=l.length)&&((l.drop (l.length-s.length)).take s.length == s))=_
 rw [Nat.zero_add]
 by_cases h:s.length<=l.length
 ·rw [decide_eq_true h,Bool.true_and,Bool.true_and]
  rw [List.take_of_length_le (by rw [List.length_drop];omega)]
 ·rw [decide_eq_false h,Bool.false_and,Bool.false_and]
theorem iO {B:KT}{al:List Addr}{H:Hp}:∀ {ts:List T}{vs:List V}{ks:List Bool},aH B al H ts vs->boolsOf ts=some ks->vs=ks.map V.bl
 | [],_,_,h,e=>by cases (show _=[] from h);cases e;rfl
 | t::ts,_,ls,h,e=>by
  obtain ⟨v,r,rfl,h1,h2⟩:=h
  cases t<;>first | (cases e;done) | skip
  rename_i l
  have e:(boolsOf ts).map (l::·)=some ls:=e
  cases e':boolsOf ts with
  | none=>rw [e'] at e;cases e
  | some ms=>
   rw [e'] at e;cases e
   cases (show v=.bl l from h1)
   rw [iO h2 e']
   rfl
def pP (tn T:String):Option Bool:=if (Value.type tn == Value.type T)=true then some true else if PySem.W.kitMeta T=true then (fastBuiltinMro tn).map (·.contains (Value.type T)) else none
theorem iP (K:PySem.W.Frag) {tn T:String}{b:Bool}(h:pP tn T=some b):PySem.W.kitOne K (.type tn) (.type T)=some b:=h
structure gC (T:String):Prop where
 non:pP "NoneType" T=some false
 bl:pP "bool" T=some (T == "bool" || T == "int")
 int:pP "int" T=some (T == "int")
 str:pP "str" T=some (T == "str")
 tup:pP "tuple" T=some (T == "tuple")
 lst:pP "list" T=some (T == "list")
 dic:pP "dict" T=some (T == "dict")
theorem MM:gC "int" := ⟨by decide +kernel,by decide +kernel,by decide +kernel,by decide +kernel,by decide +kernel,by decide +kernel,by decide +kernel⟩
theorem Fy:gC "bool" := ⟨by decide +kernel,by decide +kernel,by decide +kernel,by decide +kernel,by decide +kernel,by decide +kernel,by decide +kernel⟩
theorem MN:gC "str" := ⟨by decide +kernel,by decide +kernel,by decide +kernel,by decide +kernel,by decide +kernel,by decide +kernel,by decide +kernel⟩
theorem AE:gC "tuple" := ⟨by decide +kernel,by decide +kernel,by decide +kernel,by decide +kernel,by decide +kernel,by decide +kernel,by decide +kernel⟩
theorem Fz:gC "list" := ⟨by decide +kernel,by decide +kernel,by decide +kernel,by decide +kernel,by decide +kernel,by decide +kernel,by decide +kernel⟩
def bh (c:Nat):List Nat->List (List Nat)
 | []=>[[]]
 | d::l=>if d=c then []::bh c l else match bh c l with
  | p::r=>(d::p)::r
  | []=>[[d]]
theorem gD {c:Nat}:∀ {p:List Nat},c ∉ p->bh c p=[p]
 | [],_=>rfl
 | d::p,h=>by
  have hd:d≠c:=fun e=>h (by rw [e];exact List.mem_cons_self ..)
  have hp:c ∉ p:=fun e=>h (List.mem_cons_of_mem _ e)
  unfold bh
  rw [if_neg hd,gD hp]
theorem jX {c:Nat}(l:List Nat):∀ {p:List Nat},c ∉ p->bh c (p++[c]++l)=p::bh c l
 | [],_=>by
  show bh c (c::l)=_
  rw [bh,if_pos rfl]
 | d::p,h=>by
  have hd:d≠c:=fun e=>h (by rw [e];exact List.mem_cons_self ..)
  have hp:c ∉ p:=fun e=>h (List.mem_cons_of_mem _ e)
  show bh c (d::(p++[c]++l))=_
  rw [bh,if_neg hd,jX l hp]
theorem jc {c:Nat}:∀ {ls:List (List Nat)},ls≠[]->(∀ p∈ls,c ∉ p)->bh c (bf [c] ls)=ls
 | [],h,_=>absurd rfl h
 | [p],_,h=>gD (h p (List.mem_cons_self ..))
 | p::q::r,_,h=>by
  show bh c (p++[c]++bf [c] (q::r))=_
  rw [jX _ (h p (List.mem_cons_self ..)),jc (by simp) fun x hx=>h x (List.mem_cons_of_mem _ hx)]
theorem split_len (x y:Str):(Txt.split x y).length<=x.length+2:=by
 unfold Txt.split
 split
 ·simp
 ·split
  ·simp
  ·rw [length_partsBetween]
   have:=StrLaws.occ_length_le x y 0 x.length (x.length+1)
   omega
theorem AF (x y:Str):Txt.split x y≠[]:=by
 unfold Txt.split
 split
 ·simp
 ·split
  ·simp
  ·intro e
   have:=length_partsBetween x (Builtin.Str.occurrences x y 0 x.length (x.length+1)) y.length
   rw [e] at this
   simp at this
theorem AG (a:List Nat) (c:Nat):Txt.split ⟨a.toArray⟩ ⟨#[c]⟩=(bh c a).map fun l=>(⟨l.toArray⟩:Str):=by
 obtain ⟨L,hL⟩:∃ L:List (List Nat),L=(Txt.split ⟨a.toArray⟩ ⟨#[c]⟩).map fun p=>p.cps.toList:=⟨_,rfl⟩
 have e1:Txt.split ⟨a.toArray⟩ ⟨#[c]⟩=L.map fun l=>(⟨l.toArray⟩:Str):=by
  rw [hL,List.map_map]
  conv=>lhs;rw [<- List.map_id (Txt.split ⟨a.toArray⟩ ⟨#[c]⟩)]
  apply List.map_congr_left
  intro p _
  show p=(⟨p.cps.toList.toArray⟩:Str)
  rw [Array.toArray_toList]
 have gA:L≠[]:=by
  rw [hL]
  intro e
  exact AF _ _ (List.map_eq_nil_iff.mp e)
 have k9:∀ p∈L,c ∉ p:=by
  rw [hL]
  intro p hp
  obtain ⟨q,hq,rfl⟩:=List.mem_map.mp hp
  exact StrLaws.split_free _ c q hq
 have hj:=StrLaws.join_split ⟨a.toArray⟩ ⟨#[c]⟩
 rw [e1,show (⟨#[c]⟩:Str)=⟨([c]:List Nat).toArray⟩ from rfl,join_eq] at hj
 have hj2:bf [c] L=a:=by
  injection hj with hj
  simpa using hj
 rw [e1,<- hj2,jc gA k9]
theorem lJ {B:KT}{al:List Addr}{H:Hp}:∀ {ls:List (List Nat)},(∀ l∈ls,l.length<=1000000)->aH B al H (ls.map T.str) (ls.map fun l=>SV l)
 | [],_=>rfl
 | l::ls,h=>⟨_,_,rfl,⟨rfl,h l (List.mem_cons_self ..)⟩,lJ fun x hx=>h x (List.mem_cons_of_mem _ hx)⟩
theorem ie (c:Nat):∀ (a:List Nat),∀ l∈bh c a,l.length<=a.length
 | [],l,h=>by
  rw [List.mem_singleton.mp h];simp
 | d::a,l,h=>by
  have ih:=ie c a
  rw [bh] at h
  split at h
  ·rcases List.mem_cons.mp h with e | e
   ·rw [e];simp
   ·have:=ih l e;simp;omega
  ·split at h
   ·rename_i p r hpr
    rcases List.mem_cons.mp h with e | e
    ·have:=ih p (by rw [hpr];exact List.mem_cons_self ..)
     rw [e];simp;omega
    ·have:=ih l (by rw [hpr];exact List.mem_cons_of_mem _ e)
     simp;omega
   ·rw [List.mem_singleton.mp h];simp
theorem UQ:PO X none (tP B sR):=HZ CV fun σ H Q ⟨g,s,t,s',x,h,k⟩=>by
 cases h
 exact k g H .refl x
theorem FA {t:T}{i:Int}(h:Uo t=some i):t=.int i:=by
 cases t<;>first | (cases h;done) | (cases h;rfl)
theorem UR (ha:PE X a (tE B fa)):PO X (some a) (tP B (kN fa)):=HZ (CW ha) fun σ H Q ⟨g,s,t,s',x,h,k⟩=>by
 obtain ⟨⟨d,s1⟩,h1,h⟩:=af h
 obtain ⟨i,h2,h⟩:=af h
 cases FA (aF h2)
 cases h
 exact ⟨g,s,_,s1,x,h1,fun v g1 H1 p1 x1 r1=>⟨_,r1,k g1 H1 p1 x1⟩⟩
def Zi (K:PySem.W.Frag):V->Option Int->Option Int->Hp->VK->Prop:=fun x lo hi H Q=>(∃ z,x=.str z/\z.length<=sizeLine/\Q (.str (Txt.slice z lo hi)) H)\/Pu K x lo hi H Q
theorem Zj:G4 X (Zi X.K):=JJ.or C0
theorem Zk (hB:B.K=X.K) (ha:PE X a (tE B fa)) (hl:PO X Za (tP B Y9)) (hh:PO X Zb (tP B Y_)):PE X (.Subscript a (.Slice Za Zb none p2) pos) (tE B (mG fa Y9 Y_)):=by
 refine bj (y9 Zj ha hl hh) fun σ H Q ⟨g,s,t,s',x,h,k⟩=>?_
 obtain ⟨⟨tx,s1⟩,h1,h⟩:=af h
 obtain ⟨⟨lo,s2⟩,h2,h⟩:=af h
 obtain ⟨⟨hi,s3⟩,h3,h⟩:=af h
 obtain ⟨t',h4,h⟩:=af h
 cases h
 have h4:z9 lo hi tx=some _:=aF h4
 refine ⟨g,s,_,s1,x,h1,fun v g1 H1 p1 x1 r1=>⟨g1,s1,_,s2,x1,h2,fun g2 H2 p2 x2=>⟨g2,s2,_,_,x2,h3,fun g3 H3 p3 x3=>?_⟩⟩⟩
 have r3:=(r1.mv p2.pre p2.fr).mv p3.pre p3.fr
 have pp:=(p1.trans p2).trans p3
 cases tx<;>first | (cases h4;done) | skip
 ·cases h4
  obtain ⟨rfl,hz⟩:=r3
  refine .inl ⟨_,rfl,Y8 hz,?_⟩
  rw [cut_str]
  exact k _ g3 H3 pp x3 ⟨rfl,Nat.le_trans (AB _ _ _) hz⟩
 ·cases h4
  obtain ⟨a,vs,rfl,q,r⟩:=r3
  refine .inr ⟨a,vs,rfl,c9.of (x3.sub _ _ q),fun l hl=>?_⟩
  rw [uT]
  have gr:=Gr.new (o:=.lst (bZ vs lo hi)) x3.sub hl
  exact k _ _ _ (pp.trans (x3.eL gr)) (x3.grow gr) ⟨l,_,rfl,aw,(r.cut _ _).same gr.fr⟩
 ·cases h4
  obtain ⟨a,rfl,q⟩:=r3
  refine .inr ⟨a,_,rfl,hB ▸ x3.sub.seq q,fun l hl=>?_⟩
  rw [uT,<- Fx]
  exact k _ _ _ (pp.trans (x3.eL (Gr.new x3.sub hl))) (x3.grow (Gr.new x3.sub hl)) ⟨l,_,rfl,aw,aH.ints _⟩
end
section
variable {B:KT}{X:Cx}{e a b c o:Expr}{es:List Expr}{pos p apos cW:Pos}{fa fb fc fo:FE}{fl:FL}{env:Env}
def noStar:Expr->Bool
 | .Starred _ _=>false
 | _=>true
theorem aK (h:noStar e=true):starEach (e::es) env=(false,eval e env)::starEach es env:=by
 cases e<;>first | rfl | (cases h)
theorem dB:∀ {es:List Expr},es.all noStar=true->(backTo pos (starEach es env)).any (·.1)=false
 | [],_=>rfl
 | e::es,h=>by
  rw [List.all_cons,Bool.and_eq_true] at h
  rw [aK h.1]
  show (false || (backTo pos (starEach es env)).any (·.1))=false
  rw [dB h.2];rfl
theorem jY:∀ {es:List Expr},es.all noStar=true->(backTo pos (starEach es env)).all (fun x=>!x.1)=true
 | [],_=>rfl
 | e::es,h=>by
  rw [List.all_cons,Bool.and_eq_true] at h
  rw [aK h.1]
  show (true&&(backTo pos (starEach es env)).all (fun x=>!x.1))=true
  rw [jY h.2];rfl
theorem nT (h:(e::es).all noStar=true) (hl:es.length<29):((backTo cW (starEach (e::es) env)).all (fun x=>!x.1)&&(backToKw cW (keywordEach [] env)).all (fun x=>x.1.isSome)
   && decide ((e::es).length+([]:List Keyword).length+(if ([]:List Keyword).isEmpty then 0 else 1)<30))=true:=by
 rw [jY h,Bool.and_eq_true]
 exact ⟨rfl,decide_eq_true (show es.length+1+0+0<30 by omega)⟩
def dO:Expr->Bool
 | .Call (.Name _ _) [] [] _=>false
 | _=>true
theorem jw {f:Str}{whole:Sem Value}(h:dO o=true):attributeBase o f env whole=whole:=by
 unfold attributeBase
 split
 ·cases h
 ·rfl
def LM (X:Cx) (f:List Nat->List T->Option T) (r:V->List V->Hp->VK->Prop):Prop:=∀ (B:KT) (_:B.K=X.K) (al:List Addr) (HF H:Hp) (l:List Nat) (xs:List V) (t:T) (ts:List T) (Q:VK),aZ HF H->l.length<=1000000->aH B al HF ts xs->f l ts=some t->(∀ v eG H',Gr HF H eG H'->Rep B al eG t v->Q v H')->r (SV l) xs H Q
def FF:T->Option (List Nat)
 | .str l=>some l
 | _=>none
def jd (f:List Nat->List T->Option T) (o:FE) (fl:FL):FE:=fun s=>(o s).bind fun p=>(dh (FF p.1)).bind fun l=>(fl p.2).bind fun q=>(dh (f l q.1)).bind fun t=>.ok (t,q.2)
theorem AH {t:T}{l:List Nat}(h:FF t=some l):t=.str l:=by
 cases t<;>first | (cases h;done) | (cases h;rfl)
theorem Zl {f:List Nat->List T->Option T}{r:V->List V->Hp->VK->Prop}(hB:B.K=X.K) (hr:LM X f r):∀ σ H Q,tE B (jd f fo fl) σ H Q->tBM X.K "str" r (tE B fo) (tA B fl) σ H Q:=by
 rintro σ H Q ⟨g,s,t,s',x,h,k⟩
 obtain ⟨⟨tx,s1⟩,h1,h⟩:=af h
 obtain ⟨l,h2,h⟩:=af h
 obtain ⟨⟨ts,s2⟩,h3,h⟩:=af h
 obtain ⟨t',h4,h⟩:=af h
 cases h
 cases AH (aF h2)
 refine ⟨g,s,_,s1,x,h1,fun v g1 H1 p1 x1 r1=>?_⟩
 obtain ⟨rfl,hz⟩:=r1
 exact ⟨rfl,g1,s1,_,_,x1,h3,fun vs g2 H2 p2 x2 r2=>hr B hB g2.al g2.HF H2 l vs _ ts Q x2.sub hz r2 (aF h4) fun u eG H' gr r3=>k u (g2.grow eG) H' ((p1.trans p2).trans (x2.eL gr)) (x2.grow gr) r3⟩
def nU (l:List Nat):List T->Option T
 | [.str s]=>some (.bl (pre s l))
 | _=>none
def Ww (l:List Nat):List T->Option T
 | [.str s]=>some (.bl (Mt s l))
 | _=>none
def joinM (l:List Nat):List T->Option T
 | [t]=>lE (.str l) t
 | _=>none
def splitM (l:List Nat):List T->Option T
 | [.str [c]]=>gd (l.length<=100000) (.lst ((bh c l).map .str))
 | _=>none
open PySem.Spec PyProof.Rows in
def jZ (l:List Nat):List T->Option T
 | [.str s]=>some (.int (Txt.find ⟨l.toArray⟩ ⟨s.toArray⟩))
 | [.str s,.int i]=>some (.int (Txt.find3 ⟨l.toArray⟩ ⟨s.toArray⟩ i))
 | _=>none
theorem ck {al:List Addr}{H:Hp}{t:T}{xs:List V}(r:aH B al H [t] xs):∃ v,xs=[v]/\Rep B al H t v:=by
 obtain ⟨v,w,rfl,h,e⟩:=r
 cases (show w=[] from e)
 exact ⟨v,rfl,h⟩
theorem FH {al:List Addr}{H:Hp}{t u:T}{xs:List V}(r:aH B al H [t,u] xs):∃ v w,xs=[v,w]/\Rep B al H t v/\Rep B al H u w:=by
 obtain ⟨v,ws,rfl,h,e⟩:=r
 obtain ⟨w,rfl,h'⟩:=ck e
 exact ⟨v,w,rfl,h,h'⟩
theorem Zm:LM X nU (fun x vs H Q=>∃ a b,x=.str a/\vs=[.str b]/\Q (.bl (Txt.startswith a b)) H):=fun B hB al HF H l xs t ts Q sm hz r h k=>by
 match ts,h with
 | [.str s],h=>
  cases h
  obtain ⟨v,rfl,rfl,_⟩:=ck r
  refine ⟨_,_,rfl,rfl,?_⟩
  rw [MJ]
  exact k _ HF H (.refl sm) rfl
theorem Zn:LM X Ww (fun x vs H Q=>∃ a b,x=.str a/\vs=[.str b]/\Q (.bl (Txt.endswith a b)) H):=fun B hB al HF H l xs t ts Q sm hz r h k=>by
 match ts,h with
 | [.str s],h=>
  cases h
  obtain ⟨v,rfl,rfl,_⟩:=ck r
  refine ⟨_,_,rfl,rfl,?_⟩
  rw [ML]
  exact k _ HF H (.refl sm) rfl
theorem MO:LM X joinM (fun x vs H Q=>∃ sep l ys,x=.str sep/\vs=[.ref l]/\c9 X.K H l (ys.map V.str)/\(ys.map (·.length)).sum+ys.length*sep.length<=16777216/\Q (.str (Str.join sep ys)) H):=fun B hB al HF H l xs t ts Q sm hz r h k=>by
 match ts,h with
 | [u],h=>
  obtain ⟨v,rfl,ru⟩:=ck r
  have h:lE (.str l) u=some t:=h
  cases u with
  | lst us=>
   have h:(strsOf us).bind (fun ys=>gd ((ys.map (·.length)).sum+ys.length*l.length<=1000000) (T.str (bf l ys)))=some t:=h
   obtain ⟨ls,h1,h⟩:=Option.bind_eq_some_iff.mp h
   obtain ⟨z,rfl⟩:=bF h
   obtain ⟨a,vs,rfl,q,r⟩:=ru
   have e:=pO r h1
   subst e
   refine ⟨_,a,_,rfl,rfl,c9.of (sm _ _ q),?_,?_⟩
   ·rw [AD,List.length_map,eo];omega
   ·rw [join_eq]
    exact k _ HF H (.refl sm) ⟨rfl,Nat.le_trans (lI _ _) z⟩
  | _=>cases h
theorem m_find:LM X jZ (fun x vs H Q=>(∃ a b,x=.str a/\vs=[.str b]/\Q (.int (Txt.find a b)) H)\/∃ a b i,x=.str a/\vs=[.str b,.int i]/\Q (.int (Txt.find3 a b i)) H):=fun B hB al HF H l xs t ts Q sm hz r h k=>by
 match ts,h with
 | [.str s],h=>
  cases h
  obtain ⟨v,rfl,rfl,_⟩:=ck r
  exact .inl ⟨_,_,rfl,rfl,k _ HF H (.refl sm) rfl⟩
 | [.str s,.int i],h=>
  cases h
  obtain ⟨v,w,rfl,⟨rfl,_⟩,rfl⟩:=FH r
  exact .inr ⟨_,_,_,rfl,rfl,k _ HF H (.refl sm) rfl⟩
theorem m_split:LM X splitM (fun x vs H Q=>∃ a b,x=.str a/\vs=[.str b]/\(b.length == 0)=false/\a.length<=sizeLine/\(Txt.split a b).length<=sizeLine/\∀ l,H l=none->Q (.ref l) (upd H l (.lst ((Txt.split a b).map V.str)))):=fun B hB al HF H l xs t ts Q sm hz r h k=>by
 match ts,h with
 | [.str [c]],h=>
  obtain ⟨z,rfl⟩:=bF h
  obtain ⟨v,rfl,rfl,_⟩:=ck r
  have hsl:=split_len ⟨l.toArray⟩ ⟨([c]:List Nat).toArray⟩
  rw [eo] at hsl
  refine ⟨_,_,rfl,rfl,rfl,by rw [eo,sizeLine_eq];omega,by rw [sizeLine_eq];omega,fun q hq=>?_⟩
  have e:(Txt.split ⟨l.toArray⟩ ⟨([c]:List Nat).toArray⟩).map V.str=(bh c l).map fun l=>SV l:=by
   rw [show (⟨([c]:List Nat).toArray⟩:Str)=⟨#[c]⟩ from rfl,AG,List.map_map];rfl
  rw [e]
  refine k _ _ _ (Gr.new sm hq) ⟨q,_,rfl,aw,lJ fun m hm=>?_⟩
  have:=ie c l m hm
  omega
 | [.str []],h=>cases h
 | [.str (_::_::_)],h=>cases h
theorem wm.or {id:String}{r r':V->List V->Hp->VK->Prop}(h:wm X id r) (h':wm X id r'):wm X id (fun x vs H Q=>r x vs H Q\/r' x vs H Q):=fun pins s σ H x vs v us Q I rx rv q=>by
 rcases q with q | q
 ·exact h pins s σ H x vs v us Q I rx rv q
 ·exact h' pins s σ H x vs v us Q I rx rv q
structure SMt (X:Cx) (n:Str) (f:List Nat->List T->Option T):Prop where
 ex:∃ id r,Slot "str" n id/\typeOf (.builtin id)=pure (.type "method_descriptor")/\wm X id r/\LM X f r
theorem US {n:Str}{f:List Nat->List T->Option T}(M:SMt X n f) (hB:B.K=X.K) (ho:PE X o (tE B fo)) (ha:PA X (e::es) (tA B fl)) (hb:dO o=true) (hs:(e::es).all noStar=true) (hl:es.length<29) (oq:(apos.endLine == cW.line)=true) :
  PE X (.Call (.Attribute o n apos) (e::es) [] cW) (tE B (jd f fo fl)):=by
 obtain ⟨id,r,h1,h2,h3,h4⟩:=M.ex
 have zf:=hs
 rw [List.all_cons,Bool.and_eq_true] at zf
 exact bj (G6 PySem.F.plainAttrs_str h1 h2 h3 ho ha (jw hb) (nT hs hl) oq (aK zf.1) (dB zf.2)) (Zl hB h4)
def sY:List (Str × (List Nat->List T->Option T)):=[("startswith", nU),("endswith", Ww),("join", joinM),("split", splitM),("find", jZ)]
theorem MP:∀ p∈sY,SMt X p.1 p.2:=by
 intro p h
 simp only [sY,List.mem_cons,List.not_mem_nil,or_false] at h
 rcases h with rfl | rfl | rfl | rfl | rfl
 ·exact ⟨_,_,PySem.F.slot_str_startswith,PySem.F.type_str_startswith,kW,Zm⟩
 ·exact ⟨_,_,PySem.F.slot_str_endswith,PySem.F.type_str_endswith,oB,Zn⟩
 ·exact ⟨_,_,PySem.F.slot_str_join,PySem.F.type_str_join,Df,MO⟩
 ·exact ⟨_,_,PySem.F.slot_str_split,PySem.F.type_str_split,Ax,m_split⟩
 ·exact ⟨_,_,PySem.F.slot_str_find,PySem.F.type_str_find,wm.or Ay zj,m_find⟩
end
section
variable {B:KT}{X:Cx}{e a b c o:Expr}{es:List Expr}{pos p apos cW:Pos}{fa fb fc fo:FE}{fl:FL}{env:Env}{x y:Str}
def br:List T->Option T
 | [t]=>(match t with
  | .dz _ _=>none
  | t=>fK t)
 | _=>none
theorem UT:LN X br (fun xs H Q=>∃ x n,xs=[x]/\O8 X.K x H n/\Q (.int n) H):=fun B hB al HF H xs t ts Q sm r h k=>by
 match ts,h with
 | [tx],h=>
  obtain ⟨v,rfl,rx⟩:=ck r
  cases tx<;>first | (cases h;done) | skip
  ·cases h
   obtain ⟨rfl,hz⟩:=rx
   exact ⟨_,_,rfl,⟨Y8 hz,(eo _).symm⟩,k _ HF H (.refl sm) rfl⟩
  ·cases h
   obtain ⟨a,vs,rfl,q,r⟩:=rx
   exact ⟨_,_,rfl,.inr ⟨vs,hB ▸ bR sm q,r.len⟩,k _ HF H (.refl sm) rfl⟩
  ·cases h
   obtain ⟨a,vs,rfl,q,r⟩:=rx
   exact ⟨_,_,rfl,.inl ⟨vs,c9.of (sm _ _ q),r.len⟩,k _ HF H (.refl sm) rfl⟩
  ·cases h
   obtain ⟨a,rfl,q⟩:=rx
   exact ⟨_,_,rfl,.inl ⟨_,hB ▸ sm.seq q,(List.length_map _).symm⟩,k _ HF H (.refl sm) rfl⟩
def UU:List T->Option T
 | [t]=>Um t
 | _=>none
theorem UW:LN X UU (fun xs H Q=>∃ i,xs=[.int i]/\Q (.int (if i<0 then -i else i)) H):=fun B hB al HF H xs t ts Q sm r h k=>by
 match ts,h with
 | [tx],h=>
  obtain ⟨v,rfl,rx⟩:=ck r
  have h:Um tx=some t:=h
  cases tx<;>first | (cases h;done) | skip
  cases h
  exact ⟨_,by rw [show v=_ from rx],k _ HF H (.refl sm) rfl⟩
def FI:List T->Option T
 | [t]=>Mu t
 | _=>none
def mT:List T->Option T
 | [t]=>Fd t
 | _=>none
theorem UX:LN X FI (fun xs H Q=>∃ (p:Addr) (ks:List Bool),xs=[.ref p]/\c9 X.K H p (ks.map V.bl)/\Q (.bl (ks.all id)) H):=fun B hB al HF H xs t ts Q sm r h k=>by
 match ts,h with
 | [tx],h=>
  obtain ⟨v,rfl,rx⟩:=ck r
  have h:Mu tx=some t:=h
  cases tx with
  | lst us=>
   obtain ⟨ks,h1,h⟩:=Option.map_eq_some_iff.mp (show (boolsOf us).map _=some t from h)
   obtain ⟨a,vs,rfl,q,r⟩:=rx
   have e:=iO r h1
   subst e h
   exact ⟨a,ks,rfl,c9.of (sm _ _ q),k _ HF H (.refl sm) rfl⟩
  | _=>cases h
theorem UY:LN X mT (fun xs H Q=>∃ (p:Addr) (ks:List Bool),xs=[.ref p]/\c9 X.K H p (ks.map V.bl)/\Q (.bl (ks.any id)) H):=fun B hB al HF H xs t ts Q sm r h k=>by
 match ts,h with
 | [tx],h=>
  obtain ⟨v,rfl,rx⟩:=ck r
  have h:Fd tx=some t:=h
  cases tx with
  | lst us=>
   obtain ⟨ks,h1,h⟩:=Option.map_eq_some_iff.mp (show (boolsOf us).map _=some t from h)
   obtain ⟨a,vs,rfl,q,r⟩:=rx
   have e:=iO r h1
   subst e h
   exact ⟨a,ks,rfl,c9.of (sm _ _ q),k _ HF H (.refl sm) rfl⟩
  | _=>cases h
def cT (i:Int):List Nat:=(toString i).toList.map Char.toNat
def strN:List T->Option T
 | [.int i]=>gd (i.natAbs.log2<1920/\(cT i).length<=1000000) (.str (cT i))
 | _=>none
theorem UZ:LN X strN (fun xs H Q=>∃ i,xs=[.int i]/\i.natAbs.log2<1920/\Q (.str (toString i)) H):=fun B hB al HF H xs t ts Q sm r h k=>by
 match ts,h with
 | [.int i],h=>
  obtain ⟨v,rfl,rx⟩:=ck r
  obtain ⟨⟨h1,h2⟩,rfl⟩:=bF h
  cases rx
  refine ⟨i,rfl,h1,k _ HF H (.refl sm) ⟨?_,h2⟩⟩
  show V.str (Str.ofString (toString i))=_
  rw [Str.ofString_eq_toList]
  rfl
def AI:List T->Option T
 | [.str l]=>(PySem.intText? ⟨l.toArray⟩).bind fun n=>gd (l.length<=640) (.int n)
 | _=>none
theorem x_:eu X (.type "int") (fun xs H Q=>∃ y n,xs=[.str y]/\PySem.intText? y=some n/\y.length<=640/\Q (.int n) H):=by
 intro pins s σ H xs us Q I r h
 obtain ⟨y,n,rfl,hn,hl,q⟩:=h
 obtain ⟨u,rfl,t,rfl⟩:=vals1 r
 exact PySem.W.KIN.call_text hn hl ⟨.int n,H,I.tok _,⟨_,rfl⟩,q⟩
theorem U0:LN X AI (fun xs H Q=>∃ y n,xs=[.str y]/\PySem.intText? y=some n/\y.length<=640/\Q (.int n) H):=fun B hB al HF H xs t ts Q sm r h k=>by
 match ts,h with
 | [.str l],h=>
  obtain ⟨v,rfl,rx⟩:=ck r
  obtain ⟨n,h1,h⟩:=Option.bind_eq_some_iff.mp h
  obtain ⟨z,rfl⟩:=bF h
  obtain ⟨rfl,_⟩:=rx
  exact ⟨_,n,rfl,h1,by rw [eo];exact z,k _ HF H (.refl sm) rfl⟩
def Ig:List T->Option T
 | [t]=>HR t
 | _=>none
theorem MQ:LN X Ig (fun xs H Q=>∃ p ys,xs=[.ref p]/\(c9 X.K H p ys\/i9 X.K H p ys)/\∀ l,H l=none->Q (.ref l) (upd H l (.lst ys))):=fun B hB al HF H xs t ts Q sm r h k=>by
 match ts,h with
 | [tx],h=>
  obtain ⟨v,rfl,rx⟩:=ck r
  have h:HR tx=some t:=h
  cases tx<;>first | (cases h;done) | skip
  ·cases h
   obtain ⟨l,xs,rfl,q,r⟩:=rx
   exact ⟨l,xs,rfl,.inr (hB ▸ bR sm q),fun p hp=>k _ _ _ (Gr.new sm hp) ⟨p,_,rfl,aw,r.same (bw (sm.free hp))⟩⟩
  ·cases h
   obtain ⟨l,xs,rfl,q,r⟩:=rx
   exact ⟨l,xs,rfl,.inl (c9.of (sm _ _ q)),fun p hp=>k _ _ _ (Gr.new sm hp) ⟨p,_,rfl,aw,r.same (bw (sm.free hp))⟩⟩
structure Blt (X:Cx) (n:Str) (f:List T->Option T):Prop where
 ex:∃ r,LN X f r/\((∃ id,bootBuiltins n=some (.builtin id)/\eu X (.builtin id) r)\/∃ ty,bootBuiltins n=some (.type ty)/\eu X (.type ty) r)
 nn:n ≠ "__name__"
 nd:(n == ("__debug__" : Str))=false
theorem Ih {f:List T->Option T}(M:Blt X x f) (hB:B.K=X.K) (hg:Gl X x) (hm:X.mg x=none) (ha:PA X (e::es) (tA B fl)) (hs:(e::es).all noStar=true):PE X (.Call (.Name x p) (e::es) [] pos) (tE B (aM f fl)):=by
 obtain ⟨⟨r,h1,h2⟩,nn,nd⟩:=M
 rw [List.all_cons,Bool.and_eq_true] at hs
 rcases h2 with ⟨id,hb,hc⟩ | ⟨ty,hb,hc⟩
 ·exact bj (fS hc hg hm hb ha nn nd (aK hs.1) (dB hs.2)) (H0 hB h1)
 ·exact bj (ly hc hg hm hb ha nn nd (aK hs.1) (dB hs.2)) (H0 hB h1)
def sZ:List (Str × (List T->Option T)):=[("len", br),("abs", UU),("all", FI),("any", mT),("str", strN),("int", AI),("list", Ig)]
theorem AJ (hc:X.calm=true):∀ p∈sZ,Blt X p.1 p.2:=by
 intro p h
 simp only [sZ,List.mem_cons,List.not_mem_nil,or_false] at h
 rcases h with rfl | rfl | rfl | rfl | rfl | rfl | rfl
 ·exact ⟨⟨_,UT,.inl ⟨_,PySem.boot_len,oi⟩⟩,by decide,by decide⟩
 ·exact ⟨⟨_,UW,.inl ⟨_,PyProof.Rows.boot_abs,yR⟩⟩,by decide,by decide⟩
 ·exact ⟨⟨_,UX,.inl ⟨_,PyProof.Rows.boot_all,zk hc⟩⟩,by decide,by decide⟩
 ·exact ⟨⟨_,UY,.inl ⟨_,PyProof.Rows.boot_any,zl hc⟩⟩,by decide,by decide⟩
 ·exact ⟨⟨_,UZ,.inr ⟨_,PyProof.Rows.boot_str,mi⟩⟩,by decide,by decide⟩
 ·exact ⟨⟨_,U0,.inr ⟨_,PyProof.Rows.boot_int,x_⟩⟩,by decide,by decide⟩
 ·exact ⟨⟨_,MQ,.inr ⟨_,PyProof.Rows.boot_list,gU⟩⟩,by decide,by decide⟩
end
structure Pg where
 cn:List Str
 an:List Str
 tab:List (List Nat)
 sub:List (List Nat)
def Pg.fn (P:Pg):List (List Str):=P.tab.map fun l=>l.map fun i=>P.an.getD i Str.empty
structure Om (K:PySem.W.Frag) (mg:Str->Option Value) (n:Str) (ns:List Str) (C:Addr):Prop where
 at_:PySem.W.nsIn K mainGlobals n=some (some (.ref C))
 gl:mg n=some (.ref C)
 nd:ns.Nodup
 nT:ns.length<=100
 cl:mj K C
 na:∀ f∈ns,dQ K C f
 ca:PySem.W.findIn K (.ref C) "__class__" = some (some (.builtin "object.__class__"))
 mo:PySem.W.mroIn K C (.type "object")=some true
structure mU (K:PySem.W.Frag) (mg:Str->Option Value) (P:Pg):Prop where
 cls:∀ (c:Nat) (n:Str) (ns:List Str),P.cn[c]?=some n->P.fn[c]?=some ns->∃ C,Om K mg n ns C
 sub:∀ (c d:Nat) (n n':Str) (C D:Addr) (l:List Nat),P.cn[c]?=some n->P.cn[d]?=some n'->mg n=some (.ref C)->mg n'=some (.ref D)->P.sub[c]?=some l->PySem.W.kitOne K (.ref C) (.ref D)=some (decide (d∈l))
 gt:PySem.W.specialIn K (.builtin "object.__class__") "__get__" = some (some (.builtin "getset_descriptor.__get__"))/\PySem.W.takesIn K (.builtin "object.__class__")=some true
abbrev Pg.kt (P:Pg) (X:Cx):KT:=⟨X.K,X.prog,X.w,P.cn,P.fn⟩
variable {P:Pg}{X:Cx}{e a b c o:Expr}{es:List Expr}{pos p apos cW:Pos}{fa fb fc fo:FE}{fl:FL}{env:Env}{x y:Str}{σ:St}{H H':Hp}{g g':G}{s s':S}
theorem mU.of (O:mU X.K X.mg P) {c:Nat}{C:Addr}{ns:List Str}(h:fL (P.kt X) c C ns):∃ n,P.cn[c]?=some n/\P.fn[c]?=some ns/\Om X.K X.mg n ns C:=by
 obtain ⟨n,h1,h2,h3,h4⟩:=h
 obtain ⟨C',F⟩:=O.cls c n ns h1 h2
 have:C=C':=by
  have:=(show PySem.W.nsIn X.K mainGlobals n=some (some (.ref C)) from h4).symm.trans F.at_
  injection this with this
  injection this with this
  injection this
 subst this
 exact ⟨n,h1,h2,F⟩
theorem gE {f:Str}:∀ {ns:List Str}{vs:List V}{j:Nat},ns.Nodup->ns[j]?=some f->(ns.zip vs).lookup f=vs[j]?
 | [],vs,j,_,h=>by simp at h
 | n::ns,[],j,_,_=>by simp
 | n::ns,v::vs,0,nd,h=>by
  simp at h;subst h
  rw [List.zip_cons_cons,List.lookup_cons_self];rfl
 | n::ns,v::vs,j+1,nd,h=>by
  simp at h
  have e:(f == n)=false:=beq_eq_false_iff_ne.mpr fun z=>by subst z;exact (List.nodup_cons.mp nd).1 (List.mem_of_getElem? h)
  rw [List.zip_cons_cons,List.lookup_cons,e]
  simpa using gE (List.nodup_cons.mp nd).2 h
theorem j0 {f:Str}:∀ {ns:List Str}{vs:List V},f ∉ ns->(ns.zip vs).lookup f=none
 | [],vs,_=>by simp
 | n::ns,[],_=>by simp
 | n::ns,v::vs,h=>by
  have e:(f == n)=false:=beq_eq_false_iff_ne.mpr fun z=>h (by rw [z];exact List.mem_cons_self ..)
  rw [List.zip_cons_cons,List.lookup_cons,e]
  exact j0 fun z=>h (List.mem_cons_of_mem _ z)
theorem uU {f:Str}{v:V}:∀ {ns:List Str}{vs:List V}{j:Nat},ns.Nodup->ns[j]?=some f->vs.length<=ns.length->j<vs.length->L2.dw f v (ns.zip vs)=ns.zip (vs.set j v)
 | [],vs,j,_,h,_,_=>by simp at h
 | n::ns,[],j,_,_,_,h=>by simp at h
 | n::ns,w::vs,0,nd,h,_,_=>by
  simp at h;subst h
  show (if n=n then (n,v)::ns.zip vs else (n,w)::L2.dw n v (ns.zip vs))=_
  rw [if_pos rfl];rfl
 | n::ns,w::vs,j+1,nd,h,hl,hj=>by
  simp at h hl hj
  show (if n=f then (n,v)::ns.zip vs else (n,w)::L2.dw f v (ns.zip vs))=_
  rw [if_neg fun z=>(List.nodup_cons.mp nd).1 (by rw [z];exact List.mem_of_getElem? h),uU (List.nodup_cons.mp nd).2 h hl hj]
  rfl
theorem mV {f:Str}{v:V}:∀ {ns:List Str}{vs:List V},ns.Nodup->ns[vs.length]?=some f->L2.dw f v (ns.zip vs)=ns.zip (vs++[v])
 | [],vs,_,h=>by simp at h
 | n::ns,[],nd,h=>by
  simp at h;subst h
  show L2.dw n v []=(n,v)::ns.zip []
  simp [L2.dw]
 | n::ns,w::vs,nd,h=>by
  simp at h
  show (if n=f then (n,v)::ns.zip vs else (n,w)::L2.dw f v (ns.zip vs))=_
  rw [if_neg fun z=>(List.nodup_cons.mp nd).1 (by rw [z];exact List.mem_of_getElem? h),mV (List.nodup_cons.mp nd).2 h]
  rfl
theorem FJ {l:List Nat}{f j:Nat}(h:l.idxOf? f=some j):l[j]?=some f:=by
 rw [List.idxOf?,List.findIdx?_eq_some_iff_getElem] at h
 obtain ⟨hj,h1,_⟩:=h
 rw [List.getElem?_eq_getElem hj,eq_of_beq h1]
theorem mW {c f j:Nat}{n:Str}{ns:List Str}(hf:P.an[f]?=some n) (hc:P.fn[c]?=some ns) (h:z_ P.tab c f=some j):ns[j]?=some n:=by
 unfold z_ at h
 obtain ⟨l,h1,h2⟩:=Option.bind_eq_some_iff.mp h
 unfold Pg.fn at hc
 rw [List.getElem?_map,h1] at hc
 cases hc
 rw [List.getElem?_map,FJ h2]
 show some (P.an.getD f Str.empty)=_
 rw [List.getD_eq_getElem?_getD,hf];rfl
theorem U1 (O:mU X.K X.mg P) {f:Nat}{n:Str}(hf:P.an[f]?=some n) (he:PE X e (tE (P.kt X) fa)) (hb:dO e=true):PE X (.Attribute e n pos) (tE (P.kt X) (aI P.tab f fa)):=by
 refine bj (Jw he (jw hb)) fun σ H Q ⟨g,s,t,s',x,h,k⟩=>?_
 obtain ⟨⟨tx,s1⟩,h1,h⟩:=af h
 refine ⟨g,s,_,s1,x,h1,fun v g1 H1 p1 x1 r1=>?_⟩
 cases tx<;>first | (cases h;done) | skip
 ·rename_i c fs
  obtain ⟨u,h2,h⟩:=af h
  cases h
  obtain ⟨j,h3,h4⟩:=Option.bind_eq_some_iff.mp (aF h2)
  obtain ⟨a,C,dx,ns,vs,rfl,hC,hq,hl,hd,r⟩:=r1
  obtain ⟨m,hm,uG,F⟩:=O.of hC
  have hj:=mW hf uG h3
  obtain ⟨w,hw,Jy⟩:=r.get h4
  exact ⟨a,C,dx,_,w,rfl,x1.sub _ _ hq,F.cl,F.na _ (List.mem_of_getElem? hj),by rw [gE F.nd hj,hw],k _ g1 H1 p1 x1 Jy⟩
 ·rename_i kk
  obtain ⟨c,h2,h⟩:=af h
  obtain ⟨ob,h3,h4⟩:=Option.bind_eq_some_iff.mp (aF h2)
  obtain ⟨j,h5,h6⟩:=Option.bind_eq_some_iff.mp h4
  obtain ⟨a,rfl,ha⟩:=r1
  obtain ⟨a',C,dx,ns,vs,Z⟩:=x1.st.at_ kk ob h3
  have:=Z.al.symm.trans ha
  cases this
  obtain ⟨m,hm,uG,F⟩:=O.of Z.cl
  have hj:=mW hf uG h5
  obtain ⟨w,hw,sl⟩:=Z.f j c h6
  cases c with
  | val t'=>
   cases h
   exact ⟨a,C,dx,_,w,rfl,Z.h,F.cl,F.na _ (List.mem_of_getElem? hj),by rw [gE F.nd hj,hw],k _ g1 H1 p1 x1 sl⟩
  | ol ts=>cases h
  | od ks ts=>cases h
def tyB (ty:String):T->Option Bool
 | .non=>some false
 | .bl _=>some (ty == "bool" || ty == "int")
 | .int _=>some (ty == "int")
 | .str _=>some (ty == "str")
 | .tup _=>some (ty == "tuple")
 | .lst _=>some (ty == "list")
 | _=>none
def qS (ty:String):T->Option T:=fun t=>(tyB ty t).map .bl
theorem MR {B:KT}{al:List Addr}{H:Hp}{t:T}{v:V}{Ty:String}{u:Bool}(ka:gC Ty) (r:Rep B al H t v) (h:tyB Ty t=some u):∃ tn,gu B.K H v tn/\PySem.W.kitOne B.K tn (.type Ty)=some u:=by
 cases t with
 | non=>cases (show v=.non from r);cases h;exact ⟨_,.non,iP B.K ka.non⟩
 | bl b=>cases (show v=.bl b from r);cases h;exact ⟨_,.bl _,iP B.K ka.bl⟩
 | int i=>cases (show v=.int i from r);cases h;exact ⟨_,.int _,iP B.K ka.int⟩
 | str l=>obtain ⟨rfl,_⟩:=r;cases h;exact ⟨_,.str _,iP B.K ka.str⟩
 | tup ts=>obtain ⟨a,vs,rfl,q,_⟩:=r;cases h;exact ⟨_,.tup q,iP B.K ka.tup⟩
 | lst ts=>obtain ⟨a,vs,rfl,q,_⟩:=r;cases h;exact ⟨_,.lst q,iP B.K ka.lst⟩
 | _=>cases h
def uV:List (Str × String):=[("int", "int"),("bool", "bool"),("str", "str"),("tuple", "tuple"),("list", "list")]
theorem U3:∀ q∈uV,gC q.2/\bootBuiltins q.1=some (.type q.2)/\q.1 ≠ "__name__" /\ (q.1 == ("__debug__" : Str))=false:=by
 intro p h
 simp only [uV,List.mem_cons,List.not_mem_nil,or_false] at h
 rcases h with rfl | rfl | rfl | rfl | rfl
 ·exact ⟨MM,PyProof.Rows.boot_int,by decide,by decide⟩
 ·exact ⟨Fy,PyProof.Rows.boot_bool,by decide,by decide⟩
 ·exact ⟨MN,PyProof.Rows.boot_str,by decide,by decide⟩
 ·exact ⟨AE,PyProof.Rows.boot_tuple,by decide,by decide⟩
 ·exact ⟨Fz,PyProof.Rows.boot_list,by decide,by decide⟩
theorem MS {B:KT}(hB:B.K=X.K) {ty:String}{py:Pos}(hy:(y,ty)∈uV) (hm:X.mg "isinstance" = none) (hmt:X.mg y=none) (ha:PE X a (tE B fa)) (hg:Gl X "isinstance") (Zo:Gl X y) (hs:noStar a=true) :
  PE X (.Call (.Name "isinstance" p) [a,.Name y py] [] pos) (tE B (bD (qS ty) fa)):=by
 obtain ⟨ka,hb,hn,hd⟩:=U3 _ hy
 have yw:starEach [Expr.Name y py] X.env=(false,eval (.Name y py) X.env)::starEach [] X.env:=rfl
 refine bj (fS oG hg hm PyProof.Rows.boot_isinstance (bQ ha (bQ (CA Zo hmt hb (v:=.ty ty) rfl hn hd) dD yw) (aK hs)) (he:=aK hs) (hpl:=rfl))
  (Ag hB (r:=fun x H Q=>∃ x' T' t b,[x,.ty ty]=[x',.ty T']/\gu X.K H x' t/\PySem.W.kitOne X.K t (.type T')=some b/\Q (.bl b) H) fun B hB al HF H x t tx Q sm rx h k=>?_)
 obtain ⟨u,h1,rfl⟩:=Option.map_eq_some_iff.mp h
 obtain ⟨tn,h2,h3⟩:=MR ka (rx.same sm) h1
 exact ⟨x,ty,tn,u,rfl,hB ▸ h2,hB ▸ h3,k _ HF H (.refl sm) rfl⟩
def cy (sub:List (List Nat)) (ds:List Nat):T->Option T
 | .obj c _=>(sub[c]?).map fun l=>.bl (ds.any fun d=>decide (d∈l))
 | _=>none
theorem AK:eu X (.builtin "isinstance") (fun xs H Q=>∃ x D t b,xs=[x,.ref D]/\gu X.K H x t/\PySem.W.kitOne X.K t (.ref D)=some b/\Q (.bl b) H):=by
 intro pins s σ H xs us Q I r h
 obtain ⟨x,D,t,b,rfl,ty,e,q⟩:=h
 obtain ⟨u,u',rfl,ru,PK⟩:=vals2 r
 cases PK
 exact lh I ru ty e fun tk=>⟨.bl b,H,I.tok _,rfl,q⟩
theorem U4 (O:mU X.K X.mg P) {d:Nat}{py:Pos}(hy:P.cn[d]?=some y) (hm:X.mg "isinstance" = none) (ha:PE X a (tE (P.kt X) fa)) (hg:Gl X "isinstance") (Zo:Gl X y) (hs:noStar a=true) (hd:(y == ("__debug__" : Str))=false) (OE:(P.fn[d]?).isSome=true) :
  PE X (.Call (.Name "isinstance" p) [a,.Name y py] [] pos) (tE (P.kt X) (bD (cy P.sub [d]) fa)):=by
 obtain ⟨ns,uG⟩:=Option.isSome_iff_exists.mp OE
 obtain ⟨D,FD⟩:=O.cls d y ns hy uG
 have yw:starEach [Expr.Name y py] X.env=(false,eval (.Name y py) X.env)::starEach [] X.env:=rfl
 refine bj (fS AK hg hm PyProof.Rows.boot_isinstance (bQ ha (bQ (l8 (v:=.ref D) Zo FD.gl rfl hd) dD yw) (aK hs)) (he:=aK hs) (hpl:=rfl)) fun σ H Q ⟨g,s,t,s',x,h,k⟩=>?_
 obtain ⟨⟨tx,s1⟩,h1,h⟩:=af h
 obtain ⟨t',h2,h⟩:=af h
 cases h
 refine ⟨g,s,_,_,x,h1,fun v g1 H1 p1 x1 r1=>?_⟩
 have h2:=aF h2
 cases tx<;>first | (cases h2;done) | skip
 obtain ⟨l,hl,rfl⟩:=Option.map_eq_some_iff.mp h2
 obtain ⟨a,C,dx,Cs,vs,rfl,hC,hq,hle,hdx,r⟩:=r1
 obtain ⟨m,Zp,Zq,F⟩:=O.of hC
 refine ⟨_,D,_,_,rfl,.ins (x1.sub _ _ hq) F.cl F.ca O.gt.1 O.gt.2 F.mo,O.sub _ d m y C D l Zp hy F.gl FD.gl hl,?_⟩
 have:=k (V.bl (decide (d∈l))) g1 H1 p1 x1 (by show _=V.bl (([d]:List Nat).any fun d=>decide (d∈l));simp)
 exact this
variable {P:Pg}{X:Cx}{e a b c o:Expr}{es:List Expr}{pos p apos cW:Pos}{fa fb fc fo:FE}{fl:FL}{env:Env}{x y:Str}{σ:St}{H H':Hp}{g g':G}{s s':S}
abbrev gF (P:Pg) (K:PySem.W.Frag) (Pr:Program) (w:World):KT:=⟨K,Pr,w,P.cn,P.fn⟩
def lK (B:KT) (f:Fn):Sp:=fun vs H Q _=>∃ g ts m t m',eT B g H m/\aH B g.al g.HF ts vs/\f ts m=.ok (t,m')/\∀ v g' H',dW g H g' H'->eT B g' H' m'->Rep B g'.al g'.HF t v->Q v H'
structure Zr (P:Pg) (Pr:Program) (w:World) (K:PySem.W.Frag) (mg:Str->Option Value) (base:Heap) (k:Nat) (x:Str) (ds:List T) (f:Fn):Prop where
 ex:∃ (fa:Addr) (fd:FuncData) (ps:List Str) (iF:List Value) (dV:List V),cV Pr w K mg base jl k fa fd ps (lK (gF P K Pr w) f)/\mg x=some (.ref fa)/\PySem.W.keepIn K (.ref fa)=true/\Binds K fd ps iF/\Vals dV iF/\∀ al H,aH (gF P K Pr w) al H ds dV
theorem ig {f:Fn}{ds:List T}{t:T}(h:ai f ds fl s=.ok (t,s')):∃ ts s1 m',fl s=.ok (ts,s1)/\f (ts++ds) s1.m=.ok (t,m')/\s'={ s1 with m:=m' }:=by
 obtain ⟨⟨ts,s1⟩,h1,h⟩:=af h
 dsimp only at h
 cases q:f (ts++ds) s1.m with
 | ok r=>rw [q] at h;cases h;exact ⟨ts,s1,r.2,h1,q,rfl⟩
 | bad=>rw [q] at h;cases h
 | exc c fs s2=>rw [q] at h;cases h
theorem pQ {B:KT}{f:Fn}{ts:List T}{t:T}{m':List Ob}{vs:List V}{Q:VK}{E:XK}(x:SR B g H σ s) (r:aH B g.al g.HF ts vs) (h:f ts s.m=.ok (t,m')) (k:∀ v g' H',dW g H g' H'->SR B g' H' σ { s with m:=m' }->Rep B g'.al g'.HF t v->Q v H'):lK B f vs H Q E:=
 ⟨g.ao,ts,s.m,t,m',x.st.ao,r,h,fun v g' H' p y rv=>let ⟨p2,x2⟩:=x.back p y;k v (G.back g g') H' p2 x2 rv⟩
theorem s_call {k j:Nat}{ds:List T}{f:Fn}(D:Zr P X.prog X.w X.K X.mg X.base k x ds f) (hr:bP j X.A) (ya:k<=j) (ha:PA X (e::es) (tA (P.kt X) fl)) (hg:Gl X x) (jJ:(x == ("__debug__" : Str))=false) (hs:(e::es).all noStar=true) :
  PE X (.Call (.Name x p) (e::es) [] pos) (tE (P.kt X) (ai f ds fl)):=by
 obtain ⟨ff,fd,ps,iF,dV,F,hm,hk,hb,hd,FN⟩:=D.ex
 rw [List.all_cons,Bool.and_eq_true] at hs
 refine bj (CS F (hr.mono ya) hg hm hk hb hd jK ha jJ (aK hs.1) (dB hs.2)) fun σ H Q ⟨g,s,t,s',x,h,k⟩=>?_
 obtain ⟨ts,s1,m',h1,h2,rfl⟩:=ig h
 exact ⟨g,s,ts,s1,x,h1,fun vs g1 H1 p1 x1 r1=>pQ x1 (r1.app (FN _ _)) h2 fun v g' H' p2 x2 rv=>k v g' H' (p1.trans p2) x2 rv⟩
theorem FP {k j:Nat}{ds:List T}{f:Fn}(D:Zr P X.prog X.w X.K X.mg X.base k x ds f) (hr:bP j X.A) (ya:k<=j) (hg:Gl X x) (jJ:(x == ("__debug__" : Str))=false) :
  PE X (.Call (.Name x p) [] [] pos) (tE (P.kt X) (ai f ds c_)):=by
 obtain ⟨ff,fd,ps,iF,dV,F,hm,hk,hb,hd,FN⟩:=D.ex
 refine bj (yW F (hr.mono ya) hg hm hk hb hd jK jJ) fun σ H Q ⟨g,s,t,s',x,h,k⟩=>?_
 obtain ⟨ts,s1,m',h1,h2,rfl⟩:=ig h
 cases h1
 exact pQ (E:=E0) (vs:=[]++dV) x (FN _ _) h2 fun v g' H' p2 x2 rv=>k v g' H' p2 x2 rv
structure Wx (P:Pg) (Pr:Program) (w:World) (K:PySem.W.Frag) (mg:Str->Option Value) (base:Heap) (k:Nat) (c:Nat) (m:Str) (f:Fn):Prop where
 ex:∃ (C fa:Addr) (fd:FuncData) (ps:List Str) (ns:List Str),fL (gF P K Pr w) c C ns/\mj K C/\Meth K C m fa/\cV Pr w K mg base jl k fa fd ps (lK (gF P K Pr w) f)/\Binds K fd ps []/\m ∉ ns
theorem AL {ι:Type}{t:ι->TE}{t':TE}{C:ι->Prop}(h:∀ i,C i->PE X e (t i)) (k:∀ σ H Q,t' σ H Q->∃ i,C i/\t i σ H Q):PE X e t':=fun pins s σ H Q I q=>by
 obtain ⟨i,hi,hq⟩:=k σ H Q q
 exact h i hi pins s σ H Q I hq
def AM (X:Cx) (o:Expr) (m:Str) (apos:Pos) (es:List Expr) (pos:Pos):Prop:=∃ pl,eval (.Call (.Attribute o m apos) es [] pos) X.env=(do
   let ov <- eval o X.env
   standAt apos.atName
   let (f,first) <- holding [ov] (getMethod ov m pl)
   callWith pos f first (backTo pos (starEach es X.env)) (backToKw pos (keywordEach [] X.env)))
theorem pR {gm:Nat->Option Fn}{t:T}(h:aP gm fo fl s=.ok (t,s')):∃ tx s1 c f ts s2 m',fo s=.ok (tx,s1)/\((∃ k ob,tx=.own k/\s1.m[k]?=some ob/\ob.c=c)\/∃ fs,tx=.obj c fs)/\gm c=some f/\fl s1=.ok (ts,s2)/\f (tx::ts) s2.m=.ok (t,m')/\s'={ s2 with m:=m' }:=by
 obtain ⟨⟨tx,s1⟩,h1,h⟩:=af h
 cases tx<;>first | (cases h;done) | skip
 ·rename_i c fs
  obtain ⟨f,h2,h⟩:=af h
  obtain ⟨us,s2,m',h3,h4,rfl⟩:=ig h
  obtain ⟨⟨ts,s3⟩,h5,h6⟩:=af h3
  cases h6
  rw [List.append_nil] at h4
  exact ⟨_,s1,c,f,ts,_,m',h1,.inr ⟨fs,rfl⟩,aF h2,h5,h4,rfl⟩
 ·rename_i kk
  obtain ⟨f,h2,h⟩:=af h
  obtain ⟨ob,h7,h8⟩:=Option.bind_eq_some_iff.mp (aF h2)
  obtain ⟨us,s2,m',h3,h4,rfl⟩:=ig h
  obtain ⟨⟨ts,s3⟩,h5,h6⟩:=af h3
  cases h6
  rw [List.append_nil] at h4
  exact ⟨_,s1,ob.c,f,ts,_,m',h1,.inl ⟨kk,ob,rfl,h7,rfl⟩,h8,h5,h4,rfl⟩
theorem AN {B:KT}{C:Addr}{ns:List Str}{c:Nat}{tx:T}{v:V}(x:SR B g H σ s) (hC:fL B c C ns) (r:Rep B g.al g.HF tx v) (h:(∃ k ob,tx=.own k/\s.m[k]?=some ob/\ob.c=c)\/∃ fs,tx=.obj c fs):∃ a dx vs,v=.ref a/\H a=some (.ins C dx (ns.zip vs)):=by
 rcases h with ⟨k,ob,rfl,h1,rfl⟩ | ⟨fs,rfl⟩
 ·obtain ⟨a,rfl,ha⟩:=r
  obtain ⟨a',C',dx,Cs,vs,Z⟩:=x.st.at_ k ob h1
  have:=Z.al.symm.trans ha
  cases this
  obtain ⟨rfl,rfl⟩:=Z.cl.eq hC
  exact ⟨a,dx,vs,rfl,Z.h⟩
 ·obtain ⟨a,C',dx,Cs,vs,rfl,hC',hq,_⟩:=r
  obtain ⟨rfl,rfl⟩:=hC'.eq hC
  exact ⟨a,dx,vs,rfl,x.sub _ _ hq⟩
theorem MT {m:Str}{k j:Nat}{gm:Nat->Option Fn}(D:∀ c f,gm c=some f->Wx P X.prog X.w X.K X.mg X.base k c m f) (hr:bP j X.A) (ya:k<=j) (ho:PE X o (tE (P.kt X) fo)) (ha:PA X (e::es) (tA (P.kt X) fl)) (hs:(e::es).all noStar=true) (mc:AM X o m apos (e::es) pos) :
  PE X (.Call (.Attribute o m apos) (e::es) [] pos) (tE (P.kt X) (aP gm fo fl)):=by
 obtain ⟨pl,mc⟩:=mc
 rw [List.all_cons,Bool.and_eq_true] at hs
 refine AL (ι:=Addr × Fn) (C:=fun i=>∃ c fa fd ps ns,fL (P.kt X) c i.1 ns/\gm c=some i.2/\mj X.K i.1/\Meth X.K i.1 m fa/\cV X.prog X.w X.K X.mg X.base jl k fa fd ps (lK (P.kt X) i.2)/\Binds X.K fd ps []/\m ∉ ns)
  (t:=fun i=>uE i.1 m (lK (P.kt X) i.2) [] E0 (tE (P.kt X) fo) (tA (P.kt X) fl)) (fun i ⟨c,fa,fd,ps,ns,hC,_,cl,M,F,hb,_⟩=>CT (pl:=pl) ho cl M F (hr.mono ya) hb .nil jK ha (aK hs.1) (dB hs.2) mc) ?_
 rintro σ H Q ⟨g,s,t,s',x,h,k⟩
 obtain ⟨tx,s1,c,f,ts,s2,m',h1,hc,hf,h3,h4,rfl⟩:=pR h
 obtain ⟨C,fa,fd,ps,ns,hC,cl,M,F,hb,hn⟩:=(D c f hf).ex
 refine ⟨(C,f),⟨c,fa,fd,ps,ns,hC,hf,cl,M,F,hb,hn⟩,g,s,_,s1,x,h1,fun v g1 H1 p1 x1 r1=>?_⟩
 obtain ⟨a,dx,vs,rfl,hi⟩:=AN x1 hC r1 hc
 refine ⟨a,dx,_,rfl,hi,j0 hn,g1,s1,ts,s2,x1,h3,fun us g2 H2 p2 x2 r2=>?_⟩
 show lK _ _ (V.ref a::(us++[])) H2 Q E0
 rw [List.append_nil]
 exact pQ (ts:=tx::ts) x2 ⟨_,us,rfl,r1.mv p2.pre p2.fr,r2⟩ h4 fun v g' H' p3 x3 rv=>k v g' H' ((p1.trans p2).trans p3) x3 rv
theorem FQ {m:Str}{k j:Nat}{gm:Nat->Option Fn}(D:∀ c f,gm c=some f->Wx P X.prog X.w X.K X.mg X.base k c m f) (hr:bP j X.A) (ya:k<=j) (ho:PE X o (tE (P.kt X) fo)) (mc:AM X o m apos [] pos) :
  PE X (.Call (.Attribute o m apos) [] [] pos) (tE (P.kt X) (aP gm fo c_)):=by
 obtain ⟨pl,mc⟩:=mc
 refine AL (ι:=Addr × Fn) (C:=fun i=>∃ c fa fd ps ns,fL (P.kt X) c i.1 ns/\gm c=some i.2/\mj X.K i.1/\Meth X.K i.1 m fa/\cV X.prog X.w X.K X.mg X.base jl k fa fd ps (lK (P.kt X) i.2)/\Binds X.K fd ps []/\m ∉ ns)
  (t:=fun i=>uE i.1 m (lK (P.kt X) i.2) [] E0 (tE (P.kt X) fo) CQ) (fun i ⟨c,fa,fd,ps,ns,hC,_,cl,M,F,hb,_⟩=>yX (pl:=pl) ho cl M F (hr.mono ya) hb .nil jK mc) ?_
 rintro σ H Q ⟨g,s,t,s',x,h,k⟩
 obtain ⟨tx,s1,c,f,ts,s2,m',h1,hc,hf,h3,h4,rfl⟩:=pR h
 cases h3
 obtain ⟨C,fa,fd,ps,ns,hC,cl,M,F,hb,hn⟩:=(D c f hf).ex
 refine ⟨(C,f),⟨c,fa,fd,ps,ns,hC,hf,cl,M,F,hb,hn⟩,g,s,_,s1,x,h1,fun v g1 H1 p1 x1 r1=>?_⟩
 obtain ⟨a,dx,vs,rfl,hi⟩:=AN x1 hC r1 hc
 exact ⟨a,dx,_,rfl,hi,j0 hn,pQ (E:=E0) (ts:=[tx]) (vs:=[.ref a]) x1 (.one r1) h4 fun v g' H' p3 x3 rv=>k v g' H' (p1.trans p3) x3 rv⟩
def spI (C:Addr) (ns:List Str):Sp:=fun vs H Q _=>∃ x dx args,vs=.ref x::args/\args.length=ns.length/\H x=some (.ins C dx [])/\Q .non (upd H x (.ins C dx (ns.zip args)))
structure DnC (P:Pg) (Pr:Program) (w:World) (K:PySem.W.Frag) (mg:Str->Option Value) (base:Heap) (k:Nat) (c n:Nat) (x:Str):Prop where
 ex:∃ (C fi:Addr) (fd:FuncData) (ps:List Str) (ns:List Str),fL (gF P K Pr w) c C ns/\ns.length=n/\mg x=some (.ref C)/\Mk K C fi/\cV Pr w K mg base jl k fi fd ps (spI C ns)/\Binds K fd ps []
theorem uW {B:KT}{c:Nat}{C x dx:Addr}{ns:List Str}{ts:List T}{vs:List V}(X1:SR B g H σ s) (hC:fL B c C ns) (hl:vs.length<=ns.length) (r:aH B g.al g.HF ts vs) (nx:H x=none) (nd:H dx=none) (gA:dx≠x) :
  ∃ gr:Gr g.HF H (upd (upd g.HF dx (.own x)) x (.ins C dx (ns.zip vs))) (upd (upd H dx (.own x)) x (.ins C dx (ns.zip vs))),Rep B g.al (upd (upd g.HF dx (.own x)) x (.ins C dx (ns.zip vs))) (.obj c ts) (.ref x):=by
 have g2:=Gr.new (o:=.own x) X1.sub nd
 have Zs:upd H dx (.own x) x=none:=by rw [ay (Ne.symm gA)];exact nx
 have g3:=Gr.new (o:=.ins C dx (ns.zip vs)) g2.sub Zs
 exact ⟨g2.trans g3,x,C,dx,ns,vs,rfl,hC,aw,hl,by rw [ay gA,aw],r.same (g2.fr.trans g3.fr)⟩
theorem U5 {k j c n:Nat}(D:DnC P X.prog X.w X.K X.mg X.base k c n x) (hr:bP j X.A) (ya:k+1<=j) (ha:PA X (e::es) (tA (P.kt X) fl)) (hg:Gl X x) (jJ:(x == ("__debug__" : Str))=false) (hs:(e::es).all noStar=true) :
  PE X (.Call (.Name x p) (e::es) [] pos) (tE (P.kt X) (cX c n fl)):=by
 obtain ⟨C,f,fd,ps,ns,hC,hn,hm,M,F,hb⟩:=D.ex
 rw [List.all_cons,Bool.and_eq_true] at hs
 refine bj (mq M F (hr.mono ya) hg hm hb .nil jK ha jJ (aK hs.1) (dB hs.2)) fun σ H Q ⟨g,s,t,s',x,h,k⟩=>?_
 obtain ⟨⟨ts,s1⟩,h1,h⟩:=af h
 dsimp only at h
 split at h
 ·rename_i hl
  cases h
  refine ⟨g,s,ts,_,x,h1,fun vs g1 H1 p1 x1 r1 x dx nx nd gA=>?_⟩
  have hvl:vs.length=ns.length:=by rw [<- r1.len,hl,hn]
  refine ⟨x,dx,vs++[],rfl,by rw [List.append_nil,hvl],aw,rfl,?_⟩
  rw [List.append_nil,ux]
  obtain ⟨gr,rp⟩:=uW (c:=c) (ts:=ts) x1 hC (by omega) r1 nx nd gA
  exact k _ (g1.grow _) _ (p1.trans (x1.eL gr)) (x1.grow gr) rp
 ·cases h
section
variable {X:Cx}{x:Str}{p pos:Pos}
structure Mk0 (K:PySem.W.Frag) (C:Addr):Prop where
 makes:PySem.W.makesIn K C=true
 init:PySem.W.findIn K (.ref C) "__init__" = some (some (.builtin "object.__init__"))
 kp:PySem.W.keepIn K (.ref C)=true
def Zt (C:Addr):TE:=fun _ H Q=>∀ x dx,H x=none->H dx=none->dx≠x->Q (.ref x) (upd (upd H dx (.own x)) x (.ins C dx []))
open PySem.W in
theorem MU {C:Addr}(M:Mk0 X.K C) (hg:Gl X x) (hm:X.mg x=some (.ref C)) (jJ:(x == ("__debug__" : Str))=false:=by decide):PE X (.Call (.Name x p) [] [] pos) (Zt C):=by
 intro pins s σ H Q I h
 refine wpAny_Call_Name_kw (gQ I hg hm ?_ jJ)
 refine PySem.W.callWith_K0 I.gO M.kp ?_
 have hq:=h (s.heap.objs.size+1) s.heap.objs.size (I.bU.fresh (Nat.le_succ _)) (I.bU.fresh (Nat.le_refl _)) (Nat.ne_of_lt (Nat.lt_succ_self _))
 have I2:=Inv.made (C:=C) I
 have KX:=I.gO
 obtain ⟨hh,g,d,t,os⟩:=s
 refine wpAny_call ?_
 have Y:=makes_of (M:=model X.prog X.w) KX M.makes
 refine make_core Y (looks_findIn KX M.init) (fun self=>Looks.of_pure (oi_bind self)) (.inr ⟨rfl,rfl⟩) ?_
 have hz:(hh.push emptyDict).objs.size=hh.objs.size+1:=Heap.size_push ..
 have gt:((hh.push emptyDict).push (instObj C hh.objs.size)).get? (hh.objs.size+1)=some (instObj C hh.objs.size):=by
  rw [<- hz]
  exact Heap.get?_push_size _ rfl
 have t1:Looks (model X.prog X.w) ((hh.push emptyDict).push (instObj C hh.objs.size)) (typeOf (.ref (hh.objs.size+1))) (.ref C):=(Looks.ld gt).andThen .now
 have t2:Looks (model X.prog X.w) ((hh.push emptyDict).push (instObj C hh.objs.size)) (isInstance (.ref (hh.objs.size+1)) (.type "object")) true:=t1.andThen (Y.top.keeps fun b o e=>Heap.get?_push_of_some _ (Heap.get?_push_of_some _ e))
 refine codeAny_call_builtin oi_plain entry_oi (@check_slot (model X.prog X.w) _ _ _ "object.__init__" "object" "__init__" (.ref (hh.objs.size+1)) [] [] _ oi_kind oi_split t2 (oi_args (.ref (hh.objs.size+1))) ?_)
 show wpAny _ _ (Builtin.«object.__init__» ⟨[Value.ref (hh.objs.size+1)],[]⟩) _ _ _
 rw [oi_run]
 exact wpAny_pure (And.intro rfl ⟨V.ref (hh.objs.size+1),_,I2,rfl,hq⟩)
end
structure U6 (P:Pg) (Pr:Program) (w:World) (K:PySem.W.Frag) (mg:Str->Option Value) (c:Nat) (x:Str):Prop where
 ex:∃ (C:Addr) (ns:List Str),fL (gF P K Pr w) c C ns/\mg x=some (.ref C)/\Mk0 K C
theorem MV {c:Nat}(D:U6 P X.prog X.w X.K X.mg c x) (hg:Gl X x) (jJ:(x == ("__debug__" : Str))=false):PE X (.Call (.Name x p) [] [] pos) (tE (P.kt X) (cX c 0 c_)):=by
 obtain ⟨C,ns,hC,hm,M⟩:=D.ex
 refine bj (MU M hg hm jJ) fun σ H Q ⟨g,s,t,s',z,h,k⟩=>?_
 cases h
 intro x dx nx nd gA
 obtain ⟨gr,rp⟩:=uW (c:=c) (ts:=[]) (vs:=[]) z hC (Nat.zero_le _) rfl nx nd gA
 have e:ns.zip ([]:List V)=[]:=List.zip_nil_right
 have:=k _ (g.grow _) _ (z.eL gr) (z.grow gr) rp
 rw [e] at this
 exact this
section
variable {B:KT}{X:Cx}{e a b c o tg:Expr}{es:List Expr}{pos p apos cW:Pos}{fa fb fc fo:FE}{fl:FL}{env:Env}{x y:Str}{σ:St}{H H':Hp}{g g':G}{s s':S}
structure Walk (B:KT) (al:List Addr) (J:It) (HF:Hp) (ts:List T):Prop where
 go:∀ i H,aZ HF H->i<ts.length->J.go i H
 yld:∀ i H x H',aZ HF H->i<ts.length->J.yld i H x H'->∃ t,ts[i]?=some t/\∀ s_,aZ HF s_->aZ s_ H->∃ MW,Gr s_ H MW H'/\Rep B al MW t x
 stop:∀ i H,aZ HF H->i=ts.length->J.stop i H
theorem yb {B:KT}{al:List Addr}{HF:Hp}{l:Addr}{ts:List T}{vs:List V}(h:HF l=some (.lst vs)) (r:aH B al HF ts vs):Walk B al (Wl B.K l) HF ts:=by
 refine ⟨fun i H sm hi=>?_,fun i H x H' sm hi y=>?_,fun i H sm hi=>⟨vs,c9.of (sm _ _ h),by rw [hi,r.len];exact Nat.le_refl _⟩⟩
 ·obtain ⟨v,e,_⟩:=r.get (List.getElem?_eq_getElem hi)
  exact ⟨vs,v,c9.of (sm _ _ h),e⟩
 ·obtain ⟨rfl,y⟩:=y
  have e:=y vs (c9.of (sm _ _ h))
  obtain ⟨t,e1,e2⟩:=r.x8 e
  exact ⟨t,e1,fun s_ s1 s2=>⟨s_,.refl s2,e2.same s1⟩⟩
theorem AO {B:KT}{al:List Addr}{HF:Hp}{l:Addr}{ts:List T}{vs:List V}(h:i9 B.K HF l vs) (r:aH B al HF ts vs):Walk B al (W7 B.K l) HF ts:=by
 refine ⟨fun i H sm hi=>?_,fun i H x H' sm hi y=>?_,fun i H sm hi=>⟨vs,bR sm h,by rw [hi,r.len];exact Nat.le_refl _⟩⟩
 ·obtain ⟨v,e,_⟩:=r.get (List.getElem?_eq_getElem hi)
  exact ⟨vs,v,bR sm h,e⟩
 ·obtain ⟨rfl,y⟩:=y
  have e:=y vs (bR sm h)
  obtain ⟨t,e1,e2⟩:=r.x8 e
  exact ⟨t,e1,fun s_ s1 s2=>⟨s_,.refl s2,e2.same s1⟩⟩
theorem j3 {B:KT}{al:List Addr}{J:It}{src:List V}{ts:List T}{HF:Hp}(d:XA J src (fun _=>True)) (r:aH B al HF ts src):Walk B al J HF ts:=by
 refine ⟨fun i H sm hi=>d.go i H trivial (by rw [<- r.len];exact hi),fun i H x H' sm hi y=>?_,fun i H sm hi=>d.stop i H trivial (by rw [<- r.len];exact hi)⟩
 obtain ⟨rfl,e⟩:=d.yld i H x H' trivial (by rw [<- r.len];exact hi) y
 obtain ⟨t,e1,e2⟩:=r.x8 e
 exact ⟨t,e1,fun s_ s1 s2=>⟨s_,.refl s2,e2.same s1⟩⟩
theorem aH.qQ {B:KT}{al:List Addr}{H:Hp}(lo:Int) (n:Nat):aH B al H (D.qQ lo n) ((List.range n).map fun k=>V.int (lo+(k:Nat))):=by
 have e1:D.qQ lo n=((List.range n).map fun k=>lo+((k:Nat):Int)).map T.int:=by unfold D.qQ;rw [List.map_map];rfl
 have e2:((List.range n).map fun k=>V.int (lo+(k:Nat)))=((List.range n).map fun k=>lo+((k:Nat):Int)).map V.int:=by rw [List.map_map];rfl
 rw [e1,e2]
 exact aH.ints _
structure Sets (B:KT) (al:List Addr) (HF:Hp) (S:List Nat) (σ σ':St) (ρ ρ':List (Option C)):Prop where
 len:σ'.length=σ.length
 lenR:ρ'.length=ρ.length
 off:∀ (i:Nat),i ∉ S->σ'[i]?=σ[i]?/\ρ'[i]?=ρ[i]?
 on:∀ (i:Nat),i∈S->i<ρ.length->∃ (t:T) (v:V),ρ'[i]?=some (some (.val t))/\σ'[i]?=some (some v)/\Rep B al HF t v
structure mX (B:KT) (g:TG) (fg:FG) (S:List Nat):Prop where
 ok:∀ (al:List Addr) (HF H:Hp) (σ:St) (ρ:List (Option C)) (t:T) (v:V) (ρ':List (Option C)) (Q:St->Hp->Prop),aZ HF H->Rep B al HF t v->fg t ρ=some ρ'->ρ.length=σ.length->(∀ σ',Sets B al HF S σ σ' ρ ρ'->Q σ' H)->g v σ H Q
theorem Sets.one {B:KT}{al:List Addr}{HF:Hp}{i:Nat}{σ:St}{ρ:List (Option C)}{t:T}{v:V}(hl:ρ.length=σ.length) (r:Rep B al HF t v):Sets B al HF [i] σ (σ.set i (some v)) ρ (ρ.set i (some (.val t))):=by
 refine ⟨List.length_set,List.length_set,fun j hj=>?_,fun j hj dI=>?_⟩
 ·have:i≠j:=fun e=>hj (by simp [e])
  rw [List.getElem?_set_ne this,List.getElem?_set_ne this];exact ⟨rfl,rfl⟩
 ·have:j=i:=by simpa using hj
  subst this
  exact ⟨t,v,by rw [List.getElem?_set_self dI],by rw [List.getElem?_set_self (by omega)],r⟩
theorem uX {B:KT}(i:Nat):mX B (uD i) (setG i) [i]:=⟨fun al HF H σ ρ t v ρ' Q sm r h hl q=>by
 cases h
 exact q _ (.one hl r)⟩
theorem Sets.cons {B:KT}{al:List Addr}{HF:Hp}{i:Nat}{S:List Nat}{σ σ':St}{ρ ρ':List (Option C)}{t:T}{v:V}(hl:ρ.length=σ.length) (r:Rep B al HF t v) (h:Sets B al HF S (σ.set i (some v)) σ' (ρ.set i (some (.val t))) ρ'):Sets B al HF (i::S) σ σ' ρ ρ':=by
 have o:=Sets.one (B:=B) (al:=al) (i:=i) hl r
 refine ⟨h.len.trans o.len,h.lenR.trans o.lenR,fun j hj=>?_,fun j hj dI=>?_⟩
 ·obtain ⟨h1,h2⟩:=h.off j (fun z=>hj (by simp [z]))
  obtain ⟨h3,h4⟩:=o.off j (fun z=>hj (by simp at z;simp [z]))
  exact ⟨h1.trans h3,h2.trans h4⟩
 ·by_cases hs:j∈S
  ·exact h.on j hs (by rw [List.length_set];exact dI)
  ·obtain ⟨h1,h2⟩:=h.off j hs
   obtain ⟨t',v',a,b,c⟩:=o.on j (by rcases List.mem_cons.mp hj with z | z;exact (by simp [z]);exact absurd z hs) dI
   exact ⟨t',v',h2.trans a,h1.trans b,c⟩
def j4:List Nat->GZ
 | []=>OS
 | i::is=>G0 (uD i) (j4 is)
theorem lL {B:KT}{al:List Addr}:∀ (is:List Nat) (HF H:Hp) (σ:St) (ρ:List (Option C)) (ts:List T) (vs:List V) (ρ':List (Option C)) (Q:St->Hp->Prop),aZ HF H->aH B al HF ts vs->uL is ts ρ=some ρ'->ρ.length=σ.length->(∀ σ',Sets B al HF is σ σ' ρ ρ'->Q σ' H)->j4 is vs σ H Q
 | [],HF,H,σ,ρ,ts,vs,ρ',Q,sm,r,h,hl,q=>by
  cases ts with
  | cons t ts=>cases h
  | nil=>
   cases h
   cases (show vs=[] from r)
   exact ⟨rfl,q _ ⟨rfl,rfl,fun _ _=>⟨rfl,rfl⟩,fun i hi=>by cases hi⟩⟩
 | i::is,HF,H,σ,ρ,ts,vs,ρ',Q,sm,r,h,hl,q=>by
  cases ts with
  | nil=>cases h
  | cons t ts=>
   obtain ⟨v,fh,rfl,r1,r2⟩:=r
   refine ⟨v,fh,rfl,?_⟩
   exact lL is HF H _ _ ts fh ρ' Q sm r2 h (by rw [List.length_set,List.length_set];exact hl) fun σ' s=>q σ' (.cons hl r1 s)
theorem AQ {B:KT}(is:List Nat) {n:Nat}(hn:is.length=n:=by rfl):mX B (Je B.K n (j4 is)) (dU is) is:=⟨fun al HF H σ ρ t v ρ' Q sm r h hl q=>by
 cases t<;>first | (cases h;done) | skip
 ·rename_i ts
  obtain ⟨a,vs,rfl,q1,r⟩:=r
  have hlen:∀ (is:List Nat) (ts:List T) (ρ:List (Option C)),uL is ts ρ=some ρ'->is.length=ts.length:=by
   intro is
   induction is with
   | nil=>intro ts ρ h;cases ts with
    | nil=>rfl
    | cons=>cases h
   | cons i is ih=>intro ts ρ h;cases ts with
    | nil=>cases h
    | cons t ts=>simp [ih ts _ h]
  exact ⟨a,vs,rfl,bR sm q1,by rw [<- r.len,<- hlen _ _ _ h,hn],lL is HF H σ ρ ts vs ρ' Q sm r h hl q⟩
⟩
theorem Walk.mv {al Ct:List Addr}{J:It}{HF eG:Hp}{ts:List T}(w:Walk B al J HF ts) (p:al <+: Ct) (s:aZ HF eG):Walk B Ct J eG ts:=
 ⟨fun i H h=>w.go i H (s.trans h),fun i H x H' h hi y=>let ⟨t,h1,h2⟩:=w.yld i H x H' (s.trans h) hi y;⟨t,h1,fun s_ s1 s2=>let ⟨MW,gr,r⟩:=h2 s_ (s.trans s1) s2;⟨MW,gr,r.mv p (aZ.refl _)⟩⟩,fun i H h=>w.stop i H (s.trans h)⟩
def tI (B:KT) (f:FL):TI:=fun σ H R=>∃ g s ts s',SR B g H σ s/\f s=.ok (ts,s')/\∀ J g' H',dW g H g' H'->SR B g' H' σ s'->Walk B g'.al J g'.HF ts->R J H'
theorem uY:PI X tg e (tI B g8):=fun _ _ _ _ _ _ ⟨_,_,_,_,_,h,_⟩=>by cases h
theorem Ii {t t':TI}(h:PI X tg e t) (h':PI X tg e t'):PI X tg e (fun σ H R=>t σ H R\/t' σ H R):=fun pins s σ H R I q=>by
 rcases q with q | q
 ·exact h pins s σ H R I q
 ·exact h' pins s σ H R I q
def MX:T->Bool
 | .str _=>false
 | _=>true
def MY:T->Option (List T)
 | .str _=>none
 | t=>YZ t
def FU (a:FE):FL:=fun s=>(a s).bind fun p=>(dh (MY p.1)).bind fun ts=>.ok (ts,p.2)
theorem yc {al:List Addr}{HF:Hp}{a:Addr}{ns:List Int}(h:c9 B.K HF a (ns.map V.int)):Walk B al (Wl B.K a) HF (ns.map T.int):=by
 refine ⟨fun i H sm hi=>?_,fun i H x H' sm hi y=>?_,fun i H sm hi=>⟨_,sm.seq h,by rw [hi,List.length_map,List.length_map];exact Nat.le_refl _⟩⟩
 ·rw [List.length_map] at hi
  exact ⟨_,.int ns[i],sm.seq h,by rw [List.getElem?_map,List.getElem?_eq_getElem hi];rfl⟩
 ·rw [List.length_map] at hi
  obtain ⟨rfl,y⟩:=y
  have e:=y _ (sm.seq h)
  obtain ⟨t,e1,e2⟩:=(aH.ints (B:=B) (al:=al) (H:=HF) ns).x8 e
  exact ⟨t,e1,fun s_ s1 s2=>⟨s_,.refl s2,e2.same s1⟩⟩
theorem Ij (hB:B.K=X.K) (ha:PE X e (tE B fa)):PI X tg e (tI B (FU fa)):=by
 refine lG (Ii (CI ha) (Jj ha)) fun σ H R ⟨g,s,t,s',x,h,k⟩=>?_
 obtain ⟨⟨tx,s1⟩,h1,h⟩:=af h
 obtain ⟨ts,h2,h⟩:=af h
 cases h
 have h2:=aF h2
 have Zu:=hB.symm
 cases tx<;>first | (cases h2;done) | skip
 ·cases h2
  refine .inr ⟨g,s,_,_,x,h1,fun v g1 H1 p1 x1 r1=>?_⟩
  obtain ⟨l,vs,rfl,q,r⟩:=r1
  refine ⟨l,rfl,⟨vs,hB ▸ bR x1.sub q⟩,?_⟩
  rw [Zu]
  exact k _ g1 H1 p1 x1 (AO q r)
 ·cases h2
  refine .inl ⟨g,s,_,_,x,h1,fun v g1 H1 p1 x1 r1=>?_⟩
  obtain ⟨l,vs,rfl,q,r⟩:=r1
  refine ⟨l,rfl,⟨vs,c9.of (x1.sub _ _ q)⟩,?_⟩
  rw [Zu]
  exact k _ g1 H1 p1 x1 (yb q r)
 ·cases h2
  refine .inl ⟨g,s,_,_,x,h1,fun v g1 H1 p1 x1 r1=>?_⟩
  obtain ⟨l,rfl,q⟩:=r1
  refine ⟨l,rfl,⟨_,hB ▸ x1.sub.seq q⟩,?_⟩
  rw [Zu]
  exact k _ g1 H1 p1 x1 (yc q)
theorem U7 (hB:B.K=X.K) {px:Pos}(ha:PE X e (tE B fa)):PI X (.Name x px) e (tI B (lF fa)):=by
 refine lG (Ii (Ij hB ha) (JI ha)) fun σ H R ⟨g,s,t,s',z,h,k⟩=>?_
 obtain ⟨⟨tx,s1⟩,h1,h⟩:=af h
 obtain ⟨ts,h2,h⟩:=af h
 cases h
 by_cases hs:MX tx=true
 ·refine .inl ⟨g,s,t,_,z,?_,k⟩
  unfold FU
  rw [h1]
  show (dh (MY tx)).bind _=_
  have e:MY tx=YZ tx:=by cases tx<;>first | rfl | (cases hs)
  rw [e,h2];rfl
 ·cases tx<;>first | (exact absurd rfl hs) | skip
  have h2:=aF h2
  cases h2
  refine .inr ⟨g,s,_,_,z,h1,fun v g1 H1 p1 x1 r1=>?_⟩
  obtain ⟨rfl,hz⟩:=r1
  exact ⟨_,rfl,k _ g1 H1 p1 x1 (j3 (De _) (aH.signs _))⟩
theorem AR (hg:Gl X "range") (hm:X.mg "range" = none) (ha:PE X a (tE B fa)) (hs:noStar a=true):PI X tg (.Call (.Name "range" p) [a] [] pos) (tI B (sU g9 (cM fa c_))):=by
 have h0:starEach [a] X.env=[(false,eval a X.env)]:=aK hs
 refine lG (v8 hg hm (bQ ha dD h0) h0) fun σ H R ⟨g,s,t,s',x,h,k⟩=>?_
 obtain ⟨⟨ts,s1⟩,h1,h⟩:=af h
 obtain ⟨us,h2,h⟩:=af h
 cases h
 obtain ⟨⟨tx,s2⟩,h3,h1⟩:=af h1
 cases h1
 have h2:=aF h2
 cases tx<;>first | (cases h2;done) | skip
 obtain ⟨z,rfl⟩:=bF h2
 refine ⟨g,s,_,_,x,h3,fun v g1 H1 p1 x1 r1=>?_⟩
 cases r1
 exact ⟨_,rfl,by omega,by omega,k _ g1 H1 p1 x1 (j3 (lC 0 _) (aH.qQ 0 _))⟩
theorem AS (hg:Gl X "range") (hm:X.mg "range" = none) (ha:PE X a (tE B fa)) (hb:PE X b (tE B fb)) (hs:noStar a=true) (zf:noStar b=true):PI X tg (.Call (.Name "range" p) [a,b] [] pos) (tI B (sU g9 (cM fa (cM fb c_)))):=by
 have h0:starEach [b] X.env=[(false,eval b X.env)]:=aK zf
 have h00:starEach [a,b] X.env=[(false,eval a X.env),(false,eval b X.env)]:=by rw [aK hs,h0]
 refine lG (v9 hg hm (bQ ha (bQ hb dD h0) (by rw [h00,h0])) h00 h0) fun σ H R ⟨g,s,t,s',x,h,k⟩=>?_
 obtain ⟨⟨ts,s1⟩,h1,h⟩:=af h
 obtain ⟨us,h2,h⟩:=af h
 cases h
 obtain ⟨⟨tx,s2⟩,h3,h1⟩:=af h1
 obtain ⟨⟨ty,s3⟩,h4,h1⟩:=af h1
 cases h1
 obtain ⟨⟨tz,s4⟩,h5,h4⟩:=af h4
 cases h4
 have h2:=aF h2
 cases tx<;>first | (cases h2;done) | (cases tz<;>first | (cases h2;done) | skip)
 obtain ⟨z,rfl⟩:=bF h2
 refine ⟨g,s,_,_,x,h3,fun v g1 H1 p1 x1 r1=>⟨g1,_,_,_,x1,h5,fun w g2 H2 p2 x2 r2=>?_⟩⟩
 cases r1
 cases r2
 exact ⟨_,_,rfl,⟨by omega,by omega,by omega,by omega⟩,k _ g2 H2 (p1.trans p2) x2 (j3 (lC _ _) (aH.qQ _ _))⟩
theorem jU.sets {al:List Addr}{S':List Nat}{σ':St}{r r':List (Option C)}(x:jU B g H σ r) (hal:al=g.al) (t:Sets B al g.HF S' σ σ' r r'):jU B g H σ' r':=by
 subst hal
 refine ⟨by rw [t.lenR,t.len];exact x.len,fun i c h=>?_⟩
 by_cases hi:i∈S'
 ·have dI:i<r.length:=by rw [<- t.lenR];exact (List.getElem?_eq_some_iff.mp h).1
  obtain ⟨u,v,h1,h2,h3⟩:=t.on i hi dI
  rw [h] at h1;cases h1
  exact ⟨v,h2,h3⟩
 ·obtain ⟨h1,h2⟩:=t.off i hi
  rw [h2] at h
  obtain ⟨v,h3,h4⟩:=x.at_ i c h
  exact ⟨v,h1.trans h3,h4⟩
end
theorem tm {B:KT}{al:List Addr}{HF:Hp}{S:List Nat}{σ':St}{ρ ρ':List (Option C)}{k:Nat}{js:List Nat}{σ:St}(hS:∀ i∈S,i<k) (s:Sets B al HF S (cj k js σ) σ' ρ ρ'):cJ (cj k js σ) σ':=by
 have gen:∀ (a b:St),a.length=b.length->(∀ (i:Nat) (v:V),a[i]?=some (some v)->b[i]?=some (some v))->cJ a b:=by
  intro a
  induction a with
  | nil=>intro b hl _;cases b with
   | nil=>trivial
   | cons=>cases hl
  | cons x a ih=>intro b hl h;cases b with
   | nil=>cases hl
   | cons y b=>
    have hr:=ih b (by simpa using hl) fun i v e=>by simpa using h (i+1) v (by simpa using e)
    cases x with
    | none=>exact hr
    | some v=>
     have:=h 0 v rfl
     simp at this
     subst this
     exact ⟨rfl,hr⟩
 refine gen _ _ s.len.symm fun i v e=>?_
 by_cases hi:i∈S
 ·have hk:=hS i hi
  unfold cj at e
  rw [List.getElem?_append_left (by rw [List.length_replicate];exact hk),List.getElem?_replicate,if_pos hk] at e
  cases e
 ·rw [(s.off i hi).1];exact e
section
variable {B:KT}{X:Cx}{scope:Scope}{ls fs:List Str}{js:List Nat}{tg iter elt:Expr}{ifs:List Expr}{pos:Pos}{gt:TG}{qV:FL}{fg:FG}{ft:FT}{fe:FE}{S':List Nat}{σ:St}{H H':Hp}{g g':G}{s s':S}
theorem SR.jm:∀ (js:List Nat) {g:G}{s:S},SR B g H σ s->∃ g',dW g H g' H/\SR B g' H σ { s with r:=jm js s.r }
 | [],g,s,x=>⟨g,.refl,x⟩
 | j::js,g,s,x=>by
  show ∃ g',dW g H g' H/\SR B g' H σ { s with r:=D.jm js (Ff s.r j) }
  have one:∃ g1,dW g H g1 H/\SR B g1 H σ { s with r:=Ff s.r j }:=by
   unfold Ff
   split
   ·rename_i ts h
    obtain ⟨g1,v,p,y,_⟩:=x.iE h
    exact ⟨g1,p,y⟩
   ·exact ⟨g,.refl,x⟩
  obtain ⟨g1,p1,x1⟩:=one
  obtain ⟨g2,p2,x2⟩:=SR.jm js x1
  exact ⟨g2,p1.trans p2,x2⟩
theorem jU.block {r:List (Option C)}(x:jU B g H σ r) (k:Nat) (js:List Nat):jU B g.ao H (cj k js σ) (iK k js r):=by
 refine ⟨by unfold iK cj;simp,fun i c h=>?_⟩
 unfold iK at h
 unfold cj
 by_cases hi:i<k
 ·rw [List.getElem?_append_left (by simpa using hi),List.getElem?_replicate,if_pos hi] at h
  cases h
 ·rw [List.getElem?_append_right (by simpa using hi),List.length_replicate,List.getElem?_map] at h
  rw [List.getElem?_append_right (by simpa using hi),List.length_replicate,List.getElem?_map]
  cases hj:js[i-k]? with
  | none=>rw [hj] at h;cases h
  | some j=>
   rw [hj] at h
   have h:(match r[j]? with | some (some (.val t))=>some (C.val t) | _=>none)=some c:=by injection h
   split at h
   ·rename_i t hr
    cases h
    obtain ⟨v,h1,h2⟩:=x.at_ j _ hr
    exact ⟨v,by show some ((σ[j]?).join)=_;rw [h1];rfl,h2⟩
   ·cases h
theorem SR.MZ {D:Addr}{u:HO}(x:SR B g H σ s) (hf:g.HF D=none) (ho:g.o D=none) (hl:∃ w,H D=some w):SR B g (upd H D u) σ s:=by
 have ne:∀ b p,g.o b=some p->b≠D:=fun b p e z=>by rw [z,ho] at e;cases e
 refine ⟨x.st.mv (fun b w e=>?_) (fun b p e=>?_) (aZ.refl _) rfl fun l p h _=>⟨h,ay (ne l p h)⟩,x.lc.len,fun i c e=>?_⟩
 ·have:b≠D:=fun z=>by rw [z,hf] at e;cases e
  rw [ay this];exact x.sub _ _ e
 ·obtain ⟨h1,w,h2⟩:=x.st.live b p e
  exact ⟨h1,w,by rw [ay (ne b p e)];exact h2⟩
 ·obtain ⟨v,h1,h2⟩:=x.lc.at_ i c e
  exact ⟨v,h1,bO.mv (g:=g) (g':=g) (aZ.refl _) List.prefix_rfl (fun l h=>⟨h,ay (ne l _ h)⟩) h2⟩
theorem dW.MZ {D:Addr}{u:HO}{g1:G}{H1:Hp}(p:dW g H g1 H1) (h0:H D=none):dW g H g1 (upd H1 D u):=
 ⟨p.fr,p.pre,fun b w h n z=>by
  have:b≠D:=aT h h0
  rw [ay this];exact p.rest b w h n z,fun b h=>by
  by_cases hb:b=D
  ·subst hb;exact h0
  ·rw [ay hb] at h;exact p.there b h⟩
theorem U8:Cp X [] (tT B dE):=fun pins s σ H Q I ⟨g,st,t,s',x,h,k⟩=>by
 cases h
 exact C_ pins s σ H Q I (k g H .refl x)
theorem U9 {c:Expr}(h:PT X c (tT B ft)):Cp X [c] (tT B ft):=Dc h
theorem tu {k:Nat}(Cu:mX B gt fg S') (hS:∀ i∈S',i<k):∀ σ H Q,tO B (bN qV k js fg ft fe) σ H Q->tComp (tI B qV) k js gt (tT B ft) (tE B fe) σ H Q:=by
 rintro σ H Q ⟨g,s,ys,s',x,h,kk⟩
 obtain ⟨⟨xs,s1⟩,h1,h⟩:=af h
 dsimp only at h
 split at h
 case isFalse=>cases h
 rename_i hz
 obtain ⟨⟨rs,mm⟩,h2,h⟩:=af h
 cases h
 unfold tComp
 refine ⟨g,s,xs,s1,x,h1,fun J g1 H1 p1 x1 wk D hD=>?_⟩
 obtain ⟨g2,p2,x2⟩:=x1.jm js
 have wk:=wk.mv p2.pre p2.fr
 obtain ⟨b,hb⟩:∃ b,b=iK k js (_root_.D.jm js s1.r):=⟨_,rfl⟩
 rw [<- hb] at h2
 have p12:=p1.trans p2
 have hD0:H D=none:=p12.there D hD
 have nD:∀ {gg:G} {ss:S},SR B gg H1 σ ss->gg.HF D=none/\gg.o D=none:=fun {gg ss} x=>⟨x.sub.free hD,by
  cases q:gg.o D with
  | none=>rfl
  | some p=>obtain ⟨_,u,z⟩:=x.st.live D p q;rw [hD] at z;cases z⟩
 obtain ⟨f2,o2⟩:=nD x2
 obtain ⟨gr0,_,_⟩:=Ab (u:=.lst []) x2 hD
 refine ⟨fun i m zs H2=>m=xs.length-i/\i<=xs.length/\∃ g3 m3 done rest,dW g2 H1 g3 H2/\SR B g3 H2 σ ⟨_root_.D.jm js s1.r,m3⟩/\g3.HF D=none/\g3.o D=none/\H2 D=some (.lst zs)/\aH B g3.al g3.HF done zs/\done.length<=i/\du fg ft fe b (xs.drop i) m3=.ok (rest,mm)/\rs=done++rest,
  ⟨xs.length,by simp,Nat.zero_le _,g2.grow g2.HF,s1.m,[],rs,x2.eL gr0,x2.grow gr0,f2,o2,aw,rfl,Nat.le_refl _,by rw [List.drop_zero];exact h2,rfl⟩,?_⟩
 rintro i m zs H2 ⟨rfl,hi,g3,m3,done,rest,p3,x3,f3,o3,hl,rd,hdn,hr,rfl⟩
 by_cases dI:i<xs.length
 ·have sm3:=p3.fr.trans x3.sub
  refine .inr ⟨wk.go i H2 sm3 dI,fun v H3 y=>?_⟩
  obtain ⟨t,ht,y2⟩:=wk.yld i H2 v H3 sm3 dI y
  obtain ⟨U_,M0,rx⟩:=y2 g3.HF p3.fr x3.sub
  have Va:xs.drop i=t::xs.drop (i+1):=by
   obtain ⟨hh,e⟩:=List.getElem?_eq_some_iff.mp ht
   rw [List.drop_eq_getElem_cons hh,e]
  rw [Va] at hr
  obtain ⟨b1,q1,hr⟩:=af hr
  obtain ⟨⟨c,s5⟩,q2,hr⟩:=af hr
  have x4:=x3.grow M0
  have p4:=p3.trans (x3.eL M0)
  obtain ⟨hl4,f4⟩:=M0.rest D _ hl f3
  have eb:=x4.lc.block k js
  rw [<- hb] at eb
  refine Cu.ok g3.al U_ H3 _ _ t v b1 _ x4.sub (rx.mv p3.pre (aZ.refl _)) (aF q1) eb.len fun σ5 CJ=>⟨tm hS CJ,?_⟩
  have xb:SR B (g3.grow U_).ao H3 σ5 ⟨b1,m3⟩:=⟨x4.st.ao,eb.sets rfl CJ⟩
  refine ⟨(g3.grow U_).ao,⟨b1,m3⟩,c,s5,xb,q2,fun g6 H6 p6 x6=>?_⟩
  cases c with
  | true=>
   obtain ⟨⟨y',s7⟩,q3,hr⟩:=af hr
   obtain ⟨⟨ys',m8⟩,q4,hr⟩:=af hr
   cases hr
   refine oz ⟨g6,s5,y',s7,x6,q3,fun v7 g7 H7 p7 x7 r7=>?_⟩
   obtain ⟨pB,xB⟩:=x4.back (p6.trans p7) x7.st
   have p8:=p4.trans pB
   obtain ⟨Wy,f7,o7⟩:=(x3.eL M0 |>.trans pB).rest D _ hl f3 o3
   have hzl:zs.length<sizeLine:=by rw [<- rd.len,sizeLine_eq];omega
   refine ⟨Wy,hzl,xs.length-(i+1),by omega,rfl,dI,G.back (g3.grow U_) g7,s7.m,done++[y'],ys',p8.MZ hD,xB.MZ f7 o7 ⟨_,Wy⟩,f7,o7,aw,?_,by simp;omega,q4,by simp⟩
   have st:=(x3.eL M0).trans pB
   exact (rd.mv st.pre st.fr).app (.one r7)
  | false=>
   obtain ⟨pB,xB⟩:=x4.back p6 x6.st
   obtain ⟨Wy,f7,o7⟩:=(x3.eL M0 |>.trans pB).rest D _ hl f3 o3
   have st:=(x3.eL M0).trans pB
   exact ow ⟨xs.length-(i+1),by omega,rfl,dI,G.back (g3.grow U_) g6,s5.m,done,rest,p4.trans pB,xB,f7,o7,Wy,rd.mv st.pre st.fr,by omega,hr,rfl⟩
 ·have e:i=xs.length:=by omega
  subst e
  rw [List.drop_length] at hr
  cases hr
  rw [List.append_nil] at kk
  exact .inl ⟨wk.stop _ H2 (p3.fr.trans x3.sub) rfl,kk D zs g3 H2 (p12.trans p3) x3 hD0 f3 o3 hl rd⟩
theorem M1 (ls:List Str) (hc:X.calm=true) (Sc:eA X scope) (F:dR X scope js fs) (hi:PI X tg iter (tI B qV)) (hg:∀ cl C fp s H,PG (X.block (ls++fs) scope cl C fp s H) tg gt) (Cu:mX B gt fg S')
  (ht:∀ cl C fp s H,Cp (X.block (ls++fs) scope cl C fp s H) ifs (tT B ft)) (he:∀ cl C fp s H,PE (X.block (ls++fs) scope cl C fp s H) elt (tE B fe))
  (hS:∀ i∈S',i<ls.length) (hs:∀ x,foldedSetIterable iter X.env x=pure x):PE X (.ListComp elt [⟨tg,iter,ifs,0⟩] scope pos) (tO B (bN qV ls.length js fg ft fe)):=
 bj (Dd ls hc Sc F hi hg ht he hs) (tu Cu hS)
end
def AU (B:KT) (g:G) (H:Hp) (D:Ends):Out->S->Prop
 | .nx,s'=>∀ σ' g' H',dW g H g' H'->SR B g' H' σ' s'->D.nx σ' H'
 | .rt t,s'=>∀ v g' H',dW g H g' H'->eT B g' H' s'.m->Rep B g'.al g'.HF t v->D.rt v H'
 | .bk,s'=>∀ σ' g' H',dW g H g' H'->SR B g' H' σ' s'->D.bk σ' H'
 | .ct,s'=>∀ σ' g' H',dW g H g' H'->SR B g' H' σ' s'->D.ct σ' H'
def tS (B:KT) (f:FS):TS:=fun D σ H=>∃ g s o s',SR B g H σ s/\f s=.ok (o,s')/\AU B g H D o s'
section
variable {B:KT}{X:Cx}{e a b c o tg:Expr}{es:List Expr}{pos pos' p apos cW JH:Pos}{fa fb fc fo:FE}{fl:FL}{ft:FT}{env:Env}{x y:Str}{σ:St}{H H' H1:Hp}{g g' g1:G}{s s':S}{F Gf:FS}{st:Stmt}{rest M3:List Stmt}{i:Nat}
theorem AU.mv {D:Ends}{o:Out}(k:AU B g H D o s') (p:dW g H g1 H1):AU B g1 H1 D o s':=by
 cases o with
 | nx=>exact fun σ' g' H' q x=>k σ' g' H' (p.trans q) x
 | rt t=>exact fun v g' H' q x r=>k v g' H' (p.trans q) x r
 | bk=>exact fun σ' g' H' q x=>k σ' g' H' (p.trans q) x
 | ct=>exact fun σ' g' H' q x=>k σ' g' H' (p.trans q) x
theorem Vb:gP X M3 (tS B cz):=fun _ _ _ _ _ _ ⟨_,_,_,_,_,h,_⟩=>by cases h
theorem dC:PS X st (tS B cz):=fun _ _ _ _ _ _ ⟨_,_,_,_,_,h,_⟩=>by cases h
theorem Vc:gP X [] (tS B av):=Ae uA fun D σ H ⟨g,s,o,s',x,h,k⟩=>by
 cases h
 exact k σ g H .refl x
theorem M4 (h1:PS X st (tS B F)) (h2:gP X rest (tS B Gf)):gP X (st::rest) (tS B (ah F Gf)):=Ae (n8 h1 h2) fun D σ H ⟨g,s,o,s',x,h,k⟩=>by
 obtain ⟨⟨o1,s1⟩,e1,h⟩:=af h
 refine ⟨g,s,o1,s1,x,e1,?_⟩
 cases o1 with
 | nx=>exact fun σ1 g1 H1 p1 x1=>⟨g1,s1,o,s',x1,h,k.mv p1⟩
 | rt t=>cases h;exact k
 | bk=>cases h;exact k
 | ct=>cases h;exact k
theorem Vd (h:PS X st (tS B F)):gP X [st] (tS B F):=uB h
theorem M5:PS X (.Pass pos) (tS B av):=df CF fun D σ H ⟨g,s,o,s',x,h,k⟩=>by
 cases h
 exact k σ g H .refl x
theorem FW:PS X (.Break pos) (tS B Ur):=df yL fun D σ H ⟨g,s,o,s',x,h,k⟩=>by
 cases h
 exact k σ g H .refl x
theorem M6:PS X (.Continue pos) (tS B Us):=df n_ fun D σ H ⟨g,s,o,s',x,h,k⟩=>by
 cases h
 exact k σ g H .refl x
theorem Ik (hN:X.N.Nodup) (hi:X.N[i]?=some x) (hx:Loc X.env.scope x) (he:PE X e (tE B fa)) (hs:swapsWith e (some (.Name x pos')) pos.line X.env=pure false) (hf:X.fn x=true\/X.env.scope.names.lookup x=some .local) :
  PS X (.Assign [.Name x pos'] e pos) (tS B (aE i fa)):=df (qW hN hi hx he hs hf) fun D σ H ⟨g,s,o,s',x,h,k⟩=>by
 obtain ⟨⟨t,s1⟩,e1,h⟩:=af h
 cases h
 exact ⟨g,s,t,s1,x,e1,fun v g1 H1 p1 x1 r1=>k _ g1 H1 p1 (x1.set r1)⟩
theorem uZ {D:Ends}{ts:List T}{s1:S}(k:AU B g H D .nx (ju s1 i (.ol ts))) {l:Addr}{vs:List V}(p1:dW g H g1 H1) (x1:SR B g1 H1 σ s1) (h0:H l=none) (n1:g1.HF l=none) (n2:g1.o l=none) (hl:H1 l=some (.lst vs)) (r:aH B g1.al g1.HF ts vs):D.nx (σ.set i (some (.ref l))) H1:=by
 refine k _ (g1.own l (.loc i)) H1 ⟨p1.fr,p1.pre,fun b u h n z=>?_,p1.there⟩ (x1.own n2 n1 hl r)
 obtain ⟨a,b',c⟩:=p1.rest b u h n z
 have:b≠l:=aT h h0
 exact ⟨a,b',by show (if b=l then some (iM.loc i) else g1.o b)=none;rw [if_neg this];exact c⟩
theorem Il (hN:X.N.Nodup) (hi:X.N[i]?=some x) (hx:Loc X.env.scope x) (he:PE X e (tO B fl)) (hs:swapsWith e (some (.Name x pos')) pos.line X.env=pure false) (hf:X.fn x=true\/X.env.scope.names.lookup x=some .local) :
  PS X (.Assign [.Name x pos'] e pos) (tS B (pI i fl)):=df (qW hN hi hx he hs hf) fun D σ H ⟨g,s,o,s',x,h,k⟩=>by
 obtain ⟨⟨ts,s1⟩,e1,h⟩:=af h
 cases h
 exact ⟨g,s,ts,s1,x,e1,fun l vs g1 H1 p1 x1 h0 n1 n2 hl r=>uZ k p1 x1 h0 n1 n2 hl r⟩
section
variable {scope:Scope}{ls fs:List Str}{js:List Nat}{iter elt:Expr}{ifs:List Expr}{gt:TG}{qV:FL}{fg:FG}{fe:FE}{S':List Nat}
theorem M7 (ls:List Str) (hc:X.calm=true) (hN:X.N.Nodup) (hi:X.N[i]?=some x) (hx:Loc X.env.scope x) (Sc:eA X scope) (Fr:dR X scope js fs) (hit:PI X tg iter (tI B qV)) (hg:∀ cl C fp s H,PG (X.block (ls++fs) scope cl C fp s H) tg gt) (Cu:mX B gt fg S')
  (ht:∀ cl C fp s H,Cp (X.block (ls++fs) scope cl C fp s H) ifs (tT B ft)) (he:∀ cl C fp s H,PE (X.block (ls++fs) scope cl C fp s H) elt (tE B fe))
  (hS:∀ i∈S',i<ls.length) (hs:∀ x,foldedSetIterable iter X.env x=pure x) (hf:X.fn x=true\/X.env.scope.names.lookup x=some .local)
  (Ws:swapsWith (.ListComp elt [⟨tg,iter,ifs,0⟩] scope cW) (some (.Name x pos')) pos.line X.env=pure true) :
  PS X (.Assign [.Name x pos'] (.ListComp elt [⟨tg,iter,ifs,0⟩] scope cW) pos) (tS B (pI i (bN qV ls.length js fg ft fe))) /\
  PS X (.Assign [.Name x pos'] (.ListComp elt [⟨tg,iter,ifs,0⟩] scope cW) pos) (tS B (aE i (dc (bN qV ls.length js fg ft fe)))):=by
 constructor
 ·refine df (uI ls hc hN hi hx Sc Fr hit hg ht he hs hf Ws) fun D σ H ⟨g,s,o,s',x,h,k⟩=>?_
  obtain ⟨⟨ts,s1⟩,e1,h⟩:=af h
  cases h
  exact tu Cu hS σ H _ ⟨g,s,ts,s1,x,e1,fun l vs g1 H1 p1 x1 h0 n1 n2 hl r=>uZ k p1 x1 h0 n1 n2 hl r⟩
 ·refine df (uI ls hc hN hi hx Sc Fr hit hg ht he hs hf Ws) fun D σ H ⟨g,s,o,s',x,h,k⟩=>?_
  obtain ⟨⟨t,s2⟩,e0,h⟩:=af h
  obtain ⟨⟨ts,s1⟩,e1,e0⟩:=af e0
  cases e0
  cases h
  exact tu Cu hS σ H _ ⟨g,s,ts,s1,x,e1,fun l vs g1 H1 p1 x1 h0 n1 n2 hl r=>k _ (g1.grow (upd g1.HF l (.lst vs))) H1 (p1.Ai h0 n1) ((x1.Ai n1 n2 hl).set (t:=.lst ts) ⟨l,vs,rfl,aw,r.same (bw n1)⟩)⟩
end
theorem Ve {gt:TG}{fg:FG}{S':List Nat}(he:PE X e (tE B fa)) (hg:PG X tg gt) (Cu:mX B gt fg S') (hs:swapsWithSole [tg] e pos.line X.env=pure false) (hw:swappedStores [tg] e X.env=pure none)
  (h1:(assignEach [tg] X.env).map (·.2)=[assign tg X.env]):PS X (.Assign [tg] e pos) (tS B (mJ fg fa)):=df (Jf he hg hs hw h1) fun D σ H ⟨g,s,o,s',x,h,k⟩=>by
 obtain ⟨⟨t,s1⟩,e1,h⟩:=af h
 obtain ⟨r',e2,h⟩:=af h
 cases h
 exact ⟨g,s,t,s1,x,e1,fun v g1 H1 p1 x1 r1=>Cu.ok g1.al g1.HF H1 σ s1.r t v r' _ x1.sub r1 (aF e2) x1.lc.len fun σ' st=>k σ' g1 H1 p1 ⟨x1.st,x1.lc.sets rfl st⟩⟩
theorem Vg (he:PE X e (tE B fa)):PS X (.Return (some e) pos) (tS B (ak fa)):=df (Jd he) fun D σ H ⟨g,s,o,s',x,h,k⟩=>by
 obtain ⟨⟨t,s1⟩,e1,h⟩:=af h
 cases h
 exact ⟨g,s,t,s1,x,e1,fun v g1 H1 p1 x1 r1=>k v g1 H1 p1 x1.st r1⟩
theorem M8:PS X (.Return none pos) (tS B (ak (cF .non))):=df CG fun D σ H ⟨g,s,o,s',x,h,k⟩=>by
 cases h
 exact k _ g H .refl x.st rfl
theorem M9 (he:PE X e (tE B fa)) (hs:swapsWith e none pos.line X.env=pure false):PS X (.Expr e pos) (tS B (cQ fa)):=df (uC he hs) fun D σ H ⟨g,s,o,s',x,h,k⟩=>by
 obtain ⟨⟨t,s1⟩,e1,h⟩:=af h
 cases h
 exact ⟨g,s,t,s1,x,e1,fun v g1 H1 p1 x1 r1=>k σ g1 H1 p1 x1⟩
theorem Zv {A A':List Stmt}(hc:PT X c (tT B ft)) (ha:gP X A (tS B F)) (hb:gP X A' (tS B Gf)):PS X (.If c A A' pos) (tS B (aW ft F Gf)):=df (OQ hc ha hb) fun D σ H ⟨g,s,o,s',x,h,k⟩=>by
 obtain ⟨⟨d,s1⟩,e1,h⟩:=af h
 refine ⟨g,s,d,s1,x,e1,fun g1 H1 p1 x1=>?_⟩
 cases d with
 | true=>exact oz ⟨g1,s1,o,s',x1,h,k.mv p1⟩
 | false=>exact ow ⟨g1,s1,o,s',x1,h,k.mv p1⟩
theorem ik {r:List (Option C)}{ts:List T}(h:mH r[i]?=some ts):r[i]?=some (some (.ol ts)):=by
 unfold mH at h
 split at h
 ·rename_i h2;cases h;exact h2
 ·cases h
theorem SR.AV (x:SR B g H σ s) {ts:List T}(h:s.r[i]?=some (some (.ol ts))):∃ l vs,σ[i]?=some (some (.ref l))/\g.o l=some (.loc i)/\H l=some (.lst vs)/\aH B g.al g.HF ts vs:=by
 obtain ⟨v,h1,l,vs,rfl,h2,h3,h4⟩:=x.lc.at_ i _ h
 exact ⟨l,vs,h1,h2,h3,h4⟩
theorem Vh {py:Pos}(he:PE X e (tE B fa)) (hN:X.N[i]?=some y) (hv:qR X.env.scope y) (hd:(y == ("__debug__" : Str))=false) (jj:(y == ("__classdict__" : Str))=false) (hs:noStar e=true) (oq:(apos.endLine == cW.line)=true) :
  PS X (.Expr (.Call (.Attribute (.Name y py) "append" apos) [e] [] cW) pos) (tS B (iL i fa)):=by
 refine df (uC (G6 PySem.F.plainAttrs_list PySem.F.slot_list_append PySem.F.type_list_append lz (dP hN hv hd jj) (bQ he dD (aK hs)) (jw rfl) (nT (by rw [List.all_cons,hs];rfl) (by decide)) oq (aK hs) rfl) rfl) fun D σ H ⟨g,s,o,s',x,h,k⟩=>?_
 obtain ⟨us,e0,h⟩:=af h
 obtain ⟨⟨t,s1⟩,e1,h⟩:=af h
 obtain ⟨ts,e2,h⟩:=af h
 obtain ⟨HV,e3,h⟩:=af h
 obtain ⟨z,rfl⟩:=bF (aF e3)
 cases h
 obtain ⟨l0,vs0,q1,q2,q3,q4⟩:=x.AV (ik (aF e0))
 refine ⟨_,q1,.inl ⟨rfl,_,c9.of q3⟩,g,s,t,s1,x,e1,fun v g1 H1 p1 x1 r1=>?_⟩
 have ho:=ik (aF e2)
 obtain ⟨l,vs,w1,w2,w3,w4⟩:=x1.AV ho
 rw [q1] at w1;cases w1
 obtain ⟨x2,p2⟩:=x1.chg ho q1 (w4.app (.one r1))
 exact ⟨l0,vs,v,rfl,rfl,w3,by rw [<- w4.len,sizeLine_eq];omega,k σ g1 _ (p1.trans p2) x2⟩
theorem Vi {iter:Expr}{body:List Stmt}{gt:TG}{fg:FG}{S':List Nat}(hc:X.calm=true) (hi:PI X tg iter (tI B fl)) (hg:PG X tg gt) (Cu:mX B gt fg S') (hb:gP X body (tS B F)) (hp:PassesOwn (model X.prog X.w) X.A X.env X.xe)
  (hs:∀ x,foldedSetIterable iter X.env x=pure x):PS X (.For tg iter body [] pos) (tS B (jS fl fg F)):=by
 refine df (Jk hp hc hi hg hb hs) fun D σ H ⟨g,s,o,s',x,h,k⟩=>?_
 obtain ⟨⟨xs,s1⟩,e1,h⟩:=af h
 refine ⟨g,s,xs,s1,x,e1,fun J g1 H1 p1 x1 wk=>?_⟩
 refine ⟨fun i m σ2 H2=>m=xs.length-i/\i<=xs.length/\∃ g2 s2,dW g1 H1 g2 H2/\SR B g2 H2 σ2 s2/\dJ fg F (xs.drop i) s2=.ok (o,s'),
  ⟨xs.length,by simp,Nat.zero_le _,g1,s1,.refl,x1,by rw [List.drop_zero];exact h⟩,?_⟩
 rintro i m σ2 H2 ⟨rfl,hil,g2,s2,p2,x2,kO⟩
 have Zw:=p2.fr.trans x2.sub
 by_cases dI:i<xs.length
 ·have hx:xs[i]?=some xs[i]:=List.getElem?_eq_getElem dI
  rw [List.drop_eq_getElem_cons dI] at kO
  obtain ⟨r3,q1,kO⟩:=af kO
  obtain ⟨⟨o3,s4⟩,q2,kO⟩:=af kO
  refine .inr ⟨wk.go i H2 Zw dI,fun σ' H'=>∃ g' s5,dW g1 H1 g' H'/\SR B g' H' σ' s5/\dJ fg F (xs.drop (i+1)) s5=.ok (o,s'),
   fun σ' H' ⟨g',s5,a,b,c⟩=>⟨xs.length-(i+1),by omega,rfl,dI,g',s5,a,b,c⟩,fun v H3 y=>?_⟩
  obtain ⟨t,ht,y2⟩:=wk.yld i H2 v H3 Zw dI y
  rw [hx] at ht
  cases ht
  obtain ⟨MW,gr3,rx⟩:=y2 g2.HF p2.fr x2.sub
  have x3:=x2.grow gr3
  have p3:=p2.trans (x2.eL gr3)
  refine Cu.ok g2.al MW H3 σ2 s2.r _ v r3 _ x3.sub (rx.mv p2.pre (aZ.refl _)) (aF q1) x3.lc.len fun σ4 st=>⟨g2.grow MW,⟨r3,s2.m⟩,o3,s4,⟨x3.st,x3.lc.sets rfl st⟩,q2,?_⟩
  cases o3 with
  | nx=>exact fun σ5 g5 H5 p5 x5=>⟨g5,s4,p3.trans p5,x5,kO⟩
  | ct=>exact fun σ5 g5 H5 p5 x5=>⟨g5,s4,p3.trans p5,x5,kO⟩
  | bk=>
   cases kO
   exact fun σ5 g5 H5 p5 x5=>k σ5 g5 H5 ((p1.trans p3).trans p5) x5
  | rt t=>
   cases kO
   exact fun v g5 H5 p5 x5 r=>k v g5 H5 ((p1.trans p3).trans p5) x5 r
 ·have e:i=xs.length:=by omega
  subst e
  rw [List.drop_length] at kO
  cases kO
  exact .inl ⟨wk.stop _ H2 Zw rfl,k σ2 g2 H2 (p1.trans p2) x2⟩
theorem FY {body:List Stmt}(n:Nat) (hc:PT X c (tT B ft)) (hb:gP X body (tS B F)) (hp:PassesOwn (model X.prog X.w) X.A X.env X.xe):PS X (.While c body [] pos) (tS B (mK n ft F)):=by
 refine df (yO hp hc hb) fun D σ H ⟨g,s,o,s',x,h,k⟩=>?_
 refine ⟨fun m σ2 H2=>∃ g2 s2,dW g H g2 H2/\SR B g2 H2 σ2 s2/\bW ft F m s2=.ok (o,s'),⟨n,g,s,.refl,x,h⟩,?_⟩
 rintro m σ2 H2 ⟨g2,s2,p2,x2,kO⟩
 cases m with
 | zero=>cases kO
 | succ m=>
  obtain ⟨⟨d,s3⟩,q1,kO⟩:=af kO
  refine ⟨g2,s2,d,s3,x2,q1,fun g3 H3 p3 x3=>?_⟩
  cases d with
  | false=>
   cases kO
   exact ow (k σ2 g3 H3 (p2.trans p3) x3)
  | true=>
   obtain ⟨⟨o4,s4⟩,q2,kO⟩:=af kO
   refine oz ⟨fun σ' H'=>∃ g' s5,dW g H g' H'/\SR B g' H' σ' s5/\bW ft F m s5=.ok (o,s'),fun σ' H' ⟨g',s5,a,b,c⟩=>⟨m,Nat.lt_succ_self m,g',s5,a,b,c⟩,?_⟩
   refine ⟨g3,s3,o4,s4,x3,q2,?_⟩
   have Wz:=p2.trans p3
   cases o4 with
   | nx=>exact fun σ5 g5 H5 p5 x5=>⟨g5,s4,Wz.trans p5,x5,kO⟩
   | ct=>exact fun σ5 g5 H5 p5 x5=>⟨g5,s4,Wz.trans p5,x5,kO⟩
   | bk=>
    cases kO
    exact fun σ5 g5 H5 p5 x5=>k σ5 g5 H5 (Wz.trans p5) x5
   | rt t=>
    cases kO
    exact fun v g5 H5 p5 x5 r=>k v g5 H5 (Wz.trans p5) x5 r
end
section
variable {B:KT}{g:G}{H:Hp}{σ:St}{s:S}
theorem yd {N:List Str}{vs:List V}{ts:List T}(r:aH B g.al g.HF ts vs):jU B g H (L2.start N vs) (ts.map (fun t=>some (C.val t))++List.replicate (N.length-ts.length) none):=by
 refine ⟨by unfold L2.start;simp [r.len],fun i c h=>?_⟩
 by_cases hi:i<ts.length
 ·rw [List.getElem?_append_left (by simpa using hi),List.getElem?_map,List.getElem?_eq_getElem hi] at h
  cases h
  obtain ⟨v,h1,h2⟩:=r.get (List.getElem?_eq_getElem hi)
  refine ⟨v,?_,h2⟩
  unfold L2.start
  rw [List.getElem?_append_left (by rw [List.length_map,<- r.len];exact hi),List.getElem?_map,h1];rfl
 ·rw [List.getElem?_append_right (by simpa using hi),List.getElem?_replicate] at h
  split at h<;>cases h
theorem u0 {np n:Nat}{F:FS}{ts:List T}{m m':List Ob}{t:T}(h:aY np n F ts m=.ok (t,m')):ts.length=np/\∃ o s',F ⟨ts.map (fun t=>some (.val t))++List.replicate (n-ts.length) none,m⟩=.ok (o,s')/\s'.m=m'/\(o=.rt t\/(o=.nx/\t=.non)):=by
 unfold aY at h
 split at h
 ·rename_i hl
  obtain ⟨⟨o,s'⟩,h1,h⟩:=af h
  refine ⟨hl,o,s',h1,?_⟩
  cases o with
  | rt u=>cases h;exact ⟨rfl,.inl rfl⟩
  | nx=>cases h;exact ⟨rfl,.inr ⟨rfl,rfl⟩⟩
  | bk=>cases h
  | ct=>cases h
 ·cases h
variable {P:Program}{w:World}{K:PySem.W.Frag}{mg:Str->Option Value}{base:Heap}
theorem M_ {x qual:Str}{st:Stmt}{f:Addr}{fd:FuncData}{N ps:List Str}{k:Nat}{F:FS}(Fn:C7 K x qual st f fd) (Sc:e_ N ps (aJ st))
  (body:∀ (gn:Value) (A:Around) (outer:List Env) (s:Shared) (H:Hp) (E:XK),bP k (A.deeper (PyProof.Rows.envOfC qual (aJ st) s.heap.objs.size f gn))->gP (kR jl P w K mg base N qual (aJ st) f gn A outer s H E).GY (b_ st) (tS B F)) :
  cV P w K mg base jl (k+1) f fd ps (lK B (aY ps.length N.length F)):=by
 refine Fn.ok Sc (fun vs H Q E h=>?_) (fun gn A outer s H vs Q E hr h=>?_)
 ·obtain ⟨g,ts,m,t,m',x,r,h,_⟩:=h
  rw [<- r.len,(u0 h).1]
 ·obtain ⟨g,ts,m,t,m',x,r,h,q⟩:=h
  obtain ⟨_,o,s',h1,rfl,ho⟩:=u0 h
  refine ⟨_,body gn A outer s H E hr,g,_,o,s',⟨x,yd r⟩,h1,?_⟩
  rcases ho with rfl | ⟨rfl,rfl⟩
  ·exact fun v g' H' p y rv=>q v g' H' p y rv
  ·exact fun σ' g' H' p y=>q _ g' H' p y.st rfl
theorem FZ {f:Addr}{fd:FuncData}{ps:List Str}{k:Nat}{fn:Fn}(F:cV P w K mg base jl k f fd ps (lK B fn)):cV P w K mg base jl k f fd ps (lK B (aU fn)):=F.imp fun vs H Q E h=>by
 obtain ⟨g,ts,m,t,m',x,r,h,q⟩:=h
 unfold aU at h
 split at h
 case isFalse=>cases h
 rename_i hn
 cases e:fn ts [] with
 | bad=>rw [e] at h;cases h
 | exc c fs s=>rw [e] at h;dsimp only at h;split at h<;>cases h
 | ok z=>
  rw [e] at h
  dsimp only at h
  split at h
  case isFalse=>cases h
  rename_i Of
  cases h
  refine ⟨⟨g.HF,fun _=>none,[]⟩,ts,[],z.1,z.2,⟨x.sub,fun b p e=>(by cases e),rfl,fun k ob e=>(by simp at e)⟩,aH.no hn r,e,fun v g0 H' p y rv=>?_⟩
  have keep:∀ b p,g.o b=some p->H' b=H b/\g0.HF b=none:=fun b q hb=>by
   obtain ⟨h1,u,h2⟩:=x.live b q hb
   obtain ⟨h3,h4,_⟩:=p.rest b u h2 h1 rfl
   exact ⟨h3.trans h2.symm,h4⟩
  refine q v ⟨g0.HF,g.o,g.al⟩ H' ⟨p.fr,List.prefix_rfl,fun b u h n z=>?_,p.there⟩ (x.mv y.sub (fun b p e=>?_) p.fr rfl fun l p h _=>⟨h,(keep l p h).1⟩) (Rep.no Of rv)
  ·obtain ⟨h3,h4,_⟩:=p.rest b u h n rfl
   exact ⟨h3,h4,z⟩
  ·obtain ⟨h1,u,h2⟩:=x.live b p e
   obtain ⟨h3,h4⟩:=keep b p e
   exact ⟨h4,u,h3.trans h2⟩
end
section
variable {P:Pg}{X:Cx}{B:KT}{e a b c o:Expr}{es:List Expr}{pos pos' p apos cW:Pos}{fa fb fc fo:FE}{fl:FL}{env:Env}{x y:Str}{σ:St}{H H':Hp}{g g':G}{s s':S}
theorem SR.Im {k:Nat}{ob Cv:Ob}{a C dx:Addr}{ns:List Str}{vs fh:List V}(x:SR B g H σ s) (Z:Fg B g H k ob a C dx ns vs) (hk:s.m[k]?=some ob) (hc:Cv.c=ob.c) (hle:fh.length<=ns.length) (hln:fh.length=Cv.fs.length)
  (hf:∀ j c,Cv.fs[j]?=some c->∃ v,fh[j]?=some v/\bO B g H (.fld k j) c v) :
  dW g H g (upd H a (.ins C dx (ns.zip fh)))/\SR B g (upd H a (.ins C dx (ns.zip fh))) σ { s with m:=s.m.set k Cv }:=by
 have ne:∀ l q,g.o l=some q->q≠.ob k->upd H a (.ins C dx (ns.zip fh)) l=H l:=fun l q hl hq=>ay fun z=>hq (by rw [z,Z.o] at hl;cases hl;rfl)
 have sl:∀ {q:iM} {c:_root_.D.C} {v:V},q≠.ob k->bO B g H q c v->bO B g (upd H a (.ins C dx (ns.zip fh))) q c v:=fun hq h=>bO.mv (g:=g) (g':=g) (aZ.refl _) List.prefix_rfl (fun l hl=>⟨hl,ne l _ hl hq⟩) h
 refine ⟨mO Z.o,⟨⟨fun b w e=>?_,fun b q e=>?_,by rw [List.length_set];exact x.st.len,fun k' Zx e=>?_⟩,x.lc.len,fun i c e=>?_⟩⟩
 ·have:b≠a:=fun z=>by rw [z,(x.st.live a _ Z.o).1] at e;cases e
  rw [ay this];exact x.sub _ _ e
 ·obtain ⟨h1,w,h2⟩:=x.st.live b q e
  by_cases hb:b=a
  ·exact ⟨h1,_,by rw [hb,aw]⟩
  ·exact ⟨h1,w,by rw [ay hb];exact h2⟩
 ·by_cases Vj:k=k'
  ·subst Vj
   have dI:k<s.m.length:=(List.getElem?_eq_some_iff.mp hk).1
   have e:(s.m.set k Cv)[k]?=some Zx:=e
   rw [List.getElem?_set_self dI] at e
   cases e
   exact ⟨a,C,dx,ns,fh,Z.al,Z.o,by rw [hc];exact Z.cl,aw,hle,hln,fun j c h=>let ⟨v,h1,h2⟩:=hf j c h;⟨v,h1,sl (fun z=>by cases z) h2⟩⟩
  ·have e:(s.m.set k Cv)[k']?=some Zx:=e
   rw [List.getElem?_set_ne Vj] at e
   obtain ⟨a2,C2,Zy,Zz,WA,Z2⟩:=x.st.at_ k' Zx e
   refine ⟨a2,C2,Zy,Zz,WA,Z2.mv (aZ.refl _) List.prefix_rfl fun l q h hq=>⟨h,ne l q h ?_⟩⟩
   rcases hq with rfl | ⟨j,rfl⟩
   ·exact fun z=>Vj (by cases z;rfl)
   ·exact fun z=>by cases z
 ·obtain ⟨v,h1,h2⟩:=x.lc.at_ i c e
  exact ⟨v,h1,sl (fun z=>by cases z) h2⟩
theorem ye {fs qV:List C}{j:Nat}{c:C}(h:setAt fs j c=some qV):(j<fs.length/\qV=fs.set j c)\/(j=fs.length/\qV=fs++[c]):=by
 unfold setAt at h
 split at h
 ·rename_i q;cases h;exact .inl ⟨q,rfl⟩
 ·split at h
  ·rename_i q;cases h;exact .inr ⟨q,rfl⟩
  ·cases h
theorem F0 (O:mU X.K X.mg P) {f:Nat}{n:Str}{k:Nat}{ob Cv:Ob}{c':_root_.D.C}{a C dx:Addr}{ns:List Str}{vs:List V}{v:V}(hf:P.an[f]?=some n) (x:SR (P.kt X) g H σ s) (Z:Fg (P.kt X) g H k ob a C dx ns vs) (hk:s.m[k]?=some ob) (h:HU P.tab f c' ob=some Cv)
  (hv:∀ j,bO (P.kt X) g H (.fld k j) c' v):mj X.K C/\dQ X.K C n/\(ns.zip vs).length<1000 /\
  ∃ fh,L2.dw n v (ns.zip vs)=ns.zip fh/\dW g H g (upd H a (.ins C dx (ns.zip fh)))/\SR (P.kt X) g (upd H a (.ins C dx (ns.zip fh))) σ { s with m:=s.m.set k Cv }:=by
 obtain ⟨j,h1,h2⟩:=Option.bind_eq_some_iff.mp h
 obtain ⟨qV,h3,rfl⟩:=Option.map_eq_some_iff.mp h2
 obtain ⟨m,hm,uG,F⟩:=O.of Z.cl
 have hj:=mW hf uG h1
 have hjl:j<ns.length:=(List.getElem?_eq_some_iff.mp hj).1
 refine ⟨F.cl,F.na _ (List.mem_of_getElem? hj),by rw [List.length_zip];have:=F.nT;omega,?_⟩
 rcases ye h3 with ⟨dI,rfl⟩ | ⟨rfl,rfl⟩
 ·refine ⟨vs.set j v,uU F.nd hj Z.le (by rw [Z.ln];exact dI),?_⟩
  refine x.Im Z hk rfl (by rw [List.length_set];exact Z.le) (by rw [List.length_set,List.length_set];exact Z.ln) fun i c e=>?_
  by_cases hi:j=i
  ·subst hi
   rw [List.getElem?_set_self dI] at e
   cases e
   exact ⟨v,by rw [List.getElem?_set_self (by rw [Z.ln];exact dI)],hv j⟩
  ·rw [List.getElem?_set_ne hi] at e
   obtain ⟨w,h4,h5⟩:=Z.f i c e
   exact ⟨w,by rw [List.getElem?_set_ne hi];exact h4,h5⟩
 ·refine ⟨vs++[v],mV F.nd (by rw [Z.ln];exact hj),?_⟩
  refine x.Im Z hk rfl (by rw [List.length_append,Z.ln];exact hjl) (by rw [List.length_append,List.length_append,Z.ln];rfl) fun i c e=>?_
  by_cases hi:i<ob.fs.length
  ·rw [List.getElem?_append_left hi] at e
   obtain ⟨w,h4,h5⟩:=Z.f i c e
   exact ⟨w,by rw [List.getElem?_append_left (by rw [Z.ln];exact hi)];exact h4,h5⟩
  ·rw [List.getElem?_append_right (by omega)] at e
   have hz:i-ob.fs.length=0:=by
    have:=(List.getElem?_eq_some_iff.mp e).1
    simp at this;omega
   rw [hz] at e
   cases e
   exact ⟨v,by rw [List.getElem?_append_right (by rw [Z.ln];omega),Z.ln,hz];rfl,hv i⟩
theorem Vk (O:mU X.K X.mg P) {f:Nat}{n:Str}(hf:P.an[f]?=some n) (ho:PE X o (tE (P.kt X) fo)) (he:PE X e (tE (P.kt X) fa)) (hs:swapsWith e (some (.Attribute o n pos')) pos.line X.env=pure false) :
  PS X (.Assign [.Attribute o n pos'] e pos) (tS (P.kt X) (gy P.tab f fo fa)):=df (rl ho he hs) fun D σ H ⟨g,s,oo,s',x,h,k⟩=>by
 obtain ⟨⟨t,s1⟩,h1,h⟩:=af h
 obtain ⟨⟨tx,s2⟩,h2,h⟩:=af h
 cases tx<;>first | (cases h;done) | skip
 rename_i kk
 obtain ⟨Cv,h3,h⟩:=af h
 cases h
 obtain ⟨ob,h4,h5⟩:=Option.bind_eq_some_iff.mp (aF h3)
 refine ⟨g,s,t,s1,x,h1,fun v g1 H1 p1 x1 r1=>⟨g1,s1,_,s2,x1,h2,fun w g2 H2 p2 x2 r2=>?_⟩⟩
 obtain ⟨a,rfl,ha⟩:=r2
 obtain ⟨a',C,dx,ns,vs,Z⟩:=x2.st.at_ kk ob h4
 have:=Z.al.symm.trans ha
 cases this
 obtain ⟨cl,na,hl,fh,e1,p3,x3⟩:=F0 O hf x2 Z h4 h5 (v:=v) fun j=>r1.mv p2.pre p2.fr
 refine ⟨a,C,dx,_,rfl,Z.h,cl,na,hl,?_⟩
 rw [e1]
 exact k σ g2 _ ((p1.trans p2).trans p3) x3
end
end D
namespace L2
open PySem PySem.Spec PyProof.Rows
section
variable {X:Cx}
theorem F1 {e:Expr}{x y:Str}{k1 k2 p1 p2 p3 pos}{te:TE}(h:PE X e te) (hx:x.length<=sizeLine) :
  PE X (.JoinedStr [.Constant (.str x) k1 p1,.FormattedValue e (-1) none p2,.Constant (.str y) k2 p3] pos) (fun σ H Q=>te σ H fun v H1=>∃ z:Str,v=.str z/\x.length+z.length+y.length<=sizeLine/\Q (.str (Str.empty++x++z++y)) H1):=by
 intro pins s σ H Q I q
 have e0:(Str.empty++x).length=x.length:=by rw [strLen_append];exact Nat.zero_add _
 refine JoinedStr_many (joinParts_cons (Calls.Constant_str ⟨by rw [e0];exact hx,joinParts_cons (FormattedValue_plain (bY (h pins _ σ H _ (I.tok _) q) fun v s1 ⟨z',H1,I1,r,z,ez,hz,q1⟩=>?_))⟩))
 subst ez
 obtain ⟨t,rfl⟩:=r
 have e1:(Str.empty++x++z).length=x.length+z.length:=by rw [strLen_append,e0]
 have e2:(Str.empty++x++z++y).length=x.length+z.length+y.length:=by rw [strLen_append,e1]
 refine formatField_str (fun t' tk=>⟨by rw [e1];omega,joinParts_cons (Calls.Constant_str ⟨by rw [e2];exact hz,joinParts_nil ⟨.str (Str.empty++x++z++y),H1,I1.tok _,⟨_,rfl⟩,q1⟩ (by rw [e2];exact hz)⟩)⟩) (by omega)
end
end L2
namespace D
open PySem L2
section
variable {P:Pg}{X:Cx}{B:KT}{e a b c o:Expr}{es:List Expr}{pos pos' p apos cW:Pos}{fa fb fc fo:FE}{fl:FL}{env:Env}{x y:Str}{σ:St}{H H':Hp}{g g':G}{s s':S}{i:Nat}
theorem u1:∀ {Ds:List Addr}{its:List Value},Vals (Ds.map V.ref) its->its=Ds.map Value.ref
 | [],_,h=>by cases h;rfl
 | D::Ds,_,h=>by
  cases h with
  | cons p q=>
   cases p
   rw [u1 q]
   rfl
theorem AW:eu X (.builtin "isinstance") (fun xs H Q=>∃ (a C dx tp:Addr) (fs:List (Str × V)) (Ds:List Addr) (b:Bool),xs=[.ref a,.ref tp]/\H a=some (.ins C dx fs)/\mj X.K C/\PySem.W.findIn X.K (.ref C) "__class__" = some (some (.builtin "object.__class__")) /\
  PySem.W.specialIn X.K (.builtin "object.__class__") "__get__" = some (some (.builtin "getset_descriptor.__get__"))/\PySem.W.takesIn X.K (.builtin "object.__class__")=some true/\PySem.W.mroIn X.K C (.type "object")=some true /\
  H tp=some (.tup (Ds.map V.ref))/\PySem.W.kitAny X.K (.ref C) (Ds.map Value.ref)=some b/\Q (.bl b) H):=by
 intro pins s σ H xs us Q I r h
 obtain ⟨a,C,dx,tp,fs,Ds,b,rfl,ea,cl,h1,hn,Wn,h2,et,e,q⟩:=h
 obtain ⟨u,u',rfl,ru,PK⟩:=vals2 r
 cases ru
 cases PK
 obtain ⟨mA,O,_⟩:=gS I.bU ea
 obtain ⟨od,J,_⟩:=O.look
 obtain ⟨_,its,rv,o,g1,g2,n,g3⟩:=(show bV X.prog X.w H s.heap tp (.tup (Ds.map V.ref)) from I.bU tp _ et)
 have ei:its=Ds.map Value.ref:=u1 rv
 obtain ⟨oc,odd,odt,wg⟩:=o
 cases g2
 cases g3
 rw [ei] at g1
 exact PySem.W.kia_tup (PySem.W.kitx_own (cl.get _) cl.hd h1 hn Wn h2) I.gO J g1 e (fun z=>nomatch z) fun tk=>⟨.bl b,H,I.tok _,rfl,q⟩
def G.je (g:G) (a:Addr):G:={ g with o:=fun b=>if b=a then some (.ob g.al.length) else g.o b,al:=g.al++[a] }
theorem SR.je {c:Nat}{C q dx:Addr}{ns:List Str}(x:SR B g H σ s) (hC:fL B c C ns) (nx:H q=none) (nd:H dx=none) (gA:dx≠q) :
  dW g H (g.je q) (upd (upd H dx (.own q)) q (.ins C dx []))/\SR B (g.je q) (upd (upd H dx (.own q)) q (.ins C dx [])) σ { s with m:=s.m++[⟨c,[]⟩] }:=by
 have nf:g.HF q=none:=x.sub.free nx
 have nf2:g.HF dx=none:=x.sub.free nd
 have no:∀ l p',g.o l=some p'->l≠q/\l≠dx:=fun l p' h=>by
  obtain ⟨_,u,z⟩:=x.st.live l p' h
  exact ⟨aT z nx,aT z nd⟩
 have Oo:∀ l,l≠q->l≠dx->upd (upd H dx (.own q)) q (.ins C dx []) l=H l:=fun l h1 h2=>by rw [ay h1,ay h2]
 have ho:∀ l p',g.o l=some p'->(g.je q).o l=some p':=fun l p' h=>by
  show (if l=q then some (iM.ob g.al.length) else g.o l)=_
  rw [if_neg (no l p' h).1];exact h
 have pre:g.al <+: (g.je q).al:=List.prefix_append _ _
 refine ⟨⟨aZ.refl _,pre,fun b u h n z=>?_,fun b h=>?_⟩,⟨⟨fun b u e=>?_,fun b p' e=>?_,?_,fun k ob e=>?_⟩,x.lc.len,fun i c' e=>?_⟩⟩
 ·have h1:=aT h nx
  have h2:=aT h nd
  refine ⟨(Oo b h1 h2).trans h,n,?_⟩
  show (if b=q then some (iM.ob g.al.length) else g.o b)=none
  rw [if_neg h1];exact z
 ·by_cases h1:b=q
  ·subst h1;exact nx
  ·by_cases h2:b=dx
   ·subst h2;exact nd
   ·rw [Oo b h1 h2] at h;exact h
 ·have h1:b≠q:=fun z=>by rw [z] at e;have e:g.HF q=some u:=e;rw [nf] at e;cases e
  have h2:b≠dx:=fun z=>by rw [z] at e;have e:g.HF dx=some u:=e;rw [nf2] at e;cases e
  rw [Oo b h1 h2];exact x.sub _ _ e
 ·have e:(if b=q then some (iM.ob g.al.length) else g.o b)=some p':=e
  by_cases hb:b=q
  ·subst hb;exact ⟨nf,_,aw⟩
  ·rw [if_neg hb] at e
   obtain ⟨h1,u,h2⟩:=x.st.live b p' e
   obtain ⟨h3,h4⟩:=no b p' e
   exact ⟨h1,u,(Oo b h3 h4).trans h2⟩
 ·show (s.m++[_]).length=(g.al++[q]).length
  rw [List.length_append,List.length_append,x.st.len];rfl
 ·have e:(s.m++[(⟨c,[]⟩:Ob)])[k]?=some ob:=e
  by_cases hk:k<s.m.length
  ·rw [List.getElem?_append_left hk] at e
   obtain ⟨a2,C2,Zy,Zz,WA,Z⟩:=x.st.at_ k ob e
   refine ⟨a2,C2,Zy,Zz,WA,Z.mv (aZ.refl _) pre fun l p' h _=>⟨ho l p' h,?_⟩⟩
   obtain ⟨h3,h4⟩:=no l p' h
   exact Oo l h3 h4
  ·rw [List.getElem?_append_right (by omega)] at e
   have hk0:k-s.m.length=0:=by
    have:=(List.getElem?_eq_some_iff.mp e).1
    simp at this;omega
   rw [hk0] at e
   cases e
   have Vj:k=g.al.length:=by have:=x.st.len;omega
   subst Vj
   refine ⟨q,C,dx,ns,[],?_,?_,hC,?_,Nat.zero_le _,rfl,fun j c h=>by simp at h⟩
   ·show (g.al++[q])[g.al.length]?=some q
    rw [List.getElem?_append_right (Nat.le_refl _),Nat.sub_self];rfl
   ·show (if q=q then some (iM.ob g.al.length) else g.o q)=_
    rw [if_pos rfl]
   ·rw [aw,List.zip_nil_right]
 ·obtain ⟨v,h1,h2⟩:=x.lc.at_ i c' e
  refine ⟨v,h1,bO.mv (g:=g) (g':=g.je q) (aZ.refl _) pre (fun l h=>⟨ho l _ h,?_⟩) h2⟩
  obtain ⟨h3,h4⟩:=no l _ h
  exact Oo l h3 h4
structure DnN (P:Pg) (Pr:Program) (w:World) (K:PySem.W.Frag) (mg:Str->Option Value) (base:Heap) (k:Nat) (c:Nat) (x:Str) (f:Fn):Prop where
 ex:∃ (C fi:Addr) (fd:FuncData) (ps:List Str) (ns:List Str),fL (gF P K Pr w) c C ns/\mg x=some (.ref C)/\Mk K C fi/\cV Pr w K mg base jl k fi fd ps (lK (gF P K Pr w) f)/\Binds K fd ps []
theorem F2 {c:Nat}{f:Fn}{t:T}(h:xZ c f fl s=.ok (t,s')):∃ ts s1 m',fl s=.ok (ts,s1)/\f (.own s1.m.length::ts) (s1.m++[⟨c,[]⟩])=.ok (.non,m')/\t=.own s1.m.length/\s'={ s1 with m:=m' }:=by
 obtain ⟨⟨ts,s1⟩,h1,h⟩:=af h
 dsimp only at h
 cases q:f (.own s1.m.length::ts) (s1.m++[⟨c,[]⟩]) with
 | ok r=>
  rw [q] at h
  obtain ⟨u,m'⟩:=r
  cases u<;>first | (cases h;done) | skip
  cases h
  exact ⟨ts,s1,m',h1,q,rfl,rfl⟩
 | bad=>rw [q] at h;cases h
 | exc c fs s2=>rw [q] at h;cases h
theorem F3 {c:Nat}{f:Fn}{C:Addr}{ns:List Str}{ts:List T}{vs:List V}{m':List Ob}{Q:VK}(hC:fL B c C ns) (x1:SR B g H σ s) (r1:aH B g.al g.HF ts vs) (h2:f (.own s.m.length::ts) (s.m++[⟨c,[]⟩])=.ok (.non,m'))
  (k:∀ v g' H',dW g H g' H'->SR B g' H' σ { s with m:=m' }->Rep B g'.al g'.HF (.own s.m.length) v->Q v H'):∀ q dx,H q=none->H dx=none->dx≠q->lK B f (.ref q::(vs++[])) (upd (upd H dx (.own q)) q (.ins C dx [])) (fun v H2=>v=.non/\Q (.ref q) H2) E0:=fun q dx nx nd gA=>by
 obtain ⟨p2,x2⟩:=x1.je hC nx nd gA
 rw [List.append_nil]
 have hq:(g.je q).al[s.m.length]?=some q:=by
  show (g.al++[q])[s.m.length]?=some q
  rw [x1.st.len,List.getElem?_append_right (Nat.le_refl _),Nat.sub_self];rfl
 refine pQ (E:=E0) (ts:=.own s.m.length::ts) x2 ⟨_,vs,rfl,⟨q,rfl,hq⟩,r1.mv p2.pre p2.fr⟩ h2 fun v g' H' p3 x3 rv=>⟨rv,k _ g' H' (p2.trans p3) x3 ⟨q,rfl,mL p3.pre hq⟩⟩
theorem Na {k j c:Nat}{f:Fn}(D:DnN P X.prog X.w X.K X.mg X.base k c x f) (hr:bP j X.A) (ya:k+1<=j) (ha:PA X (e::es) (tA (P.kt X) fl)) (hg:Gl X x) (jJ:(x == ("__debug__" : Str))=false) (hs:(e::es).all noStar=true) :
  PE X (.Call (.Name x p) (e::es) [] pos) (tE (P.kt X) (xZ c f fl)):=by
 obtain ⟨C,fi,fd,ps,ns,hC,hm,M,F,hb⟩:=D.ex
 rw [List.all_cons,Bool.and_eq_true] at hs
 refine bj (mq M F (hr.mono ya) hg hm hb .nil jK ha jJ (aK hs.1) (dB hs.2)) fun σ H Q ⟨g,s,t,s',x,h,k⟩=>?_
 obtain ⟨ts,s1,m',h1,h2,rfl,rfl⟩:=F2 h
 exact ⟨g,s,ts,s1,x,h1,fun vs g1 H1 p1 x1 r1=>F3 hC x1 r1 h2 fun v g' H' p2 x2 rv=>k v g' H' (p1.trans p2) x2 rv⟩
def j5:Stmt->Option (Str × Str × Str)
 | .Assign [.Attribute (.Name s0 _) f _] (.Name q _) _=>some (s0,f,q)
 | _=>none
theorem tw {st:Stmt}{z:Str × Str × Str}(h:j5 st=some z):∃ p0 pf pq pos,st=.Assign [.Attribute (.Name z.1 p0) z.2.1 pf] (.Name z.2.2 pq) pos:=by
 unfold j5 at h
 split at h
 ·cases h;exact ⟨_,_,_,_,rfl⟩
 ·cases h
def j6 (N:List Str):Nat->List Stmt->List Str->Bool
 | _,[],[]=>true
 | i,st::rest,n::ns=>(match j5 st with
  | some z=>decide (N[0]?=some z.1)&&decide (N[i]?=some z.2.2)&&decide (z.2.1=n)
  | none=>false)&&j6 N (i+1) rest ns
 | _,_,_=>false
def WB (K:PySem.W.Frag):Nat->List Str->TS
 | _,[]=>yK
 | i,n::ns=>OM (O_ K (yH 0) (yH i) n) (WB K (i+1) ns)
theorem u2 (hv:∀ (i:Nat) (x:Str),X.N[i]?=some x->qR X.env.scope x/\(x == ("__debug__" : Str))=false/\(x == ("__classdict__" : Str))=false):∀ (body:List Stmt) (ns:List Str) (i:Nat),j6 X.N i body ns=true->gP X body (WB X.K i ns)
 | [],[],_,_=>uA
 | [],_::_,_,h=>by cases h
 | st::rest,[],_,h=>by cases h
 | st::rest,n::ns,i,h=>by
  have h:((match j5 st with
   | some z=>decide (X.N[0]?=some z.1)&&decide (X.N[i]?=some z.2.2)&&decide (z.2.1=n)
   | none=>false)&&j6 X.N (i+1) rest ns)=true:=h
  rw [Bool.and_eq_true] at h
  obtain ⟨h1,h5⟩:=h
  cases e:j5 st with
  | none=>rw [e] at h1;cases h1
  | some z=>
   rw [e] at h1
   simp only [Bool.and_eq_true,decide_eq_true_eq] at h1
   obtain ⟨⟨h2,h3⟩,rfl⟩:=h1
   obtain ⟨p0,pf,pq,pos,rfl⟩:=tw e
   obtain ⟨v1,v2,v3⟩:=hv 0 _ h2
   obtain ⟨w1,w2,w3⟩:=hv i _ h3
   exact n8 (rl (dP h2 v1 v2 v3) (dP h3 w1 w2 w3) rfl) (u2 hv rest ns (i+1) h5)
theorem u3 {K:PySem.W.Frag}{C q dx:Addr}{N:List Str}{all:List V}{D:Ends}(cl:mj K C):∀ (ns mY:List Str) (as mZ:List V) (H:Hp),(∀ f∈ns,dQ K C f)->(mY++ns).Nodup->(mY++ns).length<=100->mZ.length=mY.length->as.length=ns.length->all=.ref q::(mZ++as)->H q=some (.ins C dx (mY.zip mZ)) ->
  D.nx (L2.start N all) (upd H q (.ins C dx ((mY++ns).zip (mZ++as))))->WB K (mZ.length+1) ns D (L2.start N all) H
 | [],mY,as,mZ,H,_,_,_,HW,hl,ha,hq,k=>by
  have:as=[]:=List.length_eq_zero_iff.mp hl
  subst this
  rw [List.append_nil,List.append_nil] at k
  have e:upd H q (.ins C dx (mY.zip mZ))=H:=by
   funext b
   by_cases hb:b=q
   ·subst hb;rw [aw,hq]
   ·rw [ay hb]
  rw [e] at k
  exact k
 | n::ns,mY,[],mZ,H,_,_,_,HW,hl,ha,hq,k=>by cases hl
 | n::ns,mY,v::as,mZ,H,Vl,nd,hsz,HW,hl,ha,hq,k=>by
  have hg:(L2.start N all)[mZ.length+1]?=some (some v):=by
   unfold L2.start
   rw [List.getElem?_append_left (by rw [ha];simp),List.getElem?_map,ha,List.getElem?_cons_succ,List.getElem?_append_right (Nat.le_refl _),Nat.sub_self];rfl
  have h0:(L2.start N all)[0]?=some (some (.ref q)):=by
   unfold L2.start
   rw [List.getElem?_append_left (by rw [ha];simp),List.getElem?_map,ha];rfl
  have hn:n ∉ mY:=fun z=>by
   rw [List.nodup_append] at nd
   exact nd.2.2 n z n (List.mem_cons_self ..) rfl
  refine ⟨v,hg,.ref q,h0,q,C,dx,mY.zip mZ,rfl,hq,cl,Vl n (List.mem_cons_self ..),?_,?_⟩
  ·rw [List.length_zip];rw [List.length_append] at hsz;omega
  ·have e1:L2.dw n v (mY.zip mZ)=(mY++[n]).zip (mZ++[v]):=by
    have:=mV (f:=n) (v:=v) (ns:=mY++[n]) (vs:=mZ) (by
     rw [show mY++n::ns=(mY++[n])++ns by simp] at nd
     exact (List.nodup_append.mp nd).1) (by rw [HW,List.getElem?_append_right (Nat.le_refl _),Nat.sub_self];rfl)
    rw [<- this]
    congr 1
    have:∀ (a:List Str) (b:List V) (r:List Str),b.length=a.length->a.zip b=(a++r).zip b:=by
     intro a
     induction a with
     | nil=>intro b r h;cases b with
      | nil=>simp
      | cons=>cases h
     | cons x a ih=>intro b r h;cases b with
      | nil=>cases h
      | cons y b=>rw [List.zip_cons_cons,List.cons_append,List.zip_cons_cons,ih b r (by simpa using h)]
    exact this mY mZ [n] HW
   rw [e1]
   have h5:=u3 (N:=N) (all:=all) (D:=D) (q:=q) (dx:=dx) cl ns (mY++[n]) as (mZ++[v]) (upd H q (.ins C dx ((mY++[n]).zip (mZ++[v])))) (fun f hf=>Vl f (List.mem_cons_of_mem _ hf)) (by simpa using nd) (by simpa using hsz) (by simp [HW]) (by simpa using hl) (by rw [ha];simp) aw (by
    rw [ux]
    simpa using k)
   rw [show (mZ++[v]).length+1=mZ.length+1+1 by simp] at h5
   exact h5
end
section
variable {B:KT}{X:Cx}{a tg:Expr}{pos p:Pos}{fa:FE}{H:Hp}
theorem j7:∀ (k:Int) (ts:List T),(fZ k ts).length=ts.length
 | _,[]=>rfl
 | k,_::ts=>congrArg (· + 1) (j7 (k+1) ts)
theorem u4:∀ (k:Nat) (ts:List T) (i:Nat) (t:T),ts[i]?=some t->(fZ (k:Int) ts)[i]?=some (.tup [.int ((k+i:Nat):Int),t])
 | _,[],_,_,h=>by simp at h
 | k,_::ts,0,_,h=>by simp at h;subst h;rfl
 | k,_::ts,i+1,t,h=>by
  have:=u4 (k+1) ts i t (by simpa using h)
  rw [show k+(i+1)=k+1+i by omega]
  exact this
theorem Vm (hB:B.K=X.K) (m:Nat):∀ σ H R,tI B (jR (m:Int) fa) σ H R->Mp X.K m (tA B (cM fa c_)) σ H R:=by
 rintro σ H R ⟨g,s,t,s',x,h,k⟩
 obtain ⟨⟨tx,s1⟩,h1,h⟩:=af h
 obtain ⟨ts,h2,h⟩:=af h
 cases h
 have h2:=aF h2
 obtain ⟨Vn,rfl,rfl⟩:∃ Vn,tx=.lst Vn/\t=fZ m Vn:=by
  cases tx<;>first | (cases h2;done) | (cases h2;exact ⟨_,rfl,rfl⟩)
 have hc:cM fa c_ s=.ok ([.lst Vn],s1):=by
  show (fa s).bind _=_
  rw [h1];rfl
 refine ⟨g,s,_,_,x,hc,fun vs g1 H1 p1 x1 r1=>?_⟩
 obtain ⟨v,rfl,l,ws,rfl,q1,r1⟩:=ck r1
 refine ⟨l,ws,rfl,c9.of (x1.sub _ _ q1),k _ g1 H1 p1 x1 ⟨fun i H3 s3 hi=>?_,fun i H3 x H4 s3 hi y=>?_,fun i H3 s3 hi=>?_⟩⟩
 ·rw [j7,r1.len] at hi
  exact ⟨hi,c9.of (s3 _ _ q1)⟩
 ·obtain ⟨p,x',hn,e1,rfl,rfl⟩:=y
  obtain ⟨t1,f1,g1'⟩:=r1.x8 e1
  refine ⟨_,u4 m Vn i t1 f1,fun s_ s4 s5=>⟨upd s_ p (.tup [.int ((m+i:Nat):Int),x']),.new s5 hn,p,[.int ((m+i:Nat):Int),x'],rfl,i9.of aw,?_⟩⟩
  have s6:=s4.trans (bw (o:=.tup [.int ((m+i:Nat):Int),x']) (s5.free hn))
  exact ⟨.int ((m+i:Nat):Int),[x'],rfl,rfl,.one (g1'.same s6)⟩
 ·rw [j7,r1.len] at hi
  exact ⟨hi,c9.of (s3 _ _ q1)⟩
theorem Vo (hB:B.K=X.K) {elts:List Expr}{x1:Nat}{jI:Pos}(hg:Gl X "enumerate") (hm:X.mg "enumerate" = none) (ha:PE X a (tE B fa)) (hs:noStar a=true):PI X (.Tuple elts x1 jI) (.Call (.Name "enumerate" p) [a] [] pos) (tI B (jR 0 fa)):=
 lG (Ud hg hm (mR ha sV (aK hs)) (aK hs)) (Vm hB 0)
theorem Vp (hB:B.K=X.K) {elts:List Expr}{x1 k1:Nat}{jI p1 kp:Pos}(hg:Gl X "enumerate") (hm:X.mg "enumerate" = none) (ha:PE X a (tE B fa)) (hs:noStar a=true):PI X (.Tuple elts x1 jI) (.Call (.Name "enumerate" p) [a] [⟨some (Str.ofString "start"),.Constant (.int 1) k1 p1,kp⟩] pos) (tI B (jR 1 fa)):=
 lG (Mq hg hm (mR ha sV (aK hs)) (aK hs)) (Vm hB 1)
end
section
variable {P:Pg}{X:Cx}{B:KT}{e a b c o:Expr}{es:List Expr}{pos pos' p apos cW:Pos}{fa fb fc fo:FE}{fl:FL}{env:Env}{x y:Str}{σ:St}{H H':Hp}{g g':G}{s s':S}{i:Nat}
theorem Io {m:Str}(hb:dO o=true) (hs:es.all noStar=true) (hl:es.length<30) (hp:(apos.endLine == pos.line)=true):AM X o m apos es pos:=by
 have hf:methodCallForm (es.length+0) (backTo pos (starEach es X.env)) (backToKw pos (keywordEach [] X.env))=true:=by
  unfold methodCallForm
  rw [jY hs]
  show (true&&true&&decide (es.length+0+0<30))=true
  rw [decide_eq_true (show es.length+0+0<30 by omega)];rfl
 refine ⟨(do return (<- importBound o X.env).getD true),?_⟩
 show (do
  let ov <- attributeBase o m X.env (eval o X.env)
  standAt apos.atName
  methodCall o m apos pos X.env ov (es.length+0) (backTo pos (starEach es X.env)) (backToKw pos (keywordEach [] X.env)))=_
 rw [jw hb]
 unfold methodCall
 rw [hf]
 unfold calleeOf methodCallPos
 rw [hp]
 rfl
theorem F4 {Pr:Program}{w:World}{K:PySem.W.Frag}{mg:Str->Option Value}{base:Heap}{n qual:Str}{st:Stmt}{f C:Addr}{fd:FuncData}{N ps ns:List Str}{k:Nat}(Fn:C7 K n qual st f fd) (Sc:e_ N ps (aJ st))
  (hv:∀ (i:Nat) (x:Str),N[i]?=some x->qR (aJ st) x/\(x == ("__debug__" : Str))=false/\(x == ("__classdict__" : Str))=false) (hi:j6 N 1 (b_ st) ns=true) (hl:ps.length=ns.length+1) (cl:mj K C) (na:∀ f∈ns,dQ K C f) (nd:ns.Nodup) (nT:ns.length<=100) :
  cV Pr w K mg base jl (k+1) f fd ps (spI C ns):=by
 refine Fn.ok Sc (fun vs H Q E h=>?_) (fun gn A outer s H vs Q E hr h=>?_)
 ·obtain ⟨x,dx,args,rfl,IU,_⟩:=h
  rw [List.length_cons,IU,hl]
 ·obtain ⟨x,dx,args,rfl,IU,hx,q⟩:=h
  refine ⟨WB K 1 ns,u2 (X:=(kR jl Pr w K mg base N qual (aJ st) f gn A outer s H E).GY) hv _ ns 1 hi,?_⟩
  exact u3 (N:=N) (D:={ nx:=fun _ H'=>Q .non H',rt:=Q }) cl ns [] args [] H na (by simpa using nd) (by simpa using nT) rfl IU rfl (by simpa using hx) (by simpa using q)
def spP (K:PySem.W.Frag) (C:Addr) (n:Str):Sp:=fun vs H Q _=>∃ x dx p ys,vs=[.ref x,.ref p]/\H x=some (.ins C dx [])/\c9 K H p ys/\∀ l,H l=none->Q .non (upd (upd H l (.lst ys)) x (.ins C dx [(n,.ref l)]))
noncomputable def jx:Stmt->Option (Str × Str × Str)
 | .Assign [.Attribute (.Name s0 _) f _] (.Call (.Name l _) [.Name q _] [] _) _=>if l=("list" : Str) then some (s0,f,q) else none
 | _=>none
theorem pS {st:Stmt}{z:Str × Str × Str}(h:jx st=some z):∃ p0 pf pq pl pc pos,st=.Assign [.Attribute (.Name z.1 p0) z.2.1 pf] (.Call (.Name "list" pl) [.Name z.2.2 pq] [] pc) pos:=by
 unfold jx at h
 split at h
 ·split at h
  ·rename_i e;cases h;subst e;exact ⟨_,_,_,_,_,_,rfl⟩
  ·cases h
 ·cases h
theorem AX {Pr:Program}{w:World}{K:PySem.W.Frag}{mg:Str->Option Value}{base:Heap}{nm qual s0 q n:Str}{st Vq:Stmt}{f C:Addr}{fd:FuncData}{N ps:List Str}{k:Nat}(Fn:C7 K nm qual st f fd) (Sc:e_ N ps (aJ st))
  (hb:b_ st=[Vq]) (h1:jx Vq=some (s0,n,q)) (h0:N[0]?=some s0) (hq:N[1]?=some q) (hv:∀ (i:Nat) (x:Str),N[i]?=some x->qR (aJ st) x/\(x == ("__debug__" : Str))=false/\(x == ("__classdict__" : Str))=false) (hm:mg "list" = none) (hg:(aJ st).names.lookup ("list" : Str)=some .globalImplicit) (hl:ps.length=2) (cl:mj K C) (na:dQ K C n) :
  cV Pr w K mg base jl (k+1) f fd ps (spP K C n):=by
 obtain ⟨p0,pf,pq,pl,pc,pos,rfl⟩:=pS h1
 refine Fn.ok Sc (fun vs H Q E h=>?_) (fun gn A outer s H vs Q E hr h=>?_)
 ·obtain ⟨x,dx,p,ys,rfl,_⟩:=h
  exact hl.symm
 ·obtain ⟨x,dx,p,ys,rfl,hx,hp,k⟩:=h
  obtain ⟨v1,v2,v3⟩:=hv 0 _ h0
  obtain ⟨w1,w2,w3⟩:=hv 1 _ hq
  rw [hb]
  refine ⟨_,uB (rl (dP h0 v1 v2 v3) (ly gU (X:=(kR jl Pr w K mg base N qual (aJ st) f gn A outer s H E).GY) hg hm PyProof.Rows.boot_list (bQ (dP hq w1 w2 w3) dD)) rfl),?_⟩
  refine ⟨.ref p,rfl,p,ys,rfl,.inl hp,fun l hl=>⟨.ref x,rfl,x,C,dx,[],rfl,?_,cl,na,by decide,k l hl⟩⟩
  rw [ay (fun e=>by subst e;rw [hl] at hx;cases hx)]
  exact hx
structure DnP (P:Pg) (Pr:Program) (w:World) (K:PySem.W.Frag) (mg:Str->Option Value) (base:Heap) (k:Nat) (c:Nat) (x:Str):Prop where
 ex:∃ (C fi:Addr) (fd:FuncData) (ps:List Str) (n:Str),fL (gF P K Pr w) c C [n]/\mg x=some (.ref C)/\Mk K C fi/\cV Pr w K mg base jl k fi fd ps (spP K C n)/\Binds K fd ps []
theorem Nb {k j c:Nat}(D:DnP P X.prog X.w X.K X.mg X.base k c x) (hr:bP j X.A) (ya:k+1<=j) (ha:PE X e (tE (P.kt X) fa)) (hg:Gl X x) (jJ:(x == ("__debug__" : Str))=false) (hs:noStar e=true) :
  PE X (.Call (.Name x p) [e] [] pos) (tE (P.kt X) (bD (Mw c) fa)):=by
 obtain ⟨C,fi,fd,ps,n,hC,hm,M,F,hb⟩:=D.ex
 refine bj (mq M F (hr.mono ya) hg hm hb .nil jK (bQ ha dD (aK hs)) jJ (aK hs) rfl) fun σ H Q ⟨g,s,t,s',z,h,k⟩=>?_
 obtain ⟨⟨tx,s1⟩,h1,h⟩:=af h
 obtain ⟨t',h2,h⟩:=af h
 cases h
 have h2:=aF h2
 cases tx<;>first | (cases h2;done) | skip
 rename_i ts
 cases h2
 refine ⟨g,s,_,_,z,h1,fun v g1 H1 p1 x1 r1 x dx nx nd gA=>?_⟩
 obtain ⟨q,vs,rfl,hq,rr⟩:=r1
 have g2:=Gr.new (o:=.own x) x1.sub nd
 have Zs:upd H1 dx (.own x) x=none:=by rw [ay (Ne.symm gA)];exact nx
 have Vr:H1 q=some (.lst vs):=x1.sub _ _ hq
 have qd:q≠dx:=fun e=>by subst e;rw [nd] at Vr;cases Vr
 have qx:q≠x:=fun e=>by subst e;rw [nx] at Vr;cases Vr
 refine ⟨x,dx,q,vs,rfl,aw,c9.of (by rw [ay qx,ay qd];exact Vr),fun l hl=>⟨rfl,?_⟩⟩
 have lx:l≠x:=fun e=>by subst e;rw [aw] at hl;cases hl
 have Wq:upd H1 dx (.own x) l=none:=by rw [ay lx] at hl;exact hl
 have ld:l≠dx:=fun e=>by subst e;rw [aw] at Wq;cases Wq
 have g3:=Gr.new (o:=.lst vs) g2.sub Wq
 have nx3:upd (upd H1 dx (.own x)) l (.lst vs) x=none:=by rw [ay (Ne.symm lx)];exact Zs
 have g4:=Gr.new (o:=.ins C dx [(n,.ref l)]) g3.sub nx3
 have e:upd (upd (upd (upd H1 dx (.own x)) x (.ins C dx [])) l (.lst vs)) x (.ins C dx [(n,.ref l)])=upd (upd (upd H1 dx (.own x)) l (.lst vs)) x (.ins C dx [(n,.ref l)]):=by
  funext b
  by_cases hb:b=x
  ·subst hb;rw [aw,aw]
  ·rw [ay hb,ay hb]
   by_cases hb2:b=l
   ·subst hb2;rw [aw,aw]
   ·rw [ay hb2,ay hb2,ay hb]
 rw [e]
 have gr:=(g2.trans g3).trans g4
 refine k _ (g1.grow _) _ (p1.trans (x1.eL gr)) (x1.grow gr) ⟨x,C,dx,[n],[.ref l],rfl,hC,aw,Nat.le_refl _,?_,.one ⟨l,vs,rfl,?_,rr.same gr.fr⟩⟩
 ·show upd (upd (upd g1.HF dx (.own x)) l (.lst vs)) x _ dx=_
  rw [ay gA,ay (Ne.symm ld),aw]
 ·show upd (upd (upd g1.HF dx (.own x)) l (.lst vs)) x _ l=_
  rw [ay lx,aw]
theorem u5 {K:PySem.W.Frag}{t:Value}:∀ {cs:List Value}{bs:List Bool},cs.length=bs.length->(∀ (i:Nat) (c:Value) (b:Bool),cs[i]?=some c->bs[i]?=some b->PySem.W.kitOne K t c=some b)->PySem.W.kitAny K t cs=some (bs.any id)
 | [],[],_,_=>rfl
 | [],_::_,h,_=>by cases h
 | _::_,[],h,_=>by cases h
 | c::cs,b::bs,hl,h=>by
  have h1:=h 0 c b rfl rfl
  have h2:=u5 (cs:=cs) (bs:=bs) (by simpa using hl) fun i c b e1 e2=>h (i+1) c b (by simpa using e1) (by simpa using e2)
  unfold PySem.W.kitAny
  rw [h1]
  cases b with
  | true=>rfl
  | false=>exact h2
def namesOf:List Expr->Option (List Str)
 | []=>some []
 | .Name x _::es=>(namesOf es).map (x::·)
 | _=>none
theorem pU {Ds:List Addr}:∀ {es:List Expr}{ys:List Str}{Ds:List Addr},namesOf es=some ys->ys.length=Ds.length->(∀ (i:Nat) (y:Str) (D:Addr),ys[i]?=some y->Ds[i]?=some D->Gl X y/\X.mg y=some (.ref D)/\(y == ("__debug__" : Str))=false)->PA X es (fun _ H Q=>Q (Ds.map V.ref) H)
 | [],_,Ds,h,hl,_=>by
  cases h
  cases Ds with
  | nil=>exact dD
  | cons=>cases hl
 | e::es,ys,Ds,h,hl,k=>by
  cases e<;>first | (cases h;done) | skip
  rename_i x px
  obtain ⟨zs,h1,rfl⟩:=Option.map_eq_some_iff.mp (show (namesOf es).map (x::·)=some ys from h)
  cases Ds with
  | nil=>cases hl
  | cons D Ds=>
   obtain ⟨k1,k2,k3⟩:=k 0 x D rfl rfl
   exact bQ (l8 (v:=.ref D) k1 k2 rfl k3) (pU (Ds:=Ds) h1 (by simpa using hl) fun i y D e1 e2=>k (i+1) y D (by simpa using e1) (by simpa using e2)) rfl
theorem Vt (O:mU X.K X.mg P) {ds:List Nat}{ys:List Str}{x1:Nat}{jI:Pos}(hys:namesOf es=some ys) (hd:ys.length=ds.length) (hy:∀ (i d:Nat) (y:Str),ds[i]?=some d->ys[i]?=some y->P.cn[d]?=some y/\(P.fn[d]?).isSome=true/\Gl X y/\(y == ("__debug__" : Str))=false)
  (hl:es.length<=100) (hm:X.mg "isinstance" = none) (ha:PE X a (tE (P.kt X) fa)) (hg:Gl X "isinstance") (hs:noStar a=true) :
  PE X (.Call (.Name "isinstance" p) [a,.Tuple es x1 jI] [] pos) (tE (P.kt X) (bD (cy P.sub ds) fa)):=by
 have cls:∀ (ds:List Nat) (ys:List Str),ys.length=ds.length->(∀ (i d:Nat) (y:Str),ds[i]?=some d->ys[i]?=some y->P.cn[d]?=some y/\(P.fn[d]?).isSome=true/\Gl X y/\(y == ("__debug__" : Str))=false)->∃ Ds:List Addr,Ds.length=ds.length/\∀ (i:Nat) (y:Str) (D:Addr),ys[i]?=some y->Ds[i]?=some D->X.mg y=some (.ref D):=by
  intro ds
  induction ds with
  | nil=>intro ys hl _;exact ⟨[],rfl,fun i y D _ h=>by simp at h⟩
  | cons d ds ih=>
   intro ys hl h
   cases ys with
   | nil=>cases hl
   | cons y ys=>
    obtain ⟨h1,h2,_⟩:=h 0 d y rfl rfl
    obtain ⟨ns,uG⟩:=Option.isSome_iff_exists.mp h2
    obtain ⟨D,F⟩:=O.cls d y ns h1 uG
    obtain ⟨Ds,hD,k⟩:=ih ys (by simpa using hl) fun i d y e1 e2=>h (i+1) d y (by simpa using e1) (by simpa using e2)
    refine ⟨D::Ds,by simp [hD],fun i y' D' e1 e2=>?_⟩
    cases i with
    | zero=>simp at e1 e2;subst e1 e2;exact F.gl
    | succ i=>exact k i y' D' (by simpa using e1) (by simpa using e2)
 obtain ⟨Ds,ZA,hDs⟩:=cls ds ys hd hy
 have get:∀ (i:Nat) (y:Str),ys[i]?=some y->∃ d,ds[i]?=some d:=fun i y h=>by
  have:=(List.getElem?_eq_some_iff.mp h).1
  exact ⟨_,List.getElem?_eq_getElem (by omega)⟩
 have names:=pU (X:=X) (Ds:=Ds) hys (by rw [hd,ZA]) fun i y D e1 e2=>by
  obtain ⟨d,e3⟩:=get i y e1
  obtain ⟨_,_,h3,h4⟩:=hy i d y e3 e1
  exact ⟨h3,hDs i y D e1 e2,h4⟩
 refine bj (fS AW hg hm PyProof.Rows.boot_isinstance (bQ ha (bQ (yU names) dD rfl) (aK hs)) (he:=aK hs) (hpl:=rfl)) fun σ H Q ⟨g,s,t,s',x,h,k⟩=>?_
 obtain ⟨⟨tx,s1⟩,h1,h⟩:=af h
 obtain ⟨t',h2,h⟩:=af h
 cases h
 refine ⟨g,s,_,_,x,h1,fun v g1 H1 p1 x1 r1=>?_⟩
 have h2:=aF h2
 cases tx<;>first | (cases h2;done) | skip
 obtain ⟨l,IU,rfl⟩:=Option.map_eq_some_iff.mp h2
 obtain ⟨b,C,dx,Cs,vs,rfl,hC,hq,hle,hdx,r⟩:=r1
 obtain ⟨m,Zp,Zq,F⟩:=O.of hC
 have hlen:ys.length=es.length:=by
  have:∀ (es:List Expr) (ys:List Str),namesOf es=some ys->ys.length=es.length:=by
   intro es
   induction es with
   | nil=>intro ys h;cases h;rfl
   | cons e es ih=>
    intro ys h
    cases e<;>first | (cases h;done) | skip
    rename_i x px
    obtain ⟨zs,h1,rfl⟩:=Option.map_eq_some_iff.mp (show (namesOf es).map (x::·)=some ys from h)
    rw [List.length_cons,List.length_cons,ih zs h1]
  exact this es ys hys
 refine ⟨by rw [List.length_map,ZA,<- hd,hlen,sizeLine_eq];omega,fun tp htp=>?_⟩
 have g2:=Gr.new (o:=.tup (Ds.map V.ref)) x1.sub htp
 have kit:=u5 (K:=X.K) (t:=.ref C) (cs:=Ds.map Value.ref) (bs:=ds.map fun d=>decide (d∈l)) (by rw [List.length_map,List.length_map,ZA]) fun i c bb e1 e2=>by
  rw [List.getElem?_map] at e1 e2
  obtain ⟨D,e3,rfl⟩:=Option.map_eq_some_iff.mp e1
  obtain ⟨d,e4,rfl⟩:=Option.map_eq_some_iff.mp e2
  have hi:i<ys.length:=by rw [hd];exact (List.getElem?_eq_some_iff.mp e4).1
  have e5:ys[i]?=some ys[i]:=List.getElem?_eq_getElem hi
  obtain ⟨f1,_⟩:=hy i d _ e4 e5
  exact O.sub _ d m _ C D l Zp f1 F.gl (hDs i _ D e5 e3) IU
 refine ⟨b,C,dx,tp,_,Ds,_,rfl,g2.sub _ _ (g2.fr _ _ hq),F.cl,F.ca,O.gt.1,O.gt.2,F.mo,aw,kit,?_⟩
 have:=k (V.bl (ds.any fun d=>decide (d∈l))) (g1.grow _) _ (p1.trans (x1.eL g2)) (x1.grow g2) rfl
 rw [List.any_map]
 exact this
def lM (u v:List Nat):T->Option T
 | .str l=>gd (l.length<=100000) (.str (u++l++v))
 | _=>none
theorem Nc {k1 k2:Nat}{x y:Str}{p1 p2 p3:Pos}(hB:B.K=X.K) (ha:PE X a (tE B fa)) (hl:x.length<=1000) (hm:y.length<=1000) :
  PE X (.JoinedStr [.Constant (.str x) k1 p1,.FormattedValue a (-1) none p2,.Constant (.str y) k2 p3] pos) (tE B (bD (lM x.cps.toList y.cps.toList) fa)):=by
 obtain ⟨⟨u⟩⟩:=x
 obtain ⟨⟨v⟩⟩:=y
 have hl:u.length<=1000:=by rw [<- eo u];exact hl
 have hm:v.length<=1000:=by rw [<- eo v];exact hm
 refine bj (F1 ha (by show (⟨u.toArray⟩:Str).length<=_;rw [eo,sizeLine_eq];omega)) (Ag hB fun B hB al HF H x t tx Q sm rx h k=>?_)
 cases tx<;>first | (cases h;done) | skip
 rename_i n
 obtain ⟨z,rfl⟩:=bF h
 obtain ⟨rfl,hz⟩:=rx
 refine ⟨_,rfl,by show (⟨u.toArray⟩:Str).length+_+(⟨v.toArray⟩:Str).length<=_;rw [eo,eo,eo,sizeLine_eq];omega,k _ HF H (.refl sm) ⟨?_,by rw [List.length_append,List.length_append];show u.length+_+v.length<=_;omega⟩⟩
 show V.str _=V.str _
 congr 1
 show (⟨(((#[]:Array Nat)++u.toArray)++n.toArray)++v.toArray⟩:Str)=⟨(u++n++v).toArray⟩
 congr 1
 simp
theorem F5 (hB:B.K=X.K) {px:Pos}(hN:X.N[i]?=some y) (hv:qR X.env.scope y) (hd:(y == ("__debug__" : Str))=false) (jj:(y == ("__classdict__" : Str))=false) (hg:Gl X "len") (hm:X.mg "len" = none) :
  PE X (.Call (.Name "len" p) [.Name y px] [] pos) (tE B (HS i)):=by
 refine bj (fS oi hg hm PySem.boot_len (bQ (dP hN hv hd jj) dD rfl) (he:=rfl) (hpl:=rfl)) fun σ H Q ⟨g,s,t,s',x,h,k⟩=>?_
 obtain ⟨ts,h1,h⟩:=af h
 cases h
 obtain ⟨l,vs,w1,w2,w3,w4⟩:=x.AV (ik (aF h1))
 exact ⟨_,w1,_,_,rfl,.inl ⟨vs,c9.of w3,w4.len⟩,k _ g H .refl x rfl⟩
theorem Nd {px:Pos}(hN:X.N[i]?=some y) (hv:qR X.env.scope y) (hd:(y == ("__debug__" : Str))=false) (jj:(y == ("__classdict__" : Str))=false) (hb:PE X b (tE B fb)) (hs:jt b) :
  PE X (.Subscript (.Name y px) b pos) (tE B (Up i fb)):=by
 refine bj (G5 uF (dP hN hv hd jj) hb hs) fun σ H Q ⟨g,s,t,s',x,h,k⟩=>?_
 obtain ⟨us,h0,h⟩:=af h
 obtain ⟨⟨ty,s1⟩,h1,h⟩:=af h
 obtain ⟨ts,h2,h⟩:=af h
 obtain ⟨t',h3,h⟩:=af h
 cases h
 obtain ⟨l,vs,w1,w2,w3,w4⟩:=x.AV (ik (aF h0))
 refine ⟨_,w1,g,s,ty,_,x,h1,fun v g1 H1 p1 x1 r1=>?_⟩
 obtain ⟨l',fh,q1,q2,q3,q4⟩:=x1.AV (ik (aF h2))
 rw [w1] at q1;cases q1
 have h3:=aF h3
 cases ty<;>first | (cases h3;done) | skip
 obtain ⟨w,e,Jy⟩:=mS q4 (show atT ts _=some _ from h3)
 exact ⟨l,fh,_,w,rfl,r1,c9.of q3,e,k w g1 H1 p1 x1 Jy⟩
def u6:T->T->Option T
 | .int i,.int j=>some (.int (i+j))
 | _,_=>none
theorem Vu (hN:X.N.Nodup) (hi:X.N[i]?=some x) (hx:Loc X.env.scope x) (he:PE X e (tE B fa)) (hf:X.fn x=true\/X.env.scope.names.lookup x=some .local) :
  PS X (.AugAssign (.Name x pos') .Add e pos) (tS B (Aa u6 i fa)):=df (Jg hN hi hx he Jh hf) fun D σ H ⟨g,s,o,s',z,h,k⟩=>by
 unfold Aa at h
 split at h
 ·rename_i tx hr
  obtain ⟨⟨ty,s1⟩,h1,h⟩:=af h
  obtain ⟨t,h2,h⟩:=af h
  cases h
  obtain ⟨v,hv,rv⟩:=z.lc.at_ i _ hr
  have h2:=aF h2
  cases tx<;>first | (cases h2;done) | (cases ty<;>first | (cases h2;done) | skip)
  cases h2
  cases (show v=V.int _ from rv)
  refine ⟨_,hv,g,s,_,s1,z,h1,fun w g1 H1 p1 x1 r1=>?_⟩
  cases (show w=V.int _ from r1)
  exact ⟨_,_,rfl,rfl,k _ g1 H1 p1 (x1.set (t:=.int _) rfl)⟩
 ·cases h
def u7 (K:PySem.W.Frag) (mg:Str->Option Value) (x:Str) (t:T):Prop:=∃ u v,mg x=some u/\RelV v u/\∀ (B:KT) (al:List Addr) (H:Hp),B.K=K->Rep B al H t v
theorem Vv {t:T}(h:u7 X.K X.mg x t) (hB:B.K=X.K) (hg:Gl X x) (hd:(x == ("__debug__" : Str))=false):PE X (.Name x pos) (tE B (cF t)):=by
 obtain ⟨u,v,h1,h2,h3⟩:=h
 exact hU (l8 hg h1 h2 hd) fun al H=>h3 B al H hB
theorem Vw {body:List Stmt}{h0:ExceptHandler}{hs:List ExceptHandler}{t:TS}(hxe:X.xe=fun _ _=>False) (h:gP X body t):PS X (.Try body (h0::hs) [] [] pos) t:=fun pins s σ H D I q=>by
 refine wpAny_Try_except (wpAny_mono (h pins s σ H D I q) (fun f s1 z=>?_) fun e s1 z=>?_)
 ·cases f with
  | next=>exact wpAny_execs_nil z
  | brk=>exact z
  | cont=>exact z
  | ret u=>exact z
 ·rw [hxe] at z;exact z.elim
end
def F6 (neg:Bool):T->T->Option T
 | x,.dz ks _=>(z8 x).map fun k=>.bl (if neg then !decide (k∈ks) else decide (k∈ks))
 | _,_=>none
def aN (op:CmpOp) (x y:T):Option T:=match op,y with
 | .In,.dz ks vs=>F6 false x (.dz ks vs)
 | .NotIn,.dz ks vs=>F6 true x (.dz ks vs)
 | op,y=>Fw op x y
def Oq:Option (Option C)->Option (List Ky × List T)
 | some (some (.od ks ts))=>some (ks,ts)
 | _=>none
def u9:CmpOp->Option Bool
 | .In=>some false
 | .NotIn=>some true
 | _=>none
def Vx (neg:Bool) (i:Nat) (a:FE):FE:=fun s=>(a s).bind fun p=>(dh (Oq p.2.r[i]?)).bind fun d=>(dh (z8 p.1)).bind fun k=>.ok (.bl (if neg then !decide (k∈d.1) else decide (k∈d.1)),p.2)
def ZC (i:Nat) (s:S):Bool:=(Oq s.r[i]?).isSome
def Nf (op:CmpOp) (neg:Bool) (i:Nat) (a:FE):FE:=fun s=>if ZC i s then Vx neg i a s else bB (aN op) a (vF i) s
def AY (i:Nat):FS:=fun s=>.ok (.nx,ju s i (.od [] []))
def il (ks:List Ky) (ts:List T) (k:Ky) (t:T):List Ky × List T:=if k∈ks then (ks,(ks.zip ts).map fun p=>if p.1=k then t else p.2) else (ks++[k],ts++[t])
def u_ (i:Nat) (b a:FE):FS:=fun s=>(a s).bind fun p=>(b p.2).bind fun q=>(dh (Oq p.2.r[i]?)).bind fun _=>(dh (Oq q.2.r[i]?)).bind fun d=>(dh (z8 q.1)).bind fun k=>(dh (gd (d.1.length<1000000) ())).bind fun _=>.ok (.nx,ju q.2 i (let z:=il d.1 d.2 k p.1;.od z.1 z.2))
def F7:List Nat->List Nat->List Nat:=Pf.fF
def m_:T->Option T
 | .str l=>gd (l.all (· < 128)=true/\l.length<=4000) (.int ((F7 [] l).length:Nat))
 | _=>none
section
variable {B:KT}{X:Cx}{e a b c o:Expr}{es:List Expr}{pos pos' jP p p1 apos cW:Pos}{fa fb fc fo:FE}{fl:FL}{env:Env}{x y:Str}{σ:St}{H H':Hp}{g g':G}{s s':S}{i:Nat}{al:List Addr}
theorem vc {a b:Ky}(h:jT a=jT b):a=b:=by
 cases a<;>cases b
 ·injection h with h;rw [h]
 ·cases h
 ·cases h
 ·injection h with h
  injection h with h
  have h:=congrArg Array.toList h
  dsimp only at h
  rw [h]
theorem nc {t:T}{v:V}{k:Ky}(h:z8 t=some k) (r:Rep B al H t v):v=kV (jT k):=by
 cases t<;>first | (cases h;done) | skip
 ·cases h;exact r
 ·cases h;exact r.1
theorem ni:∀ {ks:List Ky}{vs:List V},ks.length=vs.length->∀ k,(iI ((ks.map jT).zip vs) (jT k)).isSome=decide (k∈ks)
 | [],_,_,k=>by simp [iI]
 | q::ks,[],h,_=>by cases h
 | q::ks,v::vs,h,k=>by
  rw [List.map_cons,List.zip_cons_cons]
  by_cases e:q=k
  ·rw [gX (p:=(jT q,v)) (by rw [e])]
   simp [e]
  ·rw [gY (p:=(jT q,v)) (fun z=>e (vc z)),ni (Nat.succ.inj h) k]
   have:(k∈q::ks) ↔ (k∈ks):=⟨fun z=>(List.mem_cons.mp z).elim (fun z=>absurd z.symm e) id,List.mem_cons_of_mem _⟩
   simp only [this]
theorem vd {k:Ky}{v:V}{t:T}(rt:Rep B al H t v):∀ {ks:List Ky}{vs:List V}{ts:List T},ks.length=vs.length->aH B al H ts vs ->
  ((ks.map jT).zip vs).map (fun kv=>if kv.1=jT k then (kv.1,v) else kv)=(ks.map jT).zip ((ks.zip vs).map fun p=>if p.1=k then v else p.2)/\ks.length=((ks.zip vs).map fun p=>if p.1=k then v else p.2).length/\aH B al H ((ks.zip ts).map fun p=>if p.1=k then t else p.2) ((ks.zip vs).map fun p=>if p.1=k then v else p.2)
 | [],[],_,_,r=>⟨rfl,rfl,by cases ‹List T›<;>exact rfl⟩
 | q::ks,[],_,h,_=>by cases h
 | [],_::_,_,h,_=>by cases h
 | q::ks,u::vs,ts,h,r=>by
  cases ts with
  | nil=>cases (show u::vs=[] from r)
  | cons t' ts=>
   obtain ⟨u',fh,e,ru,rs⟩:=r
   cases e
   obtain ⟨h1,h2,h3⟩:=vd rt (ks:=ks) (vs:=vs) (ts:=ts) (Nat.succ.inj h) rs
   refine ⟨?_,?_,?_⟩
   ·simp only [List.map_cons,List.zip_cons_cons] at h1 ⊢
    rw [h1]
    by_cases e:q=k
    ·rw [if_pos (by rw [e]),if_pos e]
    ·rw [if_neg (fun z=>e (vc z)),if_neg e]
   ·simp only [List.zip_cons_cons,List.map_cons,List.length_cons]
    rw [<- h2]
   ·simp only [List.zip_cons_cons,List.map_cons]
    refine ⟨_,_,rfl,?_,h3⟩
    by_cases e:q=k
    ·rw [if_pos e,if_pos e];exact rt
    ·rw [if_neg e,if_neg e];exact ru
theorem Ng {ks:List Ky}{ts:List T}{vs:List V}{k:Ky}{t:T}{v:V}(hl:ks.length=vs.length) (r:aH B al H ts vs) (rt:Rep B al H t v) :
  ∃ fh,L2.putK ((ks.map jT).zip vs) (jT k) v=((il ks ts k t).1.map jT).zip fh/\(il ks ts k t).1.length=fh.length/\aH B al H (il ks ts k t).2 fh:=by
 unfold L2.putK il
 rw [jO,ni hl]
 by_cases e:k∈ks
 ·rw [if_pos (decide_eq_true e),if_pos e]
  obtain ⟨h1,h2,h3⟩:=vd (k:=k) rt hl r
  exact ⟨_,h1,h2,h3⟩
 ·rw [if_neg (by simpa using e),if_neg e]
  refine ⟨vs++[v],?_,by simp [hl],r.app (.one rt)⟩
  rw [List.map_append,List.zip_append (by rw [List.length_map];exact hl)]
  rfl
def Ot (neg:Bool):R2:=fun x y H Q=>∃ a o,y=.ref a/\z3 H a x o/\Q (.bl (if neg then !o.isSome else o.isSome)) H
theorem AZ (hu:X.A.units+1<cLine):eE X (compareOp .In) (Ot false):=fun pins s σ H x y v u Q I rx ry ⟨a,o,ey,g,q⟩=>by
 subst ey
 obtain rfl:u=Value.ref a:=ry
 exact YL hu I g rx fun s3 I3=>⟨.bl o.isSome,H,I3,rfl,q⟩
theorem ve (hu:X.A.units+1<cLine):eE X (compareOp .NotIn) (Ot true):=fun pins s σ H x y v u Q I rx ry ⟨a,o,ey,g,q⟩=>by
 subst ey
 obtain rfl:u=Value.ref a:=ry
 exact E_ hu I g rx fun s3 I3=>⟨.bl (!o.isSome),H,I3,rfl,q⟩
theorem Ip (neg:Bool):kY X (F6 neg) (Ot neg):=fun B hB al HF H x y t tx ty Q sm rx ry h k=>by
 unfold F6 at h
 split at h
 case h_2=>cases h
 rename_i ks ts
 obtain ⟨kk,h1,rfl⟩:=Option.map_eq_some_iff.mp h
 obtain ⟨a,vs,rfl,h2,h3,h4⟩:=ry
 rw [nc h1 rx]
 refine ⟨a,_,rfl,.k (sm _ _ h2),?_⟩
 rw [ni h3]
 exact k _ HF H (.refl sm) rfl
theorem jy {op:CmpOp}{k:Nat}(hr:bP k X.A):∃ r,eE X (compareOp op) r/\kY X (aN op) r:=by
 have hu:X.A.units+1<cLine:=by have:=hr.units;omega
 obtain ⟨r,h1,h2⟩:=MG (op:=op) hr
 have ZD:(∀ x y,aN op x y=Fw op x y)->∃ r,eE X (compareOp op) r/\kY X (aN op) r:=fun z=>⟨r,h1,by
  have:aN op=Fw op:=funext fun x=>funext fun y=>z x y
  rw [this];exact h2⟩
 cases op
 case In=>exact ⟨_,h1.or (AZ hu),fun B hB al HF H x y t tx ty Q sm rx ry h k=>by
  unfold aN at h
  split at h
  ·exact .inr (Ip false B hB al HF H x y t tx _ Q sm rx ry h k)
  ·rename_i q;cases q
  ·exact .inl (h2 B hB al HF H x y t tx _ Q sm rx ry h k)⟩
 case NotIn=>exact ⟨_,h1.or (ve hu),fun B hB al HF H x y t tx ty Q sm rx ry h k=>by
  unfold aN at h
  split at h
  ·rename_i q;cases q
  ·exact .inr (Ip true B hB al HF H x y t tx _ Q sm rx ry h k)
  ·exact .inl (h2 B hB al HF H x y t tx _ Q sm rx ry h k)⟩
 all_goals exact ZD fun x y=>by cases y<;>rfl
theorem Nh {op:CmpOp}{k:Nat}(hB:B.K=X.K) (hr:bP k X.A) (ha:PE X a (tE B fa)) (hb:PE X b (tE B fb)) (hm:behindInMarks op b=false):PE X (.Compare a [op] [b] pos) (tE B (bB (aN op) fa fb)):=by
 obtain ⟨r,ho,hl⟩:=jy (op:=op) hr
 exact bj (mf ho ha hb hm) (f6 hB hl)
theorem F8 {op:CmpOp}{k:Nat}(hB:B.K=X.K) (hr:bP k X.A) (ha:PE X a (tE B fa)) (hb:PE X b (tE B fb)) (hm:behindInMarks op b=false):PT X (.Compare a [op] [b] pos) (tT B (a_ (bB (aN op) fa fb))):=by
 obtain ⟨r,ho,hl⟩:=jy (op:=op) hr
 exact Ad (mh ho ha hb hm) fun σ H Q q=>f6 hB hl σ H _ (Ie q)
theorem nj {q:Option (Option C)}{d:List Ky × List T}(h:Oq q=some d):q=some (some (.od d.1 d.2)):=by
 unfold Oq at h
 split at h
 ·cases h;rfl
 ·cases h
theorem SR.Ni (x:SR B g H σ s) {ks:List Ky}{ts:List T}(h:s.r[i]?=some (some (.od ks ts))):∃ l vs,σ[i]?=some (some (.ref l))/\g.o l=some (.loc i)/\H l=some (.dK ((ks.map jT).zip vs))/\ks.length=vs.length/\aH B g.al g.HF ts vs:=by
 obtain ⟨v,h1,l,vs,rfl,h2,h3,h4,h5⟩:=x.lc.at_ i _ h
 exact ⟨l,vs,h1,h2,h3,h4,h5⟩
theorem A0 {neg:Bool}:∀ σ H Q,tE B (Vx neg i fa) σ H Q->G1 (Ot neg) (tE B fa) (yH i) σ H Q:=by
 rintro σ H Q ⟨g,s,t,s',x,h,k⟩
 obtain ⟨⟨tx,s1⟩,h1,h⟩:=af h
 obtain ⟨d,h2,h⟩:=af h
 obtain ⟨kk,h3,h⟩:=af h
 cases h
 refine ⟨g,s,tx,_,x,h1,fun v g1 H1 p1 x1 r1=>?_⟩
 obtain ⟨l,vs,w1,w2,w3,w4,w5⟩:=x1.Ni (nj (aF h2))
 refine ⟨_,w1,?_⟩
 rw [nc (aF h3) r1]
 refine ⟨l,_,rfl,.k w3,?_⟩
 rw [ni w4]
 exact k _ g1 H1 p1 x1 rfl
theorem pV {op:CmpOp}{neg:Bool}(hu:X.A.units+1<cLine) (h:u9 op=some neg):eE X (compareOp op) (Ot neg):=by
 cases op<;>first | (cases h;done) | skip
 ·cases h;exact AZ hu
 ·cases h;exact ve hu
theorem Vy {op:CmpOp}{neg:Bool}{k:Nat}{py:Pos}(hB:B.K=X.K) (hr:bP k X.A) (hn:u9 op=some neg) (ha:PE X a (tE B fa)) (hN:X.N[i]?=some y) (hv:qR X.env.scope y) (hd:(y == ("__debug__" : Str))=false) (jj:(y == ("__classdict__" : Str))=false) :
  PE X (.Compare a [op] [.Name y py] pos) (tE B (Nf op neg i fa)):=by
 have hu:X.A.units+1<cLine:=by have:=hr.units;omega
 obtain ⟨r,ho,hl⟩:=jy (op:=op) hr
 have hm:behindInMarks op (.Name y py)=false:=by cases op<;>rfl
 refine AL (ι:=Bool) (C:=fun _=>True) (t:=fun q=>if q then G1 (Ot neg) (tE B fa) (yH i) else G1 r (tE B fa) (tE B (vF i))) (fun q _=>?_) fun σ H Q ⟨g,s,t,s',x,h,kk⟩=>?_
 ·cases q
  ·exact mf ho ha (Af hN hv hd jj) hm
  ·exact mf (pV hu hn) ha (dP hN hv hd jj) hm
 ·unfold Nf at h
  split at h
  ·exact ⟨true,trivial,A0 σ H Q ⟨g,s,t,s',x,h,kk⟩⟩
  ·exact ⟨false,trivial,f6 hB hl σ H Q ⟨g,s,t,s',x,h,kk⟩⟩
theorem Nj {op:CmpOp}{neg:Bool}{k:Nat}{py:Pos}(hB:B.K=X.K) (hr:bP k X.A) (hn:u9 op=some neg) (ha:PE X a (tE B fa)) (hN:X.N[i]?=some y) (hv:qR X.env.scope y) (hd:(y == ("__debug__" : Str))=false) (jj:(y == ("__classdict__" : Str))=false) :
  PT X (.Compare a [op] [.Name y py] pos) (tT B (a_ (Nf op neg i fa))):=by
 have hu:X.A.units+1<cLine:=by have:=hr.units;omega
 obtain ⟨r,ho,hl⟩:=jy (op:=op) hr
 have hm:behindInMarks op (.Name y py)=false:=by cases op<;>rfl
 have h1:=mh (pos:=pos) ho ha (Af (B:=B) hN hv hd jj) hm
 have h2:=mh (pos:=pos) (pV hu hn) ha (dP hN hv hd jj) hm
 intro pins s0 σ H Q I q
 obtain ⟨g,s,t,s',x,h,kk⟩:=Ie q
 unfold Nf at h
 split at h
 ·exact h2 pins s0 σ H Q I (A0 σ H _ ⟨g,s,t,s',x,h,kk⟩)
 ·exact h1 pins s0 σ H Q I (f6 hB hl σ H _ ⟨g,s,t,s',x,h,kk⟩)
theorem A1 (hc:X.calm=true) (YO:X.mg "len" = none) (YQ:X.mg "set" = none) (ha:PE X a (tE B fa)) (YR:Gl X "len") (YS:Gl X "set") (hs:noStar a=true) :
  PE X (.Call (.Name "len" p) [.Call (.Name "set" p1) [a] [] jP] [] pos) (tE B (bD m_ fa)):=by
 refine bj (xY hc YO YQ ha YR YS (aK hs) rfl rfl rfl) fun σ H Q ⟨g,s,t,s',x,h,k⟩=>?_
 obtain ⟨⟨tx,s1⟩,h1,h⟩:=af h
 obtain ⟨t',h2,h⟩:=af h
 cases h
 have h2:=aF h2
 cases tx<;>first | (cases h2;done) | skip
 obtain ⟨z,rfl⟩:=bF h2
 refine ⟨g,s,_,_,x,h1,fun v g1 H1 p1 x1 r1=>?_⟩
 obtain ⟨rfl,hz⟩:=r1
 refine ⟨_,rfl,?_,?_,k _ g1 H1 p1 x1 rfl⟩
 ·rw [List.all_toArray];exact z.1
 ·rw [List.size_toArray]
  show _+1<4096
  have:=z.2
  omega
theorem Nk {dp:Pos}(hN:X.N.Nodup) (hi:X.N[i]?=some x) (hx:Loc X.env.scope x) (hf:X.fn x=true\/X.env.scope.names.lookup x=some .local) :
  PS X (.Assign [.Name x pos'] (.Dict [] [] dp) pos) (tS B (AY i)):=df (qW hN hi hx z5 rfl hf) fun D σ H ⟨g,s,o,s',x,h,k⟩=>by
 cases h
 intro q hq
 obtain ⟨gr,n1,n2⟩:=Ab (u:=.dK []) x hq
 have x1:=x.grow gr
 have p1:=x.eL gr
 refine k _ ((g.grow g.HF).own q (.loc i)) _ ⟨p1.fr,p1.pre,fun b u h n z=>?_,p1.there⟩ (x1.Y3 (ks:=[]) (ts:=[]) (vs:=[]) n2 n1 aw rfl rfl)
 obtain ⟨a,b',c⟩:=p1.rest b u h n z
 have:b≠q:=aT h hq
 exact ⟨a,b',by show (if b=q then some (iM.loc i) else g.o b)=none;rw [if_neg this];exact c⟩
theorem Nl {py:Pos}{k:Nat}(hr:bP k X.A) (he:PE X e (tE B fa)) (hb:PE X b (tE B fb)) (hN:X.N[i]?=some y) (hv:qR X.env.scope y) (hd:(y == ("__debug__" : Str))=false) (jj:(y == ("__classdict__" : Str))=false)
  (hs:swapsWith e (some (.Subscript (.Name y py) b pos')) pos.line X.env=pure false) :
  PS X (.Assign [.Subscript (.Name y py) b pos'] e pos) (tS B (u_ i fb fa)):=by
 have hu:X.A.units+1<cLine:=by have:=hr.units;omega
 refine df (Fb hu (dP hN hv hd jj) hb he hs) fun D σ H ⟨g,s,o,s',x,h,k⟩=>?_
 obtain ⟨⟨t,s1⟩,h1,h⟩:=af h
 obtain ⟨⟨tk,s2⟩,h2,h⟩:=af h
 obtain ⟨d0,h3,h⟩:=af h
 obtain ⟨d,h4,h⟩:=af h
 obtain ⟨kk,h5,h⟩:=af h
 obtain ⟨_,h6,h⟩:=af h
 obtain ⟨z,_⟩:=bF (aF h6)
 cases h
 refine ⟨g,s,t,s1,x,h1,fun v g1 H1 p1 x1 r1=>?_⟩
 obtain ⟨l,vs,w1,w2,w3,w4,w5⟩:=x1.Ni (nj (aF h3))
 refine ⟨_,w1,g1,s1,tk,s2,x1,h2,fun u g2 H2 p2 x2 r2=>?_⟩
 have ho:=nj (aF h4)
 obtain ⟨l',fh,q1,q2,q3,q4,q5⟩:=x2.Ni ho
 rw [w1] at q1;cases q1
 obtain ⟨WA,e1,e2,e3⟩:=Ng (k:=kk) q4 q5 (r1.mv p2.pre p2.fr)
 obtain ⟨x3,p3⟩:=x2.Y4 ho w1 e2 e3
 rw [nc (aF h5) r2]
 refine ⟨l,_,rfl,.k q3 ?_,?_⟩
 ·rw [List.length_zip,List.length_map,sizeLine_eq]
  have:d.1.length<1000000:=z
  omega
 ·rw [e1]
  exact k σ g2 _ ((p1.trans p2).trans p3) x3
end
end D
namespace D
open PySem
structure Lc where
 N:List Str
 sc:Scope
 mu:List Str
inductive Ck where
 | fz (c n:Nat) | z0 (c:Nat) | cp (c:Nat) | nw (c i:Nat)
structure Gm where
 P:Pg
 cs:List (Str × T)
 fs:List (Str × List T × Nat)
 cl:List (Str × Ck)
 ms:List (Str × List (Nat × Nat))
 bl:List Str
def jz (N:List Str) (x:Str):Option Nat:=N.idxOf? x
def lN (x:Str):Bool:=x == ("__debug__" : Str) || x == ("__classdict__" : Str)
def iQ (L:Lc) (x:Str):Bool:=match L.sc.names.lookup x with
 | some .local=>!lN x
 | some .cell=>!lN x
 | _=>false
def A2 (L:Lc) (x:Str):Bool:=decide (L.sc.names.lookup x=some .globalImplicit)&&!lN x
structure Rc where
 E:Lc->Expr->FE
 T:Lc->Expr->FT
 I:Lc->Expr->Expr->FL
 O:Lc->Expr->FL
def dM:List FE->FL
 | []=>c_
 | a::r=>cM a (dM r)
def Nn:List FE->FE
 | []=>cP
 | [a]=>a
 | a::r=>YY a (Nn r)
def A3:List FE->FE
 | []=>cP
 | [a]=>a
 | a::r=>dq a (A3 r)
def Np:List FT->FT
 | []=>mF
 | [a]=>a
 | a::r=>eS a (Np r)
def A4:List FT->FT
 | []=>mF
 | [a]=>a
 | a::r=>ee a (A4 r)
def A5 (sc outer:Scope):Scope:={ sc with names:=sc.names.map fun (n,k)=>if (k == NameKind.free&&outer.kind == .function&&outer.names.lookup n == some .cell) then (n,NameKind.cell) else (n,k) }
def locals (sc:Scope):List Str:=sc.names.filterMap fun p=>if p.2=.local then some p.1 else none
def frees (sc:Scope):List Str:=sc.names.filterMap fun p=>if p.2=.free then some p.1 else none
def idxs (N:List Str):List Str->Option (List Nat)
 | []=>some []
 | x::xs=>(jz N x).bind fun i=>(idxs N xs).map (i::·)
def Nq (L:Lc) (sc:Scope):Bool:=decide (sc.kind=.function)&&sc.names.all (fun p=>decide (p.2≠.cell)&&(decide (p.2=.local)->decide (sc.names.lookup p.1=some .local))&&(decide (p.2=.free)->(decide (sc.names.lookup p.1=some .free)&&decide (L.sc.names.lookup p.1=some .cell))))&&decide (L.sc.kind=.function)
def F9 (N:List Str) (ok:Str->Bool):Expr->Option (FG × List Nat)
 | .Name x _=>if ok x then (jz N x).map fun i=>(setG i,[i]) else none
 | .Tuple es _ _=>(namesOf es).bind fun xs=>if xs.all ok then (idxs N xs).map fun is=>(dU is,is) else none
 | _=>none
def isSet:Expr->Bool
 | .Set _ _ _=>true
 | _=>false
def Iq (r:Rc) (L:Lc):List Expr->FT
 | []=>dE
 | [c]=>r.T L c
 | _=>mF
def A6 (L:Lc) (sc:Scope):Lc:=⟨locals sc++frees sc,A5 sc L.sc,[]⟩
def j8 (r:Rc) (L:Lc):Expr->FL
 | .ListComp elt [⟨tg,iter,ifs,0⟩] sc _=>if Nq L sc&&decide ((locals sc++frees sc).Nodup)&&!isSet iter&&decide (ifs.length<=1) then (match idxs L.N (frees sc),F9 (locals sc) (fun x=>decide (sc.names.lookup x=some .local)) tg with
  | some js,some (g,_)=>bN (r.I L tg iter) (locals sc).length js g (Iq r (A6 L sc) ifs) (r.E (A6 L sc) elt)
  | _,_=>g8) else g8
 | _=>g8
def Nr (r:Rc) (L:Lc):Option Expr->FO
 | none=>sR
 | some e=>kN (r.E L e)
def isSlice:Expr->Bool
 | .Slice _ _ _ _=>true
 | _=>false
def pW (M:Gm) (L:Lc):List Str->Option (List Nat)
 | []=>some []
 | y::ys=>if A2 L y&&((jz M.P.cn y).bind fun d=>M.P.fn[d]?).isSome then (jz M.P.cn y).bind fun d=>(pW M L ys).map (d::·) else none
def blt (M:Gm) (L:Lc) (x:Str):Bool:=M.bl.contains x&&A2 L x
def ZE (M:Gm) (r:Rc) (L:Lc) (a:Expr):Expr->FE
 | .Name y _=>(match uV.lookup y with
  | some ty=>if M.bl.contains y&&A2 L y then bD (qS ty) (r.E L a) else cP
  | none=>(match pW M L [y] with
   | some ds=>bD (cy M.P.sub ds) (r.E L a)
   | none=>cP))
 | .Tuple es _ _=>if es.length<=100 then (match (namesOf es).bind (pW M L) with
  | some ds=>bD (cy M.P.sub ds) (r.E L a)
  | none=>cP) else cP
 | _=>cP
def aG (l:List (Nat × Nat)) (ao:Nat->Fn) (c:Nat):Option Fn:=(l.lookup c).map ao
def Nt (L:Lc):Expr->Option Nat
 | .Name y _=>if L.mu.contains y&&iQ L y then jz L.N y else none
 | _=>none
def yf (r:Rc) (L:Lc) (a:Expr) (op:CmpOp) (b:Expr):FE:=match u9 op,Nt L b with
 | some neg,some i=>Nf op neg i (r.E L a)
 | _,_=>bB (aN op) (r.E L a) (r.E L b)
def iR (M:Gm) (L:Lc) (f:Str):List Expr->Option Expr
 | [.Call (.Name g _) [a] [] _]=>if f=("len" : Str)/\g=("set" : Str)/\blt M L ("set" : Str)=true/\noStar a=true then some a else none
 | _=>none
def tF (M:Gm) (ao:Nat->Fn) (r:Rc) (L:Lc) (f:Str) (args:List Expr):FE:=
 if args.all noStar then (match M.fs.lookup f with
  | some (ds,i)=>if A2 L f then ai (ao i) ds (dM (args.map (r.E L))) else cP
  | none=>(match M.cl.lookup f with
   | some (.fz c n)=>if A2 L f&&!args.isEmpty then cX c n (dM (args.map (r.E L))) else cP
   | some (.z0 c)=>if A2 L f&&args.isEmpty then cX c 0 c_ else cP
   | some (.cp c)=>(match args with
    | [a]=>if A2 L f then bD (Mw c) (r.E L a) else cP
    | _=>cP)
   | some (.nw c i)=>if A2 L f&&!args.isEmpty then xZ c (ao i) (dM (args.map (r.E L))) else cP
   | none=>if blt M L f then (match f == ("isinstance" : Str),args with
     | true,[a,q]=>ZE M r L a q
     | _,_=>(match f == ("len" : Str),args with
      | true,[.Name y p]=>(match jz L.N y with
       | some i=>if L.mu.contains y&&iQ L y then HS i else aM br (dM [r.E L (.Name y p)])
       | none=>aM br (dM [r.E L (.Name y p)]))
      | _,_=>(match iR M L f args with
       | some a=>bD m_ (r.E L a)
       | none=>(match sZ.lookup f,args with
        | some g,_::_=>aM g (dM (args.map (r.E L)))
        | _,_=>cP)))) else cP)) else cP
def A7 (M:Gm) (ao:Nat->Fn) (r:Rc) (L:Lc):Expr->FE
 | .Constant (.int i) _ _=>cF (.int i)
 | .Constant (.bool b) _ _=>cF (.bl b)
 | .Constant .none _ _=>cF .non
 | .Constant (.str s) _ _=>if s.length<=1000000 then cF (.str s.cps.toList) else cP
 | .Name x _=>(match jz L.N x with
  | some i=>if iQ L x then vF i else cP
  | none=>(match M.cs.lookup x with
   | some t=>if A2 L x then cF t else cP
   | none=>cP))
 | .BinOp a op b _=>bB (cO op) (r.E L a) (r.E L b)
 | .UnaryOp .USub a _=>bD kX (r.E L a)
 | .UnaryOp .Not a _=>pH (r.E L a)
 | .BoolOp .And es _=>A3 (es.map (r.E L))
 | .BoolOp .Or es _=>Nn (es.map (r.E L))
 | .Compare a [op] [b] _=>if behindInMarks op b then cP else yf r L a op b
 | .IfExp c a b _=>nS (r.T L c) (r.E L a) (r.E L b)
 | .Tuple es _ _=>if es.all noStar then aM aL (dM (es.map (r.E L))) else cP
 | .List es _=>if es.all noStar then aM cK (dM (es.map (r.E L))) else cP
 | .Subscript o (.Slice lo hi none _) _=>mG (r.E L o) (Nr r L lo) (Nr r L hi)
 | .Subscript o i _=>if isSlice i then cP else (match o with
  | .Name y _=>(match jz L.N y with
   | some k=>if L.mu.contains y&&iQ L y then Up k (r.E L i) else bB f9 (r.E L o) (r.E L i)
   | none=>bB f9 (r.E L o) (r.E L i))
  | _=>bB f9 (r.E L o) (r.E L i))
 | .Attribute o f _=>if dO o then (match jz M.P.an f with
  | some j=>aI M.P.tab j (r.E L o)
  | none=>cP) else cP
 | .JoinedStr [.Constant (.str x) _ _,.FormattedValue a cv none _,.Constant (.str y) _ _] _=>if cv=-1/\x.length<=1000/\y.length<=1000 then bD (lM x.cps.toList y.cps.toList) (r.E L a) else cP
 | .ListComp elt gs sc p=>dc (j8 r L (.ListComp elt gs sc p))
 | .Call (.Name f _) args [] _=>tF M ao r L f args
 | .Call (.Attribute o m ap) args [] cp=>if dO o&&args.all noStar&&decide (args.length<29)&&ap.endLine == cp.line then (match M.ms.lookup m with
   | some l=>aP (aG l ao) (r.E L o) (dM (args.map (r.E L)))
   | none=>(match sY.lookup m,args with
    | some g,_::_=>jd g (r.E L o) (dM (args.map (r.E L)))
    | _,_=>cP)) else cP
 | _=>cP
def stepT (r:Rc) (L:Lc):Expr->FT
 | .BoolOp .And es _=>A4 (es.map (r.T L))
 | .BoolOp .Or es _=>Np (es.map (r.T L))
 | .UnaryOp .Not a _=>bA (r.T L a)
 | .Compare a [op] [b] _=>if behindInMarks op b then mF else a_ (yf r L a op b)
 | .Compare _ _ _ _=>mF
 | .IfExp _ _ _ _=>mF
 | e=>tB (r.E L e)
def nk:Expr->Option (List Expr)
 | .Call (.Name f _) args [] _=>if f=("range" : Str) then some args else none
 | _=>none
noncomputable def j9:Expr->Option (Expr × Int)
 | .Call (.Name f _) [a] [] _=>if f=("enumerate" : Str) then some (a,0) else none
 | .Call (.Name f _) [a] [⟨some k,.Constant (.int n) _ _,_⟩] _=>if f=("enumerate" : Str)/\k=("start" : Str)/\n=1 then some (a,n) else none
 | _=>none
def tG:Expr->Bool
 | .Tuple _ _ _=>true
 | _=>false
def F_:Expr->Bool
 | .Name _ _=>true
 | _=>false
def stepI (M:Gm) (r:Rc) (L:Lc) (tg e:Expr):FL:=match nk e with
 | some args=>if blt M L ("range" : Str)&&args.all noStar then (match args with
   | [a]=>sU g9 (dM [r.E L a])
   | [a,b]=>sU g9 (dM [r.E L a,r.E L b])
   | _=>g8) else g8
 | none=>(match j9 e with
  | some (a,n)=>if blt M L ("enumerate" : Str)&&tG tg&&noStar a then jR n (r.E L a) else g8
  | none=>if F_ tg then lF (r.E L e) else FU (r.E L e))
def A8 (r:Rc) (L:Lc):Expr->FL
 | .List es _=>if es.all noStar then Ah (dM (es.map (r.E L))) else g8
 | .ListComp elt gs sc p=>j8 r L (.ListComp elt gs sc p)
 | _=>g8
def comp (M:Gm) (ao:Nat->Fn):Nat->Rc
 | 0=>⟨fun _ _=>cP,fun _ _=>mF,fun _ _ _=>g8,fun _ _=>g8⟩
 | n+1=>⟨A7 M ao (comp M ao n),stepT (comp M ao n),stepI M (comp M ao n),A8 (comp M ao n)⟩
def A9 (L:Lc) (t:Str) (tp:Pos):Expr->Bool
 | .ListComp _ _ sc p=>(if L.sc.kind.isAnnotationScope then ScopeKind.function else L.sc.kind) == .function&&L.sc.names.lookup t == some .local&&tp.line == p.line&&!(sc.names.any fun (n,k)=>n == t&&(k == .local || k == .cell))
 | _=>false
def pX:Expr->Bool
 | .ListComp _ _ _ _=>true
 | .SetComp _ _ _ _=>true
 | .DictComp _ _ _ _ _=>true
 | _=>false
noncomputable def nq (mu:List Str):Expr->Option (Str × Expr)
 | .Call (.Attribute (.Name y _) m ap) [e] [] cp=>if m=("append" : Str)/\mu.contains y=true/\noStar e=true/\(ap.endLine == cp.line)=true then some (y,e) else none
 | _=>none
def vf:Expr->Bool
 | .Dict [] [] _=>true
 | _=>false
def A_ (M:Gm) (ao:Nat->Fn) (n:Nat) (L:Lc) (x:Str) (e:Expr):FS:=match jz L.N x with
 | some i=>if iQ L x then (if L.mu.contains x then (if vf e then AY i else pI i ((comp M ao n).O L e)) else aE i ((comp M ao n).E L e)) else cz
 | none=>cz
abbrev many:Nat:=1000000
def WC (M:Gm) (ao:Nat->Fn) (n:Nat) (rS:Lc->List Stmt->FS) (L:Lc):Stmt->FS
 | .Assign [.Name x _] e _=>A_ M ao n L x e
 | .Assign [.Tuple es _ _] e _=>if pX e || tG e || !es.all noStar then cz else (match F9 L.N (iQ L) (.Tuple es 0 ⟨0,0,0,0⟩) with
  | some (g,_)=>mJ g ((comp M ao n).E L e)
  | none=>cz)
 | .Assign [.Attribute o f _] e _=>if pX e then cz else (match jz M.P.an f with
  | some j=>gy M.P.tab j ((comp M ao n).E L o) ((comp M ao n).E L e)
  | none=>cz)
 | .Assign [.Subscript (.Name y _) b _] e _=>if pX e then cz else (match jz L.N y with
  | some i=>if iQ L y then u_ i ((comp M ao n).E L b) ((comp M ao n).E L e) else cz
  | none=>cz)
 | .AugAssign (.Name x _) .Add e _=>(match jz L.N x with
  | some i=>if iQ L x then Aa u6 i ((comp M ao n).E L e) else cz
  | none=>cz)
 | .Expr e _=>(match nq L.mu e with
  | some (y,a)=>(match jz L.N y with
   | some i=>if iQ L y then iL i ((comp M ao n).E L a) else cz
   | none=>cz)
  | none=>if pX e then cz else cQ ((comp M ao n).E L e))
 | .Return (some e) _=>ak ((comp M ao n).E L e)
 | .Return none _=>ak (cF .non)
 | .If c a b _=>aW ((comp M ao n).T L c) (rS L a) (rS L b)
 | .For tg it body [] _=>if isSet it then cz else (match F9 L.N (iQ L) tg with
  | some (g,_)=>jS ((comp M ao n).I L tg it) g (rS L body)
  | none=>cz)
 | .While c body [] _=>mK many ((comp M ao n).T L c) (rS L body)
 | .Try body (_::_) [] [] _=>rS L body
 | .Pass _=>av
 | .Break _=>Ur
 | .Continue _=>Us
 | _=>cz
def iS (M:Gm) (ao:Nat->Fn) (n:Nat):Nat->Lc->List Stmt->FS
 | 0,_,_=>cz
 | _+1,_,[]=>av
 | k+1,L,[st]=>WC M ao n (iS M ao n k) L st
 | k+1,L,st::rest=>ah (WC M ao n (iS M ao n k) L st) (iS M ao n k L rest)
end D
namespace D
open PySem L2
structure Ba (M:Gm) (Pr:Program) (w:World) (K:PySem.W.Frag) (mg:Str->Option Value) (base:Heap) (ao:Nat->Fn) (k:Nat):Prop where
 pg:mU K mg M.P
 cst:∀ x t,M.cs.lookup x=some t->u7 K mg x t
 fns:∀ x ds i,M.fs.lookup x=some (ds,i)->Zr M.P Pr w K mg base k x ds (ao i)
 fz:∀ x c n,M.cl.lookup x=some (.fz c n)->DnC M.P Pr w K mg base k c n x
 z0:∀ x c,M.cl.lookup x=some (.z0 c)->U6 M.P Pr w K mg c x
 cp:∀ x c,M.cl.lookup x=some (.cp c)->DnP M.P Pr w K mg base k c x
 nw:∀ x c i,M.cl.lookup x=some (.nw c i)->DnN M.P Pr w K mg base k c x (ao i)
 mts:∀ m l c i,M.ms.lookup m=some l->l.lookup c=some i->Wx M.P Pr w K mg base k c m (ao i)
 bl:∀ x,x∈M.bl->mg x=none
structure CxOk (M:Gm) (ao:Nat->Fn) (k:Nat) (L:Lc) (X:Cx):Prop where
 gm:Ba M X.prog X.w X.K X.mg X.base ao k
 N:X.N=L.N
 sc:X.env.scope=L.sc
 calm:X.calm=true
 room:∃ j,k+1<=j/\bP j X.A
variable {M:Gm}{ao:Nat->Fn}{k:Nat}{L:Lc}{X:Cx}{e a b c o:Expr}{es:List Expr}{pos pos' p apos cW:Pos}{x y:Str}{i:Nat}
theorem gG {N:List Str}{x:Str}{i:Nat}(h:jz N x=some i):N[i]?=some x:=by
 unfold jz at h
 rw [List.idxOf?,List.findIdx?_eq_some_iff_getElem] at h
 obtain ⟨hj,h1,_⟩:=h
 rw [List.getElem?_eq_getElem hj,eq_of_beq h1]
theorem WD (h:lN x=false):(x == ("__debug__" : Str))=false/\(x == ("__classdict__" : Str))=false:=by
 unfold lN at h
 exact Bool.or_eq_false_iff.mp h
theorem fj (C:CxOk M ao k L X) (h:iQ L x=true):Loc X.env.scope x/\qR X.env.scope x/\(x == ("__debug__" : Str))=false/\(x == ("__classdict__" : Str))=false:=by
 rw [C.sc]
 unfold iQ at h
 split at h
 ·rename_i e
  obtain ⟨h1,h2⟩:=WD (by simpa using h)
  exact ⟨.inl e,.inl e,h1,h2⟩
 ·rename_i e
  obtain ⟨h1,h2⟩:=WD (by simpa using h)
  exact ⟨.inr e,.inr (.inl e),h1,h2⟩
 ·cases h
theorem ir (C:CxOk M ao k L X) (h:A2 L x=true):Gl X x/\(x == ("__debug__" : Str))=false:=by
 unfold A2 at h
 rw [Bool.and_eq_true] at h
 obtain ⟨h1,h2⟩:=h
 refine ⟨?_,(WD (by simpa using h2)).1⟩
 show X.env.scope.names.lookup x=_
 rw [C.sc]
 exact of_decide_eq_true h1
def Ga (M:Gm) (X:Cx) (r:Rc) (L:Lc):Prop:=∀ e,PE X e (tE (M.P.kt X) (r.E L e))
def ZF (M:Gm) (X:Cx) (r:Rc) (L:Lc):Prop:=∀ e,PT X e (tT (M.P.kt X) (r.T L e))
def OkI (M:Gm) (X:Cx) (r:Rc) (L:Lc):Prop:=∀ tg e,PI X tg e (tI (M.P.kt X) (r.I L tg e))
def OkO (M:Gm) (X:Cx) (r:Rc) (L:Lc):Prop:=∀ e,PE X e (tO (M.P.kt X) (r.O L e))
def tH (M:Gm) (ao:Nat->Fn) (k:Nat) (r:Rc):Prop:=∀ L X,CxOk M ao k L X->Ga M X r L/\ZF M X r L/\OkI M X r L/\OkO M X r L
variable {r:Rc}
theorem gp (hE:Ga M X r L):∀ es:List Expr,es.all noStar=true->PA X es (tA (M.P.kt X) (dM (es.map (r.E L))))
 | [],_=>sV
 | e::es,h=>by
  rw [List.all_cons,Bool.and_eq_true] at h
  exact mR (hE e) (gp hE es h.2) (aK h.1)
theorem pY (hE:Ga M X r L):∀ es:List Expr,PE X (.BoolOp .And es pos) (tE (M.P.kt X) (A3 (es.map (r.E L))))
 | []=>bG
 | [a]=>Ak (hE a)
 | a::b::es=>Mz (hE a) (pY hE (b::es))
theorem vg (hE:Ga M X r L):∀ es:List Expr,PE X (.BoolOp .Or es pos) (tE (M.P.kt X) (Nn (es.map (r.E L))))
 | []=>bG
 | [a]=>Ak (hE a)
 | a::b::es=>Uz (hE a) (vg hE (b::es))
theorem Vz:PW X e (tT (M.P.kt X) mF):=fun _ _ _ _ _ _ _ ⟨_,_,_,_,_,h,_⟩=>by cases h
theorem pZ (hT:ZF M X r L):∀ es:List Expr,PW X (.BoolOp .And es pos) (tT (M.P.kt X) (A4 (es.map (r.T L))))
 | []=>Vz
 | [a]=>My (hT a)
 | a::b::es=>Ux (hT a) (pZ hT (b::es))
theorem vh (hT:ZF M X r L):∀ es:List Expr,PW X (.BoolOp .Or es pos) (tT (M.P.kt X) (Np (es.map (r.T L))))
 | []=>Vz
 | [a]=>Uw (hT a)
 | a::b::es=>Y7 (hT a) (vh hT (b::es))
theorem cU {α:Type}{l:List (Str × α)}{x:Str}{a:α}(h:l.lookup x=some a):(x,a)∈l:=by
 induction l with
 | nil=>simp at h
 | cons p l ih=>
  obtain ⟨q,b⟩:=p
  rw [List.lookup_cons] at h
  split at h
  ·rename_i e
   cases h
   rw [eq_of_beq e]
   exact List.mem_cons_self ..
  ·exact List.mem_cons_of_mem _ (ih h)
theorem tK (C:CxOk M ao k L X):∀ {ys:List Str}{ds:List Nat},pW M L ys=some ds->ys.length=ds.length/\∀ (i d:Nat) (y:Str),ds[i]?=some d->ys[i]?=some y->M.P.cn[d]?=some y/\(M.P.fn[d]?).isSome=true/\Gl X y/\(y == ("__debug__" : Str))=false
 | [],ds,h=>by
  cases h
  exact ⟨rfl,fun i d y h=>by simp at h⟩
 | y::ys,ds,h=>by
  unfold pW at h
  split at h
  ·rename_i q
   rw [Bool.and_eq_true] at q
   obtain ⟨d,h1,h2⟩:=Option.bind_eq_some_iff.mp h
   obtain ⟨ds',h3,rfl⟩:=Option.map_eq_some_iff.mp h2
   obtain ⟨h4,h5⟩:=tK C h3
   obtain ⟨g1,g2⟩:=ir C q.1
   refine ⟨by simp [h4],fun i d' y' e1 e2=>?_⟩
   cases i with
   | zero=>
    simp at e1 e2
    subst e1 e2
    refine ⟨gG h1,?_,g1,g2⟩
    have q2:=q.2
    rw [h1] at q2
    exact q2
   | succ i=>exact h5 i d' y' (by simpa using e1) (by simpa using e2)
  ·cases h
theorem iu (C:CxOk M ao k L X) (h:blt M L x=true):Gl X x/\X.mg x=none/\(x == ("__debug__" : Str))=false:=by
 unfold blt at h
 rw [Bool.and_eq_true] at h
 obtain ⟨g1,g2⟩:=ir C h.2
 exact ⟨g1,C.gm.bl x (List.contains_iff_mem.mp h.1),g2⟩
theorem VA (C:CxOk M ao k L X) (hE:Ga M X r L) {q:Expr}(hb:blt M L ("isinstance" : Str)=true) (hs:noStar a=true):PE X (.Call (.Name "isinstance" p) [a,q] [] pos) (tE (M.P.kt X) (ZE M r L a q)):=by
 obtain ⟨hg,hm,_⟩:=iu C hb
 unfold ZE
 split
 ·rename_i y py
  split
  ·rename_i ty Xi
   split
   ·rename_i q
    rw [Bool.and_eq_true] at q
    obtain ⟨g1,g2⟩:=ir C q.2
    exact MS rfl (cU Xi) hm (C.gm.bl _ (List.contains_iff_mem.mp q.1)) (hE a) hg g1 hs
   ·exact bG
  ·split
   ·rename_i ds FN
    obtain ⟨h1,h2⟩:=tK C FN
    match ds,h1,h2 with
    | [d],_,h2=>
     obtain ⟨f1,f2,f3,f4⟩:=h2 0 d y rfl rfl
     exact U4 C.gm.pg f1 hm (hE a) hg f3 hs f4 f2
   ·exact bG
 ·rename_i es x1 tp
  split
  ·rename_i hl
   split
   ·rename_i ds FN
    obtain ⟨ys,h0,FN⟩:=Option.bind_eq_some_iff.mp FN
    obtain ⟨h1,h2⟩:=tK C FN
    exact Vt C.gm.pg h0 h1 h2 hl hm (hE a) hg hs
   ·exact bG
  ·exact bG
 ·exact bG
theorem tL {f:Str}{args:List Expr}(h:iR M L f args=some a):f=("len" : Str)/\blt M L ("set" : Str)=true/\noStar a=true/\∃ p1 jP,args=[.Call (.Name "set" p1) [a] [] jP]:=by
 unfold iR at h
 split at h
 ·split at h
  ·rename_i q
   obtain ⟨rfl,rfl,q3,q4⟩:=q
   cases h
   exact ⟨rfl,q3,q4,_,_,rfl⟩
  ·cases h
 ·cases h
theorem Bb (C:CxOk M ao k L X) {i:Nat}(h:Nt L b=some i):∃ y py,b=.Name y py/\X.N[i]?=some y/\qR X.env.scope y/\(y == ("__debug__" : Str))=false/\(y == ("__classdict__" : Str))=false:=by
 unfold Nt at h
 split at h
 ·split at h
  ·rename_i q
   rw [Bool.and_eq_true] at q
   obtain ⟨l1,l2,l3,l4⟩:=fj C q.2
   exact ⟨_,_,rfl,by rw [C.N];exact gG h,l2,l3,l4⟩
  ·cases h
 ·cases h
theorem Gb (C:CxOk M ao k L X) (hE:Ga M X r L) {op:CmpOp}(h:behindInMarks op b=false):PE X (.Compare a [op] [b] pos) (tE (M.P.kt X) (yf r L a op b)):=by
 obtain ⟨j,hj,hr⟩:=C.room
 unfold yf
 split
 ·rename_i neg i h1 h2
  obtain ⟨y,py,rfl,q1,q2,q3,q4⟩:=Bb C h2
  exact Vy rfl hr h1 (hE a) q1 q2 q3 q4
 ·exact Nh rfl hr (hE a) (hE b) h
theorem Bc (C:CxOk M ao k L X) (hE:Ga M X r L) {op:CmpOp}(h:behindInMarks op b=false):PT X (.Compare a [op] [b] pos) (tT (M.P.kt X) (a_ (yf r L a op b))):=by
 obtain ⟨j,hj,hr⟩:=C.room
 unfold yf
 split
 ·rename_i neg i h1 h2
  obtain ⟨y,py,rfl,q1,q2,q3,q4⟩:=Bb C h2
  exact Nj rfl hr h1 (hE a) q1 q2 q3 q4
 ·exact F8 rfl hr (hE a) (hE b) h
theorem Bd (C:CxOk M ao k L X) (hE:Ga M X r L) (f:Str) (args:List Expr):PE X (.Call (.Name f p) args [] pos) (tE (M.P.kt X) (tF M ao r L f args)):=by
 obtain ⟨j,hj,hr⟩:=C.room
 unfold tF
 split
 case isFalse=>exact bG
 rename_i hs
 have hA:=gp hE args hs
 split
 ·rename_i ds i hf
  split
  case isFalse=>exact bG
  rename_i q
  obtain ⟨g1,g2⟩:=ir C q
  cases args with
  | nil=>exact FP (C.gm.fns f ds i hf) hr (by omega) g1 g2
  | cons a args=>exact s_call (C.gm.fns f ds i hf) hr (by omega) hA g1 g2 hs
 ·split
  ·rename_i c n hc
   split
   case isFalse=>exact bG
   rename_i q
   rw [Bool.and_eq_true] at q
   obtain ⟨g1,g2⟩:=ir C q.1
   cases args with
   | nil=>cases q.2
   | cons a args=>exact U5 (C.gm.fz f c n hc) hr hj hA g1 g2 hs
  ·rename_i c hc
   split
   case isFalse=>exact bG
   rename_i q
   rw [Bool.and_eq_true] at q
   obtain ⟨g1,g2⟩:=ir C q.1
   cases args with
   | nil=>exact MV (C.gm.z0 f c hc) g1 g2
   | cons a args=>cases q.2
  ·rename_i c hc
   split
   ·rename_i a
    split
    case isFalse=>exact bG
    rename_i q
    obtain ⟨g1,g2⟩:=ir C q
    exact Nb (C.gm.cp f c hc) hr hj (hE a) g1 g2 (by simpa using hs)
   ·exact bG
  ·rename_i c i hc
   split
   case isFalse=>exact bG
   rename_i q
   rw [Bool.and_eq_true] at q
   obtain ⟨g1,g2⟩:=ir C q.1
   cases args with
   | nil=>cases q.2
   | cons a args=>exact Na (C.gm.nw f c i hc) hr hj hA g1 g2 hs
  ·split
   case isFalse=>exact bG
   rename_i hb
   obtain ⟨g1,g2,g3⟩:=iu C hb
   split
   ·rename_i a q e
    have e:=eq_of_beq e
    subst e
    rw [List.all_cons,Bool.and_eq_true] at hs
    exact VA C hE hb hs.1
   ·split
    ·rename_i y py e _
     have e:=eq_of_beq e
     subst e
     have main:PE X (.Call (.Name "len" p) [.Name y py] [] pos) (tE (M.P.kt X) (aM br (dM [r.E L (.Name y py)]))):=Ih (AJ C.calm ("len", br) (List.mem_cons_self ..)) rfl g1 g2 hA hs
     split
     ·rename_i i hi
      split
      ·rename_i q
       rw [Bool.and_eq_true] at q
       obtain ⟨l1,l2,l3,l4⟩:=fj C q.2
       exact F5 rfl (by rw [C.N];exact gG hi) l2 l3 l4 g1 g2
      ·exact main
     ·exact main
    ·split
     ·rename_i a ha
      obtain ⟨rfl,h2,h3,p1,jP,rfl⟩:=tL ha
      obtain ⟨k1,k2,k3⟩:=iu C h2
      exact A1 C.calm g2 k2 (hE a) g1 k1 h3
     ·split
      ·rename_i g a VB hg _ _ _
       exact Ih (AJ C.calm (f,g) (cU hg)) rfl g1 g2 hA hs
      ·exact bG
variable {M:Gm}{ao:Nat->Fn}{k:Nat}{L:Lc}{X:Cx}{e a b c o:Expr}{es:List Expr}{pos pos' p apos cW:Pos}{x y:Str}{i:Nat}{r:Rc}
theorem j_ {sc:Scope}(C:CxOk M ao k L X) (hf:∀ x∈frees sc,sc.names.lookup x=some .free/\L.sc.names.lookup x=some .cell):∀ {xs:List Str}{js:List Nat},idxs L.N xs=some js->(∀ x∈xs,x∈frees sc)->dR X sc js xs
 | [],js,h,_=>by cases h;exact .nil
 | x::xs,js,h,hx=>by
  obtain ⟨i,h1,h2⟩:=Option.bind_eq_some_iff.mp (show (jz L.N x).bind _=some js from h)
  obtain ⟨js',h3,rfl⟩:=Option.map_eq_some_iff.mp h2
  obtain ⟨f1,f2⟩:=hf x (hx x (List.mem_cons_self ..))
  refine .cons (by rw [C.N];exact gG h1) f1 ?_ (j_ C hf h3 fun y hy=>hx y (List.mem_cons_of_mem _ hy))
  show X.env.scope.names.lookup x=_
  rw [C.sc];exact f2
theorem yg {sc:Scope}{x:Str}(h:x∈frees sc):(x,NameKind.free)∈sc.names:=by
 unfold frees at h
 obtain ⟨q,h1,h2⟩:=List.mem_filterMap.mp h
 obtain ⟨n,kk⟩:=q
 split at h2
 ·rename_i e;cases h2;have e:kk=.free:=e;subst e;exact h1
 ·cases h2
theorem Be (C:CxOk M ao k L X) (sc:Scope):relabel sc X.env=A5 sc L.sc:=by
 unfold relabel A5 Env.kindOf
 rw [C.sc]
theorem tM {N:List Str}{ok:Str->Bool}(hN:X.N.Nodup) (h:∀ x i,ok x=true->jz N x=some i->X.N[i]?=some x/\Loc X.env.scope x/\(X.fn x=true\/X.env.scope.names.lookup x=some .local)):∀ {es:List Expr}{xs:List Str}{is:List Nat},namesOf es=some xs->xs.all ok=true->idxs N xs=some is ->
  OR X es (j4 is)/\(assignEach es X.env).length=is.length/\(assignEach es X.env).findIdx? (·.1)=none
 | [],xs,is,h1,_,h3=>by
  cases h1;cases h3
  exact ⟨CH,rfl,rfl⟩
 | e::es,xs,is,h1,h2,h3=>by
  cases e<;>first | (cases h1;done) | skip
  rename_i x px
  obtain ⟨zs,h4,rfl⟩:=Option.map_eq_some_iff.mp (show (namesOf es).map (x::·)=some xs from h1)
  rw [List.all_cons,Bool.and_eq_true] at h2
  obtain ⟨i,h5,h6⟩:=Option.bind_eq_some_iff.mp (show (jz N x).bind _=some is from h3)
  obtain ⟨ZG,h7,rfl⟩:=Option.map_eq_some_iff.mp h6
  obtain ⟨g1,g2,g3⟩:=h x i h2.1 h5
  obtain ⟨r1,r2,r3⟩:=tM hN h h4 h2.2 h7
  refine ⟨yM (l9 hN g1 g2 g3) r1 rfl,?_,?_⟩
  ·show ((false,_)::assignEach es X.env).length=_
   rw [List.length_cons,r2];rfl
  ·show List.findIdx? (·.1) ((false,_)::assignEach es X.env)=none
   rw [List.findIdx?_cons]
   simp only [r3]
   rfl
theorem Ir {B:KT}(hB:B.K=X.K) {N:List Str}{ok:Str->Bool}{tg:Expr}{g:FG}{is:List Nat}(hc:X.calm=true) (hN:X.N.Nodup) (h:∀ x i,ok x=true->jz N x=some i->X.N[i]?=some x/\Loc X.env.scope x/\(X.fn x=true\/X.env.scope.names.lookup x=some .local))
  (ht:F9 N ok tg=some (g,is)):∃ gt,PG X tg gt/\mX B gt g is:=by
 unfold F9 at ht
 split at ht
 ·rename_i x px
  split at ht
  ·rename_i q
   obtain ⟨i,h1,h2⟩:=Option.map_eq_some_iff.mp ht
   cases h2
   obtain ⟨g1,g2,g3⟩:=h x i q h1
   exact ⟨_,l9 hN g1 g2 g3,uX i⟩
  ·cases ht
 ·rename_i es x1 tp
  obtain ⟨xs,h1,h2⟩:=Option.bind_eq_some_iff.mp ht
  split at h2
  ·rename_i q
   obtain ⟨ZG,h3,h4⟩:=Option.map_eq_some_iff.mp h2
   cases h4
   obtain ⟨r1,r2,r3⟩:=tM hN h h1 q h3
   refine ⟨_,yN hc r1 r2 r3,?_⟩
   rw [<- hB]
   exact AQ _ rfl
  ·cases h2
 ·cases ht
theorem Nu {N:List Str}{ok:Str->Bool}{tg:Expr}{g:FG}{is:List Nat}(ht:F9 N ok tg=some (g,is)):∀ i∈is,i<N.length:=by
 have lt:∀ {x i},jz N x=some i->i<N.length:=fun h=>(List.getElem?_eq_some_iff.mp (gG h)).1
 unfold F9 at ht
 split at ht
 ·split at ht
  ·obtain ⟨i,h1,h2⟩:=Option.map_eq_some_iff.mp ht
   cases h2
   intro j hj
   rw [List.mem_singleton.mp hj];exact lt h1
  ·cases ht
 ·obtain ⟨xs,h1,h2⟩:=Option.bind_eq_some_iff.mp ht
  split at h2
  ·obtain ⟨ZG,h3,h4⟩:=Option.map_eq_some_iff.mp h2
   cases h4
   have:∀ (xs:List Str) (is:List Nat),idxs N xs=some is->∀ i∈is,i<N.length:=by
    intro xs
    induction xs with
    | nil=>intro is h;cases h;intro i hi;cases hi
    | cons x xs ih=>
     intro is h
     obtain ⟨i,h5,h6⟩:=Option.bind_eq_some_iff.mp (show (jz N x).bind _=some is from h)
     obtain ⟨is2,h7,rfl⟩:=Option.map_eq_some_iff.mp h6
     intro j hj
     rcases List.mem_cons.mp hj with z | z
     ·rw [z];exact lt h5
     ·exact ih is2 h7 j z
   exact this xs _ h3
  ·cases h2
 ·cases ht
theorem vj {it:Expr}(h:isSet it=false):∀ x,foldedSetIterable it X.env x=pure x:=fun x=>by
 unfold foldedSetIterable
 cases it<;>first | rfl | (cases h)
structure Nv (M:Gm) (X:Cx) (r:Rc) (L:Lc) (elt tg iter:Expr) (ifs:List Expr) (sc:Scope) (js:List Nat) (g:FG) (is:List Nat):Prop where
 sco:eA X sc
 fr:dR X sc js (frees sc)
 nd:(locals sc++frees sc).Nodup
 it:PI X tg iter (tI (M.P.kt X) (r.I L tg iter))
 ex:∃ gt,(∀ cl C fp s H,PG (X.block (locals sc++frees sc) sc cl C fp s H) tg gt)/\mX (M.P.kt X) gt g is
 ts:∀ cl C fp s H,Cp (X.block (locals sc++frees sc) sc cl C fp s H) ifs (tT (M.P.kt X) (Iq r (A6 L sc) ifs))
 el:∀ cl C fp s H,PE (X.block (locals sc++frees sc) sc cl C fp s H) elt (tE (M.P.kt X) (r.E (A6 L sc) elt))
 lt:∀ i∈is,i<(locals sc).length
 st:∀ x,foldedSetIterable iter X.env x=pure x
theorem vm (R:tH M ao k r) (C:CxOk M ao k L X) {elt tg iter:Expr}{ifs:List Expr}{sc:Scope}{js:List Nat}{g:FG}{is:List Nat}(h:(Nq L sc&&decide ((locals sc++frees sc).Nodup)&&!isSet iter&&decide (ifs.length<=1))=true) (hj:idxs L.N (frees sc)=some js)
  (ht:F9 (locals sc) (fun x=>decide (sc.names.lookup x=some .local)) tg=some (g,is)):Nv M X r L elt tg iter ifs sc js g is:=by
 obtain ⟨hE,hT,hI,hO⟩:=R L X C
 simp only [Bool.and_eq_true,decide_eq_true_eq,Bool.not_eq_true'] at h
 obtain ⟨⟨⟨h1,ZH⟩,h3⟩,h4⟩:=h
 unfold Nq at h1
 simp only [Bool.and_eq_true,decide_eq_true_eq,List.all_eq_true] at h1
 obtain ⟨⟨k1,k2⟩,k3⟩:=h1
 have k9:∀ x∈frees sc,sc.names.lookup x=some .free/\L.sc.names.lookup x=some .cell:=fun x hx=>by
  have:=(k2 _ (yg hx)).2 rfl
  exact this
 have bs:eA X sc:=⟨k1,fun q hq=>(k2 q hq).1.1,fun q hq e=>(k2 q hq).1.2 e,fun q hq e=>by
  show X.env.scope.names.lookup q.1=_
  rw [C.sc]
  exact ((k2 q hq).2 e).2⟩
 have Wt:∀ cl CC fp s H,CxOk M ao k (A6 L sc) (X.block (locals sc++frees sc) sc cl CC fp s H):=fun cl CC fp s H=>⟨C.gm,rfl,Be C sc,C.calm,C.room⟩
 refine ⟨bs,j_ C k9 hj fun _ h=>h,ZH,hI tg iter,?_,fun cl CC fp s H=>?_,fun cl CC fp s H=>(R _ _ (Wt cl CC fp s H)).1 elt,Nu ht,vj h3⟩
 ·-- the target's names are the block's own
  have key:∀ cl CC fp s H,∀ x i,decide (sc.names.lookup x=some .local)=true->jz (locals sc) x=some i->(X.block (locals sc++frees sc) sc cl CC fp s H).N[i]?=some x/\Loc (X.block (locals sc++frees sc) sc cl CC fp s H).env.scope x/\((X.block (locals sc++frees sc) sc cl CC fp s H).fn x=true\/(X.block (locals sc++frees sc) sc cl CC fp s H).env.scope.names.lookup x=some .local):=fun cl CC fp s H x i hx hi=>by
   have hl:(relabel sc X.env).names.lookup x=some .local:=lookup_relabel_local (of_decide_eq_true hx)
   have h1:=gG hi
   refine ⟨?_,.inl hl,.inr hl⟩
   show (locals sc++frees sc)[i]?=some x
   rw [List.getElem?_append_left (List.getElem?_eq_some_iff.mp h1).1];exact h1
  unfold F9 at ht
  split at ht
  ·rename_i x px
   split at ht
   ·rename_i q
    obtain ⟨i,h5,h6⟩:=Option.map_eq_some_iff.mp ht
    cases h6
    exact ⟨_,fun cl CC fp s H=>by
     obtain ⟨g1,g2,g3⟩:=key cl CC fp s H x i q h5
     exact l9 ZH g1 g2 g3,uX i⟩
   ·cases ht
  ·rename_i es x1 tp
   obtain ⟨xs,h5,h6⟩:=Option.bind_eq_some_iff.mp ht
   split at h6
   ·rename_i q
    obtain ⟨ZG,h7,h8⟩:=Option.map_eq_some_iff.mp h6
    cases h8
    refine ⟨Je X.K is.length (j4 is),fun cl CC fp s H=>?_,AQ (B:=M.P.kt X) is rfl⟩
    obtain ⟨r1,r2,r3⟩:=tM (X:=X.block (locals sc++frees sc) sc cl CC fp s H) ZH (key cl CC fp s H) h5 q h7
    exact yN (X:=X.block (locals sc++frees sc) sc cl CC fp s H) C.calm r1 r2 r3
   ·cases h6
  ·cases ht
 ·match ifs,h4 with
  | [],_=>exact U8
  | [c],_=>exact U9 ((R _ _ (Wt cl CC fp s H)).2.1 c)
variable {M:Gm}{ao:Nat->Fn}{k:Nat}{L:Lc}{X:Cx}{e a b c o:Expr}{es:List Expr}{pos pos' p apos cW:Pos}{x y:Str}{i:Nat}{r:Rc}
theorem iy (R:tH M ao k r) (C:CxOk M ao k L X) (e:Expr):PE X e (tO (M.P.kt X) (j8 r L e)):=by
 unfold j8
 split
 ·rename_i elt tg iter ifs sc p
  split
  case isFalse=>exact iN
  rename_i h
  split
  ·rename_i js g is hj ht
   have K:=vm R C (elt:=elt) h hj ht
   obtain ⟨gt,h1,h2⟩:=K.ex
   exact M1 (locals sc) C.calm K.sco K.fr K.it h1 h2 K.ts K.el K.lt K.st
  ·exact iN
 ·exact iN
theorem Bf (hE:Ga M X r L):∀ e:Option Expr,PO X e (tP (M.P.kt X) (Nr r L e))
 | none=>UQ
 | some e=>UR (hE e)
theorem jA (h:isSlice e=false):jt e:=fun o i=>by
 unfold subscripted
 cases e<;>first | rfl | (cases h)
theorem vn {l:List (Nat × Nat)}{m:Str}(C:CxOk M ao k L X) (h:M.ms.lookup m=some l):∀ c f,aG l ao c=some f->Wx M.P X.prog X.w X.K X.mg X.base k c m f:=fun c f hf=>by
 obtain ⟨i,h1,rfl⟩:=Option.map_eq_some_iff.mp hf
 exact C.gm.mts m l c i h h1
theorem Bg (R:tH M ao k r) (C:CxOk M ao k L X) (e:Expr):PE X e (tE (M.P.kt X) (A7 M ao r L e)):=by
 obtain ⟨hE,hT,hI,hO⟩:=R L X C
 obtain ⟨j,hj,hr⟩:=C.room
 unfold A7
 split
 ·exact hU IV fun _ _=>rfl
 ·exact hU OG fun _ _=>rfl
 ·exact hU IW fun _ _=>rfl
 ·rename_i s _ _
  split
  ·rename_i h
   obtain ⟨⟨l⟩⟩:=s
   exact hU IX fun _ _=>⟨rfl,by rw [<- eo l];exact h⟩
  ·exact bG
 ·split
  ·rename_i i hi
   split
   ·rename_i q
    obtain ⟨l1,l2,l3,l4⟩:=fj C q
    exact Af (by rw [C.N];exact gG hi) l2 l3 l4
   ·exact bG
  ·split
   ·rename_i t ht
    split
    ·rename_i q
     obtain ⟨g1,g2⟩:=ir C q
     exact Vv (C.gm.cst _ _ ht) rfl g1 g2
    ·exact bG
   ·exact bG
 ·exact UK rfl _ (hE _) (hE _)
 ·exact UL rfl (hE _)
 ·exact MA (hE _)
 ·exact pY hE _
 ·exact vg hE _
 ·split
  ·exact bG
  ·rename_i h
   exact Gb C hE (by simpa using h)
 ·exact UA (hT _) (hE _) (hE _)
 ·split
  ·rename_i h;exact Uu (gp hE _ h)
  ·exact bG
 ·split
  ·rename_i h;exact Uv (gp hE _ h)
  ·exact bG
 ·exact Zk rfl (hE _) (Bf hE _) (Bf hE _)
 ·rename_i o i _ _
  split
  ·exact bG
  ·rename_i h
   have h:isSlice i=false:=by simpa using h
   split
   ·rename_i y py
    split
    ·rename_i kk hk
     split
     ·rename_i q
      rw [Bool.and_eq_true] at q
      obtain ⟨l1,l2,l3,l4⟩:=fj C q.2
      exact Nd (by rw [C.N];exact gG hk) l2 l3 l4 (hE _) (jA h)
     ·exact MI rfl (hE _) (hE _) (jA h)
    ·exact MI rfl (hE _) (hE _) (jA h)
   ·exact MI rfl (hE _) (hE _) (jA h)
 ·split
  ·rename_i h
   split
   ·rename_i j hj
    exact U1 C.gm.pg (gG hj) (hE _) h
   ·exact bG
  ·exact bG
 ·split
  ·rename_i h
   obtain ⟨rfl,h1,h2⟩:=h
   exact Nc rfl (hE _) h1 h2
  ·exact bG
 ·exact Aj (iy R C _)
 ·exact Bd C hE _ _
 ·rename_i o m ap args cp
  split
  case isFalse=>exact bG
  rename_i h
  simp only [Bool.and_eq_true,decide_eq_true_eq] at h
  obtain ⟨⟨⟨h1,h2⟩,h3⟩,h4⟩:=h
  have hA:=gp hE args h2
  split
  ·rename_i l hl
   cases args with
   | nil=>exact FQ (vn C hl) hr (by omega) (hE o) (Io h1 h2 (by omega) h4)
   | cons a args=>exact MT (vn C hl) hr (by omega) (hE o) hA h2 (Io h1 h2 (by omega) h4)
  ·split
   ·rename_i g a VB hg
    exact US (MP (m,g) (cU hg)) rfl (hE o) hA h1 h2 (by rw [List.length_cons] at h3;omega) h4
   ·exact bG
 ·exact bG
theorem Bh (R:tH M ao k r) (C:CxOk M ao k L X) (e:Expr):PT X e (tT (M.P.kt X) (stepT r L e)):=by
 obtain ⟨hE,hT,hI,hO⟩:=R L X C
 obtain ⟨j,hj,hr⟩:=C.room
 unfold stepT
 split
 ·exact (pZ hT _).pt
 ·exact (vh hT _).pt
 ·exact Uy (hT _)
 ·split
  ·exact mQ
  ·rename_i h
   exact Bc C hE (by simpa using h)
 ·exact mQ
 ·exact mQ
 ·rename_i h1 h2 h3 _ h4 h5
  refine UB (hE e) rfl fun whole=>?_
  cases e with
  | BoolOp op vs p=>cases op with
   | And=>exact absurd rfl (h1 _ _)
   | Or=>exact absurd rfl (h2 _ _)
  | UnaryOp op a p=>cases op with
   | Not=>exact absurd rfl (h3 _ _)
   | _=>rfl
  | Compare a b c d=>exact absurd rfl (h4 _ _ _ _)
  | IfExp a b c d=>exact absurd rfl (h5 _ _ _ _)
  | _=>rfl
theorem Gd {e:Expr}{args:List Expr}(h:nk e=some args):∃ p pos,e=.Call (.Name "range" p) args [] pos:=by
 unfold nk at h
 split at h
 ·split at h
  ·rename_i q;cases h;subst q;exact ⟨_,_,rfl⟩
  ·cases h
 ·cases h
theorem Bj {e a:Expr}{n:Int}(h:j9 e=some (a,n)):∃ p pos,(n=0/\e=.Call (.Name "enumerate" p) [a] [] pos)\/(n=1/\∃ k1 p1 kp,e=.Call (.Name "enumerate" p) [a] [⟨some (Str.ofString "start"),.Constant (.int 1) k1 p1,kp⟩] pos):=by
 unfold j9 at h
 split at h
 ·split at h
  ·rename_i q;cases h;subst q;exact ⟨_,_,.inl ⟨rfl,rfl⟩⟩
  ·cases h
 ·split at h
  ·rename_i q;obtain ⟨rfl,rfl,rfl⟩:=q;cases h;exact ⟨_,_,.inr ⟨rfl,_,_,_,rfl⟩⟩
  ·cases h
 ·cases h
theorem Bk (R:tH M ao k r) (C:CxOk M ao k L X) (tg e:Expr):PI X tg e (tI (M.P.kt X) (stepI M r L tg e)):=by
 obtain ⟨hE,hT,hI,hO⟩:=R L X C
 unfold stepI
 split
 ·rename_i args ha
  obtain ⟨p,pos,rfl⟩:=Gd ha
  split
  case isFalse=>exact uY
  rename_i h
  rw [Bool.and_eq_true] at h
  obtain ⟨g1,g2,_⟩:=iu C h.1
  have hs:=h.2
  split
  ·exact AR g1 g2 (hE _) (by simpa using hs)
  ·simp only [List.all_cons,Bool.and_eq_true] at hs
   exact AS g1 g2 (hE _) (hE _) hs.1 hs.2.1
  ·exact uY
 ·split
  ·rename_i a n hen
   split
   case isFalse=>exact uY
   rename_i h
   simp only [Bool.and_eq_true] at h
   obtain ⟨⟨h1,h2⟩,h3⟩:=h
   obtain ⟨g1,g2,_⟩:=iu C h1
   cases tg<;>first | (cases h2;done) | skip
   obtain ⟨p,pos,h4 | h4⟩:=Bj hen
   ·obtain ⟨rfl,rfl⟩:=h4
    exact Vo rfl g1 g2 (hE a) h3
   ·obtain ⟨rfl,k1,p1,kp,rfl⟩:=h4
    exact Vp rfl g1 g2 (hE a) h3
  ·split
   ·rename_i h
    cases tg<;>first | (cases h;done) | skip
    exact U7 rfl (hE e)
   ·exact Ij rfl (hE e)
theorem Bl (R:tH M ao k r) (C:CxOk M ao k L X) (e:Expr):PE X e (tO (M.P.kt X) (A8 r L e)):=by
 obtain ⟨hE,hT,hI,hO⟩:=R L X C
 unfold A8
 split
 ·split
  ·rename_i h;exact Mx (gp hE _ h)
  ·exact iN
 ·exact iy R C _
 ·exact iN
theorem fk:∀ n,tH M ao k (comp M ao n)
 | 0=>fun L X C=>⟨fun _=>bG,fun _=>mQ,fun _ _=>uY,fun _=>iN⟩
 | n+1=>fun L X C=>⟨Bg (fk n) C,Bh (fk n) C,Bk (fk n) C,Bl (fk n) C⟩
variable {M:Gm}{ao:Nat->Fn}{k:Nat}{L:Lc}{X:Cx}{e a b c o:Expr}{es:List Expr}{pos pos' p apos cW:Pos}{x y:Str}{i:Nat}{r:Rc}
structure WE (M:Gm) (ao:Nat->Fn) (k:Nat) (L:Lc) (X:Cx):Prop extends CxOk M ao k L X where
 fn:∀ x,X.fn x=true
 nd:X.N.Nodup
 xe:X.xe=fun _ _=>False
theorem iT {t:Option Expr}{l:Nat}(h:pX e=false):swapsWith e t l X.env=pure false:=by
 cases e<;>first | rfl | (cases h)
theorem Nx (C:CxOk M ao k L X) {tp:Pos}{l:Nat}(h:pX e=true->∃ elt gs sc p,e=.ListComp elt gs sc p):swapsWith e (some (.Name x tp)) l X.env=pure (A9 L x tp e):=by
 cases e<;>first | rfl | skip
 ·unfold swapsWith A9 Env.blockKind Env.kindOf
  rw [C.sc]
  rfl
 ·obtain ⟨_,_,_,_,z⟩:=h rfl;cases z
 ·obtain ⟨_,_,_,_,z⟩:=h rfl;cases z
theorem passes (C:WE M ao k L X):PassesOwn (model X.prog X.w) X.A X.env X.xe:=by rw [C.xe];exact PassesOwn.never
theorem Ge (h:vf e=true):∃ dp,e=.Dict [] [] dp:=by
 unfold vf at h
 split at h
 ·exact ⟨_,rfl⟩
 ·cases h
theorem Ny (h:pX e=true):vf e=false:=by
 cases e<;>first | rfl | (cases h)
theorem Gg (C:WE M ao k L X) (n:Nat) (e:Expr):PS X (.Assign [.Name x pos'] e pos) (tS (M.P.kt X) (A_ M ao n L x e)):=by
 obtain ⟨hE,hT,hI,hO⟩:=fk (M:=M) (ao:=ao) (k:=k) n L X C.toCxOk
 unfold A_
 split
 case h_2=>exact dC
 rename_i i hi
 split
 case isFalse=>exact dC
 rename_i q
 obtain ⟨l1,l2,l3,l4⟩:=fj C.toCxOk q
 have hN:X.N[i]?=some x:=by rw [C.N];exact gG hi
 have hf:X.fn x=true\/X.env.scope.names.lookup x=some .local:=.inl (C.fn x)
 by_cases hlc:pX e=false
 ·split
  ·split
   ·rename_i hd
    obtain ⟨dp,rfl⟩:=Ge hd
    exact Nk C.nd hN l1 hf
   ·exact Il C.nd hN l1 (hO e) (iT hlc) hf
  ·exact Ik C.nd hN l1 (hE e) (iT hlc) hf
 ·rw [Ny (by simpa using hlc),if_neg Bool.false_ne_true]
  cases n with
  | zero=>
   split
   ·exact fun _ _ _ _ _ _ ⟨_,_,_,_,_,h,_⟩=>by cases h
   ·exact fun _ _ _ _ _ _ ⟨_,_,_,_,_,h,_⟩=>by cases h
  | succ n=>
   cases e with
   | ListComp elt gs sc cp=>
    have R:=fk (M:=M) (ao:=ao) (k:=k) n
    have main:PS X (.Assign [.Name x pos'] (.ListComp elt gs sc cp) pos) (tS (M.P.kt X) (pI i (j8 (comp M ao n) L (.ListComp elt gs sc cp))))/\PS X (.Assign [.Name x pos'] (.ListComp elt gs sc cp) pos) (tS (M.P.kt X) (aE i (dc (j8 (comp M ao n) L (.ListComp elt gs sc cp))))):=by
     have sw:=Nx (X:=X) (x:=x) (tp:=pos') (l:=pos.line) (e:=.ListComp elt gs sc cp) C.toCxOk (fun _=>⟨_,_,_,_,rfl⟩)
     cases hb:A9 L x pos' (.ListComp elt gs sc cp) with
     | false=>
      rw [hb] at sw
      exact ⟨Il C.nd hN l1 (iy R C.toCxOk _) sw hf,Ik C.nd hN l1 (Aj (iy R C.toCxOk _)) sw hf⟩
     | true=>
      rw [hb] at sw
      have bad:PS X (.Assign [.Name x pos'] (.ListComp elt gs sc cp) pos) (tS (M.P.kt X) (pI i g8))/\PS X (.Assign [.Name x pos'] (.ListComp elt gs sc cp) pos) (tS (M.P.kt X) (aE i (dc g8))):=
       ⟨fun _ _ _ _ _ _ ⟨_,_,_,_,_,h,_⟩=>(by cases h),fun _ _ _ _ _ _ ⟨_,_,_,_,_,h,_⟩=>(by cases h)⟩
      unfold j8
      split
      ·rename_i aai tg iter ifs sc' p' hh
       cases hh
       split
       case isFalse=>exact bad
       rename_i h
       split
       ·rename_i js g is hj ht
        have K:=vm R C.toCxOk (elt:=elt) h hj ht
        obtain ⟨gt,h1,h2⟩:=K.ex
        exact M7 (locals sc) C.calm C.nd hN l1 K.sco K.fr K.it h1 h2 K.ts K.el K.lt K.st hf sw
       ·exact bad
      ·exact bad
    split
    ·exact main.1
    ·exact main.2
   | SetComp a b c d=>
    split
    ·exact fun _ _ _ _ _ _ ⟨_,_,_,_,_,h,_⟩=>by cases h
    ·exact fun _ _ _ _ _ _ ⟨_,_,_,_,_,h,_⟩=>by cases h
   | DictComp a b c d f=>
    split
    ·exact fun _ _ _ _ _ _ ⟨_,_,_,_,_,h,_⟩=>by cases h
    ·exact fun _ _ _ _ _ _ ⟨_,_,_,_,_,h,_⟩=>by cases h
   | _=>exact absurd rfl hlc
theorem Gh {mu:List Str}{e a:Expr}{y:Str}(h:nq mu e=some (y,a)):noStar a=true/\∃ py ap cp,e=.Call (.Attribute (.Name y py) "append" ap) [a] [] cp/\(ap.endLine == cp.line)=true:=by
 unfold nq at h
 split at h
 ·split at h
  ·rename_i q
   obtain ⟨rfl,_,h3,h4⟩:=q
   cases h
   exact ⟨h3,_,_,_,rfl,h4⟩
  ·cases h
 ·cases h
theorem nt {es:List Expr}{x1:Nat}{tp:Pos}(h:tG e=false):swappedStores [.Tuple es x1 tp] e X.env=pure none:=by
 cases e<;>first | rfl | (cases h)
theorem Bm (C:WE M ao k L X) (n:Nat) {rS:Lc->List Stmt->FS}(hS:∀ M3,gP X M3 (tS (M.P.kt X) (rS L M3))) (st:Stmt):PS X st (tS (M.P.kt X) (WC M ao n rS L st)):=by
 obtain ⟨hE,hT,hI,hO⟩:=fk (M:=M) (ao:=ao) (k:=k) n L X C.toCxOk
 have tgl:∀ x i,iQ L x=true->jz L.N x=some i->X.N[i]?=some x/\Loc X.env.scope x/\(X.fn x=true\/X.env.scope.names.lookup x=some .local):=fun x i h1 h2=>⟨by rw [C.N];exact gG h2,(fj C.toCxOk h1).1,.inl (C.fn x)⟩
 unfold WC
 split
 ·exact Gg C n _
 ·rename_i es x1 tp e pos
  split
  ·exact dC
  ·rename_i h
   simp only [Bool.or_eq_true,not_or,Bool.not_eq_true,Bool.not_eq_eq_eq_not,Bool.not_true,Bool.not_false] at h
   obtain ⟨⟨h1,h2⟩,h3⟩:=h
   split
   ·rename_i g is ht
    obtain ⟨gt,q1,q2⟩:=Ir (B:=M.P.kt X) (tg:=.Tuple es x1 tp) rfl C.calm C.nd tgl ht
    exact Ve (hE e) q1 q2 (show swapsWith e (some (.Tuple es x1 tp)) pos.line X.env=pure false from iT h1) (nt h2) rfl
   ·exact dC
 ·rename_i o f fp e pos
  split
  ·exact dC
  ·rename_i h
   split
   ·rename_i j hj
    exact Vk C.gm.pg (gG hj) (hE o) (hE e) (iT (by simpa using h))
   ·exact dC
 ·rename_i y py b sp e pos
  split
  ·exact dC
  ·rename_i h
   split
   ·rename_i i hi
    split
    ·rename_i q
     obtain ⟨l1,l2,l3,l4⟩:=fj C.toCxOk q
     obtain ⟨j,hj,hr⟩:=C.room
     exact Nl hr (hE e) (hE b) (by rw [C.N];exact gG hi) l2 l3 l4 (iT (by simpa using h))
    ·exact dC
   ·exact dC
 ·split
  ·rename_i i hi
   split
   ·rename_i q
    obtain ⟨l1,l2,l3,l4⟩:=fj C.toCxOk q
    exact Vu C.nd (by rw [C.N];exact gG hi) l1 (hE _) (.inl (C.fn _))
   ·exact dC
  ·exact dC
 ·rename_i e pos
  split
  ·rename_i y a ha
   obtain ⟨h1,py,ap,cp,rfl,h2⟩:=Gh ha
   split
   ·rename_i i hi
    split
    ·rename_i q
     obtain ⟨l1,l2,l3,l4⟩:=fj C.toCxOk q
     exact Vh (hE a) (by rw [C.N];exact gG hi) l2 l3 l4 h1 h2
    ·exact dC
   ·exact dC
  ·split
   ·exact dC
   ·rename_i h
    exact M9 (hE e) (iT (by simpa using h))
 ·exact Vg (hE _)
 ·exact M8
 ·exact Zv (hT _) (hS _) (hS _)
 ·rename_i tg it body pos
  split
  ·exact dC
  ·rename_i h
   split
   ·rename_i g is ht
    obtain ⟨gt,q1,q2⟩:=Ir (B:=M.P.kt X) rfl C.calm C.nd tgl ht
    exact Vi C.calm (hI tg it) q1 q2 (hS body) (passes C) (vj (by simpa using h))
   ·exact dC
 ·exact FY _ (hT _) (hS _) (passes C)
 ·exact Vw C.xe (hS _)
 ·exact M5
 ·exact FW
 ·exact M6
 ·exact dC
theorem gq (n:Nat):∀ (m:Nat) (L:Lc) (X:Cx),WE M ao k L X->∀ M3,gP X M3 (tS (M.P.kt X) (iS M ao n m L M3))
 | 0,_,_,_,_=>Vb
 | m+1,L,X,C,[]=>Vc
 | m+1,L,X,C,[st]=>Vd (Bm C n (gq n m L X C) st)
 | m+1,L,X,C,st::s2::rest=>M4 (Bm C n (gq n m L X C) st) (gq n m L X C (s2::rest))
structure Fe where
 cls:Option Str
 x:Str
 qual:Str
 st:Stmt
 N:List Str
 ps:List Str
 mu:List Str
 sl:Bool
def noFn:Fn:=fun _ _=>.bad
def VC (b:Bool) (f:Fn):Fn:=if b then aU f else f
def Bo (M:Gm) (ao:Nat->Fn) (e:Fe):Fn:=VC e.sl (aY e.ps.length e.N.length (iS M ao 60 200 ⟨e.N,aJ e.st,e.mu⟩ (b_ e.st)))
def aa (M:Gm) (Ft:List Fe):Nat->Nat->Fn
 | 0,_=>noFn
 | n+1,i=>match Ft[i]? with
  | some e=>Bo M (aa M Ft n) e
  | none=>noFn
section
variable {K:PySem.W.Frag}{mg:Str->Option Value}
def Bp (K:PySem.W.Frag) (x:Str):Option Addr:=match PySem.W.nsIn K mainGlobals x with
 | some (some (.ref a))=>some a
 | _=>none
theorem iz {x:Str}{a:Addr}(h:Bp K x=some a):PySem.W.nsIn K mainGlobals x=some (some (.ref a)):=by
 unfold Bp at h
 split at h
 ·rename_i e;cases h;exact e
 ·cases h
def ZI (K:PySem.W.Frag) (C:Addr) (m:Str):Option Addr:=match PySem.W.findIn K (.ref C) m with
 | some (some (.ref a))=>some a
 | _=>none
def WG (K:PySem.W.Frag) (C:Addr) (ns:List Str):Bool:=PySem.W.plainGet K C Str.empty&&PySem.W.hasDictIn K C&&PySem.W.plainOver K C&&decide (PySem.W.findIn K (.ref C) "__setattr__" = some (some (.builtin "object.__setattr__"))) &&
 decide (PySem.W.findIn K (.ref C) "__class__" = some (some (.builtin "object.__class__")))&&decide (PySem.W.mroIn K C (.type "object")=some true)&&ns.all (fun f=>decide (PySem.W.findIn K (.ref C) f=some none))&&decide ns.Nodup&&decide (ns.length<=100)
def subB (K:PySem.W.Frag) (cn:List Str) (C:Addr) (l:List Nat):Bool:=(List.range cn.length).all fun d=>match cn[d]? with
 | none=>true
 | some n=>(match Bp K n with
  | some D=>decide (PySem.W.kitOne K (.ref C) (.ref D)=some (decide (d∈l)))
  | none=>false)
def VD (K:PySem.W.Frag) (P:Pg):Bool:=(List.range P.cn.length).all fun c=>match P.cn[c]? with
 | none=>true
 | some n=>(match Bp K n,P.fn[c]?,P.sub[c]? with
  | some C,some ns,some l=>WG K C ns&&subB K P.cn C l
  | _,_,_=>false)
def gtB (K:PySem.W.Frag):Bool:=decide (PySem.W.specialIn K (.builtin "object.__class__") "__get__" = some (some (.builtin "getset_descriptor.__get__")))&&decide (PySem.W.takesIn K (.builtin "object.__class__")=some true)
def Nz (K:PySem.W.Frag) (mg:Str->Option Value):Prop:=∀ x o,PySem.W.nsIn K mainGlobals x=some o->mg x=o
theorem NB {h:Heap}(X:K.In h) (G:h.Ns mainGlobals mg):Nz K mg:=fun x o e=>by
 cases o with
 | none=>exact PySem.W.mg_none_of X G e
 | some v=>exact PySem.W.mg_of X G e
theorem p9 {P:Pg}(h:VD K P=true) {c:Nat}{n:Str}(hc:P.cn[c]?=some n):∃ C ns l,Bp K n=some C/\P.fn[c]?=some ns/\P.sub[c]?=some l/\WG K C ns=true/\subB K P.cn C l=true:=by
 unfold VD at h
 have:=List.all_eq_true.mp h c (List.mem_range.mpr (List.getElem?_eq_some_iff.mp hc).1)
 rw [hc] at this
 dsimp only at this
 split at this
 ·rename_i C ns l h1 h2 h3
  rw [Bool.and_eq_true] at this
  exact ⟨C,ns,l,h1,h2,h3,this.1,this.2⟩
 ·cases this
theorem nu (g:Nz K mg) {n:Str}{C:Addr}{ns:List Str}(ha:Bp K n=some C) (h:WG K C ns=true):Om K mg n ns C:=by
 unfold WG at h
 simp only [Bool.and_eq_true,decide_eq_true_eq] at h
 obtain ⟨⟨⟨⟨⟨⟨⟨⟨h1,h2⟩,h3⟩,h4⟩,h5⟩,h6⟩,h7⟩,h8⟩,h9⟩:=h
 have a:=iz ha
 exact ⟨a,g _ _ a,h8,h9,⟨h1,h2,h3,h4⟩,fun f hf=>show PySem.W.findIn K (.ref C) f=some none from of_decide_eq_true (List.all_eq_true.mp h7 f hf),h5,h6⟩
theorem VE {P:Pg}(g:Nz K mg) (h:VD K P=true) (ht:gtB K=true):mU K mg P:=by
 refine ⟨fun c n ns h1 h2=>?_,fun c d n n' C D l h1 h2 h3 h4 h5=>?_,?_⟩
 ·obtain ⟨C,Cs,l,ha,hn,_,hb,_⟩:=p9 h h1
  rw [h2] at hn
  cases hn
  exact ⟨C,nu g ha hb⟩
 ·obtain ⟨C',Cs,l',ha,_,hl,_,hs⟩:=p9 h h1
  rw [h5] at hl
  cases hl
  have e:=(g _ _ (iz ha)).symm.trans h3
  cases e
  unfold subB at hs
  have:=List.all_eq_true.mp hs d (List.mem_range.mpr (List.getElem?_eq_some_iff.mp h2).1)
  rw [h2] at this
  dsimp only at this
  split at this
  ·rename_i D' hd
   have e:=(g _ _ (iz hd)).symm.trans h4
   cases e
   exact of_decide_eq_true this
  ·cases this
 ·unfold gtB at ht
  rw [Bool.and_eq_true] at ht
  exact ⟨of_decide_eq_true ht.1,of_decide_eq_true ht.2⟩
def NC (K:PySem.W.Frag) (e:Fe):Option Addr:=match e.cls with
 | none=>Bp K e.x
 | some c=>(Bp K c).bind fun C=>ZI K C e.x
def Iu (K:PySem.W.Frag) (e:Fe):Option FuncData:=(NC K e).bind fun f=>match K.lookup f with
 | some ⟨_,_,.func fd,_⟩=>some fd
 | _=>none
def ND (e:Fe) (fd:FuncData):FuncData:=PySem.W.fnOf e.x e.qual (gW e.st) (b_ e.st) (aJ e.st) .none fd.kwdefaults fd.doc fd.pyModule fd.annotations fd.code fd.closureTuple
def scB (e:Fe):Bool:=decide ((aJ e.st).kind=.function)&&!(aJ e.st).isCoroutine&&!(aJ e.st).isGenerator&&decide e.N.Nodup&&decide (e.N.take e.ps.length=e.ps)&&e.ps.all (fun x=>decide ((aJ e.st).names.lookup x=some .local) || decide ((aJ e.st).names.lookup x=some .cell))&&(aJ e.st).names.all (fun y=>decide (y.2≠.free))
def WH (K:PySem.W.Frag) (e:Fe):Bool:=match NC K e,Iu K e with
 | some f,some fd=>PySem.W.keepIn K (.ref f)&&PySem.W.isFn K (.ref f)&&PySem.W.codeIn K fd.code e.qual&&scB e
 | _,_=>false
def Bn (e:Fe):Prop:=∀ (kV doc pm:Value) (an:Option Addr) (gn ct:Value) (us:List Value),us.length=e.ps.length->bindArgs (PySem.W.fnOf e.x e.qual (gW e.st) (b_ e.st) (aJ e.st) .none kV doc pm an gn ct) ⟨us,[]⟩=pure (e.ps.zip us)
structure yh (K:PySem.W.Frag) (e:Fe) (f:Addr) (fd:FuncData):Prop where
 at_:NC K e=some f
 fn:C7 K e.x e.qual e.st f fd
 sc:e_ e.N e.ps (aJ e.st)
 isf:PySem.W.isFn K (.ref f)=true
 bn:Binds K fd e.ps []
theorem VF {e:Fe}(h:WH K e=true) (q:Iu K e=(Iu K e).map (ND e)) (b:Bn e):∃ f fd,yh K e f fd:=by
 unfold WH at h
 split at h
 case h_2=>cases h
 rename_i f fd h1 h2
 simp only [Bool.and_eq_true] at h
 obtain ⟨⟨⟨h3,h4⟩,h5⟩,h6⟩:=h
 rw [h2] at q
 injection q with q
 have l:∃ oc od wg,K.lookup f=some ⟨oc,od,.func fd,wg⟩:=by
  unfold Iu at h2
  rw [h1] at h2
  dsimp only [Option.bind] at h2
  split at h2
  ·rename_i oc od fd' wg e
   cases h2
   exact ⟨oc,od,wg,e⟩
  ·cases h2
 obtain ⟨oc,od,wg,l⟩:=l
 have F:C7 K e.x e.qual e.st f fd:=⟨⟨oc,od,fd.kwdefaults,fd.doc,fd.pyModule,fd.annotations,fd.code,fd.closureTuple,wg,q,l,h5⟩,h3⟩
 refine ⟨f,fd,h1,F,?_,h4,F.binds b⟩
 unfold scB at h6
 simp only [Bool.and_eq_true,decide_eq_true_eq] at h6
 obtain ⟨⟨⟨⟨⟨⟨g1,g2⟩,g3⟩,g4⟩,g5⟩,g6⟩,g7⟩:=h6
 refine ⟨g1,by simpa using g2,by simpa using g3,g4,g5,fun x hx=>?_,fun y hy=>of_decide_eq_true (List.all_eq_true.mp g7 y hy)⟩
 have:=List.all_eq_true.mp g6 x hx
 rw [Bool.or_eq_true] at this
 exact this.imp of_decide_eq_true of_decide_eq_true
end
abbrev Gi:=List (Str × Nat)
section
variable {K:PySem.W.Frag}{mg:Str->Option Value}{M:Gm}{Ft:List Fe}{It:Gi}
def ZJ (e:Fe):Bool:=e.N.all fun x=>(decide ((aJ e.st).names.lookup x=some .local) || decide ((aJ e.st).names.lookup x=some .cell))&&!lN x
theorem Iv {e:Fe}(h:ZJ e=true):∀ (i:Nat) (x:Str),e.N[i]?=some x->qR (aJ e.st) x/\(x == ("__debug__" : Str))=false/\(x == ("__classdict__" : Str))=false:=fun i x hx=>by
 have:=List.all_eq_true.mp h x (List.mem_of_getElem? hx)
 rw [Bool.and_eq_true,Bool.or_eq_true] at this
 refine ⟨this.1.elim (fun h=>.inl (of_decide_eq_true h)) fun h=>.inr (.inl (of_decide_eq_true h)),WD (by simpa using this.2)⟩
def mkB (K:PySem.W.Frag) (C f:Addr):Bool:=PySem.W.makesIn K C&&decide (PySem.W.findIn K (.ref C) "__init__" = some (some (.ref f)))&&PySem.W.keepIn K (.ref C)
def Bq (K:PySem.W.Frag) (M:Gm) (Ft:List Fe) (It:Gi) (c:Nat) (x:Str) (t:List Str->Fe->Bool):Bool:=match M.P.cn[c]?,M.P.fn[c]?,(It.lookup x).bind fun i=>Ft[i]? with
 | some n,some ns,some e=>decide (n=x)&&(match Bp K x,NC K e with
  | some C,some f=>mkB K C f&&t ns e
  | _,_=>false)
 | _,_,_=>false
def fzB (n:Nat) (ns:List Str) (e:Fe):Bool:=ZJ e&&j6 e.N 1 (b_ e.st) ns&&decide (e.ps.length=ns.length+1)&&decide (ns.length=n)
noncomputable def cpB (K:PySem.W.Frag) (ns:List Str) (e:Fe):Bool:=ZJ e&&decide (e.ps.length=2)&&decide (PySem.W.nsIn K mainGlobals "list" = some none)&&decide ((aJ e.st).names.lookup ("list" : Str)=some .globalImplicit)&&(match b_ e.st with
 | [Vq]=>(match jx Vq with
  | some (s0,n,q)=>decide (ns=[n])&&decide (e.N[0]?=some s0)&&decide (e.N[1]?=some q)
  | none=>false)
 | _=>false)
noncomputable def WI (K:PySem.W.Frag) (M:Gm) (Ft:List Fe) (It:Gi) (x:Str):Ck->Bool
 | .fz c n=>Bq K M Ft It c x (fzB n)
 | .z0 c=>(match M.P.cn[c]?,Bp K x with
  | some n,some C=>decide (n=x)&&PySem.W.makesIn K C&&decide (PySem.W.findIn K (.ref C) "__init__" = some (some (.builtin "object.__init__")))&&PySem.W.keepIn K (.ref C)
  | _,_=>false)
 | .cp c=>Bq K M Ft It c x (cpB K)
 | .nw c i=>decide (It.lookup x=some i)&&Bq K M Ft It c x fun _ _=>true
def ZK (K:PySem.W.Frag) (Ft:List Fe) (p:Str × List T × Nat):Bool:=p.2.1.isEmpty&&(match Ft[p.2.2]? with
 | some e=>decide (e.cls=none)&&decide (e.x=p.1)
 | none=>false)
noncomputable def ZL (K:PySem.W.Frag) (M:Gm) (Ft:List Fe) (m:Str) (p:Nat × Nat):Bool:=match M.P.cn[p.1]?,M.P.fn[p.1]?,Ft[p.2]? with
 | some n,some ns,some e=>(match Bp K n,NC K e with
  | some C,some f=>decide (PySem.W.findIn K (.ref C) m=some (some (.ref f)))&&!ns.contains m
  | _,_=>false)
 | _,_,_=>false
def NF (K:PySem.W.Frag) (M:Gm) (Ft:List Fe) (It:Gi):Bool:=VD K M.P&&gtB K&&Ft.all (WH K)&&M.fs.all (ZK K Ft)&&M.cl.all (fun p=>WI K M Ft It p.1 p.2)&&M.ms.all (fun p=>p.2.all (ZL K M Ft p.1))&&M.bl.all (fun x=>decide (PySem.W.nsIn K mainGlobals x=some none))
structure ModOk (K:PySem.W.Frag) (M:Gm) (Ft:List Fe) (It:Gi):Prop where
 b:NF K M Ft It=true
 q:Ft.map (Iu K)=Ft.map fun e=>(Iu K e).map (ND e)
 bn:∀ e∈Ft,Bn e
theorem Br {α β:Type}{f g:α->β}:∀ {l:List α},l.map f=l.map g->∀ a∈l,f a=g a
 | [],_,a,h=>by simp at h
 | b::l,e,a,h=>by
  rw [List.map_cons,List.map_cons] at e
  injection e with e1 e2
  rcases List.mem_cons.mp h with rfl | h
  ·exact e1
  ·exact Br e2 a h
theorem ModOk.split (O:ModOk K M Ft It):VD K M.P=true/\gtB K=true/\(∀ e∈Ft,WH K e=true)/\(∀ p∈M.fs,ZK K Ft p=true)/\(∀ p∈M.cl,WI K M Ft It p.1 p.2=true)/\(∀ p∈M.ms,∀ q∈p.2,ZL K M Ft p.1 q=true)/\∀ x∈M.bl,PySem.W.nsIn K mainGlobals x=some none:=by
 have h:=O.b
 unfold NF at h
 simp only [Bool.and_eq_true] at h
 obtain ⟨⟨⟨⟨⟨⟨h1,h2⟩,h3⟩,h4⟩,h5⟩,h6⟩,h7⟩:=h
 exact ⟨h1,h2,List.all_eq_true.mp h3,List.all_eq_true.mp h4,List.all_eq_true.mp h5,fun p hp=>List.all_eq_true.mp (List.all_eq_true.mp h6 p hp),fun x hx=>of_decide_eq_true (List.all_eq_true.mp h7 x hx)⟩
theorem ModOk.fe (O:ModOk K M Ft It) {e:Fe}(h:e∈Ft):∃ f fd,yh K e f fd:=VF (O.split.2.2.1 e h) (Br O.q e h) (O.bn e h)
theorem Gj {B:KT}{P:Program}{w:World}{base:Heap}{k:Nat}{f:Addr}{fd:FuncData}{ps:List Str}:cV P w K mg base jl k f fd ps (lK B noFn):=
 ⟨fun vs H Q E ⟨_,_,_,_,_,_,_,h,_⟩=>(by cases h),fun _ _ _ _ _ _ _ _ _ _ _ _ _ ⟨_,_,_,_,_,_,_,h,_⟩=>(by cases h)⟩
theorem tN (g:Nz K mg) (O:ModOk K M Ft It) {c:Nat}{x:Str}{t:List Str->Fe->Bool}(h:Bq K M Ft It c x t=true):∃ C ns e i f fd,M.P.cn[c]?=some x/\M.P.fn[c]?=some ns/\It.lookup x=some i/\Ft[i]?=some e/\yh K e f fd/\Mk K C f/\Om K mg x ns C/\t ns e=true:=by
 unfold Bq at h
 split at h
 case h_2=>cases h
 rename_i n ns e h1 h2 h3
 obtain ⟨i,h4,h5⟩:=Option.bind_eq_some_iff.mp h3
 rw [Bool.and_eq_true] at h
 obtain ⟨hn,h⟩:=h
 have hn:=of_decide_eq_true hn
 subst hn
 split at h
 case h_2=>cases h
 rename_i C f h6 h7
 rw [Bool.and_eq_true] at h
 obtain ⟨f',fd,F⟩:=O.fe (List.mem_of_getElem? h5)
 have:=F.at_.symm.trans h7
 cases this
 obtain ⟨C',Cs,l,g1,g2,_,g3,_⟩:=p9 O.split.1 h1
 rw [h6] at g1
 cases g1
 rw [h2] at g2
 cases g2
 unfold mkB at h
 simp only [Bool.and_eq_true,decide_eq_true_eq] at h
 exact ⟨C,ns,e,i,_,fd,h1,h2,h4,h5,F,⟨h.1.1.1,h.1.1.2,F.isf,h.1.2⟩,nu g h6 g3,h.2⟩
theorem yi {α:Type}{l:List (Nat × α)}{x:Nat}{a:α}(h:l.lookup x=some a):(x,a)∈l:=by
 induction l with
 | nil=>simp at h
 | cons p l ih=>
  obtain ⟨q,b⟩:=p
  rw [List.lookup_cons] at h
  split at h
  ·rename_i e
   cases h
   rw [eq_of_beq e]
   exact List.mem_cons_self ..
  ·exact List.mem_cons_of_mem _ (ih h)
variable {Pr:Program}{w:World}{base:Heap}
theorem Om.Bs {P:Pg}{c:Nat}{x:Str}{ns:List Str}{C:Addr}(F:Om K mg x ns C) (h1:P.cn[c]?=some x) (h2:P.fn[c]?=some ns):fL (gF P K Pr w) c C ns:=⟨x,h1,h2,F.nd,F.at_⟩
theorem Gk {e:Fe}{f:Addr}{fd:FuncData}{ao:Nat->Fn}{k:Nat}(F:yh K e f fd) (G:Ba M Pr w K mg base ao k):cV Pr w K mg base jl (k+2) f fd e.ps (lK (gF M.P K Pr w) (Bo M ao e)):=by
 have main:cV Pr w K mg base jl (k+2) f fd e.ps (lK (gF M.P K Pr w) (aY e.ps.length e.N.length (iS M ao 60 200 ⟨e.N,aJ e.st,e.mu⟩ (b_ e.st)))):=by
  refine M_ F.fn F.sc fun gn A outer s H E hr=>?_
  exact gq 60 200 ⟨e.N,aJ e.st,e.mu⟩ (kR jl Pr w K mg base e.N e.qual (aJ e.st) f gn A outer s H E).GY ⟨⟨G,rfl,rfl,rfl,k+1,Nat.le_refl _,hr⟩,fun _=>rfl,F.sc.nd,rfl⟩ (b_ e.st)
 unfold Bo VC
 split
 ·exact FZ main
 ·exact main
theorem vo {n:Nat}{i:Nat}{e:Fe}{f:Addr}{fd:FuncData}(F:yh K e f fd) (he:Ft[i]?=some e) (h:∀ m,n=m+1->Ba M Pr w K mg base (aa M Ft m) (2*m+1)):cV Pr w K mg base jl (2*n+1) f fd e.ps (lK (gF M.P K Pr w) (aa M Ft n i)):=by
 cases n with
 | zero=>exact Gj
 | succ m=>
  have:=Gk F (h m rfl)
  unfold aa
  rw [he]
  exact this
theorem NG (g:Nz K mg) (O:ModOk K M Ft It) (hc:∀ x t,M.cs.lookup x=some t->u7 K mg x t):∀ n,Ba M Pr w K mg base (aa M Ft n) (2*n+1):=by
 intro n
 induction n using Nat.strongRecOn with
 | ind n ih=>
 have call:∀ {i:Nat} {e:Fe} {f:Addr} {fd:FuncData},yh K e f fd->Ft[i]?=some e->cV Pr w K mg base jl (2*n+1) f fd e.ps (lK (gF M.P K Pr w) (aa M Ft n i)):=fun F he=>vo F he fun m hm=>ih m (by omega)
 obtain ⟨o1,o2,o3,o4,o5,o6,o7⟩:=O.split
 have pg:=VE g o1 o2
 refine ⟨pg,hc,fun x ds i h=>?_,fun x c k h=>?_,fun x c h=>?_,fun x c h=>?_,fun x c i h=>?_,fun m l c i h1 h2=>?_,fun x h=>g x none (o7 x h)⟩
 ·have q:=o4 _ (cU h)
  unfold ZK at q
  rw [Bool.and_eq_true] at q
  obtain ⟨q1,q2⟩:=q
  dsimp only at q1 q2
  split at q2
  case h_2=>cases q2
  rename_i e he
  rw [Bool.and_eq_true] at q2
  obtain ⟨q2,q3⟩:=q2
  have q2:=of_decide_eq_true q2
  have q3:=of_decide_eq_true q3
  subst q3
  obtain ⟨f,fd,F⟩:=O.fe (List.mem_of_getElem? he)
  have ha:=F.at_
  unfold NC at ha
  rw [q2] at ha
  have:ds=[]:=by simpa using q1
  subst this
  exact ⟨f,fd,e.ps,[],[],call F he,g _ _ (iz ha),F.fn.kp,F.bn,.nil,fun _ _=>rfl⟩
 ·obtain ⟨C,ns,e,i,f,fd,c1,c2,c3,c4,F,m,cl,q⟩:=tN g O (o5 _ (cU h))
  unfold fzB at q
  simp only [Bool.and_eq_true,decide_eq_true_eq] at q
  obtain ⟨⟨⟨q1,q2⟩,q3⟩,q4⟩:=q
  exact ⟨C,f,fd,e.ps,ns,cl.Bs c1 c2,q4,cl.gl,m,F4 F.fn F.sc (Iv q1) q2 q3 cl.cl cl.na cl.nd cl.nT,F.bn⟩
 ·have q:=o5 _ (cU h)
  unfold WI at q
  dsimp only at q
  split at q
  case h_2=>cases q
  rename_i n' C h1 h2
  simp only [Bool.and_eq_true,decide_eq_true_eq] at q
  obtain ⟨⟨⟨q1,q2⟩,q3⟩,q4⟩:=q
  subst q1
  obtain ⟨C',ns,l,g1,g2,_,g3,_⟩:=p9 o1 h1
  rw [h2] at g1
  cases g1
  have cl:=nu g h2 g3
  exact ⟨C,ns,cl.Bs h1 g2,cl.gl,q2,q3,q4⟩
 ·obtain ⟨C,ns,e,i,f,fd,c1,c2,c3,c4,F,m,cl,q⟩:=tN g O (o5 _ (cU h))
  unfold cpB at q
  simp only [Bool.and_eq_true,decide_eq_true_eq] at q
  obtain ⟨⟨⟨⟨q1,q2⟩,q3⟩,q4⟩,q5⟩:=q
  split at q5
  case h_2=>cases q5
  rename_i Vq hb
  split at q5
  case h_2=>cases q5
  rename_i s0 n' q' hi
  simp only [Bool.and_eq_true,decide_eq_true_eq] at q5
  obtain ⟨⟨r1,r2⟩,r3⟩:=q5
  subst r1
  exact ⟨C,f,fd,e.ps,n',cl.Bs c1 c2,cl.gl,m,AX F.fn F.sc hb hi r2 r3 (Iv q1) (g _ _ q3) q4 q2 cl.cl (cl.na _ (List.mem_cons_self ..)),F.bn⟩
 ·have q:=o5 _ (cU h)
  unfold WI at q
  dsimp only at q
  rw [Bool.and_eq_true] at q
  obtain ⟨q0,q⟩:=q
  have q0:=of_decide_eq_true q0
  obtain ⟨C,ns,e,i',f,fd,c1,c2,c3,c4,F,m,cl,_⟩:=tN g O q
  rw [q0] at c3
  cases c3
  exact ⟨C,f,fd,e.ps,ns,cl.Bs c1 c2,cl.gl,m,call F c4,F.bn⟩
 ·have q:=o6 _ (cU h1) (c,i) (yi h2)
  unfold ZL at q
  dsimp only at q
  split at q
  case h_2=>cases q
  rename_i n' ns e d1 d2 d3
  split at q
  case h_2=>cases q
  rename_i C f d4 d5
  rw [Bool.and_eq_true] at q
  obtain ⟨q1,q2⟩:=q
  obtain ⟨C',Cs,l',g1,g2,_,g3,_⟩:=p9 o1 d1
  rw [d4] at g1
  cases g1
  rw [d2] at g2
  cases g2
  have cl:=nu g d4 g3
  obtain ⟨f',fd,F⟩:=O.fe (List.mem_of_getElem? d3)
  have:=F.at_.symm.trans d5
  cases this
  exact ⟨C,_,fd,e.ps,ns,cl.Bs d1 d2,cl.cl,⟨of_decide_eq_true q1,F.isf,F.fn.kp⟩,call F d3,F.bn,fun z=>by rw [List.contains_iff_mem.mpr z] at q2;cases q2⟩
end
section
variable {K:PySem.W.Frag}{mg:Str->Option Value}{M:Gm}{Ft:List Fe}{It:Gi}
def vp:T->Value->Bool
 | .int i,.int j _=>decide (i=j)
 | .str l,.str s _=>decide (s.cps.toList=l)&&decide (l.length<=1000000)
 | .bl b,.bool c=>b == c
 | .non,.none=>true
 | _,_=>false
def dj:T->V
 | .int i=>.int i
 | .str l=>SV l
 | .bl b=>.bl b
 | _=>.non
theorem vq {t:T}{u:Value}(h:vp t u=true):RelV (dj t) u/\∀ (B:KT) al H,Rep B al H t (dj t):=by
 unfold vp at h
 split at h
 ·have h:=of_decide_eq_true h
  subst h
  exact ⟨⟨_,rfl⟩,fun _ _ _=>rfl⟩
 ·rename_i l s tk
  rw [Bool.and_eq_true] at h
  have h1:=of_decide_eq_true h.1
  subst h1
  exact ⟨⟨tk,rfl⟩,fun _ _ _=>⟨rfl,of_decide_eq_true h.2⟩⟩
 ·have h:=eq_of_beq h
  subst h
  exact ⟨rfl,fun _ _ _=>rfl⟩
 ·exact ⟨rfl,fun _ _ _=>rfl⟩
 ·cases h
def ny:List T->List Value->Bool
 | [],[]=>true
 | t::ts,u::us=>vp t u&&ny ts us
 | _,_=>false
theorem p_:∀ {ts:List T}{us:List Value},ny ts us=true->Vals (ts.map dj) us/\∀ (B:KT) al H,aH B al H ts (ts.map dj)
 | [],[],_=>⟨.nil,fun _ _ _=>rfl⟩
 | t::ts,u::us,h=>by
  rw [ny,Bool.and_eq_true] at h
  obtain ⟨a,b⟩:=vq h.1
  obtain ⟨c,d⟩:=p_ h.2
  exact ⟨.cons a c,fun B al H=>⟨_,_,rfl,b B al H,d B al H⟩⟩
 | [],_::_,h=>by cases h
 | _::_,[],h=>by cases h
def Gn (K:PySem.W.Frag) (p:Str × T):Bool:=match PySem.W.nsIn K mainGlobals p.1 with
 | some (some u)=>(match p.2,u with
  | .tup ts,.ref a=>(match K.lookup a with
   | some ⟨.type c,_,.seq its _,_⟩=>decide (c = "tuple")&&decide (its.size<=sizeLine)&&ny ts its.toList
   | _=>false)
  | t,u=>vp t u)
 | _=>false
theorem NH (g:Nz K mg) {x:Str}{t:T}(h:Gn K (x,t)=true):u7 K mg x t:=by
 unfold Gn at h
 dsimp only at h
 split at h
 case h_2=>cases h
 rename_i u hu
 have hm:=g _ _ hu
 split at h
 ·rename_i ts a
  split at h
  ·rename_i c od its n sl hl
   simp only [Bool.and_eq_true,decide_eq_true_eq] at h
   obtain ⟨⟨h1,h2⟩,h3⟩:=h
   subst h1
   obtain ⟨v1,v2⟩:=p_ h3
   exact ⟨_,.ref a,hm,rfl,fun B al H hB=>⟨a,ts.map dj,rfl,.inr ⟨_,its,n,hB ▸ hl,rfl,rfl,h2,v1⟩,v2 B al H⟩⟩
  ·cases h
 ·obtain ⟨v1,v2⟩:=vq h
  exact ⟨u,dj t,hm,v1,fun B al H _=>v2 B al H⟩
structure Bt (K:PySem.W.Frag) (M:Gm) (Ft:List Fe) (It:Gi):Prop extends ModOk K M Ft It where
 cs:M.cs.all (Gn K)=true
variable {Pr:Program}{w:World}{base:Heap}
theorem Gp (g:Nz K mg) (O:Bt K M Ft It) (n:Nat):Ba M Pr w K mg base (aa M Ft n) (2*n+1):=NG g O.toModOk (fun x t h=>NH g (List.all_eq_true.mp O.cs _ (cU h))) n
theorem Gq {B:KT}{f:Fn}{k:Nat}(ns:List Int) (h:∃ m',f [.scr ns] []=.ok (.bl true,m')) {H:Hp}{a:Addr}(hO:C5 H) (hS:c9 B.K H a (ns.map V.int)):lK B f [.ref a] H (fun v _=>v=.bl true) fun _ _ _=>False:=by
 obtain ⟨m',h⟩:=h
 refine ⟨⟨H,fun _=>none,[]⟩,[.scr ns],[],_,m',⟨fun _ _ e=>e,fun b p e=>(by cases e),rfl,fun k ob e=>(by simp at e)⟩,⟨_,_,rfl,⟨a,rfl,hS⟩,rfl⟩,h,fun v g' H' _ _ r=>r⟩
end
theorem VG {l:PySem.W.OpenLaw}{m n:Nat}{q:Program}{loose:List Str}{XP:(Str->Option Value)->Heap->Prop}{YP:World->Heap->Prop}{d:DefRec}{K:Params->PySem.W.Frag}{M:Gm}{Ft:List Fe}{It:Gi}{i:Nat}{e:Fe}
  (hn:l.most=some m) (hm:m<=sizeLine) (PD:d.params.defaults=[]) (hr:bP (2*n+1) callerA) (hY:∀ (w:World) (h:Heap),YP w h->(K w.params).In h)
  (he:Ft[i]?=some e) (hp:e.ps=[("_law_script" : Str)]) (hx:e.x=d.name) (C9:e.cls=none) (O:∀ P,Bt (K P) M Ft It) (hT:∀ ns:List Int,ns.length<=m->∃ m',aa M Ft n i [.scr ns] []=.ok (.bl true,m')) :
  PySem.W.WalkO q loose XP YP l.row.toRowW d [] (fun f vs=>PySem.call f vs):=by
 refine L2.C6 (n:=m) (k:=2*n+1) (x:=("_law_script" : Str)) (CX:=fun _=>jl) (sp:=fun w=>lK (gF M.P (K w.params) l.prog w) (aa M Ft n i)) hn hm PD hr hY (fun w mg fa h KX G PF=>?_) (fun w H a ns hl hO hS=>Gq (k:=0) ns (hT ns hl) hO hS) fun _ _ _ _ _ z=>z
 have g:=NB KX G
 obtain ⟨f,fd,F⟩:=(O w.params).fe (List.mem_of_getElem? he)
 have ha:=F.at_
 unfold NC at ha
 rw [C9] at ha
 have ea:=(g _ _ (iz ha)).symm.trans (hx ▸ PF)
 cases ea
 refine ⟨fd,fun s u=>?_,fun base KB GB=>?_⟩
 ·obtain ⟨oc,od,kV,doc,pm,an,gn,ct,wg,rfl,_⟩:=F.fn.ex
  have:=(O w.params).bn e (List.mem_of_getElem? he) kV doc pm an gn ct [u] (by rw [hp];rfl)
  rw [hp] at this
  exact .of_eq this
 ·have:=vo (Pr:=l.prog) (w:=w) (base:=base) (mg:=mg) F he (n:=n) fun m hm=>Gp g (O w.params) m
  rw [hp] at this
  exact this
end D
namespace D
theorem bH {α β:Type}(a:α) (f:α->Res β):Res.bind (.ok a) f=f a:=rfl
theorem cN {α:Type}(a:α):dh (some a)=.ok a:=rfl
section
variable {a b:FS}{s s':S}{r:Res (Out × S)}{t:T}{c:FT}{np n:Nat}{ts:List T}{m m':List Ob}{e:FE}
theorem seq1 (h:a s=.ok (.nx,s')) (k:b s'=r):ah a b s=r:=by unfold ah;rw [h];exact k
theorem b8 (h:a s=.ok (.rt t,s')):ah a b s=.ok (.rt t,s'):=by unfold ah;rw [h];rfl
theorem eM (h:c s=.ok (true,s')) (k:a s'=r):aW c a b s=r:=by unfold aW;rw [h];exact k
theorem bq (h:c s=.ok (false,s')) (k:b s'=r):aW c a b s=r:=by unfold aW;rw [h];exact k
theorem aC (h:e s=.ok (t,s')):ak e s=.ok (.rt t,s'):=by unfold ak;rw [h];rfl
theorem az (h:ts.length=np) (k:b ⟨ts.map (fun t=>some (.val t))++List.replicate (n-ts.length) none,m⟩=.ok (.rt t,s')) (hm:s'.m=m'):aY np n b ts m=.ok (t,m'):=by
 unfold aY;rw [if_pos h,k,<- hm];rfl
theorem VH (h:ts.length=np) (k:b ⟨ts.map (fun t=>some (.val t))++List.replicate (n-ts.length) none,m⟩=.ok (.nx,s')) (hm:s'.m=m'):aY np n b ts m=.ok (.non,m'):=by
 unfold aY;rw [if_pos h,k,<- hm];rfl
theorem aq {g:Fn}(h:aO ts=true) (k:g ts []=.ok (t,m')) (ht:noOwn t=true):aU g ts m=.ok (t,m):=by
 unfold aU;rw [if_pos h,k];exact if_pos ht
theorem aA {g:Fn}{ds:List T}{fl:FL}(h:fl s=.ok (ts,s')) (k:g (ts++ds) s'.m=.ok (t,m')):ai g ds fl s=.ok (t,⟨s'.r,m'⟩):=by
 unfold ai;rw [h];show (match g (ts++ds) s'.m with | .ok q=>_ | .bad=>_ | .exc c fs s'=>_)=_;rw [k]
end
theorem VI {g:Nat->Option Fn}{o:FE}{fl:FL}{k:Nat}{ob:Ob}{f:Fn}{ts:List T}{t:T}{s s1 s2:S}{m':List Ob}(h:o s=.ok (.own k,s1)) (hm:s1.m[k]?=some ob) (hg:g ob.c=some f) (ha:fl s1=.ok (ts,s2)) (hc:f (.own k::ts) s2.m=.ok (t,m')) :
  aP g o fl s=.ok (t,⟨s2.r,m'⟩):=by
 unfold aP
 rw [h]
 show Res.bind (dh ((s1.m[k]?).bind fun ob=>g ob.c)) _=_
 rw [hm]
 show Res.bind (dh (g ob.c)) _=_
 rw [hg]
 refine Eq.trans (bH f _) ?_
 exact aA (ts:=.own k::ts) (s':=s2) (by rw [ha];rfl) (by rw [List.append_nil];exact hc)
theorem gK {α:Type}{p:Prop} [Decidable p] {x:α}(h:p):gd p x=some x:=if_pos h
theorem ev:(∀ t s,cF t s=.ok (t,s))/\(∀ g a s,bD g a s=(a s).bind fun p=>(dh (g p.1)).bind fun t=>.ok (t,p.2))/\(∀ g a b s,bB g a b s=(a s).bind fun p=>(b p.2).bind fun q=>(dh (g p.1 q.1)).bind fun t=>.ok (t,q.2)) /\
  (∀ s,c_ s=.ok ([],s))/\(∀ a r s,cM a r s=(a s).bind fun p=>(r p.2).bind fun q=>.ok (p.1::q.1,q.2))/\(∀ g a s,aM g a s=(a s).bind fun p=>(dh (g p.1)).bind fun t=>.ok (t,p.2)) /\
  (∀ a s,tB a s=(a s).bind fun p=>(dh (Fc p.1)).bind fun b=>.ok (b,p.2))/\(∀ a s,a_ a s=(a s).bind fun p=>(dh (Mv p.1)).bind fun b=>.ok (b,p.2))/\(∀ a s,bA a s=(a s).bind fun p=>.ok (!p.1,p.2)) /\
  (∀ s,sR s=.ok (none,s))/\(∀ a s,kN a s=(a s).bind fun p=>(dh (Uo p.1)).bind fun i=>.ok (some i,p.2))/\(∀ a lo hi s,mG a lo hi s=(a s).bind fun p=>(lo p.2).bind fun q=>(hi q.2).bind fun z=>(dh (z9 q.1 z.1 p.1)).bind fun t=>.ok (t,z.2)) /\
  (∀ i a s,aE i a s=(a s).bind fun p=>.ok (.nx,ju p.2 i (.val p.1)))/\(∀ a s,cQ a s=(a s).bind fun p=>.ok (.nx,p.2))/\(∀ s,av s=.ok (.nx,s)) /\
  (∀ r m i c,ju ⟨r,m⟩ i c=⟨r.set i (some c),m⟩)/\(∀ f o fl s,jd f o fl s=(o s).bind fun p=>(dh (FF p.1)).bind fun l=>(fl p.2).bind fun q=>(dh (f l q.1)).bind fun t=>.ok (t,q.2)) /\
  (∀ t,Fc (.bl t)=some t)/\(∀ t,Mv (.bl t)=some t)/\(∀ i,Uo (.int i)=some i)/\(∀ l,FF (.str l)=some l):=
 ⟨fun _ _=>rfl,fun _ _ _=>rfl,fun _ _ _ _=>rfl,fun _=>rfl,fun _ _ _=>rfl,fun _ _ _=>rfl,fun _ _=>rfl,fun _ _=>rfl,fun _ _=>rfl,fun _=>rfl,fun _ _=>rfl,fun _ _ _ _=>rfl,fun _ _ _=>rfl,fun _ _=>rfl,fun _=>rfl,fun _ _ _ _=>rfl,fun _ _ _ _=>rfl,fun _=>rfl,fun _=>rfl,fun _=>rfl,fun _=>rfl⟩
theorem c7:(∀ r m t,vF 0 ⟨some (.val t)::r,m⟩=.ok (t,⟨some (.val t)::r,m⟩))/\(∀ x0 r m t,vF 1 ⟨x0::some (.val t)::r,m⟩=.ok (t,⟨x0::some (.val t)::r,m⟩))/\(∀ x0 x1 r m t,vF 2 ⟨x0::x1::some (.val t)::r,m⟩=.ok (t,⟨x0::x1::some (.val t)::r,m⟩))/\(∀ x0 x1 x2 r m t,vF 3 ⟨x0::x1::x2::some (.val t)::r,m⟩=.ok (t,⟨x0::x1::x2::some (.val t)::r,m⟩))/\(∀ x0 x1 x2 x3 r m t,vF 4 ⟨x0::x1::x2::x3::some (.val t)::r,m⟩=.ok (t,⟨x0::x1::x2::x3::some (.val t)::r,m⟩))/\(∀ x0 x1 x2 x3 x4 r m t,vF 5 ⟨x0::x1::x2::x3::x4::some (.val t)::r,m⟩=.ok (t,⟨x0::x1::x2::x3::x4::some (.val t)::r,m⟩))/\(∀ x0 x1 x2 x3 x4 x5 r m t,vF 6 ⟨x0::x1::x2::x3::x4::x5::some (.val t)::r,m⟩=.ok (t,⟨x0::x1::x2::x3::x4::x5::some (.val t)::r,m⟩))/\(∀ x0 x1 x2 x3 x4 x5 x6 r m t,vF 7 ⟨x0::x1::x2::x3::x4::x5::x6::some (.val t)::r,m⟩=.ok (t,⟨x0::x1::x2::x3::x4::x5::x6::some (.val t)::r,m⟩))/\(∀ y r c,List.set (α:=Option C) (y::r) 0 c=c::r)/\(∀ x0 y r c,List.set (α:=Option C) (x0::y::r) 1 c=x0::c::r)/\(∀ x0 x1 y r c,List.set (α:=Option C) (x0::x1::y::r) 2 c=x0::x1::c::r)/\(∀ x0 x1 x2 y r c,List.set (α:=Option C) (x0::x1::x2::y::r) 3 c=x0::x1::x2::c::r)/\(∀ x0 x1 x2 x3 y r c,List.set (α:=Option C) (x0::x1::x2::x3::y::r) 4 c=x0::x1::x2::x3::c::r)/\(∀ x0 x1 x2 x3 x4 y r c,List.set (α:=Option C) (x0::x1::x2::x3::x4::y::r) 5 c=x0::x1::x2::x3::x4::c::r)/\(∀ x0 x1 x2 x3 x4 x5 y r c,List.set (α:=Option C) (x0::x1::x2::x3::x4::x5::y::r) 6 c=x0::x1::x2::x3::x4::x5::c::r)/\(∀ x0 x1 x2 x3 x4 x5 x6 y r c,List.set (α:=Option C) (x0::x1::x2::x3::x4::x5::x6::y::r) 7 c=x0::x1::x2::x3::x4::x5::x6::c::r):=
 ⟨fun _ _ _=>rfl,fun _ _ _ _=>rfl,fun _ _ _ _ _=>rfl,fun _ _ _ _ _ _=>rfl,fun _ _ _ _ _ _ _=>rfl,fun _ _ _ _ _ _ _ _=>rfl,fun _ _ _ _ _ _ _ _ _=>rfl,fun _ _ _ _ _ _ _ _ _ _=>rfl,fun _ _ _=>rfl,fun _ _ _ _=>rfl,fun _ _ _ _ _=>rfl,fun _ _ _ _ _ _=>rfl,fun _ _ _ _ _ _ _=>rfl,fun _ _ _ _ _ _ _ _=>rfl,fun _ _ _ _ _ _ _ _ _=>rfl,fun _ _ _ _ _ _ _ _ _ _=>rfl⟩
end D
namespace D
open PySem L2 PyProof.Rows
theorem Bu (l:List Nat):(⟨l.toArray⟩:Str).length=l.length:=by show l.toArray.size=_;simp
open PySem.StrLaws in
theorem qa (s sub:Str) (hi:Nat):∀ (l:List Nat) (a fr:Nat),(forIn l ((#[a]:Array Nat),fr) (occBody s sub hi 1)).run.fst=#[a]
 | [],_,_=>rfl
 | b::l,a,fr=>by
  rw [List.forIn_cons]
  unfold occBody
  rw [if_neg (by simp)]
  exact qa s sub hi l a fr
open PySem.StrLaws Builtin.Str in
theorem occ_first (s sub:Str) (hi:Nat):∀ (n lo fr:Nat),fr<=lo ->
  ((forIn (List.range' lo n) ((#[]:Array Nat),fr) (occBody s sub hi 1)).run.fst=#[]/\∀ i,lo<=i->i<lo+n->¬ (i+sub.length<=hi/\subAt s sub i=true)) \/
  ∃ i,(forIn (List.range' lo n) ((#[]:Array Nat),fr) (occBody s sub hi 1)).run.fst=#[i]/\lo<=i/\i<lo+n/\(i+sub.length<=hi/\subAt s sub i=true)/\∀ j,lo<=j->j<i->¬ (j+sub.length<=hi/\subAt s sub j=true)
 | 0,lo,fr,_=>.inl ⟨rfl,fun i a b=>by omega⟩
 | n+1,lo,fr,h=>by
  rw [List.range'_succ,List.forIn_cons]
  by_cases hc:lo+sub.length<=hi/\subAt s sub lo=true
  ·right
   refine ⟨lo,?_,Nat.le_refl _,by omega,hc,fun j a b=>by omega⟩
   unfold occBody
   rw [if_pos ⟨⟨⟨by simp,h⟩,hc.1⟩,hc.2⟩]
   exact qa s sub hi _ lo _
  ·have e:∀ k,(occBody s sub hi 1 lo ((#[]:Array Nat),fr) >>= k:Id (Array Nat × Nat))=k (ForInStep.yield ((#[]:Array Nat),fr)):=fun k=>by
    unfold occBody
    rw [if_neg (fun z=>hc ⟨z.1.2,z.2⟩)]
    rfl
   rw [e]
   rcases occ_first s sub hi n (lo+1) fr (by omega) with ⟨a,b⟩ | ⟨i,a,b,c,d,g⟩
   ·refine .inl ⟨a,fun i h1 h2=>?_⟩
    by_cases z:i=lo
    ·subst z;exact hc
    ·exact b i (by omega) (by omega)
   ·refine .inr ⟨i,a,by omega,by omega,d,fun j h1 h2=>?_⟩
    by_cases z:j=lo
    ·subst z;exact hc
    ·exact g j (by omega) h2
theorem tQ (c:Nat) (r:List Nat) (i:Nat):(i+(⟨[c].toArray⟩:Str).length<=r.length/\Builtin.Str.subAt ⟨r.toArray⟩ ⟨[c].toArray⟩ i=true) ↔ r[i]?=some c:=by
 rw [StrLaws.subAt_eq,Bu,beq_iff_eq]
 show (i + [c].length<=r.length/\(r.drop i).take [c].length=[c]) ↔ _
 constructor
 ·rintro ⟨h1,h2⟩
  have:=congrArg (fun q=>q[0]?) h2
  simpa using this
 ·intro h
  have hi:=(List.getElem?_eq_some_iff.mp h).1
  refine ⟨hi,?_⟩
  rw [List.drop_eq_getElem_cons hi]
  have:=(List.getElem?_eq_some_iff.mp h).2
  simp [this]
theorem vt (c:Nat) (D S R:List Nat) (h:c ∉ S):Builtin.Str.occurrences ⟨(D++(S++c::R)).toArray⟩ ⟨[c].toArray⟩ D.length (D++(S++c::R)).length 1=[D.length+S.length]:=by
 have hat:(D++(S++c::R))[D.length+S.length]?=some c:=by
  rw [List.getElem?_append_right (by omega),List.getElem?_append_right (by omega)]
  simp
 have ZM:∀ j,D.length<=j->j<D.length+S.length->¬ (D++(S++c::R))[j]?=some c:=fun j h1 h2 z=>by
  rw [List.getElem?_append_right h1,List.getElem?_append_left (by omega)] at z
  exact h (List.mem_of_getElem? z)
 rw [StrLaws.occ_eq]
 rcases occ_first ⟨(D++(S++c::R)).toArray⟩ ⟨[c].toArray⟩ (D++(S++c::R)).length ((D++(S++c::R)).length+1-D.length) D.length D.length (Nat.le_refl _) with ⟨a,b⟩ | ⟨i,a,b,c',d,g⟩
 ·exact absurd ((tQ c _ _).mpr hat) (b _ (by omega) (by simp;omega))
 ·rw [a]
  have hi:=(tQ c _ _).mp d
  have:i=D.length+S.length:=by
   rcases Nat.lt_trichotomy i (D.length+S.length) with z | z | z
   ·exact absurd hi (ZM i b z)
   ·exact z
   ·exact absurd ((tQ c _ _).mpr hat) (g _ (by omega) z)
  rw [this]
theorem Bv (c:Nat) (D S R:List Nat) (h:c ∉ S):jZ (D++(S++c::R)) [.str [c],.int (D.length:Nat)]=some (.int ((D.length+S.length:Nat):Int)):=by
 show some (T.int (Txt.find3 _ _ _))=_
 unfold Txt.find3
 have hfi:PySem.fromIndex (⟨(D++(S++c::R)).toArray⟩:Str).length ((D.length:Nat):Int)=D.length:=by
  unfold PySem.fromIndex
  rw [if_neg (by omega)]
  omega
 rw [hfi,Bu,vt c D S R h]
theorem yj (c:Nat) (S R:List Nat) (h:c ∉ S):jZ (S++c::R) [.str [c]]=some (.int ((S.length:Nat):Int)):=by
 have:=vt c [] S R h
 rw [List.nil_append] at this
 show some (T.int (Txt.find _ _))=_
 unfold Txt.find
 rw [Bu]
 have e:Builtin.Str.occurrences ⟨(S++c::R).toArray⟩ ⟨[c].toArray⟩ 0 (S++c::R).length 1=[0+S.length]:=this
 rw [e,Nat.zero_add]
theorem jB (n d k:Nat):eK n d (some (k:Int))=min k n:=by
 unfold eK
 dsimp only
 rw [if_neg (by omega)];rfl
theorem Bw (n d:Nat):eK n d none=d:=rfl
theorem f_ {α:Type}(w r:List α):bZ (w++r) (some (w.length:Int)) none=r:=by
 unfold bZ
 rw [jB,Bw,List.length_append,Nat.min_eq_left (by omega),List.drop_left]
 simp
theorem Bx {α:Type}(w r:List α):bZ (w++r) none (some (w.length:Int))=w:=by
 unfold bZ
 rw [jB,Bw,List.length_append,Nat.min_eq_left (by omega)]
 simp
theorem Gs {α:Type}(a b c:List α):bZ (a++(b++c)) (some (a.length:Int)) (some ((a.length+b.length:Nat):Int))=b:=by
 unfold bZ
 rw [jB,jB,List.length_append,List.length_append,Nat.min_eq_left (by omega),Nat.min_eq_left (by omega),List.drop_left]
 have:a.length+b.length-a.length=b.length:=by omega
 rw [this,List.take_left]
theorem pre_app (w r:List Nat):pre w (w++r)=true:=by unfold pre;simp
theorem aj {c d:Nat}{w r:List Nat}(h:c≠d):pre (c::w) (d::r)=false:=by
 unfold pre
 rw [List.length_cons,List.length_cons,List.take_succ_cons]
 have:(d::List.take w.length r == c::w)=false:=by
  rw [beq_eq_false_iff_ne]
  intro z
  injection z with z _
  exact h z.symm
 rw [this,Bool.and_false]
theorem eU (c:Nat) (w r:List Nat):pre (c::w) (c::r)=pre w r:=by
 unfold pre
 rw [List.length_cons,List.length_cons,List.take_succ_cons]
 have:(c::List.take w.length r == c::w)=(List.take w.length r == w):=by
  rw [Bool.eq_iff_iff];simp
 rw [this]
 congr 1
 apply decide_eq_decide.mpr
 omega
end D
namespace D
abbrev sv (t:T):Option C:=some (.val t)
abbrev cI (i:Int):FE:=cF (.int i)
abbrev cS (l:List Nat):FE:=cF (.str l)
abbrev oA:FE->FE->FE:=bB (cO .Add)
abbrev oM:FE->FE->FE:=bB (cO .Mod)
abbrev oD:FE->FE->FE:=bB (cO .FloorDiv)
abbrev oE:FE->FE->FE:=bB (aN .Eq)
abbrev oI:FE->FE->FE:=bB f9
abbrev k1 (a:FE):FL:=cM a c_
abbrev k2 (a b:FE):FL:=cM a (k1 b)
abbrev k3 (a b c:FE):FL:=cM a (k2 b c)
end D
namespace K22
open PySem D L2
noncomputable abbrev fx (x:Str) (i:Nat):Str × List T × Nat:=(x,[],i)
noncomputable def M:Gm:={
 P:={ cn:=["Program", "Line", "Cond", "Always", "RowIs", "Last", "Like", "Soon", "FromTo", "Not", "End", "Deed", "Mark", "Drop", "Print", "Done", "Say", "Swap", "Join", "Pile", "Bring", "Go", "Add", "Tell", "Scan"],an:=["lines", "cond", "deed", "number", "pattern", "many", "first", "second", "inner", "name", "words", "every", "most", "shelf", "rest"],tab:=[[0],[1,2],[],[],[3],[],[4],[5,4],[6,7],[8],[],[],[9],[],[],[],[10],[4,10,11],[12],[13,12],[13],[9],[6,7],[],[14,3]],sub:=[[0],[1],[2],[2,3],[2,4],[2,5],[2,6],[2,7],[2,8],[2,9],[2,10],[11],[11,12],[11,13],[11,14],[11,15],[11,16],[11,17],[11,18],[11,19],[11,20],[11,21],[11,22],[11,23],[24]] },
 cs:=[("SIGNS", .str [97,98,99,100,101,102,103,104,105,106,107,108,109,110,111,112,113,114,115,116,117,118,119,120,121,122,65,66,67,68,69,70,71,72,73,74,75,76,77,78,79,80,81,82,83,84,85,86,87,88,89,90,48,49,50,51,52,53,54,55,56,57,32,33,34,35,36,38,39,40,41,42,43,44,45,46,47,58,59,60,61,62,63,64,91,92,93,94,95,96,123,124,125,126]),("SMALL_LETTERS", .str [97,98,99,100,101,102,103,104,105,106,107,108,109,110,111,112,113,114,115,116,117,118,119,120,121,122]),("FIGURES", .str [48,49,50,51,52,53,54,55,56,57]),("MOST_ITEMS", .int 8),("MOST_SIGNS", .int 12),("NEVER_PLAIN", .str [94,36,46,91,93,42,43,63,47]),("NEVER_IN_A_SET", .str [93,94,47]),("ONCE", .str [49]),("HOW_MANY", .str [42,43,63]),("COND_BEGINNINGS", .tup [.str [114,111,119,32],.str [108,97,115,116],.str [47],.str [115,111,111,110,32],.str [102,114,111,109,32],.str [110,111,116,32],.str [101,110,100]]),("MOST_ROW", .int 999),("MOST_FIGURES", .int 3),("MOST_SOON", .int 3),("LEAST_JOIN", .int 2),("MOST_SMALL", .int 9),("MOST_LETTERS", .int 8),("MOST_TEXT", .int 40),("MOST_LINES", .int 24)],
 fs:=[fx "made_of" 0,fx "beginning_of" 1,fx "may_stand_plain" 2,fx "pattern" 3,fx "items_of" 4,fx "place_behind_core" 5,fx "many_at" 6,fx "item_of" 7,fx "set_item" 8,fx "is_written_plain" 9,fx "written" 10,fx "written_core" 11,fx "may_be_empty" 12,fx "least_length" 13,fx "may_be_left_out" 14,fx "line_of" 15,fx "line_next" 16,fx "cond_next" 17,fx "plain_cond_next" 18,fx "row_or_pattern_next" 19,fx "deed_next" 20,fx "swap_next" 21,fx "pile_next" 22,fx "add_next" 23,fx "number_next" 24,fx "name_next" 25,fx "words_next" 26,fx "pattern_next" 27,fx "may_stand" 28,fx "may_swap" 29,fx "cut" 30,fx "read" 31,fx "lines_of" 32,fx "marks_of" 33,fx "refuse_go_without_mark" 34,fx "shown" 35,fx "line_text" 36,fx "cond_text" 37,fx "deed_text" 38,fx "pattern_text" 39,fx "quoted" 40,fx "_law_cell_at" 41,fx "_law_set" 42,fx "_law_plain" 43,fx "_law_item" 44,fx "_law_pattern" 45,fx "_law_name" 46,fx "_law_words" 47,fx "_law_first" 48,fx "_law_cond" 49,fx "_law_swap" 50,fx "_law_deed" 51,fx "_law_whole" 52,fx "_law_same" 53,fx "_law_is_cond" 54,fx "_law_is_numbered" 55,fx "_law_is_deed" 56,fx "_law_line" 57,fx "_law_lines" 58,fx "law" 59],
 cl:=[("Program", .cp 0),("Line", .fz 1 2),("Cond", .z0 2),("Always", .z0 3),("RowIs", .fz 4 1),("Last", .z0 5),("Like", .fz 6 1),("Soon", .fz 7 2),("FromTo", .fz 8 2),("Not", .fz 9 1),("End", .z0 10),("Deed", .z0 11),("Mark", .fz 12 1),("Drop", .z0 13),("Print", .z0 14),("Done", .z0 15),("Say", .fz 16 1),("Swap", .fz 17 3),("Join", .fz 18 1),("Pile", .fz 19 2),("Bring", .fz 20 1),("Go", .fz 21 1),("Add", .fz 22 2),("Tell", .z0 23),("Scan", .nw 24 75)],
 ms:=[("refuse", [(24,76)]),("passes", [(24,77)]),("must_pass", [(24,78)]),("while_made_of", [(24,79)]),("between", [(24,80)])],
 bl:=["isinstance", "len", "all", "any", "str", "int", "list", "range", "enumerate", "tuple", "bool", "set"] }
noncomputable def Ft:List Fe:=[
 ⟨none, "made_of", "made_of", top 35,["text", "signs"],["text", "signs"],[],true⟩,
 ⟨none, "beginning_of", "beginning_of", top 36,["text", "signs", "many"],["text", "signs"],[],true⟩,
 ⟨none, "may_stand_plain", "may_stand_plain", top 44,["sign"],["sign"],[],true⟩,
 ⟨none, "pattern", "pattern", top 45,["text", "front", "body", "back", "items"],["text"],[],true⟩,
 ⟨none, "items_of", "items_of", top 46,["body", "items", "place", "behind", "many"],["body"],["items"],true⟩,
 ⟨none, "place_behind_core", "place_behind_core", top 47,["body", "place", "bracket"],["body", "place"],[],true⟩,
 ⟨none, "many_at", "many_at", top 48,["body", "place"],["body", "place"],[],true⟩,
 ⟨none, "item_of", "item_of", top 49,["core", "many"],["core", "many"],[],true⟩,
 ⟨none, "set_item", "set_item", top 50,["inside", "many", "others", "signs"],["inside", "many"],[],true⟩,
 ⟨none, "is_written_plain", "is_written_plain", top 51,["signs", "others"],["signs", "others"],[],true⟩,
 ⟨none, "written", "written", top 52,["one", "parts", "signs", "others", "many"],["one"],["parts"],true⟩,
 ⟨none, "written_core", "written_core", top 53,["signs", "others"],["signs", "others"],[],true⟩,
 ⟨none, "may_be_empty", "may_be_empty", top 54,["one"],["one"],[],true⟩,
 ⟨none, "least_length", "least_length", top 55,["one"],["one"],[],true⟩,
 ⟨none, "may_be_left_out", "may_be_left_out", top 56,["item"],["item"],[],true⟩,
 ⟨none, "line_of", "line_of", top 67,["row", "number", "scan", "line"],["row", "number"],[],true⟩,
 ⟨none, "line_next", "line_next", top 68,["scan", "cond"],["scan"],[],false⟩,
 ⟨none, "cond_next", "cond_next", top 69,["scan"],["scan"],[],false⟩,
 ⟨none, "plain_cond_next", "plain_cond_next", top 70,["scan", "many", "first"],["scan"],[],false⟩,
 ⟨none, "row_or_pattern_next", "row_or_pattern_next", top 71,["scan"],["scan"],[],false⟩,
 ⟨none, "deed_next", "deed_next", top 72,["scan"],["scan"],[],false⟩,
 ⟨none, "swap_next", "swap_next", top 73,["scan", "every", "one"],["scan", "every"],[],false⟩,
 ⟨none, "pile_next", "pile_next", top 74,["scan", "shelf"],["scan"],[],false⟩,
 ⟨none, "add_next", "add_next", top 75,["scan", "first"],["scan"],[],false⟩,
 ⟨none, "number_next", "number_next", top 76,["scan", "least", "most", "figures", "number"],["scan", "least", "most"],[],false⟩,
 ⟨none, "name_next", "name_next", top 77,["scan", "name"],["scan"],[],false⟩,
 ⟨none, "words_next", "words_next", top 78,["scan", "words"],["scan"],[],false⟩,
 ⟨none, "pattern_next", "pattern_next", top 79,["scan", "text"],["scan"],[],false⟩,
 ⟨none, "may_stand", "may_stand", top 80,["cond", "deed"],["cond", "deed"],[],true⟩,
 ⟨none, "may_swap", "may_swap", top 81,["deed"],["deed"],[],true⟩,
 ⟨none, "cut", "cut", top 83,["text", "rows"],["text"],[],true⟩,
 ⟨none, "read", "read", top 86,["text", "lines", "marks"],["text"],[],true⟩,
 ⟨none, "lines_of", "lines_of", top 87,["rows", "lines", "number", "row"],["rows"],["lines"],true⟩,
 ⟨none, "marks_of", "marks_of", top 88,["lines", "marks", "number", "line"],["lines"],["marks"],true⟩,
 ⟨none, "refuse_go_without_mark", "refuse_go_without_mark", top 89,["lines", "marks", "number", "line"],["lines", "marks"],[],true⟩,
 ⟨none, "shown", "shown", top 91,["program"],["program"],[],true⟩,
 ⟨none, "line_text", "line_text", top 92,["line"],["line"],[],true⟩,
 ⟨none, "cond_text", "cond_text", top 93,["cond"],["cond"],[],true⟩,
 ⟨none, "deed_text", "deed_text", top 94,["deed"],["deed"],[],true⟩,
 ⟨none, "pattern_text", "pattern_text", top 95,["one"],["one"],[],true⟩,
 ⟨none, "quoted", "quoted", top 96,["words"],["words"],[],true⟩,
 ⟨none, "_law_cell_at", "_law_cell_at", top 98,["_law_script", "_law_k"],["_law_script", "_law_k"],[],true⟩,
 ⟨none, "_law_set", "_law_set", top 99,["_law_cell", "_law_some", "_law_step"],["_law_cell"],[],true⟩,
 ⟨none, "_law_plain", "_law_plain", top 100,["_law_cell", "_law_some"],["_law_cell"],[],true⟩,
 ⟨none, "_law_item", "_law_item", top 101,["_law_cell", "_law_many", "_law_behind", "_law_way", "_law_signs", "_law_sign"],["_law_cell"],[],true⟩,
 ⟨none, "_law_pattern", "_law_pattern", top 102,["_law_cell", "_law_made", "_law_front", "_law_shut", "_law_text"],["_law_cell", "_law_made"],[],true⟩,
 ⟨none, "_law_name", "_law_name", top 103,["_law_cell", "_law_rest", "_law_word", "_law_k"],["_law_cell"],[],true⟩,
 ⟨none, "_law_words", "_law_words", top 104,["_law_size", "_law_cell", "_law_step", "_law_some"],["_law_size", "_law_cell", "_law_step"],[],true⟩,
 ⟨none, "_law_first", "_law_first", top 105,["_law_other", "_law_amid"],["_law_other"],[],true⟩,
 ⟨none, "_law_cond", "_law_cond", top 106,["_law_cell", "_law_other", "_law_one", "_law_made", "_law_two", "_law_numbers", "_law_text"],["_law_cell", "_law_other"],[],true⟩,
 ⟨none, "_law_swap", "_law_swap", top 107,["_law_cell", "_law_other", "_law_sign", "_law_one", "_law_least", "_law_words_here"],["_law_cell", "_law_other"],[],true⟩,
 ⟨none, "_law_deed", "_law_deed", top 108,["_law_cell", "_law_other", "_law_name_here", "_law_numbers", "_law_words_here"],["_law_cell", "_law_other"],[],true⟩,
 ⟨none, "_law_whole", "_law_whole", top 109,["_law_got"],["_law_got"],[],true⟩,
 ⟨none, "_law_same", "_law_same", top 110,["_law_got", "_law_due", "_law_item_here"],["_law_got", "_law_due"],[],true⟩,
 ⟨none, "_law_is_cond", "_law_is_cond", top 111,["_law_got", "_law_due"],["_law_got", "_law_due"],[],true⟩,
 ⟨none, "_law_is_numbered", "_law_is_numbered", top 112,["_law_got", "_law_due"],["_law_got", "_law_due"],[],true⟩,
 ⟨none, "_law_is_deed", "_law_is_deed", top 113,["_law_got", "_law_due"],["_law_got", "_law_due"],[],true⟩,
 ⟨none, "_law_line", "_law_line", top 114,["_law_script", "_law_cell", "_law_head", "_law_cond_here", "_law_text", "_law_deed_here", "_law_name_here", "_law_way", "_law_words_here"],["_law_script"],[],true⟩,
 ⟨none, "_law_lines", "_law_lines", top 115,["_law_script", "_law_way", "_law_name_here", "_law_mark", "_law_going", "_law_head", "_law_cond_here"],["_law_script"],[],true⟩,
 ⟨none, "law", "law", top 116,["_law_script", "_law_due", "_law_text", "_law_program", "_law_k", "_law_got", "_law_line_here"],["_law_script"],[],true⟩,
 ⟨some "Program", "__init__", "Program.__init__", inClass (top 7) 0,["self", "lines"],["self", "lines"],[],false⟩,
 ⟨some "Line", "__init__", "Line.__init__", inClass (top 8) 0,["self", "cond", "deed"],["self", "cond", "deed"],[],false⟩,
 ⟨some "RowIs", "__init__", "RowIs.__init__", inClass (top 11) 0,["self", "number"],["self", "number"],[],false⟩,
 ⟨some "Like", "__init__", "Like.__init__", inClass (top 13) 0,["self", "pattern"],["self", "pattern"],[],false⟩,
 ⟨some "Soon", "__init__", "Soon.__init__", inClass (top 14) 0,["self", "many", "pattern"],["self", "many", "pattern"],[],false⟩,
 ⟨some "FromTo", "__init__", "FromTo.__init__", inClass (top 15) 0,["self", "first", "second"],["self", "first", "second"],[],false⟩,
 ⟨some "Not", "__init__", "Not.__init__", inClass (top 16) 0,["self", "inner"],["self", "inner"],[],false⟩,
 ⟨some "Mark", "__init__", "Mark.__init__", inClass (top 19) 0,["self", "name"],["self", "name"],[],false⟩,
 ⟨some "Say", "__init__", "Say.__init__", inClass (top 23) 0,["self", "words"],["self", "words"],[],false⟩,
 ⟨some "Swap", "__init__", "Swap.__init__", inClass (top 24) 0,["self", "pattern", "words", "every"],["self", "pattern", "words", "every"],[],false⟩,
 ⟨some "Join", "__init__", "Join.__init__", inClass (top 25) 0,["self", "most"],["self", "most"],[],false⟩,
 ⟨some "Pile", "__init__", "Pile.__init__", inClass (top 26) 0,["self", "shelf", "most"],["self", "shelf", "most"],[],false⟩,
 ⟨some "Bring", "__init__", "Bring.__init__", inClass (top 27) 0,["self", "shelf"],["self", "shelf"],[],false⟩,
 ⟨some "Go", "__init__", "Go.__init__", inClass (top 28) 0,["self", "name"],["self", "name"],[],false⟩,
 ⟨some "Add", "__init__", "Add.__init__", inClass (top 29) 0,["self", "first", "second"],["self", "first", "second"],[],false⟩,
 ⟨some "Scan", "__init__", "Scan.__init__", inClass (top 66) 0,["self", "row", "number"],["self", "row", "number"],[],false⟩,
 ⟨some "Scan", "refuse", "Scan.refuse", inClass (top 66) 1,["self"],["self"],[],false⟩,
 ⟨some "Scan", "passes", "Scan.passes", inClass (top 66) 2,["self", "words"],["self", "words"],[],false⟩,
 ⟨some "Scan", "must_pass", "Scan.must_pass", inClass (top 66) 3,["self", "words"],["self", "words"],[],false⟩,
 ⟨some "Scan", "while_made_of", "Scan.while_made_of", inClass (top 66) 4,["self", "signs", "taken"],["self", "signs"],[],false⟩,
 ⟨some "Scan", "between", "Scan.between", inClass (top 66) 5,["self", "sign", "place", "inside"],["self", "sign"],[],false⟩]
noncomputable def It:Gi:=[("Program", 60),("Line", 61),("RowIs", 62),("Like", 63),("Soon", 64),("FromTo", 65),("Not", 66),("Mark", 67),("Say", 68),("Swap", 69),("Join", 70),("Pile", 71),("Bring", 72),("Go", 73),("Add", 74),("Scan", 75)]
def t0 (ao:Nat->Fn):Fn:=aU (aY 2 2 (ak (aM FI (k1 (dc (bN (lF (vF 0)) 2 [1] (setG 1) dE (bB (aN .In) (vF 1) (vF 2))))))))
theorem w0 (n:Nat):aa M Ft (n+1) 0=t0 (aa M Ft n):=rfl
def t1 (ao:Nat->Fn):Fn:=aU (aY 2 3 (ah (aE 2 (cI 0))
 (ah (mK many (ee (a_ (bB (aN .Lt) (vF 2) (aM br (k1 (vF 0))))) (a_ (bB (aN .In) (oI (vF 0) (vF 2)) (vF 1))))
  (Aa u6 2 (cI 1)))
 (ak (mG (vF 0) sR (kN (vF 2)))))))
theorem w1 (n:Nat):aa M Ft (n+1) 1=t1 (aa M Ft n):=rfl
def t2 (ao:Nat->Fn):Fn:=aU (aY 1 1 (ak (dq (bB (aN .In) (vF 0) (cS [97,98,99,100,101,102,103,104,105,106,107,108,109,110,111,112,113,114,115,116,117,118,119,120,121,122,65,66,67,68,69,70,71,72,73,74,75,76,77,78,79,80,81,82,83,84,85,86,87,88,89,90,48,49,50,51,52,53,54,55,56,57,32,33,34,35,36,38,39,40,41,42,43,44,45,46,47,58,59,60,61,62,63,64,91,92,93,94,95,96,123,124,125,126])) (bB (aN .NotIn) (vF 0) (cS [94,36,46,91,93,42,43,63,47])))))
theorem w2 (n:Nat):aa M Ft (n+1) 2=t2 (aa M Ft n):=rfl
def t3 (ao:Nat->Fn):Fn:=aU (aY 1 5 (ah (aW (bA (tB (bD (qS "str") (vF 0))))
  cz
  av)
 (ah (aW (bA (tB (ai (ao 0) [] (k2 (vF 0) (cS [97,98,99,100,101,102,103,104,105,106,107,108,109,110,111,112,113,114,115,116,117,118,119,120,121,122,65,66,67,68,69,70,71,72,73,74,75,76,77,78,79,80,81,82,83,84,85,86,87,88,89,90,48,49,50,51,52,53,54,55,56,57,32,33,34,35,36,38,39,40,41,42,43,44,45,46,47,58,59,60,61,62,63,64,91,92,93,94,95,96,123,124,125,126])))))
  cz
  av)
 (ah (aE 1 (jd nU (vF 0) (k1 (cS [94]))))
 (ah (aE 2 (nS (tB (vF 1)) (mG (vF 0) (kN (cI 1)) sR) (vF 0)))
 (ah (aE 3 (jd Ww (vF 2) (k1 (cS [36]))))
 (ah (aE 4 (ai (ao 4) [] (k1 (nS (tB (vF 3)) (mG (vF 2) sR (kN (bD kX (cI 1)))) (vF 2)))))
 (ah (aW (a_ (bB (aN .Gt) (aM br (k1 (vF 4))) (cI 8)))
  cz
  av)
 (ak (aM aL (k3 (vF 1) (vF 4) (vF 3))))))))))))
theorem w3 (n:Nat):aa M Ft (n+1) 3=t3 (aa M Ft n):=rfl
def t4 (ao:Nat->Fn):Fn:=aU (aY 1 5 (ah (pI 1 (Ah c_))
 (ah (aE 2 (cI 0))
 (ah (mK many (a_ (bB (aN .Lt) (vF 2) (aM br (k1 (vF 0)))))
  (ah (aE 3 (ai (ao 5) [] (k2 (vF 0) (vF 2))))
 (ah (aE 4 (ai (ao 6) [] (k2 (vF 0) (vF 3))))
 (ah (iL 1 (ai (ao 7) [] (k2 (mG (vF 0) (kN (vF 2)) (kN (vF 3))) (vF 4))))
 (aE 2 (nS (a_ (oE (vF 4) (cS [49]))) (vF 3) (oA (vF 3) (cI 1))))))))
 (ak (vF 1))))))
theorem w4 (n:Nat):aa M Ft (n+1) 4=t4 (aa M Ft n):=rfl
def t5 (ao:Nat->Fn):Fn:=aU (aY 2 3 (ah (aW (a_ (bB (aN .NotEq) (oI (vF 0) (vF 1)) (cS [91])))
  (ak (oA (vF 1) (cI 1)))
  av)
 (ah (aE 2 (jd jZ (vF 0) (k2 (cS [93]) (vF 1))))
 (ah (aW (a_ (oE (vF 2) (bD kX (cI 1))))
  cz
  av)
 (ak (oA (vF 2) (cI 1)))))))
theorem w5 (n:Nat):aa M Ft (n+1) 5=t5 (aa M Ft n):=rfl
def t6 (ao:Nat->Fn):Fn:=aU (aY 2 2 (ah (aW (ee (a_ (bB (aN .Lt) (vF 1) (aM br (k1 (vF 0))))) (a_ (bB (aN .In) (oI (vF 0) (vF 1)) (cS [42,43,63]))))
  (ak (oI (vF 0) (vF 1)))
  av)
 (ak (cS [49]))))
theorem w6 (n:Nat):aa M Ft (n+1) 6=t6 (aa M Ft n):=rfl
def t7 (ao:Nat->Fn):Fn:=aU (aY 2 2 (ah (aW (a_ (oE (vF 0) (cS [46])))
  (ak (aM aL (k3 (cS []) (cF (.bl true)) (vF 1))))
  av)
 (ah (aW (tB (jd nU (vF 0) (k1 (cS [91]))))
  (ak (ai (ao 8) [] (k2 (mG (vF 0) (kN (cI 1)) (kN (bD kX (cI 1)))) (vF 1))))
  av)
 (ah (aW (bA (tB (ai (ao 2) [] (k1 (vF 0)))))
  cz
  av)
 (ak (aM aL (k3 (vF 0) (cF (.bl false)) (vF 1))))))))
theorem w7 (n:Nat):aa M Ft (n+1) 7=t7 (aa M Ft n):=rfl
def t8 (ao:Nat->Fn):Fn:=aU (aY 2 4 (ah (aE 2 (jd nU (vF 0) (k1 (cS [94]))))
 (ah (aE 3 (nS (tB (vF 2)) (mG (vF 0) (kN (cI 1)) sR) (vF 0)))
 (ah (aW (eS (a_ (oE (vF 3) (cS []))) (a_ (bB (aN .Gt) (aM br (k1 (vF 3))) (cI 12))))
  cz
  av)
 (ah (aW (tB (aM mT (k1 (dc (bN (lF (vF 3)) 2 [] (setG 1) dE (bB (aN .In) (vF 1) (cS [93,94,47])))))))
  cz
  av)
 (ah (aW (a_ (bB (aN .NotEq) (bD m_ (vF 3)) (aM br (k1 (vF 3)))))
  cz
  av)
 (ah (aW (tB (ai (ao 9) [] (k2 (vF 3) (vF 2))))
  cz
  av)
 (ak (aM aL (k3 (vF 3) (vF 2) (vF 1)))))))))))
theorem w8 (n:Nat):aa M Ft (n+1) 8=t8 (aa M Ft n):=rfl
def t9 (ao:Nat->Fn):Fn:=aU (aY 2 2 (ak (dq (pH (vF 1)) (dq (oE (aM br (k1 (vF 0))) (cI 1)) (ai (ao 2) [] (k1 (vF 0)))))))
theorem w9 (n:Nat):aa M Ft (n+1) 9=t9 (aa M Ft n):=rfl
def t10 (ao:Nat->Fn):Fn:=aU (aY 1 5 (ah (pI 1 (Ah (k1 (nS (tB (oI (vF 0) (cI 0))) (cS [94]) (cS [])))))
 (ah (jS (FU (oI (vF 0) (cI 1))) (dU [2,3,4])
  (ah (iL 1 (ai (ao 11) [] (k2 (vF 2) (vF 3))))
 (iL 1 (nS (a_ (oE (vF 4) (cS [49]))) (cS []) (vF 4)))))
 (ah (iL 1 (nS (tB (oI (vF 0) (cI 2))) (cS [36]) (cS [])))
 (ak (jd joinM (cS []) (k1 (vF 1))))))))
theorem Xy (n:Nat):aa M Ft (n+1) 10=t10 (aa M Ft n):=rfl
def t11 (ao:Nat->Fn):Fn:=aU (aY 2 2 (ah (aW (a_ (oE (vF 0) (cS [])))
  (ak (cS [46]))
  av)
 (ah (aW (tB (vF 1))
  (ak (bD (lM [91,94] [93]) (vF 0)))
  av)
 (ah (aW (tB (ai (ao 9) [] (k2 (vF 0) (vF 1))))
  (ak (vF 0))
  av)
 (ak (bD (lM [91] [93]) (vF 0)))))))
theorem w11 (n:Nat):aa M Ft (n+1) 11=t11 (aa M Ft n):=rfl
def t12 (ao:Nat->Fn):Fn:=aU (aY 1 1 (ak (oE (ai (ao 13) [] (k1 (vF 0))) (cI 0))))
theorem w12 (n:Nat):aa M Ft (n+1) 12=t12 (aa M Ft n):=rfl
def t13 (ao:Nat->Fn):Fn:=aU (aY 1 1 (ak (aM br (k1 (dc (bN (lF (oI (vF 0) (cI 1))) 2 [] (setG 1) (bA (tB (ai (ao 14) [] (k1 (vF 1))))) (vF 1)))))))
theorem w13 (n:Nat):aa M Ft (n+1) 13=t13 (aa M Ft n):=rfl
def Yo (ao:Nat->Fn):Fn:=aU (aY 1 1 (ak (bB (aN .In) (oI (vF 0) (cI 2)) (aM aL (k2 (cS [42]) (cS [63]))))))
theorem w14 (n:Nat):aa M Ft (n+1) 14=Yo (aa M Ft n):=rfl
def t15 (ao:Nat->Fn):Fn:=aU (aY 2 4 (ah (aE 2 (xZ 24 (ao 75) (k2 (vF 0) (vF 1))))
 (ah (aE 3 (ai (ao 16) [] (k1 (vF 2))))
 (ah (aW (eS (a_ (bB (aN .NotEq) (aI M.P.tab 14 (vF 2)) (cS []))) (bA (tB (ai (ao 28) [] (k2 (aI M.P.tab 1 (vF 3)) (aI M.P.tab 2 (vF 3)))))))
  (cQ (aP (aG [(24,76)] ao) (vF 2) c_))
  av)
 (ak (vF 3))))))
theorem w15 (n:Nat):aa M Ft (n+1) 15=t15 (aa M Ft n):=rfl
def t16 (ao:Nat->Fn):Fn:=aY 1 2 (ah (aW (tB (aP (aG [(24,77)] ao) (vF 0) (k1 (cS [109,97,114,107,32]))))
  (ak (cX 1 2 (k2 (cX 3 0 c_) (cX 12 1 (k1 (ai (ao 25) [] (k1 (vF 0))))))))
  av)
 (ah (aW (bA (tB (aM mT (k1 (dc (bN (lF (cF (.tup [(.str [114,111,119,32]),(.str [108,97,115,116]),(.str [47]),(.str [115,111,111,110,32]),(.str [102,114,111,109,32]),(.str [110,111,116,32]),(.str [101,110,100])]))) 2 [0] (setG 1) dE (jd nU (aI M.P.tab 14 (vF 2)) (k1 (vF 1)))))))))
  (ak (cX 1 2 (k2 (cX 3 0 c_) (ai (ao 20) [] (k1 (vF 0))))))
  av)
 (ah (aE 1 (ai (ao 17) [] (k1 (vF 0))))
 (ah (cQ (aP (aG [(24,78)] ao) (vF 0) (k1 (cS [58,32]))))
 (ak (cX 1 2 (k2 (vF 1) (ai (ao 20) [] (k1 (vF 0))))))))))
theorem w16 (n:Nat):aa M Ft (n+1) 16=t16 (aa M Ft n):=rfl
def t17 (ao:Nat->Fn):Fn:=aY 1 1 (ah (aW (tB (aP (aG [(24,77)] ao) (vF 0) (k1 (cS [101,110,100]))))
  (ak (cX 10 0 c_))
  av)
 (ah (aW (tB (aP (aG [(24,77)] ao) (vF 0) (k1 (cS [110,111,116,32]))))
  (ak (cX 9 1 (k1 (ai (ao 18) [] (k1 (vF 0))))))
  av)
 (ak (ai (ao 18) [] (k1 (vF 0))))))
theorem w17 (n:Nat):aa M Ft (n+1) 17=t17 (aa M Ft n):=rfl
def t18 (ao:Nat->Fn):Fn:=aY 1 3 (ah (aW (tB (aP (aG [(24,77)] ao) (vF 0) (k1 (cS [108,97,115,116]))))
  (ak (cX 5 0 c_))
  av)
 (ah (aW (tB (aP (aG [(24,77)] ao) (vF 0) (k1 (cS [115,111,111,110,32]))))
  (ah (aE 1 (ai (ao 24) [] (k3 (vF 0) (cI 1) (cI 3))))
 (ah (cQ (aP (aG [(24,78)] ao) (vF 0) (k1 (cS [32]))))
 (ak (cX 7 2 (k2 (vF 1) (ai (ao 27) [] (k1 (vF 0))))))))
  av)
 (ah (aW (tB (aP (aG [(24,77)] ao) (vF 0) (k1 (cS [102,114,111,109,32]))))
  (ah (aE 2 (ai (ao 19) [] (k1 (vF 0))))
 (ah (cQ (aP (aG [(24,78)] ao) (vF 0) (k1 (cS [32,116,111,32]))))
 (ak (cX 8 2 (k2 (vF 2) (ai (ao 19) [] (k1 (vF 0))))))))
  av)
 (ak (ai (ao 19) [] (k1 (vF 0)))))))
theorem w18 (n:Nat):aa M Ft (n+1) 18=t18 (aa M Ft n):=rfl
def t19 (ao:Nat->Fn):Fn:=aY 1 1 (ah (aW (tB (aP (aG [(24,77)] ao) (vF 0) (k1 (cS [114,111,119,32]))))
  (ak (cX 4 1 (k1 (ai (ao 24) [] (k3 (vF 0) (cI 1) (cI 999))))))
  av)
 (ak (cX 6 1 (k1 (ai (ao 27) [] (k1 (vF 0)))))))
theorem w19 (n:Nat):aa M Ft (n+1) 19=t19 (aa M Ft n):=rfl
def t20 (ao:Nat->Fn):Fn:=aY 1 1 (ah (aW (tB (aP (aG [(24,77)] ao) (vF 0) (k1 (cS [100,114,111,112]))))
  (ak (cX 13 0 c_))
  av)
 (ah (aW (tB (aP (aG [(24,77)] ao) (vF 0) (k1 (cS [112,114,105,110,116]))))
  (ak (cX 14 0 c_))
  av)
 (ah (aW (tB (aP (aG [(24,77)] ao) (vF 0) (k1 (cS [100,111,110,101]))))
  (ak (cX 15 0 c_))
  av)
 (ah (aW (tB (aP (aG [(24,77)] ao) (vF 0) (k1 (cS [116,101,108,108]))))
  (ak (cX 23 0 c_))
  av)
 (ah (aW (tB (aP (aG [(24,77)] ao) (vF 0) (k1 (cS [115,97,121,32]))))
  (ak (cX 16 1 (k1 (ai (ao 26) [] (k1 (vF 0))))))
  av)
 (ah (aW (tB (aP (aG [(24,77)] ao) (vF 0) (k1 (cS [115,119,97,112,32,101,118,101,114,121,32]))))
  (ak (ai (ao 21) [] (k2 (vF 0) (cF (.bl true)))))
  av)
 (ah (aW (tB (aP (aG [(24,77)] ao) (vF 0) (k1 (cS [115,119,97,112,32]))))
  (ak (ai (ao 21) [] (k2 (vF 0) (cF (.bl false)))))
  av)
 (ah (aW (tB (aP (aG [(24,77)] ao) (vF 0) (k1 (cS [106,111,105,110,32]))))
  (ak (cX 18 1 (k1 (ai (ao 24) [] (k3 (vF 0) (cI 2) (cI 9))))))
  av)
 (ah (aW (tB (aP (aG [(24,77)] ao) (vF 0) (k1 (cS [112,105,108,101,32]))))
  (ak (ai (ao 22) [] (k1 (vF 0))))
  av)
 (ah (aW (tB (aP (aG [(24,77)] ao) (vF 0) (k1 (cS [98,114,105,110,103,32]))))
  (ak (cX 20 1 (k1 (ai (ao 25) [] (k1 (vF 0))))))
  av)
 (ah (aW (tB (aP (aG [(24,77)] ao) (vF 0) (k1 (cS [103,111,32]))))
  (ak (cX 21 1 (k1 (ai (ao 25) [] (k1 (vF 0))))))
  av)
 (ah (cQ (aP (aG [(24,78)] ao) (vF 0) (k1 (cS [97,100,100,32]))))
 (ak (ai (ao 23) [] (k1 (vF 0))))))))))))))))
theorem w20 (n:Nat):aa M Ft (n+1) 20=t20 (aa M Ft n):=rfl
def t21 (ao:Nat->Fn):Fn:=aY 2 3 (ah (aE 2 (ai (ao 27) [] (k1 (vF 0))))
 (ah (cQ (aP (aG [(24,78)] ao) (vF 0) (k1 (cS [32]))))
 (ak (cX 17 3 (k3 (vF 2) (ai (ao 26) [] (k1 (vF 0))) (vF 1))))))
theorem w21 (n:Nat):aa M Ft (n+1) 21=t21 (aa M Ft n):=rfl
def t22 (ao:Nat->Fn):Fn:=aY 1 2 (ah (aE 1 (ai (ao 25) [] (k1 (vF 0))))
 (ah (aW (bA (tB (aP (aG [(24,77)] ao) (vF 0) (k1 (cS [32])))))
  (ak (cX 19 2 (k2 (vF 1) (cF .non))))
  av)
 (ak (cX 19 2 (k2 (vF 1) (ai (ao 24) [] (k3 (vF 0) (cI 1) (cI 9))))))))
theorem w22 (n:Nat):aa M Ft (n+1) 22=t22 (aa M Ft n):=rfl
def t23 (ao:Nat->Fn):Fn:=aY 1 2 (ah (aE 1 (ai (ao 24) [] (k3 (vF 0) (cI 1) (cI 9))))
 (ah (cQ (aP (aG [(24,78)] ao) (vF 0) (k1 (cS [32]))))
 (ak (cX 22 2 (k2 (vF 1) (ai (ao 24) [] (k3 (vF 0) (cI 1) (cI 9))))))))
theorem w23 (n:Nat):aa M Ft (n+1) 23=t23 (aa M Ft n):=rfl
def t24 (ao:Nat->Fn):Fn:=aY 3 5 (ah (aE 3 (aP (aG [(24,79)] ao) (vF 0) (k1 (cS [48,49,50,51,52,53,54,55,56,57]))))
 (ah (aW (eS (a_ (oE (vF 3) (cS []))) (eS (tB (jd nU (vF 3) (k1 (cS [48])))) (a_ (bB (aN .Gt) (aM br (k1 (vF 3))) (cI 3)))))
  (cQ (aP (aG [(24,76)] ao) (vF 0) c_))
  av)
 (ah (aE 4 (aM AI (k1 (vF 3))))
 (ah (aW (eS (a_ (bB (aN .Lt) (vF 4) (vF 1))) (a_ (bB (aN .Gt) (vF 4) (vF 2))))
  (cQ (aP (aG [(24,76)] ao) (vF 0) c_))
  av)
 (ak (vF 4))))))
theorem w24 (n:Nat):aa M Ft (n+1) 24=t24 (aa M Ft n):=rfl
def t25 (ao:Nat->Fn):Fn:=aY 1 2 (ah (aE 1 (aP (aG [(24,79)] ao) (vF 0) (k1 (cS [97,98,99,100,101,102,103,104,105,106,107,108,109,110,111,112,113,114,115,116,117,118,119,120,121,122]))))
 (ah (aW (eS (a_ (oE (vF 1) (cS []))) (a_ (bB (aN .Gt) (aM br (k1 (vF 1))) (cI 8))))
  (cQ (aP (aG [(24,76)] ao) (vF 0) c_))
  av)
 (ak (vF 1))))
theorem w25 (n:Nat):aa M Ft (n+1) 25=t25 (aa M Ft n):=rfl
def t26 (ao:Nat->Fn):Fn:=aY 1 2 (ah (aE 1 (aP (aG [(24,80)] ao) (vF 0) (k1 (cS [34]))))
 (ah (aW (eS (a_ (bB (aN .Gt) (aM br (k1 (vF 1))) (cI 40))) (bA (tB (ai (ao 0) [] (k2 (vF 1) (cS [97,98,99,100,101,102,103,104,105,106,107,108,109,110,111,112,113,114,115,116,117,118,119,120,121,122,65,66,67,68,69,70,71,72,73,74,75,76,77,78,79,80,81,82,83,84,85,86,87,88,89,90,48,49,50,51,52,53,54,55,56,57,32,33,34,35,36,38,39,40,41,42,43,44,45,46,47,58,59,60,61,62,63,64,91,92,93,94,95,96,123,124,125,126]))))))
  (cQ (aP (aG [(24,76)] ao) (vF 0) c_))
  av)
 (ak (vF 1))))
theorem w26 (n:Nat):aa M Ft (n+1) 26=t26 (aa M Ft n):=rfl
def t27 (ao:Nat->Fn):Fn:=aY 1 2 (ah (aE 1 (aP (aG [(24,80)] ao) (vF 0) (k1 (cS [47]))))
 (ak (ai (ao 3) [] (k1 (vF 1)))))
theorem w27 (n:Nat):aa M Ft (n+1) 27=t27 (aa M Ft n):=rfl
def t28 (ao:Nat->Fn):Fn:=aU (aY 2 2 (ah (aW (tB (bD (cy M.P.sub [10]) (vF 0)))
  (ak (bD (cy M.P.sub [16,20,23]) (vF 1)))
  av)
 (ah (aW (tB (bD (cy M.P.sub [17]) (vF 1)))
  (ak (ai (ao 29) [] (k1 (vF 1))))
  av)
 (ak (pH (bD (cy M.P.sub [23]) (vF 1)))))))
theorem ZN (n:Nat):aa M Ft (n+1) 28=t28 (aa M Ft n):=rfl
def t29 (ao:Nat->Fn):Fn:=aU (aY 1 1 (ah (aW (tB (ai (ao 12) [] (k1 (aI M.P.tab 4 (vF 0)))))
  (ak (cF (.bl false)))
  av)
 (ak (YY (pH (aI M.P.tab 11 (vF 0))) (bB (aN .LtE) (aM br (k1 (aI M.P.tab 10 (vF 0)))) (ai (ao 13) [] (k1 (aI M.P.tab 4 (vF 0)))))))))
theorem w29 (n:Nat):aa M Ft (n+1) 29=t29 (aa M Ft n):=rfl
def t30 (ao:Nat->Fn):Fn:=aU (aY 1 2 (ah (aE 1 (jd splitM (vF 0) (k1 (cS [10]))))
 (ah (aW (a_ (oE (oI (vF 1) (bD kX (cI 1))) (cS [])))
  (ak (aM aL (k2 (mG (vF 1) sR (kN (bD kX (cI 1)))) (cF (.bl true)))))
  av)
 (ak (aM aL (k2 (vF 1) (cF (.bl false))))))))
theorem w30 (n:Nat):aa M Ft (n+1) 30=t30 (aa M Ft n):=rfl
def t31 (ao:Nat->Fn):Fn:=aU (aY 1 3 (ah (aE 1 (ai (ao 32) [] (k1 (oI (ai (ao 30) [] (k1 (vF 0))) (cI 0)))))
 (ah (aE 2 (ai (ao 33) [] (k1 (vF 1))))
 (ah (cQ (ai (ao 34) [] (k2 (vF 1) (vF 2))))
 (ak (bD (Mw 0) (vF 1)))))))
theorem w31 (n:Nat):aa M Ft (n+1) 31=t31 (aa M Ft n):=rfl
def t32 (ao:Nat->Fn):Fn:=aU (aY 1 4 (ah (pI 1 (Ah c_))
 (ah (jS (jR 1 (vF 0)) (dU [2,3])
  (ah (aW (a_ (bB (aN .Gt) (vF 2) (cI 24)))
  cz
  av)
 (iL 1 (ai (ao 15) [] (k2 (vF 3) (vF 2))))))
 (ak (vF 1)))))
theorem w32 (n:Nat):aa M Ft (n+1) 32=t32 (aa M Ft n):=rfl
def t33 (ao:Nat->Fn):Fn:=aU (aY 1 4 (ah (AY 1)
 (ah (jS (jR 1 (vF 0)) (dU [2,3])
  (aW (tB (bD (cy M.P.sub [12]) (aI M.P.tab 2 (vF 3))))
  (ah (aW (a_ (Nf .In false 1 (aI M.P.tab 9 (aI M.P.tab 2 (vF 3)))))
  cz
  av)
 (u_ 1 (aI M.P.tab 9 (aI M.P.tab 2 (vF 3))) (cF (.bl true))))
  av))
 (ak (vF 1)))))
theorem w33 (n:Nat):aa M Ft (n+1) 33=t33 (aa M Ft n):=rfl
def t34 (ao:Nat->Fn):Fn:=aU (aY 2 4 (jS (jR 1 (vF 0)) (dU [2,3])
  (aW (ee (tB (bD (cy M.P.sub [21]) (aI M.P.tab 2 (vF 3)))) (a_ (bB (aN .NotIn) (aI M.P.tab 9 (aI M.P.tab 2 (vF 3))) (vF 1))))
  cz
  av)))
theorem w34 (n:Nat):aa M Ft (n+1) 34=t34 (aa M Ft n):=rfl
def t35 (ao:Nat->Fn):Fn:=aU (aY 1 1 (ak (jd joinM (cS []) (k1 (dc (bN (lF (aI M.P.tab 0 (vF 0))) 2 [] (setG 1) dE (oA (ai (ao 36) [] (k1 (vF 1))) (cS [10]))))))))
theorem w35 (n:Nat):aa M Ft (n+1) 35=t35 (aa M Ft n):=rfl
def t36 (ao:Nat->Fn):Fn:=aU (aY 1 1 (ah (aW (tB (bD (cy M.P.sub [3]) (aI M.P.tab 1 (vF 0))))
  (ak (ai (ao 38) [] (k1 (aI M.P.tab 2 (vF 0)))))
  av)
 (ak (oA (oA (ai (ao 37) [] (k1 (aI M.P.tab 1 (vF 0)))) (cS [58,32])) (ai (ao 38) [] (k1 (aI M.P.tab 2 (vF 0))))))))
theorem w36 (n:Nat):aa M Ft (n+1) 36=t36 (aa M Ft n):=rfl
def t37 (ao:Nat->Fn):Fn:=aU (aY 1 1 (ah (aW (tB (bD (cy M.P.sub [4]) (vF 0)))
  (ak (oA (cS [114,111,119,32]) (aM strN (k1 (aI M.P.tab 3 (vF 0))))))
  av)
 (ah (aW (tB (bD (cy M.P.sub [5]) (vF 0)))
  (ak (cS [108,97,115,116]))
  av)
 (ah (aW (tB (bD (cy M.P.sub [6]) (vF 0)))
  (ak (ai (ao 39) [] (k1 (aI M.P.tab 4 (vF 0)))))
  av)
 (ah (aW (tB (bD (cy M.P.sub [7]) (vF 0)))
  (ak (oA (oA (oA (cS [115,111,111,110,32]) (aM strN (k1 (aI M.P.tab 5 (vF 0))))) (cS [32])) (ai (ao 39) [] (k1 (aI M.P.tab 4 (vF 0))))))
  av)
 (ah (aW (tB (bD (cy M.P.sub [8]) (vF 0)))
  (ak (oA (oA (oA (cS [102,114,111,109,32]) (ai (ao 37) [] (k1 (aI M.P.tab 6 (vF 0))))) (cS [32,116,111,32])) (ai (ao 37) [] (k1 (aI M.P.tab 7 (vF 0))))))
  av)
 (ah (aW (tB (bD (cy M.P.sub [9]) (vF 0)))
  (ak (oA (cS [110,111,116,32]) (ai (ao 37) [] (k1 (aI M.P.tab 8 (vF 0))))))
  av)
 (ak (cS [101,110,100])))))))))
theorem Ou (n:Nat):aa M Ft (n+1) 37=t37 (aa M Ft n):=rfl
def t38 (ao:Nat->Fn):Fn:=aU (aY 1 1 (ah (aW (tB (bD (cy M.P.sub [12]) (vF 0)))
  (ak (oA (cS [109,97,114,107,32]) (aI M.P.tab 9 (vF 0))))
  av)
 (ah (aW (tB (bD (cy M.P.sub [13]) (vF 0)))
  (ak (cS [100,114,111,112]))
  av)
 (ah (aW (tB (bD (cy M.P.sub [14]) (vF 0)))
  (ak (cS [112,114,105,110,116]))
  av)
 (ah (aW (tB (bD (cy M.P.sub [15]) (vF 0)))
  (ak (cS [100,111,110,101]))
  av)
 (ah (aW (tB (bD (cy M.P.sub [16]) (vF 0)))
  (ak (oA (cS [115,97,121,32]) (ai (ao 40) [] (k1 (aI M.P.tab 10 (vF 0))))))
  av)
 (ah (aW (tB (bD (cy M.P.sub [17]) (vF 0)))
  (ak (oA (oA (oA (nS (tB (aI M.P.tab 11 (vF 0))) (cS [115,119,97,112,32,101,118,101,114,121,32]) (cS [115,119,97,112,32])) (ai (ao 39) [] (k1 (aI M.P.tab 4 (vF 0))))) (cS [32])) (ai (ao 40) [] (k1 (aI M.P.tab 10 (vF 0))))))
  av)
 (ah (aW (tB (bD (cy M.P.sub [18]) (vF 0)))
  (ak (oA (cS [106,111,105,110,32]) (aM strN (k1 (aI M.P.tab 12 (vF 0))))))
  av)
 (ah (aW (tB (bD (cy M.P.sub [19]) (vF 0)))
  (ak (oA (oA (cS [112,105,108,101,32]) (aI M.P.tab 13 (vF 0))) (nS (a_ (bB (aN .Is) (aI M.P.tab 12 (vF 0)) (cF .non))) (cS []) (oA (cS [32]) (aM strN (k1 (aI M.P.tab 12 (vF 0))))))))
  av)
 (ah (aW (tB (bD (cy M.P.sub [20]) (vF 0)))
  (ak (oA (cS [98,114,105,110,103,32]) (aI M.P.tab 13 (vF 0))))
  av)
 (ah (aW (tB (bD (cy M.P.sub [21]) (vF 0)))
  (ak (oA (cS [103,111,32]) (aI M.P.tab 9 (vF 0))))
  av)
 (ah (aW (tB (bD (cy M.P.sub [22]) (vF 0)))
  (ak (oA (oA (oA (cS [97,100,100,32]) (aM strN (k1 (aI M.P.tab 6 (vF 0))))) (cS [32])) (aM strN (k1 (aI M.P.tab 7 (vF 0))))))
  av)
 (ak (cS [116,101,108,108]))))))))))))))
theorem w38 (n:Nat):aa M Ft (n+1) 38=t38 (aa M Ft n):=rfl
def t39 (ao:Nat->Fn):Fn:=aU (aY 1 1 (ak (oA (oA (cS [47]) (ai (ao 10) [] (k1 (vF 0)))) (cS [47]))))
theorem w39 (n:Nat):aa M Ft (n+1) 39=t39 (aa M Ft n):=rfl
def t40 (ao:Nat->Fn):Fn:=aU (aY 1 1 (ak (oA (oA (cS [34]) (vF 0)) (cS [34]))))
theorem w40 (n:Nat):aa M Ft (n+1) 40=t40 (aa M Ft n):=rfl
def t41 (ao:Nat->Fn):Fn:=aU (aY 2 2 (ah (aW (a_ (bB (aN .Lt) (vF 1) (aM br (k1 (vF 0)))))
  (ak (oI (vF 0) (vF 1)))
  av)
 (ak (cI 0))))
theorem w41 (n:Nat):aa M Ft (n+1) 41=t41 (aa M Ft n):=rfl
def t42 (ao:Nat->Fn):Fn:=aU (aY 1 3 (ah (aE 1 (cS [32,33,34,35,36,38,39,40,41,42,43,44,45,46,48,49,50,51,52,53,54,55,56,57,58,59,60,61,62,63,64,65,66,67,68,69,70,71,72,73,74,75,76,77,78,79,80,81,82,83,84,85,86,87,88,89,90,91,92,95,96,97,98,99,100,101,102,103,104,105,106,107,108,109,110,111,112,113,114,115,116,117,118,119,120,121,122,123,124,125,126]))
 (ah (aE 2 (oA (cI 1) (oM (oD (vF 0) (cI 12)) (cI 6))))
 (ak (jd joinM (cS []) (k1 (dc (bN (sU g9 (k1 (oA (cI 1) (oM (vF 0) (cI 12))))) 2 [0,1,2] (setG 1) dE (oI (vF 3) (oM (oA (oD (vF 2) (cI 72)) (bB (cO .Mult) (vF 4) (vF 1))) (cI 91)))))))))))
theorem w42 (n:Nat):aa M Ft (n+1) 42=t42 (aa M Ft n):=rfl
def t43 (ao:Nat->Fn):Fn:=aU (aY 1 2 (ah (aE 1 (cS [32,33,34,35,38,39,40,41,44,45,48,49,50,51,52,53,54,55,56,57,58,59,60,61,62,64,65,66,67,68,69,70,71,72,73,74,75,76,77,78,79,80,81,82,83,84,85,86,87,88,89,90,92,95,96,97,98,99,100,101,102,103,104,105,106,107,108,109,110,111,112,113,114,115,116,117,118,119,120,121,122,123,124,125,126]))
 (ak (oI (vF 1) (oM (vF 0) (cI 85))))))
theorem w43 (n:Nat):aa M Ft (n+1) 43=t43 (aa M Ft n):=rfl
def t44 (ao:Nat->Fn):Fn:=aU (aY 1 6 (ah (aE 1 (oI (aM cK (cM (cS [49]) (k3 (cS [42]) (cS [43]) (cS [63])))) (oM (vF 0) (cI 4))))
 (ah (aE 2 (oI (aM cK (cM (cS []) (k3 (cS [42]) (cS [43]) (cS [63])))) (oM (vF 0) (cI 4))))
 (ah (aE 3 (oM (oD (vF 0) (cI 4)) (cI 5)))
 (ah (aE 4 (ai (ao 42) [] (k1 (oD (vF 0) (cI 20)))))
 (ah (aW (a_ (oE (vF 3) (cI 2)))
  (ak (aM aL (k2 (oA (cS [46]) (vF 2)) (aM aL (k3 (cS []) (cF (.bl true)) (vF 1))))))
  av)
 (ah (aW (a_ (oE (vF 3) (cI 3)))
  (ak (aM aL (k2 (oA (oA (oA (cS [91,94]) (vF 4)) (cS [93])) (vF 2)) (aM aL (k3 (vF 4) (cF (.bl true)) (vF 1))))))
  av)
 (ah (aW (ee (a_ (oE (vF 3) (cI 4))) (eS (a_ (bB (aN .Gt) (aM br (k1 (vF 4))) (cI 1))) (a_ (bB (aN .In) (vF 4) (cS [36,46,91,42,43,63])))))
  (ak (aM aL (k2 (oA (oA (oA (cS [91]) (vF 4)) (cS [93])) (vF 2)) (aM aL (k3 (vF 4) (cF (.bl false)) (vF 1))))))
  av)
 (ah (aE 5 (ai (ao 43) [] (k1 (oD (vF 0) (cI 20)))))
 (ak (aM aL (k2 (oA (vF 5) (vF 2)) (aM aL (k3 (vF 5) (cF (.bl false)) (vF 1)))))))))))))))
theorem w44 (n:Nat):aa M Ft (n+1) 44=t44 (aa M Ft n):=rfl
def t45 (ao:Nat->Fn):Fn:=aU (aY 2 5 (ah (aE 2 (oE (oM (vF 0) (cI 3)) (cI 1)))
 (ah (aE 3 (oE (oM (oD (vF 0) (cI 3)) (cI 3)) (cI 1)))
 (ah (aE 4 (jd joinM (cS []) (k1 (dc (bN (lF (vF 1)) 2 [] (setG 1) dE (oI (vF 1) (cI 0)))))))
 (ah (aW (tB (vF 2))
  (aE 4 (oA (cS [94]) (vF 4)))
  av)
 (ah (aW (tB (vF 3))
  (aE 4 (oA (vF 4) (cS [36])))
  av)
 (ak (aM aL (k2 (vF 4) (aM aL (k3 (vF 2) (dc (bN (lF (vF 1)) 2 [] (setG 1) dE (oI (vF 1) (cI 1)))) (vF 3))))))))))))
theorem w45 (n:Nat):aa M Ft (n+1) 45=t45 (aa M Ft n):=rfl
def t46 (ao:Nat->Fn):Fn:=aU (aY 1 4 (ah (aE 1 (oM (oD (vF 0) (cI 8)) (bB (cO .Pow) (cI 26) (cI 8))))
 (ah (aE 2 (cS []))
 (ah (jS (sU g9 (k1 (oA (cI 1) (oM (vF 0) (cI 8))))) (setG 3)
  (ah (aE 2 (oA (vF 2) (oI (cS [97,98,99,100,101,102,103,104,105,106,107,108,109,110,111,112,113,114,115,116,117,118,119,120,121,122]) (oM (vF 1) (cI 26)))))
 (aE 1 (oD (vF 1) (cI 26)))))
 (ak (vF 2))))))
theorem w46 (n:Nat):aa M Ft (n+1) 46=t46 (aa M Ft n):=rfl
def t47 (ao:Nat->Fn):Fn:=aU (aY 3 4 (ah (aE 3 (cS [32,33,35,36,38,39,40,41,42,43,44,45,46,47,48,49,50,51,52,53,54,55,56,57,58,59,60,61,62,63,64,65,66,67,68,69,70,71,72,73,74,75,76,77,78,79,80,81,82,83,84,85,86,87,88,89,90,91,92,93,94,95,96,97,98,99,100,101,102,103,104,105,106,107,108,109,110,111,112,113,114,115,116,117,118,119,120,121,122,123,124,125,126]))
 (ak (jd joinM (cS []) (k1 (dc (bN (sU g9 (k1 (vF 0))) 2 [1,3,2] (setG 1) dE (oI (vF 3) (oM (oA (vF 2) (bB (cO .Mult) (bB (cO .Mult) (vF 1) (vF 1)) (oA (cI 1) (oM (vF 4) (cI 92))))) (cI 93))))))))))
theorem w47 (n:Nat):aa M Ft (n+1) 47=t47 (aa M Ft n):=rfl
def t48 (ao:Nat->Fn):Fn:=aU (aY 1 2 (ah (aW (a_ (oE (oM (oD (vF 0) (cI 17)) (cI 4)) (cI 1)))
  (ah (aE 1 (oI (aM cK (cM (cS [32,116,111,32]) (k3 (cS [58,32,100,114,111,112]) (cS [32,116,111,32,114,111,119,32]) (cS [110,111,116,32])))) (oM (oD (vF 0) (cI 68)) (cI 4))))
 (ak (ai (ao 45) [] (k2 (vF 0) (dc (bN (lF (vF 1)) 2 [] (setG 1) dE (aM aL (k2 (vF 1) (aM aL (k3 (vF 1) (cF (.bl false)) (cS [49])))))))))))
  av)
 (ak (ai (ao 45) [] (k2 (vF 0) (aM cK (k1 (ai (ao 44) [] (k1 (oM (oD (vF 0) (cI 9)) (bB (cO .Pow) (cI 10) (cI 12))))))))))))
theorem w48 (n:Nat):aa M Ft (n+1) 48=t48 (aa M Ft n):=rfl
def t49 (ao:Nat->Fn):Fn:=aU (aY 2 7 (ah (aE 2 (ai (ao 48) [] (k1 (vF 1))))
 (ah (aE 3 (aM cK (k2 (ai (ao 44) [] (k1 (oM (oD (vF 1) (cI 81)) (bB (cO .Pow) (cI 10) (cI 9))))) (ai (ao 44) [] (k1 (oM (oD (vF 1) (cI 729)) (bB (cO .Pow) (cI 10) (cI 9))))))))
 (ah (aE 4 (ai (ao 45) [] (k2 (oD (vF 1) (cI 3)) (mG (vF 3) sR (kN (oM (oD (vF 1) (cI 31)) (cI 3)))))))
 (ah (aE 5 (aM cK (k2 (oA (cI 1) (oM (vF 1) (cI 999))) (oA (cI 1) (oM (oD (vF 1) (cI 999)) (cI 999))))))
 (ah (aW (a_ (oE (vF 0) (cI 1)))
  (ak (aM aL (k2 (oA (cS [114,111,119,32]) (aM strN (k1 (oI (vF 5) (cI 0))))) (aM aL (k2 (cS [114,111,119]) (oI (vF 5) (cI 0)))))))
  av)
 (ah (aW (a_ (oE (vF 0) (cI 2)))
  (ak (aM aL (k2 (cS [108,97,115,116]) (aM aL (k1 (cS [108,97,115,116]))))))
  av)
 (ah (aW (a_ (oE (vF 0) (cI 3)))
  (ak (aM aL (k2 (oA (oA (cS [47]) (oI (vF 4) (cI 0))) (cS [47])) (aM aL (k2 (cS [108,105,107,101]) (oI (vF 4) (cI 1)))))))
  av)
 (ah (aW (a_ (oE (vF 0) (cI 4)))
  (ak (aM aL (k2 (oA (oA (oA (oA (cS [115,111,111,110,32]) (aM strN (k1 (oA (cI 1) (oM (vF 1) (cI 3)))))) (cS [32,47])) (oI (vF 2) (cI 0))) (cS [47])) (aM aL (k3 (cS [115,111,111,110]) (oA (cI 1) (oM (vF 1) (cI 3))) (oI (vF 2) (cI 1)))))))
  av)
 (ah (aW (a_ (oE (vF 0) (cI 5)))
  (ak (aM aL (k2 (oA (oA (oA (cS [102,114,111,109,32,47]) (oI (vF 2) (cI 0))) (cS [47,32,116,111,32,114,111,119,32])) (aM strN (k1 (oI (vF 5) (cI 0))))) (aM aL (k3 (cS [102,114,111,109]) (aM aL (k2 (cS [108,105,107,101]) (oI (vF 2) (cI 1)))) (aM aL (k2 (cS [114,111,119]) (oI (vF 5) (cI 0)))))))))
  av)
 (ah (aW (a_ (oE (vF 0) (cI 6)))
  (ak (aM aL (k2 (oA (oA (oA (oA (cS [102,114,111,109,32,114,111,119,32]) (aM strN (k1 (oI (vF 5) (cI 0))))) (cS [32,116,111,32,47])) (oI (vF 4) (cI 0))) (cS [47])) (aM aL (k3 (cS [102,114,111,109]) (aM aL (k2 (cS [114,111,119]) (oI (vF 5) (cI 0)))) (aM aL (k2 (cS [108,105,107,101]) (oI (vF 4) (cI 1)))))))))
  av)
 (ah (aW (a_ (oE (vF 0) (cI 7)))
  (ak (aM aL (k2 (oA (oA (oA (oA (cS [102,114,111,109,32,47]) (oI (vF 2) (cI 0))) (cS [47,32,116,111,32,47])) (oI (vF 4) (cI 0))) (cS [47])) (aM aL (k3 (cS [102,114,111,109]) (aM aL (k2 (cS [108,105,107,101]) (oI (vF 2) (cI 1)))) (aM aL (k2 (cS [108,105,107,101]) (oI (vF 4) (cI 1)))))))))
  av)
 (ah (aW (a_ (oE (vF 0) (cI 8)))
  (ah (aE 6 (oA (oA (oA (cS [102,114,111,109,32,114,111,119,32]) (aM strN (k1 (oI (vF 5) (cI 0))))) (cS [32,116,111,32,114,111,119,32])) (aM strN (k1 (oI (vF 5) (cI 1))))))
 (ak (aM aL (k2 (vF 6) (aM aL (k3 (cS [102,114,111,109]) (aM aL (k2 (cS [114,111,119]) (oI (vF 5) (cI 0)))) (aM aL (k2 (cS [114,111,119]) (oI (vF 5) (cI 1))))))))))
  av)
 (ak (aM aL (k2 (cS []) (aM aL (k1 (cS [97,108,119,97,121,115])))))))))))))))))))
theorem Cw (n:Nat):aa M Ft (n+1) 49=t49 (aa M Ft n):=rfl
def t50 (ao:Nat->Fn):Fn:=aU (aY 2 6 (ah (aE 2 (ai (ao 43) [] (k1 (oD (vF 1) (cI 7)))))
 (ah (aE 3 (ai (ao 45) [] (k2 (vF 1) (aM cK (k2 (ai (ao 44) [] (k1 (oM (oD (vF 1) (cI 9)) (bB (cO .Pow) (cI 10) (cI 12))))) (aM aL (k2 (oA (vF 2) (cS [43])) (aM aL (k3 (vF 2) (cF (.bl false)) (cS [43]))))))))))
 (ah (aW (a_ (oE (oM (vF 0) (cI 2)) (cI 0)))
  (ah (aE 5 (ai (ao 47) [] (k3 (oM (vF 1) (cI 41)) (oD (vF 1) (cI 41)) (oD (vF 1) (cI 43)))))
 (ak (aM aL (k2 (oA (oA (oA (oA (cS [115,119,97,112,32,47]) (oI (vF 3) (cI 0))) (cS [47,32,34])) (vF 5)) (cS [34])) (aM aL (cM (cS [115,119,97,112]) (k3 (oI (vF 3) (cI 1)) (vF 5) (cF (.bl false)))))))))
  av)
 (ah (aE 4 (aM br (k1 (dc (bN (lF (oI (oI (vF 3) (cI 1)) (cI 1))) 2 [] (setG 1) (a_ (bB (aN .In) (oI (vF 1) (cI 2)) (cS [49,43]))) (vF 1))))))
 (ah (aE 5 (ai (ao 47) [] (k3 (oM (vF 1) (oA (cI 1) (vF 4))) (oD (vF 1) (cI 41)) (oD (vF 1) (cI 43)))))
 (ak (aM aL (k2 (oA (oA (oA (oA (cS [115,119,97,112,32,101,118,101,114,121,32,47]) (oI (vF 3) (cI 0))) (cS [47,32,34])) (vF 5)) (cS [34])) (aM aL (cM (cS [115,119,97,112]) (k3 (oI (vF 3) (cI 1)) (vF 5) (cF (.bl true))))))))))))))
theorem w50 (n:Nat):aa M Ft (n+1) 50=t50 (aa M Ft n):=rfl
def t51 (ao:Nat->Fn):Fn:=aU (aY 2 5 (ah (aE 2 (ai (ao 46) [] (k1 (vF 1))))
 (ah (aW (a_ (bB (aN .Lt) (vF 0) (cI 3)))
  (ak (aM aL (k2 (oI (oI (aM cK (k3 (aM cK (k1 (cS [100,114,111,112]))) (aM cK (k1 (cS [112,114,105,110,116]))) (aM cK (k1 (cS [100,111,110,101]))))) (vF 0)) (cI 0)) (aM aL (k1 (oI (aM cK (k3 (cS [100,114,111,112]) (cS [112,114,105,110,116]) (cS [100,111,110,101]))) (vF 0)))))))
  av)
 (ah (aW (a_ (oE (vF 0) (cI 3)))
  (ak (aM aL (k2 (oA (cS [106,111,105,110,32]) (aM strN (k1 (oA (cI 2) (oM (vF 1) (cI 8)))))) (aM aL (k2 (cS [106,111,105,110]) (oA (cI 2) (oM (vF 1) (cI 8))))))))
  av)
 (ah (aW (a_ (oE (vF 0) (cI 4)))
  (ak (aM aL (k2 (oA (oA (oA (cS [112,105,108,101,32]) (vF 2)) (cS [32])) (aM strN (k1 (oA (cI 1) (oM (vF 1) (cI 9)))))) (aM aL (k3 (cS [112,105,108,101]) (vF 2) (oA (cI 1) (oM (vF 1) (cI 9))))))))
  av)
 (ah (aW (a_ (oE (vF 0) (cI 5)))
  (ak (aM aL (k2 (oA (cS [112,105,108,101,32]) (vF 2)) (aM aL (k3 (cS [112,105,108,101]) (vF 2) (cF .non))))))
  av)
 (ah (aW (a_ (oE (vF 0) (cI 6)))
  (ak (aM aL (k2 (oA (cS [98,114,105,110,103,32]) (vF 2)) (aM aL (k2 (cS [98,114,105,110,103]) (vF 2))))))
  av)
 (ah (aW (a_ (oE (vF 0) (cI 7)))
  (ah (aE 3 (aM cK (k2 (oA (cI 1) (oM (vF 1) (cI 9))) (oA (cI 1) (oM (oD (vF 1) (cI 9)) (cI 9))))))
 (ak (aM aL (k2 (oA (oA (oA (cS [97,100,100,32]) (aM strN (k1 (oI (vF 3) (cI 0))))) (cS [32])) (aM strN (k1 (oI (vF 3) (cI 1))))) (aM aL (k3 (cS [97,100,100]) (oI (vF 3) (cI 0)) (oI (vF 3) (cI 1))))))))
  av)
 (ah (aW (a_ (oE (vF 0) (cI 8)))
  (ah (aE 4 (ai (ao 47) [] (k3 (oM (vF 1) (cI 41)) (oD (vF 1) (cI 41)) (oD (vF 1) (cI 43)))))
 (ak (aM aL (k2 (oA (oA (cS [115,97,121,32,34]) (vF 4)) (cS [34])) (aM aL (k2 (cS [115,97,121]) (vF 4)))))))
  av)
 (ak (ai (ao 50) [] (k2 (vF 0) (vF 1)))))))))))))
theorem By (n:Nat):aa M Ft (n+1) 51=t51 (aa M Ft n):=rfl
def t52 (ao:Nat->Fn):Fn:=aU (aY 1 1 (ak (dq (bD (qS "int") (vF 0)) (pH (bD (qS "bool") (vF 0))))))
theorem w52 (n:Nat):aa M Ft (n+1) 52=t52 (aa M Ft n):=rfl
def t53 (ao:Nat->Fn):Fn:=aU (aY 2 3 (ah (aW (eS (bA (tB (bD (qS "tuple") (vF 0)))) (eS (a_ (bB (aN .NotEq) (aM br (k1 (vF 0))) (cI 3))) (bA (tB (bD (qS "list") (oI (vF 0) (cI 1)))))))
  (ak (cF (.bl false)))
  av)
 (ah (aW (eS (bA (tB (bD (qS "bool") (oI (vF 0) (cI 0))))) (bA (tB (bD (qS "bool") (oI (vF 0) (cI 2))))))
  (ak (cF (.bl false)))
  av)
 (ah (jS (lF (oI (vF 0) (cI 1))) (setG 2)
  (aW (eS (bA (tB (bD (qS "tuple") (vF 2)))) (eS (a_ (bB (aN .NotEq) (aM br (k1 (vF 2))) (cI 3))) (bA (tB (bD (qS "bool") (oI (vF 2) (cI 1)))))))
  (ak (cF (.bl false)))
  av))
 (ak (oE (vF 0) (vF 1)))))))
theorem w53 (n:Nat):aa M Ft (n+1) 53=t53 (aa M Ft n):=rfl
def t54 (ao:Nat->Fn):Fn:=aU (aY 2 2 (ah (aW (bA (tB (bD (cy M.P.sub [2]) (vF 0))))
  (ak (cF (.bl false)))
  av)
 (ah (aW (a_ (oE (oI (vF 1) (cI 0)) (cS [114,111,119])))
  (ak (dq (bD (cy M.P.sub [4]) (vF 0)) (dq (ai (ao 52) [] (k1 (aI M.P.tab 3 (vF 0)))) (oE (aI M.P.tab 3 (vF 0)) (oI (vF 1) (cI 1))))))
  av)
 (ah (aW (a_ (oE (oI (vF 1) (cI 0)) (cS [108,97,115,116])))
  (ak (bD (cy M.P.sub [5]) (vF 0)))
  av)
 (ah (aW (a_ (oE (oI (vF 1) (cI 0)) (cS [108,105,107,101])))
  (ak (dq (bD (cy M.P.sub [6]) (vF 0)) (ai (ao 53) [] (k2 (aI M.P.tab 4 (vF 0)) (oI (vF 1) (cI 1))))))
  av)
 (ah (aW (a_ (oE (oI (vF 1) (cI 0)) (cS [115,111,111,110])))
  (ah (aW (eS (bA (tB (bD (cy M.P.sub [7]) (vF 0)))) (eS (bA (tB (ai (ao 52) [] (k1 (aI M.P.tab 5 (vF 0)))))) (a_ (bB (aN .NotEq) (aI M.P.tab 5 (vF 0)) (oI (vF 1) (cI 1))))))
  (ak (cF (.bl false)))
  av)
 (ak (ai (ao 53) [] (k2 (aI M.P.tab 4 (vF 0)) (oI (vF 1) (cI 2))))))
  av)
 (ah (aW (a_ (oE (oI (vF 1) (cI 0)) (cS [102,114,111,109])))
  (ak (dq (bD (cy M.P.sub [8]) (vF 0)) (dq (ai (ao 54) [] (k2 (aI M.P.tab 6 (vF 0)) (oI (vF 1) (cI 1)))) (ai (ao 54) [] (k2 (aI M.P.tab 7 (vF 0)) (oI (vF 1) (cI 2)))))))
  av)
 (ah (aW (a_ (oE (oI (vF 1) (cI 0)) (cS [110,111,116])))
  (ak (dq (bD (cy M.P.sub [9]) (vF 0)) (ai (ao 54) [] (k2 (aI M.P.tab 8 (vF 0)) (oI (vF 1) (cI 1))))))
  av)
 (ah (aW (a_ (oE (oI (vF 1) (cI 0)) (cS [101,110,100])))
  (ak (bD (cy M.P.sub [10]) (vF 0)))
  av)
 (ak (bD (cy M.P.sub [3]) (vF 0))))))))))))
theorem Iw (n:Nat):aa M Ft (n+1) 54=t54 (aa M Ft n):=rfl
def t55 (ao:Nat->Fn):Fn:=aU (aY 2 2 (ah (aW (a_ (oE (oI (vF 1) (cI 0)) (cS [106,111,105,110])))
  (ak (dq (bD (cy M.P.sub [18]) (vF 0)) (dq (ai (ao 52) [] (k1 (aI M.P.tab 12 (vF 0)))) (oE (aI M.P.tab 12 (vF 0)) (oI (vF 1) (cI 1))))))
  av)
 (ah (aW (a_ (oE (oI (vF 1) (cI 0)) (cS [97,100,100])))
  (ah (aW (eS (bA (tB (bD (cy M.P.sub [22]) (vF 0)))) (eS (bA (tB (ai (ao 52) [] (k1 (aI M.P.tab 6 (vF 0)))))) (bA (tB (ai (ao 52) [] (k1 (aI M.P.tab 7 (vF 0))))))))
  (ak (cF (.bl false)))
  av)
 (ak (dq (oE (aI M.P.tab 6 (vF 0)) (oI (vF 1) (cI 1))) (oE (aI M.P.tab 7 (vF 0)) (oI (vF 1) (cI 2))))))
  av)
 (ah (aW (eS (bA (tB (bD (cy M.P.sub [19]) (vF 0)))) (a_ (bB (aN .NotEq) (aI M.P.tab 13 (vF 0)) (oI (vF 1) (cI 1)))))
  (ak (cF (.bl false)))
  av)
 (ah (aW (a_ (bB (aN .Is) (oI (vF 1) (cI 2)) (cF .non)))
  (ak (bB (aN .Is) (aI M.P.tab 12 (vF 0)) (cF .non)))
  av)
 (ak (dq (ai (ao 52) [] (k1 (aI M.P.tab 12 (vF 0)))) (oE (aI M.P.tab 12 (vF 0)) (oI (vF 1) (cI 2))))))))))
theorem WJ (n:Nat):aa M Ft (n+1) 55=t55 (aa M Ft n):=rfl
def t56 (ao:Nat->Fn):Fn:=aU (aY 2 2 (ah (aW (bA (tB (bD (cy M.P.sub [11]) (vF 0))))
  (ak (cF (.bl false)))
  av)
 (ah (aW (a_ (bB (aN .In) (oI (vF 1) (cI 0)) (aM cK (k3 (cS [106,111,105,110]) (cS [97,100,100]) (cS [112,105,108,101])))))
  (ak (ai (ao 55) [] (k2 (vF 0) (vF 1))))
  av)
 (ah (aW (a_ (oE (oI (vF 1) (cI 0)) (cS [100,114,111,112])))
  (ak (bD (cy M.P.sub [13]) (vF 0)))
  av)
 (ah (aW (a_ (oE (oI (vF 1) (cI 0)) (cS [112,114,105,110,116])))
  (ak (bD (cy M.P.sub [14]) (vF 0)))
  av)
 (ah (aW (a_ (oE (oI (vF 1) (cI 0)) (cS [100,111,110,101])))
  (ak (bD (cy M.P.sub [15]) (vF 0)))
  av)
 (ah (aW (a_ (oE (oI (vF 1) (cI 0)) (cS [98,114,105,110,103])))
  (ak (dq (bD (cy M.P.sub [20]) (vF 0)) (oE (aI M.P.tab 13 (vF 0)) (oI (vF 1) (cI 1)))))
  av)
 (ah (aW (a_ (oE (oI (vF 1) (cI 0)) (cS [109,97,114,107])))
  (ak (dq (bD (cy M.P.sub [12]) (vF 0)) (oE (aI M.P.tab 9 (vF 0)) (oI (vF 1) (cI 1)))))
  av)
 (ah (aW (a_ (oE (oI (vF 1) (cI 0)) (cS [103,111])))
  (ak (dq (bD (cy M.P.sub [21]) (vF 0)) (oE (aI M.P.tab 9 (vF 0)) (oI (vF 1) (cI 1)))))
  av)
 (ah (aW (a_ (oE (oI (vF 1) (cI 0)) (cS [115,97,121])))
  (ak (dq (bD (cy M.P.sub [16]) (vF 0)) (oE (aI M.P.tab 10 (vF 0)) (oI (vF 1) (cI 1)))))
  av)
 (ah (aW (a_ (oE (oI (vF 1) (cI 0)) (cS [116,101,108,108])))
  (ak (bD (cy M.P.sub [23]) (vF 0)))
  av)
 (ah (aW (eS (bA (tB (bD (cy M.P.sub [17]) (vF 0)))) (eS (bA (tB (ai (ao 53) [] (k2 (aI M.P.tab 4 (vF 0)) (oI (vF 1) (cI 1)))))) (a_ (bB (aN .NotEq) (aI M.P.tab 10 (vF 0)) (oI (vF 1) (cI 2))))))
  (ak (cF (.bl false)))
  av)
 (ak (dq (bD (qS "bool") (aI M.P.tab 11 (vF 0))) (oE (aI M.P.tab 11 (vF 0)) (oI (vF 1) (cI 3)))))))))))))))))
theorem yk (n:Nat):aa M Ft (n+1) 56=t56 (aa M Ft n):=rfl
def t57 (ao:Nat->Fn):Fn:=aU (aY 1 9 (ah (aE 1 (ai (ao 41) [] (k2 (vF 0) (cI 0))))
 (ah (mJ (dU [2,3]) (ai (ao 49) [] (k2 (oM (vF 1) (cI 10)) (ai (ao 41) [] (k2 (vF 0) (cI 2))))))
 (ah (mJ (dU [4,5]) (ai (ao 51) [] (k2 (oM (ai (ao 41) [] (k2 (vF 0) (cI 1))) (cI 11)) (ai (ao 41) [] (k2 (vF 0) (cI 3))))))
 (ah (aW (a_ (oE (oM (vF 1) (cI 10)) (cI 9)))
  (ah (aE 6 (ai (ao 46) [] (k1 (ai (ao 41) [] (k2 (vF 0) (cI 3))))))
 (ah (aE 7 (oM (ai (ao 41) [] (k2 (vF 0) (cI 1))) (cI 3)))
 (ah (aE 8 (oI (aM cK (k3 (cS [116,101,108,108]) (oA (cS [98,114,105,110,103,32]) (vF 6)) (oA (oA (cS [115,97,121,32,34]) (vF 6)) (cS [34])))) (vF 7)))
 (ak (aM aL (k3 (oA (cS [101,110,100,58,32]) (vF 8)) (aM aL (k1 (cS [101,110,100]))) (oI (aM cK (k3 (aM aL (k1 (cS [116,101,108,108]))) (aM aL (k2 (cS [98,114,105,110,103]) (vF 6))) (aM aL (k2 (cS [115,97,121]) (vF 6))))) (vF 7))))))))
  av)
 (ah (aW (a_ (oE (vF 2) (cS [])))
  (ak (aM aL (k3 (vF 4) (vF 3) (vF 5))))
  av)
 (ah (aW (a_ (oE (oM (oD (vF 1) (cI 10)) (cI 2)) (cI 1)))
  (ak (aM aL (k3 (oA (oA (oA (cS [110,111,116,32]) (vF 2)) (cS [58,32])) (vF 4)) (aM aL (k2 (cS [110,111,116]) (vF 3))) (vF 5))))
  av)
 (ak (aM aL (k3 (oA (oA (vF 2) (cS [58,32])) (vF 4)) (vF 3) (vF 5)))))))))))
theorem WK (n:Nat):aa M Ft (n+1) 57=t57 (aa M Ft n):=rfl
def t58 (ao:Nat->Fn):Fn:=aU (aY 1 7 (ah (aE 1 (oM (ai (ao 41) [] (k2 (vF 0) (cI 4))) (cI 9)))
 (ah (aW (a_ (bB (aN .Gt) (vF 1) (cI 2)))
  (ak (aM cK (k1 (ai (ao 57) [] (k1 (vF 0))))))
  av)
 (ah (aE 2 (ai (ao 46) [] (k1 (ai (ao 41) [] (k2 (vF 0) (cI 3))))))
 (ah (aE 3 (aM aL (k3 (oA (cS [109,97,114,107,32]) (vF 2)) (aM aL (k1 (cS [97,108,119,97,121,115]))) (aM aL (k2 (cS [109,97,114,107]) (vF 2))))))
 (ah (mJ (dU [5,6]) (ai (ao 49) [] (k2 (oM (ai (ao 41) [] (k2 (vF 0) (cI 0))) (cI 9)) (ai (ao 41) [] (k2 (vF 0) (cI 2))))))
 (ah (aW (ee (a_ (bB (aN .NotEq) (vF 5) (cS []))) (a_ (oE (oM (oD (ai (ao 41) [] (k2 (vF 0) (cI 0))) (cI 9)) (cI 2)) (cI 1))))
  (ah (aE 5 (oA (cS [110,111,116,32]) (vF 5)))
 (aE 6 (aM aL (k2 (cS [110,111,116]) (vF 6)))))
  av)
 (ah (aW (a_ (bB (aN .NotEq) (vF 5) (cS [])))
  (aE 5 (oA (vF 5) (cS [58,32])))
  av)
 (ah (aE 4 (aM aL (k3 (oA (oA (vF 5) (cS [103,111,32])) (vF 2)) (vF 6) (aM aL (k2 (cS [103,111]) (vF 2))))))
 (ak (oI (aM cK (k3 (aM cK (k1 (vF 3))) (aM cK (k2 (vF 3) (vF 4))) (aM cK (k2 (vF 4) (vF 3))))) (vF 1))))))))))))
theorem w58 (n:Nat):aa M Ft (n+1) 58=t58 (aa M Ft n):=rfl
def t59 (ao:Nat->Fn):Fn:=aU (aY 1 7 (ah (aE 1 (ai (ao 58) [] (k1 (vF 0))))
 (ah (aE 2 (jd joinM (cS [10]) (k1 (dc (bN (lF (vF 1)) 2 [] (setG 1) dE (oI (vF 1) (cI 0)))))))
 (ah (aE 3 (ai (ao 31) [] (k1 (oA (vF 2) (oI (aM cK (k2 (cS []) (cS [10]))) (oM (ai (ao 41) [] (k2 (vF 0) (cI 5))) (cI 2)))))))
 (ah (aW (eS (bA (tB (bD (cy M.P.sub [0]) (vF 3)))) (eS (bA (tB (bD (qS "list") (aI M.P.tab 0 (vF 3))))) (a_ (bB (aN .NotEq) (aM br (k1 (aI M.P.tab 0 (vF 3)))) (aM br (k1 (vF 1)))))))
  (ak (cF (.bl false)))
  av)
 (ah (jS (sU g9 (k1 (aM br (k1 (vF 1))))) (setG 4)
  (ah (aE 6 (oI (aI M.P.tab 0 (vF 3)) (vF 4)))
 (ah (aW (eS (bA (tB (bD (cy M.P.sub [1]) (vF 6)))) (bA (tB (ai (ao 54) [] (k2 (aI M.P.tab 1 (vF 6)) (oI (oI (vF 1) (vF 4)) (cI 1)))))))
  (ak (cF (.bl false)))
  av)
 (aW (bA (tB (ai (ao 56) [] (k2 (aI M.P.tab 2 (vF 6)) (oI (oI (vF 1) (vF 4)) (cI 2))))))
  (ak (cF (.bl false)))
  av))))
 (ah (aE 5 (ai (ao 35) [] (k1 (vF 3))))
 (ak (dq (bD (qS "str") (vF 5)) (oE (vF 5) (oA (vF 2) (cS [10]))))))))))))
theorem w59 (n:Nat):aa M Ft (n+1) 59=t59 (aa M Ft n):=rfl
def t62 (ao:Nat->Fn):Fn:=aY 2 2 (gy M.P.tab 3 (vF 0) (vF 1))
def t75 (ao:Nat->Fn):Fn:=aY 3 3 (ah (gy M.P.tab 14 (vF 0) (vF 1))
 (gy M.P.tab 3 (vF 0) (vF 2)))
theorem w75 (n:Nat):aa M Ft (n+1) 75=t75 (aa M Ft n):=rfl
def t77 (ao:Nat->Fn):Fn:=aY 2 2 (ah (aW (bA (tB (jd nU (aI M.P.tab 14 (vF 0)) (k1 (vF 1)))))
  (ak (cF (.bl false)))
  av)
 (ah (gy M.P.tab 14 (vF 0) (mG (aI M.P.tab 14 (vF 0)) (kN (aM br (k1 (vF 1)))) sR))
 (ak (cF (.bl true)))))
theorem w77 (n:Nat):aa M Ft (n+1) 77=t77 (aa M Ft n):=rfl
def t78 (ao:Nat->Fn):Fn:=aY 2 2 (aW (bA (tB (aP (aG [(24,77)] ao) (vF 0) (k1 (vF 1)))))
  (cQ (aP (aG [(24,76)] ao) (vF 0) c_))
  av)
theorem w78 (n:Nat):aa M Ft (n+1) 78=t78 (aa M Ft n):=rfl
def t79 (ao:Nat->Fn):Fn:=aY 2 3 (ah (aE 2 (ai (ao 1) [] (k2 (aI M.P.tab 14 (vF 0)) (vF 1))))
 (ah (gy M.P.tab 14 (vF 0) (mG (aI M.P.tab 14 (vF 0)) (kN (aM br (k1 (vF 2)))) sR))
 (ak (vF 2))))
theorem w79 (n:Nat):aa M Ft (n+1) 79=t79 (aa M Ft n):=rfl
def t80 (ao:Nat->Fn):Fn:=aY 2 4 (ah (cQ (aP (aG [(24,78)] ao) (vF 0) (k1 (vF 1))))
 (ah (aE 2 (jd jZ (aI M.P.tab 14 (vF 0)) (k1 (vF 1))))
 (ah (aW (a_ (oE (vF 2) (bD kX (cI 1))))
  (cQ (aP (aG [(24,76)] ao) (vF 0) c_))
  av)
 (ah (aE 3 (mG (aI M.P.tab 14 (vF 0)) sR (kN (vF 2))))
 (ah (gy M.P.tab 14 (vF 0) (mG (aI M.P.tab 14 (vF 0)) (kN (oA (vF 2) (cI 1))) sR))
 (ak (vF 3)))))))
theorem w80 (n:Nat):aa M Ft (n+1) 80=t80 (aa M Ft n):=rfl
end K22
namespace K22
open D
def SC (rest:List Nat) (k:Int):List Ob:=[⟨24,[.val (.str rest),.val (.int k)]⟩]
abbrev St (r:List (Option C)) (rest:List Nat) (k:Int):S:=⟨sv (.own 0)::r,SC rest k⟩
section
variable {r:List (Option C)}{rest qb l w:List Nat}{k:Int}{a:FE}{ao:Nat->Fn}{fl:FL}{ts:List T}{t:T}{i:Nat}
theorem NI:aI M.P.tab 14 (vF 0) (St r rest k)=.ok (.str rest,St r rest k):=rfl
theorem NJ (h:a (St r rest k)=.ok (.str l,St r rest k)):gy M.P.tab 14 (vF 0) a (St r rest k)=.ok (.nx,St r l k):=by
 unfold gy;rw [h];rfl
theorem sm (ha:fl (St r rest k)=.ok (ts,St r rest k)) (hc:ao i (.own 0::ts) (SC rest k)=.ok (t,SC qb k)):aP (aG [(24,i)] ao) (vF 0) fl (St r rest k)=.ok (t,St r qb k):=by
 exact VI (ob:=⟨24,[.val (.str rest),.val (.int k)]⟩) (s1:=St r rest k) rfl rfl rfl ha hc
theorem yl (n:Nat) (h:pre w rest=false):aa M Ft (n+1) 77 [.own 0,.str w] (SC rest k)=.ok (.bl false,SC rest k):=by
 rw [w77]
 refine az rfl (b8 (eM (s':=St [sv (.str w)] rest k) ?_ rfl)) rfl
 show bA _ (St [sv (.str w)] rest k)=_
 simp only [ev,c7,NI,bH,cN,nU,h,Bool.not_false]
theorem kc (n:Nat):aa M Ft (n+1) 77 [.own 0,.str w] (SC (w++rest) k)=.ok (.bl true,SC rest k):=by
 rw [w77]
 refine az rfl (seq1 (s':=St [sv (.str w)] (w++rest) k) (bq (s':=St [sv (.str w)] (w++rest) k) ?_ rfl) (seq1 (NJ (l:=rest) ?_) rfl)) rfl
 ·show bA _ (St [sv (.str w)] (w++rest) k)=_
  simp only [ev,c7,NI,bH,cN,nU,pre_app,Bool.not_true]
 ·simp only [ev,c7,NI,bH,cN,br,fK,z9,f_]
theorem vv (n:Nat):aa M Ft (n+2) 78 [.own 0,.str w] (SC (w++rest) k)=.ok (.non,SC rest k):=by
 rw [w78]
 refine VH rfl (bq (s':=St [sv (.str w)] rest k) ?_ rfl) rfl
 show bA (D.tB (aP _ _ _)) (St [sv (.str w)] (w++rest) k)=_
 have e:aP (aG [(24,77)] (aa M Ft (n+1))) (vF 0) (k1 (vF 1)) (St [sv (.str w)] (w++rest) k)=.ok (.bl true,St [sv (.str w)] rest k):=sm rfl (kc n)
 simp only [ev,e,bH,cN,Bool.not_true]
end
theorem kg {α:Type}{l:List α}{j:Nat}(h:j<l.length):atT l (j:Int)=l[j]?:=by
 unfold atT
 rw [if_pos (by omega),if_pos (by omega)];rfl
section
variable {a b signs:List Nat}{m:List Ob}
theorem qc (ha:∀ c∈a,c∈signs) (hb:∀ c,b.head?=some c->c ∉ signs) {j:Nat}(hj:j<=a.length) :
  ee (D.a_ (bB (aN .Lt) (vF 2) (aM br (k1 (vF 0))))) (D.a_ (bB (aN .In) (oI (vF 0) (vF 2)) (vF 1))) ⟨[sv (.str (a++b)),sv (.str signs),sv (.int (j:Nat))],m⟩=.ok (decide (j<a.length),⟨[sv (.str (a++b)),sv (.str signs),sv (.int (j:Nat))],m⟩):=by
 unfold ee
 have lt:∀ i j:Int,aN .Lt (.int i) (.int j)=some (.bl (decide (i<j))):=fun _ _=>rfl
 have inn:∀ (c:Nat) (l:List Nat),aN .In (.str [c]) (.str l)=some (.bl (decide (c∈l))):=fun _ _=>rfl
 simp only [ev,c7,bH,cN,br,fK,lt]
 by_cases h:j<(a++b).length
 ·rw [decide_eq_true (by omega),if_pos rfl]
  have e:f9 (.str (a++b)) (.int (j:Nat))=some (.str [(a++b)[j]]):=by
   show (atT (a++b) (j:Int)).map _=_
   rw [kg h,List.getElem?_eq_getElem h];rfl
  simp only [ev,c7,bH,cN,e,inn]
  by_cases hja:j<a.length
  ·rw [List.getElem_append_left hja,decide_eq_true (ha _ (List.getElem_mem hja)),decide_eq_true hja]
  ·have:j=a.length:=by omega
   subst this
   rw [decide_eq_false hja]
   have:(a++b)[a.length] ∉ signs:=by
    apply hb
    rw [List.head?_eq_getElem?,List.getElem_append_right (by omega)]
    simp only [Nat.sub_self]
    rw [List.getElem?_eq_getElem]
   rw [decide_eq_false this]
 ·rw [decide_eq_false (by omega),decide_eq_false (by rw [List.length_append] at h;omega)]
  rw [if_neg Bool.false_ne_true]
theorem qe (ha:∀ c∈a,c∈signs) (hb:∀ c,b.head?=some c->c ∉ signs):∀ (d j fuel:Nat),j+d=a.length->d<fuel ->
  bW (ee (D.a_ (bB (aN .Lt) (vF 2) (aM br (k1 (vF 0))))) (D.a_ (bB (aN .In) (oI (vF 0) (vF 2)) (vF 1)))) (Aa u6 2 (cI 1)) fuel ⟨[sv (.str (a++b)),sv (.str signs),sv (.int (j:Nat))],m⟩=.ok (.nx,⟨[sv (.str (a++b)),sv (.str signs),sv (.int (a.length:Nat))],m⟩)
 | _,_,0,_,h=>absurd h (Nat.not_lt_zero _)
 | 0,j,f+1,h,_=>by
  have:j=a.length:=h
  subst this
  unfold bW
  rw [qc ha hb (Nat.le_refl _),decide_eq_false (Nat.lt_irrefl _)]
  rfl
 | d+1,j,f+1,h,hf=>by
  unfold bW
  rw [qc ha hb (by omega),decide_eq_true (by omega)]
  show bW _ _ f ⟨[sv (.str (a++b)),sv (.str signs),sv (.int ((j:Int)+1))],m⟩=_
  have:=qe ha hb d (j+1) f (by omega) (by omega)
  rw [Int.natCast_add] at this
  exact this
theorem NK (n:Nat) (ha:∀ c∈a,c∈signs) (hb:∀ c,b.head?=some c->c ∉ signs) (hl:a.length<1000):aa M Ft (n+1) 1 [.str (a++b),.str signs] m=.ok (.str a,m):=by
 rw [w1]
 refine aq (m':=[]) rfl (az rfl (seq1 (s':=⟨[sv (.str (a++b)),sv (.str signs),sv (.int 0)],[]⟩) rfl (seq1 (qe ha hb a.length 0 many (by omega) (by show a.length<1000000;omega)) (aC (t:=.str a) (s':=⟨[sv (.str (a++b)),sv (.str signs),sv (.int (a.length:Nat))],[]⟩) ?_))) rfl) rfl
 simp only [ev,c7,bH,cN,z9,Bx]
theorem vz (n:Nat) {k:Int}(ha:∀ c∈a,c∈signs) (hb:∀ c,b.head?=some c->c ∉ signs) (hl:a.length<1000):aa M Ft (n+2) 79 [.own 0,.str signs] (SC (a++b) k)=.ok (.str a,SC b k):=by
 rw [w79]
 refine az (s':=St [sv (.str signs),sv (.str a)] b k) rfl (seq1 (s':=St [sv (.str signs),sv (.str a)] (a++b) k) ?_ (seq1 (NJ (l:=b) ?_) rfl)) rfl
 ·show aE 2 (ai _ _ _) (St [sv (.str signs),none] (a++b) k)=_
  have e:ai (aa M Ft (n+1) 1) [] (k2 (aI M.P.tab 14 (vF 0)) (vF 1)) (St [sv (.str signs),none] (a++b) k)=.ok (.str a,St [sv (.str signs),none] (a++b) k):=aA (ts:=[.str (a++b),.str signs]) (s':=St [sv (.str signs),none] (a++b) k) rfl (NK n ha hb hl)
  simp only [ev,c7,e,bH]
 ·simp only [ev,c7,NI,bH,cN,br,fK,z9,f_]
end
theorem kh (n:Nat) {c:Nat}{l b:List Nat}{k:Int}(h:c ∉ l):aa M Ft (n+3) 80 [.own 0,.str [c]] (SC (c::(l++c::b)) k)=.ok (.str l,SC b k):=by
 rw [w80]
 refine az (s':=St [sv (.str [c]),sv (.int (l.length:Nat)),sv (.str l)] b k) rfl ?_ rfl
 refine seq1 (s':=St [sv (.str [c]),none,none] (l++c::b) k) ?_ (seq1 (s':=St [sv (.str [c]),sv (.int (l.length:Nat)),none] (l++c::b) k) ?_ (seq1 (s':=St [sv (.str [c]),sv (.int (l.length:Nat)),none] (l++c::b) k) (bq (s':=St [sv (.str [c]),sv (.int (l.length:Nat)),none] (l++c::b) k) ?_ rfl) (seq1 (s':=St [sv (.str [c]),sv (.int (l.length:Nat)),sv (.str l)] (l++c::b) k) ?_ (seq1 (NJ (l:=b) ?_) rfl))))
 ·have e:aP (aG [(24,78)] (aa M Ft (n+2))) (vF 0) (k1 (vF 1)) (St [sv (.str [c]),none,none] ([c]++(l++c::b)) k)=.ok (.non,St [sv (.str [c]),none,none] (l++c::b) k):=sm rfl (vv n)
  show cQ _ (St [sv (.str [c]),none,none] ([c]++(l++c::b)) k)=_
  simp only [ev,e,bH]
 ·simp only [ev,c7,NI,bH,cN,yj c l b h]
 ·have e:aN .Eq (.int (l.length:Nat)) (.int (-1))=some (.bl (decide ((l.length:Int)=-1))):=rfl
  simp only [ev,c7,bH,cN,kX,e]
  rw [decide_eq_false (by omega)]
 ·simp only [ev,c7,NI,bH,cN,z9,Bx]
 ·have e:cO .Add (.int (l.length:Nat)) (.int 1)=some (.int ((l++[c]).length:Nat)):=by
   rw [List.length_append];rfl
  have e2:bZ (l++c::b) (some ((l++[c]).length:Int)) none=b:=by
   have:=f_ (l++[c]) b
   rw [List.append_assoc] at this
   exact this
  simp only [ev,c7,NI,bH,cN,e,z9,e2]
section
variable {r:List (Option C)}{rest qb l w:List Nat}{k:Int}{ao:Nat->Fn}{fl:FL}{ts:List T}{t:T}{i:Nat}{A B:FS}{R:Res (Out × S)}{s s' s1 s2:S}{a:FE}
theorem pT (n:Nat):D.tB (aP (aG [(24,77)] (aa M Ft (n+1))) (vF 0) (k1 (cS w))) (St r (w++rest) k)=.ok (true,St r rest k):=by
 have e:aP (aG [(24,77)] (aa M Ft (n+1))) (vF 0) (k1 (cS w)) (St r (w++rest) k)=.ok (.bl true,St r rest k):=sm rfl (kc n)
 simp only [ev,e,bH,cN]
theorem pN (n:Nat) (h:pre w rest=false):D.tB (aP (aG [(24,77)] (aa M Ft (n+1))) (vF 0) (k1 (cS w))) (St r rest k)=.ok (false,St r rest k):=by
 have e:aP (aG [(24,77)] (aa M Ft (n+1))) (vF 0) (k1 (cS w)) (St r rest k)=.ok (.bl false,St r rest k):=sm rfl (yl n h)
 simp only [ev,e,bH,cN]
theorem mP (n:Nat):cQ (aP (aG [(24,78)] (aa M Ft (n+2))) (vF 0) (k1 (cS w))) (St r (w++rest) k)=.ok (.nx,St r rest k):=by
 have e:aP (aG [(24,78)] (aa M Ft (n+2))) (vF 0) (k1 (cS w)) (St r (w++rest) k)=.ok (.non,St r rest k):=sm rfl (vv n)
 simp only [ev,e,bH]
theorem skip (n:Nat) (h:pre w rest=false) (q:B (St r rest k)=R):ah (aW (D.tB (aP (aG [(24,77)] (aa M Ft (n+1))) (vF 0) (k1 (cS w)))) A av) B (St r rest k)=R:=seq1 (bq (pN n h) rfl) q
theorem hit (n:Nat) (q:A (St r rest k)=.ok (.rt t,s')):ah (aW (D.tB (aP (aG [(24,77)] (aa M Ft (n+1))) (vF 0) (k1 (cS w)))) A av) B (St r (w++rest) k)=.ok (.rt t,s'):=b8 (eM (pT n) q)
theorem cR (ha:fl (St r rest k)=.ok (ts,St r rest k)) (hc:ao i (.own 0::ts) (SC rest k)=.ok (t,SC qb k)):ai (ao i) [] (cM (vF 0) fl) (St r rest k)=.ok (t,St r qb k):=by
 refine aA (ts:=.own 0::ts) (s':=St r rest k) ?_ (by rw [List.append_nil];exact hc)
 show Res.bind (fl (St r rest k)) _=_
 rw [ha];rfl
theorem dY {c m:Nat}(h:fl s=.ok (ts,s')) (hl:ts.length=m):cX c m fl s=.ok (.obj c ts,s'):=by
 unfold cX;rw [h];exact if_pos hl
theorem au (h:a s=.ok (t,s1)) (h2:fl s1=.ok (ts,s2)):cM a fl s=.ok (t::ts,s2):=by
 unfold cM;rw [h];show Res.bind (fl s1) _=_;rw [h2];rfl
theorem bg {i:Nat}(h:a s=.ok (t,s')):aE i a s=.ok (.nx,ju s' i (.val t)):=by unfold aE;rw [h];rfl
end
theorem iU (a b:List Nat):aN .Eq (.str a) (.str b)=some (.bl (decide (a=b))):=rfl
theorem kZ (a b:Int):aN .Gt (.int a) (.int b)=some (.bl (decide (b<a))):=rfl
theorem qg (a b:Int):aN .Lt (.int a) (.int b)=some (.bl (decide (a<b))):=rfl
def ym:List Nat:=[48,49,50,51,52,53,54,55,56,57]
def dF:List Nat:=[97,98,99,100,101,102,103,104,105,106,107,108,109,110,111,112,113,114,115,116,117,118,119,120,121,122]
theorem iV (n:Nat) {d b:List Nat}{v lo hi k:Int}(hd:∀ c∈d,c∈ym) (h0:d≠[]) (hz:pre [48] d=false) (hl:d.length<=3) (hi':AI [.str d]=some (.int v)) (h1:lo<=v) (h2:v<=hi) (hb:∀ c,b.head?=some c->c ∉ ym) :
  aa M Ft (n+3) 24 [.own 0,.int lo,.int hi] (SC (d++b) k)=.ok (.int v,SC b k):=by
 rw [w24]
 refine az (s':=St [sv (.int lo),sv (.int hi),sv (.str d),sv (.int v)] b k) rfl ?_ rfl
 have e:aP (aG [(24,79)] (aa M Ft (n+2))) (vF 0) (k1 (cS ym)) (St [sv (.int lo),sv (.int hi),none,none] (d++b) k)=.ok (.str d,St [sv (.int lo),sv (.int hi),none,none] b k):=sm rfl (vz n hd hb (by omega))
 refine seq1 (bg e) (seq1 (bq (s':=St [sv (.int lo),sv (.int hi),sv (.str d),none] b k) ?_ rfl) (seq1 (s':=St [sv (.int lo),sv (.int hi),sv (.str d),sv (.int v)] b k) ?_ (seq1 (bq (s':=St [sv (.int lo),sv (.int hi),sv (.str d),sv (.int v)] b k) ?_ rfl) rfl)))
 ·show eS _ _ (St [sv (.int lo),sv (.int hi),sv (.str d),none] b k)=_
  have g1:decide (d=[])=false:=decide_eq_false h0
  have g2:decide ((3:Int)<(d.length:Nat))=false:=decide_eq_false (by omega)
  simp only [eS,ev,c7,bH,cN,iU,g1,nU,hz,br,fK,kZ,g2,Bool.false_eq_true,if_false]
 ·simp only [ev,c7,bH,cN,hi']
 ·have g1:decide (v<lo)=false:=decide_eq_false (by omega)
  have g2:decide (hi<v)=false:=decide_eq_false (by omega)
  simp only [eS,ev,c7,bH,cN,qg,kZ,g1,g2,Bool.false_eq_true,if_false]
theorem Gu (n:Nat) {d b:List Nat}{k:Int}(hd:∀ c∈d,c∈dF) (h0:d≠[]) (hl:d.length<=8) (hb:∀ c,b.head?=some c->c ∉ dF):aa M Ft (n+3) 25 [.own 0] (SC (d++b) k)=.ok (.str d,SC b k):=by
 rw [w25]
 refine az (s':=St [sv (.str d)] b k) rfl ?_ rfl
 have e:aP (aG [(24,79)] (aa M Ft (n+2))) (vF 0) (k1 (cS dF)) (St [none] (d++b) k)=.ok (.str d,St [none] b k):=sm rfl (vz n hd hb (by omega))
 refine seq1 (bg e) (seq1 (bq (s':=St [sv (.str d)] b k) ?_ rfl) rfl)
 show eS _ _ (St [sv (.str d)] b k)=_
 have g1:decide (d=[])=false:=decide_eq_false h0
 have g2:decide ((8:Int)<(d.length:Nat))=false:=decide_eq_false (by omega)
 simp only [eS,ev,c7,bH,cN,iU,g1,br,fK,kZ,g2,Bool.false_eq_true,if_false]
theorem fm {g:FG}{e:FE}{b:List (Option C)}{m:List Ob}{f:T->T}:∀ {ts:List T},(∀ t∈ts,∃ b1 b2,g t b=some b1/\e ⟨b1,m⟩=.ok (f t,⟨b2,m⟩))->du g dE e b ts m=.ok (ts.map f,m)
 | [],_=>rfl
 | t::ts,h=>by
  obtain ⟨b1,b2,h1,h2⟩:=h t (List.mem_cons_self ..)
  unfold du
  rw [h1]
  show Res.bind (e ⟨b1,m⟩) _=_
  rw [h2]
  show Res.bind (du g dE e b ts m) _=_
  rw [fm fun t ht=>h t (List.mem_cons_of_mem _ ht)]
  rfl
theorem fG {src:FL}{n:Nat}{js:List Nat}{g:FG}{c:FT}{e:FE}{s s1:S}{ts us:List T}{m':List Ob}(h:src s=.ok (ts,s1)) (z:ts.length<=1000000) (q:du g c e (iK n js (jm js s1.r)) ts s1.m=.ok (us,m')):bN src n js g c e s=.ok (us,⟨jm js s1.r,m'⟩):=by
 unfold bN
 rw [h]
 show (if ts.length<=1000000 then _ else _)=_
 rw [if_pos z,q]
 rfl
theorem fH {fl:FL}{s s':S}{ts:List T}(h:fl s=.ok (ts,s')):dc fl s=.ok (.lst ts,s'):=by unfold dc;rw [h];rfl
theorem bI {g:List T->Option T}{fl:FL}{s s':S}{ts:List T}{t:T}(h:fl s=.ok (ts,s')) (q:g ts=some t):aM g fl s=.ok (t,s'):=by unfold aM;rw [h];show Res.bind (dh (g ts)) _=_;rw [q];rfl
theorem BA (c:Nat) (l:List Nat):aN .In (.str [c]) (.str l)=some (.bl (decide (c∈l))):=rfl
def vA:T->T:=fun _=>.bl true
theorem all_true:∀ (l:List T),boolsOf (l.map vA)=some (l.map fun _=>true)
 | []=>rfl
 | _::l=>by
  show (boolsOf (l.map vA)).map _=_
  rw [all_true l];rfl
theorem ki (n:Nat) {l signs:List Nat}{m:List Ob}(h:∀ c∈l,c∈signs) (hl:l.length<=1000):aa M Ft (n+1) 0 [.str l,.str signs] m=.ok (.bl true,m):=by
 rw [w0]
 refine aq (m':=[]) rfl (az (s':=⟨[sv (.str l),sv (.str signs)],[]⟩) rfl (aC (bI (ts:=[.lst ((l.map fun c=>T.str [c]).map vA)]) (au (fH (fG (ts:=l.map fun c=>T.str [c]) (s1:=⟨[sv (.str l),sv (.str signs)],[]⟩) rfl (by rw [List.length_map];omega) (fm fun t ht=>?_))) rfl) ?_)) rfl) rfl
 ·obtain ⟨c,hc,rfl⟩:=List.mem_map.mp ht
  refine ⟨[none,sv (.str [c]),sv (.str signs)],[none,sv (.str [c]),sv (.str signs)],rfl,?_⟩
  simp only [ev,c7,bH,cN,BA,decide_eq_true (h c hc),vA]
 ·simp only [FI,Mu,all_true]
  simp
noncomputable def fq:List Nat:=[97,98,99,100,101,102,103,104,105,106,107,108,109,110,111,112,113,114,115,116,117,118,119,120,121,122,65,66,67,68,69,70,71,72,73,74,75,76,77,78,79,80,81,82,83,84,85,86,87,88,89,90,48,49,50,51,52,53,54,55,56,57,32,33,34,35,36,38,39,40,41,42,43,44,45,46,47,58,59,60,61,62,63,64,91,92,93,94,95,96,123,124,125,126]
theorem BB (n:Nat) {l b:List Nat}{k:Int}(h:∀ c∈l,c∈fq/\c≠34) (hl:l.length<=40):aa M Ft (n+4) 26 [.own 0] (SC (34::(l++34::b)) k)=.ok (.str l,SC b k):=by
 rw [w26]
 have hq:34 ∉ l:=fun z=>(h 34 z).2 rfl
 refine az (s':=St [sv (.str l)] b k) rfl ?_ rfl
 have e:aP (aG [(24,80)] (aa M Ft (n+3))) (vF 0) (k1 (cS [34])) (St [none] (34::(l++34::b)) k)=.ok (.str l,St [none] b k):=sm rfl (kh n hq)
 refine seq1 (bg e) (seq1 (bq (s':=St [sv (.str l)] b k) ?_ rfl) rfl)
 show eS _ _ (St [sv (.str l)] b k)=_
 have e2:ai (aa M Ft (n+3) 0) [] (k2 (vF 1) (cS fq)) (St [sv (.str l)] b k)=.ok (.bl true,St [sv (.str l)] b k):=aA (ts:=[.str l,.str fq]) (s':=St [sv (.str l)] b k) rfl (ki (n+2) (fun c hc=>(h c hc).1) (by omega))
 unfold fq at e2
 have g2:decide ((40:Int)<(l.length:Nat))=false:=decide_eq_false (by omega)
 unfold eS bA
 rw [show D.a_ (bB (aN .Gt) (aM br (k1 (vF 1))) (cI 40)) (St [sv (.str l)] b k)=.ok (false,St [sv (.str l)] b k) by simp only [ev,c7,bH,cN,br,fK,kZ,g2]]
 show Res.bind (D.tB (ai _ _ _) (St [sv (.str l)] b k)) _=_
 unfold D.tB
 rw [e2]
 rfl
structure Nm (d:List Nat) (v:Int):Prop where
 hd:∀ c∈d,c∈ym
 h0:d≠[]
 hz:pre [48] d=false
 hl:d.length<=3
 hi:AI [.str d]=some (.int v)
structure Pt (w:List Nat) (t:T):Prop where
 no:47 ∉ w
 eq:∀ n m,aa M Ft (n+7) 3 [.str w] m=.ok (t,m)
theorem dG (n:Nat) {w b:List Nat}{t:T}{k:Int}(P:Pt w t):aa M Ft (n+8) 27 [.own 0] (SC (47::(w++47::b)) k)=.ok (t,SC b k):=by
 rw [w27]
 have e:aP (aG [(24,80)] (aa M Ft (n+7))) (vF 0) (k1 (cS [47])) (St [none] (47::(w++47::b)) k)=.ok (.str w,St [none] b k):=sm rfl (kh (n+4) P.no)
 exact az (s':=St [sv (.str w)] b k) rfl (seq1 (bg e) (aC (aA (ts:=[.str w]) (s':=St [sv (.str w)] b k) rfl (P.eq n _)))) rfl
def NL (b:List Nat):Prop:=∀ c,b.head?=some c->c ∉ ym
def ZO (b:List Nat):Prop:=∀ c,b.head?=some c->c ∉ dF
inductive RP where
 | row (d:List Nat) (v:Int) | like (w:List Nat) (t:T)
def RP.ok:RP->Prop
 | .row d v=>Nm d v/\1<=v/\v<=999
 | .like w t=>Pt w t
noncomputable def RP.txt:RP->List Nat->List Nat
 | .row d _,b=>114::111::119::32::(d++b)
 | .like w _,b=>47::(w++47::b)
noncomputable def RP.val:RP->T
 | .row _ v=>.obj 4 [.int v]
 | .like _ t=>.obj 6 [t]
theorem BC (n:Nat) {x:RP}{b:List Nat}{k:Int}(h:x.ok) (hb:NL b):aa M Ft (n+9) 19 [.own 0] (SC (x.txt b) k)=.ok (x.val,SC b k):=by
 rw [w19]
 cases x with
 | row d v=>
  obtain ⟨N,h1,h2⟩:=h
  exact az (s':=St [] b k) rfl (hit (w:=[114,111,119,32]) (rest:=d++b) (n+7) (aC (dY (ts:=[.int v]) (au (cR (ts:=[.int 1,.int 999]) rfl (iV (n+5) N.hd N.h0 N.hz N.hl N.hi h1 h2 hb)) rfl) rfl))) rfl
 | like w t=>
  exact az (s':=St [] b k) rfl (skip (n+7) (aj (by decide)) (aC (dY (ts:=[t]) (au (cR (ts:=[]) rfl (dG n h)) rfl) rfl))) rfl
inductive PC where
 | last | soon (d:List Nat) (v:Int) (w:List Nat) (t:T) | ft (x y:RP) | rp (x:RP)
def PC.ok:PC->Prop
 | .last=>True
 | .soon d v w t=>Nm d v/\1<=v/\v<=3/\Pt w t
 | .ft x y=>x.ok/\y.ok
 | .rp x=>x.ok
noncomputable def PC.txt:PC->List Nat->List Nat
 | .last,b=>108::97::115::116::b
 | .soon d _ w _,b=>115::111::111::110::32::(d++32::47::(w++47::b))
 | .ft x y,b=>102::114::111::109::32::x.txt (32::116::111::32::y.txt b)
 | .rp x,b=>x.txt b
noncomputable def PC.val:PC->T
 | .last=>.obj 5 []
 | .soon _ v _ t=>.obj 7 [.int v,t]
 | .ft x y=>.obj 8 [x.val,y.val]
 | .rp x=>x.val
theorem BD (b:List Nat):NL (32::b):=fun c h=>by cases h;decide
theorem nz {x:RP}{b w:List Nat}{c:Nat}(h1:c≠114) (h2:c≠47):pre (c::w) (x.txt b)=false:=by
 cases x with
 | row d v=>exact aj h1
 | like w t=>exact aj h2
theorem qh (n:Nat) {x:PC}{b:List Nat}{k:Int}(h:x.ok) (hb:NL b):aa M Ft (n+10) 18 [.own 0] (SC (x.txt b) k)=.ok (x.val,SC b k):=by
 rw [w18]
 cases x with
 | last=>exact az (s':=St [none,none] b k) rfl (hit (w:=[108,97,115,116]) (rest:=b) (n+8) (aC (dY (ts:=[]) rfl rfl))) rfl
 | soon d v w t=>
  obtain ⟨N,h1,h2,P⟩:=h
  refine az (s':=St [sv (.int v),none] b k) rfl (skip (n+8) (aj (by decide)) (hit (w:=[115,111,111,110,32]) (rest:=d++32::47::(w++47::b)) (n+8) ?_)) rfl
  refine seq1 (s':=St [sv (.int v),none] (32::47::(w++47::b)) k) (bg (cR (ts:=[.int 1,.int 3]) rfl (iV (n+6) N.hd N.h0 N.hz N.hl N.hi h1 h2 (BD _)))) (seq1 (mP (w:=[32]) (rest:=47::(w++47::b)) (n+7)) (aC (dY (ts:=[.int v,t]) (au (t:=.int v) rfl (au (cR (ts:=[]) rfl (dG (n+1) P)) rfl)) rfl)))
 | ft x y=>
  obtain ⟨h1,h2⟩:=h
  refine az (s':=St [none,sv x.val] b k) rfl (skip (n+8) (aj (by decide)) (skip (n+8) (aj (by decide)) (hit (w:=[102,114,111,109,32]) (rest:=x.txt (32::116::111::32::y.txt b)) (n+8) ?_))) rfl
  exact seq1 (s':=St [none,sv x.val] (32::116::111::32::y.txt b) k) (bg (cR (ts:=[]) rfl (BC n h1 (BD _)))) (seq1 (mP (w:=[32,116,111,32]) (rest:=y.txt b) (n+7)) (aC (dY (ts:=[x.val,y.val]) (au (t:=x.val) rfl (au (cR (ts:=[]) rfl (BC n h2 hb)) rfl)) rfl)))
 | rp x=>
  exact az (s':=St [none,none] b k) rfl (skip (n+8) (nz (by decide) (by decide)) (skip (n+8) (nz (by decide) (by decide)) (skip (n+8) (nz (by decide) (by decide)) (aC (cR (ts:=[]) rfl (BC n h hb)))))) rfl
inductive CD where
 | fin | no (x:PC) | pc (x:PC)
def CD.ok:CD->Prop
 | .fin=>True
 | .no x=>x.ok
 | .pc x=>x.ok
noncomputable def CD.txt:CD->List Nat->List Nat
 | .fin,b=>101::110::100::b
 | .no x,b=>110::111::116::32::x.txt b
 | .pc x,b=>x.txt b
noncomputable def CD.val:CD->T
 | .fin=>.obj 10 []
 | .no x=>.obj 9 [x.val]
 | .pc x=>x.val
theorem tR {x:PC}{b w:List Nat}{c:Nat}(h:c≠114/\c≠47/\c≠108/\c≠115/\c≠102):pre (c::w) (x.txt b)=false:=by
 obtain ⟨h1,h2,h3,h4,h5⟩:=h
 cases x with
 | last=>exact aj h3
 | soon d v w t=>exact aj h4
 | ft x y=>exact aj h5
 | rp x=>exact nz h1 h2
theorem Gv (n:Nat) {x:CD}{b:List Nat}{k:Int}(h:x.ok) (hb:NL b):aa M Ft (n+11) 17 [.own 0] (SC (x.txt b) k)=.ok (x.val,SC b k):=by
 rw [w17]
 cases x with
 | fin=>exact az (s':=St [] b k) rfl (hit (w:=[101,110,100]) (rest:=b) (n+9) (aC (dY (ts:=[]) rfl rfl))) rfl
 | no x=>exact az (s':=St [] b k) rfl (skip (n+9) (aj (by decide)) (hit (w:=[110,111,116,32]) (rest:=x.txt b) (n+9) (aC (dY (ts:=[x.val]) (au (cR (ts:=[]) rfl (qh n h hb)) rfl) rfl)))) rfl
 | pc x=>exact az (s':=St [] b k) rfl (skip (n+9) (tR (by decide)) (skip (n+9) (tR (by decide)) (aC (cR (ts:=[]) rfl (qh n h hb))))) rfl
structure nA (d:List Nat):Prop where
 hd:∀ c∈d,c∈dF
 h0:d≠[]
 hl:d.length<=8
structure yC (l:List Nat):Prop where
 h:∀ c∈l,c∈fq/\c≠34
 hl:l.length<=40
inductive DD where
 | drop | print | done | tell | say (l:List Nat) | swap (e:Bool) (w:List Nat) (t:T) (l:List Nat) | join (d:List Nat) (v:Int) | pile (a:List Nat) | pileN (a d:List Nat) (v:Int) | bring (a:List Nat) | go (a:List Nat) | add (d:List Nat) (v:Int) (d2:List Nat) (v2:Int)
def DD.ok:DD->Prop
 | .say l=>yC l
 | .swap _ w t l=>Pt w t/\yC l
 | .join d v=>Nm d v/\2<=v/\v<=9
 | .pile a=>nA a
 | .pileN a d v=>nA a/\Nm d v/\1<=v/\v<=9
 | .bring a=>nA a
 | .go a=>nA a
 | .add d v d2 v2=>(Nm d v/\1<=v/\v<=9)/\Nm d2 v2/\1<=v2/\v2<=9
 | _=>True
def Ov (w l b:List Nat):List Nat:=47::(w++47::32::34::(l++34::b))
structure Ow (b:List Nat):Prop where
 f:NL b
 l:ZO b
 s:pre [32] b=false
noncomputable def DD.txt:DD->List Nat->List Nat
 | .drop,b=>100::114::111::112::b
 | .print,b=>112::114::105::110::116::b
 | .done,b=>100::111::110::101::b
 | .tell,b=>116::101::108::108::b
 | .say l,b=>115::97::121::32::34::(l++34::b)
 | .swap true w _ l,b=>115::119::97::112::32::101::118::101::114::121::32::Ov w l b
 | .swap false w _ l,b=>115::119::97::112::32::Ov w l b
 | .join d _,b=>106::111::105::110::32::(d++b)
 | .pile a,b=>112::105::108::101::32::(a++b)
 | .pileN a d _,b=>112::105::108::101::32::(a++32::(d++b))
 | .bring a,b=>98::114::105::110::103::32::(a++b)
 | .go a,b=>103::111::32::(a++b)
 | .add d _ d2 _,b=>97::100::100::32::(d++32::(d2++b))
noncomputable def DD.val:DD->T
 | .drop=>.obj 13 []
 | .print=>.obj 14 []
 | .done=>.obj 15 []
 | .tell=>.obj 23 []
 | .say l=>.obj 16 [.str l]
 | .swap e _ t l=>.obj 17 [t,.str l,.bl e]
 | .join _ v=>.obj 18 [.int v]
 | .pile a=>.obj 19 [.str a,.non]
 | .pileN a _ v=>.obj 19 [.str a,.int v]
 | .bring a=>.obj 20 [.str a]
 | .go a=>.obj 21 [.str a]
 | .add _ v _ v2=>.obj 22 [.int v,.int v2]
theorem ZP:Ow []:=⟨fun c h=>(by cases h),fun c h=>(by cases h),rfl⟩
theorem VJ (b:List Nat):ZO (32::b):=fun c h=>by cases h;decide
section
variable {k:Int}
theorem nB (n:Nat) {d b:List Nat}{v lo hi:Int}(N:Nm d v) (h1:lo<=v) (h2:v<=hi) (hb:NL b):aa M Ft (n+3) 24 [.own 0,.int lo,.int hi] (SC (d++b) k)=.ok (.int v,SC b k):=iV n N.hd N.h0 N.hz N.hl N.hi h1 h2 hb
theorem kj (n:Nat) {d b:List Nat}(N:nA d) (hb:ZO b):aa M Ft (n+3) 25 [.own 0] (SC (d++b) k)=.ok (.str d,SC b k):=Gu n N.hd N.h0 N.hl hb
theorem BE (n:Nat) {l b:List Nat}(W:yC l):aa M Ft (n+4) 26 [.own 0] (SC (34::(l++34::b)) k)=.ok (.str l,SC b k):=BB n W.h W.hl
theorem swap_eq (n:Nat) {e:Bool}{w l b:List Nat}{t:T}(P:Pt w t) (W:yC l):aa M Ft (n+9) 21 [.own 0,.bl e] (SC (Ov w l b) k)=.ok (.obj 17 [t,.str l,.bl e],SC b k):=by
 rw [w21]
 exact az (s':=St [sv (.bl e),sv t] b k) rfl (seq1 (s':=St [sv (.bl e),sv t] (32::34::(l++34::b)) k) (bg (cR (ts:=[]) rfl (dG n P))) (seq1 (mP (w:=[32]) (rest:=34::(l++34::b)) (n+6)) (aC (dY (ts:=[t,.str l,.bl e]) (au (t:=t) rfl (au (cR (ts:=[]) rfl (BE (n+4) W)) rfl)) rfl)))) rfl
theorem Gw (n:Nat) {a b:List Nat}(E:Ow b) (N:nA a):aa M Ft (n+9) 22 [.own 0] (SC (a++b) k)=.ok (.obj 19 [.str a,.non],SC b k):=by
 rw [w22]
 refine az (s':=St [sv (.str a)] b k) rfl (seq1 (s':=St [sv (.str a)] b k) (bg (cR (ts:=[]) rfl (kj (n+5) N E.l))) (b8 (eM (s':=St [sv (.str a)] b k) ?_ (aC (dY (ts:=[.str a,.non]) rfl rfl))))) rfl
 unfold bA
 rw [pN (n+7) (E.s)];rfl
theorem BG (n:Nat) {a d b:List Nat}{v:Int}(E:Ow b) (N:nA a) (D1:Nm d v) (h1:1<=v) (h2:v<=9):aa M Ft (n+9) 22 [.own 0] (SC (a++32::(d++b)) k)=.ok (.obj 19 [.str a,.int v],SC b k):=by
 rw [w22]
 refine az (s':=St [sv (.str a)] b k) rfl (seq1 (s':=St [sv (.str a)] (32::(d++b)) k) (bg (cR (ts:=[]) rfl (kj (n+5) N (VJ _)))) (seq1 (s':=St [sv (.str a)] (d++b) k) (bq (s':=St [sv (.str a)] (d++b) k) ?_ rfl) (aC (dY (ts:=[.str a,.int v]) (au (t:=.str a) rfl (au (cR (ts:=[.int 1,.int 9]) rfl (nB (n+5) D1 h1 h2 E.f)) rfl)) rfl)))) rfl
 unfold bA
 have:=pT (r:=[sv (.str a)]) (w:=[32]) (rest:=d++b) (k:=k) (n+7)
 show Res.bind (D.tB _ (St [sv (.str a)] ([32]++(d++b)) k)) _=_
 rw [this];rfl
theorem add_eq (n:Nat) {d d2 b:List Nat}{v v2:Int}(E:Ow b) (D1:Nm d v) (h1:1<=v) (h2:v<=9) (D2:Nm d2 v2) (h3:1<=v2) (h4:v2<=9):aa M Ft (n+9) 23 [.own 0] (SC (d++32::(d2++b)) k)=.ok (.obj 22 [.int v,.int v2],SC b k):=by
 rw [w23]
 refine az (s':=St [sv (.int v)] b k) rfl (seq1 (s':=St [sv (.int v)] (32::(d2++b)) k) ?_ (seq1 (s':=St [sv (.int v)] (d2++b) k) ?_ ?_)) rfl
 ·exact bg (cR (ts:=[.int 1,.int 9]) rfl (nB (n+5) D1 h1 h2 (BD _)))
 ·exact mP (w:=[32]) (rest:=d2++b) (n+6)
 ·refine aC (dY (ts:=[.int v,.int v2]) (au (t:=.int v) (ts:=[.int v2]) (s1:=St [sv (.int v)] (d2++b) k) rfl (au (s1:=St [sv (.int v)] b k) ?_ rfl)) rfl)
  exact cR (ts:=[.int 1,.int 9]) rfl (nB (n+5) D2 h3 h4 E.f)
theorem p2 {a c d:Nat}{w r:List Nat}(h:c≠d):pre (a::c::w) (a::d::r)=false:=by rw [eU];exact aj h
theorem p6 {w r:List Nat}{c d:Nat}(h:c≠d):pre (115::119::97::112::32::c::w) (115::119::97::112::32::d::r)=false:=by
 rw [eU,eU,eU,eU,eU];exact aj h
theorem vB (n:Nat) {x:DD}{b:List Nat}(E:Ow b) (h:x.ok):aa M Ft (n+10) 20 [.own 0] (SC (x.txt b) k)=.ok (x.val,SC b k):=by
 rw [w20]
 refine az (s':=St [] b k) rfl ?_ rfl
 show ah _ _ (St [] (x.txt b) k)=_
 cases x with
 | drop=>exact hit (w:=[100,114,111,112]) (rest:=b) (n+8) (aC (dY (ts:=[]) rfl rfl))
 | print=>exact skip (n+8) (aj (by decide)) (hit (w:=[112,114,105,110,116]) (rest:=b) (n+8) (aC (dY (ts:=[]) rfl rfl)))
 | done=>exact skip (n+8) (p2 (by decide)) (skip (n+8) (aj (by decide)) (hit (w:=[100,111,110,101]) (rest:=b) (n+8) (aC (dY (ts:=[]) rfl rfl))))
 | tell=>exact skip (n+8) (aj (by decide)) (skip (n+8) (aj (by decide)) (skip (n+8) (aj (by decide)) (hit (w:=[116,101,108,108]) (rest:=b) (n+8) (aC (dY (ts:=[]) rfl rfl)))))
 | say l=>exact skip (n+8) (aj (by decide)) (skip (n+8) (aj (by decide)) (skip (n+8) (aj (by decide)) (skip (n+8) (aj (by decide)) (hit (w:=[115,97,121,32]) (rest:=34::(l++34::b)) (n+8) (aC (dY (ts:=[.str l]) (au (cR (ts:=[]) rfl (BE (n+5) h)) rfl) rfl))))))
 | swap e w t l=>
  cases e with
  | true=>exact skip (n+8) (aj (by decide)) (skip (n+8) (aj (by decide)) (skip (n+8) (aj (by decide)) (skip (n+8) (aj (by decide)) (skip (n+8) (p2 (by decide)) (hit (w:=[115,119,97,112,32,101,118,101,114,121,32]) (rest:=Ov w l b) (n+8) (aC (cR (ts:=[.bl true]) rfl (swap_eq n h.1 h.2))))))))
  | false=>exact skip (n+8) (aj (by decide)) (skip (n+8) (aj (by decide)) (skip (n+8) (aj (by decide)) (skip (n+8) (aj (by decide)) (skip (n+8) (p2 (by decide)) (skip (n+8) (p6 (by decide)) (hit (w:=[115,119,97,112,32]) (rest:=Ov w l b) (n+8) (aC (cR (ts:=[.bl false]) rfl (swap_eq n h.1 h.2)))))))))
 | join d v=>exact skip (n+8) (aj (by decide)) (skip (n+8) (aj (by decide)) (skip (n+8) (aj (by decide)) (skip (n+8) (aj (by decide)) (skip (n+8) (aj (by decide)) (skip (n+8) (aj (by decide)) (skip (n+8) (aj (by decide)) (hit (w:=[106,111,105,110,32]) (rest:=d++b) (n+8) (aC (dY (ts:=[.int v]) (au (cR (ts:=[.int 2,.int 9]) rfl (nB (n+6) h.1 h.2.1 h.2.2 E.f)) rfl) rfl)))))))))
 | pile a=>exact skip (n+8) (aj (by decide)) (skip (n+8) (p2 (by decide)) (skip (n+8) (aj (by decide)) (skip (n+8) (aj (by decide)) (skip (n+8) (aj (by decide)) (skip (n+8) (aj (by decide)) (skip (n+8) (aj (by decide)) (skip (n+8) (aj (by decide)) (hit (w:=[112,105,108,101,32]) (rest:=a++b) (n+8) (aC (cR (ts:=[]) rfl (Gw n E h)))))))))))
 | pileN a d v=>exact skip (n+8) (aj (by decide)) (skip (n+8) (p2 (by decide)) (skip (n+8) (aj (by decide)) (skip (n+8) (aj (by decide)) (skip (n+8) (aj (by decide)) (skip (n+8) (aj (by decide)) (skip (n+8) (aj (by decide)) (skip (n+8) (aj (by decide)) (hit (w:=[112,105,108,101,32]) (rest:=a++32::(d++b)) (n+8) (aC (cR (ts:=[]) rfl (BG n E h.1 h.2.1 h.2.2.1 h.2.2.2)))))))))))
 | bring a=>exact skip (n+8) (aj (by decide)) (skip (n+8) (aj (by decide)) (skip (n+8) (aj (by decide)) (skip (n+8) (aj (by decide)) (skip (n+8) (aj (by decide)) (skip (n+8) (aj (by decide)) (skip (n+8) (aj (by decide)) (skip (n+8) (aj (by decide)) (skip (n+8) (aj (by decide)) (hit (w:=[98,114,105,110,103,32]) (rest:=a++b) (n+8) (aC (dY (ts:=[.str a]) (au (cR (ts:=[]) rfl (kj (n+6) h E.l)) rfl) rfl)))))))))))
 | go a=>exact skip (n+8) (aj (by decide)) (skip (n+8) (aj (by decide)) (skip (n+8) (aj (by decide)) (skip (n+8) (aj (by decide)) (skip (n+8) (aj (by decide)) (skip (n+8) (aj (by decide)) (skip (n+8) (aj (by decide)) (skip (n+8) (aj (by decide)) (skip (n+8) (aj (by decide)) (skip (n+8) (aj (by decide)) (hit (w:=[103,111,32]) (rest:=a++b) (n+8) (aC (dY (ts:=[.str a]) (au (cR (ts:=[]) rfl (kj (n+6) h E.l)) rfl) rfl))))))))))))
 | add d v d2 v2=>exact skip (n+8) (aj (by decide)) (skip (n+8) (aj (by decide)) (skip (n+8) (aj (by decide)) (skip (n+8) (aj (by decide)) (skip (n+8) (aj (by decide)) (skip (n+8) (aj (by decide)) (skip (n+8) (aj (by decide)) (skip (n+8) (aj (by decide)) (skip (n+8) (aj (by decide)) (skip (n+8) (aj (by decide)) (skip (n+8) (aj (by decide)) (seq1 (mP (w:=[97,100,100,32]) (rest:=d++32::(d2++b)) (n+7)) (aC (cR (ts:=[]) rfl (add_eq n E h.1.1 h.1.2.1 h.1.2.2 h.2.1 h.2.2.1 h.2.2.2))))))))))))))
end
def qi:List (List Nat):=[[114,111,119,32],[108,97,115,116],[47],[115,111,111,110,32],[102,114,111,109,32],[110,111,116,32],[101,110,100]]
def jn (rest:List Nat):Bool:=qi.any fun w=>pre w rest
theorem NN {c:Nat}{r:List Nat}(h:c≠114/\c≠108/\c≠47/\c≠115/\c≠102/\c≠110/\c≠101):jn (c::r)=false:=by
 obtain ⟨h1,h2,h3,h4,h5,h6,h7⟩:=h
 unfold jn qi
 simp only [List.any_cons,List.any_nil,aj (Ne.symm h1),aj (Ne.symm h2),aj (Ne.symm h3),aj (Ne.symm h4),aj (Ne.symm h5),aj (Ne.symm h6),aj (Ne.symm h7),Bool.or_false]
theorem Iz {d:Nat}{r:List Nat}(h:d≠111):jn (115::d::r)=false:=by
 unfold jn qi
 simp only [List.any_cons,List.any_nil,p2 (Ne.symm h),aj (show 114≠115 by decide),aj (show 108≠115 by decide),aj (show 47≠115 by decide),aj (show 102≠115 by decide),aj (show 110≠115 by decide),aj (show 101≠115 by decide),Bool.or_false]
theorem fB {w r:List Nat}(h:w∈qi):jn (w++r)=true:=List.any_eq_true.mpr ⟨w,h,pre_app w r⟩
theorem BH (x:DD) (b:List Nat):jn (x.txt b)=false:=by
 cases x with
 | say l=>exact Iz (by decide)
 | swap e w t l=>cases e<;>exact Iz (by decide)
 | _=>exact NN (by decide)
theorem BI (x:CD) (b:List Nat):jn (x.txt b)=true:=by
 have rp:∀ (x:RP) (b:List Nat),jn (x.txt b)=true:=fun x b=>by
  cases x with
  | row d v=>exact fB (w:=[114,111,119,32]) (by decide)
  | like w t=>exact fB (w:=[47]) (by decide)
 have pc:∀ (x:PC) (b:List Nat),jn (x.txt b)=true:=fun x b=>by
  cases x with
  | last=>exact fB (w:=[108,97,115,116]) (by decide)
  | soon d v w t=>exact fB (w:=[115,111,111,110,32]) (by decide)
  | ft x y=>exact fB (w:=[102,114,111,109,32]) (by decide)
  | rp x=>exact rp x b
 cases x with
 | fin=>exact fB (w:=[101,110,100]) (by decide)
 | no x=>exact fB (w:=[110,111,116,32]) (by decide)
 | pc x=>exact pc x b
def prT (rest:List Nat):T->T
 | .str w=>.bl (pre w rest)
 | _=>.non
theorem lO (f:List Nat->Bool):∀ l:List (List Nat),boolsOf (l.map fun w=>T.bl (f w))=some (l.map f)
 | []=>rfl
 | w::l=>by
  show (boolsOf (l.map fun w=>T.bl (f w))).map _=_
  rw [lO f l];rfl
theorem any_eq {rest:List Nat}{k:Int}:D.tB (aM mT (k1 (dc (bN (lF (cF (.tup [(.str [114,111,119,32]),(.str [108,97,115,116]),(.str [47]),(.str [115,111,111,110,32]),(.str [102,114,111,109,32]),(.str [110,111,116,32]),(.str [101,110,100])]))) 2 [0] (setG 1) dE (jd nU (aI M.P.tab 14 (vF 2)) (k1 (vF 1))))))) (St [none] rest k)=.ok (jn rest,St [none] rest k):=by
 have e:aM mT (k1 (dc (bN (lF (cF (.tup [(.str [114,111,119,32]),(.str [108,97,115,116]),(.str [47]),(.str [115,111,111,110,32]),(.str [102,114,111,109,32]),(.str [110,111,116,32]),(.str [101,110,100])]))) 2 [0] (setG 1) dE (jd nU (aI M.P.tab 14 (vF 2)) (k1 (vF 1)))))) (St [none] rest k)=.ok (.bl (jn rest),St [none] rest k):=by
  refine bI (ts:=[.lst ((qi.map T.str).map (prT rest))]) (au (fH (fG (ts:=qi.map T.str) (s1:=St [none] rest k) rfl (by decide) (fm fun t ht=>?_))) rfl) ?_
  ·obtain ⟨w,_,rfl⟩:=List.mem_map.mp ht
   exact ⟨[none,sv (.str w),sv (.own 0)],[none,sv (.str w),sv (.own 0)],rfl,rfl⟩
  ·have:(qi.map T.str).map (prT rest)=qi.map fun w=>T.bl (pre w rest):=by rw [List.map_map];rfl
   rw [this]
   simp only [mT,Fd,lO]
   unfold jn
   rw [Option.map_some,List.any_map]
   rfl
 unfold D.tB
 rw [e]
 rfl
theorem ZQ {c:FT}{s s':S}(h:c s=.ok (false,s')):bA c s=.ok (true,s'):=by unfold bA;rw [h];rfl
theorem bX {c:FT}{s s':S}(h:c s=.ok (true,s')):bA c s=.ok (false,s'):=by unfold bA;rw [h];rfl
theorem yD {c d:FT}{s s1:S}{q:Res (Bool × S)}(h:c s=.ok (false,s1)) (h2:d s1=q):eS c d s=q:=by unfold eS;rw [h];exact h2
theorem ZR {c:Nat}{g:Fn}{fl:FL}{s s':S}{ts:List T}{m':List Ob}(h:fl s=.ok (ts,s')) (k:g (.own s'.m.length::ts) (s'.m++[⟨c,[]⟩])=.ok (.non,m')):xZ c g fl s=.ok (.own s'.m.length,⟨s'.r,m'⟩):=by
 unfold xZ
 rw [h]
 refine Eq.trans (bH _ _) ?_
 dsimp only
 rw [k]
inductive LN where
 | mark (a:List Nat) | bare (x:DD) | full (c:CD) (x:DD)
def LN.ok:LN->Prop
 | .mark a=>nA a
 | .bare x=>x.ok
 | .full c x=>c.ok/\x.ok
noncomputable def LN.txt:LN->List Nat->List Nat
 | .mark a,b=>109::97::114::107::32::(a++b)
 | .bare x,b=>x.txt b
 | .full c x,b=>c.txt (58::32::x.txt b)
def LN.cond:LN->T
 | .full c _=>c.val
 | _=>.obj 3 []
def LN.eV:LN->T
 | .mark a=>.obj 12 [.str a]
 | .bare x=>x.val
 | .full _ x=>x.val
noncomputable def LN.val (x:LN):T:=.obj 1 [x.cond,x.eV]
theorem ZS (x:DD) (b w:List Nat):pre (109::w) (x.txt b)=false:=by
 cases x with
 | swap e w t l=>cases e<;>exact aj (by decide)
 | _=>exact aj (by decide)
theorem ZT (x:CD) (b w:List Nat):pre (109::w) (x.txt b)=false:=by
 cases x with
 | fin=>exact aj (by decide)
 | no x=>exact aj (by decide)
 | pc x=>exact tR (by decide)
theorem VL (b:List Nat):NL (58::b):=fun c h=>by cases h;decide
theorem nC (n:Nat) {x:LN}{b:List Nat}{k:Int}(E:Ow b) (h:x.ok):aa M Ft (n+12) 16 [.own 0] (SC (x.txt b) k)=.ok (x.val,SC b k):=by
 rw [w16]
 cases x with
 | mark a=>exact az (s':=St [none] b k) rfl (hit (w:=[109,97,114,107,32]) (rest:=a++b) (n+10) (aC (dY (ts:=[.obj 3 [],.obj 12 [.str a]]) (au (t:=.obj 3 []) rfl (au (dY (ts:=[.str a]) (au (cR (ts:=[]) rfl (kj (n+8) h E.l)) rfl) rfl) rfl)) rfl))) rfl
 | bare x=>
  refine az (s':=St [none] b k) rfl (skip (n+10) (ZS x b _) (b8 (eM (s':=St [none] (x.txt b) k) ?_ (aC (dY (ts:=[.obj 3 [],x.val]) (au (t:=.obj 3 []) rfl (au (cR (ts:=[]) rfl (vB (n+1) E h)) rfl)) rfl))))) rfl
  exact ZQ ((any_eq (rest:=x.txt b)).trans (by rw [BH]))
 | full c x=>
  refine az (s':=St [sv c.val] b k) rfl (skip (n+10) (ZT c _ _) (seq1 (s':=St [none] (c.txt (58::32::x.txt b)) k) (bq (s':=St [none] (c.txt (58::32::x.txt b)) k) ?_ rfl) (seq1 (s':=St [sv c.val] (58::32::x.txt b) k) (bg (cR (ts:=[]) rfl (Gv n h.1 (VL _)))) (seq1 (s':=St [sv c.val] (x.txt b) k) (mP (w:=[58,32]) (rest:=x.txt b) (n+9)) (aC (dY (ts:=[c.val,x.val]) (au (t:=c.val) rfl (au (cR (ts:=[]) rfl (vB (n+1) E h.2)) rfl)) rfl)))))) rfl
  exact bX ((any_eq (rest:=c.txt (58::32::x.txt b))).trans (by rw [BI]))
theorem Gx (n:Nat) {row:List Nat}{k:Int}:aa M Ft (n+1) 75 [.own 0,.str row,.int k] [⟨24,[]⟩]=.ok (.non,SC row k):=by
 rw [w75];rfl
def km (x:LN):Prop:=∀ n m,aa M Ft (n+7) 28 [x.cond,x.eV] m=.ok (.bl true,m)
theorem tU (n:Nat) {x:LN}{k:Int}{m:List Ob}(h:x.ok) (hs:km x) (hw:noOwn x.val=true):aa M Ft (n+13) 15 [.str (x.txt []),.int k] m=.ok (x.val,m):=by
 rw [w15]
 refine aq (m':=SC [] k) rfl ?_ hw
 refine az (s':=⟨[sv (.str (x.txt [])),sv (.int k),sv (.own 0),sv x.val],SC [] k⟩) rfl ?_ rfl
 refine seq1 (s':=⟨[sv (.str (x.txt [])),sv (.int k),sv (.own 0),none],SC (x.txt []) k⟩) ?_ (seq1 (s':=⟨[sv (.str (x.txt [])),sv (.int k),sv (.own 0),sv x.val],SC [] k⟩) ?_ (seq1 (s':=⟨[sv (.str (x.txt [])),sv (.int k),sv (.own 0),sv x.val],SC [] k⟩) (bq (s':=⟨[sv (.str (x.txt [])),sv (.int k),sv (.own 0),sv x.val],SC [] k⟩) ?_ rfl) rfl))
 ·refine bg (t:=.own 0) (s':=⟨[sv (.str (x.txt [])),sv (.int k),none,none],SC (x.txt []) k⟩) ?_
  exact ZR (ts:=[.str (x.txt []),.int k]) (s':=⟨[sv (.str (x.txt [])),sv (.int k),none,none],[]⟩) rfl (Gx (n+11))
 ·exact bg (aA (ts:=[.own 0]) (s':=⟨[sv (.str (x.txt [])),sv (.int k),sv (.own 0),none],SC (x.txt []) k⟩) rfl (nC n ZP h))
 ·have e:ai (aa M Ft (n+12) 28) [] (k2 (aI M.P.tab 1 (vF 3)) (aI M.P.tab 2 (vF 3))) ⟨[sv (.str (x.txt [])),sv (.int k),sv (.own 0),sv x.val],SC [] k⟩=.ok (.bl true,⟨[sv (.str (x.txt [])),sv (.int k),sv (.own 0),sv x.val],SC [] k⟩):=aA (ts:=[x.cond,x.eV]) (s':=⟨[sv (.str (x.txt [])),sv (.int k),sv (.own 0),sv x.val],SC [] k⟩) rfl (hs (n+5) _)
  refine yD (s1:=⟨[sv (.str (x.txt [])),sv (.int k),sv (.own 0),sv x.val],SC [] k⟩) rfl (bX ?_)
  unfold D.tB
  rw [e];rfl
theorem eB {g:FG}{b:FS}{t:T}{ts:List T}{s s1:S}{r:List (Option C)}{q:Res (Out × S)}(h:g t s.r=some r) (hb:b ⟨r,s.m⟩=.ok (.nx,s1)) (k:dJ g b ts s1=q):dJ g b (t::ts) s=q:=by
 unfold dJ
 rw [h]
 refine Eq.trans (bH _ _) ?_
 rw [hb]
 exact k
theorem tW {src:FL}{g:FG}{b:FS}{s s1:S}{ts:List T}{q:Res (Out × S)}(h:src s=.ok (ts,s1)) (k:dJ g b ts s1=q):jS src g b s=q:=by unfold jS;rw [h];exact k
theorem BJ {i:Nat}{a:FE}{s s1:S}{NO ts:List T}{t:T}(h0:s.r[i]?=some (some (.ol NO))) (h:a s=.ok (t,s1)) (h2:s1.r[i]?=some (some (.ol ts))) (z:ts.length<1000000):iL i a s=.ok (.nx,ju s1 i (.ol (ts++[t]))):=by
 unfold iL
 rw [h0]
 refine Eq.trans (bH NO _) ?_
 rw [h]
 refine Eq.trans (bH _ _) ?_
 dsimp only
 rw [h2]
 refine Eq.trans (bH ts _) ?_
 rw [gK z]
 rfl
structure Lk (x:LN):Prop where
 ok:x.ok
 ms:km x
 no:noOwn x.val=true
abbrev dZ (xs:List LN):List T:=xs.map fun x=>.str (x.txt [])
abbrev aX (xs:List LN):List T:=xs.map LN.val
theorem qj (n:Nat) {R:Option C}:∀ (xs:List LN) (j:Nat) (done:List T) (u v:Option C),(∀ x∈xs,Lk x)->j+xs.length<=25->done.length<=j->∃ u' v',dJ (dU [2,3]) (ah (aW (D.a_ (bB (aN .Gt) (vF 2) (cI 24))) cz av) (iL 1 (ai (aa M Ft (n+13) 15) [] (k2 (vF 3) (vF 2))))) (fZ (j:Nat) (dZ xs)) ⟨[R,some (.ol done),u,v],[]⟩=.ok (.nx,⟨[R,some (.ol (done++aX xs)),u',v'],[]⟩)
 | [],j,done,u,v,_,_,_=>⟨u,v,by rw [show done++aX []=done from List.append_nil _];rfl⟩
 | x::xs,j,done,u,v,h,hj,hd=>by
  have hx:=h x (List.mem_cons_self ..)
  rw [List.length_cons] at hj
  obtain ⟨u',v',e⟩:=qj n xs (j+1) (done++[x.val]) (sv (.int (j:Nat))) (sv (.str (x.txt []))) (fun y hy=>h y (List.mem_cons_of_mem _ hy)) (by omega) (by rw [List.length_append];show done.length+1<=_;omega)
  refine ⟨u',v',eB (r:=[R,some (.ol done),sv (.int (j:Nat)),sv (.str (x.txt []))]) rfl (seq1 (s':=⟨[R,some (.ol done),sv (.int (j:Nat)),sv (.str (x.txt []))],[]⟩) (bq (s':=⟨[R,some (.ol done),sv (.int (j:Nat)),sv (.str (x.txt []))],[]⟩) ?_ rfl) (BJ (NO:=done) (ts:=done) rfl (aA (ts:=[.str (x.txt []),.int (j:Nat)]) (s':=⟨[R,some (.ol done),sv (.int (j:Nat)),sv (.str (x.txt []))],[]⟩) rfl (tU n hx.ok hx.ms hx.no)) rfl (by omega))) ?_⟩
  ·have g:decide ((24:Int)<(j:Nat))=false:=decide_eq_false (by omega)
   simp only [ev,c7,bH,cN,kZ,g]
  ·have e2:done++aX (x::xs)=done++[x.val]++aX xs:=by simp
   rw [e2]
   exact e
theorem d8:∀ (a:List LN),(∀ x∈a,Lk x)->aO (aX a)=true
 | [],_=>rfl
 | x::a,h=>by
  show (noOwn x.val&&aO (aX a))=true
  rw [(h x (List.mem_cons_self ..)).no,d8 a fun y hy=>h y (List.mem_cons_of_mem _ hy)];rfl
theorem jf:∀ (a:List LN),aO (dZ a)=true
 | []=>rfl
 | x::a=>by
  show (true&&aO (dZ a))=true
  rw [jf a];rfl
theorem qk (n:Nat) {xs:List LN}{m:List Ob}(h:∀ x∈xs,Lk x) (hl:xs.length<=24):aa M Ft (n+14) 32 [.lst (dZ xs)] m=.ok (.lst (aX xs),m):=by
 rw [w32]
 obtain ⟨u,v,e⟩:=qj n (R:=sv (.lst (dZ xs))) xs 1 [] none none h (by omega) (Nat.zero_le _)
 refine aq (m':=[]) ?_ (az (s':=⟨[sv (.lst (dZ xs)),sv (.lst (aX xs)),u,v],[]⟩) rfl (seq1 (s':=⟨[sv (.lst (dZ xs)),some (.ol []),none,none],[]⟩) rfl (seq1 (tW (ts:=fZ 1 (dZ xs)) (s1:=⟨[sv (.lst (dZ xs)),some (.ol []),none,none],[]⟩) rfl e) rfl)) rfl) ?_
 ·show (aO (dZ xs)&&true)=true
  rw [jf];rfl
 ·exact d8 xs h
def LN.name:LN->Option (List Nat)
 | .mark a=>some a
 | _=>none
def LN.jo:LN->Option (List Nat)
 | .bare (.go a)=>some a
 | .full _ (.go a)=>some a
 | _=>none
theorem BK (x:LN):cy M.P.sub [12] x.eV=some (.bl x.name.isSome):=by
 cases x with
 | mark a=>rfl
 | bare d=>cases d<;>rfl
 | full c d=>cases d<;>rfl
theorem ZU (x:LN):cy M.P.sub [21] x.eV=some (.bl x.jo.isSome):=by
 cases x with
 | mark a=>rfl
 | bare d=>cases d<;>rfl
 | full c d=>cases d<;>rfl
def marks (xs:List LN):List (List Nat):=xs.filterMap LN.name
abbrev fM (l:List (List Nat)):List Ky:=l.map Ky.s
abbrev fJ (l:List (List Nat)):List T:=l.map fun _=>T.bl true
theorem tX {a:List Nat}{l:List (List Nat)}:(Ky.s a∈fM l) ↔ a∈l:=by
 constructor
 ·intro h
  obtain ⟨b,h1,h2⟩:=List.mem_map.mp h
  cases h2
  exact h1
 ·exact fun h=>List.mem_map.mpr ⟨a,h,rfl⟩
theorem ifY {c:FT}{A B:FS}{s s':S}{q:Res (Out × S)}(h:c s=.ok (true,s')) (k:A s'=q):aW c A B s=q:=eM h k
theorem aR {g:T->Option T}{a:FE}{s:S}{t:T}{b:Bool}(h:a s=.ok (t,s)) (k:g t=some (.bl b)):D.tB (bD g a) s=.ok (b,s):=by
 unfold D.tB bD
 rw [h]
 refine Eq.trans (congrArg (fun z=>Res.bind z _) (bH _ _)) ?_
 dsimp only
 rw [k]
 rfl
theorem ko {R:Option C}:∀ (xs:List LN) (j:Nat) (done:List (List Nat)) (u v:Option C),(done++marks xs).Nodup->done.length+xs.length<=100->∃ u' v',dJ (dU [2,3]) (aW (D.tB (bD (cy M.P.sub [12]) (aI M.P.tab 2 (vF 3)))) (ah (aW (D.a_ (Nf .In false 1 (aI M.P.tab 9 (aI M.P.tab 2 (vF 3))))) cz av) (u_ 1 (aI M.P.tab 9 (aI M.P.tab 2 (vF 3))) (cF (.bl true)))) av) (fZ (j:Nat) (aX xs)) ⟨[R,some (.od (fM done) (fJ done)),u,v],[]⟩=.ok (.nx,⟨[R,some (.od (fM (done++marks xs)) (fJ (done++marks xs))),u',v'],[]⟩)
 | [],j,done,u,v,_,_=>⟨u,v,by rw [show done++marks []=done from List.append_nil _];rfl⟩
 | x::xs,j,done,u,v,hn,hl=>by
  rw [List.length_cons] at hl
  cases hx:x.name with
  | none=>
   have em:marks (x::xs)=marks xs:=by unfold marks;rw [List.filterMap_cons,hx]
   rw [em] at hn ⊢
   obtain ⟨u',v',e⟩:=ko xs (j+1) done (sv (.int (j:Nat))) (sv x.val) hn (by omega)
   refine ⟨u',v',eB (r:=[R,some (.od (fM done) (fJ done)),sv (.int (j:Nat)),sv x.val]) rfl (bq (s':=⟨[R,some (.od (fM done) (fJ done)),sv (.int (j:Nat)),sv x.val],[]⟩) (aR (t:=x.eV) rfl (by rw [BK,hx];rfl)) rfl) e⟩
  | some a=>
   have ex:x=.mark a:=by
    cases x with
    | mark b=>cases hx;rfl
    | bare d=>cases hx
    | full c d=>cases hx
   subst ex
   have em:marks (.mark a::xs)=a::marks xs:=rfl
   rw [em] at hn ⊢
   have Vl:a ∉ done:=fun z=>(List.nodup_append.mp hn).2.2 a z a (List.mem_cons_self ..) rfl
   have eq:done++a::marks xs=(done++[a])++marks xs:=by simp
   rw [eq] at hn ⊢
   obtain ⟨u',v',e⟩:=ko xs (j+1) (done++[a]) (sv (.int (j:Nat))) (sv (LN.mark a).val) hn (by rw [List.length_append];show done.length+1+xs.length<=100;omega)
   refine ⟨u',v',eB (r:=[R,some (.od (fM done) (fJ done)),sv (.int (j:Nat)),sv (LN.mark a).val]) rfl (ifY (s':=⟨[R,some (.od (fM done) (fJ done)),sv (.int (j:Nat)),sv (LN.mark a).val],[]⟩) (aR (t:=(LN.mark a).eV) rfl (by rw [BK,hx];rfl)) (seq1 (s':=⟨[R,some (.od (fM done) (fJ done)),sv (.int (j:Nat)),sv (LN.mark a).val],[]⟩) (bq (s':=⟨[R,some (.od (fM done) (fJ done)),sv (.int (j:Nat)),sv (LN.mark a).val],[]⟩) ?_ rfl) ?_)) e⟩
   ·show Res.ok (decide (Ky.s a∈fM done),_)=_
    rw [decide_eq_false (fun z=>Vl (tX.mp z))]
   ·have hk:il (fM done) (fJ done) (.s a) (.bl true)=(fM (done++[a]),fJ (done++[a])):=by
     unfold il
     rw [if_neg (fun z=>Vl (tX.mp z))]
     simp [fM,fJ]
    show Res.bind (dh (gd ((fM done).length<1000000) ())) _=_
    rw [gK (by rw [List.length_map];omega)]
    show Res.ok (Out.nx,ju _ 1 (.od (il (fM done) (fJ done) (.s a) (.bl true)).1 (il (fM done) (fJ done) (.s a) (.bl true)).2))=_
    rw [hk]
    rfl
theorem ql (n:Nat) {xs:List LN}{m:List Ob}(hv:∀ x∈xs,Lk x) (h:(marks xs).Nodup) (hl:xs.length<=24):aa M Ft (n+1) 33 [.lst (aX xs)] m=.ok (.dz (fM (marks xs)) (fJ (marks xs)),m):=by
 rw [w33]
 obtain ⟨u,v,e⟩:=ko (R:=sv (.lst (aX xs))) xs 1 [] none none h (by show 0+_<=_;omega)
 refine aq (m':=[]) ?_ (az (s':=⟨[sv (.lst (aX xs)),sv (.dz (fM (marks xs)) (fJ (marks xs))),u,v],[]⟩) rfl (seq1 (s':=⟨[sv (.lst (aX xs)),some (.od [] []),none,none],[]⟩) rfl (seq1 (tW (ts:=fZ 1 (aX xs)) (s1:=⟨[sv (.lst (aX xs)),some (.od [] []),none,none],[]⟩) rfl e) rfl)) rfl) ?_
 ·show (aO (aX xs)&&true)=true
  rw [d8 xs hv];rfl
 ·have:∀ l:List (List Nat),aO (fJ l)=true:=fun l=>by
   induction l with
   | nil=>rfl
   | cons a l ih=>show (true&&aO (fJ l))=true;rw [ih];rfl
  exact this _
theorem yn {x:LN}{a:List Nat}(h:x.jo=some a):x.eV=.obj 21 [.str a]:=by
 cases x with
 | mark b=>cases h
 | bare d=>cases d<;>first | (cases h;done) | (cases h;rfl)
 | full c d=>cases d<;>first | (cases h;done) | (cases h;rfl)
theorem lP {R:Option C}{ms:List (List Nat)}:∀ (xs:List LN) (j:Nat) (u v:Option C),(∀ x∈xs,∀ a,x.jo=some a->a∈ms)->∃ u' v',dJ (dU [2,3]) (aW (ee (D.tB (bD (cy M.P.sub [21]) (aI M.P.tab 2 (vF 3)))) (D.a_ (bB (aN .NotIn) (aI M.P.tab 9 (aI M.P.tab 2 (vF 3))) (vF 1)))) cz av) (fZ (j:Nat) (aX xs)) ⟨[R,sv (.dz (fM ms) (fJ ms)),u,v],[]⟩=.ok (.nx,⟨[R,sv (.dz (fM ms) (fJ ms)),u',v'],[]⟩)
 | [],j,u,v,_=>⟨u,v,rfl⟩
 | x::xs,j,u,v,h=>by
  obtain ⟨u',v',e⟩:=lP (R:=R) xs (j+1) (sv (.int (j:Nat))) (sv x.val) fun y hy=>h y (List.mem_cons_of_mem _ hy)
  refine ⟨u',v',eB (r:=[R,sv (.dz (fM ms) (fJ ms)),sv (.int (j:Nat)),sv x.val]) rfl (bq (s':=⟨[R,sv (.dz (fM ms) (fJ ms)),sv (.int (j:Nat)),sv x.val],[]⟩) ?_ rfl) e⟩
  unfold ee
  rw [aR (s:=⟨[R,sv (.dz (fM ms) (fJ ms)),sv (.int (j:Nat)),sv x.val],[]⟩) (t:=x.eV) (b:=x.jo.isSome) rfl (ZU x)]
  refine Eq.trans (bH _ _) ?_
  cases hg:x.jo with
  | none=>rfl
  | some a=>
   have ha:=h x (List.mem_cons_self ..) a hg
   have hd:=yn hg
   show Res.bind (bB (aN .NotIn) (aI M.P.tab 9 (aI M.P.tab 2 (vF 3))) (vF 1) ⟨[R,sv (.dz (fM ms) (fJ ms)),sv (.int (j:Nat)),sv (.obj 1 [x.cond,x.eV])],[]⟩) _=_
   rw [hd]
   show Res.ok (!decide (Ky.s a∈fM ms),_)=_
   rw [decide_eq_true (tX.mpr ha)]
   show Res.ok (false,(⟨[R,sv (.dz (fM ms) (fJ ms)),sv (.int (j:Nat)),sv (.obj 1 [x.cond,.obj 21 [.str a]])],[]⟩:S))=Res.ok (false,⟨[R,sv (.dz (fM ms) (fJ ms)),sv (.int (j:Nat)),sv (.obj 1 [x.cond,x.eV])],[]⟩)
   rw [hd]
theorem refuse_eq (n:Nat) {xs:List LN}{ms:List (List Nat)}{m:List Ob}(hv:∀ x∈xs,Lk x) (h:∀ x∈xs,∀ a,x.jo=some a->a∈ms):aa M Ft (n+1) 34 [.lst (aX xs),.dz (fM ms) (fJ ms)] m=.ok (.non,m):=by
 rw [w34]
 obtain ⟨u,v,e⟩:=lP (R:=sv (.lst (aX xs))) xs 1 none none h
 refine aq (m':=[]) ?_ (VH (s':=⟨[sv (.lst (aX xs)),sv (.dz (fM ms) (fJ ms)),u,v],[]⟩) rfl (tW (ts:=fZ 1 (aX xs)) (s1:=⟨[sv (.lst (aX xs)),sv (.dz (fM ms) (fJ ms)),none,none],[]⟩) rfl e) rfl) rfl
 have:∀ l:List (List Nat),aO (fJ l)=true:=fun l=>by
  induction l with
  | nil=>rfl
  | cons a l ih=>show (true&&aO (fJ l))=true;rw [ih];rfl
 show (aO (aX xs)&&(aO (fJ ms)&&true))=true
 rw [d8 xs hv,this];rfl
theorem fD {c:Nat}:∀ {p q:List Nat},c ∉ p->bh c (p++c::q)=p::bh c q
 | [],q,_=>by show bh c (c::q)=_;rw [bh,if_pos rfl]
 | d::p,q,h=>by
  have hd:d≠c:=fun e=>h (by rw [e];exact List.mem_cons_self ..)
  show bh c (d::(p++c::q))=_
  rw [bh,if_neg hd,fD (fun z=>h (List.mem_cons_of_mem _ z))]
theorem kq {c:Nat}:∀ {ls:List (List Nat)},ls≠[]->(∀ l∈ls,c ∉ l)->bh c (bf [c] ls)=ls
 | [],h,_=>absurd rfl h
 | [a],_,h=>gD (h a (List.mem_cons_self ..))
 | a::b::r,_,h=>by
  show bh c (a++[c]++bf [c] (b::r))=_
  rw [List.append_assoc]
  show bh c (a++c::bf [c] (b::r))=_
  rw [fD (h a (List.mem_cons_self ..)),kq (by simp) fun l hl=>h l (List.mem_cons_of_mem _ hl)]
theorem jg {c:Nat}:∀ {ls:List (List Nat)},ls≠[]->(∀ l∈ls,c ∉ l)->bh c (bf [c] ls++[c])=ls++[[]]
 | [],h,_=>absurd rfl h
 | [a],_,h=>by
  show bh c (a++c::[])=_
  rw [fD (h a (List.mem_cons_self ..))];rfl
 | a::b::r,_,h=>by
  show bh c (a++[c]++bf [c] (b::r)++[c])=_
  rw [List.append_assoc,List.append_assoc]
  show bh c (a++c::(bf [c] (b::r)++[c]))=_
  rw [fD (h a (List.mem_cons_self ..)),jg (by simp) fun l hl=>h l (List.mem_cons_of_mem _ hl)]
  rfl
theorem vC {α:Type}(xs:List α) (x:α):atT (xs++[x]) (-1)=some x:=by
 unfold atT
 rw [if_neg (by decide),if_pos (by rw [List.length_append,List.length_singleton];omega)]
 have:(-1+((xs++[x]).length:Int)).toNat=xs.length:=by rw [List.length_append,List.length_singleton];omega
 rw [this]
 simp
theorem qm {α:Type}(xs:List α) (x:α):bZ (xs++[x]) none (some (-1))=xs:=by
 unfold bZ eK
 dsimp only
 rw [if_pos (by decide)]
 have:(-1+((xs++[x]).length:Int)).toNat=xs.length:=by rw [List.length_append,List.length_singleton];omega
 rw [this]
 simp
theorem BL:kX (.int 1)=some (.int (-1)):=rfl
theorem gb:∀ (l:List (List Nat)),aO (l.map T.str)=true
 | []=>rfl
 | x::a=>by
  show (true&&aO (a.map T.str))=true
  rw [gb a];rfl
theorem BN (a b:T):aL [a,b]=some (.tup [a,b]):=gK (by show 2<=1000;decide)
theorem tY (a b c:T):aL [a,b,c]=some (.tup [a,b,c]):=gK (by show 3<=1000;decide)
theorem Gy (n:Nat) {ls:List (List Nat)}{last:List Nat}{m:List Ob}(h:∀ l∈ls++[last],10 ∉ l) (h0:last≠[]) (hz:(bf [10] (ls++[last])).length<=100000):aa M Ft (n+1) 30 [.str (bf [10] (ls++[last]))] m=.ok (.tup [.lst ((ls++[last]).map T.str),.bl false],m):=by
 rw [w30]
 refine aq (m':=[]) rfl (az (s':=⟨[sv (.str (bf [10] (ls++[last]))),sv (.lst ((ls++[last]).map T.str))],[]⟩) rfl (seq1 (s':=⟨[sv (.str (bf [10] (ls++[last]))),sv (.lst ((ls++[last]).map T.str))],[]⟩) ?_ (seq1 (s':=⟨[sv (.str (bf [10] (ls++[last]))),sv (.lst ((ls++[last]).map T.str))],[]⟩) (bq (s':=⟨[sv (.str (bf [10] (ls++[last]))),sv (.lst ((ls++[last]).map T.str))],[]⟩) ?_ rfl) (aC (bI (ts:=[.lst ((ls++[last]).map T.str),.bl false]) rfl (BN _ _))))) rfl) ?_
 ·have e:splitM (bf [10] (ls++[last])) [.str [10]]=some (.lst ((ls++[last]).map T.str)):=by
   show gd _ _=_
   rw [gK hz,kq (by simp) h]
  show aE 1 (jd splitM (vF 0) (k1 (cS [10]))) ⟨[sv (.str (bf [10] (ls++[last]))),none],[]⟩=_
  simp only [ev,c7,bH,cN,e]
 ·have e:f9 (.lst ((ls++[last]).map T.str)) (.int (-1))=some (.str last):=by
   show atT _ (-1)=_
   rw [List.map_append];exact vC _ _
  simp only [ev,c7,bH,cN,BL,e,iU]
  rw [decide_eq_false h0]
 ·show (aO ((ls++[last]).map T.str)&&(true&&true))=true
  rw [gb];rfl
theorem Gz (n:Nat) {ls:List (List Nat)}{m:List Ob}(h:∀ l∈ls,10 ∉ l) (h0:ls≠[]) (hz:(bf [10] ls++[10]).length<=100000):aa M Ft (n+1) 30 [.str (bf [10] ls++[10])] m=.ok (.tup [.lst (ls.map T.str),.bl true],m):=by
 rw [w30]
 refine aq (m':=[]) rfl (az (s':=⟨[sv (.str (bf [10] ls++[10])),sv (.lst ((ls++[[]]).map T.str))],[]⟩) rfl (seq1 (s':=⟨[sv (.str (bf [10] ls++[10])),sv (.lst ((ls++[[]]).map T.str))],[]⟩) ?_ (b8 (eM (s':=⟨[sv (.str (bf [10] ls++[10])),sv (.lst ((ls++[[]]).map T.str))],[]⟩) ?_ (aC (bI (ts:=[.lst (ls.map T.str),.bl true]) ?_ (BN _ _)))))) rfl) ?_
 ·have e:splitM (bf [10] ls++[10]) [.str [10]]=some (.lst ((ls++[[]]).map T.str)):=by
   show gd _ _=_
   rw [gK hz,jg h0 h]
  show aE 1 (jd splitM (vF 0) (k1 (cS [10]))) ⟨[sv (.str (bf [10] ls++[10])),none],[]⟩=_
  simp only [ev,c7,bH,cN,e]
 ·have e:f9 (.lst ((ls++[[]]).map T.str)) (.int (-1))=some (.str []):=by
   show atT _ (-1)=_
   rw [List.map_append];exact vC _ _
  simp only [ev,c7,bH,cN,BL,e,iU,decide_true]
 ·have e:bZ ((ls++[[]]).map T.str) none (some (-1))=ls.map T.str:=by
   rw [List.map_append];exact qm _ _
  simp only [ev,c7,bH,cN,BL,z9,e]
 ·show (aO (ls.map T.str)&&(true&&true))=true
  rw [gb];rfl
theorem aD {g:T->T->Option T}{a b:FE}{s s1 s2:S}{t u v:T}(h:a s=.ok (t,s1)) (h2:b s1=.ok (u,s2)) (k:g t u=some v):bB g a b s=.ok (v,s2):=by
 unfold bB
 rw [h]
 refine Eq.trans (bH _ _) ?_
 dsimp only
 rw [h2]
 refine Eq.trans (bH _ _) ?_
 dsimp only
 rw [k]
 rfl
theorem vD (n:Nat) {xs:List LN}{text:List Nat}{b:Bool}{m:List Ob}(hv:∀ x∈xs,Lk x) (hl:xs.length<=24) (hn:(marks xs).Nodup) (hg:∀ x∈xs,∀ a,x.jo=some a->a∈marks xs) (hc:∀ m,aa M Ft (n+14) 30 [.str text] m=.ok (.tup [.lst (dZ xs),.bl b],m)):aa M Ft (n+15) 31 [.str text] m=.ok (.obj 0 [.lst (aX xs)],m):=by
 rw [w31]
 refine aq (m':=[]) rfl (az (s':=⟨[sv (.str text),sv (.lst (aX xs)),sv (.dz (fM (marks xs)) (fJ (marks xs)))],[]⟩) rfl (seq1 (s':=⟨[sv (.str text),sv (.lst (aX xs)),none],[]⟩) ?_ (seq1 (s':=⟨[sv (.str text),sv (.lst (aX xs)),sv (.dz (fM (marks xs)) (fJ (marks xs)))],[]⟩) ?_ (seq1 (s':=⟨[sv (.str text),sv (.lst (aX xs)),sv (.dz (fM (marks xs)) (fJ (marks xs)))],[]⟩) ?_ rfl))) rfl) ?_
 ·refine Eq.trans (bg (t:=.lst (aX xs)) (s':=⟨[sv (.str text),none,none],[]⟩) (aA (ts:=[.lst (dZ xs)]) (s':=⟨[sv (.str text),none,none],[]⟩) (au (t:=.lst (dZ xs)) (s1:=⟨[sv (.str text),none,none],[]⟩) ?_ rfl) (qk n hv hl))) rfl
  have e:ai (aa M Ft (n+14) 30) [] (k1 (vF 0)) ⟨[sv (.str text),none,none],[]⟩=.ok (.tup [.lst (dZ xs),.bl b],⟨[sv (.str text),none,none],[]⟩):=aA (ts:=[.str text]) (s':=⟨[sv (.str text),none,none],[]⟩) rfl (hc _)
  exact aD e rfl rfl
 ·exact bg (aA (ts:=[.lst (aX xs)]) (s':=⟨[sv (.str text),sv (.lst (aX xs)),none],[]⟩) rfl (ql (n+13) hv hn hl))
 ·have e:ai (aa M Ft (n+14) 34) [] (k2 (vF 1) (vF 2)) ⟨[sv (.str text),sv (.lst (aX xs)),sv (.dz (fM (marks xs)) (fJ (marks xs)))],[]⟩=.ok (.non,⟨[sv (.str text),sv (.lst (aX xs)),sv (.dz (fM (marks xs)) (fJ (marks xs)))],[]⟩):=aA (ts:=[.lst (aX xs),.dz (fM (marks xs)) (fJ (marks xs))]) (s':=⟨[sv (.str text),sv (.lst (aX xs)),sv (.dz (fM (marks xs)) (fJ (marks xs)))],[]⟩) rfl (refuse_eq (n+13) hv hg)
  unfold cQ
  rw [e]
  rfl
 ·show (aO (aX xs)&&true)=true
  rw [d8 xs hv];rfl
def NP:List Nat:=[94,36,46,91,93,42,43,63,47]
def yE (c:Nat):Bool:=decide (c∈fq)&&!decide (c∈NP)
theorem VM (c:Nat) (l:List Nat):aN .NotIn (.str [c]) (.str l)=some (.bl (!decide (c∈l))):=rfl
theorem qo {a b:FE}{s s1:S}{x y:Bool}(h:a s=.ok (.bl x,s1)) (h2:x=true->b s1=.ok (.bl y,s1)):dq a b s=.ok (.bl (x&&y),s1):=by
 unfold dq
 rw [h]
 refine Eq.trans (bH _ _) ?_
 cases x with
 | true=>exact h2 rfl
 | false=>rfl
theorem tZ (n:Nat) {c:Nat}{m:List Ob}:aa M Ft (n+1) 2 [.str [c]] m=.ok (.bl (yE c),m):=by
 rw [w2]
 refine aq (m':=[]) rfl (az (s':=⟨[sv (.str [c])],[]⟩) rfl (aC (qo (x:=decide (c∈fq)) (y:=!decide (c∈NP)) ?_ fun _=>?_)) rfl) rfl
 ·exact aD rfl rfl (BA c fq)
 ·exact aD rfl rfl (VM c NP)
theorem t_ (a b:Int):aN .Eq (.int a) (.int b)=some (.bl (decide (a=b))):=rfl
theorem ZV (a b:Int):aN .NotEq (.int a) (.int b)=some (.bl (!decide (a=b))):=rfl
def vE (sg:List Nat) (ot:Bool):Prop:=ot=true\/∀ c,sg=[c]->yE c=false
theorem BO (n:Nat) {sg:List Nat}{ot:Bool}{m:List Ob}(h:vE sg ot):aa M Ft (n+2) 9 [.str sg,.bl ot] m=.ok (.bl false,m):=by
 rw [w9]
 refine aq (m':=[]) rfl (az (s':=⟨[sv (.str sg),sv (.bl ot)],[]⟩) (t:=.bl false) rfl (aC ?_) rfl) rfl
 have e:=qo (a:=pH (vF 1)) (b:=dq (oE (aM br (k1 (vF 0))) (cI 1)) (ai (aa M Ft (n+1) 2) [] (k1 (vF 0)))) (s:=⟨[sv (.str sg),sv (.bl ot)],[]⟩) (s1:=⟨[sv (.str sg),sv (.bl ot)],[]⟩) (x:=!ot) (y:=false) rfl fun ho=>?_
 ·rw [Bool.and_false] at e
  exact e
 ·have e2:=qo (a:=oE (aM br (k1 (vF 0))) (cI 1)) (b:=ai (aa M Ft (n+1) 2) [] (k1 (vF 0))) (s:=⟨[sv (.str sg),sv (.bl ot)],[]⟩) (s1:=⟨[sv (.str sg),sv (.bl ot)],[]⟩) (x:=decide ((sg.length:Int)=1)) (y:=false) rfl fun hx=>?_
  ·rw [Bool.and_false] at e2
   exact e2
  ·have hl:sg.length=1:=by have:=of_decide_eq_true hx;omega
   obtain ⟨c,rfl⟩:=List.length_eq_one_iff.mp hl
   have hp:yE c=false:=by
    rcases h with h | h
    ·rw [h] at ho;cases ho
    ·exact h c rfl
   have:=aA (ds:=[]) (ts:=[.str [c]]) (s':=⟨[sv (.str [c]),sv (.bl ot)],[]⟩) (fl:=k1 (vF 0)) (s:=⟨[sv (.str [c]),sv (.bl ot)],[]⟩) rfl (tZ n (c:=c) (m:=[]))
   rw [hp] at this
   exact this
theorem qp:∀ (l acc:List Nat),(∀ c∈l,c ∉ acc)->l.Nodup->(Pf.fF acc l).length=acc.length+l.length
 | [],acc,_,_=>rfl
 | c::l,acc,h,hn=>by
  rw [Pf.fF,if_neg (h c (List.mem_cons_self ..)),qp l (c::acc) (fun d hd z=>?_) (List.nodup_cons.mp hn).2]
  ·rw [List.length_cons,List.length_cons];omega
  ·rcases List.mem_cons.mp z with rfl | z
   ·exact (List.nodup_cons.mp hn).1 hd
   ·exact h d (List.mem_cons_of_mem _ hd) z
structure Sg (sg:List Nat):Prop where
 ne:sg≠[]
 nT:sg.length<=12
 nd:sg.Nodup
 mem:∀ c∈sg,c∈fq/\c≠93/\c≠94/\c≠47/\c<128
def NQ:T->T:=fun _=>.bl false
theorem qq:∀ (l:List T),boolsOf (l.map NQ)=some (l.map fun _=>false)
 | []=>rfl
 | _::l=>by
  show (boolsOf (l.map NQ)).map _=_
  rw [qq l];rfl
abbrev s8 (ins:List Nat) (mn:Nat) (ot:Bool) (sg:List Nat):S:=⟨[sv (.str ins),sv (.str [mn]),sv (.bl ot),sv (.str sg)],[]⟩
theorem qr (n:Nat) {sg ins:List Nat}{ot:Bool}{mn:Nat}{m:List Ob}(g:Sg sg) (hs:vE sg ot) (hi:ins=if ot then 94::sg else sg):aa M Ft (n+3) 8 [.str ins,.str [mn]] m=.ok (.tup [.str sg,.bl ot,.str [mn]],m):=by
 have hp:pre [94] ins=ot:=by
  subst hi
  cases ot with
  | true=>exact pre_app [94] sg
  | false=>
   cases sg with
   | nil=>exact absurd rfl g.ne
   | cons c l=>exact aj (Ne.symm (g.mem c (List.mem_cons_self ..)).2.2.1)
 have hc:ot=true->bZ ins (some 1) none=sg:=fun ho=>by
  subst hi
  rw [ho]
  exact f_ [94] sg
 rw [w8]
 refine aq (m':=[]) rfl (az (s':=s8 ins mn ot sg) rfl (seq1 (s':=⟨[sv (.str ins),sv (.str [mn]),sv (.bl ot),none],[]⟩) ?_ (seq1 (s':=s8 ins mn ot sg) ?_ (seq1 (s':=s8 ins mn ot sg) (bq (s':=s8 ins mn ot sg) ?_ rfl) (seq1 (s':=s8 ins mn ot sg) (bq (s':=s8 ins mn ot sg) ?_ rfl) (seq1 (s':=s8 ins mn ot sg) (bq (s':=s8 ins mn ot sg) ?_ rfl) (seq1 (s':=s8 ins mn ot sg) (bq (s':=s8 ins mn ot sg) ?_ rfl) (aC (bI (ts:=[.str sg,.bl ot,.str [mn]]) rfl (tY _ _ _))))))))) rfl) rfl
 ·show aE 2 (jd nU (vF 0) (k1 (cS [94]))) ⟨[sv (.str ins),sv (.str [mn]),none,none],[]⟩=_
  simp only [ev,c7,bH,cN,nU,hp]
 ·cases ot with
  | true=>
   show Res.ok (Out.nx,ju _ 3 (.val (.str (bZ ins (some 1) none))))=_
   rw [hc rfl];rfl
  | false=>
   rw [if_neg Bool.false_ne_true] at hi
   subst hi
   rfl
 ·have g1:decide (sg=[])=false:=decide_eq_false g.ne
  have g2:decide ((12:Int)<(sg.length:Nat))=false:=decide_eq_false (by have:=g.nT;omega)
  simp only [eS,ev,c7,bH,cN,iU,g1,br,fK,kZ,g2,Bool.false_eq_true,if_false]
 ·have e:aM mT (k1 (dc (bN (lF (vF 3)) 2 [] (setG 1) dE (bB (aN .In) (vF 1) (cS [93,94,47]))))) (s8 ins mn ot sg)=.ok (.bl false,s8 ins mn ot sg):=by
   refine bI (ts:=[.lst ((sg.map fun c=>T.str [c]).map NQ)]) (au (fH (fG (ts:=sg.map fun c=>T.str [c]) (s1:=s8 ins mn ot sg) rfl (by rw [List.length_map];have:=g.nT;omega) (fm fun t ht=>?_))) rfl) ?_
   ·obtain ⟨c,Oe,rfl⟩:=List.mem_map.mp ht
    obtain ⟨_,h1,h2,h3,_⟩:=g.mem c Oe
    refine ⟨[none,sv (.str [c])],[none,sv (.str [c])],rfl,?_⟩
    have:decide (c∈[93,94,47])=false:=decide_eq_false (by simp [h1,h2,h3])
    exact aD rfl rfl ((BA c [93,94,47]).trans (by rw [this];rfl))
   ·simp only [mT,Fd,qq]
    rw [Option.map_some,List.any_map]
    congr 2
    simp
  unfold D.tB
  rw [e];rfl
 ·have e1:m_ (.str sg)=some (.int (sg.length:Nat)):=by
   show gd _ _=_
   rw [gK ⟨List.all_eq_true.mpr fun c Oe=>decide_eq_true (g.mem c Oe).2.2.2.2,by have:=g.nT;omega⟩]
   show some (T.int ((Pf.fF [] sg).length:Nat))=_
   rw [qp sg [] (fun _ _ z=>by cases z) g.nd]
   simp
  simp only [ev,c7,bH,cN,e1,br,fK,ZV,decide_true,Bool.not_true]
 ·have e:ai (aa M Ft (n+2) 9) [] (k2 (vF 3) (vF 2)) (s8 ins mn ot sg)=.ok (.bl false,s8 ins mn ot sg):=aA (ts:=[.str sg,.bl ot]) (s':=s8 ins mn ot sg) rfl (BO n hs)
  unfold D.tB
  rw [e];rfl
inductive IT where
 | any | neg (sg:List Nat) | set (sg:List Nat) | pl (c:Nat)
structure Itm where
 k:IT
 mn:Nat
def IT.core:IT->List Nat
 | .any=>[46]
 | .neg sg=>91::(94::sg++[93])
 | .set sg=>91::(sg++[93])
 | .pl c=>[c]
def IT.sg:IT->List Nat
 | .any=>[]
 | .neg sg=>sg
 | .set sg=>sg
 | .pl c=>[c]
def IT.ot:IT->Bool
 | .any=>true
 | .neg _=>true
 | _=>false
def IT.ok:IT->Prop
 | .any=>True
 | .neg sg=>Sg sg
 | .set sg=>Sg sg/\vE sg false
 | .pl c=>yE c=true
def eW (mn:Nat):List Nat:=if mn=49 then [] else [mn]
noncomputable def Itm.txt (i:Itm):List Nat:=i.k.core++eW i.mn
noncomputable def Itm.val (i:Itm):T:=.tup [.str i.k.sg,.bl i.k.ot,.str [i.mn]]
structure Itm.ok (i:Itm):Prop where
 k:i.k.ok
 m:i.mn=49\/i.mn=42\/i.mn=43\/i.mn=63
theorem NR (a b:Nat) (l:List Nat):bZ (a::(l++[b])) (some 1) (some (-1))=l:=by
 have h1:eK (a::(l++[b])).length 0 (some 1)=1:=by
  unfold eK
  dsimp only
  rw [if_neg (by decide)]
  simp
 have h2:eK (a::(l++[b])).length (a::(l++[b])).length (some (-1))=l.length+1:=by
  unfold eK
  dsimp only
  rw [if_pos (by decide)]
  simp;omega
 unfold bZ
 rw [h1,h2]
 simp
theorem iW {c:Nat}(h:yE c=true):c∈fq/\c ∉ NP:=by
 unfold yE at h
 rw [Bool.and_eq_true] at h
 refine ⟨of_decide_eq_true h.1,fun z=>?_⟩
 rw [decide_eq_true z] at h
 cases h.2
abbrev s7 (c:List Nat) (mn:Nat):S:=⟨[sv (.str c),sv (.str [mn])],[]⟩
theorem qt (n:Nat) {sg ins:List Nat}{ot:Bool}{mn:Nat}{m:List Ob}(g:Sg sg) (hs:vE sg ot) (hi:ins=if ot then 94::sg else sg):aa M Ft (n+4) 7 [.str (91::(ins++[93])),.str [mn]] m=.ok (.tup [.str sg,.bl ot,.str [mn]],m):=by
 rw [w7]
 refine aq (m':=[]) rfl (az (s':=s7 (91::(ins++[93])) mn) rfl (seq1 (s':=s7 (91::(ins++[93])) mn) (bq (s':=s7 (91::(ins++[93])) mn) ?_ rfl) (b8 (eM (s':=s7 (91::(ins++[93])) mn) ?_ (aC (aA (ts:=[.str ins,.str [mn]]) (s':=s7 (91::(ins++[93])) mn) ?_ (qr n g hs hi)))))) rfl) rfl
 ·have e:decide (91::(ins++[93])=[46])=false:=decide_eq_false (fun z=>by injection z with z _;cases z)
  show D.a_ _ (s7 (91::(ins++[93])) mn)=_
  simp only [ev,c7,bH,cN,iU,e]
 ·have e:pre [91] (91::(ins++[93]))=true:=pre_app [91] (ins++[93])
  simp only [ev,c7,bH,cN,nU,e]
 ·simp only [ev,c7,bH,cN,BL,z9,NR]
theorem ua (n:Nat) {i:Itm}{m:List Ob}(h:i.ok):aa M Ft (n+4) 7 [.str i.k.core,.str [i.mn]] m=.ok (i.val,m):=by
 obtain ⟨k,mn⟩:=i
 obtain ⟨hk,hm⟩:=h
 cases k with
 | any=>
  rw [w7]
  exact aq (m':=[]) rfl (az (s':=s7 [46] mn) rfl (b8 (eM (s':=s7 [46] mn) rfl (aC (bI (ts:=[.str [],.bl true,.str [mn]]) rfl (tY _ _ _))))) rfl) rfl
 | neg sg=>exact qt n hk (.inl rfl) rfl
 | set sg=>exact qt n hk.1 hk.2 rfl
 | pl c=>
  obtain ⟨h1,h2⟩:=iW hk
  rw [w7]
  refine aq (m':=[]) rfl (az (s':=s7 [c] mn) rfl (seq1 (s':=s7 [c] mn) (bq (s':=s7 [c] mn) ?_ rfl) (seq1 (s':=s7 [c] mn) (bq (s':=s7 [c] mn) ?_ rfl) (seq1 (s':=s7 [c] mn) (bq (s':=s7 [c] mn) ?_ rfl) (aC (bI (ts:=[.str [c],.bl false,.str [mn]]) rfl (tY _ _ _)))))) rfl) rfl
  ·have e:decide ([c]=[46])=false:=decide_eq_false (fun z=>h2 (by injection z with z _;rw [z];decide))
   show D.a_ _ (s7 [c] mn)=_
   simp only [ev,c7,bH,cN,iU,e]
  ·have e:pre [91] [c]=false:=aj (fun z=>h2 (by rw [<- z];decide))
   simp only [ev,c7,bH,cN,nU,e]
  ·have e:=aA (ds:=[]) (ts:=[.str [c]]) (s':=s7 [c] mn) (fl:=k1 (vF 0)) (s:=s7 [c] mn) rfl (tZ (n+2) (c:=c) (m:=[]))
   rw [hk] at e
   refine bX ?_
   unfold D.tB
   rw [e];rfl
abbrev s5 (b:List Nat) (p:Nat):S:=⟨[sv (.str b),sv (.int (p:Nat)),none],[]⟩
theorem qu {D R:List Nat}{c:Nat}:f9 (.str (D++c::R)) (.int (D.length:Nat))=some (.str [c]):=by
 show (atT (D++c::R) (D.length:Int)).map _=_
 rw [kg (by simp)]
 simp
theorem VN (a b:List Nat):aN .NotEq (.str a) (.str b)=some (.bl (!decide (a=b))):=rfl
theorem VO (p:Nat):cO .Add (.int (p:Nat)) (.int 1)=some (.int ((p+1:Nat):Int)):=rfl
theorem kr (n:Nat) {D R:List Nat}{c:Nat}{m:List Ob}(h:c≠91):aa M Ft (n+1) 5 [.str (D++c::R),.int (D.length:Nat)] m=.ok (.int ((D.length+1:Nat):Int),m):=by
 rw [w5]
 refine aq (m':=[]) rfl (az (s':=s5 (D++c::R) D.length) rfl (b8 (eM (s':=s5 (D++c::R) D.length) ?_ (aC (aD rfl rfl (VO D.length))))) rfl) rfl
 have e:decide ([c]=[91])=false:=decide_eq_false (fun z=>h (by injection z))
 show _root_.D.a_ _ (s5 (D++c::R) D.length)=_
 simp only [ev,c7,bH,cN,qu,VN,e,Bool.not_false]
theorem ku (n:Nat) {D R ins:List Nat}{m:List Ob}(h:93 ∉ ins):aa M Ft (n+1) 5 [.str (D++91::(ins++93::R)),.int (D.length:Nat)] m=.ok (.int ((D.length+(ins.length+2):Nat):Int),m):=by
 rw [w5]
 have hf:=Bv 93 D (91::ins) R (by intro z;rcases List.mem_cons.mp z with z | z;(cases z);exact h z)
 have hf:jZ (D++91::(ins++93::R)) [.str [93],.int (D.length:Nat)]=some (.int ((D.length+(ins.length+1):Nat):Int)):=hf
 refine aq (m':=[]) rfl (az (s':=⟨[sv (.str (D++91::(ins++93::R))),sv (.int (D.length:Nat)),sv (.int ((D.length+(ins.length+1):Nat):Int))],[]⟩) rfl (seq1 (s':=s5 (D++91::(ins++93::R)) D.length) (bq (s':=s5 (D++91::(ins++93::R)) D.length) ?_ rfl) (seq1 (s':=⟨[sv (.str (D++91::(ins++93::R))),sv (.int (D.length:Nat)),sv (.int ((D.length+(ins.length+1):Nat):Int))],[]⟩) ?_ (seq1 (s':=⟨[sv (.str (D++91::(ins++93::R))),sv (.int (D.length:Nat)),sv (.int ((D.length+(ins.length+1):Nat):Int))],[]⟩) (bq (s':=⟨[sv (.str (D++91::(ins++93::R))),sv (.int (D.length:Nat)),sv (.int ((D.length+(ins.length+1):Nat):Int))],[]⟩) ?_ rfl) (aC (aD rfl rfl (VO (D.length+(ins.length+1)))))))) rfl) rfl
 ·show _root_.D.a_ _ (s5 (D++91::(ins++93::R)) D.length)=_
  simp only [ev,c7,bH,cN,qu,VN,decide_true,Bool.not_true]
 ·simp only [ev,c7,bH,cN,hf]
 ·have e:decide (((D.length+(ins.length+1):Nat):Int)=-1)=false:=decide_eq_false (by omega)
  simp only [ev,c7,bH,cN,BL,t_,e]
theorem yo (n:Nat) {i:Itm}{D R:List Nat}{m:List Ob}(h:i.ok):aa M Ft (n+1) 5 [.str (D++(i.k.core++R)),.int (D.length:Nat)] m=.ok (.int ((D.length+i.k.core.length:Nat):Int),m):=by
 obtain ⟨k,mn⟩:=i
 obtain ⟨hk,hm⟩:=h
 cases k with
 | any=>exact kr n (by decide)
 | pl c=>exact kr n (fun z=>(iW hk).2 (by rw [z];decide))
 | neg sg=>
  have:=ku n (D:=D) (R:=R) (ins:=94::sg) (m:=m) (fun z=>by
   rcases List.mem_cons.mp z with z | z
   ·cases z
   ·exact ((show Sg sg from hk).mem 93 z).2.1 rfl)
  simp only [IT.core,List.cons_append,List.append_assoc,List.nil_append,List.length_cons,List.length_append,List.length_nil] at this ⊢
  exact this
 | set sg=>
  have:=ku n (D:=D) (R:=R) (ins:=sg) (m:=m) (fun z=>(hk.1.mem 93 z).2.1 rfl)
  simp only [IT.core,List.cons_append,List.append_assoc,List.nil_append,List.length_cons,List.length_append,List.length_nil] at this ⊢
  exact this
theorem NS {c:FT}{b:FS}{f:Nat}{s s1 s2:S}{q:Res (Out × S)}(h:c s=.ok (true,s1)) (hb:b s1=.ok (.nx,s2)) (k:bW c b f s2=q):bW c b (f+1) s=q:=by
 rw [bW,h]
 refine Eq.trans (bH _ _) ?_
 dsimp only
 rw [if_pos rfl,hb]
 exact k
theorem VP {c:FT}{b:FS}{f:Nat}{s s1:S}(h:c s=.ok (false,s1)):bW c b (f+1) s=.ok (.nx,s1):=by
 rw [bW,h]
 rfl
def aQ:List Itm->List Nat
 | []=>[]
 | i::r=>i.k.core++(eW i.mn++aQ r)
abbrev s6 (b:List Nat) (p:Nat):S:=⟨[sv (.str b),sv (.int (p:Nat))],[]⟩
theorem GA (n:Nat) {P R:List Nat}{m:List Ob}(h:∀ c,R.head?=some c->c ∉ [42,43,63]):aa M Ft (n+1) 6 [.str (P++R),.int (P.length:Nat)] m=.ok (.str [49],m):=by
 rw [w6]
 refine aq (m':=[]) rfl (az (s':=s6 (P++R) P.length) rfl (seq1 (s':=s6 (P++R) P.length) (bq (s':=s6 (P++R) P.length) ?_ rfl) rfl) rfl) rfl
 show ee _ _ (s6 (P++R) P.length)=_
 unfold ee
 cases R with
 | nil=>
  have e:decide (((P.length:Nat):Int)<((P++[]).length:Nat))=false:=decide_eq_false (by simp)
  simp only [ev,c7,bH,cN,br,fK,qg,e,Bool.false_eq_true,if_false]
 | cons c R=>
  have e:decide (((P.length:Nat):Int)<((P++c::R).length:Nat))=true:=decide_eq_true (by simp;omega)
  have e2:decide (c∈[42,43,63])=false:=decide_eq_false (h c rfl)
  simp only [ev,c7,bH,cN,br,fK,qg,e,if_true,qu,BA,e2]
theorem ky (n:Nat) {P R:List Nat}{c:Nat}{m:List Ob}(h:c∈[42,43,63]):aa M Ft (n+1) 6 [.str (P++c::R),.int (P.length:Nat)] m=.ok (.str [c],m):=by
 rw [w6]
 refine aq (m':=[]) rfl (az (s':=s6 (P++c::R) P.length) rfl (b8 (eM (s':=s6 (P++c::R) P.length) ?_ (aC (aD rfl rfl qu)))) rfl) rfl
 show ee _ _ (s6 (P++c::R) P.length)=_
 unfold ee
 have e:decide (((P.length:Nat):Int)<((P++c::R).length:Nat))=true:=decide_eq_true (by simp;omega)
 have e2:decide (c∈[42,43,63])=true:=decide_eq_true h
 simp only [ev,c7,bH,cN,br,fK,qg,e,if_true,qu,BA,e2]
theorem lQ {i:Itm}(h:i.ok):∃ c l,i.k.core=c::l/\c ∉ [42,43,63]/\c≠94/\c≠36:=by
 obtain ⟨k,mn⟩:=i
 obtain ⟨hk,hm⟩:=h
 cases k with
 | any=>exact ⟨46,[],rfl,by decide,by decide,by decide⟩
 | neg sg=>exact ⟨91,_,rfl,by decide,by decide,by decide⟩
 | set sg=>exact ⟨91,_,rfl,by decide,by decide,by decide⟩
 | pl c=>
  have:=(iW hk).2
  refine ⟨c,[],rfl,fun z=>this ?_,fun z=>this ?_,fun z=>this ?_⟩
  ·unfold NP;simp at z ⊢;omega
  ·rw [z];decide
  ·rw [z];decide
theorem lR {its:List Itm}(h:∀ i∈its,i.ok):∀ c,(aQ its).head?=some c->c ∉ [42,43,63]/\c≠94:=by
 cases its with
 | nil=>intro c z;cases z
 | cons i r=>
  obtain ⟨d,l,e,h1,h2,_⟩:=lQ (h i (List.mem_cons_self ..))
  intro c z
  rw [aQ,e] at z
  cases z
  exact ⟨h1,h2⟩
theorem GC (n:Nat) {i:Itm}{r:List Itm}{P:List Nat}{m:List Ob}(h:i.ok) (hr:∀ j∈r,j.ok):aa M Ft (n+1) 6 [.str (P++(i.k.core++(eW i.mn++aQ r))),.int ((P.length+i.k.core.length:Nat):Int)] m=.ok (.str [i.mn],m):=by
 rw [<- List.append_assoc,<- List.length_append]
 unfold eW
 rcases h.m with e | e | e | e<;>rw [e]
 ·exact GA n fun c z=>(lR hr c z).1
 ·exact ky n (by decide)
 ·exact ky n (by decide)
 ·exact ky n (by decide)
abbrev s4 (b:List Nat) (acc:List T) (p:Nat) (u v:Option C):S:=⟨[sv (.str b),some (.ol acc),sv (.int (p:Nat)),u,v],[]⟩
theorem qv (n:Nat):∀ (its:List Itm) (P:List Nat) (acc:List T) (f:Nat) (u v:Option C),(∀ i∈its,i.ok)->its.length<f->acc.length+its.length<=1000 ->
  ∃ p u' v',bW (_root_.D.a_ (bB (aN .Lt) (vF 2) (aM br (k1 (vF 0))))) (ah (aE 3 (ai (aa M Ft (n+4) 5) [] (k2 (vF 0) (vF 2)))) (ah (aE 4 (ai (aa M Ft (n+4) 6) [] (k2 (vF 0) (vF 3)))) (ah (iL 1 (ai (aa M Ft (n+4) 7) [] (k2 (mG (vF 0) (kN (vF 2)) (kN (vF 3))) (vF 4)))) (aE 2 (nS (_root_.D.a_ (oE (vF 4) (cS [49]))) (vF 3) (oA (vF 3) (cI 1))))))) f (s4 (P++aQ its) acc P.length u v)=.ok (.nx,s4 (P++aQ its) (acc++its.map Itm.val) p u' v')
 | its,P,acc,0,u,v,_,hf,_=>absurd hf (Nat.not_lt_zero _)
 | [],P,acc,f+1,u,v,_,_,_=>by
  refine ⟨P.length,u,v,?_⟩
  rw [List.map_nil,List.append_nil acc]
  refine VP ?_
  have e:decide (((P.length:Nat):Int)<((P++aQ []).length:Nat))=false:=decide_eq_false (by simp [aQ])
  simp only [ev,c7,bH,cN,br,fK,qg,e]
 | i::r,P,acc,f+1,u,v,h,hf,hl=>by
  have hi:=h i (List.mem_cons_self ..)
  have hr:∀ j∈r,j.ok:=fun j hj=>h j (List.mem_cons_of_mem _ hj)
  rw [List.length_cons] at hf hl
  obtain ⟨c,l,ec,_⟩:=lQ hi
  have eP:P++aQ (i::r)=(P++i.k.core++eW i.mn)++aQ r:=by rw [aQ];simp
  obtain ⟨p,u',v',e⟩:=qv n r (P++i.k.core++eW i.mn) (acc++[i.val]) f (sv (.int ((P.length+i.k.core.length:Nat):Int))) (sv (.str [i.mn])) hr (by omega) (by rw [List.length_append,List.length_singleton];omega)
  have ea:acc++(i::r).map Itm.val=acc++[i.val]++r.map Itm.val:=by simp
  refine ⟨p,u',v',NS (s1:=s4 (P++aQ (i::r)) acc P.length u v) (s2:=s4 (P++aQ (i::r)) (acc++[i.val]) (P++i.k.core++eW i.mn).length (sv (.int ((P.length+i.k.core.length:Nat):Int))) (sv (.str [i.mn]))) ?_ (seq1 (s':=s4 (P++aQ (i::r)) acc P.length (sv (.int ((P.length+i.k.core.length:Nat):Int))) v) ?_ (seq1 (s':=s4 (P++aQ (i::r)) acc P.length (sv (.int ((P.length+i.k.core.length:Nat):Int))) (sv (.str [i.mn]))) ?_ (seq1 (s':=s4 (P++aQ (i::r)) (acc++[i.val]) P.length (sv (.int ((P.length+i.k.core.length:Nat):Int))) (sv (.str [i.mn]))) ?_ ?_))) ?_⟩
  ·have e:decide (((P.length:Nat):Int)<((P++aQ (i::r)).length:Nat))=true:=decide_eq_true (by rw [aQ,ec];simp;omega)
   simp only [ev,c7,bH,cN,br,fK,qg,e]
  ·exact bg (aA (ts:=[.str (P++aQ (i::r)),.int (P.length:Nat)]) (s':=s4 (P++aQ (i::r)) acc P.length u v) rfl (yo (n+3) hi))
  ·exact bg (aA (ts:=[.str (P++aQ (i::r)),.int ((P.length+i.k.core.length:Nat):Int)]) (s':=s4 (P++aQ (i::r)) acc P.length (sv (.int ((P.length+i.k.core.length:Nat):Int))) v) rfl (GC (n+3) hi hr))
  ·refine BJ (NO:=acc) (ts:=acc) rfl (aA (ts:=[.str i.k.core,.str [i.mn]]) (s':=s4 (P++aQ (i::r)) acc P.length (sv (.int ((P.length+i.k.core.length:Nat):Int))) (sv (.str [i.mn]))) ?_ (ua n hi)) rfl (by omega)
   have ek:bZ (P++aQ (i::r)) (some ((P.length:Nat):Int)) (some ((P.length+i.k.core.length:Nat):Int))=i.k.core:=by rw [aQ];exact Gs P i.k.core _
   simp only [ev,c7,bH,cN,z9,ek]
  ·have hlen:(P++i.k.core++eW i.mn).length=if i.mn=49 then P.length+i.k.core.length else P.length+i.k.core.length+1:=by
    unfold eW
    split
    ·simp
    ·rw [List.length_append,List.length_append];rfl
   have ZW:decide ([i.mn]=[49])=decide (i.mn=49):=by apply decide_eq_decide.mpr;simp
   unfold nS
   simp only [ev,c7,bH,cN,iU,ZW]
   rw [hlen]
   by_cases z:i.mn=49
   ·rw [if_pos z,decide_eq_true z,if_pos rfl];rfl
   ·rw [if_neg z,decide_eq_false z,if_neg Bool.false_ne_true];rfl
  ·rw [ea,eP]
   exact e
theorem qw (n:Nat) {its:List Itm}{m:List Ob}(h:∀ i∈its,i.ok) (hl:its.length<=8):aa M Ft (n+5) 4 [.str (aQ its)] m=.ok (.lst (its.map Itm.val),m):=by
 rw [w4]
 obtain ⟨p,u,v,e⟩:=qv n its [] [] many none none h (by show its.length<1000000;omega) (by show 0+_<=_;omega)
 refine aq (m':=[]) rfl (az (s':=⟨[sv (.str (aQ its)),sv (.lst (its.map Itm.val)),sv (.int (p:Nat)),u,v],[]⟩) rfl (seq1 (s':=⟨[sv (.str (aQ its)),some (.ol []),none,none,none],[]⟩) rfl (seq1 (s':=s4 (aQ its) [] 0 none none) rfl (seq1 e rfl))) rfl) ?_
 have:∀ l:List Itm,aO (l.map Itm.val)=true:=fun l=>by
  induction l with
  | nil=>rfl
  | cons a l ih=>show ((true&&(true&&(true&&true)))&&aO (l.map Itm.val))=true;rw [ih];rfl
 exact this its
def fT (b:Bool):List Nat:=if b then [94] else []
def bT (b:Bool):List Nat:=if b then [36] else []
def bC (f:Bool) (its:List Itm) (b:Bool):List Nat:=fT f++(aQ its++bT b)
def bc (f:Bool) (its:List Itm) (b:Bool):T:=.tup [.bl f,.lst (its.map Itm.val),.bl b]
theorem qy (a:List Nat) (c:Nat):Mt [36] (a++[c])=decide (c=36):=by
 unfold Mt
 have h1:decide ([36].length<=(a++[c]).length)=true:=decide_eq_true (by simp)
 have h2:(a++[c]).drop ((a++[c]).length - [36].length)=[c]:=by
  rw [show (a++[c]).length - [36].length=a.length by simp,List.drop_left]
 rw [h1,h2,Bool.true_and,Bool.eq_iff_iff]
 simp
theorem BP {i:Itm}(h:i.ok):∃ a c,i.k.core++eW i.mn=a++[c]/\c≠36:=by
 have hc:∃ a c,i.k.core=a++[c]/\c≠36:=by
  obtain ⟨k,mn⟩:=i
  obtain ⟨hk,hm⟩:=h
  cases k with
  | any=>exact ⟨[],46,rfl,by decide⟩
  | neg sg=>exact ⟨91::94::sg,93,rfl,by decide⟩
  | set sg=>exact ⟨91::sg,93,rfl,by decide⟩
  | pl c=>exact ⟨[],c,rfl,fun z=>(iW hk).2 (by rw [z];decide)⟩
 obtain ⟨a,c,e,gA⟩:=hc
 unfold eW
 split
 ·exact ⟨a,c,by rw [List.append_nil,e],gA⟩
 ·rename_i z
  refine ⟨i.k.core,i.mn,rfl,?_⟩
  rcases h.m with q | q | q | q<;>rw [q]<;>decide
theorem lS:∀ {its:List Itm},(∀ i∈its,i.ok)->aQ its=[]\/∃ a c,aQ its=a++[c]/\c≠36
 | [],_=>.inl rfl
 | i::r,h=>by
  right
  rcases lS (its:=r) fun j hj=>h j (List.mem_cons_of_mem _ hj) with e | ⟨a,c,e,hc⟩
  ·obtain ⟨a,c,e1,hc⟩:=BP (h i (List.mem_cons_self ..))
   exact ⟨a,c,by rw [aQ,e,List.append_nil,e1],hc⟩
  ·exact ⟨i.k.core++(eW i.mn++a),c,by rw [aQ,e];simp,hc⟩
theorem BQ {its:List Itm}(h:∀ i∈its,i.ok):Mt [36] (aQ its)=false:=by
 rcases lS h with e | ⟨a,c,e,hc⟩
 ·rw [e];rfl
 ·rw [e,qy,decide_eq_false hc]
theorem BR {its:List Itm}(h:∀ i∈its,i.ok) (b:Bool):pre [94] (aQ its++bT b)=false:=by
 cases e:aQ its with
 | nil=>cases b<;>rfl
 | cons c l=>exact aj (Ne.symm (lR h c (by rw [e];rfl)).2)
theorem GD {i:Itm}(h:i.ok):∀ c∈i.k.core++eW i.mn,c∈fq/\c≠47:=by
 intro c hc
 rcases List.mem_append.mp hc with z | z
 ·obtain ⟨k,mn⟩:=i
  obtain ⟨hk,hm⟩:=h
  have set:∀ sg,Sg sg->c∈sg->c∈fq/\c≠47:=fun sg g q=>⟨(g.mem c q).1,(g.mem c q).2.2.2.1⟩
  cases k with
  | any=>cases List.mem_singleton.mp z;decide
  | neg sg=>
   rcases List.mem_cons.mp z with z | z
   ·rw [z];decide
   ·rcases List.mem_append.mp z with z | z
    ·rcases List.mem_cons.mp z with z | z
     ·rw [z];decide
     ·exact set sg hk z
    ·rw [List.mem_singleton.mp z];decide
  | set sg=>
   rcases List.mem_cons.mp z with z | z
   ·rw [z];decide
   ·rcases List.mem_append.mp z with z | z
    ·exact set sg hk.1 z
    ·rw [List.mem_singleton.mp z];decide
  | pl d=>
   rw [List.mem_singleton.mp z]
   exact ⟨(iW hk).1,fun q=>(iW hk).2 (by rw [q];decide)⟩
 ·unfold eW at z
  split at z
  ·cases z
  ·rw [List.mem_singleton.mp z]
   rcases h.m with q | q | q | q<;>rw [q]<;>decide
theorem qz:∀ {its:List Itm},(∀ i∈its,i.ok)->∀ c∈aQ its,c∈fq/\c≠47
 | [],_,c,h=>by cases h
 | i::r,h,c,hc=>by
  rw [aQ,<- List.append_assoc] at hc
  rcases List.mem_append.mp hc with z | z
  ·exact GD (h i (List.mem_cons_self ..)) c z
  ·exact qz (fun j hj=>h j (List.mem_cons_of_mem _ hj)) c z
theorem kB {f b:Bool}{its:List Itm}(h:∀ i∈its,i.ok):∀ c∈bC f its b,c∈fq/\c≠47:=by
 intro c hc
 unfold bC at hc
 rcases List.mem_append.mp hc with z | z
 ·cases f with
  | true=>rw [List.mem_singleton.mp z];decide
  | false=>cases z
 ·rcases List.mem_append.mp z with z | z
  ·exact qz h c z
  ·cases b with
   | true=>rw [List.mem_singleton.mp z];decide
   | false=>cases z
theorem BS {i:Itm}(h:i.ok):i.k.core.length<=15:=by
 obtain ⟨k,mn⟩:=i
 obtain ⟨hk,hm⟩:=h
 cases k with
 | any=>show 1<=15;decide
 | neg sg=>have:=(show Sg sg from hk).nT;simp [IT.core];omega
 | set sg=>have:=hk.1.nT;simp [IT.core];omega
 | pl c=>show 1<=15;decide
theorem kC:∀ {its:List Itm},(∀ i∈its,i.ok)->(aQ its).length<=16*its.length
 | [],_=>Nat.le_refl _
 | i::r,h=>by
  have h1:=BS (h i (List.mem_cons_self ..))
  have h2:=kC (its:=r) fun j hj=>h j (List.mem_cons_of_mem _ hj)
  have h3:(eW i.mn).length<=1:=by unfold eW;split<;>simp
  rw [aQ,List.length_append,List.length_append,List.length_cons]
  omega
theorem kD {f b:Bool}{its:List Itm}(h:∀ i∈its,i.ok) (hl:its.length<=8):(bC f its b).length<=130:=by
 have h1:=kC h
 have h2:(fT f).length<=1:=by cases f<;>decide
 have h3:(bT b).length<=1:=by cases b<;>decide
 unfold bC
 rw [List.length_append,List.length_append]
 omega
abbrev s3 (x:List Nat) (a b c d:Option C):S:=⟨[sv (.str x),a,b,c,d],[]⟩
theorem uc (n:Nat) {f b:Bool}{its:List Itm}{m:List Ob}(h:∀ i∈its,i.ok) (hl:its.length<=8):aa M Ft (n+7) 3 [.str (bC f its b)] m=.ok (bc f its b,m):=by
 rw [w3]
 have e1:ai (aa M Ft (n+6) 0) [] (k2 (vF 0) (cS fq)) (s3 (bC f its b) none none none none)=.ok (.bl true,s3 (bC f its b) none none none none):=aA (ts:=[.str (bC f its b),.str fq]) (s':=s3 (bC f its b) none none none none) rfl (ki (n+5) (fun c hc=>(kB h c hc).1) (by have:=kD (f:=f) (b:=b) h hl;omega))
 refine aq (m':=[]) rfl (az (s':=s3 (bC f its b) (sv (.bl f)) (sv (.str (aQ its++bT b))) (sv (.bl b)) (sv (.lst (its.map Itm.val)))) rfl (seq1 (s':=s3 (bC f its b) none none none none) (bq (s':=s3 (bC f its b) none none none none) rfl rfl) (seq1 (s':=s3 (bC f its b) none none none none) (bq (s':=s3 (bC f its b) none none none none) ?_ rfl) (seq1 (s':=s3 (bC f its b) (sv (.bl f)) none none none) ?_ (seq1 (s':=s3 (bC f its b) (sv (.bl f)) (sv (.str (aQ its++bT b))) none none) ?_ (seq1 (s':=s3 (bC f its b) (sv (.bl f)) (sv (.str (aQ its++bT b))) (sv (.bl b)) none) ?_ (seq1 (s':=s3 (bC f its b) (sv (.bl f)) (sv (.str (aQ its++bT b))) (sv (.bl b)) (sv (.lst (its.map Itm.val)))) ?_ (seq1 (s':=s3 (bC f its b) (sv (.bl f)) (sv (.str (aQ its++bT b))) (sv (.bl b)) (sv (.lst (its.map Itm.val)))) (bq (s':=s3 (bC f its b) (sv (.bl f)) (sv (.str (aQ its++bT b))) (sv (.bl b)) (sv (.lst (its.map Itm.val)))) ?_ rfl) (aC (bI (ts:=[.bl f,.lst (its.map Itm.val),.bl b]) rfl (tY _ _ _))))))))))  rfl) ?_
 ·refine bX ?_
  unfold D.tB
  exact Eq.trans (congrArg (fun z=>Res.bind z _) e1) rfl
 ·have e:pre [94] (bC f its b)=f:=by
   cases f with
   | true=>exact pre_app [94] (aQ its++bT b)
   | false=>exact BR h b
  simp only [ev,c7,bH,cN,nU,e]
 ·cases f with
  | true=>
   show Res.ok (Out.nx,ju _ 2 (.val (.str (bZ (bC true its b) (some 1) none))))=_
   rw [show bZ (bC true its b) (some 1) none=aQ its++bT b from f_ [94] (aQ its++bT b)];rfl
  | false=>rfl
 ·have e:Mt [36] (aQ its++bT b)=b:=by
   cases b with
   | true=>rw [show aQ its++bT true=aQ its++[36] from rfl,qy];rfl
   | false=>rw [show aQ its++bT false=aQ its from List.append_nil _];exact BQ h
  simp only [ev,c7,bH,cN,Ww,e]
 ·refine Eq.trans (bg (t:=.lst (its.map Itm.val)) (s':=s3 (bC f its b) (sv (.bl f)) (sv (.str (aQ its++bT b))) (sv (.bl b)) none) (aA (ts:=[.str (aQ its)]) (s':=s3 (bC f its b) (sv (.bl f)) (sv (.str (aQ its++bT b))) (sv (.bl b)) none) (au (t:=.str (aQ its)) (s1:=s3 (bC f its b) (sv (.bl f)) (sv (.str (aQ its++bT b))) (sv (.bl b)) none) ?_ rfl) (qw (n+1) h hl))) rfl
  cases b with
  | true=>
   show Res.ok (T.str (bZ (aQ its++[36]) none (some (-1))),_)=_
   rw [qm]
  | false=>
   show Res.ok (T.str (aQ its++[]),_)=_
   rw [List.append_nil]
 ·have e:decide ((8:Int)<((its.map Itm.val).length:Nat))=false:=decide_eq_false (by rw [List.length_map];omega)
  simp only [ev,c7,bH,cN,br,fK,kZ,e]
 ·have:∀ l:List Itm,aO (l.map Itm.val)=true:=fun l=>by
   induction l with
   | nil=>rfl
   | cons a l ih=>show ((true&&(true&&(true&&true)))&&aO (l.map Itm.val))=true;rw [ih];rfl
  show (true&&(aO (its.map Itm.val)&&(true&&true)))=true
  rw [this];rfl
theorem VQ {f b:Bool}{its:List Itm}(h:∀ i∈its,i.ok) (hl:its.length<=8):Pt (bC f its b) (bc f its b):=⟨fun z=>(kB h 47 z).2 rfl,fun n m=>uc n h hl⟩
theorem gH {α:Type}{g:FG}{c:FT}{e:FE}{b:List (Option C)}{m:List Ob}(v:α->T) (p:α->Bool):∀ {l:List α},(∀ x∈l,∃ b1 b2 b3,g (v x) b=some b1/\c ⟨b1,m⟩=.ok (p x,⟨b2,m⟩)/\e ⟨b2,m⟩=.ok (v x,⟨b3,m⟩))->du g c e b (l.map v) m=.ok ((l.filter p).map v,m)
 | [],_=>rfl
 | x::l,h=>by
  obtain ⟨b1,b2,b3,h1,h2,h3⟩:=h x (List.mem_cons_self ..)
  rw [List.map_cons,du,h1]
  refine Eq.trans (bH _ _) ?_
  rw [h2]
  refine Eq.trans (bH _ _) ?_
  dsimp only
  have ih:=gH v p (l:=l) fun y hy=>h y (List.mem_cons_of_mem _ hy)
  cases hp:p x with
  | true=>
   rw [if_pos rfl,h3]
   refine Eq.trans (bH _ _) ?_
   dsimp only
   rw [ih,List.filter_cons_of_pos hp]
   rfl
  | false=>rw [if_neg Bool.false_ne_true,ih,List.filter_cons_of_neg (by rw [hp];exact Bool.false_ne_true)]
def NT (i:Itm):Bool:=eqT (.str [42]) (.str [i.mn]) || (eqT (.str [63]) (.str [i.mn]) || false)
theorem GF (n:Nat) {i:Itm}{m:List Ob}:aa M Ft (n+1) 14 [i.val] m=.ok (.bl (NT i),m):=by
 rw [w14]
 exact aq (m':=[]) rfl (az (s':=⟨[sv i.val],[]⟩) rfl (aC (aD (t:=.str [i.mn]) (u:=.tup [.str [42],.str [63]]) rfl rfl rfl)) rfl) rfl
def least (its:List Itm):Nat:=(its.filter fun i=>!NT i).length
theorem ud (l:List Itm):aO (l.map Itm.val)=true:=by
 induction l with
 | nil=>rfl
 | cons a l ih=>show ((true&&(true&&(true&&true)))&&aO (l.map Itm.val))=true;rw [ih];rfl
theorem c5 (f b:Bool) (its:List Itm):noOwn (bc f its b)=true:=by
 show (true&&(aO (its.map Itm.val)&&(true&&true)))=true
 rw [ud];rfl
theorem qA (n:Nat) {f b:Bool}{its:List Itm}{m:List Ob}(hl:its.length<=8):aa M Ft (n+2) 13 [bc f its b] m=.ok (.int (least its:Nat),m):=by
 rw [w13]
 refine aq (m':=[]) ?_ (az (s':=⟨[sv (bc f its b)],[]⟩) rfl (aC (bI (ts:=[.lst ((its.filter fun i=>!NT i).map Itm.val)]) (au (fH (fG (ts:=its.map Itm.val) (s1:=⟨[sv (bc f its b)],[]⟩) rfl (by rw [List.length_map];omega) (gH Itm.val (fun i=>!NT i) fun i hi=>?_))) rfl) ?_)) rfl) rfl
 ·show (noOwn (bc f its b)&&true)=true
  rw [c5];rfl
 ·refine ⟨[none,sv i.val],[none,sv i.val],[none,sv i.val],rfl,?_,rfl⟩
  have e:ai (aa M Ft (n+1) 14) [] (k1 (vF 1)) ⟨[none,sv i.val],[]⟩=.ok (.bl (NT i),⟨[none,sv i.val],[]⟩):=aA (ts:=[i.val]) (s':=⟨[none,sv i.val],[]⟩) rfl (GF n)
  unfold bA D.tB
  rw [e];rfl
 ·show some (T.int (((its.filter fun i=>!NT i).map Itm.val).length:Nat))=_
  rw [List.length_map];rfl
theorem empty_eq (n:Nat) {f b:Bool}{its:List Itm}{m:List Ob}(hl:its.length<=8) (h0:0<least its):aa M Ft (n+3) 12 [bc f its b] m=.ok (.bl false,m):=by
 rw [w12]
 refine aq (m':=[]) ?_ (az (s':=⟨[sv (bc f its b)],[]⟩) rfl (aC (aD (t:=.int (least its:Nat)) (u:=.int 0) (s1:=⟨[sv (bc f its b)],[]⟩) (aA (ts:=[bc f its b]) (s':=⟨[sv (bc f its b)],[]⟩) rfl (qA n hl)) rfl ?_)) rfl) rfl
 ·show (noOwn (bc f its b)&&true)=true
  rw [c5];rfl
 ·rw [t_,decide_eq_false (by omega)]
abbrev lT (f b:Bool) (its:List Itm) (l:List Nat) (e:Bool):T:=.obj 17 [bc f its b,.str l,.bl e]
theorem qB (n:Nat) {f b e:Bool}{its:List Itm}{l:List Nat}{m:List Ob}(hl:its.length<=8) (h0:0<least its) (he:e=false\/l.length<=least its):aa M Ft (n+4) 29 [lT f b its l e] m=.ok (.bl true,m):=by
 rw [w29]
 refine aq (m':=[]) ?_ (az (s':=⟨[sv (lT f b its l e)],[]⟩) rfl (seq1 (s':=⟨[sv (lT f b its l e)],[]⟩) (bq (s':=⟨[sv (lT f b its l e)],[]⟩) ?_ rfl) (aC ?_)) rfl) rfl
 ·show ((noOwn (bc f its b)&&(true&&(true&&true)))&&true)=true
  rw [c5];rfl
 ·have e1:ai (aa M Ft (n+3) 12) [] (k1 (aI M.P.tab 4 (vF 0))) ⟨[sv (lT f b its l e)],[]⟩=.ok (.bl false,⟨[sv (lT f b its l e)],[]⟩):=aA (ts:=[bc f its b]) (s':=⟨[sv (lT f b its l e)],[]⟩) rfl (empty_eq n hl h0)
  unfold D.tB
  exact Eq.trans (congrArg (fun z=>Res.bind z _) e1) rfl
 ·cases e with
  | false=>rfl
  | true=>
   have hle:l.length<=least its:=he.resolve_left (by decide)
   have e1:ai (aa M Ft (n+3) 13) [] (k1 (aI M.P.tab 4 (vF 0))) ⟨[sv (lT f b its l true)],[]⟩=.ok (.int (least its:Nat),⟨[sv (lT f b its l true)],[]⟩):=aA (ts:=[bc f its b]) (s':=⟨[sv (lT f b its l true)],[]⟩) rfl (qA (n+1) hl)
   have e2:aN .LtE (.int (l.length:Nat)) (.int (least its:Nat))=some (.bl true):=by
    show some (T.bl (decide (((l.length:Nat):Int)<=(least its:Nat))))=_
    rw [decide_eq_true (by omega)]
   show bB (aN .LtE) (aM br (k1 (aI M.P.tab 10 (vF 0)))) (ai (aa M Ft (n+3) 13) [] (k1 (aI M.P.tab 4 (vF 0)))) ⟨[sv (lT f b its l true)],[]⟩=_
   exact aD (t:=.int (l.length:Nat)) (s1:=⟨[sv (lT f b its l true)],[]⟩) rfl e1 e2
def DD.qC:DD->Prop
 | .tell=>False
 | .swap e _ t l=>∃ f its b,t=bc f its b/\its.length<=8/\0<least its/\(e=false\/l.length<=least its)
 | _=>True
def DD.atEnd:DD->Prop
 | .tell=>True
 | .say _=>True
 | .bring _=>True
 | _=>False
def LN.qC:LN->Prop
 | .mark _=>True
 | .bare x=>x.qC
 | .full .fin x=>x.atEnd
 | .full _ x=>x.qC
abbrev s2 (a b:T):S:=⟨[sv a,sv b],[]⟩
theorem BU (n:Nat) {cv dv:T}{m:List Ob}(h1:cy M.P.sub [10] cv=some (.bl false)) (h2:cy M.P.sub [17] dv=some (.bl false)) (h3:cy M.P.sub [23] dv=some (.bl false)) (hc:noOwn cv=true) (hd:noOwn dv=true):aa M Ft (n+7) 28 [cv,dv] m=.ok (.bl true,m):=by
 rw [ZN]
 refine aq (m':=[]) ?_ (az (s':=s2 cv dv) rfl (seq1 (s':=s2 cv dv) (bq (s':=s2 cv dv) (aR (t:=cv) rfl h1) rfl) (seq1 (s':=s2 cv dv) (bq (s':=s2 cv dv) (aR (t:=dv) rfl h2) rfl) (aC ?_))) rfl) rfl
 ·show (noOwn cv&&(noOwn dv&&true))=true
  rw [hc,hd];rfl
 ·have e:bD (cy M.P.sub [23]) (vF 1) (s2 cv dv)=.ok (.bl false,s2 cv dv):=by
   simp only [ev,c7,bH,cN,h3]
  unfold pH
  exact Eq.trans (congrArg (fun z=>Res.bind z _) e) rfl
theorem GG (n:Nat) {cv:T}{f b e:Bool}{its:List Itm}{l:List Nat}{m:List Ob}(h1:cy M.P.sub [10] cv=some (.bl false)) (hl:its.length<=8) (h0:0<least its) (he:e=false\/l.length<=least its) (hc:noOwn cv=true):aa M Ft (n+7) 28 [cv,lT f b its l e] m=.ok (.bl true,m):=by
 rw [ZN]
 refine aq (m':=[]) ?_ (az (s':=s2 cv (lT f b its l e)) rfl (seq1 (s':=s2 cv (lT f b its l e)) (bq (s':=s2 cv (lT f b its l e)) (aR (t:=cv) rfl h1) rfl) (b8 (eM (s':=s2 cv (lT f b its l e)) (aR (t:=lT f b its l e) rfl rfl) (aC (aA (ts:=[lT f b its l e]) (s':=s2 cv (lT f b its l e)) rfl (qB (n+2) hl h0 he)))))) rfl) rfl
 show (noOwn cv&&((noOwn (bc f its b)&&(true&&(true&&true)))&&true))=true
 rw [hc,c5];rfl
theorem ue (n:Nat) {cv dv:T}{m:List Ob}(h1:cy M.P.sub [10] cv=some (.bl true)) (h2:cy M.P.sub [16,20,23] dv=some (.bl true)) (hc:noOwn cv=true) (hd:noOwn dv=true):aa M Ft (n+7) 28 [cv,dv] m=.ok (.bl true,m):=by
 rw [ZN]
 refine aq (m':=[]) ?_ (az (s':=s2 cv dv) rfl (b8 (eM (s':=s2 cv dv) (aR (t:=cv) rfl h1) (aC ?_))) rfl) rfl
 ·show (noOwn cv&&(noOwn dv&&true))=true
  rw [hc,hd];rfl
 ·simp only [ev,c7,bH,cN,h2]
theorem BV (x:RP):cy M.P.sub [10] x.val=some (.bl false):=by cases x<;>rfl
theorem BW (x:PC):cy M.P.sub [10] x.val=some (.bl false):=by
 cases x with
 | rp x=>exact BV x
 | _=>rfl
theorem nE {cv:T}{x:DD}(h1:cy M.P.sub [10] cv=some (.bl false)) (hf:x.qC) (hc:noOwn cv=true) (hd:noOwn x.val=true) (n:Nat) (m:List Ob):aa M Ft (n+7) 28 [cv,x.val] m=.ok (.bl true,m):=by
 cases x with
 | tell=>cases hf
 | swap e w t l=>
  obtain ⟨f,its,b,rfl,h2,h3,h4⟩:=hf
  exact GG n h1 h2 h3 h4 hc
 | _=>exact BU n h1 rfl rfl hc hd
theorem nF {x:LN}(h:x.qC) (hc:noOwn x.cond=true) (hd:noOwn x.eV=true):km x:=fun n m=>by
 cases x with
 | mark a=>exact BU n rfl rfl rfl hc hd
 | bare x=>exact nE rfl h hc hd n m
 | full c x=>
  cases c with
  | fin=>
   cases x with
   | tell=>exact ue n rfl rfl hc hd
   | say l=>exact ue n rfl rfl hc hd
   | bring a=>exact ue n rfl rfl hc hd
   | _=>cases h
  | no y=>exact nE rfl h hc hd n m
  | pc y=>exact nE (BW y) h hc hd n m
theorem VR {x:LN}(h:x.ok) (hf:x.qC) (hc:noOwn x.cond=true) (hd:noOwn x.eV=true):Lk x:=⟨h,nF hf hc hd,by
 show (noOwn x.cond&&(noOwn x.eV&&true))=true
 rw [hc,hd];rfl⟩
theorem BX (n:Nat) {c:Nat}{m:List Ob}(h:yE c=true):aa M Ft (n+2) 9 [.str [c],.bl false] m=.ok (.bl true,m):=by
 rw [w9]
 refine aq (m':=[]) rfl (az (s':=s2 (.str [c]) (.bl false)) rfl (aC (qo (x:=true) (y:=true) (s1:=s2 (.str [c]) (.bl false)) rfl fun _=>qo (x:=true) (y:=true) (s1:=s2 (.str [c]) (.bl false)) rfl fun _=>?_)) rfl) rfl
 have:=aA (ds:=[]) (ts:=[.str [c]]) (s':=s2 (.str [c]) (.bl false)) (fl:=k1 (vF 0)) (s:=s2 (.str [c]) (.bl false)) rfl (tZ n (c:=c) (m:=[]))
 rw [h] at this
 exact this
theorem BY (n:Nat) {i:Itm}{m:List Ob}(h:i.ok):aa M Ft (n+3) 11 [.str i.k.sg,.bl i.k.ot] m=.ok (.str i.k.core,m):=by
 obtain ⟨k,mn⟩:=i
 obtain ⟨hk,hm⟩:=h
 rw [w11]
 have ne:∀ sg:List Nat,sg≠[]->∀ ot,_root_.D.a_ (oE (vF 0) (cS [])) (s2 (.str sg) (.bl ot))=.ok (false,s2 (.str sg) (.bl ot)):=fun sg gA ot=>by
  have e:decide (sg=[])=false:=decide_eq_false gA
  simp only [ev,c7,bH,cN,iU,e]
 have iw:∀ (sg:List Nat) (b:Bool),aa M Ft (n+2) 9 [.str sg,.bl false] []=.ok (.bl b,[])->_root_.D.tB (ai (aa M Ft (n+2) 9) [] (k2 (vF 0) (vF 1))) (s2 (.str sg) (.bl false))=.ok (b,s2 (.str sg) (.bl false)):=fun sg b q=>by
  have e:=aA (ds:=[]) (ts:=[.str sg,.bl false]) (s':=s2 (.str sg) (.bl false)) (fl:=k2 (vF 0) (vF 1)) (s:=s2 (.str sg) (.bl false)) rfl q
  unfold _root_.D.tB
  exact Eq.trans (congrArg (fun z=>Res.bind z _) e) rfl
 have wr:∀ (u v sg:List Nat) (ot:Bool),sg.length<=12->bD (lM u v) (vF 0) (s2 (.str sg) (.bl ot))=.ok (.str (u++sg++v),s2 (.str sg) (.bl ot)):=fun u v sg ot hl=>by
  have e:lM u v (.str sg)=some (.str (u++sg++v)):=gK (by omega)
  simp only [ev,c7,bH,cN,e]
 cases k with
 | any=>exact aq (m':=[]) rfl (az (s':=s2 (.str []) (.bl true)) rfl (b8 (eM (s':=s2 (.str []) (.bl true)) rfl rfl)) rfl) rfl
 | neg sg=>
  have g:Sg sg:=hk
  exact aq (m':=[]) rfl (az (s':=s2 (.str sg) (.bl true)) rfl (seq1 (bq (ne sg g.ne true) rfl) (b8 (eM (s':=s2 (.str sg) (.bl true)) rfl (aC (wr [91,94] [93] sg true g.nT))))) rfl) rfl
 | set sg=>
  obtain ⟨g,hs⟩:=hk
  exact aq (m':=[]) rfl (az (s':=s2 (.str sg) (.bl false)) rfl (seq1 (bq (ne sg g.ne false) rfl) (seq1 (s':=s2 (.str sg) (.bl false)) (bq (s':=s2 (.str sg) (.bl false)) rfl rfl) (seq1 (bq (iw sg false (BO n hs)) rfl) (aC (wr [91] [93] sg false g.nT))))) rfl) rfl
 | pl c=>
  exact aq (m':=[]) rfl (az (s':=s2 (.str [c]) (.bl false)) rfl (seq1 (bq (ne [c] (by simp) false) rfl) (seq1 (s':=s2 (.str [c]) (.bl false)) (bq (s':=s2 (.str [c]) (.bl false)) rfl rfl) (b8 (eM (iw [c] true (BX n hk)) rfl)))) rfl) rfl
def kE:List Itm->List (List Nat)
 | []=>[]
 | i::r=>i.k.core::eW i.mn::kE r
theorem qD:∀ its:List Itm,(kE its).flatten=aQ its
 | []=>rfl
 | i::r=>by
  show i.k.core++(eW i.mn++(kE r).flatten)=_
  rw [qD r];rfl
theorem vG:∀ its:List Itm,(kE its).length=2*its.length
 | []=>rfl
 | i::r=>by
  show (kE r).length+1+1=2*(r.length+1)
  rw [vG r];omega
abbrev ze (o:T) (acc:List (List Nat)) (u v w:Option C):S:=⟨[sv o,some (.ol (acc.map T.str)),u,v,w],[]⟩
theorem kF (n:Nat) {o:T}:∀ (its:List Itm) (acc:List (List Nat)) (u v w:Option C),(∀ i∈its,i.ok)->acc.length+2*its.length<=1000->∃ u' v' w',dJ (dU [2,3,4]) (ah (iL 1 (ai (aa M Ft (n+3) 11) [] (k2 (vF 2) (vF 3)))) (iL 1 (nS (_root_.D.a_ (oE (vF 4) (cS [49]))) (cS []) (vF 4)))) (its.map Itm.val) (ze o acc u v w)=.ok (.nx,ze o (acc++kE its) u' v' w')
 | [],acc,u,v,w,_,_=>⟨u,v,w,by rw [show acc++kE []=acc from List.append_nil _];rfl⟩
 | i::r,acc,u,v,w,h,hl=>by
  have hi:=h i (List.mem_cons_self ..)
  rw [List.length_cons] at hl
  obtain ⟨u',v',w',e⟩:=kF n r (acc++[i.k.core,eW i.mn]) (sv (.str i.k.sg)) (sv (.bl i.k.ot)) (sv (.str [i.mn])) (fun j hj=>h j (List.mem_cons_of_mem _ hj)) (by rw [List.length_append];show acc.length+2+_<=_;omega)
  have e1:acc++kE (i::r)=acc++[i.k.core,eW i.mn]++kE r:=by simp [kE]
  rw [e1]
  refine ⟨u',v',w',eB (r:=[sv o,some (.ol (acc.map T.str)),sv (.str i.k.sg),sv (.bl i.k.ot),sv (.str [i.mn])]) rfl (s1:=ze o (acc++[i.k.core,eW i.mn]) (sv (.str i.k.sg)) (sv (.bl i.k.ot)) (sv (.str [i.mn]))) (seq1 (BJ (NO:=acc.map T.str) (ts:=acc.map T.str) (t:=.str i.k.core) rfl (aA (ts:=[.str i.k.sg,.bl i.k.ot]) (s':=ze o acc (sv (.str i.k.sg)) (sv (.bl i.k.ot)) (sv (.str [i.mn]))) rfl (BY n hi)) rfl (by rw [List.length_map];omega)) ?_) e⟩
  refine Eq.trans (BJ (NO:=acc.map T.str++[.str i.k.core]) (ts:=acc.map T.str++[.str i.k.core]) (t:=.str (eW i.mn)) (s1:=⟨[sv o,some (.ol (acc.map T.str++[.str i.k.core])),sv (.str i.k.sg),sv (.bl i.k.ot),sv (.str [i.mn])],[]⟩) rfl ?_ rfl (by rw [List.length_append,List.length_map];show _+1<_;omega)) ?_
  ·have ZW:decide ([i.mn]=[49])=decide (i.mn=49):=by apply decide_eq_decide.mpr;simp
   show nS _ _ _ ⟨[sv o,some (.ol (acc.map T.str++[.str i.k.core])),sv (.str i.k.sg),sv (.bl i.k.ot),sv (.str [i.mn])],[]⟩=_
   unfold nS eW
   simp only [ev,c7,bH,cN,iU,ZW]
   by_cases z:i.mn=49
   ·rw [decide_eq_true z,if_pos rfl,if_pos z]
   ·rw [decide_eq_false z,if_neg Bool.false_ne_true,if_neg z]
  ·show Res.ok (Out.nx,(⟨[sv o,some (.ol (acc.map T.str++[.str i.k.core]++[.str (eW i.mn)])),_,_,_],[]⟩:S))=_
   rw [show acc.map T.str++[.str i.k.core]++[.str (eW i.mn)]=(acc++[i.k.core,eW i.mn]).map T.str by simp]
theorem strs_map:∀ l:List (List Nat),strsOf (l.map T.str)=some l
 | []=>rfl
 | a::l=>by
  show (strsOf (l.map T.str)).map (a::·)=_
  rw [strs_map l];rfl
theorem join_nil:∀ l:List (List Nat),bf [] l=l.flatten
 | []=>rfl
 | [a]=>by simp [bf]
 | a::b::r=>by
  show a++[]++bf [] (b::r)=_
  rw [join_nil (b::r)];simp
theorem join_eq {l:List (List Nat)}(h:l.flatten.length<=100000):joinM [] [.lst (l.map T.str)]=some (.str l.flatten):=by
 show lE (.str []) (.lst (l.map T.str))=_
 unfold lE
 dsimp only
 rw [strs_map]
 show gd _ _=_
 rw [List.length_flatten] at h
 have h:(l.map (·.length)).sum<=100000:=h
 rw [gK (by rw [List.length_nil,Nat.mul_zero];omega),join_nil]
theorem uf (n:Nat) {f b:Bool}{its:List Itm}{m:List Ob}(h:∀ i∈its,i.ok) (hl:its.length<=8):aa M Ft (n+4) 10 [bc f its b] m=.ok (.str (bC f its b),m):=by
 rw [Xy]
 obtain ⟨u,v,w,e⟩:=kF n (o:=bc f its b) its [fT f] none none none h (by show 1+_<=_;omega)
 have ef:([fT f]++kE its++[bT b]).flatten=bC f its b:=by
  rw [List.flatten_append,List.flatten_append,qD]
  simp [bC]
 refine aq (m':=[]) ?_ (az (s':=⟨[sv (bc f its b),sv (.lst (([fT f]++kE its++[bT b]).map T.str)),u,v,w],[]⟩) rfl (seq1 (s':=ze (bc f its b) [fT f] none none none) ?_ (seq1 (tW (ts:=its.map Itm.val) (s1:=ze (bc f its b) [fT f] none none none) rfl e) (seq1 (s':=ze (bc f its b) ([fT f]++kE its++[bT b]) u v w) ?_ (aC ?_)))) rfl) rfl
 ·show (noOwn (bc f its b)&&true)=true
  rw [c5];rfl
 ·cases f<;>rfl
 ·refine Eq.trans (BJ (NO:=([fT f]++kE its).map T.str) (ts:=([fT f]++kE its).map T.str) (t:=.str (bT b)) (s1:=ze (bc f its b) ([fT f]++kE its) u v w) rfl (by cases b<;>rfl) rfl (by rw [List.length_map,List.length_append,vG];show 1+_<_;omega)) ?_
  show Res.ok (Out.nx,(⟨[sv (bc f its b),some (.ol (([fT f]++kE its).map T.str++[.str (bT b)])),u,v,w],[]⟩:S))=_
  rw [show ([fT f]++kE its).map T.str++[.str (bT b)]=([fT f]++kE its++[bT b]).map T.str by simp]
 ·have ej:=join_eq (l:=[fT f]++kE its++[bT b]) (by rw [ef];have:=kD (f:=f) (b:=b) h hl;omega)
  rw [ef] at ej
  have e1:vF 1 (ze (bc f its b) ([fT f]++kE its++[bT b]) u v w)=.ok (.lst (([fT f]++kE its++[bT b]).map T.str),⟨[sv (bc f its b),sv (.lst (([fT f]++kE its++[bT b]).map T.str)),u,v,w],[]⟩):=rfl
  simp only [ev,bH,cN,e1,ej]
abbrev S1 (v:T):S:=⟨[sv v],[]⟩
theorem a9 {a b:List Nat}(h:a.length+b.length<=1000000):cO .Add (.str a) (.str b)=some (.str (a++b)):=gK h
section
variable {d:List Nat}{v t:T}{A B:FS}{R:Res (Out × S)}{s':S}
theorem bS (h:cy M.P.sub d v=some (.bl false)) (q:B (S1 v)=R):ah (aW (_root_.D.tB (bD (cy M.P.sub d) (vF 0))) A av) B (S1 v)=R:=seq1 (bq (aR (t:=v) rfl h) rfl) q
theorem nV (h:cy M.P.sub d v=some (.bl true)) (q:A (S1 v)=.ok (.rt t,s')):ah (aW (_root_.D.tB (bD (cy M.P.sub d) (vF 0))) A av) B (S1 v)=.ok (.rt t,s'):=b8 (eM (aR (t:=v) rfl h) q)
end
def kG (w:List Nat) (t:T):Prop:=∃ f its b,(∀ i∈its,i.ok)/\its.length<=8/\w=bC f its b/\t=bc f its b
theorem kG.pt {w:List Nat}{t:T}(h:kG w t):Pt w t:=by
 obtain ⟨f,its,b,h1,h2,rfl,rfl⟩:=h
 exact VQ h1 h2
theorem kG.no {w:List Nat}{t:T}(h:kG w t):noOwn t=true:=by
 obtain ⟨f,its,b,h1,h2,rfl,rfl⟩:=h
 exact c5 _ _ _
theorem kG.len {w:List Nat}{t:T}(h:kG w t):w.length<=130:=by
 obtain ⟨f,its,b,h1,h2,rfl,rfl⟩:=h
 exact kD h1 h2
structure k6 (d:List Nat) (v:Int):Prop where
 nm:Nm d v
 st:strN [.int v]=some (.str d)
abbrev qE (w:List Nat):List Nat:=47::(w++[47])
theorem kH (n:Nat) {w:List Nat}{t:T}{m:List Ob}(h:kG w t):aa M Ft (n+5) 39 [t] m=.ok (.str (qE w),m):=by
 have hl:=h.len
 have hn:=h.no
 obtain ⟨f,its,b,h1,h2,rfl,rfl⟩:=h
 rw [w39]
 refine aq (m':=[]) ?_ (az (s':=S1 (bc f its b)) rfl (aC (aD (t:=.str ([47]++bC f its b)) (u:=.str [47]) (s1:=S1 (bc f its b)) (aD (t:=.str [47]) (u:=.str (bC f its b)) (s1:=S1 (bc f its b)) rfl (aA (ts:=[bc f its b]) (s':=S1 (bc f its b)) rfl (uf n h1 h2)) (a9 (by show 1+_<=_;omega))) rfl (a9 (by rw [List.length_append];show 1+_+1<=_;omega)))) rfl) rfl
 show (noOwn (bc f its b)&&true)=true
 rw [hn];rfl
theorem lU (n:Nat) {l:List Nat}{m:List Ob}(h:l.length<=40):aa M Ft (n+1) 40 [.str l] m=.ok (.str (34::(l++[34])),m):=by
 rw [w40]
 exact aq (m':=[]) rfl (az (s':=S1 (.str l)) rfl (aC (aD (t:=.str ([34]++l)) (u:=.str [34]) (s1:=S1 (.str l)) (aD (t:=.str [34]) (u:=.str l) (s1:=S1 (.str l)) rfl rfl (a9 (by show 1+_<=_;omega))) rfl (a9 (by rw [List.length_append];show 1+_+1<=_;omega)))) rfl) rfl
def RP.c8:RP->Prop
 | .row d v=>k6 d v
 | .like w t=>kG w t
noncomputable def RP.sh:RP->List Nat
 | .row d _=>[114,111,119,32]++d
 | .like w _=>qE w
theorem qF {x:RP}(h:x.c8):noOwn x.val=true:=by
 cases x with
 | row d v=>rfl
 | like w t=>
  show (noOwn t&&true)=true
  rw [(show kG w t from h).no];rfl
theorem kI {x:RP}(h:x.c8):x.sh.length<=140:=by
 cases x with
 | row d v=>
  have:=(show k6 d v from h).nm.hl
  show ([114,111,119,32]++d).length<=140
  rw [List.length_append];show 4+_<=_;omega
 | like w t=>
  have:=(show kG w t from h).len
  show (47::(w++[47])).length<=140
  rw [List.length_cons,List.length_append];show _+1+1<=_;omega
theorem Ox {t:T}(h:noOwn t=true):aO [t]=true:=by
 show (noOwn t&&true)=true
 rw [h];rfl
theorem nG (n:Nat) {x:RP}{m:List Ob}(h:x.c8):aa M Ft (n+6) 37 [x.val] m=.ok (.str x.sh,m):=by
 rw [Ou]
 refine aq (m':=[]) (Ox (qF h)) ?_ rfl
 refine az (s':=S1 x.val) rfl ?_ rfl
 cases x with
 | row d v=>
  have hn:k6 d v:=h
  have hl:=hn.nm.hl
  refine nV rfl (aC (aD (t:=.str [114,111,119,32]) (u:=.str d) (s1:=S1 (.obj 4 [.int v])) rfl (bI (ts:=[.int v]) rfl hn.st) (a9 (by show 4+_<=_;omega))))
 | like w t=>exact bS rfl (bS rfl (nV rfl (aC (aA (ts:=[t]) (s':=S1 (.obj 6 [t])) rfl (kH n h)))))
def PC.c8:PC->Prop
 | .last=>True
 | .soon d v w t=>k6 d v/\kG w t
 | .ft x y=>x.c8/\y.c8
 | .rp x=>x.c8
noncomputable def PC.sh:PC->List Nat
 | .last=>[108,97,115,116]
 | .soon d _ w _=>[115,111,111,110,32]++d++[32]++qE w
 | .ft x y=>[102,114,111,109,32]++x.sh++[32,116,111,32]++y.sh
 | .rp x=>x.sh
theorem qG {x:PC}(h:x.c8):noOwn x.val=true:=by
 cases x with
 | last=>rfl
 | soon d v w t=>
  show (true&&(noOwn t&&true))=true
  rw [h.2.no];rfl
 | ft x y=>
  show (noOwn x.val&&(noOwn y.val&&true))=true
  rw [qF h.1,qF h.2];rfl
 | rp x=>exact qF h
theorem vH (n:Nat) {x:PC}{m:List Ob}(h:x.c8):aa M Ft (n+7) 37 [x.val] m=.ok (.str x.sh,m):=by
 cases x with
 | rp x=>exact nG (n+1) h
 | last=>
  rw [Ou]
  exact aq (m':=[]) rfl (az (s':=S1 (.obj 5 [])) rfl (bS rfl (nV rfl rfl)) rfl) rfl
 | soon d v w t=>
  obtain ⟨hn,hp⟩:=h
  have h1:=hn.nm.hl
  have h2:=hp.len
  rw [Ou]
  refine aq (m':=[]) (Ox (qG (x:=.soon d v w t) ⟨hn,hp⟩)) (az (s':=S1 (.obj 7 [.int v,t])) rfl (bS rfl (bS rfl (bS rfl (nV rfl (aC (aD (t:=.str ([115,111,111,110,32]++d++[32])) (u:=.str (qE w)) (s1:=S1 (.obj 7 [.int v,t])) (aD (t:=.str ([115,111,111,110,32]++d)) (u:=.str [32]) (s1:=S1 (.obj 7 [.int v,t])) (aD (t:=.str [115,111,111,110,32]) (u:=.str d) (s1:=S1 (.obj 7 [.int v,t])) rfl (bI (ts:=[.int v]) rfl hn.st) (a9 (by show 5+_<=_;omega))) rfl (a9 (by rw [List.length_append];show 5+_+1<=_;omega))) (aA (ts:=[t]) (s':=S1 (.obj 7 [.int v,t])) rfl (kH (n+1) hp)) (a9 (by simp only [List.length_append,List.length_cons,List.length_nil];omega)))))))) rfl) rfl
 | ft x y=>
  have h1:=kI h.1
  have h2:=kI h.2
  rw [Ou]
  refine aq (m':=[]) (Ox (qG (x:=.ft x y) h)) (az (s':=S1 (.obj 8 [x.val,y.val])) rfl (bS rfl (bS rfl (bS rfl (bS rfl (nV rfl (aC (aD (t:=.str ([102,114,111,109,32]++x.sh++[32,116,111,32])) (u:=.str y.sh) (s1:=S1 (.obj 8 [x.val,y.val])) (aD (t:=.str ([102,114,111,109,32]++x.sh)) (u:=.str [32,116,111,32]) (s1:=S1 (.obj 8 [x.val,y.val])) (aD (t:=.str [102,114,111,109,32]) (u:=.str x.sh) (s1:=S1 (.obj 8 [x.val,y.val])) rfl (aA (ts:=[x.val]) (s':=S1 (.obj 8 [x.val,y.val])) rfl (nG n h.1)) (a9 (by show 5+_<=_;omega))) rfl (a9 (by rw [List.length_append];show 5+_+4<=_;omega))) (aA (ts:=[y.val]) (s':=S1 (.obj 8 [x.val,y.val])) rfl (nG n h.2)) (a9 (by simp only [List.length_append,List.length_cons,List.length_nil];omega))))))))) rfl) rfl
theorem ZX {c:FT}{a b:FE}{s s1:S}{q:Res (T × S)}(h:c s=.ok (false,s1)) (k:b s1=q):nS c a b s=q:=by unfold nS;rw [h];exact k
def CD.c8:CD->Prop
 | .fin=>True
 | .no x=>x.c8
 | .pc x=>x.c8
noncomputable def CD.sh:CD->List Nat
 | .fin=>[101,110,100]
 | .no x=>[110,111,116,32]++x.sh
 | .pc x=>x.sh
theorem kJ {x:PC}(h:x.c8):x.sh.length<=300:=by
 cases x with
 | last=>show 4<=300;decide
 | soon d v w t=>
  have h1:=h.1.nm.hl
  have h2:=h.2.len
  simp only [PC.sh,List.length_append,List.length_cons,List.length_nil];omega
 | ft x y=>
  have h1:=kI h.1
  have h2:=kI h.2
  simp only [PC.sh,List.length_append,List.length_cons,List.length_nil];omega
 | rp x=>have:=kI (show x.c8 from h);show x.sh.length<=300;omega
theorem BZ {x:CD}(h:x.c8):noOwn x.val=true:=by
 cases x with
 | fin=>rfl
 | no x=>
  show (noOwn x.val&&true)=true
  rw [qG h];rfl
 | pc x=>exact qG h
theorem B0 {x:CD}(h:x.c8):x.sh.length<=310:=by
 cases x with
 | fin=>show 3<=310;decide
 | no x=>have:=kJ (show x.c8 from h);simp only [CD.sh,List.length_append,List.length_cons,List.length_nil];omega
 | pc x=>have:=kJ (show x.c8 from h);show x.sh.length<=310;omega
theorem GH (n:Nat) {x:CD}{m:List Ob}(h:x.c8):aa M Ft (n+8) 37 [x.val] m=.ok (.str x.sh,m):=by
 cases x with
 | pc x=>exact vH (n+1) h
 | fin=>
  rw [Ou]
  exact aq (m':=[]) rfl (az (s':=S1 (.obj 10 [])) rfl (bS rfl (bS rfl (bS rfl (bS rfl (bS rfl (bS rfl rfl)))))) rfl) rfl
 | no x=>
  have h1:=kJ (show x.c8 from h)
  rw [Ou]
  exact aq (m':=[]) (Ox (BZ (x:=.no x) h)) (az (s':=S1 (.obj 9 [x.val])) rfl (bS rfl (bS rfl (bS rfl (bS rfl (bS rfl (nV rfl (aC (aD (t:=.str [110,111,116,32]) (u:=.str x.sh) (s1:=S1 (.obj 9 [x.val])) rfl (aA (ts:=[x.val]) (s':=S1 (.obj 9 [x.val])) rfl (vH n h)) (a9 (by show 4+_<=_;omega))))))))))  rfl) rfl
def DD.c8:DD->Prop
 | .swap _ w t _=>kG w t
 | .join d v=>k6 d v
 | .pileN _ d v=>k6 d v
 | .add d v d2 v2=>k6 d v/\k6 d2 v2
 | _=>True
def B3 (e:Bool):List Nat:=if e then [115,119,97,112,32,101,118,101,114,121,32] else [115,119,97,112,32]
noncomputable def DD.sh:DD->List Nat
 | .drop=>[100,114,111,112]
 | .print=>[112,114,105,110,116]
 | .done=>[100,111,110,101]
 | .tell=>[116,101,108,108]
 | .say l=>[115,97,121,32]++(34::(l++[34]))
 | .swap e w _ l=>B3 e++qE w++[32]++(34::(l++[34]))
 | .join d _=>[106,111,105,110,32]++d
 | .pile a=>[112,105,108,101,32]++a++[]
 | .pileN a d _=>[112,105,108,101,32]++a++([32]++d)
 | .bring a=>[98,114,105,110,103,32]++a
 | .go a=>[103,111,32]++a
 | .add d _ d2 _=>[97,100,100,32]++d++[32]++d2
theorem vI {x:DD}(h:x.c8):noOwn x.val=true:=by
 cases x with
 | swap e w t l=>
  show (noOwn t&&(true&&(true&&true)))=true
  rw [(show kG w t from h).no];rfl
 | _=>rfl
theorem vJ (n:Nat) {x:DD}{m:List Ob}(ho:x.ok) (h:x.c8):aa M Ft (n+6) 38 [x.val] m=.ok (.str x.sh,m):=by
 rw [w38]
 refine aq (m':=[]) (Ox (vI h)) (az (s':=S1 x.val) rfl ?_ rfl) rfl
 show ah _ _ (S1 x.val)=_
 refine bS (by cases x<;>rfl) ?_
 cases x with
 | drop=>exact nV rfl rfl
 | print=>exact bS rfl (nV rfl rfl)
 | done=>exact bS rfl (bS rfl (nV rfl rfl))
 | tell=>exact bS rfl (bS rfl (bS rfl (bS rfl (bS rfl (bS rfl (bS rfl (bS rfl (bS rfl (bS rfl rfl)))))))))
 | say l=>
  have hl:=(show yC l from ho).hl
  exact bS rfl (bS rfl (bS rfl (nV rfl (aC (aD (t:=.str [115,97,121,32]) (u:=.str (34::(l++[34]))) (s1:=S1 (.obj 16 [.str l])) rfl (aA (ts:=[.str l]) (s':=S1 (.obj 16 [.str l])) rfl (lU (n+4) hl)) (a9 (by simp only [List.length_append,List.length_cons,List.length_nil];omega)))))))
 | swap e w t l=>
  have hl:=ho.2.hl
  have hp:kG w t:=h
  have h2:=hp.len
  have h3:(B3 e).length<=11:=by cases e<;>decide
  refine bS rfl (bS rfl (bS rfl (bS rfl (nV rfl (aC (aD (t:=.str (B3 e++qE w++[32])) (u:=.str (34::(l++[34]))) (s1:=S1 (.obj 17 [t,.str l,.bl e])) (aD (t:=.str (B3 e++qE w)) (u:=.str [32]) (s1:=S1 (.obj 17 [t,.str l,.bl e])) (aD (t:=.str (B3 e)) (u:=.str (qE w)) (s1:=S1 (.obj 17 [t,.str l,.bl e])) (by cases e<;>rfl) (aA (ts:=[t]) (s':=S1 (.obj 17 [t,.str l,.bl e])) rfl (kH n hp)) (a9 (by simp only [List.length_append,List.length_cons,List.length_nil];omega))) rfl (a9 (by simp only [List.length_append,List.length_cons,List.length_nil];omega))) (aA (ts:=[.str l]) (s':=S1 (.obj 17 [t,.str l,.bl e])) rfl (lU (n+4) hl)) (a9 (by simp only [List.length_append,List.length_cons,List.length_nil];omega))))))))
 | join d v=>
  have hn:k6 d v:=h
  have hl:=hn.nm.hl
  exact bS rfl (bS rfl (bS rfl (bS rfl (bS rfl (nV rfl (aC (aD (t:=.str [106,111,105,110,32]) (u:=.str d) (s1:=S1 (.obj 18 [.int v])) rfl (bI (ts:=[.int v]) rfl hn.st) (a9 (by show 5+_<=_;omega)))))))))
 | pile a=>
  have hl:=(show nA a from ho).hl
  exact bS rfl (bS rfl (bS rfl (bS rfl (bS rfl (bS rfl (nV rfl (aC (aD (t:=.str ([112,105,108,101,32]++a)) (u:=.str []) (s1:=S1 (.obj 19 [.str a,.non])) (aD (t:=.str [112,105,108,101,32]) (u:=.str a) (s1:=S1 (.obj 19 [.str a,.non])) rfl rfl (a9 (by show 5+_<=_;omega))) rfl (a9 (by rw [List.length_append];show 5+_+0<=_;omega))))))))))
 | pileN a d v=>
  have hl:=ho.1.hl
  have hn:k6 d v:=h
  have hd:=hn.nm.hl
  exact bS rfl (bS rfl (bS rfl (bS rfl (bS rfl (bS rfl (nV rfl (aC (aD (t:=.str ([112,105,108,101,32]++a)) (u:=.str ([32]++d)) (s1:=S1 (.obj 19 [.str a,.int v])) (aD (t:=.str [112,105,108,101,32]) (u:=.str a) (s1:=S1 (.obj 19 [.str a,.int v])) rfl rfl (a9 (by show 5+_<=_;omega))) (ZX (s1:=S1 (.obj 19 [.str a,.int v])) rfl (aD (t:=.str [32]) (u:=.str d) (s1:=S1 (.obj 19 [.str a,.int v])) rfl (bI (ts:=[.int v]) rfl hn.st) (a9 (by show 1+_<=_;omega)))) (a9 (by simp only [List.length_append,List.length_cons,List.length_nil];omega))))))))))
 | bring a=>
  have hl:=(show nA a from ho).hl
  exact bS rfl (bS rfl (bS rfl (bS rfl (bS rfl (bS rfl (bS rfl (nV rfl (aC (aD (t:=.str [98,114,105,110,103,32]) (u:=.str a) (s1:=S1 (.obj 20 [.str a])) rfl rfl (a9 (by show 6+_<=_;omega)))))))))))
 | go a=>
  have hl:=(show nA a from ho).hl
  exact bS rfl (bS rfl (bS rfl (bS rfl (bS rfl (bS rfl (bS rfl (bS rfl (nV rfl (aC (aD (t:=.str [103,111,32]) (u:=.str a) (s1:=S1 (.obj 21 [.str a])) rfl rfl (a9 (by show 3+_<=_;omega))))))))))))
 | add d v d2 v2=>
  have h1:=h.1.nm.hl
  have h2:=h.2.nm.hl
  exact bS rfl (bS rfl (bS rfl (bS rfl (bS rfl (bS rfl (bS rfl (bS rfl (bS rfl (nV rfl (aC (aD (t:=.str ([97,100,100,32]++d++[32])) (u:=.str d2) (s1:=S1 (.obj 22 [.int v,.int v2])) (aD (t:=.str ([97,100,100,32]++d)) (u:=.str [32]) (s1:=S1 (.obj 22 [.int v,.int v2])) (aD (t:=.str [97,100,100,32]) (u:=.str d) (s1:=S1 (.obj 22 [.int v,.int v2])) rfl (bI (ts:=[.int v]) rfl h.1.st) (a9 (by show 4+_<=_;omega))) rfl (a9 (by rw [List.length_append];show 4+_+1<=_;omega))) (bI (ts:=[.int v2]) rfl h.2.st) (a9 (by simp only [List.length_append,List.length_cons,List.length_nil];omega)))))))))))))
theorem yp (n:Nat) {a:List Nat}{m:List Ob}(h:nA a):aa M Ft (n+1) 38 [.obj 12 [.str a]] m=.ok (.str ([109,97,114,107,32]++a),m):=by
 have hl:=h.hl
 rw [w38]
 exact aq (m':=[]) rfl (az (s':=S1 (.obj 12 [.str a])) rfl (nV rfl (aC (aD (t:=.str [109,97,114,107,32]) (u:=.str a) (s1:=S1 (.obj 12 [.str a])) rfl rfl (a9 (by show 5+_<=_;omega))))) rfl) rfl
def LN.c8:LN->Prop
 | .mark _=>True
 | .bare x=>x.c8
 | .full c x=>c.c8/\x.c8
noncomputable def LN.sh:LN->List Nat
 | .mark a=>[109,97,114,107,32]++a
 | .bare x=>x.sh
 | .full c x=>c.sh++[58,32]++x.sh
theorem VS (x:RP) (b:List Nat):x.txt b=x.sh++b:=by cases x<;>simp [RP.txt,RP.sh]
theorem VT (x:PC) (b:List Nat):x.txt b=x.sh++b:=by cases x<;>simp [PC.txt,PC.sh,VS]
theorem VU (x:CD) (b:List Nat):x.txt b=x.sh++b:=by cases x<;>simp [CD.txt,CD.sh,VT]
theorem VV (x:DD) (b:List Nat):x.txt b=x.sh++b:=by
 cases x with
 | swap e w t l=>cases e<;>simp [DD.txt,DD.sh,Ov,B3]
 | _=>simp [DD.txt,DD.sh]
theorem VW (x:LN) (b:List Nat):x.txt b=x.sh++b:=by cases x<;>simp [LN.txt,LN.sh,VU,VV]
theorem nH {x:DD}(ho:x.ok) (h:x.c8):x.sh.length<=300:=by
 cases x with
 | say l=>have:=(show yC l from ho).hl;simp only [DD.sh,List.length_append,List.length_cons,List.length_nil];omega
 | swap e w t l=>
  have h1:=ho.2.hl
  have h2:=(show kG w t from h).len
  have h3:(B3 e).length<=11:=by cases e<;>decide
  simp only [DD.sh,List.length_append,List.length_cons,List.length_nil];omega
 | join d v=>have:=(show k6 d v from h).nm.hl;simp only [DD.sh,List.length_append,List.length_cons,List.length_nil];omega
 | pile a=>have:=(show nA a from ho).hl;simp only [DD.sh,List.length_append,List.length_cons,List.length_nil];omega
 | pileN a d v=>have h1:=ho.1.hl;have:=(show k6 d v from h).nm.hl;simp only [DD.sh,List.length_append,List.length_cons,List.length_nil];omega
 | bring a=>have:=(show nA a from ho).hl;simp only [DD.sh,List.length_append,List.length_cons,List.length_nil];omega
 | go a=>have:=(show nA a from ho).hl;simp only [DD.sh,List.length_append,List.length_cons,List.length_nil];omega
 | add d v d2 v2=>have h1:=h.1.nm.hl;have h2:=h.2.nm.hl;simp only [DD.sh,List.length_append,List.length_cons,List.length_nil];omega
 | _=>simp only [DD.sh,List.length_cons,List.length_nil];omega
theorem vK {x:LN}(h:x.c8):noOwn x.cond=true/\noOwn x.eV=true:=by
 cases x with
 | mark a=>exact ⟨rfl,rfl⟩
 | bare x=>exact ⟨rfl,vI h⟩
 | full c x=>exact ⟨BZ h.1,vI h.2⟩
theorem GI (c:CD):cy M.P.sub [3] c.val=some (.bl false):=by
 cases c with
 | fin=>rfl
 | no x=>rfl
 | pc x=>
  cases x with
  | rp x=>cases x<;>rfl
  | _=>rfl
theorem nI (n:Nat) {x:LN}{m:List Ob}(ho:x.ok) (h:x.c8):aa M Ft (n+9) 36 [x.val] m=.ok (.str x.sh,m):=by
 rw [w36]
 obtain ⟨h1,h2⟩:=vK h
 refine aq (m':=[]) ?_ (az (s':=S1 x.val) rfl ?_ rfl) rfl
 ·show ((noOwn x.cond&&(noOwn x.eV&&true))&&true)=true
  rw [h1,h2];rfl
 ·cases x with
  | mark a=>exact b8 (eM (s':=S1 (LN.mark a).val) (aR (t:=(LN.mark a).cond) rfl rfl) (aC (aA (ts:=[.obj 12 [.str a]]) (s':=S1 (LN.mark a).val) rfl (yp (n+7) ho))))
  | bare x=>exact b8 (eM (s':=S1 (LN.bare x).val) (aR (t:=(LN.bare x).cond) rfl rfl) (aC (aA (ts:=[x.val]) (s':=S1 (LN.bare x).val) rfl (vJ (n+2) ho h))))
  | full c x=>
   have l1:=B0 h.1
   have l2:=nH ho.2 h.2
   exact seq1 (s':=S1 (LN.full c x).val) (bq (s':=S1 (LN.full c x).val) (aR (t:=c.val) rfl (GI c)) rfl) (aC (aD (t:=.str (c.sh++[58,32])) (u:=.str x.sh) (s1:=S1 (LN.full c x).val) (aD (t:=.str c.sh) (u:=.str [58,32]) (s1:=S1 (LN.full c x).val) (aA (ts:=[c.val]) (s':=S1 (LN.full c x).val) rfl (GH n h.1)) rfl (a9 (by show _+2<=_;omega))) (aA (ts:=[x.val]) (s':=S1 (LN.full c x).val) rfl (vJ (n+2) ho.2 h.2)) (a9 (by rw [List.length_append];show _+2+_<=_;omega))))
theorem ug {x:LN}(ho:x.ok) (h:x.c8):x.sh.length<=700:=by
 cases x with
 | mark a=>have:=(show nA a from ho).hl;simp only [LN.sh,List.length_append,List.length_cons,List.length_nil];omega
 | bare x=>have:=nH (show x.ok from ho) h;show x.sh.length<=700;omega
 | full c x=>have l1:=B0 h.1;have l2:=nH ho.2 h.2;simp only [LN.sh,List.length_append,List.length_cons,List.length_nil];omega
theorem c6 {α:Type}{g:FG}{e:FE}{b:List (Option C)}{m:List Ob}(v f:α->T):∀ {l:List α},(∀ x∈l,∃ b1 b2,g (v x) b=some b1/\e ⟨b1,m⟩=.ok (f x,⟨b2,m⟩))->du g dE e b (l.map v) m=.ok (l.map f,m)
 | [],_=>rfl
 | x::l,h=>by
  obtain ⟨b1,b2,h1,h2⟩:=h x (List.mem_cons_self ..)
  rw [List.map_cons,du,h1]
  refine Eq.trans (bH _ _) ?_
  show Res.bind (e ⟨b1,m⟩) _=_
  rw [h2]
  show Res.bind (du g dE e b (l.map v) m) _=_
  rw [c6 v f fun y hy=>h y (List.mem_cons_of_mem _ hy)]
  rfl
def GJ (xs:List LN):List (List Nat):=xs.map fun x=>x.sh++[10]
theorem vL:∀ {xs:List LN},(∀ x∈xs,x.ok/\x.c8)->(GJ xs).flatten.length<=701*xs.length
 | [],_=>Nat.le_refl _
 | x::xs,h=>by
  have h1:=h x (List.mem_cons_self ..)
  have h2:=ug h1.1 h1.2
  have h3:=vL (xs:=xs) fun y hy=>h y (List.mem_cons_of_mem _ hy)
  show ((x.sh++[10])++(GJ xs).flatten).length<=_
  rw [List.length_append,List.length_append,List.length_singleton,List.length_cons]
  omega
theorem B4 (n:Nat) {xs:List LN}{m:List Ob}(h:∀ x∈xs,x.ok/\x.c8) (hl:xs.length<=24):aa M Ft (n+10) 35 [.obj 0 [.lst (aX xs)]] m=.ok (.str (GJ xs).flatten,m):=by
 rw [w35]
 have ZM:∀ xs:List LN,(∀ x∈xs,x.ok/\x.c8)->aO (aX xs)=true:=fun xs=>by
  induction xs with
  | nil=>exact fun _=>rfl
  | cons x xs ih=>
   intro h
   obtain ⟨h1,h2⟩:=vK (h x (List.mem_cons_self ..)).2
   show ((noOwn x.cond&&(noOwn x.eV&&true))&&aO (aX xs))=true
   rw [h1,h2,ih fun y hy=>h y (List.mem_cons_of_mem _ hy)];rfl
 have ej:=join_eq (l:=GJ xs) (by have:=vL h;omega)
 have e:dc (bN (lF (aI M.P.tab 0 (vF 0))) 2 [] (setG 1) dE (oA (ai (aa M Ft (n+9) 36) [] (k1 (vF 1))) (cS [10]))) (S1 (.obj 0 [.lst (aX xs)]))=.ok (.lst ((GJ xs).map T.str),S1 (.obj 0 [.lst (aX xs)])):=by
  have em:(GJ xs).map T.str=xs.map fun x=>T.str (x.sh++[10]):=by unfold GJ;rw [List.map_map];rfl
  rw [em]
  refine fH (fG (ts:=aX xs) (s1:=S1 (.obj 0 [.lst (aX xs)])) rfl (by rw [List.length_map];omega) (c6 LN.val (fun x=>T.str (x.sh++[10])) fun x hx=>?_))
  have C8:=h x hx
  have:=ug C8.1 C8.2
  exact ⟨[none,sv x.val],[none,sv x.val],rfl,aD (t:=.str x.sh) (u:=.str [10]) (s1:=⟨[none,sv x.val],[]⟩) (aA (ts:=[x.val]) (s':=⟨[none,sv x.val],[]⟩) rfl (nI n C8.1 C8.2)) rfl (a9 (by show _+1<=_;omega))⟩
 refine aq (m':=[]) ?_ (az (s':=S1 (.obj 0 [.lst (aX xs)])) rfl (aC ?_) rfl) rfl
 ·show ((aO (aX xs)&&true)&&true)=true
  rw [ZM xs h];rfl
 ·show jd joinM (cS []) (k1 (dc _)) (S1 (.obj 0 [.lst (aX xs)]))=_
  simp only [ev,bH,cN,e,ej]
def cellAt (ns:List Int) (k:Nat):Int:=ns.getD k 0
theorem GK (n:Nat) {ns:List Int}{k:Nat}{m:List Ob}:aa M Ft (n+1) 41 [.scr ns,.int (k:Nat)] m=.ok (.int (cellAt ns k),m):=by
 rw [w41]
 refine aq (m':=[]) rfl (az (s':=s2 (.scr ns) (.int (k:Nat))) rfl ?_ rfl) rfl
 show ah _ _ (s2 (.scr ns) (.int (k:Nat)))=_
 by_cases h:k<ns.length
 ·refine b8 (eM (s':=s2 (.scr ns) (.int (k:Nat))) ?_ (aC (aD (t:=.scr ns) (u:=.int (k:Nat)) rfl rfl ?_)))
  ·have e:decide (((k:Nat):Int)<(ns.length:Nat))=true:=decide_eq_true (by omega)
   simp only [ev,c7,bH,cN,br,fK,qg,e]
  ·show (atT ns (k:Int)).map T.int=_
   rw [kg h]
   unfold cellAt
   rw [List.getD_eq_getElem?_getD,List.getElem?_eq_getElem h]
   rfl
 ·refine seq1 (s':=s2 (.scr ns) (.int (k:Nat))) (bq (s':=s2 (.scr ns) (.int (k:Nat))) ?_ rfl) ?_
  ·have e:decide (((k:Nat):Int)<(ns.length:Nat))=false:=decide_eq_false (by omega)
   simp only [ev,c7,bH,cN,br,fK,qg,e]
  ·have:cellAt ns k=0:=by
    unfold cellAt
    rw [List.getD_eq_getElem?_getD,List.getElem?_eq_none (by omega)]
    rfl
   rw [this]
   rfl
theorem gc {i j:Int}(h:0<j):cO .Mod (.int i) (.int j)=some (.int (i % j)):=gK h
theorem iA {i j:Int}(h:0<j/\j<1073741824):cO .FloorDiv (.int i) (.int j)=some (.int (i/j)):=gK h
noncomputable def iX:List Nat:=[32,33,34,35,38,39,40,41,44,45,48,49,50,51,52,53,54,55,56,57,58,59,60,61,62,64,65,66,67,68,69,70,71,72,73,74,75,76,77,78,79,80,81,82,83,84,85,86,87,88,89,90,92,95,96,97,98,99,100,101,102,103,104,105,106,107,108,109,110,111,112,113,114,115,116,117,118,119,120,121,122,123,124,125,126]
noncomputable def cY:List Nat:=[32,33,34,35,36,38,39,40,41,42,43,44,45,46,48,49,50,51,52,53,54,55,56,57,58,59,60,61,62,63,64,65,66,67,68,69,70,71,72,73,74,75,76,77,78,79,80,81,82,83,84,85,86,87,88,89,90,91,92,95,96,97,98,99,100,101,102,103,104,105,106,107,108,109,110,111,112,113,114,115,116,117,118,119,120,121,122,123,124,125,126]
theorem VX:iX.all yE=true:=by decide +kernel
theorem VY:cY.all (fun c=>decide (c∈fq/\c≠93/\c≠94/\c≠47/\c<128))=true:=by decide +kernel
theorem ZY:cY.Nodup:=by decide +kernel
def kP (cell:Int):Nat:=iX.getD (cell % 85).toNat 0
theorem nJ {l:List Nat}{i:Int}{k:Nat}(hk:l.length=k) (h0:0<k):f9 (.str l) (.int (i % (k:Int)))=some (.str [l.getD (i % (k:Int)).toNat 0]):=by
 have h1:0<=i % (k:Int):=Int.emod_nonneg _ (by omega)
 have h2:i % (k:Int)<k:=Int.emod_lt_of_pos _ (by omega)
 have e:((i % (k:Int)).toNat:Int)=i % (k:Int):=by omega
 have dI:(i % (k:Int)).toNat<l.length:=by omega
 show (atT l (i % (k:Int))).map _=_
 rw [<- e,kg dI,List.getD_eq_getElem?_getD,List.getElem?_eq_getElem dI,Int.toNat_natCast,List.getElem?_eq_getElem dI]
 rfl
theorem B5 (cell:Int):yE (kP cell)=true:=by
 unfold kP
 have h1:0<=cell % 85:=Int.emod_nonneg _ (by decide)
 have h2:cell % 85<85:=Int.emod_lt_of_pos _ (by decide)
 have dI:(cell % 85).toNat<iX.length:=by show _<85;omega
 rw [List.getD_eq_getElem?_getD,List.getElem?_eq_getElem dI]
 exact List.all_eq_true.mp VX _ (List.getElem_mem dI)
theorem lV (n:Nat) {cell:Int}{m:List Ob}:aa M Ft (n+1) 43 [.int cell] m=.ok (.str [kP cell],m):=by
 rw [w43]
 exact aq (m':=[]) rfl (az (s':=s2 (.int cell) (.str iX)) rfl (seq1 (s':=s2 (.int cell) (.str iX)) rfl (aC (aD (t:=.str iX) (u:=.int (cell % 85)) rfl (aD (t:=.int cell) (u:=.int 85) rfl rfl (gc (by decide))) (nJ (k:=85) rfl (by decide))))) rfl) rfl
def eL (cell:Int):Int:=1+cell/12 % 6
def B6 (cell:Int) (k:Nat):Nat:=cY.getD ((cell/72+eL cell*(0+(k:Int))) % 91).toNat 0
def b7 (cell:Int):List Nat:=(List.range (1+cell % 12).toNat).map (B6 cell)
theorem gf:∀ l:List Nat,(l.map fun c=>[c]).flatten=l
 | []=>rfl
 | c::l=>by rw [List.map_cons,List.flatten_cons,gf l];rfl
theorem gh (cell:Int):1<=(b7 cell).length/\(b7 cell).length<=12:=by
 unfold b7
 rw [List.length_map,List.length_range]
 have h1:0<=cell % 12:=Int.emod_nonneg _ (by decide)
 have h2:cell % 12<12:=Int.emod_lt_of_pos _ (by decide)
 omega
theorem NU (n:Nat) {cell:Int}{m:List Ob}:aa M Ft (n+1) 42 [.int cell] m=.ok (.str (b7 cell),m):=by
 rw [w42]
 have h1:0<=cell % 12:=Int.emod_nonneg _ (by decide)
 have h2:cell % 12<12:=Int.emod_lt_of_pos _ (by decide)
 have h3:0<=cell/12 % 6:=Int.emod_nonneg _ (by decide)
 have h4:cell/12 % 6<6:=Int.emod_lt_of_pos _ (by decide)
 have qH:∀ i j:Int,cO .Add (.int i) (.int j)=some (.int (i+j)):=fun _ _=>rfl
 refine aq (m':=[]) rfl (az (s':=⟨[sv (.int cell),sv (.str cY),sv (.int (eL cell))],[]⟩) rfl (seq1 (s':=⟨[sv (.int cell),sv (.str cY),none],[]⟩) rfl (seq1 (s':=⟨[sv (.int cell),sv (.str cY),sv (.int (eL cell))],[]⟩) ?_ (aC ?_))) rfl) rfl
 ·simp only [ev,c7,bH,cN,iA (i:=cell) (j:=12) (by decide),gc (i:=cell/12) (j:=6) (by decide),qH]
  rfl
 ·have e:dc (bN (sU g9 (k1 (oA (cI 1) (oM (vF 0) (cI 12))))) 2 [0,1,2] (setG 1) dE (oI (vF 3) (oM (oA (oD (vF 2) (cI 72)) (bB (cO .Mult) (vF 4) (vF 1))) (cI 91)))) ⟨[sv (.int cell),sv (.str cY),sv (.int (eL cell))],[]⟩=.ok (.lst (((b7 cell).map fun c=>[c]).map T.str),⟨[sv (.int cell),sv (.str cY),sv (.int (eL cell))],[]⟩):=by
   have em:((b7 cell).map fun c=>[c]).map T.str=(List.range (1+cell % 12).toNat).map fun k=>T.str [B6 cell k]:=by
    unfold b7;rw [List.map_map,List.map_map];rfl
   rw [em]
   refine fH (fG (ts:=(List.range (1+cell % 12).toNat).map fun k=>T.int (0+(k:Nat))) (s1:=⟨[sv (.int cell),sv (.str cY),sv (.int (eL cell))],[]⟩) ?_ (by rw [List.length_map,List.length_range];omega) (c6 (fun k:Nat=>T.int (0+(k:Nat))) (fun k=>T.str [B6 cell k]) fun k _=>?_))
   ·have er:g9 [.int (1+cell % 12)]=some (qQ 0 (1+cell % 12).toNat):=gK (by omega)
    unfold sU
    simp only [ev,c7,bH,cN,gc (i:=cell) (j:=12) (by decide),qH,er]
    rfl
   ·refine ⟨[none,sv (.int (0+(k:Nat))),sv (.int cell),sv (.str cY),sv (.int (eL cell))],[none,sv (.int (0+(k:Nat))),sv (.int cell),sv (.str cY),sv (.int (eL cell))],rfl,?_⟩
    have em:cO .Mult (.int (eL cell)) (.int (0+(k:Nat)))=some (.int (eL cell*(0+(k:Nat)))):=gK (.inl (by unfold eL;omega))
    exact aD (t:=.str cY) (u:=.int ((cell/72+eL cell*(0+(k:Int))) % 91)) rfl (aD (t:=.int (cell/72+eL cell*(0+(k:Int)))) (u:=.int 91) (aD (t:=.int (cell/72)) (u:=.int (eL cell*(0+(k:Int)))) (aD (t:=.int cell) (u:=.int 72) rfl rfl (iA (by decide))) (aD (t:=.int (eL cell)) (u:=.int (0+(k:Nat))) rfl rfl em) (qH _ _)) rfl (gc (by decide))) (nJ (k:=91) rfl (by decide))
  have ej:=join_eq (l:=(b7 cell).map fun c=>[c]) (by rw [gf];have:=(gh cell).2;omega)
  rw [gf] at ej
  simp only [ev,bH,cN,e,ej]
theorem vM (cell:Int):Sg (b7 cell):=by
 have h3:0<=cell/12 % 6:=Int.emod_nonneg _ (by decide)
 have h4:cell/12 % 6<6:=Int.emod_lt_of_pos _ (by decide)
 have h1:0<=cell % 12:=Int.emod_nonneg _ (by decide)
 have h2:cell % 12<12:=Int.emod_lt_of_pos _ (by decide)
 have hb:∀ i:Int,0<=i % 91/\i % 91<91:=fun i=>⟨Int.emod_nonneg _ (by decide),Int.emod_lt_of_pos _ (by decide)⟩
 have hg:∀ k,∃ dI:((cell/72+eL cell*(0+(k:Nat))) % 91).toNat<cY.length,B6 cell k=cY[((cell/72+eL cell*(0+((k:Nat):Int))) % 91).toNat]:=fun k=>by
  have:=hb (cell/72+eL cell*(0+((k:Nat):Int)))
  have dI:((cell/72+eL cell*(0+((k:Nat):Int))) % 91).toNat<cY.length:=by show _<91;omega
  refine ⟨dI,?_⟩
  unfold B6
  rw [List.getD_eq_getElem?_getD,List.getElem?_eq_getElem dI];rfl
 refine ⟨fun z=>?_,(gh cell).2,?_,fun c hc=>?_⟩
 ·have:=(gh cell).1
  rw [z] at this
  cases this
 ·unfold b7 List.Nodup
  rw [List.pairwise_map]
  refine List.Pairwise.imp_of_mem ?_ List.pairwise_lt_range
  intro a b ha Cq Fo
  have ha':=List.mem_range.mp ha
  have aaj:=List.mem_range.mp Cq
  obtain ⟨la,ea⟩:=hg a
  obtain ⟨lb,eb⟩:=hg b
  rw [ea,eb]
  intro z
  have:=(List.getElem_inj ZY).mp z
  unfold eL at this
  have hs:cell/12 % 6=0\/cell/12 % 6=1\/cell/12 % 6=2\/cell/12 % 6=3\/cell/12 % 6=4\/cell/12 % 6=5:=by omega
  generalize cell/72=q at this
  rcases hs with hs | hs | hs | hs | hs | hs<;>rw [hs] at this<;>omega
 ·obtain ⟨k,_,rfl⟩:=List.mem_map.mp hc
  obtain ⟨l,e⟩:=hg k
  rw [e]
  exact of_decide_eq_true (List.all_eq_true.mp VY _ (List.getElem_mem l))
def cA (cell:Int):Nat:=if cell % 4=0 then 49 else if cell % 4=1 then 42 else if cell % 4=2 then 43 else 63
def uh (sg:List Nat):Bool:=decide (1<sg.length) || decide (sg.headD 0∈[36,46,91,42,43,63])
def NV (cell:Int):IT:=if cell/4 % 5=2 then .any else if cell/4 % 5=3 then .neg (b7 (cell/20)) else if cell/4 % 5=4/\uh (b7 (cell/20))=true then .set (b7 (cell/20)) else .pl (kP (cell/20))
def dm (cell:Int):Itm:=⟨NV cell,cA cell⟩
theorem gi (cell:Int):(dm cell).ok:=by
 refine ⟨?_,?_⟩
 ·show (NV cell).ok
  unfold NV
  split
  ·trivial
  ·split
   ·exact vM _
   ·split
    ·rename_i h
     refine ⟨vM _,.inr fun c hc=>?_⟩
     have h2:=h.2
     unfold uh at h2
     rw [hc] at h2
     have hm:c∈[36,46,91,42,43,63]:=by simpa using h2
     unfold yE
     have:c∈NP:=by unfold NP;simp at hm ⊢;omega
     rw [decide_eq_true this]
     simp
    ·exact B5 _
 ·show cA cell=49\/cA cell=42\/cA cell=43\/cA cell=63
  unfold cA
  repeat' split
  all_goals simp
theorem ZZ (a b c d:T) (cell:Int):f9 (.lst [a,b,c,d]) (.int (cell % 4))=some (if cell % 4=0 then a else if cell % 4=1 then b else if cell % 4=2 then c else d):=by
 have h1:0<=cell % 4:=Int.emod_nonneg _ (by decide)
 have h2:cell % 4<4:=Int.emod_lt_of_pos _ (by decide)
 have h:cell % 4=0\/cell % 4=1\/cell % 4=2\/cell % 4=3:=by omega
 rcases h with h | h | h | h<;>rw [h]<;>rfl
theorem mn1 (cell:Int):(if cell % 4=0 then T.str [49] else if cell % 4=1 then .str [42] else if cell % 4=2 then .str [43] else .str [63])=.str [cA cell]:=by
 unfold cA
 repeat' split
 all_goals rfl
theorem mn2 (cell:Int):(if cell % 4=0 then T.str [] else if cell % 4=1 then .str [42] else if cell % 4=2 then .str [43] else .str [63])=.str (eW (cA cell)):=by
 unfold cA
 repeat' split
 all_goals rfl
theorem NW (a b c d:T):cK [a,b,c,d]=some (.lst [a,b,c,d]):=gK (by show 4<=1000;decide)
abbrev iG (cell:Int) (u:Option C):S:=⟨[sv (.int cell),sv (.str [cA cell]),sv (.str (eW (cA cell))),sv (.int (cell/4 % 5)),sv (.str (b7 (cell/20))),u],[]⟩
theorem iB (n:Nat) {cell:Int}{m:List Ob}:aa M Ft (n+2) 44 [.int cell] m=.ok (.tup [.str (dm cell).txt,(dm cell).val],m):=by
 rw [w44]
 have hl:=(gh (cell/20)).2
 have hm:(eW (cA cell)).length<=1:=by unfold eW;split<;>simp
 have fin:∀ (w:List Nat) (v:T) (u:Option C) (a b:FE),a (iG cell u)=.ok (.str (w++eW (cA cell)),iG cell u)->b (iG cell u)=.ok (v,iG cell u)->ak (aM aL (k2 a b)) (iG cell u)=.ok (.rt (.tup [.str (w++eW (cA cell)),v]),iG cell u):=fun w v u a b h1 h2=>aC (bI (ts:=[.str (w++eW (cA cell)),v]) (au h1 (au h2 rfl)) (BN _ _))
 have um:∀ (B:FS) (t:T) (u:Option C),B (iG cell none)=.ok (.rt t,iG cell u)->ah (aE 1 (oI (aM cK (cM (cS [49]) (k3 (cS [42]) (cS [43]) (cS [63])))) (oM (vF 0) (cI 4))))
   (ah (aE 2 (oI (aM cK (cM (cS []) (k3 (cS [42]) (cS [43]) (cS [63])))) (oM (vF 0) (cI 4))))
   (ah (aE 3 (oM (oD (vF 0) (cI 4)) (cI 5)))
   (ah (aE 4 (ai (aa M Ft (n+1) 42) [] (k1 (oD (vF 0) (cI 20))))) B))) ⟨[sv (.int cell),none,none,none,none,none],[]⟩=.ok (.rt t,iG cell u):=fun B t u h=>by
  refine seq1 (bg (t:=.str [cA cell]) (s':=⟨[sv (.int cell),none,none,none,none,none],[]⟩) (aD (t:=.lst [.str [49],.str [42],.str [43],.str [63]]) (u:=.int (cell % 4)) (bI (ts:=[.str [49],.str [42],.str [43],.str [63]]) rfl (NW _ _ _ _)) (aD (t:=.int cell) (u:=.int 4) rfl rfl (gc (by decide))) ((ZZ _ _ _ _ cell).trans (by rw [mn1])))) ?_
  refine seq1 (bg (t:=.str (eW (cA cell))) (s':=⟨[sv (.int cell),sv (.str [cA cell]),none,none,none,none],[]⟩) (aD (t:=.lst [.str [],.str [42],.str [43],.str [63]]) (u:=.int (cell % 4)) (bI (ts:=[.str [],.str [42],.str [43],.str [63]]) rfl (NW _ _ _ _)) (aD (t:=.int cell) (u:=.int 4) rfl rfl (gc (by decide))) ((ZZ _ _ _ _ cell).trans (by rw [mn2])))) ?_
  refine seq1 (bg (t:=.int (cell/4 % 5)) (s':=⟨[sv (.int cell),sv (.str [cA cell]),sv (.str (eW (cA cell))),none,none,none],[]⟩) (aD (t:=.int (cell/4)) (u:=.int 5) (aD (t:=.int cell) (u:=.int 4) rfl rfl (iA (by decide))) rfl (gc (by decide)))) ?_
  refine seq1 (bg (t:=.str (b7 (cell/20))) (aA (ts:=[.int (cell/20)]) (s':=⟨[sv (.int cell),sv (.str [cA cell]),sv (.str (eW (cA cell))),sv (.int (cell/4 % 5)),none,none],[]⟩) (au (aD (t:=.int cell) (u:=.int 20) rfl rfl (iA (by decide))) rfl) (NU n))) ?_
  exact h
 have yq:∀ (k:Int) (u:Option C),_root_.D.a_ (oE (vF 3) (cI k)) (iG cell u)=.ok (decide (cell/4 % 5=k),iG cell u):=fun k u=>by
  simp only [ev,c7,bH,cN,t_]
 have tp:∀ (a b c:T) (fl:FL) (s:S),fl s=.ok ([a,b,c],s)->aM aL fl s=.ok (.tup [a,b,c],s):=fun a b c fl s h=>bI h (tY _ _ _)
 by_cases h2:cell/4 % 5=2
 ·have ek:dm cell=⟨.any,cA cell⟩:=by unfold dm NV;rw [if_pos h2]
  rw [ek]
  refine aq (m':=[]) rfl (az (s':=iG cell none) rfl (um _ _ none (b8 (eM (s':=iG cell none) ((yq 2 none).trans (by rw [decide_eq_true h2])) (fin [46] _ none _ _ (aD (t:=.str [46]) (u:=.str (eW (cA cell))) rfl rfl (a9 (by show 1+_<=_;omega))) (tp (.str []) (.bl true) (.str [cA cell]) _ _ rfl))))) rfl) rfl
 ·have e2:=(yq 2 none).trans (by rw [decide_eq_false h2])
  by_cases h3:cell/4 % 5=3
  ·have ek:dm cell=⟨.neg (b7 (cell/20)),cA cell⟩:=by unfold dm NV;rw [if_neg h2,if_pos h3]
   rw [ek]
   refine aq (m':=[]) rfl (az (s':=iG cell none) rfl (um _ _ none (seq1 (bq e2 rfl) (b8 (eM (s':=iG cell none) ((yq 3 none).trans (by rw [decide_eq_true h3])) (fin ([91,94]++b7 (cell/20)++[93]) _ none _ _ (aD (t:=.str ([91,94]++b7 (cell/20)++[93])) (u:=.str (eW (cA cell))) (aD (t:=.str ([91,94]++b7 (cell/20))) (u:=.str [93]) (aD (t:=.str [91,94]) (u:=.str (b7 (cell/20))) rfl rfl (a9 (by show 2+_<=_;omega))) rfl (a9 (by rw [List.length_append];show 2+_+1<=_;omega))) rfl (a9 (by rw [List.length_append,List.length_append];show 2+_+1+_<=_;omega))) (tp (.str (b7 (cell/20))) (.bl true) (.str [cA cell]) _ _ rfl)))))) rfl) rfl
  ·have e3:=(yq 3 none).trans (by rw [decide_eq_false h3])
   have ec:ee (_root_.D.a_ (oE (vF 3) (cI 4))) (eS (_root_.D.a_ (bB (aN .Gt) (aM br (k1 (vF 4))) (cI 1))) (_root_.D.a_ (bB (aN .In) (vF 4) (cS [36,46,91,42,43,63])))) (iG cell none)=.ok (decide (cell/4 % 5=4)&&uh (b7 (cell/20)),iG cell none):=by
    unfold ee
    rw [yq 4 none]
    refine Eq.trans (bH _ _) ?_
    cases decide (cell/4 % 5=4) with
    | false=>rfl
    | true=>
     show eS _ _ (iG cell none)=_
     have eg:_root_.D.a_ (bB (aN .Gt) (aM br (k1 (vF 4))) (cI 1)) (iG cell none)=.ok (decide (1<(b7 (cell/20)).length),iG cell none):=by
      have:decide ((1:Int)<((b7 (cell/20)).length:Nat))=decide (1<(b7 (cell/20)).length):=by apply decide_eq_decide.mpr;omega
      simp only [ev,c7,bH,cN,br,fK,kZ,this]
     unfold eS
     rw [eg]
     refine Eq.trans (bH _ _) ?_
     unfold uh
     by_cases hz:1<(b7 (cell/20)).length
     ·rw [decide_eq_true hz];rfl
     ·rw [decide_eq_false hz]
      have h1:(b7 (cell/20)).length=1:=by have:=(gh (cell/20)).1;omega
      obtain ⟨c,hc⟩:=List.length_eq_one_iff.mp h1
      show _root_.D.a_ _ (iG cell none)=_
      have ei:aN .In (.str (b7 (cell/20))) (.str [36,46,91,42,43,63])=some (.bl (decide (c∈[36,46,91,42,43,63]))):=by rw [hc];rfl
      have eh:(b7 (cell/20)).headD 0=c:=by rw [hc];rfl
      rw [eh]
      simp only [ev,c7,bH,cN,ei]
      rfl
   by_cases h4:cell/4 % 5=4/\uh (b7 (cell/20))=true
   ·have ek:dm cell=⟨.set (b7 (cell/20)),cA cell⟩:=by unfold dm NV;rw [if_neg h2,if_neg h3,if_pos h4]
    rw [ek]
    refine aq (m':=[]) rfl (az (s':=iG cell none) rfl (um _ _ none (seq1 (bq e2 rfl) (seq1 (bq e3 rfl) (b8 (eM (s':=iG cell none) (ec.trans (by rw [decide_eq_true h4.1,h4.2];rfl)) (fin ([91]++b7 (cell/20)++[93]) _ none _ _ (aD (t:=.str ([91]++b7 (cell/20)++[93])) (u:=.str (eW (cA cell))) (aD (t:=.str ([91]++b7 (cell/20))) (u:=.str [93]) (aD (t:=.str [91]) (u:=.str (b7 (cell/20))) rfl rfl (a9 (by show 1+_<=_;omega))) rfl (a9 (by rw [List.length_append];show 1+_+1<=_;omega))) rfl (a9 (by rw [List.length_append,List.length_append];show 1+_+1+_<=_;omega))) (tp (.str (b7 (cell/20))) (.bl false) (.str [cA cell]) _ _ rfl))))))) rfl) rfl
   ·have ek:dm cell=⟨.pl (kP (cell/20)),cA cell⟩:=by unfold dm NV;rw [if_neg h2,if_neg h3,if_neg h4]
    have ef:(decide (cell/4 % 5=4)&&uh (b7 (cell/20)))=false:=by
     cases hq:(decide (cell/4 % 5=4)&&uh (b7 (cell/20))) with
     | false=>rfl
     | true=>
      rw [Bool.and_eq_true] at hq
      exact absurd ⟨of_decide_eq_true hq.1,hq.2⟩ h4
    rw [ek]
    refine aq (m':=[]) rfl (az (s':=iG cell (sv (.str [kP (cell/20)]))) rfl (um _ _ (sv (.str [kP (cell/20)])) (seq1 (bq e2 rfl) (seq1 (bq e3 rfl) (seq1 (s':=iG cell none) (bq (s':=iG cell none) (ec.trans (by rw [ef])) rfl) (seq1 (s':=iG cell (sv (.str [kP (cell/20)]))) (bg (aA (ts:=[.int (cell/20)]) (s':=iG cell none) (au (aD (t:=.int cell) (u:=.int 20) rfl rfl (iA (by decide))) rfl) (lV n))) (fin [kP (cell/20)] _ (sv (.str [kP (cell/20)])) _ _ (aD (t:=.str [kP (cell/20)]) (u:=.str (eW (cA cell))) rfl rfl (a9 (by show 1+_<=_;omega))) (tp (.str [kP (cell/20)]) (.bl false) (.str [cA cell]) _ _ rfl))))))) rfl) rfl
def nmB (v:Int):Bool:=(cT v).all (fun c=>decide (c∈ym))&&!(cT v).isEmpty&&!pre [48] (cT v)&&decide ((cT v).length<=3)&&decide (PySem.intText? ⟨(cT v).toArray⟩=some v)&&decide (v.natAbs.log2<1920)
theorem NX:(List.range 999).all (fun i=>nmB ((i:Int)+1))=true:=by decide +kernel
theorem iY {v:Int}(h1:1<=v) (h2:v<=999):k6 (cT v) v:=by
 have h:=List.all_eq_true.mp NX (v-1).toNat (List.mem_range.mpr (by omega))
 rw [show (((v-1).toNat:Int)+1)=v by omega] at h
 unfold nmB at h
 simp only [Bool.and_eq_true,decide_eq_true_eq] at h
 obtain ⟨⟨⟨⟨⟨a,b⟩,c⟩,d⟩,e⟩,f⟩:=h
 refine ⟨⟨fun x hx=>of_decide_eq_true (List.all_eq_true.mp a x hx),fun z=>?_,by simpa using c,d,?_⟩,gK ⟨f,by omega⟩⟩
 ·rw [z] at b;cases b
 ·show (PySem.intText? ⟨(cT v).toArray⟩).bind _=_
  rw [e]
  exact gK (by omega)
def bz (cell:Int):Bool:=decide (cell % 3=1)
def cZ (cell:Int):Bool:=decide (cell/3 % 3=1)
abbrev bx (its:List Itm):List T:=its.map fun i=>.tup [.str i.txt,i.val]
theorem iZ:∀ its:List Itm,(its.map Itm.txt).flatten=aQ its
 | []=>rfl
 | i::r=>by
  show (i.k.core++eW i.mn)++(r.map Itm.txt).flatten=_
  rw [iZ r,List.append_assoc];rfl
abbrev kK (cell:Int) (its:List Itm) (w:List Nat):S:=⟨[sv (.int cell),sv (.lst (bx its)),sv (.bl (bz cell)),sv (.bl (cZ cell)),sv (.str w)],[]⟩
theorem jh:∀ its:List Itm,aO (bx its)=true
 | []=>rfl
 | i::r=>by
  show ((true&&((true&&(true&&(true&&true)))&&true))&&aO (bx r))=true
  rw [jh r];rfl
theorem nK (n:Nat) {cell:Int}{its:List Itm}{m:List Ob}(h:∀ i∈its,i.ok) (hl:its.length<=8):aa M Ft (n+1) 45 [.int cell,.lst (bx its)] m=.ok (.tup [.str (bC (bz cell) its (cZ cell)),bc (bz cell) its (cZ cell)],m):=by
 have hx:=kC h
 rw [w45]
 refine aq (m':=[]) ?_ (az (s':=kK cell its (bC (bz cell) its (cZ cell))) rfl (seq1 (s':=⟨[sv (.int cell),sv (.lst (bx its)),sv (.bl (bz cell)),none,none],[]⟩) ?_ (seq1 (s':=⟨[sv (.int cell),sv (.lst (bx its)),sv (.bl (bz cell)),sv (.bl (cZ cell)),none],[]⟩) ?_ (seq1 (s':=kK cell its (aQ its)) ?_ (seq1 (s':=kK cell its (fT (bz cell)++aQ its)) ?_ (seq1 (s':=kK cell its (bC (bz cell) its (cZ cell))) ?_ (aC ?_)))))) rfl) ?_
 ·show (true&&(aO (bx its)&&true))=true
  rw [jh];rfl
 ·exact bg (t:=.bl (bz cell)) (s':=⟨[sv (.int cell),sv (.lst (bx its)),none,none,none],[]⟩) (aD (t:=.int (cell % 3)) (u:=.int 1) (aD (t:=.int cell) (u:=.int 3) rfl rfl (gc (by decide))) rfl (t_ _ _))
 ·exact bg (t:=.bl (cZ cell)) (s':=⟨[sv (.int cell),sv (.lst (bx its)),sv (.bl (bz cell)),none,none],[]⟩) (aD (t:=.int (cell/3 % 3)) (u:=.int 1) (aD (t:=.int (cell/3)) (u:=.int 3) (aD (t:=.int cell) (u:=.int 3) rfl rfl (iA (by decide))) rfl (gc (by decide))) rfl (t_ _ _))
 ·have e:dc (bN (lF (vF 1)) 2 [] (setG 1) dE (oI (vF 1) (cI 0))) ⟨[sv (.int cell),sv (.lst (bx its)),sv (.bl (bz cell)),sv (.bl (cZ cell)),none],[]⟩=.ok (.lst ((its.map Itm.txt).map T.str),⟨[sv (.int cell),sv (.lst (bx its)),sv (.bl (bz cell)),sv (.bl (cZ cell)),none],[]⟩):=by
   rw [List.map_map]
   refine fH (fG (ts:=bx its) (s1:=⟨[sv (.int cell),sv (.lst (bx its)),sv (.bl (bz cell)),sv (.bl (cZ cell)),none],[]⟩) rfl (by rw [List.length_map];omega) (c6 (fun i:Itm=>.tup [.str i.txt,i.val]) (T.str∘Itm.txt) fun i _=>?_))
   exact ⟨[none,sv (.tup [.str i.txt,i.val])],[none,sv (.tup [.str i.txt,i.val])],rfl,rfl⟩
  have ej:=join_eq (l:=its.map Itm.txt) (by rw [iZ];omega)
  rw [iZ] at ej
  refine bg (s':=⟨[sv (.int cell),sv (.lst (bx its)),sv (.bl (bz cell)),sv (.bl (cZ cell)),none],[]⟩) ?_
  simp only [ev,bH,cN,e,ej]
 ·have e:_root_.D.tB (vF 2) (kK cell its (aQ its))=.ok (bz cell,kK cell its (aQ its)):=rfl
  by_cases hf:bz cell=true
  ·rw [show fT (bz cell)=[94] by rw [hf];rfl]
   exact eM (s':=kK cell its (aQ its)) (e.trans (congrArg (fun z=>Res.ok (z,kK cell its (aQ its))) hf)) (bg (aD (t:=.str [94]) (u:=.str (aQ its)) (s1:=kK cell its (aQ its)) (s2:=kK cell its (aQ its)) rfl rfl (a9 (by show 1+_<=_;omega))))
  ·have hf:bz cell=false:=by cases q:bz cell with | true=>exact absurd q hf | false=>rfl
   rw [show fT (bz cell)=[] by rw [hf];rfl]
   exact bq (s':=kK cell its (aQ its)) (e.trans (congrArg (fun z=>Res.ok (z,kK cell its (aQ its))) hf)) rfl
 ·have hlen:(fT (bz cell)++aQ its).length<=200:=by
   rw [List.length_append]
   have:(fT (bz cell)).length<=1:=by cases bz cell<;>decide
   omega
  have e:_root_.D.tB (vF 3) (kK cell its (fT (bz cell)++aQ its))=.ok (cZ cell,kK cell its (fT (bz cell)++aQ its)):=rfl
  by_cases hb:cZ cell=true
  ·have ep:bC (bz cell) its (cZ cell)=fT (bz cell)++aQ its++[36]:=by unfold bC;rw [hb,List.append_assoc];rfl
   rw [ep]
   exact eM (s':=kK cell its (fT (bz cell)++aQ its)) (e.trans (congrArg (fun z=>Res.ok (z,kK cell its (fT (bz cell)++aQ its))) hb)) (bg (aD (t:=.str (fT (bz cell)++aQ its)) (u:=.str [36]) (s1:=kK cell its (fT (bz cell)++aQ its)) (s2:=kK cell its (fT (bz cell)++aQ its)) rfl rfl (a9 (by show _+1<=_;omega))))
  ·have hb:cZ cell=false:=by cases q:cZ cell with | true=>exact absurd q hb | false=>rfl
   have ep:bC (bz cell) its (cZ cell)=fT (bz cell)++aQ its:=by unfold bC;rw [hb,show bT false=[] from rfl,List.append_nil]
   rw [ep]
   exact bq (s':=kK cell its (fT (bz cell)++aQ its)) (e.trans (congrArg (fun z=>Res.ok (z,kK cell its (fT (bz cell)++aQ its))) hb)) rfl
 ·have e:dc (bN (lF (vF 1)) 2 [] (setG 1) dE (oI (vF 1) (cI 1))) (kK cell its (bC (bz cell) its (cZ cell)))=.ok (.lst (its.map Itm.val),kK cell its (bC (bz cell) its (cZ cell))):=by
   refine fH (fG (ts:=bx its) (s1:=kK cell its (bC (bz cell) its (cZ cell))) rfl (by rw [List.length_map];omega) (c6 (fun i:Itm=>.tup [.str i.txt,i.val]) Itm.val fun i _=>?_))
   exact ⟨[none,sv (.tup [.str i.txt,i.val])],[none,sv (.tup [.str i.txt,i.val])],rfl,rfl⟩
  exact bI (ts:=[.str (bC (bz cell) its (cZ cell)),bc (bz cell) its (cZ cell)]) (au (t:=.str (bC (bz cell) its (cZ cell))) rfl (au (bI (ts:=[.bl (bz cell),.lst (its.map Itm.val),.bl (cZ cell)]) (au (t:=.bl (bz cell)) rfl (au e rfl)) (tY _ _ _)) rfl)) (BN _ _)
 ·show (true&&(noOwn (bc (bz cell) its (cZ cell))&&true))=true
  rw [c5];rfl
def IA (r:Int):Nat:=dF.getD (r % 26).toNat 0
def GL:Nat->Int->List Nat
 | 0,_=>[]
 | j+1,r=>IA r::GL j (r/26)
theorem NY (r:Int):IA r∈dF:=by
 unfold IA
 have h1:0<=r % 26:=Int.emod_nonneg _ (by decide)
 have h2:r % 26<26:=Int.emod_lt_of_pos _ (by decide)
 have dI:(r % 26).toNat<dF.length:=by show _<26;omega
 rw [List.getD_eq_getElem?_getD,List.getElem?_eq_getElem dI]
 exact List.getElem_mem dI
theorem B7:∀ (j:Nat) (r:Int),∀ c∈GL j r,c∈dF
 | 0,_,c,h=>by cases h
 | j+1,r,c,h=>by
  rcases List.mem_cons.mp h with z | z
  ·rw [z];exact NY r
  ·exact B7 j _ c z
theorem vN:∀ (j:Nat) (r:Int),(GL j r).length=j
 | 0,_=>rfl
 | j+1,r=>by show (GL j (r/26)).length+1=_;rw [vN j]
def aS (cell:Int):List Nat:=GL (1+cell % 8).toNat (cell/8 % 26 ^ 8)
theorem nL (cell:Int):nA (aS cell):=by
 have h1:0<=cell % 8:=Int.emod_nonneg _ (by decide)
 have h2:cell % 8<8:=Int.emod_lt_of_pos _ (by decide)
 have e:(aS cell).length=(1+cell % 8).toNat:=vN _ _
 refine ⟨B7 _ _,fun z=>?_,by omega⟩
 rw [z] at e
 have:(0:Nat)=(1+cell % 8).toNat:=e
 omega
theorem qH (i j:Int):cO .Add (.int i) (.int j)=some (.int (i+j)):=rfl
abbrev IB (cell rest:Int) (w:List Nat) (u:Option C):S:=⟨[sv (.int cell),sv (.int rest),sv (.str w),u],[]⟩
theorem vO {cell:Int}:∀ (ts:List T) (rest:Int) (w:List Nat) (u:Option C),w.length+ts.length<=100->∃ u' r',dJ (setG 3) (ah (aE 2 (oA (vF 2) (oI (cS dF) (oM (vF 1) (cI 26))))) (aE 1 (oD (vF 1) (cI 26)))) ts (IB cell rest w u)=.ok (.nx,IB cell r' (w++GL ts.length rest) u')
 | [],rest,w,u,_=>⟨u,rest,by rw [show w++GL [].length rest=w from List.append_nil _];rfl⟩
 | t::ts,rest,w,u,h=>by
  rw [List.length_cons] at h
  obtain ⟨u',r',e⟩:=vO (cell:=cell) ts (rest/26) (w++[IA rest]) (sv t) (by rw [List.length_append];show w.length+1+_<=_;omega)
  have e1:w++GL (t::ts).length rest=w++[IA rest]++GL ts.length (rest/26):=by
   rw [List.append_assoc];rfl
  rw [e1]
  refine ⟨u',r',eB (r:=[sv (.int cell),sv (.int rest),sv (.str w),sv t]) rfl (seq1 (s':=IB cell rest (w++[IA rest]) (sv t)) ?_ (bg (s':=IB cell rest (w++[IA rest]) (sv t)) (aD (t:=.int rest) (u:=.int 26) rfl rfl (iA (by decide))))) e⟩
  exact bg (s':=IB cell rest w (sv t)) (aD (t:=.str w) (u:=.str [IA rest]) rfl (aD (t:=.str dF) (u:=.int (rest % 26)) rfl (aD (t:=.int rest) (u:=.int 26) rfl rfl (gc (by decide))) (nJ (k:=26) rfl (by decide))) (a9 (by show _+1<=_;omega)))
theorem kL (n:Nat) {cell:Int}{m:List Ob}:aa M Ft (n+1) 46 [.int cell] m=.ok (.str (aS cell),m):=by
 rw [w46]
 have h1:0<=cell % 8:=Int.emod_nonneg _ (by decide)
 have h2:cell % 8<8:=Int.emod_lt_of_pos _ (by decide)
 have hl:((List.range (1+cell % 8).toNat).map fun k=>T.int (0+(k:Nat))).length=(1+cell % 8).toNat:=by rw [List.length_map,List.length_range]
 obtain ⟨u,r,e⟩:=vO (cell:=cell) ((List.range (1+cell % 8).toNat).map fun k=>T.int (0+(k:Nat))) (cell/8 % 26 ^ 8) [] none (by rw [hl];show 0+_<=_;omega)
 rw [hl] at e
 have er:g9 [.int (1+cell % 8)]=some (qQ 0 (1+cell % 8).toNat):=gK (by omega)
 have ep:cO .Pow (.int 26) (.int 8)=some (.int (26 ^ 8)):=by show gd (0<=(8:Int)/\(8:Int)<=1000000/\(26:Int).natAbs<2 ^ 64) (T.int (26 ^ (8:Int).toNat))=_;exact gK (by decide)
 refine aq (m':=[]) rfl (az (s':=IB cell r (aS cell) u) rfl (seq1 (s':=⟨[sv (.int cell),sv (.int (cell/8 % 26 ^ 8)),none,none],[]⟩) (bg (t:=.int (cell/8 % 26 ^ 8)) (s':=⟨[sv (.int cell),none,none,none],[]⟩) (aD (t:=.int (cell/8)) (u:=.int (26 ^ 8)) (aD (t:=.int cell) (u:=.int 8) rfl rfl (iA (by decide))) (aD (t:=.int 26) (u:=.int 8) rfl rfl ep) (gc (by decide)))) (seq1 (s':=IB cell (cell/8 % 26 ^ 8) [] none) rfl (seq1 (tW (s1:=IB cell (cell/8 % 26 ^ 8) [] none) ?_ e) rfl))) rfl) rfl
 unfold sU
 simp only [ev,c7,bH,cN,gc (i:=cell) (j:=8) (by decide),qH,er]
 rfl
noncomputable def d9:List Nat:=[32,33,35,36,38,39,40,41,42,43,44,45,46,47,48,49,50,51,52,53,54,55,56,57,58,59,60,61,62,63,64,65,66,67,68,69,70,71,72,73,74,75,76,77,78,79,80,81,82,83,84,85,86,87,88,89,90,91,92,93,94,95,96,97,98,99,100,101,102,103,104,105,106,107,108,109,110,111,112,113,114,115,116,117,118,119,120,121,122,123,124,125,126]
theorem VZ:d9.all (fun c=>decide (c∈fq/\c≠34))=true:=by decide +kernel
def GN (cell step:Int) (k:Nat):Nat:=d9.getD ((cell+(0+(k:Int))*(0+(k:Int))*(1+step % 92)) % 93).toNat 0
def bJ (size cell step:Int):List Nat:=(List.range size.toNat).map (GN cell step)
theorem uo {size cell step:Int}(h:size<=40):yC (bJ size cell step):=by
 refine ⟨fun c hc=>?_,by unfold bJ;rw [List.length_map,List.length_range];omega⟩
 obtain ⟨k,_,rfl⟩:=List.mem_map.mp hc
 unfold GN
 have h1:0<=(cell+(0+(k:Int))*(0+(k:Int))*(1+step % 92)) % 93:=Int.emod_nonneg _ (by decide)
 have h2:(cell+(0+(k:Int))*(0+(k:Int))*(1+step % 92)) % 93<93:=Int.emod_lt_of_pos _ (by decide)
 have dI:((cell+(0+(k:Int))*(0+(k:Int))*(1+step % 92)) % 93).toNat<d9.length:=by show _<93;omega
 rw [List.getD_eq_getElem?_getD,List.getElem?_eq_getElem dI]
 exact of_decide_eq_true (List.all_eq_true.mp VZ _ (List.getElem_mem dI))
theorem vP {size cell step:Int}:(bJ size cell step).length=size.toNat:=by unfold bJ;rw [List.length_map,List.length_range]
theorem small {i:Int}(h:0<=i) (h2:i<1000):-(2 ^ 64)<i/\i<2 ^ 64:=⟨Int.lt_of_lt_of_le (by decide) h,Int.lt_trans h2 (by decide)⟩
theorem V0 {i j:Int}(h:(-(2 ^ 64)<i/\i<2 ^ 64)\/(-(2 ^ 64)<j/\j<2 ^ 64)):cO .Mult (.int i) (.int j)=some (.int (i*j)):=gK h
abbrev V1 (size cell step:Int) (u:Option C):S:=⟨[sv (.int size),sv (.int cell),sv (.int step),u],[]⟩
theorem i6 (n:Nat) {size cell step:Int}{m:List Ob}(h0:0<=size) (h:size<=40):aa M Ft (n+1) 47 [.int size,.int cell,.int step] m=.ok (.str (bJ size cell step),m):=by
 rw [w47]
 have h1:0<=step % 92:=Int.emod_nonneg _ (by decide)
 have h2:step % 92<92:=Int.emod_lt_of_pos _ (by decide)
 refine aq (m':=[]) rfl (az (s':=V1 size cell step (sv (.str d9))) rfl (seq1 (s':=V1 size cell step (sv (.str d9))) rfl (aC ?_)) rfl) rfl
 have e:dc (bN (sU g9 (k1 (vF 0))) 2 [1,3,2] (setG 1) dE (oI (vF 3) (oM (oA (vF 2) (bB (cO .Mult) (bB (cO .Mult) (vF 1) (vF 1)) (oA (cI 1) (oM (vF 4) (cI 92))))) (cI 93)))) (V1 size cell step (sv (.str d9)))=.ok (.lst (((bJ size cell step).map fun c=>[c]).map T.str),V1 size cell step (sv (.str d9))):=by
  have em:((bJ size cell step).map fun c=>[c]).map T.str=(List.range size.toNat).map fun k=>T.str [GN cell step k]:=by
   unfold bJ;rw [List.map_map,List.map_map];rfl
  rw [em]
  refine fH (fG (ts:=(List.range size.toNat).map fun k=>T.int (0+(k:Nat))) (s1:=V1 size cell step (sv (.str d9))) ?_ (by rw [List.length_map,List.length_range];omega) (c6 (fun k:Nat=>T.int (0+(k:Nat))) (fun k=>T.str [GN cell step k]) fun k hk=>?_))
  ·have er:g9 [.int size]=some (qQ 0 size.toNat):=gK (by omega)
   unfold sU
   simp only [ev,c7,bH,cN,er]
   rfl
  ·have hk':=List.mem_range.mp hk
   refine ⟨[none,sv (.int (0+(k:Nat))),sv (.int cell),sv (.str d9),sv (.int step)],[none,sv (.int (0+(k:Nat))),sv (.int cell),sv (.str d9),sv (.int step)],rfl,?_⟩
   have em1:cO .Mult (.int (0+(k:Nat))) (.int (0+(k:Nat)))=some (.int ((0+(k:Nat))*(0+(k:Nat)))):=V0 (.inl (small (by omega) (by omega)))
   have em2:cO .Mult (.int ((0+(k:Nat))*(0+(k:Nat)))) (.int (1+step % 92))=some (.int ((0+(k:Nat))*(0+(k:Nat))*(1+step % 92))):=V0 (.inr (small (by omega) (by omega)))
   exact aD (t:=.str d9) (u:=.int ((cell+(0+(k:Int))*(0+(k:Int))*(1+step % 92)) % 93)) rfl (aD (t:=.int (cell+(0+(k:Int))*(0+(k:Int))*(1+step % 92))) (u:=.int 93) (aD (t:=.int cell) (u:=.int ((0+(k:Int))*(0+(k:Int))*(1+step % 92))) rfl (aD (t:=.int ((0+(k:Int))*(0+(k:Int)))) (u:=.int (1+step % 92)) (aD (t:=.int (0+(k:Int))) (u:=.int (0+(k:Int))) rfl rfl em1) (aD (t:=.int 1) (u:=.int (step % 92)) rfl (aD (t:=.int step) (u:=.int 92) rfl rfl (gc (by decide))) (qH _ _)) em2) (qH _ _)) rfl (gc (by decide))) (nJ (k:=93) rfl (by decide))
 have ej:=join_eq (l:=(bJ size cell step).map fun c=>[c]) (by rw [gf,vP];omega)
 rw [gf] at ej
 simp only [ev,bH,cN,e,ej]
structure TE (a:FE) (s:S) (x:List Nat) (k:Nat):Prop where
 e:a s=.ok (.str x,s)
 l:x.length<=k
theorem TE.add {a b:FE}{s:S}{x y:List Nat}{i j:Nat}(h:TE a s x i) (g:TE b s y j) (q:i+j<=1000000:=by decide):TE (oA a b) s (x++y) (i+j):=
 ⟨aD h.e g.e (a9 (by have:=h.l;have:=g.l;omega)),by rw [List.length_append];have:=h.l;have:=g.l;omega⟩
theorem TE.c {s:S}(l:List Nat):TE (cS l) s l l.length:=⟨rfl,Nat.le_refl _⟩
theorem TE.n {a:FE}{s:S}{d:List Nat}{v:Int}(h:a s=.ok (.int v,s)) (N:k6 d v):TE (aM strN (k1 a)) s d 3:=⟨bI (ts:=[.int v]) (au h rfl) N.st,N.nm.hl⟩
theorem V3 {a:FE}{s:S}{t:T}(h1:a s=.ok (t,s)):aM aL (k1 a) s=.ok (.tup [t],s):=bI (au h1 rfl) (gK (by show 1<=1000;decide))
theorem cC {a b:FE}{s:S}{t u:T}(h1:a s=.ok (t,s)) (h2:b s=.ok (u,s)):aM aL (k2 a b) s=.ok (.tup [t,u],s):=bI (au h1 (au h2 rfl)) (BN _ _)
theorem gj {a b c:FE}{s:S}{t u v:T}(h1:a s=.ok (t,s)) (h2:b s=.ok (u,s)) (h3:c s=.ok (v,s)):aM aL (k3 a b c) s=.ok (.tup [t,u,v],s):=bI (au h1 (au h2 (au h3 rfl))) (tY _ _ _)
theorem V4 {a b c d:FE}{s:S}{t u v w:T}(h1:a s=.ok (t,s)) (h2:b s=.ok (u,s)) (h3:c s=.ok (v,s)) (h4:d s=.ok (w,s)):aM aL (cM a (k3 b c d)) s=.ok (.tup [t,u,v,w],s):=bI (au h1 (au h2 (au h3 (au h4 rfl)))) (gK (by show 4<=1000;decide))
theorem NZ (a:T):cK [a]=some (.lst [a]):=gK (by show 1<=1000;decide)
theorem qI (a b:T):cK [a,b]=some (.lst [a,b]):=gK (by show 2<=1000;decide)
theorem N4 (a b c:T):cK [a,b,c]=some (.lst [a,b,c]):=gK (by show 3<=1000;decide)
theorem pow10 (k:Nat) (h:(k:Int)<=1000000):cO .Pow (.int 10) (.int k)=some (.int (10 ^ k)):=gK ⟨by omega,h,by decide⟩
theorem fd {s:S}{i j:Int}{a:FE}(h:a s=.ok (.int i,s)) (h2:0<j/\j<1073741824):oD a (cI j) s=.ok (.int (i/j),s):=aD h rfl (iA h2)
theorem md {s:S}{i j:Int}{a:FE}(h:a s=.ok (.int i,s)) (h2:0<j):oM a (cI j) s=.ok (.int (i % j),s):=aD h rfl (gc h2)
theorem ad {s:S}{i j:Int}{b:FE}(h:b s=.ok (.int j,s)):oA (cI i) b s=.ok (.int (i+j),s):=aD rfl h (qH _ _)
theorem mp {s:S}{i:Int}{a:FE}(k:Nat) (h:a s=.ok (.int i,s)) (hk:(k:Int)<=1000000):oM a (bB (cO .Pow) (cI 10) (cI (k:Nat))) s=.ok (.int (i % 10 ^ k),s):=aD h (aD rfl rfl (pow10 k hk)) (gc (Int.pow_pos (by decide)))
theorem uq {a:FE}{s s1:S}{b:Bool}(h:a s=.ok (.bl b,s1)):_root_.D.a_ a s=.ok (b,s1):=by
 unfold _root_.D.a_
 rw [h];rfl
theorem yq {s:S}{i j:Int}{a:FE}(h:a s=.ok (.int i,s)):_root_.D.a_ (oE a (cI j)) s=.ok (decide (i=j),s):=uq (aD h (u:=.int j) rfl (t_ _ _))
def jq (other:Int):List Nat:=if other/68 % 4=0 then [32,116,111,32] else if other/68 % 4=1 then [58,32,100,114,111,112] else if other/68 % 4=2 then [32,116,111,32,114,111,119,32] else [110,111,116,32]
def cD (other:Int):List Itm:=if other/17 % 4=1 then (jq other).map fun c=>⟨.pl c,49⟩ else [dm (other/9 % 10 ^ 12)]
theorem kM (other:Int):(∀ i∈cD other,i.ok)/\(cD other).length<=8:=by
 unfold cD
 split
 ·constructor
  ·intro i hi
   obtain ⟨c,hc,rfl⟩:=List.mem_map.mp hi
   refine ⟨?_,.inl rfl⟩
   show yE c=true
   have:(jq other).all yE=true:=by
    unfold jq
    repeat' split
    all_goals decide
   exact List.all_eq_true.mp this c hc
  ·rw [List.length_map]
   unfold jq
   repeat' split
   all_goals decide
 ·exact ⟨fun i hi=>by rw [List.mem_singleton.mp hi];exact gi _,by show 1<=8;decide⟩
theorem V5 (other:Int):(if other/68 % 4=0 then T.str [32,116,111,32] else if other/68 % 4=1 then .str [58,32,100,114,111,112] else if other/68 % 4=2 then .str [32,116,111,32,114,111,119,32] else .str [110,111,116,32])=.str (jq other):=by
 unfold jq
 repeat' split
 all_goals rfl
abbrev Xf (other:Int):List Nat:=bC (bz other) (cD other) (cZ other)
abbrev Vf (other:Int):T:=bc (bz other) (cD other) (cZ other)
theorem V6 {x:List Nat}{f b:Bool}{its:List Itm}:noOwn (.tup [.str x,bc f its b])=true:=by
 show (true&&(noOwn (bc f its b)&&true))=true
 rw [c5];rfl
theorem B8 (n:Nat) {other:Int}{m:List Ob}:aa M Ft (n+3) 48 [.int other] m=.ok (.tup [.str (Xf other),Vf other],m):=by
 rw [w48]
 obtain ⟨h1,h2⟩:=kM other
 have lp:=fun k=>nK (k+1) (cell:=other) (m:=[]) h1 h2
 have ec:∀ u,_root_.D.a_ (oE (oM (oD (vF 0) (cI 17)) (cI 4)) (cI 1)) ⟨[sv (.int other),u],[]⟩=.ok (decide (other/17 % 4=1),⟨[sv (.int other),u],[]⟩):=fun u=>yq (md (fd rfl (by decide)) (by decide))
 by_cases hc:other/17 % 4=1
 ·have ei:cD other=(jq other).map fun c=>⟨.pl c,49⟩:=by unfold cD;rw [if_pos hc]
  refine aq (m':=[]) rfl (az (s':=s2 (.int other) (.str (jq other))) rfl (b8 (eM (s':=⟨[sv (.int other),none],[]⟩) ((ec none).trans (by rw [decide_eq_true hc])) (seq1 (s':=s2 (.int other) (.str (jq other))) (bg (s':=⟨[sv (.int other),none],[]⟩) (aD (t:=.lst [.str [32,116,111,32],.str [58,32,100,114,111,112],.str [32,116,111,32,114,111,119,32],.str [110,111,116,32]]) (u:=.int (other/68 % 4)) (bI (ts:=[.str [32,116,111,32],.str [58,32,100,114,111,112],.str [32,116,111,32,114,111,119,32],.str [110,111,116,32]]) rfl (NW _ _ _ _)) (md (fd rfl (by decide)) (by decide)) ((ZZ _ _ _ _ _).trans (by rw [V5])))) (aC (aA (ts:=[.int other,.lst (bx (cD other))]) (s':=s2 (.int other) (.str (jq other))) (au (t:=.int other) rfl (au (fH ?_) rfl)) (lp n)))))) rfl) V6
  rw [ei,bx,List.map_map]
  refine fG (ts:=(jq other).map fun c=>.str [c]) (s1:=s2 (.int other) (.str (jq other))) rfl ?_ (c6 (fun c:Nat=>T.str [c]) _ fun c _=>?_)
  ·rw [List.length_map]
   have:=h2
   rw [ei,List.length_map] at this
   omega
  ·exact ⟨[none,sv (.str [c])],[none,sv (.str [c])],rfl,cC rfl (gj rfl rfl rfl)⟩
 ·have ei:cD other=[dm (other/9 % 10 ^ 12)]:=by unfold cD;rw [if_neg hc]
  refine aq (m':=[]) rfl (az (s':=⟨[sv (.int other),none],[]⟩) rfl (seq1 (s':=⟨[sv (.int other),none],[]⟩) (bq (s':=⟨[sv (.int other),none],[]⟩) ((ec none).trans (by rw [decide_eq_false hc])) rfl) (aC (aA (ts:=[.int other,.lst (bx (cD other))]) (s':=⟨[sv (.int other),none],[]⟩) (au (t:=.int other) rfl (au ?_ rfl)) (lp n)))) rfl) V6
  rw [ei]
  exact bI (ts:=[.tup [.str (dm (other/9 % 10 ^ 12)).txt,(dm (other/9 % 10 ^ 12)).val]]) (au (aA (ts:=[.int (other/9 % 10 ^ 12)]) (s':=⟨[sv (.int other),none],[]⟩) (au (mp 12 (fd rfl (by decide)) (by decide)) rfl) (iB n)) rfl) (NZ _)
noncomputable def RP.cu:RP->T
 | .row _ v=>.tup [.str [114,111,119],.int v]
 | .like _ t=>.tup [.str [108,105,107,101],t]
noncomputable def PC.cu:PC->T
 | .last=>.tup [.str [108,97,115,116]]
 | .soon _ v _ t=>.tup [.str [115,111,111,110],.int v,t]
 | .ft x y=>.tup [.str [102,114,111,109],x.cu,y.cu]
 | .rp x=>x.cu
noncomputable def CD.cu:CD->T
 | .fin=>.tup [.str [101,110,100]]
 | .no x=>.tup [.str [110,111,116],x.cu]
 | .pc x=>x.cu
def qT:Option PC->List Nat
 | none=>[]
 | some x=>x.sh
def nW:Option PC->T
 | none=>.tup [.str [97,108,119,97,121,115]]
 | some x=>x.cu
theorem nM {x:RP}(h:x.c8):noOwn x.cu=true:=by
 cases x with
 | row d v=>rfl
 | like w t=>
  show (true&&(noOwn t&&true))=true
  rw [(show kG w t from h).no];rfl
theorem nN {x:PC}(h:x.c8):noOwn x.cu=true:=by
 cases x with
 | last=>rfl
 | soon d v w t=>
  show (true&&(true&&(noOwn t&&true)))=true
  rw [h.2.no];rfl
 | ft x y=>
  show (true&&(noOwn x.cu&&(noOwn y.cu&&true)))=true
  rw [nM h.1,nM h.2];rfl
 | rp x=>exact nM h
theorem ur {f b:Bool}{its:List Itm}(h:∀ i∈its,i.ok) (hl:its.length<=8):kG (bC f its b) (bc f its b):=⟨f,its,b,h,hl,rfl,rfl⟩
theorem TE.as {a:FE}{s:S}{x y:List Nat}{k:Nat}(h:TE a s x k) (e:x=y):a s=.ok (.str y,s):=e ▸ h.e
section
variable {A B:FS}{r:List (Option C)}{m:List Ob}{i j:Int}{R:Res (Out × S)}{t:T}{s':S}
theorem cH (h:decide (i=j)=false) (q:B ⟨sv (.int i)::r,m⟩=R):ah (aW (_root_.D.a_ (oE (vF 0) (cI j))) A av) B ⟨sv (.int i)::r,m⟩=R:=seq1 (bq ((yq (i:=i) rfl).trans (by rw [h])) rfl) q
theorem vQ (h:decide (i=j)=true) (q:A ⟨sv (.int i)::r,m⟩=.ok (.rt t,s')):ah (aW (_root_.D.a_ (oE (vF 0) (cI j))) A av) B ⟨sv (.int i)::r,m⟩=.ok (.rt t,s'):=b8 (eM ((yq (i:=i) rfl).trans (by rw [h])) q)
end
abbrev v0 (other:Int):Int:=1+other % 999
abbrev v1 (other:Int):Int:=1+other/999 % 999
abbrev i1 (other:Int):Itm:=dm (other/81 % 10 ^ 9)
abbrev i2 (other:Int):Itm:=dm (other/729 % 10 ^ 9)
abbrev X2 (other:Int) (its:List Itm):List Nat:=bC (bz (other/3)) its (cZ (other/3))
abbrev V2 (other:Int) (its:List Itm):T:=bc (bz (other/3)) its (cZ (other/3))
noncomputable abbrev nO (cell other:Int) (its:List Itm) (u:Option C):S:=⟨[sv (.int cell),sv (.int other),sv (.tup [.str (Xf other),Vf other]),sv (.lst (bx [i1 other,i2 other])),sv (.tup [.str (X2 other its),V2 other its]),sv (.lst [.int (v0 other),.int (v1 other)]),u],[]⟩
theorem B9 (other:Int):∃ its,(∀ i∈its,i.ok)/\its.length<=8/\bZ (bx [i1 other,i2 other]) none (some (other/31 % 3))=bx its:=by
 have h1:0<=other/31 % 3:=Int.emod_nonneg _ (by decide)
 have h2:other/31 % 3<3:=Int.emod_lt_of_pos _ (by decide)
 have h:other/31 % 3=0\/other/31 % 3=1\/other/31 % 3=2:=by omega
 rcases h with h | h | h<;>rw [h]
 ·exact ⟨[],fun i hi=>(by cases hi),(by decide),rfl⟩
 ·exact ⟨[i1 other],fun i hi=>by rw [List.mem_singleton.mp hi];exact gi _,by show 1<=8;decide,rfl⟩
 ·refine ⟨[i1 other,i2 other],fun i hi=>?_,by show 2<=8;decide,rfl⟩
  rcases List.mem_cons.mp hi with z | z
  ·rw [z];exact gi _
  ·rw [List.mem_singleton.mp z];exact gi _
theorem gz (n:Nat) {cell other:Int}{its:List Itm}{B:FS}{t:T}{u:Option C}(hi:∀ i∈its,i.ok) (hl:its.length<=8) (hc:bZ (bx [i1 other,i2 other]) none (some (other/31 % 3))=bx its) (hB:B (nO cell other its none)=.ok (.rt t,nO cell other its u)) :
  ah (aE 2 (ai (aa M Ft (n+3) 48) [] (k1 (vF 1))))
 (ah (aE 3 (aM cK (k2 (ai (aa M Ft (n+3) 44) [] (k1 (oM (oD (vF 1) (cI 81)) (bB (cO .Pow) (cI 10) (cI 9))))) (ai (aa M Ft (n+3) 44) [] (k1 (oM (oD (vF 1) (cI 729)) (bB (cO .Pow) (cI 10) (cI 9))))))))
 (ah (aE 4 (ai (aa M Ft (n+3) 45) [] (k2 (oD (vF 1) (cI 3)) (mG (vF 3) sR (kN (oM (oD (vF 1) (cI 31)) (cI 3)))))))
 (ah (aE 5 (aM cK (k2 (oA (cI 1) (oM (vF 1) (cI 999))) (oA (cI 1) (oM (oD (vF 1) (cI 999)) (cI 999)))))) B))) ⟨[sv (.int cell),sv (.int other),none,none,none,none,none],[]⟩=.ok (.rt t,nO cell other its u):=by
 refine seq1 (bg (aA (ts:=[.int other]) (s':=⟨[sv (.int cell),sv (.int other),none,none,none,none,none],[]⟩) rfl (B8 n))) ?_
 refine seq1 (bg (t:=.lst (bx [i1 other,i2 other])) (s':=⟨[sv (.int cell),sv (.int other),sv (.tup [.str (Xf other),Vf other]),none,none,none,none],[]⟩) (bI (ts:=bx [i1 other,i2 other]) (au (aA (ts:=[.int (other/81 % 10 ^ 9)]) (s':=⟨[sv (.int cell),sv (.int other),sv (.tup [.str (Xf other),Vf other]),none,none,none,none],[]⟩) (au (mp 9 (fd rfl (by decide)) (by decide)) rfl) (iB (n+1))) (au (aA (ts:=[.int (other/729 % 10 ^ 9)]) (s':=⟨[sv (.int cell),sv (.int other),sv (.tup [.str (Xf other),Vf other]),none,none,none,none],[]⟩) (au (mp 9 (fd rfl (by decide)) (by decide)) rfl) (iB (n+1))) rfl)) (qI _ _))) ?_
 refine seq1 (bg (t:=.tup [.str (X2 other its),V2 other its]) (s':=⟨[sv (.int cell),sv (.int other),sv (.tup [.str (Xf other),Vf other]),sv (.lst (bx [i1 other,i2 other])),none,none,none],[]⟩) (aA (ts:=[.int (other/3),.lst (bx its)]) (s':=⟨[sv (.int cell),sv (.int other),sv (.tup [.str (Xf other),Vf other]),sv (.lst (bx [i1 other,i2 other])),none,none,none],[]⟩) (au (fd rfl (by decide)) (au ?_ rfl)) (nK (n+2) hi hl))) ?_
 ·have e:oM (oD (vF 1) (cI 31)) (cI 3) ⟨[sv (.int cell),sv (.int other),sv (.tup [.str (Xf other),Vf other]),sv (.lst (bx [i1 other,i2 other])),none,none,none],[]⟩=.ok (.int (other/31 % 3),⟨[sv (.int cell),sv (.int other),sv (.tup [.str (Xf other),Vf other]),sv (.lst (bx [i1 other,i2 other])),none,none,none],[]⟩):=md (fd rfl (by decide)) (by decide)
  show mG (vF 3) sR (kN _) ⟨[sv (.int cell),sv (.int other),sv (.tup [.str (Xf other),Vf other]),sv (.lst (bx [i1 other,i2 other])),none,none,none],[]⟩=_
  unfold mG kN
  rw [c7.2.2.2.1]
  refine Eq.trans (bH _ _) ?_
  refine Eq.trans (bH _ _) ?_
  dsimp only
  rw [e]
  refine Eq.trans (bH _ _) ?_
  show Res.ok (T.lst (bZ (bx [i1 other,i2 other]) none (some (other/31 % 3))),_)=_
  rw [hc]
 ·exact seq1 (bg (t:=.lst [.int (v0 other),.int (v1 other)]) (s':=⟨[sv (.int cell),sv (.int other),sv (.tup [.str (Xf other),Vf other]),sv (.lst (bx [i1 other,i2 other])),sv (.tup [.str (X2 other its),V2 other its]),none,none],[]⟩) (bI (ts:=[.int (v0 other),.int (v1 other)]) (au (ad (md rfl (by decide))) (au (ad (md (fd rfl (by decide)) (by decide))) rfl)) (qI _ _))) hB
theorem B_ {x:PC}{l:List Nat}(h:x.c8):noOwn (.tup [.str l,x.cu])=true:=by
 show (true&&(noOwn x.cu&&true))=true
 rw [nN h];rfl
theorem qJ (n:Nat) {cell other:Int}{m:List Ob}(hc:cell=0\/cell=1\/cell=2\/cell=3\/cell=4\/cell=5\/cell=6\/cell=7\/cell=8\/cell=9):∃ x:Option PC,(∀ p,x=some p->p.ok/\p.c8)/\aa M Ft (n+4) 49 [.int cell,.int other] m=.ok (.tup [.str (qT x),nW x],m):=by
 obtain ⟨its,hi,hl,hk⟩:=B9 other
 have P1:kG (Xf other) (Vf other):=ur (kM other).1 (kM other).2
 have P2:kG (X2 other its) (V2 other its):=ur hi hl
 have a1:0<=other % 999:=Int.emod_nonneg _ (by decide)
 have a2:other % 999<999:=Int.emod_lt_of_pos _ (by decide)
 have a3:0<=other/999 % 999:=Int.emod_nonneg _ (by decide)
 have a4:other/999 % 999<999:=Int.emod_lt_of_pos _ (by decide)
 have a5:0<=other % 3:=Int.emod_nonneg _ (by decide)
 have a6:other % 3<3:=Int.emod_lt_of_pos _ (by decide)
 have b1:1<=v0 other:=by show 1<=1+_;omega
 have b2:v0 other<=999:=by show 1+_<=_;omega
 have b3:1<=v1 other:=by show 1<=1+_;omega
 have b4:v1 other<=999:=by show 1+_<=_;omega
 have N0:k6 (cT (v0 other)) (v0 other):=iY b1 b2
 have N1:k6 (cT (v1 other)) (v1 other):=iY b3 b4
 have N3:k6 (cT (1+other % 3)) (1+other % 3):=iY (by omega) (by omega)
 have T1:∀ c u,TE (oI (vF 2) (cI 0)) (nO c other its u) (Xf other) 130:=fun c u=>⟨rfl,P1.len⟩
 have T2:∀ c u,TE (oI (vF 4) (cI 0)) (nO c other its u) (X2 other its) 130:=fun c u=>⟨rfl,P2.len⟩
 have T5:∀ c u,TE (aM strN (k1 (oI (vF 5) (cI 0)))) (nO c other its u) (cT (v0 other)) 3:=fun c u=>TE.n rfl N0
 have T6:∀ c u,TE (aM strN (k1 (oI (vF 5) (cI 1)))) (nO c other its u) (cT (v1 other)) 3:=fun c u=>TE.n rfl N1
 have T7:∀ c u,oA (cI 1) (oM (vF 1) (cI 3)) (nO c other its u)=.ok (.int (1+other % 3),nO c other its u):=fun c u=>ad (md rfl (by decide))
 rcases hc with rfl | rfl | rfl | rfl | rfl | rfl | rfl | rfl | rfl | rfl
 ·refine ⟨none,fun p h=>(by cases h),?_⟩
  rw [Cw]
  exact aq (m':=[]) rfl (az (s':=nO 0 other its none) rfl (gz n hi hl hk (cH rfl (cH rfl (cH rfl (cH rfl (cH rfl (cH rfl (cH rfl (cH rfl rfl))))))))) rfl) rfl
 ·refine ⟨some (.rp (.row (cT (v0 other)) (v0 other))),fun p h=>(by cases h;exact ⟨⟨N0.nm,b1,b2⟩,N0⟩),?_⟩
  rw [Cw]
  exact aq (m':=[]) rfl (az (s':=nO 1 other its none) rfl (gz n hi hl hk (vQ rfl (aC (cC ((TE.c _).add (T5 1 none)).e (cC rfl rfl))))) rfl) rfl
 ·refine ⟨some .last,fun p h=>(by cases h;exact ⟨trivial,trivial⟩),?_⟩
  rw [Cw]
  exact aq (m':=[]) rfl (az (s':=nO 2 other its none) rfl (gz n hi hl hk (cH rfl (vQ rfl rfl))) rfl) rfl
 ·refine ⟨some (.rp (.like (X2 other its) (V2 other its))),fun p h=>(by cases h;exact ⟨P2.pt,P2⟩),?_⟩
  rw [Cw]
  exact aq (m':=[]) rfl (az (s':=nO 3 other its none) rfl (gz n hi hl hk (cH rfl (cH rfl (vQ rfl (aC (cC (((TE.c _).add (T2 3 none)).add (TE.c _)).e (cC rfl rfl))))))) rfl) (B_ (x:=.rp (.like (X2 other its) (V2 other its))) P2)
 ·refine ⟨some (.soon (cT (1+other % 3)) (1+other % 3) (Xf other) (Vf other)),fun p h=>(by cases h;exact ⟨⟨N3.nm,by omega,by omega,P1.pt⟩,N3,P1⟩),?_⟩
  rw [Cw]
  exact aq (m':=[]) rfl (az (s':=nO 4 other its none) rfl (gz n hi hl hk (cH rfl (cH rfl (cH rfl (vQ rfl (aC (cC (TE.as (TE.add (TE.add (TE.add (TE.add (TE.c _) (TE.n (T7 4 none) N3)) (TE.c _)) (T1 4 none)) (TE.c _)) (by simp [qT,PC.sh])) (gj rfl (T7 4 none) rfl)))))))) rfl) (B_ (x:=.soon (cT (1+other % 3)) (1+other % 3) (Xf other) (Vf other)) ⟨N3,P1⟩)
 ·refine ⟨some (.ft (.like (Xf other) (Vf other)) (.row (cT (v0 other)) (v0 other))),fun p h=>(by cases h;exact ⟨⟨P1.pt,N0.nm,b1,b2⟩,P1,N0⟩),?_⟩
  rw [Cw]
  exact aq (m':=[]) rfl (az (s':=nO 5 other its none) rfl (gz n hi hl hk (cH rfl (cH rfl (cH rfl (cH rfl (vQ rfl (aC (cC (TE.as (TE.add (TE.add (TE.add (TE.c _) (T1 5 none)) (TE.c _)) (T5 5 none)) (by simp [qT,PC.sh,RP.sh])) (gj rfl (cC rfl rfl) (cC rfl rfl)))))))))) rfl) (B_ (x:=.ft (.like (Xf other) (Vf other)) (.row (cT (v0 other)) (v0 other))) ⟨P1,N0⟩)
 ·refine ⟨some (.ft (.row (cT (v0 other)) (v0 other)) (.like (X2 other its) (V2 other its))),fun p h=>(by cases h;exact ⟨⟨⟨N0.nm,b1,b2⟩,P2.pt⟩,N0,P2⟩),?_⟩
  rw [Cw]
  exact aq (m':=[]) rfl (az (s':=nO 6 other its none) rfl (gz n hi hl hk (cH rfl (cH rfl (cH rfl (cH rfl (cH rfl (vQ rfl (aC (cC (TE.as (TE.add (TE.add (TE.add (TE.add (TE.c _) (T5 6 none)) (TE.c _)) (T2 6 none)) (TE.c _)) (by simp [qT,PC.sh,RP.sh])) (gj rfl (cC rfl rfl) (cC rfl rfl))))))))))) rfl) (B_ (x:=.ft (.row (cT (v0 other)) (v0 other)) (.like (X2 other its) (V2 other its))) ⟨N0,P2⟩)
 ·refine ⟨some (.ft (.like (Xf other) (Vf other)) (.like (X2 other its) (V2 other its))),fun p h=>(by cases h;exact ⟨⟨P1.pt,P2.pt⟩,P1,P2⟩),?_⟩
  rw [Cw]
  exact aq (m':=[]) rfl (az (s':=nO 7 other its none) rfl (gz n hi hl hk (cH rfl (cH rfl (cH rfl (cH rfl (cH rfl (cH rfl (vQ rfl (aC (cC (TE.as (TE.add (TE.add (TE.add (TE.add (TE.c _) (T1 7 none)) (TE.c _)) (T2 7 none)) (TE.c _)) (by simp [qT,PC.sh,RP.sh])) (gj rfl (cC rfl rfl) (cC rfl rfl)))))))))))) rfl) (B_ (x:=.ft (.like (Xf other) (Vf other)) (.like (X2 other its) (V2 other its))) ⟨P1,P2⟩)
 ·refine ⟨some (.ft (.row (cT (v0 other)) (v0 other)) (.row (cT (v1 other)) (v1 other))),fun p h=>(by cases h;exact ⟨⟨⟨N0.nm,b1,b2⟩,N1.nm,b3,b4⟩,N0,N1⟩),?_⟩
  rw [Cw]
  exact aq (m':=[]) rfl (az (s':=nO 8 other its (sv (.str (qT (some (.ft (.row (cT (v0 other)) (v0 other)) (.row (cT (v1 other)) (v1 other)))))))) rfl (gz n hi hl hk (cH rfl (cH rfl (cH rfl (cH rfl (cH rfl (cH rfl (cH rfl (vQ rfl (seq1 (bg (TE.as (TE.add (TE.add (TE.add (TE.c _) (T5 8 none)) (TE.c _)) (T6 8 none)) (by simp [qT,PC.sh,RP.sh]))) (aC (cC rfl (gj rfl (cC rfl rfl) (cC rfl rfl)))))))))))))) rfl) rfl
 ·refine ⟨none,fun p h=>(by cases h),?_⟩
  rw [Cw]
  exact aq (m':=[]) rfl (az (s':=nO 9 other its none) rfl (gz n hi hl hk (cH rfl (cH rfl (cH rfl (cH rfl (cH rfl (cH rfl (cH rfl (cH rfl rfl))))))))) rfl) rfl
noncomputable def DD.cu:DD->T
 | .drop=>.tup [.str [100,114,111,112]]
 | .print=>.tup [.str [112,114,105,110,116]]
 | .done=>.tup [.str [100,111,110,101]]
 | .tell=>.tup [.str [116,101,108,108]]
 | .say l=>.tup [.str [115,97,121],.str l]
 | .swap e _ t l=>.tup [.str [115,119,97,112],t,.str l,.bl e]
 | .join _ v=>.tup [.str [106,111,105,110],.int v]
 | .pile a=>.tup [.str [112,105,108,101],.str a,.non]
 | .pileN a _ v=>.tup [.str [112,105,108,101],.str a,.int v]
 | .bring a=>.tup [.str [98,114,105,110,103],.str a]
 | .go a=>.tup [.str [103,111],.str a]
 | .add _ v _ v2=>.tup [.str [97,100,100],.int v,.int v2]
theorem nP {x:DD}(h:x.c8):noOwn x.cu=true:=by
 cases x with
 | swap e w t l=>
  show (true&&(noOwn t&&(true&&(true&&true))))=true
  rw [(show kG w t from h).no];rfl
 | _=>rfl
def DD.N5:DD->Prop
 | .go _=>False
 | _=>True
structure DDk (x:DD):Prop where
 ok:x.ok
 sh:x.c8
 fi:x.qC
 ng:x.N5
abbrev bK (other:Int):List Itm:=[dm (other/9 % 10 ^ 12),⟨.pl (kP (other/7)),43⟩]
theorem Ca (other:Int):∀ i∈bK other,i.ok:=fun i hi=>by
 rcases List.mem_cons.mp hi with z | z
 ·rw [z];exact gi _
 ·rw [List.mem_singleton.mp z];exact ⟨B5 _,.inr (.inr (.inl rfl))⟩
theorem Cb (other:Int):0<least (bK other)/\least (bK other)<=2:=by
 constructor
 ·unfold least
  exact List.length_pos_of_mem (a:=⟨.pl (kP (other/7)),43⟩) (List.mem_filter.mpr ⟨List.mem_cons_of_mem _ (List.mem_singleton.mpr rfl),rfl⟩)
 ·exact List.length_filter_le _ (bK other)
abbrev Xs (other:Int):List Nat:=bC (bz other) (bK other) (cZ other)
abbrev Vs (other:Int):T:=bc (bz other) (bK other) (cZ other)
abbrev qK (cell other:Int) (u v:Option C):S:=⟨[sv (.int cell),sv (.int other),sv (.str [kP (other/7)]),sv (.tup [.str (Xs other),Vs other]),u,v],[]⟩
theorem Z0 {i:Itm}(h:i.ok):decide (i.mn∈[49,43])=!NT i:=by
 obtain ⟨k,mn⟩:=i
 rcases h.m with q | q | q | q<;>(dsimp only at q;subst q;rfl)
theorem GO {x:DD}{l:List Nat}(h:x.c8):noOwn (.tup [.str l,x.cu])=true:=by
 show (true&&(noOwn x.cu&&true))=true
 rw [nP h];rfl
theorem qL (n:Nat) {cell other:Int}{m:List Ob}:∃ x:DD,DDk x/\aa M Ft (n+3) 50 [.int cell,.int other] m=.ok (.tup [.str x.sh,x.cu],m):=by
 have PS:kG (Xs other) (Vs other):=ur (Ca other) (by show 2<=8;decide)
 obtain ⟨l1,l2⟩:=Cb other
 have um:∀ (B:FS) (t:T) (u v:Option C),B (qK cell other none none)=.ok (.rt t,qK cell other u v)->ah (aE 2 (ai (aa M Ft (n+2) 43) [] (k1 (oD (vF 1) (cI 7)))))
   (ah (aE 3 (ai (aa M Ft (n+2) 45) [] (k2 (vF 1) (aM cK (k2 (ai (aa M Ft (n+2) 44) [] (k1 (oM (oD (vF 1) (cI 9)) (bB (cO .Pow) (cI 10) (cI 12))))) (aM aL (k2 (oA (vF 2) (cS [43])) (aM aL (k3 (vF 2) (cF (.bl false)) (cS [43])))))))))) B) ⟨[sv (.int cell),sv (.int other),none,none,none,none],[]⟩=.ok (.rt t,qK cell other u v):=fun B t u v h=>by
  refine seq1 (bg (t:=.str [kP (other/7)]) (s':=⟨[sv (.int cell),sv (.int other),none,none,none,none],[]⟩) (aA (ts:=[.int (other/7)]) (s':=⟨[sv (.int cell),sv (.int other),none,none,none,none],[]⟩) (au (fd rfl (by decide)) rfl) (lV (n+1)))) ?_
  refine seq1 (bg (t:=.tup [.str (Xs other),Vs other]) (s':=⟨[sv (.int cell),sv (.int other),sv (.str [kP (other/7)]),none,none,none],[]⟩) (aA (ts:=[.int other,.lst (bx (bK other))]) (s':=⟨[sv (.int cell),sv (.int other),sv (.str [kP (other/7)]),none,none,none],[]⟩) (au (t:=.int other) rfl (au (bI (ts:=bx (bK other)) (au (aA (ts:=[.int (other/9 % 10 ^ 12)]) (s':=⟨[sv (.int cell),sv (.int other),sv (.str [kP (other/7)]),none,none,none],[]⟩) (au (mp 12 (fd rfl (by decide)) (by decide)) rfl) (iB n)) (au (cC (s:=⟨[sv (.int cell),sv (.int other),sv (.str [kP (other/7)]),none,none,none],[]⟩) (t:=.str [kP (other/7),43]) (u:=.tup [.str [kP (other/7)],.bl false,.str [43]]) rfl (gj rfl rfl rfl)) rfl)) (qI _ _)) rfl)) (nK (n+1) (Ca other) (by show 2<=8;decide)))) h
 have e0:_root_.D.a_ (oE (oM (vF 0) (cI 2)) (cI 0)) (qK cell other none none)=.ok (decide (cell % 2=0),qK cell other none none):=yq (md rfl (by decide))
 by_cases hc:cell % 2=0
 ·have h1:0<=other % 41:=Int.emod_nonneg _ (by decide)
  have h2:other % 41<41:=Int.emod_lt_of_pos _ (by decide)
  have W:yC (bJ (other % 41) (other/41) (other/43)):=uo (by omega)
  refine ⟨.swap false (Xs other) (Vs other) (bJ (other % 41) (other/41) (other/43)),⟨⟨PS.pt,W⟩,PS,⟨_,_,_,rfl,by show 2<=8;decide,l1,.inl rfl⟩,trivial⟩,?_⟩
  rw [w50]
  refine aq (m':=[]) rfl (az (s':=qK cell other none (sv (.str (bJ (other % 41) (other/41) (other/43))))) rfl (um _ _ none (sv (.str (bJ (other % 41) (other/41) (other/43)))) (b8 (eM (s':=qK cell other none none) (e0.trans (by rw [decide_eq_true hc])) (seq1 (bg (t:=.str (bJ (other % 41) (other/41) (other/43))) (s':=qK cell other none none) (aA (ts:=[.int (other % 41),.int (other/41),.int (other/43)]) (s':=qK cell other none none) (au (md rfl (by decide)) (au (fd rfl (by decide)) (au (fd rfl (by decide)) rfl))) (i6 (n+1) h1 (by omega)))) (aC (cC (TE.as (TE.add (TE.add (TE.add (TE.add (TE.c _) (⟨rfl,PS.len⟩:TE _ _ (Xs other) 130)) (TE.c _)) (⟨rfl,W.hl⟩:TE (vF 5) _ (bJ (other % 41) (other/41) (other/43)) 40)) (TE.c _)) (by simp [DD.sh,B3])) (V4 rfl rfl rfl rfl))))))) rfl) (GO (x:=.swap false (Xs other) (Vs other) (bJ (other % 41) (other/41) (other/43))) PS)
 ·have h1:0<=other % (1+(least (bK other):Nat)):=Int.emod_nonneg _ (by omega)
  have h2:other % (1+(least (bK other):Nat))<1+(least (bK other):Nat):=Int.emod_lt_of_pos _ (by omega)
  have W:yC (bJ (other % (1+(least (bK other):Nat))) (other/41) (other/43)):=uo (by omega)
  refine ⟨.swap true (Xs other) (Vs other) (bJ (other % (1+(least (bK other):Nat))) (other/41) (other/43)),⟨⟨PS.pt,W⟩,PS,⟨_,bK other,_,rfl,by show 2<=8;decide,l1,.inr (by rw [vP];omega)⟩,trivial⟩,?_⟩
  rw [w50]
  refine aq (m':=[]) rfl (az (s':=qK cell other (sv (.int (least (bK other):Nat))) (sv (.str (bJ (other % (1+(least (bK other):Nat))) (other/41) (other/43))))) rfl (um _ _ (sv (.int (least (bK other):Nat))) (sv (.str (bJ (other % (1+(least (bK other):Nat))) (other/41) (other/43)))) (seq1 (s':=qK cell other none none) (bq (s':=qK cell other none none) (e0.trans (by rw [decide_eq_false hc])) rfl) (seq1 (s':=qK cell other (sv (.int (least (bK other):Nat))) none) ?_ (seq1 (bg (t:=.str (bJ (other % (1+(least (bK other):Nat))) (other/41) (other/43))) (s':=qK cell other (sv (.int (least (bK other):Nat))) none) (aA (ts:=[.int (other % (1+(least (bK other):Nat))),.int (other/41),.int (other/43)]) (s':=qK cell other (sv (.int (least (bK other):Nat))) none) (au (aD (t:=.int other) (u:=.int (1+(least (bK other):Nat))) rfl (ad rfl) (gc (by omega))) (au (fd rfl (by decide)) (au (fd rfl (by decide)) rfl))) (i6 (n+1) h1 (by omega)))) (aC (cC (TE.as (TE.add (TE.add (TE.add (TE.add (TE.c _) (⟨rfl,PS.len⟩:TE _ _ (Xs other) 130)) (TE.c _)) (⟨rfl,W.hl⟩:TE (vF 5) _ (bJ (other % (1+(least (bK other):Nat))) (other/41) (other/43)) 40)) (TE.c _)) (by simp [DD.sh,B3])) (V4 rfl rfl rfl rfl))))))) rfl) (GO (x:=.swap true (Xs other) (Vs other) (bJ (other % (1+(least (bK other):Nat))) (other/41) (other/43))) PS)
  refine bg (t:=.int (least (bK other):Nat)) (s':=qK cell other none none) (bI (ts:=[.lst (((bK other).filter fun i=>decide (i.mn∈[49,43])).map Itm.val)]) (au (fH (fG (ts:=(bK other).map Itm.val) (s1:=qK cell other none none) rfl (by rw [List.length_map];show 2<=_;decide) (gH Itm.val (fun i=>decide (i.mn∈[49,43])) fun i _=>?_))) rfl) ?_)
  ·exact ⟨[none,sv i.val],[none,sv i.val],[none,sv i.val],rfl,rfl,rfl⟩
  ·show some (T.int ((((bK other).filter fun i=>decide (i.mn∈[49,43])).map Itm.val).length:Nat))=_
   rw [List.length_map,List.filter_congr fun i hi=>Z0 (Ca other i hi)];rfl
abbrev d_ (cell other:Int) (u v:Option C):S:=⟨[sv (.int cell),sv (.int other),sv (.str (aS other)),u,v],[]⟩
theorem Cc (n:Nat) {cell other:Int}{m:List Ob}(hc:cell=0\/cell=1\/cell=2\/cell=3\/cell=4\/cell=5\/cell=6\/cell=7\/cell=8\/cell=9\/cell=10):∃ x:DD,DDk x/\aa M Ft (n+4) 51 [.int cell,.int other] m=.ok (.tup [.str x.sh,x.cu],m):=by
 have NA:=nL other
 have a1:0<=other % 8:=Int.emod_nonneg _ (by decide)
 have a2:other % 8<8:=Int.emod_lt_of_pos _ (by decide)
 have a3:0<=other % 9:=Int.emod_nonneg _ (by decide)
 have a4:other % 9<9:=Int.emod_lt_of_pos _ (by decide)
 have a5:0<=other/9 % 9:=Int.emod_nonneg _ (by decide)
 have a6:other/9 % 9<9:=Int.emod_lt_of_pos _ (by decide)
 have a7:0<=other % 41:=Int.emod_nonneg _ (by decide)
 have a8:other % 41<41:=Int.emod_lt_of_pos _ (by decide)
 have N2:k6 (cT (2+other % 8)) (2+other % 8):=iY (by omega) (by omega)
 have N1:k6 (cT (1+other % 9)) (1+other % 9):=iY (by omega) (by omega)
 have N3:k6 (cT (1+other/9 % 9)) (1+other/9 % 9):=iY (by omega) (by omega)
 have W:yC (bJ (other % 41) (other/41) (other/43)):=uo (by omega)
 have T2:∀ c u v,TE (vF 2) (d_ c other u v) (aS other) 8:=fun c u v=>⟨rfl,NA.hl⟩
 have E2:∀ c u v,oA (cI 2) (oM (vF 1) (cI 8)) (d_ c other u v)=.ok (.int (2+other % 8),d_ c other u v):=fun c u v=>ad (md rfl (by decide))
 have E1:∀ c u v,oA (cI 1) (oM (vF 1) (cI 9)) (d_ c other u v)=.ok (.int (1+other % 9),d_ c other u v):=fun c u v=>ad (md rfl (by decide))
 have pre:∀ (c:Int) (B:FS) (t:T) (u v:Option C),B (d_ c other none none)=.ok (.rt t,d_ c other u v)->ah (aE 2 (ai (aa M Ft (n+3) 46) [] (k1 (vF 1)))) B ⟨[sv (.int c),sv (.int other),none,none,none],[]⟩=.ok (.rt t,d_ c other u v):=fun c B t u v h=>seq1 (bg (t:=.str (aS other)) (s':=⟨[sv (.int c),sv (.int other),none,none,none],[]⟩) (aA (ts:=[.int other]) (s':=⟨[sv (.int c),sv (.int other),none,none,none],[]⟩) rfl (kL (n+2)))) h
 rcases hc with rfl | rfl | rfl | rfl | rfl | rfl | rfl | rfl | rfl | rfl | rfl
 ·refine ⟨.drop,⟨trivial,trivial,trivial,trivial⟩,?_⟩
  rw [By]
  exact aq (m':=[]) rfl (az (s':=d_ 0 other none none) rfl (pre 0 _ _ none none (b8 (eM (s':=d_ 0 other none none) rfl rfl))) rfl) rfl
 ·refine ⟨.print,⟨trivial,trivial,trivial,trivial⟩,?_⟩
  rw [By]
  exact aq (m':=[]) rfl (az (s':=d_ 1 other none none) rfl (pre 1 _ _ none none (b8 (eM (s':=d_ 1 other none none) rfl rfl))) rfl) rfl
 ·refine ⟨.done,⟨trivial,trivial,trivial,trivial⟩,?_⟩
  rw [By]
  exact aq (m':=[]) rfl (az (s':=d_ 2 other none none) rfl (pre 2 _ _ none none (b8 (eM (s':=d_ 2 other none none) rfl rfl))) rfl) rfl
 ·refine ⟨.join (cT (2+other % 8)) (2+other % 8),⟨⟨N2.nm,by omega,by omega⟩,N2,trivial,trivial⟩,?_⟩
  rw [By]
  exact aq (m':=[]) rfl (az (s':=d_ 3 other none none) rfl (pre 3 _ _ none none (seq1 (s':=d_ 3 other none none) (bq (s':=d_ 3 other none none) rfl rfl) (vQ rfl (aC (cC ((TE.c _).add (TE.n (E2 3 none none) N2)).e (cC rfl (E2 3 none none))))))) rfl) rfl
 ·refine ⟨.pileN (aS other) (cT (1+other % 9)) (1+other % 9),⟨⟨NA,N1.nm,by omega,by omega⟩,N1,trivial,trivial⟩,?_⟩
  rw [By]
  exact aq (m':=[]) rfl (az (s':=d_ 4 other none none) rfl (pre 4 _ _ none none (seq1 (s':=d_ 4 other none none) (bq (s':=d_ 4 other none none) rfl rfl) (cH rfl (vQ rfl (aC (cC (TE.as (TE.add (TE.add (TE.add (TE.c _) (T2 4 none none)) (TE.c _)) (TE.n (E1 4 none none) N1)) (by simp [DD.sh])) (gj rfl rfl (E1 4 none none)))))))) rfl) rfl
 ·refine ⟨.pile (aS other),⟨NA,trivial,trivial,trivial⟩,?_⟩
  rw [By]
  exact aq (m':=[]) rfl (az (s':=d_ 5 other none none) rfl (pre 5 _ _ none none (seq1 (s':=d_ 5 other none none) (bq (s':=d_ 5 other none none) rfl rfl) (cH rfl (cH rfl (vQ rfl (aC (cC (TE.as (TE.add (TE.c _) (T2 5 none none)) (by simp [DD.sh])) (gj rfl rfl rfl)))))))) rfl) rfl
 ·refine ⟨.bring (aS other),⟨NA,trivial,trivial,trivial⟩,?_⟩
  rw [By]
  exact aq (m':=[]) rfl (az (s':=d_ 6 other none none) rfl (pre 6 _ _ none none (seq1 (s':=d_ 6 other none none) (bq (s':=d_ 6 other none none) rfl rfl) (cH rfl (cH rfl (cH rfl (vQ rfl (aC (cC (TE.add (TE.c _) (T2 6 none none)).e (cC rfl rfl))))))))) rfl) rfl
 ·refine ⟨.add (cT (1+other % 9)) (1+other % 9) (cT (1+other/9 % 9)) (1+other/9 % 9),⟨⟨⟨N1.nm,by omega,by omega⟩,N3.nm,by omega,by omega⟩,⟨N1,N3⟩,trivial,trivial⟩,?_⟩
  rw [By]
  exact aq (m':=[]) rfl (az (s':=d_ 7 other (sv (.lst [.int (1+other % 9),.int (1+other/9 % 9)])) none) rfl (pre 7 _ _ (sv (.lst [.int (1+other % 9),.int (1+other/9 % 9)])) none (seq1 (s':=d_ 7 other none none) (bq (s':=d_ 7 other none none) rfl rfl) (cH rfl (cH rfl (cH rfl (cH rfl (vQ rfl (seq1 (bg (s':=d_ 7 other none none) (bI (ts:=[.int (1+other % 9),.int (1+other/9 % 9)]) (au (E1 7 none none) (au (ad (md (fd rfl (by decide)) (by decide))) rfl)) (qI _ _))) (aC (cC (TE.as (TE.add (TE.add (TE.add (TE.c _) (TE.n (s:=d_ 7 other (sv (.lst [.int (1+other % 9),.int (1+other/9 % 9)])) none) rfl N1)) (TE.c _)) (TE.n (s:=d_ 7 other (sv (.lst [.int (1+other % 9),.int (1+other/9 % 9)])) none) rfl N3)) (by simp [DD.sh])) (gj rfl rfl rfl))))))))))) rfl) rfl
 ·refine ⟨.say (bJ (other % 41) (other/41) (other/43)),⟨W,trivial,trivial,trivial⟩,?_⟩
  rw [By]
  exact aq (m':=[]) rfl (az (s':=d_ 8 other none (sv (.str (bJ (other % 41) (other/41) (other/43))))) rfl (pre 8 _ _ none (sv (.str (bJ (other % 41) (other/41) (other/43)))) (seq1 (s':=d_ 8 other none none) (bq (s':=d_ 8 other none none) rfl rfl) (cH rfl (cH rfl (cH rfl (cH rfl (cH rfl (vQ rfl (seq1 (bg (t:=.str (bJ (other % 41) (other/41) (other/43))) (s':=d_ 8 other none none) (aA (ts:=[.int (other % 41),.int (other/41),.int (other/43)]) (s':=d_ 8 other none none) (au (md rfl (by decide)) (au (fd rfl (by decide)) (au (fd rfl (by decide)) rfl))) (i6 (n+2) a7 (by omega)))) (aC (cC (TE.as (TE.add (TE.add (TE.c _) (⟨rfl,W.hl⟩:TE (vF 4) (d_ 8 other none (sv (.str (bJ (other % 41) (other/41) (other/43))))) (bJ (other % 41) (other/41) (other/43)) 40)) (TE.c _)) (by simp [DD.sh])) (cC rfl rfl)))))))))))) rfl) rfl
 ·obtain ⟨x,hx,e⟩:=qL n (cell:=9) (other:=other) (m:=[])
  refine ⟨x,hx,?_⟩
  rw [By]
  exact aq (m':=[]) rfl (az (s':=d_ 9 other none none) rfl (pre 9 _ _ none none (seq1 (s':=d_ 9 other none none) (bq (s':=d_ 9 other none none) rfl rfl) (cH rfl (cH rfl (cH rfl (cH rfl (cH rfl (cH rfl (aC (aA (ts:=[.int 9,.int other]) (s':=d_ 9 other none none) rfl e)))))))))) rfl) (GO hx.sh)
 ·obtain ⟨x,hx,e⟩:=qL n (cell:=10) (other:=other) (m:=[])
  refine ⟨x,hx,?_⟩
  rw [By]
  exact aq (m':=[]) rfl (az (s':=d_ 10 other none none) rfl (pre 10 _ _ none none (seq1 (s':=d_ 10 other none none) (bq (s':=d_ 10 other none none) rfl rfl) (cH rfl (cH rfl (cH rfl (cH rfl (cH rfl (cH rfl (aC (aA (ts:=[.int 10,.int other]) (s':=d_ 10 other none none) rfl e)))))))))) rfl) (GO hx.sh)
theorem Oz {a:FE}{s s1:S}{b:Bool}(h:a s=.ok (.bl b,s1)):_root_.D.tB a s=.ok (b,s1):=by
 unfold _root_.D.tB
 rw [h];rfl
theorem gx {a b:FE}{s s1:S}{R:Res (T × S)}(h:a s=.ok (.bl true,s1)) (k:b s1=R):dq a b s=R:=by
 unfold dq
 rw [h];exact k
theorem Cd (a:List Nat):aN .Eq (.str a) (.str a)=some (.bl true):=by rw [iU,decide_eq_true rfl]
theorem Ce (a:Int):aN .Eq (.int a) (.int a)=some (.bl true):=by rw [t_,decide_eq_true rfl]
theorem N6 (a:List Nat):aN .NotEq (.str a) (.str a)=some (.bl false):=by
 show some (T.bl (!decide (a=a)))=_
 rw [decide_eq_true rfl];rfl
theorem V7 (a:Int):aN .NotEq (.int a) (.int a)=some (.bl false):=by
 show some (T.bl (!decide (a=a)))=_
 rw [decide_eq_true rfl];rfl
theorem V8 {a b:FE}{s s1 s2:S}{t u:T}(h:a s=.ok (t,s1)) (h2:b s1=.ok (u,s2)) (k:aN .NotEq t u=some (.bl false)):_root_.D.a_ (bB (aN .NotEq) a b) s=.ok (false,s2):=uq (aD h h2 k)
theorem at0 {α:Type}(x:α) (r:List α):atT (x::r) 0=some x:=by
 unfold atT
 rw [if_pos (Int.le_refl _),if_pos (by rw [List.length_cons];omega)];rfl
section
variable {A B:FS}{v t:T}{a w:List Nat}{r:List T}{R:Res (Out × S)}{s':S}
theorem tD:_root_.D.a_ (oE (oI (vF 1) (cI 0)) (cS w)) (s2 v (.tup (.str a::r)))=.ok (decide (a=w),s2 v (.tup (.str a::r))):=uq (aD (t:=.str a) (u:=.str w) (s1:=s2 v (.tup (.str a::r))) (s2:=s2 v (.tup (.str a::r))) (aD (t:=.tup (.str a::r)) (u:=.int 0) (s1:=s2 v (.tup (.str a::r))) rfl rfl (at0 _ _)) rfl (iU _ _))
theorem cL (h:decide (a=w)=false) (q:B (s2 v (.tup (.str a::r)))=R):ah (aW (_root_.D.a_ (oE (oI (vF 1) (cI 0)) (cS w))) A av) B (s2 v (.tup (.str a::r)))=R:=seq1 (bq (tD.trans (by rw [h])) rfl) q
theorem qM (h:decide (a=w)=true) (q:A (s2 v (.tup (.str a::r)))=.ok (.rt t,s')):ah (aW (_root_.D.a_ (oE (oI (vF 1) (cI 0)) (cS w))) A av) B (s2 v (.tup (.str a::r)))=.ok (.rt t,s'):=b8 (eM (tD.trans (by rw [h])) q)
end
theorem eX (n:Nat) {v:Int}{m:List Ob}:aa M Ft (n+1) 52 [.int v] m=.ok (.bl true,m):=by
 rw [w52];rfl
theorem vR {V:T}:∀ (its:List Itm) (u:Option C),∃ u',dJ (setG 2) (aW (eS (bA (_root_.D.tB (bD (qS "tuple") (vF 2)))) (eS (_root_.D.a_ (bB (aN .NotEq) (aM br (k1 (vF 2))) (cI 3))) (bA (_root_.D.tB (bD (qS "bool") (oI (vF 2) (cI 1)))))))
  (ak (cF (.bl false)))
  av) (its.map Itm.val) ⟨[sv V,sv V,u],[]⟩=.ok (.nx,⟨[sv V,sv V,u'],[]⟩)
 | [],u=>⟨u,rfl⟩
 | i::r,u=>by
  obtain ⟨u',e⟩:=vR (V:=V) r (sv i.val)
  exact ⟨u',eB (r:=[sv V,sv V,sv i.val]) rfl (s1:=⟨[sv V,sv V,sv i.val],[]⟩) rfl e⟩
theorem lW:∀ its:List Itm,all2 (shape 3) (its.map Itm.val) (its.map Itm.val)=true
 | []=>rfl
 | i::r=>by
  show ((true&&(true&&(true&&true)))&&all2 (shape 3) (r.map Itm.val) (r.map Itm.val))=true
  rw [lW r];rfl
theorem Z1 (f b:Bool) (its:List Itm):aN .Eq (bc f its b) (bc f its b)=some (.bl true):=by
 show gd (shape 5 (bc f its b) (bc f its b)=true) (T.bl (eqT (bc f its b) (bc f its b)))=_
 rw [pG]
 refine gK ?_
 show (true&&(all2 (shape 3) (its.map Itm.val) (its.map Itm.val)&&(true&&true)))=true
 rw [lW];rfl
theorem V9 {t u:T}(h:noOwn t=true) (h2:noOwn u=true):aO [t,u]=true:=by
 show (noOwn t&&(noOwn u&&true))=true
 rw [h,h2];rfl
theorem nQ (n:Nat) {w:List Nat}{t:T}{m:List Ob}(h:kG w t):aa M Ft (n+1) 53 [t,t] m=.ok (.bl true,m):=by
 have hn:=h.no
 obtain ⟨f,its,b,h1,h2,rfl,rfl⟩:=h
 rw [w53]
 obtain ⟨u,e⟩:=vR (V:=bc f its b) its none
 exact aq (m':=[]) (V9 hn hn) (az (s':=⟨[sv (bc f its b),sv (bc f its b),u],[]⟩) rfl (seq1 (s':=⟨[sv (bc f its b),sv (bc f its b),none],[]⟩) (bq (s':=⟨[sv (bc f its b),sv (bc f its b),none],[]⟩) rfl rfl) (seq1 (s':=⟨[sv (bc f its b),sv (bc f its b),none],[]⟩) (bq (s':=⟨[sv (bc f its b),sv (bc f its b),none],[]⟩) rfl rfl) (seq1 (tW (ts:=its.map Itm.val) (s1:=⟨[sv (bc f its b),sv (bc f its b),none],[]⟩) rfl e) (aC (aD (t:=bc f its b) (u:=bc f its b) rfl rfl (Z1 f b its)))))) rfl) rfl
theorem Cf (n:Nat) {x:RP}{m:List Ob}(h:x.c8):aa M Ft (n+2) 54 [x.val,x.cu] m=.ok (.bl true,m):=by
 have hn:=V9 (qF h) (nM h)
 cases x with
 | row d v=>
  rw [Iw]
  exact aq (m':=[]) hn (az (s':=s2 (.obj 4 [.int v]) (.tup [.str [114,111,119],.int v])) rfl (seq1 (s':=s2 (.obj 4 [.int v]) (.tup [.str [114,111,119],.int v])) (bq (s':=s2 (.obj 4 [.int v]) (.tup [.str [114,111,119],.int v])) (bX (aR (t:=(.obj 4 [.int v])) rfl rfl)) rfl) (qM rfl (aC (gx rfl (gx (aA (ts:=[.int v]) (s':=s2 (.obj 4 [.int v]) (.tup [.str [114,111,119],.int v])) rfl (eX n)) (aD (t:=.int v) (u:=.int v) rfl rfl (Ce _))))))) rfl) rfl
 | like w t=>
  rw [Iw]
  exact aq (m':=[]) hn (az (s':=s2 (.obj 6 [t]) (.tup [.str [108,105,107,101],t])) rfl (seq1 (s':=s2 (.obj 6 [t]) (.tup [.str [108,105,107,101],t])) (bq (s':=s2 (.obj 6 [t]) (.tup [.str [108,105,107,101],t])) (bX (aR (t:=(.obj 6 [t])) rfl rfl)) rfl) (cL rfl (cL rfl (qM rfl (aC (gx rfl (aA (ts:=[t,t]) (s':=s2 (.obj 6 [t]) (.tup [.str [108,105,107,101],t])) rfl (nQ n h)))))))) rfl) rfl
theorem IC (n:Nat) {x:PC}{m:List Ob}(h:x.c8):aa M Ft (n+3) 54 [x.val,x.cu] m=.ok (.bl true,m):=by
 have hn:=V9 (qG h) (nN h)
 cases x with
 | rp x=>exact Cf (n+1) h
 | last=>
  rw [Iw]
  exact aq (m':=[]) hn (az (s':=s2 (.obj 5 []) (.tup [.str [108,97,115,116]])) rfl (seq1 (s':=s2 (.obj 5 []) (.tup [.str [108,97,115,116]])) (bq (s':=s2 (.obj 5 []) (.tup [.str [108,97,115,116]])) (bX (aR (t:=(.obj 5 [])) rfl rfl)) rfl) (cL rfl (qM rfl rfl))) rfl) rfl
 | soon d v w t=>
  rw [Iw]
  exact aq (m':=[]) hn (az (s':=s2 (.obj 7 [.int v,t]) (.tup [.str [115,111,111,110],.int v,t])) rfl (seq1 (s':=s2 (.obj 7 [.int v,t]) (.tup [.str [115,111,111,110],.int v,t])) (bq (s':=s2 (.obj 7 [.int v,t]) (.tup [.str [115,111,111,110],.int v,t])) (bX (aR (t:=(.obj 7 [.int v,t])) rfl rfl)) rfl) (cL rfl (cL rfl (cL rfl (qM rfl (seq1 (s':=(s2 (.obj 7 [.int v,t]) (.tup [.str [115,111,111,110],.int v,t]))) (bq (s':=(s2 (.obj 7 [.int v,t]) (.tup [.str [115,111,111,110],.int v,t]))) (yD (s1:=(s2 (.obj 7 [.int v,t]) (.tup [.str [115,111,111,110],.int v,t]))) (bX (aR (t:=(.obj 7 [.int v,t])) rfl rfl)) (yD (s1:=(s2 (.obj 7 [.int v,t]) (.tup [.str [115,111,111,110],.int v,t]))) (bX (Oz (aA (ts:=[.int v]) (s':=(s2 (.obj 7 [.int v,t]) (.tup [.str [115,111,111,110],.int v,t]))) rfl (eX (n+1))))) (V8 (t:=.int v) (u:=.int v) rfl rfl (V7 _)))) rfl) (aC (aA (ts:=[t,t]) (s':=(s2 (.obj 7 [.int v,t]) (.tup [.str [115,111,111,110],.int v,t]))) rfl (nQ (n+1) h.2))))))))) rfl) rfl
 | ft x y=>
  rw [Iw]
  exact aq (m':=[]) hn (az (s':=s2 (.obj 8 [x.val,y.val]) (.tup [.str [102,114,111,109],x.cu,y.cu])) rfl (seq1 (s':=s2 (.obj 8 [x.val,y.val]) (.tup [.str [102,114,111,109],x.cu,y.cu])) (bq (s':=s2 (.obj 8 [x.val,y.val]) (.tup [.str [102,114,111,109],x.cu,y.cu])) (bX (aR (t:=(.obj 8 [x.val,y.val])) rfl rfl)) rfl) (cL rfl (cL rfl (cL rfl (cL rfl (qM rfl (aC (gx rfl (gx (aA (ts:=[x.val,x.cu]) (s':=(s2 (.obj 8 [x.val,y.val]) (.tup [.str [102,114,111,109],x.cu,y.cu]))) rfl (Cf n h.1)) (aA (ts:=[y.val,y.cu]) (s':=(s2 (.obj 8 [x.val,y.val]) (.tup [.str [102,114,111,109],x.cu,y.cu]))) rfl (Cf n h.2))))))))))) rfl) rfl
theorem Cg {x:CD}(h:x.c8):noOwn x.cu=true:=by
 cases x with
 | fin=>rfl
 | no x=>
  show (true&&(noOwn x.cu&&true))=true
  rw [nN h];rfl
 | pc x=>exact nN h
theorem V_ (n:Nat) {x:CD}{m:List Ob}(h:x.c8):aa M Ft (n+4) 54 [x.val,x.cu] m=.ok (.bl true,m):=by
 have hn:=V9 (BZ h) (Cg h)
 cases x with
 | pc x=>exact IC (n+1) h
 | fin=>
  rw [Iw]
  exact aq (m':=[]) hn (az (s':=s2 (.obj 10 []) (.tup [.str [101,110,100]])) rfl (seq1 (s':=s2 (.obj 10 []) (.tup [.str [101,110,100]])) (bq (s':=s2 (.obj 10 []) (.tup [.str [101,110,100]])) (bX (aR (t:=(.obj 10 [])) rfl rfl)) rfl) (cL rfl (cL rfl (cL rfl (cL rfl (cL rfl (cL rfl (qM rfl rfl)))))))) rfl) rfl
 | no x=>
  rw [Iw]
  exact aq (m':=[]) hn (az (s':=s2 (.obj 9 [x.val]) (.tup [.str [110,111,116],x.cu])) rfl (seq1 (s':=s2 (.obj 9 [x.val]) (.tup [.str [110,111,116],x.cu])) (bq (s':=s2 (.obj 9 [x.val]) (.tup [.str [110,111,116],x.cu])) (bX (aR (t:=(.obj 9 [x.val])) rfl rfl)) rfl) (cL rfl (cL rfl (cL rfl (cL rfl (cL rfl (qM rfl (aC (gx rfl (aA (ts:=[x.val,x.cu]) (s':=(s2 (.obj 9 [x.val]) (.tup [.str [110,111,116],x.cu]))) rfl (IC n h))))))))))) rfl) rfl
theorem ID (n:Nat) {m:List Ob}:aa M Ft (n+4) 54 [(.obj 3 []),(.tup [.str [97,108,119,97,121,115]])] m=.ok (.bl true,m):=by
 rw [Iw]
 exact aq (m':=[]) rfl (az (s':=s2 (.obj 3 []) (.tup [.str [97,108,119,97,121,115]])) rfl (seq1 (s':=s2 (.obj 3 []) (.tup [.str [97,108,119,97,121,115]])) (bq (s':=s2 (.obj 3 []) (.tup [.str [97,108,119,97,121,115]])) (bX (aR (t:=(.obj 3 [])) rfl rfl)) rfl) (cL rfl (cL rfl (cL rfl (cL rfl (cL rfl (cL rfl (cL rfl rfl)))))))) rfl) rfl
def DD.num:DD->Prop
 | .join _ _=>True
 | .add _ _ _ _=>True
 | .pile _=>True
 | .pileN _ _ _=>True
 | _=>False
theorem nR (n:Nat) {x:DD}{m:List Ob}(h:x.num):aa M Ft (n+2) 55 [x.val,x.cu] m=.ok (.bl true,m):=by
 cases x with
 | join d v=>
  rw [WJ]
  exact aq (m':=[]) rfl (az (s':=s2 (.obj 18 [.int v]) (.tup [.str [106,111,105,110],.int v])) rfl (qM rfl (aC (gx rfl (gx (aA (ts:=[.int v]) (s':=(s2 (.obj 18 [.int v]) (.tup [.str [106,111,105,110],.int v]))) rfl (eX n)) (aD (t:=.int v) (u:=.int v) rfl rfl (Ce _)))))) rfl) rfl
 | add d v d2 v2=>
  rw [WJ]
  exact aq (m':=[]) rfl (az (s':=s2 (.obj 22 [.int v,.int v2]) (.tup [.str [97,100,100],.int v,.int v2])) rfl (cL rfl (qM rfl (seq1 (s':=(s2 (.obj 22 [.int v,.int v2]) (.tup [.str [97,100,100],.int v,.int v2]))) (bq (s':=(s2 (.obj 22 [.int v,.int v2]) (.tup [.str [97,100,100],.int v,.int v2]))) (yD (s1:=(s2 (.obj 22 [.int v,.int v2]) (.tup [.str [97,100,100],.int v,.int v2]))) (bX (aR (t:=(.obj 22 [.int v,.int v2])) rfl rfl)) (yD (s1:=(s2 (.obj 22 [.int v,.int v2]) (.tup [.str [97,100,100],.int v,.int v2]))) (bX (Oz (aA (ts:=[.int v]) (s':=(s2 (.obj 22 [.int v,.int v2]) (.tup [.str [97,100,100],.int v,.int v2]))) rfl (eX n)))) (bX (Oz (aA (ts:=[.int v2]) (s':=(s2 (.obj 22 [.int v,.int v2]) (.tup [.str [97,100,100],.int v,.int v2]))) rfl (eX n)))))) rfl) (aC (gx (aD (t:=.int v) (u:=.int v) rfl rfl (Ce _)) (aD (t:=.int v2) (u:=.int v2) rfl rfl (Ce _))))))) rfl) rfl
 | pile a=>
  rw [WJ]
  exact aq (m':=[]) rfl (az (s':=s2 (.obj 19 [.str a,.non]) (.tup [.str [112,105,108,101],.str a,.non])) rfl (cL rfl (cL rfl (seq1 (s':=(s2 (.obj 19 [.str a,.non]) (.tup [.str [112,105,108,101],.str a,.non]))) (bq (s':=(s2 (.obj 19 [.str a,.non]) (.tup [.str [112,105,108,101],.str a,.non]))) (yD (s1:=(s2 (.obj 19 [.str a,.non]) (.tup [.str [112,105,108,101],.str a,.non]))) (bX (aR (t:=(.obj 19 [.str a,.non])) rfl rfl)) (V8 (t:=.str a) (u:=.str a) rfl rfl (N6 _))) rfl) (b8 (eM (s':=(s2 (.obj 19 [.str a,.non]) (.tup [.str [112,105,108,101],.str a,.non]))) rfl rfl))))) rfl) rfl
 | pileN a d v=>
  rw [WJ]
  exact aq (m':=[]) rfl (az (s':=s2 (.obj 19 [.str a,.int v]) (.tup [.str [112,105,108,101],.str a,.int v])) rfl (cL rfl (cL rfl (seq1 (s':=(s2 (.obj 19 [.str a,.int v]) (.tup [.str [112,105,108,101],.str a,.int v]))) (bq (s':=(s2 (.obj 19 [.str a,.int v]) (.tup [.str [112,105,108,101],.str a,.int v]))) (yD (s1:=(s2 (.obj 19 [.str a,.int v]) (.tup [.str [112,105,108,101],.str a,.int v]))) (bX (aR (t:=(.obj 19 [.str a,.int v])) rfl rfl)) (V8 (t:=.str a) (u:=.str a) rfl rfl (N6 _))) rfl) (seq1 (s':=(s2 (.obj 19 [.str a,.int v]) (.tup [.str [112,105,108,101],.str a,.int v]))) (bq (s':=(s2 (.obj 19 [.str a,.int v]) (.tup [.str [112,105,108,101],.str a,.int v]))) rfl rfl) (aC (gx (aA (ts:=[.int v]) (s':=(s2 (.obj 19 [.str a,.int v]) (.tup [.str [112,105,108,101],.str a,.int v]))) rfl (eX n)) (aD (t:=.int v) (u:=.int v) rfl rfl (Ce _)))))))) rfl) rfl
 | _=>cases h
theorem IE (n:Nat) {x:DD}{m:List Ob}(h:x.c8):aa M Ft (n+3) 56 [x.val,x.cu] m=.ok (.bl true,m):=by
 have hn:=V9 (vI h) (nP h)
 cases x with
 | join d v=>
  rw [yk]
  exact aq (m':=[]) hn (az (s':=s2 (.obj 18 [.int v]) (.tup [.str [106,111,105,110],.int v])) rfl (seq1 (s':=s2 (.obj 18 [.int v]) (.tup [.str [106,111,105,110],.int v])) (bq (s':=s2 (.obj 18 [.int v]) (.tup [.str [106,111,105,110],.int v])) (bX (aR (t:=(.obj 18 [.int v])) rfl rfl)) rfl) (b8 (eM (s':=(s2 (.obj 18 [.int v]) (.tup [.str [106,111,105,110],.int v]))) rfl (aC (aA (ts:=[(.obj 18 [.int v]),(.tup [.str [106,111,105,110],.int v])]) (s':=(s2 (.obj 18 [.int v]) (.tup [.str [106,111,105,110],.int v]))) rfl (nR n (x:=.join d v) trivial)))))) rfl) rfl
 | add d v d2 v2=>
  rw [yk]
  exact aq (m':=[]) hn (az (s':=s2 (.obj 22 [.int v,.int v2]) (.tup [.str [97,100,100],.int v,.int v2])) rfl (seq1 (s':=s2 (.obj 22 [.int v,.int v2]) (.tup [.str [97,100,100],.int v,.int v2])) (bq (s':=s2 (.obj 22 [.int v,.int v2]) (.tup [.str [97,100,100],.int v,.int v2])) (bX (aR (t:=(.obj 22 [.int v,.int v2])) rfl rfl)) rfl) (b8 (eM (s':=(s2 (.obj 22 [.int v,.int v2]) (.tup [.str [97,100,100],.int v,.int v2]))) rfl (aC (aA (ts:=[(.obj 22 [.int v,.int v2]),(.tup [.str [97,100,100],.int v,.int v2])]) (s':=(s2 (.obj 22 [.int v,.int v2]) (.tup [.str [97,100,100],.int v,.int v2]))) rfl (nR n (x:=.add d v d2 v2) trivial)))))) rfl) rfl
 | pile a=>
  rw [yk]
  exact aq (m':=[]) hn (az (s':=s2 (.obj 19 [.str a,.non]) (.tup [.str [112,105,108,101],.str a,.non])) rfl (seq1 (s':=s2 (.obj 19 [.str a,.non]) (.tup [.str [112,105,108,101],.str a,.non])) (bq (s':=s2 (.obj 19 [.str a,.non]) (.tup [.str [112,105,108,101],.str a,.non])) (bX (aR (t:=(.obj 19 [.str a,.non])) rfl rfl)) rfl) (b8 (eM (s':=(s2 (.obj 19 [.str a,.non]) (.tup [.str [112,105,108,101],.str a,.non]))) rfl (aC (aA (ts:=[(.obj 19 [.str a,.non]),(.tup [.str [112,105,108,101],.str a,.non])]) (s':=(s2 (.obj 19 [.str a,.non]) (.tup [.str [112,105,108,101],.str a,.non]))) rfl (nR n (x:=.pile a) trivial)))))) rfl) rfl
 | pileN a d v=>
  rw [yk]
  exact aq (m':=[]) hn (az (s':=s2 (.obj 19 [.str a,.int v]) (.tup [.str [112,105,108,101],.str a,.int v])) rfl (seq1 (s':=s2 (.obj 19 [.str a,.int v]) (.tup [.str [112,105,108,101],.str a,.int v])) (bq (s':=s2 (.obj 19 [.str a,.int v]) (.tup [.str [112,105,108,101],.str a,.int v])) (bX (aR (t:=(.obj 19 [.str a,.int v])) rfl rfl)) rfl) (b8 (eM (s':=(s2 (.obj 19 [.str a,.int v]) (.tup [.str [112,105,108,101],.str a,.int v]))) rfl (aC (aA (ts:=[(.obj 19 [.str a,.int v]),(.tup [.str [112,105,108,101],.str a,.int v])]) (s':=(s2 (.obj 19 [.str a,.int v]) (.tup [.str [112,105,108,101],.str a,.int v]))) rfl (nR n (x:=.pileN a d v) trivial)))))) rfl) rfl
 | drop=>
  rw [yk]
  exact aq (m':=[]) hn (az (s':=s2 (.obj 13 []) (.tup [.str [100,114,111,112]])) rfl (seq1 (s':=s2 (.obj 13 []) (.tup [.str [100,114,111,112]])) (bq (s':=s2 (.obj 13 []) (.tup [.str [100,114,111,112]])) (bX (aR (t:=(.obj 13 [])) rfl rfl)) rfl) (seq1 (s':=(s2 (.obj 13 []) (.tup [.str [100,114,111,112]]))) (bq (s':=(s2 (.obj 13 []) (.tup [.str [100,114,111,112]]))) rfl rfl) (qM rfl rfl))) rfl) rfl
 | print=>
  rw [yk]
  exact aq (m':=[]) hn (az (s':=s2 (.obj 14 []) (.tup [.str [112,114,105,110,116]])) rfl (seq1 (s':=s2 (.obj 14 []) (.tup [.str [112,114,105,110,116]])) (bq (s':=s2 (.obj 14 []) (.tup [.str [112,114,105,110,116]])) (bX (aR (t:=(.obj 14 [])) rfl rfl)) rfl) (seq1 (s':=(s2 (.obj 14 []) (.tup [.str [112,114,105,110,116]]))) (bq (s':=(s2 (.obj 14 []) (.tup [.str [112,114,105,110,116]]))) rfl rfl) (cL rfl (qM rfl rfl)))) rfl) rfl
 | done=>
  rw [yk]
  exact aq (m':=[]) hn (az (s':=s2 (.obj 15 []) (.tup [.str [100,111,110,101]])) rfl (seq1 (s':=s2 (.obj 15 []) (.tup [.str [100,111,110,101]])) (bq (s':=s2 (.obj 15 []) (.tup [.str [100,111,110,101]])) (bX (aR (t:=(.obj 15 [])) rfl rfl)) rfl) (seq1 (s':=(s2 (.obj 15 []) (.tup [.str [100,111,110,101]]))) (bq (s':=(s2 (.obj 15 []) (.tup [.str [100,111,110,101]]))) rfl rfl) (cL rfl (cL rfl (qM rfl rfl))))) rfl) rfl
 | bring a=>
  rw [yk]
  exact aq (m':=[]) hn (az (s':=s2 (.obj 20 [.str a]) (.tup [.str [98,114,105,110,103],.str a])) rfl (seq1 (s':=s2 (.obj 20 [.str a]) (.tup [.str [98,114,105,110,103],.str a])) (bq (s':=s2 (.obj 20 [.str a]) (.tup [.str [98,114,105,110,103],.str a])) (bX (aR (t:=(.obj 20 [.str a])) rfl rfl)) rfl) (seq1 (s':=(s2 (.obj 20 [.str a]) (.tup [.str [98,114,105,110,103],.str a]))) (bq (s':=(s2 (.obj 20 [.str a]) (.tup [.str [98,114,105,110,103],.str a]))) rfl rfl) (cL rfl (cL rfl (cL rfl (qM rfl (aC (gx rfl (aD (t:=.str a) (u:=.str a) rfl rfl (Cd _)))))))))) rfl) rfl
 | go a=>
  rw [yk]
  exact aq (m':=[]) hn (az (s':=s2 (.obj 21 [.str a]) (.tup [.str [103,111],.str a])) rfl (seq1 (s':=s2 (.obj 21 [.str a]) (.tup [.str [103,111],.str a])) (bq (s':=s2 (.obj 21 [.str a]) (.tup [.str [103,111],.str a])) (bX (aR (t:=(.obj 21 [.str a])) rfl rfl)) rfl) (seq1 (s':=(s2 (.obj 21 [.str a]) (.tup [.str [103,111],.str a]))) (bq (s':=(s2 (.obj 21 [.str a]) (.tup [.str [103,111],.str a]))) rfl rfl) (cL rfl (cL rfl (cL rfl (cL rfl (cL rfl (qM rfl (aC (gx rfl (aD (t:=.str a) (u:=.str a) rfl rfl (Cd _)))))))))))) rfl) rfl
 | say l=>
  rw [yk]
  exact aq (m':=[]) hn (az (s':=s2 (.obj 16 [.str l]) (.tup [.str [115,97,121],.str l])) rfl (seq1 (s':=s2 (.obj 16 [.str l]) (.tup [.str [115,97,121],.str l])) (bq (s':=s2 (.obj 16 [.str l]) (.tup [.str [115,97,121],.str l])) (bX (aR (t:=(.obj 16 [.str l])) rfl rfl)) rfl) (seq1 (s':=(s2 (.obj 16 [.str l]) (.tup [.str [115,97,121],.str l]))) (bq (s':=(s2 (.obj 16 [.str l]) (.tup [.str [115,97,121],.str l]))) rfl rfl) (cL rfl (cL rfl (cL rfl (cL rfl (cL rfl (cL rfl (qM rfl (aC (gx rfl (aD (t:=.str l) (u:=.str l) rfl rfl (Cd _))))))))))))) rfl) rfl
 | tell=>
  rw [yk]
  exact aq (m':=[]) hn (az (s':=s2 (.obj 23 []) (.tup [.str [116,101,108,108]])) rfl (seq1 (s':=s2 (.obj 23 []) (.tup [.str [116,101,108,108]])) (bq (s':=s2 (.obj 23 []) (.tup [.str [116,101,108,108]])) (bX (aR (t:=(.obj 23 [])) rfl rfl)) rfl) (seq1 (s':=(s2 (.obj 23 []) (.tup [.str [116,101,108,108]]))) (bq (s':=(s2 (.obj 23 []) (.tup [.str [116,101,108,108]]))) rfl rfl) (cL rfl (cL rfl (cL rfl (cL rfl (cL rfl (cL rfl (cL rfl (qM rfl rfl)))))))))) rfl) rfl
 | swap e w t l=>
  rw [yk]
  exact aq (m':=[]) hn (az (s':=s2 (.obj 17 [t,.str l,.bl e]) (.tup [.str [115,119,97,112],t,.str l,.bl e])) rfl (seq1 (s':=s2 (.obj 17 [t,.str l,.bl e]) (.tup [.str [115,119,97,112],t,.str l,.bl e])) (bq (s':=s2 (.obj 17 [t,.str l,.bl e]) (.tup [.str [115,119,97,112],t,.str l,.bl e])) (bX (aR (t:=(.obj 17 [t,.str l,.bl e])) rfl rfl)) rfl) (seq1 (s':=(s2 (.obj 17 [t,.str l,.bl e]) (.tup [.str [115,119,97,112],t,.str l,.bl e]))) (bq (s':=(s2 (.obj 17 [t,.str l,.bl e]) (.tup [.str [115,119,97,112],t,.str l,.bl e]))) rfl rfl) (cL rfl (cL rfl (cL rfl (cL rfl (cL rfl (cL rfl (cL rfl (cL rfl (seq1 (s':=(s2 (.obj 17 [t,.str l,.bl e]) (.tup [.str [115,119,97,112],t,.str l,.bl e]))) (bq (s':=(s2 (.obj 17 [t,.str l,.bl e]) (.tup [.str [115,119,97,112],t,.str l,.bl e]))) (yD (s1:=(s2 (.obj 17 [t,.str l,.bl e]) (.tup [.str [115,119,97,112],t,.str l,.bl e]))) (bX (aR (t:=(.obj 17 [t,.str l,.bl e])) rfl rfl)) (yD (s1:=(s2 (.obj 17 [t,.str l,.bl e]) (.tup [.str [115,119,97,112],t,.str l,.bl e]))) (bX (Oz (aA (ts:=[t,t]) (s':=(s2 (.obj 17 [t,.str l,.bl e]) (.tup [.str [115,119,97,112],t,.str l,.bl e]))) rfl (nQ (n+1) h)))) (V8 (t:=.str l) (u:=.str l) rfl rfl (N6 _)))) rfl) (aC (gx rfl (by cases e<;>rfl)))))))))))))) rfl) rfl
theorem Wa (n:Nat) {a:List Nat}{m:List Ob}:aa M Ft (n+3) 56 [(.obj 12 [.str a]),(.tup [.str [109,97,114,107],.str a])] m=.ok (.bl true,m):=by
 rw [yk]
 exact aq (m':=[]) rfl (az (s':=s2 (.obj 12 [.str a]) (.tup [.str [109,97,114,107],.str a])) rfl (seq1 (s':=s2 (.obj 12 [.str a]) (.tup [.str [109,97,114,107],.str a])) (bq (s':=s2 (.obj 12 [.str a]) (.tup [.str [109,97,114,107],.str a])) (bX (aR (t:=(.obj 12 [.str a])) rfl rfl)) rfl) (seq1 (s':=(s2 (.obj 12 [.str a]) (.tup [.str [109,97,114,107],.str a]))) (bq (s':=(s2 (.obj 12 [.str a]) (.tup [.str [109,97,114,107],.str a]))) rfl rfl) (cL rfl (cL rfl (cL rfl (cL rfl (qM rfl (aC (gx rfl (aD (t:=.str a) (u:=.str a) rfl rfl (Cd _))))))))))) rfl) rfl
def LN.GP:LN->T
 | .full c _=>c.cu
 | _=>.tup [.str [97,108,119,97,121,115]]
def LN.GQ:LN->T
 | .mark a=>.tup [.str [109,97,114,107],.str a]
 | .bare x=>x.cu
 | .full _ x=>x.cu
abbrev dN (x:LN):T:=.tup [.str x.sh,x.GP,x.GQ]
structure WL (x:LN):Prop where
 ok:x.ok
 sh:x.c8
 fi:x.qC
theorem i7 {x:LN}(h:x.c8):noOwn (dN x)=true:=by
 show (true&&(noOwn x.GP&&(noOwn x.GQ&&true)))=true
 cases x with
 | mark a=>rfl
 | bare d=>
  show (true&&(true&&(noOwn d.cu&&true)))=true
  rw [nP h];rfl
 | full c d=>
  show (true&&(noOwn c.cu&&(noOwn d.cu&&true)))=true
  rw [Cg h.1,nP h.2];rfl
theorem N7 {g:FG}{a:FE}{s s1:S}{t:T}{r:List (Option C)}(h:a s=.ok (t,s1)) (k:g t s1.r=some r):mJ g a s=.ok (.nx,⟨r,s1.m⟩):=by
 unfold mJ
 rw [h]
 refine Eq.trans (bH _ _) ?_
 dsimp only
 rw [k];rfl
theorem IF {c d:FT}{s s1:S}{R:Res (Bool × S)}(h:c s=.ok (true,s1)) (k:d s1=R):ee c d s=R:=by
 unfold ee
 rw [h];exact k
theorem vS (x:PC):x.sh≠[]:=by
 cases x with
 | last=>simp [PC.sh]
 | soon d v w t=>simp [PC.sh]
 | ft x y=>simp [PC.sh]
 | rp x=>cases x<;>simp [PC.sh,RP.sh]
theorem eqS {s:S}{x w:List Nat}{a:FE}(h:a s=.ok (.str x,s)):_root_.D.a_ (oE a (cS w)) s=.ok (decide (x=w),s):=uq (aD h (u:=.str w) rfl (iU _ _))
theorem neS {s:S}{x w:List Nat}{a:FE}(h:a s=.ok (.str x,s)):_root_.D.a_ (bB (aN .NotEq) a (cS w)) s=.ok (!decide (x=w),s):=uq (aD (v:=.bl (!decide (x=w))) h (u:=.str w) rfl rfl)
theorem yr {r:List (Option C)}{ns:List Int}(n k:Nat):ai (aa M Ft (n+1) 41) [] (k2 (vF 0) (cI (k:Nat))) ⟨sv (.scr ns)::r,[]⟩=.ok (.int (cellAt ns k),⟨sv (.scr ns)::r,[]⟩):=aA (ts:=[.scr ns,.int (k:Nat)]) (s':=⟨sv (.scr ns)::r,[]⟩) rfl (GK n)
theorem GR {d:DD}(h:d.N5):(LN.bare d).jo=none:=by
 cases d with
 | go a=>cases h
 | _=>rfl
theorem qN {c:CD}{d:DD}(h:d.N5):(LN.full c d).jo=none:=by
 cases d with
 | go a=>cases h
 | _=>rfl
theorem vU {a:List Nat}(h:nA a):yC a:=by
 have:dF.all (fun c=>decide (c∈fq/\c≠34))=true:=by decide +kernel
 exact ⟨fun c hc=>of_decide_eq_true (List.all_eq_true.mp this c (h.hd c hc)),by have:=h.hl;omega⟩
abbrev iC (ns:List Int) (x:Option PC) (d:DD) (a b c:Option C):S:=⟨[sv (.scr ns),sv (.int (cellAt ns 0)),sv (.str (qT x)),sv (nW x),sv (.str d.sh),sv d.cu,a,b,c],[]⟩
theorem Wb (i:Int):i % 10=0\/i % 10=1\/i % 10=2\/i % 10=3\/i % 10=4\/i % 10=5\/i % 10=6\/i % 10=7\/i % 10=8\/i % 10=9:=by omega
theorem Z3 (i:Int):i % 9=0\/i % 9=1\/i % 9=2\/i % 9=3\/i % 9=4\/i % 9=5\/i % 9=6\/i % 9=7\/i % 9=8\/i % 9=9:=by omega
theorem Wc (i:Int):i % 11=0\/i % 11=1\/i % 11=2\/i % 11=3\/i % 11=4\/i % 11=5\/i % 11=6\/i % 11=7\/i % 11=8\/i % 11=9\/i % 11=10:=by omega
theorem Ci (n:Nat) {ns:List Int}{m:List Ob}:∃ x:LN,WL x/\x.name=none/\x.jo=none/\aa M Ft (n+5) 57 [.scr ns] m=.ok (dN x,m):=by
 obtain ⟨x,hx,ex⟩:=qJ n (cell:=cellAt ns 0 % 10) (other:=cellAt ns 2) (m:=[]) (Wb _)
 obtain ⟨d,hd,ed⟩:=Cc n (cell:=cellAt ns 1 % 11) (other:=cellAt ns 3) (m:=[]) (Wc _)
 have pre:∀ (B:FS) (t:T) (a b c:Option C),B (iC ns x d none none none)=.ok (.rt t,iC ns x d a b c)->ah (aE 1 (ai (aa M Ft (n+4) 41) [] (k2 (vF 0) (cI 0))))
   (ah (mJ (dU [2,3]) (ai (aa M Ft (n+4) 49) [] (k2 (oM (vF 1) (cI 10)) (ai (aa M Ft (n+4) 41) [] (k2 (vF 0) (cI 2))))))
   (ah (mJ (dU [4,5]) (ai (aa M Ft (n+4) 51) [] (k2 (oM (ai (aa M Ft (n+4) 41) [] (k2 (vF 0) (cI 1))) (cI 11)) (ai (aa M Ft (n+4) 41) [] (k2 (vF 0) (cI 3)))))) B)) ⟨[sv (.scr ns),none,none,none,none,none,none,none,none],[]⟩=.ok (.rt t,iC ns x d a b c):=fun B t a b c h=>by
  refine seq1 (bg (t:=.int (cellAt ns 0)) (s':=⟨[sv (.scr ns),none,none,none,none,none,none,none,none],[]⟩) (yr (n+3) 0)) ?_
  refine seq1 (s':=⟨[sv (.scr ns),sv (.int (cellAt ns 0)),sv (.str (qT x)),sv (nW x),none,none,none,none,none],[]⟩) (N7 (t:=.tup [.str (qT x),nW x]) (s1:=⟨[sv (.scr ns),sv (.int (cellAt ns 0)),none,none,none,none,none,none,none],[]⟩) (aA (ts:=[.int (cellAt ns 0 % 10),.int (cellAt ns 2)]) (s':=⟨[sv (.scr ns),sv (.int (cellAt ns 0)),none,none,none,none,none,none,none],[]⟩) (au (md rfl (by decide)) (au (yr (n+3) 2) rfl)) ex) rfl) ?_
  refine seq1 (s':=iC ns x d none none none) (N7 (t:=.tup [.str d.sh,d.cu]) (s1:=⟨[sv (.scr ns),sv (.int (cellAt ns 0)),sv (.str (qT x)),sv (nW x),none,none,none,none,none],[]⟩) (aA (ts:=[.int (cellAt ns 1 % 11),.int (cellAt ns 3)]) (s':=⟨[sv (.scr ns),sv (.int (cellAt ns 0)),sv (.str (qT x)),sv (nW x),none,none,none,none,none],[]⟩) (au (md (yr (n+3) 1) (by decide)) (au (yr (n+3) 3) rfl)) ed) rfl) h
 have e9:_root_.D.a_ (oE (oM (vF 1) (cI 10)) (cI 9)) (iC ns x d none none none)=.ok (decide (cellAt ns 0 % 10=9),iC ns x d none none none):=yq (md rfl (by decide))
 by_cases h9:cellAt ns 0 % 10=9
 ·have NA:=nL (cellAt ns 3)
  have T6:∀ b c,TE (vF 6) (iC ns x d (sv (.str (aS (cellAt ns 3)))) b c) (aS (cellAt ns 3)) 8:=fun b c=>⟨rfl,NA.hl⟩
  have hw:cellAt ns 1 % 3=0\/cellAt ns 1 % 3=1\/cellAt ns 1 % 3=2:=by omega
  have go:∀ (w:Int) (y:DD) (wd:List Nat),cellAt ns 1 % 3=w->y.atEnd->y.ok->y.c8->y.sh=wd->wd.length<=100->f9 (.lst [.str [116,101,108,108],.str ([98,114,105,110,103,32]++aS (cellAt ns 3)),.str ([115,97,121,32,34]++aS (cellAt ns 3)++[34])]) (.int w)=some (.str wd)->f9 (.lst [.tup [.str [116,101,108,108]],.tup [.str [98,114,105,110,103],.str (aS (cellAt ns 3))],.tup [.str [115,97,121],.str (aS (cellAt ns 3))]]) (.int w)=some y.cu->aa M Ft (n+5) 57 [.scr ns] m=.ok (dN (.full .fin y),m):=fun w y wd hw he ho hs hy hl i1 i2=>by
   rw [WK]
   refine aq (m':=[]) rfl (az (s':=iC ns x d (sv (.str (aS (cellAt ns 3)))) (sv (.int w)) (sv (.str wd))) rfl (pre _ _ _ _ _ (b8 (eM (s':=iC ns x d none none none) (e9.trans (by rw [decide_eq_true h9])) (seq1 (bg (t:=.str (aS (cellAt ns 3))) (s':=iC ns x d none none none) (aA (ts:=[.int (cellAt ns 3)]) (s':=iC ns x d none none none) (au (yr (n+3) 3) rfl) (kL (n+3)))) (seq1 (bg (t:=.int w) (s':=iC ns x d (sv (.str (aS (cellAt ns 3)))) none none) ((md (yr (n+3) 1) (by decide)).trans (by rw [hw];rfl))) (seq1 (bg (t:=.str wd) (s':=iC ns x d (sv (.str (aS (cellAt ns 3)))) (sv (.int w)) none) (aD (bI (au rfl (au (TE.add (TE.c _) (T6 _ _)).e (au (TE.add (TE.add (TE.c _) (T6 _ _)) (TE.c _)).e rfl))) (N4 _ _ _)) rfl i1)) (aC (gj (TE.as (TE.add (TE.c _) (⟨rfl,hl⟩:TE (vF 8) (iC ns x d (sv (.str (aS (cellAt ns 3)))) (sv (.int w)) (sv (.str wd))) wd 100)) (by rw [<- hy];rfl)) (V3 rfl) (aD (bI (ts:=[.tup [.str [116,101,108,108]],.tup [.str [98,114,105,110,103],.str (aS (cellAt ns 3))],.tup [.str [115,97,121],.str (aS (cellAt ns 3))]]) rfl (N4 _ _ _)) rfl i2))))))))) rfl) (i7 (x:=.full .fin y) ⟨trivial,hs⟩)
  rcases hw with hw | hw | hw
  ·exact ⟨.full .fin .tell,⟨⟨trivial,trivial⟩,⟨trivial,trivial⟩,trivial⟩,rfl,rfl,go 0 .tell _ hw trivial trivial trivial rfl (by decide) rfl rfl⟩
  ·exact ⟨.full .fin (.bring (aS (cellAt ns 3))),⟨⟨trivial,NA⟩,⟨trivial,trivial⟩,trivial⟩,rfl,rfl,go 1 (.bring (aS (cellAt ns 3))) ([98,114,105,110,103,32]++aS (cellAt ns 3)) hw trivial NA trivial rfl (by have:=NA.hl;simp only [List.length_append,List.length_cons,List.length_nil];omega) rfl rfl⟩
  ·exact ⟨.full .fin (.say (aS (cellAt ns 3))),⟨⟨trivial,vU NA⟩,⟨trivial,trivial⟩,trivial⟩,rfl,rfl,go 2 (.say (aS (cellAt ns 3))) ([115,97,121,32,34]++aS (cellAt ns 3)++[34]) hw trivial (vU NA) trivial (by simp [DD.sh]) (by have:=NA.hl;simp only [List.length_append,List.length_cons,List.length_nil];omega) rfl rfl⟩
 ·have n9:=e9.trans (by rw [decide_eq_false h9])
  have ld:=nH hd.ok hd.sh
  cases x with
  | none=>
   refine ⟨.bare d,⟨hd.ok,hd.sh,hd.fi⟩,rfl,GR hd.ng,?_⟩
   rw [WK]
   exact aq (m':=[]) rfl (az (s':=iC ns none d none none none) rfl (pre _ _ _ _ _ (seq1 (bq n9 rfl) (b8 (eM (s':=iC ns none d none none none) rfl (aC (gj rfl rfl rfl)))))) rfl) (i7 (x:=.bare d) hd.sh)
  | some p=>
   obtain ⟨po,ps⟩:=hx p rfl
   have lp:=kJ ps
   have nh:_root_.D.a_ (oE (vF 2) (cS [])) (iC ns (some p) d none none none)=.ok (false,iC ns (some p) d none none none):=by
    exact (eqS (x:=p.sh) rfl).trans (by rw [decide_eq_false (vS p)])
   have e1:_root_.D.a_ (oE (oM (oD (vF 1) (cI 10)) (cI 2)) (cI 1)) (iC ns (some p) d none none none)=.ok (decide (cellAt ns 0/10 % 2=1),iC ns (some p) d none none none):=yq (md (fd rfl (by decide)) (by decide))
   by_cases h1:cellAt ns 0/10 % 2=1
   ·refine ⟨.full (.no p) d,⟨⟨po,hd.ok⟩,⟨ps,hd.sh⟩,hd.fi⟩,rfl,qN hd.ng,?_⟩
    rw [WK]
    exact aq (m':=[]) rfl (az (s':=iC ns (some p) d none none none) rfl (pre _ _ _ _ _ (seq1 (bq n9 rfl) (seq1 (bq nh rfl) (b8 (eM (s':=iC ns (some p) d none none none) (e1.trans (by rw [decide_eq_true h1])) (aC (gj (TE.add (TE.add (TE.add (TE.c _) (⟨rfl,lp⟩:TE (vF 2) (iC ns (some p) d none none none) p.sh 300)) (TE.c _)) (⟨rfl,ld⟩:TE (vF 4) (iC ns (some p) d none none none) d.sh 300)).e (cC rfl rfl) rfl))))))) rfl) (i7 (x:=.full (.no p) d) ⟨ps,hd.sh⟩)
   ·refine ⟨.full (.pc p) d,⟨⟨po,hd.ok⟩,⟨ps,hd.sh⟩,hd.fi⟩,rfl,qN hd.ng,?_⟩
    rw [WK]
    exact aq (m':=[]) rfl (az (s':=iC ns (some p) d none none none) rfl (pre _ _ _ _ _ (seq1 (bq n9 rfl) (seq1 (bq nh rfl) (seq1 (s':=iC ns (some p) d none none none) (bq (s':=iC ns (some p) d none none none) (e1.trans (by rw [decide_eq_false h1])) rfl) (aC (gj (TE.add (TE.add (⟨rfl,lp⟩:TE (vF 2) (iC ns (some p) d none none none) p.sh 300) (TE.c _)) (⟨rfl,ld⟩:TE (vF 4) (iC ns (some p) d none none none) d.sh 300)).e rfl rfl)))))) rfl) (i7 (x:=.full (.pc p) d) ⟨ps,hd.sh⟩)
abbrev gI (ns:List Int) (w:Int) (g h c:Option C):S:=⟨[sv (.scr ns),sv (.int w),sv (.str (aS (cellAt ns 3))),sv (dN (.mark (aS (cellAt ns 3)))),g,h,c],[]⟩
theorem Cj (n:Nat) {ns:List Int}{w:Int}(x:Option PC) (hx:∀ p,x=some p->p.ok/\p.c8):∃ g:LN,WL g/\g.name=none/\g.jo=some (aS (cellAt ns 3))/\∃ h c,∀ (B:FS) (R:Res (Out × S)),B (gI ns w (sv (dN g)) h c)=R->ah (aW (ee (_root_.D.a_ (bB (aN .NotEq) (vF 5) (cS []))) (_root_.D.a_ (oE (oM (oD (ai (aa M Ft (n+1) 41) [] (k2 (vF 0) (cI 0))) (cI 9)) (cI 2)) (cI 1))))
  (ah (aE 5 (oA (cS [110,111,116,32]) (vF 5)))
 (aE 6 (aM aL (k2 (cS [110,111,116]) (vF 6)))))
  av)
 (ah (aW (_root_.D.a_ (bB (aN .NotEq) (vF 5) (cS [])))
  (aE 5 (oA (vF 5) (cS [58,32])))
  av)
 (ah (aE 4 (aM aL (k3 (oA (oA (vF 5) (cS [103,111,32])) (vF 2)) (vF 6) (aM aL (k2 (cS [103,111]) (vF 2)))))) B)) (gI ns w none (sv (.str (qT x))) (sv (nW x)))=R:=by
 have NA:=nL (cellAt ns 3)
 cases x with
 | none=>
  refine ⟨.bare (.go (aS (cellAt ns 3))),⟨NA,trivial,trivial⟩,rfl,rfl,sv (.str []),sv (nW none),fun B R h=>?_⟩
  refine seq1 (s':=gI ns w none (sv (.str [])) (sv (nW none))) (bq (s':=gI ns w none (sv (.str [])) (sv (nW none))) rfl rfl) (seq1 (s':=gI ns w none (sv (.str [])) (sv (nW none))) (bq (s':=gI ns w none (sv (.str [])) (sv (nW none))) rfl rfl) (seq1 (bg (t:=dN (.bare (.go (aS (cellAt ns 3))))) (s':=gI ns w none (sv (.str [])) (sv (nW none))) ?_) h))
  exact gj (TE.add (TE.add (⟨rfl,Nat.le_refl _⟩:TE (vF 5) (gI ns w none (sv (.str [])) (sv (nW none))) [] 0) (TE.c [103,111,32])) (⟨rfl,NA.hl⟩:TE (vF 2) (gI ns w none (sv (.str [])) (sv (nW none))) (aS (cellAt ns 3)) 8)).e rfl (cC rfl rfl)
 | some p=>
  obtain ⟨po,ps⟩:=hx p rfl
  have lp:=kJ ps
  have t5:∀ (l:List Nat) (c:T),l≠[]->_root_.D.a_ (bB (aN .NotEq) (vF 5) (cS [])) (gI ns w none (sv (.str l)) (sv c))=.ok (true,gI ns w none (sv (.str l)) (sv c)):=fun l c hl=>(neS (x:=l) rfl).trans (by rw [decide_eq_false hl];rfl)
  have e1:_root_.D.a_ (oE (oM (oD (ai (aa M Ft (n+1) 41) [] (k2 (vF 0) (cI 0))) (cI 9)) (cI 2)) (cI 1)) (gI ns w none (sv (.str p.sh)) (sv p.cu))=.ok (decide (cellAt ns 0/9 % 2=1),gI ns w none (sv (.str p.sh)) (sv p.cu)):=yq (md (fd (yr n 0) (by decide)) (by decide))
  have fin:∀ (l:List Nat) (y:CD) (B:FS) (R:Res (Out × S)),l≠[]->y.sh=l->l.length<=310->B (gI ns w (sv (dN (.full y (.go (aS (cellAt ns 3)))))) (sv (.str (l++[58,32]))) (sv y.cu))=R->ah (aW (_root_.D.a_ (bB (aN .NotEq) (vF 5) (cS [])))
    (aE 5 (oA (vF 5) (cS [58,32])))
    av)
    (ah (aE 4 (aM aL (k3 (oA (oA (vF 5) (cS [103,111,32])) (vF 2)) (vF 6) (aM aL (k2 (cS [103,111]) (vF 2)))))) B) (gI ns w none (sv (.str l)) (sv y.cu))=R:=fun l y B R hl hy hk h=>by
   refine seq1 (s':=gI ns w none (sv (.str (l++[58,32]))) (sv y.cu)) (eM (t5 l y.cu hl) (bg (TE.add (⟨rfl,hk⟩:TE (vF 5) (gI ns w none (sv (.str l)) (sv y.cu)) l 310) (TE.c [58,32])).e)) (seq1 (bg (t:=dN (.full y (.go (aS (cellAt ns 3))))) (s':=gI ns w none (sv (.str (l++[58,32]))) (sv y.cu)) ?_) h)
   exact gj (TE.as (TE.add (TE.add (⟨rfl,by rw [List.length_append];show _+2<=312;omega⟩:TE (vF 5) (gI ns w none (sv (.str (l++[58,32]))) (sv y.cu)) (l++[58,32]) 312) (TE.c [103,111,32])) (⟨rfl,NA.hl⟩:TE (vF 2) (gI ns w none (sv (.str (l++[58,32]))) (sv y.cu)) (aS (cellAt ns 3)) 8)) (by rw [<- hy];simp [LN.sh,DD.sh])) rfl (cC rfl rfl)
  by_cases h1:cellAt ns 0/9 % 2=1
  ·refine ⟨.full (.no p) (.go (aS (cellAt ns 3))),⟨⟨po,NA⟩,⟨ps,trivial⟩,trivial⟩,rfl,rfl,sv (.str ([110,111,116,32]++p.sh++[58,32])),sv (CD.no p).cu,fun B R h=>?_⟩
   refine seq1 (s':=gI ns w none (sv (.str ([110,111,116,32]++p.sh))) (sv (CD.no p).cu)) (eM (IF (t5 p.sh p.cu (vS p)) (e1.trans (by rw [decide_eq_true h1]))) (seq1 (bg (t:=.str ([110,111,116,32]++p.sh)) (s':=gI ns w none (sv (.str p.sh)) (sv p.cu)) (TE.add (TE.c _) (⟨rfl,lp⟩:TE (vF 5) (gI ns w none (sv (.str p.sh)) (sv p.cu)) p.sh 300)).e) (bg (t:=(CD.no p).cu) (s':=gI ns w none (sv (.str ([110,111,116,32]++p.sh))) (sv p.cu)) (cC rfl rfl)))) (fin ([110,111,116,32]++p.sh) (.no p) B R (by simp) rfl (by rw [List.length_append];show 4+_<=_;omega) h)
  ·refine ⟨.full (.pc p) (.go (aS (cellAt ns 3))),⟨⟨po,NA⟩,⟨ps,trivial⟩,trivial⟩,rfl,rfl,sv (.str (p.sh++[58,32])),sv (CD.pc p).cu,fun B R h=>?_⟩
   exact seq1 (s':=gI ns w none (sv (.str p.sh)) (sv p.cu)) (bq (IF (t5 p.sh p.cu (vS p)) (e1.trans (by rw [decide_eq_false h1]))) rfl) (fin p.sh (.pc p) B R (vS p) rfl (by omega) h)
structure LSk (xs:List LN):Prop where
 k:∀ x∈xs,WL x
 ne:xs≠[]
 nT:xs.length<=2
 nd:(marks xs).Nodup
 go:∀ x∈xs,∀ a,x.jo=some a->a∈marks xs
theorem yt (n:Nat) {ns:List Int}{m:List Ob}:∃ xs:List LN,LSk xs/\aa M Ft (n+6) 58 [.scr ns] m=.ok (.lst (xs.map dN),m):=by
 have NA:=nL (cellAt ns 3)
 have MK:WL (.mark (aS (cellAt ns 3))):=⟨NA,trivial,trivial⟩
 by_cases h2:2<cellAt ns 4 % 9
 ·obtain ⟨x,hx,x1,x2,e⟩:=Ci n (ns:=ns) (m:=[])
  refine ⟨[x],⟨fun y hy=>by rw [List.mem_singleton.mp hy];exact hx,by simp,by show 1<=2;decide,?_,fun y hy a ha=>?_⟩,?_⟩
  ·unfold marks
   rw [List.filterMap_cons,x1]
   exact List.nodup_nil
  ·rw [List.mem_singleton.mp hy,x2] at ha
   cases ha
  ·rw [w58]
   refine aq (m':=[]) rfl (az (s':=⟨[sv (.scr ns),sv (.int (cellAt ns 4 % 9)),none,none,none,none,none],[]⟩) rfl (seq1 (bg (t:=.int (cellAt ns 4 % 9)) (s':=⟨[sv (.scr ns),none,none,none,none,none,none],[]⟩) (md (yr (n+4) 4) (by decide))) (b8 (eM (s':=⟨[sv (.scr ns),sv (.int (cellAt ns 4 % 9)),none,none,none,none,none],[]⟩) ?_ (aC (bI (ts:=[dN x]) (au (aA (ts:=[.scr ns]) (s':=⟨[sv (.scr ns),sv (.int (cellAt ns 4 % 9)),none,none,none,none,none],[]⟩) rfl e) rfl) (NZ _)))))) rfl) ?_
   ·exact uq ((aD (t:=.int (cellAt ns 4 % 9)) (u:=.int 2) (s1:=⟨[sv (.scr ns),sv (.int (cellAt ns 4 % 9)),none,none,none,none,none],[]⟩) (s2:=⟨[sv (.scr ns),sv (.int (cellAt ns 4 % 9)),none,none,none,none,none],[]⟩) rfl rfl (kZ _ _)).trans (by rw [decide_eq_true h2]))
   ·exact Ox (i7 hx.sh)
 ·obtain ⟨x,hx,ex⟩:=qJ (n+1) (cell:=cellAt ns 0 % 9) (other:=cellAt ns 2) (m:=[]) (Z3 _)
  have hw:cellAt ns 4 % 9=0\/cellAt ns 4 % 9=1\/cellAt ns 4 % 9=2:=by omega
  have run:∀ (w:Int) (xs:List LN) (g:LN) (h c:Option C),cellAt ns 4 % 9=w->decide (2<w)=false->(∀ x∈xs,x.c8)->(∀ (B:FS) (R:Res (Out × S)),B (gI ns w (sv (dN g)) h c)=R->ah (aW (ee (_root_.D.a_ (bB (aN .NotEq) (vF 5) (cS []))) (_root_.D.a_ (oE (oM (oD (ai (aa M Ft (n+5) 41) [] (k2 (vF 0) (cI 0))) (cI 9)) (cI 2)) (cI 1))))
    (ah (aE 5 (oA (cS [110,111,116,32]) (vF 5)))
    (aE 6 (aM aL (k2 (cS [110,111,116]) (vF 6)))))
    av)
    (ah (aW (_root_.D.a_ (bB (aN .NotEq) (vF 5) (cS [])))
    (aE 5 (oA (vF 5) (cS [58,32])))
    av)
    (ah (aE 4 (aM aL (k3 (oA (oA (vF 5) (cS [103,111,32])) (vF 2)) (vF 6) (aM aL (k2 (cS [103,111]) (vF 2)))))) B)) (gI ns w none (sv (.str (qT x))) (sv (nW x)))=R)->f9 (.lst [.lst [dN (.mark (aS (cellAt ns 3)))],.lst [dN (.mark (aS (cellAt ns 3))),dN g],.lst [dN g,dN (.mark (aS (cellAt ns 3)))]]) (.int w)=some (.lst (xs.map dN))->aa M Ft (n+6) 58 [.scr ns] m=.ok (.lst (xs.map dN),m):=fun w xs g h c hw hd hs hg hi=>by
   rw [w58]
   refine aq (m':=[]) rfl (az (s':=gI ns w (sv (dN g)) h c) rfl (seq1 (bg (t:=.int w) (s':=⟨[sv (.scr ns),none,none,none,none,none,none],[]⟩) ((md (yr (n+4) 4) (by decide)).trans (by rw [hw];rfl))) (seq1 (s':=⟨[sv (.scr ns),sv (.int w),none,none,none,none,none],[]⟩) (bq (s':=⟨[sv (.scr ns),sv (.int w),none,none,none,none,none],[]⟩) ?_ rfl) (seq1 (bg (t:=.str (aS (cellAt ns 3))) (s':=⟨[sv (.scr ns),sv (.int w),none,none,none,none,none],[]⟩) (aA (ts:=[.int (cellAt ns 3)]) (s':=⟨[sv (.scr ns),sv (.int w),none,none,none,none,none],[]⟩) (au (yr (n+4) 3) rfl) (kL (n+4)))) (seq1 (bg (t:=dN (.mark (aS (cellAt ns 3)))) (s':=⟨[sv (.scr ns),sv (.int w),sv (.str (aS (cellAt ns 3))),none,none,none,none],[]⟩) (gj (TE.add (TE.c _) (⟨rfl,NA.hl⟩:TE (vF 2) ⟨[sv (.scr ns),sv (.int w),sv (.str (aS (cellAt ns 3))),none,none,none,none],[]⟩ (aS (cellAt ns 3)) 8)).e (V3 rfl) (cC rfl rfl))) (seq1 (s':=gI ns w none (sv (.str (qT x))) (sv (nW x))) (N7 (t:=.tup [.str (qT x),nW x]) (s1:=gI ns w none none none) (aA (ts:=[.int (cellAt ns 0 % 9),.int (cellAt ns 2)]) (s':=gI ns w none none none) (au (md (yr (n+4) 0) (by decide)) (au (yr (n+4) 2) rfl)) ex) rfl) (hg _ _ (aC (aD (bI (au (bI (au rfl rfl) (NZ _)) (au (bI (au rfl (au rfl rfl)) (qI _ _)) (au (bI (au rfl (au rfl rfl)) (qI _ _)) rfl))) (N4 _ _ _)) rfl hi)))))))) rfl) ?_
   ·exact uq ((aD (t:=.int w) (u:=.int 2) (s1:=⟨[sv (.scr ns),sv (.int w),none,none,none,none,none],[]⟩) (s2:=⟨[sv (.scr ns),sv (.int w),none,none,none,none,none],[]⟩) rfl rfl (kZ _ _)).trans (by rw [hd]))
   ·show aO (xs.map dN)=true
    clear hi
    induction xs with
    | nil=>rfl
    | cons x xs ih=>
     show (noOwn (dN x)&&aO (xs.map dN))=true
     rw [i7 (hs x (List.mem_cons_self ..)),ih fun y hy=>hs y (List.mem_cons_of_mem _ hy)];rfl
  rcases hw with hw | hw | hw
  ·obtain ⟨g,hg,g1,g2,h,c,e⟩:=Cj (n+4) (ns:=ns) (w:=0) x hx
   refine ⟨[.mark (aS (cellAt ns 3))],⟨fun y hy=>by rw [List.mem_singleton.mp hy];exact MK,by simp,by show 1<=2;decide,by simp [marks,LN.name],fun y hy a ha=>by rw [List.mem_singleton.mp hy] at ha;cases ha⟩,run 0 _ g h c hw rfl (fun y hy=>by rw [List.mem_singleton.mp hy];trivial) e rfl⟩
  ·obtain ⟨g,hg,g1,g2,h,c,e⟩:=Cj (n+4) (ns:=ns) (w:=1) x hx
   have em:marks [.mark (aS (cellAt ns 3)),g]=[aS (cellAt ns 3)]:=by unfold marks;rw [List.filterMap_cons,List.filterMap_cons,g1];rfl
   refine ⟨[.mark (aS (cellAt ns 3)),g],⟨fun y hy=>?_,by simp,by show 2<=2;decide,by rw [em];simp,fun y hy a ha=>?_⟩,run 1 _ g h c hw rfl (fun y hy=>?_) e rfl⟩
   ·rcases List.mem_cons.mp hy with z | z
    ·rw [z];exact MK
    ·rw [List.mem_singleton.mp z];exact hg
   ·rw [em]
    rcases List.mem_cons.mp hy with z | z
    ·rw [z] at ha;cases ha
    ·rw [List.mem_singleton.mp z,g2] at ha;cases ha;simp
   ·rcases List.mem_cons.mp hy with z | z
    ·rw [z];trivial
    ·rw [List.mem_singleton.mp z];exact hg.sh
  ·obtain ⟨g,hg,g1,g2,h,c,e⟩:=Cj (n+4) (ns:=ns) (w:=2) x hx
   have em:marks [g,.mark (aS (cellAt ns 3))]=[aS (cellAt ns 3)]:=by unfold marks;rw [List.filterMap_cons,g1,List.filterMap_cons];rfl
   refine ⟨[g,.mark (aS (cellAt ns 3))],⟨fun y hy=>?_,by simp,by show 2<=2;decide,by rw [em];simp,fun y hy a ha=>?_⟩,run 2 _ g h c hw rfl (fun y hy=>?_) e rfl⟩
   ·rcases List.mem_cons.mp hy with z | z
    ·rw [z];exact hg
    ·rw [List.mem_singleton.mp z];exact MK
   ·rw [em]
    rcases List.mem_cons.mp hy with z | z
    ·rw [z,g2] at ha;cases ha;simp
    ·rw [List.mem_singleton.mp z] at ha;cases ha
   ·rcases List.mem_cons.mp hy with z | z
    ·rw [z];exact hg.sh
    ·rw [List.mem_singleton.mp z];trivial
theorem i8 {d:List Nat}{v:Int}(h:k6 d v):10 ∉ d:=fun z=>absurd (h.nm.hd 10 z) (by decide)
theorem uu {w:List Nat}{t:T}(h:kG w t):10 ∉ w:=fun z=>by
 obtain ⟨f,its,b,h1,h2,rfl,rfl⟩:=h
 exact absurd (kB h1 10 z).1 (by decide)
theorem iD {a:List Nat}(h:nA a):10 ∉ a:=fun z=>absurd (h.hd 10 z) (by decide)
theorem vV {a:List Nat}(h:yC a):10 ∉ a:=fun z=>absurd (h.h 10 z).1 (by decide)
theorem uv {x:RP}(h:x.c8):10 ∉ x.sh:=by
 cases x with
 | row d v=>simp [RP.sh,i8 h]
 | like w t=>simp [RP.sh,uu h]
theorem Cm {x:PC}(h:x.c8):10 ∉ x.sh:=by
 cases x with
 | last=>simp [PC.sh]
 | soon d v w t=>simp [PC.sh,i8 h.1,uu h.2]
 | ft x y=>simp [PC.sh,uv h.1,uv h.2]
 | rp x=>exact uv h
theorem N8 {x:CD}(h:x.c8):10 ∉ x.sh:=by
 cases x with
 | fin=>simp [CD.sh]
 | no x=>simp [CD.sh,Cm h]
 | pc x=>exact Cm h
theorem Cn {x:DD}(ho:x.ok) (h:x.c8):10 ∉ x.sh:=by
 cases x with
 | say l=>simp [DD.sh,vV ho]
 | swap e w t l=>cases e<;>simp [DD.sh,B3,uu h,vV ho.2]
 | join d v=>simp [DD.sh,i8 h]
 | pile a=>simp [DD.sh,iD ho]
 | pileN a d v=>simp [DD.sh,iD ho.1,i8 h]
 | bring a=>simp [DD.sh,iD ho]
 | go a=>simp [DD.sh,iD ho]
 | add d v d2 v2=>simp [DD.sh,i8 h.1,i8 h.2]
 | _=>simp [DD.sh]
theorem N9 {x:LN}(ho:x.ok) (h:x.c8):10 ∉ x.sh:=by
 cases x with
 | mark a=>simp [LN.sh,iD ho]
 | bare x=>exact Cn ho h
 | full c x=>simp [LN.sh,N8 h.1,Cn ho.2 h.2]
theorem Wd (x:DD):x.sh≠[]:=by
 cases x with
 | swap e w t l=>cases e<;>simp [DD.sh,B3]
 | _=>simp [DD.sh]
theorem We (x:LN):x.sh≠[]:=by
 cases x with
 | mark a=>simp [LN.sh]
 | bare x=>exact Wd x
 | full c x=>simp [LN.sh]
theorem N_ {l:List (List Nat)}(h:(l.map (·.length)).sum+l.length<=1000000):joinM [10] [.lst (l.map T.str)]=some (.str (bf [10] l)):=by
 show lE (.str [10]) (.lst (l.map T.str))=_
 unfold lE
 dsimp only
 rw [strs_map]
 show gd _ _=_
 exact gK (by rw [List.length_singleton,Nat.mul_one];exact h)
theorem qO:∀ {xs:List LN},xs≠[]->bf [10] (xs.map LN.sh)++[10]=(GJ xs).flatten
 | [],h=>absurd rfl h
 | [x],_=>by show x.sh++[10]=(x.sh++[10])++[];rw [List.append_nil]
 | x::y::r,_=>by
  show x.sh++[10]++bf [10] ((y::r).map LN.sh)++[10]=(x.sh++[10])++(GJ (y::r)).flatten
  rw [List.append_assoc,qO (by simp)]
theorem qP:∀ (l:List (List Nat)) (k:Nat),(∀ x∈l,x.length<=k)->(l.map (·.length)).sum<=k*l.length/\(bf [10] l).length<=(k+1)*l.length
 | [],k,_=>⟨Nat.zero_le _,Nat.zero_le _⟩
 | [a],k,h=>by
  have:=h a (List.mem_singleton.mpr rfl)
  constructor
  ·show a.length+0<=k*1;omega
  ·show a.length<=(k+1)*1;omega
 | a::b::r,k,h=>by
  obtain ⟨h1,h2⟩:=qP (b::r) k fun x hx=>h x (List.mem_cons_of_mem _ hx)
  have:=h a (List.mem_cons_self ..)
  rw [List.length_cons (a:=a)]
  constructor
  ·show a.length+((b::r).map (·.length)).sum<=_
   rw [Nat.mul_succ];omega
  ·show (a++[10]++bf [10] (b::r)).length<=_
   rw [List.length_append,List.length_append,Nat.mul_succ]
   show a.length+1+_<=_
   omega
theorem vW (xs:List LN):dZ xs=(xs.map LN.sh).map T.str:=by
 rw [List.map_map]
 apply List.map_congr_left
 intro x _
 show T.str (x.txt [])=T.str x.sh
 rw [VW,List.append_nil]
theorem IG {α:Type}(v:α->T) {xs:List α}{k:Nat}(h:k<xs.length):f9 (.lst (xs.map v)) (.int (0+(k:Nat)))=some (v xs[k]):=by
 show atT (xs.map v) (0+(k:Int))=_
 rw [Int.zero_add,kg (by rw [List.length_map];exact h),List.getElem?_map,List.getElem?_eq_getElem h];rfl
theorem Z4 {g:List T->Option (List T)}{fl:FL}{s s1:S}{ts us:List T}(h:fl s=.ok (ts,s1)) (k:g ts=some us):sU g fl s=.ok (us,s1):=by
 unfold sU
 rw [h]
 refine Eq.trans (bH _ _) ?_
 dsimp only
 rw [k];rfl
theorem Wf (n:Nat) {x:LN}{m:List Ob}(h:x.c8):aa M Ft (n+4) 54 [x.cond,x.GP] m=.ok (.bl true,m):=by
 cases x with
 | mark a=>exact ID n
 | bare d=>exact ID n
 | full c d=>exact V_ n h.1
theorem Oa (n:Nat) {x:LN}{m:List Ob}(h:x.c8):aa M Ft (n+3) 56 [x.eV,x.GQ] m=.ok (.bl true,m):=by
 cases x with
 | mark a=>exact Wa n
 | bare d=>exact IE n h
 | full c d=>exact IE n h.2
abbrev uw (xs:List LN):T:=.obj 0 [.lst (aX xs)]
abbrev jr (ns:List Int) (xs:List LN) (tx:List Nat) (a b c:Option C):S:=⟨[sv (.scr ns),sv (.lst (xs.map dN)),sv (.str tx),sv (uw xs),a,b,c],[]⟩
theorem Co (n:Nat) {ns:List Int}{xs:List LN}{tx:List Nat}(hs:∀ x∈xs,x.c8):∀ (ks:List Nat) (a c:Option C),(∀ k∈ks,k<xs.length)->∃ a' c',dJ (setG 4)
  (ah (aE 6 (oI (aI M.P.tab 0 (vF 3)) (vF 4)))
 (ah (aW (eS (bA (_root_.D.tB (bD (cy M.P.sub [1]) (vF 6)))) (bA (_root_.D.tB (ai (aa M Ft (n+4) 54) [] (k2 (aI M.P.tab 1 (vF 6)) (oI (oI (vF 1) (vF 4)) (cI 1)))))))
  (ak (cF (.bl false)))
  av)
 (aW (bA (_root_.D.tB (ai (aa M Ft (n+4) 56) [] (k2 (aI M.P.tab 2 (vF 6)) (oI (oI (vF 1) (vF 4)) (cI 2))))))
  (ak (cF (.bl false)))
  av))) (ks.map fun k=>T.int (0+(k:Nat))) (jr ns xs tx a none c)=.ok (.nx,jr ns xs tx a' none c')
 | [],a,c,_=>⟨a,c,rfl⟩
 | k::ks,a,c,h=>by
  have hk:=h k (List.mem_cons_self ..)
  have hx:=hs xs[k] (List.getElem_mem hk)
  obtain ⟨a',c',e⟩:=Co n (ns:=ns) (tx:=tx) hs ks (sv (.int (0+(k:Nat)))) (sv xs[k].val) fun j hj=>h j (List.mem_cons_of_mem _ hj)
  have i1:oI (vF 1) (vF 4) (jr ns xs tx (sv (.int (0+(k:Nat)))) none (sv xs[k].val))=.ok (dN xs[k],jr ns xs tx (sv (.int (0+(k:Nat)))) none (sv xs[k].val)):=aD (t:=.lst (xs.map dN)) (u:=.int (0+(k:Nat))) rfl rfl (IG dN hk)
  refine ⟨a',c',eB (r:=[sv (.scr ns),sv (.lst (xs.map dN)),sv (.str tx),sv (uw xs),sv (.int (0+(k:Nat))),none,c]) rfl (s1:=jr ns xs tx (sv (.int (0+(k:Nat)))) none (sv xs[k].val)) (seq1 (bg (t:=xs[k].val) (s':=jr ns xs tx (sv (.int (0+(k:Nat)))) none c) (aD (t:=.lst (aX xs)) (u:=.int (0+(k:Nat))) rfl rfl (IG LN.val hk))) (seq1 (s':=jr ns xs tx (sv (.int (0+(k:Nat)))) none (sv xs[k].val)) (bq (s':=jr ns xs tx (sv (.int (0+(k:Nat)))) none (sv xs[k].val)) (yD (s1:=jr ns xs tx (sv (.int (0+(k:Nat)))) none (sv xs[k].val)) (bX (aR (t:=xs[k].val) rfl rfl)) (bX (Oz (aA (ts:=[xs[k].cond,xs[k].GP]) (s':=jr ns xs tx (sv (.int (0+(k:Nat)))) none (sv xs[k].val)) (au (t:=xs[k].cond) rfl (au (aD (t:=dN xs[k]) (u:=.int 1) i1 rfl rfl) rfl)) (Wf n hx))))) rfl) (bq (s':=jr ns xs tx (sv (.int (0+(k:Nat)))) none (sv xs[k].val)) (bX (Oz (aA (ts:=[xs[k].eV,xs[k].GQ]) (s':=jr ns xs tx (sv (.int (0+(k:Nat)))) none (sv xs[k].val)) (au (t:=xs[k].eV) rfl (au (aD (t:=dN xs[k]) (u:=.int 2) i1 rfl rfl) rfl)) (Oa (n+1) hx)))) rfl))) e⟩
theorem Oc (n:Nat) {ns:List Int}{m:List Ob}:aa M Ft (n+16) 59 [.scr ns] m=.ok (.bl true,m):=by
 obtain ⟨xs,K,el⟩:=yt (n+9) (ns:=ns) (m:=[])
 have hs:∀ x∈xs,x.c8:=fun x hx=>(K.k x hx).sh
 have Wg:∀ x∈xs,x.ok/\x.c8:=fun x hx=>⟨(K.k x hx).ok,(K.k x hx).sh⟩
 have nT:=K.nT
 have hlk:∀ x∈xs,Lk x:=fun x hx=>VR (K.k x hx).ok (K.k x hx).fi (vK (K.k x hx).sh).1 (vK (K.k x hx).sh).2
 have hlen:∀ l∈xs.map LN.sh,l.length<=700:=fun l hl=>by
  obtain ⟨x,hx,rfl⟩:=List.mem_map.mp hl
  exact ug (Wg x hx).1 (Wg x hx).2
 obtain ⟨j1,j2⟩:=qP (xs.map LN.sh) 700 hlen
 rw [List.length_map] at j1 j2
 have n10:∀ l∈xs.map LN.sh,10 ∉ l:=fun l hl=>by
  obtain ⟨x,hx,rfl⟩:=List.mem_map.mp hl
  exact N9 (Wg x hx).1 (Wg x hx).2
 have gA:xs.map LN.sh≠[]:=fun z=>K.ne (List.map_eq_nil_iff.mp z)
 generalize htx:bf [10] (xs.map LN.sh)=tx at j2
 have hj:joinM [10] [.lst ((xs.map LN.sh).map T.str)]=some (.str tx):=by
  rw [<- htx]
  exact N_ (by rw [List.length_map];omega)
 rw [w59]
 have rd:∃ u:List Nat,oA (vF 2) (oI (aM cK (k2 (cS []) (cS [10]))) (oM (ai (aa M Ft (n+15) 41) [] (k2 (vF 0) (cI 5))) (cI 2))) ⟨[sv (.scr ns),sv (.lst (xs.map dN)),sv (.str tx),none,none,none,none],[]⟩=.ok (.str u,⟨[sv (.scr ns),sv (.lst (xs.map dN)),sv (.str tx),none,none,none,none],[]⟩)/\aa M Ft (n+15) 31 [.str u] []=.ok (uw xs,[]):=by
  have hm:cellAt ns 5 % 2=0\/cellAt ns 5 % 2=1:=by omega
  have e5:=md (yr (r:=[sv (.lst (xs.map dN)),sv (.str tx),none,none,none,none]) (ns:=ns) (n+14) 5) (j:=2) (by decide)
  rcases hm with hm | hm
  ·refine ⟨tx,aD (t:=.str tx) (u:=.str []) rfl (aD (t:=.lst [.str [],.str [10]]) (u:=.int 0) (bI (ts:=[.str [],.str [10]]) rfl (qI _ _)) (e5.trans (by rw [hm])) rfl) ((a9 (by show tx.length+0<=_;omega)).trans (by rw [List.append_nil])),?_⟩
   refine vD n hlk (by omega) K.nd K.go (b:=false) fun m=>?_
   rw [vW,<- htx]
   obtain ⟨ls,last,q⟩:∃ ls last,xs.map LN.sh=ls++[last]:=⟨_,_,(List.dropLast_concat_getLast gA).symm⟩
   have HW:last≠[]:=by
    have:last∈xs.map LN.sh:=by rw [q];simp
    obtain ⟨x,_,rfl⟩:=List.mem_map.mp this
    exact We x
   rw [q]
   exact Gy (n+13) (fun l hl=>n10 l (by rw [q];exact hl)) HW (by rw [<- q,htx];omega)
  ·refine ⟨tx++[10],aD (t:=.str tx) (u:=.str [10]) rfl (aD (t:=.lst [.str [],.str [10]]) (u:=.int 1) (bI (ts:=[.str [],.str [10]]) rfl (qI _ _)) (e5.trans (by rw [hm])) rfl) (a9 (by show tx.length+1<=_;omega)),?_⟩
   refine vD n hlk (by omega) K.nd K.go (b:=true) fun m=>?_
   rw [vW,<- htx]
   exact Gz (n+13) n10 gA (by rw [htx,List.length_append];show _+1<=_;omega)
 obtain ⟨u,r1,r2⟩:=rd
 obtain ⟨a',c',eg⟩:=Co (n+11) (ns:=ns) (tx:=tx) hs (List.range xs.length) none none fun k hk=>List.mem_range.mp hk
 have Xp:aa M Ft (n+15) 35 [uw xs] []=.ok (.str (tx++[10]),[]):=by
  rw [B4 (n+5) Wg (by omega),<- htx,qO K.ne]
 refine aq (m':=[]) rfl (az (s':=jr ns xs tx a' (sv (.str (tx++[10]))) c') rfl (seq1 (s':=⟨[sv (.scr ns),sv (.lst (xs.map dN)),none,none,none,none,none],[]⟩) (bg (t:=.lst (xs.map dN)) (s':=⟨[sv (.scr ns),none,none,none,none,none,none],[]⟩) (aA (ts:=[.scr ns]) (s':=⟨[sv (.scr ns),none,none,none,none,none,none],[]⟩) rfl el)) (seq1 (s':=⟨[sv (.scr ns),sv (.lst (xs.map dN)),sv (.str tx),none,none,none,none],[]⟩) ?_ (seq1 (bg (t:=uw xs) (s':=⟨[sv (.scr ns),sv (.lst (xs.map dN)),sv (.str tx),none,none,none,none],[]⟩) (aA (ts:=[.str u]) (s':=⟨[sv (.scr ns),sv (.lst (xs.map dN)),sv (.str tx),none,none,none,none],[]⟩) (au r1 rfl) r2)) (seq1 (s':=jr ns xs tx none none none) (bq (s':=jr ns xs tx none none none) (yD (s1:=jr ns xs tx none none none) (bX (aR (t:=uw xs) rfl rfl)) (yD (s1:=jr ns xs tx none none none) (bX (aR (t:=.lst (aX xs)) rfl rfl)) (V8 (t:=.int (xs.length:Nat)) (u:=.int (xs.length:Nat)) (s1:=jr ns xs tx none none none) ?_ ?_ (V7 _)))) rfl) (seq1 (s':=jr ns xs tx a' none c') (tW (ts:=(List.range xs.length).map fun k=>T.int (0+(k:Nat))) (s1:=jr ns xs tx none none none) ?_ eg) (seq1 (bg (t:=.str (tx++[10])) (s':=jr ns xs tx a' none c') (aA (ts:=[uw xs]) (s':=jr ns xs tx a' none c') rfl Xp)) (aC (gx (s1:=jr ns xs tx a' (sv (.str (tx++[10]))) c') rfl (aD (t:=.str (tx++[10])) (u:=.str (tx++[10])) rfl (aD (t:=.str tx) (u:=.str [10]) rfl rfl (a9 (by show tx.length+1<=_;omega))) (Cd _))))))))) ) rfl) rfl
 ·have e:dc (bN (lF (vF 1)) 2 [] (setG 1) dE (oI (vF 1) (cI 0))) ⟨[sv (.scr ns),sv (.lst (xs.map dN)),none,none,none,none,none],[]⟩=.ok (.lst ((xs.map LN.sh).map T.str),⟨[sv (.scr ns),sv (.lst (xs.map dN)),none,none,none,none,none],[]⟩):=by
   rw [List.map_map]
   refine fH (fG (ts:=xs.map dN) (s1:=⟨[sv (.scr ns),sv (.lst (xs.map dN)),none,none,none,none,none],[]⟩) rfl (by rw [List.length_map];omega) (c6 dN (T.str∘LN.sh) fun x _=>?_))
   exact ⟨[none,sv (dN x)],[none,sv (dN x)],rfl,rfl⟩
  refine bg (t:=.str tx) (s':=⟨[sv (.scr ns),sv (.lst (xs.map dN)),none,none,none,none,none],[]⟩) ?_
  simp only [ev,bH,cN,e,hj]
 ·refine bI (ts:=[.lst (aX xs)]) rfl ?_
  show some (T.int ((aX xs).length:Nat))=_
  rw [List.length_map]
 ·refine bI (ts:=[.lst (xs.map dN)]) rfl ?_
  show some (T.int ((xs.map dN).length:Nat))=_
  rw [List.length_map]
 ·have e:aM br (k1 (vF 1)) (jr ns xs tx none none none)=.ok (.int (xs.length:Nat),jr ns xs tx none none none):=by
   refine bI (ts:=[.lst (xs.map dN)]) rfl ?_
   show some (T.int ((xs.map dN).length:Nat))=_
   rw [List.length_map]
  have er:g9 [.int (xs.length:Nat)]=some (qQ 0 xs.length):=gK (by omega)
  exact Z4 (ts:=[.int (xs.length:Nat)]) (au e rfl) er
end K22
namespace K22
open PySem D L2
set_option maxHeartbeats 0
theorem GS:∀ P,NF (KH.K P) M Ft It=true:=fun P=>by kernel_rfl
theorem GU:∀ P,M.cs.all (Gn (KH.K P))=true:=fun P=>by kernel_rfl
theorem GV:∀ P,Ft.map (Iu (KH.K P))=Ft.map fun e=>(Iu (KH.K P) e).map (ND e):=fun P=>by kernel_rfl
set_option maxHeartbeats 0
def BnL:List Fe->Prop
 | []=>True
 | e::r=>Bn e/\BnL r
theorem II:∀ {l:List Fe},BnL l->∀ e∈l,Bn e
 | e::r,h,x,hx=>by
  rcases List.mem_cons.mp hx with z | z
  ·rw [z];exact h.1
  ·exact II h.2 x z
theorem lz0 {P:List Value->Prop}(h:P []):∀ us:List Value,us.length=0->P us
 | [],_=>h
 | _::_,e=>by cases e
theorem WM {n:Nat}{P:List Value->Prop}(h:∀ a,∀ us:List Value,us.length=n->P (a::us)):∀ us:List Value,us.length=n+1->P us
 | [],e=>by cases e
 | a::us,e=>h a us (Nat.succ.inj e)
theorem fE {P:List Value->Prop}(h:∀ a,P [a]):∀ us:List Value,us.length=1->P us:=WM fun a=>lz0 (h a)
theorem gk {P:List Value->Prop}(h:∀ a b,P [a,b]):∀ us:List Value,us.length=2->P us:=WM fun a=>fE (h a)
theorem GW {P:List Value->Prop}(h:∀ a b c,P [a,b,c]):∀ us:List Value,us.length=3->P us:=WM fun a=>gk (h a)
theorem lz4 {P:List Value->Prop}(h:∀ a b c d,P [a,b,c,d]):∀ us:List Value,us.length=4->P us:=WM fun a=>GW (h a)
theorem bn:∀ e∈Ft,Bn e:=II ⟨fun _ _ _ _ _ _=>gk fun _ _=>rfl,fun _ _ _ _ _ _=>gk fun _ _=>rfl,fun _ _ _ _ _ _=>fE fun _=>rfl,fun _ _ _ _ _ _=>fE fun _=>rfl,fun _ _ _ _ _ _=>fE fun _=>rfl,fun _ _ _ _ _ _=>gk fun _ _=>rfl,fun _ _ _ _ _ _=>gk fun _ _=>rfl,fun _ _ _ _ _ _=>gk fun _ _=>rfl,fun _ _ _ _ _ _=>gk fun _ _=>rfl,fun _ _ _ _ _ _=>gk fun _ _=>rfl,fun _ _ _ _ _ _=>fE fun _=>rfl,fun _ _ _ _ _ _=>gk fun _ _=>rfl,fun _ _ _ _ _ _=>fE fun _=>rfl,fun _ _ _ _ _ _=>fE fun _=>rfl,fun _ _ _ _ _ _=>fE fun _=>rfl,fun _ _ _ _ _ _=>gk fun _ _=>rfl,fun _ _ _ _ _ _=>fE fun _=>rfl,fun _ _ _ _ _ _=>fE fun _=>rfl,fun _ _ _ _ _ _=>fE fun _=>rfl,fun _ _ _ _ _ _=>fE fun _=>rfl,fun _ _ _ _ _ _=>fE fun _=>rfl,fun _ _ _ _ _ _=>gk fun _ _=>rfl,fun _ _ _ _ _ _=>fE fun _=>rfl,fun _ _ _ _ _ _=>fE fun _=>rfl,fun _ _ _ _ _ _=>GW fun _ _ _=>rfl,fun _ _ _ _ _ _=>fE fun _=>rfl,fun _ _ _ _ _ _=>fE fun _=>rfl,fun _ _ _ _ _ _=>fE fun _=>rfl,fun _ _ _ _ _ _=>gk fun _ _=>rfl,fun _ _ _ _ _ _=>fE fun _=>rfl,fun _ _ _ _ _ _=>fE fun _=>rfl,fun _ _ _ _ _ _=>fE fun _=>rfl,fun _ _ _ _ _ _=>fE fun _=>rfl,fun _ _ _ _ _ _=>fE fun _=>rfl,fun _ _ _ _ _ _=>gk fun _ _=>rfl,fun _ _ _ _ _ _=>fE fun _=>rfl,fun _ _ _ _ _ _=>fE fun _=>rfl,fun _ _ _ _ _ _=>fE fun _=>rfl,fun _ _ _ _ _ _=>fE fun _=>rfl,fun _ _ _ _ _ _=>fE fun _=>rfl,fun _ _ _ _ _ _=>fE fun _=>rfl,fun _ _ _ _ _ _=>gk fun _ _=>rfl,fun _ _ _ _ _ _=>fE fun _=>rfl,fun _ _ _ _ _ _=>fE fun _=>rfl,fun _ _ _ _ _ _=>fE fun _=>rfl,fun _ _ _ _ _ _=>gk fun _ _=>rfl,fun _ _ _ _ _ _=>fE fun _=>rfl,fun _ _ _ _ _ _=>GW fun _ _ _=>rfl,fun _ _ _ _ _ _=>fE fun _=>rfl,fun _ _ _ _ _ _=>gk fun _ _=>rfl,fun _ _ _ _ _ _=>gk fun _ _=>rfl,fun _ _ _ _ _ _=>gk fun _ _=>rfl,fun _ _ _ _ _ _=>fE fun _=>rfl,fun _ _ _ _ _ _=>gk fun _ _=>rfl,fun _ _ _ _ _ _=>gk fun _ _=>rfl,fun _ _ _ _ _ _=>gk fun _ _=>rfl,fun _ _ _ _ _ _=>gk fun _ _=>rfl,fun _ _ _ _ _ _=>fE fun _=>rfl,fun _ _ _ _ _ _=>fE fun _=>rfl,fun _ _ _ _ _ _=>fE fun _=>rfl,fun _ _ _ _ _ _=>gk fun _ _=>rfl,fun _ _ _ _ _ _=>GW fun _ _ _=>rfl,fun _ _ _ _ _ _=>gk fun _ _=>rfl,fun _ _ _ _ _ _=>gk fun _ _=>rfl,fun _ _ _ _ _ _=>GW fun _ _ _=>rfl,fun _ _ _ _ _ _=>GW fun _ _ _=>rfl,fun _ _ _ _ _ _=>gk fun _ _=>rfl,fun _ _ _ _ _ _=>gk fun _ _=>rfl,fun _ _ _ _ _ _=>gk fun _ _=>rfl,fun _ _ _ _ _ _=>lz4 fun _ _ _ _=>rfl,fun _ _ _ _ _ _=>gk fun _ _=>rfl,fun _ _ _ _ _ _=>GW fun _ _ _=>rfl,fun _ _ _ _ _ _=>gk fun _ _=>rfl,fun _ _ _ _ _ _=>gk fun _ _=>rfl,fun _ _ _ _ _ _=>GW fun _ _ _=>rfl,fun _ _ _ _ _ _=>GW fun _ _ _=>rfl,fun _ _ _ _ _ _=>fE fun _=>rfl,fun _ _ _ _ _ _=>gk fun _ _=>rfl,fun _ _ _ _ _ _=>gk fun _ _=>rfl,fun _ _ _ _ _ _=>gk fun _ _=>rfl,fun _ _ _ _ _ _=>gk fun _ _=>rfl,trivial⟩
end K22
end
open PySem PySem.W PyProof.Rows
set_option maxRecDepth 100000 in
set_option maxHeartbeats 0 in
theorem PySem.Challenge.cw_rowblade_k22_a_line_read_holds : PySem.Challenge.rw_rowblade_k22_a_line_read.Holds := by
 w_on;o_law
 refine holds_open (q:=KH.vw) (loose:=[]) (Xt:=KH.Xt) (XP:=XL KH.vw []) (Yf:=Hook.obs (kHook KH.K KH.as KH.Oh)) (Ya:=Hook.val (kHook KH.K KH.as KH.Oh)) (YP:=Hook.says (kHook KH.K KH.as KH.Oh)) (N:=18286) KH.left (Hook.of (kHook KH.K KH.as KH.Oh)) (Hook.keeps (kHook KH.K KH.as KH.Oh)) (fun s e=>xl_of s (Bool.and_eq_true_iff.mp e).1) XL.keeps (by rfl) (by rfl) (by rfl) (fun s e=>recFacts_of (Bool.and_eq_true_iff.mp e).2) (by rfl) (by first | assumption | decide +kernel) (by decide +kernel) ⟨rfl,rfl,rfl,rfl,rfl,by decide +kernel⟩ ?hw ?hc
 (case hw=>w_witness2)
 k_fill
 refine _root_.D.VG (l:=PySem.Challenge.rw_rowblade_k22_a_line_read) (m:=63) (n:=16) (K:=KH.K) (M:=K22.M) (Ft:=K22.Ft) (It:=K22.It) (i:=59) rfl (by decide) rfl ⟨rfl,by decide,by decide⟩ (fun w h Y=>PySem.W.kIn_of Y) rfl rfl rfl rfl (fun P=>⟨⟨K22.GS P,K22.GV P,K22.bn⟩,K22.GU P⟩) fun ns _=>⟨[],K22.Oc 0⟩
