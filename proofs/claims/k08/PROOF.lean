import PyProof.Rows.All
import Wide.All
import OpenK.AllK
import Wide.FinOn
import Lean
import PyProof.EqAt
import PyProof.EqKinds
import PyProof.TupleCall
import PySem.Challenge.RW_rollcall_k08_the_largest_pairing
set_option Elab.async false
set_option linter.all false
set_option maxRecDepth 100000
namespace L2
open PySem PySem.Spec PyProof.Rows

abbrev Key:=Sum Int Str
def keyIs:Key→Value→Bool
 | .inl k,v=>Value.isInt k v
 | .inr x,v=>Value.isStrOf x v
def keyH (w:World):Key→Int
 | .inl k=>hashInt k
 | .inr x=>hashStr w x
theorem keyIs_shape:∀ {k:Key}{v:Value},keyIs k v=true→(∃ i t,k=Sum.inl i∧v=Value.int i t)∨(∃ x t,k=Sum.inr x∧v=Value.str x t)
 | .inl i,v,h=>by
  obtain ⟨t,e⟩:=Value.isInt_shape (k:=i) (v:=v) h
  exact .inl ⟨i,t,rfl,e⟩
 | .inr x,v,h=>by
  obtain ⟨t,e⟩:=Value.isStrOf_shape (x:=x) (v:=v) h
  exact .inr ⟨x,t,rfl,e⟩
theorem keyIs_int (i:Int) (t:Tok):keyIs (.inl i) (.int i t)=true:=by simp [keyIs,Value.isInt]
theorem keyIs_str (x:Str) (t:Tok):keyIs (.inr x) (.str x t)=true:=by simp [keyIs,Value.isStrOf]
theorem key_ll (a b:Int):decide ((Sum.inl a:Key)=Sum.inl b)=(a == b):=by
 by_cases e:a=b
 ·subst e;simp
 ·have h:¬ (Sum.inl a:Key)=Sum.inl b:=fun q=>e (Sum.inl.inj q)
  rw [decide_eq_false h]
  exact (beq_eq_false_iff_ne.mpr e).symm
theorem key_rr (a b:Str):decide ((Sum.inr a:Key)=Sum.inr b)=decide (a=b):=by
 by_cases e:a=b
 ·subst e;simp
 ·have h:¬ (Sum.inr a:Key)=Sum.inr b:=fun q=>e (Sum.inr.inj q)
  rw [decide_eq_false h,decide_eq_false e]
theorem key_lr (a:Int) (b:Str):decide ((Sum.inl a:Key)=Sum.inr b)=false:=decide_eq_false (fun q=>nomatch q)
theorem key_rl (a:Str) (b:Int):decide ((Sum.inr a:Key)=Sum.inl b)=false:=decide_eq_false (fun q=>nomatch q)

def mixKind (prog:Program) (w:World):PySem.KeyKind prog w Key where
 is:=keyIs
 hash:=keyH w
 inj:=fun v a b ha hb=>by
  rcases keyIs_shape ha with ⟨i,t,rfl,rfl⟩ | ⟨x,t,rfl,rfl⟩
  ·rcases keyIs_shape hb with ⟨j,u,rfl,e⟩ | ⟨y,u,rfl,e⟩
   ·injection e with e1 _;rw [e1]
   ·exact nomatch e
  ·rcases keyIs_shape hb with ⟨j,u,rfl,e⟩ | ⟨y,u,rfl,e⟩
   ·exact nomatch e
   ·injection e with e1 _;rw [e1]
 byValue:=fun k v h=>by
  rcases keyIs_shape h with ⟨i,t,rfl,rfl⟩ | ⟨x,t,rfl,rfl⟩ <;> rfl
 pyHash:=fun hv h=>by
  rcases keyIs_shape hv with ⟨i,t,rfl,rfl⟩ | ⟨x,t,rfl,rfl⟩
  ·exact wpAny_pyHash_int h
  ·exact wpAny_pyHash_str h
 eqBool:=fun hu hv h=>by
  rcases keyIs_shape hu with ⟨i,t,rfl,rfl⟩ | ⟨x,t,rfl,rfl⟩
  ·rcases keyIs_shape hv with ⟨j,u,rfl,rfl⟩ | ⟨y,u,rfl,rfl⟩
   ·rw [key_ll] at h;exact wpAny_eqBool_int h
   ·rw [key_lr] at h;exact SeqAt.EqAt.int_str i t y u _ _ _ _ h
  ·rcases keyIs_shape hv with ⟨j,u,rfl,rfl⟩ | ⟨y,u,rfl,rfl⟩
   ·rw [key_rl] at h;exact SeqAt.EqAt.str_int x t j u _ _ _ _ h
   ·rw [key_rr] at h;exact wpAny_eqBool_str h
 «strs»:=fun k x t v h=>by
  rcases keyIs_shape h with ⟨i,u,rfl,e⟩ | ⟨y,u,rfl,e⟩
  ·exact nomatch e
  ·injection e with e1 _
   subst e1
   cases v <;> rfl

theorem mixKind_int (prog:Program) (w:World) (i:Int) (t:Tok):(mixKind prog w).is (.inl i) (.int i t)=true:=keyIs_int i t
theorem mixKind_str (prog:Program) (w:World) (x:Str) (t:Tok):(mixKind prog w).is (.inr x) (.str x t)=true:=keyIs_str x t
end L2

namespace L2
open PySem PySem.Spec PyProof.Rows

inductive V where
 | non | bl (b:Bool) | int (i:Int) | str (x:Str) | byt (b:Array UInt8) | flt (b:UInt64) | ref (a:Addr) | ty (n:String)
 deriving DecidableEq

def RelV:V→Value→Prop
 | .non,u=>u=Value.none
 | .bl b,u=>u=Value.bool b
 | .int i,u=>∃ t,u=Value.int i t
 | .str x,u=>∃ t,u=Value.str x t
 | .byt b,u=>∃ t,u=Value.bytes b t
 | .flt b,u=>∃ t,u=Value.float b t
 | .ref a,u=>u=Value.ref a
 | .ty n,u=>u=Value.type n

abbrev Vals:List V→List Value→Prop:=Paired RelV
theorem Vals.length {xs:List V}{us:List Value} (r:Vals xs us):xs.length=us.length:=Paired.length r
theorem Vals.get:∀ {xs:List V}{us:List Value}{i:Nat}{x:V},Vals xs us→xs[i]? = some x→∃ u,us[i]? = some u∧RelV x u
 | _,_,_,_,.nil,e=>by simp at e
 | _,_,0,_,.cons r _,e=>by simp at e;subst e;exact ⟨_,rfl,r⟩
 | _,_,i+1,x,.cons _ t,e=>by
  obtain ⟨u,h1,h2⟩:=Vals.get (i:=i) (x:=x) t (by simpa using e)
  exact ⟨u,by simpa using h1,h2⟩
theorem Vals.set {x:V}{u:Value} (r:RelV x u):∀ {xs:List V}{us:List Value} (i:Nat),Vals xs us→Vals (xs.set i x) (us.set i u)
 | _,_,_,.nil=>.nil
 | _,_,0,.cons _ t=>.cons r t
 | _,_,i+1,.cons q t=>.cons q (Vals.set r i t)
theorem Vals.append:∀ {xs ys:List V}{us ws:List Value},Vals xs us→Vals ys ws→Vals (xs++ys) (us++ws)
 | _,_,_,_,.nil,s=>s
 | _,_,_,_,.cons r t,s=>.cons r (Vals.append t s)
theorem Vals.take:∀ {xs:List V}{us:List Value} (n:Nat),Vals xs us→Vals (xs.take n) (us.take n)
 | _,_,0,_=>.nil
 | _,_,_+1,.nil=>.nil
 | _,_,n+1,.cons r t=>.cons r (Vals.take n t)
theorem Vals.drop:∀ {xs:List V}{us:List Value} (n:Nat),Vals xs us→Vals (xs.drop n) (us.drop n)
 | _,_,0,r=>r
 | _,_,_+1,.nil=>.nil
 | _,_,n+1,.cons _ t=>Vals.drop n t
def RelO:Option V→Option Value→Prop
 | some v,some u=>RelV v u
 | none,none=>True
 | _,_=>False
def KV {κ:Type}:List (κ × V)→List (κ × Value)→Prop:=Paired fun (p:κ × V) (q:κ × Value)=>p.1=q.1∧RelV p.2 q.2

def kV:Key→V
 | .inl i=>.int i
 | .inr x=>.str x

inductive HO where
  | lst (xs:List V)
  | tup (xs:List V)
  | dK (kvs:List (Key×V)) | dT (kvs:List (List Key×V))
  | set (S:Int→Bool) (n:Nat)
  | ins (C dx:Addr) (fs:List (Str×V))
  | own (x:Addr)
  | xd (fs:List (Str×V))
  | met (f x:Addr)
  | rng (lo hi:Int)
  | frz (o:Obj) (u:HO)
  | tbl (ps:Array Value)
  | ext (φ:Heap→Prop)

abbrev Hp:=Addr→Option HO
def upd (H:Hp) (a:Addr) (o:HO):Hp:=fun b=>if b=a then some o else H b
theorem upd_same {H:Hp}{a:Addr}{o:HO}:upd H a o a=some o:=by unfold upd;rw [if_pos rfl]
theorem upd_ne {H:Hp}{a b:Addr}{o:HO} (h:b≠a):upd H a o b=H b:=by unfold upd;rw [if_neg h]
theorem ne_of {H:Hp}{a b:Addr}{o u:HO} (h:H a=some o) (h':H b=some u) (d:o≠u):a≠b:=by
 intro e;subst e;rw [h] at h';exact d (Option.some.inj h')
theorem ne_of_none {H:Hp}{a b:Addr}{o:HO} (h:H a=some o) (h':H b=none):a≠b:=by
 intro e;subst e;rw [h] at h';cases h'

section
variable (P:Program) (w:World)
def ObjOk (H:Hp) (h:Heap) (a:Addr):HO→Prop
 | .lst xs=>xs.length≤sizeLine∧∃ (its:List Value) (n:Nat),Vals xs its∧h.get? a=some { cls:=.type "list",data:=.seq its.toArray n }
 | .tup xs=>xs.length≤sizeLine∧∃ its:List Value,Vals xs its∧IsTup h a its.toArray
 | .dK kvs=>kvs.length≤sizeLine∧(a == sysModules)=false∧∃ vs,KV kvs vs∧h.DictOf (mixKind P w) a vs
 | .dT kvs=>kvs.length≤sizeLine∧(a == sysModules)=false∧∃ xs:List (List Key×Addr×Value),
   Paired (fun (p:List Key×V) (q:List Key×Addr×Value)=>p.1=q.1∧H q.2.1=some (.tup (p.1.map kV))∧RelV p.2 q.2.2) kvs xs ∧
   ∃ o es ep,h.get? a=some o∧o.ExactDict∧o.data = .dict es ep∧es.toList=xs.map (entryOfKey (tupleKind (mixKind P w)))∧(xs.map (·.1)).Nodup
 | .set S n=>h.SetOf (intKind P w) a S n
 | .ins C dx fs=>H dx=some (.own a)∧fs.length≤1000∧dx≠a∧h.get? a=some (PySem.W.instObj C dx) ∧
   ∃ mA,h.Ns1 dx mA∧(∀ f,RelO (fs.lookup f) (mA f))∧PySem.Within mA (fs.map (·.1))
 | .own _=>∃ o,h.get? a=some o
 | .xd fs=>∃ mA,h.Ns1 a mA∧∀ f,RelO (fs.lookup f) (mA f)
 | .rng lo hi=>∃ t u v,h.get? a=some { cls:=.type "range",data:=.fields #[.int lo t,.int hi u,.int 1 v] }
 | .frz o u=>h.get? a=some o∧ObjOk H h a u
 | .tbl ps=>h.get? a=some { cls:=.none,data:=.fields ps }
 | .met f x=>h.get? a=some (PySem.W.methodObj (.ref f) (.ref x))
 | .ext φ=>φ h∧(∃ o,h.get? a=some o)∧∀ h1 h2:Heap,φ h1→(∀ o,h1.get? a=some o→h2.get? a=some o)→φ h2
def HOk (H:Hp) (h:Heap):Prop:=∀ a o,H a=some o→ObjOk P w H h a o
end

section
variable {P:Program}{w:World}{H H':Hp}{h h':Heap}{a:Addr}{o:HO}
theorem ObjOk.lt (x:ObjOk P w H h a o):a < h.objs.size:=by
 cases o with
 | lst xs=>obtain ⟨_,_,_,_,e⟩:=x;exact Heap.lt_size e
 | tup xs=>obtain ⟨_,_,_,p⟩:=x;exact p.lt
 | dK kvs=>obtain ⟨_,_,_,_,o,_,_,e,_⟩:=x;exact Heap.lt_size e
 | dT kvs=>obtain ⟨_,_,_,_,o,_,_,e,_⟩:=x;exact Heap.lt_size e
 | set S n=>obtain ⟨o,_,_,_,e,_⟩:=x;exact Heap.lt_size e
 | ins C dx fs=>obtain ⟨_,_,_,e,_⟩:=x;exact Heap.lt_size e
 | own y=>obtain ⟨_,e⟩:=x;exact Heap.lt_size e
 | xd fs=>obtain ⟨_,⟨_,_,_,e,_⟩,_⟩:=x;exact Heap.lt_size e
 | rng lo hi=>obtain ⟨_,_,_,e⟩:=x;exact Heap.lt_size e
 | frz ob u=>obtain ⟨e,_⟩:=x;exact Heap.lt_size e
 | tbl ps=>exact Heap.lt_size (show h.get? a=some _ from x)
 | met f y=>exact Heap.lt_size (show h.get? a=some _ from x)
 | ext φ=>obtain ⟨_,⟨_,e⟩,_⟩:=x;exact Heap.lt_size e
theorem Paired.mapP {α β:Type}{F G:α→β→Prop}:∀ {l₁:List α}{l₂:List β},Paired F l₁ l₂→(∀ a b,F a b→G a b)→Paired G l₁ l₂
 | _,_,.nil,_=>.nil
 | _,_,.cons r t,f=>.cons (f _ _ r) (Paired.mapP t f)
theorem ObjOk.stay (x:ObjOk P w H h a o) (k:∀ b u,(b=a∨H b=some (.own a))→h.get? b=some u→h'.get? b=some u)
  (ho:∀ b,H b=some (.own a)→H' b=some (.own a)) (ht:∀ b xs,H b=some (.tup xs)→H' b=some (.tup xs)):ObjOk P w H' h' a o:=by
 induction o with
 | lst xs=>obtain ⟨z,its,n,r,e⟩:=x;exact ⟨z,its,n,r,k _ _ (.inl rfl) e⟩
 | tup xs=>obtain ⟨z,its,r,ob,e,c⟩:=x;exact ⟨z,its,r,ob,k _ _ (.inl rfl) e,c⟩
 | dK kvs=>obtain ⟨z,y,vs,r,ob,es,ep,e,c⟩:=x;exact ⟨z,y,vs,r,ob,es,ep,k _ _ (.inl rfl) e,c⟩
 | dT kvs =>
  obtain ⟨z,y,xs,r,ob,es,ep,e,c⟩:=x
  exact ⟨z,y,xs,Paired.mapP r fun p q z=>⟨z.1,ht _ _ z.2.1,z.2.2⟩,ob,es,ep,k _ _ (.inl rfl) e,c⟩
 | set S n=>obtain ⟨ob,es,ep,t,e,c⟩:=x;exact ⟨ob,es,ep,t,k _ _ (.inl rfl) e,c⟩
 | ins C dx fs =>
  obtain ⟨d,z,ne,e,mA,⟨od,es,ep,e2,c⟩,r⟩:=x
  exact ⟨ho _ d,z,ne,k _ _ (.inl rfl) e,mA,⟨od,es,ep,k _ _ (.inr d) e2,c⟩,r⟩
 | own y=>obtain ⟨ob,e⟩:=x;exact ⟨ob,k _ _ (.inl rfl) e⟩
 | xd fs=>obtain ⟨mA,⟨od,es,ep,e,c⟩,r⟩:=x;exact ⟨mA,⟨od,es,ep,k _ _ (.inl rfl) e,c⟩,r⟩
 | rng lo hi=>obtain ⟨t,u,v,e⟩:=x;exact ⟨t,u,v,k _ _ (.inl rfl) e⟩
 | frz ob u ih=>obtain ⟨e,q⟩:=x;exact ⟨k _ _ (.inl rfl) e,ih q⟩
 | tbl ps =>
  have e:h.get? a=some { cls:=.none,data:=.fields ps }:=x
  show h'.get? a=some { cls:=.none,data:=.fields ps }
  exact k a _ (.inl rfl) e
 | met f y =>
  have e:h.get? a=some (PySem.W.methodObj (.ref f) (.ref y)):=x
  show h'.get? a=some (PySem.W.methodObj (.ref f) (.ref y))
  exact k a _ (.inl rfl) e
 | ext φ=>obtain ⟨p,⟨o,e⟩,st⟩:=x;exact ⟨st _ _ p fun o q=>k _ _ (.inl rfl) q,⟨o,k _ _ (.inl rfl) e⟩,st⟩
theorem HOk.lt (x:HOk P w H h) (e:H a=some o):a < h.objs.size:=(x a o e).lt
theorem HOk.fresh (x:HOk P w H h) (e:h.objs.size≤a):H a=none:=by
 cases q:H a with
 | none=>rfl
 | some u=>exact absurd (Nat.lt_of_lt_of_le (x.lt q) e) (Nat.lt_irrefl _)
theorem HOk.kept (x:HOk P w H h) (k:∀ b u,h.get? b=some u→h'.get? b=some u):HOk P w H h':=fun a o e =>
 (x a o e).stay (fun b u _ q=>k b u q) (fun _ q=>q) fun _ _ q=>q
theorem HOk.laid (x:HOk P w H h) (k:∀ b u,h.get? b=some u→h'.get? b=some u) (hp:h.objs.size≤a) (new:ObjOk P w (upd H a o) h' a o):HOk P w (upd H a o) h':=fun b u e=>by
 have hn:=x.fresh hp
 by_cases hb:b=a
 ·subst hb;rw [upd_same] at e;cases e;exact new
 ·rw [upd_ne hb] at e
  exact (x b u e).stay (fun c v _ q=>k c v q) (fun c q=>by rw [upd_ne (ne_of_none q hn)];exact q) fun c xs q=>by rw [upd_ne (ne_of_none q hn)];exact q
end

def Rd (H:Hp) (a:Addr) (u:HO):Prop:=H a=some u∨∃ o,H a=some (.frz o u)
theorem Rd.ok {P:Program}{w:World}{H:Hp}{h:Heap}{a:Addr}{u:HO} (r:Rd H a u) (x:HOk P w H h):ObjOk P w H h a u:=by
 rcases r with r | ⟨o,r⟩
 ·exact x a u r
 ·obtain ⟨_,q⟩:=x a _ r
  exact q
def Mut:Option HO→Prop
 | some (.lst _)=>True
 | some (.dK _)=>True
 | some (.dT _)=>True
 | some (.set _ _)=>True
 | some (.ins _ _ _)=>True
 | some (.ext _)=>True
 | _=>False
section
variable {P:Program}{w:World}{H:Hp}{h h':Heap}{x e:Addr}{o':HO}
theorem HOk.write (ok:HOk P w H h) (mu:Mut (H x)) (he:e=x∨H e=some (.own x)) (k:∀ b u,b≠e→h.get? b=some u→h'.get? b=some u) (heo:∃ u,h'.get? e=some u)
  (new:ObjOk P w (upd H x o') h' x o'):HOk P w (upd H x o') h':=fun b u q=>by
 have nown:∀ c y,H c=some (.own y)→c≠x:=fun c y r z=>by subst z;rw [r] at mu;exact mu
 have ntup:∀ c xs,H c=some (.tup xs)→c≠x:=fun c xs r z=>by subst z;rw [r] at mu;exact mu
 by_cases hb:b=x
 ·subst hb;rw [upd_same] at q;cases q;exact new
 ·rw [upd_ne hb] at q
  by_cases hbe:b=e
  ·have q':H b=some (.own x):=by
    rcases he with z | z
    ·exact absurd (hbe.trans z) hb
    ·rw [hbe];exact z
   rw [q] at q';cases q'
   obtain ⟨v,hv⟩:=heo
   exact ⟨v,by rw [hbe];exact hv⟩
  ·refine (ok b u q).stay (fun c v hc r=>k c v ?_ r) (fun c r=>by rw [upd_ne (nown c b r)];exact r) fun c xs r=>by rw [upd_ne (ntup c xs r)];exact r
   rcases hc with rfl | hc
   ·exact hbe
   ·rintro rfl
    rcases he with z | z
    ·exact nown c b hc z
    ·rw [hc] at z;cases z;exact hb rfl
end

structure Un (fs ex:List Addr) (H H':Hp) (h h':Heap):Prop where
 keep:∀ b o,h.get? b=some o→H b=none→b ∉ fs→b ∉ ex→h'.get? b=some o
 slot:∀ b o,h.get? b=some o→H b=none→b∈fs→b ∉ ex→∃ sl,h'.get? b=some { o with slots:=sl }
 free:∀ b o,h.get? b=some o→H b=none→b ∉ ex→H' b=none
 there:∀ b o,h.get? b=some o→b ∉ ex→∃ o',h'.get? b=some o'
 tups:∀ b xs,H b=some (.tup xs)→H' b=some (.tup xs)
 frzs:∀ b o u,H b=some (.frz o u)→H' b=some (.frz o u)
 tbls:∀ b ps,H b=some (.tbl ps)→∃ more,H' b=some (.tbl (ps++more))
section
variable {fs fs' ex ex':List Addr}{H H1 H2:Hp}{h h1 h2 h':Heap}{a x e:Addr}{o:HO}
theorem Un.any (u:Un fs ex H H1 h h1) {b:Addr}{ob:Obj} (q:h.get? b=some ob) (n:H b=none) (hx:b ∉ ex):∃ sl,h1.get? b=some { ob with slots:=sl }:=by
 by_cases hb:b∈fs
 ·exact u.slot b ob q n hb hx
 ·exact ⟨ob.slots,u.keep b ob q n hb hx⟩
theorem Un.trans (a:Un fs ex H H1 h h1) (b:Un fs ex H1 H2 h1 h2):Un fs ex H H2 h h2 where
 keep:=fun c ob q n hc hx=>b.keep c ob (a.keep c ob q n hc hx) (a.free c ob q n hx) hc hx
 slot:=fun c ob q n hc hx=>by
  obtain ⟨sl,e1⟩:=a.slot c ob q n hc hx
  obtain ⟨sl',e2⟩:=b.slot c _ e1 (a.free c ob q n hx) hc hx
  exact ⟨sl',e2⟩
 free:=fun c ob q n hx=>by
  obtain ⟨o',e1⟩:=a.there c ob q hx
  exact b.free c o' e1 (a.free c ob q n hx) hx
 there:=fun c ob q hx=>by
  obtain ⟨o',e1⟩:=a.there c ob q hx
  exact b.there c o' e1 hx
 tups:=fun c xs q=>b.tups c xs (a.tups c xs q)
 frzs:=fun c ob xs q=>b.frzs c ob xs (a.frzs c ob xs q)
 tbls:=fun c ps q=>by
  obtain ⟨m1,e1⟩:=a.tbls c ps q
  obtain ⟨m2,e2⟩:=b.tbls c _ e1
  exact ⟨m1++m2,by rw [e2,Array.append_assoc]⟩
theorem Un.kept (k:∀ b u,h.get? b=some u→h'.get? b=some u):Un fs ex H H h h' :=
 ⟨fun b ob q _ _ _=>k b ob q,fun b ob q _ _ _=>⟨ob.slots,k b ob q⟩,fun _ _ _ n _=>n,fun b ob q _=>⟨ob,k b ob q⟩,fun _ _ q=>q,fun _ _ _ q=>q,fun _ ps q=>⟨#[],by rw [q];simp⟩⟩
theorem Un.refl:Un fs ex H H h h:=Un.kept fun _ _ q=>q
theorem Un.laid (k:∀ b u,h.get? b=some u→h'.get? b=some u) (hp:h.objs.size≤a) (hn:H a=none):Un fs ex H (upd H a o) h h' where
 keep:=fun b u q _ _ _=>k b u q
 slot:=fun b u q _ _ _=>⟨u.slots,k b u q⟩
 free:=fun b u q n _=>by rw [upd_ne (Nat.ne_of_lt (Nat.lt_of_lt_of_le (Heap.lt_size q) hp))];exact n
 there:=fun b u q _=>⟨u,k b u q⟩
 tups:=fun b xs q=>by rw [upd_ne (ne_of_none q hn)];exact q
 frzs:=fun b u xs q=>by rw [upd_ne (ne_of_none q hn)];exact q
 tbls:=fun b ps q=>⟨#[],by rw [upd_ne (ne_of_none q hn),q];simp⟩
theorem Un.write (mu:Mut (H x)) (he:e=x∨H e=some (.own x)) (k:∀ b u,b≠e→h.get? b=some u→h'.get? b=some u) (heo:∃ u,h'.get? e=some u):Un fs ex H (upd H x o) h h':=by
 have hx:∀ b,H b=none→b≠x:=fun b n z=>by subst z;rw [n] at mu;exact mu
 have hb:∀ b,H b=none→b≠e:=fun b n z=>by
  subst z
  rcases he with r | r
  ·exact hx b n r
  ·rw [n] at r;cases r
 have hm:∀ b u,H b=some u→¬ Mut (some u)→b≠x:=fun b u q nm z=>by subst z;rw [q] at mu;exact nm mu
 refine ⟨fun b u q n _ _=>k b u (hb b n) q,fun b u q n _ _=>⟨u.slots,k b u (hb b n) q⟩,fun b u q n _=>by rw [upd_ne (hx b n)];exact n,fun b u q _=>?_,
  fun b xs q=>by rw [upd_ne (hm b _ q fun z=>z)];exact q,fun b u xs q=>by rw [upd_ne (hm b _ q fun z=>z)];exact q,fun b ps q=>⟨#[],by rw [upd_ne (hm b _ q fun z=>z),q];simp⟩⟩
 by_cases hbe:b=e
 ·subst hbe;exact heo
 ·exact ⟨u,k b u hbe q⟩
end

def trk (h:Heap) (H:Hp):List Addr:=(List.range h.objs.size).filter fun a=>(H a).isSome
def hidT (h:Heap) (H:Hp):Heap:=PySem.W.hideAll h (trk h H)
theorem hidT_size (h:Heap) (H:Hp):(hidT h H).objs.size=h.objs.size:=PySem.W.hideAll_size _ _
theorem hidT_get {h:Heap}{H:Hp}{b:Addr}{o:Obj} (e:h.get? b=some o) (n:H b=none):(hidT h H).get? b=some o :=
 PySem.W.hideAll_get _ e fun hm=>by
  have q:(H b).isSome=true:=(List.mem_filter.mp hm).2
  rw [n] at q;simp at q
theorem of_hidT {h:Heap}{H:Hp}{b:Addr}{o:Obj} (e:(hidT h H).get? b=some o):h.get? b=some o∧H b=none:=by
 have e':h.get? b=some o:=PySem.W.of_hideAll (trk h H) e
 refine ⟨e',?_⟩
 cases q:H b with
 | none=>rfl
 | some x =>
  have hm:b∈trk h H:=List.mem_filter.mpr ⟨List.mem_range.mpr (Heap.lt_size e'),by simp [q]⟩
  have z:(hidT h H).get? b=none:=PySem.W.hideAll_none (trk h H) hm
  rw [z] at e;cases e

def allNews (g h:Heap) (L:Addr):List (Addr×Obj):=(List.range h.objs.size).filterMap fun a=>if a=L∨(g.get? a).isSome=true then none else (h.get? a).map fun o=>(a,o)
def rest (g h:Heap) (L d:Addr):List (Addr×Obj):=(allNews g h L).filter fun p=>decide (p.1≠d)
end L2

namespace L2
open PySem PySem.Spec PyProof.Rows

structure Mod (K:PySem.W.Frag) (mg:Str→Option Value) (base:Heap):Prop where
 kin:K.In base
 glob:base.Ns mainGlobals mg
 blt:∃ mb,base.Ns builtinsNs mb∧∀ x:Str,x ≠ "__name__"→mb x=bootBuiltins x
 nolimit:base.NoLimit

structure Cx where
 prog:Program
 w:World
 K:PySem.W.Frag
 mg:Str→Option Value
 base:Heap
 A:Around
 N:List Str
 s₀:Shared
 H₀:Hp
 env:Env
 outer:List Env
 stack:List Env
 ex:List Addr
 fn:Str→Bool
 calm:Bool
 pn:List (Addr×Obj)
 xe:Value→Shared→Prop
def frs (l:List Env):List Addr:=l.filterMap (·.frame)
abbrev Cx.fs (X:Cx):List Addr:=frs X.outer

def Vis (sc:Scope) (x:Str):Prop:=sc.names.lookup x=some .local∨sc.names.lookup x=some .cell∨sc.names.lookup x=some .free
def Loc (sc:Scope) (x:Str):Prop:=sc.names.lookup x=some .local∨sc.names.lookup x=some .cell
def Look (env:Env) (h:Heap) (m:Str→Option Value) (x:Str) (u:Value):Prop :=
 (env.kindOf x=some .local∧m x=some u)∨((env.kindOf x=some .cell∨env.kindOf x=some .free)∧∃ c,env.cells.lookup x=some c∧h.IsCell c (some u))

structure Cx.Ok (X:Cx):Prop where
 mod:Mod X.K X.mg X.base
 kind:X.env.scope.kind = .function
 glob:X.env.globals=mainGlobals
 blt:X.env.builtins=builtinsNs
 above:X.s₀.heap.objs.size≤X.env.locals
 inj:∀ x y c,X.env.cells.lookup x=some c→X.env.cells.lookup y=some c→x=y
 has:∀ x,(X.env.kindOf x=some .cell∨X.env.kindOf x=some .free)→∃ c,X.env.cells.lookup x=some c
 cab:∀ x c,X.fn x=true→X.env.cells.lookup x=some c→X.s₀.heap.objs.size≤c
 hd:X.calm=true→X.A.handled=none
 frames:X.A.frames=some X.stack
 stk:X.stack=X.outer∨(X.stack=X.env::X.outer∧X.env.frame=some X.env.locals)
 exf:∀ b∈X.ex,b≠X.env.locals∧∀ x c,X.env.cells.lookup x=some c→c≠b
 bs:∀ b o,X.base.get? b=some o→X.s₀.heap.get? b=some o∧X.H₀ b=none
 bsz:X.base.objs.size≤X.s₀.heap.objs.size
 noex:∀ b o,X.base.get? b=some o→b ∉ X.ex
 exfs:∀ b∈X.ex,b ∉ X.fs
 funs:X.s₀.heap.FunFrames X.base X.outer
 frf:∀ b∈X.fs,X.H₀ b=none

structure Inv (X:Cx) (pins:List (Addr×Obj)) (σ:List (Option V)) (H:Hp) (s:Shared):Prop where
 ok:X.Ok
 os:s.os=X.s₀.os
 bare:AllBare s.gens
 base:Un X.fs X.ex X.H₀ H X.s₀.heap s.heap
 loc:∃ m,s.heap.Ns X.env.locals m∧∀ (i:Nat) (x:Str) (v:V),X.N[i]? = some x→σ[i]? = some (some v)→Vis X.env.scope x→∃ u,RelV v u∧Look X.env s.heap m x u
 cell:∀ x c,X.env.cells.lookup x=some c→∃ v,s.heap.IsCell c v
 free:H X.env.locals=none
 freeC:∀ x c,X.env.cells.lookup x=some c→H c=none
 pin:∀ p∈X.pn++pins,s.heap.get? p.1=some p.2∧H p.1=none∧p.1≠X.env.locals∧p.1 ∉ X.fs∧∀ v,p.2.data ≠ .cell v
 hok:HOk X.prog X.w H s.heap
 len:σ.length=X.N.length

section
variable {X:Cx}{pins:List (Addr×Obj)}{σ:List (Option V)}{H H':Hp}{s:Shared}{h':Heap}

theorem Cx.Ok.nofr (ok:X.Ok) {b:Addr}{o:Obj} (e:X.base.get? b=some o):b ∉ X.fs:=fun hb=>by
 have:=(ok.funs.mem hb).1
 rw [e] at this;cases this
theorem Inv.bs (I:Inv X pins σ H s):∀ b o,X.base.get? b=some o→s.heap.get? b=some o∧H b=none:=fun b o e =>
 ⟨I.base.keep b o (I.ok.bs b o e).1 (I.ok.bs b o e).2 (I.ok.nofr e) (I.ok.noex b o e),I.base.free b o (I.ok.bs b o e).1 (I.ok.bs b o e).2 (I.ok.noex b o e)⟩
theorem Inv.bk (I:Inv X pins σ H s):∀ b o,X.base.get? b=some o→s.heap.get? b=some o:=fun b o e=>(I.bs b o e).1
theorem Inv.mod (I:Inv X pins σ H s):Mod X.K X.mg X.base:=I.ok.mod
theorem Inv.kIn (I:Inv X pins σ H s):X.K.In s.heap:=I.ok.mod.kin.keeps I.bk
theorem Inv.fr (I:Inv X pins σ H s):∃ m,Fr X.base X.env.locals s.heap m :=
 let ⟨m,hn,_⟩:=I.loc
 ⟨m,hn,I.bk,Nat.le_trans I.ok.bsz I.ok.above⟩
theorem Inv.lt (I:Inv X pins σ H s):X.env.locals < s.heap.objs.size:=let ⟨_,hn,_⟩:=I.loc;hn.lt
theorem Inv.sz (I:Inv X pins σ H s):X.s₀.heap.objs.size≤s.heap.objs.size:=Nat.le_trans I.ok.above (Nat.le_of_lt I.lt)
theorem Inv.nofs (I:Inv X pins σ H s) {a:Addr} (h:s.heap.objs.size≤a):a ∉ X.fs:=fun hb=>by
 obtain ⟨_,o,ho,_⟩:=I.ok.funs.mem hb
 exact absurd (Nat.lt_of_lt_of_le (Heap.lt_size ho) (Nat.le_trans I.sz h)) (Nat.lt_irrefl _)
theorem Inv.cne (I:Inv X pins σ H s):∀ x c,X.env.cells.lookup x=some c→c≠X.env.locals:=fun x c e z=>by
 obtain ⟨v,o,ho,hd⟩:=I.cell x c e
 obtain ⟨m,⟨o',es,ep,ho',hd',_⟩,_⟩:=I.loc
 rw [z,ho'] at ho;cases ho;rw [hd'] at hd;cases hd
theorem Inv.funs (I:Inv X pins σ H s):s.heap.FunFrames X.base X.outer:=by
 have all:∀ (l:List Env),(∀ b∈frs l,b∈X.fs)→X.s₀.heap.FunFrames X.base l→s.heap.FunFrames X.base l:=by
  intro l
  induction l with
  | nil=>intro _ _;trivial
  | cons env r ih =>
   intro hs hl
   obtain ⟨hk,⟨L,o,hf,hn,ho,hd⟩,hr⟩:=hl
   have hL:L∈X.fs:=hs L (by unfold frs;rw [List.filterMap_cons,hf];exact List.mem_cons_self)
   obtain ⟨sl,e⟩:=I.base.slot L o ho (I.ok.frf L hL) hL fun z=>I.ok.exfs L z hL
   exact ⟨hk,⟨L,_,hf,hn,e,hd⟩,ih (fun b hb=>hs b (by unfold frs;rw [List.filterMap_cons,hf];exact List.mem_cons_of_mem _ hb)) hr⟩
 exact all X.outer (fun _ hb=>hb) I.ok.funs

theorem Inv.stack (I:Inv X pins σ H s):s.heap.FunFrames X.base X.stack:=by
 rcases I.ok.stk with e | ⟨e,hf⟩
 ·rw [e];exact I.funs
 ·rw [e]
  obtain ⟨m,hn,_⟩:=I.loc
  refine .cons (by rw [I.ok.kind];decide) hf hn ?_ I.funs
  exact Heap.get?_none_of_le (Nat.le_trans I.ok.bsz I.ok.above)
theorem Inv.stkSub (I:Inv X pins σ H s):∀ b∈frs X.stack,b∈X.env.locals::X.fs:=fun b hb=>by
 rcases I.ok.stk with e | ⟨e,hf⟩
 ·rw [e] at hb;exact List.mem_cons_of_mem _ hb
 ·rw [e] at hb
  unfold frs at hb
  rw [List.filterMap_cons,hf] at hb
  exact hb
theorem Inv.stkFree (I:Inv X pins σ H s):∀ b∈frs X.stack,H b=none:=fun b hb=>by
 rcases List.mem_cons.mp (I.stkSub b hb) with e | hb
 ·rw [e];exact I.free
 ·obtain ⟨_,o,ho,_⟩:=I.ok.funs.mem hb
  exact I.base.free b o ho (I.ok.frf b hb) fun z=>I.ok.exfs b z hb

theorem Inv.step {g':Array GenState}{t':Nat}{d':Drawn}{ch:List Addr} (I:Inv X pins σ H s)
  (hch:∀ b∈ch,(b∈X.ex∨X.s₀.heap.objs.size≤b)∧b≠X.env.locals∧(∀ x c,X.env.cells.lookup x=some c→c≠b)∧∀ p∈X.pn++pins,p.1≠b)
  (keep:∀ b o,b≠X.env.locals→b ∉ X.fs→b ∉ ch→s.heap.get? b=some o→H b=none→h'.get? b=some o)
  (slot:∀ b o,b≠X.env.locals→b∈X.fs→b ∉ ch→s.heap.get? b=some o→H b=none→∃ sl,h'.get? b=some { o with slots:=sl }) (free:∀ b o,b ∉ ch→s.heap.get? b=some o→H b=none→H' b=none)
  (there:∀ b o,b ∉ ch→s.heap.get? b=some o→∃ o',h'.get? b=some o')
  (tups:∀ b xs,H b=some (.tup xs)→H' b=some (.tup xs)) (frzs:∀ b o u,H b=some (.frz o u)→H' b=some (.frz o u)) (tbls:∀ b ps,H b=some (.tbl ps)→∃ more,H' b=some (.tbl (ps++more)))
  (ns:∀ m,s.heap.Ns X.env.locals m→h'.Ns X.env.locals m) (hok:HOk X.prog X.w H' h') (hg:AllBare g') :
  Inv X pins σ H' { s with heap:=h',gens:=g',drawn:=d',toks:=t' }:=by
 have neL:∀ b o,X.s₀.heap.get? b=some o→b≠X.env.locals:=fun b o e=>Nat.ne_of_lt (Nat.lt_of_lt_of_le (Heap.lt_size e) I.ok.above)
 have neC:∀ b o,X.s₀.heap.get? b=some o→b ∉ X.ex→b ∉ ch:=fun b o e hx hb=>by
  rcases (hch b hb).1 with z | z
  ·exact hx z
  ·exact absurd (Nat.lt_of_lt_of_le (Heap.lt_size e) z) (Nat.lt_irrefl _)
 have cellK:∀ x c,X.env.cells.lookup x=some c→∀ v,s.heap.IsCell c v→h'.IsCell c v:=fun x c e v ⟨o,ho,hd⟩=>by
  have nch:c ∉ ch:=fun z=>(hch c z).2.2.1 x c e rfl
  by_cases hc:c∈X.fs
  ·obtain ⟨sl,q⟩:=slot c o (I.cne x c e) hc nch ho (I.freeC x c e)
   exact ⟨_,q,hd⟩
  ·exact ⟨o,keep c o (I.cne x c e) hc nch ho (I.freeC x c e),hd⟩
 refine ⟨I.ok,I.os,hg,⟨fun b o e n hb hx=>?_,fun b o e n hb hx=>?_,fun b o e n hx=>?_,fun b o e hx=>?_,fun b xs e=>tups b xs (I.base.tups b xs e),fun b o xs e=>frzs b o xs (I.base.frzs b o xs e),fun b ps e=>?_⟩,?_,fun x c e=>?_,?_,fun x c e=>?_,fun p hp=>?_,hok,I.len⟩
 ·exact keep b o (neL b o e) hb (neC b o e hx) (I.base.keep b o e n hb hx) (I.base.free b o e n hx)
 ·obtain ⟨sl,e1⟩:=I.base.slot b o e n hb hx
  obtain ⟨sl',e2⟩:=slot b _ (neL b o e) hb (neC b o e hx) e1 (I.base.free b o e n hx)
  exact ⟨sl',e2⟩
 ·obtain ⟨o',e1⟩:=I.base.there b o e hx
  exact free b o' (neC b o e hx) e1 (I.base.free b o e n hx)
 ·obtain ⟨o',e1⟩:=I.base.there b o e hx
  exact there b o' (neC b o e hx) e1
 ·obtain ⟨m1,e1⟩:=I.base.tbls b ps e
  obtain ⟨m2,e2⟩:=tbls b _ e1
  exact ⟨m1++m2,by rw [e2,Array.append_assoc]⟩
 ·obtain ⟨m,hn,hl⟩:=I.loc
  refine ⟨m,ns m hn,fun i x v e1 e2 e3=>?_⟩
  obtain ⟨u,r,l⟩:=hl i x v e1 e2 e3
  refine ⟨u,r,?_⟩
  rcases l with l | ⟨k,c,e,z⟩
  ·exact .inl l
  ·exact .inr ⟨k,c,e,cellK x c e _ z⟩
 ·obtain ⟨v,z⟩:=I.cell x c e
  exact ⟨v,cellK x c e v z⟩
 ·obtain ⟨m,⟨o,_,_,ho,_⟩,_⟩:=I.loc
  exact free _ o (fun z=>(hch _ z).2.1 rfl) ho I.free
 ·obtain ⟨v,o,ho,hd⟩:=I.cell x c e
  exact free c o (fun z=>(hch c z).2.2.1 x c e rfl) ho (I.freeC x c e)
 ·obtain ⟨e,n,ne,nf,d⟩:=I.pin p hp
  have nch:p.1 ∉ ch:=fun z=>(hch p.1 z).2.2.2 p hp rfl
  exact ⟨keep p.1 p.2 ne nf nch e n,free p.1 p.2 nch e n,ne,nf,d⟩
theorem Inv.un {t':Nat} (I:Inv X pins σ H s) (u:Un X.fs [] H H' s.heap h') (hok:HOk X.prog X.w H' h'):Inv X pins σ H' { s with heap:=h',toks:=t' }:=by
 obtain ⟨m,⟨o,es,ep,ho,r⟩,_⟩:=id I.loc
 obtain ⟨sl,hL⟩:=u.any ho I.free (by simp)
 exact I.step (g':=s.gens) (d':=s.drawn) (ch:=[]) (fun _ z=>nomatch z) (fun b o _ hb _ e n=>u.keep b o e n hb (by simp)) (fun b o _ hb _ e n=>u.slot b o e n hb (by simp)) (fun b o _ e n=>u.free b o e n (by simp)) (fun b o _ e=>u.there b o e (by simp)) u.tups u.frzs u.tbls (fun m' hm=>by
  obtain ⟨o',es',ep',ho',r'⟩:=hm
  rw [ho] at ho';cases ho'
  exact ⟨_,es',ep',hL,r'⟩) hok I.bare
theorem Inv.call {g':Array GenState}{t':Nat}{d':Drawn}{ch:List Addr} (I:Inv X pins σ H s) (u:Un (frs X.stack) ch H H' s.heap h') (hok:HOk X.prog X.w H' h') (hg:AllBare g')
  (hch:∀ b∈ch,(b∈X.ex∨X.s₀.heap.objs.size≤b)∧b≠X.env.locals∧(∀ x c,X.env.cells.lookup x=some c→c≠b)∧∀ p∈X.pn++pins,p.1≠b) :
  Inv X pins σ H' { s with heap:=h',gens:=g',drawn:=d',toks:=t' }:=by
 obtain ⟨m,⟨o,es,ep,ho,r⟩,_⟩:=id I.loc
 obtain ⟨sl,hL⟩:=u.any ho I.free fun z=>(hch _ z).2.1 rfl
 exact I.step (ch:=ch) hch (fun b o hL hb hc e n=>u.keep b o e n (fun z=>(List.mem_cons.mp (I.stkSub b z)).elim hL hb) hc) (fun b o _ _ hc e n=>u.any e n hc) (fun b o hc e n=>u.free b o e n hc) (fun b o hc e=>u.there b o e hc) u.tups u.frzs u.tbls (fun m' hm=>by
  obtain ⟨o',es',ep',ho',r'⟩:=hm
  rw [ho] at ho';cases ho'
  exact ⟨_,es',ep',hL,r'⟩) hok hg
theorem Inv.turned {t':Nat}{it:Addr} (I:Inv X pins σ H s) (k:∀ b o,b≠it→s.heap.get? b=some o→h'.get? b=some o) (hn:H it=none) (hL:it≠X.env.locals)
  (h1:it∈X.ex∨X.s₀.heap.objs.size≤it) (h2:∀ x c,X.env.cells.lookup x=some c→c≠it) (h3:∀ p∈X.pn++pins,p.1≠it):Inv X pins σ H { s with heap:=h',toks:=t' }:=by
 have nit:∀ b u,H b=some u→b≠it:=fun b u e z=>by rw [z,hn] at e;cases e
 refine I.step (g':=s.gens) (d':=s.drawn) (ch:=[it]) (fun b hb=>?_) (fun b o _ _ hc e _=>k b o (fun z=>hc (by simp [z])) e) (fun b o _ _ hc e _=>⟨o.slots,k b o (fun z=>hc (by simp [z])) e⟩) (fun _ _ _ _ n=>n)
  (fun b o hc e=>⟨o,k b o (fun z=>hc (by simp [z])) e⟩) (fun _ _ e=>e) (fun _ _ _ e=>e) (fun b ps e=>⟨#[],by rw [e];simp⟩) (fun m hm=>?_) (fun b u e=>?_) I.bare
 ·have e:b=it:=by simpa using hb
  subst e
  exact ⟨h1,hL,h2,h3⟩
 ·obtain ⟨o,es,ep,ho,r⟩:=hm
  exact ⟨o,es,ep,k _ o (Ne.symm hL) ho,r⟩
 ·refine (I.hok b u e).stay (fun c v hc q=>k c v ?_ q) (fun _ q=>q) fun _ _ q=>q
  rcases hc with z | z
  ·rw [z];exact nit b u e
  ·exact nit c _ z
theorem Inv.tok (I:Inv X pins σ H s) (t:Nat):Inv X pins σ H { s with toks:=t }:=I.un (h':=s.heap) (t':=t) Un.refl I.hok
theorem Inv.kept {t':Nat} (I:Inv X pins σ H s) (k:∀ b u,s.heap.get? b=some u→h'.get? b=some u):Inv X pins σ H { s with heap:=h',toks:=t' }:=I.un (Un.kept k) (I.hok.kept k)
theorem Inv.laid {a:Addr}{o:HO}{t':Nat} (I:Inv X pins σ H s) (k:∀ b u,s.heap.get? b=some u→h'.get? b=some u) (hp:s.heap.objs.size≤a) (new:ObjOk X.prog X.w (upd H a o) h' a o) :
  Inv X pins σ (upd H a o) { s with heap:=h',toks:=t' }:=I.un (Un.laid k hp (I.hok.fresh hp)) (I.hok.laid k hp new)
theorem Inv.write {x e:Addr}{o:HO}{t':Nat} (I:Inv X pins σ H s) (mu:Mut (H x)) (he:e=x∨H e=some (.own x)) (k:∀ b u,b≠e→s.heap.get? b=some u→h'.get? b=some u) (heo:∃ u,h'.get? e=some u)
  (new:ObjOk X.prog X.w (upd H x o) h' x o):Inv X pins σ (upd H x o) { s with heap:=h',toks:=t' }:=I.un (Un.write mu he k heo) (I.hok.write mu he k heo new)
theorem Inv.weak {σ':List (Option V)} (I:Inv X pins σ H s) (hl:σ'.length = σ.length) (w:∀ (i:Nat) v,σ'[i]? = some (some v)→σ[i]? = some (some v)):Inv X pins σ' H s :=
 ⟨I.ok,I.os,I.bare,I.base,let ⟨m,hn,hl'⟩:=I.loc;⟨m,hn,fun i x v e1 e2 e3=>hl' i x v e1 (w i v e2) e3⟩,I.cell,I.free,I.freeC,I.pin,I.hok,hl.trans I.len⟩
theorem Inv.pins_of {pins':List (Addr×Obj)} (I:Inv X pins σ H s) (h:∀ p∈pins',s.heap.get? p.1=some p.2∧H p.1=none∧p.1≠X.env.locals∧p.1 ∉ X.fs∧∀ v,p.2.data ≠ .cell v):Inv X pins' σ H s :=
 ⟨I.ok,I.os,I.bare,I.base,I.loc,I.cell,I.free,I.freeC,fun p hp=>(List.mem_append.mp hp).elim (fun z=>I.pin p (List.mem_append_left _ z)) (h p),I.hok,I.len⟩

theorem nodup_ix {N:List Str} (hN:N.Nodup) {i j:Nat}{x:Str} (a:N[i]? = some x) (b:N[j]? = some x):i=j:=by
 obtain ⟨h1,e1⟩:=List.getElem?_eq_some_iff.mp a
 obtain ⟨h2,e2⟩:=List.getElem?_eq_some_iff.mp b
 exact (List.getElem_inj hN).mp (e1.trans e2.symm)

theorem store_ok2 {M:Model}{A:Around}{E:Value→Shared→Prop}{i:Nat}{x:Str}{v:V}{u:Value}{Q:Unit→Shared→Prop} (I:Inv X pins σ H s) (hN:X.N.Nodup) (hi:X.N[i]? = some x) (hx:Loc X.env.scope x) (r:RelV v u)
  (h:∀ s',Inv X pins (σ.set i (some v)) H s'→(∃ a,Heap.SameBut a s.heap s'.heap∧(a=X.env.locals∨X.env.cells.lookup x=some a))→Q () s') (hf:X.fn x=true∨X.env.scope.names.lookup x=some .local:=by first | exact .inl rfl | exact .inr rfl | assumption):wpAny M A (storeName X.env x u) Q E s:=by
 obtain ⟨m,hn,hl⟩:=id I.loc
 have hcls:(X.env.scope.kind == .class || (X.env.scope.kind == .module&&X.env.locals != X.env.globals))=false:=by rw [I.ok.kind];rfl
 have hiσ:i < σ.length:=by rw [I.len];exact (List.getElem?_eq_some_iff.mp hi).1
 have cne:=I.cne
 have tracked:∀ {a:Addr}{h':Heap},(∃ o,s.heap.get? a=some o∧H a=none)→Heap.SameBut a s.heap h'→HOk X.prog X.w H h':=fun {a h'} ha hs b ob e=>by
  obtain ⟨_,_,hfree⟩:=ha
  refine (I.hok b ob e).stay (fun c w' hc q=>(hs.2 c ?_).trans q) (fun _ q=>q) fun _ _ q=>q
  rintro rfl
  rcases hc with rfl | hc
  ·rw [hfree] at e;cases e
  ·rw [hfree] at hc;cases hc
 rcases hx with hk | hk
 ·refine wpAny_storeName_local hk hn (fun h' hn' hs=>?_) hcls
  obtain ⟨oL,_,_,hoL,_⟩:=id hn
  refine h _ ⟨I.ok,I.os,I.bare,⟨fun b o e n hb hx=>?_,fun b o e n hb hx=>?_,I.base.free,fun b o e hx=>?_,I.base.tups,I.base.frzs,I.base.tbls⟩,⟨_,hn',fun j y v' e1 e2 e3=>?_⟩,fun y c e=>?_,I.free,I.freeC,fun p hp=>?_,tracked ⟨oL,hoL,I.free⟩ hs,by simpa using I.len⟩ ⟨_,hs,.inl rfl⟩
  ·exact (hs.2 b (Nat.ne_of_lt (Nat.lt_of_lt_of_le (Heap.lt_size e) I.ok.above))).trans (I.base.keep b o e n hb hx)
  ·obtain ⟨sl,e1⟩:=I.base.slot b o e n hb hx
   exact ⟨sl,(hs.2 b (Nat.ne_of_lt (Nat.lt_of_lt_of_le (Heap.lt_size e) I.ok.above))).trans e1⟩
  ·obtain ⟨o',e1⟩:=I.base.there b o e hx
   exact ⟨o',(hs.2 b (Nat.ne_of_lt (Nat.lt_of_lt_of_le (Heap.lt_size e) I.ok.above))).trans e1⟩
  ·by_cases hj:j=i
   ·subst hj
    rw [hi] at e1;cases e1
    rw [List.getElem?_set_self hiσ] at e2
    cases e2
    exact ⟨u,r,.inl ⟨hk,by simp⟩⟩
   ·rw [List.getElem?_set_ne (Ne.symm hj)] at e2
    obtain ⟨u',r',q⟩:=hl j y v' e1 e2 e3
    refine ⟨u',r',?_⟩
    rcases q with ⟨k,e⟩ | ⟨k,c,e,z⟩
    ·refine .inl ⟨k,?_⟩
     have:y≠x:=fun e=>hj (nodup_ix hN e1 (e ▸ hi))
     simp [this,e]
    ·exact .inr ⟨k,c,e,z.sameBut hs (cne y c e)⟩
  ·obtain ⟨w',z⟩:=I.cell y c e
   exact ⟨w',z.sameBut hs (cne y c e)⟩
  ·obtain ⟨e,n,ne,nf,d⟩:=I.pin p hp
   exact ⟨(hs.2 p.1 ne).trans e,n,ne,nf,d⟩
 ·have hfn:X.fn x=true:=by
   rcases hf with z | z
   ·exact z
   ·rw [z] at hk;cases hk
  obtain ⟨c,hc⟩:=I.ok.has x (.inl hk)
  obtain ⟨w',z⟩:=I.cell x c hc
  refine wpAny_storeName_cell I.ok.kind hk hc z (fun h' hc' hs=>?_)
  obtain ⟨oc,hoc,hocd⟩:=id z
  refine h { s with heap:=h' } ⟨I.ok,I.os,I.bare,⟨fun b o e n hb hx=>?_,fun b o e n hb hx=>?_,I.base.free,fun b o e hx=>?_,I.base.tups,I.base.frzs,I.base.tbls⟩,⟨m,hn.sameBut hs (Ne.symm (cne x c hc)),fun j y v' e1 e2 e3=>?_⟩,fun y c' e=>?_,I.free,I.freeC,fun p hp=>?_,tracked ⟨oc,hoc,I.freeC x c hc⟩ hs,by simpa using I.len⟩ ⟨c,hs,.inr hc⟩
  ·exact (hs.2 b (Nat.ne_of_lt (Nat.lt_of_lt_of_le (Heap.lt_size e) (I.ok.cab x c hfn hc)))).trans (I.base.keep b o e n hb hx)
  ·obtain ⟨sl,e1⟩:=I.base.slot b o e n hb hx
   exact ⟨sl,(hs.2 b (Nat.ne_of_lt (Nat.lt_of_lt_of_le (Heap.lt_size e) (I.ok.cab x c hfn hc)))).trans e1⟩
  ·obtain ⟨o',e1⟩:=I.base.there b o e hx
   exact ⟨o',(hs.2 b (Nat.ne_of_lt (Nat.lt_of_lt_of_le (Heap.lt_size e) (I.ok.cab x c hfn hc)))).trans e1⟩
  ·by_cases hj:j=i
   ·subst hj
    rw [hi] at e1;cases e1
    rw [List.getElem?_set_self hiσ] at e2
    cases e2
    exact ⟨u,r,.inr ⟨.inl hk,c,hc,hc'⟩⟩
   ·rw [List.getElem?_set_ne (Ne.symm hj)] at e2
    obtain ⟨u',r',q⟩:=hl j y v' e1 e2 e3
    refine ⟨u',r',?_⟩
    rcases q with q | ⟨k,c',e,z'⟩
    ·exact .inl q
    ·refine .inr ⟨k,c',e,z'.sameBut hs ?_⟩
     rintro rfl
     exact hj (nodup_ix hN e1 (I.ok.inj _ _ _ e hc ▸ hi))
  ·by_cases hcc:c'=c
   ·subst hcc;exact ⟨_,hc'⟩
   ·obtain ⟨w2,z2⟩:=I.cell y c' e
    exact ⟨w2,z2.sameBut hs hcc⟩
  ·obtain ⟨e,n,ne,nf,d⟩:=I.pin p hp
   refine ⟨(hs.2 p.1 ?_).trans e,n,ne,nf,d⟩
   intro q
   rw [q,hoc] at e
   have q':oc=p.2:=Option.some.inj e
   exact d w' (by rw [←q'];exact hocd)
theorem store_ok {M:Model}{A:Around}{E:Value→Shared→Prop}{i:Nat}{x:Str}{v:V}{u:Value}{Q:Unit→Shared→Prop} (I:Inv X pins σ H s) (hN:X.N.Nodup) (hi:X.N[i]? = some x) (hx:Loc X.env.scope x) (r:RelV v u)
  (h:∀ s',Inv X pins (σ.set i (some v)) H s'→Q () s') (hf:X.fn x=true∨X.env.scope.names.lookup x=some .local:=by first | exact .inl rfl | exact .inr rfl | assumption):wpAny M A (storeName X.env x u) Q E s :=
 store_ok2 I hN hi hx r (fun s' I' _=>h s' I') hf
theorem Inv.call' {s':Shared}{ch:List Addr} (I:Inv X pins σ H s) (ho:s'.os=s.os) (u:Un (frs X.stack) ch H H' s.heap s'.heap) (hok:HOk X.prog X.w H' s'.heap) (hg:AllBare s'.gens)
  (hch:∀ b∈ch,(b∈X.ex∨X.s₀.heap.objs.size≤b)∧b≠X.env.locals∧(∀ x c,X.env.cells.lookup x=some c→c≠b)∧∀ p∈X.pn++pins,p.1≠b):Inv X pins σ H' s':=by
 obtain ⟨h',g',d',t',o'⟩:=s'
 have e:o'=s.os:=ho
 subst e
 exact I.call (g':=g') (t':=t') (d':=d') u hok hg hch
end

abbrev XK:=Value→Option Addr→Hp→Prop
abbrev St:=List (Option V)
abbrev VK:=V→Hp→Prop
abbrev TE:=St→Hp→VK→Prop
abbrev TT:=St→Hp→(Bool→Hp→Prop)→Prop
abbrev TA:=St→Hp→(List V→Hp→Prop)→Prop
structure Ends where
 nx:St→Hp→Prop
 rt:VK
 bk:St→Hp→Prop:=fun _ _=>False
 ct:St→Hp→Prop:=fun _ _=>False
abbrev TS:=Ends→St→Hp→Prop

def EP (X:Cx) (pins:List (Addr×Obj)) (σ:St) (Q:VK) (u:Value) (s':Shared):Prop:=∃ v H',Inv X pins σ H' s'∧RelV v u∧Q v H'
def TP (X:Cx) (pins:List (Addr×Obj)) (σ:St) (Q:Bool→Hp→Prop) (b:Bool) (s':Shared):Prop:=∃ H',Inv X pins σ H' s'∧Q b H'
def AP (X:Cx) (pins:List (Addr×Obj)) (σ:St) (Q:List V→Hp→Prop) (us:List Value) (s':Shared):Prop:=∃ vs H',Inv X pins σ H' s'∧Vals vs us∧Q vs H'
def SP (X:Cx) (pins:List (Addr×Obj)) (D:Ends) (f:Flow) (s':Shared):Prop :=
 match f with
 | .next=>∃ σ' H',Inv X pins σ' H' s'∧D.nx σ' H'
 | .brk=>∃ σ' H',Inv X pins σ' H' s'∧D.bk σ' H'
 | .cont=>∃ σ' H',Inv X pins σ' H' s'∧D.ct σ' H'
 | .ret u=>∃ v σ' H',Inv X pins σ' H' s'∧RelV v u∧D.rt v H'

def PE (X:Cx) (e:Expr) (t:TE):Prop :=
 ∀ (pins:List (Addr×Obj)) (s:Shared) (σ:St) (H:Hp) (Q:VK),Inv X pins σ H s→t σ H Q→wpAny (model X.prog X.w) X.A (eval e X.env) (EP X pins σ Q) X.xe s
def PT (X:Cx) (e:Expr) (t:TT):Prop :=
 ∀ (pins:List (Addr×Obj)) (s:Shared) (σ:St) (H:Hp) (Q:Bool→Hp→Prop),Inv X pins σ H s→t σ H Q→wpAny (model X.prog X.w) X.A (isTrue e X.env (eval e X.env)) (TP X pins σ Q) X.xe s
def PW (X:Cx) (e:Expr) (t:TT):Prop :=
 ∀ (whole:Sem Value) (pins:List (Addr×Obj)) (s:Shared) (σ:St) (H:Hp) (Q:Bool→Hp→Prop),Inv X pins σ H s→t σ H Q→wpAny (model X.prog X.w) X.A (isTrue e X.env whole) (TP X pins σ Q) X.xe s
theorem PW.pt {X:Cx}{e:Expr}{t:TT} (h:PW X e t):PT X e t:=h _
def PA (X:Cx) (es:List Expr) (t:TA):Prop :=
 ∀ (pos:Pos) (pins:List (Addr×Obj)) (s:Shared) (σ:St) (H:Hp) (Q:List V→Hp→Prop),Inv X pins σ H s→t σ H Q→wpAny (model X.prog X.w) X.A (spliced (backTo pos (starEach es X.env))) (AP X pins σ Q) X.xe s
def PS (X:Cx) (st:Stmt) (t:TS):Prop :=
 ∀ (pins:List (Addr×Obj)) (s:Shared) (σ:St) (H:Hp) (D:Ends),Inv X pins σ H s→t D σ H→wpAny (model X.prog X.w) X.A (exec st X.env) (SP X pins D) X.xe s
def PSs (X:Cx) (st:List Stmt) (t:TS):Prop :=
 ∀ (pins:List (Addr×Obj)) (s:Shared) (σ:St) (H:Hp) (D:Ends),Inv X pins σ H s→t D σ H→wpAny (model X.prog X.w) X.A (execs st X.env) (SP X pins D) X.xe s
theorem thn {α:Type}{t:Sem α}{Q Q':α→Shared→Prop}{M:Model}{A:Around}{E:Value→Shared→Prop}{s:Shared} (h:wpAny M A t Q E s) (hQ:∀ a s,Q a s→Q' a s):wpAny M A t Q' E s:=wpAny_mono h hQ fun _ _ x=>x
end L2

namespace L2
open PySem PySem.Spec PyProof.Rows
section
variable {X:Cx}

theorem bin {a b:Expr}{ta tb:TE} (ha:PE X a ta) (hb:PE X b tb) {pins:List (Addr×Obj)}{s:Shared}{σ:St}{H:Hp}{R:V→V→Hp→Prop} (I:Inv X pins σ H s) (h:ta σ H fun x H1=>tb σ H1 fun y H2=>R x y H2)
  {α:Type}{Q:α→Shared→Prop}{f:Value→Value→Sem α}
  (hf:∀ v u s2 x y H2,Inv X pins σ H2 s2→RelV x v→RelV y u→R x y H2→wpAny (model X.prog X.w) X.A (f v u) Q X.xe s2) :
  wpAny (model X.prog X.w) X.A (eval a X.env) (fun v s₁=>wpAny (model X.prog X.w) X.A (eval b X.env) (fun u s₂=>wpAny (model X.prog X.w) X.A (f v u) Q X.xe s₂) X.xe s₁) X.xe s:=by
 refine thn (ha pins s σ H _ I h) fun v s1 ⟨x,H1,I1,r1,q1⟩=>?_
 refine thn (hb pins s1 σ H1 _ I1 q1) fun u s2 ⟨y,H2,I2,r2,q2⟩=>?_
 exact hf v u s2 x y H2 I2 r1 r2 q2

def tVar (i:Nat):TE:=fun σ H Q=>∃ v,σ[i]? = some (some v)∧Q v H
def tC (v:V):TE:=fun _ H Q=>Q v H
theorem pe_var {i:Nat}{x:Str}{pos:Pos} (hN:X.N[i]? = some x) (hv:Vis X.env.scope x) (hd:(x == ("__debug__":Str))=false:=by decide) (hcd:(x == ("__classdict__":Str))=false:=by decide):PE X (.Name x pos) (tVar i):=by
 intro pins s σ H Q I h
 obtain ⟨v,e,h⟩:=h
 obtain ⟨m,hn,hl⟩:=I.loc
 obtain ⟨u,r,l⟩:=hl i x v hN e hv
 have fin:EP X pins σ Q u s:=⟨v,H,I,r,h⟩
 rcases l with ⟨hk,hm⟩ | ⟨hk,c,hc,hcell⟩
 ·exact wpAny_Name (wpAny_loadName_local I.ok.kind hk hn hm fin) hd
 ·rcases hk with hk | hk
  ·exact wpAny_Name (wpAny_loadName_cell I.ok.kind hk hc hcell fin) hd
  ·exact wpAny_Name (wpAny_loadName_free I.ok.kind hk hc hcell fin hcd) hd
theorem pe_int {i j pos}:PE X (.Constant (.int i) j pos) (tC (.int i)):=fun _ _ _ H _ I h=>wpAny_Constant_int ⟨.int i,H,I.tok _,⟨_,rfl⟩,h⟩
theorem pe_bl {b j pos}:PE X (.Constant (.bool b) j pos) (tC (.bl b)):=fun _ _ _ H _ I h=>Constant_bool ⟨.bl b,H,I,rfl,h⟩
theorem pe_non {j pos}:PE X (.Constant .none j pos) (tC .non):=fun _ _ _ H _ I h=>Constant_none ⟨.non,H,I,rfl,h⟩
def Gl (X:Cx) (x:Str):Prop:=X.env.kindOf x=some .globalImplicit
theorem ld_glob {E:Value→Shared→Prop}{pins:List (Addr×Obj)}{s:Shared}{σ:St}{H:Hp}{x:Str}{u:Value}{pos:Pos}{Q:Value→Shared→Prop} (I:Inv X pins σ H s) (hg:Gl X x) (hm:X.mg x=some u) (h:Q u s)
  (hd:(x == ("__debug__":Str))=false:=by decide):wpAny (model X.prog X.w) X.A (eval (.Name x pos) X.env) Q E s :=
 Calls.Name_function_global I.ok.kind hg (Calls.loadGlobal_global (by rw [I.ok.glob];exact I.mod.glob.keeps I.bk) hm h) hd
theorem ld_blt {E:Value→Shared→Prop}{pins:List (Addr×Obj)}{s:Shared}{σ:St}{H:Hp}{x:Str}{u:Value}{pos:Pos}{Q:Value→Shared→Prop} (I:Inv X pins σ H s) (hg:Gl X x) (hm:X.mg x=none) (hv:bootBuiltins x=some u) (h:Q u s)
  (hn:x ≠ "__name__":=by decide) (hd:(x == ("__debug__":Str))=false:=by decide):wpAny (model X.prog X.w) X.A (eval (.Name x pos) X.env) Q E s:=by
 obtain ⟨mb,h1,h2⟩:=I.mod.blt
 exact Calls.Name_function_global I.ok.kind hg (Calls.loadGlobal_builtin (by rw [I.ok.glob];exact I.mod.glob.keeps I.bk) hm (by rw [I.ok.blt];exact h1.keeps I.bk) ((h2 x hn).trans hv) h) hd
theorem pe_glob {x:Str}{v:V}{u:Value}{pos:Pos} (hg:Gl X x) (hm:X.mg x=some u) (r:RelV v u) (hd:(x == ("__debug__":Str))=false:=by decide):PE X (.Name x pos) (tC v) :=
 fun _ _ _ H _ I h=>ld_glob I hg hm ⟨v,H,I,r,h⟩ hd
theorem pe_bltn {x:Str}{v:V}{u:Value}{pos:Pos} (hg:Gl X x) (hm:X.mg x=none) (hv:bootBuiltins x=some u) (r:RelV v u) (hn:x ≠ "__name__":=by decide) (hd:(x == ("__debug__":Str))=false:=by decide):PE X (.Name x pos) (tC v) :=
 fun _ _ _ H _ I h=>ld_blt I hg hm hv ⟨v,H,I,r,h⟩ hn hd

variable {a b:Expr}{ta tb:TE}{pos:Pos}
def PC (X:Cx) (op:CmpOp) (a b:Expr) (t:TE):Prop :=
 ∀ (pins:List (Addr×Obj)) (s:Shared) (σ:St) (H:Hp) (Q:VK),Inv X pins σ H s→t σ H Q →
  wpAny (model X.prog X.w) X.A (eval a X.env) (fun v s₁=>wpAny (model X.prog X.w) X.A (eval b X.env) (fun u s₂=>wpAny (model X.prog X.w) X.A (compareOp op v u) (EP X pins σ Q) X.xe s₂) X.xe s₁) X.xe s
theorem nobehind (b:Expr) {op:CmpOp} (h:op ≠ .In) (h2:op ≠ .NotIn):behindInMarks op b=false:=by
 have e1:(op == CmpOp.In)=false:=by cases op <;> first | rfl | exact absurd rfl h
 have e2:(op == CmpOp.NotIn)=false:=by cases op <;> first | rfl | exact absurd rfl h2
 cases b <;> simp [behindInMarks,e1,e2]
def tB (t:TE):TT:=fun σ H Q=>t σ H fun x H1=>∃ c,x = .bl c∧Q c H1
theorem pt_cmp {op:CmpOp}{t:TE} (h:PC X op a b t) (h1:behindInMarks op b=false:=by first | exact nobehind _ (by decide) (by decide) | rfl):PT X (.Compare a [op] [b] pos) (tB t):=by
 intro pins s σ H Q I hw
 refine wpAny_isTrue_Compare1 (thn (h pins s σ H _ I hw) fun v s1 h1=>thn h1 fun u s2 h2=>thn h2 fun c s3 ⟨x,H1,I1,r1,q1⟩=>?_) h1
 obtain ⟨d,rfl,q⟩:=q1
 cases r1
 exact wpAny_truthy_bool ⟨H1,I1,q⟩
theorem pt_val {e:Expr}{t:TE} (h:PE X e t) (he:∀ whole,isTrue e X.env whole=(do let v ← whole;standAt e.pos;holding [v] (truthy v)):=by intro _;rfl):PT X e (tB t):=by
 intro pins s σ H Q I hw
 refine isTrue_plain (thn (h pins s σ H _ I hw) fun v s1 ⟨x,H1,I1,r1,q1⟩=>?_) (he _)
 obtain ⟨d,rfl,q⟩:=q1
 cases r1
 exact wpAny_truthy_bool ⟨H1,I1,q⟩

variable {tA tB':TT}{rest:List Expr}
def tAnd (t u:TT):TT:=fun σ H Q=>t σ H fun c H1=>if c=true then u σ H1 Q else Q false H1
def tOr (t u:TT):TT:=fun σ H Q=>t σ H fun c H1=>if c=true then Q true H1 else u σ H1 Q
def tNot (t:TT):TT:=fun σ H Q=>t σ H fun c H1=>Q (!c) H1
theorem pw_and1 (ha:PT X a tA):PW X (.BoolOp .And [a] pos) tA:=by
 intro wh pins s σ H Q I h
 refine isTrue_and (thn (ha pins s σ H Q I h) fun c s1 e=>?_)
 cases c with
 | true=>exact isTrue_and_nil e
 | false=>exact e
theorem pw_or1 (ha:PT X a tA):PW X (.BoolOp .Or [a] pos) tA:=by
 intro wh pins s σ H Q I h
 refine isTrue_or (thn (ha pins s σ H Q I h) fun c s1 e=>?_)
 cases c with
 | false=>exact isTrue_or_nil e
 | true=>exact e
theorem pw_and (ha:PT X a tA) (hb:PW X (.BoolOp .And (b::rest) pos) tB'):PW X (.BoolOp .And (a::b::rest) pos) (tAnd tA tB'):=by
 intro wh pins s σ H Q I h
 refine isTrue_and (thn (ha pins s σ H _ I h) fun c s1 ⟨H1,I1,q1⟩=>?_)
 cases c with
 | true=>exact hb wh pins s1 σ H1 Q I1 q1
 | false=>exact ⟨H1,I1,q1⟩
theorem pw_or (ha:PT X a tA) (hb:PW X (.BoolOp .Or (b::rest) pos) tB'):PW X (.BoolOp .Or (a::b::rest) pos) (tOr tA tB'):=by
 intro wh pins s σ H Q I h
 refine isTrue_or (thn (ha pins s σ H _ I h) fun c s1 ⟨H1,I1,q1⟩=>?_)
 cases c with
 | true=>exact ⟨H1,I1,q1⟩
 | false=>exact hb wh pins s1 σ H1 Q I1 q1
theorem pt_not (ha:PT X a tA):PT X (.UnaryOp .Not a pos) (tNot tA):=by
 intro pins s σ H Q I h
 exact isTrue_not (ha pins s σ H (fun c H1=>Q (!c) H1) I h)
def tAndV (ta tb:TE):TE:=fun σ H Q=>ta σ H fun x H1=>∃ c,x = .bl c∧if c=true then tb σ H1 Q else Q (.bl false) H1
def tOrV (ta tb:TE):TE:=fun σ H Q=>ta σ H fun x H1=>∃ c,x = .bl c∧if c=true then Q (.bl true) H1 else tb σ H1 Q
def tNotV (ta:TE):TE:=fun σ H Q=>ta σ H fun x H1=>∃ c,x = .bl c∧Q (.bl (!c)) H1
theorem pe_one {op}{t:TE} (h:PE X a t):PE X (.BoolOp op [a] pos) t:=fun pins s σ H Q I hw=>BoolOp_one (h pins s σ H Q I hw)
theorem pe_and (ha:PE X a ta) (hb:PE X (.BoolOp .And (b::rest) pos) tb):PE X (.BoolOp .And (a::b::rest) pos) (tAndV ta tb):=by
 intro pins s σ H Q I h
 refine BoolOp_and (thn (ha pins s σ H _ I h) fun v s1 ⟨x,H1,I1,r1,q1⟩=>?_)
 obtain ⟨c,rfl,q1⟩:=q1
 cases r1
 refine wpAny_truthy_bool ?_
 cases c with
 | true=>exact hb pins s1 σ H1 Q I1 q1
 | false=>exact ⟨.bl false,H1,I1,rfl,q1⟩
theorem pe_or (ha:PE X a ta) (hb:PE X (.BoolOp .Or (b::rest) pos) tb):PE X (.BoolOp .Or (a::b::rest) pos) (tOrV ta tb):=by
 intro pins s σ H Q I h
 refine BoolOp_or (thn (ha pins s σ H _ I h) fun v s1 ⟨x,H1,I1,r1,q1⟩=>?_)
 obtain ⟨c,rfl,q1⟩:=q1
 cases r1
 refine wpAny_truthy_bool ?_
 cases c with
 | false=>exact hb pins s1 σ H1 Q I1 q1
 | true=>exact ⟨.bl true,H1,I1,rfl,q1⟩
theorem pe_not (ha:PE X a ta):PE X (.UnaryOp .Not a pos) (tNotV ta):=by
 intro pins s σ H Q I h
 refine UnaryOp_ (thn (ha pins s σ H _ I h) fun v s1 ⟨x,H1,I1,r1,q1⟩=>?_)
 obtain ⟨c,rfl,q1⟩:=q1
 cases r1
 exact not_of (wpAny_truthy_bool ⟨.bl (!c),H1,I1,rfl,q1⟩)
def tIf (t:TT) (ta tb:TE):TE:=fun σ H Q=>t σ H fun c H1=>if c=true then ta σ H1 Q else tb σ H1 Q
theorem pe_ifExp {c:Expr} (hc:PT X c tA) (ha:PE X a ta) (hb:PE X b tb):PE X (.IfExp c a b pos) (tIf tA ta tb):=by
 intro pins s σ H Q I h
 refine wpAny_IfExp (thn (hc pins s σ H _ I h) fun d s1 ⟨H1,I1,q1⟩=>?_)
 cases d with
 | true=>exact ha pins s1 σ H1 Q I1 q1
 | false=>exact hb pins s1 σ H1 Q I1 q1
end
end L2

namespace L2
open PySem PySem.Spec PyProof.Rows

def SqL (K:PySem.W.Frag) (H:Hp) (a:Addr) (xs:List V):Prop :=
 Rd H a (.lst xs) ∨
  ∃ (o:Obj) (its:Array Value) (n:Nat),K.lookup a=some o∧o.cls = .type "list"∧o.dict=none∧o.data = .seq its n∧its.size≤sizeLine∧Vals xs its.toList
def SqT (K:PySem.W.Frag) (H:Hp) (a:Addr) (xs:List V):Prop :=
 Rd H a (.tup xs) ∨
  ∃ (o:Obj) (its:Array Value) (n:Nat),K.lookup a=some o∧o.cls = .type "tuple"∧o.data = .seq its n∧its.size≤sizeLine∧Vals xs its.toList
def absV:Value→Option V
 | .none=>some .non
 | .bool b=>some (.bl b)
 | .int i _=>some (.int i)
 | .str x _=>some (.str x)
 | .bytes b _=>some (.byt b)
 | .float b _=>some (.flt b)
 | .ref a=>some (.ref a)
 | .type n=>some (.ty n)
 | _=>none
theorem RelV.abs {x:V}{u:Value} (r:RelV x u):absV u=some x:=by
 cases x with
 | non=>cases r;rfl
 | bl _=>cases r;rfl
 | int _=>obtain ⟨t,rfl⟩:=r;rfl
 | str _=>obtain ⟨t,rfl⟩:=r;rfl
 | byt _=>obtain ⟨t,rfl⟩:=r;rfl
 | flt _=>obtain ⟨t,rfl⟩:=r;rfl
 | ref _=>cases r;rfl
 | ty _=>cases r;rfl
theorem RelV.inj {x y:V}{u:Value} (r:RelV x u) (q:RelV y u):x=y:=Option.some.inj (r.abs.symm.trans q.abs)
theorem Vals.inj:∀ {xs ys:List V}{us:List Value},Vals xs us→Vals ys us→xs=ys
 | _,_,_,.nil,.nil=>rfl
 | _,_,_,.cons r t,.cons r' t'=>by rw [r.inj r',Vals.inj t t']
section
variable {X:Cx}{pins:List (Addr×Obj)}{σ:St}{H:Hp}{s:Shared}{a:Addr}{xs ys:List V}
theorem SqL.of {K:PySem.W.Frag} (h:H a=some (.lst xs)):SqL K H a xs:=.inl (.inl h)
theorem SqT.of {K:PySem.W.Frag} (h:H a=some (.tup xs)):SqT K H a xs:=.inl (.inl h)
theorem Inv.list (I:Inv X pins σ H s) (h:SqL X.K H a xs):∃ its:List Value,Vals xs its∧PlainL s.heap a its.toArray∧xs.length≤sizeLine:=by
 rcases h with h | ⟨o,its,n,hk,hc,hd,hs,hz,r⟩
 ·obtain ⟨z,its,n,r,e⟩:=h.ok I.hok
  exact ⟨its,r,⟨_,n,e,rfl,rfl,rfl⟩,z⟩
 ·refine ⟨its.toList,r,⟨o,n,I.kIn a o hk,hc,hd,by simpa using hs⟩,?_⟩
  have e:=r.length
  simp only [Array.length_toList] at e
  omega
theorem Inv.tuple (I:Inv X pins σ H s) (h:SqT X.K H a xs):∃ its:List Value,Vals xs its∧IsTup s.heap a its.toArray∧xs.length≤sizeLine:=by
 rcases h with h | ⟨o,its,n,hk,hc,hs,hz,r⟩
 ·obtain ⟨z,its,r,p⟩:=h.ok I.hok
  exact ⟨its,r,p,z⟩
 ·refine ⟨its.toList,r,⟨o,I.kIn a o hk,hc,n,by simpa using hs⟩,?_⟩
  have e:=r.length
  simp only [Array.length_toList] at e
  omega
theorem Inv.list_inj (I:Inv X pins σ H s) (h:SqL X.K H a xs) (h':SqL X.K H a ys):xs=ys:=by
 obtain ⟨its,r,⟨o,n,e,_,_,d⟩,_⟩:=I.list h
 obtain ⟨its',r',⟨o',n',e',_,_,d'⟩,_⟩:=I.list h'
 rw [e] at e';cases e'
 rw [d] at d'
 injection d' with d1 _
 have:its=its':=by simpa using congrArg Array.toList d1
 subst this
 exact r.inj r'
end

abbrev Cx.wish (X:Cx) (E:Value→Shared→Prop):Cx:={ X with xe:=E }
abbrev Cx.nox (X:Cx):Cx:=X.wish fun _ _=>False
theorem Cx.Ok.wish {X:Cx} (ok:X.Ok) (E:Value→Shared→Prop):(X.wish E).Ok :=
 ⟨ok.mod,ok.kind,ok.glob,ok.blt,ok.above,ok.inj,ok.has,ok.cab,ok.hd,ok.frames,ok.stk,ok.exf,ok.bs,ok.bsz,ok.noex,ok.exfs,ok.funs,ok.frf⟩
theorem Cx.Ok.unwish {X:Cx}{E:Value→Shared→Prop} (ok:(X.wish E).Ok):X.Ok :=
 ⟨ok.mod,ok.kind,ok.glob,ok.blt,ok.above,ok.inj,ok.has,ok.cab,ok.hd,ok.frames,ok.stk,ok.exf,ok.bs,ok.bsz,ok.noex,ok.exfs,ok.funs,ok.frf⟩
section
variable {X:Cx}{pins:List (Addr×Obj)}{σ:St}{H:Hp}{s:Shared}{E:Value→Shared→Prop}
theorem Inv.wish (I:Inv X pins σ H s) (E:Value→Shared→Prop):Inv (X.wish E) pins σ H s:=⟨I.ok.wish E,I.os,I.bare,I.base,I.loc,I.cell,I.free,I.freeC,I.pin,I.hok,I.len⟩
theorem Inv.unwish (I:Inv (X.wish E) pins σ H s):Inv X pins σ H s:=⟨I.ok.unwish,I.os,I.bare,I.base,I.loc,I.cell,I.free,I.freeC,I.pin,I.hok,I.len⟩
theorem SP.unwish {D:Ends}{f:Flow}{s':Shared} (h:SP (X.wish E) pins D f s'):SP X pins D f s':=by
 cases f with
 | next=>obtain ⟨σ',H',I,q⟩:=h;exact ⟨σ',H',I.unwish,q⟩
 | brk=>obtain ⟨σ',H',I,q⟩:=h;exact ⟨σ',H',I.unwish,q⟩
 | cont=>obtain ⟨σ',H',I,q⟩:=h;exact ⟨σ',H',I.unwish,q⟩
 | ret u=>obtain ⟨v,σ',H',I,r,q⟩:=h;exact ⟨v,σ',H',I.unwish,r,q⟩
theorem PSs.nox {st:List Stmt}{t:TS} (h:PSs X.nox st t):PSs X st t:=fun pins s σ H D I hw =>
 wpAny_mono (h pins s σ H D (I.wish _) hw) (fun _ _ q=>q.unwish) fun _ _ z=>False.elim z
end

section
variable {X:Cx}{st:Stmt}{rest:List Stmt}{t u:TS}{e:Expr}{te:TE}{pos:Pos}
def tNext:TS:=fun D σ H=>D.nx σ H
def tSeq (t u:TS):TS:=fun D σ H=>t { D with nx:=u D } σ H
theorem pss_nil:PSs X [] tNext:=fun _ _ σ H _ I h=>wpAny_execs_nil ⟨σ,H,I,h⟩
theorem pss_cons (h1:PS X st t) (h2:PSs X rest u):PSs X (st::rest) (tSeq t u):=by
 intro pins s σ H D I h
 refine wpAny_execs_cons (thn (h1 pins s σ H { D with nx:=u D } I h) fun f s1 q=>?_)
 cases f with
 | next =>
  obtain ⟨σ',H',I',q⟩:=q
  exact h2 pins s1 σ' H' D I' q
 | ret v=>exact q
 | brk=>exact q
 | cont=>exact q
theorem pss_one (h1:PS X st t):PSs X [st] t:=by
 intro pins s σ H D I h
 refine wpAny_execs_cons (thn (h1 pins s σ H D I h) fun f s1 q=>?_)
 cases f with
 | next=>exact wpAny_execs_nil q
 | ret v=>exact q
 | brk=>exact q
 | cont=>exact q
theorem ps_pass:PS X (.Pass pos) tNext:=fun _ _ σ H _ I h=>wpAny_Pass ⟨σ,H,I,h⟩
theorem Inv.quiet {pins:List (Addr×Obj)}{σ:St}{H:Hp}{s:Shared} (I:Inv X pins σ H s):interactive X.env=false:=by simp [interactive,I.ok.kind]
def tDrop (te:TE):TS:=fun D σ H=>te σ H fun _ H1=>D.nx σ H1
theorem ps_expr (he:PE X e te) (hs:swapsWith e none pos.line X.env=pure false:=by rfl):PS X (.Expr e pos) (tDrop te):=by
 intro pins s σ H D I h
 exact wpAny_Expr_any (thn (he pins s σ H _ I h) fun v s1 ⟨x,H1,I1,r1,q1⟩=>⟨σ,H1,I1,q1⟩) I.quiet hs
def tRet (te:TE):TS:=fun D σ H=>te σ H D.rt
theorem ps_ret (he:PE X e te):PS X (.Return (some e) pos) (tRet te):=by
 intro pins s σ H D I h
 exact wpAny_Return_some (thn (he pins s σ H _ I h) fun v s1 ⟨x,H1,I1,r1,q1⟩=>⟨x,σ,H1,I1,r1,q1⟩)
def tRetN:TS:=fun D _ H=>D.rt .non H
theorem ps_retN:PS X (.Return none pos) tRetN:=fun _ _ σ H _ I h=>wpAny_Return_none ⟨.non,σ,H,I,rfl,h⟩
def tIfS (c:TT) (t u:TS):TS:=fun D σ H=>c σ H fun b H1=>if b=true then t D σ H1 else u D σ H1
theorem ps_if {c:Expr}{a b:List Stmt}{tc:TT} (hc:PT X c tc) (ha:PSs X a t) (hb:PSs X b u):PS X (.If c a b pos) (tIfS tc t u):=by
 intro pins s σ H D I h
 refine wpAny_If (thn (hc pins s σ H _ I h) fun d s1 ⟨H1,I1,q1⟩=>?_)
 cases d with
 | true=>exact ha pins s1 σ H1 D I1 q1
 | false=>exact hb pins s1 σ H1 D I1 q1
end

abbrev TG:=V→St→Hp→(St→Hp→Prop)→Prop
abbrev TGs:=List V→St→Hp→(St→Hp→Prop)→Prop
def PG (X:Cx) (target:Expr) (t:TG):Prop :=
 ∀ (pins:List (Addr×Obj)) (s:Shared) (σ:St) (H:Hp) (v:V) (u:Value) (Q:St→Hp→Prop),Inv X pins σ H s→RelV v u→t v σ H Q →
  wpAny (model X.prog X.w) X.A (assign target X.env u) (fun _ s'=>∃ σ' H',Inv X pins σ' H' s'∧Q σ' H') X.xe s
def PGs (X:Cx) (ts:List Expr) (t:TGs):Prop :=
 ∀ (pins:List (Addr×Obj)) (s:Shared) (σ:St) (H:Hp) (vs:List V) (us:List Value) (Q:St→Hp→Prop),Inv X pins σ H s→Vals vs us→t vs σ H Q →
  wpAny (model X.prog X.w) X.A (assignInOrder ((assignEach ts X.env).map (·.2)) us) (fun _ s'=>∃ σ' H',Inv X pins σ' H' s'∧Q σ' H') X.xe s
abbrev TSet:=V→V→V→Hp→(Hp→Prop)→Prop
def PSet (X:Cx) (t:TSet):Prop :=
 ∀ (pins:List (Addr×Obj)) (s:Shared) (σ:St) (H:Hp) (o i v:V) (ov iv u:Value) (Q:Hp→Prop),Inv X pins σ H s→RelV o ov→RelV i iv→RelV v u→t o i v H Q →
  wpAny (model X.prog X.w) X.A (setItem ov iv u) (fun _ s'=>∃ H',Inv X pins σ H' s'∧Q H') X.xe s
abbrev TIp:=V→V→Hp→VK→Prop
def PIp (X:Cx) (op:Operator) (t:TIp):Prop :=
 ∀ (pins:List (Addr×Obj)) (s:Shared) (σ:St) (H:Hp) (x y:V) (v u:Value) (Q:VK),Inv X pins σ H s→RelV x v→RelV y u→t x y H Q →
  wpAny (model X.prog X.w) X.A (inplaceOp op v u) (EP X pins σ Q) X.xe s
section
variable {X:Cx}{pos:Pos}
def gName (i:Nat):TG:=fun v σ H Q=>Q (σ.set i (some v)) H
theorem pg_name {i:Nat}{x:Str} (hN:X.N.Nodup) (hi:X.N[i]? = some x) (hx:Loc X.env.scope x) (hf:X.fn x=true∨X.env.scope.names.lookup x=some .local:=by first | exact .inl rfl | exact .inr rfl | assumption):PG X (.Name x pos) (gName i):=by
 intro pins s σ H v u Q I r h
 exact wpAny_assign_Name (store_ok I hN hi hx r (fun s' I'=>⟨_,H,I',h⟩) hf)
def gNil:TGs:=fun vs σ H Q=>vs = []∧Q σ H
def gCons (t:TG) (u:TGs):TGs:=fun vs σ H Q=>∃ v r,vs=v::r∧t v σ H fun σ' H'=>u r σ' H' Q
theorem pgs_nil:PGs X [] gNil:=by
 intro pins s σ H vs us Q I r h
 obtain ⟨e,h⟩:=h
 subst e
 cases r
 exact assignInOrder_nil ⟨σ,H,I,h⟩
theorem pgs_cons {e:Expr}{es:List Expr}{t:TG}{u:TGs} (h1:PG X e t) (h2:PGs X es u)
  (hs:(assignEach (e::es) X.env).map (·.2)=assign e X.env::(assignEach es X.env).map (·.2):=by rfl):PGs X (e::es) (gCons t u):=by
 intro pins s σ H vs us Q I r h
 obtain ⟨v,vr,e1,h⟩:=h
 subst e1
 cases r with
 | cons r rr =>
  rw [hs]
  refine assignInOrder_cons (thn (h1 pins s σ H _ _ _ I r h) fun _ s1 ⟨σ1,H1,I1,q1⟩=>?_)
  exact h2 pins s1 σ1 H1 _ _ Q I1 rr q1
def gTup (K:PySem.W.Frag) (n:Nat) (t:TGs):TG:=fun v σ H Q=>∃ a xs,v = .ref a∧SqT K H a xs∧xs.length=n∧t xs σ H Q
theorem pg_tup {es:List Expr}{k:Nat}{t:TGs}{n:Nat} (hc:X.calm=true) (h:PGs X es t)
  (hn:(assignEach es X.env).length=n:=by rfl) (hst:(assignEach es X.env).findIdx? (·.1)=none:=by rfl):PG X (.Tuple es k pos) (gTup X.K n t):=by
 intro pins s σ H v u Q I r hw
 obtain ⟨a,xs,e1,hq,hl,hw⟩:=hw
 subst e1
 cases r
 obtain ⟨its,rv,ht,hz⟩:=I.tuple hq
 refine assign_Tuple_tuple (I.ok.hd hc) ht (by simp [hn,←hl,rv.length]) hst fun h' hx=>?_
 have I1:Inv X pins σ H { s with heap:=h' }:=I.kept (t':=s.toks) fun b o e=>hx b o (Nat.ne_of_lt (Heap.lt_size e)) e
 exact h pins _ σ H xs _ Q I1 (by simpa using rv) hw
def gSub (to ti:TE) (t:TSet):TG:=fun v σ H Q=>to σ H fun o H1=>ti σ H1 fun i H2=>t o i v H2 fun H3=>Q σ H3
theorem pg_sub {o i:Expr}{to ti:TE}{t:TSet} (ho:PE X o to) (hi:PE X i ti) (hs:PSet X t)
  (ha:∀ v,assign (.Subscript o i pos) X.env v=(do
   let ov ← holding [v] (eval o X.env)
   let iv ← holding [v,ov] (eval i X.env)
   standAt pos
   holding [v,ov,iv] (setItem ov iv v)
   release [v,ov,iv] []):=by intro _;rfl):PG X (.Subscript o i pos) (gSub to ti t):=by
 intro pins s σ H v u Q I r h
 rw [ha]
 refine wpAny_bind (wpAny_holding (thn (ho pins s σ H _ I h) fun ov s1 ⟨x,H1,I1,r1,q1⟩=>?_))
 refine wpAny_bind (wpAny_holding (thn (hi pins s1 σ H1 _ I1 q1) fun iv s2 ⟨y,H2,I2,r2,q2⟩=>?_))
 refine wpAny_bind (wpAny_standAt (wpAny_bind (wpAny_holding (thn (hs pins s2 σ H2 x y v ov iv u _ I2 r1 r2 r q2) fun _ s3 ⟨H3,I3,q3⟩=>?_))))
 exact wpAny_release ⟨σ,H3,I3,q3⟩
def tAsg (te:TE) (g:TG):TS:=fun D σ H=>te σ H fun x H1=>g x σ H1 D.nx
theorem ps_asg {tg e:Expr}{te:TE}{g:TG} (he:PE X e te) (hg:PG X tg g) (hs:swapsWithSole [tg] e pos.line X.env=pure false:=by rfl) (hw:swappedStores [tg] e X.env=pure none:=by rfl)
  (h1:(assignEach [tg] X.env).map (·.2) = [assign tg X.env]:=by rfl):PS X (.Assign [tg] e pos) (tAsg te g):=by
 intro pins s σ H D I h
 refine wpAny_Assign_stores (thn (he pins s σ H _ I h) fun v s1 ⟨x,H1,I1,r1,q1⟩=>?_) hs hw
 rw [h1]
 exact thn (hg pins s1 σ H1 x v _ I1 r1 q1) fun _ s2 q=>q
theorem ps_set {i:Nat}{x:Str}{e:Expr}{te:TE}{pos':Pos} (hN:X.N.Nodup) (hi:X.N[i]? = some x) (hx:Loc X.env.scope x) (he:PE X e te) (hs:swapsWith e (some (.Name x pos')) pos.line X.env=pure false:=by rfl) (hf:X.fn x=true∨X.env.scope.names.lookup x=some .local:=by first | exact .inl rfl | exact .inr rfl | assumption) :
  PS X (.Assign [.Name x pos'] e pos) (tAsg te (gName i)):=by
 intro pins s σ H D I h
 refine wpAny_Assign_Name (thn (he pins s σ H _ I h) fun v s1 ⟨y,H1,I1,r1,q1⟩=>?_) hs
 exact store_ok I1 hN hi hx r1 (fun s2 I2=>⟨_,H1,I2,q1⟩) hf
def tAugS (to ti te:TE) (tget:V→V→Hp→VK→Prop) (tip:TIp) (tset:TSet):TS:=fun D σ H=>to σ H fun o H1=>ti σ H1 fun i H2=>tget o i H2 fun x H3=>te σ H3 fun y H4=>tip x y H4 fun z H5=>tset o i z H5 fun H6=>D.nx σ H6
def PGet (X:Cx) (t:V→V→Hp→VK→Prop):Prop :=
 ∀ (pins:List (Addr×Obj)) (s:Shared) (σ:St) (H:Hp) (o i:V) (ov iv:Value) (Q:VK),Inv X pins σ H s→RelV o ov→RelV i iv→t o i H Q →
  wpAny (model X.prog X.w) X.A (getItem ov iv) (EP X pins σ Q) X.xe s
theorem ps_augS {o i e:Expr}{to ti te:TE}{tget:V→V→Hp→VK→Prop}{tip:TIp}{tset:TSet}{op:Operator}{tpos:Pos} (ho:PE X o to) (hi:PE X i ti) (hg:PGet X tget) (he:PE X e te) (hp:PIp X op tip) (hs:PSet X tset)
  (ha:∀ ov iv new,augStore i ov iv new=(do holding [new,ov,iv] (setItem ov iv new);release [new,ov,iv] [];pure .next):=by intros;rfl):PS X (.AugAssign (.Subscript o i tpos) op e pos) (tAugS to ti te tget tip tset):=by
 intro pins s σ H D I h
 refine wpAny_AugAssign_SubscriptAny (thn (ho pins s σ H _ I h) fun ov s1 ⟨x1,H1,I1,r1,q1⟩=>?_) ha
 refine thn (hi pins s1 σ H1 _ I1 q1) fun iv s2 ⟨x2,H2,I2,r2,q2⟩=>?_
 refine thn (hg pins s2 σ H2 x1 x2 ov iv _ I2 r1 r2 q2) fun old s3 ⟨x3,H3,I3,r3,q3⟩=>?_
 refine thn (he pins s3 σ H3 _ I3 q3) fun v s4 ⟨x4,H4,I4,r4,q4⟩=>?_
 refine thn (hp pins s4 σ H4 x3 x4 old v _ I4 r3 r4 q4) fun new s5 ⟨x5,H5,I5,r5,q5⟩=>?_
 exact thn (hs pins s5 σ H5 x1 x2 x5 ov iv new _ I5 r1 r2 r5 q5) fun _ s6 ⟨H6,I6,q6⟩=>⟨σ,H6,I6,q6⟩
def ipI (f:Int→Int→Int):TIp:=fun x y H Q=>∃ i j,x = .int i∧y = .int j∧Q (.int (f i j)) H
theorem ip_add:PIp X .Add (ipI fun i j=>i+j):=by
 intro pins s σ H x y v u Q I r1 r2 h
 obtain ⟨i,j,e1,e2,q⟩:=h
 subst e1;subst e2
 obtain ⟨t,rfl⟩:=r1
 obtain ⟨t',rfl⟩:=r2
 exact iadd_int ⟨.int _,H,I.tok _,⟨_,rfl⟩,q⟩
end

section
variable {X:Cx}{pos:Pos}
def tWhile (c:TT) (tb:TS):TS:=fun D σ H=>∃ W:Nat→St→Hp→Prop,(∃ m,W m σ H)∧∀ m σ H,W m σ H →
 c σ H fun b H1=>if b=true then ∃ N:St→Hp→Prop,(∀ σ' H',N σ' H'→∃ m',m' < m∧W m' σ' H')∧tb { D with nx:=N,ct:=N,bk:=D.nx } σ H1 else D.nx σ H1
theorem ps_while {c:Expr}{body:List Stmt}{tc:TT}{tb:TS} (hp:PassesOwn (model X.prog X.w) X.A X.env X.xe) (hc:PT X c tc) (hb:PSs X body tb):PS X (.While c body [] pos) (tWhile tc tb):=by
 intro pins s σ H D I h
 obtain ⟨W,⟨m0,w0⟩,turn⟩:=h
 refine wpAny_While (codeAny_whileLoop (fun n s'=>∃ σ' H',Inv X pins σ' H' s'∧W n σ' H') ?_ m0 ⟨σ,H,I,w0⟩)
 rintro n s1 ⟨σ1,H1,I1,w1⟩
 refine wpAny_passesOwn hp (thn (hc pins s1 σ1 H1 _ I1 (turn n σ1 H1 w1)) fun b s2 ⟨H2,I2,q2⟩=>?_)
 cases b with
 | true =>
  obtain ⟨N,hN,q2⟩:=q2
  rw [if_pos rfl]
  refine wpAny_passesOwn hp (thn (hb pins s2 σ1 H2 _ I2 q2) fun f s3 q3=>?_)
  cases f with
  | next =>
   obtain ⟨σ3,H3,I3,n3⟩:=q3
   obtain ⟨m',hm,w3⟩:=hN σ3 H3 n3
   exact ⟨m',hm,σ3,H3,I3,w3⟩
  | cont =>
   obtain ⟨σ3,H3,I3,n3⟩:=q3
   obtain ⟨m',hm,w3⟩:=hN σ3 H3 n3
   exact ⟨m',hm,σ3,H3,I3,w3⟩
  | brk=>exact q3
  | ret v=>exact q3
 | false =>
  rw [if_neg Bool.false_ne_true]
  exact wpAny_execs_nil ⟨σ1,H2,I2,q2⟩
end

structure It where
 go:Nat→Hp→Prop
 yld:Nat→Hp→V→Hp→Prop
 stop:Nat→Hp→Prop
def FpOk (X:Cx) (pins:List (Addr×Obj)) (H:Hp) (b:Addr):Prop :=
 H b=none∧b≠X.env.locals∧b ∉ X.fs∧(b∈X.ex∨X.s₀.heap.objs.size≤b)∧(∀ x c,X.env.cells.lookup x=some c→c≠b)∧∀ p∈X.pn++pins,p.1≠b
theorem Inv.fpOk {X:Cx}{pins:List (Addr×Obj)}{σ:St}{H H':Hp}{s:Shared}{b:Addr} (I:Inv X pins σ H s) (hb:s.heap.objs.size≤b) (hn:H' b=none):FpOk X pins H' b:=by
 refine ⟨hn,Nat.ne_of_gt (Nat.lt_of_lt_of_le I.lt hb),I.nofs hb,.inr (Nat.le_trans I.sz hb),fun x c e z=>?_,fun p hp z=>?_⟩
 ·obtain ⟨v,q⟩:=I.cell x c e
  exact absurd (Nat.lt_of_lt_of_le q.lt (by rw [z];exact hb)) (Nat.lt_irrefl _)
 ·exact absurd (Nat.lt_of_lt_of_le (Heap.lt_size (I.pin p hp).1) (by rw [z];exact hb)) (Nat.lt_irrefl _)
structure Turn (P:Program) (w:World) (K:PySem.W.Frag) (tg:Expr) (J:It) (fp:List Addr) (it:Addr) (tn:Nat→Heap→Prop):Prop where
 mem:it∈fp
 obj:∀ i h,tn i h→∀ b∈fp,∃ o,h.get? b=some o∧∀ v,o.data ≠ .cell v
 keep:∀ i h h',tn i h→(∀ b∈fp,∀ o,h.get? b=some o→h'.get? b=some o)→tn i h'
 item:∀ (X:Cx),X.prog=P→X.w=w→X.K=K→X.calm=true→∀ (i:Nat) (pins:List (Addr×Obj)) (s:Shared) (σ:St) (H:Hp) (E:Value→Shared→Prop),Inv X pins σ H s→(∀ b∈fp,FpOk X pins H b)→tn i s.heap→J.go i H →
  wpAny (model P w) X.A (pyNext (.ref it)) (fun r s1=>∃ u,r=some u ∧
   wpAny (model P w) X.A (letOwnedTupleGo tg (.ref it) u) (fun _ s2=>∃ x H',Inv X pins σ H' s2∧RelV x u∧J.yld i H x H'∧tn (i+1) s2.heap∧∀ b∈fp,H' b=none) E s1) E s
 done:∀ (X:Cx),X.prog=P→X.w=w→X.K=K→X.calm=true→∀ (i:Nat) (pins:List (Addr×Obj)) (s:Shared) (σ:St) (H:Hp) (E:Value→Shared→Prop),Inv X pins σ H s→(∀ b∈fp,FpOk X pins H b)→tn i s.heap→J.stop i H →
  wpAny (model P w) X.A (pyNext (.ref it)) (fun r s1=>r=none∧Inv X pins σ H s1) E s
 self:∀ (A:Around) (i:Nat) (s:Shared) (Q:Value→Shared→Prop) (E:Value→Shared→Prop),tn i s.heap→Q (.ref it) s→wpAny (model P w) A (pyIter (.ref it)) Q E s
abbrev TI:=St→Hp→(It→Hp→Prop)→Prop
def PIE (X:Cx) (pins:List (Addr×Obj)) (σ:St) (tg:Expr) (R:It→Hp→Prop) (itv:Value) (s2:Shared):Prop :=
 ∃ (it:Addr) (fp:List Addr) (tn:Nat→Heap→Prop) (J:It) (H':Hp),itv = .ref it∧Inv X pins σ H' s2∧Turn X.prog X.w X.K tg J fp it tn∧tn 0 s2.heap∧(∀ b∈fp,FpOk X pins H' b)∧R J H'
def PI (X:Cx) (tg iter:Expr) (wi:TI):Prop :=
 ∀ (pins:List (Addr×Obj)) (s:Shared) (σ:St) (H:Hp) (R:It→Hp→Prop),Inv X pins σ H s→wi σ H R →
  wpAny (model X.prog X.w) X.A (eval iter X.env) (fun v s1=>wpAny (model X.prog X.w) X.A (pyIter v) (PIE X pins σ tg R) X.xe s1) X.xe s

theorem go_of {M:Model}{A:Around}{E:Value→Shared→Prop}{s:Shared}{tg:Expr}{it:Addr}{u:Value}{o:Obj}{n:String}{vs:Array Value}{Q:Unit→Shared→Prop} (ho:s.heap.get? it=some o) (hc:o.cls = .type n) (hd:o.data = .fields vs)
  (hn:["enumerate","zip","dict_itemiterator","dict_reverseitemiterator","odict_iterator","itertools.zip_longest","itertools.pairwise"].contains n=false) (hQ:Q () s):wpAny M A (letOwnedTupleGo tg (.ref it) u) Q E s:=by
 unfold letOwnedTupleGo
 cases tg <;> first
  | exact wpAny_pure hQ
  | (cases u <;> first
    | exact wpAny_pure hQ
    | (refine wpAny_bind (wpAny_load ho ?_)
       rw [hc,hd]
       show wpAny M A (if (["enumerate","zip","dict_itemiterator","dict_reverseitemiterator","odict_iterator","itertools.zip_longest","itertools.pairwise"].contains n&&vs[0]? == some (rawInt _))=true then _ else _) Q E s
       rw [if_neg (by intro h;rw [hn,Bool.false_and] at h;cases h)]
       exact wpAny_pure hQ))

def Itl (K:PySem.W.Frag) (a:Addr):It :=
 ⟨fun i H=>∃ xs x,SqL K H a xs∧xs[i]? = some x,fun i H x H'=>H'=H∧∀ xs,SqL K H a xs→xs[i]? = some x,fun i H=>∃ xs,SqL K H a xs∧xs.length≤i⟩
def Itr (lo:Int) (n:Nat):It:=⟨fun i _=>i < n,fun i H x H'=>H'=H∧x = .int (lo+i),fun i _=>n≤i⟩
theorem turn_list {P:Program}{w:World}{K:PySem.W.Frag}{tg:Expr} (a it:Addr):Turn P w K tg (Itl K a) [it] it (fun i h=>h.IsListIter it a i) where
 mem:=by simp
 obj:=fun i h st b hb=>by
  have e:b=it:=by simpa using hb
  subst e
  obtain ⟨o,e,c,d⟩:=st
  exact ⟨o,e,fun v z=>by rw [d] at z;cases z⟩
 keep:=fun i h h' st k=>st.at fun o e=>k it (by simp) o e
 item:=by
  intro X hP hw hK hc i pins s σ H E I hf st hg
  subst hP hw hK
  obtain ⟨xs,x,hq,hx⟩:=hg
  obtain ⟨its,rv,p,hz⟩:=I.list hq
  obtain ⟨u,hu,ru⟩:=rv.get hx
  obtain ⟨f0,f1,f2,f3,f4,f5⟩:=hf it (by simp)
  refine wpAny_pyNext_list_item st p.isList (x:=u) (by simpa using hu) fun h' st' sb=>?_
  have I1:Inv X pins σ H { s with heap:=h' }:=I.turned (t':=s.toks) (fun b o hb e=>(sb.2 b hb).trans e) f0 f1 f3 f4 f5
  obtain ⟨o,e,c,d⟩:=id st'
  exact ⟨u,rfl,go_of (s:={ s with heap:=h' }) e c d (by decide) ⟨x,H,I1,ru,⟨rfl,fun ys hy=>by rw [I.list_inj hy hq];exact hx⟩,st',fun b hb=>(hf b hb).1⟩⟩
 done:=by
  intro X hP hw hK hc i pins s σ H E I hf st hg
  subst hP hw hK
  obtain ⟨xs,hq,hx⟩:=hg
  obtain ⟨its,rv,p,hz⟩:=I.list hq
  obtain ⟨f0,f1,f2,f3,f4,f5⟩:=hf it (by simp)
  have hl:=rv.length
  exact wpAny_pyNext_list_end (I.ok.hd hc) st p.isList (by simp;omega) fun h' eb=>⟨rfl,I.turned (t':=s.toks) (fun b o hb e=>eb b o hb e) f0 f1 f3 f4 f5⟩
 self:=fun _ _ _ _ _ st h=>wpAny_pyIter_listiter st h
theorem turn_range {P:Program}{w:World}{K:PySem.W.Frag}{tg:Expr} (it:Addr) (lo:Int) (n:Nat):Turn P w K tg (Itr lo n) [it] it (fun i h=>IsRangeIter h it (lo+(i:Nat)*1) ((n:Int)-(i:Nat)) 1) where
 mem:=by simp
 obj:=fun i h st b hb=>by
  have e:b=it:=by simpa using hb
  subst e
  exact ⟨_,st,fun v z=>by
   have z':Data.fields _=Data.cell v:=z
   cases z'⟩
 keep:=fun i h h' st k=>k it (by simp) _ st
 item:=by
  intro X hP hw hK hc i pins s σ H E I hf st hg
  subst hP hw hK
  obtain ⟨f0,f1,f2,f3,f4,f5⟩:=hf it (by simp)
  have W:=Walks.range (prog:=X.prog) (w:=X.w) (I.ok.hd hc) it lo 1 n
  refine W.item i s _ _ hg st fun v h' tk hv st' kk=>?_
  obtain ⟨t,rfl⟩:=hv
  have I1:Inv X pins σ H { s with heap:=h',toks:=tk }:=I.turned (fun b o hb e=>kk b o (by simpa using hb) e) f0 f1 f3 f4 f5
  refine ⟨_,rfl,go_of (s:={ s with heap:=h',toks:=tk }) (n:="range_iterator") st' rfl rfl (by decide) ⟨.int (lo+i),H,I1,⟨t,?_⟩,⟨rfl,rfl⟩,st',fun b hb=>(hf b hb).1⟩⟩
  rw [Int.mul_one]
 done:=by
  intro X hP hw hK hc i pins s σ H E I hf st hg
  subst hP hw hK
  obtain ⟨f0,f1,f2,f3,f4,f5⟩:=hf it (by simp)
  exact wpAny_pyNext_range_end (I.ok.hd hc) st (by have:n≤i:=hg;omega) fun h' eb=>⟨rfl,I.turned (t':=s.toks) (fun b o hb e=>eb b o hb e) f0 f1 f3 f4 f5⟩
 self:=fun _ _ _ _ _ st h=>wpAny_pyIter_rangeiter st h
end L2

namespace L2
open PySem PySem.Spec PyProof.Rows
section
variable {X:Cx}{tg:Expr}
def iList (K:PySem.W.Frag) (tl:TE):TI:=fun σ H R=>tl σ H fun x H1=>∃ a,x = .ref a∧(∃ xs,SqL K H1 a xs)∧R (Itl K a) H1
theorem pi_list {l:Expr}{tl:TE} (hl:PE X l tl):PI X tg l (iList X.K tl):=by
 intro pins s σ H R I h
 refine thn (hl pins s σ H _ I h) fun v s1 ⟨x,H1,I1,r1,q1⟩=>?_
 obtain ⟨a,e,⟨xs,hq⟩,q⟩:=q1
 subst e
 cases r1
 obtain ⟨its,rv,p,hz⟩:=I1.list hq
 refine wpAny_pyIter_list p.isList ?_
 refine ⟨s1.heap.objs.size,[s1.heap.objs.size],_,_,H1,rfl,I1.kept (t':=s1.toks) fun b o e=>Heap.get?_push_of_some _ e,turn_list a _,⟨_,Heap.get?_push_size _ rfl,rfl,rfl⟩,fun b hb=>?_,q⟩
 have e:b=s1.heap.objs.size:=by simpa using hb
 subst e
 exact I1.fpOk (Nat.le_refl _) (I1.hok.fresh (Nat.le_refl _))
theorem range_it {pins:List (Addr×Obj)}{σ:St}{H:Hp}{s:Shared}{R:It→Hp→Prop}{E:Value→Shared→Prop}{lo hi:Int}{t u v:Tok}{tk:Nat} (I:Inv X pins σ H s) (h1:-(2 ^ 62)≤lo) (h2:lo < 2 ^ 62) (h3:-(2 ^ 62)≤hi) (h4:hi < 2 ^ 62)
  (q:R (Itr lo (hi-lo).toNat) H):wpAny (model X.prog X.w) X.A (pyIter (.ref s.heap.objs.size)) (PIE X pins σ tg R) E { s with heap:=s.heap.push { cls:=.type "range",data:=.fields #[.int lo t,.int hi u,.int 1 v] },toks:=tk }:=by
 refine wpAny_pyIter_range (IsRange.new ..) (small_one h1 h2 h3 h4) ?_
 have I1:Inv X pins σ H { s with heap:=s.heap.push { cls:=.type "range",data:=.fields #[.int lo t,.int hi u,.int 1 v] },toks:=tk }:=I.kept fun b o e=>Heap.get?_push_of_some _ e
 refine ⟨(s.heap.push { cls:=.type "range",data:=.fields #[.int lo t,.int hi u,.int 1 v] }).objs.size,[(s.heap.push { cls:=.type "range",data:=.fields #[.int lo t,.int hi u,.int 1 v] }).objs.size],_,_,H,rfl,
  I1.kept (t':=tk) fun b o e=>Heap.get?_push_of_some _ e,turn_range _ lo (hi-lo).toNat,?_,fun b hb=>?_,q⟩
 ·have e1:lo+((0:Nat):Int)*1=lo:=by simp
  have e2:(((hi-lo).toNat:Nat):Int)-((0:Nat):Int)=Builtin.Range.rangeSize lo hi 1:=by rw [rangeSize_one];split <;> omega
  show IsRangeIter _ _ (lo+((0:Nat):Int)*1) ((((hi-lo).toNat:Nat):Int)-((0:Nat):Int)) 1
  rw [e1,e2]
  exact Heap.get?_push_size _ rfl
 ·have e:b=(s.heap.push { cls:=.type "range",data:=.fields #[.int lo t,.int hi u,.int 1 v] }).objs.size:=by simpa using hb
  subst e
  exact I1.fpOk (Nat.le_refl _) (I1.hok.fresh (Nat.le_refl _))
def iRng1 (ta:TA):TI:=fun σ H R=>ta σ H fun vs H1=>∃ j:Int,vs = [.int j]∧-(2 ^ 62)≤j∧j < 2 ^ 62∧R (Itr 0 j.toNat) H1
def iRng2 (ta:TA):TI:=fun σ H R=>ta σ H fun vs H1=>∃ i j:Int,vs = [.int i,.int j]∧(-(2 ^ 62)≤i∧i < 2 ^ 62∧-(2 ^ 62)≤j∧j < 2 ^ 62)∧R (Itr i (j-i).toNat) H1
theorem pi_range1 {a:Expr}{ta:TA}{p pos:Pos} (hg:Gl X "range") (hm:X.mg "range" = none) (ha:PA X [a] ta) (hs:starEach [a] X.env = [(false,eval a X.env)]:=by rfl):PI X tg (.Call (.Name "range" p) [a] [] pos) (iRng1 ta):=by
 intro pins s σ H R I h
 refine Call_ (ld_blt I hg hm boot_range (PyProof.Rows.callWith_type1 (thn (ha pos pins s σ H _ I h) fun us s1 ⟨vs,H1,I1,r1,q1⟩=>?_) hs rfl))
 obtain ⟨j,e,q1,q2,q⟩:=q1
 subst e
 cases r1 with
 | cons r rr =>
  cases rr
  obtain ⟨t,rfl⟩:=r
  exact call_range_1 (range_it I1 (by omega) (by omega) q1 q2 (by simpa using q))
theorem pi_range2 {a b:Expr}{ta:TA}{p pos:Pos} (hg:Gl X "range") (hm:X.mg "range" = none) (ha:PA X [a,b] ta) (hs:starEach [a,b] X.env = [(false,eval a X.env),(false,eval b X.env)]:=by rfl) (hs2:starEach [b] X.env = [(false,eval b X.env)]:=by rfl) :
  PI X tg (.Call (.Name "range" p) [a,b] [] pos) (iRng2 ta):=by
 intro pins s σ H R I h
 refine Call_ (ld_blt I hg hm boot_range (PyProof.Rows.callWith_type1 (thn (ha pos pins s σ H _ I h) fun us s1 ⟨vs,H1,I1,r1,q1⟩=>?_) (by rw [hs,hs2]) (by rw [hs2];rfl)))
 obtain ⟨i,j,e,⟨q1,q2,q3,q4⟩,q⟩:=q1
 subst e
 cases r1 with
 | cons r rr =>
  cases rr with
  | cons r' rr =>
   cases rr
   obtain ⟨t,rfl⟩:=r
   obtain ⟨t',rfl⟩:=r'
   exact call_range_2 (range_it I1 q1 q2 q3 q4 q)

def tFor (wi:TI) (g:TG) (tb:TS):TS:=fun D σ H=>wi σ H fun J H1=>∃ W:Nat→Nat→St→Hp→Prop,(∃ m,W 0 m σ H1)∧∀ i m σ H,W i m σ H →
 (J.stop i H∧D.nx σ H)∨(J.go i H∧∃ N:St→Hp→Prop,(∀ σ' H',N σ' H'→∃ m',m' < m∧W (i+1) m' σ' H')∧∀ x H',J.yld i H x H'→g x σ H' fun σ2 H2=>tb { D with nx:=N,ct:=N,bk:=D.nx } σ2 H2)
def pinsAt (fp:List Addr) (h:Heap):List (Addr×Obj):=fp.filterMap fun b=>(h.get? b).map fun o=>(b,o)
theorem mem_pinsAt {fp:List Addr}{h:Heap}{b:Addr}{o:Obj} (hb:b∈fp) (e:h.get? b=some o):(b,o)∈pinsAt fp h:=List.mem_filterMap.mpr ⟨b,hb,by rw [e];rfl⟩
theorem of_pinsAt {fp:List Addr}{h:Heap}{p:Addr×Obj} (hp:p∈pinsAt fp h):p.1∈fp∧h.get? p.1=some p.2:=by
 obtain ⟨b,hb,e⟩:=List.mem_filterMap.mp hp
 cases q:h.get? b with
 | none=>rw [q] at e;cases e
 | some o =>
  rw [q] at e
  have e':(b,o)=p:=Option.some.inj e
  subst e'
  exact ⟨hb,q⟩
theorem Inv.pinned {pins:List (Addr×Obj)}{σ:St}{H:Hp}{s:Shared}{fp:List Addr} (I:Inv X pins σ H s) (hf:∀ b∈fp,FpOk X pins H b) (ho:∀ b∈fp,∃ o,s.heap.get? b=some o∧∀ v,o.data ≠ .cell v):Inv X (pins++pinsAt fp s.heap) σ H s :=
 I.pins_of fun p hp=>(List.mem_append.mp hp).elim (fun z=>I.pin p (List.mem_append_right _ z)) fun z=>by
  obtain ⟨hb,e⟩:=of_pinsAt z
  obtain ⟨f0,f1,f2,_⟩:=hf p.1 hb
  obtain ⟨o,e',d⟩:=ho p.1 hb
  rw [e] at e';cases e'
  exact ⟨e,f0,f1,f2,d⟩
theorem Inv.unpinned {pins pl:List (Addr×Obj)}{σ:St}{H:Hp}{s:Shared} (I:Inv X (pins++pl) σ H s):Inv X pins σ H s:=I.pins_of fun p hp=>I.pin p (List.mem_append_right _ (List.mem_append_left _ hp))
theorem ps_for {iter:Expr}{body:List Stmt}{wi:TI}{g:TG}{tb:TS}{pos:Pos} (hp:PassesOwn (model X.prog X.w) X.A X.env X.xe) (hc:X.calm=true) (hi:PI X tg iter wi) (hg:PG X tg g) (hb:PSs X body tb)
  (hs:∀ x,foldedSetIterable iter X.env x=pure x:=by intro _;rfl):PS X (.For tg iter body [] pos) (tFor wi g tb):=by
 intro pins s σ H D I h
 refine wpAny_For (thn (hi pins s σ H _ I h) fun v s1 h1=>thn h1 fun itv s2 h2=>?_) hs
 obtain ⟨it,fp,tn,J,H2,e,I2,T,st2,f2,W,⟨m0,w0⟩,turn⟩:=h2
 subst e
 have stat:∀ {H':Hp},(∀ b∈fp,H' b=none)→∀ b∈fp,FpOk X pins H' b:=fun hn b hb=>⟨hn b hb,(f2 b hb).2⟩
 refine codeAny_forLoop_any (fun n s'=>∃ i σ' H',Inv X pins σ' H' s'∧tn i s'.heap∧(∀ b∈fp,H' b=none)∧W i n σ' H') ?_ m0 ⟨0,σ,H2,I2,st2,fun b hb=>(f2 b hb).1,w0⟩
 rintro n s3 ⟨i,σ3,H3,I3,st3,fr3,w3⟩
 rcases turn i n σ3 H3 w3 with ⟨stop,qn⟩ | ⟨go,N,hN,step⟩
 ·refine wpAny_passesOwn hp (thn (T.done X rfl rfl rfl hc i pins s3 σ3 H3 X.xe I3 (stat fr3) st3 stop) fun r s4 ⟨hr,I4⟩=>?_)
  subst hr
  exact wpAny_execs_nil ⟨σ3,H3,I4,qn⟩
 ·refine wpAny_passesOwn hp (thn (T.item X rfl rfl rfl hc i pins s3 σ3 H3 X.xe I3 (stat fr3) st3 go) fun r s4 ⟨u,hr,h4⟩=>?_)
  subst hr
  refine wpAny_passesOwn hp (thn h4 fun _ s5 ⟨x,H5,I5,r5,y5,st5,fr5⟩=>?_)
  have I5':=I5.pinned (stat fr5) (T.obj _ _ st5)
  refine wpAny_passesOwn hp (thn (hg _ s5 σ3 H5 x u _ I5' r5 (step x H5 y5)) fun _ s6 ⟨σ6,H6,I6,q6⟩=>?_)
  refine wpAny_passesOwn hp (thn (hb _ s6 σ6 H6 _ I6 q6) fun f s7 q7=>?_)
  have again:∀ {σ7:St}{H7:Hp},Inv X (pins++pinsAt fp s5.heap) σ7 H7 s7→N σ7 H7→∃ m,m < n∧∃ i σ' H',Inv X pins σ' H' s7∧tn i s7.heap∧(∀ b∈fp,H' b=none)∧W i m σ' H':=fun {σ7 H7} I7 n7=>by
   obtain ⟨m',hm,w7⟩:=hN σ7 H7 n7
   refine ⟨m',hm,i+1,σ7,H7,I7.unpinned,T.keep _ _ _ st5 fun b hb o e=>(I7.pin (b,o) (List.mem_append_right _ (List.mem_append_right _ (mem_pinsAt hb e)))).1,fun b hb=>?_,w7⟩
   obtain ⟨o,e,d⟩:=T.obj _ _ st5 b hb
   exact (I7.pin (b,o) (List.mem_append_right _ (List.mem_append_right _ (mem_pinsAt hb e)))).2.1
  cases f with
  | next=>obtain ⟨σ7,H7,I7,n7⟩:=q7;exact again I7 n7
  | cont=>obtain ⟨σ7,H7,I7,n7⟩:=q7;exact again I7 n7
  | brk=>obtain ⟨σ7,H7,I7,q7⟩:=q7;exact ⟨σ7,H7,I7.unpinned,q7⟩
  | ret v=>obtain ⟨x7,σ7,H7,I7,r7,q7⟩:=q7;exact ⟨x7,σ7,H7,I7.unpinned,r7,q7⟩
end

theorem for_list {K:PySem.W.Frag}{a:Addr}{xs:List V}{g:TG}{tb:TS}{D:Ends}{σ:St}{H:Hp} (Pv:Nat→St→Hp→Prop) (h0:Pv 0 σ H) (hl:∀ i σ H,i≤xs.length→Pv i σ H→SqL K H a xs)
  (hs:∀ i x σ H,xs[i]? = some x→Pv i σ H→g x σ H fun σ2 H2=>tb { D with nx:=Pv (i+1),ct:=Pv (i+1),bk:=D.nx } σ2 H2) (hd:∀ σ H,Pv xs.length σ H→D.nx σ H) :
  ∃ W:Nat→Nat→St→Hp→Prop,(∃ m,W 0 m σ H)∧∀ i m σ H,W i m σ H →
   ((Itl K a).stop i H∧D.nx σ H)∨((Itl K a).go i H∧∃ N:St→Hp→Prop,(∀ σ' H',N σ' H'→∃ m',m' < m∧W (i+1) m' σ' H')∧∀ x H',(Itl K a).yld i H x H'→g x σ H' fun σ2 H2=>tb { D with nx:=N,ct:=N,bk:=D.nx } σ2 H2):=by
 refine ⟨fun i m σ H=>m=xs.length-i∧i≤xs.length∧Pv i σ H,⟨xs.length,by simp,Nat.zero_le _,h0⟩,?_⟩
 rintro i m σ H ⟨rfl,hi,p⟩
 have q:=hl i σ H hi p
 by_cases hlt:i < xs.length
 ·refine .inr ⟨⟨xs,xs[i],q,by simp [hlt]⟩,Pv (i+1),fun σ' H' p'=>⟨xs.length-(i+1),by omega,rfl,hlt,p'⟩,fun x H' y=>?_⟩
  obtain ⟨e,y⟩:=y
  subst e
  exact hs i x σ _ (y xs q) p
 ·have e:i=xs.length:=by omega
  subst e
  exact .inl ⟨⟨xs,q,Nat.le_refl _⟩,hd σ H p⟩
theorem for_range {lo:Int}{n:Nat}{g:TG}{tb:TS}{D:Ends}{σ:St}{H:Hp} (Pv:Nat→St→Hp→Prop) (h0:Pv 0 σ H)
  (hs:∀ i σ H,i < n→Pv i σ H→g (.int (lo+i)) σ H fun σ2 H2=>tb { D with nx:=Pv (i+1),ct:=Pv (i+1),bk:=D.nx } σ2 H2) (hd:∀ σ H,Pv n σ H→D.nx σ H) :
  ∃ W:Nat→Nat→St→Hp→Prop,(∃ m,W 0 m σ H)∧∀ i m σ H,W i m σ H →
   ((Itr lo n).stop i H∧D.nx σ H)∨((Itr lo n).go i H∧∃ N:St→Hp→Prop,(∀ σ' H',N σ' H'→∃ m',m' < m∧W (i+1) m' σ' H')∧∀ x H',(Itr lo n).yld i H x H'→g x σ H' fun σ2 H2=>tb { D with nx:=N,ct:=N,bk:=D.nx } σ2 H2):=by
 refine ⟨fun i m σ H=>m=n-i∧i≤n∧Pv i σ H,⟨n,by simp,Nat.zero_le _,h0⟩,?_⟩
 rintro i m σ H ⟨rfl,hi,p⟩
 by_cases hlt:i < n
 ·refine .inr ⟨hlt,Pv (i+1),fun σ' H' p'=>⟨n-(i+1),by omega,rfl,hlt,p'⟩,fun x H' y=>?_⟩
  obtain ⟨e,y⟩:=y
  subst e y
  exact hs i σ _ hlt p
 ·have e:i=n:=by omega
  subst e
  exact .inl ⟨Nat.le_refl _,hd σ H p⟩
end L2

namespace L2
open PySem PySem.Spec PyProof.Rows

abbrev R2:=V→V→Hp→VK→Prop
def OpR (X:Cx) (f:Value→Value→Sem Value) (r:R2):Prop :=
 ∀ (pins:List (Addr×Obj)) (s:Shared) (σ:St) (H:Hp) (x y:V) (v u:Value) (Q:VK),Inv X pins σ H s→RelV x v→RelV y u→r x y H Q →
  wpAny (model X.prog X.w) X.A (f v u) (EP X pins σ Q) X.xe s
def UnR (X:Cx) (f:Value→Sem Value) (r:V→Hp→VK→Prop):Prop :=
 ∀ (pins:List (Addr×Obj)) (s:Shared) (σ:St) (H:Hp) (x:V) (v:Value) (Q:VK),Inv X pins σ H s→RelV x v→r x H Q →
  wpAny (model X.prog X.w) X.A (f v) (EP X pins σ Q) X.xe s
def CallR (X:Cx) (f:Value) (r:List V→Hp→VK→Prop):Prop :=
 ∀ (pins:List (Addr×Obj)) (s:Shared) (σ:St) (H:Hp) (xs:List V) (us:List Value) (Q:VK),Inv X pins σ H s→Vals xs us→r xs H Q →
  wpAny (model X.prog X.w) X.A (call f us) (EP X pins σ Q) X.xe s
def TruR (X:Cx) (r:V→Hp→(Bool→Hp→Prop)→Prop):Prop :=
 ∀ (pins:List (Addr×Obj)) (s:Shared) (σ:St) (H:Hp) (x:V) (v:Value) (Q:Bool→Hp→Prop),Inv X pins σ H s→RelV x v→r x H Q →
  wpAny (model X.prog X.w) X.A (truthy v) (TP X pins σ Q) X.xe s

def tOp (r:R2) (ta tb:TE):TE:=fun σ H Q=>ta σ H fun x H1=>tb σ H1 fun y H2=>r x y H2 Q
def tUn (r:V→Hp→VK→Prop) (ta:TE):TE:=fun σ H Q=>ta σ H fun x H1=>r x H1 Q
def rI (C:Int→Int→Prop) (g:Int→Int→V):R2:=fun x y H Q=>∃ i j,x = .int i∧y = .int j∧C i j∧Q (g i j) H
def rI0 (g:Int→Int→V):R2:=fun x y H Q=>∃ i j,x = .int i∧y = .int j∧Q (g i j) H
def rU (g:Int→V):V→Hp→VK→Prop:=fun x H Q=>∃ i,x = .int i∧Q (g i) H

section
variable {X:Cx}{a b c:Expr}{ta tb tc:TE}{pos:Pos}

theorem binT (ha:PE X a ta) (hb:PE X b tb) {pins:List (Addr×Obj)}{s:Shared}{σ:St}{H:Hp}{R:V→V→Hp→Prop} (I:Inv X pins σ H s)
  (h:ta σ H fun x H1=>tb σ H1 fun y H2=>R x y H2) {Q:Value→Shared→Prop}{f:Value→Value→Sem Value}
  (hf:∀ v u s2 x y H2,Inv X pins σ H2 s2→RelV x v→RelV y u→R x y H2→wpAny (model X.prog X.w) X.A (f v u) Q X.xe s2) :
  wpAny (model X.prog X.w) X.A (eval a X.env) (fun v s₁=>wpAny (model X.prog X.w) X.A (eval b X.env) (fun u s₂=>wpAny (model X.prog X.w) X.A (f v u) Q X.xe s₂) X.xe s₁) X.xe s:=by
 refine thn (ha pins s σ H _ I h) fun v s1 ⟨x,H1,I1,r1,q1⟩=>?_
 refine thn (hb pins s1 σ H1 _ I1 q1) fun u s2 ⟨y,H2,I2,r2,q2⟩=>?_
 exact hf v u s2 x y H2 I2 r1 r2 q2

theorem pe_op {op:Operator}{r:R2} (ho:OpR X (binaryOp op) r) (ha:PE X a ta) (hb:PE X b tb):PE X (.BinOp a op b pos) (tOp r ta tb):=by
 intro pins s σ H Q I h
 exact wpAny_BinOp (binT ha hb I h fun v u s2 x y H2 I2 rx ry q=>ho pins s2 σ H2 x y v u Q I2 rx ry q)
theorem pe_un {op:UnaryOp}{r:V→Hp→VK→Prop} (ho:UnR X (unaryOp op) r) (ha:PE X a ta):PE X (.UnaryOp op a pos) (tUn r ta):=by
 intro pins s σ H Q I h
 exact UnaryOp_ (thn (ha pins s σ H _ I h) fun v s1 ⟨x,H1,I1,r1,q1⟩=>ho pins s1 σ H1 x v Q I1 r1 q1)
theorem opI {f:Value→Value→Sem Value}{C:Int→Int→Prop}{g:Int→Int→Int}
  (rule:∀ (i j:Int) (t u:Tok) (s:Shared) (Q:Value→Shared→Prop) (E:Value→Shared→Prop),C i j→Q (.int (g i j) s.toks) { s with toks:=s.toks+1 }→wpAny (model X.prog X.w) X.A (f (.int i t) (.int j u)) Q E s) :
  OpR X f (rI C fun i j=>.int (g i j)):=by
 intro pins s σ H x y v u Q I rx ry h
 obtain ⟨i,j,rfl,rfl,hc,q⟩:=h
 obtain ⟨t,rfl⟩:=rx
 obtain ⟨t',rfl⟩:=ry
 exact rule i j t t' s _ _ hc ⟨.int (g i j),H,I.tok _,⟨_,rfl⟩,q⟩
theorem opI0 {f:Value→Value→Sem Value}{g:Int→Int→Int}
  (rule:∀ (i j:Int) (t u:Tok) (s:Shared) (Q:Value→Shared→Prop) (E:Value→Shared→Prop),Q (.int (g i j) s.toks) { s with toks:=s.toks+1 }→wpAny (model X.prog X.w) X.A (f (.int i t) (.int j u)) Q E s) :
  OpR X f (rI0 fun i j=>.int (g i j)):=by
 intro pins s σ H x y v u Q I rx ry h
 obtain ⟨i,j,rfl,rfl,q⟩:=h
 obtain ⟨t,rfl⟩:=rx
 obtain ⟨t',rfl⟩:=ry
 exact rule i j t t' s _ _ ⟨.int (g i j),H,I.tok _,⟨_,rfl⟩,q⟩
theorem opB0 {f:Value→Value→Sem Value}{g:Int→Int→Bool}
  (rule:∀ (i j:Int) (t u:Tok) (s:Shared) (Q:Value→Shared→Prop) (E:Value→Shared→Prop),Q (.bool (g i j)) s→wpAny (model X.prog X.w) X.A (f (.int i t) (.int j u)) Q E s) :
  OpR X f (rI0 fun i j=>.bl (g i j)):=by
 intro pins s σ H x y v u Q I rx ry h
 obtain ⟨i,j,rfl,rfl,q⟩:=h
 obtain ⟨t,rfl⟩:=rx
 obtain ⟨t',rfl⟩:=ry
 exact rule i j t t' s _ _ ⟨.bl (g i j),H,I,rfl,q⟩

def CDiv (i j:Int):Prop:=0 < j∧j < 1073741824
def CMul (i j:Int):Prop:=(-(2 ^ 64) < i∧i < 2 ^ 64)∨(-(2 ^ 64) < j∧j < 2 ^ 64)
theorem CMul.ok {i j:Int} (h:CMul i j):IntMulOk i j:=by
 rcases h with ⟨h1,h2⟩ | ⟨h1,h2⟩
 ·exact .of_left (intBits_le_64 h1 h2)
 ·exact .of_right (intBits_le_64 h1 h2)
theorem op_add:OpR X (binaryOp .Add) (rI0 fun i j=>.int (i+j)):=opI0 fun _ _ _ _ _ _ _ q=>add_int q
theorem op_sub:OpR X (binaryOp .Sub) (rI0 fun i j=>.int (i-j)):=opI0 fun _ _ _ _ _ _ _ q=>sub_int q
theorem op_mul:OpR X (binaryOp .Mult) (rI CMul fun i j=>.int (i*j)):=opI fun _ _ _ _ _ _ _ hc q=>mul_int q hc.ok
theorem op_fdiv:OpR X (binaryOp .FloorDiv) (rI CDiv fun i j=>.int (i / j)):=opI fun i j _ _ _ _ _ hc q=>by
 have h1:(0:Int) < j:=hc.1
 have h2:j < 1073741824:=hc.2
 exact floordiv_int (by omega) (by rw [Int.fdiv_eq_ediv_of_nonneg i (by omega)];exact q) (.inl (PyProof.noPylong_small (by omega)))
theorem op_mod:OpR X (binaryOp .Mod) (rI (fun _ j=>0 < j) fun i j=>.int (i % j)):=opI fun i j _ _ _ _ _ hc q=>by
 have h1:(0:Int) < j:=hc
 exact mod_int' (by omega) (by rw [Int.fmod_eq_emod_of_nonneg i (by omega)];exact q)
theorem unI {f:Value→Sem Value}{g:Int→Int}
  (rule:∀ (i:Int) (t:Tok) (s:Shared) (Q:Value→Shared→Prop) (E:Value→Shared→Prop),Q (.int (g i) s.toks) { s with toks:=s.toks+1 }→wpAny (model X.prog X.w) X.A (f (.int i t)) Q E s) :
  UnR X f (rU fun i=>.int (g i)):=by
 intro pins s σ H x v Q I rx h
 obtain ⟨i,rfl,q⟩:=h
 obtain ⟨t,rfl⟩:=rx
 exact rule i t s _ _ ⟨.int (g i),H,I.tok _,⟨_,rfl⟩,q⟩
theorem un_neg:UnR X (unaryOp .USub) (rU fun i=>.int (-i)):=unI fun _ _ _ _ _ q=>neg_int q
end

def scal:V→V→Bool
 | .non,.non=>true | .non,.int _=>true | .int _,.non=>true | .non,.bl _=>true | .bl _,.non=>true | .non,.str _=>true | .str _,.non=>true
 | .int _,.int _=>true | .bl _,.bl _=>true | .str _,.str _=>true | .byt _,.byt _=>true
 | .int _,.str _=>true | .str _,.int _=>true | .bl _,.str _=>true | .str _,.bl _=>true
 | _,_=>false
def rEq:R2:=fun x y H Q=>scal x y=true∧Q (.bl (decide (x=y))) H
def rNe:R2:=fun x y H Q=>scal x y=true∧Q (.bl (!decide (x=y))) H

theorem dec_int {i j:Int}:decide (V.int i=V.int j)=(i == j):=by
 rw [Bool.eq_iff_iff]
 simp
theorem dec_bl {i j:Bool}:decide (V.bl i=V.bl j)=(i == j):=by
 rw [Bool.eq_iff_iff]
 simp
theorem dec_str {i j:Str}:decide (V.str i=V.str j)=(i == j):=by
 rw [Bool.eq_iff_iff]
 simp
theorem dec_byt {i j:Array UInt8}:decide (V.byt i=V.byt j)=(i.toList == j.toList):=by
 rw [Bool.eq_iff_iff]
 cases i
 cases j
 simp

section
variable {X:Cx}{a b c:Expr}{ta tb tc:TE}{pos:Pos}
theorem fin_bl {pins:List (Addr×Obj)}{σ:St}{H:Hp}{s:Shared}{Q:VK}{k k':Bool} (I:Inv X pins σ H s) (q:Q (.bl k) H) (e:k=k'):EP X pins σ Q (.bool k') s:=by
 subst e
 exact ⟨.bl k,H,I,rfl,q⟩
theorem op_eq:OpR X (compareOp .Eq) rEq:=by
 intro pins s σ H x y v u Q I rx ry h
 obtain ⟨hs,q⟩:=h
 cases x with
 | non =>
  cases rx
  cases y with
  | non=>cases ry;exact PySem.EqNone.eq_none_none (fin_bl I q (by simp))
  | bl j=>cases ry;exact PySem.EqNone.eq_none_bool (fin_bl I q (by simp))
  | int j=>obtain ⟨t',rfl⟩:=ry;exact PySem.EqNone.eq_none_int (fin_bl I q (by simp))
  | str j=>obtain ⟨t',rfl⟩:=ry;exact PySem.EqNone.eq_none_str (fin_bl I q (by simp))
  | _=>exact absurd (show false=true from hs) Bool.false_ne_true
 | bl i =>
  cases rx
  cases y with
  | non=>cases ry;exact PySem.EqNone.eq_bool_none (fin_bl I q (by simp))
  | bl j=>cases ry;exact eq_bool (fin_bl I q dec_bl)
  | str j=>obtain ⟨t',rfl⟩:=ry;exact PySem.EqMixed.eq_bool_str (fin_bl I q (by simp))
  | _=>exact absurd (show false=true from hs) Bool.false_ne_true
 | int i =>
  obtain ⟨t,rfl⟩:=rx
  cases y with
  | non=>cases ry;exact PySem.EqNone.eq_int_none (fin_bl I q (by simp))
  | int j=>obtain ⟨t',rfl⟩:=ry;exact eq_int (fin_bl I q dec_int)
  | str j=>obtain ⟨t',rfl⟩:=ry;exact PySem.EqMixed.eq_int_str (fin_bl I q (by simp))
  | _=>exact absurd (show false=true from hs) Bool.false_ne_true
 | str i =>
  obtain ⟨t,rfl⟩:=rx
  cases y with
  | non=>cases ry;exact PySem.EqNone.eq_str_none (fin_bl I q (by simp))
  | bl j=>cases ry;exact PySem.EqMixed.eq_str_bool (fin_bl I q (by simp))
  | int j=>obtain ⟨t',rfl⟩:=ry;exact PySem.EqMixed.eq_str_int (fin_bl I q (by simp))
  | str j=>obtain ⟨t',rfl⟩:=ry;exact eq_str (fin_bl I q dec_str)
  | _=>exact absurd (show false=true from hs) Bool.false_ne_true
 | byt i =>
  obtain ⟨t,rfl⟩:=rx
  cases y with
  | byt j=>obtain ⟨t',rfl⟩:=ry;exact PySem.W.eq_bytes (fin_bl I q dec_byt)
  | _=>exact absurd (show false=true from hs) Bool.false_ne_true
 | _=>cases y <;> exact absurd (show false=true from hs) Bool.false_ne_true
theorem op_ne:OpR X (compareOp .NotEq) rNe:=by
 intro pins s σ H x y v u Q I rx ry h
 obtain ⟨hs,q⟩:=h
 cases x with
 | non =>
  cases rx
  cases y with
  | non=>cases ry;exact PySem.EqNone.ne_none_none (fin_bl I q (by simp))
  | bl j=>cases ry;exact PySem.EqNone.ne_none_bool (fin_bl I q (by simp))
  | int j=>obtain ⟨t',rfl⟩:=ry;exact PySem.EqNone.ne_none_int (fin_bl I q (by simp))
  | str j=>obtain ⟨t',rfl⟩:=ry;exact PySem.EqNone.ne_none_str (fin_bl I q (by simp))
  | _=>exact absurd (show false=true from hs) Bool.false_ne_true
 | bl i =>
  cases rx
  cases y with
  | non=>cases ry;exact PySem.EqNone.ne_bool_none (fin_bl I q (by simp))
  | bl j=>cases ry;exact ne_bool (fin_bl I q (congrArg not dec_bl))
  | str j=>obtain ⟨t',rfl⟩:=ry;exact PySem.EqMixed.ne_bool_str (fin_bl I q (by simp))
  | _=>exact absurd (show false=true from hs) Bool.false_ne_true
 | int i =>
  obtain ⟨t,rfl⟩:=rx
  cases y with
  | non=>cases ry;exact PySem.EqNone.ne_int_none (fin_bl I q (by simp))
  | int j=>obtain ⟨t',rfl⟩:=ry;exact ne_int (fin_bl I q (congrArg not dec_int))
  | str j=>obtain ⟨t',rfl⟩:=ry;exact PySem.EqMixed.ne_int_str (fin_bl I q (by simp))
  | _=>exact absurd (show false=true from hs) Bool.false_ne_true
 | str i =>
  obtain ⟨t,rfl⟩:=rx
  cases y with
  | non=>cases ry;exact PySem.EqNone.ne_str_none (fin_bl I q (by simp))
  | bl j=>cases ry;exact PySem.EqMixed.ne_str_bool (fin_bl I q (by simp))
  | int j=>obtain ⟨t',rfl⟩:=ry;exact PySem.EqMixed.ne_str_int (fin_bl I q (by simp))
  | str j=>obtain ⟨t',rfl⟩:=ry;exact ne_str (fin_bl I q (congrArg not dec_str))
  | _=>exact absurd (show false=true from hs) Bool.false_ne_true
 | byt i =>
  obtain ⟨t,rfl⟩:=rx
  cases y with
  | byt j=>obtain ⟨t',rfl⟩:=ry;exact PySem.W.ne_bytes (fin_bl I q (congrArg not dec_byt))
  | _=>exact absurd (show false=true from hs) Bool.false_ne_true
 | _=>cases y <;> exact absurd (show false=true from hs) Bool.false_ne_true

theorem op_lt:OpR X (compareOp .Lt) (rI0 fun i j=>.bl (decide (i < j))):=opB0 fun _ _ _ _ _ _ _ q=>lt_int q
theorem op_le:OpR X (compareOp .LtE) (rI0 fun i j=>.bl (decide (i≤j))):=opB0 fun _ _ _ _ _ _ _ q=>le_int q
theorem op_gt:OpR X (compareOp .Gt) (rI0 fun i j=>.bl (decide (j < i))):=opB0 fun _ _ _ _ _ _ _ q=>gt_int q
theorem op_ge:OpR X (compareOp .GtE) (rI0 fun i j=>.bl (decide (j≤i))):=opB0 fun _ _ _ _ _ _ _ q=>ge_int q
theorem op_isN:OpR X (compareOp .Is) (fun x y H Q=>y = .non∧Q (.bl (decide (x = .non))) H):=by
 intro pins s σ H x y v u Q I rx ry h
 obtain ⟨rfl,q⟩:=h
 cases ry
 refine is_none_gen (fin_bl I q ?_)
 cases x <;> first
  | (cases rx;rfl)
  | (obtain ⟨t,rfl⟩:=rx;rfl)
theorem op_notN:OpR X (compareOp .IsNot) (fun x y H Q=>y = .non∧Q (.bl (!decide (x = .non))) H):=by
 intro pins s σ H x y v u Q I rx ry h
 obtain ⟨rfl,q⟩:=h
 cases ry
 refine isnot_none_gen (fin_bl I q ?_)
 cases x <;> first
  | (cases rx;rfl)
  | (obtain ⟨t,rfl⟩:=rx;rfl)

theorem nomark (b:Expr) {op:CmpOp} (h:op ≠ .In:=by decide) (h2:op ≠ .NotIn:=by decide):behindInMarks op b=false:=by
 have e1:(op == CmpOp.In)=false:=by cases op <;> first | rfl | exact absurd rfl h
 have e2:(op == CmpOp.NotIn)=false:=by cases op <;> first | rfl | exact absurd rfl h2
 cases b <;> simp [behindInMarks,e1,e2]
theorem pe_cmpR {op:CmpOp}{r:R2} (ho:OpR X (compareOp op) r) (ha:PE X a ta) (hb:PE X b tb) (hm:behindInMarks op b=false):PE X (.Compare a [op] [b] pos) (tOp r ta tb):=by
 intro pins s σ H Q I h
 exact wpAny_Compare1 (binT ha hb I h fun v u s2 x y H2 I2 rx ry q=>ho pins s2 σ H2 x y v u Q I2 rx ry q) hm
def tTest (t:TE):TT:=fun σ H Q=>t σ H fun x H'=>∃ k,x = .bl k∧Q k H'
theorem pt_cmpR {op:CmpOp}{r:R2} (ho:OpR X (compareOp op) r) (ha:PE X a ta) (hb:PE X b tb) (hm:behindInMarks op b=false):PT X (.Compare a [op] [b] pos) (tTest (tOp r ta tb)):=by
 intro pins s σ H Q I h
 refine wpAny_isTrue_Compare1 (thn (ha pins s σ H _ I h) fun v s1 ⟨x,H1,I1,r1,q1⟩=>thn (hb pins s1 σ H1 _ I1 q1) fun u s2 ⟨y,H2,I2,r2,q2⟩ =>
  thn (ho pins s2 σ H2 x y v u _ I2 r1 r2 q2) fun c s3 ⟨z,H3,I3,r3,k,e,q3⟩=>?_) hm
 subst e
 cases r3
 exact wpAny_truthy_bool ⟨H3,I3,q3⟩
def TruV (K:PySem.W.Frag) (x:V) (H:Hp) (k:Bool):Prop :=
 match x with
 | .non=>k=false
 | .bl b=>k=b
 | .int i=>k=(i != 0)
 | .str y=>y.length≤sizeLine∧k=((y.length:Int) != 0)
 | .byt y=>y.size≤sizeLine∧k=((y.size:Int) != 0)
 | .ref p=>(∃ xs,SqL K H p xs∧k = !xs.isEmpty)∨(∃ xs,SqT K H p xs∧k = !xs.isEmpty)∨∃ kvs,H p=some (.dK kvs)∧k = !kvs.isEmpty
 | _=>False
theorem isEmpty_kv {κ:Type}{kvs:List (κ × V)}{vs:List (κ × Value)} (r:KV kvs vs):(!vs.isEmpty) = !kvs.isEmpty:=by
 cases r <;> rfl
theorem isEmpty_of {xs:List V}{its:List Value} (r:Vals xs its):(!its.toArray.isEmpty) = !xs.isEmpty:=by
 cases r <;> simp
theorem line63:(sizeLine:Nat) < 2 ^ 63:=by rw [sizeLine_eq];decide
theorem tru_ok:TruR X (fun x H Q=>∃ k,TruV X.K x H k∧Q k H):=by
 intro pins s σ H x v Q I rx h
 obtain ⟨k,e,q⟩:=h
 have hl:=line63
 have hs:sizeLine=16777216:=sizeLine_eq
 cases x with
 | non =>
  cases rx
  have e':k=false:=e
  subst e'
  exact truthy_none ⟨H,I,q⟩
 | bl b =>
  cases rx
  have e':k=b:=e
  subst e'
  exact wpAny_truthy_bool ⟨H,I,q⟩
 | int i =>
  obtain ⟨t,rfl⟩:=rx
  have e':k=(i != 0):=e
  subst e'
  exact PySem.P.truthy_int ⟨H,I,q⟩
 | str y =>
  obtain ⟨t,rfl⟩:=rx
  obtain ⟨hy,e'⟩:y.length≤sizeLine∧k=((y.length:Int) != 0):=e
  subst e'
  exact PySem.P.truthy_str (by omega) ⟨H,I.tok _,q⟩
 | byt y =>
  obtain ⟨t,rfl⟩:=rx
  obtain ⟨hy,e'⟩:y.size≤sizeLine∧k=((y.size:Int) != 0):=e
  subst e'
  exact PySem.W.truthy_bytes (by omega) ⟨H,I.tok _,q⟩
 | ref p =>
  cases rx
  have e':(∃ xs,SqL X.K H p xs∧k = !xs.isEmpty)∨(∃ xs,SqT X.K H p xs∧k = !xs.isEmpty)∨∃ kvs,H p=some (.dK kvs)∧k = !kvs.isEmpty:=e
  rcases e' with ⟨xs,hx,e'⟩ | ⟨xs,hx,e'⟩ | ⟨kvs,hx,e'⟩
  ·subst e'
   obtain ⟨its,r,pl,hz⟩:=I.list hx
   have hlen:=r.length
   exact wpAny_truthy_list pl.isList (by simp only [List.size_toArray];omega) ⟨H,I.tok _,by rw [isEmpty_of r];exact q⟩
  ·subst e'
   obtain ⟨its,r,pl,hz⟩:=I.tuple hx
   have hlen:=r.length
   exact truthy_tuple pl (by simp only [List.size_toArray];omega) ⟨H,I.tok _,by rw [isEmpty_of r];exact q⟩
  ·subst e'
   obtain ⟨hz,hS,vs,r,m⟩:kvs.length≤sizeLine∧(p == sysModules)=false∧∃ vs,KV kvs vs∧s.heap.DictOf (mixKind X.prog X.w) p vs:=I.hok p _ hx
   have hlen:kvs.length=vs.length:=Paired.length r
   exact wpAny_truthy_dict hS m (by omega) ⟨H,I.tok _,by rw [isEmpty_kv r];exact q⟩
 | _=>exact (show False from e).elim
theorem pt_truth (ha:PE X a ta) (he:∀ whole,isTrue a X.env whole=(do let v ← whole;standAt a.pos;holding [v] (truthy v))) :
  PT X a (fun σ H Q=>ta σ H fun x H'=>∃ k,TruV X.K x H' k∧Q k H'):=by
 intro pins s σ H Q I h
 exact isTrue_plain (thn (ha pins s σ H _ I h) fun v s1 ⟨x,H1,I1,r1,q1⟩=>tru_ok pins s1 σ H1 x v Q I1 r1 q1) (he _)

theorem vals1 {x:V}{us:List Value} (r:Vals [x] us):∃ u,us = [u]∧RelV x u:=by
 cases r with
 | cons r1 r2=>cases r2;exact ⟨_,rfl,r1⟩
theorem vals2 {x y:V}{us:List Value} (r:Vals [x,y] us):∃ u w',us = [u,w']∧RelV x u∧RelV y w':=by
 cases r with
 | cons r1 r2 =>
  cases r2 with
  | cons r3 r4=>cases r4;exact ⟨_,_,rfl,r1,r3⟩
end
end L2

namespace L2
open PySem PySem.Spec PyProof.Rows

structure ObjM (h:Heap) (x dx C:Addr) (mA:Str→Option Value):Prop where
 obj:h.get? x=some (PySem.W.instObj C dx)
 ns:h.Ns1 dx mA
 ne:dx≠x

theorem lookIn_ns {h:Heap}{dx:Addr}{mA:Str→Option Value} (n:h.Ns1 dx mA):∃ od,h.get? dx=some od∧∀ name,PySem.W.lookIn name od=some (mA name):=by
 obtain ⟨o,es,ep,ho,hd,hk,_,hm⟩:=n
 refine ⟨o,ho,fun name=>?_⟩
 have e:=hm name
 unfold nsFind findBy at e
 rw [←Array.find?_toList] at e
 unfold PySem.W.lookIn
 rw [hd]
 dsimp only
 split
 ·rename_i y q
  rw [q] at e
  exact congrArg some e
 ·rename_i q
  rw [q] at e
  have a:es.toList.any (·.refKey)=false:=by
   rw [List.any_eq_false]
   intro y hy
   obtain ⟨z,t,hkey⟩:=hk y (Array.mem_toList_iff.mp hy)
   simp [DictEntry.refKey,hkey]
  have a':¬ es.toList.any (·.refKey)=true:=by rw [a];exact Bool.false_ne_true
  rw [if_neg a']
  exact congrArg some e

theorem ObjM.look {h:Heap}{x dx C:Addr}{mA:Str→Option Value} (I:ObjM h x dx C mA):∃ od,PySem.W.InstAt h x (PySem.W.instObj C dx) C (some od)∧∀ name,PySem.W.lookIn name od=some (mA name) :=
 let ⟨od,ho,hl⟩:=lookIn_ns I.ns
 ⟨od,⟨I.obj,rfl,rfl,ho⟩,hl⟩

section
variable {prog:Program}{w:World}{A:Around}{E:Value→Shared→Prop}{s:Shared}{K:PySem.W.Frag}{x dx C f:Addr}{mA:Str→Option Value}{name:Str}{v:Value}

theorem get_map {expr:Bool}{Q:Value→Shared→Prop} (X:K.In s.heap) (I:ObjM s.heap x dx C mA) (hg:PySem.W.plainGet K C name=true) (hh:PySem.W.hasDictIn K C=true)
  (ha:PySem.W.findIn K (.ref C) name=some none) (hv:mA name=some v) (hv':PySem.W.handedIn v=true) (h:Q v { s with toks:=s.toks+1 }) :
  wpAny (model prog w) A (getAttr (.ref x) name expr) Q E s:=by
 obtain ⟨od,J,hl⟩:=I.look
 exact PySem.W.get_value X J (PySem.W.plainGet_of hg).1 (PySem.W.findObj_own hh ha rfl (by rw [hl,hv])) hv' h

theorem get_meth {pl:Sem Bool}{Q:Value×List Value→Shared→Prop} (X:K.In s.heap) (I:ObjM s.heap x dx C mA) (hg:PySem.W.plainGet K C name=true)
  (hf:PySem.W.findIn K (.ref C) name=some (some (.ref f))) (ht:PySem.W.isFn K (.ref f)=true) (hv:mA name=none) (h:Q (.ref f,[.ref x]) s) :
  wpAny (model prog w) A (getMethod (.ref x) name pl) Q E s:=by
 obtain ⟨od,J,hl⟩:=I.look
 exact PySem.W.method_fn X J (PySem.W.plainGet_of hg).1 (PySem.W.plainGet_of hg).2 hf (beq_iff_eq.mp ht) (by show (PySem.W.lookIn name od).map (·.isSome)=some false;rw [hl,hv];rfl) h

theorem set_map {ns:List Str}{Q:Unit→Shared→Prop} (X:K.In s.heap) (I:ObjM s.heap x dx C mA)
  (hs:PySem.W.findIn K (.ref C) "__setattr__" = some (some (.builtin "object.__setattr__"))) (hp:PySem.W.plainOver K C=true) (ht:PySem.W.takerIn K C name=some none) (hh:PySem.W.hasDictIn K C=true)
  (hw:PySem.Within mA ns) (hsz:ns.length≤sizeLine)
  (h:∀ h',ObjM h' x dx C (fun y=>if y=name then some v else mA y)→Heap.SameBut dx s.heap h'→Q () { s with heap:=h',toks:=s.toks+2 }) :
  wpAny (model prog w) A (setAttr (.ref x) name v) Q E s:=by
 obtain ⟨od,J,hl⟩:=I.look
 refine PySem.W.set_plain X J hs (PySem.W.osa_open (s:={ s with toks:=s.toks+1 }) (r:=none) X J hp ht fun b=>?_)
 obtain ⟨cd,hc,hd'⟩:=PySem.W.any_some hh
 have hx:s.heap.get? x=some ⟨.ref C,some dx,.plain,#[]⟩:=I.obj
 refine wpAny_bind (wpAny_pure (wpAny_bind (wpAny_bind (wpAny_loadPart hx (wpAny_bind (PySem.W.Looks.here (s:={ s with toks:=s.toks+1 }) (PySem.W.looks_clsIn X hc) ?_))))))
 rw [hd']
 refine wpAny_pure (a:=some dx) (wpAny_bind (wpAny_pure (wpAny_bind ?_)))
 refine wpAny_nsSet1 (s:={ s with toks:=s.toks+1 }) I.ns fun h' hn2 hs2=>?_
 obtain ⟨oD,esD,epD,hoD,hdD,hcD⟩:=hn2.count (PySem.Within.cons name v hw)
 refine wpAny_bind (wpAny_lookBehind hoD (by rw [hdD];exact pastItsLine_dict (Nat.le_trans hcD (by rw [List.length_cons];omega))) ?_)
 exact wpAny_pure (h _ ⟨(hs2.2 _ (Ne.symm I.ne)).trans I.obj,hn2,I.ne⟩ hs2)

theorem make_map {R:Result→Shared→Prop}{vs:List Value}{kw:List (Str×Value)} (X:K.In s.heap) (hm:PySem.W.makesIn K C=true)
  (hi:PySem.W.findIn K (.ref C) "__init__" = some (some (.ref f))) (hf:PySem.W.typeIn K (.ref f)=some (.type "function"))
  (h:codeAny (model prog w) (A.under (.builtin "type.__call__" ⟨.ref C::vs,kw⟩)) (.call (.ref f) ⟨.ref (s.heap.objs.size+1)::vs,kw⟩) (PySem.W.InitBack (s.heap.objs.size+1) R)
   { s with heap:=(s.heap.push PySem.W.emptyDict).push (PySem.W.instObj C s.heap.objs.size) }) :
  codeAny (model prog w) A (.call (.ref C) ⟨vs,kw⟩) R s:=by
 obtain ⟨hh,g,d,t,os⟩:=s
 exact PySem.W.make_core (PySem.W.makes_of X hm) (PySem.W.looks_findIn X hi) (fun self=>PySem.W.bind_fn X self hf) (.inl rfl) h
end

def putF (f:Str) (v:V):List (Str×V)→List (Str×V)
 | []=>[(f,v)]
 | (g,x)::r=>if g=f then (g,v)::r else (g,x)::putF f v r
theorem lookup_putF (f g:Str) (v:V):∀ fs:List (Str×V),(putF f v fs).lookup g=if g=f then some v else fs.lookup g
 | []=>by
  show List.lookup g [(f,v)] = _
  by_cases h:g=f
  ·have hb:(g == f)=true:=beq_iff_eq.mpr h
   simp only [List.lookup,hb,if_pos h]
  ·have hb:(g == f)=false:=beq_eq_false_iff_ne.mpr h
   simp only [List.lookup,hb,if_neg h]
 | (k,x)::r=>by
  have ih:=lookup_putF f g v r
  rw [show putF f v ((k,x)::r)=(if k=f then (k,v)::r else (k,x)::putF f v r) from rfl]
  by_cases hk:k=f
  ·rw [if_pos hk]
   by_cases h:g=k
   ·have hb:(g == k)=true:=beq_iff_eq.mpr h
    simp only [List.lookup,hb,if_pos (h.trans hk)]
   ·have hb:(g == k)=false:=beq_eq_false_iff_ne.mpr h
    simp only [List.lookup,hb,if_neg (fun e:g=f=>h (e.trans hk.symm))]
  ·rw [if_neg hk]
   by_cases h:g=k
   ·have hb:(g == k)=true:=beq_iff_eq.mpr h
    simp only [List.lookup,hb,if_neg (fun e:g=f=>hk (h.symm.trans e))]
   ·have hb:(g == k)=false:=beq_eq_false_iff_ne.mpr h
    simp only [List.lookup,hb]
    exact ih
theorem keys_putF (f:Str) (v:V):∀ fs:List (Str×V),f∈(putF f v fs).map (·.1)∧∀ g,g∈fs.map (·.1)→g∈(putF f v fs).map (·.1)
 | []=>⟨by simp [putF],fun g h=>by simp at h⟩
 | (k,x)::r=>by
  obtain ⟨i1,i2⟩:=keys_putF f v r
  rw [show putF f v ((k,x)::r)=(if k=f then (k,v)::r else (k,x)::putF f v r) from rfl]
  by_cases hk:k=f
  ·rw [if_pos hk]
   subst hk
   exact ⟨by simp,fun g h=>by simpa using h⟩
  ·rw [if_neg hk]
   refine ⟨?_,fun g h=>?_⟩
   ·rw [List.map_cons]
    exact List.mem_cons_of_mem _ i1
   ·rw [List.map_cons] at h ⊢
    rcases List.mem_cons.mp h with e | e
    ·exact List.mem_cons.mpr (.inl e)
    ·exact List.mem_cons_of_mem _ (i2 g e)
theorem length_putF (f:Str) (v:V):∀ fs:List (Str×V),(putF f v fs).length≤fs.length+1
 | []=>by simp [putF]
 | (k,x)::r=>by
  have ih:=length_putF f v r
  rw [show putF f v ((k,x)::r)=(if k=f then (k,v)::r else (k,x)::putF f v r) from rfl]
  by_cases hk:k=f
  ·rw [if_pos hk,List.length_cons,List.length_cons];omega
  ·rw [if_neg hk,List.length_cons,List.length_cons];omega

theorem RelO.some_of {v:V}{o:Option Value} (r:RelO (some v) o):∃ u,o=some u∧RelV v u:=by
 cases o with
 | none=>exact (show False from r).elim
 | some u=>exact ⟨u,rfl,r⟩
theorem RelO.none_of {o:Option Value} (r:RelO none o):o=none:=by
 cases o with
 | none=>rfl
 | some u=>exact (show False from r).elim
theorem handed_of {v:V}{u:Value} (r:RelV v u):PySem.W.handedIn u=true:=by
 cases v with
 | non=>cases (show u=Value.none from r);rfl
 | bl b=>cases (show u=Value.bool b from r);rfl
 | int i=>obtain ⟨t,e⟩:=(show ∃ t,u=Value.int i t from r);cases e;rfl
 | str x=>obtain ⟨t,e⟩:=(show ∃ t,u=Value.str x t from r);cases e;rfl
 | byt b=>obtain ⟨t,e⟩:=(show ∃ t,u=Value.bytes b t from r);cases e;rfl
 | flt b=>obtain ⟨t,e⟩:=(show ∃ t,u=Value.float b t from r);cases e;rfl
 | ref a=>cases (show u=Value.ref a from r);rfl
 | ty n=>cases (show u=Value.type n from r);rfl

section
variable {P:Program}{w:World}{H H':Hp}{h h':Heap}{a C dx:Addr}{fs fs':List (Str×V)}
theorem ins_get (hok:HOk P w H h) (e:H a=some (.ins C dx fs)):∃ mA,ObjM h a dx C mA∧(∀ f,RelO (fs.lookup f) (mA f))∧PySem.Within mA (fs.map (·.1))∧fs.length≤1000∧H dx=some (.own a):=by
 obtain ⟨d,z,ne,ob,mA,n,r,q⟩:=(show ObjOk P w H h a (.ins C dx fs) from hok a _ e)
 exact ⟨mA,⟨ob,n,ne⟩,r,q,z,d⟩
end

structure Cls (K:PySem.W.Frag) (C:Addr):Prop where
 pg:PySem.W.plainGet K C Str.empty=true
 hd:PySem.W.hasDictIn K C=true
 po:PySem.W.plainOver K C=true
 sa:PySem.W.findIn K (.ref C) "__setattr__" = some (some (.builtin "object.__setattr__"))
theorem Cls.get {K:PySem.W.Frag}{C:Addr} (c:Cls K C) (f:Str):PySem.W.plainGet K C f=true:=c.pg
def NoAttr (K:PySem.W.Frag) (C:Addr) (f:Str):Prop:=PySem.W.findIn K (.ref C) f=some none
theorem NoAttr.taker {K:PySem.W.Frag}{C:Addr}{f:Str} (n:NoAttr K C f):PySem.W.takerIn K C f=some none:=by
 unfold PySem.W.takerIn
 rw [show PySem.W.findIn K (.ref C) f=some none from n]
 rfl
structure Meth (K:PySem.W.Frag) (C:Addr) (m:Str) (f:Addr):Prop where
 at_:PySem.W.findIn K (.ref C) m=some (some (.ref f))
 fn:PySem.W.isFn K (.ref f)=true
 kp:PySem.W.keepIn K (.ref f)=true

section
variable {X:Cx}{pins:List (Addr×Obj)}{σ:St}{H:Hp}{s:Shared}{a C dx:Addr}{fs:List (Str×V)}{f:Str}{v:V}{A:Around}{E:Value→Shared→Prop}

theorem getattr_ok {b:Bool}{Q:Value→Shared→Prop} (I:Inv X pins σ H s) (e:H a=some (.ins C dx fs)) (c:Cls X.K C) (n:NoAttr X.K C f) (l:fs.lookup f=some v)
  (h:∀ u s',Inv X pins σ H s'→RelV v u→Q u s'):wpAny (model X.prog X.w) A (getAttr (.ref a) f b) Q E s:=by
 obtain ⟨mA,O,r,_,_,_⟩:=ins_get I.hok e
 obtain ⟨u,hu,ru⟩:=RelO.some_of (v:=v) (o:=mA f) (by rw [←l];exact r f)
 exact get_map I.kIn O (c.get f) c.hd n hu (handed_of ru) (h u _ (I.tok _) ru)

theorem getmeth_ok {m:Str}{g:Addr}{pl:Sem Bool}{Q:Value×List Value→Shared→Prop} (I:Inv X pins σ H s) (e:H a=some (.ins C dx fs)) (c:Cls X.K C) (k:Meth X.K C m g) (l:fs.lookup m=none)
  (h:Q (.ref g,[.ref a]) s):wpAny (model X.prog X.w) A (getMethod (.ref a) m pl) Q E s:=by
 obtain ⟨mA,O,r,_,_,_⟩:=ins_get I.hok e
 have hn:mA m=none:=RelO.none_of (by rw [←l];exact r m)
 exact get_meth I.kIn O (c.get m) k.at_ k.fn hn h

theorem setattr_ok {y:V}{u:Value}{Q:Unit→Shared→Prop} (I:Inv X pins σ H s) (e:H a=some (.ins C dx fs)) (c:Cls X.K C) (n:NoAttr X.K C f) (hl:fs.length < 1000) (ry:RelV y u)
  (h:∀ s',Inv X pins σ (upd H a (.ins C dx (putF f y fs))) s'→Q () s'):wpAny (model X.prog X.w) A (setAttr (.ref a) f u) Q E s:=by
 obtain ⟨mA,O,r,wi,_,ho⟩:=ins_get I.hok e
 have hz:(fs.map (·.1)).length≤sizeLine:=by rw [List.length_map,sizeLine_eq];omega
 refine set_map I.kIn O c.sa c.po n.taker c.hd wi hz fun h' O' sb=>h _ ?_
 have hd:∃ o,h'.get? dx=some o:=let ⟨o,_,_,e',_⟩:=O'.ns;⟨o,e'⟩
 refine I.write (x:=a) (e:=dx) (by rw [e];exact True.intro) (.inr ho) (fun b q hb z=>(sb.2 b hb).trans z) hd ?_
 refine ⟨by rw [upd_ne O.ne];exact ho,?_,O.ne,O'.obj,_,O'.ns,fun g=>?_,fun g hg=>?_⟩
 ·have:=length_putF f y fs;omega
 ·show RelO ((putF f y fs).lookup g) (if g=f then some u else mA g)
  rw [lookup_putF]
  by_cases q:g=f
  ·rw [if_pos q,if_pos q];exact ry
  ·rw [if_neg q,if_neg q];exact r g
 ·by_cases q:g=f
  ·rw [q];exact (keys_putF f y fs).1
  ·refine (keys_putF f y fs).2 g (wi g fun z=>hg ?_)
   show (if g=f then some u else mA g)=none
   rw [if_neg q];exact z

theorem Inv.made (I:Inv X pins σ H s):Inv X pins σ (upd (upd H s.heap.objs.size (.own (s.heap.objs.size+1))) (s.heap.objs.size+1) (.ins C s.heap.objs.size []))
  { s with heap:=(s.heap.push PySem.W.emptyDict).push (PySem.W.instObj C s.heap.objs.size) }:=by
 have e1:(s.heap.push PySem.W.emptyDict).get? s.heap.objs.size=some PySem.W.emptyDict:=Heap.get?_push_size s.heap rfl
 have e2:((s.heap.push PySem.W.emptyDict).push (PySem.W.instObj C s.heap.objs.size)).get? (s.heap.objs.size+1)=some (PySem.W.instObj C s.heap.objs.size):=by
  have:=Heap.get?_push_size (s.heap.push PySem.W.emptyDict) (o:=PySem.W.instObj C s.heap.objs.size) rfl
  rwa [Heap.size_push] at this
 have e3:(s.heap.push PySem.W.emptyDict).Ns s.heap.objs.size (fun _=>none):=⟨PySem.W.emptyDict,#[],_,e1,rfl,(fun e he=>absurd he (by simp)),fun _=>rfl⟩
 have I1:=I.laid (a:=s.heap.objs.size) (o:=.own (s.heap.objs.size+1)) (h':=s.heap.push PySem.W.emptyDict) (t':=s.toks) (fun b u q=>Heap.get?_push_of_some _ q) (Nat.le_refl _) ⟨_,e1⟩
 refine I1.laid (a:=s.heap.objs.size+1) (o:=.ins C s.heap.objs.size []) (t':=s.toks) (fun b u q=>Heap.get?_push_of_some _ q) (Nat.le_of_eq (Heap.size_push _ _)) ?_
 have ne:s.heap.objs.size≠s.heap.objs.size+1:=Nat.ne_of_lt (Nat.lt_succ_self _)
 refine ⟨by rw [upd_ne ne,upd_same],Nat.zero_le _,ne,e2,fun _=>none,(Heap.Ns1.of_empty e3).at fun o q=>Heap.get?_push_of_some _ q,fun _=>True.intro,fun y hy=>absurd rfl hy⟩

theorem attr_of {prog:Program}{w:World}{env:Env}{e:Expr}{f:Str}{pos:Pos}{s:Shared}{Q:Value→Shared→Prop} (hb:attributeBase e f env (eval e env)=eval e env)
  (h:wpAny (model prog w) A (eval e env) (fun o s₁=>wpAny (model prog w) A (getAttr o f true) Q E s₁) E s):wpAny (model prog w) A (eval (.Attribute e f pos) env) Q E s :=
 Attribute_any_ h (by rw [arm_eval_Attribute,hb])
end

def tFld (K:PySem.W.Frag) (ta:TE) (f:Str):TE:=fun σ H Q=>ta σ H fun x H1=>∃ a C dx fs v,x = .ref a∧H1 a=some (.ins C dx fs)∧Cls K C∧NoAttr K C f∧fs.lookup f=some v∧Q v H1
def sFld (K:PySem.W.Frag) (ta tv:TE) (f:Str):TS:=fun D σ H=>tv σ H fun y H1=>ta σ H1 fun x H2=>∃ a C dx fs,x = .ref a∧H2 a=some (.ins C dx fs)∧Cls K C∧NoAttr K C f∧fs.length < 1000 ∧
 D.nx σ (upd H2 a (.ins C dx (putF f y fs)))
def InOp (X:Cx) (op:Operator) (rd:V→V→Hp→VK→Prop):Prop :=
 ∀ (pins:List (Addr×Obj)) (s:Shared) (σ:St) (H:Hp) (x y:V) (u v:Value) (Q:VK),Inv X pins σ H s→RelV x u→RelV y v→rd x y H Q→wpAny (model X.prog X.w) X.A (inplaceOp op u v) (EP X pins σ Q) X.xe s
def sFldAug (K:PySem.W.Frag) (ta tv:TE) (rd:V→V→Hp→VK→Prop) (f:Str):TS:=fun D σ H=>ta σ H fun x H1=>∃ a C dx fs v,x = .ref a∧H1 a=some (.ins C dx fs)∧Cls K C∧NoAttr K C f∧fs.lookup f=some v ∧
 tv σ H1 fun y H2=>rd v y H2 fun z H3=>∃ dx' fs',H3 a=some (.ins C dx' fs')∧fs'.length < 1000∧D.nx σ (upd H3 a (.ins C dx' (putF f z fs')))

section
variable {X:Cx}{o e value:Expr}{f:Str}{pos pos' tpos:Pos}{ta tv:TE}
theorem pe_fld (he:PE X e ta) (hb:attributeBase e f X.env (eval e X.env)=eval e X.env):PE X (.Attribute e f pos) (tFld X.K ta f):=by
 intro pins s σ H Q I h
 refine attr_of hb (thn (he pins s σ H _ I h) fun u s1 ⟨x,H1,I1,rx,a,C,dx,fs,v,ex,ea,c,n,l,q⟩=>?_)
 subst ex
 obtain rfl:u=Value.ref a:=rx
 exact getattr_ok I1 ea c n l fun u' s2 I2 ru=>⟨v,H1,I2,ru,q⟩
theorem ps_fld (ha:PE X o ta) (hv:PE X value tv) (hs:swapsWith value (some (.Attribute o f pos')) pos.line X.env=pure false):PS X (.Assign [.Attribute o f pos'] value pos) (sFld X.K ta tv f):=by
 intro pins s σ H D I h
 refine plainObj_wpAny_Assign_Attribute (thn (hv pins s σ H _ I h) fun u s1 ⟨y,H1,I1,ry,q⟩=>thn (ha pins s1 σ H1 _ I1 q) fun ov s2 ⟨x,H2,I2,rx,a,C,dx,fs,ex,ea,c,n,l,q2⟩=>?_) hs
 subst ex
 obtain rfl:ov=Value.ref a:=rx
 exact setattr_ok I2 ea c n l ry fun s3 I3=>⟨σ,_,I3,q2⟩
theorem ps_fldaug {op:Operator}{rd:V→V→Hp→VK→Prop} (ha:PE X o ta) (hv:PE X value tv) (hop:InOp X op rd):PS X (.AugAssign (.Attribute o f tpos) op value pos) (sFldAug X.K ta tv rd f):=by
 intro pins s σ H D I h
 refine wpAny_AugAssign_AttributeAny (thn (ha pins s σ H _ I h) fun ov s1 ⟨x,H1,I1,rx,a,C,dx,fs,v,ex,ea,c,n,l,q⟩=>?_)
 subst ex
 obtain rfl:ov=Value.ref a:=rx
 refine getattr_ok I1 ea c n l fun u s2 I2 ru=>thn (hv pins s2 σ H1 _ I2 q) fun w3 s3 ⟨y,H2,I3,ry,q3⟩=>thn (hop pins s3 σ H2 v y u w3 _ I3 ru ry q3) fun w4 s4 ⟨z,H3,I4,rz,dx',fs',ea',l',q4⟩=>?_
 exact setattr_ok I4 ea' c n l' rz fun s5 I5=>⟨σ,_,I5,q4⟩
theorem methcall_of {pl:Sem Bool}{m:Str}{apos:Pos}{args:List Expr}{pins:List (Addr×Obj)}{s:Shared}{σ:St}{H:Hp}{Q:Value→Shared→Prop}{te:TE} (he:PE X e te) (I:Inv X pins σ H s)
  (h:te σ H fun x H1=>∃ a C dx fs g,x = .ref a∧H1 a=some (.ins C dx fs)∧Cls X.K C∧Meth X.K C m g∧fs.lookup m=none ∧
   ∀ s1,Inv X pins σ H1 s1→wpAny (model X.prog X.w) X.A (callWith pos (.ref g) [.ref a] (backTo pos (starEach args X.env)) (backToKw pos (keywordEach [] X.env))) Q X.xe s1)
  (ht:eval (.Call (.Attribute e m apos) args [] pos) X.env=(do
   let ov ← eval e X.env
   standAt apos.atName
   let (f,first) ← holding [ov] (getMethod ov m pl)
   callWith pos f first (backTo pos (starEach args X.env)) (backToKw pos (keywordEach [] X.env)))) :
  wpAny (model X.prog X.w) X.A (eval (.Call (.Attribute e m apos) args [] pos) X.env) Q X.xe s:=by
 refine PySem.W.methodCall_KW (pl:=pl) (thn (he pins s σ H _ I h) fun u s1 ⟨x,H1,I1,rx,a,C,dx,fs,g,ex,ea,c,k,l,q⟩=>?_) ht
 subst ex
 obtain rfl:u=Value.ref a:=rx
 exact getmeth_ok I1 ea c k l (q s1 I1)
end

section
variable {X:Cx}{pins:List (Addr×Obj)}{σ:St}{H:Hp}{s:Shared}{A:Around}{E:Value→Shared→Prop}{Q:Value→Shared→Prop}{c:Value}{b:Bool}
inductive TyOf (K:PySem.W.Frag) (H:Hp):V→Value→Prop where
 | non:TyOf K H .non (.type "NoneType")
 | bl (x:Bool):TyOf K H (.bl x) (.type "bool")
 | int (i:Int):TyOf K H (.int i) (.type "int")
 | str (x:Str):TyOf K H (.str x) (.type "str")
 | flt (x:UInt64):TyOf K H (.flt x) (.type "float")
 | lst {a:Addr}{xs:List V} (e:H a=some (.lst xs)):TyOf K H (.ref a) (.type "list")
 | frz {a:Addr}{o:Obj}{xs:List V} (e:H a=some (.frz o (.lst xs))):TyOf K H (.ref a) (.type "list")
 | tup {a:Addr}{xs:List V} (e:H a=some (.tup xs)):TyOf K H (.ref a) (.type "tuple")
 | dK {a:Addr}{kvs:List (Key×V)} (e:H a=some (.dK kvs)):TyOf K H (.ref a) (.type "dict")
 | dT {a:Addr}{kvs:List (List Key×V)} (e:H a=some (.dT kvs)):TyOf K H (.ref a) (.type "dict")
 | ins {a C dx:Addr}{fs:List (Str×V)} (e:H a=some (.ins C dx fs)) (cl:Cls K C) (ha:PySem.W.findIn K (.ref C) "__class__" = some (some (.builtin "object.__class__")))
   (hn:PySem.W.specialIn K (.builtin "object.__class__") "__get__" = some (some (.builtin "getset_descriptor.__get__"))) (htk:PySem.W.takesIn K (.builtin "object.__class__")=some true)
   (hm:PySem.W.mroIn K C (.type "object")=some true):TyOf K H (.ref a) (.ref C)
theorem isinst_ok {x:V}{u t:Value} (I:Inv X pins σ H s) (rx:RelV x u) (ty:TyOf X.K H x t) (e:PySem.W.kitOne X.K t c=some b) (h:∀ tk,Q (.bool b) { s with toks:=tk }) :
  wpAny (model X.prog X.w) A (call (.builtin "isinstance") [u,c]) Q E s:=by
 cases ty with
 | non=>cases (show u=Value.none from rx);exact PySem.W.kia_one PySem.W.kitx_none I.kIn True.intro e (fun z=>nomatch z) h
 | bl y=>cases (show u=Value.bool y from rx);exact PySem.W.kia_one PySem.W.kitx_bool I.kIn True.intro e (fun z=>nomatch z) h
 | int i=>obtain ⟨t,q⟩:=(show ∃ t,u=Value.int i t from rx);cases q;exact PySem.W.kia_one PySem.W.kitx_int I.kIn True.intro e (fun z=>nomatch z) h
 | str y=>obtain ⟨t,q⟩:=(show ∃ t,u=Value.str y t from rx);cases q;exact PySem.W.kia_one PySem.W.kitx_str I.kIn True.intro e (fun z=>nomatch z) h
 | flt y=>obtain ⟨t,q⟩:=(show ∃ t,u=Value.float y t from rx);cases q;exact PySem.W.kia_one PySem.W.kitx_float I.kIn True.intro e (fun z=>nomatch z) h
 | @lst a xs ea =>
  cases (show u=Value.ref a from rx)
  obtain ⟨_,_,n,_,h1⟩:=(show ObjOk X.prog X.w H s.heap a (.lst xs) from I.hok a _ ea)
  exact PySem.W.kia_one PySem.W.kitx_list I.kIn ⟨_,h1,rfl⟩ e (fun z=>nomatch z) h
 | @frz a ob xs ea =>
  cases (show u=Value.ref a from rx)
  obtain ⟨_,_,_,n,_,h1⟩:=(show ObjOk X.prog X.w H s.heap a (.frz ob (.lst xs)) from I.hok a _ ea)
  exact PySem.W.kia_one PySem.W.kitx_list I.kIn ⟨_,h1,rfl⟩ e (fun z=>nomatch z) h
 | @tup a xs ea =>
  cases (show u=Value.ref a from rx)
  obtain ⟨_,_,_,p⟩:=(show ObjOk X.prog X.w H s.heap a (.tup xs) from I.hok a _ ea)
  obtain ⟨o,h1,h2,_⟩:=p
  exact PySem.W.kia_one PySem.W.kitx_tuple I.kIn ⟨o,h1,h2⟩ e (fun z=>nomatch z) h
 | @dK a kvs ea =>
  cases (show u=Value.ref a from rx)
  obtain ⟨_,_,vs,_,p⟩:=(show ObjOk X.prog X.w H s.heap a (.dK kvs) from I.hok a _ ea)
  obtain ⟨o,es,ep,h1,h2,_⟩:=p
  exact PySem.W.kia_one PySem.W.kitx_dict I.kIn ⟨o,h1,h2.1⟩ e (fun z=>nomatch z) h
 | @dT a kvs ea =>
  cases (show u=Value.ref a from rx)
  obtain ⟨_,_,xs,_,o,es,ep,h1,h2,_⟩:=(show ObjOk X.prog X.w H s.heap a (.dT kvs) from I.hok a _ ea)
  exact PySem.W.kia_one PySem.W.kitx_dict I.kIn ⟨o,h1,h2.1⟩ e (fun z=>nomatch z) h
 | @ins a C dx fs ea cl ha hn htk hm =>
  cases (show u=Value.ref a from rx)
  obtain ⟨mA,O,_⟩:=ins_get I.hok ea
  obtain ⟨od,J,_⟩:=O.look
  exact PySem.W.kia_one (PySem.W.kitx_own (cl.get _) cl.hd ha hn htk hm) I.kIn J e (fun z=>nomatch z) h
end
end L2

namespace L2
open PySem PySem.Spec PyProof.Rows

structure Room (k:Nat) (A:Around):Prop where
 hd:A.handled=none
 dp:A.depth+3*k+5 < recursionLimit
 un:A.units+16*k+200 < cLine
theorem Room.mono {j k:Nat}{A:Around} (r:Room k A) (h:j≤k):Room j A:=⟨r.hd,by have:=r.dp;omega,by have:=r.un;omega⟩
theorem Room.deeper {k:Nat}{A:Around} (r:Room (k+1) A) (env:Env):Room k (A.deeper env) :=
 ⟨r.hd,by have:=r.dp;show A.depth+1+3*k+5 < _;omega,by have:=r.un;show A.units+3+16*k+200 < _;omega⟩
theorem Room.in1 {k:Nat}{A:Around} (r:Room (k+1) A):Room k A.in1 :=
 ⟨r.hd,by have:=r.dp;show A.depth+3*k+5 < _;omega,by have:=r.un;show A.units+1+16*k+200 < _;omega⟩
theorem make_depth {A:Around}{C:Addr}{us:List Value}{kw:List (Str×Value)}:(A.under (.builtin "type.__call__" ⟨.ref C::us,kw⟩)).depth=A.depth+1:=by
 first | rfl | simp [Around.under,Code.weight,Code.isCreation,Code.isGuard,Code.isCaller,Code.frames,Code.isFrame,guardIds]
theorem make_units {A:Around}{C:Addr}{us:List Value}{kw:List (Str×Value)}:(A.under (.builtin "type.__call__" ⟨.ref C::us,kw⟩)).units=A.units+1:=by
 first | rfl | simp [Around.under,Code.cUnits,Code.frames,Code.isFrame]
theorem Room.make {k:Nat}{A:Around} (r:Room (k+1) A) (C:Addr) (us:List Value) (kw:List (Str×Value)):Room k (A.under (.builtin "type.__call__" ⟨.ref C::us,kw⟩)) :=
 ⟨r.hd,by have:=r.dp;rw [make_depth];omega,by have:=r.un;rw [make_units];omega⟩
theorem Room.depth {k:Nat}{A:Around} (r:Room k A):A.depth < recursionLimit:=by have:=r.dp;omega
theorem Room.units {k:Nat}{A:Around} (r:Room k A):A.units+64 < cLine:=by have:=r.un;omega
def tNil:TA:=fun _ H Q=>Q [] H
def tCons (ta:TE) (tr:TA):TA:=fun σ H Q=>ta σ H fun x H1=>tr σ H1 fun xs H2=>Q (x::xs) H2
section
variable {X:Cx}{e:Expr}{es:List Expr}{te:TE}{t:TA}{pos:Pos}
theorem pa_nil:PA X [] tNil:=fun _ _ _ _ H Q I h=>Calls.spliced_nil ⟨[],H,I,.nil,h⟩
theorem pa_cons (ha:PE X e te) (hr:PA X es t) (hs:starEach (e::es) X.env=(false,eval e X.env)::starEach es X.env:=by rfl):PA X (e::es) (tCons te t):=by
 intro pos pins s σ H Q I h
 rw [hs]
 show wpAny _ _ (spliced ((false,eval e X.env)::backTo pos (starEach es X.env))) _ _ s
 refine Calls.spliced_cons (thn (ha pins s σ H _ I h) fun u s1 ⟨x,H1,I1,r1,q1⟩=>?_)
 exact thn (hr pos pins s1 σ H1 _ I1 q1) fun us s2 ⟨xs,H2,I2,r2,q2⟩=>⟨x::xs,H2,I2,.cons r1 r2,q2⟩

def tTup (t:TA):TE:=fun σ H Q=>t σ H fun xs H1=>xs.length≤sizeLine∧∀ p,H1 p=none→Q (.ref p) (upd H1 p (.tup xs))
def tLst (t:TA):TE:=fun σ H Q=>t σ H fun xs H1=>xs.length≤sizeLine∧∀ p,H1 p=none→Q (.ref p) (upd H1 p (.lst xs))
theorem pe_tup {x1} (h:PA X es t):PE X (.Tuple es x1 pos) (tTup t):=by
 intro pins s σ H Q I hq
 refine wpAny_Tuple_spliced (thn (h pos pins s σ H _ I hq) fun us s1 ⟨xs,H1,I1,r,z,q⟩=>⟨by rw [←r.length];exact z,?_⟩)
 have hf:H1 s1.heap.objs.size=none:=I1.hok.fresh (Nat.le_refl _)
 refine ⟨.ref s1.heap.objs.size,upd H1 s1.heap.objs.size (.tup xs),I1.laid (t':=s1.toks) (fun b u e=>Heap.get?_push_of_some _ e) (Nat.le_refl _) ?_,rfl,q _ hf⟩
 exact ⟨z,us,r,⟨_,Heap.get?_push_size _ rfl,rfl,_,rfl⟩⟩
theorem pe_lst (h:PA X es t):PE X (.List es pos) (tLst t):=by
 intro pins s σ H Q I hq
 refine wpAny_List_spliced (thn (h pos pins s σ H _ I hq) fun us s1 ⟨xs,H1,I1,r,z,q⟩=>⟨by rw [←r.length];exact z,?_⟩)
 have hf:H1 s1.heap.objs.size=none:=I1.hok.fresh (Nat.le_refl _)
 refine ⟨.ref s1.heap.objs.size,upd H1 s1.heap.objs.size (.lst xs),I1.laid (t':=s1.toks) (fun b u e=>Heap.get?_push_of_some _ e) (Nat.le_refl _) ?_,rfl,q _ hf⟩
 exact ⟨z,us,0,r,Heap.get?_push_size _ rfl⟩
end

abbrev Sp:=List V→Hp→VK→XK→Prop
abbrev CXT:=List Env→Hp→Shared→XK→Value→Shared→Prop

structure Env0 (P:Program) (w:World) (K:PySem.W.Frag) (mg:Str→Option Value) (base:Heap) (A:Around) (outer:List Env) (s:Shared) (H:Hp):Prop where
 frames:A.frames=some outer
 mod:Mod K mg base
 bs:∀ b o,base.get? b=some o→s.heap.get? b=some o∧H b=none
 bsz:base.objs.size≤s.heap.objs.size
 funs:s.heap.FunFrames base outer
 frf:∀ b∈frs outer,H b=none
 hok:HOk P w H s.heap
 bare:AllBare s.gens
def CE (outer:List Env) (P:Program) (w:World) (H:Hp) (s:Shared) (Q:VK) (u:Value) (s':Shared):Prop :=
 ∃ v H',s'.os=s.os∧AllBare s'.gens∧Un (frs outer) [] H H' s.heap s'.heap∧HOk P w H' s'.heap∧RelV v u∧Q v H'
def CR (CX:CXT) (outer:List Env) (P:Program) (w:World) (H:Hp) (s:Shared) (Q:VK) (E:XK) (r:Result) (s':Shared):Prop :=
 match r with
 | .ok (.ret u)=>CE outer P w H s Q u s'
 | .ok _=>False
 | .error e=>CX outer H s E e s'
structure FnOk (P:Program) (w:World) (K:PySem.W.Frag) (mg:Str→Option Value) (base:Heap) (CX:CXT) (k:Nat) (f:Addr) (fd:FuncData) (ps:List Str) (sp:Sp):Prop where
 len:∀ vs H Q E,sp vs H Q E→vs.length=ps.length
 run:∀ (A:Around) (outer:List Env) (s:Shared) (H:Hp) (args:Args) (us:List Value) (vs:List V) (Q:VK) (E:XK),Room k A→Env0 P w K mg base A outer s H→BindsTo s fd args (ps.zip us)→Vals vs us→sp vs H Q E →
  codeAny (model P w) A (.call (.ref f) args) (CR CX outer P w H s Q E) s
theorem Env0.make {P:Program}{w:World}{K:PySem.W.Frag}{mg:Str→Option Value}{base:Heap}{A:Around}{outer:List Env}{s:Shared}{H:Hp} (e:Env0 P w K mg base A outer s H) (C:Addr) (us:List Value) (kw:List (Str×Value)) :
  Env0 P w K mg base (A.under (.builtin "type.__call__" ⟨.ref C::us,kw⟩)) outer s H:=⟨by first | exact e.frames | (simpa [Around.under,Code.envs,Code.isFrame,pushEnvs] using e.frames),e.mod,e.bs,e.bsz,e.funs,e.frf,e.hok,e.bare⟩
section
variable {X:Cx}{pins:List (Addr×Obj)}{σ:St}{H:Hp}{s s':Shared}
theorem Inv.env0 (I:Inv X pins σ H s):Env0 X.prog X.w X.K X.mg X.base X.A X.stack s H :=
 ⟨I.ok.frames,I.ok.mod,I.bs,Nat.le_trans I.ok.bsz I.sz,I.stack,I.stkFree,I.hok,I.bare⟩
theorem Inv.after {Q:VK}{u:Value} (I:Inv X pins σ H s) (h:CE X.stack X.prog X.w H s Q u s'):EP X pins σ Q u s':=by
 obtain ⟨v,H',os,bare,un,hok,r,q⟩:=h
 obtain ⟨hh,g,d,t,os'⟩:=s'
 obtain rfl:os'=s.os:=os
 exact ⟨v,H',I.call (h':=hh) (g':=g) (d':=d) (t':=t) (ch:=[]) un hok bare (fun b z=>absurd z (by simp)),r,q⟩
end

def tCall (sp:Sp) (dvs:List V) (E:XK) (t:TA):TE:=fun σ H Q=>t σ H fun vs H1=>sp (vs++dvs) H1 Q E
def tMeth (C:Addr) (m:Str) (sp:Sp) (dvs:List V) (E:XK) (ta:TE) (t:TA):TE:=fun σ H Q=>ta σ H fun x H1=>∃ a dx fs,x = .ref a∧H1 a=some (.ins C dx fs)∧fs.lookup m=none ∧
 t σ H1 fun vs H2=>sp (x::(vs++dvs)) H2 Q E
def tMake (C:Addr) (sp:Sp) (dvs:List V) (E:XK) (t:TA):TE:=fun σ H Q=>t σ H fun vs H1=>∀ x dx,H1 x=none→H1 dx=none→dx≠x →
 sp (.ref x::(vs++dvs)) (upd (upd H1 dx (.own x)) x (.ins C dx [])) (fun v H2=>v = .non∧Q (.ref x) H2) E

def Binds (K:PySem.W.Frag) (fd:FuncData) (ps:List Str) (ds:List Value):Prop :=
 ∀ (s:Shared) (us:List Value),K.In s.heap→(us++ds).length=ps.length→BindsTo s fd ⟨us,[]⟩ (ps.zip (us++ds))
theorem Binds.all {K:PySem.W.Frag}{fd:FuncData}{ps:List Str} (h:∀ us:List Value,us.length=ps.length→bindArgs fd ⟨us,[]⟩=pure (ps.zip us)):Binds K fd ps []:=fun s us _ hl=>by
 rw [List.append_nil] at hl ⊢
 exact .of_eq (h us hl)

def Passes (CX:CXT) (X:Cx) (E:XK):Prop:=∀ (pins:List (Addr×Obj)) (σ:St) (H:Hp) (s:Shared) (e:Value) (s':Shared),Inv X pins σ H s→CX X.stack H s E e s'→X.xe e s'

section
variable {X:Cx}{CX:CXT}{k:Nat}{f C:Addr}{fd:FuncData}{ps:List Str}{sp:Sp}{dvs:List V}{ds:List Value}{E:XK}{x m:Str}{p pos apos:Pos}{e o:Expr}{es:List Expr}{ta:TE}{t:TA}

theorem run_fn {pins:List (Addr×Obj)}{σ:St}{H:Hp}{s:Shared}{Q:VK}{us:List Value}{vs:List V} (F:FnOk X.prog X.w X.K X.mg X.base CX k f fd ps sp) (hr:Room k X.A) (hb:Binds X.K fd ps ds) (hd:Vals dvs ds) (hx:Passes CX X E)
  (I:Inv X pins σ H s) (r:Vals vs us) (h:sp (vs++dvs) H Q E):wpAny (model X.prog X.w) X.A (call (.ref f) us) (EP X pins σ Q) X.xe s:=by
 have r2:Vals (vs++dvs) (us++ds):=r.append hd
 have hl:(us++ds).length=ps.length:=by rw [←r2.length];exact F.len _ _ _ _ h
 refine wpAny_call (codeAny_mono (F.run X.A X.stack s H ⟨us,[]⟩ (us++ds) (vs++dvs) Q E hr I.env0 (hb s us I.kIn hl) r2 h) fun r s' hq=>?_)
 cases r with
 | error e=>exact hx pins σ H s e s' I hq
 | ok fl =>
  cases fl with
  | ret u=>exact I.after hq
  | next=>exact False.elim hq
  | brk=>exact False.elim hq
  | cont=>exact False.elim hq

theorem pe_call (F:FnOk X.prog X.w X.K X.mg X.base CX k f fd ps sp) (hr:Room k X.A) (hg:Gl X x) (hm:X.mg x=some (.ref f)) (hk:PySem.W.keepIn X.K (.ref f)=true) (hb:Binds X.K fd ps ds) (hd:Vals dvs ds) (hx:Passes CX X E)
  (ha:PA X (e::es) t) (hdb:(x == ("__debug__":Str))=false:=by decide) (he:starEach (e::es) X.env=(false,eval e X.env)::starEach es X.env:=by rfl) (hpl:(backTo pos (starEach es X.env)).any (·.1)=false:=by rfl) :
  PE X (.Call (.Name x p) (e::es) [] pos) (tCall sp dvs E t):=by
 intro pins s σ H Q I h
 refine wpAny_Call_Name_kw (ld_glob I hg hm ?_ hdb)
 refine PySem.W.callWith_K (h₀:=X.base) I.ok.mod.kin hk (thn (ha pos pins s σ H _ I h) fun us s1 ⟨vs,H1,I1,r,q⟩=>⟨I1.kIn,?_⟩) he hpl
 exact run_fn F hr hb hd hx I1 r q
theorem pe_meth {pl:Sem Bool} (he:PE X o ta) (c:Cls X.K C) (hm:Meth X.K C m f) (F:FnOk X.prog X.w X.K X.mg X.base CX k f fd ps sp) (hr:Room k X.A) (hb:Binds X.K fd ps ds) (hd:Vals dvs ds) (hx:Passes CX X E) (ha:PA X (e::es) t)
  (hst:starEach (e::es) X.env=(false,eval e X.env)::starEach es X.env:=by rfl) (hpl:(backTo pos (starEach es X.env)).any (·.1)=false:=by rfl)
  (ht:eval (.Call (.Attribute o m apos) (e::es) [] pos) X.env=(do
   let ov ← eval o X.env
   standAt apos.atName
   let (f,first) ← holding [ov] (getMethod ov m pl)
   callWith pos f first (backTo pos (starEach (e::es) X.env)) (backToKw pos (keywordEach [] X.env))):=by rfl) :
  PE X (.Call (.Attribute o m apos) (e::es) [] pos) (tMeth C m sp dvs E ta t):=by
 intro pins s σ H Q I h
 refine PySem.W.methodCall_KW (pl:=pl) (thn (he pins s σ H _ I h) fun u s1 ⟨x,H1,I1,rx,a,dx,fs,ex,ea,l,q⟩=>?_) ht
 subst ex
 obtain rfl:u=Value.ref a:=rx
 refine getmeth_ok I1 ea c hm l ?_
 refine PySem.W.callWith_K (first:=[.ref a]) (h₀:=X.base) I.ok.mod.kin hm.kp (thn (ha pos pins s1 σ H1 _ I1 q) fun us s2 ⟨vs,H2,I2,r,q2⟩=>⟨I2.kIn,?_⟩) hst hpl
 exact run_fn (us:=.ref a::us) (vs:=.ref a::vs) F hr hb hd hx I2 (.cons rfl r) q2
theorem pe_meth0 {pl:Sem Bool} (he:PE X o ta) (c:Cls X.K C) (hm:Meth X.K C m f) (F:FnOk X.prog X.w X.K X.mg X.base CX k f fd ps sp) (hr:Room k X.A) (hb:Binds X.K fd ps ds) (hd:Vals dvs ds) (hx:Passes CX X E)
  (ht:eval (.Call (.Attribute o m apos) [] [] pos) X.env=(do
   let ov ← eval o X.env
   standAt apos.atName
   let (f,first) ← holding [ov] (getMethod ov m pl)
   callWith pos f first (backTo pos (starEach [] X.env)) (backToKw pos (keywordEach [] X.env))):=by rfl) :
  PE X (.Call (.Attribute o m apos) [] [] pos) (tMeth C m sp dvs E ta tNil):=by
 intro pins s σ H Q I h
 refine PySem.W.methodCall_KW (pl:=pl) (thn (he pins s σ H _ I h) fun u s1 ⟨x,H1,I1,rx,a,dx,fs,ex,ea,l,q⟩=>?_) ht
 subst ex
 obtain rfl:u=Value.ref a:=rx
 refine getmeth_ok I1 ea c hm l ?_
 exact PySem.W.callWith_K0 (first:=[.ref a]) I1.kIn hm.kp (run_fn (us:=[.ref a]) (vs:=[.ref a]) F hr hb hd hx I1 (.cons rfl .nil) q)

structure Mk (K:PySem.W.Frag) (C f:Addr):Prop where
 makes:PySem.W.makesIn K C=true
 init:PySem.W.findIn K (.ref C) "__init__" = some (some (.ref f))
 fn:PySem.W.isFn K (.ref f)=true
 kp:PySem.W.keepIn K (.ref C)=true

theorem run_make {pins:List (Addr×Obj)}{σ:St}{H:Hp}{s:Shared}{Q:VK}{us:List Value}{vs:List V} (M:Mk X.K C f) (F:FnOk X.prog X.w X.K X.mg X.base CX k f fd ps sp) (hr:Room (k+1) X.A) (hb:Binds X.K fd ps ds) (hd:Vals dvs ds)
  (hx:Passes CX X E) (I:Inv X pins σ H s) (r:Vals vs us)
  (h:∀ x dx,H x=none→H dx=none→dx≠x→sp (.ref x::(vs++dvs)) (upd (upd H dx (.own x)) x (.ins C dx [])) (fun v H2=>v = .non∧Q (.ref x) H2) E) :
  wpAny (model X.prog X.w) X.A (call (.ref C) us) (EP X pins σ Q) X.xe s:=by
 have hq:=h (s.heap.objs.size+1) s.heap.objs.size (I.hok.fresh (Nat.le_succ _)) (I.hok.fresh (Nat.le_refl _)) (Nat.ne_of_lt (Nat.lt_succ_self _))
 have I2:=Inv.made (C:=C) I
 have r2:Vals (V.ref (s.heap.objs.size+1)::(vs++dvs)) (Value.ref (s.heap.objs.size+1)::(us++ds)):=.cons rfl (r.append hd)
 have hl:(Value.ref (s.heap.objs.size+1)::us++ds).length=ps.length:=by
  have e:=r2.length
  rw [F.len _ _ _ _ hq] at e
  exact e.symm
 refine wpAny_call (make_map (f:=f) I.kIn M.makes M.init (beq_iff_eq.mp M.fn) (codeAny_mono (F.run _ X.stack _ _ ⟨Value.ref (s.heap.objs.size+1)::us,[]⟩ (Value.ref (s.heap.objs.size+1)::(us++ds)) _ _ E (hr.make C us [])
  (I2.env0.make C us []) (hb _ (Value.ref (s.heap.objs.size+1)::us) I2.kIn hl) r2 hq) fun r s' hq'=>?_))
 cases r with
 | error e=>exact hx pins σ _ _ e s' I2 hq'
 | ok fl =>
  cases fl with
  | ret u =>
   obtain ⟨v,H',I3,rv,ev,q3⟩:=I2.after hq'
   subst ev
   exact ⟨rv,⟨V.ref (s.heap.objs.size+1),H',I3,rfl,q3⟩⟩
  | next=>exact False.elim hq'
  | brk=>exact False.elim hq'
  | cont=>exact False.elim hq'
theorem pe_make (M:Mk X.K C f) (F:FnOk X.prog X.w X.K X.mg X.base CX k f fd ps sp) (hr:Room (k+1) X.A) (hg:Gl X x) (hm:X.mg x=some (.ref C)) (hb:Binds X.K fd ps ds) (hd:Vals dvs ds) (hx:Passes CX X E)
  (ha:PA X (e::es) t) (hdb:(x == ("__debug__":Str))=false:=by decide) (he:starEach (e::es) X.env=(false,eval e X.env)::starEach es X.env:=by rfl) (hpl:(backTo pos (starEach es X.env)).any (·.1)=false:=by rfl) :
  PE X (.Call (.Name x p) (e::es) [] pos) (tMake C sp dvs E t):=by
 intro pins s σ H Q I h
 refine wpAny_Call_Name_kw (ld_glob I hg hm ?_ hdb)
 refine PySem.W.callWith_K (h₀:=X.base) I.ok.mod.kin M.kp (thn (ha pos pins s σ H _ I h) fun us s1 ⟨vs,H1,I1,r,q⟩=>⟨I1.kIn,?_⟩) he hpl
 exact run_make M F hr hb hd hx I1 r q
end

def PK (X:Cx) (kws:List Keyword) (t:TA):Prop :=
 ∀ (pos:Pos) (pins:List (Addr×Obj)) (s:Shared) (σ:St) (H:Hp) (Q:List V→Hp→Prop),Inv X pins σ H s→t σ H Q→wpAny (model X.prog X.w) X.A (evalAll ((backToKw pos (keywordEach kws X.env)).map (·.2))) (AP X pins σ Q) X.xe s
section
variable {X:Cx}{CX:CXT}{k:Nat}{f C:Addr}{fd:FuncData}{ps ks:List Str}{sp:Sp}{E:XK}{x m:Str}{p pos apos kpos:Pos}{e o:Expr}{es:List Expr}{kws:List Keyword}{te ta:TE}{t tk:TA}{nm:Option Str}
theorem pk_nil:PK X [] tNil:=fun _ _ _ _ H Q I h=>wpAny_evalAll_nil ⟨[],H,I,.nil,h⟩
theorem pk_cons (ha:PE X e te) (hr:PK X kws t):PK X (⟨nm,e,kpos⟩ :: kws) (tCons te t):=by
 intro pos pins s σ H Q I h
 show wpAny _ _ (evalAll ((do let v ← eval e X.env;standAt pos;pure v)::(backToKw pos (keywordEach kws X.env)).map (·.2))) _ _ s
 refine wpAny_evalAll_cons (wpAny_bind (thn (ha pins s σ H _ I h) fun u s1 ⟨x,H1,I1,r1,q1⟩=>wpAny_bind (wpAny_standAt (wpAny_pure ?_))))
 exact thn (hr pos pins s1 σ H1 _ I1 q1) fun us s2 ⟨xs,H2,I2,r2,q2⟩=>⟨x::xs,H2,I2,.cons r1 r2,q2⟩

variable {g:List Value→List Value→List Value}{gV:List V→List V→List V}
end

structure FnScope (N P:List Str) (sc:Scope):Prop where
 kind:sc.kind = .function
 co:sc.isCoroutine=false
 gen:sc.isGenerator=false
 nd:N.Nodup
 pre:N.take P.length=P
 par:∀ x∈P,sc.names.lookup x=some .local∨sc.names.lookup x=some .cell
 nofree:∀ y∈sc.names,y.2 ≠ .free

theorem bindL_out {kindOf:Str→Option NameKind}{x:Str}:∀ {binds:List (Str×Value)}{m:Str→Option Value},(∀ v,(x,v) ∉ binds)→bindL kindOf binds m x=m x
 | [],_,_=>rfl
 | (n,v)::r,m,h=>by
  unfold bindL
  rw [bindL_out fun w hw=>h w (List.mem_cons_of_mem _ hw)]
  split
  ·have:x≠n:=by rintro rfl;exact h v List.mem_cons_self
   simp [this]
  ·rfl
theorem bindC_out {kindOf:Str→Option NameKind}{x:Str}:∀ {binds:List (Str×Value)}{m:Str→Option Value},(∀ v,(x,v) ∉ binds)→bindC kindOf binds m x=m x
 | [],_,_=>rfl
 | (n,v)::r,m,h=>by
  unfold bindC
  rw [bindC_out fun w hw=>h w (List.mem_cons_of_mem _ hw)]
  split
  ·rfl
  ·have:x≠n:=by rintro rfl;exact h v List.mem_cons_self
   simp [this]
theorem bindL_get {kindOf:Str→Option NameKind}{x:Str}{v:Value}:∀ {P:List Str}{vs:List Value}{i:Nat}{m:Str→Option Value},P.Nodup→P[i]? = some x→vs[i]? = some v→kindOf x=some .local →
  bindL kindOf (P.zip vs) m x=some v
 | [],_,_,_,_,h,_,_=>by simp at h
 | _::_,[],_,_,_,_,h,_=>by simp at h
 | p::P,w::vs,0,m,nd,h1,h2,hk=>by
  simp at h1 h2;subst h1;subst h2
  show bindL kindOf ((p,w)::P.zip vs) m p=_
  unfold bindL
  rw [bindL_out fun v hv=>(List.nodup_cons.mp nd).1 (List.of_mem_zip hv).1,if_pos hk]
  simp
 | p::P,w::vs,i+1,m,nd,h1,h2,hk=>by
  show bindL kindOf ((p,w)::P.zip vs) m x=_
  unfold bindL
  exact bindL_get (i:=i) (List.nodup_cons.mp nd).2 (by simpa using h1) (by simpa using h2) hk
theorem bindC_get {kindOf:Str→Option NameKind}{x:Str}{v:Value}:∀ {P:List Str}{vs:List Value}{i:Nat}{m:Str→Option Value},P.Nodup→P[i]? = some x→vs[i]? = some v→kindOf x≠some .local →
  bindC kindOf (P.zip vs) m x=some v
 | [],_,_,_,_,h,_,_=>by simp at h
 | _::_,[],_,_,_,_,h,_=>by simp at h
 | p::P,w::vs,0,m,nd,h1,h2,hk=>by
  simp at h1 h2;subst h1;subst h2
  show bindC kindOf ((p,w)::P.zip vs) m p=_
  unfold bindC
  rw [bindC_out fun v hv=>(List.nodup_cons.mp nd).1 (List.of_mem_zip hv).1,if_neg hk]
  simp
 | p::P,w::vs,i+1,m,nd,h1,h2,hk=>by
  show bindC kindOf ((p,w)::P.zip vs) m x=_
  unfold bindC
  exact bindC_get (i:=i) (List.nodup_cons.mp nd).2 (by simpa using h1) (by simpa using h2) hk

def start (N:List Str) (vs:List V):St:=vs.map some++List.replicate (N.length-vs.length) none

def cxOf (CX:CXT) (P:Program) (w:World) (K:PySem.W.Frag) (mg:Str→Option Value) (base:Heap) (N:List Str) (qual:Str) (scope:Scope) (f:Addr) (cd:Value) (A:Around) (outer:List Env) (s:Shared) (H:Hp) (E:XK):Cx where
 prog:=P
 w:=w
 K:=K
 mg:=mg
 base:=base
 A:=A.deeper (envOfC qual scope s.heap.objs.size f cd)
 N:=N
 s₀:=s
 H₀:=H
 env:=envOfC qual scope s.heap.objs.size f cd
 outer:=outer
 stack:=envOfC qual scope s.heap.objs.size f cd::outer
 ex:=[]
 calm:=true
 fn:=fun _=>true
 pn:=[]
 xe:=fun e s'=>wpAny (model P w) (A.deeper (envOfC qual scope s.heap.objs.size f cd)) (leaving (envOfC qual scope s.heap.objs.size f cd) e) (fun _ s''=>CX outer H s E e s'') (fun e' s''=>CX outer H s E e' s'') s'

theorem cell_has {sc:Scope}{n:Nat}{x:Str} (h:sc.names.lookup x=some .cell):∃ c,(cellsFrom n sc.names []).lookup x=some c:=by
 have q:=PySem.W.cellsFrom_some sc.names n [] (.inl h)
 exact Option.isSome_iff_exists.mp q

theorem inv_start {CX:CXT}{P:Program}{w:World}{K:PySem.W.Frag}{mg:Str→Option Value}{base:Heap}{N ps:List Str}{qual:Str}{scope:Scope}{f:Addr}{cd:Value}{A:Around}{outer:List Env}{s s1:Shared}{H:Hp}{E:XK}{us:List Value}{vs:List V}
  (S:FnScope N ps scope) (hd:A.handled=none) (e0:Env0 P w K mg base A outer s H) (hl:vs.length=ps.length) (r:Vals vs us)
  (x:InCallC s s.heap.objs.size (bindL (envOfC qual scope s.heap.objs.size f cd).kindOf (ps.zip us) fun _=>none) (cellsFrom (s.heap.objs.size+1) scope.names []) (bindC (envOfC qual scope s.heap.objs.size f cd).kindOf (ps.zip us) fun _=>none) s1) :
  Inv (cxOf CX P w K mg base N qual scope f cd A outer s H E) [] (start N vs) H s1:=by
 have hpl:ps.length≤N.length:=by have:=congrArg List.length S.pre;rw [List.length_take] at this;omega
 obtain ⟨h1,tk,rfl,hk⟩:=x.done
 have noA:∀ b:Addr,b ∉ (cxOf CX P w K mg base N qual scope f cd A outer s H E).ex:=fun b z=>absurd (show b∈([]:List Addr) from z) (by simp)
 refine ⟨⟨e0.mod,S.kind,rfl,rfl,Nat.le_refl _,fun y z c h1 h2=>?_,fun y hy=>?_,fun y c _ h=>?_,fun _=>hd,Around.frames_deeper e0.frames,.inr ⟨rfl,rfl⟩,fun b z=>absurd z (noA b),e0.bs,e0.bsz,fun b _ _=>noA b,fun b z=>absurd z (noA b),e0.funs,e0.frf⟩,
  rfl,e0.bare,Un.kept hk,⟨_,x.toInCall.ns,fun i y v h1 h2 h3=>?_⟩,fun y c h=>⟨_,x.cell y c h⟩,e0.hok.fresh (Nat.le_refl _),fun y c h=>?_,fun p hp=>absurd (show p∈([]:List (Addr×Obj)) from hp) (by simp),e0.hok.kept hk,?_⟩
 ·exact name_of_addr x.apart (PySem.mem_of_lookup h1) (PySem.mem_of_lookup h2)
 ·have hy:scope.names.lookup y=some .cell∨scope.names.lookup y=some .free:=hy
  rcases hy with hy | hy
  ·exact cell_has hy
  ·exact absurd rfl (S.nofree _ (PySem.mem_of_lookup hy))
 ·exact Nat.le_of_lt (x.above y c (PySem.mem_of_lookup h))
 ·have hi:i < vs.length:=by
   unfold start at h2
   by_cases hi:i < vs.length
   ·exact hi
   ·rw [List.getElem?_append_right (by simpa using hi)] at h2
    rw [List.getElem?_replicate] at h2
    split at h2 <;> cases h2
  have ha:vs[i]? = some v:=by
   unfold start at h2
   rw [List.getElem?_append_left (by simpa using hi),List.getElem?_map] at h2
   cases e:vs[i]? with
   | none=>rw [e] at h2;cases h2
   | some a=>rw [e] at h2;cases h2;rfl
  obtain ⟨u,hu,rv⟩:=r.get ha
  have hp:ps[i]? = some y:=by
   rw [←S.pre,List.getElem?_take_of_lt (by omega)];exact h1
  have ndP:ps.Nodup:=by rw [←S.pre];exact S.nd.sublist (List.take_sublist _ _)
  refine ⟨u,rv,?_⟩
  rcases S.par y (List.mem_of_getElem? hp) with k | k
  ·exact .inl ⟨k,bindL_get ndP hp hu k⟩
  ·obtain ⟨c,e⟩:=cell_has (n:=s.heap.objs.size+1) k
   refine .inr ⟨.inl k,c,e,?_⟩
   have q:=x.cell y c e
   rw [bindC_get ndP hp hu (by show scope.names.lookup y≠_;rw [k];decide)] at q
   exact q
 ·exact e0.hok.fresh (Nat.le_of_lt (x.above y c (PySem.mem_of_lookup h)))
 ·unfold start
  show _=N.length
  rw [List.length_append,List.length_map,List.length_replicate]
  omega

theorem fn_of {CX:CXT}{P:Program}{w:World}{K:PySem.W.Frag}{mg:Str→Option Value}{base:Heap}{k:Nat}{f:Addr}{name qual:Str}{params:Arguments}{body:List Stmt}{scope:Scope}{dV kV doc pm cdv ct oc:Value}{an od:Option Addr}
  {osl:Array (Option Value)}{N ps:List Str}{sp:Sp} (lk:K.lookup f=some ⟨oc,od,.func (PySem.W.fnOf name qual params body scope dV kV doc pm an cdv ct),osl⟩) (hcd:PySem.W.codeIn K cdv qual=true) (S:FnScope N ps scope)
  (len:∀ vs H Q E,sp vs H Q E→vs.length=ps.length)
  (hbody:∀ (A:Around) (outer:List Env) (s:Shared) (H:Hp) (vs:List V) (Q:VK) (E:XK),Room k (A.deeper (envOfC qual scope s.heap.objs.size f cdv))→sp vs H Q E →
   ∃ t,PSs (cxOf CX P w K mg base N qual scope f cdv A outer s H E) body t∧t { nx:=fun _ H'=>Q .non H',rt:=Q } (start N vs) H) :
  FnOk P w K mg base CX (k+1) f (PySem.W.fnOf name qual params body scope dV kV doc pm an cdv ct) ps sp:=by
 refine ⟨len,fun A outer s H args us vs Q E hr e0 hb r hsp=>?_⟩
 have hl:=len _ _ _ _ hsp
 have KX:K.In s.heap:=e0.mod.kin.keeps fun b o e=>(e0.bs b o e).1
 have lim:s.heap.NoLimit:=e0.mod.nolimit.keeps fun b o e=>(e0.bs b o e).1
 have hkind:∀ y∈ps.zip us,scope.names.lookup y.1=some .local∨(scope.names.lookup y.1=some .cell∧((cellsFrom (s.heap.objs.size+1) scope.names []).lookup y.1).isSome=true):=fun ⟨n,v⟩ hy=>by
  rcases S.par n (List.of_mem_zip hy).1 with q | q
  ·exact .inl q
  ·exact .inr ⟨q,PySem.W.cellsFrom_some _ _ _ (.inl q)⟩
 refine codeAny_call_function hr.depth (KX _ _ lk) rfl S.co S.gen rfl (PySem.W.codeRec_of KX hcd) (hb _ _ _ _ ?_)
 refine wpAny_newFunctionEnv_cells S.kind hkind fun env he s1 x=>?_
 subst he
 refine ⟨lim.keeps x.toInCall.keep,codeAny_func ?_⟩
 obtain ⟨t,ht,hq⟩:=hbody A outer s H vs Q E (hr.deeper _) hsp
 have I:Inv (cxOf CX P w K mg base N qual scope f cdv A outer s H E) [] (start N vs) H s1:=inv_start S hr.hd e0 hl r x
 refine wpAny_mono (ht [] s1 (start N vs) H _ I hq) (fun fl s' hs=>?_) fun e s' hs=>hs
 have fin:∀ {σ':St}{H':Hp}{v:V}{u:Value},Inv (cxOf CX P w K mg base N qual scope f cdv A outer s H E) [] σ' H' s'→RelV v u→Q v H'→CE outer P w H s Q u s' :=
  fun {σ' H' v u} J rv q=>⟨v,H',J.os,J.bare,J.base,J.hok,rv,q⟩
 cases fl with
 | ret u =>
  obtain ⟨v,σ',H',J,rv,q⟩:=hs
  exact fin J rv q
 | next =>
  obtain ⟨σ',H',J,q⟩:=hs
  exact fin (v:=V.non) (u:=Value.none) J rfl q
 | brk =>
  obtain ⟨_,_,_,q⟩:=hs
  exact False.elim q
 | cont =>
  obtain ⟨_,_,_,q⟩:=hs
  exact False.elim q
end L2

namespace L2
open PySem PySem.Spec PyProof.Rows
section
variable {X:Cx}{x:Str}{p pos:Pos}{e:Expr}{es:List Expr}{t:TA}{id T:String}{r:List V→Hp→VK→Prop}

def tCB (r:List V→Hp→VK→Prop) (t:TA):TE:=fun σ H Q=>t σ H fun vs H1=>r vs H1 Q
theorem pe_callB (hc:CallR X (.builtin id) r) (hg:Gl X x) (hm:X.mg x=none) (hv:bootBuiltins x=some (.builtin id)) (ha:PA X (e::es) t) (hn:x ≠ "__name__":=by decide) (hdb:(x == ("__debug__":Str))=false:=by decide)
  (he:starEach (e::es) X.env=(false,eval e X.env)::starEach es X.env:=by rfl) (hpl:(backTo pos (starEach es X.env)).any (·.1)=false:=by rfl):PE X (.Call (.Name x p) (e::es) [] pos) (tCB r t):=by
 intro pins s σ H Q I h
 refine wpAny_Call_Name_kw (ld_blt I hg hm hv ?_ hn hdb)
 exact PyProof.Rows.callWith_builtin1 (thn (ha pos pins s σ H _ I h) fun us s1 ⟨vs,H1,I1,r1,q1⟩=>hc pins s1 σ H1 vs us Q I1 r1 q1) he hpl
theorem pe_callTy (hc:CallR X (.type T) r) (hg:Gl X x) (hm:X.mg x=none) (hv:bootBuiltins x=some (.type T)) (ha:PA X (e::es) t) (hn:x ≠ "__name__":=by decide) (hdb:(x == ("__debug__":Str))=false:=by decide)
  (he:starEach (e::es) X.env=(false,eval e X.env)::starEach es X.env:=by rfl) (hpl:(backTo pos (starEach es X.env)).any (·.1)=false:=by rfl):PE X (.Call (.Name x p) (e::es) [] pos) (tCB r t):=by
 intro pins s σ H Q I h
 refine wpAny_Call_Name_kw (ld_blt I hg hm hv ?_ hn hdb)
 exact PyProof.Rows.callWith_type1 (thn (ha pos pins s σ H _ I h) fun us s1 ⟨vs,H1,I1,r1,q1⟩=>hc pins s1 σ H1 vs us Q I1 r1 q1) he hpl
end
end L2

namespace HT
open PySem PyProof.Rows

section
open PySem.SeqAt
open PySem.AutoSeq1 (wpAny_loadPart')
open PySem.MeetsSeq PySem.MeetsSeq2 PySem.MeetsSeq3

end

section
variable {prog:Program}{w:World}{A:Around}{E:Value→Shared→Prop}{s:Shared}

def sIx (n d:Nat):Option Int→Nat
 | none=>d
 | some v=>if v < 0 then (v+(n:Int)).toNat else min v.toNat n
theorem sIx_none (n d:Nat):sIx n d none=d:=rfl
theorem sIx_nat (n d k:Nat):sIx n d (some (k:Int))=min k n:=by
 show (if (k:Int) < 0 then ((k:Int)+(n:Int)).toNat else min (k:Int).toNat n)=min k n
 rw [if_neg (by omega),Int.toNat_natCast]
end
end HT

namespace L2
open PySem PySem.Spec PyProof.Rows

abbrev TO:=St→Hp→(Option Int→Hp→Prop)→Prop
def PO (X:Cx) (e:Option Expr) (t:TO):Prop :=
 ∀ (pins:List (Addr×Obj)) (s:Shared) (σ:St) (H:Hp) (Q:Option Int→Hp→Prop),Inv X pins σ H s→t σ H Q →
  wpAny (model X.prog X.w) X.A (evalPart e X.env) (fun u s'=>∃ o H',Inv X pins σ H' s'∧IsPart u o∧Q o H') X.xe s
def tNoPart:TO:=fun _ H Q=>Q none H
def tPart (t:TE):TO:=fun σ H Q=>t σ H fun x H1=>∃ i,x = .int i∧Q (some i) H1

theorem intsAre_of {ns:List Int}:∀ {us:List Value},Vals (ns.map V.int) us→IntsAre us ns:=by
 induction ns with
 | nil=>intro us r;rw [List.map_nil] at r;cases r;exact .nil
 | cons n ns ih =>
  intro us r
  rw [List.map_cons] at r
  cases r with
  | cons r1 r2 =>
   obtain ⟨t,e⟩:=r1
   subst e
   exact .cons n t (ih r2)

section
variable {X:Cx}{e:Expr}{te:TE}{lo hi:Option Expr}{tl th:TO}{pos p2:Pos}

theorem po_none:PO X none tNoPart:=by
 intro pins s σ H Q I h
 rw [evalPart_none]
 exact wpAny_pure ⟨none,H,I,.none,h⟩
theorem po_some (h:PE X e te):PO X (some e) (tPart te):=by
 intro pins s σ H Q I hw
 rw [evalPart_some]
 refine thn (h pins s σ H _ I hw) fun u s1 ⟨x,H1,I1,r1,q1⟩=>?_
 obtain ⟨i,rfl,q⟩:=q1
 obtain ⟨t,rfl⟩:=r1
 exact ⟨some i,H1,I1,.int i t,q⟩

def SlR (X:Cx) (r:V→Option Int→Option Int→Hp→VK→Prop):Prop :=
 ∀ (pins:List (Addr×Obj)) (s:Shared) (σ:St) (H:Hp) (x:V) (v vl vu:Value) (lo hi:Option Int) (sl:Addr) (Q:VK),Inv X pins σ H s→RelV x v→s.heap.IsSliceOf sl vl vu .none→IsPart vl lo→IsPart vu hi→r x lo hi H Q →
  ∃ T id,typeLookup (.type T) "__getitem__" = pure (some (.builtin id))∧s.TypeIs v T∧wpAny (model X.prog X.w) X.A (getItem v (.ref sl)) (EP X pins σ Q) X.xe s
def tSl (r:V→Option Int→Option Int→Hp→VK→Prop) (te:TE) (tl th:TO):TE:=fun σ H Q=>te σ H fun x H1=>tl σ H1 fun l H2=>th σ H2 fun u H3=>r x l u H3 Q
theorem pe_slice {r:V→Option Int→Option Int→Hp→VK→Prop} (hr:SlR X r) (he:PE X e te) (hl:PO X lo tl) (hu:PO X hi th):PE X (.Subscript e (.Slice lo hi none p2) pos) (tSl r te tl th):=by
 intro pins s σ H Q I h
 refine Subscript_ (thn (he pins s σ H _ I h) fun v s1 ⟨x,H1,I1,r1,q1⟩=>?_)
 refine wpAny_Slice (thn (hl pins s1 σ H1 _ I1 q1) fun vl s2 ⟨l,H2,I2,pl,q2⟩=>thn (hu pins s2 σ H2 _ I2 q2) fun vu s3 ⟨u,H3,I3,pu,q3⟩=>?_)
 rw [evalPart_none]
 refine wpAny_pure ?_
 have I4:Inv X pins σ H3 { s3 with heap:=s3.heap.push { cls:=.type "slice",data:=.fields #[vl,vu,.none] } }:=I3.kept (t':=s3.toks) fun b ob q=>Heap.get?_push_of_some _ q
 obtain ⟨T,id,hT,ht,hg⟩:=hr pins { s3 with heap:=s3.heap.push { cls:=.type "slice",data:=.fields #[vl,vu,.none] } } σ H3 x v vl vu l u s3.heap.objs.size Q I4 r1 (Heap.IsSliceOf.new ..) pl pu q3
 show wpAny (model X.prog X.w) X.A (subscriptTail e (.Slice lo hi none p2) v (.ref s3.heap.objs.size)) (EP X pins σ Q) X.xe { s3 with heap:=s3.heap.push { cls:=.type "slice",data:=.fields #[vl,vu,.none] } }
 exact tail_any (ops:=[.ref s3.heap.objs.size,v]) ht hT hg (by with_unfolding_all rfl)

def cutV (xs:List V) (lo hi:Option Int):List V:=(xs.drop (HT.sIx xs.length 0 lo)).take (HT.sIx xs.length xs.length hi-HT.sIx xs.length 0 lo)
theorem cutV_length (xs:List V) (lo hi:Option Int):(cutV xs lo hi).length≤xs.length:=by
 unfold cutV
 rw [List.length_take,List.length_drop]
 omega
end
end L2

namespace L2
open PySem PySem.Spec PyProof.Rows

def ixN (n:Nat) (i:Int):Option Nat:=if 0≤i then (if i < n then some i.toNat else none) else if -(n:Int)≤i then some (i+n).toNat else none
def atI {α:Type} (xs:List α) (i:Int):Option α:=(ixN xs.length i).bind fun j=>xs[j]?
theorem ixN_seq {n:Nat}{i:Int}{j:Nat} (h:ixN n i=some j):seqIndex? i n=some j∧j < n∧-(n:Int)≤i∧i < n:=by
 unfold ixN at h
 by_cases h0:0≤i
 ·rw [if_pos h0] at h
  by_cases h1:i < n
  ·rw [if_pos h1] at h
   have e:i.toNat=j:=Option.some.inj h
   exact ⟨by rw [seqIndex_of h0 h1,e],by omega,by omega,h1⟩
  ·rw [if_neg h1] at h;cases h
 ·rw [if_neg h0] at h
  by_cases h1:-(n:Int)≤i
  ·rw [if_pos h1] at h
   have e:(i+n).toNat=j:=Option.some.inj h
   exact ⟨by rw [seqIndex_neg (by omega) h1,e],by omega,h1,by omega⟩
  ·rw [if_neg h1] at h;cases h
theorem atI_get {α:Type}{xs:List α}{i:Int}{v:α} (h:atI xs i=some v):∃ j,seqIndex? i xs.length=some j∧xs[j]? = some v∧j < xs.length∧-(xs.length:Int)≤i∧i < xs.length:=by
 unfold atI at h
 cases e:ixN xs.length i with
 | none=>rw [e] at h;cases h
 | some j =>
  rw [e] at h
  obtain ⟨h1,h2,h3,h4⟩:=ixN_seq e
  exact ⟨j,h1,h,h2,h3,h4⟩
theorem atI_nat {α:Type}{xs:List α}{j:Nat}{v:α} (h:xs[j]? = some v):atI xs (j:Int)=some v:=by
 have hj:j < xs.length:=(List.getElem?_eq_some_iff.mp h).1
 have e:ixN xs.length (j:Int)=some j:=by
  unfold ixN
  rw [if_pos (by omega),if_pos (by omega)];simp
 unfold atI;rw [e];exact h
theorem atI_last {α:Type} (xs:List α) (v:α):atI (xs ++ [v]) (-1)=some v:=by
 have hl:(xs ++ [v]).length=xs.length+1:=by simp
 have e:ixN (xs ++ [v]).length (-1)=some xs.length:=by
  unfold ixN
  rw [hl,if_neg (by decide),if_pos (by omega)]
  congr 1
  omega
 unfold atI
 rw [e]
 show (xs ++ [v])[xs.length]? = some v
 simp

def PlainIx (b:Expr):Prop:=∀ o i,subscripted b false o i=operate [o,i] (getItem o i)
def IxR (X:Cx) (r:R2):Prop :=
 ∀ (value slice:Expr) (pins:List (Addr×Obj)) (s:Shared) (σ:St) (H:Hp) (x y:V) (v u:Value) (Q:VK),Inv X pins σ H s→RelV x v→RelV y u→r x y H Q →
  subscripted slice false v u=operate [v,u] (getItem v u)→wpAny (model X.prog X.w) X.A (subscriptTail value slice v u) (EP X pins σ Q) X.xe s
def MtR (X:Cx) (id:String) (r:V→List V→Hp→VK→Prop):Prop :=
 ∀ (pins:List (Addr×Obj)) (s:Shared) (σ:St) (H:Hp) (x:V) (xs:List V) (v:Value) (us:List Value) (Q:VK),Inv X pins σ H s→RelV x v→Vals xs us→r x xs H Q →
  wpAny (model X.prog X.w) X.A (call (.builtin id) (v::us)) (EP X pins σ Q) X.xe s
section
variable {X:Cx}{a b:Expr}{ta tb:TE}{pos:Pos}
theorem pe_ix {r:R2} (hr:IxR X r) (ha:PE X a ta) (hb:PE X b tb) (hs:PlainIx b):PE X (.Subscript a b pos) (tOp r ta tb):=by
 intro pins s σ H Q I h
 exact Subscript_ (binT ha hb I h fun v u s2 x y H2 I2 rx ry q=>hr a b pins s2 σ H2 x y v u Q I2 rx ry q (hs _ _))

def rIxL (K:PySem.W.Frag):R2:=fun x y H Q=>∃ p xs i v,x = .ref p∧y = .int i∧SqL K H p xs∧atI xs i=some v∧Q v H
def rIxT (K:PySem.W.Frag):R2:=fun x y H Q=>∃ p xs i v,x = .ref p∧y = .int i∧SqT K H p xs∧atI xs i=some v∧Q v H
theorem ix_list:IxR X (rIxL X.K):=by
 intro value slice pins s σ H x y v u Q I rx ry h hs
 obtain ⟨p,xs,i,z,rfl,rfl,hq,he,q⟩:=h
 cases rx
 obtain ⟨t,rfl⟩:=ry
 obtain ⟨its,r,pl,hz⟩:=I.list hq
 obtain ⟨j,h1,h2,h3,h4,h5⟩:=atI_get he
 obtain ⟨w,ew,rw'⟩:=r.get h2
 have hl:=r.length
 have hn:=line63
 have fin:EP X pins σ Q w s:=⟨z,H,I,rw',q⟩
 by_cases h0:0≤i
 ·have hj:i.toNat=j:=by
   rw [seqIndex_of h0 h5] at h1
   exact Option.some.inj h1
  exact item_listR pl.isList h0 (by omega) (by rw [hj];simpa using ew) fin hs
 ·have hj:(i+(its.toArray.size:Int)).toNat=j:=by
   rw [seqIndex_neg (by omega) h4] at h1
   rw [List.size_toArray,←hl]
   exact Option.some.inj h1
  exact subscriptTail_builtinR (x:=w) pl.isList.typeIs slot_list_getitem.lookup
   (wpAny_getItem_list_neg (Q:=fun r s'=>r=w∧EP X pins σ Q r s') pl.isList (by omega) (by rw [List.size_toArray] <;> omega) (by omega) (by rw [hj];simpa using ew) ⟨rfl,fin⟩) hs
theorem ix_tup:IxR X (rIxT X.K):=by
 intro value slice pins s σ H x y v u Q I rx ry h hs
 obtain ⟨p,xs,i,z,rfl,rfl,hq,he,q⟩:=h
 cases rx
 obtain ⟨t,rfl⟩:=ry
 obtain ⟨its,r,pl,hz⟩:=I.tuple hq
 obtain ⟨j,h1,h2,h3,h4,h5⟩:=atI_get he
 obtain ⟨w,ew,rw'⟩:=r.get h2
 have hl:=r.length
 have hn:=line63
 have fin:EP X pins σ Q w s:=⟨z,H,I,rw',q⟩
 exact subscriptTail_builtinR (x:=w) pl.typeIs slot_tuple_getitem.lookup
  (getItem_tuple (j:=j) (Q:=fun r s'=>r=w∧EP X pins σ Q r s') pl (by omega) (by omega) (by rw [List.size_toArray,←hl];exact h1) (by simpa using ew) ⟨rfl,fin⟩) hs
theorem mapSeq_set (its:List Value) (n j:Nat) (u:Value):Obj.mapSeq (·.setIfInBounds j u) { cls:=.type "list",data:=.seq its.toArray n } = { cls:=.type "list",data:=.seq (its.set j u).toArray n }:=by
 simp [Obj.mapSeq]
theorem Inv.lst {pins:List (Addr×Obj)}{σ:St}{H:Hp}{s:Shared}{p:Addr}{xs:List V} (I:Inv X pins σ H s) (h:H p=some (.lst xs)) :
  ∃ (its:List Value) (n:Nat),Vals xs its∧s.heap.get? p=some { cls:=.type "list",data:=.seq its.toArray n }∧xs.length≤sizeLine:=by
 obtain ⟨z,its,n,r,e⟩:=I.hok p _ h
 exact ⟨its,n,r,e,z⟩
theorem Inv.lstUpd {pins:List (Addr×Obj)}{σ:St}{H:Hp}{s:Shared}{p:Addr}{xs ys:List V}{its its':List Value}{n n':Nat}{f:Obj→Obj} (I:Inv X pins σ H s) (h:H p=some (.lst xs))
  (ho:s.heap.get? p=some { cls:=.type "list",data:=.seq its.toArray n }) (hf:f { cls:=.type "list",data:=.seq its.toArray n } = { cls:=.type "list",data:=.seq its'.toArray n' }) (r:Vals ys its') (hz:ys.length≤sizeLine) (t:Nat) :
  Inv X pins σ (upd H p (.lst ys)) { s with heap:=s.heap.update p f,toks:=t }:=by
 have e:(s.heap.update p f).get? p=some { cls:=.type "list",data:=.seq its'.toArray n' }:=by
  rw [Heap.get?_update_self f ho (by rw [hf] <;> rfl),hf]
 refine I.write (x:=p) (e:=p) (by rw [h];trivial) (.inl rfl) (fun b u hb q=>(Heap.get?_update_other _ _ (Ne.symm hb)).trans q) ⟨_,e⟩ ?_
 exact ⟨hz,its',n',r,e⟩
def rSetL:V→V→V→Hp→(Hp→Prop)→Prop:=fun o i v H Q=>∃ p xs k j,o = .ref p∧i = .int k∧H p=some (.lst xs)∧ixN xs.length k=some j∧Q (upd H p (.lst (xs.set j v)))
theorem set_list:PSet X rSetL:=by
 intro pins s σ H o i v ov iv u Q I ro ri rv h
 obtain ⟨p,xs,k,j,rfl,rfl,hp,hj,q⟩:=h
 cases ro
 obtain ⟨t,rfl⟩:=ri
 obtain ⟨its,n,r,ho,hz⟩:=I.lst hp
 obtain ⟨h1,h2,h3,h4⟩:=ixN_seq hj
 have hl:=r.length
 have hn:=line63
 have I':Inv X pins σ (upd H p (.lst (xs.set j v))) { s with heap:=s.heap.update p (Obj.mapSeq (·.setIfInBounds j u)) } :=
  I.lstUpd hp ho (mapSeq_set its n j u) (r.set rv j) (by rw [List.length_set];exact hz) s.toks
 by_cases h0:0≤k
 ·have hk:k.toNat=j:=by
   rw [seqIndex_of h0 h4] at h1
   exact Option.some.inj h1
  exact PySem.W.ki_setAt ho h0 (by omega) (by rw [List.size_toArray,←hl];exact h4) (by rw [hk];exact ⟨_,I',q⟩)
 ·have hk:(k+(its.toArray.size:Int)).toNat=j:=by
   rw [seqIndex_neg (by omega) h3] at h1
   rw [List.size_toArray,←hl]
   exact Option.some.inj h1
  exact PySem.W.ki_setBack ho (by omega) (by rw [List.size_toArray,←hl];exact h3) (by omega) (by rw [hk];exact ⟨_,I',q⟩)

theorem slice_bounds (lo hi:Option Int) (n:Nat):(sliceBounds lo hi none n).1=((HT.sIx n 0 lo:Nat):Int)∧(sliceBounds lo hi none n).2.1=((HT.sIx n n hi:Nat):Int)∧(sliceBounds lo hi none n).2.2=1:=by
 refine ⟨?_,?_,rfl⟩
 ·cases lo with
  | none=>simp [sliceBounds,HT.sIx]
  | some i =>
   simp only [sliceBounds,HT.sIx,Option.getD_none,show (1:Int) > 0 by decide,if_true]
   by_cases h:i < 0
   ·simp only [h,if_true] <;> omega
   ·simp only [h,if_false] <;> omega
 ·cases hi with
  | none=>simp [sliceBounds,HT.sIx]
  | some i =>
   simp only [sliceBounds,HT.sIx,Option.getD_none,show (1:Int) > 0 by decide,if_true]
   by_cases h:i < 0
   ·simp only [h,if_true] <;> omega
   ·simp only [h,if_false] <;> omega
theorem slicePick_cut (its:List Value) (lo hi:Option Int):slicePick its.toArray lo hi none=((its.drop (HT.sIx its.length 0 lo)).take (HT.sIx its.length its.length hi-HT.sIx its.length 0 lo)).toArray:=by
 obtain ⟨h1,h2,h3⟩:=slice_bounds lo hi its.toArray.size
 unfold slicePick
 rw [h1,h2,h3]
 simp only [sliceRange_one,pick_run,List.size_toArray] <;> rfl
def rSlL (K:PySem.W.Frag):V→Option Int→Option Int→Hp→VK→Prop:=fun x lo hi H Q=>∃ a xs,x = .ref a∧SqL K H a xs∧∀ p,H p=none→Q (.ref p) (upd H p (.lst (cutV xs lo hi)))
theorem sl_list:SlR X (rSlL X.K):=by
 intro pins s σ H x v vl vu lo hi sl Q I rx hs pl pu h
 obtain ⟨a,xs,rfl,hx,q⟩:=h
 cases rx
 obtain ⟨its,r,ht,hz⟩:=I.list hx
 have hlen:=r.length
 refine ⟨"list",_,slot_list_getitem.lookup,ht.isList.typeIs,?_⟩
 refine wpAny_getItem_list_slice ht.isList hs pl pu .none (by simp) ?_ (by rw [List.size_toArray] <;> omega)
 rw [slicePick_cut,←hlen]
 refine ⟨.ref s.heap.objs.size,_,I.laid (t':=s.toks) (o:=.lst (cutV xs lo hi)) (fun b ob q=>Heap.get?_push_of_some _ q) (Nat.le_refl _) ?_,rfl,q _ (I.hok.fresh (Nat.le_refl _))⟩
 exact ⟨Nat.le_trans (cutV_length xs lo hi) hz,_,0,(r.drop (HT.sIx xs.length 0 lo)).take (HT.sIx xs.length xs.length hi-HT.sIx xs.length 0 lo),Heap.get?_push_size _ rfl⟩

def flatV:V→Bool
 | .non=>true
 | .bl _=>true
 | .int _=>true
 | .str _=>true
 | _=>false
def eqV:V→V→Bool
 | .non,.non=>true
 | .bl a,.bl b=>a == b
 | .bl a,.int b=>(if a then 1 else 0) == b
 | .int a,.bl b=>a == (if b then 1 else 0)
 | .int a,.int b=>a == b
 | .str a,.str b=>a == b
 | _,_=>false
theorem eqAt_V {A:Around}{s:Shared}{y x:V}{u v:Value} (ry:RelV y u) (rx:RelV x v) (fy:flatV y=true) (fx:flatV x=true):SeqAt.EqAt A s u v (eqV y x):=by
 cases y with
 | non =>
  cases ry
  cases x with
  | non=>cases rx;exact SeqAt.EqAt.same _
  | bl b=>cases rx;exact SeqAt.EqAt.none_bool b
  | int b=>obtain ⟨t,rfl⟩:=rx;exact SeqAt.EqAt.none_int b t
  | str b=>obtain ⟨t,rfl⟩:=rx;exact SeqAt.EqAt.none_str b t
  | _=>exact absurd (show false=true from fx) Bool.false_ne_true
 | bl a =>
  cases ry
  cases x with
  | non=>cases rx;exact SeqAt.EqAt.bool_none a
  | bl b=>cases rx;exact SeqAt.EqAt.bool_bool a b
  | int b=>obtain ⟨t,rfl⟩:=rx;exact SeqAt.EqAt.bool_int a b t
  | str b=>obtain ⟨t,rfl⟩:=rx;exact SeqAt.EqAt.bool_str a b t
  | _=>exact absurd (show false=true from fx) Bool.false_ne_true
 | int a =>
  obtain ⟨t',rfl⟩:=ry
  cases x with
  | non=>cases rx;exact SeqAt.EqAt.int_none a t'
  | bl b=>cases rx;exact SeqAt.EqAt.int_bool a t' b
  | int b=>obtain ⟨t,rfl⟩:=rx;exact SeqAt.EqAt.int_int a t' b t
  | str b=>obtain ⟨t,rfl⟩:=rx;exact SeqAt.EqAt.int_str a t' b t
  | _=>exact absurd (show false=true from fx) Bool.false_ne_true
 | str a =>
  obtain ⟨t',rfl⟩:=ry
  cases x with
  | non=>cases rx;exact SeqAt.EqAt.str_none a t'
  | bl b=>cases rx;exact SeqAt.EqAt.str_bool a t' b
  | int b=>obtain ⟨t,rfl⟩:=rx;exact SeqAt.EqAt.str_int a t' b t
  | str b=>obtain ⟨t,rfl⟩:=rx;exact SeqAt.EqAt.str_str a t' b t
  | _=>exact absurd (show false=true from fx) Bool.false_ne_true
 | _=>exact absurd (show false=true from fy) Bool.false_ne_true
def eqU (x:V) (u:Value):Bool:=match u with
 | .none=>eqV .non x
 | .bool b=>eqV (.bl b) x
 | .int i _=>eqV (.int i) x
 | .str z _=>eqV (.str z) x
 | _=>false
theorem eqU_of {x y:V}{u:Value} (r:RelV y u) (f:flatV y=true):eqU x u=eqV y x:=by
 cases y with
 | non=>cases r;rfl
 | bl b=>cases r;rfl
 | int i=>obtain ⟨t,rfl⟩:=r;rfl
 | str z=>obtain ⟨t,rfl⟩:=r;rfl
 | _=>exact absurd (show false=true from f) Bool.false_ne_true
theorem any_eqU {x:V}:∀ {xs:List V}{us:List Value},Vals xs us→xs.all flatV=true→us.any (eqU x)=xs.any fun y=>eqV y x
 | _,_,.nil,_=>rfl
 | y::xs,u::us,.cons r t,f=>by
  rw [List.all_cons,Bool.and_eq_true] at f
  rw [List.any_cons,List.any_cons,eqU_of r f.1,any_eqU t f.2]
theorem mem_eqAt {A:Around}{s:Shared}{x:V}{v:Value} (rx:RelV x v) (fx:flatV x=true):∀ {xs:List V}{us:List Value},Vals xs us→xs.all flatV=true→∀ u∈us,SeqAt.EqAt A s u v (eqU x u)
 | _,_,.nil,_=>fun u hu=>by cases hu
 | y::xs,u::us,.cons r t,f=>fun u' hu=>by
  rw [List.all_cons,Bool.and_eq_true] at f
  rcases List.mem_cons.mp hu with rfl | hu
  ·rw [eqU_of r f.1];exact eqAt_V r rx f.1 fx
  ·exact mem_eqAt rx fx t f.2 u' hu
def inV (x:V) (xs:List V):Bool:=xs.any fun y=>eqV y x
def rIn (K:PySem.W.Frag) (neg:Bool):R2:=fun x y H Q=>∃ p xs,y = .ref p∧(SqL K H p xs∨SqT K H p xs)∧flatV x=true∧xs.all flatV=true∧Q (.bl (if neg then !inV x xs else inV x xs)) H
theorem op_in_seq:OpR X (compareOp .In) (rIn X.K false):=by
 intro pins s σ H x y v u Q I rx ry h
 obtain ⟨p,xs,rfl,hq,fx,fs,q⟩:=h
 cases ry
 rcases hq with hq | hq
 ·obtain ⟨its,r,pl,hz⟩:=I.list hq
  refine SeqAt.in_listAt (eqU x) pl.isList (fun w hw=>mem_eqAt rx fx r fs w (by simpa using hw)) ⟨.bl _,H,I,rfl,?_⟩
  rw [show its.toArray.any (eqU x)=its.any (eqU x) by simp,any_eqU r fs]
  exact q
 ·obtain ⟨its,r,pl,hz⟩:=I.tuple hq
  refine SeqAt.in_tupleAt (eqU x) pl (fun w hw=>mem_eqAt rx fx r fs w (by simpa using hw)) ⟨.bl _,H,I,rfl,?_⟩
  rw [show its.toArray.any (eqU x)=its.any (eqU x) by simp,any_eqU r fs]
  exact q
theorem op_notIn_seq:OpR X (compareOp .NotIn) (rIn X.K true):=by
 intro pins s σ H x y v u Q I rx ry h
 obtain ⟨p,xs,rfl,hq,fx,fs,q⟩:=h
 cases ry
 rcases hq with hq | hq
 ·obtain ⟨its,r,pl,hz⟩:=I.list hq
  refine SeqAt.notIn_listAt (eqU x) pl.isList (fun w hw=>mem_eqAt rx fx r fs w (by simpa using hw)) ⟨.bl _,H,I,rfl,?_⟩
  rw [show its.toArray.any (eqU x)=its.any (eqU x) by simp,any_eqU r fs]
  exact q
 ·obtain ⟨its,r,pl,hz⟩:=I.tuple hq
  refine SeqAt.notIn_tupleAt (eqU x) pl (fun w hw=>mem_eqAt rx fx r fs w (by simpa using hw)) ⟨.bl _,H,I,rfl,?_⟩
  rw [show its.toArray.any (eqU x)=its.any (eqU x) by simp,any_eqU r fs]
  exact q
theorem call_len_seq:CallR X (.builtin "len") (fun xs H Q=>∃ p ys,xs = [.ref p]∧(SqL X.K H p ys∨SqT X.K H p ys)∧Q (.int ys.length) H):=by
 intro pins s σ H xs us Q I r h
 obtain ⟨p,ys,rfl,hq,q⟩:=h
 obtain ⟨u,rfl,rx⟩:=vals1 r
 cases rx
 have hn:=line63
 rcases hq with hq | hq
 ·obtain ⟨its,r',pl,hz⟩:=I.list hq
  have hlen:=r'.length
  exact Calls.call_len_list pl.isList (by simp only [List.size_toArray] <;> omega) ⟨.int ys.length,H,I.tok _,⟨s.toks+1,by rw [List.size_toArray,hlen]⟩,q⟩
 ·obtain ⟨its,r',pl,hz⟩:=I.tuple hq
  have hlen:=r'.length
  exact len_tuple pl (by simp only [List.size_toArray] <;> omega) ⟨.int ys.length,H,I.tok _,⟨s.toks+1,by rw [List.size_toArray,hlen]⟩,q⟩
theorem call_list_of:CallR X (.type "list") (fun xs H Q=>∃ p ys,xs = [.ref p]∧(SqL X.K H p ys∨SqT X.K H p ys)∧∀ l,H l=none→Q (.ref l) (upd H l (.lst ys))):=by
 intro pins s σ H xs us Q I r h
 obtain ⟨p,ys,rfl,hq,q⟩:=h
 obtain ⟨u,rfl,rx⟩:=vals1 r
 cases rx
 have fin:∀ (its:List Value),Vals ys its→ys.length≤sizeLine→∀ (h':Heap) (c':Nat),(∀ b o',s.heap.get? b=some o'→h'.get? b=some o') →
   h'.get? s.heap.objs.size=some { cls:=.type "list",dict:=none,data:=.seq its.toArray c',slots:=#[] }→EP X pins σ Q (.ref s.heap.objs.size) { s with heap:=h' }:=fun its r' hz h' c' kp e =>
  ⟨.ref s.heap.objs.size,_,I.laid (t':=s.toks) kp (Nat.le_refl _) (show ObjOk X.prog X.w _ h' _ (.lst ys) from ⟨hz,its,c',r',e⟩),rfl,q _ (I.hok.fresh (Nat.le_refl _))⟩
 rcases hq with hq | hq
 ·obtain ⟨its,r',pl,hz⟩:=I.list hq
  have hlen:=r'.length
  obtain ⟨o,ho,hc,n,hd⟩:=pl.isList
  exact call_list_seq p (.inl rfl) ho hc hd (fun h' c' kp e=>fin its r' hz h' c' kp e) (by simp only [List.size_toArray] <;> omega)
 ·obtain ⟨its,r',pl,hz⟩:=I.tuple hq
  have hlen:=r'.length
  obtain ⟨o,ho,hc,n,hd⟩:=pl
  exact call_list_seq p (.inr rfl) ho hc hd (fun h' c' kp e=>fin its r' hz h' c' kp e) (by simp only [List.size_toArray] <;> omega)
def tyV (K:PySem.W.Frag) (T:String) (x:V) (H:Hp):Prop:=match x with
 | .str _=>T = "str"
 | .int _=>T = "int"
 | .ref p=>(T = "list"∧∃ xs,SqL K H p xs)∨(T = "tuple"∧∃ o,K.lookup p=some o∧o.cls = .type "tuple"∧o.dict=none) ∨
   (T = "dict"∧((∃ kvs,H p=some (.dK kvs))∨∃ kvs,H p=some (.dT kvs)))∨(T = "set"∧∃ S n,H p=some (.set S n))
 | _=>False
theorem tyV_is {pins:List (Addr×Obj)}{σ:St}{H:Hp}{s:Shared}{T:String}{x:V}{v:Value} (I:Inv X pins σ H s) (r:RelV x v) (ty:tyV X.K T x H) :
  s.TypeIs v T∧∀ a,v = .ref a→∃ ob,s.heap.get? a=some ob∧ob.dict=none:=by
 cases x with
 | str z =>
  obtain ⟨t,rfl⟩:=r
  cases (show T = "str" from ty)
  exact ⟨typeIs_str s z t,fun _ e=>nomatch e⟩
 | int i =>
  obtain ⟨t,rfl⟩:=r
  cases (show T = "int" from ty)
  exact ⟨typeIs_int s i t,fun _ e=>nomatch e⟩
 | ref p =>
  cases r
  rcases ty with ⟨rfl,xs,hq⟩ | ⟨rfl,o,hk,hc,hd⟩ | ⟨rfl,hk⟩ | ⟨rfl,S,n,hk⟩
  ·obtain ⟨its,_,pl,_⟩:=I.list hq
   refine ⟨pl.isList.typeIs,fun a e=>?_⟩
   cases e
   obtain ⟨o,n,e,c,hd,_⟩:=pl
   exact ⟨o,e,hd⟩
  ·refine ⟨⟨o,I.kIn p o hk,hc⟩,fun a e=>?_⟩
   cases e
   exact ⟨o,I.kIn _ o hk,hd⟩
  ·have z:∃ o,s.heap.get? p=some o∧o.ExactDict:=by
    rcases hk with ⟨kvs,hk⟩ | ⟨kvs,hk⟩
    ·obtain ⟨_,_,_,_,o,_,_,e,ex,_⟩:=I.hok p _ hk
     exact ⟨o,e,ex⟩
    ·obtain ⟨_,_,_,_,o,_,_,e,ex,_⟩:=I.hok p _ hk
     exact ⟨o,e,ex⟩
   obtain ⟨o,e,ex⟩:=z
   refine ⟨⟨o,e,ex.1⟩,fun a e2=>?_⟩
   cases e2
   exact ⟨o,e,ex.2.1⟩
  ·obtain ⟨o,_,_,_,e,ex,_⟩:=I.hok p _ hk
   refine ⟨⟨o,e,ex.1⟩,fun a e2=>?_⟩
   cases e2
   exact ⟨o,e,ex.2.1⟩
 | _=>exact False.elim ty
def tBM0 (K:PySem.W.Frag) (T:String) (r:V→List V→Hp→VK→Prop) (to:TE):TE:=fun σ H Q=>to σ H fun x H1=>tyV K T x H1∧r x [] H1 Q
def tBM (K:PySem.W.Frag) (T:String) (r:V→List V→Hp→VK→Prop) (to:TE) (t:TA):TE:=fun σ H Q=>to σ H fun x H1=>tyV K T x H1∧t σ H1 fun xs H2=>r x xs H2 Q
variable {o e:Expr}{es:List Expr}{to:TE}{t:TA}{name:Str}{apos cpos:Pos}{T id:String}{r:V→List V→Hp→VK→Prop}
theorem pe_bm0 (pa:PlainAttrs T) (slot:Slot T name id) (hty:typeOf (.builtin id)=pure (.type "method_descriptor")) (hm:MtR X id r) (ho:PE X o to)
  (hbase:attributeBase o name X.env (eval o X.env)=eval o X.env:=by rfl) (hline:(apos.endLine == cpos.line)=true:=by rfl):PE X (.Call (.Attribute o name apos) [] [] cpos) (tBM0 X.K T r to):=by
 intro pins s σ H Q I h
 refine wpAny_Call_method0_late hbase hline (thn (ho pins s σ H _ I h) fun v s1 ⟨x,H1,I1,r1,ty,q1⟩=>?_)
 obtain ⟨h1,h2⟩:=tyV_is I1 r1 ty
 exact ⟨T,id,pa,slot,hty,h1,h2,Calls.callWith_builtin rfl (PySem.evalArgs_none (hm pins s1 σ H1 x [] v [] Q I1 r1 .nil q1))⟩
theorem pe_bm (pa:PlainAttrs T) (slot:Slot T name id) (hty:typeOf (.builtin id)=pure (.type "method_descriptor")) (hm:MtR X id r) (ho:PE X o to) (ha:PA X (e::es) t)
  (hbase:attributeBase o name X.env (eval o X.env)=eval o X.env:=by rfl)
  (hfew:((backTo cpos (starEach (e::es) X.env)).all (fun x=>!x.1)&&(backToKw cpos (keywordEach [] X.env)).all (fun x=>x.1.isSome)
   && decide ((e::es).length+([]:List Keyword).length+(if ([]:List Keyword).isEmpty then 0 else 1) < 30))=true:=by rfl)
  (hline:(apos.endLine == cpos.line)=true:=by rfl) (hs:starEach (e::es) X.env=(false,eval e X.env)::starEach es X.env:=by rfl) (hplain:(backTo cpos (starEach es X.env)).any (·.1)=false:=by rfl) :
  PE X (.Call (.Attribute o name apos) (e::es) [] cpos) (tBM X.K T r to t):=by
 intro pins s σ H Q I h
 refine wpAny_Call_method_late hbase hfew hline rfl (thn (ho pins s σ H _ I h) fun v s1 ⟨x,H1,I1,r1,ty,q1⟩=>?_)
 obtain ⟨h1,h2⟩:=tyV_is I1 r1 ty
 refine ⟨T,id,pa,slot,hty,h1,h2,?_⟩
 have hA:=ha cpos pins s1 σ H1 _ I1 q1
 rw [hs] at hA ⊢
 refine Calls.callWith_builtin (by show (false || (backTo cpos (starEach es X.env)).any (·.1))=false;rw [hplain] <;> rfl) (Calls.evalArgs_plain ?_)
 exact thn hA fun us s2 ⟨vs,H2,I2,r2,q2⟩=>hm pins s2 σ H2 x vs v us Q I2 r1 r2 q2
end
end L2

namespace L2
open PySem PySem.Spec PyProof.Rows

def MtM (X:Cx) (id:String) (r:V→List V→Hp→VK→Prop):Prop :=
 ∀ (pins:List (Addr×Obj)) (s:Shared) (σ:St) (H:Hp) (x:V) (xs:List V) (v:Value) (us:List Value) (Q:VK),Inv X pins σ H s→RelV x v→Vals xs us→r x xs H Q →
  wpAny (model X.prog X.w) X.A (call (.builtin id) (v::us)) (EP X pins σ Q) X.xe s

theorem Vals.one:∀ {x:V}{us:List Value},Vals [x] us→∃ u,us = [u]∧RelV x u
 | _,_,.cons r .nil=>⟨_,rfl,r⟩
theorem Vals.zero:∀ {us:List Value},Vals [] us→us = []
 | _,.nil=>rfl
theorem Vals.dropLast {xs:List V}{us:List Value} (h:Vals xs us):Vals xs.dropLast us.dropLast:=by
 induction h with
 | nil=>exact .nil
 | cons r t ih =>
  cases t with
  | nil=>exact .nil
  | cons q t'=>exact .cons r ih
theorem Vals.reverse {xs:List V}{us:List Value} (h:Vals xs us):Vals xs.reverse us.reverse:=by
 induction h with
 | nil=>exact .nil
 | cons r t ih=>rw [List.reverse_cons,List.reverse_cons];exact Vals.append ih (.cons r .nil)
theorem erase_last {α:Type} (l:List α):l.eraseIdx (l.length-1)=l.dropLast:=by
 induction l with
 | nil=>rfl
 | cons a r ih =>
  cases r with
  | nil=>rfl
  | cons b r =>
   have e:(a::b::r).length-1=((b::r).length-1)+1:=by
    have h1:(a::b::r).length=r.length+2:=rfl
    have h2:(b::r).length=r.length+1:=rfl
    omega
   rw [e,List.eraseIdx_cons_succ,ih]
   all_goals rfl
section
variable {X:Cx}{pins:List (Addr×Obj)}{σ:St}{H:Hp}{s:Shared}{l b:Addr}{xs ys zs:List V}

theorem Inv.lset {its its':List Value}{n:Nat}{f:Array Value→Array Value}{t':Nat} (I:Inv X pins σ H s) (hH:H l=some (.lst xs))
  (e:s.heap.get? l=some { cls:=.type "list",data:=.seq its.toArray n }) (hf:f its.toArray=its'.toArray) (hv:Vals ys its') (hz:ys.length≤sizeLine) :
  Inv X pins σ (upd H l (.lst ys)) { s with heap:=s.heap.update l (Obj.mapSeq f),toks:=t' }:=by
 have q:=PySem.IsL.update e f
 rw [hf] at q
 refine I.write (x:=l) (e:=l) (by rw [hH];exact trivial) (.inl rfl) (fun b' u hb hu=>(Heap.get?_update_other s.heap (Obj.mapSeq f) (Ne.symm hb)).trans hu) ⟨_,q⟩ ?_
 exact ⟨hz,its',_,hv,q⟩
theorem Inv.lnew {its:List Value}{t':Nat} (I:Inv X pins σ H s) (hv:Vals ys its) (hz:ys.length≤sizeLine) :
  Inv X pins σ (upd H s.heap.objs.size (.lst ys)) { s with heap:=s.heap.push { cls:=.type "list",data:=.seq its.toArray },toks:=t' } :=
 I.laid (fun _ _ q=>Heap.get?_push_of_some _ q) (Nat.le_refl _) ⟨hz,its,0,hv,Heap.get?_push_size _ rfl⟩
theorem Inv.fresh (I:Inv X pins σ H s):H s.heap.objs.size=none:=I.hok.fresh (Nat.le_refl _)
theorem Inv.lstM (I:Inv X pins σ H s) (hH:H l=some (.lst xs)):xs.length≤sizeLine∧∃ (its:List Value) (n:Nat),Vals xs its∧xs.length=its.length∧s.heap.get? l=some { cls:=.type "list",data:=.seq its.toArray n }:=by
 obtain ⟨z,its,n,r,e⟩:=I.hok l _ hH
 exact ⟨z,its,n,r,r.length,e⟩

theorem notLongL {n:Nat} (h:n≤sizeLine):Builtin.List.listTooLong n=false:=by
 unfold Builtin.List.listTooLong
 exact decide_eq_false (by omega)
end

section
variable {X:Cx}

def rAppend:V→List V→Hp→VK→Prop:=fun x vs H Q=>∃ l xs y,x = .ref l∧vs = [y]∧H l=some (.lst xs)∧xs.length < sizeLine∧Q .non (upd H l (.lst (xs ++ [y])))
theorem mt_append:MtM X "list.append" rAppend:=by
 intro pins s σ H x vs v us Q I rx rv h
 obtain ⟨l,xs,y,rfl,rfl,hH,hz,q⟩:=h
 cases rx
 obtain ⟨u,rfl,ru⟩:=rv.one
 obtain ⟨z,its,n,r,hl,e⟩:=I.lstM hH
 refine call_meets F.slot_list_append ⟨_,e,rfl⟩ F.entry_list_append (F.args_list_append_2 _ _) (PySem.list_append l its.toArray n u (by rw [List.size_toArray];omega)) ⟨e,?_⟩
 refine ⟨.non,_,I.lset (its':=its ++ [u]) hH e (by simp) (r.append (.cons ru .nil)) ?_,rfl,q⟩
 rw [List.length_append,List.length_singleton]
 omega

def rExtend:V→List V→Hp→VK→Prop:=fun x vs H Q=>∃ l b xs zs,x = .ref l∧vs = [.ref b]∧H l=some (.lst xs)∧H b=some (.lst zs)∧xs.length+zs.length≤sizeLine∧Q .non (upd H l (.lst (xs++zs)))
theorem mt_extend:MtM X "list.extend" rExtend:=by
 intro pins s σ H x vs v us Q I rx rv h
 obtain ⟨l,b,xs,zs,rfl,rfl,hH,hB,hz,q⟩:=h
 cases rx
 obtain ⟨u,rfl,ru⟩:=rv.one
 cases ru
 obtain ⟨z,its,n,r,hl,e⟩:=I.lstM hH
 obtain ⟨z2,its2,n2,r2,hl2,e2⟩:=I.lstM hB
 have hsz:its.toArray.size+its2.toArray.size≤sizeLine:=by rw [List.size_toArray,List.size_toArray];omega
 have hlong:¬ (!its.toArray.isEmpty&&Builtin.List.listTooLong (its.toArray.size+its2.toArray.size))=true:=by
  rw [notLongL hsz,Bool.and_false]
  exact Bool.false_ne_true
 refine call_meets F.slot_list_extend ⟨_,e,rfl⟩ F.entry_list_extend (F.args_list_extend_2 _ _)
  (AutoSeq1.list_extend_list_list_0 l its.toArray n b its2.toArray n2 hlong (by rw [List.size_toArray];omega) (by omega)) ⟨e,e2,?_⟩
 refine ⟨.non,_,I.lset (its':=its++its2) hH e (by simp) (r.append r2) ?_,rfl,q⟩
 rw [List.length_append]
 omega

def rPop:V→List V→Hp→VK→Prop:=fun x vs H Q=>∃ l xs y,x = .ref l∧vs = []∧H l=some (.lst xs)∧xs[xs.length-1]? = some y∧Q y (upd H l (.lst xs.dropLast))
theorem mt_pop:MtM X "list.pop" rPop:=by
 intro pins s σ H x vs v us Q I rx rv h
 obtain ⟨l,xs,y,rfl,rfl,hH,hy,q⟩:=h
 cases rx
 have hus:=rv.zero
 subst hus
 obtain ⟨z,its,n,r,hl,e⟩:=I.lstM hH
 obtain ⟨u,hu,ru⟩:=r.get hy
 have hy':its.toArray[its.toArray.size-1]? = some u:=by
  show its.toArray[its.length-1]? = some u
  rw [←Array.getElem?_toList,←hl]
  exact hu
 refine call_meets F.slot_list_pop ⟨_,e,rfl⟩ F.entry_list_pop (F.args_list_pop_1 _) (MeetsSeq.list_pop_last l its.toArray n u hy' (by rw [List.size_toArray];omega)) ⟨e,?_⟩
 refine ⟨y,_,I.lset (its':=its.dropLast) hH e ?_ r.dropLast ?_,ru,q⟩
 ·show its.toArray.eraseIdxIfInBounds (its.toArray.size-1)=its.dropLast.toArray
  rw [List.size_toArray,List.eraseIdxIfInBounds_toArray,erase_last]
 ·rw [List.length_dropLast]
  omega

def rReverse:V→List V→Hp→VK→Prop:=fun x vs H Q=>∃ l xs,x = .ref l∧vs = []∧H l=some (.lst xs)∧Q .non (upd H l (.lst xs.reverse))
theorem mt_reverse:MtM X "list.reverse" rReverse:=by
 intro pins s σ H x vs v us Q I rx rv h
 obtain ⟨l,xs,rfl,rfl,hH,q⟩:=h
 cases rx
 have hus:=rv.zero
 subst hus
 obtain ⟨z,its,n,r,hl,e⟩:=I.lstM hH
 refine call_meets F.slot_list_reverse ⟨_,e,rfl⟩ F.entry_list_reverse (F.args_list_reverse_1 _) (AutoSeq1.list_reverse_list_0 l its.toArray n (by rw [List.size_toArray];omega)) ⟨e,?_⟩
 refine ⟨.non,_,I.lset (its':=its.reverse) hH e (by simp) r.reverse ?_,rfl,q⟩
 rw [List.length_reverse]
 omega

def rCat:R2:=fun x y H Q=>∃ l b xs zs,x = .ref l∧y = .ref b∧H l=some (.lst xs)∧H b=some (.lst zs)∧xs.length+zs.length≤sizeLine∧∀ p,H p=none→Q (.ref p) (upd H p (.lst (xs++zs)))
theorem op_cat:OpR X (binaryOp .Add) rCat:=by
 intro pins s σ H x y v u Q I rx ry h
 obtain ⟨l,b,xs,zs,rfl,rfl,hH,hB,hz,q⟩:=h
 cases rx
 cases ry
 obtain ⟨z,its,n,r,hl,e⟩:=I.lstM hH
 obtain ⟨z2,its2,n2,r2,hl2,e2⟩:=I.lstM hB
 refine PySem.P.add_list e e2 ?_ (by rw [List.size_toArray,List.size_toArray];omega)
 have ea:its.toArray++its2.toArray=(its++its2).toArray:=by simp
 rw [ea]
 exact ⟨.ref _,_,I.lnew (t':=s.toks) (r.append r2) (by rw [List.length_append];omega),rfl,q _ I.fresh⟩
end


end L2

namespace L2
open PySem PySem.Spec PyProof.Rows

section
variable {κ:Type} [DecidableEq κ]
def valV (kvs:List (κ × V)) (k:κ):Option V:=(kvs.find? fun kv=>decide (kv.1=k)).map (·.2)
def putK (kvs:List (κ × V)) (k:κ) (v:V):List (κ × V) :=
 if (kvs.any fun kv=>decide (kv.1=k))=true then kvs.map (fun kv=>if kv.1=k then (kv.1,v) else kv) else kvs ++ [(k,v)]
theorem valV_pos {p:κ × V}{r:List (κ × V)}{k:κ} (e:p.1=k):valV (p::r) k=some p.2:=by simp [valV,List.find?_cons,e]
theorem valV_neg {p:κ × V}{r:List (κ × V)}{k:κ} (e:¬ p.1=k):valV (p::r) k=valV r k:=by simp [valV,List.find?_cons,e]
theorem valV_any (k:κ):∀ kvs:List (κ × V),(kvs.any fun kv=>decide (kv.1=k))=(valV kvs k).isSome
 | []=>rfl
 | p::r=>by
  rw [List.any_cons]
  by_cases e:p.1=k
  ·simp only [valV_pos e,decide_eq_true e,Bool.true_or,Option.isSome_some]
  ·rw [valV_neg e,decide_eq_false e,Bool.false_or];exact valV_any k r
theorem length_putK (kvs:List (κ × V)) (k:κ) (v:V):(putK kvs k v).length≤kvs.length+1:=by
 unfold putK
 split
 ·rw [List.length_map];omega
 ·rw [List.length_append,List.length_cons,List.length_nil];omega
theorem putK_new {kvs:List (κ × V)}{k:κ} (v:V) (h:valV kvs k=none):putK kvs k v=kvs ++ [(k,v)]:=by
 unfold putK
 rw [valV_any,h]
 exact if_neg (by decide)

theorem RelO.isSome_eq {o:Option V}{u:Option Value} (r:RelO o u):o.isSome=u.isSome:=by
 cases o with
 | none=>cases u with
  | none=>rfl
  | some _=>exact (show False from r).elim
 | some _=>cases u with
  | none=>exact (show False from r).elim
  | some _=>rfl
theorem RelO.getD {o:Option V}{u:Option Value}{d:V}{d':Value} (r:RelO o u) (rd:RelV d d'):RelV (o.getD d) (u.getD d'):=by
 cases o with
 | none=>cases u with
  | none=>exact rd
  | some _=>exact (show False from r).elim
 | some _=>cases u with
  | none=>exact (show False from r).elim
  | some _=>exact r

theorem KV.val {kvs:List (κ × V)}{vs:List (κ × Value)} (r:KV kvs vs) (k:κ):RelO (valV kvs k) (valueAt vs k):=by
 unfold KV at r
 induction r with
 | nil=>exact True.intro
 | @cons p q ps qs h t ih =>
  obtain ⟨h1,h2⟩:=h
  by_cases e:p.1=k
  ·have e':q.1=k:=h1.symm.trans e
   have b:valueAt (q::qs) k=some q.2:=by simp [valueAt,List.find?_cons,e']
   rw [valV_pos e,b];exact h2
  ·have e':¬ q.1=k:=fun z=>e (h1.trans z)
   have b:valueAt (q::qs) k=valueAt qs k:=by simp [valueAt,List.find?_cons,e']
   rw [valV_neg e,b];exact ih
theorem KV.any {kvs:List (κ × V)}{vs:List (κ × Value)} (r:KV kvs vs) (k:κ):(kvs.any fun kv=>decide (kv.1=k))=vs.any fun kv=>decide (kv.1=k):=by
 unfold KV at r
 induction r with
 | nil=>rfl
 | cons h t ih=>rw [List.any_cons,List.any_cons,ih,h.1]
theorem KV.repl {kvs:List (κ × V)}{vs:List (κ × Value)} (r:KV kvs vs) (k:κ) {y:V}{u:Value} (ry:RelV y u) :
  KV (kvs.map fun kv=>if kv.1=k then (kv.1,y) else kv) (vs.map fun kv=>if kv.1=k then (kv.1,u) else kv):=by
 unfold KV at r ⊢
 induction r with
 | nil=>exact .nil
 | @cons p q ps qs h t ih =>
  rw [List.map_cons,List.map_cons]
  refine .cons ?_ ih
  obtain ⟨h1,h2⟩:=h
  by_cases e:p.1=k
  ·rw [if_pos e,if_pos (h1.symm.trans e)];exact ⟨h1,ry⟩
  ·rw [if_neg e,if_neg (fun z=>e (h1.trans z))];exact ⟨h1,h2⟩
theorem KV.put {kvs:List (κ × V)}{vs:List (κ × Value)} (r:KV kvs vs) (k:κ) {y:V}{u:Value} (ry:RelV y u):KV (putK kvs k y) (stored vs k u):=by
 unfold putK stored
 rw [r.any k]
 by_cases e:(vs.any fun kv=>decide (kv.1=k))=true
 ·rw [if_pos e,if_pos e];exact r.repl k ry
 ·rw [if_neg e,if_neg e];exact Paired.snoc r ⟨rfl,ry⟩
theorem KV.length {kvs:List (κ × V)}{vs:List (κ × Value)} (r:KV kvs vs):kvs.length=vs.length:=Paired.length r
end


theorem kV_is {P:Program}{w:World}{k:Key}{u:Value} (r:RelV (kV k) u):(mixKind P w).is k u=true:=by
 cases k with
 | inl i=>obtain ⟨t,e⟩:=(show ∃ t,u=Value.int i t from r);subst e;exact mixKind_int P w i t
 | inr x=>obtain ⟨t,e⟩:=(show ∃ t,u=Value.str x t from r);subst e;exact mixKind_str P w x t
theorem items_are {P:Program}{w:World}:∀ {ks:List Key}{us:List Value},Vals (ks.map kV) us→ItemsAre (mixKind P w) ks us
 | [],_,r=>by rw [List.map_nil] at r;cases r;exact .nil
 | k::ks,_,r=>by
  rw [List.map_cons] at r
  cases r with
  | cons h t=>exact .cons (kV_is h) (items_are t)

abbrev KT (H:Hp):List (List Key×V)→List (List Key×Addr×Value)→Prop:=Paired fun p q=>p.1=q.1∧H q.2.1=some (.tup (p.1.map kV))∧RelV p.2 q.2.2
theorem KT.val {H:Hp}{kvs:List (List Key×V)}{xs:List (List Key×Addr×Value)} (r:KT H kvs xs) (k:List Key):RelO (valV kvs k) ((atKey xs k).map (·.2)):=by
 induction r with
 | nil=>exact True.intro
 | @cons p q ps qs h t ih =>
  obtain ⟨h1,_,h2⟩:=h
  by_cases e:p.1=k
  ·have e':q.1=k:=h1.symm.trans e
   have b:atKey (q::qs) k=some q.2:=by simp [atKey,List.find?_cons,e']
   rw [valV_pos e,b];exact h2
  ·have e':¬ q.1=k:=fun z=>e (h1.trans z)
   have b:atKey (q::qs) k=atKey qs k:=by simp [atKey,List.find?_cons,e']
   rw [valV_neg e,b];exact ih
theorem KT.repl {H:Hp}{kvs:List (List Key×V)}{xs:List (List Key×Addr×Value)} (r:KT H kvs xs) (k:List Key) {y:V}{u:Value} (ry:RelV y u) :
  KT H (kvs.map fun kv=>if kv.1=k then (kv.1,y) else kv) (xs.map (putAt k u)):=by
 induction r with
 | nil=>exact .nil
 | @cons p q ps qs h t ih =>
  rw [List.map_cons,List.map_cons]
  refine .cons ?_ ih
  obtain ⟨h1,h2,h3⟩:=h
  unfold putAt
  by_cases e:p.1=k
  ·rw [if_pos e,if_pos (h1.symm.trans e)];exact ⟨h1,h2,ry⟩
  ·rw [if_neg e,if_neg (fun z=>e (h1.trans z))];exact ⟨h1,h2,h3⟩
theorem KT.put {H:Hp}{kvs:List (List Key×V)}{xs:List (List Key×Addr×Value)} (r:KT H kvs xs) (k:List Key) {b:Addr}{y:V}{u:Value} (hb:H b=some (.tup (k.map kV))) (ry:RelV y u) :
  KT H (putK kvs k y) (storedH xs k b u):=by
 have e:(kvs.any fun kv=>decide (kv.1=k))=(atKey xs k).isSome:=by
  rw [valV_any,(r.val k).isSome_eq,Option.isSome_map]
 unfold putK storedH
 rw [e]
 by_cases q:(atKey xs k).isSome=true
 ·rw [if_pos q,if_pos q];exact r.repl k ry
 ·rw [if_neg q,if_neg q];exact Paired.snoc r ⟨rfl,hb,ry⟩
theorem KT.keeps {H H':Hp}{kvs:List (List Key×V)}{xs:List (List Key×Addr×Value)} (r:KT H kvs xs) (ht:∀ b ys,H b=some (.tup ys)→H' b=some (.tup ys)):KT H' kvs xs :=
 Paired.mapP r fun _ _ z=>⟨z.1,ht _ _ z.2.1,z.2.2⟩

section
variable {P:Program}{w:World}{H:Hp}{h:Heap}{a:Addr}
theorem rd_of {u:HO} (ok:HOk P w H h) (e:Rd H a u):ObjOk P w H h a u:=e.ok ok
theorem dk_rd {kvs:List (Key×V)} (ok:HOk P w H h) (e:Rd H a (.dK kvs)):kvs.length≤sizeLine∧(a == sysModules)=false∧∃ vs,KV kvs vs∧h.DictOf (mixKind P w) a vs :=
 show ObjOk P w H h a (.dK kvs) from rd_of ok e
theorem dk_of {kvs:List (Key×V)} (ok:HOk P w H h) (e:H a=some (.dK kvs)):kvs.length≤sizeLine∧(a == sysModules)=false∧∃ vs,KV kvs vs∧h.DictOf (mixKind P w) a vs:=dk_rd ok (.inl e)
theorem key_of {ks:List Key} (ok:HOk P w H h) (e:H a=some (.tup (ks.map kV))):(tupleKind (mixKind P w)).is h ks a:=by
 obtain ⟨_,its,r,o,h1,h2,n,h3⟩:=(show ObjOk P w H h a (.tup (ks.map kV)) from ok a _ e)
 exact ⟨o,its.toArray,n,h1,h2,h3,by simpa using items_are r⟩
theorem dt_rd {kvs:List (List Key×V)} (ok:HOk P w H h) (e:Rd H a (.dT kvs)):kvs.length≤sizeLine∧(a == sysModules)=false ∧
  ∃ xs,KT H kvs xs∧h.DictOfH (tupleKind (mixKind P w)) a xs:=by
 obtain ⟨z,y,xs,r,o,es,ep,h1,h2,h3,h4,h5⟩:=(show ObjOk P w H h a (.dT kvs) from rd_of ok e)
 refine ⟨z,y,xs,r,o,es,ep,h1,h2,h3,h4,fun x hx=>?_,h5⟩
 have all:∀ {l:List (List Key×V)}{m:List (List Key×Addr×Value)},KT H l m→∀ x∈m,(tupleKind (mixKind P w)).is h x.1 x.2.1:=by
  intro l m q
  induction q with
  | nil=>intro x hx;exact nomatch hx
  | @cons p q ps qs hq t ih =>
   intro x hx
   rcases List.mem_cons.mp hx with e | hx
   ·subst e
    exact key_of ok (by rw [←hq.1];exact hq.2.1)
   ·exact ih x hx
 exact all r x hx
theorem dt_of {kvs:List (List Key×V)} (ok:HOk P w H h) (e:H a=some (.dT kvs)):kvs.length≤sizeLine∧(a == sysModules)=false ∧
  ∃ xs,KT H kvs xs∧h.DictOfH (tupleKind (mixKind P w)) a xs:=dt_rd ok (.inl e)
end

def DGet (H:Hp) (a:Addr) (y:V) (r:Option V):Prop :=
 (∃ kvs k,Rd H a (.dK kvs)∧y=kV k∧r=valV kvs k)∨∃ kvs k b,Rd H a (.dT kvs)∧y = .ref b∧H b=some (.tup (k.map kV))∧r=valV kvs k
def DPut (H:Hp) (a:Addr) (y v:V) (H':Hp):Prop :=
 (∃ kvs k,H a=some (.dK kvs)∧y=kV k∧kvs.length < sizeLine∧H'=upd H a (.dK (putK kvs k v))) ∨
 ∃ kvs k b,H a=some (.dT kvs)∧y = .ref b∧H b=some (.tup (k.map kV))∧kvs.length < sizeLine∧H'=upd H a (.dT (putK kvs k v))
theorem DGet.k {H:Hp}{a:Addr}{kvs:List (Key×V)}{k:Key} (e:H a=some (.dK kvs)):DGet H a (kV k) (valV kvs k):=.inl ⟨kvs,k,.inl e,rfl,rfl⟩
theorem DPut.k {H:Hp}{a:Addr}{kvs:List (Key×V)}{k:Key}{v:V} (e:H a=some (.dK kvs)) (hl:kvs.length < sizeLine):DPut H a (kV k) v (upd H a (.dK (putK kvs k v))):=.inl ⟨kvs,k,e,rfl,hl,rfl⟩
section
variable {X:Cx}{pins:List (Addr×Obj)}{σ:St}{H:Hp}{s:Shared}{a:Addr}{y v:V}{u r:Value}{o:Option V}{A:Around}{E:Value→Shared→Prop}

theorem Inv.big (I:Inv X pins σ H s):sysModules < s.heap.objs.size:=by
 have h:mainGlobals < s.heap.objs.size:=(I.mod.glob.keeps I.bk).lt
 exact Nat.lt_trans (by decide) h

theorem d_in {Q:Value→Shared→Prop} (hu:A.units+1 < cLine) (I:Inv X pins σ H s) (g:DGet H a y o) (ry:RelV y u) (h:∀ s',Inv X pins σ H s'→Q (.bool o.isSome) s') :
  wpAny (model X.prog X.w) A (compareOp .In u (.ref a)) Q E s:=by
 rcases g with ⟨kvs,k,e,ey,l⟩ | ⟨kvs,k,b,e,ey,eb,l⟩
 ·subst ey
  obtain ⟨z,hd,vs,rel,dd⟩:=dk_rd I.hok e
  refine wpAny_in_of (kV_is ry) hd dd.mapOf ?_
  rw [←(rel.val k).isSome_eq,←l]
  exact h _ (I.tok _)
 ·subst ey
  cases (show u=Value.ref b from ry)
  obtain ⟨z,hd,xs,rel,dd⟩:=dt_rd I.hok e
  refine wpAny_in_heap (tupleKind_room_in1 hu) (key_of I.hok eb) hd dd ?_
  have q:=(rel.val k).isSome_eq
  rw [Option.isSome_map] at q
  rw [←q,←l]
  exact h _ (I.tok _)
theorem d_write {h':Heap}{t':Nat}{ob:HO} (I:Inv X pins σ H s) (mu:Mut (H a)) (hs:Heap.SameBut a s.heap h') (he:∃ q,h'.get? a=some q) (new:ObjOk X.prog X.w (upd H a ob) h' a ob) :
  Inv X pins σ (upd H a ob) { s with heap:=h',toks:=t' } :=
 I.write (x:=a) (e:=a) mu (.inl rfl) (fun b q hb z=>(hs.2 b hb).trans z) he new
theorem dk_new {P:Program}{w:World}{H':Hp}{h':Heap}{kvs:List (Key×V)}{vs:List (Key×Value)} (z:kvs.length≤sizeLine) (hd:(a == sysModules)=false) (rel:KV kvs vs) (dd:h'.DictOf (mixKind P w) a vs) :
  ObjOk P w H' h' a (.dK kvs):=⟨z,hd,vs,rel,dd⟩
theorem d_setItem {H':Hp}{Q:Unit→Shared→Prop} (hu:A.units+1 < cLine) (I:Inv X pins σ H s) (g:DPut H a y v H') (ry:RelV y u) (rv:RelV v r) (h:∀ s',Inv X pins σ H' s'→Q () s') :
  wpAny (model X.prog X.w) A (setItem (.ref a) u r) Q E s:=by
 rcases g with ⟨kvs,k,e,ey,l,eH⟩ | ⟨kvs,k,b,e,ey,eb,l,eH⟩
 ·subst ey eH
  obtain ⟨z,hd,vs,rel,dd⟩:=dk_of I.hok e
  have hz:vs.length≤sizeLine:=by rw [←rel.length];exact z
  have hl:(putK kvs k v).length≤sizeLine:=by have:=length_putK kvs k v;omega
  refine wpAny_setItem_pairs (hsz:=hz) (kV_is ry) dd fun h' dd' hs=>h _ ?_
  have he:∃ q,h'.get? a=some q:=let ⟨q,_,_,hq,_⟩:=dd';⟨q,hq⟩
  exact d_write I (by rw [e];exact True.intro) hs he (dk_new hl hd (rel.put k rv) dd')
 ·subst ey eH
  cases (show u=Value.ref b from ry)
  obtain ⟨z,hd,xs,rel,dd⟩:=dt_of I.hok e
  have hz:xs.length≤sizeLine:=by rw [←Paired.length rel];exact z
  have hl:(putK kvs k v).length≤sizeLine:=by have:=length_putK kvs k v;omega
  refine wpAny_setItem_heap (hsz:=hz) (tupleKind_room_in1 hu) (key_of I.hok eb) dd fun h' dd' hs=>h _ ?_
  obtain ⟨q,es,ep,hq,h2,h3,h4,_,h5⟩:=dd'
  refine d_write I (by rw [e];exact True.intro) hs ⟨q,hq⟩ ⟨hl,hd,_,(rel.put k eb rv).keeps fun c ys ec=>?_,q,es,ep,hq,h2,h3,h4,h5⟩
  rw [upd_ne (ne_of ec e (fun z=>nomatch z))]
  exact ec
end



def tDIn (ty td:TE):TE:=fun σ H Q=>ty σ H fun y H1=>td σ H1 fun x H2=>∃ a o,x = .ref a∧DGet H2 a y o∧Q (.bl o.isSome) H2
def sDPut (td ty tv:TE):TS:=fun D σ H=>tv σ H fun v H1=>td σ H1 fun x H2=>ty σ H2 fun y H3=>∃ a H4,x = .ref a∧DPut H3 a y v H4∧D.nx σ H4
section
variable {X:Cx}{o i e value:Expr}{pos pos' tpos:Pos}{td ty tv:TE}
theorem pc_din (hu:X.A.units+1 < cLine) (hi:PE X i ty) (ho:PE X o td):PC X .In i o (tDIn ty td):=by
 intro pins s σ H Q I h
 refine thn (hi pins s σ H _ I h) fun iv s1 ⟨y,H1,I1,ry,q1⟩=>thn (ho pins s1 σ H1 _ I1 q1) fun u s2 ⟨x,H2,I2,rx,a,ov,ex,g,q2⟩=>?_
 subst ex
 obtain rfl:u=Value.ref a:=rx
 exact d_in hu I2 g ry fun s3 I3=>⟨.bl ov.isSome,H2,I3,rfl,q2⟩
theorem ps_dput (hu:X.A.units+1 < cLine) (ho:PE X o td) (hi:PE X i ty) (hv:PE X value tv) (hs:swapsWith value (some (.Subscript o i pos')) pos.line X.env=pure false) :
  PS X (.Assign [.Subscript o i pos'] value pos) (sDPut td ty tv):=by
 intro pins s σ H D I h
 refine wpAny_Assign_Subscript (thn (hv pins s σ H _ I h) fun r s1 ⟨v,H1,I1,rv,q1⟩=>thn (ho pins s1 σ H1 _ I1 q1) fun u s2 ⟨x,H2,I2,rx,q2⟩=>thn (hi pins s2 σ H2 _ I2 q2) fun iv s3 ⟨y,H3,I3,ry,a,H4,ex,g,q3⟩=>?_) hs
 subst ex
 obtain rfl:u=Value.ref a:=rx
 exact d_setItem hu I3 g ry rv fun s4 I4=>⟨σ,H4,I4,q3⟩
end


theorem dk_empty {P:Program}{w:World}{H:Hp} (h:Heap) (hb:sysModules < h.objs.size):ObjOk P w H (h.push { cls:=.type "dict",data:=.dict #[] }) h.objs.size (.dK []) :=
 ⟨Nat.zero_le _,beq_eq_false_iff_ne.mpr (Ne.symm (Nat.ne_of_lt hb)),[],.nil,Heap.DictOf.new h⟩
def tDNewK:TE:=fun _ H Q=>∀ p,H p=none→Q (.ref p) (upd H p (.dK []))
section
variable {X:Cx}{pos:Pos}
theorem pe_dnewK:PE X (.Dict [] [] pos) tDNewK:=fun pins s σ H Q I h =>
 wpAny_Dict_empty ⟨.ref s.heap.objs.size,_,I.laid (a:=s.heap.objs.size) (o:=.dK []) (t':=s.toks) (fun _ _ q=>Heap.get?_push_of_some _ q) (Nat.le_refl _) (dk_empty s.heap I.big),rfl,h _ (I.hok.fresh (Nat.le_refl _))⟩
end

structure M1 (X:Cx) (o:Expr) (m:Str) (apos:Pos) (e:Expr) (cpos:Pos):Prop where
 base:attributeBase o m X.env (eval o X.env)=eval o X.env
 few:((backTo cpos (starEach [e] X.env)).all (fun x=>!x.1)&&(backToKw cpos (keywordEach [] X.env)).all (fun x=>x.1.isSome)
  && decide (([e]:List Expr).length+([]:List Keyword).length+(if ([]:List Keyword).isEmpty then 0 else 1) < 30))=true
 line:(apos.endLine == cpos.line)=true
 trees:backTo cpos (starEach [e] X.env) = [(false,eval e X.env)]
structure M2 (X:Cx) (o:Expr) (m:Str) (apos:Pos) (e f:Expr) (cpos:Pos):Prop where
 base:attributeBase o m X.env (eval o X.env)=eval o X.env
 few:((backTo cpos (starEach [e,f] X.env)).all (fun x=>!x.1)&&(backToKw cpos (keywordEach [] X.env)).all (fun x=>x.1.isSome)
  && decide (([e,f]:List Expr).length+([]:List Keyword).length+(if ([]:List Keyword).isEmpty then 0 else 1) < 30))=true
 line:(apos.endLine == cpos.line)=true
 trees:backTo cpos (starEach [e,f] X.env) = [(false,eval e X.env),(false,eval f X.env)]

def IsD (H:Hp) (a:Addr):Prop:=(∃ kvs,Rd H a (.dK kvs))∨∃ kvs,Rd H a (.dT kvs)
theorem isD_at {X:Cx}{pins:List (Addr×Obj)}{σ:St}{H:Hp}{s:Shared}{a:Addr} (I:Inv X pins σ H s) (d:IsD H a) :
  s.TypeIs (.ref a) "dict"∧(∀ b,Value.ref a = .ref b→∃ ob,s.heap.get? b=some ob∧ob.dict=none)∧(a == sysModules)=false:=by
 rcases d with ⟨kvs,e⟩ | ⟨kvs,e⟩
 ·obtain ⟨_,hd,vs,_,dd⟩:=dk_rd I.hok e
  refine ⟨dd.typeIs,fun b q=>?_,hd⟩
  cases q
  obtain ⟨ob,_,_,h1,h2,_⟩:=dd
  exact ⟨ob,h1,h2.2.1⟩
 ·obtain ⟨_,hd,xs,_,dd⟩:=dt_rd I.hok e
  refine ⟨dd.typeIs,fun b q=>?_,hd⟩
  cases q
  obtain ⟨ob,_,_,h1,h2,_⟩:=dd
  exact ⟨ob,h1,h2.2.1⟩

section
variable {X:Cx}{pins:List (Addr×Obj)}{σ:St}{H:Hp}{s:Shared}{a:Addr}{y d:V}{u r:Value}{o:Option V}{A:Around}{E:Value→Shared→Prop}
theorem d_get2 {Q:Value→Shared→Prop} (hu:A.units+1 < cLine) (I:Inv X pins σ H s) (g:DGet H a y o) (ry:RelV y u) (rd:RelV d r) (h:∀ w' s',Inv X pins σ H s'→RelV (o.getD d) w'→Q w' s') :
  wpAny (model X.prog X.w) A (call (.builtin "dict.get") [.ref a,u,r]) Q E s:=by
 rcases g with ⟨kvs,k,e,ey,l⟩ | ⟨kvs,k,b,e,ey,eb,l⟩
 ·subst ey
  obtain ⟨z,hd,vs,rel,dd⟩:=dk_rd I.hok e
  refine call_meetsIn PySem.F.slot_dict_get dd.typeIs PySem.F.entry_dict_get (PySem.F.args_dict_get_3 _ _ _) (meets_dict_get_default (mixKind X.prog X.w) a (kV_is ry) hd r) ⟨_,dd.mapOf,h _ _ (I.tok _) ?_⟩
  rw [l]
  exact (rel.val k).getD rd
 ·subst ey
  cases (show u=Value.ref b from ry)
  obtain ⟨z,hd,xs,rel,dd⟩:=dt_rd I.hok e
  refine call_meetsIn PySem.F.slot_dict_get dd.typeIs PySem.F.entry_dict_get (PySem.F.args_dict_get_3 _ _ _) (meetsH_dict_get_default (tupleKind (mixKind X.prog X.w)) a b hd r) ⟨tupleKind_room_in1 hu,k,xs,key_of I.hok eb,dd,h _ _ (I.tok _) ?_⟩
  rw [l]
  exact (rel.val k).getD rd
end

def tDGet2 (td ty tx:TE):TE:=fun σ H Q=>td σ H fun x H1=>∃ a,x = .ref a∧IsD H1 a∧ty σ H1 fun y H2=>tx σ H2 fun z H3=>∃ o,DGet H3 a y o∧Q (o.getD z) H3
section
variable {X:Cx}{o e f:Expr}{apos cpos:Pos}{td ty tx:TE}
theorem pe_dget2 (hu:X.A.units+1 < cLine) (ho:PE X o td) (he:PE X e ty) (hf:PE X f tx) (m:M2 X o "get" apos e f cpos):PE X (.Call (.Attribute o "get" apos) [e,f] [] cpos) (tDGet2 td ty tx):=by
 intro pins s σ H Q I h
 refine wpAny_Call_method m.base m.few m.line PySem.F.plainAttrs_dict PySem.F.slot_dict_get PySem.F.type_dict_get (thn (ho pins s σ H _ I h) fun u s1 ⟨x,H1,I1,rx,a,ex,d,q1⟩=>?_)
 subst ex
 obtain rfl:u=Value.ref a:=rx
 obtain ⟨t1,t2,_⟩:=isD_at I1 d
 refine ⟨t1,t2,?_⟩
 rw [m.trees]
 refine Calls.callWith_builtin rfl (Calls.evalArgs_plain (Calls.spliced_cons (thn (he pins s1 σ H1 _ I1 q1) fun iv s2 ⟨y,H2,I2,ry,q2⟩ =>
  Calls.spliced_cons (thn (hf pins s2 σ H2 _ I2 q2) fun fv s3 ⟨z,H3,I3,rz,ov,g,q3⟩=>Calls.spliced_nil ?_))))
 exact d_get2 hu I3 g ry rz fun w' s4 I4 rw'=>⟨_,H3,I4,rw',q3⟩
end



end L2

namespace Att
open PySem PySem.W PySem.Calls PyProof.Rows

theorem ints_of_wellAll {P:Params}{h:Heap}:∀ (ns:List Int) (vs:List Value),WellAll P h vs (ns.map WData.int)→IntsAre vs ns:=by
 intro ns
 induction ns with
 | nil =>
  intro vs w
  rw [List.map_nil] at w
  cases w
  exact .nil
 | cons n ns ih =>
  intro vs w
  rw [List.map_cons] at w
  cases w with
  | cons a b =>
   cases a
   exact .cons _ _ (ih _ b)

theorem script_of {l:OpenLaw}{n:Nat} (hn:l.most=some n) {P:Params}{h:Heap}{args:List WData}{vals:List Value}
  (hpre:l.row.toRowW.claim.pre args=true) (hwl:WellAll P h vals args) :
  ∃ a vs ns,vals = [Value.ref a]∧args = [WData.list (ns.map WData.int)]∧h.get? a=some { cls:=.type "list",data:=.seq vs.toArray }∧IntsAre vs ns∧ns.length≤n:=by
 have hsh:WShape.hasAll [] args [.list .int] = true:=(pre_splitW hpre).1
 have hc:l.pre.holds [] { args:=args }=true:=(pre_splitW hpre).2
 obtain ⟨d,r,rfl,h1,h2⟩:=hasAllW_cons hsh
 obtain rfl:=hasAllW_nil h2
 obtain ⟨xs,rfl,h3⟩:=hasW_list h1
 obtain ⟨ns,rfl⟩:=items_int h3
 have hlen:ns.length≤n:=by
  unfold OpenLaw.pre at hc
  have h4:(WTm.not (.lt (.lit (.int (n:Int))) (.len (.arg 0)))).holds [] { args:=[.list (ns.map .int)] }=true:=by
   have h4:=(holds_andW hc).1
   rw [hn] at h4
   exact h4
  have h5:=condW_of h4 (w_not (w_lt w_lit (w_len_list (w_arg rfl))))
  rw [List.length_map] at h5
  refine Nat.le_of_not_lt fun q=>?_
  have q':(n:Int) < ((ns.length:Nat):Int):=by omega
  first
   | (rw [decide_eq_true q'] at h5;exact absurd h5 (by decide))
   | (simp at h5;omega)
 cases hwl with
 | cons w1 w2 =>
  cases w2
  cases w1 with
  | list ho hall=>exact ⟨_,_,ns,rfl,rfl,ho,ints_of_wellAll ns _ hall,hlen⟩

theorem post_true (l:OpenLaw) (args:List WData):l.row.toRowW.claim.post args (.bool true) args=true :=
 postW_of (r:=l.row.toRowW) (X:=(true == true))
  (show WShape.has [] (.bool true) .bool=true by first | rfl | decide | simp [WShape.has,WShape.arms,WShape.armsAll])
  (show (WTm.eq .res (.lit (.bool true))).value [] { args:=args,res:=some (.bool true),after:=args }=some (.bool (true == true)) from w_eq_bool (w_res rfl) w_lit) rfl

theorem attach_call {l:OpenLaw}{n:Nat}{q:Program}{loose:List Str}{XP:(Str→Option Value)→Heap→Prop}{YP:World→Heap→Prop}{d:DefRec}
  (hn:l.most=some n) (hdf:d.params.defaults = [])
  (call:∀ (w:World) (s₀ s₁:Shared) (mg mb:Str→Option Value) (fa:Addr) (o:Obj) (pm cd doc:Value) (a:Addr) (vs:List Value) (ns:List Int),
   Ground q loose [] XP w s₀ mg mb s₁.heap→YP w s₁.heap →
   s₁.heap.get? fa=some o→o.data = .func (docDef d.name d.params d.body d.scope pm cd doc)→s₁.heap.CodeRec cd d.name→mg d.name=some (.ref fa) →
   s₁.heap.get? a=some { cls:=.type "list",data:=.seq vs.toArray }→IntsAre vs ns→ns.length≤n→s₁.gens = #[] →
   codeAny (model l.prog w) callerA (.call (.ref fa) ⟨[.ref a],[]⟩) (fun r s'=>r = .ok (.ret (.bool true))∧OldK s₁.heap s'.heap∧s'.os=s₁.os∧AllBare s'.gens) s₁) :
  WalkO q loose XP YP l.row.toRowW d [] (fun f vs=>PySem.call f vs):=by
 intro w s₀ s₁ mg mb G Y fa o pm cd doc dV kV ho hd hcd hD hmg hg args vals as hpre hlay hrd hwl hlo
 obtain rfl:dV = .none:=Dflts.none hD hdf
 obtain rfl:kV = .none:=Dflts.noKw hD
 obtain ⟨a,vs,ns,rfl,rfl,hobj,hints,hlen⟩:=script_of hn hpre hwl
 refine enter_call (codeAny_mono (call w s₀ s₁ mg mb fa o pm cd doc a vs ns G Y ho (fd_plain hd) hcd hmg hobj hints hlen hg) fun r s' hq=>?_)
 obtain ⟨rfl,h2,h3,h4⟩:=hq
 exact ⟨.inl ⟨.bool true,.bool true,[],rfl,fun _=>rfl,.bool true,post_true l _,fun _=>⟨List.Pairwise.nil,fun _ hm=>(nomatch hm)⟩⟩,h2,h3,h4⟩

section
variable {prog:Program}{w:World}{A:Around}{E:Value→Shared→Prop}{s:Shared}{K:Frag}

end
end Att

namespace L2
open PySem PySem.Spec PyProof.Rows

theorem vals_ints:∀ {vs:List Value}{ns:List Int},IntsAre vs ns→Vals (ns.map V.int) vs
 | _,_,.nil=>.nil
 | _,_,.cons n t h=>.cons ⟨t,rfl⟩ (vals_ints h)

end L2

namespace L2
open PySem PySem.Spec PyProof.Rows

end L2


namespace L2
open PySem PySem.Spec PyProof.Rows

def inClass (s:Stmt) (j:Nat):Stmt:=match s with
 | .ClassDef _ _ _ body _ _ _ _ _ _ _=>body.getD j (.Pass ⟨0,0,0,0⟩)
 | _=>.Pass ⟨0,0,0,0⟩
def defArgs (s:Stmt):Arguments:=match s with
 | .FunctionDef _ a _ _ _ _ _ _ _ _=>a
 | _=>{ posonlyargs:=[],args:=[],vararg:=none,kwonlyargs:=[],kw_defaults:=[],kwarg:=none,defaults:=[] }
def defBody (s:Stmt):List Stmt:=match s with
 | .FunctionDef _ _ b _ _ _ _ _ _ _=>b
 | _=>[]
def defScope (s:Stmt):Scope:=match s with
 | .FunctionDef _ _ _ _ _ _ sc _ _ _=>sc
 | _=>{ kind:=.function,names:=[],isGenerator:=false,isCoroutine:=false }

abbrev CX0:CXT:=fun _ _ _ _ _ _=>False
abbrev E0:XK:=fun _ _ _=>False
theorem pass0 {X:Cx}:Passes CX0 X E0:=fun _ _ _ _ _ _ _ h=>h.elim

structure Fun (K:PySem.W.Frag) (x qual:Str) (st:Stmt) (f:Addr) (fd:FuncData):Prop where
 ex:∃ (oc:Value) (od:Option Addr) (kV doc pm:Value) (an:Option Addr) (cdv ct:Value) (osl:Array (Option Value)),
  fd=PySem.W.fnOf x qual (defArgs st) (defBody st) (defScope st) .none kV doc pm an cdv ct∧K.lookup f=some ⟨oc,od,.func fd,osl⟩∧PySem.W.codeIn K cdv qual=true
 kp:PySem.W.keepIn K (.ref f)=true
section
variable {P:Program}{w:World}{K:PySem.W.Frag}{mg:Str→Option Value}{base:Heap}
theorem Fun.ok {x qual:Str}{st:Stmt}{f:Addr}{fd:FuncData}{N ps:List Str}{k:Nat}{sp:Sp} (F:Fun K x qual st f fd) (S:FnScope N ps (defScope st)) (len:∀ vs H Q E,sp vs H Q E→vs.length=ps.length)
  (hbody:∀ (cdv:Value) (A:Around) (outer:List Env) (s:Shared) (H:Hp) (vs:List V) (Q:VK) (E:XK),Room k (A.deeper (envOfC qual (defScope st) s.heap.objs.size f cdv))→sp vs H Q E →
   ∃ t,PSs (cxOf CX0 P w K mg base N qual (defScope st) f cdv A outer s H E).nox (defBody st) t∧t { nx:=fun _ H'=>Q .non H',rt:=Q } (start N vs) H):FnOk P w K mg base CX0 (k+1) f fd ps sp:=by
 obtain ⟨oc,od,kV,doc,pm,an,cdv,ct,osl,rfl,lk,hcd⟩:=F.ex
 refine fn_of lk hcd S len fun A outer s H vs Q E hr hsp=>?_
 obtain ⟨t,h,q⟩:=hbody cdv A outer s H vs Q E hr hsp
 exact ⟨t,h.nox,q⟩
theorem Fun.binds {x qual:Str}{st:Stmt}{f:Addr}{fd:FuncData}{ps:List Str} (F:Fun K x qual st f fd)
  (h:∀ (kV doc pm:Value) (an:Option Addr) (cdv ct:Value) (us:List Value),us.length=ps.length→bindArgs (PySem.W.fnOf x qual (defArgs st) (defBody st) (defScope st) .none kV doc pm an cdv ct) ⟨us,[]⟩=pure (ps.zip us)):Binds K fd ps []:=by
 obtain ⟨oc,od,kV,doc,pm,an,cdv,ct,osl,rfl,lk,hcd⟩:=F.ex
 exact .all (h kV doc pm an cdv ct)
theorem fun_mk {x qual:Str}{st:Stmt}{f:Addr}{oc:Value}{od an:Option Addr}{osl:Array (Option Value)}{kV doc pm cdv ct:Value} (l:K.lookup f=some ⟨oc,od,.func (PySem.W.fnOf x qual (defArgs st) (defBody st) (defScope st) .none kV doc pm an cdv ct),osl⟩)
  (c:PySem.W.codeIn K cdv qual=true) (k:PySem.W.keepIn K (.ref f)=true):Fun K x qual st f (PySem.W.fnOf x qual (defArgs st) (defBody st) (defScope st) .none kV doc pm an cdv ct):=⟨⟨oc,od,kV,doc,pm,an,cdv,ct,osl,rfl,l,c⟩,k⟩
end
theorem hu_of {A:Around}{k:Nat} (hr:Room k A):A.units+1 < cLine:=Nat.lt_of_le_of_lt (Nat.add_le_add_left (by decide:1≤64) _) hr.units
theorem small1000 {n:Nat} (h:n≤1000):n < sizeLine:=Nat.lt_of_le_of_lt h (by decide)

section
variable {X:Cx}
theorem pv (i:Nat) {x:Str}{pos:Pos} (hN:X.N[i]? = some x:=by rfl) (hv:Vis X.env.scope x:=by first | exact Or.inl rfl | exact Or.inr (Or.inl rfl) | exact Or.inr (Or.inr rfl)) (hd:(x == ("__debug__":Str))=false:=by decide)
  (hcd:(x == ("__classdict__":Str))=false:=by decide):PE X (.Name x pos) (tVar i):=pe_var hN hv hd hcd
end

theorem iteF {A B:Prop} (h:B):if false=true then A else B:=by
 rw [if_neg Bool.false_ne_true]
 exact h
theorem iteT {A B:Prop} (h:A):if true=true then A else B:=by
 rw [if_pos rfl]
 exact h
theorem ite2 {c A B:Prop} [Decidable c] (h1:c→A) (h2:¬ c→B):if c then A else B:=by
 by_cases h:c
 ·rw [if_pos h]
  exact h1 h
 ·rw [if_neg h]
  exact h2 h
def Same (H H':Hp):Prop:=∀ b o,H b=some o→H' b=some o
theorem Same.refl (H:Hp):Same H H:=fun _ _ h=>h
theorem Same.trans {H H1 H2:Hp} (a:Same H H1) (b:Same H1 H2):Same H H2:=fun c o h=>b c o (a c o h)
theorem Same.free {H H':Hp} (e:Same H H') {l:Addr} (h:H' l=Option.none):H l=Option.none:=by
 cases q:H l with
 | none=>rfl
 | some o =>
  rw [e l o q] at h
  cases h
theorem Same.seq {K:PySem.W.Frag}{H H':Hp}{a:Addr}{xs:List V} (e:Same H H') (h:SqL K H a xs):SqL K H' a xs:=by
 rcases h with (h | ⟨o,h⟩) | h
 ·exact .inl (.inl (e _ _ h))
 ·exact .inl (.inr ⟨o,e _ _ h⟩)
 ·exact .inr h

section
variable {κ:Type} [DecidableEq κ]
theorem valV_not {kvs:List (κ × V)}{k:κ} (h:valV kvs k=none):¬ k∈kvs.map (·.1):=by
 intro m
 obtain ⟨p,hp,e⟩:=List.mem_map.mp m
 have q:(kvs.any fun kv=>decide (kv.1=k))=true:=List.any_eq_true.mpr ⟨p,hp,decide_eq_true e⟩
 rw [valV_any,h] at q
 exact absurd q (by simp)
theorem valV_in {kvs:List (κ × V)}{k:κ}{v:V} (h:valV kvs k=some v):k∈kvs.map (·.1):=by
 have q:(kvs.any fun kv=>decide (kv.1=k))=true:=by
  rw [valV_any,h]
  all_goals rfl
 obtain ⟨p,hp,e⟩:=List.any_eq_true.mp q
 exact List.mem_map.mpr ⟨p,hp,of_decide_eq_true e⟩
end
end L2
namespace L2
open PySem PySem.Spec PyProof.Rows
mutual
inductive RdD (K:PySem.W.Frag) (H:Hp):V→PyData→Prop
 | non:RdD K H .non .none
 | bl (b:Bool):RdD K H (.bl b) (.bool b)
 | int (i:Int):RdD K H (.int i) (.int i)
 | str (x:Str):RdD K H (.str x) (.str x)
 | lst {a:Addr}{xs:List V}{ds:List PyData}:SqL K H a xs→RdAll K H xs ds→RdD K H (.ref a) (.list ds)
 | tup {a:Addr}{xs:List V}{ds:List PyData}:SqT K H a xs→RdAll K H xs ds→RdD K H (.ref a) (.tuple ds)
inductive RdAll (K:PySem.W.Frag) (H:Hp):List V→List PyData→Prop
 | nil:RdAll K H [] []
 | cons {x:V}{xs:List V}{d:PyData}{ds:List PyData}:RdD K H x d→RdAll K H xs ds→RdAll K H (x::xs) (d::ds)
end
section
variable {X:Cx}{pins:List (Addr×Obj)}{σ:St}{H:Hp}{s:Shared}
mutual
theorem RdD.reads (I:Inv X pins σ H s):∀ {x:V}{d:PyData}{u:Value},RdD X.K H x d→RelV x u→∃ as,Reads s.heap u d as
 | _,_,_,.non,r=>by cases r;exact ⟨_,Reads.none⟩
 | _,_,_,.bl b,r=>by cases r;exact ⟨_,Reads.bool b⟩
 | _,_,_,.int i,r=>by obtain ⟨t,rfl⟩:=r;exact ⟨_,Reads.int i t⟩
 | _,_,_,.str x,r=>by obtain ⟨t,rfl⟩:=r;exact ⟨_,Reads.str x t⟩
 | _,_,_,.lst h hs,r=>by
  cases r
  obtain ⟨its,rv,pl,_⟩:=I.list h
  obtain ⟨as,q⟩:=RdAll.reads I hs rv
  obtain ⟨o,ho,hc,n,hd⟩:=pl.isList
  exact ⟨_,reads_list_at ho hc hd (by simpa using q)⟩
 | _,_,_,.tup h hs,r=>by
  cases r
  obtain ⟨its,rv,pl,_⟩:=I.tuple h
  obtain ⟨as,q⟩:=RdAll.reads I hs rv
  obtain ⟨o,ho,hc,n,hd⟩:=pl
  exact ⟨_,reads_tuple_at ho hc hd (by simpa using q)⟩
theorem RdAll.reads (I:Inv X pins σ H s):∀ {xs:List V}{ds:List PyData}{us:List Value},RdAll X.K H xs ds→Vals xs us→∃ as,ReadsAll s.heap us ds as
 | _,_,_,.nil,r=>by cases r;exact ⟨_,ReadsAll.nil⟩
 | _,_,_,.cons h hs,r=>by
  cases r with
  | cons r1 r2 =>
   obtain ⟨as,q⟩:=RdD.reads I h r1
   obtain ⟨bs,p⟩:=RdAll.reads I hs r2
   exact ⟨_,ReadsAll.cons q p⟩
end
end
section
variable {X:Cx}
theorem op_eqD (hu:X.A.units+64 < cLine):OpR X (compareOp .Eq) (fun x y H Q=>∃ da db,RdD X.K H x da∧RdD X.K H y db∧SeqAt.shaped da=true∧SeqAt.shaped db=true∧Q (.bl (PyData.eqv da db)) H):=by
 intro pins s σ H x y v u Q I rx ry h
 obtain ⟨da,db,ha,hb,sa,sb,q⟩:=h
 obtain ⟨as,ra⟩:=ha.reads I rx
 obtain ⟨bs,rb⟩:=hb.reads I ry
 exact eq_dataH ra rb sa sb hu ⟨.bl _,H,I,rfl,q⟩
theorem op_neD (hu:X.A.units+64 < cLine):OpR X (compareOp .NotEq) (fun x y H Q=>∃ da db,RdD X.K H x da∧RdD X.K H y db∧SeqAt.shaped da=true∧SeqAt.shaped db=true∧Q (.bl (!PyData.eqv da db)) H):=by
 intro pins s σ H x y v u Q I rx ry h
 obtain ⟨da,db,ha,hb,sa,sb,q⟩:=h
 obtain ⟨as,ra⟩:=ha.reads I rx
 obtain ⟨bs,rb⟩:=hb.reads I ry
 exact ne_dataH ra rb sa sb hu ⟨.bl _,H,I,rfl,q⟩
theorem op_notInD (hu:X.A.units+64 < cLine):OpR X (compareOp .NotIn) (fun x y H Q=>∃ d ds,RdD X.K H x d∧RdD X.K H y (.list ds)∧SeqAt.shaped d=true∧PyData.canLayAll0 ds=true∧d.depth≤8∧Q (.bl (!ds.any fun z=>PyData.eqv z d)) H):=by
 intro pins s σ H x y v u Q I rx ry h
 obtain ⟨d,ds,ha,hb,sa,sb,hd,q⟩:=h
 obtain ⟨as,ra⟩:=ha.reads I rx
 obtain ⟨bs,rb⟩:=hb.reads I ry
 refine SeqAt.notIn_list_reads rb ra sb (SeqAt.canLay_of_shaped sa) ?_ ⟨.bl _,H,I,rfl,q⟩
 have h1:min (PyData.depthAll ds) d.depth≤8:=Nat.le_trans (Nat.min_le_right _ _) hd
 omega
theorem call_isT:CallR X (.builtin "isinstance") (fun xs H Q=>∃ x t n b,xs = [x,.ty n]∧TyOf X.K H x t∧PySem.W.kitOne X.K t (.type n)=some b∧Q (.bl b) H):=by
 intro pins s σ H xs us Q I r h
 obtain ⟨x,t,n,b,rfl,ty,e,q⟩:=h
 obtain ⟨u,u',rfl,rx,ry⟩:=vals2 r
 cases ry
 exact isinst_ok I rx ty e fun tk=>⟨.bl b,H,I.tok _,rfl,q⟩
end
section
theorem pairedTake {α β:Type}{F:α→β→Prop}:∀ {l₁:List α}{l₂:List β} (n:Nat),Paired F l₁ l₂→Paired F (l₁.take n) (l₂.take n)
 | _,_,0,_=>.nil
 | _,_,_+1,.nil=>.nil
 | _,_,n+1,.cons r t=>.cons r (pairedTake n t)
theorem pairedDrop {α β:Type}{F:α→β→Prop}:∀ {l₁:List α}{l₂:List β} (n:Nat),Paired F l₁ l₂→Paired F (l₁.drop n) (l₂.drop n)
 | _,_,0,r=>r
 | _,_,_+1,.nil=>.nil
 | _,_,n+1,.cons _ t=>pairedDrop n t
theorem pairedApp {α β:Type}{F:α→β→Prop}:∀ {l₁ k₁:List α}{l₂ k₂:List β},Paired F l₁ l₂→Paired F k₁ k₂→Paired F (l₁ ++ k₁) (l₂ ++ k₂)
 | _,_,_,_,.nil,s=>s
 | _,_,_,_,.cons r t,s=>.cons r (pairedApp t s)
theorem pairedRev {α β:Type}{F:α→β→Prop}:∀ {l₁:List α}{l₂:List β},Paired F l₁ l₂→Paired F l₁.reverse l₂.reverse
 | _,_,.nil=>.nil
 | _,_,.cons r t=>by rw [List.reverse_cons,List.reverse_cons];exact pairedApp (pairedRev t) (.cons r .nil)
theorem pairedGetL {α β:Type}{F:α→β→Prop}:∀ {l₁:List α}{l₂:List β}{i:Nat}{a:α},Paired F l₁ l₂→l₁[i]? = some a→∃ b,l₂[i]? = some b∧F a b
 | _,_,_,_,.nil,e=>by simp at e
 | _,_,0,_,.cons r _,e=>by simp at e;subst e;exact ⟨_,rfl,r⟩
 | _,_,i+1,a,.cons _ t,e=>by
  obtain ⟨b,h1,h2⟩:=pairedGetL (i:=i) (a:=a) t (by simpa using e)
  exact ⟨b,by simpa using h1,h2⟩
def tp (p:Int×Int):HO:=.tup [.int p.1,.int p.2]
def Prs (H:Hp) (rs:List Addr) (ps:List (Int×Int)):Prop:=Paired (fun r p=>H r=some (tp p)) rs ps
def PL (H:Hp) (l:Addr) (ps:List (Int×Int)):Prop:=∃ rs:List Addr,H l=some (.lst (rs.map V.ref))∧Prs H rs ps
variable {K:PySem.W.Frag}{H H':Hp}{l r p:Addr}{rs:List Addr}{ps qs:List (Int×Int)}
theorem Prs.same (e:Same H H') (h:Prs H rs ps):Prs H' rs ps:=Paired.mapP h fun _ _ q=>e _ _ q
theorem PL.same (e:Same H H') (h:PL H l ps):PL H' l ps:=let ⟨rs,a,b⟩:=h;⟨rs,e _ _ a,b.same e⟩
theorem same_new {o:HO} (h:H p=none):Same H (upd H p o):=fun b u e=>by rw [upd_ne (ne_of_none e h)];exact e
theorem same_upd {H₀:Hp}{o:HO} (e:Same H₀ H) (h:H₀ p=none):Same H₀ (upd H p o):=fun b u q=>by rw [upd_ne (ne_of_none q h)];exact e _ _ q
def dp (p:Int×Int):PyData:=.tuple [.int p.1,.int p.2]
theorem dp_shaped (p:Int×Int):SeqAt.shaped (dp p)=true:=by
 simp [SeqAt.shaped,dp,PyData.canLay0,PyData.canLayAll0,PyData.depth,PyData.depthAll]
theorem dp_depth (p:Int×Int):(dp p).depth≤8:=by
 simp [dp,PyData.depth,PyData.depthAll]
theorem dps_lay:∀ ps:List (Int×Int),PyData.canLayAll0 (ps.map dp)=true
 | []=>rfl
 | p::r=>by simp [PyData.canLayAll0,dps_lay r,dp,PyData.canLay0]
theorem dps_depth:∀ ps:List (Int×Int),PyData.depthAll (ps.map dp)≤8
 | []=>by simp [PyData.depthAll]
 | p::r=>by
  have:=dps_depth r
  have:=dp_depth p
  simp only [List.map_cons,PyData.depthAll]
  omega
theorem dps_shaped (ps:List (Int×Int)):SeqAt.shaped (.list (ps.map dp))=true:=by
 have h:=dps_depth ps
 have h2:(PyData.list (ps.map dp)).depth≤64:=by simp only [PyData.depth];omega
 have h3:(PyData.list (ps.map dp)).canLay0=true:=by simp only [PyData.canLay0,dps_lay]
 unfold SeqAt.shaped
 rw [h3,decide_eq_true h2];rfl
theorem dp_eqv (p q:Int×Int):PyData.eqv (dp p) (dp q)=decide (p=q):=by
 obtain ⟨a,b⟩:=p
 obtain ⟨c,d⟩:=q
 simp only [dp,PyData.eqv,PyData.eqvAll,Bool.and_true,Prod.mk.injEq]
 by_cases h1:a=c <;> by_cases h2:b=d <;> simp [h1,h2]
theorem dps_any (p:Int×Int):∀ ps:List (Int×Int),((ps.map dp).any fun z=>PyData.eqv z (dp p))=decide (p∈ps)
 | []=>by simp
 | q::r=>by
  rw [List.map_cons,List.any_cons,dps_any p r,dp_eqv]
  by_cases h1:q=p
  ·subst h1;simp
  ·have h1':¬ p=q:=fun e=>h1 e.symm
   by_cases h2:p∈r <;> simp [h1,h1',h2]
theorem dps_eqv:∀ ps qs:List (Int×Int),PyData.eqv (.list (ps.map dp)) (.list (qs.map dp))=decide (ps=qs)
 | [],[]=>by simp [PyData.eqv,PyData.eqvAll]
 | [],_::_=>by simp [PyData.eqv,PyData.eqvAll]
 | _::_,[]=>by simp [PyData.eqv,PyData.eqvAll]
 | p::r,q::t=>by
  have ih:=dps_eqv r t
  simp only [PyData.eqv] at ih
  simp only [List.map_cons,PyData.eqv,PyData.eqvAll,ih,dp_eqv]
  by_cases h1:p=q <;> by_cases h2:r=t <;> simp [h1,h2]
theorem tp_rd {q:Int×Int} (h:H r=some (tp q)):RdD K H (.ref r) (dp q):=.tup (SqT.of h) (.cons (.int _) (.cons (.int _) .nil))
theorem Prs.rd:∀ {rs:List Addr}{ps:List (Int×Int)},Prs H rs ps→RdAll K H (rs.map V.ref) (ps.map dp)
 | _,_,.nil=>.nil
 | _,_,.cons r t=>.cons (tp_rd r) (Prs.rd t)
theorem PL.rd (h:PL H l ps):RdD K H (.ref l) (.list (ps.map dp)):=let ⟨_,a,b⟩:=h;.lst (SqL.of a) b.rd
end
end L2
namespace L2
open PySem PySem.Spec PyProof.Rows
def cxComp (X:Cx) (scope:Scope) (cl:List (Str×Addr)) (N:List Str) (fp:List Addr) (s:Shared) (H:Hp):Cx :=
 { X with N:=N,s₀:=s,H₀:=H,env:=compEnvC scope cl s.heap.objs.size X.env,outer:=X.stack,stack:=X.stack,ex:=fp,fn:=fun _=>false,pn:=[],xe:=fun _ _=>False }
structure CompOk (X:Cx) (scope:Scope) (cl:List (Str×Addr)) (x:Str) (fr:List (Str×Nat)):Prop where
 clos:closureFor scope X.env=pure cl
 kind:scope.kind = .function
 nocell:∀ y∈scope.names,y.2 ≠ .cell
 names:∀ y∈scope.names,y.2 = .local→scope.names.lookup y.1=some .local
 hx:scope.names.lookup x=some .local
 sub:∀ y c,cl.lookup y=some c→X.env.cells.lookup y=some c
 has:∀ y,((relabel scope X.env).names.lookup y=some .cell∨(relabel scope X.env).names.lookup y=some .free)→∃ c,cl.lookup y=some c
 fre:∀ p∈fr,X.N[p.2]? = some p.1∧(X.env.scope.names.lookup p.1=some .cell∨X.env.scope.names.lookup p.1=some .free)∧((relabel scope X.env).names.lookup p.1=some .cell∨(relabel scope X.env).names.lookup p.1=some .free)
 nd:(x::fr.map (·.1)).Nodup
def slotsC (fr:List (Str×Nat)) (σ:St):St:=fr.map fun p=>(σ[p.2]?).join
section
variable {X:Cx}{pins:List (Addr×Obj)}{σ:St}{H:Hp}{s:Shared}{scope:Scope}{cl:List (Str×Addr)}{x:Str}{fr:List (Str×Nat)}{fp:List Addr}
theorem inv_comp (C:CompOk X scope cl x fr) (I:Inv X pins σ H s) (hf:∀ b∈fp,FpOk X pins H b∧b < s.heap.objs.size) {h':Heap}{t:Nat}{o:Obj}{m:Str→Option Value} (hn:h'.Ns s.heap.objs.size m)
  (hs:Heap.SameBut s.heap.objs.size (s.heap.push o) h'):Inv (cxComp X scope cl (x::fr.map (·.1)) fp s H) [] (none::slotsC fr σ) H { s with heap:=h',toks:=t }:=by
 have old:∀ b u,s.heap.get? b=some u→h'.get? b=some u:=fun b u e=>hs.extBut b u (Nat.ne_of_lt (Heap.lt_size e)) (Heap.get?_push_of_some _ e)
 have celllt:∀ y c,X.env.cells.lookup y=some c→c < s.heap.objs.size:=fun y c e=>by
  obtain ⟨v,ob,ho,_⟩:=I.cell y c e
  exact Heap.lt_size ho
 refine ⟨⟨I.ok.mod,C.kind,I.ok.glob,I.ok.blt,Nat.le_refl _,fun a b c ea eb=>I.ok.inj a b c (C.sub a c ea) (C.sub b c eb),fun y hy=>C.has y hy,(fun y c hy=>nomatch hy),I.ok.hd,I.ok.frames,.inl rfl,fun b hb=>⟨Nat.ne_of_lt (hf b hb).2,fun y c e=>(hf b hb).1.2.2.2.2.1 y c (C.sub y c e)⟩,I.bs,Nat.le_trans I.ok.bsz I.sz,fun b ob e hb=>?_,fun b hb hz=>?_,I.stack,I.stkFree⟩,
  rfl,I.bare,⟨fun b u e _ _ _=>old b u e,fun b u e _ _ _=>⟨u.slots,old b u e⟩,fun b u e n _=>n,fun b u e _=>⟨u,old b u e⟩,fun _ _ e=>e,fun _ _ _ e=>e,fun b ps e=>⟨#[],by rw [Array.append_empty];exact e⟩⟩,⟨m,hn,fun i y v e1 e2 e3=>?_⟩,fun y c e=>?_,I.hok.fresh (Nat.le_refl _),fun y c e=>I.freeC y c (C.sub y c e),(fun p hp=>by cases hp),I.hok.kept old,?_⟩
 ·-- noex
  rcases (hf b hb).1.2.2.2.1 with z | z
  ·exact I.ok.noex b ob e z
  ·exact absurd (Nat.lt_of_lt_of_le (Heap.lt_size (I.ok.bs b ob e).1) z) (Nat.lt_irrefl _)
 ·-- exfs
  rcases List.mem_cons.mp (I.stkSub b hz) with e | e
  ·exact (hf b hb).1.2.1 e
  ·exact (hf b hb).1.2.2.1 e
 ·-- a free name's value
  cases i with
  | zero=>cases e2
  | succ i =>
   have e1':(fr.map (·.1))[i]? = some y:=e1
   have e2':(slotsC fr σ)[i]? = some (some v):=e2
   rw [List.getElem?_map] at e1'
   unfold slotsC at e2'
   rw [List.getElem?_map] at e2'
   cases ep:fr[i]? with
   | none=>rw [ep] at e1';cases e1'
   | some p =>
    rw [ep] at e1' e2'
    have ey:p.1=y:=Option.some.inj e1'
    have ev:(σ[p.2]?).join=some v:=Option.some.inj e2'
    obtain ⟨f1,f2,f3⟩:=C.fre p (List.mem_of_getElem? ep)
    rw [ey] at f1 f2 f3
    have ev':σ[p.2]? = some (some v):=by
     cases q:σ[p.2]? with
     | none=>rw [q] at ev;cases ev
     | some z=>rw [q] at ev;cases z with
      | none=>cases ev
      | some z=>exact congrArg some ev
    obtain ⟨m',_,hl⟩:=I.loc
    obtain ⟨u,r,l⟩:=hl p.2 y v f1 ev' (.inr f2)
    refine ⟨u,r,.inr ⟨f3,?_⟩⟩
    rcases l with ⟨k,_⟩ | ⟨_,c,ec,hc⟩
    ·exfalso
     have k':X.env.scope.names.lookup y=some .local:=k
     rcases f2 with z | z <;> rw [z] at k' <;> cases k'
    ·obtain ⟨c',ec'⟩:=C.has y f3
     have:=C.sub y c' ec'
     rw [ec] at this
     cases this
     obtain ⟨ob,ho,hd⟩:=hc
     exact ⟨c,ec',ob,old _ _ ho,hd⟩
 ·obtain ⟨v,ob,ho,hd⟩:=I.cell y c (C.sub y c e)
  exact ⟨v,ob,old _ _ ho,hd⟩
 ·show (none::slotsC fr σ).length=(x::fr.map (·.1)).length
  simp [slotsC]
theorem comp_back {H':Hp}{s':Shared}{σc:St}{N:List Str}{pl:List (Addr×Obj)} (I:Inv X pins σ H s) (hf:∀ b∈fp,FpOk X pins H b) (Ic:Inv (cxComp X scope cl N fp s H) pl σc H' s'):Inv X pins σ H' s' :=
 I.call' (ch:=fp) Ic.os Ic.base Ic.hok Ic.bare fun b hb=>⟨(hf b hb).2.2.2.1,(hf b hb).2.1,(hf b hb).2.2.2.2.1,(hf b hb).2.2.2.2.2⟩
end
section
variable {prog:Program}{w:World}{A:Around}{R:Result→Shared→Prop}{s:Shared}
theorem compLoop_go {elt target iter:Expr}{ifs:List Expr}{scope:Scope}{pos:Pos}{it acc:Value}{env:Env} (I:Nat→Shared→Prop)
  (turn:∀ n s,I n s→wpAny (model prog w) A (pyNext it) (fun r s₁=>match r with
   | none=>R (.ok .next) s₁
   | some v=>wpAny (model prog w) A (letOwnedTupleGo target it v) (fun _ s₁'=>wpAny (model prog w) A (assign target env v) (fun _ s₂ =>
     wpAny (model prog w) A (forIn ifs true fun c r=>if r=true then do let ok ← isTrue c env (eval c env);pure (ForInStep.yield ok) else pure (ForInStep.yield r)) (fun ok s₃ =>
      if ok=true then wpAny (model prog w) A (eval elt env) (fun x s₄ =>
       wpAny (model prog w) A (call (.builtin "list.append") [acc,x]) (fun _ s₅=>∃ m,m < n∧I m s₅) (fun _ _=>False) s₄) (fun _ _=>False) s₃
      else ∃ m,m < n∧I m s₃) (fun _ _=>False) s₂) (fun _ _=>False) s₁') (fun _ _=>False) s₁) (fun _ _=>False) s)
  (n:Nat) (h:I n s):codeAny (model prog w) A (.compLoop (.ListComp elt [⟨target,iter,ifs,0⟩] scope pos) 0 it acc env) R s:=by
 refine codeAny_loop rfl I (fun n s hI=>?_) n h
 show wpAny _ A ((compTurn (.ListComp elt [⟨target,iter,ifs,0⟩] scope pos) 0 it acc env).onRaise (fun x=>do noteFrame x env;theTreesLotGoes x)) _ _ s
 refine wpAny_noted ?_
 rw [compTurn_list]
 refine wpAny_bind (wpAny_standAt (wpAny_bind (wpAny_mono (turn n s hI) (fun r s₁ h₁=>?_) fun _ _ h'=>h'.elim)))
 cases r with
 | none=>exact wpAny_pure h₁
 | some v =>
  refine wpAny_bind (wpAny_mono h₁ (fun _ s₁' h₁'=>?_) fun _ _ h'=>h'.elim)
  refine wpAny_bind (wpAny_mono h₁' (fun _ s₂ h₂=>wpAny_bind (wpAny_mono h₂ (fun ok s₃ h₃=>?_) fun _ _ h'=>h'.elim)) fun _ _ h'=>h'.elim)
  cases ok with
  | false=>exact wpAny_pure ⟨rfl,h₃⟩
  | true =>
   exact wpAny_bind (wpAny_bind (wpAny_mono h₃ (fun x s₄ h₄=>wpAny_bind (wpAny_mono h₄ (fun _ s₅ h₅=>wpAny_pure (wpAny_pure ⟨rfl,h₅⟩)) fun _ _ h'=>h'.elim)) fun _ _ h'=>h'.elim))
end
def PTs (X:Cx) (ifs:List Expr) (t:TT):Prop :=
 ∀ (pins:List (Addr×Obj)) (s:Shared) (σ:St) (H:Hp) (Q:Bool→Hp→Prop),Inv X pins σ H s→t σ H Q →
  wpAny (model X.prog X.w) X.A (forIn ifs true fun c r=>if r=true then do let ok ← isTrue c X.env (eval c X.env);pure (ForInStep.yield ok) else pure (ForInStep.yield r)) (TP X pins σ Q) X.xe s
def tNoTest:TT:=fun _ H Q=>Q true H
theorem pts_nil {X:Cx}:PTs X [] tNoTest:=fun _ _ _ H _ I h=>wpAny_tests_nil ⟨H,I,h⟩
theorem pts_one {X:Cx}{c:Expr}{t:TT} (h:PT X c t):PTs X [c] t:=fun pins s σ H Q I q=>wpAny_tests_one (h pins s σ H Q I q)
def tComp (fr:List (Str×Nat)) (wi:TI) (tt:TT) (te:TE):TE:=fun σ H Q=>wi σ H fun J H1=>∀ D,H1 D=none→∃ W:Nat→Nat→List V→Hp→Prop,(∃ m,W 0 m [] (upd H1 D (.lst [])))∧∀ i m acc H2,W i m acc H2 →
 H2 D=some (.lst acc)∧((J.stop i H2∧Q (.ref D) H2)∨(acc.length < sizeLine∧J.go i H2∧∀ x H3,J.yld i H2 x H3→tt (some x::slotsC fr σ) H3 fun b H4 =>
  if b=true then te (some x::slotsC fr σ) H4 fun y H5=>H5 D=some (.lst acc)∧∃ m',m' < m∧W (i+1) m' (acc ++ [y]) (upd H5 D (.lst (acc ++ [y]))) else ∃ m',m' < m∧W (i+1) m' acc H4))
section
variable {X:Cx}{scope:Scope}{cl:List (Str×Addr)}{x:Str}{fr:List (Str×Nat)}{elt iter:Expr}{ifs:List Expr}{px pos:Pos}{wi:TI}{tt:TT}{te:TE}
theorem comp_walk {pins:List (Addr×Obj)}{σ:St}{H:Hp}{s:Shared}{Q:VK}{use:Option (Value→Sem Unit)}{Qv:Value→Shared→Prop}{E:Value→Shared→Prop} (C:CompOk X scope cl x fr) (hc:X.calm=true) (hi:PI X (.Name x px) iter wi)
  (ht:∀ fp s H,PTs (cxComp X scope cl (x::fr.map (·.1)) fp s H) ifs tt) (he:∀ fp s H,PE (cxComp X scope cl (x::fr.map (·.1)) fp s H) elt te)
  (I:Inv X pins σ H s) (h:tComp fr wi tt te σ H Q) (hs:∀ x,foldedSetIterable iter X.env x=pure x) (hE:∀ e s',X.xe e s'→E e s')
  (hQ:∀ (s₄:Shared) (H₄:Hp) (D Cn:Addr) (m:Str→Option Value),Inv X pins σ H₄ s₄→s₄.heap.Ns Cn m→H₄ Cn=none→Cn≠X.env.locals→Cn ∉ X.fs→X.s₀.heap.objs.size≤Cn→(∀ y c,X.env.cells.lookup y=some c→c≠Cn)→(∀ p∈X.pn++pins,p.1≠Cn)→Q (.ref D) H₄ →
   compPost (model X.prog X.w) X.A E use Qv (.ref D) Cn (.ok .next) s₄) :
  wpAny (model X.prog X.w) X.A (comprehension (.ListComp elt [⟨.Name x px,iter,ifs,0⟩] scope pos) scope X.env (firstIterPos [⟨.Name x px,iter,ifs,0⟩] pos) (newList []) false (eval iter X.env) use) Qv E s:=by
 refine wpAny_comprehension_free (use:=use) rfl hs C.clos C.kind C.names (wpAny_mono (hi pins s σ H _ I h) (fun v s1 h1=>wpAny_mono h1 (fun itv s2 h2=>?_) hE) hE)
 obtain ⟨it,fp,tn,J,H2,e,I2,T,st2,f2,q⟩:=h2
 subst e
 refine wpAny_newObj_type (wpAny_newFunctionEnv C.nocell (by intro y hy;simp at hy) (fun h₁ hns₁ hsb₁=>?_) C.kind)
 dsimp only at hns₁ hsb₁ ⊢
 have I3:Inv X pins σ (upd H2 s2.heap.objs.size (.lst [])) { s2 with heap:=s2.heap.push { cls:=.type "list",dict:=none,data:=.seq ([]:List Value).toArray },toks:=s2.toks }:=I2.lnew (ys:=[]) (its:=[]) .nil (Nat.zero_le _)
 obtain ⟨W,⟨m0,w0⟩,turn⟩:=q s2.heap.objs.size I2.fresh
 generalize hD:s2.heap.objs.size=D at *
 generalize hs3:({ s2 with heap:=s2.heap.push { cls:=.type "list",dict:=none,data:=.seq ([]:List Value).toArray },toks:=s2.toks }:Shared)=s3 at *
 have hheap:s2.heap.push { cls:=.type "list",dict:=none,data:=.seq ([]:List Value).toArray }=s3.heap:=by rw [←hs3]
 have hsz:s3.heap.objs.size=s2.heap.objs.size+1:=by rw [←hheap,Heap.size_push]
 rw [hheap] at hns₁ hsb₁ ⊢
 have fD:∀ b∈fp,b≠D:=fun b hb z=>by
  obtain ⟨o,ho,_⟩:=T.obj _ _ st2 b hb
  exact Nat.lt_irrefl _ (hD ▸ z ▸ Heap.lt_size ho)
 have flt:∀ b∈fp,b < s3.heap.objs.size:=fun b hb=>by
  obtain ⟨o,ho,_⟩:=T.obj _ _ st2 b hb
  rw [hsz];exact Nat.lt_succ_of_lt (Heap.lt_size ho)
 have f3:∀ b∈fp,FpOk X pins (upd H2 D (.lst [])) b:=fun b hb=>⟨by rw [upd_ne (fD b hb)];exact (f2 b hb).1,(f2 b hb).2⟩
 have I4:=inv_comp C I3 (fp:=fp) (fun b hb=>⟨f3 b hb,flt b hb⟩) (t:=s2.toks+([]:List (Str×Value)).length) hns₁ hsb₁
 have old:∀ b o,s2.heap.get? b=some o→h₁.get? b=some o:=fun b o e=>by
  have hlt:b < s3.heap.objs.size:=by rw [hsz];exact Nat.lt_succ_of_lt (Heap.lt_size e)
  exact hsb₁.extBut b o (Nat.ne_of_lt hlt) (Heap.get?_push_of_some _ (hheap ▸ Heap.get?_push_of_some _ e))
 have st4:tn 0 h₁:=T.keep _ _ _ st2 fun b _ o e=>old b o e
 have stat:∀ {H':Hp},(∀ b∈fp,H' b=none)→∀ b∈fp,FpOk (cxComp X scope cl (x::fr.map (·.1)) fp s3 (upd H2 D (.lst []))) [] H' b:=fun hn b hb =>
  ⟨hn b hb,Nat.ne_of_lt (flt b hb),fun hz=>by
   rcases List.mem_cons.mp (I3.stkSub b hz) with e | e
   ·exact (f3 b hb).2.1 e
   ·exact (f3 b hb).2.2.1 e,.inl hb,fun y c e=>(f3 b hb).2.2.2.2.1 y c (C.sub y c e),fun p hp=>by cases hp⟩
 have loop:∀ s₃:Shared,s₃ = { s2 with heap:=h₁,toks:=s2.toks+([]:List (Str×Value)).length } →
   codeAny (model X.prog X.w) X.A (.compLoop (.ListComp elt [⟨.Name x px,iter,ifs,0⟩] scope pos) 0 (.ref it) (.ref D) (compEnvC scope cl s3.heap.objs.size X.env)) (compPost (model X.prog X.w) X.A E use Qv (.ref D) s3.heap.objs.size) s₃:=by
  intro s₃ e₃
  refine compLoop_go (fun n s'=>∃ i xv acc H',Inv (cxComp X scope cl (x::fr.map (·.1)) fp s3 (upd H2 D (.lst []))) [] (xv::slotsC fr σ) H' s'∧tn i s'.heap∧(∀ b∈fp,H' b=none)∧W i n acc H') ?_ m0
   ⟨0,none,[],_,by rw [e₃];have:=I4;rw [←hs3] at this ⊢;exact this,by rw [e₃];exact st4,fun b hb=>(f3 b hb).1,w0⟩
  rintro n s' ⟨i,xv,acc,H',Ic,st,frH,w⟩
  obtain ⟨hDl,⟨stop,qn⟩ | ⟨hlen,go,step⟩⟩:=turn i n acc H' w
  ·refine wpAny_mono (T.done (cxComp X scope cl (x::fr.map (·.1)) fp s3 (upd H2 D (.lst []))) rfl rfl rfl hc i [] s' _ H' (fun _ _=>False) Ic (stat frH) st stop) (fun r s4 ⟨hr,I5⟩=>?_) (fun _ _ z=>z)
   subst hr
   obtain ⟨m,hm,_⟩:=I5.loc
   have sz3:s3.heap.objs.size≤s3.heap.objs.size:=Nat.le_refl _
   exact hQ s4 H' D s3.heap.objs.size m (comp_back I3 f3 I5) hm I5.free (fun z=>Nat.lt_irrefl _ (z ▸ I3.lt)) (I3.nofs sz3) I3.sz
    (fun y c e z=>by obtain ⟨v,ob,ho,_⟩:=I3.cell y c e;exact Nat.lt_irrefl _ (z ▸ Heap.lt_size ho)) (fun p hp z=>Nat.lt_irrefl _ (z ▸ Heap.lt_size (I3.pin p hp).1)) qn
  ·refine wpAny_mono (T.item (cxComp X scope cl (x::fr.map (·.1)) fp s3 (upd H2 D (.lst []))) rfl rfl rfl hc i [] s' _ H' (fun _ _=>False) Ic (stat frH) st go) (fun r s4 ⟨u,hr,h4⟩=>?_) (fun _ _ z=>z)
   subst hr
   refine wpAny_mono h4 (fun _ s5 ⟨y,H5,I5,r5,y5,st5,fr5⟩=>?_) (fun _ _ z=>z)
   have I5':=I5.pinned (stat fr5) (T.obj _ _ st5)
   have hg:PG (cxComp X scope cl (x::fr.map (·.1)) fp s3 (upd H2 D (.lst []))) (.Name x px) (gName 0):=pg_name C.nd rfl (Or.inl (lookup_relabel_local C.hx)) (.inr (lookup_relabel_local C.hx))
   refine wpAny_mono (hg _ s5 _ H5 y u (fun σ6 H6=>σ6=some y::slotsC fr σ∧H6=H5) I5' r5 ⟨rfl,rfl⟩) (fun _ s6 ⟨σ6,H6,I6,e6,e6'⟩=>?_) (fun _ _ z=>z)
   subst e6 e6'
   have again:∀ {s7:Shared}{H7:Hp}{m':Nat}{acc':List V},Inv (cxComp X scope cl (x::fr.map (·.1)) fp s3 (upd H2 D (.lst []))) ([] ++ pinsAt fp s5.heap) (some y::slotsC fr σ) H7 s7→W (i+1) m' acc' H7 →
     ∃ i xv acc H',Inv (cxComp X scope cl (x::fr.map (·.1)) fp s3 (upd H2 D (.lst []))) [] (xv::slotsC fr σ) H' s7∧tn i s7.heap∧(∀ b∈fp,H' b=none)∧W i m' acc H':=fun {s7 H7 m' acc'} I7 w7=>by
    refine ⟨i+1,some y,acc',H7,I7.unpinned,T.keep _ _ _ st5 fun b hb o e=>(I7.pin (b,o) (List.mem_append_right _ (List.mem_append_right _ (mem_pinsAt hb e)))).1,fun b hb=>?_,w7⟩
    obtain ⟨o,e,d⟩:=T.obj _ _ st5 b hb
    exact (I7.pin (b,o) (List.mem_append_right _ (List.mem_append_right _ (mem_pinsAt hb e)))).2.1
   refine wpAny_mono (ht fp s3 _ _ s6 _ H6 _ I6 (step y H6 y5)) (fun b s7 ⟨H7,I7,q7⟩=>?_) (fun _ _ z=>z)
   cases b with
   | false =>
    obtain ⟨m',hm,w7⟩:=(show ∃ m',m' < n∧W (i+1) m' acc H7 from q7)
    exact ⟨m',hm,again I7 w7⟩
   | true =>
    refine wpAny_mono (he fp s3 _ _ s7 _ H7 _ I7 q7) (fun v s8 ⟨y8,H8,I8,r8,hD8,m',hm,w8⟩=>?_) (fun _ _ z=>z)
    refine wpAny_mono (mt_append (X:=cxComp X scope cl (x::fr.map (·.1)) fp s3 (upd H2 D (.lst []))) _ s8 _ H8 (.ref D) [y8] (.ref D) [v] (fun _ H9=>H9=upd H8 D (.lst (acc ++ [y8]))) I8 rfl (.cons r8 .nil) ⟨D,acc,y8,rfl,rfl,hD8,hlen,rfl⟩) (fun _ s9 ⟨_,H9,I9,_,e9⟩=>?_) (fun _ _ z=>z)
    subst e9
    exact ⟨m',hm,again I9 w8⟩
 exact codeAny_compStart_list (loop _ rfl) (T.self X.A 0 _ _ _ st4 (loop _ rfl))
theorem pe_comp (C:CompOk X scope cl x fr) (hc:X.calm=true) (hi:PI X (.Name x px) iter wi) (ht:∀ fp s H,PTs (cxComp X scope cl (x::fr.map (·.1)) fp s H) ifs tt) (he:∀ fp s H,PE (cxComp X scope cl (x::fr.map (·.1)) fp s H) elt te)
  (hs:∀ x,foldedSetIterable iter X.env x=pure x:=by intro _;rfl):PE X (.ListComp elt [⟨.Name x px,iter,ifs,0⟩] scope pos) (tComp fr wi tt te):=by
 intro pins s σ H Q I h
 rw [eval_ListComp]
 refine comp_walk (use:=none) (Q:=Q) C hc hi ht he I h hs (fun _ _ z=>z) ?_
 intro s₄ H₄ D Cn m I4 hm hC hL hF hS hcl hpn q
 refine ⟨m,hm,fun h' hs'=>⟨.ref D,H₄,?_,rfl,q⟩⟩
 exact I4.turned (t':=s₄.toks) (it:=Cn) (fun b o hb e=>(hs'.2 b hb).trans e) hC (Ne.symm (Ne.symm hL)) (.inr hS) hcl hpn
theorem ps_setC {i:Nat}{y:Str}{py spos:Pos} (C:CompOk X scope cl x fr) (hc:X.calm=true) (hN:X.N.Nodup) (hiy:X.N[i]? = some y) (hy:Loc X.env.scope y) (hi:PI X (.Name x px) iter wi) (ht:∀ fp s H,PTs (cxComp X scope cl (x::fr.map (·.1)) fp s H) ifs tt)
  (he:∀ fp s H,PE (cxComp X scope cl (x::fr.map (·.1)) fp s H) elt te) (hsw:swapsWith (.ListComp elt [⟨.Name x px,iter,ifs,0⟩] scope pos) (some (.Name y py)) spos.line X.env=pure true:=by rfl)
  (hs:∀ x,foldedSetIterable iter X.env x=pure x:=by intro _;rfl) (hf:X.fn y=true∨X.env.scope.names.lookup y=some .local:=by first | exact .inl rfl | exact .inr rfl | assumption) :
  PS X (.Assign [.Name y py] (.ListComp elt [⟨.Name x px,iter,ifs,0⟩] scope pos) spos) (tAsg (tComp fr wi tt te) (gName i)):=by
 intro pins s σ H D I h
 rw [exec_Assign_Name_used _ _ _ _ hsw]
 refine wpAny_bind (wpAny_standAt (wpAny_bind ?_))
 show wpAny _ X.A (do let _ ← comprehension (.ListComp elt [⟨.Name x px,iter,ifs,0⟩] scope pos) scope X.env _ (newList []) false (eval iter X.env) (some (assign (.Name y py) X.env))) _ _ s
 refine wpAny_bind (wpAny_mono (comp_walk (use:=some (assign (.Name y py) X.env)) (Qv:=fun _ s'=>SP X pins D .next s') C hc hi ht he I h hs (fun _ _ z=>z) ?_) (fun _ s' hq=>wpAny_pure (wpAny_pure hq)) fun _ _ z=>z)
 intro s₄ H₄ Dl Cn m I4 hm hC hL hF hS hcl hpn q
 obtain ⟨oC,es,ep,ho,hdat,r⟩:=id hm
 have I5:Inv X (pins ++ [(Cn,oC)]) σ H₄ s₄:=I4.pins_of fun p hp=>(List.mem_append.mp hp).elim (fun z=>I4.pin p (List.mem_append_right _ z)) fun z=>by
  cases List.mem_singleton.mp z
  exact ⟨ho,hC,hL,hF,fun v e=>by rw [hdat] at e;cases e⟩
 have hg:PG X (.Name y py) (gName i):=pg_name hN hiy hy hf
 refine wpAny_mono (hg _ s₄ σ H₄ (.ref Dl) (.ref Dl) D.nx I5 rfl q) (fun _ s5 ⟨σ5,H5,I6,q5⟩=>?_) (fun _ _ z=>z)
 have hp:=I6.pin (Cn,oC) (List.mem_append_right _ (List.mem_append_right _ (List.mem_singleton.mpr rfl)))
 refine ⟨m,⟨oC,es,ep,hp.1,hdat,r⟩,fun h' hs'=>⟨σ5,H5,?_,q5⟩⟩
 exact I6.unpinned.turned (t':=s5.toks) (it:=Cn) (fun b o hb e=>(hs'.2 b hb).trans e) hp.2.1 hL (.inr hS) hcl hpn
end
end L2
namespace R
open PySem L2 PyProof.Rows
structure Df (K:PySem.W.Frag) (mg:Str→Option Value) (x:Str) (st:Stmt) (ps:List Str) where
 f:Addr
 fd:FuncData
 F:Fun K x x st f fd
 b:Binds K fd ps []
 m:mg x=some (.ref f)
noncomputable def df_mk {K:PySem.W.Frag}{h:Heap}{mg:Str→Option Value} (X:K.In h) (G:h.Ns mainGlobals mg) {x:Str}{st:Stmt}{f:Addr}{ps:List Str}{od an:Option Addr}{osl:Array (Option Value)}{oc kV doc pm cdv ct:Value}
  (a:PySem.W.nsIn K mainGlobals x=some (some (.ref f)))
  (l:K.lookup f=some ⟨oc,od,.func (PySem.W.fnOf x x (defArgs st) (defBody st) (defScope st) .none kV doc pm an cdv ct),osl⟩)
  (c:PySem.W.codeIn K cdv x=true) (k:PySem.W.keepIn K (.ref f)=true)
  (h:∀ (kV doc pm:Value) (an:Option Addr) (cdv ct:Value) (us:List Value),us.length=ps.length→bindArgs (PySem.W.fnOf x x (defArgs st) (defBody st) (defScope st) .none kV doc pm an cdv ct) ⟨us,[]⟩=pure (ps.zip us)) :
  Df K mg x st ps :=
 ⟨f,_,fun_mk (st:=st) l c k,(fun_mk (st:=st) l c k).binds h,PySem.W.mg_of X G a⟩
theorem small5 {n:Nat} (h:n≤5000):n < sizeLine:=Nat.lt_of_le_of_lt h (by decide)
theorem pw (n:Nat):(0:Int) < 10 ^ n:=by
 induction n with
 | zero=>decide
 | succ n ih=>rw [Int.pow_succ];omega
theorem atI_int {ns:List Int}{k:Int} (h0:0≤k) (h1:k < ns.length):∃ z,atI (ns.map V.int) k=some (V.int z):=by
 have hz:k.toNat < ns.length:=by omega
 have e:(ns.map V.int)[k.toNat]? = some (V.int ns[k.toNat]):=by simp [hz]
 have e2:((k.toNat:Nat):Int)=k:=by omega
 have:=atI_nat e
 rw [e2] at this
 exact ⟨_,this⟩
def spCell (K:PySem.W.Frag):Sp:=fun vs H Q _=>∃ (a:Addr) (ns:List Int) (k:Int),vs = [.ref a,.int k]∧SqL K H a (ns.map V.int)∧0≤k∧∀ z:Int,Q (.int z) H
end R
namespace L2
open PySem PySem.Spec PyProof.Rows
end L2
namespace L2
open PySem PySem.Spec PyProof.Rows
def SubL (cells:List (Str×Addr)):List (Str×Addr)→Prop
 | []=>True
 | p::r=>cells.lookup p.1=some p.2∧SubL cells r
def FreL (N:List Str) (names rn:List (Str×NameKind)):List (Str×Nat)→Prop
 | []=>True
 | p::r=>(N[p.2]? = some p.1∧(names.lookup p.1=some .cell∨names.lookup p.1=some .free)∧(rn.lookup p.1=some .cell∨rn.lookup p.1=some .free))∧FreL N names rn r
theorem mem_of_lookup {β:Type}{y:Str}{k:β}:∀ {l:List (Str × β)},l.lookup y=some k→(y,k)∈l
 | [],h=>by simp at h
 | (n,v)::r,h=>by
  rw [List.lookup_cons] at h
  by_cases e:(y == n)=true
  ·rw [e] at h
   have e':y=n:=eq_of_beq e
   have h':v=k:=Option.some.inj h
   rw [e',h']
   exact List.mem_cons_self ..
  ·have e':(y == n)=false:=by simpa using e
   rw [e'] at h
   exact List.mem_cons_of_mem _ (mem_of_lookup h)
theorem SubL.mem {cells:List (Str×Addr)}:∀ {l:List (Str×Addr)},SubL cells l→∀ p∈l,cells.lookup p.1=some p.2
 | [],_,p,hp=>by cases hp
 | q::r,h,p,hp=>by
  rcases List.mem_cons.mp hp with e | e
  ·exact e ▸ h.1
  ·exact SubL.mem h.2 p e
theorem FreL.mem {N:List Str}{names rn:List (Str×NameKind)}:∀ {l:List (Str×Nat)},FreL N names rn l→∀ p∈l,N[p.2]? = some p.1∧(names.lookup p.1=some .cell∨names.lookup p.1=some .free)∧(rn.lookup p.1=some .cell∨rn.lookup p.1=some .free)
 | [],_,p,hp=>by cases hp
 | q::r,h,p,hp=>by
  rcases List.mem_cons.mp hp with e | e
  ·exact e ▸ h.1
  ·exact FreL.mem h.2 p e
theorem compOk {X:Cx}{scope:Scope}{cl:List (Str×Addr)}{x:Str}{fr:List (Str×Nat)} (clos:closureFor scope X.env=pure cl:=by rfl) (kind:scope.kind = .function:=by rfl)
  (nocell:(scope.names.all fun y=>decide (y.2 ≠ .cell))=true:=by rfl) (names:(scope.names.all fun y=>decide (y.2 = .local→scope.names.lookup y.1=some .local))=true:=by decide +kernel) (hx:scope.names.lookup x=some .local:=by rfl)
  (sub:SubL X.env.cells cl:=by repeat (first | exact trivial | refine ⟨rfl,?_⟩))
  (has:((relabel scope X.env).names.all fun p=>(decide (p.2 ≠ .cell)&&decide (p.2 ≠ .free)) || (cl.lookup p.1).isSome)=true:=by rfl)
  (fre:FreL X.N X.env.scope.names (relabel scope X.env).names fr:=by repeat (first | exact trivial | refine ⟨⟨rfl,.inl rfl,.inl rfl⟩,?_⟩))
  (nd:(x::fr.map (·.1)).Nodup:=by decide +kernel):CompOk X scope cl x fr where
 clos:=clos
 kind:=kind
 nocell:=fun y hy=>of_decide_eq_true (List.all_eq_true.mp nocell y hy)
 names:=fun y hy=>of_decide_eq_true (List.all_eq_true.mp names y hy)
 hx:=hx
 sub:=fun y c e=>SubL.mem sub (y,c) (mem_of_lookup e)
 has:=fun y h=>by
  have q:∀ k,(k=NameKind.cell∨k=NameKind.free)→(relabel scope X.env).names.lookup y=some k→∃ c,cl.lookup y=some c:=fun k hk e=>by
   have m:=List.all_eq_true.mp has (y,k) (mem_of_lookup e)
   rcases hk with rfl | rfl
   ·exact Option.isSome_iff_exists.mp (by simpa using m)
   ·exact Option.isSome_iff_exists.mp (by simpa using m)
  rcases h with e | e
  ·exact q _ (.inl rfl) e
  ·exact q _ (.inr rfl) e
 fre:=FreL.mem fre
 nd:=nd
end L2
namespace L2
open PySem PySem.Spec PyProof.Rows
section
variable {tt:TT}{te:TE}{fr:List (Str×Nat)}{σ:St}{R:Hp→Prop}{D:Addr}{H1:Hp}
theorem comp_range {lo:Int}{n:Nat} (Pv:Nat→List V→Hp→Prop) (h0:Pv 0 [] (upd H1 D (.lst []))) (hD:∀ i acc H2,i≤n→Pv i acc H2→H2 D=some (.lst acc)∧acc.length < sizeLine)
  (hs:∀ (i:Nat) acc H2 (N:List V→Hp→Prop),i < n→(∀ acc' H',Pv (i+1) acc' H'→N acc' H')→Pv i acc H2→tt (some (.int (lo+i))::slotsC fr σ) H2 fun b H4 =>
   if b=true then te (some (.int (lo+i))::slotsC fr σ) H4 fun y H5=>H5 D=some (.lst acc)∧N (acc ++ [y]) (upd H5 D (.lst (acc ++ [y]))) else N acc H4)
  (hd:∀ acc H2,Pv n acc H2→R H2) :
  ∃ W:Nat→Nat→List V→Hp→Prop,(∃ m,W 0 m [] (upd H1 D (.lst [])))∧∀ i m acc H2,W i m acc H2 →
   H2 D=some (.lst acc)∧(((Itr lo n).stop i H2∧R H2)∨(acc.length < sizeLine∧(Itr lo n).go i H2∧∀ x H3,(Itr lo n).yld i H2 x H3→tt (some x::slotsC fr σ) H3 fun b H4 =>
    if b=true then te (some x::slotsC fr σ) H4 fun y H5=>H5 D=some (.lst acc)∧∃ m',m' < m∧W (i+1) m' (acc ++ [y]) (upd H5 D (.lst (acc ++ [y]))) else ∃ m',m' < m∧W (i+1) m' acc H4)):=by
 refine ⟨fun i m acc H=>m=n-i∧i≤n∧Pv i acc H,⟨n,by simp,Nat.zero_le _,h0⟩,?_⟩
 rintro i m acc H2 ⟨rfl,hi,p⟩
 obtain ⟨d1,d2⟩:=hD i acc H2 hi p
 refine ⟨d1,?_⟩
 by_cases hlt:i < n
 ·refine .inr ⟨d2,hlt,fun x H3 y=>?_⟩
  obtain ⟨e,e'⟩:=y
  subst e e'
  exact hs i acc _ (fun acc' H'=>∃ m',m' < n-i∧m'=n-(i+1)∧i+1≤n∧Pv (i+1) acc' H') hlt (fun acc' H' q=>⟨_,by omega,rfl,hlt,q⟩) p
 ·have e:i=n:=by omega
  subst e
  exact .inl ⟨Nat.le_refl _,hd acc H2 p⟩
theorem comp_list {K:PySem.W.Frag}{a:Addr}{xs:List V} (Pv:Nat→List V→Hp→Prop) (h0:Pv 0 [] (upd H1 D (.lst []))) (hD:∀ i acc H2,i≤xs.length→Pv i acc H2→H2 D=some (.lst acc)∧acc.length < sizeLine∧SqL K H2 a xs)
  (hs:∀ i x acc H2 (N:List V→Hp→Prop),xs[i]? = some x→(∀ acc' H',Pv (i+1) acc' H'→N acc' H')→Pv i acc H2→tt (some x::slotsC fr σ) H2 fun b H4 =>
   if b=true then te (some x::slotsC fr σ) H4 fun y H5=>H5 D=some (.lst acc)∧N (acc ++ [y]) (upd H5 D (.lst (acc ++ [y]))) else N acc H4)
  (hd:∀ acc H2,Pv xs.length acc H2→R H2) :
  ∃ W:Nat→Nat→List V→Hp→Prop,(∃ m,W 0 m [] (upd H1 D (.lst [])))∧∀ i m acc H2,W i m acc H2 →
   H2 D=some (.lst acc)∧(((Itl K a).stop i H2∧R H2)∨(acc.length < sizeLine∧(Itl K a).go i H2∧∀ x H3,(Itl K a).yld i H2 x H3→tt (some x::slotsC fr σ) H3 fun b H4 =>
    if b=true then te (some x::slotsC fr σ) H4 fun y H5=>H5 D=some (.lst acc)∧∃ m',m' < m∧W (i+1) m' (acc ++ [y]) (upd H5 D (.lst (acc ++ [y]))) else ∃ m',m' < m∧W (i+1) m' acc H4)):=by
 refine ⟨fun i m acc H=>m=xs.length-i∧i≤xs.length∧Pv i acc H,⟨xs.length,by simp,Nat.zero_le _,h0⟩,?_⟩
 rintro i m acc H2 ⟨rfl,hi,p⟩
 obtain ⟨d1,d2,d3⟩:=hD i acc H2 hi p
 refine ⟨d1,?_⟩
 by_cases hlt:i < xs.length
 ·refine .inr ⟨d2,⟨xs,xs[i],d3,by simp [hlt]⟩,fun x H3 y=>?_⟩
  obtain ⟨e,y⟩:=y
  subst e
  exact hs i x acc _ (fun acc' H'=>∃ m',m' < xs.length-i∧m'=xs.length-(i+1)∧i+1≤xs.length∧Pv (i+1) acc' H') (y xs d3) (fun acc' H' q=>⟨_,by omega,rfl,hlt,q⟩) p
 ·have e:i=xs.length:=by omega
  subst e
  exact .inl ⟨⟨xs,d3,Nat.le_refl _⟩,hd acc H2 p⟩
end
end L2
namespace L2
open PySem PySem.Spec PyProof.Rows
theorem vals_of_get:∀ {xs:List V}{us:List Value},xs.length=us.length→(∀ (j:Nat) (x:V) (u:Value),xs[j]? = some x→us[j]? = some u→RelV x u)→Vals xs us
 | [],[],_,_=>.nil
 | [],_::_,h,_=>by simp at h
 | _::_,[],h,_=>by simp at h
 | x::xs,u::us,h,q=>.cons (q 0 x u rfl rfl) (vals_of_get (by simpa using h) fun j y w a b=>q (j+1) y w (by simpa using a) (by simpa using b))
def rngV (n:Nat) (f:Int→Int):List V:=(List.range n).map fun i:Nat=>V.int (f (i:Int))
theorem rngV_len (n:Nat) (f:Int→Int):(rngV n f).length=n:=by unfold rngV;rw [List.length_map,List.length_range]
theorem rngV_get {n:Nat}{f:Int→Int}{i:Nat} (h:i < n):(rngV n f)[i]? = some (.int (f (i:Int))):=by unfold rngV;rw [List.getElem?_map,List.getElem?_range h];rfl
section
variable {X:Cx}
def tRange1 (ta:TA):TE:=fun σ H Q=>ta σ H fun vs H1=>∃ n:Int,vs = [.int n]∧∀ r,H1 r=none→Q (.ref r) (upd H1 r (.rng 0 n))
theorem pe_range1 {a:Expr}{ta:TA}{p pos:Pos} (hg:Gl X "range") (hm:X.mg "range" = none) (ha:PA X [a] ta) (hs:starEach [a] X.env = [(false,eval a X.env)]:=by rfl):PE X (.Call (.Name "range" p) [a] [] pos) (tRange1 ta):=by
 intro pins s σ H Q I h
 refine Call_ (ld_blt I hg hm boot_range (PyProof.Rows.callWith_type1 (thn (ha pos pins s σ H _ I h) fun us s1 ⟨vs,H1,I1,r1,q1⟩=>?_) hs rfl))
 obtain ⟨n,e,q⟩:=q1
 subst e
 cases r1 with
 | cons r rr =>
  cases rr
  obtain ⟨t,rfl⟩:=r
  exact call_range_1 ⟨.ref s1.heap.objs.size,_,I1.laid (o:=.rng 0 n) (fun b o e=>Heap.get?_push_of_some _ e) (Nat.le_refl _) ⟨_,_,_,Heap.get?_push_size _ rfl⟩,rfl,q _ (I1.hok.fresh (Nat.le_refl _))⟩
theorem call_list_rng (hc:X.calm=true):CallR X (.type "list") (fun xs H Q=>∃ (r:Addr) (n:Int),xs = [.ref r]∧H r=some (.rng 0 n)∧0≤n∧n≤100000∧∀ l,H l=none→Q (.ref l) (upd H l (.lst (rngV n.toNat fun p=>p)))):=by
 intro pins s σ H xs us Q I rs h
 obtain ⟨r,n,rfl,hr,n0,n1,q⟩:=h
 obtain ⟨u,rfl,rx⟩:=vals1 rs
 cases rx
 obtain ⟨t,u,v,ho⟩:=(show ∃ t u v,s.heap.get? r=some { cls:=.type "range",data:=.fields #[.int 0 t,.int n u,.int 1 v] } from I.hok r _ hr)
 refine call_list_range (n:=n.toNat) (I.ok.hd hc) (show IsRange s.heap r 0 n 1 t u v from ho) (small_one (by omega) (by omega) (by omega) (by omega)) ?_ (by omega) fun h' tk acc' c' hk hS hacc=>?_
 ·rw [rangeSize_one];split <;> omega
 ·refine ⟨.ref s.heap.objs.size,_,I.laid (t':=tk) (o:=.lst (rngV n.toNat fun p=>p)) hk (Nat.le_refl _) ⟨?_,acc'.toList,c',?_,by simpa using hS⟩,rfl,q _ (I.hok.fresh (Nat.le_refl _))⟩
  ·rw [rngV_len]
   exact Nat.le_trans (show n.toNat≤100000 by omega) (by decide)
  ·refine vals_of_get (by rw [rngV_len,Array.length_toList,hacc.1]) fun j x w hx hw=>?_
   have hw':acc'[j]? = some w:=by simpa using hw
   obtain ⟨tk',rfl⟩:=hacc.2 j w hw'
   have hj:j < n.toNat:=by
    have:=(Array.getElem?_eq_some_iff.mp hw').1
    rw [hacc.1] at this;exact this
   rw [rngV_get hj] at hx
   have hx':V.int (j:Int)=x:=Option.some.inj hx
   subst hx'
   exact ⟨tk',by rw [Int.mul_one,Int.zero_add]⟩
end
end L2
namespace L2
open PySem PySem.Spec PyProof.Rows
section
variable {X:Cx}{K:PySem.W.Frag}
theorem ix_listK (h:X.K=K:=by rfl):IxR X (rIxL K):=h ▸ ix_list
theorem ix_tupK (h:X.K=K:=by rfl):IxR X (rIxT K):=h ▸ ix_tup
theorem op_in_seqK (h:X.K=K:=by rfl):OpR X (compareOp .In) (rIn K false):=h ▸ op_in_seq
end
end L2
namespace L2
open PySem PySem.Spec PyProof.Rows
end L2
namespace SortP
open PySem PySem.W PyProof.Rows
section
variable {n:Nat}{lt:Nat→Nat→Bool}
abbrev at' (p:Array Nat) (i:Nat):Nat:=p.getD i 0
structure G (n:Nat) (p:Array Nat):Prop where
 sz:p.size=n
 pm:p.toList.Perm (List.range n)
def S (lt:Nat→Nat→Bool) (p:Array Nat) (m:Nat):Prop:=∀ i j,i≤j→j < m→lt (at' p j) (at' p i)=false
def D (lt:Nat→Nat→Bool) (p:Array Nat) (m:Nat):Prop:=∀ i j,i≤j→j < m→lt (at' p i) (at' p j)=false
def R (n:Nat) (lt:Nat→Nat→Bool) (r:Nat×Array Nat):Prop:=G n r.2∧1≤r.1∧r.1≤n∧S lt r.2 r.1
end
end SortP
namespace L2
open PySem PySem.Spec PyProof.Rows
end L2
namespace SortP
open PySem PySem.W PyProof.Rows
open HT
end SortP
namespace SortP
open PySem PySem.W PyProof.Rows HT
end SortP
namespace L2
open PySem PySem.Spec PyProof.Rows
theorem vals_refs:∀ {rs:List Addr}{us:List Value},Vals (rs.map V.ref) us→us=rs.map Value.ref
 | [],_,r=>by cases r;rfl
 | x::xs,_,r=>by
  cases r with
  | cons a b =>
   rw [vals_refs b]
   cases a
   rfl
end L2
namespace L2
open PySem PySem.Spec PyProof.Rows
end L2
namespace L2
open PySem PySem.Spec PyProof.Rows
theorem vals_intsA:∀ {us:List Value}{ns:List Int},IntsAre us ns→Vals (ns.map V.int) us
 | _,_,.nil=>.nil
 | _,_,.cons n t h=>.cons ⟨t,rfl⟩ (vals_intsA h)
section
variable {X:Cx}
def rSortI (K:PySem.W.Frag):List V→Hp→VK→Prop:=fun xs H Q=>∃ (l:Addr) (ns:List Int),xs = [.ref l]∧SqL K H l (ns.map V.int)∧ns.length < 64 ∧
 ∀ (D:Addr) (ns':List Int),H D=none→ns'.Perm ns→ns'.Pairwise (· ≤ ·)→Q (.ref D) (upd H D (.lst (ns'.map V.int)))
theorem call_sortedI:CallR X (.builtin "sorted") (rSortI X.K):=by
 intro pins s σ H xs us Q I r h
 obtain ⟨l,ns,rfl,hl,h64,q⟩:=h
 obtain ⟨u,rfl,ru⟩:=vals1 r
 cases ru
 obtain ⟨its,rv,pl,hz⟩:=I.list hl
 have hI:=intsAre_of rv
 have hn:its.length=ns.length:=IntsAre.length hI
 refine sorted_ints pl.isList hI (by omega) fun out ns' hi hperm hs=>?_
 obtain ⟨e,ee⟩:=sortedAll_at s.heap its out
 have hl2:ns'.length≤sizeLine:=Nat.le_trans (show ns'.length≤64 by rw [hperm.length_eq];omega) (by decide)
 exact ⟨.ref (s.heap.objs.size+1),_,I.laid (t':=s.toks) (o:=.lst (ns'.map V.int)) (fun b o z=>sortedAll_old z) (Nat.le_succ _) ⟨by rw [List.length_map];exact hl2,out.toList,e,vals_intsA hi,by simpa using ee⟩,rfl,q _ ns' (I.hok.fresh (Nat.le_succ _)) hperm hs⟩
end
def Itrc (lo c:Int) (n:Nat):It:=⟨fun i _=>i < n,fun i H x H'=>H'=H∧x = .int (lo+i*c),fun i _=>n≤i⟩
theorem turn_rangec {P:Program}{w:World}{K:PySem.W.Frag}{tg:Expr} (it:Addr) (lo c:Int) (n:Nat):Turn P w K tg (Itrc lo c n) [it] it (fun i h=>IsRangeIter h it (lo+(i:Nat)*c) ((n:Int)-(i:Nat)) c) where
 mem:=by simp
 obj:=fun i h st b hb=>by
  have e:b=it:=by simpa using hb
  subst e
  exact ⟨_,st,fun v z=>by
   have z':Data.fields _=Data.cell v:=z
   cases z'⟩
 keep:=fun i h h' st k=>k it (by simp) _ st
 item:=by
  intro X hP hw hK hc i pins s σ H E I hf st hg
  subst hP hw hK
  obtain ⟨f0,f1,f2,f3,f4,f5⟩:=hf it (by simp)
  have W:=Walks.range (prog:=X.prog) (w:=X.w) (I.ok.hd hc) it lo c n
  refine W.item i s _ _ hg st fun v h' tk hv st' kk=>?_
  obtain ⟨t,rfl⟩:=hv
  have I1:Inv X pins σ H { s with heap:=h',toks:=tk }:=I.turned (fun b o hb e=>kk b o (by simpa using hb) e) f0 f1 f3 f4 f5
  exact ⟨_,rfl,go_of (s:={ s with heap:=h',toks:=tk }) (n:="range_iterator") st' rfl rfl (by decide) ⟨.int (lo+i*c),H,I1,⟨t,rfl⟩,⟨rfl,rfl⟩,st',fun b hb=>(hf b hb).1⟩⟩
 done:=by
  intro X hP hw hK hc i pins s σ H E I hf st hg
  subst hP hw hK
  obtain ⟨f0,f1,f2,f3,f4,f5⟩:=hf it (by simp)
  exact wpAny_pyNext_range_end (I.ok.hd hc) st (by have:n≤i:=hg;omega) fun h' eb=>⟨rfl,I.turned (t':=s.toks) (fun b o hb e=>eb b o hb e) f0 f1 f3 f4 f5⟩
 self:=fun _ _ _ _ _ st h=>wpAny_pyIter_rangeiter st h
section
variable {X:Cx}{tg:Expr}
theorem for_rangec {lo c:Int}{n:Nat}{g:TG}{tb:TS}{D:Ends}{σ:St}{H:Hp} (Pv:Nat→St→Hp→Prop) (h0:Pv 0 σ H)
  (hs:∀ i σ H,i < n→Pv i σ H→g (.int (lo+i*c)) σ H fun σ2 H2=>tb { D with nx:=Pv (i+1),ct:=Pv (i+1),bk:=D.nx } σ2 H2) (hd:∀ σ H,Pv n σ H→D.nx σ H) :
  ∃ W:Nat→Nat→St→Hp→Prop,(∃ m,W 0 m σ H)∧∀ i m σ H,W i m σ H →
   ((Itrc lo c n).stop i H∧D.nx σ H)∨((Itrc lo c n).go i H∧∃ N:St→Hp→Prop,(∀ σ' H',N σ' H'→∃ m',m' < m∧W (i+1) m' σ' H')∧∀ x H',(Itrc lo c n).yld i H x H'→g x σ H' fun σ2 H2=>tb { D with nx:=N,ct:=N,bk:=D.nx } σ2 H2):=by
 refine ⟨fun i m σ H=>m=n-i∧i≤n∧Pv i σ H,⟨n,by simp,Nat.zero_le _,h0⟩,?_⟩
 rintro i m σ H ⟨rfl,hi,p⟩
 by_cases hlt:i < n
 ·refine .inr ⟨hlt,Pv (i+1),fun σ' H' p'=>⟨n-(i+1),by omega,rfl,hlt,p'⟩,fun x H' y=>?_⟩
  obtain ⟨e,y⟩:=y
  subst e y
  exact hs i σ _ hlt p
 ·have e:i=n:=by omega
  subst e
  exact .inl ⟨Nat.le_refl _,hd σ H p⟩
end
end L2
namespace K3
end K3
namespace K3
open PySem L2
end K3
namespace K3
open PySem L2
end K3
namespace K3
open PySem L2
def di (xs:List Int):PyData:=.list (xs.map .int)
def dl (pss:List (List Int)):PyData:=.list (pss.map di)
end K3
namespace K3
open PySem L2
theorem mem_inl {xs:List Int}{x:Int}:(Sum.inl x:Key)∈(xs.map fun x=>(Sum.inl x:Key))↔x∈xs:=by
 rw [List.mem_map]
 constructor
 ·rintro ⟨y,hy,e⟩
  have:=Sum.inl.inj e
  exact this ▸ hy
 ·intro h;exact ⟨x,h,rfl⟩
theorem isSome_keys {kvs:List (Key×V)}{xs:List Int} (h:kvs.map (·.1)=xs.map fun x=>(Sum.inl x:Key)) (x:Int):(valV kvs (Sum.inl x)).isSome=decide (x∈xs):=by
 cases e:valV kvs (Sum.inl x) with
 | none =>
  have:=valV_not e
  rw [h] at this
  have hx:¬ x∈xs:=fun z=>this (mem_inl.mpr z)
  rw [decide_eq_false hx];rfl
 | some v =>
  have:=valV_in e
  rw [h] at this
  rw [decide_eq_true (mem_inl.mp this)];rfl
end K3
namespace M6
def mt:List (Int×Int)→Int→Int
 | [],x=>x
 | p::r,x=>if x=p.1 then p.2 else if x=p.2 then p.1 else mt r x
def sq (f g:Int→Int) (b:Int):Nat→Int
 | 0=>b
 | k+1=>if k % 2=0 then f (sq f g b k) else g (sq f g b k)
section
variable {n:Nat}{f g:Int→Int}{b:Int}
def wk (f g:Int→Int) (b:Int) (m:Nat):List Int:=(List.range m).map (sq f g b)
def IsFirst (f g:Int→Int) (b:Int) (k:Nat):Prop:=1≤k∧sq f g b (2*k)=b∧∀ i,1≤i→i < k→sq f g b (2*i)≠b
noncomputable def per (f g:Int→Int) (b:Int):Nat:=Classical.epsilon (IsFirst f g b)
noncomputable def ring (f g:Int→Int) (b:Int):List Int:=wk f g b (2*per f g b)
end
noncomputable def acc (f g:Int→Int):Nat→List (List Int)
 | 0=>[]
 | i+1=>if (i:Int)∈(acc f g i).flatten then acc f g i else acc f g i ++ [ring f g i]
structure Up (n:Nat) (f g:Int→Int) (i:Nat) (rs:List (List Int)):Prop where
 nd:rs.flatten.Nodup
 cl:∀ x∈rs.flatten,0≤x∧x < (n:Int)∧f x∈rs.flatten∧g x∈rs.flatten
 low:∀ x,0≤x→x < (i:Int)→x∈rs.flatten
 each:∀ (j:Nat) (r:List Int),rs[j]? = some r→∃ b,0≤b∧b < (n:Int)∧r=ring f g b∧∀ x,0≤x→x < b→x∈(rs.take j).flatten
end M6
namespace L2
open PySem PySem.Spec PyProof.Rows
end L2
namespace M6
open PySem L2 PyProof.Rows K3
theorem none_keys {kvs:List (Key×V)}{xs:List Int} (h:kvs.map (·.1)=xs.map fun x=>(Sum.inl x:Key)) {x:Int} (hx:¬ x∈xs):valV kvs (Sum.inl x)=none:=by
 have:=isSome_keys h x
 rw [decide_eq_false hx] at this
 exact Option.not_isSome_iff_eq_none.mp (by rw [this];exact Bool.false_ne_true)
def But (c:Addr) (H H':Hp):Prop:=∀ x o,x≠c→H x=some o→H' x=some o
theorem But.same {c:Addr}{H₀ H H':Hp} (e:Same H₀ H) (h:H₀ c=none) (b:But c H H'):Same H₀ H':=fun x o z=>b x o (ne_of_none z h) (e x o z)
theorem But.refl (c:Addr) (H:Hp):But c H H:=fun _ _ _ h=>h
end M6
namespace M12
open PySem L2 PyProof.Rows K3
abbrev Tr:=Int×Int×Int
def t3 (t:Tr):HO:=.tup [.int t.1,.int t.2.1,.int t.2.2]
def d3 (t:Tr):PyData:=.tuple [.int t.1,.int t.2.1,.int t.2.2]
end M12
namespace M12
open PySem L2 PyProof.Rows K3
def t2 (p:Int×Int):List Int:=[p.1,p.2]
end M12
namespace L2
open PySem PySem.Spec PyProof.Rows
section
variable {X:Cx}{es as:List Expr}{te:TE}{t:TA}{p:Pos}{k:Nat}{v:Const}{l r:Expr}{o:Operator}{u:UnaryOp}{x:Str}{ks:List Keyword}
theorem pa_con (ha:PE X (.Constant v k p) te) (hr:PA X es t):PA X (.Constant v k p::es) (tCons te t):=pa_cons ha hr rfl
end
end L2
namespace L2
open PySem PySem.Spec PyProof.Rows
def AnyT (t:TT) (σ:St) (H:Hp):Prop:=∀ Q:Bool→Hp→Prop,(∀ b,Q b H)→t σ H Q
section
variable {t u:TT}{σ:St}{H:Hp}
theorem any_or (ha:AnyT t σ H) (hb:AnyT u σ H):AnyT (tOr t u) σ H:=fun Q q=>ha _ fun _=>ite2 (fun _=>q true) (fun _=>hb Q q)
theorem any_and (ha:AnyT t σ H) (hb:AnyT u σ H):AnyT (tAnd t u) σ H:=fun Q q=>ha _ fun _=>ite2 (fun _=>hb Q q) (fun _=>q false)
theorem any_if {a b:TS}{D:Ends} (h:AnyT t σ H) (ha:a D σ H) (hb:b D σ H):tIfS t a b D σ H:=h _ fun _=>ite2 (fun _=>ha) (fun _=>hb)
theorem any_ifS {a r:TS}{D:Ends} (h:AnyT t σ H) (ha:a { D with nx:=r D } σ H) (hb:r D σ H):tSeq (tIfS t a tNext) r D σ H:=any_if h ha hb
end
end L2
namespace L2
open PySem PySem.Spec PyProof.Rows PySem.W
end L2
namespace L2
open PySem PySem.Spec PyProof.Rows
end L2
namespace M26
open PySem L2 PyProof.Rows
def cw (b:Bool):Nat:=if b then 119 else 100
def sg (b:Bool):Str:=⟨#[cw b]⟩
def sS (bs:List Bool):Str:=⟨(bs.map cw).toArray⟩
def oS:Option Bool→Str
 | none=>(Str.ofString "")
 | some b=>sg b
end M26
namespace L2
open PySem PySem.Spec PyProof.Rows
end L2
namespace M26
open PySem L2 PyProof.Rows
end M26
namespace L2
open PySem PySem.Spec PyProof.Rows
end L2
namespace M26
open PySem L2 PyProof.Rows
end M26
namespace L2
open PySem PySem.Spec PyProof.Rows
theorem ifP_exact {t:TT}{σ:St}{H:Hp}{a r:TS}{D:Ends} (c:Bool) (P:St→Hp→Prop) (h:∀ Q:Bool→Hp→Prop,Q c H→t σ H Q) (ha:c=true→∀ D':Ends,(∀ σ' H',P σ' H'→D'.nx σ' H')→a D' σ H) (hn:c=false→P σ H) (hr:∀ σ' H',P σ' H'→r D σ' H'):tSeq (tIfS t a tNext) r D σ H:=by
 refine h _ ?_
 cases c with
 | true=>exact iteT (ha rfl _ hr)
 | false=>exact iteF (hr σ H (hn rfl))
end L2
namespace L2
open PySem PySem.Spec PyProof.Rows
end L2
namespace M26
open PySem L2 PyProof.Rows
def sgn (f m:Int) (k:Nat):Str:=if m > 26 then (⟨#[97+((f+(0+(k:Int))) % 26).toNat]⟩:Str)++(⟨#[97+((0+(k:Int)) / 26).toNat]⟩:Str) else ⟨#[97+((f+(0+(k:Int))) % 26).toNat]⟩
end M26
namespace L2
open PySem PySem.Spec PyProof.Rows
end L2
namespace L2
open PySem PySem.Spec PyProof.Rows
def Iten (K:PySem.W.Frag) (a:Addr):It :=
 ⟨fun i H=>∃ xs x,SqL K H a xs∧xs[i]? = some x,fun i H x H'=>∃ p y,H p=none∧x = .ref p∧(∀ xs,SqL K H a xs→xs[i]? = some y)∧H'=upd H p (.tup [.int (i:Int),y]),fun i H=>∃ xs,SqL K H a xs∧xs.length≤i⟩
section
variable {X:Cx}{pins:List (Addr×Obj)}{σ:St}{H:Hp}{s:Shared}{h':Heap}
theorem Inv.turned2 {t':Nat}{e it:Addr} (I:Inv X pins σ H s) (k:∀ b o,b≠e→b≠it→s.heap.get? b=some o→h'.get? b=some o) (fe:FpOk X pins H e) (fi:FpOk X pins H it):Inv X pins σ H { s with heap:=h',toks:=t' }:=by
 have ne:∀ b u,H b=some u→b≠e:=fun b u q z=>by rw [z,fe.1] at q;cases q
 have ni:∀ b u,H b=some u→b≠it:=fun b u q z=>by rw [z,fi.1] at q;cases q
 have kk:∀ b o,b ∉ [e,it]→s.heap.get? b=some o→h'.get? b=some o:=fun b o hc q=>k b o (fun z=>hc (by simp [z])) (fun z=>hc (by simp [z])) q
 refine I.step (g':=s.gens) (d':=s.drawn) (ch:=[e,it]) (fun b hb=>?_) (fun b o _ _ hc e _=>kk b o hc e) (fun b o _ _ hc e _=>⟨o.slots,kk b o hc e⟩) (fun _ _ _ _ n=>n)
  (fun b o hc e=>⟨o,kk b o hc e⟩) (fun _ _ e=>e) (fun _ _ _ e=>e) (fun b ps e=>⟨#[],by rw [e];simp⟩) (fun m hm=>?_) (fun b u q=>?_) I.bare
 ·rcases List.mem_cons.mp hb with z | z
  ·subst z;exact ⟨fe.2.2.2.1,fe.2.1,fe.2.2.2.2.1,fe.2.2.2.2.2⟩
  ·have z:b=it:=by simpa using z
   subst z;exact ⟨fi.2.2.2.1,fi.2.1,fi.2.2.2.2.1,fi.2.2.2.2.2⟩
 ·obtain ⟨o,es,ep,ho,r⟩:=hm
  exact ⟨o,es,ep,k _ o (Ne.symm fe.2.1) (Ne.symm fi.2.1) ho,r⟩
 ·refine (I.hok b u q).stay (fun c v hc z=>k c v ?_ ?_ z) (fun _ z=>z) fun _ _ z=>z
  ·rcases hc with y | y
   ·rw [y];exact ne b u q
   ·exact ne c _ y
  ·rcases hc with y | y
   ·rw [y];exact ni b u q
   ·exact ni c _ y
theorem FpOk.upd {b p:Addr}{o:HO} (h:FpOk X pins H b) (hn:b≠p):FpOk X pins (L2.upd H p o) b:=⟨by rw [upd_ne hn];exact h.1,h.2⟩
end
theorem turn_enum {P:Program}{w:World}{K:PySem.W.Frag}{elts:List Expr}{x1:Nat}{tp:Pos} (a e it:Addr) (hne:e≠it):Turn P w K (.Tuple elts x1 tp) (Iten K a) [e,it] e (fun i h=>(∃ old,IsEnum h e it i old)∧h.IsListIter it a i) where
 mem:=by simp
 obj:=fun i h st b hb=>by
  obtain ⟨⟨old,he⟩,o,ho,c,d⟩:=st
  rcases List.mem_cons.mp hb with z | z
  ·subst z
   exact ⟨_,he,fun v z=>by cases z⟩
  ·have z:b=it:=by simpa using z
   subst z
   exact ⟨o,ho,fun v z=>by rw [d] at z;cases z⟩
 keep:=fun i h h' st k=>by
  obtain ⟨⟨old,he⟩,hi⟩:=st
  exact ⟨⟨old,k e (by simp) _ he⟩,hi.at fun o q=>k it (by simp) o q⟩
 item:=by
  intro X hP hw hK hc i pins s σ H E I hf st hg
  subst hP hw hK
  obtain ⟨xs,x,hq,hx⟩:=hg
  obtain ⟨its,rv,p,hz⟩:=I.list hq
  obtain ⟨u,hu,ru⟩:=rv.get hx
  obtain ⟨⟨old,he⟩,hit⟩:=st
  have fe:=hf e (by simp)
  have fi:=hf it (by simp)
  refine wpAny_pyNext_enum_item he hit p.isList (x:=u) (by simpa using hu) hne fun h' ho hit' hT hsz hk=>⟨_,rfl,?_⟩
  refine wpAny_letOwnedTupleGo_enum ho fun h2 he2 hs2=>?_
  have he2':IsEnum h2 e it ((i:Int)+1) u:=he2
  have hs2':Heap.SameBut e h' h2:=hs2
  have hle:e < s.heap.objs.size:=Heap.lt_size he
  have hli:it < s.heap.objs.size:=by obtain ⟨o,q,_⟩:=hit;exact Heap.lt_size q
  have hn:H s.heap.objs.size=none:=I.hok.fresh (Nat.le_refl _)
  have hT2:h2.get? s.heap.objs.size=some { cls:=.type "tuple",data:=.seq #[.int i s.toks,u] }:=(hs2'.2 _ (Nat.ne_of_gt hle)).trans hT
  have I1:Inv X pins σ (upd H s.heap.objs.size (.tup [.int (i:Int),x])) { s with heap:=s.heap.push { cls:=.type "tuple",data:=.seq #[.int i s.toks,u] },toks:=s.toks+1 } :=
   I.laid (fun b o q=>Heap.get?_push_of_some _ q) (Nat.le_refl _) ⟨by show 2≤sizeLine;decide,[.int i s.toks,u],.cons ⟨s.toks,rfl⟩ (.cons ru .nil),⟨_,Heap.get?_push_size _ rfl,rfl,_,rfl⟩⟩
  have kk:∀ (b:Addr) (o:Obj),b≠e→b≠it→(s.heap.push { cls:=.type "tuple",data:=.seq #[.int i s.toks,u] }).get? b=some o→h2.get? b=some o:=fun b o be bi q'=>by
   by_cases hb:b=s.heap.objs.size
   ·subst hb
    rw [Heap.get?_push_size _ rfl] at q'
    cases q'
    exact hT2
   ·rw [Heap.get?_push_ne _ _ _ hb] at q'
    exact (hs2'.2 b be).trans (hk b o be bi q')
  have I2:=Inv.turned2 (h':=h2) (t':=s.toks+1) (e:=e) (it:=it) I1 kk (fe.upd (Nat.ne_of_lt hle)) (fi.upd (Nat.ne_of_lt hli))
  refine ⟨.ref s.heap.objs.size,_,I2,rfl,⟨_,x,hn,rfl,fun ys hy=>by rw [I.list_inj hy hq];exact hx,rfl⟩,⟨⟨u,by rw [Int.natCast_add];exact he2'⟩,hit'.at fun o q=>(hs2'.2 it (Ne.symm hne)).trans q⟩,fun b hb=>?_⟩
  rcases List.mem_cons.mp hb with z | z
  ·subst z;exact (fe.upd (Nat.ne_of_lt hle)).1
  ·have z:b=it:=by simpa using z
   subst z;exact (fi.upd (Nat.ne_of_lt hli)).1
 done:=by
  intro X hP hw hK hc i pins s σ H E I hf st hg
  subst hP hw hK
  obtain ⟨xs,hq,hx⟩:=hg
  obtain ⟨its,rv,p,hz⟩:=I.list hq
  obtain ⟨⟨old,he⟩,hit⟩:=st
  obtain ⟨f0,f1,f2,f3,f4,f5⟩:=hf it (by simp)
  have hl:=rv.length
  exact wpAny_pyNext_enum_end (I.ok.hd hc) he hit p.isList (by simp;omega) fun h' eb=>⟨rfl,I.turned (t':=s.toks) (fun b o hb e=>eb b o hb e) f0 f1 f3 f4 f5⟩
 self:=fun _ _ _ _ _ st h=>by
  obtain ⟨⟨old,he⟩,_⟩:=st
  exact wpAny_pyIter_enum he h
section
variable {X:Cx}
def iEnum (K:PySem.W.Frag) (ta:TA):TI:=fun σ H R=>ta σ H fun vs H1=>∃ a xs,vs = [.ref a]∧H1 a=some (.lst xs)∧R (Iten K a) H1
theorem pi_enum {a:Expr}{ta:TA}{p pos tp:Pos}{elts:List Expr}{x1:Nat} (hg:Gl X "enumerate") (hm:X.mg "enumerate" = none) (ha:PA X [a] ta) (hs:starEach [a] X.env = [(false,eval a X.env)]:=by rfl):PI X (.Tuple elts x1 tp) (.Call (.Name "enumerate" p) [a] [] pos) (iEnum X.K ta):=by
 intro pins s σ H R I h
 refine Call_ (ld_blt I hg hm boot_enumerate (PyProof.Rows.callWith_type1 (thn (ha pos pins s σ H _ I h) fun us s1 ⟨vs,H1,I1,r1,q1⟩=>?_) hs rfl))
 obtain ⟨l,xs,e,hq,q⟩:=q1
 subst e
 cases r1 with
 | cons r rr =>
  cases rr
  cases r
  obtain ⟨hz,its,n,rv,hl⟩:=(show ObjOk X.prog X.w H1 s1.heap l (.lst xs) from I1.hok l _ hq)
  refine call_enumerate_1 hl fun h' he hit hsz hk=>?_
  refine wpAny_pyIter_enum he ?_
  have I2:Inv X pins σ H1 { s1 with heap:=h' }:=I1.kept (t':=s1.toks) hk
  refine ⟨s1.heap.objs.size+1,[s1.heap.objs.size+1,s1.heap.objs.size],_,_,H1,rfl,I2,turn_enum l _ _ (Nat.succ_ne_self _),⟨⟨_,he⟩,hit⟩,fun b hb=>?_,q⟩
  rcases List.mem_cons.mp hb with z | z
  ·subst z;exact I1.fpOk (Nat.le_succ _) (I1.hok.fresh (Nat.le_succ _))
  ·have z:b=s1.heap.objs.size:=by simpa using z
   subst z;exact I1.fpOk (Nat.le_refl _) (I1.hok.fresh (Nat.le_refl _))
end
end L2
namespace L2
open PySem PySem.Spec PyProof.Rows
structure CompOkG (X:Cx) (scope:Scope) (cl:List (Str×Addr)) (xs:List Str) (fr:List (Str×Nat)):Prop where
 clos:closureFor scope X.env=pure cl
 kind:scope.kind = .function
 nocell:∀ y∈scope.names,y.2 ≠ .cell
 names:∀ y∈scope.names,y.2 = .local→scope.names.lookup y.1=some .local
 sub:∀ y c,cl.lookup y=some c→X.env.cells.lookup y=some c
 has:∀ y,((relabel scope X.env).names.lookup y=some .cell∨(relabel scope X.env).names.lookup y=some .free)→∃ c,cl.lookup y=some c
 fre:∀ p∈fr,X.N[p.2]? = some p.1∧(X.env.scope.names.lookup p.1=some .cell∨X.env.scope.names.lookup p.1=some .free)∧((relabel scope X.env).names.lookup p.1=some .cell∨(relabel scope X.env).names.lookup p.1=some .free)
def nones (n:Nat):St:=List.replicate n none
section
variable {X:Cx}{pins:List (Addr×Obj)}{σ:St}{H:Hp}{s:Shared}{scope:Scope}{cl:List (Str×Addr)}{xs:List Str}{fr:List (Str×Nat)}{fp:List Addr}
theorem inv_compG (C:CompOkG X scope cl xs fr) (I:Inv X pins σ H s) (hf:∀ b∈fp,FpOk X pins H b∧b < s.heap.objs.size) {h':Heap}{t:Nat}{o:Obj}{m:Str→Option Value} (hn:h'.Ns s.heap.objs.size m)
  (hs:Heap.SameBut s.heap.objs.size (s.heap.push o) h'):Inv (cxComp X scope cl (xs++fr.map (·.1)) fp s H) [] (nones xs.length++slotsC fr σ) H { s with heap:=h',toks:=t }:=by
 have old:∀ b u,s.heap.get? b=some u→h'.get? b=some u:=fun b u e=>hs.extBut b u (Nat.ne_of_lt (Heap.lt_size e)) (Heap.get?_push_of_some _ e)
 have celllt:∀ y c,X.env.cells.lookup y=some c→c < s.heap.objs.size:=fun y c e=>by
  obtain ⟨v,ob,ho,_⟩:=I.cell y c e
  exact Heap.lt_size ho
 refine ⟨⟨I.ok.mod,C.kind,I.ok.glob,I.ok.blt,Nat.le_refl _,fun a b c ea eb=>I.ok.inj a b c (C.sub a c ea) (C.sub b c eb),fun y hy=>C.has y hy,(fun y c hy=>nomatch hy),I.ok.hd,I.ok.frames,.inl rfl,fun b hb=>⟨Nat.ne_of_lt (hf b hb).2,fun y c e=>(hf b hb).1.2.2.2.2.1 y c (C.sub y c e)⟩,I.bs,Nat.le_trans I.ok.bsz I.sz,fun b ob e hb=>?_,fun b hb hz=>?_,I.stack,I.stkFree⟩,
  rfl,I.bare,⟨fun b u e _ _ _=>old b u e,fun b u e _ _ _=>⟨u.slots,old b u e⟩,fun b u e n _=>n,fun b u e _=>⟨u,old b u e⟩,fun _ _ e=>e,fun _ _ _ e=>e,fun b ps e=>⟨#[],by rw [Array.append_empty];exact e⟩⟩,⟨m,hn,fun i y v e1 e2 e3=>?_⟩,fun y c e=>?_,I.hok.fresh (Nat.le_refl _),fun y c e=>I.freeC y c (C.sub y c e),(fun p hp=>by cases hp),I.hok.kept old,?_⟩
 ·-- noex
  rcases (hf b hb).1.2.2.2.1 with z | z
  ·exact I.ok.noex b ob e z
  ·exact absurd (Nat.lt_of_lt_of_le (Heap.lt_size (I.ok.bs b ob e).1) z) (Nat.lt_irrefl _)
 ·-- exfs
  rcases List.mem_cons.mp (I.stkSub b hz) with e | e
  ·exact (hf b hb).1.2.1 e
  ·exact (hf b hb).1.2.2.1 e
 ·-- a free name's value
  have e1x:(xs++fr.map (·.1))[i]? = some y:=e1
  have e2x:(nones xs.length++slotsC fr σ)[i]? = some (some v):=e2
  have ln:(nones xs.length).length=xs.length:=List.length_replicate
  by_cases hi:i < xs.length
  ·rw [List.getElem?_append_left (by rw [ln];exact hi)] at e2x
   unfold nones at e2x
   rw [List.getElem?_replicate,if_pos hi] at e2x
   cases e2x
  ·rw [List.getElem?_append_right (by omega)] at e1x
   rw [List.getElem?_append_right (by rw [ln];omega),ln] at e2x
   generalize i-xs.length=i at e1x e2x
   have e1':(fr.map (·.1))[i]? = some y:=e1x
   have e2':(slotsC fr σ)[i]? = some (some v):=e2x
   rw [List.getElem?_map] at e1'
   unfold slotsC at e2'
   rw [List.getElem?_map] at e2'
   cases ep:fr[i]? with
   | none=>rw [ep] at e1';cases e1'
   | some p =>
    rw [ep] at e1' e2'
    have ey:p.1=y:=Option.some.inj e1'
    have ev:(σ[p.2]?).join=some v:=Option.some.inj e2'
    obtain ⟨f1,f2,f3⟩:=C.fre p (List.mem_of_getElem? ep)
    rw [ey] at f1 f2 f3
    have ev':σ[p.2]? = some (some v):=by
     cases q:σ[p.2]? with
     | none=>rw [q] at ev;cases ev
     | some z=>rw [q] at ev;cases z with
      | none=>cases ev
      | some z=>exact congrArg some ev
    obtain ⟨m',_,hl⟩:=I.loc
    obtain ⟨u,r,l⟩:=hl p.2 y v f1 ev' (.inr f2)
    refine ⟨u,r,.inr ⟨f3,?_⟩⟩
    rcases l with ⟨k,_⟩ | ⟨_,c,ec,hc⟩
    ·exfalso
     have k':X.env.scope.names.lookup y=some .local:=k
     rcases f2 with z | z <;> rw [z] at k' <;> cases k'
    ·obtain ⟨c',ec'⟩:=C.has y f3
     have:=C.sub y c' ec'
     rw [ec] at this
     cases this
     obtain ⟨ob,ho,hd⟩:=hc
     exact ⟨c,ec',ob,old _ _ ho,hd⟩
 ·obtain ⟨v,ob,ho,hd⟩:=I.cell y c (C.sub y c e)
  exact ⟨v,ob,old _ _ ho,hd⟩
 ·show (nones xs.length++slotsC fr σ).length=(xs++fr.map (·.1)).length
  simp [slotsC,nones]
end
def tCompG (n:Nat) (fr:List (Str×Nat)) (wi:TI) (g:TG) (tt:TT) (te:TE):TE:=fun σ H Q=>wi σ H fun J H1=>∀ D,H1 D=none→∃ W:Nat→Nat→List V→Hp→Prop,(∃ m,W 0 m [] (upd H1 D (.lst [])))∧∀ i m acc H2,W i m acc H2 →
 H2 D=some (.lst acc)∧((J.stop i H2∧Q (.ref D) H2)∨(acc.length < sizeLine∧J.go i H2∧∀ x H3,J.yld i H2 x H3→g x (nones n++slotsC fr σ) H3 fun σ1 H3'=>∃ vs:St,vs.length=n∧σ1=vs++slotsC fr σ∧tt σ1 H3' fun b H4 =>
  if b=true then te σ1 H4 fun y H5=>H5 D=some (.lst acc)∧∃ m',m' < m∧W (i+1) m' (acc ++ [y]) (upd H5 D (.lst (acc ++ [y]))) else ∃ m',m' < m∧W (i+1) m' acc H4))
theorem weak_slots {vs r:St}{n j:Nat}{v:V} (hl:vs.length=n) (e:(nones n++r)[j]? = some (some v)):(vs++r)[j]? = some (some v):=by
 have ln:(nones n).length=n:=List.length_replicate
 by_cases hj:j < n
 ·rw [List.getElem?_append_left (by rw [ln];exact hj)] at e
  unfold nones at e
  rw [List.getElem?_replicate,if_pos hj] at e
  cases e
 ·rw [List.getElem?_append_right (by rw [ln];omega),ln] at e
  rw [List.getElem?_append_right (by omega),hl]
  exact e
section
variable {X:Cx}{scope:Scope}{cl:List (Str×Addr)}{xs:List Str}{fr:List (Str×Nat)}{elt iter tgt:Expr}{g:TG}{ifs:List Expr}{px pos:Pos}{wi:TI}{tt:TT}{te:TE}
theorem comp_walkG {pins:List (Addr×Obj)}{σ:St}{H:Hp}{s:Shared}{Q:VK}{use:Option (Value→Sem Unit)}{Qv:Value→Shared→Prop}{E:Value→Shared→Prop} (C:CompOkG X scope cl xs fr) (hc:X.calm=true) (hi:PI X tgt iter wi) (hgt:∀ fp s H,PG (cxComp X scope cl (xs++fr.map (·.1)) fp s H) tgt g)
  (ht:∀ fp s H,PTs (cxComp X scope cl (xs++fr.map (·.1)) fp s H) ifs tt) (he:∀ fp s H,PE (cxComp X scope cl (xs++fr.map (·.1)) fp s H) elt te)
  (I:Inv X pins σ H s) (h:tCompG xs.length fr wi g tt te σ H Q) (hs:∀ x,foldedSetIterable iter X.env x=pure x) (hE:∀ e s',X.xe e s'→E e s')
  (hQ:∀ (s₄:Shared) (H₄:Hp) (D Cn:Addr) (m:Str→Option Value),Inv X pins σ H₄ s₄→s₄.heap.Ns Cn m→H₄ Cn=none→Cn≠X.env.locals→Cn ∉ X.fs→X.s₀.heap.objs.size≤Cn→(∀ y c,X.env.cells.lookup y=some c→c≠Cn)→(∀ p∈X.pn++pins,p.1≠Cn)→Q (.ref D) H₄ →
   compPost (model X.prog X.w) X.A E use Qv (.ref D) Cn (.ok .next) s₄) :
  wpAny (model X.prog X.w) X.A (comprehension (.ListComp elt [⟨tgt,iter,ifs,0⟩] scope pos) scope X.env (firstIterPos [⟨tgt,iter,ifs,0⟩] pos) (newList []) false (eval iter X.env) use) Qv E s:=by
 refine wpAny_comprehension_free (use:=use) rfl hs C.clos C.kind C.names (wpAny_mono (hi pins s σ H _ I h) (fun v s1 h1=>wpAny_mono h1 (fun itv s2 h2=>?_) hE) hE)
 obtain ⟨it,fp,tn,J,H2,e,I2,T,st2,f2,q⟩:=h2
 subst e
 refine wpAny_newObj_type (wpAny_newFunctionEnv C.nocell (by intro y hy;simp at hy) (fun h₁ hns₁ hsb₁=>?_) C.kind)
 dsimp only at hns₁ hsb₁ ⊢
 have I3:Inv X pins σ (upd H2 s2.heap.objs.size (.lst [])) { s2 with heap:=s2.heap.push { cls:=.type "list",dict:=none,data:=.seq ([]:List Value).toArray },toks:=s2.toks }:=I2.lnew (ys:=[]) (its:=[]) .nil (Nat.zero_le _)
 obtain ⟨W,⟨m0,w0⟩,turn⟩:=q s2.heap.objs.size I2.fresh
 generalize hD:s2.heap.objs.size=D at *
 generalize hs3:({ s2 with heap:=s2.heap.push { cls:=.type "list",dict:=none,data:=.seq ([]:List Value).toArray },toks:=s2.toks }:Shared)=s3 at *
 have hheap:s2.heap.push { cls:=.type "list",dict:=none,data:=.seq ([]:List Value).toArray }=s3.heap:=by rw [←hs3]
 have hsz:s3.heap.objs.size=s2.heap.objs.size+1:=by rw [←hheap,Heap.size_push]
 rw [hheap] at hns₁ hsb₁ ⊢
 have fD:∀ b∈fp,b≠D:=fun b hb z=>by
  obtain ⟨o,ho,_⟩:=T.obj _ _ st2 b hb
  exact Nat.lt_irrefl _ (hD ▸ z ▸ Heap.lt_size ho)
 have flt:∀ b∈fp,b < s3.heap.objs.size:=fun b hb=>by
  obtain ⟨o,ho,_⟩:=T.obj _ _ st2 b hb
  rw [hsz];exact Nat.lt_succ_of_lt (Heap.lt_size ho)
 have f3:∀ b∈fp,FpOk X pins (upd H2 D (.lst [])) b:=fun b hb=>⟨by rw [upd_ne (fD b hb)];exact (f2 b hb).1,(f2 b hb).2⟩
 have I4:=inv_compG C I3 (fp:=fp) (fun b hb=>⟨f3 b hb,flt b hb⟩) (t:=s2.toks+([]:List (Str×Value)).length) hns₁ hsb₁
 have old:∀ b o,s2.heap.get? b=some o→h₁.get? b=some o:=fun b o e=>by
  have hlt:b < s3.heap.objs.size:=by rw [hsz];exact Nat.lt_succ_of_lt (Heap.lt_size e)
  exact hsb₁.extBut b o (Nat.ne_of_lt hlt) (Heap.get?_push_of_some _ (hheap ▸ Heap.get?_push_of_some _ e))
 have st4:tn 0 h₁:=T.keep _ _ _ st2 fun b _ o e=>old b o e
 have stat:∀ {H':Hp},(∀ b∈fp,H' b=none)→∀ b∈fp,FpOk (cxComp X scope cl (xs++fr.map (·.1)) fp s3 (upd H2 D (.lst []))) [] H' b:=fun hn b hb =>
  ⟨hn b hb,Nat.ne_of_lt (flt b hb),fun hz=>by
   rcases List.mem_cons.mp (I3.stkSub b hz) with e | e
   ·exact (f3 b hb).2.1 e
   ·exact (f3 b hb).2.2.1 e,.inl hb,fun y c e=>(f3 b hb).2.2.2.2.1 y c (C.sub y c e),fun p hp=>by cases hp⟩
 have loop:∀ s₃:Shared,s₃ = { s2 with heap:=h₁,toks:=s2.toks+([]:List (Str×Value)).length } →
   codeAny (model X.prog X.w) X.A (.compLoop (.ListComp elt [⟨tgt,iter,ifs,0⟩] scope pos) 0 (.ref it) (.ref D) (compEnvC scope cl s3.heap.objs.size X.env)) (compPost (model X.prog X.w) X.A E use Qv (.ref D) s3.heap.objs.size) s₃:=by
  intro s₃ e₃
  refine compLoop_go (fun n s'=>∃ i acc H',Inv (cxComp X scope cl (xs++fr.map (·.1)) fp s3 (upd H2 D (.lst []))) [] (nones xs.length++slotsC fr σ) H' s'∧tn i s'.heap∧(∀ b∈fp,H' b=none)∧W i n acc H') ?_ m0
   ⟨0,[],_,by rw [e₃];have:=I4;rw [←hs3] at this ⊢;exact this,by rw [e₃];exact st4,fun b hb=>(f3 b hb).1,w0⟩
  rintro n s' ⟨i,acc,H',Ic,st,frH,w⟩
  obtain ⟨hDl,⟨stop,qn⟩ | ⟨hlen,go,step⟩⟩:=turn i n acc H' w
  ·refine wpAny_mono (T.done (cxComp X scope cl (xs++fr.map (·.1)) fp s3 (upd H2 D (.lst []))) rfl rfl rfl hc i [] s' _ H' (fun _ _=>False) Ic (stat frH) st stop) (fun r s4 ⟨hr,I5⟩=>?_) (fun _ _ z=>z)
   subst hr
   obtain ⟨m,hm,_⟩:=I5.loc
   have sz3:s3.heap.objs.size≤s3.heap.objs.size:=Nat.le_refl _
   exact hQ s4 H' D s3.heap.objs.size m (comp_back I3 f3 I5) hm I5.free (fun z=>Nat.lt_irrefl _ (z ▸ I3.lt)) (I3.nofs sz3) I3.sz
    (fun y c e z=>by obtain ⟨v,ob,ho,_⟩:=I3.cell y c e;exact Nat.lt_irrefl _ (z ▸ Heap.lt_size ho)) (fun p hp z=>Nat.lt_irrefl _ (z ▸ Heap.lt_size (I3.pin p hp).1)) qn
  ·refine wpAny_mono (T.item (cxComp X scope cl (xs++fr.map (·.1)) fp s3 (upd H2 D (.lst []))) rfl rfl rfl hc i [] s' _ H' (fun _ _=>False) Ic (stat frH) st go) (fun r s4 ⟨u,hr,h4⟩=>?_) (fun _ _ z=>z)
   subst hr
   refine wpAny_mono h4 (fun _ s5 ⟨y,H5,I5,r5,y5,st5,fr5⟩=>?_) (fun _ _ z=>z)
   have I5':=I5.pinned (stat fr5) (T.obj _ _ st5)
   refine wpAny_mono (hgt fp s3 _ _ s5 _ H5 y u _ I5' r5 (step y H5 y5)) (fun _ s6 ⟨σ6,H6,I6,vs6,lv6,e6,q6⟩=>?_) (fun _ _ z=>z)
   subst e6
   have again:∀ {s7:Shared}{H7:Hp}{m':Nat}{acc':List V},Inv (cxComp X scope cl (xs++fr.map (·.1)) fp s3 (upd H2 D (.lst []))) ([] ++ pinsAt fp s5.heap) (vs6++slotsC fr σ) H7 s7→W (i+1) m' acc' H7 →
     ∃ i acc H',Inv (cxComp X scope cl (xs++fr.map (·.1)) fp s3 (upd H2 D (.lst []))) [] (nones xs.length++slotsC fr σ) H' s7∧tn i s7.heap∧(∀ b∈fp,H' b=none)∧W i m' acc H':=fun {s7 H7 m' acc'} I7 w7=>by
    refine ⟨i+1,acc',H7,(I7.weak (by simp [nones,lv6]) fun j v e=>weak_slots lv6 e).unpinned,T.keep _ _ _ st5 fun b hb o e=>(I7.pin (b,o) (List.mem_append_right _ (List.mem_append_right _ (mem_pinsAt hb e)))).1,fun b hb=>?_,w7⟩
    obtain ⟨o,e,d⟩:=T.obj _ _ st5 b hb
    exact (I7.pin (b,o) (List.mem_append_right _ (List.mem_append_right _ (mem_pinsAt hb e)))).2.1
   refine wpAny_mono (ht fp s3 _ _ s6 _ H6 _ I6 q6) (fun b s7 ⟨H7,I7,q7⟩=>?_) (fun _ _ z=>z)
   cases b with
   | false =>
    obtain ⟨m',hm,w7⟩:=(show ∃ m',m' < n∧W (i+1) m' acc H7 from q7)
    exact ⟨m',hm,again I7 w7⟩
   | true =>
    refine wpAny_mono (he fp s3 _ _ s7 _ H7 _ I7 q7) (fun v s8 ⟨y8,H8,I8,r8,hD8,m',hm,w8⟩=>?_) (fun _ _ z=>z)
    refine wpAny_mono (mt_append (X:=cxComp X scope cl (xs++fr.map (·.1)) fp s3 (upd H2 D (.lst []))) _ s8 _ H8 (.ref D) [y8] (.ref D) [v] (fun _ H9=>H9=upd H8 D (.lst (acc ++ [y8]))) I8 rfl (.cons r8 .nil) ⟨D,acc,y8,rfl,rfl,hD8,hlen,rfl⟩) (fun _ s9 ⟨_,H9,I9,_,e9⟩=>?_) (fun _ _ z=>z)
    subst e9
    exact ⟨m',hm,again I9 w8⟩
 exact codeAny_compStart_list (loop _ rfl) (T.self X.A 0 _ _ _ st4 (loop _ rfl))
theorem pe_compG (C:CompOkG X scope cl xs fr) (hc:X.calm=true) (hi:PI X tgt iter wi) (hgt:∀ fp s H,PG (cxComp X scope cl (xs++fr.map (·.1)) fp s H) tgt g) (ht:∀ fp s H,PTs (cxComp X scope cl (xs++fr.map (·.1)) fp s H) ifs tt) (he:∀ fp s H,PE (cxComp X scope cl (xs++fr.map (·.1)) fp s H) elt te)
  (hs:∀ x,foldedSetIterable iter X.env x=pure x:=by intro _;rfl):PE X (.ListComp elt [⟨tgt,iter,ifs,0⟩] scope pos) (tCompG xs.length fr wi g tt te):=by
 intro pins s σ H Q I h
 rw [eval_ListComp]
 refine comp_walkG (use:=none) (Q:=Q) C hc hi hgt ht he I h hs (fun _ _ z=>z) ?_
 intro s₄ H₄ D Cn m I4 hm hC hL hF hS hcl hpn q
 refine ⟨m,hm,fun h' hs'=>⟨.ref D,H₄,?_,rfl,q⟩⟩
 exact I4.turned (t':=s₄.toks) (it:=Cn) (fun b o hb e=>(hs'.2 b hb).trans e) hC (Ne.symm (Ne.symm hL)) (.inr hS) hcl hpn
theorem ps_setCG {i:Nat}{y:Str}{py spos:Pos} (C:CompOkG X scope cl xs fr) (hc:X.calm=true) (hN:X.N.Nodup) (hiy:X.N[i]? = some y) (hy:Loc X.env.scope y) (hi:PI X tgt iter wi) (hgt:∀ fp s H,PG (cxComp X scope cl (xs++fr.map (·.1)) fp s H) tgt g) (ht:∀ fp s H,PTs (cxComp X scope cl (xs++fr.map (·.1)) fp s H) ifs tt)
  (he:∀ fp s H,PE (cxComp X scope cl (xs++fr.map (·.1)) fp s H) elt te) (hsw:swapsWith (.ListComp elt [⟨tgt,iter,ifs,0⟩] scope pos) (some (.Name y py)) spos.line X.env=pure true:=by rfl)
  (hs:∀ x,foldedSetIterable iter X.env x=pure x:=by intro _;rfl) (hf:X.fn y=true∨X.env.scope.names.lookup y=some .local:=by first | exact .inl rfl | exact .inr rfl | assumption) :
  PS X (.Assign [.Name y py] (.ListComp elt [⟨tgt,iter,ifs,0⟩] scope pos) spos) (tAsg (tCompG xs.length fr wi g tt te) (gName i)):=by
 intro pins s σ H D I h
 rw [exec_Assign_Name_used _ _ _ _ hsw]
 refine wpAny_bind (wpAny_standAt (wpAny_bind ?_))
 show wpAny _ X.A (do let _ ← comprehension (.ListComp elt [⟨tgt,iter,ifs,0⟩] scope pos) scope X.env _ (newList []) false (eval iter X.env) (some (assign (.Name y py) X.env))) _ _ s
 refine wpAny_bind (wpAny_mono (comp_walkG (use:=some (assign (.Name y py) X.env)) (Qv:=fun _ s'=>SP X pins D .next s') C hc hi hgt ht he I h hs (fun _ _ z=>z) ?_) (fun _ s' hq=>wpAny_pure (wpAny_pure hq)) fun _ _ z=>z)
 intro s₄ H₄ Dl Cn m I4 hm hC hL hF hS hcl hpn q
 obtain ⟨oC,es,ep,ho,hdat,r⟩:=id hm
 have I5:Inv X (pins ++ [(Cn,oC)]) σ H₄ s₄:=I4.pins_of fun p hp=>(List.mem_append.mp hp).elim (fun z=>I4.pin p (List.mem_append_right _ z)) fun z=>by
  cases List.mem_singleton.mp z
  exact ⟨ho,hC,hL,hF,fun v e=>by rw [hdat] at e;cases e⟩
 have hg:PG X (.Name y py) (gName i):=pg_name hN hiy hy hf
 refine wpAny_mono (hg _ s₄ σ H₄ (.ref Dl) (.ref Dl) D.nx I5 rfl q) (fun _ s5 ⟨σ5,H5,I6,q5⟩=>?_) (fun _ _ z=>z)
 have hp:=I6.pin (Cn,oC) (List.mem_append_right _ (List.mem_append_right _ (List.mem_singleton.mpr rfl)))
 refine ⟨m,⟨oC,es,ep,hp.1,hdat,r⟩,fun h' hs'=>⟨σ5,H5,?_,q5⟩⟩
 exact I6.unpinned.turned (t':=s5.toks) (it:=Cn) (fun b o hb e=>(hs'.2 b hb).trans e) hp.2.1 hL (.inr hS) hcl hpn
end
theorem compOkG {X:Cx}{scope:Scope}{cl:List (Str×Addr)}{xs:List Str}{fr:List (Str×Nat)} (clos:closureFor scope X.env=pure cl:=by rfl) (kind:scope.kind = .function:=by rfl)
  (nocell:(scope.names.all fun y=>decide (y.2 ≠ .cell))=true:=by rfl) (names:(scope.names.all fun y=>decide (y.2 = .local→scope.names.lookup y.1=some .local))=true:=by decide +kernel)
  (sub:SubL X.env.cells cl:=by repeat (first | exact trivial | refine ⟨rfl,?_⟩))
  (has:((relabel scope X.env).names.all fun p=>(decide (p.2 ≠ .cell)&&decide (p.2 ≠ .free)) || (cl.lookup p.1).isSome)=true:=by rfl)
  (fre:FreL X.N X.env.scope.names (relabel scope X.env).names fr:=by repeat (first | exact trivial | refine ⟨⟨rfl,.inl rfl,.inl rfl⟩,?_⟩)):CompOkG X scope cl xs fr where
 clos:=clos
 kind:=kind
 nocell:=fun y hy=>of_decide_eq_true (List.all_eq_true.mp nocell y hy)
 names:=fun y hy=>of_decide_eq_true (List.all_eq_true.mp names y hy)
 sub:=fun y c e=>SubL.mem sub (y,c) (mem_of_lookup e)
 has:=fun y h=>by
  have q:∀ k,(k=NameKind.cell∨k=NameKind.free)→(relabel scope X.env).names.lookup y=some k→∃ c,cl.lookup y=some c:=fun k hk e=>by
   have m:=List.all_eq_true.mp has (y,k) (mem_of_lookup e)
   rcases hk with rfl | rfl
   ·exact Option.isSome_iff_exists.mp (by simpa using m)
   ·exact Option.isSome_iff_exists.mp (by simpa using m)
  rcases h with e | e
  ·exact q _ (.inl rfl) e
  ·exact q _ (.inr rfl) e
 fre:=FreL.mem fre
section
variable {tt:TT}{te:TE}{g:TG}{fr:List (Str×Nat)}{n:Nat}{σ:St}{R:Hp→Prop}{D:Addr}{H1:Hp}
theorem compG_list {K:PySem.W.Frag}{a:Addr}{xs:List V} (Pv:Nat→List V→Hp→Prop) (h0:Pv 0 [] (upd H1 D (.lst []))) (hD:∀ i acc H2,i≤xs.length→Pv i acc H2→H2 D=some (.lst acc)∧acc.length < sizeLine∧SqL K H2 a xs)
  (hs:∀ i x acc H2 (N:List V→Hp→Prop),xs[i]? = some x→(∀ acc' H',Pv (i+1) acc' H'→N acc' H')→Pv i acc H2→g x (nones n++slotsC fr σ) H2 fun σ1 H3'=>∃ vs:St,vs.length=n∧σ1=vs++slotsC fr σ∧tt σ1 H3' fun b H4 =>
   if b=true then te σ1 H4 fun y H5=>H5 D=some (.lst acc)∧N (acc ++ [y]) (upd H5 D (.lst (acc ++ [y]))) else N acc H4)
  (hd:∀ acc H2,Pv xs.length acc H2→R H2) :
  ∃ W:Nat→Nat→List V→Hp→Prop,(∃ m,W 0 m [] (upd H1 D (.lst [])))∧∀ i m acc H2,W i m acc H2 →
   H2 D=some (.lst acc)∧(((Itl K a).stop i H2∧R H2)∨(acc.length < sizeLine∧(Itl K a).go i H2∧∀ x H3,(Itl K a).yld i H2 x H3→g x (nones n++slotsC fr σ) H3 fun σ1 H3'=>∃ vs:St,vs.length=n∧σ1=vs++slotsC fr σ∧tt σ1 H3' fun b H4 =>
    if b=true then te σ1 H4 fun y H5=>H5 D=some (.lst acc)∧∃ m',m' < m∧W (i+1) m' (acc ++ [y]) (upd H5 D (.lst (acc ++ [y]))) else ∃ m',m' < m∧W (i+1) m' acc H4)):=by
 refine ⟨fun i m acc H=>m=xs.length-i∧i≤xs.length∧Pv i acc H,⟨xs.length,by simp,Nat.zero_le _,h0⟩,?_⟩
 rintro i m acc H2 ⟨rfl,hi,p⟩
 obtain ⟨d1,d2,d3⟩:=hD i acc H2 hi p
 refine ⟨d1,?_⟩
 by_cases hlt:i < xs.length
 ·refine .inr ⟨d2,⟨xs,xs[i],d3,by simp [hlt]⟩,fun x H3 y=>?_⟩
  obtain ⟨e,y⟩:=y
  subst e
  exact hs i x acc _ (fun acc' H'=>∃ m',m' < xs.length-i∧m'=xs.length-(i+1)∧i+1≤xs.length∧Pv (i+1) acc' H') (y xs d3) (fun acc' H' q=>⟨_,by omega,rfl,hlt,q⟩) p
 ·have e:i=xs.length:=by omega
  subst e
  exact .inl ⟨⟨xs,d3,Nat.le_refl _⟩,hd acc H2 p⟩
theorem compG_enum {K:PySem.W.Frag}{a:Addr}{xs:List V} (Pv:Nat→List V→Hp→Prop) (h0:Pv 0 [] (upd H1 D (.lst []))) (hD:∀ i acc H2,i≤xs.length→Pv i acc H2→H2 D=some (.lst acc)∧acc.length < sizeLine∧SqL K H2 a xs)
  (hs:∀ i x acc H2 p (N:List V→Hp→Prop),xs[i]? = some x→(∀ acc' H',Pv (i+1) acc' H'→N acc' H')→Pv i acc H2→H2 p=none→g (.ref p) (nones n++slotsC fr σ) (upd H2 p (.tup [.int (i:Int),x])) fun σ1 H3'=>∃ vs:St,vs.length=n∧σ1=vs++slotsC fr σ∧tt σ1 H3' fun b H4 =>
   if b=true then te σ1 H4 fun y H5=>H5 D=some (.lst acc)∧N (acc ++ [y]) (upd H5 D (.lst (acc ++ [y]))) else N acc H4)
  (hd:∀ acc H2,Pv xs.length acc H2→R H2) :
  ∃ W:Nat→Nat→List V→Hp→Prop,(∃ m,W 0 m [] (upd H1 D (.lst [])))∧∀ i m acc H2,W i m acc H2 →
   H2 D=some (.lst acc)∧(((Iten K a).stop i H2∧R H2)∨(acc.length < sizeLine∧(Iten K a).go i H2∧∀ x H3,(Iten K a).yld i H2 x H3→g x (nones n++slotsC fr σ) H3 fun σ1 H3'=>∃ vs:St,vs.length=n∧σ1=vs++slotsC fr σ∧tt σ1 H3' fun b H4 =>
    if b=true then te σ1 H4 fun y H5=>H5 D=some (.lst acc)∧∃ m',m' < m∧W (i+1) m' (acc ++ [y]) (upd H5 D (.lst (acc ++ [y]))) else ∃ m',m' < m∧W (i+1) m' acc H4)):=by
 refine ⟨fun i m acc H=>m=xs.length-i∧i≤xs.length∧Pv i acc H,⟨xs.length,by simp,Nat.zero_le _,h0⟩,?_⟩
 rintro i m acc H2 ⟨rfl,hi,p⟩
 obtain ⟨d1,d2,d3⟩:=hD i acc H2 hi p
 refine ⟨d1,?_⟩
 by_cases hlt:i < xs.length
 ·refine .inr ⟨d2,⟨xs,xs[i],d3,by simp [hlt]⟩,fun x H3 y=>?_⟩
  obtain ⟨r,z,hr,e,y,e'⟩:=y
  subst e e'
  exact hs i z acc _ r (fun acc' H'=>∃ m',m' < xs.length-i∧m'=xs.length-(i+1)∧i+1≤xs.length∧Pv (i+1) acc' H') (y xs d3) (fun acc' H' q=>⟨_,by omega,rfl,hlt,q⟩) p hr
 ·have e:i=xs.length:=by omega
  subst e
  exact .inl ⟨⟨xs,d3,Nat.le_refl _⟩,hd acc H2 p⟩
end
end L2
namespace M24
open PySem L2 PyProof.Rows M26 M12
abbrev T3:=Str×Str×Option Int
def oD:Option Int→PyData
 | none=>.none
 | some x=>.int x
def dT (t:T3):PyData:=.tuple [.str t.1,.str t.2.1,oD t.2.2]
structure Cd where
 pts:Int
 bs:List Bool
 ms:List Str
 rs:Bool
 tb:List Int
def cd0:Cd:=⟨0,[],[],false,[]⟩
end M24
namespace M24
open PySem L2 PyProof.Rows M26 M12
end M24
namespace M25
open PySem L2 PyProof.Rows M26 M12 M24
abbrev R3:=Str×Int×Int
def r3 (r:R3):HO:=.tup [.str r.1,.int r.2.1,.int r.2.2]
theorem getq_inj {us:List Str} (nd:us.Nodup) {i j:Nat}{x:Str} (h1:us[i]? = some x) (h2:us[j]? = some x):i=j:=by
 obtain ⟨l1,e1⟩:=List.getElem?_eq_some_iff.mp h1
 obtain ⟨l2,e2⟩:=List.getElem?_eq_some_iff.mp h2
 exact (List.getElem_inj nd).mp (e1.trans e2.symm)
theorem take_fresh {zs:List Str} (nd:zs.Nodup) {i:Nat}{z:Str} (h:zs[i]? = some z):¬ z∈zs.take i:=fun hm=>by
 obtain ⟨j,hj⟩:=List.mem_iff_getElem?.mp hm
 rw [List.getElem?_take] at hj
 split at hj
 ·have:=getq_inj nd h hj;omega
 ·cases hj
end M25
namespace M25
open PySem L2 PyProof.Rows M26 M12 M24
end M25
namespace M28
open PySem L2 PyProof.Rows M26
end M28
namespace M28
open PySem L2 PyProof.Rows M26
end M28
namespace L2
open PySem PySem.Spec PyProof.Rows PySem.W
end L2
namespace M22
open PySem L2 PyProof.Rows M24
end M22
namespace L2
open PySem PySem.Spec PyProof.Rows
end L2
namespace L2
open PySem PySem.Spec PyProof.Rows
def CmpCls (K:PySem.W.Frag) (C:Addr):Prop:=∃ nm q N bs hdct sn sub ab col dd k0 k1 k2 k3 k5 newId od es ep,
 K.lookup C=some (excClassObj nm q C N bs [.type "object"] hdct sn sub ab col dd k0 k1 k2 k3 k5 newId)∧K.lookup N=some od∧od.data = .dict es ep∧StrKeys es∧nsFind es "__eq__" = none∧nsFind es "__ne__" = none
section
variable {X:Cx}{C:Addr}
theorem CmpCls.inst {pins:List (Addr×Obj)}{σ:St}{H:Hp}{s:Shared}{a dx:Addr}{fs:List (Str×V)} (c:CmpCls X.K C) (I:Inv X pins σ H s) (e:H a=some (.ins C dx fs)):s.heap.CmpInst a C [.type "object"]:=by
 obtain ⟨mA,O,_,_,_,_⟩:=ins_get I.hok e
 obtain ⟨nm,q,N,bs,hdct,sn,sub,ab,col,dd,k0,k1,k2,k3,k5,newId,od,es,ep,h1,h2,h3,h4,h5,h6⟩:=c
 exact ⟨_,nm,q,N,bs,hdct,sn,sub,ab,col,dd,k0,k1,k2,k3,k5,newId,nsFind es,O.obj,rfl,I.kIn C _ h1,⟨od,es,ep,I.kIn N _ h2,h3,h4,fun _=>rfl⟩,h5,h6⟩
def rNeI (C:Addr):R2:=fun x y H Q=>∃ a b dx dy fs gs,x = .ref a∧y = .ref b∧H a=some (.ins C dx fs)∧H b=some (.ins C dy gs)∧Q (.bl (decide (a≠b))) H
theorem op_neI (hu:X.A.units+1 < cLine) (c:CmpCls X.K C):OpR X (compareOp .NotEq) (rNeI C):=by
 intro pins s σ H x y v u Q I rx ry h
 obtain ⟨a,b,dx,dy,fs,gs,rfl,rfl,ea,eb,q⟩:=h
 obtain rfl:v=Value.ref a:=rx
 obtain rfl:u=Value.ref b:=ry
 by_cases e:a=b
 ·subst e
  rw [decide_eq_false (fun z=>z rfl)] at q
  exact compareOp_ne_same F.cmp_object (c.inst I ea) hu ⟨.bl false,H,I,rfl,q⟩
 ·rw [decide_eq_true e] at q
  exact compareOp_ne_other F.cmp_object F.cmp_object (c.inst I ea) (c.inst I eb) e hu ⟨.bl true,H,I,rfl,q⟩
end
end L2
namespace L2
open PySem PySem.Spec PyProof.Rows
def Itrev (K:PySem.W.Frag) (a:Addr) (n:Nat):It :=
 ⟨fun i H=>i < n∧∃ xs x,SqL K H a xs∧xs[n-1-i]? = some x,fun i H x H'=>H'=H∧∀ xs,SqL K H a xs→xs[n-1-i]? = some x,fun i _=>i=n⟩
theorem turn_rev {P:Program}{w:World}{K:PySem.W.Frag}{tg:Expr} (a it:Addr) (n:Nat):Turn P w K tg (Itrev K a n) [it] it (fun i h=>i≤n∧h.IsRevIter it a ((n:Int)-1-i)) where
 mem:=by simp
 obj:=fun i h st b hb=>by
  have e:b=it:=by simpa using hb
  subst e
  obtain ⟨_,o,e,c,d⟩:=st
  exact ⟨o,e,fun v z=>by rw [d] at z;cases z⟩
 keep:=fun i h h' st k=>⟨st.1,st.2.at fun o e=>k it (by simp) o e⟩
 item:=by
  intro X hP hw hK hc i pins s σ H E I hf st hg
  subst hP hw hK
  obtain ⟨hi,xs,x,hq,hx⟩:=hg
  obtain ⟨its,rv,p,hz⟩:=I.list hq
  obtain ⟨u,hu,ru⟩:=rv.get hx
  obtain ⟨f0,f1,f2,f3,f4,f5⟩:=hf it (by simp)
  have e0:((n:Int)-1-i)=((n-1-i:Nat):Int):=by omega
  have st':=st.2
  rw [e0] at st'
  refine wpAny_pyNext_rev_item st' p.isList (x:=u) (by simpa using hu) fun h' st' sb=>?_
  have I1:Inv X pins σ H { s with heap:=h' }:=I.turned (t':=s.toks) (fun b o hb e=>(sb.2 b hb).trans e) f0 f1 f3 f4 f5
  obtain ⟨o,e,c,d⟩:=id st'
  have st2:i+1≤n∧h'.IsRevIter it a ((n:Int)-1-((i+1:Nat):Int)):=⟨hi,by rw [show (n:Int)-1-((i+1:Nat):Int)=((n-1-i:Nat):Int)-1 by omega];exact st'⟩
  exact ⟨u,rfl,go_of (s:={ s with heap:=h' }) e c d (by decide) ⟨x,H,I1,ru,⟨rfl,fun ys hy=>by rw [I.list_inj hy hq];exact hx⟩,st2,fun b hb=>(hf b hb).1⟩⟩
 done:=by
  intro X hP hw hK hc i pins s σ H E I hf st hg
  subst hP hw hK
  obtain ⟨f0,f1,f2,f3,f4,f5⟩:=hf it (by simp)
  have hg':i=n:=hg
  have st':=st.2
  rw [show (n:Int)-1-i = -1 by omega] at st'
  exact wpAny_pyNext_rev_end (I.ok.hd hc) st' fun h' eb=>⟨rfl,I.turned (t':=s.toks) (fun b o hb e=>eb b o hb e) f0 f1 f3 f4 f5⟩
 self:=fun _ _ _ _ _ st h=>wpAny_pyIter_revIter st.2 h
section
variable {X:Cx}
def iRev (K:PySem.W.Frag) (ta:TA):TI:=fun σ H R=>ta σ H fun vs H1=>∃ a xs,vs = [.ref a]∧SqL K H1 a xs∧R (Itrev K a xs.length) H1
theorem pi_rev {a:Expr}{ta:TA}{p pos:Pos}{tg:Expr} (hg:Gl X "reversed") (hm:X.mg "reversed" = none) (ha:PA X [a] ta) (hs:starEach [a] X.env = [(false,eval a X.env)]:=by rfl):PI X tg (.Call (.Name "reversed" p) [a] [] pos) (iRev X.K ta):=by
 intro pins s σ H R I h
 refine Call_ (ld_blt I hg hm boot_reversed (PyProof.Rows.callWith_type1 (thn (ha pos pins s σ H _ I h) fun us s1 ⟨vs,H1,I1,r1,q1⟩=>?_) hs rfl))
 obtain ⟨l,xs,e,hq,q⟩:=q1
 subst e
 cases r1 with
 | cons r rr =>
  cases rr
  cases r
  obtain ⟨its,rv,pl,hz⟩:=I1.list hq
  have hn:(its.toArray.size:Int)=xs.length:=by simp [rv.length]
  refine call_reversed_list pl.isList ?_
  have ht:((s1.heap.push (revObj l (↑its.toArray.size-1))).IsRevIter s1.heap.objs.size l ((xs.length:Int)-1-((0:Nat):Int))):=⟨_,Heap.get?_push_size _ rfl,rfl,by rw [hn];simp [revObj]⟩
  refine wpAny_pyIter_revIter ht ?_
  refine ⟨s1.heap.objs.size,[s1.heap.objs.size],_,_,H1,rfl,I1.kept (t':=s1.toks) fun b o e=>Heap.get?_push_of_some _ e,turn_rev l _ xs.length,⟨Nat.zero_le _,ht⟩,fun b hb=>?_,q⟩
  have e:b=s1.heap.objs.size:=by simpa using hb
  subst e
  exact I1.fpOk (Nat.le_refl _) (I1.hok.fresh (Nat.le_refl _))
end
section
variable {tt:TT}{te:TE}{g:TG}{fr:List (Str×Nat)}{n:Nat}{σ:St}{R:Hp→Prop}{D:Addr}{H1:Hp}
theorem compG_rev {K:PySem.W.Frag}{a:Addr}{xs:List V} (Pv:Nat→List V→Hp→Prop) (h0:Pv 0 [] (upd H1 D (.lst []))) (hD:∀ i acc H2,i≤xs.length→Pv i acc H2→H2 D=some (.lst acc)∧acc.length < sizeLine∧SqL K H2 a xs)
  (hs:∀ i x acc H2 (N:List V→Hp→Prop),i < xs.length→xs[xs.length-1-i]? = some x→(∀ acc' H',Pv (i+1) acc' H'→N acc' H')→Pv i acc H2→g x (nones n++slotsC fr σ) H2 fun σ1 H3'=>∃ vs:St,vs.length=n∧σ1=vs++slotsC fr σ∧tt σ1 H3' fun b H4 =>
   if b=true then te σ1 H4 fun y H5=>H5 D=some (.lst acc)∧N (acc ++ [y]) (upd H5 D (.lst (acc ++ [y]))) else N acc H4)
  (hd:∀ acc H2,Pv xs.length acc H2→R H2) :
  ∃ W:Nat→Nat→List V→Hp→Prop,(∃ m,W 0 m [] (upd H1 D (.lst [])))∧∀ i m acc H2,W i m acc H2 →
   H2 D=some (.lst acc)∧(((Itrev K a xs.length).stop i H2∧R H2)∨(acc.length < sizeLine∧(Itrev K a xs.length).go i H2∧∀ x H3,(Itrev K a xs.length).yld i H2 x H3→g x (nones n++slotsC fr σ) H3 fun σ1 H3'=>∃ vs:St,vs.length=n∧σ1=vs++slotsC fr σ∧tt σ1 H3' fun b H4 =>
    if b=true then te σ1 H4 fun y H5=>H5 D=some (.lst acc)∧∃ m',m' < m∧W (i+1) m' (acc ++ [y]) (upd H5 D (.lst (acc ++ [y]))) else ∃ m',m' < m∧W (i+1) m' acc H4)):=by
 refine ⟨fun i m acc H=>m=xs.length-i∧i≤xs.length∧Pv i acc H,⟨xs.length,by simp,Nat.zero_le _,h0⟩,?_⟩
 rintro i m acc H2 ⟨rfl,hi,p⟩
 obtain ⟨d1,d2,d3⟩:=hD i acc H2 hi p
 refine ⟨d1,?_⟩
 by_cases hlt:i < xs.length
 ·refine .inr ⟨d2,⟨hlt,xs,xs[xs.length-1-i],d3,List.getElem?_eq_getElem _⟩,fun x H3 y=>?_⟩
  obtain ⟨e,y⟩:=y
  subst e
  exact hs i x acc _ (fun acc' H'=>∃ m',m' < xs.length-i∧m'=xs.length-(i+1)∧i+1≤xs.length∧Pv (i+1) acc' H') hlt (y xs d3) (fun acc' H' q=>⟨_,by omega,rfl,hlt,q⟩) p
 ·have e:i=xs.length:=by omega
  subst e
  exact .inl ⟨rfl,hd acc H2 p⟩
end
end L2
namespace SortP
open PySem PySem.W PyProof.Rows
section
variable {n:Nat}{lt:Nat→Nat→Bool}
def St (lt:Nat→Nat→Bool) (p:Array Nat) (m:Nat):Prop:=∀ i j,i < j→j < m→lt (at' p j) (at' p i)=false∧(lt (at' p i) (at' p j)=false→at' p i < at' p j)
end
end SortP
namespace L2
open PySem PySem.Spec PyProof.Rows
end L2
namespace M26
open PySem L2 PyProof.Rows
end M26
namespace L2
open PySem PySem.Spec PyProof.Rows
theorem pg_tupK {X:Cx}{K:PySem.W.Frag}{es:List Expr}{k:Nat}{t:TGs}{n:Nat}{pos:Pos} (hc:X.calm=true) (h:PGs X es t) (hK:X.K=K:=by rfl)
  (hn:(assignEach es X.env).length=n:=by rfl) (hst:(assignEach es X.env).findIdx? (·.1)=none:=by rfl):PG X (.Tuple es k pos) (gTup K n t):=hK ▸ pg_tup hc h hn hst
end L2
namespace M24
open PySem L2 PyProof.Rows M26 M12
end M24
namespace L2
open PySem PySem.Spec PyProof.Rows
theorem frz_dict {X:Cx}{pins:List (Addr×Obj)}{σ:St}{H:Hp}{s:Shared}{d:Addr}{ob:Obj}{kvs:List (Key×V)}{es:Array _}{ep:Nat} (he:ob.data = .dict es ep) (I:Inv X pins σ H s) (hd:H d=some (.frz ob (.dK kvs))) :
  ∃ vs,KV kvs vs∧s.heap.DictAt (mixKind X.prog X.w) d vs ep:=by
 obtain ⟨ho,z,hsys,vs,rel,o',es',ep',ho',r1,r2,r3⟩:=(show ObjOk X.prog X.w H s.heap d (.frz ob (.dK kvs)) from I.hok d _ hd)
 rw [ho] at ho'
 cases ho'
 rw [he] at r2
 cases r2
 exact ⟨vs,rel,ob,es,ho,r1,he,r3⟩
section
variable {X:Cx}{tg:Expr}
theorem get_list:PGet X (rIxL X.K):=by
 intro pins s σ H x y v u Q I rx ry h
 obtain ⟨p,xs,i,z,rfl,rfl,hq,he,q⟩:=h
 cases rx
 obtain ⟨t,rfl⟩:=ry
 obtain ⟨its,r,pl,hz⟩:=I.list hq
 obtain ⟨j,h1,h2,h3,h4,h5⟩:=atI_get he
 obtain ⟨w,ew,rw'⟩:=r.get h2
 have hl:=r.length
 have hn:=line63
 have fin:EP X pins σ Q w s:=⟨z,H,I,rw',q⟩
 by_cases h0:0≤i
 ·have hj:i.toNat=j:=by
   rw [seqIndex_of h0 h5] at h1
   exact Option.some.inj h1
  exact wpAny_getItem_list pl.isList h0 (by omega) (by rw [hj];simpa using ew) fin
 ·have hj:(i+(its.toArray.size:Int)).toNat=j:=by
   rw [seqIndex_neg (by omega) h4] at h1
   rw [List.size_toArray,←hl]
   exact Option.some.inj h1
  exact wpAny_getItem_list_neg pl.isList (by omega) (by rw [List.size_toArray] <;> omega) (by omega) (by rw [hj];simpa using ew) fin
end
end L2
namespace R
open PySem L2 PyProof.Rows
structure Dm (K:PySem.W.Frag) (C:Addr) (x q:Str) (st:Stmt) (ps:List Str) where
 f:Addr
 fd:FuncData
 F:Fun K x q st f fd
 b:Binds K fd ps []
 m:Meth K C x f
structure Di (K:PySem.W.Frag) (C:Addr) (q:Str) (st:Stmt) (ps:List Str) where
 f:Addr
 fd:FuncData
 F:Fun K "__init__" q st f fd
 b:Binds K fd ps []
 m:Mk K C f
noncomputable def dm_mk {K:PySem.W.Frag}{C:Addr}{x q:Str}{st:Stmt}{f:Addr}{ps:List Str}{od an:Option Addr}{osl:Array (Option Value)}{oc kV doc pm cdv ct:Value}
  (a:PySem.W.findIn K (.ref C) x=some (some (.ref f))) (i:PySem.W.isFn K (.ref f)=true)
  (l:K.lookup f=some ⟨oc,od,.func (PySem.W.fnOf x q (defArgs st) (defBody st) (defScope st) .none kV doc pm an cdv ct),osl⟩)
  (c:PySem.W.codeIn K cdv q=true) (k:PySem.W.keepIn K (.ref f)=true)
  (h:∀ (kV doc pm:Value) (an:Option Addr) (cdv ct:Value) (us:List Value),us.length=ps.length→bindArgs (PySem.W.fnOf x q (defArgs st) (defBody st) (defScope st) .none kV doc pm an cdv ct) ⟨us,[]⟩=pure (ps.zip us)) :
  Dm K C x q st ps :=
 ⟨f,_,fun_mk (st:=st) l c k,(fun_mk (st:=st) l c k).binds h,⟨a,i,k⟩⟩
noncomputable def di_mk {K:PySem.W.Frag}{C:Addr}{q:Str}{st:Stmt}{f:Addr}{ps:List Str}{od an:Option Addr}{osl:Array (Option Value)}{oc kV doc pm cdv ct:Value}
  (a:PySem.W.findIn K (.ref C) "__init__" = some (some (.ref f))) (i:PySem.W.isFn K (.ref f)=true)
  (l:K.lookup f=some ⟨oc,od,.func (PySem.W.fnOf "__init__" q (defArgs st) (defBody st) (defScope st) .none kV doc pm an cdv ct),osl⟩)
  (c:PySem.W.codeIn K cdv q=true) (k:PySem.W.keepIn K (.ref f)=true) (mk:PySem.W.makesIn K C=true) (kc:PySem.W.keepIn K (.ref C)=true)
  (h:∀ (kV doc pm:Value) (an:Option Addr) (cdv ct:Value) (us:List Value),us.length=ps.length→bindArgs (PySem.W.fnOf "__init__" q (defArgs st) (defBody st) (defScope st) .none kV doc pm an cdv ct) ⟨us,[]⟩=pure (ps.zip us)) :
  Di K C q st ps :=
 ⟨f,_,fun_mk (st:=st) l c k,(fun_mk (st:=st) l c k).binds h,⟨mk,a,i,kc⟩⟩
theorem lk_hit {f:Str}{v:V}{r:List (Str×V)}:List.lookup f ((f,v)::r)=some v:=by rw [List.lookup_cons,beq_self_eq_true]
theorem lk_miss {f g:Str}{v:V}{r:List (Str×V)} (h:(f == g)=false):List.lookup f ((g,v)::r)=List.lookup f r:=by rw [List.lookup_cons,h]
theorem lk_nil {f:Str}:List.lookup f ([]:List (Str×V))=none:=rfl
theorem fld_at {K:PySem.W.Frag}{H:Hp}{p C dx:Addr}{f:Str}{fs:List (Str×V)}{v:V}{R:V→Prop} (h:H p=some (.ins C dx fs)) (c:Cls K C) (n:NoAttr K C f) (l:fs.lookup f=some v) (z:R v) :
  ∃ a C' dx' fs' v',V.ref p = .ref a∧H a=some (.ins C' dx' fs')∧Cls K C'∧NoAttr K C' f∧fs'.lookup f=some v'∧R v':=⟨p,C,dx,fs,v,rfl,h,c,n,l,z⟩
end R
namespace De
def fset {α:Type} (f:Nat→α) (i:Nat) (v:α):Nat→α:=fun j=>if j=i then v else f j
theorem fset_same {α:Type} (f:Nat→α) (i:Nat) (v:α):fset f i v i=v:=if_pos rfl
theorem fset_ne {α:Type}{f:Nat→α}{i j:Nat}{v:α} (h:j≠i):fset f i v j=f j:=if_neg h
def Seat (m r:Nat) (p:Nat→Option Nat):Prop:=∀ i,i < m→(p i=none↔r≤i)
def rw (r:Nat) (t:Nat→Option Nat) (ks:List (Nat×Nat)):List Nat:=r::ks.map fun k=>(t k.1).getD 0
section
variable {m:Nat}{c:Nat→Nat→Int}{u v:Nat→Int}{p t:Nat→Option Nat}{r:Nat}{ks:List (Nat×Nat)}
theorem nd_le:∀ (n:Nat) (l:List Nat),l.Nodup→(∀ x∈l,x < n)→l.length≤n
 | 0,l,_,h=>by
  cases l with
  | nil=>exact Nat.le_refl _
  | cons a l=>exact absurd (h a List.mem_cons_self) (by omega)
 | n+1,l,nd,h=>by
  by_cases hn:n∈l
  ·have h1:=nd_le n (l.erase n) (nd.erase n) (fun x hx=>by
    have hx':=(nd.mem_erase_iff).mp hx
    have:=h x hx'.2
    have:=hx'.1
    omega)
   rw [List.length_erase_of_mem hn] at h1
   omega
  ·have:=nd_le n l nd (fun x hx=>by
    have:=h x hx
    have:x≠n:=fun e=>hn (e ▸ hx)
    omega)
   omega
structure Ho (m:Nat) (c:Nat→Nat→Int) (u v:Nat→Int) (p t:Nat→Option Nat) (r:Nat) (ks:List (Nat×Nat)) (k:Nat) (e:Nat×Nat):Prop where
 at_:ks[k]? = some e
 lt:r < m
 nd:(ks.map (·.1)).Nodup
 cm:∀ k∈ks,k.1 < m
 tgt:∀ k∈ks,u k.2+v k.1=c k.2 k.1
 fe:∀ i,i < m→∀ j,j < m→u i+v j≤c i j
 pr:∀ i,i < m→∀ j,p i=some j→j < m∧j≠e.1∧t j=some i∧u i+v j=c i j
 tk:∀ j,j < m→j≠e.1→∀ i,t j=some i→i < m∧p i=some j
 seat:Seat m r p
 fr:∀ k',k' ≤ k→∀ e',ks[k']? = some e'→e'.2 < m∧(e'.2=r∨∃ l,l < k'∧∃ e'',ks[l]? = some e''∧p e'.2=some e''.1)
end
end De
namespace De
def lf {α:Type} (m:Nat) (f:Nat→α):List α:=(List.range m).map f
theorem lf_len {α:Type} (m:Nat) (f:Nat→α):(lf m f).length=m:=by unfold lf;rw [List.length_map,List.length_range]
theorem lf_get {α:Type}{m:Nat}{f:Nat→α}{i:Nat} (h:i < m):(lf m f)[i]? = some (f i):=by unfold lf;simp [h]
theorem lf_set {α:Type}{m:Nat}{f:Nat→α}{i:Nat}{v:α}:(lf m f).set i v=lf m (fset f i v):=by
 refine List.ext_getElem? fun j=>?_
 unfold lf
 rw [List.getElem?_set,List.getElem?_map,List.getElem?_map]
 by_cases e:i=j
 ·subst e
  rw [if_pos rfl]
  by_cases h:i < m
  ·rw [if_pos (by rw [List.length_map,List.length_range];exact h),List.getElem?_range h]
   show some v=some (fset f i v i)
   rw [fset_same]
  ·rw [if_neg (by rw [List.length_map,List.length_range];exact h),List.getElem?_eq_none (by rw [List.length_range];omega)]
   rfl
 ·rw [if_neg e]
  cases h:(List.range m)[j]? with
  | none=>rfl
  | some k =>
   have:k=j:=by
    obtain ⟨h1,h2⟩:=List.getElem?_eq_some_iff.mp h
    rw [List.getElem_range] at h2
    exact h2.symm
   subst this
   show some (f k)=some (fset f i v k)
   rw [fset_ne (Ne.symm e)]
theorem fset_map {α β:Type} (g:α→β) (f:Nat→α) (i:Nat) (v:α):fset (fun j=>g (f j)) i (g v)=fun j=>g (fset f i v j):=by
 funext j
 unfold fset
 split <;> rfl
theorem take_snoc {α:Type}{R:List α}{i:Nat}{r:α} (h:R[i]? = some r):R.take (i+1)=R.take i ++ [r]:=by
 rw [List.take_add_one,h];rfl
end De
namespace M21
open PySem L2 PyProof.Rows R K3 De M22 M24
def oN:Option Nat→V
 | none=>.non
 | some j=>.int (j:Int)
abbrev lI (m:Nat) (u:Nat→Int):List V:=lf m fun i=>V.int (u i)
abbrev lO (m:Nat) (p:Nat→Option Nat):List V:=lf m fun i=>oN (p i)
theorem lI_at {m:Nat}{u:Nat→Int}{i:Nat} (h:i < m):atI (lI m u) (i:Int)=some (.int (u i)):=atI_nat (lf_get h)
theorem lO_at {m:Nat}{u:Nat→Option Nat}{i:Nat} (h:i < m):atI (lO m u) (i:Int)=some (oN (u i)):=atI_nat (lf_get h)
theorem lf_ix {α:Type}{m:Nat}{f:Nat→α}{i:Nat} (h:i < m):ixN (lf m f).length (i:Int)=some i:=by
 unfold ixN
 rw [lf_len,if_pos (by omega),if_pos (by omega),Int.toNat_natCast]
theorem lI_set {m:Nat}{u:Nat→Int}{i:Nat}{z:Int}:(lI m u).set i (.int z)=lI m (fset u i z):=by
 show (lf m fun i=>V.int (u i)).set i (.int z)=lf m fun j=>V.int (fset u i z j)
 rw [lf_set,←fset_map]
structure Ad where
 a:Addr
 o:Addr
 q:Addr
 pl:Addr
 tk:Addr
 dx:Addr
theorem while_m {c:TT}{tb:TS}{D:Ends}{σ:L2.St}{H:Hp} (Pv:Nat→L2.St→Hp→Prop) (n:Nat) (h0:Pv n σ H)
  (hs:∀ n σ H,Pv n σ H→c σ H fun b H1=>if b=true then tb { D with nx:=fun σ' H'=>∃ n',n' < n∧Pv n' σ' H',ct:=fun σ' H'=>∃ n',n' < n∧Pv n' σ' H',bk:=D.nx } σ H1 else D.nx σ H1)
  (mono:∀ σ H Q Q',(∀ b H1,Q b H1→Q' b H1)→c σ H Q→c σ H Q'):tWhile c tb D σ H:=by
 refine ⟨Pv,⟨n,h0⟩,fun m σ H p=>?_⟩
 refine mono σ H _ _ (fun b H1 q=>?_) (hs m σ H p)
 cases b with
 | true=>exact ⟨_,fun σ' H' z=>z,q⟩
 | false=>exact q
theorem putF_miss {f g:Str}{v w:V}{r:List (Str×V)} (h:¬ g=f):putF f v ((g,w)::r)=(g,w)::putF f v r:=if_neg h
theorem putF_few (f:Str) (v:V):∀ r:List (Str×V),(putF f v r).length≤r.length+1
 | []=>Nat.le_refl _
 | (g,w)::r=>by
  by_cases h:g=f
  ·have:putF f v ((g,w)::r)=(f,v)::r:=by first | exact if_pos h | (subst h;exact if_pos rfl)
   rw [this,List.length_cons,List.length_cons];omega
  ·rw [putF_miss h,List.length_cons,List.length_cons]
   have:=putF_few f v r
   omega
theorem lf_snoc {α:Type} (m:Nat) (f:Nat→α):lf (m+1) f=lf m f ++ [f m]:=by unfold lf;rw [List.range_succ,List.map_append];rfl
end M21
namespace L2
open PySem PySem.Spec PyProof.Rows
structure LamAt (base:Heap) (mg:Str→Option Value) (c P:Addr):Prop where
 hd:PySem.W.CodeHd base c P
 bl:base.BuiltinsAt mg P
 gP:mainGlobals≠P
def RecO (oc:Obj) (q:Str):Prop:=∃ vs t,oc.data = .fields vs∧vs[1]? = some (.str q t)
abbrev lamO (qual:Str) (params:Arguments) (body:Expr) (scope:Scope) (pm:Value) (c':Addr) (ctv:Value):Obj:=PySem.W.kla_obj "<lambda>" qual params body scope [] pm c' ctv
def tLam (P:Addr) (qual:Str) (params:Arguments) (body:Expr) (scope:Scope) (pos:Pos):TE:=fun _ H Q=>∃ ps:Array Value,H P=some (.tbl ps)∧TriplesOk ps.toList ∧
 ((codeAmong pos ps.toList=none∧∀ (f c':Addr) (oc:Obj) (pm ctv:Value),H f=none→H c'=none→f≠c'→f≠P→c' ≠ P→RecO oc qual →
   Q (.ref f) (upd (upd (upd H P (.tbl (ps ++ #[rawInt pos.line,rawInt pos.col,.ref c']))) c' (.frz oc (.own 0))) f (.frz (lamO qual params body scope pm c' ctv) (.own 0)))) ∨
  (∃ c',codeAmong pos ps.toList=some (.ref c')∧∀ (f:Addr) (pm ctv:Value),H f=none→Q (.ref f) (upd H f (.frz (lamO qual params body scope pm c' ctv) (.own 0)))))
section
variable {X:Cx}
theorem pe_lam {args:Arguments}{body:Expr}{scope:Scope}{pos:Pos}{c P:Addr} (L:LamAt X.base X.mg c P) (hcode:X.env.code = .ref c) (hcl:closureFor scope X.env=pure []:=by rfl) (hdf:defaultsOf args X.env=([],[]):=by rfl) :
  PE X (.Lambda args body scope pos) (tLam P (X.env.qual ++ "<lambda>") args body scope pos):=by
 intro pins s σ H Q I h
 obtain ⟨ps,hP,tri,h⟩:=h
 have hPh:s.heap.get? P=some { cls:=.none,data:=.fields ps }:=I.hok P _ hP
 have hg:s.heap.Ns mainGlobals X.mg:=I.ok.mod.glob.keeps I.bk
 have hC:=L.hd.keeps I.bk
 have hB:=L.bl.keeps I.bk
 rw [arm_eval_Lambda,hdf]
 show wpAny _ _ (do let dv ← evalAll [];let kdv ← holding dv (evalAllOpt []);makeFunction "<lambda>" (X.env.qual ++ "<lambda>") args (.expr body) scope X.env dv kdv [] pos pos.line) _ _ s
 refine wpAny_bind (wpAny_evalAll_nil ?_)
 refine wpAny_bind (wpAny_holding (wpAny_pure ?_))
 have nP:∀ b,H b=none→b≠P:=fun b e z=>by rw [z,hP] at e;cases e
 rcases h with ⟨hnf,q⟩ | ⟨c',hf,q⟩
 ·refine PySem.W.kla_makeFunction (ps:=ps) hcl I.ok.glob hg hcode hC hPh tri hnf L.gP hB fun c' ctv h' tk ex ge lt rec tab=>?_
  obtain ⟨c2,oc,vs,t,ec,hoc,hdat,hq⟩:=rec
  cases ec
  have hcn:H c'=none:=I.hok.fresh ge
  have hsz:s.heap.objs.size≤h'.objs.size:=Nat.le_trans ge (Nat.le_of_lt lt)
  have hfn:H h'.objs.size=none:=I.hok.fresh hsz
  have nfc:h'.objs.size≠c':=Nat.ne_of_gt lt
  have nfP:h'.objs.size≠P:=nP _ hfn
  have ncP:c' ≠ P:=nP _ hcn
  refine ⟨.ref h'.objs.size,_,?_,rfl,q h'.objs.size c' oc ((X.mg "__name__").getD .none) ctv hfn hcn nfc nfP ncP ⟨vs,t,hdat,hq⟩⟩
  have keep:∀ b o,b≠P→s.heap.get? b=some o→(h'.push (lamO (X.env.qual ++ "<lambda>") args body scope ((X.mg "__name__").getD .none) c' ctv)).get? b=some o:=fun b o hb e=>Heap.get?_push_of_some _ (ex b o hb e)
  have old:∀ b o,s.heap.get? b=some o→b≠c'∧b≠h'.objs.size:=fun b o e=>⟨Nat.ne_of_lt (Nat.lt_of_lt_of_le (Heap.lt_size e) ge),Nat.ne_of_lt (Nat.lt_of_lt_of_le (Heap.lt_size e) hsz)⟩
  have up:∀ b,b≠P→b≠c'→b≠h'.objs.size→upd (upd (upd H P (.tbl (ps ++ #[rawInt pos.line,rawInt pos.col,.ref c']))) c' (.frz oc (.own 0))) h'.objs.size (.frz (lamO (X.env.qual ++ "<lambda>") args body scope ((X.mg "__name__").getD .none) c' ctv) (.own 0)) b=H b:=fun b h1 h2 h3=>by rw [upd_ne h3,upd_ne h2,upd_ne h1]
  have nH:∀ b u,H b=some u→b≠c'∧b≠h'.objs.size:=fun b u e=>⟨(fun z=>by rw [z,hcn] at e;cases e),(fun z=>by rw [z,hfn] at e;cases e)⟩
  have upH:∀ b u,H b=some u→b≠P→upd (upd (upd H P (.tbl (ps ++ #[rawInt pos.line,rawInt pos.col,.ref c']))) c' (.frz oc (.own 0))) h'.objs.size (.frz (lamO (X.env.qual ++ "<lambda>") args body scope ((X.mg "__name__").getD .none) c' ctv) (.own 0)) b=some u:=fun b u e hb=>by rw [up b hb (nH b u e).1 (nH b u e).2];exact e
  refine I.step (g':=s.gens) (d':=s.drawn) (ch:=[]) (fun b z=>absurd z List.not_mem_nil) (fun b o _ _ _ e n=>keep b o (nP b n) e) (fun b o _ _ _ e n=>⟨o.slots,keep b o (nP b n) e⟩) (fun b o _ e n=>by rw [up b (nP b n) (old b o e).1 (old b o e).2];exact n)
   (fun b o _ e=>?_) (fun b xs e=>upH b _ e (fun z=>by rw [z,hP] at e;cases e)) (fun b o u e=>upH b _ e (fun z=>by rw [z,hP] at e;cases e)) (fun b qs e=>?_) (fun m hm=>?_) (fun b u e=>?_) I.bare
  ·by_cases hb:b=P
   ·subst hb;exact ⟨_,Heap.get?_push_of_some _ tab⟩
   ·exact ⟨o,keep b o hb e⟩
  ·by_cases hb:b=P
   ·subst hb
    rw [hP] at e;cases e
    exact ⟨_,by rw [upd_ne (Ne.symm nfP),upd_ne (Ne.symm ncP),upd_same]⟩
   ·exact ⟨#[],by rw [upH b _ e hb];simp⟩
  ·obtain ⟨o,es,ep,ho,r⟩:=hm
   exact ⟨o,es,ep,keep _ o (nP _ I.free) ho,r⟩
  ·by_cases h1:b=h'.objs.size
   ·subst h1
    rw [upd_same] at e;cases e
    exact ⟨Heap.get?_push_size _ rfl,_,Heap.get?_push_size _ rfl⟩
   ·rw [upd_ne h1] at e
    by_cases h2:b=c'
    ·subst h2
     rw [upd_same] at e;cases e
     exact ⟨Heap.get?_push_of_some _ hoc,_,Heap.get?_push_of_some _ hoc⟩
    ·rw [upd_ne h2] at e
     by_cases h3:b=P
     ·subst h3
      rw [upd_same] at e;cases e
      exact Heap.get?_push_of_some _ tab
     ·rw [upd_ne h3] at e
      refine (I.hok b u e).stay (fun c v hc qv=>keep c v ?_ qv) (fun c r=>upH c _ r (fun z=>by rw [z,hP] at r;cases r)) fun c xs r=>upH c _ r (fun z=>by rw [z,hP] at r;cases r)
      rcases hc with z | z
      ·rw [z];exact h3
      ·exact fun w=>by rw [w,hP] at z;cases z
 ·refine PySem.W.kla_makeFunctionHit (ps:=ps) hcl I.ok.glob hg hcode hC hPh tri hf hB fun ctv h' tk kp hsz=>?_
  have hfn:H h'.objs.size=none:=I.hok.fresh hsz
  refine ⟨.ref h'.objs.size,_,?_,rfl,q h'.objs.size ((X.mg "__name__").getD .none) ctv hfn⟩
  refine I.laid (t':=tk) (fun b o e=>Heap.get?_push_of_some _ (kp b o e)) hsz ?_
  exact ⟨Heap.get?_push_size _ rfl,_,Heap.get?_push_size _ rfl⟩
theorem lam_call {P:Program}{w:World}{K:PySem.W.Frag}{mg:Str→Option Value}{base:Heap}{k:Nat}{f c':Addr}{qual:Str}{params:Arguments}{body:Expr}{scope:Scope}{pm ctv:Value}{oc:Obj}{N ps:List Str}{A:Around}{outer:List Env}{s:Shared}{H:Hp}
  {us:List Value}{vs:List V}{Q:VK}{E:XK}{uf uc:HO} (hf:H f=some (.frz (lamO qual params body scope pm c' ctv) uf)) (hc:H c'=some (.frz oc uc)) (rec:RecO oc qual) (S:FnScope N ps scope) (hr:Room (k+1) A) (e0:Env0 P w K mg base A outer s H)
  (hb:BindsTo s (PySem.W.kla_fn "<lambda>" qual params body scope [] pm (.ref c') ctv) ⟨us,[]⟩ (ps.zip us)) (r:Vals vs us) (hl:vs.length=ps.length)
  (hbody:Room k (A.deeper (envOfC qual scope s.heap.objs.size f (.ref c')))→∃ t,PE (cxOf CX0 P w K mg base N qual scope f (.ref c') A outer s H E).nox body t∧t (start N vs) H Q) :
  codeAny (model P w) A (.call (.ref f) ⟨us,[]⟩) (CR CX0 outer P w H s Q E) s:=by
 have hfo:s.heap.get? f=some (lamO qual params body scope pm c' ctv):=(e0.hok f _ hf).1
 have hco:s.heap.get? c'=some oc:=(e0.hok c' _ hc).1
 obtain ⟨vs',t',hdat,hq⟩:=rec
 have KX:K.In s.heap:=e0.mod.kin.keeps fun b o e=>(e0.bs b o e).1
 have lim:s.heap.NoLimit:=e0.mod.nolimit.keeps fun b o e=>(e0.bs b o e).1
 have hkind:∀ y∈ps.zip us,scope.names.lookup y.1=some .local∨(scope.names.lookup y.1=some .cell∧((cellsFrom (s.heap.objs.size+1) scope.names []).lookup y.1).isSome=true):=fun ⟨n,v⟩ hy=>by
  rcases S.par n (List.of_mem_zip hy).1 with q | q
  ·exact .inl q
  ·exact .inr ⟨q,PySem.W.cellsFrom_some _ _ _ (.inl q)⟩
 refine PySem.W.kla_callFunE hr.depth hfo rfl S.co S.gen rfl ⟨c',oc,vs',t',rfl,hco,hdat,hq⟩ (hb _ _ _ _ ?_)
 refine wpAny_newFunctionEnv_cells S.kind hkind fun env he s1 x=>?_
 subst he
 refine ⟨lim.keeps x.toInCall.keep,PySem.W.kla_codeExpr ?_⟩
 obtain ⟨t,ht,hq'⟩:=hbody (hr.deeper _)
 have I:Inv (cxOf CX0 P w K mg base N qual scope f (.ref c') A outer s H E).nox [] (start N vs) H s1:=(inv_start S hr.hd e0 hl r x).wish _
 refine wpAny_mono (ht [] s1 (start N vs) H _ I hq') (fun u s' hs=>?_) fun e s' hs=>False.elim hs
 obtain ⟨v,H',J,rv,q⟩:=hs
 exact ⟨v,H',J.os,J.bare,J.base,J.hok,rv,q⟩
end
end L2
namespace SortP
open PySem PySem.W PyProof.Rows
end SortP
namespace L2
open PySem PySem.Spec PyProof.Rows
section
variable {X:Cx}{pins:List (Addr×Obj)}{σ:St}{H:Hp}{s:Shared}{h':Heap}{t':Nat}{m:Str→Option Value}{it:Addr}
theorem Inv.over (I:Inv X pins σ H s) (F:Fr X.base X.env.locals s.heap m) (F':Fr X.base X.env.locals h' m) (k:∀ b o,b≠X.env.locals→b≠it→s.heap.get? b=some o→h'.get? b=some o) (p:FpOk X pins H it):Inv X pins σ H { s with heap:=h',toks:=t' }:=by
 obtain ⟨p0,p1,p2,p3,p4,p5⟩:=p
 refine I.step (g':=s.gens) (d':=s.drawn) (ch:=[it]) (fun b hb=>?_) (fun b o hL _ hc e _=>k b o hL (fun z=>hc (by simp [z])) e) (fun b o hL _ hc e _=>⟨o.slots,k b o hL (fun z=>hc (by simp [z])) e⟩) (fun _ _ _ _ n=>n) (fun b o hc e=>?_)
  (fun _ _ e=>e) (fun _ _ _ e=>e) (fun b ps e=>⟨#[],by rw [e];simp⟩) (fun m' hm=>?_) (fun b u e=>?_) I.bare
 ·have e:b=it:=by simpa using hb
  subst e;exact ⟨p3,p1,p4,p5⟩
 ·by_cases hb:b=X.env.locals
  ·obtain ⟨o',_,_,ho',_⟩:=F'.ns
   exact ⟨o',by rw [hb];exact ho'⟩
  ·exact ⟨o,k b o hb (fun z=>hc (by simp [z])) e⟩
 ·have em:m'=m:=funext fun x=>hm.agree F.ns x
  rw [em];exact F'.ns
 ·have ne:∀ c v,H c=some v→c≠X.env.locals∧c≠it:=fun c v z=>⟨(fun q=>by rw [q,I.free] at z;cases z),(fun q=>by rw [q,p0] at z;cases z)⟩
  refine (I.hok b u e).stay (fun c v hc q=>?_) (fun _ q=>q) fun _ _ q=>q
  rcases hc with z | z
  ·rw [z] at q ⊢;exact k b v (ne b u e).1 (ne b u e).2 q
  ·exact k c v (ne c _ z).1 (ne c _ z).2 q
end
theorem bare_of {X:Cx}{pins:List (Addr×Obj)}{σ:St}{H:Hp}{s:Shared}{b:Addr}{o:Obj} (I:Inv X pins σ H s) (p:FpOk X pins H b) (e:s.heap.get? b=some o):X.base.get? b=none:=by
 cases z:X.base.get? b with
 | none=>rfl
 | some u =>
  have h1:=I.ok.bs b u z
  rcases p.2.2.2.1 with q | q
  ·exact absurd q (I.ok.noex b u z)
  ·exact absurd (Nat.lt_of_lt_of_le (Heap.lt_size h1.1) q) (Nat.lt_irrefl _)
section
variable {X:Cx}
def CallKR (X:Cx) (f:Value) (ks:List Str) (r:List V→List V→Hp→VK→Prop):Prop :=
 ∀ (pins:List (Addr×Obj)) (s:Shared) (σ:St) (H:Hp) (xs zs:List V) (us ws:List Value) (Q:VK),Inv X pins σ H s→Vals xs us→Vals zs ws→r xs zs H Q→wpAny (model X.prog X.w) X.A (call f us (ks.zip ws)) (EP X pins σ Q) X.xe s
def tCBK (r:List V→List V→Hp→VK→Prop) (t tk:TA):TE:=fun σ H Q=>t σ H fun vs H1=>tk σ H1 fun zs H2=>r vs zs H2 Q
theorem pe_callBK {id:String}{ks:List Str}{r:List V→List V→Hp→VK→Prop}{x:Str}{p pos:Pos}{e:Expr}{es:List Expr}{kws:List Keyword}{t tk:TA} (hc:CallKR X (.builtin id) ks r) (hg:Gl X x) (hm:X.mg x=none) (hv:bootBuiltins x=some (.builtin id)) (ha:PA X (e::es) t) (hk:PK X kws tk)
  (hks:(backToKw pos (keywordEach kws X.env)).filterMap (·.1)=ks:=by rfl) (hn:x ≠ "__name__":=by decide) (hdb:(x == ("__debug__":Str))=false:=by decide)
  (he:backTo pos (starEach (e::es) X.env)=(false,eval e X.env)::backTo pos (starEach es X.env):=by rfl) (hpl:(backTo pos (starEach (e::es) X.env)).any (·.1)=false:=by rfl)
  (hall:(backToKw pos (keywordEach kws X.env)).all (·.1.isSome)=true:=by rfl) (hkw:(backToKw pos (keywordEach kws X.env)).any (·.1.isNone)=false:=by rfl):PE X (.Call (.Name x p) (e::es) kws pos) (tCBK r t tk):=by
 intro pins s σ H Q I h
 refine wpAny_Call_Name_kw (ld_blt I hg hm hv ?_ hn hdb)
 refine callWith_kw (thn (ha pos pins s σ H _ I h) fun us s1 ⟨vs,H1,I1,r1,q1⟩=>thn (hk pos pins s1 σ H1 _ I1 q1) fun ws s2 ⟨zs,H2,I2,r2,q2⟩=>?_) he hpl hall hkw
 rw [hks]
 exact hc pins s2 σ H2 vs zs us ws Q I2 r1 r2 q2
end
end L2
namespace L2
open PySem PySem.Spec PyProof.Rows
def mask (P:Addr) (H:Hp):Hp:=fun b=>if b=P then none else H b
theorem mask_ne {P b:Addr}{H:Hp} (h:b≠P):mask P H b=H b:=if_neg h
theorem mask_at {P:Addr}{H:Hp}:mask P H P=none:=if_pos rfl
theorem mask_of {P b:Addr}{H:Hp}{o:HO} (e:mask P H b=some o):b≠P∧H b=some o:=by
 by_cases h:b=P
 ·rw [h,mask_at] at e;cases e
 ·rw [mask_ne h] at e;exact ⟨h,e⟩
theorem mask_low (P:Addr) (H:Hp):Same (mask P H) H:=fun b o e=>(mask_of e).2
theorem Same.mask {P:Addr}{H H':Hp} (s:Same H H'):Same (mask P H) (L2.mask P H'):=fun b o e=>by
 obtain ⟨h1,h2⟩:=mask_of e
 rw [mask_ne h1];exact s b o h2
theorem mask_up {P b:Addr}{H:Hp}{o:HO}{ps:Array Value} (hP:H P=some (.tbl ps)) (h:H b=some o) (n:o ≠ .tbl ps):mask P H b=some o:=by
 have:b≠P:=fun z=>by rw [z,hP] at h;exact n (Option.some.inj h).symm
 rw [mask_ne this];exact h
theorem mask_l {P b:Addr}{H:Hp}{xs:List V}{ps:Array Value} (hP:H P=some (.tbl ps)) (h:H b=some (.lst xs)):mask P H b=some (.lst xs):=mask_up hP h (fun z=>nomatch z)
theorem mask_t {P b:Addr}{H:Hp}{xs:List V}{ps:Array Value} (hP:H P=some (.tbl ps)) (h:H b=some (.tup xs)):mask P H b=some (.tup xs):=mask_up hP h (fun z=>nomatch z)
def TabOk (P:Addr) (pos:Pos) (qual:Str) (H:Hp):Prop :=
 ∃ ps:Array Value,H P=some (.tbl ps)∧(ps = #[]∨∃ (c':Addr) (oc:Obj),ps = #[rawInt pos.line,rawInt pos.col,.ref c']∧H c'=some (.frz oc (.own 0))∧RecO oc qual)
theorem TabOk.same {P:Addr}{pos:Pos}{qual:Str}{H H':Hp} (t:TabOk P pos qual H) (s:Same H H'):TabOk P pos qual H':=by
 obtain ⟨ps,h,r⟩:=t
 refine ⟨ps,s _ _ h,?_⟩
 rcases r with r | ⟨c',oc,e1,e2,e3⟩
 ·exact .inl r
 ·exact .inr ⟨c',oc,e1,s _ _ e2,e3⟩
theorem TabOk.upd {P a:Addr}{pos:Pos}{qual:Str}{H:Hp}{o u:HO} (t:TabOk P pos qual H) (h:H a=some u) (n:Mut (some u)):TabOk P pos qual (L2.upd H a o):=by
 obtain ⟨ps,hP,r⟩:=t
 have nP:P≠a:=fun z=>by rw [←z,hP] at h;cases h;exact n
 refine ⟨ps,by rw [upd_ne nP];exact hP,?_⟩
 rcases r with r | ⟨c',oc,e1,e2,e3⟩
 ·exact .inl r
 ·have nc:c' ≠ a:=fun z=>by rw [←z,e2] at h;cases h;exact n
  exact .inr ⟨c',oc,e1,by rw [upd_ne nc];exact e2,e3⟩
theorem lam_of {P:Addr}{pos:Pos}{qual:Str}{params:Arguments}{body:Expr}{scope:Scope}{σ:St}{H:Hp}{Q:VK} (t:TabOk P pos qual H)
  (q:∀ (f c':Addr) (oc:Obj) (pm ctv:Value) (H':Hp),H f=none→Same (mask P H) H'→TabOk P pos qual H'→H' f=some (.frz (lamO qual params body scope pm c' ctv) (.own 0))→H' c'=some (.frz oc (.own 0))→RecO oc qual→Q (.ref f) H') :
  tLam P qual params body scope pos σ H Q:=by
 obtain ⟨ps,hP,r⟩:=t
 rcases r with rfl | ⟨c',oc,rfl,hc,rec⟩
 ·refine ⟨#[],hP,trivial,.inl ⟨rfl,fun f c' oc pm ctv hf hc nfc nfP ncP rec=>?_⟩⟩
  refine q f c' oc pm ctv _ hf (fun b o e=>?_) ⟨_,?_,.inr ⟨c',oc,rfl,?_,rec⟩⟩ upd_same ?_ rec
  ·obtain ⟨h1,h2⟩:=mask_of e
   rw [upd_ne (ne_of_none h2 hf),upd_ne (ne_of_none h2 hc),upd_ne h1];exact h2
  ·rw [upd_ne (Ne.symm nfP),upd_ne (Ne.symm ncP),upd_same]
   exact congrArg (fun x=>some (HO.tbl x)) (by simp)
  ·rw [upd_ne (Ne.symm nfc),upd_same]
  ·rw [upd_ne (Ne.symm nfc),upd_same]
 ·refine ⟨_,hP,trivial,.inr ⟨c',?_,fun f pm ctv hf=>?_⟩⟩
  ·show (if ((pos.line:Int) == pos.line&&(pos.col:Int) == pos.col)=true then some (Value.ref c') else _)=_
   rw [beq_self_eq_true,beq_self_eq_true];rfl
  ·have s:=same_new (o:=.frz (lamO qual params body scope pm c' ctv) (.own 0)) hf
   exact q f c' oc pm ctv _ hf ((mask_low P H).trans s) ⟨_,s _ _ hP,.inr ⟨c',oc,rfl,s _ _ hc,rec⟩⟩ upd_same (s _ _ hc) rec
abbrev tab0:Obj:={ cls:=.none,data:=.fields #[] }
def OnlyT (P:Addr) (H:Hp):Prop:=H P=some (.tbl #[])∧∀ b,b≠P→H b=none∨∃ o xs,H b=some (.frz o (.lst xs))
theorem law_callT {P:Program}{w:World}{K:PySem.W.Frag}{mg mb:Str→Option Value}{CX:CXT}{k:Nat}{fa a T c:Addr}{fd:FuncData}{x:Str}{sp:Sp}{s₁:Shared}{vs:List Value}{ns:List Int}
  (KX:K.In s₁.heap) (hTn:K.lookup T=none) (hTh:s₁.heap.get? T=some tab0) (hcd:PySem.W.codeHdIn K c T=true) (hbm:∃ bm ob,mg "__builtins__" = some (.ref bm)∧bm≠builtinsNs∧s₁.heap.get? bm=some ob∧ob.cls = .type "module"∧ob.dict=some builtinsNs∧ob.data = .plain)
  (hns:s₁.heap.Ns mainGlobals mg) (hb:s₁.heap.Ns builtinsNs mb) (hbb:∀ x:Str,x ≠ "__name__"→mb x=bootBuiltins x) (hlim:s₁.heap.NoLimit) (hg:s₁.gens = #[])
  (ha:s₁.heap.get? a=some { cls:=.type "list",data:=.seq vs.toArray }) (hi:IntsAre vs ns) (hl:ns.length≤sizeLine) (hr:Room k callerA)
  (F:∀ base:Heap,K.In base→base.Ns mainGlobals mg→LamAt base mg c T→FnOk P w K mg base CX k fa fd [x] sp) (hbind:∀ (s:Shared) (u:Value),BindsTo s fd ⟨[u],[]⟩ [(x,u)])
  (hsp:∀ H:Hp,OnlyT T H→SqL K H a (ns.map V.int)→sp [.ref a] H (fun v _=>v = .bl true) fun _ _ _=>False)
  (hCX:∀ H e s',CX [] H s₁ (fun _ _ _=>False) e s'→False) :
  codeAny (model P w) callerA (.call (.ref fa) ⟨[.ref a],[]⟩) (fun r s'=>r = .ok (.ret (.bool true))∧OldK s₁.heap s'.heap∧s'.os=s₁.os∧AllBare s'.gens) s₁:=by
 have rv:=vals_ints hi
 have lenV:=hi.length
 obtain ⟨oc,vsc,_,_,_,_,_,_,_,hc,hc1,hc2,hc3,_⟩:=PySem.W.codeHd_of_K KX hcd
 have aT:a≠T:=fun z=>by rw [z,hTh] at ha;cases ha
 have core:∀ H:Hp,OnlyT T H→SqL K H a (ns.map V.int)→HOk P w H s₁.heap→(∀ b,H b≠none→b=a∨b=T)→(H a≠none→K.lookup a=none) →
   codeAny (model P w) callerA (.call (.ref fa) ⟨[.ref a],[]⟩) (fun r s'=>r = .ok (.ret (.bool true))∧OldK s₁.heap s'.heap∧s'.os=s₁.os∧AllBare s'.gens) s₁:=by
  intro H hO hS hok hA hK
  have base_of:∀ {b:Addr}{o:Obj},s₁.heap.get? b=some o→H b=none→(hidT s₁.heap H).get? b=some o:=fun e n=>hidT_get e n
  have noA:∀ {b:Addr}{o:Obj}{es:Array DictEntry}{ep:Nat},s₁.heap.get? b=some o→o.data = .dict es ep→H b=none:=fun {b o es ep} e d=>by
   cases q:H b with
   | none=>rfl
   | some u =>
    rcases hA b (by rw [q];simp) with e' | e'
    ·subst e'
     rw [ha] at e;cases e
     have d':Data.seq vs.toArray _=Data.dict es ep:=d
     cases d'
    ·subst e'
     rw [hTh] at e;cases e
     have d':Data.fields #[] = Data.dict es ep:=d
     cases d'
  have nsK:∀ {b:Addr}{m:Str→Option Value},s₁.heap.Ns b m→(hidT s₁.heap H).Ns b m:=fun {b m} ⟨o,es,ep,e,d,r⟩=>⟨o,es,ep,base_of e (noA e d),d,r⟩
  have hKb:K.In (hidT s₁.heap H):=fun b o e=>by
   have bT:b≠T:=fun z=>by rw [z,hTn] at e;cases e
   refine base_of (KX b o e) ?_
   cases q:H b with
   | none=>rfl
   | some u =>
    rcases hA b (by rw [q];simp) with e' | e'
    ·subst e'
     rw [hK (by rw [q];simp)] at e;cases e
    ·exact absurd e' bT
  have hM:Mod K mg (hidT s₁.heap H):=⟨hKb,nsK hns,⟨mb,nsK hb,hbb⟩,let ⟨mc,h1,h2⟩:=hlim;⟨mc,nsK h1,h2⟩⟩
  have hLA:LamAt (hidT s₁.heap H) mg c T:=by
   obtain ⟨bm,ob,b1,b2,b3,b4,b5,b6⟩:=hbm
   have bT:bm≠T:=fun z=>by rw [z,hTh] at b3;cases b3;cases b6
   have bA:bm≠a:=fun z=>by rw [z,ha] at b3;cases b3;cases b6
   have bG:bm≠mainGlobals:=fun z=>by
    obtain ⟨o,es,ep,e,hd,_⟩:=hns
    rw [z,e] at b3;cases b3;rw [hd] at b6;cases b6
   have gT:mainGlobals≠T:=fun z=>by
    obtain ⟨o,es,ep,e,hd,_⟩:=hns
    rw [z,hTh] at e;cases e;cases hd
   refine ⟨PySem.W.codeHd_of_K hKb hcd,⟨bm,ob,b1,b2,bG,bT,base_of b3 ?_,b4,b5,b6⟩,gT⟩
   cases q:H bm with
   | none=>rfl
   | some u =>
    rcases hA bm (by rw [q];simp) with e' | e'
    ·exact absurd e' bA
    ·exact absurd e' bT
  have e0:Env0 P w K mg (hidT s₁.heap H) callerA [] s₁ H:=⟨rfl,hM,fun b o e=>of_hidT e,Nat.le_of_eq (hidT_size _ _),trivial,fun b hb=>absurd (show b∈([]:List Addr) from hb) (by simp),hok,.of_eq hg⟩
  refine codeAny_mono ((F _ hKb (nsK hns) hLA).run callerA [] s₁ H ⟨[.ref a],[]⟩ [.ref a] [.ref a] _ _ hr e0 (hbind s₁ (.ref a)) (.cons rfl .nil) (hsp H hO hS)) fun r s' h=>?_
  cases r with
  | error e=>exact (hCX H e s' h).elim
  | ok fl =>
   cases fl with
   | next=>exact False.elim h
   | brk=>exact False.elim h
   | cont=>exact False.elim h
   | ret u =>
    obtain ⟨v,H',os,bare,un,hok',r',q⟩:=h
    have q':v = .bl true:=q
    subst q'
    obtain rfl:u=Value.bool true:=r'
    have old:∀ b o,b≠T→s₁.heap.get? b=some o→s'.heap.get? b=some o:=fun b o bT e=>by
     cases q:H b with
     | none=>exact un.keep b o e q (by intro z;exact absurd (show b∈([]:List Addr) from z) (by simp)) (by simp)
     | some u =>
      rcases hO.2 b bT with z | ⟨ob,xs,z⟩
      ·rw [q] at z;cases z
      ·have z2:=un.frzs b ob _ z
       obtain ⟨e1,_⟩:=hok b _ z
       obtain ⟨e2,_⟩:=hok' b _ z2
       rw [e] at e1;cases e1
       exact e2
    obtain ⟨more,hm⟩:=un.tbls T #[] hO.1
    have hT':s'.heap.get? T=some { cls:=.none,data:=.fields (#[] ++ more) }:=hok' T _ hm
    refine ⟨rfl,⟨fun b o e=>?_,fun b o e=>?_⟩,os,bare⟩
    ·by_cases bT:b=T
     ·subst bT
      rw [hTh] at e;cases e
      exact .inr (.inl ⟨⟨c,oc,vsc,hc,hc1,hc2,hc3⟩,rfl,#[],more,rfl,hT'⟩)
     ·exact .inl (old b o bT e)
    ·by_cases bT:b=T
     ·subst bT;exact ⟨_,hT'⟩
     ·exact ⟨o,old b o bT e⟩
 cases hk:K.lookup a with
 | some o =>
  have e:=KX a o hk
  rw [ha] at e
  cases e
  refine core (fun b=>if b=T then some (.tbl #[]) else none) ⟨if_pos rfl,fun b hb=>.inl (if_neg hb)⟩ (.inr ⟨_,vs.toArray,_,hk,rfl,rfl,rfl,by rw [List.size_toArray,lenV];exact hl,by simpa using rv⟩) (fun b u z=>?_) (fun b z=>?_) fun z=>absurd (if_neg aT) z
  ·by_cases hb:b=T
   ·have z':=(if_pos hb).symm.trans z
    cases z'
    subst hb
    exact hTh
   ·have z':=(if_neg hb).symm.trans z
    cases z'
  ·by_cases hb:b=T
   ·exact .inr hb
   ·exact absurd (if_neg hb) z
 | none =>
  refine core (fun b=>if b=T then some (.tbl #[]) else if b=a then some (.frz { cls:=.type "list",data:=.seq vs.toArray } (.lst (ns.map V.int))) else none) ⟨if_pos rfl,fun b hb=>?_⟩ (.inl (.inr ⟨{ cls:=.type "list",data:=.seq vs.toArray },(if_neg aT).trans (if_pos rfl)⟩)) (fun b u z=>?_) (fun b z=>?_) fun _=>hk
  ·by_cases hb2:b=a
   ·exact .inr ⟨_,_,(if_neg hb).trans (if_pos hb2)⟩
   ·exact .inl ((if_neg hb).trans (if_neg hb2))
  ·by_cases hb:b=T
   ·have z':=(if_pos hb).symm.trans z
    cases z'
    subst hb
    exact hTh
   ·by_cases hb2:b=a
    ·have z':=((if_neg hb).trans (if_pos hb2)).symm.trans z
     cases z'
     subst hb2
     exact ⟨ha,by rw [List.length_map];exact hl,vs,_,rv,ha⟩
    ·have z':=((if_neg hb).trans (if_neg hb2)).symm.trans z
     cases z'
  ·by_cases hb:b=T
   ·exact .inr hb
   ·by_cases hb2:b=a
    ·exact .inl hb2
    ·exact absurd ((if_neg hb).trans (if_neg hb2)) z
theorem walk_ofT {l:PySem.W.OpenLaw}{n k:Nat}{q:Program}{loose:List Str}{XP:(Str→Option Value)→Heap→Prop}{YP:World→Heap→Prop}{d:DefRec}{K:Params→PySem.W.Frag}{sp:World→PySem.W.Frag→Sp}{x:Str}{T:Addr}
  (hn:l.most=some n) (hn2:n≤sizeLine) (hdf:d.params.defaults = []) (hr:Room k callerA)
  (hY:∀ (w:World) (h:Heap),YP w h→(K w.params).In h) (hYT:∀ (w:World) (h:Heap),YP w h→h.get? T=some tab0)
  (F:∀ (w:World) (mg:Str→Option Value) (fa:Addr) (h:Heap),(K w.params).In h→h.Ns mainGlobals mg→mg d.name=some (.ref fa) →
   ∃ (c:Addr) (fd:FuncData),(K w.params).lookup T=none∧PySem.W.codeHdIn (K w.params) c T=true∧(∀ (s:Shared) (u:Value),BindsTo s fd ⟨[u],[]⟩ [(x,u)]) ∧
    ∀ base:Heap,(K w.params).In base→base.Ns mainGlobals mg→LamAt base mg c T→FnOk l.prog w (K w.params) mg base CX0 k fa fd [x] (sp w (K w.params)))
  (hsp:∀ (w:World) (K:PySem.W.Frag) (H:Hp) (a:Addr) (ns:List Int),ns.length≤n→OnlyT T H→SqL K H a (ns.map V.int)→sp w K [.ref a] H (fun v _=>v = .bl true) fun _ _ _=>False) :
  PySem.W.WalkO q loose XP YP l.row.toRowW d [] (fun f vs=>PySem.call f vs):=by
 refine Att.attach_call hn hdf fun w s₀ s₁ mg mb fa o pm cd doc a vs ns G Y ho hd hcd0 hmg hobj hints hlen hg=>?_
 have KX:=hY w _ Y
 obtain ⟨c,fd,hTn,hcd,hb,hF⟩:=F w mg fa _ KX G.T.g hmg
 exact law_callT KX hTn (hYT w _ Y) hcd G.T.bmain G.T.g G.T.b G.T.builtins G.T.nolimit hg hobj hints (Nat.le_trans hlen hn2) hr hF hb (fun H hO hS=>hsp w _ H a ns hlen hO hS) fun H e s' z=>z
end L2
namespace R
open PySem L2 PyProof.Rows
structure Dl (K:PySem.W.Frag) (x:Str) (st:Stmt) (f c:Addr) (fd:FuncData):Prop where
 ex:∃ (oc:Value) (od:Option Addr) (kV doc pm:Value) (an:Option Addr) (ct:Value) (osl:Array (Option Value)),fd=PySem.W.fnOf x x (defArgs st) (defBody st) (defScope st) .none kV doc pm an (.ref c) ct∧K.lookup f=some ⟨oc,od,.func fd,osl⟩
 cd:PySem.W.codeIn K (.ref c) x=true
theorem Dl.ok {P:Program}{w:World}{K:PySem.W.Frag}{mg:Str→Option Value}{base:Heap}{x:Str}{st:Stmt}{f c:Addr}{fd:FuncData}{N ps:List Str}{k:Nat}{sp:Sp} (d:Dl K x st f c fd) (S:FnScope N ps (defScope st)) (len:∀ vs H Q E,sp vs H Q E→vs.length=ps.length)
  (hbody:∀ (A:Around) (outer:List Env) (s:Shared) (H:Hp) (vs:List V) (Q:VK) (E:XK),Room k (A.deeper (envOfC x (defScope st) s.heap.objs.size f (.ref c)))→sp vs H Q E →
   ∃ t,PSs (cxOf CX0 P w K mg base N x (defScope st) f (.ref c) A outer s H E).nox (defBody st) t∧t { nx:=fun _ H'=>Q .non H',rt:=Q } (start N vs) H):FnOk P w K mg base CX0 (k+1) f fd ps sp:=by
 obtain ⟨oc,od,kV,doc,pm,an,ct,osl,rfl,lk⟩:=d.ex
 refine fn_of lk d.cd S len fun A outer s H vs Q E hr hsp=>?_
 obtain ⟨t,h,q⟩:=hbody A outer s H vs Q E hr hsp
 exact ⟨t,h.nox,q⟩
end R
namespace L2
open PySem PySem.Spec PyProof.Rows
end L2
namespace M25
open PySem L2 PyProof.Rows M26 M12 M24
end M25
namespace L2
open PySem PySem.Spec PyProof.Rows
def KeyInt (X:Cx) (A':Around) (f:Addr) (H:Hp) (rs:List Addr) (kf:Nat→Int):Prop :=
 ∀ i r,rs[i]? = some r→∀ (s:Shared),Env0 X.prog X.w X.K X.mg X.base A' X.stack s H →
  codeAny (model X.prog X.w) A' (.call (.ref f) ⟨[.ref r],[]⟩) (CR CX0 X.stack X.prog X.w H s (fun v H3=>v = .int (kf i)∧H3=H) (fun _ _ _=>False)) s
theorem args_minKD (a v d:Value):argsOk "min" ⟨[a],[(Str.ofString "key",v),(Str.ofString "default",d)]⟩:=by unfold argsOk;kernel_rfl
theorem args_minD (a d:Value):argsOk "min" ⟨[a],[(Str.ofString "default",d)]⟩:=by unfold argsOk;kernel_rfl
section
variable {X:Cx}{pins:List (Addr×Obj)}{σ:St}{H:Hp}{m:Str→Option Value}{l f I S:Addr}{rs:List Addr}{kf:Nat→Int}{R:Result→Shared→Prop}{d:Value}
structure MSt (X:Cx) (pins:List (Addr×Obj)) (σ:St) (H:Hp) (m:Str→Option Value) (I S l:Addr) (j:Nat) (so:Obj) (s:Shared):Prop where
 i:Inv X pins σ H s
 f:Fr X.base X.env.locals s.heap m
 pI:FpOk X pins H I
 pS:FpOk X pins H S
 oS:s.heap.get? S=some so
 it:s.heap.IsListIter I l j
theorem MSt.lst (M:MSt X pins σ H m I S l j so s) (hl:H l=some (.lst (rs.map V.ref))):s.heap.IsList l (rs.map Value.ref).toArray:=by
 obtain ⟨its,rv,pl,hz⟩:=M.i.list (SqL.of hl)
 obtain rfl:=vals_refs rv
 exact pl.isList
theorem MSt.moved {j j':Nat}{so:Obj}{s:Shared}{h':Heap}{tk:Nat} (M:MSt X pins σ H m I S l j so s) (hSI:S≠I) (hk:∀ b o,b ∉ [I]→s.heap.get? b=some o→h'.get? b=some o) (it:h'.IsListIter I l j'):MSt X pins σ H m I S l j' so { s with heap:=h',toks:=tk }:=by
 obtain ⟨oI,hoI,_⟩:=id M.it
 have F':Fr X.base X.env.locals h' m:=kmk_fr M.f hk M.pI.2.1 (bare_of M.i M.pI hoI)
 exact ⟨M.i.over (t':=tk) M.f F' (fun b o _ hb e=>hk b o (by simpa using hb) e) M.pI,F',M.pI,M.pS,hk _ _ (by simpa using hSI) M.oS,it⟩
theorem MSt.put {j:Nat}{xs ys:Array Value}{c:Nat}{s:Shared} (M:MSt X pins σ H m I S l j (seqObj "list" xs c) s) (hSI:S≠I):∃ c2,MSt X pins σ H m I S l j (seqObj "list" ys c2) { s with heap:=s.heap.update S (Obj.mapSeq fun _=>ys) }:=by
 have s1:=Heap.SameBut.update s.heap S (Obj.mapSeq fun _=>ys)
 have F':Fr X.base X.env.locals (s.heap.update S (Obj.mapSeq fun _=>ys)) m:=ksk_fr M.f s1 M.pS.2.1 (bare_of M.i M.pS M.oS)
 obtain ⟨c2,hc2⟩:∃ c2,(s.heap.update S (Obj.mapSeq fun _=>ys)).get? S=some (seqObj "list" ys c2):=⟨_,get?_update_seq M.oS fun _=>ys⟩
 obtain ⟨oI,hoI,hr⟩:=id M.it
 exact ⟨c2,M.i.over (t':=s.toks) M.f F' (fun b o _ hb e=>(s1.2 b hb).trans e) M.pS,F',M.pI,M.pS,hc2,⟨oI,(s1.2 I hSI.symm).trans hoI,hr⟩⟩
theorem MSt.call {j:Nat}{so:Obj}{s t:Shared} (M:MSt X pins σ H m I S l j so s) (os:t.os=s.os) (bare:AllBare t.gens) (un:Un (frs X.stack) [] H H s.heap t.heap) (hok:HOk X.prog X.w H t.heap):MSt X pins σ H m I S l j so t:=by
 have I2:Inv X pins σ H t:=M.i.call' (ch:=[]) os un hok bare (fun b z=>absurd z (by simp))
 have F2:Fr X.base X.env.locals t.heap m:=by
  obtain ⟨o,es,ep,ho,rest⟩:=M.f.ns
  obtain ⟨sl,hL⟩:=un.any ho M.i.free (by simp)
  exact ⟨⟨_,es,ep,hL,rest⟩,I2.bk,M.f.above⟩
 have keep2:∀ b o,FpOk X pins H b→s.heap.get? b=some o→t.heap.get? b=some o:=fun b o p eb=>by
  obtain ⟨p0,p1,p2,p3⟩:=p
  have nf:b ∉ frs X.stack:=fun z=>(List.mem_cons.mp (M.i.stkSub b z)).elim p1 p2
  exact un.keep b o eb p0 nf (by simp)
 obtain ⟨oI,hoI,hr⟩:=id M.it
 exact ⟨I2,F2,M.pI,M.pS,keep2 _ _ M.pS M.oS,⟨oI,keep2 _ _ M.pI hoI,hr⟩⟩
theorem minBy_loop (hh:X.A.handled=none) (KR:KeyInt X X.A.in1 f H rs kf) (hl:H l=some (.lst (rs.map V.ref))) (hlI:l≠I) (hSI:S≠I)
  (fin:∀ i r s',rs[i]? = some r→(∀ j,j < rs.length→kf i≤kf j)→Inv X pins σ H s'→R (.ok (.ret (.ref r))) s') :
  ∀ (n j i:Nat) (s:Shared) (rb:Addr) (tb:Tok) (c:Nat),rs.length-(j+1)=n→j+1≤rs.length→MSt X pins σ H m I S l (j+1) (seqObj "list" #[.ref rb,.int (kf i) tb] c) s→rs[i]? = some rb→(∀ j',j' ≤ j→kf i≤kf j') →
   codeAny (model X.prog X.w) X.A (.builtin "min.loop" ⟨[.ref I,.ref f,.ref S],[(Str.ofString "default",d)]⟩) R s:=by
 have hname:(toString "min" ++ toString ".loop":String) = "min.loop":=by decide
 have W:=Walks.list (prog:=X.prog) (w:=X.w) (A:=X.A.in1) hh I l hlI (rs.map Value.ref).toArray
 have hsz:(rs.map Value.ref).toArray.size=rs.length:=by simp
 intro n
 induction n with
 | zero =>
  intro j i s rb tb c hr hj M hvb hbest
  have hin:j+1=rs.length:=by omega
  refine codeAny_builtin PySem.F.entry_min_loop ?_
  rw [Around.under_plainId PySem.F.plain_min_loop _]
  show wpAny _ X.A.in1 (seqItems? (.ref S) >>= _) _ _ _
  refine wpAny_bind (wpAny_seqItems M.oS rfl ?_)
  show wpAny _ X.A.in1 (tryCatch (pyNext (.ref I)) _ >>= _) _ _ _
  refine wpAny_bind (wpAny_tryCatch (W.done _ _ _ ⟨by rw [hsz,←hin];exact M.it,M.lst hl⟩ fun h' tk' hk'=>?_))
  obtain ⟨oI,hoI,_⟩:=id M.it
  have F1:Fr X.base X.env.locals h' m:=kmk_fr M.f hk' M.pI.2.1 (bare_of M.i M.pI hoI)
  have I1:Inv X pins σ H { s with heap:=h',toks:=tk' }:=M.i.over (t':=tk') M.f F1 (fun b o _ hb e=>hk' b o (by simpa using hb) e) M.pI
  have hS':=hk' S _ (by simpa using hSI) M.oS
  have s1:=Heap.SameBut.update h' S (Obj.mapSeq fun _=>(#[]:Array Value))
  have F2:Fr X.base X.env.locals (h'.update S (Obj.mapSeq fun _=>(#[]:Array Value))) m:=ksk_fr F1 s1 M.pS.2.1 (bare_of I1 M.pS hS')
  show wpAny _ X.A.in1 (updateSeq S (fun _=>#[]) >>= _) _ _ _
  refine wpAny_bind ?_
  refine wpAny_updateSeq hS' rfl (wpAny_bind (wpAny_letGo (wpAny_pure ?_)))
  exact fin i rb _ hvb (fun j' hj'=>hbest j' (by omega)) (I1.over (t':=tk') F1 F2 (fun b o _ hb e=>(s1.2 b hb).trans e) M.pS)
 | succ n ih =>
  intro j i s rb tb c hr hj M hvb hbest
  have hlt:j+1 < rs.length:=by omega
  refine codeAny_builtin PySem.F.entry_min_loop ?_
  rw [Around.under_plainId PySem.F.plain_min_loop _]
  show wpAny _ X.A.in1 (seqItems? (.ref S) >>= _) _ _ _
  refine wpAny_bind (wpAny_seqItems M.oS rfl ?_)
  show wpAny _ X.A.in1 (tryCatch (pyNext (.ref I)) _ >>= _) _ _ _
  refine wpAny_bind (wpAny_tryCatch (W.item (j+1) _ _ _ (by rw [hsz];exact hlt) ⟨M.it,M.lst hl⟩ fun v h' tk' hP hst' hk'=>?_))
  obtain ⟨r1,hr1⟩:∃ r1,rs[j+1]? = some r1:=⟨_,List.getElem?_eq_getElem hlt⟩
  have hv:v = .ref r1:=by
   have:((rs.map Value.ref).toArray)[j+1]? = some v:=hP
   simpa [hr1] using this.symm
  subst hv
  have M1:=M.moved (tk:=tk') hSI hk' hst'.1
  have e0:=M1.i.env0
  have e0':Env0 X.prog X.w X.K X.mg X.base X.A.in1 X.stack { s with heap:=h',toks:=tk' } H:=⟨e0.frames,e0.mod,e0.bs,e0.bsz,e0.funs,e0.frf,e0.hok,e0.bare⟩
  show wpAny _ X.A.in1 (tryCatch (holding [.ref r1] (PySem.call (.ref f) [.ref r1])) _ >>= _) _ _ _
  refine wpAny_bind (wpAny_tryCatch (wpAny_holding (wpAny_call (codeAny_mono (KR (j+1) r1 hr1 _ e0') fun res t hq=>?_))))
  cases res with
  | error er=>exact False.elim hq
  | ok fl =>
   cases fl with
   | next=>exact False.elim hq
   | brk=>exact False.elim hq
   | cont=>exact False.elim hq
   | ret u =>
    obtain ⟨v,H2,os,bare,un,hok2,rv,rfl,rfl⟩:=hq
    obtain ⟨t2,rfl⟩:=rv
    have M2:=M1.call os bare un hok2
    show wpAny _ X.A.in1 (tryCatch (holding [.ref r1,.int (kf (j+1)) t2] (richCompare .Lt (.int (kf (j+1)) t2) (.int (kf i) tb) >>= _)) _ >>= _) _ _ _
    refine wpAny_bind (wpAny_tryCatch (wpAny_holding (wpAny_bind (CmpOf.ints_lt (prog:=X.prog) (w:=X.w) (A:=X.A.in1) (P:=fun i v=>∃ t,v = .int (kf i) t) kf (fun i v h=>h) (j+1) i _ _ _ _ _ ⟨t2,rfl⟩ ⟨tb,rfl⟩ ?_))))
    refine wpAny_bind (wpAny_holding (wpAny_truthy_bool ?_))
    refine wpAny_bind (wpAny_letGo (wpAny_pure ?_))
    by_cases hb':kf (j+1) < kf i
    ·simp only [hb',decide_true,if_true]
     obtain ⟨c2,M3⟩:=M2.put (ys:=#[.ref r1,.int (kf (j+1)) t2]) hSI
     refine wpAny_bind ?_
     refine wpAny_updateSeq M2.oS rfl (wpAny_bind (wpAny_letGo ?_))
     rw [hname]
     refine wpAny_pure ⟨plainId_quiet PySem.F.plain_min_loop _,ih (j+1) (j+1) _ r1 t2 c2 (by omega) hlt M3 hr1 fun j' hj'=>?_⟩
     by_cases e:j'=j+1
     ·subst e;exact Int.le_refl _
     ·have:=hbest j' (by omega)
      omega
    ·simp only [hb',decide_false,Bool.false_eq_true,if_false]
     refine wpAny_bind (wpAny_letGo ?_)
     rw [hname]
     refine wpAny_pure ⟨plainId_quiet PySem.F.plain_min_loop _,ih (j+1) i _ rb tb c (by omega) hlt M2 hvb fun j' hj'=>?_⟩
     by_cases e:j'=j+1
     ·subst e;omega
     ·exact hbest j' (by omega)
def rMinBy (X:Cx):List V→List V→Hp→VK→Prop:=fun xs zs H Q=>∃ (l f:Addr) (rs:List Addr) (kf:Nat→Int),xs = [.ref l]∧zs = [.ref f,.non]∧H l=some (.lst (rs.map V.ref))∧KeyInt X X.A.in1 f H rs kf∧(rs = []→Q .non H) ∧
 ∀ i r,rs[i]? = some r→(∀ j,j < rs.length→kf i≤kf j)→Q (.ref r) H
theorem call_minBy (hc:X.calm=true):CallKR X (.builtin "min") ["key","default"] (rMinBy X):=by
 intro pins s σ H xs zs us ws Q I r r2 h
 obtain ⟨l,f,rs,kf,rfl,rfl,hl,KR,q0,q⟩:=h
 obtain ⟨u,rfl,ru⟩:=vals1 r
 cases ru
 cases r2 with
 | cons ra rb =>
  cases rb with
  | cons rc rd =>
   cases rd
   cases ra
   cases rc
   have hh:=I.ok.hd hc
   have hname:(toString "min" ++ toString ".loop":String) = "min.loop":=by decide
   obtain ⟨its,rv,pl,hz⟩:=I.list (SqL.of hl)
   obtain rfl:=vals_refs rv
   have hls:=pl.isList
   obtain ⟨m,F⟩:=I.fr
   refine kmk_tree PySem.F.kind_min PySem.F.plain_min PySem.F.entry_min (args_minKD _ _ _) ?_
   show wpAny _ X.A.in1 (Builtin.Builtins.bindParams "min" ["key","default"] 0 ⟨[],[(Str.ofString "key",.ref f),(Str.ofString "default",.none)]⟩ >>= _) _ _ s
   refine wpAny_bind (wpAny_of_eq (show Builtin.Builtins.bindParams "min" ["key","default"] 0 ⟨[],[(Str.ofString "key",.ref f),(Str.ofString "default",.none)]⟩=pure [some (.ref f),some .none] from rfl) ?_)
   refine wpAny_bind (wpAny_pure ?_)
   refine wpAny_bind (wpAny_pyIter_list hls ?_)
   refine wpAny_bind (wpAny_newList ?_ (Nat.zero_le _))
   rw [hname]
   have hS:(s.heap.push { cls:=.type "list_iterator",data:=.fields #[.ref l,.int 0 0] }).objs.size=s.heap.objs.size+1:=size_push' ..
   obtain ⟨ol,hol,_⟩:=id hls
   have hlI:l≠s.heap.objs.size:=Nat.ne_of_lt (Heap.lt_size hol)
   have hSI:(s.heap.push { cls:=.type "list_iterator",data:=.fields #[.ref l,.int 0 0] }).objs.size≠s.heap.objs.size:=by rw [hS];exact Nat.ne_of_gt (Nat.lt_succ_self _)
   have lS:s.heap.objs.size≤(s.heap.push { cls:=.type "list_iterator",data:=.fields #[.ref l,.int 0 0] }).objs.size:=by rw [hS];exact Nat.le_succ _
   refine wpAny_pure ⟨plainId_quiet PySem.F.plain_min_loop _,?_⟩
   have gI:((s.heap.push { cls:=.type "list_iterator",data:=.fields #[.ref l,.int 0 0] }).push (seqObj "list" #[] 0)).get? s.heap.objs.size=some { cls:=.type "list_iterator",data:=.fields #[.ref l,.int 0 0] } :=
    Heap.get?_push_of_some _ (Heap.get?_push_size _ rfl)
   have gS:((s.heap.push { cls:=.type "list_iterator",data:=.fields #[.ref l,.int 0 0] }).push (seqObj "list" #[] 0)).get? (s.heap.push { cls:=.type "list_iterator",data:=.fields #[.ref l,.int 0 0] }).objs.size=some (seqObj "list" #[] 0):=Heap.get?_push_size _ rfl
   have M0:MSt X pins σ H m s.heap.objs.size (s.heap.push { cls:=.type "list_iterator",data:=.fields #[.ref l,.int 0 0] }).objs.size l 0 (seqObj "list" #[] 0) { s with heap:=(s.heap.push { cls:=.type "list_iterator",data:=.fields #[.ref l,.int 0 0] }).push (seqObj "list" #[] 0) } :=
    ⟨I.kept (t':=s.toks) fun b o e=>Heap.get?_push_of_some _ (Heap.get?_push_of_some _ e),(F.push _).push _,I.fpOk (Nat.le_refl _) (I.hok.fresh (Nat.le_refl _)),I.fpOk lS (I.hok.fresh lS),gS,⟨_,gI,rfl,rfl⟩⟩
   have W:=Walks.list (prog:=X.prog) (w:=X.w) (A:=X.A.in1) hh s.heap.objs.size l hlI (rs.map Value.ref).toArray
   have hsz:(rs.map Value.ref).toArray.size=rs.length:=by simp
   refine codeAny_builtin PySem.F.entry_min_loop ?_
   rw [Around.under_plainId PySem.F.plain_min_loop _]
   show wpAny _ X.A.in1 (seqItems? (.ref _) >>= _) _ _ _
   refine wpAny_bind (wpAny_seqItems gS rfl ?_)
   show wpAny _ X.A.in1 (tryCatch (pyNext (.ref s.heap.objs.size)) _ >>= _) _ _ _
   cases rs with
   | nil =>
    refine wpAny_bind (wpAny_tryCatch (W.done _ _ _ ⟨M0.it,M0.lst hl⟩ fun h' tk' hk'=>?_))
    have F1:Fr X.base X.env.locals h' m:=kmk_fr M0.f hk' M0.pI.2.1 (bare_of M0.i M0.pI gI)
    have I1:=M0.i.over (t':=tk') M0.f F1 (fun b o _ hb e=>hk' b o (by simpa using hb) e) M0.pI
    show wpAny _ X.A.in1 (rule _ >>= _) _ _ _
    exact wpAny_bind (wpAny_rule (wpAny_pure ⟨.non,_,I1,rfl,q0 rfl⟩))
   | cons r0 rr =>
    refine wpAny_bind (wpAny_tryCatch (W.item 0 _ _ _ (by rw [hsz];exact Nat.succ_pos _) ⟨M0.it,M0.lst hl⟩ fun v h' tk' hP hst' hk'=>?_))
    have hv:v = .ref r0:=by
     have:(((r0::rr).map Value.ref).toArray)[0]? = some v:=hP
     simpa using this.symm
    subst hv
    have M1:=M0.moved (tk:=tk') hSI hk' hst'.1
    have e0:=M1.i.env0
    have e0':Env0 X.prog X.w X.K X.mg X.base X.A.in1 X.stack { s with heap:=h',toks:=tk' } H:=⟨e0.frames,e0.mod,e0.bs,e0.bsz,e0.funs,e0.frf,e0.hok,e0.bare⟩
    show wpAny _ X.A.in1 (tryCatch (holding [.ref r0] (PySem.call (.ref f) [.ref r0])) _ >>= _) _ _ _
    refine wpAny_bind (wpAny_tryCatch (wpAny_holding (wpAny_call (codeAny_mono (KR 0 r0 rfl _ e0') fun res t hq=>?_))))
    cases res with
    | error er=>exact False.elim hq
    | ok fl =>
     cases fl with
     | next=>exact False.elim hq
     | brk=>exact False.elim hq
     | cont=>exact False.elim hq
     | ret u =>
      obtain ⟨v,H2,os,bare,un,hok2,rv,rfl,rfl⟩:=hq
      obtain ⟨t2,rfl⟩:=rv
      have M2:=M1.call os bare un hok2
      obtain ⟨c2,M3⟩:=M2.put (ys:=#[.ref r0,.int (kf 0) t2]) hSI
      refine wpAny_bind ?_
      refine wpAny_updateSeq M2.oS rfl ?_
      rw [hname]
      refine wpAny_pure ⟨plainId_quiet PySem.F.plain_min_loop _,?_⟩
      refine minBy_loop (m:=m) (d:=.none) hh KR hl hlI hSI (fun i r s' hr hb Ie=>?_) _ 0 0 _ r0 t2 c2 rfl (Nat.succ_pos _) M3 rfl fun j' hj'=>?_
      ·exact ⟨.ref r,_,Ie,rfl,q i r hr hb⟩
      ·have e:j'=0:=by omega
       subst e;exact Int.le_refl _
theorem isl_put {h:Heap}{l S:Addr}{its ys:Array Value} (n:l≠S) (g:h.IsList l its):(h.update S (Obj.mapSeq fun _=>ys)).IsList l its:=by
 obtain ⟨o,e,r⟩:=g
 exact ⟨o,((Heap.SameBut.update h S (Obj.mapSeq fun _=>ys)).2 l n).trans e,r⟩
theorem minD_loop {its:List Value} (hh:X.A.handled=none) (kv:∀ (i:Nat) (v:Value),its[i]? = some v→∃ t,v = .int (kf i) t) (hlI:l≠I) (hSI:S≠I) (hlS:l≠S)
  (fin:∀ i v s',its[i]? = some v→(∀ j,j < its.length→kf i≤kf j)→Inv X pins σ H s'→R (.ok (.ret v)) s') :
  ∀ (n j i:Nat) (s:Shared) (vb:Value) (c:Nat),its.length-(j+1)=n→j+1≤its.length→MSt X pins σ H m I S l (j+1) (seqObj "list" #[vb,vb] c) s→s.heap.IsList l its.toArray→its[i]? = some vb→(∀ j',j' ≤ j→kf i≤kf j') →
   codeAny (model X.prog X.w) X.A (.builtin "min.loop" ⟨[.ref I,.none,.ref S],[(Str.ofString "default",d)]⟩) R s:=by
 have hname:(toString "min" ++ toString ".loop":String) = "min.loop":=by decide
 have W:=Walks.list (prog:=X.prog) (w:=X.w) (A:=X.A.in1) hh I l hlI its.toArray
 have hsz:its.toArray.size=its.length:=by simp
 intro n
 induction n with
 | zero =>
  intro j i s vb c hr hj M gl hvb hbest
  have hin:j+1=its.length:=by omega
  refine codeAny_builtin PySem.F.entry_min_loop ?_
  rw [Around.under_plainId PySem.F.plain_min_loop _]
  show wpAny _ X.A.in1 (seqItems? (.ref S) >>= _) _ _ _
  refine wpAny_bind (wpAny_seqItems M.oS rfl ?_)
  show wpAny _ X.A.in1 (tryCatch (pyNext (.ref I)) _ >>= _) _ _ _
  refine wpAny_bind (wpAny_tryCatch (W.done _ _ _ ⟨by rw [hsz,←hin];exact M.it,gl⟩ fun h' tk' hk'=>?_))
  obtain ⟨oI,hoI,_⟩:=id M.it
  have F1:Fr X.base X.env.locals h' m:=kmk_fr M.f hk' M.pI.2.1 (bare_of M.i M.pI hoI)
  have I1:Inv X pins σ H { s with heap:=h',toks:=tk' }:=M.i.over (t':=tk') M.f F1 (fun b o _ hb e=>hk' b o (by simpa using hb) e) M.pI
  have hS':=hk' S _ (by simpa using hSI) M.oS
  have s1:=Heap.SameBut.update h' S (Obj.mapSeq fun _=>(#[]:Array Value))
  have F2:Fr X.base X.env.locals (h'.update S (Obj.mapSeq fun _=>(#[]:Array Value))) m:=ksk_fr F1 s1 M.pS.2.1 (bare_of I1 M.pS hS')
  show wpAny _ X.A.in1 (updateSeq S (fun _=>#[]) >>= _) _ _ _
  refine wpAny_bind ?_
  refine wpAny_updateSeq hS' rfl (wpAny_bind (wpAny_letGo (wpAny_pure ?_)))
  exact fin i vb _ hvb (fun j' hj'=>hbest j' (by omega)) (I1.over (t':=tk') F1 F2 (fun b o _ hb e=>(s1.2 b hb).trans e) M.pS)
 | succ n ih =>
  intro j i s vb c hr hj M gl hvb hbest
  have hlt:j+1 < its.length:=by omega
  refine codeAny_builtin PySem.F.entry_min_loop ?_
  rw [Around.under_plainId PySem.F.plain_min_loop _]
  show wpAny _ X.A.in1 (seqItems? (.ref S) >>= _) _ _ _
  refine wpAny_bind (wpAny_seqItems M.oS rfl ?_)
  show wpAny _ X.A.in1 (tryCatch (pyNext (.ref I)) _ >>= _) _ _ _
  refine wpAny_bind (wpAny_tryCatch (W.item (j+1) _ _ _ (by rw [hsz];exact hlt) ⟨M.it,gl⟩ fun v h' tk' hP hst' hk'=>?_))
  have hv:its[j+1]? = some v:=by simpa using hP
  have M2:=M.moved (tk:=tk') hSI hk' hst'.1
  obtain ⟨t2,rfl⟩:=kv _ _ hv
  obtain ⟨tb,rfl⟩:=kv _ _ hvb
  show wpAny _ X.A.in1 (pure (Value.int (kf (j+1)) t2) >>= _) _ _ _
  refine wpAny_bind (wpAny_pure ?_)
  show wpAny _ X.A.in1 (tryCatch (holding [.int (kf (j+1)) t2,.int (kf (j+1)) t2] (richCompare .Lt (.int (kf (j+1)) t2) (.int (kf i) tb) >>= _)) _ >>= _) _ _ _
  refine wpAny_bind (wpAny_tryCatch (wpAny_holding (wpAny_bind (CmpOf.ints_lt (prog:=X.prog) (w:=X.w) (A:=X.A.in1) (P:=fun i v=>∃ t,v = .int (kf i) t) kf (fun i v h=>h) (j+1) i _ _ _ _ _ ⟨t2,rfl⟩ ⟨tb,rfl⟩ ?_))))
  refine wpAny_bind (wpAny_holding (wpAny_truthy_bool ?_))
  refine wpAny_bind (wpAny_letGo (wpAny_pure ?_))
  by_cases hb':kf (j+1) < kf i
  ·simp only [hb',decide_true,if_true]
   obtain ⟨c2,M3⟩:=M2.put (ys:=#[.int (kf (j+1)) t2,.int (kf (j+1)) t2]) hSI
   refine wpAny_bind ?_
   refine wpAny_updateSeq M2.oS rfl (wpAny_bind (wpAny_letGo ?_))
   rw [hname]
   refine wpAny_pure ⟨plainId_quiet PySem.F.plain_min_loop _,ih (j+1) (j+1) _ _ c2 (by omega) hlt M3 (isl_put hlS hst'.2) hv fun j' hj'=>?_⟩
   by_cases e:j'=j+1
   ·subst e;exact Int.le_refl _
   ·have:=hbest j' (by omega)
    omega
  ·simp only [hb',decide_false,Bool.false_eq_true,if_false]
   refine wpAny_bind (wpAny_letGo ?_)
   rw [hname]
   refine wpAny_pure ⟨plainId_quiet PySem.F.plain_min_loop _,ih (j+1) i _ _ c (by omega) hlt M2 hst'.2 hvb fun j' hj'=>?_⟩
   by_cases e:j'=j+1
   ·subst e;omega
   ·exact hbest j' (by omega)
def rMinD (X:Cx):List V→List V→Hp→VK→Prop:=fun xs zs H Q=>∃ (l:Addr) (ns:List Int) (dv:Int),xs = [.ref l]∧zs = [.int dv]∧H l=some (.lst (ns.map V.int))∧(ns = []→Q (.int dv) H)∧∀ M,M∈ns→(∀ a∈ns,M≤a)→Q (.int M) H
theorem call_minD (hc:X.calm=true):CallKR X (.builtin "min") ["default"] (rMinD X):=by
 intro pins s σ H xs zs us ws Q I r r2 h
 obtain ⟨l,ns,dv,rfl,rfl,hl,q0,q⟩:=h
 obtain ⟨u,rfl,ru⟩:=vals1 r
 cases ru
 obtain ⟨u,rfl,ru⟩:=vals1 r2
 obtain ⟨td,rfl⟩:=ru
 have hh:=I.ok.hd hc
 have hname:(toString "min" ++ toString ".loop":String) = "min.loop":=by decide
 obtain ⟨its,rv,pl,hz⟩:=I.list (SqL.of hl)
 have hi:=intsAre_of rv
 have hlen:its.length=ns.length:=by have:=rv.length;rw [List.length_map] at this;exact this.symm
 have kv:∀ (i:Nat) (v:Value),its[i]? = some v→∃ t,v = .int (ns.getD i 0) t:=fun i v hv=>by
  have hi':i < ns.length:=by rw [←hlen];exact (List.getElem?_eq_some_iff.mp hv).1
  obtain ⟨t,ht⟩:=hi.get i _ (List.getElem?_eq_getElem hi')
  rw [ht] at hv
  cases hv
  exact ⟨t,by rw [List.getD_eq_getElem?_getD,List.getElem?_eq_getElem hi'];rfl⟩
 have hls:=pl.isList
 obtain ⟨m,F⟩:=I.fr
 refine kmk_tree PySem.F.kind_min PySem.F.plain_min PySem.F.entry_min (args_minD _ _) ?_
 show wpAny _ X.A.in1 (Builtin.Builtins.bindParams "min" ["key","default"] 0 ⟨[],[(Str.ofString "default",.int dv td)]⟩ >>= _) _ _ s
 refine wpAny_bind (wpAny_of_eq (show Builtin.Builtins.bindParams "min" ["key","default"] 0 ⟨[],[(Str.ofString "default",.int dv td)]⟩=pure [none,some (.int dv td)] from rfl) ?_)
 refine wpAny_bind (wpAny_pure ?_)
 refine wpAny_bind (wpAny_pyIter_list hls ?_)
 refine wpAny_bind (wpAny_newList ?_ (Nat.zero_le _))
 rw [hname]
 have hS:(s.heap.push { cls:=.type "list_iterator",data:=.fields #[.ref l,.int 0 0] }).objs.size=s.heap.objs.size+1:=size_push' ..
 obtain ⟨ol,hol,hols⟩:=id hls
 have hlI:l≠s.heap.objs.size:=Nat.ne_of_lt (Heap.lt_size hol)
 have hSI:(s.heap.push { cls:=.type "list_iterator",data:=.fields #[.ref l,.int 0 0] }).objs.size≠s.heap.objs.size:=by rw [hS];exact Nat.ne_of_gt (Nat.lt_succ_self _)
 have hlS:l≠(s.heap.push { cls:=.type "list_iterator",data:=.fields #[.ref l,.int 0 0] }).objs.size:=by rw [hS];exact Nat.ne_of_lt (Nat.lt_succ_of_lt (Heap.lt_size hol))
 have lS:s.heap.objs.size≤(s.heap.push { cls:=.type "list_iterator",data:=.fields #[.ref l,.int 0 0] }).objs.size:=by rw [hS];exact Nat.le_succ _
 refine wpAny_pure ⟨plainId_quiet PySem.F.plain_min_loop _,?_⟩
 have gI:((s.heap.push { cls:=.type "list_iterator",data:=.fields #[.ref l,.int 0 0] }).push (seqObj "list" #[] 0)).get? s.heap.objs.size=some { cls:=.type "list_iterator",data:=.fields #[.ref l,.int 0 0] } :=
  Heap.get?_push_of_some _ (Heap.get?_push_size _ rfl)
 have gS:((s.heap.push { cls:=.type "list_iterator",data:=.fields #[.ref l,.int 0 0] }).push (seqObj "list" #[] 0)).get? (s.heap.push { cls:=.type "list_iterator",data:=.fields #[.ref l,.int 0 0] }).objs.size=some (seqObj "list" #[] 0):=Heap.get?_push_size _ rfl
 have M0:MSt X pins σ H m s.heap.objs.size (s.heap.push { cls:=.type "list_iterator",data:=.fields #[.ref l,.int 0 0] }).objs.size l 0 (seqObj "list" #[] 0) { s with heap:=(s.heap.push { cls:=.type "list_iterator",data:=.fields #[.ref l,.int 0 0] }).push (seqObj "list" #[] 0) } :=
  ⟨I.kept (t':=s.toks) fun b o e=>Heap.get?_push_of_some _ (Heap.get?_push_of_some _ e),(F.push _).push _,I.fpOk (Nat.le_refl _) (I.hok.fresh (Nat.le_refl _)),I.fpOk lS (I.hok.fresh lS),gS,⟨_,gI,rfl,rfl⟩⟩
 have W:=Walks.list (prog:=X.prog) (w:=X.w) (A:=X.A.in1) hh s.heap.objs.size l hlI its.toArray
 have hsz:its.toArray.size=its.length:=by simp
 have gl:((s.heap.push { cls:=.type "list_iterator",data:=.fields #[.ref l,.int 0 0] }).push (seqObj "list" #[] 0)).IsList l its.toArray:=⟨ol,Heap.get?_push_of_some _ (Heap.get?_push_of_some _ hol),hols⟩
 refine codeAny_builtin PySem.F.entry_min_loop ?_
 rw [Around.under_plainId PySem.F.plain_min_loop _]
 show wpAny _ X.A.in1 (seqItems? (.ref _) >>= _) _ _ _
 refine wpAny_bind (wpAny_seqItems gS rfl ?_)
 show wpAny _ X.A.in1 (tryCatch (pyNext (.ref s.heap.objs.size)) _ >>= _) _ _ _
 by_cases hn0:its.length=0
 ·refine wpAny_bind (wpAny_tryCatch (W.done _ _ _ ⟨by rw [hsz,hn0];exact M0.it,gl⟩ fun h' tk' hk'=>?_))
  have F1:Fr X.base X.env.locals h' m:=kmk_fr M0.f hk' M0.pI.2.1 (bare_of M0.i M0.pI gI)
  have I1:=M0.i.over (t':=tk') M0.f F1 (fun b o _ hb e=>hk' b o (by simpa using hb) e) M0.pI
  show wpAny _ X.A.in1 (rule _ >>= _) _ _ _
  exact wpAny_bind (wpAny_rule (wpAny_pure ⟨.int dv,_,I1,⟨td,rfl⟩,q0 (List.length_eq_zero_iff.mp (by omega))⟩))
 ·refine wpAny_bind (wpAny_tryCatch (W.item 0 _ _ _ (by rw [hsz];omega) ⟨M0.it,gl⟩ fun v h' tk' hP hst' hk'=>?_))
  have hv:its[0]? = some v:=by simpa using hP
  have M1:=M0.moved (tk:=tk') hSI hk' hst'.1
  obtain ⟨t2,e2⟩:=kv _ _ hv
  show wpAny _ X.A.in1 (pure v >>= _) _ _ _
  refine wpAny_bind (wpAny_pure ?_)
  obtain ⟨c2,M3⟩:=M1.put (ys:=#[v,v]) hSI
  refine wpAny_bind ?_
  refine wpAny_updateSeq M1.oS rfl ?_
  rw [hname]
  refine wpAny_pure ⟨plainId_quiet PySem.F.plain_min_loop _,?_⟩
  refine minD_loop (m:=m) (d:=.int dv td) (kf:=fun i=>ns.getD i 0) hh kv hlI hSI hlS (fun i w' s' hr hb Ie=>?_) _ 0 0 _ v c2 rfl (by omega) M3 (isl_put hlS hst'.2) hv fun j' hj'=>?_
  ·obtain ⟨t,rfl⟩:=kv _ _ hr
   have hi':i < ns.length:=by rw [←hlen];exact (List.getElem?_eq_some_iff.mp hr).1
   refine ⟨.int (ns.getD i 0),_,Ie,⟨t,rfl⟩,q _ ?_ fun a ha=>?_⟩
   ·rw [List.getD_eq_getElem?_getD,List.getElem?_eq_getElem hi'];exact List.getElem_mem hi'
   ·obtain ⟨k,hk,rfl⟩:=List.getElem_of_mem ha
    have:=hb k (by omega)
    rw [show ns.getD k 0=ns[k] by rw [List.getD_eq_getElem?_getD,List.getElem?_eq_getElem hk];rfl] at this
    exact this
  ·have e:j'=0:=by omega
   subst e;exact Int.le_refl _
end
end L2
namespace L2
open PySem PySem.Spec PyProof.Rows
theorem KV.get {κ:Type}:∀ {kvs:List (κ × V)}{vs:List (κ × Value)}{i:Nat}{q:κ × Value},KV kvs vs→vs[i]? = some q→∃ p,kvs[i]? = some p∧RelV p.2 q.2
 | _,_,_,_,.nil,h=>by cases h
 | _,_,0,_,@Paired.cons _ _ _ p _ _ _ r _,h=>by
  cases h
  exact ⟨p,rfl,r.2⟩
 | _,_,i+1,_,.cons _ t,h=>KV.get (i:=i) t h
def Itv (d:Addr) (ob:Obj) (kvs:List (Key×V)):It :=
 ⟨fun i H=>H d=some (.frz ob (.dK kvs))∧i < kvs.length,fun i H x H'=>H'=H∧∃ p,kvs[i]? = some p∧x=p.2,fun i H=>H d=some (.frz ob (.dK kvs))∧kvs.length≤i⟩
theorem turn_dvals {P:Program}{w:World}{K:PySem.W.Frag}{tg:Expr} (d it:Addr) (ob:Obj) (kvs:List (Key×V)) (es:Array _) (ep:Nat) (he:ob.data = .dict es ep):Turn P w K tg (Itv d ob kvs) [it] it (fun i h=>h.IsValIter it d i kvs.length ep) where
 mem:=by simp
 obj:=fun i h st b hb=>by
  have e:b=it:=by simpa using hb
  subst e
  obtain ⟨o,e,c,d⟩:=st
  exact ⟨o,e,fun v z=>by rw [d] at z;cases z⟩
 keep:=fun i h h' st k=>st.at fun o e=>k it (by simp) o e
 item:=by
  intro X hP hw hK hc i pins s σ H E I hf st hg
  subst hP hw hK
  obtain ⟨hd,hi⟩:=hg
  obtain ⟨vs,rel,hm⟩:=frz_dict he I hd
  have lvs:kvs.length=vs.length:=rel.length
  obtain ⟨f0,f1,f2,f3,f4,f5⟩:=hf it (by simp)
  have hx:vs[i]? = some vs[i]:=by simp [←lvs,hi]
  rw [lvs] at st
  refine wpAny_pyNext_values_item (k:=vs[i].1) (v:=vs[i].2) st hm hx fun h' st' sb=>?_
  have I1:Inv X pins σ H { s with heap:=h' }:=I.turned (t':=s.toks) (fun b o hb e=>(sb.2 b hb).trans e) f0 f1 f3 f4 f5
  obtain ⟨p,hp,rp⟩:=rel.get hx
  rw [←lvs] at st'
  obtain ⟨o,e,c,dd⟩:=id st'
  exact ⟨_,rfl,go_of (s:={ s with heap:=h' }) e c dd (by decide) ⟨p.2,H,I1,rp,⟨rfl,p,hp,rfl⟩,st',fun b hb=>(hf b hb).1⟩⟩
 done:=by
  intro X hP hw hK hc i pins s σ H E I hf st hg
  subst hP hw hK
  obtain ⟨hd,hi⟩:=hg
  obtain ⟨vs,rel,hm⟩:=frz_dict he I hd
  have lvs:kvs.length=vs.length:=rel.length
  obtain ⟨f0,f1,f2,f3,f4,f5⟩:=hf it (by simp)
  rw [lvs] at st
  exact wpAny_pyNext_values_end (I.ok.hd hc) st hm (by simp;omega) fun h' eb=>⟨rfl,I.turned (t':=s.toks) (fun b o hb e=>eb b o hb e) f0 f1 f3 f4 f5⟩
 self:=fun _ _ _ _ _ st h=>wpAny_pyIter_valiter st h
section
variable {X:Cx}{tg:Expr}
def iDvals (tl:TE):TI:=fun σ H R=>tl σ H fun x H1=>∃ d kvs,x = .ref d∧H1 d=some (.dK kvs)∧∀ ob,R (Itv d ob kvs) (upd H1 d (.frz ob (.dK kvs)))
theorem pi_dvals {l:Expr}{tl:TE}{apos cpos:Pos} (hl:PE X l tl) (hbase:attributeBase l "values" X.env (eval l X.env)=eval l X.env:=by rfl) (hline:(apos.endLine == cpos.line)=true:=by rfl):PI X tg (.Call (.Attribute l "values" apos) [] [] cpos) (iDvals tl):=by
 intro pins s σ H R I h
 refine wpAny_Call_method0_late hbase hline (thn (hl pins s σ H _ I h) fun v s1 ⟨x,H1,I1,r1,q1⟩=>?_)
 obtain ⟨d,kvs,e,hd,q⟩:=q1
 subst e
 obtain ⟨h1,h2⟩:=tyV_is (T:="dict") I1 r1 (.inr (.inr (.inl ⟨rfl,.inl ⟨kvs,hd⟩⟩)))
 cases r1
 obtain ⟨z,hsys,vs,rel,dd⟩:=dk_of I1.hok hd
 refine ⟨"dict","dict.values",PySem.F.plainAttrs_dict,PySem.F.slot_dict_values,PySem.F.type_dict_values,h1,h2,Calls.callWith_builtin rfl (PySem.evalArgs_none ?_)⟩
 refine call_meetsIn PySem.F.slot_dict_values dd.typeIs PySem.F.entry_dict_values (PySem.F.args_dict_values_1 _) (meets_dict_values (mixKind X.prog X.w) d hsys) ⟨⟨vs,dd⟩,?_⟩
 have I2:=I1.kept (t':=s1.toks) (h':=s1.heap.push { cls:=.type "dict_values",data:=.fields #[.ref d] }) fun b o e=>Heap.get?_push_of_some _ e
 have hv:(s1.heap.push { cls:=.type "dict_values",data:=.fields #[.ref d] }).IsValuesView s1.heap.objs.size d:=⟨_,Heap.get?_push_size _ rfl,rfl,rfl⟩
 generalize s1.heap.push { cls:=.type "dict_values",data:=.fields #[.ref d] }=h2 at *
 obtain ⟨z,hsys,vs,rel,dd⟩:=dk_of I2.hok hd
 obtain ⟨ob,es,ep,ho,r1,he,r3⟩:=id dd
 have hat:h2.DictAt (mixKind X.prog X.w) d vs ep:=⟨ob,es,ho,r1,he,r3⟩
 have lvs:kvs.length=vs.length:=rel.length
 refine wpAny_pyIter_values hv hat ?_
 have I3:=I2.kept (t':=s1.toks) (h':=h2.push { cls:=.type "dict_valueiterator",data:=.fields #[.ref d,.int 0 0,.int vs.length 0,.int ep 0] }) fun b o e=>Heap.get?_push_of_some _ e
 have ho2:=Heap.get?_push_of_some { cls:=.type "dict_valueiterator",data:=.fields #[.ref d,.int 0 0,.int vs.length 0,.int ep 0] } ho
 have I4:=I3.write (x:=d) (e:=d) (o:=.frz ob (.dK kvs)) (t':=s1.toks) (h':=h2.push { cls:=.type "dict_valueiterator",data:=.fields #[.ref d,.int 0 0,.int vs.length 0,.int ep 0] }) (by rw [hd];trivial) (.inl rfl) (fun b u _ e=>e) ⟨_,ho2⟩ ⟨ho2,z,hsys,vs,rel,ob,es,ep,ho2,r1,he,r3⟩
 have nd:d≠h2.objs.size:=Nat.ne_of_lt (Heap.lt_size ho)
 refine ⟨h2.objs.size,[h2.objs.size],_,_,_,rfl,I4,turn_dvals d _ ob kvs es ep he,?_,fun b hb=>?_,q ob⟩
 ·rw [lvs]
  exact ⟨_,Heap.get?_push_size _ rfl,rfl,rfl⟩
 ·have e:b=h2.objs.size:=by simpa using hb
  subst e
  exact I2.fpOk (Nat.le_refl _) (by rw [upd_ne (Ne.symm nd)];exact I2.hok.fresh (Nat.le_refl _))
end
section
variable {tt:TT}{te:TE}{fr:List (Str×Nat)}{σ:St}{H1:Hp}{D:Addr}{R:Hp→Prop}
theorem comp_dvals {d:Addr}{ob:Obj}{kvs:List (Key×V)} (Pv:Nat→List V→Hp→Prop) (h0:Pv 0 [] (upd H1 D (.lst []))) (hD:∀ i acc H2,i≤kvs.length→Pv i acc H2→H2 D=some (.lst acc)∧acc.length < sizeLine∧H2 d=some (.frz ob (.dK kvs)))
  (hs:∀ i p acc H2 (N:List V→Hp→Prop),kvs[i]? = some p→(∀ acc' H',Pv (i+1) acc' H'→N acc' H')→Pv i acc H2→tt (some p.2::slotsC fr σ) H2 fun b H4 =>
   if b=true then te (some p.2::slotsC fr σ) H4 fun y H5=>H5 D=some (.lst acc)∧N (acc ++ [y]) (upd H5 D (.lst (acc ++ [y]))) else N acc H4)
  (hd:∀ acc H2,Pv kvs.length acc H2→R H2) :
  ∃ W:Nat→Nat→List V→Hp→Prop,(∃ m,W 0 m [] (upd H1 D (.lst [])))∧∀ i m acc H2,W i m acc H2 →
   H2 D=some (.lst acc)∧(((Itv d ob kvs).stop i H2∧R H2)∨(acc.length < sizeLine∧(Itv d ob kvs).go i H2∧∀ x H3,(Itv d ob kvs).yld i H2 x H3→tt (some x::slotsC fr σ) H3 fun b H4 =>
    if b=true then te (some x::slotsC fr σ) H4 fun y H5=>H5 D=some (.lst acc)∧∃ m',m' < m∧W (i+1) m' (acc ++ [y]) (upd H5 D (.lst (acc ++ [y]))) else ∃ m',m' < m∧W (i+1) m' acc H4)):=by
 refine ⟨fun i m acc H=>m=kvs.length-i∧i≤kvs.length∧Pv i acc H,⟨kvs.length,by simp,Nat.zero_le _,h0⟩,?_⟩
 rintro i m acc H2 ⟨rfl,hi,p⟩
 obtain ⟨d1,d2,d3⟩:=hD i acc H2 hi p
 refine ⟨d1,?_⟩
 by_cases hlt:i < kvs.length
 ·refine .inr ⟨d2,⟨d3,hlt⟩,fun x H3 y=>?_⟩
  obtain ⟨e,p1,y,e2⟩:=y
  subst e e2
  exact hs i p1 acc _ (fun acc' H'=>∃ m',m' < kvs.length-i∧m'=kvs.length-(i+1)∧i+1≤kvs.length∧Pv (i+1) acc' H') y (fun acc' H' q=>⟨_,by omega,rfl,hlt,q⟩) p
 ·have e:i=kvs.length:=by omega
  subst e
  exact .inl ⟨⟨d3,Nat.le_refl _⟩,hd acc H2 p⟩
end
end L2
namespace L2
open PySem PySem.Spec PyProof.Rows
def strKeysB (es:Array DictEntry):Bool:=es.toList.all fun e=>match e.key with | .str _ _=>true | _=>false
theorem strKeys_of {es:Array DictEntry} (h:strKeysB es=true):StrKeys es:=fun e he=>by
 have:=List.all_eq_true.mp h e (Array.mem_toList_iff.mpr he)
 revert this
 cases e.key with
 | str n t=>exact fun _=>⟨n,t,rfl⟩
 | _=>exact fun z=>nomatch z
end L2
namespace Bl
structure Bd where
 pl:List Nat
 tip:Nat
 inn:List Nat
 jt:List (Nat×Nat)
 pr:Int
 mark:Int
 cm:Option (Nat×Nat)
structure St where
 n:Nat
 lk:List (Nat×Nat×Int)
 ids:List Nat
 bd:Nat→Bd
 out:Nat→Nat
 sm:Nat→Int
 mt:Nat→Option Nat
def kid (S:St) (b i:Nat):Nat:=(S.bd b).inn.getD i 0
def jnt (S:St) (b i:Nat):Nat×Nat:=(S.bd b).jt.getD i (0,0)
def cnt (S:St) (b:Nat):Nat:=(S.bd b).inn.length
abbrev pl (S:St) (b:Nat):List Nat:=(S.bd b).pl
structure Fo (S:St):Prop where
 nd:S.ids.Nodup
 lt:∀ b∈S.ids,∀ p∈pl S b,p < S.n
 ne:∀ b∈S.ids,pl S b ≠ []
 pnd:∀ b∈S.ids,(pl S b).Nodup
 out:∀ p,p < S.n→S.out p∈S.ids∧p∈pl S (S.out p)
 top:∀ b∈S.ids,∀ p∈pl S b,∀ q∈pl S b,S.out p=S.out q
 one:∀ b∈S.ids,(S.bd b).inn = []→∃ p,pl S b = [p]∧(S.bd b).tip=p
 odd:∀ b∈S.ids,(S.bd b).inn ≠ []→3≤cnt S b∧cnt S b % 2=1∧(S.bd b).jt.length=cnt S b
 kin:∀ b∈S.ids,∀ i < cnt S b,kid S b i∈S.ids
 mem:∀ b∈S.ids,(S.bd b).inn ≠ []→∀ p,p∈pl S b↔∃ i < cnt S b,p∈pl S (kid S b i)
 dis:∀ b∈S.ids,∀ i < cnt S b,∀ j < cnt S b,∀ p,p∈pl S (kid S b i)→p∈pl S (kid S b j)→i=j
 jin:∀ b∈S.ids,∀ i < cnt S b,(jnt S b i).1∈pl S (kid S b i)∧(jnt S b i).2∈pl S (kid S b ((i+1) % cnt S b))
 low:∀ b∈S.ids,(S.bd b).inn ≠ []→∀ c∈S.ids,∀ p∈pl S c,p∈pl S b→(∀ q∈pl S b,q∈pl S c)∨∃ i < cnt S b,∀ q∈pl S c,q∈pl S (kid S b i)
 same:∀ b∈S.ids,∀ c∈S.ids,(∀ p,p∈pl S b↔p∈pl S c)→b=c
structure Mr (S:St) (b i:Nat):Prop where
 lt:i < cnt S b
 tip:(S.bd (kid S b i)).tip=(S.bd b).tip
 tin:(S.bd b).tip∈pl S (kid S b i)
 par:∀ o,o % 2=1→o < cnt S b→S.mt (jnt S b ((i+o) % cnt S b)).1=some (jnt S b ((i+o) % cnt S b)).2∧S.mt (jnt S b ((i+o) % cnt S b)).2=some (jnt S b ((i+o) % cnt S b)).1 ∧
  (S.bd (kid S b ((i+o) % cnt S b))).tip=(jnt S b ((i+o) % cnt S b)).1∧(S.bd (kid S b ((i+o+1) % cnt S b))).tip=(jnt S b ((i+o) % cnt S b)).2
def Md (S:St) (b:Nat):Prop:=(S.bd b).inn ≠ []→∃ i,Mr S b i
def Am (S:St) (b:Nat):Prop:=∀ c∈S.ids,(∀ p∈pl S c,p∈pl S b)→Md S c
theorem off_ex {c i j:Nat} (hi:i < c) (hj:j < c):∃ o,o < c∧(i+o) % c=j:=by
 by_cases h:i≤j
 ·exact ⟨j-i,by omega,by rw [show i+(j-i)=j by omega];exact Nat.mod_eq_of_lt hj⟩
 ·refine ⟨j+c-i,by omega,?_⟩
  rw [show i+(j+c-i)=j+c by omega,Nat.add_mod_right]
  exact Nat.mod_eq_of_lt hj
theorem off_inj {c i o o':Nat} (ho:o < c) (ho':o' < c) (h:(i+o) % c=(i+o') % c):o=o':=by
 have hc:0 < c:=by omega
 have e1:(i+o) % c=(i % c+o) % c:=by rw [Nat.add_mod,Nat.mod_eq_of_lt ho]
 have e2:(i+o') % c=(i % c+o') % c:=by rw [Nat.add_mod,Nat.mod_eq_of_lt ho']
 rw [e1,e2] at h
 have hi:=Nat.mod_lt i hc
 generalize i % c=k at *
 by_cases h1:k+o < c
 ·rw [Nat.mod_eq_of_lt h1] at h
  by_cases h2:k+o' < c
  ·rw [Nat.mod_eq_of_lt h2] at h;omega
  ·rw [Nat.mod_eq_sub_mod (by omega),Nat.mod_eq_of_lt (by omega)] at h;omega
 ·rw [Nat.mod_eq_sub_mod (by omega),Nat.mod_eq_of_lt (by omega)] at h
  by_cases h2:k+o' < c
  ·rw [Nat.mod_eq_of_lt h2] at h;omega
  ·rw [Nat.mod_eq_sub_mod (by omega:c≤k+o'),Nat.mod_eq_of_lt (by omega)] at h;omega
section
variable {S:St}
theorem Fo.ring (F:Fo S) {b i:Nat} (hi:i < cnt S b):(S.bd b).inn ≠ []:=fun e=>by
 unfold cnt at hi
 rw [e] at hi
 exact Nat.not_lt_zero _ hi
theorem Fo.ksub (F:Fo S) {b:Nat} (hb:b∈S.ids) {i:Nat} (hi:i < cnt S b) {p:Nat} (hp:p∈pl S (kid S b i)):p∈pl S b:=(F.mem b hb (F.ring hi) p).mpr ⟨i,hi,hp⟩
theorem len_lt {l m:List Nat} (nd:l.Nodup) (sub:∀ x∈l,x∈m) {y:Nat} (hy:y∈m) (hn:y ∉ l):l.length < m.length:=by
 induction l generalizing m with
 | nil=>exact List.length_pos_of_mem hy
 | cons a r ih =>
  obtain ⟨h1,h2⟩:=List.nodup_cons.mp nd
  have ha:=sub a (List.mem_cons_self ..)
  have hya:y≠a:=fun e=>hn (by rw [e];exact List.mem_cons_self ..)
  have:=ih (m:=m.erase a) h2 (fun x hx=>(List.mem_erase_of_ne (fun (e:x=a)=>h1 (by rw [←e];exact hx))).mpr (sub x (List.mem_cons_of_mem _ hx))) ((List.mem_erase_of_ne hya).mpr hy) (fun h=>hn (List.mem_cons_of_mem _ h))
  rw [List.length_erase_of_mem ha] at this
  have:=List.length_pos_of_mem ha
  rw [List.length_cons];omega
theorem Fo.kless (F:Fo S) {b:Nat} (hb:b∈S.ids) {i:Nat} (hi:i < cnt S b):(pl S (kid S b i)).length < (pl S b).length:=by
 obtain ⟨h3,_,_⟩:=F.odd b hb (F.ring hi)
 have hc:0 < cnt S b:=by omega
 obtain ⟨j,hj,hne⟩:∃ j,j < cnt S b∧j≠i:=by
  by_cases e:i=0
  ·exact ⟨1,by omega,by omega⟩
  ·exact ⟨0,hc,fun z=>e z.symm⟩
 obtain ⟨y,hy⟩:=List.exists_mem_of_ne_nil _ (F.ne _ (F.kin b hb j hj))
 exact len_lt (F.pnd _ (F.kin b hb i hi)) (fun x hx=>F.ksub hb hi hx) (F.ksub hb hj hy) fun z=>hne (F.dis b hb j hj i hi y hy z)
theorem Am.kid (F:Fo S) {b:Nat} (hb:b∈S.ids) (h:Am S b) {i:Nat} (hi:i < cnt S b):Am S (kid S b i):=fun c hc sub=>h c hc fun p hp=>F.ksub hb hi (sub p hp)
theorem inside (F:Fo S):∀ (k b:Nat),(pl S b).length≤k→b∈S.ids→Am S b→((S.bd b).tip∈pl S b)∧∀ q∈pl S b,q≠(S.bd b).tip→∃ r∈pl S b,r≠(S.bd b).tip∧S.mt q=some r∧S.mt r=some q∧∃ c∈S.ids,(∀ p∈pl S c,p∈pl S b)∧∃ i < cnt S c,jnt S c i=(q,r)∨jnt S c i=(r,q)
 | 0,b,hl,hb,_=>absurd (List.length_eq_zero_iff.mp (Nat.le_zero.mp hl)) (F.ne b hb)
 | k+1,b,hl,hb,ha=>by
  by_cases hr:(S.bd b).inn = []
  ·obtain ⟨p,e1,e2⟩:=F.one b hb hr
   rw [e1,e2]
   exact ⟨List.mem_singleton.mpr rfl,fun q hq hne=>absurd (List.mem_singleton.mp hq) hne⟩
  ·obtain ⟨i,M⟩:=ha b hb (fun _ h=>h) hr
   obtain ⟨c3,codd,_⟩:=F.odd b hb hr
   have hc:0 < cnt S b:=by omega
   have e0:(i+0) % cnt S b=i:=by rw [Nat.add_zero];exact Nat.mod_eq_of_lt M.lt
   have ind:=fun j (hj:j < cnt S b)=>inside F k (kid S b j) (by have:=F.kless hb hj;omega) (F.kin b hb j hj) (ha.kid F hb hj)
   have up:∀ j,j < cnt S b→∀ q r,(∃ c∈S.ids,(∀ p∈pl S c,p∈pl S (kid S b j))∧∃ i < cnt S c,jnt S c i=(q,r)∨jnt S c i=(r,q))→∃ c∈S.ids,(∀ p∈pl S c,p∈pl S b)∧∃ i < cnt S c,jnt S c i=(q,r)∨jnt S c i=(r,q):=fun j hj q r ⟨c,hc,sub,z⟩=>⟨c,hc,fun p hp=>F.ksub hb hj (sub p hp),z⟩
   refine ⟨F.ksub hb M.lt M.tin,fun q hq hne=>?_⟩
   obtain ⟨j,hj,hqj⟩:=(F.mem b hb hr q).mp hq
   obtain ⟨o,ho,eo⟩:=off_ex M.lt hj
   obtain ⟨tj,inj⟩:=ind j hj
   have apart:∀ l,l < cnt S b→l≠i→∀ r,r∈pl S (kid S b l)→r≠(S.bd b).tip:=fun l hl hli r hr' e=>hli (F.dis b hb l hl i M.lt r hr' (by rw [e];exact M.tin))
   by_cases hji:j=i
   ·subst hji
    obtain ⟨r,hr1,hr2,m1,m2,z⟩:=inj q hqj (by rw [M.tip];exact hne)
    exact ⟨r,F.ksub hb hj hr1,by rw [←M.tip];exact hr2,m1,m2,up j hj q r z⟩
   ·by_cases hqt:q=(S.bd (kid S b j)).tip
    ·have o0:o≠0:=fun e=>hji (by rw [←eo,e,Nat.add_zero];exact Nat.mod_eq_of_lt M.lt)
     by_cases hodd:o % 2=1
     ·obtain ⟨m1,m2,t1,t2⟩:=M.par o hodd ho
      rw [eo] at m1 m2 t1 t2
      have eq:q=(jnt S b j).1:=by rw [hqt,t1]
      have ho1:o+1 < cnt S b:=by omega
      have hn:(i+o+1) % cnt S b≠i:=fun e=>by
       have:(i+(o+1)) % cnt S b=(i+0) % cnt S b:=e.trans e0.symm
       have:=off_inj ho1 hc this
       omega
      have hj1:(i+o+1) % cnt S b < cnt S b:=Nat.mod_lt _ hc
      obtain ⟨j2,_⟩:=(F.jin b hb j hj)
      have jm:(jnt S b j).2∈pl S (kid S b ((i+o+1) % cnt S b)):=by
       have:=(F.jin b hb j hj).2
       have e:(j+1) % cnt S b=(i+o+1) % cnt S b:=by rw [←eo,Nat.mod_add_mod]
       rwa [e] at this
      exact ⟨(jnt S b j).2,F.ksub hb hj1 jm,apart _ hj1 hn _ jm,by rw [eq];exact m1,by rw [eq];exact m2,b,hb,fun _ h=>h,j,hj,.inl (by rw [eq])⟩
     ·obtain ⟨m1,m2,t1,t2⟩:=M.par (o-1) (by omega) (by omega)
      rw [show i+(o-1)+1=i+o by omega,eo] at t2
      have eq:q=(jnt S b ((i+(o-1)) % cnt S b)).2:=by rw [hqt,t2]
      have hj1:(i+(o-1)) % cnt S b < cnt S b:=Nat.mod_lt _ hc
      have hn:(i+(o-1)) % cnt S b≠i:=fun e=>by
       have:(i+(o-1)) % cnt S b=(i+0) % cnt S b:=e.trans e0.symm
       have:=off_inj (show o-1 < cnt S b by omega) hc this
       omega
      have jm:=(F.jin b hb _ hj1).1
      exact ⟨(jnt S b ((i+(o-1)) % cnt S b)).1,F.ksub hb hj1 jm,apart _ hj1 hn _ jm,by rw [eq];exact m2,by rw [eq];exact m1,b,hb,fun _ h=>h,_,hj1,.inr (by rw [eq])⟩
    ·obtain ⟨r,hr1,hr2,m1,m2,z⟩:=inj q hqj hqt
     exact ⟨r,F.ksub hb hj hr1,apart j hj hji r hr1,m1,m2,up j hj q r z⟩
end
end Bl
namespace Bl
structure Stat (S S':St):Prop where
 n:S'.n=S.n
 lk:S'.lk=S.lk
 ids:S'.ids=S.ids
 out:S'.out=S.out
 sm:S'.sm=S.sm
 pl:∀ b,Bl.pl S' b=Bl.pl S b
 inn:∀ b,(S'.bd b).inn=(S.bd b).inn
 jt:∀ b,(S'.bd b).jt=(S.bd b).jt
 pr:∀ b,(S'.bd b).pr=(S.bd b).pr
 mark:∀ b,(S'.bd b).mark=(S.bd b).mark
 cm:∀ b,(S'.bd b).cm=(S.bd b).cm
theorem Stat.refl (S:St):Stat S S:=⟨rfl,rfl,rfl,rfl,rfl,fun _=>rfl,fun _=>rfl,fun _=>rfl,fun _=>rfl,fun _=>rfl,fun _=>rfl⟩
theorem Stat.trans {A B C:St} (h:Stat A B) (g:Stat B C):Stat A C:=⟨g.n.trans h.n,g.lk.trans h.lk,g.ids.trans h.ids,g.out.trans h.out,g.sm.trans h.sm,fun b=>(g.pl b).trans (h.pl b),fun b=>(g.inn b).trans (h.inn b),fun b=>(g.jt b).trans (h.jt b),fun b=>(g.pr b).trans (h.pr b),fun b=>(g.mark b).trans (h.mark b),fun b=>(g.cm b).trans (h.cm b)⟩
section
variable {S S':St}
theorem Stat.cnt (h:Stat S S') (b:Nat):cnt S' b=cnt S b:=by unfold Bl.cnt;rw [h.inn]
theorem Stat.kid (h:Stat S S') (b i:Nat):kid S' b i=kid S b i:=by unfold Bl.kid;rw [h.inn]
theorem Stat.jnt (h:Stat S S') (b i:Nat):jnt S' b i=jnt S b i:=by unfold Bl.jnt;rw [h.jt]
theorem Stat.fo (h:Stat S S') (F:Fo S) (h1:∀ b∈S.ids,(S.bd b).inn = []→(S'.bd b).tip=(S.bd b).tip):Fo S':=by
 refine ⟨?_,?_,?_,?_,?_,?_,?_,?_,?_,?_,?_,?_,?_,?_⟩
 ·rw [h.ids];exact F.nd
 ·rw [h.ids,h.n];intro b hb;rw [h.pl];exact F.lt b hb
 ·rw [h.ids];intro b hb;rw [h.pl];exact F.ne b hb
 ·rw [h.ids];intro b hb;rw [h.pl];exact F.pnd b hb
 ·rw [h.ids,h.n,h.out];intro p hp;rw [h.pl];exact F.out p hp
 ·rw [h.ids,h.out];intro b hb;rw [h.pl];exact F.top b hb
 ·rw [h.ids];intro b hb e
  rw [h.inn] at e
  obtain ⟨p,e1,e2⟩:=F.one b hb e
  exact ⟨p,(h.pl b).trans e1,(h1 b hb e).trans e2⟩
 ·rw [h.ids];intro b hb;rw [h.inn,h.cnt,h.jt];exact F.odd b hb
 ·rw [h.ids];intro b hb;rw [h.cnt];intro i hi;rw [h.kid];exact F.kin b hb i hi
 ·rw [h.ids];intro b hb e p
  rw [h.inn] at e
  rw [h.pl,h.cnt,F.mem b hb e p]
  constructor
  ·rintro ⟨i,hi,z⟩;exact ⟨i,hi,by rw [h.pl,h.kid];exact z⟩
  ·rintro ⟨i,hi,z⟩;exact ⟨i,hi,by rw [h.pl,h.kid] at z;exact z⟩
 ·rw [h.ids];intro b hb;rw [h.cnt];intro i hi j hj p
  rw [h.pl,h.pl,h.kid,h.kid];exact F.dis b hb i hi j hj p
 ·rw [h.ids];intro b hb;rw [h.cnt];intro i hi
  rw [h.jnt,h.pl,h.pl,h.kid,h.kid];exact F.jin b hb i hi
 ·rw [h.ids];intro b hb e c hc p
  rw [h.inn] at e
  rw [h.pl,h.pl,h.cnt];intro hp hq
  rcases F.low b hb e c hc p hp hq with z | ⟨i,hi,z⟩
  ·exact .inl z
  ·exact .inr ⟨i,hi,by rw [h.pl,h.kid];exact z⟩
 ·rw [h.ids];intro b hb c hc e
  exact F.same b hb c hc fun p=>by have:=e p;rwa [h.pl,h.pl] at this
theorem Am.keep (h:Stat S S') (F:Fo S) {c:Nat} (hc:c∈S.ids) (ht:∀ d∈S.ids,(∀ p∈pl S d,p∈pl S c)→(S'.bd d).tip=(S.bd d).tip) (hm:∀ q∈pl S c,S'.mt q=S.mt q) (a:Am S c):Am S' c:=by
 intro d hd sub hr
 rw [h.ids] at hd
 rw [h.inn] at hr
 have sub':∀ p∈pl S d,p∈pl S c:=fun p hp=>by have:=sub p (by rw [h.pl];exact hp);rwa [h.pl] at this
 obtain ⟨i,M⟩:=a d hd sub' hr
 have hcd:0 < cnt S d:=Nat.lt_of_le_of_lt (Nat.zero_le _) M.lt
 have kt:∀ j < cnt S d,(S'.bd (Bl.kid S d j)).tip=(S.bd (Bl.kid S d j)).tip:=fun j hj=>ht _ (F.kin d hd j hj) fun p hp=>sub' p (F.ksub hd hj hp)
 refine ⟨i,⟨by rw [h.cnt];exact M.lt,?_,?_,fun o ho hlt=>?_⟩⟩
 ·rw [h.kid,kt i M.lt,ht d hd sub'];exact M.tip
 ·rw [ht d hd sub',h.kid,h.pl];exact M.tin
 ·rw [h.cnt] at hlt
  obtain ⟨m1,m2,t1,t2⟩:=M.par o ho hlt
  have hj:=Nat.mod_lt (i+o) hcd
  have hj1:=Nat.mod_lt (i+o+1) hcd
  obtain ⟨j1,j2⟩:=F.jin d hd _ hj
  rw [h.cnt,h.jnt,h.kid,h.kid,kt _ hj,kt _ hj1,hm _ (sub' _ (F.ksub hd hj j1)),hm _ (sub' _ (F.ksub hd (Nat.mod_lt _ hcd) j2))]
  exact ⟨m1,m2,t1,t2⟩
theorem Mr.ends (F:Fo S) {b i o:Nat} (hb:b∈S.ids) (M:Mr S b i) (ho:o % 2=1) (hlt:o < cnt S b):(jnt S b ((i+o) % cnt S b)).1≠(S.bd b).tip∧(jnt S b ((i+o) % cnt S b)).2≠(S.bd b).tip:=by
 have hc:0 < cnt S b:=by omega
 obtain ⟨c3,codd,_⟩:=F.odd b hb (F.ring M.lt)
 have e0:(i+0) % cnt S b=i:=by rw [Nat.add_zero];exact Nat.mod_eq_of_lt M.lt
 have hj:=Nat.mod_lt (i+o) hc
 obtain ⟨j1,j2⟩:=F.jin b hb _ hj
 constructor
 ·intro e
  rw [e] at j1
  have:=F.dis b hb _ hj i M.lt _ j1 M.tin
  have:=off_inj (i:=i) hlt hc (this.trans e0.symm)
  omega
 ·intro e
  rw [e] at j2
  have h1:=F.dis b hb _ (Nat.mod_lt _ hc) i M.lt _ j2 M.tin
  have h2:(i+(o+1)) % cnt S b=(i+0) % cnt S b:=by rw [e0];exact (Nat.mod_add_mod (i+o) (cnt S b) 1).symm.trans h1
  have:=off_inj (i:=i) (show o+1 < cnt S b by omega) hc h2
  omega
theorem tip_down (F:Fo S):∀ (k c:Nat),(pl S c).length≤k→c∈S.ids→Am S c→∀ d∈S.ids,(∀ p∈pl S d,p∈pl S c)→(S.bd c).tip∈pl S d→(S.bd d).tip=(S.bd c).tip
 | 0,c,hl,hc,_,_,_,_,_=>absurd (List.length_eq_zero_iff.mp (Nat.le_zero.mp hl)) (F.ne c hc)
 | k+1,c,hl,hc,a,d,hd,sub,ht=>by
  by_cases hr:(S.bd c).inn = []
  ·obtain ⟨p,e1,e2⟩:=F.one c hc hr
   have e:d=c:=F.same d hd c hc fun q=>⟨sub q,fun hq=>by
    rw [e1] at hq
    rw [List.mem_singleton.mp hq,←e2];exact ht⟩
   rw [e]
  ·obtain ⟨i,M⟩:=a c hc (fun _ h=>h) hr
   rcases F.low c hc hr d hd _ ht (sub _ ht) with z | ⟨j,hj,z⟩
   ·have e:d=c:=F.same d hd c hc fun q=>⟨sub q,z q⟩
    rw [e]
   ·have hji:j=i:=F.dis c hc j hj i M.lt _ (z _ ht) M.tin
    subst hji
    rw [←M.tip]
    exact tip_down F k (kid S c j) (by have:=F.kless hc hj;omega) (F.kin c hc j hj) (a.kid F hc hj) d hd z (by rw [M.tip];exact ht)
theorem Am.keepT (h:Stat S S') (F:Fo S) {c:Nat} (hc:c∈S.ids) (ht:∀ d∈S.ids,(∀ p∈pl S d,p∈pl S c)→(S'.bd d).tip=(S.bd d).tip) (hm:∀ q∈pl S c,q≠(S.bd c).tip→S'.mt q=S.mt q) (a:Am S c):Am S' c:=by
 intro d hd sub hr
 rw [h.ids] at hd
 rw [h.inn] at hr
 have sub':∀ p∈pl S d,p∈pl S c:=fun p hp=>by have:=sub p (by rw [h.pl];exact hp);rwa [h.pl] at this
 obtain ⟨i,M⟩:=a d hd sub' hr
 have hcd:0 < cnt S d:=Nat.lt_of_le_of_lt (Nat.zero_le _) M.lt
 have kt:∀ j < cnt S d,(S'.bd (Bl.kid S d j)).tip=(S.bd (Bl.kid S d j)).tip:=fun j hj=>ht _ (F.kin d hd j hj) fun p hp=>sub' p (F.ksub hd hj hp)
 refine ⟨i,⟨by rw [h.cnt];exact M.lt,?_,?_,fun o ho hlt=>?_⟩⟩
 ·rw [h.kid,kt i M.lt,ht d hd sub'];exact M.tip
 ·rw [ht d hd sub',h.kid,h.pl];exact M.tin
 ·rw [h.cnt] at hlt
  obtain ⟨m1,m2,t1,t2⟩:=M.par o ho hlt
  obtain ⟨e1,e2⟩:=M.ends F hd ho hlt
  have hj:=Nat.mod_lt (i+o) hcd
  have hj1:=Nat.mod_lt (i+o+1) hcd
  obtain ⟨j1,j2⟩:=F.jin d hd _ hj
  have d1:=F.ksub hd hj j1
  have d2:=F.ksub hd (Nat.mod_lt _ hcd) j2
  have nt:∀ q,q∈pl S d→q≠(S.bd d).tip→q≠(S.bd c).tip:=fun q hq hne e=>hne (by rw [tip_down F _ c (Nat.le_refl _) hc a d hd sub' (by rw [←e];exact hq)];exact e)
  rw [h.cnt,h.jnt,h.kid,h.kid,kt _ hj,kt _ hj1,hm _ (sub' _ d1) (nt _ d1 e1),hm _ (sub' _ d2) (nt _ d2 e2)]
  exact ⟨m1,m2,t1,t2⟩
structure Lead (S:St) (b p:Nat) (S':St):Prop where
 stat:Stat S S'
 tipo:∀ c,¬ (c∈S.ids∧∀ q∈pl S c,q∈pl S b)→(S'.bd c).tip=(S.bd c).tip
 mto:∀ q,q ∉ pl S b→S'.mt q=S.mt q
 mtp:S'.mt p=S.mt p
 tip:(S'.bd b).tip=p
 am:Am S' b
theorem ring_am (F:Fo S) {b i p:Nat} (hb:b∈S.ids) (hi:i < cnt S b) (h:Stat S S') (hp:p∈pl S (kid S b i)) (t0:(S'.bd b).tip=p) (ti:(S'.bd (kid S b i)).tip=p) (ks:∀ j < cnt S b,Am S' (kid S b j))
  (par:∀ o,o % 2=1→o < cnt S b→S'.mt (jnt S b ((i+o) % cnt S b)).1=some (jnt S b ((i+o) % cnt S b)).2∧S'.mt (jnt S b ((i+o) % cnt S b)).2=some (jnt S b ((i+o) % cnt S b)).1 ∧
   (S'.bd (kid S b ((i+o) % cnt S b))).tip=(jnt S b ((i+o) % cnt S b)).1∧(S'.bd (kid S b ((i+o+1) % cnt S b))).tip=(jnt S b ((i+o) % cnt S b)).2):Am S' b:=by
 intro c hc sub hr
 rw [h.ids] at hc
 have sub':∀ q∈pl S c,q∈pl S b:=fun q hq=>by have:=sub q (by rw [h.pl];exact hq);rwa [h.pl] at this
 obtain ⟨y,hy⟩:=List.exists_mem_of_ne_nil _ (F.ne c hc)
 rcases F.low b hb (F.ring hi) c hc y hy (sub' y hy) with z | ⟨j,hj,z⟩
 ·have e:c=b:=F.same c hc b hb fun q=>⟨sub' q,z q⟩
  subst e
  exact ⟨i,⟨by rw [h.cnt];exact hi,by rw [h.kid,ti,t0],by rw [t0,h.kid,h.pl];exact hp,fun o ho hlt=>by rw [h.cnt] at hlt;rw [h.cnt,h.jnt,h.kid,h.kid];exact par o ho hlt⟩⟩
 ·exact ks j hj c (by rw [h.ids];exact hc) (fun q hq=>by rw [h.pl] at hq ⊢;exact z q hq) hr
end
end Bl
namespace Bl
def tieS (S:St) (x y:Nat):St:={ S with mt:=fun q=>if q=y then some x else if q=x then some y else S.mt q }
def tipS (S:St) (b p:Nat):St:={ S with bd:=fun c=>if c=b then { S.bd c with tip:=p } else S.bd c }
theorem tieS_stat (S:St) (x y:Nat):Stat S (tieS S x y):=⟨rfl,rfl,rfl,rfl,rfl,fun _=>rfl,fun _=>rfl,fun _=>rfl,fun _=>rfl,fun _=>rfl,fun _=>rfl⟩
theorem tipS_stat (S:St) (b p:Nat):Stat S (tipS S b p):=by
 have h:∀ c,(tipS S b p).bd c=if c=b then { S.bd c with tip:=p } else S.bd c:=fun _=>rfl
 refine ⟨rfl,rfl,rfl,rfl,rfl,fun c=>?_,fun c=>?_,fun c=>?_,fun c=>?_,fun c=>?_,fun c=>?_⟩
 ·show ((tipS S b p).bd c).pl=_;rw [h];split <;> rfl
 ·rw [h];split <;> rfl
 ·rw [h];split <;> rfl
 ·rw [h];split <;> rfl
 ·rw [h];split <;> rfl
 ·rw [h];split <;> rfl
theorem tipS_tip (S:St) (b p:Nat):((tipS S b p).bd b).tip=p:=by show (if b=b then { S.bd b with tip:=p } else S.bd b).tip=p;rw [if_pos rfl]
theorem tipS_ne {S:St}{b p c:Nat} (h:c≠b):((tipS S b p).bd c).tip=(S.bd c).tip:=by show (if c=b then { S.bd c with tip:=p } else S.bd c).tip=_;rw [if_neg h]
section
variable {S:St}
theorem Fo.kout (F:Fo S) {b i j:Nat} (hb:b∈S.ids) (hi:i < cnt S b) (hj:j < cnt S b) (hij:i≠j):¬ (kid S b i∈S.ids∧∀ q∈pl S (kid S b i),q∈pl S (kid S b j)):=fun h=>by
 obtain ⟨y,hy⟩:=List.exists_mem_of_ne_nil _ (F.ne _ (F.kin b hb i hi))
 exact hij (F.dis b hb i hi j hj y hy (h.2 y hy))
theorem Fo.bout (F:Fo S) {b j:Nat} (hb:b∈S.ids) (hj:j < cnt S b):¬ (b∈S.ids∧∀ q∈pl S b,q∈pl S (kid S b j)):=fun h=>by
 have hr:=F.ring hj
 obtain ⟨h3,_,_⟩:=F.odd b hb hr
 obtain ⟨l,hl,hne⟩:∃ l,l < cnt S b∧l≠j:=by
  by_cases e:j=0
  ·exact ⟨1,by omega,by omega⟩
  ·exact ⟨0,by omega,fun z=>e z.symm⟩
 obtain ⟨y,hy⟩:=List.exists_mem_of_ne_nil _ (F.ne _ (F.kin b hb l hl))
 exact hne (F.dis b hb l hl j hj y hy (h.2 y (F.ksub hb hl hy)))
structure LdL (S:St) (b i p t:Nat) (S':St):Prop where
 stat:Stat S S'
 tipo:∀ c,¬ (c∈S.ids∧∀ q∈pl S c,q∈pl S b)→(S'.bd c).tip=(S.bd c).tip
 one:∀ c∈S.ids,(S.bd c).inn = []→(S'.bd c).tip=(S.bd c).tip
 mto:∀ q,q ∉ pl S b→S'.mt q=S.mt q
 mtp:S'.mt p=S.mt p
 t0:(S'.bd b).tip=p
 ti:(S'.bd (kid S b i)).tip=p
 am:∀ o,o≤2*t→Am S' (kid S b ((i+o) % cnt S b))
 par:∀ o,o % 2=1→o < 2*t→S'.mt (jnt S b ((i+o) % cnt S b)).1=some (jnt S b ((i+o) % cnt S b)).2∧S'.mt (jnt S b ((i+o) % cnt S b)).2=some (jnt S b ((i+o) % cnt S b)).1 ∧
   (S'.bd (kid S b ((i+o) % cnt S b))).tip=(jnt S b ((i+o) % cnt S b)).1∧(S'.bd (kid S b ((i+o+1) % cnt S b))).tip=(jnt S b ((i+o) % cnt S b)).2
theorem Lead.one {b p:Nat}{S':St} (F:Fo S) (L:Lead S b p S') (F':Fo S'):∀ c∈S.ids,(S.bd c).inn = []→(S'.bd c).tip=(S.bd c).tip:=fun c hc e=>by
 obtain ⟨p1,e1,e2⟩:=F.one c hc e
 obtain ⟨p2,e3,e4⟩:=F'.one c (by rw [L.stat.ids];exact hc) (by rw [L.stat.inn];exact e)
 rw [L.stat.pl,e1] at e3
 rw [e4,e2]
 exact (List.cons.inj e3).1.symm
theorem LdL.fo {b i p t:Nat}{S':St} (F:Fo S) (L:LdL S b i p t S'):Fo S':=L.stat.fo F L.one
theorem LdL.step {b i p t:Nat}{A B C:St} (F:Fo S) (hb:b∈S.ids) (hi:i < cnt S b) (hp:p∈pl S (kid S b i)) (L:LdL S b i p t A) (ht:2*t+2 < cnt S b)
  (hB:Lead A (kid S b ((i+(2*t+1)) % cnt S b)) (jnt S b ((i+(2*t+1)) % cnt S b)).1 B) (fB:Fo B) (hC:Lead B (kid S b ((i+(2*t+2)) % cnt S b)) (jnt S b ((i+(2*t+1)) % cnt S b)).2 C) (fC:Fo C) :
  LdL S b i p (t+1) (tieS C (jnt S b ((i+(2*t+1)) % cnt S b)).1 (jnt S b ((i+(2*t+1)) % cnt S b)).2):=by
 have hc:0 < cnt S b:=by omega
 have FA:=L.fo F
 generalize hj1:(i+(2*t+1)) % cnt S b=j1 at *
 generalize hj2:(i+(2*t+2)) % cnt S b=j2 at *
 have l1:j1 < cnt S b:=by rw [←hj1];exact Nat.mod_lt _ hc
 have l2:j2 < cnt S b:=by rw [←hj2];exact Nat.mod_lt _ hc
 have e12:(j1+1) % cnt S b=j2:=by rw [←hj1,←hj2,Nat.mod_add_mod];rfl
 have n12:j1≠j2:=fun e=>by
  have:=off_inj (i:=i) (show 2*t+1 < cnt S b by omega) (show 2*t+2 < cnt S b by omega) (by rw [hj1,hj2,e])
  omega
 obtain ⟨x1,y1⟩:=F.jin b hb j1 l1
 rw [e12] at y1
 generalize hx:(jnt S b j1).1=x at *
 generalize hy:(jnt S b j1).2=y at *
 have ix:x∈pl S b:=F.ksub hb l1 x1
 have iy:y∈pl S b:=F.ksub hb l2 y1
 have xy:x≠y:=fun e=>n12 (F.dis b hb j1 l1 j2 l2 x x1 (by rw [e];exact y1))
 have offne:∀ o,o≤2*t→(i+o) % cnt S b≠j1∧(i+o) % cnt S b≠j2:=fun o ho=>⟨fun e=>by
  have:=off_inj (i:=i) (show o < cnt S b by omega) (show 2*t+1 < cnt S b by omega) (by rw [hj1,e])
  omega,fun e=>by
  have:=off_inj (i:=i) (show o < cnt S b by omega) (show 2*t+2 < cnt S b by omega) (by rw [hj2,e])
  omega⟩
 have i0:(i+0) % cnt S b=i:=by rw [Nat.add_zero];exact Nat.mod_eq_of_lt hi
 have ni1:i≠j1:=fun e=>(offne 0 (Nat.zero_le _)).1 (by rw [i0];exact e)
 have ni2:i≠j2:=fun e=>(offne 0 (Nat.zero_le _)).2 (by rw [i0];exact e)
 have px:p≠x:=fun e=>ni1 (F.dis b hb i hi j1 l1 p hp (by rw [e];exact x1))
 have py:p≠y:=fun e=>ni2 (F.dis b hb i hi j2 l2 p hp (by rw [e];exact y1))
 have sB:=L.stat.trans hB.stat
 have sC:=sB.trans hC.stat
 have plA:∀ c,pl A c=pl S c:=L.stat.pl
 have plB:∀ c,pl B c=pl S c:=sB.pl
 have idA:A.ids=S.ids:=L.stat.ids
 have idB:B.ids=S.ids:=sB.ids
 have tB:∀ c,¬ (c∈S.ids∧∀ q∈pl S c,q∈pl S (kid S b j1))→(B.bd c).tip=(A.bd c).tip:=fun c h=>hB.tipo c fun z=>h ⟨by rw [←idA];exact z.1,fun q hq=>by have:=z.2 q (by rw [plA];exact hq);rwa [plA] at this⟩
 have tC:∀ c,¬ (c∈S.ids∧∀ q∈pl S c,q∈pl S (kid S b j2))→(C.bd c).tip=(B.bd c).tip:=fun c h=>hC.tipo c fun z=>h ⟨by rw [←idB];exact z.1,fun q hq=>by have:=z.2 q (by rw [plB];exact hq);rwa [plB] at this⟩
 have mB:∀ q,q ∉ pl S (kid S b j1)→B.mt q=A.mt q:=fun q h=>hB.mto q (by rw [plA];exact h)
 have mC:∀ q,q ∉ pl S (kid S b j2)→C.mt q=B.mt q:=fun q h=>hC.mto q (by rw [plB];exact h)
 have mT:∀ q,q≠x→q≠y→(tieS C x y).mt q=C.mt q:=fun q h1 h2=>by show (if q=y then some x else if q=x then some y else C.mt q)=_;rw [if_neg h2,if_neg h1]
 have mTx:(tieS C x y).mt x=some y:=by show (if x=y then some x else if x=x then some y else C.mt x)=_;rw [if_neg xy,if_pos rfl]
 have mTy:(tieS C x y).mt y=some x:=by show (if y=y then some x else if y=x then some y else C.mt y)=_;rw [if_pos rfl]
 have tT:∀ c,((tieS C x y).bd c).tip=(C.bd c).tip:=fun _=>rfl
 have nin:∀ o,o≤2*t→∀ q,q∈pl S (kid S b ((i+o) % cnt S b))→q ∉ pl S (kid S b j1)∧q ∉ pl S (kid S b j2):=fun o ho q hq=>⟨fun z=>(offne o ho).1 (F.dis b hb _ (Nat.mod_lt _ hc) j1 l1 q hq z),fun z=>(offne o ho).2 (F.dis b hb _ (Nat.mod_lt _ hc) j2 l2 q hq z)⟩
 have ktip:∀ o,o≤2*t→(C.bd (kid S b ((i+o) % cnt S b))).tip=(A.bd (kid S b ((i+o) % cnt S b))).tip:=fun o ho=>by
  rw [tC _ (F.kout hb (Nat.mod_lt _ hc) l2 (offne o ho).2),tB _ (F.kout hb (Nat.mod_lt _ hc) l1 (offne o ho).1)]
 have kmt:∀ o,o≤2*t→∀ q∈pl S (kid S b ((i+o) % cnt S b)),(tieS C x y).mt q=A.mt q:=fun o ho q hq=>by
  obtain ⟨n1,n2⟩:=nin o ho q hq
  rw [mT q (fun e=>n1 (by rw [e];exact x1)) (fun e=>n2 (by rw [e];exact y1)),mC q n2,mB q n1]
 have sT:Stat S (tieS C x y):=sC.trans (tieS_stat C x y)
 have amA:∀ o,o≤2*t→Am (tieS C x y) (kid S b ((i+o) % cnt S b)):=fun o ho=>by
  have hk:=F.kin b hb _ (Nat.mod_lt (i+o) hc)
  have st:Stat A (tieS C x y):=(hB.stat.trans hC.stat).trans (tieS_stat C x y)
  refine Am.keep st FA (by rw [idA];exact hk) (fun d hd sub=>?_) (fun q hq=>?_) (L.am o ho)
  ·rw [idA] at hd
   have sub':∀ q∈pl S d,q∈pl S (kid S b ((i+o) % cnt S b)):=fun q hq=>by have:=sub q (by rw [plA];exact hq);rwa [plA] at this
   obtain ⟨z,hz⟩:=List.exists_mem_of_ne_nil _ (F.ne d hd)
   obtain ⟨n1,n2⟩:=nin o ho z (sub' z hz)
   rw [tT,tC d (fun h=>n2 (h.2 z hz)),tB d (fun h=>n1 (h.2 z hz))]
  ·rw [plA] at hq
   exact kmt o ho q hq
 have am1:Am (tieS C x y) (kid S b j1):=by
  refine Am.keepT (S:=B) (hC.stat.trans (tieS_stat C x y)) fB (by rw [idB];exact F.kin b hb j1 l1) (fun d hd sub=>?_) (fun q hq hne=>?_) hB.am
  ·rw [idB] at hd
   obtain ⟨z,hz⟩:=List.exists_mem_of_ne_nil _ (F.ne d hd)
   have z1:z∈pl S (kid S b j1):=by have:=sub z (by rw [plB];exact hz);rwa [plB] at this
   rw [tT,tC d (fun h=>n12 (F.dis b hb j1 l1 j2 l2 z z1 (h.2 z hz)))]
  ·rw [plB] at hq
   rw [hB.tip] at hne
   have n2:q ∉ pl S (kid S b j2):=fun z=>n12 (F.dis b hb j1 l1 j2 l2 q hq z)
   rw [mT q hne (fun e=>n2 (by rw [e];exact y1)),mC q n2]
 have am2:Am (tieS C x y) (kid S b j2):=by
  refine Am.keepT (S:=C) (tieS_stat C x y) fC (by rw [sC.ids];exact F.kin b hb j2 l2) (fun d hd sub=>rfl) (fun q hq hne=>?_) hC.am
  rw [sC.pl] at hq
  rw [hC.tip] at hne
  exact mT q (fun e=>n12 (F.dis b hb j1 l1 j2 l2 q (by rw [e];exact x1) hq)) hne
 have tj1:(C.bd (kid S b j1)).tip=x:=by rw [tC _ (F.kout hb l1 l2 n12)];exact hB.tip
 have within:∀ c j,j < cnt S b→¬ (c∈S.ids∧∀ q∈pl S c,q∈pl S b)→¬ (c∈S.ids∧∀ q∈pl S c,q∈pl S (kid S b j)):=fun c j hj h z=>h ⟨z.1,fun q hq=>F.ksub hb hj (z.2 q hq)⟩
 refine ⟨sT,fun c h=>?_,fun c hc1 e=>?_,fun q hq=>?_,?_,?_,?_,fun o ho=>?_,fun o hodd ho=>?_⟩
 ·rw [tT,tC c (within c j2 l2 h),tB c (within c j1 l1 h)];exact L.tipo c h
 ·have oC:=hC.one fB fC c (by rw [idB];exact hc1) (by rw [sB.inn];exact e)
  have oB:=hB.one FA fB c (by rw [idA];exact hc1) (by rw [L.stat.inn];exact e)
  rw [tT,oC,oB];exact L.one c hc1 e
 ·rw [mT q (fun e=>hq (by rw [e];exact ix)) (fun e=>hq (by rw [e];exact iy)),mC q (fun z=>hq (F.ksub hb l2 z)),mB q (fun z=>hq (F.ksub hb l1 z))];exact L.mto q hq
 ·rw [mT p px py,mC p (fun z=>ni2 (F.dis b hb i hi j2 l2 p hp z)),mB p (fun z=>ni1 (F.dis b hb i hi j1 l1 p hp z))];exact L.mtp
 ·rw [tT,tC b (F.bout hb l2),tB b (F.bout hb l1)];exact L.t0
 ·rw [tT,tC _ (F.kout hb hi l2 ni2),tB _ (F.kout hb hi l1 ni1)];exact L.ti
 ·by_cases h1:o≤2*t
  ·exact amA o h1
  ·by_cases h2:o=2*t+1
   ·rw [h2,hj1];exact am1
   ·rw [show o=2*t+2 by omega,hj2];exact am2
 ·by_cases h1:o < 2*t
  ·obtain ⟨m1,m2,t1,t2⟩:=L.par o hodd h1
   have hj:=Nat.mod_lt (i+o) hc
   obtain ⟨q1,q2⟩:=F.jin b hb _ hj
   have q2':(jnt S b ((i+o) % cnt S b)).2∈pl S (kid S b ((i+(o+1)) % cnt S b)):=by
    have e:((i+o) % cnt S b+1) % cnt S b=(i+(o+1)) % cnt S b:=by rw [Nat.mod_add_mod];rfl
    rwa [e] at q2
   rw [kmt o (by omega) _ q1,kmt (o+1) (by omega) _ q2',tT,tT,ktip o (by omega),show (i+o+1)=i+(o+1) from rfl,ktip (o+1) (by omega)]
   exact ⟨m1,m2,t1,t2⟩
  ·have h2:o=2*t+1:=by omega
   subst h2
   rw [hj1,show i+(2*t+1)+1=i+(2*t+2) from rfl,hj2,hx,hy]
   exact ⟨mTx,mTy,tj1,hC.tip⟩
theorem tipS_fo {b p:Nat} (F:Fo S) (hr:(S.bd b).inn ≠ []):Fo (tipS S b p):=(tipS_stat S b p).fo F fun c _ e=>tipS_ne fun z=>hr (by rw [←z];exact e)
theorem LdL.start {b i p:Nat}{A:St} (F:Fo S) (hb:b∈S.ids) (hi:i < cnt S b) (hA:Lead (tipS S b p) (kid S b i) p A) (fA:Fo A):LdL S b i p 0 A:=by
 have hr:=F.ring hi
 have F1:=tipS_fo (p:=p) F hr
 have st:=tipS_stat S b p
 have sA:=st.trans hA.stat
 have w1:∀ c,¬ (c∈S.ids∧∀ q∈pl S c,q∈pl S (kid S b i))→(A.bd c).tip=((tipS S b p).bd c).tip:=fun c h=>hA.tipo c fun z=>h ⟨by rw [←st.ids];exact z.1,fun q hq=>by have:=z.2 q (by rw [st.pl];exact hq);rwa [st.pl] at this⟩
 have nb:∀ c,¬ (c∈S.ids∧∀ q∈pl S c,q∈pl S b)→c≠b:=fun c h e=>h ⟨by rw [e];exact hb,fun q hq=>by rw [e] at hq;exact hq⟩
 refine ⟨sA,fun c h=>?_,fun c hc e=>?_,fun q hq=>?_,?_,?_,hA.tip,fun o ho=>?_,fun o ho hlt=>absurd hlt (by omega)⟩
 ·rw [w1 c (fun z=>h ⟨z.1,fun q hq=>F.ksub hb hi (z.2 q hq)⟩)];exact tipS_ne (nb c h)
 ·rw [hA.one F1 fA c (by rw [st.ids];exact hc) (by rw [st.inn];exact e)];exact tipS_ne fun z=>hr (by rw [←z];exact e)
 ·exact hA.mto q (by rw [st.pl];exact fun z=>hq (F.ksub hb hi z))
 ·exact hA.mtp
 ·rw [w1 b (F.bout hb hi)];exact tipS_tip S b p
 ·have:o=0:=by omega
  rw [this,Nat.add_zero,Nat.mod_eq_of_lt hi];exact hA.am
theorem LdL.done {b i p t:Nat}{A:St} (F:Fo S) (hb:b∈S.ids) (hi:i < cnt S b) (hp:p∈pl S (kid S b i)) (L:LdL S b i p t A) (ht:2*t+1=cnt S b):Lead S b p A:=by
 refine ⟨L.stat,L.tipo,L.mto,L.mtp,L.t0,ring_am F hb hi L.stat hp L.t0 L.ti (fun j hj=>?_) fun o ho hlt=>L.par o ho (by omega)⟩
 obtain ⟨o,ho,e⟩:=off_ex hi hj
 rw [←e]
 exact L.am o (by omega)
theorem Lead.single {b p:Nat} (F:Fo S) (hb:b∈S.ids) (hr:(S.bd b).inn = []) (hp:p∈pl S b):Lead S b p (tipS S b p):=by
 obtain ⟨p1,e1,e2⟩:=F.one b hb hr
 rw [e1] at hp
 have ep:=List.mem_singleton.mp hp
 refine ⟨tipS_stat S b p,fun c h=>tipS_ne fun e=>h ⟨by rw [e];exact hb,fun q hq=>by rw [e] at hq;exact hq⟩,fun q _=>rfl,rfl,tipS_tip S b p,fun c hc sub hr'=>?_⟩
 rw [(tipS_stat S b p).ids] at hc
 have e:c=b:=F.same c hc b hb fun q=>by
  constructor
  ·intro hq;have:=sub q (by rw [(tipS_stat S b p).pl];exact hq);rwa [(tipS_stat S b p).pl] at this
  ·intro hq
   obtain ⟨y,hy⟩:=List.exists_mem_of_ne_nil _ (F.ne c hc)
   have hy':=sub y (by rw [(tipS_stat S b p).pl];exact hy)
   rw [(tipS_stat S b p).pl,e1] at hy'
   rw [e1] at hq
   rw [List.mem_singleton.mp hq,←List.mem_singleton.mp hy'];exact hy
 rw [e,(tipS_stat S b p).inn] at hr'
 exact absurd hr hr'
end
end Bl
namespace Bl
theorem sumc {α:Type}{f g:α→Int}:∀ {l:List α},(∀ x∈l,f x=g x)→(l.map f).sum=(l.map g).sum
 | [],_=>rfl
 | a::l,h=>by rw [List.map_cons,List.map_cons,List.sum_cons,List.sum_cons,h a (List.mem_cons_self ..),sumc fun x hx=>h x (List.mem_cons_of_mem _ hx)]
theorem suma {α:Type} (f g:α→Int):∀ l:List α,(l.map fun x=>f x+g x).sum=(l.map f).sum+(l.map g).sum
 | []=>rfl
 | a::l=>by rw [List.map_cons,List.map_cons,List.map_cons,List.sum_cons,List.sum_cons,List.sum_cons,suma f g l];omega
theorem sumz {α:Type}:∀ l:List α,(l.map fun _=>(0:Int)).sum=0
 | []=>rfl
 | a::l=>by rw [List.map_cons,List.sum_cons,sumz l];rfl
theorem sum1 {α:Type} [DecidableEq α] {x:Int}{a:α}:∀ {l:List α},l.Nodup→a∈l→(l.map fun b=>if b=a then x else 0).sum=x
 | [],_,h=>by cases h
 | c::l,nd,h=>by
  obtain ⟨h1,h2⟩:=List.nodup_cons.mp nd
  rw [List.map_cons,List.sum_cons]
  rcases List.mem_cons.mp h with e | e
  ·subst e
   rw [if_pos rfl]
   have:(l.map fun b=>if b=a then x else 0).sum=(l.map fun _=>(0:Int)).sum:=sumc fun b hb=>by
    rw [if_neg (fun (z:b=a)=>h1 (by rw [←z];exact hb))]
   rw [this,sumz];omega
  ·rw [if_neg (fun (z:c=a)=>h1 (by rw [z];exact e)),sum1 h2 e];omega
theorem sumpar {α:Type}{f g:α→Int}:∀ {l:List α},(∀ x∈l,f x % 2=g x % 2)→(l.map f).sum % 2=(l.map g).sum % 2
 | [],_=>rfl
 | a::l,h=>by
  rw [List.map_cons,List.map_cons,List.sum_cons,List.sum_cons]
  have h1:=h a (List.mem_cons_self ..)
  have h2:=sumpar fun x hx=>h x (List.mem_cons_of_mem _ hx)
  omega
def xin (S:St) (b u v:Nat):Prop:=(u∈pl S b∧v ∉ pl S b)∨(u ∉ pl S b∧v∈pl S b)
instance (S:St) (b u v:Nat):Decidable (xin S b u v):=by unfold xin;exact inferInstance
def cut (S:St) (u v:Nat):Int:=(S.ids.map fun b=>if xin S b u v then (S.bd b).pr else 0).sum
def tot (S:St) (p:Nat):Int:=(S.ids.map fun b=>if p∈pl S b then (S.bd b).pr else 0).sum
def tight (S:St) (x y:Nat):Prop:=∃ t,((x,y,t)∈S.lk∨(y,x,t)∈S.lk)∧cut S x y=t
theorem cut_comm (S:St) (u v:Nat):cut S u v=cut S v u:=sumc fun b _=>by
 have:xin S b u v↔xin S b v u:=by unfold xin;constructor <;> (rintro (h | h);exact .inr ⟨h.2,h.1⟩;exact .inl ⟨h.2,h.1⟩)
 by_cases h:xin S b u v
 ·rw [if_pos h,if_pos (this.mp h)]
 ·rw [if_neg h,if_neg (fun z=>h (this.mpr z))]
theorem tight_comm {S:St}{u v:Nat} (h:tight S u v):tight S v u:=let ⟨t,a,b⟩:=h;⟨t,a.symm,by rw [cut_comm];exact b⟩
structure Lk (S:St):Prop where
 lt:∀ u v t,(u,v,t)∈S.lk→u < v∧v < S.n
 even:∀ u v t,(u,v,t)∈S.lk→t % 2=0
structure Du (S:St):Prop where
 sm:∀ p,p < S.n→S.sm p=tot S p
 rg:∀ b∈S.ids,(S.bd b).inn ≠ []→0≤(S.bd b).pr
 fe:∀ u v t,(u,v,t)∈S.lk→cut S u v≤t
 jt:∀ b∈S.ids,∀ i < cnt S b,tight S (jnt S b i).1 (jnt S b i).2
section
variable {S:St}
theorem cut_tot (F:Fo S) {u v:Nat} (h:S.out u≠S.out v):cut S u v=tot S u+tot S v:=by
 unfold cut tot
 rw [←suma]
 refine sumc fun b hb=>?_
 have nb:¬ (u∈pl S b∧v∈pl S b):=fun z=>h (F.top b hb u z.1 v z.2)
 by_cases hu:u∈pl S b
 ·have hv:v ∉ pl S b:=fun z=>nb ⟨hu,z⟩
  rw [if_pos (.inl ⟨hu,hv⟩),if_pos hu,if_neg hv];omega
 ·by_cases hv:v∈pl S b
  ·rw [if_pos (.inr ⟨hu,hv⟩),if_neg hu,if_pos hv];omega
  ·rw [if_neg (fun z=>z.elim (fun y=>hu y.1) (fun y=>hv y.2)),if_neg hu,if_neg hv];omega
theorem cut_par (u v:Nat):cut S u v % 2=(tot S u+tot S v) % 2:=by
 unfold cut tot
 rw [←suma]
 refine sumpar fun b _=>?_
 by_cases hu:u∈pl S b
 ·by_cases hv:v∈pl S b
  ·rw [if_neg (fun z=>z.elim (fun y=>y.2 hv) (fun y=>y.1 hu)),if_pos hu,if_pos hv];omega
  ·rw [if_pos (.inl ⟨hu,hv⟩),if_pos hu,if_neg hv];omega
 ·by_cases hv:v∈pl S b
  ·rw [if_pos (.inr ⟨hu,hv⟩),if_neg hu,if_pos hv];omega
  ·rw [if_neg (fun z=>z.elim (fun y=>hu y.1) (fun y=>hv y.2)),if_neg hu,if_neg hv];omega
theorem tight_par (L:Lk S) (D:Du S) {x y:Nat} (h:tight S x y):x < S.n∧y < S.n∧S.sm x % 2=S.sm y % 2:=by
 obtain ⟨t,hl,e⟩:=h
 have hxy:x < S.n∧y < S.n∧t % 2=0:=by
  rcases hl with z | z
  ·have:=L.lt _ _ _ z;exact ⟨by omega,by omega,L.even _ _ _ z⟩
  ·have:=L.lt _ _ _ z;exact ⟨by omega,by omega,L.even _ _ _ z⟩
 refine ⟨hxy.1,hxy.2.1,?_⟩
 have:=cut_par (S:=S) x y
 rw [D.sm x hxy.1,D.sm y hxy.2.1]
 omega
theorem body_par (F:Fo S) (L:Lk S) (D:Du S):∀ (k b:Nat),(pl S b).length≤k→b∈S.ids→∀ p∈pl S b,∀ q∈pl S b,S.sm p % 2=S.sm q % 2
 | 0,b,hl,hb,_,_,_,_=>absurd (List.length_eq_zero_iff.mp (Nat.le_zero.mp hl)) (F.ne b hb)
 | k+1,b,hl,hb,p,hp,q,hq=>by
  by_cases hr:(S.bd b).inn = []
  ·obtain ⟨y,e1,_⟩:=F.one b hb hr
   rw [e1] at hp hq
   rw [List.mem_singleton.mp hp,List.mem_singleton.mp hq]
  ·obtain ⟨c3,_,_⟩:=F.odd b hb hr
   have hc:0 < cnt S b:=by omega
   have ind:=fun j (hj:j < cnt S b)=>body_par F L D k (kid S b j) (by have:=F.kless hb hj;omega) (F.kin b hb j hj)
   obtain ⟨i,hi,hpi⟩:=(F.mem b hb hr p).mp hp
   obtain ⟨j,hj,hqj⟩:=(F.mem b hb hr q).mp hq
   obtain ⟨o,ho,eo⟩:=off_ex hi hj
   have walk:∀ o,∀ r∈pl S (kid S b ((i+o) % cnt S b)),S.sm p % 2=S.sm r % 2:=fun o=>by
    induction o with
    | zero=>intro r hr';rw [Nat.add_zero,Nat.mod_eq_of_lt hi] at hr';exact ind i hi p hpi r hr'
    | succ o ih =>
     intro r hr'
     have l1:=Nat.mod_lt (i+o) hc
     obtain ⟨j1,j2⟩:=F.jin b hb _ l1
     have e:((i+o) % cnt S b+1) % cnt S b=(i+(o+1)) % cnt S b:=by rw [Nat.mod_add_mod];rfl
     rw [e] at j2
     rw [ih _ j1,(tight_par L D (D.jt b hb _ l1)).2.2]
     exact ind _ (Nat.mod_lt _ hc) _ j2 r hr'
   exact walk o q (by rw [eo];exact hqj)
structure Ma (S:St):Prop where
 am:∀ p,p < S.n→Am S (S.out p)
 ma:∀ p,p < S.n→∀ q,S.mt (S.bd (S.out p)).tip=some q→q < S.n∧S.out q≠S.out p∧(S.bd (S.out q)).tip=q∧S.mt q=some (S.bd (S.out p)).tip∧tight S (S.bd (S.out p)).tip q
theorem Fo.tipin (F:Fo S) (M:Ma S) {p:Nat} (hp:p < S.n):(S.bd (S.out p)).tip∈pl S (S.out p):=(inside F _ _ (Nat.le_refl _) (F.out p hp).1 (M.am p hp)).1
theorem Fo.tipout (F:Fo S) (M:Ma S) {p:Nat} (hp:p < S.n):(S.bd (S.out p)).tip < S.n∧S.out (S.bd (S.out p)).tip=S.out p:=by
 have h:=F.tipin M hp
 exact ⟨F.lt _ (F.out p hp).1 _ h,F.top _ (F.out p hp).1 _ h _ (F.out p hp).2⟩
theorem mate_ok (F:Fo S) (D:Du S) (M:Ma S) {p q:Nat} (hp:p < S.n) (h:S.mt p=some q):q < S.n∧q≠p∧S.mt q=some p∧tight S p q:=by
 by_cases e:p=(S.bd (S.out p)).tip
 ·have h':=h
  rw [e] at h'
  obtain ⟨m1,m2,m3,m4,m5⟩:=M.ma p hp q h'
  exact ⟨m1,fun z=>m2 (by rw [z]),by rw [m4,←e],by rw [e];exact m5⟩
 ·obtain ⟨r,r1,r2,m1,m2,c,hc,sub,i,hi,hj⟩:=(inside F _ _ (Nat.le_refl _) (F.out p hp).1 (M.am p hp)).2 p (F.out p hp).2 e
  rw [h] at m1
  cases m1
  have tg:tight S p q:=by
   have t:=D.jt c hc i hi
   rcases hj with z | z
   ·rw [z] at t;exact t
   ·rw [z] at t;exact tight_comm t
  refine ⟨F.lt _ (F.out p hp).1 _ r1,fun z=>?_,m2,tg⟩
  obtain ⟨j1,j2⟩:=F.jin c hc i hi
  obtain ⟨c3,_,_⟩:=F.odd c hc (F.ring hi)
  have hne:i≠(i+1) % cnt S c:=fun e=>by
   have:=off_inj (c:=cnt S c) (i:=i) (o:=0) (o':=1) (by omega) (by omega) (by rw [Nat.add_zero,Nat.mod_eq_of_lt hi];exact e)
   omega
  rcases hj with y | y <;> rw [y] at j1 j2
  ·exact hne (F.dis c hc i hi _ (Nat.mod_lt _ (by omega)) p j1 (by rw [←z];exact j2))
  ·exact hne (F.dis c hc i hi _ (Nat.mod_lt _ (by omega)) q j1 (by rw [z];exact j2))
theorem alone_tip (F:Fo S) (M:Ma S) {p:Nat} (hp:p < S.n) (h:S.mt p=none):(S.bd (S.out p)).tip=p:=by
 by_cases e:p=(S.bd (S.out p)).tip
 ·exact e.symm
 ·obtain ⟨r,_,_,m1,_⟩:=(inside F _ _ (Nat.le_refl _) (F.out p hp).1 (M.am p hp)).2 p (F.out p hp).2 e
  rw [h] at m1;cases m1
end
end Bl
namespace Bl
structure Sh (S S':St):Prop where
 n:S'.n=S.n
 lk:S'.lk=S.lk
 ids:S'.ids=S.ids
 out:S'.out=S.out
 mt:S'.mt=S.mt
 pl:∀ b,Bl.pl S' b=Bl.pl S b
 inn:∀ b,(S'.bd b).inn=(S.bd b).inn
 jt:∀ b,(S'.bd b).jt=(S.bd b).jt
 tip:∀ b,(S'.bd b).tip=(S.bd b).tip
section
variable {S S':St}
theorem Sh.cnt (h:Sh S S') (b:Nat):cnt S' b=cnt S b:=by unfold Bl.cnt;rw [h.inn]
theorem Sh.kid (h:Sh S S') (b i:Nat):kid S' b i=kid S b i:=by unfold Bl.kid;rw [h.inn]
theorem Sh.jnt (h:Sh S S') (b i:Nat):jnt S' b i=jnt S b i:=by unfold Bl.jnt;rw [h.jt]
theorem Sh.fo (h:Sh S S') (F:Fo S):Fo S':=by
 refine ⟨?_,?_,?_,?_,?_,?_,?_,?_,?_,?_,?_,?_,?_,?_⟩
 ·rw [h.ids];exact F.nd
 ·rw [h.ids,h.n];intro b hb;rw [h.pl];exact F.lt b hb
 ·rw [h.ids];intro b hb;rw [h.pl];exact F.ne b hb
 ·rw [h.ids];intro b hb;rw [h.pl];exact F.pnd b hb
 ·rw [h.ids,h.n,h.out];intro p hp;rw [h.pl];exact F.out p hp
 ·rw [h.ids,h.out];intro b hb;rw [h.pl];exact F.top b hb
 ·rw [h.ids];intro b hb e
  rw [h.inn] at e
  obtain ⟨p,e1,e2⟩:=F.one b hb e
  exact ⟨p,(h.pl b).trans e1,(h.tip b).trans e2⟩
 ·rw [h.ids];intro b hb;rw [h.inn,h.cnt,h.jt];exact F.odd b hb
 ·rw [h.ids];intro b hb;rw [h.cnt];intro i hi;rw [h.kid];exact F.kin b hb i hi
 ·rw [h.ids];intro b hb e p
  rw [h.inn] at e
  rw [h.pl,h.cnt,F.mem b hb e p]
  constructor
  ·rintro ⟨i,hi,z⟩;exact ⟨i,hi,by rw [h.pl,h.kid];exact z⟩
  ·rintro ⟨i,hi,z⟩;exact ⟨i,hi,by rw [h.pl,h.kid] at z;exact z⟩
 ·rw [h.ids];intro b hb;rw [h.cnt];intro i hi j hj p
  rw [h.pl,h.pl,h.kid,h.kid];exact F.dis b hb i hi j hj p
 ·rw [h.ids];intro b hb;rw [h.cnt];intro i hi
  rw [h.jnt,h.pl,h.pl,h.kid,h.kid];exact F.jin b hb i hi
 ·rw [h.ids];intro b hb e c hc p
  rw [h.inn] at e
  rw [h.pl,h.pl,h.cnt];intro hp hq
  rcases F.low b hb e c hc p hp hq with z | ⟨i,hi,z⟩
  ·exact .inl z
  ·exact .inr ⟨i,hi,by rw [h.pl,h.kid];exact z⟩
 ·rw [h.ids];intro b hb c hc e
  exact F.same b hb c hc fun p=>by have:=e p;rwa [h.pl,h.pl] at this
theorem Sh.am (h:Sh S S') {c:Nat} (a:Am S c):Am S' c:=by
 intro d hd sub hr
 rw [h.ids] at hd
 rw [h.inn] at hr
 obtain ⟨i,M⟩:=a d hd (fun p hp=>by have:=sub p (by rw [h.pl];exact hp);rwa [h.pl] at this) hr
 refine ⟨i,⟨by rw [h.cnt];exact M.lt,by rw [h.kid,h.tip,h.tip];exact M.tip,by rw [h.tip,h.kid,h.pl];exact M.tin,fun o ho hlt=>?_⟩⟩
 rw [h.cnt] at hlt
 rw [h.cnt,h.jnt,h.kid,h.kid,h.tip,h.tip,h.mt]
 exact M.par o ho hlt
end
structure Tr (S:St) (rk:Nat→Nat):Prop where
 mks:∀ p,p < S.n→(S.bd (S.out p)).mark=1∨(S.bd (S.out p)).mark=0∨(S.bd (S.out p)).mark = -1
 root:∀ p,p < S.n→S.mt (S.bd (S.out p)).tip=none→(S.bd (S.out p)).mark=1
 free:∀ p,p < S.n→(S.bd (S.out p)).mark=0→∀ q,S.mt (S.bd (S.out p)).tip=some q→(S.bd (S.out q)).mark=0
 odd:∀ p,p < S.n→(S.bd (S.out p)).mark = -1→∃ a e,(S.bd (S.out p)).cm=some (a,e)∧a < S.n∧e < S.n∧S.out e=S.out p∧(S.bd (S.out a)).mark=1∧tight S a e∧rk (S.out a) < rk (S.out p)
 oddm:∀ p,p < S.n→(S.bd (S.out p)).mark = -1→∀ q,S.mt (S.bd (S.out p)).tip=some q→(S.bd (S.out q)).mark=1∧rk (S.out p) < rk (S.out q)
 even:∀ p,p < S.n→(S.bd (S.out p)).mark=1→∀ q,S.mt (S.bd (S.out p)).tip=some q→(S.bd (S.out q)).mark = -1
 par:∀ p q,p < S.n→q < S.n→(S.bd (S.out p)).mark≠0→(S.bd (S.out q)).mark≠0→S.sm p % 2=S.sm q % 2
 al:∀ p q,p < S.n→q < S.n→S.mt p=none→S.mt q=none→S.sm p=S.sm q
structure Ok (S:St) (rk:Nat→Nat):Prop where
 fo:Fo S
 lk:Lk S
 du:Du S
 ma:Ma S
 tr:Tr S rk
def om (S:St) (b:Nat):Prop:=b∈(List.range S.n).map S.out
instance (S:St) (b:Nat):Decidable (om S b):=by unfold om;exact inferInstance
theorem om_iff {S:St}{b:Nat}:om S b↔∃ p,p < S.n∧S.out p=b:=by
 unfold om
 rw [List.mem_map]
 constructor
 ·rintro ⟨p,hp,e⟩;exact ⟨p,List.mem_range.mp hp,e⟩
 ·rintro ⟨p,hp,e⟩;exact ⟨p,List.mem_range.mpr hp,e⟩
def liftS (S:St) (d:Int):St:={ S with bd:=fun b=>if om S b then { S.bd b with pr:=(S.bd b).pr+(S.bd b).mark*d } else S.bd b,sm:=fun p=>S.sm p+(S.bd (S.out p)).mark*d }
section
variable {S:St}{rk:Nat→Nat}{d:Int}
theorem lift_bd (b:Nat):(liftS S d).bd b=if om S b then { S.bd b with pr:=(S.bd b).pr+(S.bd b).mark*d } else S.bd b:=rfl
theorem lift_sh:Sh S (liftS S d):=by
 refine ⟨rfl,rfl,rfl,rfl,rfl,fun b=>?_,fun b=>?_,fun b=>?_,fun b=>?_⟩
 ·show ((liftS S d).bd b).pl=_;rw [lift_bd];split <;> rfl
 ·rw [lift_bd];split <;> rfl
 ·rw [lift_bd];split <;> rfl
 ·rw [lift_bd];split <;> rfl
theorem lift_mark (b:Nat):((liftS S d).bd b).mark=(S.bd b).mark:=by rw [lift_bd];split <;> rfl
theorem lift_cm (b:Nat):((liftS S d).bd b).cm=(S.bd b).cm:=by rw [lift_bd];split <;> rfl
theorem lift_pr (b:Nat):((liftS S d).bd b).pr=if om S b then (S.bd b).pr+(S.bd b).mark*d else (S.bd b).pr:=by rw [lift_bd];split <;> rfl
theorem Fo.omin (F:Fo S) {b u:Nat} (h:om S b) (hu:u∈pl S b):S.out u=b:=by
 obtain ⟨r,hr,e⟩:=om_iff.mp h
 have:=F.top _ (F.out r hr).1 u (by rw [e];exact hu) r (F.out r hr).2
 rw [this,e]
theorem lift_tot (F:Fo S) {p:Nat} (hp:p < S.n):tot (liftS S d) p=tot S p+(S.bd (S.out p)).mark*d:=by
 unfold tot
 have e:((liftS S d).ids.map fun b=>if p∈pl (liftS S d) b then ((liftS S d).bd b).pr else 0).sum=(S.ids.map fun b=>(if p∈pl S b then (S.bd b).pr else 0)+(if b=S.out p then (S.bd (S.out p)).mark*d else 0)).sum:=sumc fun b hb=>by
  rw [lift_sh.pl,lift_pr]
  by_cases hm:p∈pl S b
  ·rw [if_pos hm,if_pos hm]
   by_cases ho:om S b
   ·have:=F.omin ho hm
    rw [if_pos ho,if_pos this.symm,this]
   ·rw [if_neg ho,if_neg (fun z=>ho (om_iff.mpr ⟨p,hp,z.symm⟩))];omega
  ·rw [if_neg hm,if_neg hm,if_neg (fun z=>hm (by rw [z];exact (F.out p hp).2))];rfl
 rw [e,suma,sum1 F.nd (F.out p hp).1]
theorem lift_cut_same (F:Fo S) {u v:Nat} (hu:u < S.n) (hv:v < S.n) (h:S.out u=S.out v):cut (liftS S d) u v=cut S u v:=by
 unfold cut
 refine sumc fun b hb=>?_
 have ex:xin (liftS S d) b u v↔xin S b u v:=by unfold xin;rw [lift_sh.pl]
 by_cases hx:xin S b u v
 ·rw [if_pos (ex.mpr hx),if_pos hx,lift_pr,if_neg]
  intro ho
  rcases hx with ⟨z1,z2⟩ | ⟨z1,z2⟩
  ·have:=F.omin ho z1
   exact z2 (by rw [←this,h];exact (F.out v hv).2)
  ·have:=F.omin ho z2
   exact z1 (by rw [←this,←h];exact (F.out u hu).2)
 ·rw [if_neg (fun z=>hx (ex.mp z)),if_neg hx]
theorem lift_cut (F:Fo S) (D:Du S) {u v:Nat} (hu:u < S.n) (hv:v < S.n) (h:S.out u≠S.out v):cut (liftS S d) u v=S.sm u+S.sm v+((S.bd (S.out u)).mark+(S.bd (S.out v)).mark)*d:=by
 rw [cut_tot (lift_sh.fo F) (by rw [lift_sh.out];exact h),lift_tot F hu,lift_tot F hv,←D.sm u hu,←D.sm v hv,Int.add_mul];omega
theorem lift_tight (F:Fo S) (D:Du S) (L:Lk S) {u v:Nat} (ht:tight S u v) (h:S.out u=S.out v∨(S.bd (S.out u)).mark+(S.bd (S.out v)).mark=0):tight (liftS S d) u v:=by
 obtain ⟨h1,h2,_⟩:=tight_par L D ht
 obtain ⟨t,hl,e⟩:=ht
 refine ⟨t,hl,?_⟩
 by_cases ho:S.out u=S.out v
 ·rw [lift_cut_same F h1 h2 ho];exact e
 ·have hz:(S.bd (S.out u)).mark+(S.bd (S.out v)).mark=0:=h.resolve_left ho
  rw [lift_cut F D h1 h2 ho,hz,Int.zero_mul,Int.add_zero,←e,cut_tot F ho,D.sm u h1,D.sm v h2]
theorem lift_ok (O:Ok S rk) (hd:0≤d) (he:∀ u v t,(u,v,t)∈S.lk→S.out u≠S.out v→((S.bd (S.out u)).mark+(S.bd (S.out v)).mark)*d≤t-S.sm u-S.sm v)
  (hr:∀ b,om S b→(S.bd b).inn ≠ []→(S.bd b).mark = -1→d≤(S.bd b).pr):Ok (liftS S d) rk:=by
 obtain ⟨F,L,D,M,T⟩:=O
 have sh:=lift_sh (S:=S) (d:=d)
 refine ⟨sh.fo F,⟨L.lt,L.even⟩,⟨fun p hp=>?_,fun b hb e=>?_,fun u v t h=>?_,fun b hb i hi=>?_⟩,⟨fun p hp=>sh.am (M.am p hp),fun p hp q h=>?_⟩,⟨fun p hp=>?_,fun p hp h=>?_,fun p hp h q hq=>?_,fun p hp h=>?_,fun p hp h q hq=>?_,fun p hp h q hq=>?_,fun p q hp hq h1 h2=>?_,fun p q hp hq h1 h2=>?_⟩⟩
 ·show S.sm p+_=_
  rw [lift_tot F hp,D.sm p hp]
 ·rw [sh.inn] at e
  have h0:=D.rg b hb e
  rw [lift_pr]
  by_cases ho:om S b
  ·rw [if_pos ho]
   obtain ⟨p,hp,ep⟩:=om_iff.mp ho
   rcases T.mks p hp with z | z | z <;> rw [ep] at z <;> rw [z]
   ·omega
   ·omega
   ·have:=hr b ho e z;omega
  ·rw [if_neg ho];exact h0
 ·have h:(u,v,t)∈S.lk:=h
  have:=L.lt u v t h
  by_cases ho:S.out u=S.out v
  ·rw [lift_cut_same F (by omega) (by omega) ho];exact D.fe u v t h
  ·rw [lift_cut F D (by omega) (by omega) ho]
   have:=he u v t h ho
   omega
 ·rw [sh.cnt] at hi
  rw [sh.jnt]
  obtain ⟨j1,j2⟩:=F.jin b hb i hi
  refine lift_tight F D L (D.jt b hb i hi) (.inl (F.top b hb _ (F.ksub hb hi j1) _ (F.ksub hb (Nat.mod_lt _ (by omega)) j2)))
 ·rw [sh.out,sh.tip,sh.mt] at h
  obtain ⟨m1,m2,m3,m4,m5⟩:=M.ma p hp q h
  rw [sh.n,sh.out,sh.tip,sh.tip,sh.mt]
  obtain ⟨tl,to⟩:=F.tipout M hp
  refine ⟨m1,m2,m3,m4,lift_tight F D L m5 (.inr ?_)⟩
  rw [to]
  rcases T.mks p hp with z | z | z
  ·rw [z,T.even p hp z q h];rfl
  ·rw [z,T.free p hp z q h];rfl
  ·rw [z,(T.oddm p hp z q h).1];rfl
 ·rw [sh.out,lift_mark];exact T.mks p hp
 ·rw [sh.out,sh.tip,sh.mt] at h;rw [sh.out,lift_mark];exact T.root p hp h
 ·rw [sh.out,lift_mark] at h;rw [sh.out,sh.tip,sh.mt] at hq;rw [sh.out,lift_mark];exact T.free p hp h q hq
 ·rw [sh.out,lift_mark] at h
  obtain ⟨a,e,h1,h2,h3,h4,h5,h6,h7⟩:=T.odd p hp h
  refine ⟨a,e,by rw [sh.out,lift_cm];exact h1,h2,h3,h4,by rw [sh.out,lift_mark];exact h5,lift_tight F D L h6 (.inr ?_),h7⟩
  rw [h5,h4,h];rfl
 ·rw [sh.out,lift_mark] at h;rw [sh.out,sh.tip,sh.mt] at hq;rw [sh.out,lift_mark];exact T.oddm p hp h q hq
 ·rw [sh.out,lift_mark] at h;rw [sh.out,sh.tip,sh.mt] at hq;rw [sh.out,lift_mark];exact T.even p hp h q hq
 ·rw [sh.out,lift_mark] at h1 h2
  have:=T.par p q hp hq h1 h2
  show (S.sm p+(S.bd (S.out p)).mark*d) % 2=(S.sm q+(S.bd (S.out q)).mark*d) % 2
  rcases T.mks p hp with z | z | z <;> rcases T.mks q hq with y | y | y <;> rw [z,y] <;> omega
 ·rw [sh.mt] at h1 h2
  have:=T.al p q hp hq h1 h2
  have e1:=alone_tip F M hp h1
  have e2:=alone_tip F M hq h2
  show S.sm p+(S.bd (S.out p)).mark*d=S.sm q+(S.bd (S.out q)).mark*d
  rw [T.root p hp (by rw [e1];exact h1),T.root q hq (by rw [e2];exact h2),this]
end
end Bl
namespace Bl
structure Pre (S:St):Prop where
 fo:Fo S
 lk:Lk S
 du:Du S
 ma:Ma S
 al:∀ p q,p < S.n→q < S.n→S.mt p=none→S.mt q=none→S.sm p=S.sm q
def beginS (S:St):St:={ S with bd:=fun b=>if om S b then { S.bd b with mark:=if S.mt (S.bd b).tip=none then 1 else 0,cm:=none } else S.bd b }
section
variable {S S':St}
theorem Sh.cut (h:Sh S S') (hp:∀ b,(S'.bd b).pr=(S.bd b).pr) (u v:Nat):cut S' u v=cut S u v:=by
 unfold Bl.cut
 rw [h.ids]
 refine sumc fun b _=>?_
 have ex:xin S' b u v↔xin S b u v:=by unfold xin;rw [h.pl]
 by_cases hx:xin S b u v
 ·rw [if_pos (ex.mpr hx),if_pos hx,hp]
 ·rw [if_neg (fun z=>hx (ex.mp z)),if_neg hx]
theorem Sh.tot (h:Sh S S') (hp:∀ b,(S'.bd b).pr=(S.bd b).pr) (u:Nat):tot S' u=tot S u:=by
 unfold Bl.tot
 rw [h.ids]
 exact sumc fun b _=>by rw [h.pl,hp]
theorem Sh.tight (h:Sh S S') (hp:∀ b,(S'.bd b).pr=(S.bd b).pr) {u v:Nat} (t:tight S u v):tight S' u v:=by
 obtain ⟨x,hl,e⟩:=t
 exact ⟨x,by rw [h.lk];exact hl,by rw [h.cut hp];exact e⟩
theorem Sh.pre (h:Sh S S') (hp:∀ b,(S'.bd b).pr=(S.bd b).pr) (hs:S'.sm=S.sm) (P:Pre S):Pre S':=by
 obtain ⟨F,L,D,M,A⟩:=P
 refine ⟨h.fo F,⟨by rw [h.lk,h.n];exact L.lt,by rw [h.lk];exact L.even⟩,⟨fun p hp'=>?_,fun b hb e=>?_,fun u v t hl=>?_,fun b hb i hi=>?_⟩,⟨fun p hp'=>?_,fun p hp' q hq=>?_⟩,fun p q hp' hq h1 h2=>?_⟩
 ·rw [h.n] at hp';rw [hs,h.tot hp];exact D.sm p hp'
 ·rw [h.ids] at hb;rw [h.inn] at e;rw [hp];exact D.rg b hb e
 ·rw [h.lk] at hl;rw [h.cut hp];exact D.fe u v t hl
 ·rw [h.ids] at hb;rw [h.cnt] at hi;rw [h.jnt];exact h.tight hp (D.jt b hb i hi)
 ·rw [h.n] at hp';rw [h.out];exact h.am (M.am p hp')
 ·rw [h.n] at hp'
  rw [h.out,h.tip,h.mt] at hq
  obtain ⟨m1,m2,m3,m4,m5⟩:=M.ma p hp' q hq
  rw [h.n,h.out,h.tip,h.tip,h.mt]
  exact ⟨m1,m2,m3,m4,h.tight hp m5⟩
 ·rw [h.n] at hp' hq;rw [h.mt] at h1 h2;rw [hs];exact A p q hp' hq h1 h2
end
section
variable {S:St}
theorem Ok.pre {rk:Nat→Nat} (O:Ok S rk):Pre S:=⟨O.fo,O.lk,O.du,O.ma,O.tr.al⟩
theorem begin_bd (b:Nat):(beginS S).bd b=if om S b then { S.bd b with mark:=if S.mt (S.bd b).tip=none then 1 else 0,cm:=none } else S.bd b:=rfl
theorem begin_sh:Sh S (beginS S):=by
 refine ⟨rfl,rfl,rfl,rfl,rfl,fun b=>?_,fun b=>?_,fun b=>?_,fun b=>?_⟩
 ·show ((beginS S).bd b).pl=_;rw [begin_bd];split <;> rfl
 ·rw [begin_bd];split <;> rfl
 ·rw [begin_bd];split <;> rfl
 ·rw [begin_bd];split <;> rfl
theorem begin_pr (b:Nat):((beginS S).bd b).pr=(S.bd b).pr:=by rw [begin_bd];split <;> rfl
theorem begin_mark {p:Nat} (hp:p < S.n):((beginS S).bd (S.out p)).mark=if S.mt (S.bd (S.out p)).tip=none then 1 else 0:=by rw [begin_bd,if_pos (om_iff.mpr ⟨p,hp,rfl⟩)]
theorem begin_ok (P:Pre S):Ok (beginS S) (fun _=>0):=by
 have sh:=begin_sh (S:=S)
 have P':=sh.pre begin_pr rfl P
 have M:=P.ma
 have F:=P.fo
 refine ⟨P'.fo,P'.lk,P'.du,P'.ma,⟨fun p hp=>?_,fun p hp h=>?_,fun p hp h q hq=>?_,fun p hp h=>?_,fun p hp h=>?_,fun p hp h q hq=>?_,fun p q hp hq h1 h2=>?_,P'.al⟩⟩
 ·rw [sh.out,begin_mark (S:=S) hp]
  split
  ·exact .inl rfl
  ·exact .inr (.inl rfl)
 ·rw [sh.out,sh.tip,sh.mt] at h
  rw [sh.out,begin_mark (S:=S) hp,if_pos h]
 ·rw [sh.out,sh.tip,sh.mt] at hq
  obtain ⟨m1,m2,m3,m4,m5⟩:=M.ma p hp q hq
  rw [sh.out,begin_mark (S:=S) m1,m3,if_neg (by rw [m4];exact fun z=>by cases z)]
 ·rw [sh.out,begin_mark (S:=S) hp] at h
  split at h <;> cases h
 ·rw [sh.out,begin_mark (S:=S) hp] at h
  split at h <;> cases h
 ·rw [sh.out,begin_mark (S:=S) hp] at h
  rw [sh.out,sh.tip,sh.mt] at hq
  rw [hq] at h
  cases h
 ·rw [sh.out,begin_mark (S:=S) hp] at h1
  rw [sh.out,begin_mark (S:=S) hq] at h2
  show S.sm p % 2=S.sm q % 2
  have e1:S.mt (S.bd (S.out p)).tip=none:=by
   cases e:S.mt (S.bd (S.out p)).tip with
   | none=>rfl
   | some x=>rw [e] at h1;exact absurd rfl h1
  have e2:S.mt (S.bd (S.out q)).tip=none:=by
   cases e:S.mt (S.bd (S.out q)).tip with
   | none=>rfl
   | some x=>rw [e] at h2;exact absurd rfl h2
  have b1:=body_par F P.lk P.du _ _ (Nat.le_refl _) (F.out p hp).1 p (F.out p hp).2 _ (F.tipin M hp)
  have b2:=body_par F P.lk P.du _ _ (Nat.le_refl _) (F.out q hq).1 q (F.out q hq).2 _ (F.tipin M hq)
  rw [b1,b2,P.al _ _ (F.tipout M hp).1 (F.tipout M hq).1 e1 e2]
def growS (S:St) (u v w:Nat):St:={ S with bd:=fun b=>if b=S.out v then { S.bd b with mark:=-1,cm:=some (u,v) } else if b=S.out w then { S.bd b with mark:=1 } else S.bd b }
variable {rk:Nat→Nat}{u v w:Nat}
theorem grow_bd (b:Nat):(growS S u v w).bd b=if b=S.out v then { S.bd b with mark:=-1,cm:=some (u,v) } else if b=S.out w then { S.bd b with mark:=1 } else S.bd b:=rfl
theorem grow_sh:Sh S (growS S u v w):=by
 refine ⟨rfl,rfl,rfl,rfl,rfl,fun b=>?_,fun b=>?_,fun b=>?_,fun b=>?_⟩
 ·show ((growS S u v w).bd b).pl=_;rw [grow_bd];split;rfl;split <;> rfl
 ·rw [grow_bd];split;rfl;split <;> rfl
 ·rw [grow_bd];split;rfl;split <;> rfl
 ·rw [grow_bd];split;rfl;split <;> rfl
theorem grow_pr (b:Nat):((growS S u v w).bd b).pr=(S.bd b).pr:=by rw [grow_bd];split;rfl;split <;> rfl
theorem grow_mark (b:Nat):((growS S u v w).bd b).mark=if b=S.out v then -1 else if b=S.out w then 1 else (S.bd b).mark:=by rw [grow_bd];split;rfl;split <;> rfl
theorem grow_cm (b:Nat):((growS S u v w).bd b).cm=if b=S.out v then some (u,v) else (S.bd b).cm:=by rw [grow_bd];split;rfl;split <;> rfl
theorem grow_ok (O:Ok S rk) (hu:u < S.n) (hv:v < S.n) (eu:(S.bd (S.out u)).mark=1) (ev:(S.bd (S.out v)).mark=0) (ht:tight S u v) (hw:S.mt (S.bd (S.out v)).tip=some w) :
  Ok (growS S u v w) (fun b=>if b=S.out v then rk (S.out u)+1 else if b=S.out w then rk (S.out u)+2 else rk b):=by
 have sh:=grow_sh (S:=S) (u:=u) (v:=v) (w:=w)
 have P':=sh.pre grow_pr rfl O.pre
 obtain ⟨F,L,D,M,T⟩:=O
 obtain ⟨w1,w2,w3,w4,w5⟩:=M.ma v hv w hw
 have ew:(S.bd (S.out w)).mark=0:=T.free v hv ev w hw
 have nuv:S.out u≠S.out v:=fun e=>by rw [e,ev] at eu;cases eu
 have nuw:S.out u≠S.out w:=fun e=>by rw [e,ew] at eu;cases eu
 have pv:∀ p,p < S.n→S.out p=S.out v→S.sm p % 2=S.sm u % 2:=fun p hp e=>by
  have:=body_par F L D _ _ (Nat.le_refl _) (F.out v hv).1 p (by rw [←e];exact (F.out p hp).2) v (F.out v hv).2
  rw [this,(tight_par L D ht).2.2]
 have pw:∀ p,p < S.n→S.out p=S.out w→S.sm p % 2=S.sm u % 2:=fun p hp e=>by
  have h1:=body_par F L D _ _ (Nat.le_refl _) (F.out w w1).1 p (by rw [←e];exact (F.out p hp).2) w (F.out w w1).2
  have h2:=pv _ (F.tipout M hv).1 (F.tipout M hv).2
  rw [h1,←(tight_par L D w5).2.2,h2]
 have base:∀ p,p < S.n→((growS S u v w).bd (S.out p)).mark≠0→S.sm p % 2=S.sm u % 2:=fun p hp h=>by
  rw [grow_mark] at h
  by_cases e1:S.out p=S.out v
  ·exact pv p hp e1
  ·by_cases e2:S.out p=S.out w
   ·exact pw p hp e2
   ·rw [if_neg e1,if_neg e2] at h
    exact T.par p u hp hu h (by rw [eu];decide)
 refine ⟨P'.fo,P'.lk,P'.du,P'.ma,⟨fun p hp=>?_,fun p hp h=>?_,fun p hp h q hq=>?_,fun p hp h=>?_,fun p hp h q hq=>?_,fun p hp h q hq=>?_,fun p q hp hq h1 h2=>?_,P'.al⟩⟩
 ·rw [sh.out,grow_mark]
  split
  ·exact .inr (.inr rfl)
  ·split
   ·exact .inl rfl
   ·exact T.mks p hp
 ·rw [sh.out,sh.tip,sh.mt] at h
  rw [sh.out,grow_mark]
  have e1:S.out p≠S.out v:=fun e=>by rw [e,hw] at h;cases h
  rw [if_neg e1]
  split
  ·rfl
  ·exact T.root p hp h
 ·rw [sh.out,grow_mark] at h
  rw [sh.out,sh.tip,sh.mt] at hq
  have e1:S.out p≠S.out v:=fun e=>by rw [if_pos e] at h;cases h
  rw [if_neg e1] at h
  have e2:S.out p≠S.out w:=fun e=>by rw [if_pos e] at h;cases h
  rw [if_neg e2] at h
  obtain ⟨m1,m2,m3,m4,m5⟩:=M.ma p hp q hq
  have f1:S.out q≠S.out v:=fun e=>by
   have:q=(S.bd (S.out v)).tip:=by rw [←e,m3]
   rw [this,hw] at m4
   have m4:=Option.some.inj m4
   exact e2 (by rw [m4,(F.tipout M hp).2])
  have f2:S.out q≠S.out w:=fun e=>by
   have:q=w:=by rw [←m3,e,w3]
   rw [this,w4] at m4
   have m4:=Option.some.inj m4
   exact e1 (by rw [←(F.tipout M hp).2,←m4,(F.tipout M hv).2])
  rw [sh.out,grow_mark,if_neg f1,if_neg f2]
  exact T.free p hp h q hq
 ·rw [sh.out,grow_mark] at h
  by_cases e1:S.out p=S.out v
  ·refine ⟨u,v,by rw [sh.out,grow_cm,if_pos e1],hu,hv,by rw [sh.out];exact e1.symm,by rw [sh.out,grow_mark,if_neg nuv,if_neg nuw];exact eu,sh.tight grow_pr ht,?_⟩
   rw [sh.out,if_neg nuv,if_neg nuw,if_pos e1];omega
  ·rw [if_neg e1] at h
   have e2:S.out p≠S.out w:=fun e=>by rw [if_pos e] at h;cases h
   rw [if_neg e2] at h
   obtain ⟨a,e,h1,h2,h3,h4,h5,h6,h7⟩:=T.odd p hp h
   have f1:S.out a≠S.out v:=fun z=>by rw [z,ev] at h5;cases h5
   have f2:S.out a≠S.out w:=fun z=>by rw [z,ew] at h5;cases h5
   refine ⟨a,e,by rw [sh.out,grow_cm,if_neg e1];exact h1,h2,h3,h4,by rw [sh.out,grow_mark,if_neg f1,if_neg f2];exact h5,sh.tight grow_pr h6,?_⟩
   rw [sh.out,if_neg f1,if_neg f2,if_neg e1,if_neg e2];exact h7
 ·rw [sh.out,grow_mark] at h
  rw [sh.out,sh.tip,sh.mt] at hq
  by_cases e1:S.out p=S.out v
  ·rw [e1,hw] at hq
   cases hq
   rw [sh.out,grow_mark,e1,if_neg w2,if_pos rfl,if_pos rfl,if_neg w2,if_pos rfl]
   exact ⟨rfl,by omega⟩
  ·rw [if_neg e1] at h
   have e2:S.out p≠S.out w:=fun e=>by rw [if_pos e] at h;cases h
   rw [if_neg e2] at h
   obtain ⟨o1,o2⟩:=T.oddm p hp h q hq
   have f1:S.out q≠S.out v:=fun z=>by rw [z,ev] at o1;cases o1
   have f2:S.out q≠S.out w:=fun z=>by rw [z,ew] at o1;cases o1
   rw [sh.out,grow_mark,if_neg f1,if_neg f2,if_neg e1,if_neg e2,if_neg f1,if_neg f2]
   exact ⟨o1,o2⟩
 ·rw [sh.out,grow_mark] at h
  rw [sh.out,sh.tip,sh.mt] at hq
  have e1:S.out p≠S.out v:=fun e=>by rw [if_pos e] at h;cases h
  rw [if_neg e1] at h
  by_cases e2:S.out p=S.out w
  ·rw [e2,w3,w4] at hq
   cases hq
   rw [sh.out,grow_mark,(F.tipout M hv).2,if_pos rfl]
  ·rw [if_neg e2] at h
   have o1:=T.even p hp h q hq
   have f1:S.out q≠S.out v:=fun z=>by rw [z,ev] at o1;cases o1
   have f2:S.out q≠S.out w:=fun z=>by rw [z,ew] at o1;cases o1
   rw [sh.out,grow_mark,if_neg f1,if_neg f2];exact o1
 ·rw [sh.out] at h1 h2
  show S.sm p % 2=S.sm q % 2
  rw [base p hp h1,base q hq h2]
end
end Bl
namespace Bl
section
variable {S S1 S2:St}
theorem Fo.outq (F:Fo S) {p q:Nat} (hp:p < S.n) (hq:q∈pl S (S.out p)):q < S.n∧S.out q=S.out p:=⟨F.lt _ (F.out p hp).1 _ hq,F.top _ (F.out p hp).1 _ hq _ (F.out p hp).2⟩
theorem Lead.oth (F:Fo S) {u x:Nat} (hu:u < S.n) (L:Lead S (S.out u) x S1) {p:Nat} (hp:p < S.n) (h:S.out p≠S.out u) :
  (S1.bd (S.out p)).tip=(S.bd (S.out p)).tip∧(∀ q∈pl S (S.out p),S1.mt q=S.mt q)∧(Am S (S.out p)→Am S1 (S.out p)):=by
 have nin:∀ q,q∈pl S (S.out p)→q ∉ pl S (S.out u):=fun q h1 h2=>h ((F.outq hp h1).2.symm.trans (F.outq hu h2).2)
 have tp:∀ d∈S.ids,(∀ q∈pl S d,q∈pl S (S.out p))→(S1.bd d).tip=(S.bd d).tip:=fun d hd sub=>L.tipo d fun z=>by
  obtain ⟨y,hy⟩:=List.exists_mem_of_ne_nil _ (F.ne d hd)
  exact nin y (sub y hy) (z.2 y hy)
 exact ⟨tp _ (F.out p hp).1 fun _ h=>h,fun q hq=>L.mto q (nin q hq),fun a=>Am.keep L.stat F (F.out p hp).1 tp (fun q hq=>L.mto q (nin q hq)) a⟩
theorem Stat.cut (h:Stat S S1) (u v:Nat):cut S1 u v=cut S u v:=by
 unfold Bl.cut
 rw [h.ids]
 refine sumc fun b _=>?_
 have ex:xin S1 b u v↔xin S b u v:=by unfold xin;rw [h.pl]
 by_cases hx:xin S b u v
 ·rw [if_pos (ex.mpr hx),if_pos hx,h.pr]
 ·rw [if_neg (fun z=>hx (ex.mp z)),if_neg hx]
theorem Stat.tot (h:Stat S S1) (u:Nat):tot S1 u=tot S u:=by
 unfold Bl.tot
 rw [h.ids]
 exact sumc fun b _=>by rw [h.pl,h.pr]
theorem Stat.tight (h:Stat S S1) {u v:Nat}:tight S1 u v↔tight S u v:=by
 unfold Bl.tight
 rw [h.lk,h.cut]
structure Ho (S:St) (Ex:Nat→Prop) (S1:St):Prop where
 st:Stat S S1
 fo:Fo S1
 am:∀ p,p < S.n→Am S1 (S.out p)
 ma:∀ p,p < S.n→¬ Ex (S.out p)→∀ q,S1.mt (S1.bd (S.out p)).tip=some q→q < S.n∧S.out q≠S.out p∧¬ Ex (S.out q)∧(S1.bd (S.out q)).tip=q∧S1.mt q=some (S1.bd (S.out p)).tip∧tight S (S1.bd (S.out p)).tip q
 no:∀ q,q < S.n→S1.mt q=none→S.mt q=none
theorem Ho.imp {E E':Nat→Prop} (h:Ho S E S1) (e:∀ b,E b↔E' b):Ho S E' S1:=by
 have:E=E':=funext fun b=>propext (e b)
 rw [←this];exact h
theorem Ho.tipin {E:Nat→Prop} (h:Ho S E S1) {p:Nat} (hp:p < S.n):(S1.bd (S.out p)).tip∈pl S (S.out p):=by
 have:=(inside h.fo _ (S.out p) (Nat.le_refl _) (by have:=(h.fo.out p (by rw [h.st.n];exact hp)).1;rwa [h.st.out] at this) (h.am p hp)).1
 rwa [h.st.pl] at this
theorem Ho.in' {E:Nat→Prop} (h:Ho S E S1) {p q:Nat} (hp:p < S.n) (hq:q∈pl S (S.out p)) (hn:S1.mt q=none):q=(S1.bd (S.out p)).tip:=by
 by_cases e:q=(S1.bd (S.out p)).tip
 ·exact e
 ·obtain ⟨r,_,_,m,_⟩:=(inside h.fo _ (S.out p) (Nat.le_refl _) (by have:=(h.fo.out p (by rw [h.st.n];exact hp)).1;rwa [h.st.out] at this) (h.am p hp)).2 q (by rw [h.st.pl];exact hq) e
  rw [hn] at m;cases m
theorem Ok.ho {rk:Nat→Nat} (O:Ok S rk):Ho S (fun _=>False) S:=⟨Stat.refl S,O.fo,O.ma.am,fun p hp _ q hq=>let ⟨a,b,c,d,e⟩:=O.ma.ma p hp q hq;⟨a,b,fun z=>z,c,d,e⟩,fun _ _ h=>h⟩
theorem Ho.open {E:Nat→Prop} (F:Fo S) (H:Ho S E S1) {u:Nat} (hu:u < S.n) (hE:¬ E (S.out u)) (L:Lead S1 (S.out u) u S2) (F2:Fo S2) :
  Ho S (fun b=>E b∨b=S.out u∨∃ l,S1.mt (S1.bd (S.out u)).tip=some l∧b=S.out l) S2:=by
 have n1:=H.st.n
 have o1:=H.st.out
 have L':Lead S1 (S1.out u) u S2:=by rw [o1];exact L
 have oth:=fun p (hp:p < S.n) (h:S.out p≠S.out u)=>by
  have:=Lead.oth H.fo (by rw [n1];exact hu) L' (p:=p) (by rw [n1];exact hp) (by rw [o1];exact h)
  rw [o1,H.st.pl] at this
  exact this
 refine ⟨H.st.trans L.stat,F2,fun p hp=>?_,fun p hp hx q hq=>?_,fun q hq h=>?_⟩
 ·by_cases e:S.out p=S.out u
  ·rw [e];exact L.am
  ·exact (oth p hp e).2.2 (H.am p hp)
 ·have e:S.out p≠S.out u:=fun z=>hx (.inr (.inl z))
  obtain ⟨t,m,_⟩:=oth p hp e
  rw [t,m _ (H.tipin hp)] at hq
  obtain ⟨a1,a2,a3,a4,a5,a6⟩:=H.ma p hp (fun z=>hx (.inl z)) q hq
  have eq:S.out q≠S.out u:=fun z=>hx (.inr (.inr ⟨(S1.bd (S.out p)).tip,by rw [←z,a4,a5],((F.outq hp (H.tipin hp)).2).symm⟩))
  obtain ⟨t2,m2,_⟩:=oth q a1 eq
  refine ⟨a1,a2,?_,by rw [t2];exact a4,by rw [t,m2 q (F.out q a1).2];exact a5,by rw [t];exact a6⟩
  rintro (z | z | ⟨l,hl,z⟩)
  ·exact a3 z
  ·exact eq z
  ·obtain ⟨b1,b2,b3,b4,b5,b6⟩:=H.ma u hu hE l hl
   have:q=l:=by rw [←a4,z,b4]
   rw [←this,a5] at b5
   have b7:=Option.some.inj b5
   have:=(F.outq hp (H.tipin hp)).2
   rw [b7,(F.outq hu (H.tipin hu)).2] at this
   exact e this.symm
 ·by_cases e:S.out q=S.out u
  ·have hi:q∈pl S2 (S.out u):=by rw [(H.st.trans L.stat).pl,←e];exact (F.out q hq).2
   by_cases eq:q=u
   ·rw [eq] at h ⊢
    exact H.no u hu (by rw [←L.mtp];exact h)
   ·obtain ⟨r,_,_,m,_⟩:=(inside F2 _ (S.out u) (Nat.le_refl _) (by rw [(H.st.trans L.stat).ids];exact (F.out u hu).1) L.am).2 q hi (by rw [L.tip];exact eq)
    rw [h] at m;cases m
  ·rw [(oth q hq e).2.1 q (F.out q hq).2] at h
   exact H.no q hq h
theorem Ho.turn {E:Nat→Prop} (F:Fo S) (H:Ho S E S1) {u x:Nat} (hu:u < S.n) (hE:E (S.out u)) (hx:x∈pl S (S.out u)) (L:Lead S1 (S.out u) x S2) (F2:Fo S2):Ho S E S2:=by
 have n1:=H.st.n
 have o1:=H.st.out
 have L':Lead S1 (S1.out u) x S2:=by rw [o1];exact L
 have oth:=fun p (hp:p < S.n) (h:S.out p≠S.out u)=>by
  have:=Lead.oth H.fo (by rw [n1];exact hu) L' (p:=p) (by rw [n1];exact hp) (by rw [o1];exact h)
  rw [o1,H.st.pl] at this
  exact this
 refine ⟨H.st.trans L.stat,F2,fun p hp=>?_,fun p hp hx q hq=>?_,fun q hq h=>?_⟩
 ·by_cases e:S.out p=S.out u
  ·rw [e];exact L.am
  ·exact (oth p hp e).2.2 (H.am p hp)
 ·have e:S.out p≠S.out u:=fun z=>hx (by rw [z];exact hE)
  obtain ⟨t,m,_⟩:=oth p hp e
  rw [t,m _ (H.tipin hp)] at hq
  obtain ⟨a1,a2,a3,a4,a5,a6⟩:=H.ma p hp hx q hq
  have eq:S.out q≠S.out u:=fun z=>a3 (by rw [z];exact hE)
  obtain ⟨t2,m2,_⟩:=oth q a1 eq
  exact ⟨a1,a2,a3,by rw [t2];exact a4,by rw [t,m2 q (F.out q a1).2];exact a5,by rw [t];exact a6⟩
 ·by_cases e:S.out q=S.out u
  ·have hi:q∈pl S2 (S.out u):=by rw [(H.st.trans L.stat).pl,←e];exact (F.out q hq).2
   by_cases eq:q=x
   ·rw [eq] at h
    rw [eq]
    exact H.no x (by rw [←eq];exact hq) (by rw [←L.mtp];exact h)
   ·obtain ⟨r,_,_,m,_⟩:=(inside F2 _ (S.out u) (Nat.le_refl _) (by rw [(H.st.trans L.stat).ids];exact (F.out u hu).1) L.am).2 q hi (by rw [L.tip];exact eq)
    rw [h] at m;cases m
  ·rw [(oth q hq e).2.1 q (F.out q hq).2] at h
   exact H.no q hq h
theorem Ho.tie {E:Nat→Prop} (F:Fo S) (H:Ho S E S1) {x y:Nat} (hx:x < S.n) (hy:y < S.n) (ex:E (S.out x)) (ey:E (S.out y)) (ne:S.out x≠S.out y) (tx:(S1.bd (S.out x)).tip=x) (ty:(S1.bd (S.out y)).tip=y) (ht:tight S x y) :
  Ho S (fun b=>E b∧b≠S.out x∧b≠S.out y) (tieS S1 x y):=by
 have st:=tieS_stat S1 x y
 have xy:x≠y:=fun e=>ne (by rw [e])
 have mT:∀ q,q≠x→q≠y→(tieS S1 x y).mt q=S1.mt q:=fun q h1 h2=>by show (if q=y then some x else if q=x then some y else S1.mt q)=_;rw [if_neg h2,if_neg h1]
 have mTx:(tieS S1 x y).mt x=some y:=by show (if x=y then some x else if x=x then some y else S1.mt x)=_;rw [if_neg xy,if_pos rfl]
 have mTy:(tieS S1 x y).mt y=some x:=by show (if y=y then some x else if y=x then some y else S1.mt y)=_;rw [if_pos rfl]
 have tT:∀ c,((tieS S1 x y).bd c).tip=(S1.bd c).tip:=fun _=>rfl
 have nx:∀ p,p < S.n→∀ q∈pl S (S.out p),q≠(S1.bd (S.out p)).tip→q≠x∧q≠y:=fun p hp q hq hne=>⟨fun e=>hne (by rw [←(F.outq hp hq).2,e,tx]),fun e=>hne (by rw [←(F.outq hp hq).2,e,ty])⟩
 have no':∀ p,p < S.n→S.out p≠S.out x→S.out p≠S.out y→∀ q∈pl S (S.out p),q≠x∧q≠y:=fun p hp h1 h2 q hq=>⟨fun e=>h1 (by rw [←(F.outq hp hq).2,e]),fun e=>h2 (by rw [←(F.outq hp hq).2,e])⟩
 refine ⟨H.st.trans st,st.fo H.fo (fun _ _ _=>rfl),fun p hp=>?_,fun p hp hE q hq=>?_,fun q hq h=>?_⟩
 ·refine Am.keepT st H.fo (by rw [H.st.ids];exact (F.out p hp).1) (fun _ _ _=>rfl) (fun q hq hne=>?_) (H.am p hp)
  rw [H.st.pl] at hq
  obtain ⟨h1,h2⟩:=nx p hp q hq hne
  exact mT q h1 h2
 ·rw [tT] at hq
  show q < S.n∧S.out q≠S.out p∧¬ (E (S.out q)∧S.out q≠S.out x∧S.out q≠S.out y)∧(S1.bd (S.out q)).tip=q∧(tieS S1 x y).mt q=some (S1.bd (S.out p)).tip∧tight S (S1.bd (S.out p)).tip q
  by_cases e1:S.out p=S.out x
  ·rw [e1,tx,mTx] at hq
   cases hq
   rw [e1,tx]
   exact ⟨hy,fun z=>ne z.symm,fun z=>z.2.2 rfl,ty,mTy,ht⟩
  ·by_cases e2:S.out p=S.out y
   ·rw [e2,ty,mTy] at hq
    cases hq
    rw [e2,ty]
    exact ⟨hx,ne,fun z=>z.2.1 rfl,tx,mTx,tight_comm ht⟩
   ·have pE:¬ E (S.out p):=fun z=>hE ⟨z,e1,e2⟩
    obtain ⟨h1,h2⟩:=no' p hp e1 e2 _ (H.tipin hp)
    rw [mT _ h1 h2] at hq
    obtain ⟨a1,a2,a3,a4,a5,a6⟩:=H.ma p hp pE q hq
    have q1:S.out q≠S.out x:=fun z=>a3 (by rw [z];exact ex)
    have q2:S.out q≠S.out y:=fun z=>a3 (by rw [z];exact ey)
    obtain ⟨h3,h4⟩:=no' q a1 q1 q2 q (F.out q a1).2
    exact ⟨a1,a2,fun z=>a3 z.1,a4,by rw [mT q h3 h4];exact a5,a6⟩
 ·by_cases e1:q=x
  ·rw [e1,mTx] at h;cases h
  ·by_cases e2:q=y
   ·rw [e2,mTy] at h;cases h
   ·rw [mT q e1 e2] at h;exact H.no q hq h
theorem Ho.pre {rk:Nat→Nat} (O:Ok S rk) (H:Ho S (fun _=>False) S1):Pre S1:=by
 have h:=H.st
 obtain ⟨F,L,D,M,T⟩:=O
 refine ⟨H.fo,⟨by rw [h.lk,h.n];exact L.lt,by rw [h.lk];exact L.even⟩,⟨fun p hp=>?_,fun b hb e=>?_,fun u v t hl=>?_,fun b hb i hi=>?_⟩,⟨fun p hp=>?_,fun p hp q hq=>?_⟩,fun p q hp hq h1 h2=>?_⟩
 ·rw [h.n] at hp;rw [h.sm,h.tot];exact D.sm p hp
 ·rw [h.ids] at hb;rw [h.inn] at e;rw [h.pr];exact D.rg b hb e
 ·rw [h.lk] at hl;rw [h.cut];exact D.fe u v t hl
 ·rw [h.ids] at hb;rw [h.cnt] at hi;rw [h.jnt];exact h.tight.mpr (D.jt b hb i hi)
 ·rw [h.n] at hp;rw [h.out];exact H.am p hp
 ·rw [h.n] at hp
  rw [h.out] at hq
  obtain ⟨a1,a2,_,a4,a5,a6⟩:=H.ma p hp (fun z=>z) q hq
  rw [h.n,h.out]
  exact ⟨a1,a2,a4,a5,h.tight.mpr a6⟩
 ·rw [h.n] at hp hq
  rw [h.sm]
  exact T.al p q hp hq (H.no p hp h1) (H.no q hq h2)
end
end Bl
namespace Bl
inductive Up (S:St):Nat→Nat→Prop
 | root {b:Nat}:S.mt (S.bd b).tip=none→Up S b b
 | step {b l a e r:Nat}:S.mt (S.bd b).tip=some l→(S.bd (S.out l)).cm=some (a,e)→Up S (S.out a) r→Up S b r
theorem Up.fn {S:St}{b r r':Nat} (h:Up S b r) (g:Up S b r'):r=r':=by
 induction h with
 | root h1 =>
  cases g with
  | root _=>rfl
  | step h2 _ _=>rw [h1] at h2;cases h2
 | step h1 h2 _ ih =>
  cases g with
  | root h3=>rw [h1] at h3;cases h3
  | step h3 h4 h5 =>
   rw [h1] at h3
   cases h3
   rw [h2] at h4
   cases h4
   exact ih h5
def Te (S:St) (r b:Nat):Prop:=((S.bd b).mark=1∧Up S b r)∨((S.bd b).mark = -1∧∃ a e,(S.bd b).cm=some (a,e)∧Up S (S.out a) r)
theorem Te.fn {S:St}{b r r':Nat} (h:Te S r b) (g:Te S r' b):r=r':=by
 rcases h with ⟨h1,h2⟩ | ⟨h1,a,e,h2,h3⟩ <;> rcases g with ⟨g1,g2⟩ | ⟨g1,a',e',g2,g3⟩
 ·exact h2.fn g2
 ·rw [h1] at g1;cases g1
 ·rw [h1] at g1;cases g1
 ·rw [h2] at g2;cases g2;exact h3.fn g3
def Un (S S1:St) (b:Nat):Prop:=(S1.bd b).tip=(S.bd b).tip∧∀ q∈pl S b,S1.mt q=S.mt q
section
variable {S S0 S1 S2 S3:St}{rk:Nat→Nat}{X:Nat→Prop}{r u:Nat}
theorem Un.trans (h:Stat S S1) {b:Nat} (f:Un S S1 b) (g:Un S1 S2 b):Un S S2 b:=⟨g.1.trans f.1,fun q hq=>(g.2 q (by rw [h.pl];exact hq)).trans (f.2 q hq)⟩
structure Ch (S:St) (rk:Nat→Nat) (X:Nat→Prop) (r u:Nat) (S0:St) (left:Option Nat) (S1:St):Prop where
 ho:Ho S (fun b=>X b∨b=S.out u∨∃ l,left=some l∧b=S.out l) S1
 tu:(S1.bd (S.out u)).tip=u
 nx:∀ l,left=some l→l < S.n∧(S.bd (S.out l)).mark = -1∧Te S r (S.out l)∧rk (S.out l) < rk (S.out u)
 un:∀ l,left=some l→∀ p,p < S.n→Te S r (S.out p)→rk (S.out p) < rk (S.out l)→Un S S1 (S.out p)
 ot:∀ p,p < S.n→¬ Te S r (S.out p)→Un S0 S1 (S.out p)
 al:left=none→∃ q,q < S.n∧S.mt q=none∧(S.out q=S.out u∨S1.mt q≠none)
theorem Ok.mate_odd (O:Ok S rk) {p l:Nat} (hp:p < S.n) (he:(S.bd (S.out p)).mark=1) (hu:Up S (S.out p) r) (hl:S.mt (S.bd (S.out p)).tip=some l) :
  l < S.n∧(S.bd (S.out l)).mark = -1∧Te S r (S.out l)∧rk (S.out l) < rk (S.out p):=by
 obtain ⟨m1,m2,m3,m4,m5⟩:=O.ma.ma p hp l hl
 have mo:=O.tr.even p hp he l hl
 have ro:=(O.tr.oddm l m1 mo _ (by rw [m3];exact m4)).2
 rw [(O.fo.tipout O.ma hp).2] at ro
 refine ⟨m1,mo,.inr ⟨mo,?_⟩,ro⟩
 cases hu with
 | root h=>rw [hl] at h;cases h
 | step h1 h2 h3 =>
  rw [hl] at h1
  cases h1
  exact ⟨_,_,h2,h3⟩
theorem Ch.start (O:Ok S rk) (st0:Stat S S0) (H:Ho S X S0) (hX:∀ p,p < S.n→Te S r (S.out p)→¬ X (S.out p)) (hU:∀ p,p < S.n→Te S r (S.out p)→Un S S0 (S.out p))
  (hu:u < S.n) (he:(S.bd (S.out u)).mark=1) (hr:Up S (S.out u) r) (L:Lead S0 (S.out u) u S1) (F1:Fo S1):Ch S rk X r u S0 (S0.mt (S0.bd (S.out u)).tip) S1:=by
 have F:=O.fo
 have tu:Te S r (S.out u):=.inl ⟨he,hr⟩
 obtain ⟨ut,um⟩:=hU u hu tu
 have el:S0.mt (S0.bd (S.out u)).tip=S.mt (S.bd (S.out u)).tip:=by rw [ut,um _ (F.tipin O.ma hu)]
 have oth:∀ p,p < S.n→S.out p≠S.out u→Un S0 S1 (S.out p):=fun p hp h=>by
  have L':Lead S0 (S0.out u) u S1:=by rw [st0.out];exact L
  have:=Lead.oth H.fo (by rw [st0.n];exact hu) L' (p:=p) (by rw [st0.n];exact hp) (by rw [st0.out];exact h)
  rw [st0.out] at this
  exact ⟨this.1,this.2.1⟩
 refine ⟨H.open F hu (hX u hu tu) L F1,L.tip,fun l hl=>?_,fun l hl p hp hT hlt=>?_,fun p hp hT=>?_,fun hn=>?_⟩
 ·rw [el] at hl
  exact O.mate_odd hu he hr hl
 ·rw [el] at hl
  obtain ⟨_,_,_,h4⟩:=O.mate_odd hu he hr hl
  exact (hU p hp hT).trans st0 (oth p hp fun e=>by rw [e] at hlt;omega)
 ·exact oth p hp fun e=>hT (by rw [e];exact tu)
 ·rw [el] at hn
  exact ⟨_,(F.tipout O.ma hu).1,hn,.inl (F.tipout O.ma hu).2⟩
theorem Ch.step (O:Ok S rk) {l a e:Nat} (hX:∀ p,p < S.n→Te S r (S.out p)→¬ X (S.out p)) (hu:u < S.n) (C:Ch S rk X r u S0 (some l) S1) (hc:(S.bd (S.out l)).cm=some (a,e))
  (st0:Stat S S0) (L2:Lead S1 (S.out a) a S2) (F2:Fo S2) (L3:Lead S2 (S.out l) e S3) (F3:Fo S3) :
  a < S.n∧rk (S.out a) < rk (S.out l)∧Ch S rk X r u S0 (S1.mt (S1.bd (S.out a)).tip) (tieS S3 a e):=by
 have F:=O.fo
 obtain ⟨hl,ml,tl,rl⟩:=C.nx l rfl
 obtain ⟨a',e',hc',ha,he,oe,ma,ta,ra⟩:=O.tr.odd l hl ml
 rw [hc] at hc'
 cases hc'
 have ua:Up S (S.out a) r:=by
  rcases tl with ⟨z,_⟩ | ⟨_,a2,e2,c2,u2⟩
  ·rw [ml] at z;cases z
  ·rw [hc] at c2;cases c2;exact u2
 have Ta:Te S r (S.out a):=.inl ⟨ma,ua⟩
 obtain ⟨ut,um⟩:=C.un l rfl a ha Ta ra
 have el:S1.mt (S1.bd (S.out a)).tip=S.mt (S.bd (S.out a)).tip:=by rw [ut,um _ (F.tipin O.ma ha)]
 have nal:S.out a≠S.out l:=fun z=>by rw [z,ml] at ma;cases ma
 have nau:S.out a≠S.out u:=fun z=>by rw [z] at ra;omega
 have nlu:S.out l≠S.out u:=fun z=>by rw [z] at rl;omega
 have nxt:∀ l',S1.mt (S1.bd (S.out a)).tip=some l'→l' < S.n∧(S.bd (S.out l')).mark = -1∧Te S r (S.out l')∧rk (S.out l') < rk (S.out a):=fun l' h=>O.mate_odd ha ma ua (by rw [←el];exact h)
 have nE:¬ (X (S.out a)∨S.out a=S.out u∨∃ l',some l=some l'∧S.out a=S.out l'):=by
  rintro (z | z | ⟨l',h,z⟩)
  ·exact hX a ha Ta z
  ·exact nau z
  ·cases h;exact nal z
 have s1:=C.ho.st
 have s2:=s1.trans L2.stat
 have s3:=s2.trans L3.stat
 have oth:∀ p,p < S.n→S.out p≠S.out a→S.out p≠S.out l→Un S1 (tieS S3 a e) (S.out p):=fun p hp h1 h2=>by
  have k2:=Lead.oth C.ho.fo (u:=a) (by rw [s1.n];exact ha) (by rw [s1.out];exact L2) (p:=p) (by rw [s1.n];exact hp) (by rw [s1.out];exact h1)
  have k3:=Lead.oth F2 (u:=l) (by rw [s2.n];exact hl) (by rw [s2.out];exact L3) (p:=p) (by rw [s2.n];exact hp) (by rw [s2.out];exact h2)
  rw [s1.out,s1.pl] at k2
  rw [s2.out,s2.pl] at k3
  refine ⟨k3.1.trans k2.1,fun q hq=>?_⟩
  rw [s1.pl] at hq
  have q1:q≠e:=fun z=>h2 (by rw [←(F.outq hp hq).2,z,oe])
  have q2:q≠a:=fun z=>h1 (by rw [←(F.outq hp hq).2,z])
  show (if q=e then some a else if q=a then some e else S3.mt q)=_
  rw [if_neg q1,if_neg q2,k3.2.1 q hq,k2.2.1 q hq]
 have H2:=C.ho.open F ha nE L2 F2
 have H3:Ho S _ S3:=H2.turn F hl (.inl (.inr (.inr ⟨l,rfl,rfl⟩))) (by rw [←oe];exact (F.out e he).2) L3 F3
 have ta3:(S3.bd (S.out a)).tip=a:=by
  have k3:=Lead.oth F2 (u:=l) (by rw [s2.n];exact hl) (by rw [s2.out];exact L3) (p:=a) (by rw [s2.n];exact ha) (by rw [s2.out];exact nal)
  rw [s2.out] at k3
  exact k3.1.trans L2.tip
 have te3:(S3.bd (S.out e)).tip=e:=by rw [oe];exact L3.tip
 have H4:=H3.tie F ha he (.inr (.inl rfl)) (by rw [oe];exact .inl (.inr (.inr ⟨l,rfl,rfl⟩))) (by rw [oe];exact nal) ta3 te3 ta
 refine ⟨ha,ra,H4.imp fun b=>?_,?_,fun l' h=>?_,fun l' h p hp hT hlt=>?_,fun p hp hT=>?_,fun hn=>?_⟩
 ·rw [oe]
  constructor
  ·rintro ⟨(z | z | ⟨x,h,z⟩) | z | z,n1,n2⟩
   ·exact .inl z
   ·exact .inr (.inl z)
   ·cases h;exact absurd z n2
   ·exact absurd z n1
   ·exact .inr (.inr z)
  ·rintro (z | z | ⟨l',h,z⟩)
   ·exact ⟨.inl (.inl z),fun y=>nE (.inl (by rw [←y];exact z)),fun y=>hX l hl tl (by rw [←y];exact z)⟩
   ·exact ⟨.inl (.inr (.inl z)),fun y=>nau (by rw [←y,z]),fun y=>nlu (by rw [←y,z])⟩
   ·obtain ⟨k1,k2,k3,k4⟩:=nxt l' h
    exact ⟨.inr (.inr ⟨l',h,z⟩),fun y=>by rw [←y,z] at k4;omega,fun y=>by rw [←y,z] at ra;omega⟩
 ·exact (oth u hu (fun z=>nau z.symm) (fun z=>nlu z.symm)).1.trans C.tu
 ·obtain ⟨k1,k2,k3,k4⟩:=nxt l' h
  exact ⟨k1,k2,k3,by omega⟩
 ·obtain ⟨k1,k2,k3,k4⟩:=nxt l' h
  exact (C.un l rfl p hp hT (by omega)).trans s1 (oth p hp (fun z=>by rw [z] at hlt;omega) (fun z=>by rw [z] at hlt;omega))
 ·have:Un S1 (tieS S3 a e) (S.out p):=oth p hp (fun z=>hT (by rw [z];exact Ta)) (fun z=>hT (by rw [z];exact tl))
  have c:=C.ot p hp hT
  exact ⟨this.1.trans c.1,fun q hq=>(this.2 q (by rw [s1.pl,←st0.pl];exact hq)).trans (c.2 q hq)⟩
 ·rw [el] at hn
  refine ⟨_,(F.tipout O.ma ha).1,hn,.inr fun z=>?_⟩
  have:=H4.in' ha (F.tipin O.ma ha) z
  have h2:((tieS S3 a e).bd (S.out a)).tip=a:=ta3
  rw [h2] at this
  rw [this] at z
  have nae:a≠e:=fun y=>nal (by rw [y,oe])
  have:(tieS S3 a e).mt a=some e:=by show (if a=e then some a else if a=a then some e else S3.mt a)=_;rw [if_neg nae,if_pos rfl]
  rw [this] at z;cases z
theorem augment (O:Ok S rk) {v r':Nat}{S4:St} (hu:u < S.n) (hv:v < S.n) (eu:(S.bd (S.out u)).mark=1) (ru:Up S (S.out u) r) (rv:Up S (S.out v) r') (hr:r≠r') (ht:tight S u v)
  (C1:Ch S rk (fun _=>False) r u S none S2) (C2:Ch S rk (fun b=>b=S.out u) r' v S2 none S4) :
  Pre (tieS S4 u v)∧Stat S (tieS S4 u v)∧(∀ q,q < S.n→(tieS S4 u v).mt q=none→S.mt q=none)∧∃ q,q < S.n∧S.mt q=none∧(tieS S4 u v).mt q≠none:=by
 have F:=O.fo
 have nuv:S.out u≠S.out v:=fun z=>hr (by rw [z] at ru;exact ru.fn rv)
 have tu:¬ Te S r' (S.out u):=fun z=>hr (Te.fn (.inl ⟨eu,ru⟩) z)
 have tu4:(S4.bd (S.out u)).tip=u:=(C2.ot u hu tu).1.trans C1.tu
 have H:Ho S _ (tieS S4 u v):=C2.ho.tie F hu hv (.inl rfl) (.inr (.inl rfl)) nuv tu4 C2.tu ht
 have H':Ho S (fun _=>False) (tieS S4 u v):=H.imp fun b=>by
  constructor
  ·rintro ⟨z | z | ⟨l,h,_⟩,n1,n2⟩
   ·exact n1 z
   ·exact n2 z
   ·cases h
  ·exact fun z=>z.elim
 refine ⟨H'.pre O,H'.st,H'.no,?_⟩
 obtain ⟨q,hq,n0,h⟩:=C1.al rfl
 refine ⟨q,hq,n0,fun z=>?_⟩
 have nuv':u≠v:=fun y=>nuv (by rw [y])
 by_cases hqu:S.out q=S.out u
 ·have e1:=H'.in' hu (by rw [←hqu];exact (F.out q hq).2) z
  have e2:((tieS S4 u v).bd (S.out u)).tip=u:=tu4
  rw [e2] at e1
  have:(tieS S4 u v).mt u=some v:=by show (if u=v then some u else if u=u then some v else S4.mt u)=_;rw [if_neg nuv',if_pos rfl]
  rw [e1,this] at z;cases z
 ·have h2:=h.resolve_left hqu
  by_cases hqv:q=v
  ·have:(tieS S4 u v).mt v=some u:=by show (if v=v then some u else if v=u then some v else S4.mt v)=_;rw [if_pos rfl]
   rw [hqv,this] at z;cases z
  ·have e4:(tieS S4 u v).mt q=S4.mt q:=by show (if q=v then some u else if q=u then some v else S4.mt q)=_;rw [if_neg hqv,if_neg (fun y=>hqu (by rw [y]))]
   rw [e4] at z
   by_cases hT:Te S r' (S.out q)
   ·-- in the other tree nobody that is alone stays so,but the root: it is not of this tree
    have nT:¬ Te S r (S.out q):=fun y=>hr (Te.fn y hT)
    have:=(C1.ot q hq nT).2 q (F.out q hq).2
    rw [this,n0] at h2
    exact h2 rfl
   ·have:=(C2.ot q hq hT).2 q (by rw [C1.ho.st.pl];exact (F.out q hq).2)
    rw [this] at z
    exact h2 z
end
end Bl
namespace Bl
def closeS (S:St) (N:Nat) (ps inn:List Nat) (jt:List (Nat×Nat)) (t:Nat):St :=
 { S with ids:=N::S.ids,bd:=fun b=>if b=N then ⟨ps,t,inn,jt,0,1,none⟩ else S.bd b,out:=fun p=>if p∈ps then N else S.out p }
structure Rg (S:St) (rk:Nat→Nat) (inn:List Nat) (jt:List (Nat×Nat)) (z:Nat):Prop where
 len:jt.length=inn.length
 odd:inn.length % 2=1
 thr:3≤inn.length
 lt:∀ i < inn.length,(jt.getD i (0,0)).1 < S.n∧(jt.getD i (0,0)).2 < S.n
 kd:∀ i < inn.length,inn.getD i 0=S.out (jt.getD i (0,0)).1
 nx:∀ i < inn.length,inn.getD ((i+1) % inn.length) 0=S.out (jt.getD i (0,0)).2
 inj:∀ i < inn.length,∀ j < inn.length,inn.getD i 0=inn.getD j 0→i=j
 ti:∀ i < inn.length,tight S (jt.getD i (0,0)).1 (jt.getD i (0,0)).2
 mkd:∀ i < inn.length,(S.bd (inn.getD i 0)).mark≠0
 top:z < inn.length
 ev:(S.bd (inn.getD z 0)).mark=1
 rkd:∀ i < inn.length,rk (inn.getD z 0)≤rk (inn.getD i 0)
 par:∀ o,o % 2=1→o < inn.length→S.mt (jt.getD ((z+o) % inn.length) (0,0)).1=some (jt.getD ((z+o) % inn.length) (0,0)).2∧S.mt (jt.getD ((z+o) % inn.length) (0,0)).2=some (jt.getD ((z+o) % inn.length) (0,0)).1 ∧
  (S.bd (inn.getD ((z+o) % inn.length) 0)).tip=(jt.getD ((z+o) % inn.length) (0,0)).1∧(S.bd (inn.getD ((z+o+1) % inn.length) 0)).tip=(jt.getD ((z+o) % inn.length) (0,0)).2
section
variable {S:St}{rk:Nat→Nat}{inn ps:List Nat}{jt:List (Nat×Nat)}{z N t:Nat}
theorem Rg.mate (R:Rg S rk inn jt z) {j:Nat} (hj:j < inn.length) (hz:j≠z):∃ k q,k < inn.length∧k≠z∧S.mt (S.bd (inn.getD j 0)).tip=some q∧S.out q=inn.getD k 0:=by
 obtain ⟨o,ho,eo⟩:=off_ex R.top hj
 have hc:0 < inn.length:=by have:=R.thr;omega
 have z0:(z+0) % inn.length=z:=by rw [Nat.add_zero];exact Nat.mod_eq_of_lt R.top
 have o0:o≠0:=fun e=>hz (by rw [←eo,e,z0])
 have codd:=R.odd
 by_cases hodd:o % 2=1
 ·obtain ⟨m1,m2,t1,t2⟩:=R.par o hodd ho
  refine ⟨(z+(o+1)) % inn.length,(jt.getD ((z+o) % inn.length) (0,0)).2,Nat.mod_lt _ hc,fun e=>?_,?_,?_⟩
  ·have:=off_inj (i:=z) (show o+1 < inn.length by omega) hc (e.trans z0.symm)
   omega
  ·rw [←eo,t1];exact m1
  ·have:=R.nx _ (Nat.mod_lt (z+o) hc)
   rw [Nat.mod_add_mod] at this
   exact this.symm
 ·obtain ⟨m1,m2,t1,t2⟩:=R.par (o-1) (by omega) (by omega)
  rw [show z+(o-1)+1=z+o by omega,eo] at t2
  refine ⟨(z+(o-1)) % inn.length,(jt.getD ((z+(o-1)) % inn.length) (0,0)).1,Nat.mod_lt _ hc,fun e=>?_,?_,?_⟩
  ·have:=off_inj (i:=z) (show o-1 < inn.length by omega) hc (e.trans z0.symm)
   omega
  ·rw [t2];exact m2
  ·exact (R.kd _ (Nat.mod_lt _ hc)).symm
theorem close_ok (O:Ok S rk) (R:Rg S rk inn jt z) (hN:N ∉ S.ids) (hps:∀ p,p∈ps↔∃ i < inn.length,p∈pl S (inn.getD i 0)) (nd:ps.Nodup) :
  Ok (closeS S N ps inn jt (S.bd (inn.getD z 0)).tip) (fun b=>if b=N then rk (inn.getD z 0) else rk b):=by
 obtain ⟨F,L,D,M,T⟩:=O
 have hc:0 < inn.length:=by have:=R.thr;omega
 have kid':∀ i < inn.length,∃ p,p < S.n∧inn.getD i 0=S.out p:=fun i hi=>⟨_,(R.lt i hi).1,R.kd i hi⟩
 have kids:∀ i < inn.length,inn.getD i 0∈S.ids:=fun i hi=>by rw [R.kd i hi];exact (F.out _ (R.lt i hi).1).1
 have psn:∀ p,p∈ps→p < S.n∧∃ i < inn.length,S.out p=inn.getD i 0:=fun p hp=>by
  obtain ⟨i,hi,h⟩:=(hps p).mp hp
  obtain ⟨x,hx,e⟩:=kid' i hi
  rw [e] at h
  exact ⟨(F.outq hx h).1,i,hi,by rw [(F.outq hx h).2,e]⟩
 have psi:∀ p,p < S.n→∀ i < inn.length,S.out p=inn.getD i 0→p∈ps:=fun p hp i hi e=>(hps p).mpr ⟨i,hi,by rw [←e];exact (F.out p hp).2⟩
 have same:∀ p q,p < S.n→q < S.n→S.out p=S.out q→(p∈ps↔q∈ps):=fun p q hp hq e=>⟨fun h=>by
   obtain ⟨_,i,hi,h⟩:=psn p h
   exact psi q hq i hi (by rw [←e];exact h),fun h=>by
   obtain ⟨_,i,hi,h⟩:=psn q h
   exact psi p hp i hi (by rw [e];exact h)⟩
 generalize hS':closeS S N ps inn jt (S.bd (inn.getD z 0)).tip=S'
 have nS:S'.n=S.n:=by rw [←hS'];rfl
 have lS:S'.lk=S.lk:=by rw [←hS'];rfl
 have iS:S'.ids=N::S.ids:=by rw [←hS'];rfl
 have mS:S'.mt=S.mt:=by rw [←hS'];rfl
 have sS:S'.sm=S.sm:=by rw [←hS'];rfl
 have bN:S'.bd N=⟨ps,(S.bd (inn.getD z 0)).tip,inn,jt,0,1,none⟩:=by rw [←hS'];exact if_pos rfl
 have bO:∀ b,b≠N→S'.bd b=S.bd b:=fun b h=>by rw [←hS'];exact if_neg h
 have oI:∀ p,p∈ps→S'.out p=N:=fun p h=>by rw [←hS'];exact if_pos h
 have oO:∀ p,p ∉ ps→S'.out p=S.out p:=fun p h=>by rw [←hS'];exact if_neg h
 have neN:∀ b,b∈S.ids→b≠N:=fun b hb e=>hN (by rw [←e];exact hb)
 have bI:∀ b,b∈S.ids→S'.bd b=S.bd b:=fun b hb=>bO b (neN b hb)
 have pI:∀ b,b∈S.ids→pl S' b=pl S b:=fun b hb=>by show (S'.bd b).pl=_;rw [bI b hb]
 have cI:∀ b,b∈S.ids→cnt S' b=cnt S b:=fun b hb=>by unfold cnt;rw [bI b hb]
 have kI:∀ b,b∈S.ids→∀ i,kid S' b i=kid S b i:=fun b hb i=>by unfold kid;rw [bI b hb]
 have jI:∀ b,b∈S.ids→∀ i,jnt S' b i=jnt S b i:=fun b hb i=>by unfold jnt;rw [bI b hb]
 have pN:pl S' N=ps:=by show (S'.bd N).pl=_;rw [bN]
 have cN:cnt S' N=inn.length:=by unfold cnt;rw [bN]
 have kN:∀ i,kid S' N i=inn.getD i 0:=fun i=>by unfold kid;rw [bN]
 have jN:∀ i,jnt S' N i=jt.getD i (0,0):=fun i=>by unfold jnt;rw [bN]
 have iN:(S'.bd N).inn=inn:=by rw [bN]
 have inne:inn ≠ []:=fun e=>by rw [e] at hc;exact absurd hc (by decide)
 have mem':∀ b,b∈S'.ids→b=N∨b∈S.ids:=fun b hb=>by rw [iS] at hb;exact List.mem_cons.mp hb
 have mN:N∈S'.ids:=by rw [iS];exact List.mem_cons_self ..
 have mI:∀ b,b∈S.ids→b∈S'.ids:=fun b hb=>by rw [iS];exact List.mem_cons_of_mem _ hb
 have inone:∀ c∈S.ids,∀ p∈pl S c,p∈ps→∃ i < inn.length,∀ q∈pl S c,q∈pl S (inn.getD i 0):=fun c hc' p hp hq=>by
  obtain ⟨hpn,i,hi,e⟩:=psn p hq
  refine ⟨i,hi,fun q hq'=>?_⟩
  have:=F.top c hc' q hq' p hp
  rw [←e,←this]
  exact (F.out q (F.lt c hc' q hq')).2
 have many:∀ c∈S.ids,¬ ∀ p,p∈ps→p∈pl S c:=fun c hc' h=>by
  have g:∀ i < inn.length,∃ p,p∈pl S c∧S.out p=inn.getD i 0:=fun i hi=>⟨_,h _ (psi _ (R.lt i hi).1 i hi (R.kd i hi).symm),(R.kd i hi).symm⟩
  obtain ⟨p,h1,e1⟩:=g 0 hc
  obtain ⟨q,h2,e2⟩:=g 1 (by have:=R.thr;omega)
  have:=R.inj 0 hc 1 (by have:=R.thr;omega) (by rw [←e1,←e2];exact F.top c hc' p h1 q h2)
  cases this
 have F':Fo S':=by
  refine ⟨?_,fun b hb=>?_,fun b hb=>?_,fun b hb=>?_,fun p hp=>?_,fun b hb p hp q hq=>?_,fun b hb e=>?_,fun b hb e=>?_,fun b hb i hi=>?_,fun b hb e p=>?_,fun b hb i hi j hj p h1 h2=>?_,fun b hb i hi=>?_,fun b hb e c hc' p hp hq=>?_,fun b hb c hc' e=>?_⟩
  ·rw [iS];exact List.nodup_cons.mpr ⟨hN,F.nd⟩
  ·rw [nS]
   rcases mem' b hb with e | h
   ·rw [e,pN];exact fun p hp=>(psn p hp).1
   ·rw [pI b h];exact F.lt b h
  ·rcases mem' b hb with e | h
   ·rw [e,pN]
    exact List.ne_nil_of_mem (psi _ (R.lt 0 hc).1 0 hc (R.kd 0 hc).symm)
   ·rw [pI b h];exact F.ne b h
  ·rcases mem' b hb with e | h
   ·rw [e,pN];exact nd
   ·rw [pI b h];exact F.pnd b h
  ·rw [nS] at hp
   by_cases h:p∈ps
   ·rw [oI p h,pN];exact ⟨mN,h⟩
   ·rw [oO p h,pI _ (F.out p hp).1];exact ⟨mI _ (F.out p hp).1,(F.out p hp).2⟩
  ·rcases mem' b hb with e | h
   ·rw [e,pN] at hp hq;rw [oI p hp,oI q hq]
   ·rw [pI b h] at hp hq
    have e:=F.top b h p hp q hq
    have:=same p q (F.lt b h p hp) (F.lt b h q hq) e
    by_cases g:p∈ps
    ·rw [oI p g,oI q (this.mp g)]
    ·rw [oO p g,oO q (fun y=>g (this.mpr y)),e]
  ·rcases mem' b hb with h | h
   ·rw [h,iN] at e;exact absurd e inne
   ·rw [bI b h] at e;rw [pI b h,bI b h];exact F.one b h e
  ·rcases mem' b hb with h | h
   ·rw [h,cN,bN];exact ⟨R.thr,R.odd,R.len⟩
   ·rw [bI b h] at e;rw [cI b h,bI b h];exact F.odd b h e
  ·rcases mem' b hb with h | h
   ·rw [h,cN] at hi;rw [h,kN];exact mI _ (kids i hi)
   ·rw [cI b h] at hi;rw [kI b h];exact mI _ (F.kin b h i hi)
  ·rcases mem' b hb with h | h
   ·rw [h,pN,cN,hps p]
    constructor
    ·rintro ⟨i,hi,y⟩;exact ⟨i,hi,by rw [kN,pI _ (kids i hi)];exact y⟩
    ·rintro ⟨i,hi,y⟩;exact ⟨i,hi,by rw [kN,pI _ (kids i hi)] at y;exact y⟩
   ·rw [bI b h] at e
    rw [pI b h,cI b h,F.mem b h e p]
    constructor
    ·rintro ⟨i,hi,y⟩;exact ⟨i,hi,by rw [kI b h,pI _ (F.kin b h i hi)];exact y⟩
    ·rintro ⟨i,hi,y⟩;exact ⟨i,hi,by rw [kI b h,pI _ (F.kin b h i hi)] at y;exact y⟩
  ·rcases mem' b hb with h | h
   ·rw [h,cN] at hi hj
    rw [h,kN,pI _ (kids i hi)] at h1
    rw [h,kN,pI _ (kids j hj)] at h2
    obtain ⟨x,hx,ex⟩:=kid' i hi
    obtain ⟨y,hy,ey⟩:=kid' j hj
    rw [ex] at h1
    rw [ey] at h2
    exact R.inj i hi j hj (by rw [ex,ey,←(F.outq hx h1).2,(F.outq hy h2).2])
   ·rw [cI b h] at hi hj
    rw [kI b h,pI _ (F.kin b h i hi)] at h1
    rw [kI b h,pI _ (F.kin b h j hj)] at h2
    exact F.dis b h i hi j hj p h1 h2
  ·rcases mem' b hb with h | h
   ·rw [h,cN] at hi
    rw [h,cN,jN,kN,kN,pI _ (kids i hi),pI _ (kids _ (Nat.mod_lt _ hc)),R.kd i hi,R.nx i hi]
    exact ⟨(F.out _ (R.lt i hi).1).2,(F.out _ (R.lt i hi).2).2⟩
   ·rw [cI b h] at hi
    rw [cI b h,jI b h,kI b h,kI b h,pI _ (F.kin b h i hi),pI _ (F.kin b h _ (Nat.mod_lt _ (by omega)))]
    exact F.jin b h i hi
  ·rcases mem' b hb with h | h <;> rcases mem' c hc' with g | g
   ·rw [h,g];exact .inl fun _ y=>y
   ·rw [h,pN] at hq
    rw [pI c g] at hp
    obtain ⟨i,hi,y⟩:=inone c g p hp hq
    exact .inr ⟨i,by rw [h,cN];exact hi,by rw [h,kN,pI c g,pI _ (kids i hi)];exact y⟩
   ·rw [g,pN] at hp
    rw [pI b h] at hq
    obtain ⟨i,hi,y⟩:=inone b h p hq hp
    left
    rw [pI b h,g,pN]
    exact fun q hq'=>(hps q).mpr ⟨i,hi,y q hq'⟩
   ·rw [pI c g] at hp
    rw [pI b h] at hq
    rw [bI b h] at e
    rcases F.low b h e c g p hp hq with y | ⟨i,hi,y⟩
    ·left;rw [pI b h,pI c g];exact y
    ·exact .inr ⟨i,by rw [cI b h];exact hi,by rw [pI c g,kI b h,pI _ (F.kin b h i hi)];exact y⟩
  ·rcases mem' b hb with h | h <;> rcases mem' c hc' with g | g
   ·rw [h,g]
   ·exact absurd (fun p hp=>by have:=(e p).mp (by rw [h,pN];exact hp);rwa [pI c g] at this) (many c g)
   ·exact absurd (fun p hp=>by have:=(e p).mpr (by rw [g,pN];exact hp);rwa [pI b h] at this) (many b h)
   ·exact F.same b h c g fun p=>by have:=e p;rwa [pI b h,pI c g] at this
 have cutS:∀ u v,cut S' u v=cut S u v:=fun u v=>by
  unfold cut
  rw [iS,List.map_cons,List.sum_cons]
  have:(if xin S' N u v then (S'.bd N).pr else 0)=0:=by rw [bN];split <;> rfl
  rw [this,Int.zero_add]
  refine sumc fun b hb=>?_
  have ex:xin S' b u v↔xin S b u v:=by unfold xin;rw [pI b hb]
  by_cases hx:xin S b u v
  ·rw [if_pos (ex.mpr hx),if_pos hx,bI b hb]
  ·rw [if_neg (fun y=>hx (ex.mp y)),if_neg hx]
 have totS:∀ u,tot S' u=tot S u:=fun u=>by
  unfold tot
  rw [iS,List.map_cons,List.sum_cons]
  have:(if u∈pl S' N then (S'.bd N).pr else 0)=0:=by rw [bN];split <;> rfl
  rw [this,Int.zero_add]
  exact sumc fun b hb=>by rw [pI b hb,bI b hb]
 have tiS:∀ u v,tight S u v→tight S' u v:=fun u v ⟨x,h1,h2⟩=>⟨x,by rw [lS];exact h1,by rw [cutS];exact h2⟩
 have D':Du S':=by
  refine ⟨fun p hp=>?_,fun b hb e=>?_,fun u v x hl=>?_,fun b hb i hi=>?_⟩
  ·rw [nS] at hp;rw [sS,totS];exact D.sm p hp
  ·rcases mem' b hb with h | h
   ·rw [h,bN];exact Int.le_refl 0
   ·rw [bI b h] at e ⊢;exact D.rg b h e
  ·rw [lS] at hl;rw [cutS];exact D.fe u v x hl
  ·rcases mem' b hb with h | h
   ·rw [h,cN] at hi;rw [h,jN];exact tiS _ _ (R.ti i hi)
   ·rw [cI b h] at hi;rw [jI b h];exact tiS _ _ (D.jt b h i hi)
 have mdS:∀ d∈S.ids,Md S d→Md S' d:=fun d hd m hr=>by
  rw [bI d hd] at hr
  obtain ⟨i,Q⟩:=m hr
  have c0:0 < cnt S d:=by have:=Q.lt;omega
  refine ⟨i,⟨by rw [cI d hd];exact Q.lt,by rw [kI d hd,bI d hd,bI _ (F.kin d hd i Q.lt)];exact Q.tip,by rw [kI d hd,bI d hd,pI _ (F.kin d hd i Q.lt)];exact Q.tin,fun o ho hlt=>?_⟩⟩
  rw [cI d hd] at hlt
  rw [cI d hd,jI d hd,kI d hd,kI d hd,bI _ (F.kin d hd _ (Nat.mod_lt _ c0)),bI _ (F.kin d hd _ (Nat.mod_lt _ c0)),mS]
  exact Q.par o ho hlt
 have tipN:(S'.bd N).tip=(S.bd (inn.getD z 0)).tip:=by rw [bN]
 obtain ⟨x0,hx0,ex0⟩:=kid' z R.top
 have tipz:(S.bd (inn.getD z 0)).tip∈pl S (inn.getD z 0):=by rw [ex0];exact F.tipin M hx0
 have amI:∀ d∈S.ids,(∀ p∈pl S d,p∈ps)→Md S d:=fun d hd sub=>by
  obtain ⟨y,hy⟩:=List.exists_mem_of_ne_nil _ (F.ne d hd)
  obtain ⟨i,hi,h⟩:=inone d hd y hy (sub y hy)
  obtain ⟨x,hx,e⟩:=kid' i hi
  exact M.am x hx d hd (by rw [←e];exact h)
 have amN:Am S' N:=by
  intro d hd sub
  rcases mem' d hd with h | h
  ·intro _
   rw [h]
   refine ⟨z,⟨by rw [cN];exact R.top,by rw [kN,tipN,bI _ (kids z R.top)],by rw [kN,tipN,pI _ (kids z R.top)];exact tipz,fun o ho hlt=>?_⟩⟩
   rw [cN] at hlt
   rw [cN,jN,kN,kN,bI _ (kids _ (Nat.mod_lt _ hc)),bI _ (kids _ (Nat.mod_lt _ hc)),mS]
   exact R.par o ho hlt
  ·exact mdS d h (amI d h fun p hp=>by have:=sub p (by rw [pI d h];exact hp);rwa [pN] at this)
 have amO:∀ p,p < S.n→p ∉ ps→Am S' (S.out p):=fun p hp h d hd sub=>by
  rcases mem' d hd with e | g
  ·have hs:=sub (jt.getD 0 (0,0)).1 (by rw [e,pN];exact psi _ (R.lt 0 hc).1 0 hc (R.kd 0 hc).symm)
   rw [pI _ (F.out p hp).1] at hs
   have e2:=(F.outq hp hs).2
   exact absurd (psi p hp 0 hc (by rw [R.kd 0 hc,e2])) h
  ·exact mdS d g (M.am p hp d g fun q hq=>by have:=sub q (by rw [pI d g];exact hq);rwa [pI _ (F.out p hp).1] at this)
 have tz:(S.bd (inn.getD z 0)).tip < S.n∧S.out (S.bd (inn.getD z 0)).tip=inn.getD z 0:=by rw [ex0];exact F.tipout M hx0
 have mate0:∀ j < inn.length,j≠z→∀ p,p < S.n→p ∉ ps→S.mt (S.bd (inn.getD j 0)).tip≠some p:=fun j hj hz p hp h e=>by
  obtain ⟨k,q,hk,_,m,eq⟩:=R.mate hj hz
  rw [m] at e
  cases e
  exact h (psi _ hp k hk eq)
 have upq:∀ q,S.mt (S.bd (inn.getD z 0)).tip=some q→q < S.n∧q ∉ ps∧(S.bd (S.out q)).tip=q∧S.mt q=some (S.bd (inn.getD z 0)).tip∧tight S (S.bd (inn.getD z 0)).tip q:=fun q hq=>by
  have:=M.ma x0 hx0 q (by rw [←ex0];exact hq)
  rw [←ex0] at this
  obtain ⟨m1,m2,m3,m4,m5⟩:=this
  refine ⟨m1,fun h=>?_,m3,m4,m5⟩
  obtain ⟨_,j,hj,e⟩:=psn q h
  by_cases hz:j=z
  ·rw [hz] at e;exact m2 e
  ·obtain ⟨k,q',hk,kz,m,eq⟩:=R.mate hj hz
   rw [←e,m3,m4] at m
   have m':=Option.some.inj m
   rw [←m',tz.2] at eq
   exact kz (R.inj z R.top k hk eq).symm
 have outq:∀ p,p < S.n→p ∉ ps→∀ q,S.mt (S.bd (S.out p)).tip=some q→q∈ps→q=(S.bd (inn.getD z 0)).tip∧S.out q=inn.getD z 0:=fun p hp h q hq g=>by
  obtain ⟨m1,m2,m3,m4,m5⟩:=M.ma p hp q hq
  obtain ⟨_,j,hj,e⟩:=psn q g
  have tp:=F.tipout M hp
  by_cases hz:j=z
  ·rw [hz] at e;exact ⟨by rw [←e];exact m3.symm,e⟩
  ·have tn:(S.bd (S.out p)).tip ∉ ps:=fun y=>h ((same _ _ tp.1 hp tp.2).mp y)
   exact absurd (by rw [←e,m3];exact m4) (mate0 j hj hz _ tp.1 tn)
 have outN:∀ p,p < S.n→S.out p≠N:=fun p hp=>neN _ (F.out p hp).1
 have bOut:∀ p,p < S.n→S'.bd (S.out p)=S.bd (S.out p):=fun p hp=>bO _ (outN p hp)
 have M':Ma S':=by
  refine ⟨fun p hp=>?_,fun p hp q hq=>?_⟩
  ·rw [nS] at hp
   by_cases h:p∈ps
   ·rw [oI p h];exact amN
   ·rw [oO p h];exact amO p hp h
  ·rw [nS] at hp ⊢
   rw [mS] at hq ⊢
   by_cases h:p∈ps
   ·rw [oI p h,tipN] at hq
    obtain ⟨m1,m2,m3,m4,m5⟩:=upq q hq
    rw [oI p h,oO q m2,tipN,bOut q m1]
    exact ⟨m1,outN q m1,m3,m4,tiS _ _ m5⟩
   ·rw [oO p h,bOut p hp] at hq
    obtain ⟨m1,m2,m3,m4,m5⟩:=M.ma p hp q hq
    rw [oO p h,bOut p hp]
    by_cases g:q∈ps
    ·obtain ⟨e1,e2⟩:=outq p hp h q hq g
     rw [oI q g,tipN]
     exact ⟨m1,fun y=>outN p hp y.symm,e1.symm,m4,tiS _ _ m5⟩
    ·rw [oO q g,bOut q m1]
     exact ⟨m1,m2,m3,m4,tiS _ _ m5⟩
 have markN:(S'.bd N).mark=1:=by rw [bN]
 have kmk:∀ p,p∈ps→(S.bd (S.out p)).mark≠0:=fun p hp=>by
  obtain ⟨_,i,hi,e⟩:=psn p hp
  rw [e];exact R.mkd i hi
 refine ⟨F',⟨by rw [lS,nS];exact L.lt,by rw [lS];exact L.even⟩,D',M',⟨fun p hp=>?_,fun p hp h=>?_,fun p hp h q hq=>?_,fun p hp h=>?_,fun p hp h q hq=>?_,fun p hp h q hq=>?_,fun p q hp hq h1 h2=>?_,fun p q hp hq h1 h2=>?_⟩⟩
 ·rw [nS] at hp
  by_cases g:p∈ps
  ·rw [oI p g,markN];exact .inl rfl
  ·rw [oO p g,bOut p hp];exact T.mks p hp
 ·rw [nS] at hp
  by_cases g:p∈ps
  ·rw [oI p g,markN]
  ·rw [oO p g,bOut p hp,mS] at h;rw [oO p g,bOut p hp];exact T.root p hp h
 ·rw [nS] at hp
  rw [mS] at hq
  by_cases g:p∈ps
  ·rw [oI p g,markN] at h;cases h
  ·rw [oO p g,bOut p hp] at h hq
   have m:=T.free p hp h q hq
   have m1:=(M.ma p hp q hq).1
   have gq:q ∉ ps:=fun y=>kmk q y m
   rw [oO q gq,bOut q m1];exact m
 ·rw [nS] at hp ⊢
  by_cases g:p∈ps
  ·rw [oI p g,markN] at h;cases h
  ·rw [oO p g,bOut p hp] at h
   obtain ⟨a,e,h1,h2,h3,h4,h5,h6,h7⟩:=T.odd p hp h
   have ge:e ∉ ps:=fun y=>g ((same e p h3 hp h4).mp y)
   refine ⟨a,e,by rw [oO p g,bOut p hp];exact h1,h2,h3,by rw [oO p g,oO e ge];exact h4,?_,tiS _ _ h6,?_⟩
   ·by_cases ga:a∈ps
    ·rw [oI a ga,markN]
    ·rw [oO a ga,bOut a h2];exact h5
   ·rw [oO p g,if_neg (outN p hp)]
    by_cases ga:a∈ps
    ·rw [oI a ga,if_pos rfl]
     obtain ⟨_,i,hi,ei⟩:=psn a ga
     have:=R.rkd i hi
     rw [←ei] at this
     omega
    ·rw [oO a ga,if_neg (outN a h2)];exact h7
 ·rw [nS] at hp
  rw [mS] at hq
  by_cases g:p∈ps
  ·rw [oI p g,markN] at h;cases h
  ·rw [oO p g,bOut p hp] at h hq
   obtain ⟨h1,h2⟩:=T.oddm p hp h q hq
   have m1:=(M.ma p hp q hq).1
   rw [oO p g,if_neg (outN p hp)]
   by_cases gq:q∈ps
   ·obtain ⟨e1,e2⟩:=outq p hp g q hq gq
    rw [oI q gq,markN,if_pos rfl]
    exact ⟨rfl,by rw [←e2];exact h2⟩
   ·rw [oO q gq,bOut q m1,if_neg (outN q m1)];exact ⟨h1,h2⟩
 ·rw [nS] at hp
  rw [mS] at hq
  by_cases g:p∈ps
  ·rw [oI p g,tipN] at hq
   obtain ⟨m1,m2,_,_,_⟩:=upq q hq
   rw [oO q m2,bOut q m1]
   exact T.even x0 hx0 (by rw [←ex0];exact R.ev) q (by rw [←ex0];exact hq)
  ·rw [oO p g,bOut p hp] at h hq
   have m:=T.even p hp h q hq
   have m1:=(M.ma p hp q hq).1
   have gq:q ∉ ps:=fun y=>by
    obtain ⟨e1,e2⟩:=outq p hp g q hq y
    rw [e2,R.ev] at m;cases m
   rw [oO q gq,bOut q m1];exact m
 ·rw [nS] at hp hq
  rw [sS]
  refine T.par p q hp hq ?_ ?_
  ·by_cases g:p∈ps
   ·exact kmk p g
   ·rw [oO p g,bOut p hp] at h1;exact h1
  ·by_cases g:q∈ps
   ·exact kmk q g
   ·rw [oO q g,bOut q hq] at h2;exact h2
 ·rw [nS] at hp hq;rw [mS] at h1 h2;rw [sS];exact T.al p q hp hq h1 h2
end
end Bl
namespace Bl
inductive Pa (S:St):Nat→List (Nat×Nat)→Nat→Prop
 | nil {b:Nat}:Pa S b [] b
 | even {b y c:Nat}{l:List (Nat×Nat)}:(S.bd b).mark=1→S.mt (S.bd b).tip=some y→Pa S (S.out y) l c→Pa S b (((S.bd b).tip,y)::l) c
 | odd {b x y c:Nat}{l:List (Nat×Nat)}:(S.bd b).mark = -1→(S.bd b).cm=some (y,x)→Pa S (S.out y) l c→Pa S b ((x,y)::l) c
def Cn (S:St):Nat→List (Nat×Nat)→Nat→Prop
 | b,[],c=>b=c
 | b,x::l,c=>S.out x.1=b∧Cn S (S.out x.2) l c
def bo (S:St) (l:List (Nat×Nat)):List Nat:=l.map fun x=>S.out x.1
def sw (x:Nat×Nat):Nat×Nat:=(x.2,x.1)
section
variable {S:St}{rk:Nat→Nat}
theorem Cn.app:∀ {b c d:Nat}{l m:List (Nat×Nat)},Cn S b l c→Cn S c m d→Cn S b (l++m) d
 | b,c,d,[],m,h,g=>by cases h;exact g
 | b,c,d,x::l,m,h,g=>⟨h.1,h.2.app g⟩
theorem Cn.rev:∀ {b c:Nat}{l:List (Nat×Nat)},Cn S b l c→Cn S c (l.reverse.map sw) b
 | b,c,[],h=>h.symm
 | b,c,x::l,h=>by
  rw [List.reverse_cons,List.map_append]
  exact h.2.rev.app ⟨rfl,h.1⟩
theorem Cn.bos:∀ {b c:Nat}{l:List (Nat×Nat)},Cn S b l c→bo S (l.reverse.map sw) ++ [b] = (bo S l ++ [c]).reverse
 | b,c,[],h=>by cases h;rfl
 | b,c,x::l,h=>by
  have ih:=h.2.bos
  rw [List.reverse_cons,List.map_append]
  unfold bo at ih ⊢
  have e2:(List.map (fun x=>S.out x.1) (x::l) ++ [c]).reverse=(List.map (fun x=>S.out x.1) l ++ [c]).reverse ++ [S.out x.1]:=by rw [List.map_cons,List.cons_append,List.reverse_cons]
  rw [e2,←ih,h.1,List.map_append]
  rfl
theorem Cn.nx:∀ {b c:Nat}{l:List (Nat×Nat)},Cn S b l c→∀ i,i < l.length→S.out (l.getD i (0,0)).2=(bo S l ++ [c]).getD (i+1) 0
 | b,c,x::l,h,0,_=>by
  cases l with
  | nil=>exact h.2
  | cons y m=>exact h.2.1.symm
 | b,c,x::l,h,i+1,hi=>by
  have:=h.2.nx i (by rw [List.length_cons] at hi;omega)
  show S.out (l.getD i (0,0)).2=(bo S l ++ [c]).getD (i+1) 0
  exact this
theorem bo_at {l:List (Nat×Nat)}{i:Nat} (h:i < l.length):(bo S l).getD i 0=S.out (l.getD i (0,0)).1:=by
 unfold bo
 rw [List.getD_eq_getElem?_getD,List.getD_eq_getElem?_getD,List.getElem?_map,List.getElem?_eq_getElem h]
 rfl
theorem Ok.evs (O:Ok S rk) {b y:Nat} (hb:om S b) (he:(S.bd b).mark=1) (hy:S.mt (S.bd b).tip=some y) :
  (S.bd b).tip < S.n∧S.out (S.bd b).tip=b∧y < S.n∧om S (S.out y)∧(S.bd (S.out y)).mark = -1∧rk (S.out y) < rk b∧(S.bd (S.out y)).tip=y∧S.mt y=some (S.bd b).tip∧tight S (S.bd b).tip y:=by
 obtain ⟨p,hp,e⟩:=om_iff.mp hb
 subst e
 obtain ⟨m1,m2,m3,m4,m5⟩:=O.ma.ma p hp y hy
 have tp:=O.fo.tipout O.ma hp
 have mo:=O.tr.even p hp he y hy
 have ro:=(O.tr.oddm y m1 mo _ (by rw [m3];exact m4)).2
 rw [tp.2] at ro
 exact ⟨tp.1,tp.2,m1,om_iff.mpr ⟨y,m1,rfl⟩,mo,ro,m3,m4,m5⟩
theorem Ok.ods (O:Ok S rk) {b x y:Nat} (hb:om S b) (he:(S.bd b).mark = -1) (hc:(S.bd b).cm=some (y,x)) :
  x < S.n∧S.out x=b∧y < S.n∧om S (S.out y)∧(S.bd (S.out y)).mark=1∧rk (S.out y) < rk b∧tight S x y:=by
 obtain ⟨p,hp,e⟩:=om_iff.mp hb
 subst e
 obtain ⟨a,e,h1,h2,h3,h4,h5,h6,h7⟩:=O.tr.odd p hp he
 rw [hc] at h1
 cases h1
 exact ⟨h3,h4,h2,om_iff.mpr ⟨y,h2,rfl⟩,h5,h7,tight_comm h6⟩
theorem Pa.cn (O:Ok S rk) {b c:Nat}{l:List (Nat×Nat)} (h:Pa S b l c) (hb:om S b):Cn S b l c∧om S c:=by
 induction h with
 | nil=>exact ⟨rfl,hb⟩
 | even h1 h2 h3 ih =>
  obtain ⟨k1,k2,k3,k4,_⟩:=O.evs hb h1 h2
  obtain ⟨i1,i2⟩:=ih k4
  exact ⟨⟨k2,i1⟩,i2⟩
 | odd h1 h2 h3 ih =>
  obtain ⟨k1,k2,k3,k4,_⟩:=O.ods hb h1 h2
  obtain ⟨i1,i2⟩:=ih k4
  exact ⟨⟨k2,i1⟩,i2⟩
theorem Pa.rks (O:Ok S rk) {b c:Nat}{l:List (Nat×Nat)} (h:Pa S b l c) (hb:om S b):(∀ x∈bo S l,rk c < rk x∧rk x≤rk b∧(S.bd x).mark≠0∧om S x)∧(bo S l).Nodup∧rk c≤rk b:=by
 induction h with
 | nil=>exact ⟨fun x h=>(by cases h),List.nodup_nil,Nat.le_refl _⟩
 | @even b y c l h1 h2 h3 ih =>
  obtain ⟨k1,k2,k3,k4,k5,k6,_⟩:=O.evs hb h1 h2
  obtain ⟨i1,i2,i3⟩:=ih k4
  refine ⟨fun x hx=>?_,?_,by omega⟩
  ·rcases List.mem_cons.mp hx with e | e
   ·rw [e]
    show rk c < rk (S.out (S.bd b).tip)∧rk (S.out (S.bd b).tip)≤rk b∧(S.bd (S.out (S.bd b).tip)).mark≠0∧om S (S.out (S.bd b).tip)
    rw [k2,h1];exact ⟨by omega,Nat.le_refl _,by decide,hb⟩
   ·obtain ⟨j1,j2,j3,j4⟩:=i1 x e
    exact ⟨j1,by omega,j3,j4⟩
  ·refine List.nodup_cons.mpr ⟨fun hx=>?_,i2⟩
   have:=(i1 _ hx).2.1
   have:rk (S.out (S.bd b).tip)≤rk (S.out y):=this
   rw [k2] at this;omega
 | @odd b x' y c l h1 h2 h3 ih =>
  obtain ⟨k1,k2,k3,k4,k5,k6,_⟩:=O.ods hb h1 h2
  obtain ⟨i1,i2,i3⟩:=ih k4
  refine ⟨fun x hx=>?_,?_,by omega⟩
  ·rcases List.mem_cons.mp hx with e | e
   ·rw [e]
    show rk c < rk (S.out x')∧rk (S.out x')≤rk b∧(S.bd (S.out x')).mark≠0∧om S (S.out x')
    rw [k2,h1];exact ⟨by omega,Nat.le_refl _,by decide,hb⟩
   ·obtain ⟨j1,j2,j3,j4⟩:=i1 x e
    exact ⟨j1,by omega,j3,j4⟩
  ·refine List.nodup_cons.mpr ⟨fun hx=>?_,i2⟩
   have:=(i1 _ hx).2.1
   have:rk (S.out x')≤rk (S.out y):=this
   rw [k2] at this;omega
theorem Pa.lks (O:Ok S rk) {b c:Nat}{l:List (Nat×Nat)} (h:Pa S b l c) (hb:om S b):∀ x∈l,x.1 < S.n∧x.2 < S.n∧tight S x.1 x.2:=by
 induction h with
 | nil=>exact fun x h=>by cases h
 | even h1 h2 h3 ih =>
  obtain ⟨k1,k2,k3,k4,k5,k6,k7,k8,k9⟩:=O.evs hb h1 h2
  intro x hx
  rcases List.mem_cons.mp hx with e | e
  ·rw [e];exact ⟨k1,k3,k9⟩
  ·exact ih k4 x e
 | odd h1 h2 h3 ih =>
  obtain ⟨k1,k2,k3,k4,k5,k6,k7⟩:=O.ods hb h1 h2
  intro x hx
  rcases List.mem_cons.mp hx with e | e
  ·rw [e];exact ⟨k1,k3,k7⟩
  ·exact ih k4 x e
def Mt (S:St) (x:Nat×Nat):Prop:=S.mt x.1=some x.2∧S.mt x.2=some x.1∧(S.bd (S.out x.1)).tip=x.1∧(S.bd (S.out x.2)).tip=x.2
theorem Mt.sw {x:Nat×Nat} (h:Mt S x):Mt S (Bl.sw x):=⟨h.2.1,h.1,h.2.2.2,h.2.2.1⟩
theorem Pa.alt (O:Ok S rk) {b c:Nat}{l:List (Nat×Nat)} (h:Pa S b l c) (hb:om S b) :
  ((S.bd b).mark=1→(∀ i,i < l.length→i % 2=0→Mt S (l.getD i (0,0)))∧(S.bd c).mark=(if l.length % 2=0 then 1 else -1)) ∧
  ((S.bd b).mark = -1→(∀ i,i < l.length→i % 2=1→Mt S (l.getD i (0,0)))∧(S.bd c).mark=(if l.length % 2=0 then -1 else 1)):=by
 induction h with
 | nil=>exact ⟨fun h=>⟨fun i hi=>absurd hi (Nat.not_lt_zero _),h⟩,fun h=>⟨fun i hi=>absurd hi (Nat.not_lt_zero _),h⟩⟩
 | @even b y c l h1 h2 h3 ih =>
  obtain ⟨k1,k2,k3,k4,k5,k6,k7,k8,k9⟩:=O.evs hb h1 h2
  obtain ⟨i1,i2⟩:=(ih k4).2 k5
  refine ⟨fun _=>⟨fun i hi he=>?_,?_⟩,fun h=>by rw [h1] at h;cases h⟩
  ·cases i with
   | zero=>exact ⟨h2,k8,(by show (S.bd (S.out (S.bd b).tip)).tip=_;rw [k2];rfl),k7⟩
   | succ i=>exact i1 i (by rw [List.length_cons] at hi;omega) (by omega)
  ·rw [i2,List.length_cons]
   by_cases e:l.length % 2=0
   ·rw [if_pos e,if_neg (by omega)]
   ·rw [if_neg e,if_pos (by omega)]
 | @odd b x y c l h1 h2 h3 ih =>
  obtain ⟨k1,k2,k3,k4,k5,k6,k7⟩:=O.ods hb h1 h2
  obtain ⟨i1,i2⟩:=(ih k4).1 k5
  refine ⟨fun h=>(by rw [h1] at h;cases h),fun _=>⟨fun i hi he=>?_,?_⟩⟩
  ·cases i with
   | zero=>cases he
   | succ i=>exact i1 i (by rw [List.length_cons] at hi;omega) (by omega)
  ·rw [i2,List.length_cons]
   by_cases e:l.length % 2=0
   ·rw [if_pos e,if_neg (by omega)]
   ·rw [if_neg e,if_pos (by omega)]
theorem Pa.fn (O:Ok S rk) {b c:Nat}{l m:List (Nat×Nat)} (h:Pa S b l c) (hb:om S b) (g:Pa S b m c):l=m:=by
 induction h generalizing m with
 | nil =>
  cases g with
  | nil=>rfl
  | even h1 h2 h3 =>
   obtain ⟨k1,k2,k3,k4,k5,k6,_⟩:=O.evs hb h1 h2
   have:=(h3.rks O k4).2.2
   omega
  | odd h1 h2 h3 =>
   obtain ⟨k1,k2,k3,k4,k5,k6,_⟩:=O.ods hb h1 h2
   have:=(h3.rks O k4).2.2
   omega
 | even h1 h2 h3 ih =>
  obtain ⟨k1,k2,k3,k4,k5,k6,_⟩:=O.evs hb h1 h2
  cases g with
  | nil =>
   have:=(h3.rks O k4).2.2
   omega
  | even g1 g2 g3 =>
   rw [h2] at g2
   cases g2
   rw [ih k4 g3]
  | odd g1 g2 g3=>rw [h1] at g1;cases g1
 | odd h1 h2 h3 ih =>
  obtain ⟨k1,k2,k3,k4,k5,k6,_⟩:=O.ods hb h1 h2
  cases g with
  | nil =>
   have:=(h3.rks O k4).2.2
   omega
  | even g1 g2 g3=>rw [h1] at g1;cases g1
  | odd g1 g2 g3 =>
   rw [h2] at g2
   cases g2
   rw [ih k4 g3]
theorem Pa.from (O:Ok S rk) {b c:Nat}{l:List (Nat×Nat)} (h:Pa S b l c) (hb:om S b):∀ x∈bo S l,∃ m k,k ≠ []∧l=m++k∧Pa S x k c:=by
 induction h with
 | nil=>exact fun x h=>by cases h
 | even h1 h2 h3 ih =>
  obtain ⟨k1,k2,k3,k4,_⟩:=O.evs hb h1 h2
  intro x hx
  rcases List.mem_cons.mp hx with e | e
  ·refine ⟨[],_,?_,rfl,?_⟩
   ·exact List.cons_ne_nil _ _
   ·rw [e]
    have:S.out (S.bd _).tip=_:=k2
    show Pa S (S.out (S.bd _).tip) _ _
    rw [this]
    exact .even h1 h2 h3
  ·obtain ⟨m,k,j1,j2,j3⟩:=ih k4 x e
   exact ⟨_::m,k,j1,by rw [j2];rfl,j3⟩
 | odd h1 h2 h3 ih =>
  obtain ⟨k1,k2,k3,k4,_⟩:=O.ods hb h1 h2
  intro x hx
  rcases List.mem_cons.mp hx with e | e
  ·refine ⟨[],_,?_,rfl,?_⟩
   ·exact List.cons_ne_nil _ _
   ·rw [e]
    show Pa S (S.out _) _ _
    rw [k2]
    exact .odd h1 h2 h3
  ·obtain ⟨m,k,j1,j2,j3⟩:=ih k4 x e
   exact ⟨_::m,k,j1,by rw [j2];rfl,j3⟩
end
end Bl
namespace Bl
def rj (one other:List (Nat×Nat)) (u v:Nat):List (Nat×Nat):=one++other.reverse.map sw ++ [(v,u)]
section
variable {S:St}{rk:Nat→Nat}{u v t:Nat}{one other:List (Nat×Nat)}
theorem rj_len:(rj one other u v).length=one.length+other.length+1:=by unfold rj;rw [List.length_append,List.length_append,List.length_map,List.length_reverse];rfl
theorem bo_len {l:List (Nat×Nat)}:(bo S l).length=l.length:=by unfold bo;rw [List.length_map]
theorem rj_bo (O:Ok S rk) (hv:om S (S.out v)) (P2:Pa S (S.out v) other t):bo S (rj one other u v)=bo S one++(t::(bo S other).reverse):=by
 have h:=((P2.cn O hv).1).bos
 have e:bo S (rj one other u v)=bo S one++(bo S (other.reverse.map sw) ++ [S.out v]):=by
  unfold bo rj
  rw [List.map_append,List.map_append,List.append_assoc]
  rfl
 rw [e,h,List.reverse_append]
 rfl
theorem rj_one {i:Nat} (h:i < one.length):(rj one other u v).getD i (0,0)=one.getD i (0,0):=by
 unfold rj
 rw [List.append_assoc,List.getD_eq_getElem?_getD,List.getD_eq_getElem?_getD,List.getElem?_append_left h]
theorem rj_two {i:Nat} (h:i < other.length):(rj one other u v).getD (one.length+i) (0,0)=sw (other.getD (other.length-1-i) (0,0)):=by
 unfold rj
 have hl:(other.reverse.map sw).length=other.length:=by rw [List.length_map,List.length_reverse]
 rw [List.append_assoc,List.getD_eq_getElem?_getD,List.getD_eq_getElem?_getD,List.getElem?_append_right (by omega),show one.length+i-one.length=i by omega,List.getElem?_append_left (by omega),List.getElem?_map,List.getElem?_reverse h,List.getElem?_eq_getElem (by omega)]
 rfl
theorem getLast_app {α:Type}{m k:List α} (h:k ≠ []):(m++k).getLast? = k.getLast?:=by
 rw [List.getLast?_append]
 cases e:k.getLast? with
 | none=>exact absurd (List.getLast?_eq_none_iff.mp e) h
 | some x=>rfl
theorem ways_apart (O:Ok S rk) (hu:om S (S.out u)) (hv:om S (S.out v)) (P1:Pa S (S.out u) one t) (P2:Pa S (S.out v) other t) (hl:one = []∨other = []∨one.getLast? ≠ other.getLast?):∀ x∈bo S one,x ∉ bo S other:=by
 intro x h1 h2
 obtain ⟨m1,k1,n1,e1,p1⟩:=P1.from O hu x h1
 obtain ⟨m2,k2,n2,e2,p2⟩:=P2.from O hv x h2
 have hx:om S x:=((P1.rks O hu).1 x h1).2.2.2
 have ek:=p1.fn O hx p2
 rcases hl with z | z | z
 ·rw [z] at e1;exact n1 (List.append_eq_nil_iff.mp e1.symm).2
 ·rw [z] at e2;exact n2 (List.append_eq_nil_iff.mp e2.symm).2
 ·rw [e1,e2,ek,getLast_app n2,getLast_app n2] at z;exact z rfl
theorem ring_of (O:Ok S rk) (hu:u < S.n) (hv:v < S.n) (eu:(S.bd (S.out u)).mark=1) (ev:(S.bd (S.out v)).mark=1) (ne:S.out u≠S.out v) (ht:tight S u v)
  (P1:Pa S (S.out u) one t) (P2:Pa S (S.out v) other t) (mt:(S.bd t).mark=1) (hl:one = []∨other = []∨one.getLast? ≠ other.getLast?) :
  Rg S rk (bo S (rj one other u v)) (rj one other u v) one.length∧(bo S (rj one other u v)).getD one.length 0=t:=by
 have ou:om S (S.out u):=om_iff.mpr ⟨u,hu,rfl⟩
 have ov:om S (S.out v):=om_iff.mpr ⟨v,hv,rfl⟩
 have eb:=rj_bo (one:=one) (u:=u) O ov P2
 have n1:one.length % 2=0:=by
  have:=((P1.alt O ou).1 eu).2
  rw [mt] at this
  by_cases e:one.length % 2=0
  ·exact e
  ·rw [if_neg e] at this;cases this
 have n2:other.length % 2=0:=by
  have:=((P2.alt O ov).1 ev).2
  rw [mt] at this
  by_cases e:other.length % 2=0
  ·exact e
  ·rw [if_neg e] at this;cases this
 have a1:=((P1.alt O ou).1 eu).1
 have a2:=((P2.alt O ov).1 ev).1
 obtain ⟨r1,d1,_⟩:=P1.rks O ou
 obtain ⟨r2,d2,_⟩:=P2.rks O ov
 have k1:=P1.lks O ou
 have k2:=P2.lks O ov
 have c1:=P1.cn O ou
 have c2:=P2.cn O ov
 have nl:¬ (one.length=0∧other.length=0):=fun h=>by
  have e1:=List.length_eq_zero_iff.mp h.1
  have e2:=List.length_eq_zero_iff.mp h.2
  rw [e1] at c1
  rw [e2] at c2
  exact ne (c1.1.trans c2.1.symm)
 have nd:(bo S one++(t::(bo S other).reverse)).Nodup:=by
  refine List.nodup_append.mpr ⟨d1,List.nodup_cons.mpr ⟨fun h=>?_,?_⟩,fun x hx y hy e=>?_⟩
  ·have:=(r2 t (List.mem_reverse.mp h)).1;omega
  ·exact List.pairwise_reverse.mpr (List.Pairwise.imp (fun h=>h.symm) d2)
  ·subst e
   rcases List.mem_cons.mp hy with z | z
   ·have:=(r1 x hx).1;rw [z] at this;omega
   ·exact ways_apart O ou ov P1 P2 hl x hx (List.mem_reverse.mp z)
 have lb:(bo S (rj one other u v)).length=one.length+other.length+1:=by rw [bo_len,rj_len]
 have top:(bo S (rj one other u v)).getD one.length 0=t:=by
  rw [eb,List.getD_eq_getElem?_getD,List.getElem?_append_right (by rw [bo_len];exact Nat.le_refl _),bo_len,Nat.sub_self]
  rfl
 have mb:∀ i,i < one.length+other.length+1→(bo S (rj one other u v)).getD i 0∈bo S one++(t::(bo S other).reverse):=fun i hi=>by
  rw [←eb,List.getD_eq_getElem?_getD,List.getElem?_eq_getElem (by rw [lb];exact hi)]
  exact List.getElem_mem _
 have all:∀ x∈bo S one++(t::(bo S other).reverse),rk t≤rk x∧(S.bd x).mark≠0:=fun x hx=>by
  rcases List.mem_append.mp hx with z | z
  ·have:=r1 x z;exact ⟨by omega,this.2.2.1⟩
  ·rcases List.mem_cons.mp z with y | y
   ·rw [y,mt];exact ⟨Nat.le_refl _,by decide⟩
   ·have:=r2 x (List.mem_reverse.mp y);exact ⟨by omega,this.2.2.1⟩
 have cn:Cn S (S.out u) (rj one other u v) (S.out u):=(c1.1.app c2.1.rev).app ⟨rfl,rfl⟩
 have lks:∀ x∈rj one other u v,x.1 < S.n∧x.2 < S.n∧tight S x.1 x.2:=fun x hx=>by
  unfold rj at hx
  rcases List.mem_append.mp hx with z | z
  ·rcases List.mem_append.mp z with y | y
   ·exact k1 x y
   ·obtain ⟨w,hw,e⟩:=List.mem_map.mp y
    have:=k2 w (List.mem_reverse.mp hw)
    rw [←e]
    exact ⟨this.2.1,this.1,tight_comm this.2.2⟩
  ·rw [List.mem_singleton.mp z];exact ⟨hv,hu,tight_comm ht⟩
 have gm:∀ i,i < one.length+other.length+1→(rj one other u v).getD i (0,0)∈rj one other u v:=fun i hi=>by
  rw [List.getD_eq_getElem?_getD,List.getElem?_eq_getElem (by rw [rj_len];exact hi)]
  exact List.getElem_mem _
 have kd:∀ i,i < one.length+other.length+1→(bo S (rj one other u v)).getD i 0=S.out ((rj one other u v).getD i (0,0)).1:=fun i hi=>bo_at (by rw [rj_len];exact hi)
 have nx:∀ i,i < one.length+other.length+1→(bo S (rj one other u v)).getD ((i+1) % (one.length+other.length+1)) 0=S.out ((rj one other u v).getD i (0,0)).2:=fun i hi=>by
  rw [cn.nx i (by rw [rj_len];exact hi)]
  by_cases e:i+1 < one.length+other.length+1
  ·rw [Nat.mod_eq_of_lt e,List.getD_eq_getElem?_getD,List.getD_eq_getElem?_getD,List.getElem?_append_left (by rw [lb];exact e)]
  ·have e':i+1=one.length+other.length+1:=by omega
   rw [e',Nat.mod_self,List.getD_eq_getElem?_getD,List.getD_eq_getElem?_getD,List.getElem?_append_right (by rw [lb];omega),lb,Nat.sub_self,List.getElem?_cons_zero]
   have hh:=kd 0 (by omega)
   rw [List.getD_eq_getElem?_getD] at hh
   rw [hh]
   have:(S.out ((rj one other u v).getD 0 (0,0)).1)=S.out u:=by
    have:∀ {l:List (Nat×Nat)}{b c:Nat},l ≠ []→Cn S b l c→S.out (l.getD 0 (0,0)).1=b:=fun {l b c} hn h=>by
     cases l with
     | nil=>exact absurd rfl hn
     | cons x m=>exact h.1
    exact this (fun z=>by have:=rj_len (one:=one) (other:=other) (u:=u) (v:=v);rw [z] at this;simp only [List.length_nil] at this;omega) cn
   rw [this]
   rfl
 refine ⟨⟨by rw [bo_len],by rw [lb];omega,by rw [lb];omega,fun i hi=>?_,fun i hi=>?_,fun i hi=>?_,fun i hi j hj e=>?_,fun i hi=>?_,fun i hi=>?_,by rw [lb];omega,by rw [top];exact mt,fun i hi=>?_,fun o ho hlt=>?_⟩,top⟩
 ·rw [lb] at hi;have:=lks _ (gm i hi);exact ⟨this.1,this.2.1⟩
 ·rw [lb] at hi;exact kd i hi
 ·rw [lb] at hi;rw [lb];exact nx i hi
 ·rw [lb] at hi hj
  rw [eb] at e
  have hli:i < (bo S one++(t::(bo S other).reverse)).length:=by rw [←eb,lb];exact hi
  have hlj:j < (bo S one++(t::(bo S other).reverse)).length:=by rw [←eb,lb];exact hj
  rw [List.getD_eq_getElem?_getD,List.getD_eq_getElem?_getD,List.getElem?_eq_getElem hli,List.getElem?_eq_getElem hlj] at e
  have e':(bo S one++(t::(bo S other).reverse))[i] = (bo S one++(t::(bo S other).reverse))[j]:=e
  have pw:=List.pairwise_iff_getElem.mp nd
  rcases Nat.lt_trichotomy i j with h | h | h
  ·exact absurd e' (pw i j hli hlj h)
  ·exact h
  ·exact absurd e'.symm (pw j i hlj hli h)
 ·rw [lb] at hi;exact (lks _ (gm i hi)).2.2
 ·rw [lb] at hi;exact (all _ (mb i hi)).2
 ·rw [lb] at hi;rw [top];exact (all _ (mb i hi)).1
 ·rw [lb] at hlt
  have hi:=Nat.mod_lt (one.length+o) (show 0 < one.length+other.length+1 by omega)
  have mm:Mt S ((rj one other u v).getD ((one.length+o) % (one.length+other.length+1)) (0,0)):=by
   by_cases h:o < other.length
   ·rw [Nat.mod_eq_of_lt (by omega),rj_two h]
    exact (a2 _ (by omega) (by omega)).sw
   ·have e:(one.length+o) % (one.length+other.length+1)=o-other.length-1:=by
     rw [Nat.mod_eq_sub_mod (by omega),Nat.mod_eq_of_lt (by omega)];omega
    rw [e,rj_one (by omega)]
    exact a1 _ (by omega) (by omega)
  obtain ⟨q1,q2,q3,q4⟩:=mm
  have en:=nx _ hi
  rw [Nat.mod_add_mod] at en
  rw [lb,kd _ hi,en]
  exact ⟨q1,q2,q3,q4⟩
end
end Bl
namespace Bl
section
variable {S:St}{rk:Nat→Nat}
theorem Pa.snoc {b c d:Nat}{l m:List (Nat×Nat)} (h:Pa S b l c) (g:Pa S c m d):Pa S b (l++m) d:=by
 induction h with
 | nil=>exact g
 | even h1 h2 h3 ih=>exact .even h1 h2 (ih g)
 | odd h1 h2 h3 ih=>exact .odd h1 h2 (ih g)
theorem Pa.up {b c:Nat}{l:List (Nat×Nat)} (O:Ok S rk) (h:Pa S b l c) (hb:om S b) (hc:(S.bd c).mark=1) (hr:S.mt (S.bd c).tip=none) :
  ((S.bd b).mark=1→Up S b c)∧((S.bd b).mark = -1→∃ a e,(S.bd b).cm=some (a,e)∧Up S (S.out a) c):=by
 induction h with
 | nil=>exact ⟨fun _=>.root hr,fun h=>(by rw [hc] at h;cases h)⟩
 | even h1 h2 h3 ih =>
  obtain ⟨k1,k2,k3,k4,k5,_⟩:=O.evs hb h1 h2
  obtain ⟨a,e,i1,i2⟩:=(ih k4 hc hr).2 k5
  exact ⟨fun _=>.step h2 i1 i2,fun h=>(by rw [h1] at h;cases h)⟩
 | odd h1 h2 h3 ih =>
  obtain ⟨k1,k2,k3,k4,k5,_⟩:=O.ods hb h1 h2
  exact ⟨fun h=>(by rw [h1] at h;cases h),fun _=>⟨_,_,h2,(ih k4 hc hr).1 k5⟩⟩
theorem Pa.pop (O:Ok S rk):∀ {l:List (Nat×Nat)}{b c:Nat}{x:Nat×Nat},Pa S b (l ++ [x]) c→om S b→Pa S b l (S.out x.1)
 | [],b,c,x,h,hb=>by
  have:=(h.cn O hb).1.1
  rw [this];exact .nil
 | y::l,b,c,x,h,hb=>by
  cases h with
  | even h1 h2 h3 =>
   obtain ⟨k1,k2,k3,k4,_⟩:=O.evs hb h1 h2
   exact .even h1 h2 (h3.pop O k4)
  | odd h1 h2 h3 =>
   obtain ⟨k1,k2,k3,k4,_⟩:=O.ods hb h1 h2
   exact .odd h1 h2 (h3.pop O k4)
theorem last_at {l:List (Nat×Nat)} (h:l ≠ []):l.getLast? = some (l.getD (l.length-1) (0,0)):=by
 have hp:=List.length_pos_iff.mpr h
 rw [List.getLast?_eq_getElem?,List.getD_eq_getElem?_getD,List.getElem?_eq_getElem (by omega)]
 rfl
theorem top_even {u v t:Nat}{one other:List (Nat×Nat)} (O:Ok S rk) (hu:om S (S.out u)) (hv:om S (S.out v)) (eu:(S.bd (S.out u)).mark=1) (ev:(S.bd (S.out v)).mark=1)
  (P1:Pa S (S.out u) one t) (P2:Pa S (S.out v) other t) (hl:one = []∨other = []∨one.getLast? ≠ other.getLast?):(S.bd t).mark=1:=by
 obtain ⟨a1,m1⟩:=(P1.alt O hu).1 eu
 obtain ⟨a2,m2⟩:=(P2.alt O hv).1 ev
 by_cases e1:one.length % 2=0
 ·rw [m1,if_pos e1]
 ·by_cases e2:other.length % 2=0
  ·rw [m2,if_pos e2]
  ·exfalso
   have lst:∀ {w:Nat}{l:List (Nat×Nat)},om S (S.out w)→Pa S (S.out w) l t→(∀ i,i < l.length→i % 2=0→Mt S (l.getD i (0,0)))→¬ l.length % 2=0→l ≠ []∧∃ x,S.mt (S.bd t).tip=some x∧l.getD (l.length-1) (0,0)=(x,(S.bd t).tip):=fun {w l} hw P a e=>by
    have hp:0 < l.length:=by omega
    refine ⟨List.length_pos_iff.mp hp,?_⟩
    obtain ⟨q1,q2,q3,q4⟩:=a (l.length-1) (by omega) (by omega)
    have en:=(P.cn O hw).1.nx (l.length-1) (by omega)
    rw [show l.length-1+1=l.length by omega,List.getD_eq_getElem?_getD (l:=bo S l ++ [t]),List.getElem?_append_right (by rw [bo_len];exact Nat.le_refl _),bo_len,Nat.sub_self,List.getElem?_cons_zero] at en
    have en':S.out (l.getD (l.length-1) (0,0)).2=t:=en
    rw [en'] at q4
    exact ⟨(l.getD (l.length-1) (0,0)).1,by rw [q4];exact q2,by rw [q4]⟩
   obtain ⟨n1,x1,h1,g1⟩:=lst hu P1 a1 e1
   obtain ⟨n2,x2,h2,g2⟩:=lst hv P2 a2 e2
   rcases hl with z | z | z
   ·exact n1 z
   ·exact n2 z
   ·rw [h1] at h2
    cases h2
    exact z (by rw [last_at n1,last_at n2,g1,g2])
end
end Bl
namespace Bl
def nrS (S:St) (R p:Nat):Nat:=((List.range (cnt S R)).filter fun i=>p∈pl S (kid S R i)).headD 0
def openS (S:St) (R:Nat) (mk:Nat→Int) (cf:Nat→Option (Nat×Nat)):St :=
 { S with ids:=S.ids.filter fun b=>b≠R,bd:=fun b=>if b∈(S.bd R).inn then { S.bd b with mark:=mk b,cm:=cf b } else S.bd b,out:=fun p=>if p∈pl S R then kid S R (nrS S R p) else S.out p }
structure Op (S:St) (R i d:Nat) (w:Nat→Nat) (mk:Nat→Int) (cf:Nat→Option (Nat×Nat)):Prop where
 ev:d % 2=0
 dl:d < cnt S R
 lt:∀ k,k≤d→w k < cnt S R
 inj:∀ k,k≤d→∀ j,j≤d→w k=w j→k=j
 last:w d=i
 mo:∀ k,k≤d→mk (kid S R (w k))=if k % 2=0 then -1 else 1
 fr:∀ j,j < cnt S R→(∀ k,k≤d→w k≠j)→mk (kid S R j)=0
 pr:∀ k,k < d→k % 2=0→S.mt (S.bd (kid S R (w k))).tip=some (S.bd (kid S R (w (k+1)))).tip∧S.mt (S.bd (kid S R (w (k+1)))).tip=some (S.bd (kid S R (w k))).tip
 ca:∀ k,k < d→k % 2=1→∃ a e,cf (kid S R (w (k+1)))=some (a,e)∧a∈pl S (kid S R (w k))∧e∈pl S (kid S R (w (k+1)))∧tight S a e
 c0:∃ a e,(S.bd R).cm=some (a,e)∧cf (kid S R (w 0))=some (a,e)∧e∈pl S (kid S R (w 0))
theorem sumf {f:Nat→Int}{R:Nat} (h:f R=0):∀ l:List Nat,((l.filter fun b=>b≠R).map f).sum=(l.map f).sum
 | []=>rfl
 | a::l=>by
  by_cases e:a=R
  ·rw [List.filter_cons_of_neg (by simp [e]),List.map_cons,List.sum_cons,sumf h l,e,h];omega
  ·rw [List.filter_cons_of_pos (by simp [e]),List.map_cons,List.map_cons,List.sum_cons,List.sum_cons,sumf h l]
section
variable {S:St}{rk:Nat→Nat}{R i d:Nat}{w:Nat→Nat}{mk:Nat→Int}{cf:Nat→Option (Nat×Nat)}
theorem nr_ok (F:Fo S) (hR:R∈S.ids) {j p:Nat} (hj:j < cnt S R) (hp:p∈pl S (kid S R j)):nrS S R p=j:=by
 unfold nrS
 have hm:j∈(List.range (cnt S R)).filter fun i=>p∈pl S (kid S R i):=List.mem_filter.mpr ⟨List.mem_range.mpr hj,by simpa using hp⟩
 cases e:(List.range (cnt S R)).filter fun i=>p∈pl S (kid S R i) with
 | nil=>rw [e] at hm;cases hm
 | cons x l =>
  have hx:x∈(List.range (cnt S R)).filter fun i=>p∈pl S (kid S R i):=by rw [e];exact List.mem_cons_self ..
  obtain ⟨h1,h2⟩:=List.mem_filter.mp hx
  exact F.dis R hR x (List.mem_range.mp h1) j hj p (by simpa using h2) hp
theorem open_ok (O:Ok S rk) {p0:Nat} (hp0:p0 < S.n) (eR:S.out p0=R) (hr:(S.bd R).inn ≠ []) (hm:(S.bd R).mark = -1) (hpr:(S.bd R).pr=0) (Q:Mr S R i) (W:Op S R i d w mk cf) :
  ∃ rk',Ok (openS S R mk cf) rk':=by
 obtain ⟨F,L,D,M,T⟩:=O
 have hR:R∈S.ids:=by rw [←eR];exact (F.out p0 hp0).1
 obtain ⟨c3,codd,_⟩:=F.odd R hR hr
 have hc:0 < cnt S R:=by omega
 have i0:(i+0) % cnt S R=i:=by rw [Nat.add_zero];exact Nat.mod_eq_of_lt Q.lt
 have inR:∀ p,p∈pl S R→p < S.n∧S.out p=R:=fun p h=>by rw [←eR] at h ⊢;exact F.outq hp0 h
 have outR:∀ p,p < S.n→S.out p=R→p∈pl S R:=fun p hp e=>by rw [←e];exact (F.out p hp).2
 have kidn:∀ j,j < cnt S R→kid S R j∈S.ids:=F.kin R hR
 have kne:∀ j,j < cnt S R→kid S R j≠R:=fun j hj e=>by
  have:=F.kless hR hj
  rw [e] at this;omega
 have kinj:∀ j,j < cnt S R→∀ l,l < cnt S R→kid S R j=kid S R l→j=l:=fun j hj l hl e=>by
  obtain ⟨y,hy⟩:=List.exists_mem_of_ne_nil _ (F.ne _ (kidn j hj))
  exact F.dis R hR j hj l hl y hy (by rw [←e];exact hy)
 have kmem:∀ b,b∈(S.bd R).inn↔∃ j,j < cnt S R∧kid S R j=b:=fun b=>by
  constructor
  ·intro h
   obtain ⟨j,hj,e⟩:=List.mem_iff_getElem.mp h
   exact ⟨j,hj,by unfold kid;rw [List.getD_eq_getElem?_getD,List.getElem?_eq_getElem hj];exact e⟩
  ·rintro ⟨j,hj,e⟩
   rw [←e]
   unfold kid
   rw [List.getD_eq_getElem?_getD,List.getElem?_eq_getElem hj]
   exact List.getElem_mem _
 have konly:∀ p,p < S.n→∀ j,j < cnt S R→S.out p≠kid S R j:=fun p hp j hj e=>by
  have h1:p∈pl S (kid S R j):=by rw [←e];exact (F.out p hp).2
  have h2:=(inR p (F.ksub hR hj h1)).2
  exact kne j hj (by rw [←e];exact h2)
 have place:∀ p,p∈pl S R→∃ j,j < cnt S R∧p∈pl S (kid S R j):=fun p hp=>(F.mem R hR hr p).mp hp
 generalize hS':openS S R mk cf=S'
 have nS:S'.n=S.n:=by rw [←hS'];rfl
 have lS:S'.lk=S.lk:=by rw [←hS'];rfl
 have iS:S'.ids=S.ids.filter fun b=>b≠R:=by rw [←hS'];rfl
 have mS:S'.mt=S.mt:=by rw [←hS'];rfl
 have sS:S'.sm=S.sm:=by rw [←hS'];rfl
 have bS:∀ b,S'.bd b=if b∈(S.bd R).inn then { S.bd b with mark:=mk b,cm:=cf b } else S.bd b:=fun b=>by rw [←hS'];rfl
 have plS:∀ b,pl S' b=pl S b:=fun b=>by show (S'.bd b).pl=_;rw [bS];split <;> rfl
 have inS:∀ b,(S'.bd b).inn=(S.bd b).inn:=fun b=>by rw [bS];split <;> rfl
 have jtS:∀ b,(S'.bd b).jt=(S.bd b).jt:=fun b=>by rw [bS];split <;> rfl
 have prS:∀ b,(S'.bd b).pr=(S.bd b).pr:=fun b=>by rw [bS];split <;> rfl
 have tpS:∀ b,(S'.bd b).tip=(S.bd b).tip:=fun b=>by rw [bS];split <;> rfl
 have cS:∀ b,cnt S' b=cnt S b:=fun b=>by unfold cnt;rw [inS]
 have kS:∀ b j,kid S' b j=kid S b j:=fun b j=>by unfold kid;rw [inS]
 have jS:∀ b j,jnt S' b j=jnt S b j:=fun b j=>by unfold jnt;rw [jtS]
 have mkK:∀ j,j < cnt S R→(S'.bd (kid S R j)).mark=mk (kid S R j):=fun j hj=>by rw [bS,if_pos ((kmem _).mpr ⟨j,hj,rfl⟩)]
 have cmK:∀ j,j < cnt S R→(S'.bd (kid S R j)).cm=cf (kid S R j):=fun j hj=>by rw [bS,if_pos ((kmem _).mpr ⟨j,hj,rfl⟩)]
 have notk:∀ p,p < S.n→S.out p ∉ (S.bd R).inn:=fun p hp h=>by
  obtain ⟨j,hj,e⟩:=(kmem _).mp h
  exact konly p hp j hj e.symm
 have bO:∀ p,p < S.n→S'.bd (S.out p)=S.bd (S.out p):=fun p hp=>by rw [bS,if_neg (notk p hp)]
 have oI:∀ j,j < cnt S R→∀ p,p∈pl S (kid S R j)→S'.out p=kid S R j:=fun j hj p hp=>by
  rw [←hS']
  show (if p∈pl S R then kid S R (nrS S R p) else S.out p)=_
  rw [if_pos (F.ksub hR hj hp),nr_ok F hR hj hp]
 have oO:∀ p,p ∉ pl S R→S'.out p=S.out p:=fun p h=>by rw [←hS'];exact if_neg h
 have mem':∀ b,b∈S'.ids↔b∈S.ids∧b≠R:=fun b=>by rw [iS,List.mem_filter];simp
 have ofR:∀ b,b∈S.ids→(∀ q∈pl S R,q∈pl S b)→b=R:=fun b hb sub=>by
  obtain ⟨y,hy⟩:=List.exists_mem_of_ne_nil _ (F.ne R hR)
  refine F.same b hb R hR fun q=>⟨fun hq=>?_,sub q⟩
  have:=F.top b hb q hq y (sub y hy)
  rw [(inR y hy).2] at this
  exact outR q (F.lt b hb q hq) this
 have F':Fo S':=by
  refine ⟨?_,fun b hb=>?_,fun b hb=>?_,fun b hb=>?_,fun p hp=>?_,fun b hb p hp q hq=>?_,fun b hb e=>?_,fun b hb e=>?_,fun b hb j hj=>?_,fun b hb e p=>?_,fun b hb j hj l hl p h1 h2=>?_,fun b hb j hj=>?_,fun b hb e c hc' p hp hq=>?_,fun b hb c hc' e=>?_⟩
  ·rw [iS];exact List.Pairwise.filter _ F.nd
  ·rw [nS,plS];exact F.lt b ((mem' b).mp hb).1
  ·rw [plS];exact F.ne b ((mem' b).mp hb).1
  ·rw [plS];exact F.pnd b ((mem' b).mp hb).1
  ·rw [nS] at hp
   by_cases h:p∈pl S R
   ·obtain ⟨j,hj,hpj⟩:=place p h
    rw [oI j hj p hpj,plS]
    exact ⟨(mem' _).mpr ⟨kidn j hj,kne j hj⟩,hpj⟩
   ·rw [oO p h,plS]
    exact ⟨(mem' _).mpr ⟨(F.out p hp).1,fun e=>h (outR p hp e)⟩,(F.out p hp).2⟩
  ·obtain ⟨hb1,hb2⟩:=(mem' b).mp hb
   rw [plS] at hp hq
   have e:=F.top b hb1 p hp q hq
   by_cases h:p∈pl S R
   ·rcases F.low R hR hr b hb1 p hp h with y | ⟨j,hj,y⟩
    ·exact absurd (ofR b hb1 y) hb2
    ·rw [oI j hj p (y p hp),oI j hj q (y q hq)]
   ·have h':q ∉ pl S R:=fun y=>h (outR p (F.lt b hb1 p hp) (by rw [e];exact (inR q y).2))
    rw [oO p h,oO q h',e]
  ·rw [inS] at e;rw [plS,tpS];exact F.one b ((mem' b).mp hb).1 e
  ·rw [inS] at e;rw [cS,jtS];exact F.odd b ((mem' b).mp hb).1 e
  ·obtain ⟨hb1,hb2⟩:=(mem' b).mp hb
   rw [cS] at hj
   rw [kS]
   refine (mem' _).mpr ⟨F.kin b hb1 j hj,fun e=>hb2 (ofR b hb1 fun q hq=>F.ksub hb1 hj (by rw [e];exact hq))⟩
  ·rw [inS] at e
   rw [plS,cS,F.mem b ((mem' b).mp hb).1 e p]
   constructor
   ·rintro ⟨j,hj,y⟩;exact ⟨j,hj,by rw [kS,plS];exact y⟩
   ·rintro ⟨j,hj,y⟩;exact ⟨j,hj,by rw [kS,plS] at y;exact y⟩
  ·rw [cS] at hj hl
   rw [kS,plS] at h1 h2
   exact F.dis b ((mem' b).mp hb).1 j hj l hl p h1 h2
  ·rw [cS] at hj
   rw [cS,jS,kS,kS,plS,plS]
   exact F.jin b ((mem' b).mp hb).1 j hj
  ·rw [inS] at e
   rw [plS] at hp hq
   rcases F.low b ((mem' b).mp hb).1 e c ((mem' c).mp hc').1 p hp hq with y | ⟨j,hj,y⟩
   ·left;rw [plS,plS];exact y
   ·exact .inr ⟨j,by rw [cS];exact hj,by rw [plS,kS,plS];exact y⟩
  ·exact F.same b ((mem' b).mp hb).1 c ((mem' c).mp hc').1 fun p=>by have:=e p;rwa [plS,plS] at this
 have cutS:∀ u v,cut S' u v=cut S u v:=fun u v=>by
  unfold cut
  rw [iS,sumf (f:=fun b=>if xin S' b u v then (S'.bd b).pr else 0) (by show (if xin S' R u v then (S'.bd R).pr else 0)=0;rw [prS,hpr];split <;> rfl)]
  refine sumc fun b hb=>?_
  have ex:xin S' b u v↔xin S b u v:=by unfold xin;rw [plS]
  by_cases hx:xin S b u v
  ·rw [if_pos (ex.mpr hx),if_pos hx,prS]
  ·rw [if_neg (fun y=>hx (ex.mp y)),if_neg hx]
 have totS:∀ u,tot S' u=tot S u:=fun u=>by
  unfold tot
  rw [iS,sumf (f:=fun b=>if u∈pl S' b then (S'.bd b).pr else 0) (by show (if u∈pl S' R then (S'.bd R).pr else 0)=0;rw [prS,hpr];split <;> rfl)]
  exact sumc fun b hb=>by rw [plS,prS]
 have tiS:∀ u v,tight S u v→tight S' u v:=fun u v ⟨x,h1,h2⟩=>⟨x,by rw [lS];exact h1,by rw [cutS];exact h2⟩
 have D':Du S':=by
  refine ⟨fun p hp=>?_,fun b hb e=>?_,fun u v x hl=>?_,fun b hb j hj=>?_⟩
  ·rw [nS] at hp;rw [sS,totS];exact D.sm p hp
  ·rw [inS] at e;rw [prS];exact D.rg b ((mem' b).mp hb).1 e
  ·rw [lS] at hl;rw [cutS];exact D.fe u v x hl
  ·rw [cS] at hj;rw [jS];exact tiS _ _ (D.jt b ((mem' b).mp hb).1 j hj)
 have amS:∀ b,b∈S.ids→Am S b→Am S' b:=fun b hb a e he sub hre=>by
  rw [inS] at hre
  obtain ⟨x,Y⟩:=a e ((mem' e).mp he).1 (fun p hp=>by have:=sub p (by rw [plS];exact hp);rwa [plS] at this) hre
  refine ⟨x,⟨by rw [cS];exact Y.lt,by rw [kS,tpS,tpS];exact Y.tip,by rw [tpS,kS,plS];exact Y.tin,fun o ho hlt=>?_⟩⟩
  rw [cS] at hlt
  rw [cS,jS,kS,kS,tpS,tpS,mS]
  exact Y.par o ho hlt
 have amR:Am S R:=by rw [←eR];exact M.am p0 hp0
 have ktin:∀ j,j < cnt S R→(S.bd (kid S R j)).tip∈pl S (kid S R j):=fun j hj=>(inside F _ _ (Nat.le_refl _) (kidn j hj) (amR.kid F hR hj)).1
 have kmate:∀ j,j < cnt S R→j≠i→∃ l,l < cnt S R∧l≠i∧l≠j∧S.mt (S.bd (kid S R j)).tip=some (S.bd (kid S R l)).tip∧S.mt (S.bd (kid S R l)).tip=some (S.bd (kid S R j)).tip∧tight S (S.bd (kid S R j)).tip (S.bd (kid S R l)).tip:=fun j hj hji=>by
  obtain ⟨o,ho,eo⟩:=off_ex Q.lt hj
  have o0:o≠0:=fun e=>hji (by rw [←eo,e,i0])
  by_cases hodd:o % 2=1
  ·obtain ⟨m1,m2,t1,t2⟩:=Q.par o hodd ho
   rw [eo] at m1 m2 t1 t2
   refine ⟨(i+o+1) % cnt S R,Nat.mod_lt _ hc,fun e=>?_,fun e=>?_,by rw [t1,t2];exact m1,by rw [t1,t2];exact m2,by rw [t1,t2];exact D.jt R hR j hj⟩
   ·have:=off_inj (i:=i) (show o+1 < cnt S R by omega) hc (e.trans i0.symm)
    omega
   ·have:=off_inj (i:=i) (show o+1 < cnt S R by omega) ho (e.trans eo.symm)
    omega
  ·obtain ⟨m1,m2,t1,t2⟩:=Q.par (o-1) (by omega) (by omega)
   rw [show i+(o-1)+1=i+o by omega,eo] at t2
   have l1:=Nat.mod_lt (i+(o-1)) hc
   refine ⟨(i+(o-1)) % cnt S R,l1,fun e=>?_,fun e=>?_,by rw [t1,t2];exact m2,by rw [t1,t2];exact m1,by rw [t1,t2];exact tight_comm (D.jt R hR _ l1)⟩
   ·have:=off_inj (i:=i) (show o-1 < cnt S R by omega) hc (e.trans i0.symm)
    omega
   ·have:=off_inj (i:=i) (show o-1 < cnt S R by omega) ho (e.trans eo.symm)
    omega
 have tmate:∀ q,S.mt (S.bd (kid S R i)).tip=some q→q < S.n∧q ∉ pl S R∧(S.bd (S.out q)).tip=q∧S.mt q=some (S.bd (kid S R i)).tip∧tight S (S.bd (kid S R i)).tip q∧(S.bd (S.out q)).mark=1∧rk R < rk (S.out q):=fun q hq=>by
  rw [Q.tip] at hq ⊢
  have hq':S.mt (S.bd (S.out p0)).tip=some q:=by rw [eR];exact hq
  have:=M.ma p0 hp0 q hq'
  rw [eR] at this
  obtain ⟨m1,m2,m3,m4,m5⟩:=this
  have:=T.oddm p0 hp0 (by rw [eR];exact hm) q hq'
  rw [eR] at this
  exact ⟨m1,fun h=>m2 (inR q h).2,m3,m4,m5,this.1,this.2⟩
 have omate:∀ p,p < S.n→p ∉ pl S R→∀ q,S.mt (S.bd (S.out p)).tip=some q→q∈pl S R→q=(S.bd (kid S R i)).tip∧S'.out q=kid S R i:=fun p hp h q hq g=>by
  obtain ⟨m1,m2,m3,m4,m5⟩:=M.ma p hp q hq
  rw [(inR q g).2,←Q.tip] at m3
  exact ⟨m3.symm,oI i Q.lt q (by rw [←m3];exact ktin i Q.lt)⟩
 have M':Ma S':=by
  refine ⟨fun p hp=>?_,fun p hp q hq=>?_⟩
  ·rw [nS] at hp
   by_cases h:p∈pl S R
   ·obtain ⟨j,hj,hpj⟩:=place p h
    rw [oI j hj p hpj];exact amS _ (kidn j hj) (amR.kid F hR hj)
   ·rw [oO p h];exact amS _ (F.out p hp).1 (M.am p hp)
  ·rw [nS] at hp ⊢
   rw [mS,tpS] at hq
   rw [mS,tpS,tpS]
   by_cases h:p∈pl S R
   ·obtain ⟨j,hj,hpj⟩:=place p h
    rw [oI j hj p hpj] at hq ⊢
    by_cases e:j=i
    ·subst e
     obtain ⟨m1,m2,m3,m4,m5,_⟩:=tmate q hq
     rw [oO q m2]
     exact ⟨m1,konly q m1 j hj,m3,m4,tiS _ _ m5⟩
    ·obtain ⟨l,hl,li,lj,k1,k2,k3⟩:=kmate j hj e
     rw [k1] at hq
     cases hq
     rw [oI l hl _ (ktin l hl)]
     exact ⟨F.lt _ (kidn l hl) _ (ktin l hl),fun z=>lj (kinj l hl j hj z),rfl,k2,tiS _ _ k3⟩
   ·rw [oO p h] at hq ⊢
    obtain ⟨m1,m2,m3,m4,m5⟩:=M.ma p hp q hq
    by_cases g:q∈pl S R
    ·obtain ⟨e1,e2⟩:=omate p hp h q hq g
     rw [e2]
     exact ⟨m1,fun z=>konly p hp i Q.lt z.symm,e1.symm,m4,tiS _ _ m5⟩
    ·rw [oO q g];exact ⟨m1,m2,m3,m4,tiS _ _ m5⟩
 have posd:∀ j,j < cnt S R→(∃ k,k≤d∧w k=j)∨∀ k,k≤d→w k≠j:=fun j _=>by
  by_cases h:∃ k,k≤d∧w k=j
  ·exact .inl h
  ·exact .inr fun k hk e=>h ⟨k,hk,e⟩
 have dec:∃ pos:Nat→Nat,∀ k,k≤d→pos (kid S R (w k))=k:=by
  classical
  refine ⟨fun b=>if h:∃ k,k≤d∧kid S R (w k)=b then h.choose else 0,fun k hk=>?_⟩
  have hx:∃ k',k' ≤ d∧kid S R (w k')=kid S R (w k):=⟨k,hk,rfl⟩
  show (if h:∃ k',k' ≤ d∧kid S R (w k')=kid S R (w k) then h.choose else 0)=k
  rw [dif_pos hx]
  obtain ⟨h1,h2⟩:=hx.choose_spec
  exact W.inj _ h1 k hk (kinj _ (W.lt _ h1) _ (W.lt k hk) h2)
 obtain ⟨pos,hpos⟩:=dec
 let rk':Nat→Nat:=fun b=>if b∈(S.bd R).inn then (d+1)*rk R+pos b else (d+1)*rk b
 have rK:∀ k,k≤d→rk' (kid S R (w k))=(d+1)*rk R+k:=fun k hk=>by
  show (if _ then _ else _)=_
  rw [if_pos ((kmem _).mpr ⟨w k,W.lt k hk,rfl⟩),hpos k hk]
 have rO:∀ p,p < S.n→rk' (S.out p)=(d+1)*rk (S.out p):=fun p hp=>by
  show (if _ then _ else _)=_
  rw [if_neg (notk p hp)]
 have mulle:∀ a b,a < b→(d+1)*a+(d+1)≤(d+1)*b:=fun a b h=>by
  have:=Nat.mul_le_mul_left (d+1) (show a+1≤b from h)
  rw [Nat.mul_add,Nat.mul_one] at this
  exact this
 have parR:∀ p,p∈pl S R→(S.bd (S.out p)).mark≠0:=fun p hp=>by rw [(inR p hp).2,hm];decide
 have mks:∀ j,j < cnt S R→mk (kid S R j)=1∨mk (kid S R j)=0∨mk (kid S R j) = -1:=fun j hj=>by
  rcases posd j hj with ⟨k,hk,e⟩ | h
  ·rw [←e,W.mo k hk];split
   ·exact .inr (.inr rfl)
   ·exact .inl rfl
  ·exact .inr (.inl (W.fr j hj h))
 have wpos:∀ j,j < cnt S R→mk (kid S R j)≠0→∃ k,k≤d∧w k=j:=fun j hj h=>by
  rcases posd j hj with z | z
  ·exact z
  ·exact absurd (W.fr j hj z) h
 refine ⟨rk',F',⟨by rw [lS,nS];exact L.lt,by rw [lS];exact L.even⟩,D',M',⟨fun p hp=>?_,fun p hp h=>?_,fun p hp h q hq=>?_,fun p hp h=>?_,fun p hp h q hq=>?_,fun p hp h q hq=>?_,fun p q hp hq h1 h2=>?_,fun p q hp hq h1 h2=>?_⟩⟩
 ·rw [nS] at hp
  by_cases g:p∈pl S R
  ·obtain ⟨j,hj,hpj⟩:=place p g
   rw [oI j hj p hpj,mkK j hj];exact mks j hj
  ·rw [oO p g,bO p hp];exact T.mks p hp
 ·rw [nS] at hp
  rw [mS,tpS] at h
  by_cases g:p∈pl S R
  ·obtain ⟨j,hj,hpj⟩:=place p g
   rw [oI j hj p hpj] at h
   by_cases e:j=i
   ·rw [e,Q.tip] at h
    have:=T.root p0 hp0 (by rw [eR];exact h)
    rw [eR,hm] at this;cases this
   ·obtain ⟨l,_,_,_,k1,_⟩:=kmate j hj e
    rw [h] at k1;cases k1
  ·rw [oO p g] at h;rw [oO p g,bO p hp];exact T.root p hp h
 ·rw [nS] at hp
  rw [mS,tpS] at hq
  by_cases g:p∈pl S R
  ·obtain ⟨j,hj,hpj⟩:=place p g
   rw [oI j hj p hpj] at hq h
   rw [mkK j hj] at h
   have ji:j≠i:=fun e=>by
    have:=W.mo d (Nat.le_refl _)
    rw [W.last,if_pos W.ev,←e,h] at this;cases this
   obtain ⟨l,hl,li,lj,k1,k2,k3⟩:=kmate j hj ji
   rw [k1] at hq
   cases hq
   rw [oI l hl _ (ktin l hl),mkK l hl]
   rcases posd l hl with ⟨k,hk,e⟩ | z
   ·exfalso
    have kd:k < d:=by
     rcases Nat.lt_or_ge k d with y | y
     ·exact y
     ·exact absurd (by rw [←e,show k=d by omega,W.last]) li
    have hw:∃ k',k' ≤ d∧kid S R (w k')=kid S R j:=by
     have back:∀ k',k' ≤ d→S.mt (S.bd (kid S R l)).tip=some (S.bd (kid S R (w k'))).tip→kid S R (w k')=kid S R j:=fun k' hk' y=>by
      rw [k2] at y
      have y':=Option.some.inj y
      have h1:=ktin j hj
      rw [y'] at h1
      have:=F.dis R hR j hj (w k') (W.lt k' hk') _ h1 (ktin _ (W.lt k' hk'))
      rw [←this]
     by_cases ke:k % 2=0
     ·exact ⟨k+1,kd,back (k+1) kd (by rw [←e];exact (W.pr k kd ke).1)⟩
     ·have:=(W.pr (k-1) (by omega) (by omega)).2
      rw [show k-1+1=k by omega,e] at this
      exact ⟨k-1,by omega,back (k-1) (by omega) this⟩
    obtain ⟨k',hk',e'⟩:=hw
    have:=W.mo k' hk'
    rw [e',h] at this
    split at this <;> cases this
   ·exact W.fr l hl z
  ·rw [oO p g] at hq h
   rw [bO p hp] at h
   have m:=T.free p hp h q hq
   have m1:=(M.ma p hp q hq).1
   have gq:q ∉ pl S R:=fun y=>parR q y m
   rw [oO q gq,bO q m1];exact m
 ·rw [nS] at hp ⊢
  by_cases g:p∈pl S R
  ·obtain ⟨j,hj,hpj⟩:=place p g
   rw [oI j hj p hpj] at h ⊢
   rw [mkK j hj] at h
   rw [cmK j hj]
   obtain ⟨k,hk,e⟩:=wpos j hj (by rw [h];decide)
   have mo:=W.mo k hk
   rw [e,h] at mo
   have ke:k % 2=0:=by
    by_cases y:k % 2=0
    ·exact y
    ·rw [if_neg y] at mo;cases mo
   by_cases k0:k=0
   ·obtain ⟨a,e1,q1,q2,q3⟩:=W.c0
    rw [k0] at e
    rw [e] at q2 q3
    obtain ⟨a',e',h1,h2,h3,h4,h5,h6,h7⟩:=T.odd p0 hp0 (by rw [eR];exact hm)
    rw [eR,q1] at h1
    cases h1
    have ga:a ∉ pl S R:=fun y=>by
     rw [(inR a y).2,hm] at h5;cases h5
    refine ⟨a,e1,q2,h2,h3,oI j hj e1 q3,by rw [oO a ga,bO a h2];exact h5,tiS _ _ h6,?_⟩
    rw [oO a ga,rO a h2,←e,rK 0 (Nat.zero_le _)]
    rw [eR] at h7
    have:=mulle _ _ h7
    omega
   ·obtain ⟨a,e1,q1,q2,q3,q4⟩:=W.ca (k-1) (by omega) (by omega)
    rw [show k-1+1=k by omega,e] at q1 q3
    have l1:=W.lt (k-1) (by omega)
    refine ⟨a,e1,q1,F.lt _ (kidn _ l1) _ q2,F.lt _ (kidn j hj) _ q3,oI j hj e1 q3,?_,tiS _ _ q4,?_⟩
    ·rw [oI _ l1 a q2,mkK _ l1,W.mo (k-1) (by omega),if_neg (by omega)]
    ·rw [oI _ l1 a q2,rK (k-1) (by omega),←e,rK k hk];omega
  ·rw [oO p g] at h ⊢
   rw [bO p hp] at h ⊢
   obtain ⟨a,e,h1,h2,h3,h4,h5,h6,h7⟩:=T.odd p hp h
   have ge:e ∉ pl S R:=fun y=>g (outR p hp (by rw [←h4];exact (inR e y).2))
   have ga:a ∉ pl S R:=fun y=>by rw [(inR a y).2,hm] at h5;cases h5
   refine ⟨a,e,h1,h2,h3,by rw [oO e ge];exact h4,by rw [oO a ga,bO a h2];exact h5,tiS _ _ h6,?_⟩
   rw [oO a ga,rO a h2,rO p hp]
   have:=mulle _ _ h7
   omega
 ·rw [nS] at hp
  rw [mS,tpS] at hq
  by_cases g:p∈pl S R
  ·obtain ⟨j,hj,hpj⟩:=place p g
   rw [oI j hj p hpj] at h hq ⊢
   rw [mkK j hj] at h
   obtain ⟨k,hk,e⟩:=wpos j hj (by rw [h];decide)
   have mo:=W.mo k hk
   rw [e,h] at mo
   have ke:k % 2=0:=by
    by_cases y:k % 2=0
    ·exact y
    ·rw [if_neg y] at mo;cases mo
   by_cases kd:k=d
   ·have ji:j=i:=by rw [←e,kd,W.last]
    rw [ji] at hq
    obtain ⟨m1,m2,m3,m4,m5,m6,m7⟩:=tmate q hq
    rw [oO q m2,bO q m1]
    refine ⟨m6,?_⟩
    rw [rO q m1,←e,rK k hk]
    have:=mulle _ _ m7
    omega
   ·have:=(W.pr k (by omega) ke).1
    rw [e,hq] at this
    cases this
    have l1:=W.lt (k+1) (by omega)
    rw [oI _ l1 _ (ktin _ l1),mkK _ l1,W.mo (k+1) (by omega),if_neg (by omega)]
    refine ⟨rfl,?_⟩
    rw [←e,rK k hk,rK (k+1) (by omega)];omega
  ·rw [oO p g] at h hq ⊢
   rw [bO p hp] at h
   obtain ⟨h1,h2⟩:=T.oddm p hp h q hq
   have m1:=(M.ma p hp q hq).1
   have gq:q ∉ pl S R:=fun y=>by rw [(inR q y).2,hm] at h1;cases h1
   rw [oO q gq,bO q m1]
   refine ⟨h1,?_⟩
   rw [rO p hp,rO q m1]
   have:=mulle _ _ h2
   omega
 ·rw [nS] at hp
  rw [mS,tpS] at hq
  by_cases g:p∈pl S R
  ·obtain ⟨j,hj,hpj⟩:=place p g
   rw [oI j hj p hpj] at h hq
   rw [mkK j hj] at h
   obtain ⟨k,hk,e⟩:=wpos j hj (by rw [h];decide)
   have mo:=W.mo k hk
   rw [e,h] at mo
   have ke:k % 2=1:=by
    by_cases y:k % 2=0
    ·rw [if_pos y] at mo;cases mo
    ·omega
   have:=(W.pr (k-1) (by omega) (by omega)).2
   rw [show k-1+1=k by omega,e,hq] at this
   cases this
   have l1:=W.lt (k-1) (by omega)
   rw [oI _ l1 _ (ktin _ l1),mkK _ l1,W.mo (k-1) (by omega),if_pos (by omega)]
  ·rw [oO p g] at h hq
   rw [bO p hp] at h
   have m:=T.even p hp h q hq
   have m1:=(M.ma p hp q hq).1
   by_cases gq:q∈pl S R
   ·obtain ⟨e1,e2⟩:=omate p hp g q hq gq
    rw [e2,mkK i Q.lt]
    have:=W.mo d (Nat.le_refl _)
    rw [W.last,if_pos W.ev] at this
    exact this
   ·rw [oO q gq,bO q m1];exact m
 ·rw [nS] at hp hq
  rw [sS]
  refine T.par p q hp hq ?_ ?_
  ·by_cases g:p∈pl S R
   ·exact parR p g
   ·rw [oO p g,bO p hp] at h1;exact h1
  ·by_cases g:q∈pl S R
   ·exact parR q g
   ·rw [oO q g,bO q hq] at h2;exact h2
 ·rw [nS] at hp hq;rw [mS] at h1 h2;rw [sS];exact T.al p q hp hq h1 h2
end
end Bl
namespace Bl
structure Wy (S:St) (R i n0 d:Nat) (w:Nat→Nat) (jl:Nat→Nat×Nat):Prop where
 ev:d % 2=0
 dl:d < cnt S R
 lt:∀ k,k≤d→w k < cnt S R
 inj:∀ k,k≤d→∀ j,j≤d→w k=w j→k=j
 frst:w 0=n0
 last:w d=i
 pr:∀ k,k < d→k % 2=0→S.mt (S.bd (kid S R (w k))).tip=some (S.bd (kid S R (w (k+1)))).tip∧S.mt (S.bd (kid S R (w (k+1)))).tip=some (S.bd (kid S R (w k))).tip
 ca:∀ k,k < d→k % 2=1→(jl k).1∈pl S (kid S R (w k))∧(jl k).2∈pl S (kid S R (w (k+1)))∧tight S (jl k).1 (jl k).2
section
variable {S:St}{R i n0:Nat}
theorem Wy.op {d:Nat}{w:Nat→Nat}{jl:Nat→Nat×Nat}{mk:Nat→Int}{cf:Nat→Option (Nat×Nat)} (W:Wy S R i n0 d w jl)
  (mo:∀ k,k≤d→mk (kid S R (w k))=if k % 2=0 then -1 else 1) (fr:∀ j,j < cnt S R→(∀ k,k≤d→w k≠j)→mk (kid S R j)=0)
  (ca:∀ k,k < d→k % 2=1→cf (kid S R (w (k+1)))=some (jl k)) {a e:Nat} (c0:(S.bd R).cm=some (a,e)) (c1:cf (kid S R n0)=some (a,e)) (he:e∈pl S (kid S R n0)):Op S R i d w mk cf :=
 ⟨W.ev,W.dl,W.lt,W.inj,W.last,mo,fr,W.pr,fun k h1 h2=>⟨(jl k).1,(jl k).2,ca k h1 h2,W.ca k h1 h2⟩,⟨a,e,c0,by rw [W.frst];exact c1,by rw [W.frst];exact he⟩⟩
theorem mod_off {c a b:Nat} (h:a % c=b % c) (k:Nat):(a+k) % c=(b+k) % c:=by rw [Nat.add_mod,h,←Nat.add_mod]
theorem way_fwd (F:Fo S) (D:Du S) (hR:R∈S.ids) (Q:Mr S R i) (hn:n0 < cnt S R) (hd:(i+cnt S R-n0) % cnt S R % 2=0) :
  Wy S R i n0 ((i+cnt S R-n0) % cnt S R) (fun k=>(n0+k) % cnt S R) (fun k=>jnt S R ((n0+k) % cnt S R)):=by
 obtain ⟨c3,codd,_⟩:=F.odd R hR (F.ring Q.lt)
 have hc:0 < cnt S R:=by omega
 have hi:=Q.lt
 generalize hd':(i+cnt S R-n0) % cnt S R=d at *
 have dl:d < cnt S R:=by rw [←hd'];exact Nat.mod_lt _ hc
 have last:(n0+d) % cnt S R=i:=by
  rw [←hd',Nat.add_mod_mod,show n0+(i+cnt S R-n0)=i+cnt S R by omega,Nat.add_mod_right,Nat.mod_eq_of_lt hi]
 have hof:∀ k,k≤d→(n0+k) % cnt S R=(i+(cnt S R-d+k)) % cnt S R:=fun k hk=>by
  have h1:(n0+d+(cnt S R-d+k)) % cnt S R=(i+(cnt S R-d+k)) % cnt S R:=mod_off (by rw [last,Nat.mod_eq_of_lt hi]) _
  rw [←h1,show n0+d+(cnt S R-d+k)=n0+k+cnt S R by omega,Nat.add_mod_right]
 refine ⟨hd,dl,fun k _=>Nat.mod_lt _ hc,fun k hk j hj e=>off_inj (by omega) (by omega) e,by rw [Nat.add_zero];exact Nat.mod_eq_of_lt hn,last,fun k hk ke=>?_,fun k hk ke=>?_⟩
 ·obtain ⟨m1,m2,t1,t2⟩:=Q.par (cnt S R-d+k) (by omega) (by omega)
  have e1:=hof k (by omega)
  have e2:=hof (k+1) (by omega)
  show S.mt (S.bd (kid S R ((n0+k) % cnt S R))).tip=some (S.bd (kid S R ((n0+(k+1)) % cnt S R))).tip∧S.mt (S.bd (kid S R ((n0+(k+1)) % cnt S R))).tip=some (S.bd (kid S R ((n0+k) % cnt S R))).tip
  rw [e1,e2,t1,show i+(cnt S R-d+(k+1))=i+(cnt S R-d+k)+1 by omega,t2]
  exact ⟨m1,m2⟩
 ·have hj:=Nat.mod_lt (n0+k) hc
  obtain ⟨j1,j2⟩:=F.jin R hR _ hj
  rw [Nat.mod_add_mod] at j2
  exact ⟨j1,j2,D.jt R hR _ hj⟩
theorem way_bwd (F:Fo S) (D:Du S) (hR:R∈S.ids) (Q:Mr S R i) (hn:n0 < cnt S R) (hd:(n0+cnt S R-i) % cnt S R % 2=0) :
  Wy S R i n0 ((n0+cnt S R-i) % cnt S R) (fun k=>(n0+cnt S R-k) % cnt S R) (fun k=>sw (jnt S R ((n0+cnt S R-(k+1)) % cnt S R))):=by
 obtain ⟨c3,codd,_⟩:=F.odd R hR (F.ring Q.lt)
 have hc:0 < cnt S R:=by omega
 have hi:=Q.lt
 generalize hd':(n0+cnt S R-i) % cnt S R=d at *
 have dl:d < cnt S R:=by rw [←hd'];exact Nat.mod_lt _ hc
 have fst:(i+d) % cnt S R=n0:=by
  rw [←hd',Nat.add_mod_mod,show i+(n0+cnt S R-i)=n0+cnt S R by omega,Nat.add_mod_right,Nat.mod_eq_of_lt hn]
 have hof:∀ k,k≤d→(n0+cnt S R-k) % cnt S R=(i+(d-k)) % cnt S R:=fun k hk=>by
  have h1:(i+d+(cnt S R-k)) % cnt S R=(n0+(cnt S R-k)) % cnt S R:=mod_off (by rw [fst,Nat.mod_eq_of_lt hn]) _
  rw [show n0+cnt S R-k=n0+(cnt S R-k) by omega,←h1,show i+d+(cnt S R-k)=i+(d-k)+cnt S R by omega,Nat.add_mod_right]
 refine ⟨hd,dl,fun k _=>Nat.mod_lt _ hc,fun k hk j hj e=>?_,by rw [Nat.sub_zero,Nat.add_mod_right];exact Nat.mod_eq_of_lt hn,?_,fun k hk ke=>?_,fun k hk ke=>?_⟩
 ·have e':(n0+cnt S R-k) % cnt S R=(n0+cnt S R-j) % cnt S R:=e
  rw [hof k hk,hof j hj] at e'
  have:=off_inj (by omega) (by omega) e'
  omega
 ·show (n0+cnt S R-d) % cnt S R=i
  rw [hof d (Nat.le_refl _),Nat.sub_self,Nat.add_zero,Nat.mod_eq_of_lt hi]
 ·obtain ⟨m1,m2,t1,t2⟩:=Q.par (d-(k+1)) (by omega) (by omega)
  have e1:=hof k (by omega)
  have e2:=hof (k+1) (by omega)
  show S.mt (S.bd (kid S R ((n0+cnt S R-k) % cnt S R))).tip=some (S.bd (kid S R ((n0+cnt S R-(k+1)) % cnt S R))).tip∧S.mt (S.bd (kid S R ((n0+cnt S R-(k+1)) % cnt S R))).tip=some (S.bd (kid S R ((n0+cnt S R-k) % cnt S R))).tip
  rw [e1,e2,t1,show i+(d-k)=i+(d-(k+1))+1 by omega,t2]
  exact ⟨m2,m1⟩
 ·have e1:=hof k (by omega)
  have e2:=hof (k+1) (by omega)
  have hj:=Nat.mod_lt (i+(d-(k+1))) hc
  obtain ⟨j1,j2⟩:=F.jin R hR _ hj
  rw [Nat.mod_add_mod,show i+(d-(k+1))+1=i+(d-k) by omega,←e1] at j2
  show (jnt S R ((n0+cnt S R-(k+1)) % cnt S R)).2∈pl S (kid S R ((n0+cnt S R-k) % cnt S R))∧(jnt S R ((n0+cnt S R-(k+1)) % cnt S R)).1∈pl S (kid S R ((n0+cnt S R-(k+1)) % cnt S R))∧tight S (jnt S R ((n0+cnt S R-(k+1)) % cnt S R)).2 (jnt S R ((n0+cnt S R-(k+1)) % cnt S R)).1
  rw [e2]
  exact ⟨j2,j1,tight_comm (D.jt R hR _ hj)⟩
theorem way_one {c i n0:Nat} (hc:c % 2=1) (hi:i < c) (hn:n0 < c) (h:¬ (i+c-n0) % c % 2=0):(n0+c-i) % c % 2=0:=by
 by_cases e:n0≤i
 ·have e1:(i+c-n0) % c=i-n0:=by rw [show i+c-n0=i-n0+c by omega,Nat.add_mod_right];exact Nat.mod_eq_of_lt (by omega)
  rw [e1] at h
  have e3:(n0+c-i) % c=n0+c-i:=Nat.mod_eq_of_lt (by omega)
  rw [e3];omega
 ·have e1:(i+c-n0) % c=i+c-n0:=Nat.mod_eq_of_lt (by omega)
  rw [e1] at h
  have e3:(n0+c-i) % c=n0-i:=by rw [show n0+c-i=n0-i+c by omega,Nat.add_mod_right];exact Nat.mod_eq_of_lt (by omega)
  rw [e3];omega
end
end Bl
namespace Bl
section
variable {S:St}{rk:Nat→Nat}{d:Int}
theorem lift_zero:liftS S 0=S:=by
 have h1:(liftS S 0).bd=S.bd:=funext fun b=>by
  show (if om S b then { S.bd b with pr:=(S.bd b).pr+(S.bd b).mark*0 } else S.bd b)=S.bd b
  split
  ·rw [Int.mul_zero,Int.add_zero]
  ·rfl
 have h2:(liftS S 0).sm=S.sm:=funext fun p=>by
  show S.sm p+(S.bd (S.out p)).mark*0=S.sm p
  rw [Int.mul_zero,Int.add_zero]
 show ({ S with bd:=(liftS S 0).bd,sm:=(liftS S 0).sm }:St)=S
 rw [h1,h2]
theorem slack_nn (O:Ok S rk) {u v:Nat}{t:Int} (h:(u,v,t)∈S.lk) (ne:S.out u≠S.out v):0≤t-S.sm u-S.sm v:=by
 have hl:=O.lk.lt u v t h
 have:=O.du.fe u v t h
 rw [cut_tot O.fo ne,←O.du.sm u (by omega),←O.du.sm v (by omega)] at this
 omega
theorem rise_ok (O:Ok S rk) (hd:0≤d) (he:∀ u v t,(u,v,t)∈S.lk→S.out u≠S.out v→0 < (S.bd (S.out u)).mark+(S.bd (S.out v)).mark→d≤(t-S.sm u-S.sm v) / ((S.bd (S.out u)).mark+(S.bd (S.out v)).mark))
  (hr:∀ b,om S b→(S.bd b).inn ≠ []→(S.bd b).mark = -1→d≤(S.bd b).pr):Ok (liftS S d) rk:=by
 refine lift_ok O hd (fun u v t h ne=>?_) hr
 have sn:=slack_nn O h ne
 by_cases hp:0 < (S.bd (S.out u)).mark+(S.bd (S.out v)).mark
 ·have h1:=he u v t h ne hp
  have h2:=Int.mul_le_mul_of_nonneg_left h1 (Int.le_of_lt hp)
  have h3:=Int.mul_ediv_self_le (x:=t-S.sm u-S.sm v) (k:=(S.bd (S.out u)).mark+(S.bd (S.out v)).mark) (by omega)
  omega
 ·have h2:=Int.mul_le_mul_of_nonneg_right (show (S.bd (S.out u)).mark+(S.bd (S.out v)).mark≤0 by omega) hd
  rw [Int.zero_mul] at h2
  omega
theorem rise_tight (O:Ok S rk) {u v:Nat}{t:Int} (h:(u,v,t)∈S.lk) (ne:S.out u≠S.out v) (hp:0 < (S.bd (S.out u)).mark+(S.bd (S.out v)).mark) (e:d=(t-S.sm u-S.sm v) / ((S.bd (S.out u)).mark+(S.bd (S.out v)).mark)):tight (liftS S d) u v:=by
 have hl:=O.lk.lt u v t h
 have ev:=O.lk.even u v t h
 refine ⟨t,.inl h,?_⟩
 rw [lift_cut O.fo O.du (by omega) (by omega) ne]
 have key:((S.bd (S.out u)).mark+(S.bd (S.out v)).mark)*d=t-S.sm u-S.sm v:=by
  rw [e]
  rcases O.tr.mks u (by omega) with a | a | a <;> rcases O.tr.mks v (by omega) with b | b | b <;> rw [a,b] at hp ⊢
  ·have:=O.tr.par u v (by omega) (by omega) (by rw [a];decide) (by rw [b];decide)
   omega
  ·omega
  ·omega
  ·omega
  ·omega
  ·omega
  ·omega
  ·omega
  ·omega
 omega
end
def num (n:Nat) (P:Nat→Bool):Nat:=((List.range n).filter P).length
theorem flt_le {P Q:Nat→Bool}:∀ {l:List Nat},(∀ x∈l,P x=true→Q x=true)→(l.filter P).length≤(l.filter Q).length
 | [],_=>Nat.le_refl _
 | a::l,h=>by
  have ih:=flt_le (l:=l) fun x hx=>h x (List.mem_cons_of_mem _ hx)
  cases hp:P a with
  | true=>rw [List.filter_cons_of_pos hp,List.filter_cons_of_pos (h a (List.mem_cons_self ..) hp),List.length_cons,List.length_cons];omega
  | false =>
   rw [List.filter_cons_of_neg (by rw [hp];decide)]
   cases hq:Q a with
   | true=>rw [List.filter_cons_of_pos hq,List.length_cons];omega
   | false=>rw [List.filter_cons_of_neg (by rw [hq];decide)];exact ih
theorem flt_lt {P Q:Nat→Bool}{y:Nat}:∀ {l:List Nat},(∀ x∈l,P x=true→Q x=true)→y∈l→Q y=true→P y=false→(l.filter P).length < (l.filter Q).length
 | [],_,hy,_,_=>by cases hy
 | a::l,h,hy,q,p=>by
  have h':∀ x∈l,P x=true→Q x=true:=fun x hx=>h x (List.mem_cons_of_mem _ hx)
  rcases List.mem_cons.mp hy with e | e
  ·subst e
   have:=flt_le (l:=l) h'
   rw [List.filter_cons_of_neg (by rw [p];decide),List.filter_cons_of_pos q,List.length_cons];omega
  ·have ih:=flt_lt (l:=l) h' e q p
   cases hp:P a with
   | true=>rw [List.filter_cons_of_pos hp,List.filter_cons_of_pos (h a (List.mem_cons_self ..) hp),List.length_cons,List.length_cons];omega
   | false =>
    rw [List.filter_cons_of_neg (by rw [hp];decide)]
    cases hq:Q a with
    | true=>rw [List.filter_cons_of_pos hq,List.length_cons];omega
    | false=>rw [List.filter_cons_of_neg (by rw [hq];decide)];exact ih
theorem num_le {n:Nat}{P Q:Nat→Bool} (h:∀ x,x < n→P x=true→Q x=true):num n P≤num n Q:=flt_le fun x hx=>h x (List.mem_range.mp hx)
theorem num_lt {n y:Nat}{P Q:Nat→Bool} (h:∀ x,x < n→P x=true→Q x=true) (hy:y < n) (q:Q y=true) (p:P y=false):num n P < num n Q:=flt_lt (fun x hx=>h x (List.mem_range.mp hx)) (List.mem_range.mpr hy) q p
theorem num_n {n:Nat}{P:Nat→Bool}:num n P≤n:=by
 have:=List.length_filter_le P (List.range n)
 rw [List.length_range] at this
 exact this
def alone (S:St):Nat:=num S.n fun p=>(S.mt p).isNone
def nev (S:St):Nat:=num S.n fun p=>decide ((S.bd (S.out p)).mark≠1)
def mu (S:St):Nat:=alone S*(2*S.n+1)+2*nev S+S.ids.length
section
variable {S S':St}{rk:Nat→Nat}
theorem lift_mu {d:Int}:mu (liftS S d)=mu S:=by
 have:nev (liftS S d)=nev S:=by
  unfold nev
  show num S.n _=num S.n _
  congr 1
  funext p
  show decide (((liftS S d).bd (S.out p)).mark≠1)=_
  rw [lift_mark]
 show alone S*(2*S.n+1)+2*nev (liftS S d)+S.ids.length=_
 rw [this];rfl
theorem grow_mu {u v w:Nat} (O:Ok S rk) (hv:v < S.n) (ev:(S.bd (S.out v)).mark=0) (hw:S.mt (S.bd (S.out v)).tip=some w):mu (growS S u v w) < mu S:=by
 obtain ⟨w1,w2,_⟩:=O.ma.ma v hv w hw
 have ew:(S.bd (S.out w)).mark=0:=O.tr.free v hv ev w hw
 have:nev (growS S u v w) < nev S:=by
  unfold nev
  show num S.n _ < num S.n _
  refine num_lt (y:=w) (fun p hp h=>?_) w1 (by rw [ew];decide) ?_
  ·have h':=of_decide_eq_true h
   refine decide_eq_true ?_
   have h'':((growS S u v w).bd (S.out p)).mark≠1:=h'
   rw [grow_mark] at h''
   by_cases e1:S.out p=S.out v
   ·rw [e1,ev];decide
   ·rw [if_neg e1] at h''
    by_cases e2:S.out p=S.out w
    ·rw [if_pos e2] at h'';exact absurd rfl h''
    ·rw [if_neg e2] at h'';exact h''
  ·refine decide_eq_false ?_
   show ¬ ((growS S u v w).bd (S.out w)).mark≠1
   rw [grow_mark,if_neg w2,if_pos rfl]
   exact fun z=>z rfl
 show alone S*(2*S.n+1)+2*nev (growS S u v w)+S.ids.length < _
 unfold mu
 omega
theorem close_mu {inn ps:List Nat}{jt:List (Nat×Nat)}{z N t:Nat} (O:Ok S rk) (R:Rg S rk inn jt z) (hN:N ∉ S.ids) (hps:∀ p,p∈ps↔∃ i < inn.length,p∈pl S (inn.getD i 0)):mu (closeS S N ps inn jt t) < mu S:=by
 have hc:0 < inn.length:=by have:=R.thr;omega
 have bN:(closeS S N ps inn jt t).bd N=⟨ps,t,inn,jt,0,1,none⟩:=if_pos rfl
 have inps:∀ i,i < inn.length→∀ p,p < S.n→S.out p=inn.getD i 0→p∈ps:=fun i hi p hp e=>(hps p).mpr ⟨i,hi,by rw [←e];exact (O.fo.out p hp).2⟩
 have new:∀ p,p < S.n→((closeS S N ps inn jt t).bd ((closeS S N ps inn jt t).out p)).mark=if p∈ps then 1 else (S.bd (S.out p)).mark:=fun p hp=>by
  by_cases h:p∈ps
  ·have:(closeS S N ps inn jt t).out p=N:=if_pos h
   rw [this,bN,if_pos h]
  ·have:(closeS S N ps inn jt t).out p=S.out p:=if_neg h
   rw [this,if_neg h]
   have:(closeS S N ps inn jt t).bd (S.out p)=S.bd (S.out p):=if_neg fun (e:S.out p=N)=>hN (by rw [←e];exact (O.fo.out p hp).1)
   rw [this]
 obtain ⟨y,hy,yps,ym⟩:∃ y,y < S.n∧y∈ps∧(S.bd (S.out y)).mark≠1:=by
  have j1:=Nat.mod_lt (z+1) hc
  obtain ⟨m1,m2,t1,t2⟩:=R.par 1 rfl (by have:=R.thr;omega)
  obtain ⟨l1,l2⟩:=R.lt _ j1
  have k1:=R.kd _ j1
  have k2:=R.nx _ j1
  have i1:=inps _ j1 _ l1 k1.symm
  have i2:=inps _ (Nat.mod_lt _ hc) _ l2 k2.symm
  by_cases e:(S.bd (S.out (jt.getD ((z+1) % inn.length) (0,0)).1)).mark=1
  ·refine ⟨_,l2,i2,?_⟩
   have:=O.tr.even _ l1 e (jt.getD ((z+1) % inn.length) (0,0)).2 (by rw [←k1,t1];exact m1)
   rw [this];decide
  ·exact ⟨_,l1,i1,e⟩
 have:nev (closeS S N ps inn jt t) < nev S:=by
  unfold nev
  show num S.n _ < num S.n _
  refine num_lt (y:=y) (fun p hp h=>?_) hy (decide_eq_true ym) ?_
  ·have h':=of_decide_eq_true h
   rw [new p hp] at h'
   by_cases e:p∈ps
   ·rw [if_pos e] at h';exact absurd rfl h'
   ·rw [if_neg e] at h';exact decide_eq_true h'
  ·refine decide_eq_false ?_
   rw [new y hy,if_pos yps]
   exact fun z=>z rfl
 show alone S*(2*S.n+1)+2*nev (closeS S N ps inn jt t)+(S.ids.length+1) < _
 unfold mu
 omega
theorem open_mu {R:Nat}{mk:Nat→Int}{cf:Nat→Option (Nat×Nat)} (O:Ok S rk) {p0:Nat} (hp0:p0 < S.n) (eR:S.out p0=R) (hr:(S.bd R).inn ≠ []) (hm:(S.bd R).mark = -1):mu (openS S R mk cf) < mu S:=by
 have F:=O.fo
 have hR:R∈S.ids:=by rw [←eR];exact (F.out p0 hp0).1
 have ids:(S.ids.filter fun b=>b≠R).length < S.ids.length:=by
  have:=flt_lt (P:=fun b=>decide (b≠R)) (Q:=fun _=>true) (l:=S.ids) (y:=R) (fun _ _ _=>rfl) hR rfl (decide_eq_false fun z=>z rfl)
  rw [List.filter_eq_self.mpr (fun _ _=>rfl)] at this
  exact this
 have:nev (openS S R mk cf)≤nev S:=by
  unfold nev
  show num S.n _≤num S.n _
  refine num_le fun p hp h=>?_
  by_cases e:S.out p=R
  ·rw [e,hm];rfl
  ·have np:p ∉ pl S R:=fun z=>e (by rw [←eR] at z ⊢;exact (F.outq hp0 z).2)
   have h':=of_decide_eq_true h
   have eo:(openS S R mk cf).out p=S.out p:=if_neg np
   have nk:S.out p ∉ (S.bd R).inn:=fun z=>by
    obtain ⟨j,hj,ej⟩:=List.mem_iff_getElem.mp z
    have hj':j < cnt S R:=hj
    have:kid S R j=S.out p:=by unfold kid;rw [List.getD_eq_getElem?_getD,List.getElem?_eq_getElem hj];exact ej
    exact np (F.ksub hR hj' (by rw [this];exact (F.out p hp).2))
   have eb:(openS S R mk cf).bd (S.out p)=S.bd (S.out p):=if_neg nk
   rw [eo,eb] at h'
   exact decide_eq_true h'
 show alone S*(2*S.n+1)+2*nev (openS S R mk cf)+(S.ids.filter fun b=>b≠R).length < _
 unfold mu
 omega
theorem aug_mu (h:Stat S S') (no:∀ q,q < S.n→S'.mt q=none→S.mt q=none) {q:Nat} (hq:q < S.n) (q1:S.mt q=none) (q2:S'.mt q≠none):mu (beginS S') < mu S:=by
 have al:alone (beginS S') < alone S:=by
  unfold alone
  show num S'.n _ < num S.n _
  rw [h.n]
  refine num_lt (y:=q) (fun p hp z=>?_) hq (by rw [q1];rfl) ?_
  ·have z':(S'.mt p).isNone=true:=z
   rw [Option.isNone_iff_eq_none] at z'
   rw [no p hp z'];rfl
  ·show (S'.mt q).isNone=false
   cases e:S'.mt q with
   | none=>exact absurd e q2
   | some x=>rfl
 have nv:nev (beginS S')≤S.n:=by
  have:nev (beginS S')≤S'.n:=num_n
  rw [h.n] at this;exact this
 have ei:(beginS S').ids=S.ids:=h.ids
 have en:(beginS S').n=S.n:=h.n
 unfold mu
 rw [ei,en]
 have:=Nat.mul_le_mul_right (2*S.n+1) (show alone (beginS S')+1≤alone S from al)
 rw [Nat.add_mul,Nat.one_mul] at this
 omega
end
end Bl
namespace Bl
theorem flt_or {P Q R:Nat→Bool}:∀ l:List Nat,(∀ x∈l,R x=(P x || Q x))→(∀ x∈l,¬ (P x=true∧Q x=true))→(l.filter R).length=(l.filter P).length+(l.filter Q).length
 | [],_,_=>rfl
 | a::l,h,g=>by
  have ih:=flt_or l (fun x hx=>h x (List.mem_cons_of_mem _ hx)) fun x hx=>g x (List.mem_cons_of_mem _ hx)
  have ha:=h a (List.mem_cons_self ..)
  have ga:=g a (List.mem_cons_self ..)
  cases hp:P a <;> cases hq:Q a <;> rw [hp,hq] at ha ga <;> simp only [Bool.or_true,Bool.or_false] at ha
  ·rw [List.filter_cons_of_neg (by rw [ha];decide),List.filter_cons_of_neg (by rw [hp];decide),List.filter_cons_of_neg (by rw [hq];decide),ih]
  ·rw [List.filter_cons_of_pos ha,List.filter_cons_of_neg (by rw [hp];decide),List.filter_cons_of_pos hq,List.length_cons,List.length_cons,ih];omega
  ·rw [List.filter_cons_of_pos ha,List.filter_cons_of_pos hp,List.filter_cons_of_neg (by rw [hq];decide),List.length_cons,List.length_cons,ih];omega
  ·exact absurd ⟨rfl,rfl⟩ ga
def prOf (S:St) (u:Nat):Option (Nat×Nat):=match S.mt u with
 | some v=>if u < v then some (u,v) else none
 | none=>none
def pairs (S:St):List (Nat×Nat):=(List.range S.n).filterMap (prOf S)
section
variable {S:St}{rk:Nat→Nat}
theorem prOf_iff {u:Nat}{x:Nat×Nat}:prOf S u=some x↔x.1=u∧S.mt u=some x.2∧u < x.2:=by
 unfold prOf
 cases e:S.mt u with
 | none =>
  constructor
  ·intro h;cases h
  ·intro h;cases h.2.1
 | some v =>
  show (if u < v then some (u,v) else none)=some x↔_
  by_cases h:u < v
  ·rw [if_pos h]
   constructor
   ·intro z;cases z;exact ⟨rfl,rfl,h⟩
   ·rintro ⟨h1,h2,_⟩
    cases h2
    rw [←h1]
  ·rw [if_neg h]
   constructor
   ·intro z;cases z
   ·rintro ⟨h1,h2,h3⟩;cases h2;exact absurd h3 h
theorem pairs_iff {x:Nat×Nat}:x∈pairs S↔x.1 < S.n∧S.mt x.1=some x.2∧x.1 < x.2:=by
 unfold pairs
 rw [List.mem_filterMap]
 constructor
 ·rintro ⟨u,hu,h⟩
  obtain ⟨h1,h2,h3⟩:=prOf_iff.mp h
  rw [h1]
  exact ⟨List.mem_range.mp hu,h2,h3⟩
 ·rintro ⟨h1,h2,h3⟩
  exact ⟨x.1,List.mem_range.mpr h1,prOf_iff.mpr ⟨rfl,h2,h3⟩⟩
theorem fm_nodup:∀ {l:List Nat},l.Nodup→(l.filterMap (prOf S)).Nodup
 | [],_=>List.nodup_nil
 | a::l,h=>by
  obtain ⟨h1,h2⟩:=List.nodup_cons.mp h
  cases e:prOf S a with
  | none=>rw [List.filterMap_cons_none e];exact fm_nodup h2
  | some x =>
   rw [List.filterMap_cons_some e]
   refine List.nodup_cons.mpr ⟨fun hx=>?_,fm_nodup h2⟩
   obtain ⟨b,hb,eb⟩:=List.mem_filterMap.mp hx
   have e1:=(prOf_iff.mp e).1
   have e2:=(prOf_iff.mp eb).1
   exact h1 (by rw [←e1,e2];exact hb)
theorem pairs_nodup:(pairs S).Nodup:=fm_nodup List.nodup_range
theorem pair_link (P:Pre S) {x:Nat×Nat} (h:x∈pairs S):∃ t,(x.1,x.2,t)∈S.lk∧cut S x.1 x.2=t:=by
 obtain ⟨x1,x2,x3⟩:=pairs_iff.mp h
 obtain ⟨t,hl,e⟩:=(mate_ok P.fo P.du P.ma x1 x2).2.2.2
 rcases hl with z | z
 ·exact ⟨t,z,e⟩
 ·have:=P.lk.lt _ _ _ z;omega
theorem body_odd (F:Fo S):∀ (k b:Nat),(pl S b).length≤k→b∈S.ids→(pl S b).length % 2=1
 | 0,b,hl,hb=>absurd (List.length_eq_zero_iff.mp (Nat.le_zero.mp hl)) (F.ne b hb)
 | k+1,b,hl,hb=>by
  by_cases hr:(S.bd b).inn = []
  ·obtain ⟨y,e1,_⟩:=F.one b hb hr
   rw [e1];rfl
  ·obtain ⟨c3,codd,_⟩:=F.odd b hb hr
   have ind:=fun j (hj:j < cnt S b)=>body_odd F k (kid S b j) (by have:=F.kless hb hj;omega) (F.kin b hb j hj)
   have split:∀ m,m≤cnt S b→((pl S b).filter fun p=>decide (∃ i,i < m∧p∈pl S (kid S b i))).length % 2=m % 2:=by
    intro m
    induction m with
    | zero =>
     intro _
     rw [List.filter_eq_nil_iff.mpr]
     ·rfl
     ·intro p _ h
      obtain ⟨i,hi,_⟩:=of_decide_eq_true h
      omega
    | succ m ih =>
     intro hm
     have i1:=ih (by omega)
     have e1:((pl S b).filter fun p=>decide (∃ i,i < m+1∧p∈pl S (kid S b i))).length=((pl S b).filter fun p=>decide (∃ i,i < m∧p∈pl S (kid S b i))).length+((pl S b).filter fun p=>decide (p∈pl S (kid S b m))).length:=by
      refine flt_or _ (fun p _=>?_) fun p hp ⟨h1,h2⟩=>?_
      ·by_cases q1:∃ i,i < m∧p∈pl S (kid S b i)
       ·have q3:∃ i,i < m+1∧p∈pl S (kid S b i):=let ⟨i,x,y⟩:=q1;⟨i,by omega,y⟩
        rw [decide_eq_true q1,decide_eq_true q3];rfl
       ·by_cases q2:p∈pl S (kid S b m)
        ·have q3:∃ i,i < m+1∧p∈pl S (kid S b i):=⟨m,by omega,q2⟩
         rw [decide_eq_true q2,decide_eq_true q3,Bool.or_true]
        ·have q3:¬ ∃ i,i < m+1∧p∈pl S (kid S b i):=fun ⟨i,x,y⟩=>by
          by_cases e:i=m
          ·rw [e] at y;exact q2 y
          ·exact q1 ⟨i,by omega,y⟩
         rw [decide_eq_false q1,decide_eq_false q2,decide_eq_false q3];rfl
      ·obtain ⟨i,hi,h3⟩:=of_decide_eq_true h1
       have:=F.dis b hb i (by omega) m (by omega) p h3 (of_decide_eq_true h2)
       omega
     have e2:((pl S b).filter fun p=>decide (p∈pl S (kid S b m))).length=(pl S (kid S b m)).length:=by
      have s1:∀ l m:List Nat,l.Nodup→m.Nodup→(∀ x∈m,x∈l)→(l.filter fun p=>decide (p∈m)).length=m.length:=fun l m hl hm sub=>by
       have n1:(l.filter fun p=>decide (p∈m)).Nodup:=List.Pairwise.filter _ hl
       have le:∀ x y:List Nat,x.Nodup→(∀ z∈x,z∈y)→x.length≤y.length:=fun x y hx hxy=>by
        rcases Nat.lt_or_ge y.length x.length with g | g
        ·have:=len_lt (m:=y ++ [x.foldr max 0+1]) hx (fun z hz=>List.mem_append_left _ (hxy z hz)) (y:=x.foldr max 0+1) (List.mem_append_right _ (List.mem_singleton.mpr rfl)) (fun hz=>by
          have bnd:∀ (l:List Nat) z,z∈l→z≤l.foldr max 0:=fun l=>by
           induction l with
           | nil=>intro z hz;cases hz
           | cons a l ih =>
            intro z hz
            show z≤max a (l.foldr max 0)
            rcases List.mem_cons.mp hz with e | e
            ·rw [e];exact Nat.le_max_left _ _
            ·exact Nat.le_trans (ih z e) (Nat.le_max_right _ _)
          have:=bnd x _ hz
          omega)
         rw [List.length_append,List.length_singleton] at this
         omega
        ·exact g
       refine Nat.le_antisymm (le _ _ n1 fun z hz=>of_decide_eq_true (List.mem_filter.mp hz).2) (le _ _ hm fun z hz=>List.mem_filter.mpr ⟨sub z hz,decide_eq_true hz⟩)
      exact s1 _ _ (F.pnd b hb) (F.pnd _ (F.kin b hb m (by omega))) fun x hx=>F.ksub hb (by omega) hx
     have:=ind m (by omega)
     rw [e1,e2]
     omega
   have all:=split (cnt S b) (Nat.le_refl _)
   rw [List.filter_eq_self.mpr (fun p hp=>decide_eq_true ((F.mem b hb hr p).mp hp))] at all
   omega
end
end Bl
namespace Bl
theorem le_sub:∀ {x y:List Nat},x.Nodup→(∀ z∈x,z∈y)→x.length≤y.length
 | [],_,_,_=>Nat.zero_le _
 | a::x,y,hx,hxy=>by
  obtain ⟨h1,h2⟩:=List.nodup_cons.mp hx
  have ha:=hxy a (List.mem_cons_self ..)
  have ih:=le_sub (x:=x) (y:=y.erase a) h2 fun z hz=>(List.mem_erase_of_ne (fun (e:z=a)=>h1 (by rw [←e];exact hz))).mpr (hxy z (List.mem_cons_of_mem _ hz))
  rw [List.length_erase_of_mem ha] at ih
  have:=List.length_pos_of_mem ha
  rw [List.length_cons];omega
theorem map_nodup {f:Nat→Nat}:∀ {l:List Nat},l.Nodup→(∀ a∈l,∀ b∈l,f a=f b→a=b)→(l.map f).Nodup
 | [],_,_=>List.nodup_nil
 | a::l,h,g=>by
  obtain ⟨h1,h2⟩:=List.nodup_cons.mp h
  rw [List.map_cons]
  refine List.nodup_cons.mpr ⟨fun hx=>?_,map_nodup h2 fun a ha b hb=>g a (List.mem_cons_of_mem _ ha) b (List.mem_cons_of_mem _ hb)⟩
  obtain ⟨b,hb,e⟩:=List.mem_map.mp hx
  exact h1 (by rw [g a (List.mem_cons_self ..) b (List.mem_cons_of_mem _ hb) e.symm];exact hb)
theorem le_map {x y:List Nat}{f:Nat→Nat} (hx:x.Nodup) (inj:∀ a∈x,∀ b∈x,f a=f b→a=b) (m:∀ a∈x,f a∈y):x.length≤y.length:=by
 have:=le_sub (map_nodup hx inj) (fun z hz=>by obtain ⟨a,ha,e⟩:=List.mem_map.mp hz;rw [←e];exact m a ha)
 rwa [List.length_map] at this
def sel (n:Nat) (P:Nat→Bool):List Nat:=(List.range n).filter P
theorem sel_mem {n p:Nat}{P:Nat→Bool}:p∈sel n P↔p < n∧P p=true:=by unfold sel;rw [List.mem_filter,List.mem_range]
theorem sel_nodup {n:Nat}{P:Nat→Bool}:(sel n P).Nodup:=List.Pairwise.filter _ List.nodup_range
theorem num_sel {n:Nat}{P:Nat→Bool}:num n P=(sel n P).length:=rfl
theorem num_or {n:Nat}{P Q R:Nat→Bool} (h:∀ x,x < n→R x=(P x || Q x)) (g:∀ x,x < n→¬ (P x=true∧Q x=true)):num n R=num n P+num n Q:=flt_or _ (fun x hx=>h x (List.mem_range.mp hx)) fun x hx=>g x (List.mem_range.mp hx)
theorem num_even {n:Nat}{C:Nat→Bool}{f:Nat→Nat} (h:∀ p,p < n→C p=true→f p < n∧C (f p)=true∧f (f p)=p∧f p≠p):num n C=2*num n fun p=>C p&&decide (p < f p):=by
 have e1:num n C=num n (fun p=>C p&&decide (p < f p))+num n (fun p=>C p&&decide (f p < p)):=by
  refine num_or (fun p hp=>?_) fun p hp=>?_
  ·cases hc:C p with
   | false=>rfl
   | true =>
    obtain ⟨_,_,_,h4⟩:=h p hp hc
    rcases Nat.lt_or_gt_of_ne h4 with z | z
    ·rw [decide_eq_true z,Bool.and_true,Bool.or_true]
    ·rw [decide_eq_true (show p < f p from z),Bool.and_true,Bool.true_or]
  ·rintro ⟨z1,z2⟩
   obtain ⟨_,y1⟩:=Bool.and_eq_true_iff.mp z1
   obtain ⟨_,y2⟩:=Bool.and_eq_true_iff.mp z2
   have:=of_decide_eq_true y1
   have:=of_decide_eq_true y2
   omega
 have up:∀ p,p∈sel n (fun p=>C p&&decide (p < f p))↔p < n∧C p=true∧p < f p:=fun p=>by
  rw [sel_mem]
  constructor
  ·rintro ⟨a,b⟩;obtain ⟨c,d⟩:=Bool.and_eq_true_iff.mp b;exact ⟨a,c,of_decide_eq_true d⟩
  ·rintro ⟨a,c,d⟩;exact ⟨a,Bool.and_eq_true_iff.mpr ⟨c,decide_eq_true d⟩⟩
 have dn:∀ p,p∈sel n (fun p=>C p&&decide (f p < p))↔p < n∧C p=true∧f p < p:=fun p=>by
  rw [sel_mem]
  constructor
  ·rintro ⟨a,b⟩;obtain ⟨c,d⟩:=Bool.and_eq_true_iff.mp b;exact ⟨a,c,of_decide_eq_true d⟩
  ·rintro ⟨a,c,d⟩;exact ⟨a,Bool.and_eq_true_iff.mpr ⟨c,decide_eq_true d⟩⟩
 have inj:∀ a b,a < n→C a=true→b < n→C b=true→f a=f b→a=b:=fun a b ha ca hb cb e=>by
  rw [←(h a ha ca).2.2.1,e,(h b hb cb).2.2.1]
 have l1:num n (fun p=>C p&&decide (p < f p))≤num n (fun p=>C p&&decide (f p < p)):=by
  rw [num_sel,num_sel]
  refine le_map (f:=f) sel_nodup (fun a ha b hb e=>?_) fun a ha=>?_
  ·obtain ⟨a1,a2,_⟩:=(up a).mp ha
   obtain ⟨b1,b2,_⟩:=(up b).mp hb
   exact inj a b a1 a2 b1 b2 e
  ·obtain ⟨a1,a2,a3⟩:=(up a).mp ha
   obtain ⟨h1,h2,h3,h4⟩:=h a a1 a2
   exact (dn _).mpr ⟨h1,h2,by rw [h3];exact a3⟩
 have l2:num n (fun p=>C p&&decide (f p < p))≤num n (fun p=>C p&&decide (p < f p)):=by
  rw [num_sel,num_sel]
  refine le_map (f:=f) sel_nodup (fun a ha b hb e=>?_) fun a ha=>?_
  ·obtain ⟨a1,a2,_⟩:=(dn a).mp ha
   obtain ⟨b1,b2,_⟩:=(dn b).mp hb
   exact inj a b a1 a2 b1 b2 e
  ·obtain ⟨a1,a2,a3⟩:=(dn a).mp ha
   obtain ⟨h1,h2,h3,h4⟩:=h a a1 a2
   exact (up _).mpr ⟨h1,h2,by rw [h3];exact a3⟩
 omega
structure En (S:St):Prop where
 lk:∀ u v t,(u,v,t)∈S.lk→S.out u≠S.out v→(S.bd (S.out u)).mark+(S.bd (S.out v)).mark≤0
 rg:∀ b,om S b→(S.bd b).mark = -1→(S.bd b).inn = []
section
variable {S:St}{rk:Nat→Nat}
theorem body_conn (F:Fo S) (D:Du S) {q:Nat→Nat}{ok:Nat→Prop} (hq:∀ u v t,(u,v,t)∈S.lk→ok u→ok v→q u=q v) :
  ∀ (k b:Nat),(pl S b).length≤k→b∈S.ids→(∀ p∈pl S b,ok p)→∀ x∈pl S b,∀ y∈pl S b,q x=q y
 | 0,b,hl,hb,_,_,_,_,_=>absurd (List.length_eq_zero_iff.mp (Nat.le_zero.mp hl)) (F.ne b hb)
 | k+1,b,hl,hb,hok,x,hx,y,hy=>by
  by_cases hr:(S.bd b).inn = []
  ·obtain ⟨z,e1,_⟩:=F.one b hb hr
   rw [e1] at hx hy
   rw [List.mem_singleton.mp hx,List.mem_singleton.mp hy]
  ·obtain ⟨c3,_,_⟩:=F.odd b hb hr
   have hc:0 < cnt S b:=by omega
   have ind:=fun j (hj:j < cnt S b)=>body_conn F D hq k (kid S b j) (by have:=F.kless hb hj;omega) (F.kin b hb j hj) fun p hp=>hok p (F.ksub hb hj hp)
   obtain ⟨i,hi,hxi⟩:=(F.mem b hb hr x).mp hx
   obtain ⟨j,hj,hyj⟩:=(F.mem b hb hr y).mp hy
   obtain ⟨o,ho,eo⟩:=off_ex hi hj
   have walk:∀ o,∀ r∈pl S (kid S b ((i+o) % cnt S b)),q x=q r:=fun o=>by
    induction o with
    | zero=>intro r hr';rw [Nat.add_zero,Nat.mod_eq_of_lt hi] at hr';exact ind i hi x hxi r hr'
    | succ o ih =>
     intro r hr'
     have l1:=Nat.mod_lt (i+o) hc
     obtain ⟨j1,j2⟩:=F.jin b hb _ l1
     have e:((i+o) % cnt S b+1) % cnt S b=(i+(o+1)) % cnt S b:=by rw [Nat.mod_add_mod];rfl
     rw [e] at j2
     have l2:=Nat.mod_lt (i+(o+1)) hc
     have step:q (jnt S b ((i+o) % cnt S b)).1=q (jnt S b ((i+o) % cnt S b)).2:=by
      obtain ⟨t,hl,_⟩:=D.jt b hb _ l1
      have o1:=hok _ (F.ksub hb l1 j1)
      have o2:=hok _ (F.ksub hb l2 j2)
      rcases hl with z | z
      ·exact hq _ _ t z o1 o2
      ·exact (hq _ _ t z o2 o1).symm
     rw [ih _ j1,step]
     exact ind _ l2 _ j2 r hr'
   exact walk o y (by rw [eo];exact hyj)
def mfn (S:St) (p:Nat):Nat:=(S.mt p).getD p
theorem mfn_some {p q:Nat} (h:S.mt p=some q):mfn S p=q:=by unfold mfn;rw [h];rfl
theorem pairs_num (P:Pre S):alone S+2*(pairs S).length=S.n:=by
 have hm:∀ p,p < S.n→(!(S.mt p).isNone)=true→mfn S p < S.n∧(!(S.mt (mfn S p)).isNone)=true∧mfn S (mfn S p)=p∧mfn S p≠p:=fun p hp h=>by
  cases e:S.mt p with
  | none=>rw [e] at h;cases h
  | some q =>
   obtain ⟨q1,q2,q3,_⟩:=mate_ok P.fo P.du P.ma hp e
   rw [mfn_some e,mfn_some q3,q3]
   exact ⟨q1,rfl,rfl,q2⟩
 have e1:=num_even (f:=mfn S) hm
 have e2:num S.n (fun _=>true)=num S.n (fun p=>(S.mt p).isNone)+num S.n (fun p=>!(S.mt p).isNone):=by
  refine num_or (fun p _=>?_) fun p _=>?_
  ·cases (S.mt p).isNone <;> rfl
  ·rintro ⟨a,b⟩;rw [a] at b;cases b
 have e3:num S.n (fun _=>true)=S.n:=by
  unfold num
  rw [List.filter_eq_self.mpr (fun _ _=>rfl),List.length_range]
 have e4:(pairs S).length=num S.n (fun p=>(!(S.mt p).isNone)&&decide (p < mfn S p)):=by
  unfold pairs num
  generalize List.range S.n=l
  induction l with
  | nil=>rfl
  | cons a l ih =>
   cases e:S.mt a with
   | none =>
    have h1:prOf S a=none:=by unfold prOf;rw [e]
    rw [List.filterMap_cons_none h1,List.filter_cons_of_neg (by rw [e];intro z;cases z)];exact ih
   | some v =>
    have h0:mfn S a=v:=mfn_some e
    by_cases h:a < v
    ·have h1:prOf S a=some (a,v):=by unfold prOf;rw [e];exact if_pos h
     rw [List.filterMap_cons_some h1,List.filter_cons_of_pos (by rw [e,h0,decide_eq_true h];rfl),List.length_cons,List.length_cons,ih]
    ·have h1:prOf S a=none:=by unfold prOf;rw [e];exact if_neg h
     rw [List.filterMap_cons_none h1,List.filter_cons_of_neg (by rw [h0,decide_eq_false h,Bool.and_false];decide)];exact ih
 show num S.n (fun p=>(S.mt p).isNone)+_=_
 omega
theorem even_num (O:Ok S rk) (E:En S):num S.n (fun p=>decide ((S.bd (S.out p)).mark=1∧(S.bd (S.out p)).tip=p))=num S.n (fun p=>decide ((S.bd (S.out p)).mark = -1))+alone S:=by
 obtain ⟨F,L,D,M,T⟩:=O
 have e1:num S.n (fun p=>decide ((S.bd (S.out p)).mark=1∧(S.bd (S.out p)).tip=p))=num S.n (fun p=>decide ((S.bd (S.out p)).mark=1∧(S.bd (S.out p)).tip=p) && !(S.mt p).isNone)+num S.n (fun p=>(S.mt p).isNone):=by
  refine num_or (fun p hp=>?_) fun p hp=>?_
  ·cases e:S.mt p with
   | none =>
    have t:=alone_tip F M hp e
    have m:=T.root p hp (by rw [t];exact e)
    rw [decide_eq_true ⟨m,t⟩];rfl
   | some q=>cases decide ((S.bd (S.out p)).mark=1∧(S.bd (S.out p)).tip=p) <;> rfl
  ·rintro ⟨a,b⟩
   rw [b,Bool.not_true,Bool.and_false] at a;cases a
 have odd1:∀ q,q < S.n→(S.bd (S.out q)).mark = -1→(S.bd (S.out q)).tip=q∧∃ r,S.mt q=some r∧r < S.n∧(S.bd (S.out r)).mark=1∧(S.bd (S.out r)).tip=r∧S.mt r=some q:=fun q hq h=>by
  have hi:=E.rg _ (om_iff.mpr ⟨q,hq,rfl⟩) h
  obtain ⟨y,y1,y2⟩:=F.one _ (F.out q hq).1 hi
  have hqy:=(F.out q hq).2
  rw [y1] at hqy
  have ey:=List.mem_singleton.mp hqy
  have t:(S.bd (S.out q)).tip=q:=by rw [y2,ey]
  refine ⟨t,?_⟩
  cases e:S.mt q with
  | none =>
   have:=T.root q hq (by rw [t];exact e)
   rw [h] at this;cases this
  | some r =>
   obtain ⟨m1,m2,m3,m4,_⟩:=M.ma q hq r (by rw [t];exact e)
   rw [t] at m4
   exact ⟨r,rfl,m1,(T.oddm q hq h r (by rw [t];exact e)).1,m3,m4⟩
 have a1:∀ p,p∈sel S.n (fun p=>decide ((S.bd (S.out p)).mark=1∧(S.bd (S.out p)).tip=p) && !(S.mt p).isNone)↔p < S.n∧(S.bd (S.out p)).mark=1∧(S.bd (S.out p)).tip=p∧∃ q,S.mt p=some q:=fun p=>by
  rw [sel_mem]
  constructor
  ·rintro ⟨h1,h2⟩
   obtain ⟨h3,h4⟩:=Bool.and_eq_true_iff.mp h2
   obtain ⟨h5,h6⟩:=of_decide_eq_true h3
   cases e:S.mt p with
   | none=>rw [e] at h4;cases h4
   | some q=>exact ⟨h1,h5,h6,q,rfl⟩
  ·rintro ⟨h1,h5,h6,q,e⟩
   exact ⟨h1,Bool.and_eq_true_iff.mpr ⟨decide_eq_true ⟨h5,h6⟩,by rw [e];rfl⟩⟩
 have a2:∀ p,p∈sel S.n (fun p=>decide ((S.bd (S.out p)).mark = -1))↔p < S.n∧(S.bd (S.out p)).mark = -1:=fun p=>by
  rw [sel_mem]
  exact ⟨fun h=>⟨h.1,of_decide_eq_true h.2⟩,fun h=>⟨h.1,decide_eq_true h.2⟩⟩
 have m1:∀ p,p < S.n→(S.bd (S.out p)).mark=1→(S.bd (S.out p)).tip=p→∀ q,S.mt p=some q→q < S.n∧(S.bd (S.out q)).mark = -1∧S.mt q=some p:=fun p hp h t q hq=>by
  obtain ⟨k1,_,_,k4,_⟩:=M.ma p hp q (by rw [t];exact hq)
  rw [t] at k4
  exact ⟨k1,T.even p hp h q (by rw [t];exact hq),k4⟩
 have l1:num S.n (fun p=>decide ((S.bd (S.out p)).mark=1∧(S.bd (S.out p)).tip=p) && !(S.mt p).isNone)≤num S.n (fun p=>decide ((S.bd (S.out p)).mark = -1)):=by
  rw [num_sel,num_sel]
  refine le_map (f:=mfn S) sel_nodup (fun a ha b hb e=>?_) fun a ha=>?_
  ·obtain ⟨h1,h2,h3,q,hq⟩:=(a1 a).mp ha
   obtain ⟨g1,g2,g3,r,hr⟩:=(a1 b).mp hb
   rw [mfn_some hq,mfn_some hr] at e
   have k1:=(m1 a h1 h2 h3 q hq).2.2
   have k2:=(m1 b g1 g2 g3 r hr).2.2
   rw [e,k2] at k1
   exact (Option.some.inj k1).symm
  ·obtain ⟨h1,h2,h3,q,hq⟩:=(a1 a).mp ha
   obtain ⟨k1,k2,_⟩:=m1 a h1 h2 h3 q hq
   rw [mfn_some hq]
   exact (a2 q).mpr ⟨k1,k2⟩
 have l2:num S.n (fun p=>decide ((S.bd (S.out p)).mark = -1))≤num S.n (fun p=>decide ((S.bd (S.out p)).mark=1∧(S.bd (S.out p)).tip=p) && !(S.mt p).isNone):=by
  rw [num_sel,num_sel]
  refine le_map (f:=mfn S) sel_nodup (fun a ha b hb e=>?_) fun a ha=>?_
  ·obtain ⟨h1,h2⟩:=(a2 a).mp ha
   obtain ⟨g1,g2⟩:=(a2 b).mp hb
   obtain ⟨_,r,r1,_,_,_,r5⟩:=odd1 a h1 h2
   obtain ⟨_,s,s1,_,_,_,s5⟩:=odd1 b g1 g2
   rw [mfn_some r1,mfn_some s1] at e
   rw [e,s5] at r5
   exact (Option.some.inj r5).symm
  ·obtain ⟨h1,h2⟩:=(a2 a).mp ha
   obtain ⟨_,r,r1,r2,r3,r4,r5⟩:=odd1 a h1 h2
   rw [mfn_some r1]
   exact (a1 r).mpr ⟨r2,r3,r4,a,r5⟩
 unfold alone
 omega
end
end Bl
namespace Bl
section
variable {S:St}{rk:Nat→Nat}
theorem free_mate (O:Ok S rk) {p:Nat} (hp:p < S.n) (h:(S.bd (S.out p)).mark=0):∃ q,S.mt p=some q∧q < S.n∧(S.bd (S.out q)).mark=0∧S.mt q=some p∧q≠p∧∃ t,(p,q,t)∈S.lk∨(q,p,t)∈S.lk:=by
 obtain ⟨F,L,D,M,T⟩:=O
 cases e:S.mt p with
 | none =>
  have:=T.root p hp (by rw [alone_tip F M hp e];exact e)
  rw [h] at this;cases this
 | some q =>
  obtain ⟨q1,q2,q3,t,hl,_⟩:=mate_ok F D M hp e
  refine ⟨q,rfl,q1,?_,q3,q2,t,hl⟩
  by_cases et:p=(S.bd (S.out p)).tip
  ·exact T.free p hp h q (by rw [←et];exact e)
  ·obtain ⟨r,r1,_,m1,_⟩:=(inside F _ _ (Nat.le_refl _) (F.out p hp).1 (M.am p hp)).2 p (F.out p hp).2 et
   rw [e] at m1
   cases m1
   rw [(F.outq hp r1).2];exact h
theorem odd_parts (O:Ok S rk) (E:En S) {pt:Nat→Nat} (h1:∀ u v t,(u,v,t)∈S.lk→(S.bd (S.out u)).mark ≠ -1→(S.bd (S.out v)).mark ≠ -1→pt u=pt v)
  (h2:∀ q:Nat→Nat,(∀ u v t,(u,v,t)∈S.lk→(S.bd (S.out u)).mark ≠ -1→(S.bd (S.out v)).mark ≠ -1→q u=q v)→∀ u v,u < S.n→v < S.n→(S.bd (S.out u)).mark ≠ -1→(S.bd (S.out v)).mark ≠ -1→pt u=pt v→q u=q v)
  {X:List Nat} (nd:X.Nodup) (hX:∀ x,x∈X↔num S.n (fun p=>decide ((S.bd (S.out p)).mark ≠ -1∧pt p=x)) % 2=1) :
  X.length=num S.n (fun p=>decide ((S.bd (S.out p)).mark = -1))+alone S:=by
 rw [←even_num O E]
 obtain ⟨F,L,D,M,T⟩:=id O
 have tm:∀ p,p∈sel S.n (fun p=>decide ((S.bd (S.out p)).mark=1∧(S.bd (S.out p)).tip=p))↔p < S.n∧(S.bd (S.out p)).mark=1∧(S.bd (S.out p)).tip=p:=fun p=>by
  rw [sel_mem]
  exact ⟨fun h=>⟨h.1,of_decide_eq_true h.2⟩,fun h=>⟨h.1,decide_eq_true h.2⟩⟩
 have hq:∀ u v,u < S.n→v < S.n→(S.bd (S.out u)).mark ≠ -1→(S.bd (S.out v)).mark ≠ -1→pt u=pt v→(if (S.bd (S.out u)).mark=1 then S.out u+1 else 0)=(if (S.bd (S.out v)).mark=1 then S.out v+1 else 0):=by
  refine h2 (fun p=>if (S.bd (S.out p)).mark=1 then S.out p+1 else 0) fun u v t hl mu mv=>?_
  show (if (S.bd (S.out u)).mark=1 then S.out u+1 else 0)=(if (S.bd (S.out v)).mark=1 then S.out v+1 else 0)
  by_cases e:S.out u=S.out v
  ·rw [e]
  ·have hlt:=L.lt u v t hl
   have:=E.lk u v t hl e
   rcases T.mks u (by omega) with a | a | a <;> rcases T.mks v (by omega) with b | b | b <;> rw [a,b] at this
   ·exact absurd this (by decide)
   ·exact absurd this (by decide)
   ·exact absurd b mv
   ·exact absurd this (by decide)
   ·rw [a,b];rfl
   ·exact absurd b mv
   ·exact absurd a mu
   ·exact absurd a mu
   ·exact absurd a mu
 have bconn:∀ p,p < S.n→(S.bd (S.out p)).mark ≠ -1→∀ x∈pl S (S.out p),pt x=pt p:=fun p hp h x hx =>
  body_conn F D (q:=pt) (ok:=fun y=>(S.bd (S.out y)).mark ≠ -1) h1 _ _ (Nat.le_refl _) (F.out p hp).1 (fun y hy=>by show (S.bd (S.out y)).mark ≠ -1;rw [(F.outq hp hy).2];exact h) x hx p (F.out p hp).2
 have part:∀ a,a < S.n→(S.bd (S.out a)).mark=1→num S.n (fun p=>decide ((S.bd (S.out p)).mark ≠ -1∧pt p=pt a))=(pl S (S.out a)).length:=fun a ha h=>by
  have mem:∀ p,p∈sel S.n (fun p=>decide ((S.bd (S.out p)).mark ≠ -1∧pt p=pt a))↔p∈pl S (S.out a):=fun p=>by
   rw [sel_mem]
   constructor
   ·rintro ⟨hp,z⟩
    obtain ⟨z1,z2⟩:=of_decide_eq_true z
    have:=hq p a hp ha z1 (by rw [h];decide) z2
    rw [if_pos h] at this
    by_cases e:(S.bd (S.out p)).mark=1
    ·rw [if_pos e] at this
     have e2:S.out p=S.out a:=by omega
     rw [←e2];exact (F.out p hp).2
    ·rw [if_neg e] at this;omega
   ·intro z
    obtain ⟨z1,z2⟩:=F.outq ha z
    exact ⟨z1,decide_eq_true ⟨by rw [z2,h];decide,bconn a ha (by rw [h];decide) p z⟩⟩
  rw [num_sel]
  exact Nat.le_antisymm (le_sub sel_nodup fun z hz=>(mem z).mp hz) (le_sub (F.pnd _ (F.out a ha).1) fun z hz=>(mem z).mpr hz)
 rw [num_sel]
 refine Nat.le_antisymm ?_ (le_map (f:=pt) sel_nodup (fun a ha b hb e=>?_) fun a ha=>?_)
 ·have:X.length≤((sel S.n (fun p=>decide ((S.bd (S.out p)).mark=1∧(S.bd (S.out p)).tip=p))).map pt).length:=by
   refine le_sub nd fun x hx=>?_
   have ho:=(hX x).mp hx
   by_cases ex:∃ p,p < S.n∧(S.bd (S.out p)).mark=1∧pt p=x
   ·obtain ⟨p,hp,m,e⟩:=ex
    have tp:=F.tipout M hp
    refine List.mem_map.mpr ⟨(S.bd (S.out p)).tip,(tm _).mpr ⟨tp.1,by rw [tp.2];exact m,by rw [tp.2]⟩,?_⟩
    rw [bconn p hp (by rw [m];decide) _ (F.tipin M hp)];exact e
   ·exfalso
    have:=num_even (n:=S.n) (C:=fun p=>decide ((S.bd (S.out p)).mark ≠ -1∧pt p=x)) (f:=mfn S) fun p hp hc=>by
     obtain ⟨c1,c2⟩:=of_decide_eq_true hc
     have m0:(S.bd (S.out p)).mark=0:=by
      rcases T.mks p hp with a | a | a
      ·exact absurd ⟨p,hp,a,c2⟩ ex
      ·exact a
      ·exact absurd a c1
     obtain ⟨q,q1,q2,q3,q4,q5,t,hl⟩:=free_mate O hp m0
     rw [mfn_some q1,mfn_some q4]
     refine ⟨q2,decide_eq_true ⟨by rw [q3];decide,?_⟩,rfl,q5⟩
     rw [←c2]
     rcases hl with z | z
     ·exact (h1 p q t z c1 (by rw [q3];decide)).symm
     ·exact h1 q p t z (by rw [q3];decide) c1
    omega
  rwa [List.length_map] at this
 ·obtain ⟨a1,a2,a3⟩:=(tm a).mp ha
  obtain ⟨b1,b2,b3⟩:=(tm b).mp hb
  have:=hq a b a1 b1 (by rw [a2];decide) (by rw [b2];decide) e
  rw [if_pos a2,if_pos b2] at this
  have e2:S.out a=S.out b:=by omega
  rw [←a3,←b3,e2]
 ·obtain ⟨a1,a2,a3⟩:=(tm a).mp ha
  rw [hX,part a a1 a2]
  exact body_odd F _ _ (Nat.le_refl _) (F.out a a1).1
end
end Bl
namespace Bl
def invS (n:Nat) (sg:Nat→Nat) (b:Nat):Nat:=((List.range n).filter fun p=>sg p=b).headD 0
theorem inv_ok {n p:Nat}{sg:Nat→Nat} (inj:∀ p q,p < n→q < n→sg p=sg q→p=q) (hp:p < n):invS n sg (sg p)=p:=by
 unfold invS
 have hm:p∈(List.range n).filter fun q=>sg q=sg p:=List.mem_filter.mpr ⟨List.mem_range.mpr hp,by simp⟩
 cases e:(List.range n).filter fun q=>sg q=sg p with
 | nil=>rw [e] at hm;cases hm
 | cons x l =>
  have hx:x∈(List.range n).filter fun q=>sg q=sg p:=by rw [e];exact List.mem_cons_self ..
  obtain ⟨h1,h2⟩:=List.mem_filter.mp hx
  exact inj x p (List.mem_range.mp h1) hp (by simpa using h2)
def initS (n:Nat) (lk:List (Nat×Nat×Int)) (sg:Nat→Nat) (least:Int):St :=
 ⟨n,lk,(List.range n).map sg,fun b=>⟨[invS n sg b],invS n sg b,[],[],least,0,none⟩,sg,fun _=>least,fun _=>none⟩
theorem init_ok {n:Nat}{lk:List (Nat×Nat×Int)}{sg:Nat→Nat}{least:Int} (inj:∀ p q,p < n→q < n→sg p=sg q→p=q) (l1:∀ u v t,(u,v,t)∈lk→u < v∧v < n) (l2:∀ u v t,(u,v,t)∈lk→t % 2=0)
  (fe:∀ u v t,(u,v,t)∈lk→least+least≤t):Pre (initS n lk sg least):=by
 have mem:∀ b,b∈(initS n lk sg least).ids↔∃ p,p < n∧sg p=b:=fun b=>by
  show b∈(List.range n).map sg↔_
  rw [List.mem_map]
  constructor
  ·rintro ⟨p,hp,e⟩;exact ⟨p,List.mem_range.mp hp,e⟩
  ·rintro ⟨p,hp,e⟩;exact ⟨p,List.mem_range.mpr hp,e⟩
 have pls:∀ p,p < n→pl (initS n lk sg least) (sg p) = [p]:=fun p hp=>by
  show [invS n sg (sg p)] = [p]
  rw [inv_ok inj hp]
 have none':∀ b,(initS n lk sg least).bd b=⟨[invS n sg b],invS n sg b,[],[],least,0,none⟩:=fun _=>rfl
 have cz:∀ b i,¬ i < cnt (initS n lk sg least) b:=fun b i h=>by
  unfold cnt at h
  exact absurd h (Nat.not_lt_zero _)
 have F:Fo (initS n lk sg least):=by
  refine ⟨map_nodup List.nodup_range fun a ha b hb e=>inj a b (List.mem_range.mp ha) (List.mem_range.mp hb) e,fun b hb p hp=>?_,fun b _ h=>(by cases h),fun b _=>?_,fun p hp=>?_,fun b hb p hp q hq=>?_,fun b _ _=>⟨_,rfl,rfl⟩,fun b _ h=>absurd rfl h,fun b _ i h=>absurd h (cz b i),fun b _ h=>absurd rfl h,fun b _ i h=>absurd h (cz b i),fun b _ i h=>absurd h (cz b i),fun b _ h=>absurd rfl h,fun b hb c hc e=>?_⟩
  ·obtain ⟨x,hx,ex⟩:=(mem b).mp hb
   rw [←ex,pls x hx] at hp
   rw [List.mem_singleton.mp hp];exact hx
  ·exact List.nodup_cons.mpr ⟨fun h=>(by cases h),List.nodup_nil⟩
  ·exact ⟨(mem _).mpr ⟨p,hp,rfl⟩,by show p∈pl (initS n lk sg least) (sg p);rw [pls p hp];exact List.mem_singleton.mpr rfl⟩
  ·have h1:=List.mem_singleton.mp hp
   have h2:=List.mem_singleton.mp hq
   rw [h1,h2]
  ·obtain ⟨x,hx,ex⟩:=(mem b).mp hb
   obtain ⟨y,hy,ey⟩:=(mem c).mp hc
   have:=(e x).mp (by rw [←ex,pls x hx];exact List.mem_singleton.mpr rfl)
   rw [←ey,pls y hy] at this
   rw [←ex,←ey,List.mem_singleton.mp this]
 have tots:∀ p,p < n→tot (initS n lk sg least) p=least:=fun p hp=>by
  unfold tot
  refine Eq.trans (sumc fun b hb=>?_) (sum1 (x:=least) (a:=sg p) F.nd ((mem _).mpr ⟨p,hp,rfl⟩))
  obtain ⟨x,hx,ex⟩:=(mem b).mp hb
  by_cases e:b=sg p
  ·rw [if_pos e,e,pls p hp,if_pos (List.mem_singleton.mpr rfl)];rfl
  ·rw [if_neg e]
   rw [if_neg]
   rw [←ex,pls x hx]
   intro h
   exact e (by rw [←ex,List.mem_singleton.mp h])
 refine ⟨F,⟨l1,l2⟩,⟨fun p hp=>(tots p hp).symm,fun b _ h=>absurd rfl h,fun u v t h=>?_,fun b _ i h=>absurd h (cz b i)⟩,⟨fun p hp d hd sub hr=>absurd rfl hr,fun p hp q hq=>by cases hq⟩,fun _ _ _ _ _ _=>rfl⟩
 obtain ⟨h1,h2⟩:=l1 u v t h
 have ne:(initS n lk sg least).out u≠(initS n lk sg least).out v:=fun e=>by
  have:=inj u v (by omega) h2 e
  omega
 rw [cut_tot F ne,tots u (by omega),tots v h2]
 exact fe u v t h
section
variable {S:St}{rk:Nat→Nat}{d:Int}
theorem lift_ring {R:Nat} (h:om S R) (hm:(S.bd R).mark = -1) (e:d=(S.bd R).pr):((liftS S d).bd R).pr=0:=by
 rw [lift_pr,if_pos h,hm,e];omega
theorem link_marks (O:Ok S rk) {u v:Nat} (hu:u < S.n) (hv:v < S.n) (h:0 < (S.bd (S.out u)).mark+(S.bd (S.out v)).mark) :
  ((S.bd (S.out u)).mark=1∧(S.bd (S.out v)).mark=0)∨((S.bd (S.out u)).mark=0∧(S.bd (S.out v)).mark=1)∨((S.bd (S.out u)).mark=1∧(S.bd (S.out v)).mark=1):=by
 rcases O.tr.mks u hu with a | a | a <;> rcases O.tr.mks v hv with b | b | b <;> rw [a,b] at h ⊢
 ·exact .inr (.inr ⟨rfl,rfl⟩)
 ·exact .inl ⟨rfl,rfl⟩
 ·exact absurd h (by decide)
 ·exact .inr (.inl ⟨rfl,rfl⟩)
 ·exact absurd h (by decide)
 ·exact absurd h (by decide)
 ·exact absurd h (by decide)
 ·exact absurd h (by decide)
 ·exact absurd h (by decide)
theorem free_tip (O:Ok S rk) {v:Nat} (hv:v < S.n) (h:(S.bd (S.out v)).mark=0):∃ w,S.mt (S.bd (S.out v)).tip=some w:=by
 cases e:S.mt (S.bd (S.out v)).tip with
 | none =>
  have:=O.tr.root v hv e
  rw [h] at this;cases this
 | some w=>exact ⟨w,rfl⟩
end
end Bl
namespace Bl
section
variable {S:St}{rk:Nat→Nat}
structure Pm (n:Nat) (m:Nat→Option Nat):Prop where
 lt:∀ p q,p < n→m p=some q→q < n∧m q=some p∧q≠p
theorem berge {n:Nat}{m:Nat→Option Nat}{A:Nat→Prop} [DecidablePred A] {pt:Nat→Nat} (hm:Pm n m) (h1:∀ p q,p < n→m p=some q→¬ A p→¬ A q→pt p=pt q) {X:List Nat} (nd:X.Nodup)
  (hX:∀ x∈X,num n (fun p=>decide (¬ A p∧pt p=x)) % 2=1):X.length≤num n (fun p=>decide (A p))+num n (fun p=>(m p).isNone):=by
 have ex:∀ x∈X,∃ p,p < n∧¬ A p∧pt p=x∧(m p=none∨∃ q,m p=some q∧A q):=fun x hx=>by
  by_cases h:∃ p,p < n∧¬ A p∧pt p=x∧(m p=none∨∃ q,m p=some q∧A q)
  ·exact h
  ·exfalso
   have ev:=num_even (n:=n) (C:=fun p=>decide (¬ A p∧pt p=x)) (f:=fun p=>(m p).getD p) fun p hp hc=>by
    obtain ⟨c1,c2⟩:=of_decide_eq_true hc
    cases e:m p with
    | none=>exact absurd ⟨p,hp,c1,c2,.inl e⟩ h
    | some q =>
     obtain ⟨q1,q2,q3⟩:=hm.lt p q hp e
     have nq:¬ A q:=fun z=>h ⟨p,hp,c1,c2,.inr ⟨q,e,z⟩⟩
     show q < n∧decide (¬ A q∧pt q=x)=true∧(m q).getD q=p∧q≠p
     refine ⟨q1,decide_eq_true ⟨nq,?_⟩,by rw [q2];rfl,q3⟩
     rw [←h1 p q hp e c1 nq];exact c2
   have:=hX x hx
   omega
 have le:X.length≤((sel n (fun p=>decide (A p)))++(sel n (fun p=>(m p).isNone))).length:=by
  classical
  let g:Nat→Nat:=fun x=>if h:∃ p,p < n∧¬ A p∧pt p=x∧(m p=none∨∃ q,m p=some q∧A q) then (m h.choose).getD h.choose else 0
  have gs:∀ x∈X,∃ p,p < n∧¬ A p∧pt p=x∧((m p=none∧g x=p)∨∃ q,m p=some q∧A q∧g x=q):=fun x hx=>by
   have hx':=ex x hx
   have eg:g x=(m hx'.choose).getD hx'.choose:=dif_pos hx'
   obtain ⟨p1,p2,p3,p4⟩:=hx'.choose_spec
   refine ⟨hx'.choose,p1,p2,p3,?_⟩
   rcases p4 with z | ⟨q,z1,z2⟩
   ·exact .inl ⟨z,by rw [eg,z];rfl⟩
   ·exact .inr ⟨q,z1,z2,by rw [eg,z1];rfl⟩
  refine le_map (f:=g) nd (fun a ha b hb e=>?_) fun a ha=>?_
  ·obtain ⟨p,p1,p2,p3,p4⟩:=gs a ha
   obtain ⟨q,q1,q2,q3,q4⟩:=gs b hb
   rcases p4 with ⟨z1,z2⟩ | ⟨r,z1,z2,z3⟩ <;> rcases q4 with ⟨y1,y2⟩ | ⟨s,y1,y2,y3⟩
   ·rw [←p3,←q3,←z2,e,y2]
   ·rw [←z2,e,y3] at p2;exact absurd y2 p2
   ·rw [←y2,←e,z3] at q2;exact absurd z2 q2
   ·have h3:=(hm.lt p r p1 z1).2.1
    have h4:=(hm.lt q s q1 y1).2.1
    have ers:r=s:=by rw [←z3,e,y3]
    rw [ers,h4] at h3
    rw [←p3,←q3,Option.some.inj h3]
  ·obtain ⟨p,p1,p2,p3,p4⟩:=gs a ha
   rcases p4 with ⟨z1,z2⟩ | ⟨r,z1,z2,z3⟩
   ·rw [z2];exact List.mem_append_right _ (sel_mem.mpr ⟨p1,by rw [z1];rfl⟩)
   ·rw [z3];exact List.mem_append_left _ (sel_mem.mpr ⟨(hm.lt p r p1 z1).1,decide_eq_true z2⟩)
 rw [List.length_append] at le
 exact le
end
end Bl
namespace Bl
end Bl
namespace Bl
section
variable {S:St}{rk:Nat→Nat}
theorem no_larger (O:Ok S rk) (E:En S) {pt:Nat→Nat} (h1:∀ u v t,(u,v,t)∈S.lk→(S.bd (S.out u)).mark ≠ -1→(S.bd (S.out v)).mark ≠ -1→pt u=pt v)
  (h2:∀ q:Nat→Nat,(∀ u v t,(u,v,t)∈S.lk→(S.bd (S.out u)).mark ≠ -1→(S.bd (S.out v)).mark ≠ -1→q u=q v)→∀ u v,u < S.n→v < S.n→(S.bd (S.out u)).mark ≠ -1→(S.bd (S.out v)).mark ≠ -1→pt u=pt v→q u=q v)
  {X:List Nat} (nd:X.Nodup) (hX:∀ x,x∈X↔num S.n (fun p=>decide ((S.bd (S.out p)).mark ≠ -1∧pt p=x)) % 2=1)
  {m:Nat→Option Nat} (hm:Pm S.n m) (ml:∀ p q,p < S.n→m p=some q→∃ t,(p,q,t)∈S.lk∨(q,p,t)∈S.lk):alone S≤num S.n (fun p=>(m p).isNone):=by
 have e1:=odd_parts O E h1 h2 nd hX
 have e2:=berge (A:=fun p=>(S.bd (S.out p)).mark = -1) (pt:=pt) hm (fun p q hp h a b=>by
  obtain ⟨t,z | z⟩:=ml p q hp h
  ·exact h1 p q t z a b
  ·exact (h1 q p t z b a).symm) nd fun x hx=>(hX x).mp hx
 omega
end
end Bl
namespace L2
open PySem PySem.Spec PyProof.Rows
theorem size_s2 {a b:Int} (h:a < b):Builtin.Range.rangeSize a b 2=(b-a+1) / 2:=by
 unfold Builtin.Range.rangeSize
 rw [if_pos (by decide),if_pos h]
 omega
theorem small_s2 {a b:Int} (h0:0≤a) (h:a < b) (h1:b < 128):Builtin.Range.small a b 2=true:=by
 unfold Builtin.Range.small
 rw [size_s2 h]
 simp only [Builtin.Range.rangeFitsLong,Bool.and_eq_true,Bool.or_eq_true,decide_eq_true_eq,beq_iff_eq,show (2:Int) > 0 by decide,if_true]
 omega
section
variable {X:Cx}{tg:Expr}
def iRngS2 (ta:TA):TI:=fun σ H R=>ta σ H fun vs H1=>∃ i j:Int,vs = [.int i,.int j,.int 2]∧0≤i∧i < j∧j < 128∧R (Itrc i 2 ((j-i+1) / 2).toNat) H1
theorem pi_rangeS2 {a b c:Expr}{ta:TA}{p pos:Pos} (hg:Gl X "range") (hm:X.mg "range" = none) (ha:PA X [a,b,c] ta) (hs:starEach [a,b,c] X.env = [(false,eval a X.env),(false,eval b X.env),(false,eval c X.env)]:=by rfl)
  (hs2:starEach [b,c] X.env = [(false,eval b X.env),(false,eval c X.env)]:=by rfl) :
  PI X tg (.Call (.Name "range" p) [a,b,c] [] pos) (iRngS2 ta):=by
 intro pins s σ H R I h
 refine Call_ (ld_blt I hg hm boot_range (PyProof.Rows.callWith_type1 (thn (ha pos pins s σ H _ I h) fun us s1 ⟨vs,H1,I1,r1,q1⟩=>?_) (by rw [hs,hs2]) (by rw [hs2];rfl)))
 obtain ⟨i,j,e,i0,i1,i2,q⟩:=q1
 subst e
 cases r1 with
 | cons r rr =>
  cases rr with
  | cons r' rr =>
   cases rr with
   | cons r'' rr =>
    cases rr
    obtain ⟨t,rfl⟩:=r
    obtain ⟨t',rfl⟩:=r'
    obtain ⟨t'',rfl⟩:=r''
    refine call_range_3 (by decide) ?_ (Or.inl (PyProof.noPylong_of_log2 (by decide +kernel)))
    refine wpAny_pyIter_range (IsRange.new ..) (small_s2 i0 i1 i2) ?_
    have I2:Inv X pins σ H1 { s1 with heap:=s1.heap.push { cls:=.type "range",data:=.fields #[.int i t,.int j t',.int 2 t''] },toks:=s1.toks }:=I1.kept fun b o e=>Heap.get?_push_of_some _ e
    refine ⟨(s1.heap.push { cls:=.type "range",data:=.fields #[.int i t,.int j t',.int 2 t''] }).objs.size,[(s1.heap.push { cls:=.type "range",data:=.fields #[.int i t,.int j t',.int 2 t''] }).objs.size],_,_,H1,rfl,
     I2.kept (t':=s1.toks) fun b o e=>Heap.get?_push_of_some _ e,turn_rangec _ i 2 ((j-i+1) / 2).toNat,?_,fun b hb=>?_,q⟩
    ·have e1:i+((0:Nat):Int)*2=i:=by simp
     have e2:((((j-i+1) / 2).toNat:Nat):Int)-((0:Nat):Int)=Builtin.Range.rangeSize i j 2:=by rw [size_s2 i1];omega
     show IsRangeIter _ _ (i+((0:Nat):Int)*2) (((((j-i+1) / 2).toNat:Nat):Int)-((0:Nat):Int)) 2
     rw [e1,e2]
     exact Heap.get?_push_size _ rfl
    ·have e:b=(s1.heap.push { cls:=.type "range",data:=.fields #[.int i t,.int j t',.int 2 t''] }).objs.size:=by simpa using hb
     subst e
     exact I2.fpOk (Nat.le_refl _) (I2.hok.fresh (Nat.le_refl _))
end
end L2
namespace L2
open PySem PySem.Spec PyProof.Rows
theorem pe_fldK {X:Cx}{K:PySem.W.Frag}{e:Expr}{f:Str}{pos:Pos}{ta:TE} (he:PE X e ta) (hb:attributeBase e f X.env (eval e X.env)=eval e X.env) (h:X.K=K:=by rfl):PE X (.Attribute e f pos) (tFld K ta f):=by
 subst h;exact pe_fld he hb
def tTru (K:PySem.W.Frag) (ta:TE):TT:=fun σ H Q=>ta σ H fun x H'=>∃ k,TruV K x H' k∧Q k H'
theorem pt_truthK {X:Cx}{K:PySem.W.Frag}{a:Expr}{ta:TE} (ha:PE X a ta) (he:∀ whole,isTrue a X.env whole=(do let v ← whole;standAt a.pos;holding [v] (truthy v))) (h:X.K=K:=by rfl):PT X a (tTru K ta):=by
 subst h;exact pt_truth ha he
theorem tru_lst {K:PySem.W.Frag}{H:Hp}{p:Addr}{xs:List V} (h:H p=some (.lst xs)):TruV K (.ref p) H (!xs.isEmpty):=.inl ⟨xs,SqL.of h,rfl⟩
end L2
namespace BW
open PySem L2 PyProof.Rows R
open M21 (oN lI lO lI_at lO_at lf_ix lI_set)
open De (lf fset)
theorem lf_put {α:Type} (g:α→V) (f:Nat→α) (n x:Nat) (v:α):(lf n fun i=>g (f i)).set x (g v)=lf n fun i=>g (if i=x then v else f i):=by
 rw [De.lf_set]
 refine congrArg (lf n) (funext fun j=>?_)
 unfold fset
 split <;> rfl
structure Cs where
 W:Addr
 B:Addr
 tb:Addr
 pos:Pos
 q:Str
structure Ad where
 w:Addr
 dw:Addr
 l:Addr
 g:Addr
 o:Addr
 s:Addr
 m:Addr
 sg:Nat→Addr
def nV (l:List Nat):List V:=l.map fun p:Nat=>V.int (p:Int)
def p2 (x:Nat×Nat):HO:=.tup [.int (x.1:Int),.int (x.2:Int)]
def p3 (x:Nat×Nat×Int):HO:=.tup [.int (x.1:Int),.int (x.2.1:Int),.int x.2.2]
def JLs (B:Hp) (js:List Addr) (l:List (Nat×Nat)):Prop:=Paired (fun a x=>B a=some (p2 x)) js l
def JL (B:Hp) (a:Addr) (l:List (Nat×Nat)):Prop:=∃ js:List Addr,B a=some (.lst (js.map V.ref))∧JLs B js l
def LKs (B:Hp) (js:List Addr) (l:List (Nat×Nat×Int)):Prop:=Paired (fun a x=>B a=some (p3 x)) js l
def LKL (B:Hp) (a:Addr) (l:List (Nat×Nat×Int)):Prop:=∃ js:List Addr,B a=some (.lst (js.map V.ref))∧LKs B js l
theorem JLs.same {B B':Hp}{js:List Addr}{l:List (Nat×Nat)} (h:JLs B js l) (e:Same B B'):JLs B' js l:=Paired.mapP h fun _ _ q=>e _ _ q
theorem JL.same {B B':Hp}{a:Addr}{l:List (Nat×Nat)} (h:JL B a l) (e:Same B B'):JL B' a l:=let ⟨js,x,y⟩:=h;⟨js,e _ _ x,y.same e⟩
theorem LKs.same {B B':Hp}{js:List Addr}{l:List (Nat×Nat×Int)} (h:LKs B js l) (e:Same B B'):LKs B' js l:=Paired.mapP h fun _ _ q=>e _ _ q
theorem LKL.same {B B':Hp}{a:Addr}{l:List (Nat×Nat×Int)} (h:LKL B a l) (e:Same B B'):LKL B' a l:=let ⟨js,x,y⟩:=h;⟨js,e _ _ x,y.same e⟩
def CmR (B:Hp) (v:V):Option (Nat×Nat)→Prop
 | none=>v = .non
 | some x=>∃ t,v = .ref t∧B t=some (p2 x)
theorem CmR.same {B B':Hp}{v:V}{o:Option (Nat×Nat)} (h:CmR B v o) (e:Same B B'):CmR B' v o:=by
 cases o with
 | none=>exact h
 | some x=>obtain ⟨t,a,b⟩:=h;exact ⟨t,a,e _ _ b⟩
def bF (pa tip ia ja:V) (pr mk:V) (cv:V):List (Str×V):=[("places",pa),("tip",tip),("inner",ia),("joints",ja),("price",pr),("mark",mk),("came",cv)]
section
variable {pa tip ia ja pr mk cv:V}
theorem b1:(bF pa tip ia ja pr mk cv).lookup ("places":Str)=some pa:=lk_hit
theorem b2:(bF pa tip ia ja pr mk cv).lookup ("tip":Str)=some tip:=(lk_miss (by decide +kernel)).trans lk_hit
theorem b3:(bF pa tip ia ja pr mk cv).lookup ("inner":Str)=some ia:=(lk_miss (by decide +kernel)).trans ((lk_miss (by decide +kernel)).trans lk_hit)
theorem b4:(bF pa tip ia ja pr mk cv).lookup ("joints":Str)=some ja:=(lk_miss (by decide +kernel)).trans ((lk_miss (by decide +kernel)).trans ((lk_miss (by decide +kernel)).trans lk_hit))
theorem b5:(bF pa tip ia ja pr mk cv).lookup ("price":Str)=some pr:=(lk_miss (by decide +kernel)).trans ((lk_miss (by decide +kernel)).trans ((lk_miss (by decide +kernel)).trans ((lk_miss (by decide +kernel)).trans lk_hit)))
theorem b6:(bF pa tip ia ja pr mk cv).lookup ("mark":Str)=some mk:=(lk_miss (by decide +kernel)).trans ((lk_miss (by decide +kernel)).trans ((lk_miss (by decide +kernel)).trans ((lk_miss (by decide +kernel)).trans ((lk_miss (by decide +kernel)).trans lk_hit))))
theorem b7:(bF pa tip ia ja pr mk cv).lookup ("came":Str)=some cv:=(lk_miss (by decide +kernel)).trans ((lk_miss (by decide +kernel)).trans ((lk_miss (by decide +kernel)).trans ((lk_miss (by decide +kernel)).trans ((lk_miss (by decide +kernel)).trans ((lk_miss (by decide +kernel)).trans lk_hit)))))
theorem bF_few:(bF pa tip ia ja pr mk cv).length < 1000:=by show 7 < 1000;decide
theorem putF_hit {f:Str}{v x:V}{r:List (Str×V)}:putF f v ((f,x)::r)=(f,v)::r:=if_pos rfl
theorem putF_miss {f g:Str}{v x:V}{r:List (Str×V)} (h:g≠f):putF f v ((g,x)::r)=(g,x)::putF f v r:=if_neg h
theorem b_tip {t:V}:putF "tip" t (bF pa tip ia ja pr mk cv)=bF pa t ia ja pr mk cv:=by
 unfold bF;rw [putF_miss (by decide +kernel),putF_hit]
theorem b_price {t:V}:putF "price" t (bF pa tip ia ja pr mk cv)=bF pa tip ia ja t mk cv:=by
 unfold bF;rw [putF_miss (by decide +kernel),putF_miss (by decide +kernel),putF_miss (by decide +kernel),putF_miss (by decide +kernel),putF_hit]
theorem b_mark {t:V}:putF "mark" t (bF pa tip ia ja pr mk cv)=bF pa tip ia ja pr t cv:=by
 unfold bF;rw [putF_miss (by decide +kernel),putF_miss (by decide +kernel),putF_miss (by decide +kernel),putF_miss (by decide +kernel),putF_miss (by decide +kernel),putF_hit]
theorem b_came {t:V}:putF "came" t (bF pa tip ia ja pr mk cv)=bF pa tip ia ja pr mk t:=by
 unfold bF;rw [putF_miss (by decide +kernel),putF_miss (by decide +kernel),putF_miss (by decide +kernel),putF_miss (by decide +kernel),putF_miss (by decide +kernel),putF_miss (by decide +kernel),putF_hit]
end
def wF (A:Ad):List (Str×V):=[("links",.ref A.l),("singles",.ref A.g),("outer",.ref A.o),("sums",.ref A.s),("mates",.ref A.m)]
theorem w1 {A:Ad}:(wF A).lookup ("links":Str)=some (.ref A.l):=lk_hit
theorem w2 {A:Ad}:(wF A).lookup ("singles":Str)=some (.ref A.g):=(lk_miss (by decide +kernel)).trans lk_hit
theorem w3 {A:Ad}:(wF A).lookup ("outer":Str)=some (.ref A.o):=(lk_miss (by decide +kernel)).trans ((lk_miss (by decide +kernel)).trans lk_hit)
theorem w4 {A:Ad}:(wF A).lookup ("sums":Str)=some (.ref A.s):=(lk_miss (by decide +kernel)).trans ((lk_miss (by decide +kernel)).trans ((lk_miss (by decide +kernel)).trans lk_hit))
theorem w5 {A:Ad}:(wF A).lookup ("mates":Str)=some (.ref A.m):=(lk_miss (by decide +kernel)).trans ((lk_miss (by decide +kernel)).trans ((lk_miss (by decide +kernel)).trans ((lk_miss (by decide +kernel)).trans lk_hit)))
theorem w_no {A:Ad}{f:Str} (h1:(f == "links")=false) (h2:(f == "singles")=false) (h3:(f == "outer")=false) (h4:(f == "sums")=false) (h5:(f == "mates")=false):(wF A).lookup f=none :=
 (lk_miss h1).trans ((lk_miss h2).trans ((lk_miss h3).trans ((lk_miss h4).trans ((lk_miss h5).trans lk_nil))))
def BdR (C:Cs) (B H:Hp) (b:Addr) (d:Bl.Bd):Prop:=∃ (dx pa ia ja:Addr) (cv:V),H b=some (.ins C.B dx (bF (.ref pa) (.int (d.tip:Int)) (.ref ia) (.ref ja) (.int d.pr) (.int d.mark) cv)) ∧
 B pa=some (.lst (nV d.pl))∧B ia=some (.lst (d.inn.map V.ref))∧JL B ja d.jt∧CmR B cv d.cm
def lRef (n:Nat) (f:Nat→Addr):List V:=lf n fun p=>V.ref (f p)
structure Wb (C:Cs) (A:Ad) (B H:Hp) (S:Bl.St):Prop where
 sb:Same B H
 no:B A.o=none
 ns:B A.s=none
 nm:B A.m=none
 nt:B C.tb=none
 nb:∀ b∈S.ids,B b=none
 os:A.o≠A.s
 om:A.o≠A.m
 sm:A.s≠A.m
 ho:H A.o=some (.lst (lRef S.n S.out))
 hs:H A.s=some (.lst (lI S.n S.sm))
 hm:H A.m=some (.lst (lO S.n S.mt))
 tab:TabOk C.tb C.pos C.q H
 web:B A.w=some (.ins C.W A.dw (wF A))
 lk:LKL B A.l S.lk
 hg:B A.g=some (.lst (lRef S.n A.sg))
 sgl:∀ p,p < S.n→A.sg p∈S.ids∧Bl.pl S (A.sg p) = [p]
 bod:∀ b∈S.ids,BdR C B H b (S.bd b)
 n40:S.n≤40
section
variable {C:Cs}{A:Ad}{B H:Hp}{S:Bl.St}
theorem Wb.bo (w:Wb C A B H S) {b:Nat} (hb:b∈S.ids):b≠A.o∧b≠A.s∧b≠A.m∧b≠C.tb:=by
 obtain ⟨dx,pa,ia,ja,cv,h,_⟩:=w.bod b hb
 obtain ⟨ps,hP,_⟩:=w.tab
 refine ⟨fun e=>?_,fun e=>?_,fun e=>?_,fun e=>?_⟩
 ·rw [e,w.ho] at h;cases h
 ·rw [e,w.hs] at h;cases h
 ·rw [e,w.hm] at h;cases h
 ·rw [e,hP] at h;cases h
theorem Wb.same {H':Hp} (w:Wb C A B H S) (e:Same H H'):Wb C A B H' S :=
 ⟨w.sb.trans e,w.no,w.ns,w.nm,w.nt,w.nb,w.os,w.om,w.sm,e _ _ w.ho,e _ _ w.hs,e _ _ w.hm,w.tab.same e,w.web,w.lk,w.hg,w.sgl,
  fun b hb=>let ⟨dx,pa,ia,ja,cv,h,r⟩:=w.bod b hb;⟨dx,pa,ia,ja,cv,e _ _ h,r⟩,w.n40⟩
theorem Wb.more {B':Hp} (w:Wb C A B H S) (e:Same B B') (f:Same B' H) (h1:B' A.o=none) (h2:B' A.s=none) (h3:B' A.m=none) (h4:B' C.tb=none) (h5:∀ b∈S.ids,B' b=none):Wb C A B' H S :=
 ⟨f,h1,h2,h3,h4,h5,w.os,w.om,w.sm,w.ho,w.hs,w.hm,w.tab,e _ _ w.web,w.lk.same e,e _ _ w.hg,w.sgl,
  fun b hb=>let ⟨dx,pa,ia,ja,cv,h,r1,r2,r3,r4⟩:=w.bod b hb;⟨dx,pa,ia,ja,cv,h,e _ _ r1,e _ _ r2,r3.same e,r4.same e⟩,w.n40⟩
theorem Wb.add {a:Addr}{o:HO} (w:Wb C A B H S) (ha:H a=some o) (h1:a≠A.o) (h2:a≠A.s) (h3:a≠A.m) (h4:a≠C.tb) (h5:a ∉ S.ids):Wb C A (upd B a o) H S :=
 w.more (fun b u e=>by
  by_cases z:b=a
  ·subst z;rw [upd_same];rw [w.sb _ _ e] at ha;exact ha.symm
  ·rw [upd_ne z];exact e) (fun b u e=>by
  by_cases z:b=a
  ·subst z;rw [upd_same] at e;cases e;exact ha
  ·rw [upd_ne z] at e;exact w.sb _ _ e) (by rw [upd_ne (Ne.symm h1)];exact w.no) (by rw [upd_ne (Ne.symm h2)];exact w.ns) (by rw [upd_ne (Ne.symm h3)];exact w.nm) (by rw [upd_ne (Ne.symm h4)];exact w.nt)
  fun b hb=>by rw [upd_ne (fun z=>h5 (by rw [←z];exact hb))];exact w.nb b hb
theorem Wb.addT {a:Addr}{xs:List V} (w:Wb C A B H S) (ha:H a=some (.tup xs)):Wb C A (upd B a (.tup xs)) H S:=by
 obtain ⟨ps,hP,_⟩:=w.tab
 refine w.add ha (fun e=>?_) (fun e=>?_) (fun e=>?_) (fun e=>?_) fun e=>?_
 ·rw [e,w.ho] at ha;cases ha
 ·rw [e,w.hs] at ha;cases ha
 ·rw [e,w.hm] at ha;cases ha
 ·rw [e,hP] at ha;cases ha
 ·obtain ⟨dx,pa,ia,ja,cv,h,_⟩:=w.bod a e
  rw [h] at ha;cases ha
theorem same_add {a:Addr}{o:HO}{B H:Hp} (s:Same B H) (ha:H a=some o):Same B (upd B a o):=fun b u e=>by
 by_cases z:b=a
 ·subst z;rw [upd_same];rw [s _ _ e] at ha;exact ha.symm
 ·rw [upd_ne z];exact e
theorem Wb.setM {x:Nat}{v:Option Nat} (w:Wb C A B H S):Wb C A B (upd H A.m (.lst ((lO S.n S.mt).set x (oN v)))) { S with mt:=fun q=>if q=x then v else S.mt q } :=
 ⟨fun b u e=>by rw [upd_ne (fun z=>by rw [z,w.nm] at e;cases e)];exact w.sb b u e,w.no,w.ns,w.nm,w.nt,w.nb,w.os,w.om,w.sm,by rw [upd_ne w.om];exact w.ho,by rw [upd_ne w.sm];exact w.hs,
  by rw [upd_same];exact congrArg (fun l=>some (HO.lst l)) (lf_put oN S.mt S.n x v),
  w.tab.upd w.hm trivial,w.web,w.lk,w.hg,w.sgl,
  fun b hb=>let ⟨dx,pa,ia,ja,cv,h,r⟩:=w.bod b hb;⟨dx,pa,ia,ja,cv,by rw [upd_ne (w.bo hb).2.2.1];exact h,r⟩,w.n40⟩
theorem Wb.setS {x:Nat}{v:Int} (w:Wb C A B H S):Wb C A B (upd H A.s (.lst ((lI S.n S.sm).set x (.int v)))) { S with sm:=fun q=>if q=x then v else S.sm q } :=
 ⟨fun b u e=>by rw [upd_ne (fun z=>by rw [z,w.ns] at e;cases e)];exact w.sb b u e,w.no,w.ns,w.nm,w.nt,w.nb,w.os,w.om,w.sm,by rw [upd_ne w.os];exact w.ho,
  by rw [upd_same];exact congrArg (fun l=>some (HO.lst l)) (lf_put V.int S.sm S.n x v),by rw [upd_ne (Ne.symm w.sm)];exact w.hm,
  w.tab.upd w.hs trivial,w.web,w.lk,w.hg,w.sgl,
  fun b hb=>let ⟨dx,pa,ia,ja,cv,h,r⟩:=w.bod b hb;⟨dx,pa,ia,ja,cv,by rw [upd_ne (w.bo hb).2.1];exact h,r⟩,w.n40⟩
theorem Wb.setO {x b:Nat} (w:Wb C A B H S):Wb C A B (upd H A.o (.lst ((lRef S.n S.out).set x (.ref b)))) { S with out:=fun q=>if q=x then b else S.out q } :=
 ⟨fun b u e=>by rw [upd_ne (fun z=>by rw [z,w.no] at e;cases e)];exact w.sb b u e,w.no,w.ns,w.nm,w.nt,w.nb,w.os,w.om,w.sm,
  by rw [upd_same];exact congrArg (fun l=>some (HO.lst l)) (lf_put V.ref S.out S.n x b),by rw [upd_ne (Ne.symm w.os)];exact w.hs,by rw [upd_ne (Ne.symm w.om)];exact w.hm,
  w.tab.upd w.ho trivial,w.web,w.lk,w.hg,w.sgl,
  fun b hb=>let ⟨dx,pa,ia,ja,cv,h,r⟩:=w.bod b hb;⟨dx,pa,ia,ja,cv,by rw [upd_ne (w.bo hb).1];exact h,r⟩,w.n40⟩
theorem Wb.setB {b:Nat}{d:Bl.Bd}{o:HO}{f:Nat→Bl.Bd} (w:Wb C A B H S) (hb:b∈S.ids) (hf:f b=d) (hn:∀ c,c≠b→f c=S.bd c) (hp:d.pl=(S.bd b).pl) (h:BdR C B (upd H b o) b d):Wb C A B (upd H b o) { S with bd:=f }:=by
 obtain ⟨dx0,pa0,ia0,ja0,cv0,h0,_⟩:=w.bod b hb
 obtain ⟨n1,n2,n3,n4⟩:=w.bo hb
 refine ⟨fun c u e=>by rw [upd_ne (fun z=>by rw [z,w.nb b hb] at e;cases e)];exact w.sb c u e,w.no,w.ns,w.nm,w.nt,w.nb,w.os,w.om,w.sm,by rw [upd_ne (Ne.symm n1)];exact w.ho,by rw [upd_ne (Ne.symm n2)];exact w.hs,by rw [upd_ne (Ne.symm n3)];exact w.hm,
  w.tab.upd h0 trivial,w.web,w.lk,w.hg,fun p hp'=>⟨(w.sgl p hp').1,?_⟩,fun c hc=>?_,w.n40⟩
 ·show (f (A.sg p)).pl = [p]
  by_cases z:A.sg p=b
  ·rw [z,hf,hp,←z];exact (w.sgl p hp').2
  ·rw [hn _ z];exact (w.sgl p hp').2
 ·show BdR C B (upd H b o) c (f c)
  by_cases z:c=b
  ·rw [z,hf];exact h
  ·rw [hn c z]
   obtain ⟨dx,pa,ia,ja,cv,h1,r⟩:=w.bod c hc
   exact ⟨dx,pa,ia,ja,cv,by rw [upd_ne z];exact h1,r⟩
end
end BW
namespace BW
open PySem L2 PyProof.Rows R
theorem flat_nV (l:List Nat):(nV l).all flatV=true:=by
 unfold nV
 rw [List.all_eq_true]
 intro v hv
 obtain ⟨p,_,rfl⟩:=List.mem_map.mp hv
 rfl
theorem inV_nV (p:Nat):∀ l:List Nat,inV (.int (p:Int)) (nV l)=decide (p∈l)
 | []=>rfl
 | a::l=>by
  show (_ || inV (.int (p:Int)) (nV l))=_
  rw [inV_nV p l]
  by_cases h:p=a
  ·subst h
   simp [eqV]
  ·have h':¬ (a:Int)=(p:Int):=fun z=>h (by omega)
   have h'':¬ (p:Int)=(a:Int):=fun z=>h (by omega)
   simp [h,h',h'',eqV]
end BW
namespace BW
open PySem L2 PyProof.Rows R
structure OmL (S:Bl.St) (l:List Nat):Prop where
 nd:l.Nodup
 mem:∀ b,b∈l↔Bl.om S b
 len:l.length≤S.n
def omL (S:Bl.St) (k:Nat):List Nat:=(List.range k).filterMap fun p=>if (Bl.pl S (S.out p))[0]? = some p then some (S.out p) else none
theorem omL_succ (S:Bl.St) (k:Nat):omL S (k+1)=omL S k++(if (Bl.pl S (S.out k))[0]? = some k then [S.out k] else []):=by
 unfold omL
 rw [List.range_succ,List.filterMap_append]
 congr 1
 by_cases h:(Bl.pl S (S.out k))[0]? = some k
 ·rw [if_pos h]
  show List.filterMap _ [k] = _
  rw [List.filterMap_cons,if_pos h];rfl
 ·rw [if_neg h]
  show List.filterMap _ [k] = _
  rw [List.filterMap_cons,if_neg h];rfl
theorem omL_len (S:Bl.St) (k:Nat):(omL S k).length≤k:=by
 unfold omL
 refine Nat.le_trans (List.length_filterMap_le _ _) ?_
 rw [List.length_range];exact Nat.le_refl _
theorem omL_in {S:Bl.St}{k b:Nat}:b∈omL S k↔∃ p,p < k∧(Bl.pl S (S.out p))[0]? = some p∧S.out p=b:=by
 unfold omL
 rw [List.mem_filterMap]
 constructor
 ·rintro ⟨p,hp,e⟩
  by_cases h:(Bl.pl S (S.out p))[0]? = some p
  ·rw [if_pos h] at e
   exact ⟨p,List.mem_range.mp hp,h,Option.some.inj e⟩
  ·rw [if_neg h] at e;cases e
 ·rintro ⟨p,hp,h,e⟩
  exact ⟨p,List.mem_range.mpr hp,by rw [if_pos h,e]⟩
theorem omL_ok {S:Bl.St} (F:Bl.Fo S):OmL S (omL S S.n):=by
 refine ⟨?_,fun b=>?_,omL_len S S.n⟩
 ·have go:∀ k,(omL S k).Nodup:=fun k=>by
   induction k with
   | zero=>exact List.nodup_nil
   | succ k ih =>
    rw [omL_succ]
    by_cases h:(Bl.pl S (S.out k))[0]? = some k
    ·rw [if_pos h,List.nodup_append]
     refine ⟨ih,by simp,fun a ha c hc e=>?_⟩
     obtain ⟨p,hp,h1,h2⟩:=omL_in.mp ha
     rw [List.mem_singleton] at hc
     rw [e,hc] at h2
     rw [h2,h] at h1
     have:=Option.some.inj h1
     omega
    ·rw [if_neg h,List.append_nil];exact ih
  exact go _
 ·rw [omL_in,Bl.om_iff]
  constructor
  ·rintro ⟨p,hp,_,e⟩;exact ⟨p,hp,e⟩
  ·rintro ⟨p,hp,rfl⟩
   obtain ⟨hi,hm⟩:=F.out p hp
   have hne:=F.ne _ hi
   obtain ⟨a,l,e⟩:=List.exists_cons_of_ne_nil hne
   have ha:a∈Bl.pl S (S.out p):=by rw [e];exact List.mem_cons_self
   have eo:=F.top _ hi a ha p hm
   exact ⟨a,F.lt _ hi a ha,by rw [eo,e];rfl,eo⟩
theorem int_dec (x y:Int):decide (V.int x=V.int y)=decide (x=y):=decide_eq_decide.mpr ⟨fun h=>V.int.inj h,fun h=>by rw [h]⟩
theorem nV_at0 {a:Nat}{l:List Nat}:atI (nV (a::l)) 0=some (.int (a:Int)):=atI_nat (j:=0) rfl
def lift1 (S:Bl.St) (b:Nat) (r:Int):Bl.St:={ S with bd:=fun c=>if c=b then { S.bd c with pr:=(S.bd c).pr+r } else S.bd c,sm:=fun p=>if p∈Bl.pl S b then S.sm p+r else S.sm p }
theorem take_snoc {l:List Nat}{k p:Nat} (h:l[k]? = some p):l.take (k+1)=l.take k ++ [p]:=by rw [List.take_add_one,h];rfl
theorem take_fresh {l:List Nat}{k p:Nat} (nd:l.Nodup) (h:l[k]? = some p):p ∉ l.take k:=fun hm=>by
 obtain ⟨i,hi,e⟩:=List.getElem_of_mem hm
 rw [List.length_take] at hi
 rw [List.getElem_take] at e
 obtain ⟨hk,e2⟩:=List.getElem?_eq_some_iff.mp h
 have:=(List.getElem_inj nd).mp (e.trans e2.symm)
 omega
theorem sm_step {S:Bl.St}{b k p:Nat}{r:Int} (nd:(Bl.pl S b).Nodup) (h:(Bl.pl S b)[k]? = some p) :
  (fun q=>if q=p then (if p∈(Bl.pl S b).take k then S.sm p+r else S.sm p)+r else if q∈(Bl.pl S b).take k then S.sm q+r else S.sm q)=fun q=>if q∈(Bl.pl S b).take (k+1) then S.sm q+r else S.sm q:=by
 funext q
 rw [take_snoc h,if_neg (take_fresh nd h)]
 by_cases e:q=p
 ·subst e
  rw [if_pos rfl,if_pos (List.mem_append_right _ (List.mem_singleton.mpr rfl))]
 ·rw [if_neg e]
  by_cases m:q∈(Bl.pl S b).take k
  ·rw [if_pos m,if_pos (List.mem_append_left _ m)]
  ·rw [if_neg m,if_neg (fun z=>by
    rcases List.mem_append.mp z with z | z
    ·exact m z
    ·exact e (List.mem_singleton.mp z))]
theorem pl_len {S:Bl.St} (F:Bl.Fo S) {b:Nat} (hb:b∈S.ids):(Bl.pl S b).length≤S.n:=by
 have:=Bl.le_sub (F.pnd b hb) (y:=List.range S.n) fun z hz=>List.mem_range.mpr (F.lt b hb z hz)
 rwa [List.length_range] at this
theorem cnt_len {S:Bl.St} (F:Bl.Fo S) {b:Nat} (hb:b∈S.ids):Bl.cnt S b≤(Bl.pl S b).length:=by
 have hk:∀ i,i < Bl.cnt S b→(Bl.pl S (Bl.kid S b i)).headD 0∈Bl.pl S (Bl.kid S b i):=fun i hi=>by
  obtain ⟨a,l,e⟩:=List.exists_cons_of_ne_nil (F.ne _ (F.kin b hb i hi))
  rw [e];exact List.mem_cons_self
 have:=Bl.le_map (x:=List.range (Bl.cnt S b)) (y:=Bl.pl S b) (f:=fun i=>(Bl.pl S (Bl.kid S b i)).headD 0) List.nodup_range
  (fun i hi j hj e=>F.dis b hb i (List.mem_range.mp hi) j (List.mem_range.mp hj) _ (hk i (List.mem_range.mp hi)) (by have:=hk j (List.mem_range.mp hj);rw [show (Bl.pl S (Bl.kid S b i)).headD 0=(Bl.pl S (Bl.kid S b j)).headD 0 from e];exact this))
  fun i hi=>F.ksub hb (List.mem_range.mp hi) (hk i (List.mem_range.mp hi))
 rwa [List.length_range] at this
theorem jl_at {S:Bl.St}{B:Hp}{b:Nat}{js:List Addr} (h:JLs B js (S.bd b).jt) {i:Nat} (hi:i < (S.bd b).jt.length):∃ t,js[i]? = some t∧B t=some (p2 (Bl.jnt S b i)):=by
 have l:=Paired.length h
 obtain ⟨t,ht⟩:∃ t,js[i]? = some t:=⟨_,List.getElem?_eq_getElem (show i < js.length by omega)⟩
 obtain ⟨x,hx,htx⟩:=pairedGetL h ht
 refine ⟨t,ht,?_⟩
 rw [show Bl.jnt S b i=x by unfold Bl.jnt;rw [List.getD_eq_getElem?_getD,hx];rfl]
 exact htx
theorem at_ref {l:List Addr}{i:Nat}{t:Addr}{z:Int} (h:l[i]? = some t) (e:z=(i:Int)):atI (l.map V.ref) z=some (.ref t):=by
 rw [e];exact atI_nat (by rw [List.getElem?_map,h];rfl)
theorem at_kid {S:Bl.St}{b i:Nat}{z:Int} (h:i < Bl.cnt S b) (e:z=(i:Int)):atI ((S.bd b).inn.map V.ref) z=some (.ref (Bl.kid S b i)):=by
 have h2:(S.bd b).inn[i]? = some (S.bd b).inn[i]:=List.getElem?_eq_getElem h
 refine at_ref ?_ e
 rw [show Bl.kid S b i=(S.bd b).inn[i] by unfold Bl.kid;rw [List.getD_eq_getElem?_getD,h2];rfl]
 exact h2
theorem modI {a c:Nat}:(a:Int) % (c:Int)=((a % c:Nat):Int):=(Int.natCast_emod a c).symm
theorem Wb.eqv {C:Cs}{A:Ad}{B H:Hp}{S S':Bl.St} (w:Wb C A B H S) (e:S=S'):Wb C A B H S':=e ▸ w
theorem tin_lt {S:Bl.St} (F:Bl.Fo S) {b i:Nat} (hb:b∈S.ids) (hi:i < Bl.cnt S b):(Bl.jnt S b i).1 < S.n∧(Bl.jnt S b i).2 < S.n:=by
 obtain ⟨h1,h2⟩:=F.jin b hb i hi
 exact ⟨F.lt _ (F.kin b hb i hi) _ h1,F.lt _ (F.kin b hb _ (Nat.mod_lt _ (by omega))) _ h2⟩
end BW
namespace BW
open PySem L2 PyProof.Rows R
def many (S:Bl.St) (l:List Nat) (g:Nat→Bl.Bd):Nat→Bl.Bd:=fun b=>if b∈l then g b else S.bd b
theorem many_nil (S:Bl.St) (g:Nat→Bl.Bd):many S [] g=S.bd:=funext fun b=>if_neg List.not_mem_nil
theorem many_hit {S:Bl.St}{l:List Nat}{g:Nat→Bl.Bd}{b:Nat} (h:b∈l):many S l g b=g b:=if_pos h
theorem many_miss {S:Bl.St}{l:List Nat}{g:Nat→Bl.Bd}{b:Nat} (h:b ∉ l):many S l g b=S.bd b:=if_neg h
theorem many_snoc {S:Bl.St}{l:List Nat}{g:Nat→Bl.Bd}{b:Nat}:(fun c=>if c=b then g b else many S l g c)=many S (l ++ [b]) g:=by
 funext c
 by_cases e:c=b
 ·rw [if_pos e,e,many_hit (List.mem_append_right _ (List.mem_singleton.mpr rfl))]
 ·rw [if_neg e]
  by_cases m:c∈l
  ·rw [many_hit m,many_hit (List.mem_append_left _ m)]
  ·rw [many_miss m,many_miss (fun z=>by
    rcases List.mem_append.mp z with z | z
    ·exact m z
    ·exact e (List.mem_singleton.mp z))]
def markS (S:Bl.St) (b:Nat) (x:Nat×Nat):Bl.St:={ S with bd:=fun c=>if c=b then { S.bd c with mark:=-1,cm:=some x } else S.bd c }
theorem markS_hit {S:Bl.St}{b:Nat}{x:Nat×Nat}:(markS S b x).bd b = { S.bd b with mark:=-1,cm:=some x }:=if_pos rfl
theorem om_ids {S:Bl.St} (F:Bl.Fo S) {b:Nat} (h:Bl.om S b):b∈S.ids:=by
 obtain ⟨p,hp,rfl⟩:=Bl.om_iff.mp h
 exact (F.out p hp).1
theorem at_out {S:Bl.St}{p:Nat} (h:p < S.n):atI (lRef S.n S.out) (p:Int)=some (.ref (S.out p)):=atI_nat (De.lf_get h)
theorem at_mt {S:Bl.St}{p:Nat} (h:p < S.n):atI (M21.lO S.n S.mt) (p:Int)=some (M21.oN (S.mt p)):=M21.lO_at h
theorem at_sm {S:Bl.St}{p:Nat} (h:p < S.n):atI (M21.lI S.n S.sm) (p:Int)=some (.int (S.sm p)):=M21.lI_at h
theorem isN_oN (o:Option Nat):decide (M21.oN o=V.non)=o.isNone:=by cases o <;> rfl
end BW
namespace BW
open PySem L2 PyProof.Rows R
theorem Wb.addN {C:Cs}{A:Ad}{B H H1:Hp}{S:Bl.St}{l:Addr}{o:HO} (wb1:Wb C A B H1 S) (hl:H l=none) (hl1:H1 l=some o) (s1:Same H H1) (wb:Wb C A B H S):Wb C A (upd B l o) H1 S:=by
 obtain ⟨ps,hP,_⟩:=wb.tab
 refine wb1.add hl1 (fun e=>?_) (fun e=>?_) (fun e=>?_) (fun e=>?_) fun e=>?_
 ·rw [e,wb.ho] at hl;cases hl
 ·rw [e,wb.hs] at hl;cases hl
 ·rw [e,wb.hm] at hl;cases hl
 ·rw [e,hP] at hl;cases hl
 ·obtain ⟨dx,pa,ia,ja,cv,h,_⟩:=wb.bod l e
  rw [h] at hl;cases hl
end BW
namespace BW
open PySem L2 PyProof.Rows R
open De (lf)
theorem lf_congr {α:Type}{n:Nat}{f g:Nat→α} (h:∀ p,p < n→f p=g p):lf n f=lf n g:=by
 unfold De.lf
 exact List.map_congr_left fun p hp=>h p (List.mem_range.mp hp)
theorem Wb.cong {C:Cs}{A:Ad}{B H:Hp}{S S':Bl.St} (w:Wb C A B H S) (hn:S'.n=S.n) (hl:S'.lk=S.lk) (hi:S'.ids=S.ids) (hb:∀ b∈S.ids,S'.bd b=S.bd b) (ho:∀ p,p < S.n→S'.out p=S.out p) (hs:∀ p,p < S.n→S'.sm p=S.sm p) (hm:∀ p,p < S.n→S'.mt p=S.mt p):Wb C A B H S':=by
 refine ⟨w.sb,w.no,w.ns,w.nm,w.nt,by rw [hi];exact w.nb,w.os,w.om,w.sm,?_,?_,?_,w.tab,w.web,by rw [hl];exact w.lk,by rw [hn];exact w.hg,fun p hp=>?_,fun b h=>?_,by rw [hn];exact w.n40⟩
 ·rw [hn,show lRef S.n S'.out=lRef S.n S.out from lf_congr fun p hp=>by rw [ho p hp]];exact w.ho
 ·rw [hn,show M21.lI S.n S'.sm=M21.lI S.n S.sm from lf_congr fun p hp=>by rw [hs p hp]];exact w.hs
 ·rw [hn,show M21.lO S.n S'.mt=M21.lO S.n S.mt from lf_congr fun p hp=>by rw [hm p hp]];exact w.hm
 ·rw [hn] at hp
  obtain ⟨a,b⟩:=w.sgl p hp
  refine ⟨by rw [hi];exact a,?_⟩
  show (S'.bd (A.sg p)).pl = [p]
  rw [hb _ a];exact b
 ·rw [hi] at h
  rw [hb b h];exact w.bod b h
abbrev lfB (S:Bl.St) (r:Int) (b:Nat):Bl.Bd:={ S.bd b with pr:=(S.bd b).pr+(S.bd b).mark*r }
def liftK (S:Bl.St) (r:Int) (l:List Nat):Bl.St:={ S with bd:=many S l (lfB S r),sm:=fun p=>if S.out p∈l then S.sm p+(S.bd (S.out p)).mark*r else S.sm p }
theorem liftK_sh (S:Bl.St) (r:Int) (l:List Nat):Bl.Sh S (liftK S r l):=by
 have h:∀ b,(liftK S r l).bd b=if b∈l then lfB S r b else S.bd b:=fun _=>rfl
 refine ⟨rfl,rfl,rfl,rfl,rfl,fun b=>?_,fun b=>?_,fun b=>?_,fun b=>?_⟩
 ·show ((liftK S r l).bd b).pl=_;rw [h];split <;> rfl
 ·rw [h];split <;> rfl
 ·rw [h];split <;> rfl
 ·rw [h];split <;> rfl
theorem liftK_step {C:Cs}{A:Ad}{B H:Hp}{S:Bl.St}{r:Int}{l:List Nat}{b:Nat} (F:Bl.Fo S) (hom:Bl.om S b) (hn:b ∉ l) (w:Wb C A B H (lift1 (liftK S r l) b ((S.bd b).mark*r))):Wb C A B H (liftK S r (l ++ [b])):=by
 refine w.cong rfl rfl rfl (fun c _=>?_) (fun p _=>rfl) (fun p hp=>?_) fun p _=>rfl
 ·show many S (l ++ [b]) (lfB S r) c=if c=b then { many S l (lfB S r) c with pr:=(many S l (lfB S r) c).pr+(S.bd b).mark*r } else many S l (lfB S r) c
  rw [←many_snoc]
  show (if c=b then lfB S r b else many S l (lfB S r) c)=_
  by_cases e:c=b
  ·subst e
   rw [if_pos rfl,if_pos rfl,many_miss hn]
  ·rw [if_neg e,if_neg e]
 ·show (if S.out p∈l ++ [b] then S.sm p+(S.bd (S.out p)).mark*r else S.sm p)=if p∈Bl.pl (liftK S r l) b then (if S.out p∈l then S.sm p+(S.bd (S.out p)).mark*r else S.sm p)+(S.bd b).mark*r else (if S.out p∈l then S.sm p+(S.bd (S.out p)).mark*r else S.sm p)
  rw [(liftK_sh S r l).pl]
  by_cases e:S.out p=b
  ·have hm:p∈Bl.pl S b:=by rw [←e];exact (F.out p hp).2
   rw [if_pos (List.mem_append_right _ (List.mem_singleton.mpr e)),if_pos hm,if_neg (by rw [e];exact hn),e]
  ·have hm:p ∉ Bl.pl S b:=fun z=>e (F.omin hom z)
   rw [if_neg hm]
   by_cases m:S.out p∈l
   ·rw [if_pos m,if_pos (List.mem_append_left _ m)]
   ·rw [if_neg m,if_neg (fun z=>by
     rcases List.mem_append.mp z with z | z
     ·exact m z
     ·exact e (List.mem_singleton.mp z))]
theorem liftK_skip {S:Bl.St}{r:Int}{l:List Nat}{b:Nat} (h:(S.bd b).mark=0):liftK S r (l ++ [b])=liftK S r l:=by
 unfold liftK
 have e1:many S (l ++ [b]) (lfB S r)=many S l (lfB S r):=by
  rw [←many_snoc]
  funext c
  show (if c=b then lfB S r b else many S l (lfB S r) c)=_
  by_cases e:c=b
  ·rw [if_pos e,e]
   by_cases m:b∈l
   ·rw [many_hit m]
   ·rw [many_miss m]
    show ({ S.bd b with pr:=(S.bd b).pr+(S.bd b).mark*r }:Bl.Bd)=S.bd b
    rw [h,Int.zero_mul,Int.add_zero]
  ·rw [if_neg e]
 have e2:(fun p=>if S.out p∈l ++ [b] then S.sm p+(S.bd (S.out p)).mark*r else S.sm p)=fun p=>if S.out p∈l then S.sm p+(S.bd (S.out p)).mark*r else S.sm p:=by
  funext p
  by_cases m:S.out p∈l
  ·rw [if_pos m,if_pos (List.mem_append_left _ m)]
  ·rw [if_neg m]
   by_cases e:S.out p=b
   ·rw [if_pos (List.mem_append_right _ (List.mem_singleton.mpr e)),e,h,Int.zero_mul,Int.add_zero]
   ·rw [if_neg (fun z=>by
     rcases List.mem_append.mp z with z | z
     ·exact m z
     ·exact e (List.mem_singleton.mp z))]
 rw [e1,e2]
theorem liftK_nil (S:Bl.St) (r:Int):liftK S r [] = S:=by
 unfold liftK
 rw [many_nil]
 have e:(fun p=>if S.out p ∈ [] then S.sm p+(S.bd (S.out p)).mark*r else S.sm p)=S.sm:=funext fun p=>if_neg List.not_mem_nil
 rw [e]
theorem liftK_all {C:Cs}{A:Ad}{B H:Hp}{S:Bl.St}{r:Int}{l:List Nat} (ob:OmL S l) (w:Wb C A B H (liftK S r l)):Wb C A B H (Bl.liftS S r):=by
 refine w.cong rfl rfl rfl (fun c _=>?_) (fun p _=>rfl) (fun p hp=>?_) fun p _=>rfl
 ·show (if Bl.om S c then _ else _)=many S l (lfB S r) c
  by_cases m:c∈l
  ·rw [many_hit m,if_pos ((ob.mem c).mp m)]
  ·rw [many_miss m,if_neg (fun z=>m ((ob.mem c).mpr z))]
 ·show S.sm p+_=if S.out p∈l then S.sm p+(S.bd (S.out p)).mark*r else S.sm p
  rw [if_pos ((ob.mem _).mpr (Bl.om_iff.mpr ⟨p,hp,rfl⟩))]
end BW
namespace BW
open PySem L2 PyProof.Rows R
theorem JLs.upd {H:Hp}{l:Addr}{js:List Addr}{ps:List (Nat×Nat)}{xs:List V}{o:HO} (hl:H l=some (.lst xs)) (h:JLs H js ps):JLs (L2.upd H l o) js ps:=Paired.mapP h fun a r q=>by
 have hne:a≠l:=fun z=>by rw [z,hl] at q;unfold p2 at q;cases q
 rw [upd_ne hne];exact q
theorem JLs.last {B:Hp}:∀ {js:List Addr}{ps:List (Nat×Nat)}{x:Nat×Nat},JLs B js (ps ++ [x])→∃ js0 t,js=js0 ++ [t]∧JLs B js0 ps∧B t=some (p2 x)
 | _,[],x,.cons (a:=t) h .nil=>⟨[],t,rfl,.nil,h⟩
 | _,y::ps,x,.cons (a:=a) h r=>by
  obtain ⟨js0,t,e,h1,h2⟩:=JLs.last (ps:=ps) r
  exact ⟨a::js0,t,by rw [e];rfl,.cons h h1,h2⟩
theorem pa_len {S:Bl.St}{rk:Nat→Nat} (O:Bl.Ok S rk) {b c:Nat}{l:List (Nat×Nat)} (h:Bl.Pa S b l c) (hb:Bl.om S b):l.length≤S.n:=by
 have nd:=(h.rks O hb).2.1
 have lt:=h.lks O hb
 have nd1:(l.map (·.1)).Nodup:=by
  unfold Bl.bo at nd
  have e:(l.map fun x=>S.out x.1)=(l.map (·.1)).map S.out:=by rw [List.map_map];rfl
  rw [e] at nd
  exact List.Pairwise.of_map _ (fun a b h e=>h (by rw [e])) nd
 have:=Bl.le_sub nd1 (y:=List.range S.n) fun z hz=>by
  obtain ⟨x,hx,e⟩:=List.mem_map.mp hz
  rw [←e]
  exact List.mem_range.mpr (lt x hx).1
 rwa [List.length_range,List.length_map] at this
theorem cn_last {S:Bl.St}:∀ {b c:Nat}{l:List (Nat×Nat)}{x:Nat×Nat},Bl.Cn S b (l ++ [x]) c→S.out x.2=c
 | b,c,[],x,h=>h.2
 | b,c,y::l,x,h=>cn_last (l:=l) h.2
def stU (S:Bl.St) (b:Nat):Option (Nat×Nat):=if (S.bd b).mark = -1 then (S.bd b).cm.map Bl.sw else (S.mt (S.bd b).tip).map fun y=>((S.bd b).tip,y)
theorem stU_none {S:Bl.St}{rk:Nat→Nat} (O:Bl.Ok S rk) {b:Nat} (hb:Bl.om S b) (hm:(S.bd b).mark≠0) (h:stU S b=none):(S.bd b).mark=1∧S.mt (S.bd b).tip=none:=by
 obtain ⟨p,hp,e⟩:=Bl.om_iff.mp hb
 unfold stU at h
 rcases O.tr.mks p hp with m | m | m <;> rw [e] at m
 ·rw [if_neg (by rw [m];decide)] at h
  exact ⟨m,Option.map_eq_none_iff.mp h⟩
 ·exact absurd m hm
 ·rw [if_pos m] at h
  obtain ⟨a,x,c1,_⟩:=O.tr.odd p hp (by rw [e];exact m)
  rw [e] at c1
  rw [c1] at h
  cases h
theorem stU_some {S:Bl.St}{rk:Nat→Nat} (O:Bl.Ok S rk) {b:Nat}{x:Nat×Nat} (hb:Bl.om S b) (hm:(S.bd b).mark≠0) (h:stU S b=some x):Bl.Pa S b [x] (S.out x.2)∧x.2 < S.n∧Bl.om S (S.out x.2)∧(S.bd (S.out x.2)).mark≠0∧rk (S.out x.2) < rk b:=by
 obtain ⟨p,hp,e⟩:=Bl.om_iff.mp hb
 unfold stU at h
 rcases O.tr.mks p hp with m | m | m <;> rw [e] at m
 ·rw [if_neg (by rw [m];decide)] at h
  obtain ⟨y,hy,e2⟩:=Option.map_eq_some_iff.mp h
  subst e2
  obtain ⟨k1,k2,k3,k4,k5,k6,_⟩:=O.evs hb m hy
  exact ⟨.even m hy .nil,k3,k4,by rw [k5];decide,k6⟩
 ·exact absurd m hm
 ·rw [if_pos m] at h
  obtain ⟨z,hz,e2⟩:=Option.map_eq_some_iff.mp h
  subst e2
  obtain ⟨y,x⟩:=z
  obtain ⟨k1,k2,k3,k4,k5,k6,_⟩:=O.ods hb m hz
  exact ⟨.odd m hz .nil,k3,k4,by show (S.bd (S.out y)).mark≠0;rw [k5];decide,k6⟩
theorem om_tip {S:Bl.St} (F:Bl.Fo S) (M:Bl.Ma S) {b:Nat} (h:Bl.om S b):(S.bd b).tip < S.n∧S.out (S.bd b).tip=b:=by
 obtain ⟨p,hp,e⟩:=Bl.om_iff.mp h
 rw [←e];exact F.tipout M hp
theorem om_out {S:Bl.St}{p:Nat} (h:p < S.n):Bl.om S (S.out p):=Bl.om_iff.mpr ⟨p,h,rfl⟩
theorem om_cm {S:Bl.St}{rk:Nat→Nat} (O:Bl.Ok S rk) {b:Nat} (hb:Bl.om S b) (m:(S.bd b).mark = -1):(S.bd b).cm≠none:=by
 obtain ⟨p,hp,e⟩:=Bl.om_iff.mp hb
 obtain ⟨a,x,c1,_⟩:=O.tr.odd p hp (by rw [e];exact m)
 rw [e] at c1
 rw [c1];simp
end BW
namespace BW
open PySem L2 PyProof.Rows R
theorem ch_fall {S S0 S1:Bl.St}{rk:Nat→Nat}{X:Nat→Prop}{r u l a e:Nat} (O:Bl.Ok S rk) (C:Bl.Ch S rk X r u S0 (some l) S1) (hc:(S.bd (S.out l)).cm=some (a,e)) {l':Nat} (h:S1.mt (S1.bd (S.out a)).tip=some l'):rk (S.out l') < rk (S.out l):=by
 obtain ⟨hl,ml,tl,rl⟩:=C.nx l rfl
 obtain ⟨a2,e2,hc2,ha,he',oe,ma,_,ra⟩:=O.tr.odd l hl ml
 rw [hc] at hc2
 cases hc2
 have ua:Bl.Up S (S.out a) r:=by
  rcases tl with ⟨z,_⟩ | ⟨_,a2,e2,c2,u2⟩
  ·rw [ml] at z;cases z
  ·rw [hc] at c2;cases c2;exact u2
 obtain ⟨ut,um⟩:=C.un l rfl a ha (.inl ⟨ma,ua⟩) ra
 have:=(O.mate_odd ha ma ua (l:=l') (by rw [←h,ut,um _ (O.fo.tipin O.ma ha)])).2.2.2
 omega
def lm (rk:Nat→Nat) (S:Bl.St):Option Nat→Nat
 | none=>0
 | some l=>rk (S.out l)+1
end BW
namespace BW
open PySem L2 PyProof.Rows R
theorem nV_int (l:List Nat):nV l=(l.map fun p:Nat=>(p:Int)).map V.int:=by unfold nV;rw [List.map_map];rfl
theorem perm_nat {ns:List Int}{ps:List Nat} (h:ns.Perm (ps.map fun p:Nat=>(p:Int))):∃ qs:List Nat,ns=(qs.map fun p:Nat=>(p:Int))∧qs.Perm ps:=by
 refine ⟨ns.map Int.toNat,?_,?_⟩
 ·rw [List.map_map]
  have:∀ z∈ns,((fun p:Nat=>(p:Int)) ∘ Int.toNat) z=z:=fun z hz=>by
   obtain ⟨p,_,e⟩:=List.mem_map.mp (h.mem_iff.mp hz)
   show ((z.toNat:Nat):Int)=z
   rw [←e];rfl
  rw [List.map_congr_left this,List.map_id']
 ·have:=h.map Int.toNat
  rw [List.map_map] at this
  have e:(Int.toNat ∘ fun p:Nat=>(p:Int))=id:=funext fun p=>rfl
  rw [e,List.map_id] at this
  exact this
def But (x:Addr) (H H':Hp):Prop:=∀ b o,H b=some o→b≠x→H' b=some o
theorem But.set {x:Addr}{H H':Hp}{o:HO} (h:But x H H'):But x H (upd H' x o):=fun b u e n=>by rw [upd_ne n];exact h b u e n
theorem But.same {x:Addr}{H H' H2:Hp} (h:But x H H') (s:Same H' H2):But x H H2:=fun b u e n=>s _ _ (h b u e n)
theorem But.free {x b:Addr}{H H':Hp} (h:But x H H') (n:b≠x) (e:H' b=none):H b=none:=by
 cases q:H b with
 | none=>rfl
 | some o=>rw [h b o q n] at e;cases e
theorem But.refl (x:Addr) (H:Hp):But x H H:=fun _ _ e _=>e
end BW
namespace BW
open PySem L2 PyProof.Rows R
def Nw (C:Cs) (A:Ad) (ids:List Nat) (a:Addr):Prop:=a≠A.o∧a≠A.s∧a≠A.m∧a≠C.tb∧a ∉ ids
noncomputable def rest (C:Cs) (A:Ad) (ids:List Nat) (H:Hp):Hp:=fun a=>open Classical in if Nw C A ids a then H a else none
theorem rest_in {C:Cs}{A:Ad}{ids:List Nat}{H:Hp}{a:Addr} (h:Nw C A ids a):rest C A ids H a=H a:=by unfold rest;rw [if_pos h]
theorem rest_out {C:Cs}{A:Ad}{ids:List Nat}{H:Hp}{a:Addr} (h:¬ Nw C A ids a):rest C A ids H a=none:=by unfold rest;rw [if_neg h]
theorem rest_sub {C:Cs}{A:Ad}{ids:List Nat}{H:Hp}:Same (rest C A ids H) H:=fun a o e=>by
 unfold rest at e
 split at e
 ·exact e
 ·cases e
section
variable {C:Cs}{A:Ad}{B H H':Hp}{S:Bl.St}
theorem Wb.nw (w:Wb C A B H S) {a:Addr}{o:HO} (e:B a=some o):Nw C A S.ids a :=
 ⟨(fun z=>by rw [z,w.no] at e;cases e),(fun z=>by rw [z,w.ns] at e;cases e),(fun z=>by rw [z,w.nm] at e;cases e),(fun z=>by rw [z,w.nt] at e;cases e),fun z=>by rw [w.nb a z] at e;cases e⟩
theorem Wb.nwF (w:Wb C A B H S) {a:Addr} (e:H a=none):Nw C A S.ids a:=by
 obtain ⟨ps,hP,_⟩:=w.tab
 refine ⟨fun z=>?_,fun z=>?_,fun z=>?_,fun z=>?_,fun z=>?_⟩
 ·rw [z,w.ho] at e;cases e
 ·rw [z,w.hs] at e;cases e
 ·rw [z,w.hm] at e;cases e
 ·rw [z,hP] at e;cases e
 ·obtain ⟨dx,pa,ia,ja,cv,h,_⟩:=w.bod a z
  rw [h] at e;cases e
theorem Wb.nwT (w:Wb C A B H S) {a:Addr}{xs:List V} (e:H a=some (.tup xs)):Nw C A S.ids a:=by
 obtain ⟨ps,hP,_⟩:=w.tab
 refine ⟨fun z=>?_,fun z=>?_,fun z=>?_,fun z=>?_,fun z=>?_⟩
 ·rw [z,w.ho] at e;cases e
 ·rw [z,w.hs] at e;cases e
 ·rw [z,w.hm] at e;cases e
 ·rw [z,hP] at e;cases e
 ·obtain ⟨dx,pa,ia,ja,cv,h,_⟩:=w.bod a z
  rw [h] at e;cases e
theorem Wb.newB {N:Nat}{d:Bl.Bd} (w:Wb C A B H S) (hN:H N=none) (k:But N H H') {dx pa ia ja:Addr} (h1:H' N=some (.ins C.B dx (bF (.ref pa) (.int (d.tip:Int)) (.ref ia) (.ref ja) (.int d.pr) (.int d.mark) .non)))
  (hpa:H' pa=some (.lst (nV d.pl))) (npa:H pa=none) (hia:H' ia=some (.lst (d.inn.map V.ref))) (nia:H ia=none) (hja:JL H' ja d.jt) (nja:H ja=none) (hc:d.cm=none) :
  Same B (rest C A (N::S.ids) H')∧Wb C A (rest C A (N::S.ids) H') H' { S with ids:=N::S.ids,bd:=fun b=>if b=N then d else S.bd b }:=by
 have sH:Same H H':=fun b o e=>k b o e (fun z=>by rw [z,hN] at e;cases e)
 have w':=w.same sH
 have nwN:=w.nwF hN
 have nids:N ∉ S.ids:=nwN.2.2.2.2
 have up:∀ {a:Addr},Nw C A S.ids a→a≠N→Nw C A (N::S.ids) a:=fun h n=>⟨h.1,h.2.1,h.2.2.1,h.2.2.2.1,fun z=>by
  rcases List.mem_cons.mp z with z | z
  ·exact n z
  ·exact h.2.2.2.2 z⟩
 have sB:Same B (rest C A (N::S.ids) H'):=fun a o e=>by
  rw [rest_in (up (w.nw e) (fun z=>by rw [z] at e;have:=w.sb _ _ e;rw [hN] at this;cases this))]
  exact sH _ _ (w.sb _ _ e)
 have nn:∀ {a:Addr}{o:HO},H' a=some o→H a=none→(∀ fs,o ≠ .ins C.B dx fs)→Nw C A (N::S.ids) a:=fun {a o} e n ne=>up (w.nwF n) fun z=>by rw [z,h1] at e;exact ne _ (Option.some.inj e).symm
 refine ⟨sB,rest_sub,rest_out fun z=>z.1 rfl,rest_out fun z=>z.2.1 rfl,rest_out fun z=>z.2.2.1 rfl,rest_out fun z=>z.2.2.2.1 rfl,fun b hb=>rest_out fun z=>z.2.2.2.2 hb,w.os,w.om,w.sm,sH _ _ w.ho,sH _ _ w.hs,sH _ _ w.hm,w.tab.same sH,sB _ _ w.web,w.lk.same sB,sB _ _ w.hg,fun p hp=>?_,fun b hb=>?_,w.n40⟩
 ·obtain ⟨a,b⟩:=w.sgl p hp
  refine ⟨List.mem_cons_of_mem _ a,?_⟩
  show (if A.sg p=N then d else S.bd (A.sg p)).pl = [p]
  rw [if_neg (fun z=>nids (by rw [←z];exact a))]
  exact b
 ·show BdR C _ H' b (if b=N then d else S.bd b)
  by_cases e:b=N
  ·rw [if_pos e,e]
   obtain ⟨js,hj,pj⟩:=hja
   refine ⟨dx,pa,ia,ja,.non,h1,?_,?_,⟨js,?_,Paired.mapP pj fun a x q=>?_⟩,?_⟩
   ·rw [rest_in (nn hpa npa (fun _ z=>by cases z))];exact hpa
   ·rw [rest_in (nn hia nia (fun _ z=>by cases z))];exact hia
   ·rw [rest_in (nn hj nja (fun _ z=>by cases z))];exact hj
   ·have q':H' a=some (.tup [.int (x.1:Int),.int (x.2:Int)]):=q
    rw [rest_in (up (w'.nwT q') (fun z=>by rw [z,h1] at q';cases q'))];exact q
   ·rw [hc];rfl
  ·rw [if_neg e]
   have hb':b∈S.ids:=(List.mem_cons.mp hb).resolve_left e
   obtain ⟨dx2,pa2,ia2,ja2,cv2,q1,q2,q3,q4,q5⟩:=w.bod b hb'
   exact ⟨dx2,pa2,ia2,ja2,cv2,sH _ _ q1,sB _ _ q2,sB _ _ q3,q4.same sB,q5.same sB⟩
end
def close0 (S:Bl.St) (N:Nat) (ps inn:List Nat) (jt:List (Nat×Nat)) (t:Nat) (mk:Int):Bl.St :=
 { S with ids:=N::S.ids,bd:=fun b=>if b=N then ⟨ps,t,inn,jt,0,mk,none⟩ else S.bd b,out:=fun p=>if p∈ps then N else S.out p }
def allP (S:Bl.St) (l:List Nat):List Nat:=l.flatMap fun b=>Bl.pl S b
theorem allP_snoc (S:Bl.St) (l:List Nat) (b:Nat):allP S (l ++ [b])=allP S l++Bl.pl S b:=by unfold allP;rw [List.flatMap_append];simp
theorem nV_app (a b:List Nat):nV (a++b)=nV a++nV b:=by unfold nV;rw [List.map_append]
theorem nV_len (a:List Nat):(nV a).length=a.length:=by unfold nV;rw [List.length_map]
theorem out_step {f:Nat→Nat}{l:List Nat}{N p k:Nat} (h:l[k]? = some p):(fun q=>if q=p then N else if q∈l.take k then N else f q)=fun q=>if q∈l.take (k+1) then N else f q:=by
 funext q
 rw [take_snoc h]
 by_cases e:q=p
 ·rw [if_pos e,if_pos (List.mem_append_right _ (List.mem_singleton.mpr e))]
 ·rw [if_neg e]
  by_cases m:q∈l.take k
  ·rw [if_pos m,if_pos (List.mem_append_left _ m)]
  ·rw [if_neg m,if_neg (fun z=>by
    rcases List.mem_append.mp z with z | z
    ·exact m z
    ·exact e (List.mem_singleton.mp z))]
end BW
namespace BW
open PySem L2 PyProof.Rows R
theorem allP_ok {S:Bl.St} (F:Bl.Fo S):∀ {l:List Nat},l.Nodup→(∀ b∈l,Bl.om S b)→(allP S l).Nodup∧(∀ p,p∈allP S l↔∃ b∈l,p∈Bl.pl S b)∧∀ p∈allP S l,p < S.n∧S.out p∈l
 | [],_,_=>⟨List.nodup_nil,fun p=>⟨(fun h=>by cases h),fun ⟨b,h,_⟩=>by cases h⟩,fun p h=>by cases h⟩
 | b::l,nd,ho=>by
  obtain ⟨nb,nd'⟩:=List.nodup_cons.mp nd
  obtain ⟨i1,i2,i3⟩:=allP_ok F (l:=l) nd' fun c hc=>ho c (List.mem_cons_of_mem _ hc)
  have hb:=ho b List.mem_cons_self
  have e:allP S (b::l)=Bl.pl S b++allP S l:=rfl
  have hbp:∀ p∈Bl.pl S b,p < S.n∧S.out p=b:=fun p hp=>⟨F.lt b (om_ids F hb) p hp,F.omin hb hp⟩
  rw [e]
  refine ⟨?_,fun p=>?_,fun p hp=>?_⟩
  ·rw [List.nodup_append]
   refine ⟨F.pnd b (om_ids F hb),i1,fun x hx y hy e=>?_⟩
   subst e
   have h1:=(hbp x hx).2
   have h2:=(i3 x hy).2
   rw [h1] at h2
   exact nb h2
  ·rw [List.mem_append,i2]
   constructor
   ·rintro (h | ⟨c,hc,h⟩)
    ·exact ⟨b,List.mem_cons_self,h⟩
    ·exact ⟨c,List.mem_cons_of_mem _ hc,h⟩
   ·rintro ⟨c,hc,h⟩
    rcases List.mem_cons.mp hc with rfl | hc
    ·exact .inl h
    ·exact .inr ⟨c,hc,h⟩
  ·rcases List.mem_append.mp hp with h | h
   ·exact ⟨(hbp p h).1,by rw [(hbp p h).2];exact List.mem_cons_self⟩
   ·exact ⟨(i3 p h).1,List.mem_cons_of_mem _ (i3 p h).2⟩
theorem nd_le {n:Nat}{l:List Nat} (nd:l.Nodup) (h:∀ p∈l,p < n):l.length≤n:=by
 have:=Bl.le_sub nd (y:=List.range n) fun z hz=>List.mem_range.mpr (h z hz)
 rwa [List.length_range] at this
theorem rg_nodup {S:Bl.St}{rk:Nat→Nat}{inn:List Nat}{jt:List (Nat×Nat)}{z:Nat} (R:Bl.Rg S rk inn jt z):inn.Nodup:=by
 rw [List.Nodup,List.pairwise_iff_getElem]
 intro i j hi hj hij e
 have:=R.inj i hi j hj (by rw [List.getD_eq_getElem?_getD,List.getD_eq_getElem?_getD,List.getElem?_eq_getElem hi,List.getElem?_eq_getElem hj];exact e)
 omega
theorem getD_mem {l:List Nat}{p:Nat}:p∈l↔∃ i < l.length,l.getD i 0=p:=by
 constructor
 ·intro h
  obtain ⟨i,hi,e⟩:=List.getElem_of_mem h
  exact ⟨i,hi,by rw [List.getD_eq_getElem?_getD,List.getElem?_eq_getElem hi];exact e⟩
 ·rintro ⟨i,hi,e⟩
  rw [←e,List.getD_eq_getElem?_getD,List.getElem?_eq_getElem hi]
  exact List.getElem_mem hi
theorem rg_places {S:Bl.St}{rk:Nat→Nat}{inn:List Nat}{jt:List (Nat×Nat)}{z:Nat} (F:Bl.Fo S) (R:Bl.Rg S rk inn jt z) :
  (∀ b∈inn,Bl.om S b)∧(allP S inn).Nodup∧(∀ p,p∈allP S inn↔∃ i < inn.length,p∈Bl.pl S (inn.getD i 0))∧(∀ p∈allP S inn,p < S.n):=by
 have ho:∀ b∈inn,Bl.om S b:=fun b hb=>by
  obtain ⟨i,hi,e⟩:=getD_mem.mp hb
  rw [←e,R.kd i hi]
  exact om_out (R.lt i hi).1
 obtain ⟨h1,h2,h3⟩:=allP_ok F (rg_nodup R) ho
 refine ⟨ho,h1,fun p=>?_,fun p hp=>(h3 p hp).1⟩
 rw [h2]
 constructor
 ·rintro ⟨b,hb,h⟩
  obtain ⟨i,hi,e⟩:=getD_mem.mp hb
  exact ⟨i,hi,by rw [e];exact h⟩
 ·rintro ⟨i,hi,h⟩
  exact ⟨_,getD_mem.mpr ⟨i,hi,rfl⟩,h⟩
theorem JLs.app {B:Hp}{a b:List Addr}{x y:List (Nat×Nat)} (h:JLs B a x) (g:JLs B b y):JLs B (a++b) (x++y):=pairedApp h g
theorem JLs.len {B:Hp}{a:List Addr}{x:List (Nat×Nat)} (h:JLs B a x):a.length=x.length:=Paired.length h
theorem JLs.get {B:Hp}{js:List Addr}{l:List (Nat×Nat)} (h:JLs B js l) {i:Nat}{t:Addr} (ht:js[i]? = some t):∃ x,l[i]? = some x∧B t=some (p2 x):=pairedGetL h ht
theorem bo_take {S:Bl.St}{l:List (Nat×Nat)}{i:Nat}{x:Nat×Nat} (h:l[i]? = some x):Bl.bo S (l.take (i+1))=Bl.bo S (l.take i) ++ [S.out x.1]:=by
 unfold Bl.bo
 rw [List.take_add_one,h,List.map_append];rfl
theorem revsw_at {l:List (Nat×Nat)}{i:Nat}{x:Nat×Nat} (hi:i < l.length) (h:l[l.length-1-i]? = some x):(l.reverse.map Bl.sw).take (i+1)=(l.reverse.map Bl.sw).take i ++ [Bl.sw x]:=by
 have e:(l.reverse.map Bl.sw)[i]? = some (Bl.sw x):=by
  rw [List.getElem?_map,List.getElem?_reverse hi,h];rfl
 rw [List.take_add_one,e];rfl
end BW
namespace BW
open PySem L2 PyProof.Rows R
def apart (S:Bl.St) (R j:Nat):Nat→Nat:=fun p=>if p∈Bl.pl S R∧Bl.nrS S R p < j then Bl.kid S R (Bl.nrS S R p) else S.out p
theorem apart_zero (S:Bl.St) (R:Nat):apart S R 0=S.out:=funext fun p=>if_neg fun h=>Nat.not_lt_zero _ h.2
theorem apart_succ {S:Bl.St} (F:Bl.Fo S) {R j:Nat} (hR:R∈S.ids) (hj:j < Bl.cnt S R):(fun q=>if q∈Bl.pl S (Bl.kid S R j) then Bl.kid S R j else apart S R j q)=apart S R (j+1):=by
 funext p
 unfold apart
 by_cases m:p∈Bl.pl S (Bl.kid S R j)
 ·have e:=Bl.nr_ok F hR hj m
  rw [if_pos m,if_pos ⟨F.ksub hR hj m,by omega⟩,e]
 ·rw [if_neg m]
  by_cases mr:p∈Bl.pl S R
  ·obtain ⟨i,hi,mi⟩:=(F.mem R hR (F.ring hj) p).mp mr
   have e:=Bl.nr_ok F hR hi mi
   have ne:i≠j:=fun z=>m (by rw [←z];exact mi)
   by_cases l:i < j
   ·rw [if_pos ⟨mr,by omega⟩,if_pos ⟨mr,by omega⟩]
   ·rw [if_neg (fun z=>by have:=z.2;omega),if_neg (fun z=>by have:=z.2;omega)]
  ·rw [if_neg (fun z=>mr z.1),if_neg (fun z=>mr z.1)]
theorem apart_all {S:Bl.St} (F:Bl.Fo S) {R:Nat} (hR:R∈S.ids) (hr:(S.bd R).inn ≠ []):apart S R (Bl.cnt S R)=fun p=>if p∈Bl.pl S R then Bl.kid S R (Bl.nrS S R p) else S.out p:=by
 funext p
 unfold apart
 by_cases mr:p∈Bl.pl S R
 ·obtain ⟨i,hi,mi⟩:=(F.mem R hR hr p).mp mr
  have e:=Bl.nr_ok F hR hi mi
  rw [if_pos ⟨mr,by omega⟩,if_pos mr]
 ·rw [if_neg (fun z=>mr z.1),if_neg mr]
theorem kid_get {S:Bl.St}{R j c:Nat} (h:(S.bd R).inn[j]? = some c):j < Bl.cnt S R∧Bl.kid S R j=c :=
 ⟨(List.getElem?_eq_some_iff.mp h).1,by unfold Bl.kid;rw [List.getD_eq_getElem?_getD,h];rfl⟩
end BW
namespace BW
open PySem L2 PyProof.Rows R
def opn (S:Bl.St) (R:Nat) (mk:Nat→Int) (cf:Nat→Option (Nat×Nat)):Bl.St :=
 { S with bd:=fun b=>if b∈(S.bd R).inn then { S.bd b with mark:=mk b,cm:=cf b } else S.bd b,out:=apart S R (Bl.cnt S R) }
theorem opn_bd {S:Bl.St}{R:Nat}{mk:Nat→Int}{cf:Nat→Option (Nat×Nat)} (b:Nat):(opn S R mk cf).bd b=if b∈(S.bd R).inn then { S.bd b with mark:=mk b,cm:=cf b } else S.bd b:=rfl
theorem opn_in {S:Bl.St}{R b:Nat}{mk:Nat→Int}{cf:Nat→Option (Nat×Nat)} (h:b∈(S.bd R).inn):(opn S R mk cf).bd b = { S.bd b with mark:=mk b,cm:=cf b }:=if_pos h
theorem opn_out {S:Bl.St}{R b:Nat}{mk:Nat→Int}{cf:Nat→Option (Nat×Nat)} (h:b ∉ (S.bd R).inn):(opn S R mk cf).bd b=S.bd b:=if_neg h
theorem opn_self (S:Bl.St) (R:Nat):opn S R (fun b=>(S.bd b).mark) (fun b=>(S.bd b).cm) = { S with out:=apart S R (Bl.cnt S R) }:=by
 unfold opn
 congr 1
 funext b
 split <;> rfl
def fs {α:Type} (f:Nat→α) (c:Nat) (v:α):Nat→α:=fun b=>if b=c then v else f b
theorem fs_hit {α:Type}{f:Nat→α}{c:Nat}{v:α}:fs f c v c=v:=if_pos rfl
theorem fs_ne {α:Type}{f:Nat→α}{c b:Nat}{v:α} (h:b≠c):fs f c v b=f b:=if_neg h
theorem opn_mark {S:Bl.St}{R c:Nat}{mk:Nat→Int}{cf:Nat→Option (Nat×Nat)}{x:Nat×Nat} (h:c∈(S.bd R).inn):markS (opn S R mk cf) c x=opn S R (fs mk c (-1)) (fs cf c (some x)):=by
 unfold markS
 show ({ (opn S R mk cf) with bd:=_ }:Bl.St)=_
 have:(fun b=>if b=c then { (opn S R mk cf).bd b with mark:=-1,cm:=some x } else (opn S R mk cf).bd b)=(opn S R (fs mk c (-1)) (fs cf c (some x))).bd:=by
  funext b
  by_cases e:b=c
  ·subst e
   rw [if_pos rfl,opn_in h,opn_in h,fs_hit,fs_hit]
  ·rw [if_neg e,opn_bd,opn_bd,fs_ne e,fs_ne e]
 rw [this];rfl
theorem opn_kid {S:Bl.St} (F:Bl.Fo S) {R:Nat} (hR:R∈S.ids):R ∉ (S.bd R).inn:=fun h=>by
 obtain ⟨i,hi,e⟩:=List.getElem_of_mem h
 have hk:=kid_get (S:=S) (R:=R) (j:=i) (c:=R) (by rw [List.getElem?_eq_getElem hi,e])
 have:=F.kless hR hk.1
 rw [hk.2] at this
 exact Nat.lt_irrefl _ this
theorem kid_mem {S:Bl.St}{R j:Nat} (h:j < Bl.cnt S R):Bl.kid S R j∈(S.bd R).inn:=by
 have h2:(S.bd R).inn[j]? = some (S.bd R).inn[j]:=List.getElem?_eq_getElem h
 rw [(kid_get h2).2];exact List.mem_of_getElem? h2
theorem kid_inj {S:Bl.St} (F:Bl.Fo S) {R i j:Nat} (hR:R∈S.ids) (hi:i < Bl.cnt S R) (hj:j < Bl.cnt S R) (e:Bl.kid S R i=Bl.kid S R j):i=j:=by
 obtain ⟨p,hp⟩:=List.exists_mem_of_ne_nil _ (F.ne _ (F.kin R hR i hi))
 exact F.dis R hR i hi j hj p hp (by rw [←e];exact hp)
theorem Wb.setMk {C:Cs}{A:Ad}{B H:Hp}{S:Bl.St}{R c:Nat}{mk:Nat→Int}{cf:Nat→Option (Nat×Nat)}{m:Int}{o:HO} (wb:Wb C A B H (opn S R mk cf)) (hc:c∈(S.bd R).inn) (hid:c∈S.ids) (h:BdR C B (upd H c o) c { S.bd c with mark:=m,cm:=cf c }):Wb C A B (upd H c o) (opn S R (fs mk c m) cf):=by
 refine Wb.eqv (wb.setB (b:=c) (d:={ S.bd c with mark:=m,cm:=cf c }) (f:=(opn S R (fs mk c m) cf).bd) hid ?_ (fun b hb=>?_) ?_ h) rfl
 ·rw [opn_in hc,fs_hit]
 ·rw [opn_bd,opn_bd,fs_ne hb]
 ·rw [opn_in hc]
theorem Wb.drop {C:Cs}{A:Ad}{B H:Hp}{S:Bl.St}{R:Nat} (w:Wb C A B H S) (hs:∀ p,p < S.n→A.sg p≠R):Wb C A B H { S with ids:=S.ids.filter fun b=>b≠R } :=
 ⟨w.sb,w.no,w.ns,w.nm,w.nt,fun b hb=>w.nb b (List.mem_filter.mp hb).1,w.os,w.om,w.sm,w.ho,w.hs,w.hm,w.tab,w.web,w.lk,w.hg,fun p hp=>⟨List.mem_filter.mpr ⟨(w.sgl p hp).1,by simpa using hs p hp⟩,(w.sgl p hp).2⟩,fun b hb=>w.bod b (List.mem_filter.mp hb).1,w.n40⟩
structure Go (S:Bl.St) (R d:Nat) (w:Nat→Nat) (jl:Nat→Nat×Nat) (way:Int):Prop where
 s1:∀ k,k < d→((w k:Int)+way) % (Bl.cnt S R:Int)=(w (k+1):Int)
 s2:∀ k,k+1 < d→((w k:Int)+2*way) % (Bl.cnt S R:Int)=(w (k+2):Int)
 jx:∀ k,k+1 < d→∃ i,i < Bl.cnt S R∧((way=1∧((w k:Int)+way) % (Bl.cnt S R:Int)=i)∨(way = -1∧((w k:Int)+way-1) % (Bl.cnt S R:Int)=i))∧(if way=1 then Bl.jnt S R i else Bl.sw (Bl.jnt S R i))=jl (k+1)
theorem emadd (a c:Nat) (z:Int):(((a % c:Nat):Int)+z) % (c:Int)=((a:Int)+z) % (c:Int):=by rw [Int.natCast_emod,Int.emod_add_emod]
theorem go_fwd {S:Bl.St}{R n0 d:Nat} (hc:0 < Bl.cnt S R):Go S R d (fun k=>(n0+k) % Bl.cnt S R) (fun k=>Bl.jnt S R ((n0+k) % Bl.cnt S R)) 1:=by
 refine ⟨fun k _=>?_,fun k _=>?_,fun k _=>⟨(n0+(k+1)) % Bl.cnt S R,Nat.mod_lt _ hc,.inl ⟨rfl,?_⟩,by rw [if_pos rfl]⟩⟩
 ·show (((n0+k) % Bl.cnt S R:Nat)+(1:Int)) % _=(((n0+(k+1)) % Bl.cnt S R:Nat):Int)
  rw [emadd,←modI];congr 1
 ·show (((n0+k) % Bl.cnt S R:Nat)+(2*1:Int)) % _=(((n0+(k+2)) % Bl.cnt S R:Nat):Int)
  rw [emadd,←modI];congr 1
 ·show (((n0+k) % Bl.cnt S R:Nat)+(1:Int)) % _=(((n0+(k+1)) % Bl.cnt S R:Nat):Int)
  rw [emadd,←modI];congr 1
theorem go_bwd {S:Bl.St}{R n0 d:Nat} (hc:0 < Bl.cnt S R) (hd:d < Bl.cnt S R):Go S R d (fun k=>(n0+Bl.cnt S R-k) % Bl.cnt S R) (fun k=>Bl.sw (Bl.jnt S R ((n0+Bl.cnt S R-(k+1)) % Bl.cnt S R))) (-1):=by
 refine ⟨fun k hk=>?_,fun k hk=>?_,fun k hk=>⟨(n0+Bl.cnt S R-(k+1+1)) % Bl.cnt S R,Nat.mod_lt _ hc,.inr ⟨rfl,?_⟩,by rw [if_neg (by decide)]⟩⟩
 ·show (((n0+Bl.cnt S R-k) % Bl.cnt S R:Nat)+(-1:Int)) % _=(((n0+Bl.cnt S R-(k+1)) % Bl.cnt S R:Nat):Int)
  rw [emadd,←modI];congr 1;omega
 ·show (((n0+Bl.cnt S R-k) % Bl.cnt S R:Nat)+(2 * -1:Int)) % _=(((n0+Bl.cnt S R-(k+2)) % Bl.cnt S R:Nat):Int)
  rw [emadd,←modI];congr 1;omega
 ·show (((n0+Bl.cnt S R-k) % Bl.cnt S R:Nat)+(-1:Int)-1) % _=(((n0+Bl.cnt S R-(k+1+1)) % Bl.cnt S R:Nat):Int)
  rw [Int.add_sub_assoc,emadd,←modI];congr 1;omega
structure Og (S:Bl.St) (R n0 a e t:Nat) (w:Nat→Nat) (jl:Nat→Nat×Nat) (mk:Nat→Int) (cf:Nat→Option (Nat×Nat)):Prop where
 mo:∀ k,k≤2*t→mk (Bl.kid S R (w k))=if k % 2=0 then -1 else 1
 fr:∀ j,j < Bl.cnt S R→(∀ k,k≤2*t→w k≠j)→mk (Bl.kid S R j)=0
 ca:∀ k,k < 2*t→k % 2=1→cf (Bl.kid S R (w (k+1)))=some (jl k)
 c1:cf (Bl.kid S R n0)=some (a,e)
theorem Og.start {S:Bl.St} (F:Bl.Fo S) {R i n0 d a e:Nat}{w:Nat→Nat}{jl:Nat→Nat×Nat} (hR:R∈S.ids) (W:Bl.Wy S R i n0 d w jl):Og S R n0 a e 0 w jl (fs (fun _=>0) (Bl.kid S R n0) (-1)) (fs (fun _=>none) (Bl.kid S R n0) (some (a,e))):=by
 have h0:=W.lt 0 (Nat.zero_le _)
 rw [W.frst] at h0
 refine ⟨fun k hk=>?_,fun j hj h=>?_,fun k hk=>absurd hk (by omega),fs_hit⟩
 ·have:k=0:=by omega
  subst this
  rw [W.frst,fs_hit];rfl
 ·have hn:=h 0 (Nat.zero_le _)
  rw [W.frst] at hn
  exact fs_ne (fun z=>hn (kid_inj F hR hj h0 z).symm)
theorem Og.step {S:Bl.St} (F:Bl.Fo S) {R i n0 d a e t:Nat}{w:Nat→Nat}{jl:Nat→Nat×Nat}{mk:Nat→Int}{cf:Nat→Option (Nat×Nat)} (hR:R∈S.ids) (W:Bl.Wy S R i n0 d w jl) (o:Og S R n0 a e t w jl mk cf) (ht:2*t+2≤d) :
  Og S R n0 a e (t+1) w jl (fs (fs mk (Bl.kid S R (w (2*t+1))) 1) (Bl.kid S R (w (2*t+2))) (-1)) (fs cf (Bl.kid S R (w (2*t+2))) (some (jl (2*t+1)))):=by
 have ne:∀ k j,k≤d→j≤d→k≠j→Bl.kid S R (w k)≠Bl.kid S R (w j):=fun k j hk hj h z=>h (W.inj k hk j hj (kid_inj F hR (W.lt k hk) (W.lt j hj) z))
 refine ⟨fun k hk=>?_,fun j hj h=>?_,fun k hk ko=>?_,?_⟩
 ·by_cases e2:k=2*t+2
  ·subst e2
   rw [fs_hit,if_pos (by omega)]
  ·rw [fs_ne (ne k _ (by omega) ht e2)]
   by_cases e1:k=2*t+1
   ·subst e1
    rw [fs_hit,if_neg (by omega)]
   ·rw [fs_ne (ne k _ (by omega) (by omega) e1)]
    exact o.mo k (by omega)
 ·rw [fs_ne (fun z=>h (2*t+2) (by omega) (kid_inj F hR hj (W.lt _ ht) z).symm),fs_ne (fun z=>h (2*t+1) (by omega) (kid_inj F hR hj (W.lt _ (by omega)) z).symm)]
  exact o.fr j hj fun k hk=>h k (by omega)
 ·by_cases e2:k=2*t+1
  ·subst e2
   rw [fs_hit]
  ·rw [fs_ne (ne (k+1) _ (by omega) ht (by omega))]
   exact o.ca k (by omega) ko
 ·have:n0=w 0:=W.frst.symm
  rw [fs_ne (by rw [this];exact ne 0 _ (by omega) ht (by omega))]
  exact o.c1
end BW
namespace BW
open PySem L2 PyProof.Rows R
theorem upd_twice {H:Hp}{a:Addr}{o o':HO}:upd (upd H a o) a o'=upd H a o':=funext fun b=>by
 by_cases e:b=a
 ·rw [e,upd_same,upd_same]
 ·rw [upd_ne e,upd_ne e,upd_ne e]
theorem Wb.setMC {C:Cs}{A:Ad}{B H:Hp}{S:Bl.St}{R c:Nat}{mk:Nat→Int}{cf:Nat→Option (Nat×Nat)}{m:Int}{x:Option (Nat×Nat)}{o:HO} (wb:Wb C A B H (opn S R mk cf)) (hc:c∈(S.bd R).inn) (hid:c∈S.ids) (h:BdR C B (upd H c o) c { S.bd c with mark:=m,cm:=x }):Wb C A B (upd H c o) (opn S R (fs mk c m) (fs cf c x)):=by
 refine Wb.eqv (wb.setB (b:=c) (d:={ S.bd c with mark:=m,cm:=x }) (f:=(opn S R (fs mk c m) (fs cf c x)).bd) hid ?_ (fun b hb=>?_) ?_ h) rfl
 ·rw [opn_in hc,fs_hit,fs_hit]
 ·rw [opn_bd,opn_bd,fs_ne hb,fs_ne hb]
 ·rw [opn_in hc]
theorem fs_take {α:Type}{f:Nat→α}{v:α}{l:List Nat}{k c:Nat} (h:l[k]? = some c):fs (fun b=>if b∈l.take k then v else f b) c v=fun b=>if b∈l.take (k+1) then v else f b:=by
 funext b
 rw [take_snoc h]
 by_cases e:b=c
 ·subst e
  rw [fs_hit,if_pos (List.mem_append_right _ (List.mem_singleton.mpr rfl))]
 ·rw [fs_ne e]
  by_cases m:b∈l.take k
  ·rw [if_pos m,if_pos (List.mem_append_left _ m)]
  ·rw [if_neg m,if_neg (fun z=>by
    rcases List.mem_append.mp z with z | z
    ·exact m z
    ·exact e (List.mem_singleton.mp z))]
theorem opn_congr {S:Bl.St}{R:Nat}{mk mk':Nat→Int}{cf cf':Nat→Option (Nat×Nat)} (h:∀ b∈(S.bd R).inn,mk b=mk' b∧cf b=cf' b):opn S R mk cf=opn S R mk' cf':=by
 have:(opn S R mk cf).bd=(opn S R mk' cf').bd:=by
  funext b
  rw [opn_bd,opn_bd]
  by_cases m:b∈(S.bd R).inn
  ·rw [if_pos m,if_pos m,(h b m).1,(h b m).2]
  ·rw [if_neg m,if_neg m]
 show ({ S with bd:=(opn S R mk cf).bd,out:=apart S R (Bl.cnt S R) }:Bl.St) = { S with bd:=(opn S R mk' cf').bd,out:=apart S R (Bl.cnt S R) }
 rw [this]
theorem subI {i n c:Nat} (h:n≤c):((i:Int)-(n:Int)) % (c:Int)=(((i+c-n) % c:Nat):Int):=by
 rw [←modI]
 have:((i+c-n:Nat):Int)=(i:Int)-n+c:=by omega
 rw [this,Int.add_emod_right]
end BW
namespace BW
open PySem L2 PyProof.Rows R
theorem if_way {tt:TT}{σ:L2.St}{H:Hp}{K:VK} (b:Bool) (Pz:Int→Prop) (ht:∀ Q:Bool→Hp→Prop,Q b H→tt σ H Q) (h1:b=true→Pz 1) (h2:b=false→Pz (-1)) (k:∀ z,Pz z→K (.int z) H):tIf tt (tC (.int 1)) (tUn (rU fun i=>V.int (-i)) (tC (.int 1))) σ H K:=by
 refine ht _ ?_
 cases b with
 | true=>exact k 1 (h1 rfl)
 | false=>exact ⟨1,rfl,k (-1) (h2 rfl)⟩
end BW
namespace BW
open PySem L2 PyProof.Rows R
abbrev dN (x:Nat×Nat):Int×Int:=((x.1:Int),(x.2:Int))
theorem dN_eq (x y:Nat×Nat):decide (dN x=dN y)=decide (x=y):=by
 refine decide_eq_decide.mpr ⟨fun h=>?_,fun h=>by rw [h]⟩
 have h1:(x.1:Int)=y.1:=congrArg Prod.fst h
 have h2:(x.2:Int)=y.2:=congrArg Prod.snd h
 exact Prod.ext (by omega) (by omega)
theorem rd2 {K:PySem.W.Frag}{H:Hp}{t:Addr}{x:Nat×Nat} (h:H t=some (p2 x)):RdD K H (.ref t) (dp (dN x)):=.tup (SqT.of h) (.cons (.int _) (.cons (.int _) .nil))
theorem JLs.nil_iff {B:Hp}{js:List Addr}{ps:List (Nat×Nat)} (h:JLs B js ps):js.isEmpty=ps.isEmpty:=by
 cases h <;> rfl
theorem map_empty {js:List Addr}:(js.map V.ref).isEmpty=js.isEmpty:=by cases js <;> rfl
end BW
namespace BW
open PySem L2 PyProof.Rows R
theorem and_by {tA tB:TT}{σ:L2.St}{H:Hp}{Q:Bool→Hp→Prop} (b:Bool) (h:∀ Q:Bool→Hp→Prop,Q b H→tAnd tA tB σ H Q) (q:Q b H):tAnd tA tB σ H Q:=h Q q
theorem pop_at {js:List Addr}{t:Addr}:((js ++ [t]).map V.ref)[((js ++ [t]).map V.ref).length-1]? = some (.ref t):=by
 rw [List.map_append,List.length_append]
 show ((js.map V.ref) ++ [V.ref t])[(js.map V.ref).length+1-1]? = _
 rw [Nat.add_sub_cancel,List.getElem?_append_right (Nat.le_refl _),Nat.sub_self];rfl
theorem pop_drop {js:List Addr}{t:Addr}:((js ++ [t]).map V.ref).dropLast=js.map V.ref:=by rw [List.map_append];exact List.dropLast_concat
end BW
namespace BW
open PySem L2 PyProof.Rows R
abbrev rt (S:Bl.St) (x:Nat×Nat×Int):Int:=(S.bd (S.out x.1)).mark+(S.bd (S.out x.2.1)).mark
abbrev rs (S:Bl.St) (x:Nat×Nat×Int):Int:=(x.2.2-S.sm x.1-S.sm x.2.1) / rt S x
def bnd (S:Bl.St) (x:Nat×Nat×Int):Prop:=S.out x.1≠S.out x.2.1∧0 < rt S x
def TlR (S:Bl.St) (l:List (Nat×Nat×Int)) (H:Hp) (v:V):Prop:=(v = .non∧∀ x∈l,¬ bnd S x)∨∃ t x,v = .ref t∧H t=some (.tup [.int (rs S x),.int (x.1:Int),.int (x.2.1:Int)])∧x∈l∧bnd S x∧∀ y∈l,bnd S y→rs S x≤rs S y
theorem TlR.skip {S:Bl.St}{l:List (Nat×Nat×Int)}{H:Hp}{v:V}{x:Nat×Nat×Int} (h:TlR S l H v) (n:¬ bnd S x):TlR S (l ++ [x]) H v:=by
 rcases h with ⟨e,h⟩ | ⟨t,y,h1,h2,h3,h4,h5⟩
 ·refine .inl ⟨e,fun y hy=>?_⟩
  rcases List.mem_append.mp hy with z | z
  ·exact h y z
  ·rw [List.mem_singleton.mp z];exact n
 ·refine .inr ⟨t,y,h1,h2,List.mem_append_left _ h3,h4,fun z hz hb=>?_⟩
  rcases List.mem_append.mp hz with q | q
  ·exact h5 z q hb
  ·rw [List.mem_singleton.mp q] at hb;exact absurd hb n
theorem TlR.keep {S:Bl.St}{l:List (Nat×Nat×Int)}{H:Hp}{t:Addr}{x y:Nat×Nat×Int} (ht:H t=some (.tup [.int (rs S y),.int (y.1:Int),.int (y.2.1:Int)])) (hy:y∈l) (by':bnd S y) (hm:∀ z∈l,bnd S z→rs S y≤rs S z) (h:¬ rs S x < rs S y):TlR S (l ++ [x]) H (.ref t):=by
 refine .inr ⟨t,y,rfl,ht,List.mem_append_left _ hy,by',fun z hz hb=>?_⟩
 rcases List.mem_append.mp hz with q | q
 ·exact hm z q hb
 ·rw [List.mem_singleton.mp q];omega
theorem TlR.new {S:Bl.St}{l:List (Nat×Nat×Int)}{H:Hp}{t:Addr}{x:Nat×Nat×Int} (ht:H t=some (.tup [.int (rs S x),.int (x.1:Int),.int (x.2.1:Int)])) (hb:bnd S x) (hm:∀ z∈l,bnd S z→rs S x≤rs S z):TlR S (l ++ [x]) H (.ref t):=by
 refine .inr ⟨t,x,rfl,ht,List.mem_append_right _ (List.mem_singleton.mpr rfl),hb,fun z hz h=>?_⟩
 rcases List.mem_append.mp hz with q | q
 ·exact hm z q h
 ·rw [List.mem_singleton.mp q];exact Int.le_refl _
theorem rs_nn {S:Bl.St}{rk:Nat→Nat} (O:Bl.Ok S rk) {y:Nat×Nat×Int} (hy:y∈S.lk) (hb:bnd S y):0≤rs S y:=by
 obtain ⟨u,v,t⟩:=y
 exact Int.ediv_nonneg (Bl.slack_nn O hy hb.1) (Int.le_of_lt hb.2)
theorem TlR.zero {S:Bl.St}{rk:Nat→Nat} (O:Bl.Ok S rk) {l:List (Nat×Nat×Int)}{H:Hp}{v:V}{x:Nat×Nat×Int} (h:TlR S l H v) (hx:x∈l) (hb:bnd S x) (h0:rs S x=0) (sub:∀ y∈l,y∈S.lk):TlR S S.lk H v:=by
 rcases h with ⟨_,h⟩ | ⟨t,y,h1,h2,h3,h4,h5⟩
 ·exact absurd hb (h x hx)
 ·refine .inr ⟨t,y,h1,h2,sub y h3,h4,fun z hz hbz=>?_⟩
  have:=h5 x hx hb
  have:=rs_nn O hz hbz
  omega
end BW
namespace BW
open PySem L2 PyProof.Rows R
theorem Wb.masked {C:Cs}{A:Ad}{B H H':Hp}{S:Bl.St} (w:Wb C A B H S) (s:Same (mask C.tb H) H') (t:TabOk C.tb C.pos C.q H'):Wb C A B H' S:=by
 obtain ⟨ps,hP,_⟩:=w.tab
 have up:∀ {b:Addr}{o:HO},H b=some o→o ≠ .tbl ps→H' b=some o:=fun e n=>s _ _ (mask_up hP e n)
 exact ⟨fun b o e=>s _ _ (by rw [mask_ne (fun z=>by rw [z,w.nt] at e;cases e)];exact w.sb b o e),w.no,w.ns,w.nm,w.nt,w.nb,w.os,w.om,w.sm,up w.ho (fun z=>by cases z),up w.hs (fun z=>by cases z),up w.hm (fun z=>by cases z),t,w.web,w.lk,w.hg,w.sgl,
  fun b hb=>let ⟨dx,pa,ia,ja,cv,h,r⟩:=w.bod b hb;⟨dx,pa,ia,ja,cv,up h (fun z=>by cases z),r⟩,w.n40⟩
def ChR (S:Bl.St) (v:V):Prop:=(v = .non∧∀ b,Bl.om S b→(S.bd b).mark = -1→(S.bd b).inn = [])∨∃ R,v = .ref R∧Bl.om S R∧(S.bd R).mark = -1∧(S.bd R).inn ≠ []∧∀ b,Bl.om S b→(S.bd b).mark = -1→(S.bd b).inn ≠ []→(S.bd R).pr≤(S.bd b).pr
def oddR (S:Bl.St) (b:Nat):Bool:=decide ((S.bd b).mark = -1) && !(S.bd b).inn.isEmpty
theorem oddR_iff {S:Bl.St}{b:Nat}:oddR S b=true↔(S.bd b).mark = -1∧(S.bd b).inn ≠ []:=by
 unfold oddR
 rw [Bool.and_eq_true,decide_eq_true_iff]
 cases (S.bd b).inn <;> simp
theorem filt_snoc {l:List Nat}{k b:Nat}{p:Nat→Bool} (h:l[k]? = some b):(l.take (k+1)).filter p=(l.take k).filter p++(if p b=true then [b] else []):=by
 rw [take_snoc h,List.filter_append]
 by_cases e:p b=true
 ·rw [if_pos e,List.filter_cons_of_pos e];rfl
 ·rw [if_neg e,List.filter_cons_of_neg e];rfl
end BW
namespace L2
open PySem PySem.Spec PyProof.Rows
theorem rMinD_of {X:Cx}{l:Addr}{ns:List Int}{dv:Int}{H:Hp}{Q:VK} (h:H l=some (.lst (ns.map V.int))) (q:∀ z,(∀ a∈ns,z≤a)→Q (.int z) H):rMinD X [.ref l] [.int dv] H Q :=
 ⟨l,ns,dv,rfl,rfl,h,(fun e=>q dv fun a ha=>by rw [e] at ha;cases ha),fun M _ hm=>q M hm⟩
end L2
namespace BW
open PySem L2 PyProof.Rows R
open De (lf)
def SgA (C:Cs) (H:Hp) (a:Addr) (k:Nat) (pr:Int):Prop:=∃ dx pa ia ja:Addr,H a=some (.ins C.B dx (bF (.ref pa) (.int (k:Int)) (.ref ia) (.ref ja) (.int pr) (.int 0) .non))∧H pa=some (.lst (nV [k]))∧H ia=some (.lst [])∧H ja=some (.lst [])
theorem SgA.same {C:Cs}{H H':Hp}{a k:Nat}{pr:Int} (h:SgA C H a k pr) (s:Same H H'):SgA C H' a k pr:=let ⟨dx,pa,ia,ja,h1,h2,h3,h4⟩:=h;⟨dx,pa,ia,ja,s _ _ h1,s _ _ h2,s _ _ h3,s _ _ h4⟩
theorem SgA.but {C:Cs}{H H':Hp}{x a k D:Nat}{fs:List (Str×V)}{pr:Int} (h:SgA C H a k pr) (s:But x H H') (hx:H x=some (.ins C.W D fs)) (n:a≠x):SgA C H' a k pr:=by
 obtain ⟨dx,pa,ia,ja,h1,h2,h3,h4⟩:=h
 have ne:∀ {b:Addr}{xs:List V},H b=some (.lst xs)→b≠x:=fun e z=>by rw [z,hx] at e;cases e
 exact ⟨dx,pa,ia,ja,s _ _ h1 n,s _ _ h2 (ne h2),s _ _ h3 (ne h3),s _ _ h4 (ne h4)⟩
theorem SgA.other {C:Cs}{H:Hp}{a b k:Nat}{pr:Int}{o:HO}{D:Addr}{fs:List (Str×V)} (h:SgA C H a k pr) (hb:H b=some (.ins C.B D fs)) (n:a≠b):SgA C (upd H b o) a k pr:=by
 obtain ⟨dx,pa,ia,ja,h1,h2,h3,h4⟩:=h
 have ne:∀ {c:Addr}{xs:List V},H c=some (.lst xs)→c≠b:=fun e z=>by rw [z,hb] at e;cases e
 exact ⟨dx,pa,ia,ja,by rw [upd_ne n];exact h1,by rw [upd_ne (ne h2)];exact h2,by rw [upd_ne (ne h3)];exact h3,by rw [upd_ne (ne h4)];exact h4⟩
theorem init_wb {C:Cs}{A:Ad}{H Hs H':Hp}{n:Nat}{lk:List (Nat×Nat×Int)}{least:Int}{D:Addr}{fs:List (Str×V)} (hxs:Hs A.w=some (.ins C.W D fs)) (k:But A.w Hs H') (nO:Hs A.o=none) (nS:Hs A.s=none) (nM:Hs A.m=none)
  (hw:H' A.w=some (.ins C.W A.dw (wF A))) (hl:LKL Hs A.l lk) (hg:Hs A.g=some (.lst (lRef n A.sg))) (ho:H' A.o=some (.lst (lRef n A.sg))) (hs:H' A.s=some (.lst (M21.lI n fun _=>least))) (hm:H' A.m=some (.lst (M21.lO n fun _=>none)))
  (os:A.o≠A.s) (om:A.o≠A.m) (sm:A.s≠A.m) (bod:∀ p,p < n→SgA C Hs (A.sg p) p least) (nx:∀ p,p < n→A.sg p≠A.w) (inj:∀ p q,p < n→q < n→A.sg p=A.sg q→p=q) (tab:TabOk C.tb C.pos C.q H') (tabs:TabOk C.tb C.pos C.q Hs) (n40:n≤40)
  (hH:∀ b o,H b=some o→b≠A.w→Hs b=some o) (hf:∀ p,p < n→H (A.sg p)=none) :
  (∀ b o,H b=some o→b≠A.w→b≠C.tb→rest C A ((List.range n).map A.sg) H' b=some o)∧Wb C A (rest C A ((List.range n).map A.sg) H') H' (Bl.initS n lk A.sg least):=by
 obtain ⟨ps,hP,_⟩:=tab
 have tab:TabOk C.tb C.pos C.q H':=⟨ps,hP,by assumption⟩
 obtain ⟨qs,hQ,_⟩:=tabs
 have idm:∀ b,b∈(List.range n).map A.sg↔∃ p,p < n∧A.sg p=b:=fun b=>by
  rw [List.mem_map]
  exact ⟨fun ⟨p,hp,e⟩=>⟨p,List.mem_range.mp hp,e⟩,fun ⟨p,hp,e⟩=>⟨p,List.mem_range.mpr hp,e⟩⟩
 have nlst:∀ {b:Addr}{xs:List V},Hs b=some (.lst xs)→Nw C A ((List.range n).map A.sg) b∧b≠A.w:=fun {b xs} e =>
  ⟨⟨(fun z=>by rw [z,nO] at e;cases e),(fun z=>by rw [z,nS] at e;cases e),(fun z=>by rw [z,nM] at e;cases e),(fun z=>by rw [z,hQ] at e;cases e),fun z=>by
   obtain ⟨p,hp,rfl⟩:=(idm b).mp z
   obtain ⟨dx,pa,ia,ja,h1,_⟩:=bod p hp
   rw [h1] at e;cases e⟩,fun z=>by rw [z,hxs] at e;cases e⟩
 have ntup:∀ {b:Addr}{xs:List V},Hs b=some (.tup xs)→Nw C A ((List.range n).map A.sg) b∧b≠A.w:=fun {b xs} e =>
  ⟨⟨(fun z=>by rw [z,nO] at e;cases e),(fun z=>by rw [z,nS] at e;cases e),(fun z=>by rw [z,nM] at e;cases e),(fun z=>by rw [z,hQ] at e;cases e),fun z=>by
   obtain ⟨p,hp,rfl⟩:=(idm b).mp z
   obtain ⟨dx,pa,ia,ja,h1,_⟩:=bod p hp
   rw [h1] at e;cases e⟩,fun z=>by rw [z,hxs] at e;cases e⟩
 have bl:∀ {b:Addr}{xs:List V},Hs b=some (.lst xs)→rest C A ((List.range n).map A.sg) H' b=some (.lst xs):=fun e=>by rw [rest_in (nlst e).1];exact k _ _ e (nlst e).2
 have bt:∀ {b:Addr}{xs:List V},Hs b=some (.tup xs)→rest C A ((List.range n).map A.sg) H' b=some (.tup xs):=fun e=>by rw [rest_in (ntup e).1];exact k _ _ e (ntup e).2
 have nww:Nw C A ((List.range n).map A.sg) A.w:=⟨(fun z=>by rw [←z,hxs] at nO;cases nO),(fun z=>by rw [←z,hxs] at nS;cases nS),(fun z=>by rw [←z,hxs] at nM;cases nM),(fun z=>by rw [z,hQ] at hxs;cases hxs),fun z=>by
  obtain ⟨p,hp,e⟩:=(idm _).mp z
  exact nx p hp e⟩
 refine ⟨fun b o e n1 n2=>?_,rest_sub,rest_out fun z=>z.1 rfl,rest_out fun z=>z.2.1 rfl,rest_out fun z=>z.2.2.1 rfl,rest_out fun z=>z.2.2.2.1 rfl,fun b hb=>rest_out fun z=>z.2.2.2.2 hb,os,om,sm,ho,hs,hm,tab,?_,?_,bl hg,fun p hp=>⟨(idm _).mpr ⟨p,hp,rfl⟩,?_⟩,fun b hb=>?_,n40⟩
 ·have es:=hH b o e n1
  rw [rest_in ⟨(fun z=>by rw [z,nO] at es;cases es),(fun z=>by rw [z,nS] at es;cases es),(fun z=>by rw [z,nM] at es;cases es),n2,fun z=>by
   obtain ⟨p,hp,rfl⟩:=(idm b).mp z
   rw [hf p hp] at e;cases e⟩]
  exact k _ _ es n1
 ·rw [rest_in nww];exact hw
 ·obtain ⟨js,h1,h2⟩:=hl
  exact ⟨js,bl h1,Paired.mapP h2 fun a y q=>bt q⟩
 ·show [Bl.invS n A.sg (A.sg p)] = [p]
  rw [Bl.inv_ok inj hp]
 ·obtain ⟨p,hp,rfl⟩:=(idm b).mp hb
  obtain ⟨dx,pa,ia,ja,h1,h2,h3,h4⟩:=bod p hp
  show BdR C _ H' (A.sg p) ⟨[Bl.invS n A.sg (A.sg p)],Bl.invS n A.sg (A.sg p),[],[],least,0,none⟩
  rw [Bl.inv_ok inj hp]
  exact ⟨dx,pa,ia,ja,.non,k _ _ h1 (nx p hp),bl h2,bl h3,⟨[],bl h4,.nil⟩,rfl⟩
def dbl (ws:List (Nat×Nat×Int)):List (Nat×Nat×Int):=ws.map fun y=>(y.1,y.2.1,2*y.2.2)
theorem dbl_take {ws:List (Nat×Nat×Int)}{k:Nat}{y:Nat×Nat×Int} (h:ws[k]? = some y):dbl (ws.take (k+1))=dbl (ws.take k) ++ [(y.1,y.2.1,2*y.2.2)]:=by
 unfold dbl
 rw [List.take_add_one,h,List.map_append];rfl
theorem LKs.upd {H:Hp}{l:Addr}{js:List Addr}{ps:List (Nat×Nat×Int)}{xs:List V}{o:HO} (hl:H l=some (.lst xs)) (h:LKs H js ps):LKs (L2.upd H l o) js ps:=Paired.mapP h fun a r q=>by
 have hne:a≠l:=fun z=>by rw [z,hl] at q;unfold p3 at q;cases q
 rw [upd_ne hne];exact q
theorem LKs.but {x D:Addr}{H H':Hp}{CW:Addr}{fs:List (Str×V)}{js:List Addr}{ps:List (Nat×Nat×Int)} (h:LKs H js ps) (s:But x H H') (hx:H x=some (.ins CW D fs)):LKs H' js ps:=Paired.mapP h fun a r q=>s _ _ q fun z=>by
 rw [z,hx] at q;unfold p3 at q;cases q
end BW
namespace BW
open PySem L2 PyProof.Rows
def tri:Nat→Nat
 | 0=>0
 | k+1=>tri k+k
theorem tri40 {n:Nat} (h:n≤40):tri n≤780:=(by decide:∀ n,n < 41→tri n≤780) n (by omega)
structure Lb (n:Nat) (ls:List (Nat×Nat)) (out:List Nat) (pt:Nat→Nat):Prop where
 h1:∀ y∈ls,¬ y.1∈out→¬ y.2∈out→pt y.1=pt y.2
 h2:∀ q:Nat→Nat,(∀ y∈ls,¬ y.1∈out→¬ y.2∈out→q y.1=q y.2)→∀ u v,u < n→v < n→pt u=pt v→q u=q v
theorem Lb.nil {n:Nat}{out:List Nat}:Lb n [] out (fun p=>p):=⟨fun y hy=>absurd hy List.not_mem_nil,fun q _ u v _ _ e=>congrArg q e⟩
theorem Lb.skip {n:Nat}{ls:List (Nat×Nat)}{out:List Nat}{pt:Nat→Nat}{y:Nat×Nat} (L:Lb n ls out pt) (h:¬ y.1∈out→¬ y.2∈out→pt y.1=pt y.2):Lb n (ls ++ [y]) out pt:=by
 refine ⟨fun z hz a b=>?_,fun q hq=>L.h2 q fun z hz=>hq z (List.mem_append_left _ hz)⟩
 rcases List.mem_append.mp hz with k | k
 ·exact L.h1 z k a b
 ·have e:=List.mem_singleton.mp k
  subst e
  exact h a b
theorem Lb.join {n:Nat}{ls:List (Nat×Nat)}{out:List Nat}{pt:Nat→Nat}{y:Nat×Nat} (L:Lb n ls out pt) (a:y.1 < n) (b:y.2 < n) (oa:¬ y.1∈out) (ob:¬ y.2∈out):Lb n (ls ++ [y]) out (fun x=>if pt x=pt y.2 then pt y.1 else pt x):=by
 refine ⟨fun z hz p q=>?_,fun q hq u v hu hv e=>?_⟩
 ·rcases List.mem_append.mp hz with k | k
  ·show (if pt z.1=pt y.2 then pt y.1 else pt z.1)=if pt z.2=pt y.2 then pt y.1 else pt z.2
   rw [L.h1 z k p q]
  ·have e:=List.mem_singleton.mp k
   subst e
   show (if pt z.1=pt z.2 then pt z.1 else pt z.1)=if pt z.2=pt z.2 then pt z.1 else pt z.2
   rw [if_pos rfl]
   split <;> rfl
 ·have q0:=fun z hz=>hq z (List.mem_append_left _ hz)
  have qy:=hq y (List.mem_append_right _ (List.mem_singleton.mpr rfl)) oa ob
  have e:(if pt u=pt y.2 then pt y.1 else pt u)=if pt v=pt y.2 then pt y.1 else pt v:=e
  by_cases eu:pt u=pt y.2
  ·by_cases ev:pt v=pt y.2
   ·exact L.h2 q q0 u v hu hv (eu.trans ev.symm)
   ·rw [if_pos eu,if_neg ev] at e
    exact (L.h2 q q0 u y.2 hu b eu).trans (qy.symm.trans (L.h2 q q0 y.1 v a hv e))
  ·by_cases ev:pt v=pt y.2
   ·rw [if_neg eu,if_pos ev] at e
    exact (L.h2 q q0 u y.1 hu a e).trans (qy.trans (L.h2 q q0 y.2 v b hv ev.symm))
   ·rw [if_neg eu,if_neg ev] at e
    exact L.h2 q q0 u v hu hv e
def cnt (out:List Nat) (pt:Nat→Nat) (i x:Nat):Nat:=Bl.num i fun p=>decide (¬ p∈out∧pt p=x)
theorem num_up {i:Nat}{P:Nat→Bool}:Bl.num (i+1) P=Bl.num i P+if P i=true then 1 else 0:=by
 unfold Bl.num
 rw [List.range_succ,List.filter_append,List.length_append]
 cases h:P i with
 | true=>rw [List.filter_cons_of_pos h];rfl
 | false=>rw [List.filter_cons_of_neg (by rw [h];exact Bool.false_ne_true)];rfl
theorem cnt_out {out:List Nat}{pt:Nat→Nat}{i:Nat} (h:i∈out) (x:Nat):cnt out pt (i+1) x=cnt out pt i x:=by
 unfold cnt
 rw [num_up,if_neg (fun z=>(of_decide_eq_true z).1 h)];rfl
theorem cnt_in {out:List Nat}{pt:Nat→Nat}{i:Nat} (h:¬ i∈out) (x:Nat):cnt out pt (i+1) x=cnt out pt i x+if x=pt i then 1 else 0:=by
 unfold cnt
 rw [num_up]
 congr 1
 by_cases e:x=pt i
 ·rw [if_pos e,if_pos (decide_eq_true ⟨h,e.symm⟩)]
 ·rw [if_neg e,if_neg (fun z=>e (of_decide_eq_true z).2.symm)]
def cK (f:Nat→Nat) (ks:List Nat):List (Key×V):=ks.map fun x:Nat=>((Sum.inl (x:Int):Key),V.int (f x:Int))
theorem cK_len (f:Nat→Nat) (ks:List Nat):(cK f ks).length=ks.length:=by unfold cK;rw [List.length_map]
theorem cK_val {f:Nat→Nat}{x:Nat}:∀ ks:List Nat,valV (cK f ks) (Sum.inl (x:Int):Key)=if x∈ks then some (.int (f x:Int)) else none
 | []=>rfl
 | a::ks=>by
  show valV (((Sum.inl (a:Int):Key),V.int (f a:Int))::cK f ks) _=_
  by_cases e:a=x
  ·subst e
   rw [valV_pos rfl,if_pos (List.mem_cons_self ..)]
  ·rw [valV_neg (fun z=>e (by have:=Sum.inl.inj z;omega)),cK_val ks]
   by_cases h:x∈ks
   ·rw [if_pos h,if_pos (List.mem_cons_of_mem _ h)]
   ·rw [if_neg h,if_neg (fun z=>(List.mem_cons.mp z).elim (fun k=>e k.symm) h)]
theorem cK_get {f:Nat→Nat}{x:Nat}{ks:List Nat} (h:¬ x∈ks→f x=0):(valV (cK f ks) (Sum.inl (x:Int):Key)).getD (.int 0) = .int (f x:Int):=by
 rw [cK_val]
 by_cases k:x∈ks
 ·rw [if_pos k];rfl
 ·rw [if_neg k,h k];rfl
theorem cK_cong {f g:Nat→Nat}{ks:List Nat} (h:∀ x∈ks,f x=g x):cK f ks=cK g ks:=List.map_congr_left fun x hx=>by rw [h x hx]
theorem cK_put {f g:Nat→Nat}{x:Nat}{ks:List Nat} (nd:ks.Nodup) (hg:∀ y,g y=f y+if y=x then 1 else 0):putK (cK f ks) (Sum.inl (x:Int):Key) (.int ((f x:Int)+1))=cK g (if x∈ks then ks else ks ++ [x]):=by
 have gx:(g x:Int)=(f x:Int)+1:=by rw [hg x,if_pos rfl];omega
 have gy:∀ y,y≠x→g y=f y:=fun y hy=>by rw [hg y,if_neg hy];rfl
 by_cases k:x∈ks
 ·rw [if_pos k]
  unfold putK
  rw [if_pos (by rw [valV_any,cK_val,if_pos k];rfl)]
  unfold cK
  rw [List.map_map]
  refine List.map_congr_left fun y _=>?_
  by_cases e:y=x
  ·subst e
   show (if (Sum.inl (y:Int):Key)=Sum.inl (y:Int) then _ else _)=_
   rw [if_pos rfl,gx]
  ·show (if (Sum.inl (y:Int):Key)=Sum.inl (x:Int) then _ else _)=_
   rw [if_neg (fun z=>e (by have:=Sum.inl.inj z;omega)),gy y e]
 ·rw [if_neg k,putK_new _ (by rw [cK_val,if_neg k])]
  unfold cK
  rw [List.map_append]
  congr 1
  ·exact List.map_congr_left fun y hy=>by rw [gy y (fun e=>k (e ▸ hy))]
  ·rw [←gx];rfl
def Ks (out:List Nat) (pt:Nat→Nat) (i:Nat) (ks:List Nat):Prop:=ks.Nodup∧(∀ x,x∈ks↔0 < cnt out pt i x)∧ks.length≤i
theorem Ks.nil {out:List Nat}{pt:Nat→Nat}:Ks out pt 0 []:=⟨List.nodup_nil,fun x=>⟨fun h=>absurd h List.not_mem_nil,fun h=>absurd h (Nat.lt_irrefl 0)⟩,Nat.le_refl _⟩
theorem Ks.out {out:List Nat}{pt:Nat→Nat}{i:Nat}{ks:List Nat} (h:Ks out pt i ks) (o:i∈out):Ks out pt (i+1) ks:=⟨h.1,fun x=>by rw [cnt_out o];exact h.2.1 x,by have:=h.2.2;omega⟩
theorem Ks.put {out:List Nat}{pt:Nat→Nat}{i:Nat}{ks:List Nat} (h:Ks out pt i ks) (o:¬ i∈out):Ks out pt (i+1) (if pt i∈ks then ks else ks ++ [pt i]):=by
 have hl:=h.2.2
 refine ⟨?_,fun x=>?_,?_⟩
 ·split
  ·exact h.1
  ·rename_i k
   refine List.nodup_append.mpr ⟨h.1,List.pairwise_singleton _ _,fun a ha b hb e=>k ?_⟩
   rw [←List.mem_singleton.mp hb,←e];exact ha
 ·rw [cnt_in o]
  by_cases e:x=pt i
  ·rw [if_pos e]
   constructor
   ·intro _;omega
   ·intro _
    split
    ·rw [e];assumption
    ·rw [e];exact List.mem_append_right _ (List.mem_singleton.mpr rfl)
  ·rw [if_neg e,Nat.add_zero,←h.2.1 x]
   split
   ·exact Iff.rfl
   ·constructor
    ·intro z
     rcases List.mem_append.mp z with z | z
     ·exact z
     ·exact absurd (List.mem_singleton.mp z) e
    ·exact fun z=>List.mem_append_left _ z
 ·split
  ·omega
  ·rw [List.length_append,List.length_singleton];omega
def OdN (n:Nat) (ls:List (Nat×Nat)) (out:List Nat) (k:Nat):Prop:=∃ (pt:Nat→Nat) (X:List Nat),Lb n ls out pt∧X.Nodup∧(∀ x,x∈X↔cnt out pt n x % 2=1)∧k=X.length
theorem Ks.odn {n:Nat}{ls:List (Nat×Nat)}{out:List Nat}{pt:Nat→Nat}{ks:List Nat} (L:Lb n ls out pt) (h:Ks out pt n ks):OdN n ls out (ks.filter fun x=>decide (cnt out pt n x % 2=1)).length:=by
 refine ⟨pt,_,L,List.Pairwise.filter _ h.1,fun x=>?_,rfl⟩
 rw [List.mem_filter,h.2.1 x]
 constructor
 ·exact fun z=>of_decide_eq_true z.2
 ·exact fun z=>⟨by omega,decide_eq_true z⟩
end BW
namespace Rk08_the_largest_pairing
open PySem L2 PyProof.Rows R K3 BW
open M21 (oN lI lO lI_at lO_at lf_ix lI_set while_m)
open De (lf lf_len lf_get)
def top (i:Nat):Stmt:=PySem.Challenge.pw_rollcall_k08_the_largest_pairing.main.body.getD i (.Pass ⟨0,0,0,0⟩)
structure BiR (mg:Str→Option Value):Prop where
 len:mg "len" = none
 range:mg "range" = none
 min:mg "min" = none
 max:mg "max" = none
 isin:mg "isinstance" = none
 t_bool:mg "bool" = none
 t_list:mg "list" = none
 t_int:mg "int" = none
 t_tuple:mg "tuple" = none
 sorted:mg "sorted" = none
 sum:mg "sum" = none
 enumerate:mg "enumerate" = none
 reversed:mg "reversed" = none
structure TxB (K:PySem.W.Frag) (mg:Str→Option Value) (C:Addr):Prop where
 cl:Cls K C
 n1:NoAttr K C "places"
 n2:NoAttr K C "tip"
 n3:NoAttr K C "inner"
 n4:NoAttr K C "joints"
 n5:NoAttr K C "price"
 n6:NoAttr K C "mark"
 n7:NoAttr K C "came"
 mgC:mg "Body" = some (.ref C)
 cmp:CmpCls K C
structure TxW (K:PySem.W.Frag) (mg:Str→Option Value) (C:Addr):Prop where
 cl:Cls K C
 n1:NoAttr K C "links"
 n2:NoAttr K C "singles"
 n3:NoAttr K C "outer"
 n4:NoAttr K C "sums"
 n5:NoAttr K C "mates"
 mgC:mg "Web" = some (.ref C)
abbrev sBi:Stmt:=inClass (top 5) 0
abbrev sWi:Stmt:=inClass (top 8) 0
abbrev sOu:Stmt:=inClass (top 8) 1
abbrev sLi:Stmt:=inClass (top 8) 2
abbrev sLe:Stmt:=inClass (top 8) 3
abbrev sTi:Stmt:=inClass (top 8) 4
abbrev sPu:Stmt:=inClass (top 8) 5
abbrev sTa:Stmt:=inClass (top 8) 6
abbrev sPr:Stmt:=inClass (top 8) 7
abbrev sBn:Stmt:=top 6
abbrev sJo:Stmt:=top 7
abbrev sBt:Stmt:=top 10
abbrev sTl:Stmt:=top 11
abbrev sCh:Stmt:=top 12
abbrev sLa:Stmt:=top 13
abbrev sMo:Stmt:=top 14
abbrev sGr:Stmt:=top 15
abbrev sSu:Stmt:=top 16
abbrev sLr:Stmt:=top 17
abbrev sRo:Stmt:=top 18
abbrev sCp:Stmt:=top 19
abbrev sCr:Stmt:=top 20
abbrev sJb:Stmt:=top 21
abbrev sUl:Stmt:=top 22
abbrev sOr:Stmt:=top 23
abbrev sGo:Stmt:=top 24
abbrev sGn:Stmt:=top 25
abbrev sOp:Stmt:=top 26
abbrev lamPos:Pos:=⟨105,24,105,47⟩
abbrev lamQ:Str:=(Str.ofString "cheapest_odd_ring" ++ Str.ofString ".<locals>.")++Str.ofString "<lambda>"
structure Pg (K:PySem.W.Frag) (mg:Str→Option Value) (C:Cs) where
 T:BiR mg
 B:TxB K mg C.B
 W:TxW K mg C.W
 tE:Tok
 tF:Tok
 tO:Tok
 gE:mg "EVEN" = some (.int 1 tE)
 gF:mg "FREE" = some (.int 0 tF)
 gO:mg "ODD" = some (.int (-1) tO)
 dBi:Di K C.B "Body.__init__" sBi ["self","places","tip","inner","joints"]
 dWi:Di K C.W "Web.__init__" sWi ["self","n","worries"]
 dOu:Dm K C.W "outermost" "Web.outermost" sOu ["self"]
 dLi:Dm K C.W "lift" "Web.lift" sLi ["self","body","rise"]
 dLe:Dm K C.W "lead_out" "Web.lead_out" sLe ["self","body","place"]
 dTi:Dm K C.W "tie" "Web.tie" sTi ["self","one","other"]
 dPu:Dm K C.W "put_together" "Web.put_together" sPu ["self","inner","joints","tip"]
 dTa:Dm K C.W "take_apart" "Web.take_apart" sTa ["self","ring"]
 dPr:Dm K C.W "pairing" "Web.pairing" sPr ["self"]
 dBn:Df K mg "body_number" sBn ["ring","place"]
 dJo:Df K mg "joint_on" sJo ["ring","number","way"]
 dBt:Df K mg "begin_trees" sBt ["web"]
 dTl:Df K mg "tightest_link" sTl ["web"]
 dCh:Df K mg "cheapest_odd_ring" sCh ["web"]
 dLa:Df K mg "lift_all" sLa ["web","rise"]
 dMo:Df K mg "mark_odd" sMo ["body","came"]
 dGr:Df K mg "grow" sGr ["web","ahead","place"]
 dSu:Df K mg "step_up" sSu ["web","body"]
 dLr:Df K mg "links_to_root" sLr ["web","place"]
 dRo:Df K mg "root_of" sRo ["web","place","way"]
 dCp:Df K mg "change_pairs" sCp ["web","place"]
 dCr:Df K mg "close_ring" sCr ["web","one","other","link"]
 dJb:Df K mg "join_bodies" sJb ["web","u","v"]
 dUl:Df K mg "use_link" sUl ["web","u","v"]
 dOr:Df K mg "open_ring" sOr ["web","ring"]
 dGo:Df K mg "go_on" sGo ["web"]
 dGn:Df K mg "grown" sGn ["n","worries"]
 dOp:Df K mg "odd_places" sOp ["web"]
section
variable {P:Program}{w:World}{K:PySem.W.Frag}{mg:Str→Option Value}{base:Heap}{C:Cs}
seal PA PE PS PSs PT PW
def spTi (C:Cs):Sp:=fun vs H Q _=>∃ (A:Ad) (B:Hp) (S:Bl.St) (x y:Nat),vs = [.ref A.w,.int (x:Int),.int (y:Int)]∧Wb C A B H S∧x < S.n∧y < S.n ∧
 ∀ H',Wb C A B H' (Bl.tieS S x y)→Q .non H'
theorem scTi:FnScope ["self","one","other"] ["self","one","other"] (defScope sTi):=⟨rfl,rfl,rfl,by decide +kernel,rfl,by decide +kernel,by decide +kernel⟩
theorem okTi (G:Pg K mg C):FnOk P w K mg base CX0 1 G.dTi.f G.dTi.fd ["self","one","other"] (spTi C):=by
 refine G.dTi.F.ok scTi (fun vs H Q E h=>?_) (fun cdv Ar outer s H vs Q E hr h=>?_)
 ·obtain ⟨_,_,_,_,_,rfl,_⟩:=h
  rfl
 ·obtain ⟨A,B,S,x,y,rfl,wb,hx,hy,q⟩:=h
  refine ⟨_,(pss_cons (ps_asg (pv 2) (pg_sub (pe_fld (pv 0) rfl) (pv 1) set_list))
   (pss_one (ps_asg (pv 1) (pg_sub (pe_fld (pv 0) rfl) (pv 2) set_list)))),?_⟩
  refine ⟨_,rfl,_,rfl,fld_at (wb.sb _ _ wb.web) G.W.cl G.W.n5 w5 ?_⟩
  refine ⟨_,rfl,A.m,_,_,_,rfl,rfl,wb.hm,lf_ix hx,?_⟩
  have wb1:=wb.setM (x:=x) (v:=some y)
  refine ⟨_,rfl,_,rfl,fld_at (wb1.sb _ _ wb1.web) G.W.cl G.W.n5 w5 ?_⟩
  refine ⟨_,rfl,A.m,_,_,_,rfl,rfl,wb1.hm,lf_ix hy,?_⟩
  exact q _ (wb1.setM (x:=y) (v:=some x))
def spBn (C:Cs):Sp:=fun vs H Q _=>∃ (A:Ad) (B:Hp) (S:Bl.St) (b p j:Nat),vs = [.ref b,.int (p:Int)]∧Wb C A B H S∧(∀ i,i < Bl.cnt S b→Bl.kid S b i∈S.ids)∧(∀ i,i < Bl.cnt S b→∀ j,j < Bl.cnt S b→∀ p,p∈Bl.pl S (Bl.kid S b i)→p∈Bl.pl S (Bl.kid S b j)→i=j)∧b∈S.ids∧Bl.cnt S b≤40∧j < Bl.cnt S b∧p∈Bl.pl S (Bl.kid S b j) ∧
 ∀ H',Same H H'→Q (.int (j:Int)) H'
theorem scBn:FnScope ["ring","place"] ["ring","place"] (defScope sBn):=⟨rfl,rfl,rfl,by decide +kernel,rfl,by decide +kernel,by decide +kernel⟩
theorem okBn (G:Pg K mg C):FnOk P w K mg base CX0 1 G.dBn.f G.dBn.fd ["ring","place"] (spBn C):=by
 refine G.dBn.F.ok scBn (fun vs H Q E h=>?_) (fun cdv Ar outer s H vs Q E hr h=>?_)
 ·obtain ⟨_,_,_,_,_,_,rfl,_⟩:=h
  rfl
 ·obtain ⟨A,B,S,b,p,j,rfl,wb,kin,dis,hb,c40,hj,hp,q⟩:=h
  obtain ⟨dx,pa,ia,ja,cv,hB,hpa,hia,hja,hcm⟩:=wb.bod b hb
  have hia':=wb.sb _ _ hia
  refine ⟨_,(pss_one (ps_ret (pe_ix ix_list (pe_compG (xs:=["number","body"]) (compOkG (fr:=[("place",1)])) rfl (pi_enum (by rfl) G.T.enumerate (pa_cons (pe_fld (pv 0) rfl) pa_nil)) (fun _ _ _=>(pg_tupK (K:=K) (n:=2) rfl (pgs_cons (pg_name (i:=0) (show List.Nodup (["number","body","place"]:List Str) by decide +kernel) rfl (Or.inl rfl) (.inr rfl)) (pgs_cons (pg_name (i:=1) (show List.Nodup (["number","body","place"]:List Str) by decide +kernel) rfl (Or.inl rfl) (.inr rfl)) pgs_nil)))) (fun _ _ _=>pts_one (pt_cmpR (op_in_seqK (K:=K)) (pv 2) (pe_fldK (K:=K) (pv 1) rfl) (by rfl))) (fun _ _ _=>(pv 0))) pe_int (fun _ _=>rfl)))),?_⟩
  refine ⟨_,rfl,fld_at hB G.B.cl G.B.n3 b3 ?_⟩
  refine ⟨ia,_,rfl,hia',fun D hD=>compG_enum (xs:=(S.bd b).inn.map V.ref) (fun i ac H2=>H2 D=some (.lst ac)∧Same H H2∧ac=if j < i then [V.int (j:Int)] else []) ⟨upd_same,same_new hD,rfl⟩ ?_ ?_ ?_⟩
  ·rintro i ac H2 hi ⟨h2,s2,rfl⟩
   refine ⟨h2,small5 (by split <;> simp),SqL.of (s2 _ _ hia')⟩
  ·rintro i x ac H2 pt N hx hN ⟨h2,s2,rfl⟩ hpt
   rw [List.getElem?_map] at hx
   obtain ⟨c,hc,rfl⟩:=Option.map_eq_some_iff.mp hx
   have hi:i < Bl.cnt S b:=(List.getElem?_eq_some_iff.mp hc).1
   have ek:Bl.kid S b i=c:=by unfold Bl.kid;rw [List.getD_eq_getElem?_getD,hc];rfl
   have hcm2:c∈S.ids:=ek ▸ kin i hi
   have s3:=s2.trans (same_new (o:=.tup [.int (i:Int),.ref c]) hpt)
   have h3:=same_new (o:=.tup [.int (i:Int),.ref c]) hpt _ _ h2
   obtain ⟨dx2,pa2,ia2,ja2,cv2,hB2,hpa2,_⟩:=(wb.same s3).bod c hcm2
   refine ⟨pt,_,rfl,SqT.of upd_same,rfl,_,_,rfl,_,_,rfl,rfl,[some (.int (i:Int)),some (.ref c)],rfl,rfl,?_⟩
   refine ⟨_,rfl,_,rfl,fld_at hB2 G.B.cl G.B.n1 b1 ?_⟩
   refine ⟨pa2,_,rfl,.inl (SqL.of (s3 _ _ (wb.sb _ _ hpa2))),rfl,flat_nV _,_,rfl,?_⟩
   rw [inV_nV]
   by_cases hm:p∈(S.bd c).pl
   ·rw [decide_eq_true hm]
    have ej:i=j:=dis i hi j hj p (by rw [ek];exact hm) hp
    subst ej
    refine iteT ⟨_,rfl,h3,hN _ _ ⟨upd_same,same_upd s3 hD,?_⟩⟩
    rw [if_neg (Nat.lt_irrefl _),if_pos (Nat.lt_succ_self _)];rfl
   ·rw [decide_eq_false hm]
    have ej:i≠j:=fun z=>hm (by rw [←ek,z];exact hp)
    refine iteF (hN _ _ ⟨h3,s3,?_⟩)
    by_cases hji:j < i
    ·rw [if_pos hji,if_pos (by omega)]
    ·rw [if_neg hji,if_neg (by omega)]
  ·rintro ac H2 ⟨h2,s2,rfl⟩
   rw [List.length_map,if_pos (show j < (S.bd b).inn.length from hj)] at h2
   exact ⟨D,_,_,_,rfl,rfl,SqL.of h2,rfl,q _ s2⟩
def spJo (C:Cs):Sp:=fun vs H Q _=>∃ (A:Ad) (B:Hp) (S:Bl.St) (b:Nat) (k way:Int) (i:Nat),vs = [.ref b,.int k,.int way]∧Wb C A B H S∧(S.bd b).jt.length=Bl.cnt S b∧b∈S.ids∧i < Bl.cnt S b∧((way=1∧k % (Bl.cnt S b:Int)=i)∨(way = -1∧(k-1) % (Bl.cnt S b:Int)=i)) ∧
 ∀ t H',Same H H'→H' t=some (p2 (if way=1 then Bl.jnt S b i else Bl.sw (Bl.jnt S b i)))→Q (.ref t) H'
theorem scJo:FnScope ["ring","number","way","count","link"] ["ring","number","way"] (defScope sJo):=⟨rfl,rfl,rfl,by decide +kernel,rfl,by decide +kernel,by decide +kernel⟩
theorem okJo (G:Pg K mg C):FnOk P w K mg base CX0 1 G.dJo.f G.dJo.fd ["ring","number","way"] (spJo C):=by
 refine G.dJo.F.ok scJo (fun vs H Q E h=>?_) (fun cdv Ar outer s H vs Q E hr h=>?_)
 ·obtain ⟨_,_,_,_,_,_,_,rfl,_⟩:=h
  rfl
 ·obtain ⟨A,B,S,b,k,way,i,rfl,wb,ljt,hb,hi,hk,q⟩:=h
  obtain ⟨dx,pa,ia,ja,cv,hB,hpa,hia,⟨js,hja,pjs⟩,hcm⟩:=wb.bod b hb
  have hne:(S.bd b).inn ≠ []:=fun z=>by unfold Bl.cnt at hi;rw [z] at hi;exact absurd hi (Nat.not_lt_zero _)
  have ljs:js.length=Bl.cnt S b:=by rw [←ljt];exact Paired.length pjs
  have lin:(((S.bd b).inn.map V.ref).length:Int)=(Bl.cnt S b:Int):=by rw [List.length_map];rfl
  obtain ⟨t,ht⟩:∃ t,js[i]? = some t:=⟨_,List.getElem?_eq_getElem (show i < js.length by omega)⟩
  obtain ⟨x,hx,htx⟩:=pairedGetL pjs ht
  have ex:Bl.jnt S b i=x:=by unfold Bl.jnt;rw [List.getD_eq_getElem?_getD,hx];rfl
  have htH:H t=some (p2 x):=wb.sb _ _ htx
  have hat:∀ z:Int,z=(i:Int)→atI (js.map V.ref) z=some (.ref t):=fun z hz=>by rw [hz];exact atI_nat (by rw [List.getElem?_map,ht];rfl)
  have cp:(0:Int) < (Bl.cnt S b:Int):=by omega
  refine ⟨_,(pss_cons (ps_set (i:=3) scJo.nd rfl (by first | exact Or.inl rfl | exact Or.inr rfl) (pe_callB call_len_seq (by rfl) G.T.len PySem.boot_len (pa_cons (pe_fld (pv 0) rfl) pa_nil)))
   (pss_cons (ps_if (pt_cmpR op_eq (pv 2) pe_int (nomark _)) (pss_one (ps_ret (pe_ix ix_list (pe_fld (pv 0) rfl) (pe_op op_mod (pv 1) (pv 3)) (fun _ _=>rfl)))) pss_nil)
   (pss_cons (ps_set (i:=4) scJo.nd rfl (by first | exact Or.inl rfl | exact Or.inr rfl) (pe_ix ix_list (pe_fld (pv 0) rfl) (pe_op op_mod (pe_op op_sub (pv 1) pe_int) (pv 3)) (fun _ _=>rfl)))
   (pss_one (ps_ret (pe_tup (pa_cons (pe_ix ix_tup (pv 4) pe_int (fun _ _=>rfl)) (pa_cons (pe_ix ix_tup (pv 4) pe_int (fun _ _=>rfl)) pa_nil)))))))),?_⟩
  refine ⟨_,rfl,fld_at hB G.B.cl G.B.n3 b3 ?_⟩
  refine ⟨ia,_,rfl,.inl (SqL.of (wb.sb _ _ hia)),?_⟩
  rw [lin]
  refine ⟨_,rfl,rfl,_,rfl,?_⟩
  rw [int_dec]
  rcases hk with ⟨rfl,hk⟩ | ⟨rfl,hk⟩
  ·rw [decide_eq_true rfl]
   refine iteT ⟨_,rfl,fld_at hB G.B.cl G.B.n4 b4 ?_⟩
   refine ⟨_,rfl,_,rfl,_,_,rfl,rfl,cp,ja,_,_,_,rfl,rfl,SqL.of (wb.sb _ _ hja),hat _ hk,?_⟩
   exact q t H (Same.refl _) (by rw [if_pos rfl,ex];exact htH)
  ·rw [decide_eq_false (by decide)]
   refine iteF ⟨_,rfl,fld_at hB G.B.cl G.B.n4 b4 ?_⟩
   refine ⟨_,rfl,_,_,rfl,rfl,_,rfl,_,_,rfl,rfl,cp,ja,_,_,_,rfl,rfl,SqL.of (wb.sb _ _ hja),hat _ hk,?_⟩
   refine ⟨_,rfl,t,_,_,_,rfl,rfl,SqT.of htH,rfl,_,rfl,t,_,_,_,rfl,rfl,SqT.of htH,rfl,(by show 2≤sizeLine;decide),fun t2 ht2=>?_⟩
   exact q t2 _ (same_new ht2) (by rw [upd_same,if_neg (by decide),ex];rfl)
theorem scOu:FnScope ["self"] ["self"] (defScope sOu):=⟨rfl,rfl,rfl,by decide +kernel,rfl,by decide +kernel,by decide +kernel⟩
def spOu (C:Cs):Sp:=fun vs H Q _=>∃ (A:Ad) (B:Hp) (S:Bl.St),vs = [.ref A.w]∧Wb C A B H S∧Bl.Fo S ∧
 ∀ l bs H',Same H H'→H l=none→H' l=some (.lst (bs.map V.ref))→OmL S bs→Q (.ref l) H'
theorem okOu (G:Pg K mg C):FnOk P w K mg base CX0 1 G.dOu.f G.dOu.fd ["self"] (spOu C):=by
 refine G.dOu.F.ok scOu (fun vs H Q E h=>?_) (fun cdv Ar outer s H vs Q E hr h=>?_)
 ·obtain ⟨_,_,_,rfl,_⟩:=h
  rfl
 ·obtain ⟨A,B,S,rfl,wb,F,q⟩:=h
  have n40:=wb.n40
  refine ⟨_,(pss_one (ps_ret (pe_compG (xs:=["place","body"]) (compOkG (fr:=[])) rfl (pi_enum (by rfl) G.T.enumerate (pa_cons (pe_fld (pv 0) rfl) pa_nil)) (fun _ _ _=>(pg_tupK (K:=K) (n:=2) rfl (pgs_cons (pg_name (i:=0) (show List.Nodup (["place","body"]:List Str) by decide +kernel) rfl (Or.inl rfl) (.inr rfl)) (pgs_cons (pg_name (i:=1) (show List.Nodup (["place","body"]:List Str) by decide +kernel) rfl (Or.inl rfl) (.inr rfl)) pgs_nil)))) (fun _ _ _=>pts_one (pt_cmpR op_eq (pe_ix (ix_listK (K:=K)) (pe_fldK (K:=K) (pv 1) rfl) pe_int (fun _ _=>rfl)) (pv 0) (nomark _))) (fun _ _ _=>(pv 1))))),?_⟩
  refine ⟨_,rfl,fld_at (wb.sb _ _ wb.web) G.W.cl G.W.n3 w3 ?_⟩
  refine ⟨A.o,_,rfl,wb.ho,fun D hD=>compG_enum (xs:=lRef S.n S.out) (fun i ac H2=>H2 D=some (.lst ac)∧Same H H2∧ac=(omL S i).map V.ref) ⟨upd_same,same_new hD,rfl⟩ ?_ ?_ ?_⟩
  ·rintro i ac H2 hi ⟨h2,s2,rfl⟩
   unfold lRef at hi
   rw [lf_len] at hi
   have:=omL_len S i
   exact ⟨h2,small5 (by rw [List.length_map];omega),SqL.of (s2 _ _ wb.ho)⟩
  ·rintro i x ac H2 pt N hx hN ⟨h2,s2,rfl⟩ hpt
   have hi:i < S.n:=by
    have:=(List.getElem?_eq_some_iff.mp hx).1
    unfold lRef at this
    rwa [lf_len] at this
   unfold lRef at hx
   rw [lf_get hi] at hx
   cases hx
   have s3:=s2.trans (same_new (o:=.tup [.int (i:Int),.ref (S.out i)]) hpt)
   have h3:=same_new (o:=.tup [.int (i:Int),.ref (S.out i)]) hpt _ _ h2
   have hid:=(F.out i hi).1
   obtain ⟨dx2,pa2,ia2,ja2,cv2,hB2,hpa2,_⟩:=(wb.same s3).bod _ hid
   obtain ⟨f0,rest,e0⟩:=List.exists_cons_of_ne_nil (F.ne _ hid)
   have e0':(S.bd (S.out i)).pl=f0::rest:=e0
   refine ⟨pt,_,rfl,SqT.of upd_same,rfl,_,_,rfl,_,_,rfl,rfl,[some (.int (i:Int)),some (.ref (S.out i))],rfl,rfl,?_⟩
   refine ⟨_,rfl,fld_at hB2 G.B.cl G.B.n1 b1 ?_⟩
   refine ⟨pa2,_,_,_,rfl,rfl,SqL.of (s3 _ _ (wb.sb _ _ hpa2)),(show atI (nV (S.bd (S.out i)).pl) 0=some (.int (f0:Int)) by rw [e0'];exact nV_at0),_,rfl,rfl,_,rfl,?_⟩
   rw [int_dec]
   rw [omL_succ] at hN
   by_cases hf:f0=i
   ·rw [decide_eq_true (by rw [hf])]
    refine iteT ⟨_,rfl,h3,hN _ _ ⟨upd_same,same_upd s3 hD,?_⟩⟩
    rw [if_pos (by rw [e0,hf];rfl),List.map_append];rfl
   ·rw [decide_eq_false (fun z=>hf (by omega))]
    refine iteF (hN _ _ ⟨h3,s3,?_⟩)
    rw [if_neg (by rw [e0];exact fun z=>hf (Option.some.inj z)),List.append_nil]
  ·rintro ac H2 ⟨h2,s2,rfl⟩
   unfold lRef at h2
   rw [lf_len] at h2
   exact q D _ H2 s2 hD h2 (omL_ok F)
def spLi (C:Cs):Sp:=fun vs H Q _=>∃ (A:Ad) (B:Hp) (S:Bl.St) (b:Nat) (r:Int),vs = [.ref A.w,.ref b,.int r]∧Wb C A B H S∧Bl.Fo S∧b∈S.ids ∧
 ∀ H',Wb C A B H' (lift1 S b r)→Q .non H'
theorem scLi:FnScope ["self","body","rise","place"] ["self","body","rise"] (defScope sLi):=⟨rfl,rfl,rfl,by decide +kernel,rfl,by decide +kernel,by decide +kernel⟩
theorem okLi (G:Pg K mg C):FnOk P w K mg base CX0 1 G.dLi.f G.dLi.fd ["self","body","rise"] (spLi C):=by
 refine G.dLi.F.ok scLi (fun vs H Q E h=>?_) (fun cdv Ar outer s H vs Q E hr h=>?_)
 ·obtain ⟨_,_,_,_,_,rfl,_⟩:=h
  rfl
 ·obtain ⟨A,B,S,b,r,rfl,wb,F,hb,q⟩:=h
  obtain ⟨dx,pa,ia,ja,cv,hB,hpa,hia,hja,hcm⟩:=wb.bod b hb
  have pnd:=F.pnd b hb
  refine ⟨_,(pss_cons (ps_fldaug (pv 1) (pv 2) ip_add)
   (pss_one (ps_for PassesOwn.never rfl (pi_list (pe_fld (pv 1) rfl)) (pg_name (i:=3) scLi.nd rfl (by first | exact Or.inl rfl | exact Or.inr rfl)) (pss_one (ps_augS (pe_fld (pv 0) rfl) (pv 3) get_list (pv 2) ip_add set_list))))),?_⟩
  refine ⟨_,rfl,b,C.B,dx,_,_,rfl,hB,G.B.cl,G.B.n5,b5,_,rfl,_,_,rfl,rfl,dx,_,hB,bF_few,?_⟩
  rw [b_price]
  have wb1:Wb C A B (upd H b (.ins C.B dx (bF (.ref pa) (.int ((S.bd b).tip:Int)) (.ref ia) (.ref ja) (.int ((S.bd b).pr+r)) (.int (S.bd b).mark) cv))) { S with bd:=fun c=>if c=b then { S.bd c with pr:=(S.bd c).pr+r } else S.bd c } :=
   wb.setB (d:={ S.bd b with pr:=(S.bd b).pr+r }) hb (if_pos rfl) (fun c hc=>if_neg hc) rfl ⟨dx,pa,ia,ja,cv,upd_same,hpa,hia,hja,hcm⟩
  have hB1:upd H b (.ins C.B dx (bF (.ref pa) (.int ((S.bd b).tip:Int)) (.ref ia) (.ref ja) (.int ((S.bd b).pr+r)) (.int (S.bd b).mark) cv)) b=some (.ins C.B dx (bF (.ref pa) (.int ((S.bd b).tip:Int)) (.ref ia) (.ref ja) (.int ((S.bd b).pr+r)) (.int (S.bd b).mark) cv)):=upd_same
  generalize upd H b (.ins C.B dx (bF (.ref pa) (.int ((S.bd b).tip:Int)) (.ref ia) (.ref ja) (.int ((S.bd b).pr+r)) (.int (S.bd b).mark) cv))=H1 at *
  refine ⟨_,rfl,fld_at hB1 G.B.cl G.B.n1 b1 ?_⟩
  refine ⟨pa,rfl,⟨_,SqL.of (wb1.sb _ _ hpa)⟩,for_list (xs:=nV (S.bd b).pl) (fun k σ H2=>∃ (x3:Option V),σ = [some (.ref A.w),some (.ref b),some (.int r),x3]∧Wb C A B H2 { S with bd:=fun c=>if c=b then { S.bd c with pr:=(S.bd c).pr+r } else S.bd c,sm:=fun q=>if q∈(Bl.pl S b).take k then S.sm q+r else S.sm q }) ⟨_,rfl,?_⟩ ?_ ?_ ?_⟩
  ·have e:(fun q=>if q∈(Bl.pl S b).take 0 then S.sm q+r else S.sm q)=S.sm:=funext fun q=>if_neg (by rw [List.take_zero];exact List.not_mem_nil)
   rw [e];exact wb1
  ·rintro k σ H2 hk ⟨_,rfl,wb2⟩
   exact SqL.of (wb2.sb _ _ hpa)
  ·rintro k z σ H2 hz ⟨x3,rfl,wb2⟩
   unfold nV at hz
   rw [List.getElem?_map] at hz
   obtain ⟨p,hp,rfl⟩:=Option.map_eq_some_iff.mp hz
   have hpn:p < S.n:=F.lt b hb p (List.mem_of_getElem? hp)
   refine ⟨_,rfl,fld_at (wb2.sb _ _ wb2.web) G.W.cl G.W.n4 w4 ?_⟩
   refine ⟨_,rfl,A.s,_,_,_,rfl,rfl,SqL.of wb2.hs,lI_at hpn,_,rfl,_,_,rfl,rfl,A.s,_,_,_,rfl,rfl,wb2.hs,lf_ix hpn,?_⟩
   have wb3:=wb2.setS (x:=p) (v:=(if p∈(Bl.pl S b).take k then S.sm p+r else S.sm p)+r)
   refine ⟨_,rfl,?_⟩
   rw [←sm_step pnd hp]
   exact wb3
  ·rintro σ H2 ⟨x3,rfl,wb2⟩
   unfold nV at wb2
   rw [List.length_map] at wb2
   have e:(Bl.pl S b).take (S.bd b).pl.length=Bl.pl S b:=List.take_length
   rw [e] at wb2
   exact q _ wb2
def spLe (C:Cs) (k:Nat):Sp:=fun vs H Q _=>∃ (A:Ad) (B:Hp) (S:Bl.St) (b p:Nat),vs = [.ref A.w,.ref b,.int (p:Int)]∧Wb C A B H S∧Bl.Fo S∧b∈S.ids∧p∈Bl.pl S b∧(Bl.pl S b).length≤k ∧
 ∀ H' S',Bl.Lead S b p S'→Bl.Fo S'→Wb C A B H' S'→Q .non H'
theorem scLe:FnScope ["self","body","place","count","begin","number","link"] ["self","body","place"] (defScope sLe):=⟨rfl,rfl,rfl,by decide +kernel,rfl,by decide +kernel,by decide +kernel⟩
theorem okLe (G:Pg K mg C) (k:Nat):FnOk P w K mg base CX0 (k+2) G.dLe.f G.dLe.fd ["self","body","place"] (spLe C k):=by
 have GBn:FnOk P w K mg base CX0 1 G.dBn.f G.dBn.fd ["ring","place"] (spBn C):=okBn G
 have GTi:FnOk P w K mg base CX0 1 G.dTi.f G.dTi.fd ["self","one","other"] (spTi C):=okTi G
 induction k with
 | zero =>
  refine G.dLe.F.ok scLe (fun vs H Q E h=>?_) (fun cdv Ar outer s H vs Q E hr h=>?_)
  ·obtain ⟨_,_,_,_,_,rfl,_⟩:=h
   rfl
  ·obtain ⟨A,B,S,b,p,rfl,wb,F,hb,hp,hl,q⟩:=h
   exact absurd (List.length_eq_zero_iff.mp (Nat.le_zero.mp hl)) (F.ne b hb)
 | succ k ih =>
  have GLe:=ih
  refine G.dLe.F.ok scLe (fun vs H Q E h=>?_) (fun cdv Ar outer s H vs Q E hr h=>?_)
  ·obtain ⟨_,_,_,_,_,rfl,_⟩:=h
   rfl
  ·obtain ⟨A,B,S,b,p,rfl,wb,F,hb,hp,hl,q⟩:=h
   obtain ⟨dx,pa,ia,ja,cv,hB,hpa,hia,⟨js,hja,pjs⟩,hcm⟩:=wb.bod b hb
   have n40:=wb.n40
   have pn:=pl_len F hb
   refine ⟨_,(pss_cons (ps_fld (pv 1) (pv 2) rfl)
   (pss_cons (ps_if (pt_not (pt_truth (pe_fld (pv 1) rfl) (fun _=>rfl))) (pss_one ps_retN) pss_nil)
   (pss_cons (ps_set (i:=3) scLe.nd rfl (by first | exact Or.inl rfl | exact Or.inr rfl) (pe_callB call_len_seq (by rfl) G.T.len PySem.boot_len (pa_cons (pe_fld (pv 1) rfl) pa_nil)))
   (pss_cons (ps_set (i:=4) scLe.nd rfl (by first | exact Or.inl rfl | exact Or.inr rfl) (pe_call GBn (hr.mono (by omega)) (by rfl) G.dBn.m G.dBn.F.kp G.dBn.b .nil pass0 (pa_cons (pv 1) (pa_cons (pv 2) pa_nil))))
   (pss_cons (ps_expr (pe_meth (pv 0) G.W.cl G.dLe.m GLe (hr.mono (by omega)) G.dLe.b .nil pass0 (pa_cons (pe_ix ix_list (pe_fld (pv 1) rfl) (pv 4) (fun _ _=>rfl)) (pa_cons (pv 2) pa_nil))))
   (pss_one (ps_for PassesOwn.never rfl (pi_rangeS2 (by rfl) G.T.range (pa_cons (pe_op op_add (pv 4) pe_int) (pa_cons (pe_op op_add (pv 4) (pv 3)) (pa_cons pe_int pa_nil)))) (pg_name (i:=5) scLe.nd rfl (by first | exact Or.inl rfl | exact Or.inr rfl)) (pss_cons (ps_set (i:=6) scLe.nd rfl (by first | exact Or.inl rfl | exact Or.inr rfl) (pe_ix ix_list (pe_fld (pv 1) rfl) (pe_op op_mod (pv 5) (pv 3)) (fun _ _=>rfl)))
   (pss_cons (ps_expr (pe_meth (pv 0) G.W.cl G.dLe.m GLe (hr.mono (by omega)) G.dLe.b .nil pass0 (pa_cons (pe_ix ix_list (pe_fld (pv 1) rfl) (pe_op op_mod (pv 5) (pv 3)) (fun _ _=>rfl)) (pa_cons (pe_ix ix_tup (pv 6) pe_int (fun _ _=>rfl)) pa_nil))))
   (pss_cons (ps_expr (pe_meth (pv 0) G.W.cl G.dLe.m GLe (hr.mono (by omega)) G.dLe.b .nil pass0 (pa_cons (pe_ix ix_list (pe_fld (pv 1) rfl) (pe_op op_mod (pe_op op_add (pv 5) pe_int) (pv 3)) (fun _ _=>rfl)) (pa_cons (pe_ix ix_tup (pv 6) pe_int (fun _ _=>rfl)) pa_nil))))
   (pss_one (ps_expr (pe_meth (pv 0) G.W.cl G.dTi.m GTi (hr.mono (by omega)) G.dTi.b .nil pass0 (pa_cons (pe_ix ix_tup (pv 6) pe_int (fun _ _=>rfl)) (pa_cons (pe_ix ix_tup (pv 6) pe_int (fun _ _=>rfl)) pa_nil))))))))))))))),?_⟩
   refine ⟨_,rfl,_,rfl,b,C.B,dx,_,rfl,hB,G.B.cl,G.B.n2,bF_few,?_⟩
   rw [b_tip]
   have wb1:Wb C A B (upd H b (.ins C.B dx (bF (.ref pa) (.int (p:Int)) (.ref ia) (.ref ja) (.int (S.bd b).pr) (.int (S.bd b).mark) cv))) (Bl.tipS S b p) :=
    wb.setB (d:={ S.bd b with tip:=p }) hb (if_pos rfl) (fun c hc=>if_neg hc) rfl ⟨dx,pa,ia,ja,cv,upd_same,hpa,hia,⟨js,hja,pjs⟩,hcm⟩
   have hB1:upd H b (.ins C.B dx (bF (.ref pa) (.int (p:Int)) (.ref ia) (.ref ja) (.int (S.bd b).pr) (.int (S.bd b).mark) cv)) b=some (.ins C.B dx (bF (.ref pa) (.int (p:Int)) (.ref ia) (.ref ja) (.int (S.bd b).pr) (.int (S.bd b).mark) cv)):=upd_same
   generalize upd H b (.ins C.B dx (bF (.ref pa) (.int (p:Int)) (.ref ia) (.ref ja) (.int (S.bd b).pr) (.int (S.bd b).mark) cv))=H1 at *
   refine ⟨_,rfl,fld_at hB1 G.B.cl G.B.n3 b3 ?_⟩
   refine ⟨_,tru_lst (wb1.sb _ _ hia),?_⟩
   by_cases hr0:(S.bd b).inn = []
   ·rw [hr0]
    refine iteT (q _ _ (Bl.Lead.single F hb hr0 hp) ?_ wb1)
    refine (Bl.tipS_stat S b p).fo F fun c hc e=>?_
    by_cases ec:c=b
    ·obtain ⟨y,e1,e2⟩:=F.one b hb hr0
     rw [e1] at hp
     rw [ec,Bl.tipS_tip,e2,List.mem_singleton.mp hp]
    ·exact Bl.tipS_ne ec
   ·obtain ⟨c3,codd,ljt⟩:=F.odd b hb hr0
    have hc:0 < Bl.cnt S b:=by omega
    have c40:Bl.cnt S b≤40:=Nat.le_trans (cnt_len F hb) (Nat.le_trans pn n40)
    obtain ⟨i,hi,hpi⟩:=(F.mem b hb hr0 p).mp hp
    have F1:=Bl.tipS_fo (p:=p) F hr0
    have st:=Bl.tipS_stat S b p
    have smk:∀ j,j < Bl.cnt S b→(Bl.pl S (Bl.kid S b j)).length≤k:=fun j hj=>by have:=F.kless hb hj;omega
    have hb1:b∈(Bl.tipS S b p).ids:=by rw [st.ids];exact hb
    have ck:Bl.cnt (Bl.tipS S b p) b=Bl.cnt S b:=by unfold Bl.cnt;rw [st.inn]
    have kk:∀ j,Bl.kid (Bl.tipS S b p) b j=Bl.kid S b j:=fun j=>by unfold Bl.kid;rw [st.inn]
    have lin:(((S.bd b).inn.map V.ref).length:Int)=(Bl.cnt S b:Int):=by rw [List.length_map];rfl
    rw [show (!((S.bd b).inn.map V.ref).isEmpty)=true by
     cases e:(S.bd b).inn with
     | nil=>exact absurd e hr0
     | cons a l=>rfl]
    refine iteF ⟨_,rfl,fld_at hB1 G.B.cl G.B.n3 b3 ?_⟩
    refine ⟨ia,_,rfl,.inl (SqL.of (wb1.sb _ _ hia)),?_⟩
    rw [lin]
    refine ⟨_,rfl,_,rfl,A,B,_,b,p,i,rfl,wb1,(fun j hj=>F1.kin b hb1 j hj),(fun i hi j hj p h1 h2=>F1.dis b hb1 i hi j hj p h1 h2),hb1,(by rw [ck];exact c40),(by rw [ck];exact hi),(by rw [kk,st.pl];exact hpi),fun H2 s2=>?_⟩
    have wb2:=wb1.same s2
    refine ⟨_,rfl,A.w,A.dw,_,rfl,wb2.sb _ _ wb2.web,w_no (by decide +kernel) (by decide +kernel) (by decide +kernel) (by decide +kernel) (by decide +kernel),?_⟩
    refine ⟨_,rfl,fld_at (s2 _ _ hB1) G.B.cl G.B.n3 b3 ?_⟩
    refine ⟨_,rfl,ia,_,_,_,rfl,rfl,SqL.of (wb2.sb _ _ hia),at_kid hi rfl,?_⟩
    refine ⟨_,rfl,A,B,_,_,p,rfl,wb2,F1,(by rw [st.ids];exact F.kin b hb i hi),(by rw [st.pl];exact hpi),(by rw [st.pl];exact smk i hi),fun H3 S3 L3 F3 wb3=>?_⟩
    refine ⟨_,rfl,_,_,rfl,rfl,_,rfl,_,rfl,_,_,rfl,rfl,(i:Int)+1,(i:Int)+(Bl.cnt S b:Int),rfl,(by omega),(by omega),(by omega),?_⟩
    rw [show ((((i:Int)+(Bl.cnt S b:Int)-((i:Int)+1)+1) / 2).toNat)=(Bl.cnt S b-1) / 2 by omega]
    refine for_rangec (fun t σ H4=>∃ (x5 x6:Option V) (S4:Bl.St),σ = [some (.ref A.w),some (.ref b),some (.int (p:Int)),some (.int (Bl.cnt S b:Int)),some (.int (i:Int)),x5,x6]∧Wb C A B H4 S4∧Bl.LdL S b i p t S4) ⟨_,_,S3,rfl,wb3,Bl.LdL.start F hb hi L3 F3⟩ ?_ ?_
    ·rintro t σ H4 ht ⟨x5,x6,S4,rfl,wb4,L4⟩
     have FA:=L4.fo F
     have l1:=Nat.mod_lt (i+(2*t+1)) hc
     have l2:=Nat.mod_lt (i+(2*t+2)) hc
     obtain ⟨j1,j2⟩:=F.jin b hb _ l1
     rw [Nat.mod_add_mod,show i+(2*t+1)+1=i+(2*t+2) from rfl] at j2
     have m1:((i:Int)+1+(t:Int)*2) % (Bl.cnt S b:Int)=((((i+(2*t+1)) % Bl.cnt S b:Nat)):Int):=by
      rw [←modI];congr 1;omega
     have m2:((i:Int)+1+(t:Int)*2+1) % (Bl.cnt S b:Int)=((((i+(2*t+2)) % Bl.cnt S b:Nat)):Int):=by
      rw [←modI];congr 1;omega
     have cp:(0:Int) < (Bl.cnt S b:Int):=by omega
     have jnl:=tin_lt F hb l1
     have no:∀ f:Str,(f == "links")=false→(f == "singles")=false→(f == "outer")=false→(f == "sums")=false→(f == "mates")=false→(wF A).lookup f=none:=fun f h1 h2 h3 h4 h5=>w_no h1 h2 h3 h4 h5
     have kid4:∀ (T:Bl.St),Bl.Stat S T→∀ j,Bl.kid T b j=Bl.kid S b j:=fun T h j=>by unfold Bl.kid;rw [h.inn]
     have cnt4:∀ (T:Bl.St),Bl.Stat S T→Bl.cnt T b=Bl.cnt S b:=fun T h=>by unfold Bl.cnt;rw [h.inn]
     have jnt4:∀ (T:Bl.St),Bl.Stat S T→∀ j,Bl.jnt T b j=Bl.jnt S b j:=fun T h j=>by unfold Bl.jnt;rw [h.jt]
     obtain ⟨dx4,pa4,ia4,ja4,cv4,hB4,hpa4,hia4,⟨js4,hja4,pjs4⟩,_⟩:=wb4.bod b (by rw [L4.stat.ids];exact hb)
     obtain ⟨tl,htl,htl2⟩:=jl_at pjs4 (i:=(i+(2*t+1)) % Bl.cnt S b) (by rw [L4.stat.jt,ljt];exact l1)
     rw [jnt4 S4 L4.stat] at htl2
     refine ⟨_,rfl,fld_at hB4 G.B.cl G.B.n4 b4 ?_⟩
     refine ⟨_,rfl,_,rfl,_,_,rfl,rfl,cp,ja4,_,_,_,rfl,rfl,SqL.of (wb4.sb _ _ hja4),at_ref htl m1,?_⟩
     refine ⟨_,rfl,A.w,A.dw,_,rfl,wb4.sb _ _ wb4.web,no _ (by decide +kernel) (by decide +kernel) (by decide +kernel) (by decide +kernel) (by decide +kernel),?_⟩
     refine ⟨_,rfl,fld_at hB4 G.B.cl G.B.n3 b3 ?_⟩
     refine ⟨_,rfl,_,rfl,_,_,rfl,rfl,cp,ia4,_,_,_,rfl,rfl,SqL.of (wb4.sb _ _ hia4),at_kid (by rw [cnt4 S4 L4.stat];exact l1) m1,?_⟩
     refine ⟨_,rfl,tl,_,_,_,rfl,rfl,SqT.of (wb4.sb _ _ htl2),rfl,?_⟩
     refine ⟨A,B,S4,_,_,rfl,wb4,FA,(by rw [kid4 S4 L4.stat,L4.stat.ids];exact F.kin b hb _ l1),(by rw [kid4 S4 L4.stat,L4.stat.pl];exact j1),(by rw [kid4 S4 L4.stat,L4.stat.pl];exact smk _ l1),fun H5 S5 L5 F5 wb5=>?_⟩
     rw [kid4 S4 L4.stat] at L5
     have sB:=L4.stat.trans L5.stat
     obtain ⟨dx5,pa5,ia5,ja5,cv5,hB5,hpa5,hia5,_⟩:=wb5.bod b (by rw [sB.ids];exact hb)
     refine ⟨_,rfl,A.w,A.dw,_,rfl,wb5.sb _ _ wb5.web,no _ (by decide +kernel) (by decide +kernel) (by decide +kernel) (by decide +kernel) (by decide +kernel),?_⟩
     refine ⟨_,rfl,fld_at hB5 G.B.cl G.B.n3 b3 ?_⟩
     refine ⟨_,rfl,_,_,rfl,rfl,_,rfl,_,_,rfl,rfl,cp,ia5,_,_,_,rfl,rfl,SqL.of (wb5.sb _ _ hia5),at_kid (by rw [cnt4 S5 sB];exact l2) m2,?_⟩
     refine ⟨_,rfl,tl,_,_,_,rfl,rfl,SqT.of (wb5.sb _ _ htl2),rfl,?_⟩
     refine ⟨A,B,S5,_,_,rfl,wb5,F5,(by rw [kid4 S5 sB,sB.ids];exact F.kin b hb _ l2),(by rw [kid4 S5 sB,sB.pl];exact j2),(by rw [kid4 S5 sB,sB.pl];exact smk _ l2),fun H6 S6 L6 F6 wb6=>?_⟩
     rw [kid4 S5 sB] at L6
     have sC:=sB.trans L6.stat
     refine ⟨_,rfl,A.w,A.dw,_,rfl,wb6.sb _ _ wb6.web,no _ (by decide +kernel) (by decide +kernel) (by decide +kernel) (by decide +kernel) (by decide +kernel),?_⟩
     refine ⟨_,rfl,tl,_,_,_,rfl,rfl,SqT.of (wb6.sb _ _ htl2),rfl,?_⟩
     refine ⟨_,rfl,tl,_,_,_,rfl,rfl,SqT.of (wb6.sb _ _ htl2),rfl,?_⟩
     refine ⟨A,B,S6,_,_,rfl,wb6,(by rw [sC.n];exact jnl.1),(by rw [sC.n];exact jnl.2),fun H7 wb7=>?_⟩
     exact ⟨_,_,_,rfl,wb7,L4.step F hb hi hpi (by omega) L5 F5 L6 F6⟩
    ·rintro σ H4 ⟨x5,x6,S4,rfl,wb4,L4⟩
     exact q _ _ (L4.done F hb hi hpi (by omega)) (L4.fo F) wb4
end
end Rk08_the_largest_pairing
namespace Rk08_the_largest_pairing
open PySem L2 PyProof.Rows R K3 BW
open M21 (oN lI lO lI_at lO_at lf_ix lI_set while_m putF_few)
open De (lf lf_len lf_get)
section
variable {P:Program}{w:World}{K:PySem.W.Frag}{mg:Str→Option Value}{base:Heap}{C:Cs}
seal PA PE PS PSs PT PW
def spMo (C:Cs):Sp:=fun vs H Q _=>∃ (A:Ad) (B:Hp) (S:Bl.St) (b t:Nat) (x:Nat×Nat),vs = [.ref b,.ref t]∧Wb C A B H S∧b∈S.ids∧B t=some (p2 x) ∧
 ∀ H',Wb C A B H' (markS S b x)→Q .non H'
theorem scMo:FnScope ["body","came"] ["body","came"] (defScope sMo):=⟨rfl,rfl,rfl,by decide +kernel,rfl,by decide +kernel,by decide +kernel⟩
theorem okMo (G:Pg K mg C):FnOk P w K mg base CX0 1 G.dMo.f G.dMo.fd ["body","came"] (spMo C):=by
 refine G.dMo.F.ok scMo (fun vs H Q E h=>?_) (fun cdv Ar outer s H vs Q E hr h=>?_)
 ·obtain ⟨_,_,_,_,_,_,rfl,_⟩:=h
  rfl
 ·obtain ⟨A,B,S,b,t,x,rfl,wb,hb,ht,q⟩:=h
  obtain ⟨dx,pa,ia,ja,cv,hB,hpa,hia,hja,hcm⟩:=wb.bod b hb
  refine ⟨_,(pss_cons (ps_fld (pv 0) (pe_glob (v:=.int (-1)) (by rfl) G.gO ⟨_,rfl⟩) rfl)
   (pss_one (ps_fld (pv 0) (pv 1) rfl))),?_⟩
  refine ⟨_,rfl,b,C.B,dx,_,rfl,hB,G.B.cl,G.B.n6,bF_few,?_⟩
  rw [b_mark]
  have wb1:Wb C A B (upd H b (.ins C.B dx (bF (.ref pa) (.int ((S.bd b).tip:Int)) (.ref ia) (.ref ja) (.int (S.bd b).pr) (.int (-1)) cv))) { S with bd:=fun c=>if c=b then { S.bd c with mark:=-1 } else S.bd c } :=
   wb.setB (d:={ S.bd b with mark:=-1 }) hb (if_pos rfl) (fun c hc=>if_neg hc) rfl ⟨dx,pa,ia,ja,cv,upd_same,hpa,hia,hja,hcm⟩
  have hB1:upd H b (.ins C.B dx (bF (.ref pa) (.int ((S.bd b).tip:Int)) (.ref ia) (.ref ja) (.int (S.bd b).pr) (.int (-1)) cv)) b=some (.ins C.B dx (bF (.ref pa) (.int ((S.bd b).tip:Int)) (.ref ia) (.ref ja) (.int (S.bd b).pr) (.int (-1)) cv)):=upd_same
  generalize upd H b (.ins C.B dx (bF (.ref pa) (.int ((S.bd b).tip:Int)) (.ref ia) (.ref ja) (.int (S.bd b).pr) (.int (-1)) cv))=H1 at *
  refine ⟨_,rfl,_,rfl,b,C.B,dx,_,rfl,hB1,G.B.cl,G.B.n7,bF_few,?_⟩
  rw [b_came]
  refine q _ (Wb.eqv (wb1.setB (d:={ S.bd b with mark:=-1,cm:=some x }) (f:=(markS S b x).bd) hb (if_pos rfl) (fun c hc=>?_) ?_ ⟨dx,pa,ia,ja,.ref t,upd_same,hpa,hia,hja,t,rfl,ht⟩) rfl)
  ·show (if c=b then _ else _)=(if c=b then _ else _)
   rw [if_neg hc,if_neg hc]
  ·exact (congrArg Bl.Bd.pl (if_pos rfl:(if b=b then { S.bd b with mark:=-1 } else S.bd b) = { S.bd b with mark:=-1 })).symm
def spBt (C:Cs):Sp:=fun vs H Q _=>∃ (A:Ad) (B:Hp) (S:Bl.St),vs = [.ref A.w]∧Wb C A B H S∧Bl.Fo S∧Bl.Ma S ∧
 ∀ H' B',Same B B'→Wb C A B' H' (Bl.beginS S)→Q .non H'
theorem scBt:FnScope ["web","body"] ["web"] (defScope sBt):=⟨rfl,rfl,rfl,by decide +kernel,rfl,by decide +kernel,by decide +kernel⟩
abbrev bgB (S:Bl.St) (b:Nat):Bl.Bd:={ S.bd b with mark:=if S.mt (S.bd b).tip=none then 1 else 0,cm:=none }
theorem okBt (G:Pg K mg C):FnOk P w K mg base CX0 2 G.dBt.f G.dBt.fd ["web"] (spBt C):=by
 have GOu:FnOk P w K mg base CX0 1 G.dOu.f G.dOu.fd ["self"] (spOu C):=okOu G
 refine G.dBt.F.ok scBt (fun vs H Q E h=>?_) (fun cdv Ar outer s H vs Q E hr h=>?_)
 ·obtain ⟨_,_,_,rfl,_⟩:=h
  rfl
 ·obtain ⟨A,B,S,rfl,wb,F,M,q⟩:=h
  refine ⟨_,(pss_one (ps_for PassesOwn.never rfl (pi_list (pe_meth0 (pv 0) G.W.cl G.dOu.m GOu (hr.mono (by omega)) G.dOu.b .nil pass0)) (pg_name (i:=1) scBt.nd rfl (by first | exact Or.inl rfl | exact Or.inr rfl)) (pss_cons (ps_fld (pv 1) (pe_ifExp (pt_cmpR op_isN (pe_ix ix_list (pe_fld (pv 0) rfl) (pe_fld (pv 1) rfl) (fun _ _=>rfl)) pe_non (nomark _)) (pe_glob (v:=.int 1) (by rfl) G.gE ⟨_,rfl⟩) (pe_glob (v:=.int 0) (by rfl) G.gF ⟨_,rfl⟩)) rfl)
   (pss_one (ps_fld (pv 1) pe_non rfl))))),?_⟩
  refine ⟨_,rfl,A.w,A.dw,_,rfl,wb.sb _ _ wb.web,w_no (by decide +kernel) (by decide +kernel) (by decide +kernel) (by decide +kernel) (by decide +kernel),?_⟩
  refine ⟨A,B,S,rfl,wb,F,fun l bs H1 s1 hl hl1 ob=>?_⟩
  have wb1:=wb.same s1
  have wl:=wb1.addN hl hl1 s1 wb
  have sl:Same B (upd B l (.lst (bs.map V.ref))):=same_add wb1.sb hl1
  refine ⟨l,rfl,⟨_,SqL.of hl1⟩,for_list (xs:=bs.map V.ref) (fun k σ H2=>∃ (x1:Option V),σ = [some (.ref A.w),x1]∧Wb C A (upd B l (.lst (bs.map V.ref))) H2 { S with bd:=many S (bs.take k) (bgB S) }) ⟨_,rfl,?_⟩ ?_ ?_ ?_⟩
  ·rw [List.take_zero,many_nil];exact wl
  ·rintro k σ H2 hk ⟨_,rfl,wb2⟩
   exact SqL.of (wb2.sb _ _ upd_same)
  ·rintro k z σ H2 hz ⟨x1,rfl,wb2⟩
   rw [List.getElem?_map] at hz
   obtain ⟨b,hb,rfl⟩:=Option.map_eq_some_iff.mp hz
   have hom:=(ob.mem b).mp (List.mem_of_getElem? hb)
   have hid:=om_ids F hom
   have hnt:=take_fresh ob.nd hb
   obtain ⟨p,hp,eb⟩:=Bl.om_iff.mp hom
   have htip:(S.bd b).tip < S.n:=by rw [←eb];exact (F.tipout M hp).1
   obtain ⟨dx,pa,ia,ja,cv,hB,hpa,hia,hja,hcm⟩:=wb2.bod b hid
   have em:many S (bs.take k) (bgB S) b=S.bd b:=many_miss hnt
   rw [show ({ S with bd:=many S (bs.take k) (bgB S) }:Bl.St).bd b=S.bd b from em] at hB hpa hia hja hcm
   have fin:∀ (mk:Int),mk=(if S.mt (S.bd b).tip=none then 1 else 0)→Wb C A (upd B l (.lst (bs.map V.ref))) (upd (upd H2 b (.ins C.B dx (bF (.ref pa) (.int ((S.bd b).tip:Int)) (.ref ia) (.ref ja) (.int (S.bd b).pr) (.int mk) cv))) b (.ins C.B dx (bF (.ref pa) (.int ((S.bd b).tip:Int)) (.ref ia) (.ref ja) (.int (S.bd b).pr) (.int mk) .non))) { S with bd:=many S (bs.take (k+1)) (bgB S) }:=fun mk e=>by
    have w3:=wb2.setB (d:={ S.bd b with mark:=mk }) (f:=fun c=>if c=b then { S.bd b with mark:=mk } else many S (bs.take k) (bgB S) c) (o:=.ins C.B dx (bF (.ref pa) (.int ((S.bd b).tip:Int)) (.ref ia) (.ref ja) (.int (S.bd b).pr) (.int mk) cv)) hid (if_pos rfl) (fun c hc=>if_neg hc) (by rw [show ({ S with bd:=many S (bs.take k) (bgB S) }:Bl.St).bd b=S.bd b from em]) ⟨dx,pa,ia,ja,cv,upd_same,hpa,hia,hja,hcm⟩
    refine Wb.eqv (w3.setB (d:=bgB S b) (f:=many S (bs.take (k+1)) (bgB S)) (o:=.ins C.B dx (bF (.ref pa) (.int ((S.bd b).tip:Int)) (.ref ia) (.ref ja) (.int (S.bd b).pr) (.int mk) .non)) hid ?_ (fun c hc=>?_) ?_ ⟨dx,pa,ia,ja,.non,?_,hpa,hia,hja,rfl⟩) rfl
    ·rw [take_snoc hb];exact many_hit (List.mem_append_right _ (List.mem_singleton.mpr rfl))
    ·rw [take_snoc hb,←many_snoc]
     show (if c=b then _ else _)=(if c=b then _ else _)
     rw [if_neg hc,if_neg hc]
    ·exact (congrArg Bl.Bd.pl (if_pos rfl:(if b=b then { S.bd b with mark:=mk } else many S (bs.take k) (bgB S) b) = { S.bd b with mark:=mk })).symm
    ·rw [upd_same,e]
   refine ⟨_,rfl,fld_at (wb2.sb _ _ wb2.web) G.W.cl G.W.n5 w5 ?_⟩
   refine ⟨_,rfl,fld_at hB G.B.cl G.B.n2 b2 ?_⟩
   refine ⟨A.m,_,_,_,rfl,rfl,SqL.of wb2.hm,at_mt htip,rfl,_,rfl,?_⟩
   rw [isN_oN]
   cases hmt:S.mt (S.bd b).tip with
   | none =>
    refine iteT ⟨_,rfl,b,C.B,dx,_,rfl,hB,G.B.cl,G.B.n6,bF_few,?_⟩
    rw [b_mark]
    refine ⟨_,rfl,b,C.B,dx,_,rfl,upd_same,G.B.cl,G.B.n7,bF_few,?_⟩
    rw [b_came]
    exact ⟨_,rfl,fin 1 (by rw [if_pos hmt])⟩
   | some y =>
    refine iteF ⟨_,rfl,b,C.B,dx,_,rfl,hB,G.B.cl,G.B.n6,bF_few,?_⟩
    rw [b_mark]
    refine ⟨_,rfl,b,C.B,dx,_,rfl,upd_same,G.B.cl,G.B.n7,bF_few,?_⟩
    rw [b_came]
    exact ⟨_,rfl,fin 0 (by rw [if_neg (by rw [hmt];simp)])⟩
  ·rintro σ H2 ⟨x1,rfl,wb2⟩
   rw [List.length_map,List.take_length] at wb2
   refine q _ _ sl (Wb.eqv wb2 ?_)
   unfold Bl.beginS
   congr 1
   funext b
   by_cases hm:b∈bs
   ·rw [many_hit hm,if_pos ((ob.mem b).mp hm)]
   ·rw [many_miss hm,if_neg (fun z=>hm ((ob.mem b).mpr z))]
def spLa (C:Cs):Sp:=fun vs H Q _=>∃ (A:Ad) (B:Hp) (S:Bl.St) (r:Int),vs = [.ref A.w,.int r]∧Wb C A B H S∧Bl.Fo S∧(∀ b,Bl.om S b→(S.bd b).mark=1∨(S.bd b).mark=0∨(S.bd b).mark = -1) ∧
 ∀ H' B',Same B B'→Wb C A B' H' (Bl.liftS S r)→Q .non H'
theorem scLa:FnScope ["web","rise","body"] ["web","rise"] (defScope sLa):=⟨rfl,rfl,rfl,by decide +kernel,rfl,by decide +kernel,by decide +kernel⟩
theorem okLa (G:Pg K mg C):FnOk P w K mg base CX0 2 G.dLa.f G.dLa.fd ["web","rise"] (spLa C):=by
 have GOu:FnOk P w K mg base CX0 1 G.dOu.f G.dOu.fd ["self"] (spOu C):=okOu G
 have GLi:FnOk P w K mg base CX0 1 G.dLi.f G.dLi.fd ["self","body","rise"] (spLi C):=okLi G
 refine G.dLa.F.ok scLa (fun vs H Q E h=>?_) (fun cdv Ar outer s H vs Q E hr h=>?_)
 ·obtain ⟨_,_,_,_,rfl,_⟩:=h
  rfl
 ·obtain ⟨A,B,S,r,rfl,wb,F,mks,q⟩:=h
  refine ⟨_,(pss_cons (ps_if (pt_cmpR op_eq (pv 1) pe_int (nomark _)) (pss_one ps_retN) pss_nil)
   (pss_one (ps_for PassesOwn.never rfl (pi_list (pe_meth0 (pv 0) G.W.cl G.dOu.m GOu (hr.mono (by omega)) G.dOu.b .nil pass0)) (pg_name (i:=2) scLa.nd rfl (by first | exact Or.inl rfl | exact Or.inr rfl)) (pss_one (ps_if (pt_cmpR op_ne (pe_fld (pv 2) rfl) (pe_glob (v:=.int 0) (by rfl) G.gF ⟨_,rfl⟩) (nomark _)) (pss_one (ps_expr (pe_meth (pv 0) G.W.cl G.dLi.m GLi (hr.mono (by omega)) G.dLi.b .nil pass0 (pa_cons (pv 2) (pa_cons (pe_op op_mul (pe_fld (pv 2) rfl) (pv 1)) pa_nil))))) pss_nil))))),?_⟩
  refine ⟨_,rfl,rfl,_,rfl,?_⟩
  rw [int_dec]
  by_cases r0:r=0
  ·rw [decide_eq_true r0]
   exact iteT (q _ B (Same.refl _) (by rw [r0,Bl.lift_zero];exact wb))
  rw [decide_eq_false r0]
  refine iteF ⟨_,rfl,A.w,A.dw,_,rfl,wb.sb _ _ wb.web,w_no (by decide +kernel) (by decide +kernel) (by decide +kernel) (by decide +kernel) (by decide +kernel),?_⟩
  refine ⟨A,B,S,rfl,wb,F,fun l bs H1 s1 hl hl1 ob=>?_⟩
  have wl:=(wb.same s1).addN hl hl1 s1 wb
  have sl:Same B (upd B l (.lst (bs.map V.ref))):=same_add (wb.same s1).sb hl1
  refine ⟨l,rfl,⟨_,SqL.of hl1⟩,for_list (xs:=bs.map V.ref) (fun k σ H2=>∃ (x2:Option V),σ = [some (.ref A.w),some (.int r),x2]∧Wb C A (upd B l (.lst (bs.map V.ref))) H2 (liftK S r (bs.take k))) ⟨_,rfl,?_⟩ ?_ ?_ ?_⟩
  ·rw [List.take_zero,liftK_nil];exact wl
  ·rintro k σ H2 hk ⟨_,rfl,wb2⟩
   exact SqL.of (wb2.sb _ _ upd_same)
  ·rintro k z σ H2 hz ⟨x2,rfl,wb2⟩
   rw [List.getElem?_map] at hz
   obtain ⟨b,hb,rfl⟩:=Option.map_eq_some_iff.mp hz
   have hom:=(ob.mem b).mp (List.mem_of_getElem? hb)
   have hid:=om_ids F hom
   have hnt:=take_fresh ob.nd hb
   obtain ⟨dx,pa,ia,ja,cv,hB,_⟩:=wb2.bod b hid
   have em:(liftK S r (bs.take k)).bd b=S.bd b:=many_miss hnt
   rw [em] at hB
   refine ⟨_,rfl,fld_at hB G.B.cl G.B.n6 b6 ?_⟩
   refine ⟨rfl,_,rfl,?_⟩
   rw [int_dec]
   by_cases m0:(S.bd b).mark=0
   ·rw [decide_eq_true m0]
    exact iteF ⟨_,rfl,by rw [take_snoc hb,liftK_skip m0];exact wb2⟩
   ·rw [decide_eq_false m0]
    refine iteT ⟨_,rfl,A.w,A.dw,_,rfl,wb2.sb _ _ wb2.web,w_no (by decide +kernel) (by decide +kernel) (by decide +kernel) (by decide +kernel) (by decide +kernel),?_⟩
    refine ⟨_,rfl,_,rfl,fld_at hB G.B.cl G.B.n6 b6 ?_⟩
    refine ⟨_,rfl,_,_,rfl,rfl,.inl (by rcases mks b hom with z | z | z <;> rw [z] <;> exact ⟨by decide,by decide⟩),A,_,_,b,_,rfl,wb2,(liftK_sh S r _).fo F,hid,fun H3 wb3=>?_⟩
    exact ⟨_,rfl,by rw [take_snoc hb];exact liftK_step F hom hnt wb3⟩
  ·rintro σ H2 ⟨x2,rfl,wb2⟩
   rw [List.length_map,List.take_length] at wb2
   exact q _ _ sl (liftK_all ob wb2)
end
end Rk08_the_largest_pairing
namespace Rk08_the_largest_pairing
open PySem L2 PyProof.Rows R K3 BW
open M21 (oN lI lO lI_at lO_at lf_ix lI_set while_m putF_few)
open De (lf lf_len lf_get)
section
variable {P:Program}{w:World}{K:PySem.W.Frag}{mg:Str→Option Value}{base:Heap}{C:Cs}
seal PA PE PS PSs PT PW
def spGr (C:Cs):Sp:=fun vs H Q _=>∃ (A:Ad) (B:Hp) (S:Bl.St) (u v y:Nat),vs = [.ref A.w,.int (u:Int),.int (v:Int)]∧Wb C A B H S∧Bl.Fo S∧u < S.n∧v < S.n∧(S.bd (S.out v)).tip < S.n∧S.mt (S.bd (S.out v)).tip=some y∧y < S.n∧S.out y≠S.out v ∧
 ∀ H' B',Same B B'→Wb C A B' H' (Bl.growS S u v y)→Q .non H'
theorem scGr:FnScope ["web","ahead","place","body","behind"] ["web","ahead","place"] (defScope sGr):=⟨rfl,rfl,rfl,by decide +kernel,rfl,by decide +kernel,by decide +kernel⟩
theorem okGr (G:Pg K mg C):FnOk P w K mg base CX0 2 G.dGr.f G.dGr.fd ["web","ahead","place"] (spGr C):=by
 have GMo:FnOk P w K mg base CX0 1 G.dMo.f G.dMo.fd ["body","came"] (spMo C):=okMo G
 refine G.dGr.F.ok scGr (fun vs H Q E h=>?_) (fun cdv Ar outer s H vs Q E hr h=>?_)
 ·obtain ⟨_,_,_,_,_,_,rfl,_⟩:=h
  rfl
 ·obtain ⟨A,B,S,u,v,y,rfl,wb,F,hu,hv,ht,hmt,hy,ne,q⟩:=h
  have hid:=(F.out v hv).1
  have hiy:=(F.out y hy).1
  refine ⟨_,(pss_cons (ps_set (i:=3) scGr.nd rfl (by first | exact Or.inl rfl | exact Or.inr rfl) (pe_ix ix_list (pe_fld (pv 0) rfl) (pv 2) (fun _ _=>rfl)))
   (pss_cons (ps_expr (pe_call GMo (hr.mono (by omega)) (by rfl) G.dMo.m G.dMo.F.kp G.dMo.b .nil pass0 (pa_cons (pv 3) (pa_cons (pe_tup (pa_cons (pv 1) (pa_cons (pv 2) pa_nil))) pa_nil))))
   (pss_cons (ps_set (i:=4) scGr.nd rfl (by first | exact Or.inl rfl | exact Or.inr rfl) (pe_ix ix_list (pe_fld (pv 0) rfl) (pe_ix ix_list (pe_fld (pv 0) rfl) (pe_fld (pv 3) rfl) (fun _ _=>rfl)) (fun _ _=>rfl)))
   (pss_one (ps_fld (pv 4) (pe_glob (v:=.int 1) (by rfl) G.gE ⟨_,rfl⟩) rfl))))),?_⟩
  refine ⟨_,rfl,fld_at (wb.sb _ _ wb.web) G.W.cl G.W.n3 w3 ?_⟩
  refine ⟨_,rfl,A.o,_,_,_,rfl,rfl,SqL.of wb.ho,at_out hv,?_⟩
  refine ⟨_,rfl,_,rfl,_,rfl,(by show 2≤sizeLine;decide),fun t ht2=>?_⟩
  have s1:=same_new (o:=.tup [.int (u:Int),.int (v:Int)]) ht2
  have e1:upd H t (.tup [.int (u:Int),.int (v:Int)]) t=some (p2 (u,v)):=upd_same
  have wb1:=wb.same s1
  generalize upd H t (.tup [.int (u:Int),.int (v:Int)])=H1 at *
  have wb2:=wb1.addT e1
  have sl:=same_add wb1.sb e1
  refine ⟨A,_,S,_,t,(u,v),rfl,wb2,hid,upd_same,fun H2 wb3=>?_⟩
  refine ⟨_,rfl,fld_at (wb3.sb _ _ wb3.web) G.W.cl G.W.n3 w3 ?_⟩
  obtain ⟨dx,pa,ia,ja,cv,hB,_⟩:=wb3.bod _ hid
  have et:((markS S (S.out v) (u,v)).bd (S.out v)).tip=(S.bd (S.out v)).tip:=by rw [markS_hit]
  rw [et] at hB
  refine ⟨_,rfl,fld_at (wb3.sb _ _ wb3.web) G.W.cl G.W.n5 w5 ?_⟩
  refine ⟨_,rfl,fld_at hB G.B.cl G.B.n2 b2 ?_⟩
  refine ⟨A.m,_,_,_,rfl,rfl,SqL.of wb3.hm,at_mt (S:=markS S (S.out v) (u,v)) ht,?_⟩
  rw [show (markS S (S.out v) (u,v)).mt (S.bd (S.out v)).tip=some y from hmt]
  refine ⟨A.o,_,_,_,rfl,rfl,SqL.of wb3.ho,at_out (S:=markS S (S.out v) (u,v)) hy,?_⟩
  obtain ⟨dx2,pa2,ia2,ja2,cv2,hB2,hpa2,hia2,hja2,hcm2⟩:=wb3.bod _ hiy
  have ey:(markS S (S.out v) (u,v)).bd (S.out y)=S.bd (S.out y):=if_neg ne
  rw [ey] at hB2 hpa2 hia2 hja2 hcm2
  refine ⟨_,rfl,S.out y,C.B,dx2,_,rfl,hB2,G.B.cl,G.B.n6,bF_few,?_⟩
  rw [b_mark]
  refine q _ _ sl (Wb.eqv (wb3.setB (b:=S.out y) (d:={ S.bd (S.out y) with mark:=1 }) (f:=(Bl.growS S u v y).bd) hiy ?_ (fun c hc=>?_) ?_ ⟨dx2,pa2,ia2,ja2,cv2,upd_same,hpa2,hia2,hja2,hcm2⟩) rfl)
  ·rw [Bl.grow_bd,if_neg ne,if_pos rfl]
  ·rw [Bl.grow_bd]
   show _=if c=S.out v then _ else _
   by_cases e:c=S.out v
   ·rw [if_pos e,if_pos e]
   ·rw [if_neg e,if_neg e,if_neg hc]
  ·rw [ey]
def spSu (C:Cs):Sp:=fun vs H Q _=>∃ (A:Ad) (B:Hp) (S:Bl.St) (b:Nat),vs = [.ref A.w,.ref b]∧Wb C A B H S∧b∈S.ids∧(S.bd b).tip < S.n∧((S.bd b).mark = -1→(S.bd b).cm≠none) ∧
 ∀ v H',Same H H'→CmR H' v (stU S b)→(v = .non∨∃ t,v = .ref t∧H t=none)→Q v H'
theorem scSu:FnScope ["web","body"] ["web","body"] (defScope sSu):=⟨rfl,rfl,rfl,by decide +kernel,rfl,by decide +kernel,by decide +kernel⟩
theorem okSu (G:Pg K mg C):FnOk P w K mg base CX0 1 G.dSu.f G.dSu.fd ["web","body"] (spSu C):=by
 refine G.dSu.F.ok scSu (fun vs H Q E h=>?_) (fun cdv Ar outer s H vs Q E hr h=>?_)
 ·obtain ⟨_,_,_,_,rfl,_⟩:=h
  rfl
 ·obtain ⟨A,B,S,b,rfl,wb,hb,ht,hc,q⟩:=h
  obtain ⟨dx,pa,ia,ja,cv,hB,hpa,hia,hja,hcm⟩:=wb.bod b hb
  refine ⟨_,(pss_cons (ps_if (pt_cmpR op_eq (pe_fld (pv 1) rfl) (pe_glob (v:=.int (-1)) (by rfl) G.gO ⟨_,rfl⟩) (nomark _)) (pss_one (ps_ret (pe_tup (pa_cons (pe_ix ix_tup (pe_fld (pv 1) rfl) pe_int (fun _ _=>rfl)) (pa_cons (pe_ix ix_tup (pe_fld (pv 1) rfl) pe_int (fun _ _=>rfl)) pa_nil))))) pss_nil)
   (pss_cons (ps_if (pt_cmpR op_isN (pe_ix ix_list (pe_fld (pv 0) rfl) (pe_fld (pv 1) rfl) (fun _ _=>rfl)) pe_non (nomark _)) (pss_one (ps_ret pe_non)) pss_nil)
   (pss_one (ps_ret (pe_tup (pa_cons (pe_fld (pv 1) rfl) (pa_cons (pe_ix ix_list (pe_fld (pv 0) rfl) (pe_fld (pv 1) rfl) (fun _ _=>rfl)) pa_nil))))))),?_⟩
  refine ⟨_,rfl,fld_at hB G.B.cl G.B.n6 b6 ?_⟩
  refine ⟨rfl,_,rfl,?_⟩
  rw [int_dec]
  by_cases m:(S.bd b).mark = -1
  ·rw [decide_eq_true m]
   cases ec:(S.bd b).cm with
   | none=>exact absurd ec (hc m)
   | some x =>
    rw [ec] at hcm
    obtain ⟨t,rfl,htx⟩:=hcm
    have htH:=wb.sb _ _ htx
    refine iteT ⟨_,rfl,fld_at hB G.B.cl G.B.n7 b7 ?_⟩
    refine ⟨t,_,_,_,rfl,rfl,SqT.of htH,rfl,?_⟩
    refine ⟨_,rfl,fld_at hB G.B.cl G.B.n7 b7 ?_⟩
    refine ⟨t,_,_,_,rfl,rfl,SqT.of htH,rfl,(by show 2≤sizeLine;decide),fun t2 ht2=>?_⟩
    refine q _ _ (same_new ht2) ?_ (.inr ⟨t2,rfl,ht2⟩)
    unfold stU
    rw [if_pos m,ec]
    exact ⟨t2,rfl,upd_same⟩
  ·rw [decide_eq_false m]
   refine iteF ⟨_,rfl,fld_at (wb.sb _ _ wb.web) G.W.cl G.W.n5 w5 ?_⟩
   refine ⟨_,rfl,fld_at hB G.B.cl G.B.n2 b2 ?_⟩
   refine ⟨A.m,_,_,_,rfl,rfl,SqL.of wb.hm,at_mt ht,rfl,_,rfl,?_⟩
   rw [isN_oN]
   cases em:S.mt (S.bd b).tip with
   | none =>
    refine iteT (q _ _ (Same.refl _) ?_ (.inl rfl))
    unfold stU
    rw [if_neg m,em];rfl
   | some y =>
    refine iteF ⟨_,rfl,fld_at hB G.B.cl G.B.n2 b2 ?_⟩
    refine ⟨_,rfl,fld_at (wb.sb _ _ wb.web) G.W.cl G.W.n5 w5 ?_⟩
    refine ⟨_,rfl,fld_at hB G.B.cl G.B.n2 b2 ?_⟩
    refine ⟨A.m,_,_,_,rfl,rfl,SqL.of wb.hm,at_mt ht,?_⟩
    rw [em]
    refine ⟨(by show 2≤sizeLine;decide),fun t2 ht2=>?_⟩
    refine q _ _ (same_new ht2) ?_ (.inr ⟨t2,rfl,ht2⟩)
    unfold stU
    rw [if_neg m,em]
    exact ⟨t2,rfl,upd_same⟩
def spLr (C:Cs):Sp:=fun vs H Q _=>∃ (A:Ad) (B:Hp) (S:Bl.St) (rk:Nat→Nat) (u:Nat),vs = [.ref A.w,.int (u:Int)]∧Wb C A B H S∧Bl.Ok S rk∧u < S.n∧(S.bd (S.out u)).mark≠0 ∧
 ∀ l ps c H',Same H H'→H l=none→JL H' l ps→Bl.Pa S (S.out u) ps c→Bl.om S c→(S.bd c).mark=1→S.mt (S.bd c).tip=none→Q (.ref l) H'
theorem scLr:FnScope ["web","place","told","link"] ["web","place"] (defScope sLr):=⟨rfl,rfl,rfl,by decide +kernel,rfl,by decide +kernel,by decide +kernel⟩
theorem okLr (G:Pg K mg C):FnOk P w K mg base CX0 2 G.dLr.f G.dLr.fd ["web","place"] (spLr C):=by
 have GSu:FnOk P w K mg base CX0 1 G.dSu.f G.dSu.fd ["web","body"] (spSu C):=okSu G
 refine G.dLr.F.ok scLr (fun vs H Q E h=>?_) (fun cdv Ar outer s H vs Q E hr h=>?_)
 ·obtain ⟨_,_,_,_,_,rfl,_⟩:=h
  rfl
 ·obtain ⟨A,B,S,rk,u,rfl,wb,O,hu,hm,q⟩:=h
  have n40:=wb.n40
  have F:=O.fo
  refine ⟨_,(pss_cons (ps_set (i:=2) scLr.nd rfl (by first | exact Or.inl rfl | exact Or.inr rfl) (pe_lst pa_nil))
   (pss_cons (ps_set (i:=3) scLr.nd rfl (by first | exact Or.inl rfl | exact Or.inr rfl) (pe_call GSu (hr.mono (by omega)) (by rfl) G.dSu.m G.dSu.F.kp G.dSu.b .nil pass0 (pa_cons (pv 0) (pa_cons (pe_ix ix_list (pe_fld (pv 0) rfl) (pv 1) (fun _ _=>rfl)) pa_nil))))
   (pss_cons (ps_while PassesOwn.never (pt_cmpR op_notN (pv 3) pe_non (nomark _)) (pss_cons (ps_expr (pe_bm PySem.F.plainAttrs_list PySem.F.slot_list_append PySem.F.type_list_append mt_append (pv 2) (pa_cons (pv 3) pa_nil)))
   (pss_one (ps_set (i:=3) scLr.nd rfl (by first | exact Or.inl rfl | exact Or.inr rfl) (pe_call GSu (hr.mono (by omega)) (by rfl) G.dSu.m G.dSu.F.kp G.dSu.b .nil pass0 (pa_cons (pv 0) (pa_cons (pe_ix ix_list (pe_fld (pv 0) rfl) (pe_ix ix_tup (pv 3) pe_int (fun _ _=>rfl)) (fun _ _=>rfl)) pa_nil)))))))
   (pss_one (ps_ret (pv 2)))))),?_⟩
  refine ⟨Nat.zero_le _,fun l hl=>?_⟩
  have s1:=same_new (o:=.lst []) hl
  have wb1:=wb.same s1
  refine ⟨_,rfl,_,rfl,fld_at (wb1.sb _ _ wb1.web) G.W.cl G.W.n3 w3 ?_⟩
  refine ⟨_,rfl,A.o,_,_,_,rfl,rfl,SqL.of wb1.ho,at_out hu,?_⟩
  refine ⟨A,B,S,_,rfl,wb1,(F.out u hu).1,(om_tip F O.ma (om_out hu)).1,om_cm O (om_out hu),fun v H2 s2 cm _=>?_⟩
  have h2:H2 l=some (.lst []):=s2 _ _ upd_same
  refine while_m (fun n σ H3=>∃ (v:V) (js:List Addr) (ps:List (Nat×Nat)) (c:Nat),σ = [some (.ref A.w),some (.int (u:Int)),some (.ref l),some v]∧Same H H3∧H3 l=some (.lst (js.map V.ref))∧JLs H3 js ps∧Bl.Pa S (S.out u) ps c∧Bl.om S c∧(S.bd c).mark≠0∧n=rk c∧CmR H3 v (stU S c))
   (rk (S.out u)) ⟨v,[],[],_,rfl,s1.trans s2,h2,.nil,.nil,om_out hu,hm,rfl,cm⟩ ?_ ?_
  ·rintro n σ H3 ⟨v,js,ps,c,rfl,s3,h3,pj,pa,hc,mc,rfl,cm⟩
   cases es:stU S c with
   | none =>
    rw [es] at cm
    obtain rfl:v = .non:=cm
    obtain ⟨m1,m2⟩:=stU_none O hc mc es
    refine ⟨_,rfl,rfl,_,rfl,iteF ?_⟩
    exact ⟨_,rfl,q l ps c H3 s3 hl ⟨js,h3,pj⟩ pa hc m1 m2⟩
   | some x =>
    rw [es] at cm
    obtain ⟨t,rfl,htx⟩:=cm
    obtain ⟨pa1,x2n,xo,xm,xr⟩:=stU_some O hc mc es
    have lp:=pa_len O pa (om_out hu)
    have lj:js.length=ps.length:=Paired.length pj
    refine ⟨_,rfl,rfl,_,rfl,iteT ?_⟩
    refine ⟨_,rfl,.inl ⟨rfl,_,SqL.of h3⟩,_,rfl,l,_,_,rfl,rfl,h3,small5 (by rw [List.length_map];omega),?_⟩
    have nt:t≠l:=fun z=>by rw [z,h3] at htx;cases htx
    have ht4:upd H3 l (.lst (js.map V.ref ++ [.ref t])) t=some (p2 x):=by rw [upd_ne nt];exact htx
    have s4:Same H (upd H3 l (.lst (js.map V.ref ++ [.ref t]))):=same_upd s3 hl
    have pj4:JLs (upd H3 l (.lst (js.map V.ref ++ [.ref t]))) (js ++ [t]) (ps ++ [x]):=pairedApp (JLs.upd h3 pj) (.cons ht4 .nil)
    have h4:upd H3 l (.lst (js.map V.ref ++ [.ref t])) l=some (.lst ((js ++ [t]).map V.ref)):=by rw [upd_same,List.map_append];rfl
    generalize upd H3 l (.lst (js.map V.ref ++ [.ref t]))=H4 at *
    have wb4:=wb.same s4
    refine ⟨_,rfl,_,rfl,fld_at (wb4.sb _ _ wb4.web) G.W.cl G.W.n3 w3 ?_⟩
    refine ⟨_,rfl,t,_,_,_,rfl,rfl,SqT.of ht4,rfl,A.o,_,_,_,rfl,rfl,SqL.of wb4.ho,at_out x2n,?_⟩
    refine ⟨A,B,S,_,rfl,wb4,(F.out _ x2n).1,(om_tip F O.ma xo).1,om_cm O xo,fun v5 H5 s5 cm5 _=>?_⟩
    exact ⟨_,xr,v5,js ++ [t],ps ++ [x],_,rfl,s4.trans s5,s5 _ _ h4,pj4.same s5,pa.snoc pa1,xo,xm,rfl,cm5⟩
  ·intro σ H0 Q0 Q1 hq h
   obtain ⟨x,ex,e1,c,e2,h⟩:=h
   exact ⟨x,ex,e1,c,e2,hq _ _ h⟩
def spRo (C:Cs):Sp:=fun vs H Q _=>∃ (A:Ad) (B:Hp) (S:Bl.St) (u l:Nat) (ps:List (Nat×Nat)) (c:Nat),vs = [.ref A.w,.int (u:Int),.ref l]∧Wb C A B H S∧u < S.n∧JL H l ps∧Bl.Cn S (S.out u) ps c∧(∀ x∈ps,x.2 < S.n)∧Q (.ref c) H
theorem scRo:FnScope ["web","place","way"] ["web","place","way"] (defScope sRo):=⟨rfl,rfl,rfl,by decide +kernel,rfl,by decide +kernel,by decide +kernel⟩
theorem okRo (G:Pg K mg C):FnOk P w K mg base CX0 1 G.dRo.f G.dRo.fd ["web","place","way"] (spRo C):=by
 refine G.dRo.F.ok scRo (fun vs H Q E h=>?_) (fun cdv Ar outer s H vs Q E hr h=>?_)
 ·obtain ⟨_,_,_,_,_,_,_,rfl,_⟩:=h
  rfl
 ·obtain ⟨A,B,S,u,l,ps,c,rfl,wb,hu,⟨js,hl,pj⟩,cn,lt,q⟩:=h
  refine ⟨_,(pss_one (ps_ret (pe_ifExp (pt_truth (pv 2) (fun _=>rfl)) (pe_ix ix_list (pe_fld (pv 0) rfl) (pe_ix ix_tup (pe_ix ix_list (pv 2) (pe_un un_neg pe_int) (fun _ _=>rfl)) pe_int (fun _ _=>rfl)) (fun _ _=>rfl)) (pe_ix ix_list (pe_fld (pv 0) rfl) (pv 1) (fun _ _=>rfl))))),?_⟩
  refine ⟨_,rfl,_,tru_lst hl,?_⟩
  rcases List.eq_nil_or_concat ps with rfl | ⟨ps0,x,rfl⟩
  ·cases pj
   refine iteF ⟨_,rfl,fld_at (wb.sb _ _ wb.web) G.W.cl G.W.n3 w3 ?_⟩
   refine ⟨_,rfl,A.o,_,_,_,rfl,rfl,SqL.of wb.ho,at_out hu,?_⟩
   obtain rfl:S.out u=c:=cn
   exact q
  ·rw [List.concat_eq_append] at *
   obtain ⟨js0,t,rfl,_,ht⟩:=pj.last
   rw [show (!(List.map V.ref (js0 ++ [t])).isEmpty)=true by cases js0 <;> rfl]
   refine iteT ⟨_,rfl,fld_at (wb.sb _ _ wb.web) G.W.cl G.W.n3 w3 ?_⟩
   refine ⟨_,rfl,_,rfl,l,_,_,_,rfl,rfl,SqL.of hl,(by rw [List.map_append];exact atI_last _ _),t,_,_,_,rfl,rfl,SqT.of ht,rfl,?_⟩
   refine ⟨A.o,_,_,_,rfl,rfl,SqL.of wb.ho,at_out (lt x (List.mem_append_right _ (List.mem_singleton.mpr rfl))),?_⟩
   rw [cn_last cn]
   exact q
end
end Rk08_the_largest_pairing
namespace Rk08_the_largest_pairing
open PySem L2 PyProof.Rows R K3 BW
open M21 (oN lI lO lI_at lO_at lf_ix lI_set while_m putF_few)
open De (lf lf_len lf_get)
section
variable {P:Program}{w:World}{K:PySem.W.Frag}{mg:Str→Option Value}{base:Heap}{C:Cs}
seal PA PE PS PSs PT PW
theorem noW {A:Ad} (f:Str) (h1:(f == "links")=false) (h2:(f == "singles")=false) (h3:(f == "outer")=false) (h4:(f == "sums")=false) (h5:(f == "mates")=false):(wF A).lookup f=none:=w_no h1 h2 h3 h4 h5
theorem noLe {A:Ad}:(wF A).lookup ("lead_out":Str)=none:=noW _ (by decide +kernel) (by decide +kernel) (by decide +kernel) (by decide +kernel) (by decide +kernel)
theorem noTi {A:Ad}:(wF A).lookup ("tie":Str)=none:=noW _ (by decide +kernel) (by decide +kernel) (by decide +kernel) (by decide +kernel) (by decide +kernel)
theorem noPu {A:Ad}:(wF A).lookup ("put_together":Str)=none:=noW _ (by decide +kernel) (by decide +kernel) (by decide +kernel) (by decide +kernel) (by decide +kernel)
theorem noTa {A:Ad}:(wF A).lookup ("take_apart":Str)=none:=noW _ (by decide +kernel) (by decide +kernel) (by decide +kernel) (by decide +kernel) (by decide +kernel)
theorem noOu {A:Ad}:(wF A).lookup ("outermost":Str)=none:=noW _ (by decide +kernel) (by decide +kernel) (by decide +kernel) (by decide +kernel) (by decide +kernel)
def spCp (C:Cs):Sp:=fun vs H Q _=>∃ (A:Ad) (B:Hp) (S S0:Bl.St) (rk:Nat→Nat) (X:Nat→Prop) (r u:Nat),vs = [.ref A.w,.int (u:Int)]∧Wb C A B H S0∧Bl.Ok S rk∧Bl.Stat S S0∧Bl.Ho S X S0∧(∀ p,p < S.n→Bl.Te S r (S.out p)→¬ X (S.out p))∧(∀ p,p < S.n→Bl.Te S r (S.out p)→Bl.Un S S0 (S.out p)) ∧
 u < S.n∧(S.bd (S.out u)).mark=1∧Bl.Up S (S.out u) r ∧
 ∀ H' S',Bl.Ch S rk X r u S0 none S'→Wb C A B H' S'→Q .non H'
theorem scCp:FnScope ["web","place","body","left","odd","link"] ["web","place"] (defScope sCp):=⟨rfl,rfl,rfl,by decide +kernel,rfl,by decide +kernel,by decide +kernel⟩
theorem okCp (G:Pg K mg C):FnOk P w K mg base CX0 43 G.dCp.f G.dCp.fd ["web","place"] (spCp C):=by
 have GLe:FnOk P w K mg base CX0 42 G.dLe.f G.dLe.fd ["self","body","place"] (spLe C 40):=okLe G 40
 have GTi:FnOk P w K mg base CX0 1 G.dTi.f G.dTi.fd ["self","one","other"] (spTi C):=okTi G
 refine G.dCp.F.ok scCp (fun vs H Q E h=>?_) (fun cdv Ar outer s H vs Q E hr h=>?_)
 ·obtain ⟨_,_,_,_,_,_,_,_,rfl,_⟩:=h
  rfl
 ·obtain ⟨A,B,S,S0,rk,X,r,u,rfl,wb,O,st0,Hx,hX,hU,hu,he,hup,q⟩:=h
  have F:=O.fo
  have F0:=Hx.fo
  have n40:S.n≤40:=by rw [←st0.n];exact wb.n40
  have oS:∀ {T:Bl.St},Bl.Stat S T→∀ {H:Hp},Wb C A B H T→∀ {p:Nat},p < S.n→atI (lRef T.n T.out) (p:Int)=some (.ref (S.out p)):=fun st _ _ _ hp=>by rw [at_out (by rw [st.n];exact hp),st.out]
  have hid:S.out u∈S0.ids:=by rw [st0.ids];exact (F.out u hu).1
  have htip:(S0.bd (S.out u)).tip < S0.n:=by rw [st0.n];exact F.lt _ (F.out u hu).1 _ (Hx.tipin hu)
  have lpl:∀ {T:Bl.St},Bl.Stat S T→∀ {p:Nat},p < S.n→(Bl.pl T (S.out p)).length≤40:=fun {T} st {p} hp=>by
   rw [st.pl]
   exact Nat.le_trans (pl_len F (F.out p hp).1) n40
  refine ⟨_,(pss_cons (ps_set (i:=2) scCp.nd rfl (by first | exact Or.inl rfl | exact Or.inr rfl) (pe_ix ix_list (pe_fld (pv 0) rfl) (pv 1) (fun _ _=>rfl)))
   (pss_cons (ps_set (i:=3) scCp.nd rfl (by first | exact Or.inl rfl | exact Or.inr rfl) (pe_ix ix_list (pe_fld (pv 0) rfl) (pe_fld (pv 2) rfl) (fun _ _=>rfl)))
   (pss_cons (ps_expr (pe_meth (pv 0) G.W.cl G.dLe.m GLe (hr.mono (by omega)) G.dLe.b .nil pass0 (pa_cons (pv 2) (pa_cons (pv 1) pa_nil))))
   (pss_one (ps_while PassesOwn.never (pt_cmpR op_notN (pv 3) pe_non (nomark _)) (pss_cons (ps_set (i:=4) scCp.nd rfl (by first | exact Or.inl rfl | exact Or.inr rfl) (pe_ix ix_list (pe_fld (pv 0) rfl) (pv 3) (fun _ _=>rfl)))
   (pss_cons (ps_set (i:=5) scCp.nd rfl (by first | exact Or.inl rfl | exact Or.inr rfl) (pe_fld (pv 4) rfl))
   (pss_cons (ps_set (i:=2) scCp.nd rfl (by first | exact Or.inl rfl | exact Or.inr rfl) (pe_ix ix_list (pe_fld (pv 0) rfl) (pe_ix ix_tup (pv 5) pe_int (fun _ _=>rfl)) (fun _ _=>rfl)))
   (pss_cons (ps_set (i:=3) scCp.nd rfl (by first | exact Or.inl rfl | exact Or.inr rfl) (pe_ix ix_list (pe_fld (pv 0) rfl) (pe_fld (pv 2) rfl) (fun _ _=>rfl)))
   (pss_cons (ps_expr (pe_meth (pv 0) G.W.cl G.dLe.m GLe (hr.mono (by omega)) G.dLe.b .nil pass0 (pa_cons (pv 2) (pa_cons (pe_ix ix_tup (pv 5) pe_int (fun _ _=>rfl)) pa_nil))))
   (pss_cons (ps_expr (pe_meth (pv 0) G.W.cl G.dLe.m GLe (hr.mono (by omega)) G.dLe.b .nil pass0 (pa_cons (pv 4) (pa_cons (pe_ix ix_tup (pv 5) pe_int (fun _ _=>rfl)) pa_nil))))
   (pss_one (ps_expr (pe_meth (pv 0) G.W.cl G.dTi.m GTi (hr.mono (by omega)) G.dTi.b .nil pass0 (pa_cons (pe_ix ix_tup (pv 5) pe_int (fun _ _=>rfl)) (pa_cons (pe_ix ix_tup (pv 5) pe_int (fun _ _=>rfl)) pa_nil)))))))))))))))),?_⟩
  refine ⟨_,rfl,fld_at (wb.sb _ _ wb.web) G.W.cl G.W.n3 w3 ?_⟩
  refine ⟨_,rfl,A.o,_,_,_,rfl,rfl,SqL.of wb.ho,oS st0 wb hu,?_⟩
  obtain ⟨dx,pa,ia,ja,cv,hB,_⟩:=wb.bod _ hid
  refine ⟨_,rfl,fld_at (wb.sb _ _ wb.web) G.W.cl G.W.n5 w5 ?_⟩
  refine ⟨_,rfl,fld_at hB G.B.cl G.B.n2 b2 ?_⟩
  refine ⟨A.m,_,_,_,rfl,rfl,SqL.of wb.hm,at_mt htip,?_⟩
  refine ⟨_,rfl,A.w,A.dw,_,rfl,wb.sb _ _ wb.web,noLe,_,rfl,_,rfl,?_⟩
  refine ⟨A,B,S0,_,u,rfl,wb,F0,hid,(by rw [st0.pl];exact (F.out u hu).2),lpl st0 hu,fun H1 S1 L1 F1 wb1=>?_⟩
  have C1:=Bl.Ch.start O st0 Hx hX hU hu he hup L1 F1
  refine while_m (fun n σ H2=>∃ (left:Option Nat) (S2:Bl.St) (x2 x4 x5:Option V),σ = [some (.ref A.w),some (.int (u:Int)),x2,some (oN left),x4,x5]∧Wb C A B H2 S2∧Bl.Ch S rk X r u S0 left S2∧n=lm rk S left)
   _ ⟨_,S1,_,_,_,rfl,wb1,C1,rfl⟩ ?_ ?_
  ·rintro n σ H2 ⟨left,S2,x2,x4,x5,rfl,wb2,C2,rfl⟩
   cases left with
   | none =>
    refine ⟨_,rfl,rfl,_,rfl,iteF ?_⟩
    exact q _ _ C2 wb2
   | some l =>
    refine ⟨_,rfl,rfl,_,rfl,iteT ?_⟩
    obtain ⟨hl,ml,tl,rl⟩:=C2.nx l rfl
    obtain ⟨a,e,hc,ha,he',oe,ma,_,ra⟩:=O.tr.odd l hl ml
    have s2:=C2.ho.st
    have F2:=C2.ho.fo
    have ido:S.out l∈S2.ids:=by rw [s2.ids];exact (F.out l hl).1
    have ida:S.out a∈S2.ids:=by rw [s2.ids];exact (F.out a ha).1
    obtain ⟨dxl,pal,ial,jal,cvl,hBl,_,_,_,hcml⟩:=wb2.bod _ ido
    rw [s2.cm,hc] at hcml
    obtain ⟨t,rfl,ht⟩:=hcml
    have htH:=wb2.sb _ _ ht
    obtain ⟨dxa,paa,iaa,jaa,cva,hBa,_⟩:=wb2.bod _ ida
    have htipa:(S2.bd (S.out a)).tip < S2.n:=by rw [s2.n];exact F.lt _ (F.out a ha).1 _ (C2.ho.tipin ha)
    refine ⟨_,rfl,fld_at (wb2.sb _ _ wb2.web) G.W.cl G.W.n3 w3 ?_⟩
    refine ⟨_,rfl,A.o,_,_,_,rfl,rfl,SqL.of wb2.ho,oS s2 wb2 hl,?_⟩
    refine ⟨_,rfl,fld_at hBl G.B.cl G.B.n7 b7 ?_⟩
    refine ⟨_,rfl,fld_at (wb2.sb _ _ wb2.web) G.W.cl G.W.n3 w3 ?_⟩
    refine ⟨_,rfl,t,_,_,_,rfl,rfl,SqT.of htH,rfl,A.o,_,_,_,rfl,rfl,SqL.of wb2.ho,oS s2 wb2 ha,?_⟩
    refine ⟨_,rfl,fld_at (wb2.sb _ _ wb2.web) G.W.cl G.W.n5 w5 ?_⟩
    refine ⟨_,rfl,fld_at hBa G.B.cl G.B.n2 b2 ?_⟩
    refine ⟨A.m,_,_,_,rfl,rfl,SqL.of wb2.hm,at_mt htipa,?_⟩
    refine ⟨_,rfl,A.w,A.dw,_,rfl,wb2.sb _ _ wb2.web,noLe,_,rfl,_,rfl,t,_,_,_,rfl,rfl,SqT.of htH,rfl,?_⟩
    refine ⟨A,B,S2,_,a,rfl,wb2,F2,ida,(by rw [s2.pl];exact (F.out a ha).2),lpl s2 ha,fun H3 S3 L3 F3 wb3=>?_⟩
    have s3:=s2.trans L3.stat
    refine ⟨_,rfl,A.w,A.dw,_,rfl,wb3.sb _ _ wb3.web,noLe,_,rfl,_,rfl,t,_,_,_,rfl,rfl,SqT.of (wb3.sb _ _ ht),rfl,?_⟩
    refine ⟨A,B,S3,_,e,rfl,wb3,F3,(by rw [s3.ids];exact (F.out l hl).1),(by rw [s3.pl,←oe];exact (F.out e he').2),lpl s3 hl,fun H4 S4 L4 F4 wb4=>?_⟩
    have s4:=s3.trans L4.stat
    refine ⟨_,rfl,A.w,A.dw,_,rfl,wb4.sb _ _ wb4.web,noTi,_,rfl,t,_,_,_,rfl,rfl,SqT.of (wb4.sb _ _ ht),rfl,_,rfl,t,_,_,_,rfl,rfl,SqT.of (wb4.sb _ _ ht),rfl,?_⟩
    refine ⟨A,B,S4,a,e,rfl,wb4,(by rw [s4.n];exact ha),(by rw [s4.n];exact he'),fun H5 wb5=>?_⟩
    obtain ⟨_,_,C5⟩:=C2.step O hX hu hc st0 L3 F3 L4 F4
    refine ⟨_,?_,_,_,_,_,_,rfl,wb5,C5,rfl⟩
    cases el:S2.mt (S2.bd (S.out a)).tip with
    | none=>exact Nat.succ_pos _
    | some l'=>exact Nat.succ_lt_succ (ch_fall O C2 hc el)
  ·intro σ H0 Q0 Q1 hq h
   obtain ⟨x,ex,e1,c,e2,h⟩:=h
   exact ⟨x,ex,e1,c,e2,hq _ _ h⟩
end
end Rk08_the_largest_pairing
namespace Rk08_the_largest_pairing
open PySem L2 PyProof.Rows R K3 BW
open M21 (oN lI lO lI_at lO_at lf_ix lI_set while_m putF_few)
open De (lf lf_len lf_get)
section
variable {P:Program}{w:World}{K:PySem.W.Frag}{mg:Str→Option Value}{base:Heap}{C:Cs}
seal PA PE PS PSs PT PW
def spBi (C:Cs):Sp:=fun vs H Q _=>∃ (x dx a ia ja:Addr) (t:Nat) (ps inn:List Nat) (js:List Addr),vs = [.ref x,.ref a,.int (t:Int),.ref ia,.ref ja]∧H x=some (.ins C.B dx [])∧H a=some (.lst (nV ps))∧ps.length≤40∧H ia=some (.lst (inn.map V.ref))∧H ja=some (.lst (js.map V.ref)) ∧
 ∀ p1 i1 j1 qs H',But x H H'→H p1=none→H i1=none→H j1=none→qs.Perm ps→H' x=some (.ins C.B dx (bF (.ref p1) (.int (t:Int)) (.ref i1) (.ref j1) (.int 0) (.int 0) .non))→H' p1=some (.lst (nV qs))→H' i1=some (.lst (inn.map V.ref))→H' j1=some (.lst (js.map V.ref))→Q .non H'
theorem scBi:FnScope ["self","places","tip","inner","joints"] ["self","places","tip","inner","joints"] (defScope sBi):=⟨rfl,rfl,rfl,by decide +kernel,rfl,by decide +kernel,by decide +kernel⟩
theorem okBi (G:Pg K mg C):FnOk P w K mg base CX0 1 G.dBi.f G.dBi.fd ["self","places","tip","inner","joints"] (spBi C):=by
 refine G.dBi.F.ok scBi (fun vs H Q E h=>?_) (fun cdv Ar outer s H vs Q E hr h=>?_)
 ·obtain ⟨_,_,_,_,_,_,_,_,_,rfl,_⟩:=h
  rfl
 ·obtain ⟨x,dx,a,ia,ja,t,ps,inn,js,rfl,hx,ha,lp,hia,hja,q⟩:=h
  have nia:ia≠x:=fun z=>by rw [z,hx] at hia;cases hia
  have nja:ja≠x:=fun z=>by rw [z,hx] at hja;cases hja
  refine ⟨_,(pss_cons (ps_fld (pv 0) (pe_callB call_sortedI (by rfl) G.T.sorted boot_sorted (pa_cons (pv 1) pa_nil)) rfl)
   (pss_cons (ps_fld (pv 0) (pv 2) rfl)
   (pss_cons (ps_fld (pv 0) (pe_callTy call_list_of (by rfl) G.T.t_list boot_list (pa_cons (pv 3) pa_nil)) rfl)
   (pss_cons (ps_fld (pv 0) (pe_callTy call_list_of (by rfl) G.T.t_list boot_list (pa_cons (pv 4) pa_nil)) rfl)
   (pss_cons (ps_fld (pv 0) pe_int rfl)
   (pss_cons (ps_fld (pv 0) (pe_glob (v:=.int 0) (by rfl) G.gF ⟨_,rfl⟩) rfl)
   (pss_one (ps_fld (pv 0) pe_non rfl)))))))),?_⟩
  refine ⟨_,rfl,a,_,rfl,SqL.of (by rw [←nV_int];exact ha),(by rw [List.length_map];omega),fun p1 ns hp1 hperm _=>?_⟩
  obtain ⟨qs,rfl,hq⟩:=perm_nat hperm
  rw [←nV_int]
  have s1:=same_new (o:=.lst (nV qs)) hp1
  have x1:=s1 _ _ hx
  have e1:upd H p1 (.lst (nV qs)) p1=some (.lst (nV qs)):=upd_same
  have n1:p1≠x:=fun z=>by rw [z,hx] at hp1;cases hp1
  have k1:But x H (upd H p1 (.lst (nV qs))):=fun b o e _=>s1 _ _ e
  generalize upd H p1 (.lst (nV qs))=H1 at *
  refine ⟨_,rfl,x,C.B,dx,_,rfl,x1,G.B.cl,G.B.n1,(by show 0 < 1000;decide),?_⟩
  refine ⟨_,rfl,_,rfl,x,C.B,dx,_,rfl,upd_same,G.B.cl,G.B.n2,Nat.lt_of_le_of_lt (putF_few _ _ _) (by show 1 < 1000;decide),?_⟩
  have x3:upd (upd H1 x (.ins C.B dx (putF "places" (.ref p1) []))) x (.ins C.B dx (putF "tip" (.int (t:Int)) (putF "places" (.ref p1) []))) x=some (.ins C.B dx (putF "tip" (.int (t:Int)) (putF "places" (.ref p1) []))):=upd_same
  have k3:But x H (upd (upd H1 x (.ins C.B dx (putF "places" (.ref p1) []))) x (.ins C.B dx (putF "tip" (.int (t:Int)) (putF "places" (.ref p1) [])))):=k1.set.set
  have e3:upd (upd H1 x (.ins C.B dx (putF "places" (.ref p1) []))) x (.ins C.B dx (putF "tip" (.int (t:Int)) (putF "places" (.ref p1) []))) p1=some (.lst (nV qs)):=by rw [upd_ne n1,upd_ne n1];exact e1
  generalize upd (upd H1 x (.ins C.B dx (putF "places" (.ref p1) []))) x (.ins C.B dx (putF "tip" (.int (t:Int)) (putF "places" (.ref p1) [])))=H3 at *
  refine ⟨_,rfl,ia,_,rfl,.inl (SqL.of (k3 _ _ hia nia)),fun i1 hi1=>?_⟩
  have n2:i1≠x:=fun z=>by rw [z,x3] at hi1;cases hi1
  have f2:H i1=none:=k3.free n2 hi1
  have s4:=same_new (o:=.lst (inn.map V.ref)) hi1
  have x4:=s4 _ _ x3
  have k4:=k3.same s4
  have e4:=s4 _ _ e3
  have g4:upd H3 i1 (.lst (inn.map V.ref)) i1=some (.lst (inn.map V.ref)):=upd_same
  generalize upd H3 i1 (.lst (inn.map V.ref))=H4 at *
  refine ⟨_,rfl,x,C.B,dx,_,rfl,x4,G.B.cl,G.B.n3,Nat.lt_of_le_of_lt (Nat.le_trans (putF_few _ _ _) (Nat.succ_le_succ (putF_few _ _ _))) (by show 2 < 1000;decide),?_⟩
  have x5:upd H4 x (.ins C.B dx (putF "inner" (.ref i1) (putF "tip" (.int (t:Int)) (putF "places" (.ref p1) [])))) x=some (.ins C.B dx (putF "inner" (.ref i1) (putF "tip" (.int (t:Int)) (putF "places" (.ref p1) [])))):=upd_same
  have k5:But x H (upd H4 x (.ins C.B dx (putF "inner" (.ref i1) (putF "tip" (.int (t:Int)) (putF "places" (.ref p1) []))))):=k4.set
  have e5:upd H4 x (.ins C.B dx (putF "inner" (.ref i1) (putF "tip" (.int (t:Int)) (putF "places" (.ref p1) [])))) p1=some (.lst (nV qs)):=by rw [upd_ne n1];exact e4
  have g5:upd H4 x (.ins C.B dx (putF "inner" (.ref i1) (putF "tip" (.int (t:Int)) (putF "places" (.ref p1) [])))) i1=some (.lst (inn.map V.ref)):=by rw [upd_ne n2];exact g4
  generalize upd H4 x (.ins C.B dx (putF "inner" (.ref i1) (putF "tip" (.int (t:Int)) (putF "places" (.ref p1) []))))=H5 at *
  refine ⟨_,rfl,ja,_,rfl,.inl (SqL.of (k5 _ _ hja nja)),fun j1 hj1=>?_⟩
  have n3:j1≠x:=fun z=>by rw [z,x5] at hj1;cases hj1
  have f3:H j1=none:=k5.free n3 hj1
  have s6:=same_new (o:=.lst (js.map V.ref)) hj1
  have x6:=s6 _ _ x5
  have k6:=k5.same s6
  have e6:=s6 _ _ e5
  have g6:=s6 _ _ g5
  have h6:upd H5 j1 (.lst (js.map V.ref)) j1=some (.lst (js.map V.ref)):=upd_same
  generalize upd H5 j1 (.lst (js.map V.ref))=H6 at *
  refine ⟨_,rfl,x,C.B,dx,_,rfl,x6,G.B.cl,G.B.n4,Nat.lt_of_le_of_lt (Nat.le_trans (putF_few _ _ _) (Nat.succ_le_succ (Nat.le_trans (putF_few _ _ _) (Nat.succ_le_succ (putF_few _ _ _))))) (by show 3 < 1000;decide),?_⟩
  have ef:putF "joints" (.ref j1) (putF "inner" (.ref i1) (putF "tip" (.int (t:Int)) (putF "places" (.ref p1) [])))=([("places",.ref p1),("tip",.int (t:Int)),("inner",.ref i1),("joints",.ref j1)]:List (Str×V)):=by
   show putF "joints" (.ref j1) (putF "inner" (.ref i1) (putF "tip" (.int (t:Int)) ([("places",.ref p1)]:List (Str×V))))=_
   rw [putF_miss (by decide +kernel)]
   show putF "joints" (.ref j1) (putF "inner" (.ref i1) ([("places",.ref p1),("tip",.int (t:Int))]:List (Str×V)))=_
   rw [putF_miss (by decide +kernel),putF_miss (by decide +kernel)]
   show putF "joints" (.ref j1) ([("places",.ref p1),("tip",.int (t:Int)),("inner",.ref i1)]:List (Str×V))=_
   rw [putF_miss (by decide +kernel),putF_miss (by decide +kernel),putF_miss (by decide +kernel)]
   rfl
  rw [ef]
  refine ⟨_,rfl,x,C.B,dx,_,rfl,upd_same,G.B.cl,G.B.n5,(by show 4 < 1000;decide),?_⟩
  refine ⟨_,rfl,x,C.B,dx,_,rfl,upd_same,G.B.cl,G.B.n6,Nat.lt_of_le_of_lt (putF_few _ _ _) (by show 5 < 1000;decide),?_⟩
  refine ⟨_,rfl,x,C.B,dx,_,rfl,upd_same,G.B.cl,G.B.n7,Nat.lt_of_le_of_lt (Nat.le_trans (putF_few _ _ _) (Nat.succ_le_succ (putF_few _ _ _))) (by show 6 < 1000;decide),?_⟩
  refine q p1 i1 j1 qs _ k6.set.set.set.set hp1 f2 f3 hq ?_ ?_ ?_ ?_
  ·rw [upd_same]
   unfold bF
   refine congrArg (fun l=>some (HO.ins C.B dx l)) ?_
   rw [putF_miss (by decide +kernel),putF_miss (by decide +kernel),putF_miss (by decide +kernel),putF_miss (by decide +kernel)]
   show putF "came" V.non (putF "mark" (.int 0) ([("places",.ref p1),("tip",.int (t:Int)),("inner",.ref i1),("joints",.ref j1),("price",.int 0)]:List (Str×V)))=_
   rw [putF_miss (by decide +kernel),putF_miss (by decide +kernel),putF_miss (by decide +kernel),putF_miss (by decide +kernel),putF_miss (by decide +kernel)]
   show putF "came" V.non ([("places",.ref p1),("tip",.int (t:Int)),("inner",.ref i1),("joints",.ref j1),("price",.int 0),("mark",.int 0)]:List (Str×V))=_
   rw [putF_miss (by decide +kernel),putF_miss (by decide +kernel),putF_miss (by decide +kernel),putF_miss (by decide +kernel),putF_miss (by decide +kernel),putF_miss (by decide +kernel)]
   rfl
  ·rw [upd_ne n1,upd_ne n1,upd_ne n1,upd_ne n1];exact e6
  ·rw [upd_ne n2,upd_ne n2,upd_ne n2,upd_ne n2];exact g6
  ·rw [upd_ne n3,upd_ne n3,upd_ne n3,upd_ne n3];exact h6
def spPu (C:Cs):Sp:=fun vs H Q _=>∃ (A:Ad) (B:Hp) (S:Bl.St) (ia ja:Addr) (t:Nat) (inn:List Nat) (jt:List (Nat×Nat)),vs = [.ref A.w,.ref ia,.ref ja,.int (t:Int)]∧Wb C A B H S∧H ia=some (.lst (inn.map V.ref))∧JL H ja jt∧(∀ b∈inn,b∈S.ids)∧(allP S inn).length≤40∧(∀ p∈allP S inn,p < S.n)∧Nw C A S.ids ia ∧
 ∀ N qs H' B',Same B B'→H N=none→N ∉ S.ids→qs.Perm (allP S inn)→Wb C A B' H' (close0 S N qs inn jt t 0)→Q (.ref N) H'
theorem scPu:FnScope ["self","inner","joints","tip","places","body","ring","place"] ["self","inner","joints","tip"] (defScope sPu):=⟨rfl,rfl,rfl,by decide +kernel,rfl,by decide +kernel,by decide +kernel⟩
theorem okPu (G:Pg K mg C):FnOk P w K mg base CX0 3 G.dPu.f G.dPu.fd ["self","inner","joints","tip"] (spPu C):=by
 have GBi:FnOk P w K mg base CX0 1 G.dBi.f G.dBi.fd ["self","places","tip","inner","joints"] (spBi C):=okBi G
 refine G.dPu.F.ok scPu (fun vs H Q E h=>?_) (fun cdv Ar outer s H vs Q E hr h=>?_)
 ·obtain ⟨_,_,_,_,_,_,_,_,rfl,_⟩:=h
  rfl
 ·obtain ⟨A,B,S,ia,ja,t,inn,jt,rfl,wb,hia,⟨js,hja,pjs⟩,iin,l40,plt,nwi,q⟩:=h
  refine ⟨_,(pss_cons (ps_set (i:=4) scPu.nd rfl (by first | exact Or.inl rfl | exact Or.inr rfl) (pe_lst pa_nil))
   (pss_cons (ps_for PassesOwn.never rfl (pi_list (pv 1)) (pg_name (i:=5) scPu.nd rfl (by first | exact Or.inl rfl | exact Or.inr rfl)) (pss_one (ps_expr (pe_bm PySem.F.plainAttrs_list PySem.F.slot_list_extend PySem.F.type_list_extend mt_extend (pv 4) (pa_cons (pe_fld (pv 5) rfl) pa_nil)))))
   (pss_cons (ps_set (i:=6) scPu.nd rfl (by first | exact Or.inl rfl | exact Or.inr rfl) (pe_make G.dBi.m GBi (hr.mono (by omega)) (by rfl) G.B.mgC G.dBi.b .nil pass0 (pa_cons (pv 4) (pa_cons (pv 3) (pa_cons (pv 1) (pa_cons (pv 2) pa_nil))))))
   (pss_cons (ps_for PassesOwn.never rfl (pi_list (pv 4)) (pg_name (i:=7) scPu.nd rfl (by first | exact Or.inl rfl | exact Or.inr rfl)) (pss_one (ps_asg (pv 6) (pg_sub (pe_fld (pv 0) rfl) (pv 7) set_list))))
   (pss_one (ps_ret (pv 6))))))),?_⟩
  refine ⟨Nat.zero_le _,fun lp hlp=>?_⟩
  have s1:=same_new (o:=.lst []) hlp
  have np:lp≠ia:=fun z=>by rw [z,hia] at hlp;cases hlp
  refine ⟨_,rfl,ia,rfl,⟨_,SqL.of (s1 _ _ hia)⟩,for_list (xs:=inn.map V.ref) (fun k σ H2=>∃ (x5 x6 x7:Option V),σ = [some (.ref A.w),some (.ref ia),some (.ref ja),some (.int (t:Int)),some (.ref lp),x5,x6,x7]∧Same H H2∧H2 lp=some (.lst (nV (allP S (inn.take k))))) ⟨_,_,_,rfl,s1,upd_same⟩ ?_ ?_ ?_⟩
  ·rintro k σ H2 hk ⟨_,_,_,rfl,s2,_⟩
   exact SqL.of (s2 _ _ hia)
  ·rintro k z σ H2 hz ⟨x5,x6,x7,rfl,s2,h2⟩
   rw [List.getElem?_map] at hz
   obtain ⟨b,hb,rfl⟩:=Option.map_eq_some_iff.mp hz
   have hid:=iin b (List.mem_of_getElem? hb)
   obtain ⟨dx,pa,ia2,ja2,cv,hB,hpa,_⟩:=(wb.same s2).bod b hid
   have lle:(allP S (inn.take k)).length+(Bl.pl S b).length≤40:=by
    refine Nat.le_trans ?_ l40
    rw [←List.length_append,←allP_snoc,←take_snoc hb]
    conv=>rhs;rw [←List.take_append_drop (k+1) inn]
    unfold allP
    rw [List.flatMap_append,List.length_append]
    exact Nat.le_add_right _ _
   refine ⟨_,rfl,.inl ⟨rfl,_,SqL.of h2⟩,?_⟩
   refine ⟨_,rfl,fld_at hB G.B.cl G.B.n1 b1 ?_⟩
   refine ⟨lp,pa,_,_,rfl,rfl,h2,(wb.same s2).sb _ _ hpa,(by rw [nV_len,nV_len];exact Nat.le_of_lt (small5 (by have:(S.bd b).pl.length=(Bl.pl S b).length:=rfl;omega))),?_⟩
   refine ⟨_,_,_,rfl,same_upd s2 hlp,?_⟩
   rw [upd_same,take_snoc hb,allP_snoc,nV_app]
  ·rintro σ H2 ⟨x5,x6,x7,rfl,s2,h2⟩
   rw [List.length_map,List.take_length] at h2
   have wb2:=wb.same s2
   refine ⟨_,rfl,_,rfl,_,rfl,_,rfl,fun x dx nx ndx nex=>?_⟩
   have s0:Same H2 (upd (upd H2 dx (.own x)) x (.ins C.B dx [])):=fun b o e=>by
    rw [upd_ne (ne_of_none e nx),upd_ne (ne_of_none e ndx)]
    exact e
   have x0:upd (upd H2 dx (.own x)) x (.ins C.B dx []) x=some (.ins C.B dx []):=upd_same
   generalize upd (upd H2 dx (.own x)) x (.ins C.B dx [])=H0 at *
   refine ⟨x,dx,lp,ia,ja,t,allP S inn,inn,js,rfl,x0,s0 _ _ h2,l40,s0 _ _ (s2 _ _ hia),s0 _ _ (s2 _ _ hja),fun p1 i1 j1 qs H3 k3 f1 f2 f3 hq h3 e1 e2 e3=>⟨rfl,?_⟩⟩
   have k23:But x H2 H3:=fun b o e n=>k3 b o (s0 _ _ e) n
   have s23:Same H2 H3:=fun b o e=>k23 b o e (ne_of_none e nx)
   obtain ⟨sB,wb3⟩:=wb2.newB (N:=x) (d:=⟨qs,t,inn,jt,0,0,none⟩) nx k23 h3 e1 (s0.free f1) e2 (s0.free f2) ⟨js,e3,Paired.mapP pjs fun a y z=>s23 _ _ (s2 _ _ z)⟩ (s0.free f3) rfl
   have nlx:lp≠x:=ne_of_none h2 nx
   have nwl:=wb.nwF hlp
   have hlB:rest C A (x::S.ids) H3 lp=some (.lst (nV (allP S inn))):=by
    rw [rest_in ⟨nwl.1,nwl.2.1,nwl.2.2.1,nwl.2.2.2.1,fun z=>(List.mem_cons.mp z).elim nlx nwl.2.2.2.2⟩]
    exact s23 _ _ h2
   generalize rest C A (x::S.ids) H3=B' at *
   refine ⟨_,rfl,lp,rfl,⟨_,SqL.of (wb3.sb _ _ hlB)⟩,for_list (xs:=nV (allP S inn)) (fun k σ H4=>∃ (x5 x7:Option V),σ = [some (.ref A.w),some (.ref ia),some (.ref ja),some (.int (t:Int)),some (.ref lp),x5,some (.ref x),x7]∧Wb C A B' H4 { S with ids:=x::S.ids,bd:=fun b=>if b=x then ⟨qs,t,inn,jt,0,0,none⟩ else S.bd b,out:=fun q=>if q∈(allP S inn).take k then x else S.out q }) ⟨_,_,rfl,?_⟩ ?_ ?_ ?_⟩
   ·have e:(fun q=>if q∈(allP S inn).take 0 then x else S.out q)=S.out:=funext fun q=>if_neg (by rw [List.take_zero];exact List.not_mem_nil)
    rw [e];exact wb3
   ·rintro k σ H4 hk ⟨_,_,rfl,wb4⟩
    exact SqL.of (wb4.sb _ _ hlB)
   ·rintro k z σ H4 hz ⟨x5,x7,rfl,wb4⟩
    unfold nV at hz
    rw [List.getElem?_map] at hz
    obtain ⟨p,hp,rfl⟩:=Option.map_eq_some_iff.mp hz
    have hpn:p < S.n:=plt p (List.mem_of_getElem? hp)
    refine ⟨_,rfl,_,rfl,fld_at (wb4.sb _ _ wb4.web) G.W.cl G.W.n3 w3 ?_⟩
    refine ⟨_,rfl,A.o,_,_,_,rfl,rfl,wb4.ho,lf_ix hpn,?_⟩
    refine ⟨_,_,rfl,?_⟩
    rw [←out_step hp]
    exact wb4.setO (x:=p) (b:=x)
   ·rintro σ H4 ⟨x5,x7,rfl,wb4⟩
    rw [nV_len,List.take_length] at wb4
    refine ⟨_,rfl,q x qs H4 B' sB (s2.free nx) (wb2.nwF nx).2.2.2.2 hq (Wb.eqv wb4 ?_)⟩
    unfold close0
    congr 1
    funext p
    by_cases m:p∈allP S inn
    ·rw [if_pos m,if_pos (hq.mem_iff.mpr m)]
    ·rw [if_neg m,if_neg (fun z=>m (hq.mem_iff.mp z))]
end
end Rk08_the_largest_pairing
namespace Rk08_the_largest_pairing
open PySem L2 PyProof.Rows R K3 BW
open M21 (oN lI lO lI_at lO_at lf_ix lI_set while_m putF_few)
open De (lf lf_len lf_get)
section
variable {P:Program}{w:World}{K:PySem.W.Frag}{mg:Str→Option Value}{base:Heap}{C:Cs}
seal PA PE PS PSs PT PW
def spCr (C:Cs):Sp:=fun vs H Q _=>∃ (A:Ad) (B:Hp) (S:Bl.St) (rk:Nat→Nat) (l1 l2 tl u v:Nat) (one other:List (Nat×Nat)),vs = [.ref A.w,.ref l1,.ref l2,.ref tl]∧Wb C A B H S∧Bl.Fo S∧JL H l1 one∧JL H l2 other∧H tl=some (p2 (u,v))∧one.length≤40∧other.length≤40 ∧
 Bl.Rg S rk (Bl.bo S (Bl.rj one other u v)) (Bl.rj one other u v) one.length ∧
 ∀ N ps H' B',Same B B'→H N=none→N ∉ S.ids→(∀ p,p∈ps↔∃ i < (Bl.bo S (Bl.rj one other u v)).length,p∈Bl.pl S ((Bl.bo S (Bl.rj one other u v)).getD i 0))→ps.Nodup →
  Wb C A B' H' (Bl.closeS S N ps (Bl.bo S (Bl.rj one other u v)) (Bl.rj one other u v) (S.bd ((Bl.bo S (Bl.rj one other u v)).getD one.length 0)).tip)→Q .non H'
theorem scCr:FnScope ["web","one","other","link","down","joints","inner","top","ring"] ["web","one","other","link"] (defScope sCr):=⟨rfl,rfl,rfl,by decide +kernel,rfl,by decide +kernel,by decide +kernel⟩
theorem okCr (G:Pg K mg C):FnOk P w K mg base CX0 4 G.dCr.f G.dCr.fd ["web","one","other","link"] (spCr C):=by
 have GPu:FnOk P w K mg base CX0 3 G.dPu.f G.dPu.fd ["self","inner","joints","tip"] (spPu C):=okPu G
 refine G.dCr.F.ok scCr (fun vs H Q E h=>?_) (fun cdv Ar outer s H vs Q E hr h=>?_)
 ·obtain ⟨_,_,_,_,_,_,_,_,_,_,_,rfl,_⟩:=h
  rfl
 ·obtain ⟨A,B,S,rk,l1,l2,tl,u,v,one,other,rfl,wb,F,⟨js1,hl1,pj1⟩,⟨js2,hl2,pj2⟩,htl,o40,p40,Rr,q⟩:=h
  have n40:=wb.n40
  have lj1:=pj1.len
  have lj2:=pj2.len
  refine ⟨_,(pss_cons (ps_setCG (i:=4) (xs:=["low","high"]) (compOkG (fr:=[])) rfl scCr.nd rfl (by first | exact Or.inl rfl | exact Or.inr rfl) (pi_rev (by rfl) G.T.reversed (pa_cons (pv 2) pa_nil)) (fun _ _ _=>(pg_tupK (K:=K) (n:=2) rfl (pgs_cons (pg_name (i:=0) (show List.Nodup (["low","high"]:List Str) by decide +kernel) rfl (Or.inl rfl) (.inr rfl)) (pgs_cons (pg_name (i:=1) (show List.Nodup (["low","high"]:List Str) by decide +kernel) rfl (Or.inl rfl) (.inr rfl)) pgs_nil)))) (fun _ _ _=>pts_nil) (fun _ _ _=>(pe_tup (pa_cons (pv 1) (pa_cons (pv 0) pa_nil)))))
   (pss_cons (ps_set (i:=5) scCr.nd rfl (by first | exact Or.inl rfl | exact Or.inr rfl) (pe_op op_cat (pe_op op_cat (pv 1) (pv 4)) (pe_lst (pa_cons (pe_tup (pa_cons (pe_ix ix_tup (pv 3) pe_int (fun _ _=>rfl)) (pa_cons (pe_ix ix_tup (pv 3) pe_int (fun _ _=>rfl)) pa_nil))) pa_nil))))
   (pss_cons (ps_setC (i:=6) (compOk (fr:=[("web",0)])) rfl scCr.nd rfl (by first | exact Or.inl rfl | exact Or.inr rfl) (pi_list (pv 5)) (fun _ _ _=>pts_nil) (fun _ _ _=>(pe_ix (ix_listK (K:=K)) (pe_fldK (K:=K) (pv 1) rfl) (pe_ix (ix_tupK (K:=K)) (pv 0) pe_int (fun _ _=>rfl)) (fun _ _=>rfl))))
   (pss_cons (ps_set (i:=7) scCr.nd rfl (by first | exact Or.inl rfl | exact Or.inr rfl) (pe_ix ix_list (pv 6) (pe_callB call_len_seq (by rfl) G.T.len PySem.boot_len (pa_cons (pv 1) pa_nil)) (fun _ _=>rfl)))
   (pss_cons (ps_set (i:=8) scCr.nd rfl (by first | exact Or.inl rfl | exact Or.inr rfl) (pe_meth (pv 0) G.W.cl G.dPu.m GPu (hr.mono (by omega)) G.dPu.b .nil pass0 (pa_cons (pv 6) (pa_cons (pv 5) (pa_cons (pe_fld (pv 7) rfl) pa_nil)))))
   (pss_one (ps_fld (pv 8) (pe_glob (v:=.int 1) (by rfl) G.gE ⟨_,rfl⟩) rfl))))))),?_⟩
  refine ⟨_,rfl,l2,_,rfl,SqL.of hl2,fun D1 hD1=>compG_rev (xs:=js2.map V.ref) (fun i ac H2=>H2 D1=some (.lst ac)∧Same H H2∧∃ ds:List Addr,ac=ds.map V.ref∧JLs H2 ds ((other.reverse.map Bl.sw).take i)) ⟨upd_same,same_new hD1,[],rfl,.nil⟩ ?_ ?_ ?_⟩
  ·rintro i ac H2 hi ⟨h2,s2,ds,rfl,pd⟩
   rw [List.length_map] at hi
   have:=pd.len
   rw [List.length_take,List.length_map,List.length_reverse] at this
   exact ⟨h2,small5 (by rw [List.length_map];omega),SqL.of (s2 _ _ hl2)⟩
  ·rintro i x ac H2 N hi hx hN ⟨h2,s2,ds,rfl,pd⟩
   rw [List.length_map] at hi hx
   rw [List.getElem?_map] at hx
   obtain ⟨t,ht,rfl⟩:=Option.map_eq_some_iff.mp hx
   obtain ⟨y,hy,hty⟩:=pj2.get ht
   rw [lj2] at hy
   have hty2:=s2 _ _ hty
   refine ⟨t,_,rfl,SqT.of hty2,rfl,_,_,rfl,_,_,rfl,rfl,[some (.int (y.1:Int)),some (.int (y.2:Int))],rfl,rfl,?_⟩
   refine ⟨_,rfl,_,rfl,(by show 2≤sizeLine;decide),fun t2 ht2=>?_⟩
   have s3:=same_new (o:=.tup [.int (y.2:Int),.int (y.1:Int)]) ht2
   have h3:=s3 _ _ h2
   have e3:upd H2 t2 (.tup [.int (y.2:Int),.int (y.1:Int)]) t2=some (p2 (Bl.sw y)):=upd_same
   refine ⟨h3,hN _ _ ⟨upd_same,same_upd (s2.trans s3) hD1,ds ++ [t2],by rw [List.map_append];rfl,?_⟩⟩
   rw [revsw_at (by omega) hy]
   exact JLs.upd h3 ((pd.same s3).app (.cons e3 .nil))
  rintro ac H2 ⟨h2,s2,ds,rfl,pd⟩
  rw [List.length_map,lj2,List.take_of_length_le (by rw [List.length_map,List.length_reverse];exact Nat.le_refl _)] at pd
  have ld:=pd.len
  rw [List.length_map,List.length_reverse] at ld
  have z63:∀ k:Nat,k≤5000→k≤sizeLine:=fun k hk=>Nat.le_of_lt (small5 hk)
  refine ⟨_,rfl,_,rfl,l1,D1,_,_,rfl,rfl,s2 _ _ hl1,h2,z63 _ (by rw [List.length_map,List.length_map];omega),fun q1 hq1=>?_⟩
  rw [←List.map_append]
  have s3:=s2.trans (same_new (o:=.lst ((js1++ds).map V.ref)) hq1)
  have h3:upd H2 q1 (.lst ((js1++ds).map V.ref)) q1=some (.lst ((js1++ds).map V.ref)):=upd_same
  have pd3:=pd.same (same_new (o:=.lst ((js1++ds).map V.ref)) hq1)
  generalize upd H2 q1 (.lst ((js1++ds).map V.ref))=H3 at *
  have htl3:=s3 _ _ htl
  refine ⟨_,rfl,tl,_,_,_,rfl,rfl,SqT.of htl3,rfl,_,rfl,tl,_,_,_,rfl,rfl,SqT.of htl3,rfl,(by show 2≤sizeLine;decide),fun tt htt=>⟨(by show 1≤sizeLine;decide),fun ll hll=>?_⟩⟩
  have s4:=same_new (o:=.tup [.int (v:Int),.int (u:Int)]) htt
  have e4:upd H3 tt (.tup [.int (v:Int),.int (u:Int)]) tt=some (p2 (v,u)):=upd_same
  have hll':upd H3 tt (.tup [.int (v:Int),.int (u:Int)]) ll=none:=hll
  generalize upd H3 tt (.tup [.int (v:Int),.int (u:Int)])=H4 at *
  have s5:=same_new (o:=.lst [.ref tt]) hll'
  have h5:upd H4 ll (.lst [.ref tt]) ll=some (.lst ([tt].map V.ref)):=upd_same
  have S5:=(s3.trans s4).trans s5
  have h35:=s5 _ _ (s4 _ _ h3)
  have pd5:=(pd3.same s4).same s5
  have e5:=s5 _ _ e4
  generalize upd H4 ll (.lst [.ref tt])=H5 at *
  refine ⟨q1,ll,_,_,rfl,rfl,h35,h5,z63 _ (by rw [List.length_map,List.length_map,List.length_append];show _+1≤_;omega),fun jl hjl=>?_⟩
  rw [←List.map_append]
  have s6:=same_new (o:=.lst ((js1++ds ++ [tt]).map V.ref)) hjl
  have h6:upd H5 jl (.lst ((js1++ds ++ [tt]).map V.ref)) jl=some (.lst ((js1++ds ++ [tt]).map V.ref)):=upd_same
  have S6:=S5.trans s6
  have pj6:JLs (upd H5 jl (.lst ((js1++ds ++ [tt]).map V.ref))) (js1++ds ++ [tt]) (Bl.rj one other u v):=(((pj1.same S5).app pd5).app (.cons e5 .nil)).same s6
  generalize upd H5 jl (.lst ((js1++ds ++ [tt]).map V.ref))=H6 at *
  generalize js1++ds ++ [tt] = js at *
  have ljs:=pj6.len
  have lrj:(Bl.rj one other u v).length=one.length+other.length+1:=Bl.rj_len
  have lbo:(Bl.bo S (Bl.rj one other u v)).length=(Bl.rj one other u v).length:=Bl.bo_len
  obtain ⟨oms,and,amem,alt⟩:=rg_places F Rr
  refine ⟨_,rfl,jl,rfl,⟨_,SqL.of h6⟩,fun Di hDi=>comp_list (xs:=js.map V.ref) (fun i ac H7=>H7 Di=some (.lst ac)∧Same H6 H7∧ac=(Bl.bo S ((Bl.rj one other u v).take i)).map V.ref) ⟨upd_same,same_new hDi,rfl⟩ ?_ ?_ ?_⟩
  ·rintro i ac H7 hi ⟨h7,s7,rfl⟩
   rw [List.length_map] at hi
   exact ⟨h7,small5 (by rw [List.length_map,Bl.bo_len,List.length_take];omega),SqL.of (s7 _ _ h6)⟩
  ·rintro i x ac H7 N hx hN ⟨h7,s7,rfl⟩
   rw [List.getElem?_map] at hx
   obtain ⟨t,ht,rfl⟩:=Option.map_eq_some_iff.mp hx
   obtain ⟨y,hy,hty⟩:=pj6.get ht
   have hi:i < (Bl.rj one other u v).length:=(List.getElem?_eq_some_iff.mp hy).1
   have ey:(Bl.rj one other u v).getD i (0,0)=y:=by rw [List.getD_eq_getElem?_getD,hy];rfl
   have hyn:y.1 < S.n:=by have:=(Rr.lt i (by rw [lbo];exact hi)).1;rwa [ey] at this
   have wb7:=wb.same (S6.trans s7)
   refine ⟨_,rfl,fld_at (wb7.sb _ _ wb7.web) G.W.cl G.W.n3 w3 ?_⟩
   refine ⟨_,rfl,t,_,_,_,rfl,rfl,SqT.of (s7 _ _ hty),rfl,A.o,_,_,_,rfl,rfl,SqL.of wb7.ho,at_out hyn,h7,hN _ _ ⟨upd_same,same_upd s7 hDi,?_⟩⟩
   rw [bo_take hy,List.map_append];rfl
  rintro ac H7 ⟨h7,s7,rfl⟩
  rw [List.length_map,ljs,List.take_length] at h7
  have S7:=S6.trans s7
  have wb7:=wb.same S7
  have htop:(Bl.bo S (Bl.rj one other u v))[one.length]? = some ((Bl.bo S (Bl.rj one other u v)).getD one.length 0):=by
   have hl:=Rr.top
   rw [List.getD_eq_getElem?_getD,List.getElem?_eq_getElem hl];rfl
  have omt:=oms _ (List.mem_of_getElem? htop)
  refine ⟨_,rfl,_,rfl,l1,_,rfl,.inl (SqL.of (S7 _ _ hl1)),Di,_,_,_,rfl,rfl,SqL.of h7,at_ref htop (by rw [List.length_map,lj1]),?_⟩
  obtain ⟨dxt,pat,iat,jat,cvt,hBt,_⟩:=wb7.bod _ (om_ids F omt)
  refine ⟨_,rfl,A.w,A.dw,_,rfl,wb7.sb _ _ wb7.web,noPu,_,rfl,_,rfl,_,rfl,fld_at hBt G.B.cl G.B.n2 b2 ?_⟩
  refine ⟨A,B,S,Di,jl,_,_,_,rfl,wb7,h7,⟨js,s7 _ _ h6,pj6.same s7⟩,(fun b hb=>om_ids F (oms b hb)),Nat.le_trans (nd_le and alt) n40,alt,wb.nwF (S6.free hDi),fun N qs H8 B8 sB8 nN nids hq wb8=>?_⟩
  obtain ⟨dx8,pa8,ia8,ja8,cv8,hB8,hpa8,hia8,hja8,hcm8⟩:=wb8.bod N List.mem_cons_self
  have eN:(close0 S N qs (Bl.bo S (Bl.rj one other u v)) (Bl.rj one other u v) (S.bd ((Bl.bo S (Bl.rj one other u v)).getD one.length 0)).tip 0).bd N=⟨qs,(S.bd ((Bl.bo S (Bl.rj one other u v)).getD one.length 0)).tip,Bl.bo S (Bl.rj one other u v),Bl.rj one other u v,0,0,none⟩:=if_pos rfl
  rw [eN] at hB8 hpa8 hia8 hja8 hcm8
  refine ⟨_,rfl,N,C.B,dx8,_,rfl,hB8,G.B.cl,G.B.n6,bF_few,?_⟩
  rw [b_mark]
  refine q N qs _ B8 sB8 (S7.free nN) nids (fun p=>by rw [hq.mem_iff];exact amem p) (hq.nodup_iff.mpr and) (Wb.eqv (wb8.setB (b:=N) (d:=⟨qs,(S.bd ((Bl.bo S (Bl.rj one other u v)).getD one.length 0)).tip,Bl.bo S (Bl.rj one other u v),Bl.rj one other u v,0,1,none⟩) (f:=(Bl.closeS S N qs (Bl.bo S (Bl.rj one other u v)) (Bl.rj one other u v) (S.bd ((Bl.bo S (Bl.rj one other u v)).getD one.length 0)).tip).bd) List.mem_cons_self (if_pos rfl) (fun c hc=>?_) (by rw [eN]) ⟨dx8,pa8,ia8,ja8,cv8,upd_same,hpa8,hia8,hja8,hcm8⟩) rfl)
  exact (if_neg hc:(if c=N then _ else S.bd c)=S.bd c).trans (if_neg hc:(if c=N then _ else S.bd c)=S.bd c).symm
end
end Rk08_the_largest_pairing
namespace Rk08_the_largest_pairing
open PySem L2 PyProof.Rows R K3 BW
open M21 (oN lI lO lI_at lO_at lf_ix lI_set while_m putF_few)
open De (lf lf_len lf_get)
section
variable {P:Program}{w:World}{K:PySem.W.Frag}{mg:Str→Option Value}{base:Heap}{C:Cs}
seal PA PE PS PSs PT PW
def spTa (C:Cs):Sp:=fun vs H Q _=>∃ (A:Ad) (B:Hp) (S:Bl.St) (R:Nat),vs = [.ref A.w,.ref R]∧Wb C A B H S∧Bl.Fo S∧R∈S.ids ∧
 ∀ H',Wb C A B H' { S with out:=apart S R (Bl.cnt S R) }→Q .non H'
theorem scTa:FnScope ["self","ring","body","place"] ["self","ring"] (defScope sTa):=⟨rfl,rfl,rfl,by decide +kernel,rfl,by decide +kernel,by decide +kernel⟩
theorem okTa (G:Pg K mg C):FnOk P w K mg base CX0 1 G.dTa.f G.dTa.fd ["self","ring"] (spTa C):=by
 refine G.dTa.F.ok scTa (fun vs H Q E h=>?_) (fun cdv Ar outer s H vs Q E hr h=>?_)
 ·obtain ⟨_,_,_,_,rfl,_⟩:=h
  rfl
 ·obtain ⟨A,B,S,R,rfl,wb,F,hR,q⟩:=h
  obtain ⟨dx,pa,ia,ja,cv,hB,hpa,hia,hja,hcm⟩:=wb.bod R hR
  refine ⟨_,(pss_one (ps_for PassesOwn.never rfl (pi_list (pe_fld (pv 1) rfl)) (pg_name (i:=2) scTa.nd rfl (by first | exact Or.inl rfl | exact Or.inr rfl)) (pss_one (ps_for PassesOwn.never rfl (pi_list (pe_fld (pv 2) rfl)) (pg_name (i:=3) scTa.nd rfl (by first | exact Or.inl rfl | exact Or.inr rfl)) (pss_one (ps_asg (pv 2) (pg_sub (pe_fld (pv 0) rfl) (pv 3) set_list))))))),?_⟩
  refine ⟨_,rfl,fld_at hB G.B.cl G.B.n3 b3 ?_⟩
  refine ⟨ia,rfl,⟨_,SqL.of (wb.sb _ _ hia)⟩,for_list (xs:=(S.bd R).inn.map V.ref) (fun j σ H2=>∃ (x2 x3:Option V),σ = [some (.ref A.w),some (.ref R),x2,x3]∧Wb C A B H2 { S with out:=apart S R j }) ⟨_,_,rfl,by rw [apart_zero];exact wb⟩ ?_ ?_ ?_⟩
  ·rintro j σ H2 hj ⟨_,_,rfl,wb2⟩
   exact SqL.of (wb2.sb _ _ hia)
  ·rintro j z σ H2 hz ⟨x2,x3,rfl,wb2⟩
   rw [List.getElem?_map] at hz
   obtain ⟨c,hc,rfl⟩:=Option.map_eq_some_iff.mp hz
   obtain ⟨hj,ec⟩:=kid_get hc
   have hid:c∈S.ids:=by rw [←ec];exact F.kin R hR j hj
   obtain ⟨dx2,pa2,ia2,ja2,cv2,hB2,hpa2,_⟩:=wb2.bod c hid
   refine ⟨_,rfl,fld_at hB2 G.B.cl G.B.n1 b1 ?_⟩
   refine ⟨pa2,rfl,⟨_,SqL.of (wb2.sb _ _ hpa2)⟩,for_list (xs:=nV (S.bd c).pl) (fun k σ H3=>∃ (x3:Option V),σ = [some (.ref A.w),some (.ref R),some (.ref c),x3]∧Wb C A B H3 { S with out:=fun q=>if q∈(Bl.pl S c).take k then c else apart S R j q }) ⟨_,rfl,?_⟩ ?_ ?_ ?_⟩
   ·have e:(fun q=>if q∈(Bl.pl S c).take 0 then c else apart S R j q)=apart S R j:=funext fun q=>if_neg (by rw [List.take_zero];exact List.not_mem_nil)
    rw [e];exact wb2
   ·rintro k σ H3 hk ⟨_,rfl,wb3⟩
    exact SqL.of (wb3.sb _ _ hpa2)
   ·rintro k z σ H3 hz ⟨x3,rfl,wb3⟩
    unfold nV at hz
    rw [List.getElem?_map] at hz
    obtain ⟨p,hp,rfl⟩:=Option.map_eq_some_iff.mp hz
    have hpn:p < S.n:=F.lt c hid p (List.mem_of_getElem? hp)
    refine ⟨_,rfl,_,rfl,fld_at (wb3.sb _ _ wb3.web) G.W.cl G.W.n3 w3 ?_⟩
    refine ⟨_,rfl,A.o,_,_,_,rfl,rfl,wb3.ho,lf_ix hpn,?_⟩
    refine ⟨_,rfl,?_⟩
    rw [←out_step (show (Bl.pl S c)[k]? = some p from hp)]
    exact wb3.setO (x:=p) (b:=c)
   ·rintro σ H3 ⟨x3,rfl,wb3⟩
    rw [nV_len,show (Bl.pl S c).take (S.bd c).pl.length=Bl.pl S c from List.take_length] at wb3
    refine ⟨_,_,rfl,?_⟩
    rw [←apart_succ F hR hj,ec]
    exact wb3
  ·rintro σ H2 ⟨x2,x3,rfl,wb2⟩
   rw [List.length_map] at wb2
   exact q _ wb2
end
end Rk08_the_largest_pairing
namespace Rk08_the_largest_pairing
open PySem L2 PyProof.Rows R K3 BW
open M21 (oN lI lO lI_at lO_at lf_ix lI_set while_m putF_few)
open De (lf lf_len lf_get)
section
variable {P:Program}{w:World}{K:PySem.W.Frag}{mg:Str→Option Value}{base:Heap}{C:Cs}
seal PA PE PS PSs PT PW
def spOr (C:Cs):Sp:=fun vs H Q _=>∃ (A:Ad) (B:Hp) (S:Bl.St) (rk:Nat→Nat) (R p0:Nat),vs = [.ref A.w,.ref R]∧Wb C A B H S∧Bl.Ok S rk∧p0 < S.n∧S.out p0=R∧(S.bd R).inn ≠ []∧(S.bd R).mark = -1 ∧
 ∀ H' B' mk cf i d wf,Same B B'→Bl.Mr S R i→Bl.Op S R i d wf mk cf→Wb C A B' H' (Bl.openS S R mk cf)→Q .non H'
theorem scOr:FnScope ["web","ring","body","count","number","last","way","came"] ["web","ring"] (defScope sOr):=⟨rfl,rfl,rfl,by decide +kernel,rfl,by decide +kernel,by decide +kernel⟩
theorem okOr (G:Pg K mg C):FnOk P w K mg base CX0 2 G.dOr.f G.dOr.fd ["web","ring"] (spOr C):=by
 have GTa:FnOk P w K mg base CX0 1 G.dTa.f G.dTa.fd ["self","ring"] (spTa C):=okTa G
 have GBn:FnOk P w K mg base CX0 1 G.dBn.f G.dBn.fd ["ring","place"] (spBn C):=okBn G
 have GJo:FnOk P w K mg base CX0 1 G.dJo.f G.dJo.fd ["ring","number","way"] (spJo C):=okJo G
 have GMo:FnOk P w K mg base CX0 1 G.dMo.f G.dMo.fd ["body","came"] (spMo C):=okMo G
 refine G.dOr.F.ok scOr (fun vs H Q E h=>?_) (fun cdv Ar outer s H vs Q E hr h=>?_)
 ·obtain ⟨_,_,_,_,_,_,rfl,_⟩:=h
  rfl
 ·obtain ⟨A,B,S,rk,R,p0,rfl,wb,O,hp0,eR,hne,hmk,q⟩:=h
  have F:=O.fo
  have hR:R∈S.ids:=by rw [←eR];exact (F.out p0 hp0).1
  obtain ⟨c3,codd,ljt⟩:=F.odd R hR hne
  have hc0:0 < Bl.cnt S R:=by omega
  have cp:(0:Int) < (Bl.cnt S R:Int):=by omega
  have c40:Bl.cnt S R≤40:=Nat.le_trans (cnt_len F hR) (Nat.le_trans (pl_len F hR) wb.n40)
  have hRin:=opn_kid F hR
  obtain ⟨i,Q0⟩:=O.ma.am p0 hp0 R hR (by rw [eR];exact fun _ h=>h) hne
  obtain ⟨a,e,hcm0,ha,he,oe,_⟩:=O.tr.odd p0 hp0 (by rw [eR];exact hmk)
  rw [eR] at hcm0 oe
  have heR:e∈Bl.pl S R:=by rw [←oe];exact (F.out e he).2
  obtain ⟨n0,hn0,hen⟩:=(F.mem R hR hne e).mp heR
  have RB:∀ (mk:Nat→Int) (cf:Nat→Option (Nat×Nat)),(opn S R mk cf).bd R=S.bd R:=fun mk cf=>opn_out hRin
  have kn:∀ (mk:Nat→Int) (cf:Nat→Option (Nat×Nat)) (j:Nat),Bl.kid (opn S R mk cf) R j=Bl.kid S R j:=fun mk cf j=>by unfold Bl.kid;rw [RB]
  have cn:∀ (mk:Nat→Int) (cf:Nat→Option (Nat×Nat)),Bl.cnt (opn S R mk cf) R=Bl.cnt S R:=fun mk cf=>by unfold Bl.cnt;rw [RB]
  have jn:∀ (mk:Nat→Int) (cf:Nat→Option (Nat×Nat)) (j:Nat),Bl.jnt (opn S R mk cf) R j=Bl.jnt S R j:=fun mk cf j=>by unfold Bl.jnt;rw [RB]
  have pn:∀ (mk:Nat→Int) (cf:Nat→Option (Nat×Nat)) (b:Nat),Bl.pl (opn S R mk cf) b=Bl.pl S b:=fun mk cf b=>by show ((opn S R mk cf).bd b).pl=_;rw [opn_bd];split <;> rfl
  have kinO:∀ (mk:Nat→Int) (cf:Nat→Option (Nat×Nat)) (j:Nat),j < Bl.cnt (opn S R mk cf) R→Bl.kid (opn S R mk cf) R j∈(opn S R mk cf).ids:=fun mk cf j hj=>by rw [cn] at hj;rw [kn];exact F.kin R hR j hj
  have disO:∀ (mk:Nat→Int) (cf:Nat→Option (Nat×Nat)) (i:Nat),i < Bl.cnt (opn S R mk cf) R→∀ j,j < Bl.cnt (opn S R mk cf) R→∀ p,p∈Bl.pl (opn S R mk cf) (Bl.kid (opn S R mk cf) R i)→p∈Bl.pl (opn S R mk cf) (Bl.kid (opn S R mk cf) R j)→i=j:=fun mk cf i hi j hj p h1 h2=>by
   rw [cn] at hi hj
   rw [pn,kn] at h1 h2
   exact F.dis R hR i hi j hj p h1 h2
  refine ⟨_,(pss_cons (ps_expr (pe_meth (pv 0) G.W.cl G.dTa.m GTa (hr.mono (by omega)) G.dTa.b .nil pass0 (pa_cons (pv 1) pa_nil)))
   (pss_cons (ps_for PassesOwn.never rfl (pi_list (pe_fld (pv 1) rfl)) (pg_name (i:=2) scOr.nd rfl (by first | exact Or.inl rfl | exact Or.inr rfl)) (pss_cons (ps_fld (pv 2) (pe_glob (v:=.int 0) (by rfl) G.gF ⟨_,rfl⟩) rfl)
   (pss_one (ps_fld (pv 2) pe_non rfl))))
   (pss_cons (ps_set (i:=3) scOr.nd rfl (by first | exact Or.inl rfl | exact Or.inr rfl) (pe_callB call_len_seq (by rfl) G.T.len PySem.boot_len (pa_cons (pe_fld (pv 1) rfl) pa_nil)))
   (pss_cons (ps_set (i:=4) scOr.nd rfl (by first | exact Or.inl rfl | exact Or.inr rfl) (pe_call GBn (hr.mono (by omega)) (by rfl) G.dBn.m G.dBn.F.kp G.dBn.b .nil pass0 (pa_cons (pv 1) (pa_cons (pe_ix ix_tup (pe_fld (pv 1) rfl) pe_int (fun _ _=>rfl)) pa_nil))))
   (pss_cons (ps_set (i:=5) scOr.nd rfl (by first | exact Or.inl rfl | exact Or.inr rfl) (pe_call GBn (hr.mono (by omega)) (by rfl) G.dBn.m G.dBn.F.kp G.dBn.b .nil pass0 (pa_cons (pv 1) (pa_cons (pe_fld (pv 1) rfl) pa_nil))))
   (pss_cons (ps_set (i:=6) scOr.nd rfl (by first | exact Or.inl rfl | exact Or.inr rfl) (pe_ifExp (pt_cmpR op_eq (pe_op op_mod (pe_op op_mod (pe_op op_sub (pv 5) (pv 4)) (pv 3)) pe_int) pe_int (nomark _)) pe_int (pe_un un_neg pe_int)))
   (pss_cons (ps_expr (pe_call GMo (hr.mono (by omega)) (by rfl) G.dMo.m G.dMo.F.kp G.dMo.b .nil pass0 (pa_cons (pe_ix ix_list (pe_fld (pv 1) rfl) (pv 4) (fun _ _=>rfl)) (pa_cons (pe_fld (pv 1) rfl) pa_nil))))
   (pss_one (ps_while PassesOwn.never (pt_cmpR op_ne (pv 4) (pv 5) (nomark _)) (pss_cons (ps_set (i:=2) scOr.nd rfl (by first | exact Or.inl rfl | exact Or.inr rfl) (pe_ix ix_list (pe_fld (pv 1) rfl) (pe_op op_mod (pe_op op_add (pv 4) (pv 6)) (pv 3)) (fun _ _=>rfl)))
   (pss_cons (ps_fld (pv 2) (pe_glob (v:=.int 1) (by rfl) G.gE ⟨_,rfl⟩) rfl)
   (pss_cons (ps_set (i:=7) scOr.nd rfl (by first | exact Or.inl rfl | exact Or.inr rfl) (pe_call GJo (hr.mono (by omega)) (by rfl) G.dJo.m G.dJo.F.kp G.dJo.b .nil pass0 (pa_cons (pv 1) (pa_cons (pe_op op_add (pv 4) (pv 6)) (pa_cons (pv 6) pa_nil)))))
   (pss_cons (ps_set (i:=4) scOr.nd rfl (by first | exact Or.inl rfl | exact Or.inr rfl) (pe_op op_mod (pe_op op_add (pv 4) (pe_op op_mul pe_int (pv 6))) (pv 3)))
   (pss_one (ps_expr (pe_call GMo (hr.mono (by omega)) (by rfl) G.dMo.m G.dMo.F.kp G.dMo.b .nil pass0 (pa_cons (pe_ix ix_list (pe_fld (pv 1) rfl) (pv 4) (fun _ _=>rfl)) (pa_cons (pv 7) pa_nil)))))))))))))))))),?_⟩
  refine ⟨_,rfl,A.w,A.dw,_,rfl,wb.sb _ _ wb.web,noTa,_,rfl,A,B,S,R,rfl,wb,F,hR,fun H1 wb1=>?_⟩
  rw [←opn_self] at wb1
  obtain ⟨dx1,pa1,ia1,ja1,cv1,hB1,hpa1,hia1,hja1,hcm1⟩:=wb1.bod R hR
  rw [RB] at hB1 hpa1 hia1 hja1 hcm1
  refine ⟨_,rfl,fld_at hB1 G.B.cl G.B.n3 b3 ?_⟩
  refine ⟨ia1,rfl,⟨_,SqL.of (wb1.sb _ _ hia1)⟩,for_list (xs:=(S.bd R).inn.map V.ref) (fun k σ H2=>∃ (x2:Option V),σ = [some (.ref A.w),some (.ref R),x2,none,none,none,none,none]∧Wb C A B H2 (opn S R (fun b=>if b∈(S.bd R).inn.take k then 0 else (S.bd b).mark) (fun b=>if b∈(S.bd R).inn.take k then none else (S.bd b).cm))) ⟨_,rfl,?_⟩ ?_ ?_ ?_⟩
  ·exact Wb.eqv wb1 (opn_congr fun b _=>⟨(if_neg (by rw [List.take_zero];exact List.not_mem_nil)).symm,(if_neg (by rw [List.take_zero];exact List.not_mem_nil)).symm⟩)
  ·rintro k σ H2 hk ⟨_,rfl,wb2⟩
   exact SqL.of (wb2.sb _ _ hia1)
  ·rintro k z σ H2 hz ⟨x2,rfl,wb2⟩
   rw [List.getElem?_map] at hz
   obtain ⟨c,hc,rfl⟩:=Option.map_eq_some_iff.mp hz
   obtain ⟨hj,ec⟩:=kid_get hc
   have hci:c∈(S.bd R).inn:=List.mem_of_getElem? hc
   have hid:c∈S.ids:=by rw [←ec];exact F.kin R hR k hj
   obtain ⟨dx2,pa2,ia2,ja2,cv2,hB2,hpa2,hia2,hja2,_⟩:=wb2.bod c hid
   rw [opn_in hci] at hB2 hpa2 hia2 hja2
   refine ⟨_,rfl,c,C.B,dx2,_,rfl,hB2,G.B.cl,G.B.n6,bF_few,?_⟩
   rw [b_mark]
   refine ⟨_,rfl,c,C.B,dx2,_,rfl,upd_same,G.B.cl,G.B.n7,bF_few,?_⟩
   rw [b_came,upd_twice]
   refine ⟨_,rfl,?_⟩
   rw [←fs_take hc,←fs_take hc]
   exact wb2.setMC hci hid ⟨dx2,pa2,ia2,ja2,.non,upd_same,hpa2,hia2,hja2,rfl⟩
  rintro σ H2 ⟨x2,rfl,wb2⟩
  rw [List.length_map,List.take_length] at wb2
  rw [opn_congr (mk':=fun _=>0) (cf':=fun _=>none) fun b hb=>⟨if_pos hb,if_pos hb⟩] at wb2
  obtain ⟨dx2,pa2,ia2,ja2,cv2,hB2,hpa2,hia2,hja2,hcm2⟩:=wb2.bod R hR
  rw [RB] at hB2 hpa2 hia2 hja2 hcm2
  rw [hcm0] at hcm2
  obtain ⟨t,rfl,ht⟩:=hcm2
  refine ⟨_,rfl,fld_at hB2 G.B.cl G.B.n3 b3 ?_⟩
  refine ⟨ia2,_,rfl,.inl (SqL.of (wb2.sb _ _ hia2)),?_⟩
  rw [show (((S.bd R).inn.map V.ref).length:Int)=(Bl.cnt S R:Int) by rw [List.length_map];rfl]
  refine ⟨_,rfl,_,rfl,fld_at hB2 G.B.cl G.B.n7 b7 ?_⟩
  refine ⟨t,_,_,_,rfl,rfl,SqT.of (wb2.sb _ _ ht),rfl,?_⟩
  refine ⟨A,B,_,R,e,n0,rfl,wb2,kinO _ _,disO _ _,hR,(by rw [cn];exact c40),(by rw [cn];exact hn0),(by rw [pn,kn];exact hen),fun H3 s3=>?_⟩
  have wb3:=wb2.same s3
  refine ⟨_,rfl,_,rfl,fld_at (s3 _ _ hB2) G.B.cl G.B.n2 b2 ?_⟩
  refine ⟨A,B,_,R,_,i,rfl,wb3,kinO _ _,disO _ _,hR,(by rw [cn];exact c40),(by rw [cn];exact Q0.lt),(by rw [pn,kn];exact Q0.tin),fun H4 s4=>?_⟩
  have wb4:=wb3.same s4
  have hB4:=s4 _ _ (s3 _ _ hB2)
  dsimp only [gName,tSeq,tAsg]
  refine if_way (decide (V.int (((i:Int)-(n0:Int)) % (Bl.cnt S R:Int) % 2)=V.int 0)) (fun z=>∃ d wf jl,Bl.Wy S R i n0 d wf jl∧Go S R d wf jl z∧(z=1∨z = -1)) (fun Q hq=>⟨_,rfl,_,rfl,_,_,rfl,rfl,_,rfl,_,_,rfl,rfl,cp,_,_,rfl,rfl,(show (0:Int) < 2 by decide),rfl,_,rfl,hq⟩) (fun hb=>?_) (fun hb=>?_) ?_
  ·rw [int_dec,subI (by omega)] at hb
   have hb:=of_decide_eq_true hb
   have W:=Bl.way_fwd F O.du hR Q0 hn0 (by omega)
   exact ⟨_,_,_,W,go_fwd hc0,.inl rfl⟩
  ·rw [int_dec,subI (by omega)] at hb
   have hb:=of_decide_eq_false hb
   have hd:=Bl.way_one codd Q0.lt hn0 (by omega)
   have W:=Bl.way_bwd F O.du hR Q0 hn0 hd
   exact ⟨_,_,_,W,go_bwd hc0 W.dl,.inr rfl⟩
  rintro way ⟨d,wf,jl,W,Gw,hw⟩
  have hn0':Bl.kid S R n0∈S.ids:=F.kin R hR n0 hn0
  have dl:=W.dl
  have dev:=W.ev
  refine ⟨_,rfl,fld_at hB4 G.B.cl G.B.n3 b3 ?_⟩
  refine ⟨_,rfl,ia2,_,_,_,rfl,rfl,SqL.of (wb4.sb _ _ hia2),at_kid hn0 rfl,_,rfl,fld_at hB4 G.B.cl G.B.n7 b7 ?_⟩
  refine ⟨A,B,_,_,t,(a,e),rfl,wb4,hn0',ht,fun H5 wb5=>?_⟩
  rw [opn_mark (kid_mem hn0)] at wb5
  refine while_m (fun n σ H6=>∃ (tt:Nat) (x2 x7:Option V) (B6:Hp) (mk:Nat→Int) (cf:Nat→Option (Nat×Nat)),σ = [some (.ref A.w),some (.ref R),x2,some (.int (Bl.cnt S R:Int)),some (.int (wf (2*tt):Int)),some (.int (i:Int)),some (.int way),x7]∧Same B B6∧Wb C A B6 H6 (opn S R mk cf)∧Og S R n0 a e tt wf jl mk cf∧2*tt≤d∧n=d-2*tt)
   d ⟨0,_,_,B,_,_,(by rw [Nat.mul_zero,W.frst];rfl),Same.refl _,wb5,Og.start F hR W,Nat.zero_le _,rfl⟩ ?_ ?_
  ·rintro n σ H6 ⟨tt,x2,x7,B6,mk,cf,rfl,sB,wb6,og,htd,rfl⟩
   obtain ⟨dx6,pa6,ia6,ja6,cv6,hB6,hpa6,hia6,hja6,hcm6⟩:=wb6.bod R hR
   rw [RB] at hB6 hpa6 hia6 hja6 hcm6
   refine ⟨_,rfl,_,rfl,rfl,_,rfl,?_⟩
   rw [int_dec]
   by_cases ed:2*tt=d
   ·rw [decide_eq_true (by rw [ed,W.last])]
    refine iteF ?_
    refine q _ B6 mk cf i d wf sB Q0 (W.op (fun k hk=>og.mo k (by omega)) (fun j hj h=>og.fr j hj fun k hk=>h k (by omega)) (fun k hk ko=>og.ca k (by omega) ko) hcm0 og.c1 hen) ?_
    have wd:=wb6.drop (R:=R) fun p hp z=>by
     have:=(wb6.sgl p hp).2
     rw [z,pn] at this
     have l1:=cnt_len F hR
     rw [this] at l1
     have:Bl.cnt S R≤1:=l1
     omega
    refine Wb.eqv wd ?_
    unfold Bl.openS
    rw [←apart_all F hR hne]
    rfl
   ·rw [decide_eq_false (fun z=>ed (W.inj _ htd _ (Nat.le_refl _) (by rw [W.last];omega)))]
    have ht2:2*tt+2≤d:=by omega
    have l1:=W.lt (2*tt+1) (by omega)
    have l2:=W.lt (2*tt+2) ht2
    refine iteT ⟨_,rfl,fld_at hB6 G.B.cl G.B.n3 b3 ?_⟩
    refine ⟨_,rfl,_,rfl,_,_,rfl,rfl,_,rfl,_,_,rfl,rfl,cp,ia6,_,_,_,rfl,rfl,SqL.of (wb6.sb _ _ hia6),at_kid l1 (Gw.s1 _ (by omega)),?_⟩
    have hcin:=kid_mem l1
    have hcid:=F.kin R hR _ l1
    obtain ⟨dxc,pac,iac,jac,cvc,hBc,hpac,hiac,hjac,hcmc⟩:=wb6.bod _ hcid
    rw [opn_in hcin] at hBc hpac hiac hjac hcmc
    refine ⟨_,rfl,_,C.B,dxc,_,rfl,hBc,G.B.cl,G.B.n6,bF_few,?_⟩
    rw [b_mark]
    have wb7:=wb6.setMk (m:=1) (o:=.ins C.B dxc (bF (.ref pac) (.int ((S.bd (Bl.kid S R (wf (2*tt+1)))).tip:Int)) (.ref iac) (.ref jac) (.int (S.bd (Bl.kid S R (wf (2*tt+1)))).pr) (.int 1) cvc)) hcin hcid ⟨dxc,pac,iac,jac,cvc,upd_same,hpac,hiac,hjac,hcmc⟩
    generalize upd H6 (Bl.kid S R (wf (2*tt+1))) (.ins C.B dxc (bF (.ref pac) (.int ((S.bd (Bl.kid S R (wf (2*tt+1)))).tip:Int)) (.ref iac) (.ref jac) (.int (S.bd (Bl.kid S R (wf (2*tt+1)))).pr) (.int 1) cvc))=H7 at *
    obtain ⟨ij,hij,hjx,ejl⟩:=Gw.jx (2*tt) (by omega)
    refine ⟨_,rfl,_,rfl,_,rfl,_,_,rfl,rfl,_,rfl,?_⟩
    refine ⟨A,B6,_,R,_,way,ij,rfl,wb7,(by rw [RB,cn];exact ljt),hR,(by rw [cn];exact hij),(by rw [cn];exact hjx),fun t8 H8 s8 ht8=>?_⟩
    rw [jn,ejl] at ht8
    have wb8:=(wb7.same s8).addT ht8
    have sB8:=sB.trans (same_add (wb7.same s8).sb ht8)
    obtain ⟨dx8,pa8,ia8,ja8,cv8,hB8,hpa8,hia8,hja8,hcm8⟩:=wb8.bod R hR
    rw [RB] at hB8 hpa8 hia8 hja8 hcm8
    refine ⟨_,rfl,_,rfl,_,_,rfl,rfl,.inl ⟨by decide,by decide⟩,_,_,rfl,rfl,_,rfl,_,_,rfl,rfl,cp,?_⟩
    dsimp only
    rw [Gw.s2 (2*tt) (by omega)]
    refine ⟨_,rfl,fld_at hB8 G.B.cl G.B.n3 b3 ?_⟩
    refine ⟨_,rfl,ia8,_,_,_,rfl,rfl,SqL.of (wb8.sb _ _ hia8),at_kid l2 rfl,_,rfl,?_⟩
    refine ⟨A,_,_,_,t8,jl (2*tt+1),rfl,wb8,F.kin R hR _ l2,upd_same,fun H9 wb9=>?_⟩
    rw [opn_mark (kid_mem l2)] at wb9
    exact ⟨d-2*(tt+1),by omega,tt+1,_,_,_,_,_,rfl,sB8,wb9,og.step F hR W ht2,by omega,rfl⟩
  ·intro σ H0 Q0 Q1 hq h
   obtain ⟨x,ex,y,ey,e1,c,e2,h⟩:=h
   exact ⟨x,ex,y,ey,e1,c,e2,hq _ _ h⟩
end
end Rk08_the_largest_pairing
namespace Rk08_the_largest_pairing
open PySem L2 PyProof.Rows R K3 BW
open M21 (oN lI lO lI_at lO_at lf_ix lI_set while_m putF_few)
open De (lf lf_len lf_get)
section
variable {P:Program}{w:World}{K:PySem.W.Frag}{mg:Str→Option Value}{base:Heap}{C:Cs}
seal PA PE PS PSs PT PW
def Stp (C:Cs) (A:Ad) (B:Hp) (S:Bl.St) (Q:Hp→Prop):Prop:=∀ H' B' S' rk',Same B B'→Wb C A B' H' S'→Bl.Ok S' rk'→Bl.mu S' < Bl.mu S→S'.n=S.n→S'.lk=S.lk→Q H'
def spJb (C:Cs):Sp:=fun vs H Q _=>∃ (A:Ad) (B:Hp) (S:Bl.St) (rk:Nat→Nat) (u v:Nat),vs = [.ref A.w,.int (u:Int),.int (v:Int)]∧Wb C A B H S∧Bl.Ok S rk∧u < S.n∧v < S.n∧(S.bd (S.out u)).mark=1∧(S.bd (S.out v)).mark=1∧S.out u≠S.out v∧Bl.tight S u v ∧
 Stp C A B S (Q .non)
theorem scJb:FnScope ["web","u","v","one","other"] ["web","u","v"] (defScope sJb):=⟨rfl,rfl,rfl,by decide +kernel,rfl,by decide +kernel,by decide +kernel⟩
theorem okJb (G:Pg K mg C):FnOk P w K mg base CX0 44 G.dJb.f G.dJb.fd ["web","u","v"] (spJb C):=by
 have GLr:FnOk P w K mg base CX0 2 G.dLr.f G.dLr.fd ["web","place"] (spLr C):=okLr G
 have GRo:FnOk P w K mg base CX0 1 G.dRo.f G.dRo.fd ["web","place","way"] (spRo C):=okRo G
 have GCp:FnOk P w K mg base CX0 43 G.dCp.f G.dCp.fd ["web","place"] (spCp C):=okCp G
 have GTi:FnOk P w K mg base CX0 1 G.dTi.f G.dTi.fd ["self","one","other"] (spTi C):=okTi G
 have GBt:FnOk P w K mg base CX0 2 G.dBt.f G.dBt.fd ["web"] (spBt C):=okBt G
 have GCr:FnOk P w K mg base CX0 4 G.dCr.f G.dCr.fd ["web","one","other","link"] (spCr C):=okCr G
 refine G.dJb.F.ok scJb (fun vs H Q E h=>?_) (fun cdv Ar outer s H vs Q E hr h=>?_)
 ·obtain ⟨_,_,_,_,_,_,rfl,_⟩:=h
  rfl
 ·obtain ⟨A,B,S,rk,u,v,rfl,wb,O,hu,hv,eu,ev,ne,tg,q⟩:=h
  have hu64:=hr.units
  have hu1:(Ar.deeper (envOfC "join_bodies" (defScope sJb) s.heap.objs.size G.dJb.f cdv)).units+1 < cLine:=by have:=hr.units;omega
  have F:=O.fo
  have n40:=wb.n40
  have ou:=om_out hu
  have ov:=om_out hv
  refine ⟨_,(pss_cons (ps_set (i:=3) scJb.nd rfl (by first | exact Or.inl rfl | exact Or.inr rfl) (pe_call GLr (hr.mono (by omega)) (by rfl) G.dLr.m G.dLr.F.kp G.dLr.b .nil pass0 (pa_cons (pv 0) (pa_cons (pv 1) pa_nil))))
   (pss_cons (ps_set (i:=4) scJb.nd rfl (by first | exact Or.inl rfl | exact Or.inr rfl) (pe_call GLr (hr.mono (by omega)) (by rfl) G.dLr.m G.dLr.F.kp G.dLr.b .nil pass0 (pa_cons (pv 0) (pa_cons (pv 2) pa_nil))))
   (pss_cons (ps_if (pt_cmpR (op_neI hu1 G.B.cmp) (pe_call GRo (hr.mono (by omega)) (by rfl) G.dRo.m G.dRo.F.kp G.dRo.b .nil pass0 (pa_cons (pv 0) (pa_cons (pv 1) (pa_cons (pv 3) pa_nil)))) (pe_call GRo (hr.mono (by omega)) (by rfl) G.dRo.m G.dRo.F.kp G.dRo.b .nil pass0 (pa_cons (pv 0) (pa_cons (pv 2) (pa_cons (pv 4) pa_nil)))) (nomark _)) (pss_cons (ps_expr (pe_call GCp (hr.mono (by omega)) (by rfl) G.dCp.m G.dCp.F.kp G.dCp.b .nil pass0 (pa_cons (pv 0) (pa_cons (pv 1) pa_nil))))
   (pss_cons (ps_expr (pe_call GCp (hr.mono (by omega)) (by rfl) G.dCp.m G.dCp.F.kp G.dCp.b .nil pass0 (pa_cons (pv 0) (pa_cons (pv 2) pa_nil))))
   (pss_cons (ps_expr (pe_meth (pv 0) G.W.cl G.dTi.m GTi (hr.mono (by omega)) G.dTi.b .nil pass0 (pa_cons (pv 1) (pa_cons (pv 2) pa_nil))))
   (pss_cons (ps_expr (pe_call GBt (hr.mono (by omega)) (by rfl) G.dBt.m G.dBt.F.kp G.dBt.b .nil pass0 (pa_cons (pv 0) pa_nil)))
   (pss_one ps_retN))))) pss_nil)
   (pss_cons (ps_while PassesOwn.never (PW.pt (pw_and (pt_truth (pv 3) (fun _=>rfl)) (pw_and (pt_truth (pv 4) (fun _=>rfl)) (pw_and1 (pt_cmpR (op_eqD hu64) (pe_ix ix_list (pv 3) (pe_un un_neg pe_int) (fun _ _=>rfl)) (pe_ix ix_list (pv 4) (pe_un un_neg pe_int) (fun _ _=>rfl)) (nomark _)))))) (pss_cons (ps_expr (pe_bm0 PySem.F.plainAttrs_list PySem.F.slot_list_pop PySem.F.type_list_pop mt_pop (pv 3)))
   (pss_one (ps_expr (pe_bm0 PySem.F.plainAttrs_list PySem.F.slot_list_pop PySem.F.type_list_pop mt_pop (pv 4))))))
   (pss_one (ps_expr (pe_call GCr (hr.mono (by omega)) (by rfl) G.dCr.m G.dCr.F.kp G.dCr.b .nil pass0 (pa_cons (pv 0) (pa_cons (pv 3) (pa_cons (pv 4) (pa_cons (pe_tup (pa_cons (pv 1) (pa_cons (pv 2) pa_nil))) pa_nil))))))))))),?_⟩
  refine ⟨_,rfl,_,rfl,A,B,S,rk,u,rfl,wb,O,hu,(by rw [eu];decide),fun l1 ps1 c1 H1 s1 n1 j1 pa1 oc1 mc1 rt1=>?_⟩
  have wb1:=wb.same s1
  refine ⟨_,rfl,_,rfl,A,B,S,rk,v,rfl,wb1,O,hv,(by rw [ev];decide),fun l2 ps2 c2 H2 s2 n2 j2 pa2 oc2 mc2 rt2=>?_⟩
  have wb2:=wb1.same s2
  have j1o:=j1
  have j1:=j1.same s2
  refine ⟨_,rfl,_,rfl,_,rfl,A,B,S,u,l1,ps1,c1,rfl,wb2,hu,j1,(pa1.cn O ou).1,(fun x hx=>(pa1.lks O ou x hx).2.1),?_⟩
  refine ⟨_,rfl,_,rfl,_,rfl,A,B,S,v,l2,ps2,c2,rfl,wb2,hv,j2,(pa2.cn O ov).1,(fun x hx=>(pa2.lks O ov x hx).2.1),?_⟩
  obtain ⟨dx1,pa1',ia1,ja1,cv1,hB1,_⟩:=wb2.bod c1 (om_ids F oc1)
  obtain ⟨dx2,pa2',ia2,ja2,cv2,hB2,_⟩:=wb2.bod c2 (om_ids F oc2)
  refine ⟨c1,c2,dx1,dx2,_,_,rfl,rfl,hB1,hB2,_,rfl,?_⟩
  have u1:=(pa1.up O ou mc1 rt1).1 eu
  have u2:=(pa2.up O ov mc2 rt2).1 ev
  by_cases ec:c1=c2
  ·rw [decide_eq_false (fun z=>z ec)]
   refine iteF ?_
   subst ec
   obtain ⟨ks1,hk1,pk1⟩:=j1
   obtain ⟨ks2,hk2,pk2⟩:=j2
   have nl:l1≠l2:=fun z=>by
    rw [z] at j1o
    obtain ⟨js,h,_⟩:=j1o
    rw [n2] at h;cases h
   have n2':H l2=none:=s1.free n2
   refine while_m (fun n σ H3=>∃ (js1 js2:List Addr) (o1 o2:List (Nat×Nat)) (t:Nat),σ = [some (.ref A.w),some (.int (u:Int)),some (.int (v:Int)),some (.ref l1),some (.ref l2)]∧Same H H3∧H3 l1=some (.lst (js1.map V.ref))∧JLs H3 js1 o1∧H3 l2=some (.lst (js2.map V.ref))∧JLs H3 js2 o2∧Bl.Pa S (S.out u) o1 t∧Bl.Pa S (S.out v) o2 t∧n=o1.length)
    _ ⟨ks1,ks2,ps1,ps2,c1,rfl,s1.trans s2,hk1,pk1,hk2,pk2,pa1,pa2,rfl⟩ ?_ ?_
   ·rintro n σ H3 ⟨js1,js2,o1,o2,t,rfl,s3,h1,q1,h2,q2,P1,P2,rfl⟩
    refine and_by (decide (o1 ≠ []∧o2 ≠ []∧o1.getLast? = o2.getLast?)) (fun Q hq=>?_) ?_
    ·refine ⟨_,rfl,_,tru_lst h1,?_⟩
     rw [map_empty,q1.nil_iff]
     rcases List.eq_nil_or_concat o1 with rfl | ⟨r1,x1,rfl⟩
     ·rw [decide_eq_false (fun z=>z.1 rfl)] at hq
      exact iteF hq
     rw [List.concat_eq_append] at *
     rw [show (!(r1 ++ [x1]).isEmpty)=true by cases r1 <;> rfl]
     refine iteT ⟨_,rfl,_,tru_lst h2,?_⟩
     rw [map_empty,q2.nil_iff]
     rcases List.eq_nil_or_concat o2 with rfl | ⟨r2,x2,rfl⟩
     ·rw [decide_eq_false (fun z=>z.2.1 rfl)] at hq
      exact iteF hq
     rw [List.concat_eq_append] at *
     rw [show (!(r2 ++ [x2]).isEmpty)=true by cases r2 <;> rfl]
     obtain ⟨j1',t1,rfl,_,ht1⟩:=q1.last
     obtain ⟨j2',t2,rfl,_,ht2⟩:=q2.last
     refine iteT ⟨_,rfl,_,rfl,l1,_,_,_,rfl,rfl,SqL.of h1,(by rw [List.map_append];exact atI_last _ _),?_⟩
     refine ⟨_,rfl,_,rfl,l2,_,_,_,rfl,rfl,SqL.of h2,(by rw [List.map_append];exact atI_last _ _),?_⟩
     refine ⟨dp (dN x1),dp (dN x2),rd2 ht1,rd2 ht2,dp_shaped _,dp_shaped _,_,rfl,?_⟩
     rw [dp_eqv,dN_eq]
     have e:decide (x1=x2)=decide (r1 ++ [x1] ≠ []∧r2 ++ [x2] ≠ []∧(r1 ++ [x1]).getLast? = (r2 ++ [x2]).getLast?):=by
      refine decide_eq_decide.mpr ⟨fun z=>⟨by simp,by simp,by simp [z]⟩,fun z=>?_⟩
      have:=z.2.2
      simpa using this
     rw [e]
     exact hq
    ·by_cases hb:o1 ≠ []∧o2 ≠ []∧o1.getLast? = o2.getLast?
     ·rw [decide_eq_true hb]
      rcases List.eq_nil_or_concat o1 with rfl | ⟨r1,x1,rfl⟩
      ·exact absurd rfl hb.1
      rcases List.eq_nil_or_concat o2 with rfl | ⟨r2,x2,rfl⟩
      ·exact absurd rfl hb.2.1
      rw [List.concat_eq_append,List.concat_eq_append] at *
      have ex:x1=x2:=by simpa using hb.2.2
      subst ex
      obtain ⟨j1',t1,rfl,q1',ht1⟩:=q1.last
      obtain ⟨j2',t2,rfl,q2',ht2⟩:=q2.last
      refine iteT ⟨_,rfl,.inl ⟨rfl,_,SqL.of h1⟩,l1,_,_,rfl,rfl,h1,pop_at,?_⟩
      rw [pop_drop]
      have h2':upd H3 l1 (.lst (j1'.map V.ref)) l2=some (.lst ((j2' ++ [t2]).map V.ref)):=by rw [upd_ne (Ne.symm nl)];exact h2
      have q1'':=JLs.upd (o:=.lst (j1'.map V.ref)) h1 q1'
      have q2'':=JLs.upd (o:=.lst (j1'.map V.ref)) h1 q2'
      have h1':upd H3 l1 (.lst (j1'.map V.ref)) l1=some (.lst (j1'.map V.ref)):=upd_same
      have s4:Same H (upd H3 l1 (.lst (j1'.map V.ref))):=same_upd s3 n1
      generalize upd H3 l1 (.lst (j1'.map V.ref))=H4 at *
      refine ⟨_,rfl,.inl ⟨rfl,_,SqL.of h2'⟩,l2,_,_,rfl,rfl,h2',pop_at,?_⟩
      rw [pop_drop]
      refine ⟨r1.length,by rw [List.length_append];exact Nat.lt_succ_self _,j1',j2',r1,r2,_,rfl,same_upd s4 n2',by rw [upd_ne nl];exact h1',JLs.upd h2' q1'',upd_same,JLs.upd h2' q2'',P1.pop O ou,P2.pop O ov,rfl⟩
     ·rw [decide_eq_false hb]
      refine iteF ?_
      have hl:o1 = []∨o2 = []∨o1.getLast? ≠ o2.getLast?:=by
       by_cases a1:o1 = []
       ·exact .inl a1
       ·by_cases a2:o2 = []
        ·exact .inr (.inl a2)
        ·exact .inr (.inr fun z=>hb ⟨a1,a2,z⟩)
      have mt:=Bl.top_even O ou ov eu ev P1 P2 hl
      obtain ⟨Rr,et⟩:=Bl.ring_of O hu hv eu ev ne tg P1 P2 mt hl
      have wb3:=wb.same s3
      refine ⟨_,rfl,_,rfl,_,rfl,_,rfl,_,rfl,(by show 2≤sizeLine;decide),fun tt htt=>?_⟩
      have s4:=same_new (o:=.tup [.int (u:Int),.int (v:Int)]) htt
      have wb4:=wb3.same s4
      refine ⟨A,B,S,rk,l1,l2,tt,u,v,o1,o2,rfl,wb4,F,⟨js1,s4 _ _ h1,q1.same s4⟩,⟨js2,s4 _ _ h2,q2.same s4⟩,upd_same,Nat.le_trans (pa_len O P1 ou) n40,Nat.le_trans (pa_len O P2 ov) n40,Rr,fun N ps H5 B5 sB5 nN nids hps nd wb5=>?_⟩
      exact q H5 B5 _ _ sB5 wb5 (Bl.close_ok O Rr nids hps nd) (Bl.close_mu O Rr nids hps) rfl rfl
   ·intro σ H0 Q0 Q1 hq h
    obtain ⟨x,ex,k,hk,h⟩:=h
    refine ⟨x,ex,k,hk,?_⟩
    cases k with
    | false=>exact hq _ _ h
    | true =>
     obtain ⟨y,ey,k,hk,h⟩:=h
     refine ⟨y,ey,k,hk,?_⟩
     cases k with
     | false=>exact hq _ _ h
     | true =>
      obtain ⟨a1,e1,a2,e2,p1,x1,i1,v1,e3,e4,e5,e6,b1,g1,b2,g2,p2,x2,i2,v2,g3,g4,g5,g6,da,db,r1,r2,r3,r4,c,e7,h⟩:=h
      exact ⟨a1,e1,a2,e2,p1,x1,i1,v1,e3,e4,e5,e6,b1,g1,b2,g2,p2,x2,i2,v2,g3,g4,g5,g6,da,db,r1,r2,r3,r4,c,e7,hq _ _ h⟩
  ·rw [decide_eq_true ec]
   refine iteT ?_
   refine ⟨_,rfl,_,rfl,A,B,S,S,rk,(fun _=>False),c1,u,rfl,wb2,O,Bl.Stat.refl S,O.ho,(fun _ _ _ z=>z),(fun p _ _=>⟨rfl,fun _ _=>rfl⟩),hu,eu,u1,fun H3 S3 C3 wb3=>?_⟩
   have ho3:Bl.Ho S (fun b=>b=S.out u) S3:=C3.ho.imp fun b=>⟨(fun z=>by
    rcases z with z | z | ⟨l,z,_⟩
    ·exact z.elim
    ·exact z
    ·cases z),fun z=>.inr (.inl z)⟩
   have tu:Bl.Te S c1 (S.out u):=.inl ⟨eu,u1⟩
   refine ⟨_,rfl,_,rfl,A,B,S,S3,rk,(fun b=>b=S.out u),c2,v,rfl,wb3,O,C3.ho.st,ho3,(fun p hp ht z=>ec (tu.fn (by rw [←z];exact ht))),(fun p hp ht=>C3.ot p hp fun z=>ec (z.fn ht)),hv,ev,u2,fun H4 S4 C4 wb4=>?_⟩
   have st4:=C4.ho.st
   refine ⟨_,rfl,A.w,A.dw,_,rfl,wb4.sb _ _ wb4.web,noTi,_,rfl,_,rfl,A,B,S4,u,v,rfl,wb4,(by rw [st4.n];exact hu),(by rw [st4.n];exact hv),fun H5 wb5=>?_⟩
   obtain ⟨P5,st5,no5,qq,hq,hq1,hq2⟩:=Bl.augment O hu hv eu u1 u2 ec tg C3 C4
   refine ⟨_,rfl,A,B,_,rfl,wb5,P5.fo,P5.ma,fun H6 B6 sB6 wb6=>?_⟩
   exact q H6 B6 _ _ sB6 wb6 (Bl.begin_ok P5) (Bl.aug_mu st5 no5 hq hq1 hq2) st5.n st5.lk
end
end Rk08_the_largest_pairing
namespace Rk08_the_largest_pairing
open PySem L2 PyProof.Rows R K3 BW
open M21 (oN lI lO lI_at lO_at lf_ix lI_set while_m putF_few)
open De (lf lf_len lf_get)
section
variable {P:Program}{w:World}{K:PySem.W.Frag}{mg:Str→Option Value}{base:Heap}{C:Cs}
seal PA PE PS PSs PT PW
def spUl (C:Cs):Sp:=fun vs H Q _=>∃ (A:Ad) (B:Hp) (S:Bl.St) (rk:Nat→Nat) (u v:Nat),vs = [.ref A.w,.int (u:Int),.int (v:Int)]∧Wb C A B H S∧Bl.Ok S rk∧u < S.n∧v < S.n∧0 < (S.bd (S.out u)).mark+(S.bd (S.out v)).mark∧S.out u≠S.out v∧Bl.tight S u v ∧
 Stp C A B S (Q .non)
theorem scUl:FnScope ["web","u","v"] ["web","u","v"] (defScope sUl):=⟨rfl,rfl,rfl,by decide +kernel,rfl,by decide +kernel,by decide +kernel⟩
theorem okUl (G:Pg K mg C):FnOk P w K mg base CX0 45 G.dUl.f G.dUl.fd ["web","u","v"] (spUl C):=by
 have GGr:FnOk P w K mg base CX0 2 G.dGr.f G.dGr.fd ["web","ahead","place"] (spGr C):=okGr G
 have GJb:FnOk P w K mg base CX0 44 G.dJb.f G.dJb.fd ["web","u","v"] (spJb C):=okJb G
 refine G.dUl.F.ok scUl (fun vs H Q E h=>?_) (fun cdv Ar outer s H vs Q E hr h=>?_)
 ·obtain ⟨_,_,_,_,_,_,rfl,_⟩:=h
  rfl
 ·obtain ⟨A,B,S,rk,u,v,rfl,wb,O,hu,hv,hs,ne,tg,q⟩:=h
  have F:=O.fo
  have grw:∀ {u v:Nat},u < S.n→v < S.n→(S.bd (S.out u)).mark=1→(S.bd (S.out v)).mark=0→Bl.tight S u v→∃ y,(S.bd (S.out v)).tip < S.n∧S.mt (S.bd (S.out v)).tip=some y∧y < S.n∧S.out y≠S.out v∧Bl.Ok (Bl.growS S u v y) (fun b=>if b=S.out v then rk (S.out u)+1 else if b=S.out y then rk (S.out u)+2 else rk b)∧Bl.mu (Bl.growS S u v y) < Bl.mu S:=fun {u v} hu hv eu ev tg=>by
   obtain ⟨y,hy⟩:=Bl.free_tip O hv ev
   obtain ⟨m1,m2,_⟩:=O.ma.ma v hv y hy
   exact ⟨y,(om_tip F O.ma (om_out hv)).1,hy,m1,m2,Bl.grow_ok O hu hv eu ev tg hy,Bl.grow_mu O hv ev hy⟩
  obtain ⟨dxv,pav,iav,jav,cvv,hBv,_⟩:=wb.bod _ (F.out v hv).1
  obtain ⟨dxu,pau,iau,jau,cvu,hBu,_⟩:=wb.bod _ (F.out u hu).1
  refine ⟨_,(pss_one (ps_if (pt_cmpR op_eq (pe_fld (pe_ix ix_list (pe_fld (pv 0) rfl) (pv 2) (fun _ _=>rfl)) rfl) (pe_glob (v:=.int 0) (by rfl) G.gF ⟨_,rfl⟩) (nomark _)) (pss_one (ps_expr (pe_call GGr (hr.mono (by omega)) (by rfl) G.dGr.m G.dGr.F.kp G.dGr.b .nil pass0 (pa_cons (pv 0) (pa_cons (pv 1) (pa_cons (pv 2) pa_nil)))))) (pss_one (ps_if (pt_cmpR op_eq (pe_fld (pe_ix ix_list (pe_fld (pv 0) rfl) (pv 1) (fun _ _=>rfl)) rfl) (pe_glob (v:=.int 0) (by rfl) G.gF ⟨_,rfl⟩) (nomark _)) (pss_one (ps_expr (pe_call GGr (hr.mono (by omega)) (by rfl) G.dGr.m G.dGr.F.kp G.dGr.b .nil pass0 (pa_cons (pv 0) (pa_cons (pv 2) (pa_cons (pv 1) pa_nil)))))) (pss_one (ps_expr (pe_call GJb (hr.mono (by omega)) (by rfl) G.dJb.m G.dJb.F.kp G.dJb.b .nil pass0 (pa_cons (pv 0) (pa_cons (pv 1) (pa_cons (pv 2) pa_nil)))))))))),?_⟩
  refine ⟨_,rfl,fld_at (wb.sb _ _ wb.web) G.W.cl G.W.n3 w3 ?_⟩
  refine ⟨_,rfl,A.o,_,_,_,rfl,rfl,SqL.of wb.ho,at_out hv,fld_at hBv G.B.cl G.B.n6 b6 ?_⟩
  refine ⟨rfl,_,rfl,?_⟩
  rw [int_dec]
  by_cases ev:(S.bd (S.out v)).mark=0
  ·rw [decide_eq_true ev]
   have eu:(S.bd (S.out u)).mark=1:=by
    rcases Bl.link_marks O hu hv hs with ⟨a,b⟩ | ⟨a,b⟩ | ⟨a,b⟩
    ·exact a
    ·rw [ev] at b;cases b
    ·exact a
   obtain ⟨y,h1,h2,h3,h4,h5,h6⟩:=grw hu hv eu ev tg
   refine iteT ⟨_,rfl,_,rfl,_,rfl,A,B,S,u,v,y,rfl,wb,F,hu,hv,h1,h2,h3,h4,fun H' B' sB wb'=>?_⟩
   exact q H' B' _ _ sB wb' h5 h6 rfl rfl
  rw [decide_eq_false ev]
  refine iteF ⟨_,rfl,fld_at (wb.sb _ _ wb.web) G.W.cl G.W.n3 w3 ?_⟩
  refine ⟨_,rfl,A.o,_,_,_,rfl,rfl,SqL.of wb.ho,at_out hu,fld_at hBu G.B.cl G.B.n6 b6 ?_⟩
  refine ⟨rfl,_,rfl,?_⟩
  rw [int_dec]
  by_cases eu:(S.bd (S.out u)).mark=0
  ·rw [decide_eq_true eu]
   have ev:(S.bd (S.out v)).mark=1:=by
    rcases Bl.link_marks O hu hv hs with ⟨a,b⟩ | ⟨a,b⟩ | ⟨a,b⟩
    ·exact absurd b ev
    ·exact b
    ·exact b
   obtain ⟨y,h1,h2,h3,h4,h5,h6⟩:=grw hv hu ev eu (Bl.tight_comm tg)
   refine iteT ⟨_,rfl,_,rfl,_,rfl,A,B,S,v,u,y,rfl,wb,F,hv,hu,h1,h2,h3,h4,fun H' B' sB wb'=>?_⟩
   exact q H' B' _ _ sB wb' h5 h6 rfl rfl
  rw [decide_eq_false eu]
  have ms:(S.bd (S.out u)).mark=1∧(S.bd (S.out v)).mark=1:=by
   rcases Bl.link_marks O hu hv hs with ⟨a,b⟩ | ⟨a,b⟩ | ⟨a,b⟩
   ·exact absurd b ev
   ·exact absurd a eu
   ·exact ⟨a,b⟩
  exact iteF ⟨_,rfl,_,rfl,_,rfl,A,B,S,rk,u,v,rfl,wb,O,hu,hv,ms.1,ms.2,ne,tg,q⟩
def spTl (C:Cs):Sp:=fun vs H Q _=>∃ (A:Ad) (B:Hp) (S:Bl.St) (rk:Nat→Nat),vs = [.ref A.w]∧Wb C A B H S∧Bl.Ok S rk ∧
 ∀ v H',Same H H'→TlR S S.lk H' v→Q v H'
theorem scTl:FnScope ["web","told","u","v","twice","one","other","rate","rise"] ["web"] (defScope sTl):=⟨rfl,rfl,rfl,by decide +kernel,rfl,by decide +kernel,by decide +kernel⟩
theorem okTl (G:Pg K mg C):FnOk P w K mg base CX0 1 G.dTl.f G.dTl.fd ["web"] (spTl C):=by
 refine G.dTl.F.ok scTl (fun vs H Q E h=>?_) (fun cdv Ar outer s H vs Q E hr h=>?_)
 ·obtain ⟨_,_,_,_,rfl,_⟩:=h
  rfl
 ·obtain ⟨A,B,S,rk,rfl,wb,O,q⟩:=h
  have hu1:(Ar.deeper (envOfC "tightest_link" (defScope sTl) s.heap.objs.size G.dTl.f cdv)).units+1 < cLine:=by have:=hr.units;omega
  have F:=O.fo
  obtain ⟨js,hjs,pjs⟩:=wb.lk
  have hjsH:=wb.sb _ _ hjs
  refine ⟨_,(pss_cons (ps_set (i:=1) scTl.nd rfl (by first | exact Or.inl rfl | exact Or.inr rfl) pe_non)
   (pss_cons (ps_for PassesOwn.never rfl (pi_list (pe_fld (pv 0) rfl)) (pg_tup rfl (pgs_cons (pg_name (i:=2) scTl.nd rfl (by first | exact Or.inl rfl | exact Or.inr rfl)) (pgs_cons (pg_name (i:=3) scTl.nd rfl (by first | exact Or.inl rfl | exact Or.inr rfl)) (pgs_cons (pg_name (i:=4) scTl.nd rfl (by first | exact Or.inl rfl | exact Or.inr rfl)) pgs_nil)))) (pss_cons (ps_set (i:=5) scTl.nd rfl (by first | exact Or.inl rfl | exact Or.inr rfl) (pe_ix ix_list (pe_fld (pv 0) rfl) (pv 2) (fun _ _=>rfl)))
   (pss_cons (ps_set (i:=6) scTl.nd rfl (by first | exact Or.inl rfl | exact Or.inr rfl) (pe_ix ix_list (pe_fld (pv 0) rfl) (pv 3) (fun _ _=>rfl)))
   (pss_cons (ps_set (i:=7) scTl.nd rfl (by first | exact Or.inl rfl | exact Or.inr rfl) (pe_op op_add (pe_fld (pv 5) rfl) (pe_fld (pv 6) rfl)))
   (pss_one (ps_if (PW.pt (pw_and (pt_cmpR op_gt (pv 7) pe_int (nomark _)) (pw_and1 (pt_cmpR (op_neI hu1 G.B.cmp) (pv 5) (pv 6) (nomark _))))) (pss_cons (ps_set (i:=8) scTl.nd rfl (by first | exact Or.inl rfl | exact Or.inr rfl) (pe_op op_fdiv (pe_op op_sub (pe_op op_sub (pv 4) (pe_ix ix_list (pe_fld (pv 0) rfl) (pv 2) (fun _ _=>rfl))) (pe_ix ix_list (pe_fld (pv 0) rfl) (pv 3) (fun _ _=>rfl))) (pv 7)))
   (pss_cons (ps_if (PW.pt (pw_or (pt_cmpR op_isN (pv 1) pe_non (nomark _)) (pw_or1 (pt_cmpR op_lt (pv 8) (pe_ix ix_tup (pv 1) pe_int (fun _ _=>rfl)) (nomark _))))) (pss_one (ps_set (i:=1) scTl.nd rfl (by first | exact Or.inl rfl | exact Or.inr rfl) (pe_tup (pa_cons (pv 8) (pa_cons (pv 2) (pa_cons (pv 3) pa_nil)))))) pss_nil)
   (pss_one (ps_if (pt_cmpR op_eq (pv 8) pe_int (nomark _)) (pss_one (ps_ret (pv 1))) pss_nil)))) pss_nil))))))
   (pss_one (ps_ret (pv 1))))),?_⟩
  refine ⟨_,rfl,fld_at (wb.sb _ _ wb.web) G.W.cl G.W.n1 w1 ?_⟩
  refine ⟨A.l,rfl,⟨_,SqL.of hjsH⟩,for_list (xs:=js.map V.ref) (fun k σ H2=>∃ (v:V) (x2 x3 x4 x5 x6 x7 x8:Option V),σ = [some (.ref A.w),some v,x2,x3,x4,x5,x6,x7,x8]∧Same H H2∧TlR S (S.lk.take k) H2 v) ⟨.non,_,_,_,_,_,_,_,rfl,Same.refl _,.inl ⟨rfl,fun x hx=>by rw [List.take_zero] at hx;cases hx⟩⟩ ?_ ?_ ?_⟩
  ·rintro k σ H2 hk ⟨_,_,_,_,_,_,_,_,rfl,s2,_⟩
   exact SqL.of (s2 _ _ hjsH)
  ·rintro k z σ H2 hz ⟨tv,x2,x3,x4,x5,x6,x7,x8,rfl,s2,tl⟩
   rw [List.getElem?_map] at hz
   obtain ⟨t,ht,rfl⟩:=Option.map_eq_some_iff.mp hz
   obtain ⟨x,hx,htx⟩:=pairedGetL pjs ht
   have htH:=s2 _ _ (wb.sb _ _ htx)
   obtain ⟨u,v,tw⟩:=x
   have hlk:=O.lk.lt u v tw (List.mem_of_getElem? hx)
   have hu:u < S.n:=by omega
   have hv:v < S.n:=by omega
   have wb2:=wb.same s2
   obtain ⟨dxv,pav,iav,jav,cvv,hBv,_⟩:=wb2.bod _ (F.out v hv).1
   obtain ⟨dxu,pau,iau,jau,cvu,hBu,_⟩:=wb2.bod _ (F.out u hu).1
   have tk:S.lk.take (k+1)=S.lk.take k ++ [(u,v,tw)]:=by rw [List.take_add_one,hx];rfl
   have hmx:(u,v,tw)∈S.lk.take (k+1):=by rw [tk];exact List.mem_append_right _ (List.mem_singleton.mpr rfl)
   refine ⟨t,_,rfl,SqT.of htH,rfl,_,_,rfl,_,_,rfl,_,_,rfl,rfl,?_⟩
   refine ⟨_,rfl,fld_at (wb2.sb _ _ wb2.web) G.W.cl G.W.n3 w3 ?_⟩
   refine ⟨_,rfl,A.o,_,_,_,rfl,rfl,SqL.of wb2.ho,at_out hu,?_⟩
   refine ⟨_,rfl,fld_at (wb2.sb _ _ wb2.web) G.W.cl G.W.n3 w3 ?_⟩
   refine ⟨_,rfl,A.o,_,_,_,rfl,rfl,SqL.of wb2.ho,at_out hv,?_⟩
   refine ⟨_,rfl,fld_at hBu G.B.cl G.B.n6 b6 ?_⟩
   refine ⟨_,rfl,fld_at hBv G.B.cl G.B.n6 b6 ?_⟩
   refine ⟨_,_,rfl,rfl,?_⟩
   refine ⟨_,rfl,_,_,rfl,rfl,_,rfl,?_⟩
   by_cases h0:(S.bd (S.out u)).mark+(S.bd (S.out v)).mark > 0
   ·rw [decide_eq_true h0]
    refine iteT ⟨_,rfl,_,rfl,S.out u,S.out v,dxu,dxv,_,_,rfl,rfl,hBu,hBv,_,rfl,?_⟩
    by_cases hne:S.out u=S.out v
    ·rw [decide_eq_false (fun z=>z hne)]
     exact iteF ⟨tv,_,_,_,_,_,_,_,rfl,s2,by rw [tk];exact tl.skip fun z=>z.1 hne⟩
    ·rw [decide_eq_true hne]
     have hb:bnd S (u,v,tw):=⟨hne,h0⟩
     refine iteT ⟨_,rfl,_,rfl,fld_at (wb2.sb _ _ wb2.web) G.W.cl G.W.n4 w4 ?_⟩
     refine ⟨_,rfl,A.s,_,_,_,rfl,rfl,SqL.of wb2.hs,at_sm hu,_,_,rfl,rfl,_,rfl,fld_at (wb2.sb _ _ wb2.web) G.W.cl G.W.n4 w4 ?_⟩
     refine ⟨_,rfl,A.s,_,_,_,rfl,rfl,SqL.of wb2.hs,at_sm hv,_,_,rfl,rfl,_,rfl,_,_,rfl,rfl,⟨h0,by rcases O.tr.mks u hu with z | z | z <;> rcases O.tr.mks v hv with y | y | y <;> rw [z,y] <;> decide⟩,?_⟩
     refine ⟨_,rfl,rfl,_,rfl,?_⟩
     rcases tl with ⟨rfl,non⟩ | ⟨t0,y,rfl,ht0,hy,hby,hmin⟩
     ·refine iteT (iteT ?_)
      refine ⟨_,rfl,_,rfl,_,rfl,(by show 3≤sizeLine;decide),fun n hn=>?_⟩
      have s3:=same_new (o:=.tup [.int (rs S (u,v,tw)),.int (u:Int),.int (v:Int)]) hn
      have tl3:TlR S (S.lk.take (k+1)) (upd H2 n (.tup [.int (rs S (u,v,tw)),.int (u:Int),.int (v:Int)])) (.ref n):=by
       rw [tk];exact TlR.new upd_same hb fun z hz h=>absurd h (non z hz)
      refine ⟨_,rfl,rfl,_,rfl,?_⟩
      rw [int_dec]
      by_cases r0:rs S (u,v,tw)=0
      ·rw [decide_eq_true r0]
       exact iteT ⟨_,rfl,q _ _ (s2.trans s3) (tl3.zero O hmx hb r0 fun y hy=>List.mem_of_mem_take hy)⟩
      ·rw [decide_eq_false r0]
       exact iteF ⟨_,_,_,_,_,_,_,_,rfl,s2.trans s3,tl3⟩
     ·refine iteF ⟨_,rfl,_,rfl,t0,_,_,_,rfl,rfl,SqT.of ht0,rfl,_,_,rfl,rfl,_,rfl,ite2 (fun h1=>?_) (fun h1=>?_)⟩
      ·have h1:rs S (u,v,tw) < rs S y:=of_decide_eq_true h1
       refine ⟨_,rfl,_,rfl,_,rfl,(by show 3≤sizeLine;decide),fun n hn=>?_⟩
       have s3:=same_new (o:=.tup [.int (rs S (u,v,tw)),.int (u:Int),.int (v:Int)]) hn
       have tl3:TlR S (S.lk.take (k+1)) (upd H2 n (.tup [.int (rs S (u,v,tw)),.int (u:Int),.int (v:Int)])) (.ref n):=by
        rw [tk];exact TlR.new upd_same hb fun z hz h=>by have:=hmin z hz h;omega
       refine ⟨_,rfl,rfl,_,rfl,?_⟩
       rw [int_dec]
       by_cases r0:rs S (u,v,tw)=0
       ·rw [decide_eq_true r0]
        exact iteT ⟨_,rfl,q _ _ (s2.trans s3) (tl3.zero O hmx hb r0 fun y hy=>List.mem_of_mem_take hy)⟩
       ·rw [decide_eq_false r0]
        exact iteF ⟨_,_,_,_,_,_,_,_,rfl,s2.trans s3,tl3⟩
      ·have h1:¬ rs S (u,v,tw) < rs S y:=fun z=>h1 (decide_eq_true z)
       have tl3:TlR S (S.lk.take (k+1)) H2 (.ref t0):=by rw [tk];exact TlR.keep ht0 hy hby hmin h1
       refine ⟨_,rfl,rfl,_,rfl,?_⟩
       rw [int_dec]
       by_cases r0:rs S (u,v,tw)=0
       ·rw [decide_eq_true r0]
        exact iteT ⟨_,rfl,q _ _ s2 (tl3.zero O hmx hb r0 fun y hy=>List.mem_of_mem_take hy)⟩
       ·rw [decide_eq_false r0]
        exact iteF ⟨_,_,_,_,_,_,_,_,rfl,s2,tl3⟩
   ·rw [decide_eq_false h0]
    exact iteF (iteF ⟨tv,_,_,_,_,_,_,_,rfl,s2,by rw [tk];exact tl.skip fun z=>h0 z.2⟩)
  ·rintro σ H2 ⟨tv,x2,x3,x4,x5,x6,x7,x8,rfl,s2,tl⟩
   rw [List.length_map,show js.length=S.lk.length from Paired.length pjs,List.take_length] at tl
   exact ⟨_,rfl,q _ _ s2 tl⟩
end
end Rk08_the_largest_pairing
namespace Rk08_the_largest_pairing
open PySem L2 PyProof.Rows R K3 BW
open M21 (oN lI lO lI_at lO_at lf_ix lI_set while_m putF_few)
open De (lf lf_len lf_get)
section
variable {P:Program}{w:World}{K:PySem.W.Frag}{mg:Str→Option Value}{base:Heap}{C:Cs}
seal PA PE PS PSs PT PW
def lamE:Expr:=match (defBody sCh).getLastD (.Pass ⟨0,0,0,0⟩) with
 | .Return (some (.Call _ _ (k::_) _)) _=>k.value
 | _=>.Constant .none 0 ⟨0,0,0,0⟩
def lamScope:Scope:=match lamE with
 | .Lambda _ _ sc _=>sc
 | _=>defScope sCh
theorem scLam:FnScope ["ring"] ["ring"] lamScope:=⟨rfl,rfl,rfl,by decide +kernel,rfl,by decide +kernel,by decide +kernel⟩
structure Lm (K:PySem.W.Frag) (mg:Str→Option Value) (base:Heap) (C:Cs) (G:Pg K mg C) (c:Addr):Prop where
 dl:Dl K "cheapest_odd_ring" sCh G.dCh.f c G.dCh.fd
 la:LamAt base mg c C.tb
 hp:C.pos=lamPos
 hq:C.q=lamQ
def spCh (C:Cs):Sp:=fun vs H Q _=>∃ (A:Ad) (B:Hp) (S:Bl.St),vs = [.ref A.w]∧Wb C A B H S∧Bl.Fo S ∧
 ∀ v H',Same (mask C.tb H) H'→Wb C A B H' S→ChR S v→Q v H'
theorem scCh:FnScope ["web","odd"] ["web"] (defScope sCh):=⟨rfl,rfl,rfl,by decide +kernel,rfl,by decide +kernel,by decide +kernel⟩
theorem okCh {c:Addr} (G:Pg K mg C) (L:Lm K mg base C G c):FnOk P w K mg base CX0 4 G.dCh.f G.dCh.fd ["web"] (spCh C):=by
 have GOu:FnOk P w K mg base CX0 1 G.dOu.f G.dOu.fd ["self"] (spOu C):=okOu G
 have LA:=L.la
 refine L.dl.ok scCh (fun vs H Q E h=>?_) (fun Ar outer s H vs Q E hr h=>?_)
 ·obtain ⟨_,_,_,rfl,_⟩:=h
  rfl
 ·obtain ⟨A,B,S,rfl,wb,F,q⟩:=h
  have n40:=wb.n40
  refine ⟨_,(pss_cons (ps_setC (i:=1) (compOk (fr:=[])) rfl scCh.nd rfl (by first | exact Or.inl rfl | exact Or.inr rfl) (pi_list (pe_meth0 (pv 0) G.W.cl G.dOu.m GOu (hr.mono (by omega)) G.dOu.b .nil pass0)) (fun _ _ _=>pts_one (PW.pt (pw_and (pt_cmpR op_eq (pe_fldK (K:=K) (pv 0) rfl) (pe_glob (v:=.int (-1)) (by rfl) G.gO ⟨_,rfl⟩) (nomark _)) (pw_and1 (pt_truthK (K:=K) (pe_fldK (K:=K) (pv 0) rfl) (fun _=>rfl)))))) (fun _ _ _=>(pv 0)))
   (pss_one (ps_ret (pe_callBK (call_minBy rfl) (by rfl) G.T.min boot_min (pa_cons (pv 1) pa_nil) (pk_cons (pe_lam LA rfl) (pk_cons pe_non pk_nil)))))),?_⟩
  refine ⟨_,rfl,A.w,A.dw,_,rfl,wb.sb _ _ wb.web,noOu,?_⟩
  refine ⟨A,B,S,rfl,wb,F,fun l bs H1 s1 hl hl1 ob=>?_⟩
  have lbs:=ob.len
  refine ⟨l,rfl,⟨_,SqL.of hl1⟩,fun D hD=>comp_list (xs:=bs.map V.ref) (fun i ac H2=>H2 D=some (.lst ac)∧Same H1 H2∧ac=((bs.take i).filter (oddR S)).map V.ref) ⟨upd_same,same_new hD,rfl⟩ ?_ ?_ ?_⟩
  ·rintro i ac H2 hi ⟨h2,s2,rfl⟩
   rw [List.length_map] at hi
   have:((bs.take i).filter (oddR S)).length≤(bs.take i).length:=List.length_filter_le _ _
   rw [List.length_take] at this
   exact ⟨h2,small5 (by rw [List.length_map];omega),SqL.of (s2 _ _ hl1)⟩
  ·rintro i x ac H2 N hx hN ⟨h2,s2,rfl⟩
   rw [List.getElem?_map] at hx
   obtain ⟨b,hb,rfl⟩:=Option.map_eq_some_iff.mp hx
   have hom:=(ob.mem b).mp (List.mem_of_getElem? hb)
   have wb2:=wb.same (s1.trans s2)
   obtain ⟨dx,pa,ia,ja,cv,hB,hpa,hia,_⟩:=wb2.bod b (om_ids F hom)
   rw [filt_snoc hb] at hN
   refine ⟨_,rfl,fld_at hB G.B.cl G.B.n6 b6 ?_⟩
   refine ⟨rfl,_,rfl,?_⟩
   rw [int_dec]
   by_cases m:(S.bd b).mark = -1
   ·rw [decide_eq_true m]
    refine iteT ⟨_,rfl,fld_at hB G.B.cl G.B.n3 b3 ?_⟩
    refine ⟨_,tru_lst (wb2.sb _ _ hia),?_⟩
    rw [map_empty]
    by_cases e:(S.bd b).inn = []
    ·rw [e]
     refine iteF (hN _ _ ⟨h2,s2,?_⟩)
     rw [if_neg (fun z=>(oddR_iff.mp z).2 e),List.append_nil]
    ·rw [show (!(S.bd b).inn.isEmpty)=true by cases h:(S.bd b).inn with | nil=>exact absurd h e | cons _ _=>rfl]
     refine iteT ⟨_,rfl,h2,hN _ _ ⟨upd_same,same_upd s2 hD,?_⟩⟩
     rw [if_pos (oddR_iff.mpr ⟨m,e⟩),List.map_append];rfl
   ·rw [decide_eq_false m]
    refine iteF (iteF (hN _ _ ⟨h2,s2,?_⟩))
    rw [if_neg (fun z=>m (oddR_iff.mp z).1),List.append_nil]
  rintro ac H2 ⟨h2,s2,rfl⟩
  rw [List.length_map,List.take_length] at h2
  have S2:=s1.trans s2
  have wb2:=wb.same S2
  have tab:=wb2.tab
  rw [L.hp,L.hq] at tab
  refine ⟨_,rfl,?_⟩
  dsimp only [tNil,tCons]
  refine lam_of tab fun fl c' oc pm ctv H3 hfl s3 tab3 hf3 hc3 rec=>?_
  have tab3:TabOk C.tb lamPos lamQ H3:=tab3
  rw [←L.hp,←L.hq] at tab3
  have wb3:=wb2.masked s3 tab3
  obtain ⟨ps0,hP2,_⟩:=wb2.tab
  have h3:H3 D=some (.lst ((bs.filter (oddR S)).map V.ref)):=s3 _ _ (mask_l hP2 h2)
  have fin:Same (mask C.tb H) H3:=(S2.mask).trans s3
  refine ⟨D,fl,bs.filter (oddR S),fun i=>(S.bd ((bs.filter (oddR S)).getD i 0)).pr,rfl,rfl,h3,?_,(fun e=>?_),fun i r hr hb=>?_⟩
  ·intro i r hir s2 e0
   obtain ⟨hrb,hro⟩:=List.mem_filter.mp (List.mem_of_getElem? hir)
   have hom:=(ob.mem r).mp hrb
   obtain ⟨dx,pa,ia,ja,cv,hB,_⟩:=wb3.bod r (om_ids F hom)
   have eg:(bs.filter (oddR S)).getD i 0=r:=by rw [List.getD_eq_getElem?_getD,hir];rfl
   refine lam_call (k:=0) (N:=["ring"]) (ps:=["ring"]) (vs:=[.ref r]) hf3 hc3 rec scLam ((hr.mono (by decide:2≤3)).in1) e0 (.of_eq rfl) (.cons rfl .nil) rfl fun _=>?_
   refine ⟨_,(pe_fld (pv 0) rfl),?_⟩
   refine ⟨_,rfl,fld_at hB G.B.cl G.B.n5 b5 ?_⟩
   exact ⟨by show _=V.int (S.bd ((bs.filter (oddR S)).getD i 0)).pr;rw [eg],rfl⟩
  ·refine q _ _ fin wb3 (.inl ⟨rfl,fun b hb m=>?_⟩)
   by_cases z:(S.bd b).inn = []
   ·exact z
   ·have:b∈bs.filter (oddR S):=List.mem_filter.mpr ⟨(ob.mem b).mpr hb,oddR_iff.mpr ⟨m,z⟩⟩
    rw [e] at this;cases this
  ·obtain ⟨hrb,hro⟩:=List.mem_filter.mp (List.mem_of_getElem? hr)
   obtain ⟨m,e⟩:=oddR_iff.mp hro
   refine q _ _ fin wb3 (.inr ⟨r,rfl,(ob.mem r).mp hrb,m,e,fun b hbo mb eb=>?_⟩)
   have hbm:b∈bs.filter (oddR S):=List.mem_filter.mpr ⟨(ob.mem b).mpr hbo,oddR_iff.mpr ⟨mb,eb⟩⟩
   obtain ⟨j,hj,ej⟩:=List.getElem_of_mem hbm
   have:=hb j hj
   have e1:(bs.filter (oddR S)).getD i 0=r:=by rw [List.getD_eq_getElem?_getD,hr];rfl
   have e2:(bs.filter (oddR S)).getD j 0=b:=by rw [List.getD_eq_getElem?_getD,List.getElem?_eq_getElem hj];exact ej
   dsimp only at this
   rw [e1,e2] at this
   exact this
def spGo (C:Cs):Sp:=fun vs H Q _=>∃ (A:Ad) (B:Hp) (S:Bl.St) (rk:Nat→Nat),vs = [.ref A.w]∧Wb C A B H S∧Bl.Ok S rk∧Stp C A B S (Q (.bl true))∧(∀ H' B',Same B B'→Wb C A B' H' S→Bl.En S→Q (.bl false) H')
theorem scGo:FnScope ["web","link","ring"] ["web"] (defScope sGo):=⟨rfl,rfl,rfl,by decide +kernel,rfl,by decide +kernel,by decide +kernel⟩
theorem okGo {c:Addr} (G:Pg K mg C) (L:Lm K mg base C G c):FnOk P w K mg base CX0 46 G.dGo.f G.dGo.fd ["web"] (spGo C):=by
 have GTl:FnOk P w K mg base CX0 1 G.dTl.f G.dTl.fd ["web"] (spTl C):=okTl G
 have GCh:FnOk P w K mg base CX0 4 G.dCh.f G.dCh.fd ["web"] (spCh C):=okCh G L
 have GLa:FnOk P w K mg base CX0 2 G.dLa.f G.dLa.fd ["web","rise"] (spLa C):=okLa G
 have GOr:FnOk P w K mg base CX0 2 G.dOr.f G.dOr.fd ["web","ring"] (spOr C):=okOr G
 have GUl:FnOk P w K mg base CX0 45 G.dUl.f G.dUl.fd ["web","u","v"] (spUl C):=okUl G
 refine G.dGo.F.ok scGo (fun vs H Q E h=>?_) (fun cdv Ar outer s H vs Q E hr h=>?_)
 ·obtain ⟨_,_,_,_,rfl,_⟩:=h
  rfl
 ·obtain ⟨A,B,S,rk,rfl,wb,O,q1,q2⟩:=h
  have F:=O.fo
  have mks:∀ b,Bl.om S b→(S.bd b).mark=1∨(S.bd b).mark=0∨(S.bd b).mark = -1:=fun b hb=>by
   obtain ⟨p,hp,e⟩:=Bl.om_iff.mp hb
   rw [←e];exact O.tr.mks p hp
  refine ⟨_,(pss_cons (ps_set (i:=1) scGo.nd rfl (by first | exact Or.inl rfl | exact Or.inr rfl) (pe_call GTl (hr.mono (by omega)) (by rfl) G.dTl.m G.dTl.F.kp G.dTl.b .nil pass0 (pa_cons (pv 0) pa_nil)))
   (pss_cons (ps_set (i:=2) scGo.nd rfl (by first | exact Or.inl rfl | exact Or.inr rfl) (pe_call GCh (hr.mono (by omega)) (by rfl) G.dCh.m G.dCh.F.kp G.dCh.b .nil pass0 (pa_cons (pv 0) pa_nil)))
   (pss_cons (ps_if (PW.pt (pw_and (pt_cmpR op_notN (pv 2) pe_non (nomark _)) (pw_and1 (PW.pt (pw_or (pt_cmpR op_isN (pv 1) pe_non (nomark _)) (pw_or1 (pt_cmpR op_lt (pe_fld (pv 2) rfl) (pe_ix ix_tup (pv 1) pe_int (fun _ _=>rfl)) (nomark _)))))))) (pss_cons (ps_expr (pe_call GLa (hr.mono (by omega)) (by rfl) G.dLa.m G.dLa.F.kp G.dLa.b .nil pass0 (pa_cons (pv 0) (pa_cons (pe_fld (pv 2) rfl) pa_nil))))
   (pss_cons (ps_expr (pe_call GOr (hr.mono (by omega)) (by rfl) G.dOr.m G.dOr.F.kp G.dOr.b .nil pass0 (pa_cons (pv 0) (pa_cons (pv 2) pa_nil))))
   (pss_one (ps_ret pe_bl)))) pss_nil)
   (pss_cons (ps_if (pt_cmpR op_isN (pv 1) pe_non (nomark _)) (pss_one (ps_ret pe_bl)) pss_nil)
   (pss_cons (ps_expr (pe_call GLa (hr.mono (by omega)) (by rfl) G.dLa.m G.dLa.F.kp G.dLa.b .nil pass0 (pa_cons (pv 0) (pa_cons (pe_ix ix_tup (pv 1) pe_int (fun _ _=>rfl)) pa_nil))))
   (pss_cons (ps_expr (pe_call GUl (hr.mono (by omega)) (by rfl) G.dUl.m G.dUl.F.kp G.dUl.b .nil pass0 (pa_cons (pv 0) (pa_cons (pe_ix ix_tup (pv 1) pe_int (fun _ _=>rfl)) (pa_cons (pe_ix ix_tup (pv 1) pe_int (fun _ _=>rfl)) pa_nil)))))
   (pss_one (ps_ret pe_bl)))))))),?_⟩
  refine ⟨_,rfl,A,B,S,rk,rfl,wb,O,fun lv H1 s1 tl=>?_⟩
  have wb1:=wb.same s1
  refine ⟨_,rfl,A,B,S,rfl,wb1,F,fun rv H2 s2 wb2 ch=>?_⟩
  obtain ⟨ps1,hP1,_⟩:=wb1.tab
  have kt:∀ {t:Addr}{xs:List V},H1 t=some (.tup xs)→H2 t=some (.tup xs):=fun e=>s2 _ _ (mask_t hP1 e)
  rcases ch with ⟨rfl,non⟩ | ⟨R,rfl,hRo,hRm,hRi,hmin⟩
  ·refine ⟨_,rfl,rfl,_,rfl,iteF (iteF ?_)⟩
   have hr3:∀ (d:Int),∀ b,Bl.om S b→(S.bd b).inn ≠ []→(S.bd b).mark = -1→d≤(S.bd b).pr:=fun d b hb hi hm=>absurd (non b hb hm) hi
   rcases tl with ⟨rfl,nb⟩ | ⟨t,x,rfl,ht,hx,hbx,hmx⟩
   ·refine ⟨_,rfl,rfl,_,rfl,iteT ?_⟩
    refine q2 H2 B (Same.refl _) wb2 ⟨fun u v tw h ne=>?_,fun b hb hm=>non b hb hm⟩
    by_cases z:0 < (S.bd (S.out u)).mark+(S.bd (S.out v)).mark
    ·exact absurd ⟨ne,z⟩ (nb (u,v,tw) h)
    ·omega
   ·have ht2:=kt ht
    have hr3:=hr3 (rs S x)
    have wbT:=wb2.addT ht2
    have sBT:=same_add wb2.sb ht2
    refine ⟨_,rfl,rfl,_,rfl,iteF ?_⟩
    refine ⟨_,rfl,_,rfl,t,_,_,_,rfl,rfl,SqT.of ht2,rfl,?_⟩
    refine ⟨A,_,S,_,rfl,wbT,F,mks,fun H3 B3 sB3 wb3=>?_⟩
    have O3:=Bl.rise_ok O (rs_nn O hx hbx) (fun u v t h ne hp=>hmx (u,v,t) h ⟨ne,hp⟩) hr3
    have ht3:=wb3.sb _ _ (sB3 _ _ upd_same)
    refine ⟨_,rfl,_,rfl,t,_,_,_,rfl,rfl,SqT.of ht3,rfl,_,rfl,t,_,_,_,rfl,rfl,SqT.of ht3,rfl,?_⟩
    obtain ⟨xu,xv,xt⟩:=x
    have hlk:=O.lk.lt xu xv xt hx
    refine ⟨A,B3,_,rk,xu,xv,rfl,wb3,O3,(show xu < S.n by omega),(show xv < S.n by omega),(by show 0 < ((Bl.liftS S _).bd (S.out xu)).mark+((Bl.liftS S _).bd (S.out xv)).mark;rw [Bl.lift_mark,Bl.lift_mark];exact hbx.2),hbx.1,Bl.rise_tight O hx hbx.1 hbx.2 rfl,fun H4 B4 S4 rk4 sB4 wb4 O4 m4 n4 l4=>?_⟩
    exact q1 H4 B4 S4 rk4 ((sBT.trans sB3).trans sB4) wb4 O4 (by rw [Bl.lift_mu] at m4;exact m4) n4 l4
  ·obtain ⟨dxR,paR,iaR,jaR,cvR,hBR,_⟩:=wb2.bod R (om_ids F hRo)
   have hpr0:0≤(S.bd R).pr:=O.du.rg R (om_ids F hRo) hRi
   have hmin0:∀ b,Bl.om S b→(S.bd b).inn ≠ []→(S.bd b).mark = -1→(S.bd R).pr≤(S.bd b).pr:=fun b h1 h2 h3=>hmin b h1 h3 h2
   refine ⟨_,rfl,rfl,_,rfl,iteT ?_⟩
   rcases tl with ⟨rfl,nb⟩ | ⟨t,x,rfl,ht,hx,hbx,hmx⟩
   ·have hle:∀ u v t,(u,v,t)∈S.lk→S.out u≠S.out v→0 < (S.bd (S.out u)).mark+(S.bd (S.out v)).mark→(S.bd R).pr≤(t-S.sm u-S.sm v) / ((S.bd (S.out u)).mark+(S.bd (S.out v)).mark):=fun u v t h ne hp=>absurd ⟨ne,hp⟩ (nb (u,v,t) h)
    refine ⟨_,rfl,rfl,_,rfl,iteT (iteT ?_)⟩
    refine ⟨_,rfl,_,rfl,fld_at hBR G.B.cl G.B.n5 b5 ?_⟩
    refine ⟨A,B,S,_,rfl,wb2,F,mks,fun H3 B3 sB3 wb3=>?_⟩
    obtain ⟨p0,hp0,e0⟩:=Bl.om_iff.mp hRo
    have O3:=Bl.rise_ok O hpr0 hle hmin0
    have sh:=Bl.lift_sh (S:=S) (d:=(S.bd R).pr)
    refine ⟨_,rfl,_,rfl,A,B3,_,rk,R,p0,rfl,wb3,O3,hp0,e0,(by rw [sh.inn];exact hRi),(by rw [Bl.lift_mark];exact hRm),fun H4 B4 mk cf i d wf sB4 Mr Op wb4=>?_⟩
    obtain ⟨rk4,O4⟩:=Bl.open_ok O3 hp0 e0 (by rw [sh.inn];exact hRi) (by rw [Bl.lift_mark];exact hRm) (Bl.lift_ring hRo hRm rfl) Mr Op
    exact q1 H4 B4 _ rk4 (sB3.trans sB4) wb4 O4 (by rw [←Bl.lift_mu (S:=S) (d:=(S.bd R).pr)];exact Bl.open_mu O3 hp0 e0 (by rw [sh.inn];exact hRi) (by rw [Bl.lift_mark];exact hRm)) rfl rfl
   ·have ht2:=kt ht
    refine ⟨_,rfl,rfl,_,rfl,iteF ?_⟩
    refine ⟨_,rfl,fld_at hBR G.B.cl G.B.n5 b5 ?_⟩
    refine ⟨_,rfl,t,_,_,_,rfl,rfl,SqT.of ht2,rfl,_,_,rfl,rfl,_,rfl,?_⟩
    by_cases lt:(S.bd R).pr < rs S x
    ·rw [decide_eq_true lt]
     have hle:∀ u v t,(u,v,t)∈S.lk→S.out u≠S.out v→0 < (S.bd (S.out u)).mark+(S.bd (S.out v)).mark→(S.bd R).pr≤(t-S.sm u-S.sm v) / ((S.bd (S.out u)).mark+(S.bd (S.out v)).mark):=fun u v t h ne hp=>by
      have:rs S x≤(t-S.sm u-S.sm v) / ((S.bd (S.out u)).mark+(S.bd (S.out v)).mark):=hmx (u,v,t) h ⟨ne,hp⟩
      omega
     refine iteT ?_
     refine ⟨_,rfl,_,rfl,fld_at hBR G.B.cl G.B.n5 b5 ?_⟩
     refine ⟨A,B,S,_,rfl,wb2,F,mks,fun H3 B3 sB3 wb3=>?_⟩
     obtain ⟨p0,hp0,e0⟩:=Bl.om_iff.mp hRo
     have O3:=Bl.rise_ok O hpr0 hle hmin0
     have sh:=Bl.lift_sh (S:=S) (d:=(S.bd R).pr)
     refine ⟨_,rfl,_,rfl,A,B3,_,rk,R,p0,rfl,wb3,O3,hp0,e0,(by rw [sh.inn];exact hRi),(by rw [Bl.lift_mark];exact hRm),fun H4 B4 mk cf i d wf sB4 Mr Op wb4=>?_⟩
     obtain ⟨rk4,O4⟩:=Bl.open_ok O3 hp0 e0 (by rw [sh.inn];exact hRi) (by rw [Bl.lift_mark];exact hRm) (Bl.lift_ring hRo hRm rfl) Mr Op
     exact q1 H4 B4 _ rk4 (sB3.trans sB4) wb4 O4 (by rw [←Bl.lift_mu (S:=S) (d:=(S.bd R).pr)];exact Bl.open_mu O3 hp0 e0 (by rw [sh.inn];exact hRi) (by rw [Bl.lift_mark];exact hRm)) rfl rfl
    ·rw [decide_eq_false lt]
     have hr3:∀ b,Bl.om S b→(S.bd b).inn ≠ []→(S.bd b).mark = -1→rs S x≤(S.bd b).pr:=fun b h1 h2 h3=>by
      have:=hmin b h1 h3 h2
      omega
     have wbT:=wb2.addT ht2
     have sBT:=same_add wb2.sb ht2
     refine iteF ⟨_,rfl,rfl,_,rfl,iteF ?_⟩
     refine ⟨_,rfl,_,rfl,t,_,_,_,rfl,rfl,SqT.of ht2,rfl,?_⟩
     refine ⟨A,_,S,_,rfl,wbT,F,mks,fun H3 B3 sB3 wb3=>?_⟩
     have O3:=Bl.rise_ok O (rs_nn O hx hbx) (fun u v t h ne hp=>hmx (u,v,t) h ⟨ne,hp⟩) hr3
     have ht3:=wb3.sb _ _ (sB3 _ _ upd_same)
     refine ⟨_,rfl,_,rfl,t,_,_,_,rfl,rfl,SqT.of ht3,rfl,_,rfl,t,_,_,_,rfl,rfl,SqT.of ht3,rfl,?_⟩
     obtain ⟨xu,xv,xt⟩:=x
     have hlk:=O.lk.lt xu xv xt hx
     refine ⟨A,B3,_,rk,xu,xv,rfl,wb3,O3,(show xu < S.n by omega),(show xv < S.n by omega),(by show 0 < ((Bl.liftS S _).bd (S.out xu)).mark+((Bl.liftS S _).bd (S.out xv)).mark;rw [Bl.lift_mark,Bl.lift_mark];exact hbx.2),hbx.1,Bl.rise_tight O hx hbx.1 hbx.2 rfl,fun H4 B4 S4 rk4 sB4 wb4 O4 m4 n4 l4=>?_⟩
     exact q1 H4 B4 S4 rk4 ((sBT.trans sB3).trans sB4) wb4 O4 (by rw [Bl.lift_mu] at m4;exact m4) n4 l4
end
end Rk08_the_largest_pairing
namespace Rk08_the_largest_pairing
open PySem L2 PyProof.Rows R K3 BW
open M21 (oN lI lO lI_at lO_at lf_ix lI_set while_m putF_few)
open De (lf lf_len lf_get)
section
variable {P:Program}{w:World}{K:PySem.W.Frag}{mg:Str→Option Value}{base:Heap}{C:Cs}
seal PA PE PS PSs PT PW
def spWi (C:Cs):Sp:=fun vs H Q _=>∃ (x dx wl:Addr) (n:Nat) (ws:List (Nat×Nat×Int)),vs = [.ref x,.int (n:Int),.ref wl]∧H x=some (.ins C.W dx [])∧LKL H wl ws∧n≤40∧ws.length≤1000∧TabOk C.tb C.pos C.q H ∧
 ∀ A B H' least,A.w=x→(∀ b o,H b=some o→b≠x→b≠C.tb→B b=some o)→(∀ p q,p < n→q < n→A.sg p=A.sg q→p=q)→(∀ y∈ws,least≤y.2.2)→Wb C A B H' (Bl.initS n (dbl ws) A.sg least)→Q .non H'
theorem scWi:FnScope ["self","n","worries","least","body"] ["self","n","worries"] (defScope sWi):=⟨rfl,rfl,rfl,by decide +kernel,rfl,by decide +kernel,by decide +kernel⟩
theorem okWi (G:Pg K mg C):FnOk P w K mg base CX0 3 G.dWi.f G.dWi.fd ["self","n","worries"] (spWi C):=by
 have GBi:FnOk P w K mg base CX0 1 G.dBi.f G.dBi.fd ["self","places","tip","inner","joints"] (spBi C):=okBi G
 refine G.dWi.F.ok scWi (fun vs H Q E h=>?_) (fun cdv Ar outer s H vs Q E hr h=>?_)
 ·obtain ⟨_,_,_,_,_,rfl,_⟩:=h
  rfl
 ·obtain ⟨x,dx,wl,n,ws,rfl,hx,⟨js,hwl,pws⟩,n40,lws,tab,q⟩:=h
  have ljs:js.length=ws.length:=Paired.length pws
  refine ⟨_,(pss_cons (ps_set (i:=3) scWi.nd rfl (by first | exact Or.inl rfl | exact Or.inr rfl) (pe_callBK (call_minD rfl) (by rfl) G.T.min boot_min (pa_cons (pe_compG (xs:=["u","v","worry"]) (compOkG (fr:=[])) rfl (pi_list (pv 2)) (fun _ _ _=>(pg_tupK (K:=K) (n:=3) rfl (pgs_cons (pg_name (i:=0) (show List.Nodup (["u","v","worry"]:List Str) by decide +kernel) rfl (Or.inl rfl) (.inr rfl)) (pgs_cons (pg_name (i:=1) (show List.Nodup (["u","v","worry"]:List Str) by decide +kernel) rfl (Or.inl rfl) (.inr rfl)) (pgs_cons (pg_name (i:=2) (show List.Nodup (["u","v","worry"]:List Str) by decide +kernel) rfl (Or.inl rfl) (.inr rfl)) pgs_nil))))) (fun _ _ _=>pts_nil) (fun _ _ _=>(pv 2))) pa_nil) (pk_cons pe_int pk_nil)))
   (pss_cons (ps_fld (pv 0) (pe_compG (xs:=["u","v","worry"]) (compOkG (fr:=[])) rfl (pi_list (pv 2)) (fun _ _ _=>(pg_tupK (K:=K) (n:=3) rfl (pgs_cons (pg_name (i:=0) (show List.Nodup (["u","v","worry"]:List Str) by decide +kernel) rfl (Or.inl rfl) (.inr rfl)) (pgs_cons (pg_name (i:=1) (show List.Nodup (["u","v","worry"]:List Str) by decide +kernel) rfl (Or.inl rfl) (.inr rfl)) (pgs_cons (pg_name (i:=2) (show List.Nodup (["u","v","worry"]:List Str) by decide +kernel) rfl (Or.inl rfl) (.inr rfl)) pgs_nil))))) (fun _ _ _=>pts_nil) (fun _ _ _=>(pe_tup (pa_cons (pv 0) (pa_cons (pv 1) (pa_cons (pe_op op_mul pe_int (pv 2)) pa_nil)))))) rfl)
   (pss_cons (ps_fld (pv 0) (pe_comp (compOk (fr:=[])) rfl (pi_range1 (by rfl) G.T.range (pa_cons (pv 1) pa_nil)) (fun _ _ _=>pts_nil) (fun _ _ _=>(pe_make G.dBi.m GBi (hr.mono (by omega)) (by rfl) G.B.mgC G.dBi.b .nil pass0 (pa_cons (pe_lst (pa_cons (pv 0) pa_nil)) (pa_cons (pv 0) (pa_cons (pe_lst pa_nil) (pa_cons (pe_lst pa_nil) pa_nil))))))) rfl)
   (pss_cons (ps_for PassesOwn.never rfl (pi_list (pe_fld (pv 0) rfl)) (pg_name (i:=4) scWi.nd rfl (by first | exact Or.inl rfl | exact Or.inr rfl)) (pss_one (ps_fld (pv 4) (pv 3) rfl)))
   (pss_cons (ps_fld (pv 0) (pe_callTy call_list_of (by rfl) G.T.t_list boot_list (pa_cons (pe_fld (pv 0) rfl) pa_nil)) rfl)
   (pss_cons (ps_fld (pv 0) (pe_comp (compOk (fr:=[("least",3)])) rfl (pi_range1 (by rfl) G.T.range (pa_cons (pv 1) pa_nil)) (fun _ _ _=>pts_nil) (fun _ _ _=>(pv 1))) rfl)
   (pss_one (ps_fld (pv 0) (pe_comp (compOk (fr:=[])) rfl (pi_range1 (by rfl) G.T.range (pa_cons (pv 1) pa_nil)) (fun _ _ _=>pts_nil) (fun _ _ _=>pe_non)) rfl)))))))),?_⟩
  refine ⟨_,rfl,wl,rfl,⟨_,SqL.of hwl⟩,fun D1 hD1=>compG_list (xs:=js.map V.ref) (fun i ac H2=>H2 D1=some (.lst ac)∧Same H H2∧ac=((ws.take i).map fun y=>y.2.2).map V.int) ⟨upd_same,same_new hD1,rfl⟩ ?_ ?_ ?_⟩
  ·rintro i ac H2 hi ⟨h2,s2,rfl⟩
   rw [List.length_map] at hi
   exact ⟨h2,small5 (by rw [List.length_map,List.length_map,List.length_take];omega),SqL.of (s2 _ _ hwl)⟩
  ·rintro i z ac H2 N hz hN ⟨h2,s2,rfl⟩
   rw [List.getElem?_map] at hz
   obtain ⟨t,ht,rfl⟩:=Option.map_eq_some_iff.mp hz
   obtain ⟨y,hy,hty⟩:=pairedGetL pws ht
   have hty2:=s2 _ _ hty
   refine ⟨t,_,rfl,SqT.of hty2,rfl,_,_,rfl,_,_,rfl,_,_,rfl,rfl,[some (.int (y.1:Int)),some (.int (y.2.1:Int)),some (.int y.2.2)],rfl,rfl,?_⟩
   refine ⟨_,rfl,h2,hN _ _ ⟨upd_same,same_upd s2 hD1,?_⟩⟩
   rw [List.take_add_one,hy,List.map_append,List.map_append];rfl
  rintro ac H2 ⟨h2,s2,rfl⟩
  rw [List.length_map,ljs,List.take_length] at h2
  dsimp only [tNil,tCons,tC]
  refine rMinD_of h2 fun least hle=>?_
  have hle:∀ y∈ws,least≤y.2.2:=fun y hy=>hle _ (List.mem_map_of_mem hy)
  have hwl2:=s2 _ _ hwl
  have hx2:=s2 _ _ hx
  refine ⟨_,rfl,wl,rfl,⟨_,SqL.of hwl2⟩,fun D2 hD2=>compG_list (xs:=js.map V.ref) (fun i ac H3=>H3 D2=some (.lst ac)∧Same H2 H3∧∃ ls:List Addr,ac=ls.map V.ref∧LKs H3 ls (dbl (ws.take i))) ⟨upd_same,same_new hD2,[],rfl,.nil⟩ ?_ ?_ ?_⟩
  ·rintro i ac H3 hi ⟨h3,s3,ls,rfl,pl⟩
   rw [List.length_map] at hi
   have:=Paired.length pl
   unfold dbl at this
   rw [List.length_map,List.length_take] at this
   exact ⟨h3,small5 (by rw [List.length_map];omega),SqL.of (s3 _ _ hwl2)⟩
  ·rintro i z ac H3 N hz hN ⟨h3,s3,ls,rfl,pl⟩
   rw [List.getElem?_map] at hz
   obtain ⟨t,ht,rfl⟩:=Option.map_eq_some_iff.mp hz
   obtain ⟨y,hy,hty⟩:=pairedGetL pws ht
   have hty2:=s3 _ _ (s2 _ _ hty)
   refine ⟨t,_,rfl,SqT.of hty2,rfl,_,_,rfl,_,_,rfl,_,_,rfl,rfl,[some (.int (y.1:Int)),some (.int (y.2.1:Int)),some (.int y.2.2)],rfl,rfl,?_⟩
   refine ⟨_,rfl,_,rfl,_,rfl,_,_,rfl,rfl,.inl ⟨by decide,by decide⟩,(by show 3≤sizeLine;decide),fun t2 ht2=>?_⟩
   have s4:=same_new (o:=.tup [.int (y.1:Int),.int (y.2.1:Int),.int (2*y.2.2)]) ht2
   have h4:=s4 _ _ h3
   have e4:upd H3 t2 (.tup [.int (y.1:Int),.int (y.2.1:Int),.int (2*y.2.2)]) t2=some (p3 (y.1,y.2.1,2*y.2.2)):=upd_same
   refine ⟨h4,hN _ _ ⟨upd_same,same_upd (s3.trans s4) hD2,ls ++ [t2],by rw [List.map_append];rfl,?_⟩⟩
   rw [dbl_take hy]
   exact LKs.upd h4 (pairedApp (pl.same s4) (.cons e4 .nil))
  rintro ac H3 ⟨h3,s3,ls,rfl,pl⟩
  rw [List.length_map,ljs,List.take_length] at pl
  have hx3:=s3 _ _ hx2
  have S3:=s2.trans s3
  have nD2:D2≠x:=ne_of_none hx2 hD2 |>.symm
  refine ⟨_,rfl,x,C.W,dx,_,rfl,hx3,G.W.cl,G.W.n1,(by show 0 < 1000;decide),?_⟩
  have x4:upd H3 x (.ins C.W dx (putF "links" (.ref D2) [])) x=some (.ins C.W dx (putF "links" (.ref D2) [])):=upd_same
  have k4:But x H3 (upd H3 x (.ins C.W dx (putF "links" (.ref D2) []))):=(But.refl x H3).set
  have d4:upd H3 x (.ins C.W dx (putF "links" (.ref D2) [])) D2=some (.lst (ls.map V.ref)):=by rw [upd_ne nD2];exact h3
  have pl4:=pl.but k4 hx3
  have tab4:=(tab.same S3).upd (o:=.ins C.W dx (putF "links" (.ref D2) [])) hx3 trivial
  generalize upd H3 x (.ins C.W dx (putF "links" (.ref D2) []))=H4 at *
  refine ⟨_,rfl,_,rfl,(by omega),(by omega),fun D3 hD3=>comp_range (fun i ac H5=>H5 D3=some (.lst ac)∧Same H4 H5∧∃ as:List Addr,ac=as.map V.ref∧as.length=i∧(∀ (k:Nat) (a:Addr),as[k]? = some a→SgA C (mask D3 H5) a k 0∧H4 a=none)∧as.Nodup) ⟨upd_same,same_new hD3,[],rfl,rfl,(fun k a h=>by cases h),List.nodup_nil⟩ ?_ ?_ ?_⟩
  ·rintro i ac H5 hi ⟨h5,s5,as,rfl,la,_,_⟩
   exact ⟨h5,small5 (by rw [List.length_map];omega)⟩
  ·rintro i ac H5 N hi hN ⟨h5,s5,as,rfl,la,sg5,nd⟩
   rw [show (0:Int)+(i:Int)=(i:Int) from Int.zero_add _]
   refine ⟨_,rfl,(by show 1≤sizeLine;decide),fun l1 hl1=>⟨_,rfl,Nat.zero_le _,fun l2 hl2=>⟨Nat.zero_le _,fun l3 hl3=>fun xb dxb nx ndx nex=>?_⟩⟩⟩
   have t1:=same_new (o:=.lst [.int (i:Int)]) hl1
   have u1:upd H5 l1 (.lst [.int (i:Int)]) l1=some (.lst (nV [i])):=upd_same
   generalize upd H5 l1 (.lst [.int (i:Int)])=G1 at *
   have t2:=same_new (o:=.lst []) hl2
   have u2:upd G1 l2 (.lst []) l2=some (.lst ([].map V.ref)):=upd_same
   generalize upd G1 l2 (.lst [])=G2 at *
   have t3:=same_new (o:=.lst []) hl3
   have u3:upd G2 l3 (.lst []) l3=some (.lst ([].map V.ref)):=upd_same
   generalize upd G2 l3 (.lst [])=G3 at *
   have s0:Same G3 (upd (upd G3 dxb (.own xb)) xb (.ins C.B dxb [])):=fun b o e=>by
    rw [upd_ne (ne_of_none e nx),upd_ne (ne_of_none e ndx)]
    exact e
   have x0:upd (upd G3 dxb (.own xb)) xb (.ins C.B dxb []) xb=some (.ins C.B dxb []):=upd_same
   generalize upd (upd G3 dxb (.own xb)) xb (.ins C.B dxb [])=G4 at *
   have T3:Same H5 G3:=(t1.trans t2).trans t3
   refine ⟨xb,dxb,l1,l2,l3,i,[i],[],[],rfl,x0,s0 _ _ (t3 _ _ (t2 _ _ u1)),(by show 1≤40;decide),s0 _ _ (t3 _ _ u2),s0 _ _ u3,fun p1 i1 j1 qs G5 k5 f1 f2 f3 hq hb e1 e2 e3=>⟨rfl,?_⟩⟩
   obtain rfl:qs = [i]:=List.perm_singleton.mp hq
   have s45:Same G3 G5:=fun b o e=>k5 b o (s0 _ _ e) (ne_of_none e nx)
   have sG:Same H5 G5:=T3.trans s45
   have nf:∀ {b:Addr},G4 b=none→b≠D3:=fun e z=>by rw [z,s0 _ _ (T3 _ _ h5)] at e;cases e
   have nxD:xb≠D3:=fun z=>by rw [z,T3 _ _ h5] at nx;cases nx
   refine ⟨sG _ _ h5,hN _ _ ⟨upd_same,same_upd (s5.trans sG) hD3,as ++ [xb],by rw [List.map_append];rfl,by rw [List.length_append,la];rfl,fun k a hk=>?_,?_⟩⟩
   ·have em:mask D3 (upd G5 D3 (.lst (as.map V.ref ++ [.ref xb])))=mask D3 G5:=funext fun b=>by
     by_cases z:b=D3
     ·rw [z,mask_at,mask_at]
     ·rw [mask_ne z,mask_ne z,upd_ne z]
    rw [em]
    by_cases hk2:k < as.length
    ·rw [List.getElem?_append_left hk2] at hk
     obtain ⟨g1,g2⟩:=sg5 k a hk
     exact ⟨g1.same sG.mask,g2⟩
    ·rw [List.getElem?_append_right (by omega)] at hk
     have ek:k=i:=by
      have:=(List.getElem?_eq_some_iff.mp hk).1
      simp at this
      omega
     subst ek
     rw [la,Nat.sub_self] at hk
     cases hk
     refine ⟨⟨dxb,p1,i1,j1,by rw [mask_ne nxD];exact hb,by rw [mask_ne (nf f1)];exact e1,by rw [mask_ne (nf f2)];exact e2,by rw [mask_ne (nf f3)];exact e3⟩,s5.free (T3.free nx)⟩
   ·rw [List.nodup_append]
    refine ⟨nd,by simp,fun a ha b hb' e=>?_⟩
    rw [List.mem_singleton] at hb'
    obtain ⟨k,hk,ea⟩:=List.getElem_of_mem ha
    obtain ⟨⟨d',_,_,_,g1,_⟩,_⟩:=sg5 k a (by rw [List.getElem?_eq_getElem hk,ea])
    have g1':=(mask_of g1).2
    rw [e,hb',T3.free nx] at g1'
    cases g1'
  rintro ac H5 ⟨h5,s5,as,rfl,la,sg5,nd⟩
  rw [Int.toNat_natCast] at la
  have hx5:=s5 _ _ x4
  have nD3:D3≠x:=ne_of_none x4 hD3 |>.symm
  have nax:∀ a∈as,a≠x:=fun a ha z=>by
   obtain ⟨k,hk,ea⟩:=List.getElem_of_mem ha
   have:=(sg5 k a (by rw [List.getElem?_eq_getElem hk,ea])).2
   rw [z,x4] at this;cases this
  refine ⟨_,rfl,x,C.W,dx,_,rfl,hx5,G.W.cl,G.W.n2,Nat.lt_of_le_of_lt (putF_few _ _ _) (by show 1 < 1000;decide),?_⟩
  have x6:upd H5 x (.ins C.W dx (putF "singles" (.ref D3) (putF "links" (.ref D2) []))) x=some (.ins C.W dx (putF "singles" (.ref D3) (putF "links" (.ref D2) []))):=upd_same
  have k6:But x H5 (upd H5 x (.ins C.W dx (putF "singles" (.ref D3) (putF "links" (.ref D2) [])))):=(But.refl x H5).set
  have d6:upd H5 x (.ins C.W dx (putF "singles" (.ref D3) (putF "links" (.ref D2) []))) D3=some (.lst (as.map V.ref)):=by rw [upd_ne nD3];exact h5
  have sg6:∀ (k:Nat) (a:Addr),as[k]? = some a→SgA C (upd H5 x (.ins C.W dx (putF "singles" (.ref D3) (putF "links" (.ref D2) [])))) a k 0:=fun k a hk =>
   ((sg5 k a hk).1.same (mask_low D3 H5)).but k6 hx5 (nax a (List.mem_of_getElem? hk))
  have tab6:=(tab4.same s5).upd (o:=.ins C.W dx (putF "singles" (.ref D3) (putF "links" (.ref D2) []))) hx5 trivial
  have pl6:=(pl4.same s5).but k6 hx5
  have dl6:=k6 _ _ (s5 _ _ d4) nD2
  have K6:∀ b o,H b=some o→b≠x→upd H5 x (.ins C.W dx (putF "singles" (.ref D3) (putF "links" (.ref D2) []))) b=some o:=fun b o e n=>k6 b o (s5 _ _ (k4 b o (S3 _ _ e) n)) n
  have Kf:∀ a∈as,H a=none:=fun a ha=>by
   obtain ⟨k,hk,ea⟩:=List.getElem_of_mem ha
   exact S3.free (k4.free (nax a ha) (sg5 k a (by rw [List.getElem?_eq_getElem hk,ea])).2)
  generalize upd H5 x (.ins C.W dx (putF "singles" (.ref D3) (putF "links" (.ref D2) [])))=H6 at *
  refine ⟨_,rfl,fld_at x6 G.W.cl G.W.n2 (by rw [lookup_putF,if_pos rfl]) ?_⟩
  have nal:∀ {b:Addr}{xs:List V},H6 b=some (.lst xs)→b ∉ as:=fun {b xs} e ha=>by
   obtain ⟨k,hk,ea⟩:=List.getElem_of_mem ha
   obtain ⟨d',_,_,_,g1,_⟩:=sg6 k b (by rw [List.getElem?_eq_getElem hk,ea])
   rw [g1] at e;cases e
  refine ⟨D3,rfl,⟨_,SqL.of d6⟩,for_list (xs:=as.map V.ref) (fun k σ H7=>∃ (x4:Option V),σ = [some (.ref x),some (.int (n:Int)),some (.ref wl),some (.int least),x4]∧(∀ b o,H6 b=some o→b ∉ as→H7 b=some o)∧TabOk C.tb C.pos C.q H7∧∀ (j:Nat) (a:Addr),as[j]? = some a→SgA C H7 a j (if j < k then least else 0)) ⟨_,rfl,(fun b o e _=>e),tab6,fun j a hj=>by rw [if_neg (Nat.not_lt_zero _)];exact sg6 j a hj⟩ ?_ ?_ ?_⟩
  ·rintro k σ H7 hk ⟨_,rfl,kp,_⟩
   exact SqL.of (kp _ _ d6 (nal d6))
  ·rintro k z σ H7 hz ⟨y4,rfl,kp,tab7,sg7⟩
   rw [List.getElem?_map] at hz
   obtain ⟨a,ha,rfl⟩:=Option.map_eq_some_iff.mp hz
   have sga:=sg7 k a ha
   rw [if_neg (Nat.lt_irrefl _)] at sga
   obtain ⟨dxa,pa,ia,ja,g1,g2,g3,g4⟩:=sga
   refine ⟨_,rfl,_,rfl,a,C.B,dxa,_,rfl,g1,G.B.cl,G.B.n5,bF_few,?_⟩
   rw [b_price]
   have ne:∀ {b:Addr}{xs:List V},H7 b=some (.lst xs)→b≠a:=fun e z=>by rw [z,g1] at e;cases e
   refine ⟨_,rfl,fun b o e nb=>by rw [upd_ne (fun z=>nb (by rw [z];exact List.mem_of_getElem? ha))];exact kp b o e nb,tab7.upd g1 trivial,fun j b hj=>?_⟩
   by_cases ej:j=k
   ·subst ej
    rw [ha] at hj
    cases hj
    rw [if_pos (Nat.lt_succ_self _)]
    exact ⟨dxa,pa,ia,ja,upd_same,by rw [upd_ne (ne g2)];exact g2,by rw [upd_ne (ne g3)];exact g3,by rw [upd_ne (ne g4)];exact g4⟩
   ·have nab:b≠a:=fun z=>by
     rw [z] at hj
     obtain ⟨h1,e1⟩:=List.getElem?_eq_some_iff.mp hj
     obtain ⟨h2,e2⟩:=List.getElem?_eq_some_iff.mp ha
     exact ej ((List.getElem_inj nd).mp (e1.trans e2.symm))
    have:=(sg7 j b hj).other (o:=.ins C.B dxa (bF (.ref pa) (.int (k:Int)) (.ref ia) (.ref ja) (.int least) (.int 0) .non)) g1 nab
    rw [show (if j < k+1 then least else 0)=(if j < k then least else 0) by
     by_cases l:j < k
     ·rw [if_pos l,if_pos (by omega)]
     ·rw [if_neg l,if_neg (by omega)]]
    exact this
  rintro σ H7 ⟨y4,rfl,kp,tab7,sg7⟩
  rw [List.length_map] at sg7
  have sgn:∀ p,p < n→as[p]? = some (as.getD p 0):=fun p hp=>by
   rw [List.getD_eq_getElem?_getD,List.getElem?_eq_getElem (by omega:p < as.length)];rfl
  have elr:as.map V.ref=lRef n fun p=>as.getD p 0:=by
   unfold lRef De.lf
   apply List.ext_getElem?
   intro i
   rw [List.getElem?_map,List.getElem?_map]
   by_cases hi:i < n
   ·rw [List.getElem?_range hi,sgn i hi];rfl
   ·rw [List.getElem?_eq_none (by omega),List.getElem?_eq_none (by rw [List.length_range];omega)];rfl
  have nxa:x ∉ as:=fun z=>nax x z rfl
  have x7:=kp _ _ x6 nxa
  have d7:=kp _ _ d6 (nal d6)
  have dl7:=kp _ _ dl6 (nal dl6)
  refine ⟨_,rfl,fld_at x7 G.W.cl G.W.n2 (by rw [lookup_putF,if_pos rfl]) ?_⟩
  refine ⟨D3,_,rfl,.inl (SqL.of d7),fun ao hao=>?_⟩
  have r1:=same_new (o:=.lst (as.map V.ref)) hao
  have o1:upd H7 ao (.lst (as.map V.ref)) ao=some (.lst (as.map V.ref)):=upd_same
  generalize upd H7 ao (.lst (as.map V.ref))=G1 at *
  have x8:=r1 _ _ x7
  have nao:ao≠x:=ne_of_none x7 hao |>.symm
  refine ⟨_,rfl,x,C.W,dx,_,rfl,x8,G.W.cl,G.W.n3,Nat.lt_of_le_of_lt (Nat.le_trans (putF_few _ _ _) (Nat.succ_le_succ (putF_few _ _ _))) (by show 2 < 1000;decide),?_⟩
  have k8:But x H7 (upd G1 x (.ins C.W dx (putF "outer" (.ref ao) (putF "singles" (.ref D3) (putF "links" (.ref D2) []))))):=((But.refl x H7).same r1).set
  have x9:upd G1 x (.ins C.W dx (putF "outer" (.ref ao) (putF "singles" (.ref D3) (putF "links" (.ref D2) [])))) x=some (.ins C.W dx (putF "outer" (.ref ao) (putF "singles" (.ref D3) (putF "links" (.ref D2) [])))):=upd_same
  have o9:upd G1 x (.ins C.W dx (putF "outer" (.ref ao) (putF "singles" (.ref D3) (putF "links" (.ref D2) [])))) ao=some (.lst (as.map V.ref)):=by rw [upd_ne nao];exact o1
  have tab9:=(tab7.same r1).upd (o:=.ins C.W dx (putF "outer" (.ref ao) (putF "singles" (.ref D3) (putF "links" (.ref D2) [])))) x8 trivial
  generalize upd G1 x (.ins C.W dx (putF "outer" (.ref ao) (putF "singles" (.ref D3) (putF "links" (.ref D2) []))))=G2 at *
  refine ⟨_,rfl,_,rfl,(by omega),(by omega),fun sa hsa=>comp_range (fun i ac G3=>G3 sa=some (.lst ac)∧Same G2 G3∧ac=lI i fun _=>least) ⟨upd_same,same_new hsa,rfl⟩ ?_ ?_ ?_⟩
  ·rintro i ac G3 hi ⟨h3',s3',rfl⟩
   exact ⟨h3',small5 (by rw [lf_len];omega)⟩
  ·rintro i ac G3 N hi hN ⟨h3',s3',rfl⟩
   exact ⟨_,rfl,h3',hN _ _ ⟨upd_same,same_upd s3' hsa,(M21.lf_snoc _ _).symm⟩⟩
  rintro ac G3 ⟨h3',s3',rfl⟩
  rw [Int.toNat_natCast] at h3'
  have x10:=s3' _ _ x9
  have nsa:sa≠x:=ne_of_none x9 hsa |>.symm
  have nos:ao≠sa:=ne_of_none o9 hsa
  refine ⟨_,rfl,x,C.W,dx,_,rfl,x10,G.W.cl,G.W.n4,Nat.lt_of_le_of_lt (Nat.le_trans (putF_few _ _ _) (Nat.succ_le_succ (Nat.le_trans (putF_few _ _ _) (Nat.succ_le_succ (putF_few _ _ _))))) (by show 3 < 1000;decide),?_⟩
  have k11:But x H7 (upd G3 x (.ins C.W dx (putF "sums" (.ref sa) (putF "outer" (.ref ao) (putF "singles" (.ref D3) (putF "links" (.ref D2) [])))))):=(k8.same s3').set
  have x11:upd G3 x (.ins C.W dx (putF "sums" (.ref sa) (putF "outer" (.ref ao) (putF "singles" (.ref D3) (putF "links" (.ref D2) []))))) x=some (.ins C.W dx (putF "sums" (.ref sa) (putF "outer" (.ref ao) (putF "singles" (.ref D3) (putF "links" (.ref D2) []))))):=upd_same
  have o11:upd G3 x (.ins C.W dx (putF "sums" (.ref sa) (putF "outer" (.ref ao) (putF "singles" (.ref D3) (putF "links" (.ref D2) []))))) ao=some (.lst (as.map V.ref)):=by rw [upd_ne nao];exact s3' _ _ o9
  have s11:upd G3 x (.ins C.W dx (putF "sums" (.ref sa) (putF "outer" (.ref ao) (putF "singles" (.ref D3) (putF "links" (.ref D2) []))))) sa=some (.lst (lI n fun _=>least)):=by rw [upd_ne nsa];exact h3'
  have tab11:=(tab9.same s3').upd (o:=.ins C.W dx (putF "sums" (.ref sa) (putF "outer" (.ref ao) (putF "singles" (.ref D3) (putF "links" (.ref D2) []))))) x10 trivial
  have fsa:H7 sa=none:=k8.free nsa hsa
  generalize upd G3 x (.ins C.W dx (putF "sums" (.ref sa) (putF "outer" (.ref ao) (putF "singles" (.ref D3) (putF "links" (.ref D2) [])))))=G4 at *
  refine ⟨_,rfl,_,rfl,(by omega),(by omega),fun ma hma=>comp_range (fun i ac G5=>G5 ma=some (.lst ac)∧Same G4 G5∧ac=lO i fun _=>none) ⟨upd_same,same_new hma,rfl⟩ ?_ ?_ ?_⟩
  ·rintro i ac G5 hi ⟨h5',s5',rfl⟩
   exact ⟨h5',small5 (by rw [lf_len];omega)⟩
  ·rintro i ac G5 N hi hN ⟨h5',s5',rfl⟩
   exact ⟨h5',hN _ _ ⟨upd_same,same_upd s5' hma,(M21.lf_snoc _ _).symm⟩⟩
  rintro ac G5 ⟨h5',s5',rfl⟩
  rw [Int.toNat_natCast] at h5'
  have x12:=s5' _ _ x11
  have nma:ma≠x:=ne_of_none x11 hma |>.symm
  have nom:ao≠ma:=ne_of_none o11 hma
  have nsm:sa≠ma:=ne_of_none s11 hma
  refine ⟨_,rfl,x,C.W,dx,_,rfl,x12,G.W.cl,G.W.n5,Nat.lt_of_le_of_lt (Nat.le_trans (putF_few _ _ _) (Nat.succ_le_succ (Nat.le_trans (putF_few _ _ _) (Nat.succ_le_succ (Nat.le_trans (putF_few _ _ _) (Nat.succ_le_succ (putF_few _ _ _))))))) (by show 4 < 1000;decide),?_⟩
  have fma:H7 ma=none:=k11.free nma hma
  have tab13:=(tab11.same s5').upd (o:=.ins C.W dx (putF "mates" (.ref ma) (putF "sums" (.ref sa) (putF "outer" (.ref ao) (putF "singles" (.ref D3) (putF "links" (.ref D2) [])))))) x12 trivial
  have inj:∀ p q,p < n→q < n→as.getD p 0=as.getD q 0→p=q:=fun p q hp hq e=>by
   have h1:=List.getElem?_eq_some_iff.mp (sgn p hp)
   have h2:=List.getElem?_eq_some_iff.mp (sgn q hq)
   obtain ⟨l1,e1⟩:=h1
   obtain ⟨l2,e2⟩:=h2
   exact (List.getElem_inj nd).mp (e1.trans (e.trans e2.symm))
  obtain ⟨b1',b2'⟩:=init_wb (C:=C) (A:=⟨x,dx,D2,D3,ao,sa,ma,fun p=>as.getD p 0⟩) (H:=H) (Hs:=H7) (n:=n) (lk:=dbl ws) (least:=least) x7 (k11.same s5').set hao fsa fma
   (by
    rw [upd_same]
    refine congrArg (fun l=>some (HO.ins C.W dx l)) ?_
    show putF "mates" (.ref ma) (putF "sums" (.ref sa) (putF "outer" (.ref ao) (putF "singles" (.ref D3) ([("links",.ref D2)]:List (Str×V)))))=_
    rw [putF_miss (by decide +kernel)]
    show putF "mates" (.ref ma) (putF "sums" (.ref sa) (putF "outer" (.ref ao) ([("links",.ref D2),("singles",.ref D3)]:List (Str×V))))=_
    rw [putF_miss (by decide +kernel),putF_miss (by decide +kernel)]
    show putF "mates" (.ref ma) (putF "sums" (.ref sa) ([("links",.ref D2),("singles",.ref D3),("outer",.ref ao)]:List (Str×V)))=_
    rw [putF_miss (by decide +kernel),putF_miss (by decide +kernel),putF_miss (by decide +kernel)]
    show putF "mates" (.ref ma) ([("links",.ref D2),("singles",.ref D3),("outer",.ref ao),("sums",.ref sa)]:List (Str×V))=_
    rw [putF_miss (by decide +kernel),putF_miss (by decide +kernel),putF_miss (by decide +kernel),putF_miss (by decide +kernel)]
    rfl)
   ⟨ls,dl7,Paired.mapP pl6 fun a y z=>kp _ _ z fun ha=>by
    obtain ⟨k,hk,ea⟩:=List.getElem_of_mem ha
    obtain ⟨d',_,_,_,g1,_⟩:=sg6 k a (by rw [List.getElem?_eq_getElem hk,ea])
    have z:H6 a=some (p3 y):=z
    rw [g1] at z;unfold p3 at z;cases z⟩
   (by rw [←elr];exact d7) (by rw [upd_ne nao,←elr];exact s5' _ _ o11) (by rw [upd_ne nsa];exact s5' _ _ s11) (by rw [upd_ne nma];exact h5') nos nom nsm
   (fun p hp=>by have:=sg7 p _ (sgn p hp);rwa [if_pos (by omega)] at this) (fun p hp=>nax _ (List.mem_of_getElem? (sgn p hp))) inj tab13 tab7 n40
   (fun b o e nb=>kp b o (K6 b o e nb) fun ha=>by rw [Kf b ha] at e;cases e) (fun p hp=>Kf _ (List.mem_of_getElem? (sgn p hp)))
  exact q _ _ _ least rfl b1' inj hle b2'
end
end Rk08_the_largest_pairing
namespace Rk08_the_largest_pairing
open PySem L2 PyProof.Rows R K3 BW
open M21 (oN lI lO lI_at lO_at lf_ix lI_set while_m putF_few)
open De (lf lf_len lf_get)
section
variable {P:Program}{w:World}{K:PySem.W.Frag}{mg:Str→Option Value}{base:Heap}{C:Cs}
seal PA PE PS PSs PT PW
def spGn (C:Cs):Sp:=fun vs H Q _=>∃ (wl:Addr) (n:Nat) (ws:List (Nat×Nat×Int)),vs = [.int (n:Int),.ref wl]∧LKL H wl ws∧n≤40∧ws.length≤1000∧(∀ y∈ws,y.1 < y.2.1∧y.2.1 < n)∧TabOk C.tb C.pos C.q H ∧
 ∀ A B H' S rk,(∀ b o,H b=some o→b≠C.tb→B b=some o)→Wb C A B H' S→Bl.Ok S rk→Bl.En S→S.n=n→S.lk=dbl ws→Q (.ref A.w) H'
theorem scGn:FnScope ["n","worries","web"] ["n","worries"] (defScope sGn):=⟨rfl,rfl,rfl,by decide +kernel,rfl,by decide +kernel,by decide +kernel⟩
theorem okGn {c:Addr} (G:Pg K mg C) (L:Lm K mg base C G c):FnOk P w K mg base CX0 47 G.dGn.f G.dGn.fd ["n","worries"] (spGn C):=by
 have GWi:FnOk P w K mg base CX0 3 G.dWi.f G.dWi.fd ["self","n","worries"] (spWi C):=okWi G
 have GBt:FnOk P w K mg base CX0 2 G.dBt.f G.dBt.fd ["web"] (spBt C):=okBt G
 have GGo:FnOk P w K mg base CX0 46 G.dGo.f G.dGo.fd ["web"] (spGo C):=okGo G L
 refine G.dGn.F.ok scGn (fun vs H Q E h=>?_) (fun cdv Ar outer s H vs Q E hr h=>?_)
 ·obtain ⟨_,_,_,rfl,_⟩:=h
  rfl
 ·obtain ⟨wl,n,ws,rfl,hws,n40,lws,lt,tab,q⟩:=h
  refine ⟨_,(pss_cons (ps_set (i:=2) scGn.nd rfl (by first | exact Or.inl rfl | exact Or.inr rfl) (pe_make G.dWi.m GWi (hr.mono (by omega)) (by rfl) G.W.mgC G.dWi.b .nil pass0 (pa_cons (pv 0) (pa_cons (pv 1) pa_nil))))
   (pss_cons (ps_expr (pe_call GBt (hr.mono (by omega)) (by rfl) G.dBt.m G.dBt.F.kp G.dBt.b .nil pass0 (pa_cons (pv 2) pa_nil)))
   (pss_cons (ps_while PassesOwn.never (pt_val (pe_call GGo (hr.mono (by omega)) (by rfl) G.dGo.m G.dGo.F.kp G.dGo.b .nil pass0 (pa_cons (pv 2) pa_nil))) (pss_one ps_pass))
   (pss_one (ps_ret (pv 2)))))),?_⟩
  refine ⟨_,rfl,_,rfl,fun x dx nx ndx nex=>?_⟩
  have s0:Same H (upd (upd H dx (.own x)) x (.ins C.W dx [])):=fun b o e=>by
   rw [upd_ne (ne_of_none e nx),upd_ne (ne_of_none e ndx)]
   exact e
  have x0:upd (upd H dx (.own x)) x (.ins C.W dx []) x=some (.ins C.W dx []):=upd_same
  generalize upd (upd H dx (.own x)) x (.ins C.W dx [])=H0 at *
  refine ⟨x,dx,wl,n,ws,rfl,x0,hws.same s0,n40,lws,tab.same s0,fun A B H1 least ew kB inj hle wb1=>⟨rfl,?_⟩⟩
  subst ew
  have memd:∀ u v t,(u,v,t)∈dbl ws→∃ y∈ws,y.1=u∧y.2.1=v∧t=2*y.2.2:=fun u v t h=>by
   unfold dbl at h
   obtain ⟨y,hy,e⟩:=List.mem_map.mp h
   have e1:y.1=u:=congrArg Prod.fst e
   have e2:y.2.1=v:=congrArg (fun z=>z.2.1) e
   have e3:2*y.2.2=t:=congrArg (fun z=>z.2.2) e
   exact ⟨y,hy,e1,e2,e3.symm⟩
  have P1:Bl.Pre (Bl.initS n (dbl ws) A.sg least):=Bl.init_ok inj (fun u v t h=>by
   obtain ⟨y,hy,e1,e2,_⟩:=memd u v t h
   rw [←e1,←e2];exact lt y hy) (fun u v t h=>by
   obtain ⟨y,hy,_,_,e3⟩:=memd u v t h
   omega) fun u v t h=>by
   obtain ⟨y,hy,_,_,e3⟩:=memd u v t h
   have:=hle y hy
   omega
  have kH:∀ b o,H b=some o→b≠C.tb→B b=some o:=fun b o e n2=>kB b o (s0 _ _ e) (ne_of_none e nx) n2
  refine ⟨_,rfl,A,B,_,rfl,wb1,P1.fo,P1.ma,fun H2 B2 sB2 wb2=>?_⟩
  refine while_m (fun m σ H3=>∃ (B3:Hp) (S:Bl.St) (rk:Nat→Nat),σ = [some (.int (n:Int)),some (.ref wl),some (.ref A.w)]∧Same B B3∧Wb C A B3 H3 S∧Bl.Ok S rk∧S.n=n∧S.lk=dbl ws∧m=Bl.mu S) _ ⟨B2,_,_,rfl,sB2,wb2,Bl.begin_ok P1,rfl,rfl,rfl⟩ ?_ ?_
  ·rintro m σ H3 ⟨B3,S,rk,rfl,sB3,wb3,O3,en,el,rfl⟩
   refine ⟨_,rfl,A,B3,S,rk,rfl,wb3,O3,fun H4 B4 S4 rk4 sB4 wb4 O4 m4 n4 l4=>⟨_,rfl,iteT ?_⟩,fun H4 B4 sB4 wb4 E4=>⟨_,rfl,iteF ?_⟩⟩
   ·exact ⟨_,m4,B4,S4,rk4,rfl,sB3.trans sB4,wb4,O4,n4.trans en,l4.trans el,rfl⟩
   ·exact ⟨_,rfl,q A B4 H4 S rk (fun b o e n2=>sB4 _ _ (sB3 _ _ (kH b o e n2))) wb4 O3 E4 en el⟩
  ·intro σ H0 Q0 Q1 hq h
   obtain ⟨y,ey,A',B',S',rk',e1,wb',O',q1,q2⟩:=h
   refine ⟨y,ey,A',B',S',rk',e1,wb',O',fun a1 a2 a3 a4 a5 a6 a7 a8 a9 a10=>?_,fun a1 a2 a3 a4 a5=>?_⟩
   ·obtain ⟨c,e,h⟩:=q1 a1 a2 a3 a4 a5 a6 a7 a8 a9 a10
    exact ⟨c,e,hq _ _ h⟩
   ·obtain ⟨c,e,h⟩:=q2 a1 a2 a3 a4 a5
    exact ⟨c,e,hq _ _ h⟩
def spPr (C:Cs):Sp:=fun vs H Q _=>∃ (A:Ad) (B:Hp) (S:Bl.St),vs = [.ref A.w]∧Wb C A B H S∧∀ l H',Same H H'→H l=none→JL H' l (Bl.pairs S)→Q (.ref l) H'
theorem scPr:FnScope ["self"] ["self"] (defScope sPr):=⟨rfl,rfl,rfl,by decide +kernel,rfl,by decide +kernel,by decide +kernel⟩
theorem okPr (G:Pg K mg C):FnOk P w K mg base CX0 1 G.dPr.f G.dPr.fd ["self"] (spPr C):=by
 refine G.dPr.F.ok scPr (fun vs H Q E h=>?_) (fun cdv Ar outer s H vs Q E hr h=>?_)
 ·obtain ⟨_,_,_,rfl,_⟩:=h
  rfl
 ·obtain ⟨A,B,S,rfl,wb,q⟩:=h
  have n40:=wb.n40
  refine ⟨_,(pss_one (ps_ret (pe_compG (xs:=["u","v"]) (compOkG (fr:=[])) rfl (pi_enum (by rfl) G.T.enumerate (pa_cons (pe_fld (pv 0) rfl) pa_nil)) (fun _ _ _=>(pg_tupK (K:=K) (n:=2) rfl (pgs_cons (pg_name (i:=0) (show List.Nodup (["u","v"]:List Str) by decide +kernel) rfl (Or.inl rfl) (.inr rfl)) (pgs_cons (pg_name (i:=1) (show List.Nodup (["u","v"]:List Str) by decide +kernel) rfl (Or.inl rfl) (.inr rfl)) pgs_nil)))) (fun _ _ _=>pts_one (PW.pt (pw_and (pt_cmpR op_notN (pv 1) pe_non (nomark _)) (pw_and1 (pt_cmpR op_lt (pv 0) (pv 1) (nomark _)))))) (fun _ _ _=>(pe_tup (pa_cons (pv 0) (pa_cons (pv 1) pa_nil))))))),?_⟩
  refine ⟨_,rfl,fld_at (wb.sb _ _ wb.web) G.W.cl G.W.n5 w5 ?_⟩
  refine ⟨A.m,_,rfl,wb.hm,fun D hD=>compG_enum (xs:=lO S.n S.mt) (fun i ac H2=>H2 D=some (.lst ac)∧Same H H2∧∃ js:List Addr,ac=js.map V.ref∧JLs H2 js ((List.range i).filterMap (Bl.prOf S))) ⟨upd_same,same_new hD,[],rfl,.nil⟩ ?_ ?_ ?_⟩
  ·rintro i ac H2 hi ⟨h2,s2,js,rfl,pj⟩
   rw [lf_len] at hi
   have l1:=pj.len
   have l2:((List.range i).filterMap (Bl.prOf S)).length≤(List.range i).length:=List.length_filterMap_le _ _
   rw [List.length_range] at l2
   exact ⟨h2,small5 (by rw [List.length_map];omega),SqL.of (s2 _ _ wb.hm)⟩
  ·rintro i z ac H2 pt N hz hN ⟨h2,s2,js,rfl,pj⟩ hpt
   have hi:i < S.n:=by
    have:=(List.getElem?_eq_some_iff.mp hz).1
    rwa [lf_len] at this
   rw [show (lO S.n S.mt)[i]? = some (oN (S.mt i)) from lf_get hi] at hz
   cases hz
   have s3:=s2.trans (same_new (o:=.tup [.int (i:Int),oN (S.mt i)]) hpt)
   have s23:=same_new (o:=.tup [.int (i:Int),oN (S.mt i)]) hpt
   have h3:=s23 _ _ h2
   have pj3:=pj.same s23
   have e1:List.filterMap (Bl.prOf S) [i] = (Bl.prOf S i).toList:=by
    cases h:Bl.prOf S i with
    | none=>rw [List.filterMap_cons,h];rfl
    | some y=>rw [List.filterMap_cons,h];rfl
   have er:(List.range (i+1)).filterMap (Bl.prOf S)=(List.range i).filterMap (Bl.prOf S)++(Bl.prOf S i).toList:=by
    rw [List.range_succ,List.filterMap_append,e1]
   rw [er] at hN
   have hpt3:upd H2 pt (.tup [.int (i:Int),oN (S.mt i)]) pt=some (.tup [.int (i:Int),oN (S.mt i)]):=upd_same
   generalize upd H2 pt (.tup [.int (i:Int),oN (S.mt i)])=H3 at *
   refine ⟨pt,_,rfl,SqT.of hpt3,rfl,_,_,rfl,_,_,rfl,rfl,[some (.int (i:Int)),some (oN (S.mt i))],rfl,rfl,?_⟩
   refine ⟨_,rfl,rfl,_,rfl,?_⟩
   rw [isN_oN]
   cases em:S.mt i with
   | none =>
    refine iteF (iteF (hN _ _ ⟨h3,s3,js,rfl,?_⟩))
    have:Bl.prOf S i=none:=by unfold Bl.prOf;rw [em]
    rw [this]
    show JLs _ js (_ ++ [])
    rw [List.append_nil];exact pj3
   | some y =>
    refine iteT ⟨_,rfl,_,rfl,_,_,rfl,rfl,_,rfl,?_⟩
    by_cases l:i < y
    ·rw [decide_eq_true (show (i:Int) < (y:Int) by omega)]
     refine iteT ⟨_,rfl,_,rfl,(by show 2≤sizeLine;decide),fun t2 ht2=>?_⟩
     have s4:=same_new (o:=.tup [.int (i:Int),.int (y:Int)]) ht2
     have h4:=s4 _ _ h3
     refine ⟨h4,hN _ _ ⟨upd_same,same_upd (s3.trans s4) hD,js ++ [t2],by rw [List.map_append];rfl,?_⟩⟩
     have:Bl.prOf S i=some (i,y):=by unfold Bl.prOf;rw [em];exact if_pos l
     rw [this]
     exact JLs.upd h4 ((pj3.same s4).app (.cons upd_same .nil))
    ·rw [decide_eq_false (show ¬ (i:Int) < (y:Int) by omega)]
     refine iteF (hN _ _ ⟨h3,s3,js,rfl,?_⟩)
     have:Bl.prOf S i=none:=by unfold Bl.prOf;rw [em];exact if_neg l
     rw [this]
     show JLs _ js (_ ++ [])
     rw [List.append_nil];exact pj3
  ·rintro ac H2 ⟨h2,s2,js,rfl,pj⟩
   rw [lf_len] at pj
   exact q D H2 s2 hD ⟨js,h2,pj⟩
def selM (S:Bl.St) (z:Int) (k:Nat):List Nat:=(List.range k).filter fun p=>decide ((S.bd (S.out p)).mark=z)
def spOp (C:Cs) (z:Int):Sp:=fun vs H Q _=>∃ (A:Ad) (B:Hp) (S:Bl.St),vs = [.ref A.w]∧Wb C A B H S∧Bl.Fo S∧∀ l H',Same H H'→H l=none→H' l=some (.lst (nV (selM S z S.n)))→Q (.ref l) H'
theorem scOp:FnScope ["web"] ["web"] (defScope sOp):=⟨rfl,rfl,rfl,by decide +kernel,rfl,by decide +kernel,by decide +kernel⟩
theorem okOp (G:Pg K mg C):FnOk P w K mg base CX0 1 G.dOp.f G.dOp.fd ["web"] (spOp C (-1)):=by
 refine G.dOp.F.ok scOp (fun vs H Q E h=>?_) (fun cdv Ar outer s H vs Q E hr h=>?_)
 ·obtain ⟨_,_,_,rfl,_⟩:=h
  rfl
 ·obtain ⟨A,B,S,rfl,wb,F,q⟩:=h
  have n40:=wb.n40
  refine ⟨_,(pss_one (ps_ret (pe_compG (xs:=["place","body"]) (compOkG (fr:=[])) rfl (pi_enum (by rfl) G.T.enumerate (pa_cons (pe_fld (pv 0) rfl) pa_nil)) (fun _ _ _=>(pg_tupK (K:=K) (n:=2) rfl (pgs_cons (pg_name (i:=0) (show List.Nodup (["place","body"]:List Str) by decide +kernel) rfl (Or.inl rfl) (.inr rfl)) (pgs_cons (pg_name (i:=1) (show List.Nodup (["place","body"]:List Str) by decide +kernel) rfl (Or.inl rfl) (.inr rfl)) pgs_nil)))) (fun _ _ _=>pts_one (pt_cmpR op_eq (pe_fldK (K:=K) (pv 1) rfl) (pe_glob (v:=.int (-1)) (by rfl) G.gO ⟨_,rfl⟩) (nomark _))) (fun _ _ _=>(pv 0))))),?_⟩
  refine ⟨_,rfl,fld_at (wb.sb _ _ wb.web) G.W.cl G.W.n3 w3 ?_⟩
  refine ⟨A.o,_,rfl,wb.ho,fun D hD=>compG_enum (xs:=lRef S.n S.out) (fun i ac H2=>H2 D=some (.lst ac)∧Same H H2∧ac=nV (selM S (-1) i)) ⟨upd_same,same_new hD,rfl⟩ ?_ ?_ ?_⟩
  ·rintro i ac H2 hi ⟨h2,s2,rfl⟩
   unfold lRef at hi
   rw [lf_len] at hi
   have l2:(selM S (-1) i).length≤(List.range i).length:=List.length_filter_le _ _
   rw [List.length_range] at l2
   exact ⟨h2,small5 (by rw [nV_len];omega),SqL.of (s2 _ _ wb.ho)⟩
  ·rintro i z ac H2 pt N hz hN ⟨h2,s2,rfl⟩ hpt
   have hi:i < S.n:=by
    have:=(List.getElem?_eq_some_iff.mp hz).1
    unfold lRef at this
    rwa [lf_len] at this
   rw [show (lRef S.n S.out)[i]? = some (.ref (S.out i)) from lf_get hi] at hz
   cases hz
   have s23:=same_new (o:=.tup [.int (i:Int),.ref (S.out i)]) hpt
   have s3:=s2.trans s23
   have h3:=s23 _ _ h2
   have er:selM S (-1) (i+1)=selM S (-1) i++(if (S.bd (S.out i)).mark = -1 then [i] else []):=by
    unfold selM
    rw [List.range_succ,List.filter_append]
    congr 1
    by_cases m:(S.bd (S.out i)).mark = -1
    ·rw [if_pos m,List.filter_cons_of_pos (by simpa using m)];rfl
    ·rw [if_neg m,List.filter_cons_of_neg (by simpa using m)];rfl
   rw [er] at hN
   obtain ⟨dx2,pa2,ia2,ja2,cv2,hB2,_⟩:=(wb.same s3).bod _ (F.out i hi).1
   refine ⟨pt,_,rfl,SqT.of upd_same,rfl,_,_,rfl,_,_,rfl,rfl,[some (.int (i:Int)),some (.ref (S.out i))],rfl,rfl,?_⟩
   refine ⟨_,rfl,fld_at hB2 G.B.cl G.B.n6 b6 ?_⟩
   refine ⟨rfl,_,rfl,?_⟩
   rw [int_dec]
   by_cases m:(S.bd (S.out i)).mark = -1
   ·rw [decide_eq_true m]
    refine iteT ⟨_,rfl,h3,hN _ _ ⟨upd_same,same_upd s3 hD,?_⟩⟩
    rw [if_pos m,nV_app];rfl
   ·rw [decide_eq_false m]
    refine iteF (hN _ _ ⟨h3,s3,?_⟩)
    rw [if_neg m,List.append_nil]
  ·rintro ac H2 ⟨h2,s2,rfl⟩
   unfold lRef at h2
   rw [lf_len] at h2
   exact q D H2 s2 hD h2
end
end Rk08_the_largest_pairing
namespace Rk08_the_largest_pairing
open PySem L2 PyProof.Rows R K3 BW
open M21 (oN lI lO lI_at lO_at lf_ix lI_set while_m putF_few)
open De (lf lf_len lf_get)
abbrev sGw:Stmt:=top 28
abbrev sLg:Stmt:=top 29
section
variable {P:Program}{w:World}{K:PySem.W.Frag}{mg:Str→Option Value}{base:Heap}{C:Cs}
seal PA PE PS PSs PT PW
def w0 (ls:List (Nat×Nat)):List (Nat×Nat×Int):=ls.map fun y=>(y.1,y.2,0)
theorem w0_mem {ls:List (Nat×Nat)}{y:Nat×Nat×Int} (h:y∈w0 ls):(y.1,y.2.1)∈ls:=by
 obtain ⟨x,hx,e⟩:=List.mem_map.mp h
 rw [←e];exact hx
theorem w0_take {ls:List (Nat×Nat)}{i:Nat}{y:Nat×Nat} (h:ls[i]? = some y):w0 (ls.take (i+1))=w0 (ls.take i) ++ [(y.1,y.2,0)]:=by
 unfold w0
 rw [List.take_add_one,h,List.map_append];rfl
def spGw (C:Cs):Sp:=fun vs H Q _=>∃ (ll:Addr) (n:Nat) (ls:List (Nat×Nat)),vs = [.int (n:Int),.ref ll]∧JL H ll ls∧n≤40∧ls.length≤1000∧(∀ y∈ls,y.1 < y.2∧y.2 < n)∧TabOk C.tb C.pos C.q H ∧
 ∀ A B H' S rk,(∀ b o,H b=some o→b≠C.tb→B b=some o)→Wb C A B H' S→Bl.Ok S rk→Bl.En S→S.n=n→S.lk=dbl (w0 ls)→Q (.ref A.w) H'
theorem scGw:FnScope ["n","links"] ["n","links"] (defScope sGw):=⟨rfl,rfl,rfl,by decide +kernel,rfl,by decide +kernel,by decide +kernel⟩
theorem okGw {c:Addr} (G:Pg K mg C) (L:Lm K mg base C G c) (dGw:Df K mg "grown_without_worries" sGw ["n","links"]):FnOk P w K mg base CX0 48 dGw.f dGw.fd ["n","links"] (spGw C):=by
 have GGn:FnOk P w K mg base CX0 47 G.dGn.f G.dGn.fd ["n","worries"] (spGn C):=okGn G L
 refine dGw.F.ok scGw (fun vs H Q E h=>?_) (fun cdv Ar outer s H vs Q E hr h=>?_)
 ·obtain ⟨_,_,_,rfl,_⟩:=h
  rfl
 ·obtain ⟨ll,n,ls,rfl,⟨js,hll,pls⟩,n40,lls,lt,tab,q⟩:=h
  have ljs:js.length=ls.length:=Paired.length pls
  refine ⟨_,(pss_one (ps_ret (pe_call GGn (hr.mono (by omega)) (by rfl) G.dGn.m G.dGn.F.kp G.dGn.b .nil pass0 (pa_cons (pv 0) (pa_cons (pe_compG (xs:=["u","v"]) (compOkG (fr:=[])) rfl (pi_list (pv 1)) (fun _ _ _=>(pg_tupK (K:=K) (n:=2) rfl (pgs_cons (pg_name (i:=0) (show List.Nodup (["u","v"]:List Str) by decide +kernel) rfl (Or.inl rfl) (.inr rfl)) (pgs_cons (pg_name (i:=1) (show List.Nodup (["u","v"]:List Str) by decide +kernel) rfl (Or.inl rfl) (.inr rfl)) pgs_nil)))) (fun _ _ _=>pts_nil) (fun _ _ _=>(pe_tup (pa_cons (pv 0) (pa_cons (pv 1) (pa_cons pe_int pa_nil)))))) pa_nil))))),?_⟩
  refine ⟨_,rfl,_,rfl,ll,rfl,⟨_,SqL.of hll⟩,fun D hD=>compG_list (xs:=js.map V.ref) (fun i ac H2=>H2 D=some (.lst ac)∧Same H H2∧∃ ks:List Addr,ac=ks.map V.ref∧LKs H2 ks (w0 (ls.take i))) ⟨upd_same,same_new hD,[],rfl,.nil⟩ ?_ ?_ ?_⟩
  ·rintro i ac H2 hi ⟨h2,s2,ks,rfl,pk⟩
   rw [List.length_map] at hi
   have:=Paired.length pk
   unfold w0 at this
   rw [List.length_map,List.length_take] at this
   exact ⟨h2,small5 (by rw [List.length_map];omega),SqL.of (s2 _ _ hll)⟩
  ·rintro i z ac H2 N hz hN ⟨h2,s2,ks,rfl,pk⟩
   rw [List.getElem?_map] at hz
   obtain ⟨t,ht,rfl⟩:=Option.map_eq_some_iff.mp hz
   obtain ⟨y,hy,hty⟩:=pairedGetL pls ht
   have hty2:=s2 _ _ hty
   refine ⟨t,_,rfl,SqT.of hty2,rfl,_,_,rfl,_,_,rfl,rfl,[some (.int (y.1:Int)),some (.int (y.2:Int))],rfl,rfl,?_⟩
   refine ⟨_,rfl,_,rfl,(by show 3≤sizeLine;decide),fun t2 ht2=>?_⟩
   have s4:=same_new (o:=.tup [.int (y.1:Int),.int (y.2:Int),.int 0]) ht2
   have h4:=s4 _ _ h2
   have e4:upd H2 t2 (.tup [.int (y.1:Int),.int (y.2:Int),.int 0]) t2=some (p3 (y.1,y.2,0)):=upd_same
   refine ⟨h4,hN _ _ ⟨upd_same,same_upd (s2.trans s4) hD,ks ++ [t2],by rw [List.map_append];rfl,?_⟩⟩
   rw [w0_take hy]
   exact LKs.upd h4 (pairedApp (pk.same s4) (.cons e4 .nil))
  ·rintro ac H2 ⟨h2,s2,ks,rfl,pk⟩
   rw [List.length_map,ljs,List.take_length] at pk
   refine ⟨D,n,w0 ls,rfl,⟨ks,h2,pk⟩,n40,by unfold w0;rw [List.length_map];exact lls,fun y hy=>lt _ (w0_mem hy),tab.same s2,fun A B H3 S rk kB wb O E1 en el=>?_⟩
   exact q A B H3 S rk (fun b o e nb=>kB b o (s2 _ _ e) nb) wb O E1 en el
def LgR (n:Nat) (ls:List (Nat×Nat)) (H':Hp) (t pl ol:Addr) (S:Bl.St) (rk:Nat→Nat):Prop :=
 H' t=some (.tup [.ref pl,.ref ol])∧JL H' pl (Bl.pairs S)∧H' ol=some (.lst (nV (selM S (-1) n)))∧Bl.Ok S rk∧Bl.En S∧S.n=n∧S.lk=dbl (w0 ls)
def spLg (C:Cs):Sp:=fun vs H Q _=>∃ (ll:Addr) (n:Nat) (ls:List (Nat×Nat)),vs = [.int (n:Int),.ref ll]∧JL H ll ls∧n≤40∧ls.length≤1000∧(∀ y∈ls,y.1 < y.2∧y.2 < n)∧TabOk C.tb C.pos C.q H ∧
 ∀ t pl ol S rk H',Same (mask C.tb H) H'→TabOk C.tb C.pos C.q H'→H pl=none→H ol=none→pl≠ol→LgR n ls H' t pl ol S rk→Q (.ref t) H'
theorem scLg:FnScope ["n","links","web"] ["n","links"] (defScope sLg):=⟨rfl,rfl,rfl,by decide +kernel,rfl,by decide +kernel,by decide +kernel⟩
theorem okLg {c:Addr} (G:Pg K mg C) (L:Lm K mg base C G c) (dGw:Df K mg "grown_without_worries" sGw ["n","links"]) (dLg:Df K mg "largest" sLg ["n","links"]):FnOk P w K mg base CX0 49 dLg.f dLg.fd ["n","links"] (spLg C):=by
 have GGw:FnOk P w K mg base CX0 48 dGw.f dGw.fd ["n","links"] (spGw C):=okGw G L dGw
 have GPr:FnOk P w K mg base CX0 1 G.dPr.f G.dPr.fd ["self"] (spPr C):=okPr G
 have GOp:FnOk P w K mg base CX0 1 G.dOp.f G.dOp.fd ["web"] (spOp C (-1)):=okOp G
 refine dLg.F.ok scLg (fun vs H Q E h=>?_) (fun cdv Ar outer s H vs Q E hr h=>?_)
 ·obtain ⟨_,_,_,rfl,_⟩:=h
  rfl
 ·obtain ⟨ll,n,ls,rfl,hll,n40,lls,lt,tab,q⟩:=h
  refine ⟨_,(pss_cons (ps_set (i:=2) scLg.nd rfl (by first | exact Or.inl rfl | exact Or.inr rfl) (pe_call GGw (hr.mono (by omega)) (by rfl) dGw.m dGw.F.kp dGw.b .nil pass0 (pa_cons (pv 0) (pa_cons (pv 1) pa_nil))))
   (pss_one (ps_ret (pe_tup (pa_cons (pe_meth0 (pv 2) G.W.cl G.dPr.m GPr (hr.mono (by omega)) G.dPr.b .nil pass0) (pa_cons (pe_call GOp (hr.mono (by omega)) (by rfl) G.dOp.m G.dOp.F.kp G.dOp.b .nil pass0 (pa_cons (pv 2) pa_nil)) pa_nil)))))),?_⟩
  refine ⟨_,rfl,_,rfl,ll,n,ls,rfl,hll,n40,lls,lt,tab,fun A B H1 S rk kB wb O E1 en el=>?_⟩
  have s1:Same (mask C.tb H) H1:=fun b o e=>wb.sb _ _ (kB b o (mask_of e).2 (mask_of e).1)
  have fr:∀ x,H1 x=none→H x=none:=fun x hx=>by
   cases e:H x with
   | none=>rfl
   | some o =>
    by_cases et:x=C.tb
    ·obtain ⟨ps,hP,_⟩:=wb.tab
     rw [et,hP] at hx;cases hx
    ·have:=s1 x o (by rw [mask_ne et];exact e)
     rw [hx] at this;cases this
  refine ⟨_,rfl,A.w,A.dw,_,rfl,wb.sb _ _ wb.web,w_no (by decide +kernel) (by decide +kernel) (by decide +kernel) (by decide +kernel) (by decide +kernel),?_⟩
  refine ⟨A,B,S,rfl,wb,fun pl H2 s2 npl jl=>?_⟩
  refine ⟨_,rfl,A,B,S,rfl,wb.same s2,O.fo,fun ol H3 s3 nol hol=>⟨(by show 2≤sizeLine;decide),fun t ht=>?_⟩⟩
  have s4:=same_new (o:=.tup [.ref pl,.ref ol]) ht
  have S4:=(s2.trans s3).trans s4
  refine q t pl ol S rk _ (s1.trans S4) (wb.tab.same S4) (fr _ npl) (fr _ (s2.free nol)) (let ⟨_,hx,_⟩:=jl;ne_of_none hx nol) ⟨upd_same,(jl.same s3).same s4,?_,O,E1,en,el⟩
  rw [←en];exact s4 _ _ hol
end
end Rk08_the_largest_pairing
namespace Rk08_the_largest_pairing
open PySem L2 PyProof.Rows R K3 BW
open M21 (oN lI lO lI_at lO_at lf_ix lI_set while_m putF_few)
open De (lf lf_len lf_get)
abbrev sCell:Stmt:=top 31
abbrev sWh:Stmt:=top 32
abbrev sMany:Stmt:=top 33
abbrev sLk:Stmt:=top 34
abbrev sLs:Stmt:=top 35
abbrev sOd:Stmt:=top 36
abbrev sRi:Stmt:=top 37
abbrev sPg:Stmt:=top 38
abbrev sLt:Stmt:=top 39
abbrev sLaw:Stmt:=top 40
section
variable {P:Program}{w:World}{K:PySem.W.Frag}{mg:Str→Option Value}{base:Heap}
seal PA PE PS PSs PT PW
theorem kitII (K:PySem.W.Frag):PySem.W.kitOne K (.type "int") (.type "int")=some true:=by kernel_rfl
theorem kitIB (K:PySem.W.Frag):PySem.W.kitOne K (.type "int") (.type "bool")=some false:=by kernel_rfl
theorem kitTT (K:PySem.W.Frag):PySem.W.kitOne K (.type "tuple") (.type "tuple")=some true:=by kernel_rfl
theorem kitLL (K:PySem.W.Frag):PySem.W.kitOne K (.type "list") (.type "list")=some true:=by kernel_rfl
theorem scCell:FnScope ["_law_script","_law_k"] ["_law_script","_law_k"] (defScope sCell):=⟨rfl,rfl,rfl,by decide +kernel,rfl,by decide +kernel,by decide +kernel⟩
theorem okCell (d:Df K mg "_law_cell_at" sCell ["_law_script","_law_k"]) (T:BiR mg):FnOk P w K mg base CX0 1 d.f d.fd ["_law_script","_law_k"] (spCell K):=by
 refine d.F.ok scCell (fun vs H Q E h=>?_) (fun cdv A outer s H vs Q E hr h=>?_)
 ·obtain ⟨a,ns,k,rfl,_⟩:=h
  rfl
 ·obtain ⟨a,ns,k,rfl,hS,h0,q⟩:=h
  refine ⟨_,(pss_cons (ps_if (pt_cmpR op_lt (pv 1) (pe_callB call_len_seq (by rfl) T.len PySem.boot_len (pa_cons (pv 0) pa_nil)) (nomark _)) (pss_one (ps_ret (pe_ix ix_list (pv 0) (pv 1) (fun _ _=>rfl)))) pss_nil)
   (pss_one (ps_ret (pe_op op_add (pe_op op_mul pe_int (pv 1)) pe_int)))),?_⟩
  refine ⟨_,rfl,_,rfl,a,_,rfl,.inl hS,_,_,rfl,rfl,_,rfl,?_⟩
  refine ite2 (fun hc=>?_) (fun hc=>?_)
  ·have hlt:=of_decide_eq_true hc
   rw [List.length_map] at hlt
   obtain ⟨z,hz⟩:=atI_int h0 hlt
   exact ⟨_,rfl,_,rfl,a,_,_,_,rfl,rfl,hS,hz,q z⟩
  ·exact ⟨_,rfl,_,_,rfl,rfl,.inl ⟨by decide,by decide⟩,_,_,rfl,rfl,q _⟩
def spWh:Sp:=fun vs H Q _=>∃ x:Int,vs = [.int x]∧Q (.bl true) H
theorem scWh:FnScope ["_law_found"] ["_law_found"] (defScope sWh):=⟨rfl,rfl,rfl,by decide +kernel,rfl,by decide +kernel,by decide +kernel⟩
theorem okWh (d:Df K mg "_law_whole" sWh ["_law_found"]) (T:BiR mg):FnOk P w K mg base CX0 1 d.f d.fd ["_law_found"] spWh:=by
 refine d.F.ok scWh (fun vs H Q E h=>?_) (fun cdv A outer s H vs Q E hr h=>?_)
 ·obtain ⟨_,rfl,_⟩:=h
  rfl
 ·obtain ⟨x,rfl,q⟩:=h
  refine ⟨_,(pss_one (ps_ret (pe_and (pe_callB call_isT (by rfl) T.isin boot_isinstance (pa_cons (pv 0) (pa_cons (pe_bltn (v:=.ty "int") (by rfl) T.t_int boot_int rfl) pa_nil))) (pe_one (pe_not (pe_callB call_isT (by rfl) T.isin boot_isinstance (pa_cons (pv 0) (pa_cons (pe_bltn (v:=.ty "bool") (by rfl) T.t_bool boot_bool rfl) pa_nil)))))))),?_⟩
  refine ⟨_,rfl,_,_,_,_,rfl,.int _,kitII K,_,rfl,iteT ?_⟩
  exact ⟨_,rfl,_,_,_,_,rfl,.int _,kitIB K,_,rfl,q⟩
end
section
variable {P:Program}{w:World}{K:PySem.W.Frag}{mg:Str→Option Value}{base:Heap}
seal PA PE PS PSs PT PW
def spMany:Sp:=fun vs H Q _=>∃ c:Int,vs = [.int c]∧∀ (n:Int) H',Same H H'→0≤n→n≤16→Q (.int n) H'
theorem scMany:FnScope ["_law_seed"] ["_law_seed"] (defScope sMany):=⟨rfl,rfl,rfl,by decide +kernel,rfl,by decide +kernel,by decide +kernel⟩
theorem okMany (d:Df K mg "_law_many" sMany ["_law_seed"]):FnOk P w K mg base CX0 1 d.f d.fd ["_law_seed"] spMany:=by
 refine d.F.ok scMany (fun vs H Q E h=>?_) (fun cdv A outer s H vs Q E hr h=>?_)
 ·obtain ⟨c,rfl,_⟩:=h
  rfl
 ·obtain ⟨c,rfl,q⟩:=h
  refine ⟨_,(pss_cons (ps_if (pt_cmpR op_eq (pe_op op_mod (pe_op op_fdiv (pv 0) pe_int) pe_int) pe_int (nomark _)) (pss_one (ps_ret (pe_op op_add pe_int (pe_op op_mod (pe_op op_fdiv (pv 0) pe_int) pe_int)))) pss_nil)
   (pss_one (ps_ret (pe_ix ix_list (pe_lst (pa_con pe_int (pa_con pe_int (pa_con pe_int (pa_con pe_int (pa_con pe_int (pa_con pe_int (pa_con pe_int (pa_con pe_int (pa_con pe_int (pa_con pe_int (pa_con pe_int (pa_con pe_int (pa_con pe_int pa_nil)))))))))))))) (pe_op op_mod (pv 0) pe_int) (fun _ _=>rfl))))),?_⟩
  refine ⟨_,rfl,_,_,rfl,rfl,⟨by decide,by decide⟩,_,_,rfl,rfl,(by show (0:Int) < 8;decide),rfl,_,rfl,?_⟩
  refine ite2 (fun hc=>?_) (fun hc=>?_)
  ·exact ⟨_,rfl,_,_,rfl,rfl,⟨by decide,by decide⟩,_,_,rfl,rfl,(by show (0:Int) < 7;decide),_,_,rfl,rfl,q _ _ (Same.refl _) (by omega) (by omega)⟩
  ·refine ⟨(by show 13≤sizeLine;decide),fun t ht=>?_⟩
   have hz:(c % 13).toNat < 13:=by omega
   have hall:∀ k,k < 13→∃ v:Int,([8,6,4,7,10,5,2,6,8,3,9,0,1].map V.int)[k]? = some (.int v)∧0≤v∧v≤16:=by
    intro k hk
    have h13:k < ([8,6,4,7,10,5,2,6,8,3,9,0,1]:List Int).length:=hk
    refine ⟨_,by rw [List.getElem?_map,List.getElem?_eq_getElem h13];rfl,?_⟩
    have hm:=List.getElem_mem h13
    generalize ([8,6,4,7,10,5,2,6,8,3,9,0,1]:List Int)[k] = v at *
    simp only [List.mem_cons,List.not_mem_nil,or_false] at hm
    omega
   obtain ⟨v,ev,v0,v1⟩:=hall _ hz
   have at1:=atI_nat ev
   rw [show (((c % 13).toNat:Nat):Int)=c % 13 by omega] at at1
   exact ⟨_,rfl,_,_,rfl,rfl,(by show (0:Int) < 13;decide),t,_,_,_,rfl,rfl,SqL.of upd_same,at1,q v _ (same_new ht) v0 v1⟩
end
section
variable {P:Program}{w:World}{K:PySem.W.Frag}{mg:Str→Option Value}{base:Heap}
seal PA PE PS PSs PT PW
def spLk:Sp:=fun vs H Q _=>∃ u v n sh c sr:Int,vs = [.int u,.int v,.int n,.int sh,.int c,.int sr]∧∀ b:Bool,Q (.bl b) H
theorem scLk:FnScope ["_law_u","_law_v","_law_n","_law_shape","_law_cell","_law_share"] ["_law_u","_law_v","_law_n","_law_shape","_law_cell","_law_share"] (defScope sLk):=⟨rfl,rfl,rfl,by decide +kernel,rfl,by decide +kernel,by decide +kernel⟩
theorem okLk (d:Df K mg "_law_linked" sLk ["_law_u","_law_v","_law_n","_law_shape","_law_cell","_law_share"]):FnOk P w K mg base CX0 1 d.f d.fd ["_law_u","_law_v","_law_n","_law_shape","_law_cell","_law_share"] spLk:=by
 refine d.F.ok scLk (fun vs H Q E h=>?_) (fun cdv A outer s H vs Q E hr h=>?_)
 ·obtain ⟨_,_,_,_,_,_,rfl,_⟩:=h
  rfl
 ·obtain ⟨u,v,n,sh,c,sr,rfl,q⟩:=h
  refine ⟨_,(pss_cons (ps_if (PW.pt (pw_or (pt_cmpR op_eq (pv 3) pe_int (nomark _)) (pw_or1 (PW.pt (pw_and (pt_cmpR op_eq (pv 3) pe_int (nomark _)) (pw_and1 (pt_cmpR op_eq (pe_op op_add (pv 0) (pv 1)) (pe_op op_sub (pv 2) pe_int) (nomark _)))))))) (pss_one (ps_ret pe_bl)) pss_nil)
   (pss_cons (ps_if (pt_cmpR op_eq (pv 3) pe_int (nomark _)) (pss_one (ps_ret (pe_or (pe_cmpR op_eq (pe_op op_fdiv (pv 0) pe_int) (pe_op op_fdiv (pv 1) pe_int) (nomark _)) (pe_or (pe_and (pe_cmpR op_eq (pv 1) (pe_op op_add (pv 0) pe_int) (nomark _)) (pe_one (pe_cmpR op_eq (pe_op op_mod (pv 4) pe_int) pe_int (nomark _)))) (pe_one (pe_and (pe_cmpR op_eq (pv 1) (pe_op op_add (pv 0) pe_int) (nomark _)) (pe_one (pe_cmpR op_eq (pe_op op_mod (pv 4) pe_int) pe_int (nomark _))))))))) pss_nil)
   (pss_cons (ps_if (pt_cmpR op_eq (pv 3) pe_int (nomark _)) (pss_one (ps_ret (pe_and (pe_cmpR op_le (pv 0) (pe_op op_fdiv (pv 2) pe_int) (nomark _)) (pe_one (pe_cmpR op_lt (pe_op op_mod (pv 4) pe_int) (pe_op op_add (pv 5) pe_int) (nomark _)))))) pss_nil)
   (pss_cons (ps_if (PW.pt (pw_and (pt_cmpR op_eq (pv 3) pe_int (nomark _)) (pw_and1 (pt_cmpR op_eq (pe_op op_fdiv (pv 0) pe_int) (pe_op op_fdiv (pv 1) pe_int) (nomark _))))) (pss_one (ps_ret pe_bl)) pss_nil)
   (pss_cons (ps_if (pt_cmpR op_eq (pv 3) pe_int (nomark _)) (pss_one (ps_ret (pe_cmpR op_eq (pe_op op_mod (pv 4) pe_int) pe_int (nomark _)))) pss_nil)
   (pss_one (ps_ret (pe_cmpR op_lt (pe_op op_mod (pv 4) pe_int) (pv 5) (nomark _))))))))),?_⟩
  refine any_ifS (any_or (fun Q q=>⟨_,rfl,rfl,_,rfl,q _⟩) (any_and (fun Q q=>⟨_,rfl,rfl,_,rfl,q _⟩) (fun Q q=>⟨_,rfl,_,rfl,_,_,rfl,rfl,_,rfl,_,_,rfl,rfl,rfl,_,rfl,q _⟩))) (q true) ?_
  refine any_ifS (fun Q q=>⟨_,rfl,rfl,_,rfl,q _⟩) ?_ ?_
  ·refine ⟨_,rfl,_,_,rfl,rfl,⟨by decide,by decide⟩,_,rfl,_,_,rfl,rfl,⟨by decide,by decide⟩,rfl,_,rfl,ite2 (fun _=>q _) (fun _=>?_)⟩
   refine ⟨_,rfl,_,rfl,_,_,rfl,rfl,rfl,_,rfl,?_⟩
   exact ite2 (fun _=>⟨_,rfl,_,_,rfl,rfl,(by show (0:Int) < 4;decide),rfl,_,rfl,ite2 (fun _=>q _) (fun _=>⟨_,rfl,_,rfl,_,_,rfl,rfl,rfl,_,rfl,ite2 (fun _=>⟨_,rfl,_,_,rfl,rfl,(by show (0:Int) < 8;decide),rfl,q _⟩) (fun _=>q _)⟩)⟩) (fun _=>⟨_,rfl,iteF ⟨_,rfl,_,rfl,_,_,rfl,rfl,rfl,_,rfl,ite2 (fun _=>⟨_,rfl,_,_,rfl,rfl,(by show (0:Int) < 8;decide),rfl,q _⟩) (fun _=>q _)⟩⟩)
  refine any_ifS (fun Q q=>⟨_,rfl,rfl,_,rfl,q _⟩) ?_ ?_
  ·exact ⟨_,rfl,_,rfl,_,_,rfl,rfl,⟨by decide,by decide⟩,_,_,rfl,rfl,_,rfl,ite2 (fun _=>⟨_,rfl,_,_,rfl,rfl,(by show (0:Int) < 8;decide),_,rfl,_,_,rfl,rfl,_,_,rfl,rfl,q _⟩) (fun _=>q _)⟩
  refine any_ifS (any_and (fun Q q=>⟨_,rfl,rfl,_,rfl,q _⟩) (fun Q q=>⟨_,rfl,_,_,rfl,rfl,⟨by decide,by decide⟩,_,rfl,_,_,rfl,rfl,⟨by decide,by decide⟩,rfl,_,rfl,q _⟩)) (q true) ?_
  refine any_ifS (fun Q q=>⟨_,rfl,rfl,_,rfl,q _⟩) ?_ ?_
  ·exact ⟨_,rfl,_,_,rfl,rfl,(by show (0:Int) < 8;decide),rfl,q _⟩
  ·exact ⟨_,rfl,_,_,rfl,rfl,(by show (0:Int) < 8;decide),_,rfl,_,_,rfl,rfl,q _⟩
end
section
variable {P:Program}{w:World}{K:PySem.W.Frag}{mg:Str→Option Value}{base:Heap}
seal PA PE PS PSs PT PW
def Lks (n:Nat) (ls:List (Nat×Nat)):Prop:=(∀ y∈ls,y.1 < y.2∧y.2 < n)∧ls.Nodup
theorem Lks.perm {n:Nat}{a b:List (Nat×Nat)} (h:Lks n a) (p:b.Perm a):Lks n b:=⟨fun y hy=>h.1 y (p.mem_iff.mp hy),p.nodup_iff.mpr h.2⟩
theorem cut_lo {xs:List V}{z:Int} (h0:0≤z) (h1:z≤xs.length):cutV xs none (some z)=xs.take z.toNat:=by
 unfold cutV
 have e:some z=some ((z.toNat:Nat):Int):=by rw [show ((z.toNat:Nat):Int)=z by omega]
 rw [e,HT.sIx_nat,HT.sIx_none,List.drop_zero,Nat.min_eq_left (by omega)];rfl
theorem cut_hi {xs:List V}{z:Int} (h0:0≤z) (h1:z≤xs.length):cutV xs (some z) none=xs.drop z.toNat:=by
 unfold cutV
 have e:some z=some ((z.toNat:Nat):Int):=by rw [show ((z.toNat:Nat):Int)=z by omega]
 rw [e,HT.sIx_nat,HT.sIx_none,Nat.min_eq_left (by omega)]
 exact List.take_of_length_le (by rw [List.length_drop];exact Nat.le_refl _)
theorem jl_cut {H:Hp}{rs:List Addr}{ts:List (Nat×Nat)} (h:JLs H rs ts) (k:Nat):JLs H (rs.drop k++rs.take k) (ts.drop k++ts.take k):=pairedApp (pairedDrop k h) (pairedTake k h)
def spLs (K:PySem.W.Frag):Sp:=fun vs H Q _=>∃ (a:Addr) (ns:List Int) (n:Nat) (sh sr:Int),vs = [.ref a,.int (n:Int),.int sh,.int sr]∧SqL K H a (ns.map V.int)∧n≤40 ∧
 ∀ (l:Addr) (ls:List (Nat×Nat)) (H':Hp),H l=none→Same H H'→JL H' l ls→Lks n ls→ls.length≤780→Q (.ref l) H'
theorem scLs:FnScope ["_law_script","_law_n","_law_shape","_law_share","_law_found","_law_k","_law_u","_law_v"] ["_law_script","_law_n","_law_shape","_law_share"] (defScope sLs):=⟨rfl,rfl,rfl,by decide +kernel,rfl,by decide +kernel,by decide +kernel⟩
theorem okLs (d:Df K mg "_law_links" sLs ["_law_script","_law_n","_law_shape","_law_share"]) (dC:Df K mg "_law_cell_at" sCell ["_law_script","_law_k"]) (dL:Df K mg "_law_linked" sLk ["_law_u","_law_v","_law_n","_law_shape","_law_cell","_law_share"]) (T:BiR mg):FnOk P w K mg base CX0 2 d.f d.fd ["_law_script","_law_n","_law_shape","_law_share"] (spLs K):=by
 have GC:FnOk P w K mg base CX0 1 dC.f dC.fd ["_law_script","_law_k"] (spCell K):=okCell dC T
 have GL:FnOk P w K mg base CX0 1 dL.f dL.fd ["_law_u","_law_v","_law_n","_law_shape","_law_cell","_law_share"] spLk:=okLk dL
 refine d.F.ok scLs (fun vs H Q E h=>?_) (fun cdv A outer s H vs Q E hr h=>?_)
 ·obtain ⟨_,_,_,_,_,rfl,_⟩:=h
  rfl
 ·obtain ⟨a,ns,n,sh,sr,rfl,hS,n1,q⟩:=h
  refine ⟨_,(pss_cons (ps_set (i:=4) scLs.nd rfl (by first | exact Or.inl rfl | exact Or.inr rfl) (pe_lst pa_nil))
   (pss_cons (ps_set (i:=5) scLs.nd rfl (by first | exact Or.inl rfl | exact Or.inr rfl) pe_int)
   (pss_cons (ps_for PassesOwn.never rfl (pi_range1 (by rfl) T.range (pa_cons (pv 1) pa_nil)) (pg_name (i:=6) scLs.nd rfl (by first | exact Or.inl rfl | exact Or.inr rfl)) (pss_one (ps_for PassesOwn.never rfl (pi_range2 (by rfl) T.range (pa_cons (pe_op op_add (pv 6) pe_int) (pa_cons (pv 1) pa_nil))) (pg_name (i:=7) scLs.nd rfl (by first | exact Or.inl rfl | exact Or.inr rfl)) (pss_cons (ps_if (pt_val (pe_call GL (hr.mono (by omega)) (by rfl) dL.m dL.F.kp dL.b .nil pass0 (pa_cons (pv 6) (pa_cons (pv 7) (pa_cons (pv 1) (pa_cons (pv 2) (pa_cons (pe_call GC (hr.mono (by omega)) (by rfl) dC.m dC.F.kp dC.b .nil pass0 (pa_cons (pv 0) (pa_cons (pv 5) pa_nil))) (pa_cons (pv 3) pa_nil)))))))) (pss_one (ps_expr (pe_bm PySem.F.plainAttrs_list PySem.F.slot_list_append PySem.F.type_list_append mt_append (pv 4) (pa_cons (pe_tup (pa_cons (pv 6) (pa_cons (pv 7) pa_nil))) pa_nil)))) pss_nil)
   (pss_one (ps_set (i:=5) scLs.nd rfl (by first | exact Or.inl rfl | exact Or.inr rfl) (pe_op op_add (pv 5) pe_int)))))))
   (pss_cons (ps_if (pt_cmpR op_eq (pe_op op_mod (pv 3) pe_int) pe_int (nomark _)) (pss_one (ps_expr (pe_bm0 PySem.F.plainAttrs_list PySem.F.slot_list_reverse PySem.F.type_list_reverse mt_reverse (pv 4)))) pss_nil)
   (pss_cons (ps_if (pt_cmpR op_eq (pe_op op_mod (pv 3) pe_int) pe_int (nomark _)) (pss_one (ps_set (i:=4) scLs.nd rfl (by first | exact Or.inl rfl | exact Or.inr rfl) (pe_op op_cat (pe_slice sl_list (pv 4) (po_some (pe_op op_fdiv (pe_callB call_len_seq (by rfl) T.len PySem.boot_len (pa_cons (pv 4) pa_nil)) pe_int)) po_none) (pe_slice sl_list (pv 4) po_none (po_some (pe_op op_fdiv (pe_callB call_len_seq (by rfl) T.len PySem.boot_len (pa_cons (pv 4) pa_nil)) pe_int)))))) pss_nil)
   (pss_one (ps_ret (pv 4)))))))),?_⟩
  refine ⟨Nat.zero_le _,fun l hl=>?_⟩
  have s1:=same_new (o:=.lst []) hl
  refine ⟨_,rfl,_,rfl,by omega,by omega,for_range (fun i σ H2=>∃ (k:Int) (x7 x8:Option V) (ts:List (Nat×Nat)),σ = [some (.ref a),some (.int (n:Int)),some (.int sh),some (.int sr),some (.ref l),some (.int k),x7,x8]∧0≤k∧Same H H2∧JL H2 l ts∧Lks n ts∧(∀ t∈ts,t.1 < i)∧ts.length+tri (n-i)≤tri n)
   ⟨4,_,_,[],rfl,by decide,s1,⟨[],upd_same,.nil⟩,⟨(fun t ht=>by cases ht),List.nodup_nil⟩,(fun t ht=>by cases ht),by show 0+tri (n-0)≤_;rw [Nat.sub_zero];omega⟩ ?_ ?_⟩
  ·rintro i σ H2 hi ⟨k,x7,x8,ts,rfl,k0,s2,tl,rw',low,len⟩
   have hi:i < n:=by omega
   obtain ⟨m,hm⟩:∃ m,n-i=m+1:=⟨n-i-1,by omega⟩
   rw [hm] at len
   have len:ts.length+(tri m+m)≤tri n:=len
   rw [show (0:Int)+(i:Int)=(i:Int) by omega]
   refine ⟨_,rfl,_,_,rfl,rfl,_,rfl,_,_,rfl,⟨by omega,by omega,by omega,by omega⟩,for_range (fun j σ H3=>∃ (k:Int) (x8:Option V) (ts:List (Nat×Nat)),σ = [some (.ref a),some (.int (n:Int)),some (.int sh),some (.int sr),some (.ref l),some (.int k),some (.int (i:Int)),x8]∧0≤k∧Same H H3∧JL H3 l ts∧Lks n ts∧(∀ t∈ts,t.1 < i∨(t.1=i∧t.2 < i+1+j))∧ts.length+(tri m+(m-j))≤tri n)
    ⟨k,_,ts,rfl,k0,s2,tl,rw',fun t ht=>.inl (low t ht),by omega⟩ ?_ ?_⟩
   ·rintro j σ H3 hj ⟨k,x8,ts,rfl,k0,s3,tl,rw',low,len⟩
    have hv:i+1+j < n:=by omega
    rw [show (i:Int)+1+(j:Int)=((i+1+j:Nat):Int) by omega]
    refine ⟨_,rfl,_,rfl,_,rfl,_,rfl,_,rfl,_,rfl,a,ns,k,rfl,s3.seq hS,k0,fun c=>?_⟩
    refine ⟨_,rfl,_,_,_,_,_,_,rfl,fun b=>⟨_,rfl,ite2 (fun _=>?_) (fun _=>?_)⟩⟩
    ·obtain ⟨rs,hrs,prs⟩:=id tl
     have lrs:=prs.len
     have t7:=tri40 n1
     refine ⟨_,rfl,.inl ⟨rfl,_,SqL.of hrs⟩,_,rfl,_,rfl,(by show 2≤sizeLine;decide),fun t ht=>?_⟩
     have s4:=same_new (o:=p2 (i,i+1+j)) ht
     have h4:upd H3 t (p2 (i,i+1+j)) t=some (p2 (i,i+1+j)):=upd_same
     refine ⟨l,_,_,rfl,rfl,s4 _ _ hrs,small5 (by rw [List.length_map];omega),?_⟩
     refine ⟨_,rfl,_,_,rfl,rfl,k+1,_,ts ++ [(i,i+1+j)],rfl,by omega,same_upd (s3.trans s4) hl,⟨rs ++ [t],by rw [upd_same,List.map_append];rfl,JLs.upd (s4 _ _ hrs) ((prs.same s4).app (.cons h4 .nil))⟩,⟨fun t ht=>?_,?_⟩,fun t ht=>?_,by rw [List.length_append,List.length_singleton];omega⟩
     ·rcases List.mem_append.mp ht with z | z
      ·exact rw'.1 t z
      ·cases List.mem_singleton.mp z
       exact ⟨by show i < i+1+j;omega,hv⟩
     ·rw [List.nodup_append]
      refine ⟨rw'.2,by simp,fun x hx y hy e=>?_⟩
      have hy':y=(i,i+1+j):=List.mem_singleton.mp hy
      rw [hy'] at e
      have e1:x.1=i:=congrArg Prod.fst e
      have e2:x.2=i+1+j:=congrArg Prod.snd e
      rcases low x hx with z | ⟨z,z'⟩ <;> omega
     ·rcases List.mem_append.mp ht with z | z
      ·rcases low t z with y | ⟨y,y'⟩
       ·exact .inl y
       ·exact .inr ⟨y,by omega⟩
      ·cases List.mem_singleton.mp z
       exact .inr ⟨rfl,by show i+1+j < i+1+(j+1);omega⟩
    ·refine ⟨_,rfl,_,_,rfl,rfl,k+1,_,ts,rfl,by omega,s3,tl,rw',fun t ht=>?_,by omega⟩
     rcases low t ht with y | ⟨y,y'⟩
     ·exact .inl y
     ·exact .inr ⟨y,by omega⟩
   ·rintro σ H3 ⟨k,x8,ts,rfl,k0,s3,tl,rw',low,len⟩
    refine ⟨k,_,_,ts,rfl,k0,s3,tl,rw',fun t ht=>?_,?_⟩
    ·rcases low t ht with y | ⟨y,y'⟩ <;> omega
    ·rw [show n-(i+1)=m by omega];omega
  rintro σ H2 ⟨k,x7,x8,ts,rfl,k0,s2,tl,rw',low,len⟩
  have len':ts.length≤780:=by have:=tri40 n1;omega
  clear len low
  obtain ⟨rs,hrs,prs⟩:=id tl
  dsimp only
  have fin:∀ (us:List (Nat×Nat)) (HX:Hp) (D:Ends),D.rt=Q→Same H HX→JL HX l us→Lks n us→us.length≤780→∀ b:Bool,True:=fun _ _ _ _ _ _ _ _ _=>trivial
  have rot:∀ (us:List (Nat×Nat)) (HX:Hp) (rx:List Addr),Same H HX→HX l=some (.lst (rx.map V.ref))→JLs HX rx us→Lks n us→us.length≤780→∀ (k1 k2 k3:Addr) (HY:Hp) (kk:Nat),H k3=none→Same HX HY→HY k3=some (.lst ((rx.map V.ref).drop kk++(rx.map V.ref).take kk))→Q (.ref k3) HY:=by
   intro us HX rx s3 hrx prx rr len2 k1 k2 k3 HY kk hk3 TT e3
   refine q k3 (us.drop kk++us.take kk) HY hk3 (s3.trans TT) ⟨rx.drop kk++rx.take kk,?_,(jl_cut prx kk).same TT⟩ (rr.perm ?_) ?_
   ·rw [e3,List.map_append,List.map_drop,List.map_take]
   ·exact List.perm_append_comm.trans (by rw [List.take_append_drop])
   ·rw [List.length_append,List.length_drop,List.length_take];omega
  refine any_ifS (fun Q q=>⟨_,rfl,_,_,rfl,rfl,(by show (0:Int) < 3;decide),rfl,_,rfl,q _⟩) ?_ ?_
  ·refine ⟨_,rfl,.inl ⟨rfl,_,SqL.of hrs⟩,l,_,rfl,rfl,hrs,?_⟩
   have s3:Same H (upd H2 l (.lst (rs.map V.ref).reverse)):=same_upd s2 hl
   have tl':JL (upd H2 l (.lst (rs.map V.ref).reverse)) l ts.reverse:=⟨rs.reverse,by rw [upd_same,List.map_reverse],JLs.upd hrs (pairedRev prs)⟩
   have rr:Lks n ts.reverse:=rw'.perm (List.reverse_perm _)
   have len2:ts.reverse.length≤780:=by rw [List.length_reverse];exact len'
   generalize ts.reverse=us at *
   generalize upd H2 l (.lst (rs.map V.ref).reverse)=HX at *
   obtain ⟨rx,hrx,prx⟩:=id tl'
   have lrx:=prx.len
   try dsimp only
   refine any_ifS (fun Q q=>⟨_,rfl,_,_,rfl,rfl,(by show (0:Int) < 3;decide),rfl,_,rfl,q _⟩) ?_ ?_
   ·have h0:0≤(((rx.map V.ref).length:Nat):Int) / 2:=by omega
    have h1:(((rx.map V.ref).length:Nat):Int) / 2≤(((rx.map V.ref).length:Nat):Int):=by omega
    have lm:(rx.map V.ref).length≤780:=by rw [List.length_map,lrx];exact len2
    refine ⟨_,rfl,_,rfl,l,_,rfl,.inl (SqL.of hrx),_,_,rfl,rfl,⟨by decide,by decide⟩,_,rfl,l,_,rfl,SqL.of hrx,fun k1 hk1=>?_⟩
    rw [cut_hi h0 h1]
    have t1:=same_new (o:=.lst ((rx.map V.ref).drop ((((rx.map V.ref).length:Nat):Int) / 2).toNat)) hk1
    refine ⟨_,rfl,_,rfl,l,_,rfl,.inl (SqL.of (t1 _ _ hrx)),_,_,rfl,rfl,⟨by decide,by decide⟩,_,rfl,l,_,rfl,SqL.of (t1 _ _ hrx),fun k2 hk2=>?_⟩
    rw [cut_lo h0 h1]
    have t2:=same_new (o:=.lst ((rx.map V.ref).take ((((rx.map V.ref).length:Nat):Int) / 2).toNat)) hk2
    refine ⟨k1,k2,_,_,rfl,rfl,t2 _ _ upd_same,upd_same,Nat.le_of_lt (small5 (by rw [List.length_drop,List.length_take];omega)),fun k3 hk3=>?_⟩
    have t3':=same_new (o:=.lst ((rx.map V.ref).drop ((((rx.map V.ref).length:Nat):Int) / 2).toNat++(rx.map V.ref).take ((((rx.map V.ref).length:Nat):Int) / 2).toNat)) hk3
    exact ⟨_,rfl,rot us HX rx s3 hrx prx rr len2 k1 k2 k3 _ _ (s3.free (t1.free (t2.free hk3))) ((t1.trans t2).trans t3') upd_same⟩
   ·exact ⟨_,rfl,q l us _ hl s3 tl' rr len2⟩
  ·try dsimp only
   have lrs:=prs.len
   refine any_ifS (fun Q q=>⟨_,rfl,_,_,rfl,rfl,(by show (0:Int) < 3;decide),rfl,_,rfl,q _⟩) ?_ ?_
   ·have h0:0≤(((rs.map V.ref).length:Nat):Int) / 2:=by omega
    have h1:(((rs.map V.ref).length:Nat):Int) / 2≤(((rs.map V.ref).length:Nat):Int):=by omega
    have lm:(rs.map V.ref).length≤780:=by rw [List.length_map,lrs];exact len'
    refine ⟨_,rfl,_,rfl,l,_,rfl,.inl (SqL.of hrs),_,_,rfl,rfl,⟨by decide,by decide⟩,_,rfl,l,_,rfl,SqL.of hrs,fun k1 hk1=>?_⟩
    rw [cut_hi h0 h1]
    have t1:=same_new (o:=.lst ((rs.map V.ref).drop ((((rs.map V.ref).length:Nat):Int) / 2).toNat)) hk1
    refine ⟨_,rfl,_,rfl,l,_,rfl,.inl (SqL.of (t1 _ _ hrs)),_,_,rfl,rfl,⟨by decide,by decide⟩,_,rfl,l,_,rfl,SqL.of (t1 _ _ hrs),fun k2 hk2=>?_⟩
    rw [cut_lo h0 h1]
    have t2:=same_new (o:=.lst ((rs.map V.ref).take ((((rs.map V.ref).length:Nat):Int) / 2).toNat)) hk2
    refine ⟨k1,k2,_,_,rfl,rfl,t2 _ _ upd_same,upd_same,Nat.le_of_lt (small5 (by rw [List.length_drop,List.length_take];omega)),fun k3 hk3=>?_⟩
    have t3':=same_new (o:=.lst ((rs.map V.ref).drop ((((rs.map V.ref).length:Nat):Int) / 2).toNat++(rs.map V.ref).take ((((rs.map V.ref).length:Nat):Int) / 2).toNat)) hk3
    exact ⟨_,rfl,rot ts H2 rs s2 hrs prs rw' len' k1 k2 k3 _ _ (s2.free (t1.free (t2.free hk3))) ((t1.trans t2).trans t3') upd_same⟩
   ·exact ⟨_,rfl,q l ts _ hl s2 tl rw' len'⟩
end
end Rk08_the_largest_pairing
namespace Rk08_the_largest_pairing
open PySem L2 PyProof.Rows R K3 BW
open M21 (oN lI lO lI_at lO_at lf_ix lI_set while_m putF_few)
open De (lf lf_len lf_get)
section
variable {P:Program}{w:World}{K:PySem.W.Frag}{mg:Str→Option Value}{base:Heap}
seal PA PE PS PSs PT PW
theorem flat_nV (l:List Nat):(nV l).all flatV=true:=by
 unfold nV
 rw [List.all_map]
 exact List.all_eq_true.mpr fun _ _=>rfl
def spOd:Sp:=fun vs H Q _=>∃ (n:Nat) (ll ol:Addr) (ls:List (Nat×Nat)) (out:List Nat),vs = [.int (n:Int),.ref ll,.ref ol]∧n≤40∧JL H ll ls∧H ol=some (.lst (nV out))∧(∀ y∈ls,y.1 < n∧y.2 < n) ∧
 ∀ (k:Nat) H',Same H H'→OdN n ls out k→Q (.int (k:Int)) H'
theorem scOd:FnScope ["_law_n","_law_links_here","_law_out","_law_part","_law_u","_law_v","_law_old","_law_sizes","_law_place"] ["_law_n","_law_links_here","_law_out"] (defScope sOd):=⟨rfl,rfl,rfl,by decide +kernel,rfl,by decide +kernel,by decide +kernel⟩
theorem okOd (d:Df K mg "_law_odd" sOd ["_law_n","_law_links_here","_law_out"]) (T:BiR mg):FnOk P w K mg base CX0 1 d.f d.fd ["_law_n","_law_links_here","_law_out"] spOd:=by
 refine d.F.ok scOd (fun vs H Q E h=>?_) (fun cdv A outer s H vs Q E hr h=>?_)
 ·obtain ⟨_,_,_,_,_,rfl,_⟩:=h
  rfl
 ·obtain ⟨n,ll,ol,ls,out,rfl,n40,⟨js,hll,pls⟩,hol,lt,q⟩:=h
  have hu:=hu_of hr
  have ljs:js.length=ls.length:=pls.len
  refine ⟨_,(pss_cons (ps_set (i:=3) scOd.nd rfl (by first | exact Or.inl rfl | exact Or.inr rfl) (pe_callTy (call_list_rng rfl) (by rfl) T.t_list boot_list (pa_cons (pe_range1 (by rfl) T.range (pa_cons (pv 0) pa_nil)) pa_nil)))
   (pss_cons (ps_for PassesOwn.never rfl (pi_list (pv 1)) (pg_tup rfl (pgs_cons (pg_name (i:=4) scOd.nd rfl (by first | exact Or.inl rfl | exact Or.inr rfl)) (pgs_cons (pg_name (i:=5) scOd.nd rfl (by first | exact Or.inl rfl | exact Or.inr rfl)) pgs_nil))) (pss_one (ps_if (PW.pt (pw_and (pt_cmpR op_notIn_seq (pv 4) (pv 2) (by rfl)) (pw_and (pt_cmpR op_notIn_seq (pv 5) (pv 2) (by rfl)) (pw_and1 (pt_cmpR op_ne (pe_ix ix_list (pv 3) (pv 4) (fun _ _=>rfl)) (pe_ix ix_list (pv 3) (pv 5) (fun _ _=>rfl)) (nomark _)))))) (pss_cons (ps_set (i:=6) scOd.nd rfl (by first | exact Or.inl rfl | exact Or.inr rfl) (pe_ix ix_list (pv 3) (pv 5) (fun _ _=>rfl)))
   (pss_one (ps_set (i:=3) scOd.nd rfl (by first | exact Or.inl rfl | exact Or.inr rfl) (pe_comp (compOk (fr:=[("_law_old",6),("_law_part",3),("_law_u",4)])) rfl (pi_list (pv 3)) (fun _ _ _=>pts_nil) (fun _ _ _=>(pe_ifExp (pt_cmpR op_eq (pv 0) (pv 1) (nomark _)) (pe_ix (ix_listK (K:=K)) (pv 2) (pv 3) (fun _ _=>rfl)) (pv 0))))))) pss_nil)))
   (pss_cons (ps_set (i:=7) scOd.nd rfl (by first | exact Or.inl rfl | exact Or.inr rfl) pe_dnewK)
   (pss_cons (ps_for PassesOwn.never rfl (pi_range1 (by rfl) T.range (pa_cons (pv 0) pa_nil)) (pg_name (i:=8) scOd.nd rfl (by first | exact Or.inl rfl | exact Or.inr rfl)) (pss_one (ps_if (pt_cmpR op_notIn_seq (pv 8) (pv 2) (by rfl)) (pss_one (ps_dput hu (pv 7) (pe_ix ix_list (pv 3) (pv 8) (fun _ _=>rfl)) (pe_op op_add (pe_dget2 hu (pv 7) (pe_ix ix_list (pv 3) (pv 8) (fun _ _=>rfl)) pe_int ⟨rfl,rfl,rfl,rfl⟩) pe_int) rfl)) pss_nil)))
   (pss_one (ps_ret (pe_callB call_len_seq (by rfl) T.len PySem.boot_len (pa_cons (pe_comp (compOk (fr:=[])) rfl (pi_dvals (pv 7)) (fun _ _ _=>pts_one (pt_cmpR op_eq (pe_op op_mod (pv 0) pe_int) pe_int (nomark _))) (fun _ _ _=>(pv 0))) pa_nil)))))))),?_⟩
  refine ⟨_,rfl,(n:Int),rfl,fun r hr=>⟨r,(n:Int),rfl,upd_same,by omega,by omega,fun pl hpl=>?_⟩⟩
  have s1:=(same_new (o:=.rng 0 (n:Int)) hr).trans (same_new (o:=.lst (rngV (n:Int).toNat fun p=>p)) hpl)
  have e1:upd (upd H r (.rng 0 (n:Int))) pl (.lst (rngV (n:Int).toNat fun p=>p)) pl=some (.lst (lI n (fun p=>(p:Int)))):=by rw [upd_same];rfl
  have npl:H pl=none:=(same_new (o:=.rng 0 (n:Int)) hr).free hpl
  generalize upd (upd H r (.rng 0 (n:Int))) pl (.lst (rngV (n:Int).toNat fun p=>p))=H1 at *
  refine ⟨_,rfl,ll,rfl,⟨_,SqL.of (s1 _ _ hll)⟩,for_list (xs:=js.map V.ref) (fun i σ H2=>∃ (x4 x5 x6:Option V) (pa:Addr) (pt:Nat→Nat),σ = [some (.int (n:Int)),some (.ref ll),some (.ref ol),some (.ref pa),x4,x5,x6,none,none]∧Same H H2∧H2 pa=some (.lst (lI n fun p=>(pt p:Int)))∧Lb n (ls.take i) out pt) ⟨_,_,_,pl,_,rfl,s1,e1,.nil⟩ ?_ ?_ ?_⟩
  ·rintro i σ H2 hi ⟨_,_,_,_,_,rfl,s2,_⟩
   exact SqL.of (s2 _ _ hll)
  ·rintro i x σ H2 hx ⟨x4,x5,x6,pa,pt,rfl,s2,hpa,L⟩
   rw [List.getElem?_map] at hx
   obtain ⟨t,ht,rfl⟩:=Option.map_eq_some_iff.mp hx
   obtain ⟨y,hy,hty⟩:=pls.get ht
   obtain ⟨y1,y2⟩:=lt y (List.mem_of_getElem? hy)
   have hty2:=s2 _ _ hty
   have hol2:=s2 _ _ hol
   have tk:ls.take (i+1)=ls.take i ++ [y]:=by rw [List.take_add_one,hy];rfl
   refine ⟨t,_,rfl,SqT.of hty2,rfl,_,_,rfl,_,_,rfl,rfl,?_⟩
   refine ⟨_,rfl,_,rfl,ol,_,rfl,.inl (SqL.of hol2),rfl,flat_nV out,_,rfl,?_⟩
   rw [show (if true=true then !inV (.int (y.1:Int)) (nV out) else inV (.int (y.1:Int)) (nV out)) = !decide (y.1∈out) by rw [if_pos rfl,inV_nV]]
   by_cases o1:y.1∈out
   ·rw [decide_eq_true o1]
    refine iteF (iteF ⟨_,_,_,pa,pt,rfl,s2,hpa,?_⟩)
    rw [tk];exact L.skip fun z=>absurd o1 z
   rw [decide_eq_false o1]
   refine iteT ⟨_,rfl,_,rfl,ol,_,rfl,.inl (SqL.of hol2),rfl,flat_nV out,_,rfl,?_⟩
   rw [show (if true=true then !inV (.int (y.2:Int)) (nV out) else inV (.int (y.2:Int)) (nV out)) = !decide (y.2∈out) by rw [if_pos rfl,inV_nV]]
   by_cases o2:y.2∈out
   ·rw [decide_eq_true o2]
    refine iteF (iteF ⟨_,_,_,pa,pt,rfl,s2,hpa,?_⟩)
    rw [tk];exact L.skip fun _ z=>absurd o2 z
   rw [decide_eq_false o2]
   refine iteT ⟨_,rfl,_,rfl,pa,_,_,_,rfl,rfl,SqL.of hpa,lI_at y1,_,rfl,_,rfl,pa,_,_,_,rfl,rfl,SqL.of hpa,lI_at y2,?_⟩
   refine ⟨rfl,_,rfl,?_⟩
   rw [int_dec]
   by_cases oe:pt y.1=pt y.2
   ·rw [decide_eq_true (show (pt y.1:Int)=(pt y.2:Int) by omega)]
    refine iteF ⟨_,_,_,pa,pt,rfl,s2,hpa,?_⟩
    rw [tk];exact L.skip fun _ _=>oe
   rw [decide_eq_false (show ¬ (pt y.1:Int)=(pt y.2:Int) by omega)]
   refine iteT ⟨_,rfl,_,rfl,pa,_,_,_,rfl,rfl,SqL.of hpa,lI_at y2,?_⟩
   refine ⟨_,rfl,pa,rfl,⟨_,SqL.of hpa⟩,fun D hD=>comp_list (xs:=lI n fun p=>(pt p:Int)) (fun i ac H3=>H3 D=some (.lst ac)∧Same H2 H3∧ac=lI i fun p=>((if pt p=pt y.2 then pt y.1 else pt p:Nat):Int)) ⟨upd_same,same_new hD,rfl⟩ ?_ ?_ ?_⟩
   ·rintro i ac H3 hi ⟨h3,s3,rfl⟩
    have hi:i≤n:=by unfold lI at hi;rwa [lf_len] at hi
    exact ⟨h3,small5 (by unfold lI;rw [lf_len];omega),SqL.of (s3 _ _ hpa)⟩
   ·rintro i z ac H3 N hz hN ⟨h3,s3,rfl⟩
    have hi:i < n:=by
     have:=(List.getElem?_eq_some_iff.mp hz).1
     unfold lI at this
     rwa [lf_len] at this
    rw [show (lI n fun p=>(pt p:Int))[i]? = some (.int (pt i:Int)) from lf_get hi] at hz
    cases hz
    have er:(lI (i+1) fun p=>((if pt p=pt y.2 then pt y.1 else pt p:Nat):Int))=(lI i fun p=>((if pt p=pt y.2 then pt y.1 else pt p:Nat):Int)) ++ [.int ((if pt i=pt y.2 then pt y.1 else pt i:Nat):Int)]:=by
     unfold lI lf
     rw [List.range_succ,List.map_append];rfl
    rw [er] at hN
    refine ⟨_,rfl,_,rfl,rfl,_,rfl,?_⟩
    rw [int_dec]
    by_cases e:pt i=pt y.2
    ·rw [decide_eq_true (show (pt i:Int)=(pt y.2:Int) by omega)]
     rw [if_pos e] at hN
     exact iteT ⟨_,rfl,_,rfl,pa,_,_,_,rfl,rfl,SqL.of (s3 _ _ hpa),lI_at y1,h3,hN _ _ ⟨upd_same,same_upd s3 hD,rfl⟩⟩
    ·rw [decide_eq_false (show ¬ (pt i:Int)=(pt y.2:Int) by omega)]
     rw [if_neg e] at hN
     exact iteF ⟨_,rfl,h3,hN _ _ ⟨upd_same,same_upd s3 hD,rfl⟩⟩
   ·rintro ac H3 ⟨h3,s3,rfl⟩
    refine ⟨_,_,_,D,fun p=>if pt p=pt y.2 then pt y.1 else pt p,rfl,s2.trans s3,?_,by rw [tk];exact L.join y1 y2 o1 o2⟩
    unfold lI at h3 ⊢
    rw [lf_len] at h3
    exact h3
  ·rintro σ H2 ⟨x4,x5,x6,pa,pt,rfl,s2,hpa,L⟩
   rw [List.length_map,ljs,List.take_length] at L
   intro dk hdk
   have s3:=s2.trans (same_new (o:=.dK []) hdk)
   have hpa3:=same_new (o:=.dK []) hdk _ _ hpa
   have ndk:H dk=none:=s2.free hdk
   refine ⟨_,rfl,_,rfl,by omega,by omega,for_range (fun i σ H4=>∃ (x8:Option V) (ks:List Nat),σ = [some (.int (n:Int)),some (.ref ll),some (.ref ol),some (.ref pa),x4,x5,x6,some (.ref dk),x8]∧Same H H4∧H4 pa=some (.lst (lI n fun p=>(pt p:Int)))∧H4 dk=some (.dK (cK (cnt out pt i) ks))∧Ks out pt i ks) ⟨_,[],rfl,s3,hpa3,upd_same,.nil⟩ ?_ ?_⟩
   ·rintro i σ H4 hi ⟨x8,ks,rfl,s4,hpa4,hd4,kk⟩
    have hi:i < n:=by omega
    have hol4:=s4 _ _ hol
    rw [show (0:Int)+(i:Int)=(i:Int) by omega]
    refine ⟨_,rfl,_,rfl,ol,_,rfl,.inl (SqL.of hol4),rfl,flat_nV out,_,rfl,?_⟩
    rw [show (if true=true then !inV (.int (i:Int)) (nV out) else inV (.int (i:Int)) (nV out)) = !decide (i∈out) by rw [if_pos rfl,inV_nV]]
    by_cases o1:i∈out
    ·rw [decide_eq_true o1]
     refine iteF ⟨_,ks,rfl,s4,hpa4,?_,kk.out o1⟩
     rw [cK_cong (g:=cnt out pt i) fun x _=>cnt_out o1 x];exact hd4
    rw [decide_eq_false o1]
    have lk:=kk.2.2
    have ndp:pa≠dk:=fun e=>by rw [e,hd4] at hpa4;cases hpa4
    have hz:¬ pt i∈ks→cnt out pt i (pt i)=0:=fun z=>by
     rcases Nat.eq_zero_or_pos (cnt out pt i (pt i)) with k | k
     ·exact k
     ·exact absurd ((kk.2.1 (pt i)).mpr k) z
    refine iteT ⟨_,rfl,dk,rfl,.inl ⟨_,.inl hd4⟩,_,rfl,_,rfl,pa,_,_,_,rfl,rfl,SqL.of hpa4,lI_at hi,_,DGet.k (k:=Sum.inl (pt i:Int)) hd4,?_⟩
    rw [cK_get hz]
    refine ⟨_,_,rfl,rfl,_,rfl,_,rfl,_,rfl,pa,_,_,_,rfl,rfl,SqL.of hpa4,lI_at hi,dk,_,rfl,DPut.k (k:=Sum.inl (pt i:Int)) hd4 (small1000 (by rw [cK_len];omega)),?_⟩
    refine ⟨_,_,rfl,same_upd s4 ndk,by rw [upd_ne ndp];exact hpa4,?_,kk.put o1⟩
    rw [upd_same]
    show some (HO.dK (putK (cK (cnt out pt i) ks) (Sum.inl (pt i:Int):Key) (.int ((cnt out pt i (pt i):Int)+1))))=_
    rw [cK_put (f:=cnt out pt i) (g:=cnt out pt (i+1)) (x:=pt i) kk.1 fun y=>cnt_in o1 y]
   ·rintro σ H4 ⟨x8,ks,rfl,s4,hpa4,hd4,kk⟩
    rw [show ((n:Int).toNat)=n from rfl] at hd4 kk
    refine ⟨_,rfl,dk,_,rfl,hd4,fun ob=>fun D hD=>?_⟩
    have s5:Same H (upd H4 dk (.frz ob (.dK (cK (cnt out pt n) ks)))):=same_upd s4 ndk
    have h5:upd H4 dk (.frz ob (.dK (cK (cnt out pt n) ks))) dk=some (.frz ob (.dK (cK (cnt out pt n) ks))):=upd_same
    generalize upd H4 dk (.frz ob (.dK (cK (cnt out pt n) ks)))=H5 at *
    have lk:=kk.2.2
    refine comp_dvals (fun i ac H6=>H6 D=some (.lst ac)∧Same H5 H6∧ac.length=((ks.take i).filter fun x=>decide (cnt out pt n x % 2=1)).length) ⟨upd_same,same_new hD,rfl⟩ ?_ ?_ ?_
    ·rintro i ac H6 hi ⟨h6,s6,e6⟩
     have l2:=List.length_filter_le (fun x=>decide (cnt out pt n x % 2=1)) (ks.take i)
     rw [List.length_take] at l2
     exact ⟨h6,small5 (by omega),s6 _ _ h5⟩
    ·rintro i p ac H6 N hp hN ⟨h6,s6,e6⟩
     unfold cK at hp
     rw [List.getElem?_map] at hp
     obtain ⟨x,hx,rfl⟩:=Option.map_eq_some_iff.mp hp
     have et:(ks.take (i+1)).filter (fun x=>decide (cnt out pt n x % 2=1))=(ks.take i).filter (fun x=>decide (cnt out pt n x % 2=1))++if cnt out pt n x % 2=1 then [x] else []:=by
      rw [List.take_add_one,hx,List.filter_append]
      congr 1
      show List.filter _ [x] = _
      by_cases m:cnt out pt n x % 2=1
      ·rw [if_pos m,List.filter_cons_of_pos (by simpa using m)];rfl
      ·rw [if_neg m,List.filter_cons_of_neg (by simpa using m)];rfl
     rw [et] at hN
     refine ⟨_,rfl,_,_,rfl,rfl,(by show (0:Int) < 2;decide),rfl,_,rfl,?_⟩
     rw [int_dec]
     by_cases m:cnt out pt n x % 2=1
     ·rw [decide_eq_true (show (cnt out pt n x:Int) % 2=1 by omega)]
      rw [if_pos m] at hN
      exact iteT ⟨_,rfl,h6,hN _ _ ⟨upd_same,same_upd s6 hD,by rw [List.length_append,List.length_append,e6];rfl⟩⟩
     ·rw [decide_eq_false (show ¬ (cnt out pt n x:Int) % 2=1 by omega)]
      rw [if_neg m,List.append_nil] at hN
      exact iteF (hN _ _ ⟨h6,s6,e6⟩)
    ·rintro ac H6 ⟨h6,s6,e6⟩
     rw [cK_len,List.take_length] at e6
     refine ⟨D,_,rfl,.inl (SqL.of h6),?_⟩
     rw [e6]
     exact q _ _ (s5.trans s6) (kk.odn L)
end
end Rk08_the_largest_pairing
namespace Rk08_the_largest_pairing
open PySem L2 PyProof.Rows R K3 BW
open M21 (oN lI lO lI_at lO_at lf_ix lI_set while_m putF_few)
open De (lf lf_len lf_get)
section
def endN (ps:List (Nat×Nat)):List Nat:=ps.flatMap fun p=>[p.1,p.2]
structure PgOk (ls ps:List (Nat×Nat)):Prop where
 inl:∀ p∈ps,p∈ls
 nd:(endN ps).Nodup
 asc:ps.Pairwise fun a b=>a.1≤b.1
theorem endN_app (a b:List (Nat×Nat)):endN (a++b)=endN a++endN b:=List.flatMap_append
theorem endN_nd:∀ {ps:List (Nat×Nat)},(∀ p∈ps,p.1≠p.2)→ps.Pairwise (fun a b=>a.1≠b.1∧a.1≠b.2∧a.2≠b.1∧a.2≠b.2)→(endN ps).Nodup
 | [],_,_=>List.nodup_nil
 | p::ps,h,g=>by
  obtain ⟨g1,g2⟩:=List.pairwise_cons.mp g
  have ih:=endN_nd (fun q hq=>h q (List.mem_cons_of_mem _ hq)) g2
  have nin:∀ z,z∈endN ps→z≠p.1∧z≠p.2:=fun z hz=>by
   obtain ⟨q,hq,hz⟩:=List.mem_flatMap.mp hz
   obtain ⟨a,b,c,d⟩:=g1 q hq
   rcases List.mem_cons.mp hz with e | hz
   ·rw [e];exact ⟨Ne.symm a,Ne.symm c⟩
   ·rw [List.mem_singleton.mp hz];exact ⟨Ne.symm b,Ne.symm d⟩
  show (p.1::p.2::endN ps).Nodup
  refine List.nodup_cons.mpr ⟨fun z=>?_,List.nodup_cons.mpr ⟨fun z=>(nin _ z).2 rfl,ih⟩⟩
  rcases List.mem_cons.mp z with e | z
  ·exact h p (List.mem_cons_self ..) e
  ·exact (nin _ z).1 rfl
theorem pairs_mt {S:Bl.St}{rk:Nat→Nat} (O:Bl.Ok S rk) {x:Nat×Nat} (h:x∈Bl.pairs S):x.1 < S.n∧x.2 < S.n∧x.1 < x.2∧S.mt x.1=some x.2∧S.mt x.2=some x.1:=by
 obtain ⟨x1,x2,x3⟩:=Bl.pairs_iff.mp h
 have m:=Bl.mate_ok O.fo O.du O.ma x1 x2
 exact ⟨x1,m.1,x3,x2,m.2.2.1⟩
theorem fm_asc {S:Bl.St}:∀ {l:List Nat},l.Pairwise (· < ·)→(l.filterMap (Bl.prOf S)).Pairwise fun a b=>a.1≤b.1
 | [],_=>.nil
 | u::l,h=>by
  obtain ⟨h1,h2⟩:=List.pairwise_cons.mp h
  have ih:=fm_asc (S:=S) h2
  rw [List.filterMap_cons]
  cases e:Bl.prOf S u with
  | none=>exact ih
  | some x =>
   refine List.pairwise_cons.mpr ⟨fun y hy=>?_,ih⟩
   obtain ⟨v,hv,ey⟩:=List.mem_filterMap.mp hy
   rw [(Bl.prOf_iff.mp e).1,(Bl.prOf_iff.mp ey).1]
   exact Nat.le_of_lt (h1 v hv)
theorem pairs_ok {S:Bl.St}{rk:Nat→Nat}{ls:List (Nat×Nat)} (O:Bl.Ok S rk) (hl:∀ u v t,(u,v,t)∈S.lk→(u,v)∈ls):PgOk ls (Bl.pairs S):=by
 refine ⟨fun p hp=>?_,endN_nd (fun p hp=>Nat.ne_of_lt (pairs_mt O hp).2.2.1) (List.Pairwise.imp_of_mem (fun {a b} ha hb ne=>?_) (Bl.pairs_nodup (S:=S))),fm_asc List.pairwise_lt_range⟩
 ·obtain ⟨t,ht,_⟩:=Bl.pair_link O.pre hp
  exact hl _ _ _ ht
 ·obtain ⟨a1,a2,a3,a4,a5⟩:=pairs_mt O ha
  obtain ⟨b1,b2,b3,b4,b5⟩:=pairs_mt O hb
  have e1:a.1≠b.1:=fun e=>ne (Prod.ext e (Option.some.inj (a4.symm.trans ((congrArg S.mt e).trans b4))))
  refine ⟨e1,fun e=>?_,fun e=>?_,fun e=>?_⟩
  ·have:=Option.some.inj (a4.symm.trans ((congrArg S.mt e).trans b5));omega
  ·have:=Option.some.inj (a5.symm.trans ((congrArg S.mt e).trans b4));omega
  ·exact e1 (Option.some.inj (a5.symm.trans ((congrArg S.mt e).trans b5)))
theorem dbl_w0 {ls:List (Nat×Nat)}{u v:Nat}{t:Int} (h:(u,v,t)∈dbl (w0 ls)):(u,v)∈ls:=by
 unfold dbl w0 at h
 obtain ⟨y,hy,e⟩:=List.mem_map.mp h
 obtain ⟨z,hz,e2⟩:=List.mem_map.mp hy
 have e1:y.1=u:=congrArg Prod.fst e
 have e3:y.2.1=v:=congrArg (fun z=>z.2.1) e
 rw [←e1,←e3,←e2];exact hz
theorem w0_dbl {ls:List (Nat×Nat)}{y:Nat×Nat} (h:y∈ls):(y.1,y.2,(0:Int))∈dbl (w0 ls):=by
 unfold dbl w0
 exact List.mem_map.mpr ⟨(y.1,y.2,0),List.mem_map.mpr ⟨y,h,rfl⟩,rfl⟩
theorem sel_lt (S:Bl.St) (z:Int) (n:Nat):(selM S z n).Pairwise (· < ·)∧∀ p∈selM S z n,p < n:=⟨List.Pairwise.filter _ List.pairwise_lt_range,fun p hp=>List.mem_range.mp (List.mem_filter.mp hp).1⟩
theorem sel_iff {S:Bl.St}{z:Int}{n p:Nat}:p∈selM S z n↔p < n∧(S.bd (S.out p)).mark=z:=by
 unfold selM
 rw [List.mem_filter,List.mem_range]
 exact ⟨fun h=>⟨h.1,of_decide_eq_true h.2⟩,fun h=>⟨h.1,decide_eq_true h.2⟩⟩
theorem odd_eq {S:Bl.St}{rk:Nat→Nat}{ls:List (Nat×Nat)}{k:Nat} (O:Bl.Ok S rk) (E:Bl.En S) (h1:∀ u v t,(u,v,t)∈S.lk→(u,v)∈ls) (h2:∀ y∈ls,∃ t,(y.1,y.2,t)∈S.lk) (lt:∀ y∈ls,y.1 < S.n∧y.2 < S.n) (h:OdN S.n ls (selM S (-1) S.n) k) :
  k+2*(Bl.pairs S).length=(selM S (-1) S.n).length+S.n:=by
 obtain ⟨pt,X,L,nd,hX,rfl⟩:=h
 have o:∀ p,p < S.n→(¬ p∈selM S (-1) S.n↔(S.bd (S.out p)).mark ≠ -1):=fun p hp=>by
  rw [sel_iff]
  exact ⟨fun z e=>z ⟨hp,e⟩,fun z e=>z e.2⟩
 have q:=Bl.odd_parts O E (pt:=pt) (fun u v t hl a b=>by
  have m:=h1 u v t hl
  exact L.h1 (u,v) m ((o u (lt _ m).1).mpr a) ((o v (lt _ m).2).mpr b)) (fun f hf u v hu hv _ _ e=>L.h2 f (fun y hy a b=>by
   obtain ⟨t,ht⟩:=h2 y hy
   exact hf _ _ t ht ((o _ (lt y hy).1).mp a) ((o _ (lt y hy).2).mp b)) u v hu hv e) nd (fun x=>by
  rw [hX x]
  have:BW.cnt (selM S (-1) S.n) pt S.n x=Bl.num S.n (fun p=>decide ((S.bd (S.out p)).mark ≠ -1∧pt p=x)):=by
   unfold BW.cnt Bl.num
   congr 1
   refine List.filter_congr fun p hp=>?_
   rw [decide_eq_decide,o p (List.mem_range.mp hp)]
  rw [this])
 have pn:=Bl.pairs_num O.pre
 have:(selM S (-1) S.n).length=Bl.num S.n (fun p=>decide ((S.bd (S.out p)).mark = -1)):=rfl
 omega
end
end Rk08_the_largest_pairing
namespace Rk08_the_largest_pairing
open PySem L2 PyProof.Rows R K3 BW
open M21 (oN lI lO lI_at lO_at lf_ix lI_set while_m putF_few)
open De (lf lf_len lf_get)
section
variable {P:Program}{w:World}{K:PySem.W.Frag}{mg:Str→Option Value}{base:Heap}
seal PA PE PS PSs PT PW
def z2 (x:Nat×Nat):Int×Int:=((x.1:Int),(x.2:Int))
theorem z2_inj {x y:Nat×Nat} (h:z2 x=z2 y):x=y:=by
 have h1:(x.1:Int)=(y.1:Int):=congrArg Prod.fst h
 have h2:(x.2:Int)=(y.2:Int):=congrArg Prod.snd h
 exact Prod.ext (by omega) (by omega)
theorem JLs.prs {H:Hp}:∀ {js:List Addr}{l:List (Nat×Nat)},JLs H js l→Prs H js (l.map z2)
 | _,_,.nil=>.nil
 | _,_,.cons h t=>.cons h (JLs.prs t)
theorem JL.pl {H:Hp}{a:Addr}{l:List (Nat×Nat)} (h:JL H a l):PL H a (l.map z2):=let ⟨js,x,y⟩:=h;⟨js,x,JLs.prs y⟩
theorem z2_mem {x:Nat×Nat}{l:List (Nat×Nat)}:z2 x∈l.map z2↔x∈l:=⟨fun h=>by
 obtain ⟨y,hy,e⟩:=List.mem_map.mp h
 rw [←z2_inj e];exact hy,fun h=>List.mem_map_of_mem h⟩
def spRi:Sp:=fun vs H Q _=>∃ (ol:Addr) (n:Nat) (os:List Nat),vs = [.ref ol,.int (n:Int)]∧H ol=some (.lst (nV os))∧os.Pairwise (· < ·)∧(∀ p∈os,p < n)∧Q (.bl true) H
theorem scRi:FnScope ["_law_found","_law_n","_law_last","_law_place"] ["_law_found","_law_n"] (defScope sRi):=⟨rfl,rfl,rfl,by decide +kernel,rfl,by decide +kernel,by decide +kernel⟩
theorem okRi (d:Df K mg "_law_rising" sRi ["_law_found","_law_n"]) (dH:Df K mg "_law_whole" sWh ["_law_found"]) (T:BiR mg):FnOk P w K mg base CX0 2 d.f d.fd ["_law_found","_law_n"] spRi:=by
 have GH:FnOk P w K mg base CX0 1 dH.f dH.fd ["_law_found"] spWh:=okWh dH T
 refine d.F.ok scRi (fun vs H Q E h=>?_) (fun cdv A outer s H vs Q E hr h=>?_)
 ·obtain ⟨_,_,_,rfl,_⟩:=h
  rfl
 ·obtain ⟨ol,n,os,rfl,hol,asc,lt,q⟩:=h
  refine ⟨_,(pss_cons (ps_set (i:=2) scRi.nd rfl (by first | exact Or.inl rfl | exact Or.inr rfl) (pe_un un_neg pe_int))
   (pss_cons (ps_for PassesOwn.never rfl (pi_list (pv 0)) (pg_name (i:=3) scRi.nd rfl (by first | exact Or.inl rfl | exact Or.inr rfl)) (pss_cons (ps_if (PW.pt (pw_or (pt_not (pt_val (pe_call GH (hr.mono (by omega)) (by rfl) dH.m dH.F.kp dH.b .nil pass0 (pa_cons (pv 3) pa_nil)))) (pw_or (pt_cmpR op_le (pv 3) (pv 2) (nomark _)) (pw_or1 (pt_cmpR op_ge (pv 3) (pv 1) (nomark _)))))) (pss_one (ps_ret pe_bl)) pss_nil)
   (pss_one (ps_set (i:=2) scRi.nd rfl (by first | exact Or.inl rfl | exact Or.inr rfl) (pv 3)))))
   (pss_one (ps_ret pe_bl)))),?_⟩
  refine ⟨_,rfl,_,rfl,ol,rfl,⟨_,SqL.of hol⟩,for_list (xs:=nV os) (fun i σ H2=>∃ (last:Int) (x3:Option V),σ = [some (.ref ol),some (.int (n:Int)),some (.int last),x3]∧H2=H∧∀ p∈os.drop i,last < (p:Int)) ⟨_,_,rfl,rfl,fun p _=>by show (-1:Int) < _;omega⟩ ?_ ?_ ?_⟩
  ·rintro i σ H2 hi ⟨_,_,rfl,rfl,_⟩
   exact SqL.of hol
  ·rintro i x σ H2 hx ⟨last,x3,rfl,rfl,low⟩
   unfold nV at hx
   rw [List.getElem?_map] at hx
   obtain ⟨p,hp,rfl⟩:=Option.map_eq_some_iff.mp hx
   have hd:os.drop i=p::os.drop (i+1):=by
    obtain ⟨h1,h2⟩:=List.getElem?_eq_some_iff.mp hp
    rw [List.drop_eq_getElem_cons h1,h2]
   have l1:=low p (by rw [hd];exact List.mem_cons_self ..)
   have l2:=lt p (List.mem_of_getElem? hp)
   refine ⟨_,rfl,_,rfl,_,rfl,iteF ⟨_,rfl,_,rfl,_,_,rfl,rfl,_,rfl,?_⟩⟩
   rw [decide_eq_false (show ¬ (p:Int)≤last by omega)]
   refine iteF ⟨_,rfl,_,rfl,_,_,rfl,rfl,_,rfl,?_⟩
   rw [decide_eq_false (show ¬ (p:Int) ≥ (n:Int) by omega)]
   refine iteF ⟨_,rfl,_,_,rfl,rfl,fun z hz=>?_⟩
   have a2:=List.Pairwise.sublist (List.drop_sublist i os) asc
   rw [hd] at a2
   have:=(List.pairwise_cons.mp a2).1 z hz
   omega
  ·rintro σ H2 ⟨_,_,rfl,rfl,_⟩
   exact q
def spPg:Sp:=fun vs H Q _=>∃ (pl ll:Addr) (ls ps:List (Nat×Nat)),vs = [.ref pl,.ref ll]∧JL H pl ps∧JL H ll ls∧ps.length≤40∧PgOk ls ps∧∀ H',Same H H'→Q (.bl true) H'
theorem scPg:FnScope ["_law_found","_law_links_here","_law_taken","_law_last","_law_link"] ["_law_found","_law_links_here"] (defScope sPg):=⟨rfl,rfl,rfl,by decide +kernel,rfl,by decide +kernel,by decide +kernel⟩
theorem okPg (d:Df K mg "_law_pairing" sPg ["_law_found","_law_links_here"]) (dH:Df K mg "_law_whole" sWh ["_law_found"]) (T:BiR mg):FnOk P w K mg base CX0 2 d.f d.fd ["_law_found","_law_links_here"] spPg:=by
 have GH:FnOk P w K mg base CX0 1 dH.f dH.fd ["_law_found"] spWh:=okWh dH T
 refine d.F.ok scPg (fun vs H Q E h=>?_) (fun cdv A outer s H vs Q E hr h=>?_)
 ·obtain ⟨_,_,_,_,rfl,_⟩:=h
  rfl
 ·obtain ⟨pl,ll,ls,ps,rfl,⟨js,hpl,pj⟩,jll,few,ok,q⟩:=h
  have hu64:=hr.units
  have hu:=hu_of hr
  have ljs:=pj.len
  refine ⟨_,(pss_cons (ps_if (pt_not (pt_val (pe_callB call_isT (by rfl) T.isin boot_isinstance (pa_cons (pv 0) (pa_cons (pe_bltn (v:=.ty "list") (by rfl) T.t_list boot_list rfl) pa_nil))))) (pss_one (ps_ret pe_bl)) pss_nil)
   (pss_cons (ps_set (i:=2) scPg.nd rfl (by first | exact Or.inl rfl | exact Or.inr rfl) pe_dnewK)
   (pss_cons (ps_set (i:=3) scPg.nd rfl (by first | exact Or.inl rfl | exact Or.inr rfl) (pe_un un_neg pe_int))
   (pss_cons (ps_for PassesOwn.never rfl (pi_list (pv 0)) (pg_name (i:=4) scPg.nd rfl (by first | exact Or.inl rfl | exact Or.inr rfl)) (pss_cons (ps_if (PW.pt (pw_or (pt_not (pt_val (pe_callB call_isT (by rfl) T.isin boot_isinstance (pa_cons (pv 4) (pa_cons (pe_bltn (v:=.ty "tuple") (by rfl) T.t_tuple boot_tuple rfl) pa_nil))))) (pw_or (pt_cmpR op_ne (pe_callB call_len_seq (by rfl) T.len PySem.boot_len (pa_cons (pv 4) pa_nil)) pe_int (nomark _)) (pw_or (pt_not (pt_val (pe_call GH (hr.mono (by omega)) (by rfl) dH.m dH.F.kp dH.b .nil pass0 (pa_cons (pe_ix ix_tup (pv 4) pe_int (fun _ _=>rfl)) pa_nil)))) (pw_or1 (pt_not (pt_val (pe_call GH (hr.mono (by omega)) (by rfl) dH.m dH.F.kp dH.b .nil pass0 (pa_cons (pe_ix ix_tup (pv 4) pe_int (fun _ _=>rfl)) pa_nil))))))))) (pss_one (ps_ret pe_bl)) pss_nil)
   (pss_cons (ps_if (PW.pt (pw_or (pt_cmpR (op_notInD hu64) (pv 4) (pv 1) (by rfl)) (pw_or (pt_cmp (pc_din hu (pe_ix ix_tup (pv 4) pe_int (fun _ _=>rfl)) (pv 2))) (pw_or (pt_cmp (pc_din hu (pe_ix ix_tup (pv 4) pe_int (fun _ _=>rfl)) (pv 2))) (pw_or1 (pt_cmpR op_lt (pe_ix ix_tup (pv 4) pe_int (fun _ _=>rfl)) (pv 3) (nomark _))))))) (pss_one (ps_ret pe_bl)) pss_nil)
   (pss_cons (ps_dput hu (pv 2) (pe_ix ix_tup (pv 4) pe_int (fun _ _=>rfl)) pe_bl rfl)
   (pss_cons (ps_dput hu (pv 2) (pe_ix ix_tup (pv 4) pe_int (fun _ _=>rfl)) pe_bl rfl)
   (pss_one (ps_set (i:=3) scPg.nd rfl (by first | exact Or.inl rfl | exact Or.inr rfl) (pe_ix ix_tup (pv 4) pe_int (fun _ _=>rfl)))))))))
   (pss_one (ps_ret pe_bl)))))),?_⟩
  refine ⟨_,rfl,_,_,_,_,rfl,.lst hpl,kitLL K,_,rfl,iteF fun dk hdk=>?_⟩
  have s1:=same_new (o:=.dK []) hdk
  refine ⟨_,rfl,_,rfl,pl,rfl,⟨_,SqL.of (s1 _ _ hpl)⟩,for_list (xs:=js.map V.ref) (fun i σ H2=>∃ (last:Int) (x4:Option V) (kvs:List (Key×V)),σ = [some (.ref pl),some (.ref ll),some (.ref dk),some (.int last),x4]∧Same H H2∧H2 dk=some (.dK kvs)∧kvs.map (·.1)=((endN (ps.take i)).map fun p:Nat=>(p:Int)).map (fun x=>(Sum.inl x:Key))∧∀ p∈ps.drop i,last≤(p.1:Int)) ⟨_,_,[],rfl,s1,upd_same,rfl,fun p _=>by show (-1:Int)≤_;omega⟩ ?_ ?_ ?_⟩
  ·rintro i σ H2 hi ⟨_,_,_,rfl,s2,_⟩
   exact SqL.of (s2 _ _ hpl)
  ·rintro i x σ H2 hx ⟨last,x4,kvs,rfl,s2,hd2,kk,low⟩
   rw [List.getElem?_map] at hx
   obtain ⟨t,ht,rfl⟩:=Option.map_eq_some_iff.mp hx
   obtain ⟨y,hy,hty⟩:=pj.get ht
   have hty2:H2 t=some (.tup [.int (y.1:Int),.int (y.2:Int)]):=s2 _ _ hty
   have hyl:=ok.inl y (List.mem_of_getElem? hy)
   have hd:ps.drop i=y::ps.drop (i+1):=by
    obtain ⟨h1,h2⟩:=List.getElem?_eq_some_iff.mp hy
    rw [List.drop_eq_getElem_cons h1,h2]
   have tk:ps.take (i+1)=ps.take i ++ [y]:=by rw [List.take_add_one,hy];rfl
   have l1:=low y (by rw [hd];exact List.mem_cons_self ..)
   have nds:(endN (ps.take (i+1))).Nodup:=by
    have:=ok.nd
    rw [←List.take_append_drop (i+1) ps,endN_app] at this
    exact (List.nodup_append.mp this).1
   rw [tk,endN_app] at nds
   obtain ⟨_,n2,n3⟩:=List.nodup_append.mp nds
   have o1:¬ y.1∈endN (ps.take i):=fun z=>n3 _ z _ (List.mem_cons_self ..) rfl
   have o2:¬ y.2∈endN (ps.take i):=fun z=>n3 _ z _ (List.mem_cons_of_mem _ (List.mem_cons_self ..)) rfl
   have n12:y.1≠y.2:=fun e=>(List.nodup_cons.mp n2).1 (by rw [e];exact List.mem_cons_self ..)
   have lk:kvs.length≤80:=by
    have:=congrArg List.length kk
    rw [List.length_map,List.length_map,List.length_map] at this
    have e2:∀ l:List (Nat×Nat),(endN l).length=2*l.length:=fun l=>by
     induction l with
     | nil=>rfl
     | cons a l ih=>show (a.1::a.2::endN l).length=_;rw [List.length_cons,List.length_cons,ih,List.length_cons];omega
    rw [e2,List.length_take] at this
    omega
   have i1:¬ (y.1:Int)∈(endN (ps.take i)).map (fun p:Nat=>(p:Int)):=fun z=>by
    obtain ⟨p,hp,e⟩:=List.mem_map.mp z
    exact o1 (by rw [show y.1=p by omega];exact hp)
   have i2:¬ (y.2:Int)∈(endN (ps.take i)).map (fun p:Nat=>(p:Int)):=fun z=>by
    obtain ⟨p,hp,e⟩:=List.mem_map.mp z
    exact o2 (by rw [show y.2=p by omega];exact hp)
   have a0:atI [V.int (y.1:Int),.int (y.2:Int)] 0=some (.int (y.1:Int)):=atI_nat (j:=0) rfl
   have a1:atI [V.int (y.1:Int),.int (y.2:Int)] 1=some (.int (y.2:Int)):=atI_nat (j:=1) rfl
   refine ⟨_,rfl,_,_,_,_,rfl,.tup hty2,kitTT K,_,rfl,iteF ⟨_,rfl,t,_,rfl,.inr (SqT.of hty2),rfl,_,rfl,iteF ?_⟩⟩
   refine ⟨_,rfl,t,_,_,_,rfl,rfl,SqT.of hty2,a0,_,rfl,_,rfl,iteF ⟨_,rfl,t,_,_,_,rfl,rfl,SqT.of hty2,a1,_,rfl,_,rfl,iteF ?_⟩⟩
   have j2:PL H2 ll (ls.map z2):=PL.same s2 (JL.pl jll)
   refine ⟨_,rfl,_,rfl,dp (z2 y),_,tp_rd hty2,j2.rd,dp_shaped _,dps_lay _,dp_depth _,_,rfl,?_⟩
   rw [dps_any,decide_eq_true (z2_mem.mpr hyl)]
   refine iteF ⟨_,rfl,t,_,_,_,rfl,rfl,SqT.of hty2,a0,_,rfl,dk,_,rfl,DGet.k (k:=Sum.inl (y.1:Int)) hd2,_,rfl,?_⟩
   rw [isSome_keys kk,decide_eq_false i1]
   refine iteF ⟨_,rfl,t,_,_,_,rfl,rfl,SqT.of hty2,a1,_,rfl,dk,_,rfl,DGet.k (k:=Sum.inl (y.2:Int)) hd2,_,rfl,?_⟩
   rw [isSome_keys kk,decide_eq_false i2]
   refine iteF ⟨_,rfl,t,_,_,_,rfl,rfl,SqT.of hty2,a0,_,rfl,_,_,rfl,rfl,_,rfl,?_⟩
   rw [decide_eq_false (show ¬ (y.1:Int) < last by omega)]
   have lp1:=length_putK kvs (Sum.inl (y.1:Int):Key) (V.bl true)
   have kk1:(kvs ++ [((Sum.inl (y.1:Int):Key),V.bl true)]).map (·.1)=((endN (ps.take i)).map (fun p:Nat=>(p:Int)) ++ [(y.1:Int)]).map (fun x=>(Sum.inl x:Key)):=by rw [List.map_append,List.map_append,kk];rfl
   have nk1:¬ (y.2:Int)∈(endN (ps.take i)).map (fun p:Nat=>(p:Int)) ++ [(y.1:Int)]:=fun z=>by
    rcases List.mem_append.mp z with z | z
    ·exact i2 z
    ·have:=List.mem_singleton.mp z;omega
   have ek:putK (putK kvs (Sum.inl (y.1:Int)) (.bl true)) (Sum.inl (y.2:Int)) (.bl true)=kvs ++ [((Sum.inl (y.1:Int):Key),V.bl true)] ++ [((Sum.inl (y.2:Int):Key),V.bl true)]:=by
    rw [putK_new _ (M6.none_keys kk i1),putK_new _ (M6.none_keys kk1 nk1)]
   have ntd:t≠dk:=fun e=>by rw [e,hd2] at hty2;cases hty2
   refine iteF ⟨_,rfl,_,rfl,t,_,_,_,rfl,rfl,SqT.of hty2,a0,dk,_,rfl,DPut.k (k:=Sum.inl (y.1:Int)) hd2 (small1000 (by omega)),?_⟩
   have hty3:upd H2 dk (.dK (putK kvs (Sum.inl (y.1:Int)) (.bl true))) t=some (.tup [.int (y.1:Int),.int (y.2:Int)]):=by rw [upd_ne ntd];exact hty2
   refine ⟨_,rfl,_,rfl,t,_,_,_,rfl,rfl,SqT.of hty3,a1,dk,_,rfl,DPut.k (k:=Sum.inl (y.2:Int)) upd_same (small1000 (by omega)),?_⟩
   have hty4:upd (upd H2 dk (.dK (putK kvs (Sum.inl (y.1:Int)) (.bl true)))) dk (.dK (putK (putK kvs (Sum.inl (y.1:Int)) (.bl true)) (Sum.inl (y.2:Int)) (.bl true))) t=some (.tup [.int (y.1:Int),.int (y.2:Int)]):=by rw [upd_ne ntd];exact hty3
   refine ⟨_,rfl,t,_,_,_,rfl,rfl,SqT.of hty4,a0,_,_,kvs ++ [((Sum.inl (y.1:Int):Key),V.bl true)] ++ [((Sum.inl (y.2:Int):Key),V.bl true)],rfl,same_upd (same_upd s2 hdk) hdk,?_,?_,?_⟩
   ·rw [upd_same,ek]
   ·rw [tk,endN_app,List.map_append,List.map_append,List.map_append,List.map_append,kk,List.append_assoc];rfl
   ·intro p hp
    have a2:=List.Pairwise.sublist (List.drop_sublist i ps) ok.asc
    rw [hd] at a2
    have:=(List.pairwise_cons.mp a2).1 p hp
    omega
  ·rintro σ H2 ⟨_,_,_,rfl,s2,_⟩
   exact q _ s2
end
end Rk08_the_largest_pairing
namespace Rk08_the_largest_pairing
open PySem L2 PyProof.Rows R K3 BW
open M21 (oN lI lO lI_at lO_at lf_ix lI_set while_m putF_few)
open De (lf lf_len lf_get)
section
variable {P:Program}{w:World}{K:PySem.W.Frag}{mg:Str→Option Value}{base:Heap}
seal PA PE PS PSs PT PW
theorem pairs_few {S:Bl.St}{rk:Nat→Nat} (O:Bl.Ok S rk) (h:S.n≤40):(Bl.pairs S).length≤40:=by
 have:=Bl.pairs_num O.pre
 omega
def spLt:Sp:=fun vs H Q _=>∃ (n:Nat) (ll t pl ol:Addr) (ls:List (Nat×Nat)) (S:Bl.St) (rk:Nat→Nat),vs = [.int (n:Int),.ref ll,.ref t]∧n≤40∧JL H ll ls∧Lks n ls∧LgR n ls H t pl ol S rk∧∀ H',Same H H'→Q (.bl true) H'
theorem scLt:FnScope ["_law_n","_law_links_here","_law_found"] ["_law_n","_law_links_here","_law_found"] (defScope sLt):=⟨rfl,rfl,rfl,by decide +kernel,rfl,by decide +kernel,by decide +kernel⟩
theorem okLt (d:Df K mg "_law_largest" sLt ["_law_n","_law_links_here","_law_found"]) (dPg:Df K mg "_law_pairing" sPg ["_law_found","_law_links_here"]) (dRi:Df K mg "_law_rising" sRi ["_law_found","_law_n"]) (dOd:Df K mg "_law_odd" sOd ["_law_n","_law_links_here","_law_out"]) (dH:Df K mg "_law_whole" sWh ["_law_found"]) (T:BiR mg):FnOk P w K mg base CX0 3 d.f d.fd ["_law_n","_law_links_here","_law_found"] spLt:=by
 have GPg:FnOk P w K mg base CX0 2 dPg.f dPg.fd ["_law_found","_law_links_here"] spPg:=okPg dPg dH T
 have GRi:FnOk P w K mg base CX0 2 dRi.f dRi.fd ["_law_found","_law_n"] spRi:=okRi dRi dH T
 have GOd:FnOk P w K mg base CX0 1 dOd.f dOd.fd ["_law_n","_law_links_here","_law_out"] spOd:=okOd dOd T
 refine d.F.ok scLt (fun vs H Q E h=>?_) (fun cdv A outer s H vs Q E hr h=>?_)
 ·obtain ⟨_,_,_,_,_,_,_,_,rfl,_⟩:=h
  rfl
 ·obtain ⟨n,ll,t,pl,ol,ls,S,rk,rfl,n40,jll,lks,⟨ht,jpl,hol,O,E1,rfl,el⟩,q⟩:=h
  have a0:atI [V.ref pl,.ref ol] 0=some (.ref pl):=atI_nat (j:=0) rfl
  have a1:atI [V.ref pl,.ref ol] 1=some (.ref ol):=atI_nat (j:=1) rfl
  have hl:∀ u v t,(u,v,t)∈S.lk→(u,v)∈ls:=fun u v t h=>by rw [el] at h;exact dbl_w0 h
  have sl:=sel_lt S (-1) S.n
  refine ⟨_,(pss_cons (ps_if (PW.pt (pw_or (pt_not (pt_val (pe_callB call_isT (by rfl) T.isin boot_isinstance (pa_cons (pv 2) (pa_cons (pe_bltn (v:=.ty "tuple") (by rfl) T.t_tuple boot_tuple rfl) pa_nil))))) (pw_or (pt_cmpR op_ne (pe_callB call_len_seq (by rfl) T.len PySem.boot_len (pa_cons (pv 2) pa_nil)) pe_int (nomark _)) (pw_or1 (pt_not (pt_val (pe_callB call_isT (by rfl) T.isin boot_isinstance (pa_cons (pe_ix ix_tup (pv 2) pe_int (fun _ _=>rfl)) (pa_cons (pe_bltn (v:=.ty "list") (by rfl) T.t_list boot_list rfl) pa_nil))))))))) (pss_one (ps_ret pe_bl)) pss_nil)
   (pss_cons (ps_if (PW.pt (pw_or (pt_not (pt_val (pe_call GPg (hr.mono (by omega)) (by rfl) dPg.m dPg.F.kp dPg.b .nil pass0 (pa_cons (pe_ix ix_tup (pv 2) pe_int (fun _ _=>rfl)) (pa_cons (pv 1) pa_nil))))) (pw_or1 (pt_not (pt_val (pe_call GRi (hr.mono (by omega)) (by rfl) dRi.m dRi.F.kp dRi.b .nil pass0 (pa_cons (pe_ix ix_tup (pv 2) pe_int (fun _ _=>rfl)) (pa_cons (pv 0) pa_nil)))))))) (pss_one (ps_ret pe_bl)) pss_nil)
   (pss_one (ps_ret (pe_cmpR op_eq (pe_call GOd (hr.mono (by omega)) (by rfl) dOd.m dOd.F.kp dOd.b .nil pass0 (pa_cons (pv 0) (pa_cons (pv 1) (pa_cons (pe_ix ix_tup (pv 2) pe_int (fun _ _=>rfl)) pa_nil)))) (pe_op op_sub (pe_op op_add (pe_callB call_len_seq (by rfl) T.len PySem.boot_len (pa_cons (pe_ix ix_tup (pv 2) pe_int (fun _ _=>rfl)) pa_nil)) (pv 0)) (pe_op op_mul pe_int (pe_callB call_len_seq (by rfl) T.len PySem.boot_len (pa_cons (pe_ix ix_tup (pv 2) pe_int (fun _ _=>rfl)) pa_nil)))) (nomark _)))))),?_⟩
  refine ⟨_,rfl,_,_,_,_,rfl,.tup ht,kitTT K,_,rfl,iteF ⟨_,rfl,t,_,rfl,.inr (SqT.of ht),rfl,_,rfl,iteF ?_⟩⟩
  refine ⟨_,rfl,t,_,_,_,rfl,rfl,SqT.of ht,a1,_,_,_,_,rfl,.lst hol,kitLL K,_,rfl,iteF ?_⟩
  refine ⟨_,rfl,t,_,_,_,rfl,rfl,SqT.of ht,a0,_,rfl,pl,ll,ls,_,rfl,jpl,jll,pairs_few O n40,pairs_ok O hl,fun H1 s1=>⟨_,rfl,iteF ?_⟩⟩
  have ht1:=s1 _ _ ht
  have hol1:=s1 _ _ hol
  refine ⟨_,rfl,t,_,_,_,rfl,rfl,SqT.of ht1,a1,_,rfl,ol,S.n,_,rfl,hol1,sl.1,sl.2,_,rfl,iteF ?_⟩
  refine ⟨_,rfl,_,rfl,_,rfl,t,_,_,_,rfl,rfl,SqT.of ht1,a1,S.n,ll,ol,ls,_,rfl,n40,jll.same s1,hol1,(fun y hy=>⟨Nat.lt_trans (lks.1 y hy).1 (lks.1 y hy).2,(lks.1 y hy).2⟩),fun k H2 s2 odn=>?_⟩
  have ht2:=s2 _ _ ht1
  have hol2:=s2 _ _ hol1
  obtain ⟨js,hpl,pj⟩:=(jpl.same s1).same s2
  have key:=odd_eq O E1 hl (fun y hy=>⟨0,by rw [el];exact w0_dbl hy⟩) (fun y hy=>⟨Nat.lt_trans (lks.1 y hy).1 (lks.1 y hy).2,(lks.1 y hy).2⟩) odn
  refine ⟨_,rfl,t,_,_,_,rfl,rfl,SqT.of ht2,a1,ol,_,rfl,.inl (SqL.of hol2),_,rfl,_,_,rfl,rfl,_,rfl,t,_,_,_,rfl,rfl,SqT.of ht2,a0,pl,_,rfl,.inl (SqL.of hpl),_,_,rfl,rfl,.inl ⟨by decide,by decide⟩,_,_,rfl,rfl,rfl,?_⟩
  have:=pj.len
  have e:decide (V.int (k:Int)=V.int (((nV (selM S (-1) S.n)).length:Int)+(S.n:Int)-2*(((js.map V.ref).length:Nat):Int)))=true:=by
   rw [int_dec,nV_len,List.length_map]
   exact decide_eq_true (by omega)
  exact e ▸ q _ (s1.trans s2)
end
end Rk08_the_largest_pairing
namespace Rk08_the_largest_pairing
open PySem L2 PyProof.Rows R K3 BW
open M21 (oN lI lO lI_at lO_at lf_ix lI_set while_m putF_few)
open De (lf lf_len lf_get)
section
theorem lb_ex (n:Nat) (out:List Nat) (ls:List (Nat×Nat)) (lt:∀ y∈ls,y.1 < n∧y.2 < n):∀ i,i≤ls.length→∃ pt,Lb n (ls.take i) out pt
 | 0,_=>⟨_,.nil⟩
 | i+1,h=>by
  obtain ⟨pt,L⟩:=lb_ex n out ls lt i (by omega)
  have hi:i < ls.length:=by omega
  have e:ls.take (i+1)=ls.take i ++ [ls[i]]:=by rw [List.take_add_one,List.getElem?_eq_getElem hi];rfl
  obtain ⟨a,b⟩:=lt _ (List.getElem_mem hi)
  rw [e]
  by_cases o1:ls[i].1∈out
  ·exact ⟨pt,L.skip fun z=>absurd o1 z⟩
  by_cases o2:ls[i].2∈out
  ·exact ⟨pt,L.skip fun _ z=>absurd o2 z⟩
  exact ⟨_,L.join a b o1 o2⟩
theorem ks_ex (out:List Nat) (pt:Nat→Nat):∀ i,∃ ks,Ks out pt i ks
 | 0=>⟨[],.nil⟩
 | i+1=>by
  obtain ⟨ks,h⟩:=ks_ex out pt i
  by_cases o:i∈out
  ·exact ⟨_,h.out o⟩
  ·exact ⟨_,h.put o⟩
theorem odn_ex (n:Nat) (out:List Nat) (ls:List (Nat×Nat)) (lt:∀ y∈ls,y.1 < n∧y.2 < n):∃ k,OdN n ls out k:=by
 obtain ⟨pt,L⟩:=lb_ex n out ls lt ls.length (Nat.le_refl _)
 rw [List.take_length] at L
 obtain ⟨ks,h⟩:=ks_ex out pt n
 exact ⟨_,h.odn L⟩
theorem least_alone {S:Bl.St}{rk:Nat→Nat}{ls:List (Nat×Nat)} (O:Bl.Ok S rk) (E:Bl.En S) (h1:∀ u v t,(u,v,t)∈S.lk→(u,v)∈ls) (h2:∀ y∈ls,∃ t,(y.1,y.2,t)∈S.lk) (lt:∀ y∈ls,y.1 < S.n∧y.2 < S.n)
  {m:Nat→Option Nat} (hm:Bl.Pm S.n m) (ml:∀ p q,p < S.n→m p=some q→(p,q)∈ls∨(q,p)∈ls):Bl.alone S≤Bl.num S.n (fun p=>(m p).isNone):=by
 obtain ⟨k,pt,X,L,nd,hX,rfl⟩:=odn_ex S.n (selM S (-1) S.n) ls lt
 have o:∀ p,p < S.n→(¬ p∈selM S (-1) S.n↔(S.bd (S.out p)).mark ≠ -1):=fun p hp=>by
  rw [sel_iff]
  exact ⟨fun z e=>z ⟨hp,e⟩,fun z e=>z e.2⟩
 refine Bl.no_larger O E (pt:=pt) (fun u v t hl a b=>by
  have m:=h1 u v t hl
  exact L.h1 (u,v) m ((o u (lt _ m).1).mpr a) ((o v (lt _ m).2).mpr b)) (fun f hf u v hu hv _ _ e=>L.h2 f (fun y hy a b=>by
   obtain ⟨t,ht⟩:=h2 y hy
   exact hf _ _ t ht ((o _ (lt y hy).1).mp a) ((o _ (lt y hy).2).mp b)) u v hu hv e) nd (fun x=>by
  rw [hX x]
  have:BW.cnt (selM S (-1) S.n) pt S.n x=Bl.num S.n (fun p=>decide ((S.bd (S.out p)).mark ≠ -1∧pt p=x)):=by
   unfold BW.cnt Bl.num
   congr 1
   refine List.filter_congr fun p hp=>?_
   rw [decide_eq_decide,o p (List.mem_range.mp hp)]
  rw [this]) hm fun p q hp e=>?_
 rcases ml p q hp e with z | z
 ·obtain ⟨t,ht⟩:=h2 _ z
  exact ⟨t,.inl ht⟩
 ·obtain ⟨t,ht⟩:=h2 _ z
  exact ⟨t,.inr ht⟩
theorem mt_pm {S:Bl.St}{rk:Nat→Nat} (O:Bl.Ok S rk):Bl.Pm S.n S.mt:=⟨fun p q hp h=>by
 have m:=Bl.mate_ok O.fo O.du O.ma hp h
 exact ⟨m.1,m.2.2.1,m.2.1⟩⟩
theorem mt_lk {S:Bl.St}{rk:Nat→Nat} (O:Bl.Ok S rk) {p q:Nat} (hp:p < S.n) (h:S.mt p=some q):∃ t,(p,q,t)∈S.lk∨(q,p,t)∈S.lk:=by
 obtain ⟨t,hl,_⟩:=(Bl.mate_ok O.fo O.du O.ma hp h).2.2.2
 exact ⟨t,hl⟩
theorem same_size {S S':Bl.St}{rk rk':Nat→Nat}{ls:List (Nat×Nat)}{n:Nat} (O:Bl.Ok S rk) (E:Bl.En S) (O':Bl.Ok S' rk') (E':Bl.En S') (en:S.n=n) (en':S'.n=n) (el:S.lk=dbl (w0 ls)) (el':S'.lk=dbl (w0 ls)) (lks:Lks n ls) :
  (Bl.pairs S).length=(Bl.pairs S').length:=by
 have le:∀ {S S':Bl.St}{rk rk':Nat→Nat},Bl.Ok S rk→Bl.En S→Bl.Ok S' rk'→S.n=n→S'.n=n→S.lk=dbl (w0 ls)→S'.lk=dbl (w0 ls)→Bl.alone S≤Bl.alone S':=fun {S S' rk rk'} O E O' en en' el el'=>by
  have:=least_alone O E (ls:=ls) (fun u v t h=>by rw [el] at h;exact dbl_w0 h) (fun y hy=>⟨0,by rw [el];exact w0_dbl hy⟩) (fun y hy=>by rw [en];exact ⟨Nat.lt_trans (lks.1 y hy).1 (lks.1 y hy).2,(lks.1 y hy).2⟩) (m:=S'.mt) (by rw [en,←en'];exact mt_pm O') (fun p q hp h=>by
   obtain ⟨t,z⟩:=mt_lk O' (by rw [en',←en];exact hp) h
   rw [el'] at z
   exact z.imp dbl_w0 dbl_w0)
  unfold Bl.alone at *
  rwa [en,←en'] at this ⊢
 have a:=le O E O' en en' el el'
 have b:=le O' E' O en' en el' el
 have c:=Bl.pairs_num O.pre
 have d:=Bl.pairs_num O'.pre
 omega
end
end Rk08_the_largest_pairing
namespace Rk08_the_largest_pairing
open PySem L2 PyProof.Rows R K3 BW
open M21 (oN lI lO lI_at lO_at lf_ix lI_set while_m putF_few)
open De (lf lf_len lf_get)
section
variable {P:Program}{w:World}{K:PySem.W.Frag}{mg:Str→Option Value}{base:Heap}{C:Cs}
seal PA PE PS PSs PT PW
theorem JL.mask {H:Hp}{tb l:Addr}{ls:List (Nat×Nat)}{ps:Array Value} (hP:H tb=some (.tbl ps)) (h:JL H l ls):JL (mask tb H) l ls :=
 let ⟨rs,a,b⟩:=h
 ⟨rs,mask_l hP a,Paired.mapP b fun _ _ q=>mask_t hP q⟩
theorem JL.keep {H:Hp}{l p:Addr}{ls:List (Nat×Nat)}{xs:List V}{o:HO} (hp:H p=some (.lst xs)) (ne:l≠p) (h:JL H l ls):JL (upd H p o) l ls :=
 let ⟨rs,a,b⟩:=h
 ⟨rs,by rw [upd_ne ne];exact a,JLs.upd hp b⟩
theorem JL.ne {H:Hp}{l p:Addr}{ls:List (Nat×Nat)} (h:JL H l ls) (hp:H p=none):l≠p:=let ⟨_,a,_⟩:=h;ne_of_none a hp
def spLaw (tb:Addr) (K:PySem.W.Frag):Sp:=fun vs H Q _=>∃ (a:Addr) (ns:List Int),vs = [.ref a]∧SqL K H a (ns.map V.int)∧ns.length≤63∧TabOk tb lamPos lamQ H∧∀ H',Q (.bl true) H'
theorem scLaw:FnScope ["_law_script","_law_seed","_law_n","_law_way","_law_shape","_law_links_here","_law_handed","_law_found","_law_many_here"] ["_law_script"] (defScope sLaw):=⟨rfl,rfl,rfl,by decide +kernel,rfl,by decide +kernel,by decide +kernel⟩
theorem okLawOf (d:Df K mg "law" sLaw ["_law_script"]) (dC:Df K mg "_law_cell_at" sCell ["_law_script","_law_k"]) (dY:Df K mg "_law_many" sMany ["_law_seed"]) (dL:Df K mg "_law_linked" sLk ["_law_u","_law_v","_law_n","_law_shape","_law_cell","_law_share"]) (dLs:Df K mg "_law_links" sLs ["_law_script","_law_n","_law_shape","_law_share"]) (dH:Df K mg "_law_whole" sWh ["_law_found"]) (dOd:Df K mg "_law_odd" sOd ["_law_n","_law_links_here","_law_out"]) (dRi:Df K mg "_law_rising" sRi ["_law_found","_law_n"]) (dPg:Df K mg "_law_pairing" sPg ["_law_found","_law_links_here"]) (dLt:Df K mg "_law_largest" sLt ["_law_n","_law_links_here","_law_found"])
  (dLg:Df K mg "largest" sLg ["n","links"]) (GLg:FnOk P w K mg base CX0 49 dLg.f dLg.fd ["n","links"] (spLg C)) (T:BiR mg) (hp:C.pos=lamPos) (hq:C.q=lamQ):FnOk P w K mg base CX0 50 d.f d.fd ["_law_script"] (spLaw C.tb K):=by
 have GC:FnOk P w K mg base CX0 1 dC.f dC.fd ["_law_script","_law_k"] (spCell K):=okCell dC T
 have GY:FnOk P w K mg base CX0 1 dY.f dY.fd ["_law_seed"] spMany:=okMany dY
 have GLs:FnOk P w K mg base CX0 2 dLs.f dLs.fd ["_law_script","_law_n","_law_shape","_law_share"] (spLs K):=okLs dLs dC dL T
 have GLt:FnOk P w K mg base CX0 3 dLt.f dLt.fd ["_law_n","_law_links_here","_law_found"] spLt:=okLt dLt dPg dRi dOd dH T
 refine d.F.ok scLaw (fun vs H Q E h=>?_) (fun cdv A outer s H vs Q E hr h=>?_)
 ·obtain ⟨_,_,rfl,_⟩:=h
  rfl
 ·obtain ⟨a,ns,rfl,hS,hlen,tab,q⟩:=h
  have tab:TabOk C.tb C.pos C.q H:=by rw [hp,hq];exact tab
  have hu64:(A.deeper (envOfC "law" (defScope sLaw) s.heap.objs.size d.f cdv)).units+64 < cLine:=hr.units
  have hu:=hu_of hr
  refine ⟨_,(pss_cons (ps_set (i:=1) scLaw.nd rfl (by first | exact Or.inl rfl | exact Or.inr rfl) (pe_call GC (hr.mono (by omega)) (by rfl) dC.m dC.F.kp dC.b .nil pass0 (pa_cons (pv 0) (pa_cons pe_int pa_nil))))
   (pss_cons (ps_set (i:=2) scLaw.nd rfl (by first | exact Or.inl rfl | exact Or.inr rfl) (pe_call GY (hr.mono (by omega)) (by rfl) dY.m dY.F.kp dY.b .nil pass0 (pa_cons (pv 1) pa_nil)))
   (pss_cons (ps_set (i:=3) scLaw.nd rfl (by first | exact Or.inl rfl | exact Or.inr rfl) (pe_call GC (hr.mono (by omega)) (by rfl) dC.m dC.F.kp dC.b .nil pass0 (pa_cons (pv 0) (pa_cons pe_int pa_nil))))
   (pss_cons (ps_set (i:=4) scLaw.nd rfl (by first | exact Or.inl rfl | exact Or.inr rfl) (pe_op op_mod (pv 3) pe_int))
   (pss_cons (ps_if (pt_cmpR op_eq (pe_op op_mod (pe_op op_fdiv (pv 3) pe_int) pe_int) pe_int (nomark _)) (pss_cons (ps_set (i:=2) scLaw.nd rfl (by first | exact Or.inl rfl | exact Or.inr rfl) (pe_op op_add pe_int (pe_op op_mod (pv 1) pe_int)))
   (pss_one (ps_set (i:=4) scLaw.nd rfl (by first | exact Or.inl rfl | exact Or.inr rfl) pe_int))) pss_nil)
   (pss_cons (ps_set (i:=5) scLaw.nd rfl (by first | exact Or.inl rfl | exact Or.inr rfl) (pe_call GLs (hr.mono (by omega)) (by rfl) dLs.m dLs.F.kp dLs.b .nil pass0 (pa_cons (pv 0) (pa_cons (pv 2) (pa_cons (pv 4) (pa_cons (pe_op op_add pe_int (pe_op op_mod (pe_op op_fdiv (pv 3) pe_int) pe_int)) pa_nil))))))
   (pss_cons (ps_set (i:=6) scLaw.nd rfl (by first | exact Or.inl rfl | exact Or.inr rfl) (pe_callTy call_list_of (by rfl) T.t_list boot_list (pa_cons (pv 5) pa_nil)))
   (pss_cons (ps_set (i:=7) scLaw.nd rfl (by first | exact Or.inl rfl | exact Or.inr rfl) (pe_call GLg (hr.mono (by omega)) (by rfl) dLg.m dLg.F.kp dLg.b .nil pass0 (pa_cons (pv 2) (pa_cons (pv 6) pa_nil))))
   (pss_cons (ps_if (PW.pt (pw_or (pt_cmpR (op_neD hu64) (pv 6) (pv 5) (nomark _)) (pw_or1 (pt_not (pt_val (pe_call GLt (hr.mono (by omega)) (by rfl) dLt.m dLt.F.kp dLt.b .nil pass0 (pa_cons (pv 2) (pa_cons (pv 5) (pa_cons (pv 7) pa_nil))))))))) (pss_one (ps_ret pe_bl)) pss_nil)
   (pss_cons (ps_if (pt_cmpR op_gt (pv 2) pe_int (nomark _)) (pss_one (ps_ret pe_bl)) pss_nil)
   (pss_cons (ps_set (i:=8) scLaw.nd rfl (by first | exact Or.inl rfl | exact Or.inr rfl) (pe_callB call_len_seq (by rfl) T.len PySem.boot_len (pa_cons (pe_ix ix_tup (pv 7) pe_int (fun _ _=>rfl)) pa_nil)))
   (pss_cons (ps_expr (pe_bm PySem.F.plainAttrs_list PySem.F.slot_list_append PySem.F.type_list_append mt_append (pe_ix ix_tup (pv 7) pe_int (fun _ _=>rfl)) (pa_cons (pe_tup (pa_cons pe_int (pa_cons pe_int pa_nil))) pa_nil)))
   (pss_cons (ps_expr (pe_bm PySem.F.plainAttrs_list PySem.F.slot_list_append PySem.F.type_list_append mt_append (pe_ix ix_tup (pv 7) pe_int (fun _ _=>rfl)) (pa_cons pe_int pa_nil)))
   (pss_cons (ps_set (i:=7) scLaw.nd rfl (by first | exact Or.inl rfl | exact Or.inr rfl) (pe_call GLg (hr.mono (by omega)) (by rfl) dLg.m dLg.F.kp dLg.b .nil pass0 (pa_cons (pv 2) (pa_cons (pv 6) pa_nil))))
   (pss_one (ps_ret (pe_and (pe_call GLt (hr.mono (by omega)) (by rfl) dLt.m dLt.F.kp dLt.b .nil pass0 (pa_cons (pv 2) (pa_cons (pv 5) (pa_cons (pv 7) pa_nil)))) (pe_one (pe_cmpR op_eq (pe_callB call_len_seq (by rfl) T.len PySem.boot_len (pa_cons (pe_ix ix_tup (pv 7) pe_int (fun _ _=>rfl)) pa_nil)) (pv 8) (nomark _)))))))))))))))))))),?_⟩
  refine ⟨_,rfl,a,ns,_,rfl,hS,(by decide),fun z0=>⟨_,rfl,_,rfl,fun n H1 s1 n0 n1=>?_⟩⟩
  refine ⟨_,rfl,a,ns,_,rfl,s1.seq hS,(by decide),fun wy=>?_⟩
  refine ⟨_,rfl,_,_,rfl,rfl,(by show (0:Int) < 5;decide),?_⟩
  try dsimp only
  refine ifP_exact (decide (V.int (wy / 35 % 8)=V.int 3)) (fun σ' H'=>H'=H1∧∃ (m:Nat) (sh:Int),m≤40∧σ' = [some (.ref a),some (.int z0),some (.int (m:Int)),some (.int wy),some (.int sh),none,none,none,none]) (fun Q q=>⟨_,rfl,_,_,rfl,rfl,⟨by decide,by decide⟩,_,_,rfl,rfl,(by show (0:Int) < 8;decide),rfl,_,rfl,q⟩)
   (fun _ D' k=>⟨_,rfl,_,_,rfl,rfl,(by show (0:Int) < 17;decide),_,_,rfl,rfl,k _ _ ⟨rfl,(24+z0 % 17).toNat,5,by omega,by rw [show (((24+z0 % 17).toNat:Nat):Int)=24+z0 % 17 by omega];rfl⟩⟩) (fun _=>⟨rfl,n.toNat,_,by omega,by rw [show ((n.toNat:Nat):Int)=n by omega];rfl⟩) ?_
  rintro _ _ ⟨rfl,m,sh,m40,rfl⟩
  refine ⟨_,rfl,_,rfl,_,rfl,_,rfl,_,_,rfl,rfl,⟨by decide,by decide⟩,_,_,rfl,rfl,(by show (0:Int) < 7;decide),_,_,rfl,rfl,a,ns,m,_,_,rfl,s1.seq hS,m40,fun l ls H2 hl s2 jl lks len=>?_⟩
  obtain ⟨js,hjs,pjs⟩:=id jl
  refine ⟨_,rfl,l,_,rfl,.inl (SqL.of hjs),fun hd hhd=>?_⟩
  have s3:=same_new (o:=.lst (js.map V.ref)) hhd
  have jh3:JL (upd H2 hd (.lst (js.map V.ref))) hd ls:=⟨js,upd_same,pjs.same s3⟩
  have jl3:=jl.same s3
  have tab3:=((tab.same s1).same s2).same s3
  generalize upd H2 hd (.lst (js.map V.ref))=H3 at *
  refine ⟨_,rfl,_,rfl,hd,m,ls,rfl,jh3,m40,by omega,lks.1,tab3,fun t pl ol S rk H4 s4 tab4 npl nol npo lg=>?_⟩
  obtain ⟨pt3,hP3,_⟩:=id tab3
  have jh4:=(JL.mask hP3 jh3).same s4
  have jl4:=(JL.mask hP3 jl3).same s4
  refine ⟨_,rfl,_,rfl,_,_,(JL.pl jh4).rd,(JL.pl jl4).rd,dps_shaped _,dps_shaped _,_,rfl,?_⟩
  rw [dps_eqv,decide_eq_true rfl]
  refine iteF ⟨_,rfl,_,rfl,_,rfl,m,l,t,pl,ol,ls,S,rk,rfl,m40,jl4,lks,lg,fun H5 s5=>⟨_,rfl,iteF ?_⟩⟩
  refine ⟨_,rfl,_,_,rfl,rfl,_,rfl,ite2 (fun _=>q _) (fun _=>?_)⟩
  obtain ⟨ht4,jpl4,hol4,O,E1,en,el⟩:=lg
  have ht:=s5 _ _ ht4
  have jpl:=jpl4.same s5
  have hol:=s5 _ _ hol4
  have jh5:=jh4.same s5
  have jl5:=jl4.same s5
  have tab5:=tab4.same s5
  have nhp:hd≠pl:=JL.ne jh3 npl
  have nho:hd≠ol:=JL.ne jh3 nol
  have nlp:l≠pl:=JL.ne jl3 npl
  have nlo:l≠ol:=JL.ne jl3 nol
  obtain ⟨ks,hpl,pks⟩:=id jpl
  have lks2:=pks.len
  have few:=pairs_few O (by rw [en];exact m40)
  have a0:atI [V.ref pl,.ref ol] 0=some (.ref pl):=atI_nat (j:=0) rfl
  have a1:atI [V.ref pl,.ref ol] 1=some (.ref ol):=atI_nat (j:=1) rfl
  refine ⟨_,rfl,t,_,_,_,rfl,rfl,SqT.of ht,a0,pl,_,rfl,.inl (SqL.of hpl),?_⟩
  refine ⟨_,rfl,t,_,_,_,rfl,rfl,SqT.of ht,a0,.inl ⟨rfl,_,SqL.of hpl⟩,(by show 2≤sizeLine;decide),fun t2 ht2=>?_⟩
  have s6:=same_new (o:=.tup [.int 0,.int 1]) ht2
  have hpl6:=s6 _ _ hpl
  have ht6:=s6 _ _ ht
  have hol6:=s6 _ _ hol
  have jh6:=jh5.same s6
  have jl6:=jl5.same s6
  have tab6:=tab5.same s6
  generalize upd H5 t2 (.tup [.int 0,.int 1])=H6 at *
  refine ⟨pl,_,_,rfl,rfl,hpl6,small5 (by rw [List.length_map];omega),?_⟩
  have ht7:upd H6 pl (.lst (ks.map V.ref ++ [.ref t2])) t=some (.tup [.ref pl,.ref ol]):=by rw [upd_ne (fun e=>by rw [e,hpl6] at ht6;cases ht6)];exact ht6
  have hol7:upd H6 pl (.lst (ks.map V.ref ++ [.ref t2])) ol=some (.lst (nV (selM S (-1) m))):=by rw [upd_ne (Ne.symm npo)];exact hol6
  have jh7:=JL.keep (o:=.lst (ks.map V.ref ++ [.ref t2])) hpl6 nhp jh6
  have jl7:=JL.keep (o:=.lst (ks.map V.ref ++ [.ref t2])) hpl6 nlp jl6
  have tab7:=tab6.upd (o:=.lst (ks.map V.ref ++ [.ref t2])) hpl6 trivial
  generalize upd H6 pl (.lst (ks.map V.ref ++ [.ref t2]))=H7 at *
  have fo:(selM S (-1) m).length≤40:=Nat.le_trans (List.length_filter_le _ _) (by rw [List.length_range];exact m40)
  refine ⟨_,rfl,t,_,_,_,rfl,rfl,SqT.of ht7,a1,.inl ⟨rfl,_,SqL.of hol7⟩,ol,_,_,rfl,rfl,hol7,small5 (by rw [nV_len];omega),?_⟩
  have jh8:=JL.keep (o:=.lst (nV (selM S (-1) m) ++ [.int 0])) hol7 nho jh7
  have jl8:=JL.keep (o:=.lst (nV (selM S (-1) m) ++ [.int 0])) hol7 nlo jl7
  have tab8:=tab7.upd (o:=.lst (nV (selM S (-1) m) ++ [.int 0])) hol7 trivial
  generalize upd H7 ol (.lst (nV (selM S (-1) m) ++ [.int 0]))=H8 at *
  refine ⟨_,rfl,_,rfl,hd,m,ls,rfl,jh8,m40,by omega,lks.1,tab8,fun t' pl' ol' S' rk' H9 s9 tab9 _ _ _ lg'=>?_⟩
  obtain ⟨pt8,hP8,_⟩:=id tab8
  have jl9:=(JL.mask hP8 jl8).same s9
  refine ⟨_,rfl,_,rfl,_,rfl,m,l,t',pl',ol',ls,S',rk',rfl,m40,jl9,lks,lg',fun H10 s10=>⟨_,rfl,iteT ?_⟩⟩
  obtain ⟨ht9,jpl9,hol9,O',E1',en',el'⟩:=lg'
  obtain ⟨ks',hpl',pks'⟩:=jpl9.same s10
  have lks3:=pks'.len
  have a0':atI [V.ref pl',.ref ol'] 0=some (.ref pl'):=atI_nat (j:=0) rfl
  refine ⟨_,rfl,t',_,_,_,rfl,rfl,SqT.of (s10 _ _ ht9),a0',pl',_,rfl,.inl (SqL.of hpl'),_,rfl,rfl,?_⟩
  have ss:=same_size O E1 O' E1' en en' el el' lks
  have e:decide (V.int ((((ks'.map V.ref).length:Nat):Int))=V.int (((ks.map V.ref).length:Nat):Int))=true:=by
   rw [int_dec,List.length_map,List.length_map]
   exact decide_eq_true (by omega)
  exact e ▸ q _
end
section
variable {P:Program}{w:World}{K:PySem.W.Frag}{mg:Str→Option Value}{base:Heap}{C:Cs}
theorem okLaw {c:Addr} (d:Df K mg "law" sLaw ["_law_script"]) (G:Pg K mg C) (L:Lm K mg base C G c) (dGw:Df K mg "grown_without_worries" sGw ["n","links"]) (dLg:Df K mg "largest" sLg ["n","links"]) (dC:Df K mg "_law_cell_at" sCell ["_law_script","_law_k"]) (dH:Df K mg "_law_whole" sWh ["_law_found"]) (dY:Df K mg "_law_many" sMany ["_law_seed"]) (dL:Df K mg "_law_linked" sLk ["_law_u","_law_v","_law_n","_law_shape","_law_cell","_law_share"]) (dLs:Df K mg "_law_links" sLs ["_law_script","_law_n","_law_shape","_law_share"]) (dOd:Df K mg "_law_odd" sOd ["_law_n","_law_links_here","_law_out"]) (dRi:Df K mg "_law_rising" sRi ["_law_found","_law_n"]) (dPg:Df K mg "_law_pairing" sPg ["_law_found","_law_links_here"]) (dLt:Df K mg "_law_largest" sLt ["_law_n","_law_links_here","_law_found"]) :
  FnOk P w K mg base CX0 50 d.f d.fd ["_law_script"] (spLaw C.tb K):=okLawOf d dC dY dL dLs dH dOd dRi dPg dLt dLg (okLg G L dGw dLg) G.T L.hp L.hq
end
end Rk08_the_largest_pairing
namespace Rk08_the_largest_pairing
open PySem L2 PyProof.Rows R K3 BW
open M21 (oN lI lO lI_at lO_at lf_ix lI_set while_m putF_few)
open De (lf lf_len lf_get)
set_option maxHeartbeats 0 in
theorem all_mk {l:PySem.W.OpenLaw}{w:World}{K:PySem.W.Frag}{h:Heap}{mg:Str→Option Value}{fa:Addr} (X:K.In h) (G:h.Ns mainGlobals mg) (hfa:mg "law" = some (.ref fa))
  {f0:Addr}{od0 an0:Option Addr}{sl0:Array (Option Value)}{oc0 kV0 dc0 pm0 cd0 ct0:Value}
  {f1:Addr}{od1 an1:Option Addr}{sl1:Array (Option Value)}{oc1 kV1 dc1 pm1 cd1 ct1:Value}
  {f2:Addr}{od2 an2:Option Addr}{sl2:Array (Option Value)}{oc2 kV2 dc2 pm2 cd2 ct2:Value}
  {f3:Addr}{od3 an3:Option Addr}{sl3:Array (Option Value)}{oc3 kV3 dc3 pm3 cd3 ct3:Value}
  {f4:Addr}{od4 an4:Option Addr}{sl4:Array (Option Value)}{oc4 kV4 dc4 pm4 ct4:Value}
  {f5:Addr}{od5 an5:Option Addr}{sl5:Array (Option Value)}{oc5 kV5 dc5 pm5 cd5 ct5:Value}
  {f6:Addr}{od6 an6:Option Addr}{sl6:Array (Option Value)}{oc6 kV6 dc6 pm6 cd6 ct6:Value}
  {f7:Addr}{od7 an7:Option Addr}{sl7:Array (Option Value)}{oc7 kV7 dc7 pm7 cd7 ct7:Value}
  {f8:Addr}{od8 an8:Option Addr}{sl8:Array (Option Value)}{oc8 kV8 dc8 pm8 cd8 ct8:Value}
  {f9:Addr}{od9 an9:Option Addr}{sl9:Array (Option Value)}{oc9 kV9 dc9 pm9 cd9 ct9:Value}
  {f10:Addr}{od10 an10:Option Addr}{sl10:Array (Option Value)}{oc10 kV10 dc10 pm10 cd10 ct10:Value}
  {f11:Addr}{od11 an11:Option Addr}{sl11:Array (Option Value)}{oc11 kV11 dc11 pm11 cd11 ct11:Value}
  {f12:Addr}{od12 an12:Option Addr}{sl12:Array (Option Value)}{oc12 kV12 dc12 pm12 cd12 ct12:Value}
  {f13:Addr}{od13 an13:Option Addr}{sl13:Array (Option Value)}{oc13 kV13 dc13 pm13 cd13 ct13:Value}
  {f14:Addr}{od14 an14:Option Addr}{sl14:Array (Option Value)}{oc14 kV14 dc14 pm14 cd14 ct14:Value}
  {f15:Addr}{od15 an15:Option Addr}{sl15:Array (Option Value)}{oc15 kV15 dc15 pm15 cd15 ct15:Value}
  {f16:Addr}{od16 an16:Option Addr}{sl16:Array (Option Value)}{oc16 kV16 dc16 pm16 cd16 ct16:Value}
  {f17:Addr}{od17 an17:Option Addr}{sl17:Array (Option Value)}{oc17 kV17 dc17 pm17 cd17 ct17:Value}
  {f18:Addr}{od18 an18:Option Addr}{sl18:Array (Option Value)}{oc18 kV18 dc18 pm18 cd18 ct18:Value}
  {f19:Addr}{od19 an19:Option Addr}{sl19:Array (Option Value)}{oc19 kV19 dc19 pm19 cd19 ct19:Value}
  {f20:Addr}{od20 an20:Option Addr}{sl20:Array (Option Value)}{oc20 kV20 dc20 pm20 cd20 ct20:Value}
  {f21:Addr}{od21 an21:Option Addr}{sl21:Array (Option Value)}{oc21 kV21 dc21 pm21 cd21 ct21:Value}
  {f22:Addr}{od22 an22:Option Addr}{sl22:Array (Option Value)}{oc22 kV22 dc22 pm22 cd22 ct22:Value}
  {f23:Addr}{od23 an23:Option Addr}{sl23:Array (Option Value)}{oc23 kV23 dc23 pm23 cd23 ct23:Value}
  {f24:Addr}{od24 an24:Option Addr}{sl24:Array (Option Value)}{oc24 kV24 dc24 pm24 cd24 ct24:Value}
  {f25:Addr}{od25 an25:Option Addr}{sl25:Array (Option Value)}{oc25 kV25 dc25 pm25 cd25 ct25:Value}
  {f26:Addr}{od26 an26:Option Addr}{sl26:Array (Option Value)}{oc26 kV26 dc26 pm26 cd26 ct26:Value}
  {f27:Addr}{od27 an27:Option Addr}{sl27:Array (Option Value)}{oc27 kV27 dc27 pm27 cd27 ct27:Value}
  {f28:Addr}{od28 an28:Option Addr}{sl28:Array (Option Value)}{oc28 kV28 dc28 pm28 cd28 ct28:Value}
  {f29:Addr}{od29 an29:Option Addr}{sl29:Array (Option Value)}{oc29 kV29 dc29 pm29 cd29 ct29:Value}
  {f30:Addr}{od30 an30:Option Addr}{sl30:Array (Option Value)}{oc30 kV30 dc30 pm30 cd30 ct30:Value}
  {tk0:Tok}
  {tk1:Tok}
  {tk2:Tok}
  {lT lc:Addr}
  (a0:PySem.W.nsIn K mainGlobals "body_number" = some (some (.ref f0))) (l0:K.lookup f0=some ⟨oc0,od0,.func (PySem.W.fnOf "body_number" "body_number" (defArgs sBn) (defBody sBn) (defScope sBn) .none kV0 dc0 pm0 an0 cd0 ct0),sl0⟩) (c0:PySem.W.codeIn K cd0 "body_number" = true) (k0:PySem.W.keepIn K (.ref f0)=true)
  (a1:PySem.W.nsIn K mainGlobals "joint_on" = some (some (.ref f1))) (l1:K.lookup f1=some ⟨oc1,od1,.func (PySem.W.fnOf "joint_on" "joint_on" (defArgs sJo) (defBody sJo) (defScope sJo) .none kV1 dc1 pm1 an1 cd1 ct1),sl1⟩) (c1:PySem.W.codeIn K cd1 "joint_on" = true) (k1:PySem.W.keepIn K (.ref f1)=true)
  (a2:PySem.W.nsIn K mainGlobals "begin_trees" = some (some (.ref f2))) (l2:K.lookup f2=some ⟨oc2,od2,.func (PySem.W.fnOf "begin_trees" "begin_trees" (defArgs sBt) (defBody sBt) (defScope sBt) .none kV2 dc2 pm2 an2 cd2 ct2),sl2⟩) (c2:PySem.W.codeIn K cd2 "begin_trees" = true) (k2:PySem.W.keepIn K (.ref f2)=true)
  (a3:PySem.W.nsIn K mainGlobals "tightest_link" = some (some (.ref f3))) (l3:K.lookup f3=some ⟨oc3,od3,.func (PySem.W.fnOf "tightest_link" "tightest_link" (defArgs sTl) (defBody sTl) (defScope sTl) .none kV3 dc3 pm3 an3 cd3 ct3),sl3⟩) (c3:PySem.W.codeIn K cd3 "tightest_link" = true) (k3:PySem.W.keepIn K (.ref f3)=true)
  (a4:PySem.W.nsIn K mainGlobals "cheapest_odd_ring" = some (some (.ref f4))) (l4:K.lookup f4=some ⟨oc4,od4,.func (PySem.W.fnOf "cheapest_odd_ring" "cheapest_odd_ring" (defArgs sCh) (defBody sCh) (defScope sCh) .none kV4 dc4 pm4 an4 (.ref lc) ct4),sl4⟩) (c4:PySem.W.codeIn K (.ref lc) "cheapest_odd_ring" = true) (k4:PySem.W.keepIn K (.ref f4)=true)
  (lTn:K.lookup lT=none) (lcd:PySem.W.codeHdIn K lc lT=true)
  (a5:PySem.W.nsIn K mainGlobals "lift_all" = some (some (.ref f5))) (l5:K.lookup f5=some ⟨oc5,od5,.func (PySem.W.fnOf "lift_all" "lift_all" (defArgs sLa) (defBody sLa) (defScope sLa) .none kV5 dc5 pm5 an5 cd5 ct5),sl5⟩) (c5:PySem.W.codeIn K cd5 "lift_all" = true) (k5:PySem.W.keepIn K (.ref f5)=true)
  (a6:PySem.W.nsIn K mainGlobals "mark_odd" = some (some (.ref f6))) (l6:K.lookup f6=some ⟨oc6,od6,.func (PySem.W.fnOf "mark_odd" "mark_odd" (defArgs sMo) (defBody sMo) (defScope sMo) .none kV6 dc6 pm6 an6 cd6 ct6),sl6⟩) (c6:PySem.W.codeIn K cd6 "mark_odd" = true) (k6:PySem.W.keepIn K (.ref f6)=true)
  (a7:PySem.W.nsIn K mainGlobals "grow" = some (some (.ref f7))) (l7:K.lookup f7=some ⟨oc7,od7,.func (PySem.W.fnOf "grow" "grow" (defArgs sGr) (defBody sGr) (defScope sGr) .none kV7 dc7 pm7 an7 cd7 ct7),sl7⟩) (c7:PySem.W.codeIn K cd7 "grow" = true) (k7:PySem.W.keepIn K (.ref f7)=true)
  (a8:PySem.W.nsIn K mainGlobals "step_up" = some (some (.ref f8))) (l8:K.lookup f8=some ⟨oc8,od8,.func (PySem.W.fnOf "step_up" "step_up" (defArgs sSu) (defBody sSu) (defScope sSu) .none kV8 dc8 pm8 an8 cd8 ct8),sl8⟩) (c8:PySem.W.codeIn K cd8 "step_up" = true) (k8:PySem.W.keepIn K (.ref f8)=true)
  (a9:PySem.W.nsIn K mainGlobals "links_to_root" = some (some (.ref f9))) (l9:K.lookup f9=some ⟨oc9,od9,.func (PySem.W.fnOf "links_to_root" "links_to_root" (defArgs sLr) (defBody sLr) (defScope sLr) .none kV9 dc9 pm9 an9 cd9 ct9),sl9⟩) (c9:PySem.W.codeIn K cd9 "links_to_root" = true) (k9:PySem.W.keepIn K (.ref f9)=true)
  (a10:PySem.W.nsIn K mainGlobals "root_of" = some (some (.ref f10))) (l10:K.lookup f10=some ⟨oc10,od10,.func (PySem.W.fnOf "root_of" "root_of" (defArgs sRo) (defBody sRo) (defScope sRo) .none kV10 dc10 pm10 an10 cd10 ct10),sl10⟩) (c10:PySem.W.codeIn K cd10 "root_of" = true) (k10:PySem.W.keepIn K (.ref f10)=true)
  (a11:PySem.W.nsIn K mainGlobals "change_pairs" = some (some (.ref f11))) (l11:K.lookup f11=some ⟨oc11,od11,.func (PySem.W.fnOf "change_pairs" "change_pairs" (defArgs sCp) (defBody sCp) (defScope sCp) .none kV11 dc11 pm11 an11 cd11 ct11),sl11⟩) (c11:PySem.W.codeIn K cd11 "change_pairs" = true) (k11:PySem.W.keepIn K (.ref f11)=true)
  (a12:PySem.W.nsIn K mainGlobals "close_ring" = some (some (.ref f12))) (l12:K.lookup f12=some ⟨oc12,od12,.func (PySem.W.fnOf "close_ring" "close_ring" (defArgs sCr) (defBody sCr) (defScope sCr) .none kV12 dc12 pm12 an12 cd12 ct12),sl12⟩) (c12:PySem.W.codeIn K cd12 "close_ring" = true) (k12:PySem.W.keepIn K (.ref f12)=true)
  (a13:PySem.W.nsIn K mainGlobals "join_bodies" = some (some (.ref f13))) (l13:K.lookup f13=some ⟨oc13,od13,.func (PySem.W.fnOf "join_bodies" "join_bodies" (defArgs sJb) (defBody sJb) (defScope sJb) .none kV13 dc13 pm13 an13 cd13 ct13),sl13⟩) (c13:PySem.W.codeIn K cd13 "join_bodies" = true) (k13:PySem.W.keepIn K (.ref f13)=true)
  (a14:PySem.W.nsIn K mainGlobals "use_link" = some (some (.ref f14))) (l14:K.lookup f14=some ⟨oc14,od14,.func (PySem.W.fnOf "use_link" "use_link" (defArgs sUl) (defBody sUl) (defScope sUl) .none kV14 dc14 pm14 an14 cd14 ct14),sl14⟩) (c14:PySem.W.codeIn K cd14 "use_link" = true) (k14:PySem.W.keepIn K (.ref f14)=true)
  (a15:PySem.W.nsIn K mainGlobals "open_ring" = some (some (.ref f15))) (l15:K.lookup f15=some ⟨oc15,od15,.func (PySem.W.fnOf "open_ring" "open_ring" (defArgs sOr) (defBody sOr) (defScope sOr) .none kV15 dc15 pm15 an15 cd15 ct15),sl15⟩) (c15:PySem.W.codeIn K cd15 "open_ring" = true) (k15:PySem.W.keepIn K (.ref f15)=true)
  (a16:PySem.W.nsIn K mainGlobals "go_on" = some (some (.ref f16))) (l16:K.lookup f16=some ⟨oc16,od16,.func (PySem.W.fnOf "go_on" "go_on" (defArgs sGo) (defBody sGo) (defScope sGo) .none kV16 dc16 pm16 an16 cd16 ct16),sl16⟩) (c16:PySem.W.codeIn K cd16 "go_on" = true) (k16:PySem.W.keepIn K (.ref f16)=true)
  (a17:PySem.W.nsIn K mainGlobals "grown" = some (some (.ref f17))) (l17:K.lookup f17=some ⟨oc17,od17,.func (PySem.W.fnOf "grown" "grown" (defArgs sGn) (defBody sGn) (defScope sGn) .none kV17 dc17 pm17 an17 cd17 ct17),sl17⟩) (c17:PySem.W.codeIn K cd17 "grown" = true) (k17:PySem.W.keepIn K (.ref f17)=true)
  (a18:PySem.W.nsIn K mainGlobals "odd_places" = some (some (.ref f18))) (l18:K.lookup f18=some ⟨oc18,od18,.func (PySem.W.fnOf "odd_places" "odd_places" (defArgs sOp) (defBody sOp) (defScope sOp) .none kV18 dc18 pm18 an18 cd18 ct18),sl18⟩) (c18:PySem.W.codeIn K cd18 "odd_places" = true) (k18:PySem.W.keepIn K (.ref f18)=true)
  (a19:PySem.W.nsIn K mainGlobals "grown_without_worries" = some (some (.ref f19))) (l19:K.lookup f19=some ⟨oc19,od19,.func (PySem.W.fnOf "grown_without_worries" "grown_without_worries" (defArgs sGw) (defBody sGw) (defScope sGw) .none kV19 dc19 pm19 an19 cd19 ct19),sl19⟩) (c19:PySem.W.codeIn K cd19 "grown_without_worries" = true) (k19:PySem.W.keepIn K (.ref f19)=true)
  (a20:PySem.W.nsIn K mainGlobals "largest" = some (some (.ref f20))) (l20:K.lookup f20=some ⟨oc20,od20,.func (PySem.W.fnOf "largest" "largest" (defArgs sLg) (defBody sLg) (defScope sLg) .none kV20 dc20 pm20 an20 cd20 ct20),sl20⟩) (c20:PySem.W.codeIn K cd20 "largest" = true) (k20:PySem.W.keepIn K (.ref f20)=true)
  (a21:PySem.W.nsIn K mainGlobals "_law_cell_at" = some (some (.ref f21))) (l21:K.lookup f21=some ⟨oc21,od21,.func (PySem.W.fnOf "_law_cell_at" "_law_cell_at" (defArgs sCell) (defBody sCell) (defScope sCell) .none kV21 dc21 pm21 an21 cd21 ct21),sl21⟩) (c21:PySem.W.codeIn K cd21 "_law_cell_at" = true) (k21:PySem.W.keepIn K (.ref f21)=true)
  (a22:PySem.W.nsIn K mainGlobals "_law_whole" = some (some (.ref f22))) (l22:K.lookup f22=some ⟨oc22,od22,.func (PySem.W.fnOf "_law_whole" "_law_whole" (defArgs sWh) (defBody sWh) (defScope sWh) .none kV22 dc22 pm22 an22 cd22 ct22),sl22⟩) (c22:PySem.W.codeIn K cd22 "_law_whole" = true) (k22:PySem.W.keepIn K (.ref f22)=true)
  (a23:PySem.W.nsIn K mainGlobals "_law_many" = some (some (.ref f23))) (l23:K.lookup f23=some ⟨oc23,od23,.func (PySem.W.fnOf "_law_many" "_law_many" (defArgs sMany) (defBody sMany) (defScope sMany) .none kV23 dc23 pm23 an23 cd23 ct23),sl23⟩) (c23:PySem.W.codeIn K cd23 "_law_many" = true) (k23:PySem.W.keepIn K (.ref f23)=true)
  (a24:PySem.W.nsIn K mainGlobals "_law_linked" = some (some (.ref f24))) (l24:K.lookup f24=some ⟨oc24,od24,.func (PySem.W.fnOf "_law_linked" "_law_linked" (defArgs sLk) (defBody sLk) (defScope sLk) .none kV24 dc24 pm24 an24 cd24 ct24),sl24⟩) (c24:PySem.W.codeIn K cd24 "_law_linked" = true) (k24:PySem.W.keepIn K (.ref f24)=true)
  (a25:PySem.W.nsIn K mainGlobals "_law_links" = some (some (.ref f25))) (l25:K.lookup f25=some ⟨oc25,od25,.func (PySem.W.fnOf "_law_links" "_law_links" (defArgs sLs) (defBody sLs) (defScope sLs) .none kV25 dc25 pm25 an25 cd25 ct25),sl25⟩) (c25:PySem.W.codeIn K cd25 "_law_links" = true) (k25:PySem.W.keepIn K (.ref f25)=true)
  (a26:PySem.W.nsIn K mainGlobals "_law_odd" = some (some (.ref f26))) (l26:K.lookup f26=some ⟨oc26,od26,.func (PySem.W.fnOf "_law_odd" "_law_odd" (defArgs sOd) (defBody sOd) (defScope sOd) .none kV26 dc26 pm26 an26 cd26 ct26),sl26⟩) (c26:PySem.W.codeIn K cd26 "_law_odd" = true) (k26:PySem.W.keepIn K (.ref f26)=true)
  (a27:PySem.W.nsIn K mainGlobals "_law_rising" = some (some (.ref f27))) (l27:K.lookup f27=some ⟨oc27,od27,.func (PySem.W.fnOf "_law_rising" "_law_rising" (defArgs sRi) (defBody sRi) (defScope sRi) .none kV27 dc27 pm27 an27 cd27 ct27),sl27⟩) (c27:PySem.W.codeIn K cd27 "_law_rising" = true) (k27:PySem.W.keepIn K (.ref f27)=true)
  (a28:PySem.W.nsIn K mainGlobals "_law_pairing" = some (some (.ref f28))) (l28:K.lookup f28=some ⟨oc28,od28,.func (PySem.W.fnOf "_law_pairing" "_law_pairing" (defArgs sPg) (defBody sPg) (defScope sPg) .none kV28 dc28 pm28 an28 cd28 ct28),sl28⟩) (c28:PySem.W.codeIn K cd28 "_law_pairing" = true) (k28:PySem.W.keepIn K (.ref f28)=true)
  (a29:PySem.W.nsIn K mainGlobals "_law_largest" = some (some (.ref f29))) (l29:K.lookup f29=some ⟨oc29,od29,.func (PySem.W.fnOf "_law_largest" "_law_largest" (defArgs sLt) (defBody sLt) (defScope sLt) .none kV29 dc29 pm29 an29 cd29 ct29),sl29⟩) (c29:PySem.W.codeIn K cd29 "_law_largest" = true) (k29:PySem.W.keepIn K (.ref f29)=true)
  (a30:PySem.W.nsIn K mainGlobals "law" = some (some (.ref f30))) (l30:K.lookup f30=some ⟨oc30,od30,.func (PySem.W.fnOf "law" "law" (defArgs sLaw) (defBody sLaw) (defScope sLaw) .none kV30 dc30 pm30 an30 cd30 ct30),sl30⟩) (c30:PySem.W.codeIn K cd30 "law" = true) (k30:PySem.W.keepIn K (.ref f30)=true)
  {C0:Addr}
  {g0f0:Addr}{g0od0 g0an0:Option Addr}{g0sl0:Array (Option Value)}{g0oc0 g0kV0 g0dc0 g0pm0 g0cd0 g0ct0:Value}
  (g0C:PySem.W.nsIn K mainGlobals "Body" = some (some (.ref C0)))
  (g0a0:PySem.W.findIn K (.ref C0) "__init__" = some (some (.ref g0f0))) (g0i0:PySem.W.isFn K (.ref g0f0)=true) (g0l0:K.lookup g0f0=some ⟨g0oc0,g0od0,.func (PySem.W.fnOf "__init__" "Body.__init__" (defArgs sBi) (defBody sBi) (defScope sBi) .none g0kV0 g0dc0 g0pm0 g0an0 g0cd0 g0ct0),g0sl0⟩) (g0c0:PySem.W.codeIn K g0cd0 "Body.__init__" = true) (g0k0:PySem.W.keepIn K (.ref g0f0)=true)
  (g0pg:PySem.W.plainGet K C0 Str.empty=true) (g0hd:PySem.W.hasDictIn K C0=true) (g0po:PySem.W.plainOver K C0=true) (g0sa:PySem.W.findIn K (.ref C0) "__setattr__" = some (some (.builtin "object.__setattr__"))) (g0mk:PySem.W.makesIn K C0=true) (g0kc:PySem.W.keepIn K (.ref C0)=true)
  (g0n0:PySem.W.findIn K (.ref C0) "places" = some none)
  (g0n1:PySem.W.findIn K (.ref C0) "tip" = some none)
  (g0n2:PySem.W.findIn K (.ref C0) "inner" = some none)
  (g0n3:PySem.W.findIn K (.ref C0) "joints" = some none)
  (g0n4:PySem.W.findIn K (.ref C0) "price" = some none)
  (g0n5:PySem.W.findIn K (.ref C0) "mark" = some none)
  (g0n6:PySem.W.findIn K (.ref C0) "came" = some none)
  {y0nm y0q:Str}{y0N:Addr}{y0bs:List Value}{y0hdct:Bool}{y0sn:List Str}{y0sub:List Value}{y0ab:Bool}{y0col:Option Bool}{y0dd:Option Addr}{y0k0 y0k1 y0k2 y0k3 y0k5:Option Value}{y0newId:String}{y0oc:Value}{y0od:Option Addr}{y0es:Array DictEntry}{y0ep:Nat}{y0sl:Array (Option Value)}
  (g0x1:K.lookup C0=some (excClassObj y0nm y0q C0 y0N y0bs [.type "object"] y0hdct y0sn y0sub y0ab y0col y0dd y0k0 y0k1 y0k2 y0k3 y0k5 y0newId)) (g0x2:K.lookup y0N=some ⟨y0oc,y0od,.dict y0es y0ep,y0sl⟩) (g0x3:strKeysB y0es=true) (g0x4:nsFind y0es "__eq__" = none) (g0x5:nsFind y0es "__ne__" = none)
  {C1:Addr}
  {g1f0:Addr}{g1od0 g1an0:Option Addr}{g1sl0:Array (Option Value)}{g1oc0 g1kV0 g1dc0 g1pm0 g1cd0 g1ct0:Value}
  {g1f1:Addr}{g1od1 g1an1:Option Addr}{g1sl1:Array (Option Value)}{g1oc1 g1kV1 g1dc1 g1pm1 g1cd1 g1ct1:Value}
  {g1f2:Addr}{g1od2 g1an2:Option Addr}{g1sl2:Array (Option Value)}{g1oc2 g1kV2 g1dc2 g1pm2 g1cd2 g1ct2:Value}
  {g1f3:Addr}{g1od3 g1an3:Option Addr}{g1sl3:Array (Option Value)}{g1oc3 g1kV3 g1dc3 g1pm3 g1cd3 g1ct3:Value}
  {g1f4:Addr}{g1od4 g1an4:Option Addr}{g1sl4:Array (Option Value)}{g1oc4 g1kV4 g1dc4 g1pm4 g1cd4 g1ct4:Value}
  {g1f5:Addr}{g1od5 g1an5:Option Addr}{g1sl5:Array (Option Value)}{g1oc5 g1kV5 g1dc5 g1pm5 g1cd5 g1ct5:Value}
  {g1f6:Addr}{g1od6 g1an6:Option Addr}{g1sl6:Array (Option Value)}{g1oc6 g1kV6 g1dc6 g1pm6 g1cd6 g1ct6:Value}
  {g1f7:Addr}{g1od7 g1an7:Option Addr}{g1sl7:Array (Option Value)}{g1oc7 g1kV7 g1dc7 g1pm7 g1cd7 g1ct7:Value}
  (g1C:PySem.W.nsIn K mainGlobals "Web" = some (some (.ref C1)))
  (g1a0:PySem.W.findIn K (.ref C1) "__init__" = some (some (.ref g1f0))) (g1i0:PySem.W.isFn K (.ref g1f0)=true) (g1l0:K.lookup g1f0=some ⟨g1oc0,g1od0,.func (PySem.W.fnOf "__init__" "Web.__init__" (defArgs sWi) (defBody sWi) (defScope sWi) .none g1kV0 g1dc0 g1pm0 g1an0 g1cd0 g1ct0),g1sl0⟩) (g1c0:PySem.W.codeIn K g1cd0 "Web.__init__" = true) (g1k0:PySem.W.keepIn K (.ref g1f0)=true)
  (g1a1:PySem.W.findIn K (.ref C1) "outermost" = some (some (.ref g1f1))) (g1i1:PySem.W.isFn K (.ref g1f1)=true) (g1l1:K.lookup g1f1=some ⟨g1oc1,g1od1,.func (PySem.W.fnOf "outermost" "Web.outermost" (defArgs sOu) (defBody sOu) (defScope sOu) .none g1kV1 g1dc1 g1pm1 g1an1 g1cd1 g1ct1),g1sl1⟩) (g1c1:PySem.W.codeIn K g1cd1 "Web.outermost" = true) (g1k1:PySem.W.keepIn K (.ref g1f1)=true)
  (g1a2:PySem.W.findIn K (.ref C1) "lift" = some (some (.ref g1f2))) (g1i2:PySem.W.isFn K (.ref g1f2)=true) (g1l2:K.lookup g1f2=some ⟨g1oc2,g1od2,.func (PySem.W.fnOf "lift" "Web.lift" (defArgs sLi) (defBody sLi) (defScope sLi) .none g1kV2 g1dc2 g1pm2 g1an2 g1cd2 g1ct2),g1sl2⟩) (g1c2:PySem.W.codeIn K g1cd2 "Web.lift" = true) (g1k2:PySem.W.keepIn K (.ref g1f2)=true)
  (g1a3:PySem.W.findIn K (.ref C1) "lead_out" = some (some (.ref g1f3))) (g1i3:PySem.W.isFn K (.ref g1f3)=true) (g1l3:K.lookup g1f3=some ⟨g1oc3,g1od3,.func (PySem.W.fnOf "lead_out" "Web.lead_out" (defArgs sLe) (defBody sLe) (defScope sLe) .none g1kV3 g1dc3 g1pm3 g1an3 g1cd3 g1ct3),g1sl3⟩) (g1c3:PySem.W.codeIn K g1cd3 "Web.lead_out" = true) (g1k3:PySem.W.keepIn K (.ref g1f3)=true)
  (g1a4:PySem.W.findIn K (.ref C1) "tie" = some (some (.ref g1f4))) (g1i4:PySem.W.isFn K (.ref g1f4)=true) (g1l4:K.lookup g1f4=some ⟨g1oc4,g1od4,.func (PySem.W.fnOf "tie" "Web.tie" (defArgs sTi) (defBody sTi) (defScope sTi) .none g1kV4 g1dc4 g1pm4 g1an4 g1cd4 g1ct4),g1sl4⟩) (g1c4:PySem.W.codeIn K g1cd4 "Web.tie" = true) (g1k4:PySem.W.keepIn K (.ref g1f4)=true)
  (g1a5:PySem.W.findIn K (.ref C1) "put_together" = some (some (.ref g1f5))) (g1i5:PySem.W.isFn K (.ref g1f5)=true) (g1l5:K.lookup g1f5=some ⟨g1oc5,g1od5,.func (PySem.W.fnOf "put_together" "Web.put_together" (defArgs sPu) (defBody sPu) (defScope sPu) .none g1kV5 g1dc5 g1pm5 g1an5 g1cd5 g1ct5),g1sl5⟩) (g1c5:PySem.W.codeIn K g1cd5 "Web.put_together" = true) (g1k5:PySem.W.keepIn K (.ref g1f5)=true)
  (g1a6:PySem.W.findIn K (.ref C1) "take_apart" = some (some (.ref g1f6))) (g1i6:PySem.W.isFn K (.ref g1f6)=true) (g1l6:K.lookup g1f6=some ⟨g1oc6,g1od6,.func (PySem.W.fnOf "take_apart" "Web.take_apart" (defArgs sTa) (defBody sTa) (defScope sTa) .none g1kV6 g1dc6 g1pm6 g1an6 g1cd6 g1ct6),g1sl6⟩) (g1c6:PySem.W.codeIn K g1cd6 "Web.take_apart" = true) (g1k6:PySem.W.keepIn K (.ref g1f6)=true)
  (g1a7:PySem.W.findIn K (.ref C1) "pairing" = some (some (.ref g1f7))) (g1i7:PySem.W.isFn K (.ref g1f7)=true) (g1l7:K.lookup g1f7=some ⟨g1oc7,g1od7,.func (PySem.W.fnOf "pairing" "Web.pairing" (defArgs sPr) (defBody sPr) (defScope sPr) .none g1kV7 g1dc7 g1pm7 g1an7 g1cd7 g1ct7),g1sl7⟩) (g1c7:PySem.W.codeIn K g1cd7 "Web.pairing" = true) (g1k7:PySem.W.keepIn K (.ref g1f7)=true)
  (g1pg:PySem.W.plainGet K C1 Str.empty=true) (g1hd:PySem.W.hasDictIn K C1=true) (g1po:PySem.W.plainOver K C1=true) (g1sa:PySem.W.findIn K (.ref C1) "__setattr__" = some (some (.builtin "object.__setattr__"))) (g1mk:PySem.W.makesIn K C1=true) (g1kc:PySem.W.keepIn K (.ref C1)=true)
  (g1n0:PySem.W.findIn K (.ref C1) "links" = some none)
  (g1n1:PySem.W.findIn K (.ref C1) "singles" = some none)
  (g1n2:PySem.W.findIn K (.ref C1) "outer" = some none)
  (g1n3:PySem.W.findIn K (.ref C1) "sums" = some none)
  (g1n4:PySem.W.findIn K (.ref C1) "mates" = some none)
  (z0:PySem.W.nsIn K mainGlobals "len" = some none)
  (z1:PySem.W.nsIn K mainGlobals "range" = some none)
  (z2:PySem.W.nsIn K mainGlobals "min" = some none)
  (z3:PySem.W.nsIn K mainGlobals "max" = some none)
  (z4:PySem.W.nsIn K mainGlobals "isinstance" = some none)
  (z5:PySem.W.nsIn K mainGlobals "bool" = some none)
  (z6:PySem.W.nsIn K mainGlobals "list" = some none)
  (z7:PySem.W.nsIn K mainGlobals "int" = some none)
  (z8:PySem.W.nsIn K mainGlobals "tuple" = some none)
  (z9:PySem.W.nsIn K mainGlobals "sorted" = some none)
  (z10:PySem.W.nsIn K mainGlobals "sum" = some none)
  (z11:PySem.W.nsIn K mainGlobals "enumerate" = some none)
  (z12:PySem.W.nsIn K mainGlobals "reversed" = some none)
  (v0:PySem.W.nsIn K mainGlobals "EVEN" = some (some (.int 1 tk0)))
  (v1:PySem.W.nsIn K mainGlobals "FREE" = some (some (.int 0 tk1)))
  (v2:PySem.W.nsIn K mainGlobals "ODD" = some (some (.int (-1) tk2)))
  : ∃ (c:Addr) (fd:FuncData),K.lookup lT=none∧PySem.W.codeHdIn K c lT=true∧(∀ (s:Shared) (v:Value),BindsTo s fd ⟨[v],[]⟩ [("_law_script",v)])∧∀ base:Heap,K.In base→base.Ns mainGlobals mg→LamAt base mg c lT→FnOk l.prog w K mg base CX0 50 fa fd ["_law_script"] (spLaw lT K):=by
 have e:=hfa.symm.trans (PySem.W.mg_of X G a30)
 cases e
 have T:BiR mg:=⟨PySem.W.mg_none_of X G z0,PySem.W.mg_none_of X G z1,PySem.W.mg_none_of X G z2,PySem.W.mg_none_of X G z3,PySem.W.mg_none_of X G z4,PySem.W.mg_none_of X G z5,PySem.W.mg_none_of X G z6,PySem.W.mg_none_of X G z7,PySem.W.mg_none_of X G z8,PySem.W.mg_none_of X G z9,PySem.W.mg_none_of X G z10,PySem.W.mg_none_of X G z11,PySem.W.mg_none_of X G z12⟩
 let dBn:Df K mg "body_number" sBn ["ring","place"]:=df_mk X G a0 l0 c0 k0 (fun _ _ _ _ _ _ us hl=>match us,hl with | [_,_],_=>rfl)
 let dJo:Df K mg "joint_on" sJo ["ring","number","way"]:=df_mk X G a1 l1 c1 k1 (fun _ _ _ _ _ _ us hl=>match us,hl with | [_,_,_],_=>rfl)
 let dBt:Df K mg "begin_trees" sBt ["web"]:=df_mk X G a2 l2 c2 k2 (fun _ _ _ _ _ _ us hl=>match us,hl with | [_],_=>rfl)
 let dTl:Df K mg "tightest_link" sTl ["web"]:=df_mk X G a3 l3 c3 k3 (fun _ _ _ _ _ _ us hl=>match us,hl with | [_],_=>rfl)
 let dCh:Df K mg "cheapest_odd_ring" sCh ["web"]:=df_mk X G a4 l4 c4 k4 (fun _ _ _ _ _ _ us hl=>match us,hl with | [_],_=>rfl)
 let dLa:Df K mg "lift_all" sLa ["web","rise"]:=df_mk X G a5 l5 c5 k5 (fun _ _ _ _ _ _ us hl=>match us,hl with | [_,_],_=>rfl)
 let dMo:Df K mg "mark_odd" sMo ["body","came"]:=df_mk X G a6 l6 c6 k6 (fun _ _ _ _ _ _ us hl=>match us,hl with | [_,_],_=>rfl)
 let dGr:Df K mg "grow" sGr ["web","ahead","place"]:=df_mk X G a7 l7 c7 k7 (fun _ _ _ _ _ _ us hl=>match us,hl with | [_,_,_],_=>rfl)
 let dSu:Df K mg "step_up" sSu ["web","body"]:=df_mk X G a8 l8 c8 k8 (fun _ _ _ _ _ _ us hl=>match us,hl with | [_,_],_=>rfl)
 let dLr:Df K mg "links_to_root" sLr ["web","place"]:=df_mk X G a9 l9 c9 k9 (fun _ _ _ _ _ _ us hl=>match us,hl with | [_,_],_=>rfl)
 let dRo:Df K mg "root_of" sRo ["web","place","way"]:=df_mk X G a10 l10 c10 k10 (fun _ _ _ _ _ _ us hl=>match us,hl with | [_,_,_],_=>rfl)
 let dCp:Df K mg "change_pairs" sCp ["web","place"]:=df_mk X G a11 l11 c11 k11 (fun _ _ _ _ _ _ us hl=>match us,hl with | [_,_],_=>rfl)
 let dCr:Df K mg "close_ring" sCr ["web","one","other","link"]:=df_mk X G a12 l12 c12 k12 (fun _ _ _ _ _ _ us hl=>match us,hl with | [_,_,_,_],_=>rfl)
 let dJb:Df K mg "join_bodies" sJb ["web","u","v"]:=df_mk X G a13 l13 c13 k13 (fun _ _ _ _ _ _ us hl=>match us,hl with | [_,_,_],_=>rfl)
 let dUl:Df K mg "use_link" sUl ["web","u","v"]:=df_mk X G a14 l14 c14 k14 (fun _ _ _ _ _ _ us hl=>match us,hl with | [_,_,_],_=>rfl)
 let dOr:Df K mg "open_ring" sOr ["web","ring"]:=df_mk X G a15 l15 c15 k15 (fun _ _ _ _ _ _ us hl=>match us,hl with | [_,_],_=>rfl)
 let dGo:Df K mg "go_on" sGo ["web"]:=df_mk X G a16 l16 c16 k16 (fun _ _ _ _ _ _ us hl=>match us,hl with | [_],_=>rfl)
 let dGn:Df K mg "grown" sGn ["n","worries"]:=df_mk X G a17 l17 c17 k17 (fun _ _ _ _ _ _ us hl=>match us,hl with | [_,_],_=>rfl)
 let dOp:Df K mg "odd_places" sOp ["web"]:=df_mk X G a18 l18 c18 k18 (fun _ _ _ _ _ _ us hl=>match us,hl with | [_],_=>rfl)
 let dGw:Df K mg "grown_without_worries" sGw ["n","links"]:=df_mk X G a19 l19 c19 k19 (fun _ _ _ _ _ _ us hl=>match us,hl with | [_,_],_=>rfl)
 let dLg:Df K mg "largest" sLg ["n","links"]:=df_mk X G a20 l20 c20 k20 (fun _ _ _ _ _ _ us hl=>match us,hl with | [_,_],_=>rfl)
 let dC:Df K mg "_law_cell_at" sCell ["_law_script","_law_k"]:=df_mk X G a21 l21 c21 k21 (fun _ _ _ _ _ _ us hl=>match us,hl with | [_,_],_=>rfl)
 let dH:Df K mg "_law_whole" sWh ["_law_found"]:=df_mk X G a22 l22 c22 k22 (fun _ _ _ _ _ _ us hl=>match us,hl with | [_],_=>rfl)
 let dY:Df K mg "_law_many" sMany ["_law_seed"]:=df_mk X G a23 l23 c23 k23 (fun _ _ _ _ _ _ us hl=>match us,hl with | [_],_=>rfl)
 let dL:Df K mg "_law_linked" sLk ["_law_u","_law_v","_law_n","_law_shape","_law_cell","_law_share"]:=df_mk X G a24 l24 c24 k24 (fun _ _ _ _ _ _ us hl=>match us,hl with | [_,_,_,_,_,_],_=>rfl)
 let dLs:Df K mg "_law_links" sLs ["_law_script","_law_n","_law_shape","_law_share"]:=df_mk X G a25 l25 c25 k25 (fun _ _ _ _ _ _ us hl=>match us,hl with | [_,_,_,_],_=>rfl)
 let dOd:Df K mg "_law_odd" sOd ["_law_n","_law_links_here","_law_out"]:=df_mk X G a26 l26 c26 k26 (fun _ _ _ _ _ _ us hl=>match us,hl with | [_,_,_],_=>rfl)
 let dRi:Df K mg "_law_rising" sRi ["_law_found","_law_n"]:=df_mk X G a27 l27 c27 k27 (fun _ _ _ _ _ _ us hl=>match us,hl with | [_,_],_=>rfl)
 let dPg:Df K mg "_law_pairing" sPg ["_law_found","_law_links_here"]:=df_mk X G a28 l28 c28 k28 (fun _ _ _ _ _ _ us hl=>match us,hl with | [_,_],_=>rfl)
 let dLt:Df K mg "_law_largest" sLt ["_law_n","_law_links_here","_law_found"]:=df_mk X G a29 l29 c29 k29 (fun _ _ _ _ _ _ us hl=>match us,hl with | [_,_,_],_=>rfl)
 let dLaw:Df K mg "law" sLaw ["_law_script"]:=df_mk X G a30 l30 c30 k30 (fun _ _ _ _ _ _ us hl=>match us,hl with | [_],_=>rfl)
 have hB:TxB K mg C0:=⟨⟨g0pg,g0hd,g0po,g0sa⟩,g0n0,g0n1,g0n2,g0n3,g0n4,g0n5,g0n6,PySem.W.mg_of X G g0C,⟨_,_,_,_,_,_,_,_,_,_,_,_,_,_,_,_,_,_,_,g0x1,g0x2,rfl,strKeys_of g0x3,g0x4,g0x5⟩⟩
 let dBi:Di K C0 "Body.__init__" sBi ["self","places","tip","inner","joints"]:=di_mk g0a0 g0i0 g0l0 g0c0 g0k0 g0mk g0kc (fun _ _ _ _ _ _ us hl=>match us,hl with | [_,_,_,_,_],_=>rfl)
 have hW:TxW K mg C1:=⟨⟨g1pg,g1hd,g1po,g1sa⟩,g1n0,g1n1,g1n2,g1n3,g1n4,PySem.W.mg_of X G g1C⟩
 let dWi:Di K C1 "Web.__init__" sWi ["self","n","worries"]:=di_mk g1a0 g1i0 g1l0 g1c0 g1k0 g1mk g1kc (fun _ _ _ _ _ _ us hl=>match us,hl with | [_,_,_],_=>rfl)
 let dOu:Dm K C1 "outermost" "Web.outermost" sOu ["self"]:=dm_mk g1a1 g1i1 g1l1 g1c1 g1k1 (fun _ _ _ _ _ _ us hl=>match us,hl with | [_],_=>rfl)
 let dLi:Dm K C1 "lift" "Web.lift" sLi ["self","body","rise"]:=dm_mk g1a2 g1i2 g1l2 g1c2 g1k2 (fun _ _ _ _ _ _ us hl=>match us,hl with | [_,_,_],_=>rfl)
 let dLe:Dm K C1 "lead_out" "Web.lead_out" sLe ["self","body","place"]:=dm_mk g1a3 g1i3 g1l3 g1c3 g1k3 (fun _ _ _ _ _ _ us hl=>match us,hl with | [_,_,_],_=>rfl)
 let dTi:Dm K C1 "tie" "Web.tie" sTi ["self","one","other"]:=dm_mk g1a4 g1i4 g1l4 g1c4 g1k4 (fun _ _ _ _ _ _ us hl=>match us,hl with | [_,_,_],_=>rfl)
 let dPu:Dm K C1 "put_together" "Web.put_together" sPu ["self","inner","joints","tip"]:=dm_mk g1a5 g1i5 g1l5 g1c5 g1k5 (fun _ _ _ _ _ _ us hl=>match us,hl with | [_,_,_,_],_=>rfl)
 let dTa:Dm K C1 "take_apart" "Web.take_apart" sTa ["self","ring"]:=dm_mk g1a6 g1i6 g1l6 g1c6 g1k6 (fun _ _ _ _ _ _ us hl=>match us,hl with | [_,_],_=>rfl)
 let dPr:Dm K C1 "pairing" "Web.pairing" sPr ["self"]:=dm_mk g1a7 g1i7 g1l7 g1c7 g1k7 (fun _ _ _ _ _ _ us hl=>match us,hl with | [_],_=>rfl)
 have dl:Dl K "cheapest_odd_ring" sCh dCh.f lc dCh.fd:=⟨⟨_,_,_,_,_,_,_,_,rfl,l4⟩,c4⟩
 let Gp:Pg K mg ⟨C1,C0,lT,lamPos,lamQ⟩:=⟨T,hB,hW,_,_,_,PySem.W.mg_of X G v0,PySem.W.mg_of X G v1,PySem.W.mg_of X G v2,dBi,dWi,dOu,dLi,dLe,dTi,dPu,dTa,dPr,dBn,dJo,dBt,dTl,dCh,dLa,dMo,dGr,dSu,dLr,dRo,dCp,dCr,dJb,dUl,dOr,dGo,dGn,dOp⟩
 exact ⟨lc,dLaw.fd,lTn,lcd,fun s v=>.of_eq rfl,fun base _ _ LA=>okLaw dLaw Gp ⟨dl,LA,rfl,rfl⟩ dGw dLg dC dH dY dL dLs dOd dRi dPg dLt⟩
theorem walk {l:PySem.W.OpenLaw}{q:Program}{loose:List Str}{XP:(Str→Option Value)→Heap→Prop}{YP:World→Heap→Prop}{d:DefRec}{K:Params→PySem.W.Frag} (hn:l.most=some 63) (hdf:d.params.defaults = [])
  (hY:∀ (w:World) (h:Heap),YP w h→(K w.params).In h) {T:Addr} (hYT:∀ (w:World) (h:Heap),YP w h→h.get? T=some tab0)
  (F:∀ (w:World) (mg:Str→Option Value) (fa:Addr) (h:Heap),(K w.params).In h→h.Ns mainGlobals mg→mg d.name=some (.ref fa) →
   ∃ (c:Addr) (fd:FuncData),(K w.params).lookup T=none∧PySem.W.codeHdIn (K w.params) c T=true∧(∀ (s:Shared) (u:Value),BindsTo s fd ⟨[u],[]⟩ [("_law_script",u)])∧∀ base:Heap,(K w.params).In base→base.Ns mainGlobals mg→LamAt base mg c T→FnOk l.prog w (K w.params) mg base CX0 50 fa fd ["_law_script"] (spLaw T (K w.params))) :
  PySem.W.WalkO q loose XP YP l.row.toRowW d [] (fun f vs=>PySem.call f vs) :=
 L2.walk_ofT (n:=63) (k:=50) (x:="_law_script") (sp:=fun _ K=>spLaw T K) hn (by decide) hdf ⟨rfl,by decide,by decide⟩ hY hYT F (fun _ _ _ a ns hl hO hS=>⟨a,ns,rfl,hS,hl,⟨#[],hO.1,.inl rfl⟩,fun _=>rfl⟩)
end Rk08_the_largest_pairing
open PySem PySem.W PyProof.Rows
set_option maxRecDepth 100000 in
set_option maxHeartbeats 0 in
theorem PySem.Challenge.cw_rollcall_k08_the_largest_pairing_holds : PySem.Challenge.rw_rollcall_k08_the_largest_pairing.Holds := by
 w_on;o_law;k_head;(case hw=>w_witness2)
 k_fill
 refine Rk08_the_largest_pairing.walk (l:=PySem.Challenge.rw_rollcall_k08_the_largest_pairing) rfl rfl (fun w h Y=>PySem.W.km_in_of Y) (fun w h Y=>PySem.W.km_tabs_of Y _ (List.mem_cons_self ..)) ?F
 case F =>
  intro w mg fa h KX G hmg
  refine' Rk08_the_largest_pairing.all_mk KX G hmg ?a0 ?l0 ?c0 ?k0 ?a1 ?l1 ?c1 ?k1 ?a2 ?l2 ?c2 ?k2 ?a3 ?l3 ?c3 ?k3 ?a4 ?l4 ?c4 ?k4 ?lTn ?lcd ?a5 ?l5 ?c5 ?k5 ?a6 ?l6 ?c6 ?k6 ?a7 ?l7 ?c7 ?k7 ?a8 ?l8 ?c8 ?k8 ?a9 ?l9 ?c9 ?k9 ?a10 ?l10 ?c10 ?k10 ?a11 ?l11 ?c11 ?k11 ?a12 ?l12 ?c12 ?k12 ?a13 ?l13 ?c13 ?k13 ?a14 ?l14 ?c14 ?k14 ?a15 ?l15 ?c15 ?k15 ?a16 ?l16 ?c16 ?k16 ?a17 ?l17 ?c17 ?k17 ?a18 ?l18 ?c18 ?k18 ?a19 ?l19 ?c19 ?k19 ?a20 ?l20 ?c20 ?k20 ?a21 ?l21 ?c21 ?k21 ?a22 ?l22 ?c22 ?k22 ?a23 ?l23 ?c23 ?k23 ?a24 ?l24 ?c24 ?k24 ?a25 ?l25 ?c25 ?k25 ?a26 ?l26 ?c26 ?k26 ?a27 ?l27 ?c27 ?k27 ?a28 ?l28 ?c28 ?k28 ?a29 ?l29 ?c29 ?k29 ?a30 ?l30 ?c30 ?k30 ?g0C ?g0a0 ?g0i0 ?g0l0 ?g0c0 ?g0k0 ?g0pg ?g0hd ?g0po ?g0sa ?g0mk ?g0kc ?g0n0 ?g0n1 ?g0n2 ?g0n3 ?g0n4 ?g0n5 ?g0n6 ?g0x1 ?g0x2 ?g0x3 ?g0x4 ?g0x5 ?g1C ?g1a0 ?g1i0 ?g1l0 ?g1c0 ?g1k0 ?g1a1 ?g1i1 ?g1l1 ?g1c1 ?g1k1 ?g1a2 ?g1i2 ?g1l2 ?g1c2 ?g1k2 ?g1a3 ?g1i3 ?g1l3 ?g1c3 ?g1k3 ?g1a4 ?g1i4 ?g1l4 ?g1c4 ?g1k4 ?g1a5 ?g1i5 ?g1l5 ?g1c5 ?g1k5 ?g1a6 ?g1i6 ?g1l6 ?g1c6 ?g1k6 ?g1a7 ?g1i7 ?g1l7 ?g1c7 ?g1k7 ?g1pg ?g1hd ?g1po ?g1sa ?g1mk ?g1kc ?g1n0 ?g1n1 ?g1n2 ?g1n3 ?g1n4 ?z0 ?z1 ?z2 ?z3 ?z4 ?z5 ?z6 ?z7 ?z8 ?z9 ?z10 ?z11 ?z12 ?v0 ?v1 ?v2
  (case a0=>k_is)
  (case l0=>k_is)
  (case c0=>k_is)
  (case k0=>k_is)
  (case a1=>k_is)
  (case l1=>k_is)
  (case c1=>k_is)
  (case k1=>k_is)
  (case a2=>k_is)
  (case l2=>k_is)
  (case c2=>k_is)
  (case k2=>k_is)
  (case a3=>k_is)
  (case l3=>k_is)
  (case c3=>k_is)
  (case k3=>k_is)
  (case a4=>k_is)
  (case l4=>k_is)
  (case c4=>k_is)
  (case k4=>k_is)
  (case lTn=>kernel_rfl)
  (case lcd=>kernel_rfl)
  (case a5=>k_is)
  (case l5=>k_is)
  (case c5=>k_is)
  (case k5=>k_is)
  (case a6=>k_is)
  (case l6=>k_is)
  (case c6=>k_is)
  (case k6=>k_is)
  (case a7=>k_is)
  (case l7=>k_is)
  (case c7=>k_is)
  (case k7=>k_is)
  (case a8=>k_is)
  (case l8=>k_is)
  (case c8=>k_is)
  (case k8=>k_is)
  (case a9=>k_is)
  (case l9=>k_is)
  (case c9=>k_is)
  (case k9=>k_is)
  (case a10=>k_is)
  (case l10=>k_is)
  (case c10=>k_is)
  (case k10=>k_is)
  (case a11=>k_is)
  (case l11=>k_is)
  (case c11=>k_is)
  (case k11=>k_is)
  (case a12=>k_is)
  (case l12=>k_is)
  (case c12=>k_is)
  (case k12=>k_is)
  (case a13=>k_is)
  (case l13=>k_is)
  (case c13=>k_is)
  (case k13=>k_is)
  (case a14=>k_is)
  (case l14=>k_is)
  (case c14=>k_is)
  (case k14=>k_is)
  (case a15=>k_is)
  (case l15=>k_is)
  (case c15=>k_is)
  (case k15=>k_is)
  (case a16=>k_is)
  (case l16=>k_is)
  (case c16=>k_is)
  (case k16=>k_is)
  (case a17=>k_is)
  (case l17=>k_is)
  (case c17=>k_is)
  (case k17=>k_is)
  (case a18=>k_is)
  (case l18=>k_is)
  (case c18=>k_is)
  (case k18=>k_is)
  (case a19=>k_is)
  (case l19=>k_is)
  (case c19=>k_is)
  (case k19=>k_is)
  (case a20=>k_is)
  (case l20=>k_is)
  (case c20=>k_is)
  (case k20=>k_is)
  (case a21=>k_is)
  (case l21=>k_is)
  (case c21=>k_is)
  (case k21=>k_is)
  (case a22=>k_is)
  (case l22=>k_is)
  (case c22=>k_is)
  (case k22=>k_is)
  (case a23=>k_is)
  (case l23=>k_is)
  (case c23=>k_is)
  (case k23=>k_is)
  (case a24=>k_is)
  (case l24=>k_is)
  (case c24=>k_is)
  (case k24=>k_is)
  (case a25=>k_is)
  (case l25=>k_is)
  (case c25=>k_is)
  (case k25=>k_is)
  (case a26=>k_is)
  (case l26=>k_is)
  (case c26=>k_is)
  (case k26=>k_is)
  (case a27=>k_is)
  (case l27=>k_is)
  (case c27=>k_is)
  (case k27=>k_is)
  (case a28=>k_is)
  (case l28=>k_is)
  (case c28=>k_is)
  (case k28=>k_is)
  (case a29=>k_is)
  (case l29=>k_is)
  (case c29=>k_is)
  (case k29=>k_is)
  (case a30=>k_is)
  (case l30=>k_is)
  (case c30=>k_is)
  (case k30=>k_is)
  (case g0C=>k_is)
  (case g0a0=>k_is)
  (case g0i0=>k_is)
  (case g0l0=>k_is)
  (case g0c0=>k_is)
  (case g0k0=>k_is)
  (case g0pg=>k_is)
  (case g0hd=>k_is)
  (case g0po=>k_is)
  (case g0sa=>k_is)
  (case g0mk=>k_is)
  (case g0kc=>k_is)
  (case g0n0=>k_is)
  (case g0n1=>k_is)
  (case g0n2=>k_is)
  (case g0n3=>k_is)
  (case g0n4=>k_is)
  (case g0n5=>k_is)
  (case g0n6=>k_is)
  (case g0x1=>k_is)
  (case g0x2=>k_is)
  (case g0x3=>kernel_rfl)
  (case g0x4=>kernel_rfl)
  (case g0x5=>kernel_rfl)
  (case g1C=>k_is)
  (case g1a0=>k_is)
  (case g1i0=>k_is)
  (case g1l0=>k_is)
  (case g1c0=>k_is)
  (case g1k0=>k_is)
  (case g1a1=>k_is)
  (case g1i1=>k_is)
  (case g1l1=>k_is)
  (case g1c1=>k_is)
  (case g1k1=>k_is)
  (case g1a2=>k_is)
  (case g1i2=>k_is)
  (case g1l2=>k_is)
  (case g1c2=>k_is)
  (case g1k2=>k_is)
  (case g1a3=>k_is)
  (case g1i3=>k_is)
  (case g1l3=>k_is)
  (case g1c3=>k_is)
  (case g1k3=>k_is)
  (case g1a4=>k_is)
  (case g1i4=>k_is)
  (case g1l4=>k_is)
  (case g1c4=>k_is)
  (case g1k4=>k_is)
  (case g1a5=>k_is)
  (case g1i5=>k_is)
  (case g1l5=>k_is)
  (case g1c5=>k_is)
  (case g1k5=>k_is)
  (case g1a6=>k_is)
  (case g1i6=>k_is)
  (case g1l6=>k_is)
  (case g1c6=>k_is)
  (case g1k6=>k_is)
  (case g1a7=>k_is)
  (case g1i7=>k_is)
  (case g1l7=>k_is)
  (case g1c7=>k_is)
  (case g1k7=>k_is)
  (case g1pg=>k_is)
  (case g1hd=>k_is)
  (case g1po=>k_is)
  (case g1sa=>k_is)
  (case g1mk=>k_is)
  (case g1kc=>k_is)
  (case g1n0=>k_is)
  (case g1n1=>k_is)
  (case g1n2=>k_is)
  (case g1n3=>k_is)
  (case g1n4=>k_is)
  (case z0=>k_is)
  (case z1=>k_is)
  (case z2=>k_is)
  (case z3=>k_is)
  (case z4=>k_is)
  (case z5=>k_is)
  (case z6=>k_is)
  (case z7=>k_is)
  (case z8=>k_is)
  (case z9=>k_is)
  (case z10=>k_is)
  (case z11=>k_is)
  (case z12=>k_is)
  (case v0=>k_is)
  (case v1=>k_is)
  (case v2=>k_is)
#print axioms PySem.Challenge.cw_rollcall_k08_the_largest_pairing_holds
