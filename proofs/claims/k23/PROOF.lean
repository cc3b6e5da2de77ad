import PyProof.Rows.All
import Wide.All
import OpenK.AllK
import Wide.FinOn
import Lean
import PyProof.EqAt
import PyProof.EqKinds
import PyProof.TupleCall
import KE.KSortTup
import PyProof.NeKinds
import PyProof.DictRoadsH
import KE.KIntText
import KE.KRevIter
import PyProof.Rows.Range3
import PyProof.ZipIter
import KE.LcSums
import KE.KListMore
import PyProof.Rows.IntBool
import PySem.Challenge.RW_smallword_k23_steps_by_their_form
set_option Elab.async false
set_option linter.all false
set_option maxRecDepth 100000
set_option maxHeartbeats 8000000
namespace L2
open PySem PySem.Spec PyProof.Rows
abbrev Key:=Sum Int Str
noncomputable def io:Key→Value→Bool
 | .inl k,v=>Value.isInt k v
 | .inr x,v=>Value.isStrOf x v
noncomputable def keyH (w:World):Key→Int
 | .inl k=>hashInt k
 | .inr x=>hashStr w x
theorem aO:∀ {k:Key} {v:Value},io k v=true→(∃i t,k=Sum.inl i∧v=Value.int i t)∨(∃x t,k=Sum.inr x∧v=Value.str x t)
 | .inl i,v,h=>by
  obtain ⟨t,e⟩:=Value.isInt_shape (k:=i) (v:=v) h
  exact .inl ⟨i,t,rfl,e⟩
 | .inr x,v,h=>by
  obtain ⟨t,e⟩:=Value.isStrOf_shape (x:=x) (v:=v) h
  exact .inr ⟨x,t,rfl,e⟩
theorem jI (i:Int) (t:Tok):io (.inl i) (.int i t)=true:=by simp [io,Value.isInt]
theorem jH (x:Str) (t:Tok):io (.inr x) (.str x t)=true:=by simp [io,Value.isStrOf]
theorem wo (a b:Int):decide ((Sum.inl a:Key)=Sum.inl b)=(a==b):=by
 by_cases e:a=b
 · subst e;simp
 · have h:¬(Sum.inl a:Key)=Sum.inl b:=fun q=>e (Sum.inl.inj q)
   rw [decide_eq_false h]
   exact (beq_eq_false_iff_ne.mpr e).symm
theorem wk (a b:Str):decide ((Sum.inr a:Key)=Sum.inr b)=decide (a=b):=by
 by_cases e:a=b
 · subst e;simp
 · have h:¬(Sum.inr a:Key)=Sum.inr b:=fun q=>e (Sum.inr.inj q)
   rw [decide_eq_false h,decide_eq_false e]
theorem wn (a:Int) (b:Str):decide ((Sum.inl a:Key)=Sum.inr b)=false:=decide_eq_false (fun q=>nomatch q)
theorem wm (a:Str) (b:Int):decide ((Sum.inr a:Key)=Sum.inl b)=false:=decide_eq_false (fun q=>nomatch q)
noncomputable def bq (prog:Program) (w:World):PySem.KeyKind prog w Key where
 is:=io
 hash:=keyH w
 inj:=fun v a b ha hb=>by
  rcases aO ha with ⟨i,t,rfl,rfl⟩|⟨x,t,rfl,rfl⟩
  · rcases aO hb with ⟨j,u,rfl,e⟩|⟨y,u,rfl,e⟩
    · injection e with e1 _;rw [e1]
    · exact nomatch e
  · rcases aO hb with ⟨j,u,rfl,e⟩|⟨y,u,rfl,e⟩
    · exact nomatch e
    · injection e with e1 _;rw [e1]
 byValue:=fun k v h=>by
  rcases aO h with ⟨i,t,rfl,rfl⟩|⟨x,t,rfl,rfl⟩<;>rfl
 pyHash:=fun hv h=>by
  rcases aO hv with ⟨i,t,rfl,rfl⟩|⟨x,t,rfl,rfl⟩
  · exact wpAny_pyHash_int h
  · exact wpAny_pyHash_str h
 eqBool:=fun hu hv h=>by
  rcases aO hu with ⟨i,t,rfl,rfl⟩|⟨x,t,rfl,rfl⟩
  · rcases aO hv with ⟨j,u,rfl,rfl⟩|⟨y,u,rfl,rfl⟩
    · rw [wo] at h;exact wpAny_eqBool_int h
    · rw [wn] at h;exact SeqAt.EqAt.int_str i t y u _ _ _ _ h
  · rcases aO hv with ⟨j,u,rfl,rfl⟩|⟨y,u,rfl,rfl⟩
    · rw [wm] at h;exact SeqAt.EqAt.str_int x t j u _ _ _ _ h
    · rw [wk] at h;exact wpAny_eqBool_str h
 «strs»:=fun k x t v h=>by
  rcases aO h with ⟨i,u,rfl,e⟩|⟨y,u,rfl,e⟩
  · exact nomatch e
  · injection e with e1 _
    subst e1
    cases v<;>rfl
theorem lR (prog:Program) (w:World) (i:Int) (t:Tok):(bq prog w).is (.inl i) (.int i t)=true:=jI i t
theorem lQ (prog:Program) (w:World) (x:Str) (t:Tok):(bq prog w).is (.inr x) (.str x t)=true:=jH x t
open PySem PySem.Spec PyProof.Rows
inductive V where
 |non|bl (b:Bool)|int (i:Int)|str (x:Str)|byt (b:Array UInt8)|flt (b:UInt64)|ref (a:Addr)|ty (n:String)
 deriving DecidableEq
def RelV:V→Value→Prop
 | .non,u=>u=Value.none
 | .bl b,u=>u=Value.bool b
 | .int i,u=>∃t,u=Value.int i t
 | .str x,u=>∃t,u=Value.str x t
 | .byt b,u=>∃t,u=Value.bytes b t
 | .flt b,u=>∃t,u=Value.float b t
 | .ref a,u=>u=Value.ref a
 | .ty n,u=>u=Value.type n
abbrev Vals:List V→List Value→Prop:=Paired RelV
theorem Vals.length {xs:List V} {us:List Value} (r:Vals xs us):xs.length=us.length:=Paired.length r
theorem Vals.get:∀ {xs:List V} {us:List Value} {i:Nat} {x:V},Vals xs us→xs[i]?=some x→∃u,us[i]?=some u∧RelV x u
 |_,_,_,_, .nil,e=>by simp at e
 |_,_,0,_, .cons r _,e=>by simp at e;subst e;exact ⟨_,rfl,r⟩
 |_,_,i+1,x, .cons _ t,e=>by
  obtain ⟨u,h1,h2⟩:=Vals.get (i:=i) (x:=x) t (by simpa using e)
  exact ⟨u,by simpa using h1,h2⟩
theorem Vals.set {x:V} {u:Value} (r:RelV x u):∀ {xs:List V} {us:List Value} (i:Nat),Vals xs us→Vals (xs.set i x) (us.set i u)
 |_,_,_, .nil=> .nil
 |_,_,0, .cons _ t=> .cons r t
 |_,_,i+1, .cons q t=> .cons q (Vals.set r i t)
theorem Vals.append:∀ {xs ys:List V} {us ws:List Value},Vals xs us→Vals ys ws→Vals (xs++ys) (us++ws)
 |_,_,_,_, .nil,s=>s
 |_,_,_,_, .cons r t,s=> .cons r (Vals.append t s)
theorem Vals.take:∀ {xs:List V} {us:List Value} (n:Nat),Vals xs us→Vals (xs.take n) (us.take n)
 |_,_,0,_=> .nil
 |_,_,_+1, .nil=> .nil
 |_,_,n+1, .cons r t=> .cons r (Vals.take n t)
theorem Vals.drop:∀ {xs:List V} {us:List Value} (n:Nat),Vals xs us→Vals (xs.drop n) (us.drop n)
 |_,_,0,r=>r
 |_,_,_+1, .nil=> .nil
 |_,_,n+1, .cons _ t=>Vals.drop n t
def RelO:Option V→Option Value→Prop
 |some v,some u=>RelV v u
 |none,none=>True
 |_,_=>False
def KV {κ:Type}:List (κ×V)→List (κ×Value)→Prop:=Paired fun (p:κ×V) (q:κ×Value)=>p.1=q.1∧RelV p.2 q.2
def kV:Key→V
 | .inl i=> .int i
 | .inr x=> .str x
inductive HO where
 |lst (xs:List V)
 |tup (xs:List V)
 |dK (kvs:List (Key×V))|dT (kvs:List (List Key×V))
 |set (S:Int→Bool) (n:Nat)
 |ins (C dx:Addr) (fs:List (Str×V))
 |own (x:Addr)
 |xd (fs:List (Str×V))
 |met (f x:Addr)
 |rng (lo hi:Int)
 |frz (o:Obj) (u:HO)
 |tbl (ps:Array Value)
 |ext (φ:Heap→Prop)
abbrev Hp:=Addr→Option HO
noncomputable def upd (H:Hp) (a:Addr) (o:HO):Hp:=fun b=>if b=a then some o else H b
theorem ac {H:Hp} {a:Addr} {o:HO}:upd H a o a=some o:=by unfold upd;rw [if_pos rfl]
theorem aB {H:Hp} {a b:Addr} {o:HO} (h:b≠a):upd H a o b=H b:=by unfold upd;rw [if_neg h]
theorem aN {H:Hp} {a b:Addr} {o:HO} (h:H a=some o) (h':H b=none):a≠b:=by
 intro e;subst e;rw [h] at h';cases h'
section
variable (P:Program) (w:World)
def ObjOk (H:Hp) (h:Heap) (a:Addr):HO→Prop
 | .lst xs=>xs.length≤sizeLine∧∃(its:List Value) (n:Nat),Vals xs its∧h.get? a=some {cls:= .type "list",data:= .seq its.toArray n}
 | .tup xs=>xs.length≤sizeLine∧∃its:List Value,Vals xs its∧IsTup h a its.toArray
 | .dK kvs=>kvs.length≤sizeLine∧(a==sysModules)=false∧∃vs,KV kvs vs∧h.DictOf (bq P w) a vs
 | .dT kvs=>kvs.length≤sizeLine∧(a==sysModules)=false∧∃xs:List (List Key×Addr×Value),
  Paired (fun (p:List Key×V) (q:List Key×Addr×Value)=>p.1=q.1∧H q.2.1=some (.tup (p.1.map kV))∧RelV p.2 q.2.2) kvs xs∧
  ∃o es ep,h.get? a=some o∧o.ExactDict∧o.data= .dict es ep∧es.toList=xs.map (entryOfKey (tupleKind (bq P w)))∧(xs.map (·.1)).Nodup
 | .set S n=>h.SetOf (intKind P w) a S n
 | .ins C dx fs=>H dx=some (.own a)∧fs.length≤1000∧dx≠a∧h.get? a=some (PySem.W.instObj C dx)∧
  ∃mA,h.Ns1 dx mA∧(∀f,RelO (fs.lookup f) (mA f))∧PySem.Within mA (fs.map (·.1))
 | .own _=>∃o,h.get? a=some o
 | .xd fs=>∃mA,h.Ns1 a mA∧∀f,RelO (fs.lookup f) (mA f)
 | .rng lo hi=>∃t u v,h.get? a=some {cls:= .type "range",data:= .fields #[.int lo t, .int hi u, .int 1 v]}
 | .frz o u=>h.get? a=some o∧ObjOk H h a u
 | .tbl ps=>h.get? a=some {cls:= .none,data:= .fields ps}
 | .met f x=>h.get? a=some (PySem.W.methodObj (.ref f) (.ref x))
 | .ext φ=>φ h∧(∃o,h.get? a=some o)∧∀h1 h2:Heap,φ h1→(∀o,h1.get? a=some o→h2.get? a=some o)→φ h2
def HOk (H:Hp) (h:Heap):Prop:=∀a o,H a=some o→ObjOk P w H h a o
end
section
variable {P:Program} {w:World} {H H':Hp} {h h':Heap} {a:Addr} {o:HO}
theorem ObjOk.lt (x:ObjOk P w H h a o):a < h.objs.size:=by
 cases o with
 |lst xs=>obtain ⟨_,_,_,_,e⟩:=x;exact Heap.lt_size e
 |tup xs=>obtain ⟨_,_,_,p⟩:=x;exact p.lt
 |dK kvs=>obtain ⟨_,_,_,_,o,_,_,e,_⟩:=x;exact Heap.lt_size e
 |dT kvs=>obtain ⟨_,_,_,_,o,_,_,e,_⟩:=x;exact Heap.lt_size e
 |set S n=>obtain ⟨o,_,_,_,e,_⟩:=x;exact Heap.lt_size e
 |ins C dx fs=>obtain ⟨_,_,_,e,_⟩:=x;exact Heap.lt_size e
 |own y=>obtain ⟨_,e⟩:=x;exact Heap.lt_size e
 |xd fs=>obtain ⟨_,⟨_,_,_,e,_⟩,_⟩:=x;exact Heap.lt_size e
 |rng lo hi=>obtain ⟨_,_,_,e⟩:=x;exact Heap.lt_size e
 |frz ob u=>obtain ⟨e,_⟩:=x;exact Heap.lt_size e
 |tbl ps=>exact Heap.lt_size (show h.get? a=some _ from x)
 |met f y=>exact Heap.lt_size (show h.get? a=some _ from x)
 |ext φ=>obtain ⟨_,⟨_,e⟩,_⟩:=x;exact Heap.lt_size e
theorem Paired.mapP {α β:Type} {F G:α→β→Prop}:∀ {l₁:List α} {l₂:List β},Paired F l₁ l₂→(∀a b,F a b→G a b)→Paired G l₁ l₂
 |_,_, .nil,_=> .nil
 |_,_, .cons r t,f=> .cons (f _ _ r) (Paired.mapP t f)
theorem ObjOk.stay (x:ObjOk P w H h a o) (k:∀b u,(b=a∨H b=some (.own a))→h.get? b=some u→h'.get? b=some u)
 (ho:∀b,H b=some (.own a)→H' b=some (.own a)) (ht:∀b xs,H b=some (.tup xs)→H' b=some (.tup xs)):ObjOk P w H' h' a o:=by
 induction o with
 |lst xs=>obtain ⟨z,its,n,r,e⟩:=x;exact ⟨z,its,n,r,k _ _ (.inl rfl) e⟩
 |tup xs=>obtain ⟨z,its,r,ob,e,c⟩:=x;exact ⟨z,its,r,ob,k _ _ (.inl rfl) e,c⟩
 |dK kvs=>obtain ⟨z,y,vs,r,ob,es,ep,e,c⟩:=x;exact ⟨z,y,vs,r,ob,es,ep,k _ _ (.inl rfl) e,c⟩
 |dT kvs=>
  obtain ⟨z,y,xs,r,ob,es,ep,e,c⟩:=x
  exact ⟨z,y,xs,Paired.mapP r fun p q z=>⟨z.1,ht _ _ z.2.1,z.2.2⟩,ob,es,ep,k _ _ (.inl rfl) e,c⟩
 |set S n=>obtain ⟨ob,es,ep,t,e,c⟩:=x;exact ⟨ob,es,ep,t,k _ _ (.inl rfl) e,c⟩
 |ins C dx fs=>
  obtain ⟨d,z,ne,e,mA,⟨od,es,ep,e2,c⟩,r⟩:=x
  exact ⟨ho _ d,z,ne,k _ _ (.inl rfl) e,mA,⟨od,es,ep,k _ _ (.inr d) e2,c⟩,r⟩
 |own y=>obtain ⟨ob,e⟩:=x;exact ⟨ob,k _ _ (.inl rfl) e⟩
 |xd fs=>obtain ⟨mA,⟨od,es,ep,e,c⟩,r⟩:=x;exact ⟨mA,⟨od,es,ep,k _ _ (.inl rfl) e,c⟩,r⟩
 |rng lo hi=>obtain ⟨t,u,v,e⟩:=x;exact ⟨t,u,v,k _ _ (.inl rfl) e⟩
 |frz ob u ih=>obtain ⟨e,q⟩:=x;exact ⟨k _ _ (.inl rfl) e,ih q⟩
 |tbl ps=>
  have e:h.get? a=some {cls:= .none,data:= .fields ps}:=x
  show h'.get? a=some {cls:= .none,data:= .fields ps}
  exact k a _ (.inl rfl) e
 |met f y=>
  have e:h.get? a=some (PySem.W.methodObj (.ref f) (.ref y)):=x
  show h'.get? a=some (PySem.W.methodObj (.ref f) (.ref y))
  exact k a _ (.inl rfl) e
 |ext φ=>obtain ⟨p,⟨o,e⟩,st⟩:=x;exact ⟨st _ _ p fun o q=>k _ _ (.inl rfl) q,⟨o,k _ _ (.inl rfl) e⟩,st⟩
theorem HOk.lt (x:HOk P w H h) (e:H a=some o):a < h.objs.size:=(x a o e).lt
theorem HOk.fresh (x:HOk P w H h) (e:h.objs.size≤a):H a=none:=by
 cases q:H a with
 |none=>rfl
 |some u=>exact absurd (Nat.lt_of_lt_of_le (x.lt q) e) (Nat.lt_irrefl _)
theorem HOk.kept (x:HOk P w H h) (k:∀b u,h.get? b=some u→h'.get? b=some u):HOk P w H h':=fun a o e=>
 (x a o e).stay (fun b u _ q=>k b u q) (fun _ q=>q) fun _ _ q=>q
theorem HOk.laid (x:HOk P w H h) (k:∀b u,h.get? b=some u→h'.get? b=some u) (hp:h.objs.size≤a) (new:ObjOk P w (upd H a o) h' a o):HOk P w (upd H a o) h':=fun b u e=>by
 have hn:=x.fresh hp
 by_cases hb:b=a
 · subst hb;rw [ac] at e;cases e;exact new
 · rw [aB hb] at e
   exact (x b u e).stay (fun c v _ q=>k c v q) (fun c q=>by rw [aB (aN q hn)];exact q) fun c xs q=>by rw [aB (aN q hn)];exact q
end
def Rd (H:Hp) (a:Addr) (u:HO):Prop:=H a=some u∨∃o,H a=some (.frz o u)
theorem Rd.of {H:Hp} {a:Addr} {u:HO} (h:H a=some u):Rd H a u:= .inl h
theorem Rd.ok {P:Program} {w:World} {H:Hp} {h:Heap} {a:Addr} {u:HO} (r:Rd H a u) (x:HOk P w H h):ObjOk P w H h a u:=by
 rcases r with r|⟨o,r⟩
 · exact x a u r
 · obtain ⟨_,q⟩:=x a _ r
   exact q
def Mut:Option HO→Prop
 |some (.lst _)=>True
 |some (.dK _)=>True
 |some (.dT _)=>True
 |some (.set _ _)=>True
 |some (.ins _ _ _)=>True
 |some (.ext _)=>True
 |_=>False
section
variable {P:Program} {w:World} {H:Hp} {h h':Heap} {x e:Addr} {o':HO}
theorem HOk.write (ok:HOk P w H h) (mu:Mut (H x)) (he:e=x∨H e=some (.own x)) (k:∀b u,b≠e→h.get? b=some u→h'.get? b=some u) (heo:∃u,h'.get? e=some u)
 (new:ObjOk P w (upd H x o') h' x o'):HOk P w (upd H x o') h':=fun b u q=>by
 have nown:∀c y,H c=some (.own y)→c≠x:=fun c y r z=>by subst z;rw [r] at mu;exact mu
 have ntup:∀c xs,H c=some (.tup xs)→c≠x:=fun c xs r z=>by subst z;rw [r] at mu;exact mu
 by_cases hb:b=x
 · subst hb;rw [ac] at q;cases q;exact new
 · rw [aB hb] at q
   by_cases hbe:b=e
   · have q':H b=some (.own x):=by
      rcases he with z|z
      · exact absurd (hbe.trans z) hb
      · rw [hbe];exact z
     rw [q] at q';cases q'
     obtain ⟨v,hv⟩:=heo
     exact ⟨v,by rw [hbe];exact hv⟩
   · refine (ok b u q).stay (fun c v hc r=>k c v ?_ r) (fun c r=>by rw [aB (nown c b r)];exact r) fun c xs r=>by rw [aB (ntup c xs r)];exact r
     rcases hc with rfl|hc
     · exact hbe
     · rintro rfl
       rcases he with z|z
       · exact nown c b hc z
       · rw [hc] at z;cases z;exact hb rfl
end
structure Un (fs ex:List Addr) (H H':Hp) (h h':Heap):Prop where
 keep:∀b o,h.get? b=some o→H b=none→b∉fs→b∉ex→h'.get? b=some o
 slot:∀b o,h.get? b=some o→H b=none→b∈fs→b∉ex→∃sl,h'.get? b=some {o with slots:=sl}
 free:∀b o,h.get? b=some o→H b=none→b∉ex→H' b=none
 there:∀b o,h.get? b=some o→b∉ex→∃o',h'.get? b=some o'
 tups:∀b xs,H b=some (.tup xs)→H' b=some (.tup xs)
 frzs:∀b o u,H b=some (.frz o u)→H' b=some (.frz o u)
 tbls:∀b ps,H b=some (.tbl ps)→∃more,H' b=some (.tbl (ps++more))
section
variable {fs fs' ex ex':List Addr} {H H1 H2:Hp} {h h1 h2 h':Heap} {a x e:Addr} {o:HO}
theorem Un.any (u:Un fs ex H H1 h h1) {b:Addr} {ob:Obj} (q:h.get? b=some ob) (n:H b=none) (hx:b∉ex):∃sl,h1.get? b=some {ob with slots:=sl}:=by
 by_cases hb:b∈fs
 · exact u.slot b ob q n hb hx
 · exact ⟨ob.slots,u.keep b ob q n hb hx⟩
theorem Un.trans (a:Un fs ex H H1 h h1) (b:Un fs ex H1 H2 h1 h2):Un fs ex H H2 h h2 where
 keep:=fun c ob q n hc hx=>b.keep c ob (a.keep c ob q n hc hx) (a.free c ob q n hx) hc hx
 slot:=fun c ob q n hc hx=>by
  obtain ⟨sl,e1⟩:=a.slot c ob q n hc hx
  obtain ⟨sl',e2⟩:=b.slot c _ e1 (a.free c ob q n hx) hc hx
  exact ⟨sl',e2⟩
 free:=fun c ob q n hx=>by
  obtain ⟨o',e1⟩:=a.there c ob q hx
  exact b.free c o' e1 (a.free c ob q n hx) hx
 there:=fun c ob q hx=>by
  obtain ⟨o',e1⟩:=a.there c ob q hx
  exact b.there c o' e1 hx
 tups:=fun c xs q=>b.tups c xs (a.tups c xs q)
 frzs:=fun c ob xs q=>b.frzs c ob xs (a.frzs c ob xs q)
 tbls:=fun c ps q=>by
  obtain ⟨m1,e1⟩:=a.tbls c ps q
  obtain ⟨m2,e2⟩:=b.tbls c _ e1
  exact ⟨m1++m2,by rw [e2,Array.append_assoc]⟩
theorem Un.kept (k:∀b u,h.get? b=some u→h'.get? b=some u):Un fs ex H H h h':=
 ⟨fun b ob q _ _ _=>k b ob q,fun b ob q _ _ _=>⟨ob.slots,k b ob q⟩,fun _ _ _ n _=>n,fun b ob q _=>⟨ob,k b ob q⟩,fun _ _ q=>q,fun _ _ _ q=>q,fun _ ps q=>⟨#[],by rw [q];simp⟩⟩
theorem Un.refl:Un fs ex H H h h:=Un.kept fun _ _ q=>q
theorem Un.laid (k:∀b u,h.get? b=some u→h'.get? b=some u) (hp:h.objs.size≤a) (hn:H a=none):Un fs ex H (upd H a o) h h' where
 keep:=fun b u q _ _ _=>k b u q
 slot:=fun b u q _ _ _=>⟨u.slots,k b u q⟩
 free:=fun b u q n _=>by rw [aB (Nat.ne_of_lt (Nat.lt_of_lt_of_le (Heap.lt_size q) hp))];exact n
 there:=fun b u q _=>⟨u,k b u q⟩
 tups:=fun b xs q=>by rw [aB (aN q hn)];exact q
 frzs:=fun b u xs q=>by rw [aB (aN q hn)];exact q
 tbls:=fun b ps q=>⟨#[],by rw [aB (aN q hn),q];simp⟩
theorem Un.write (mu:Mut (H x)) (he:e=x∨H e=some (.own x)) (k:∀b u,b≠e→h.get? b=some u→h'.get? b=some u) (heo:∃u,h'.get? e=some u):Un fs ex H (upd H x o) h h':=by
 have hx:∀b,H b=none→b≠x:=fun b n z=>by subst z;rw [n] at mu;exact mu
 have hb:∀b,H b=none→b≠e:=fun b n z=>by
  subst z
  rcases he with r|r
  · exact hx b n r
  · rw [n] at r;cases r
 have hm:∀b u,H b=some u→¬Mut (some u)→b≠x:=fun b u q nm z=>by subst z;rw [q] at mu;exact nm mu
 refine ⟨fun b u q n _ _=>k b u (hb b n) q,fun b u q n _ _=>⟨u.slots,k b u (hb b n) q⟩,fun b u q n _=>by rw [aB (hx b n)];exact n,fun b u q _=> ?_,
  fun b xs q=>by rw [aB (hm b _ q fun z=>z)];exact q,fun b u xs q=>by rw [aB (hm b _ q fun z=>z)];exact q,fun b ps q=>⟨#[],by rw [aB (hm b _ q fun z=>z),q];simp⟩⟩
 by_cases hbe:b=e
 · subst hbe;exact heo
 · exact ⟨u,k b u hbe q⟩
theorem Un.mono (u:Un fs ex H H1 h h1) (hs:∀b∈fs,b∈fs') (hx:∀b∈ex,b∈ex'):Un fs' ex' H H1 h h1:=
 ⟨fun b ob q n hb he=>u.keep b ob q n (fun z=>hb (hs b z)) fun z=>he (hx b z),fun _ _ q n _ he=>u.any q n fun z=>he (hx _ z),fun b ob q n he=>u.free b ob q n fun z=>he (hx b z),fun b ob q he=>u.there b ob q fun z=>he (hx b z),u.tups,u.frzs,u.tbls⟩
end
noncomputable def trk (h:Heap) (H:Hp):List Addr:=(List.range h.objs.size).filter fun a=>(H a).isSome
noncomputable def hidT (h:Heap) (H:Hp):Heap:=PySem.W.hideAll h (trk h H)
theorem pQ (h:Heap) (H:Hp):(hidT h H).objs.size=h.objs.size:=PySem.W.hideAll_size _ _
theorem sI {h:Heap} {H:Hp} {b:Addr} {o:Obj} (e:h.get? b=some o) (n:H b=none):(hidT h H).get? b=some o:=
 PySem.W.hideAll_get _ e fun hm=>by
  have q:(H b).isSome=true:=(List.mem_filter.mp hm).2
  rw [n] at q;simp at q
theorem uy {h:Heap} {H:Hp} {b:Addr} {o:Obj} (e:(hidT h H).get? b=some o):h.get? b=some o∧H b=none:=by
 have e':h.get? b=some o:=PySem.W.of_hideAll (trk h H) e
 refine ⟨e',?_⟩
 cases q:H b with
 |none=>rfl
 |some x=>
  have hm:b∈trk h H:=List.mem_filter.mpr ⟨List.mem_range.mpr (Heap.lt_size e'),by simp [q]⟩
  have z:(hidT h H).get? b=none:=PySem.W.hideAll_none (trk h H) hm
  rw [z] at e;cases e
noncomputable def uU (g h:Heap) (L:Addr):List (Addr×Obj):=(List.range h.objs.size).filterMap fun a=>if a=L∨(g.get? a).isSome=true then none else (h.get? a).map fun o=>(a,o)
noncomputable def rest (g h:Heap) (L d:Addr):List (Addr×Obj):=(uU g h L).filter fun p=>decide (p.1≠d)
open PySem PySem.Spec PyProof.Rows
structure Mod (K:PySem.W.Frag) (mg:Str→Option Value) (base:Heap):Prop where
 kin:K.In base
 glob:base.Ns mainGlobals mg
 blt:∃mb,base.Ns builtinsNs mb∧∀x:Str,x≠"__name__"→mb x=bootBuiltins x
 nolimit:base.NoLimit
structure Cx where
 prog:Program
 w:World
 K:PySem.W.Frag
 mg:Str→Option Value
 base:Heap
 A:Around
 N:List Str
 s₀:Shared
 H₀:Hp
 env:Env
 outer:List Env
 stack:List Env
 ex:List Addr
 fn:Str→Bool
 calm:Bool
 pn:List (Addr×Obj)
 xe:Value→Shared→Prop
def frs (l:List Env):List Addr:=l.filterMap (·.frame)
abbrev Cx.fs (X:Cx):List Addr:=frs X.outer
def Vis (sc:Scope) (x:Str):Prop:=sc.names.lookup x=some .local∨sc.names.lookup x=some .cell∨sc.names.lookup x=some .free
def Loc (sc:Scope) (x:Str):Prop:=sc.names.lookup x=some .local∨sc.names.lookup x=some .cell
def Look (env:Env) (h:Heap) (m:Str→Option Value) (x:Str) (u:Value):Prop:=
 (env.kindOf x=some .local∧m x=some u)∨((env.kindOf x=some .cell∨env.kindOf x=some .free)∧∃c,env.cells.lookup x=some c∧h.IsCell c (some u))
structure Cx.Ok (X:Cx):Prop where
 mod:Mod X.K X.mg X.base
 kind:X.env.scope.kind= .function
 glob:X.env.globals=mainGlobals
 blt:X.env.builtins=builtinsNs
 above:X.s₀.heap.objs.size≤X.env.locals
 inj:∀x y c,X.env.cells.lookup x=some c→X.env.cells.lookup y=some c→x=y
 has:∀x,(X.env.kindOf x=some .cell∨X.env.kindOf x=some .free)→∃c,X.env.cells.lookup x=some c
 cab:∀x c,X.fn x=true→X.env.cells.lookup x=some c→X.s₀.heap.objs.size≤c
 hd:X.calm=true→X.A.handled=none
 frames:X.A.frames=some X.stack
 stk:X.stack=X.outer∨(X.stack=X.env::X.outer∧X.env.frame=some X.env.locals)
 exf:∀b∈X.ex,b≠X.env.locals∧∀x c,X.env.cells.lookup x=some c→c≠b
 bs:∀b o,X.base.get? b=some o→X.s₀.heap.get? b=some o∧X.H₀ b=none
 bsz:X.base.objs.size≤X.s₀.heap.objs.size
 noex:∀b o,X.base.get? b=some o→b∉X.ex
 exfs:∀b∈X.ex,b∉X.fs
 funs:X.s₀.heap.FunFrames X.base X.outer
 frf:∀b∈X.fs,X.H₀ b=none
structure Inv (X:Cx) (pins:List (Addr×Obj)) (σ:List (Option V)) (H:Hp) (s:Shared):Prop where
 ok:X.Ok
 os:s.os=X.s₀.os
 bare:AllBare s.gens
 base:Un X.fs X.ex X.H₀ H X.s₀.heap s.heap
 loc:∃m,s.heap.Ns X.env.locals m∧∀(i:Nat) (x:Str) (v:V),X.N[i]?=some x→σ[i]?=some (some v)→Vis X.env.scope x→∃u,RelV v u∧Look X.env s.heap m x u
 cell:∀x c,X.env.cells.lookup x=some c→∃v,s.heap.IsCell c v
 free:H X.env.locals=none
 freeC:∀x c,X.env.cells.lookup x=some c→H c=none
 pin:∀p∈X.pn++pins,s.heap.get? p.1=some p.2∧H p.1=none∧p.1≠X.env.locals∧p.1∉X.fs∧∀v,p.2.data≠ .cell v
 hok:HOk X.prog X.w H s.heap
 len:σ.length=X.N.length
section
variable {X:Cx} {pins:List (Addr×Obj)} {σ:List (Option V)} {H H':Hp} {s:Shared} {h':Heap}
theorem Cx.Ok.nofr (ok:X.Ok) {b:Addr} {o:Obj} (e:X.base.get? b=some o):b∉X.fs:=fun hb=>by
 have:=(ok.funs.mem hb).1
 rw [e] at this;cases this
theorem Inv.bs (I:Inv X pins σ H s):∀b o,X.base.get? b=some o→s.heap.get? b=some o∧H b=none:=fun b o e=>
 ⟨I.base.keep b o (I.ok.bs b o e).1 (I.ok.bs b o e).2 (I.ok.nofr e) (I.ok.noex b o e),I.base.free b o (I.ok.bs b o e).1 (I.ok.bs b o e).2 (I.ok.noex b o e)⟩
theorem Inv.bk (I:Inv X pins σ H s):∀b o,X.base.get? b=some o→s.heap.get? b=some o:=fun b o e=>(I.bs b o e).1
theorem Inv.mod (I:Inv X pins σ H s):Mod X.K X.mg X.base:=I.ok.mod
theorem Inv.kIn (I:Inv X pins σ H s):X.K.In s.heap:=I.ok.mod.kin.keeps I.bk
theorem Inv.nolimit (I:Inv X pins σ H s):s.heap.NoLimit:=I.ok.mod.nolimit.keeps I.bk
theorem Inv.fr (I:Inv X pins σ H s):∃m,Fr X.base X.env.locals s.heap m:=
 let ⟨m,hn,_⟩:=I.loc
 ⟨m,hn,I.bk,Nat.le_trans I.ok.bsz I.ok.above⟩
theorem Inv.lt (I:Inv X pins σ H s):X.env.locals < s.heap.objs.size:=let ⟨_,hn,_⟩:=I.loc;hn.lt
theorem Inv.sz (I:Inv X pins σ H s):X.s₀.heap.objs.size≤s.heap.objs.size:=Nat.le_trans I.ok.above (Nat.le_of_lt I.lt)
theorem Inv.nofs (I:Inv X pins σ H s) {a:Addr} (h:s.heap.objs.size≤a):a∉X.fs:=fun hb=>by
 obtain ⟨_,o,ho,_⟩:=I.ok.funs.mem hb
 exact absurd (Nat.lt_of_lt_of_le (Heap.lt_size ho) (Nat.le_trans I.sz h)) (Nat.lt_irrefl _)
theorem Inv.cne (I:Inv X pins σ H s):∀x c,X.env.cells.lookup x=some c→c≠X.env.locals:=fun x c e z=>by
 obtain ⟨v,o,ho,hd⟩:=I.cell x c e
 obtain ⟨m,⟨o',es,ep,ho',hd',_⟩,_⟩:=I.loc
 rw [z,ho'] at ho;cases ho;rw [hd'] at hd;cases hd
theorem Inv.funs (I:Inv X pins σ H s):s.heap.FunFrames X.base X.outer:=by
 have all:∀(l:List Env),(∀b∈frs l,b∈X.fs)→X.s₀.heap.FunFrames X.base l→s.heap.FunFrames X.base l:=by
  intro l
  induction l with
  |nil=>intro _ _;trivial
  |cons env r ih=>
   intro hs hl
   obtain ⟨hk,⟨L,o,hf,hn,ho,hd⟩,hr⟩:=hl
   have hL:L∈X.fs:=hs L (by unfold frs;rw [List.filterMap_cons,hf];exact List.mem_cons_self)
   obtain ⟨sl,e⟩:=I.base.slot L o ho (I.ok.frf L hL) hL fun z=>I.ok.exfs L z hL
   exact ⟨hk,⟨L,_,hf,hn,e,hd⟩,ih (fun b hb=>hs b (by unfold frs;rw [List.filterMap_cons,hf];exact List.mem_cons_of_mem _ hb)) hr⟩
 exact all X.outer (fun _ hb=>hb) I.ok.funs
theorem Inv.stack (I:Inv X pins σ H s):s.heap.FunFrames X.base X.stack:=by
 rcases I.ok.stk with e|⟨e,hf⟩
 · rw [e];exact I.funs
 · rw [e]
   obtain ⟨m,hn,_⟩:=I.loc
   refine .cons (by rw [I.ok.kind];decide) hf hn ?_ I.funs
   exact Heap.get?_none_of_le (Nat.le_trans I.ok.bsz I.ok.above)
theorem Inv.stkSub (I:Inv X pins σ H s):∀b∈frs X.stack,b∈X.env.locals::X.fs:=fun b hb=>by
 rcases I.ok.stk with e|⟨e,hf⟩
 · rw [e] at hb;exact List.mem_cons_of_mem _ hb
 · rw [e] at hb
   unfold frs at hb
   rw [List.filterMap_cons,hf] at hb
   exact hb
theorem Inv.stkFree (I:Inv X pins σ H s):∀b∈frs X.stack,H b=none:=fun b hb=>by
 rcases List.mem_cons.mp (I.stkSub b hb) with e|hb
 · rw [e];exact I.free
 · obtain ⟨_,o,ho,_⟩:=I.ok.funs.mem hb
   exact I.base.free b o ho (I.ok.frf b hb) fun z=>I.ok.exfs b z hb
theorem Inv.step {g':Array GenState} {t':Nat} {d':Drawn} {ch:List Addr} (I:Inv X pins σ H s)
 (hch:∀b∈ch,(b∈X.ex∨X.s₀.heap.objs.size≤b)∧b≠X.env.locals∧(∀x c,X.env.cells.lookup x=some c→c≠b)∧∀p∈X.pn++pins,p.1≠b)
 (keep:∀b o,b≠X.env.locals→b∉X.fs→b∉ch→s.heap.get? b=some o→H b=none→h'.get? b=some o)
 (slot:∀b o,b≠X.env.locals→b∈X.fs→b∉ch→s.heap.get? b=some o→H b=none→∃sl,h'.get? b=some {o with slots:=sl}) (free:∀b o,b∉ch→s.heap.get? b=some o→H b=none→H' b=none)
 (there:∀b o,b∉ch→s.heap.get? b=some o→∃o',h'.get? b=some o')
 (tups:∀b xs,H b=some (.tup xs)→H' b=some (.tup xs)) (frzs:∀b o u,H b=some (.frz o u)→H' b=some (.frz o u)) (tbls:∀b ps,H b=some (.tbl ps)→∃more,H' b=some (.tbl (ps++more)))
 (ns:∀m,s.heap.Ns X.env.locals m→h'.Ns X.env.locals m) (hok:HOk X.prog X.w H' h') (hg:AllBare g'):
 Inv X pins σ H' {s with heap:=h',gens:=g',drawn:=d',toks:=t'}:=by
 have neL:∀b o,X.s₀.heap.get? b=some o→b≠X.env.locals:=fun b o e=>Nat.ne_of_lt (Nat.lt_of_lt_of_le (Heap.lt_size e) I.ok.above)
 have neC:∀b o,X.s₀.heap.get? b=some o→b∉X.ex→b∉ch:=fun b o e hx hb=>by
  rcases (hch b hb).1 with z|z
  · exact hx z
  · exact absurd (Nat.lt_of_lt_of_le (Heap.lt_size e) z) (Nat.lt_irrefl _)
 have cellK:∀x c,X.env.cells.lookup x=some c→∀v,s.heap.IsCell c v→h'.IsCell c v:=fun x c e v ⟨o,ho,hd⟩=>by
  have nch:c∉ch:=fun z=>(hch c z).2.2.1 x c e rfl
  by_cases hc:c∈X.fs
  · obtain ⟨sl,q⟩:=slot c o (I.cne x c e) hc nch ho (I.freeC x c e)
    exact ⟨_,q,hd⟩
  · exact ⟨o,keep c o (I.cne x c e) hc nch ho (I.freeC x c e),hd⟩
 refine ⟨I.ok,I.os,hg,⟨fun b o e n hb hx=> ?_,fun b o e n hb hx=> ?_,fun b o e n hx=> ?_,fun b o e hx=> ?_,fun b xs e=>tups b xs (I.base.tups b xs e),fun b o xs e=>frzs b o xs (I.base.frzs b o xs e),fun b ps e=> ?_⟩,?_,fun x c e=> ?_,?_,fun x c e=> ?_,fun p hp=> ?_,hok,I.len⟩
 · exact keep b o (neL b o e) hb (neC b o e hx) (I.base.keep b o e n hb hx) (I.base.free b o e n hx)
 · obtain ⟨sl,e1⟩:=I.base.slot b o e n hb hx
   obtain ⟨sl',e2⟩:=slot b _ (neL b o e) hb (neC b o e hx) e1 (I.base.free b o e n hx)
   exact ⟨sl',e2⟩
 · obtain ⟨o',e1⟩:=I.base.there b o e hx
   exact free b o' (neC b o e hx) e1 (I.base.free b o e n hx)
 · obtain ⟨o',e1⟩:=I.base.there b o e hx
   exact there b o' (neC b o e hx) e1
 · obtain ⟨m1,e1⟩:=I.base.tbls b ps e
   obtain ⟨m2,e2⟩:=tbls b _ e1
   exact ⟨m1++m2,by rw [e2,Array.append_assoc]⟩
 · obtain ⟨m,hn,hl⟩:=I.loc
   refine ⟨m,ns m hn,fun i x v e1 e2 e3=> ?_⟩
   obtain ⟨u,r,l⟩:=hl i x v e1 e2 e3
   refine ⟨u,r,?_⟩
   rcases l with l|⟨k,c,e,z⟩
   · exact .inl l
   · exact .inr ⟨k,c,e,cellK x c e _ z⟩
 · obtain ⟨v,z⟩:=I.cell x c e
   exact ⟨v,cellK x c e v z⟩
 · obtain ⟨m,⟨o,_,_,ho,_⟩,_⟩:=I.loc
   exact free _ o (fun z=>(hch _ z).2.1 rfl) ho I.free
 · obtain ⟨v,o,ho,hd⟩:=I.cell x c e
   exact free c o (fun z=>(hch c z).2.2.1 x c e rfl) ho (I.freeC x c e)
 · obtain ⟨e,n,ne,nf,d⟩:=I.pin p hp
   have nch:p.1∉ch:=fun z=>(hch p.1 z).2.2.2 p hp rfl
   exact ⟨keep p.1 p.2 ne nf nch e n,free p.1 p.2 nch e n,ne,nf,d⟩
theorem Inv.un {t':Nat} (I:Inv X pins σ H s) (u:Un X.fs [] H H' s.heap h') (hok:HOk X.prog X.w H' h'):Inv X pins σ H' {s with heap:=h',toks:=t'}:=by
 obtain ⟨m,⟨o,es,ep,ho,r⟩,_⟩:=id I.loc
 obtain ⟨sl,hL⟩:=u.any ho I.free (by simp)
 exact I.step (g':=s.gens) (d':=s.drawn) (ch:= []) (fun _ z=>nomatch z) (fun b o _ hb _ e n=>u.keep b o e n hb (by simp)) (fun b o _ hb _ e n=>u.slot b o e n hb (by simp)) (fun b o _ e n=>u.free b o e n (by simp)) (fun b o _ e=>u.there b o e (by simp)) u.tups u.frzs u.tbls (fun m' hm=>by
  obtain ⟨o',es',ep',ho',r'⟩:=hm
  rw [ho] at ho';cases ho'
  exact ⟨_,es',ep',hL,r'⟩) hok I.bare
theorem Inv.call {g':Array GenState} {t':Nat} {d':Drawn} {ch:List Addr} (I:Inv X pins σ H s) (u:Un (frs X.stack) ch H H' s.heap h') (hok:HOk X.prog X.w H' h') (hg:AllBare g')
 (hch:∀b∈ch,(b∈X.ex∨X.s₀.heap.objs.size≤b)∧b≠X.env.locals∧(∀x c,X.env.cells.lookup x=some c→c≠b)∧∀p∈X.pn++pins,p.1≠b):
 Inv X pins σ H' {s with heap:=h',gens:=g',drawn:=d',toks:=t'}:=by
 obtain ⟨m,⟨o,es,ep,ho,r⟩,_⟩:=id I.loc
 obtain ⟨sl,hL⟩:=u.any ho I.free fun z=>(hch _ z).2.1 rfl
 exact I.step (ch:=ch) hch (fun b o hL hb hc e n=>u.keep b o e n (fun z=>(List.mem_cons.mp (I.stkSub b z)).elim hL hb) hc) (fun b o _ _ hc e n=>u.any e n hc) (fun b o hc e n=>u.free b o e n hc) (fun b o hc e=>u.there b o e hc) u.tups u.frzs u.tbls (fun m' hm=>by
  obtain ⟨o',es',ep',ho',r'⟩:=hm
  rw [ho] at ho';cases ho'
  exact ⟨_,es',ep',hL,r'⟩) hok hg
theorem Inv.turned {t':Nat} {it:Addr} (I:Inv X pins σ H s) (k:∀b o,b≠it→s.heap.get? b=some o→h'.get? b=some o) (hn:H it=none) (hL:it≠X.env.locals)
 (h1:it∈X.ex∨X.s₀.heap.objs.size≤it) (h2:∀x c,X.env.cells.lookup x=some c→c≠it) (h3:∀p∈X.pn++pins,p.1≠it):Inv X pins σ H {s with heap:=h',toks:=t'}:=by
 have nit:∀b u,H b=some u→b≠it:=fun b u e z=>by rw [z,hn] at e;cases e
 refine I.step (g':=s.gens) (d':=s.drawn) (ch:= [it]) (fun b hb=> ?_) (fun b o _ _ hc e _=>k b o (fun z=>hc (by simp [z])) e) (fun b o _ _ hc e _=>⟨o.slots,k b o (fun z=>hc (by simp [z])) e⟩) (fun _ _ _ _ n=>n)
  (fun b o hc e=>⟨o,k b o (fun z=>hc (by simp [z])) e⟩) (fun _ _ e=>e) (fun _ _ _ e=>e) (fun b ps e=>⟨#[],by rw [e];simp⟩) (fun m hm=> ?_) (fun b u e=> ?_) I.bare
 · have e:b=it:=by simpa using hb
   subst e
   exact ⟨h1,hL,h2,h3⟩
 · obtain ⟨o,es,ep,ho,r⟩:=hm
   exact ⟨o,es,ep,k _ o (Ne.symm hL) ho,r⟩
 · refine (I.hok b u e).stay (fun c v hc q=>k c v ?_ q) (fun _ q=>q) fun _ _ q=>q
   rcases hc with z|z
   · rw [z];exact nit b u e
   · exact nit c _ z
theorem Inv.tok (I:Inv X pins σ H s) (t:Nat):Inv X pins σ H {s with toks:=t}:=I.un (h':=s.heap) (t':=t) Un.refl I.hok
theorem Inv.kept {t':Nat} (I:Inv X pins σ H s) (k:∀b u,s.heap.get? b=some u→h'.get? b=some u):Inv X pins σ H {s with heap:=h',toks:=t'}:=I.un (Un.kept k) (I.hok.kept k)
theorem Inv.laid {a:Addr} {o:HO} {t':Nat} (I:Inv X pins σ H s) (k:∀b u,s.heap.get? b=some u→h'.get? b=some u) (hp:s.heap.objs.size≤a) (new:ObjOk X.prog X.w (upd H a o) h' a o):
 Inv X pins σ (upd H a o) {s with heap:=h',toks:=t'}:=I.un (Un.laid k hp (I.hok.fresh hp)) (I.hok.laid k hp new)
theorem Inv.write {x e:Addr} {o:HO} {t':Nat} (I:Inv X pins σ H s) (mu:Mut (H x)) (he:e=x∨H e=some (.own x)) (k:∀b u,b≠e→s.heap.get? b=some u→h'.get? b=some u) (heo:∃u,h'.get? e=some u)
 (new:ObjOk X.prog X.w (upd H x o) h' x o):Inv X pins σ (upd H x o) {s with heap:=h',toks:=t'}:=I.un (Un.write mu he k heo) (I.hok.write mu he k heo new)
theorem Inv.weak {σ':List (Option V)} (I:Inv X pins σ H s) (hl:σ'.length=σ.length) (w:∀(i:Nat) v,σ'[i]?=some (some v)→σ[i]?=some (some v)):Inv X pins σ' H s:=
 ⟨I.ok,I.os,I.bare,I.base,let ⟨m,hn,hl'⟩:=I.loc;⟨m,hn,fun i x v e1 e2 e3=>hl' i x v e1 (w i v e2) e3⟩,I.cell,I.free,I.freeC,I.pin,I.hok,hl.trans I.len⟩
theorem Inv.pins_of {pins':List (Addr×Obj)} (I:Inv X pins σ H s) (h:∀p∈pins',s.heap.get? p.1=some p.2∧H p.1=none∧p.1≠X.env.locals∧p.1∉X.fs∧∀v,p.2.data≠ .cell v):Inv X pins' σ H s:=
 ⟨I.ok,I.os,I.bare,I.base,I.loc,I.cell,I.free,I.freeC,fun p hp=>(List.mem_append.mp hp).elim (fun z=>I.pin p (List.mem_append_left _ z)) (h p),I.hok,I.len⟩
theorem lP {N:List Str} (hN:N.Nodup) {i j:Nat} {x:Str} (a:N[i]?=some x) (b:N[j]?=some x):i=j:=by
 obtain ⟨h1,e1⟩:=List.getElem?_eq_some_iff.mp a
 obtain ⟨h2,e2⟩:=List.getElem?_eq_some_iff.mp b
 exact (List.getElem_inj hN).mp (e1.trans e2.symm)
theorem jq {M:Model} {A:Around} {E:Value→Shared→Prop} {i:Nat} {x:Str} {v:V} {u:Value} {Q:Unit→Shared→Prop} (I:Inv X pins σ H s) (hN:X.N.Nodup) (hi:X.N[i]?=some x) (hx:Loc X.env.scope x) (r:RelV v u)
 (h:∀s',Inv X pins (σ.set i (some v)) H s'→(∃a,Heap.SameBut a s.heap s'.heap∧(a=X.env.locals∨X.env.cells.lookup x=some a))→Q () s') (hf:X.fn x=true∨X.env.scope.names.lookup x=some .local:=by first|exact .inl rfl|exact .inr rfl|assumption):wpAny M A (storeName X.env x u) Q E s:=by
 obtain ⟨m,hn,hl⟩:=id I.loc
 have hcls:(X.env.scope.kind== .class ||(X.env.scope.kind== .module&&X.env.locals !=X.env.globals))=false:=by rw [I.ok.kind];rfl
 have hiσ:i < σ.length:=by rw [I.len];exact (List.getElem?_eq_some_iff.mp hi).1
 have cne:=I.cne
 have tracked:∀ {a:Addr} {h':Heap},(∃o,s.heap.get? a=some o∧H a=none)→Heap.SameBut a s.heap h'→HOk X.prog X.w H h':=fun {a h'} ha hs b ob e=>by
  obtain ⟨_,_,hfree⟩:=ha
  refine (I.hok b ob e).stay (fun c w' hc q=>(hs.2 c ?_).trans q) (fun _ q=>q) fun _ _ q=>q
  rintro rfl
  rcases hc with rfl|hc
  · rw [hfree] at e;cases e
  · rw [hfree] at hc;cases hc
 rcases hx with hk|hk
 · refine wpAny_storeName_local hk hn (fun h' hn' hs=> ?_) hcls
   obtain ⟨oL,_,_,hoL,_⟩:=id hn
   refine h _ ⟨I.ok,I.os,I.bare,⟨fun b o e n hb hx=> ?_,fun b o e n hb hx=> ?_,I.base.free,fun b o e hx=> ?_,I.base.tups,I.base.frzs,I.base.tbls⟩,⟨_,hn',fun j y v' e1 e2 e3=> ?_⟩,fun y c e=> ?_,I.free,I.freeC,fun p hp=> ?_,tracked ⟨oL,hoL,I.free⟩ hs,by simpa using I.len⟩ ⟨_,hs, .inl rfl⟩
   · exact (hs.2 b (Nat.ne_of_lt (Nat.lt_of_lt_of_le (Heap.lt_size e) I.ok.above))).trans (I.base.keep b o e n hb hx)
   · obtain ⟨sl,e1⟩:=I.base.slot b o e n hb hx
     exact ⟨sl,(hs.2 b (Nat.ne_of_lt (Nat.lt_of_lt_of_le (Heap.lt_size e) I.ok.above))).trans e1⟩
   · obtain ⟨o',e1⟩:=I.base.there b o e hx
     exact ⟨o',(hs.2 b (Nat.ne_of_lt (Nat.lt_of_lt_of_le (Heap.lt_size e) I.ok.above))).trans e1⟩
   · by_cases hj:j=i
     · subst hj
       rw [hi] at e1;cases e1
       rw [List.getElem?_set_self hiσ] at e2
       cases e2
       exact ⟨u,r, .inl ⟨hk,by simp⟩⟩
     · rw [List.getElem?_set_ne (Ne.symm hj)] at e2
       obtain ⟨u',r',q⟩:=hl j y v' e1 e2 e3
       refine ⟨u',r',?_⟩
       rcases q with ⟨k,e⟩|⟨k,c,e,z⟩
       · refine .inl ⟨k,?_⟩
         have:y≠x:=fun e=>hj (lP hN e1 (e▸hi))
         simp [this,e]
       · exact .inr ⟨k,c,e,z.sameBut hs (cne y c e)⟩
   · obtain ⟨w',z⟩:=I.cell y c e
     exact ⟨w',z.sameBut hs (cne y c e)⟩
   · obtain ⟨e,n,ne,nf,d⟩:=I.pin p hp
     exact ⟨(hs.2 p.1 ne).trans e,n,ne,nf,d⟩
 · have hfn:X.fn x=true:=by
    rcases hf with z|z
    · exact z
    · rw [z] at hk;cases hk
   obtain ⟨c,hc⟩:=I.ok.has x (.inl hk)
   obtain ⟨w',z⟩:=I.cell x c hc
   refine wpAny_storeName_cell I.ok.kind hk hc z (fun h' hc' hs=> ?_)
   obtain ⟨oc,hoc,hocd⟩:=id z
   refine h {s with heap:=h'} ⟨I.ok,I.os,I.bare,⟨fun b o e n hb hx=> ?_,fun b o e n hb hx=> ?_,I.base.free,fun b o e hx=> ?_,I.base.tups,I.base.frzs,I.base.tbls⟩,⟨m,hn.sameBut hs (Ne.symm (cne x c hc)),fun j y v' e1 e2 e3=> ?_⟩,fun y c' e=> ?_,I.free,I.freeC,fun p hp=> ?_,tracked ⟨oc,hoc,I.freeC x c hc⟩ hs,by simpa using I.len⟩ ⟨c,hs, .inr hc⟩
   · exact (hs.2 b (Nat.ne_of_lt (Nat.lt_of_lt_of_le (Heap.lt_size e) (I.ok.cab x c hfn hc)))).trans (I.base.keep b o e n hb hx)
   · obtain ⟨sl,e1⟩:=I.base.slot b o e n hb hx
     exact ⟨sl,(hs.2 b (Nat.ne_of_lt (Nat.lt_of_lt_of_le (Heap.lt_size e) (I.ok.cab x c hfn hc)))).trans e1⟩
   · obtain ⟨o',e1⟩:=I.base.there b o e hx
     exact ⟨o',(hs.2 b (Nat.ne_of_lt (Nat.lt_of_lt_of_le (Heap.lt_size e) (I.ok.cab x c hfn hc)))).trans e1⟩
   · by_cases hj:j=i
     · subst hj
       rw [hi] at e1;cases e1
       rw [List.getElem?_set_self hiσ] at e2
       cases e2
       exact ⟨u,r, .inr ⟨.inl hk,c,hc,hc'⟩⟩
     · rw [List.getElem?_set_ne (Ne.symm hj)] at e2
       obtain ⟨u',r',q⟩:=hl j y v' e1 e2 e3
       refine ⟨u',r',?_⟩
       rcases q with q|⟨k,c',e,z'⟩
       · exact .inl q
       · refine .inr ⟨k,c',e,z'.sameBut hs ?_⟩
         rintro rfl
         exact hj (lP hN e1 (I.ok.inj _ _ _ e hc▸hi))
   · by_cases hcc:c'=c
     · subst hcc;exact ⟨_,hc'⟩
     · obtain ⟨w2,z2⟩:=I.cell y c' e
       exact ⟨w2,z2.sameBut hs hcc⟩
   · obtain ⟨e,n,ne,nf,d⟩:=I.pin p hp
     refine ⟨(hs.2 p.1 ?_).trans e,n,ne,nf,d⟩
     intro q
     rw [q,hoc] at e
     have q':oc=p.2:=Option.some.inj e
     exact d w' (by rw [←q'];exact hocd)
theorem ft {M:Model} {A:Around} {E:Value→Shared→Prop} {i:Nat} {x:Str} {v:V} {u:Value} {Q:Unit→Shared→Prop} (I:Inv X pins σ H s) (hN:X.N.Nodup) (hi:X.N[i]?=some x) (hx:Loc X.env.scope x) (r:RelV v u)
 (h:∀s',Inv X pins (σ.set i (some v)) H s'→Q () s') (hf:X.fn x=true∨X.env.scope.names.lookup x=some .local:=by first|exact .inl rfl|exact .inr rfl|assumption):wpAny M A (storeName X.env x u) Q E s:=
 jq I hN hi hx r (fun s' I' _=>h s' I') hf
theorem Inv.call' {s':Shared} {ch:List Addr} (I:Inv X pins σ H s) (ho:s'.os=s.os) (u:Un (frs X.stack) ch H H' s.heap s'.heap) (hok:HOk X.prog X.w H' s'.heap) (hg:AllBare s'.gens)
 (hch:∀b∈ch,(b∈X.ex∨X.s₀.heap.objs.size≤b)∧b≠X.env.locals∧(∀x c,X.env.cells.lookup x=some c→c≠b)∧∀p∈X.pn++pins,p.1≠b):Inv X pins σ H' s':=by
 obtain ⟨h',g',d',t',o'⟩:=s'
 have e:o'=s.os:=ho
 subst e
 exact I.call (g':=g') (t':=t') (d':=d') u hok hg hch
end
abbrev XK:=Value→Option Addr→Hp→Prop
abbrev St:=List (Option V)
abbrev VK:=V→Hp→Prop
abbrev TE:=St→Hp→VK→Prop
abbrev TT:=St→Hp→(Bool→Hp→Prop)→Prop
abbrev TA:=St→Hp→(List V→Hp→Prop)→Prop
structure Ends where
 nx:St→Hp→Prop
 rt:VK
 bk:St→Hp→Prop:=fun _ _=>False
 ct:St→Hp→Prop:=fun _ _=>False
abbrev TS:=Ends→St→Hp→Prop
def EP (X:Cx) (pins:List (Addr×Obj)) (σ:St) (Q:VK) (u:Value) (s':Shared):Prop:=∃v H',Inv X pins σ H' s'∧RelV v u∧Q v H'
def TP (X:Cx) (pins:List (Addr×Obj)) (σ:St) (Q:Bool→Hp→Prop) (b:Bool) (s':Shared):Prop:=∃H',Inv X pins σ H' s'∧Q b H'
def AP (X:Cx) (pins:List (Addr×Obj)) (σ:St) (Q:List V→Hp→Prop) (us:List Value) (s':Shared):Prop:=∃vs H',Inv X pins σ H' s'∧Vals vs us∧Q vs H'
def SP (X:Cx) (pins:List (Addr×Obj)) (D:Ends) (f:Flow) (s':Shared):Prop:=
 match f with
 | .next=>∃σ' H',Inv X pins σ' H' s'∧D.nx σ' H'
 | .brk=>∃σ' H',Inv X pins σ' H' s'∧D.bk σ' H'
 | .cont=>∃σ' H',Inv X pins σ' H' s'∧D.ct σ' H'
 | .ret u=>∃v σ' H',Inv X pins σ' H' s'∧RelV v u∧D.rt v H'
def PE (X:Cx) (e:Expr) (t:TE):Prop:=
 ∀(pins:List (Addr×Obj)) (s:Shared) (σ:St) (H:Hp) (Q:VK),Inv X pins σ H s→t σ H Q→wpAny (model X.prog X.w) X.A (eval e X.env) (EP X pins σ Q) X.xe s
def PT (X:Cx) (e:Expr) (t:TT):Prop:=
 ∀(pins:List (Addr×Obj)) (s:Shared) (σ:St) (H:Hp) (Q:Bool→Hp→Prop),Inv X pins σ H s→t σ H Q→wpAny (model X.prog X.w) X.A (isTrue e X.env (eval e X.env)) (TP X pins σ Q) X.xe s
def PW (X:Cx) (e:Expr) (t:TT):Prop:=
 ∀(whole:Sem Value) (pins:List (Addr×Obj)) (s:Shared) (σ:St) (H:Hp) (Q:Bool→Hp→Prop),Inv X pins σ H s→t σ H Q→wpAny (model X.prog X.w) X.A (isTrue e X.env whole) (TP X pins σ Q) X.xe s
theorem PW.pt {X:Cx} {e:Expr} {t:TT} (h:PW X e t):PT X e t:=h _
def PA (X:Cx) (es:List Expr) (t:TA):Prop:=
 ∀(pos:Pos) (pins:List (Addr×Obj)) (s:Shared) (σ:St) (H:Hp) (Q:List V→Hp→Prop),Inv X pins σ H s→t σ H Q→wpAny (model X.prog X.w) X.A (spliced (backTo pos (starEach es X.env))) (AP X pins σ Q) X.xe s
def PS (X:Cx) (st:Stmt) (t:TS):Prop:=
 ∀(pins:List (Addr×Obj)) (s:Shared) (σ:St) (H:Hp) (D:Ends),Inv X pins σ H s→t D σ H→wpAny (model X.prog X.w) X.A (exec st X.env) (SP X pins D) X.xe s
def PSs (X:Cx) (st:List Stmt) (t:TS):Prop:=
 ∀(pins:List (Addr×Obj)) (s:Shared) (σ:St) (H:Hp) (D:Ends),Inv X pins σ H s→t D σ H→wpAny (model X.prog X.w) X.A (execs st X.env) (SP X pins D) X.xe s
theorem thn {α:Type} {t:Sem α} {Q Q':α→Shared→Prop} {M:Model} {A:Around} {E:Value→Shared→Prop} {s:Shared} (h:wpAny M A t Q E s) (hQ:∀a s,Q a s→Q' a s):wpAny M A t Q' E s:=wpAny_mono h hQ fun _ _ x=>x
open PySem PySem.Spec PyProof.Rows
section
variable {X:Cx}
def tVar (i:Nat):TE:=fun σ H Q=>∃v,σ[i]?=some (some v)∧Q v H
def tC (v:V):TE:=fun _ H Q=>Q v H
theorem iW {i:Nat} {x:Str} {pos:Pos} (hN:X.N[i]?=some x) (hv:Vis X.env.scope x) (hd:(x==("__debug__":Str))=false:=by decide) (hcd:(x==("__classdict__":Str))=false:=by decide):PE X (.Name x pos) (tVar i):=by
 intro pins s σ H Q I h
 obtain ⟨v,e,h⟩:=h
 obtain ⟨m,hn,hl⟩:=I.loc
 obtain ⟨u,r,l⟩:=hl i x v hN e hv
 have fin:EP X pins σ Q u s:=⟨v,H,I,r,h⟩
 rcases l with ⟨hk,hm⟩|⟨hk,c,hc,hcell⟩
 · exact wpAny_Name (wpAny_loadName_local I.ok.kind hk hn hm fin) hd
 · rcases hk with hk|hk
   · exact wpAny_Name (wpAny_loadName_cell I.ok.kind hk hc hcell fin) hd
   · exact wpAny_Name (wpAny_loadName_free I.ok.kind hk hc hcell fin hcd) hd
theorem aa {i j pos}:PE X (.Constant (.int i) j pos) (tC (.int i)):=fun _ _ _ H _ I h=>wpAny_Constant_int ⟨.int i,H,I.tok _,⟨_,rfl⟩,h⟩
theorem cB {b j pos}:PE X (.Constant (.bool b) j pos) (tC (.bl b)):=fun _ _ _ H _ I h=>Constant_bool ⟨.bl b,H,I,rfl,h⟩
theorem qX {j pos}:PE X (.Constant .none j pos) (tC .non):=fun _ _ _ H _ I h=>Constant_none ⟨.non,H,I,rfl,h⟩
theorem aA {x j pos}:PE X (.Constant (.str x) j pos) (tC (.str x)):=fun _ _ _ H _ I h=>Calls.Constant_str ⟨.str x,H,I.tok _,⟨_,rfl⟩,h⟩
def Gl (X:Cx) (x:Str):Prop:=X.env.kindOf x=some .globalImplicit
theorem kz {E:Value→Shared→Prop} {pins:List (Addr×Obj)} {s:Shared} {σ:St} {H:Hp} {x:Str} {u:Value} {pos:Pos} {Q:Value→Shared→Prop} (I:Inv X pins σ H s) (hg:Gl X x) (hm:X.mg x=some u) (h:Q u s)
 (hd:(x==("__debug__":Str))=false:=by decide):wpAny (model X.prog X.w) X.A (eval (.Name x pos) X.env) Q E s:=
 Calls.Name_function_global I.ok.kind hg (Calls.loadGlobal_global (by rw [I.ok.glob];exact I.mod.glob.keeps I.bk) hm h) hd
theorem i9 {E:Value→Shared→Prop} {pins:List (Addr×Obj)} {s:Shared} {σ:St} {H:Hp} {x:Str} {u:Value} {pos:Pos} {Q:Value→Shared→Prop} (I:Inv X pins σ H s) (hg:Gl X x) (hm:X.mg x=none) (hv:bootBuiltins x=some u) (h:Q u s)
 (hn:x≠"__name__":=by decide) (hd:(x==("__debug__":Str))=false:=by decide):wpAny (model X.prog X.w) X.A (eval (.Name x pos) X.env) Q E s:=by
 obtain ⟨mb,h1,h2⟩:=I.mod.blt
 exact Calls.Name_function_global I.ok.kind hg (Calls.loadGlobal_builtin (by rw [I.ok.glob];exact I.mod.glob.keeps I.bk) hm (by rw [I.ok.blt];exact h1.keeps I.bk) ((h2 x hn).trans hv) h) hd
theorem cz {x:Str} {v:V} {u:Value} {pos:Pos} (hg:Gl X x) (hm:X.mg x=some u) (r:RelV v u) (hd:(x==("__debug__":Str))=false:=by decide):PE X (.Name x pos) (tC v):=
 fun _ _ _ H _ I h=>kz I hg hm ⟨v,H,I,r,h⟩ hd
theorem aX {x:Str} {v:V} {u:Value} {pos:Pos} (hg:Gl X x) (hm:X.mg x=none) (hv:bootBuiltins x=some u) (r:RelV v u) (hn:x≠"__name__":=by decide) (hd:(x==("__debug__":Str))=false:=by decide):PE X (.Name x pos) (tC v):=
 fun _ _ _ H _ I h=>i9 I hg hm hv ⟨v,H,I,r,h⟩ hn hd
variable {a b:Expr} {ta tb:TE} {pos:Pos}
def tB (t:TE):TT:=fun σ H Q=>t σ H fun x H1=>∃c,x= .bl c∧Q c H1
theorem aU {e:Expr} {t:TE} (h:PE X e t) (he:∀whole,isTrue e X.env whole=(do let v←whole;standAt e.pos;holding [v] (truthy v)):=by intro _;rfl):PT X e (tB t):=by
 intro pins s σ H Q I hw
 refine isTrue_plain (thn (h pins s σ H _ I hw) fun v s1 ⟨x,H1,I1,r1,q1⟩=> ?_) (he _)
 obtain ⟨d,rfl,q⟩:=q1
 cases r1
 exact wpAny_truthy_bool ⟨H1,I1,q⟩
variable {tA tB':TT} {rest:List Expr}
def tAnd (t u:TT):TT:=fun σ H Q=>t σ H fun c H1=>if c=true then u σ H1 Q else Q false H1
def tOr (t u:TT):TT:=fun σ H Q=>t σ H fun c H1=>if c=true then Q true H1 else u σ H1 Q
def tNot (t:TT):TT:=fun σ H Q=>t σ H fun c H1=>Q (!c) H1
theorem dw (ha:PT X a tA):PW X (.BoolOp .And [a] pos) tA:=by
 intro wh pins s σ H Q I h
 refine isTrue_and (thn (ha pins s σ H Q I h) fun c s1 e=> ?_)
 cases c with
 |true=>exact isTrue_and_nil e
 |false=>exact e
theorem ck (ha:PT X a tA):PW X (.BoolOp .Or [a] pos) tA:=by
 intro wh pins s σ H Q I h
 refine isTrue_or (thn (ha pins s σ H Q I h) fun c s1 e=> ?_)
 cases c with
 |false=>exact isTrue_or_nil e
 |true=>exact e
theorem dy (ha:PT X a tA) (hb:PW X (.BoolOp .And (b::rest) pos) tB'):PW X (.BoolOp .And (a::b::rest) pos) (tAnd tA tB'):=by
 intro wh pins s σ H Q I h
 refine isTrue_and (thn (ha pins s σ H _ I h) fun c s1 ⟨H1,I1,q1⟩=> ?_)
 cases c with
 |true=>exact hb wh pins s1 σ H1 Q I1 q1
 |false=>exact ⟨H1,I1,q1⟩
theorem cv (ha:PT X a tA) (hb:PW X (.BoolOp .Or (b::rest) pos) tB'):PW X (.BoolOp .Or (a::b::rest) pos) (tOr tA tB'):=by
 intro wh pins s σ H Q I h
 refine isTrue_or (thn (ha pins s σ H _ I h) fun c s1 ⟨H1,I1,q1⟩=> ?_)
 cases c with
 |true=>exact ⟨H1,I1,q1⟩
 |false=>exact hb wh pins s1 σ H1 Q I1 q1
theorem br (ha:PT X a tA):PT X (.UnaryOp .Not a pos) (tNot tA):=by
 intro pins s σ H Q I h
 exact isTrue_not (ha pins s σ H (fun c H1=>Q (!c) H1) I h)
def oi (ta tb:TE):TE:=fun σ H Q=>ta σ H fun x H1=>∃c,x= .bl c∧if c=true then tb σ H1 Q else Q (.bl false) H1
def wL (ta:TE):TE:=fun σ H Q=>ta σ H fun x H1=>∃c,x= .bl c∧Q (.bl (!c)) H1
theorem aW {op} {t:TE} (h:PE X a t):PE X (.BoolOp op [a] pos) t:=fun pins s σ H Q I hw=>BoolOp_one (h pins s σ H Q I hw)
theorem aM (ha:PE X a ta) (hb:PE X (.BoolOp .And (b::rest) pos) tb):PE X (.BoolOp .And (a::b::rest) pos) (oi ta tb):=by
 intro pins s σ H Q I h
 refine BoolOp_and (thn (ha pins s σ H _ I h) fun v s1 ⟨x,H1,I1,r1,q1⟩=> ?_)
 obtain ⟨c,rfl,q1⟩:=q1
 cases r1
 refine wpAny_truthy_bool ?_
 cases c with
 |true=>exact hb pins s1 σ H1 Q I1 q1
 |false=>exact ⟨.bl false,H1,I1,rfl,q1⟩
theorem qW (ha:PE X a ta):PE X (.UnaryOp .Not a pos) (wL ta):=by
 intro pins s σ H Q I h
 refine UnaryOp_ (thn (ha pins s σ H _ I h) fun v s1 ⟨x,H1,I1,r1,q1⟩=> ?_)
 obtain ⟨c,rfl,q1⟩:=q1
 cases r1
 exact not_of (wpAny_truthy_bool ⟨.bl (!c),H1,I1,rfl,q1⟩)
def tIf (t:TT) (ta tb:TE):TE:=fun σ H Q=>t σ H fun c H1=>if c=true then ta σ H1 Q else tb σ H1 Q
theorem rg {c:Expr} (hc:PT X c tA) (ha:PE X a ta) (hb:PE X b tb):PE X (.IfExp c a b pos) (tIf tA ta tb):=by
 intro pins s σ H Q I h
 refine wpAny_IfExp (thn (hc pins s σ H _ I h) fun d s1 ⟨H1,I1,q1⟩=> ?_)
 cases d with
 |true=>exact ha pins s1 σ H1 Q I1 q1
 |false=>exact hb pins s1 σ H1 Q I1 q1
end
open PySem PySem.Spec PyProof.Rows
def SqL (K:PySem.W.Frag) (H:Hp) (a:Addr) (xs:List V):Prop:=
 Rd H a (.lst xs)∨
  ∃(o:Obj) (its:Array Value) (n:Nat),K.lookup a=some o∧o.cls= .type "list"∧o.dict=none∧o.data= .seq its n∧its.size≤sizeLine∧Vals xs its.toList
def SqT (K:PySem.W.Frag) (H:Hp) (a:Addr) (xs:List V):Prop:=
 Rd H a (.tup xs)∨
  ∃(o:Obj) (its:Array Value) (n:Nat),K.lookup a=some o∧o.cls= .type "tuple"∧o.data= .seq its n∧its.size≤sizeLine∧Vals xs its.toList
noncomputable def absV:Value→Option V
 | .none=>some .non
 | .bool b=>some (.bl b)
 | .int i _=>some (.int i)
 | .str x _=>some (.str x)
 | .bytes b _=>some (.byt b)
 | .float b _=>some (.flt b)
 | .ref a=>some (.ref a)
 | .type n=>some (.ty n)
 |_=>none
theorem RelV.abs {x:V} {u:Value} (r:RelV x u):absV u=some x:=by
 cases x with
 |non=>cases r;rfl
 |bl _=>cases r;rfl
 |int _=>obtain ⟨t,rfl⟩:=r;rfl
 |str _=>obtain ⟨t,rfl⟩:=r;rfl
 |byt _=>obtain ⟨t,rfl⟩:=r;rfl
 |flt _=>obtain ⟨t,rfl⟩:=r;rfl
 |ref _=>cases r;rfl
 |ty _=>cases r;rfl
theorem RelV.inj {x y:V} {u:Value} (r:RelV x u) (q:RelV y u):x=y:=Option.some.inj (r.abs.symm.trans q.abs)
theorem Vals.inj:∀ {xs ys:List V} {us:List Value},Vals xs us→Vals ys us→xs=ys
 |_,_,_, .nil, .nil=>rfl
 |_,_,_, .cons r t, .cons r' t'=>by rw [r.inj r',Vals.inj t t']
section
variable {X:Cx} {pins:List (Addr×Obj)} {σ:St} {H:Hp} {s:Shared} {a:Addr} {xs ys:List V}
theorem SqL.of {K:PySem.W.Frag} (h:H a=some (.lst xs)):SqL K H a xs:= .inl (.inl h)
theorem SqT.of {K:PySem.W.Frag} (h:H a=some (.tup xs)):SqT K H a xs:= .inl (.inl h)
theorem Inv.list (I:Inv X pins σ H s) (h:SqL X.K H a xs):∃its:List Value,Vals xs its∧PlainL s.heap a its.toArray∧xs.length≤sizeLine:=by
 rcases h with h|⟨o,its,n,hk,hc,hd,hs,hz,r⟩
 · obtain ⟨z,its,n,r,e⟩:=h.ok I.hok
   exact ⟨its,r,⟨_,n,e,rfl,rfl,rfl⟩,z⟩
 · refine ⟨its.toList,r,⟨o,n,I.kIn a o hk,hc,hd,by simpa using hs⟩,?_⟩
   have e:=r.length
   simp only [Array.length_toList] at e
   omega
theorem Inv.tuple (I:Inv X pins σ H s) (h:SqT X.K H a xs):∃its:List Value,Vals xs its∧IsTup s.heap a its.toArray∧xs.length≤sizeLine:=by
 rcases h with h|⟨o,its,n,hk,hc,hs,hz,r⟩
 · obtain ⟨z,its,r,p⟩:=h.ok I.hok
   exact ⟨its,r,p,z⟩
 · refine ⟨its.toList,r,⟨o,I.kIn a o hk,hc,n,by simpa using hs⟩,?_⟩
   have e:=r.length
   simp only [Array.length_toList] at e
   omega
theorem Inv.list_inj (I:Inv X pins σ H s) (h:SqL X.K H a xs) (h':SqL X.K H a ys):xs=ys:=by
 obtain ⟨its,r,⟨o,n,e,_,_,d⟩,_⟩:=I.list h
 obtain ⟨its',r',⟨o',n',e',_,_,d'⟩,_⟩:=I.list h'
 rw [e] at e';cases e'
 rw [d] at d'
 injection d' with d1 _
 have:its=its':=by simpa using congrArg Array.toList d1
 subst this
 exact r.inj r'
theorem Inv.tuple_inj (I:Inv X pins σ H s) (h:SqT X.K H a xs) (h':SqT X.K H a ys):xs=ys:=by
 obtain ⟨its,r,⟨o,e,_,n,d⟩,_⟩:=I.tuple h
 obtain ⟨its',r',⟨o',e',_,n',d'⟩,_⟩:=I.tuple h'
 rw [e] at e';cases e'
 rw [d] at d'
 injection d' with d1 _
 have:its=its':=by simpa using congrArg Array.toList d1
 subst this
 exact r.inj r'
end
abbrev Cx.wish (X:Cx) (E:Value→Shared→Prop):Cx:= {X with xe:=E}
abbrev Cx.nox (X:Cx):Cx:=X.wish fun _ _=>False
theorem Cx.Ok.wish {X:Cx} (ok:X.Ok) (E:Value→Shared→Prop):(X.wish E).Ok:=
 ⟨ok.mod,ok.kind,ok.glob,ok.blt,ok.above,ok.inj,ok.has,ok.cab,ok.hd,ok.frames,ok.stk,ok.exf,ok.bs,ok.bsz,ok.noex,ok.exfs,ok.funs,ok.frf⟩
theorem Cx.Ok.unwish {X:Cx} {E:Value→Shared→Prop} (ok:(X.wish E).Ok):X.Ok:=
 ⟨ok.mod,ok.kind,ok.glob,ok.blt,ok.above,ok.inj,ok.has,ok.cab,ok.hd,ok.frames,ok.stk,ok.exf,ok.bs,ok.bsz,ok.noex,ok.exfs,ok.funs,ok.frf⟩
section
variable {X:Cx} {pins:List (Addr×Obj)} {σ:St} {H:Hp} {s:Shared} {E:Value→Shared→Prop}
theorem Inv.wish (I:Inv X pins σ H s) (E:Value→Shared→Prop):Inv (X.wish E) pins σ H s:=⟨I.ok.wish E,I.os,I.bare,I.base,I.loc,I.cell,I.free,I.freeC,I.pin,I.hok,I.len⟩
theorem Inv.unwish (I:Inv (X.wish E) pins σ H s):Inv X pins σ H s:=⟨I.ok.unwish,I.os,I.bare,I.base,I.loc,I.cell,I.free,I.freeC,I.pin,I.hok,I.len⟩
theorem SP.unwish {D:Ends} {f:Flow} {s':Shared} (h:SP (X.wish E) pins D f s'):SP X pins D f s':=by
 cases f with
 |next=>obtain ⟨σ',H',I,q⟩:=h;exact ⟨σ',H',I.unwish,q⟩
 |brk=>obtain ⟨σ',H',I,q⟩:=h;exact ⟨σ',H',I.unwish,q⟩
 |cont=>obtain ⟨σ',H',I,q⟩:=h;exact ⟨σ',H',I.unwish,q⟩
 |ret u=>obtain ⟨v,σ',H',I,r,q⟩:=h;exact ⟨v,σ',H',I.unwish,r,q⟩
theorem PE.nox {e:Expr} {t:TE} (h:PE X.nox e t):PE X e t:=fun pins s σ H Q I hw=>
 wpAny_mono (h pins s σ H Q (I.wish _) hw) (fun _ _ ⟨v,H',I',r,q⟩=>⟨v,H',I'.unwish,r,q⟩) fun _ _ z=>False.elim z
theorem PT.nox {e:Expr} {t:TT} (h:PT X.nox e t):PT X e t:=fun pins s σ H Q I hw=>
 wpAny_mono (h pins s σ H Q (I.wish _) hw) (fun _ _ ⟨H',I',q⟩=>⟨H',I'.unwish,q⟩) fun _ _ z=>False.elim z
theorem PSs.nox {st:List Stmt} {t:TS} (h:PSs X.nox st t):PSs X st t:=fun pins s σ H D I hw=>
 wpAny_mono (h pins s σ H D (I.wish _) hw) (fun _ _ q=>q.unwish) fun _ _ z=>False.elim z
end
section
variable {X:Cx} {st:Stmt} {rest:List Stmt} {t u:TS} {e:Expr} {te:TE} {pos:Pos}
def v8:TS:=fun D σ H=>D.nx σ H
def tSeq (t u:TS):TS:=fun D σ H=>t {D with nx:=u D} σ H
theorem az:PSs X [] v8:=fun _ _ σ H _ I h=>wpAny_execs_nil ⟨σ,H,I,h⟩
theorem ae (h1:PS X st t) (h2:PSs X rest u):PSs X (st::rest) (tSeq t u):=by
 intro pins s σ H D I h
 refine wpAny_execs_cons (thn (h1 pins s σ H {D with nx:=u D} I h) fun f s1 q=> ?_)
 cases f with
 |next=>
  obtain ⟨σ',H',I',q⟩:=q
  exact h2 pins s1 σ' H' D I' q
 |ret v=>exact q
 |brk=>exact q
 |cont=>exact q
theorem ag (h1:PS X st t):PSs X [st] t:=by
 intro pins s σ H D I h
 refine wpAny_execs_cons (thn (h1 pins s σ H D I h) fun f s1 q=> ?_)
 cases f with
 |next=>exact wpAny_execs_nil q
 |ret v=>exact q
 |brk=>exact q
 |cont=>exact q
theorem Inv.quiet {pins:List (Addr×Obj)} {σ:St} {H:Hp} {s:Shared} (I:Inv X pins σ H s):interactive X.env=false:=by simp [interactive,I.ok.kind]
def wO (te:TE):TS:=fun D σ H=>te σ H fun _ H1=>D.nx σ H1
theorem eY (he:PE X e te) (hs:swapsWith e none pos.line X.env=pure false:=by rfl):PS X (.Expr e pos) (wO te):=by
 intro pins s σ H D I h
 exact wpAny_Expr_any (thn (he pins s σ H _ I h) fun v s1 ⟨x,H1,I1,r1,q1⟩=>⟨σ,H1,I1,q1⟩) I.quiet hs
def tRet (te:TE):TS:=fun D σ H=>te σ H D.rt
theorem aj (he:PE X e te):PS X (.Return (some e) pos) (tRet te):=by
 intro pins s σ H D I h
 exact wpAny_Return_some (thn (he pins s σ H _ I h) fun v s1 ⟨x,H1,I1,r1,q1⟩=>⟨x,σ,H1,I1,r1,q1⟩)
def tIfS (c:TT) (t u:TS):TS:=fun D σ H=>c σ H fun b H1=>if b=true then t D σ H1 else u D σ H1
theorem aK {c:Expr} {a b:List Stmt} {tc:TT} (hc:PT X c tc) (ha:PSs X a t) (hb:PSs X b u):PS X (.If c a b pos) (tIfS tc t u):=by
 intro pins s σ H D I h
 refine wpAny_If (thn (hc pins s σ H _ I h) fun d s1 ⟨H1,I1,q1⟩=> ?_)
 cases d with
 |true=>exact ha pins s1 σ H1 D I1 q1
 |false=>exact hb pins s1 σ H1 D I1 q1
end
abbrev TG:=V→St→Hp→(St→Hp→Prop)→Prop
abbrev TGs:=List V→St→Hp→(St→Hp→Prop)→Prop
def PG (X:Cx) (target:Expr) (t:TG):Prop:=
 ∀(pins:List (Addr×Obj)) (s:Shared) (σ:St) (H:Hp) (v:V) (u:Value) (Q:St→Hp→Prop),Inv X pins σ H s→RelV v u→t v σ H Q→
  wpAny (model X.prog X.w) X.A (assign target X.env u) (fun _ s'=>∃σ' H',Inv X pins σ' H' s'∧Q σ' H') X.xe s
def PGs (X:Cx) (ts:List Expr) (t:TGs):Prop:=
 ∀(pins:List (Addr×Obj)) (s:Shared) (σ:St) (H:Hp) (vs:List V) (us:List Value) (Q:St→Hp→Prop),Inv X pins σ H s→Vals vs us→t vs σ H Q→
  wpAny (model X.prog X.w) X.A (assignInOrder ((assignEach ts X.env).map (·.2)) us) (fun _ s'=>∃σ' H',Inv X pins σ' H' s'∧Q σ' H') X.xe s
abbrev TSet:=V→V→V→Hp→(Hp→Prop)→Prop
def PSet (X:Cx) (t:TSet):Prop:=
 ∀(pins:List (Addr×Obj)) (s:Shared) (σ:St) (H:Hp) (o i v:V) (ov iv u:Value) (Q:Hp→Prop),Inv X pins σ H s→RelV o ov→RelV i iv→RelV v u→t o i v H Q→
  wpAny (model X.prog X.w) X.A (setItem ov iv u) (fun _ s'=>∃H',Inv X pins σ H' s'∧Q H') X.xe s
section
variable {X:Cx} {pos:Pos}
def cp (i:Nat):TG:=fun v σ H Q=>Q (σ.set i (some v)) H
theorem aQ {i:Nat} {x:Str} (hN:X.N.Nodup) (hi:X.N[i]?=some x) (hx:Loc X.env.scope x) (hf:X.fn x=true∨X.env.scope.names.lookup x=some .local:=by first|exact .inl rfl|exact .inr rfl|assumption):PG X (.Name x pos) (cp i):=by
 intro pins s σ H v u Q I r h
 exact wpAny_assign_Name (ft I hN hi hx r (fun s' I'=>⟨_,H,I',h⟩) hf)
def gNil:TGs:=fun vs σ H Q=>vs= []∧Q σ H
def fY (t:TG) (u:TGs):TGs:=fun vs σ H Q=>∃v r,vs=v::r∧t v σ H fun σ' H'=>u r σ' H' Q
theorem fU:PGs X [] gNil:=by
 intro pins s σ H vs us Q I r h
 obtain ⟨e,h⟩:=h
 subst e
 cases r
 exact assignInOrder_nil ⟨σ,H,I,h⟩
theorem c9 {e:Expr} {es:List Expr} {t:TG} {u:TGs} (h1:PG X e t) (h2:PGs X es u)
 (hs:(assignEach (e::es) X.env).map (·.2)=assign e X.env::(assignEach es X.env).map (·.2):=by rfl):PGs X (e::es) (fY t u):=by
 intro pins s σ H vs us Q I r h
 obtain ⟨v,vr,e1,h⟩:=h
 subst e1
 cases r with
 |cons r rr=>
  rw [hs]
  refine assignInOrder_cons (thn (h1 pins s σ H _ _ _ I r h) fun _ s1 ⟨σ1,H1,I1,q1⟩=> ?_)
  exact h2 pins s1 σ1 H1 _ _ Q I1 rr q1
def gTup (K:PySem.W.Frag) (n:Nat) (t:TGs):TG:=fun v σ H Q=>∃a xs,v= .ref a∧SqT K H a xs∧xs.length=n∧t xs σ H Q
theorem iV {es:List Expr} {k:Nat} {t:TGs} {n:Nat} (hc:X.calm=true) (h:PGs X es t)
 (hn:(assignEach es X.env).length=n:=by rfl) (hst:(assignEach es X.env).findIdx? (·.1)=none:=by rfl):PG X (.Tuple es k pos) (gTup X.K n t):=by
 intro pins s σ H v u Q I r hw
 obtain ⟨a,xs,e1,hq,hl,hw⟩:=hw
 subst e1
 cases r
 obtain ⟨its,rv,ht,hz⟩:=I.tuple hq
 refine assign_Tuple_tuple (I.ok.hd hc) ht (by simp [hn,←hl,rv.length]) hst fun h' hx=> ?_
 have I1:Inv X pins σ H {s with heap:=h'}:=I.kept (t':=s.toks) fun b o e=>hx b o (Nat.ne_of_lt (Heap.lt_size e)) e
 exact h pins _ σ H xs _ Q I1 (by simpa using rv) hw
def gSub (to ti:TE) (t:TSet):TG:=fun v σ H Q=>to σ H fun o H1=>ti σ H1 fun i H2=>t o i v H2 fun H3=>Q σ H3
theorem nn {o i:Expr} {to ti:TE} {t:TSet} (ho:PE X o to) (hi:PE X i ti) (hs:PSet X t)
 (ha:∀v,assign (.Subscript o i pos) X.env v=(do
  let ov←holding [v] (eval o X.env)
  let iv←holding [v,ov] (eval i X.env)
  standAt pos
  holding [v,ov,iv] (setItem ov iv v)
  release [v,ov,iv] []):=by intro _;rfl):PG X (.Subscript o i pos) (gSub to ti t):=by
 intro pins s σ H v u Q I r h
 rw [ha]
 refine wpAny_bind (wpAny_holding (thn (ho pins s σ H _ I h) fun ov s1 ⟨x,H1,I1,r1,q1⟩=> ?_))
 refine wpAny_bind (wpAny_holding (thn (hi pins s1 σ H1 _ I1 q1) fun iv s2 ⟨y,H2,I2,r2,q2⟩=> ?_))
 refine wpAny_bind (wpAny_standAt (wpAny_bind (wpAny_holding (thn (hs pins s2 σ H2 x y v ov iv u _ I2 r1 r2 r q2) fun _ s3 ⟨H3,I3,q3⟩=> ?_))))
 exact wpAny_release ⟨σ,H3,I3,q3⟩
def tAsg (te:TE) (g:TG):TS:=fun D σ H=>te σ H fun x H1=>g x σ H1 D.nx
theorem iU {tg e:Expr} {te:TE} {g:TG} (he:PE X e te) (hg:PG X tg g) (hs:swapsWithSole [tg] e pos.line X.env=pure false:=by rfl) (hw:swappedStores [tg] e X.env=pure none:=by rfl)
 (h1:(assignEach [tg] X.env).map (·.2)= [assign tg X.env]:=by rfl):PS X (.Assign [tg] e pos) (tAsg te g):=by
 intro pins s σ H D I h
 refine wpAny_Assign_stores (thn (he pins s σ H _ I h) fun v s1 ⟨x,H1,I1,r1,q1⟩=> ?_) hs hw
 rw [h1]
 exact thn (hg pins s1 σ H1 x v _ I1 r1 q1) fun _ s2 q=>q
theorem aD {i:Nat} {x:Str} {e:Expr} {te:TE} {pos':Pos} (hN:X.N.Nodup) (hi:X.N[i]?=some x) (hx:Loc X.env.scope x) (he:PE X e te) (hs:swapsWith e (some (.Name x pos')) pos.line X.env=pure false:=by rfl) (hf:X.fn x=true∨X.env.scope.names.lookup x=some .local:=by first|exact .inl rfl|exact .inr rfl|assumption):
 PS X (.Assign [.Name x pos'] e pos) (tAsg te (cp i)):=by
 intro pins s σ H D I h
 refine wpAny_Assign_Name (thn (he pins s σ H _ I h) fun v s1 ⟨y,H1,I1,r1,q1⟩=> ?_) hs
 exact ft I1 hN hi hx r1 (fun s2 I2=>⟨_,H1,I2,q1⟩) hf
def tPar (i j:Nat) (ta:TA):TS:=fun D σ H=>ta σ H fun vs H1=>∃v w,vs= [v,w]∧D.nx ((σ.set i (some v)).set j (some w)) H1
theorem vR {i j:Nat} {x y:Str} {a b:Expr} {ta:TA} {px py pt:Pos} {kt k2 pt2} (hc:X.calm=true) (hN:X.N.Nodup) (hi:X.N[i]?=some x) (hj:X.N[j]?=some y) (hij:i≠j)
 (hx:X.env.scope.names.lookup x=some .local) (hy:X.env.scope.names.lookup y=some .local) (ha:PA X [a,b] ta)
 (hw:swappedStores [.Tuple [.Name x px, .Name y py] kt pt] (.Tuple [a,b] k2 pt2) X.env=pure (some [x,y]))
 (hs:swapsWithSole [.Tuple [.Name x px, .Name y py] kt pt] (.Tuple [a,b] k2 pt2) pos.line X.env=pure false:=by rfl):
 PS X (.Assign [.Tuple [.Name x px, .Name y py] kt pt] (.Tuple [a,b] k2 pt2) pos) (tPar i j ta):=by
 intro pins s σ H D I h
 rw [exec_Assign_arm]
 refine wpAny_bind (wpAny_standAt ?_)
 rw [hs]
 refine wpAny_bind (wpAny_pure ?_)
 rw [if_neg (by decide)]
 refine wpAny_bind (Tuple_ (thn (ha _ pins s σ H _ I h) fun us s1 ⟨vs,H1,I1,r1,q1⟩=> ?_))
 obtain ⟨v,w,e1,q1⟩:=q1
 subst e1
 obtain ⟨u1,u2,rfl,rv,rw'⟩:∃u1 u2,us= [u1,u2]∧RelV v u1∧RelV w u2:=by
  cases r1 with
  |cons p q=>
   cases q with
   |cons p' q'=>
    cases q'
    exact ⟨_,_,rfl,p,p'⟩
 refine wpAny_newObj_type ?_ (by show 2≤sizeLine;decide)
 have I2:Inv X pins σ H1 {s1 with heap:=s1.heap.push {cls:= .type "tuple",data:= .seq [u1,u2].toArray}}:=I1.kept (t':=s1.toks) fun b o e=>Heap.get?_push_of_some _ e
 rw [hw]
 refine wpAny_bind (wpAny_pure ?_)
 show wpAny (model X.prog X.w) X.A (do rule "assign.swapped-stores";let items←unpackItems (.ref s1.heap.objs.size) 2 none;assignInOrder [fun v=>bindName X.env y v,fun v=>bindName X.env x v] items.reverse;pure Flow.next) _ _ _
 refine wpAny_bind (wpAny_rule (wpAny_bind (unpackItems_tuple (items:= #[u1,u2]) (I.ok.hd hc) (IsTup.new s1.heap _) fun h' hx'=> ?_)))
 have I3:=I2.kept (h':=h') (t':=s1.toks) fun b o e=>hx' b o (Nat.ne_of_lt (Heap.lt_size e)) e
 show wpAny _ _ (assignInOrder [fun v=>bindName X.env y v,fun v=>bindName X.env x v] [u2,u1] >>=fun _=>pure Flow.next) _ _ _
 refine wpAny_bind (assignInOrder_cons (wpAny_bindName (ft I3 hN hj (.inl hy) rw' (fun s2 I4=> ?_) (.inr hy))))
 refine assignInOrder_cons (wpAny_bindName (ft I4 hN hi (.inl hx) rv (fun s3 I5=>assignInOrder_nil (wpAny_pure ?_)) (.inr hx)))
 rw [List.set_comm _ _ (Ne.symm hij)] at I5
 exact ⟨_,H1,I5,q1⟩
end
section
variable {X:Cx} {pos:Pos}
def qw (c:TT) (tb:TS):TS:=fun D σ H=>∃W:Nat→St→Hp→Prop,(∃m,W m σ H)∧∀m σ H,W m σ H→
 c σ H fun b H1=>if b=true then∃N:St→Hp→Prop,(∀σ' H',N σ' H'→∃m',m' < m∧W m' σ' H')∧tb {D with nx:=N,ct:=N,bk:=D.nx} σ H1 else D.nx σ H1
theorem ly {c:Expr} {body:List Stmt} {tc:TT} {tb:TS} (hp:PassesOwn (model X.prog X.w) X.A X.env X.xe) (hc:PT X c tc) (hb:PSs X body tb):PS X (.While c body [] pos) (qw tc tb):=by
 intro pins s σ H D I h
 obtain ⟨W,⟨m0,w0⟩,turn⟩:=h
 refine wpAny_While (codeAny_whileLoop (fun n s'=>∃σ' H',Inv X pins σ' H' s'∧W n σ' H') ?_ m0 ⟨σ,H,I,w0⟩)
 rintro n s1 ⟨σ1,H1,I1,w1⟩
 refine wpAny_passesOwn hp (thn (hc pins s1 σ1 H1 _ I1 (turn n σ1 H1 w1)) fun b s2 ⟨H2,I2,q2⟩=> ?_)
 cases b with
 |true=>
  obtain ⟨N,hN,q2⟩:=q2
  rw [if_pos rfl]
  refine wpAny_passesOwn hp (thn (hb pins s2 σ1 H2 _ I2 q2) fun f s3 q3=> ?_)
  cases f with
  |next=>
   obtain ⟨σ3,H3,I3,n3⟩:=q3
   obtain ⟨m',hm,w3⟩:=hN σ3 H3 n3
   exact ⟨m',hm,σ3,H3,I3,w3⟩
  |cont=>
   obtain ⟨σ3,H3,I3,n3⟩:=q3
   obtain ⟨m',hm,w3⟩:=hN σ3 H3 n3
   exact ⟨m',hm,σ3,H3,I3,w3⟩
  |brk=>exact q3
  |ret v=>exact q3
 |false=>
  rw [if_neg Bool.false_ne_true]
  exact wpAny_execs_nil ⟨σ1,H2,I2,q2⟩
end
structure It where
 go:Nat→Hp→Prop
 yld:Nat→Hp→V→Hp→Prop
 stop:Nat→Hp→Prop
def FpOk (X:Cx) (pins:List (Addr×Obj)) (H:Hp) (b:Addr):Prop:=
 H b=none∧b≠X.env.locals∧b∉X.fs∧(b∈X.ex∨X.s₀.heap.objs.size≤b)∧(∀x c,X.env.cells.lookup x=some c→c≠b)∧∀p∈X.pn++pins,p.1≠b
theorem Inv.fpOk {X:Cx} {pins:List (Addr×Obj)} {σ:St} {H H':Hp} {s:Shared} {b:Addr} (I:Inv X pins σ H s) (hb:s.heap.objs.size≤b) (hn:H' b=none):FpOk X pins H' b:=by
 refine ⟨hn,Nat.ne_of_gt (Nat.lt_of_lt_of_le I.lt hb),I.nofs hb, .inr (Nat.le_trans I.sz hb),fun x c e z=> ?_,fun p hp z=> ?_⟩
 · obtain ⟨v,q⟩:=I.cell x c e
   exact absurd (Nat.lt_of_lt_of_le q.lt (by rw [z];exact hb)) (Nat.lt_irrefl _)
 · exact absurd (Nat.lt_of_lt_of_le (Heap.lt_size (I.pin p hp).1) (by rw [z];exact hb)) (Nat.lt_irrefl _)
structure Turn (P:Program) (w:World) (K:PySem.W.Frag) (tg:Expr) (J:It) (fp:List Addr) (it:Addr) (tn:Nat→Heap→Prop):Prop where
 mem:it∈fp
 obj:∀i h,tn i h→∀b∈fp,∃o,h.get? b=some o∧∀v,o.data≠ .cell v
 keep:∀i h h',tn i h→(∀b∈fp,∀o,h.get? b=some o→h'.get? b=some o)→tn i h'
 item:∀(X:Cx),X.prog=P→X.w=w→X.K=K→X.calm=true→∀(i:Nat) (pins:List (Addr×Obj)) (s:Shared) (σ:St) (H:Hp) (E:Value→Shared→Prop),Inv X pins σ H s→(∀b∈fp,FpOk X pins H b)→tn i s.heap→J.go i H→
  wpAny (model P w) X.A (pyNext (.ref it)) (fun r s1=>∃u,r=some u∧
   wpAny (model P w) X.A (letOwnedTupleGo tg (.ref it) u) (fun _ s2=>∃x H',Inv X pins σ H' s2∧RelV x u∧J.yld i H x H'∧tn (i+1) s2.heap∧∀b∈fp,H' b=none) E s1) E s
 done:∀(X:Cx),X.prog=P→X.w=w→X.K=K→X.calm=true→∀(i:Nat) (pins:List (Addr×Obj)) (s:Shared) (σ:St) (H:Hp) (E:Value→Shared→Prop),Inv X pins σ H s→(∀b∈fp,FpOk X pins H b)→tn i s.heap→J.stop i H→
  wpAny (model P w) X.A (pyNext (.ref it)) (fun r s1=>r=none∧Inv X pins σ H s1) E s
 self:∀(A:Around) (i:Nat) (s:Shared) (Q:Value→Shared→Prop) (E:Value→Shared→Prop),tn i s.heap→Q (.ref it) s→wpAny (model P w) A (pyIter (.ref it)) Q E s
abbrev TI:=St→Hp→(It→Hp→Prop)→Prop
def PIE (X:Cx) (pins:List (Addr×Obj)) (σ:St) (tg:Expr) (R:It→Hp→Prop) (itv:Value) (s2:Shared):Prop:=
 ∃(it:Addr) (fp:List Addr) (tn:Nat→Heap→Prop) (J:It) (H':Hp),itv= .ref it∧Inv X pins σ H' s2∧Turn X.prog X.w X.K tg J fp it tn∧tn 0 s2.heap∧(∀b∈fp,FpOk X pins H' b)∧R J H'
def PI (X:Cx) (tg iter:Expr) (wi:TI):Prop:=
 ∀(pins:List (Addr×Obj)) (s:Shared) (σ:St) (H:Hp) (R:It→Hp→Prop),Inv X pins σ H s→wi σ H R→
  wpAny (model X.prog X.w) X.A (eval iter X.env) (fun v s1=>wpAny (model X.prog X.w) X.A (pyIter v) (PIE X pins σ tg R) X.xe s1) X.xe s
theorem sP {M:Model} {A:Around} {E:Value→Shared→Prop} {s:Shared} {tg:Expr} {it:Addr} {u:Value} {o:Obj} {n:String} {vs:Array Value} {Q:Unit→Shared→Prop} (ho:s.heap.get? it=some o) (hc:o.cls= .type n) (hd:o.data= .fields vs)
 (hn: ["enumerate","zip","dict_itemiterator","dict_reverseitemiterator","odict_iterator","itertools.zip_longest","itertools.pairwise"].contains n=false) (hQ:Q () s):wpAny M A (letOwnedTupleGo tg (.ref it) u) Q E s:=by
 unfold letOwnedTupleGo
 cases tg<;>first
  |exact wpAny_pure hQ
  |(cases u<;>first
     |exact wpAny_pure hQ
     |(refine wpAny_bind (wpAny_load ho ?_)
       rw [hc,hd]
       show wpAny M A (if (["enumerate","zip","dict_itemiterator","dict_reverseitemiterator","odict_iterator","itertools.zip_longest","itertools.pairwise"].contains n&&vs[0]?==some (rawInt _))=true then _ else _) Q E s
       rw [if_neg (by intro h;rw [hn,Bool.false_and] at h;cases h)]
       exact wpAny_pure hQ))
def Itl (K:PySem.W.Frag) (a:Addr):It:=
 ⟨fun i H=>∃xs x,SqL K H a xs∧xs[i]?=some x,fun i H x H'=>H'=H∧∀xs,SqL K H a xs→xs[i]?=some x,fun i H=>∃xs,SqL K H a xs∧xs.length≤i⟩
def Itt (K:PySem.W.Frag) (a:Addr):It:=
 ⟨fun i H=>∃xs x,SqT K H a xs∧xs[i]?=some x,fun i H x H'=>H'=H∧∀xs,SqT K H a xs→xs[i]?=some x,fun i H=>∃xs,SqT K H a xs∧xs.length≤i⟩
def Itr (lo:Int) (n:Nat):It:=⟨fun i _=>i < n,fun i H x H'=>H'=H∧x= .int (lo+i),fun i _=>n≤i⟩
theorem pc {P:Program} {w:World} {K:PySem.W.Frag} {tg:Expr} (a it:Addr):Turn P w K tg (Itl K a) [it] it (fun i h=>h.IsListIter it a i) where
 mem:=by simp
 obj:=fun i h st b hb=>by
  have e:b=it:=by simpa using hb
  subst e
  obtain ⟨o,e,c,d⟩:=st
  exact ⟨o,e,fun v z=>by rw [d] at z;cases z⟩
 keep:=fun i h h' st k=>st.at fun o e=>k it (by simp) o e
 item:=by
  intro X hP hw hK hc i pins s σ H E I hf st hg
  subst hP hw hK
  obtain ⟨xs,x,hq,hx⟩:=hg
  obtain ⟨its,rv,p,hz⟩:=I.list hq
  obtain ⟨u,hu,ru⟩:=rv.get hx
  obtain ⟨f0,f1,f2,f3,f4,f5⟩:=hf it (by simp)
  refine wpAny_pyNext_list_item st p.isList (x:=u) (by simpa using hu) fun h' st' sb=> ?_
  have I1:Inv X pins σ H {s with heap:=h'}:=I.turned (t':=s.toks) (fun b o hb e=>(sb.2 b hb).trans e) f0 f1 f3 f4 f5
  obtain ⟨o,e,c,d⟩:=id st'
  exact ⟨u,rfl,sP (s:= {s with heap:=h'}) e c d (by decide) ⟨x,H,I1,ru,⟨rfl,fun ys hy=>by rw [I.list_inj hy hq];exact hx⟩,st',fun b hb=>(hf b hb).1⟩⟩
 done:=by
  intro X hP hw hK hc i pins s σ H E I hf st hg
  subst hP hw hK
  obtain ⟨xs,hq,hx⟩:=hg
  obtain ⟨its,rv,p,hz⟩:=I.list hq
  obtain ⟨f0,f1,f2,f3,f4,f5⟩:=hf it (by simp)
  have hl:=rv.length
  exact wpAny_pyNext_list_end (I.ok.hd hc) st p.isList (by simp;omega) fun h' eb=>⟨rfl,I.turned (t':=s.toks) (fun b o hb e=>eb b o hb e) f0 f1 f3 f4 f5⟩
 self:=fun _ _ _ _ _ st h=>wpAny_pyIter_listiter st h
theorem mv {P:Program} {w:World} {K:PySem.W.Frag} {tg:Expr} (a it:Addr):Turn P w K tg (Itt K a) [it] it (fun i h=>h.IsTupleIter it a i) where
 mem:=by simp
 obj:=fun i h st b hb=>by
  have e:b=it:=by simpa using hb
  subst e
  obtain ⟨o,e,c,d⟩:=st
  exact ⟨o,e,fun v z=>by rw [d] at z;cases z⟩
 keep:=fun i h h' st k=>st.at fun o e=>k it (by simp) o e
 item:=by
  intro X hP hw hK hc i pins s σ H E I hf st hg
  subst hP hw hK
  obtain ⟨xs,x,hq,hx⟩:=hg
  obtain ⟨its,rv,p,hz⟩:=I.tuple hq
  obtain ⟨u,hu,ru⟩:=rv.get hx
  obtain ⟨f0,f1,f2,f3,f4,f5⟩:=hf it (by simp)
  refine wpAny_pyNext_tuple_item st (show s.heap.IsTuple a its.toArray from p) (x:=u) (by simpa using hu) fun h' st' sb=> ?_
  have I1:Inv X pins σ H {s with heap:=h'}:=I.turned (t':=s.toks) (fun b o hb e=>(sb.2 b hb).trans e) f0 f1 f3 f4 f5
  obtain ⟨o,e,c,d⟩:=id st'
  exact ⟨u,rfl,sP (s:= {s with heap:=h'}) e c d (by decide) ⟨x,H,I1,ru,⟨rfl,fun ys hy=>by rw [I.tuple_inj hy hq];exact hx⟩,st',fun b hb=>(hf b hb).1⟩⟩
 done:=by
  intro X hP hw hK hc i pins s σ H E I hf st hg
  subst hP hw hK
  obtain ⟨xs,hq,hx⟩:=hg
  obtain ⟨its,rv,p,hz⟩:=I.tuple hq
  obtain ⟨f0,f1,f2,f3,f4,f5⟩:=hf it (by simp)
  have hl:=rv.length
  exact wpAny_pyNext_tuple_end (I.ok.hd hc) st (show s.heap.IsTuple a its.toArray from p) (by simp;omega) fun h' eb=>⟨rfl,I.turned (t':=s.toks) (fun b o hb e=>eb b o hb e) f0 f1 f3 f4 f5⟩
 self:=fun _ _ _ _ _ st h=>wpAny_pyIter_tupleiter st h
theorem mw {P:Program} {w:World} {K:PySem.W.Frag} {tg:Expr} (it:Addr) (lo:Int) (n:Nat):Turn P w K tg (Itr lo n) [it] it (fun i h=>IsRangeIter h it (lo+(i:Nat)*1) ((n:Int) - (i:Nat)) 1) where
 mem:=by simp
 obj:=fun i h st b hb=>by
  have e:b=it:=by simpa using hb
  subst e
  exact ⟨_,st,fun v z=>by
   have z':Data.fields _=Data.cell v:=z
   cases z'⟩
 keep:=fun i h h' st k=>k it (by simp) _ st
 item:=by
  intro X hP hw hK hc i pins s σ H E I hf st hg
  subst hP hw hK
  obtain ⟨f0,f1,f2,f3,f4,f5⟩:=hf it (by simp)
  have W:=Walks.range (prog:=X.prog) (w:=X.w) (I.ok.hd hc) it lo 1 n
  refine W.item i s _ _ hg st fun v h' tk hv st' kk=> ?_
  obtain ⟨t,rfl⟩:=hv
  have I1:Inv X pins σ H {s with heap:=h',toks:=tk}:=I.turned (fun b o hb e=>kk b o (by simpa using hb) e) f0 f1 f3 f4 f5
  refine ⟨_,rfl,sP (s:= {s with heap:=h',toks:=tk}) (n:="range_iterator") st' rfl rfl (by decide) ⟨.int (lo+i),H,I1,⟨t,?_⟩,⟨rfl,rfl⟩,st',fun b hb=>(hf b hb).1⟩⟩
  rw [Int.mul_one]
 done:=by
  intro X hP hw hK hc i pins s σ H E I hf st hg
  subst hP hw hK
  obtain ⟨f0,f1,f2,f3,f4,f5⟩:=hf it (by simp)
  exact wpAny_pyNext_range_end (I.ok.hd hc) st (by have:n≤i:=hg;omega) fun h' eb=>⟨rfl,I.turned (t':=s.toks) (fun b o hb e=>eb b o hb e) f0 f1 f3 f4 f5⟩
 self:=fun _ _ _ _ _ st h=>wpAny_pyIter_rangeiter st h
open PySem PySem.Spec PyProof.Rows
section
variable {X:Cx} {tg:Expr}
def xJ (K:PySem.W.Frag) (tl:TE):TI:=fun σ H R=>tl σ H fun x H1=>∃a,x= .ref a∧(∃xs,SqL K H1 a xs)∧R (Itl K a) H1
def iTup (K:PySem.W.Frag) (tl:TE):TI:=fun σ H R=>tl σ H fun x H1=>∃a,x= .ref a∧(∃xs,SqT K H1 a xs)∧R (Itt K a) H1
theorem fK {l:Expr} {tl:TE} (hl:PE X l tl):PI X tg l (xJ X.K tl):=by
 intro pins s σ H R I h
 refine thn (hl pins s σ H _ I h) fun v s1 ⟨x,H1,I1,r1,q1⟩=> ?_
 obtain ⟨a,e,⟨xs,hq⟩,q⟩:=q1
 subst e
 cases r1
 obtain ⟨its,rv,p,hz⟩:=I1.list hq
 refine wpAny_pyIter_list p.isList ?_
 refine ⟨s1.heap.objs.size,[s1.heap.objs.size],_,_,H1,rfl,I1.kept (t':=s1.toks) fun b o e=>Heap.get?_push_of_some _ e,pc a _,⟨_,Heap.get?_push_size _ rfl,rfl,rfl⟩,fun b hb=> ?_,q⟩
 have e:b=s1.heap.objs.size:=by simpa using hb
 subst e
 exact I1.fpOk (Nat.le_refl _) (I1.hok.fresh (Nat.le_refl _))
theorem fj {l:Expr} {tl:TE} (hl:PE X l tl):PI X tg l (iTup X.K tl):=by
 intro pins s σ H R I h
 refine thn (hl pins s σ H _ I h) fun v s1 ⟨x,H1,I1,r1,q1⟩=> ?_
 obtain ⟨a,e,⟨xs,hq⟩,q⟩:=q1
 subst e
 cases r1
 obtain ⟨its,rv,p,hz⟩:=I1.tuple hq
 refine wpAny_pyIter_tuple (show s1.heap.IsTuple a its.toArray from p) ?_
 refine ⟨s1.heap.objs.size,[s1.heap.objs.size],_,_,H1,rfl,I1.kept (t':=s1.toks) fun b o e=>Heap.get?_push_of_some _ e,mv a _,⟨_,Heap.get?_push_size _ rfl,rfl,rfl⟩,fun b hb=> ?_,q⟩
 have e:b=s1.heap.objs.size:=by simpa using hb
 subst e
 exact I1.fpOk (Nat.le_refl _) (I1.hok.fresh (Nat.le_refl _))
theorem qK {pins:List (Addr×Obj)} {σ:St} {H:Hp} {s:Shared} {R:It→Hp→Prop} {E:Value→Shared→Prop} {lo hi:Int} {t u v:Tok} {tk:Nat} (I:Inv X pins σ H s) (h1:-(2^62)≤lo) (h2:lo < 2^62) (h3:-(2^62)≤hi) (h4:hi < 2^62)
 (q:R (Itr lo (hi - lo).toNat) H):wpAny (model X.prog X.w) X.A (pyIter (.ref s.heap.objs.size)) (PIE X pins σ tg R) E {s with heap:=s.heap.push {cls:= .type "range",data:= .fields #[.int lo t, .int hi u, .int 1 v]},toks:=tk}:=by
 refine wpAny_pyIter_range (IsRange.new ..) (small_one h1 h2 h3 h4) ?_
 have I1:Inv X pins σ H {s with heap:=s.heap.push {cls:= .type "range",data:= .fields #[.int lo t, .int hi u, .int 1 v]},toks:=tk}:=I.kept fun b o e=>Heap.get?_push_of_some _ e
 refine ⟨(s.heap.push {cls:= .type "range",data:= .fields #[.int lo t, .int hi u, .int 1 v]}).objs.size,[(s.heap.push {cls:= .type "range",data:= .fields #[.int lo t, .int hi u, .int 1 v]}).objs.size],_,_,H,rfl,
  I1.kept (t':=tk) fun b o e=>Heap.get?_push_of_some _ e,mw _ lo (hi - lo).toNat,?_,fun b hb=> ?_,q⟩
 · have e1:lo+((0:Nat):Int)*1=lo:=by simp
   have e2:(((hi - lo).toNat:Nat):Int) - ((0:Nat):Int)=Builtin.Range.rangeSize lo hi 1:=by rw [rangeSize_one];split<;>omega
   show IsRangeIter _ _ (lo+((0:Nat):Int)*1) ((((hi - lo).toNat:Nat):Int) - ((0:Nat):Int)) 1
   rw [e1,e2]
   exact Heap.get?_push_size _ rfl
 · have e:b=(s.heap.push {cls:= .type "range",data:= .fields #[.int lo t, .int hi u, .int 1 v]}).objs.size:=by simpa using hb
   subst e
   exact I1.fpOk (Nat.le_refl _) (I1.hok.fresh (Nat.le_refl _))
def xI (ta:TA):TI:=fun σ H R=>ta σ H fun vs H1=>∃j:Int,vs= [.int j]∧ -(2^62)≤j∧j < 2^62∧R (Itr 0 j.toNat) H1
theorem bY {a:Expr} {ta:TA} {p pos:Pos} (hg:Gl X "range") (hm:X.mg "range"=none) (ha:PA X [a] ta) (hs:starEach [a] X.env= [(false,eval a X.env)]:=by rfl):PI X tg (.Call (.Name "range" p) [a] [] pos) (xI ta):=by
 intro pins s σ H R I h
 refine Call_ (i9 I hg hm boot_range (PyProof.Rows.callWith_type1 (thn (ha pos pins s σ H _ I h) fun us s1 ⟨vs,H1,I1,r1,q1⟩=> ?_) hs rfl))
 obtain ⟨j,e,q1,q2,q⟩:=q1
 subst e
 cases r1 with
 |cons r rr=>
  cases rr
  obtain ⟨t,rfl⟩:=r
  exact call_range_1 (qK I1 (by omega) (by omega) q1 q2 (by simpa using q))
def tFor (wi:TI) (g:TG) (tb:TS):TS:=fun D σ H=>wi σ H fun J H1=>∃W:Nat→Nat→St→Hp→Prop,(∃m,W 0 m σ H1)∧∀i m σ H,W i m σ H→
 (J.stop i H∧D.nx σ H)∨(J.go i H∧∃N:St→Hp→Prop,(∀σ' H',N σ' H'→∃m',m' < m∧W (i+1) m' σ' H')∧∀x H',J.yld i H x H'→g x σ H' fun σ2 H2=>tb {D with nx:=N,ct:=N,bk:=D.nx} σ2 H2)
noncomputable def i5 (fp:List Addr) (h:Heap):List (Addr×Obj):=fp.filterMap fun b=>(h.get? b).map fun o=>(b,o)
theorem cC {fp:List Addr} {h:Heap} {b:Addr} {o:Obj} (hb:b∈fp) (e:h.get? b=some o):(b,o)∈i5 fp h:=List.mem_filterMap.mpr ⟨b,hb,by rw [e];rfl⟩
theorem pL {fp:List Addr} {h:Heap} {p:Addr×Obj} (hp:p∈i5 fp h):p.1∈fp∧h.get? p.1=some p.2:=by
 obtain ⟨b,hb,e⟩:=List.mem_filterMap.mp hp
 cases q:h.get? b with
 |none=>rw [q] at e;cases e
 |some o=>
  rw [q] at e
  have e':(b,o)=p:=Option.some.inj e
  subst e'
  exact ⟨hb,q⟩
theorem Inv.pinned {pins:List (Addr×Obj)} {σ:St} {H:Hp} {s:Shared} {fp:List Addr} (I:Inv X pins σ H s) (hf:∀b∈fp,FpOk X pins H b) (ho:∀b∈fp,∃o,s.heap.get? b=some o∧∀v,o.data≠ .cell v):Inv X (pins++i5 fp s.heap) σ H s:=
 I.pins_of fun p hp=>(List.mem_append.mp hp).elim (fun z=>I.pin p (List.mem_append_right _ z)) fun z=>by
  obtain ⟨hb,e⟩:=pL z
  obtain ⟨f0,f1,f2,_⟩:=hf p.1 hb
  obtain ⟨o,e',d⟩:=ho p.1 hb
  rw [e] at e';cases e'
  exact ⟨e,f0,f1,f2,d⟩
theorem Inv.unpinned {pins pl:List (Addr×Obj)} {σ:St} {H:Hp} {s:Shared} (I:Inv X (pins++pl) σ H s):Inv X pins σ H s:=I.pins_of fun p hp=>I.pin p (List.mem_append_right _ (List.mem_append_left _ hp))
theorem iT {iter:Expr} {body:List Stmt} {wi:TI} {g:TG} {tb:TS} {pos:Pos} (hp:PassesOwn (model X.prog X.w) X.A X.env X.xe) (hc:X.calm=true) (hi:PI X tg iter wi) (hg:PG X tg g) (hb:PSs X body tb)
 (hs:∀x,foldedSetIterable iter X.env x=pure x:=by intro _;rfl):PS X (.For tg iter body [] pos) (tFor wi g tb):=by
 intro pins s σ H D I h
 refine wpAny_For (thn (hi pins s σ H _ I h) fun v s1 h1=>thn h1 fun itv s2 h2=> ?_) hs
 obtain ⟨it,fp,tn,J,H2,e,I2,T,st2,f2,W,⟨m0,w0⟩,turn⟩:=h2
 subst e
 have stat:∀ {H':Hp},(∀b∈fp,H' b=none)→∀b∈fp,FpOk X pins H' b:=fun hn b hb=>⟨hn b hb,(f2 b hb).2⟩
 refine codeAny_forLoop_any (fun n s'=>∃i σ' H',Inv X pins σ' H' s'∧tn i s'.heap∧(∀b∈fp,H' b=none)∧W i n σ' H') ?_ m0 ⟨0,σ,H2,I2,st2,fun b hb=>(f2 b hb).1,w0⟩
 rintro n s3 ⟨i,σ3,H3,I3,st3,fr3,w3⟩
 rcases turn i n σ3 H3 w3 with ⟨stop,qn⟩|⟨go,N,hN,step⟩
 · refine wpAny_passesOwn hp (thn (T.done X rfl rfl rfl hc i pins s3 σ3 H3 X.xe I3 (stat fr3) st3 stop) fun r s4 ⟨hr,I4⟩=> ?_)
   subst hr
   exact wpAny_execs_nil ⟨σ3,H3,I4,qn⟩
 · refine wpAny_passesOwn hp (thn (T.item X rfl rfl rfl hc i pins s3 σ3 H3 X.xe I3 (stat fr3) st3 go) fun r s4 ⟨u,hr,h4⟩=> ?_)
   subst hr
   refine wpAny_passesOwn hp (thn h4 fun _ s5 ⟨x,H5,I5,r5,y5,st5,fr5⟩=> ?_)
   have I5':=I5.pinned (stat fr5) (T.obj _ _ st5)
   refine wpAny_passesOwn hp (thn (hg _ s5 σ3 H5 x u _ I5' r5 (step x H5 y5)) fun _ s6 ⟨σ6,H6,I6,q6⟩=> ?_)
   refine wpAny_passesOwn hp (thn (hb _ s6 σ6 H6 _ I6 q6) fun f s7 q7=> ?_)
   have again:∀ {σ7:St} {H7:Hp},Inv X (pins++i5 fp s5.heap) σ7 H7 s7→N σ7 H7→∃m,m < n∧∃i σ' H',Inv X pins σ' H' s7∧tn i s7.heap∧(∀b∈fp,H' b=none)∧W i m σ' H':=fun {σ7 H7} I7 n7=>by
    obtain ⟨m',hm,w7⟩:=hN σ7 H7 n7
    refine ⟨m',hm,i+1,σ7,H7,I7.unpinned,T.keep _ _ _ st5 fun b hb o e=>(I7.pin (b,o) (List.mem_append_right _ (List.mem_append_right _ (cC hb e)))).1,fun b hb=> ?_,w7⟩
    obtain ⟨o,e,d⟩:=T.obj _ _ st5 b hb
    exact (I7.pin (b,o) (List.mem_append_right _ (List.mem_append_right _ (cC hb e)))).2.1
   cases f with
   |next=>obtain ⟨σ7,H7,I7,n7⟩:=q7;exact again I7 n7
   |cont=>obtain ⟨σ7,H7,I7,n7⟩:=q7;exact again I7 n7
   |brk=>obtain ⟨σ7,H7,I7,q7⟩:=q7;exact ⟨σ7,H7,I7.unpinned,q7⟩
   |ret v=>obtain ⟨x7,σ7,H7,I7,r7,q7⟩:=q7;exact ⟨x7,σ7,H7,I7.unpinned,r7,q7⟩
end
theorem fZ {K:PySem.W.Frag} {a:Addr} {xs:List V} {g:TG} {tb:TS} {D:Ends} {σ:St} {H:Hp} (Pv:Nat→St→Hp→Prop) (h0:Pv 0 σ H) (hl:∀i σ H,i≤xs.length→Pv i σ H→SqL K H a xs)
 (hs:∀i x σ H,xs[i]?=some x→Pv i σ H→g x σ H fun σ2 H2=>tb {D with nx:=Pv (i+1),ct:=Pv (i+1),bk:=D.nx} σ2 H2) (hd:∀σ H,Pv xs.length σ H→D.nx σ H):
 ∃W:Nat→Nat→St→Hp→Prop,(∃m,W 0 m σ H)∧∀i m σ H,W i m σ H→
  ((Itl K a).stop i H∧D.nx σ H)∨((Itl K a).go i H∧∃N:St→Hp→Prop,(∀σ' H',N σ' H'→∃m',m' < m∧W (i+1) m' σ' H')∧∀x H',(Itl K a).yld i H x H'→g x σ H' fun σ2 H2=>tb {D with nx:=N,ct:=N,bk:=D.nx} σ2 H2):=by
 refine ⟨fun i m σ H=>m=xs.length - i∧i≤xs.length∧Pv i σ H,⟨xs.length,by simp,Nat.zero_le _,h0⟩,?_⟩
 rintro i m σ H ⟨rfl,hi,p⟩
 have q:=hl i σ H hi p
 by_cases hlt:i < xs.length
 · refine .inr ⟨⟨xs,xs[i],q,by simp [hlt]⟩,Pv (i+1),fun σ' H' p'=>⟨xs.length - (i+1),by omega,rfl,hlt,p'⟩,fun x H' y=> ?_⟩
   obtain ⟨e,y⟩:=y
   subst e
   exact hs i x σ _ (y xs q) p
 · have e:i=xs.length:=by omega
   subst e
   exact .inl ⟨⟨xs,q,Nat.le_refl _⟩,hd σ H p⟩
theorem pR {lo:Int} {n:Nat} {g:TG} {tb:TS} {D:Ends} {σ:St} {H:Hp} (Pv:Nat→St→Hp→Prop) (h0:Pv 0 σ H)
 (hs:∀i σ H,i < n→Pv i σ H→g (.int (lo+i)) σ H fun σ2 H2=>tb {D with nx:=Pv (i+1),ct:=Pv (i+1),bk:=D.nx} σ2 H2) (hd:∀σ H,Pv n σ H→D.nx σ H):
 ∃W:Nat→Nat→St→Hp→Prop,(∃m,W 0 m σ H)∧∀i m σ H,W i m σ H→
  ((Itr lo n).stop i H∧D.nx σ H)∨((Itr lo n).go i H∧∃N:St→Hp→Prop,(∀σ' H',N σ' H'→∃m',m' < m∧W (i+1) m' σ' H')∧∀x H',(Itr lo n).yld i H x H'→g x σ H' fun σ2 H2=>tb {D with nx:=N,ct:=N,bk:=D.nx} σ2 H2):=by
 refine ⟨fun i m σ H=>m=n - i∧i≤n∧Pv i σ H,⟨n,by simp,Nat.zero_le _,h0⟩,?_⟩
 rintro i m σ H ⟨rfl,hi,p⟩
 by_cases hlt:i < n
 · refine .inr ⟨hlt,Pv (i+1),fun σ' H' p'=>⟨n - (i+1),by omega,rfl,hlt,p'⟩,fun x H' y=> ?_⟩
   obtain ⟨e,y⟩:=y
   subst e y
   exact hs i σ _ hlt p
 · have e:i=n:=by omega
   subst e
   exact .inl ⟨Nat.le_refl _,hd σ H p⟩
theorem qf {c:TT} {tb:TS} {D:Ends} {σ:St} {H:Hp} (Pv:St→Hp→Prop) (μ:St→Hp→Nat) (h0:Pv σ H)
 (hs:∀σ H,Pv σ H→c σ H fun b H1=>if b=true then tb {D with nx:=fun σ' H'=>Pv σ' H'∧μ σ' H' < μ σ H,ct:=fun σ' H'=>Pv σ' H'∧μ σ' H' < μ σ H,bk:=D.nx} σ H1 else D.nx σ H1)
 (mono:∀σ H Q Q',(∀b H1,Q b H1→Q' b H1)→c σ H Q→c σ H Q'):qw c tb D σ H:=by
 refine ⟨fun m σ H=>m=μ σ H∧Pv σ H,⟨_,rfl,h0⟩,?_⟩
 rintro m σ H ⟨rfl,p⟩
 refine mono σ H _ _ (fun b H1 q=> ?_) (hs σ H p)
 cases b with
 |true=>exact ⟨_,fun σ' H' ⟨p',l⟩=>⟨_,l,rfl,p'⟩,q⟩
 |false=>exact q
open PySem PySem.Spec PyProof.Rows
abbrev R2:=V→V→Hp→VK→Prop
def OpR (X:Cx) (f:Value→Value→Sem Value) (r:R2):Prop:=
 ∀(pins:List (Addr×Obj)) (s:Shared) (σ:St) (H:Hp) (x y:V) (v u:Value) (Q:VK),Inv X pins σ H s→RelV x v→RelV y u→r x y H Q→
  wpAny (model X.prog X.w) X.A (f v u) (EP X pins σ Q) X.xe s
def UnR (X:Cx) (f:Value→Sem Value) (r:V→Hp→VK→Prop):Prop:=
 ∀(pins:List (Addr×Obj)) (s:Shared) (σ:St) (H:Hp) (x:V) (v:Value) (Q:VK),Inv X pins σ H s→RelV x v→r x H Q→
  wpAny (model X.prog X.w) X.A (f v) (EP X pins σ Q) X.xe s
def CallR (X:Cx) (f:Value) (r:List V→Hp→VK→Prop):Prop:=
 ∀(pins:List (Addr×Obj)) (s:Shared) (σ:St) (H:Hp) (xs:List V) (us:List Value) (Q:VK),Inv X pins σ H s→Vals xs us→r xs H Q→
  wpAny (model X.prog X.w) X.A (call f us) (EP X pins σ Q) X.xe s
def TruR (X:Cx) (r:V→Hp→(Bool→Hp→Prop)→Prop):Prop:=
 ∀(pins:List (Addr×Obj)) (s:Shared) (σ:St) (H:Hp) (x:V) (v:Value) (Q:Bool→Hp→Prop),Inv X pins σ H s→RelV x v→r x H Q→
  wpAny (model X.prog X.w) X.A (truthy v) (TP X pins σ Q) X.xe s
def tOp (r:R2) (ta tb:TE):TE:=fun σ H Q=>ta σ H fun x H1=>tb σ H1 fun y H2=>r x y H2 Q
def tUn (r:V→Hp→VK→Prop) (ta:TE):TE:=fun σ H Q=>ta σ H fun x H1=>r x H1 Q
def rI (C:Int→Int→Prop) (g:Int→Int→V):R2:=fun x y H Q=>∃i j,x= .int i∧y= .int j∧C i j∧Q (g i j) H
def rI0 (g:Int→Int→V):R2:=fun x y H Q=>∃i j,x= .int i∧y= .int j∧Q (g i j) H
def rU (g:Int→V):V→Hp→VK→Prop:=fun x H Q=>∃i,x= .int i∧Q (g i) H
section
variable {X:Cx} {a b c:Expr} {ta tb tc:TE} {pos:Pos}
theorem binT (ha:PE X a ta) (hb:PE X b tb) {pins:List (Addr×Obj)} {s:Shared} {σ:St} {H:Hp} {R:V→V→Hp→Prop} (I:Inv X pins σ H s)
 (h:ta σ H fun x H1=>tb σ H1 fun y H2=>R x y H2) {Q:Value→Shared→Prop} {f:Value→Value→Sem Value}
 (hf:∀v u s2 x y H2,Inv X pins σ H2 s2→RelV x v→RelV y u→R x y H2→wpAny (model X.prog X.w) X.A (f v u) Q X.xe s2):
 wpAny (model X.prog X.w) X.A (eval a X.env) (fun v s₁=>wpAny (model X.prog X.w) X.A (eval b X.env) (fun u s₂=>wpAny (model X.prog X.w) X.A (f v u) Q X.xe s₂) X.xe s₁) X.xe s:=by
 refine thn (ha pins s σ H _ I h) fun v s1 ⟨x,H1,I1,r1,q1⟩=> ?_
 refine thn (hb pins s1 σ H1 _ I1 q1) fun u s2 ⟨y,H2,I2,r2,q2⟩=> ?_
 exact hf v u s2 x y H2 I2 r1 r2 q2
theorem aE {op:Operator} {r:R2} (ho:OpR X (binaryOp op) r) (ha:PE X a ta) (hb:PE X b tb):PE X (.BinOp a op b pos) (tOp r ta tb):=by
 intro pins s σ H Q I h
 exact wpAny_BinOp (binT ha hb I h fun v u s2 x y H2 I2 rx ry q=>ho pins s2 σ H2 x y v u Q I2 rx ry q)
theorem cV {op:UnaryOp} {r:V→Hp→VK→Prop} (ho:UnR X (unaryOp op) r) (ha:PE X a ta):PE X (.UnaryOp op a pos) (tUn r ta):=by
 intro pins s σ H Q I h
 exact UnaryOp_ (thn (ha pins s σ H _ I h) fun v s1 ⟨x,H1,I1,r1,q1⟩=>ho pins s1 σ H1 x v Q I1 r1 q1)
theorem opI {f:Value→Value→Sem Value} {C:Int→Int→Prop} {g:Int→Int→Int}
 (rule:∀(i j:Int) (t u:Tok) (s:Shared) (Q:Value→Shared→Prop) (E:Value→Shared→Prop),C i j→Q (.int (g i j) s.toks) {s with toks:=s.toks+1}→wpAny (model X.prog X.w) X.A (f (.int i t) (.int j u)) Q E s):
 OpR X f (rI C fun i j=> .int (g i j)):=by
 intro pins s σ H x y v u Q I rx ry h
 obtain ⟨i,j,rfl,rfl,hc,q⟩:=h
 obtain ⟨t,rfl⟩:=rx
 obtain ⟨t',rfl⟩:=ry
 exact rule i j t t' s _ _ hc ⟨.int (g i j),H,I.tok _,⟨_,rfl⟩,q⟩
theorem opI0 {f:Value→Value→Sem Value} {g:Int→Int→Int}
 (rule:∀(i j:Int) (t u:Tok) (s:Shared) (Q:Value→Shared→Prop) (E:Value→Shared→Prop),Q (.int (g i j) s.toks) {s with toks:=s.toks+1}→wpAny (model X.prog X.w) X.A (f (.int i t) (.int j u)) Q E s):
 OpR X f (rI0 fun i j=> .int (g i j)):=by
 intro pins s σ H x y v u Q I rx ry h
 obtain ⟨i,j,rfl,rfl,q⟩:=h
 obtain ⟨t,rfl⟩:=rx
 obtain ⟨t',rfl⟩:=ry
 exact rule i j t t' s _ _ ⟨.int (g i j),H,I.tok _,⟨_,rfl⟩,q⟩
theorem opB0 {f:Value→Value→Sem Value} {g:Int→Int→Bool}
 (rule:∀(i j:Int) (t u:Tok) (s:Shared) (Q:Value→Shared→Prop) (E:Value→Shared→Prop),Q (.bool (g i j)) s→wpAny (model X.prog X.w) X.A (f (.int i t) (.int j u)) Q E s):
 OpR X f (rI0 fun i j=> .bl (g i j)):=by
 intro pins s σ H x y v u Q I rx ry h
 obtain ⟨i,j,rfl,rfl,q⟩:=h
 obtain ⟨t,rfl⟩:=rx
 obtain ⟨t',rfl⟩:=ry
 exact rule i j t t' s _ _ ⟨.bl (g i j),H,I,rfl,q⟩
def CPow (i j:Int):Prop:=0≤j∧j≤1000000∧i.natAbs < 2^64
def CMul (i j:Int):Prop:=(-(2^64) < i∧i < 2^64)∨(-(2^64) < j∧j < 2^64)
theorem CMul.ok {i j:Int} (h:CMul i j):IntMulOk i j:=by
 rcases h with ⟨h1,h2⟩|⟨h1,h2⟩
 · exact .of_left (intBits_le_64 h1 h2)
 · exact .of_right (intBits_le_64 h1 h2)
theorem bU:OpR X (binaryOp .Add) (rI0 fun i j=> .int (i+j)):=opI0 fun _ _ _ _ _ _ _ q=>add_int q
theorem fk:OpR X (binaryOp .Sub) (rI0 fun i j=> .int (i - j)):=opI0 fun _ _ _ _ _ _ _ q=>sub_int q
theorem dE:OpR X (binaryOp .Mod) (rI (fun _ j=>0 < j) fun i j=> .int (i%j)):=opI fun i j _ _ _ _ _ hc q=>by
 have h1:(0:Int) < j:=hc
 exact mod_int' (by omega) (by rw [Int.fmod_eq_emod_of_nonneg i (by omega)];exact q)
theorem uh:OpR X (binaryOp .Mod) (rI (fun _ j=>j≠0) fun i j=> .int (i.fmod j)):=opI fun _ _ _ _ _ _ _ hc q=>mod_int' hc q
theorem nw:OpR X (binaryOp .Pow) (rI CPow fun i j=> .int (i^j.toNat)):=opI fun _ _ _ _ _ _ _ hc q=>pow_int_small hc.1 hc.2.1 hc.2.2 q
theorem unI {f:Value→Sem Value} {g:Int→Int}
 (rule:∀(i:Int) (t:Tok) (s:Shared) (Q:Value→Shared→Prop) (E:Value→Shared→Prop),Q (.int (g i) s.toks) {s with toks:=s.toks+1}→wpAny (model X.prog X.w) X.A (f (.int i t)) Q E s):
 UnR X f (rU fun i=> .int (g i)):=by
 intro pins s σ H x v Q I rx h
 obtain ⟨i,rfl,q⟩:=h
 obtain ⟨t,rfl⟩:=rx
 exact rule i t s _ _ ⟨.int (g i),H,I.tok _,⟨_,rfl⟩,q⟩
theorem cr:UnR X (unaryOp .USub) (rU fun i=> .int (-i)):=unI fun _ _ _ _ _ q=>neg_int q
end
noncomputable def scal:V→V→Bool
 | .non, .non=>true| .non, .int _=>true| .int _, .non=>true| .non, .bl _=>true| .bl _, .non=>true| .non, .str _=>true| .str _, .non=>true
 | .int _, .int _=>true| .bl _, .bl _=>true| .str _, .str _=>true| .byt _, .byt _=>true
 | .int _, .str _=>true| .str _, .int _=>true| .bl _, .str _=>true| .str _, .bl _=>true
 |_,_=>false
def rEq:R2:=fun x y H Q=>scal x y=true∧Q (.bl (decide (x=y))) H
def rNe:R2:=fun x y H Q=>scal x y=true∧Q (.bl (!decide (x=y))) H
theorem oT {i j:Int}:decide (V.int i=V.int j)=(i==j):=by
 rw [Bool.eq_iff_iff]
 simp
theorem t6 {i j:Bool}:decide (V.bl i=V.bl j)=(i==j):=by
 rw [Bool.eq_iff_iff]
 simp
theorem oS {i j:Str}:decide (V.str i=V.str j)=(i==j):=by
 rw [Bool.eq_iff_iff]
 simp
theorem oU {i j:Array UInt8}:decide (V.byt i=V.byt j)=(i.toList==j.toList):=by
 rw [Bool.eq_iff_iff]
 cases i
 cases j
 simp
section
variable {X:Cx} {a b c:Expr} {ta tb tc:TE} {pos:Pos}
theorem aV {pins:List (Addr×Obj)} {σ:St} {H:Hp} {s:Shared} {Q:VK} {k k':Bool} (I:Inv X pins σ H s) (q:Q (.bl k) H) (e:k=k'):EP X pins σ Q (.bool k') s:=by
 subst e
 exact ⟨.bl k,H,I,rfl,q⟩
theorem be:OpR X (compareOp .Eq) rEq:=by
 intro pins s σ H x y v u Q I rx ry h
 obtain ⟨hs,q⟩:=h
 cases x with
 |non=>
  cases rx
  cases y with
  |non=>cases ry;exact PySem.EqNone.eq_none_none (aV I q (by simp))
  |bl j=>cases ry;exact PySem.EqNone.eq_none_bool (aV I q (by simp))
  |int j=>obtain ⟨t',rfl⟩:=ry;exact PySem.EqNone.eq_none_int (aV I q (by simp))
  |str j=>obtain ⟨t',rfl⟩:=ry;exact PySem.EqNone.eq_none_str (aV I q (by simp))
  |_=>exact absurd (show false=true from hs) Bool.false_ne_true
 |bl i=>
  cases rx
  cases y with
  |non=>cases ry;exact PySem.EqNone.eq_bool_none (aV I q (by simp))
  |bl j=>cases ry;exact eq_bool (aV I q t6)
  |str j=>obtain ⟨t',rfl⟩:=ry;exact PySem.EqMixed.eq_bool_str (aV I q (by simp))
  |_=>exact absurd (show false=true from hs) Bool.false_ne_true
 |int i=>
  obtain ⟨t,rfl⟩:=rx
  cases y with
  |non=>cases ry;exact PySem.EqNone.eq_int_none (aV I q (by simp))
  |int j=>obtain ⟨t',rfl⟩:=ry;exact eq_int (aV I q oT)
  |str j=>obtain ⟨t',rfl⟩:=ry;exact PySem.EqMixed.eq_int_str (aV I q (by simp))
  |_=>exact absurd (show false=true from hs) Bool.false_ne_true
 |str i=>
  obtain ⟨t,rfl⟩:=rx
  cases y with
  |non=>cases ry;exact PySem.EqNone.eq_str_none (aV I q (by simp))
  |bl j=>cases ry;exact PySem.EqMixed.eq_str_bool (aV I q (by simp))
  |int j=>obtain ⟨t',rfl⟩:=ry;exact PySem.EqMixed.eq_str_int (aV I q (by simp))
  |str j=>obtain ⟨t',rfl⟩:=ry;exact eq_str (aV I q oS)
  |_=>exact absurd (show false=true from hs) Bool.false_ne_true
 |byt i=>
  obtain ⟨t,rfl⟩:=rx
  cases y with
  |byt j=>obtain ⟨t',rfl⟩:=ry;exact PySem.W.eq_bytes (aV I q oU)
  |_=>exact absurd (show false=true from hs) Bool.false_ne_true
 |_=>cases y<;>exact absurd (show false=true from hs) Bool.false_ne_true
theorem rA:OpR X (compareOp .NotEq) rNe:=by
 intro pins s σ H x y v u Q I rx ry h
 obtain ⟨hs,q⟩:=h
 cases x with
 |non=>
  cases rx
  cases y with
  |non=>cases ry;exact PySem.EqNone.ne_none_none (aV I q (by simp))
  |bl j=>cases ry;exact PySem.EqNone.ne_none_bool (aV I q (by simp))
  |int j=>obtain ⟨t',rfl⟩:=ry;exact PySem.EqNone.ne_none_int (aV I q (by simp))
  |str j=>obtain ⟨t',rfl⟩:=ry;exact PySem.EqNone.ne_none_str (aV I q (by simp))
  |_=>exact absurd (show false=true from hs) Bool.false_ne_true
 |bl i=>
  cases rx
  cases y with
  |non=>cases ry;exact PySem.EqNone.ne_bool_none (aV I q (by simp))
  |bl j=>cases ry;exact ne_bool (aV I q (congrArg not t6))
  |str j=>obtain ⟨t',rfl⟩:=ry;exact PySem.EqMixed.ne_bool_str (aV I q (by simp))
  |_=>exact absurd (show false=true from hs) Bool.false_ne_true
 |int i=>
  obtain ⟨t,rfl⟩:=rx
  cases y with
  |non=>cases ry;exact PySem.EqNone.ne_int_none (aV I q (by simp))
  |int j=>obtain ⟨t',rfl⟩:=ry;exact ne_int (aV I q (congrArg not oT))
  |str j=>obtain ⟨t',rfl⟩:=ry;exact PySem.EqMixed.ne_int_str (aV I q (by simp))
  |_=>exact absurd (show false=true from hs) Bool.false_ne_true
 |str i=>
  obtain ⟨t,rfl⟩:=rx
  cases y with
  |non=>cases ry;exact PySem.EqNone.ne_str_none (aV I q (by simp))
  |bl j=>cases ry;exact PySem.EqMixed.ne_str_bool (aV I q (by simp))
  |int j=>obtain ⟨t',rfl⟩:=ry;exact PySem.EqMixed.ne_str_int (aV I q (by simp))
  |str j=>obtain ⟨t',rfl⟩:=ry;exact ne_str (aV I q (congrArg not oS))
  |_=>exact absurd (show false=true from hs) Bool.false_ne_true
 |byt i=>
  obtain ⟨t,rfl⟩:=rx
  cases y with
  |byt j=>obtain ⟨t',rfl⟩:=ry;exact PySem.W.ne_bytes (aV I q (congrArg not oU))
  |_=>exact absurd (show false=true from hs) Bool.false_ne_true
 |_=>cases y<;>exact absurd (show false=true from hs) Bool.false_ne_true
theorem lL:OpR X (compareOp .Lt) (rI0 fun i j=> .bl (decide (i < j))):=opB0 fun _ _ _ _ _ _ _ q=>lt_int q
theorem vg:OpR X (compareOp .LtE) (rI0 fun i j=> .bl (decide (i≤j))):=opB0 fun _ _ _ _ _ _ _ q=>le_int q
theorem dY:OpR X (compareOp .Gt) (rI0 fun i j=> .bl (decide (j < i))):=opB0 fun _ _ _ _ _ _ _ q=>gt_int q
theorem rD:OpR X (compareOp .GtE) (rI0 fun i j=> .bl (decide (j≤i))):=opB0 fun _ _ _ _ _ _ _ q=>ge_int q
theorem OpR.or {f:Value→Value→Sem Value} {r r':R2} (h:OpR X f r) (h':OpR X f r'):OpR X f (fun x y H Q=>r x y H Q∨r' x y H Q):=by
 intro pins s σ H x y v u Q I rx ry q
 rcases q with q|q
 · exact h pins s σ H x y v u Q I rx ry q
 · exact h' pins s σ H x y v u Q I rx ry q
theorem aq (b:Expr) {op:CmpOp} (h:op≠ .In:=by decide) (h2:op≠ .NotIn:=by decide):behindInMarks op b=false:=by
 have e1:(op==CmpOp.In)=false:=by cases op<;>first|rfl|exact absurd rfl h
 have e2:(op==CmpOp.NotIn)=false:=by cases op<;>first|rfl|exact absurd rfl h2
 cases b<;>simp [behindInMarks,e1,e2]
theorem aR {op:CmpOp} {r:R2} (ho:OpR X (compareOp op) r) (ha:PE X a ta) (hb:PE X b tb) (hm:behindInMarks op b=false):PE X (.Compare a [op] [b] pos) (tOp r ta tb):=by
 intro pins s σ H Q I h
 exact wpAny_Compare1 (binT ha hb I h fun v u s2 x y H2 I2 rx ry q=>ho pins s2 σ H2 x y v u Q I2 rx ry q) hm
def v4 (t:TE):TT:=fun σ H Q=>t σ H fun x H'=>∃k,x= .bl k∧Q k H'
theorem aw {op:CmpOp} {r:R2} (ho:OpR X (compareOp op) r) (ha:PE X a ta) (hb:PE X b tb) (hm:behindInMarks op b=false):PT X (.Compare a [op] [b] pos) (v4 (tOp r ta tb)):=by
 intro pins s σ H Q I h
 refine wpAny_isTrue_Compare1 (thn (ha pins s σ H _ I h) fun v s1 ⟨x,H1,I1,r1,q1⟩=>thn (hb pins s1 σ H1 _ I1 q1) fun u s2 ⟨y,H2,I2,r2,q2⟩=>
  thn (ho pins s2 σ H2 x y v u _ I2 r1 r2 q2) fun c s3 ⟨z,H3,I3,r3,k,e,q3⟩=> ?_) hm
 subst e
 cases r3
 exact wpAny_truthy_bool ⟨H3,I3,q3⟩
def vI (r r':R2) (ta tb tc:TE):TE:=fun σ H Q=>ta σ H fun x H1=>tb σ H1 fun y H2=>r x y H2 fun z H3=>∃k,z= .bl k∧
 (if k=true then tc σ H3 fun w' H4=>r' y w' H4 Q else Q (.bl false) H3)
theorem qO {op op':CmpOp} {r r':R2} (ho:OpR X (compareOp op) r) (ho':OpR X (compareOp op') r') (ha:PE X a ta) (hb:PE X b tb) (hc:PE X c tc)
 (hm:lastMarks [op,op'] [b,c]=false:=by with_unfolding_all rfl):PT X (.Compare a [op,op'] [b,c] pos) (v4 (vI r r' ta tb tc)):=by
 intro pins s σ H Q I h
 refine isTrue_chain (thn (ha pins s σ H _ I h) fun v s1 ⟨x,H1,I1,r1,q1⟩=>test_link (thn (hb pins s1 σ H1 _ I1 q1) fun u s2 ⟨y,H2,I2,r2,q2⟩=>
  thn (ho pins s2 σ H2 x y v u _ I2 r1 r2 q2) fun d s3 ⟨z,H3,I3,r3,k,e,q3⟩=> ?_)) hm
 subst e
 cases r3
 refine wpAny_truthy_bool ?_
 cases k with
 |false=>
  obtain ⟨k',e',q'⟩:=q3
  cases e'
  exact ite_ff ⟨H3,I3,q'⟩
 |true=>
  refine ite_tt (test_last (thn (hc pins s3 σ H3 _ I3 q3) fun w' s4 ⟨z',H4,I4,r4,q4⟩=>thn (ho' pins s4 σ H4 y z' u w' _ I4 r2 r4 q4) fun d' s5 ⟨z2,H5,I5,r5,k2,e2,q5⟩=> ?_))
  subst e2
  cases r5
  exact wpAny_truthy_bool ⟨H5,I5,q5⟩
def TruV (K:PySem.W.Frag) (x:V) (H:Hp) (k:Bool):Prop:=
 match x with
 | .non=>k=false
 | .bl b=>k=b
 | .int i=>k=(i !=0)
 | .str y=>y.length≤sizeLine∧k=((y.length:Int) !=0)
 | .byt y=>y.size≤sizeLine∧k=((y.size:Int) !=0)
 | .ref p=>(∃xs,SqL K H p xs∧k= !xs.isEmpty)∨(∃xs,SqT K H p xs∧k= !xs.isEmpty)∨∃kvs,H p=some (.dK kvs)∧k= !kvs.isEmpty
 |_=>False
theorem nO {κ:Type} {kvs:List (κ×V)} {vs:List (κ×Value)} (r:KV kvs vs):(!vs.isEmpty)= !kvs.isEmpty:=by
 cases r<;>rfl
theorem j6 {xs:List V} {its:List Value} (r:Vals xs its):(!its.toArray.isEmpty)= !xs.isEmpty:=by
 cases r<;>simp
theorem eL:(sizeLine:Nat) < 2^63:=by rw [sizeLine_eq];decide
theorem vB:TruR X (fun x H Q=>∃k,TruV X.K x H k∧Q k H):=by
 intro pins s σ H x v Q I rx h
 obtain ⟨k,e,q⟩:=h
 have hl:=eL
 have hs:sizeLine=16777216:=sizeLine_eq
 cases x with
 |non=>
  cases rx
  have e':k=false:=e
  subst e'
  exact truthy_none ⟨H,I,q⟩
 |bl b=>
  cases rx
  have e':k=b:=e
  subst e'
  exact wpAny_truthy_bool ⟨H,I,q⟩
 |int i=>
  obtain ⟨t,rfl⟩:=rx
  have e':k=(i !=0):=e
  subst e'
  exact PySem.P.truthy_int ⟨H,I,q⟩
 |str y=>
  obtain ⟨t,rfl⟩:=rx
  obtain ⟨hy,e'⟩:y.length≤sizeLine∧k=((y.length:Int) !=0):=e
  subst e'
  exact PySem.P.truthy_str (by omega) ⟨H,I.tok _,q⟩
 |byt y=>
  obtain ⟨t,rfl⟩:=rx
  obtain ⟨hy,e'⟩:y.size≤sizeLine∧k=((y.size:Int) !=0):=e
  subst e'
  exact PySem.W.truthy_bytes (by omega) ⟨H,I.tok _,q⟩
 |ref p=>
  cases rx
  have e':(∃xs,SqL X.K H p xs∧k= !xs.isEmpty)∨(∃xs,SqT X.K H p xs∧k= !xs.isEmpty)∨∃kvs,H p=some (.dK kvs)∧k= !kvs.isEmpty:=e
  rcases e' with ⟨xs,hx,e'⟩|⟨xs,hx,e'⟩|⟨kvs,hx,e'⟩
  · subst e'
    obtain ⟨its,r,pl,hz⟩:=I.list hx
    have hlen:=r.length
    exact wpAny_truthy_list pl.isList (by simp only [List.size_toArray];omega) ⟨H,I.tok _,by rw [j6 r];exact q⟩
  · subst e'
    obtain ⟨its,r,pl,hz⟩:=I.tuple hx
    have hlen:=r.length
    exact truthy_tuple pl (by simp only [List.size_toArray];omega) ⟨H,I.tok _,by rw [j6 r];exact q⟩
  · subst e'
    obtain ⟨hz,hS,vs,r,m⟩:kvs.length≤sizeLine∧(p==sysModules)=false∧∃vs,KV kvs vs∧s.heap.DictOf (bq X.prog X.w) p vs:=I.hok p _ hx
    have hlen:kvs.length=vs.length:=Paired.length r
    exact wpAny_truthy_dict hS m (by omega) ⟨H,I.tok _,by rw [nO r];exact q⟩
 |_=>exact (show False from e).elim
theorem qN (ha:PE X a ta) (he:∀whole,isTrue a X.env whole=(do let v←whole;standAt a.pos;holding [v] (truthy v))):
 PT X a (fun σ H Q=>ta σ H fun x H'=>∃k,TruV X.K x H' k∧Q k H'):=by
 intro pins s σ H Q I h
 exact isTrue_plain (thn (ha pins s σ H _ I h) fun v s1 ⟨x,H1,I1,r1,q1⟩=>vB pins s1 σ H1 x v Q I1 r1 q1) (he _)
theorem iY:OpR X (binaryOp .Add) (fun x y H Q=>∃i j,x= .str i∧y= .str j∧i.length+j.length≤sizeLine∧Q (.str (i++j)) H):=by
 intro pins s σ H x y v u Q I rx ry h
 obtain ⟨i,j,rfl,rfl,hz,q⟩:=h
 obtain ⟨t,rfl⟩:=rx
 obtain ⟨t',rfl⟩:=ry
 exact add_str (fun t' tk=>⟨.str (i++j),H,I.tok _,⟨_,rfl⟩,q⟩) hz
theorem iB {x:V} {us:List Value} (r:Vals [x] us):∃u,us= [u]∧RelV x u:=by
 cases r with
 |cons r1 r2=>cases r2;exact ⟨_,rfl,r1⟩
theorem tG:CallR X (.builtin "abs") (fun xs H Q=>∃i,xs= [.int i]∧Q (.int (if i < 0 then -i else i)) H):=by
 intro pins s σ H xs us Q I r h
 obtain ⟨i,rfl,q⟩:=h
 obtain ⟨u,rfl,t,rfl⟩:=iB r
 exact call_abs_int fun u tk=>⟨.int (if i < 0 then -i else i),H,I.tok _,⟨_,rfl⟩,q⟩
end
open PySem PySem.Spec PyProof.Rows
structure ObjM (h:Heap) (x dx C:Addr) (mA:Str→Option Value):Prop where
 obj:h.get? x=some (PySem.W.instObj C dx)
 ns:h.Ns1 dx mA
 ne:dx≠x
theorem pO {h:Heap} {dx:Addr} {mA:Str→Option Value} (n:h.Ns1 dx mA):∃od,h.get? dx=some od∧∀name,PySem.W.lookIn name od=some (mA name):=by
 obtain ⟨o,es,ep,ho,hd,hk,_,hm⟩:=n
 refine ⟨o,ho,fun name=> ?_⟩
 have e:=hm name
 unfold nsFind findBy at e
 rw [←Array.find?_toList] at e
 unfold PySem.W.lookIn
 rw [hd]
 dsimp only
 split
 · rename_i y q
   rw [q] at e
   exact congrArg some e
 · rename_i q
   rw [q] at e
   have a:es.toList.any (·.refKey)=false:=by
    rw [List.any_eq_false]
    intro y hy
    obtain ⟨z,t,hkey⟩:=hk y (Array.mem_toList_iff.mp hy)
    simp [DictEntry.refKey,hkey]
   have a':¬es.toList.any (·.refKey)=true:=by rw [a];exact Bool.false_ne_true
   rw [if_neg a']
   exact congrArg some e
theorem ObjM.look {h:Heap} {x dx C:Addr} {mA:Str→Option Value} (I:ObjM h x dx C mA):∃od,PySem.W.InstAt h x (PySem.W.instObj C dx) C (some od)∧∀name,PySem.W.lookIn name od=some (mA name):=
 let ⟨od,ho,hl⟩:=pO I.ns
 ⟨od,⟨I.obj,rfl,rfl,ho⟩,hl⟩
section
variable {prog:Program} {w:World} {A:Around} {E:Value→Shared→Prop} {s:Shared} {K:PySem.W.Frag} {x dx C f:Addr} {mA:Str→Option Value} {name:Str} {v:Value}
end
section
variable {P:Program} {w:World} {H H':Hp} {h h':Heap} {a C dx:Addr} {fs fs':List (Str×V)}
theorem uI (hok:HOk P w H h) (e:H a=some (.ins C dx fs)):∃mA,ObjM h a dx C mA∧(∀f,RelO (fs.lookup f) (mA f))∧PySem.Within mA (fs.map (·.1))∧fs.length≤1000∧H dx=some (.own a):=by
 obtain ⟨d,z,ne,ob,mA,n,r,q⟩:=(show ObjOk P w H h a (.ins C dx fs) from hok a _ e)
 exact ⟨mA,⟨ob,n,ne⟩,r,q,z,d⟩
end
structure Cls (K:PySem.W.Frag) (C:Addr):Prop where
 pg:PySem.W.plainGet K C Str.empty=true
 hd:PySem.W.hasDictIn K C=true
 po:PySem.W.plainOver K C=true
 sa:PySem.W.findIn K (.ref C) "__setattr__"=some (some (.builtin "object.__setattr__"))
theorem Cls.get {K:PySem.W.Frag} {C:Addr} (c:Cls K C) (f:Str):PySem.W.plainGet K C f=true:=c.pg
section
variable {X:Cx} {pins:List (Addr×Obj)} {σ:St} {H:Hp} {s:Shared} {a C dx:Addr} {fs:List (Str×V)} {f:Str} {v:V} {A:Around} {E:Value→Shared→Prop}
theorem Inv.made (I:Inv X pins σ H s):Inv X pins σ (upd (upd H s.heap.objs.size (.own (s.heap.objs.size+1))) (s.heap.objs.size+1) (.ins C s.heap.objs.size []))
 {s with heap:=(s.heap.push PySem.W.emptyDict).push (PySem.W.instObj C s.heap.objs.size)}:=by
 have e1:(s.heap.push PySem.W.emptyDict).get? s.heap.objs.size=some PySem.W.emptyDict:=Heap.get?_push_size s.heap rfl
 have e2:((s.heap.push PySem.W.emptyDict).push (PySem.W.instObj C s.heap.objs.size)).get? (s.heap.objs.size+1)=some (PySem.W.instObj C s.heap.objs.size):=by
  have:=Heap.get?_push_size (s.heap.push PySem.W.emptyDict) (o:=PySem.W.instObj C s.heap.objs.size) rfl
  rwa [Heap.size_push] at this
 have e3:(s.heap.push PySem.W.emptyDict).Ns s.heap.objs.size (fun _=>none):=⟨PySem.W.emptyDict, #[],_,e1,rfl,(fun e he=>absurd he (by simp)),fun _=>rfl⟩
 have I1:=I.laid (a:=s.heap.objs.size) (o:= .own (s.heap.objs.size+1)) (h':=s.heap.push PySem.W.emptyDict) (t':=s.toks) (fun b u q=>Heap.get?_push_of_some _ q) (Nat.le_refl _) ⟨_,e1⟩
 refine I1.laid (a:=s.heap.objs.size+1) (o:= .ins C s.heap.objs.size []) (t':=s.toks) (fun b u q=>Heap.get?_push_of_some _ q) (Nat.le_of_eq (Heap.size_push _ _)) ?_
 have ne:s.heap.objs.size≠s.heap.objs.size+1:=Nat.ne_of_lt (Nat.lt_succ_self _)
 refine ⟨by rw [aB ne,ac],Nat.zero_le _,ne,e2,fun _=>none,(Heap.Ns1.of_empty e3).at fun o q=>Heap.get?_push_of_some _ q,fun _=>True.intro,fun y hy=>absurd rfl hy⟩
end
section
variable {X:Cx} {o e value:Expr} {f:Str} {pos pos' tpos:Pos} {ta tv:TE}
end
section
variable {X:Cx} {pins:List (Addr×Obj)} {σ:St} {H:Hp} {s:Shared} {A:Around} {E:Value→Shared→Prop} {Q:Value→Shared→Prop} {c:Value} {b:Bool}
inductive TyOf (K:PySem.W.Frag) (H:Hp):V→Value→Prop where
 |non:TyOf K H .non (.type "NoneType")
 |bl (x:Bool):TyOf K H (.bl x) (.type "bool")
 |int (i:Int):TyOf K H (.int i) (.type "int")
 |str (x:Str):TyOf K H (.str x) (.type "str")
 |flt (x:UInt64):TyOf K H (.flt x) (.type "float")
 |lst {a:Addr} {xs:List V} (e:H a=some (.lst xs)):TyOf K H (.ref a) (.type "list")
 |frz {a:Addr} {o:Obj} {xs:List V} (e:H a=some (.frz o (.lst xs))):TyOf K H (.ref a) (.type "list")
 |tup {a:Addr} {xs:List V} (e:H a=some (.tup xs)):TyOf K H (.ref a) (.type "tuple")
 |dK {a:Addr} {kvs:List (Key×V)} (e:H a=some (.dK kvs)):TyOf K H (.ref a) (.type "dict")
 |dT {a:Addr} {kvs:List (List Key×V)} (e:H a=some (.dT kvs)):TyOf K H (.ref a) (.type "dict")
 |ins {a C dx:Addr} {fs:List (Str×V)} (e:H a=some (.ins C dx fs)) (cl:Cls K C) (ha:PySem.W.findIn K (.ref C) "__class__"=some (some (.builtin "object.__class__")))
  (hn:PySem.W.specialIn K (.builtin "object.__class__") "__get__"=some (some (.builtin "getset_descriptor.__get__"))) (htk:PySem.W.takesIn K (.builtin "object.__class__")=some true)
  (hm:PySem.W.mroIn K C (.type "object")=some true):TyOf K H (.ref a) (.ref C)
end
open PySem PySem.Spec PyProof.Rows
structure Room (k:Nat) (A:Around):Prop where
 hd:A.handled=none
 dp:A.depth+3*k+5 < recursionLimit
 un:A.units+16*k+200 < cLine
 gd:A.guards=some []
theorem Room.mono {j k:Nat} {A:Around} (r:Room k A) (h:j≤k):Room j A:=⟨r.hd,by have:=r.dp;omega,by have:=r.un;omega,r.gd⟩
theorem Room.deeper {k:Nat} {A:Around} (r:Room (k+1) A) (env:Env):Room k (A.deeper env):=
 ⟨r.hd,by have:=r.dp;show A.depth+1+3*k+5 < _;omega,by have:=r.un;show A.units+3+16*k+200 < _;omega,by first|exact r.gd|(have:=r.gd;simpa [Around.deeper,Around.under] using this)⟩
theorem Room.in1 {k:Nat} {A:Around} (r:Room (k+1) A):Room k A.in1:=
 ⟨r.hd,by have:=r.dp;show A.depth+3*k+5 < _;omega,by have:=r.un;show A.units+1+16*k+200 < _;omega,r.gd⟩
theorem nJ {A:Around} {C:Addr} {us:List Value} {kw:List (Str×Value)}:(A.under (.builtin "type.__call__" ⟨.ref C::us,kw⟩)).depth=A.depth+1:=by
 first|rfl|simp [Around.under,Code.weight,Code.isCreation,Code.isGuard,Code.isCaller,Code.frames,Code.isFrame,guardIds]
theorem nI {A:Around} {C:Addr} {us:List Value} {kw:List (Str×Value)}:(A.under (.builtin "type.__call__" ⟨.ref C::us,kw⟩)).units=A.units+1:=by
 first|rfl|simp [Around.under,Code.cUnits,Code.frames,Code.isFrame]
theorem Room.make {k:Nat} {A:Around} (r:Room (k+1) A) (C:Addr) (us:List Value) (kw:List (Str×Value)):Room k (A.under (.builtin "type.__call__" ⟨.ref C::us,kw⟩)):=
 ⟨r.hd,by have:=r.dp;rw [nJ];omega,by have:=r.un;rw [nI];omega,by have:=r.gd;simp [Around.under,Code.guards,Code.isGuard,guardIds,pushGuards,this]⟩
theorem Room.depth {k:Nat} {A:Around} (r:Room k A):A.depth < recursionLimit:=by have:=r.dp;omega
theorem Room.units {k:Nat} {A:Around} (r:Room k A):A.units+64 < cLine:=by have:=r.un;omega
def tNil:TA:=fun _ H Q=>Q [] H
def bf (ta:TE) (tr:TA):TA:=fun σ H Q=>ta σ H fun x H1=>tr σ H1 fun xs H2=>Q (x::xs) H2
section
variable {X:Cx} {e:Expr} {es:List Expr} {te:TE} {t:TA} {pos:Pos}
theorem a9:PA X [] tNil:=fun _ _ _ _ H Q I h=>Calls.spliced_nil ⟨[],H,I, .nil,h⟩
theorem a8 (ha:PE X e te) (hr:PA X es t) (hs:starEach (e::es) X.env=(false,eval e X.env)::starEach es X.env:=by rfl):PA X (e::es) (bf te t):=by
 intro pos pins s σ H Q I h
 rw [hs]
 show wpAny _ _ (spliced ((false,eval e X.env)::backTo pos (starEach es X.env))) _ _ s
 refine Calls.spliced_cons (thn (ha pins s σ H _ I h) fun u s1 ⟨x,H1,I1,r1,q1⟩=> ?_)
 exact thn (hr pos pins s1 σ H1 _ I1 q1) fun us s2 ⟨xs,H2,I2,r2,q2⟩=>⟨x::xs,H2,I2, .cons r1 r2,q2⟩
def tTup (t:TA):TE:=fun σ H Q=>t σ H fun xs H1=>xs.length≤sizeLine∧∀p,H1 p=none→Q (.ref p) (upd H1 p (.tup xs))
def tLst (t:TA):TE:=fun σ H Q=>t σ H fun xs H1=>xs.length≤sizeLine∧∀p,H1 p=none→Q (.ref p) (upd H1 p (.lst xs))
theorem aH {x1} (h:PA X es t):PE X (.Tuple es x1 pos) (tTup t):=by
 intro pins s σ H Q I hq
 refine wpAny_Tuple_spliced (thn (h pos pins s σ H _ I hq) fun us s1 ⟨xs,H1,I1,r,z,q⟩=>⟨by rw [←r.length];exact z,?_⟩)
 have hf:H1 s1.heap.objs.size=none:=I1.hok.fresh (Nat.le_refl _)
 refine ⟨.ref s1.heap.objs.size,upd H1 s1.heap.objs.size (.tup xs),I1.laid (t':=s1.toks) (fun b u e=>Heap.get?_push_of_some _ e) (Nat.le_refl _) ?_,rfl,q _ hf⟩
 exact ⟨z,us,r,⟨_,Heap.get?_push_size _ rfl,rfl,_,rfl⟩⟩
theorem cm (h:PA X es t):PE X (.List es pos) (tLst t):=by
 intro pins s σ H Q I hq
 refine wpAny_List_spliced (thn (h pos pins s σ H _ I hq) fun us s1 ⟨xs,H1,I1,r,z,q⟩=>⟨by rw [←r.length];exact z,?_⟩)
 have hf:H1 s1.heap.objs.size=none:=I1.hok.fresh (Nat.le_refl _)
 refine ⟨.ref s1.heap.objs.size,upd H1 s1.heap.objs.size (.lst xs),I1.laid (t':=s1.toks) (fun b u e=>Heap.get?_push_of_some _ e) (Nat.le_refl _) ?_,rfl,q _ hf⟩
 exact ⟨z,us,0,r,Heap.get?_push_size _ rfl⟩
end
abbrev Sp:=List V→Hp→VK→XK→Prop
abbrev CXT:=List Env→Hp→Shared→XK→Value→Shared→Prop
structure Env0 (P:Program) (w:World) (K:PySem.W.Frag) (mg:Str→Option Value) (base:Heap) (A:Around) (outer:List Env) (s:Shared) (H:Hp):Prop where
 frames:A.frames=some outer
 mod:Mod K mg base
 bs:∀b o,base.get? b=some o→s.heap.get? b=some o∧H b=none
 bsz:base.objs.size≤s.heap.objs.size
 funs:s.heap.FunFrames base outer
 frf:∀b∈frs outer,H b=none
 hok:HOk P w H s.heap
 bare:AllBare s.gens
def CE (outer:List Env) (P:Program) (w:World) (H:Hp) (s:Shared) (Q:VK) (u:Value) (s':Shared):Prop:=
 ∃v H',s'.os=s.os∧AllBare s'.gens∧Un (frs outer) [] H H' s.heap s'.heap∧HOk P w H' s'.heap∧RelV v u∧Q v H'
def CR (CX:CXT) (outer:List Env) (P:Program) (w:World) (H:Hp) (s:Shared) (Q:VK) (E:XK) (r:Result) (s':Shared):Prop:=
 match r with
 | .ok (.ret u)=>CE outer P w H s Q u s'
 | .ok _=>False
 | .error e=>CX outer H s E e s'
structure FnOk (P:Program) (w:World) (K:PySem.W.Frag) (mg:Str→Option Value) (base:Heap) (CX:CXT) (k:Nat) (f:Addr) (fd:FuncData) (ps:List Str) (sp:Sp):Prop where
 len:∀vs H Q E,sp vs H Q E→vs.length=ps.length
 run:∀(A:Around) (outer:List Env) (s:Shared) (H:Hp) (args:Args) (us:List Value) (vs:List V) (Q:VK) (E:XK),Room k A→Env0 P w K mg base A outer s H→BindsTo s fd args (ps.zip us)→Vals vs us→sp vs H Q E→
  codeAny (model P w) A (.call (.ref f) args) (CR CX outer P w H s Q E) s
theorem FnOk.mono {P:Program} {w:World} {K:PySem.W.Frag} {mg:Str→Option Value} {base:Heap} {CX:CXT} {j k:Nat} {f:Addr} {fd:FuncData} {ps:List Str} {sp:Sp} (F:FnOk P w K mg base CX j f fd ps sp) (h:j≤k):
 FnOk P w K mg base CX k f fd ps sp:=⟨F.len,fun A outer s H args us vs Q E hr=>F.run A outer s H args us vs Q E (hr.mono h)⟩
theorem FnOk.imp {P:Program} {w:World} {K:PySem.W.Frag} {mg:Str→Option Value} {base:Heap} {CX:CXT} {k:Nat} {f:Addr} {fd:FuncData} {ps:List Str} {sp sp':Sp} (F:FnOk P w K mg base CX k f fd ps sp)
 (h:∀vs H Q E,sp' vs H Q E→sp vs H Q E):FnOk P w K mg base CX k f fd ps sp':=
 ⟨fun vs H Q E q=>F.len vs H Q E (h _ _ _ _ q),fun A outer s H args us vs Q E hr he hb hv hs=>F.run A outer s H args us vs Q E hr he hb hv (h _ _ _ _ hs)⟩
theorem Env0.make {P:Program} {w:World} {K:PySem.W.Frag} {mg:Str→Option Value} {base:Heap} {A:Around} {outer:List Env} {s:Shared} {H:Hp} (e:Env0 P w K mg base A outer s H) (C:Addr) (us:List Value) (kw:List (Str×Value)):
 Env0 P w K mg base (A.under (.builtin "type.__call__" ⟨.ref C::us,kw⟩)) outer s H:=⟨by first|exact e.frames|(simpa [Around.under,Code.envs,Code.isFrame,pushEnvs] using e.frames),e.mod,e.bs,e.bsz,e.funs,e.frf,e.hok,e.bare⟩
theorem Env0.in1 {P:Program} {w:World} {K:PySem.W.Frag} {mg:Str→Option Value} {base:Heap} {A:Around} {outer:List Env} {s:Shared} {H:Hp} (e:Env0 P w K mg base A outer s H):
 Env0 P w K mg base A.in1 outer s H:=⟨e.frames,e.mod,e.bs,e.bsz,e.funs,e.frf,e.hok,e.bare⟩
section
variable {X:Cx} {pins:List (Addr×Obj)} {σ:St} {H:Hp} {s s':Shared}
theorem Inv.env0 (I:Inv X pins σ H s):Env0 X.prog X.w X.K X.mg X.base X.A X.stack s H:=
 ⟨I.ok.frames,I.ok.mod,I.bs,Nat.le_trans I.ok.bsz I.sz,I.stack,I.stkFree,I.hok,I.bare⟩
theorem Inv.after {Q:VK} {u:Value} (I:Inv X pins σ H s) (h:CE X.stack X.prog X.w H s Q u s'):EP X pins σ Q u s':=by
 obtain ⟨v,H',os,bare,un,hok,r,q⟩:=h
 obtain ⟨hh,g,d,t,os'⟩:=s'
 obtain rfl:os'=s.os:=os
 exact ⟨v,H',I.call (h':=hh) (g':=g) (d':=d) (t':=t) (ch:= []) un hok bare (fun b z=>absurd z (by simp)),r,q⟩
end
def lr (sp:Sp) (dvs:List V) (E:XK) (t:TA):TE:=fun σ H Q=>t σ H fun vs H1=>sp (vs++dvs) H1 Q E
def Binds (K:PySem.W.Frag) (fd:FuncData) (ps:List Str) (ds:List Value):Prop:=
 ∀(s:Shared) (us:List Value),K.In s.heap→(us++ds).length=ps.length→BindsTo s fd ⟨us,[]⟩ (ps.zip (us++ds))
theorem Binds.all {K:PySem.W.Frag} {fd:FuncData} {ps:List Str} (h:∀us:List Value,us.length=ps.length→bindArgs fd ⟨us,[]⟩=pure (ps.zip us)):Binds K fd ps []:=fun s us _ hl=>by
 rw [List.append_nil] at hl ⊢
 exact .of_eq (h us hl)
def ie (CX:CXT) (X:Cx) (E:XK):Prop:=∀(pins:List (Addr×Obj)) (σ:St) (H:Hp) (s:Shared) (e:Value) (s':Shared),Inv X pins σ H s→CX X.stack H s E e s'→X.xe e s'
section
variable {X:Cx} {CX:CXT} {k:Nat} {f C:Addr} {fd:FuncData} {ps:List Str} {sp:Sp} {dvs:List V} {ds:List Value} {E:XK} {x m:Str} {p pos apos:Pos} {e o:Expr} {es:List Expr} {ta:TE} {t:TA}
theorem qJ {pins:List (Addr×Obj)} {σ:St} {H:Hp} {s:Shared} {Q:VK} {us:List Value} {vs:List V} (F:FnOk X.prog X.w X.K X.mg X.base CX k f fd ps sp) (hr:Room k X.A) (hb:Binds X.K fd ps ds) (hd:Vals dvs ds) (hx:ie CX X E)
 (I:Inv X pins σ H s) (r:Vals vs us) (h:sp (vs++dvs) H Q E):wpAny (model X.prog X.w) X.A (call (.ref f) us) (EP X pins σ Q) X.xe s:=by
 have r2:Vals (vs++dvs) (us++ds):=r.append hd
 have hl:(us++ds).length=ps.length:=by rw [←r2.length];exact F.len _ _ _ _ h
 refine wpAny_call (codeAny_mono (F.run X.A X.stack s H ⟨us,[]⟩ (us++ds) (vs++dvs) Q E hr I.env0 (hb s us I.kIn hl) r2 h) fun r s' hq=> ?_)
 cases r with
 |error e=>exact hx pins σ H s e s' I hq
 |ok fl=>
  cases fl with
  |ret u=>exact I.after hq
  |next=>exact False.elim hq
  |brk=>exact False.elim hq
  |cont=>exact False.elim hq
theorem ad (F:FnOk X.prog X.w X.K X.mg X.base CX k f fd ps sp) (hr:Room k X.A) (hg:Gl X x) (hm:X.mg x=some (.ref f)) (hk:PySem.W.keepIn X.K (.ref f)=true) (hb:Binds X.K fd ps ds) (hd:Vals dvs ds) (hx:ie CX X E)
 (ha:PA X (e::es) t) (hdb:(x==("__debug__":Str))=false:=by decide) (he:starEach (e::es) X.env=(false,eval e X.env)::starEach es X.env:=by rfl) (hpl:(backTo pos (starEach es X.env)).any (·.1)=false:=by rfl):
 PE X (.Call (.Name x p) (e::es) [] pos) (lr sp dvs E t):=by
 intro pins s σ H Q I h
 refine wpAny_Call_Name_kw (kz I hg hm ?_ hdb)
 refine PySem.W.callWith_K (h₀:=X.base) I.ok.mod.kin hk (thn (ha pos pins s σ H _ I h) fun us s1 ⟨vs,H1,I1,r,q⟩=>⟨I1.kIn,?_⟩) he hpl
 exact qJ F hr hb hd hx I1 r q
end
section
variable {X:Cx} {CX:CXT} {k:Nat} {f C:Addr} {fd:FuncData} {ps ks:List Str} {sp:Sp} {E:XK} {x m:Str} {p pos apos kpos:Pos} {e o:Expr} {es:List Expr} {kws:List Keyword} {te ta:TE} {t tk:TA} {nm:Option Str}
variable {g:List Value→List Value→List Value} {gV:List V→List V→List V}
end
structure ax (N P:List Str) (sc:Scope):Prop where
 kind:sc.kind= .function
 co:sc.isCoroutine=false
 gen:sc.isGenerator=false
 nd:N.Nodup
 pre:N.take P.length=P
 par:∀x∈P,sc.names.lookup x=some .local∨sc.names.lookup x=some .cell
 nofree:∀y∈sc.names,y.2≠ .free
theorem jO {kindOf:Str→Option NameKind} {x:Str}:∀ {binds:List (Str×Value)} {m:Str→Option Value},(∀v,(x,v)∉binds)→bindL kindOf binds m x=m x
 | [],_,_=>rfl
 |(n,v)::r,m,h=>by
  unfold bindL
  rw [jO fun w hw=>h w (List.mem_cons_of_mem _ hw)]
  split
  · have:x≠n:=by rintro rfl;exact h v List.mem_cons_self
    simp [this]
  · rfl
theorem jQ {kindOf:Str→Option NameKind} {x:Str}:∀ {binds:List (Str×Value)} {m:Str→Option Value},(∀v,(x,v)∉binds)→bindC kindOf binds m x=m x
 | [],_,_=>rfl
 |(n,v)::r,m,h=>by
  unfold bindC
  rw [jQ fun w hw=>h w (List.mem_cons_of_mem _ hw)]
  split
  · rfl
  · have:x≠n:=by rintro rfl;exact h v List.mem_cons_self
    simp [this]
theorem jP {kindOf:Str→Option NameKind} {x:Str} {v:Value}:∀ {P:List Str} {vs:List Value} {i:Nat} {m:Str→Option Value},P.Nodup→P[i]?=some x→vs[i]?=some v→kindOf x=some .local→
 bindL kindOf (P.zip vs) m x=some v
 | [],_,_,_,_,h,_,_=>by simp at h
 |_::_,[],_,_,_,_,h,_=>by simp at h
 |p::P,w::vs,0,m,nd,h1,h2,hk=>by
  simp at h1 h2;subst h1;subst h2
  show bindL kindOf ((p,w)::P.zip vs) m p=_
  unfold bindL
  rw [jO fun v hv=>(List.nodup_cons.mp nd).1 (List.of_mem_zip hv).1,if_pos hk]
  simp
 |p::P,w::vs,i+1,m,nd,h1,h2,hk=>by
  show bindL kindOf ((p,w)::P.zip vs) m x=_
  unfold bindL
  exact jP (i:=i) (List.nodup_cons.mp nd).2 (by simpa using h1) (by simpa using h2) hk
theorem jR {kindOf:Str→Option NameKind} {x:Str} {v:Value}:∀ {P:List Str} {vs:List Value} {i:Nat} {m:Str→Option Value},P.Nodup→P[i]?=some x→vs[i]?=some v→kindOf x≠some .local→
 bindC kindOf (P.zip vs) m x=some v
 | [],_,_,_,_,h,_,_=>by simp at h
 |_::_,[],_,_,_,_,h,_=>by simp at h
 |p::P,w::vs,0,m,nd,h1,h2,hk=>by
  simp at h1 h2;subst h1;subst h2
  show bindC kindOf ((p,w)::P.zip vs) m p=_
  unfold bindC
  rw [jQ fun v hv=>(List.nodup_cons.mp nd).1 (List.of_mem_zip hv).1,if_neg hk]
  simp
 |p::P,w::vs,i+1,m,nd,h1,h2,hk=>by
  show bindC kindOf ((p,w)::P.zip vs) m x=_
  unfold bindC
  exact jR (i:=i) (List.nodup_cons.mp nd).2 (by simpa using h1) (by simpa using h2) hk
noncomputable def fu (N:List Str) (vs:List V):St:=vs.map some++List.replicate (N.length - vs.length) none
noncomputable def cxOf (CX:CXT) (P:Program) (w:World) (K:PySem.W.Frag) (mg:Str→Option Value) (base:Heap) (N:List Str) (qual:Str) (scope:Scope) (f:Addr) (cd:Value) (A:Around) (outer:List Env) (s:Shared) (H:Hp) (E:XK):Cx where
 prog:=P
 w:=w
 K:=K
 mg:=mg
 base:=base
 A:=A.deeper (envOfC qual scope s.heap.objs.size f cd)
 N:=N
 s₀:=s
 H₀:=H
 env:=envOfC qual scope s.heap.objs.size f cd
 outer:=outer
 stack:=envOfC qual scope s.heap.objs.size f cd::outer
 ex:= []
 calm:=true
 fn:=fun _=>true
 pn:= []
 xe:=fun e s'=>wpAny (model P w) (A.deeper (envOfC qual scope s.heap.objs.size f cd)) (leaving (envOfC qual scope s.heap.objs.size f cd) e) (fun _ s''=>CX outer H s E e s'') (fun e' s''=>CX outer H s E e' s'') s'
theorem mn {sc:Scope} {n:Nat} {x:Str} (h:sc.names.lookup x=some .cell):∃c,(cellsFrom n sc.names []).lookup x=some c:=by
 have q:=PySem.W.cellsFrom_some sc.names n [] (.inl h)
 exact Option.isSome_iff_exists.mp q
theorem pP {CX:CXT} {P:Program} {w:World} {K:PySem.W.Frag} {mg:Str→Option Value} {base:Heap} {N ps:List Str} {qual:Str} {scope:Scope} {f:Addr} {cd:Value} {A:Around} {outer:List Env} {s s1:Shared} {H:Hp} {E:XK} {us:List Value} {vs:List V}
 (S:ax N ps scope) (hd:A.handled=none) (e0:Env0 P w K mg base A outer s H) (hl:vs.length=ps.length) (r:Vals vs us)
 (x:InCallC s s.heap.objs.size (bindL (envOfC qual scope s.heap.objs.size f cd).kindOf (ps.zip us) fun _=>none) (cellsFrom (s.heap.objs.size+1) scope.names []) (bindC (envOfC qual scope s.heap.objs.size f cd).kindOf (ps.zip us) fun _=>none) s1):
 Inv (cxOf CX P w K mg base N qual scope f cd A outer s H E) [] (fu N vs) H s1:=by
 have hpl:ps.length≤N.length:=by have:=congrArg List.length S.pre;rw [List.length_take] at this;omega
 obtain ⟨h1,tk,rfl,hk⟩:=x.done
 have noA:∀b:Addr,b∉(cxOf CX P w K mg base N qual scope f cd A outer s H E).ex:=fun b z=>absurd (show b∈([]:List Addr) from z) (by simp)
 refine ⟨⟨e0.mod,S.kind,rfl,rfl,Nat.le_refl _,fun y z c h1 h2=> ?_,fun y hy=> ?_,fun y c _ h=> ?_,fun _=>hd,Around.frames_deeper e0.frames, .inr ⟨rfl,rfl⟩,fun b z=>absurd z (noA b),e0.bs,e0.bsz,fun b _ _=>noA b,fun b z=>absurd z (noA b),e0.funs,e0.frf⟩,
  rfl,e0.bare,Un.kept hk,⟨_,x.toInCall.ns,fun i y v h1 h2 h3=> ?_⟩,fun y c h=>⟨_,x.cell y c h⟩,e0.hok.fresh (Nat.le_refl _),fun y c h=> ?_,fun p hp=>absurd (show p∈([]:List (Addr×Obj)) from hp) (by simp),e0.hok.kept hk,?_⟩
 · exact name_of_addr x.apart (PySem.mem_of_lookup h1) (PySem.mem_of_lookup h2)
 · have hy:scope.names.lookup y=some .cell∨scope.names.lookup y=some .free:=hy
   rcases hy with hy|hy
   · exact mn hy
   · exact absurd rfl (S.nofree _ (PySem.mem_of_lookup hy))
 · exact Nat.le_of_lt (x.above y c (PySem.mem_of_lookup h))
 · have hi:i < vs.length:=by
    unfold fu at h2
    by_cases hi:i < vs.length
    · exact hi
    · rw [List.getElem?_append_right (by simpa using hi)] at h2
      rw [List.getElem?_replicate] at h2
      split at h2<;>cases h2
   have ha:vs[i]?=some v:=by
    unfold fu at h2
    rw [List.getElem?_append_left (by simpa using hi),List.getElem?_map] at h2
    cases e:vs[i]? with
    |none=>rw [e] at h2;cases h2
    |some a=>rw [e] at h2;cases h2;rfl
   obtain ⟨u,hu,rv⟩:=r.get ha
   have hp:ps[i]?=some y:=by
    rw [←S.pre,List.getElem?_take_of_lt (by omega)];exact h1
   have ndP:ps.Nodup:=by rw [←S.pre];exact S.nd.sublist (List.take_sublist _ _)
   refine ⟨u,rv,?_⟩
   rcases S.par y (List.mem_of_getElem? hp) with k|k
   · exact .inl ⟨k,jP ndP hp hu k⟩
   · obtain ⟨c,e⟩:=mn (n:=s.heap.objs.size+1) k
     refine .inr ⟨.inl k,c,e,?_⟩
     have q:=x.cell y c e
     rw [jR ndP hp hu (by show scope.names.lookup y≠_;rw [k];decide)] at q
     exact q
 · exact e0.hok.fresh (Nat.le_of_lt (x.above y c (PySem.mem_of_lookup h)))
 · unfold fu
   show _=N.length
   rw [List.length_append,List.length_map,List.length_replicate]
   omega
theorem vm {CX:CXT} {P:Program} {w:World} {K:PySem.W.Frag} {mg:Str→Option Value} {base:Heap} {k:Nat} {f:Addr} {name qual:Str} {params:Arguments} {body:List Stmt} {scope:Scope} {dV kV doc pm cdv ct oc:Value} {an od:Option Addr}
 {osl:Array (Option Value)} {N ps:List Str} {sp:Sp} (lk:K.lookup f=some ⟨oc,od, .func (PySem.W.fnOf name qual params body scope dV kV doc pm an cdv ct),osl⟩) (hcd:PySem.W.codeIn K cdv qual=true) (S:ax N ps scope)
 (len:∀vs H Q E,sp vs H Q E→vs.length=ps.length)
 (hbody:∀(A:Around) (outer:List Env) (s:Shared) (H:Hp) (vs:List V) (Q:VK) (E:XK),Room k (A.deeper (envOfC qual scope s.heap.objs.size f cdv))→sp vs H Q E→
  ∃t,PSs (cxOf CX P w K mg base N qual scope f cdv A outer s H E) body t∧t {nx:=fun _ H'=>Q .non H',rt:=Q} (fu N vs) H):
 FnOk P w K mg base CX (k+1) f (PySem.W.fnOf name qual params body scope dV kV doc pm an cdv ct) ps sp:=by
 refine ⟨len,fun A outer s H args us vs Q E hr e0 hb r hsp=> ?_⟩
 have hl:=len _ _ _ _ hsp
 have KX:K.In s.heap:=e0.mod.kin.keeps fun b o e=>(e0.bs b o e).1
 have lim:s.heap.NoLimit:=e0.mod.nolimit.keeps fun b o e=>(e0.bs b o e).1
 have hkind:∀y∈ps.zip us,scope.names.lookup y.1=some .local∨(scope.names.lookup y.1=some .cell∧((cellsFrom (s.heap.objs.size+1) scope.names []).lookup y.1).isSome=true):=fun ⟨n,v⟩ hy=>by
  rcases S.par n (List.of_mem_zip hy).1 with q|q
  · exact .inl q
  · exact .inr ⟨q,PySem.W.cellsFrom_some _ _ _ (.inl q)⟩
 refine codeAny_call_function hr.depth (KX _ _ lk) rfl S.co S.gen rfl (PySem.W.codeRec_of KX hcd) (hb _ _ _ _ ?_)
 refine wpAny_newFunctionEnv_cells S.kind hkind fun env he s1 x=> ?_
 subst he
 refine ⟨lim.keeps x.toInCall.keep,codeAny_func ?_⟩
 obtain ⟨t,ht,hq⟩:=hbody A outer s H vs Q E (hr.deeper _) hsp
 have I:Inv (cxOf CX P w K mg base N qual scope f cdv A outer s H E) [] (fu N vs) H s1:=pP S hr.hd e0 hl r x
 refine wpAny_mono (ht [] s1 (fu N vs) H _ I hq) (fun fl s' hs=> ?_) fun e s' hs=>hs
 have fin:∀ {σ':St} {H':Hp} {v:V} {u:Value},Inv (cxOf CX P w K mg base N qual scope f cdv A outer s H E) [] σ' H' s'→RelV v u→Q v H'→CE outer P w H s Q u s':=
  fun {σ' H' v u} J rv q=>⟨v,H',J.os,J.bare,J.base,J.hok,rv,q⟩
 cases fl with
 |ret u=>
  obtain ⟨v,σ',H',J,rv,q⟩:=hs
  exact fin J rv q
 |next=>
  obtain ⟨σ',H',J,q⟩:=hs
  exact fin (v:=V.non) (u:=Value.none) J rfl q
 |brk=>
  obtain ⟨_,_,_,q⟩:=hs
  exact False.elim q
 |cont=>
  obtain ⟨_,_,_,q⟩:=hs
  exact False.elim q
open PySem PySem.Spec PyProof.Rows
section
variable {X:Cx} {x:Str} {p pos:Pos} {e:Expr} {es:List Expr} {t:TA} {id T:String} {r:List V→Hp→VK→Prop}
def tCB (r:List V→Hp→VK→Prop) (t:TA):TE:=fun σ H Q=>t σ H fun vs H1=>r vs H1 Q
theorem ar (hc:CallR X (.builtin id) r) (hg:Gl X x) (hm:X.mg x=none) (hv:bootBuiltins x=some (.builtin id)) (ha:PA X (e::es) t) (hn:x≠"__name__":=by decide) (hdb:(x==("__debug__":Str))=false:=by decide)
 (he:starEach (e::es) X.env=(false,eval e X.env)::starEach es X.env:=by rfl) (hpl:(backTo pos (starEach es X.env)).any (·.1)=false:=by rfl):PE X (.Call (.Name x p) (e::es) [] pos) (tCB r t):=by
 intro pins s σ H Q I h
 refine wpAny_Call_Name_kw (i9 I hg hm hv ?_ hn hdb)
 exact PyProof.Rows.callWith_builtin1 (thn (ha pos pins s σ H _ I h) fun us s1 ⟨vs,H1,I1,r1,q1⟩=>hc pins s1 σ H1 vs us Q I1 r1 q1) he hpl
theorem bE (hc:CallR X (.type T) r) (hg:Gl X x) (hm:X.mg x=none) (hv:bootBuiltins x=some (.type T)) (ha:PA X (e::es) t) (hn:x≠"__name__":=by decide) (hdb:(x==("__debug__":Str))=false:=by decide)
 (he:starEach (e::es) X.env=(false,eval e X.env)::starEach es X.env:=by rfl) (hpl:(backTo pos (starEach es X.env)).any (·.1)=false:=by rfl):PE X (.Call (.Name x p) (e::es) [] pos) (tCB r t):=by
 intro pins s σ H Q I h
 refine wpAny_Call_Name_kw (i9 I hg hm hv ?_ hn hdb)
 exact PyProof.Rows.callWith_type1 (thn (ha pos pins s σ H _ I h) fun us s1 ⟨vs,H1,I1,r1,q1⟩=>hc pins s1 σ H1 vs us Q I1 r1 q1) he hpl
end
end L2
namespace HT
open PySem PyProof.Rows
section
open PySem.SeqAt
open PySem.AutoSeq1 (wpAny_loadPart')
open PySem.MeetsSeq PySem.MeetsSeq2 PySem.MeetsSeq3
end
section
variable {prog:Program} {w:World} {A:Around} {E:Value→Shared→Prop} {s:Shared}
theorem cat_tup {t b:Addr} {vs ws:List Value} {Q:Value→Shared→Prop} (ht:IsTup s.heap t vs.toArray) (hb:IsTup s.heap b ws.toArray) (hv:vs≠ [])
 (h1:ws= []→Q (.ref t) s) (h2:ws≠ []→Q (.ref s.heap.objs.size) {s with heap:=s.heap.push {cls:= .type "tuple",data:= .seq (vs++ws).toArray}})
 (hsz:vs.length+ws.length≤sizeLine):wpAny (model prog w) A (binaryOp .Add (.ref t) (.ref b)) Q E s:=by
 obtain ⟨⟨cls,dd,data,sl⟩,ho,hc,n,hd⟩:=id ht
 obtain ⟨⟨cls2,dd2,data2,sl2⟩,ho2,hc2,n2,hd2⟩:=id hb
 simp only at hc hd hc2 hd2
 subst hc hd hc2 hd2
 have e:vs.toArray++ws.toArray=(vs++ws).toArray:=by simp
 by_cases hw:ws= []
 · exact concat_meets ⟨_,ho,rfl⟩ ⟨_,ho2,rfl⟩ noFill_tuple_add seq_tuple_add PySem.F.slot_tuple_add PySem.F.entry_tuple_add (PySem.F.args_tuple_add_2 _ _)
    (tuple_addW1 t b vs.toArray ws.toArray n n2 dd dd2 sl sl2 (by simpa using hv) (by simp [hw])) ⟨ho,ho2,h1 hw⟩
 · refine concat_meets ⟨_,ho,rfl⟩ ⟨_,ho2,rfl⟩ noFill_tuple_add seq_tuple_add PySem.F.slot_tuple_add PySem.F.entry_tuple_add (PySem.F.args_tuple_add_2 _ _)
    (tuple_addW2 t b vs.toArray ws.toArray n n2 dd dd2 sl sl2 (by simpa using hv) (by simpa using hw) (by rw [List.size_toArray,List.size_toArray];exact hsz)) ⟨ho,ho2,?_⟩
   rw [e]
   exact h2 hw
noncomputable def sIx (n d:Nat):Option Int→Nat
 |none=>d
 |some v=>if v < 0 then (v+(n:Int)).toNat else min v.toNat n
theorem sIx_none (n d:Nat):sIx n d none=d:=rfl
theorem sIx_nat (n d k:Nat):sIx n d (some (k:Int))=min k n:=by
 show (if (k:Int) < 0 then ((k:Int)+(n:Int)).toNat else min (k:Int).toNat n)=min k n
 rw [if_neg (by omega),Int.toNat_natCast]
theorem vQ (n d:Nat) (hd:d≤n) (o:Option Int):sIx n d o≤n:=by
 cases o with
 |none=>exact hd
 |some v=>
  show (if v < 0 then (v+(n:Int)).toNat else min v.toNat n)≤n
  by_cases hv:v < 0
  · rw [if_pos hv];omega
  · rw [if_neg hv];exact Nat.min_le_right _ _
theorem oY (v:Int) (n d:Nat):(if v < 0 then max (v+(n:Int)) 0 else min v (n:Int))=((sIx n d (some v):Nat):Int):=by
 show (if v < 0 then max (v+(n:Int)) 0 else min v (n:Int))=(((if v < 0 then (v+(n:Int)).toNat else min v.toNat n):Nat):Int)
 by_cases hv:v < 0
 · simp only [if_pos hv];omega
 · simp only [if_neg hv];omega
theorem nV (lo hi:Option Int) (n:Nat):Builtin.Slice.sliceAdjust lo hi 1 (n:Int)=(((sIx n 0 lo:Nat):Int),((sIx n n hi:Nat):Int)):=by
 have h1:¬((1:Int) < 0):=by omega
 unfold Builtin.Slice.sliceAdjust
 simp only [h1,if_false]
 refine Prod.ext ?_ ?_
 · cases lo with
   |none=>rfl
   |some v=>exact oY v n 0
 · cases hi with
   |none=>rfl
   |some v=>exact oY v n n
theorem nh (i j:Nat):Builtin.Slice.slicePlaces (i:Int) (j:Int) 1=j - i:=by
 unfold Builtin.Slice.slicePlaces
 have h1:(1:Int) > 0:=by omega
 simp only [h1,if_true,Int.ediv_one]
 split<;>omega
theorem iP {v:Value} {o:Option Int} {Q:Option Int→Shared→Prop} (p:IsPart v o) (h:Q o s):wpAny (model prog w) A (Builtin.Slice.slicePartIndex v) Q E s:=by
 cases p with
 |none=>exact slicePart_none h
 |int i t=>exact slicePart_int h
theorem sliceApplied_gen {sl:Addr} {vl vu:Value} {lo hi:Option Int} {n:Nat} {Q:Int×Int×Nat→Shared→Prop} (hs:s.heap.IsSliceOf sl vl vu .none) (pl:IsPart vl lo) (pu:IsPart vu hi)
 (h:Q (((sIx n 0 lo:Nat):Int),1,sIx n n hi - sIx n 0 lo) s):wpAny (model prog w) A (Builtin.Slice.sliceApplied (.ref sl) (pure (n:Int))) Q E s:=by
 obtain ⟨os,hos,hcs,hds⟩:=id hs
 unfold Builtin.Slice.sliceApplied Builtin.Slice.sliceFields
 refine wpAny_bind (wpAny_bind (wpAny_field hos hds (x:=vl) rfl (wpAny_bind (wpAny_field hos hds (x:=vu) rfl (wpAny_bind (wpAny_field hos hds (x:= .none) rfl (wpAny_pure ?_)))))))
 refine wpAny_bind (slicePart_none ?_)
 show wpAny _ _ (if ((1:Int)==0)=true then _ else _) _ _ s
 rw [if_neg (by decide)]
 refine wpAny_bind (iP pl (wpAny_bind (iP pu (wpAny_bind (wpAny_pure ?_)))))
 show wpAny _ _ (match Builtin.Slice.sliceAdjust lo hi 1 (n:Int) with|(lo,hi)=>pure (lo,(1:Int),Builtin.Slice.slicePlaces lo hi 1)) _ _ s
 rw [nV lo hi n]
 show wpAny _ _ (pure (((sIx n 0 lo:Nat):Int),(1:Int),Builtin.Slice.slicePlaces ((sIx n 0 lo:Nat):Int) ((sIx n n hi:Nat):Int) 1)) _ _ s
 rw [nh]
 exact wpAny_pure h
theorem qT (xs:Array Value) (i k:Nat):((List.range k).filterMap fun (m:Nat)=>xs[((i:Int)+(m:Int)*1).toNat]?).toArray=((xs.toList.drop i).take k).toArray:=by
 have e:(fun (m:Nat)=>xs[((i:Int)+(m:Int)*1).toNat]?)=fun m=>xs[i+m]?:=by
  funext m
  have:((i:Int)+(m:Int)*1).toNat=i+m:=by omega
  rw [this]
 rw [e]
 have:=pick_run xs i k
 rw [List.filterMap_map] at this
 have e2:((fun x=>xs[x]?) ∘ fun x=>i+x)=fun m=>xs[i+m]?:=rfl
 rw [e2] at this
 rw [this]
theorem getItem_tuple_cut {t sl:Addr} {items:Array Value} {vl vu:Value} {lo hi:Option Int} {Q:Value→Shared→Prop} (ht:IsTup s.heap t items) (hs:s.heap.IsSliceOf sl vl vu .none) (pl:IsPart vl lo) (pu:IsPart vu hi)
 (hw:¬(sIx items.size 0 lo=0∧sIx items.size items.size hi=items.size))
 (h:Q (.ref s.heap.objs.size) {s with heap:=s.heap.push {cls:= .type "tuple",data:= .seq ((items.toList.drop (sIx items.size 0 lo)).take (sIx items.size items.size hi - sIx items.size 0 lo)).toArray}})
 (hsz:items.size≤sizeLine):wpAny (model prog w) A (getItem (.ref t) (.ref sl)) Q E s:=by
 have htake:sizeOk (.seq ((items.toList.drop (sIx items.size 0 lo)).take (sIx items.size items.size hi - sIx items.size 0 lo)).toArray):=by
  show ((items.toList.drop (sIx items.size 0 lo)).take (sIx items.size items.size hi - sIx items.size 0 lo)).toArray.size≤sizeLine
  rw [List.size_toArray,List.length_take,List.length_drop,Array.length_toList]
  omega
 have hj:sIx items.size items.size hi≤items.size:=vQ _ _ (Nat.le_refl _) hi
 obtain ⟨os,hos,hcs,hds⟩:=id hs
 have hTs:s.TypeIs (.ref sl) "slice":=⟨os,hos,hcs⟩
 unfold getItem
 try with_reducible refine wpAny_holding ?_
 first|refine wpAny_bind (wpAny_pure ?_)|skip
 refine wpAny_bind (wpAny_sequenceKey ht.typeIs (by decide) ?_)
 refine wpAny_bind (wpAny_callSpecial?_slot (name:=Str.ofString "__getitem__") ht.typeIs PyProof.Rows.slot_tuple_getitem
  (wpAny_call_entry PyProof.Rows.slot_tuple_getitem ht.typeIs entry_tuple_getitem ?_ (args_tuple_getitem _ _)))
 show wpAny _ _ (Builtin.Tuple.tupleItemsOf (.ref t) >>=_) _ _ s
 refine wpAny_bind (tupleItemsOf_ ht ?_)
 refine wpAny_bind (wpAny_typeOf hTs ?_)
 rw [if_pos (by decide)]
 refine wpAny_bind (sliceApplied_gen hs pl pu ?_)
 have hno:¬((((sIx items.size 0 lo:Nat):Int)==0&& (1:Int)==1&& (sIx items.size items.size hi - sIx items.size 0 lo)==items.size)=true):=by
  intro q
  rw [Bool.and_eq_true,Bool.and_eq_true] at q
  have q1:((sIx items.size 0 lo:Nat):Int)=0:=eq_of_beq q.1.1
  have q2:sIx items.size items.size hi - sIx items.size 0 lo=items.size:=eq_of_beq q.2
  exact hw ⟨by omega,by omega⟩
 show wpAny _ _ (if (((sIx items.size 0 lo:Nat):Int)==0&& (1:Int)==1&& (sIx items.size items.size hi - sIx items.size 0 lo)==items.size)=true then _ else _) _ _ s
 rw [if_neg hno,qT]
 first
  |exact wpAny_bind (m:=Builtin.Tuple.tupleExact _) (wpAny_newObj_type (wpAny_pure ⟨_,rfl,wpAny_pure h⟩) htake)
  |exact wpAny_bind (m:=Builtin.Tuple.tupleExact _) (wpAny_newObj_type (wpAny_bind (wpAny_pure (wpAny_pure ⟨_,rfl,wpAny_pure h⟩))) htake)
  |exact wpAny_bind (wpAny_bind (m:=Builtin.Tuple.tupleExact _) (wpAny_newObj_type (wpAny_pure (wpAny_pure ⟨_,rfl,wpAny_pure h⟩)) htake))
  |exact wpAny_bind (wpAny_bind (m:=Builtin.Tuple.tupleExact _) (wpAny_newObj_type (wpAny_pure ⟨_,rfl,wpAny_pure h⟩) htake))
end
end HT
namespace L2
open PySem PySem.Spec PyProof.Rows
abbrev TO:=St→Hp→(Option Int→Hp→Prop)→Prop
def PO (X:Cx) (e:Option Expr) (t:TO):Prop:=
 ∀(pins:List (Addr×Obj)) (s:Shared) (σ:St) (H:Hp) (Q:Option Int→Hp→Prop),Inv X pins σ H s→t σ H Q→
  wpAny (model X.prog X.w) X.A (evalPart e X.env) (fun u s'=>∃o H',Inv X pins σ H' s'∧IsPart u o∧Q o H') X.xe s
def oh:TO:=fun _ H Q=>Q none H
def v7 (t:TE):TO:=fun σ H Q=>t σ H fun x H1=>∃i,x= .int i∧Q (some i) H1
section
variable {X:Cx} {e:Expr} {te:TE} {lo hi:Option Expr} {tl th:TO} {pos p2:Pos}
theorem cy:PO X none oh:=by
 intro pins s σ H Q I h
 rw [evalPart_none]
 exact wpAny_pure ⟨none,H,I, .none,h⟩
theorem cw (h:PE X e te):PO X (some e) (v7 te):=by
 intro pins s σ H Q I hw
 rw [evalPart_some]
 refine thn (h pins s σ H _ I hw) fun u s1 ⟨x,H1,I1,r1,q1⟩=> ?_
 obtain ⟨i,rfl,q⟩:=q1
 obtain ⟨t,rfl⟩:=r1
 exact ⟨some i,H1,I1, .int i t,q⟩
def SlR (X:Cx) (r:V→Option Int→Option Int→Hp→VK→Prop):Prop:=
 ∀(pins:List (Addr×Obj)) (s:Shared) (σ:St) (H:Hp) (x:V) (v vl vu:Value) (lo hi:Option Int) (sl:Addr) (Q:VK),Inv X pins σ H s→RelV x v→s.heap.IsSliceOf sl vl vu .none→IsPart vl lo→IsPart vu hi→r x lo hi H Q→
  ∃T id,typeLookup (.type T) "__getitem__"=pure (some (.builtin id))∧s.TypeIs v T∧wpAny (model X.prog X.w) X.A (getItem v (.ref sl)) (EP X pins σ Q) X.xe s
theorem SlR.or {r r':V→Option Int→Option Int→Hp→VK→Prop} (h:SlR X r) (h':SlR X r'):SlR X (fun x lo hi H Q=>r x lo hi H Q∨r' x lo hi H Q):=by
 intro pins s σ H x v vl vu lo hi sl Q I rx hs pl pu q
 rcases q with q|q
 · exact h pins s σ H x v vl vu lo hi sl Q I rx hs pl pu q
 · exact h' pins s σ H x v vl vu lo hi sl Q I rx hs pl pu q
def tSl (r:V→Option Int→Option Int→Hp→VK→Prop) (te:TE) (tl th:TO):TE:=fun σ H Q=>te σ H fun x H1=>tl σ H1 fun l H2=>th σ H2 fun u H3=>r x l u H3 Q
theorem cb {r:V→Option Int→Option Int→Hp→VK→Prop} (hr:SlR X r) (he:PE X e te) (hl:PO X lo tl) (hu:PO X hi th):PE X (.Subscript e (.Slice lo hi none p2) pos) (tSl r te tl th):=by
 intro pins s σ H Q I h
 refine Subscript_ (thn (he pins s σ H _ I h) fun v s1 ⟨x,H1,I1,r1,q1⟩=> ?_)
 refine wpAny_Slice (thn (hl pins s1 σ H1 _ I1 q1) fun vl s2 ⟨l,H2,I2,pl,q2⟩=>thn (hu pins s2 σ H2 _ I2 q2) fun vu s3 ⟨u,H3,I3,pu,q3⟩=> ?_)
 rw [evalPart_none]
 refine wpAny_pure ?_
 have I4:Inv X pins σ H3 {s3 with heap:=s3.heap.push {cls:= .type "slice",data:= .fields #[vl,vu, .none]}}:=I3.kept (t':=s3.toks) fun b ob q=>Heap.get?_push_of_some _ q
 obtain ⟨T,id,hT,ht,hg⟩:=hr pins {s3 with heap:=s3.heap.push {cls:= .type "slice",data:= .fields #[vl,vu, .none]}} σ H3 x v vl vu l u s3.heap.objs.size Q I4 r1 (Heap.IsSliceOf.new ..) pl pu q3
 show wpAny (model X.prog X.w) X.A (subscriptTail e (.Slice lo hi none p2) v (.ref s3.heap.objs.size)) (EP X pins σ Q) X.xe {s3 with heap:=s3.heap.push {cls:= .type "slice",data:= .fields #[vl,vu, .none]}}
 exact tail_any (ops:= [.ref s3.heap.objs.size,v]) ht hT hg (by with_unfolding_all rfl)
noncomputable def cutV (xs:List V) (lo hi:Option Int):List V:=(xs.drop (HT.sIx xs.length 0 lo)).take (HT.sIx xs.length xs.length hi - HT.sIx xs.length 0 lo)
theorem ip (xs:List V) (lo hi:Option Int):(cutV xs lo hi).length≤xs.length:=by
 unfold cutV
 rw [List.length_take,List.length_drop]
 omega
def rSlT (K:PySem.W.Frag):V→Option Int→Option Int→Hp→VK→Prop:=fun x lo hi H Q=>∃a xs,x= .ref a∧SqT K H a xs∧
 ¬(HT.sIx xs.length 0 lo=0∧HT.sIx xs.length xs.length hi=xs.length)∧∀p,H p=none→Q (.ref p) (upd H p (.tup (cutV xs lo hi)))
theorem vM:SlR X (rSlT X.K):=by
 intro pins s σ H x v vl vu lo hi sl Q I rx hs pl pu h
 obtain ⟨a,xs,rfl,hx,hw,q⟩:=h
 cases rx
 obtain ⟨its,r,ht,hz⟩:=I.tuple hx
 have hlen:its.toArray.size=xs.length:=by rw [List.size_toArray];exact r.length.symm
 refine ⟨"tuple",_,PyProof.Rows.slot_tuple_getitem.lookup,ht.typeIs,?_⟩
 refine HT.getItem_tuple_cut ht hs pl pu (by rw [hlen];exact hw) ?_ (by rw [hlen];exact hz)
 rw [hlen]
 refine ⟨.ref s.heap.objs.size,_,I.laid (t':=s.toks) (o:= .tup (cutV xs lo hi)) (fun b ob q=>Heap.get?_push_of_some _ q) (Nat.le_refl _) ?_,rfl,q _ (I.hok.fresh (Nat.le_refl _))⟩
 exact ⟨Nat.le_trans (ip xs lo hi) hz,_,(r.drop (HT.sIx xs.length 0 lo)).take (HT.sIx xs.length xs.length hi - HT.sIx xs.length 0 lo),IsTup.new _ _⟩
def x9 (K:PySem.W.Frag):R2:=fun x y H Q=>∃a b xs ys,x= .ref a∧y= .ref b∧SqT K H a xs∧SqT K H b ys∧xs≠ []∧xs.length+ys.length≤sizeLine∧
 (ys= []→Q (.ref a) H)∧(ys≠ []→∀p,H p=none→Q (.ref p) (upd H p (.tup (xs++ys))))
theorem Vals.nil_iff {xs:List V} {us:List Value} (r:Vals xs us):us= []↔xs= []:=by
 cases r with
 |nil=>simp
 |cons _ _=>simp
theorem oH:OpR X (binaryOp .Add) (x9 X.K):=by
 intro pins s σ H x y v u Q I rx ry h
 obtain ⟨a,b,xs,ys,rfl,rfl,ha,hb,hx,hz,q1,q2⟩:=h
 cases rx
 cases ry
 obtain ⟨its,r1,p1,_⟩:=I.tuple ha
 obtain ⟨its2,r2,p2,_⟩:=I.tuple hb
 refine HT.cat_tup p1 p2 (fun z=>hx (r1.nil_iff.mp z)) (fun z=>⟨.ref a,H,I,rfl,q1 (r2.nil_iff.mp z)⟩) (fun z=> ?_) (by rw [←r1.length,←r2.length];exact hz)
 refine ⟨.ref s.heap.objs.size,_,I.laid (t':=s.toks) (o:= .tup (xs++ys)) (fun b ob q=>Heap.get?_push_of_some _ q) (Nat.le_refl _) ?_,rfl,q2 (fun w=>z (r2.nil_iff.mpr w)) _ (I.hok.fresh (Nat.le_refl _))⟩
 exact ⟨by rw [List.length_append];exact hz,_,r1.append r2,IsTup.new _ _⟩
end
open PySem PySem.Spec PyProof.Rows
noncomputable def ixN (n:Nat) (i:Int):Option Nat:=if 0≤i then (if i < n then some i.toNat else none) else if -(n:Int)≤i then some (i+n).toNat else none
noncomputable def atI {α:Type} (xs:List α) (i:Int):Option α:=(ixN xs.length i).bind fun j=>xs[j]?
theorem oO {n:Nat} {i:Int} {j:Nat} (h:ixN n i=some j):seqIndex? i n=some j∧j < n∧ -(n:Int)≤i∧i < n:=by
 unfold ixN at h
 by_cases h0:0≤i
 · rw [if_pos h0] at h
   by_cases h1:i < n
   · rw [if_pos h1] at h
     have e:i.toNat=j:=Option.some.inj h
     exact ⟨by rw [seqIndex_of h0 h1,e],by omega,by omega,h1⟩
   · rw [if_neg h1] at h;cases h
 · rw [if_neg h0] at h
   by_cases h1:-(n:Int)≤i
   · rw [if_pos h1] at h
     have e:(i+n).toNat=j:=Option.some.inj h
     exact ⟨by rw [seqIndex_neg (by omega) h1,e],by omega,h1,by omega⟩
   · rw [if_neg h1] at h;cases h
theorem l8 {α:Type} {xs:List α} {i:Int} {v:α} (h:atI xs i=some v):∃j,seqIndex? i xs.length=some j∧xs[j]?=some v∧j < xs.length∧ -(xs.length:Int)≤i∧i < xs.length:=by
 unfold atI at h
 cases e:ixN xs.length i with
 |none=>rw [e] at h;cases h
 |some j=>
  rw [e] at h
  obtain ⟨h1,h2,h3,h4⟩:=oO e
  exact ⟨j,h1,h,h2,h3,h4⟩
theorem bh {α:Type} {xs:List α} {j:Nat} {v:α} (h:xs[j]?=some v):atI xs (j:Int)=some v:=by
 have hj:j < xs.length:=(List.getElem?_eq_some_iff.mp h).1
 have e:ixN xs.length (j:Int)=some j:=by
  unfold ixN
  rw [if_pos (by omega),if_pos (by omega)];simp
 unfold atI;rw [e];exact h
def uW (b:Expr):Prop:=∀o i,subscripted b false o i=operate [o,i] (getItem o i)
def IxR (X:Cx) (r:R2):Prop:=
 ∀(value slice:Expr) (pins:List (Addr×Obj)) (s:Shared) (σ:St) (H:Hp) (x y:V) (v u:Value) (Q:VK),Inv X pins σ H s→RelV x v→RelV y u→r x y H Q→
  subscripted slice false v u=operate [v,u] (getItem v u)→wpAny (model X.prog X.w) X.A (subscriptTail value slice v u) (EP X pins σ Q) X.xe s
def MtR (X:Cx) (id:String) (r:V→List V→Hp→VK→Prop):Prop:=
 ∀(pins:List (Addr×Obj)) (s:Shared) (σ:St) (H:Hp) (x:V) (xs:List V) (v:Value) (us:List Value) (Q:VK),Inv X pins σ H s→RelV x v→Vals xs us→r x xs H Q→
  wpAny (model X.prog X.w) X.A (call (.builtin id) (v::us)) (EP X pins σ Q) X.xe s
section
variable {X:Cx} {a b:Expr} {ta tb:TE} {pos:Pos}
theorem IxR.or {r r':R2} (h:IxR X r) (h':IxR X r'):IxR X (fun x y H Q=>r x y H Q∨r' x y H Q):=by
 intro value slice pins s σ H x y v u Q I rx ry q hs
 rcases q with q|q
 · exact h value slice pins s σ H x y v u Q I rx ry q hs
 · exact h' value slice pins s σ H x y v u Q I rx ry q hs
theorem MtR.or {id:String} {r r':V→List V→Hp→VK→Prop} (h:MtR X id r) (h':MtR X id r'):MtR X id (fun x xs H Q=>r x xs H Q∨r' x xs H Q):=by
 intro pins s σ H x xs v us Q I rx rs q
 rcases q with q|q
 · exact h pins s σ H x xs v us Q I rx rs q
 · exact h' pins s σ H x xs v us Q I rx rs q
theorem am {r:R2} (hr:IxR X r) (ha:PE X a ta) (hb:PE X b tb) (hs:uW b):PE X (.Subscript a b pos) (tOp r ta tb):=by
 intro pins s σ H Q I h
 exact Subscript_ (binT ha hb I h fun v u s2 x y H2 I2 rx ry q=>hr a b pins s2 σ H2 x y v u Q I2 rx ry q (hs _ _))
def rIxL (K:PySem.W.Frag):R2:=fun x y H Q=>∃p xs i v,x= .ref p∧y= .int i∧SqL K H p xs∧atI xs i=some v∧Q v H
def rIxT (K:PySem.W.Frag):R2:=fun x y H Q=>∃p xs i v,x= .ref p∧y= .int i∧SqT K H p xs∧atI xs i=some v∧Q v H
def rIxS:R2:=fun x y H Q=>∃z i c,x= .str z∧y= .int i∧z.length≤sizeLine∧atI z.cps.toList i=some c∧Q (.str ⟨#[c]⟩) H
theorem aT:IxR X (rIxL X.K):=by
 intro value slice pins s σ H x y v u Q I rx ry h hs
 obtain ⟨p,xs,i,z,rfl,rfl,hq,he,q⟩:=h
 cases rx
 obtain ⟨t,rfl⟩:=ry
 obtain ⟨its,r,pl,hz⟩:=I.list hq
 obtain ⟨j,h1,h2,h3,h4,h5⟩:=l8 he
 obtain ⟨w,ew,rw'⟩:=r.get h2
 have hl:=r.length
 have hn:=eL
 have fin:EP X pins σ Q w s:=⟨z,H,I,rw',q⟩
 by_cases h0:0≤i
 · have hj:i.toNat=j:=by
    rw [seqIndex_of h0 h5] at h1
    exact Option.some.inj h1
   exact item_listR pl.isList h0 (by omega) (by rw [hj];simpa using ew) fin hs
 · have hj:(i+(its.toArray.size:Int)).toNat=j:=by
    rw [seqIndex_neg (by omega) h4] at h1
    rw [List.size_toArray,←hl]
    exact Option.some.inj h1
   exact subscriptTail_builtinR (x:=w) pl.isList.typeIs slot_list_getitem.lookup
    (wpAny_getItem_list_neg (Q:=fun r s'=>r=w∧EP X pins σ Q r s') pl.isList (by omega) (by rw [List.size_toArray]<;>omega) (by omega) (by rw [hj];simpa using ew) ⟨rfl,fin⟩) hs
theorem ak:IxR X (rIxT X.K):=by
 intro value slice pins s σ H x y v u Q I rx ry h hs
 obtain ⟨p,xs,i,z,rfl,rfl,hq,he,q⟩:=h
 cases rx
 obtain ⟨t,rfl⟩:=ry
 obtain ⟨its,r,pl,hz⟩:=I.tuple hq
 obtain ⟨j,h1,h2,h3,h4,h5⟩:=l8 he
 obtain ⟨w,ew,rw'⟩:=r.get h2
 have hl:=r.length
 have hn:=eL
 have fin:EP X pins σ Q w s:=⟨z,H,I,rw',q⟩
 exact subscriptTail_builtinR (x:=w) pl.typeIs slot_tuple_getitem.lookup
  (getItem_tuple (j:=j) (Q:=fun r s'=>r=w∧EP X pins σ Q r s') pl (by omega) (by omega) (by rw [List.size_toArray,←hl];exact h1) (by simpa using ew) ⟨rfl,fin⟩) hs
theorem kG:IxR X rIxS:=by
 intro value slice pins s σ H x y v u Q I rx ry h hs
 obtain ⟨z,i,c,rfl,rfl,hz,he,q⟩:=h
 obtain ⟨t,rfl⟩:=rx
 obtain ⟨t',rfl⟩:=ry
 obtain ⟨j,h1,h2,h3,h4,h5⟩:=l8 he
 have hl:z.cps.toList.length=z.length:=by simp [Str.length]
 rw [hl] at h1 h4 h5
 have hn:=eL
 exact tail_any (typeIs_str s z t) slot_str_getitem.lookup (getItem_str (c:=c) (by
  have e1:decide (i < -(2^63:Int))=false:=decide_eq_false (by omega)
  have e2:decide (i≥2^63)=false:=decide_eq_false (by omega)
  rw [e1,e2,Bool.or_false]) (by rw [h1];simpa using h2) ⟨.str ⟨#[c]⟩,H,I.tok _,⟨_,rfl⟩,q⟩) hs
theorem nH (its:List Value) (n j:Nat) (u:Value):Obj.mapSeq (·.setIfInBounds j u) {cls:= .type "list",data:= .seq its.toArray n} = {cls:= .type "list",data:= .seq (its.set j u).toArray n}:=by
 simp [Obj.mapSeq]
theorem Inv.lst {pins:List (Addr×Obj)} {σ:St} {H:Hp} {s:Shared} {p:Addr} {xs:List V} (I:Inv X pins σ H s) (h:H p=some (.lst xs)):
 ∃(its:List Value) (n:Nat),Vals xs its∧s.heap.get? p=some {cls:= .type "list",data:= .seq its.toArray n}∧xs.length≤sizeLine:=by
 obtain ⟨z,its,n,r,e⟩:=I.hok p _ h
 exact ⟨its,n,r,e,z⟩
theorem Inv.lstUpd {pins:List (Addr×Obj)} {σ:St} {H:Hp} {s:Shared} {p:Addr} {xs ys:List V} {its its':List Value} {n n':Nat} {f:Obj→Obj} (I:Inv X pins σ H s) (h:H p=some (.lst xs))
 (ho:s.heap.get? p=some {cls:= .type "list",data:= .seq its.toArray n}) (hf:f {cls:= .type "list",data:= .seq its.toArray n} = {cls:= .type "list",data:= .seq its'.toArray n'}) (r:Vals ys its') (hz:ys.length≤sizeLine) (t:Nat):
 Inv X pins σ (upd H p (.lst ys)) {s with heap:=s.heap.update p f,toks:=t}:=by
 have e:(s.heap.update p f).get? p=some {cls:= .type "list",data:= .seq its'.toArray n'}:=by
  rw [Heap.get?_update_self f ho (by rw [hf]<;>rfl),hf]
 refine I.write (x:=p) (e:=p) (by rw [h];trivial) (.inl rfl) (fun b u hb q=>(Heap.get?_update_other _ _ (Ne.symm hb)).trans q) ⟨_,e⟩ ?_
 exact ⟨hz,its',n',r,e⟩
def wZ:V→V→V→Hp→(Hp→Prop)→Prop:=fun o i v H Q=>∃p xs k j,o= .ref p∧i= .int k∧H p=some (.lst xs)∧ixN xs.length k=some j∧Q (upd H p (.lst (xs.set j v)))
theorem iR:PSet X wZ:=by
 intro pins s σ H o i v ov iv u Q I ro ri rv h
 obtain ⟨p,xs,k,j,rfl,rfl,hp,hj,q⟩:=h
 cases ro
 obtain ⟨t,rfl⟩:=ri
 obtain ⟨its,n,r,ho,hz⟩:=I.lst hp
 obtain ⟨h1,h2,h3,h4⟩:=oO hj
 have hl:=r.length
 have hn:=eL
 have I':Inv X pins σ (upd H p (.lst (xs.set j v))) {s with heap:=s.heap.update p (Obj.mapSeq (·.setIfInBounds j u))}:=
  I.lstUpd hp ho (nH its n j u) (r.set rv j) (by rw [List.length_set];exact hz) s.toks
 by_cases h0:0≤k
 · have hk:k.toNat=j:=by
    rw [seqIndex_of h0 h4] at h1
    exact Option.some.inj h1
   exact PySem.W.ki_setAt ho h0 (by omega) (by rw [List.size_toArray,←hl];exact h4) (by rw [hk];exact ⟨_,I',q⟩)
 · have hk:(k+(its.toArray.size:Int)).toNat=j:=by
    rw [seqIndex_neg (by omega) h3] at h1
    rw [List.size_toArray,←hl]
    exact Option.some.inj h1
   exact PySem.W.ki_setBack ho (by omega) (by rw [List.size_toArray,←hl];exact h3) (by omega) (by rw [hk];exact ⟨_,I',q⟩)
theorem km (lo hi:Option Int) (n:Nat):(sliceBounds lo hi none n).1=((HT.sIx n 0 lo:Nat):Int)∧(sliceBounds lo hi none n).2.1=((HT.sIx n n hi:Nat):Int)∧(sliceBounds lo hi none n).2.2=1:=by
 refine ⟨?_,?_,rfl⟩
 · cases lo with
   |none=>simp [sliceBounds,HT.sIx]
   |some i=>
    simp only [sliceBounds,HT.sIx,Option.getD_none,show (1:Int) > 0 by decide,if_true]
    by_cases h:i < 0
    · simp only [h,if_true]<;>omega
    · simp only [h,if_false]<;>omega
 · cases hi with
   |none=>simp [sliceBounds,HT.sIx]
   |some i=>
    simp only [sliceBounds,HT.sIx,Option.getD_none,show (1:Int) > 0 by decide,if_true]
    by_cases h:i < 0
    · simp only [h,if_true]<;>omega
    · simp only [h,if_false]<;>omega
theorem jg (its:List Value) (lo hi:Option Int):slicePick its.toArray lo hi none=((its.drop (HT.sIx its.length 0 lo)).take (HT.sIx its.length its.length hi - HT.sIx its.length 0 lo)).toArray:=by
 obtain ⟨h1,h2,h3⟩:=km lo hi its.toArray.size
 unfold slicePick
 rw [h1,h2,h3]
 simp only [sliceRange_one,pick_run,List.size_toArray]<;>rfl
def rSlL (K:PySem.W.Frag):V→Option Int→Option Int→Hp→VK→Prop:=fun x lo hi H Q=>∃a xs,x= .ref a∧SqL K H a xs∧∀p,H p=none→Q (.ref p) (upd H p (.lst (cutV xs lo hi)))
theorem on:SlR X (rSlL X.K):=by
 intro pins s σ H x v vl vu lo hi sl Q I rx hs pl pu h
 obtain ⟨a,xs,rfl,hx,q⟩:=h
 cases rx
 obtain ⟨its,r,ht,hz⟩:=I.list hx
 have hlen:=r.length
 refine ⟨"list",_,slot_list_getitem.lookup,ht.isList.typeIs,?_⟩
 refine wpAny_getItem_list_slice ht.isList hs pl pu .none (by simp) ?_ (by rw [List.size_toArray]<;>omega)
 rw [jg,←hlen]
 refine ⟨.ref s.heap.objs.size,_,I.laid (t':=s.toks) (o:= .lst (cutV xs lo hi)) (fun b ob q=>Heap.get?_push_of_some _ q) (Nat.le_refl _) ?_,rfl,q _ (I.hok.fresh (Nat.le_refl _))⟩
 exact ⟨Nat.le_trans (ip xs lo hi) hz,_,0,(r.drop (HT.sIx xs.length 0 lo)).take (HT.sIx xs.length xs.length hi - HT.sIx xs.length 0 lo),Heap.get?_push_size _ rfl⟩
noncomputable def vn:V→Bool
 | .non=>true
 | .bl _=>true
 | .int _=>true
 | .str _=>true
 |_=>false
noncomputable def eqV:V→V→Bool
 | .non, .non=>true
 | .bl a, .bl b=>a==b
 | .bl a, .int b=>(if a then 1 else 0)==b
 | .int a, .bl b=>a==(if b then 1 else 0)
 | .int a, .int b=>a==b
 | .str a, .str b=>a==b
 |_,_=>false
noncomputable def inV (x:V) (xs:List V):Bool:=xs.any fun y=>eqV y x
def rIn (K:PySem.W.Frag) (neg:Bool):R2:=fun x y H Q=>∃p xs,y= .ref p∧(SqL K H p xs∨SqT K H p xs)∧vn x=true∧xs.all vn=true∧Q (.bl (if neg then !inV x xs else inV x xs)) H
theorem aF:CallR X (.builtin "len") (fun xs H Q=>∃p ys,xs= [.ref p]∧(SqL X.K H p ys∨SqT X.K H p ys)∧Q (.int ys.length) H):=by
 intro pins s σ H xs us Q I r h
 obtain ⟨p,ys,rfl,hq,q⟩:=h
 obtain ⟨u,rfl,rx⟩:=iB r
 cases rx
 have hn:=eL
 rcases hq with hq|hq
 · obtain ⟨its,r',pl,hz⟩:=I.list hq
   have hlen:=r'.length
   exact Calls.call_len_list pl.isList (by simp only [List.size_toArray]<;>omega) ⟨.int ys.length,H,I.tok _,⟨s.toks+1,by rw [List.size_toArray,hlen]⟩,q⟩
 · obtain ⟨its,r',pl,hz⟩:=I.tuple hq
   have hlen:=r'.length
   exact len_tuple pl (by simp only [List.size_toArray]<;>omega) ⟨.int ys.length,H,I.tok _,⟨s.toks+1,by rw [List.size_toArray,hlen]⟩,q⟩
theorem kY:CallR X (.builtin "len") (fun xs H Q=>∃z,xs= [.str z]∧z.length≤sizeLine∧Q (.int z.length) H):=by
 intro pins s σ H xs us Q I r h
 obtain ⟨z,rfl,hz,q⟩:=h
 obtain ⟨u,rfl,t,rfl⟩:=iB r
 have hn:=eL
 exact len_str (by omega) ⟨.int z.length,H,I.tok _,⟨_,rfl⟩,q⟩
theorem CallR.or {f:Value} {r r':List V→Hp→VK→Prop} (h:CallR X f r) (h':CallR X f r'):CallR X f (fun xs H Q=>r xs H Q∨r' xs H Q):=by
 intro pins s σ H xs us Q I rs q
 rcases q with q|q
 · exact h pins s σ H xs us Q I rs q
 · exact h' pins s σ H xs us Q I rs q
theorem cM:CallR X (.type "list") (fun xs H Q=>∃p ys,xs= [.ref p]∧(SqL X.K H p ys∨SqT X.K H p ys)∧∀l,H l=none→Q (.ref l) (upd H l (.lst ys))):=by
 intro pins s σ H xs us Q I r h
 obtain ⟨p,ys,rfl,hq,q⟩:=h
 obtain ⟨u,rfl,rx⟩:=iB r
 cases rx
 have fin:∀(its:List Value),Vals ys its→ys.length≤sizeLine→∀(h':Heap) (c':Nat),(∀b o',s.heap.get? b=some o'→h'.get? b=some o')→
  h'.get? s.heap.objs.size=some {cls:= .type "list",dict:=none,data:= .seq its.toArray c',slots:= #[]}→EP X pins σ Q (.ref s.heap.objs.size) {s with heap:=h'}:=fun its r' hz h' c' kp e=>
  ⟨.ref s.heap.objs.size,_,I.laid (t':=s.toks) kp (Nat.le_refl _) (show ObjOk X.prog X.w _ h' _ (.lst ys) from ⟨hz,its,c',r',e⟩),rfl,q _ (I.hok.fresh (Nat.le_refl _))⟩
 rcases hq with hq|hq
 · obtain ⟨its,r',pl,hz⟩:=I.list hq
   have hlen:=r'.length
   obtain ⟨o,ho,hc,n,hd⟩:=pl.isList
   exact call_list_seq p (.inl rfl) ho hc hd (fun h' c' kp e=>fin its r' hz h' c' kp e) (by simp only [List.size_toArray]<;>omega)
 · obtain ⟨its,r',pl,hz⟩:=I.tuple hq
   have hlen:=r'.length
   obtain ⟨o,ho,hc,n,hd⟩:=pl
   exact call_list_seq p (.inr rfl) ho hc hd (fun h' c' kp e=>fin its r' hz h' c' kp e) (by simp only [List.size_toArray]<;>omega)
theorem bu:CallR X (.type "tuple") (fun xs H Q=>∃p ys,xs= [.ref p]∧((SqL X.K H p ys∧∀l,H l=none→Q (.ref l) (upd H l (.tup ys)))∨(SqT X.K H p ys∧Q (.ref p) H))):=by
 intro pins s σ H xs us Q I r h
 obtain ⟨p,ys,rfl,h⟩:=h
 obtain ⟨u,rfl,rx⟩:=iB r
 cases rx
 rcases h with ⟨hq,q⟩|⟨hq,q⟩
 · obtain ⟨its,r',pl,hz⟩:=I.list hq
   have hlen:=r'.length
   refine call_tuple_list pl.isList (fun h' kp=> ?_) (by simp only [List.size_toArray]<;>omega)
   have I1:Inv X pins σ H {s with heap:=h'}:=I.kept (t':=s.toks) kp
   have I2:Inv X pins σ (upd H h'.objs.size (.tup ys)) {s with heap:=h'.push {cls:= .type "tuple",data:= .seq its.toArray}}:=
    I1.laid (t':=s.toks) (fun b o e=>Heap.get?_push_of_some _ e) (Nat.le_refl _) (show ObjOk X.prog X.w _ _ _ (.tup ys) from ⟨hz,its,r',IsTup.new _ _⟩)
   exact ⟨.ref h'.objs.size,_,I2,rfl,q _ (I1.hok.fresh (Nat.le_refl _))⟩
 · obtain ⟨its,r',pl,hz⟩:=I.tuple hq
   exact call_tuple_same pl ⟨.ref p,H,I,rfl,q⟩
def tyV (K:PySem.W.Frag) (T:String) (x:V) (H:Hp):Prop:=match x with
 | .str _=>T= "str"
 | .int _=>T= "int"
 | .ref p=>(T= "list"∧∃xs,SqL K H p xs)∨(T= "tuple"∧∃o,K.lookup p=some o∧o.cls= .type "tuple"∧o.dict=none)∨
  (T= "dict"∧((∃kvs,H p=some (.dK kvs))∨∃kvs,H p=some (.dT kvs)))∨(T= "set"∧∃S n,H p=some (.set S n))
 |_=>False
theorem qj {pins:List (Addr×Obj)} {σ:St} {H:Hp} {s:Shared} {T:String} {x:V} {v:Value} (I:Inv X pins σ H s) (r:RelV x v) (ty:tyV X.K T x H):
 s.TypeIs v T∧∀a,v= .ref a→∃ob,s.heap.get? a=some ob∧ob.dict=none:=by
 cases x with
 |str z=>
  obtain ⟨t,rfl⟩:=r
  cases (show T= "str" from ty)
  exact ⟨typeIs_str s z t,fun _ e=>nomatch e⟩
 |int i=>
  obtain ⟨t,rfl⟩:=r
  cases (show T= "int" from ty)
  exact ⟨typeIs_int s i t,fun _ e=>nomatch e⟩
 |ref p=>
  cases r
  rcases ty with ⟨rfl,xs,hq⟩|⟨rfl,o,hk,hc,hd⟩|⟨rfl,hk⟩|⟨rfl,S,n,hk⟩
  · obtain ⟨its,_,pl,_⟩:=I.list hq
    refine ⟨pl.isList.typeIs,fun a e=> ?_⟩
    cases e
    obtain ⟨o,n,e,c,hd,_⟩:=pl
    exact ⟨o,e,hd⟩
  · refine ⟨⟨o,I.kIn p o hk,hc⟩,fun a e=> ?_⟩
    cases e
    exact ⟨o,I.kIn _ o hk,hd⟩
  · have z:∃o,s.heap.get? p=some o∧o.ExactDict:=by
     rcases hk with ⟨kvs,hk⟩|⟨kvs,hk⟩
     · obtain ⟨_,_,_,_,o,_,_,e,ex,_⟩:=I.hok p _ hk
       exact ⟨o,e,ex⟩
     · obtain ⟨_,_,_,_,o,_,_,e,ex,_⟩:=I.hok p _ hk
       exact ⟨o,e,ex⟩
    obtain ⟨o,e,ex⟩:=z
    refine ⟨⟨o,e,ex.1⟩,fun a e2=> ?_⟩
    cases e2
    exact ⟨o,e,ex.2.1⟩
  · obtain ⟨o,_,_,_,e,ex,_⟩:=I.hok p _ hk
    refine ⟨⟨o,e,ex.1⟩,fun a e2=> ?_⟩
    cases e2
    exact ⟨o,e,ex.2.1⟩
 |_=>exact False.elim ty
def tBM0 (K:PySem.W.Frag) (T:String) (r:V→List V→Hp→VK→Prop) (to:TE):TE:=fun σ H Q=>to σ H fun x H1=>tyV K T x H1∧r x [] H1 Q
def tBM (K:PySem.W.Frag) (T:String) (r:V→List V→Hp→VK→Prop) (to:TE) (t:TA):TE:=fun σ H Q=>to σ H fun x H1=>tyV K T x H1∧t σ H1 fun xs H2=>r x xs H2 Q
variable {o e:Expr} {es:List Expr} {to:TE} {t:TA} {name:Str} {apos cpos:Pos} {T id:String} {r:V→List V→Hp→VK→Prop}
theorem nu (pa:PlainAttrs T) (slot:Slot T name id) (hty:typeOf (.builtin id)=pure (.type "method_descriptor")) (hm:MtR X id r) (ho:PE X o to)
 (hbase:attributeBase o name X.env (eval o X.env)=eval o X.env:=by rfl) (hline:(apos.endLine==cpos.line)=true:=by rfl):PE X (.Call (.Attribute o name apos) [] [] cpos) (tBM0 X.K T r to):=by
 intro pins s σ H Q I h
 refine wpAny_Call_method0_late hbase hline (thn (ho pins s σ H _ I h) fun v s1 ⟨x,H1,I1,r1,ty,q1⟩=> ?_)
 obtain ⟨h1,h2⟩:=qj I1 r1 ty
 exact ⟨T,id,pa,slot,hty,h1,h2,Calls.callWith_builtin rfl (PySem.evalArgs_none (hm pins s1 σ H1 x [] v [] Q I1 r1 .nil q1))⟩
theorem iX (pa:PlainAttrs T) (slot:Slot T name id) (hty:typeOf (.builtin id)=pure (.type "method_descriptor")) (hm:MtR X id r) (ho:PE X o to) (ha:PA X (e::es) t)
 (hbase:attributeBase o name X.env (eval o X.env)=eval o X.env:=by rfl)
 (hfew:((backTo cpos (starEach (e::es) X.env)).all (fun x=> !x.1)&& (backToKw cpos (keywordEach [] X.env)).all (fun x=>x.1.isSome)
  &&decide ((e::es).length+([]:List Keyword).length+(if ([]:List Keyword).isEmpty then 0 else 1) < 30))=true:=by rfl)
 (hline:(apos.endLine==cpos.line)=true:=by rfl) (hs:starEach (e::es) X.env=(false,eval e X.env)::starEach es X.env:=by rfl) (hplain:(backTo cpos (starEach es X.env)).any (·.1)=false:=by rfl):
 PE X (.Call (.Attribute o name apos) (e::es) [] cpos) (tBM X.K T r to t):=by
 intro pins s σ H Q I h
 refine wpAny_Call_method_late hbase hfew hline rfl (thn (ho pins s σ H _ I h) fun v s1 ⟨x,H1,I1,r1,ty,q1⟩=> ?_)
 obtain ⟨h1,h2⟩:=qj I1 r1 ty
 refine ⟨T,id,pa,slot,hty,h1,h2,?_⟩
 have hA:=ha cpos pins s1 σ H1 _ I1 q1
 rw [hs] at hA ⊢
 refine Calls.callWith_builtin (by show (false ||(backTo cpos (starEach es X.env)).any (·.1))=false;rw [hplain]<;>rfl) (Calls.evalArgs_plain ?_)
 exact thn hA fun us s2 ⟨vs,H2,I2,r2,q2⟩=>hm pins s2 σ H2 x vs v us Q I2 r1 r2 q2
end
open PySem PySem.Spec PyProof.Rows
def MtM (X:Cx) (id:String) (r:V→List V→Hp→VK→Prop):Prop:=
 ∀(pins:List (Addr×Obj)) (s:Shared) (σ:St) (H:Hp) (x:V) (xs:List V) (v:Value) (us:List Value) (Q:VK),Inv X pins σ H s→RelV x v→Vals xs us→r x xs H Q→
  wpAny (model X.prog X.w) X.A (call (.builtin id) (v::us)) (EP X pins σ Q) X.xe s
theorem Vals.one:∀ {x:V} {us:List Value},Vals [x] us→∃u,us= [u]∧RelV x u
 |_,_, .cons r .nil=>⟨_,rfl,r⟩
theorem Vals.two {x y:V} {us:List Value} (h:Vals [x,y] us):∃u v,us= [u,v]∧RelV x u∧RelV y v:=by
 cases h with
 |cons r t=>cases t with
  |cons q t'=>cases t';exact ⟨_,_,rfl,r,q⟩
theorem Vals.zero:∀ {us:List Value},Vals [] us→us= []
 |_, .nil=>rfl
theorem Vals.dropLast {xs:List V} {us:List Value} (h:Vals xs us):Vals xs.dropLast us.dropLast:=by
 induction h with
 |nil=>exact .nil
 |cons r t ih=>
  cases t with
  |nil=>exact .nil
  |cons q t'=>exact .cons r ih
theorem Vals.reverse {xs:List V} {us:List Value} (h:Vals xs us):Vals xs.reverse us.reverse:=by
 induction h with
 |nil=>exact .nil
 |cons r t ih=>rw [List.reverse_cons,List.reverse_cons];exact Vals.append ih (.cons r .nil)
section
variable {X:Cx} {pins:List (Addr×Obj)} {σ:St} {H:Hp} {s:Shared} {l b:Addr} {xs ys zs:List V}
theorem Inv.lset {its its':List Value} {n:Nat} {f:Array Value→Array Value} {t':Nat} (I:Inv X pins σ H s) (hH:H l=some (.lst xs))
 (e:s.heap.get? l=some {cls:= .type "list",data:= .seq its.toArray n}) (hf:f its.toArray=its'.toArray) (hv:Vals ys its') (hz:ys.length≤sizeLine):
 Inv X pins σ (upd H l (.lst ys)) {s with heap:=s.heap.update l (Obj.mapSeq f),toks:=t'}:=by
 have q:=PySem.IsL.update e f
 rw [hf] at q
 refine I.write (x:=l) (e:=l) (by rw [hH];exact trivial) (.inl rfl) (fun b' u hb hu=>(Heap.get?_update_other s.heap (Obj.mapSeq f) (Ne.symm hb)).trans hu) ⟨_,q⟩ ?_
 exact ⟨hz,its',_,hv,q⟩
theorem Inv.lnew {its:List Value} {t':Nat} (I:Inv X pins σ H s) (hv:Vals ys its) (hz:ys.length≤sizeLine):
 Inv X pins σ (upd H s.heap.objs.size (.lst ys)) {s with heap:=s.heap.push {cls:= .type "list",data:= .seq its.toArray},toks:=t'}:=
 I.laid (fun _ _ q=>Heap.get?_push_of_some _ q) (Nat.le_refl _) ⟨hz,its,0,hv,Heap.get?_push_size _ rfl⟩
theorem Inv.fresh (I:Inv X pins σ H s):H s.heap.objs.size=none:=I.hok.fresh (Nat.le_refl _)
theorem Inv.lstM (I:Inv X pins σ H s) (hH:H l=some (.lst xs)):xs.length≤sizeLine∧∃(its:List Value) (n:Nat),Vals xs its∧xs.length=its.length∧s.heap.get? l=some {cls:= .type "list",data:= .seq its.toArray n}:=by
 obtain ⟨z,its,n,r,e⟩:=I.hok l _ hH
 exact ⟨z,its,n,r,r.length,e⟩
end
section
variable {X:Cx}
def ua:V→List V→Hp→VK→Prop:=fun x vs H Q=>∃l xs y,x= .ref l∧vs= [y]∧H l=some (.lst xs)∧xs.length < sizeLine∧Q .non (upd H l (.lst (xs++ [y])))
theorem cN:MtM X "list.append" ua:=by
 intro pins s σ H x vs v us Q I rx rv h
 obtain ⟨l,xs,y,rfl,rfl,hH,hz,q⟩:=h
 cases rx
 obtain ⟨u,rfl,ru⟩:=rv.one
 obtain ⟨z,its,n,r,hl,e⟩:=I.lstM hH
 refine call_meets F.slot_list_append ⟨_,e,rfl⟩ F.entry_list_append (F.args_list_append_2 _ _) (PySem.list_append l its.toArray n u (by rw [List.size_toArray];omega)) ⟨e,?_⟩
 refine ⟨.non,_,I.lset (its':=its++ [u]) hH e (by simp) (r.append (.cons ru .nil)) ?_,rfl,q⟩
 rw [List.length_append,List.length_singleton]
 omega
def rCat:R2:=fun x y H Q=>∃l b xs zs,x= .ref l∧y= .ref b∧H l=some (.lst xs)∧H b=some (.lst zs)∧xs.length+zs.length≤sizeLine∧∀p,H p=none→Q (.ref p) (upd H p (.lst (xs++zs)))
theorem i7:OpR X (binaryOp .Add) rCat:=by
 intro pins s σ H x y v u Q I rx ry h
 obtain ⟨l,b,xs,zs,rfl,rfl,hH,hB,hz,q⟩:=h
 cases rx
 cases ry
 obtain ⟨z,its,n,r,hl,e⟩:=I.lstM hH
 obtain ⟨z2,its2,n2,r2,hl2,e2⟩:=I.lstM hB
 refine PySem.P.add_list e e2 ?_ (by rw [List.size_toArray,List.size_toArray];omega)
 have ea:its.toArray++its2.toArray=(its++its2).toArray:=by simp
 rw [ea]
 exact ⟨.ref _,_,I.lnew (t':=s.toks) (r.append r2) (by rw [List.length_append];omega),rfl,q _ I.fresh⟩
end
section
variable {prog:Program} {w:World} {A:Around} {E:Value→Shared→Prop} {s:Shared}
end
section
variable {X:Cx}
end
end L2
namespace Att
open PySem PySem.W PySem.Calls PyProof.Rows
theorem iq {P:Params} {h:Heap}:∀(ns:List Int) (vs:List Value),WellAll P h vs (ns.map WData.int)→IntsAre vs ns:=by
 intro ns
 induction ns with
 |nil=>
  intro vs w
  rw [List.map_nil] at w
  cases w
  exact .nil
 |cons n ns ih=>
  intro vs w
  rw [List.map_cons] at w
  cases w with
  |cons a b=>
   cases a
   exact .cons _ _ (ih _ b)
theorem pD {l:OpenLaw} {n:Nat} (hn:l.most=some n) {P:Params} {h:Heap} {args:List WData} {vals:List Value}
 (hpre:l.row.toRowW.claim.pre args=true) (hwl:WellAll P h vals args):
 ∃a vs ns,vals= [Value.ref a]∧args= [WData.list (ns.map WData.int)]∧h.get? a=some {cls:= .type "list",data:= .seq vs.toArray}∧IntsAre vs ns∧ns.length≤n:=by
 have hsh:WShape.hasAll [] args [.list .int]=true:=(pre_splitW hpre).1
 have hc:l.pre.holds [] {args:=args} =true:=(pre_splitW hpre).2
 obtain ⟨d,r,rfl,h1,h2⟩:=hasAllW_cons hsh
 obtain rfl:=hasAllW_nil h2
 obtain ⟨xs,rfl,h3⟩:=hasW_list h1
 obtain ⟨ns,rfl⟩:=items_int h3
 have hlen:ns.length≤n:=by
  unfold OpenLaw.pre at hc
  have h4:(WTm.not (.lt (.lit (.int (n:Int))) (.len (.arg 0)))).holds [] {args:= [.list (ns.map .int)]} =true:=by
   have h4:=(holds_andW hc).1
   rw [hn] at h4
   exact h4
  have h5:=condW_of h4 (w_not (w_lt w_lit (w_len_list (w_arg rfl))))
  rw [List.length_map] at h5
  refine Nat.le_of_not_lt fun q=> ?_
  have q':(n:Int) < ((ns.length:Nat):Int):=by omega
  first
   |(rw [decide_eq_true q'] at h5;exact absurd h5 (by decide))
   |(simp at h5;omega)
 cases hwl with
 |cons w1 w2=>
  cases w2
  cases w1 with
  |list ho hall=>exact ⟨_,_,ns,rfl,rfl,ho,iq ns _ hall,hlen⟩
theorem pF (l:OpenLaw) (args:List WData):l.row.toRowW.claim.post args (.bool true) args=true:=
 postW_of (r:=l.row.toRowW) (X:=(true==true))
  (show WShape.has [] (.bool true) .bool=true by first|rfl|decide|simp [WShape.has,WShape.arms,WShape.armsAll])
  (show (WTm.eq .res (.lit (.bool true))).value [] {args:=args,res:=some (.bool true),after:=args} =some (.bool (true==true)) from w_eq_bool (w_res rfl) w_lit) rfl
theorem attach_call {l:OpenLaw} {n:Nat} {q:Program} {loose:List Str} {XP:(Str→Option Value)→Heap→Prop} {YP:World→Heap→Prop} {d:DefRec}
 (hn:l.most=some n) (hdf:d.params.defaults= [])
 (call:∀(w:World) (s₀ s₁:Shared) (mg mb:Str→Option Value) (fa:Addr) (o:Obj) (pm cd doc:Value) (a:Addr) (vs:List Value) (ns:List Int),
  Ground q loose [] XP w s₀ mg mb s₁.heap→YP w s₁.heap→
  s₁.heap.get? fa=some o→o.data= .func (docDef d.name d.params d.body d.scope pm cd doc)→s₁.heap.CodeRec cd d.name→mg d.name=some (.ref fa)→
  s₁.heap.get? a=some {cls:= .type "list",data:= .seq vs.toArray}→IntsAre vs ns→ns.length≤n→s₁.gens= #[]→
  codeAny (model l.prog w) callerA (.call (.ref fa) ⟨[.ref a],[]⟩) (fun r s'=>r= .ok (.ret (.bool true))∧OldK s₁.heap s'.heap∧s'.os=s₁.os∧AllBare s'.gens) s₁):
 WalkO q loose XP YP l.row.toRowW d [] (fun f vs=>PySem.call f vs):=by
 intro w s₀ s₁ mg mb G Y fa o pm cd doc dV kV ho hd hcd hD hmg hg args vals as hpre hlay hrd hwl hlo
 obtain rfl:dV= .none:=Dflts.none hD hdf
 obtain rfl:kV= .none:=Dflts.noKw hD
 obtain ⟨a,vs,ns,rfl,rfl,hobj,hints,hlen⟩:=pD hn hpre hwl
 refine enter_call (codeAny_mono (call w s₀ s₁ mg mb fa o pm cd doc a vs ns G Y ho (fd_plain hd) hcd hmg hobj hints hlen hg) fun r s' hq=> ?_)
 obtain ⟨rfl,h2,h3,h4⟩:=hq
 exact ⟨.inl ⟨.bool true, .bool true,[],rfl,fun _=>rfl, .bool true,pF l _,fun _=>⟨List.Pairwise.nil,fun _ hm=>(nomatch hm)⟩⟩,h2,h3,h4⟩
section
variable {prog:Program} {w:World} {A:Around} {E:Value→Shared→Prop} {s:Shared} {K:Frag}
end
end Att
namespace L2
open PySem PySem.Spec PyProof.Rows
theorem jk:∀ {vs:List Value} {ns:List Int},IntsAre vs ns→Vals (ns.map V.int) vs
 |_,_, .nil=> .nil
 |_,_, .cons n t h=> .cons ⟨t,rfl⟩ (jk h)
def Only (H:Hp):Prop:=∀b,H b=none∨∃o xs,H b=some (.frz o (.lst xs))
theorem se {P:Program} {w:World} {K:PySem.W.Frag} {mg mb:Str→Option Value} {CX:CXT} {k:Nat} {fa a:Addr} {fd:FuncData} {x:Str} {sp:Sp} {s₁:Shared} {vs:List Value} {ns:List Int}
 (KX:K.In s₁.heap) (hns:s₁.heap.Ns mainGlobals mg) (hb:s₁.heap.Ns builtinsNs mb) (hbb:∀x:Str,x≠"__name__"→mb x=bootBuiltins x) (hlim:s₁.heap.NoLimit) (hg:s₁.gens= #[])
 (ha:s₁.heap.get? a=some {cls:= .type "list",data:= .seq vs.toArray}) (hi:IntsAre vs ns) (hl:ns.length≤sizeLine) (hr:Room k callerA)
 (F:∀base:Heap,K.In base→base.Ns mainGlobals mg→FnOk P w K mg base CX k fa fd [x] sp) (hbind:∀(s:Shared) (u:Value),BindsTo s fd ⟨[u],[]⟩ [(x,u)])
 (hsp:∀H:Hp,Only H→SqL K H a (ns.map V.int)→sp [.ref a] H (fun v _=>v= .bl true) fun _ _ _=>False)
 (hCX:∀H e s',CX [] H s₁ (fun _ _ _=>False) e s'→False):
 codeAny (model P w) callerA (.call (.ref fa) ⟨[.ref a],[]⟩) (fun r s'=>r= .ok (.ret (.bool true))∧OldK s₁.heap s'.heap∧s'.os=s₁.os∧AllBare s'.gens) s₁:=by
 have rv:=jk hi
 have lenV:=hi.length
 have core:∀H:Hp,Only H→SqL K H a (ns.map V.int)→HOk P w H s₁.heap→(∀b,H b≠none→b=a)→(H a≠none→K.lookup a=none)→
  codeAny (model P w) callerA (.call (.ref fa) ⟨[.ref a],[]⟩) (fun r s'=>r= .ok (.ret (.bool true))∧OldK s₁.heap s'.heap∧s'.os=s₁.os∧AllBare s'.gens) s₁:=by
  intro H hO hS hok hA hK
  have base_of:∀ {b:Addr} {o:Obj},s₁.heap.get? b=some o→H b=none→(hidT s₁.heap H).get? b=some o:=fun e n=>sI e n
  have noA:∀ {b:Addr} {o:Obj} {es:Array DictEntry} {ep:Nat},s₁.heap.get? b=some o→o.data= .dict es ep→H b=none:=fun {b o es ep} e d=>by
   cases q:H b with
   |none=>rfl
   |some u=>
    have e':b=a:=hA b (by rw [q];simp)
    subst e'
    rw [ha] at e;cases e
    have d':Data.seq vs.toArray _=Data.dict es ep:=d
    cases d'
  have nsK:∀ {b:Addr} {m:Str→Option Value},s₁.heap.Ns b m→(hidT s₁.heap H).Ns b m:=fun {b m} ⟨o,es,ep,e,d,r⟩=>⟨o,es,ep,base_of e (noA e d),d,r⟩
  have hKb:K.In (hidT s₁.heap H):=fun b o e=>base_of (KX b o e) (by
   cases q:H b with
   |none=>rfl
   |some u=>
    have e':b=a:=hA b (by rw [q];simp)
    subst e'
    rw [hK (by rw [q];simp)] at e;cases e)
  have hM:Mod K mg (hidT s₁.heap H):=⟨hKb,nsK hns,⟨mb,nsK hb,hbb⟩,let ⟨mc,h1,h2⟩:=hlim;⟨mc,nsK h1,h2⟩⟩
  have e0:Env0 P w K mg (hidT s₁.heap H) callerA [] s₁ H:=⟨rfl,hM,fun b o e=>uy e,Nat.le_of_eq (pQ _ _),trivial,fun b hb=>absurd (show b∈([]:List Addr) from hb) (by simp),hok, .of_eq hg⟩
  refine codeAny_mono ((F _ hKb (nsK hns)).run callerA [] s₁ H ⟨[.ref a],[]⟩ [.ref a] [.ref a] _ _ hr e0 (hbind s₁ (.ref a)) (.cons rfl .nil) (hsp H hO hS)) fun r s' h=> ?_
  cases r with
  |error e=>exact (hCX H e s' h).elim
  |ok fl=>
   cases fl with
   |next=>exact False.elim h
   |brk=>exact False.elim h
   |cont=>exact False.elim h
   |ret u=>
    obtain ⟨v,H',os,bare,un,hok',r',q⟩:=h
    have q':v= .bl true:=q
    subst q'
    obtain rfl:u=Value.bool true:=r'
    refine ⟨rfl,OldK.of_keep fun b o e=> ?_,os,bare⟩
    cases q:H b with
    |none=>exact un.keep b o e q (by intro z;exact absurd (show b∈([]:List Addr) from z) (by simp)) (by simp)
    |some u=>
     rcases hO b with z|⟨ob,xs,z⟩
     · rw [q] at z;cases z
     · have z2:=un.frzs b ob _ z
       obtain ⟨e1,_⟩:=hok b _ z
       obtain ⟨e2,_⟩:=hok' b _ z2
       rw [e] at e1;cases e1
       exact e2
 cases hk:K.lookup a with
 |some o=>
  have e:=KX a o hk
  rw [ha] at e
  cases e
  refine core (fun _=>none) (fun _=> .inl rfl) (.inr ⟨_,vs.toArray,_,hk,rfl,rfl,rfl,by rw [List.size_toArray,lenV];exact hl,by simpa using rv⟩) (fun b u z=>by have z':(none:Option HO)=some u:=z;cases z') (fun b z=>absurd rfl z) fun z=>absurd rfl z
 |none=>
  refine core (fun b=>if b=a then some (.frz {cls:= .type "list",data:= .seq vs.toArray} (.lst (ns.map V.int))) else none) (fun b=> ?_) (.inl (.inr ⟨{cls:= .type "list",data:= .seq vs.toArray},if_pos rfl⟩)) (fun b u z=> ?_) (fun b z=> ?_) fun _=>hk
  · by_cases hb:b=a
    · exact .inr ⟨_,_,if_pos hb⟩
    · exact .inl (if_neg hb)
  · by_cases hb:b=a
    · have z':=(if_pos hb).symm.trans z
      cases z'
      subst hb
      exact ⟨ha,by rw [List.length_map];exact hl,vs,_,rv,ha⟩
    · have z':=(if_neg hb).symm.trans z
      cases z'
  · by_cases hb:b=a
    · exact hb
    · exact absurd (if_neg hb) z
open PySem PySem.Spec PyProof.Rows
theorem walk_of {l:PySem.W.OpenLaw} {n k:Nat} {q:Program} {loose:List Str} {XP:(Str→Option Value)→Heap→Prop} {YP:World→Heap→Prop} {d:DefRec} {K:Params→PySem.W.Frag} {CX:World→CXT} {sp:World→Sp} {x:Str}
 (hn:l.most=some n) (hn2:n≤sizeLine) (hdf:d.params.defaults= []) (hr:Room k callerA)
 (hY:∀(w:World) (h:Heap),YP w h→(K w.params).In h)
 (F:∀(w:World) (mg:Str→Option Value) (fa:Addr) (h:Heap),(K w.params).In h→h.Ns mainGlobals mg→mg d.name=some (.ref fa)→
  ∃fd:FuncData,(∀(s:Shared) (u:Value),BindsTo s fd ⟨[u],[]⟩ [(x,u)])∧
   ∀base:Heap,(K w.params).In base→base.Ns mainGlobals mg→FnOk l.prog w (K w.params) mg base (CX w) k fa fd [x] (sp w))
 (hsp:∀(w:World) (H:Hp) (a:Addr) (ns:List Int),ns.length≤n→Only H→SqL (K w.params) H a (ns.map V.int)→sp w [.ref a] H (fun v _=>v= .bl true) fun _ _ _=>False)
 (hCX:∀(w:World) (H:Hp) (s:Shared) (e:Value) (s':Shared),CX w [] H s (fun _ _ _=>False) e s'→False):
 PySem.W.WalkO q loose XP YP l.row.toRowW d [] (fun f vs=>PySem.call f vs):=by
 refine Att.attach_call hn hdf fun w s₀ s₁ mg mb fa o pm cd doc a vs ns G Y ho hd hcd hmg hobj hints hlen hg=> ?_
 have KX:=hY w _ Y
 obtain ⟨fd,hb,hF⟩:=F w mg fa _ KX G.T.g hmg
 exact se KX G.T.g G.T.b G.T.builtins G.T.nolimit hg hobj hints (Nat.le_trans hlen hn2) hr hF hb (fun H hO hS=>hsp w H a ns hlen hO hS) fun H e s'=>hCX w H s₁ e s'
open PySem PySem.Spec PyProof.Rows
noncomputable def uJ (s:Stmt) (j:Nat):Stmt:=match s with
 | .ClassDef _ _ _ body _ _ _ _ _ _ _=>body.getD j (.Pass ⟨0,0,0,0⟩)
 |_=> .Pass ⟨0,0,0,0⟩
noncomputable def au (s:Stmt):Arguments:=match s with
 | .FunctionDef _ a _ _ _ _ _ _ _ _=>a
 |_=> {posonlyargs:= [],args:= [],vararg:=none,kwonlyargs:= [],kw_defaults:= [],kwarg:=none,defaults:= []}
noncomputable def ao (s:Stmt):List Stmt:=match s with
 | .FunctionDef _ _ b _ _ _ _ _ _ _=>b
 |_=> []
noncomputable def af (s:Stmt):Scope:=match s with
 | .FunctionDef _ _ _ _ _ _ sc _ _ _=>sc
 |_=> {kind:= .function,names:= [],isGenerator:=false,isCoroutine:=false}
abbrev CX0:CXT:=fun _ _ _ _ _ _=>False
abbrev E0:XK:=fun _ _ _=>False
theorem ai {X:Cx}:ie CX0 X E0:=fun _ _ _ _ _ _ _ h=>h.elim
structure Fun (K:PySem.W.Frag) (x qual:Str) (st:Stmt) (f:Addr) (fd:FuncData):Prop where
 ex:∃(oc:Value) (od:Option Addr) (kV doc pm:Value) (an:Option Addr) (cdv ct:Value) (osl:Array (Option Value)),
  fd=PySem.W.fnOf x qual (au st) (ao st) (af st) .none kV doc pm an cdv ct∧K.lookup f=some ⟨oc,od, .func fd,osl⟩∧PySem.W.codeIn K cdv qual=true
 kp:PySem.W.keepIn K (.ref f)=true
section
variable {P:Program} {w:World} {K:PySem.W.Frag} {mg:Str→Option Value} {base:Heap}
theorem Fun.ok {x qual:Str} {st:Stmt} {f:Addr} {fd:FuncData} {N ps:List Str} {k:Nat} {sp:Sp} (F:Fun K x qual st f fd) (S:ax N ps (af st)) (len:∀vs H Q E,sp vs H Q E→vs.length=ps.length)
 (hbody:∀(cdv:Value) (A:Around) (outer:List Env) (s:Shared) (H:Hp) (vs:List V) (Q:VK) (E:XK),Room k (A.deeper (envOfC qual (af st) s.heap.objs.size f cdv))→sp vs H Q E→
  ∃t,PSs (cxOf CX0 P w K mg base N qual (af st) f cdv A outer s H E).nox (ao st) t∧t {nx:=fun _ H'=>Q .non H',rt:=Q} (fu N vs) H):FnOk P w K mg base CX0 (k+1) f fd ps sp:=by
 obtain ⟨oc,od,kV,doc,pm,an,cdv,ct,osl,rfl,lk,hcd⟩:=F.ex
 refine vm lk hcd S len fun A outer s H vs Q E hr hsp=> ?_
 obtain ⟨t,h,q⟩:=hbody cdv A outer s H vs Q E hr hsp
 exact ⟨t,h.nox,q⟩
theorem Fun.binds {x qual:Str} {st:Stmt} {f:Addr} {fd:FuncData} {ps:List Str} (F:Fun K x qual st f fd)
 (h:∀(kV doc pm:Value) (an:Option Addr) (cdv ct:Value) (us:List Value),us.length=ps.length→bindArgs (PySem.W.fnOf x qual (au st) (ao st) (af st) .none kV doc pm an cdv ct) ⟨us,[]⟩=pure (ps.zip us)):Binds K fd ps []:=by
 obtain ⟨oc,od,kV,doc,pm,an,cdv,ct,osl,rfl,lk,hcd⟩:=F.ex
 exact .all (h kV doc pm an cdv ct)
theorem aG {x qual:Str} {st:Stmt} {f:Addr} {oc:Value} {od an:Option Addr} {osl:Array (Option Value)} {kV doc pm cdv ct:Value} (l:K.lookup f=some ⟨oc,od, .func (PySem.W.fnOf x qual (au st) (ao st) (af st) .none kV doc pm an cdv ct),osl⟩)
 (c:PySem.W.codeIn K cdv qual=true) (k:PySem.W.keepIn K (.ref f)=true):Fun K x qual st f (PySem.W.fnOf x qual (au st) (ao st) (af st) .none kV doc pm an cdv ct):=⟨⟨oc,od,kV,doc,pm,an,cdv,ct,osl,rfl,l,c⟩,k⟩
end
theorem lX {A:Around} {k:Nat} (hr:Room k A):A.units+1 < cLine:=Nat.lt_of_le_of_lt (Nat.add_le_add_left (by decide:1≤64) _) hr.units
theorem jr {n:Nat} (h:n≤1000):n < sizeLine:=Nat.lt_of_le_of_lt h (by decide)
section
variable {X:Cx}
theorem pv (i:Nat) {x:Str} {pos:Pos} (hN:X.N[i]?=some x:=by rfl) (hv:Vis X.env.scope x:=by first|exact Or.inl rfl|exact Or.inr (Or.inl rfl)|exact Or.inr (Or.inr rfl)) (hd:(x==("__debug__":Str))=false:=by decide)
 (hcd:(x==("__classdict__":Str))=false:=by decide):PE X (.Name x pos) (tVar i):=iW hN hv hd hcd
end
theorem iteF {A B:Prop} (h:B):if false=true then A else B:=by
 rw [if_neg Bool.false_ne_true]
 exact h
theorem iteT {A B:Prop} (h:A):if true=true then A else B:=by
 rw [if_pos rfl]
 exact h
theorem ite2 {c A B:Prop} [Decidable c] (h1:c→A) (h2:¬c→B):if c then A else B:=by
 by_cases h:c
 · rw [if_pos h]
   exact h1 h
 · rw [if_neg h]
   exact h2 h
def Same (H H':Hp):Prop:=∀b o,H b=some o→H' b=some o
theorem Same.refl (H:Hp):Same H H:=fun _ _ h=>h
theorem Same.trans {H H1 H2:Hp} (a:Same H H1) (b:Same H1 H2):Same H H2:=fun c o h=>b c o (a c o h)
theorem Same.free {H H':Hp} (e:Same H H') {l:Addr} (h:H' l=Option.none):H l=Option.none:=by
 cases q:H l with
 |none=>rfl
 |some o=>
  rw [e l o q] at h
  cases h
theorem Same.seq {K:PySem.W.Frag} {H H':Hp} {a:Addr} {xs:List V} (e:Same H H') (h:SqL K H a xs):SqL K H' a xs:=by
 rcases h with (h|⟨o,h⟩)|h
 · exact .inl (.inl (e _ _ h))
 · exact .inl (.inr ⟨o,e _ _ h⟩)
 · exact .inr h
end L2
namespace Srt
open PySem PySem.W PyProof.Rows
structure Ord (lt:Nat→Nat→Bool):Prop where
 asym:∀a b,lt a b=true→lt b a=false
 tr:∀a b c,lt b a=false→lt c b=false→lt c a=false
theorem Ord.refl {lt:Nat→Nat→Bool} (O:Ord lt) (a:Nat):lt a a=false:=by
 cases e:lt a a with
 |false=>rfl
 |true=>exact (O.asym a a e).symm.trans e |>.symm
theorem Ord.up {lt:Nat→Nat→Bool} (O:Ord lt) {a b c:Nat} (h:lt a b=true) (h2:lt c b=false):lt a c=true:=by
 cases e:lt a c with
 |true=>rfl
 |false=>
  have:=O.tr b c a h2 e
  rw [h] at this
  cases this
def Tri {α:Type} (lt:Nat→Nat→Bool) (N:Nat) (Post:α→Prop):KasT α→Prop
 | .ret a=>Post a
 | .ask i j k=>i < N∧j < N∧Tri lt N Post (k (lt i j))
variable {lt:Nat→Nat→Bool} {N:Nat}
theorem de {α β:Type} {Post:β→Prop} {f:α→KasT β}:∀ {t:KasT α},Tri lt N (fun a=>Tri lt N Post (f a)) t→Tri lt N Post (t.bind f)
 | .ret a,h=>h
 | .ask i j k,h=>⟨h.1,h.2.1,de h.2.2⟩
theorem c8 {α:Type} {P Q:α→Prop} (hPQ:∀a,P a→Q a):∀ {t:KasT α},Tri lt N P t→Tri lt N Q t
 | .ret a,h=>hPQ a h
 | .ask i j k,h=>⟨h.1,h.2.1,c8 hPQ h.2.2⟩
theorem qk {α:Type} {cmp:Nat→Nat→(Bool→Shared→Prop)→Shared→Prop} {G:Shared→Prop} {Post:α→Prop} {Q:α→Shared→Prop}
 (hc:∀i j (R:Bool→Shared→Prop) s,i < N→j < N→G s→(∀s',G s'→R (lt i j) s')→cmp i j R s) (hQ:∀a s,Post a→G s→Q a s):∀ {t:KasT α} {s:Shared},Tri lt N Post t→G s→t.kasWp cmp Q s
 | .ret a,s,h,g=>hQ a s h g
 | .ask i j k,s,h,g=>hc i j _ s h.1 h.2.1 g fun s' g'=>qk hc hQ h.2.2 g'
def g (p:Array Nat) (k:Nat):Nat:=p.getD k 0
def Pm (N:Nat) (p:Array Nat):Prop:=p.toList.Perm (List.range N)
theorem Pm.size {p:Array Nat} (h:Pm N p):p.size=N:=by
 have:=h.length_eq
 rw [Array.length_toList,List.length_range] at this
 exact this
theorem eM {p:Array Nat} (k:Nat):g p k=(p[k]?).getD 0:=by
 unfold g
 rw [Array.getD_eq_getD_getElem?]
theorem Pm.bd {p:Array Nat} (h:Pm N p) {k:Nat} (hk:k < N):g p k < N:=by
 have hs:=h.size
 have:p[k]?=some (p[k]'(by omega)):=Array.getElem?_eq_getElem _
 rw [eM,this]
 have m:p[k]'(by omega)∈p.toList:=Array.mem_toList_iff.mpr (Array.getElem_mem _)
 exact List.mem_range.mp (h.mem_iff.mp m)
theorem Pm.of {p q:Array Nat} (h:Pm N p) (e:q.Perm p):Pm N q:=(Array.perm_iff_toList_perm.mp e).trans h
theorem Pm.rev {p:Array Nat} (h:Pm N p) (i j:Nat):Pm N (kas_rev p i j):=h.of (mirror_perm _ _ _ _)
theorem fh {p:Array Nat} {i j:Nat} (hj:j≤p.size) (k:Nat):g (kas_rev p i j) k=if i≤k∧k < j then g p (i+j - 1 - k) else g p k:=by
 rw [eM]
 unfold kas_rev
 rw [getElem?_mirror_all hj]
 split<;>rw [eM]
theorem xL {p:Array Nat} {src d:Nat} (hs:src < p.size) (hd:d≤src) (k:Nat):g (bubble p src d) k=if k=src - d then g p src else if src - d < k∧k≤src then g p (k - 1) else g p k:=by
 rw [eM,getElem?_bubble hs d hd]
 split
 · rw [eM]
 · split<;>rw [eM]
def Up (lt:Nat→Nat→Bool) (p:Array Nat) (n:Nat):Prop:=∀i j,i≤j→j < n→lt (g p j) (g p i)=false
def Dn (lt:Nat→Nat→Bool) (p:Array Nat) (n:Nat):Prop:=∀i j,i≤j→j < n→lt (g p i) (g p j)=false
theorem tU (O:Ord lt) {p:Array Nat} {n:Nat} (h0:1≤n) (h:Up lt p n) (e:lt (g p n) (g p (n - 1))=false):Up lt p (n+1):=by
 intro i j hij hj
 by_cases q:j < n
 · exact h i j hij q
 · have ej:j=n:=by omega
   subst ej
   by_cases qi:i=j
   · subst qi
     exact O.refl _
   · exact O.tr _ _ _ (h i (j - 1) (by omega) (by omega)) e
theorem g9 (O:Ord lt) {p:Array Nat} {n:Nat} (h0:1≤n) (h:Dn lt p n) (e:lt (g p (n - 1)) (g p n)=false):Dn lt p (n+1):=by
 intro i j hij hj
 by_cases q:j < n
 · exact h i j hij q
 · have ej:j=n:=by omega
   subst ej
   by_cases qi:i=j
   · subst qi
     exact O.refl _
   · exact O.tr _ _ _ e (h i (j - 1) (by omega) (by omega))
theorem vz {p:Array Nat} {n:Nat} (hn:n≤p.size) (h:Dn lt p n):Up lt (kas_rev p 0 n) n:=by
 intro i j hij hj
 rw [fh hn,fh hn,if_pos ⟨Nat.zero_le _,hj⟩,if_pos ⟨Nat.zero_le _,by omega⟩]
 exact h _ _ (by omega) (by omega)
theorem qv (O:Ord lt) {p:Array Nat} (hp:Pm N p):∀(f n:Nat),1≤n→n+f≤N→Up lt p n→Tri lt N (fun m=>n≤m∧m≤n+f∧Up lt p m∧(m < n+f→lt (g p m) (g p (m - 1))=true)) (kas_asc p f n)
 |0,n,h1,h2,h=>⟨Nat.le_refl _,Nat.le_refl _,h,fun q=>absurd q (by omega)⟩
 |f+1,n,h1,h2,h=>by
  refine ⟨Pm.bd hp (by omega),Pm.bd hp (by omega),?_⟩
  show Tri lt N _ (if lt (g p n) (g p (n - 1))=true then .ret n else kas_asc p f (n+1))
  by_cases e:lt (g p n) (g p (n - 1))=true
  · rw [if_pos e]
    exact ⟨Nat.le_refl _,by omega,h,fun _=>e⟩
  · rw [if_neg e]
    refine c8 (fun m hm=> ?_) (qv O hp f (n+1) (by omega) (by omega) (tU O h1 h (by simpa using e)))
    exact ⟨by omega,by omega,hm.2.2.1,fun q=>hm.2.2.2 (by omega)⟩
def Eqv (lt:Nat→Nat→Bool) (p:Array Nat) (n q:Nat):Prop:=∀k,n - 1 - q≤k→k < n→lt (g p k) (g p (n - 1))=false∧lt (g p (n - 1)) (g p k)=false
theorem mh (O:Ord lt) {p:Array Nat} {n q:Nat} (hn:n≤p.size) (hq:q+1≤n) (h:Dn lt p n) (he:Eqv lt p n q):Dn lt (kas_rev p (n - (q+1)) n) n:=by
 intro i j hij hj
 rw [fh hn,fh hn]
 by_cases bi:n - (q+1)≤i
 · rw [if_pos ⟨bi,by omega⟩,if_pos ⟨by omega,hj⟩]
   obtain ⟨a1,a2⟩:=he (n - (q+1)+n - 1 - i) (by omega) (by omega)
   obtain ⟨b1,b2⟩:=he (n - (q+1)+n - 1 - j) (by omega) (by omega)
   exact O.tr _ _ _ b2 a1
 · rw [if_neg (by omega)]
   by_cases bj:n - (q+1)≤j
   · rw [if_pos ⟨bj,hj⟩]
     exact h _ _ (by omega) (by omega)
   · rw [if_neg (by omega)]
     exact h _ _ hij hj
theorem kc (O:Ord lt):∀(f:Nat) (p:Array Nat) (n q:Nat),Pm N p→1≤n→n+f≤N→q+1≤n→Dn lt p n→Eqv lt p n q→
 Tri lt N (fun r=>Pm N r.1∧n≤r.2.1∧r.2.1≤n+f∧r.2.2+1≤r.2.1∧Dn lt r.1 r.2.1∧Eqv lt r.1 r.2.1 r.2.2) (kas_desc f p n q)
 |0,p,n,q,hp,h1,h2,hq,h,he=>⟨hp,Nat.le_refl _,Nat.le_refl _,hq,h,he⟩
 |f+1,p,n,q,hp,h1,h2,hq,h,he=>by
  have hs:=hp.size
  refine ⟨Pm.bd hp (by omega),Pm.bd hp (by omega),?_⟩
  show Tri lt N _ (if lt (g p n) (g p (n - 1))=true then (if q > 0 then kas_desc f (kas_rev p (n - (q+1)) n) (n+1) 0 else kas_desc f p (n+1) 0) else .ask (g p (n - 1)) (g p n) fun d=>if d=true then .ret (p,n,q) else kas_desc f p (n+1) (q+1))
  have one:∀p':Array Nat,Eqv lt p' (n+1) 0:=fun p' k k1 k2=>by
   have:k=n:=by omega
   subst this
   exact ⟨O.refl _,O.refl _⟩
  by_cases e:lt (g p n) (g p (n - 1))=true
  · rw [if_pos e]
    have e':=O.asym _ _ e
    by_cases q0:q > 0
    · rw [if_pos q0]
      have d1:=mh O (by omega) hq h he
      have d2:Dn lt (kas_rev p (n - (q+1)) n) (n+1):=by
       refine g9 O h1 d1 ?_
       rw [fh (by omega),fh (by omega),if_pos ⟨by omega,by omega⟩,if_neg (by omega)]
       obtain ⟨a1,a2⟩:=he (n - (q+1)+n - 1 - (n - 1)) (by omega) (by omega)
       exact O.tr _ _ _ e' a1
      refine c8 (fun r hr=> ?_) (kc O f _ (n+1) 0 (hp.rev _ _) (by omega) (by omega) (by omega) d2 (one _))
      exact ⟨hr.1,by omega,by omega,hr.2.2.2⟩
    · rw [if_neg q0]
      refine c8 (fun r hr=> ?_) (kc O f p (n+1) 0 hp (by omega) (by omega) (by omega) (g9 O h1 h e') (one _))
      exact ⟨hr.1,by omega,by omega,hr.2.2.2⟩
  · rw [if_neg e]
    have e1:lt (g p n) (g p (n - 1))=false:=by simpa using e
    refine ⟨Pm.bd hp (by omega),Pm.bd hp (by omega),?_⟩
    show Tri lt N _ (if lt (g p (n - 1)) (g p n)=true then .ret (p,n,q) else kas_desc f p (n+1) (q+1))
    by_cases e2:lt (g p (n - 1)) (g p n)=true
    · rw [if_pos e2]
      exact ⟨hp,Nat.le_refl _,(by show n≤n+(f+1);omega),hq,h,he⟩
    · rw [if_neg e2]
      have e3:lt (g p (n - 1)) (g p n)=false:=by simpa using e2
      refine c8 (fun r hr=> ?_) (kc O f p (n+1) (q+1) hp (by omega) (by omega) (by omega) (g9 O h1 h e3) fun k k1 k2=> ?_)
      · exact ⟨hr.1,by omega,by omega,hr.2.2.2⟩
      · show lt (g p k) (g p n)=false∧lt (g p n) (g p k)=false
        by_cases kn:k=n
        · subst kn
          exact ⟨O.refl _,O.refl _⟩
        · obtain ⟨a1,a2⟩:=he k (by omega) (by omega)
          exact ⟨O.tr _ _ _ e3 a1,O.tr _ _ _ a2 e1⟩
theorem qu (O:Ord lt) {p:Array Nat} {n:Nat} (hp:Pm N p) (h1:1≤n) (hn:n≤N) (h:Dn lt p n):Tri lt N (fun r=>Pm N r.2∧1≤r.1∧r.1≤N∧Up lt r.2 r.1) (kas_tail3 n N p):=by
 unfold kas_tail3
 refine de (c8 (fun m hm=> ?_) (qv O (hp.rev 0 n) (N - n) n h1 (by omega) (vz (by rw [hp.size];exact hn) h)))
 exact ⟨hp.rev 0 n,by omega,by omega,hm.2.2.1⟩
theorem iH (O:Ord lt) {p:Array Nat} {n:Nat} (hp:Pm N p) (hn:n+1≤N) (h:Dn lt p (n+1)):Tri lt N (fun r=>Pm N r.2∧1≤r.1∧r.1≤N∧Up lt r.2 r.1) (kas_descPart n N p):=by
 unfold kas_descPart
 refine de (c8 (fun r hr=> ?_) (kc O (N - (n+1)) p (n+1) 0 hp (by omega) (by omega) (by omega) h fun k k1 k2=> ?_))
 · obtain ⟨a1,a2,a3,a4,a5,a6⟩:=hr
   split
   · exact qu O (a1.rev _ _) (by omega) (by omega) (mh O (by rw [a1.size];omega) a4 a5 a6)
   · exact qu O a1 (by omega) (by omega) a5
 · have:k=n:=by omega
   subst this
   exact ⟨O.refl _,O.refl _⟩
theorem u6 (O:Ord lt) {p:Array Nat} (hp:Pm N p) (hN:1≤N):Tri lt N (fun r=>Pm N r.2∧1≤r.1∧r.1≤N∧Up lt r.2 r.1) (kas_count N p):=by
 unfold kas_count
 have u1:Up lt p 1:=fun i j hij hj=>by
  have:i=0:=by omega
  have:j=0:=by omega
  subst_vars
  exact O.refl _
 refine de (c8 (fun n hn=> ?_) (qv O hp (N - 1) 1 (Nat.le_refl _) (by omega) u1))
 obtain ⟨b1,b2,b3,b4⟩:=hn
 by_cases e:(n==N)=true
 · rw [if_pos e]
   exact ⟨hp,b1,by omega,b3⟩
 · rw [if_neg e]
   have e':n≠N:=by simpa using e
   have l1:=b4 (by omega)
   by_cases n1:n > 1
   · rw [if_pos n1]
     refine ⟨Pm.bd hp (by omega),Pm.bd hp (by omega),?_⟩
     show Tri lt N _ (if lt (g p 0) (g p (n - 1))=true then .ret (n,p) else kas_descPart n N (kas_rev p 0 n))
     by_cases e2:lt (g p 0) (g p (n - 1))=true
     · rw [if_pos e2]
       exact ⟨hp,b1,by omega,b3⟩
     · rw [if_neg e2]
       have e3:lt (g p 0) (g p (n - 1))=false:=by simpa using e2
       have alike:∀i j,i < n→j < n→lt (g p i) (g p j)=false:=fun i j hi hj=>
        O.tr (g p j) (g p 0) (g p i) (O.tr _ _ _ (b3 j (n - 1) (by omega) (by omega)) e3) (b3 0 i (Nat.zero_le _) hi)
       have hs:=hp.size
       refine iH O (hp.rev 0 n) (by omega) (g9 O (by omega) (fun i j hij hj=> ?_) ?_)
       · rw [fh (by omega),fh (by omega),if_pos ⟨Nat.zero_le _,by omega⟩,if_pos ⟨Nat.zero_le _,hj⟩]
         exact alike _ _ (by omega) (by omega)
       · rw [fh (by omega),fh (by omega),if_pos ⟨Nat.zero_le _,by omega⟩,if_neg (by omega)]
         exact O.tr _ _ _ (O.asym _ _ l1) (alike _ _ (by omega) (by omega))
   · rw [if_neg n1]
     have en:n=1:=by omega
     subst en
     refine iH O hp (by omega) (g9 O (Nat.le_refl _) (fun i j hij hj=> ?_) (O.asym _ _ l1))
     have:i=0:=by omega
     have:j=0:=by omega
     subst_vars
     exact O.refl _
theorem kb (O:Ord lt) {p:Array Nat} {k:Nat} (hp:Pm N p) (hk:k < N) (h:Up lt p k):∀(f l r:Nat),l≤r→r≤k→r - l≤f→(∀i,i < l→lt (g p k) (g p i)=false)→(∀i,r≤i→i < k→lt (g p k) (g p i)=true)→
 Tri lt N (fun m=>m≤k∧(∀i,i < m→lt (g p k) (g p i)=false)∧∀i,m≤i→i < k→lt (g p k) (g p i)=true) (kas_place p k f l r)
 |0,l,r,h1,h2,h3,a,b=>by
  have:l=r:=by omega
  subst this
  exact ⟨h2,a,b⟩
 |f+1,l,r,h1,h2,h3,a,b=>by
  show Tri lt N _ (if l≥r then .ret l else .ask (p.getD k 0) (p.getD ((l+r) / 2) 0) fun c=>if c=true then kas_place p k f l ((l+r) / 2) else kas_place p k f ((l+r) / 2+1) r)
  by_cases e:l≥r
  · rw [if_pos e]
    have:l=r:=by omega
    subst this
    exact ⟨h2,a,b⟩
  · rw [if_neg e]
    refine ⟨Pm.bd hp hk,Pm.bd hp (by omega),?_⟩
    show Tri lt N _ (if lt (g p k) (g p ((l+r) / 2))=true then kas_place p k f l ((l+r) / 2) else kas_place p k f ((l+r) / 2+1) r)
    by_cases c:lt (g p k) (g p ((l+r) / 2))=true
    · rw [if_pos c]
      refine kb O hp hk h f l ((l+r) / 2) (by omega) (by omega) (by omega) a fun i i1 i2=> ?_
      by_cases q:r≤i
      · exact b i q i2
      · exact O.up c (h _ _ i1 i2)
    · rw [if_neg c]
      have c':lt (g p k) (g p ((l+r) / 2))=false:=by simpa using c
      refine kb O hp hk h f ((l+r) / 2+1) r (by omega) h2 (by omega) (fun i i1=> ?_) b
      exact O.tr _ _ _ (h i ((l+r) / 2) (by omega) (by omega)) c'
theorem uZ (O:Ord lt):∀(f:Nat) (p:Array Nat) (k:Nat),Pm N p→k+f≤N→Up lt p k→Tri lt N (fun q=>Pm N q∧Up lt q (k+f)) (kas_bin f p k)
 |0,p,k,hp,_,h=>⟨hp,h⟩
 |f+1,p,k,hp,hk,h=>by
  have hs:=hp.size
  show Tri lt N _ ((kas_place p k k 0 k).bind fun l=>kas_bin f (bubble p k (k - l)) (k+1))
  refine de (c8 (fun l hl=> ?_) (kb O hp (by omega) h k 0 k (Nat.zero_le _) (Nat.le_refl _) (by omega) (fun i hi=>absurd hi (by omega)) fun i h1 h2=>absurd h1 (by omega)))
  obtain ⟨l1,l2,l3⟩:=hl
  have el:k - (k - l)=l:=by omega
  have hb:∀i,g (bubble p k (k - l)) i=if i=l then g p k else if l < i∧i≤k then g p (i - 1) else g p i:=fun i=>by
   rw [xL (by omega) (by omega),el]
  have u:Up lt (bubble p k (k - l)) (k+1):=by
   intro i j hij hj
   rw [hb,hb]
   by_cases jl:j=l
   · rw [if_pos jl]
     by_cases il:i=l
     · rw [if_pos il]
       exact O.refl _
     · rw [if_neg il,if_neg (by omega)]
       exact l2 i (by omega)
   · rw [if_neg jl]
     by_cases j2:l < j∧j≤k
     · rw [if_pos j2]
       by_cases il:i=l
       · rw [if_pos il]
         exact O.asym _ _ (l3 (j - 1) (by omega) (by omega))
       · rw [if_neg il]
         by_cases i2:l < i∧i≤k
         · rw [if_pos i2]
           exact h _ _ (by omega) (by omega)
         · rw [if_neg i2]
           exact h _ _ (by omega) (by omega)
     · rw [if_neg j2,if_neg (by omega),if_neg (by omega)]
       exact h _ _ hij (by omega)
  refine c8 (fun q hq=> ?_) (uZ O f _ (k+1) (hp.of (bubble_perm _ _ _)) (by omega) u)
  rw [show k+(f+1)=k+1+f by omega]
  exact hq
theorem vC (O:Ord lt) (hN:1≤N):Tri lt N (fun p=>Pm N p∧Up lt p N) (kas_sort N):=by
 unfold kas_sort
 have h0:Pm N (List.toArray (List.range N)):=by
  unfold Pm
  simp
 refine de (c8 (fun r hr=> ?_) (u6 O h0 hN))
 obtain ⟨a1,a2,a3,a4⟩:=hr
 by_cases e:r.1 < N
 · rw [if_pos e]
   have em:max r.1 1=r.1:=by omega
   rw [em]
   have:=uZ O (N - r.1) r.2 r.1 a1 (by omega) a4
   rw [show r.1+(N - r.1)=N by omega] at this
   exact this
 · rw [if_neg e]
   have:r.1=N:=by omega
   rw [this] at a4
   exact ⟨a1,a4⟩
end Srt
namespace L2
open PySem
section
variable {M:Model} {prog:Program} {w:World} {A:Around} {E:Value→Shared→Prop} {h:Heap} {g:Array GenState} {d:Drawn} {t:Nat} {os:OsState}
variable {nm q:Str} {C N:Addr} {bs bm bmB:List Value} {hdct:Bool} {sn:List Str} {sub:List Value} {ab:Bool} {col:Option Bool} {dd:Option Addr} {k0 k1 k2 k3 k5:Option Value} {B newId initId:String}
structure Line (B:String) (bm:List Value):Prop where
 own:bm.contains (.type B)=true
 top:bm.contains (.type "BaseException")=true
 attr:bm.contains (.type "AttributeError")=false
 name:bm.contains (.type "NameError")=false
theorem Line.cons {C:Addr} (l:Line B bm):Line B (.ref C::bm):=
 ⟨by rw [List.contains_cons,l.own,Bool.or_true],by rw [List.contains_cons,l.top,Bool.or_true],by rw [List.contains_cons,l.attr];rfl,by rw [List.contains_cons,l.name];rfl⟩
theorem uD (Fn:ExcBaseFacts B newId initId bmB) (l:Line B bm) {args:List Value} {Q:Unit→Shared→Prop}
 (oC:h.get? C=some (excClassObj nm q C N bs bm hdct sn sub ab col dd k0 k1 k2 k3 k5 newId)) (z:Q () ⟨h,g,d,t,os⟩):
 wpAny M A (checkBuiltinCall newId ⟨.ref C::args,[]⟩) Q E ⟨h,g,d,t,os⟩:=by
 have own:=(l.cons (C:=C)).own
 have st:=Fn.noStar
 simp only [checkBuiltinCall,Fn.newKind,Fn.newSplit,Fn.newRow]
 repeat
  first
  |refine wpAny_loadPart_at oC ?_
  |(refine wpAny_isSubtype_exc oC ?_;rw [own])
  |refine wpAny_staticBase_exc oC ?_
  |refine wpAny_madeBy_exc oC ?_
  |simp only [bne_self_eq_false,Bool.false_eq_true,if_false]
  |wp_step
 exact z
theorem uA (Fn:ExcBaseFacts B newId initId bmB) (l:Line B bm) {args:List Value} {R:Result→Shared→Prop}
 (oC:h.get? C=some (excClassObj nm q C N bs bm hdct sn sub ab col dd k0 k1 k2 k3 k5 newId)) (sz:args.length≤sizeLine)
 (z:R (.ok (.ret (.ref (h.objs.size+1)))) ⟨(h.push {cls:= .type "tuple",data:= .seq args.toArray}).push {cls:= .ref C,data:= .fields #[.ref h.objs.size, .none, .none, .none, .bool false, .none]},g,d,t,os⟩):
 codeAny (model prog w) A (.builtin newId ⟨.ref C::args,[]⟩) R ⟨h,g,d,t,os⟩:=by
 have en:=Fn.ends
 have c1:=(l.cons (C:=C)).own
 have c2:=(l.cons (C:=C)).attr
 have c3:=(l.cons (C:=C)).name
 refine codeAny_builtinAt Fn.entry ?_
 unfold Builtin.«BaseException.__new__»
 refine wpAt_bind ?_
 show wpAt _ _ _ (stack >>=_) _ _ _
 refine wpAt_bind (wpAt_stack fun p below=>wpAt_of_wpAny ?_)
 wp_walk
 refine wpAt_of_wpAny ?_
 rw [Fn.owner]
 repeat
  first
  |with_reducible refine wpAny_madeHere_exc Fn.canon oC ?_
  |with_reducible refine wpAny_loadPart_at oC ?_
  |(with_reducible refine wpAny_isSubtype_exc oC ?_;first|rw [c1]|rw [c2]|rw [c3])
  |wp_step
 show R _ _
 rw [Heap.size_push]
 exact z
theorem jf (Fn:ExcBaseFacts B newId initId bmB) (l:Line B bm) {K:PySem.W.Frag} {args:List Value} {fI:Addr} {Q:Fin→Shared→Prop}
 (oC:h.get? C=some (excClassObj nm q C N bs bm hdct sn sub ab col dd k0 k1 k2 k3 k5 newId)) (X:K.In h) (hi:PySem.W.findIn K (.ref C) "__init__"=some (some (.ref fI))) (hf:PySem.W.isFn K (.ref fI)=true) (sz:args.length≤sizeLine)
 (z:∀h' e,Heap.MadeExcOf h h' e (.ref C) args→e=h.objs.size+1→
  wpAny (model prog w) A (call (.ref fI) (.ref e::args)) (fun r s'=>r= .none∧Q (.done (.ret (.ref e))) s') E ⟨h',g,d,t,os⟩):
 wpAny (model prog w) A (Builtin.«type.__call__» ⟨.ref C::args,[]⟩) Q E ⟨h,g,d,t,os⟩:=by
 repeat
  first
  |with_reducible refine wpAny_loadPart_at oC ?_
  |with_reducible refine wpAny_madeBy_exc oC ?_
  |wp_step
 refine codeAny_call_builtin_code (Code.quiet_builtin _ Fn.quiet) (uD Fn l oC ?_)
 refine uA Fn l oC sz ?_
 show wpAny _ _ _ _ _ _
 have up:∀b o,h.get? b=some o→((h.push {cls:= .type "tuple",data:= .seq args.toArray}).push {cls:= .ref C,data:= .fields #[.ref h.objs.size, .none, .none, .none, .bool false, .none]}).get? b=some o:=
  fun b o e=>Heap.get?_push_of_some _ (Heap.get?_push_of_some _ e)
 have oC1:=up _ _ oC
 have it:((h.push {cls:= .type "tuple",data:= .seq args.toArray}).push
  {cls:= .ref C,data:= .fields #[.ref h.objs.size, .none, .none, .none, .bool false, .none]}).get? (h.objs.size+1)=some
  {cls:= .ref C,data:= .fields #[.ref h.objs.size, .none, .none, .none, .bool false, .none]}:=by heap_get
 have me:(Value.ref C::bm).contains (.ref C)=true:=by simp
 unfold isInstance
 repeat
  first
  |with_reducible refine wpAny_loadPart_at it ?_
  |(with_reducible refine wpAny_isSubtype_exc oC1 ?_;rw [me])
  |wp_step
 show wpAny _ _ (typeLookup (.ref C) _) _ _ _
 have Lk:=PySem.W.looks_findIn (M:=model prog w) (X.keeps up) hi
 refine Lk.here ?_
 refine wpAny_holding (wpAny_bind ?_)
 have Bf:=PySem.W.bind_fn (M:=model prog w) (X.keeps up) (.ref (h.objs.size+1)) (beq_iff_eq.mp hf)
 refine Bf.here ?_
 refine wpAny_bind (wpAny_mono (z _ (h.objs.size+1) ⟨up,Heap.get?_none_of_le (Nat.le_succ _),h.objs.size,it,Heap.get?_none_of_le (Nat.le_refl _),?_⟩ rfl) (fun r s' hr=> ?_) fun _ _ x=>x)
 · exact Heap.get?_push_of_some _ (Heap.get?_push_at rfl rfl)
 · obtain ⟨rfl,hQ⟩:=hr
   wp_walk
   exact hQ
theorem tF (Fn:ExcBaseFacts B newId initId bmB) (l:Line B bm) {K:PySem.W.Frag} {args:List Value} {fI:Addr} {Q:Value→Shared→Prop}
 (oC:h.get? C=some (excClassObj nm q C N bs bm hdct sn sub ab col dd k0 k1 k2 k3 k5 newId)) (X:K.In h) (hi:PySem.W.findIn K (.ref C) "__init__"=some (some (.ref fI))) (hf:PySem.W.isFn K (.ref fI)=true) (sz:args.length≤sizeLine)
 (z:∀h' e,Heap.MadeExcOf h h' e (.ref C) args→e=h.objs.size+1→
  wpAny (model prog w) (A.under (.builtin "type.__call__" ⟨.ref C::args,[]⟩)) (call (.ref fI) (.ref e::args)) (fun r s'=>r= .none∧Q (.ref e) s') E ⟨h',g,d,t,os⟩):
 wpAny (model prog w) A (call (.ref C) args) Q E ⟨h,g,d,t,os⟩:=by
 have f1:=tc_lookup
 have f2:=tc_bind (.ref C)
 have ty:(⟨h,g,d,t,os⟩:Shared).TypeIs (.ref C) "type":=⟨_,oC,rfl⟩
 refine wpAny_call (codeAny_of_tree ?_)
 show wpAny _ _ (callAny (.ref C) _) _ _ _
 repeat
  any_goals
   first
   |assumption
   |with_reducible refine wpAny_loadPart_at oC ?_
   |wp_step
 refine ⟨rfl,?_⟩
 exact codeAny_call_builtin_at (Code.quiet_builtin _ (by decide +kernel)) entry_typeCall (wpAny_check_type_call_sub oC (jf Fn l oC X hi hf sz fun h' e hm ee=>z h' e hm ee))
end
section
open PySem
variable {prog:Program} {w:World} {A:Around} {E:Value→Shared→Prop} {h:Heap} {g:Array GenState} {d:Drawn} {t:Nat} {os:OsState}
variable {nm q:Str} {C N:Addr} {bs bm bmB:List Value} {hdct:Bool} {sn:List Str} {sub:List Value} {ab:Bool} {col:Option Bool} {dd:Option Addr} {k0 k1 k2 k3 k5:Option Value} {B newId nid initId:String}
theorem rX (Fn:ExcBaseFacts B nid initId bmB) (l:Line B bm) {M:Model} {e:Addr} {oe:Obj} {args:List Value} {Q:Unit→Shared→Prop}
 (oC:h.get? C=some (excClassObj nm q C N bs bm hdct sn sub ab col dd k0 k1 k2 k3 k5 newId)) (oE:h.get? e=some oe) (cE:oe.cls= .ref C) (z:Q () ⟨h,g,d,t,os⟩):
 wpAny M A (checkBuiltinCall initId ⟨.ref e::args,[]⟩) Q E ⟨h,g,d,t,os⟩:=by
 have own:=(l.cons (C:=C)).own
 have st:=Fn.noStar
 simp only [checkBuiltinCall,Fn.initKind,Fn.initSplit,Fn.initRow]
 repeat
  first
  |(with_reducible refine wpAny_loadPart_at oE ?_;rw [cE])
  |with_reducible refine wpAny_loadPart_at oC ?_
  |(with_reducible refine wpAny_isSubtype_exc oC ?_;rw [own])
  |wp_step
 refine wpAny_onRaise ?_
 rw [show∀(a b:String) (n:Nat),Bind.check ⟨.positional,"*",B, .self,[⟨"args", .varPos,false⟩]⟩ a b n (List.map (fun x=>x.fst) ({pos:=Value.ref e::args}:Args).kw)=pure () from fun a b n=>check_star_args _ _ _ _ _ _]
 exact wpAny_pure z
theorem je (Fn:ExcBaseFacts B nid initId bmB) (l:Line B bm) {e t0:Addr} {args:List Value} {Q:Value→Shared→Prop}
 (oC:h.get? C=some (excClassObj nm q C N bs bm hdct sn sub ab col dd k0 k1 k2 k3 k5 newId)) (oE:h.get? e=some {cls:= .ref C,data:= .fields #[.ref t0, .none, .none, .none, .bool false, .none]}) (sz:args.length≤sizeLine)
 (z:∀h' t1,(∀b o,b≠e→h.get? b=some o→h'.get? b=some o)→h'.get? e=some {cls:= .ref C,data:= .fields #[.ref t1, .none, .none, .none, .bool false, .none]}→Q .none ⟨h',g,d,t,os⟩):
 wpAny (model prog w) A (call (.builtin initId) (.ref e::args)) Q E ⟨h,g,d,t,os⟩:=by
 refine wpAny_call (codeAny_call_builtin Fn.init.plain Fn.initEntry (rX Fn l oC oE rfl ?_))
 wp_walk
 refine z _ h.objs.size (fun b o hb e1=> ?_) ?_
 · rw [Heap.get?_update_other _ _ (Ne.symm hb)]
   exact Heap.get?_push_of_some _ e1
 · rw [Heap.get?_update_self _ (Heap.get?_push_of_some _ oE) rfl]
   rfl
end
open PySem PySem.Spec PyProof.Rows
noncomputable def Exo (C e:Addr):HO:= .ext fun h=>∃t,h.get? e=some {cls:= .ref C,data:= .fields #[.ref t, .none, .none, .none, .bool false, .none]}
theorem sV {P:Program} {w:World} {H:Hp} {h:Heap} {C e t:Addr} (x:h.get? e=some {cls:= .ref C,data:= .fields #[.ref t, .none, .none, .none, .bool false, .none]}):ObjOk P w H h e (Exo C e):=
 ⟨⟨t,x⟩,⟨_,x⟩,fun _ _ ⟨t',y⟩ k=>⟨t',k _ y⟩⟩
theorem vy {H:Hp} {a:Addr} {o:HO} (e:H a=some o):upd H a o=H:=by
 funext b
 unfold upd
 split
 · rename_i q
   rw [q,e]
 · rfl
structure XCls (K:PySem.W.Frag) (C fI:Addr):Prop where
 ex:∃nm q N bs bm hdct sn sub ab col dd k0 k1 k2 k3 k5,K.lookup C=some (excClassObj nm q C N bs bm hdct sn sub ab col dd k0 k1 k2 k3 k5 "ValueError.__new__")∧Line "ValueError" bm
 init:PySem.W.findIn K (.ref C) "__init__"=some (some (.ref fI))
 fn:PySem.W.isFn K (.ref fI)=true
 kp:PySem.W.keepIn K (.ref C)=true
section
variable {X:Cx} {CX:CXT} {k:Nat} {f C:Addr} {fd:FuncData} {ps:List Str} {sp:Sp} {E:XK} {x:Str} {p pos apos:Pos} {e:Expr} {es:List Expr} {t:TA}
def vE (s₀:Shared) (C:Addr) (sp:Sp) (E:XK) (t:TA):TE:=fun σ H Q=>t σ H fun vs H1=>∀x,H1 x=none→s₀.heap.get? x=none→sp (.ref x::vs) (upd H1 x (Exo C x)) (fun v H2=>v= .non∧Q (.ref x) H2) E
theorem lF (M:XCls X.K C f) (F:FnOk X.prog X.w X.K X.mg X.base CX k f fd ps sp) (hr:Room (k+1) X.A) (hg:Gl X x) (hm:X.mg x=some (.ref C)) (hb:Binds X.K fd ps []) (hx:ie CX X E)
 (ha:PA X (e::es) t) (hsz:(e::es).length≤100) (hdb:(x==("__debug__":Str))=false:=by decide) (he:starEach (e::es) X.env=(false,eval e X.env)::starEach es X.env:=by rfl) (hpl:(backTo pos (starEach es X.env)).any (·.1)=false:=by rfl)
 (hlen:∀vs H Q E',sp vs H Q E'→vs.length≤1000):PE X (.Call (.Name x p) (e::es) [] pos) (vE X.s₀ C sp E t):=by
 intro pins s σ H Q I h
 refine wpAny_Call_Name_kw (kz I hg hm ?_ hdb)
 refine PySem.W.callWith_K (h₀:=X.base) I.ok.mod.kin M.kp (thn (ha pos pins s σ H _ I h) fun us s1 ⟨vs,H1,I1,r,z⟩=>⟨I1.kIn,?_⟩) he hpl
 obtain ⟨nm,q,N,bs,bm,hdct,sn,sub,ab,col,dd,k0,k1,k2,k3,k5,hC,hl⟩:=M.ex
 have oC:=I1.kIn _ _ hC
 have f1:H1 (s1.heap.objs.size+1)=none:=I1.hok.fresh (Nat.le_succ _)
 have f2:X.s₀.heap.get? (s1.heap.objs.size+1)=none:=Heap.get?_none_of_le (Nat.le_trans I1.sz (Nat.le_succ _))
 have hq:=z _ f1 f2
 have e1:vs.length=us.length:=r.length
 have l1:=hlen _ _ _ _ hq
 rw [List.length_cons] at l1
 obtain ⟨hh,g,d,tk,os⟩:=s1
 refine tF (K:=X.K) PySem.F.excBase_ValueError hl oC I1.kIn M.init M.fn (show us.length≤sizeLine from Nat.le_of_lt (jr (by omega))) fun h' e' hm' ee=> ?_
 subst ee
 obtain ⟨t0,ht0,_⟩:=hm'.there
 have I2:=I1.laid (t':=tk) (o:=Exo C (hh.objs.size+1)) (a:=hh.objs.size+1) hm'.keeps (Nat.le_succ _) (sV ht0)
 have r2:Vals (V.ref (hh.objs.size+1)::vs) (Value.ref (hh.objs.size+1)::us):= .cons rfl r
 have hl2:(Value.ref (hh.objs.size+1)::us).length=ps.length:=by
  have e:=r2.length
  rw [F.len _ _ _ _ hq] at e
  exact e.symm
 refine wpAny_call (codeAny_mono (F.run _ X.stack _ _ ⟨Value.ref (hh.objs.size+1)::us,[]⟩ (Value.ref (hh.objs.size+1)::us) _ _ E (hr.make C us [])
  (I2.env0.make C us []) (by have:=hb _ (Value.ref (hh.objs.size+1)::us) I2.kIn (by rw [List.append_nil];exact hl2);rw [List.append_nil] at this;exact this) r2 hq) fun r s' hq'=> ?_)
 cases r with
 |error e=>exact hx pins σ _ _ e s' I2 hq'
 |ok fl=>
  cases fl with
  |ret u=>
   obtain ⟨v,H',I3,rv,ev,q3⟩:=I2.after hq'
   subst ev
   exact ⟨rv,⟨V.ref (hh.objs.size+1),H',I3,rfl,q3⟩⟩
  |next=>exact False.elim hq'
  |brk=>exact False.elim hq'
  |cont=>exact False.elim hq'
def pA (K:PySem.W.Frag) (t:TA):TE:=fun σ H Q=>t σ H fun vs H1=>∃x C fI r,vs= .ref x::r∧r.length≤1000∧H1 x=some (Exo C x)∧XCls K C fI∧Q .non H1
theorem nQ (K:PySem.W.Frag):PySem.W.findCls K (.type "ValueError") (.type "type") "__init__"=some (.val (.builtin "ValueError.__init__")):=by kernel_rfl
theorem lH (hg:Gl X "ValueError") (hm:X.mg "ValueError"=none) (ha:PA X (e::es) t) (he:starEach (e::es) X.env=(false,eval e X.env)::starEach es X.env:=by rfl) (hpl:(backTo pos (starEach es X.env)).any (·.1)=false:=by rfl)
 {pl:Sem Bool} (ht:eval (.Call (.Attribute (.Name "ValueError" p) "__init__" apos) (e::es) [] pos) X.env=(do
  let ov←eval (.Name "ValueError" p) X.env
  standAt apos.atName
  let (f,first)←holding [ov] (getMethod ov "__init__" pl)
  callWith pos f first (backTo pos (starEach (e::es) X.env)) (backToKw pos (keywordEach [] X.env))):=by rfl):
 PE X (.Call (.Attribute (.Name "ValueError" p) "__init__" apos) (e::es) [] pos) (pA X.K t):=by
 intro pins s σ H Q I h
 obtain ⟨m,F⟩:=I.fr
 refine PySem.W.methodCall_KW (pl:=pl) (i9 I hg hm (u:= .type "ValueError") (by kernel_rfl) ?_) ht
 refine PySem.W.method_type F I.ok.mod.kin (by kernel_rfl) (by decide +kernel) (nQ X.K) (by decide +kernel) ?_
 refine PyProof.Rows.callWith_builtin1 (thn (ha pos pins _ σ H _ (I.tok _) h) fun us s1 ⟨vs,H1,I1,r1,y,C,fI,r,ev,hz,hH,hX,q1⟩=> ?_) he hpl
 subst ev
 cases r1 with
 | @cons _ u0 _ ur q0 r1=>
  cases (show u0=Value.ref y from q0)
  obtain ⟨nm,q,N,bs,bm,hdct,sn,sub,ab,col,dd,k0,k1,k2,k3,k5,hC,hl⟩:=hX.ex
  have oC:=I1.kIn _ _ hC
  obtain ⟨⟨t0,oE⟩,_⟩:=(show ObjOk X.prog X.w H1 s1.heap y (Exo C y) from I1.hok y _ hH)
  have e1:r.length=ur.length:=r1.length
  obtain ⟨hh,g,d,tk,os⟩:=s1
  refine je PySem.F.excBase_ValueError hl oC oE (Nat.le_of_lt (jr (by omega))) fun h' t1 kk oE'=> ?_
  have I2:=I1.write (x:=y) (e:=y) (o:=Exo C y) (t':=tk) (by rw [hH];exact True.intro) (.inl rfl) kk ⟨_,oE'⟩ (sV oE')
  rw [vy hH] at I2
  exact ⟨.non,H1,I2,rfl,q1⟩
end
open PySem PySem.Spec PyProof.Rows
def unt (H:Hp) (e:Addr):Hp:=fun b=>if b=e then none else H b
theorem cY {H:Hp} {e:Addr}:unt H e e=none:=by unfold unt;rw [if_pos rfl]
theorem cX {H:Hp} {e b:Addr} (h:b≠e):unt H e b=H b:=by unfold unt;rw [if_neg h]
theorem tV {H:Hp} {e:Addr} {o:HO} (h:H e=none):unt (upd H e o) e=H:=by
 funext b
 by_cases q:b=e
 · rw [q,cY,h]
 · rw [cX q,aB q]
theorem vA {P:Program} {w:World} {H:Hp} {h:Heap} {C e:Addr} (x:HOk P w H h) (he:H e=some (Exo C e)):HOk P w (unt H e) h:=fun b o q=>by
 have nb:b≠e:=by
  intro z
  rw [z,cY] at q
  cases q
 rw [cX nb] at q
 refine (x b o q).stay (fun _ _ _ r=>r) (fun c r=> ?_) (fun c xs r=> ?_)
 · rw [cX]
   · exact r
   · intro z
     rw [z,he] at r
     cases r
 · rw [cX]
   · exact r
   · intro z
     rw [z,he] at r
     cases r
def tN (X:Cx) (E:XK):Prop:=∀(pins:List (Addr×Obj)) (σ:St) (H:Hp) (s:Shared) (e C:Addr),Inv X pins σ H s→H e=some (Exo C e)→X.s₀.heap.get? e=none→E (.ref C) none (unt H e)→X.xe (.ref e) s
section
variable {X:Cx} {C fI:Addr} {E:XK} {pos:Pos} {ce:Expr} {te:TE}
def vD (s₀:Shared) (C:Addr) (E:XK) (te:TE):TS:=fun _ σ H=>te σ H fun v H1=>∃e,v= .ref e∧H1 e=some (Exo C e)∧s₀.heap.get? e=none∧E (.ref C) none (unt H1 e)
theorem lA (hc:X.calm=true) (hX:XCls X.K C fI) (he:PE X ce te) (hx:tN X E):PS X (.Raise (some ce) none pos) (vD X.s₀ C E te):=by
 intro pins s σ H D I h
 obtain ⟨nm,q,N,bs,bm,hdct,sn,sub,ab,col,dd,k0,k1,k2,k3,k5,hC,hl⟩:=hX.ex
 show wpAny (model X.prog X.w) X.A (do standAt pos;raiseStmt X.env (some (do let v←eval ce X.env;standAt pos;pure v)) none) _ _ s
 refine wpAny_bind (wpAny_standAt (wpAny_raiseStmt_made_sub (C:=C) (nm:=nm) (q:=q) (N:=N) (bs:=bs) (bm:=bm) (hdct:=hdct) (sn:=sn) (sub:=sub) (ab:=ab) (col:=col) (dd:=dd) (k0:=k0) (k1:=k1) (k2:=k2) (k3:=k3) (k5:=k5) (newId:="ValueError.__new__") hl.top (I.ok.hd hc) ?_))
 refine wpAny_bind (thn (he pins s σ H _ I h) fun v s1 ⟨x,H1,I1,r1,e,ex,hH,hn,q1⟩=>wpAny_bind (wpAny_standAt (wpAny_pure ?_)))
 subst ex
 cases (show v=Value.ref e from r1)
 obtain ⟨⟨t0,oE⟩,_⟩:=(show ObjOk X.prog X.w H1 s1.heap e (Exo C e) from I1.hok e _ hH)
 exact ⟨e,t0,rfl,I1.kIn _ _ hC,oE,hx pins σ H1 s1 e C I1 hH hn q1⟩
end
noncomputable def CX1 (P:Program) (w:World):CXT:=fun outer H s E e s'=>∃(a C:Addr) (a0:Value) (B:Heap) (H':Hp),e= .ref a∧s'.os=s.os∧AllBare s'.gens∧s.heap.get? a=none∧H' a=none∧HOk P w H' B∧
 Heap.FlyingW B outer a (.ref C) a0 s'.heap∧(∀b o,s.heap.get? b=some o→H b=none→b∉frs outer→B.get? b=some o)∧(∀b o,s.heap.get? b=some o→H b=none→b∈frs outer→∃sl,s'.heap.get? b=some {o with slots:=sl})∧
 (∀b o,s.heap.get? b=some o→H b=none→H' b=none)∧(∀b o,s.heap.get? b=some o→b∉frs outer→∃o',B.get? b=some o')∧
 (∀b xs,H b=some (.tup xs)→H' b=some (.tup xs))∧(∀b o u,H b=some (.frz o u)→H' b=some (.frz o u))∧(∀b ps,H b=some (.tbl ps)→∃more,H' b=some (.tbl (ps++more)))∧E (.ref C) none H'
theorem frs_cons {env:Env} {outer:List Env} {b:Addr}:b∈frs (env::outer)↔env.frame=some b∨b∈frs outer:=by
 unfold frs
 rw [List.filterMap_cons]
 cases q:env.frame with
 |none=>simp
 |some L=>
  simp only [List.mem_cons,Option.some.injEq]
  constructor
  · rintro (z|z)
    · exact .inl z.symm
    · exact .inr z
  · rintro (z|z)
    · exact .inl z.symm
    · exact .inr z
theorem jp {P:Program} {w:World} {K:PySem.W.Frag} {mg:Str→Option Value} {base:Heap} {N:List Str} {qual:Str} {scope:Scope} {f:Addr} {cd:Value} {A:Around} {outer:List Env} {s:Shared} {H:Hp} {E:XK}:
 tN (cxOf (CX1 P w) P w K mg base N qual scope f cd A outer s H E) E:=by
 intro pins σ H1 s1 e C I hH hn hE
 obtain ⟨⟨t0,oE⟩,_⟩:=(show ObjOk P w H1 s1.heap e (Exo C e) from I.hok e _ hH)
 have stk:s1.heap.FunFrames base (envOfC qual scope s.heap.objs.size f cd::outer):=I.stack
 have fre:∀b∈frs (envOfC qual scope s.heap.objs.size f cd::outer),H1 b=none:=I.stkFree
 have hfl:(envOfC qual scope s.heap.objs.size f cd).frame=some s.heap.objs.size:=rfl
 have hin:∀env∈(envOfC qual scope s.heap.objs.size f cd::outer),∀b,env.frame=some b→b∈e::frs (envOfC qual scope s.heap.objs.size f cd::outer):=fun env he b hb=>List.mem_cons_of_mem _ (List.mem_filterMap.mpr ⟨env,he,hb⟩)
 have kB:∀b o,s1.heap.get? b=some o→b≠e→b∉frs (envOfC qual scope s.heap.objs.size f cd::outer)→(PySem.W.hideAll s1.heap (e::frs (envOfC qual scope s.heap.objs.size f cd::outer))).get? b=some o:=fun b o q h1 h2=>
  PySem.W.hideAll_get _ q fun z=>by
   rcases List.mem_cons.mp z with z|z
   · exact h1 z
   · exact h2 z
 have nL:∀b o,s.heap.get? b=some o→b≠s.heap.objs.size:=fun b o q=>Nat.ne_of_lt (Heap.lt_size q)
 have nfr:∀b o,s.heap.get? b=some o→b∉frs outer→b∉frs (envOfC qual scope s.heap.objs.size f cd::outer):=fun b o q h2 z=>by
  rcases frs_cons.mp z with z|z
  · rw [hfl] at z
    exact nL b o q (Option.some.inj z).symm
  · exact h2 z
 have ne:∀b o,s.heap.get? b=some o→b≠e:=fun b o q z=>by
  rw [z] at q
  have hn':s.heap.get? e=none:=hn
  rw [hn'] at q
  cases q
 refine wpAny_leaving_firstW (base:=PySem.W.hideAll s1.heap (e::frs (envOfC qual scope s.heap.objs.size f cd::outer))) (a0:= .ref t0) (oe:= {cls:= .ref C,data:= .fields #[.ref t0, .none, .none, .none, .bool false, .none]}) (L:=s.heap.objs.size)
  I.ok.frames (PySem.W.funFrames_hide stk hin) hfl oE (fun b o q=>PySem.W.of_hideAll _ q) (PySem.W.hideAll_none _ List.mem_cons_self) rfl rfl rfl fun h' hL=> ?_
 obtain ⟨z1,⟨_,_,z2⟩,z3,z4⟩:=hL
 have un:Un (frs outer) [] H H1 s.heap s1.heap:=I.base
 refine ⟨e,C, .ref t0,_,unt H1 e,rfl,I.os,I.bare,hn,cY,?_,⟨z1,PySem.W.hideAll_none _ List.mem_cons_self,z2,z3⟩,?_,?_,?_,?_,?_,?_,?_,hE⟩
 · intro b o q
   have nb:b≠e:=by
    intro z
    rw [z,cY] at q
    cases q
   refine (vA I.hok hH b o q).stay (fun c v hc r=>kB c v r ?_ ?_) (fun _ r=>r) fun _ _ r=>r
   · rcases hc with z|z
     · rw [z]
       exact nb
     · intro y
       rw [y,cY] at z
       cases z
   · intro y
     have y':=fre c y
     rcases hc with z|z
     · rw [cX nb,←z,y'] at q
       cases q
     · by_cases ce:c=e
       · rw [ce,cY] at z
         cases z
       · rw [cX ce,y'] at z
         cases z
 · intro b o q n hb
   exact kB b o (un.keep b o q n hb (by simp)) (ne b o q) (nfr b o q hb)
 · intro b o q n hb
   obtain ⟨sl,e1⟩:=un.slot b o q n hb (by simp)
   have nd:=(stk.mem (b:=b) (frs_cons.mpr (.inr hb))).2
   obtain ⟨o1,e2,d2⟩:=nd
   rw [e1] at e2
   cases e2
   obtain ⟨sl',e3⟩:=z4 b _ e1 d2
   exact ⟨sl',e3⟩
 · intro b o q n
   rw [cX (ne b o q)]
   exact un.free b o q n (by simp)
 · intro b o q hb
   obtain ⟨o',e1⟩:=un.there b o q (by simp)
   exact ⟨o',kB b o' e1 (ne b o q) (nfr b o q hb)⟩
 · intro b xs q
   have q1:=un.tups b xs q
   rw [cX]
   · exact q1
   · intro z
     rw [z,hH] at q1
     cases q1
 · intro b o u q
   have q1:=un.frzs b o u q
   rw [cX]
   · exact q1
   · intro z
     rw [z,hH] at q1
     cases q1
 · intro b ps q
   obtain ⟨more,q1⟩:=un.tbls b ps q
   refine ⟨more,?_⟩
   rw [cX]
   · exact q1
   · intro z
     rw [z,hH] at q1
     cases q1
theorem jF {X:Cx} {P:Program} {w:World}:ie (CX1 P w) X E0:=fun _ _ _ _ _ _ _ h=>by
 obtain ⟨_,_,_,_,_,h⟩:=h
 exact h.2.2.2.2.2.2.2.2.2.2.2.2.2.2.elim
section
open PySem PySem.W Builtin Builtin.ObjectAttr Builtin.Getset_descriptor
variable {prog:Program} {w:World} {A:Around} {E:Value→Shared→Prop} {h:Heap} {g:Array GenState} {d:Drawn} {t:Nat} {os:OsState} {a C:Addr} {o:Obj} {K:Frag}
structure XIs (K:Frag) (C:Addr):Prop where
 cls:(clsIn K C).isSome=true
 ga:findIn K (.ref C) "__getattribute__"=some (some (.builtin "BaseException.__getattribute__"))
 hook:findIn K (.ref C) "__getattr__"=some none
 cl:findIn K (.ref C) "__class__"=some (some (.builtin "object.__class__"))
 mo:mroIn K C (.type "object")=some true
 mb:mroIn K C (.type "BaseException")=some true
theorem i8 {M:Model} {n:Str} {r:Option Value} {Q:Option Value→Shared→Prop} (X:K.In h) (e:findIn K (.ref C) n=some r) (z:Q r ⟨h,g,d,t,os⟩):wpAny M A (typeLookup (.ref C) n) Q E ⟨h,g,d,t,os⟩:=
 (looks_findIn (M:=M) X e).at z
theorem rZ {M:Model} {b:Value} {r:Bool} {Q:Bool→Shared→Prop} (X:K.In h) (e:mroIn K C b=some r) (z:Q r ⟨h,g,d,t,os⟩):wpAny M A (isSubtype (.ref C) b) Q E ⟨h,g,d,t,os⟩:=
 (looks_mroIn (M:=M) X e).at z
theorem ji {R:Result→Shared→Prop} {tp:Value} (Z:XIs K C) (X:K.In h) (hx:h.get? a=some o) (hc:o.cls= .ref C) (z:R (.ok (.ret (.ref C))) ⟨h,g,d,t,os⟩):
 codeAny (model prog w) A (.call (.builtin "getset_descriptor.__get__") ⟨[.builtin "object.__class__", .ref a,tp],[]⟩) R ⟨h,g,d,t,os⟩:=by
 have L0:Looks (model prog w) h (typeOf (.ref a)) (.ref C):=by
  have:=((Looks.ld (M:=model prog w) (part:=some headPart) hx).andThen (f:=fun o=>pure o.cls) .now)
  rw [hc] at this
  exact this
 have L1:=looks_mroIn (M:=model prog w) X Z.mo
 refine codeAny_call_builtin KF.slot_gs.plain KF.entry_gs (KF.slot_gs.check _ _ _ _ _ _ _ _ KF.type_class (KF.args_gs _ _ _) ?_)
 unfold Builtin.«getset_descriptor.__get__» descrGet
 rw [dga_obj]
 refine wpAny_bind (wpAny_pure ?_)
 unfold descrGetter descrCheckInstance descrNameAndClass isInstance
 simp only [KF.owner_class]
 repeat lk
 refine ⟨Code.quiet_builtin _ (by decide +kernel),codeAny_builtin KF.entry_class ?_⟩
 unfold Builtin.«object.__class__» shownTypeOf
 repeat lk
 exact z
theorem wc {M:Model} {nv:Value} {Q:Unit→Shared→Prop} (Z:XIs K C) (X:K.In h) (hx:h.get? a=some o) (hc:o.cls= .ref C) (z:Q () ⟨h,g,d,t,os⟩):
 wpAny M A (checkBuiltinCall "BaseException.__getattribute__" ⟨[.ref a,nv],[]⟩) Q E ⟨h,g,d,t,os⟩:=by
 have hk:builtinKind "BaseException.__getattribute__"=some .slot:=by decide +kernel
 have hs:splitId "BaseException.__getattribute__"=some ("BaseException","__getattribute__"):=by decide +kernel
 have ha:=PySem.F.args_bexc_ga (.ref a) nv
 simp only [checkBuiltinCall,hk,hs]
 refine wpAny_bind ?_
 unfold isInstance
 repeat
  first
  |(with_reducible refine wpAny_loadPart_at hx ?_;rw [hc])
  |with_reducible refine rZ X Z.mb ?_
  |wp_step
 exact z
theorem pS {Q:Option Value→Shared→Prop} (Z:XIs K C) (X:K.In h) (hx:h.get? a=some o) (hc:o.cls= .ref C) (z:Q (some (.ref C)) ⟨h,g,d,t+1,os⟩):
 wpAny (model prog w) A (getAttr? (.ref a) "__class__") Q E ⟨h,g,d,t,os⟩:=by
 have f3:=PySem.F.excAttr_ValueError.ga.bind (.ref a)
 have b2:(Value.builtin "BaseException.__getattribute__"==Value.builtin "object.__getattribute__")=false:=by decide +kernel
 have b1:(onTheHeap (Value.ref C)&&Value.builtin "BaseException.__getattribute__"==Value.builtin "object.__getattribute__")=false:=by rw [b2];rfl
 have f5:=PySem.F.typeOf_object_class
 have f6:=PySem.F.slot_gs_get.lookup
 have f7:=PySem.F.slot_gs_set.lookup
 have hT5:(⟨h,g,d,t+1,os⟩:Shared).TypeIs (.builtin "object.__class__") "getset_descriptor":=PySem.F.typeOf_object_class
 unfold getAttr? getAttrBy?
 refine wpAny_bind (wpAny_mkText (wpAny_bind (wpAny_attempt ?_)))
 unfold getAttrBy
 repeat
  any_goals
   first
   |assumption
   |(with_reducible refine wpAny_loadPart_at hx ?_;rw [hc])
   |with_reducible refine i8 X Z.ga ?_
   |with_reducible refine i8 X Z.hook ?_
   |wp_step
 refine codeAny_call_builtin PySem.F.excAttr_ValueError.ga.plain PySem.F.entry_bexc_ga (wc Z X hx hc ?_)
 repeat
  any_goals
   first
   |assumption
   |(with_reducible refine wpAny_loadPart_at hx ?_;rw [hc])
   |with_reducible refine i8 X Z.cl ?_
   |wp_step
 refine ji Z X hx hc ?_
 repeat
  any_goals
   first
   |assumption
   |wp_step
end
open PySem PySem.Spec PyProof.Rows
noncomputable def Cau (C a:Addr):HO:= .ext fun h=>∃o,h.get? a=some o∧o.cls= .ref C
theorem sj {K:PySem.W.Frag} {C a:Addr} (Z:XIs K C):PySem.W.KitX K (.ref a) (.ref C) (fun h=>∃o,h.get? a=some o∧o.cls= .ref C) where
 ty:=fun M h _ ⟨o,e,c⟩=>by
  have:=((PySem.W.Looks.ld (M:=M) (part:=some headPart) e).andThen (f:=fun o=>pure o.cls) .now)
  rw [c] at this
  exact this
 it:=fun M h X _=>by
  have hc:=Z.cls
  unfold PySem.W.clsIn at hc
  split at hc
  · rename_i ho
    intro A' Q' E' s' k q
    unfold isType loadHead
    exact wpAny_bind (wpAny_loadPart (k _ _ (X _ _ ho)) (wpAny_pure q))
  · cases hc
 ne:=fun h tp dd its n sl X htp=>by
  have hc:=Z.cls
  refine Bool.eq_false_iff.mpr fun q=> ?_
  have e:C=tp:=Value.ref.inj (beq_iff_eq.mp q)
  subst e
  unfold PySem.W.clsIn at hc
  split at hc
  · rename_i ho
    cases (X _ _ ho).symm.trans htp
  · cases hc
 ca:=fun {prog w A E Q s} X ⟨o,e,c⟩ k=>by
  obtain ⟨h,g,d,t,os⟩:=s
  exact pS Z X e c k
noncomputable def clsV:V→Value
 | .ty n=> .type n
 | .ref a=> .ref a
 |_=> .none
def oP:V→Bool
 | .ty _=>true
 | .ref _=>true
 |_=>false
theorem oW {x:V} {u:Value} (r:RelV x u) (h:oP x=true):u=clsV x:=by
 cases x with
 |ty n=>exact r
 |ref a=>exact r
 |_=>cases h
theorem ml:∀ {xs:List V} {us:List Value},Vals xs us→xs.all oP=true→us=xs.map clsV
 |_,_, .nil,_=>rfl
 |_,_, .cons r t,h=>by
  rw [List.all_cons,Bool.and_eq_true] at h
  rw [oW r h.1,ml t h.2,List.map_cons]
inductive TyX (K:PySem.W.Frag) (H:Hp):V→Value→Prop where
 |of {x:V} {t:Value} (h:TyOf K H x t):TyX K H x t
 |exc {a C:Addr} (e:H a=some (Cau C a)) (Z:XIs K C):TyX K H (.ref a) (.ref C)
section
variable {X:Cx}
theorem TyX.kit {pins:List (Addr×Obj)} {σ:St} {H:Hp} {s:Shared} {x:V} {u t:Value} (I:Inv X pins σ H s) (rx:RelV x u) (ty:TyX X.K H x t):∃Hh,PySem.W.KitX X.K u t Hh∧Hh s.heap∧u≠ .builtin "__main__.__loader__#opaque":=by
 cases ty with
 |of ty=>
  cases ty with
  |non=>cases (show u=Value.none from rx);exact ⟨_,PySem.W.kitx_none,True.intro,fun z=>nomatch z⟩
  |bl y=>cases (show u=Value.bool y from rx);exact ⟨_,PySem.W.kitx_bool,True.intro,fun z=>nomatch z⟩
  |int i=>obtain ⟨t,q⟩:=(show∃t,u=Value.int i t from rx);cases q;exact ⟨_,PySem.W.kitx_int,True.intro,fun z=>nomatch z⟩
  |str y=>obtain ⟨t,q⟩:=(show∃t,u=Value.str y t from rx);cases q;exact ⟨_,PySem.W.kitx_str,True.intro,fun z=>nomatch z⟩
  |flt y=>obtain ⟨t,q⟩:=(show∃t,u=Value.float y t from rx);cases q;exact ⟨_,PySem.W.kitx_float,True.intro,fun z=>nomatch z⟩
  | @lst a xs ea=>
   cases (show u=Value.ref a from rx)
   obtain ⟨_,_,n,_,h1⟩:=(show ObjOk X.prog X.w H s.heap a (.lst xs) from I.hok a _ ea)
   exact ⟨_,PySem.W.kitx_list,⟨_,h1,rfl⟩,fun z=>nomatch z⟩
  | @frz a ob xs ea=>
   cases (show u=Value.ref a from rx)
   obtain ⟨_,_,_,n,_,h1⟩:=(show ObjOk X.prog X.w H s.heap a (.frz ob (.lst xs)) from I.hok a _ ea)
   exact ⟨_,PySem.W.kitx_list,⟨_,h1,rfl⟩,fun z=>nomatch z⟩
  | @tup a xs ea=>
   cases (show u=Value.ref a from rx)
   obtain ⟨_,_,_,o,h1,h2,_⟩:=(show ObjOk X.prog X.w H s.heap a (.tup xs) from I.hok a _ ea)
   exact ⟨_,PySem.W.kitx_tuple,⟨o,h1,h2⟩,fun z=>nomatch z⟩
  | @dK a kvs ea=>
   cases (show u=Value.ref a from rx)
   obtain ⟨_,_,vs,_,o,es,ep,h1,h2,_⟩:=(show ObjOk X.prog X.w H s.heap a (.dK kvs) from I.hok a _ ea)
   exact ⟨_,PySem.W.kitx_dict,⟨o,h1,h2.1⟩,fun z=>nomatch z⟩
  | @dT a kvs ea=>
   cases (show u=Value.ref a from rx)
   obtain ⟨_,_,xs,_,o,es,ep,h1,h2,_⟩:=(show ObjOk X.prog X.w H s.heap a (.dT kvs) from I.hok a _ ea)
   exact ⟨_,PySem.W.kitx_dict,⟨o,h1,h2.1⟩,fun z=>nomatch z⟩
  | @ins a C dx fs ea cl ha hn htk hm=>
   cases (show u=Value.ref a from rx)
   obtain ⟨mA,O,_⟩:=uI I.hok ea
   obtain ⟨od,J,_⟩:=O.look
   exact ⟨_,PySem.W.kitx_own (cl.get _) cl.hd ha hn htk hm,J,fun z=>nomatch z⟩
 | @exc a C e Z=>
  cases (show u=Value.ref a from rx)
  obtain ⟨h1,_⟩:=(show ObjOk X.prog X.w H s.heap a (Cau C a) from I.hok a _ e)
  exact ⟨_,sj Z,h1,fun z=>nomatch z⟩
def rIsi (K:PySem.W.Frag):List V→Hp→VK→Prop:=fun xs H Q=>∃x c t b,xs= [x,c]∧TyX K H x t∧
 ((oP c=true∧PySem.W.kitOne K t (clsV c)=some b)∨(∃p ys,c= .ref p∧H p=some (.tup ys)∧ys.all oP=true∧PySem.W.kitAny K t (ys.map clsV)=some b))∧Q (.bl b) H
theorem aS:CallR X (.builtin "isinstance") (rIsi X.K):=by
 intro pins s σ H xs us Q I r h
 obtain ⟨x,c,t,b,e,ty,h,q⟩:=h
 subst e
 cases r with
 | @cons _ u _ _ rx r=>
  cases r with
  | @cons _ v _ _ rc r=>
   cases r
   obtain ⟨Hh,Z,hp,hne⟩:=ty.kit I rx
   rcases h with ⟨hc,hk⟩|⟨p,ys,e,hH,hall,hk⟩
   · cases oW rc hc
     exact PySem.W.kia_one Z I.kIn hp hk hne fun tk=>⟨.bl b,H,I.tok tk,rfl,q⟩
   · subst e
     cases (show v=Value.ref p from rc)
     obtain ⟨_,its,rv,⟨oc,od,oda,osl⟩,h1,h2,n,h3⟩:=(show ObjOk X.prog X.w H s.heap p (.tup ys) from I.hok p _ hH)
     dsimp only at h2 h3
     subst h2 h3
     cases ml rv hall
     exact PySem.W.kia_tup Z I.kIn hp h1 hk hne fun tk=>⟨.bl b,H,I.tok tk,rfl,q⟩
end
open PySem PySem.Spec PyProof.Rows
abbrev TSX:=Ends→XK→St→Hp→Prop
section
variable {X:Cx} {CX:CXT} {k:Nat} {f:Addr} {fd:FuncData} {ps:List Str} {sp:Sp} {x:Str} {p pos epos:Pos} {e:Expr} {es:List Expr} {t:TA}
end
section
variable {X:Cx} {pins:List (Addr×Obj)} {σ:St} {H:Hp} {s:Shared} {a:Addr}
end
section
variable {X:Cx} {body suite:List Stmt} {b0:Stmt} {tb:TSX} {ts:TS} {i:Nat} {n cx:Str} {np hpos pos:Pos} {W:Addr}
end
open PySem PySem.Spec PyProof.Rows
section
variable {X:Cx}
def Big (i:Int):Prop:=i.natAbs < 2^8000
theorem cA:OpR X (binaryOp .Mult) (rI (fun i j=>Big i∧Big j) fun i j=> .int (i*j)):=opI fun _ _ _ _ _ _ _ hc q=>
 PyProof.Rows.mul_int q (IntMulOk.of_le (m:=8000) (n:=8000) (intBits_le_iff.mpr hc.1) (intBits_le_iff.mpr hc.2) (by decide))
theorem tK {i j:Int} (h:Big j):Builtin.divisionGoesByPylong i j=false:=by
 refine PyProof.noPylong_of_log2 ?_
 by_cases z:j.natAbs=0
 · rw [z];decide
 · exact Nat.lt_trans ((Nat.log2_lt z).mpr h) (by decide)
theorem cf:OpR X (binaryOp .FloorDiv) (rI (fun _ j=>0 < j∧Big j) fun i j=> .int (i / j)):=opI fun i j _ _ _ _ _ hc q=>by
 have h1:(0:Int) < j:=hc.1
 exact floordiv_int (by omega) (by rw [Int.fdiv_eq_ediv_of_nonneg i (by omega)];exact q) (.inl (tK hc.2))
theorem lM:OpR X (binaryOp .FloorDiv) (rI (fun _ j=>j≠0∧Big j) fun i j=> .int (i.fdiv j)):=opI fun _ _ _ _ _ _ _ hc q=>floordiv_int hc.1 q (.inl (tK hc.2))
end
theorem Fun.okX {P:Program} {w:World} {K:PySem.W.Frag} {mg:Str→Option Value} {base:Heap} {CX:CXT} {x qual:Str} {st:Stmt} {f:Addr} {fd:FuncData} {N ps:List Str} {k:Nat} {sp:Sp} (F:Fun K x qual st f fd) (S:ax N ps (af st))
 (len:∀vs H Q E,sp vs H Q E→vs.length=ps.length)
 (hbody:∀(cdv:Value) (A:Around) (outer:List Env) (s:Shared) (H:Hp) (vs:List V) (Q:VK) (E:XK),Room k (A.deeper (envOfC qual (af st) s.heap.objs.size f cdv))→sp vs H Q E→
  ∃t,PSs (cxOf CX P w K mg base N qual (af st) f cdv A outer s H E) (ao st) t∧t {nx:=fun _ H'=>Q .non H',rt:=Q} (fu N vs) H):FnOk P w K mg base CX (k+1) f fd ps sp:=by
 obtain ⟨oc,od,kV,doc,pm,an,cdv,ct,osl,rfl,lk,hcd⟩:=F.ex
 exact vm lk hcd S len fun A outer s H vs Q E hr hsp=>hbody cdv A outer s H vs Q E hr hsp
theorem ay:bootBuiltins "isinstance"=some (.builtin "isinstance"):=by decide +kernel
theorem tH:bootBuiltins "abs"=some (.builtin "abs"):=by decide +kernel
open PySem PySem.Spec PyProof.Rows
section
variable {X:Cx}
theorem vX (hu:X.A.units+1 < cLine):OpR X (compareOp .Eq) (fun x y H Q=>∃(p q:Addr) (a b c d:Int),x= .ref p∧y= .ref q∧SqT X.K H p [.int a, .int b]∧SqT X.K H q [.int c, .int d]∧Q (.bl (decide (a=c∧b=d))) H):=by
 intro pins s σ H x y v u Q I rx ry h
 obtain ⟨p,q,a,b,c,d,e1,e2,hp,hq,k⟩:=h
 subst e1 e2
 cases (show v=Value.ref p from rx)
 cases (show u=Value.ref q from ry)
 obtain ⟨its,r1,t1,_⟩:=I.tuple hp
 obtain ⟨its2,r2,t2,_⟩:=I.tuple hq
 obtain ⟨u1,u2,rfl,⟨w1,rfl⟩,⟨w2,rfl⟩⟩:=Vals.two r1
 obtain ⟨u3,u4,rfl,⟨w3,rfl⟩,⟨w4,rfl⟩⟩:=Vals.two r2
 refine PySem.SeqAt.eq_tupleAt (e:=fun j=>if j=0 then a==c else b==d) (show s.heap.IsTuple p _ from t1) (show s.heap.IsTuple q _ from t2) (by omega) (fun j h1 h2=> ?_) ?_
 · match j,h1,h2 with
   |0,_,_=>exact PySem.SeqAt.EqAt.int_int a w1 c w3
   |1,_,_=>exact PySem.SeqAt.EqAt.int_int b w2 d w4
   |j+2,h1,_=>
    have:j+2 < 2:=h1
    omega
 · refine ⟨.bl (decide (a=c∧b=d)),H,I,?_,k⟩
   show Value.bool (((a==c)&& ((b==d)&&true))&&true)=Value.bool (decide (a=c∧b=d))
   congr 1
   rw [Bool.and_true,Bool.and_true,Bool.eq_iff_iff]
   simp
end
section
variable {X:Cx} {CX:CXT} {k:Nat} {f:Addr} {fd:FuncData} {ps:List Str} {sp:Sp} {x:Str} {p pos rpos:Pos} {e:Expr} {es:List Expr} {t:TA}
end
section
variable {X:Cx} {body suite:List Stmt} {b0:Stmt} {tb:TSX} {ts:TS} {cx:Str} {np hpos pos:Pos} {W:Addr}
end
end L2
namespace Tre
open PySem PySem.Spec PyProof.Rows L2
inductive Tr where
 |non
 |bl (b:Bool)
 |int (i:Int)
 |str (x:Str)
 |tup (ts:List Tr)
 |ls
mutual
noncomputable def Tr.depth:Tr→Nat
 | .tup ts=>Trs.depth ts+1
 |_=>0
noncomputable def Trs.depth:List Tr→Nat
 | []=>0
 |t::ts=>max (Tr.depth t) (Trs.depth ts)
end
mutual
def Tr.pure:Tr→Prop
 | .tup ts=>Trs.pure ts
 | .ls=>False
 |_=>True
def Trs.pure:List Tr→Prop
 | []=>True
 |t::ts=>Tr.pure t∧Trs.pure ts
end
mutual
def TrAt (H:Hp):V→Tr→Prop
 |v, .non=>v= .non
 |v, .bl b=>v= .bl b
 |v, .int i=>v= .int i
 |v, .str x=>v= .str x
 |v, .tup ts=>∃r vs,v= .ref r∧H r=some (.tup vs)∧TrsAt H vs ts
 |v, .ls=>∃r xs,v= .ref r∧H r=some (.lst xs)
def TrsAt (H:Hp):List V→List Tr→Prop
 |vs,[]=>vs= []
 |vs,t::ts=>∃v r,vs=v::r∧TrAt H v t∧TrsAt H r ts
end
structure Kd (H H':Hp):Prop where
 tup:∀a xs,H a=some (.tup xs)→H' a=some (.tup xs)
 lst:∀a xs,H a=some (.lst xs)→∃ys,H' a=some (.lst ys)
theorem Kd.refl (H:Hp):Kd H H:=⟨fun _ _ e=>e,fun _ xs e=>⟨xs,e⟩⟩
theorem Kd.trans {H H1 H2:Hp} (a:Kd H H1) (b:Kd H1 H2):Kd H H2:=⟨fun x o e=>b.tup x o (a.tup x o e),fun x o e=>by
 obtain ⟨ys,e1⟩:=a.lst x o e
 exact b.lst x ys e1⟩
theorem Kd.of_same {H H':Hp} (s:Same H H'):Kd H H':=⟨fun a xs e=>s a _ e,fun a xs e=>⟨xs,s a _ e⟩⟩
theorem Kd.upd {H:Hp} {p:Addr} {xs ys:List V} (h:H p=some (.lst xs)):Kd H (upd H p (.lst ys)):=by
 refine ⟨fun a zs e=> ?_,fun a zs e=> ?_⟩
 · rw [aB]
   · exact e
   · intro z
     rw [z,h] at e
     cases e
 · by_cases z:a=p
   · subst z
     exact ⟨ys,ac⟩
   · exact ⟨zs,(aB z).trans e⟩
mutual
theorem TrAt.mono {H H':Hp} (k:Kd H H'):∀ {v:V} {t:Tr},TrAt H v t→TrAt H' v t
 |v, .non,h=>by unfold TrAt at h ⊢;exact h
 |v, .bl b,h=>by unfold TrAt at h ⊢;exact h
 |v, .int i,h=>by unfold TrAt at h ⊢;exact h
 |v, .str x,h=>by unfold TrAt at h ⊢;exact h
 |v, .ls,h=>by
  unfold TrAt at h ⊢
  obtain ⟨r,xs,e,h⟩:=h
  obtain ⟨ys,h'⟩:=k.lst r xs h
  exact ⟨r,ys,e,h'⟩
 |v, .tup ts,h=>by
  unfold TrAt at h ⊢
  obtain ⟨r,vs,e,h1,h2⟩:=h
  exact ⟨r,vs,e,k.tup _ _ h1,TrsAt.mono k h2⟩
theorem TrsAt.mono {H H':Hp} (k:Kd H H'):∀ {vs:List V} {ts:List Tr},TrsAt H vs ts→TrsAt H' vs ts
 |vs,[],h=>by unfold TrsAt at h ⊢;exact h
 |vs,t::ts,h=>by
  unfold TrsAt at h ⊢
  obtain ⟨v,r,e,h1,h2⟩:=h
  exact ⟨v,r,e,TrAt.mono k h1,TrsAt.mono k h2⟩
end
theorem TrsAt.nil {H:Hp}:TrsAt H [] []:=by unfold TrsAt;rfl
theorem TrsAt.cons {H:Hp} {v:V} {t:Tr} {vs:List V} {ts:List Tr} (h:TrAt H v t) (r:TrsAt H vs ts):TrsAt H (v::vs) (t::ts):=by
 unfold TrsAt
 exact ⟨v,vs,rfl,h,r⟩
theorem TrsAt.inv {H:Hp} {t:Tr} {vs:List V} {ts:List Tr} (h:TrsAt H vs (t::ts)):∃v r,vs=v::r∧TrAt H v t∧TrsAt H r ts:=by
 unfold TrsAt at h
 exact h
theorem TrsAt.len {H:Hp}:∀ {vs:List V} {ts:List Tr},TrsAt H vs ts→vs.length=ts.length
 |vs,[],h=>by
  unfold TrsAt at h
  rw [h]
  rfl
 |vs,t::ts,h=>by
  obtain ⟨v,r,e,_,h2⟩:=h.inv
  rw [e,List.length_cons,List.length_cons,h2.len]
theorem TrsAt.app {H:Hp} {ws:List V} {us:List Tr} (b:TrsAt H ws us):∀ {vs:List V} {ts:List Tr},TrsAt H vs ts→TrsAt H (vs++ws) (ts++us)
 |vs,[],h=>by
  unfold TrsAt at h
  subst h
  exact b
 |vs,t::ts,h=>by
  obtain ⟨v,r,e,h1,h2⟩:=h.inv
  subst e
  exact .cons h1 (TrsAt.app b h2)
theorem TrsAt.get {H:Hp}:∀ {vs:List V} {ts:List Tr} {i:Nat} {t:Tr},TrsAt H vs ts→ts[i]?=some t→∃v,vs[i]?=some v∧TrAt H v t
 |vs,[],i,t,_,e=>by simp at e
 |vs,a::ts,0,t,h,e=>by
  obtain ⟨v,r,rfl,h1,h2⟩:=h.inv
  simp at e
  subst e
  exact ⟨v,rfl,h1⟩
 |vs,a::ts,i+1,t,h,e=>by
  obtain ⟨v,r,rfl,h1,h2⟩:=h.inv
  obtain ⟨u,e1,e2⟩:=h2.get (i:=i) (by simpa using e)
  exact ⟨u,by simpa using e1,e2⟩
theorem TrsAt.get' {H:Hp} {vs:List V} {ts:List Tr} {i:Nat} {v:V} (h:TrsAt H vs ts) (e:vs[i]?=some v):∃t,ts[i]?=some t∧TrAt H v t:=by
 have hl:=h.len
 have hi:i < vs.length:=(List.getElem?_eq_some_iff.mp e).1
 obtain ⟨u,e1,e2⟩:=h.get (i:=i) (t:=ts[i]'(by omega)) (List.getElem?_eq_getElem _)
 rw [e] at e1
 cases e1
 exact ⟨_,List.getElem?_eq_getElem _,e2⟩
mutual
theorem TrAt.det {H:Hp}:∀ {v:V} {t u:Tr},TrAt H v t→TrAt H v u→t=u
 |v, .non,u,h1,h2=>by
  unfold TrAt at h1
  subst h1
  cases u<;>unfold TrAt at h2<;>first|rfl|(cases h2;done)|(obtain ⟨_,_,e,_⟩:=h2;cases e)
 |v, .bl b,u,h1,h2=>by
  unfold TrAt at h1
  subst h1
  cases u<;>unfold TrAt at h2<;>first|(cases h2;rfl)|(cases h2;done)|(obtain ⟨_,_,e,_⟩:=h2;cases e)
 |v, .int b,u,h1,h2=>by
  unfold TrAt at h1
  subst h1
  cases u<;>unfold TrAt at h2<;>first|(cases h2;rfl)|(cases h2;done)|(obtain ⟨_,_,e,_⟩:=h2;cases e)
 |v, .str b,u,h1,h2=>by
  unfold TrAt at h1
  subst h1
  cases u<;>unfold TrAt at h2<;>first|(cases h2;rfl)|(cases h2;done)|(obtain ⟨_,_,e,_⟩:=h2;cases e)
 |v, .ls,u,h1,h2=>by
  unfold TrAt at h1
  obtain ⟨r,xs,rfl,h1⟩:=h1
  cases u<;>unfold TrAt at h2<;>first|rfl|(cases h2;done)|(obtain ⟨_,_,e,h2,_⟩:=h2;cases e;rw [h1] at h2;cases h2)
 |v, .tup ts, .tup us,h1,h2=>by
  unfold TrAt at h1 h2
  obtain ⟨r,vs,rfl,h1,h3⟩:=h1
  obtain ⟨r',vs',e,h2,h4⟩:=h2
  cases e
  rw [h1] at h2
  cases h2
  rw [TrsAt.det h3 h4]
 |v, .tup ts, .non,h1,h2=>by unfold TrAt at h1 h2;obtain ⟨_,_,e,_⟩:=h1;rw [h2] at e;cases e
 |v, .tup ts, .bl _,h1,h2=>by unfold TrAt at h1 h2;obtain ⟨_,_,e,_⟩:=h1;rw [h2] at e;cases e
 |v, .tup ts, .int _,h1,h2=>by unfold TrAt at h1 h2;obtain ⟨_,_,e,_⟩:=h1;rw [h2] at e;cases e
 |v, .tup ts, .str _,h1,h2=>by unfold TrAt at h1 h2;obtain ⟨_,_,e,_⟩:=h1;rw [h2] at e;cases e
 |v, .tup ts, .ls,h1,h2=>by
  unfold TrAt at h1 h2
  obtain ⟨r,vs,rfl,h1,_⟩:=h1
  obtain ⟨r',xs,e,h2⟩:=h2
  cases e
  rw [h1] at h2
  cases h2
theorem TrsAt.det {H:Hp}:∀ {vs:List V} {ts us:List Tr},TrsAt H vs ts→TrsAt H vs us→ts=us
 |vs,[],[],_,_=>rfl
 |vs,[],u::us,h1,h2=>by
  have a:=h1.len
  have b:=h2.len
  rw [a] at b
  simp at b
 |vs,t::ts,[],h1,h2=>by
  have a:=h1.len
  have b:=h2.len
  rw [a] at b
  simp at b
 |vs,t::ts,u::us,h1,h2=>by
  obtain ⟨v,r,rfl,h3,h4⟩:=h1.inv
  obtain ⟨v',r',e,h5,h6⟩:=h2.inv
  cases e
  rw [TrAt.det h3 h5,TrsAt.det h4 h6]
end
mutual
noncomputable def eqT:Tr→Tr→Bool
 | .non, .non=>true
 | .bl a, .bl b=>a==b
 | .bl a, .int i=>(if a then 1 else 0)==i
 | .int i, .bl b=>i==(if b then 1 else 0)
 | .int i, .int j=>i==j
 | .str x, .str y=>x==y
 | .tup ts, .tup us=>eqTs ts us
 | .ls, .ls=>true
 |_,_=>false
noncomputable def eqTs:List Tr→List Tr→Bool
 | [],[]=>true
 |t::ts,u::us=>eqT t u&&eqTs ts us
 |_,_=>false
end
mutual
theorem m9:∀t:Tr,eqT t t=true
 | .non=>by simp [eqT]
 | .bl _=>by simp [eqT]
 | .int _=>by simp [eqT]
 | .str _=>by simp [eqT]
 | .ls=>by simp [eqT]
 | .tup ts=>by simp only [eqT];exact eqTs_refl ts
theorem eqTs_refl:∀ts:List Tr,eqTs ts ts=true
 | []=>by simp [eqTs]
 |t::ts=>by simp [eqTs,m9 t,eqTs_refl ts]
end
noncomputable def eqJ (ts us:List Tr) (j:Nat):Bool:=match ts[j]?,us[j]? with
 |some t,some u=>eqT t u
 |_,_=>true
theorem sW {ts us:List Tr} {j:Nat} {t u:Tr} (h1:ts[j]?=some t) (h2:us[j]?=some u):eqJ ts us j=eqT t u:=by
 unfold eqJ
 rw [h1,h2]
theorem j7:∀(ts us:List Tr),eqTs ts us=((List.range (min ts.length us.length)).all (eqJ ts us)&&ts.length==us.length)
 | [],[]=>by simp [eqTs]
 | [],u::us=>by simp [eqTs]
 |t::ts,[]=>by simp [eqTs]
 |t::ts,u::us=>by
  simp only [eqTs,List.length_cons]
  rw [j7 ts us,show min (ts.length+1) (us.length+1)=min ts.length us.length+1 by omega,List.range_succ_eq_map,List.all_cons,List.all_map]
  have e:(eqJ (t::ts) (u::us)) ∘ Nat.succ=eqJ ts us:=by
   funext j
   simp [eqJ]
  rw [e]
  simp [eqJ,Bool.and_assoc]
open PySem PySem.Spec PyProof.Rows L2
section
variable {X:Cx} {pins:List (Addr×Obj)} {σ:L2.St} {H:Hp} {s:Shared} {A:Around}
theorem pf {a b:Addr} {xs ys:List V} (I:Inv X pins σ H s) (ha:H a=some (.tup xs)) (hb:H b=some (.tup ys)) (hu:A.units < cLine) (e:Nat→Bool) (hne:a≠b)
 (he:∀j x y u v,xs[j]?=some x→ys[j]?=some y→RelV x u→RelV y v→SeqAt.EqAt A.in1 s u v (e j)):
 SeqAt.EqAt A s (.ref a) (.ref b) ((List.range (min xs.length ys.length)).all e&&xs.length==ys.length):=by
 obtain ⟨us,r1,p1,_⟩:=I.tuple (SqT.of ha)
 obtain ⟨ws,r2,p2,_⟩:=I.tuple (SqT.of hb)
 have l1:=r1.length
 have l2:=r2.length
 have:=SeqAt.RcAt.tuples (A:=A) (e:=e) (show s.heap.IsTuple a us.toArray from p1) (show s.heap.IsTuple b ws.toArray from p2) hu fun j h1 h2=>by
  have h1':j < us.length:=by simpa using h1
  have h2':j < ws.length:=by simpa using h2
  obtain ⟨u,e1,q1⟩:=r1.get (i:=j) (x:=xs[j]'(by omega)) (List.getElem?_eq_getElem _)
  obtain ⟨v,e2,q2⟩:=r2.get (i:=j) (x:=ys[j]'(by omega)) (List.getElem?_eq_getElem _)
  have z1:us.toArray[j]=u:=by rw [List.getElem_toArray];rw [List.getElem?_eq_getElem h1'] at e1;exact Option.some.inj e1
  have z2:ws.toArray[j]=v:=by rw [List.getElem_toArray];rw [List.getElem?_eq_getElem h2'] at e2;exact Option.some.inj e2
  rw [z1,z2]
  exact he j _ _ u v (List.getElem?_eq_getElem _) (List.getElem?_eq_getElem _) q1 q2
 rw [List.size_toArray,List.size_toArray,←l1,←l2] at this
 exact SeqAt.EqAt.of_refs hne this
theorem cn:∀ {ts:List Tr} {t:Tr},t∈ts→t.depth≤Trs.depth ts
 |a::ts,t,h=>by
  unfold Trs.depth
  rcases List.mem_cons.mp h with rfl|h
  · omega
  · have:=cn h
    omega
theorem eH:∀ {ts:List Tr} {t:Tr},Trs.pure ts→t∈ts→t.pure
 |a::ts,t,p,h=>by
  unfold Trs.pure at p
  rcases List.mem_cons.mp h with rfl|h
  · exact p.1
  · exact eH p.2 h
theorem df {r:Addr} {vs:List V} (I:Inv X pins σ H s) (h:H r=some (.tup vs)):∃its:Array Value,s.heap.IsTuple r its:=by
 obtain ⟨us,_,p,_⟩:=I.tuple (SqT.of h)
 exact ⟨_,p⟩
theorem dg {r:Addr} {vs:List V} (I:Inv X pins σ H s) (h:H r=some (.lst vs)):∃its:Array Value,s.heap.IsList r its:=by
 obtain ⟨us,_,p,_⟩:=I.list (SqL.of h)
 exact ⟨_,p.isList⟩
theorem ox (I:Inv X pins σ H s) {A:Around} {t u:Tr} {v w:V} {a b:Value} (hd:∀ts,t≠ .tup ts) (hp:t.pure∨u.pure) (h1:TrAt H v t) (h2:TrAt H w u) (r1:RelV v a) (r2:RelV w b) (hu0:A.units < cLine):SeqAt.EqAt A s a b (eqT t u):=by
 cases t with
 |tup ts=>exact (hd ts rfl).elim
 |non=>
  unfold TrAt at h1
  subst h1
  cases (show a=Value.none from r1)
  cases u with
  |non=>unfold TrAt at h2;subst h2;cases (show b=Value.none from r2);simp only [eqT];exact SeqAt.EqAt.same _
  |bl c=>unfold TrAt at h2;subst h2;cases (show b=Value.bool c from r2);simp only [eqT];exact SeqAt.EqAt.none_bool c
  |int c=>unfold TrAt at h2;subst h2;obtain ⟨t',rfl⟩:=r2;simp only [eqT];exact SeqAt.EqAt.none_int c t'
  |str c=>unfold TrAt at h2;subst h2;obtain ⟨t',rfl⟩:=r2;simp only [eqT];exact SeqAt.EqAt.none_str c t'
  |tup us=>unfold TrAt at h2;obtain ⟨r,vs,rfl,g1,_⟩:=h2;cases r2;obtain ⟨its,p⟩:=df I g1;simp only [eqT];exact SeqAt.EqAt.none_tuple p hu0
  |ls=>unfold TrAt at h2;obtain ⟨r,vs,rfl,g1⟩:=h2;cases r2;obtain ⟨its,p⟩:=dg I g1;simp only [eqT];exact SeqAt.EqAt.none_list p hu0
 |bl d=>
  unfold TrAt at h1
  subst h1
  cases (show a=Value.bool d from r1)
  cases u with
  |non=>unfold TrAt at h2;subst h2;cases (show b=Value.none from r2);simp only [eqT];exact SeqAt.EqAt.bool_none d
  |bl c=>unfold TrAt at h2;subst h2;cases (show b=Value.bool c from r2);simp only [eqT];exact SeqAt.EqAt.bool_bool d c
  |int c=>unfold TrAt at h2;subst h2;obtain ⟨t',rfl⟩:=r2;simp only [eqT];exact SeqAt.EqAt.bool_int d c t'
  |str c=>unfold TrAt at h2;subst h2;obtain ⟨t',rfl⟩:=r2;simp only [eqT];exact SeqAt.EqAt.bool_str d c t'
  |tup us=>unfold TrAt at h2;obtain ⟨r,vs,rfl,g1,_⟩:=h2;cases r2;obtain ⟨its,p⟩:=df I g1;simp only [eqT];exact SeqAt.EqAt.bool_tuple d p hu0
  |ls=>unfold TrAt at h2;obtain ⟨r,vs,rfl,g1⟩:=h2;cases r2;obtain ⟨its,p⟩:=dg I g1;simp only [eqT];exact SeqAt.EqAt.bool_list d p hu0
 |int d=>
  unfold TrAt at h1
  subst h1
  obtain ⟨t0,rfl⟩:=r1
  cases u with
  |non=>unfold TrAt at h2;subst h2;cases (show b=Value.none from r2);simp only [eqT];exact SeqAt.EqAt.int_none d t0
  |bl c=>unfold TrAt at h2;subst h2;cases (show b=Value.bool c from r2);simp only [eqT];exact SeqAt.EqAt.int_bool d t0 c
  |int c=>unfold TrAt at h2;subst h2;obtain ⟨t',rfl⟩:=r2;simp only [eqT];exact SeqAt.EqAt.int_int d t0 c t'
  |str c=>unfold TrAt at h2;subst h2;obtain ⟨t',rfl⟩:=r2;simp only [eqT];exact SeqAt.EqAt.int_str d t0 c t'
  |tup us=>unfold TrAt at h2;obtain ⟨r,vs,rfl,g1,_⟩:=h2;cases r2;obtain ⟨its,p⟩:=df I g1;simp only [eqT];exact SeqAt.EqAt.int_tuple d t0 p hu0
  |ls=>unfold TrAt at h2;obtain ⟨r,vs,rfl,g1⟩:=h2;cases r2;obtain ⟨its,p⟩:=dg I g1;simp only [eqT];exact SeqAt.EqAt.int_list d t0 p hu0
 |str d=>
  unfold TrAt at h1
  subst h1
  obtain ⟨t0,rfl⟩:=r1
  cases u with
  |non=>unfold TrAt at h2;subst h2;cases (show b=Value.none from r2);simp only [eqT];exact SeqAt.EqAt.str_none d t0
  |bl c=>unfold TrAt at h2;subst h2;cases (show b=Value.bool c from r2);simp only [eqT];exact SeqAt.EqAt.str_bool d t0 c
  |int c=>unfold TrAt at h2;subst h2;obtain ⟨t',rfl⟩:=r2;simp only [eqT];exact SeqAt.EqAt.str_int d t0 c t'
  |str c=>unfold TrAt at h2;subst h2;obtain ⟨t',rfl⟩:=r2;simp only [eqT];exact SeqAt.EqAt.str_str d t0 c t'
  |tup us=>unfold TrAt at h2;obtain ⟨r,vs,rfl,g1,_⟩:=h2;cases r2;obtain ⟨its,p⟩:=df I g1;simp only [eqT];exact SeqAt.EqAt.str_tuple d t0 p hu0
  |ls=>unfold TrAt at h2;obtain ⟨r,vs,rfl,g1⟩:=h2;cases r2;obtain ⟨its,p⟩:=dg I g1;simp only [eqT];exact SeqAt.EqAt.str_list d t0 p hu0
 |ls=>
  unfold TrAt at h1
  obtain ⟨r0,vs0,rfl,g0⟩:=h1
  cases r1
  obtain ⟨its0,p0⟩:=dg I g0
  cases u with
  |non=>unfold TrAt at h2;subst h2;cases (show b=Value.none from r2);simp only [eqT];exact SeqAt.EqAt.list_none p0 hu0
  |bl c=>unfold TrAt at h2;subst h2;cases (show b=Value.bool c from r2);simp only [eqT];exact SeqAt.EqAt.list_bool c p0 hu0
  |int c=>unfold TrAt at h2;subst h2;obtain ⟨t',rfl⟩:=r2;simp only [eqT];exact SeqAt.EqAt.list_int c t' p0 hu0
  |str c=>unfold TrAt at h2;subst h2;obtain ⟨t',rfl⟩:=r2;simp only [eqT];exact SeqAt.EqAt.list_str c t' p0 hu0
  |tup us=>unfold TrAt at h2;obtain ⟨r,vs,rfl,g1,_⟩:=h2;cases r2;obtain ⟨its,p⟩:=df I g1;simp only [eqT];exact SeqAt.EqAt.list_tuple p0 p hu0
  |ls=>rcases hp with hp|hp<;>simp [Tr.pure] at hp
theorem jY (I:Inv X pins σ H s):∀(n:Nat) {A:Around} {t u:Tr} {v w:V} {a b:Value},t.depth≤n→(t.pure∨u.pure)→TrAt H v t→TrAt H w u→RelV v a→RelV w b→A.units+n+1 < cLine→SeqAt.EqAt A s a b (eqT t u):=by
 intro n
 induction n with
 |zero=>
  intro A t u v w a b hd hp h1 h2 r1 r2 hu
  refine ox I (fun ts e=> ?_) hp h1 h2 r1 r2 (by omega)
  subst e
  simp [Tr.depth] at hd
 |succ n ih=>
  intro A t u v w a b hd hp h1 h2 r1 r2 hu
  have hu0:A.units < cLine:=by omega
  cases t with
  |tup ts=>
   have h1':=h1
   have h2':=h2
   unfold TrAt at h1
   obtain ⟨r0,vs0,rfl,g0,k0⟩:=h1
   cases r1
   obtain ⟨its0,p0⟩:=df I g0
   unfold Tr.depth at hd
   cases u with
   |non=>unfold TrAt at h2;subst h2;cases (show b=Value.none from r2);simp only [eqT];exact SeqAt.EqAt.tuple_none p0 hu0
   |bl c=>unfold TrAt at h2;subst h2;cases (show b=Value.bool c from r2);simp only [eqT];exact SeqAt.EqAt.tuple_bool c p0 hu0
   |int c=>unfold TrAt at h2;subst h2;obtain ⟨t',rfl⟩:=r2;simp only [eqT];exact SeqAt.EqAt.tuple_int c t' p0 hu0
   |str c=>unfold TrAt at h2;subst h2;obtain ⟨t',rfl⟩:=r2;simp only [eqT];exact SeqAt.EqAt.tuple_str c t' p0 hu0
   |ls=>unfold TrAt at h2;obtain ⟨r,vs,rfl,g1⟩:=h2;cases r2;obtain ⟨its,p⟩:=dg I g1;simp only [eqT];exact SeqAt.EqAt.tuple_list p0 p hu0
   |tup us=>
    unfold TrAt at h2
    obtain ⟨r,vs,rfl,g1,k1⟩:=h2
    cases r2
    by_cases z:r0=r
    · subst z
      rw [←TrAt.det h1' h2',m9]
      exact SeqAt.EqAt.same _
    · have:=pf I g0 g1 hu0 (eqJ ts us) z fun j x y u' v' m1 m2 q1 q2=>by
       obtain ⟨t1,n1,a1⟩:=k0.get' m1
       obtain ⟨t2,n2,a2⟩:=k1.get' m2
       rw [sW n1 n2]
       refine ih (A:=A.in1) (by have:=cn (List.mem_of_getElem? n1);omega) ?_ a1 a2 q1 q2 (by show A.units+1+n+1 < cLine;omega)
       rcases hp with hp|hp
       · unfold Tr.pure at hp
         exact .inl (eH hp (List.mem_of_getElem? n1))
       · unfold Tr.pure at hp
         exact .inr (eH hp (List.mem_of_getElem? n2))
      rw [k0.len,k1.len,←j7] at this
      simp only [eqT]
      exact this
  |_=>exact ox I (fun ts e=>by cases e) hp h1 h2 r1 r2 hu0
end
open PySem PySem.Spec PyProof.Rows L2
open PySem.AutoSeq1 (wpAny_loadPart')
def LtAt (A:Around) (s:Shared) (y x:Value) (b:Bool):Prop:=
 ∀(prog:Program) (w:World) (E:Value→Shared→Prop) (Q:Value→Shared→Prop),Q (.bool b) s→wpAny (model prog w) A (richCompare .Lt y x) Q E s
def dm (A:Around) (s:Shared):List Value→List Value→List (Bool×Bool)→Prop
 |v::vs,w::ws,(e,l)::q=>SeqAt.EqAt A s v w e∧(e=false→LtAt A s v w l)∧(e=true→dm A s vs ws q)
 | [],_,q=>q= []
 |_,[],q=>q= []
 |_,_,_=>False
noncomputable def lexV (fin:Bool):List (Bool×Bool)→Bool
 | []=>fin
 |(e,l)::q=>if e=true then lexV fin q else l
theorem jW (l b:Addr) (items items2:Array Value) (n n2:Nat) (dd dd2:Option Addr) (sl sl2:Array (Option Value)) (q:List (Bool×Bool)):
 Meets (Builtin.«tuple.__lt__» ⟨[.ref l, .ref b],[]⟩)
  (fun A R s=>s.heap.get? l=some {cls:= .type "tuple",dict:=dd,data:= .seq items n,slots:=sl}∧s.heap.get? b=some {cls:= .type "tuple",dict:=dd2,data:= .seq items2 n2,slots:=sl2}∧
   dm A.in1 s items.toList items2.toList q∧R (.ok (.ret (.bool (lexV (decide (items.size < items2.size)) q)))) s):=
 .of_wp fun prog w A R s h=>by
  obtain ⟨hp,g,d,tk,os⟩:=s;obtain ⟨hl,hb,hx,h⟩:=h
  have f2:=AutoSeq1.sub_tuple_tuple
  wp_walk using wpAny_loadPart' hl,wpAny_loadPart' hb,wpAny_forIn_list _ (fun rest b s'=>b.1=none∧s'=⟨hp,g,d,tk,os⟩∧∃(vs ws:List Value) (q':List (Bool×Bool)),rest=vs.zip ws∧
   dm A.in1 ⟨hp,g,d,tk,os⟩ vs ws q'∧R (.ok (.ret (.bool (lexV (decide (items.size < items2.size)) q')))) ⟨hp,g,d,tk,os⟩) _
  case turn=>
   rintro ⟨y,x⟩ rest b s' ⟨hb',rfl,vs,ws,q',hz,hlx,hR⟩
   match vs,ws,q',hz,hlx,hR with
   | [],_,_,hz,_,_=>rw [List.zip_nil_left] at hz;cases hz
   |_::_,[],_,hz,_,_=>rw [List.zip_nil_right] at hz;cases hz
   |v::vs,w'::ws,[],_,hlx,_=>exact hlx.elim
   |v::vs,w'::ws,(e,lo)::q',hz,hlx,hR=>
    rw [List.zip_cons_cons] at hz
    injection hz with hyx hrest
    injection hyx with hy hx'
    subst hy hx'
    obtain ⟨he,hlt,hlx⟩:=hlx
    refine wpAny_bind (he prog w _ _ ?_)
    cases e with
    |true=>
     wp_walk
     exact ⟨rfl,rfl,_,_,_,hrest,hlx rfl,hR⟩
    |false=>
     have hri:=hlt rfl prog w
     wp_walk using hri
     exact ⟨_,rfl,hR⟩
  case fin=>
   rintro ⟨b1,b2⟩ s' ⟨hb',rfl,vs,ws,q',hz,hlx,hR⟩
   simp only at hb'
   subst hb'
   have hq:q'= []:=by
    match vs,ws,q',hz,hlx with
    | [],_,_,_,hlx=>unfold dm at hlx;exact hlx
    |_::_,[],_,_,hlx=>unfold dm at hlx;exact hlx
    |_::_,_::_,_,hz,_=>rw [List.zip_cons_cons] at hz;cases hz
   subst hq
   wp_walk
   exact ⟨_,rfl,by simpa [Builtin.Tuple.tupleCompareSizes,lexV] using hR⟩
  case h=>
   exact ⟨rfl,rfl,items.toList,items2.toList,q,rfl,hx,h⟩
theorem mz {A:Around} {s:Shared} {l b:Addr} {items items2:Array Value} {q:List (Bool×Bool)} (hl:s.heap.IsTuple l items) (hb:s.heap.IsTuple b items2) (hu:A.units < cLine)
 (hx:dm A.in1 s items.toList items2.toList q):LtAt A s (.ref l) (.ref b) (lexV (decide (items.size < items2.size)) q):=by
 intro prog w E Q h
 obtain ⟨⟨cls,dd,data,sl⟩,ho,hc,n,hd⟩:=id hl
 obtain ⟨⟨cls2,dd2,data2,sl2⟩,ho2,hc2,n2,hd2⟩:=id hb
 simp only at hc hd hc2 hd2
 subst hc hd hc2 hd2
 exact richCompare_meets_room (op:= .Lt) ⟨_,ho,rfl⟩ ⟨_,ho2,rfl⟩ PySem.F.slot_tuple_lt PySem.F.entry_tuple_lt (PySem.F.args_tuple_lt_2 _ _) (jW l b items items2 n n2 dd dd2 sl sl2 q)
  ⟨ho,ho2,hx,show Value.bool (lexV (decide (items.size < items2.size)) q)≠Value.notImplemented∧Q (.bool (lexV (decide (items.size < items2.size)) q)) s from ⟨(fun x=>nomatch x),h⟩⟩ hu
open PySem L2
inductive Co where
 |non
 |num (i:Int)
 |str (l:List Nat)
 |tup (cs:List Co)
 |ls
noncomputable def Co.kind:Co→Nat
 | .non=>0
 | .num _=>1
 | .str _=>2
 | .tup _=>3
 | .ls=>4
mutual
noncomputable def code:Tr→Co
 | .non=> .non
 | .bl b=> .num (if b then 1 else 0)
 | .int i=> .num i
 | .str x=> .str x.cps.toList
 | .tup ts=> .tup (codes ts)
 | .ls=> .ls
noncomputable def codes:List Tr→List Co
 | []=> []
 |t::ts=>code t::codes ts
end
theorem u7 (x y:Str):((x==y)=true)↔x.cps.toList=y.cps.toList:=by
 rw [beq_iff_eq]
 constructor
 · rintro rfl
   rfl
 · intro h
   cases x
   cases y
   simp only [Str.mk.injEq]
   exact Array.toList_inj.mp h
mutual
theorem eO:∀(t u:Tr),(eqT t u=true)↔code t=code u
 | .non,u=>by cases u<;>simp [eqT,code]
 | .bl a,u=>by cases u<;>simp [eqT,code];cases a<;>rename_i b<;>cases b<;>simp
 | .int i,u=>by cases u<;>simp [eqT,code]
 | .str x, .str y=>by simp only [eqT,code,Co.str.injEq];exact u7 x y
 | .str x, .non=>by simp [eqT,code]
 | .str x, .bl _=>by simp [eqT,code]
 | .str x, .int _=>by simp [eqT,code]
 | .str x, .tup _=>by simp [eqT,code]
 | .str x, .ls=>by simp [eqT,code]
 | .ls,u=>by cases u<;>simp [eqT,code]
 | .tup ts, .tup us=>by simp only [eqT,code,Co.tup.injEq];exact eqTs_code ts us
 | .tup ts, .non=>by simp [eqT,code]
 | .tup ts, .bl _=>by simp [eqT,code]
 | .tup ts, .int _=>by simp [eqT,code]
 | .tup ts, .str _=>by simp [eqT,code]
 | .tup ts, .ls=>by simp [eqT,code]
theorem eqTs_code:∀(ts us:List Tr),(eqTs ts us=true)↔codes ts=codes us
 | [],[]=>by simp [eqTs,codes]
 | [],u::us=>by simp [eqTs,codes]
 |t::ts,[]=>by simp [eqTs,codes]
 |t::ts,u::us=>by
  simp only [eqTs,codes,Bool.and_eq_true,List.cons.injEq]
  rw [eO t u,eqTs_code ts us]
end
mutual
def LtC:Co→Co→Prop
 | .num i, .num j=>i < j
 | .str l, .str m=>l < m
 | .tup cs, .tup ds=>LtCs cs ds
 |c,d=>c.kind < d.kind
def LtCs:List Co→List Co→Prop
 | [],[]=>False
 | [],_::_=>True
 |_::_,[]=>False
 |c::cs,d::ds=>LtC c d∨(c=d∧LtCs cs ds)
end
theorem lT {c d:Co} (h:LtC c d):c.kind≤d.kind:=by
 cases c<;>cases d<;>simp [LtC,Co.kind] at h ⊢
theorem lS {c d:Co} (h:c.kind < d.kind):LtC c d:=by
 cases c<;>cases d<;>simp [LtC,Co.kind] at h ⊢
mutual
theorem kx:∀c:Co,¬LtC c c
 | .non=>by simp [LtC,Co.kind]
 | .num _=>by simp [LtC]
 | .str l=>by simp only [LtC];exact List.lt_irrefl l
 | .tup cs=>by simp only [LtC];exact ltCs_irr cs
 | .ls=>by simp [LtC,Co.kind]
theorem ltCs_irr:∀cs:List Co,¬LtCs cs cs
 | []=>by simp [LtCs]
 |c::cs=>by
  simp only [LtCs,not_or]
  exact ⟨kx c,fun h=>ltCs_irr cs h.2⟩
end
mutual
theorem ku:∀c d:Co,LtC c d∨c=d∨LtC d c
 | .num i, .num j=>by simp only [LtC,Co.num.injEq];omega
 | .str l, .str m=>by
  simp only [LtC,Co.str.injEq]
  by_cases h1:l < m
  · exact .inl h1
  · by_cases h2:m < l
    · exact .inr (.inr h2)
    · exact .inr (.inl (List.le_antisymm (List.not_lt.mp h2) (List.not_lt.mp h1)))
 | .tup cs, .tup ds=>by simp only [LtC,Co.tup.injEq];exact ltCs_tri cs ds
 | .non,d=>by cases d<;>simp [LtC,Co.kind]
 | .ls,d=>by cases d<;>simp [LtC,Co.kind]
 | .num i, .non=>by simp [LtC,Co.kind]
 | .num i, .str _=>by simp [LtC,Co.kind]
 | .num i, .tup _=>by simp [LtC,Co.kind]
 | .num i, .ls=>by simp [LtC,Co.kind]
 | .str i, .non=>by simp [LtC,Co.kind]
 | .str i, .num _=>by simp [LtC,Co.kind]
 | .str i, .tup _=>by simp [LtC,Co.kind]
 | .str i, .ls=>by simp [LtC,Co.kind]
 | .tup i, .non=>by simp [LtC,Co.kind]
 | .tup i, .num _=>by simp [LtC,Co.kind]
 | .tup i, .str _=>by simp [LtC,Co.kind]
 | .tup i, .ls=>by simp [LtC,Co.kind]
theorem ltCs_tri:∀cs ds:List Co,LtCs cs ds∨cs=ds∨LtCs ds cs
 | [],[]=>by simp
 | [],d::ds=>by simp [LtCs]
 |c::cs,[]=>by simp [LtCs]
 |c::cs,d::ds=>by
  simp only [LtCs,List.cons.injEq]
  rcases ku c d with h|h|h
  · exact .inl (.inl h)
  · rcases ltCs_tri cs ds with g|g|g
    · exact .inl (.inr ⟨h,g⟩)
    · exact .inr (.inl ⟨h,g⟩)
    · exact .inr (.inr (.inr ⟨h.symm,g⟩))
  · exact .inr (.inr (.inl h))
end
theorem aJ {a b c:Co} (h1:LtC a b) (h2:LtC b c) (hk:a.kind < b.kind∨b.kind < c.kind):LtC a c:=by
 have k1:=lT h1
 have k2:=lT h2
 exact lS (by omega)
mutual
theorem eZ:∀ {a b c:Co},LtC a b→LtC b c→LtC a c
 | .num i, .num j, .num k,h1,h2=>by simp only [LtC] at *;omega
 | .str i, .str j, .str k,h1,h2=>by simp only [LtC] at *;exact List.lt_trans h1 h2
 | .tup i, .tup j, .tup k,h1,h2=>by simp only [LtC] at *;exact ltCs_trans h1 h2
 | .num _, .num _, .str _,h1,h2=>aJ h1 h2 (by simp [LtC,Co.kind] at h1 h2 ⊢)
 | .num _, .num _, .tup _,h1,h2=>aJ h1 h2 (by simp [LtC,Co.kind] at h1 h2 ⊢)
 | .num _, .num _, .non,h1,h2=>aJ h1 h2 (by simp [LtC,Co.kind] at h1 h2 ⊢)
 | .num _, .num _, .ls,h1,h2=>aJ h1 h2 (by simp [LtC,Co.kind] at h1 h2 ⊢)
 | .num _, .str _,_,h1,h2=>aJ h1 h2 (by simp [LtC,Co.kind] at h1 h2 ⊢)
 | .num _, .tup _,_,h1,h2=>aJ h1 h2 (by simp [LtC,Co.kind] at h1 h2 ⊢)
 | .num _, .non,_,h1,h2=>aJ h1 h2 (by simp [LtC,Co.kind] at h1 h2 ⊢)
 | .num _, .ls,_,h1,h2=>aJ h1 h2 (by simp [LtC,Co.kind] at h1 h2 ⊢)
 | .str _, .str _, .num _,h1,h2=>aJ h1 h2 (by simp [LtC,Co.kind] at h1 h2 ⊢)
 | .str _, .str _, .tup _,h1,h2=>aJ h1 h2 (by simp [LtC,Co.kind] at h1 h2 ⊢)
 | .str _, .str _, .non,h1,h2=>aJ h1 h2 (by simp [LtC,Co.kind] at h1 h2 ⊢)
 | .str _, .str _, .ls,h1,h2=>aJ h1 h2 (by simp [LtC,Co.kind] at h1 h2 ⊢)
 | .str _, .num _,_,h1,h2=>aJ h1 h2 (by simp [LtC,Co.kind] at h1 h2 ⊢)
 | .str _, .tup _,_,h1,h2=>aJ h1 h2 (by simp [LtC,Co.kind] at h1 h2 ⊢)
 | .str _, .non,_,h1,h2=>aJ h1 h2 (by simp [LtC,Co.kind] at h1 h2 ⊢)
 | .str _, .ls,_,h1,h2=>aJ h1 h2 (by simp [LtC,Co.kind] at h1 h2 ⊢)
 | .tup _, .tup _, .num _,h1,h2=>aJ h1 h2 (by simp [LtC,Co.kind] at h1 h2 ⊢)
 | .tup _, .tup _, .str _,h1,h2=>aJ h1 h2 (by simp [LtC,Co.kind] at h1 h2 ⊢)
 | .tup _, .tup _, .non,h1,h2=>aJ h1 h2 (by simp [LtC,Co.kind] at h1 h2 ⊢)
 | .tup _, .tup _, .ls,h1,h2=>aJ h1 h2 (by simp [LtC,Co.kind] at h1 h2 ⊢)
 | .tup _, .num _,_,h1,h2=>aJ h1 h2 (by simp [LtC,Co.kind] at h1 h2 ⊢)
 | .tup _, .str _,_,h1,h2=>aJ h1 h2 (by simp [LtC,Co.kind] at h1 h2 ⊢)
 | .tup _, .non,_,h1,h2=>aJ h1 h2 (by simp [LtC,Co.kind] at h1 h2 ⊢)
 | .tup _, .ls,_,h1,h2=>aJ h1 h2 (by simp [LtC,Co.kind] at h1 h2 ⊢)
 | .non,b,_,h1,h2=>aJ h1 h2 (by cases b<;>simp [LtC,Co.kind] at h1 h2 ⊢)
 | .ls,b,_,h1,h2=>aJ h1 h2 (by cases b<;>simp [LtC,Co.kind] at h1 h2 ⊢)
theorem ltCs_trans:∀ {a b c:List Co},LtCs a b→LtCs b c→LtCs a c
 | [],[],_,h1,_=>by simp [LtCs] at h1
 | [],_::_,[],_,h2=>by simp [LtCs] at h2
 | [],_::_,_::_,_,_=>by simp [LtCs]
 |_::_,[],_,h1,_=>by simp [LtCs] at h1
 |_::_,_::_,[],_,h2=>by simp [LtCs] at h2
 |x::a,y::b,z::c,h1,h2=>by
  simp only [LtCs] at*
  rcases h1 with h1|⟨e1,h1⟩
  · rcases h2 with h2|⟨e2,h2⟩
    · exact .inl (eZ h1 h2)
    · exact .inl (e2▸h1)
  · rcases h2 with h2|⟨e2,h2⟩
    · exact .inl (e1▸h2)
    · exact .inr ⟨e1.trans e2,ltCs_trans h1 h2⟩
end
open Classical in
noncomputable def ltT (t u:Tr):Bool:=decide (LtC (code t) (code u))
open Classical in
theorem ltT_iff {t u:Tr}:(ltT t u=true)↔LtC (code t) (code u):=by
 unfold ltT
 exact decide_eq_true_iff
theorem j4 {t u:Tr} (h:ltT t u=true):ltT u t=false:=by
 cases e:ltT u t with
 |false=>rfl
 |true=>exact absurd (eZ (ltT_iff.mp h) (ltT_iff.mp e)) (kx _)
theorem wf {a b c:Tr} (h1:ltT b a=false) (h2:ltT c b=false):ltT c a=false:=by
 cases e:ltT c a with
 |false=>rfl
 |true=>
  have n1:¬LtC (code b) (code a):=fun z=>by rw [ltT_iff.mpr z] at h1;cases h1
  have n2:¬LtC (code c) (code b):=fun z=>by rw [ltT_iff.mpr z] at h2;cases h2
  have l:=ltT_iff.mp e
  rcases ku (code a) (code b) with q|q|q
  · exact absurd (eZ l q) n2
  · rw [q] at l
    exact absurd l n2
  · exact absurd q n1
theorem wg {a b:Tr} (h1:ltT a b=false) (h2:ltT b a=false):eqT a b=true:=by
 rw [eO]
 rcases ku (code a) (code b) with q|q|q
 · rw [ltT_iff.mpr q] at h1
   cases h1
 · exact q
 · rw [ltT_iff.mpr q] at h2
   cases h2
open PySem PySem.Spec PyProof.Rows L2
mutual
def Cm:Tr→Tr→Prop
 | .bl _, .bl _=>True
 | .int _, .int _=>True
 | .str _, .str _=>True
 | .tup ts, .tup us=>Cms ts us
 |_,_=>False
def Cms:List Tr→List Tr→Prop
 |t::ts,u::us=>(eqT t u=true∧Cms ts us)∨(eqT t u=false∧Cm t u)
 | [],_=>True
 |_::_,[]=>True
end
noncomputable def qs:List Tr→List Tr→List (Bool×Bool)
 |t::ts,u::us=>(eqT t u,ltT t u)::qs ts us
 | [],_=> []
 |_::_,[]=> []
theorem ky:∀(ts us:List Tr),(lexV (decide (ts.length < us.length)) (qs ts us)=true)↔LtCs (codes ts) (codes us)
 | [],[]=>by simp [qs,lexV,codes,LtCs]
 | [],u::us=>by simp [qs,lexV,codes,LtCs]
 |t::ts,[]=>by simp [qs,lexV,codes,LtCs]
 |t::ts,u::us=>by
  have ih:=ky ts us
  have e:decide ((t::ts).length < (u::us).length)=decide (ts.length < us.length):=by simp
  rw [e]
  simp only [qs,lexV,codes,LtCs]
  by_cases h:eqT t u=true
  · rw [if_pos h,ih]
    have hc:=(eO t u).mp h
    rw [hc]
    constructor
    · intro z
      exact .inr ⟨rfl,z⟩
    · rintro (z|⟨_,z⟩)
      · exact absurd z (kx _)
      · exact z
  · rw [if_neg h]
    have hc:¬code t=code u:=fun z=>h ((eO t u).mpr z)
    constructor
    · intro z
      exact .inl (ltT_iff.mp z)
    · rintro (z|⟨z,_⟩)
      · exact ltT_iff.mpr z
      · exact absurd z hc
theorem cG {a b:Bool} (h:(a=true)↔(b=true)):a=b:=Bool.eq_iff_iff.mpr h
section
variable {X:Cx} {pins:List (Addr×Obj)} {σ:L2.St} {H:Hp} {s:Shared}
theorem nK (I:Inv X pins σ H s) {n:Nat} {A:Around} (hu:A.units+n+1 < cLine)
 (ih:∀ {t u:Tr} {v w:V} {a b:Value},t.depth≤n→(t.pure∨u.pure)→Cm t u→TrAt H v t→TrAt H w u→RelV v a→RelV w b→LtAt A s a b (ltT t u)):
 ∀ {ts us:List Tr} {vs ws:List V} {as bs:List Value},Trs.depth ts≤n→(Trs.pure ts∨Trs.pure us)→Cms ts us→TrsAt H vs ts→TrsAt H ws us→Vals vs as→Vals ws bs→dm A s as bs (qs ts us)
 | [],us,vs,ws,as,bs,hd,hp,hc,h1,h2,r1,r2=>by
  unfold TrsAt at h1
  subst h1
  cases r1
  cases us<;>simp [dm,qs]
 |t::ts,[],vs,ws,as,bs,hd,hp,hc,h1,h2,r1,r2=>by
  unfold TrsAt at h2
  subst h2
  cases r2
  obtain ⟨v,r,rfl,_,_⟩:=h1.inv
  cases r1
  simp [dm,qs]
 |t::ts,u::us,vs,ws,as,bs,hd,hp,hc,h1,h2,r1,r2=>by
  obtain ⟨v,r,rfl,g1,g2⟩:=h1.inv
  obtain ⟨v',r',rfl,g3,g4⟩:=h2.inv
  unfold Trs.depth at hd
  have hp1:t.pure∨u.pure:=by
   rcases hp with hp|hp<;>unfold Trs.pure at hp
   · exact .inl hp.1
   · exact .inr hp.1
  have hp2:Trs.pure ts∨Trs.pure us:=by
   rcases hp with hp|hp<;>unfold Trs.pure at hp
   · exact .inl hp.2
   · exact .inr hp.2
  cases r1 with
  |cons q1 q2=>
   cases r2 with
   |cons q3 q4=>
    simp only [dm,qs]
    refine ⟨jY I n (by omega) hp1 g1 g3 q1 q3 hu,fun e=> ?_,fun e=> ?_⟩
    · unfold Cms at hc
      rcases hc with ⟨e',_⟩|⟨_,hc⟩
      · rw [e] at e'
        cases e'
      · exact ih (by omega) hp1 hc g1 g3 q1 q3
    · unfold Cms at hc
      rcases hc with ⟨_,hc⟩|⟨e',_⟩
      · exact nK I hu ih (by omega) hp2 hc g2 g4 q2 q4
      · rw [e] at e'
        cases e'
theorem ow {A:Around} {t u:Tr} {v w:V} {a b:Value} (hd:∀ts,t≠ .tup ts) (hc:Cm t u) (h1:TrAt H v t) (h2:TrAt H w u) (r1:RelV v a) (r2:RelV w b):LtAt A s a b (ltT t u):=by
 cases t<;>cases u<;>unfold Cm at hc<;>first|exact hc.elim|skip
 · rename_i x y
   unfold TrAt at h1 h2
   subst h1 h2
   cases (show a=Value.bool x from r1)
   cases (show b=Value.bool y from r2)
   intro prog w' E Q h
   refine lt_bool ?_
   have e:decide (b2i x < b2i y)=ltT (.bl x) (.bl y):=by
    refine cG ?_
    rw [ltT_iff,decide_eq_true_iff]
    cases x<;>cases y<;>simp [code,LtC,b2i]
   rw [e]
   exact h
 · rename_i x y
   unfold TrAt at h1 h2
   subst h1 h2
   obtain ⟨t1,rfl⟩:=r1
   obtain ⟨t2,rfl⟩:=r2
   intro prog w' E Q h
   refine lt_int ?_
   have e:decide (x < y)=ltT (.int x) (.int y):=by
    refine cG ?_
    rw [ltT_iff,decide_eq_true_iff]
    simp [code,LtC]
   rw [e]
   exact h
 · rename_i x y
   unfold TrAt at h1 h2
   subst h1 h2
   obtain ⟨t1,rfl⟩:=r1
   obtain ⟨t2,rfl⟩:=r2
   intro prog w' E Q h
   refine lt_str ?_
   have e:decide (x.cps.toList < y.cps.toList)=ltT (.str x) (.str y):=by
    refine cG ?_
    rw [ltT_iff,decide_eq_true_iff]
    simp [code,LtC]
   rw [e]
   exact h
 · exact (hd _ rfl).elim
theorem o6 (I:Inv X pins σ H s):∀(n:Nat) {A:Around} {t u:Tr} {v w:V} {a b:Value},t.depth≤n→(t.pure∨u.pure)→Cm t u→TrAt H v t→TrAt H w u→RelV v a→RelV w b→A.units+n+1 < cLine→LtAt A s a b (ltT t u):=by
 intro n
 induction n with
 |zero=>
  intro A t u v w a b hd hp hc h1 h2 r1 r2 hu
  refine ow (fun ts e=> ?_) hc h1 h2 r1 r2
  subst e
  simp [Tr.depth] at hd
 |succ n ih=>
  intro A t u v w a b hd hp hc h1 h2 r1 r2 hu
  cases t with
  |tup ts=>
   cases u<;>first|(unfold Cm at hc;exact hc.elim)|skip
   rename_i us
   unfold Cm at hc
   unfold TrAt at h1 h2
   obtain ⟨r0,vs0,rfl,g0,k0⟩:=h1
   obtain ⟨r,vs,rfl,g1,k1⟩:=h2
   cases r1
   cases r2
   obtain ⟨as,q0,p0,_⟩:=I.tuple (SqT.of g0)
   obtain ⟨bs,q1,p1,_⟩:=I.tuple (SqT.of g1)
   unfold Tr.depth at hd
   have hp':Trs.pure ts∨Trs.pure us:=by
    rcases hp with hp|hp<;>unfold Tr.pure at hp
    · exact .inl hp
    · exact .inr hp
   have hu1:A.in1.units+n+1 < cLine:=by show A.units+1+n+1 < cLine;omega
   have hx:=nK (A:=A.in1) I hu1 (fun d pp cc a1 a2 b1 b2=>ih d pp cc a1 a2 b1 b2 hu1) (by omega) hp' hc k0 k1 q0 q1
   have:=mz (A:=A) (show s.heap.IsTuple r0 as.toArray from p0) (show s.heap.IsTuple r bs.toArray from p1) (by omega) (by simpa using hx)
   have e:lexV (decide (as.toArray.size < bs.toArray.size)) (qs ts us)=ltT (.tup ts) (.tup us):=by
    have l0:=k0.len
    have l1:=k1.len
    have l2:=q0.length
    have l3:=q1.length
    have e2:decide (as.toArray.size < bs.toArray.size)=decide (ts.length < us.length):=by
     rw [List.size_toArray,List.size_toArray,←l2,←l3,l0,l1]
    rw [e2]
    refine cG ?_
    rw [ky,ltT_iff]
    simp [code,LtC]
   rw [←e]
   exact this
  |_=>exact ow (fun ts e=>by cases e) hc h1 h2 r1 r2
end
end Tre
namespace Srt
open PySem PySem.W PySem.Calls PyProof.Rows
theorem i4 {α:Type} (d:α):∀(vs:List α),(List.range vs.length).map (fun i=>vs.getD i d)=vs
 | []=>rfl
 |v::vs=>by
  rw [List.length_cons,List.range_succ_eq_map,List.map_cons,List.map_map]
  have:=i4 d vs
  simp only [Function.comp_def]
  show v::List.map (fun i=>vs.getD i d) (List.range vs.length)=v::vs
  rw [this]
theorem nY {α:Type}:∀(vs:List α),List.map (fun x=>x.snd) (vs.zip vs)=vs
 | []=>rfl
 |v::vs=>by
  rw [List.zip_cons_cons,List.map_cons,nY vs]
section
variable {prog:Program} {w:World} {A:Around} {E:Value→Shared→Prop} {s:Shared} {lt:Nat→Nat→Bool} {κ:SortKind}
def Stay (s:Shared) (a:Addr) (h':Heap):Prop:=∀b o,b≠a→s.heap.get? b=some o→h'.get? b=some o
theorem jh {a:Addr} {vs:List Value} {n:Nat} {P:PySem.Fin→Shared→Prop} (O:Ord lt) (ho:s.heap.get? a=some (seqObj "list" vs.toArray n)) (h64:vs.length < 64)
 (hkind:2≤vs.length→∀h',Stay s a h'→∀R:SortKind→Shared→Prop,R κ {s with heap:=h'}→wpAny (model prog w) A (keyKind' vs.toArray) R E {s with heap:=h'})
 (hask:∀h',Stay s a h'→∀i j (R:Bool→Shared→Prop),i < vs.length→j < vs.length→R (lt i j) {s with heap:=h'}→kas_ask prog w A κ vs i j R {s with heap:=h'})
 (h:∀p:Array Nat,Pm vs.length p→Up lt p vs.length→P (.done (.ret .none)) {s with heap:=sortedHeap s.heap a vs (List.toArray (p.toList.map fun i=>vs.getD i Value.none))}):
 wpAny (model prog w) A (Builtin.«list.sort» ⟨[.ref a],[]⟩) P E s:=by
 have ha:a < s.heap.objs.size:=Heap.lt_size ho
 rw [list_sort_plain]
 refine wpAny_bind (listItems_at ho rfl ?_)
 refine wpAny_bind (listUpdate_at ho rfl ?_ (by rw [List.size_toArray,sizeLine_eq];omega) (Nat.zero_le _))
 obtain ⟨e1,ho1⟩:∃e1,(s.heap.update a (Obj.mapSeq fun _=>(#[]:Array Value))).get? a=some (seqObj "list" #[] e1):=⟨_,get?_update_seq ho fun _=> #[]⟩
 refine wpAny_bind (seqEpoch_at ho1 rfl ?_)
 refine wpAny_bind (wpAny_newTuple ?_ (by show vs.length≤_;rw [sizeLine_eq];omega))
 refine wpAny_bind (wpAny_newList ?_ (Nat.zero_le _))
 refine wpAny_holding ?_
 have s1:=Heap.SameBut.update s.heap a (Obj.mapSeq fun _=>(#[]:Array Value))
 have st:Stay s a (((s.heap.update a (Obj.mapSeq fun _=>(#[]:Array Value))).push (seqObj "tuple" vs.toArray 0)).push (seqObj "list" #[] 0)):=fun b o hb e=>
  Heap.get?_push_of_some _ (Heap.get?_push_of_some _ ((s1.2 b hb).trans e))
 have ho6:(((s.heap.update a (Obj.mapSeq fun _=>(#[]:Array Value))).push (seqObj "tuple" vs.toArray 0)).push (seqObj "list" #[] 0)).get? a=some (seqObj "list" #[] e1):=Heap.get?_push_of_some _ (Heap.get?_push_of_some _ ho1)
 show wpAny (model prog w) A _ P E {s with heap:=((s.heap.update a (Obj.mapSeq fun _=>(#[]:Array Value))).push (seqObj "tuple" vs.toArray 0)).push (seqObj "list" #[] 0)}
 dsimp only
 have out:∀p:Array Nat,Pm vs.length p→(List.toArray (p.toList.map fun i=>vs.getD i Value.none)).size≤sizeLine:=fun p hp=>by
  rw [List.size_toArray,List.length_map,Array.length_toList,hp.size,sizeLine_eq]
  omega
 by_cases h2:vs.toArray.size < 2
 · rw [if_pos h2,if_pos h2]
   refine wpAny_bind (wpAny_pure ?_)
   rw [StateT.run_pure]
   refine wpAny_bind (wpAny_pure ?_)
   dsimp only
   refine wpAny_bind (seqEpoch_at ho6 rfl ?_)
   have h0:Pm vs.length (List.toArray (List.range vs.length)):=by
    unfold Pm
    simp
   have eo:(arrOf (SortSt.mk' general' (vs.toArray.zip vs.toArray) #[] 7 none)).map (·.2)=List.toArray ((List.toArray (List.range vs.length)).toList.map fun i=>vs.getD i Value.none):=by
    rw [List.toList_toArray,i4]
    show (vs.toArray.zip vs.toArray).map (·.2)=vs.toArray
    apply Array.toList_inj.mp
    simp
    exact nY vs
   rw [eo]
   refine wpAny_bind (listUpdate_at ho6 rfl ?_ (Nat.zero_le _) (Nat.le_succ_of_le (out _ h0)))
   simp only [bne_self_eq_false,Bool.false_eq_true,if_false]
   refine wpAny_pure (h _ h0 fun i j hij hj=> ?_)
   have hv:vs.length < 2:=by simpa using h2
   have:i=j:=by omega
   subst this
   exact O.refl _
 · rw [if_neg h2,if_neg h2]
   have h2':2≤vs.length:=by
    rw [List.size_toArray] at h2
    omega
   refine wpAny_bind (hkind h2' _ st _ ?_)
   have run:(kas_sort vs.length).kasWp (kas_ask prog w A κ vs) (fun p s'=>(Pm vs.length p∧Up lt p vs.length)∧s'= {s with heap:=((s.heap.update a (Obj.mapSeq fun _=>(#[]:Array Value))).push (seqObj "tuple" vs.toArray 0)).push (seqObj "list" #[] 0)})
    {s with heap:=((s.heap.update a (Obj.mapSeq fun _=>(#[]:Array Value))).push (seqObj "tuple" vs.toArray 0)).push (seqObj "list" #[] 0)}:=
    qk (lt:=lt) (N:=vs.length) (G:=fun s'=>s'= {s with heap:=((s.heap.update a (Obj.mapSeq fun _=>(#[]:Array Value))).push (seqObj "tuple" vs.toArray 0)).push (seqObj "list" #[] 0)})
     (fun i j R s' hi hj hg hR=>by subst hg;exact hask _ st i j R hi hj (hR _ rfl)) (fun p s' hp hg=>⟨hp,hg⟩) (vC O (by omega)) rfl
   refine wpAny_bind (wpAny_mono (kat_run (ks:=vs) (Q:=fun st' s'=>∃p:Array Nat,(Pm vs.length p∧Up lt p vs.length)∧arrOf st'=p.map (kas_item (vs.toArray.zip vs.toArray))∧failedOf st'=none∧s'= {s with heap:=((s.heap.update a (Obj.mapSeq fun _=>(#[]:Array Value))).push (seqObj "tuple" vs.toArray 0)).push (seqObj "list" #[] 0)})
    rfl h2' h64 (fun p st' s' a1 a2 a3 a4=>⟨p,a4.1,a2,a3,a4.2⟩) run) ?_ fun _ _ e=>e)
   rintro ⟨⟨⟩,st'⟩ s' ⟨p,hp,har,hf,rfl⟩
   dsimp only
   refine wpAny_bind (seqEpoch_at ho6 rfl ?_)
   rw [kat_snds rfl har]
   refine wpAny_bind (listUpdate_at ho6 rfl ?_ (Nat.zero_le _) (Nat.le_succ_of_le (out p hp.1)))
   rw [hf]
   simp only [bne_self_eq_false,Bool.false_eq_true,if_false]
   exact wpAny_pure (h p hp.1 hp.2)
theorem n9 {l:Addr} {vs:List Value} {Q:Value→Shared→Prop} (O:Ord lt) (hl:s.heap.IsList l vs.toArray) (h64:vs.length < 64)
 (hkind:2≤vs.length→∀h',(∀b o,s.heap.get? b=some o→h'.get? b=some o)→∀(E':Value→Shared→Prop) (R:SortKind→Shared→Prop),R κ {s with heap:=h'}→wpAny (model prog w) A.in1.in1 (keyKind' vs.toArray) R E' {s with heap:=h'})
 (hask:∀h',(∀b o,s.heap.get? b=some o→h'.get? b=some o)→∀i j (R:Bool→Shared→Prop),i < vs.length→j < vs.length→R (lt i j) {s with heap:=h'}→kas_ask prog w A.in1.in1 κ vs i j R {s with heap:=h'})
 (h:∀p:Array Nat,Pm vs.length p→Up lt p vs.length→Q (.ref (s.heap.objs.size+1)) {s with heap:=sortedAll s.heap vs (List.toArray (p.toList.map fun i=>vs.getD i Value.none))}):
 wpAny (model prog w) A (call (.builtin "sorted") [.ref l]) Q E s:=by
 refine Calls.call_function_entry kind_sorted plain_sorted entry_sorted (args_sorted1 _) ?_
 unfold Builtin.«sorted»
 refine wpAny_bind (m:=checkCount "sorted" 1 1 _) (wpAny_pure ?_)
 refine wpAny_bind (collect_list hl ?_ (by rw [sizeLine_eq];omega))
 refine wpAny_bind (wpAny_newList ?_ (by rw [sizeLine_eq];omega))
 have hsz:((s.heap.push (seqObj "list" #[] 0)).update s.heap.objs.size (Obj.mapSeq (· ++vs.toArray))).objs.size=s.heap.objs.size+1:=by
  rw [Heap.size_update,size_push']
 have hoL:(((s.heap.push (seqObj "list" #[] 0)).update s.heap.objs.size (Obj.mapSeq (· ++vs.toArray))).push (seqObj "list" vs.toArray 0)).get? (s.heap.objs.size+1)=some (seqObj "list" vs.toArray 0):=by
  rw [←hsz];exact Heap.get?_push_size _ rfl
 have keep:∀b o,s.heap.get? b=some o→(((s.heap.push (seqObj "list" #[] 0)).update s.heap.objs.size (Obj.mapSeq (· ++vs.toArray))).push (seqObj "list" vs.toArray 0)).get? b=some o∧b≠s.heap.objs.size+1:=fun b o q=>by
  have hlt:b < s.heap.objs.size:=Heap.lt_size q
  refine ⟨?_,Nat.ne_of_lt (Nat.lt_succ_of_lt hlt)⟩
  rw [Heap.get?_push_ne _ _ _ (by rw [hsz];exact Nat.ne_of_lt (Nat.lt_succ_of_lt hlt)),Heap.get?_update_ne _ _ _ _ (Nat.ne_of_lt hlt),Heap.get?_push_ne _ _ _ (Nat.ne_of_lt hlt)]
  exact q
 show wpAny _ _ _ _ _ {s with heap:=((s.heap.push (seqObj "list" #[] 0)).update s.heap.objs.size (Obj.mapSeq (· ++vs.toArray))).push (seqObj "list" vs.toArray 0)}
 rw [hsz]
 refine wpAny_bind (wpAny_holding (wpAny_call_entry slot_list_sort ⟨_,hoL,rfl⟩ entry_list_sort (jh (lt:=lt) (κ:=κ) O hoL h64 (fun h2 h' st R hR=>hkind h2 h' (fun b o e=>st b o (keep b o e).2 (keep b o e).1) _ R hR)
  (fun h' st i j R hi hj hR=>hask h' (fun b o e=>st b o (keep b o e).2 (keep b o e).1) i j R hi hj hR) fun p a1 a2=>⟨_,rfl,?_⟩) (args_list_sort _)))
 exact wpAny_pure ⟨_,rfl,h p a1 a2⟩
end
end Srt
namespace Tre
open PySem PySem.Spec PyProof.Rows L2 Srt
theorem jJ {prog:Program} {w:World} {A:Around} {s:Shared} {fin:Bool} {Q:Bool→Shared→Prop}:∀ {as bs:List Value} {q:List (Bool×Bool)} {i:Nat},dm A s as bs q→Q (lexV fin q) s→PySem.W.KatLex prog w A false fin Q (as.zip bs) i s
 | [],_,q,i,h,hq=>by
  unfold dm at h
  subst h
  rw [List.zip_nil_left]
  exact PySem.W.kat_nil hq
 |_::_,[],q,i,h,hq=>by
  unfold dm at h
  subst h
  rw [List.zip_nil_right]
  exact PySem.W.kat_nil hq
 |a::as,b::bs,[],i,h,hq=>h.elim
 |a::as,b::bs,(e,l)::q,i,h,hq=>by
  obtain ⟨h1,h2,h3⟩:=h
  rw [List.zip_cons_cons]
  refine PySem.W.kat_cons (h1 prog w _ _ ?_)
  cases e with
  |true=>exact PySem.W.kat_yes (jJ (h3 rfl) hq)
  |false=>
   refine PySem.W.kat_no ?_
   show wpAny _ _ (oneLt' false a b) _ _ _
   exact PySem.W.kat_one a b (h2 rfl prog w _ _ hq)
def Hd (t:Tr):Prop:=∃fs r,t= .tup (.tup fs::r)
theorem TrsAt.map {H:Hp} {vs:List V} {ts:List Tr} (h:TrsAt H vs ts):∀ {is:List Nat},(∀i∈is,i < ts.length)→TrsAt H (is.map fun i=>vs.getD i .non) (is.map fun i=>ts.getD i .non)
 | [],_=> .nil
 |i::is,hi=>by
  have h0:i < ts.length:=hi i List.mem_cons_self
  have hl:=h.len
  obtain ⟨v,e1,e2⟩:=h.get (i:=i) (t:=ts[i]) (List.getElem?_eq_getElem h0)
  have ev:vs.getD i .non=v:=by rw [List.getD_eq_getElem?_getD,e1];rfl
  have et:ts.getD i .non=ts[i]:=by rw [List.getD_eq_getElem?_getD,List.getElem?_eq_getElem h0];rfl
  rw [List.map_cons,List.map_cons,ev,et]
  exact .cons e2 (TrsAt.map h fun j m=>hi j (List.mem_cons_of_mem _ m))
theorem Vals.map {vs:List V} {as:List Value} (h:Vals vs as):∀ {is:List Nat},(∀i∈is,i < vs.length)→Vals (is.map fun i=>vs.getD i .non) (is.map fun i=>as.getD i Value.none)
 | [],_=> .nil
 |i::is,hi=>by
  have h0:i < vs.length:=hi i List.mem_cons_self
  obtain ⟨u,e1,e2⟩:=h.get (i:=i) (x:=vs[i]) (List.getElem?_eq_getElem h0)
  have ev:vs.getD i .non=vs[i]:=by rw [List.getD_eq_getElem?_getD,List.getElem?_eq_getElem h0];rfl
  have et:as.getD i Value.none=u:=by rw [List.getD_eq_getElem?_getD,e1];rfl
  rw [List.map_cons,List.map_cons,ev,et]
  exact .cons e2 (Vals.map h fun j m=>hi j (List.mem_cons_of_mem _ m))
section
variable {X:Cx} {pins:List (Addr×Obj)} {σ:L2.St} {H:Hp} {s:Shared}
theorem ir (I:Inv X pins σ H s) {r:Addr} {vs:List V} (h:H r=some (.tup vs)):∃(as:List Value) (o:Obj) (n:Nat),Vals vs as∧s.heap.get? r=some o∧o.cls= .type "tuple"∧o.data= .seq as.toArray n:=by
 obtain ⟨as,q,p,_⟩:=I.tuple (SqT.of h)
 obtain ⟨o,ho,hc,n,hd⟩:=(show s.heap.IsTuple r as.toArray from p)
 exact ⟨as,o,n,q,ho,hc,hd⟩
theorem j5 (I:Inv X pins σ H s):∀ {vs:List V} {ts:List Tr} {as:List Value},TrsAt H vs ts→Vals vs as→(∀t∈ts,Hd t)→∃fs,PySem.W.KatTups s.heap as fs∧fs.length=as.length∧∀v∈fs,∃(r:Addr) (o:Obj),v= .ref r∧s.heap.get? r=some o∧o.cls= .type "tuple"
 |vs,[],as,h,r,_=>by
  unfold TrsAt at h
  subst h
  cases r
  exact ⟨[],PySem.W.KatTups.nil,rfl,fun v m=>by cases m⟩
 |vs,t::ts,as,h,r,hh=>by
  obtain ⟨v,vr,rfl,h1,h2⟩:=h.inv
  cases r with
  |cons q1 q2=>
   obtain ⟨fs,k1,k2,k3⟩:=j5 I h2 q2 fun t m=>hh t (List.mem_cons_of_mem _ m)
   obtain ⟨gs,gr,rfl⟩:=hh t List.mem_cons_self
   unfold TrAt at h1
   obtain ⟨r0,vs0,rfl,g0,g1⟩:=h1
   cases q1
   obtain ⟨f,fr,rfl,h3,h4⟩:=g1.inv
   obtain ⟨as0,o,n,q3,ho,hc,hd⟩:=ir I g0
   cases q3 with
   |cons q5 q6=>
    unfold TrAt at h3
    obtain ⟨r1,vs1,rfl,g2,_⟩:=h3
    cases q5
    obtain ⟨_,o1,_,_,ho1,hc1,_⟩:=ir I g2
    refine ⟨.ref r1::fs,PySem.W.KatTups.cons ho hc hd (by simp) k1,by simp [k2],fun v m=> ?_⟩
    rcases List.mem_cons.mp m with rfl|m
    · exact ⟨r1,o1,rfl,ho1,hc1⟩
    · exact k3 v m
def u8:List V→Hp→VK→Prop:=fun xs H Q=>∃(l:Addr) (vs:List V) (ts:List Tr),xs= [.ref l]∧H l=some (.lst vs)∧TrsAt H vs ts∧ts.length < 64∧(∀t∈ts,Hd t∧t.pure∧t.depth≤40)∧(∀t∈ts,∀u∈ts,Cm t u)∧
 ∀(D:Addr) (ws:List V) (us:List Tr),H D=none→us.Perm ts→TrsAt H ws us→(∀(i j:Nat) (t u:Tr),i≤j→us[i]?=some t→us[j]?=some u→ltT u t=false)→Q (.ref D) (upd H D (.lst ws))
theorem mr (hu:X.A.units+60 < cLine):CallR X (.builtin "sorted") u8:=by
 intro pins s σ H xs us Q I r h
 obtain ⟨l,vs,ts,rfl,hl,hT,hlen,hts,hcm,q⟩:=h
 obtain ⟨u,rfl,ru⟩:=iB r
 cases ru
 obtain ⟨as,rv,pl,_⟩:=I.list (SqL.of hl)
 have l1:=hT.len
 have l2:=rv.length
 have O:Srt.Ord fun i j=>ltT (ts.getD i .non) (ts.getD j .non):=⟨fun a b h=>j4 h,fun a b c h1 h2=>wf h1 h2⟩
 have at_:∀i,i < as.length→∃t v a,ts.getD i .non=t∧t∈ts∧TrAt H v t∧RelV v a∧as.getD i Value.none=a:=fun i hi=>by
  have hi':i < ts.length:=by omega
  obtain ⟨v,e1,e2⟩:=hT.get (i:=i) (t:=ts[i]) (List.getElem?_eq_getElem hi')
  obtain ⟨a,e3,e4⟩:=rv.get e1
  exact ⟨ts[i],v,a,by rw [List.getD_eq_getElem?_getD,List.getElem?_eq_getElem hi'];rfl,List.getElem_mem hi',e2,e4,by rw [List.getD_eq_getElem?_getD,e3];rfl⟩
 refine n9 (κ:=tuples' false) O pl.isList (by omega) (fun h2 h' kp E' R hR=> ?_) (fun h' kp i j R hi hj hR=> ?_) fun p hp hup=> ?_
 · have I':Inv X pins σ H {s with heap:=h'}:=I.kept (t':=s.toks) kp
   obtain ⟨fs,k1,k2,k3⟩:=j5 I' hT rv fun t m=>(hts t m).1
   refine PySem.W.kat_kind (T:=Value.type "tuple") k1 (by omega) (fun v m=> ?_) (by decide +kernel) ?_
   · obtain ⟨r,o,rfl,ho,hc⟩:=k3 v m
     have:PySem.W.Looks (model X.prog X.w) h' (typeOf (.ref r)) o.cls:=(PySem.W.Looks.ld ho).andThen .now
     rw [hc] at this
     exact this
   · rw [show (Value.type "tuple" !=Value.type "tuple")=false by decide +kernel]
     exact hR
 · have I':Inv X pins σ H {s with heap:=h'}:=I.kept (t':=s.toks) kp
   obtain ⟨t,v,a,et,mt,ht,ra,ea⟩:=at_ i hi
   obtain ⟨u,v',b,eu,mu,hu',rb,eb⟩:=at_ j hj
   have hc:=hcm t mt u mu
   obtain ⟨⟨f1,r1,rfl⟩,p1,d1⟩:=hts t mt
   obtain ⟨⟨f2,r2,rfl⟩,p2,d2⟩:=hts u mu
   unfold TrAt at ht hu'
   obtain ⟨x0,vs0,rfl,g0,g1⟩:=ht
   obtain ⟨y0,ws0,rfl,g2,g3⟩:=hu'
   cases ra
   cases rb
   obtain ⟨as0,o,n,q3,ho,hcl,hd⟩:=ir I' g0
   obtain ⟨bs0,o',n',q4,ho',hcl',hd'⟩:=ir I' g2
   unfold Tr.depth at d1
   unfold Tr.pure at p1
   unfold Cm at hc
   have hu1:X.A.in1.in1.units+40+1 < cLine:=by show X.A.units+1+1+40+1 < cLine;omega
   have hx:=nK (A:=X.A.in1.in1) I' hu1 (fun d pp cc a1 a2 b1 b2=>o6 I' 40 d pp cc a1 a2 b1 b2 hu1) (by omega) (.inl p1) hc g1 g3 q3 q4
   unfold PySem.W.kas_ask
   rw [ea,eb]
   refine PySem.W.kat_lt (b:=false) ho hd ho' hd' ?_
   rw [List.toList_toArray,List.toList_toArray]
   refine jJ hx ?_
   have e:lexV (decide (as0.toArray.size < bs0.toArray.size)) (qs (.tup f1::r1) (.tup f2::r2))=ltT (ts.getD i .non) (ts.getD j .non):=by
    have z0:=g1.len
    have z1:=g3.len
    have z2:=q3.length
    have z3:=q4.length
    have e2:decide (as0.toArray.size < bs0.toArray.size)=decide ((Tr.tup f1::r1).length < (Tr.tup f2::r2).length):=by
     rw [List.size_toArray,List.size_toArray,←z2,←z3,z0,z1]
    rw [e2,et,eu]
    refine cG ?_
    rw [ky,ltT_iff]
    simp [code,LtC]
   rw [e]
   exact hR
 · have hin:∀i∈p.toList,i < ts.length:=fun i m=>by
    have:=List.mem_range.mp (List.Perm.mem_iff hp |>.mp m)
    omega
   refine ⟨.ref (s.heap.objs.size+1),upd H (s.heap.objs.size+1) (.lst (p.toList.map fun i=>vs.getD i .non)),I.laid (t':=s.toks) (fun b o e=>sortedAll_old e) (Nat.le_succ _) ?_,rfl,?_⟩
   · obtain ⟨e,he⟩:=sortedAll_at s.heap as (List.toArray (p.toList.map fun i=>as.getD i Value.none))
     refine ⟨?_,p.toList.map fun i=>as.getD i Value.none,e,Vals.map rv fun i m=>by have:=hin i m;omega,he⟩
     rw [List.length_map,Array.length_toList,hp.size]
     have:(64:Nat)≤sizeLine:=by decide +kernel
     omega
   · refine q _ _ (p.toList.map fun i=>ts.getD i .non) (I.hok.fresh (Nat.le_succ _)) ?_ (TrsAt.map hT hin) fun i j t u hij e1 e2=> ?_
     · have:=List.Perm.map (fun i=>ts.getD i Tr.non) hp
       rw [show as.length=ts.length by omega,i4] at this
       exact this
     · rw [List.getElem?_map] at e1 e2
       obtain ⟨a,ea,rfl⟩:=Option.map_eq_some_iff.mp e1
       obtain ⟨b,eb,rfl⟩:=Option.map_eq_some_iff.mp e2
       have hj:j < as.length:=by
        have:=(List.getElem?_eq_some_iff.mp eb).1
        rw [Array.length_toList,hp.size] at this
        exact this
       have:=hup i j hij hj
       rw [eM,eM,←Array.getElem?_toList,←Array.getElem?_toList,ea,eb] at this
       exact this
end
open PySem L2
inductive So where
 |tm|fr|pr|ws|lt
abbrev s_ (x:String):Tr:= .str (Str.ofString x)
inductive Ty:So→Tr→Prop
 |nm (x:Str):Ty .tm (.tup [s_ "name", .str x])
 |ap (x:Str) (ts:List Tr):ts.length≤3→(∀t∈ts,Ty .tm t)→Ty .tm (.tup [s_ "call", .str x, .tup ts])
 |fr (a b:Int):Ty .fr (.tup [.int a, .int b])
 |pr (t f:Tr):Ty .tm t→Ty .fr f→Ty .pr (.tup [t,f])
 |fl (x:Str):Ty .ws (.tup [s_ "flag", .str x])
 |mo (ps:List Tr) (f:Tr):(∀p∈ps,Ty .pr p)→Ty .fr f→Ty .ws (.tup [s_ "most", .tup ps,f])
 |li (t u:Tr):Ty .tm t→Ty .tm u→Ty .ws (.tup [s_ "like",t,u])
 |no (w:Tr):Ty .ws w→Ty .ws (.tup [s_ "not",w])
 |bo (l:List Tr):(∀w∈l,Ty .ws w)→Ty .ws (.tup [s_ "both", .tup l])
 |ei (l:List Tr):(∀w∈l,Ty .ws w)→Ty .ws (.tup [s_ "either", .tup l])
 |lt (w:Tr) (b:Bool):Ty .ws w→Ty .lt (.tup [w, .bl b])
theorem aP {t u:Tr} {ts us:List Tr} (h1:eqT t u=false→Cm t u) (h2:Cms ts us):Cms (t::ts) (u::us):=by
 unfold Cms
 cases e:eqT t u with
 |true=>exact .inl ⟨rfl,h2⟩
 |false=>exact .inr ⟨rfl,h1 e⟩
theorem wx {t u:Tr} {ts us:List Tr} (h0:eqT t u=false) (h1:Cm t u):Cms (t::ts) (u::us):=by
 unfold Cms
 exact .inr ⟨h0,h1⟩
theorem cj {us:List Tr}:Cms [] us:=by
 cases us<;>simp [Cms]
theorem cJ (x y:Str):Cm (.str x) (.str y):=by simp [Cm]
theorem tw (x y:Int):Cm (.int x) (.int y):=by simp [Cm]
theorem xR (x y:Bool):Cm (.bl x) (.bl y):=by simp [Cm]
theorem jb {ts us:List Tr} (h:Cms ts us):Cm (.tup ts) (.tup us):=by
 unfold Cm
 exact h
theorem iz {ts us:List Tr} (h:∀t∈ts,∀u∈us,Cm t u):Cms ts us:=by
 induction ts generalizing us with
 |nil=>exact cj
 |cons t ts ih=>
  cases us with
  |nil=>simp [Cms]
  |cons u us=>exact aP (fun _=>h t List.mem_cons_self u List.mem_cons_self) (ih fun a ma b mb=>h a (List.mem_cons_of_mem _ ma) b (List.mem_cons_of_mem _ mb))
theorem uX:∀(n:Nat) {k:So} {t u:Tr},t.depth≤n→Ty k t→Ty k u→Cm t u:=by
 intro n
 induction n with
 |zero=>
  intro k t u hd h1 h2
  cases h1<;>simp [Tr.depth] at hd
 |succ n ih=>
  intro k t u hd h1 h2
  have sub:∀ {ts:List Tr} {t:Tr},(Tr.tup ts).depth≤n+1→t∈ts→t.depth≤n:=fun h m=>by
   unfold Tr.depth at h
   have:=cn m
   omega
  have sub2:∀ {ts l:List Tr} {t:Tr},(Tr.tup ts).depth≤n+1→Tr.tup l∈ts→t∈l→t.depth≤n:=fun h m m2=>by
   have h3:=sub h m
   unfold Tr.depth at h3
   have:=cn m2
   omega
  cases h1<;>cases h2<;>refine jb ?_
  all_goals first
   |exact wx (by decide +kernel) (cJ _ _)
   |skip
  · exact aP (fun _=>cJ _ _) (aP (fun _=>cJ _ _) cj)
  · rename_i x ts _ h1 y us _ h2
    exact aP (fun _=>cJ _ _) (aP (fun _=>cJ _ _) (aP (fun _=>jb (iz fun a ma b mb=>ih (sub2 hd (by simp) ma) (h1 a ma) (h2 b mb))) cj))
  · exact aP (fun _=>tw _ _) (aP (fun _=>tw _ _) cj)
  · rename_i t1 f1 a1 b1 t2 f2 a2 b2
    exact aP (fun _=>ih (sub hd (by simp)) a1 a2) (aP (fun _=>ih (sub hd (by simp)) b1 b2) cj)
  · exact aP (fun _=>cJ _ _) (aP (fun _=>cJ _ _) cj)
  · rename_i p1 f1 a1 b1 p2 f2 a2 b2
    exact aP (fun _=>cJ _ _) (aP (fun _=>jb (iz fun a ma b mb=>ih (sub2 hd (by simp) ma) (a1 a ma) (a2 b mb))) (aP (fun _=>ih (sub hd (by simp)) b1 b2) cj))
  · rename_i t1 u1 a1 b1 t2 u2 a2 b2
    exact aP (fun _=>cJ _ _) (aP (fun _=>ih (sub hd (by simp)) a1 a2) (aP (fun _=>ih (sub hd (by simp)) b1 b2) cj))
  · rename_i w1 a1 w2 a2
    exact aP (fun _=>cJ _ _) (aP (fun _=>ih (sub hd (by simp)) a1 a2) cj)
  · rename_i l1 a1 l2 a2
    exact aP (fun _=>cJ _ _) (aP (fun _=>jb (iz fun a ma b mb=>ih (sub2 hd (by simp) ma) (a1 a ma) (a2 b mb))) cj)
  · rename_i l1 a1 l2 a2
    exact aP (fun _=>cJ _ _) (aP (fun _=>jb (iz fun a ma b mb=>ih (sub2 hd (by simp) ma) (a1 a ma) (a2 b mb))) cj)
  · rename_i w1 b1 a1 w2 b2 a2
    exact aP (fun _=>ih (sub hd (by simp)) a1 a2) (aP (fun _=>xR _ _) cj)
theorem eJ {ts:List Tr} (h:∀t∈ts,t.pure):Trs.pure ts:=by
 induction ts with
 |nil=>unfold Trs.pure;trivial
 |cons t ts ih=>
  unfold Trs.pure
  exact ⟨h t List.mem_cons_self,ih fun u m=>h u (List.mem_cons_of_mem _ m)⟩
theorem c5 {k:So} {t:Tr} (h:Ty k t):t.pure:=by
 induction h with
 |nm x=>simp [Tr.pure,Trs.pure]
 |ap x ts _ _ ih=>simp only [Tr.pure,Trs.pure];exact ⟨trivial,trivial,eJ ih,trivial⟩
 |fr a b=>simp [Tr.pure,Trs.pure]
 |pr t f _ _ h1 h2=>simp only [Tr.pure,Trs.pure];exact ⟨h1,h2,trivial⟩
 |fl x=>simp [Tr.pure,Trs.pure]
 |mo ps f _ _ h1 h2=>simp only [Tr.pure,Trs.pure];exact ⟨trivial,eJ h1,h2,trivial⟩
 |li t u _ _ h1 h2=>simp only [Tr.pure,Trs.pure];exact ⟨trivial,h1,h2,trivial⟩
 |no w _ h1=>simp only [Tr.pure,Trs.pure];exact ⟨trivial,h1,trivial⟩
 |bo l _ h1=>simp only [Tr.pure,Trs.pure];exact ⟨trivial,eJ h1,trivial⟩
 |ei l _ h1=>simp only [Tr.pure,Trs.pure];exact ⟨trivial,eJ h1,trivial⟩
 |lt w b _ h1=>simp only [Tr.pure,Trs.pure];exact ⟨h1,trivial,trivial⟩
theorem wA {t:Tr} (h:Ty .lt t∨Ty .pr t):Hd t:=by
 rcases h with h|h
 · cases h with
   |lt w b hw=>cases hw<;>exact ⟨_,_,rfl⟩
 · cases h with
   |pr t f ht hf=>cases ht<;>exact ⟨_,_,rfl⟩
end Tre
namespace Mth
theorem sR (a b:Int):Int.gcd b (a.fmod b)=Int.gcd a b:=by
 have e:a.fmod b=a - b*a.fdiv b:=Int.fmod_def a b
 rw [e,Int.gcd_comm a b]
 have:a - b*a.fdiv b=a+b*(-(a.fdiv b)):=by rw [Int.mul_neg,Int.sub_eq_add_neg]
 rw [this]
 exact Int.gcd_add_mul_left_right ..
theorem uN {a b:Int} (h:b≠0):(a.fmod b).natAbs < b.natAbs:=by
 by_cases hb:0 < b
 · have h1:=Int.fmod_nonneg_of_pos a hb
   have h2:=Int.fmod_lt_of_pos a hb
   omega
 · have h3:0 < -b:=by omega
   have e:a.fmod b= -((-a).fmod (-b)):=by
    rw [Int.neg_fmod_neg,Int.neg_neg]
   have h1:=Int.fmod_nonneg_of_pos (-a) h3
   have h2:=Int.fmod_lt_of_pos (-a) h3
   omega
noncomputable def dv (t b:Int):Int:=if b < 0 then -(Int.gcd t b:Int) else (Int.gcd t b:Int)
noncomputable def fx (t b:Int):Int:=t.fdiv (dv t b)
noncomputable def fy (t b:Int):Int:=b.fdiv (dv t b)
theorem sX {t b:Int} (h:b≠0):dv t b≠0:=by
 have:0 < Int.gcd t b:=Int.gcd_pos_of_ne_zero_right t h
 unfold dv
 split<;>omega
theorem sY {t b:Int}:(dv t b).natAbs=Int.gcd t b:=by
 unfold dv
 split<;>omega
theorem wu {t b:Int}:dv t b∣t∧dv t b∣b:=by
 have h1:((Int.gcd t b:Nat):Int)∣t:=Int.gcd_dvd_left ..
 have h2:((Int.gcd t b:Nat):Int)∣b:=Int.gcd_dvd_right ..
 unfold dv
 split
 · exact ⟨Int.neg_dvd.mpr h1,Int.neg_dvd.mpr h2⟩
 · exact ⟨h1,h2⟩
theorem vc {t b:Int} (h:b≠0):t=dv t b*fx t b∧b=dv t b*fy t b:=by
 obtain ⟨⟨x,hx⟩,⟨y,hy⟩⟩:=wu (t:=t) (b:=b)
 have n:=sX (t:=t) h
 have e1:fx t b=x:=by
  unfold fx
  generalize dv t b=d at*
  rw [hx]
  exact Int.mul_fdiv_cancel_left _ n
 have e2:fy t b=y:=by
  unfold fy
  generalize dv t b=d at*
  rw [hy]
  exact Int.mul_fdiv_cancel_left _ n
 rw [e1,e2]
 exact ⟨hx,hy⟩
theorem sS {t b:Int} (h:b≠0):1≤fy t b:=by
 obtain ⟨_,e⟩:=vc (t:=t) h
 have g:0 < Int.gcd t b:=Int.gcd_pos_of_ne_zero_right t h
 have n:=sX (t:=t) h
 by_cases q:1≤fy t b
 · exact q
 · exfalso
   have q':fy t b≤0:=by omega
   have d:(b < 0→dv t b < 0)∧(¬b < 0→0 < dv t b):=by
    unfold dv
    constructor
    · intro z;rw [if_pos z];omega
    · intro z;rw [if_neg z];omega
   by_cases z:b < 0
   · have:=Int.mul_nonneg_of_nonpos_of_nonpos (Int.le_of_lt (d.1 z)) q'
     omega
   · have:=Int.mul_nonpos_of_nonneg_of_nonpos (Int.le_of_lt (d.2 z)) q'
     omega
theorem wj {t b:Int} (h:b≠0):Int.gcd (fx t b) (fy t b)=1:=by
 obtain ⟨e1,e2⟩:=vc (t:=t) h
 have g:0 < Int.gcd t b:=Int.gcd_pos_of_ne_zero_right t h
 have e:Int.gcd t b=(dv t b).natAbs*Int.gcd (fx t b) (fy t b):=by
  have:Int.gcd t b=Int.gcd (dv t b*fx t b) (dv t b*fy t b):=by rw [←e1,←e2]
  rw [this,Int.gcd_mul_left]
 rw [sY] at e
 have:=Nat.eq_of_mul_eq_mul_left g (show Int.gcd t b*1=Int.gcd t b*Int.gcd (fx t b) (fy t b) by rw [←e,Nat.mul_one])
 exact this.symm
theorem m6 (a b:Int):(a.fdiv b).natAbs≤a.natAbs:=by
 by_cases h:b=0
 · subst h;simp
 · rcases Int.lt_or_gt_of_ne h with hb|hb
   · have h3:0 < -b:=by omega
     have e:a.fdiv b=(-a).fdiv (-b):=by rw [Int.neg_fdiv_neg]
     rw [e,Int.fdiv_eq_ediv_of_nonneg _ (by omega)]
     have:=Int.natAbs_ediv_le_natAbs (-a) (-b)
     omega
   · rw [Int.fdiv_eq_ediv_of_nonneg _ (by omega)]
     exact Int.natAbs_ediv_le_natAbs a b
def e9 (x y:Int):Prop:=0 < y∧Int.gcd x y=1
theorem ge {x y z:Int} (h1:Int.gcd x y=1) (h2:Int.gcd x z=1):Int.gcd x (y*z)=1:=by
 show Nat.gcd x.natAbs (y*z).natAbs=1
 rw [Int.natAbs_mul]
 exact Nat.Coprime.mul_right h1 h2
theorem j8 {x y z:Int} (h1:Int.gcd y x=1) (h2:Int.gcd z x=1):Int.gcd (y*z) x=1:=by
 rw [Int.gcd_comm]
 exact ge (by rw [Int.gcd_comm];exact h1) (by rw [Int.gcd_comm];exact h2)
theorem t9 {x x' y:Int} (h:Int.gcd (x'*x) y=1):Int.gcd x' y=1:=by
 have e:Nat.gcd (x'*x).natAbs y.natAbs=1:=h
 rw [Int.natAbs_mul] at e
 exact Nat.Coprime.coprime_mul_right e
theorem dk {x x' y:Int} (h:Int.gcd (x*x') y=1):Int.gcd x' y=1:=by
 rw [Int.mul_comm] at h
 exact t9 h
theorem fb {x y y':Int} (h:Int.gcd x (y*y')=1):Int.gcd x y'=1:=by
 rw [Int.gcd_comm] at h ⊢
 exact dk h
theorem eQ {x y:Int} (h:y≠0):∃x' y':Int,x=(Int.gcd x y:Int)*x'∧y=(Int.gcd x y:Int)*y'∧Int.gcd x' y'=1∧x / (Int.gcd x y:Int)=x'∧y / (Int.gcd x y:Int)=y':=by
 have g:0 < Int.gcd x y:=Int.gcd_pos_of_ne_zero_right x h
 obtain ⟨x',hx⟩:((Int.gcd x y:Nat):Int)∣x:=Int.gcd_dvd_left ..
 obtain ⟨y',hy⟩:((Int.gcd x y:Nat):Int)∣y:=Int.gcd_dvd_right ..
 have n:((Int.gcd x y:Nat):Int)≠0:=by omega
 refine ⟨x',y',hx,hy,?_,?_,?_⟩
 · have e:Int.gcd x y=Int.gcd x y*Int.gcd x' y':=by
    have:Int.gcd x y=Int.gcd ((Int.gcd x y:Int)*x') ((Int.gcd x y:Int)*y'):=by rw [←hx,←hy]
    rw [Int.gcd_mul_left,Int.natAbs_natCast] at this
    exact this
   have:=Nat.eq_of_mul_eq_mul_left g (show Int.gcd x y*1=Int.gcd x y*Int.gcd x' y' by rw [←e,Nat.mul_one])
   exact this.symm
 · generalize ((Int.gcd x y:Nat):Int)=k at*
   rw [hx]
   exact Int.mul_ediv_cancel_left _ n
 · generalize ((Int.gcd x y:Nat):Int)=k at*
   rw [hy]
   exact Int.mul_ediv_cancel_left _ n
theorem cQ {k x:Int} (hk:0≤k) (h:0 < k*x):0 < x:=by
 by_cases q:0 < x
 · exact q
 · have:=Int.mul_nonpos_of_nonneg_of_nonpos hk (show x≤0 by omega)
   omega
noncomputable def pT (a b c d:Int):Int:=a*(d / (Int.gcd b d:Int))+c*(b / (Int.gcd b d:Int))
noncomputable def pE (a b c d:Int):Int:=(Int.gcd (pT a b c d) (Int.gcd b d:Int):Int)
noncomputable def pX (a b c d:Int):Int:=pT a b c d / pE a b c d
noncomputable def pY (a b c d:Int):Int:=b / (Int.gcd b d:Int)*(d / pE a b c d)
theorem oD {a b c d:Int} (h1:e9 a b) (h2:e9 c d):e9 (pX a b c d) (pY a b c d)∧pX a b c d*(b*d)=(a*d+c*b)*pY a b c d:=by
 obtain ⟨b0,g1⟩:=h1
 obtain ⟨d0,g2⟩:=h2
 obtain ⟨b',d',eb,ed,g3,qb,qd⟩:=eQ (x:=b) (y:=d) (by omega)
 have s0:(0:Int) < (Int.gcd b d:Int):=by
  have:0 < Int.gcd b d:=Int.gcd_pos_of_ne_zero_right b (by omega)
  omega
 have eT:pT a b c d=a*d'+c*b':=by unfold pT;rw [qb,qd]
 unfold pX pY
 have eE:pE a b c d=(Int.gcd (a*d'+c*b') (Int.gcd b d:Int):Int):=by unfold pE;rw [eT]
 rw [eE,eT,qb]
 generalize ((Int.gcd b d:Nat):Int)=s at*
 obtain ⟨t',s',et,es,g4,qt,qs⟩:=eQ (x:=a*d'+c*b') (y:=s) (by omega)
 have e0:(0:Int) < (Int.gcd (a*d'+c*b') s:Int):=by
  have:0 < Int.gcd (a*d'+c*b') s:=Int.gcd_pos_of_ne_zero_right _ (by omega)
  omega
 have b0':0 < b':=cQ (k:=s) (by omega) (by omega)
 have d0':0 < d':=cQ (k:=s) (by omega) (by omega)
 have cT1:Int.gcd (a*d'+c*b') b'=1:=by
  have:Int.gcd (a*d'+c*b') b'=Int.gcd (a*d') b':=by
   rw [Int.gcd_comm,Int.gcd_comm (a*d')]
   have e:a*d'+c*b'=a*d'+b'*c:=by rw [Int.mul_comm c b']
   rw [e]
   exact Int.gcd_add_mul_left_right ..
  rw [this]
  refine j8 ?_ (by rw [Int.gcd_comm];exact g3)
  rw [eb] at g1
  exact fb g1
 have cT2:Int.gcd (a*d'+c*b') d'=1:=by
  have:Int.gcd (a*d'+c*b') d'=Int.gcd (c*b') d':=by
   rw [Int.gcd_comm,Int.gcd_comm (c*b')]
   have e:a*d'+c*b'=c*b'+d'*a:=by rw [Int.mul_comm a d',Int.add_comm]
   rw [e]
   exact Int.gcd_add_mul_left_right ..
  rw [this]
  refine j8 ?_ g3
  rw [ed] at g2
  exact fb g2
 rw [qt]
 generalize ((Int.gcd (a*d'+c*b') s:Nat):Int)=e at*
 have s0':0 < s':=cQ (k:=e) (by omega) (by omega)
 have qd2:d / e=d'*s':=by
  rw [ed,es,Int.mul_assoc,Int.mul_ediv_cancel_left _ (by omega),Int.mul_comm]
 rw [qd2]
 generalize ht:a*d'+c*b'=t at*
 refine ⟨⟨Int.mul_pos b0' (Int.mul_pos d0' s0'),?_⟩,?_⟩
 · rw [et] at cT1 cT2
   exact ge (dk cT1) (ge (dk cT2) g4)
 · have e1:a*d+c*b=s*t:=by
    rw [ed,eb,←ht,Int.mul_add]
    simp only [Int.mul_left_comm]
   rw [e1,et,eb,ed]
   have e2:s*(e*t')*(b'*(d'*s'))=s*t'*b'*d'*(e*s'):=by
    simp only [Int.mul_assoc,Int.mul_left_comm,Int.mul_comm]
   rw [e2,←es]
   simp only [Int.mul_assoc,Int.mul_left_comm,Int.mul_comm]
noncomputable def tX (a b c d:Int):Int:=a / (Int.gcd a d:Int)*(c / (Int.gcd c b:Int))
noncomputable def tY (a b c d:Int):Int:=b / (Int.gcd c b:Int)*(d / (Int.gcd a d:Int))
theorem lp {a b c d:Int} (h1:e9 a b) (h2:e9 c d):e9 (tX a b c d) (tY a b c d)∧tX a b c d*(b*d)=a*c*tY a b c d:=by
 obtain ⟨b0,g1⟩:=h1
 obtain ⟨d0,g2⟩:=h2
 obtain ⟨a',d',ea,ed,g3,qa,qd⟩:=eQ (x:=a) (y:=d) (by omega)
 obtain ⟨c',b',ec,eb,g4,qc,qb⟩:=eQ (x:=c) (y:=b) (by omega)
 have f0:(0:Int)≤(Int.gcd a d:Int):=by omega
 have k0:(0:Int)≤(Int.gcd c b:Int):=by omega
 unfold tX tY
 rw [qa,qd,qc,qb]
 generalize ((Int.gcd a d:Nat):Int)=f at*
 generalize ((Int.gcd c b:Nat):Int)=k at*
 have b0':0 < b':=cQ k0 (by omega)
 have d0':0 < d':=cQ f0 (by omega)
 subst ea ed ec eb
 have h1:Int.gcd a' b'=1:=dk (fb g1)
 have h2:Int.gcd c' d'=1:=dk (fb g2)
 refine ⟨⟨Int.mul_pos b0' d0',j8 (ge h1 g3) (ge g4 h2)⟩,?_⟩
 simp only [Int.mul_assoc,Int.mul_left_comm,Int.mul_comm]
theorem cS {t b:Int} (h:b≠0):e9 (fx t b) (fy t b):=⟨by have:=sS (t:=t) h;omega,wj h⟩
theorem j9 {c d:Int} (h:e9 c d):e9 (-c) d:=⟨h.1,by rw [Int.gcd_comm,Int.gcd_neg,Int.gcd_comm];exact h.2⟩
theorem iy (a b:Int):(a / b).natAbs≤a.natAbs:=Int.natAbs_ediv_le_natAbs a b
end Mth
namespace L2
section
open PySem
variable {prog:Program} {w:World} {A:Around} {R:Result→Shared→Prop} {s:Shared}
theorem ja {elt target iter:Expr} {ifs:List Expr} {scope:Scope} {pos:Pos} {it acc:Value} {env:Env} (I:Nat→Shared→Prop)
 (turn:∀n s,I n s→wpAny (model prog w) A (pyNext it) (fun r s₁=>match r with
  |none=>R (.ok .next) s₁
  |some v=>wpAny (model prog w) A (letOwnedTupleGo target it v) (fun _ s₁'=>wpAny (model prog w) A (assign target env v) (fun _ s₂=>
   wpAny (model prog w) A (forIn ifs true fun c r=>if r=true then do let ok←isTrue c env (eval c env);pure (ForInStep.yield ok) else pure (ForInStep.yield r)) (fun ok s₃=>
    if ok=true then wpAny (model prog w) A (eval elt env) (fun x s₄=>
     wpAny (model prog w) A (call (.builtin "list.append") [acc,x]) (fun _ s₅=>∃m,m < n∧I m s₅) (fun _ _=>False) s₄) (fun _ _=>False) s₃
    else∃m,m < n∧I m s₃) (fun _ _=>False) s₂) (fun _ _=>False) s₁') (fun _ _=>False) s₁) (fun _ _=>False) s)
 (n:Nat) (h:I n s):codeAny (model prog w) A (.compLoop (.ListComp elt [⟨target,iter,ifs,0⟩] scope pos) 0 it acc env) R s:=by
 refine codeAny_loop rfl I (fun n s hI=> ?_) n h
 show wpAny _ A ((compTurn (.ListComp elt [⟨target,iter,ifs,0⟩] scope pos) 0 it acc env).onRaise (fun x=>do noteFrame x env;theTreesLotGoes x)) _ _ s
 refine wpAny_noted ?_
 rw [compTurn_list]
 refine wpAny_bind (wpAny_standAt (wpAny_bind (wpAny_mono (turn n s hI) (fun r s₁ h₁=> ?_) fun _ _ z=>z.elim)))
 cases r with
 |none=>exact wpAny_pure h₁
 |some v=>
  refine wpAny_bind (wpAny_mono h₁ (fun _ s₁' h₁'=> ?_) fun _ _ z=>z.elim)
  refine wpAny_bind (wpAny_mono h₁' (fun _ s₂ h₂=>wpAny_bind (wpAny_mono h₂ (fun ok s₃ h₃=> ?_) fun _ _ z=>z.elim)) fun _ _ z=>z.elim)
  cases ok with
  |false=>exact wpAny_pure ⟨rfl,h₃⟩
  |true=>
   exact wpAny_bind (wpAny_bind (wpAny_mono h₃ (fun x s₄ h₄=>wpAny_bind (wpAny_mono h₄ (fun _ s₅ h₅=>wpAny_pure (wpAny_pure ⟨rfl,h₅⟩)) fun _ _ z=>z.elim)) fun _ _ z=>z.elim))
noncomputable def cT (names:List (Str×NameKind)) (cells:List (Str×Addr)):List (Str×Addr)→List (Str×Addr):=match names with
 | []=>fun cs=>cs
 |(n,k)::r=>fun cs=>cT r cells (if (k== .free)=true then (n,(cells.lookup n).getD 0)::cs else cs)
noncomputable def cF (names:List (Str×NameKind)) (cells:List (Str×Addr)):Bool:=names.all fun y=> !(y.2== .free) ||(cells.lookup y.1).isSome
theorem kU (env:Env):∀(names:List (Str×NameKind)) (cs:List (Str×Addr)),cF names env.cells=true→
 (forIn names cs fun (x:Str×NameKind) (r:List (Str×Addr))=>match x with
  |(name,kind)=>if (kind==NameKind.free)=true then do let __do_lift←cellOf env name;pure (ForInStep.yield ((name,__do_lift)::r)) else pure (ForInStep.yield r):Sem (List (Str×Addr)))=pure (cT names env.cells cs)
 | [],cs,_=>rfl
 |(n,k)::r,cs,h=>by
  unfold cF at h
  rw [List.all_cons,Bool.and_eq_true] at h
  rw [List.forIn_cons]
  unfold cT
  by_cases hk:(k==NameKind.free)=true
  · rw [if_pos hk]
    dsimp only
    rw [if_pos hk]
    have h1:(env.cells.lookup n).isSome=true:=by
     have:=h.1
     rw [hk] at this
     simpa using this
    obtain ⟨c,hc⟩:=Option.isSome_iff_exists.mp h1
    have e:cellOf env n=pure c:=by unfold cellOf;rw [hc]
    rw [e,hc]
    exact kU env r _ h.2
  · rw [if_neg hk]
    dsimp only
    rw [if_neg hk]
    exact kU env r _ h.2
theorem oX {scope:Scope} {env:Env} (h:cF scope.names env.cells=true):closureFor scope env=pure (cT scope.names env.cells []):=by
 unfold closureFor
 have:=kU env scope.names [] h
 simp only [bind_pure]
 exact this
theorem mm {cells:List (Str×Addr)}:∀(names:List (Str×NameKind)) (cs:List (Str×Addr)),cF names cells=true→(∀y c,cs.lookup y=some c→cells.lookup y=some c)→∀y c,(cT names cells cs).lookup y=some c→cells.lookup y=some c
 | [],cs,_,hc,y,c,e=>hc y c e
 |(n,k)::r,cs,h,hc,y,c,e=>by
  unfold cF at h
  rw [List.all_cons,Bool.and_eq_true] at h
  refine mm r _ h.2 (fun z d q=> ?_) y c e
  by_cases hk:(k==NameKind.free)=true
  · rw [if_pos hk,List.lookup_cons] at q
    cases zn:(z==n) with
    |true=>
     rw [zn] at q
     have h1:(cells.lookup n).isSome=true:=by
      have:=h.1
      rw [hk] at this
      simpa using this
     obtain ⟨c',hc'⟩:=Option.isSome_iff_exists.mp h1
     have zn':z=n:=by simpa using zn
     rw [zn',hc']
     have q':some ((cells.lookup n).getD 0)=some d:=q
     rw [hc'] at q'
     exact q'
    |false=>
     rw [zn] at q
     exact hc z d q
  · rw [if_neg hk] at q
    exact hc z d q
theorem jM {cells:List (Str×Addr)}:∀(names:List (Str×NameKind)) (cs:List (Str×Addr)) (y:Str),(∃c,cs.lookup y=some c)→∃c,(cT names cells cs).lookup y=some c
 | [],cs,y,h=>h
 |(n,k)::r,cs,y,h=>by
  refine jM r _ y ?_
  by_cases hk:(k==NameKind.free)=true
  · rw [if_pos hk,List.lookup_cons]
    cases zn:(y==n) with
    |true=>exact ⟨_,rfl⟩
    |false=>exact h
  · rw [if_neg hk]
    exact h
theorem jc {cells:List (Str×Addr)}:∀(names:List (Str×NameKind)) (cs:List (Str×Addr)) (y:Str),(y,NameKind.free)∈names→∃c,(cT names cells cs).lookup y=some c
 | [],_,y,h=>by cases h
 |(n,k)::r,cs,y,h=>by
  rcases List.mem_cons.mp h with e|h
  · obtain ⟨e1,e2⟩:=Prod.mk.inj e
    subst e1
    subst e2
    unfold cT
    refine jM r _ y ?_
    rw [if_pos (show (NameKind.free==NameKind.free)=true from rfl),List.lookup_cons]
    have:(y==y)=true:=by simp
    rw [this]
    exact ⟨_,rfl⟩
  · exact jc r _ y h
end
open PySem PySem.Spec PyProof.Rows
noncomputable abbrev XC (X:Cx) (scope:Scope) (NC:List Str) (C:Addr) (s:Shared) (H:Hp) (fp:List Addr) (pn:List (Addr×Obj)):Cx:=
 {X with N:=NC,s₀:=s,H₀:=H,env:=compEnvC scope (cT scope.names X.env.cells []) C X.env,outer:=X.stack,stack:=X.stack,ex:=fp,fn:=fun _=>false,pn:=pn,xe:=fun _ _=>False}
noncomputable def subS (mp:List (Option Nat)) (σ:St):St:=mp.map fun o=>match o with
 |some i=>(σ[i]?).getD none
 |none=>none
noncomputable def lO (N NC:List Str) (mp:List (Option Nat)) (names outer:List (Str×NameKind)):Bool:=(List.range mp.length).all fun j=>match mp[j]? with
 |some (some i)=>(match NC[j]?,N[i]? with
  |some y,some z=>y==z&&names.lookup y==some NameKind.free&& (outer.lookup y==some NameKind.cell ||outer.lookup y==some NameKind.free)
  |_,_=>false)
 |_=>true
theorem rQ {N NC:List Str} {mp:List (Option Nat)} {names outer:List (Str×NameKind)} (h:lO N NC mp names outer=true) {j i:Nat} (e:mp[j]?=some (some i)):∃y,NC[j]?=some y∧N[i]?=some y∧names.lookup y=some .free∧(outer.lookup y=some .cell∨outer.lookup y=some .free):=by
 unfold lO at h
 rw [List.all_eq_true] at h
 have hj:j < mp.length:=(List.getElem?_eq_some_iff.mp e).1
 have:=h j (List.mem_range.mpr hj)
 rw [e] at this
 dsimp only at this
 split at this
 · rename_i y z e1 e2
   simp only [Bool.and_eq_true,Bool.or_eq_true,beq_iff_eq] at this
   obtain ⟨⟨rfl,h2⟩,h3⟩:=this
   exact ⟨y,e1,e2,h2,h3⟩
 · cases this
def PTs (X:Cx) (ifs:List Expr) (t:TT):Prop:=
 ∀(pins:List (Addr×Obj)) (s:Shared) (σ:St) (H:Hp) (Q:Bool→Hp→Prop),Inv X pins σ H s→t σ H Q→
  wpAny (model X.prog X.w) X.A (forIn ifs true fun c r=>if r=true then do let ok←isTrue c X.env (eval c X.env);pure (ForInStep.yield ok) else pure (ForInStep.yield r)) (TP X pins σ Q) X.xe s
def dn:TT:=fun _ H Q=>Q true H
theorem bp {X:Cx}:PTs X [] dn:=fun _ _ σ H Q I h=>wpAny_tests_nil ⟨H,I,h⟩
theorem ub {X:Cx} {c:Expr} {t:TT} (hc:PT X c t):PTs X [c] t:=fun pins s σ H Q I h=>wpAny_tests_one (hc pins s σ H Q I h)
def Ext (σ σ':St):Prop:=∀(j:Nat) (v:V),σ[j]?=some (some v)→σ'[j]?=some (some v)
theorem Ext.refl (σ:St):Ext σ σ:=fun _ _ e=>e
theorem ext1 {o:Option V} {r:St}:Ext (none::r) (o::r)
 |0,v,e=>by cases (Option.some.inj (show some (none:Option V)=some (some v) from e))
 |j+1,v,e=>e
theorem ext2 {o p:Option V} {r:St}:Ext (none::none::r) (o::p::r)
 |0,v,e=>by cases (Option.some.inj (show some (none:Option V)=some (some v) from e))
 |1,v,e=>by cases (Option.some.inj (show some (none:Option V)=some (some v) from e))
 |j+2,v,e=>e
def fc (mp:List (Option Nat)) (wi:TI) (g:TG) (tc:TT) (te:TE):TE:=fun σ H Q=>wi σ H fun J H1=>∀D,H1 D=none→
 ∃W:Nat→Nat→List V→Hp→Prop,(∃m,W 0 m [] (upd H1 D (.lst [])))∧∀i m acc H2,W i m acc H2→
  (J.stop i H2∧Q (.ref D) H2)∨
  (J.go i H2∧∀x H3,J.yld i H2 x H3→g x (subS mp σ) H3 fun σ4 H4=>Ext (subS mp σ) σ4∧tc σ4 H4 fun b H5=>if b=true then te σ4 H5 fun v H6=>H6 D=some (.lst acc)∧acc.length < sizeLine∧∃m',m' < m∧W (i+1) m' (acc++ [v]) (upd H6 D (.lst (acc++ [v])))
   else∃m',m' < m∧W (i+1) m' acc H5)
open PySem PySem.Spec PyProof.Rows
theorem cK {env:Env}:∀ {names:List (Str×NameKind)} {x:Str},names.lookup x=some .free→
 (names.map fun (n,k)=>if (k==NameKind.free&&env.scope.kind== .function&&env.kindOf n==some .cell) then (n,NameKind.cell) else (n,k)).lookup x=some .cell∨
 (names.map fun (n,k)=>if (k==NameKind.free&&env.scope.kind== .function&&env.kindOf n==some .cell) then (n,NameKind.cell) else (n,k)).lookup x=some .free
 | [],_,h=>by simp at h
 |(n,k)::r,x,h=>by
  have ih:= @cK env r x
  show List.lookup x ((if (k==NameKind.free&&env.scope.kind== .function&&env.kindOf n==some .cell)=true then (n,NameKind.cell) else (n,k))::_)=_∨List.lookup x ((if (k==NameKind.free&&env.scope.kind== .function&&env.kindOf n==some .cell)=true then (n,NameKind.cell) else (n,k))::_)=_
  cases hx:x==n with
  |true=>
   simp only [List.lookup_cons,hx] at h
   cases h
   by_cases hc:(NameKind.free==NameKind.free&&env.scope.kind== .function&&env.kindOf n==some .cell)=true
   · rw [if_pos hc]
     left
     simp only [List.lookup_cons,hx]
   · rw [if_neg hc]
     right
     simp only [List.lookup_cons,hx]
  |false=>
   simp only [List.lookup_cons,hx] at h
   by_cases hc:(k==NameKind.free&&env.scope.kind== .function&&env.kindOf n==some .cell)=true
   · rw [if_pos hc]
     simp only [List.lookup_cons,hx]
     exact ih h
   · rw [if_neg hc]
     simp only [List.lookup_cons,hx]
     exact ih h
theorem im {env:Env}:∀ {names:List (Str×NameKind)} {x:Str},(∀y∈names,y.2≠ .cell)→
 ((names.map fun (n,k)=>if (k==NameKind.free&&env.scope.kind== .function&&env.kindOf n==some .cell) then (n,NameKind.cell) else (n,k)).lookup x=some .cell∨
 (names.map fun (n,k)=>if (k==NameKind.free&&env.scope.kind== .function&&env.kindOf n==some .cell) then (n,NameKind.cell) else (n,k)).lookup x=some .free)→(x,NameKind.free)∈names
 | [],_,_,h=>by simp at h
 |(n,k)::r,x,hn,h=>by
  have ih:= @im env r x (fun y hy=>hn y (List.mem_cons_of_mem _ hy))
  have nk:k≠ .cell:=hn (n,k) List.mem_cons_self
  rw [List.map_cons] at h
  dsimp only at h
  cases hx:x==n with
  |true=>
   have xn:x=n:=by simpa using hx
   subst xn
   by_cases hc:(k==NameKind.free&&env.scope.kind== .function&&env.kindOf x==some .cell)=true
   · have:k= .free:=by
      have:=hc
      rw [Bool.and_eq_true,Bool.and_eq_true] at this
      simpa using this.1.1
     rw [this]
     exact List.mem_cons_self
   · rw [if_neg hc,List.lookup_cons,hx] at h
     rcases h with h|h
     · exact absurd (Option.some.inj h) nk
     · cases (Option.some.inj h)
       exact List.mem_cons_self
  |false=>
   refine List.mem_cons_of_mem _ (ih ?_)
   by_cases hc:(k==NameKind.free&&env.scope.kind== .function&&env.kindOf n==some .cell)=true
   · rw [if_pos hc,List.lookup_cons,hx] at h
     exact h
   · rw [if_neg hc,List.lookup_cons,hx] at h
     exact h
section
variable {X:Cx} {pins:List (Addr×Obj)} {σ:St} {H:Hp} {s:Shared}
theorem Inv.block {scope:Scope} {NC:List Str} {mp:List (Option Nat)} {fp:List Addr} {h1:Heap} {tk:Nat} {m:Str→Option Value} (I:Inv X pins σ H s) (hf:∀b∈fp,FpOk X pins H b) (hlt:∀b∈fp,b < s.heap.objs.size) (hk:scope.kind= .function) (hnc:∀y∈scope.names,y.2≠ .cell)
 (hc:cF scope.names X.env.cells=true) (hl:mp.length=NC.length) (hm:lO X.N NC mp scope.names X.env.scope.names=true) (kp:∀b o,s.heap.get? b=some o→h1.get? b=some o) (hn:h1.Ns s.heap.objs.size m):
 Inv (XC X scope NC s.heap.objs.size s H fp (X.pn++pins)) [] (subS mp σ) H {s with heap:=h1,toks:=tk}:=by
 have sub:=mm (cells:=X.env.cells) scope.names [] hc (fun y c e=>by cases e)
 have lt:∀b o,s.heap.get? b=some o→b≠s.heap.objs.size:=fun b o e=>Nat.ne_of_lt (Heap.lt_size e)
 have nst:∀b,b≠X.env.locals→b∉X.fs→b∉frs X.stack:=fun b h1 h2 z=>by
  rcases List.mem_cons.mp (I.stkSub b z) with e|e
  · exact h1 e
  · exact h2 e
 refine ⟨⟨I.ok.mod,hk,I.ok.glob,I.ok.blt,Nat.le_refl _,fun x y c e1 e2=>I.ok.inj x y c (sub x c e1) (sub y c e2),fun x hx=> ?_,(fun _ _ z=>by cases z),I.ok.hd,I.ok.frames, .inl rfl,fun b hb=> ?_,fun b o e=> ?_,Nat.le_trans I.ok.bsz I.sz,fun b o e hb=> ?_,fun b hb=> ?_,I.stack,I.stkFree⟩,
  rfl,I.bare,Un.kept kp,⟨m,hn,fun j y v e1 e2 e3=> ?_⟩,fun y c e=> ?_,I.hok.fresh (Nat.le_refl _),fun y c e=>I.freeC y c (sub y c e),fun p hp=> ?_,I.hok.kept kp,?_⟩
 · exact jc scope.names [] x (im hnc hx)
 · obtain ⟨f0,f1,f2,f3,f4,f5⟩:=hf b hb
   exact ⟨Nat.ne_of_lt (hlt b hb),fun x c e=>f4 x c (sub x c e)⟩
 · obtain ⟨h1,h2⟩:=I.bs b o e
   exact ⟨h1,h2⟩
 · obtain ⟨f0,f1,f2,f3,f4,f5⟩:=hf b hb
   rcases f3 with z|z
   · exact I.ok.noex b o e z
   · exact absurd (Nat.lt_of_lt_of_le (Heap.lt_size e) (Nat.le_trans I.ok.bsz z)) (Nat.lt_irrefl _)
 · obtain ⟨f0,f1,f2,f3,f4,f5⟩:=hf b hb
   exact nst b f1 f2
 ·
  unfold subS at e2
  rw [List.getElem?_map] at e2
  cases q:mp[j]? with
  |none=>rw [q] at e2;cases e2
  |some o=>
   rw [q] at e2
   cases o with
   |none=>cases e2
   |some i=>
    have e2':some ((σ[i]?).getD none)=some (some v):=e2
    obtain ⟨z,y1,y2,y3,y4⟩:=rQ hm q
    have yz:y=z:=Option.some.inj ((show NC[j]?=some y from e1).symm.trans y1)
    subst yz
    have e4:σ[i]?=some (some v):=by
     cases w:σ[i]? with
     |none=>rw [w] at e2';cases e2'
     |some t=>rw [w] at e2';exact e2'
    obtain ⟨m0,hn0,hl0⟩:=I.loc
    obtain ⟨c,hcl⟩:=jc (cells:=X.env.cells) scope.names [] y (PySem.mem_of_lookup y3)
    have hcx:=sub y c hcl
    have vis:Vis X.env.scope y:= .inr y4
    obtain ⟨u,ru,lk⟩:=hl0 i y v y2 e4 vis
    refine ⟨u,ru, .inr ⟨cK y3,c,hcl,?_⟩⟩
    rcases lk with ⟨k1,_⟩|⟨_,c',k2,k3⟩
    · have k1':X.env.scope.names.lookup y=some .local:=k1
      rcases y4 with y4|y4<;>(rw [y4] at k1';cases k1')
    · rw [hcx] at k2
      cases k2
      obtain ⟨oc,q1,q2⟩:=k3
      exact ⟨oc,kp _ _ q1,q2⟩
 · obtain ⟨v,oc,q1,q2⟩:=I.cell y c (sub y c e)
   exact ⟨v,oc,kp _ _ q1,q2⟩
 · have hp':p∈X.pn++pins:=by simpa using hp
   obtain ⟨q1,q2,q3,q4,q5⟩:=I.pin p hp'
   exact ⟨kp _ _ q1,q2,lt _ _ q1,nst _ q3 q4,q5⟩
 · show (subS mp σ).length=NC.length
   unfold subS
   rw [List.length_map,hl]
variable {elt target iter:Expr} {ifs:List Expr} {scope:Scope} {NC:List Str} {mp:List (Option Nat)} {pos:Pos} {wi:TI} {g:TG} {tc:TT} {te:TE}
theorem bx (hcalm:X.calm=true) (hi:PI X target iter wi) (hg:∀C s H fp pn,PG (XC X scope NC C s H fp pn) target g) (ht:∀C s H fp pn,PTs (XC X scope NC C s H fp pn) ifs tc) (he:∀C s H fp pn,PE (XC X scope NC C s H fp pn) elt te)
 (hl:mp.length=NC.length:=by rfl) (hm:lO X.N NC mp scope.names X.env.scope.names=true:=by rfl) (hc:cF scope.names X.env.cells=true:=by rfl) (hk:scope.kind= .function:=by rfl)
 (hnc:∀y∈scope.names,y.2≠ .cell:=by decide +kernel) (hnm:∀y∈scope.names,y.2= .local→scope.names.lookup y.1=some .local:=by decide +kernel) (hs:∀x,foldedSetIterable iter X.env x=pure x:=by intro _;rfl):
 PE X (.ListComp elt [⟨target,iter,ifs,0⟩] scope pos) (fc mp wi g tc te):=by
 intro pins s σ H Q I h
 rw [eval_ListComp]
 refine wpAny_comprehension_free (use:=none) rfl hs (oX hc) hk hnm (thn (hi pins s σ H _ I h) fun v s1 h1=>thn h1 fun itv s2 h2=> ?_)
 obtain ⟨it,fp,tn,J,H2,e,I2,T,st2,f2,W⟩:=h2
 subst e
 refine wpAny_newObj_type ?_ (by show 0≤sizeLine;decide)
 have nD:H2 s2.heap.objs.size=none:=I2.hok.fresh (Nat.le_refl _)
 have I3:Inv X pins σ (upd H2 s2.heap.objs.size (.lst [])) {s2 with heap:=s2.heap.push {cls:= .type "list",data:= .seq ([]:List Value).toArray}}:=
  I2.laid (t':=s2.toks) (fun b u e=>Heap.get?_push_of_some _ e) (Nat.le_refl _) ⟨by show 0≤sizeLine;decide,[],0, .nil,Heap.get?_push_size _ rfl⟩
 obtain ⟨W,⟨m0,w0⟩,turn⟩:=W _ nD
 have lt2:∀b∈fp,b < s2.heap.objs.size:=fun b hb=>by
  obtain ⟨o,e,_⟩:=T.obj 0 _ st2 b hb
  exact Heap.lt_size e
 have nDf:∀b∈fp,b≠s2.heap.objs.size:=fun b hb=>Nat.ne_of_lt (lt2 b hb)
 have f3:∀b∈fp,FpOk X pins (upd H2 s2.heap.objs.size (.lst [])) b:=fun b hb=>by
  obtain ⟨g0,g1⟩:=f2 b hb
  exact ⟨by rw [aB (nDf b hb)];exact g0,g1⟩
 have st3:tn 0 (s2.heap.push {cls:= .type "list",data:= .seq ([]:List Value).toArray}):=T.keep 0 _ _ st2 fun b _ o e=>Heap.get?_push_of_some _ e
 have lt3:∀b∈fp,b < (s2.heap.push {cls:= .type "list",data:= .seq ([]:List Value).toArray}).objs.size:=fun b hb=>by
  rw [Heap.size_push]
  exact Nat.lt_succ_of_lt (lt2 b hb)
 generalize hD:s2.heap.objs.size=D at*
 generalize hs3:({s2 with heap:=s2.heap.push {cls:= .type "list",data:= .seq ([]:List Value).toArray}}:Shared)=s3 at*
 have hh3:s3.heap=s2.heap.push {cls:= .type "list",data:= .seq ([]:List Value).toArray}:=by rw [←hs3]
 rw [←hh3] at st3 lt3
 generalize hH3:upd H2 D (.lst [])=H3 at*
 refine wpAny_newFunctionEnv (around:=some X.env) hnc (by intro y hy;cases hy) (fun h4 hn4 hsb4=> ?_) hk
 have kp4:∀b o,s3.heap.get? b=some o→h4.get? b=some o:=fun b o e=>hsb4.extBut b o (Nat.ne_of_lt (Heap.lt_size e)) (Heap.get?_push_of_some _ e)
 have I4:=I3.block (tk:=s3.toks+([]:List (Str×Value)).length) f3 lt3 hk hnc hc hl hm kp4 hn4
 have st4:tn 0 h4:=T.keep 0 _ _ st3 fun b _ o e=>kp4 b o e
 have fin:∀(s5:Shared) (σ5:St) (H5:Hp),Inv (XC X scope NC s3.heap.objs.size s3 H3 fp (X.pn++pins)) [] σ5 H5 s5→Q (.ref D) H5→compPost (model X.prog X.w) X.A X.xe none (EP X pins σ Q) (.ref D) s3.heap.objs.size (.ok .next) s5:=by
  intro s5 σ5 H5 I5 q5
  obtain ⟨m5,hn5,_⟩:=id I5.loc
  refine ⟨m5,hn5,fun h6 sb6=>⟨.ref D,H5,?_,rfl,q5⟩⟩
  have kp6:∀b o,b≠s3.heap.objs.size→s5.heap.get? b=some o→h6.get? b=some o:=fun b o hb e=>sb6.extBut b o hb e
  have nC:∀b o,s3.heap.get? b=some o→b≠s3.heap.objs.size:=fun b o e=>Nat.ne_of_lt (Heap.lt_size e)
  have un:Un (frs X.stack) fp H3 H5 s3.heap s5.heap:=I5.base
  have hfree:H5 s3.heap.objs.size=none:=I5.free
  refine I3.call' (s':= {s5 with heap:=h6}) (ch:=fp) I5.os ⟨fun b o e n hb hx=>kp6 b o (nC b o e) (un.keep b o e n hb hx),fun b o e n hb hx=> ?_,un.free,fun b o e hx=> ?_,un.tups,un.frzs,un.tbls⟩ ?_ I5.bare (fun b hb=> ?_)
  · obtain ⟨sl,e1⟩:=un.slot b o e n hb hx
    exact ⟨sl,kp6 b _ (nC b o e) e1⟩
  · obtain ⟨o',e1⟩:=un.there b o e hx
    exact ⟨o',kp6 b o' (nC b o e) e1⟩
  · intro b o e
    have nb:b≠s3.heap.objs.size:=fun z=>by rw [z,hfree] at e;cases e
    refine (I5.hok b o e).stay (fun c v hc' r=>kp6 c v ?_ r) (fun _ r=>r) fun _ _ r=>r
    rcases hc' with z|z
    · rw [z];exact nb
    · intro y
      rw [y,hfree] at z
      cases z
  · obtain ⟨g0,g1,g2,g3,g4,g5⟩:=f3 b hb
    exact ⟨g3,g1,g4,g5⟩
 have loop:codeAny (model X.prog X.w) X.A (.compLoop (.ListComp elt [⟨target,iter,ifs,0⟩] scope pos) 0 (.ref it) (.ref D) (compEnvC scope (cT scope.names X.env.cells []) s3.heap.objs.size X.env)) (compPost (model X.prog X.w) X.A X.xe none (EP X pins σ Q) (.ref D) s3.heap.objs.size)
  {s3 with heap:=h4,toks:=s3.toks+([]:List (Str×Value)).length}:=by
  refine ja (fun n s'=>∃i acc σ' H',Inv (XC X scope NC s3.heap.objs.size s3 H3 fp (X.pn++pins)) [] σ' H' s'∧Ext (subS mp σ) σ'∧tn i s'.heap∧(∀b∈fp,H' b=none)∧W i n acc H') ?_ m0
   ⟨0,[],subS mp σ,H3,I4,fun _ _ e=>e,st4,fun b hb=>(f3 b hb).1,w0⟩
  rintro n s5 ⟨i,acc,σ5,H5,I5,hσ,st5,fr5,w5⟩
  have I5':Inv (XC X scope NC s3.heap.objs.size s3 H3 fp (X.pn++pins)) [] (subS mp σ) H5 s5:=I5.weak (by rw [I5.len];unfold subS;rw [List.length_map];exact hl) hσ
  have fpk:∀ {H':Hp},(∀b∈fp,H' b=none)→∀b∈fp,FpOk (XC X scope NC s3.heap.objs.size s3 H3 fp (X.pn++pins)) [] H' b:=fun hn b hb=>by
   obtain ⟨g0,g1,g2,g3,g4,g5⟩:=f3 b hb
   refine ⟨hn b hb,Nat.ne_of_lt (lt3 b hb),?_, .inl hb,(I4.ok.exf b hb).2,fun p hp=>g5 p (by simpa using hp)⟩
   exact I4.ok.exfs b hb
  rcases turn i n acc H5 w5 with ⟨stop,q⟩|⟨go,step⟩
  · refine thn (T.done (XC X scope NC s3.heap.objs.size s3 H3 fp (X.pn++pins)) rfl rfl rfl hcalm i [] s5 _ H5 (fun _ _=>False) I5' (fpk fr5) st5 stop) fun r s6 ⟨hr,I6⟩=> ?_
    subst hr
    exact fin s6 _ H5 I6 q
  · refine thn (T.item (XC X scope NC s3.heap.objs.size s3 H3 fp (X.pn++pins)) rfl rfl rfl hcalm i [] s5 _ H5 (fun _ _=>False) I5' (fpk fr5) st5 go) fun r s6 ⟨u,hr,h6⟩=> ?_
    subst hr
    refine thn h6 fun _ s7 ⟨x,H7,I7,r7,y7,st7,fr7⟩=> ?_
    have I7':=I7.pinned (fpk fr7) (T.obj _ _ st7)
    refine thn (hg _ _ _ _ _ _ s7 _ H7 x u _ I7' r7 (step x H7 y7)) fun _ s8 ⟨σ8,H8,I8,ext8,q8⟩=> ?_
    refine thn (ht _ _ _ _ _ _ s8 σ8 H8 _ I8 q8) fun ok s9 ⟨H9,I9,q9⟩=> ?_
    have again:∀ {σ':St} {H':Hp} {s':Shared} {acc':List V} {m':Nat},Inv (XC X scope NC s3.heap.objs.size s3 H3 fp (X.pn++pins)) ([]++i5 fp s7.heap) σ' H' s'→Ext (subS mp σ) σ'→m' < n→W (i+1) m' acc' H'→
     ∃m,m < n∧∃i acc σ' H',Inv (XC X scope NC s3.heap.objs.size s3 H3 fp (X.pn++pins)) [] σ' H' s'∧Ext (subS mp σ) σ'∧tn i s'.heap∧(∀b∈fp,H' b=none)∧W i m acc H':=by
     intro σ' H' s' acc' m' I' hσ' hm' w'
     refine ⟨m',hm',i+1,acc',σ',H',I'.unpinned,hσ',T.keep _ _ _ st7 fun b hb o e=>(I'.pin (b,o) (List.mem_append_right _ (List.mem_append_right _ (cC hb e)))).1,fun b hb=> ?_,w'⟩
     obtain ⟨o,e,d⟩:=T.obj _ _ st7 b hb
     exact (I'.pin (b,o) (List.mem_append_right _ (List.mem_append_right _ (cC hb e)))).2.1
    cases ok with
    |false=>
     rw [if_neg Bool.false_ne_true] at q9
     rw [if_neg Bool.false_ne_true]
     obtain ⟨m',hm',w'⟩:=q9
     exact again I9 ext8 hm' w'
    |true=>
     rw [if_pos rfl] at q9
     rw [if_pos rfl]
     refine thn (he _ _ _ _ _ _ s9 σ8 H9 _ I9 q9) fun v s10 ⟨y,H10,I10,r10,hD10,hz,m',hm',w'⟩=> ?_
     refine thn (cN (X:=XC X scope NC s3.heap.objs.size s3 H3 fp (X.pn++pins)) _ s10 σ8 H10 (.ref D) [y] (.ref D) [v] (fun _ H'=>H'=upd H10 D (.lst (acc++ [y]))) I10 rfl (.cons r10 .nil) ⟨D,acc,y,rfl,rfl,hD10,hz,rfl⟩) fun _ s11 ⟨_,H11,I11,_,e11⟩=> ?_
     subst e11
     exact again I11 ext8 hm' w'
 exact codeAny_compStart_list loop (T.self _ 0 _ _ _ st4 loop)
end
open PySem PySem.Spec PyProof.Rows
section
variable {X:Cx} {pins:List (Addr×Obj)} {σ:St} {H:Hp} {s:Shared}
theorem p6 {h h':Heap} {a b:Addr} {m:Str→Option Value} (hn:h.Ns a m) (sb:Heap.SameBut b h h') (ne:a≠b):h'.Ns a m:=by
 obtain ⟨o,es,ep,ho,r⟩:=hn
 exact ⟨o,es,ep,(sb.2 a ne).trans ho,r⟩
variable {elt target iter:Expr} {ifs:List Expr} {scope:Scope} {NC:List Str} {mp:List (Option Nat)} {pos spos:Pos} {wi:TI} {g:TG} {tc:TT} {te:TE} {i:Nat} {x:Str} {px:Pos}
theorem oB (hcalm:X.calm=true) (hN:X.N.Nodup) (hix:X.N[i]?=some x) (hx:X.env.scope.names.lookup x=some .local) (hsw:swapsWith (.ListComp elt [⟨target,iter,ifs,0⟩] scope pos) (some (.Name x px)) spos.line X.env=pure true)
 (hi:PI X target iter wi) (hg:∀C s H fp pn,PG (XC X scope NC C s H fp pn) target g) (ht:∀C s H fp pn,PTs (XC X scope NC C s H fp pn) ifs tc) (he:∀C s H fp pn,PE (XC X scope NC C s H fp pn) elt te)
 (hl:mp.length=NC.length:=by rfl) (hm:lO X.N NC mp scope.names X.env.scope.names=true:=by rfl) (hc:cF scope.names X.env.cells=true:=by rfl) (hk:scope.kind= .function:=by rfl)
 (hnc:∀y∈scope.names,y.2≠ .cell:=by decide +kernel) (hnm:∀y∈scope.names,y.2= .local→scope.names.lookup y.1=some .local:=by decide +kernel) (hs:∀x,foldedSetIterable iter X.env x=pure x:=by intro _;rfl):
 PS X (.Assign [.Name x px] (.ListComp elt [⟨target,iter,ifs,0⟩] scope pos) spos) (tAsg (fc mp wi g tc te) (cp i)):=by
 intro pins s σ H Z I h
 rw [exec_Assign_Name_used _ _ _ _ hsw]
 refine wpAny_bind (wpAny_standAt (wpAny_bind ?_))
 show wpAny _ _ (do let _←comprehension (.ListComp elt [⟨target,iter,ifs,0⟩] scope pos) scope X.env _ (newList []) false (eval iter X.env) (some (assign (.Name x px) X.env))) _ _ s
 refine wpAny_bind (wpAny_mono (wpAny_comprehension_free (use:=some (assign (.Name x px) X.env)) (Q:=fun _ s'=>SP X pins Z .next s') (E:=X.xe) rfl hs (oX hc) hk hnm
  (thn (hi pins s σ H _ I h) fun v s1 h1=>thn h1 fun itv s2 h2=> ?_)) (fun _ s' q=>wpAny_pure (wpAny_pure q)) fun _ _ e=>e)
 obtain ⟨it,fp,tn,J,H2,e,I2,T,st2,f2,W⟩:=h2
 subst e
 refine wpAny_newObj_type ?_ (by show 0≤sizeLine;decide)
 have nD:H2 s2.heap.objs.size=none:=I2.hok.fresh (Nat.le_refl _)
 have I3:Inv X pins σ (upd H2 s2.heap.objs.size (.lst [])) {s2 with heap:=s2.heap.push {cls:= .type "list",data:= .seq ([]:List Value).toArray}}:=
  I2.laid (t':=s2.toks) (fun b u e=>Heap.get?_push_of_some _ e) (Nat.le_refl _) ⟨by show 0≤sizeLine;decide,[],0, .nil,Heap.get?_push_size _ rfl⟩
 obtain ⟨W,⟨m0,w0⟩,turn⟩:=W _ nD
 have lt2:∀b∈fp,b < s2.heap.objs.size:=fun b hb=>by
  obtain ⟨o,e,_⟩:=T.obj 0 _ st2 b hb
  exact Heap.lt_size e
 have nDf:∀b∈fp,b≠s2.heap.objs.size:=fun b hb=>Nat.ne_of_lt (lt2 b hb)
 have f3:∀b∈fp,FpOk X pins (upd H2 s2.heap.objs.size (.lst [])) b:=fun b hb=>by
  obtain ⟨g0,g1⟩:=f2 b hb
  exact ⟨by rw [aB (nDf b hb)];exact g0,g1⟩
 have st3:tn 0 (s2.heap.push {cls:= .type "list",data:= .seq ([]:List Value).toArray}):=T.keep 0 _ _ st2 fun b _ o e=>Heap.get?_push_of_some _ e
 have lt3:∀b∈fp,b < (s2.heap.push {cls:= .type "list",data:= .seq ([]:List Value).toArray}).objs.size:=fun b hb=>by
  rw [Heap.size_push]
  exact Nat.lt_succ_of_lt (lt2 b hb)
 generalize hD:s2.heap.objs.size=D at*
 generalize hs3:({s2 with heap:=s2.heap.push {cls:= .type "list",data:= .seq ([]:List Value).toArray}}:Shared)=s3 at*
 have hh3:s3.heap=s2.heap.push {cls:= .type "list",data:= .seq ([]:List Value).toArray}:=by rw [←hs3]
 rw [←hh3] at st3 lt3
 generalize hH3:upd H2 D (.lst [])=H3 at*
 refine wpAny_newFunctionEnv (around:=some X.env) hnc (by intro y hy;cases hy) (fun h4 hn4 hsb4=> ?_) hk
 have kp4:∀b o,s3.heap.get? b=some o→h4.get? b=some o:=fun b o e=>hsb4.extBut b o (Nat.ne_of_lt (Heap.lt_size e)) (Heap.get?_push_of_some _ e)
 have I4:=I3.block (tk:=s3.toks+([]:List (Str×Value)).length) f3 lt3 hk hnc hc hl hm kp4 hn4
 have st4:tn 0 h4:=T.keep 0 _ _ st3 fun b _ o e=>kp4 b o e
 have nC:∀b o,s3.heap.get? b=some o→b≠s3.heap.objs.size:=fun b o e=>Nat.ne_of_lt (Heap.lt_size e)
 have out:∀(s5:Shared) (σ5:St) (H5:Hp) (h6:Heap),Inv (XC X scope NC s3.heap.objs.size s3 H3 fp (X.pn++pins)) [] σ5 H5 s5→Heap.SameBut s3.heap.objs.size s5.heap h6→Inv X pins σ H5 {s5 with heap:=h6}:=by
  intro s5 σ5 H5 h6 I5 sb6
  have kp6:∀b o,b≠s3.heap.objs.size→s5.heap.get? b=some o→h6.get? b=some o:=fun b o hb e=>sb6.extBut b o hb e
  have un:Un (frs X.stack) fp H3 H5 s3.heap s5.heap:=I5.base
  have hfree:H5 s3.heap.objs.size=none:=I5.free
  refine I3.call' (s':= {s5 with heap:=h6}) (ch:=fp) I5.os ⟨fun b o e n hb hx=>kp6 b o (nC b o e) (un.keep b o e n hb hx),fun b o e n hb hx=> ?_,un.free,fun b o e hx=> ?_,un.tups,un.frzs,un.tbls⟩ ?_ I5.bare (fun b hb=> ?_)
  · obtain ⟨sl,e1⟩:=un.slot b o e n hb hx
    exact ⟨sl,kp6 b _ (nC b o e) e1⟩
  · obtain ⟨o',e1⟩:=un.there b o e hx
    exact ⟨o',kp6 b o' (nC b o e) e1⟩
  · intro b o e
    have nb:b≠s3.heap.objs.size:=fun z=>by rw [z,hfree] at e;cases e
    refine (I5.hok b o e).stay (fun c v hc' r=>kp6 c v ?_ r) (fun _ r=>r) fun _ _ r=>r
    rcases hc' with z|z
    · rw [z];exact nb
    · intro y
      rw [y,hfree] at z
      cases z
  · obtain ⟨g0,g1,g2,g3,g4,g5⟩:=f3 b hb
    exact ⟨g3,g1,g4,g5⟩
 have fin:∀(s5:Shared) (σ5:St) (H5:Hp),Inv (XC X scope NC s3.heap.objs.size s3 H3 fp (X.pn++pins)) [] σ5 H5 s5→Z.nx (σ.set i (some (.ref D))) H5→compPost (model X.prog X.w) X.A X.xe (some (assign (.Name x px) X.env)) (fun _ s'=>SP X pins Z .next s') (.ref D) s3.heap.objs.size (.ok .next) s5:=by
  intro s5 σ5 H5 I5 q5
  obtain ⟨m5,hn5,_⟩:=id I5.loc
  have I6:=out s5 σ5 H5 s5.heap I5 (.refl ..)
  have lC:X.env.locals≠s3.heap.objs.size:=Nat.ne_of_lt I3.lt
  show wpAny _ _ (assign (.Name x px) X.env (.ref D)) _ _ _
  refine wpAny_assign_Name (jq (X:=X) (v:= .ref D) I6 hN hix (.inl hx) rfl (fun s7 I7 hch=> ?_) (.inr hx))
  obtain ⟨a,sb7,ha⟩:=hch
  have aC:s3.heap.objs.size≠a:=by
   rcases ha with z|z
   · rw [z];exact Ne.symm lC
   · obtain ⟨v,oc,q1,_⟩:=I3.cell x a z
     exact Ne.symm (nC a oc q1)
  refine ⟨m5,p6 hn5 sb7 aC,fun h8 sb8=>⟨σ.set i (some (.ref D)),H5,?_,q5⟩⟩
  have hfree:H5 s3.heap.objs.size=none:=I5.free
  have kp8:∀b o,b≠s3.heap.objs.size→s7.heap.get? b=some o→h8.get? b=some o:=fun b o hb e=>sb8.extBut b o hb e
  have s0lt:∀b o,X.s₀.heap.get? b=some o→b≠s3.heap.objs.size:=fun b o e=>Nat.ne_of_lt (Nat.lt_of_lt_of_le (Heap.lt_size e) I3.sz)
  refine ⟨I7.ok,I7.os,I7.bare,⟨fun b o e n hb hx=>kp8 b o (s0lt b o e) (I7.base.keep b o e n hb hx),fun b o e n hb hx=> ?_,I7.base.free,fun b o e hx=> ?_,I7.base.tups,I7.base.frzs,I7.base.tbls⟩,?_,fun y c e=> ?_,I7.free,I7.freeC,fun p hp=> ?_,?_,I7.len⟩
  · obtain ⟨sl,e1⟩:=I7.base.slot b o e n hb hx
    exact ⟨sl,kp8 b _ (s0lt b o e) e1⟩
  · obtain ⟨o',e1⟩:=I7.base.there b o e hx
    exact ⟨o',kp8 b o' (s0lt b o e) e1⟩
  · obtain ⟨m7,hn7,hl7⟩:=I7.loc
    have cellN:∀y c,X.env.cells.lookup y=some c→c≠s3.heap.objs.size:=fun y c e=>by
     obtain ⟨v,oc,q1,_⟩:=I3.cell y c e
     exact nC c oc q1
    refine ⟨m7,p6 hn7 sb8 lC,fun j y v e1 e2 e3=> ?_⟩
    obtain ⟨u,ru,lk⟩:=hl7 j y v e1 e2 e3
    refine ⟨u,ru,?_⟩
    rcases lk with lk|⟨k1,c,k2,k3⟩
    · exact .inl lk
    · exact .inr ⟨k1,c,k2,k3.sameBut sb8 (cellN y c k2)⟩
  · obtain ⟨w',z⟩:=I7.cell y c e
    obtain ⟨v,oc,q1,_⟩:=I3.cell y c e
    exact ⟨w',z.sameBut sb8 (nC c oc q1)⟩
  · obtain ⟨e,n1,n2,n3,n4⟩:=I7.pin p hp
    obtain ⟨e3,_⟩:=I3.pin p hp
    exact ⟨kp8 _ _ (nC _ _ e3) e,n1,n2,n3,n4⟩
  · intro b o e
    have nb:b≠s3.heap.objs.size:=fun z=>by rw [z,hfree] at e;cases e
    refine (I7.hok b o e).stay (fun c v hc' r=>kp8 c v ?_ r) (fun _ r=>r) fun _ _ r=>r
    rcases hc' with z|z
    · rw [z];exact nb
    · intro y
      rw [y,hfree] at z
      cases z
 have loop:codeAny (model X.prog X.w) X.A (.compLoop (.ListComp elt [⟨target,iter,ifs,0⟩] scope pos) 0 (.ref it) (.ref D) (compEnvC scope (cT scope.names X.env.cells []) s3.heap.objs.size X.env)) (compPost (model X.prog X.w) X.A X.xe (some (assign (.Name x px) X.env)) (fun _ s'=>SP X pins Z .next s') (.ref D) s3.heap.objs.size)
  {s3 with heap:=h4,toks:=s3.toks+([]:List (Str×Value)).length}:=by
  refine ja (fun n s'=>∃i acc σ' H',Inv (XC X scope NC s3.heap.objs.size s3 H3 fp (X.pn++pins)) [] σ' H' s'∧Ext (subS mp σ) σ'∧tn i s'.heap∧(∀b∈fp,H' b=none)∧W i n acc H') ?_ m0
   ⟨0,[],subS mp σ,H3,I4,fun _ _ e=>e,st4,fun b hb=>(f3 b hb).1,w0⟩
  rintro n s5 ⟨i,acc,σ5,H5,I5,hσ,st5,fr5,w5⟩
  have I5':Inv (XC X scope NC s3.heap.objs.size s3 H3 fp (X.pn++pins)) [] (subS mp σ) H5 s5:=I5.weak (by rw [I5.len];unfold subS;rw [List.length_map];exact hl) hσ
  have fpk:∀ {H':Hp},(∀b∈fp,H' b=none)→∀b∈fp,FpOk (XC X scope NC s3.heap.objs.size s3 H3 fp (X.pn++pins)) [] H' b:=fun hn b hb=>by
   obtain ⟨g0,g1,g2,g3,g4,g5⟩:=f3 b hb
   refine ⟨hn b hb,Nat.ne_of_lt (lt3 b hb),?_, .inl hb,(I4.ok.exf b hb).2,fun p hp=>g5 p (by simpa using hp)⟩
   exact I4.ok.exfs b hb
  rcases turn i n acc H5 w5 with ⟨stop,q⟩|⟨go,step⟩
  · refine thn (T.done (XC X scope NC s3.heap.objs.size s3 H3 fp (X.pn++pins)) rfl rfl rfl hcalm i [] s5 _ H5 (fun _ _=>False) I5' (fpk fr5) st5 stop) fun r s6 ⟨hr,I6⟩=> ?_
    subst hr
    exact fin s6 _ H5 I6 q
  · refine thn (T.item (XC X scope NC s3.heap.objs.size s3 H3 fp (X.pn++pins)) rfl rfl rfl hcalm i [] s5 _ H5 (fun _ _=>False) I5' (fpk fr5) st5 go) fun r s6 ⟨u,hr,h6⟩=> ?_
    subst hr
    refine thn h6 fun _ s7 ⟨x,H7,I7,r7,y7,st7,fr7⟩=> ?_
    have I7':=I7.pinned (fpk fr7) (T.obj _ _ st7)
    refine thn (hg _ _ _ _ _ _ s7 _ H7 x u _ I7' r7 (step x H7 y7)) fun _ s8 ⟨σ8,H8,I8,ext8,q8⟩=> ?_
    refine thn (ht _ _ _ _ _ _ s8 σ8 H8 _ I8 q8) fun ok s9 ⟨H9,I9,q9⟩=> ?_
    have again:∀ {σ':St} {H':Hp} {s':Shared} {acc':List V} {m':Nat},Inv (XC X scope NC s3.heap.objs.size s3 H3 fp (X.pn++pins)) ([]++i5 fp s7.heap) σ' H' s'→Ext (subS mp σ) σ'→m' < n→W (i+1) m' acc' H'→
     ∃m,m < n∧∃i acc σ' H',Inv (XC X scope NC s3.heap.objs.size s3 H3 fp (X.pn++pins)) [] σ' H' s'∧Ext (subS mp σ) σ'∧tn i s'.heap∧(∀b∈fp,H' b=none)∧W i m acc H':=by
     intro σ' H' s' acc' m' I' hσ' hm' w'
     refine ⟨m',hm',i+1,acc',σ',H',I'.unpinned,hσ',T.keep _ _ _ st7 fun b hb o e=>(I'.pin (b,o) (List.mem_append_right _ (List.mem_append_right _ (cC hb e)))).1,fun b hb=> ?_,w'⟩
     obtain ⟨o,e,d⟩:=T.obj _ _ st7 b hb
     exact (I'.pin (b,o) (List.mem_append_right _ (List.mem_append_right _ (cC hb e)))).2.1
    cases ok with
    |false=>
     rw [if_neg Bool.false_ne_true] at q9
     rw [if_neg Bool.false_ne_true]
     obtain ⟨m',hm',w'⟩:=q9
     exact again I9 ext8 hm' w'
    |true=>
     rw [if_pos rfl] at q9
     rw [if_pos rfl]
     refine thn (he _ _ _ _ _ _ s9 σ8 H9 _ I9 q9) fun v s10 ⟨y,H10,I10,r10,hD10,hz,m',hm',w'⟩=> ?_
     refine thn (cN (X:=XC X scope NC s3.heap.objs.size s3 H3 fp (X.pn++pins)) _ s10 σ8 H10 (.ref D) [y] (.ref D) [v] (fun _ H'=>H'=upd H10 D (.lst (acc++ [y]))) I10 rfl (.cons r10 .nil) ⟨D,acc,y,rfl,rfl,hD10,hz,rfl⟩) fun _ s11 ⟨_,H11,I11,_,e11⟩=> ?_
     subst e11
     exact again I11 ext8 hm' w'
 exact codeAny_compStart_list loop (T.self _ 0 _ _ _ st4 loop)
end
open PySem PySem.Spec PyProof.Rows
section
variable {κ:Type} [DecidableEq κ]
noncomputable def valV (kvs:List (κ×V)) (k:κ):Option V:=(kvs.find? fun kv=>decide (kv.1=k)).map (·.2)
noncomputable def putK (kvs:List (κ×V)) (k:κ) (v:V):List (κ×V):=
 if (kvs.any fun kv=>decide (kv.1=k))=true then kvs.map (fun kv=>if kv.1=k then (kv.1,v) else kv) else kvs++ [(k,v)]
noncomputable def vo (kvs:List (κ×V)) (k:κ):List (κ×V):=kvs.filter fun kv=>decide (kv.1≠k)
theorem iC {p:κ×V} {r:List (κ×V)} {k:κ} (e:p.1=k):valV (p::r) k=some p.2:=by simp [valV,List.find?_cons,e]
theorem iD {p:κ×V} {r:List (κ×V)} {k:κ} (e:¬p.1=k):valV (p::r) k=valV r k:=by simp [valV,List.find?_cons,e]
theorem lg (k:κ):∀kvs:List (κ×V),(kvs.any fun kv=>decide (kv.1=k))=(valV kvs k).isSome
 | []=>rfl
 |p::r=>by
  rw [List.any_cons]
  by_cases e:p.1=k
  · simp only [iC e,decide_eq_true e,Bool.true_or,Option.isSome_some]
  · rw [iD e,decide_eq_false e,Bool.false_or];exact lg k r
theorem lU (kvs:List (κ×V)) (k:κ) (v:V):(putK kvs k v).length≤kvs.length+1:=by
 unfold putK
 split
 · rw [List.length_map];omega
 · rw [List.length_append,List.length_cons,List.length_nil];omega
theorem RelO.isSome_eq {o:Option V} {u:Option Value} (r:RelO o u):o.isSome=u.isSome:=by
 cases o with
 |none=>cases u with
  |none=>rfl
  |some _=>exact (show False from r).elim
 |some _=>cases u with
  |none=>exact (show False from r).elim
  |some _=>rfl
theorem RelO.getD {o:Option V} {u:Option Value} {d:V} {d':Value} (r:RelO o u) (rd:RelV d d'):RelV (o.getD d) (u.getD d'):=by
 cases o with
 |none=>cases u with
  |none=>exact rd
  |some _=>exact (show False from r).elim
 |some _=>cases u with
  |none=>exact (show False from r).elim
  |some _=>exact r
theorem KV.val {kvs:List (κ×V)} {vs:List (κ×Value)} (r:KV kvs vs) (k:κ):RelO (valV kvs k) (valueAt vs k):=by
 unfold KV at r
 induction r with
 |nil=>exact True.intro
 | @cons p q ps qs h t ih=>
  obtain ⟨h1,h2⟩:=h
  by_cases e:p.1=k
  · have e':q.1=k:=h1.symm.trans e
    have b:valueAt (q::qs) k=some q.2:=by simp [valueAt,List.find?_cons,e']
    rw [iC e,b];exact h2
  · have e':¬q.1=k:=fun z=>e (h1.trans z)
    have b:valueAt (q::qs) k=valueAt qs k:=by simp [valueAt,List.find?_cons,e']
    rw [iD e,b];exact ih
theorem KV.any {kvs:List (κ×V)} {vs:List (κ×Value)} (r:KV kvs vs) (k:κ):(kvs.any fun kv=>decide (kv.1=k))=vs.any fun kv=>decide (kv.1=k):=by
 unfold KV at r
 induction r with
 |nil=>rfl
 |cons h t ih=>rw [List.any_cons,List.any_cons,ih,h.1]
theorem KV.repl {kvs:List (κ×V)} {vs:List (κ×Value)} (r:KV kvs vs) (k:κ) {y:V} {u:Value} (ry:RelV y u):
 KV (kvs.map fun kv=>if kv.1=k then (kv.1,y) else kv) (vs.map fun kv=>if kv.1=k then (kv.1,u) else kv):=by
 unfold KV at r ⊢
 induction r with
 |nil=>exact .nil
 | @cons p q ps qs h t ih=>
  rw [List.map_cons,List.map_cons]
  refine .cons ?_ ih
  obtain ⟨h1,h2⟩:=h
  by_cases e:p.1=k
  · rw [if_pos e,if_pos (h1.symm.trans e)];exact ⟨h1,ry⟩
  · rw [if_neg e,if_neg (fun z=>e (h1.trans z))];exact ⟨h1,h2⟩
theorem KV.put {kvs:List (κ×V)} {vs:List (κ×Value)} (r:KV kvs vs) (k:κ) {y:V} {u:Value} (ry:RelV y u):KV (putK kvs k y) (stored vs k u):=by
 unfold putK stored
 rw [r.any k]
 by_cases e:(vs.any fun kv=>decide (kv.1=k))=true
 · rw [if_pos e,if_pos e];exact r.repl k ry
 · rw [if_neg e,if_neg e];exact Paired.snoc r ⟨rfl,ry⟩
theorem KV.drop {kvs:List (κ×V)} {vs:List (κ×Value)} (r:KV kvs vs) (k:κ):KV (vo kvs k) (without vs k):=by
 unfold KV at r ⊢
 unfold vo without
 induction r with
 |nil=>exact .nil
 | @cons p q ps qs h t ih=>
  obtain ⟨h1,h2⟩:=h
  rw [List.filter_cons,List.filter_cons]
  by_cases e:p.1=k
  · have a:¬decide (p.1≠k)=true:=by simp [e]
    have b:¬decide (q.1≠k)=true:=by simp [h1.symm.trans e]
    rw [if_neg a,if_neg b];exact ih
  · have e':¬q.1=k:=fun z=>e (h1.trans z)
    have a:decide (p.1≠k)=true:=by simp [e]
    have b:decide (q.1≠k)=true:=by simp [e']
    rw [if_pos a,if_pos b];exact .cons ⟨h1,h2⟩ ih
theorem KV.keys {kvs:List (κ×V)} {vs:List (κ×Value)} (r:KV kvs vs):kvs.map (·.1)=vs.map (·.1):=by
 unfold KV at r
 induction r with
 |nil=>rfl
 |cons h t ih=>rw [List.map_cons,List.map_cons,ih,h.1]
theorem KV.length {kvs:List (κ×V)} {vs:List (κ×Value)} (r:KV kvs vs):kvs.length=vs.length:=Paired.length r
end
theorem xH {P:Program} {w:World} {k:Key} {u:Value} (r:RelV (kV k) u):(bq P w).is k u=true:=by
 cases k with
 |inl i=>obtain ⟨t,e⟩:=(show∃t,u=Value.int i t from r);subst e;exact lR P w i t
 |inr x=>obtain ⟨t,e⟩:=(show∃t,u=Value.str x t from r);subst e;exact lQ P w x t
abbrev KT (H:Hp):List (List Key×V)→List (List Key×Addr×Value)→Prop:=Paired fun p q=>p.1=q.1∧H q.2.1=some (.tup (p.1.map kV))∧RelV p.2 q.2.2
theorem KT.val {H:Hp} {kvs:List (List Key×V)} {xs:List (List Key×Addr×Value)} (r:KT H kvs xs) (k:List Key):RelO (valV kvs k) ((atKey xs k).map (·.2)):=by
 induction r with
 |nil=>exact True.intro
 | @cons p q ps qs h t ih=>
  obtain ⟨h1,_,h2⟩:=h
  by_cases e:p.1=k
  · have e':q.1=k:=h1.symm.trans e
    have b:atKey (q::qs) k=some q.2:=by simp [atKey,List.find?_cons,e']
    rw [iC e,b];exact h2
  · have e':¬q.1=k:=fun z=>e (h1.trans z)
    have b:atKey (q::qs) k=atKey qs k:=by simp [atKey,List.find?_cons,e']
    rw [iD e,b];exact ih
theorem KT.repl {H:Hp} {kvs:List (List Key×V)} {xs:List (List Key×Addr×Value)} (r:KT H kvs xs) (k:List Key) {y:V} {u:Value} (ry:RelV y u):
 KT H (kvs.map fun kv=>if kv.1=k then (kv.1,y) else kv) (xs.map (putAt k u)):=by
 induction r with
 |nil=>exact .nil
 | @cons p q ps qs h t ih=>
  rw [List.map_cons,List.map_cons]
  refine .cons ?_ ih
  obtain ⟨h1,h2,h3⟩:=h
  unfold putAt
  by_cases e:p.1=k
  · rw [if_pos e,if_pos (h1.symm.trans e)];exact ⟨h1,h2,ry⟩
  · rw [if_neg e,if_neg (fun z=>e (h1.trans z))];exact ⟨h1,h2,h3⟩
theorem KT.put {H:Hp} {kvs:List (List Key×V)} {xs:List (List Key×Addr×Value)} (r:KT H kvs xs) (k:List Key) {b:Addr} {y:V} {u:Value} (hb:H b=some (.tup (k.map kV))) (ry:RelV y u):
 KT H (putK kvs k y) (storedH xs k b u):=by
 have e:(kvs.any fun kv=>decide (kv.1=k))=(atKey xs k).isSome:=by
  rw [lg,(r.val k).isSome_eq,Option.isSome_map]
 unfold putK storedH
 rw [e]
 by_cases q:(atKey xs k).isSome=true
 · rw [if_pos q,if_pos q];exact r.repl k ry
 · rw [if_neg q,if_neg q];exact Paired.snoc r ⟨rfl,hb,ry⟩
theorem KT.keeps {H H':Hp} {kvs:List (List Key×V)} {xs:List (List Key×Addr×Value)} (r:KT H kvs xs) (ht:∀b ys,H b=some (.tup ys)→H' b=some (.tup ys)):KT H' kvs xs:=
 Paired.mapP r fun _ _ z=>⟨z.1,ht _ _ z.2.1,z.2.2⟩
section
variable {P:Program} {w:World} {H:Hp} {h:Heap} {a:Addr}
theorem wW {u:HO} (ok:HOk P w H h) (e:Rd H a u):ObjOk P w H h a u:=e.ok ok
theorem xP {kvs:List (Key×V)} (ok:HOk P w H h) (e:Rd H a (.dK kvs)):kvs.length≤sizeLine∧(a==sysModules)=false∧∃vs,KV kvs vs∧h.DictOf (bq P w) a vs:=
 show ObjOk P w H h a (.dK kvs) from wW ok e
theorem xQ {kvs:List (Key×V)} (ok:HOk P w H h) (e:H a=some (.dK kvs)):kvs.length≤sizeLine∧(a==sysModules)=false∧∃vs,KV kvs vs∧h.DictOf (bq P w) a vs:=xP ok (.inl e)
end
def DGet (H:Hp) (a:Addr) (y:V) (r:Option V):Prop:=
 (∃kvs k,Rd H a (.dK kvs)∧y=kV k∧r=valV kvs k)∨∃kvs k b,Rd H a (.dT kvs)∧y= .ref b∧H b=some (.tup (k.map kV))∧r=valV kvs k
def DPut (H:Hp) (a:Addr) (y v:V) (H':Hp):Prop:=
 (∃kvs k,H a=some (.dK kvs)∧y=kV k∧kvs.length < sizeLine∧H'=upd H a (.dK (putK kvs k v)))∨
 ∃kvs k b,H a=some (.dT kvs)∧y= .ref b∧H b=some (.tup (k.map kV))∧kvs.length < sizeLine∧H'=upd H a (.dT (putK kvs k v))
theorem DGet.k {H:Hp} {a:Addr} {kvs:List (Key×V)} {k:Key} (e:H a=some (.dK kvs)):DGet H a (kV k) (valV kvs k):= .inl ⟨kvs,k, .inl e,rfl,rfl⟩
theorem DGet.t {H:Hp} {a b:Addr} {kvs:List (List Key×V)} {k:List Key} (e:H a=some (.dT kvs)) (eb:H b=some (.tup (k.map kV))):DGet H a (.ref b) (valV kvs k):= .inr ⟨kvs,k,b, .inl e,rfl,eb,rfl⟩
theorem DPut.k {H:Hp} {a:Addr} {kvs:List (Key×V)} {k:Key} {v:V} (e:H a=some (.dK kvs)) (hl:kvs.length < sizeLine):DPut H a (kV k) v (upd H a (.dK (putK kvs k v))):= .inl ⟨kvs,k,e,rfl,hl,rfl⟩
theorem DPut.t {H:Hp} {a b:Addr} {kvs:List (List Key×V)} {k:List Key} {v:V} (e:H a=some (.dT kvs)) (eb:H b=some (.tup (k.map kV))) (hl:kvs.length < sizeLine):
 DPut H a (.ref b) v (upd H a (.dT (putK kvs k v))):= .inr ⟨kvs,k,b,e,rfl,eb,hl,rfl⟩
section
variable {X:Cx} {pins:List (Addr×Obj)} {σ:St} {H:Hp} {s:Shared} {a:Addr} {y v:V} {u r:Value} {o:Option V} {A:Around} {E:Value→Shared→Prop}
theorem Inv.big (I:Inv X pins σ H s):sysModules < s.heap.objs.size:=by
 have h:mainGlobals < s.heap.objs.size:=(I.mod.glob.keeps I.bk).lt
 exact Nat.lt_trans (by decide) h
theorem uP {h':Heap} {t':Nat} {ob:HO} (I:Inv X pins σ H s) (mu:Mut (H a)) (hs:Heap.SameBut a s.heap h') (he:∃q,h'.get? a=some q) (new:ObjOk X.prog X.w (upd H a ob) h' a ob):
 Inv X pins σ (upd H a ob) {s with heap:=h',toks:=t'}:=
 I.write (x:=a) (e:=a) mu (.inl rfl) (fun b q hb z=>(hs.2 b hb).trans z) he new
theorem ww {P:Program} {w:World} {H':Hp} {h':Heap} {kvs:List (Key×V)} {vs:List (Key×Value)} (z:kvs.length≤sizeLine) (hd:(a==sysModules)=false) (rel:KV kvs vs) (dd:h'.DictOf (bq P w) a vs):
 ObjOk P w H' h' a (.dK kvs):=⟨z,hd,vs,rel,dd⟩
end
section
variable {X:Cx} {pins:List (Addr×Obj)} {σ:St} {H:Hp} {s:Shared} {a:Addr} {kvs:List (Key×V)} {k:Key} {u:Value} {A:Around} {E:Value→Shared→Prop}
end
section
variable {X:Cx} {o i e value:Expr} {pos pos' tpos:Pos} {td ty tv:TE}
end
theorem mj {P:Program} {w:World} {H:Hp} (h:Heap) (hb:sysModules < h.objs.size):ObjOk P w H (h.push {cls:= .type "dict",data:= .dict #[]}) h.objs.size (.dK []):=
 ⟨Nat.zero_le _,beq_eq_false_iff_ne.mpr (Ne.symm (Nat.ne_of_lt hb)),[], .nil,Heap.DictOf.new h⟩
def vH:TE:=fun _ H Q=>∀p,H p=none→Q (.ref p) (upd H p (.dK []))
section
variable {X:Cx} {pos:Pos}
theorem rh:PE X (.Dict [] [] pos) vH:=fun pins s σ H Q I h=>
 wpAny_Dict_empty ⟨.ref s.heap.objs.size,_,I.laid (a:=s.heap.objs.size) (o:= .dK []) (t':=s.toks) (fun _ _ q=>Heap.get?_push_of_some _ q) (Nat.le_refl _) (mj s.heap I.big),rfl,h _ (I.hok.fresh (Nat.le_refl _))⟩
end
def mJ:List (TE×TE)→St→Hp→(List (V×V)→Hp→Prop)→Prop
 | [],_,H,Q=>Q [] H
 |(tk,tv)::r,σ,H,Q=>tk σ H fun x H1=>tv σ H1 fun y H2=>mJ r σ H2 fun ps H3=>Q ((x,y)::ps) H3
abbrev VV:List (V×V)→List (Value×Value)→Prop:=Paired fun p q=>RelV p.1 q.1∧RelV p.2 q.2
def PPs (X:Cx) (pos:Pos) (keys:List (Option Expr)) (values:List Expr) (trs:List (TE×TE)):Prop:=
 ∀(pins:List (Addr×Obj)) (s:Shared) (σ:St) (H:Hp) (Q:List (V×V)→Hp→Prop),Inv X pins σ H s→mJ trs σ H Q→
  wpAny (model X.prog X.w) X.A (evalPairs (pairTrees keys values X.env pos)) (fun vs s'=>∃ps H',Inv X pins σ H' s'∧VV ps vs∧Q ps H') X.xe s
theorem uc {X:Cx} {pos:Pos}:PPs X pos [] [] []:=fun pins s σ H Q I h=>pairTrees_nil_walk ⟨[],H,I, .nil,h⟩
theorem qR {X:Cx} {pos:Pos} {k v:Expr} {ks:List (Option Expr)} {vs:List Expr} {tk tv:TE} {trs:List (TE×TE)} (hk:PE X k tk) (hv:PE X v tv) (hr:PPs X pos ks vs trs):
 PPs X pos (some k::ks) (v::vs) ((tk,tv)::trs):=fun pins s σ H Q I h=>
 pairTrees_cons_walk (thn (hk pins s σ H _ I h) fun u s1 ⟨x,H1,I1,rx,q1⟩=>thn (hv pins s1 σ H1 _ I1 q1) fun w2 s2 ⟨y,H2,I2,ry,q2⟩=>
  thn (hr pins s2 σ H2 _ I2 q2) fun ws s3 ⟨ps,H3,I3,rel,q3⟩=>⟨(x,y)::ps,H3,I3, .cons ⟨rx,ry⟩ rel,q3⟩)
noncomputable def j3 (kvs more:List (Key×V)):List (Key×V):=more.foldl (fun acc kv=>putK acc kv.1 kv.2) kvs
theorem KV.merge:∀ {more:List (Key×V)} {rs:List (Key×Value)} {kvs:List (Key×V)} {vs:List (Key×Value)},KV more rs→KV kvs vs→KV (j3 kvs more) (merged vs rs):=by
 intro more rs kvs vs r
 unfold KV at r
 induction r generalizing kvs vs with
 |nil=>intro q;exact q
 | @cons p q ps qs h t ih=>
  intro r0
  have e:KV (putK kvs p.1 p.2) (stored vs q.1 q.2):=by
   have:=r0.put p.1 h.2
   rw [←h.1];exact this
  exact ih e
theorem fg:∀(more kvs:List (Key×V)),(j3 kvs more).length≤kvs.length+more.length
 | [],kvs=>by show kvs.length≤kvs.length+0;omega
 |p::r,kvs=>by
  have h1:=fg r (putK kvs p.1 p.2)
  have h2:=lU kvs p.1 p.2
  show (j3 (putK kvs p.1 p.2) r).length≤_
  rw [List.length_cons];omega
theorem jd {P:Program} {w:World}:∀ {kvs:List (Key×V)} {ws:List (Value×Value)},VV (kvs.map fun kv=>(kV kv.1,kv.2)) ws→∃rs,Carries (bq P w) ws rs∧KV kvs rs
 | [],_,r=>by rw [List.map_nil] at r;cases r;exact ⟨[],True.intro, .nil⟩
 |p::kvs,_,r=>by
  rw [List.map_cons] at r
  cases r with
  | @cons a b as bs h t=>
   obtain ⟨rs,c,q⟩:=jd (P:=P) (w:=w) t
   obtain ⟨b1,b2⟩:=b
   exact ⟨(p.1,b2)::rs,⟨xH h.1,rfl,c⟩, .cons ⟨rfl,h.2⟩ q⟩
def wP (trs:List (TE×TE)):TE:=fun σ H Q=>∀p,H p=none→mJ trs σ (upd H p (.dK [])) fun ps H2=>H2 p=some (.dK [])∧∃kvs:List (Key×V),ps=kvs.map (fun kv=>(kV kv.1,kv.2))∧kvs.length≤15∧Q (.ref p) (upd H2 p (.dK (j3 [] kvs)))
theorem uf {X:Cx} {pos:Pos} {keys:List (Option Expr)} {values:List Expr} {trs:List (TE×TE)} (h:PPs X pos keys values trs) (hall:keys.all (·.isSome)=true) (hl:keys.length=values.length) (h0:keys≠ [])
 (h15:keys.length≤15):PE X (.Dict keys values pos) (wP trs):=by
 intro pins s σ H Q I q
 have hn:=I.hok.fresh (Nat.le_refl s.heap.objs.size)
 have I1:=I.laid (a:=s.heap.objs.size) (o:= .dK []) (h':=s.heap.push {cls:= .type "dict",data:= .dict #[]}) (t':=s.toks) (fun _ _ q=>Heap.get?_push_of_some _ q) (Nat.le_refl _) (mj s.heap I.big)
 refine wpAny_Dict_walk (knd:=bq X.prog X.w) hall hl h0 h15 (thn (h pins _ σ _ _ I1 (q _ hn)) fun ws s2 ⟨ps,H2,I2,rel,e,kvs,ep,lk,q2⟩=> ?_)
 subst ep
 obtain ⟨rs,c,rk⟩:=jd (P:=X.prog) (w:=X.w) rel
 obtain ⟨z,hd,vs0,r0,dd⟩:=xQ I2.hok e
 cases r0
 refine ⟨rs,c,dd,fun h' dd' hs=>⟨.ref s.heap.objs.size,_,?_,rfl,q2⟩⟩
 have hz:(j3 [] kvs).length≤sizeLine:=by
  have h1:=fg kvs []
  rw [List.length_nil] at h1
  rw [sizeLine_eq];omega
 have he:∃q,h'.get? s.heap.objs.size=some q:=let ⟨q,_,_,hq,_⟩:=dd';⟨q,hq⟩
 exact uP I2 (by rw [e];exact True.intro) hs he (ww hz hd (rk.merge .nil) dd')
section
variable {X:Cx} {pins:List (Addr×Obj)} {σ:St} {H:Hp} {s:Shared} {a:Addr} {y d:V} {u r:Value} {o:Option V} {A:Around} {E:Value→Shared→Prop}
end
section
variable {X:Cx} {o e f:Expr} {apos cpos:Pos} {td ty tx:TE}
end
section
variable {X:Cx} {pins:List (Addr×Obj)} {σ:St} {H:Hp} {s:Shared} {a:Addr} {kvs:List (Key×V)} {A:Around} {E:Value→Shared→Prop}
end
section
variable {X:Cx} {pins:List (Addr×Obj)} {σ:St} {H:Hp} {s:Shared} {a:Addr} {y:V} {u:Value} {A:Around} {E:Value→Shared→Prop}
end
open PySem PySem.Spec PyProof.Rows
def jU (J:It) (D:Addr) (te:TE) (rest:L2.St) (Q:VK) (H1:Hp):Prop:=
 ∃W:Nat→Nat→List V→Hp→Prop,(∃m,W 0 m [] (upd H1 D (.lst [])))∧∀i m acc H2,W i m acc H2→
  (J.stop i H2∧Q (.ref D) H2)∨
  (J.go i H2∧∀x H3,J.yld i H2 x H3→cp 0 x (none::rest) H3 fun σ4 H4=>Ext (none::rest) σ4∧dn σ4 H4 fun b H5=>if b=true then te σ4 H5 fun v H6=>H6 D=some (.lst acc)∧acc.length < sizeLine∧∃m',m' < m∧W (i+1) m' (acc++ [v]) (upd H6 D (.lst (acc++ [v])))
   else∃m',m' < m∧W (i+1) m' acc H5)
theorem bn {mp:List (Option Nat)} {wi:TI} {te:TE} {σ rest:L2.St} {H:Hp} {Q:VK} (e:subS mp σ=none::rest) (h:wi σ H fun J H1=>∀D,H1 D=none→jU J D te rest Q H1):fc mp wi (cp 0) dn te σ H Q:=by
 unfold fc
 rw [e]
 exact h
theorem o0 {mp:List (Option Nat)} {wi:TI} {te:TE} {u:TS} {Z:Ends} {i:Nat} {σ rest:L2.St} {H:Hp} (e:subS mp σ=none::rest) (h:wi σ H fun J H1=>∀D,H1 D=none→jU J D te rest (fun x H2=>cp i x σ H2 (u Z)) H1):
 tSeq (tAsg (fc mp wi (cp 0) dn te) (cp i)) u Z σ H:=bn e h
def CompN (n i:Nat) (D:Addr) (acc:List V) (Pv:Nat→List V→Hp→Prop):VK:=fun v H6=>H6 D=some (.lst acc)∧acc.length < sizeLine∧∃m',m' < n - i∧(m'=n - (i+1)∧i+1≤n∧Pv (i+1) (acc++ [v]) (upd H6 D (.lst (acc++ [v]))))
theorem CompN.mk {n i:Nat} {D:Addr} {acc:List V} {Pv:Nat→List V→Hp→Prop} {v:V} {H6:Hp} (hi:i < n) (hl:acc.length < sizeLine) (h1:H6 D=some (.lst acc)) (h2:Pv (i+1) (acc++ [v]) (upd H6 D (.lst (acc++ [v])))):CompN n i D acc Pv v H6:=
 ⟨h1,hl,n - (i+1),by omega,rfl,hi,h2⟩
theorem oV {J:It} {D:Addr} {te:TE} {rest:L2.St} {Q:VK} {H1:Hp} (n:Nat) (Pv:Nat→List V→Hp→Prop) (h0:Pv 0 [] (upd H1 D (.lst [])))
 (hgo:∀i acc H,i < n→Pv i acc H→J.go i H)
 (hs:∀i x acc H H',i < n→Pv i acc H→J.yld i H x H'→te (some x::rest) H' (CompN n i D acc Pv))
 (hd:∀acc H,Pv n acc H→J.stop n H∧Q (.ref D) H):jU J D te rest Q H1:=by
 refine ⟨fun i m acc H=>m=n - i∧i≤n∧Pv i acc H,⟨n,by simp,Nat.zero_le _,h0⟩,?_⟩
 rintro i m acc H ⟨rfl,hi,p⟩
 by_cases hlt:i < n
 · refine .inr ⟨hgo i acc H hlt p,fun x H' y=> ?_⟩
   refine ⟨ext1,?_⟩
   show (if true=true then te (some x::rest) H' (CompN n i D acc Pv) else∃m',m' < n - i∧(m'=n - (i+1)∧i+1≤n∧Pv (i+1) acc H'))
   exact iteT (hs i x acc H H' hlt p y)
 · have e:i=n:=by omega
   subst e
   exact .inl (hd acc H p)
theorem dl {K:PySem.W.Frag} {a D:Addr} {xs:List V} {te:TE} {rest:L2.St} {Q:VK} {H1:Hp} (Pv:Nat→List V→Hp→Prop) (h0:Pv 0 [] (upd H1 D (.lst [])))
 (hl:∀i acc H,Pv i acc H→SqT K H a xs)
 (hs:∀i x acc H,i < xs.length→xs[i]?=some x→Pv i acc H→te (some x::rest) H (CompN xs.length i D acc Pv))
 (hd:∀acc H,Pv xs.length acc H→Q (.ref D) H):jU (Itt K a) D te rest Q H1:=by
 refine oV xs.length Pv h0 (fun i acc H hi p=>⟨xs,xs[i],hl i acc H p,by simp [hi]⟩) (fun i x acc H H' hi p y=> ?_) fun acc H p=>⟨⟨xs,hl _ acc H p,Nat.le_refl _⟩,hd acc H p⟩
 obtain ⟨e,y⟩:=y
 subst e
 exact hs i x acc _ hi (y xs (hl i acc _ p)) p
theorem bV {n:Nat} {D:Addr} {te:TE} {rest:L2.St} {Q:VK} {H1:Hp} (Pv:Nat→List V→Hp→Prop) (h0:Pv 0 [] (upd H1 D (.lst [])))
 (hs:∀(i:Nat) acc H,i < n→Pv i acc H→te (some (.int (0+(i:Int)))::rest) H (CompN n i D acc Pv))
 (hd:∀acc H,Pv n acc H→Q (.ref D) H):jU (Itr 0 n) D te rest Q H1:=by
 refine oV n Pv h0 (fun i acc H hi p=>hi) (fun i x acc H H' hi p y=> ?_) fun acc H p=>⟨Nat.le_refl _,hd acc H p⟩
 obtain ⟨e,y⟩:=y
 subst e y
 exact hs i acc _ hi p
end L2
namespace Tk
open PySem PySem.Spec PyProof.Rows L2
inductive KT where
 |lf (k:Key)
 |tp (ts:List KT)
noncomputable instance:DecidableEq KT:=Classical.typeDecidableEq KT
mutual
noncomputable def KT.depth:KT→Nat
 | .lf _=>0
 | .tp ts=>KTs.depth ts+1
noncomputable def KTs.depth:List KT→Nat
 | []=>0
 |t::ts=>max (KT.depth t) (KTs.depth ts)
end
theorem fo:∀ {ts:List KT} {t:KT},t∈ts→t.depth≤KTs.depth ts
 |a::ts,t,h=>by
  unfold KTs.depth
  rcases List.mem_cons.mp h with rfl|h
  · omega
  · have:=fo h
    omega
mutual
def KAt (h:Heap):Value→KT→Prop
 |v, .lf k=>io k v=true
 |v, .tp ts=>∃a o items n,v= .ref a∧h.get? a=some o∧o.cls= .type "tuple"∧o.data= .seq items n∧KsAt h items.toList ts
def KsAt (h:Heap):List Value→List KT→Prop
 |vs,[]=>vs= []
 |vs,t::ts=>∃v r,vs=v::r∧KAt h v t∧KsAt h r ts
end
mutual
theorem KAt.keep {h h':Heap} (k:∀a o items n,h.get? a=some o→o.data= .seq items n→h'.get? a=some o):∀ {v:Value} {t:KT},KAt h v t→KAt h' v t
 |v, .lf k,x=>by unfold KAt at x ⊢;exact x
 |v, .tp ts,x=>by
  unfold KAt at x ⊢
  obtain ⟨a,o,items,n,e,g,c,d,r⟩:=x
  exact ⟨a,o,items,n,e,k a o items n g d,c,d,KsAt.keep k r⟩
theorem KsAt.keep {h h':Heap} (k:∀a o items n,h.get? a=some o→o.data= .seq items n→h'.get? a=some o):∀ {vs:List Value} {ts:List KT},KsAt h vs ts→KsAt h' vs ts
 |vs,[],x=>by unfold KsAt at x ⊢;exact x
 |vs,t::ts,x=>by
  unfold KsAt at x ⊢
  obtain ⟨v,r,e,x1,x2⟩:=x
  exact ⟨v,r,e,KAt.keep k x1,KsAt.keep k x2⟩
end
mutual
theorem KAt.det {h:Heap}:∀ {v:Value} {t u:KT},KAt h v t→KAt h v u→t=u
 |v, .lf k, .lf j,x,y=>by
  unfold KAt at x y
  rcases aO x with ⟨i,t,rfl,rfl⟩|⟨x',t,rfl,rfl⟩
  · rcases aO y with ⟨i',t',rfl,e⟩|⟨y',t',rfl,e⟩
    · injection e with e1 _
      rw [e1]
    · cases e
  · rcases aO y with ⟨i',t',rfl,e⟩|⟨y',t',rfl,e⟩
    · cases e
    · injection e with e1 _
      rw [e1]
 |v, .lf k, .tp us,x,y=>by
  unfold KAt at x y
  obtain ⟨a,o,items,n,rfl,_⟩:=y
  rcases aO x with ⟨i,t,rfl,e⟩|⟨x',t,rfl,e⟩<;>cases e
 |v, .tp ts, .lf k,x,y=>by
  unfold KAt at x y
  obtain ⟨a,o,items,n,rfl,_⟩:=x
  rcases aO y with ⟨i,t,rfl,e⟩|⟨x',t,rfl,e⟩<;>cases e
 |v, .tp ts, .tp us,x,y=>by
  unfold KAt at x y
  obtain ⟨a,o,items,n,rfl,g,c,d,r⟩:=x
  obtain ⟨a',o',items',n',e,g',c',d',r'⟩:=y
  injection e with e
  subst e
  rw [g] at g'
  cases g'
  rw [d] at d'
  injection d' with d1 _
  subst d1
  rw [KsAt.det r r']
theorem KsAt.det {h:Heap}:∀ {vs:List Value} {ts us:List KT},KsAt h vs ts→KsAt h vs us→ts=us
 |vs,[],[],_,_=>rfl
 |vs,[],u::us,x,y=>by
  unfold KsAt at x y
  obtain ⟨v,r,e,_⟩:=y
  rw [x] at e
  cases e
 |vs,t::ts,[],x,y=>by
  unfold KsAt at x y
  obtain ⟨v,r,e,_⟩:=x
  rw [y] at e
  cases e
 |vs,t::ts,u::us,x,y=>by
  unfold KsAt at x y
  obtain ⟨v,r,rfl,x1,x2⟩:=x
  obtain ⟨v',r',e,y1,y2⟩:=y
  cases e
  rw [KAt.det x1 y1,KsAt.det x2 y2]
end
theorem KsAt.len {h:Heap}:∀ {vs:List Value} {ts:List KT},KsAt h vs ts→vs.length=ts.length
 |vs,[],x=>by unfold KsAt at x;rw [x];rfl
 |vs,t::ts,x=>by
  unfold KsAt at x
  obtain ⟨v,r,rfl,_,x2⟩:=x
  rw [List.length_cons,List.length_cons,KsAt.len x2]
theorem KsAt.get {h:Heap}:∀ {vs:List Value} {ts:List KT} {j:Nat} {v:Value},KsAt h vs ts→vs[j]?=some v→∃t,ts[j]?=some t∧KAt h v t
 |vs,[],j,v,x,e=>by
  unfold KsAt at x
  rw [x] at e
  cases e
 |vs,t::ts,0,v,x,e=>by
  unfold KsAt at x
  obtain ⟨v',r,rfl,x1,_⟩:=x
  cases e
  exact ⟨t,rfl,x1⟩
 |vs,t::ts,j+1,v,x,e=>by
  unfold KsAt at x
  obtain ⟨v',r,rfl,_,x2⟩:=x
  exact KsAt.get (j:=j) x2 e
section
variable (prog:Program) (w:World)
mutual
noncomputable def KT.hash:KT→Int
 | .lf k=>(bq prog w).hash k
 | .tp ts=>reduceHash (Builtin.Tuple.tupleHashOf (KTs.hash ts))
noncomputable def KTs.hash:List KT→List Int
 | []=> []
 |t::ts=>KT.hash t::KTs.hash ts
end
end
mutual
noncomputable def KT.draws:KT→Nat
 | .lf _=>1
 | .tp ts=>KTs.draws ts+1
noncomputable def KTs.draws:List KT→Nat
 | []=>0
 |t::ts=>KT.draws t+KTs.draws ts
end
theorem lY (prog:Program) (w:World):∀(a b:List KT),KTs.hash prog w (a++b)=KTs.hash prog w a++KTs.hash prog w b
 | [],b=>by simp [KTs.hash]
 |t::a,b=>by simp [KTs.hash,lY prog w a b]
theorem jL:∀(a b:List KT),KTs.draws (a++b)=KTs.draws a+KTs.draws b
 | [],b=>by simp [KTs.draws]
 |t::a,b=>by simp [KTs.draws,jL a b,Nat.add_assoc]
section
variable {prog:Program} {w:World}
theorem uK:∀(n:Nat) {A:Around} {E:Value→Shared→Prop} {s:Shared} {t:KT} {v:Value} {Q:Int→Shared→Prop},t.depth≤n→A.units+n < cLine→KAt s.heap v t→Q (t.hash prog w) {s with toks:=s.toks+t.draws}→wpAny (model prog w) A (pyHash v) Q E s:=by
 intro n
 induction n with
 |zero=>
  intro A E s t v Q hd hu hk h
  cases t with
  |tp ts=>simp [KT.depth] at hd
  |lf k=>
   unfold KAt at hk
   simp only [KT.hash,KT.draws] at h
   exact (bq prog w).pyHash hk h
 |succ n ih=>
  intro A E s t v Q hd hu hk h
  cases t with
  |lf k=>
   unfold KAt at hk
   simp only [KT.hash,KT.draws] at h
   exact (bq prog w).pyHash hk h
  |tp ts=>
   unfold KAt at hk
   obtain ⟨a,o,items,m,rfl,g,c,d,r⟩:=hk
   have ty:s.TypeIs (.ref a) "tuple":=⟨o,g,c⟩
   have hd':KTs.depth ts≤n:=by
    unfold KT.depth at hd
    omega
   simp only [KT.hash,KT.draws] at h
   unfold pyHash
   unfold pyHashByItsType
   refine wpAny_bind (wpAny_cRoomFor_or (.inr (by omega)) (wpAny_bind (wpAny_specialOf ty F.slot_tuple_hash.lookup ?_)))
   show wpAny _ _ (if (some (Value.builtin "tuple.__hash__")==some Value.none)=true then _ else _) _ _ _
   rw [if_neg (fun z=>by rw [beq_builtin_none] at z;cases z)]
   refine wpAny_bind (wpAny_specialOf ty F.slot_tuple_hash.lookup ?_)
   show wpAny _ _ (do let y←callSpecialIfBoundUnlessNone? (.ref a) "__hash__" _;_) _ _ _
   refine wpAny_bind (wpAny_callSpecialIfBoundUnlessNone?_slot ty F.slot_tuple_hash (wpAny_call_entry F.slot_tuple_hash ty F.entry_tuple_hash ?_ (F.args_tuple_hash_1 _)))
   show wpAny _ _ (do let y←Builtin.Tuple.tupleItemsOf (.ref a);_) _ _ _
   refine wpAny_bind (wpAny_tupleItemsOf g d (wpAny_bind ?_))
   rw [←Array.forIn_toList]
   refine wpAny_forIn_list _ (fun rest (b:Array Int) s'=>∃done left,ts=done++left∧KsAt s.heap rest left∧b.toList=KTs.hash prog w done∧s'= {s with toks:=s.toks+KTs.draws done}) _ ?_ ?_ _ _ ⟨[],ts,rfl,r,rfl,by simp [KTs.draws]⟩
   · rintro x rest b s' ⟨done,left,rfl,hl,hb,rfl⟩
     cases left with
     |nil=>
      unfold KsAt at hl
      cases hl
     |cons t left=>
      unfold KsAt at hl
      obtain ⟨v,rr,e,h1,h2⟩:=hl
      cases e
      have dt:t.depth≤n:=by
       have:=fo (show t∈done++t::left by simp)
       omega
      refine wpAny_bind (ih (s:= {s with toks:=s.toks+KTs.draws done}) dt (by first|(show A.units+1+n < cLine;omega)|(show A.units+n < cLine;omega)) h1 ?_)
      have fin:∃done' left',done++t::left=done'++left'∧KsAt s.heap rest left'∧(b.push (KT.hash prog w t)).toList=KTs.hash prog w done'∧({s with toks:=s.toks+KTs.draws done+t.draws}:Shared)= {s with toks:=s.toks+KTs.draws done'}:=by
       refine ⟨done++ [t],left,by simp,h2,by rw [lY,Array.toList_push,hb];simp [KTs.hash],?_⟩
       rw [jL]
       simp [KTs.draws,Nat.add_assoc]
      first
       |exact wpAny_pure fin
       |exact wpAny_bind (wpAny_pure (wpAny_pure fin))
   · rintro b s' ⟨done,left,rfl,hl,hb,rfl⟩
     cases left with
     |cons t left=>
      unfold KsAt at hl
      obtain ⟨v,rr,e,_⟩:=hl
      cases e
     |nil=>
      rw [List.append_nil] at h
      show wpAny _ _ (retInt (Builtin.Tuple.tupleHashOf b.toList)) _ _ _
      rw [hb]
      refine wpAny_ret_mkInt ?_
      show wpAny _ _ (if (decide (-(2:Int)^63≤Builtin.Tuple.tupleHashOf (KTs.hash prog w done))&&decide (Builtin.Tuple.tupleHashOf (KTs.hash prog w done) < 2^63))=true then _ else _) _ _ _
      unfold reduceHash at h
      by_cases hr:(decide (-(2:Int)^63≤Builtin.Tuple.tupleHashOf (KTs.hash prog w done))&&decide (Builtin.Tuple.tupleHashOf (KTs.hash prog w done) < 2^63))=true
      · rw [if_pos hr] at h ⊢
        exact wpAny_pure (by simpa [Nat.add_assoc] using h)
      · rw [if_neg hr] at h ⊢
        exact wpAny_bind (wpAny_rule (wpAny_pure (by simpa [Nat.add_assoc] using h)))
end
open PySem PySem.Spec PyProof.Rows L2
theorem uT {ts us:List KT}:((List.range (min ts.length us.length)).all (fun j=>decide (ts[j]?=us[j]?))&&ts.length==us.length)=decide (ts=us):=by
 by_cases h:ts=us
 · subst h
   simp
 · rw [decide_eq_false h]
   by_cases hl:ts.length=us.length
   · have:∃j,j < ts.length∧ts[j]?≠us[j]?:=by
      refine Classical.byContradiction fun n=>h (List.ext_getElem? fun j=> ?_)
      by_cases hj:j < ts.length
      · exact Classical.byContradiction fun z=>n ⟨j,hj,z⟩
      · rw [List.getElem?_eq_none (by omega),List.getElem?_eq_none (by omega)]
     obtain ⟨j,hj,ne⟩:=this
     rw [Bool.and_eq_false_iff]
     left
     refine List.all_eq_false.mpr ⟨j,List.mem_range.mpr (by omega),?_⟩
     simp [ne]
   · rw [Bool.and_eq_false_iff]
     right
     simp [hl]
theorem xO:∀(n:Nat) {A:Around} {s:Shared} {t u:KT} {a b:Value},t.depth≤n→A.units+n+1 < cLine→KAt s.heap a t→KAt s.heap b u→SeqAt.EqAt A s a b (decide (t=u)):=by
 intro n
 induction n with
 |zero=>
  intro A s t u a b hd hu h1 h2
  cases t with
  |tp ts=>simp [KT.depth] at hd
  |lf k=>
   unfold KAt at h1
   cases u with
   |lf j=>
    unfold KAt at h2
    intro prog w E Q q
    refine (bq prog w).eqBool h1 h2 ?_
    have e:decide (k=j)=decide (KT.lf k=KT.lf j):=by simp
    rw [e]
    exact q
   |tp us=>
    unfold KAt at h2
    obtain ⟨r,o,items,m,rfl,g,c,d,_⟩:=h2
    rw [decide_eq_false (by intro z;cases z)]
    rcases aO h1 with ⟨i,t,rfl,rfl⟩|⟨x,t,rfl,rfl⟩
    · exact SeqAt.EqAt.int_tuple i t (items:=items) ⟨o,g,c,m,d⟩ (by omega)
    · exact SeqAt.EqAt.str_tuple x t (items:=items) ⟨o,g,c,m,d⟩ (by omega)
 |succ n ih=>
  intro A s t u a b hd hu h1 h2
  cases t with
  |lf k=>
   unfold KAt at h1
   cases u with
   |lf j=>
    unfold KAt at h2
    intro prog w E Q q
    refine (bq prog w).eqBool h1 h2 ?_
    have e:decide (k=j)=decide (KT.lf k=KT.lf j):=by simp
    rw [e]
    exact q
   |tp us=>
    unfold KAt at h2
    obtain ⟨r,o,items,m,rfl,g,c,d,_⟩:=h2
    rw [decide_eq_false (by intro z;cases z)]
    rcases aO h1 with ⟨i,t,rfl,rfl⟩|⟨x,t,rfl,rfl⟩
    · exact SeqAt.EqAt.int_tuple i t (items:=items) ⟨o,g,c,m,d⟩ (by omega)
    · exact SeqAt.EqAt.str_tuple x t (items:=items) ⟨o,g,c,m,d⟩ (by omega)
  |tp ts=>
   have h1':=h1
   have h2':=h2
   unfold KAt at h1
   obtain ⟨r,o,items,m,rfl,g,c,d,k1⟩:=h1
   cases u with
   |lf j=>
    unfold KAt at h2
    rw [decide_eq_false (by intro z;cases z)]
    rcases aO h2 with ⟨i,t,rfl,rfl⟩|⟨x,t,rfl,rfl⟩
    · exact SeqAt.EqAt.tuple_int i t (items:=items) ⟨o,g,c,m,d⟩ (by omega)
    · exact SeqAt.EqAt.tuple_str x t (items:=items) ⟨o,g,c,m,d⟩ (by omega)
   |tp us=>
    unfold KAt at h2
    obtain ⟨r',o',items',m',rfl,g',c',d',k2⟩:=h2
    by_cases z:r=r'
    · subst z
      rw [decide_eq_true (KAt.det h1' h2')]
      exact SeqAt.EqAt.same _
    · have hd':KTs.depth ts≤n:=by
       unfold KT.depth at hd
       omega
      have l1:=k1.len
      have l2:=k2.len
      have:=SeqAt.RcAt.tuples (A:=A) (e:=fun j=>decide (ts[j]?=us[j]?)) (show s.heap.IsTuple r items from ⟨o,g,c,m,d⟩) (show s.heap.IsTuple r' items' from ⟨o',g',c',m',d'⟩) (by omega) fun j g1 g2=>by
       obtain ⟨t1,e1,a1⟩:=k1.get (j:=j) (v:=items[j]) (by rw [Array.getElem?_toList];simp [g1])
       obtain ⟨t2,e2,a2⟩:=k2.get (j:=j) (v:=items'[j]) (by rw [Array.getElem?_toList];simp [g2])
       have e:decide (ts[j]?=us[j]?)=decide (t1=t2):=by rw [e1,e2];simp
       rw [e]
       refine ih (A:=A.in1) ?_ (by show A.units+1+n+1 < cLine;omega) a1 a2
       have:=fo (List.mem_of_getElem? e1)
       omega
      have hs1:items.size=ts.length:=by rw [←l1,Array.length_toList]
      have hs2:items'.size=us.length:=by rw [←l2,Array.length_toList]
      rw [hs1,hs2,uT] at this
      have e:decide (KT.tp ts=KT.tp us)=decide (ts=us):=by simp
      rw [e]
      exact SeqAt.EqAt.of_refs z this
theorem qL:∀(n:Nat) {prog:Program} {w:World} {A:Around} {E:Value→Shared→Prop} {s:Shared} {t:KT} {v:Value} {Q:Bool→Shared→Prop},KAt s.heap v t→t.depth≤n→Q true s→wpAny (model prog w) A (eqIsQuiet n v) Q E s:=by
 have leaf:∀(n:Nat) {prog:Program} {w:World} {A:Around} {E:Value→Shared→Prop} {s:Shared} {k:Key} {v:Value} {Q:Bool→Shared→Prop},io k v=true→Q true s→wpAny (model prog w) A (eqIsQuiet n v) Q E s:=by
  intro n prog w A E s k v Q h q
  rw [eqIsQuiet_byValue _ ((bq prog w).byValue k v h)]
  exact wpAny_pure q
 intro n
 induction n with
 |zero=>
  intro prog w A E s t v Q h hd q
  cases t with
  |tp ts=>simp [KT.depth] at hd
  |lf k=>
   unfold KAt at h
   exact leaf 0 h q
 |succ n ih=>
  intro prog w A E s t v Q h hd q
  cases t with
  |lf k=>
   unfold KAt at h
   exact leaf _ h q
  |tp ts=>
   unfold KAt at h
   obtain ⟨a,o,items,m,rfl,g,c,d,r⟩:=h
   have ty:s.TypeIs (.ref a) "tuple":=⟨o,g,c⟩
   have hd':KTs.depth ts≤n:=by
    unfold KT.depth at hd
    omega
   unfold eqIsQuiet
   refine wpAny_bind (wpAny_specialOf ty F.slot_tuple_eq.lookup ?_)
   show wpAny _ _ (do let y←isInstance (.ref a) (.type "tuple");_) _ _ _
   refine wpAny_bind (wpAny_isInstance ty isSubtype_tuple_tuple ?_)
   simp only [Bool.not_true,if_false,Bool.false_eq_true]
   refine wpAny_bind (wpAny_seqItems g d (wpAny_bind ?_))
   show wpAny _ _ (forIn items _ _) _ _ _
   rw [←Array.forIn_toList]
   refine wpAny_forIn_list _ (fun rest b s'=>b.1=none∧s'=s∧∃left,KsAt s.heap rest left∧KTs.depth left≤n) _ ?_ ?_ _ _ ⟨rfl,rfl,ts,r,hd'⟩
   · rintro x rest b s' ⟨hb,rfl,left,hl,hd2⟩
     cases left with
     |nil=>
      unfold KsAt at hl
      cases hl
     |cons t left=>
      unfold KsAt at hl
      obtain ⟨v,rr,e,h1,h2⟩:=hl
      cases e
      unfold KTs.depth at hd2
      refine wpAny_bind (ih h1 (by omega) ?_)
      simp only [Bool.not_true,if_false,Bool.false_eq_true]
      exact wpAny_pure ⟨rfl,rfl,left,h2,by omega⟩
   · rintro ⟨b1,b2⟩ s' ⟨hb,rfl,_⟩
     simp only at hb
     subst hb
     exact wpAny_pure q
noncomputable def treeKind (prog:Program) (w:World):HeapKind prog w (List KT) where
 is:=fun h ts a=>KAt h (.ref a) (.tp ts)∧(KT.tp ts).depth≤8
 hash:=fun ts=>(KT.tp ts).hash prog w
 draws:=fun ts=>(KT.tp ts).draws
 room:=fun A=>A.units+20 < cLine
 inj:=fun x y=>by
  have:=KAt.det x.1 y.1
  injection this
 keeps:=fun {h h' k a d o es ep} x g hd sb=>⟨x.1.keep fun b ob items n e dt=>by
  have ne:b≠d:=fun z=>by
   subst z
   rw [g] at e
   cases e
   rw [hd] at dt
   cases dt
  exact (sb.2 b ne).trans e,x.2⟩
 pyHash:=fun hu x q=>uK 8 x.2 (by omega) x.1 q
 eqBool:=fun {A E s x y a b Q} hu hx hy q=>by
  refine xO 8 (t:= .tp x) (u:= .tp y) hx.2 (by omega) hx.1 hy.1 prog w E Q ?_
  have e:decide (KT.tp x=KT.tp y)=decide (x=y):=by simp
  rw [e]
  exact q
 quiet:=fun x q=>qL 8 x.1 x.2 q
end Tk
namespace Dj
open PySem PySem.Spec PyProof.Rows L2 Tre
def SqX (K:PySem.W.Frag) (H:Hp) (a:Addr) (xs:List V):Prop:=
 H a=some (.tup xs)∨∃(o:Obj) (its:Array Value) (n:Nat),K.lookup a=some o∧o.cls= .type "tuple"∧o.data= .seq its n∧its.size≤sizeLine∧Vals xs its.toList
theorem SqX.sq {K:PySem.W.Frag} {H:Hp} {a:Addr} {xs:List V} (h:SqX K H a xs):SqT K H a xs:=h.elim (fun e=> .inl (.inl e)) .inr
theorem SqX.mono {K:PySem.W.Frag} {H H':Hp} {a:Addr} {xs:List V} (d:Kd H H') (h:SqX K H a xs):SqX K H' a xs:=h.elim (fun e=> .inl (d.tup _ _ e)) .inr
mutual
def KVt (K:PySem.W.Frag) (H:Hp):V→Tk.KT→Prop
 |v, .lf (.inl i)=>v= .int i
 |v, .lf (.inr x)=>v= .str x
 |v, .tp ts=>∃r vs,v= .ref r∧SqX K H r vs∧KVts K H vs ts
def KVts (K:PySem.W.Frag) (H:Hp):List V→List Tk.KT→Prop
 |vs,[]=>vs= []
 |vs,t::ts=>∃v r,vs=v::r∧KVt K H v t∧KVts K H r ts
end
section
variable {P:Program} {w:World} {K:PySem.W.Frag} {H H':Hp} {h:Heap}
mutual
theorem KVt.mono (d:Kd H H'):∀ {v:V} {t:Tk.KT},KVt K H v t→KVt K H' v t
 |v, .lf (.inl i),a=>by unfold KVt at a ⊢;exact a
 |v, .lf (.inr x),a=>by unfold KVt at a ⊢;exact a
 |v, .tp ts,a=>by
  unfold KVt at a ⊢
  obtain ⟨r,vs,e,s,q⟩:=a
  exact ⟨r,vs,e,s.mono d,KVts.mono d q⟩
theorem KVts.mono (d:Kd H H'):∀ {vs:List V} {ts:List Tk.KT},KVts K H vs ts→KVts K H' vs ts
 |vs,[],a=>by unfold KVts at a ⊢;exact a
 |vs,t::ts,a=>by
  unfold KVts at a ⊢
  obtain ⟨v,r,e,a1,a2⟩:=a
  exact ⟨v,r,e,KVt.mono d a1,KVts.mono d a2⟩
end
theorem vL (ok:HOk P w H h) (kin:K.In h) {q:Addr} {vs:List V} (e:SqX K H q vs):∃its:List Value,Vals vs its∧∃o n,h.get? q=some o∧o.cls= .type "tuple"∧o.data= .seq its.toArray n:=by
 rcases e with e|⟨o,its,n,hk,hc,hs,hz,r⟩
 · obtain ⟨_,its,rv,o,h1,h2,n,h3⟩:=(show ObjOk P w H h q (.tup vs) from ok q _ e)
   exact ⟨its,rv,o,n,h1,h2,h3⟩
 · exact ⟨its.toList,r,o,n,kin q o hk,hc,by simpa using hs⟩
mutual
theorem sk (ok:HOk P w H h) (kin:K.In h):∀ {v:V} {t:Tk.KT} {u:Value},KVt K H v t→RelV v u→Tk.KAt h u t
 |v, .lf (.inl i),u,a,r=>by
  unfold KVt at a
  subst a
  obtain ⟨t,rfl⟩:=r
  simp only [Tk.KAt]
  exact jI i t
 |v, .lf (.inr x),u,a,r=>by
  unfold KVt at a
  subst a
  obtain ⟨t,rfl⟩:=r
  simp only [Tk.KAt]
  exact jH x t
 |v, .tp ts,u,a,r=>by
  unfold KVt at a
  obtain ⟨q,vs,rfl,e,as⟩:=a
  obtain rfl:u=Value.ref q:=r
  obtain ⟨its,rv,o,n,h1,h2,h3⟩:=vL ok kin e
  simp only [Tk.KAt]
  exact ⟨q,o,its.toArray,n,rfl,h1,h2,h3,by simpa using kats_of ok kin as rv⟩
theorem kats_of (ok:HOk P w H h) (kin:K.In h):∀ {vs:List V} {ts:List Tk.KT} {us:List Value},KVts K H vs ts→Vals vs us→Tk.KsAt h us ts
 |vs,[],us,a,r=>by
  unfold KVts at a
  subst a
  cases r
  simp [Tk.KsAt]
 |vs,t::ts,us,a,r=>by
  unfold KVts at a
  obtain ⟨v,q,rfl,a1,a2⟩:=a
  cases r with
  |cons r1 r2=>
   simp only [Tk.KsAt]
   exact ⟨_,_,rfl,sk ok kin a1 r1,kats_of ok kin a2 r2⟩
end
end
def KeyAt (K:PySem.W.Frag) (H:Hp) (k:List Tk.KT) (b:Addr):Prop:=∃vs,SqX K H b vs∧KVts K H vs k∧(Tk.KT.tp k).depth≤8
theorem KeyAt.mono {K:PySem.W.Frag} {H H':Hp} {k:List Tk.KT} {b:Addr} (d:Kd H H') (h:KeyAt K H k b):KeyAt K H' k b:=by
 obtain ⟨ts,h1,h2,h3⟩:=h
 exact ⟨ts,h1.mono d,h2.mono d,h3⟩
theorem KeyAt.is {P:Program} {w:World} {K:PySem.W.Frag} {H:Hp} {h:Heap} {k:List Tk.KT} {b:Addr} (ok:HOk P w H h) (kin:K.In h) (x:KeyAt K H k b):(Tk.treeKind P w).is h k b:=by
 obtain ⟨vs,h1,h2,h4⟩:=x
 have:=sk ok kin (v:= .ref b) (t:= .tp k) (u:= .ref b) (by unfold KVt;exact ⟨b,vs,rfl,h1,h2⟩) rfl
 exact ⟨this,h4⟩
abbrev Ent:=List Tk.KT×Addr×V
abbrev RE:List Ent→List (List Tk.KT×Addr×Value)→Prop:=Paired fun p q=>p.1=q.1∧p.2.1=q.2.1∧RelV p.2.2 q.2.2
noncomputable def dJ (P:Program) (w:World) (a:Addr) (kvs:List Ent):HO:= .ext fun h=>kvs.length≤sizeLine∧(a==sysModules)=false∧
 ∃xs:List (List Tk.KT×Addr×Value),RE kvs xs∧∃o es ep,h.get? a=some o∧o.ExactDict∧o.data= .dict es ep∧es.toList=xs.map (entryOfKey (Tk.treeKind P w))∧(xs.map (·.1)).Nodup
structure DJ (P:Program) (w:World) (K:PySem.W.Frag) (H:Hp) (a:Addr) (kvs:List Ent):Prop where
 at_:H a=some (dJ P w a kvs)
 keys:∀p∈kvs,KeyAt K H p.1 p.2.1
noncomputable def valJ (kvs:List Ent) (k:List Tk.KT):Option V:=(kvs.find? fun p=>decide (p.1=k)).map (·.2.2)
noncomputable def putJ (kvs:List Ent) (k:List Tk.KT) (b:Addr) (v:V):List Ent:=
 if (valJ kvs k).isSome then kvs.map (fun p=>if p.1=k then (p.1,p.2.1,v) else p) else kvs++ [(k,b,v)]
theorem qg {p:Ent} {r:List Ent} {k:List Tk.KT} (e:p.1=k):valJ (p::r) k=some p.2.2:=by simp [valJ,List.find?_cons,e]
theorem qh {p:Ent} {r:List Ent} {k:List Tk.KT} (e:¬p.1=k):valJ (p::r) k=valJ r k:=by simp [valJ,List.find?_cons,e]
theorem RE.val {kvs:List Ent} {xs:List (List Tk.KT×Addr×Value)} (r:RE kvs xs) (k:List Tk.KT):RelO (valJ kvs k) ((atKey xs k).map (·.2)):=by
 induction r with
 |nil=>exact True.intro
 | @cons p q ps qs h t ih=>
  obtain ⟨h1,_,h2⟩:=h
  by_cases e:p.1=k
  · have e':q.1=k:=h1.symm.trans e
    have b:atKey (q::qs) k=some q.2:=by simp [atKey,List.find?_cons,e']
    rw [qg e,b];exact h2
  · have e':¬q.1=k:=fun z=>e (h1.trans z)
    have b:atKey (q::qs) k=atKey qs k:=by simp [atKey,List.find?_cons,e']
    rw [qh e,b];exact ih
theorem RE.repl {kvs:List Ent} {xs:List (List Tk.KT×Addr×Value)} (r:RE kvs xs) (k:List Tk.KT) {y:V} {u:Value} (ry:RelV y u):
 RE (kvs.map fun p=>if p.1=k then (p.1,p.2.1,y) else p) (xs.map (putAt k u)):=by
 induction r with
 |nil=>exact .nil
 | @cons p q ps qs h t ih=>
  rw [List.map_cons,List.map_cons]
  refine .cons ?_ ih
  obtain ⟨h1,h2,h3⟩:=h
  unfold putAt
  by_cases e:p.1=k
  · rw [if_pos e,if_pos (h1.symm.trans e)];exact ⟨h1,h2,ry⟩
  · rw [if_neg e,if_neg (fun z=>e (h1.trans z))];exact ⟨h1,h2,h3⟩
theorem RE.put {kvs:List Ent} {xs:List (List Tk.KT×Addr×Value)} (r:RE kvs xs) (k:List Tk.KT) {b:Addr} {y:V} {u:Value} (ry:RelV y u):RE (putJ kvs k b y) (storedH xs k b u):=by
 have e:(valJ kvs k).isSome=(atKey xs k).isSome:=by
  rw [(r.val k).isSome_eq,Option.isSome_map]
 unfold putJ storedH
 rw [e]
 by_cases q:(atKey xs k).isSome=true
 · rw [if_pos q,if_pos q];exact r.repl k ry
 · rw [if_neg q,if_neg q];exact Paired.snoc r ⟨rfl,rfl,ry⟩
theorem qM {kvs:List Ent} {k:List Tk.KT} {b:Addr} {v:V} {p:Ent} (h:p∈putJ kvs k b v):(∃q∈kvs,p.1=q.1∧p.2.1=q.2.1)∨(p.1=k∧p.2.1=b):=by
 unfold putJ at h
 split at h
 · obtain ⟨q,m,e⟩:=List.mem_map.mp h
   split at e
   · subst e;exact .inl ⟨q,m,rfl,rfl⟩
   · subst e;exact .inl ⟨q,m,rfl,rfl⟩
 · rcases List.mem_append.mp h with m|m
   · exact .inl ⟨p,m,rfl,rfl⟩
   · rw [List.mem_singleton.mp m];exact .inr ⟨rfl,rfl⟩
theorem Kd.updJ {P:Program} {w:World} {H:Hp} {a:Addr} {kvs:List Ent} {o:HO} (h:H a=some (dJ P w a kvs)):Kd H (upd H a o):=by
 refine ⟨fun b zs e=> ?_,fun b zs e=>⟨zs,?_⟩⟩
 · rw [aB (fun z=>by rw [z,h] at e;cases e)];exact e
 · rw [aB (fun z=>by rw [z,h] at e;cases e)];exact e
theorem DJ.put {P:Program} {w:World} {K:PySem.W.Frag} {H:Hp} {a b:Addr} {kvs:List Ent} {k:List Tk.KT} {v:V} (d:DJ P w K H a kvs) (hk:KeyAt K H k b):DJ P w K (upd H a (dJ P w a (putJ kvs k b v))) a (putJ kvs k b v):=by
 refine ⟨ac,fun p m=> ?_⟩
 refine KeyAt.mono (Kd.updJ d.at_) ?_
 rcases qM m with ⟨q,mq,e1,e2⟩|⟨e1,e2⟩
 · rw [e1,e2];exact d.keys q mq
 · rw [e1,e2];exact hk
theorem DJ.kd {P:Program} {w:World} {K:PySem.W.Frag} {H H':Hp} {a:Addr} {kvs:List Ent} (d:DJ P w K H a kvs) (k:Kd H H') (e:H' a=some (dJ P w a kvs)):DJ P w K H' a kvs:=⟨e,fun p m=>(d.keys p m).mono k⟩
section
variable {P:Program} {w:World} {H:Hp} {h:Heap} {a:Addr}
end
section
variable {X:Cx} {pos pos' apos cpos:Pos} {o i e f value:Expr} {td ty tv tx:TE}
variable {P:Program} {w:World} {K:PySem.W.Frag}
end
end Dj
namespace Tre
open PySem L2
theorem iK {x y:Str} (h:x.cps.toList=y.cps.toList):x=y:=by
 cases x
 cases y
 simp only [Str.mk.injEq]
 exact Array.toList_inj.mp h
theorem gg {ts us:List Tr} (h:∀t∈ts,∀u∈us,code t=code u→t=u) (e:codes ts=codes us):ts=us:=by
 induction ts generalizing us with
 |nil=>cases us with
  |nil=>rfl
  |cons u us=>simp [codes] at e
 |cons t ts ih=>
  cases us with
  |nil=>simp [codes] at e
  |cons u us=>
   simp only [codes,List.cons.injEq] at e
   rw [h t List.mem_cons_self u List.mem_cons_self e.1,ih (fun a ma b mb=>h a (List.mem_cons_of_mem _ ma) b (List.mem_cons_of_mem _ mb)) e.2]
theorem nl {x y:String} (h:(Str.ofString x).cps.toList≠(Str.ofString y).cps.toList) {r s:List Co}:Co.tup (.str (Str.ofString x).cps.toList::r)=Co.tup (.str (Str.ofString y).cps.toList::s)→False:=fun e=>by
 simp only [Co.tup.injEq,List.cons.injEq,Co.str.injEq] at e
 exact h e.1
theorem wB:∀(n:Nat) {k:So} {t u:Tr},t.depth≤n→Ty k t→Ty k u→code t=code u→t=u:=by
 intro n
 induction n with
 |zero=>
  intro k t u hd h1 h2
  cases h1<;>simp [Tr.depth] at hd
 |succ n ih=>
  intro k t u hd h1 h2 e
  have sub:∀ {ts:List Tr} {t:Tr},(Tr.tup ts).depth≤n+1→t∈ts→t.depth≤n:=fun h m=>by
   unfold Tr.depth at h
   have:=cn m
   omega
  have sub2:∀ {ts l:List Tr} {t:Tr},(Tr.tup ts).depth≤n+1→Tr.tup l∈ts→t∈l→t.depth≤n:=fun h m m2=>by
   have h3:=sub h m
   unfold Tr.depth at h3
   have:=cn m2
   omega
  cases h1<;>cases h2<;>simp only [code,codes] at e
  all_goals first
   |exact (nl (by decide +kernel) e).elim
   |skip
  all_goals simp only [Co.tup.injEq,List.cons.injEq,Co.str.injEq,Co.num.injEq,and_true,true_and] at e
  · rw [iK e]
  · rename_i x ts _ h1 y us _ h2
    rw [iK e.1,gg (fun a ma b mb=>ih (sub2 hd (by simp) ma) (h1 a ma) (h2 b mb)) e.2]
  · rw [e.1,e.2]
  · rename_i t1 f1 a1 b1 t2 f2 a2 b2
    rw [ih (sub hd (by simp)) a1 a2 e.1,ih (sub hd (by simp)) b1 b2 e.2]
  · rw [iK e]
  · rename_i p1 f1 a1 b1 p2 f2 a2 b2
    rw [gg (fun a ma b mb=>ih (sub2 hd (by simp) ma) (a1 a ma) (a2 b mb)) e.1,ih (sub hd (by simp)) b1 b2 e.2]
  · rename_i t1 u1 a1 b1 t2 u2 a2 b2
    rw [ih (sub hd (by simp)) a1 a2 e.1,ih (sub hd (by simp)) b1 b2 e.2]
  · rename_i w1 a1 w2 a2
    rw [ih (sub hd (by simp)) a1 a2 e]
  · rename_i l1 a1 l2 a2
    rw [gg (fun a ma b mb=>ih (sub2 hd (by simp) ma) (a1 a ma) (a2 b mb)) e]
  · rename_i l1 a1 l2 a2
    rw [gg (fun a ma b mb=>ih (sub2 hd (by simp) ma) (a1 a ma) (a2 b mb)) e]
  · rename_i w1 b1 a1 w2 b2 a2
    have e2:b1=b2:=by
     have:=e.2
     cases b1<;>cases b2<;>simp at this ⊢
    rw [ih (sub hd (by simp)) a1 a2 e.1,e2]
end Tre
namespace Wd
open PySem L2 Tre Mth Dj
def Lt2 (e:Nat) (x:Int):Prop:=x.natAbs < 2^e
theorem Lt2.mono {m n:Nat} {x:Int} (h:Lt2 m x) (hn:m≤n):Lt2 n x:=Nat.lt_of_lt_of_le h (Nat.pow_le_pow_right (by decide) hn)
theorem Lt2.big {n:Nat} {x:Int} (h:Lt2 n x) (hn:n≤8000):Big x:=h.mono hn
theorem Lt2.div {e:Nat} {x y:Int} (h:Lt2 e x):Lt2 e (x / y):=Nat.lt_of_le_of_lt (iy x y) h
theorem Lt2.mul {m n:Nat} {x y:Int} (h1:Lt2 m x) (h2:Lt2 n y):Lt2 (m+n) (x*y):=by
 unfold Lt2 at*
 rw [Int.natAbs_mul,Nat.pow_add]
 exact Nat.mul_lt_mul'' h1 h2
theorem Lt2.add {m:Nat} {x y:Int} (h1:Lt2 m x) (h2:Lt2 m y):Lt2 (m+1) (x+y):=by
 unfold Lt2 at*
 have:=Int.natAbs_add_le x y
 rw [Nat.pow_succ]
 omega
theorem oF {m n:Nat} {a b c d:Int} (ha:Lt2 m a) (hb:Lt2 m b) (hc:Lt2 n c) (hd:Lt2 n d):Lt2 (m+n+1) (pX a b c d)∧Lt2 (m+n+1) (pY a b c d):=by
 refine ⟨?_,?_⟩
 · unfold pX
   refine Lt2.div ?_
   unfold pT
   refine Lt2.add (ha.mul hd.div) ?_
   rw [Nat.add_comm]
   exact hc.mul hb.div
 · unfold pY
   exact (hb.div.mul hd.div).mono (by omega)
theorem lq {m n:Nat} {a b c d:Int} (ha:Lt2 m a) (hb:Lt2 m b) (hc:Lt2 n c) (hd:Lt2 n d):Lt2 (m+n) (tX a b c d)∧Lt2 (m+n) (tY a b c d):=⟨ha.div.mul hc.div,hb.div.mul hd.div⟩
theorem lB {a b c d:Int} (hb:0 < b) (hd:0 < d):0 < pY a b c d:=by
 have g0:(0:Int) < (Int.gcd b d:Int):=by
  have:=Int.gcd_pos_of_ne_zero_right b (show d≠0 by omega)
  omega
 have e0:(0:Int) < pE a b c d:=by
  have:=Int.gcd_pos_of_ne_zero_right (pT a b c d) (show (Int.gcd b d:Int)≠0 by omega)
  unfold pE
  omega
 unfold pY
 have h1:0 < b / (Int.gcd b d:Int):=Int.ediv_pos_of_pos_of_dvd hb (by omega) (Int.gcd_dvd_left b d)
 have h2:0 < d / pE a b c d:=by
  refine Int.ediv_pos_of_pos_of_dvd hd (by omega) ?_
  unfold pE
  exact Int.dvd_trans (Int.gcd_dvd_right (pT a b c d) (Int.gcd b d:Int)) (Int.gcd_dvd_right b d)
 exact Int.mul_pos h1 h2
theorem pi {a b c d:Int} (hb:0 < b) (hd:0 < d):0 < tY a b c d:=by
 have g1:(0:Int) < (Int.gcd c b:Int):=by
  have:=Int.gcd_pos_of_ne_zero_right c (show b≠0 by omega)
  omega
 have g2:(0:Int) < (Int.gcd a d:Int):=by
  have:=Int.gcd_pos_of_ne_zero_right a (show d≠0 by omega)
  omega
 unfold tY
 exact Int.mul_pos (Int.ediv_pos_of_pos_of_dvd hb (by omega) (Int.gcd_dvd_right c b)) (Int.ediv_pos_of_pos_of_dvd hd (by omega) (Int.gcd_dvd_right a d))
abbrev Fr:=Int×Int
def frT (p:Fr):Tr:= .tup [.int p.1, .int p.2]
structure Gf (e:Nat) (p:Fr):Prop where
 pos:0 < p.2
 top:Lt2 e p.1
 bot:Lt2 e p.2
theorem Gf.mono {m n:Nat} {p:Fr} (h:Gf m p) (hn:m≤n):Gf n p:=⟨h.pos,h.top.mono hn,h.bot.mono hn⟩
def zero:Fr:=(0,1)
def Gv (p:Fr):Prop:=Gf 200 p∧e9 p.1 p.2
theorem uL:Gf 200 zero:=⟨by decide,by show (0:Nat) < 2^200;exact Nat.pow_pos (by decide),by show (1:Nat) < 2^200;decide +kernel⟩
theorem oQ:Gv zero:=⟨uL,by decide,by decide⟩
noncomputable def eK (p q:Fr):Fr:=(pX p.1 p.2 q.1 q.2,pY p.1 p.2 q.1 q.2)
noncomputable def bZ (p q:Fr):Fr:=(tX p.1 p.2 q.1 q.2,tY p.1 p.2 q.1 q.2)
theorem Gf.plus {m n:Nat} {p q:Fr} (h1:Gf m p) (h2:Gf n q):Gf (m+n+1) (eK p q):=⟨lB h1.pos h2.pos,(oF h1.top h1.bot h2.top h2.bot).1,(oF h1.top h1.bot h2.top h2.bot).2⟩
theorem Gf.times {m n:Nat} {p q:Fr} (h1:Gf m p) (h2:Gf n q):Gf (m+n) (bZ p q):=⟨pi h1.pos h2.pos,(lq h1.top h1.bot h2.top h2.bot).1,(lq h1.top h1.bot h2.top h2.bot).2⟩
structure Wld where
 fl:Str→Bool
 va:Str→Fr
 ca:List Tk.KT→Fr
structure Wld.Ok (W:Wld):Prop where
 va:∀x,Gv (W.va x)
 ca:∀k,Gv (W.ca k)
def Gp (p:Tr):Prop:=∃tm f,p= .tup [tm,frT f]∧Ty .tm tm∧tm.depth≤5∧Gf 603 f
inductive Gw:Tr→Prop
 |fl (x:Str):Gw (.tup [s_ "flag", .str x])
 |mo (ps:List Tr) (f:Fr):ps.length≤3→(∀p∈ps,Gp p)→Gf 900 f→Gw (.tup [s_ "most", .tup ps,frT f])
 |li (t u:Tr):Ty .tm t→Ty .tm u→t.depth≤7→u.depth≤7→Gw (.tup [s_ "like",t,u])
 |no (w:Tr):Gw w→Gw (.tup [s_ "not",w])
 |bo (l:List Tr):l.length≤3→(∀w∈l,Gw w)→Gw (.tup [s_ "both", .tup l])
 |ei (l:List Tr):l.length≤3→(∀w∈l,Gw w)→Gw (.tup [s_ "either", .tup l])
theorem Gw.ty {t:Tr} (h:Gw t):Ty .ws t:=by
 induction h with
 |fl x=>exact .fl x
 |mo ps f _ hp _=>
  refine .mo ps _ (fun p m=> ?_) (.fr _ _)
  obtain ⟨tm,f,rfl,h1,_⟩:=hp p m
  exact .pr _ _ h1 (.fr _ _)
 |li t u h1 h2 _ _=>exact .li t u h1 h2
 |no w _ ih=>exact .no w ih
 |bo l _ _ ih=>exact .bo l ih
 |ei l _ _ ih=>exact .ei l ih
inductive Gl:Tr→Prop
 |mk (t:Tr) (b:Bool):Gw t→Gl (.tup [t, .bl b])
theorem Gl.ty {t:Tr} (h:Gl t):Ty .lt t:=by
 cases h with
 |mk t b h=>exact .lt t b h.ty
end Wd
namespace K23
open PySem L2 Mth
noncomputable def top (i:Nat):Stmt:=PySem.Challenge.pw_smallword_k23_steps_by_their_form.main.body.getD i (.Pass ⟨0,0,0,0⟩)
noncomputable abbrev ik:Stmt:=uJ (top 1) 0
noncomputable abbrev sCd:Stmt:=top 5
noncomputable abbrev sFr:Stmt:=top 6
noncomputable abbrev jz:Stmt:=top 7
noncomputable abbrev i0:Stmt:=top 8
noncomputable abbrev gG:Stmt:=top 9
noncomputable abbrev eX:Stmt:=top 10
noncomputable abbrev i3:Stmt:=top 11
noncomputable abbrev jy:Stmt:=top 12
noncomputable abbrev sIw:Stmt:=top 16
noncomputable abbrev sIto:Stmt:=top 17
noncomputable abbrev sNmQ:Stmt:=top 18
noncomputable abbrev sFrQ:Stmt:=top 19
noncomputable abbrev sTmQ:Stmt:=top 20
noncomputable abbrev sCtQ:Stmt:=top 21
noncomputable abbrev sPrQ:Stmt:=top 23
noncomputable abbrev sSmQ:Stmt:=top 24
noncomputable abbrev sSum:Stmt:=top 25
noncomputable abbrev gY:Stmt:=top 26
noncomputable abbrev eW:Stmt:=top 27
noncomputable abbrev sAtQ:Stmt:=top 29
noncomputable abbrev sWsQ:Stmt:=top 30
noncomputable abbrev sStp:Stmt:=top 34
noncomputable abbrev sSt1:Stmt:=top 35
noncomputable abbrev sSt2:Stmt:=top 36
noncomputable abbrev sCnt:Stmt:=top 37
noncomputable abbrev sThQ:Stmt:=top 38
noncomputable abbrev sPtQ:Stmt:=top 39
noncomputable abbrev sChQ:Stmt:=top 40
noncomputable abbrev jv:Stmt:=top 42
noncomputable abbrev fG:Stmt:=top 43
noncomputable abbrev hU:Stmt:=top 44
noncomputable abbrev gz:Stmt:=top 45
noncomputable abbrev gU:Stmt:=top 46
noncomputable abbrev ju:Stmt:=top 47
noncomputable abbrev jC:Stmt:=top 48
noncomputable abbrev jE:Stmt:=top 49
noncomputable abbrev jt:Stmt:=top 50
noncomputable abbrev sFew:Stmt:=top 51
noncomputable abbrev jA:Stmt:=top 52
noncomputable abbrev eV:Stmt:=top 53
noncomputable abbrev eU:Stmt:=top 54
noncomputable abbrev gZ:Stmt:=top 55
noncomputable abbrev gJ:Stmt:=top 56
noncomputable abbrev gK:Stmt:=top 57
noncomputable abbrev jx:Stmt:=top 58
noncomputable abbrev jB:Stmt:=top 59
noncomputable abbrev fJ:Stmt:=top 60
noncomputable abbrev ij:Stmt:=top 61
noncomputable abbrev sLNb:Stmt:=top 62
noncomputable abbrev sLTh:Stmt:=top 63
noncomputable abbrev sLPt:Stmt:=top 64
noncomputable abbrev jD:Stmt:=top 65
noncomputable abbrev sLSt:Stmt:=top 66
noncomputable abbrev sLaw:Stmt:=top 67
section
variable {P:Program} {w:World} {K:PySem.W.Frag} {mg:Str→Option Value} {base:Heap}
structure Blt (mg:Str→Option Value):Prop where
 ab:mg "abs"=none
 le:mg "len"=none
 ra:mg "range"=none
 isi:mg "isinstance"=none
 tu:mg "tuple"=none
 it:mg "int"=none
 bo:mg "bool"=none
 li:mg "list"=none
 st:mg "str"=none
 al:mg "all"=none
 an:mg "any"=none
 zi:mg "zip"=none
 so:mg "sorted"=none
 ve:mg "ValueError"=none
def n6 (K:PySem.W.Frag):Sp:=fun vs H Q _=>∃(x C fI:Addr) (y:V),vs= [.ref x,y]∧H x=some (Exo C x)∧XCls K C fI∧Q .non H
theorem scI:ax ["self","words"] ["self","words"] (af ik):=⟨rfl,rfl,rfl,by decide +kernel,rfl,by decide +kernel,by decide +kernel⟩
theorem oI {f:Addr} {fd:FuncData} (F:Fun K "__init__" "WishError.__init__" ik f fd) (B:Blt mg):FnOk P w K mg base CX0 1 f fd ["self","words"] (n6 K):=by
 refine F.ok scI (fun vs H Q E h=> ?_) (fun cdv A outer s H vs Q E hr h=> ?_)
 · obtain ⟨x,C,fI,y,rfl,_⟩:=h
   rfl
 · obtain ⟨x,C,fI,y,rfl,hH,hX,k⟩:=h
   refine ⟨_,ag (eY (lH rfl B.ve (a8 (pv 0) (a8 (pv 1) a9)))),?_⟩
   exact ⟨_,rfl,_,rfl,x,C,fI,[y],rfl,by show 1≤1000;decide,hH,hX,k⟩
def spCd:Sp:=fun vs H Q _=>∃(a b:Int),vs= [.int a, .int b]∧Q (.int (Int.gcd a b:Int)) H
theorem scC:ax ["one","other"] ["one","other"] (af sCd):=⟨rfl,rfl,rfl,by decide +kernel,rfl,by decide +kernel,by decide +kernel⟩
theorem uV (a:Int):(if a < 0 then -a else a)=(Int.gcd a 0:Int):=by
 rw [Int.gcd_zero_right]
 split<;>omega
theorem rP {f:Addr} {fd:FuncData} (F:Fun K "common_divisor" "common_divisor" sCd f fd) (B:Blt mg):FnOk P w K mg base CX0 1 f fd ["one","other"] spCd:=by
 refine F.ok scC (fun vs H Q E h=> ?_) (fun cdv A outer s H vs Q E hr h=> ?_)
 · obtain ⟨a,b,rfl,_⟩:=h
   rfl
 · obtain ⟨a,b,rfl,k⟩:=h
   refine ⟨_,ae (ly PassesOwn.never (aw rA (pv 1) aa (aq _)) (ag (vR (i:=0) (j:=1) rfl scC.nd rfl rfl (by decide) rfl rfl (a8 (pv 1) (a8 (aE uh (pv 0) (pv 1)) a9)) rfl)))
    (ag (aj (ar tG rfl B.ab tH (a8 (pv 0) a9)))),?_⟩
   refine qf (fun σ H'=>H'=H∧∃x y:Int,σ= [some (.int x),some (.int y)]∧Int.gcd x y=Int.gcd a b) (fun σ _=>match σ with| [_,some (.int y)]=>y.natAbs|_=>0) ⟨rfl,a,b,rfl,rfl⟩ ?_ ?_
   · rintro σ H' ⟨rfl,x,y,rfl,e⟩
     refine ⟨_,rfl,rfl,_,rfl,?_⟩
     by_cases z:y=0
     · subst z
       rw [decide_eq_true rfl]
       refine iteF ?_
       refine ⟨_,rfl,x,rfl,?_⟩
       rw [uV,e]
       exact k
     · have z':¬(V.int y=V.int 0):=fun q=>z (V.int.inj q)
       rw [decide_eq_false z']
       refine iteT ?_
       refine ⟨_,rfl,_,rfl,_,rfl,x,y,rfl,rfl,z,_,_,rfl,?_⟩
       refine ⟨⟨rfl,y,x.fmod y,rfl,?_⟩,?_⟩
       · rw [sR,e]
       · exact uN z
   · intro σ H' R R' hR h
     obtain ⟨v,e1,e2,q,e3,h⟩:=h
     exact ⟨v,e1,e2,q,e3,hR _ _ h⟩
def spFr (C:Addr):Sp:=fun vs H Q E=>∃(t b:Int),vs= [.int t, .int b]∧Big t∧Big b∧(b=0→E (.ref C) none H)∧(b≠0→∀p,H p=none→Q (.ref p) (upd H p (.tup [.int (fx t b), .int (fy t b)])))
theorem scF:ax ["top","bottom","divisor"] ["top","bottom"] (af sFr):=⟨rfl,rfl,rfl,by decide +kernel,rfl,by decide +kernel,by decide +kernel⟩
theorem gi {t b:Int} (h:Big b) (z:b≠0):Big (Int.gcd t b:Int):=by
 have:Int.gcd t b≤b.natAbs:=Int.gcd_le_natAbs_right t (by omega)
 unfold Big at*
 omega
theorem xB {f fC fI C:Addr} {fd fdC fdI:FuncData} (F:Fun K "fraction" "fraction" sFr f fd) (FC:Fun K "common_divisor" "common_divisor" sCd fC fdC) (bC:Binds K fdC ["one","other"] []) (mC:mg "common_divisor"=some (.ref fC))
 (FI:Fun K "__init__" "WishError.__init__" ik fI fdI) (bI:Binds K fdI ["self","words"] []) (mX:mg "NoShare"=some (.ref C)) (XC:XCls K C fI) (B:Blt mg):FnOk P w K mg base (CX1 P w) 3 f fd ["top","bottom"] (spFr C):=by
 have GC:FnOk P w K mg base CX0 1 fC fdC ["one","other"] spCd:=rP FC B
 have GI:FnOk P w K mg base CX0 1 fI fdI ["self","words"] (n6 K):=oI FI B
 refine F.okX scF (fun vs H Q E h=> ?_) (fun cdv A outer s H vs Q E hr h=> ?_)
 · obtain ⟨a,b,rfl,_⟩:=h
   rfl
 · obtain ⟨t,b,rfl,ht,hb,kE,kQ⟩:=h
   have hr1:Room 1 _:=hr.mono (by decide)
   refine ⟨_,ae (aK (aw be (pv 1) aa (aq _)) (ag (lA rfl XC (lF XC GI hr rfl mX bI ai (a8 aA a9) (by decide) (hlen:=fun vs H Q E ⟨_,_,_,_,e,_⟩=>by rw [e];show 2≤1000;decide)) jp)) az)
    (ae (aD (i:=2) scF.nd rfl (Or.inl rfl) (ad GC hr1 rfl mC FC.kp bC .nil ai (a8 (pv 0) (a8 (pv 1) a9))))
    (ae (aK (aw lL (pv 1) aa (aq _)) (ag (aD (i:=2) scF.nd rfl (Or.inl rfl) (cV cr (pv 2)))) az)
    (ag (aj (aH (a8 (aE lM (pv 0) (pv 2)) (a8 (aE lM (pv 1) (pv 2)) a9))))))),?_⟩
   refine ⟨_,rfl,rfl,_,rfl,?_⟩
   by_cases z:b=0
   · subst z
     rw [decide_eq_true rfl]
     refine iteT ?_
     intro x nx ns
     refine ⟨x,C,fI,_,rfl,ac,XC,rfl,x,rfl,ac,ns,?_⟩
     rw [tV nx]
     exact kE rfl
   · have z':¬(V.int b=V.int 0):=fun q=>z (V.int.inj q)
     rw [decide_eq_false z']
     refine iteF ?_
     refine ⟨_,rfl,_,rfl,t,b,rfl,?_⟩
     have bg:=gi (t:=t) hb z
     have n0:=sX (t:=t) z
     have last:∀d:Int,d=dv t b→∀H':Hp,H'=H→((tRet (tTup (bf (tOp (rI (fun _ j=>j≠0∧Big j) fun i j=> .int (i.fdiv j)) (tVar 0) (tVar 2)) (bf (tOp (rI (fun _ j=>j≠0∧Big j) fun i j=> .int (i.fdiv j)) (tVar 1) (tVar 2)) tNil))))
      {nx:=fun _ H'=>Q .non H',rt:=Q} [some (.int t),some (.int b),some (.int d)] H'):=by
      intro d hd H' hH
      subst hH
      have bd:Big d:=by
       rw [hd]
       unfold Big at*
       rw [sY]
       omega
      have nd:d≠0:=by rw [hd];exact n0
      refine ⟨_,rfl,_,rfl,t,d,rfl,rfl,⟨nd,bd⟩,_,rfl,_,rfl,b,d,rfl,rfl,⟨nd,bd⟩,by show 2≤sizeLine;decide,fun p hp=> ?_⟩
      have:=kQ z p hp
      unfold fx fy at this
      rw [←hd] at this
      exact this
     refine ⟨_,rfl,b,0,rfl,rfl,_,rfl,?_⟩
     by_cases zb:b < 0
     · rw [decide_eq_true zb]
       refine iteT ?_
       refine ⟨_,rfl,_,rfl,?_⟩
       exact last _ (by unfold dv;rw [if_pos zb]) H rfl
     · rw [decide_eq_false zb]
       refine iteF ?_
       exact last _ (by unfold dv;rw [if_neg zb]) H rfl
end
open PySem L2 Mth Tre
theorem ah {H:Hp} {p:Addr} {o:HO} (h:H p=none):Same H (upd H p o):=fun b u e=>by
 rw [aB (aN e h)]
 exact e
theorem cu {H H':Hp} {D:Addr} {o:HO} (h:H D=none) (s:Same H H'):Same H (upd H' D o):=fun b u e=>by
 rw [aB (aN e h)]
 exact s b u e
theorem Bg.div {x y:Int} (h:Big x):Big (x / y):=Nat.lt_of_le_of_lt (iy x y) h
section
variable {P:Program} {w:World} {K:PySem.W.Frag} {mg:Str→Option Value} {base:Heap}
def gy (K:PySem.W.Frag):Sp:=fun vs H Q _=>∃(p q:Addr) (a b c d:Int),vs= [.ref p, .ref q]∧SqT K H p [.int a, .int b]∧SqT K H q [.int c, .int d]∧
 (0 < b∧0 < d∧Big a∧Big b∧Big c∧Big d)∧∀(r:Addr) (H':Hp),H r=none→Same H H'→H' r=some (.tup [.int (pX a b c d), .int (pY a b c d)])→Q (.ref r) H'
theorem mU {vs:List V} {H:Hp} {Q:VK} {E:XK} (h:gy K vs H Q E):vs.length=2:=by
 obtain ⟨p,q,a,b,c,d,rfl,_⟩:=h
 rfl
theorem scP:ax ["one","other","shared","top","divisor"] ["one","other"] (af jz):=⟨rfl,rfl,rfl,by decide +kernel,rfl,by decide +kernel,by decide +kernel⟩
theorem uq {f fC:Addr} {fd fdC:FuncData} (F:Fun K "plus" "plus" jz f fd) (FC:Fun K "common_divisor" "common_divisor" sCd fC fdC) (bC:Binds K fdC ["one","other"] []) (mC:mg "common_divisor"=some (.ref fC)) (B:Blt mg):
 FnOk P w K mg base CX0 2 f fd ["one","other"] (gy K):=by
 have GC:FnOk P w K mg base CX0 1 fC fdC ["one","other"] spCd:=rP FC B
 refine F.ok scP (fun vs H Q E h=>mU h) (fun cdv A outer s H vs Q E hr h=> ?_)
 obtain ⟨p,q,a,b,c,d,rfl,hp,hq,⟨b0,d0,sa,sb,sc,sd⟩,k⟩:=h
 refine ⟨_,ae (aD (i:=2) scP.nd rfl (Or.inl rfl) (ad GC hr rfl mC FC.kp bC .nil ai (a8 (am ak (pv 0) aa fun _ _=>rfl) (a8 (am ak (pv 1) aa fun _ _=>rfl) a9))))
  (ae (aD (i:=3) scP.nd rfl (Or.inl rfl) (aE bU (aE cA (am ak (pv 0) aa fun _ _=>rfl) (aE cf (am ak (pv 1) aa fun _ _=>rfl) (pv 2)))
   (aE cA (am ak (pv 1) aa fun _ _=>rfl) (aE cf (am ak (pv 0) aa fun _ _=>rfl) (pv 2)))))
  (ae (aD (i:=4) scP.nd rfl (Or.inl rfl) (ad GC hr rfl mC FC.kp bC .nil ai (a8 (pv 3) (a8 (pv 2) a9))))
  (ag (aj (aH (a8 (aE cf (pv 3) (pv 4)) (a8 (aE cA (aE cf (am ak (pv 0) aa fun _ _=>rfl) (pv 2)) (aE cf (am ak (pv 1) aa fun _ _=>rfl) (pv 4))) a9))))))),?_⟩
 have g0:(0:Int) < (Int.gcd b d:Int):=by
  have:=Int.gcd_pos_of_ne_zero_right b (show d≠0 by omega)
  omega
 have gS:Big (Int.gcd b d:Int):=gi sd (by omega)
 have e0:(0:Int) < pE a b c d:=by
  have:=Int.gcd_pos_of_ne_zero_right (pT a b c d) (show (Int.gcd b d:Int)≠0 by omega)
  unfold pE
  omega
 have eS:Big (pE a b c d):=gi gS (by omega)
 refine ⟨_,rfl,p,_,1, .int b,rfl,rfl,hp,rfl,_,rfl,q,_,1, .int d,rfl,rfl,hq,rfl,b,d,rfl,?_⟩
 refine ⟨_,rfl,p,_,0, .int a,rfl,rfl,hp,rfl,_,rfl,q,_,1, .int d,rfl,rfl,hq,rfl,_,rfl,d,_,rfl,rfl,⟨g0,gS⟩,a,_,rfl,rfl,⟨sa,(Bg.div sd)⟩,_,rfl,q,_,0, .int c,rfl,rfl,hq,rfl,_,rfl,p,_,1, .int b,rfl,rfl,hp,rfl,_,rfl,b,_,rfl,rfl,⟨g0,gS⟩,c,_,rfl,rfl,⟨sc,(Bg.div sb)⟩,_,_,rfl,rfl,?_⟩
 refine ⟨_,rfl,_,rfl,pT a b c d,(Int.gcd b d:Int),rfl,?_⟩
 refine ⟨_,rfl,_,rfl,pT a b c d,pE a b c d,rfl,rfl,⟨e0,eS⟩,_,rfl,p,_,1, .int b,rfl,rfl,hp,rfl,_,rfl,b,_,rfl,rfl,⟨g0,gS⟩,_,rfl,q,_,1, .int d,rfl,rfl,hq,rfl,_,rfl,d,pE a b c d,rfl,rfl,⟨e0,eS⟩,_,_,rfl,rfl,⟨(Bg.div sb),(Bg.div sd)⟩,by show 2≤sizeLine;decide,fun r hr'=> ?_⟩
 exact k r _ hr' (ah hr') ac
def cU (K:PySem.W.Frag):Sp:=fun vs H Q _=>∃(p q:Addr) (a b c d:Int),vs= [.ref p, .ref q]∧SqT K H p [.int a, .int b]∧SqT K H q [.int c, .int d]∧
 (0 < b∧0 < d∧Big a∧Big b∧Big c∧Big d)∧∀(r:Addr) (H':Hp),H r=none→Same H H'→H' r=some (.tup [.int (tX a b c d), .int (tY a b c d)])→Q (.ref r) H'
theorem scTi:ax ["one","other","first","second"] ["one","other"] (af gG):=⟨rfl,rfl,rfl,by decide +kernel,rfl,by decide +kernel,by decide +kernel⟩
theorem rF {f fC:Addr} {fd fdC:FuncData} (F:Fun K "times" "times" gG f fd) (FC:Fun K "common_divisor" "common_divisor" sCd fC fdC) (bC:Binds K fdC ["one","other"] []) (mC:mg "common_divisor"=some (.ref fC)) (B:Blt mg):
 FnOk P w K mg base CX0 2 f fd ["one","other"] (cU K):=by
 have GC:FnOk P w K mg base CX0 1 fC fdC ["one","other"] spCd:=rP FC B
 refine F.ok scTi (fun vs H Q E h=> ?_) (fun cdv A outer s H vs Q E hr h=> ?_)
 · obtain ⟨p,q,a,b,c,d,rfl,_⟩:=h
   rfl
 obtain ⟨p,q,a,b,c,d,rfl,hp,hq,⟨b0,d0,sa,sb,sc,sd⟩,k⟩:=h
 refine ⟨_,ae (aD (i:=2) scTi.nd rfl (Or.inl rfl) (ad GC hr rfl mC FC.kp bC .nil ai (a8 (am ak (pv 0) aa fun _ _=>rfl) (a8 (am ak (pv 1) aa fun _ _=>rfl) a9))))
  (ae (aD (i:=3) scTi.nd rfl (Or.inl rfl) (ad GC hr rfl mC FC.kp bC .nil ai (a8 (am ak (pv 1) aa fun _ _=>rfl) (a8 (am ak (pv 0) aa fun _ _=>rfl) a9))))
  (ag (aj (aH (a8 (aE cA (aE cf (am ak (pv 0) aa fun _ _=>rfl) (pv 2)) (aE cf (am ak (pv 1) aa fun _ _=>rfl) (pv 3)))
   (a8 (aE cA (aE cf (am ak (pv 0) aa fun _ _=>rfl) (pv 3)) (aE cf (am ak (pv 1) aa fun _ _=>rfl) (pv 2))) a9)))))),?_⟩
 have g1:(0:Int) < (Int.gcd a d:Int):=by
  have:=Int.gcd_pos_of_ne_zero_right a (show d≠0 by omega)
  omega
 have s1:Big (Int.gcd a d:Int):=gi sd (by omega)
 have g2:(0:Int) < (Int.gcd c b:Int):=by
  have:=Int.gcd_pos_of_ne_zero_right c (show b≠0 by omega)
  omega
 have s2:Big (Int.gcd c b:Int):=gi sb (by omega)
 refine ⟨_,rfl,p,_,0, .int a,rfl,rfl,hp,rfl,_,rfl,q,_,1, .int d,rfl,rfl,hq,rfl,a,d,rfl,?_⟩
 refine ⟨_,rfl,q,_,0, .int c,rfl,rfl,hq,rfl,_,rfl,p,_,1, .int b,rfl,rfl,hp,rfl,c,b,rfl,?_⟩
 refine ⟨_,rfl,p,_,0, .int a,rfl,rfl,hp,rfl,_,rfl,a,_,rfl,rfl,⟨g1,s1⟩,_,rfl,q,_,0, .int c,rfl,rfl,hq,rfl,_,rfl,c,_,rfl,rfl,⟨g2,s2⟩,_,_,rfl,rfl,⟨Bg.div sa,Bg.div sc⟩,
  _,rfl,p,_,1, .int b,rfl,rfl,hp,rfl,_,rfl,b,_,rfl,rfl,⟨g2,s2⟩,_,rfl,q,_,1, .int d,rfl,rfl,hq,rfl,_,rfl,d,_,rfl,rfl,⟨g1,s1⟩,_,_,rfl,rfl,⟨Bg.div sb,Bg.div sd⟩,by show 2≤sizeLine;decide,fun r hr'=> ?_⟩
 exact k r _ hr' (ah hr') ac
end
end K23
namespace L2
open PySem PySem.Spec PyProof.Rows
section
variable {X:Cx}
def rS0 (f:Str→V):V→List V→Hp→VK→Prop:=fun x vs H Q=>∃z,x= .str z∧vs= []∧Q (f z) H
def rS1 (C:Str→Str→Prop) (f:Str→Str→V):V→List V→Hp→VK→Prop:=fun x vs H Q=>∃z y,x= .str z∧vs= [.str y]∧C z y∧Q (f z y) H
theorem nF:MtM X "str.isascii" (rS0 fun z=> .bl (Txt.isascii z)):=by
 intro pins s σ H x vs v us Q I rx rv h
 obtain ⟨z,rfl,rfl,q⟩:=h
 obtain ⟨t,rfl⟩:=rx
 cases rv
 exact SC.isascii ⟨.bl _,H,I,rfl,q⟩
end
end L2
namespace Trm
open PySem
inductive Tm where
 |nm (x:Str)
 |ap (f:Str) (ts:List Tm)
def Ltr (c:Nat):Prop:=97≤c∧c≤122
structure Nm (x:Str):Prop where
 pos:0 < x.length
 le:x.length≤8
 ltr:∀c∈x.cps.toList,Ltr c
mutual
noncomputable def Tm.depth:Tm→Nat
 | .nm _=>0
 | .ap _ ts=>Tms.depth ts+1
noncomputable def Tms.depth:List Tm→Nat
 | []=>0
 |t::ts=>max (Tm.depth t) (Tms.depth ts)
end
mutual
noncomputable def Tm.all:Tm→List Tm
 | .nm x=> [.nm x]
 | .ap f ts=>Tms.all ts++ [.ap f ts]
noncomputable def Tms.all:List Tm→List Tm
 | []=> []
 |t::ts=>Tm.all t++Tms.all ts
end
mutual
noncomputable def Tm.shown:Tm→Str
 | .nm x=>x
 | .ap f ts=>Str.ofString "("++Txt.join (Str.ofString " ") (f::Tms.shown ts)++Str.ofString ")"
noncomputable def Tms.shown:List Tm→List Str
 | []=> []
 |t::ts=>Tm.shown t::Tms.shown ts
end
end Trm
namespace L2
open PySem
section
variable {X:Cx}
def rBs (g:Str→Bool):V→List V→Hp→VK→Prop:=fun x vs H Q=>∃z,x= .str z∧vs= []∧Q (.bl (g z)) H
theorem nG:MtM X "str.isalpha" (rBs Txt.isalpha):=by
 intro pins s σ H x vs v us Q I rx rv h
 obtain ⟨z,rfl,rfl,q⟩:=h
 obtain ⟨t,rfl⟩:=rx
 cases rv.zero
 exact SC.isalpha ⟨.bl _,H,I,rfl,q⟩
theorem nB:MtM X "str.islower" (rBs Txt.islower):=by
 intro pins s σ H x vs v us Q I rx rv h
 obtain ⟨z,rfl,rfl,q⟩:=h
 obtain ⟨t,rfl⟩:=rx
 cases rv.zero
 exact SC.islower ⟨.bl _,H,I,rfl,q⟩
end
end L2
namespace EqD
open PySem PySem.Spec PyProof.Rows SeqAt
theorem oR (d:Addr) (o:Obj) (es:Array DictEntry) (ep:Nat) (hc:o.cls= .type "dict") (hd:o.data= .dict es ep) (z:Str) (k:Tok):
 Meets (Builtin.«dict.__eq__» ⟨[.ref d, .str z k],[]⟩) (fun _ R s=>s.heap.get? d=some o∧R (.ok (.ret .notImplemented)) s):=
 .of_wp fun prog w A R s h=>by
  obtain ⟨hp,g,dr,tk,os⟩:=s
  obtain ⟨ho,h⟩:=h
  obtain ⟨cls,dd,data,sl⟩:=o
  simp only at hc hd
  subst hc hd
  have f1:=F.sub_str_dict
  wp_walk using wpAny_loadPart' ho,wpAny_load ho
  exact ⟨_,rfl,h⟩
theorem qy (d:Addr) (o:Obj) (es:Array DictEntry) (ep:Nat) (hc:o.cls= .type "dict") (hd:o.data= .dict es ep) (z:Str) (k:Tok):
 Meets (Builtin.«str.__eq__» ⟨[.str z k, .ref d],[]⟩) (fun _ R s=>s.heap.get? d=some o∧R (.ok (.ret .notImplemented)) s):=
 .of_wp fun prog w A R s h=>by
  obtain ⟨hp,g,dr,tk,os⟩:=s
  obtain ⟨ho,h⟩:=h
  obtain ⟨cls,dd,data,sl⟩:=o
  simp only at hc hd
  subst hc hd
  wp_walk using wpAny_loadPart' ho,wpAny_load ho
  exact ⟨_,rfl,h⟩
open PySem PySem.Spec PyProof.Rows SeqAt L2
theorem wY {A:Around} {s:Shared} {d:Addr} {o:Obj} {es:Array DictEntry} {ep:Nat} {z:Str} {k:Tok} (ho:s.heap.get? d=some o) (hc:o.cls= .type "dict") (hd:o.data= .dict es ep) (hu:A.units < cLine):RcAt A s (.ref d) (.str z k) false:=by
 intro prog w E Q h
 have T1:s.TypeIs (.ref d) "dict":=⟨o,ho,hc⟩
 have T2:s.TypeIs (.str z k) "str":=typeIs_str s z k
 refine rc_eq_decline_or (k:=false) T1 T2 (by decide) F.sub_str_dict F.slot_dict_eq F.slot_str_eq_refl (fun _ q=> ?_) (fun _ q=> ?_) (fun _ q=> ?_) (.inr hu) h
 · exact call_meets F.slot_dict_eq T1 F.entry_dict_eq (F.args_dict_eq_2 _ _) (oR d o es ep hc hd z k) ⟨ho,q⟩
 · exact call_meets F.slot_str_eq_refl T2 F.entry_str_eq (F.args_str_eq_2 _ _) (qy d o es ep hc hd z k) ⟨ho,q⟩
 · exact wpAny_of_eq rfl q
inductive Pl where
 |non
 |bl (b:Bool)
 |int (i:Int)
 |str (x:Str)
 |tup (ts:List Pl)
 |lst
 |dct
mutual
def PlAt (H:Hp):V→Pl→Prop
 |v, .non=>v= .non
 |v, .bl b=>v= .bl b
 |v, .int i=>v= .int i
 |v, .str x=>v= .str x
 |v, .tup ts=>∃r vs,v= .ref r∧H r=some (.tup vs)∧PlsAt H vs ts
 |v, .lst=>∃r xs,v= .ref r∧H r=some (.lst xs)
 |v, .dct=>∃r kvs,v= .ref r∧H r=some (.dK kvs)
def PlsAt (H:Hp):List V→List Pl→Prop
 |vs,[]=>vs= []
 |vs,t::ts=>∃v r,vs=v::r∧PlAt H v t∧PlsAt H r ts
end
structure Ke (H H':Hp):Prop where
 tup:∀a xs,H a=some (.tup xs)→H' a=some (.tup xs)
 lst:∀a xs,H a=some (.lst xs)→∃ys,H' a=some (.lst ys)
 dct:∀a xs,H a=some (.dK xs)→∃ys,H' a=some (.dK ys)
theorem Ke.refl (H:Hp):Ke H H:=⟨fun _ _ e=>e,fun _ xs e=>⟨xs,e⟩,fun _ xs e=>⟨xs,e⟩⟩
theorem Ke.trans {H H1 H2:Hp} (a:Ke H H1) (b:Ke H1 H2):Ke H H2:=⟨fun x o e=>b.tup x o (a.tup x o e),fun x o e=>by
 obtain ⟨ys,e1⟩:=a.lst x o e
 exact b.lst x ys e1,fun x o e=>by
 obtain ⟨ys,e1⟩:=a.dct x o e
 exact b.dct x ys e1⟩
theorem Ke.of_same {H H':Hp} (s:Same H H'):Ke H H':=⟨fun a xs e=>s a _ e,fun a xs e=>⟨xs,s a _ e⟩,fun a xs e=>⟨xs,s a _ e⟩⟩
mutual
theorem PlAt.mono {H H':Hp} (k:Ke H H'):∀ {v:V} {t:Pl},PlAt H v t→PlAt H' v t
 |v, .non,h=>by unfold PlAt at h ⊢;exact h
 |v, .bl b,h=>by unfold PlAt at h ⊢;exact h
 |v, .int i,h=>by unfold PlAt at h ⊢;exact h
 |v, .str x,h=>by unfold PlAt at h ⊢;exact h
 |v, .lst,h=>by
  unfold PlAt at h ⊢
  obtain ⟨r,xs,e,h⟩:=h
  obtain ⟨ys,h'⟩:=k.lst r xs h
  exact ⟨r,ys,e,h'⟩
 |v, .dct,h=>by
  unfold PlAt at h ⊢
  obtain ⟨r,xs,e,h⟩:=h
  obtain ⟨ys,h'⟩:=k.dct r xs h
  exact ⟨r,ys,e,h'⟩
 |v, .tup ts,h=>by
  unfold PlAt at h ⊢
  obtain ⟨r,vs,e,h1,h2⟩:=h
  exact ⟨r,vs,e,k.tup _ _ h1,PlsAt.mono k h2⟩
theorem PlsAt.mono {H H':Hp} (k:Ke H H'):∀ {vs:List V} {ts:List Pl},PlsAt H vs ts→PlsAt H' vs ts
 |vs,[],h=>by unfold PlsAt at h ⊢;exact h
 |vs,t::ts,h=>by
  unfold PlsAt at h ⊢
  obtain ⟨v,r,e,h1,h2⟩:=h
  exact ⟨v,r,e,PlAt.mono k h1,PlsAt.mono k h2⟩
end
theorem PlsAt.nil {H:Hp}:PlsAt H [] []:=by unfold PlsAt;rfl
theorem PlsAt.cons {H:Hp} {v:V} {t:Pl} {vs:List V} {ts:List Pl} (h:PlAt H v t) (r:PlsAt H vs ts):PlsAt H (v::vs) (t::ts):=by
 unfold PlsAt
 exact ⟨v,vs,rfl,h,r⟩
theorem PlsAt.inv {H:Hp} {t:Pl} {vs:List V} {ts:List Pl} (h:PlsAt H vs (t::ts)):∃v r,vs=v::r∧PlAt H v t∧PlsAt H r ts:=by
 unfold PlsAt at h
 exact h
theorem PlsAt.len {H:Hp}:∀ {vs:List V} {ts:List Pl},PlsAt H vs ts→vs.length=ts.length
 |vs,[],h=>by
  unfold PlsAt at h
  rw [h]
  rfl
 |vs,t::ts,h=>by
  obtain ⟨v,r,e,_,h2⟩:=h.inv
  rw [e,List.length_cons,List.length_cons,h2.len]
theorem PlsAt.app {H:Hp} {ws:List V} {us:List Pl} (b:PlsAt H ws us):∀ {vs:List V} {ts:List Pl},PlsAt H vs ts→PlsAt H (vs++ws) (ts++us)
 |vs,[],h=>by
  unfold PlsAt at h
  subst h
  exact b
 |vs,t::ts,h=>by
  obtain ⟨v,r,e,h1,h2⟩:=h.inv
  subst e
  exact .cons h1 (PlsAt.app b h2)
theorem PlsAt.get' {H:Hp}:∀ {vs:List V} {ts:List Pl} {i:Nat} {v:V},PlsAt H vs ts→vs[i]?=some v→∃t,ts[i]?=some t∧PlAt H v t
 |vs,[],i,v,h,e=>by
  unfold PlsAt at h
  subst h
  simp at e
 |vs,a::ts,0,v,h,e=>by
  obtain ⟨u,r,rfl,h1,h2⟩:=h.inv
  simp at e
  subst e
  exact ⟨a,rfl,h1⟩
 |vs,a::ts,i+1,v,h,e=>by
  obtain ⟨u,r,rfl,h1,h2⟩:=h.inv
  obtain ⟨t,e1,e2⟩:=h2.get' (i:=i) (by simpa using e)
  exact ⟨t,by simpa using e1,e2⟩
def isS (z:Str):Pl→Bool
 | .str x=>x==z
 |_=>false
def rEqS:R2:=fun x y H Q=>∃p z,PlAt H x p∧y= .str z∧Q (.bl (isS z p)) H
theorem bK {X:Cx} (hu:X.A.units < cLine):OpR X (compareOp .Eq) rEqS:=by
 intro pins s σ H x y v u Q I rx ry h
 obtain ⟨p,z,hx,rfl,q⟩:=h
 obtain ⟨t,rfl⟩:=ry
 cases p with
 |non=>
  unfold PlAt at hx
  subst hx
  cases (show v=Value.none from rx)
  exact RcAt.none_str z t X.prog X.w _ _ ⟨.bl _,H,I,rfl,q⟩
 |bl b=>
  unfold PlAt at hx
  subst hx
  cases (show v=Value.bool b from rx)
  exact RcAt.bool_str b z t X.prog X.w _ _ ⟨.bl _,H,I,rfl,q⟩
 |int i=>
  unfold PlAt at hx
  subst hx
  obtain ⟨t0,rfl⟩:=rx
  exact RcAt.int_str i t0 z t X.prog X.w _ _ ⟨.bl _,H,I,rfl,q⟩
 |str w=>
  unfold PlAt at hx
  subst hx
  obtain ⟨t0,rfl⟩:=rx
  exact RcAt.str_str w t0 z t X.prog X.w _ _ ⟨.bl _,H,I,rfl,q⟩
 |tup ts=>
  unfold PlAt at hx
  obtain ⟨r,vs,rfl,g,_⟩:=hx
  cases rx
  obtain ⟨us,_,p1,_⟩:=I.tuple (SqT.of g)
  exact RcAt.tuple_str z t p1 hu X.prog X.w _ _ ⟨.bl _,H,I,rfl,q⟩
 |lst=>
  unfold PlAt at hx
  obtain ⟨r,vs,rfl,g⟩:=hx
  cases rx
  obtain ⟨us,_,p1,_⟩:=I.list (SqL.of g)
  exact RcAt.list_str z t p1.isList hu X.prog X.w _ _ ⟨.bl _,H,I,rfl,q⟩
 |dct=>
  unfold PlAt at hx
  obtain ⟨r,kvs,rfl,g⟩:=hx
  cases rx
  obtain ⟨_,_,vs,r',ob,es,ep,e,c⟩:=(show ObjOk X.prog X.w H s.heap r (.dK kvs) from I.hok r _ g)
  exact wY e c.1.1 c.2.1 hu X.prog X.w _ _ ⟨.bl _,H,I,rfl,q⟩
end EqD
namespace L2
open PySem PySem.Spec PyProof.Rows
section
variable {X:Cx} {tg:Expr}
end
section
variable {X:Cx} {tg:Expr}
end
open PySem PySem.Spec PyProof.Rows
section
variable {prog:Program} {w:World} {A:Around} {E:Value→Shared→Prop} {s:Shared}
end
section
variable {X:Cx}
end
open PySem PySem.Spec PyProof.Rows
section
variable {X:Cx}
def rSlS:V→Option Int→Option Int→Hp→VK→Prop:=fun x lo hi H Q=>∃(z:Str),x= .str z∧z.length≤sizeLine∧Q (.str (Txt.slice z lo hi)) H
theorem vN:SlR X rSlS:=by
 intro pins s σ H x v vl vu lo hi sl Q I rx hs pl pu h
 obtain ⟨z,rfl,hz,q⟩:=h
 obtain ⟨t,rfl⟩:=rx
 obtain ⟨o,ho,hc,hd⟩:=hs
 refine ⟨"str",_,PySem.F.slot_str_getitem.lookup,typeIs_str _ _ _,?_⟩
 cases pl with
 |none=>
  cases pu with
  |none=>exact wpAny_getItem_str_slice (l:=none) (u:=none) (st:=none) ⟨o,ho,hc,hd⟩ rfl (post_val_or_str ⟨Nat.le_trans (Txt.slice_le z none none) hz,fun t' k=>⟨.str _,H,I.tok k,⟨_,rfl⟩,q⟩⟩)
  |int j tj=>exact wpAny_getItem_str_slice (l:=none) (u:=some (j,tj)) (st:=none) ⟨o,ho,hc,hd⟩ rfl (post_val_or_str ⟨Nat.le_trans (Txt.slice_le z none (some j)) hz,fun t' k=>⟨.str _,H,I.tok k,⟨_,rfl⟩,q⟩⟩)
 |int i ti=>
  cases pu with
  |none=>exact wpAny_getItem_str_slice (l:=some (i,ti)) (u:=none) (st:=none) ⟨o,ho,hc,hd⟩ rfl (post_val_or_str ⟨Nat.le_trans (Txt.slice_le z (some i) none) hz,fun t' k=>⟨.str _,H,I.tok k,⟨_,rfl⟩,q⟩⟩)
  |int j tj=>exact wpAny_getItem_str_slice (l:=some (i,ti)) (u:=some (j,tj)) (st:=none) ⟨o,ho,hc,hd⟩ rfl (post_val_or_str ⟨Nat.le_trans (Txt.slice_le z (some i) (some j)) hz,fun t' k=>⟨.str _,H,I.tok k,⟨_,rfl⟩,q⟩⟩)
end
open PySem PySem.Spec PyProof.Rows
section
variable {X:Cx}
theorem iJ:∀ {ys:List Str} {us:List Value},Vals (ys.map V.str) us→StrsAre us ys
 | [],_,r=>by cases r;exact .nil
 |y::ys,_,r=>by
  rw [List.map_cons] at r
  cases r with
  |cons r1 r2=>
   obtain ⟨t,rfl⟩:=r1
   exact .cons y t (iJ r2)
def x8 (K:PySem.W.Frag):V→List V→Hp→VK→Prop:=fun x vs H Q=>∃(sep:Str) (l:Addr) (ys:List Str),x= .str sep∧vs= [.ref l]∧SqL K H l (ys.map V.str)∧(ys.map (·.length)).sum+ys.length*sep.length≤16777216∧Q (.str (Txt.join sep ys)) H
theorem uB:MtM X "str.join" (x8 X.K):=by
 intro pins s σ H x vs v us Q I rx rv h
 obtain ⟨sep,l,ys,rfl,rfl,hl,hz,q⟩:=h
 obtain ⟨t,rfl⟩:=rx
 obtain ⟨u,rfl,ru⟩:=rv.one
 cases ru
 obtain ⟨its,r,p,_⟩:=I.list hl
 exact PyProof.Rows.join_list p.isList (by simpa using iJ r) hz fun t' k=>⟨.str _,H,I.tok k,⟨_,rfl⟩,q⟩
theorem uC:MtM X "str.find" (rS1 (fun _ _=>True) fun z y=> .int (Txt.find z y)):=by
 intro pins s σ H x vs v us Q I rx rv h
 obtain ⟨z,y,rfl,rfl,_,q⟩:=h
 obtain ⟨t,rfl⟩:=rx
 obtain ⟨u,rfl,ru⟩:=rv.one
 obtain ⟨t',rfl⟩:=ru
 exact SC.find ⟨.int _,H,I.tok _,⟨_,rfl⟩,q⟩
end
end L2
namespace K23P
open PySem L2 Mth EqD
open K23
noncomputable def tyP:Pl→Value
 | .non=> .type "NoneType"
 | .bl _=> .type "bool"
 | .int _=> .type "int"
 | .str _=> .type "str"
 | .tup _=> .type "tuple"
 | .lst=> .type "list"
 | .dct=> .type "dict"
theorem c7 {K:PySem.W.Frag} {H:Hp} {x:V} {p:Pl} (h:PlAt H x p):TyX K H x (tyP p):=by
 cases p with
 |non=>unfold PlAt at h;subst h;exact .of .non
 |bl b=>unfold PlAt at h;subst h;exact .of (.bl b)
 |int i=>unfold PlAt at h;subst h;exact .of (.int i)
 |str z=>unfold PlAt at h;subst h;exact .of (.str z)
 |tup ts=>unfold PlAt at h;obtain ⟨r,vs,rfl,g,_⟩:=h;exact .of (.tup g)
 |lst=>unfold PlAt at h;obtain ⟨r,vs,rfl,g⟩:=h;exact .of (.lst g)
 |dct=>unfold PlAt at h;obtain ⟨r,vs,rfl,g⟩:=h;exact .of (.dK g)
def isInt:Pl→Bool
 | .int _=>true
 | .bl _=>true
 |_=>false
def isBl:Pl→Bool
 | .bl _=>true
 |_=>false
def lV:Pl→Bool
 | .str _=>true
 |_=>false
def cD:Pl→Bool
 | .tup _=>true
 |_=>false
theorem oN (K:PySem.W.Frag) (p:Pl):PySem.W.kitOne K (tyP p) (.type "int")=some (isInt p):=by cases p<;>kernel_rfl
theorem ia (K:PySem.W.Frag) (p:Pl):PySem.W.kitOne K (tyP p) (.type "bool")=some (isBl p):=by cases p<;>kernel_rfl
theorem oM (K:PySem.W.Frag) (p:Pl):PySem.W.kitOne K (tyP p) (.type "str")=some (lV p):=by cases p<;>kernel_rfl
theorem cg (K:PySem.W.Frag) (p:Pl):PySem.W.kitOne K (tyP p) (.type "tuple")=some (cD p):=by cases p<;>kernel_rfl
def whB (p:Pl):Bool:=isInt p&& !isBl p
noncomputable def toB (n:Int):Pl→Bool
 | .tup ts=>decide ((ts.length:Int)=n)
 |_=>false
noncomputable def nmB:Pl→Bool
 | .str x=> !decide (8 < (x.length:Int))&& (Txt.isascii x&& (Txt.isalpha x&&Txt.islower x))
 |_=>false
section
variable {P:Program} {w:World} {K:PySem.W.Frag} {mg:Str→Option Value} {base:Heap}
def spIw:Sp:=fun vs H Q _=>∃(v:V) (p:Pl),vs= [v]∧PlAt H v p∧Q (.bl (whB p)) H
theorem scIw:ax ["thing"] ["thing"] (af sIw):=⟨rfl,rfl,rfl,by decide +kernel,rfl,by decide +kernel,by decide +kernel⟩
theorem xx {f:Addr} {fd:FuncData} (F:Fun K "is_whole" "is_whole" sIw f fd) (B:Blt mg):FnOk P w K mg base CX0 1 f fd ["thing"] spIw:=by
 refine F.ok scIw (fun vs H Q E h=> ?_) (fun cdv A outer s H vs Q E hr h=> ?_)
 · obtain ⟨v,p,rfl,_⟩:=h
   rfl
 obtain ⟨v,p,rfl,hv,k⟩:=h
 refine ⟨_,ag (aj (aM (ar (r:=rIsi K) aS rfl B.isi ay (a8 (pv 0) (a8 (aX (v:= .ty "int") rfl B.it PyProof.Rows.boot_int rfl) a9))) (aW (qW (ar (r:=rIsi K) aS rfl B.isi ay (a8 (pv 0) (a8 (aX (v:= .ty "bool") rfl B.bo PyProof.Rows.boot_bool rfl) a9))))))),?_⟩
 refine ⟨_,rfl,v, .ty "int",_,isInt p,rfl,c7 hv, .inl ⟨rfl,oN K p⟩,_,rfl,?_⟩
 cases e:isInt p with
 |false=>
  refine iteF ?_
  have:whB p=false:=by unfold whB;rw [e];rfl
  rw [this] at k
  exact k
 |true=>
  refine iteT ?_
  refine ⟨_,rfl,v, .ty "bool",_,isBl p,rfl,c7 hv, .inl ⟨rfl,ia K p⟩,_,rfl,?_⟩
  have:whB p= !isBl p:=by unfold whB;rw [e];rfl
  rw [this] at k
  exact k
def spTo:Sp:=fun vs H Q _=>∃(v:V) (p:Pl) (n:Int),vs= [v, .int n]∧PlAt H v p∧Q (.bl (toB n p)) H
theorem scTo:ax ["thing","count"] ["thing","count"] (af sIto):=⟨rfl,rfl,rfl,by decide +kernel,rfl,by decide +kernel,by decide +kernel⟩
theorem xk {f:Addr} {fd:FuncData} (F:Fun K "is_tuple_of" "is_tuple_of" sIto f fd) (B:Blt mg):FnOk P w K mg base CX0 1 f fd ["thing","count"] spTo:=by
 refine F.ok scTo (fun vs H Q E h=> ?_) (fun cdv A outer s H vs Q E hr h=> ?_)
 · obtain ⟨v,p,n,rfl,_⟩:=h
   rfl
 obtain ⟨v,p,n,rfl,hv,k⟩:=h
 refine ⟨_,ag (aj (aM (ar (r:=rIsi K) aS rfl B.isi ay (a8 (pv 0) (a8 (aX (v:= .ty "tuple") rfl B.tu PyProof.Rows.boot_tuple rfl) a9))) (aW (aR be (ar aF rfl B.le PySem.boot_len (a8 (pv 0) a9)) (pv 1) (aq _))))),?_⟩
 refine ⟨_,rfl,v, .ty "tuple",_,cD p,rfl,c7 hv, .inl ⟨rfl,cg K p⟩,_,rfl,?_⟩
 cases p with
 |tup ts=>
  unfold PlAt at hv
  obtain ⟨r,vs,rfl,g,hT⟩:=hv
  have tl:=hT.len
  refine iteT ?_
  refine ⟨_,rfl,r,vs,rfl, .inr (SqT.of g),_,rfl,rfl,?_⟩
  have e:decide (V.int (vs.length:Int)=V.int n)=toB n (.tup ts):=by
   show _=decide ((ts.length:Int)=n)
   rw [tl]
   by_cases z:(ts.length:Int)=n
   · rw [decide_eq_true z,decide_eq_true (congrArg V.int z)]
   · rw [decide_eq_false z,decide_eq_false (fun q=>z (V.int.inj q))]
  rw [e]
  exact k
 |non=>exact iteF k
 |bl b=>exact iteF k
 |int i=>exact iteF k
 |str z=>exact iteF k
 |lst=>exact iteF k
 |dct=>exact iteF k
def spNm:Sp:=fun vs H Q _=>∃(v:V) (p:Pl),vs= [v]∧PlAt H v p∧(∀x,p= .str x→x.length≤1000)∧Q (.bl (nmB p)) H
theorem scNQ:ax ["thing"] ["thing"] (af sNmQ):=⟨rfl,rfl,rfl,by decide +kernel,rfl,by decide +kernel,by decide +kernel⟩
theorem xr {f:Addr} {fd:FuncData} {tk:Tok} (F:Fun K "is_name" "is_name" sNmQ f fd) (B:Blt mg) (mL:mg "MOST_LETTERS"=some (.int 8 tk)):FnOk P w K mg base CX0 1 f fd ["thing"] spNm:=by
 refine F.ok scNQ (fun vs H Q E h=> ?_) (fun cdv A outer s H vs Q E hr h=> ?_)
 · obtain ⟨v,p,rfl,_⟩:=h
   rfl
 obtain ⟨v,p,rfl,hv,hsm,k⟩:=h
 refine ⟨_,ae (aK (PW.pt (cv (br (aU (ar (r:=rIsi K) aS rfl B.isi ay (a8 (pv 0) (a8 (aX (v:= .ty "str") rfl B.st PyProof.Rows.boot_str rfl) a9))))) (ck (aw dY (ar kY rfl B.le PySem.boot_len (a8 (pv 0) a9)) (cz (v:= .int 8) rfl mL ⟨_,rfl⟩) (aq _))))) (ag (aj cB)) az)
  (ag (aj (aM (nu PySem.F.plainAttrs_str PySem.F.slot_str_isascii PySem.F.type_str_isascii nF (pv 0)) (aM (nu PySem.F.plainAttrs_str PySem.F.slot_str_isalpha PySem.F.type_str_isalpha nG (pv 0)) (aW (nu PySem.F.plainAttrs_str PySem.F.slot_str_islower PySem.F.type_str_islower nB (pv 0))))))),?_⟩
 refine ⟨_,rfl,v, .ty "str",_,lV p,rfl,c7 hv, .inl ⟨rfl,oM K p⟩,_,rfl,?_⟩
 cases p with
 |str x=>
  unfold PlAt at hv
  subst hv
  refine iteF ?_
  refine ⟨_,rfl,x,rfl,Nat.le_trans (hsm x rfl) (by decide +kernel),_,8,rfl,rfl,_,rfl,?_⟩
  by_cases z:(8:Int) < (x.length:Int)
  · rw [decide_eq_true z]
    refine iteT ?_
    have e:nmB (.str x)=false:=by
     show (!decide _&&_)=false
     rw [decide_eq_true z]
     rfl
    rw [e] at k
    exact k
  · rw [decide_eq_false z]
    refine iteF ?_
    have e:nmB (.str x)=(Txt.isascii x&& (Txt.isalpha x&&Txt.islower x)):=by
     show (!decide _&&_)=_
     rw [decide_eq_false z]
     rfl
    rw [e] at k
    refine ⟨_,rfl,rfl,x,rfl,rfl,_,rfl,?_⟩
    cases e1:Txt.isascii x with
    |false=>
     rw [e1] at k
     exact iteF k
    |true=>
     rw [e1] at k
     refine iteT ⟨_,rfl,rfl,x,rfl,rfl,_,rfl,?_⟩
     cases e2:Txt.isalpha x with
     |false=>
      rw [e2] at k
      exact iteF k
     |true=>
      rw [e2] at k
      exact iteT ⟨_,rfl,rfl,x,rfl,rfl,k⟩
 |non=>exact iteT k
 |bl b=>exact iteT k
 |int i=>exact iteT k
 |tup ts=>exact iteT k
 |lst=>exact iteT k
 |dct=>exact iteT k
mutual
noncomputable def tmB:Nat→Pl→Bool
 |0,_=>false
 |n+1, .tup ts=>match ts with
  | [k,x]=>isS "name" k&&nmB x
  | [k,f,x]=>isS "call" k&& (nmB f&&ctB n x)
  |_=>false
 |_+1,_=>false
noncomputable def ctB:Nat→Pl→Bool
 |n, .tup ts=>decide (1≤(ts.length:Int))&& (decide ((ts.length:Int)≤3)&&tmsB n ts)
 |_,_=>false
noncomputable def tmsB:Nat→List Pl→Bool
 |_,[]=>true
 |n,t::ts=>tmB n t&&tmsB n ts
end
end
end K23P
namespace L2
open PySem PySem.Spec PyProof.Rows
def tO (J:It) (D:Addr) (tc:TT) (te:TE) (rest:L2.St) (Q:VK) (H1:Hp):Prop:=
 ∃W:Nat→Nat→List V→Hp→Prop,(∃m,W 0 m [] (upd H1 D (.lst [])))∧∀i m acc H2,W i m acc H2→
  (J.stop i H2∧Q (.ref D) H2)∨
  (J.go i H2∧∀x H3,J.yld i H2 x H3→cp 0 x (none::rest) H3 fun σ4 H4=>Ext (none::rest) σ4∧tc σ4 H4 fun b H5=>if b=true then te σ4 H5 fun v H6=>H6 D=some (.lst acc)∧acc.length < sizeLine∧∃m',m' < m∧W (i+1) m' (acc++ [v]) (upd H6 D (.lst (acc++ [v])))
   else∃m',m' < m∧W (i+1) m' acc H5)
theorem pk {mp:List (Option Nat)} {wi:TI} {tc:TT} {te:TE} {σ rest:L2.St} {H:Hp} {Q:VK} (e:subS mp σ=none::rest) (h:wi σ H fun J H1=>∀D,H1 D=none→tO J D tc te rest Q H1):fc mp wi (cp 0) tc te σ H Q:=by
 unfold fc
 rw [e]
 exact h
def CompS (n i:Nat) (acc:List V) (Pv:Nat→List V→Hp→Prop):Hp→Prop:=fun H5=>∃m',m' < n - i∧(m'=n - (i+1)∧i+1≤n∧Pv (i+1) acc H5)
theorem CompS.mk {n i:Nat} {acc:List V} {Pv:Nat→List V→Hp→Prop} {H5:Hp} (hi:i < n) (h:Pv (i+1) acc H5):CompS n i acc Pv H5:=⟨n - (i+1),by omega,rfl,hi,h⟩
theorem nU {K:PySem.W.Frag} {a D:Addr} {xs:List V} {tc:TT} {te:TE} {rest:L2.St} {Q:VK} {H1:Hp} (Pv:Nat→List V→Hp→Prop) (h0:Pv 0 [] (upd H1 D (.lst [])))
 (hl:∀i acc H,Pv i acc H→SqL K H a xs)
 (hs:∀i x acc H,i < xs.length→xs[i]?=some x→Pv i acc H→tc (some x::rest) H fun b H5=>if b=true then te (some x::rest) H5 (CompN xs.length i D acc Pv) else CompS xs.length i acc Pv H5)
 (hd:∀acc H,Pv xs.length acc H→Q (.ref D) H):tO (Itl K a) D tc te rest Q H1:=by
 refine ⟨fun i m acc H=>m=xs.length - i∧i≤xs.length∧Pv i acc H,⟨xs.length,by simp,Nat.zero_le _,h0⟩,?_⟩
 rintro i m acc H ⟨rfl,hi,p⟩
 by_cases hlt:i < xs.length
 · refine .inr ⟨⟨xs,xs[i],hl i acc H p,by simp [hlt]⟩,fun x H' y=>⟨ext1,?_⟩⟩
   obtain ⟨e,y⟩:=y
   subst e
   exact hs i x acc _ hlt (y xs (hl i acc _ p)) p
 · have e:i=xs.length:=by omega
   subst e
   exact .inl ⟨⟨xs,hl _ acc H p,Nat.le_refl _⟩,hd acc H p⟩
end L2
namespace K23P
open PySem L2 Mth EqD
open K23
mutual
noncomputable def pdep:Pl→Nat
 | .tup ts=>psdep ts+1
 |_=>0
noncomputable def psdep:List Pl→Nat
 | []=>0
 |t::ts=>max (pdep t) (psdep ts)
end
mutual
def Sm:Pl→Prop
 | .str x=>x.length≤1000
 | .tup ts=>ts.length≤1000∧Sms ts
 |_=>True
def Sms:List Pl→Prop
 | []=>True
 |t::ts=>Sm t∧Sms ts
end
theorem qG:∀ {ts:List Pl} {t:Pl},Sms ts→t∈ts→Sm t
 |a::ts,t,h,m=>by
  unfold Sms at h
  rcases List.mem_cons.mp m with rfl|m
  · exact h.1
  · exact qG h.2 m
theorem dG:∀ {ts:List Pl} {t:Pl},t∈ts→pdep t≤psdep ts
 |a::ts,t,m=>by
  unfold psdep
  rcases List.mem_cons.mp m with rfl|m
  · omega
  · have:=dG m
    omega
theorem qF {p:Pl} (h:Sm p):∀x,p= .str x→x.length≤1000:=fun x e=>by
 subst e
 unfold Sm at h
 exact h
theorem ka (n:Nat):∀ts:List Pl,tmsB n ts=ts.all (tmB n)
 | []=>by rw [tmsB];rfl
 |t::ts=>by rw [tmsB,ka n ts,List.all_cons]
theorem iQ (p:Pl):(∃a b,p= .tup [a,b])∨(∃a b c,p= .tup [a,b,c])∨(toB 2 p=false∧toB 3 p=false∧∀n,tmB (n+1) p=false):=by
 cases p with
 |tup ts=>
  match ts with
  | []=>exact .inr (.inr ⟨rfl,rfl,fun n=>by simp [tmB]⟩)
  | [a]=>exact .inr (.inr ⟨rfl,rfl,fun n=>by simp [tmB]⟩)
  | [a,b]=>exact .inl ⟨a,b,rfl⟩
  | [a,b,c]=>exact .inr (.inl ⟨a,b,c,rfl⟩)
  |a::b::c::d::l=>
   have len:((a::b::c::d::l).length:Int)=(l.length:Int)+4:=by simp;omega
   refine .inr (.inr ⟨?_,?_,fun n=>by simp [tmB]⟩)
   · show decide (((a::b::c::d::l).length:Int)=2)=false
     exact decide_eq_false (by omega)
   · show decide (((a::b::c::d::l).length:Int)=3)=false
     exact decide_eq_false (by omega)
 |non=>exact .inr (.inr ⟨rfl,rfl,fun n=>by rw [tmB];intro ts h;cases h⟩)
 |bl b=>exact .inr (.inr ⟨rfl,rfl,fun n=>by rw [tmB];intro ts h;cases h⟩)
 |int i=>exact .inr (.inr ⟨rfl,rfl,fun n=>by rw [tmB];intro ts h;cases h⟩)
 |str z=>exact .inr (.inr ⟨rfl,rfl,fun n=>by rw [tmB];intro ts h;cases h⟩)
 |lst=>exact .inr (.inr ⟨rfl,rfl,fun n=>by rw [tmB];intro ts h;cases h⟩)
 |dct=>exact .inr (.inr ⟨rfl,rfl,fun n=>by rw [tmB];intro ts h;cases h⟩)
theorem pl2 {H:Hp} {v:V} {a b:Pl} (h:PlAt H v (.tup [a,b])):∃r x y,v= .ref r∧H r=some (.tup [x,y])∧PlAt H x a∧PlAt H y b:=by
 unfold PlAt at h
 obtain ⟨r,vs,rfl,g,h⟩:=h
 obtain ⟨x,r1,rfl,h1,h⟩:=h.inv
 obtain ⟨y,r2,rfl,h2,h⟩:=h.inv
 unfold PlsAt at h
 subst h
 exact ⟨r,x,y,rfl,g,h1,h2⟩
theorem pl3 {H:Hp} {v:V} {a b c:Pl} (h:PlAt H v (.tup [a,b,c])):∃r x y z,v= .ref r∧H r=some (.tup [x,y,z])∧PlAt H x a∧PlAt H y b∧PlAt H z c:=by
 unfold PlAt at h
 obtain ⟨r,vs,rfl,g,h⟩:=h
 obtain ⟨x,r1,rfl,h1,h⟩:=h.inv
 obtain ⟨y,r2,rfl,h2,h⟩:=h.inv
 obtain ⟨z,r3,rfl,h3,h⟩:=h.inv
 unfold PlsAt at h
 subst h
 exact ⟨r,x,y,z,rfl,g,h1,h2,h3⟩
section
variable {P:Program} {w:World} {K:PySem.W.Frag} {mg:Str→Option Value} {base:Heap}
def spTm (n:Nat):Sp:=fun vs H Q _=>∃(v:V) (p:Pl),vs= [v]∧PlAt H v p∧Sm p∧pdep p < n∧∀H',Same H H'→Q (.bl (tmB n p)) H'
def spCt (n:Nat):Sp:=fun vs H Q _=>∃(v:V) (p:Pl),vs= [v]∧PlAt H v p∧Sm p∧pdep p < n+1∧∀H',Same H H'→Q (.bl (ctB n p)) H'
theorem wQ:ax ["thing"] ["thing"] (af sTmQ):=⟨rfl,rfl,rfl,by decide +kernel,rfl,by decide +kernel,by decide +kernel⟩
theorem vY {f fT fN fC:Addr} {fd dT dN dC:FuncData} {n:Nat} (F:Fun K "is_term" "is_term" sTmQ f fd)
 (gT:FnOk P w K mg base CX0 1 fT dT ["thing","count"] spTo) (kT:PySem.W.keepIn K (.ref fT)=true) (bT:Binds K dT ["thing","count"] []) (mT:mg "is_tuple_of"=some (.ref fT))
 (gN:FnOk P w K mg base CX0 1 fN dN ["thing"] spNm) (kN:PySem.W.keepIn K (.ref fN)=true) (bN:Binds K dN ["thing"] []) (mN:mg "is_name"=some (.ref fN))
 (gC:FnOk P w K mg base CX0 (2*n+2) fC dC ["thing"] (spCt n)) (kC:PySem.W.keepIn K (.ref fC)=true) (bC:Binds K dC ["thing"] []) (mC:mg "are_call_terms"=some (.ref fC)):FnOk P w K mg base CX0 (2*n+3) f fd ["thing"] (spTm (n+1)):=by
 refine F.ok wQ (fun vs H Q E h=> ?_) (fun cdv A outer s H vs Q E hr h=> ?_)
 · obtain ⟨v,p,rfl,_⟩:=h
   rfl
 obtain ⟨v,p,rfl,hv,hs,hd,k⟩:=h
 have hr1:Room 1 _:=hr.mono (by omega)
 have hu0:=Nat.lt_of_le_of_lt (Nat.add_le_add_left (show 0≤64 by decide) _) hr.units
 refine ⟨_,ae (aK (aU (ad gT hr1 rfl mT kT bT .nil ai (a8 (pv 0) (a8 aa a9)))) (ag (aj (aM (aR (bK hu0) (am ak (pv 0) aa fun _ _=>rfl) aA (aq _)) (aW (ad gN hr1 rfl mN kN bN .nil ai (a8 (am ak (pv 0) aa fun _ _=>rfl) a9)))))) az)
  (ae (aK (aU (ad gT hr1 rfl mT kT bT .nil ai (a8 (pv 0) (a8 aa a9)))) (ag (aj (aM (aR (bK hu0) (am ak (pv 0) aa fun _ _=>rfl) aA (aq _)) (aM (ad gN hr1 rfl mN kN bN .nil ai (a8 (am ak (pv 0) aa fun _ _=>rfl) a9)) (aW (ad gC hr rfl mC kC bC .nil ai (a8 (am ak (pv 0) aa fun _ _=>rfl) a9))))))) az)
  (ag (aj cB))),?_⟩
 rcases iQ p with ⟨a,b,rfl⟩|⟨a,b,c,rfl⟩|⟨e2,e3,et⟩
 · obtain ⟨r,x,y,rfl,g,hx,hy⟩:=pl2 hv
   have hs2:Sm a∧Sm b:=by
    unfold Sm Sms Sms Sms at hs
    exact ⟨hs.2.1,hs.2.2.1⟩
   have k':=k H (Same.refl H)
   rw [tmB] at k'
   refine ⟨_,rfl, .ref r,_,2,rfl,hv,_,rfl,?_⟩
   refine iteT ?_
   refine ⟨_,rfl,r,_,0,x,rfl,rfl,SqT.of g,rfl,a,_,hx,rfl,_,rfl,?_⟩
   cases e:isS "name" a with
   |false=>
    rw [e] at k'
    exact iteF k'
   |true=>
    rw [e] at k'
    exact iteT ⟨_,rfl,r,_,1,y,rfl,rfl,SqT.of g,rfl,y,b,rfl,hy,qF hs2.2,k'⟩
 · obtain ⟨r,x,y,z,rfl,g,hx,hy,hz⟩:=pl3 hv
   have hs2:Sm a∧Sm b∧Sm c:=by
    unfold Sm Sms Sms Sms Sms at hs
    exact ⟨hs.2.1,hs.2.2.1,hs.2.2.2.1⟩
   have hd2:pdep c < n+1:=by
    simp only [pdep,psdep] at hd
    omega
   refine ⟨_,rfl, .ref r,_,2,rfl,hv,_,rfl,?_⟩
   refine iteF ?_
   refine ⟨_,rfl, .ref r,_,3,rfl,hv,_,rfl,?_⟩
   refine iteT ?_
   refine ⟨_,rfl,r,_,0,x,rfl,rfl,SqT.of g,rfl,a,_,hx,rfl,_,rfl,?_⟩
   cases e:isS "call" a with
   |false=>
    have k':=k H (Same.refl H)
    rw [tmB,e] at k'
    exact iteF k'
   |true=>
    refine iteT ⟨_,rfl,r,_,1,y,rfl,rfl,SqT.of g,rfl,y,b,rfl,hy,qF hs2.2.1,_,rfl,?_⟩
    cases e2:nmB b with
    |false=>
     have k':=k H (Same.refl H)
     rw [tmB,e,e2] at k'
     exact iteF k'
    |true=>
     refine iteT ⟨_,rfl,r,_,2,z,rfl,rfl,SqT.of g,rfl,z,c,rfl,hz,hs2.2.2,hd2,fun H1 s1=> ?_⟩
     have k':=k H1 s1
     rw [tmB,e,e2] at k'
     exact k'
 · refine ⟨_,rfl,v,p,2,rfl,hv,_,rfl,?_⟩
   rw [e2]
   refine iteF ?_
   refine ⟨_,rfl,v,p,3,rfl,hv,_,rfl,?_⟩
   rw [e3]
   refine iteF ?_
   have k':=k H (Same.refl H)
   rw [et] at k'
   exact k'
end
end K23P
namespace Zp
open PySem
inductive Src where
 |lst|tup
def Src.It (k:Src) (h:Heap) (it l:Addr) (i:Nat):Prop:=match k with
 | .lst=>h.IsListIter it l i
 | .tup=>h.IsTupleIter it l i
def Src.Sq (k:Src) (h:Heap) (l:Addr) (xs:Array Value):Prop:=match k with
 | .lst=>h.IsList l xs
 | .tup=>h.IsTuple l xs
theorem dj {k:Src} {h h':Heap} {a l:Addr} {i:Nat} (x:k.It h a l i) (e:∀o,h.get? a=some o→h'.get? a=some o):k.It h' a l i:=by
 cases k
 · exact Heap.IsListIter.at x e
 · exact Heap.IsTupleIter.at x e
theorem lu {k:Src} {h h':Heap} {l:Addr} {xs:Array Value} (x:k.Sq h l xs) (e:∀o,h.get? l=some o→h'.get? l=some o):k.Sq h' l xs:=by
 cases k
 · exact Heap.IsList.at x e
 · exact Heap.IsTuple.at x e
theorem kJ {k:Src} {h:Heap} {a l:Addr} {i:Nat} (x:k.It h a l i):∃o,h.get? a=some o∧∀v,o.data≠ .cell v:=by
 cases k
 all_goals
  obtain ⟨o,e,_,d⟩:=x
  exact ⟨o,e,fun v z=>by rw [d] at z;cases z⟩
section
variable {prog:Program} {w:World} {A:Around} {E:Value→Shared→Prop} {s:Shared} {k:Src} {it l:Addr} {i:Nat} {xs:Array Value} {x:Value} {Q:Value→Shared→Prop}
theorem kr (st:k.It s.heap it l i) (sq:k.Sq s.heap l xs) (hx:xs[i]?=some x) (q:∀h',k.It h' it l (i+1)→Heap.SameBut it s.heap h'→Q x {s with heap:=h'}):
 wpAny (model prog w) A (Builtin.SmallTypes.nextOf (.ref it)) Q E s:=by
 cases k
 · exact wpAny_nextOf_list_item st sq hx q
 · obtain ⟨o,e1,e2,e3⟩:=id st
   obtain ⟨p,f1,_,n,f3⟩:=sq
   have ty:=Heap.IsTupleIter.typeIs st
   rw [Builtin.SmallTypes.nextOf]
   refine wpAny_bind (wpAny_callSpecial?_slot (name:=Str.ofString "__next__") ty F.slot_tuple_iterator_next (wpAny_call_entry F.slot_tuple_iterator_next ty F.entry_tuple_iterator_next ?_ (F.args_tuple_iterator_next_1 _)))
   show wpAny _ _ (do let y←field (.ref it) 0;_) _ _ s
   refine wpAny_bind (wpAny_field e1 e3 (x:= .ref l) rfl ?_)
   show wpAny _ _ (if (Value.ref l==Value.none)=true then _ else _) _ _ _
   refine (if_neg (show¬((Value.ref l==Value.none)=true) from Bool.false_ne_true))▸ ?_
   show wpAny _ _ (do let y←field (.ref it) 1;_) _ _ s
   refine wpAny_bind (wpAny_field e1 e3 (x:= .int i 0) rfl ?_)
   show wpAny _ _ (do let y←seqItems? (.ref l);_) _ _ s
   refine wpAny_bind (wpAny_seqItems f1 f3 ?_)
   simp only [hx,Int.toNat_natCast]
   refine wpAny_bind (wpAny_setField e1 e3 (by simp) (wpAny_pure ⟨x,rfl,wpAny_pure (q _ ?_ (Heap.SameBut.update ..))⟩))
   refine ⟨_,Heap.get?_update_self _ e1 (Obj.isFreed_of_fields (Obj.data_mapFields e3 _)),(Obj.cls_mapFields ..).trans e2,?_⟩
   rw [Obj.data_mapFields e3]
   simp [rawInt]
theorem rS (hh:A.handled=none) (st:k.It s.heap it l i) (sq:k.Sq s.heap l xs) (hx:xs[i]?=none) (q:∀h' e,Heap.ExtBut it s.heap h'→(∃o,h'.get? e=some o∧o.cls= .type "StopIteration")→E (.ref e) {s with heap:=h'}):
 wpAny (model prog w) A (Builtin.SmallTypes.nextOf (.ref it)) Q E s:=by
 cases k
 · exact wpAny_nextOf_list_end hh st sq hx q
 · obtain ⟨o,e1,e2,e3⟩:=id st
   obtain ⟨p,f1,_,n,f3⟩:=sq
   have ty:=Heap.IsTupleIter.typeIs st
   rw [Builtin.SmallTypes.nextOf]
   refine wpAny_bind (wpAny_callSpecial?_slot (name:=Str.ofString "__next__") ty F.slot_tuple_iterator_next (wpAny_call_entry F.slot_tuple_iterator_next ty F.entry_tuple_iterator_next ?_ (F.args_tuple_iterator_next_1 _)))
   show wpAny _ _ (do let y←field (.ref it) 0;_) _ _ s
   refine wpAny_bind (wpAny_field e1 e3 (x:= .ref l) rfl ?_)
   show wpAny _ _ (if (Value.ref l==Value.none)=true then _ else _) _ _ _
   refine (if_neg (show¬((Value.ref l==Value.none)=true) from Bool.false_ne_true))▸ ?_
   show wpAny _ _ (do let y←field (.ref it) 1;_) _ _ s
   refine wpAny_bind (wpAny_field e1 e3 (x:= .int i 0) rfl ?_)
   show wpAny _ _ (do let y←seqItems? (.ref l);_) _ _ s
   refine wpAny_bind (wpAny_seqItems f1 f3 ?_)
   simp only [hx,Int.toNat_natCast]
   refine wpAny_bind (wpAny_rule (wpAny_bind (wpAny_setField e1 e3 (by simp) ?_)))
   show wpAny _ _ (do let y←newExc (.type "StopIteration") [];_) _ _ _
   refine wpAny_bind ?_
   simp only [newTuple,newExc]
   refine wpAny_bind (wpAny_newObj_type (wpAny_bind (m:=firstArgMember _ _) (wpAny_of_eq (a:=Value.none) (by first|rfl|(simp only [firstArgMember];rfl)) (wpAny_newObj_type ?_ (by size_fits)))) (by size_fits))
   simp only [raiseNew]
   refine wpAny_bind (wpAny_handled ?_)
   first|rw [show A.in1.handled=none from hh]|rw [hh]
   exact wpAny_bind (wpAny_pure (wpAny_throw (q _ _ (((Heap.SameBut.update ..).extBut.push _).push _) ⟨_,Heap.get?_push_size _ rfl,rfl⟩)))
end
open PySem
section
variable {prog:Program} {w:World} {A:Around} {E:Value→Shared→Prop} {s:Shared} {k:Src} {z TI TO i1 i2 l1 l2:Addr} {j:Nat} {xs ys:Array Value} {x y a b:Value}
theorem tP {Q:Value→Shared→Prop} (D:ZipApart z TI TO i1 i2 l1 l2) (hz:IsZip s.heap z TI TO .none) (hI:IsPair s.heap TI (.ref i1) (.ref i2)) (hO:IsPair s.heap TO a b)
 (t1:k.It s.heap i1 l1 j) (t2:k.It s.heap i2 l2 j) (q1:k.Sq s.heap l1 xs) (q2:k.Sq s.heap l2 ys) (ex:xs[j]?=some x) (ey:ys[j]?=some y)
 (q:∀h',IsZip h' z TI TO (rawInt s.heap.objs.size)→IsPair h' TO x y→k.It h' i1 l1 (j+1)→k.It h' i2 l2 (j+1)→IsPair h' s.heap.objs.size x y→h'.objs.size=s.heap.objs.size+1→
  (∀c o,c≠z→c≠TO→c≠i1→c≠i2→s.heap.get? c=some o→h'.get? c=some o)→Q (.ref s.heap.objs.size) {s with heap:=h'}):
 wpAny (model prog w) A (Builtin.«zip.__next__» ⟨[.ref z],[]⟩) (fun r s'=>∃v,r= .done (.ret v)∧Q v s') E s:=by
 show wpAny _ _ (do let u←field (.ref z) 2;_) _ _ _
 refine wpAny_bind (wpAny_field hz rfl (x:= .bool false) rfl ?_)
 show wpAny _ _ (do let u←field (.ref z) 3;_) _ _ _
 refine wpAny_bind (wpAny_field hz rfl (x:= .ref TI) rfl (wpAny_bind (wpAny_seqItems hI rfl ?_)))
 show wpAny _ _ (do let u←Builtin.SmallTypes.ownedTupleIsFree (.ref z);_) _ _ _
 refine wpAny_bind ?_
 rw [Builtin.SmallTypes.ownedTupleIsFree]
 refine wpAny_bind (wpAny_field hz rfl (x:= .none) rfl (wpAny_pure ?_))
 simp only [if_true]
 refine wpAny_bind (wpAny_rule (wpAny_bind (wpAny_field hz rfl (x:= .ref TO) rfl (wpAny_bind (wpAny_setField_rec hz (by simp) fun g1 y1 s1=> ?_)))))
 have y1:IsZip g1 z TI TO .ellipsis:=y1
 refine wpAny_bind ?_
 simp only [List.forIn_cons,List.forIn_nil,List.zipIdx_nil,List.zipIdx_cons]
 refine wpAny_bind (wpAny_bind (wpAny_onRaise ?_))
 show wpAny _ _ (do let u←Builtin.SmallTypes.nextOf (.ref i1);_) _ _ _
 refine wpAny_bind (kr (s:= {s with heap:=g1}) (dj t1 fun o e=>s1.extBut _ o D.i1z e) (lu q1 fun o e=>s1.extBut _ o D.l1z e) ex fun g2 u1 s2=>wpAny_pure ?_)
 have o2:IsPair g2 TO a b:=s2.extBut _ _ D.TOi1 (s1.extBut _ _ D.TOz hO)
 refine wpAny_bind (wpAny_seqItems o2 rfl (wpAny_bind (wpAny_updateSeq_pair (s:= {s with heap:=g2}) o2 fun g3 o3 s3=> ?_)))
 have o3:IsPair g3 TO x b:=o3
 refine wpAny_bind (wpAny_letGo (wpAny_pure (wpAny_bind (wpAny_bind (wpAny_onRaise ?_)))))
 show wpAny _ _ (do let u←Builtin.SmallTypes.nextOf (.ref i2);_) _ _ _
 refine wpAny_bind (kr (s:= {s with heap:=g3}) (dj t2 fun o e=>s3.extBut _ o D.TOi2.symm (s2.extBut _ o D.i12.symm (s1.extBut _ o D.i2z e))) (lu q2 fun o e=>s3.extBut _ o D.l2TO (s2.extBut _ o D.l2i1 (s1.extBut _ o D.l2z e))) ey fun g4 u2 s4=>wpAny_pure ?_)
 have o4:IsPair g4 TO x b:=s4.extBut _ _ D.TOi2 o3
 refine wpAny_bind (wpAny_seqItems o4 rfl (wpAny_bind (wpAny_updateSeq_pair (s:= {s with heap:=g4}) o4 fun g5 o5 s5=> ?_)))
 have o5:IsPair g5 TO x y:=o5
 refine wpAny_bind (wpAny_letGo (wpAny_pure (wpAny_pure (wpAny_bind (wpAny_seqItems o5 rfl (wpAny_bind (wpAny_newTuple ?_)))))))
 have sz:g5.objs.size=s.heap.objs.size:=by rw [s5.1,s4.1,s3.1,s2.1,s1.1]
 have all:∀c o,c≠z→c≠TO→c≠i1→c≠i2→s.heap.get? c=some o→g5.get? c=some o:=fun c o c1 c2 c3 c4 e=>s5.extBut _ _ c2 (s4.extBut _ _ c4 (s3.extBut _ _ c2 (s2.extBut _ _ c3 (s1.extBut _ _ c1 e))))
 have y5:IsZip g5 z TI TO .ellipsis:=s5.extBut _ _ D.TOz.symm (s4.extBut _ _ D.i2z.symm (s3.extBut _ _ D.TOz.symm (s2.extBut _ _ D.i1z.symm y1)))
 have v1:k.It g5 i1 l1 (j+1):=dj u1 fun o e=>s5.extBut _ o D.TOi1.symm (s4.extBut _ o D.i12 (s3.extBut _ o D.TOi1.symm e))
 have v2:k.It g5 i2 l2 (j+1):=dj u2 fun o e=>s5.extBut _ o D.TOi2.symm e
 have lz:z < g5.objs.size:=Heap.lt_size y5
 show wpAny _ _ (do let u←Builtin.SmallTypes.ownedTupleHandOut (.ref z) (.ref g5.objs.size);_) _ _ _
 refine wpAny_bind ?_
 rw [Builtin.SmallTypes.ownedTupleHandOut]
 have y6:IsZip (g5.push {cls:= .type "tuple",data:= .seq #[x,y]}) z TI TO .ellipsis:=Heap.get?_push_of_some _ y5
 refine wpAny_bind (wpAny_setField_rec y6 (by simp) fun g7 y7 s7=> ?_)
 have y7:IsZip g7 z TI TO (rawInt g5.objs.size):=y7
 refine wpAny_setField_rec y7 (by simp) fun g8 y8 s8=> ?_
 have y8:IsZip g8 z TI TO (rawInt g5.objs.size):=y8
 have up:∀c o,c≠z→g5.get? c=some o→g8.get? c=some o:=fun c o n e=>s8.extBut _ _ n (s7.extBut _ _ n (Heap.get?_push_of_some _ e))
 have p8:IsPair g8 g5.objs.size x y:=s8.extBut _ _ (Nat.ne_of_gt lz) (s7.extBut _ _ (Nat.ne_of_gt lz) (Heap.get?_push_size _ rfl))
 have z8:g8.objs.size=g5.objs.size+1:=by rw [s8.1,s7.1,Heap.size_push]
 rw [sz] at y8 p8 z8
 refine wpAny_pure ⟨_,rfl,?_⟩
 show Q (.ref g5.objs.size) _
 rw [sz]
 exact q g8 y8 (up _ _ D.TOz o5) (dj v1 fun o e=>up _ o D.i1z e) (dj v2 fun o e=>up _ o D.i2z e) p8 z8 fun c o c1 c2 c3 c4 e=>up c o c1 (all c o c1 c2 c3 c4 e)
theorem vw {Q:Fin→Shared→Prop} (hh:A.handled=none) (D:ZipApart z TI TO i1 i2 l1 l2) (hz:IsZip s.heap z TI TO .none) (hI:IsPair s.heap TI (.ref i1) (.ref i2)) (hO:IsPair s.heap TO a b)
 (t1:k.It s.heap i1 l1 j) (t2:k.It s.heap i2 l2 j) (q1:k.Sq s.heap l1 xs) (q2:k.Sq s.heap l2 ys) (ends:xs[j]?=none)
 (q:∀h' e,(∀c o,c≠z→c≠TO→c≠i1→c≠i2→s.heap.get? c=some o→h'.get? c=some o)→(∃o,h'.get? e=some o∧o.cls= .type "StopIteration")→E (.ref e) {s with heap:=h'}):
 wpAny (model prog w) A (Builtin.«zip.__next__» ⟨[.ref z],[]⟩) Q E s:=by
 show wpAny _ _ (do let u←field (.ref z) 2;_) _ _ _
 refine wpAny_bind (wpAny_field hz rfl (x:= .bool false) rfl ?_)
 show wpAny _ _ (do let u←field (.ref z) 3;_) _ _ _
 refine wpAny_bind (wpAny_field hz rfl (x:= .ref TI) rfl (wpAny_bind (wpAny_seqItems hI rfl ?_)))
 show wpAny _ _ (do let u←Builtin.SmallTypes.ownedTupleIsFree (.ref z);_) _ _ _
 refine wpAny_bind ?_
 rw [Builtin.SmallTypes.ownedTupleIsFree]
 refine wpAny_bind (wpAny_field hz rfl (x:= .none) rfl (wpAny_pure ?_))
 simp only [if_true]
 refine wpAny_bind (wpAny_rule (wpAny_bind (wpAny_field hz rfl (x:= .ref TO) rfl (wpAny_bind (wpAny_setField_rec hz (by simp) fun g1 y1 s1=> ?_)))))
 have y1:IsZip g1 z TI TO .ellipsis:=y1
 refine wpAny_bind ?_
 simp only [List.forIn_cons,List.forIn_nil,List.zipIdx_nil,List.zipIdx_cons]
 refine wpAny_bind (wpAny_bind (wpAny_onRaise ?_))
 show wpAny _ _ (do let u←Builtin.SmallTypes.nextOf (.ref i1);_) _ _ _
 refine wpAny_bind (rS (s:= {s with heap:=g1}) hh (dj t1 fun o e=>s1.extBut _ o D.i1z e) (lu q1 fun o e=>s1.extBut _ o D.l1z e) ends fun g2 e s2 he=> ?_)
 obtain ⟨oe,e1,e2⟩:=he
 have y2:IsZip g2 z TI TO .ellipsis:=s2 _ _ D.i1z.symm y1
 have ne:e≠z:=fun n=>by subst n;rw [y2] at e1;cases e1;simp at e2
 exact wpAny_setField_rec y2 (by simp) fun g3 _ s3=>q g3 e (fun c o c1 _ c3 _ n=>s3.extBut _ _ c1 (s2 _ _ c3 (s1.extBut _ _ c1 n))) ⟨oe,s3.extBut _ _ ne e1,e2⟩
theorem tR {Q:Option Value→Shared→Prop} (D:ZipApart z TI TO i1 i2 l1 l2) (hz:IsZip s.heap z TI TO .none) (hI:IsPair s.heap TI (.ref i1) (.ref i2)) (hO:IsPair s.heap TO a b)
 (t1:k.It s.heap i1 l1 j) (t2:k.It s.heap i2 l2 j) (q1:k.Sq s.heap l1 xs) (q2:k.Sq s.heap l2 ys) (ex:xs[j]?=some x) (ey:ys[j]?=some y)
 (q:∀h',IsZip h' z TI TO (rawInt s.heap.objs.size)→IsPair h' TO x y→k.It h' i1 l1 (j+1)→k.It h' i2 l2 (j+1)→IsPair h' s.heap.objs.size x y→h'.objs.size=s.heap.objs.size+1→
  (∀c o,c≠z→c≠TO→c≠i1→c≠i2→s.heap.get? c=some o→h'.get? c=some o)→Q (some (.ref s.heap.objs.size)) {s with heap:=h'}):
 wpAny (model prog w) A (pyNext (.ref z)) Q E s:=by
 have ty:s.TypeIs (.ref z) "zip":=⟨_,hz,rfl⟩
 rw [pyNext]
 exact wpAny_bind (wpAny_attempt (wpAny_callSpecial?_slot (name:=Str.ofString "__next__") ty F.slot_zip_next (wpAny_call_entry F.slot_zip_next ty F.entry_zip_next
  (tP D hz hI hO t1 t2 q1 q2 ex ey fun h' a1 a2 a3 a4 a5 a6 a7=>wpAny_pure (q h' a1 a2 a3 a4 a5 a6 a7)) (F.args_zip_next_1 _))))
theorem vx {Q:Option Value→Shared→Prop} (hh:A.handled=none) (D:ZipApart z TI TO i1 i2 l1 l2) (hz:IsZip s.heap z TI TO .none) (hI:IsPair s.heap TI (.ref i1) (.ref i2)) (hO:IsPair s.heap TO a b)
 (t1:k.It s.heap i1 l1 j) (t2:k.It s.heap i2 l2 j) (q1:k.Sq s.heap l1 xs) (q2:k.Sq s.heap l2 ys) (ends:xs[j]?=none)
 (q:∀h',(∀c o,c≠z→c≠TO→c≠i1→c≠i2→s.heap.get? c=some o→h'.get? c=some o)→Q none {s with heap:=h'}):wpAny (model prog w) A (pyNext (.ref z)) Q E s:=by
 have ty:s.TypeIs (.ref z) "zip":=⟨_,hz,rfl⟩
 rw [pyNext]
 refine wpAny_bind (wpAny_attempt (wpAny_callSpecial?_slot (name:=Str.ofString "__next__") ty F.slot_zip_next (wpAny_call_entry F.slot_zip_next ty F.entry_zip_next (vw hh D hz hI hO t1 t2 q1 q2 ends fun h' e up he=> ?_) (F.args_zip_next_1 _))))
 obtain ⟨o,e1,e2⟩:=he
 exact wpAny_bind (wpAny_isInstance (T:="StopIteration") (b:=true) ⟨o,e1,e2⟩ isSubtype_stop (wpAny_pure (q _ up)))
end
open PySem
abbrev zA (h:Heap) (l:Addr):Heap:=h.push {cls:= .type "tuple_iterator",data:= .fields #[.ref l, .int 0 0]}
abbrev zB (h:Heap) (l m:Addr):Heap:=zA (zA h l) m
noncomputable abbrev zC (h:Heap) (l m:Addr):Heap:=(zB h l m).push {cls:= .type "tuple",data:= .seq #[.ref h.objs.size, .ref (zA h l).objs.size]}
noncomputable abbrev zD (h:Heap) (l m:Addr):Heap:=(zC h l m).push {cls:= .type "tuple",data:= .seq #[.none, .none]}
noncomputable abbrev zE (h:Heap) (l m:Addr):Heap:=(zD h l m).push {cls:= .type "zip",data:= .fields #[.none, .bool false, .bool false, .ref (zB h l m).objs.size, .ref (zC h l m).objs.size]}
theorem uz (l m:Addr) (xs ys:Array Value):Meets (Builtin.«zip.__new__» ⟨[.type "zip", .ref l, .ref m],[]⟩) (fun _ R s=>s.heap.IsTuple l xs∧s.heap.IsTuple m ys∧
 R (.ok (.ret (.ref (zD s.heap l m).objs.size))) {s with heap:=zE s.heap l m}):=
 .of_wp fun prog w A R s h=>by
  obtain ⟨hp,g,d,tk,os⟩:=s
  obtain ⟨p1,p2,h⟩:=h
  have hsub:=sub_zip
  have p1:Heap.IsTuple (Shared.heap ⟨hp,g,d,tk,os⟩) l xs:=p1
  have p2:Heap.IsTuple (Shared.heap ⟨zA hp l,g,d,tk,os⟩) m ys:=Heap.IsTuple.at p2 fun o e=>Heap.get?_push_of_some _ e
  wp_walk using wpAny_pyIter_tuple p1,wpAny_pyIter_tuple p2
  exact ⟨_,rfl,h⟩
section
variable {prog:Program} {w:World} {A:Around} {E:Value→Shared→Prop} {s:Shared}
theorem tE {k:Src} {l m:Addr} {xs ys:Array Value} {Q:Value→Shared→Prop} (p1:k.Sq s.heap l xs) (p2:k.Sq s.heap m ys)
 (q:∀h',IsZip h' (s.heap.objs.size+4) (s.heap.objs.size+2) (s.heap.objs.size+3) .none→IsPair h' (s.heap.objs.size+2) (.ref s.heap.objs.size) (.ref (s.heap.objs.size+1))→
  IsPair h' (s.heap.objs.size+3) .none .none→k.It h' s.heap.objs.size l 0→k.It h' (s.heap.objs.size+1) m 0→h'.objs.size=s.heap.objs.size+5→
  (∀c o,s.heap.get? c=some o→h'.get? c=some o)→Q (.ref (s.heap.objs.size+4)) {s with heap:=h'}):
 wpAny (model prog w) A (call (.type "zip") [.ref l, .ref m]) Q E s:=by
 cases k
 · exact call_zip_2 p1 p2 q
 · refine callType_new F.called_zip (by decide) (F.typeCall_zip_2 _ _) (F.newCall_zip_2 _ _) (fun obj=>F.args_object_init_3 obj _ _) F.entry_zip_new (uz l m xs ys) ⟨p1,p2,?_⟩
   have a1:(zA s.heap l).objs.size=s.heap.objs.size+1:=Heap.size_push ..
   have a2:(zB s.heap l m).objs.size=s.heap.objs.size+2:=by rw [Heap.size_push,a1]
   have a3:(zC s.heap l m).objs.size=s.heap.objs.size+3:=by rw [Heap.size_push,a2]
   have a4:(zD s.heap l m).objs.size=s.heap.objs.size+4:=by rw [Heap.size_push,a3]
   have a5:(zE s.heap l m).objs.size=s.heap.objs.size+5:=by rw [Heap.size_push,a4]
   have b5:(zE s.heap l m).get? (zD s.heap l m).objs.size=some _:=Heap.get?_push_size _ rfl
   have b4:(zE s.heap l m).get? (zC s.heap l m).objs.size=some _:=Heap.get?_push_of_some _ (Heap.get?_push_size _ rfl)
   have b3:(zE s.heap l m).get? (zB s.heap l m).objs.size=some _:=Heap.get?_push_of_some _ (Heap.get?_push_of_some _ (Heap.get?_push_size _ rfl))
   have b2:(zE s.heap l m).get? (zA s.heap l).objs.size=some _:=Heap.get?_push_of_some _ (Heap.get?_push_of_some _ (Heap.get?_push_of_some _ (Heap.get?_push_size _ rfl)))
   have b1:(zE s.heap l m).get? s.heap.objs.size=some _:=Heap.get?_push_of_some _ (Heap.get?_push_of_some _ (Heap.get?_push_of_some _ (Heap.get?_push_of_some _ (Heap.get?_push_size _ rfl))))
   show _∧_
   rw [a2,a3,a4] at b5
   rw [a1,a2] at b3
   rw [a3] at b4
   rw [a1] at b2
   rw [a4]
   exact ⟨⟨_,b5,rfl⟩,q _ b5 b3 b4 ⟨_,b1,rfl,rfl⟩ ⟨_,b2,rfl,rfl⟩ a5 fun c o e=>Heap.get?_push_of_some _ (Heap.get?_push_of_some _ (Heap.get?_push_of_some _ (Heap.get?_push_of_some _ (Heap.get?_push_of_some _ e))))⟩
end
end Zp
namespace L2
open PySem PySem.Spec PyProof.Rows Zp
def Sqk (k:Src) (K:PySem.W.Frag) (H:Hp) (a:Addr) (xs:List V):Prop:=match k with
 | .lst=>SqL K H a xs
 | .tup=>SqT K H a xs
theorem Inv.sqk {X:Cx} {pins:List (Addr×Obj)} {σ:St} {H:Hp} {s:Shared} {k:Src} {a:Addr} {xs:List V} (I:Inv X pins σ H s) (h:Sqk k X.K H a xs):∃its:List Value,Vals xs its∧k.Sq s.heap a its.toArray∧xs.length≤sizeLine:=by
 cases k
 · obtain ⟨its,r,p,z⟩:=I.list h
   exact ⟨its,r,p.isList,z⟩
 · obtain ⟨its,r,p,z⟩:=I.tuple h
   exact ⟨its,r,p,z⟩
theorem Inv.sqk_inj {X:Cx} {pins:List (Addr×Obj)} {σ:St} {H:Hp} {s:Shared} {k:Src} {a:Addr} {xs ys:List V} (I:Inv X pins σ H s) (h:Sqk k X.K H a xs) (h':Sqk k X.K H a ys):xs=ys:=by
 cases k
 · exact I.list_inj h h'
 · exact I.tuple_inj h h'
def Itz (k:Src) (K:PySem.W.Frag) (a b:Addr):It:=
 ⟨fun i H=>∃xs ys x y,Sqk k K H a xs∧Sqk k K H b ys∧xs[i]?=some x∧ys[i]?=some y,
  fun i H v H'=>∃T x y,v= .ref T∧H T=none∧H'=upd H T (.tup [x,y])∧(∀xs,Sqk k K H a xs→xs[i]?=some x)∧(∀ys,Sqk k K H b ys→ys[i]?=some y)∧i < sizeLine,
  fun i H=>∃xs ys,Sqk k K H a xs∧Sqk k K H b ys∧xs.length≤i⟩
section
variable {X:Cx} {pins:List (Addr×Obj)} {σ:St} {H:Hp} {s:Shared}
theorem Inv.turneds {h':Heap} {t':Nat} {fp:List Addr} (I:Inv X pins σ H s) (k:∀b o,b∉fp→s.heap.get? b=some o→h'.get? b=some o) (hf:∀b∈fp,FpOk X pins H b):Inv X pins σ H {s with heap:=h',toks:=t'}:=by
 refine I.call' (s':= {s with heap:=h',toks:=t'}) (ch:=fp) rfl ⟨fun b o e _ _ hx=>k b o hx e,fun b o e _ _ hx=>⟨o.slots,k b o hx e⟩,fun _ _ _ n _=>n,fun b o e hx=>⟨o,k b o hx e⟩,fun _ _ e=>e,fun _ _ _ e=>e,fun b ps e=>⟨#[],by rw [e];simp⟩⟩ ?_ I.bare fun b hb=> ?_
 · intro b o e
   have nb:∀c u,H c=some u→c∉fp:=fun c u e z=>by rw [(hf c z).1] at e;cases e
   refine (I.hok b o e).stay (fun c v hc q=>k c v ?_ q) (fun _ q=>q) fun _ _ q=>q
   rcases hc with z|z
   · rw [z];exact nb b o e
   · exact nb c _ z
 · obtain ⟨g0,g1,g2,g3,g4,g5⟩:=hf b hb
   exact ⟨g3,g1,g4,g5⟩
end
theorem cZ {P:Program} {w:World} {K:PySem.W.Frag} {es:List Expr} {kk:Nat} {pos:Pos} {k:Src} (a b z TI TO i1 i2:Addr) (hd: [z,TI,TO,i1,i2].Nodup):
 Turn P w K (.Tuple es kk pos) (Itz k K a b) [z,TI,TO,i1,i2] z (fun i h=>IsZip h z TI TO .none∧IsPair h TI (.ref i1) (.ref i2)∧(∃u v,IsPair h TO u v)∧k.It h i1 a i∧k.It h i2 b i∧a∉ [z,TI,TO,i1,i2]∧b∉ [z,TI,TO,i1,i2]) where
 mem:=by simp
 obj:=fun i h ⟨h1,h2,⟨u,v,h3⟩,h4,h5,_⟩ c hc=>by
  simp only [List.mem_cons,List.not_mem_nil,or_false] at hc
  rcases hc with rfl|rfl|rfl|rfl|rfl
  · exact ⟨_,h1,fun v e=>by cases (show Data.fields _=Data.cell v from e)⟩
  · exact ⟨_,h2,fun v e=>by cases (show Data.seq _ _=Data.cell v from e)⟩
  · exact ⟨_,h3,fun v e=>by cases (show Data.seq _ _=Data.cell v from e)⟩
  · exact kJ h4
  · exact kJ h5
 keep:=fun i h h' ⟨h1,h2,⟨u,v,h3⟩,h4,h5,h6⟩ kp=>⟨kp z (by simp) _ h1,kp TI (by simp) _ h2,⟨u,v,kp TO (by simp) _ h3⟩,dj h4 fun o e=>kp i1 (by simp) o e,dj h5 fun o e=>kp i2 (by simp) o e,h6⟩
 item:=by
  intro X hP hw hK hc i pins s σ H E I hf ⟨h1,h2,⟨u0,v0,h3⟩,h4,h5,h6,h7⟩ hg
  subst hP hw hK
  obtain ⟨xs,ys,x,y,g1,g2,g3,g4⟩:=hg
  obtain ⟨as,r1,p1,z1⟩:=I.sqk g1
  obtain ⟨bs,r2,p2,z2⟩:=I.sqk g2
  obtain ⟨u,e1,q1⟩:=r1.get g3
  obtain ⟨v,e2,q2⟩:=r2.get g4
  simp only [List.nodup_cons,List.mem_cons,List.not_mem_nil,or_false,not_or,List.nodup_nil,and_true,not_false_eq_true] at hd h6 h7
  obtain ⟨⟨d1,d2,d3,d4⟩,⟨d5,d6,d7⟩,⟨d8,d9⟩,d10⟩:=hd
  have D:ZipApart z TI TO i1 i2 a b:=⟨Ne.symm d1,Ne.symm d2,Ne.symm d3,Ne.symm d4,d5,d6,d7,d8,d9,d10,h6.1,h6.2.2.1,h6.2.2.2.1,h6.2.2.2.2,h7.1,h7.2.2.1,h7.2.2.2.1,h7.2.2.2.2⟩
  refine tR D h1 h2 h3 h4 h5 p1 p2 (x:=u) (y:=v) (by simpa using e1) (by simpa using e2) fun h' a1 a2 a3 a4 a5 a6 up=>⟨_,rfl,?_⟩
  refine wpAny_letOwnedTupleGo_zip (s:= {s with heap:=h'}) a1 fun h'' b1 sb=> ?_
  have T:=s.heap.objs.size
  have fr:H s.heap.objs.size=none:=I.hok.fresh (Nat.le_refl _)
  have lt:∀ {c:Addr} {o:Obj},s.heap.get? c=some o→c≠s.heap.objs.size:=fun e=>Nat.ne_of_lt (Heap.lt_size e)
  have all:∀c o,c∉ [z,TI,TO,i1,i2]→s.heap.get? c=some o→h''.get? c=some o:=fun c o n e=>by
   simp only [List.mem_cons,List.not_mem_nil,or_false,not_or] at n
   exact sb.extBut c o n.1 (up c o n.1 n.2.2.1 n.2.2.2.1 n.2.2.2.2 e)
  have nz:s.heap.objs.size≠z:=(lt h1).symm
  have pT:IsPair h'' s.heap.objs.size u v:=sb.extBut _ _ nz a5
  have fp:∀b∈ [z,TI,TO,i1,i2],upd H s.heap.objs.size (.tup [x,y]) b=none:=fun c hc=>by
   have nc:c≠s.heap.objs.size:=by
    simp only [List.mem_cons,List.not_mem_nil,or_false] at hc
    rcases hc with rfl|rfl|rfl|rfl|rfl
    · exact lt h1
    · exact lt h2
    · exact lt h3
    · obtain ⟨o,e,_⟩:=kJ h4
      exact lt e
    · obtain ⟨o,e,_⟩:=kJ h5
      exact lt e
   rw [aB nc]
   exact (hf c hc).1
  refine ⟨.ref s.heap.objs.size,upd H s.heap.objs.size (.tup [x,y]),?_,rfl,⟨_,x,y,rfl,fr,rfl,fun zs hz=> ?_,fun zs hz=> ?_,Nat.lt_of_lt_of_le (List.getElem?_eq_some_iff.mp g3).1 z1⟩,⟨b1,?_,⟨u,v,?_⟩,?_,?_,?_,?_⟩,fp⟩
  ·
   refine I.call' (s':= {s with heap:=h''}) (ch:= [z,TI,TO,i1,i2]) rfl ⟨fun b o e _ _ hx=>all b o hx e,fun b o e _ _ hx=>⟨o.slots,all b o hx e⟩,fun c o e n _=>by rw [aB (lt e)];exact n,fun b o e hx=>⟨o,all b o hx e⟩,fun c zs e=>by rw [aB (aN e fr)];exact e,fun c o zs e=>by rw [aB (aN e fr)];exact e,fun c ps e=>⟨#[],by rw [aB (aN e fr),e];simp⟩⟩ ?_ I.bare fun b hb=> ?_
   · intro c o e
     by_cases hcT:c=s.heap.objs.size
     · subst hcT
       rw [ac] at e
       cases e
       exact ⟨by show 2≤sizeLine;decide,[u,v], .cons q1 (.cons q2 .nil),⟨_,pT,rfl,_,rfl⟩⟩
     · rw [aB hcT] at e
       have nb:∀c u,H c=some u→c∉ [z,TI,TO,i1,i2]:=fun c u e hz=>by rw [(hf c hz).1] at e;cases e
       refine (I.hok c o e).stay (fun d v hc q=>all d v ?_ q) (fun d q=> ?_) fun d m q=> ?_
       · rcases hc with hz|hz
         · rw [hz];exact nb c o e
         · exact nb d _ hz
       · rw [aB (aN q fr)];exact q
       · rw [aB (aN q fr)];exact q
   · obtain ⟨g0,g1,g2,g3,g4,g5⟩:=hf b hb
     exact ⟨g3,g1,g4,g5⟩
  · rw [I.sqk_inj hz g1];exact g3
  · rw [I.sqk_inj hz g2];exact g4
  · exact sb.extBut _ _ D.TIz (up _ _ D.TIz D.TITO D.TIi1 D.TIi2 h2)
  · exact sb.extBut _ _ D.TOz a2
  · exact dj a3 fun o e=>sb.extBut _ o D.i1z e
  · exact dj a4 fun o e=>sb.extBut _ o D.i2z e
  · simpa using h6
  · simpa using h7
 done:=by
  intro X hP hw hK hc i pins s σ H E I hf ⟨h1,h2,⟨u0,v0,h3⟩,h4,h5,h6,h7⟩ hg
  subst hP hw hK
  obtain ⟨xs,ys,g1,g2,g3⟩:=hg
  obtain ⟨as,r1,p1,z1⟩:=I.sqk g1
  obtain ⟨bs,r2,p2,z2⟩:=I.sqk g2
  have hl:=r1.length
  simp only [List.nodup_cons,List.mem_cons,List.not_mem_nil,or_false,not_or,List.nodup_nil,and_true,not_false_eq_true] at hd h6 h7
  obtain ⟨⟨d1,d2,d3,d4⟩,⟨d5,d6,d7⟩,⟨d8,d9⟩,d10⟩:=hd
  have D:ZipApart z TI TO i1 i2 a b:=⟨Ne.symm d1,Ne.symm d2,Ne.symm d3,Ne.symm d4,d5,d6,d7,d8,d9,d10,h6.1,h6.2.2.1,h6.2.2.2.1,h6.2.2.2.2,h7.1,h7.2.2.1,h7.2.2.2.1,h7.2.2.2.2⟩
  refine vx (I.ok.hd hc) D h1 h2 h3 h4 h5 p1 p2 (by simp;omega) fun h' up=>⟨rfl,I.turneds (t':=s.toks) (fun c o n e=> ?_) hf⟩
  simp only [List.mem_cons,List.not_mem_nil,or_false,not_or] at n
  exact up c o n.1 n.2.2.1 n.2.2.2.1 n.2.2.2.2 e
 self:=fun _ _ _ _ _ st h=>wpAny_pyIter_zip st.1 h
section
variable {X:Cx}
end
open PySem PySem.Spec PyProof.Rows Zp
section
variable {X:Cx}
end
section
variable {X:Cx}
theorem jN:∀ {bs:List Bool} {us:List Value},Vals (bs.map V.bl) us→us=bs.map Value.bool
 | [],_,r=>by cases r;rfl
 |b::bs,_,r=>by
  rw [List.map_cons] at r
  cases r with
  |cons r1 r2=>rw [jN r2,(show _=Value.bool b from r1)];rfl
theorem cO (hc:X.calm=true):CallR X (.builtin "all") (fun xs H Q=>∃(p:Addr) (bs:List Bool),xs= [.ref p]∧SqL X.K H p (bs.map V.bl)∧Q (.bl (bs.all id)) H):=by
 intro pins s σ H xs us Q I r h
 obtain ⟨p,bs,rfl,hp,q⟩:=h
 obtain ⟨u,rfl,ru⟩:=iB r
 cases ru
 obtain ⟨its,rv,pl,_⟩:=I.list hp
 have e:=jN rv
 subst e
 have hlt:p < s.heap.objs.size:=by obtain ⟨_,e,_⟩:=pl.isList;exact Heap.lt_size e
 refine call_all_walk (wpAny_pyIter_list pl.isList ⟨s.heap.objs.size,[s.heap.objs.size,p],[s.heap.objs.size],(bs.map Value.bool).toArray.size,_,_,fun i=>(bs[i]?).getD true,rfl,Walks.list (A:=X.A.in1) (I.ok.hd hc) _ p (Nat.ne_of_lt hlt) _,
  ⟨⟨_,Heap.get?_push_size _ rfl,rfl,rfl⟩,pl.isList.push _⟩,fun i v s' Q' E' hP hQ=> ?_,fun h' tk hk=> ?_⟩)
 · have hP':(bs.map Value.bool)[i]?=some v:=by simpa using hP
   rw [List.getElem?_map] at hP'
   obtain ⟨b,e,rfl⟩:=Option.map_eq_some_iff.mp hP'
   dsimp only at hQ
   rw [e] at hQ
   exact wpAny_truthy_bool hQ
 · have e:((List.range (bs.map Value.bool).toArray.size).all fun i=>(bs[i]?).getD true)=bs.all id:=by
    rw [List.size_toArray,List.length_map]
    exact PyProof.Rows.LSm.range_all bs
   rw [e]
   refine ⟨.bl _,H,I.kept (t':=tk) fun b x ex=>hk b x (fun hm=> ?_) (Heap.get?_push_of_some _ ex),rfl,q⟩
   rw [List.mem_singleton.mp hm] at ex
   exact Nat.lt_irrefl _ (Heap.lt_size ex)
end
end L2
namespace Tre
open PySem L2 Zp
def Sm (H:Hp):Nat→V→V→Prop
 |0,_,_=>False
 |n+1,v,w=>(∃x,v= .str x∧w= .str x)∨(∃i,v= .int i∧w= .int i)∨(∃b,v= .bl b∧w= .bl b)∨(v= .non∧w= .non)∨
  ∃a b xs ys,v= .ref a∧w= .ref b∧((H a=some (.lst xs)∧H b=some (.lst ys))∨(H a=some (.tup xs)∧H b=some (.tup ys)))∧ys.length=xs.length∧∀(j:Nat) x y,xs[j]?=some x→ys[j]?=some y→Sm H n x y
theorem Sm.mono {H H':Hp} (s:Same H H'):∀ {n:Nat} {v w:V},Sm H n v w→Sm H' n v w
 |0,_,_,h=>h.elim
 |n+1,v,w,h=>by
  rcases h with h|h|h|h|⟨a,b,xs,ys,e1,e2,h1,h2,h4⟩
  · exact .inl h
  · exact .inr (.inl h)
  · exact .inr (.inr (.inl h))
  · exact .inr (.inr (.inr (.inl h)))
  · refine .inr (.inr (.inr (.inr ⟨a,b,xs,ys,e1,e2,?_,h2,fun j x y q1 q2=>Sm.mono s (h4 j x y q1 q2)⟩)))
    rcases h1 with ⟨q1,q2⟩|⟨q1,q2⟩
    · exact .inl ⟨s _ _ q1,s _ _ q2⟩
    · exact .inr ⟨s _ _ q1,s _ _ q2⟩
open PySem PySem.Spec PyProof.Rows L2
section
variable {X:Cx}
theorem tM {H:Hp} {t:Tr} {e:Value→Bool}:∀ {xs:List V} {us:List Value} {ts:List Tr},Vals xs us→TrsAt H xs ts→(∀v u s,RelV v u→TrAt H v s→e u=eqT s t)→us.any e=ts.any fun s=>eqT s t
 |_,_,[],r,h,_=>by
  unfold TrsAt at h
  subst h
  cases r
  rfl
 |_,_,s::ts,r,h,he=>by
  unfold TrsAt at h
  obtain ⟨v,q,rfl,h1,h2⟩:=h
  cases r with
  |cons r1 r2=>rw [List.any_cons,List.any_cons,tM r2 h2 he,he _ _ _ r1 h1]
def u9:V→List V→Hp→VK→Prop:=fun x vs H Q=>∃l xs y j,∃i:Nat,x= .ref l∧vs= [.int j,y]∧j=(i:Int)∧H l=some (.lst xs)∧i≤xs.length∧xs.length < sizeLine∧Q .non (upd H l (.lst (xs.take i++y::xs.drop i)))
theorem wp {its:List Value} {u:Value} {j:Int} {i:Nat} (hj:j=(i:Int)) (hi:i≤its.length):((its.toArray.extract 0 (if j < 0 then (j+(its.toArray.size:Int)).toNat else min j.toNat its.toArray.size)).push u++its.toArray.extract (if j < 0 then (j+(its.toArray.size:Int)).toNat else min j.toNat its.toArray.size))=(its.take i++u::its.drop i).toArray:=by
 have e1:(if j < 0 then (j+(its.toArray.size:Int)).toNat else min j.toNat its.toArray.size)=i:=by
  rw [if_neg (by omega),List.size_toArray]
  omega
 rw [e1]
 exact PySem.W.kl_ins_eq its i u
theorem pM:MtM X "list.insert" u9:=by
 intro pins s σ H x vs v us Q I rx rv h
 obtain ⟨l,xs,y,j,i,rfl,rfl,hj,hH,hi,hz,q⟩:=h
 cases rx
 obtain ⟨u1,u,rfl,ru1,ru⟩:=rv.two
 obtain ⟨t,rfl⟩:=ru1
 obtain ⟨z,its,n,r,hl,e⟩:=I.lstM hH
 have hL:=eL
 have f1:-(2^63)≤j:=by omega
 have f2:j < 2^63:=by omega
 have nf:¬(!Builtin.List.listFitsIndex j)=true:=by
  rw [fitsIndex_both f1 f2]
  exact Bool.false_ne_true
 have sz:its.toArray.size≤sizeLine:=by
  rw [List.size_toArray,←hl]
  exact Nat.le_of_lt hz
 have M:=AutoSeq1.list_insert_list_int_val_1 l its.toArray n j t u nf sz
 refine call_meets F.slot_list_insert ⟨_,e,rfl⟩ F.entry_list_insert (F.args_list_insert_3 _ _ _) M ⟨e,?_⟩
 refine ⟨.non,_,I.lset (its':=its.take i++u::its.drop i) hH e (wp hj (by omega)) ((r.take i).append (.cons ru (r.drop i))) ?_,rfl,q⟩
 rw [List.length_append,List.length_cons,List.length_take,List.length_drop]
 omega
end
open PySem PySem.Spec PyProof.Rows L2
section
variable {X:Cx}
def SqE (H:Hp) (p:Addr) (xs:List V):Prop:=H p=some (.lst xs)∨H p=some (.tup xs)
def rIn (b:Bool):R2:=fun x y H Q=>∃p xs ts t,y= .ref p∧SqE H p xs∧TrsAt H xs ts∧TrAt H x t∧(∀u∈ts,u.depth≤40)∧t.pure∧Q (.bl ((ts.any fun u=>eqT u t)==b)) H
theorem lW {pins:List (Addr×Obj)} {s:Shared} {σ:L2.St} {H:Hp} {xs:List V} {ts:List Tr} {t:Tr} {x:V} {v:Value} {its:List Value} (hu:X.A.units+50 < cLine) (I:Inv X pins σ H s) (rx:RelV x v) (r:Vals xs its) (hT:TrsAt H xs ts) (ht:TrAt H x t) (hd:∀u∈ts,u.depth≤40) (hpu:t.pure):
 ∃e:Value→Bool,(∀w,w∈its.toArray→SeqAt.EqAt X.A.in1 s w v (e w))∧its.toArray.any e=ts.any fun s=>eqT s t:=by
 classical
 have he:∀v' u' s',RelV v' u'→TrAt H v' s'→decide (∃v s,RelV v u'∧TrAt H v s∧eqT s t=true)=eqT s' t:=fun v' u' s' r' h'=>by
  cases e:eqT s' t with
  |true=>exact decide_eq_true ⟨v',s',r',h',e⟩
  |false=>
   refine decide_eq_false ?_
   rintro ⟨v2,s2,r2,h2,e2⟩
   cases r2.inj r'
   rw [TrAt.det h2 h',e] at e2
   cases e2
 refine ⟨fun u'=>decide (∃v s,RelV v u'∧TrAt H v s∧eqT s t=true),fun w hw=> ?_,?_⟩
 · have hw':w∈its:=by simpa using hw
   obtain ⟨j,hj,ej⟩:=List.getElem_of_mem hw'
   have l1:=r.length
   have l2:=hT.len
   have t1:ts[j]?=some (ts[j]'(by omega)):=List.getElem?_eq_getElem _
   obtain ⟨v',e1,a1⟩:=hT.get t1
   obtain ⟨u',e2,q2⟩:=r.get e1
   rw [List.getElem?_eq_getElem hj,ej] at e2
   cases e2
   dsimp only
   rw [he _ _ _ q2 a1]
   exact jY I 40 (hd _ (List.mem_of_getElem? t1)) (.inr hpu) a1 ht q2 rx (by show X.A.units+1+40+1 < cLine;omega)
 · rw [List.any_toArray]
   exact tM r hT he
theorem vp (b:Bool):(b==false)= !b:=by cases b<;>rfl
theorem ug (hu:X.A.units+50 < cLine):OpR X (compareOp .NotIn) (rIn false):=by
 intro pins s σ H x y v u Q I rx ry h
 obtain ⟨p,xs,ts,t,rfl,hp,hT,ht,hd,hpu,q⟩:=h
 cases ry
 rcases hp with hp|hp
 · obtain ⟨its,r,pl,hz⟩:=I.list (SqL.of hp)
   obtain ⟨e,h1,h2⟩:=lW hu I rx r hT ht hd hpu
   refine SeqAt.notIn_listAt e pl.isList h1 ⟨.bl _,H,I,rfl,?_⟩
   rw [h2,←vp (ts.any fun s=>eqT s t)]
   exact q
 · obtain ⟨its,r,pl,hz⟩:=I.tuple (SqT.of hp)
   obtain ⟨e,h1,h2⟩:=lW hu I rx r hT ht hd hpu
   refine SeqAt.notIn_tupleAt e (show s.heap.IsTuple p its.toArray from pl) h1 ⟨.bl _,H,I,rfl,?_⟩
   rw [h2,←vp (ts.any fun s=>eqT s t)]
   exact q
end
theorem tI {H:Hp}:∀ {bs:List Bool},TrsAt H (bs.map V.bl) (bs.map Tr.bl)
 | []=> .nil
 |b::bs=> .cons (by unfold TrAt;rfl) tI
theorem oZ (b:Bool):∀bs:List Bool,((bs.map Tr.bl).any fun u=>eqT u (.bl b))=bs.any (· ==b)
 | []=>rfl
 |c::bs=>by
  rw [List.map_cons,List.any_cons,List.any_cons,oZ b bs]
  simp [eqT]
theorem pW {bs:List Bool}:∀u∈bs.map Tr.bl,u.depth≤40:=fun u m=>by
 obtain ⟨b,_,rfl⟩:=List.mem_map.mp m
 simp [Tr.depth]
end Tre
namespace L2
open PySem PySem.Spec PyProof.Rows
section
variable {X:Cx}
end
theorem tf {K K':PySem.W.Frag} {a:Addr} {mp:List (Option Nat)} {tl:TE} {te:TE} {Q:VK} {σ rest:L2.St} {H H1:Hp} {xs:List V} (e:subS mp σ=none::none::rest)
 (ha:∀Q:VK,Q (.ref a) H1→tl σ H Q) (h1:SqT K H1 a xs)
 (h:∀D,H1 D=none→∃Pv:Nat→List V→Hp→Prop,Pv 0 [] (upd H1 D (.lst []))∧(∀i acc H,Pv i acc H→SqT K H a xs)∧
  (∀i z acc H,i < xs.length→Pv i acc H→xs[i]?=some z→∃T x y,z= .ref T∧SqT K' H T [x,y]∧te (some x::some y::rest) H (CompN xs.length i D acc Pv))∧∀acc H,Pv xs.length acc H→Q (.ref D) H):
 fc mp (iTup K tl) (gTup K' 2 (fY (cp 0) (fY (cp 1) gNil))) dn te σ H Q:=by
 unfold fc
 rw [e]
 refine ha _ ⟨a,rfl,⟨xs,h1⟩,fun D nD=> ?_⟩
 obtain ⟨Pv,p0,pq,ps,pd⟩:=h D nD
 refine ⟨fun i m acc H=>m=xs.length - i∧i≤xs.length∧Pv i acc H,⟨xs.length,by simp,Nat.zero_le _,p0⟩,?_⟩
 rintro i m acc H ⟨rfl,hi,p⟩
 have q1:=pq i acc H p
 by_cases hlt:i < xs.length
 · refine .inr ⟨⟨xs,xs[i],q1,by simp [hlt]⟩,?_⟩
   rintro v H' ⟨rfl,y⟩
   have ev:=y xs q1
   obtain ⟨T,x,z,rfl,hT,hte⟩:=ps i v acc _ hlt p ev
   exact ⟨T,[x,z],rfl,hT,rfl,x,[z],rfl,z,[],rfl,rfl,ext2,hte⟩
 · have ei:i=xs.length:=by omega
   subst ei
   exact .inl ⟨⟨xs,q1,Nat.le_refl _⟩,pd acc H p⟩
end L2
namespace Wd
open PySem L2 Tre Mth Dj
def FlG (kF:List (Key×V)):Prop:=∀x v,valV kF (.inr x)=some v→∃b,v=V.bl b
def VaG (H:Hp) (kV:List (Key×V)):Prop:=∀x v,valV kV (.inr x)=some v→∃p,TrAt H v (frT p)∧Gv p
def CaG (H:Hp) (kC:List Ent):Prop:=∀k v,valJ kC k=some v→∃p,TrAt H v (frT p)∧Gv p
structure WS (P:Program) (w:World) (K:PySem.W.Frag) (H:Hp) (F D C:Addr) (n:Nat):Prop where
 ne:F≠D
 fl:∃kF,H F=some (.dK kF)∧FlG kF∧kF.length≤n
 va:∃kV,H D=some (.dK kV)∧VaG H kV∧kV.length≤n
 ca:∃kC,DJ P w K H C kC∧CaG H kC∧kC.length≤n
theorem VaG.mono {H H':Hp} {kV:List (Key×V)} (k:Kd H H') (h:VaG H kV):VaG H' kV:=fun x v e=>by
 obtain ⟨p,h1,h2⟩:=h x v e
 exact ⟨p,h1.mono k,h2⟩
theorem CaG.mono {H H':Hp} {kC:List Ent} (k:Kd H H') (h:CaG H kC):CaG H' kC:=fun x v e=>by
 obtain ⟨p,h1,h2⟩:=h x v e
 exact ⟨p,h1.mono k,h2⟩
section
variable {P:Program} {w:World} {K:PySem.W.Frag} {H H':Hp} {F D C:Addr} {n:Nat}
theorem WS.kd (h:WS P w K H F D C n) (k:Kd H H') (hs:∀a o,a=F∨a=D∨a=C→H a=some o→H' a=some o):WS P w K H' F D C n:=by
 obtain ⟨kF,f1,f2,f3⟩:=h.fl
 obtain ⟨kV,v1,v2,v3⟩:=h.va
 obtain ⟨kC,c1,c2,c3⟩:=h.ca
 exact ⟨h.ne,⟨kF,hs _ _ (.inl rfl) f1,f2,f3⟩,⟨kV,hs _ _ (.inr (.inl rfl)) v1,v2.mono k,v3⟩,⟨kC,c1.kd k (hs _ _ (.inr (.inr rfl)) c1.at_),c2.mono k,c3⟩⟩
theorem WS.same (h:WS P w K H F D C n) (s:Same H H'):WS P w K H' F D C n:=h.kd (Kd.of_same s) fun a o _ e=>s a o e
theorem WS.mono {m:Nat} (h:WS P w K H F D C n) (hn:n≤m):WS P w K H F D C m:=by
 obtain ⟨kF,f1,f2,f3⟩:=h.fl
 obtain ⟨kV,v1,v2,v3⟩:=h.va
 obtain ⟨kC,c1,c2,c3⟩:=h.ca
 exact ⟨h.ne,⟨kF,f1,f2,by omega⟩,⟨kV,v1,v2,by omega⟩,⟨kC,c1,c2,by omega⟩⟩
end
def WAt (P:Program) (w:World) (K:PySem.W.Frag) (H:Hp) (v:V) (W:Wld):Prop:=∃r F D C kF kV kC,v= .ref r∧H r=some (.tup [.ref F, .ref D, .ref C])∧
 (H F=some (.dK kF)∧∀x,(valV kF (.inr x)).getD (.bl false)= .bl (W.fl x))∧
 (H D=some (.dK kV)∧∀x,(∃u,valV kV (.inr x)=some u∧TrAt H u (frT (W.va x)))∨(valV kV (.inr x)=none∧W.va x=zero))∧
 (DJ P w K H C kC∧∀k,(∃u,valJ kC k=some u∧TrAt H u (frT (W.ca k)))∨(valJ kC k=none∧W.ca k=zero))
section
variable {P:Program} {w:World} {K:PySem.W.Frag} {H H':Hp} {F D C r:Addr} {n:Nat} {v:V} {W:Wld}
theorem WS.at_ (h:WS P w K H F D C n) (e:H r=some (.tup [.ref F, .ref D, .ref C])):∃W:Wld,W.Ok∧WAt P w K H (.ref r) W:=by
 obtain ⟨kF,f1,f2,f3⟩:=h.fl
 obtain ⟨kV,v1,v2,v3⟩:=h.va
 obtain ⟨kC,c1,c2,c3⟩:=h.ca
 have hF:∀x:Str,∃b,(valV kF (.inr x)).getD (.bl false)= .bl b:=fun x=>by
  cases q:valV kF (.inr x) with
  |none=>exact ⟨false,rfl⟩
  |some v=>
   obtain ⟨b,rfl⟩:=f2 x v q
   exact ⟨b,rfl⟩
 have hV:∀x:Str,∃p,Gv p∧((∃u,valV kV (.inr x)=some u∧TrAt H u (frT p))∨(valV kV (.inr x)=none∧p=zero)):=fun x=>by
  cases q:valV kV (.inr x) with
  |none=>exact ⟨zero,oQ, .inr ⟨rfl,rfl⟩⟩
  |some v=>
   obtain ⟨p,h1,h2⟩:=v2 x v q
   exact ⟨p,h2, .inl ⟨v,rfl,h1⟩⟩
 have hC:∀k:List Tk.KT,∃p,Gv p∧((∃u,valJ kC k=some u∧TrAt H u (frT p))∨(valJ kC k=none∧p=zero)):=fun k=>by
  cases q:valJ kC k with
  |none=>exact ⟨zero,oQ, .inr ⟨rfl,rfl⟩⟩
  |some v=>
   obtain ⟨p,h1,h2⟩:=c2 k v q
   exact ⟨p,h2, .inl ⟨v,rfl,h1⟩⟩
 exact ⟨⟨fun x=>Classical.choose (hF x),fun x=>Classical.choose (hV x),fun k=>Classical.choose (hC k)⟩,⟨fun x=>(Classical.choose_spec (hV x)).1,fun k=>(Classical.choose_spec (hC k)).1⟩,
  r,F,D,C,kF,kV,kC,rfl,e,⟨f1,fun x=>Classical.choose_spec (hF x)⟩,⟨v1,fun x=>(Classical.choose_spec (hV x)).2⟩,⟨c1,fun k=>(Classical.choose_spec (hC k)).2⟩⟩
theorem WAt.kd (h:WAt P w K H v W) (k:Kd H H') (hs:∀a o,(∀xs,o≠ .lst xs)→H a=some o→H' a=some o):WAt P w K H' v W:=by
 obtain ⟨r,F,D,C,kF,kV,kC,e,h1,⟨h2,h3⟩,⟨h4,h5⟩,h6,h7⟩:=h
 refine ⟨r,F,D,C,kF,kV,kC,e,k.tup _ _ h1,⟨hs _ _ (fun _ z=>by cases z) h2,h3⟩,⟨hs _ _ (fun _ z=>by cases z) h4,fun x=> ?_⟩,h6.kd k (hs _ _ (fun _ z=>by cases z) h6.at_),fun j=> ?_⟩
 · rcases h5 x with ⟨u,e1,e2⟩|q
   · exact .inl ⟨u,e1,e2.mono k⟩
   · exact .inr q
 · rcases h7 j with ⟨u,e1,e2⟩|q
   · exact .inl ⟨u,e1,e2.mono k⟩
   · exact .inr q
theorem WAt.same (h:WAt P w K H v W) (s:Same H H'):WAt P w K H' v W:=h.kd (Kd.of_same s) fun a o _ e=>s a o e
end
def FrAt (K:PySem.W.Frag) (H:Hp) (v:V) (p:Fr):Prop:=∃r,v= .ref r∧SqX K H r [.int p.1, .int p.2]
def FrsAt (K:PySem.W.Frag) (H:Hp):List V→List Fr→Prop
 |vs,[]=>vs= []
 |vs,p::ps=>∃v r,vs=v::r∧FrAt K H v p∧FrsAt K H r ps
theorem FrAt.mono {K:PySem.W.Frag} {H H':Hp} {v:V} {p:Fr} (d:Kd H H') (h:FrAt K H v p):FrAt K H' v p:=by
 obtain ⟨r,e,s⟩:=h
 exact ⟨r,e,s.mono d⟩
theorem FrsAt.mono {K:PySem.W.Frag} {H H':Hp} (d:Kd H H'):∀ {vs:List V} {ps:List Fr},FrsAt K H vs ps→FrsAt K H' vs ps
 |vs,[],h=>h
 |vs,p::ps,h=>by
  obtain ⟨v,r,e,h1,h2⟩:=h
  exact ⟨v,r,e,h1.mono d,FrsAt.mono d h2⟩
theorem FrsAt.snoc {K:PySem.W.Frag} {H:Hp} {u:V} {q:Fr} (hu:FrAt K H u q):∀ {vs:List V} {ps:List Fr},FrsAt K H vs ps→FrsAt K H (vs++ [u]) (ps++ [q])
 |vs,[],h=>by
  cases (show vs= [] from h)
  exact ⟨u,[],rfl,hu,rfl⟩
 |vs,p::ps,h=>by
  obtain ⟨v,r,rfl,h1,h2⟩:=h
  exact ⟨v,r++ [u],rfl,h1,FrsAt.snoc hu h2⟩
end Wd
namespace L2
open PySem Tre Wd
theorem fE {t rest:TS} {Z:Ends} {σ:L2.St} {H:Hp} (R:L2.St→Hp→Prop) (hR:∀σ' H',R σ' H'→rest Z σ' H') (h:∀nx:L2.St→Hp→Prop,(∀σ' H',R σ' H'→nx σ' H')→t {Z with nx:=nx} σ H):tSeq t rest Z σ H:=h _ hR
theorem aI {i:Nat} {v:V} {σ:L2.St} {H:Hp} {k:L2.St→Hp→Prop} (h:k (σ.set i (some v)) H):cp i v σ H k:=h
theorem gj {Z:Ends} {σ:L2.St} {H:Hp} (h:Z.nx σ H):v8 Z σ H:=h
theorem jX {r:List V→Hp→VK→Prop} {te:TE} {Z:Ends} {σ:L2.St} {H:Hp} (h:te σ H fun v H1=>r [v] H1 Z.rt):tRet (tCB r (bf te tNil)) Z σ H:=h
theorem eF {r:List V→Hp→VK→Prop} {te:TE} {σ:L2.St} {H:Hp} {Q:List V→Hp→Prop} (h:te σ H fun v H1=>r [v] H1 fun u H2=>Q [u] H2):bf (tCB r (bf te tNil)) tNil σ H Q:=h
theorem tZ {te:TE} {Z:Ends} {σ:L2.St} {H:Hp} (h:te σ H Z.rt):tRet te Z σ H:=h
theorem mG {te:TE} {σ:L2.St} {H:Hp} {Q:List V→Hp→Prop} (h:te σ H fun v H1=>Q [v] H1):bf te tNil σ H Q:=h
theorem m4 {H:Hp} {v:V} {x:Str} {r:List Tr} (h:TrAt H v (.tup (.str x::r))):∃a vs,v= .ref a∧H a=some (.tup (.str x::vs))∧TrsAt H vs r:=by
 unfold TrAt at h
 obtain ⟨a,vs,e,h1,h2⟩:=h
 obtain ⟨y,r1,rfl,h3,h4⟩:=h2.inv
 unfold TrAt at h3
 subst h3
 exact ⟨a,r1,e,h1,h4⟩
theorem at3 {H:Hp} {v:V} {k:Str} {t u:Tr} (h:TrAt H v (.tup [.str k,t,u])):∃a y z,v= .ref a∧H a=some (.tup [.str k,y,z])∧TrAt H y t∧TrAt H z u:=by
 obtain ⟨a,vs,e,h1,h2⟩:=m4 h
 obtain ⟨y,r,rfl,h3,h4⟩:=h2.inv
 obtain ⟨z,r2,rfl,h5,h6⟩:=h4.inv
 unfold TrsAt at h6
 subst h6
 exact ⟨a,y,z,e,h1,h3,h5⟩
theorem at_t {H:Hp} {v:V} {ts:List Tr} (h:TrAt H v (.tup ts)):∃a vs,v= .ref a∧H a=some (.tup vs)∧TrsAt H vs ts:=by
 unfold TrAt at h
 exact h
theorem at_str {H:Hp} {x:Str}:TrAt H (.str x) (.str x):=by unfold TrAt;rfl
theorem at_tup {H:Hp} {r:Addr} {vs:List V} {ts:List Tr} (h:H r=some (.tup vs)) (h1:TrsAt H vs ts):TrAt H (.ref r) (.tup ts):=by
 unfold TrAt
 exact ⟨r,vs,rfl,h,h1⟩
theorem dz {H:Hp} {v:V} {a b:Tr} (h:TrAt H v (.tup [a,b])):∃r x y,v= .ref r∧H r=some (.tup [x,y])∧TrAt H x a∧TrAt H y b:=by
 unfold TrAt at h
 obtain ⟨r,vs,e,h1,h2⟩:=h
 obtain ⟨x,r1,rfl,h3,h4⟩:=h2.inv
 obtain ⟨y,r2,rfl,h5,h6⟩:=h4.inv
 unfold TrsAt at h6
 subst h6
 exact ⟨r,x,y,e,h1,h3,h5⟩
theorem uH {H:Hp} {v:V} {a b:Int} (h:TrAt H v (.tup [.int a, .int b])):∃r,v= .ref r∧H r=some (.tup [.int a, .int b]):=by
 obtain ⟨r,x,y,e,h1,h2,h3⟩:=dz h
 unfold TrAt at h2 h3
 subst h2 h3
 exact ⟨r,e,h1⟩
theorem cW {H:Hp} {r:Addr} {x y:V} {a b:Tr} (h:H r=some (.tup [x,y])) (h1:TrAt H x a) (h2:TrAt H y b):TrAt H (.ref r) (.tup [a,b]):=by
 unfold TrAt
 exact ⟨r,_,rfl,h, .cons h1 (.cons h2 .nil)⟩
theorem aY {H:Hp} {r:Addr} {a b:Int} (h:H r=some (.tup [.int a, .int b])):TrAt H (.ref r) (.tup [.int a, .int b]):=cW h (by unfold TrAt;rfl) (by unfold TrAt;rfl)
theorem cH {H:Hp} {v:V} {p:Fr} (h:TrAt H v (frT p)):∃r,v= .ref r∧H r=some (.tup [.int p.1, .int p.2]):=uH h
theorem cq {n:Nat}:∀ {ts:List Tr},(∀t∈ts,t.depth≤n)→Trs.depth ts≤n
 | [],_=>by unfold Trs.depth;omega
 |t::ts,h=>by
  unfold Trs.depth
  have h1:=h t List.mem_cons_self
  have h2:=cq fun u m=>h u (List.mem_cons_of_mem t m)
  omega
end L2
namespace K23P
open PySem L2 Mth EqD
open K23
section
variable {P:Program} {w:World} {K:PySem.W.Frag} {mg:Str→Option Value} {base:Heap}
theorem wS:ax ["thing"] ["thing"] (af sCtQ):=⟨rfl,rfl,rfl,by decide +kernel,rfl,by decide +kernel,by decide +kernel⟩
theorem wb {f fT:Addr} {fd dT:FuncData} {n:Nat} {tk:Tok} (F:Fun K "are_call_terms" "are_call_terms" sCtQ f fd) (B:Blt mg) (mC:mg "MOST_IN_CALL"=some (.int 3 tk))
 (gT:FnOk P w K mg base CX0 (2*n+1) fT dT ["thing"] (spTm n)) (kT:PySem.W.keepIn K (.ref fT)=true) (bT:Binds K dT ["thing"] []) (mT:mg "is_term"=some (.ref fT)):FnOk P w K mg base CX0 (2*n+2) f fd ["thing"] (spCt n):=by
 refine F.ok wS (fun vs H Q E h=> ?_) (fun cdv A outer s H vs Q E hr h=> ?_)
 · obtain ⟨v,p,rfl,_⟩:=h
   rfl
 obtain ⟨v,p,rfl,hv,hs,hd,k⟩:=h
 refine ⟨_,ae (aK (PW.pt (cv (br (aU (ar (r:=rIsi K) aS rfl B.isi ay (a8 (pv 0) (a8 (aX (v:= .ty "tuple") rfl B.tu PyProof.Rows.boot_tuple rfl) a9))))) (ck (br (qO vg vg aa (ar aF rfl B.le PySem.boot_len (a8 (pv 0) a9)) (cz (v:= .int 3) rfl mC ⟨_,rfl⟩)))))) (ag (aj cB)) az)
  (ag (aj (ar (cO rfl) rfl B.al PyProof.Rows.boot_all (a8 (bx (NC:= ["inner"]) (mp:= [none]) rfl (fj (pv 0)) (fun _ _ _ _ _=>aQ (i:=0) (show (["inner"]:List Str).Nodup by decide +kernel) rfl (Or.inl rfl)) (fun _ _ _ _ _=>bp) (fun _ _ _ _ _=>ad gT hr rfl mT kT bT .nil ai (a8 (pv 0) a9))) a9)))),?_⟩
 have hL:(20000:Nat)≤sizeLine:=by decide +kernel
 refine ⟨_,rfl,v, .ty "tuple",_,cD p,rfl,c7 hv, .inl ⟨rfl,cg K p⟩,_,rfl,?_⟩
 cases p with
 |tup ts=>
  have hv':=hv
  unfold PlAt at hv'
  obtain ⟨r,vs,rfl,g,hT⟩:=hv'
  have tl:=hT.len
  have hsm:ts.length≤1000∧Sms ts:=by
   unfold Sm at hs
   exact hs
  refine iteF ?_
  refine ⟨_,rfl,r,vs,rfl, .inr (SqT.of g),_,_,rfl,rfl,_,rfl,?_⟩
  by_cases z1:(1:Int)≤(vs.length:Int)
  · rw [decide_eq_true z1]
    refine iteT ?_
    refine ⟨_,_,rfl,rfl,_,rfl,?_⟩
    by_cases z2:(vs.length:Int)≤3
    · rw [decide_eq_true z2]
      refine iteF ?_
      refine gj ?_
      dsimp only
      refine jX ?_
      refine bn rfl ?_
      refine ⟨_,rfl,r,rfl,⟨vs,SqT.of g⟩,fun D nD=> ?_⟩
      refine dl (xs:=vs) (fun i acc H'=>Same H H'∧H' D=some (.lst acc)∧acc=((ts.take i).map (tmB n)).map V.bl) ⟨ah nD,ac,rfl⟩ (fun i acc H' p=>SqT.of (p.1 _ _ g)) ?_ ?_
      · rintro i x acc H1 hi ex ⟨s1,hD,rfl⟩
        obtain ⟨t,et,ht⟩:=hT.get' ex
        have mt:=List.mem_of_getElem? et
        refine ⟨_,rfl,x,t,rfl,ht.mono (Ke.of_same s1),qG hsm.2 mt,?_,fun H2 s2=> ?_⟩
        · have:=dG mt
          simp only [pdep] at hd
          omega
        · refine CompN.mk hi ?_ (s2 _ _ hD) ⟨cu nD (s1.trans s2),ac,?_⟩
          · rw [List.length_map,List.length_map,List.length_take]
            omega
          · rw [List.take_add_one,et]
            simp
      · rintro acc H1 ⟨s1,hD,rfl⟩
        rw [tl,List.take_length] at hD
        refine ⟨D,_,rfl,SqL.of hD,?_⟩
        have e:((ts.map (tmB n)).all id)=ctB n (.tup ts):=by
         rw [ctB,decide_eq_true (show (1:Int)≤(ts.length:Int) by omega),decide_eq_true (show (ts.length:Int)≤3 by omega),ka]
         simp
        rw [e]
        exact k H1 s1
    · rw [decide_eq_false z2]
      refine iteT ?_
      have e:ctB n (.tup ts)=false:=by
       rw [ctB,decide_eq_false (show¬(ts.length:Int)≤3 by omega)]
       simp
      have k':=k H (Same.refl H)
      rw [e] at k'
      exact k'
  · rw [decide_eq_false z1]
    refine iteF ⟨_,rfl,?_⟩
    refine iteT ?_
    have e:ctB n (.tup ts)=false:=by
     rw [ctB,decide_eq_false (show¬(1:Int)≤(ts.length:Int) by omega)]
     rfl
    have k':=k H (Same.refl H)
    rw [e] at k'
    exact k'
 |non=>exact iteT (k H (Same.refl H))
 |bl b=>exact iteT (k H (Same.refl H))
 |int i=>exact iteT (k H (Same.refl H))
 |str z=>exact iteT (k H (Same.refl H))
 |lst=>exact iteT (k H (Same.refl H))
 |dct=>exact iteT (k H (Same.refl H))
theorem vh {f fT fN fC:Addr} {fd dT dN dC:FuncData} {tk:Tok} (F:Fun K "is_term" "is_term" sTmQ f fd) (kF:PySem.W.keepIn K (.ref f)=true) (bF:Binds K fd ["thing"] []) (mF:mg "is_term"=some (.ref f)) (B:Blt mg) (mM:mg "MOST_IN_CALL"=some (.int 3 tk))
 (gT:FnOk P w K mg base CX0 1 fT dT ["thing","count"] spTo) (kT:PySem.W.keepIn K (.ref fT)=true) (bT:Binds K dT ["thing","count"] []) (mT:mg "is_tuple_of"=some (.ref fT))
 (gN:FnOk P w K mg base CX0 1 fN dN ["thing"] spNm) (kN:PySem.W.keepIn K (.ref fN)=true) (bN:Binds K dN ["thing"] []) (mN:mg "is_name"=some (.ref fN))
 (FC:Fun K "are_call_terms" "are_call_terms" sCtQ fC dC) (kC:PySem.W.keepIn K (.ref fC)=true) (bC:Binds K dC ["thing"] []) (mC:mg "are_call_terms"=some (.ref fC)):∀n,FnOk P w K mg base CX0 (2*n+1) f fd ["thing"] (spTm n)
 |0=>⟨fun vs H Q E ⟨_,_,_,_,_,h,_⟩=>absurd h (by omega),fun A outer s H args us vs Q E _ _ _ _ ⟨_,_,_,_,_,h,_⟩=>absurd h (by omega)⟩
 |n+1=>vY F gT kT bT mT gN kN bN mN (wb FC B mM (vh F kF bF mF B mM gT kT bT mT gN kN bN mN FC kC bC mC n) kF bF mF) kC bC mC
end
end K23P
namespace Tre
open PySem PySem.Spec PyProof.Rows L2
section
variable {X:Cx}
def rEqT:R2:=fun x y H Q=>∃ts us,TrAt H x (.tup ts)∧TrAt H y (.tup us)∧(Trs.pure ts∨Trs.pure us)∧Trs.depth ts≤40∧Q (.bl (eqTs ts us)) H
theorem sv {pins:List (Addr×Obj)} {σ:L2.St} {H:Hp} {s:Shared} {A:Around} {ts us:List Tr} {vs ws:List V} {as bs:List Value} (I:Inv X pins σ H s) (hu:A.units+42 < cLine) (h1:TrsAt H vs ts) (h2:TrsAt H ws us) (hp:Trs.pure ts∨Trs.pure us) (hd:Trs.depth ts≤40) (r1:Vals vs as) (r2:Vals ws bs)
 (j:Nat) (g1:j < as.toArray.size) (g2:j < bs.toArray.size):SeqAt.EqAt A s as.toArray[j] bs.toArray[j] (eqJ ts us j):=by
 have l1:=h1.len
 have l2:=h2.len
 have l3:=r1.length
 have l4:=r2.length
 have h1':j < as.length:=by simpa using g1
 have h2':j < bs.length:=by simpa using g2
 have t1:ts[j]?=some (ts[j]'(by omega)):=List.getElem?_eq_getElem _
 have t2:us[j]?=some (us[j]'(by omega)):=List.getElem?_eq_getElem _
 obtain ⟨v,e1,a1⟩:=h1.get t1
 obtain ⟨w,e2,a2⟩:=h2.get t2
 obtain ⟨u1,e3,q1⟩:=r1.get e1
 obtain ⟨u2,e4,q2⟩:=r2.get e2
 have z1:as.toArray[j]=u1:=by rw [List.getElem_toArray];rw [List.getElem?_eq_getElem h1'] at e3;exact Option.some.inj e3
 have z2:bs.toArray[j]=u2:=by rw [List.getElem_toArray];rw [List.getElem?_eq_getElem h2'] at e4;exact Option.some.inj e4
 rw [z1,z2,sW t1 t2]
 refine jY I 40 ?_ ?_ a1 a2 q1 q2 (by omega)
 · have:=cn (List.mem_of_getElem? t1)
   omega
 · rcases hp with hp|hp
   · exact .inl (eH hp (List.mem_of_getElem? t1))
   · exact .inr (eH hp (List.mem_of_getElem? t2))
theorem rE (hu:X.A.units+50 < cLine):OpR X (compareOp .Eq) rEqT:=by
 intro pins s σ H x y v u Q I rx ry h
 obtain ⟨ts,us,h1,h2,hp,hd,q⟩:=h
 unfold TrAt at h1 h2
 obtain ⟨a,vs,rfl,g1,k1⟩:=h1
 obtain ⟨b,ws,rfl,g2,k2⟩:=h2
 cases rx
 cases ry
 obtain ⟨as,r1,p1,_⟩:=I.tuple (SqT.of g1)
 obtain ⟨bs,r2,p2,_⟩:=I.tuple (SqT.of g2)
 refine PySem.SeqAt.eq_tupleAt (e:=eqJ ts us) (show s.heap.IsTuple a as.toArray from p1) (show s.heap.IsTuple b bs.toArray from p2) (by omega) (fun j g1 g2=>sv I (by first|omega|(show X.A.units+1+42 < cLine;omega)) k1 k2 hp hd r1 r2 j g1 g2) ?_
 refine ⟨.bl (eqTs ts us),H,I,?_,q⟩
 rw [List.size_toArray,List.size_toArray,←r1.length,←r2.length,k1.len,k2.len,←j7]
 rfl
end
end Tre
namespace K23P
open PySem L2 Mth EqD Tre
open K23
noncomputable def frB:Pl→Bool
 | .tup [.int a, .int b]=>decide (1≤b)&&decide (Int.gcd a b=1)
 |_=>false
theorem whB_int {p:Pl}:whB p=true↔∃i,p= .int i:=by
 cases p with
 |int i=>exact ⟨fun _=>⟨i,rfl⟩,fun _=>rfl⟩
 |bl b=>exact ⟨fun h=>(by cases h),fun ⟨i,e⟩=>(by cases e)⟩
 |non=>exact ⟨fun h=>(by cases h),fun ⟨i,e⟩=>(by cases e)⟩
 |str z=>exact ⟨fun h=>(by cases h),fun ⟨i,e⟩=>(by cases e)⟩
 |tup ts=>exact ⟨fun h=>(by cases h),fun ⟨i,e⟩=>(by cases e)⟩
 |lst=>exact ⟨fun h=>(by cases h),fun ⟨i,e⟩=>(by cases e)⟩
 |dct=>exact ⟨fun h=>(by cases h),fun ⟨i,e⟩=>(by cases e)⟩
theorem rY {a b:Int} (hb:1≤b):(a / (Int.gcd a b:Int)=a∧b / (Int.gcd a b:Int)=b)↔Int.gcd a b=1:=by
 have g0:0 < Int.gcd a b:=Int.gcd_pos_of_ne_zero_right a (by omega)
 constructor
 · rintro ⟨_,h⟩
   have hm:b / (Int.gcd a b:Int)*(Int.gcd a b:Int)=b:=Int.ediv_mul_cancel (Int.gcd_dvd_right ..)
   rw [h] at hm
   have h1:b*((Int.gcd a b:Int) - 1)=0:=by rw [Int.mul_sub,hm,Int.mul_one,Int.sub_self]
   rcases Int.mul_eq_zero.mp h1 with z|z
   · omega
   · omega
 · intro h
   rw [h]
   exact ⟨Int.ediv_one a,Int.ediv_one b⟩
section
variable {P:Program} {w:World} {K:PySem.W.Frag} {mg:Str→Option Value} {base:Heap}
def spFq:Sp:=fun vs H Q _=>∃(v:V) (p:Pl),vs= [v]∧PlAt H v p∧(∀a b,p= .tup [.int a, .int b]→Big a∧Big b)∧∀H',Same H H'→Q (.bl (frB p)) H'
theorem scFq:ax ["thing"] ["thing"] (af sFrQ):=⟨rfl,rfl,rfl,by decide +kernel,rfl,by decide +kernel,by decide +kernel⟩
theorem xC {f fT fW fF C:Addr} {fd dT dW dF:FuncData} (F:Fun K "is_fraction" "is_fraction" sFrQ f fd)
 (gT:FnOk P w K mg base CX0 1 fT dT ["thing","count"] spTo) (kT:PySem.W.keepIn K (.ref fT)=true) (bT:Binds K dT ["thing","count"] []) (mT:mg "is_tuple_of"=some (.ref fT))
 (gW:FnOk P w K mg base CX0 1 fW dW ["thing"] spIw) (kW:PySem.W.keepIn K (.ref fW)=true) (bW:Binds K dW ["thing"] []) (mW:mg "is_whole"=some (.ref fW))
 (gF:FnOk P w K mg base (CX1 P w) 3 fF dF ["top","bottom"] (spFr C)) (kF:PySem.W.keepIn K (.ref fF)=true) (bF:Binds K dF ["top","bottom"] []) (mF:mg "fraction"=some (.ref fF)):FnOk P w K mg base CX0 4 f fd ["thing"] spFq:=by
 refine F.ok scFq (fun vs H Q E h=> ?_) (fun cdv A outer s H vs Q E hr h=> ?_)
 · obtain ⟨v,p,rfl,_⟩:=h
   rfl
 obtain ⟨v,p,rfl,hv,hbig,k⟩:=h
 have hr1:Room 1 _:=hr.mono (by decide)
 have hu50:=Nat.lt_of_le_of_lt (Nat.add_le_add_left (show 50≤64 by decide) _) hr.units
 refine ⟨_,ae (aK (PW.pt (cv (br (aU (ad gT hr1 rfl mT kT bT .nil ai (a8 (pv 0) (a8 aa a9))))) (cv (br (aU (ad gW hr1 rfl mW kW bW .nil ai (a8 (am ak (pv 0) aa fun _ _=>rfl) a9)))) (ck (br (aU (ad gW hr1 rfl mW kW bW .nil ai (a8 (am ak (pv 0) aa fun _ _=>rfl) a9)))))))) (ag (aj cB)) az)
  (ag (aj (aM (aR rD (am ak (pv 0) aa fun _ _=>rfl) aa (aq _)) (aW (aR (rE hu50) (ad gF (hr.mono (by decide)) rfl mF kF bF .nil jF (a8 (am ak (pv 0) aa fun _ _=>rfl) (a8 (am ak (pv 0) aa fun _ _=>rfl) a9))) (pv 0) (aq _)))))),?_⟩
 have no:frB p=false→Q (.bl false) H:=fun e=>by
  have k':=k H (Same.refl H)
  rw [e] at k'
  exact k'
 refine ⟨_,rfl,v,p,2,rfl,hv,_,rfl,?_⟩
 cases e2:toB 2 p with
 |false=>
  refine iteT (iteT (no ?_))
  unfold frB
  split
  · exact absurd e2 (by simp [toB])
  · rfl
 |true=>
  obtain ⟨a,b,rfl⟩:∃a b,p= .tup [a,b]:=by
   rcases iQ p with h|⟨a,b,c,rfl⟩|⟨h,_⟩
   · exact h
   · simp [toB] at e2
   · rw [h] at e2
     cases e2
  obtain ⟨r,x,y,rfl,g,hx,hy⟩:=pl2 hv
  refine iteF ?_
  refine ⟨_,rfl,r,_,0,x,rfl,rfl,SqT.of g,rfl,x,a,rfl,hx,_,rfl,?_⟩
  cases ea:whB a with
  |false=>
   refine iteT (iteT (no ?_))
   unfold frB
   split
   · rename_i i j e
     simp only [Pl.tup.injEq,List.cons.injEq,and_true] at e
     rw [e.1] at ea
     cases ea
   · rfl
  |true=>
   obtain ⟨i,rfl⟩:=whB_int.mp ea
   refine iteF ?_
   refine ⟨_,rfl,r,_,1,y,rfl,rfl,SqT.of g,rfl,y,b,rfl,hy,_,rfl,?_⟩
   cases eb:whB b with
   |false=>
    refine iteT (no ?_)
    unfold frB
    split
    · rename_i i' j e
      simp only [Pl.tup.injEq,List.cons.injEq,and_true] at e
      rw [e.2] at eb
      cases eb
    · rfl
   |true=>
    obtain ⟨j,rfl⟩:=whB_int.mp eb
    refine iteF ?_
    have hx':x= .int i:=by unfold PlAt at hx;exact hx
    have hy':y= .int j:=by unfold PlAt at hy;exact hy
    subst hx' hy'
    have kk:∀H',Same H H'→Q (.bl (decide (1≤j)&&decide (Int.gcd i j=1))) H':=k
    refine ⟨_,rfl,r,_,1, .int j,rfl,rfl,SqT.of g,rfl,_,_,rfl,rfl,_,rfl,?_⟩
    by_cases z:(1:Int)≤j
    · rw [decide_eq_true z] at kk
      rw [decide_eq_true z]
      obtain ⟨b1,b2⟩:=hbig i j rfl
      refine iteT ⟨_,rfl,r,_,0, .int i,rfl,rfl,SqT.of g,rfl,_,rfl,r,_,1, .int j,rfl,rfl,SqT.of g,rfl,i,j,rfl,b1,b2,fun q=>by omega,fun _ q nq=> ?_⟩
      have sq:=ah (o:= .tup [.int (fx i j), .int (fy i j)]) nq
      refine ⟨_,rfl,[.int (fx i j), .int (fy i j)],[.int i, .int j],aY ac,aY (sq _ _ g), .inl (by simp [Trs.pure,Tr.pure]),(by simp [Trs.depth,Tr.depth]),?_⟩
      have e:eqTs [.int (fx i j), .int (fy i j)] [.int i, .int j]=decide (Int.gcd i j=1):=by
       have h1:fx i j=i / (Int.gcd i j:Int):=by
        unfold fx dv
        rw [if_neg (by omega),Int.fdiv_eq_ediv_of_nonneg _ (by omega)]
       have h2:fy i j=j / (Int.gcd i j:Int):=by
        unfold fy dv
        rw [if_neg (by omega),Int.fdiv_eq_ediv_of_nonneg _ (by omega)]
       rw [h1,h2,Bool.eq_iff_iff,decide_eq_true_iff,←rY z]
       simp [eqTs,eqT]
      rw [e]
      exact kk _ sq
    · rw [decide_eq_false z] at kk
      rw [decide_eq_false z]
      exact iteF (kk H (Same.refl H))
end
end K23P
namespace SlW
open PySem PySem.Spec PyProof.Rows SeqAt L2 Tre
section
variable {prog:Program} {w:World} {A:Around} {E:Value→Shared→Prop} {s:Shared}
theorem cL {H:Hp} {p:Addr} {o:HO} (h:H p=none):Same H (upd H p o):=fun b u e=>by
 rw [aB (aN e h)]
 exact e
theorem pU {t sl:Addr} {xs:Array Value} {vl vu:Value} {lo hi:Option Int} {Q:Value→Shared→Prop} (ht:IsTup s.heap t xs) (hs:s.heap.IsSliceOf sl vl vu .none) (pl:IsPart vl lo) (pu:IsPart vu hi)
 (h1:HT.sIx xs.size 0 lo=0) (h2:HT.sIx xs.size xs.size hi=xs.size) (h:Q (.ref t) s):wpAny (model prog w) A (getItem (.ref t) (.ref sl)) Q E s:=by
 obtain ⟨os,hos,hcs,hds⟩:=id hs
 have hT:s.TypeIs (.ref sl) "slice":=⟨os,hos,hcs⟩
 unfold getItem
 try with_reducible refine wpAny_holding ?_
 first|refine wpAny_bind (wpAny_pure ?_)|skip
 refine wpAny_bind (wpAny_sequenceKey ht.typeIs (by decide) ?_)
 refine wpAny_bind (wpAny_callSpecial?_slot (name:=Str.ofString "__getitem__") ht.typeIs slot_tuple_getitem (wpAny_call_entry slot_tuple_getitem ht.typeIs entry_tuple_getitem ?_ (args_tuple_getitem _ _)))
 show wpAny _ _ (Builtin.Tuple.tupleItemsOf (.ref t) >>=_) _ _ s
 refine wpAny_bind (tupleItemsOf_ ht ?_)
 refine wpAny_bind (wpAny_typeOf hT ?_)
 rw [if_pos (by decide)]
 refine wpAny_bind (HT.sliceApplied_gen hs pl pu ?_)
 have q:(((HT.sIx xs.size 0 lo:Nat):Int)==0&& (1:Int)==1&& (HT.sIx xs.size xs.size hi - HT.sIx xs.size 0 lo)==xs.size)=true:=by
  rw [h1,h2]
  simp
 show wpAny _ _ (if (((HT.sIx xs.size 0 lo:Nat):Int)==0&& (1:Int)==1&& (HT.sIx xs.size xs.size hi - HT.sIx xs.size 0 lo)==xs.size)=true then _ else _) _ _ s
 rw [if_pos q]
 refine wpAny_bind (m:=Builtin.Tuple.tupleIsExact (.ref t)) (wpAny_bind (wpAny_typeOf ht.typeIs (wpAny_pure ?_)))
 rw [if_pos (by decide)]
 first
  |exact wpAny_pure ⟨_,rfl,wpAny_pure h⟩
  |exact wpAny_bind (wpAny_pure ⟨_,rfl,wpAny_pure h⟩)
  |exact wpAny_bind (wpAny_rule (wpAny_pure ⟨_,rfl,wpAny_pure h⟩))
  |(trace_state;exact wpAny_pure (wpAny_pure ⟨_,rfl,wpAny_pure h⟩))
end
section
variable {X:Cx}
def rSlA:V→Option Int→Option Int→Hp→VK→Prop:=fun x lo hi H Q=>∃a xs,x= .ref a∧H a=some (.tup xs)∧∀r H',Same H H'→H' r=some (.tup (cutV xs lo hi))→Q (.ref r) H'
theorem sl_A:SlR X rSlA:=by
 intro pins s σ H x v vl vu lo hi sl Q I rx hs pl pu h
 obtain ⟨a,xs,rfl,hx,q⟩:=h
 by_cases z:HT.sIx xs.length 0 lo=0∧HT.sIx xs.length xs.length hi=xs.length
 · cases rx
   obtain ⟨its,r,ht,hz⟩:=I.tuple (SqT.of hx)
   have hlen:its.toArray.size=xs.length:=by rw [List.size_toArray];exact r.length.symm
   refine ⟨"tuple",_,slot_tuple_getitem.lookup,ht.typeIs,?_⟩
   refine pU ht hs pl pu (by rw [hlen];exact z.1) (by rw [hlen];exact z.2) ⟨.ref a,H,I,rfl,q a H (Same.refl H) ?_⟩
   have e:cutV xs lo hi=xs:=by
    unfold cutV
    rw [z.1,z.2]
    simp
   rw [e]
   exact hx
 · exact vM pins s σ H _ v vl vu lo hi sl Q I rx hs pl pu ⟨a,xs,rfl,SqT.of hx,z,fun p np=>q p _ (cL np) ac⟩
end
end SlW
namespace Zp
open PySem
section
variable {prog:Program} {w:World} {A:Around} {E:Value→Shared→Prop} {s:Shared} {k:Src} {z TI TO i1 i2 l1 l2:Addr} {j:Nat} {xs ys:Array Value} {x y a b:Value}
theorem tQ {Q:Fin→Shared→Prop} (hh:A.handled=none) (D:ZipApart z TI TO i1 i2 l1 l2) (hz:IsZip s.heap z TI TO .none) (hI:IsPair s.heap TI (.ref i1) (.ref i2)) (hO:IsPair s.heap TO a b)
 (t1:k.It s.heap i1 l1 j) (t2:k.It s.heap i2 l2 j) (q1:k.Sq s.heap l1 xs) (q2:k.Sq s.heap l2 ys) (ex:xs[j]?=some x) (ends:ys[j]?=none)
 (q:∀h' e,(∀c o,c≠z→c≠TO→c≠i1→c≠i2→s.heap.get? c=some o→h'.get? c=some o)→(∃o,h'.get? e=some o∧o.cls= .type "StopIteration")→E (.ref e) {s with heap:=h'}):
 wpAny (model prog w) A (Builtin.«zip.__next__» ⟨[.ref z],[]⟩) Q E s:=by
 show wpAny _ _ (do let u←field (.ref z) 2;_) _ _ _
 refine wpAny_bind (wpAny_field hz rfl (x:= .bool false) rfl ?_)
 show wpAny _ _ (do let u←field (.ref z) 3;_) _ _ _
 refine wpAny_bind (wpAny_field hz rfl (x:= .ref TI) rfl (wpAny_bind (wpAny_seqItems hI rfl ?_)))
 show wpAny _ _ (do let u←Builtin.SmallTypes.ownedTupleIsFree (.ref z);_) _ _ _
 refine wpAny_bind ?_
 rw [Builtin.SmallTypes.ownedTupleIsFree]
 refine wpAny_bind (wpAny_field hz rfl (x:= .none) rfl (wpAny_pure ?_))
 simp only [if_true]
 refine wpAny_bind (wpAny_rule (wpAny_bind (wpAny_field hz rfl (x:= .ref TO) rfl (wpAny_bind (wpAny_setField_rec hz (by simp) fun g1 y1 s1=> ?_)))))
 have y1:IsZip g1 z TI TO .ellipsis:=y1
 refine wpAny_bind ?_
 simp only [List.forIn_cons,List.forIn_nil,List.zipIdx_nil,List.zipIdx_cons]
 refine wpAny_bind (wpAny_bind (wpAny_onRaise ?_))
 show wpAny _ _ (do let u←Builtin.SmallTypes.nextOf (.ref i1);_) _ _ _
 refine wpAny_bind (kr (s:= {s with heap:=g1}) (dj t1 fun o e=>s1.extBut _ o D.i1z e) (lu q1 fun o e=>s1.extBut _ o D.l1z e) ex fun g2 u1 s2=>wpAny_pure ?_)
 have o2:IsPair g2 TO a b:=s2.extBut _ _ D.TOi1 (s1.extBut _ _ D.TOz hO)
 refine wpAny_bind (wpAny_seqItems o2 rfl (wpAny_bind (wpAny_updateSeq_pair (s:= {s with heap:=g2}) o2 fun g3 o3 s3=> ?_)))
 have o3:IsPair g3 TO x b:=o3
 refine wpAny_bind (wpAny_letGo (wpAny_pure (wpAny_bind (wpAny_bind (wpAny_onRaise ?_)))))
 show wpAny _ _ (do let u←Builtin.SmallTypes.nextOf (.ref i2);_) _ _ _
 refine wpAny_bind (rS (s:= {s with heap:=g3}) hh (dj t2 fun o e=>s3.extBut _ o D.TOi2.symm (s2.extBut _ o D.i12.symm (s1.extBut _ o D.i2z e))) (lu q2 fun o e=>s3.extBut _ o D.l2TO (s2.extBut _ o D.l2i1 (s1.extBut _ o D.l2z e))) ends fun g4 e s4 he=> ?_)
 obtain ⟨oe,e1,e2⟩:=he
 have y4:IsZip g4 z TI TO .ellipsis:=s4 _ _ D.i2z.symm (s3.extBut _ _ D.TOz.symm (s2.extBut _ _ D.i1z.symm y1))
 have ne:e≠z:=fun n=>by subst n;rw [y4] at e1;cases e1;simp at e2
 exact wpAny_setField_rec y4 (by simp) fun g5 _ s5=>q g5 e (fun c o c1 c2 c3 c4 n=>s5.extBut _ _ c1 (s4 _ _ c4 (s3.extBut _ _ c2 (s2.extBut _ _ c3 (s1.extBut _ _ c1 n))))) ⟨oe,s5.extBut _ _ ne e1,e2⟩
theorem tS {Q:Option Value→Shared→Prop} (hh:A.handled=none) (D:ZipApart z TI TO i1 i2 l1 l2) (hz:IsZip s.heap z TI TO .none) (hI:IsPair s.heap TI (.ref i1) (.ref i2)) (hO:IsPair s.heap TO a b)
 (t1:k.It s.heap i1 l1 j) (t2:k.It s.heap i2 l2 j) (q1:k.Sq s.heap l1 xs) (q2:k.Sq s.heap l2 ys) (ex:xs[j]?=some x) (ends:ys[j]?=none)
 (q:∀h',(∀c o,c≠z→c≠TO→c≠i1→c≠i2→s.heap.get? c=some o→h'.get? c=some o)→Q none {s with heap:=h'}):wpAny (model prog w) A (pyNext (.ref z)) Q E s:=by
 have ty:s.TypeIs (.ref z) "zip":=⟨_,hz,rfl⟩
 rw [pyNext]
 refine wpAny_bind (wpAny_attempt (wpAny_callSpecial?_slot (name:=Str.ofString "__next__") ty F.slot_zip_next (wpAny_call_entry F.slot_zip_next ty F.entry_zip_next (tQ hh D hz hI hO t1 t2 q1 q2 ex ends fun h' e up he=> ?_) (F.args_zip_next_1 _))))
 obtain ⟨o,e1,e2⟩:=he
 exact wpAny_bind (wpAny_isInstance (T:="StopIteration") (b:=true) ⟨o,e1,e2⟩ isSubtype_stop (wpAny_pure (q _ up)))
end
end Zp
namespace L2
open PySem PySem.Spec PyProof.Rows Zp
def Itz2 (k:Src) (K:PySem.W.Frag) (a b:Addr):It:=⟨(Itz k K a b).go,(Itz k K a b).yld,fun i H=>(Itz k K a b).stop i H∨∃xs ys,Sqk k K H a xs∧Sqk k K H b ys∧i < xs.length∧ys.length≤i⟩
theorem pb {P:Program} {w:World} {K:PySem.W.Frag} {es:List Expr} {kk:Nat} {pos:Pos} {k:Src} (a b z TI TO i1 i2:Addr) (hd: [z,TI,TO,i1,i2].Nodup):
 Turn P w K (.Tuple es kk pos) (Itz2 k K a b) [z,TI,TO,i1,i2] z (fun i h=>IsZip h z TI TO .none∧IsPair h TI (.ref i1) (.ref i2)∧(∃u v,IsPair h TO u v)∧k.It h i1 a i∧k.It h i2 b i∧a∉ [z,TI,TO,i1,i2]∧b∉ [z,TI,TO,i1,i2]) where
 mem:=(cZ (P:=P) (w:=w) (es:=es) (kk:=kk) (pos:=pos) (k:=k) (K:=K) a b z TI TO i1 i2 hd).mem
 obj:=(cZ (P:=P) (w:=w) (es:=es) (kk:=kk) (pos:=pos) (k:=k) (K:=K) a b z TI TO i1 i2 hd).obj
 keep:=(cZ (P:=P) (w:=w) (es:=es) (kk:=kk) (pos:=pos) (k:=k) (K:=K) a b z TI TO i1 i2 hd).keep
 item:=(cZ (P:=P) (w:=w) (es:=es) (kk:=kk) (pos:=pos) (k:=k) (K:=K) a b z TI TO i1 i2 hd).item
 self:=(cZ (P:=P) (w:=w) (es:=es) (kk:=kk) (pos:=pos) (k:=k) (K:=K) a b z TI TO i1 i2 hd).self
 done:=by
  intro X hP hw hK hc i pins s σ H E I hf st hg
  rcases hg with hg|hg
  · exact (cZ (P:=P) (w:=w) (es:=es) (kk:=kk) (pos:=pos) (k:=k) (K:=K) a b z TI TO i1 i2 hd).done X hP hw hK hc i pins s σ H E I hf st hg
  · obtain ⟨h1,h2,⟨u0,v0,h3⟩,h4,h5,h6,h7⟩:=st
    subst hP hw hK
    obtain ⟨xs,ys,g1,g2,g3,g4⟩:=hg
    obtain ⟨as,r1,p1,z1⟩:=I.sqk g1
    obtain ⟨bs,r2,p2,z2⟩:=I.sqk g2
    have hl:=r1.length
    have hl2:=r2.length
    simp only [List.nodup_cons,List.mem_cons,List.not_mem_nil,or_false,not_or,List.nodup_nil,and_true,not_false_eq_true] at hd h6 h7
    obtain ⟨⟨d1,d2,d3,d4⟩,⟨d5,d6,d7⟩,⟨d8,d9⟩,d10⟩:=hd
    have D:ZipApart z TI TO i1 i2 a b:=⟨Ne.symm d1,Ne.symm d2,Ne.symm d3,Ne.symm d4,d5,d6,d7,d8,d9,d10,h6.1,h6.2.2.1,h6.2.2.2.1,h6.2.2.2.2,h7.1,h7.2.2.1,h7.2.2.2.1,h7.2.2.2.2⟩
    have hi:i < as.length:=by omega
    refine tS (I.ok.hd hc) D h1 h2 h3 h4 h5 p1 p2 (x:=as[i]) (by simp [hi]) (by simp;omega) fun h' up=>⟨rfl,I.turneds (t':=s.toks) (fun c o n e=> ?_) hf⟩
    simp only [List.mem_cons,List.not_mem_nil,or_false,not_or] at n
    exact up c o n.1 n.2.2.1 n.2.2.2.1 n.2.2.2.2 e
section
variable {X:Cx}
def vj (k:Src) (K:PySem.W.Frag) (ta:TA):TI:=fun σ H R=>ta σ H fun vs H1=>∃a b xs ys,vs= [.ref a, .ref b]∧Sqk k K H1 a xs∧Sqk k K H1 b ys∧R (Itz2 k K a b) H1
theorem ue {k:Src} {es:List Expr} {kk:Nat} {pt:Pos} {x y:Expr} {ta:TA} {p pos:Pos} (hg:Gl X "zip") (hm:X.mg "zip"=none) (ha:PA X [x,y] ta) (hs:starEach [x,y] X.env= [(false,eval x X.env),(false,eval y X.env)]:=by rfl) (hs2:starEach [y] X.env= [(false,eval y X.env)]:=by rfl):
 PI X (.Tuple es kk pt) (.Call (.Name "zip" p) [x,y] [] pos) (vj k X.K ta):=by
 intro pins s σ H R I h
 refine Call_ (i9 I hg hm PyProof.Rows.boot_zip (PyProof.Rows.callWith_type1 (thn (ha pos pins s σ H _ I h) fun us s1 ⟨vs,H1,I1,r1,q1⟩=> ?_) (by rw [hs,hs2]) (by rw [hs2];rfl)))
 obtain ⟨a,b,xs,ys,e,k1,k2,q⟩:=q1
 subst e
 cases r1 with
 |cons r rr=>
  cases rr with
  |cons r' rr=>
   cases rr
   cases r
   cases r'
   obtain ⟨as,_,p1,_⟩:=I1.sqk k1
   obtain ⟨bs,_,p2,_⟩:=I1.sqk k2
   refine tE p1 p2 fun h' hz hI hO t1 t2 sz up=> ?_
   refine wpAny_pyIter_zip (s:= {s1 with heap:=h'}) hz ?_
   have lta:a < s1.heap.objs.size:=by
    cases k
    · obtain ⟨o,e,_⟩:=p1
      exact Heap.lt_size e
    · obtain ⟨o,e,_⟩:=p1
      exact Heap.lt_size e
   have ltb:b < s1.heap.objs.size:=by
    cases k
    · obtain ⟨o,e,_⟩:=p2
      exact Heap.lt_size e
    · obtain ⟨o,e,_⟩:=p2
      exact Heap.lt_size e
   have na:∀j,a≠s1.heap.objs.size+j:=fun j=>Nat.ne_of_lt (Nat.lt_of_lt_of_le lta (Nat.le_add_right ..))
   have nb:∀j,b≠s1.heap.objs.size+j:=fun j=>Nat.ne_of_lt (Nat.lt_of_lt_of_le ltb (Nat.le_add_right ..))
   have le:∀c∈ [s1.heap.objs.size+4,s1.heap.objs.size+2,s1.heap.objs.size+3,s1.heap.objs.size+0,s1.heap.objs.size+1],s1.heap.objs.size≤c:=fun c hc=>by
    simp only [List.mem_cons,List.not_mem_nil,or_false] at hc
    rcases hc with rfl|rfl|rfl|rfl|rfl<;>exact Nat.le_add_right ..
   refine ⟨s1.heap.objs.size+4,[s1.heap.objs.size+4,s1.heap.objs.size+2,s1.heap.objs.size+3,s1.heap.objs.size+0,s1.heap.objs.size+1],_,_,H1,rfl,I1.kept (t':=s1.toks) up,pb a b _ _ _ _ _ (by simp),⟨hz,hI,⟨_,_,hO⟩,t1,t2,?_,?_⟩,fun c hc=>I1.fpOk (le c hc) (I1.hok.fresh (le c hc)),q⟩
   · simp only [List.mem_cons,List.not_mem_nil,or_false,not_or]
     exact ⟨na 4,na 2,na 3,na 0,na 1⟩
   · simp only [List.mem_cons,List.not_mem_nil,or_false,not_or]
     exact ⟨nb 4,nb 2,nb 3,nb 0,nb 1⟩
end
def vv (J:It) (mp:List (Option Nat)) (g:TG) (te:TE) (σ:L2.St) (Q:VK) (H1:Hp):Prop:=∀D,H1 D=none→
 ∃W:Nat→Nat→List V→Hp→Prop,(∃m,W 0 m [] (upd H1 D (.lst [])))∧∀i m acc H2,W i m acc H2→
  (J.stop i H2∧Q (.ref D) H2)∨
  (J.go i H2∧∀x H3,J.yld i H2 x H3→g x (subS mp σ) H3 fun σ4 H4=>Ext (subS mp σ) σ4∧dn σ4 H4 fun b H5=>if b=true then te σ4 H5 fun v H6=>H6 D=some (.lst acc)∧acc.length < sizeLine∧∃m',m' < m∧W (i+1) m' (acc++ [v]) (upd H6 D (.lst (acc++ [v]))) else∃m',m' < m∧W (i+1) m' acc H5)
theorem pj {k:Src} {K:PySem.W.Frag} {mp:List (Option Nat)} {ta:TA} {g:TG} {te:TE} {σ:L2.St} {H:Hp} {Q:VK} (h:ta σ H fun vs H1=>∃a b xs ys,vs= [.ref a, .ref b]∧Sqk k K H1 a xs∧Sqk k K H1 b ys∧vv (Itz2 k K a b) mp g te σ Q H1):fc mp (vj k K ta) g dn te σ H Q:=h
theorem tq {k:Src} {K K':PySem.W.Frag} {a b:Addr} {mp:List (Option Nat)} {te:TE} {Q:VK} {σ rest:L2.St} {H1:Hp} {xs ys:List V} (e:subS mp σ=none::none::rest) (hl:ys.length≤xs.length)
 (h:∀D,H1 D=none→∃Pv:Nat→List V→Hp→Prop,Pv 0 [] (upd H1 D (.lst []))∧(∀i acc H,Pv i acc H→Sqk k K H a xs∧Sqk k K H b ys)∧
  (∀i T x y acc H,i < ys.length→i < sizeLine→Pv i acc H→xs[i]?=some x→ys[i]?=some y→H T=none→te (some x::some y::rest) (upd H T (.tup [x,y])) (CompN ys.length i D acc Pv))∧∀acc H,Pv ys.length acc H→Q (.ref D) H):
 vv (Itz2 k K a b) mp (gTup K' 2 (fY (cp 0) (fY (cp 1) gNil))) te σ Q H1:=by
 intro D nD
 rw [e]
 obtain ⟨Pv,p0,pq,ps,pd⟩:=h D nD
 refine ⟨fun i m acc H=>m=ys.length - i∧i≤ys.length∧Pv i acc H,⟨ys.length,by simp,Nat.zero_le _,p0⟩,?_⟩
 rintro i m acc H ⟨rfl,hi,p⟩
 obtain ⟨q1,q2⟩:=pq i acc H p
 by_cases hlt:i < ys.length
 · refine .inr ⟨⟨xs,ys,xs[i],ys[i],q1,q2,by simp,by simp [hlt]⟩,?_⟩
   rintro v H' ⟨T,x,y,rfl,nT,rfl,y1,y2,z⟩
   refine ⟨T,[x,y],rfl,SqT.of ac,rfl,x,[y],rfl,y,[],rfl,rfl,ext2,?_⟩
   exact ps i T x y acc H hlt z p (y1 xs q1) (y2 ys q2) nT
 · have ei:i=ys.length:=by omega
   subst ei
   refine .inl ⟨?_,pd acc H p⟩
   by_cases hx:xs.length≤ys.length
   · exact .inl ⟨xs,ys,q1,q2,hx⟩
   · exact .inr ⟨xs,ys,q1,q2,by omega,Nat.le_refl _⟩
end L2
namespace Su
open PySem L2 Tre Mth Wd
def rv (p:Fr):Rat:=(p.1:Rat) / (p.2:Rat)
abbrev Sh (p:Fr):Prop:=e9 p.1 p.2
theorem ne0 {b:Int} (h:0 < b):(b:Rat)≠0:=by
 simp only [ne_eq,Rat.intCast_eq_zero_iff]
 omega
theorem wU {p q:Fr} (h1:0 < p.2) (h2:0 < q.2):rv p=rv q↔p.1*q.2=q.1*p.2:=by
 have a:=ne0 h1
 have b:=ne0 h2
 unfold rv
 constructor
 · intro h
   have:(p.1:Rat)*q.2=q.1*p.2:=by grind
   exact_mod_cast this
 · intro h
   have:(p.1:Rat)*q.2=q.1*p.2:=by exact_mod_cast h
   grind
theorem iS {p q:Fr} (h1:Sh p) (h2:Sh q) (e:rv p=rv q):p=q:=by
 rw [wU h1.1 h2.1] at e
 obtain ⟨a,b⟩:=p
 obtain ⟨c,d⟩:=q
 obtain ⟨b0,g1⟩:=h1
 obtain ⟨d0,g2⟩:=h2
 dsimp only at*
 have n1:a.natAbs*d.natAbs=c.natAbs*b.natAbs:=by rw [←Int.natAbs_mul,←Int.natAbs_mul,e]
 have g1':Nat.Coprime b.natAbs a.natAbs:=by rw [Nat.coprime_comm];exact g1
 have g2':Nat.Coprime d.natAbs c.natAbs:=by rw [Nat.coprime_comm];exact g2
 have d1:b.natAbs∣d.natAbs:=g1'.dvd_of_dvd_mul_left ⟨c.natAbs,by rw [n1,Nat.mul_comm]⟩
 have d2:d.natAbs∣b.natAbs:=g2'.dvd_of_dvd_mul_left ⟨a.natAbs,by rw [←n1,Nat.mul_comm]⟩
 have e1:=Nat.dvd_antisymm d1 d2
 have e2:b=d:=by omega
 subst e2
 have e3:a=c:=Int.eq_of_mul_eq_mul_right (by omega) e
 rw [e3]
theorem fz {p q:Fr} (h1:Sh p) (h2:Sh q):Sh (eK p q):=(oD h1 h2).1
theorem oz {p q:Fr} (h1:Sh p) (h2:Sh q):rv (eK p q)=rv p+rv q:=by
 obtain ⟨s,e⟩:=oD h1 h2
 have a:=ne0 h1.1
 have b:=ne0 h2.1
 have c:=ne0 s.1
 have e':((pX p.1 p.2 q.1 q.2:Int):Rat)*(p.2*q.2)=(p.1*q.2+q.1*p.2)*(pY p.1 p.2 q.1 q.2:Int):=by exact_mod_cast e
 unfold rv eK
 dsimp only
 grind
theorem dh {p q:Fr} (h1:Sh p) (h2:Sh q):Sh (bZ p q):=(lp h1 h2).1
theorem qI {p q:Fr} (h1:Sh p) (h2:Sh q):rv (bZ p q)=rv p*rv q:=by
 obtain ⟨s,e⟩:=lp h1 h2
 have a:=ne0 h1.1
 have b:=ne0 h2.1
 have c:=ne0 s.1
 have e':((tX p.1 p.2 q.1 q.2:Int):Rat)*(p.2*q.2)=p.1*q.1*(tY p.1 p.2 q.1 q.2:Int):=by exact_mod_cast e
 unfold rv bZ
 dsimp only
 grind
theorem ou:Sh zero:=⟨by decide,by decide⟩
theorem rv_zero:rv zero=0:=by
 show ((0:Int):Rat) / ((1:Int):Rat)=0
 have:((0:Int):Rat)=0:=by simp
 rw [this]
 grind
theorem oA {p:Fr} (h:Sh p):rv p=0↔p=zero:=by
 constructor
 · intro e
   exact iS h ou (e.trans rv_zero.symm)
 · rintro rfl
   exact rv_zero
abbrev Pq:=Tr×Fr
def prT (p:Pq):Tr:= .tup [p.1,frT p.2]
open Classical in
noncomputable def tot (t:Tr):List Pq→Rat
 | []=>0
 |p::r=>(if p.1=t then rv p.2 else 0)+tot t r
theorem eR (t:Tr) (a b:List Pq):tot t (a++b)=tot t a+tot t b:=by
 induction a with
 |nil=>simp only [List.nil_append,tot];grind
 |cons p r ih=>simp only [List.cons_append,tot,ih];grind
open Classical in
theorem jZ (t:Tr) (p:Pq):tot t [p]=if p.1=t then rv p.2 else 0:=by
 simp only [tot]
 grind
theorem qm {t:Tr} {a b:List Pq} (h:a.Perm b):tot t a=tot t b:=by
 induction h with
 |nil=>rfl
 |cons x _ ih=>simp only [tot,ih]
 |swap x y l=>simp only [tot];grind
 |trans _ _ h1 h2=>rw [h1,h2]
theorem cP {t:Tr}:∀ {l:List Pq},(∀p∈l,p.1≠t)→tot t l=0
 | [],_=>rfl
 |p::r,h=>by
  simp only [tot]
  rw [if_neg (h p List.mem_cons_self),cP fun q m=>h q (List.mem_cons_of_mem _ m)]
  grind
abbrev Asc (us:List Pq):Prop:=us.Pairwise fun a b=>ltT a.1 b.1=true
theorem we (t:Tr):ltT t t=false:=by
 cases e:ltT t t with
 |false=>rfl
 |true=>exact (j4 e).symm.trans e |>.symm
theorem oK {t u:Tr} (h:ltT t u=true):t≠u:=fun z=>by
 rw [z,we] at h
 cases h
theorem pN {a b c:Tr} (h1:ltT a b=true) (h2:ltT b c=true):ltT a c=true:=ltT_iff.mpr (eZ (ltT_iff.mp h1) (ltT_iff.mp h2))
theorem dU {us:List Pq} (h:Asc us) {p:Pq} (m:p∈us):tot p.1 us=rv p.2:=by
 induction us with
 |nil=>cases m
 |cons q r ih=>
  obtain ⟨h1,h2⟩:=List.pairwise_cons.mp h
  simp only [tot]
  rcases List.mem_cons.mp m with e|m
  · subst e
    rw [if_pos rfl,cP fun x mx=>(oK (h1 x mx)).symm]
    grind
  · rw [if_neg (oK (h1 p m)),ih h2 m]
    grind
structure Can (ps us:List Pq):Prop where
 asc:Asc us
 sh:∀p∈us,Sh p.2∧p.2≠zero
 eq:∀t,tot t us=tot t ps
theorem Can.mem {ps us vs:List Pq} (h1:Can ps us) (h2:Can ps vs) {p:Pq} (m:p∈us):p∈vs:=by
 have e1:=dU h1.asc m
 rw [h1.eq,←h2.eq] at e1
 have n0:rv p.2≠0:=fun z=>(h1.sh p m).2 ((oA (h1.sh p m).1).mp z)
 refine Classical.byContradiction fun no=> ?_
 by_cases q:∀x∈vs,x.1≠p.1
 · rw [cP q] at e1
   exact n0 e1.symm
 · obtain ⟨x,hx⟩:=Classical.not_forall.mp q
   obtain ⟨mx,ex⟩:=Classical.not_imp.mp hx
   have ex:=Classical.not_not.mp ex
   have e2:=dU h2.asc mx
   rw [ex,e1] at e2
   have e3:=iS (h1.sh p m).1 (h2.sh x mx).1 e2
   have:x=p:=Prod.ext ex e3.symm
   rw [this] at mx
   exact no mx
theorem tL:∀ {us vs:List Pq},Asc us→Asc vs→(∀p,p∈us↔p∈vs)→us=vs
 | [],[],_,_,_=>rfl
 | [],b::vs,_,_,h=>by
  have:=(h b).mpr List.mem_cons_self
  cases this
 |a::us,[],_,_,h=>by
  have:=(h a).mp List.mem_cons_self
  cases this
 |a::us,b::vs,h1,h2,h=>by
  obtain ⟨a1,a2⟩:=List.pairwise_cons.mp h1
  obtain ⟨b1,b2⟩:=List.pairwise_cons.mp h2
  have e:a=b:=by
   rcases List.mem_cons.mp ((h a).mp List.mem_cons_self) with e|m
   · exact e
   · rcases List.mem_cons.mp ((h b).mpr List.mem_cons_self) with e|m'
     · exact e.symm
     · have:=j4 (b1 a m)
       rw [a1 b m'] at this
       cases this
  subst e
  rw [tL a2 b2 fun p=> ?_]
  constructor
  · intro m
    rcases List.mem_cons.mp ((h p).mp (List.mem_cons_of_mem _ m)) with e|m'
    · rw [e] at m
      exact absurd rfl (oK (a1 a m))
    · exact m'
  · intro m
    rcases List.mem_cons.mp ((h p).mpr (List.mem_cons_of_mem _ m)) with e|m'
    · rw [e] at m
      exact absurd rfl (oK (b1 a m))
    · exact m'
theorem Can.uniq {ps us vs:List Pq} (h1:Can ps us) (h2:Can ps vs):us=vs:=tL h1.asc h2.asc fun p=>⟨h1.mem h2,h2.mem h1⟩
theorem Can.to {ps qs us:List Pq} (h:Can ps us) (e:∀t,tot t ps=tot t qs):Can qs us:=⟨h.asc,h.sh,fun t=>(h.eq t).trans (e t)⟩
structure Run (ds us:List Pq):Prop where
 asc:Asc us
 sh:∀p∈us,Sh p.2
 eq:∀t,tot t us=tot t ds
 key:∀p∈us,∃d∈ds,d.1=p.1
theorem Run.nil:Run [] []:=⟨.nil,(fun p m=>by cases m),fun t=>rfl,fun p m=>by cases m⟩
theorem Run.app {ds us:List Pq} {u:Pq} (h:Run ds us) (hl:∀p∈us,ltT p.1 u.1=true) (hs:Sh u.2):Run (ds++ [u]) (us++ [u]):=by
 refine ⟨?_,fun p m=> ?_,fun t=>by rw [eR,eR,h.eq],fun p m=> ?_⟩
 · refine List.pairwise_append.mpr ⟨h.asc,List.pairwise_singleton _ _,fun a ma b mb=> ?_⟩
   rw [List.mem_singleton.mp mb]
   exact hl a ma
 · rcases List.mem_append.mp m with m|m
   · exact h.sh p m
   · rw [List.mem_singleton.mp m]
     exact hs
 · rcases List.mem_append.mp m with m|m
   · obtain ⟨d,md,e⟩:=h.key p m
     exact ⟨d,List.mem_append_left _ md,e⟩
   · rw [List.mem_singleton.mp m]
     exact ⟨u,List.mem_append_right _ List.mem_cons_self,rfl⟩
theorem Run.add {ds us:List Pq} {t:Tr} {f g:Fr} (h:Run ds (us++ [(t,f)])) (hs:Sh g):Run (ds++ [(t,g)]) (us++ [(t,eK f g)]):=by
 have hf:Sh f:=h.sh (t,f) (List.mem_append_right _ List.mem_cons_self)
 obtain ⟨a1,_,a3⟩:=List.pairwise_append.mp h.asc
 refine ⟨?_,fun p m=> ?_,fun u=> ?_,fun p m=> ?_⟩
 · refine List.pairwise_append.mpr ⟨a1,List.pairwise_singleton _ _,fun a ma b mb=> ?_⟩
   rw [List.mem_singleton.mp mb]
   exact a3 a ma (t,f) List.mem_cons_self
 · rcases List.mem_append.mp m with m|m
   · exact h.sh p (List.mem_append_left _ m)
   · rw [List.mem_singleton.mp m]
     exact fz hf hs
 · have e:=h.eq u
   rw [eR,jZ] at e
   rw [eR,eR,jZ,jZ,←e,oz hf hs]
   dsimp only
   by_cases z:t=u
   · simp only [if_pos z];grind
   · simp only [if_neg z];grind
 · rcases List.mem_append.mp m with m|m
   · obtain ⟨d,md,e⟩:=h.key p (List.mem_append_left _ m)
     exact ⟨d,List.mem_append_left _ md,e⟩
   · rw [List.mem_singleton.mp m]
     exact ⟨(t,g),List.mem_append_right _ List.mem_cons_self,rfl⟩
theorem mE (t:Tr) {us:List Pq} (h:∀p∈us,Sh p.2):tot t (us.filter fun p=>decide (p.2≠zero))=tot t us:=by
 induction us with
 |nil=>rfl
 |cons p r ih=>
  have ih:=ih fun q m=>h q (List.mem_cons_of_mem _ m)
  rw [List.filter_cons]
  by_cases z:p.2=zero
  · have e:decide (p.2≠zero)=false:=by simp [z]
    rw [e,if_neg (by decide),ih]
    simp only [tot,z,rv_zero]
    grind
  · have e:decide (p.2≠zero)=true:=by simp [z]
    rw [e,if_pos rfl]
    simp only [tot,ih]
theorem Run.fin {ps us:List Pq} (h:Run ps us):Can ps (us.filter fun p=>decide (p.2≠zero)):=by
 refine ⟨h.asc.filter _,fun p m=> ?_,fun t=>(mE t h.sh).trans (h.eq t)⟩
 obtain ⟨m1,m2⟩:=List.mem_filter.mp m
 exact ⟨h.sh p m1,by simpa using m2⟩
theorem uE {p q:Pq} (h:ltT p.1 q.1=true):ltT (prT p) (prT q)=true:=by
 rw [ltT_iff] at h ⊢
 show LtC (.tup (code p.1::_)) (.tup (code q.1::_))
 simp only [LtC,LtCs]
 exact .inl h
theorem uF {p q:Pq} (h:ltT (prT q) (prT p)=false):ltT q.1 p.1=false:=by
 cases e:ltT q.1 p.1 with
 |false=>rfl
 |true=>rw [uE e] at h;cases h
theorem xF {t u:Tr} (h1:ltT u t=false) (h2:eqT t u=false):ltT t u=true:=by
 cases e:ltT t u with
 |true=>rfl
 |false=>rw [wg e h1] at h2;cases h2
theorem wE {t u:Tr} (h1:Ty .tm t) (h2:Ty .tm u) (h:eqT t u=true):t=u:=wB t.depth (Nat.le_refl _) h1 h2 ((eO t u).mp h)
end Su
namespace L2
open PySem PySem.Spec PyProof.Rows
section
variable {X:Cx}
def rNeP (K:PySem.W.Frag):R2:=fun x y H Q=>∃(p q:Addr) (a b c d:Int),x= .ref p∧y= .ref q∧SqT K H p [.int a, .int b]∧SqT K H q [.int c, .int d]∧Q (.bl (!decide (a=c∧b=d))) H
theorem rz (hu:X.A.units+1 < cLine):OpR X (compareOp .NotEq) (rNeP X.K):=by
 intro pins s σ H x y v u Q I rx ry h
 obtain ⟨p,q,a,b,c,d,e1,e2,hp,hq,k⟩:=h
 subst e1 e2
 cases (show v=Value.ref p from rx)
 cases (show u=Value.ref q from ry)
 obtain ⟨its,r1,t1,_⟩:=I.tuple hp
 obtain ⟨its2,r2,t2,_⟩:=I.tuple hq
 obtain ⟨u1,u2,rfl,⟨w1,rfl⟩,⟨w2,rfl⟩⟩:=Vals.two r1
 obtain ⟨u3,u4,rfl,⟨w3,rfl⟩,⟨w4,rfl⟩⟩:=Vals.two r2
 refine SeqAt.RcNeAt.tuples (A:=X.A) (e:=fun j=>if j=0 then a==c else b==d) (show s.heap.IsTuple p _ from t1) (show s.heap.IsTuple q _ from t2) (by omega) (fun j h1 h2=> ?_) X.prog X.w X.xe _ ?_
 · match j,h1,h2 with
   |0,_,_=>exact PySem.SeqAt.EqAt.int_int a w1 c w3
   |1,_,_=>exact PySem.SeqAt.EqAt.int_int b w2 d w4
   |j+2,h1,_=>
    have:j+2 < 2:=h1
    omega
 · refine ⟨.bl (!decide (a=c∧b=d)),H,I,?_,k⟩
   show Value.bool (!(((a==c)&& ((b==d)&&true))&&true))=Value.bool (!decide (a=c∧b=d))
   congr 2
   rw [Bool.and_true,Bool.and_true,Bool.eq_iff_iff]
   simp
end
end L2
namespace Tre
open PySem L2
theorem TrsAt.set {H:Hp} {v:V} {t:Tr} (hv:TrAt H v t):∀ {vs:List V} {ts:List Tr} {i:Nat},TrsAt H vs ts→TrsAt H (vs.set i v) (ts.set i t)
 |vs,[],i,h=>by
  unfold TrsAt at h
  subst h
  simp
  exact .nil
 |vs,u::ts,0,h=>by
  obtain ⟨w,r,rfl,h1,h2⟩:=h.inv
  exact .cons hv h2
 |vs,u::ts,i+1,h=>by
  obtain ⟨w,r,rfl,h1,h2⟩:=h.inv
  exact .cons h1 (TrsAt.set hv h2)
theorem qp {t:Tr} (h:Ty .tm t):∃ts,t= .tup ts:=by
 cases h<;>exact ⟨_,rfl⟩
end Tre
namespace Su
open PySem L2 Tre Mth Wd
theorem last_at {α:Type} {rs:List α} {y:α} (pos:0 < rs.length) (ey:rs[rs.length - 1]?=some y):atI rs (-1)=some y:=by
 unfold atI ixN
 rw [if_neg (by decide),if_pos (by omega),show (-1+(rs.length:Int)).toNat=rs.length - 1 by omega]
 exact ey
theorem uG {n:Nat} (pos:0 < n):ixN n (-1)=some (n - 1):=by
 unfold ixN
 rw [if_neg (by decide),if_pos (by omega),show (-1+(n:Int)).toNat=n - 1 by omega]
theorem qV {α β:Type} {f:α→β} {us vs:List β} (h:us.Perm vs):∀ {ps:List α},vs=ps.map f→∃qs:List α,us=qs.map f∧qs.Perm ps:=by
 induction h with
 |nil=>intro ps e;exact ⟨[],rfl,by cases ps with|nil=>exact .nil|cons p ps=>simp at e⟩
 |cons x _ ih=>
  intro ps e
  cases ps with
  |nil=>simp at e
  |cons p ps=>
   rw [List.map_cons,List.cons.injEq] at e
   obtain ⟨qs,e1,e2⟩:=ih e.2
   exact ⟨p::qs,by rw [List.map_cons,e1,e.1],e2.cons p⟩
 |swap x y l=>
  intro ps e
  cases ps with
  |nil=>simp at e
  |cons p ps=>
   cases ps with
   |nil=>simp at e
   |cons q ps=>
    simp only [List.map_cons,List.cons.injEq] at e
    obtain ⟨e1,e2,e3⟩:=e
    exact ⟨q::p::ps,by simp only [List.map_cons,e1,e2,e3], .swap p q ps⟩
 |trans _ _ h1 h2=>
  intro ps e
  obtain ⟨ms,e1,p1⟩:=h2 e
  obtain ⟨qs,e2,p2⟩:=h1 e1
  exact ⟨qs,e2,p2.trans p1⟩
structure Gq (e:Nat) (p:Pq):Prop where
 ty:Ty .tm p.1
 dep:p.1.depth≤7
 gf:Gf e p.2
 sh:Sh p.2
theorem Gq.mono {m n:Nat} {p:Pq} (h:Gq m p) (hn:m≤n):Gq n p:=⟨h.ty,h.dep,h.gf.mono hn,h.sh⟩
theorem Gq.pr {e:Nat} {p:Pq} (h:Gq e p):Ty .pr (prT p)∧(prT p).depth≤8:=by
 refine ⟨.pr _ _ h.ty (.fr _ _),?_⟩
 have:=h.dep
 unfold prT frT
 simp only [Tr.depth,Trs.depth]
 omega
theorem iG {α:Type} {us:List α} {i:Nat} {u:α} (e:us[i]?=some u):us.take (i+1)=us.take i++ [u]:=by
 rw [List.take_add_one,e]
 rfl
theorem uM {p:Fr}:(!decide (p.1=0∧p.2=1))=decide (p≠zero):=by
 by_cases h:p=zero
 · subst h
   decide
 · have:¬(p.1=0∧p.2=1):=fun q=>h (Prod.ext q.1 q.2)
   simp [this,h]
open PySem L2 Tre Mth Wd
noncomputable def js (q:Fr) (p:Pq):Pq:=(p.1,bZ p.2 q)
def negF (f:Fr):Fr:=(-f.1,f.2)
def neg (p:Pq):Pq:=(p.1,negF p.2)
theorem vP {f:Fr} (h:Sh f):Sh (negF f):=j9 h
theorem wq {e:Nat} {f:Fr} (h:Gf e f):Gf e (negF f):=⟨h.pos,by show (-f.1).natAbs < _;rw [Int.natAbs_neg];exact h.top,h.bot⟩
theorem uS {ps:List Pq} (h:Asc ps) (hs:∀p∈ps,Sh p.2):Run ps ps:=⟨h,hs,fun _=>rfl,fun p m=>⟨p,m,rfl⟩⟩
theorem pZ {q:Fr} {ps:List Pq} (h:Asc ps):Asc (ps.map (js q)):=List.pairwise_map.mpr h
def m1:Fr:=(-1,1)
def p1:Fr:=(1,1)
theorem qH:Sh m1:=⟨by decide,by decide⟩
theorem Can.scaled {q:Fr} (hq:Sh q) {as us:List Pq} (ha:Asc as) (hs:∀p∈as,Sh p.2) (h:Can (as.map (js q)) us) {e m:Nat} (he:∀p∈as,Gq e p) (hm:Gf m q):∀u∈us,Gq (e+m) u:=by
 have hs':∀p∈as.map (js q),Sh p.2:=fun p mp=>by
  obtain ⟨x,mx,rfl⟩:=List.mem_map.mp mp
  exact dh (hs x mx) hq
 have e1:=h.uniq (uS (pZ ha) hs').fin
 intro u mu
 rw [e1] at mu
 obtain ⟨x,mx,rfl⟩:=List.mem_map.mp (List.mem_filter.mp mu).1
 have g:=he x mx
 exact ⟨g.ty,g.dep,g.gf.times hm,dh g.sh hq⟩
end Su
namespace L2
theorem if_f {c:Bool} {p q:Prop} (h:c=false) (hq:q):if c=true then p else q:=by
 rw [h,if_neg (by decide)]
 exact hq
theorem ne_int {a b:Int} (h:a=b):(!decide (V.int a=V.int b))=false:=by
 rw [h,decide_eq_true rfl]
 rfl
theorem if_t {c:Bool} {p q:Prop} (h:c=true) (hp:p):if c=true then p else q:=by
 rw [h,if_pos rfl]
 exact hp
end L2
namespace EqD
open PySem PySem.Spec PyProof.Rows SeqAt L2 Tre
section
variable {X:Cx}
def rLtR:R2:=fun x y H Q=>∃t u,TrAt H x t∧TrAt H y u∧(t.pure∨u.pure)∧Cm t u∧t.depth≤40∧Q (.bl (ltT t u)) H
theorem vW (hu:X.A.units+50 < cLine):OpR X (compareOp .Lt) rLtR:=by
 intro pins s σ H x y v u Q I rx ry h
 obtain ⟨t,r,h1,h2,hp,hc,hd,q⟩:=h
 exact o6 I 40 hd hp hc h1 h2 rx ry (by omega) X.prog X.w X.xe _ ⟨.bl (ltT t r),H,I,rfl,q⟩
end
theorem cut1 (xs:List V):cutV xs (some 1) none=xs.drop 1:=by
 cases xs with
 |nil=>rfl
 |cons x xs=>
  unfold cutV
  rw [show (1:Int)=((1:Nat):Int) by rfl,HT.sIx_nat,HT.sIx_none,Nat.min_eq_left (by simp)]
  simp
theorem og {r:List V→Hp→VK→Prop} {te:TE} {σ:L2.St} {H:Hp} {Q:VK} (h:te σ H fun v H1=>r [v] H1 Q):tCB r (bf te tNil) σ H Q:=h
theorem eg {te:TE} {Z:Ends} {σ:L2.St} {H:Hp} (h:te σ H Z.rt):tRet te Z σ H:=h
theorem u5 {r:List V→Hp→VK→Prop} {te:TE} {σ:L2.St} {H:Hp} {Q:Bool→Hp→Prop} (h:te σ H fun v H1=>r [v] H1 fun x H2=>∃c,x= .bl c∧Q (!c) H2):tNot (tB (tCB r (bf te tNil))) σ H Q:=h
theorem qr {ta:TE} {r:List V→Hp→VK→Prop} {te:TE} {σ:L2.St} {H:Hp} {Q:VK} (h:ta σ H fun x H1=>∃c,x= .bl c∧if c=true then te σ H1 fun v H2=>r [v] H2 Q else Q (.bl false) H1):oi ta (tCB r (bf te tNil)) σ H Q:=h
theorem tW {ta tb:TT} {t u rest:TS} {Z:Ends} {σ:L2.St} {H:Hp} {b1 b2:Bool} (h1:∀Q:Bool→Hp→Prop,Q b1 H→ta σ H Q) (h2:∀Q:Bool→Hp→Prop,Q b2 H→tb σ H Q) (h:if (b1 ||b2)=true then t {Z with nx:=rest Z} σ H else u {Z with nx:=rest Z} σ H):tSeq (tIfS (tOr ta tb) t u) rest Z σ H:=by
 refine h1 _ ?_
 cases b1 with
 |true=>exact iteT h
 |false=>exact iteF (h2 _ h)
mutual
noncomputable def toTr:Pl→Tr
 | .non=> .non
 | .bl b=> .bl b
 | .int i=> .int i
 | .str x=> .str x
 | .tup ts=> .tup (toTrs ts)
 | .lst=> .ls
 | .dct=> .ls
noncomputable def toTrs:List Pl→List Tr
 | []=> []
 |t::ts=>toTr t::toTrs ts
end
theorem jm:∀ts:List Pl,toTrs ts=ts.map toTr
 | []=>by rw [toTrs];rfl
 |t::ts=>by rw [toTrs,jm ts];rfl
mutual
noncomputable def toPl:Tr→Pl
 | .non=> .non
 | .bl b=> .bl b
 | .int i=> .int i
 | .str x=> .str x
 | .tup ts=> .tup (toPls ts)
 | .ls=> .lst
noncomputable def toPls:List Tr→List Pl
 | []=> []
 |t::ts=>toPl t::toPls ts
end
theorem jo:∀ts:List Tr,toPls ts=ts.map toPl
 | []=>by rw [toPls];rfl
 |t::ts=>by rw [toPls,jo ts];rfl
mutual
theorem lE {H:Hp}:∀ {v:V} {t:Tr},TrAt H v t→PlAt H v (toPl t)
 |v, .non,h=>by unfold TrAt at h;rw [toPl];unfold PlAt;exact h
 |v, .bl b,h=>by unfold TrAt at h;rw [toPl];unfold PlAt;exact h
 |v, .int i,h=>by unfold TrAt at h;rw [toPl];unfold PlAt;exact h
 |v, .str x,h=>by unfold TrAt at h;rw [toPl];unfold PlAt;exact h
 |v, .ls,h=>by unfold TrAt at h;rw [toPl];unfold PlAt;exact h
 |v, .tup ts,h=>by
  unfold TrAt at h
  rw [toPl]
  unfold PlAt
  obtain ⟨r,vs,e,g,hs⟩:=h
  exact ⟨r,vs,e,g,pls_of hs⟩
theorem pls_of {H:Hp}:∀ {vs:List V} {ts:List Tr},TrsAt H vs ts→PlsAt H vs (toPls ts)
 |vs,[],h=>by unfold TrsAt at h;rw [toPls];unfold PlsAt;exact h
 |vs,t::ts,h=>by
  unfold TrsAt at h
  rw [toPls]
  unfold PlsAt
  obtain ⟨v,r,e,h1,h2⟩:=h
  exact ⟨v,r,e,lE h1,pls_of h2⟩
end
mutual
theorem ql {H:Hp}:∀ {v:V} {p:Pl},PlAt H v p→(toTr p).pure→TrAt H v (toTr p)
 |v, .non,h,_=>by unfold PlAt at h;rw [toTr];unfold TrAt;exact h
 |v, .bl b,h,_=>by unfold PlAt at h;rw [toTr];unfold TrAt;exact h
 |v, .int i,h,_=>by unfold PlAt at h;rw [toTr];unfold TrAt;exact h
 |v, .str x,h,_=>by unfold PlAt at h;rw [toTr];unfold TrAt;exact h
 |v, .lst,_,q=>by rw [toTr] at q;exact absurd q (by simp [Tr.pure])
 |v, .dct,_,q=>by rw [toTr] at q;exact absurd q (by simp [Tr.pure])
 |v, .tup ts,h,q=>by
  unfold PlAt at h
  rw [toTr] at q ⊢
  unfold TrAt
  unfold Tr.pure at q
  obtain ⟨r,vs,e,g,hs⟩:=h
  exact ⟨r,vs,e,g,trs_of hs q⟩
theorem trs_of {H:Hp}:∀ {vs:List V} {ts:List Pl},PlsAt H vs ts→Trs.pure (toTrs ts)→TrsAt H vs (toTrs ts)
 |vs,[],h,_=>by unfold PlsAt at h;rw [toTrs];unfold TrsAt;exact h
 |vs,t::ts,h,q=>by
  unfold PlsAt at h
  rw [toTrs] at q ⊢
  unfold TrsAt
  unfold Trs.pure at q
  obtain ⟨v,r,e,h1,h2⟩:=h
  exact ⟨v,r,e,ql h1 q.1,trs_of h2 q.2⟩
end
end EqD
namespace K23P
open PySem L2 Mth EqD Tre Wd Su
open K23
mutual
def Ok:Pl→Prop
 | .str x=>x.length≤1000
 | .int i=>Big i
 | .tup ts=>ts.length≤1000∧Oks ts
 |_=>True
def Oks:List Pl→Prop
 | []=>True
 |t::ts=>Ok t∧Oks ts
end
theorem fm:∀ {ts:List Pl} {t:Pl},Oks ts→t∈ts→Ok t
 |a::ts,t,h,m=>by
  unfold Oks at h
  rcases List.mem_cons.mp m with rfl|m
  · exact h.1
  · exact fm h.2 m
mutual
theorem Ok.sm:∀ {p:Pl},Ok p→Sm p
 | .str x,h=>by unfold Ok at h;unfold Sm;exact h
 | .tup ts,h=>by unfold Ok at h;unfold Sm;exact ⟨h.1,Oks.sm h.2⟩
 | .int i,_=>by unfold Sm;trivial
 | .non,_=>by unfold Sm;trivial
 | .bl _,_=>by unfold Sm;trivial
 | .lst,_=>by unfold Sm;trivial
 | .dct,_=>by unfold Sm;trivial
theorem Oks.sm:∀ {ts:List Pl},Oks ts→Sms ts
 | [],_=>by unfold Sms;trivial
 |t::ts,h=>by unfold Oks at h;unfold Sms;exact ⟨Ok.sm h.1,Oks.sm h.2⟩
end
theorem Ok.big {p:Pl} (h:Ok p):∀a b,p= .tup [.int a, .int b]→Big a∧Big b:=fun a b e=>by
 subst e
 unfold Ok Oks Oks at h
 have h1:=h.2.1
 have h2:=h.2.2.1
 unfold Ok at h1 h2
 exact ⟨h1,h2⟩
theorem ok2 {a b:Pl} (h:Ok (.tup [a,b])):Ok a∧Ok b:=by
 unfold Ok Oks Oks at h
 exact ⟨h.2.1,h.2.2.1⟩
theorem ok3 {a b c:Pl} (h:Ok (.tup [a,b,c])):Ok a∧Ok b∧Ok c:=by
 unfold Ok Oks Oks Oks at h
 exact ⟨h.2.1,h.2.2.1,h.2.2.2.1⟩
theorem dep2 {a b:Pl} {n:Nat} (h:pdep (.tup [a,b]) < n+1):pdep a < n∧pdep b < n:=by
 simp only [pdep,psdep] at h
 omega
theorem dep3 {a b c:Pl} {n:Nat} (h:pdep (.tup [a,b,c]) < n+1):pdep a < n∧pdep b < n∧pdep c < n:=by
 simp only [pdep,psdep] at h
 omega
theorem qo:∀(n:Nat) {p:Pl},tmB n p=true→Ty .tm (toTr p)∧(toTr p).depth≤2*n
 |0,p,h=>by simp [tmB] at h
 |n+1,p,h=>by
  rcases iQ p with ⟨a,b,rfl⟩|⟨a,b,c,rfl⟩|⟨_,_,e⟩
  · rw [tmB,Bool.and_eq_true] at h
    obtain ⟨h1,h2⟩:=h
    cases a with
    |str k=>
     cases b with
     |str x=>
      have ek:k=Str.ofString "name":=by
       simpa [isS] using h1
      subst ek
      simp only [toTr,toTrs]
      exact ⟨.nm x,by simp only [Tr.depth,Trs.depth];omega⟩
     |_=>cases h2
    |_=>cases h1
  · rw [tmB,Bool.and_eq_true,Bool.and_eq_true] at h
    obtain ⟨h1,h2,h3⟩:=h
    cases a with
    |str k=>
     cases b with
     |str x=>
      have ek:k=Str.ofString "call":=by
       simpa [isS] using h1
      subst ek
      cases c with
      |tup ts=>
       rw [ctB,Bool.and_eq_true,Bool.and_eq_true,ka,List.all_eq_true] at h3
       obtain ⟨_,h4,h5⟩:=h3
       have h4:=of_decide_eq_true h4
       have ih:=fun t m=>qo n (h5 t m)
       simp only [toTr,toTrs]
       rw [jm]
       refine ⟨.ap x _ (by rw [List.length_map];omega) fun t m=> ?_,?_⟩
       · obtain ⟨u,mu,rfl⟩:=List.mem_map.mp m
         exact (ih u mu).1
       · have:Trs.depth (ts.map toTr)≤2*n:=cq fun t m=>by
          obtain ⟨u,mu,rfl⟩:=List.mem_map.mp m
          exact (ih u mu).2
         simp only [Tr.depth,Trs.depth]
         omega
      |_=>cases h3
     |_=>cases h2
    |_=>cases h1
  · rw [e n] at h
    cases h
noncomputable def zB:Pl→Bool
 | .tup [.int a, .int b]=>decide (a=0∧b=1)
 |_=>false
noncomputable def prB:Pl→Bool
 | .tup [a,b]=>tmB 20 a&& (frB b&& !zB b)
 |_=>false
def fstP:Pl→Pl
 | .tup (a::_)=>a
 |p=>p
noncomputable def ascB (ts:List Pl):Bool:=(ts.zip (ts.drop 1)).all fun x=>ltT (toTr (fstP x.1)) (toTr (fstP x.2))
noncomputable def smB:Pl→Bool
 | .tup ts=>ts.all prB&&ascB ts
 |_=>false
theorem vS {p:Pl} (h:toB 2 p=false):prB p=false:=by
 unfold prB
 split
 · simp [toB] at h
 · rfl
theorem kK {b:Pl} (h:frB b=true):∃x y,b= .tup [.int x, .int y]:=by
 unfold frB at h
 split at h
 · exact ⟨_,_,rfl⟩
 · cases h
section
variable {P:Program} {w:World} {K:PySem.W.Frag} {mg:Str→Option Value} {base:Heap}
def spPr:Sp:=fun vs H Q _=>∃(v:V) (p:Pl),vs= [v]∧PlAt H v p∧Ok p∧pdep p < 21∧∀H',Same H H'→Q (.bl (prB p)) H'
theorem scPr:ax ["thing"] ["thing"] (af sPrQ):=⟨rfl,rfl,rfl,by decide +kernel,rfl,by decide +kernel,by decide +kernel⟩
theorem xq {f fO fT fF Z:Addr} {fd dO dT dF:FuncData} (F:Fun K "is_pair" "is_pair" sPrQ f fd)
 (gO:FnOk P w K mg base CX0 1 fO dO ["thing","count"] spTo) (kO:PySem.W.keepIn K (.ref fO)=true) (bO:Binds K dO ["thing","count"] []) (mO:mg "is_tuple_of"=some (.ref fO))
 (gT:FnOk P w K mg base CX0 41 fT dT ["thing"] (spTm 20)) (kT:PySem.W.keepIn K (.ref fT)=true) (bT:Binds K dT ["thing"] []) (mT:mg "is_term"=some (.ref fT))
 (gF:FnOk P w K mg base CX0 4 fF dF ["thing"] spFq) (kF:PySem.W.keepIn K (.ref fF)=true) (bF:Binds K dF ["thing"] []) (mF:mg "is_fraction"=some (.ref fF))
 (mZ:mg "ZERO"=some (.ref Z)) (hZ:∀H:Hp,SqT K H Z [.int 0, .int 1]):FnOk P w K mg base CX0 42 f fd ["thing"] spPr:=by
 refine F.ok scPr (fun vs H Q E h=> ?_) (fun cdv A outer s H vs Q E hr h=> ?_)
 · obtain ⟨v,u,rfl,_⟩:=h
   rfl
 obtain ⟨v,p,rfl,hv,ok,hd,k⟩:=h
 have hr1:Room 1 _:=hr.mono (by decide)
 have hr4:Room 4 _:=hr.mono (by decide)
 have hu1:=lX hr
 refine ⟨_,ag (aj (aM (ad gO hr1 rfl mO kO bO .nil ai (a8 (pv 0) (a8 aa a9))) (aM (ad gT hr rfl mT kT bT .nil ai (a8 (am ak (pv 0) aa fun _ _=>rfl) a9)) (aM (ad gF hr4 rfl mF kF bF .nil ai (a8 (am ak (pv 0) aa fun _ _=>rfl) a9))
  (aW (aR (rz hu1) (am ak (pv 0) aa fun _ _=>rfl) (cz (v:= .ref Z) rfl mZ rfl) (aq _))))))),?_⟩
 refine ⟨_,rfl,v,p,2,rfl,hv,_,rfl,?_⟩
 cases e2:toB 2 p with
 |false=>
  have k':=k H (Same.refl H)
  rw [vS e2] at k'
  exact iteF k'
 |true=>
  obtain ⟨a,b,rfl⟩:∃a b,p= .tup [a,b]:=by
   rcases iQ p with h|⟨a,b,c,rfl⟩|⟨h,_⟩
   · exact h
   · simp [toB] at e2
   · rw [h] at e2
     cases e2
  obtain ⟨r,x,y,rfl,g,hx,hy⟩:=pl2 hv
  obtain ⟨oa,ob⟩:=ok2 ok
  obtain ⟨da,db⟩:=dep2 hd
  have k2:∀H',Same H H'→Q (.bl (tmB 20 a&& (frB b&& !zB b))) H':=k
  refine iteT ⟨_,rfl,r,_,0,_,rfl,rfl,SqT.of g,rfl,x,a,rfl,hx,oa.sm,da,fun H1 s1=>⟨_,rfl,?_⟩⟩
  cases e3:tmB 20 a with
  |false=>
   rw [e3] at k2
   exact iteF (k2 _ s1)
  |true=>
   rw [e3] at k2
   have g1:=s1 _ _ g
   refine iteT ⟨_,rfl,r,_,1,_,rfl,rfl,SqT.of g1,rfl,y,b,rfl,hy.mono (Ke.of_same s1),ob.big,fun H2 s2=>⟨_,rfl,?_⟩⟩
   have s12:=s1.trans s2
   cases e4:frB b with
   |false=>
    rw [e4] at k2
    exact iteF (k2 _ s12)
   |true=>
    rw [e4] at k2
    obtain ⟨i,j,rfl⟩:=kK e4
    obtain ⟨q,y1,y2,rfl,gq,h1,h2⟩:=pl2 (hy.mono (Ke.of_same s12))
    unfold PlAt at h1 h2
    subst h1 h2
    refine iteT ⟨_,rfl,r,_,1,_,rfl,rfl,SqT.of (s12 _ _ g),rfl,q,Z,i,j,0,1,rfl,rfl,SqT.of gq,hZ _,?_⟩
    exact k2 _ s12
def spSq:Sp:=fun vs H Q _=>∃(v:V) (p:Pl),vs= [v]∧PlAt H v p∧Ok p∧pdep p < 22∧∀H',Same H H'→Q (.bl (smB p)) H'
theorem scSq:ax ["thing"] ["thing"] (af sSmQ):=⟨rfl,rfl,rfl,by decide +kernel,rfl,by decide +kernel,by decide +kernel⟩
theorem qe {α:Type} (l:List α) (i:Nat) {x y:α} (ex:l[i]?=some x) (ey:l[1+i]?=some y):(l.zip (l.drop 1)).take (i+1)=(l.zip (l.drop 1)).take i++ [(x,y)]:=by
 rw [List.take_add_one]
 have:(l.zip (l.drop 1))[i]?=some (x,y):=by
  rw [List.getElem?_zip_eq_some]
  refine ⟨ex,?_⟩
  rw [List.getElem?_drop]
  exact ey
 rw [this]
 rfl
theorem xm {f fP:Addr} {fd dP:FuncData} (F:Fun K "is_sum" "is_sum" sSmQ f fd) (B:Blt mg)
 (gP:FnOk P w K mg base CX0 42 fP dP ["thing"] spPr) (kP:PySem.W.keepIn K (.ref fP)=true) (bP:Binds K dP ["thing"] []) (mP:mg "is_pair"=some (.ref fP)):FnOk P w K mg base CX0 43 f fd ["thing"] spSq:=by
 refine F.ok scSq (fun vs H Q E h=> ?_) (fun cdv A outer s H vs Q E hr h=> ?_)
 · obtain ⟨v,us,rfl,_⟩:=h
   rfl
 obtain ⟨v,p,rfl,hv,ok,hd,k⟩:=h
 have hun:=hr.units
 have hu50:_+50 < cLine:=Nat.lt_of_le_of_lt (Nat.add_le_add_left (by decide) _) hun
 have nd2:(["one","other"]:List Str).Nodup:=by decide +kernel
 refine ⟨_,ae (aK (PW.pt (cv (br (aU (ar (r:=rIsi K) aS rfl B.isi ay (a8 (pv 0) (a8 (aX (v:= .ty "tuple") rfl B.tu PyProof.Rows.boot_tuple rfl) a9))))) (ck (br (aU (ar (cO rfl) rfl B.al PyProof.Rows.boot_all (a8 (bx (NC:= ["pair"]) (mp:= [none]) rfl (fj (pv 0)) (fun _ _ _ _ _=>aQ (i:=0) (by simp) rfl (Or.inl rfl)) (fun _ _ _ _ _=>bp) (fun _ _ _ _ _=>ad gP hr rfl mP kP bP .nil ai (a8 (pv 0) a9))) a9))))))) (ag (aj cB)) az)
  (ag (aj (ar (cO rfl) rfl B.al PyProof.Rows.boot_all (a8 (bx (NC:= ["one","other"]) (mp:= [none,none]) (g:=gTup K 2 (fY (cp 0) (fY (cp 1) gNil))) rfl (ue (k:= .tup) rfl B.zi (a8 (pv 0) (a8 (cb SlW.sl_A (pv 0) (cw aa) cy) a9))) (fun _ _ _ _ _=>iV (n:=2) rfl (c9 (aQ (i:=0) nd2 rfl (Or.inl rfl)) (c9 (aQ (i:=1) nd2 rfl (Or.inl rfl)) fU))) (fun _ _ _ _ _=>bp)
   (fun _ _ _ _ _=>aR (r:=rLtR) (vW hu50) (am (r:=rIxT K) ak (pv 0) aa fun _ _=>rfl) (am (r:=rIxT K) ak (pv 1) aa fun _ _=>rfl) (aq _))) a9)))),?_⟩
 have hL20:(20000:Nat)≤sizeLine:=by decide +kernel
 refine ⟨_,rfl,v, .ty "tuple",_,cD p,rfl,c7 hv, .inl ⟨rfl,cg K p⟩,_,rfl,?_⟩
 cases p with
 |tup ts=>
  have hv':=hv
  unfold PlAt at hv'
  obtain ⟨r,xs,rfl,g,hT⟩:=hv'
  have tl:=hT.len
  have okt:ts.length≤1000∧Oks ts:=by
   unfold Ok at ok
   exact ok
  have dts:∀t∈ts,pdep t < 21:=fun t m=>by
   have:=dG m
   simp only [pdep] at hd
   omega
  refine iteF ?_
  refine u5 ?_
  refine bn (rest:= []) rfl ?_
  refine ⟨_,rfl,r,rfl,⟨xs,SqT.of g⟩,fun L nL=> ?_⟩
  refine dl (xs:=xs) (fun i acc H'=>Same H H'∧H' L=some (.lst acc)∧acc=((ts.take i).map prB).map V.bl) ⟨ah nL,ac,rfl⟩ (fun i acc H' p=>SqT.of (p.1 _ _ g)) ?_ ?_
  · rintro i x acc H1 hi ex ⟨s1,hD,rfl⟩
    obtain ⟨t,et,ht⟩:=hT.get' ex
    have mt:=List.mem_of_getElem? et
    refine ⟨_,rfl,x,t,rfl,ht.mono (Ke.of_same s1),fm okt.2 mt,dts t mt,fun H2 s2=> ?_⟩
    refine CompN.mk hi ?_ (s2 _ _ hD) ⟨cu nL (s1.trans s2),ac,?_⟩
    · rw [List.length_map,List.length_map,List.length_take]
      omega
    · rw [List.take_add_one,et]
      simp
  rintro acc H1 ⟨s1,hL,rfl⟩
  rw [tl,List.take_length] at hL
  refine ⟨L,_,rfl,SqL.of hL,?_⟩
  rw [show ((ts.map prB).all id)=ts.all prB by rw [List.all_map];rfl]
  have k2:∀H',Same H H'→Q (.bl (ts.all prB&&ascB ts)) H':=k
  refine ⟨_,rfl,?_⟩
  cases ea:ts.all prB with
  |false=>
   rw [ea] at k2
   exact iteT (k2 _ s1)
  |true=>
  rw [ea] at k2
  have pall:=List.all_eq_true.mp ea
  refine iteF ?_
  refine gj ?_
  try dsimp only
  refine eg ?_
  refine og ?_
  refine pj ?_
  refine ⟨_,rfl,_,rfl,_,rfl,r,xs,rfl,s1 _ _ g,fun q H2 s2 hp=> ?_⟩
  rw [cut1 xs] at hp
  have s12:=s1.trans s2
  have g2:=s12 _ _ g
  refine ⟨r,q,xs,xs.drop 1,rfl,SqT.of g2,SqT.of hp,?_⟩
  refine tq (K':=K) (rest:= []) (xs:=xs) (ys:=xs.drop 1) rfl (by rw [List.length_drop];omega) fun D nD=> ?_
  refine ⟨fun i acc H'=>Same H2 H'∧H' D=some (.lst acc)∧acc=(((ts.zip (ts.drop 1)).take i).map fun x=>ltT (toTr (fstP x.1)) (toTr (fstP x.2))).map V.bl,⟨ah nD,ac,rfl⟩,fun i acc H' q=>⟨SqT.of (q.1 _ _ g2),SqT.of (q.1 _ _ hp)⟩,?_,?_⟩
  · rintro i T x y acc H3 hi _ ⟨s3,hD,rfl⟩ ex ey nT
    rw [List.length_drop] at hi
    rw [List.getElem?_drop] at ey
    have sT:=ah (o:= .tup [x,y]) nT
    have s13:=(s12.trans s3).trans sT
    obtain ⟨u,eu,hu⟩:=(hT.mono (Ke.of_same s13)).get' ex
    obtain ⟨z,ez,hz⟩:=(hT.mono (Ke.of_same s13)).get' ey
    have pair:∀ {t:Pl},t∈ts→∃a b,t= .tup [a,b]∧tmB 20 a=true:=fun {t} m=>by
     have:=pall t m
     unfold prB at this
     split at this
     · rw [Bool.and_eq_true] at this
       exact ⟨_,_,rfl,this.1⟩
     · cases this
    obtain ⟨u1,u2,rfl,tu⟩:=pair (List.mem_of_getElem? eu)
    obtain ⟨z1,z2,rfl,tz⟩:=pair (List.mem_of_getElem? ez)
    obtain ⟨a,a1,a2,rfl,ga,q1,_⟩:=pl2 hu
    obtain ⟨b,b1,b2,rfl,gb,q2,_⟩:=pl2 hz
    have yu:=qo 20 tu
    have yz:=qo 20 tz
    refine ⟨_,rfl,a,_,0,_,rfl,rfl,SqT.of ga,bh (j:=0) rfl,_,rfl,b,_,0,_,rfl,rfl,SqT.of gb,bh (j:=0) rfl,toTr u1,toTr z1,ql q1 (c5 yu.1),ql q2 (c5 yz.1), .inl (c5 yu.1),uX 40 (by omega) yu.1 yz.1,by omega,?_⟩
    refine CompN.mk (by rw [List.length_drop];exact hi) ?_ (sT _ _ hD) ⟨cu nD (s3.trans sT),ac,?_⟩
    · rw [List.length_map,List.length_map,List.length_take]
      omega
    · rw [qe ts i eu ez]
      simp [fstP]
  rintro acc H3 ⟨s3,hD,rfl⟩
  refine ⟨D,_,rfl,SqL.of hD,?_⟩
  have e:(((ts.zip (ts.drop 1)).take (xs.drop 1).length).map fun x=>ltT (toTr (fstP x.1)) (toTr (fstP x.2))).all id=ascB ts:=by
   rw [List.take_of_length_le (by rw [List.length_zip,List.length_drop,List.length_drop];omega),List.all_map]
   rfl
  rw [e]
  exact k2 _ (s12.trans s3)
 |non=>exact iteT (iteT (k H (Same.refl H)))
 |bl b=>exact iteT (iteT (k H (Same.refl H)))
 |int i=>exact iteT (iteT (k H (Same.refl H)))
 |str z=>exact iteT (iteT (k H (Same.refl H)))
 |lst=>exact iteT (iteT (k H (Same.refl H)))
 |dct=>exact iteT (iteT (k H (Same.refl H)))
end
open PySem L2 Mth EqD Tre Wd Su
open K23
noncomputable def atB:Pl→Bool
 | .tup [k,x]=>isS "flag" k&&nmB x
 | .tup [k,a,b]=>if isS "most" k=true then smB a&&frB b else isS "like" k&& (tmB 20 a&&tmB 20 b)
 |_=>false
def isT:Pl→List Pl
 | .tup ts=>ts
 |_=> []
noncomputable def wsB:Nat→Pl→Bool
 |0,_=>false
 |n+1,p=>if toB 2 p=true then
  (match isT p with
   | [k,x]=>if isS "not" k=true then wsB n x else if (isS "both" k ||isS "either" k)=true then cD x&& (isT x).all (wsB n) else atB p
   |_=>false)
  else atB p
theorem xS {p:Pl} (h2:toB 2 p=false) (h3:toB 3 p=false):atB p=false:=by
 unfold atB
 split
 · simp [toB] at h2
 · simp [toB] at h3
 · rfl
section
variable {P:Program} {w:World} {K:PySem.W.Frag} {mg:Str→Option Value} {base:Heap}
def spAq:Sp:=fun vs H Q _=>∃(v:V) (p:Pl),vs= [v]∧PlAt H v p∧Ok p∧pdep p < 21∧∀H',Same H H'→Q (.bl (atB p)) H'
theorem scAq:ax ["thing"] ["thing"] (af sAtQ):=⟨rfl,rfl,rfl,by decide +kernel,rfl,by decide +kernel,by decide +kernel⟩
theorem xE {f fO fN fS fF fT:Addr} {fd dO dN dS dF dT:FuncData} (F:Fun K "is_atom" "is_atom" sAtQ f fd)
 (gO:FnOk P w K mg base CX0 1 fO dO ["thing","count"] spTo) (kO:PySem.W.keepIn K (.ref fO)=true) (bO:Binds K dO ["thing","count"] []) (mO:mg "is_tuple_of"=some (.ref fO))
 (gN:FnOk P w K mg base CX0 1 fN dN ["thing"] spNm) (kN:PySem.W.keepIn K (.ref fN)=true) (bN:Binds K dN ["thing"] []) (mN:mg "is_name"=some (.ref fN))
 (gS:FnOk P w K mg base CX0 43 fS dS ["thing"] spSq) (kS:PySem.W.keepIn K (.ref fS)=true) (bS:Binds K dS ["thing"] []) (mS:mg "is_sum"=some (.ref fS))
 (gF:FnOk P w K mg base CX0 4 fF dF ["thing"] spFq) (kF:PySem.W.keepIn K (.ref fF)=true) (bF:Binds K dF ["thing"] []) (mF:mg "is_fraction"=some (.ref fF))
 (gT:FnOk P w K mg base CX0 41 fT dT ["thing"] (spTm 20)) (kT:PySem.W.keepIn K (.ref fT)=true) (bT:Binds K dT ["thing"] []) (mT:mg "is_term"=some (.ref fT)):FnOk P w K mg base CX0 44 f fd ["thing"] spAq:=by
 refine F.ok scAq (fun vs H Q E h=> ?_) (fun cdv A outer s H vs Q E hr h=> ?_)
 · obtain ⟨v,u,rfl,_⟩:=h
   rfl
 obtain ⟨v,p,rfl,hv,ok,hd,k⟩:=h
 have hr1:Room 1 _:=hr.mono (by decide)
 have hr4:Room 4 _:=hr.mono (by decide)
 have hr25:Room 41 _:=hr.mono (by decide)
 have hu0:=Nat.lt_of_le_of_lt (Nat.add_le_add_left (show 0≤64 by decide) _) hr.units
 refine ⟨_,ae (aK (aU (ad gO hr1 rfl mO kO bO .nil ai (a8 (pv 0) (a8 aa a9)))) (ag (aj (aM (aR (bK hu0) (am ak (pv 0) aa fun _ _=>rfl) aA (aq _)) (aW (ad gN hr1 rfl mN kN bN .nil ai (a8 (am ak (pv 0) aa fun _ _=>rfl) a9)))))) az)
  (ae (aK (br (aU (ad gO hr1 rfl mO kO bO .nil ai (a8 (pv 0) (a8 aa a9))))) (ag (aj cB)) az)
  (ae (aK (aw (bK hu0) (am ak (pv 0) aa fun _ _=>rfl) aA (aq _)) (ag (aj (aM (ad gS hr rfl mS kS bS .nil ai (a8 (am ak (pv 0) aa fun _ _=>rfl) a9)) (aW (ad gF hr4 rfl mF kF bF .nil ai (a8 (am ak (pv 0) aa fun _ _=>rfl) a9)))))) az)
  (ag (aj (aM (aR (bK hu0) (am ak (pv 0) aa fun _ _=>rfl) aA (aq _)) (aM (ad gT hr25 rfl mT kT bT .nil ai (a8 (am ak (pv 0) aa fun _ _=>rfl) a9)) (aW (ad gT hr25 rfl mT kT bT .nil ai (a8 (am ak (pv 0) aa fun _ _=>rfl) a9))))))))),?_⟩
 refine ⟨_,rfl,v,p,2,rfl,hv,_,rfl,?_⟩
 rcases iQ p with ⟨a,b,rfl⟩|⟨a,b,c,rfl⟩|⟨e2,e3,_⟩
 · obtain ⟨r,x,y,rfl,g,hx,hy⟩:=pl2 hv
   obtain ⟨oa,ob⟩:=ok2 ok
   have k':Q (.bl (isS "flag" a&&nmB b)) H:=k H (Same.refl H)
   refine iteT ?_
   refine ⟨_,rfl,r,_,0,x,rfl,rfl,SqT.of g,rfl,a,_,hx,rfl,_,rfl,?_⟩
   cases e:isS "flag" a with
   |false=>
    rw [e] at k'
    exact iteF k'
   |true=>
    rw [e] at k'
    exact iteT ⟨_,rfl,r,_,1,y,rfl,rfl,SqT.of g,rfl,y,b,rfl,hy,qF ob.sm,k'⟩
 · obtain ⟨r,x,y,z,rfl,g,hx,hy,hz⟩:=pl3 hv
   obtain ⟨oa,ob,oc⟩:=ok3 ok
   obtain ⟨da,db,dc⟩:=dep3 hd
   have k2:∀H',Same H H'→Q (.bl (if isS "most" a=true then smB b&&frB c else isS "like" a&& (tmB 20 b&&tmB 20 c))) H':=k
   refine iteF ?_
   refine ⟨_,rfl, .ref r,_,3,rfl,hv,_,rfl,iteF ?_⟩
   refine ⟨_,rfl,r,_,0,x,rfl,rfl,SqT.of g,rfl,a,_,hx,rfl,_,rfl,?_⟩
   cases e:isS "most" a with
   |true=>
    simp only [e,if_true] at k2
    refine iteT ⟨_,rfl,r,_,1,y,rfl,rfl,SqT.of g,rfl,y,b,rfl,hy,ob,by omega,fun H1 s1=>⟨_,rfl,?_⟩⟩
    cases e2:smB b with
    |false=>
     rw [e2] at k2
     exact iteF (k2 _ s1)
    |true=>
     rw [e2] at k2
     exact iteT ⟨_,rfl,r,_,2,z,rfl,rfl,SqT.of (s1 _ _ g),rfl,z,c,rfl,hz.mono (Ke.of_same s1),oc.big,fun H2 s2=>k2 _ (s1.trans s2)⟩
   |false=>
    simp only [e,Bool.false_eq_true,if_false] at k2
    refine iteF ⟨_,rfl,r,_,0,x,rfl,rfl,SqT.of g,rfl,a,_,hx,rfl,_,rfl,?_⟩
    cases e2:isS "like" a with
    |false=>
     rw [e2] at k2
     exact iteF (k2 _ (Same.refl H))
    |true=>
     rw [e2] at k2
     refine iteT ⟨_,rfl,r,_,1,y,rfl,rfl,SqT.of g,rfl,y,b,rfl,hy,ob.sm,db,fun H1 s1=>⟨_,rfl,?_⟩⟩
     cases e3:tmB 20 b with
     |false=>
      rw [e3] at k2
      exact iteF (k2 _ s1)
     |true=>
      rw [e3] at k2
      exact iteT ⟨_,rfl,r,_,2,z,rfl,rfl,SqT.of (s1 _ _ g),rfl,z,c,rfl,hz.mono (Ke.of_same s1),oc.sm,dc,fun H2 s2=>k2 _ (s1.trans s2)⟩
 · rw [e2]
   refine iteF ⟨_,rfl,v,p,3,rfl,hv,_,rfl,?_⟩
   rw [e3]
   have k':=k H (Same.refl H)
   rw [xS e2 e3] at k'
   exact iteT k'
def spWq (n:Nat):Sp:=fun vs H Q _=>∃(v:V) (p:Pl),vs= [v]∧PlAt H v p∧Ok p∧pdep p < n∧∀H',Same H H'→Q (.bl (wsB n p)) H'
theorem scWq:ax ["thing"] ["thing"] (af sWsQ):=⟨rfl,rfl,rfl,by decide +kernel,rfl,by decide +kernel,by decide +kernel⟩
theorem xi {f fO fA:Addr} {fd dO dA:FuncData} (F:Fun K "is_wish" "is_wish" sWsQ f fd) (bF:Binds K fd ["thing"] []) (mF:mg "is_wish"=some (.ref f)) (B:Blt mg)
 (gO:FnOk P w K mg base CX0 1 fO dO ["thing","count"] spTo) (kO:PySem.W.keepIn K (.ref fO)=true) (bO:Binds K dO ["thing","count"] []) (mO:mg "is_tuple_of"=some (.ref fO))
 (gA:FnOk P w K mg base CX0 44 fA dA ["thing"] spAq) (kA:PySem.W.keepIn K (.ref fA)=true) (bA:Binds K dA ["thing"] []) (mA:mg "is_atom"=some (.ref fA)):∀n,n≤21→FnOk P w K mg base CX0 (n+45) f fd ["thing"] (spWq n):=by
 intro n
 induction n with
 |zero=>exact fun _=>⟨fun vs H Q E ⟨_,_,_,_,_,h,_⟩=>absurd h (by omega),fun A outer s H args us vs Q E _ _ _ _ ⟨_,_,_,_,_,h,_⟩=>absurd h (by omega)⟩
 |succ n ih=>
  intro hn
  replace ih:=ih (by omega)
  refine F.ok scWq (fun vs H Q E h=> ?_) (fun cdv A outer s H vs Q E hr h=> ?_)
  · obtain ⟨v,u,rfl,_⟩:=h
    rfl
  obtain ⟨v,p,rfl,hv,ok,hd,k⟩:=h
  have hr1:Room 1 _:=hr.mono (by omega)
  have hr28:Room 44 _:=hr.mono (by omega)
  have hu0:=Nat.lt_of_le_of_lt (Nat.add_le_add_left (show 0≤64 by decide) _) hr.units
  refine ⟨_,ae (aK (br (aU (ad gO hr1 rfl mO kO bO .nil ai (a8 (pv 0) (a8 aa a9))))) (ag (aj (ad gA hr28 rfl mA kA bA .nil ai (a8 (pv 0) a9)))) az)
   (ae (aK (aw (bK hu0) (am ak (pv 0) aa fun _ _=>rfl) aA (aq _)) (ag (aj (ad ih hr rfl mF F.kp bF .nil ai (a8 (am ak (pv 0) aa fun _ _=>rfl) a9)))) az)
   (ae (aK (PW.pt (cv (aw (bK hu0) (am ak (pv 0) aa fun _ _=>rfl) aA (aq _)) (ck (aw (bK hu0) (am ak (pv 0) aa fun _ _=>rfl) aA (aq _)))))
    (ag (aj (aM (ar (r:=rIsi K) aS rfl B.isi ay (a8 (am ak (pv 0) aa fun _ _=>rfl) (a8 (aX (v:= .ty "tuple") rfl B.tu PyProof.Rows.boot_tuple rfl) a9))) (aW (ar (cO rfl) rfl B.al PyProof.Rows.boot_all (a8 (bx (NC:= ["inner"]) (mp:= [none]) rfl (fj (am ak (pv 0) aa fun _ _=>rfl)) (fun _ _ _ _ _=>aQ (i:=0) (by simp) rfl (Or.inl rfl)) (fun _ _ _ _ _=>bp) (fun _ _ _ _ _=>ad ih hr rfl mF F.kp bF .nil ai (a8 (pv 0) a9))) a9)))))) az)
   (ag (aj (ad gA hr28 rfl mA kA bA .nil ai (a8 (pv 0) a9)))))),?_⟩
  have hL20:(20000:Nat)≤sizeLine:=by decide +kernel
  refine ⟨_,rfl,v,p,2,rfl,hv,_,rfl,?_⟩
  cases e2:toB 2 p with
  |false=>
   have ew:wsB (n+1) p=atB p:=by rw [wsB,if_neg (by rw [e2];exact Bool.false_ne_true)]
   rw [ew] at k
   exact iteT ⟨_,rfl,v,p,rfl,hv,ok,by omega,fun H1 s1=>k _ s1⟩
  |true=>
   obtain ⟨a,b,rfl⟩:∃a b,p= .tup [a,b]:=by
    rcases iQ p with h|⟨a,b,c,rfl⟩|⟨h,_⟩
    · exact h
    · simp [toB] at e2
    · rw [h] at e2
      cases e2
   have ew:wsB (n+1) (.tup [a,b])=if isS "not" a=true then wsB n b else if (isS "both" a ||isS "either" a)=true then cD b&& (isT b).all (wsB n) else atB (.tup [a,b]):=by
    rw [wsB,if_pos e2]
    rfl
   rw [ew] at k
   obtain ⟨r,x,y,rfl,g,hx,hy⟩:=pl2 hv
   obtain ⟨oa,ob⟩:=ok2 ok
   obtain ⟨da,db⟩:=dep2 hd
   refine iteF ?_
   refine ⟨_,rfl,r,_,0,x,rfl,rfl,SqT.of g,rfl,a,_,hx,rfl,_,rfl,?_⟩
   cases en:isS "not" a with
   |true=>
    simp only [en,if_true] at k
    exact iteT ⟨_,rfl,r,_,1,y,rfl,rfl,SqT.of g,rfl,y,b,rfl,hy,ob,db,fun H1 s1=>k _ s1⟩
   |false=>
   simp only [en,Bool.false_eq_true,if_false] at k
   refine iteF ?_
   refine gj ?_
   try dsimp only
   refine tW (b1:=isS "both" a) (b2:=isS "either" a) (fun Q q=>⟨_,rfl,r,_,0,x,rfl,rfl,SqT.of g,rfl,a,_,hx,rfl,_,rfl,q⟩) (fun Q q=>⟨_,rfl,r,_,0,x,rfl,rfl,SqT.of g,rfl,a,_,hx,rfl,_,rfl,q⟩) ?_
   cases ebe:(isS "both" a ||isS "either" a) with
   |false=>
    simp only [ebe,Bool.false_eq_true,if_false] at k
    exact iteF ⟨_,rfl, .ref r,_,rfl,hv,ok,by omega,fun H1 s1=>k _ s1⟩
   |true=>
   simp only [ebe,if_true] at k
   refine iteT ?_
   refine eg ?_
   refine qr ?_
   refine ⟨_,rfl,r,_,1,y,rfl,rfl,SqT.of g,rfl,y, .ty "tuple",_,cD b,rfl,c7 hy, .inl ⟨rfl,cg K b⟩,_,rfl,?_⟩
   cases et:cD b with
   |false=>
    rw [et] at k
    exact iteF (k _ (Same.refl H))
   |true=>
   rw [et] at k
   cases b with
   |tup ts=>
    have hv':=hy
    unfold PlAt at hv'
    obtain ⟨c,cs,rfl,gc,hT⟩:=hv'
    have tl:=hT.len
    have okt:ts.length≤1000∧Oks ts:=by
     unfold Ok at ob
     exact ob
    refine iteT ?_
    refine bn (rest:= []) rfl ?_
    refine ⟨_,rfl,r,_,1,_,rfl,rfl,SqT.of g,rfl,c,rfl,⟨cs,SqT.of gc⟩,fun L nL=> ?_⟩
    refine dl (xs:=cs) (fun i acc H'=>Same H H'∧H' L=some (.lst acc)∧acc=((ts.take i).map (wsB n)).map V.bl) ⟨ah nL,ac,rfl⟩ (fun i acc H' p=>SqT.of (p.1 _ _ gc)) ?_ ?_
    · rintro i z acc H1 hi ex ⟨s1,hD,rfl⟩
      obtain ⟨t,et,ht⟩:=hT.get' ex
      have mt:=List.mem_of_getElem? et
      refine ⟨_,rfl,z,t,rfl,ht.mono (Ke.of_same s1),fm okt.2 mt,?_,fun H2 s2=> ?_⟩
      · have:=dG mt
        simp only [pdep] at db
        omega
      refine CompN.mk hi ?_ (s2 _ _ hD) ⟨cu nL (s1.trans s2),ac,?_⟩
      · rw [List.length_map,List.length_map,List.length_take]
        omega
      · rw [List.take_add_one,et]
        simp
    · rintro acc H1 ⟨s1,hL,rfl⟩
      rw [tl,List.take_length] at hL
      refine ⟨L,_,rfl,SqL.of hL,?_⟩
      rw [show ((ts.map (wsB n)).all id)=ts.all (wsB n) by rw [List.all_map];rfl]
      exact k _ s1
   |_=>cases et
end
end K23P
namespace EqD
open PySem PySem.Spec PyProof.Rows SeqAt L2
theorem uO (d:Addr) (o:Obj) (es:Array DictEntry) (ep:Nat) (hc:o.cls= .type "dict") (hd:o.data= .dict es ep) (z:Str) (k:Tok):
 Meets (Builtin.«dict.__ne__» ⟨[.ref d, .str z k],[]⟩) (fun _ R s=>s.heap.get? d=some o∧R (.ok (.ret .notImplemented)) s):=
 .of_wp fun prog w A R s h=>by
  obtain ⟨hp,g,dr,tk,os⟩:=s
  obtain ⟨ho,h⟩:=h
  obtain ⟨cls,dd,data,sl⟩:=o
  simp only at hc hd
  subst hc hd
  have f1:=F.sub_str_dict
  wp_walk using wpAny_loadPart' ho,wpAny_load ho
  exact ⟨_,rfl,h⟩
theorem vK (d:Addr) (o:Obj) (es:Array DictEntry) (ep:Nat) (hc:o.cls= .type "dict") (hd:o.data= .dict es ep) (z:Str) (k:Tok):
 Meets (Builtin.«str.__ne__» ⟨[.str z k, .ref d],[]⟩) (fun _ R s=>s.heap.get? d=some o∧R (.ok (.ret .notImplemented)) s):=
 .of_wp fun prog w A R s h=>by
  obtain ⟨hp,g,dr,tk,os⟩:=s
  obtain ⟨ho,h⟩:=h
  obtain ⟨cls,dd,data,sl⟩:=o
  simp only at hc hd
  subst hc hd
  wp_walk using wpAny_loadPart' ho,wpAny_load ho
  exact ⟨_,rfl,h⟩
theorem wV {A:Around} {s:Shared} {d:Addr} {o:Obj} {es:Array DictEntry} {ep:Nat} {z:Str} {k:Tok} (ho:s.heap.get? d=some o) (hc:o.cls= .type "dict") (hd:o.data= .dict es ep) (hu:A.units < cLine):RcNeAt A s (.ref d) (.str z k) true:=by
 intro prog w E Q h
 have T1:s.TypeIs (.ref d) "dict":=⟨o,ho,hc⟩
 have T2:s.TypeIs (.str z k) "str":=typeIs_str s z k
 refine rc_ne_decline_or (k:=false) T1 T2 (by decide) F.sub_str_dict F.slot_dict_ne F.slot_str_ne_refl (fun _ q=> ?_) (fun _ q=> ?_) (fun _ q=> ?_) (.inr hu) h
 · exact call_meets F.slot_dict_ne T1 F.entry_dict_ne (F.args_dict_ne_2 _ _) (uO d o es ep hc hd z k) ⟨ho,q⟩
 · exact call_meets F.slot_str_ne_refl T2 F.entry_str_ne (F.args_str_ne_2 _ _) (vK d o es ep hc hd z k) ⟨ho,q⟩
 · exact wpAny_of_eq rfl q
theorem wX {A:Around} {s:Shared} {d:Addr} {o:Obj} {es:Array DictEntry} {ep:Nat} {z:Str} {k:Tok} (ho:s.heap.get? d=some o) (hc:o.cls= .type "dict") (hd:o.data= .dict es ep) (hu:A.units < cLine):RcAt A s (.str z k) (.ref d) false:=by
 intro prog w E Q h
 have T1:s.TypeIs (.ref d) "dict":=⟨o,ho,hc⟩
 have T2:s.TypeIs (.str z k) "str":=typeIs_str s z k
 refine rc_eq_decline_or (k:=false) T2 T1 (by decide) F.sub_dict_str F.slot_str_eq F.slot_dict_eq_refl (fun _ q=> ?_) (fun _ q=> ?_) (fun _ q=> ?_) (.inr hu) h
 · exact call_meets F.slot_str_eq T2 F.entry_str_eq (F.args_str_eq_2 _ _) (qy d o es ep hc hd z k) ⟨ho,q⟩
 · exact call_meets F.slot_dict_eq_refl T1 F.entry_dict_eq (F.args_dict_eq_2 _ _) (oR d o es ep hc hd z k) ⟨ho,q⟩
 · exact wpAny_of_eq rfl q
theorem xN {A:Around} {s:Shared} {d:Addr} {o:Obj} {es:Array DictEntry} {ep:Nat} {z:Str} {k:Tok} (ho:s.heap.get? d=some o) (hc:o.cls= .type "dict") (hd:o.data= .dict es ep) (hu:A.units < cLine):EqAt A s (.str z k) (.ref d) false:=fun prog w E Q h=>by
 unfold eqBool
 refine wpAny_holding ?_
 refine wpAny_ite_split (fun hab=>absurd (eq_of_beq hab) nofun) (fun _=> ?_)
 exact wpAny_bind (wX ho hc hd hu prog w E _ (wpAny_truthy_bool h))
def rNeS:R2:=fun x y H Q=>∃p z,PlAt H x p∧y= .str z∧Q (.bl (!isS z p)) H
theorem ko {X:Cx} (hu:X.A.units < cLine):OpR X (compareOp .NotEq) rNeS:=by
 intro pins s σ H x y v u Q I rx ry h
 obtain ⟨p,z,hx,rfl,q⟩:=h
 obtain ⟨t,rfl⟩:=ry
 cases p with
 |non=>
  unfold PlAt at hx
  subst hx
  cases (show v=Value.none from rx)
  exact RcNeAt.none_str z t X.prog X.w _ _ ⟨.bl _,H,I,rfl,q⟩
 |bl b=>
  unfold PlAt at hx
  subst hx
  cases (show v=Value.bool b from rx)
  exact RcNeAt.bool_str b z t X.prog X.w _ _ ⟨.bl _,H,I,rfl,q⟩
 |int i=>
  unfold PlAt at hx
  subst hx
  obtain ⟨t0,rfl⟩:=rx
  exact RcNeAt.int_str i t0 z t X.prog X.w _ _ ⟨.bl _,H,I,rfl,q⟩
 |str w=>
  unfold PlAt at hx
  subst hx
  obtain ⟨t0,rfl⟩:=rx
  exact RcNeAt.str_str w t0 z t X.prog X.w _ _ ⟨.bl _,H,I,rfl,q⟩
 |tup ts=>
  unfold PlAt at hx
  obtain ⟨r,vs,rfl,g,_⟩:=hx
  cases rx
  obtain ⟨us,_,p1,_⟩:=I.tuple (SqT.of g)
  exact RcNeAt.tuple_str z t p1 hu X.prog X.w _ _ ⟨.bl _,H,I,rfl,q⟩
 |lst=>
  unfold PlAt at hx
  obtain ⟨r,vs,rfl,g⟩:=hx
  cases rx
  obtain ⟨us,_,p1,_⟩:=I.list (SqL.of g)
  exact RcNeAt.list_str z t p1.isList hu X.prog X.w _ _ ⟨.bl _,H,I,rfl,q⟩
 |dct=>
  unfold PlAt at hx
  obtain ⟨r,kvs,rfl,g⟩:=hx
  cases rx
  obtain ⟨_,_,vs,r',ob,es,ep,e,c⟩:=(show ObjOk X.prog X.w H s.heap r (.dK kvs) from I.hok r _ g)
  exact wV e c.1.1 c.2.1 hu X.prog X.w _ _ ⟨.bl _,H,I,rfl,q⟩
theorem xM {X:Cx} {pins:List (Addr×Obj)} {s:Shared} {σ:L2.St} {H:Hp} {A:Around} (hu:A.units < cLine) (I:Inv X pins σ H s) {x:V} {p:Pl} {v:Value} (hx:PlAt H x p) (rx:RelV x v) (z:Str) (t:Tok):EqAt A s (.str z t) v (isS z p):=by
 cases p with
 |non=>
  unfold PlAt at hx
  subst hx
  cases (show v=Value.none from rx)
  exact EqAt.str_none z t
 |bl b=>
  unfold PlAt at hx
  subst hx
  cases (show v=Value.bool b from rx)
  exact EqAt.str_bool z t b
 |int i=>
  unfold PlAt at hx
  subst hx
  obtain ⟨t0,rfl⟩:=rx
  exact EqAt.str_int z t i t0
 |str w=>
  unfold PlAt at hx
  subst hx
  obtain ⟨t0,rfl⟩:=rx
  have e:isS z (.str w)=(z==w):=by
   show (w==z)=(z==w)
   by_cases c:w=z
   · rw [c]
   · rw [beq_eq_false_iff_ne.mpr c,beq_eq_false_iff_ne.mpr (Ne.symm c)]
  rw [e]
  exact EqAt.str_str z t w t0
 |tup ts=>
  unfold PlAt at hx
  obtain ⟨r,vs,rfl,g,_⟩:=hx
  cases rx
  obtain ⟨us,_,p1,_⟩:=I.tuple (SqT.of g)
  exact EqAt.str_tuple z t p1 hu
 |lst=>
  unfold PlAt at hx
  obtain ⟨r,vs,rfl,g⟩:=hx
  cases rx
  obtain ⟨us,_,p1,_⟩:=I.list (SqL.of g)
  exact EqAt.str_list z t p1.isList hu
 |dct=>
  unfold PlAt at hx
  obtain ⟨r,kvs,rfl,g⟩:=hx
  cases rx
  obtain ⟨_,_,vs,r',ob,es,ep,e,c⟩:=(show ObjOk X.prog X.w H s.heap r (.dK kvs) from I.hok r _ g)
  exact xN e c.1.1 c.2.1 hu
def rInS (K:PySem.W.Frag):R2:=fun x y H Q=>∃(p:Pl) (zs:List Str) (r:Addr),PlAt H x p∧y= .ref r∧SqT K H r (zs.map V.str)∧Q (.bl (zs.any fun z=>isS z p)) H
theorem rC {X:Cx} (hu:X.A.units+1 < cLine):OpR X (compareOp .In) (rInS X.K):=by
 intro pins s σ H x y v u Q I rx ry h
 obtain ⟨p,zs,r,hx,rfl,hr,q⟩:=h
 cases ry
 obtain ⟨its,rv,pl,hz⟩:=I.tuple hr
 refine SeqAt.in_tupleAt (fun w=>match w with| .str z _=>isS z p|_=>false) (show s.heap.IsTuple r its.toArray from pl) (fun w hw=> ?_) ⟨.bl _,H,I,rfl,?_⟩
 · have hw':w∈its:=by simpa using hw
   obtain ⟨j,hj,ej⟩:=List.getElem_of_mem hw'
   have l1:=rv.length
   rw [List.length_map] at l1
   have hj2:j < zs.length:=by omega
   obtain ⟨u',e2,q2⟩:=rv.get (i:=j) (x:=V.str zs[j]) (by rw [List.getElem?_map,List.getElem?_eq_getElem hj2];rfl)
   rw [List.getElem?_eq_getElem hj,ej] at e2
   cases e2
   obtain ⟨t,rfl⟩:=q2
   exact xM (by show X.A.units+1 < cLine;exact hu) I hx rx _ t
 · have e:its.toArray.any (fun w=>match w with| .str z _=>isS z p|_=>false)=zs.any fun z=>isS z p:=by
    rw [List.any_toArray]
    clear pl hz q hr
    induction zs generalizing its with
    |nil=>cases rv;rfl
    |cons z zs ih=>
     cases rv with
     |cons r1 r2=>
      obtain ⟨t,rfl⟩:=r1
      rw [List.any_cons,List.any_cons,ih _ r2]
   rw [e]
   exact q
end EqD
namespace L2
open PySem PySem.Spec PyProof.Rows
def vJ (i:Nat) (f:Addr) (sp:Sp) (dvs:List V) (E:XK) (t:TA):TE:=fun σ H Q=>σ[i]?=some (some (.ref f))∧t σ H fun vs H1=>sp (vs++dvs) H1 Q E
theorem rj {X:Cx} {CX:CXT} {k:Nat} {f:Addr} {fd:FuncData} {ps:List Str} {sp:Sp} {i:Nat} {x:Str} {p pos:Pos} {e:Expr} {es:List Expr} {ds:List Value} {dvs:List V} {E:XK} {t:TA} (F:FnOk X.prog X.w X.K X.mg X.base CX k f fd ps sp) (hr:Room k X.A) (hN:X.N[i]?=some x) (hv:Vis X.env.scope x) (hk:PySem.W.keepIn X.K (.ref f)=true) (hb:Binds X.K fd ps ds) (hd:Vals dvs ds) (hx:ie CX X E)
 (ha:PA X (e::es) t) (hdb:(x==("__debug__":Str))=false:=by decide) (hcd:(x==("__classdict__":Str))=false:=by decide) (he:starEach (e::es) X.env=(false,eval e X.env)::starEach es X.env:=by rfl) (hpl:(backTo pos (starEach es X.env)).any (·.1)=false:=by rfl):
 PE X (.Call (.Name x p) (e::es) [] pos) (vJ i f sp dvs E t):=by
 intro pins s σ H Q I h
 obtain ⟨h1,h⟩:=h
 refine wpAny_Call_Name_kw (thn (iW hN hv hdb hcd pins s σ H (fun v H'=>v= .ref f∧H'=H) I ⟨_,h1,rfl,rfl⟩) fun u s1 ⟨v,H1,I1,r1,ev,eh⟩=> ?_)
 subst ev eh
 cases r1
 refine PySem.W.callWith_K (h₀:=X.base) I.ok.mod.kin hk (thn (ha pos pins s1 σ _ _ I1 h) fun us s2 ⟨vs,H2,I2,r,q⟩=>⟨I2.kIn,?_⟩) he hpl
 exact qJ F hr hb hd hx I2 r q
end L2
namespace K23P
open PySem L2 Mth EqD Tre Wd Su
open K23
def cnB:Pl→Bool
 | .int i=>decide (0≤i)
 |_=>false
def hdS (z:Str):Pl→Bool
 | .tup (k::_)=>isS z k
 |_=>false
noncomputable def thB (p:Pl):Bool:=wsB 21 p&& !hdS "not" p
noncomputable def posB:Pl→Bool
 | .tup (.int a::_)=>decide (0 < a)
 |_=>false
noncomputable def prtB:Pl→Bool
 | .tup [a,t,f]=>wsB 21 a&& (hdS "most" a&& (isBl t&& (frB f&&posB f)))
 |_=>false
noncomputable def chB:Pl→Bool
 | .tup ts=>decide (3≤ts.length)&&ts.all (tmB 20)
 |_=>false
noncomputable def psB:Pl→Bool
 | .tup ts=>decide (0 < ts.length)&&ts.all prtB
 |_=>false
noncomputable def o1B (k x:Pl):Bool:=if isS "wish" k=true then cnB x else if isS "sum" k=true then psB x else if isS "self" k=true then tmB 20 x else isS "chain" k&&chB x
noncomputable def kinds:List Str:= [Str.ofString "turn",Str.ofString "calls",Str.ofString "level",Str.ofString "meet"]
noncomputable def o2B (k a b:Pl):Bool:=if isS "open" k=true then thB a&&cnB b else (kinds.any fun z=>isS z k)&& (tmB 20 a&&tmB 20 b)
noncomputable def stB:Pl→Bool
 | .tup [k,x]=>o1B k x
 | .tup [k,a,b]=>o2B k a b
 | .tup [k,a,b,c]=>isS "resolve" k&& (cnB a&& (cnB b&&thB c))
 |_=>false
theorem jV {n:Nat} {p:Pl} (h:wsB n p=true):∃k ts,p= .tup (k::ts):=by
 cases n with
 |zero=>simp [wsB] at h
 |succ n=>
  cases p with
  |tup ts=>
   cases ts with
   |nil=>simp [wsB,toB,atB] at h
   |cons k ts=>exact ⟨k,ts,rfl⟩
  |non=>simp [wsB,toB,atB] at h
  |bl b=>simp [wsB,toB,atB] at h
  |int i=>simp [wsB,toB,atB] at h
  |str z=>simp [wsB,toB,atB] at h
  |lst=>simp [wsB,toB,atB] at h
  |dct=>simp [wsB,toB,atB] at h
theorem pl1 {H:Hp} {v:V} {k:Pl} {ts:List Pl} (h:PlAt H v (.tup (k::ts))):∃r x xs,v= .ref r∧H r=some (.tup (x::xs))∧PlAt H x k∧PlsAt H xs ts:=by
 unfold PlAt at h
 obtain ⟨r,vs,rfl,g,hT⟩:=h
 obtain ⟨x,xs,rfl,h1,h2⟩:=hT.inv
 exact ⟨r,x,xs,rfl,g,h1,h2⟩
section
variable {P:Program} {w:World} {K:PySem.W.Frag} {mg:Str→Option Value} {base:Heap}
def spIc:Sp:=fun vs H Q _=>∃(v:V) (p:Pl),vs= [v]∧PlAt H v p∧Q (.bl (cnB p)) H
theorem scIc:ax ["thing"] ["thing"] (af sCnt):=⟨rfl,rfl,rfl,by decide +kernel,rfl,by decide +kernel,by decide +kernel⟩
theorem xA {f fW:Addr} {fd dW:FuncData} (F:Fun K "is_count" "is_count" sCnt f fd)
 (gW:FnOk P w K mg base CX0 1 fW dW ["thing"] spIw) (kW:PySem.W.keepIn K (.ref fW)=true) (bW:Binds K dW ["thing"] []) (mW:mg "is_whole"=some (.ref fW)):FnOk P w K mg base CX0 2 f fd ["thing"] spIc:=by
 refine F.ok scIc (fun vs H Q E h=> ?_) (fun cdv A outer s H vs Q E hr h=> ?_)
 · obtain ⟨v,p,rfl,_⟩:=h
   rfl
 obtain ⟨v,p,rfl,hv,k⟩:=h
 refine ⟨_,ag (aj (aM (ad gW hr rfl mW kW bW .nil ai (a8 (pv 0) a9)) (aW (aR rD (pv 0) aa (aq _))))),?_⟩
 refine ⟨_,rfl,v,p,rfl,hv,_,rfl,?_⟩
 cases p with
 |int i=>
  unfold PlAt at hv
  subst hv
  refine iteT ?_
  exact ⟨_,rfl,_,_,rfl,rfl,k⟩
 |non=>exact iteF k
 |bl b=>exact iteF k
 |str z=>exact iteF k
 |tup ts=>exact iteF k
 |lst=>exact iteF k
 |dct=>exact iteF k
def spIt:Sp:=fun vs H Q _=>∃(v:V) (p:Pl),vs= [v]∧PlAt H v p∧Ok p∧pdep p < 21∧∀H',Same H H'→Q (.bl (thB p)) H'
theorem scIt:ax ["thing"] ["thing"] (af sThQ):=⟨rfl,rfl,rfl,by decide +kernel,rfl,by decide +kernel,by decide +kernel⟩
theorem xy {f fW:Addr} {fd dW:FuncData} (F:Fun K "is_thing" "is_thing" sThQ f fd)
 (gW:FnOk P w K mg base CX0 66 fW dW ["thing"] (spWq 21)) (kW:PySem.W.keepIn K (.ref fW)=true) (bW:Binds K dW ["thing"] []) (mW:mg "is_wish"=some (.ref fW)):FnOk P w K mg base CX0 67 f fd ["thing"] spIt:=by
 refine F.ok scIt (fun vs H Q E h=> ?_) (fun cdv A outer s H vs Q E hr h=> ?_)
 · obtain ⟨v,p,rfl,_⟩:=h
   rfl
 obtain ⟨v,p,rfl,hv,ok,hd,k⟩:=h
 have hu0:=Nat.lt_of_le_of_lt (Nat.add_le_add_left (show 0≤64 by decide) _) hr.units
 refine ⟨_,ag (aj (aM (ad gW hr rfl mW kW bW .nil ai (a8 (pv 0) a9)) (aW (aR (ko hu0) (am ak (pv 0) aa fun _ _=>rfl) aA (aq _))))),?_⟩
 refine ⟨_,rfl,v,p,rfl,hv,ok,hd,fun H1 s1=>⟨_,rfl,?_⟩⟩
 have k2:∀H',Same H H'→Q (.bl (wsB 21 p&& !hdS "not" p)) H':=k
 cases e:wsB 21 p with
 |false=>
  rw [e] at k2
  exact iteF (k2 _ s1)
 |true=>
  rw [e] at k2
  obtain ⟨a,ts,rfl⟩:=jV e
  obtain ⟨r,x,xs,rfl,g,hx,_⟩:=pl1 (hv.mono (Ke.of_same s1))
  refine iteT ⟨_,rfl,r,_,0,_,rfl,rfl,SqT.of g,bh (j:=0) rfl,a,_,hx,rfl,?_⟩
  exact k2 _ s1
def spSg:Sp:=fun vs H Q _=>∃(r:Addr) (a b:Int),vs= [.ref r]∧H r=some (.tup [.int a, .int b])∧Q (.int (if a < 0 then -1 else if 0 < a then 1 else 0)) H
theorem scSg:ax ["one"] ["one"] (af jy):=⟨rfl,rfl,rfl,by decide +kernel,rfl,by decide +kernel,by decide +kernel⟩
theorem xp {f:Addr} {fd:FuncData} (F:Fun K "sign_of" "sign_of" jy f fd):FnOk P w K mg base CX0 1 f fd ["one"] spSg:=by
 refine F.ok scSg (fun vs H Q E h=> ?_) (fun cdv A outer s H vs Q E hr h=> ?_)
 · obtain ⟨r,a,b,rfl,_⟩:=h
   rfl
 obtain ⟨r,a,b,rfl,g,k⟩:=h
 refine ⟨_,ae (aK (aw lL (am ak (pv 0) aa fun _ _=>rfl) aa (aq _)) (ag (aj (cV cr aa))) az)
  (ag (aj (rg (aw dY (am ak (pv 0) aa fun _ _=>rfl) aa (aq _)) aa aa))),?_⟩
 refine ⟨_,rfl,r,_,0,_,rfl,rfl,SqT.of g,rfl,_,_,rfl,rfl,_,rfl,?_⟩
 by_cases z:a < 0
 · rw [if_pos z] at k
   rw [decide_eq_true z]
   exact iteT ⟨1,rfl,k⟩
 · rw [if_neg z] at k
   rw [decide_eq_false z]
   refine iteF ?_
   refine ⟨_,rfl,r,_,0,_,rfl,rfl,SqT.of g,rfl,_,_,rfl,rfl,_,rfl,?_⟩
   by_cases z2:0 < a
   · rw [if_pos z2] at k
     rw [decide_eq_true z2]
     exact iteT k
   · rw [if_neg z2] at k
     rw [decide_eq_false z2]
     exact iteF k
theorem qQ {p:Pl} (h:toB 3 p=false):prtB p=false:=by
 unfold prtB
 split
 · simp [toB] at h
 · rfl
theorem to3 {p:Pl} (h:toB 3 p=true):∃a b c,p= .tup [a,b,c]:=by
 rcases iQ p with ⟨a,b,rfl⟩|h'|⟨_,h',_⟩
 · simp [toB] at h
 · exact h'
 · rw [h'] at h
   cases h
def spIp:Sp:=fun vs H Q _=>∃(v:V) (p:Pl),vs= [v]∧PlAt H v p∧Ok p∧pdep p < 21∧∀H',Same H H'→Q (.bl (prtB p)) H'
theorem scIp:ax ["thing","atom","truth","weight"] ["thing"] (af sPtQ):=⟨rfl,rfl,rfl,by decide +kernel,rfl,by decide +kernel,by decide +kernel⟩
theorem xz {f fO fW fF fS:Addr} {fd dO dW dF dS:FuncData} (F:Fun K "is_part" "is_part" sPtQ f fd) (B:Blt mg)
 (gO:FnOk P w K mg base CX0 1 fO dO ["thing","count"] spTo) (kO:PySem.W.keepIn K (.ref fO)=true) (bO:Binds K dO ["thing","count"] []) (mO:mg "is_tuple_of"=some (.ref fO))
 (gW:FnOk P w K mg base CX0 66 fW dW ["thing"] (spWq 21)) (kW:PySem.W.keepIn K (.ref fW)=true) (bW:Binds K dW ["thing"] []) (mW:mg "is_wish"=some (.ref fW))
 (gF:FnOk P w K mg base CX0 4 fF dF ["thing"] spFq) (kF:PySem.W.keepIn K (.ref fF)=true) (bF:Binds K dF ["thing"] []) (mF:mg "is_fraction"=some (.ref fF))
 (gS:FnOk P w K mg base CX0 1 fS dS ["one"] spSg) (kS:PySem.W.keepIn K (.ref fS)=true) (bS:Binds K dS ["one"] []) (mS:mg "sign_of"=some (.ref fS)):FnOk P w K mg base CX0 67 f fd ["thing"] spIp:=by
 refine F.ok scIp (fun vs H Q E h=> ?_) (fun cdv A outer s H vs Q E hr h=> ?_)
 · obtain ⟨v,p,rfl,_⟩:=h
   rfl
 obtain ⟨v,p,rfl,hv,ok,hd,k⟩:=h
 have hr1:Room 1 _:=hr.mono (by decide)
 have hr4:Room 4 _:=hr.mono (by decide)
 have hu0:=Nat.lt_of_le_of_lt (Nat.add_le_add_left (show 0≤64 by decide) _) hr.units
 refine ⟨_,ae (aK (br (aU (ad gO hr1 rfl mO kO bO .nil ai (a8 (pv 0) (a8 aa a9))))) (ag (aj cB)) az)
  (ae (iU (pv 0) (iV rfl (c9 (aQ (i:=1) scIp.nd rfl (Or.inl rfl)) (c9 (aQ (i:=2) scIp.nd rfl (Or.inl rfl)) (c9 (aQ (i:=3) scIp.nd rfl (Or.inl rfl)) fU)))))
  (ae (aK (PW.pt (cv (br (aU (ad gW hr rfl mW kW bW .nil ai (a8 (pv 1) a9)))) (cv (aw (ko hu0) (am ak (pv 1) aa fun _ _=>rfl) aA (aq _)) (ck (br (aU (ar (r:=rIsi K) aS rfl B.isi ay (a8 (pv 2) (a8 (aX (v:= .ty "bool") rfl B.bo PyProof.Rows.boot_bool rfl) a9))))))))) (ag (aj cB)) az)
  (ag (aj (aM (ad gF hr4 rfl mF kF bF .nil ai (a8 (pv 3) a9)) (aW (aR dY (ad gS hr1 rfl mS kS bS .nil ai (a8 (pv 3) a9)) aa (aq _)))))))),?_⟩
 refine ⟨_,rfl,v,p,3,rfl,hv,_,rfl,?_⟩
 cases e3:toB 3 p with
 |false=>
  have k':=k H (Same.refl H)
  rw [qQ e3] at k'
  exact iteT k'
 |true=>
  obtain ⟨a,t,c,rfl⟩:=to3 e3
  obtain ⟨r,x,y,z,rfl,g,hx,hy,hz⟩:=pl3 hv
  obtain ⟨oa,ot,oc⟩:=ok3 ok
  obtain ⟨da,dt,dc⟩:=dep3 (n:=20) hd
  have k2:∀H',Same H H'→Q (.bl (wsB 21 a&& (hdS "most" a&& (isBl t&& (frB c&&posB c))))) H':=k
  refine iteF ?_
  refine ⟨_,rfl,r,_,rfl,SqT.of g,rfl,_,_,rfl,_,_,rfl,_,_,rfl,rfl,?_⟩
  refine ⟨_,rfl,x,a,rfl,hx,oa,by omega,fun H1 s1=>⟨_,rfl,?_⟩⟩
  cases e:wsB 21 a with
  |false=>
   rw [e] at k2
   exact iteT (k2 _ s1)
  |true=>
   rw [e] at k2
   refine iteF ?_
   obtain ⟨a0,ts,rfl⟩:=jV e
   obtain ⟨q,x0,xs,rfl,gq,hx0,_⟩:=pl1 (hx.mono (Ke.of_same s1))
   refine ⟨_,rfl,q,_,0,_,rfl,rfl,SqT.of gq,bh (j:=0) rfl,a0,_,hx0,rfl,_,rfl,?_⟩
   have eh:hdS (Str.ofString "most") (.tup (a0::ts))=isS (Str.ofString "most") a0:=rfl
   rw [eh] at k2
   cases em:isS (Str.ofString "most") a0 with
   |false=>
    rw [em] at k2
    exact iteT (k2 _ s1)
   |true=>
    rw [em] at k2
    refine iteF ?_
    refine ⟨_,rfl,y, .ty "bool",_,isBl t,rfl,c7 (hy.mono (Ke.of_same s1)), .inl ⟨rfl,ia K t⟩,_,rfl,?_⟩
    cases eb:isBl t with
    |false=>
     rw [eb] at k2
     exact iteT (k2 _ s1)
    |true=>
     rw [eb] at k2
     refine iteF ?_
     refine ⟨_,rfl,z,c,rfl,hz.mono (Ke.of_same s1),oc.big,fun H2 s2=>⟨_,rfl,?_⟩⟩
     have s12:=s1.trans s2
     cases ef:frB c with
     |false=>
      rw [ef] at k2
      exact iteF (k2 _ s12)
     |true=>
      rw [ef] at k2
      obtain ⟨i,j,rfl⟩:=kK ef
      obtain ⟨q2,y1,y2,rfl,gq2,h1,h2⟩:=pl2 (hz.mono (Ke.of_same s12))
      unfold PlAt at h1 h2
      subst h1 h2
      refine iteT ⟨_,rfl,q2,i,j,rfl,gq2,_,_,rfl,rfl,?_⟩
      have ee:decide ((0:Int) < (if i < 0 then -1 else if 0 < i then 1 else 0))=decide (0 < i):=by
       by_cases c1:i < 0
       · rw [if_pos c1,decide_eq_false (by omega),decide_eq_false (by omega)]
       · rw [if_neg c1]
         by_cases c2:0 < i
         · rw [if_pos c2,decide_eq_true c2]
           rfl
         · rw [if_neg c2,decide_eq_false c2]
           rfl
      have k3:Q (.bl (decide (0 < i))) H2:=k2 _ s12
      rw [←ee] at k3
      exact k3
end
open PySem L2 Mth EqD Tre Wd Su
open K23
theorem qq {ta:TE} {tl:TE} {r:List V→Hp→VK→Prop} {te:TE} {σ:L2.St} {H:Hp} {Q:VK} (h:ta σ H fun x H1=>∃c,x= .bl c∧if c=true then tl σ H1 fun y H2=>∃d,y= .bl d∧if d=true then te σ H2 fun v H3=>r [v] H3 Q else Q (.bl false) H2 else Q (.bl false) H1):oi ta (oi tl (tCB r (bf te tNil))) σ H Q:=h
section
variable {P:Program} {w:World} {K:PySem.W.Frag} {mg:Str→Option Value} {base:Heap}
def spCh:Sp:=fun vs H Q _=>∃(v:V) (p:Pl),vs= [v]∧PlAt H v p∧Ok p∧pdep p < 20∧∀H',Same H H'→Q (.bl (chB p)) H'
theorem scCh:ax ["thing"] ["thing"] (af sChQ):=⟨rfl,rfl,rfl,by decide +kernel,rfl,by decide +kernel,by decide +kernel⟩
theorem xD {f fT:Addr} {fd dT:FuncData} {tk:Tok} (F:Fun K "is_chain" "is_chain" sChQ f fd) (B:Blt mg) (mL:mg "LEAST_IN_CHAIN"=some (.int 3 tk))
 (gT:FnOk P w K mg base CX0 41 fT dT ["thing"] (spTm 20)) (kT:PySem.W.keepIn K (.ref fT)=true) (bT:Binds K dT ["thing"] []) (mT:mg "is_term"=some (.ref fT)):FnOk P w K mg base CX0 42 f fd ["thing"] spCh:=by
 refine F.ok scCh (fun vs H Q E h=> ?_) (fun cdv A outer s H vs Q E hr h=> ?_)
 · obtain ⟨v,p,rfl,_⟩:=h
   rfl
 obtain ⟨v,p,rfl,hv,ok,hd,k⟩:=h
 refine ⟨_,ae (aK (PW.pt (cv (br (aU (ar (r:=rIsi K) aS rfl B.isi ay (a8 (pv 0) (a8 (aX (v:= .ty "tuple") rfl B.tu PyProof.Rows.boot_tuple rfl) a9))))) (ck (aw lL (ar aF rfl B.le PySem.boot_len (a8 (pv 0) a9)) (cz (v:= .int 3) rfl mL ⟨_,rfl⟩) (aq _))))) (ag (aj cB)) az)
  (ag (aj (ar (cO rfl) rfl B.al PyProof.Rows.boot_all (a8 (bx (NC:= ["inner"]) (mp:= [none]) rfl (fj (pv 0)) (fun _ _ _ _ _=>aQ (i:=0) (by simp) rfl (Or.inl rfl)) (fun _ _ _ _ _=>bp) (fun _ _ _ _ _=>ad gT hr rfl mT kT bT .nil ai (a8 (pv 0) a9))) a9)))),?_⟩
 have hL20:(20000:Nat)≤sizeLine:=by decide +kernel
 refine ⟨_,rfl,v, .ty "tuple",_,cD p,rfl,c7 hv, .inl ⟨rfl,cg K p⟩,_,rfl,?_⟩
 cases p with
 |tup ts=>
  have hv':=hv
  unfold PlAt at hv'
  obtain ⟨r,xs,rfl,g,hT⟩:=hv'
  have tl:=hT.len
  have okt:ts.length≤1000∧Oks ts:=by
   unfold Ok at ok
   exact ok
  have dts:∀t∈ts,pdep t < 20:=fun t m=>by
   have:=dG m
   simp only [pdep] at hd
   omega
  have k2:∀H',Same H H'→Q (.bl (decide (3≤ts.length)&&ts.all (tmB 20))) H':=k
  refine iteF ?_
  refine ⟨_,rfl,r,xs,rfl, .inr (SqT.of g),_,_,rfl,rfl,_,rfl,?_⟩
  by_cases l3:3≤ts.length
  · rw [decide_eq_true l3] at k2
    refine if_f (decide_eq_false (by omega)) ?_
    refine gj ?_
    dsimp only
    refine eg ?_
    refine og ?_
    refine bn (rest:= []) rfl ?_
    refine ⟨_,rfl,r,rfl,⟨xs,SqT.of g⟩,fun L nL=> ?_⟩
    refine dl (xs:=xs) (fun i acc H'=>Same H H'∧H' L=some (.lst acc)∧acc=((ts.take i).map (tmB 20)).map V.bl) ⟨ah nL,ac,rfl⟩ (fun i acc H' p=>SqT.of (p.1 _ _ g)) ?_ ?_
    · rintro i x acc H1 hi ex ⟨s1,hD,rfl⟩
      obtain ⟨t,et,ht⟩:=hT.get' ex
      have mt:=List.mem_of_getElem? et
      refine ⟨_,rfl,x,t,rfl,ht.mono (Ke.of_same s1),(fm okt.2 mt).sm,dts t mt,fun H2 s2=> ?_⟩
      refine CompN.mk hi ?_ (s2 _ _ hD) ⟨cu nL (s1.trans s2),ac,?_⟩
      · rw [List.length_map,List.length_map,List.length_take]
        omega
      · rw [List.take_add_one,et]
        simp
    rintro acc H1 ⟨s1,hL,rfl⟩
    rw [tl,List.take_length] at hL
    refine ⟨L,_,rfl,SqL.of hL,?_⟩
    rw [show ((ts.map (tmB 20)).all id)=ts.all (tmB 20) by rw [List.all_map];rfl]
    exact k2 _ s1
  · rw [decide_eq_false l3] at k2
    refine if_t (decide_eq_true (by omega)) ?_
    exact k2 _ (Same.refl H)
 |non=>exact iteT (iteT (k H (Same.refl H)))
 |bl b=>exact iteT (iteT (k H (Same.refl H)))
 |int i=>exact iteT (iteT (k H (Same.refl H)))
 |str z=>exact iteT (iteT (k H (Same.refl H)))
 |lst=>exact iteT (iteT (k H (Same.refl H)))
 |dct=>exact iteT (iteT (k H (Same.refl H)))
def sp1:Sp:=fun vs H Q _=>∃(v u:V) (a p:Pl),vs= [v,u]∧PlAt H v a∧PlAt H u p∧Ok p∧pdep p < 20∧∀H',Same H H'→Q (.bl (o1B a p)) H'
theorem sc1:ax ["kind","inner"] ["kind","inner"] (af sSt1):=⟨rfl,rfl,rfl,by decide +kernel,rfl,by decide +kernel,by decide +kernel⟩
theorem ok_1 {f fC fP fT fH:Addr} {fd dC dP dT dH:FuncData} (F:Fun K "is_step_of_one" "is_step_of_one" sSt1 f fd) (B:Blt mg)
 (gC:FnOk P w K mg base CX0 2 fC dC ["thing"] spIc) (kC:PySem.W.keepIn K (.ref fC)=true) (bC:Binds K dC ["thing"] []) (mC:mg "is_count"=some (.ref fC))
 (gP:FnOk P w K mg base CX0 67 fP dP ["thing"] spIp) (kP:PySem.W.keepIn K (.ref fP)=true) (bP:Binds K dP ["thing"] []) (mP:mg "is_part"=some (.ref fP))
 (gT:FnOk P w K mg base CX0 41 fT dT ["thing"] (spTm 20)) (kT:PySem.W.keepIn K (.ref fT)=true) (bT:Binds K dT ["thing"] []) (mT:mg "is_term"=some (.ref fT))
 (gH:FnOk P w K mg base CX0 42 fH dH ["thing"] spCh) (kH:PySem.W.keepIn K (.ref fH)=true) (bH:Binds K dH ["thing"] []) (mH:mg "is_chain"=some (.ref fH)):FnOk P w K mg base CX0 68 f fd ["kind","inner"] sp1:=by
 refine F.ok sc1 (fun vs H Q E h=> ?_) (fun cdv A outer s H vs Q E hr h=> ?_)
 · obtain ⟨v,u,a,p,rfl,_⟩:=h
   rfl
 obtain ⟨v,u,a,p,rfl,hv,hu,ok,hd,k⟩:=h
 have hr2:Room 2 _:=hr.mono (by decide)
 have hr41:Room 41 _:=hr.mono (by decide)
 have hr42:Room 42 _:=hr.mono (by decide)
 have hu0:=Nat.lt_of_le_of_lt (Nat.add_le_add_left (show 0≤64 by decide) _) hr.units
 refine ⟨_,ae (aK (aw (bK hu0) (pv 0) aA (aq _)) (ag (aj (ad gC hr2 rfl mC kC bC .nil ai (a8 (pv 1) a9)))) az)
  (ae (aK (aw (bK hu0) (pv 0) aA (aq _)) (ag (aj (aM (ar (r:=rIsi K) aS rfl B.isi ay (a8 (pv 1) (a8 (aX (v:= .ty "tuple") rfl B.tu PyProof.Rows.boot_tuple rfl) a9))) (aM (aR dY (ar aF rfl B.le PySem.boot_len (a8 (pv 1) a9)) aa (aq _)) (aW (ar (cO rfl) rfl B.al PyProof.Rows.boot_all (a8 (bx (NC:= ["part"]) (mp:= [none]) rfl (fj (pv 1)) (fun _ _ _ _ _=>aQ (i:=0) (by simp) rfl (Or.inl rfl)) (fun _ _ _ _ _=>bp) (fun _ _ _ _ _=>ad gP hr rfl mP kP bP .nil ai (a8 (pv 0) a9))) a9))))))) az)
  (ae (aK (aw (bK hu0) (pv 0) aA (aq _)) (ag (aj (ad gT hr41 rfl mT kT bT .nil ai (a8 (pv 1) a9)))) az)
  (ag (aj (aM (aR (bK hu0) (pv 0) aA (aq _)) (aW (ad gH hr42 rfl mH kH bH .nil ai (a8 (pv 1) a9)))))))),?_⟩
 have hL20:(20000:Nat)≤sizeLine:=by decide +kernel
 have k2:∀H',Same H H'→Q (.bl (if isS "wish" a=true then cnB p else if isS "sum" a=true then psB p else if isS "self" a=true then tmB 20 p else isS "chain" a&&chB p)) H':=k
 clear k
 refine ⟨_,rfl,a,_,hv,rfl,_,rfl,?_⟩
 cases e1:isS (Str.ofString "wish") a with
 |true=>
  simp only [e1,if_true] at k2
  exact iteT ⟨_,rfl,u,p,rfl,hu,k2 _ (Same.refl H)⟩
 |false=>
 simp only [e1,Bool.false_eq_true,if_false] at k2
 refine iteF ?_
 refine ⟨_,rfl,a,_,hv,rfl,_,rfl,?_⟩
 cases e2:isS (Str.ofString "sum") a with
 |true=>
  simp only [e2,if_true] at k2
  refine iteT ?_
  refine eg ?_
  refine qq ?_
  refine ⟨_,rfl,u, .ty "tuple",_,cD p,rfl,c7 hu, .inl ⟨rfl,cg K p⟩,_,rfl,?_⟩
  cases p with
  |tup ts=>
   have hv':=hu
   unfold PlAt at hv'
   obtain ⟨r,xs,rfl,g,hT⟩:=hv'
   have tl:=hT.len
   have okt:ts.length≤1000∧Oks ts:=by
    unfold Ok at ok
    exact ok
   have dts:∀t∈ts,pdep t < 21:=fun t m=>by
    have:=dG m
    simp only [pdep] at hd
    omega
   have k3:∀H',Same H H'→Q (.bl (decide (0 < ts.length)&&ts.all prtB)) H':=k2
   refine iteT ?_
   refine ⟨_,rfl,r,xs,rfl, .inr (SqT.of g),_,_,rfl,rfl,_,rfl,?_⟩
   by_cases l0:0 < ts.length
   · rw [decide_eq_true l0] at k3
     refine if_t (decide_eq_true (by omega)) ?_
     refine bn (rest:= []) rfl ?_
     refine ⟨_,rfl,r,rfl,⟨xs,SqT.of g⟩,fun L nL=> ?_⟩
     refine dl (xs:=xs) (fun i acc H'=>Same H H'∧H' L=some (.lst acc)∧acc=((ts.take i).map prtB).map V.bl) ⟨ah nL,ac,rfl⟩ (fun i acc H' p=>SqT.of (p.1 _ _ g)) ?_ ?_
     · rintro i x acc H1 hi ex ⟨s1,hD,rfl⟩
       obtain ⟨t,et,ht⟩:=hT.get' ex
       have mt:=List.mem_of_getElem? et
       refine ⟨_,rfl,x,t,rfl,ht.mono (Ke.of_same s1),fm okt.2 mt,dts t mt,fun H2 s2=> ?_⟩
       refine CompN.mk hi ?_ (s2 _ _ hD) ⟨cu nL (s1.trans s2),ac,?_⟩
       · rw [List.length_map,List.length_map,List.length_take]
         omega
       · rw [List.take_add_one,et]
         simp
     rintro acc H1 ⟨s1,hL,rfl⟩
     rw [tl,List.take_length] at hL
     refine ⟨L,_,rfl,SqL.of hL,?_⟩
     rw [show ((ts.map prtB).all id)=ts.all prtB by rw [List.all_map];rfl]
     exact k3 _ s1
   · rw [decide_eq_false l0] at k3
     refine if_f (decide_eq_false (by omega)) ?_
     exact k3 _ (Same.refl H)
  |non=>exact iteF (k2 H (Same.refl H))
  |bl b=>exact iteF (k2 H (Same.refl H))
  |int i=>exact iteF (k2 H (Same.refl H))
  |str z=>exact iteF (k2 H (Same.refl H))
  |lst=>exact iteF (k2 H (Same.refl H))
  |dct=>exact iteF (k2 H (Same.refl H))
 |false=>
 simp only [e2,Bool.false_eq_true,if_false] at k2
 refine iteF ?_
 refine gj ?_
 try dsimp only
 refine ⟨_,rfl,a,_,hv,rfl,_,rfl,?_⟩
 cases e3:isS (Str.ofString "self") a with
 |true=>
  simp only [e3,if_true] at k2
  exact iteT ⟨_,rfl,u,p,rfl,hu,ok.sm,hd,fun H1 s1=>k2 _ s1⟩
 |false=>
 simp only [e3,Bool.false_eq_true,if_false] at k2
 refine iteF ?_
 refine ⟨_,rfl,a,_,hv,rfl,_,rfl,?_⟩
 cases e4:isS (Str.ofString "chain") a with
 |false=>
  rw [e4] at k2
  exact iteF (k2 _ (Same.refl H))
 |true=>
  rw [e4] at k2
  exact iteT ⟨_,rfl,u,p,rfl,hu,ok,hd,fun H1 s1=>k2 _ s1⟩
def sp2:Sp:=fun vs H Q _=>∃(v u x:V) (a p q:Pl),vs= [v,u,x]∧PlAt H v a∧PlAt H u p∧PlAt H x q∧Ok p∧Ok q∧pdep p < 20∧pdep q < 20∧∀H',Same H H'→Q (.bl (o2B a p q)) H'
theorem sc2:ax ["kind","one","other"] ["kind","one","other"] (af sSt2):=⟨rfl,rfl,rfl,by decide +kernel,rfl,by decide +kernel,by decide +kernel⟩
theorem ok_2 {f fC fI fT Z:Addr} {fd dC dI dT:FuncData} (F:Fun K "is_step_of_two" "is_step_of_two" sSt2 f fd) (mZ:mg "TWO_TERM_KINDS"=some (.ref Z)) (hZ:∀H:Hp,SqT K H Z (kinds.map V.str))
 (gC:FnOk P w K mg base CX0 2 fC dC ["thing"] spIc) (kC:PySem.W.keepIn K (.ref fC)=true) (bC:Binds K dC ["thing"] []) (mC:mg "is_count"=some (.ref fC))
 (gI:FnOk P w K mg base CX0 67 fI dI ["thing"] spIt) (kI:PySem.W.keepIn K (.ref fI)=true) (bI:Binds K dI ["thing"] []) (mI:mg "is_thing"=some (.ref fI))
 (gT:FnOk P w K mg base CX0 41 fT dT ["thing"] (spTm 20)) (kT:PySem.W.keepIn K (.ref fT)=true) (bT:Binds K dT ["thing"] []) (mT:mg "is_term"=some (.ref fT)):FnOk P w K mg base CX0 68 f fd ["kind","one","other"] sp2:=by
 refine F.ok sc2 (fun vs H Q E h=> ?_) (fun cdv A outer s H vs Q E hr h=> ?_)
 · obtain ⟨v,u,x,a,p,q,rfl,_⟩:=h
   rfl
 obtain ⟨v,u,x,a,p,q,rfl,hv,hu,hx,op,oq,dp,dq,k⟩:=h
 have hr2:Room 2 _:=hr.mono (by decide)
 have hr41:Room 41 _:=hr.mono (by decide)
 have hu0:=Nat.lt_of_le_of_lt (Nat.add_le_add_left (show 0≤64 by decide) _) hr.units
 have hu1:=lX hr
 refine ⟨_,ae (aK (aw (bK hu0) (pv 0) aA (aq _)) (ag (aj (aM (ad gI hr rfl mI kI bI .nil ai (a8 (pv 1) a9)) (aW (ad gC hr2 rfl mC kC bC .nil ai (a8 (pv 2) a9)))))) az)
  (ag (aj (aM (aR (rC hu1) (pv 0) (cz (v:= .ref Z) rfl mZ rfl) (by with_unfolding_all rfl)) (aM (ad gT hr41 rfl mT kT bT .nil ai (a8 (pv 1) a9)) (aW (ad gT hr41 rfl mT kT bT .nil ai (a8 (pv 2) a9))))))),?_⟩
 have k2:∀H',Same H H'→Q (.bl (if isS "open" a=true then thB p&&cnB q else (kinds.any fun z=>isS z a)&& (tmB 20 p&&tmB 20 q))) H':=k
 clear k
 refine ⟨_,rfl,a,_,hv,rfl,_,rfl,?_⟩
 cases e1:isS (Str.ofString "open") a with
 |true=>
  simp only [e1,if_true] at k2
  refine iteT ⟨_,rfl,u,p,rfl,hu,op,by omega,fun H1 s1=>⟨_,rfl,?_⟩⟩
  cases et:thB p with
  |false=>
   rw [et] at k2
   exact iteF (k2 _ s1)
  |true=>
   rw [et] at k2
   exact iteT ⟨_,rfl,x,q,rfl,hx.mono (Ke.of_same s1),k2 _ s1⟩
 |false=>
 simp only [e1,Bool.false_eq_true,if_false] at k2
 refine iteF ?_
 refine ⟨_,rfl,a,kinds,Z,hv,rfl,hZ H,_,rfl,?_⟩
 cases e2:(kinds.any fun z=>isS z a) with
 |false=>
  rw [e2] at k2
  exact iteF (k2 _ (Same.refl H))
 |true=>
  rw [e2] at k2
  refine iteT ⟨_,rfl,u,p,rfl,hu,op.sm,dp,fun H1 s1=>⟨_,rfl,?_⟩⟩
  cases e3:tmB 20 p with
  |false=>
   rw [e3] at k2
   exact iteF (k2 _ s1)
  |true=>
   rw [e3] at k2
   exact iteT ⟨_,rfl,x,q,rfl,hx.mono (Ke.of_same s1),oq.sm,dq,fun H2 s2=>k2 _ (s1.trans s2)⟩
end
open PySem L2 Mth EqD Tre Wd Su
open K23
theorem vO (p:Pl):(∃a b,p= .tup [a,b])∨(∃a b c,p= .tup [a,b,c])∨(∃a b c d,p= .tup [a,b,c,d])∨(toB 2 p=false∧toB 3 p=false∧toB 4 p=false∧stB p=false):=by
 cases p with
 |tup ts=>
  match ts with
  | []=>exact .inr (.inr (.inr ⟨rfl,rfl,rfl,rfl⟩))
  | [a]=>exact .inr (.inr (.inr ⟨rfl,rfl,rfl,rfl⟩))
  | [a,b]=>exact .inl ⟨a,b,rfl⟩
  | [a,b,c]=>exact .inr (.inl ⟨a,b,c,rfl⟩)
  | [a,b,c,d]=>exact .inr (.inr (.inl ⟨a,b,c,d,rfl⟩))
  |a::b::c::d::e::r=>
   refine .inr (.inr (.inr ⟨?_,?_,?_,rfl⟩))<;>
   · simp only [toB,List.length_cons]
     exact decide_eq_false (by omega)
 |non=>exact .inr (.inr (.inr ⟨rfl,rfl,rfl,rfl⟩))
 |bl b=>exact .inr (.inr (.inr ⟨rfl,rfl,rfl,rfl⟩))
 |int i=>exact .inr (.inr (.inr ⟨rfl,rfl,rfl,rfl⟩))
 |str z=>exact .inr (.inr (.inr ⟨rfl,rfl,rfl,rfl⟩))
 |lst=>exact .inr (.inr (.inr ⟨rfl,rfl,rfl,rfl⟩))
 |dct=>exact .inr (.inr (.inr ⟨rfl,rfl,rfl,rfl⟩))
theorem pl4 {H:Hp} {v:V} {a b c d:Pl} (h:PlAt H v (.tup [a,b,c,d])):∃r x y z u,v= .ref r∧H r=some (.tup [x,y,z,u])∧PlAt H x a∧PlAt H y b∧PlAt H z c∧PlAt H u d:=by
 obtain ⟨r,x,xs,rfl,g,hx,h1⟩:=pl1 h
 obtain ⟨y,ys,rfl,hy,h2⟩:=h1.inv
 obtain ⟨z,zs,rfl,hz,h3⟩:=h2.inv
 obtain ⟨u,us,rfl,hu,h4⟩:=h3.inv
 unfold PlsAt at h4
 subst h4
 exact ⟨r,x,y,z,u,rfl,g,hx,hy,hz,hu⟩
theorem lN {ts:List Pl} (h:Ok (.tup ts)):∀t∈ts,Ok t:=by
 unfold Ok at h
 exact fun t m=>fm h.2 m
theorem ib {ts:List Pl} {n:Nat} (h:pdep (.tup ts) < n+1):∀t∈ts,pdep t < n:=fun t m=>by
 have:=dG m
 simp only [pdep] at h
 omega
section
variable {P:Program} {w:World} {K:PySem.W.Frag} {mg:Str→Option Value} {base:Heap}
def qC:Sp:=fun vs H Q _=>∃(v:V) (p:Pl),vs= [v]∧PlAt H v p∧Ok p∧pdep p < 21∧∀H',Same H H'→Q (.bl (stB p)) H'
theorem scStp:ax ["thing"] ["thing"] (af sStp):=⟨rfl,rfl,rfl,by decide +kernel,rfl,by decide +kernel,by decide +kernel⟩
theorem vZ {f fO f1 f2 fC fI:Addr} {fd dO d1 d2 dC dI:FuncData} (F:Fun K "is_step" "is_step" sStp f fd)
 (gO:FnOk P w K mg base CX0 1 fO dO ["thing","count"] spTo) (kO:PySem.W.keepIn K (.ref fO)=true) (bO:Binds K dO ["thing","count"] []) (mO:mg "is_tuple_of"=some (.ref fO))
 (g1:FnOk P w K mg base CX0 68 f1 d1 ["kind","inner"] sp1) (k1:PySem.W.keepIn K (.ref f1)=true) (b1:Binds K d1 ["kind","inner"] []) (m1:mg "is_step_of_one"=some (.ref f1))
 (g2:FnOk P w K mg base CX0 68 f2 d2 ["kind","one","other"] sp2) (k2:PySem.W.keepIn K (.ref f2)=true) (b2:Binds K d2 ["kind","one","other"] []) (m2:mg "is_step_of_two"=some (.ref f2))
 (gC:FnOk P w K mg base CX0 2 fC dC ["thing"] spIc) (kC:PySem.W.keepIn K (.ref fC)=true) (bC:Binds K dC ["thing"] []) (mC:mg "is_count"=some (.ref fC))
 (gI:FnOk P w K mg base CX0 67 fI dI ["thing"] spIt) (kI:PySem.W.keepIn K (.ref fI)=true) (bI:Binds K dI ["thing"] []) (mI:mg "is_thing"=some (.ref fI)):FnOk P w K mg base CX0 69 f fd ["thing"] qC:=by
 refine F.ok scStp (fun vs H Q E h=> ?_) (fun cdv A outer s H vs Q E hr h=> ?_)
 · obtain ⟨v,p,rfl,_⟩:=h
   rfl
 obtain ⟨v,p,rfl,hv,ok,hd,k⟩:=h
 have hr1:Room 1 _:=hr.mono (by decide)
 have hr2:Room 2 _:=hr.mono (by decide)
 have hr67:Room 67 _:=hr.mono (by decide)
 have hu0:=Nat.lt_of_le_of_lt (Nat.add_le_add_left (show 0≤64 by decide) _) hr.units
 refine ⟨_,ae (aK (aU (ad gO hr1 rfl mO kO bO .nil ai (a8 (pv 0) (a8 aa a9)))) (ag (aj (ad g1 hr rfl m1 k1 b1 .nil ai (a8 (am ak (pv 0) aa fun _ _=>rfl) (a8 (am ak (pv 0) aa fun _ _=>rfl) a9))))) az)
  (ae (aK (aU (ad gO hr1 rfl mO kO bO .nil ai (a8 (pv 0) (a8 aa a9)))) (ag (aj (ad g2 hr rfl m2 k2 b2 .nil ai (a8 (am ak (pv 0) aa fun _ _=>rfl) (a8 (am ak (pv 0) aa fun _ _=>rfl) (a8 (am ak (pv 0) aa fun _ _=>rfl) a9)))))) az)
  (ae (aK (PW.pt (cv (br (aU (ad gO hr1 rfl mO kO bO .nil ai (a8 (pv 0) (a8 aa a9))))) (ck (aw (ko hu0) (am ak (pv 0) aa fun _ _=>rfl) aA (aq _))))) (ag (aj cB)) az)
  (ag (aj (aM (ad gC hr2 rfl mC kC bC .nil ai (a8 (am ak (pv 0) aa fun _ _=>rfl) a9)) (aM (ad gC hr2 rfl mC kC bC .nil ai (a8 (am ak (pv 0) aa fun _ _=>rfl) a9)) (aW (ad gI hr67 rfl mI kI bI .nil ai (a8 (am ak (pv 0) aa fun _ _=>rfl) a9))))))))),?_⟩
 refine ⟨_,rfl,v,p,2,rfl,hv,_,rfl,?_⟩
 rcases vO p with ⟨a,b,rfl⟩|⟨a,b,c,rfl⟩|⟨a,b,c,d,rfl⟩|⟨t2,t3,t4,es⟩
 · obtain ⟨r,x,y,rfl,g,hx,hy⟩:=pl2 hv
   rw [show toB 2 (.tup [a,b])=true from rfl]
   refine iteT ⟨_,rfl,r,_,0,_,rfl,rfl,SqT.of g,rfl,_,rfl,r,_,1,_,rfl,rfl,SqT.of g,rfl,x,y,a,b,rfl,hx,hy,lN ok b (by simp),ib (n:=20) hd b (by simp),k⟩
 · obtain ⟨r,x,y,z,rfl,g,hx,hy,hz⟩:=pl3 hv
   rw [show toB 2 (.tup [a,b,c])=false from rfl]
   refine iteF ⟨_,rfl, .ref r,_,3,rfl,hv,_,rfl,?_⟩
   rw [show toB 3 (.tup [a,b,c])=true from rfl]
   refine iteT ⟨_,rfl,r,_,0,_,rfl,rfl,SqT.of g,rfl,_,rfl,r,_,1,_,rfl,rfl,SqT.of g,rfl,_,rfl,r,_,2,_,rfl,rfl,SqT.of g,rfl,x,y,z,a,b,c,rfl,hx,hy,hz,lN ok b (by simp),lN ok c (by simp),ib (n:=20) hd b (by simp),ib (n:=20) hd c (by simp),k⟩
 · obtain ⟨r,x,y,z,u,rfl,g,hx,hy,hz,hu⟩:=pl4 hv
   rw [show toB 2 (.tup [a,b,c,d])=false from rfl]
   refine iteF ⟨_,rfl, .ref r,_,3,rfl,hv,_,rfl,?_⟩
   rw [show toB 3 (.tup [a,b,c,d])=false from rfl]
   refine iteF ⟨_,rfl, .ref r,_,4,rfl,hv,_,rfl,?_⟩
   rw [show toB 4 (.tup [a,b,c,d])=true from rfl]
   refine iteF ⟨_,rfl,r,_,0,_,rfl,rfl,SqT.of g,rfl,a,_,hx,rfl,_,rfl,?_⟩
   have k3:∀H',Same H H'→Q (.bl (isS (Str.ofString "resolve") a&& (cnB b&& (cnB c&&thB d)))) H':=k
   cases e:isS (Str.ofString "resolve") a with
   |false=>
    rw [e] at k3
    exact iteT (k3 _ (Same.refl H))
   |true=>
    rw [e] at k3
    refine iteF ⟨_,rfl,r,_,1,_,rfl,rfl,SqT.of g,rfl,y,b,rfl,hy,_,rfl,?_⟩
    cases e1:cnB b with
    |false=>
     rw [e1] at k3
     exact iteF (k3 _ (Same.refl H))
    |true=>
     rw [e1] at k3
     refine iteT ⟨_,rfl,r,_,2,_,rfl,rfl,SqT.of g,rfl,z,c,rfl,hz,_,rfl,?_⟩
     cases e2:cnB c with
     |false=>
      rw [e2] at k3
      exact iteF (k3 _ (Same.refl H))
     |true=>
      rw [e2] at k3
      exact iteT ⟨_,rfl,r,_,3,_,rfl,rfl,SqT.of g,rfl,u,d,rfl,hu,lN ok d (by simp),Nat.lt_succ_of_lt (ib (n:=20) hd d (by simp)),k3⟩
 · rw [t2]
   refine iteF ⟨_,rfl,v,_,3,rfl,hv,_,rfl,?_⟩
   rw [t3]
   refine iteF ⟨_,rfl,v,_,4,rfl,hv,_,rfl,?_⟩
   rw [t4]
   have k':=k H (Same.refl H)
   rw [es] at k'
   exact iteT k'
end
open PySem L2 Mth EqD Tre Wd Su
open K23
theorem wF {r:R2} {v:V} {te:TE} {σ:L2.St} {H:Hp} {Q:VK} (h:te σ H fun y H2=>r v y H2 Q):tOp r (tC v) te σ H Q:=h
theorem rT (bs:List Bool):((bs.any fun x=>x==false)==false)=bs.all id:=by
 induction bs with
 |nil=>rfl
 |cons b bs ih=>
  rw [List.any_cons,List.all_cons,←ih]
  cases b<;>simp
section
variable {P:Program} {w:World} {K:PySem.W.Frag} {mg:Str→Option Value} {base:Heap}
def spLn:Sp:=fun vs H Q _=>∃(v:V) (p:Pl),vs= [v]∧PlAt H v p∧Q (.bl (cnB p)) H
theorem scLn:ax ["_law_thing_here"] ["_law_thing_here"] (af sLNb):=⟨rfl,rfl,rfl,by decide +kernel,rfl,by decide +kernel,by decide +kernel⟩
theorem xv {f:Addr} {fd:FuncData} (F:Fun K "_law_is_number" "_law_is_number" sLNb f fd) (B:Blt mg):FnOk P w K mg base CX0 1 f fd ["_law_thing_here"] spLn:=by
 refine F.ok scLn (fun vs H Q E h=> ?_) (fun cdv A outer s H vs Q E hr h=> ?_)
 · obtain ⟨v,p,rfl,_⟩:=h
   rfl
 obtain ⟨v,p,rfl,hv,k⟩:=h
 refine ⟨_,ag (aj (aM (ar (r:=rIsi K) aS rfl B.isi ay (a8 (pv 0) (a8 (aX (v:= .ty "int") rfl B.it PyProof.Rows.boot_int rfl) a9))) (aM (qW (ar (r:=rIsi K) aS rfl B.isi ay (a8 (pv 0) (a8 (aX (v:= .ty "bool") rfl B.bo PyProof.Rows.boot_bool rfl) a9)))) (aW (aR rD (pv 0) aa (aq _)))))),?_⟩
 refine ⟨_,rfl,v, .ty "int",_,isInt p,rfl,c7 hv, .inl ⟨rfl,oN K p⟩,_,rfl,?_⟩
 cases p with
 |int i=>
  unfold PlAt at hv
  subst hv
  refine iteT ?_
  refine ⟨_,rfl, .int i, .ty "bool",_,isBl (.int i),rfl,c7 (p:= .int i) (by unfold PlAt;rfl), .inl ⟨rfl,ia K _⟩,_,rfl,?_⟩
  refine ⟨_,rfl,iteT ⟨_,rfl,_,_,rfl,rfl,k⟩⟩
 |bl b=>
  refine iteT ?_
  refine ⟨_,rfl,v, .ty "bool",_,isBl (.bl b),rfl,c7 hv, .inl ⟨rfl,ia K _⟩,_,rfl,?_⟩
  exact ⟨_,rfl,iteF k⟩
 |non=>exact iteF k
 |str z=>exact iteF k
 |tup ts=>exact iteF k
 |lst=>exact iteF k
 |dct=>exact iteF k
def spLh:Sp:=fun vs H Q _=>∃(v:V) (p:Pl),vs= [v]∧PlAt H v p∧Ok p∧pdep p < 21∧∀H',Same H H'→Q (.bl (thB p)) H'
theorem scLh:ax ["_law_thing_here"] ["_law_thing_here"] (af sLTh):=⟨rfl,rfl,rfl,by decide +kernel,rfl,by decide +kernel,by decide +kernel⟩
theorem xw {f fW:Addr} {fd dW:FuncData} (F:Fun K "_law_is_thing" "_law_is_thing" sLTh f fd)
 (gW:FnOk P w K mg base CX0 66 fW dW ["thing"] (spWq 21)) (kW:PySem.W.keepIn K (.ref fW)=true) (bW:Binds K dW ["thing"] []) (mW:mg "is_wish"=some (.ref fW)):FnOk P w K mg base CX0 67 f fd ["_law_thing_here"] spLh:=by
 refine F.ok scLh (fun vs H Q E h=> ?_) (fun cdv A outer s H vs Q E hr h=> ?_)
 · obtain ⟨v,p,rfl,_⟩:=h
   rfl
 obtain ⟨v,p,rfl,hv,ok,hd,k⟩:=h
 have hu0:=Nat.lt_of_le_of_lt (Nat.add_le_add_left (show 0≤64 by decide) _) hr.units
 refine ⟨_,ag (aj (aM (ad gW hr rfl mW kW bW .nil ai (a8 (pv 0) a9)) (aW (aR (ko hu0) (am ak (pv 0) aa fun _ _=>rfl) aA (aq _))))),?_⟩
 refine ⟨_,rfl,v,p,rfl,hv,ok,hd,fun H1 s1=>⟨_,rfl,?_⟩⟩
 have k2:∀H',Same H H'→Q (.bl (wsB 21 p&& !hdS "not" p)) H':=k
 cases e:wsB 21 p with
 |false=>
  rw [e] at k2
  exact iteF (k2 _ s1)
 |true=>
  rw [e] at k2
  obtain ⟨a,ts,rfl⟩:=jV e
  obtain ⟨r,x,xs,rfl,g,hx,_⟩:=pl1 (hv.mono (Ke.of_same s1))
  refine iteT ⟨_,rfl,r,_,0,_,rfl,rfl,SqT.of g,bh (j:=0) rfl,a,_,hx,rfl,?_⟩
  exact k2 _ s1
def spLp:Sp:=fun vs H Q _=>∃(v:V) (p:Pl),vs= [v]∧PlAt H v p∧Ok p∧pdep p < 21∧∀H',Same H H'→Q (.bl (prtB p)) H'
theorem scLp:ax ["_law_thing_here"] ["_law_thing_here"] (af sLPt):=⟨rfl,rfl,rfl,by decide +kernel,rfl,by decide +kernel,by decide +kernel⟩
theorem xu {f fW fF:Addr} {fd dW dF:FuncData} (F:Fun K "_law_is_part" "_law_is_part" sLPt f fd) (B:Blt mg)
 (gW:FnOk P w K mg base CX0 66 fW dW ["thing"] (spWq 21)) (kW:PySem.W.keepIn K (.ref fW)=true) (bW:Binds K dW ["thing"] []) (mW:mg "is_wish"=some (.ref fW))
 (gF:FnOk P w K mg base CX0 4 fF dF ["thing"] spFq) (kF:PySem.W.keepIn K (.ref fF)=true) (bF:Binds K dF ["thing"] []) (mF:mg "is_fraction"=some (.ref fF)):FnOk P w K mg base CX0 67 f fd ["_law_thing_here"] spLp:=by
 refine F.ok scLp (fun vs H Q E h=> ?_) (fun cdv A outer s H vs Q E hr h=> ?_)
 · obtain ⟨v,p,rfl,_⟩:=h
   rfl
 obtain ⟨v,p,rfl,hv,ok,hd,k⟩:=h
 have hr4:Room 4 _:=hr.mono (by decide)
 have hu0:=Nat.lt_of_le_of_lt (Nat.add_le_add_left (show 0≤64 by decide) _) hr.units
 refine ⟨_,ae (aK (PW.pt (cv (br (aU (ar (r:=rIsi K) aS rfl B.isi ay (a8 (pv 0) (a8 (aX (v:= .ty "tuple") rfl B.tu PyProof.Rows.boot_tuple rfl) a9))))) (cv (aw rA (ar aF rfl B.le PySem.boot_len (a8 (pv 0) a9)) aa (aq _)) (ck (br (aU (ar (r:=rIsi K) aS rfl B.isi ay (a8 (am ak (pv 0) aa fun _ _=>rfl) (a8 (aX (v:= .ty "bool") rfl B.bo PyProof.Rows.boot_bool rfl) a9))))))))) (ag (aj cB)) az)
  (ag (aj (aM (ad gW hr rfl mW kW bW .nil ai (a8 (am ak (pv 0) aa fun _ _=>rfl) a9)) (aM (aR (bK hu0) (am ak (am ak (pv 0) aa fun _ _=>rfl) aa fun _ _=>rfl) aA (aq _)) (aM (ad gF hr4 rfl mF kF bF .nil ai (a8 (am ak (pv 0) aa fun _ _=>rfl) a9)) (aW (aR dY (am ak (am ak (pv 0) aa fun _ _=>rfl) aa fun _ _=>rfl) aa (aq _)))))))),?_⟩
 refine ⟨_,rfl,v, .ty "tuple",_,cD p,rfl,c7 hv, .inl ⟨rfl,cg K p⟩,_,rfl,?_⟩
 cases p with
 |tup ts=>
  refine iteF ?_
  by_cases l3:ts.length=3
  · obtain ⟨a,t,c,e⟩:=to3 (p:= .tup ts) (by show decide ((ts.length:Int)=3)=true;exact decide_eq_true (by omega))
    cases e
    obtain ⟨r,x,y,z,rfl,g,hx,hy,hz⟩:=pl3 hv
    obtain ⟨oa,ot,oc⟩:=ok3 ok
    obtain ⟨da,dt,dc⟩:=dep3 (n:=20) hd
    have k2:∀H',Same H H'→Q (.bl (wsB 21 a&& (hdS "most" a&& (isBl t&& (frB c&&posB c))))) H':=k
    refine ⟨_,rfl,r,_,rfl, .inr (SqT.of g),rfl,_,rfl,?_⟩
    refine iteF ?_
    refine ⟨_,rfl,r,_,1,_,rfl,rfl,SqT.of g,rfl,y, .ty "bool",_,isBl t,rfl,c7 hy, .inl ⟨rfl,ia K t⟩,_,rfl,?_⟩
    cases eb:isBl t with
    |false=>
     rw [eb] at k2
     have k3:=k2 H (Same.refl H)
     rw [Bool.false_and,Bool.and_false,Bool.and_false] at k3
     exact iteT k3
    |true=>
     rw [eb] at k2
     refine iteF ?_
     refine ⟨_,rfl,r,_,0,_,rfl,rfl,SqT.of g,rfl,x,a,rfl,hx,oa,by omega,fun H1 s1=>⟨_,rfl,?_⟩⟩
     cases e:wsB 21 a with
     |false=>
      rw [e] at k2
      exact iteF (k2 _ s1)
     |true=>
      rw [e] at k2
      obtain ⟨a0,ts,rfl⟩:=jV e
      obtain ⟨q,x0,xs,rfl,gq,hx0,_⟩:=pl1 (hx.mono (Ke.of_same s1))
      refine iteT ⟨_,rfl,r,_,0,_,rfl,rfl,SqT.of (s1 _ _ g),rfl,q,_,0,_,rfl,rfl,SqT.of gq,bh (j:=0) rfl,a0,_,hx0,rfl,_,rfl,?_⟩
      have eh:hdS (Str.ofString "most") (.tup (a0::ts))=isS (Str.ofString "most") a0:=rfl
      rw [eh] at k2
      cases em:isS (Str.ofString "most") a0 with
      |false=>
       rw [em] at k2
       exact iteF (k2 _ s1)
      |true=>
       rw [em] at k2
       refine iteT ⟨_,rfl,r,_,2,_,rfl,rfl,SqT.of (s1 _ _ g),rfl,z,c,rfl,hz.mono (Ke.of_same s1),oc.big,fun H2 s2=>⟨_,rfl,?_⟩⟩
       have s12:=s1.trans s2
       cases ef:frB c with
       |false=>
        rw [ef] at k2
        exact iteF (k2 _ s12)
       |true=>
        rw [ef] at k2
        obtain ⟨i,j,rfl⟩:=kK ef
        obtain ⟨q2,y1,y2,rfl,gq2,h1,h2⟩:=pl2 (hz.mono (Ke.of_same s12))
        unfold PlAt at h1 h2
        subst h1 h2
        refine iteT ⟨_,rfl,r,_,2,_,rfl,rfl,SqT.of (s12 _ _ g),rfl,q2,_,0,_,rfl,rfl,SqT.of gq2,rfl,_,_,rfl,rfl,?_⟩
        exact k2 _ s12
  · have hv':=hv
    unfold PlAt at hv'
    obtain ⟨r,xs,rfl,g,hT⟩:=hv'
    have tl:=hT.len
    have k':=k H (Same.refl H)
    rw [qQ (p:= .tup ts) (by show decide ((ts.length:Int)=3)=false;exact decide_eq_false (by omega))] at k'
    refine ⟨_,rfl,r,_,rfl, .inr (SqT.of g),rfl,_,rfl,?_⟩
    have e:(!decide (V.int ((xs.length:Nat):Int)=V.int 3))=true:=by
     rw [decide_eq_false (fun z=>by injection z with z;omega)]
     rfl
    rw [e]
    exact iteT (iteT k')
 |non=>exact iteT (iteT (k H (Same.refl H)))
 |bl b=>exact iteT (iteT (k H (Same.refl H)))
 |int i=>exact iteT (iteT (k H (Same.refl H)))
 |str z=>exact iteT (iteT (k H (Same.refl H)))
 |lst=>exact iteT (iteT (k H (Same.refl H)))
 |dct=>exact iteT (iteT (k H (Same.refl H)))
noncomputable def alB (n:Int) (b:Pl→Bool):Pl→Bool
 | .tup ts=> !decide ((ts.length:Int) < n)&&ts.all b
 |_=>false
def iO (fA:Addr) (b:Pl→Bool):Sp:=fun vs H Q _=>∃(v:V) (p:Pl) (n:Int),vs= [v, .int n, .ref fA]∧PlAt H v p∧Ok p∧pdep p < 21∧∀H',Same H H'→Q (.bl (alB n b p)) H'
theorem wT:ax ["_law_things","_law_least","_law_asked"] ["_law_things","_law_least","_law_asked"] (af jD):=⟨rfl,rfl,rfl,by decide +kernel,rfl,by decide +kernel,by decide +kernel⟩
theorem ny {f fA:Addr} {fd dA:FuncData} {nA:Nat} {x:Str} {spA:Sp} {b:Pl→Bool} (F:Fun K "_law_is_all" "_law_is_all" jD f fd) (B:Blt mg) (hn:nA≤67)
 (gA:FnOk P w K mg base CX0 nA fA dA [x] spA) (kA:PySem.W.keepIn K (.ref fA)=true) (bA:Binds K dA [x] [])
 (hA:∀v p H Q E,PlAt H v p→Ok p→pdep p < 20→(∀H',Same H H'→Q (.bl (b p)) H')→spA [v] H Q E):FnOk P w K mg base CX0 68 f fd ["_law_things","_law_least","_law_asked"] (iO fA b):=by
 refine F.ok wT (fun vs H Q E h=> ?_) (fun cdv A outer s H vs Q E hr h=> ?_)
 · obtain ⟨v,p,n,rfl,_⟩:=h
   rfl
 obtain ⟨v,p,n,rfl,hv,ok,hd,k⟩:=h
 have hrA:Room nA _:=hr.mono hn
 have hu50:_+50 < cLine:=Nat.lt_of_le_of_lt (Nat.add_le_add_left (show 50≤64 by decide) _) hr.units
 refine ⟨_,ae (aK (PW.pt (cv (br (aU (ar (r:=rIsi K) aS rfl B.isi ay (a8 (pv 0) (a8 (aX (v:= .ty "tuple") rfl B.tu PyProof.Rows.boot_tuple rfl) a9))))) (ck (aw lL (ar aF rfl B.le PySem.boot_len (a8 (pv 0) a9)) (pv 1) (aq _))))) (ag (aj cB)) az)
  (ag (aj (aR (ug hu50) cB (bx (NC:= ["_law_one","_law_asked"]) (mp:= [none,some 2]) rfl (fj (pv 0)) (fun _ _ _ _ _=>aQ (i:=0) (show (["_law_one","_law_asked"]:List Str).Nodup by decide +kernel) rfl (Or.inl rfl)) (fun _ _ _ _ _=>bp) (fun _ _ _ _ _=>rj (i:=1) gA hrA rfl (by first|exact Or.inl rfl|exact Or.inr (Or.inl rfl)|exact Or.inr (Or.inr rfl)) kA bA .nil ai (a8 (pv 0) a9))) (by with_unfolding_all rfl)))),?_⟩
 have hL20:(20000:Nat)≤sizeLine:=by decide +kernel
 refine ⟨_,rfl,v, .ty "tuple",_,cD p,rfl,c7 hv, .inl ⟨rfl,cg K p⟩,_,rfl,?_⟩
 cases p with
 |tup ts=>
  have hv':=hv
  unfold PlAt at hv'
  obtain ⟨r,xs,rfl,g,hT⟩:=hv'
  have tl:=hT.len
  have okt:ts.length≤1000∧Oks ts:=by
   unfold Ok at ok
   exact ok
  have k2:∀H',Same H H'→Q (.bl (!decide ((ts.length:Int) < n)&&ts.all b)) H':=k
  refine iteF ?_
  refine ⟨_,rfl,r,xs,rfl, .inr (SqT.of g),_,rfl,_,_,rfl,rfl,_,rfl,?_⟩
  rw [tl]
  by_cases l:(ts.length:Int) < n
  · rw [decide_eq_true l] at k2 ⊢
    exact iteT (k2 _ (Same.refl H))
  · rw [decide_eq_false l] at k2 ⊢
    refine iteF ?_
    refine gj ?_
    dsimp only
    refine eg ?_
    refine wF ?_
    refine bn rfl ?_
    refine ⟨_,rfl,r,rfl,⟨xs,SqT.of g⟩,fun L nL=> ?_⟩
    refine dl (xs:=xs) (fun i acc H'=>Same H H'∧H' L=some (.lst acc)∧acc=((ts.take i).map b).map V.bl) ⟨ah nL,ac,rfl⟩ (fun i acc H' p=>SqT.of (p.1 _ _ g)) ?_ ?_
    · rintro i x acc H1 hi ex ⟨s1,hD,rfl⟩
      obtain ⟨t,et,ht⟩:=hT.get' ex
      have mt:=List.mem_of_getElem? et
      refine ⟨rfl,_,rfl,hA x t H1 _ _ (ht.mono (Ke.of_same s1)) (fm okt.2 mt) (ib (n:=20) hd t mt) fun H2 s2=> ?_⟩
      refine CompN.mk hi ?_ (s2 _ _ hD) ⟨cu nL (s1.trans s2),ac,?_⟩
      · rw [List.length_map,List.length_map,List.length_take]
        omega
      · rw [List.take_add_one,et]
        simp
    rintro acc H1 ⟨s1,hL,rfl⟩
    rw [tl,List.take_length] at hL
    refine ⟨L,_,_, .bl false,rfl, .inl hL,tI,by unfold TrAt;rfl,pW,by simp [Tr.pure],?_⟩
    rw [oZ,rT,show ((ts.map b).all id)=ts.all b by rw [List.all_map];rfl]
    exact k2 _ s1
 |non=>exact iteT (iteT (k H (Same.refl H)))
 |bl b=>exact iteT (iteT (k H (Same.refl H)))
 |int i=>exact iteT (iteT (k H (Same.refl H)))
 |str z=>exact iteT (iteT (k H (Same.refl H)))
 |lst=>exact iteT (iteT (k H (Same.refl H)))
 |dct=>exact iteT (iteT (k H (Same.refl H)))
end
open PySem L2 Mth EqD Tre Wd Su
open K23
noncomputable def l1B (f:Pl→Bool):List Pl→Bool
 | [a]=>f a
 |_=>false
noncomputable def l2B (f:Pl→Pl→Bool):List Pl→Bool
 | [a,b]=>f a b
 |_=>false
noncomputable def l3B (f:Pl→Pl→Pl→Bool):List Pl→Bool
 | [a,b,c]=>f a b c
 |_=>false
noncomputable def lsB (x:Str) (ts:List Pl):Bool:=
 if isS "wish" (.str x)=true then l1B cnB ts else
 if isS "open" (.str x)=true then l2B (fun a b=>thB a&&cnB b) ts else
 if isS "resolve" (.str x)=true then l3B (fun a b c=>alB 2 cnB (.tup [a,b])&&thB c) ts else
 if isS "sum" (.str x)=true then l1B (alB 1 prtB) ts else
 if isS "chain" (.str x)=true then l1B (alB 3 (tmB 20)) ts else
 if isS "self" (.str x)=true then l1B (tmB 20) ts else
 (kinds.any fun z=>isS z (.str x))&&l2B (fun a b=>alB 2 (tmB 20) (.tup [a,b])) ts
theorem jK {z x:Str} (h:isS z (.str x)=true):x=z:=eq_of_beq h
theorem jS (a:Pl):alB 1 prtB a=psB a:=by
 cases a with
 |tup ts=>
  show (!decide ((ts.length:Int) < 1)&&ts.all prtB)=(decide (0 < ts.length)&&ts.all prtB)
  by_cases h:0 < ts.length
  · rw [decide_eq_true h,decide_eq_false (show¬(ts.length:Int) < 1 by omega)]
    rfl
  · rw [decide_eq_false h,decide_eq_true (show (ts.length:Int) < 1 by omega)]
    rfl
 |_=>rfl
theorem jT (a:Pl):alB 3 (tmB 20) a=chB a:=by
 cases a with
 |tup ts=>
  show (!decide ((ts.length:Int) < 3)&&ts.all (tmB 20))=(decide (3≤ts.length)&&ts.all (tmB 20))
  by_cases h:3≤ts.length
  · rw [decide_eq_true h,decide_eq_false (show¬(ts.length:Int) < 3 by omega)]
    rfl
  · rw [decide_eq_false h,decide_eq_true (show (ts.length:Int) < 3 by omega)]
    rfl
 |_=>rfl
theorem al_2 (f:Pl→Bool) (a b:Pl):alB 2 f (.tup [a,b])=(f a&&f b):=by
 show (!decide ((2:Int) < 2)&& [a,b].all f)=_
 simp
theorem n1 {ts:List Pl} (h:¬ts.length=1) (f:Pl→Bool):l1B f ts=false:=by
 match ts with
 | []=>rfl
 | [x]=>exact absurd rfl h
 |x::y::r=>rfl
theorem n2 {ts:List Pl} (h:¬ts.length=2) (f:Pl→Pl→Bool):l2B f ts=false:=by
 match ts with
 | []=>rfl
 | [x]=>rfl
 | [x,y]=>exact absurd rfl h
 |x::y::z::r=>rfl
theorem n3 {ts:List Pl} (h:¬ts.length=3) (f:Pl→Pl→Pl→Bool):l3B f ts=false:=by
 match ts with
 | []=>rfl
 | [x]=>rfl
 | [x,y]=>rfl
 | [x,y,z]=>exact absurd rfl h
 |x::y::z::u::r=>rfl
theorem wd0:isS (Str.ofString "wish") (.str (Str.ofString "open"))=false:=by decide +kernel
theorem wd1:isS (Str.ofString "wish") (.str (Str.ofString "resolve"))=false:=by decide +kernel
theorem wd2:isS (Str.ofString "wish") (.str (Str.ofString "sum"))=false:=by decide +kernel
theorem wd3:isS (Str.ofString "wish") (.str (Str.ofString "chain"))=false:=by decide +kernel
theorem wd4:isS (Str.ofString "wish") (.str (Str.ofString "self"))=false:=by decide +kernel
theorem wd5:isS (Str.ofString "wish") (.str (Str.ofString "wish"))=true:=by decide +kernel
theorem wd6:isS (Str.ofString "open") (.str (Str.ofString "open"))=true:=by decide +kernel
theorem wd7:isS (Str.ofString "open") (.str (Str.ofString "resolve"))=false:=by decide +kernel
theorem wd8:isS (Str.ofString "open") (.str (Str.ofString "sum"))=false:=by decide +kernel
theorem wd9:isS (Str.ofString "open") (.str (Str.ofString "chain"))=false:=by decide +kernel
theorem wd10:isS (Str.ofString "open") (.str (Str.ofString "self"))=false:=by decide +kernel
theorem wd11:isS (Str.ofString "open") (.str (Str.ofString "wish"))=false:=by decide +kernel
theorem wd12:isS (Str.ofString "resolve") (.str (Str.ofString "open"))=false:=by decide +kernel
theorem wd13:isS (Str.ofString "resolve") (.str (Str.ofString "resolve"))=true:=by decide +kernel
theorem wd14:isS (Str.ofString "resolve") (.str (Str.ofString "sum"))=false:=by decide +kernel
theorem wd15:isS (Str.ofString "resolve") (.str (Str.ofString "chain"))=false:=by decide +kernel
theorem wd16:isS (Str.ofString "resolve") (.str (Str.ofString "self"))=false:=by decide +kernel
theorem wd17:isS (Str.ofString "resolve") (.str (Str.ofString "wish"))=false:=by decide +kernel
theorem wd18:isS (Str.ofString "sum") (.str (Str.ofString "open"))=false:=by decide +kernel
theorem wd19:isS (Str.ofString "sum") (.str (Str.ofString "resolve"))=false:=by decide +kernel
theorem wd20:isS (Str.ofString "sum") (.str (Str.ofString "sum"))=true:=by decide +kernel
theorem wd21:isS (Str.ofString "sum") (.str (Str.ofString "chain"))=false:=by decide +kernel
theorem wd22:isS (Str.ofString "sum") (.str (Str.ofString "self"))=false:=by decide +kernel
theorem wd23:isS (Str.ofString "sum") (.str (Str.ofString "wish"))=false:=by decide +kernel
theorem wd24:isS (Str.ofString "chain") (.str (Str.ofString "open"))=false:=by decide +kernel
theorem wd25:isS (Str.ofString "chain") (.str (Str.ofString "resolve"))=false:=by decide +kernel
theorem wd26:isS (Str.ofString "chain") (.str (Str.ofString "sum"))=false:=by decide +kernel
theorem wd27:isS (Str.ofString "chain") (.str (Str.ofString "chain"))=true:=by decide +kernel
theorem wd28:isS (Str.ofString "chain") (.str (Str.ofString "self"))=false:=by decide +kernel
theorem wd29:isS (Str.ofString "chain") (.str (Str.ofString "wish"))=false:=by decide +kernel
theorem wd30:isS (Str.ofString "self") (.str (Str.ofString "open"))=false:=by decide +kernel
theorem wd31:isS (Str.ofString "self") (.str (Str.ofString "resolve"))=false:=by decide +kernel
theorem wd32:isS (Str.ofString "self") (.str (Str.ofString "sum"))=false:=by decide +kernel
theorem wd33:isS (Str.ofString "self") (.str (Str.ofString "chain"))=false:=by decide +kernel
theorem wd34:isS (Str.ofString "self") (.str (Str.ofString "self"))=true:=by decide +kernel
theorem wd35:isS (Str.ofString "self") (.str (Str.ofString "wish"))=false:=by decide +kernel
theorem wd36:(kinds.any fun z=>isS z (.str (Str.ofString "open")))=false:=by decide +kernel
theorem wd37:(kinds.any fun z=>isS z (.str (Str.ofString "resolve")))=false:=by decide +kernel
theorem wd38:(kinds.any fun z=>isS z (.str (Str.ofString "sum")))=false:=by decide +kernel
theorem wd39:(kinds.any fun z=>isS z (.str (Str.ofString "chain")))=false:=by decide +kernel
theorem wd40:(kinds.any fun z=>isS z (.str (Str.ofString "self")))=false:=by decide +kernel
theorem wd41:(kinds.any fun z=>isS z (.str (Str.ofString "wish")))=false:=by decide +kernel
theorem xG (x:Str) (ts:List Pl):lsB x ts=stB (.tup (.str x::ts)):=by
 have key:x=Str.ofString "wish"∨x=Str.ofString "open"∨x=Str.ofString "resolve"∨x=Str.ofString "sum"∨x=Str.ofString "chain"∨x=Str.ofString "self"∨(isS (Str.ofString "wish") (.str x)=false∧isS (Str.ofString "open") (.str x)=false∧isS (Str.ofString "resolve") (.str x)=false∧isS (Str.ofString "sum") (.str x)=false∧isS (Str.ofString "chain") (.str x)=false∧isS (Str.ofString "self") (.str x)=false):=by
  have f:∀z:Str,isS z (.str x)=true∨isS z (.str x)=false:=fun z=>by cases isS z (.str x)<;>simp
  rcases f (Str.ofString "wish") with h|h1
  · exact .inl (jK h)
  rcases f (Str.ofString "open") with h|h2
  · exact .inr (.inl (jK h))
  rcases f (Str.ofString "resolve") with h|h3
  · exact .inr (.inr (.inl (jK h)))
  rcases f (Str.ofString "sum") with h|h4
  · exact .inr (.inr (.inr (.inl (jK h))))
  rcases f (Str.ofString "chain") with h|h5
  · exact .inr (.inr (.inr (.inr (.inl (jK h)))))
  rcases f (Str.ofString "self") with h|h6
  · exact .inr (.inr (.inr (.inr (.inr (.inl (jK h))))))
  exact .inr (.inr (.inr (.inr (.inr (.inr ⟨h1,h2,h3,h4,h5,h6⟩)))))
 unfold lsB
 match ts with
 | []=>
  show _=false
  rcases key with rfl|rfl|rfl|rfl|rfl|rfl|⟨h1,h2,h3,h4,h5,h6⟩
  all_goals first|(simp only [h1,h2,h3,h4,h5,h6,Bool.false_eq_true,if_false,l1B,l2B,l3B,Bool.and_false];done)|(simp only [wd0,wd1,wd2,wd3,wd4,wd5,wd6,wd7,wd8,wd9,wd10,wd11,wd12,wd13,wd14,wd15,wd16,wd17,wd18,wd19,wd20,wd21,wd22,wd23,wd24,wd25,wd26,wd27,wd28,wd29,wd30,wd31,wd32,wd33,wd34,wd35,wd36,wd37,wd38,wd39,wd40,wd41,Bool.false_eq_true,if_true,if_false,Bool.true_and,Bool.false_and,Bool.and_true,Bool.and_false,l1B,l2B,l3B,jS,jT,al_2,ite_self])
 | [a]=>
  show _=o1B (.str x) a
  unfold o1B
  rcases key with rfl|rfl|rfl|rfl|rfl|rfl|⟨h1,h2,h3,h4,h5,h6⟩
  all_goals first|(simp only [h1,h2,h3,h4,h5,h6,Bool.false_eq_true,if_false,l1B,l2B,l3B,Bool.and_false,Bool.false_and];done)|(simp only [wd0,wd1,wd2,wd3,wd4,wd5,wd6,wd7,wd8,wd9,wd10,wd11,wd12,wd13,wd14,wd15,wd16,wd17,wd18,wd19,wd20,wd21,wd22,wd23,wd24,wd25,wd26,wd27,wd28,wd29,wd30,wd31,wd32,wd33,wd34,wd35,wd36,wd37,wd38,wd39,wd40,wd41,Bool.false_eq_true,if_true,if_false,Bool.true_and,Bool.false_and,Bool.and_true,Bool.and_false,l1B,l2B,l3B,jS,jT,al_2,ite_self])
 | [a,b]=>
  show _=o2B (.str x) a b
  unfold o2B
  rcases key with rfl|rfl|rfl|rfl|rfl|rfl|⟨h1,h2,h3,h4,h5,h6⟩
  all_goals first|(simp only [h1,h2,h3,h4,h5,h6,Bool.false_eq_true,if_false,l1B,l2B,l3B,al_2,Bool.and_false,Bool.false_and];done)|(simp only [wd0,wd1,wd2,wd3,wd4,wd5,wd6,wd7,wd8,wd9,wd10,wd11,wd12,wd13,wd14,wd15,wd16,wd17,wd18,wd19,wd20,wd21,wd22,wd23,wd24,wd25,wd26,wd27,wd28,wd29,wd30,wd31,wd32,wd33,wd34,wd35,wd36,wd37,wd38,wd39,wd40,wd41,Bool.false_eq_true,if_true,if_false,Bool.true_and,Bool.false_and,Bool.and_true,Bool.and_false,l1B,l2B,l3B,jS,jT,al_2,ite_self])
 | [a,b,c]=>
  show _=(isS (Str.ofString "resolve") (.str x)&& (cnB a&& (cnB b&&thB c)))
  rcases key with rfl|rfl|rfl|rfl|rfl|rfl|⟨h1,h2,h3,h4,h5,h6⟩
  all_goals first|(simp only [h1,h2,h3,h4,h5,h6,Bool.false_eq_true,if_false,l1B,l2B,l3B,al_2,Bool.and_false,Bool.false_and];done)|((simp only [wd0,wd1,wd2,wd3,wd4,wd5,wd6,wd7,wd8,wd9,wd10,wd11,wd12,wd13,wd14,wd15,wd16,wd17,wd18,wd19,wd20,wd21,wd22,wd23,wd24,wd25,wd26,wd27,wd28,wd29,wd30,wd31,wd32,wd33,wd34,wd35,wd36,wd37,wd38,wd39,wd40,wd41,Bool.false_eq_true,if_true,if_false,Bool.true_and,Bool.false_and,Bool.and_true,Bool.and_false,l1B,l2B,l3B,jS,jT,al_2,ite_self]);done)|((simp only [wd0,wd1,wd2,wd3,wd4,wd5,wd6,wd7,wd8,wd9,wd10,wd11,wd12,wd13,wd14,wd15,wd16,wd17,wd18,wd19,wd20,wd21,wd22,wd23,wd24,wd25,wd26,wd27,wd28,wd29,wd30,wd31,wd32,wd33,wd34,wd35,wd36,wd37,wd38,wd39,wd40,wd41,Bool.false_eq_true,if_true,if_false,Bool.true_and,Bool.false_and,Bool.and_true,Bool.and_false,l1B,l2B,l3B,jS,jT,al_2,ite_self]);rw [Bool.and_assoc])
 |a::b::c::d::r=>
  show _=false
  rcases key with rfl|rfl|rfl|rfl|rfl|rfl|⟨h1,h2,h3,h4,h5,h6⟩
  all_goals first|(simp only [h1,h2,h3,h4,h5,h6,Bool.false_eq_true,if_false,l1B,l2B,l3B,Bool.and_false];done)|(simp only [wd0,wd1,wd2,wd3,wd4,wd5,wd6,wd7,wd8,wd9,wd10,wd11,wd12,wd13,wd14,wd15,wd16,wd17,wd18,wd19,wd20,wd21,wd22,wd23,wd24,wd25,wd26,wd27,wd28,wd29,wd30,wd31,wd32,wd33,wd34,wd35,wd36,wd37,wd38,wd39,wd40,wd41,Bool.false_eq_true,if_true,if_false,Bool.true_and,Bool.false_and,Bool.and_true,Bool.and_false,l1B,l2B,l3B,jS,jT,al_2,ite_self])
theorem qz {k:Pl} (h:lV k=false) (ts:List Pl):stB (.tup (k::ts))=false:=by
 have f:∀z:Str,isS z k=false:=fun z=>by cases k<;>first|rfl|cases h
 have g:(kinds.any fun z=>isS z k)=false:=by
  simp only [f]
  rfl
 match ts with
 | []=>rfl
 | [a]=>
  show o1B k a=false
  unfold o1B
  simp only [f,Bool.false_eq_true,if_false,Bool.false_and]
 | [a,b]=>
  show o2B k a b=false
  unfold o2B
  rw [f,if_neg Bool.false_ne_true,g,Bool.false_and]
 | [a,b,c]=>
  show (isS (Str.ofString "resolve") k&& (cnB a&& (cnB b&&thB c)))=false
  simp only [f,Bool.false_and]
 |a::b::c::d::r=>rfl
open PySem L2 Mth EqD Tre Wd Su
open K23
theorem t7 {x:V} {xs:List V}:cutV (x::xs) (some 1) none=xs:=by rw [cut1];rfl
theorem uQ {a b c:V}:cutV [a,b,c] none (some 2)= [a,b]:=rfl
section
variable {P:Program} {w:World} {K:PySem.W.Frag} {mg:Str→Option Value} {base:Heap}
def qD:Sp:=fun vs H Q _=>∃(v:V) (p:Pl),vs= [v]∧PlAt H v p∧Ok p∧pdep p < 21∧∀H',Same H H'→Q (.bl (stB p)) H'
theorem scLst:ax ["_law_thing_here","_law_word","_law_rest"] ["_law_thing_here"] (af sLSt):=⟨rfl,rfl,rfl,by decide +kernel,rfl,by decide +kernel,by decide +kernel⟩
theorem w6 {f fN fH fA fP fT:Addr} {fd dN dH dA dP dT:FuncData} (F:Fun K "_law_is_step" "_law_is_step" sLSt f fd) (B:Blt mg)
 (gN:FnOk P w K mg base CX0 1 fN dN ["_law_thing_here"] spLn) (kN:PySem.W.keepIn K (.ref fN)=true) (bN:Binds K dN ["_law_thing_here"] []) (mN:mg "_law_is_number"=some (.ref fN))
 (gH:FnOk P w K mg base CX0 67 fH dH ["_law_thing_here"] spLh) (kH:PySem.W.keepIn K (.ref fH)=true) (bH:Binds K dH ["_law_thing_here"] []) (mH:mg "_law_is_thing"=some (.ref fH))
 (mP:mg "_law_is_part"=some (.ref fP))
 (gT:FnOk P w K mg base CX0 41 fT dT ["thing"] (spTm 20)) (kT:PySem.W.keepIn K (.ref fT)=true) (bT:Binds K dT ["thing"] []) (mT:mg "is_term"=some (.ref fT))
 (gA1:FnOk P w K mg base CX0 68 fA dA ["_law_things","_law_least","_law_asked"] (iO fN cnB))
 (gA2:FnOk P w K mg base CX0 68 fA dA ["_law_things","_law_least","_law_asked"] (iO fP prtB))
 (gA3:FnOk P w K mg base CX0 68 fA dA ["_law_things","_law_least","_law_asked"] (iO fT (tmB 20)))
 (kA:PySem.W.keepIn K (.ref fA)=true) (bA:Binds K dA ["_law_things","_law_least","_law_asked"] []) (mA:mg "_law_is_all"=some (.ref fA)):FnOk P w K mg base CX0 69 f fd ["_law_thing_here"] qD:=by
 refine F.ok scLst (fun vs H Q E h=> ?_) (fun cdv A outer s H vs Q E hr h=> ?_)
 · obtain ⟨v,p,rfl,_⟩:=h
   rfl
 obtain ⟨v,p,rfl,hv,ok,hd,k⟩:=h
 have hr1:Room 1 _:=hr.mono (by decide)
 have hr41:Room 41 _:=hr.mono (by decide)
 have hr67:Room 67 _:=hr.mono (by decide)
 have hu0:=Nat.lt_of_le_of_lt (Nat.add_le_add_left (show 0≤64 by decide) _) hr.units
 have hu1:=lX hr
 refine ⟨_,ae (aK (PW.pt (cv (br (aU (ar (r:=rIsi K) aS rfl B.isi ay (a8 (pv 0) (a8 (aX (v:= .ty "tuple") rfl B.tu PyProof.Rows.boot_tuple rfl) a9))))) (cv (aw lL (ar aF rfl B.le PySem.boot_len (a8 (pv 0) a9)) aa (aq _)) (ck (br (aU (ar (r:=rIsi K) aS rfl B.isi ay (a8 (am ak (pv 0) aa fun _ _=>rfl) (a8 (aX (v:= .ty "str") rfl B.st PyProof.Rows.boot_str rfl) a9))))))))) (ag (aj cB)) az)
  (ae (aD (i:=1) scLst.nd rfl (Or.inl rfl) (am ak (pv 0) aa fun _ _=>rfl))
  (ae (aD (i:=2) scLst.nd rfl (Or.inl rfl) (cb SlW.sl_A (pv 0) (cw aa) cy))
  (ae (aK (aw (bK hu0) (pv 1) aA (aq _)) (ag (aj (aM (aR be (ar aF rfl B.le PySem.boot_len (a8 (pv 2) a9)) aa (aq _)) (aW (ad gN hr1 rfl mN kN bN .nil ai (a8 (am ak (pv 2) aa fun _ _=>rfl) a9)))))) az)
  (ae (aK (aw (bK hu0) (pv 1) aA (aq _)) (ag (aj (aM (aR be (ar aF rfl B.le PySem.boot_len (a8 (pv 2) a9)) aa (aq _)) (aM (ad gH hr67 rfl mH kH bH .nil ai (a8 (am ak (pv 2) aa fun _ _=>rfl) a9)) (aW (ad gN hr1 rfl mN kN bN .nil ai (a8 (am ak (pv 2) aa fun _ _=>rfl) a9))))))) az)
  (ae (aK (aw (bK hu0) (pv 1) aA (aq _)) (ag (aj (aM (aR be (ar aF rfl B.le PySem.boot_len (a8 (pv 2) a9)) aa (aq _)) (aM (ad gA1 hr rfl mA kA bA .nil ai (a8 (cb SlW.sl_A (pv 2) cy (cw aa)) (a8 aa (a8 (cz (v:= .ref fN) rfl mN rfl) a9)))) (aW (ad gH hr67 rfl mH kH bH .nil ai (a8 (am ak (pv 2) aa fun _ _=>rfl) a9))))))) az)
  (ae (aK (aw (bK hu0) (pv 1) aA (aq _)) (ag (aj (aM (aR be (ar aF rfl B.le PySem.boot_len (a8 (pv 2) a9)) aa (aq _)) (aW (ad gA2 hr rfl mA kA bA .nil ai (a8 (am ak (pv 2) aa fun _ _=>rfl) (a8 aa (a8 (cz (v:= .ref fP) rfl mP rfl) a9)))))))) az)
  (ae (aK (aw (bK hu0) (pv 1) aA (aq _)) (ag (aj (aM (aR be (ar aF rfl B.le PySem.boot_len (a8 (pv 2) a9)) aa (aq _)) (aW (ad gA3 hr rfl mA kA bA .nil ai (a8 (am ak (pv 2) aa fun _ _=>rfl) (a8 aa (a8 (cz (v:= .ref fT) rfl mT rfl) a9)))))))) az)
  (ae (aK (aw (bK hu0) (pv 1) aA (aq _)) (ag (aj (aM (aR be (ar aF rfl B.le PySem.boot_len (a8 (pv 2) a9)) aa (aq _)) (aW (ad gT hr41 rfl mT kT bT .nil ai (a8 (am ak (pv 2) aa fun _ _=>rfl) a9)))))) az)
  (ag (aj (aM (aR (rC hu1) (pv 1) (aH (a8 aA (a8 aA (a8 aA (a8 aA a9))))) (by with_unfolding_all rfl)) (aM (aR be (ar aF rfl B.le PySem.boot_len (a8 (pv 2) a9)) aa (aq _)) (aW (ad gA3 hr rfl mA kA bA .nil ai (a8 (pv 2) (a8 aa (a8 (cz (v:= .ref fT) rfl mT rfl) a9))))))))))))))))),?_⟩
 refine ⟨_,rfl,v, .ty "tuple",_,cD p,rfl,c7 hv, .inl ⟨rfl,cg K p⟩,_,rfl,?_⟩
 cases p with
 |tup ts0=>
  refine iteF ?_
  have hv':=hv
  unfold PlAt at hv'
  obtain ⟨r,xs0,rfl,g,hT0⟩:=hv'
  have tl:=hT0.len
  refine ⟨_,rfl,r,_,rfl, .inr (SqT.of g),_,_,rfl,rfl,_,rfl,?_⟩
  match ts0,hT0,ok,hd,k,tl,hv with
  | [],hT0,ok,hd,k,tl,hv=>
   rw [tl]
   refine if_t (by decide) ?_
   exact k H (Same.refl H)
  | [k0],hT0,ok,hd,k,tl,hv=>
   rw [tl]
   refine if_t (by show decide ((1:Int) < 2)=true;decide) ?_
   exact k H (Same.refl H)
  |k0::t1::tr,hT0,ok,hd,k,tl,hv=>
   rw [tl]
   refine if_f (decide_eq_false (by rw [List.length_cons,List.length_cons];omega)) ?_
   obtain ⟨x0,xs,rfl,hx0,hT⟩:=hT0.inv
   refine ⟨_,rfl,r,_,0,_,rfl,rfl,SqT.of g,bh (j:=0) rfl,x0, .ty "str",_,lV k0,rfl,c7 hx0, .inl ⟨rfl,oM K k0⟩,_,rfl,?_⟩
   cases es:lV k0 with
   |false=>
    have k':=k H (Same.refl H)
    rw [qz es] at k'
    exact iteT k'
   |true=>
   obtain ⟨x,rfl⟩:∃x,k0= .str x:=by cases k0<;>first|exact ⟨_,rfl⟩|cases es
   have hx0':=hx0
   unfold PlAt at hx0'
   subst hx0'
   rw [←xG] at k
   have okr:∀t∈t1::tr,Ok t:=fun t m=>lN ok t (List.mem_cons_of_mem _ m)
   have dpr:∀t∈t1::tr,pdep t < 20:=fun t m=>ib (n:=20) hd t (List.mem_cons_of_mem _ m)
   have okl:(t1::tr).length≤1000:=by
    unfold Ok at ok
    have:=ok.1
    rw [List.length_cons] at this
    omega
   have okT':Ok (.tup (t1::tr)):=by
    unfold Ok at ok ⊢
    refine ⟨okl,?_⟩
    have:=ok.2
    unfold Oks at this
    exact this.2
   have dpT:pdep (.tup (t1::tr)) < 21:=by
    have h2:=hd
    unfold pdep at h2 ⊢
    unfold psdep at h2
    omega
   generalize t1::tr=ts at hT okr dpr okl okT' dpT k
   clear hd ok hv
   refine iteF ?_
   refine ⟨_,rfl,r,_,0,_,rfl,rfl,SqT.of g,bh (j:=0) rfl,?_⟩
   refine ⟨_,rfl,_,rfl,r,_,rfl,g,fun q H1 s1 gq=> ?_⟩
   rw [t7] at gq
   have hT1:=hT.mono (Ke.of_same s1)
   have tl1:=hT1.len
   have k1:∀H',Same H1 H'→Q (.bl (lsB x ts)) H':=fun H' s'=>k H' (s1.trans s')
   have hw:PlAt H1 (.str x) (.str x):=by unfold PlAt;rfl
   have hq:PlAt H1 (.ref q) (.tup ts):=by unfold PlAt;exact ⟨q,xs,rfl,gq,hT1⟩
   clear k hT g tl s1
   have len:∀ {n:Nat},¬ts.length=n→decide (V.int ((xs.length:Nat):Int)=V.int (n:Int))=false:=fun {n} h=>decide_eq_false (fun z=>by injection z with z;omega)
   unfold lsB at k1
   refine aI ?_
   refine ⟨_,rfl,_,_,hw,rfl,_,rfl,?_⟩
   cases e1:isS (Str.ofString "wish") (.str x) with
   |true=>
    simp only [e1,if_true] at k1
    refine iteT ?_
    refine ⟨_,rfl,q,xs,rfl, .inr (SqT.of gq),rfl,_,rfl,?_⟩
    by_cases l:ts.length=1
    · match ts,l,hT1,okr,dpr,k1,tl1 with
      | [a],_,hT1,okr,dpr,k1,tl1=>
       obtain ⟨y,ys,rfl,hy,h0⟩:=hT1.inv
       unfold PlsAt at h0
       subst h0
       exact iteT ⟨_,rfl,q,_,0,_,rfl,rfl,SqT.of gq,rfl,y,a,rfl,hy,k1 _ (Same.refl _)⟩
    · rw [show ((1:Int))=((1:Nat):Int) from rfl,len l]
      rw [n1 l] at k1
      exact iteF (k1 _ (Same.refl _))
   |false=>
   simp only [e1,Bool.false_eq_true,if_false] at k1
   refine iteF ?_
   refine ⟨_,rfl,_,_,hw,rfl,_,rfl,?_⟩
   cases e2:isS (Str.ofString "open") (.str x) with
   |true=>
    simp only [e2,if_true] at k1
    refine iteT ?_
    refine ⟨_,rfl,q,xs,rfl, .inr (SqT.of gq),rfl,_,rfl,?_⟩
    by_cases l:ts.length=2
    · match ts,l,hT1,okr,dpr,k1,tl1 with
      | [a,b],_,hT1,okr,dpr,k1,tl1=>
       obtain ⟨y,ys,rfl,hy,h0⟩:=hT1.inv
       obtain ⟨z,zs,rfl,hz,h0⟩:=h0.inv
       unfold PlsAt at h0
       subst h0
       refine iteT ⟨_,rfl,q,_,0,_,rfl,rfl,SqT.of gq,rfl,y,a,rfl,hy,okr a (by simp),Nat.lt_succ_of_lt (dpr a (by simp)),fun H2 s2=>⟨_,rfl,?_⟩⟩
       have k2:Q (.bl (thB a&&cnB b)) H2:=k1 _ s2
       cases et:thB a with
       |false=>
        rw [et] at k2
        exact iteF k2
       |true=>
        rw [et] at k2
        exact iteT ⟨_,rfl,q,_,1,_,rfl,rfl,SqT.of (s2 _ _ gq),rfl,z,b,rfl,hz.mono (Ke.of_same s2),k2⟩
    · rw [show ((2:Int))=((2:Nat):Int) from rfl,len l]
      rw [n2 l] at k1
      exact iteF (k1 _ (Same.refl _))
   |false=>
   simp only [e2,Bool.false_eq_true,if_false] at k1
   refine iteF ?_
   refine ⟨_,rfl,_,_,hw,rfl,_,rfl,?_⟩
   cases e3:isS (Str.ofString "resolve") (.str x) with
   |true=>
    simp only [e3,if_true] at k1
    refine iteT ?_
    refine ⟨_,rfl,q,xs,rfl, .inr (SqT.of gq),rfl,_,rfl,?_⟩
    by_cases l:ts.length=3
    · match ts,l,hT1,okr,dpr,k1,tl1,dpT with
      | [a,b,c],_,hT1,okr,dpr,k1,tl1,dpT=>
       obtain ⟨y,ys,rfl,hy,h0⟩:=hT1.inv
       obtain ⟨z,zs,rfl,hz,h0⟩:=h0.inv
       obtain ⟨u,us,rfl,hu,h0⟩:=h0.inv
       unfold PlsAt at h0
       subst h0
       refine iteT ⟨_,rfl,_,rfl,q,_,rfl,gq,fun q2 H2 s2 gq2=> ?_⟩
       rw [uQ] at gq2
       have hab:PlAt H2 (.ref q2) (.tup [a,b]):=by
        unfold PlAt
        exact ⟨q2,_,rfl,gq2, .cons (hy.mono (Ke.of_same s2)) (.cons (hz.mono (Ke.of_same s2)) .nil)⟩
       have d1:=dpr a (by simp)
       have d2:=dpr b (by simp)
       refine ⟨.ref q2, .tup [a,b],2,rfl,hab,?_,?_,fun H3 s3=>⟨_,rfl,?_⟩⟩
       · unfold Ok
         refine ⟨by simp,?_⟩
         unfold Oks Oks Oks
         exact ⟨okr a (by simp),okr b (by simp),trivial⟩
       · simp only [pdep,psdep]
         omega
       have k2:Q (.bl (alB 2 cnB (.tup [a,b])&&thB c)) H3:=k1 _ (s2.trans s3)
       cases et:alB 2 cnB (.tup [a,b]) with
       |false=>
        rw [et] at k2
        exact iteF k2
       |true=>
        rw [et] at k2
        exact iteT ⟨_,rfl,q,_,2,_,rfl,rfl,SqT.of ((s2.trans s3) _ _ gq),rfl,u,c,rfl,hu.mono (Ke.of_same (s2.trans s3)),okr c (by simp),Nat.lt_succ_of_lt (dpr c (by simp)),fun H4 s4=>by
         have:=k1 _ ((s2.trans s3).trans s4)
         simp only [l3B,et,Bool.true_and] at this
         exact this⟩
    · rw [show ((3:Int))=((3:Nat):Int) from rfl,len l]
      rw [n3 l] at k1
      exact iteF (k1 _ (Same.refl _))
   |false=>
   simp only [e3,Bool.false_eq_true,if_false] at k1
   refine iteF ?_
   refine ⟨_,rfl,_,_,hw,rfl,_,rfl,?_⟩
   cases e4:isS (Str.ofString "sum") (.str x) with
   |true=>
    simp only [e4,if_true] at k1
    refine iteT ?_
    refine ⟨_,rfl,q,xs,rfl, .inr (SqT.of gq),rfl,_,rfl,?_⟩
    by_cases l:ts.length=1
    · match ts,l,hT1,okr,dpr,k1,tl1 with
      | [a],_,hT1,okr,dpr,k1,tl1=>
       obtain ⟨y,ys,rfl,hy,h0⟩:=hT1.inv
       unfold PlsAt at h0
       subst h0
       exact iteT ⟨_,rfl,q,_,0,_,rfl,rfl,SqT.of gq,rfl,y,a,1,rfl,hy,okr a (by simp),Nat.lt_succ_of_lt (dpr a (by simp)),fun H2 s2=>k1 _ s2⟩
    · rw [show ((1:Int))=((1:Nat):Int) from rfl,len l]
      rw [n1 l] at k1
      exact iteF (k1 _ (Same.refl _))
   |false=>
   simp only [e4,Bool.false_eq_true,if_false] at k1
   refine iteF ?_
   refine ⟨_,rfl,_,_,hw,rfl,_,rfl,?_⟩
   cases e5:isS (Str.ofString "chain") (.str x) with
   |true=>
    simp only [e5,if_true] at k1
    refine iteT ?_
    refine ⟨_,rfl,q,xs,rfl, .inr (SqT.of gq),rfl,_,rfl,?_⟩
    by_cases l:ts.length=1
    · match ts,l,hT1,okr,dpr,k1,tl1 with
      | [a],_,hT1,okr,dpr,k1,tl1=>
       obtain ⟨y,ys,rfl,hy,h0⟩:=hT1.inv
       unfold PlsAt at h0
       subst h0
       exact iteT ⟨_,rfl,q,_,0,_,rfl,rfl,SqT.of gq,rfl,y,a,3,rfl,hy,okr a (by simp),Nat.lt_succ_of_lt (dpr a (by simp)),fun H2 s2=>k1 _ s2⟩
    · rw [show ((1:Int))=((1:Nat):Int) from rfl,len l]
      rw [n1 l] at k1
      exact iteF (k1 _ (Same.refl _))
   |false=>
   simp only [e5,Bool.false_eq_true,if_false] at k1
   refine iteF ?_
   refine ⟨_,rfl,_,_,hw,rfl,_,rfl,?_⟩
   cases e6:isS (Str.ofString "self") (.str x) with
   |true=>
    simp only [e6,if_true] at k1
    refine iteT ?_
    refine ⟨_,rfl,q,xs,rfl, .inr (SqT.of gq),rfl,_,rfl,?_⟩
    by_cases l:ts.length=1
    · match ts,l,hT1,okr,dpr,k1,tl1 with
      | [a],_,hT1,okr,dpr,k1,tl1=>
       obtain ⟨y,ys,rfl,hy,h0⟩:=hT1.inv
       unfold PlsAt at h0
       subst h0
       exact iteT ⟨_,rfl,q,_,0,_,rfl,rfl,SqT.of gq,rfl,y,a,rfl,hy,(okr a (by simp)).sm,dpr a (by simp),fun H2 s2=>k1 _ s2⟩
    · rw [show ((1:Int))=((1:Nat):Int) from rfl,len l]
      rw [n1 l] at k1
      exact iteF (k1 _ (Same.refl _))
   |false=>
   simp only [e6,Bool.false_eq_true,if_false] at k1
   refine iteF ?_
   refine ⟨_,rfl,by show 4≤sizeLine;decide,fun z nz=> ?_⟩
   have sz:=ah (o:= .tup [.str (Str.ofString "turn"), .str (Str.ofString "calls"), .str (Str.ofString "level"), .str (Str.ofString "meet")]) nz
   refine ⟨.str x,kinds,z,by unfold PlAt;rfl,rfl,SqT.of ac,_,rfl,?_⟩
   cases e7:(kinds.any fun z=>isS z (.str x)) with
   |false=>
    rw [e7] at k1
    exact iteF (k1 _ sz)
   |true=>
    rw [e7] at k1
    refine iteT ⟨_,rfl,q,xs,rfl, .inr (SqT.of (sz _ _ gq)),rfl,_,rfl,?_⟩
    by_cases l:ts.length=2
    · match ts,l,hT1,okr,dpr,k1,tl1,hq,okT',dpT with
      | [a,b],_,hT1,okr,dpr,k1,tl1,hq,okT',dpT=>
       rw [show decide (V.int ((xs.length:Nat):Int)=V.int 2)=true from decide_eq_true (by rw [tl1];rfl)]
       exact iteT ⟨_,rfl, .ref q,_,2,rfl,hq.mono (Ke.of_same sz),okT',dpT,fun H2 s2=>k1 _ (sz.trans s2)⟩
    · rw [show ((2:Int))=((2:Nat):Int) from rfl,len l]
      rw [n2 l] at k1
      exact iteF (k1 _ sz)
 |non=>exact iteT (iteT (k H (Same.refl H)))
 |bl b=>exact iteT (iteT (k H (Same.refl H)))
 |int i=>exact iteT (iteT (k H (Same.refl H)))
 |str z=>exact iteT (iteT (k H (Same.refl H)))
 |lst=>exact iteT (iteT (k H (Same.refl H)))
 |dct=>exact iteT (iteT (k H (Same.refl H)))
end
end K23P
namespace Tre
open PySem L2
noncomputable def dd1 (acc:List Tr) (t:Tr):List Tr:=match acc.getLast? with
 |none=>acc++ [t]
 |some l=>if eqT l t=true then acc else acc++ [t]
noncomputable def dd (ts:List Tr):List Tr:=ts.foldl dd1 []
end Tre
namespace K23
open PySem L2 Mth Tre
theorem boot_sorted:bootBuiltins "sorted"=some (.builtin "sorted"):=PyProof.Rows.boot_sorted
section
variable {P:Program} {w:World} {K:PySem.W.Frag} {mg:Str→Option Value} {base:Heap}
end
open PySem L2 Mth Tre
def Bd (n:Nat) (x:Int):Prop:=x.natAbs < 2^(201*n)
theorem Bd.big {n:Nat} {x:Int} (h:Bd n x) (hn:n≤3):Big x:=Nat.lt_of_lt_of_le h (Nat.pow_le_pow_right (by decide) (by omega))
theorem Bd.mono {m n:Nat} {x:Int} (h:Bd m x) (hn:m≤n):Bd n x:=Nat.lt_of_lt_of_le h (Nat.pow_le_pow_right (by decide) (by omega))
theorem lB {a b c d:Int} (hb:0 < b) (hd:0 < d):0 < pY a b c d:=by
 have g0:(0:Int) < (Int.gcd b d:Int):=by
  have:=Int.gcd_pos_of_ne_zero_right b (show d≠0 by omega)
  omega
 have e0:(0:Int) < pE a b c d:=by
  have:=Int.gcd_pos_of_ne_zero_right (pT a b c d) (show (Int.gcd b d:Int)≠0 by omega)
  unfold pE
  omega
 unfold pY
 have h1:0 < b / (Int.gcd b d:Int):=Int.ediv_pos_of_pos_of_dvd hb (by omega) (Int.gcd_dvd_left b d)
 have h2:0 < d / pE a b c d:=by
  refine Int.ediv_pos_of_pos_of_dvd hd (by omega) ?_
  unfold pE
  exact Int.dvd_trans (Int.gcd_dvd_right (pT a b c d) (Int.gcd b d:Int)) (Int.gcd_dvd_right b d)
 exact Int.mul_pos h1 h2
def Pr (n:Nat) (t:Tr):Prop:=∃(tm:Tr) (a b:Int),t= .tup [tm, .tup [.int a, .int b]]∧Ty .tm tm∧tm.depth≤5∧0 < b∧Bd n a∧Bd n b
theorem Pr.ty {n:Nat} {t:Tr} (h:Pr n t):Ty .pr t∧t.depth≤6:=by
 obtain ⟨tm,a,b,rfl,h1,h2,_⟩:=h
 refine ⟨.pr _ _ h1 (.fr a b),?_⟩
 simp only [Tr.depth,Trs.depth]
 omega
theorem Pr.mono {m n:Nat} {t:Tr} (h:Pr m t) (hn:m≤n):Pr n t:=by
 obtain ⟨tm,a,b,e,h1,h2,h3,h4,h5⟩:=h
 exact ⟨tm,a,b,e,h1,h2,h3,h4.mono hn,h5.mono hn⟩
end K23
namespace Tre
open PySem L2
end Tre
namespace K23
open PySem L2 Mth Tre Su
def Pi (t:Tr):Prop:=∃(tm:Tr) (a b:Int),t= .tup [tm, .tup [.int a, .int b]]∧Ty .tm tm∧tm.depth≤5∧0 < b∧a.natAbs < 2^200∧b.natAbs < 2^200
theorem p200 {x:Int} (h:x.natAbs < 2^200):Bd 1 x:=Nat.lt_of_lt_of_le h (Nat.pow_le_pow_right (by decide) (by decide))
theorem Pi.pr {t:Tr} (h:Pi t):Pr 1 t:=by
 obtain ⟨tm,a,b,e,h1,h2,h3,h4,h5⟩:=h
 exact ⟨tm,a,b,e,h1,h2,h3,p200 h4,p200 h5⟩
section
variable {P:Program} {w:World} {K:PySem.W.Frag} {mg:Str→Option Value} {base:Heap}
theorem xK {t:Tr} (h:Wd.Gp t):Ty .pr t∧t.depth≤6:=by
 obtain ⟨tm,f,rfl,h1,h2,_⟩:=h
 refine ⟨.pr _ _ h1 (.fr _ _),?_⟩
 simp only [Tr.depth,Trs.depth,Wd.frT]
 omega
end
open PySem L2 Mth Tre Wd Su
section
variable {P:Program} {w:World} {K:PySem.W.Frag} {mg:Str→Option Value} {base:Heap}
def gx:Sp:=fun vs H Q _=>∃(l:Addr) (ws:List V) (ps:List Pq) (n e:Nat),vs= [.ref l]∧H l=some (.lst ws)∧TrsAt H ws (ps.map prT)∧ps.length≤n∧n < 64∧n*(e+1)≤8000∧(∀p∈ps,Gq e p)∧
 ∀(v:V) (H':Hp) (us:List Pq),Same H H'→TrAt H' v (.tup (us.map prT))→Can ps us→us.length≤ps.length→(∀u∈us,Gq (n*(e+1)) u)→Q v H'
theorem scSumX:ax ["pairs","totals","term","share"] ["pairs"] (af sSum):=⟨rfl,rfl,rfl,by decide +kernel,rfl,by decide +kernel,by decide +kernel⟩
theorem um {f fP Z:Addr} {fd fdP:FuncData} (F:Fun K "sum_of" "sum_of" sSum f fd) (B:Blt mg) (GP:FnOk P w K mg base CX0 2 fP fdP ["one","other"] (gy K)) (kP:PySem.W.keepIn K (.ref fP)=true) (bP:Binds K fdP ["one","other"] []) (mP:mg "plus"=some (.ref fP))
 (mZ:mg "ZERO"=some (.ref Z)) (hZ:∀H:Hp,SqT K H Z [.int 0, .int 1]):FnOk P w K mg base CX0 3 f fd ["pairs"] gx:=by
 refine F.ok scSumX (fun vs H Q E h=> ?_) (fun cdv A outer s H vs Q E hr h=> ?_)
 · obtain ⟨l,ws,ps,n,e,rfl,_⟩:=h
   rfl
 obtain ⟨l,ws,ps,n,e,rfl,hl,hT,hn,n64,hne,hty,k⟩:=h
 have hun:=hr.units
 have hu1:=lX hr
 refine ⟨_,ae (aD (i:=1) scSumX.nd rfl (Or.inl rfl) (cm a9))
  (ae (iT PassesOwn.never rfl (fK (ar (mr (Nat.lt_of_le_of_lt (Nat.add_le_add_left (by decide) _) hun)) rfl B.so PyProof.Rows.boot_sorted (a8 (pv 0) a9))) (iV rfl (c9 (aQ (i:=2) scSumX.nd rfl (Or.inl rfl)) (c9 (aQ (i:=3) scSumX.nd rfl (Or.inl rfl)) fU)))
   (ag (aK (PW.pt (dy (qN (pv 1) (by intro _;rfl)) (dw (aw (rE (Nat.lt_of_le_of_lt (Nat.add_le_add_left (by decide) _) hun)) (am ak (am aT (pv 1) (cV cr aa) fun _ _=>rfl) aa fun _ _=>rfl) (pv 2) (aq _)))))
    (ag (iU (aH (a8 (pv 2) (a8 (ad GP hr rfl mP kP bP .nil ai (a8 (am ak (am aT (pv 1) (cV cr aa) fun _ _=>rfl) aa fun _ _=>rfl) (a8 (pv 3) a9))) a9))) (nn (pv 1) (cV cr aa) iR)))
    (ag (eY (iX PySem.F.plainAttrs_list PySem.F.slot_list_append PySem.F.type_list_append cN (pv 1) (a8 (aH (a8 (pv 2) (a8 (pv 3) a9))) a9)))))))
  (ag (aj (bE bu rfl B.tu PyProof.Rows.boot_tuple (a8
   (bx (NC:= ["total"]) (mp:= [none]) rfl (fK (pv 1)) (fun _ _ _ _ _=>aQ (i:=0) (by simp) rfl (Or.inl rfl)) (fun _ _ _ _ _=>ub (aw (r:=rNeP K) (rz hu1) (am (r:=rIxT K) ak (pv 0) aa fun _ _=>rfl) (cz (v:= .ref Z) rfl mZ rfl) (aq _))) (fun _ _ _ _ _=>pv 0)) a9))))),?_⟩
 have hL:(20000:Nat)≤sizeLine:=by decide +kernel
 refine ⟨by show 0≤sizeLine;decide,fun D nD=> ?_⟩
 have s1:Same H (upd H D (.lst [])):=ah nD
 have tyT:∀t∈ps.map prT,Ty .pr t∧t.depth≤8:=fun t m=>by
  obtain ⟨p,mp,rfl⟩:=List.mem_map.mp m
  exact (hty p mp).pr
 refine ⟨_,rfl,l,ws,_,rfl,s1 _ _ hl,hT.mono (Kd.of_same s1),by rw [List.length_map];omega,fun t m=>⟨wA (.inr (tyT t m).1),c5 (tyT t m).1,by have:=(tyT t m).2;omega⟩,fun t m u mu=>uX 30 (by have:=(tyT t m).2;omega) (tyT t m).1 (tyT u mu).1,fun S ws' us nS pm hT' srt=> ?_⟩
 obtain ⟨qs,rfl,pq⟩:=qV pm rfl
 have s2:=ah (o:= .lst ws') nS
 have nS0:=s1.free nS
 have nDS:D≠S:=fun z=>by rw [←z,ac] at nS;cases nS
 have ul:qs.length=ps.length:=pq.length_eq
 have wl:=hT'.len
 rw [List.length_map] at wl
 have hty':∀t∈qs,Gq e t:=fun t m=>hty t (pq.mem_iff.mp m)
 have ord:∀(i:Nat) (u:Pq),qs[i]?=some u→∀d∈qs.take i,ltT u.1 d.1=false:=by
  intro i u eu d md
  obtain ⟨j,hj,ej⟩:=List.getElem_of_mem md
  rw [List.length_take] at hj
  have ej':qs[j]?=some d:=by
   rw [List.getElem_take] at ej
   rw [←ej]
   exact List.getElem?_eq_getElem _
  exact uF (srt j i _ _ (by omega) (by rw [List.getElem?_map,ej'];rfl) (by rw [List.getElem?_map,eu];rfl))
 refine ⟨S,rfl,⟨ws',SqL.of ac⟩,?_⟩
 refine fZ (xs:=ws') (fun i σ H'=>Same H H'∧H' S=some (.lst ws')∧TrsAt H' ws' (qs.map prT)∧∃(rs:List V) (trs:List Pq) (v2 v3:Option V),σ= [some (.ref l),some (.ref D),v2,v3]∧H' D=some (.lst rs)∧TrsAt H' rs (trs.map prT)∧Run (qs.take i) trs∧(∀t∈trs,Gq (i*(e+1)) t)∧trs.length≤i)
  ⟨s1.trans s2,ac,hT'.mono (Kd.of_same s2),[],[],none,none,rfl,s2 _ _ ac, .nil,by rw [List.take_zero];exact Run.nil,(fun t m=>by cases m),Nat.le_refl _⟩ (fun i σ H' _ p=>SqL.of p.2.1) ?_ ?_
 · rintro i x σ H' ex ⟨sH,hS,hTS,rs,trs,v2,v3,rfl,hD,hR,hRun,hRt,hRl⟩
   obtain ⟨u,eu,hu⟩:=hTS.get' ex
   rw [List.getElem?_map] at eu
   obtain ⟨⟨tm,fr⟩,eq,rfl⟩:=Option.map_eq_some_iff.mp eu
   have mu:=List.mem_of_getElem? eq
   have ilt:i < qs.length:=(List.getElem?_eq_some_iff.mp eq).1
   have gu:=hty' _ mu
   obtain ⟨r,xt,xf,rfl,hr',hxt,hxf⟩:=dz hu
   obtain ⟨rf,rfl,hrf⟩:=cH hxf
   have rl:=hR.len
   rw [List.length_map] at rl
   have etk:=iG eq
   have ei:(i+1)*(e+1)=i*(e+1)+e+1:=by rw [Nat.succ_mul];omega
   have ile:i*(e+1)≤8000:=Nat.le_trans (Nat.mul_le_mul_right _ (by omega)) hne
   have e8:e≤8000:=by
    have:1*(e+1)≤n*(e+1):=Nat.mul_le_mul_right _ (by omega)
    omega
   refine ⟨r,_,rfl,SqT.of hr',rfl,_,_,rfl,_,_,rfl,rfl,?_⟩
   have app:(∀p∈trs,ltT p.1 tm=true)→∀p,H' p=none→Same H (upd (upd H' p (.tup [xt, .ref rf])) D (.lst (rs++ [.ref p])))∧(upd (upd H' p (.tup [xt, .ref rf])) D (.lst (rs++ [.ref p]))) S=some (.lst ws')∧TrsAt (upd (upd H' p (.tup [xt, .ref rf])) D (.lst (rs++ [.ref p]))) ws' (qs.map prT)∧
    ∃(rs':List V) (trs':List Pq) (v2' v3':Option V),[some (V.ref l),some (.ref D),some xt,some (.ref rf)]= [some (.ref l),some (.ref D),v2',v3']∧(upd (upd H' p (.tup [xt, .ref rf])) D (.lst (rs++ [.ref p]))) D=some (.lst rs')∧TrsAt (upd (upd H' p (.tup [xt, .ref rf])) D (.lst (rs++ [.ref p]))) rs' (trs'.map prT)∧Run (qs.take (i+1)) trs'∧(∀t∈trs',Gq ((i+1)*(e+1)) t)∧trs'.length≤i+1:=by
    intro hlt p np
    have sp:Same H' (upd H' p (.tup [xt, .ref rf])):=ah np
    have hDp:=sp _ _ hD
    have kd:=(Kd.of_same sp).trans (Kd.upd (ys:=rs++ [.ref p]) hDp)
    have hp':(upd (upd H' p (.tup [xt, .ref rf])) D (.lst (rs++ [.ref p]))) p=some (.tup [xt, .ref rf]):=by
     rw [aB (fun z=>by rw [z,hD] at np;cases np)]
     exact ac
    refine ⟨cu nD (sH.trans sp),(aB nDS.symm).trans (sp _ _ hS),hTS.mono kd,_,trs++ [(tm,fr)],_,_,rfl,ac,?_,?_,fun t m=> ?_,by rw [List.length_append];simp only [List.length_cons,List.length_nil];omega⟩
    · rw [List.map_append]
      exact TrsAt.app (.cons (cW hp' (hxt.mono kd) (hxf.mono kd)) .nil) (hR.mono kd)
    · rw [etk]
      exact hRun.app hlt gu.sh
    · rcases List.mem_append.mp m with m|m
      · exact (hRt t m).mono (by omega)
      · rw [List.mem_singleton.mp m]
        exact gu.mono (by omega)
   refine ⟨_,rfl,!rs.isEmpty, .inl ⟨rs,SqL.of hD,rfl⟩,?_⟩
   by_cases z:rs= []
   · have zt:trs= []:=List.length_eq_zero_iff.mp (by rw [←rl,z];rfl)
     rw [z]
     refine iteF ?_
     refine iteF ?_
     rw [←z]
     refine ⟨_,rfl, .inl ⟨rfl,_,SqL.of hD⟩,_,rfl,_,rfl,by show 2≤sizeLine;decide,fun p np=> ?_⟩
     refine ⟨D,rs,_,rfl,rfl,ah np _ _ hD,by omega,?_⟩
     exact app (fun p m=>by rw [zt] at m;cases m) p np
   · have z':rs.isEmpty=false:=by simpa using z
     rw [z']
     refine iteT ?_
     have pos:0 < rs.length:=List.length_pos_iff.mpr z
     have zt:trs≠ []:=fun q=>by rw [q] at rl;simp at rl;exact z rl
     obtain ⟨tr0,⟨tm',fr'⟩,rfl⟩:∃l a,trs=l++ [a]:=⟨trs.dropLast,trs.getLast zt,(List.dropLast_concat_getLast zt).symm⟩
     have rl':rs.length - 1=tr0.length:=by rw [List.length_append,List.length_singleton] at rl;omega
     obtain ⟨y,ey,hy⟩:=hR.get (i:=rs.length - 1) (t:=prT (tm',fr')) (by rw [List.getElem?_map,rl',List.getElem?_append_right (Nat.le_refl _),Nat.sub_self];rfl)
     have gl:=hRt (tm',fr') (List.mem_append_right _ List.mem_cons_self)
     obtain ⟨ry,yt,yf,rfl,hry,hyt,hyf⟩:=dz hy
     obtain ⟨ryf,rfl,hryf⟩:=cH hyf
     obtain ⟨l1,e1⟩:=qp gu.ty
     obtain ⟨l2,e2⟩:=qp gl.ty
     have pu:=c5 gl.ty
     have dd2:=gl.dep
     dsimp only at e1 e2 pu dd2 hxt hyt
     rw [e2] at pu dd2
     unfold Tr.pure at pu
     unfold Tr.depth at dd2
     have eat:=last_at pos ey
     refine ⟨_,rfl,_,rfl,D,rs,-1,_,rfl,rfl,SqL.of hD,eat,ry,_,0,yt,rfl,rfl,SqT.of hry,rfl,_,rfl,l2,l1,by rw [←e2];exact hyt,by rw [←e1];exact hxt, .inl pu,by omega,_,rfl,?_⟩
     cases q:eqTs l2 l1 with
     |true=>
      have em:tm'=tm:=wE gl.ty gu.ty (by rw [e1,e2];unfold eqT;exact q)
      refine iteT ?_
      refine ⟨_,rfl,_,rfl,_,rfl,D,rs,-1,_,rfl,rfl,SqL.of hD,eat,ry,_,1, .ref ryf,rfl,rfl,SqT.of hry,rfl,_,rfl,ryf,rf,_,_,_,_,rfl,SqT.of hryf,SqT.of hrf,⟨gl.gf.pos,gu.gf.pos,gl.gf.top.big ile,gl.gf.bot.big ile,gu.gf.top.big e8,gu.gf.bot.big e8⟩,fun rp H2 nrp sp2 hrp=> ?_⟩
      refine ⟨by show 2≤sizeLine;decide,fun p np=> ?_⟩
      have sp3:Same H' (upd H2 p (.tup [xt, .ref rp])):=sp2.trans (ah np)
      have hD3:=sp3 _ _ hD
      refine ⟨_,rfl,_,rfl,D,rs,-1,rs.length - 1,rfl,rfl,hD3,uG pos,?_⟩
      have kd:=(Kd.of_same sp3).trans (Kd.upd (ys:=rs.set (rs.length - 1) (.ref p)) hD3)
      have nDp:p≠D:=fun z=>by rw [z,sp2 _ _ hD] at np;cases np
      have hp':(upd (upd H2 p (.tup [xt, .ref rp])) D (.lst (rs.set (rs.length - 1) (.ref p)))) p=some (.tup [xt, .ref rp]):=by
       rw [aB nDp]
       exact ac
      have hrp':(upd (upd H2 p (.tup [xt, .ref rp])) D (.lst (rs.set (rs.length - 1) (.ref p)))) rp=some (.tup [.int (eK fr' fr).1, .int (eK fr' fr).2]):=by
       rw [aB (fun z=>by rw [z,sp2 _ _ hD] at hrp;cases hrp)]
       exact ah np _ _ hrp
      refine ⟨cu nD (sH.trans sp3),(aB nDS.symm).trans (sp3 _ _ hS),hTS.mono kd,_,tr0++ [(tm,eK fr' fr)],_,_,rfl,ac,?_,?_,fun t m=> ?_,?_⟩
      · have:=TrsAt.set (i:=rs.length - 1) (cW (b:=frT (eK fr' fr)) hp' (hxt.mono kd) (aY hrp')) (hR.mono kd)
        rw [rl',List.map_append,List.map_cons,List.map_nil,List.set_append_right _ _ (by rw [List.length_map];exact Nat.le_refl _),List.length_map,Nat.sub_self] at this
        rw [rl',List.map_append]
        exact this
      · rw [etk]
        subst em
        exact hRun.add gu.sh
      · rcases List.mem_append.mp m with m|m
        · exact (hRt t (List.mem_append_left _ m)).mono (by omega)
        · rw [List.mem_singleton.mp m]
          exact ⟨gu.ty,gu.dep,by rw [ei];exact gl.gf.plus gu.gf,fz gl.sh gu.sh⟩
      · rw [List.length_append,List.length_singleton] at hRl ⊢
        omega
     |false=>
      have lt1:ltT tm' tm=true:=by
       obtain ⟨d,md,ed⟩:=hRun.key (tm',fr') (List.mem_append_right _ List.mem_cons_self)
       have:=ord i _ eq d md
       rw [ed] at this
       exact xF this (by rw [e1,e2];unfold eqT;exact q)
      refine iteF ?_
      refine ⟨_,rfl, .inl ⟨rfl,_,SqL.of hD⟩,_,rfl,_,rfl,by show 2≤sizeLine;decide,fun p np=> ?_⟩
      refine ⟨D,rs,_,rfl,rfl,ah np _ _ hD,by omega,?_⟩
      refine app (fun p m=> ?_) p np
      rcases List.mem_append.mp m with m|m
      · exact pN ((List.pairwise_append.mp hRun.asc).2.2 p m (tm',fr') List.mem_cons_self) lt1
      · rw [List.mem_singleton.mp m]
        exact lt1
 · rintro σ H' ⟨sH,hS,hTS,rs,trs,v2,v3,rfl,hD,hR,hRun,hRt,hRl⟩
   have rl:=hR.len
   rw [List.length_map] at rl
   rw [wl,ul] at hRl hRt
   rw [wl,List.take_length] at hRun
   dsimp only
   refine jX ?_
   refine pk rfl ?_
   refine ⟨_,rfl,D,rfl,⟨rs,SqL.of hD⟩,fun D2 nD2=> ?_⟩
   have nDD:D≠D2:=aN hD nD2
   refine nU (xs:=rs) (fun i acc H''=>Same H' H''∧H'' D2=some (.lst acc)∧TrsAt H'' acc (((trs.take i).filter fun p=>decide (p.2≠zero)).map prT)) ⟨ah nD2,ac,by rw [List.take_zero];exact .nil⟩ (fun i acc H'' p=>SqL.of (p.1 _ _ hD)) ?_ ?_
   · rintro i x acc H'' hi ex ⟨sH2,hD2,hA⟩
     obtain ⟨t,et,ht⟩:=(hR.mono (Kd.of_same sH2)).get' ex
     rw [List.getElem?_map] at et
     obtain ⟨⟨tm,fr⟩,eq,rfl⟩:=Option.map_eq_some_iff.mp et
     obtain ⟨r,xt,xf,rfl,hr',hxt,hxf⟩:=dz ht
     obtain ⟨rf,rfl,hrf⟩:=cH hxf
     have al:=hA.len
     rw [List.length_map] at al
     have al2:=List.length_filter_le (fun p:Pq=>decide (p.2≠zero)) (trs.take i)
     rw [List.length_take] at al2
     refine ⟨_,rfl,r,_,1, .ref rf,rfl,rfl,SqT.of hr',rfl,rf,Z,fr.1,fr.2,0,1,rfl,rfl,SqT.of hrf,hZ _,_,rfl,?_⟩
     rw [uM]
     have ef:(trs.take (i+1)).filter (fun p=>decide (p.2≠zero))=(trs.take i).filter (fun p=>decide (p.2≠zero))++(if decide (fr≠zero)=true then [(tm,fr)] else []):=by
      rw [iG eq,List.filter_append,List.filter_cons]
      rfl
     refine ite2 (fun y=> ?_) (fun y=>CompS.mk hi ⟨sH2,hD2,?_⟩)
     · have kd:=Kd.upd (ys:=acc++ [.ref r]) hD2
       refine ⟨_,rfl,CompN.mk hi (by omega) hD2 ⟨cu nD2 sH2,ac,?_⟩⟩
       rw [ef,if_pos y,List.map_append]
       exact TrsAt.app (.cons (ht.mono kd) .nil) (hA.mono kd)
     · rw [ef,if_neg y,List.append_nil]
       exact hA
   · rintro acc H'' ⟨sH2,hD2,hA⟩
     rw [rl,List.take_length] at hA
     refine ⟨D2,acc,rfl, .inl ⟨SqL.of hD2,fun p np=> ?_⟩⟩
     have sp:=ah (o:= .tup acc) np
     refine k (.ref p) _ _ (sH.trans (sH2.trans sp)) (at_tup ac (hA.mono (Kd.of_same sp))) (hRun.fin.to fun t=>qm pq) ?_ fun u m=> ?_
     · exact Nat.le_trans (List.length_filter_le _ _) hRl
     · exact (hRt u (List.mem_filter.mp m).1).mono (Nat.mul_le_mul_right _ hn)
end
open PySem L2 Mth Tre Wd Su
section
variable {P:Program} {w:World} {K:PySem.W.Frag} {mg:Str→Option Value} {base:Heap}
def kj:Sp:=fun vs H Q _=>∃(v:V) (b:Fr),vs= [v]∧TrAt H v (frT b)∧∀(u:V) (H':Hp),Same H H'→TrAt H' u (frT (negF b))→Q u H'
theorem scCo:ax ["one"] ["one"] (af i3):=⟨rfl,rfl,rfl,by decide +kernel,rfl,by decide +kernel,by decide +kernel⟩
theorem rO {f:Addr} {fd:FuncData} (F:Fun K "contrary" "contrary" i3 f fd):FnOk P w K mg base CX0 1 f fd ["one"] kj:=by
 refine F.ok scCo (fun vs H Q E h=> ?_) (fun cdv A outer s H vs Q E hr h=> ?_)
 · obtain ⟨v,b,rfl,_⟩:=h
   rfl
 obtain ⟨v,b,rfl,hv,k⟩:=h
 refine ⟨_,ag (aj (aH (a8 (cV cr (am ak (pv 0) aa fun _ _=>rfl)) (a8 (am ak (pv 0) aa fun _ _=>rfl) a9)))),?_⟩
 obtain ⟨r,rfl,hr'⟩:=cH hv
 refine ⟨_,rfl,r,_,0, .int b.1,rfl,rfl,SqT.of hr',rfl,_,rfl,_,rfl,r,_,1, .int b.2,rfl,rfl,SqT.of hr',rfl,by show 2≤sizeLine;decide,fun p np=> ?_⟩
 exact k (.ref p) _ (ah np) (aY ac)
def fw:Sp:=fun vs H Q _=>∃(v u:V) (as:List Pq) (q:Fr) (n e m:Nat),vs= [v,u]∧TrAt H v (.tup (as.map prT))∧TrAt H u (frT q)∧Sh q∧Gf m q∧as.length≤n∧n < 64∧n*(e+m+1)≤8000∧e≤8000∧m≤8000∧Asc as∧(∀p∈as,Gq e p)∧
 ∀(x:V) (H':Hp) (us:List Pq),Same H H'→TrAt H' x (.tup (us.map prT))→Can (as.map (js q)) us→us.length≤as.length→(∀p∈us,Gq (e+m) p)→Q x H'
theorem scST:ax ["one","many"] ["one","many"] (af eW):=⟨rfl,rfl,rfl,by decide +kernel,rfl,by decide +kernel,by decide +kernel⟩
theorem pI {f fS fT:Addr} {fd dS dT:FuncData} (F:Fun K "sum_times" "sum_times" eW f fd)
 (gS:FnOk P w K mg base CX0 3 fS dS ["pairs"] gx) (kS:PySem.W.keepIn K (.ref fS)=true) (bS:Binds K dS ["pairs"] []) (mS:mg "sum_of"=some (.ref fS))
 (gT:FnOk P w K mg base CX0 2 fT dT ["one","other"] (cU K)) (kT:PySem.W.keepIn K (.ref fT)=true) (bT:Binds K dT ["one","other"] []) (mT:mg "times"=some (.ref fT)):FnOk P w K mg base CX0 4 f fd ["one","many"] fw:=by
 refine F.ok scST (fun vs H Q E h=> ?_) (fun cdv A outer s H vs Q E hr h=> ?_)
 · obtain ⟨v,u,as,q,n,e,m,rfl,_⟩:=h
   rfl
 obtain ⟨v,u,as,q,n,e,m,rfl,hv,hu,sq,gq,an,n64,h8,e8,m8,asc,ga,k⟩:=h
 have hr2:Room 2 _:=hr.mono (by omega)
 refine ⟨_,ag (aj (ad gS hr rfl mS kS bS .nil ai (a8 (bx (NC:= ["term","share","many"]) (mp:= [none,none,some 1]) (g:=gTup K 2 (fY (cp 0) (fY (cp 1) gNil))) rfl (fj (pv 0))
  (fun _ _ _ _ _=>iV (n:=2) rfl (c9 (aQ (i:=0) (show (["term","share","many"]:List Str).Nodup by decide +kernel) rfl (Or.inl rfl) (Or.inr rfl)) (c9 (aQ (i:=1) (show (["term","share","many"]:List Str).Nodup by decide +kernel) rfl (Or.inl rfl) (Or.inr rfl)) fU))) (fun _ _ _ _ _=>bp)
  (fun _ _ _ _ _=>aH (a8 (pv 0) (a8 (ad gT hr2 rfl mT kT bT .nil ai (a8 (pv 1) (a8 (pv 2) a9))) a9)))) a9))),?_⟩
 have hL20:(20000:Nat)≤sizeLine:=by decide +kernel
 obtain ⟨a,xs,rfl,ha,hxs⟩:=at_t hv
 obtain ⟨ru,rfl,hru⟩:=cH hu
 have xl:=hxs.len
 rw [List.length_map] at xl
 refine tZ ?_
 refine mG ?_
 refine tf (xs:=xs) (rest:= [some (.ref ru)]) (a:=a) rfl (fun Q q=>⟨_,rfl,q⟩) (SqT.of ha) fun L nL=> ?_
 refine ⟨fun i acc H'=>Same H H'∧H' L=some (.lst acc)∧TrsAt H' acc (((as.take i).map (js q)).map prT),⟨ah nL,ac,by rw [List.take_zero];exact .nil⟩,fun i acc H' p=>SqT.of (p.1 _ _ ha),?_,?_⟩
 · rintro i z acc H' hi ⟨sH,hL,hA⟩ ez
   obtain ⟨t',et,ht'⟩:=(hxs.mono (Kd.of_same sH)).get' ez
   rw [List.getElem?_map] at et
   obtain ⟨⟨tm,fr⟩,eq,rfl⟩:=Option.map_eq_some_iff.mp et
   have g:=ga _ (List.mem_of_getElem? eq)
   obtain ⟨T,x,y,rfl,hT,hx,hy⟩:=dz ht'
   obtain ⟨rf,rfl,hrf⟩:=cH hy
   have al:=hA.len
   rw [List.length_map,List.length_map,List.length_take] at al
   refine ⟨T,x, .ref rf,rfl,SqT.of hT,?_⟩
   refine ⟨_,rfl,_,rfl,_,rfl,rf,ru,fr.1,fr.2,q.1,q.2,rfl,SqT.of hrf,SqT.of (sH _ _ hru),⟨g.gf.pos,gq.pos,g.gf.top.big e8,g.gf.bot.big e8,gq.top.big m8,gq.bot.big m8⟩,fun rm H6 _ s6 hrm=> ?_⟩
   refine ⟨by show 2≤sizeLine;decide,fun p np=> ?_⟩
   have sp:=ah (o:= .tup [x, .ref rm]) np
   have s7:=s6.trans sp
   have hL7:=s7 _ _ hL
   have kd:=(Kd.of_same s7).trans (Kd.upd (ys:=acc++ [.ref p]) hL7)
   have nLp:p≠L:=fun z=>by rw [z,s6 _ _ hL] at np;cases np
   have nLr:rm≠L:=fun z=>by rw [z,s6 _ _ hL] at hrm;cases hrm
   refine CompN.mk hi (by omega) hL7 ⟨cu nL (sH.trans s7),ac,?_⟩
   rw [iG eq,List.map_append,List.map_append]
   refine TrsAt.app (.cons ?_ .nil) (hA.mono kd)
   exact cW (a:=tm) (b:=frT (bZ fr q)) ((aB nLp).trans ac) (hx.mono kd) (aY ((aB nLr).trans (sp _ _ hrm)))
 · rintro acc H' ⟨sH,hL,hA⟩
   rw [xl,List.take_length] at hA
   have hs:∀p∈as,Sh p.2:=fun p m=>(ga p m).sh
   refine ⟨L,acc,as.map (js q),n,e+m,rfl,hL,hA,by rw [List.length_map];exact an,n64,h8,fun p mp=> ?_,fun x H6 us s6 hx hc hl _=> ?_⟩
   · obtain ⟨y,my,rfl⟩:=List.mem_map.mp mp
     have g:=ga y my
     exact ⟨g.ty,g.dep,g.gf.times gq,dh g.sh sq⟩
   · rw [List.length_map] at hl
     exact k x H6 us (sH.trans s6) hx hc hl (hc.scaled sq asc hs ga gq)
def kg:Sp:=fun vs H Q _=>∃(v u:V) (as bs:List Pq) (n e:Nat),vs= [v,u]∧TrAt H v (.tup (as.map prT))∧TrAt H u (.tup (bs.map prT))∧as.length+bs.length≤n∧n < 64∧n*(e+1)≤8000∧(∀p∈as,Gq e p)∧(∀p∈bs,Gq e p)∧
 ∀(x:V) (H':Hp) (us:List Pq),Same H H'→TrAt H' x (.tup (us.map prT))→Can (as++bs) us→us.length≤as.length+bs.length→(∀p∈us,Gq (n*(e+1)) p)→Q x H'
theorem scSP:ax ["one","other"] ["one","other"] (af gY):=⟨rfl,rfl,rfl,by decide +kernel,rfl,by decide +kernel,by decide +kernel⟩
theorem rK {f fS:Addr} {fd dS:FuncData} (F:Fun K "sum_plus" "sum_plus" gY f fd) (B:Blt mg)
 (gS:FnOk P w K mg base CX0 3 fS dS ["pairs"] gx) (kS:PySem.W.keepIn K (.ref fS)=true) (bS:Binds K dS ["pairs"] []) (mS:mg "sum_of"=some (.ref fS)):FnOk P w K mg base CX0 4 f fd ["one","other"] kg:=by
 refine F.ok scSP (fun vs H Q E h=> ?_) (fun cdv A outer s H vs Q E hr h=> ?_)
 · obtain ⟨v,u,as,bs,n,e,rfl,_⟩:=h
   rfl
 obtain ⟨v,u,as,bs,n,e,rfl,hv,hu,hl,n64,h8,ga,gb,k⟩:=h
 refine ⟨_,ag (aj (ad gS hr rfl mS kS bS .nil ai (a8 (aE i7 (bE cM rfl B.li PyProof.Rows.boot_list (a8 (pv 0) a9)) (bE cM rfl B.li PyProof.Rows.boot_list (a8 (pv 1) a9))) a9))),?_⟩
 have hL:(20000:Nat)≤sizeLine:=by decide +kernel
 obtain ⟨a,xs,rfl,ha,hxs⟩:=at_t hv
 obtain ⟨b,ys,rfl,hb,hys⟩:=at_t hu
 have xl:=hxs.len
 have yl:=hys.len
 rw [List.length_map] at xl yl
 refine ⟨_,rfl,a,xs,rfl, .inr (SqT.of ha),fun p np=> ?_⟩
 have s1:=ah (o:= .lst xs) np
 refine ⟨_,rfl,b,ys,rfl, .inr (SqT.of (s1 _ _ hb)),fun q nq=> ?_⟩
 have s2:=ah (o:= .lst ys) nq
 refine ⟨p,q,xs,ys,rfl,rfl,s2 _ _ ac,ac,by omega,fun r nr=> ?_⟩
 have s3:=s1.trans (s2.trans (ah (o:= .lst (xs++ys)) nr))
 refine ⟨r,xs++ys,as++bs,n,e,rfl,ac,?_,by rw [List.length_append];exact hl,n64,h8,fun x mx=> ?_,fun x H' us s4 hx hc hle hg=> ?_⟩
 · rw [List.map_append]
   exact TrsAt.app (hys.mono (Kd.of_same s3)) (hxs.mono (Kd.of_same s3))
 · exact (List.mem_append.mp mx).elim (ga x) (gb x)
 · rw [List.length_append] at hle
   exact k x H' us (s3.trans s4) hx hc hle hg
end
end K23
namespace Tre
open PySem L2
noncomputable def iF:Tr→Option Tr
 | .tup [.str x,w]=>if x=Str.ofString "not" then some w else none
 |_=>none
theorem lh {t w:Tr} (h:iF t=some w):w.depth < t.depth:=by
 unfold iF at h
 split at h
 · split at h
   · cases h
     simp only [Tr.depth,Trs.depth]
     omega
   · cases h
 · cases h
noncomputable def vq:Nat→Tr→Bool→Tr×Bool
 |0,t,b=>(t,b)
 |n+1,t,b=>match iF t with
  |some w=>vq n w (!b)
  |none=>(t,b)
noncomputable def bare (t:Tr) (b:Bool):Tr×Bool:=vq t.depth t b
theorem iE {x:Str} {w:Tr} (h:x≠Str.ofString "not"):iF (.tup [.str x,w])=none:=by
 show (if x=Str.ofString "not" then some w else none)=none
 rw [if_neg h]
theorem p9 (w:Tr):iF (.tup [.str (Str.ofString "not"),w])=some w:=by
 show (if Str.ofString "not"=Str.ofString "not" then some w else none)=some w
 rw [if_pos rfl]
theorem tT {t:Tr} (h:Ty .ws t):∃x r,t= .tup (.str x::r)∧((x=Str.ofString "not"∧∃w,r= [w]∧Ty .ws w∧iF t=some w)∨(x≠Str.ofString "not"∧iF t=none)):=by
 cases h with
 |fl x=>exact ⟨_,_,rfl, .inr ⟨by decide +kernel,iE (by decide +kernel)⟩⟩
 |mo ps f _ _=>exact ⟨_,_,rfl, .inr ⟨by decide +kernel,rfl⟩⟩
 |li t u _ _=>exact ⟨_,_,rfl, .inr ⟨by decide +kernel,rfl⟩⟩
 |no w hw=>exact ⟨_,_,rfl, .inl ⟨rfl,w,rfl,hw,p9 w⟩⟩
 |bo l _=>exact ⟨_,_,rfl, .inr ⟨by decide +kernel,iE (by decide +kernel)⟩⟩
 |ei l _=>exact ⟨_,_,rfl, .inr ⟨by decide +kernel,iE (by decide +kernel)⟩⟩
end Tre
namespace K23
open PySem L2 Mth Tre
section
variable {P:Program} {w:World} {K:PySem.W.Frag} {mg:Str→Option Value} {base:Heap}
end
open PySem L2 Mth Tre
def TapeAt (H:Hp) (tp c:Addr) (n:Nat):Prop:=
 (c=tp∧∃a z:Int,H tp=some (.lst [.int 1, .int a, .int z]))∨(tp≠c∧∃(cells:List Int) (k:Nat),H tp=some (.lst [.int 0, .ref c, .int (k:Int)])∧H c=some (.lst (cells.map V.int))∧k≤n)
def Keep (tp:Addr) (H H':Hp):Prop:=∀x,x≠tp→H' x=H x
theorem Keep.refl {tp:Addr} {H:Hp}:Keep tp H H:=fun _ _=>rfl
theorem Keep.trans {tp:Addr} {H H1 H2:Hp} (a:Keep tp H H1) (b:Keep tp H1 H2):Keep tp H H2:=fun x h=>(b x h).trans (a x h)
def But (tp:Addr) (H H':Hp):Prop:=∀x o,x≠tp→H x=some o→H' x=some o
theorem But.of_keep {tp:Addr} {H H':Hp} (k:Keep tp H H'):But tp H H':=fun x o h e=>(k x h).trans e
theorem But.of_same {tp:Addr} {H H':Hp} (k:Same H H'):But tp H H':=fun x o _ e=>k x o e
theorem But.trans {tp:Addr} {H H1 H2:Hp} (a:But tp H H1) (b:But tp H1 H2):But tp H H2:=fun x o h e=>b x o h (a x o h e)
theorem TapeAt.lst {H:Hp} {tp c:Addr} {n:Nat} (h:TapeAt H tp c n):∃xs,H tp=some (.lst xs):=by
 rcases h with ⟨_,a,z,h⟩|⟨_,cells,k,h,_⟩
 · exact ⟨_,h⟩
 · exact ⟨_,h⟩
theorem TapeAt.mono {H:Hp} {tp c:Addr} {m n:Nat} (h:TapeAt H tp c m) (hn:m≤n):TapeAt H tp c n:=by
 rcases h with h|⟨h4,cells,k,h1,h2,h3⟩
 · exact .inl h
 · exact .inr ⟨h4,cells,k,h1,h2,by omega⟩
theorem TapeAt.same {H H':Hp} {tp c:Addr} {n:Nat} (h:TapeAt H tp c n) (s:Same H H'):TapeAt H' tp c n:=by
 rcases h with ⟨e,a,z,h⟩|⟨h4,cells,k,h1,h2,h3⟩
 · exact .inl ⟨e,a,z,s _ _ h⟩
 · exact .inr ⟨h4,cells,k,s _ _ h1,s _ _ h2,h3⟩
theorem TapeAt.ne {H:Hp} {tp c r:Addr} {n:Nat} (h:TapeAt H tp c n) (hr:H r=none):r≠tp∧r≠c:=by
 rcases h with ⟨e,a,z,h⟩|⟨h4,cells,k,h1,h2,h3⟩
 · subst e
   exact ⟨(aN h hr).symm,(aN h hr).symm⟩
 · exact ⟨(aN h1 hr).symm,(aN h2 hr).symm⟩
theorem TapeAt.wr {H:Hp} {tp c D:Addr} {n:Nat} {o:HO} (h:TapeAt H tp c n) (hD:D≠tp∧D≠c):TapeAt (upd H D o) tp c n:=by
 rcases h with ⟨e,a,z,h⟩|⟨h4,cells,k,h1,h2,h3⟩
 · exact .inl ⟨e,a,z,(aB hD.1.symm).trans h⟩
 · exact .inr ⟨h4,cells,k,(aB hD.1.symm).trans h1,(aB hD.2.symm).trans h2,h3⟩
theorem But.free {tp c D:Addr} {H H':Hp} {n:Nat} (b:But tp H H') (x:TapeAt H' tp c n) (h:H' D=none):H D=none:=by
 have n1:=(x.ne h).1
 cases e:H D with
 |none=>rfl
 |some o=>
  rw [b D o n1 e] at h
  cases h
theorem But.wr {tp D:Addr} {H H':Hp} {o:HO} (b:But tp H H') (h:H D=none):But tp H (upd H' D o):=fun x u n1 e=>by
 rw [aB (aN e h)]
 exact b x u n1 e
theorem But.kd {tp c:Addr} {H H':Hp} {n m:Nat} (b:But tp H H') (x:TapeAt H tp c n) (y:TapeAt H' tp c m):Kd H H':=by
 obtain ⟨xs,e⟩:=x.lst
 obtain ⟨ys,e'⟩:=y.lst
 refine ⟨fun a zs h=>b a _ (fun z=> ?_) h,fun a zs h=> ?_⟩
 · rw [z,e] at h
   cases h
 · by_cases z:a=tp
   · subst z
     exact ⟨ys,e'⟩
   · exact ⟨zs,b a _ z h⟩
theorem eP {m:Int} (h0:0≤m) (h:m≤2^100):Big m:=by
 unfold Big
 have:(2:Nat)^100 < 2^8000:=by decide +kernel
 have e:m.natAbs≤2^100:=by omega
 exact Nat.lt_of_le_of_lt e this
section
variable {P:Program} {w:World} {K:PySem.W.Frag} {mg:Str→Option Value} {base:Heap}
def qB (K:PySem.W.Frag):Sp:=fun vs H Q _=>∃(a:Addr) (ns:List Int),vs= [.ref a]∧SqL K H a (ns.map V.int)∧ns.length≤63∧∀(r c:Addr) (H':Hp),H r=none→Same H H'→TapeAt H' r c 0→Q (.ref r) H'
theorem scTp:ax ["_law_script"] ["_law_script"] (af jv):=⟨rfl,rfl,rfl,by decide +kernel,rfl,by decide +kernel,by decide +kernel⟩
theorem t8 (ns:List Int) (lo hi:Option Int):∃ms:List Int,cutV (ns.map V.int) lo hi=ms.map V.int∧ms.length≤ns.length:=by
 refine ⟨(ns.drop (HT.sIx (ns.map V.int).length 0 lo)).take (HT.sIx (ns.map V.int).length (ns.map V.int).length hi - HT.sIx (ns.map V.int).length 0 lo),?_,?_⟩
 · unfold cutV
   rw [List.map_take,List.map_drop]
 · rw [List.length_take,List.length_drop]
   omega
theorem uk {f:Addr} {fd:FuncData} (F:Fun K "_law_tape" "_law_tape" jv f fd) (B:Blt mg):FnOk P w K mg base CX0 1 f fd ["_law_script"] (qB K):=by
 refine F.ok scTp (fun vs H Q E h=> ?_) (fun cdv A outer s H vs Q E hr h=> ?_)
 · obtain ⟨a,ns,rfl,_⟩:=h
   rfl
 obtain ⟨a,ns,rfl,hS,hl,k⟩:=h
 refine ⟨_,ae (aK (PW.pt (dy (aw dY (ar aF rfl B.le PySem.boot_len (a8 (pv 0) a9)) aa (aq _)) (dw (aw be (aE dE (am aT (pv 0) aa fun _ _=>rfl) aa) aa (aq _)))))
  (ag (aj (cm (a8 aa (a8 (aE cf (am aT (pv 0) aa fun _ _=>rfl) aa) (a8 aa a9)))))) az)
  (ag (aj (cm (a8 aa (a8 (cb on (pv 0) cy (cw aa)) (a8 aa a9)))))),?_⟩
 have last:(tRet (tLst (bf (tC (.int 0)) (bf (tSl (rSlL K) (tVar 0) oh (v7 (tC (.int 63)))) (bf (tC (.int 0)) tNil))))) {nx:=fun _ H'=>Q .non H',rt:=Q} [some (V.ref a)] H:=by
  refine ⟨_,rfl,63,rfl,a,_,rfl,hS,fun c nc=> ?_⟩
  obtain ⟨ms,em,lm⟩:=t8 ns none (some 63)
  rw [em]
  refine ⟨by show 3≤sizeLine;decide,fun p np=> ?_⟩
  have s1:Same H (upd H c (.lst (ms.map V.int))):=ah nc
  have s2:Same (upd H c (.lst (ms.map V.int))) (upd (upd H c (.lst (ms.map V.int))) p (.lst [.int 0, .ref c, .int 0])):=ah np
  refine k p c _ (s1.free np) (s1.trans s2) (.inr ⟨fun z=> ?_,ms,0,ac,s2 _ _ ac,Nat.le_refl _⟩)
  rw [z,ac] at np
  cases np
 refine ⟨_,rfl,a,_,rfl, .inl hS,_,_,rfl,rfl,_,rfl,?_⟩
 rw [List.length_map]
 by_cases z:(0:Int) < (ns.length:Int)
 · rw [decide_eq_true z]
   refine iteT ?_
   have at0:atI (ns.map V.int) 0=some (.int (ns[0]'(by omega))):=bh (j:=0) (by rw [List.getElem?_map,List.getElem?_eq_getElem (by omega)];rfl)
   refine ⟨_,rfl,a,_,0,_,rfl,rfl,hS,at0,_,_,rfl,rfl,by show (0:Int) < 2;decide,rfl,_,rfl,?_⟩
   refine ite2 (fun _=> ?_) (fun _=>last)
   refine ⟨_,rfl,a,_,0,_,rfl,rfl,hS,at0,_,_,rfl,rfl,⟨by show (0:Int) < 2;decide,by show (2:Int).natAbs < 2^8000;decide +kernel⟩,by show 3≤sizeLine;decide,fun p np=> ?_⟩
   exact k p p _ np (ah np) (.inl ⟨rfl,_,_,ac⟩)
 · rw [decide_eq_false z]
   refine iteF ?_
   refine iteF ?_
   exact last
end
open PySem L2 Mth Tre
theorem wz {ns:List Int} {i:Int} (h0:0≤i) (h1:i < ns.length):∃z:Int,atI (ns.map V.int) i=some (.int z):=by
 obtain ⟨j,rfl⟩:∃j:Nat,i=(j:Int):=⟨i.toNat,by omega⟩
 have hj:j < ns.length:=by omega
 exact ⟨ns[j],bh (by rw [List.getElem?_map,List.getElem?_eq_getElem hj];rfl)⟩
section
variable {P:Program} {w:World} {K:PySem.W.Frag} {mg:Str→Option Value} {base:Heap}
def ci:Sp:=fun vs H Q _=>∃(tp c:Addr) (m:Int) (n:Nat),vs= [.ref tp, .int m]∧TapeAt H tp c n∧n≤1000000∧0 < m∧Big m∧∀(r:Int) (H':Hp),0≤r→r < m→TapeAt H' tp c (n+1)→Keep tp H H'→Q (.int r) H'
theorem scDr:ax ["_law_tape_here","_law_many","_law_found","_law_k","_law_cell","_law_stirred"] ["_law_tape_here","_law_many"] (af fG):=⟨rfl,rfl,rfl,by decide +kernel,rfl,by decide +kernel,by decide +kernel⟩
theorem ix {f:Addr} {fd:FuncData} (F:Fun K "_law_draw" "_law_draw" fG f fd) (B:Blt mg):FnOk P w K mg base CX0 1 f fd ["_law_tape_here","_law_many"] ci:=by
 refine F.ok scDr (fun vs H Q E h=> ?_) (fun cdv A outer s H vs Q E hr h=> ?_)
 · obtain ⟨tp,c,m,n,rfl,_⟩:=h
   rfl
 obtain ⟨tp,c,m,n,rfl,hT,hn,m0,mB,k⟩:=h
 refine ⟨_,ae (aK (aw be (am aT (pv 0) aa fun _ _=>rfl) aa (aq _))
  (ae (aD (i:=2) scDr.nd rfl (Or.inl rfl) (aE dE (am aT (pv 0) aa fun _ _=>rfl) (pv 1)))
  (ae (iU (aE cf (am aT (pv 0) aa fun _ _=>rfl) (pv 1)) (nn (pv 0) aa iR))
  (ag (aj (pv 2))))) az)
  (ae (aD (i:=3) scDr.nd rfl (Or.inl rfl) (am aT (pv 0) aa fun _ _=>rfl))
  (ae (iU (aE bU (pv 3) aa) (nn (pv 0) aa iR))
  (ae (aD (i:=4) scDr.nd rfl (Or.inl rfl) aa)
  (ae (aK (aw dY (ar aF rfl B.le PySem.boot_len (a8 (am aT (pv 0) aa fun _ _=>rfl) a9)) aa (aq _))
   (ag (aD (i:=4) scDr.nd rfl (Or.inl rfl) (aE dE (am aT (am aT (pv 0) aa fun _ _=>rfl) (aE dE (pv 3) (ar aF rfl B.le PySem.boot_len (a8 (am aT (pv 0) aa fun _ _=>rfl) a9))) fun _ _=>rfl) aa))) az)
  (ae (aD (i:=5) scDr.nd rfl (Or.inl rfl) (aE dE (aE cA (aE bU (pv 4) aa) (aE bU (aE bU (aE cA (aE cA aa (pv 3)) (pv 3)) (aE cA aa (pv 3))) aa)) aa))
  (ag (aj (aE dE (aE dE (aE cA (aE dE (aE cA (aE bU (pv 5) (pv 3)) aa) aa) aa) aa) (pv 1))))))))),?_⟩
 have bc:∀c:Int,0≤c→c≤2147483647→Big c:=fun c h0 h1=>eP h0 (by omega)
 rcases hT with ⟨ec,a,z,hT⟩|⟨ne,cells,kk,hT,hc,hk⟩
 · refine ⟨_,rfl,tp,_,0, .int 1,rfl,rfl,SqL.of hT,rfl,rfl,_,rfl,?_⟩
   rw [decide_eq_true rfl]
   refine iteT ?_
   refine ⟨_,rfl,tp,_,1, .int a,rfl,rfl,SqL.of hT,rfl,_,rfl,a,m,rfl,rfl,m0,?_⟩
   refine ⟨_,rfl,tp,_,1, .int a,rfl,rfl,SqL.of hT,rfl,_,rfl,a,m,rfl,rfl,⟨m0,mB⟩,_,rfl,tp,_,1,1,rfl,rfl,hT,rfl,?_⟩
   exact ⟨_,rfl,k _ _ (Int.emod_nonneg _ (by omega)) (Int.emod_lt_of_pos _ m0) (.inl ⟨ec,a / m,z,ac⟩) fun x hx=>aB hx⟩
 · refine ⟨_,rfl,tp,_,0, .int 0,rfl,rfl,SqL.of hT,rfl,rfl,_,rfl,?_⟩
   rw [decide_eq_false (show¬V.int 0=V.int 1 by decide)]
   refine iteF ?_
   refine ⟨_,rfl,tp,_,2, .int (kk:Int),rfl,rfl,SqL.of hT,rfl,?_⟩
   refine ⟨_,rfl,_,_,rfl,rfl,_,rfl,tp,_,2,2,rfl,rfl,hT,rfl,?_⟩
   have hT1:(upd H tp (.lst ([V.int 0, .ref c, .int (kk:Int)].set 2 (.int ((kk:Int)+1))))) tp=some (.lst [.int 0, .ref c, .int ((kk+1:Nat):Int)]):=ac
   have hc1:(upd H tp (.lst ([V.int 0, .ref c, .int (kk:Int)].set 2 (.int ((kk:Int)+1))))) c=some (.lst (cells.map V.int)):=by rw [aB (Ne.symm ne)];exact hc
   have k1:Keep tp H (upd H tp (.lst ([V.int 0, .ref c, .int (kk:Int)].set 2 (.int ((kk:Int)+1))))):=fun x h1=>aB h1
   generalize upd H tp (.lst ([V.int 0, .ref c, .int (kk:Int)].set 2 (.int ((kk:Int)+1))))=H1 at hT1 hc1 k1 ⊢
   have tape1:TapeAt H1 tp c (n+1):= .inr ⟨ne,cells,kk+1,hT1,hc1,by omega⟩
   have b1:Big (kk:Int):=eP (by omega) (by omega)
   have sq:(31*(kk:Int)*(kk:Int))≤31*1000000*1000000:=Int.mul_le_mul (by omega) (by omega) (by omega) (by omega)
   have sq0:(0:Int)≤31*(kk:Int)*(kk:Int):=Int.mul_nonneg (by omega) (by omega)
   have last:∀cell:Int,0≤cell→cell≤2147483629→
    (tSeq (tAsg (tOp (rI (fun _ j=>0 < j) fun i j=> .int (i%j)) (tOp (rI (fun i j=>Big i∧Big j) fun i j=> .int (i*j)) (tOp (rI0 fun i j=> .int (i+j)) (tVar 4) (tC (.int 1))) (tOp (rI0 fun i j=> .int (i+j)) (tOp (rI0 fun i j=> .int (i+j)) (tOp (rI (fun i j=>Big i∧Big j) fun i j=> .int (i*j)) (tOp (rI (fun i j=>Big i∧Big j) fun i j=> .int (i*j)) (tC (.int 31)) (tVar 3)) (tVar 3)) (tOp (rI (fun i j=>Big i∧Big j) fun i j=> .int (i*j)) (tC (.int 7919)) (tVar 3))) (tC (.int 1)))) (tC (.int 2147483647))) (cp 5))
     (tRet (tOp (rI (fun _ j=>0 < j) fun i j=> .int (i%j)) (tOp (rI (fun _ j=>0 < j) fun i j=> .int (i%j)) (tOp (rI (fun i j=>Big i∧Big j) fun i j=> .int (i*j)) (tOp (rI (fun _ j=>0 < j) fun i j=> .int (i%j)) (tOp (rI (fun i j=>Big i∧Big j) fun i j=> .int (i*j)) (tOp (rI0 fun i j=> .int (i+j)) (tVar 5) (tVar 3)) (tC (.int 48271))) (tC (.int 2147483629))) (tC (.int 69621))) (tC (.int 2147483587))) (tVar 1))))
     {nx:=fun _ H'=>Q .non H',rt:=Q} [some (.ref tp),some (.int m),none,some (.int (kk:Int)),some (.int cell),none] H1:=by
    intro cell c0 c1
    refine ⟨_,rfl,_,_,rfl,rfl,_,rfl,31,_,rfl,rfl,⟨bc 31 (by decide) (by decide),b1⟩,_,rfl,_,_,rfl,rfl,⟨eP (by omega) (by omega),b1⟩,_,rfl,7919,_,rfl,rfl,⟨bc 7919 (by decide) (by decide),b1⟩,_,_,rfl,rfl,_,_,rfl,rfl,_,_,rfl,rfl,⟨eP (by omega) (by omega),eP (by omega) (by omega)⟩,_,_,rfl,rfl,by show (0:Int) < 2147483647;decide,?_⟩
    have st0:(0:Int)≤(cell+1)*(31*(kk:Int)*(kk:Int)+7919*(kk:Int)+1)%2147483647:=Int.emod_nonneg _ (by decide)
    have st1:(cell+1)*(31*(kk:Int)*(kk:Int)+7919*(kk:Int)+1)%2147483647 < 2147483647:=Int.emod_lt_of_pos _ (by decide)
    have u0:∀st:Int,(0:Int)≤(st+(kk:Int))*48271%2147483629:=fun st=>Int.emod_nonneg _ (by decide)
    have u1:∀st:Int,(st+(kk:Int))*48271%2147483629≤2^100:=fun st=>by
     have:(st+(kk:Int))*48271%2147483629 < 2147483629:=Int.emod_lt_of_pos _ (by decide)
     omega
    refine ⟨_,rfl,_,rfl,_,_,rfl,rfl,_,48271,rfl,rfl,⟨eP (by omega) (by omega),bc 48271 (by decide) (by decide)⟩,_,2147483629,rfl,rfl,by show (0:Int) < 2147483629;decide,_,69621,rfl,rfl,⟨eP (u0 _) (u1 _),bc 69621 (by decide) (by decide)⟩,_,2147483587,rfl,rfl,by show (0:Int) < 2147483587;decide,_,rfl,_,m,rfl,rfl,m0,?_⟩
    exact k _ _ (Int.emod_nonneg _ (by omega)) (Int.emod_lt_of_pos _ m0) tape1 k1
   refine ⟨_,rfl,tp,_,1, .ref c,rfl,rfl,SqL.of hT1,rfl,c,_,rfl, .inl (SqL.of hc1),_,_,rfl,rfl,_,rfl,?_⟩
   rw [List.length_map]
   by_cases z:(0:Int) < (cells.length:Int)
   · rw [decide_eq_true z]
     refine iteT ?_
     have q0:(0:Int)≤(kk:Int)%(cells.length:Int):=Int.emod_nonneg _ (by omega)
     have q1:(kk:Int)%(cells.length:Int) < (cells.length:Int):=Int.emod_lt_of_pos _ (by omega)
     obtain ⟨v,ev⟩:=wz q0 q1
     refine ⟨_,rfl,tp,_,1, .ref c,rfl,rfl,SqL.of hT1,rfl,_,rfl,_,rfl,tp,_,1, .ref c,rfl,rfl,SqL.of hT1,rfl,c,_,rfl, .inl (SqL.of hc1),_,_,rfl,rfl,by rw [List.length_map];omega,c,_,(kk:Int)%(cells.length:Int), .int v,rfl,by rw [List.length_map],SqL.of hc1,ev,_,2147483629,rfl,rfl,by show (0:Int) < 2147483629;decide,?_⟩
     exact last _ (Int.emod_nonneg _ (by decide)) (Int.le_of_lt (Int.emod_lt_of_pos _ (by decide)))
   · rw [decide_eq_false z]
     refine iteF ?_
     exact last 0 (by decide) (by decide)
end
open PySem L2 Mth Tre
theorem mG {te:TE} {σ:L2.St} {H:Hp} {Q:List V→Hp→Prop} (h:te σ H fun v H1=>Q [v] H1):bf te tNil σ H Q:=h
abbrev abc:Str:=Str.ofString "abcdefghijklmnopqrstuvwxyz"
theorem lb:abc.length≤sizeLine:=by decide +kernel
theorem nX {i:Int} (h0:0≤i) (h1:i < 26):∃c,atI abc.cps.toList i=some c:=by
 obtain ⟨j,rfl⟩:∃j:Nat,i=(j:Int):=⟨i.toNat,by omega⟩
 have hl:abc.cps.toList.length=26:=by decide +kernel
 exact ⟨abc.cps.toList[j]'(by omega),bh (List.getElem?_eq_getElem _)⟩
theorem oy (x:Str):x.cps.toList.length=x.length:=by simp [Str.length]
theorem f9 (x y:Str):(x++y).length=x.length+y.length:=by
 rw [←oy,←oy,←oy,←List.length_append]
 congr 1
 show (x.cps++y.cps).toList=_
 simp
theorem ss:∀(ys:List Str),(Txt.join (Str.ofString "") ys).length=(ys.map (·.length)).sum:=by
 intro ys
 have e:Txt.join (Str.ofString "") ys=Str.join (Str.ofString "") ys:=StrLaws.glued_eq_join _ _
 have e0:(Str.ofString "").length=0:=by decide +kernel
 rw [e]
 clear e
 induction ys with
 |nil=>rfl
 |cons y ys ih=>
  cases ys with
  |nil=>simp [Str.join]
  |cons z ys=>
   have e2:Str.join (Str.ofString "") (y::z::ys)=y++Str.ofString ""++Str.join (Str.ofString "") (z::ys):=rfl
   rw [e2,f9,f9,e0,ih]
   simp
theorem la:∀c∈abc.cps.toList,Trm.Ltr c:=by
 have:abc.cps.toList.all (fun c=>decide (97≤c∧c≤122))=true:=by decide +kernel
 intro c m
 have:=List.all_eq_true.mp this c m
 rw [decide_eq_true_iff] at this
 exact this
theorem kZ {xs:List Nat} {i:Int} {c:Nat} (h:atI xs i=some c):c∈xs:=by
 unfold atI at h
 obtain ⟨j,_,e⟩:=Option.bind_eq_some_iff.mp h
 exact List.mem_of_getElem? e
theorem iA {x y:Str} (h1:∀c∈x.cps.toList,Trm.Ltr c) (h2:∀c∈y.cps.toList,Trm.Ltr c):∀c∈(x++y).cps.toList,Trm.Ltr c:=fun c m=>by
 have m:c∈(x.cps++y.cps).toList:=m
 rw [Array.toList_append] at m
 exact (List.mem_append.mp m).elim (h1 c) (h2 c)
theorem sr {ys:List Str} (h:∀y∈ys,∀c∈y.cps.toList,Trm.Ltr c):∀c∈(Txt.join (Str.ofString "") ys).cps.toList,Trm.Ltr c:=by
 have e:Txt.join (Str.ofString "") ys=Str.join (Str.ofString "") ys:=StrLaws.glued_eq_join _ _
 rw [e]
 clear e
 induction ys with
 |nil=>intro c m;cases m
 |cons y ys ih=>
  cases ys with
  |nil=>exact h y List.mem_cons_self
  |cons z ys=>
   have e2:Str.join (Str.ofString "") (y::z::ys)=y++Str.ofString ""++Str.join (Str.ofString "") (z::ys):=rfl
   rw [e2]
   exact iA (iA (h y List.mem_cons_self) fun c m=>by
    have e0:(Str.ofString "").cps.toList= []:=by decide +kernel
    rw [e0] at m
    cases m) (ih fun u mu=>h u (List.mem_cons_of_mem _ mu))
theorem pC {x:Str} {l u:Option Int} (h:∀c∈x.cps.toList,Trm.Ltr c):∀c∈(Txt.slice x l u).cps.toList,Trm.Ltr c:=fun c m=>by
 unfold Txt.slice at m
 split at m
 · exact h c m
 · obtain ⟨i,_,e⟩:=List.mem_filterMap.mp m
   exact h c (List.mem_of_getElem? (i:=i) (by simpa using e))
theorem kq {d:Nat} (h:Trm.Ltr d):∀c∈(⟨#[d]⟩:Str).cps.toList,Trm.Ltr c:=fun c m=>by
 have:c=d:=by simpa using m
 rw [this]
 exact h
def Names (H:Hp) (nl:Addr):Prop:=∃a b c:Str,H nl=some (.lst [.str a, .str b, .str c])∧Trm.Nm a∧Trm.Nm b∧Trm.Nm c
theorem Names.atN {H:Hp} {nl:Addr} (h:Names H nl) {i:Int} (h0:0≤i) (h3:i < 3):∃xs x,H nl=some (.lst xs)∧atI xs i=some (.str x)∧Trm.Nm x:=by
 obtain ⟨a,b,c,e,n1,n2,n3⟩:=h
 have:i=0∨i=1∨i=2:=by omega
 rcases this with rfl|rfl|rfl
 · exact ⟨_,a,e,rfl,n1⟩
 · exact ⟨_,b,e,rfl,n2⟩
 · exact ⟨_,c,e,rfl,n3⟩
theorem Names.at {H:Hp} {nl:Addr} (h:Names H nl) {i:Int} (h0:0≤i) (h3:i < 3):∃xs x,H nl=some (.lst xs)∧atI xs i=some (.str x):=by
 obtain ⟨a,b,c,e,_⟩:=h
 have:i=0∨i=1∨i=2:=by omega
 rcases this with rfl|rfl|rfl
 · exact ⟨_,a,e,rfl⟩
 · exact ⟨_,b,e,rfl⟩
 · exact ⟨_,c,e,rfl⟩
theorem Names.but {tp nl:Addr} {H H':Hp} (h:Names H nl) (n1:nl≠tp) (b:But tp H H'):Names H' nl:=by
 obtain ⟨x,y,z,e,r⟩:=h
 exact ⟨x,y,z,b _ _ n1 e,r⟩
theorem ba {m:Int} (h0:0≤m) (h:m≤1000000):Big m:=eP h0 (by omega)
theorem si {z:Str} (h:0 < z.length):∃c,atI z.cps.toList (-1)=some c:=by
 have hl:=oy z
 refine ⟨z.cps.toList[z.cps.toList.length - 1]'(by omega),Su.last_at (by omega) (List.getElem?_eq_getElem _)⟩
section
variable {P:Program} {w:World} {K:PySem.W.Frag} {mg:Str→Option Value} {base:Heap}
def oj:Sp:=fun vs H Q _=>∃(tp c:Addr) (n:Nat),vs= [.ref tp]∧TapeAt H tp c n∧n+10≤1000000∧∀(r:Addr) (H':Hp),TapeAt H' tp c (n+10)→But tp H H'→H r=none→Names H' r→Q (.ref r) H'
theorem scNm:ax ["_law_tape_here","_law_letters","_law_word","_law_at"] ["_law_tape_here"] (af hU):=⟨rfl,rfl,rfl,by decide +kernel,rfl,by decide +kernel,by decide +kernel⟩
theorem rM {f fD:Addr} {fd fdD:FuncData} (F:Fun K "_law_names" "_law_names" hU f fd) (B:Blt mg) (FD:Fun K "_law_draw" "_law_draw" fG fD fdD) (bD:Binds K fdD ["_law_tape_here","_law_many"] []) (mD:mg "_law_draw"=some (.ref fD)):
 FnOk P w K mg base CX0 2 f fd ["_law_tape_here"] oj:=by
 have GD:FnOk P w K mg base CX0 1 fD fdD ["_law_tape_here","_law_many"] ci:=ix FD B
 refine F.ok scNm (fun vs H Q E h=> ?_) (fun cdv A outer s H vs Q E hr h=> ?_)
 · obtain ⟨tp,cc,n,rfl,_⟩:=h
   rfl
 obtain ⟨tp,cc,n,rfl,hT,hn,k⟩:=h
 refine ⟨_,ae (aD (i:=1) scNm.nd rfl (Or.inr rfl) aA)
  (ae (aD (i:=2) scNm.nd rfl (Or.inl rfl) (iX PySem.F.plainAttrs_str PySem.F.slot_str_join PySem.F.type_str_join uB aA (a8
   (bx (NC:= ["_law_k","_law_letters","_law_tape_here"]) (mp:= [none,some 1,some 0]) rfl (bY rfl B.ra (a8 (aE bU aa (ad GD hr rfl mD FD.kp bD .nil ai (a8 (pv 0) (a8 aa a9)))) a9)) (fun _ _ _ _ _=>aQ (i:=0) (show (["_law_k","_law_letters","_law_tape_here"]:List Str).Nodup by decide +kernel) rfl (Or.inl rfl)) (fun _ _ _ _ _=>bp)
    (fun _ _ _ _ _=>am kG (pv 1) (ad GD hr rfl mD FD.kp bD .nil ai (a8 (pv 2) (a8 aa a9))) fun _ _=>rfl)) a9)))
  (ae (aD (i:=3) scNm.nd rfl (Or.inl rfl) (aE bU (aE bU (iX PySem.F.plainAttrs_str PySem.F.slot_str_find PySem.F.type_str_find uC (pv 1) (a8 (am kG (pv 2) (cV cr aa) fun _ _=>rfl) a9)) aa) (ad GD hr rfl mD FD.kp bD .nil ai (a8 (pv 0) (a8 aa a9)))))
  (ag (aj (cm (a8 (pv 2) (a8 (aE iY (cb vN (pv 2) cy (cw (cV cr aa))) (am kG (pv 1) (aE dE (pv 3) aa) fun _ _=>rfl)) (a8 (aE iY (pv 2) (am kG (pv 1) (ad GD hr rfl mD FD.kp bD .nil ai (a8 (pv 0) (a8 aa a9))) fun _ _=>rfl)) a9)))))))),?_⟩
 have hL:(20000:Nat)≤sizeLine:=by decide +kernel
 refine ⟨rfl,?_⟩
 refine mG ?_
 refine bn rfl ?_
 refine ⟨_,rfl,tp,cc,6,n,rfl,hT,by omega,by decide,ba (by decide) (by decide),fun r0 H0 r00 r01 hT0 kp0=> ?_⟩
 refine ⟨1,r0,rfl,rfl,1+r0,rfl,by omega,by omega,fun D nD=> ?_⟩
 obtain ⟨c,ec⟩:∃c:Nat,(1+r0).toNat=c:=⟨_,rfl⟩
 have c6:c≤6:=by omega
 have c1:1≤c:=by omega
 have nfD:=hT0.ne nD
 have bt0:But tp H H0:=But.of_keep kp0
 have nD0:=bt0.free hT0 nD
 rw [ec]
 refine bV (n:=c) (fun i acc H'=>TapeAt H' tp cc (n+1+i)∧But tp H H'∧H' D=some (.lst acc)∧∃ys:List Str,acc=ys.map V.str∧ys.length=i∧∀y∈ys,y.length=1∧∀c∈y.cps.toList,Trm.Ltr c)
  ⟨hT0.same (ah nD),bt0.wr nD0,ac,[],rfl,rfl,fun y m=>by cases m⟩ ?_ ?_
 · rintro i acc H' hi ⟨hT',bt,hD,ys,rfl,hy,hw⟩
   refine ⟨_,rfl,_,rfl,tp,cc,26,n+1+i,rfl,hT',by omega,by decide,ba (by decide) (by decide),fun r H2 h0 h1 hT2 kp=> ?_⟩
   obtain ⟨d,ed⟩:=nX h0 h1
   have hD2:H2 D=some (.lst (ys.map V.str)):=(kp D nfD.1).trans hD
   have hTw:TapeAt (upd H2 D (.lst (ys.map V.str++ [.str ⟨#[d]⟩]))) tp cc (n+1+(i+1)):=hT2.wr nfD
   refine ⟨_,r,d,rfl,rfl,lb,ed,CompN.mk hi (by rw [List.length_map];omega) hD2 ⟨hTw,(bt.trans (But.of_keep kp)).wr nD0,ac,ys++ [⟨#[d]⟩],by simp,by simp [hy],fun y m=> ?_⟩⟩
   rcases List.mem_append.mp m with m|m
   · exact hw y m
   · rw [List.mem_singleton.mp m]
     exact ⟨rfl,kq (la _ (kZ ed))⟩
 rintro acc H1 ⟨hT1,bt1,hD,ys,rfl,hy,hw⟩
 have sm:(ys.map (·.length)).sum=ys.length:=by
  clear hy hD
  induction ys with
  |nil=>rfl
  |cons y ys ih=>
   simp only [List.map_cons,List.sum_cons,List.length_cons]
   rw [ih fun z m=>hw z (List.mem_cons_of_mem _ m),(hw y List.mem_cons_self).1]
   omega
 have e0:(Str.ofString "").length=0:=by decide +kernel
 have jl:=ss ys
 refine ⟨_,D,ys,rfl,rfl,SqL.of hD,by rw [e0];omega,?_⟩
 have wl:(Txt.join (Str.ofString "") ys).length=c:=by omega
 obtain ⟨lc,elc⟩:=si (z:=Txt.join (Str.ofString "") ys) (by omega)
 refine ⟨_,rfl,rfl,_,rfl,_,rfl,_,-1,lc,rfl,rfl,by omega,elc,_,_,rfl,rfl,trivial,_,_,rfl,rfl,_,rfl,tp,cc,25,n+1+c,rfl,hT1,by omega,by decide,ba (by decide) (by decide),fun r1 H2 _ _ hT2 kp2=> ?_⟩
 refine ⟨_,_,rfl,rfl,?_⟩
 have q0:∀x:Int,(0:Int)≤x%26:=fun x=>Int.emod_nonneg _ (by decide)
 have q1:∀x:Int,x%26 < 26:=fun x=>Int.emod_lt_of_pos _ (by decide)
 obtain ⟨ld,eld⟩:=nX (q0 (Txt.find abc ⟨#[lc]⟩ +1+r1)) (q1 _)
 have sl1:=Txt.slice_le (Txt.join (Str.ofString "") ys) none (some (-1))
 have one:∀x:Nat,(⟨#[x]⟩:Str).length=1:=fun _=>rfl
 refine ⟨_,rfl,_,rfl,_,rfl,_,rfl,_,rfl,by omega,_,rfl,_,rfl,_,26,rfl,rfl,by show (0:Int) < 26;decide,_,_,ld,rfl,rfl,lb,eld,_,_,rfl,rfl,by rw [one];omega,_,rfl,_,rfl,_,rfl,tp,cc,26,n+1+c+1,rfl,hT2,by omega,by decide,ba (by decide) (by decide),fun r2 H3 r20 r21 hT3 kp3=> ?_⟩
 obtain ⟨le_,ele⟩:=nX r20 r21
 refine ⟨_,r2,le_,rfl,rfl,lb,ele,_,_,rfl,rfl,by rw [one];omega,by show 3≤sizeLine;decide,fun p np=> ?_⟩
 have bt3:=(bt1.trans (But.of_keep kp2)).trans (But.of_keep kp3)
 have np0:=bt3.free hT3 np
 have jw:=sr fun y my=>(hw y my).2
 exact k p _ ((hT3.wr (hT3.ne np)).mono (by omega)) (bt3.wr np0) np0 ⟨_,_,_,ac,⟨by omega,by omega,jw⟩,⟨by rw [f9,one];omega,by rw [f9,one];omega,iA (pC jw) (kq (la _ (kZ eld)))⟩,⟨by rw [f9,one];omega,by rw [f9,one];omega,iA jw (kq (la _ (kZ ele)))⟩⟩
end
open PySem L2 Mth Tre
theorem nP {t b:Int} (h:0 < b):fx t b=t / (Int.gcd t b:Int)∧fy t b=b / (Int.gcd t b:Int):=by
 unfold fx fy dv
 rw [if_neg (by omega)]
 exact ⟨Int.fdiv_eq_ediv_of_nonneg _ (by omega),Int.fdiv_eq_ediv_of_nonneg _ (by omega)⟩
theorem sU {t b:Int} (h:0 < b):(fx t b).natAbs≤t.natAbs∧(fy t b).natAbs≤b.natAbs:=by
 rw [(nP (t:=t) h).1,(nP (t:=t) h).2]
 exact ⟨iy _ _,iy _ _⟩
def T59:Int:=10^59
theorem t59:(1000000:Int)≤T59∧(T59+10).natAbs < 2^200∧T59 < 2^200:=by decide +kernel
theorem tJ {m:Int} (h0:0≤m) (h:m≤T59+10):Big m:=by
 have h1:=t59.2.1
 unfold Big
 have:(2:Nat)^200 < 2^8000:=by decide +kernel
 exact Nat.lt_of_le_of_lt (show m.natAbs≤(T59+10).natAbs by omega) (Nat.lt_trans h1 this)
section
variable {P:Program} {w:World} {K:PySem.W.Frag} {mg:Str→Option Value} {base:Heap}
def spWh:Sp:=fun vs H Q _=>∃(tp c:Addr) (a b:Int) (n:Nat),vs= [.ref tp, .int a, .int b]∧TapeAt H tp c n∧n+2≤1000000∧0 < a∧a≤b∧b≤T59∧∀(r:Int) (H':Hp),0≤r→r < b→TapeAt H' tp c (n+2)→Keep tp H H'→Q (.int r) H'
theorem scWh:ax ["_law_tape_here","_law_small","_law_great"] ["_law_tape_here","_law_small","_law_great"] (af gz):=⟨rfl,rfl,rfl,by decide +kernel,rfl,by decide +kernel,by decide +kernel⟩
theorem xj {f fD:Addr} {fd fdD:FuncData} (F:Fun K "_law_whole" "_law_whole" gz f fd) (B:Blt mg) (FD:Fun K "_law_draw" "_law_draw" fG fD fdD) (bD:Binds K fdD ["_law_tape_here","_law_many"] []) (mD:mg "_law_draw"=some (.ref fD)):
 FnOk P w K mg base CX0 2 f fd ["_law_tape_here","_law_small","_law_great"] spWh:=by
 have GD:FnOk P w K mg base CX0 1 fD fdD ["_law_tape_here","_law_many"] ci:=ix FD B
 refine F.ok scWh (fun vs H Q E h=> ?_) (fun cdv A outer s H vs Q E hr h=> ?_)
 · obtain ⟨tp,c,a,b,n,rfl,_⟩:=h
   rfl
 obtain ⟨tp,c,a,b,n,rfl,hT,hn,a0,ab,bT,k⟩:=h
 refine ⟨_,ae (aK (aw be (ad GD hr rfl mD FD.kp bD .nil ai (a8 (pv 0) (a8 aa a9))) aa (aq _)) (ag (aj (ad GD hr rfl mD FD.kp bD .nil ai (a8 (pv 0) (a8 (pv 2) a9))))) az)
  (ag (aj (ad GD hr rfl mD FD.kp bD .nil ai (a8 (pv 0) (a8 (pv 1) a9))))),?_⟩
 refine ⟨_,rfl,tp,c,9,n,rfl,hT,by omega,by decide,ba (by decide) (by decide),fun r H1 _ _ hT1 kp1=> ?_⟩
 refine ⟨rfl,_,rfl,?_⟩
 refine ite2 (fun _=> ?_) (fun _=> ?_)
 · exact ⟨_,rfl,_,rfl,tp,c,b,n+1,rfl,hT1,by omega,by omega,tJ (by omega) (by omega),fun r H2 r0 r1 hT2 kp2=>k r H2 r0 r1 hT2 (kp1.trans kp2)⟩
 · exact ⟨_,rfl,_,rfl,tp,c,a,n+1,rfl,hT1,by omega,a0,tJ (by omega) (by omega),fun r H2 r0 r1 hT2 kp2=>k r H2 r0 (by omega) hT2 (kp1.trans kp2)⟩
def spSh:Sp:=fun vs H Q _=>∃(tp c:Addr) (n:Nat),vs= [.ref tp]∧TapeAt H tp c n∧n+4≤1000000∧∀(v:V) (H':Hp) (x y:Int),TapeAt H' tp c (n+4)→But tp H H'→TrAt H' v (.tup [.int x, .int y])→0 < y→x.natAbs < 2^200→y.natAbs < 2^200→e9 x y→Q v H'
theorem scSh:ax ["_law_tape_here","_law_top"] ["_law_tape_here"] (af gU):=⟨rfl,rfl,rfl,by decide +kernel,rfl,by decide +kernel,by decide +kernel⟩
theorem xo {f fW fF C:Addr} {fd fdW fdF:FuncData} (F:Fun K "_law_share" "_law_share" gU f fd) (GW:FnOk P w K mg base CX0 2 fW fdW ["_law_tape_here","_law_small","_law_great"] spWh) (kW:PySem.W.keepIn K (.ref fW)=true) (bW:Binds K fdW ["_law_tape_here","_law_small","_law_great"] []) (mW:mg "_law_whole"=some (.ref fW))
 (GF:FnOk P w K mg base (CX1 P w) 3 fF fdF ["top","bottom"] (spFr C)) (kF:PySem.W.keepIn K (.ref fF)=true) (bF:Binds K fdF ["top","bottom"] []) (mF:mg "fraction"=some (.ref fF)):
 FnOk P w K mg base CX0 4 f fd ["_law_tape_here"] spSh:=by
 refine F.ok scSh (fun vs H Q E h=> ?_) (fun cdv A outer s H vs Q E hr h=> ?_)
 · obtain ⟨tp,c,n,rfl,_⟩:=h
   rfl
 obtain ⟨tp,c,n,rfl,hT,hn,k⟩:=h
 have hr2:Room 2 _:=hr.mono (by decide)
 refine ⟨_,ae (aD (i:=1) scSh.nd rfl (Or.inl rfl) (aE fk (ad GW hr2 rfl mW kW bW .nil ai (a8 (pv 0) (a8 aa (a8 (aE nw aa aa) a9)))) aa))
  (ag (aj (ad GF hr rfl mF kF bF .nil jF (a8 (pv 1) (a8 (aE bU aa (ad GW hr2 rfl mW kW bW .nil ai (a8 (pv 0) (a8 aa (a8 (aE nw aa aa) a9))))) a9))))),?_⟩
 have e59:(10:Int)^(59:Int).toNat=T59:=by decide +kernel
 obtain ⟨g1,g2,g3⟩:=t59
 refine ⟨_,rfl,10,59,rfl,rfl,⟨by decide,by decide,by decide⟩,tp,c,9,T59,n,by rw [←e59];rfl,hT,by omega,by decide,by omega,by omega,fun r H1 r0 r1 hT1 kp1=> ?_⟩
 refine ⟨_,_,rfl,rfl,?_⟩
 refine ⟨_,rfl,_,rfl,10,59,rfl,rfl,⟨by decide,by decide,by decide⟩,tp,c,3,T59,n+2,by rw [←e59];rfl,hT1,by omega,by decide,by omega,by omega,fun q H2 q0 q1 hT2 kp2=> ?_⟩
 have b0:(0:Int) < 1+q:=by omega
 have bt:Big (r - 4):=by
  unfold Big
  have:(2:Nat)^200 < 2^8000:=by decide +kernel
  exact Nat.lt_of_le_of_lt (show (r - 4).natAbs≤(T59+10).natAbs by omega) (Nat.lt_trans g2 this)
 refine ⟨_,_,rfl,rfl,r - 4,1+q,rfl,bt,tJ (by omega) (by omega),fun z=>absurd z (by omega),fun _ p np=> ?_⟩
 have hl:=sU (t:=r - 4) b0
 have b2:But tp H H2:=But.of_keep (kp1.trans kp2)
 have np0:=b2.free hT2 np
 refine k (.ref p) _ _ _ (hT2.wr (hT2.ne np)) (b2.wr np0) (aY ac) (cS (by omega)).1 ?_ ?_ (cS (by omega))
 · exact Nat.lt_of_le_of_lt hl.1 (Nat.lt_of_le_of_lt (show (r - 4).natAbs≤(T59+10).natAbs by omega) g2)
 · exact Nat.lt_of_le_of_lt hl.2 (Nat.lt_of_le_of_lt (show (1+q).natAbs≤(T59+10).natAbs by omega) g2)
end
open PySem L2 Mth Tre
theorem eF {r:List V→Hp→VK→Prop} {te:TE} {σ:L2.St} {H:Hp} {Q:List V→Hp→Prop} (h:te σ H fun v H1=>r [v] H1 fun u H2=>Q [u] H2):bf (tCB r (bf te tNil)) tNil σ H Q:=h
theorem cq {n:Nat}:∀ {ts:List Tr},(∀t∈ts,t.depth≤n)→Trs.depth ts≤n
 | [],_=>by unfold Trs.depth;omega
 |t::ts,h=>by
  unfold Trs.depth
  have h1:=h t List.mem_cons_self
  have h2:=cq fun u m=>h u (List.mem_cons_of_mem t m)
  omega
inductive Ln:Tr→Prop
 |nm (x:Str):Trm.Nm x→Ln (.tup [s_ "name", .str x])
 |ap (f:Str) (ts:List Tr):Trm.Nm f→0 < ts.length→ts.length≤3→(∀t∈ts,Ln t)→Ln (.tup [s_ "call", .str f, .tup ts])
theorem at_str {H:Hp} {x:Str}:TrAt H (.str x) (.str x):=by unfold TrAt;rfl
theorem at_tup {H:Hp} {r:Addr} {vs:List V} {ts:List Tr} (h:H r=some (.tup vs)) (h1:TrsAt H vs ts):TrAt H (.ref r) (.tup ts):=by
 unfold TrAt
 exact ⟨r,vs,rfl,h,h1⟩
section
variable {P:Program} {w:World} {K:PySem.W.Frag} {mg:Str→Option Value} {base:Heap}
def eG (n:Nat):Sp:=fun vs H Q _=>∃(tp c nl:Addr) (d k:Nat),vs= [.ref tp, .ref nl, .int (d:Int)]∧TapeAt H tp c k∧k+4^(d+1)≤1000000∧Names H nl∧nl≠tp∧d < n∧
 ∀v t H',TapeAt H' tp c (k+4^(d+1))→But tp H H'→TrAt H' v t→Ty .tm t→Ln t→t.depth≤2*d+1→Q v H'
theorem scTe:ax ["_law_tape_here","_law_names_here","_law_deep","_law_name"] ["_law_tape_here","_law_names_here","_law_deep"] (af ju):=⟨rfl,rfl,rfl,by decide +kernel,rfl,by decide +kernel,by decide +kernel⟩
theorem uj {f fD:Addr} {fd fdD:FuncData} (F:Fun K "_law_term" "_law_term" ju f fd) (bF:Binds K fd ["_law_tape_here","_law_names_here","_law_deep"] []) (mF:mg "_law_term"=some (.ref f)) (B:Blt mg) (FD:Fun K "_law_draw" "_law_draw" fG fD fdD) (bD:Binds K fdD ["_law_tape_here","_law_many"] []) (mD:mg "_law_draw"=some (.ref fD)):
 ∀n,FnOk P w K mg base CX0 (n+1) f fd ["_law_tape_here","_law_names_here","_law_deep"] (eG n):=by
 have GD:FnOk P w K mg base CX0 1 fD fdD ["_law_tape_here","_law_many"] ci:=ix FD B
 intro n
 induction n with
 |zero=>exact ⟨fun vs H Q E ⟨_,_,_,_,_,_,_,_,_,_,h,_⟩=>absurd h (by omega),fun A outer s H args us vs Q E _ _ _ _ ⟨_,_,_,_,_,_,_,_,_,_,h,_⟩=>absurd h (by omega)⟩
 |succ n ih=>
  refine F.ok scTe (fun vs H Q E h=> ?_) (fun cdv A outer s H vs Q E hr h=> ?_)
  · obtain ⟨tp,c,nl,d,k,rfl,_⟩:=h
    rfl
  obtain ⟨tp,c,nl,d,kk,rfl,hT,hn,hN,nt,hd,k⟩:=h
  have hr1:Room 1 _:=hr.mono (by omega)
  refine ⟨_,ae (aD (i:=3) scTe.nd rfl (Or.inl rfl) (am aT (pv 1) (ad GD hr1 rfl mD FD.kp bD .nil ai (a8 (pv 0) (a8 aa a9))) fun _ _=>rfl))
   (ae (aK (PW.pt (cv (aw be (pv 2) aa (aq _)) (ck (aw dY (ad GD hr1 rfl mD FD.kp bD .nil ai (a8 (pv 0) (a8 aa a9))) aa (aq _)))))
    (ag (aj (aH (a8 aA (a8 (pv 3) a9))))) az)
   (ag (aj (aH (a8 aA (a8 (pv 3) (a8 (bE bu rfl B.tu PyProof.Rows.boot_tuple (a8
    (bx (NC:= ["_law_k","_law_deep","_law_names_here","_law_tape_here"]) (mp:= [none,some 2,some 1,some 0]) rfl (bY rfl B.ra (a8 (aE bU aa (ad GD hr1 rfl mD FD.kp bD .nil ai (a8 (pv 0) (a8 aa a9)))) a9)) (fun _ _ _ _ _=>aQ (i:=0) (show (["_law_k","_law_deep","_law_names_here","_law_tape_here"]:List Str).Nodup by decide +kernel) rfl (Or.inl rfl)) (fun _ _ _ _ _=>bp)
     (fun _ _ _ _ _=>ad ih hr rfl mF F.kp bF .nil ai (a8 (pv 3) (a8 (pv 2) (a8 (aE fk (pv 1) aa) a9))))) a9)) a9))))))),?_⟩
  have hL:(20000:Nat)≤sizeLine:=by decide +kernel
  have p4:4≤4^(d+1):=by
   have:4^1≤4^(d+1):=Nat.pow_le_pow_right (by decide) (by omega)
   omega
  refine ⟨_,rfl,_,rfl,tp,c,3,kk,rfl,hT,by omega,by decide,ba (by decide) (by decide),fun r H1 r0 r1 hT1 kp1=> ?_⟩
  have b1:But tp H H1:=But.of_keep kp1
  obtain ⟨xs,x,e1,e2,nmx⟩:=(hN.but nt b1).atN r0 r1
  refine ⟨nl,xs,r,_,rfl,rfl,SqL.of e1,e2,?_⟩
  have name:∀(H2:Hp) (m:Nat),TapeAt H2 tp c (kk+m)→m≤4→But tp H H2→(tRet (tTup (bf (tC (.str (Str.ofString "name"))) (bf (tVar 3) tNil)))) {nx:=fun _ H'=>Q .non H',rt:=Q} [some (.ref tp),some (.ref nl),some (.int (d:Int)),some (.str x)] H2:=by
   intro H2 m hT2 hm b2
   refine ⟨_,rfl,by show 2≤sizeLine;decide,fun p np=> ?_⟩
   have np0:=b2.free hT2 np
   refine k (.ref p) _ _ ((hT2.wr (hT2.ne np)).mono (by omega)) (b2.wr np0) (at_tup ac (.cons at_str (.cons at_str .nil))) (.nm x) (.nm x nmx) ?_
   simp only [Tr.depth,Trs.depth]
   omega
  refine ⟨_,rfl,rfl,_,rfl,?_⟩
  refine ite2 (fun _=>name H1 1 hT1 (by decide) b1) (fun hd0=> ?_)
  have d0:d≠0:=fun z=>hd0 (by rw [z];decide)
  refine ⟨_,rfl,tp,c,3,kk+1,rfl,hT1,by omega,by decide,ba (by decide) (by decide),fun r2 H2 _ _ hT2 kp2=> ?_⟩
  have b2:=b1.trans (But.of_keep kp2)
  refine ⟨_,_,rfl,rfl,_,rfl,?_⟩
  refine ite2 (fun _=>name H2 2 hT2 (by decide) b2) (fun _=> ?_)
  refine ⟨_,rfl,?_⟩
  refine eF ?_
  refine bn rfl ?_
  refine ⟨_,rfl,tp,c,3,kk+2,rfl,hT2,by omega,by decide,ba (by decide) (by decide),fun r3 H3 r30 r31 hT3 kp3=> ?_⟩
  have b3:=b2.trans (But.of_keep kp3)
  refine ⟨1,r3,rfl,rfl,1+r3,rfl,by omega,by omega,fun D nD=> ?_⟩
  obtain ⟨m,em⟩:∃m:Nat,(1+r3).toNat=m:=⟨_,rfl⟩
  have m3:m≤3:=by omega
  have nfD:=hT3.ne nD
  have n0D:=b3.free hT3 nD
  have e4:4^(d+1)=4*4^d:=by rw [Nat.pow_succ,Nat.mul_comm]
  have d4:4≤4^d:=by
   have:4^1≤4^d:=Nat.pow_le_pow_right (by decide) (by omega)
   omega
  have hm4:m*4^d≤3*4^d:=Nat.mul_le_mul_right _ m3
  rw [em]
  refine bV (n:=m) (fun i acc H'=>TapeAt H' tp c (kk+3+i*4^d)∧But tp H H'∧H' D=some (.lst acc)∧∃ts:List Tr,TrsAt H' acc ts∧ts.length=i∧∀t∈ts,(Ty .tm t∧Ln t)∧t.depth≤2*(d - 1)+1)
   ⟨(hT3.wr nfD).mono (by omega),b3.wr n0D,ac,[], .nil,rfl,fun y m=>by cases m⟩ ?_ ?_
  · rintro i acc H' hi ⟨hT',bt,hD,ts,hTs,hl,hw⟩
    have hi4:i*4^d+4^d≤3*4^d:=by
     have:(i+1)*4^d≤3*4^d:=Nat.mul_le_mul_right _ (by omega)
     rw [Nat.add_mul,Nat.one_mul] at this
     exact this
    have ed:d - 1+1=d:=by omega
    refine ⟨_,rfl,_,rfl,_,rfl,_,_,rfl,rfl,tp,c,nl,d - 1,kk+3+i*4^d,?_,hT',by rw [ed];omega,hN.but nt bt,nt,by omega,fun v t H6 hT6 b6 hv tyt lnt dt=> ?_⟩
    · show [V.ref tp, .ref nl, .int ((d:Int) - 1)]=_
      rw [show ((d:Int) - 1)=((d - 1:Nat):Int) by omega]
    · have hD6:H6 D=some (.lst acc):=b6 D _ nfD.1 hD
      have kd6:=b6.kd hT' hT6
      have tp6:=Kd.upd (ys:=acc++ [v]) hD6
      have hl2:=hTs.len
      rw [ed] at hT6
      refine CompN.mk hi (by omega) hD6 ⟨?_,(bt.trans b6).wr n0D,ac,ts++ [t],TrsAt.app (.cons (hv.mono tp6) .nil) (hTs.mono (kd6.trans tp6)),by simp [hl],fun u mu=> ?_⟩
      · rw [Nat.add_mul,Nat.one_mul,←Nat.add_assoc]
        exact hT6.wr nfD
      · rcases List.mem_append.mp mu with mu|mu
        · exact hw u mu
        · rw [List.mem_singleton.mp mu]
          exact ⟨⟨tyt,lnt⟩,dt⟩
  · rintro acc H4 ⟨hT4,b4,hD,ts,hTs,hl,hw⟩
    refine ⟨D,acc,rfl, .inl ⟨SqL.of hD,fun l nl'=> ?_⟩⟩
    refine ⟨by show 3≤sizeLine;decide,fun q nq=> ?_⟩
    have s1:Same H4 (upd H4 l (.tup acc)):=ah nl'
    have s2:Same (upd H4 l (.tup acc)) (upd (upd H4 l (.tup acc)) q (.tup [.str (Str.ofString "call"), .str x, .ref l])):=ah nq
    refine k (.ref q) _ _ ((hT4.same (s1.trans s2)).mono (by omega)) (b4.trans (But.of_same (s1.trans s2))) (at_tup ac (.cons at_str (.cons at_str (.cons (at_tup (s2 _ _ ac) (hTs.mono (Kd.of_same (s1.trans s2)))) .nil)))) (.ap x ts (by omega) fun t m=>(hw t m).1.1) (.ap x ts nmx (by omega) (by omega) fun t m=>(hw t m).1.2) ?_
    have:=cq fun t m=>(hw t m).2
    simp only [Tr.depth,Trs.depth]
    omega
end
open PySem L2 Mth Tre Wd Su
structure Sx (us:List Pq):Prop where
 len:us.length≤3
 asc:Asc us
 gq:∀u∈us,Gq 603 u
 ln:∀u∈us,Ln u.1∧u.1.depth≤5
 nz:∀u∈us,u.2≠zero
inductive Gy:Tr→Prop
 |fl (x:Str):Trm.Nm x→Gy (.tup [s_ "flag", .str x])
 |mo (us:List Pq) (f:Fr):Sx us→Gf 200 f→Sh f→Gy (.tup [s_ "most", .tup (us.map prT),frT f])
 |li (t u:Tr):Ty .tm t→Ty .tm u→Ln t→Ln u→t.depth≤5→u.depth≤5→Gy (.tup [s_ "like",t,u])
 |no (w:Tr):Gy w→Gy (.tup [s_ "not",w])
 |bo (l:List Tr):l.length≤3→(∀w∈l,Gy w)→Gy (.tup [s_ "both", .tup l])
 |ei (l:List Tr):l.length≤3→(∀w∈l,Gy w)→Gy (.tup [s_ "either", .tup l])
theorem Sx.gp {us:List Pq} (h:Sx us):∀t∈us.map prT,Wd.Gp t:=fun t m=>by
 obtain ⟨u,mu,rfl⟩:=List.mem_map.mp m
 exact ⟨u.1,u.2,rfl,(h.gq u mu).ty,(h.ln u mu).2,(h.gq u mu).gf⟩
theorem Gy.gw {t:Tr} (h:Gy t):Wd.Gw t:=by
 induction h with
 |fl x _=>exact .fl x
 |mo us f hs hf _=>exact .mo _ f (by rw [List.length_map];exact hs.len) hs.gp (hf.mono (by decide))
 |li t u h1 h2 _ _ d1 d2=>exact .li t u h1 h2 (by omega) (by omega)
 |no w _ ih=>exact .no w ih
 |bo l hl _ ih=>exact .bo l hl ih
 |ei l hl _ ih=>exact .ei l hl ih
theorem gh {ps us:List Pq} (h:Can ps us) {u:Pq} (m:u∈us):∃p∈ps,p.1=u.1:=by
 refine Classical.byContradiction fun no=> ?_
 have e:=dU h.asc m
 rw [h.eq,cP fun p mp z=>no ⟨p,mp,z⟩] at e
 exact (h.sh u m).2 ((oA (h.sh u m).1).mp e.symm)
theorem vt {H:Hp} {x:Bool}:TrAt H (.bl x) (.bl x):=by unfold TrAt;rfl
theorem ph {sp:Sp} {dv:List V} {E:XK} {te:TE} {Z:Ends} {σ:L2.St} {H:Hp} (h:te σ H fun v H1=>sp ([v]++dv) H1 Z.rt E):tRet (lr sp dv E (bf te tNil)) Z σ H:=h
section
variable {P:Program} {w:World} {K:PySem.W.Frag} {mg:Str→Option Value} {base:Heap}
def n5:Sp:=fun vs H Q _=>∃(tp c nl:Addr) (k:Nat),vs= [.ref tp, .ref nl]∧TapeAt H tp c k∧k+64≤1000000∧Names H nl∧nl≠tp∧
 ∀v us H',TapeAt H' tp c (k+64)→But tp H H'→TrAt H' v (.tup (us.map prT))→Sx us→Q v H'
theorem scLS:ax ["_law_tape_here","_law_names_here"] ["_law_tape_here","_law_names_here"] (af jC):=⟨rfl,rfl,rfl,by decide +kernel,rfl,by decide +kernel,by decide +kernel⟩
theorem uw {f fT fS fM fD:Addr} {fd dT dS dM dD:FuncData} (F:Fun K "_law_sum" "_law_sum" jC f fd) (B:Blt mg)
 (gT:FnOk P w K mg base CX0 3 fT dT ["_law_tape_here","_law_names_here","_law_deep"] (eG 2)) (kT:PySem.W.keepIn K (.ref fT)=true) (bT:Binds K dT ["_law_tape_here","_law_names_here","_law_deep"] []) (mT:mg "_law_term"=some (.ref fT))
 (gS:FnOk P w K mg base CX0 4 fS dS ["_law_tape_here"] spSh) (kS:PySem.W.keepIn K (.ref fS)=true) (bS:Binds K dS ["_law_tape_here"] []) (mS:mg "_law_share"=some (.ref fS))
 (gM:FnOk P w K mg base CX0 3 fM dM ["pairs"] gx) (kM:PySem.W.keepIn K (.ref fM)=true) (bM:Binds K dM ["pairs"] []) (mM:mg "sum_of"=some (.ref fM))
 (gD:FnOk P w K mg base CX0 1 fD dD ["_law_tape_here","_law_many"] ci) (kD:PySem.W.keepIn K (.ref fD)=true) (bD:Binds K dD ["_law_tape_here","_law_many"] []) (mD:mg "_law_draw"=some (.ref fD)):
 FnOk P w K mg base CX0 5 f fd ["_law_tape_here","_law_names_here"] n5:=by
 refine F.ok scLS (fun vs H Q E h=> ?_) (fun cdv A outer s H vs Q E hr h=> ?_)
 · obtain ⟨tp,c,nl,k,rfl,_⟩:=h
   rfl
 obtain ⟨tp,c,nl,kk,rfl,hT,hn,hN,nt,k⟩:=h
 have hr1:Room 1 _:=hr.mono (by decide)
 have hr3:Room 3 _:=hr.mono (by decide)
 refine ⟨_,ag (aj (ad gM hr3 rfl mM kM bM .nil ai (a8
  (bx (NC:= ["_law_k","_law_names_here","_law_tape_here"]) (mp:= [none,some 1,some 0]) rfl (bY rfl B.ra (a8 (ad gD hr1 rfl mD kD bD .nil ai (a8 (pv 0) (a8 aa a9))) a9)) (fun _ _ _ _ _=>aQ (i:=0) (show (["_law_k","_law_names_here","_law_tape_here"]:List Str).Nodup by decide +kernel) rfl (Or.inl rfl)) (fun _ _ _ _ _=>bp)
   (fun _ _ _ _ _=>aH (a8 (ad gT hr3 rfl mT kT bT .nil ai (a8 (pv 2) (a8 (pv 1) (a8 aa a9)))) (a8 (ad gS hr rfl mS kS bS .nil ai (a8 (pv 2) a9)) a9)))) a9))),?_⟩
 have hL:(20000:Nat)≤sizeLine:=by decide +kernel
 refine ph ?_
 refine bn rfl ?_
 refine ⟨_,rfl,tp,c,4,kk,rfl,hT,by omega,by decide,ba (by decide) (by decide),fun r H0 r0 r1 hT0 kp0=> ?_⟩
 refine ⟨r,rfl,by omega,by omega,fun D nD=> ?_⟩
 obtain ⟨m,em⟩:∃m:Nat,r.toNat=m:=⟨_,rfl⟩
 have m3:m≤3:=by omega
 have b0:But tp H H0:=But.of_keep kp0
 have nfD:=hT0.ne nD
 have n0D:=b0.free hT0 nD
 rw [em]
 refine bV (n:=m) (fun i acc H'=>TapeAt H' tp c (kk+1+i*20)∧But tp H H'∧H' D=some (.lst acc)∧∃ts:List Pq,TrsAt H' acc (ts.map prT)∧ts.length=i∧∀t∈ts,Gq 200 t∧Ln t.1∧t.1.depth≤5)
  ⟨(hT0.wr nfD).mono (by omega),b0.wr n0D,ac,[], .nil,rfl,fun y m=>by cases m⟩ ?_ ?_
 · rintro i acc H' hi ⟨hT',bt,hD,ts,hTs,hl,hw⟩
   refine ⟨_,rfl,_,rfl,tp,c,nl,1,kk+1+i*20,rfl,hT',by show kk+1+i*20+16≤1000000;omega,hN.but nt bt,nt,by decide,fun v t H1 hT1 b1 hv tyt lnt dt=> ?_⟩
   refine ⟨_,rfl,tp,c,kk+1+i*20+16,rfl,hT1,by omega,fun v2 H2 x y hT2 b2 hv2 y0 hx hy hsh=> ?_⟩
   refine ⟨by show 2≤sizeLine;decide,fun p np=> ?_⟩
   have kd1:=b1.kd hT' hT1
   have kd2:=b2.kd hT1 hT2
   have sp:Same H2 (upd H2 p (.tup [v,v2])):=ah np
   have hD2:(upd H2 p (.tup [v,v2])) D=some (.lst acc):=sp _ _ (b2 D _ nfD.1 (b1 D _ nfD.1 hD))
   have tp6:=Kd.upd (ys:=acc++ [.ref p]) hD2
   have nDp:p≠D:=fun z=>by rw [z,b2 D _ nfD.1 (b1 D _ nfD.1 hD)] at np;cases np
   have hp:(upd (upd H2 p (.tup [v,v2])) D (.lst (acc++ [.ref p]))) p=some (.tup [v,v2]):=by
    rw [aB nDp]
    exact ac
   have ks:=(Kd.of_same sp).trans tp6
   have hl2:=hTs.len
   rw [List.length_map] at hl2
   refine CompN.mk hi (by omega) hD2 ⟨?_,((bt.trans (b1.trans b2)).trans (But.of_same sp)).wr n0D,ac,ts++ [(t,(x,y))],by rw [List.map_append];exact TrsAt.app (.cons (cW hp (hv.mono (kd2.trans ks)) (hv2.mono ks)) .nil) (hTs.mono (kd1.trans (kd2.trans ks))),by simp [hl],fun u mu=> ?_⟩
   · exact ((hT2.same sp).wr nfD).mono (by omega)
   · rcases List.mem_append.mp mu with mu|mu
     · exact hw u mu
     · rw [List.mem_singleton.mp mu]
       exact ⟨⟨tyt,by show t.depth≤7;omega,⟨y0,hx,hy⟩,hsh⟩,lnt,by show t.depth≤5;omega⟩
 · rintro acc H4 ⟨hT4,b4,hD,ts,hTs,hl,hw⟩
   refine ⟨D,acc,ts,3,200,rfl,hD,hTs,by omega,by decide,by decide,fun p m=>(hw p m).1,fun v H5 us s5 hv hc hul hus=> ?_⟩
   refine k v us H5 ((hT4.same s5).mono (by omega)) (b4.trans (But.of_same s5)) hv ⟨by omega,hc.asc,hus,fun u m=> ?_,fun u m=>(hc.sh u m).2⟩
   obtain ⟨p,mp,e⟩:=gh hc m
   rw [←e]
   exact (hw p mp).2
def iN:Sp:=fun vs H Q _=>∃(tp c nl:Addr) (k:Nat),vs= [.ref tp, .ref nl]∧TapeAt H tp c k∧k+130≤1000000∧Names H nl∧nl≠tp∧
 ∀v t H',TapeAt H' tp c (k+130)→But tp H H'→TrAt H' v t→Gy t→t.depth≤8→Q v H'
theorem scAt:ax ["_law_tape_here","_law_names_here","_law_kind"] ["_law_tape_here","_law_names_here"] (af jE):=⟨rfl,rfl,rfl,by decide +kernel,rfl,by decide +kernel,by decide +kernel⟩
theorem ux {f fT fS fM fD:Addr} {fd dT dS dM dD:FuncData} (F:Fun K "_law_atom" "_law_atom" jE f fd)
 (gT:FnOk P w K mg base CX0 4 fT dT ["_law_tape_here","_law_names_here","_law_deep"] (eG 3)) (kT:PySem.W.keepIn K (.ref fT)=true) (bT:Binds K dT ["_law_tape_here","_law_names_here","_law_deep"] []) (mT:mg "_law_term"=some (.ref fT))
 (gS:FnOk P w K mg base CX0 4 fS dS ["_law_tape_here"] spSh) (kS:PySem.W.keepIn K (.ref fS)=true) (bS:Binds K dS ["_law_tape_here"] []) (mS:mg "_law_share"=some (.ref fS))
 (gM:FnOk P w K mg base CX0 5 fM dM ["_law_tape_here","_law_names_here"] n5) (kM:PySem.W.keepIn K (.ref fM)=true) (bM:Binds K dM ["_law_tape_here","_law_names_here"] []) (mM:mg "_law_sum"=some (.ref fM))
 (gD:FnOk P w K mg base CX0 1 fD dD ["_law_tape_here","_law_many"] ci) (kD:PySem.W.keepIn K (.ref fD)=true) (bD:Binds K dD ["_law_tape_here","_law_many"] []) (mD:mg "_law_draw"=some (.ref fD)):
 FnOk P w K mg base CX0 6 f fd ["_law_tape_here","_law_names_here"] iN:=by
 refine F.ok scAt (fun vs H Q E h=> ?_) (fun cdv A outer s H vs Q E hr h=> ?_)
 · obtain ⟨tp,c,nl,k,rfl,_⟩:=h
   rfl
 obtain ⟨tp,c,nl,kk,rfl,hT,hn,hN,nt,k⟩:=h
 have hr1:Room 1 _:=hr.mono (by decide)
 have hr4:Room 4 _:=hr.mono (by decide)
 refine ⟨_,ae (aD (i:=2) scAt.nd rfl (Or.inl rfl) (ad gD hr1 rfl mD kD bD .nil ai (a8 (pv 0) (a8 aa a9))))
  (ae (aK (aw be (pv 2) aa (aq _)) (ag (aj (aH (a8 aA (a8 (ad gM hr rfl mM kM bM .nil ai (a8 (pv 0) (a8 (pv 1) a9))) (a8 (ad gS hr4 rfl mS kS bS .nil ai (a8 (pv 0) a9)) a9)))))) az)
  (ae (aK (aw be (pv 2) aa (aq _)) (ag (aj (aH (a8 aA (a8 (ad gT hr4 rfl mT kT bT .nil ai (a8 (pv 0) (a8 (pv 1) (a8 aa a9)))) (a8 (ad gT hr4 rfl mT kT bT .nil ai (a8 (pv 0) (a8 (pv 1) (a8 aa a9)))) a9)))))) az)
  (ag (aj (aH (a8 aA (a8 (am aT (pv 1) (ad gD hr1 rfl mD kD bD .nil ai (a8 (pv 0) (a8 aa a9))) fun _ _=>rfl) a9))))))),?_⟩
 refine ⟨_,rfl,tp,c,4,kk,rfl,hT,by omega,by decide,ba (by decide) (by decide),fun r H1 r0 r1 hT1 kp1=> ?_⟩
 have b1:But tp H H1:=But.of_keep kp1
 refine ⟨_,rfl,rfl,_,rfl,?_⟩
 refine ite2 (fun _=> ?_) (fun _=> ?_)
 · refine ⟨_,rfl,_,rfl,tp,c,nl,kk+1,rfl,hT1,by omega,hN.but nt b1,nt,fun v us H2 hT2 b2 hv hus=> ?_⟩
   refine ⟨_,rfl,tp,c,kk+1+64,rfl,hT2,by omega,fun v2 H3 x y hT3 b3 hv2 y0 hx hy hsh=> ?_⟩
   refine ⟨by show 3≤sizeLine;decide,fun p np=> ?_⟩
   have bb:=b1.trans (b2.trans b3)
   have np0:=bb.free hT3 np
   have sp:=ah (o:= .tup [.str (Str.ofString "most"),v,v2]) np
   refine k (.ref p) (.tup [s_ "most", .tup (us.map prT), .tup [.int x, .int y]]) _ ((hT3.wr (hT3.ne np)).mono (by omega)) (bb.wr np0) (at_tup ac (.cons at_str (.cons (hv.mono ((b3.kd hT2 hT3).trans (Kd.of_same sp))) (.cons (hv2.mono (Kd.of_same sp)) .nil)))) (.mo us (x,y) hus ⟨y0,hx,hy⟩ hsh) ?_
   have:=cq fun u m=>(xK (hus.gp u m)).2
   simp only [Tr.depth,Trs.depth]
   omega
 refine ⟨_,rfl,rfl,_,rfl,?_⟩
 refine ite2 (fun _=> ?_) (fun _=> ?_)
 · refine ⟨_,rfl,_,rfl,tp,c,nl,2,kk+1,rfl,hT1,by show kk+1+64≤1000000;omega,hN.but nt b1,nt,by decide,fun v t H2 hT2 b2 hv tyt lnt dt=> ?_⟩
   refine ⟨_,rfl,_,rfl,tp,c,nl,2,kk+1+64,rfl,hT2,by show kk+1+64+64≤1000000;omega,hN.but nt (b1.trans b2),nt,by decide,fun v2 t2 H3 hT3 b3 hv2 tyt2 lnt2 dt2=> ?_⟩
   refine ⟨by show 3≤sizeLine;decide,fun p np=> ?_⟩
   have bb:=b1.trans (b2.trans b3)
   have np0:=bb.free hT3 np
   have sp:=ah (o:= .tup [.str (Str.ofString "like"),v,v2]) np
   have hT3':TapeAt H3 tp c (kk+1+64+64):=hT3
   refine k (.ref p) (.tup [s_ "like",t,t2]) _ ((hT3'.wr (hT3.ne np)).mono (by omega)) (bb.wr np0) (at_tup ac (.cons at_str (.cons (hv.mono ((b3.kd hT2 hT3).trans (Kd.of_same sp))) (.cons (hv2.mono (Kd.of_same sp)) .nil)))) (.li t t2 tyt tyt2 lnt lnt2 (by omega) (by omega)) ?_
   simp only [Tr.depth,Trs.depth]
   omega
 · refine ⟨_,rfl,_,rfl,tp,c,3,kk+1,rfl,hT1,by omega,by decide,ba (by decide) (by decide),fun r2 H2 r20 r21 hT2 kp2=> ?_⟩
   have b2:=b1.trans (But.of_keep kp2)
   obtain ⟨xs,x,e1,e2,nmx⟩:=(hN.but nt b2).atN r20 r21
   refine ⟨nl,xs,r2,_,rfl,rfl,SqL.of e1,e2,by show 2≤sizeLine;decide,fun p np=> ?_⟩
   have np0:=b2.free hT2 np
   refine k (.ref p) (.tup [s_ "flag", .str x]) _ ((hT2.wr (hT2.ne np)).mono (by omega)) (b2.wr np0) (at_tup ac (.cons at_str (.cons at_str .nil))) (.fl x nmx) ?_
   simp only [Tr.depth,Trs.depth]
   omega
end
open PySem L2 Mth Tre
section
variable {P:Program} {w:World} {K:PySem.W.Frag} {mg:Str→Option Value} {base:Heap}
def qA (n:Nat):Sp:=fun vs H Q _=>∃(tp c nl:Addr) (d k:Nat),vs= [.ref tp, .ref nl, .int (d:Int)]∧TapeAt H tp c k∧k+140*4^d≤1000000∧Names H nl∧nl≠tp∧d < n∧
 ∀v t H',TapeAt H' tp c (k+140*4^d)→But tp H H'→TrAt H' v t→Gy t→t.depth≤2*d+8→Q v H'
theorem scWi:ax ["_law_tape_here","_law_names_here","_law_deep","_law_kind","_law_many"] ["_law_tape_here","_law_names_here","_law_deep"] (af jt):=⟨rfl,rfl,rfl,by decide +kernel,rfl,by decide +kernel,by decide +kernel⟩
theorem ui {f fA fD:Addr} {fd dA dD:FuncData} (F:Fun K "_law_wish" "_law_wish" jt f fd) (bF:Binds K fd ["_law_tape_here","_law_names_here","_law_deep"] []) (mF:mg "_law_wish"=some (.ref f)) (B:Blt mg)
 (gA:FnOk P w K mg base CX0 6 fA dA ["_law_tape_here","_law_names_here"] iN) (kA:PySem.W.keepIn K (.ref fA)=true) (bA:Binds K dA ["_law_tape_here","_law_names_here"] []) (mA:mg "_law_atom"=some (.ref fA))
 (gD:FnOk P w K mg base CX0 1 fD dD ["_law_tape_here","_law_many"] ci) (kD:PySem.W.keepIn K (.ref fD)=true) (bD:Binds K dD ["_law_tape_here","_law_many"] []) (mD:mg "_law_draw"=some (.ref fD)):
 ∀n,FnOk P w K mg base CX0 (n+6) f fd ["_law_tape_here","_law_names_here","_law_deep"] (qA n):=by
 intro n
 induction n with
 |zero=>exact ⟨fun vs H Q E ⟨_,_,_,_,_,_,_,_,_,_,h,_⟩=>absurd h (by omega),fun A outer s H args us vs Q E _ _ _ _ ⟨_,_,_,_,_,_,_,_,_,_,h,_⟩=>absurd h (by omega)⟩
 |succ n ih=>
  refine F.ok scWi (fun vs H Q E h=> ?_) (fun cdv A outer s H vs Q E hr h=> ?_)
  · obtain ⟨tp,c,nl,d,k,rfl,_⟩:=h
    rfl
  obtain ⟨tp,c,nl,d,kk,rfl,hT,hn,hN,nt,hd,k⟩:=h
  have hr1:Room 1 _:=hr.mono (by omega)
  have hr6:Room 6 _:=hr.mono (by omega)
  refine ⟨_,ae (aD (i:=3) scWi.nd rfl (Or.inl rfl) (ad gD hr1 rfl mD kD bD .nil ai (a8 (pv 0) (a8 aa a9))))
   (ae (aK (PW.pt (cv (aw be (pv 2) aa (aq _)) (ck (aw be (pv 3) aa (aq _))))) (ag (aj (ad gA hr6 rfl mA kA bA .nil ai (a8 (pv 0) (a8 (pv 1) a9))))) az)
   (ae (aK (aw be (pv 3) aa (aq _)) (ag (aj (aH (a8 aA (a8 (ad ih hr rfl mF F.kp bF .nil ai (a8 (pv 0) (a8 (pv 1) (a8 (aE fk (pv 2) aa) a9)))) a9))))) az)
   (ae (aD (i:=4) scWi.nd rfl (Or.inl rfl) (am aT (cm (a8 aa (a8 aa (a8 aa (a8 aa a9))))) (ad gD hr1 rfl mD kD bD .nil ai (a8 (pv 0) (a8 aa a9))) fun _ _=>rfl))
   (ag (aj (aH (a8 (am aT (cm (a8 aA (a8 aA a9))) (aE fk (pv 3) aa) fun _ _=>rfl) (a8 (bE bu rfl B.tu PyProof.Rows.boot_tuple (a8
    (bx (NC:= ["_law_k","_law_deep","_law_names_here","_law_tape_here"]) (mp:= [none,some 2,some 1,some 0]) rfl (bY rfl B.ra (a8 (pv 4) a9)) (fun _ _ _ _ _=>aQ (i:=0) (show (["_law_k","_law_deep","_law_names_here","_law_tape_here"]:List Str).Nodup by decide +kernel) rfl (Or.inl rfl)) (fun _ _ _ _ _=>bp)
     (fun _ _ _ _ _=>ad ih hr rfl mF F.kp bF .nil ai (a8 (pv 3) (a8 (pv 2) (a8 (aE fk (pv 1) aa) a9))))) a9)) a9)))))))),?_⟩
  have hL:(20000:Nat)≤sizeLine:=by decide +kernel
  have p1:1≤4^d:=Nat.pow_pos (by decide)
  refine ⟨_,rfl,tp,c,4,kk,rfl,hT,by omega,by decide,ba (by decide) (by decide),fun kd_ H1 r0 r1 hT1 kp1=> ?_⟩
  have b1:But tp H H1:=But.of_keep kp1
  have atom:(tRet (lr iN [] E0 (bf (tVar 0) (bf (tVar 1) tNil)))) {nx:=fun _ H'=>Q .non H',rt:=Q} [some (.ref tp),some (.ref nl),some (.int (d:Int)),some (.int kd_),none] H1:=by
   refine ⟨_,rfl,_,rfl,tp,c,nl,kk+1,rfl,hT1,by omega,hN.but nt b1,nt,fun v t H2 hT2 b2 hv tyt dt=> ?_⟩
   exact k v t H2 (hT2.mono (by omega)) (b1.trans b2) hv tyt (by omega)
  refine ⟨_,rfl,rfl,_,rfl,?_⟩
  refine ite2 (fun _=>atom) (fun hd0=> ?_)
  have d0:d≠0:=fun z=>hd0 (by rw [z];decide)
  refine ⟨_,rfl,rfl,_,rfl,?_⟩
  refine ite2 (fun _=>atom) (fun hk0=> ?_)
  have k0:kd_≠0:=fun z=>hk0 (by rw [z];decide)
  have ed:d - 1+1=d:=by omega
  have e4:4^d=4*4^(d - 1):=by
   rw [←ed,Nat.pow_succ,Nat.mul_comm]
   simp
  have q1:1≤4^(d - 1):=Nat.pow_pos (by decide)
  have eI:((d:Int) - 1)=((d - 1:Nat):Int):=by omega
  refine ⟨_,rfl,rfl,_,rfl,?_⟩
  refine ite2 (fun _=> ?_) (fun hk1=> ?_)
  · refine ⟨_,rfl,_,rfl,_,rfl,_,_,rfl,rfl,tp,c,nl,d - 1,kk+1,?_,hT1,by omega,hN.but nt b1,nt,by omega,fun v t H2 hT2 b2 hv tyt dt=> ?_⟩
    · show [V.ref tp, .ref nl, .int ((d:Int) - 1)]=_
      rw [eI]
    · refine ⟨by show 2≤sizeLine;decide,fun p np=> ?_⟩
      have bb:=b1.trans b2
      have np0:=bb.free hT2 np
      have sp:=ah (o:= .tup [.str (Str.ofString "not"),v]) np
      refine k (.ref p) (.tup [s_ "not",t]) _ ((hT2.wr (hT2.ne np)).mono (by omega)) (bb.wr np0) (at_tup ac (.cons at_str (.cons (hv.mono (Kd.of_same sp)) .nil))) (.no t tyt) ?_
      simp only [Tr.depth,Trs.depth]
      omega
  have k1:kd_≠1:=fun z=>hk1 (by rw [z];decide)
  refine ⟨by show 4≤sizeLine;decide,fun p np=> ?_⟩
  have nfp:=hT1.ne np
  have n0p:=b1.free hT1 np
  refine ⟨_,rfl,tp,c,4,kk+1,rfl,hT1.wr nfp,by omega,by decide,ba (by decide) (by decide),fun r2 H2 h0 h4 hT2 kp2=> ?_⟩
  have hp2:H2 p=some (.lst [.int 2, .int 1, .int 0, .int 3]):=(kp2 p nfp.1).trans ac
  have b2:=(b1.wr n0p (o:= .lst [.int 2, .int 1, .int 0, .int 3])).trans (But.of_keep kp2)
  obtain ⟨m,em,m3⟩:∃m:Nat,atI [V.int 2, .int 1, .int 0, .int 3] r2=some (.int (m:Int))∧m≤3:=by
   have:r2=0∨r2=1∨r2=2∨r2=3:=by omega
   rcases this with rfl|rfl|rfl|rfl
   · exact ⟨2,rfl,by decide⟩
   · exact ⟨1,rfl,by decide⟩
   · exact ⟨0,rfl,by decide⟩
   · exact ⟨3,rfl,by decide⟩
  refine ⟨p,_,r2,_,rfl,rfl,SqL.of hp2,em,?_⟩
  obtain ⟨wd,ew,ewd⟩:∃wd:Str,atI [V.str (Str.ofString "both"), .str (Str.ofString "either")] (kd_ - 2)=some (.str wd)∧(wd=Str.ofString "both"∨wd=Str.ofString "either"):=by
   have:kd_=2∨kd_=3:=by omega
   rcases this with rfl|rfl
   · exact ⟨_,rfl, .inl rfl⟩
   · exact ⟨_,rfl, .inr rfl⟩
  refine ⟨by show 2≤sizeLine;decide,fun p3 np3=> ?_⟩
  have nf3:=hT2.ne np3
  have n03:=b2.free hT2 np3
  refine ⟨_,rfl,_,_,rfl,rfl,p3,_,_,_,rfl,rfl,SqL.of ac,ew,?_⟩
  refine eF ?_
  refine bn rfl ?_
  have hT3:TapeAt (upd H2 p3 (.lst [.str (Str.ofString "both"), .str (Str.ofString "either")])) tp c (kk+2):=hT2.wr nf3
  have b3:=b2.wr n03 (o:= .lst [.str (Str.ofString "both"), .str (Str.ofString "either")])
  refine ⟨_,rfl,m,rfl,by omega,by omega,fun D nD=> ?_⟩
  have nfD:=hT3.ne nD
  have n0D:=b3.free hT3 nD
  have hm4:m*(140*4^(d - 1))≤3*(140*4^(d - 1)):=Nat.mul_le_mul_right _ m3
  show jU (Itr 0 ((m:Int)).toNat) _ _ _ _ _
  rw [Int.toNat_natCast]
  refine bV (n:=m) (fun i acc H'=>TapeAt H' tp c (kk+2+i*(140*4^(d - 1)))∧But tp H H'∧H' D=some (.lst acc)∧∃ts:List Tr,TrsAt H' acc ts∧ts.length=i∧∀t∈ts,Gy t∧t.depth≤2*(d - 1)+8)
   ⟨(hT3.wr nfD).mono (by omega),b3.wr n0D,ac,[], .nil,rfl,fun y m=>by cases m⟩ ?_ ?_
  · rintro i acc H' hi ⟨hT',bt,hD,ts,hTs,hl,hw⟩
    have hi4:i*(140*4^(d - 1))+140*4^(d - 1)≤3*(140*4^(d - 1)):=by
     have:(i+1)*(140*4^(d - 1))≤3*(140*4^(d - 1)):=Nat.mul_le_mul_right _ (by omega)
     rw [Nat.add_mul,Nat.one_mul] at this
     exact this
    refine ⟨_,rfl,_,rfl,_,rfl,_,_,rfl,rfl,tp,c,nl,d - 1,kk+2+i*(140*4^(d - 1)),?_,hT',by omega,hN.but nt bt,nt,by omega,fun v t H6 hT6 b6 hv tyt dt=> ?_⟩
    · show [V.ref tp, .ref nl, .int ((d:Int) - 1)]=_
      rw [eI]
    · have hD6:H6 D=some (.lst acc):=b6 D _ nfD.1 hD
      have kd6:=b6.kd hT' hT6
      have tp6:=Kd.upd (ys:=acc++ [v]) hD6
      have hl2:=hTs.len
      refine CompN.mk hi (by omega) hD6 ⟨?_,(bt.trans b6).wr n0D,ac,ts++ [t],TrsAt.app (.cons (hv.mono tp6) .nil) (hTs.mono (kd6.trans tp6)),by simp [hl],fun u mu=> ?_⟩
      · rw [Nat.add_mul,Nat.one_mul,←Nat.add_assoc]
        exact hT6.wr nfD
      · rcases List.mem_append.mp mu with mu|mu
        · exact hw u mu
        · rw [List.mem_singleton.mp mu]
          exact ⟨tyt,dt⟩
  · rintro acc H4 ⟨hT4,b4,hD,ts,hTs,hl,hw⟩
    refine ⟨D,acc,rfl, .inl ⟨SqL.of hD,fun l nl'=> ?_⟩⟩
    refine ⟨by show 2≤sizeLine;decide,fun q nq=> ?_⟩
    have s1:Same H4 (upd H4 l (.tup acc)):=ah nl'
    have s2:Same (upd H4 l (.tup acc)) (upd (upd H4 l (.tup acc)) q (.tup [.str wd, .ref l])):=ah nq
    refine k (.ref q) (.tup [.str wd, .tup ts]) _ ((hT4.same (s1.trans s2)).mono (by omega)) (b4.trans (But.of_same (s1.trans s2))) (at_tup ac (.cons at_str (.cons (at_tup (s2 _ _ ac) (hTs.mono (Kd.of_same (s1.trans s2)))) .nil))) ?_ ?_
    · rcases ewd with rfl|rfl
      · exact .bo ts (by omega) fun t m=>(hw t m).1
      · exact .ei ts (by omega) fun t m=>(hw t m).1
    · have:=cq fun t m=>(hw t m).2
      simp only [Tr.depth,Trs.depth]
      omega
end
open PySem L2 Mth Tre Wd Su
theorem tD {as bs us:List Pq} {m n:Nat} (h:Can (as++bs) us) (ha:Asc as) (hb:Asc bs) (ga:∀p∈as,Gq m p) (gb:∀p∈bs,Gq n p) {u:Pq} (mu:u∈us):Gf (m+n+1) u.2:=by
 have e:=dU h.asc mu
 rw [h.eq,eR] at e
 have su:=(h.sh u mu).1
 by_cases qa:∃a∈as,a.1=u.1
 · obtain ⟨a,ma,ea⟩:=qa
   have e1:=dU ha ma
   rw [ea] at e1
   rw [e1] at e
   by_cases qb:∃b∈bs,b.1=u.1
   · obtain ⟨b,mb,eb⟩:=qb
     have e2:=dU hb mb
     rw [eb] at e2
     rw [e2,←oz (ga a ma).sh (gb b mb).sh] at e
     rw [←iS (fz (ga a ma).sh (gb b mb).sh) su e]
     exact (ga a ma).gf.plus (gb b mb).gf
   · rw [cP fun p mp z=>qb ⟨p,mp,z⟩] at e
     have e:rv a.2=rv u.2:=by grind
     rw [←iS (ga a ma).sh su e]
     exact (ga a ma).gf.mono (by omega)
 · rw [cP fun p mp z=>qa ⟨p,mp,z⟩] at e
   by_cases qb:∃b∈bs,b.1=u.1
   · obtain ⟨b,mb,eb⟩:=qb
     have e2:=dU hb mb
     rw [eb] at e2
     rw [e2] at e
     have e:rv b.2=rv u.2:=by grind
     rw [←iS (gb b mb).sh su e]
     exact (gb b mb).gf.mono (by omega)
   · rw [cP fun p mp z=>qb ⟨p,mp,z⟩] at e
     have e:rv u.2=0:=by grind
     exact absurd ((oA su).mp e) (h.sh u mu).2
theorem _root_.Wd.Gf.b1 {e:Nat} {p:Fr} (h:Gf e p) (he:e≤8000):Big p.1:=h.top.big he
theorem _root_.Wd.Gf.b2 {e:Nat} {p:Fr} (h:Gf e p) (he:e≤8000):Big p.2:=h.bot.big he
section
variable {P:Program} {w:World} {K:PySem.W.Frag} {mg:Str→Option Value} {base:Heap}
def ki:Sp:=fun vs H Q _=>∃(u v:V) (p q:Fr) (m n:Nat),vs= [u,v]∧TrAt H u (frT p)∧TrAt H v (frT q)∧Gf m p∧Gf n q∧m≤3000∧n≤3000∧Sh p∧Sh q∧
 ∀(x:V) (H':Hp) (r:Fr),Same H H'→TrAt H' x (frT r)→Gf (m+n+1) r→Sh r→Q x H'
theorem scMi:ax ["one","other"] ["one","other"] (af i0):=⟨rfl,rfl,rfl,by decide +kernel,rfl,by decide +kernel,by decide +kernel⟩
theorem rN {f fP fN:Addr} {fd dP dN:FuncData} (F:Fun K "minus" "minus" i0 f fd) (GP:FnOk P w K mg base CX0 2 fP dP ["one","other"] (gy K)) (kP:PySem.W.keepIn K (.ref fP)=true) (bP:Binds K dP ["one","other"] []) (mP:mg "plus"=some (.ref fP))
 (GN:FnOk P w K mg base CX0 1 fN dN ["one"] kj) (kN:PySem.W.keepIn K (.ref fN)=true) (bN:Binds K dN ["one"] []) (mN:mg "contrary"=some (.ref fN)):FnOk P w K mg base CX0 3 f fd ["one","other"] ki:=by
 refine F.ok scMi (fun vs H Q E h=> ?_) (fun cdv A outer s H vs Q E hr h=> ?_)
 · obtain ⟨u,v,p,q,m,n,rfl,_⟩:=h
   rfl
 obtain ⟨u,v,p,q,m,n,rfl,hu,hv,gp,gq,m3,n3,sp,sq,k⟩:=h
 have hr1:Room 1 _:=hr.mono (by decide)
 refine ⟨_,ag (aj (ad GP hr rfl mP kP bP .nil ai (a8 (pv 0) (a8 (ad GN hr1 rfl mN kN bN .nil ai (a8 (pv 1) a9)) a9)))),?_⟩
 refine ⟨_,rfl,_,rfl,v,q,rfl,hv,fun x H1 s1 hx=> ?_⟩
 obtain ⟨a,rfl,ha⟩:=cH hu
 obtain ⟨b,rfl,hb⟩:=cH hx
 have gn:=wq gq
 refine ⟨a,b,_,_,_,_,rfl,SqT.of (s1 _ _ ha),SqT.of hb,⟨gp.pos,gn.pos,gp.b1 (by omega),gp.b2 (by omega),gn.b1 (by omega),gn.b2 (by omega)⟩,fun r2 H2 hr2 s2 h2=> ?_⟩
 exact k (.ref r2) H2 (eK p (negF q)) (s1.trans s2) (aY h2) (gp.plus gn) (fz sp (vP sq))
def iM (C:Addr):Sp:=fun vs H Q E=>∃(u v:V) (p q:Fr) (m n:Nat),vs= [u,v]∧TrAt H u (frT p)∧TrAt H v (frT q)∧Gf m p∧Gf n q∧m≤3000∧n≤3000∧Sh p∧Sh q∧q.1≠0∧
 ∀(x:V) (H':Hp) (r:Fr),Same H H'→TrAt H' x (frT r)→Gf (m+n) r→Sh r→Q x H'
theorem wR:ax ["one","other"] ["one","other"] (af eX):=⟨rfl,rfl,rfl,by decide +kernel,rfl,by decide +kernel,by decide +kernel⟩
theorem pK {f fT fF fI C Z:Addr} {fd fdT fdF fdI:FuncData} (F:Fun K "parted" "parted" eX f fd) (GT:FnOk P w K mg base CX0 2 fT fdT ["one","other"] (cU K)) (kT:PySem.W.keepIn K (.ref fT)=true) (bT:Binds K fdT ["one","other"] []) (mT:mg "times"=some (.ref fT))
 (GF:FnOk P w K mg base (CX1 P w) 3 fF fdF ["top","bottom"] (spFr C)) (kF:PySem.W.keepIn K (.ref fF)=true) (bF:Binds K fdF ["top","bottom"] []) (mF:mg "fraction"=some (.ref fF))
 (FI:Fun K "__init__" "WishError.__init__" ik fI fdI) (bI:Binds K fdI ["self","words"] []) (mX:mg "NoShare"=some (.ref C)) (XC:XCls K C fI) (mZ:mg "ZERO"=some (.ref Z)) (hZ:∀H:Hp,SqT K H Z [.int 0, .int 1]) (B:Blt mg):
 FnOk P w K mg base (CX1 P w) 4 f fd ["one","other"] (iM C):=by
 have GI:FnOk P w K mg base CX0 1 fI fdI ["self","words"] (n6 K):=oI FI B
 refine F.okX wR (fun vs H Q E h=> ?_) (fun cdv A outer s H vs Q E hr h=> ?_)
 · obtain ⟨u,v,p,q,m,n,rfl,_⟩:=h
   rfl
 obtain ⟨u,v,p,q,m,n,rfl,hu',hv,gp,gq,m3,n3,sp,sq,q0,k⟩:=h
 have hr2:Room 2 _:=hr.mono (by decide)
 have hu:=lX hr
 refine ⟨_,ae (aK (aw (vX hu) (pv 1) (cz (v:= .ref Z) rfl mZ rfl) (aq _)) (ag (lA rfl XC (lF XC GI hr2 rfl mX bI ai (a8 aA a9) (by decide) (hlen:=fun vs H Q E ⟨_,_,_,_,e,_⟩=>by rw [e];show 2≤1000;decide)) jp)) az)
  (ag (aj (ad GT hr2 rfl mT kT bT .nil ai (a8 (pv 0) (a8 (ad GF hr rfl mF kF bF .nil jF (a8 (am ak (pv 1) aa fun _ _=>rfl) (a8 (am ak (pv 1) aa fun _ _=>rfl) a9))) a9))))),?_⟩
 obtain ⟨a,rfl,ha⟩:=cH hu'
 obtain ⟨b,rfl,hb⟩:=cH hv
 refine ⟨_,rfl,b,Z,q.1,q.2,0,1,rfl,rfl,SqT.of hb,hZ _,_,rfl,?_⟩
 rw [decide_eq_false (show¬(q.1=0∧q.2=1) from fun z=>q0 z.1)]
 refine iteF ?_
 refine ⟨_,rfl,_,rfl,b,_,1, .int q.2,rfl,rfl,SqT.of hb,rfl,_,rfl,b,_,0, .int q.1,rfl,rfl,SqT.of hb,rfl,q.2,q.1,rfl,gq.b2 (by omega),gq.b1 (by omega),fun z=>absurd z q0,fun _ r hr'=> ?_⟩
 have y1:=sS (t:=q.2) q0
 have gf:Gf n (fx q.2 q.1,fy q.2 q.1):=⟨by show 0 < fy q.2 q.1;omega,Nat.lt_of_le_of_lt (m6 q.2 _) gq.bot,Nat.lt_of_le_of_lt (m6 q.1 _) gq.top⟩
 have sf:Sh (fx q.2 q.1,fy q.2 q.1):=cS q0
 have s1:=ah (o:= .tup [.int (fx q.2 q.1), .int (fy q.2 q.1)]) hr'
 refine ⟨a,r,_,_,_,_,rfl,SqT.of (s1 _ _ ha),SqT.of ac,⟨gp.pos,gf.pos,gp.b1 (by omega),gp.b2 (by omega),gf.b1 (by omega),gf.b2 (by omega)⟩,fun r2 H2 hr2 s2 h2=> ?_⟩
 exact k (.ref r2) H2 (bZ p (fx q.2 q.1,fy q.2 q.1)) (s1.trans s2) (aY h2) (gp.times gf) (dh sp sf)
def qE:Sp:=fun vs H Q _=>∃(tp c:Addr) (n:Nat),vs= [.ref tp]∧TapeAt H tp c n∧n+4≤1000000∧∀(v:V) (H':Hp) (p:Fr),TapeAt H' tp c (n+4)→But tp H H'→TrAt H' v (frT p)→Gf 12 p→Sh p→Q v H'
theorem scFw:ax ["_law_tape_here"] ["_law_tape_here"] (af sFew):=⟨rfl,rfl,rfl,by decide +kernel,rfl,by decide +kernel,by decide +kernel⟩
theorem lt12 {x:Int} (h:x.natAbs≤2000):Lt2 12 x:=Nat.lt_of_le_of_lt h (by decide)
theorem p5 {x:Int} (h:x.natAbs≤2000):Big x:=(lt12 h).big (by decide)
theorem wa {f fW fF C:Addr} {fd fdW fdF:FuncData} (F:Fun K "_law_few" "_law_few" sFew f fd) (GW:FnOk P w K mg base CX0 2 fW fdW ["_law_tape_here","_law_small","_law_great"] spWh) (kW:PySem.W.keepIn K (.ref fW)=true) (bW:Binds K fdW ["_law_tape_here","_law_small","_law_great"] []) (mW:mg "_law_whole"=some (.ref fW))
 (GF:FnOk P w K mg base (CX1 P w) 3 fF fdF ["top","bottom"] (spFr C)) (kF:PySem.W.keepIn K (.ref fF)=true) (bF:Binds K fdF ["top","bottom"] []) (mF:mg "fraction"=some (.ref fF)):
 FnOk P w K mg base CX0 4 f fd ["_law_tape_here"] qE:=by
 refine F.ok scFw (fun vs H Q E h=> ?_) (fun cdv A outer s H vs Q E hr h=> ?_)
 · obtain ⟨tp,c,n,rfl,_⟩:=h
   rfl
 obtain ⟨tp,c,n,rfl,hT,hn,k⟩:=h
 have hr2:Room 2 _:=hr.mono (by decide)
 refine ⟨_,ag (aj (ad GF hr rfl mF kF bF .nil jF (a8 (aE fk (ad GW hr2 rfl mW kW bW .nil ai (a8 (pv 0) (a8 aa (a8 aa a9)))) aa) (a8 (aE bU aa (ad GW hr2 rfl mW kW bW .nil ai (a8 (pv 0) (a8 aa (a8 aa a9))))) a9)))),?_⟩
 obtain ⟨g1,g2,g3⟩:=t59
 refine ⟨_,rfl,tp,c,9,1000,n,rfl,hT,by omega,by decide,by decide,by omega,fun r H1 r0 r1 hT1 kp1=> ?_⟩
 refine ⟨_,_,rfl,rfl,?_⟩
 refine ⟨_,rfl,tp,c,3,1000,n+2,rfl,hT1,by omega,by decide,by decide,by omega,fun q H2 q0 q1 hT2 kp2=> ?_⟩
 have b0:(0:Int) < 1+q:=by omega
 refine ⟨_,_,rfl,rfl,r - 4,1+q,rfl,p5 (by omega),p5 (by omega),fun z=>absurd z (by omega),fun _ p np=> ?_⟩
 have hl:=sU (t:=r - 4) b0
 have b2:But tp H H2:=But.of_keep (kp1.trans kp2)
 have np0:=b2.free hT2 np
 have sh:=cS (t:=r - 4) (b:=1+q) (by omega)
 exact k (.ref p) _ (fx (r - 4) (1+q),fy (r - 4) (1+q)) (hT2.wr (hT2.ne np)) (b2.wr np0) (aY ac) ⟨sh.1,lt12 (by omega),lt12 (by omega)⟩ sh
end
open PySem L2 Mth Tre Wd Su
structure PtOk (us:List Pq) (f wt:Fr):Prop where
 asc:Asc us
 len:us.length≤3
 gq:∀u∈us,Gq 40 u
 ln:∀u∈us,Ln u.1
 gf:Gf 12 f
 sf:Sh f
 gw:Gf 12 wt
 sw:Sh wt
 w0:0 < wt.1
noncomputable def ptT (us:List Pq) (f wt:Fr) (b:Bool):Tr:= .tup [.tup [s_ "most", .tup (us.map prT),frT f], .bl b,frT wt]
mutual
def Oq:Tr→Prop
 | .str x=>x.length≤100
 | .int i=>i.natAbs < 2^4000
 | .tup ts=>ts.length≤12∧Oqs ts
 |_=>True
def Oqs:List Tr→Prop
 | []=>True
 |t::ts=>Oq t∧Oqs ts
end
theorem rn:∀ {ts:List Tr},(∀t∈ts,Oq t)→Oqs ts
 | [],_=>by unfold Oqs;trivial
 |t::ts,h=>by unfold Oqs;exact ⟨h t List.mem_cons_self,rn fun u m=>h u (List.mem_cons_of_mem _ m)⟩
theorem oG:∀ {ts:List Tr} {t:Tr},Oqs ts→t∈ts→Oq t
 |a::ts,t,h,m=>by
  unfold Oqs at h
  rcases List.mem_cons.mp m with rfl|m
  · exact h.1
  · exact oG h.2 m
theorem oqT {ts:List Tr} (l:ts.length≤12) (h:∀t∈ts,Oq t):Oq (.tup ts):=by unfold Oq;exact ⟨l,rn h⟩
theorem oqS {x:Str} (h:x.length≤100):Oq (.str x):=by unfold Oq;exact h
theorem oqI {x:Int} (h:x.natAbs < 2^4000):Oq (.int x):=by unfold Oq;exact h
theorem fe {t:Tr} (h:Ln t):Oq t:=by
 induction h with
 |nm x hx=>
  refine oqT (by simp) fun t m=> ?_
  simp only [List.mem_cons,List.not_mem_nil,or_false] at m
  rcases m with rfl|rfl
  · exact oqS (by decide +kernel)
  · exact oqS (by have:=hx.le;omega)
 |ap f ts hf h0 h3 ht ih=>
  refine oqT (by simp) fun t m=> ?_
  simp only [List.mem_cons,List.not_mem_nil,or_false] at m
  rcases m with rfl|rfl|rfl
  · exact oqS (by decide +kernel)
  · exact oqS (by have:=hf.le;omega)
  · exact oqT (by omega) ih
theorem rq {p:Fr} (g:Gf 4000 p):Oq (frT p):=by
 refine oqT (by simp) fun t m=> ?_
 simp only [List.mem_cons,List.not_mem_nil,or_false] at m
 rcases m with rfl|rfl
 · exact oqI g.top
 · exact oqI g.bot
theorem i6 {a b:Tr} (h1:Oq a) (h2:Oq b):Oq (.tup [a,b]):=oqT (by simp) fun t m=>by
 simp only [List.mem_cons,List.not_mem_nil,or_false] at m
 rcases m with rfl|rfl
 · exact h1
 · exact h2
theorem lK {a b c:Tr} (h1:Oq a) (h2:Oq b) (h3:Oq c):Oq (.tup [a,b,c]):=oqT (by simp) fun t m=>by
 simp only [List.mem_cons,List.not_mem_nil,or_false] at m
 rcases m with rfl|rfl|rfl
 · exact h1
 · exact h2
 · exact h3
theorem xh {e:Nat} {us:List Pq} (he:e≤4000) (l:us.length≤12) (h:∀u∈us,Gq e u) (hn:∀u∈us,Ln u.1):Oq (.tup (us.map prT)):=by
 refine oqT (by rw [List.length_map];exact l) fun t m=> ?_
 obtain ⟨u,mu,rfl⟩:=List.mem_map.mp m
 exact i6 (fe (hn u mu)) (rq ((h u mu).gf.mono he))
theorem vd {t:Tr} (h:Gy t):Oq t:=by
 induction h with
 |fl x hx=>exact i6 (oqS (by decide +kernel)) (oqS (by have:=hx.le;omega))
 |mo us f hs hf _=>exact lK (oqS (by decide +kernel)) (xh (e:=603) (by decide) (by have:=hs.len;omega) hs.gq fun u m=>(hs.ln u m).1) (rq (hf.mono (by decide)))
 |li t u h1 h2 l1 l2 d1 d2=>exact lK (oqS (by decide +kernel)) (fe l1) (fe l2)
 |no w _ ih=>exact i6 (oqS (by decide +kernel)) ih
 |bo l hl _ ih=>exact i6 (oqS (by decide +kernel)) (oqT (by omega) ih)
 |ei l hl _ ih=>exact i6 (oqS (by decide +kernel)) (oqT (by omega) ih)
structure Th (n:Nat) (t:Tr):Prop where
 pu:t.pure
 dp:t.depth≤n
 oq:Oq t
theorem Th.mono {m n:Nat} {t:Tr} (h:Th m t) (hn:m≤n):Th n t:=⟨h.pu,Nat.le_trans h.dp hn,h.oq⟩
theorem er {n:Nat} {ts:List Tr} (l:ts.length≤12) (h:∀t∈ts,Th n t):Th (n+1) (.tup ts):=by
 refine ⟨?_,?_,oqT l fun t m=>(h t m).oq⟩
 · unfold Tr.pure
   exact eJ fun t m=>(h t m).pu
 · have:=cq fun t m=>(h t m).dp
   simp only [Tr.depth]
   omega
theorem fi (n:Nat) (x:Str) (h:x.length≤100:=by decide +kernel):Th n (.str x):=⟨by unfold Tr.pure;trivial,by simp [Tr.depth],oqS h⟩
theorem gm (n:Nat) (x:Int) (h:x.natAbs < 2^4000):Th n (.int x):=⟨by unfold Tr.pure;trivial,by simp [Tr.depth],oqI h⟩
theorem kl {x:Int} (h0:0≤x) (h1:x < 1000):x.natAbs < 2^4000:=Nat.lt_of_lt_of_le (show x.natAbs < 1000 by omega) (by decide +kernel)
theorem wK (n:Nat) (x:Bool):Th n (.bl x):=⟨by unfold Tr.pure;trivial,by simp [Tr.depth],by unfold Oq;trivial⟩
theorem uY (n:Nat) (p:Fr) (g:Gf 4000 p):Th (n+1) (frT p):=er (by simp) fun t m=>by
 simp only [List.mem_cons,List.not_mem_nil,or_false] at m
 rcases m with rfl|rfl
 · exact gm _ _ g.top
 · exact gm _ _ g.bot
theorem fq {n:Nat} {a b c:Tr} (h1:Th n a) (h2:Th n b) (h3:Th n c):Th (n+1) (.tup [a,b,c]):=er (by simp) fun t m=>by
 simp only [List.mem_cons,List.not_mem_nil,or_false] at m
 rcases m with rfl|rfl|rfl
 · exact h1
 · exact h2
 · exact h3
theorem wG {e:Nat} {us:List Pq} (he:e≤4000) (l:us.length≤12) (hn:∀u∈us,Ln u.1) (h:∀u∈us,Gq e u):Th 9 (.tup (us.map prT)):=er (by rw [List.length_map];exact l) fun t m=>by
 obtain ⟨p,mp,rfl⟩:=List.mem_map.mp m
 have:=(h p mp).pr
 exact ⟨c5 this.1,this.2,i6 (fe (hn p mp)) (rq ((h p mp).gf.mono he))⟩
theorem o8 {e:Nat} {us:List Pq} (he:e≤4000) (l:us.length≤12) (hn:∀u∈us,Ln u.1) (h:∀u∈us,Gq e u) (f:Fr) (g:Gf 4000 f):Th 10 (.tup [s_ "most", .tup (us.map prT),frT f]):=fq (fi _ _) (wG he l hn h) (uY 8 f g)
theorem o7 {e:Nat} {us:List Pq} (he:e≤4000) (l:us.length≤12) (hn:∀u∈us,Ln u.1) (h:∀u∈us,Gq e u) (f wt:Fr) (b:Bool) (g:Gf 4000 f) (g2:Gf 4000 wt):Th 11 (ptT us f wt b):=fq (o8 he l hn h f g) (wK _ _) (uY 9 wt g2)
section
variable {P:Program} {w:World} {K:PySem.W.Frag} {mg:Str→Option Value} {base:Heap}
def kh:Sp:=fun vs H Q _=>∃(tp c nl:Addr) (k:Nat),vs= [.ref tp, .ref nl]∧TapeAt H tp c k∧k+80≤1000000∧Names H nl∧nl≠tp∧
 ∀(v:V) (us:List Pq) (f wt:Fr) (b:Bool) (H':Hp),TapeAt H' tp c (k+80)→But tp H H'→TrAt H' v (ptT us f wt b)→PtOk us f wt→Q v H'
theorem scPt:ax ["_law_tape_here","_law_names_here","_law_pairs","_law_atom_here","_law_weight"] ["_law_tape_here","_law_names_here"] (af jA):=⟨rfl,rfl,rfl,by decide +kernel,rfl,by decide +kernel,by decide +kernel⟩
theorem ut {f fT fS fM fD fW fF C:Addr} {fd dT dS dM dD dW dF:FuncData} (F:Fun K "_law_part" "_law_part" jA f fd) (B:Blt mg)
 (gT:FnOk P w K mg base CX0 3 fT dT ["_law_tape_here","_law_names_here","_law_deep"] (eG 2)) (kT:PySem.W.keepIn K (.ref fT)=true) (bT:Binds K dT ["_law_tape_here","_law_names_here","_law_deep"] []) (mT:mg "_law_term"=some (.ref fT))
 (gS:FnOk P w K mg base CX0 4 fS dS ["_law_tape_here"] qE) (kS:PySem.W.keepIn K (.ref fS)=true) (bS:Binds K dS ["_law_tape_here"] []) (mS:mg "_law_few"=some (.ref fS))
 (gM:FnOk P w K mg base CX0 3 fM dM ["pairs"] gx) (kM:PySem.W.keepIn K (.ref fM)=true) (bM:Binds K dM ["pairs"] []) (mM:mg "sum_of"=some (.ref fM))
 (gD:FnOk P w K mg base CX0 1 fD dD ["_law_tape_here","_law_many"] ci) (kD:PySem.W.keepIn K (.ref fD)=true) (bD:Binds K dD ["_law_tape_here","_law_many"] []) (mD:mg "_law_draw"=some (.ref fD))
 (gW:FnOk P w K mg base CX0 2 fW dW ["_law_tape_here","_law_small","_law_great"] spWh) (kW:PySem.W.keepIn K (.ref fW)=true) (bW:Binds K dW ["_law_tape_here","_law_small","_law_great"] []) (mW:mg "_law_whole"=some (.ref fW))
 (gF:FnOk P w K mg base (CX1 P w) 3 fF dF ["top","bottom"] (spFr C)) (kF:PySem.W.keepIn K (.ref fF)=true) (bF:Binds K dF ["top","bottom"] []) (mF:mg "fraction"=some (.ref fF)):
 FnOk P w K mg base CX0 5 f fd ["_law_tape_here","_law_names_here"] kh:=by
 refine F.ok scPt (fun vs H Q E h=> ?_) (fun cdv A outer s H vs Q E hr h=> ?_)
 · obtain ⟨tp,c,nl,k,rfl,_⟩:=h
   rfl
 obtain ⟨tp,c,nl,kk,rfl,hT,hn,hN,nt,k⟩:=h
 have hr1:Room 1 _:=hr.mono (by decide)
 have hr2:Room 2 _:=hr.mono (by decide)
 have hr3:Room 3 _:=hr.mono (by decide)
 refine ⟨_,ae (oB (NC:= ["_law_k","_law_names_here","_law_tape_here"]) (mp:= [none,some 1,some 0]) (i:=2) rfl scPt.nd rfl rfl rfl (bY rfl B.ra (a8 (ad gD hr1 rfl mD kD bD .nil ai (a8 (pv 0) (a8 aa a9))) a9)) (fun _ _ _ _ _=>aQ (i:=0) (show (["_law_k","_law_names_here","_law_tape_here"]:List Str).Nodup by decide +kernel) rfl (Or.inl rfl)) (fun _ _ _ _ _=>bp)
  (fun _ _ _ _ _=>aH (a8 (ad gT hr3 rfl mT kT bT .nil ai (a8 (pv 2) (a8 (pv 1) (a8 aa a9)))) (a8 (ad gS hr rfl mS kS bS .nil ai (a8 (pv 2) a9)) a9))))
  (ae (aD (i:=3) scPt.nd rfl (Or.inl rfl) (aH (a8 aA (a8 (ad gM hr3 rfl mM kM bM .nil ai (a8 (pv 2) a9)) (a8 (ad gS hr rfl mS kS bS .nil ai (a8 (pv 0) a9)) a9)))))
  (ae (aD (i:=4) scPt.nd rfl (Or.inl rfl) (ad gF hr3 rfl mF kF bF .nil jF (a8 (aE bU aa (ad gW hr2 rfl mW kW bW .nil ai (a8 (pv 0) (a8 aa (a8 aa a9))))) (a8 (aE bU aa (ad gD hr1 rfl mD kD bD .nil ai (a8 (pv 0) (a8 aa a9)))) a9))))
  (ag (aj (aH (a8 (pv 3) (a8 (aR be (ad gD hr1 rfl mD kD bD .nil ai (a8 (pv 0) (a8 aa a9))) aa (aq _)) (a8 (pv 4) a9)))))))),?_⟩
 have hL:(20000:Nat)≤sizeLine:=by decide +kernel
 obtain ⟨g1,g2,g3⟩:=t59
 refine o0 rfl ?_
 refine ⟨_,rfl,tp,c,4,kk,rfl,hT,by omega,by decide,ba (by decide) (by decide),fun r H0 r0 r1 hT0 kp0=> ?_⟩
 refine ⟨r,rfl,by omega,by omega,fun D nD=> ?_⟩
 obtain ⟨m,em⟩:∃m:Nat,r.toNat=m:=⟨_,rfl⟩
 have m3:m≤3:=by omega
 have b0:But tp H H0:=But.of_keep kp0
 have nfD:=hT0.ne nD
 have n0D:=b0.free hT0 nD
 rw [em]
 refine bV (n:=m) (fun i acc H'=>TapeAt H' tp c (kk+1+i*20)∧But tp H H'∧H' D=some (.lst acc)∧∃ps:List Pq,TrsAt H' acc (ps.map prT)∧ps.length=i∧(∀p∈ps,Gq 12 p)∧∀p∈ps,Ln p.1)
  ⟨(hT0.wr nfD).mono (by omega),b0.wr n0D,ac,[], .nil,rfl,(fun y m=>by cases m),fun y m=>by cases m⟩ ?_ ?_
 · rintro i acc H' hi ⟨hT',bt,hD,ps,hTs,hl,hw,hln⟩
   refine ⟨_,rfl,_,rfl,tp,c,nl,1,kk+1+i*20,rfl,hT',by show kk+1+i*20+16≤1000000;omega,hN.but nt bt,nt,by decide,fun v t H1 hT1 b1 hv tyt lnt dt=> ?_⟩
   refine ⟨_,rfl,tp,c,kk+1+i*20+16,rfl,hT1,by omega,fun v2 H2 q hT2 b2 hv2 gq sq=> ?_⟩
   refine ⟨by show 2≤sizeLine;decide,fun p np=> ?_⟩
   have kd1:=b1.kd hT' hT1
   have kd2:=b2.kd hT1 hT2
   have sp:Same H2 (upd H2 p (.tup [v,v2])):=ah np
   have hD2:(upd H2 p (.tup [v,v2])) D=some (.lst acc):=sp _ _ (b2 D _ nfD.1 (b1 D _ nfD.1 hD))
   have tp6:=Kd.upd (ys:=acc++ [.ref p]) hD2
   have nDp:p≠D:=fun z=>by rw [z,b2 D _ nfD.1 (b1 D _ nfD.1 hD)] at np;cases np
   have hp:(upd (upd H2 p (.tup [v,v2])) D (.lst (acc++ [.ref p]))) p=some (.tup [v,v2]):=by
    rw [aB nDp]
    exact ac
   have ks:=(Kd.of_same sp).trans tp6
   have hl2:=hTs.len
   rw [List.length_map] at hl2
   refine CompN.mk hi (by omega) hD2 ⟨?_,((bt.trans (b1.trans b2)).trans (But.of_same sp)).wr n0D,ac,ps++ [(t,q)],by rw [List.map_append];exact TrsAt.app (.cons (cW hp (hv.mono (kd2.trans ks)) (hv2.mono ks)) .nil) (hTs.mono (kd1.trans (kd2.trans ks))),by simp [hl],fun u mu=> ?_,fun u mu=> ?_⟩
   · exact ((hT2.same sp).wr nfD).mono (by omega)
   · rcases List.mem_append.mp mu with mu|mu
     · exact hw u mu
     · rw [List.mem_singleton.mp mu]
       exact ⟨tyt,by dsimp only;omega,gq,sq⟩
   · rcases List.mem_append.mp mu with mu|mu
     · exact hln u mu
     · rw [List.mem_singleton.mp mu]
       exact lnt
 · rintro acc H4 ⟨hT4,b4,hD,ps,hTs,hl,hw,hln⟩
   refine aI ?_
   refine ⟨_,rfl,D,acc,ps,3,12,rfl,hD,hTs,by omega,by decide,by decide,hw,fun v H5 us s5 hv hcan hul hgu=> ?_⟩
   refine ⟨_,rfl,tp,c,kk+1+m*20,rfl,hT4.same s5,by omega,fun vf H6 ff hT6 b6 hvf gff sff=> ?_⟩
   have kd6:=b6.kd (hT4.same s5) hT6
   refine ⟨by show 3≤sizeLine;decide,fun pa npa=> ?_⟩
   have s7:=ah (o:= .tup [.str (Str.ofString "most"),v,vf]) npa
   have h7:(upd H6 pa (.tup [.str (Str.ofString "most"),v,vf])) pa=some (.tup [.str (Str.ofString "most"),v,vf]):=ac
   have hT7:=hT6.same s7
   have hat7:TrAt (upd H6 pa (.tup [.str (Str.ofString "most"),v,vf])) (.ref pa) (.tup [s_ "most", .tup (us.map prT),frT ff]):=at_tup h7 (.cons at_str (.cons (hv.mono (kd6.trans (Kd.of_same s7))) (.cons (hvf.mono (Kd.of_same s7)) .nil)))
   have b7:But tp H (upd H6 pa (.tup [.str (Str.ofString "most"),v,vf])):=b4.trans ((But.of_same s5).trans (b6.trans (But.of_same s7)))
   generalize upd H6 pa (.tup [.str (Str.ofString "most"),v,vf])=H7 at hT7 hat7 b7 ⊢
   refine ⟨_,rfl,tp,c,5,1000,_,rfl,hT7,by omega,by decide,by decide,by omega,fun r8 H8 r80 r81 hT8 kp8=> ?_⟩
   refine ⟨_,_,rfl,rfl,?_⟩
   refine ⟨_,rfl,tp,c,3,_,rfl,hT8,by omega,by decide,ba (by decide) (by decide),fun r9 H9 r90 r91 hT9 kp9=> ?_⟩
   refine ⟨_,_,rfl,rfl,1+r8,1+r9,rfl,p5 (by omega),p5 (by omega),fun z=>absurd z (by omega),fun _ pw npw=> ?_⟩
   have b0':(0:Int) < 1+r9:=by omega
   have hlw:=sU (t:=1+r8) b0'
   have sh:=cS (t:=1+r8) (b:=1+r9) (by omega)
   have b9:But tp H7 H9:=But.of_keep (kp8.trans kp9)
   have kd9:=b9.kd hT7 hT9
   have sA:=ah (o:= .tup [.int (fx (1+r8) (1+r9)), .int (fy (1+r8) (1+r9))]) npw
   have hw0:0 < fx (1+r8) (1+r9):=by
    rw [(nP (t:=1+r8) b0').1]
    exact Int.ediv_pos_of_pos_of_dvd (by omega) (by omega) (Int.gcd_dvd_left _ _)
   have hwA:TrAt (upd H9 pw (.tup [.int (fx (1+r8) (1+r9)), .int (fy (1+r8) (1+r9))])) (.ref pw) (frT (fx (1+r8) (1+r9),fy (1+r8) (1+r9))):=aY ac
   have hTA:=hT9.same sA
   have hatA:=hat7.mono (kd9.trans (Kd.of_same sA))
   have bA:=b7.trans (b9.trans (But.of_same sA))
   generalize upd H9 pw (.tup [.int (fx (1+r8) (1+r9)), .int (fy (1+r8) (1+r9))])=HA at hwA hTA hatA bA ⊢
   refine ⟨_,rfl,_,rfl,tp,c,2,_,rfl,hTA,by omega,by decide,ba (by decide) (by decide),fun rB HB _ _ hTB kpB=> ?_⟩
   have bB:But tp HA HB:=But.of_keep kpB
   have kdB:=bB.kd hTA hTB
   refine ⟨rfl,_,rfl,by show 3≤sizeLine;decide,fun p np=> ?_⟩
   have sp:=ah (o:= .tup [.ref pa, .bl (decide (V.int rB=V.int 1)), .ref pw]) np
   have bb:=bA.trans bB
   refine k (.ref p) us ff (fx (1+r8) (1+r9),fy (1+r8) (1+r9)) (decide (V.int rB=V.int 1)) _ ((hTB.same sp).mono (by omega)) (bb.trans (But.of_same sp)) (at_tup ac (.cons (hatA.mono (kdB.trans (Kd.of_same sp))) (.cons vt (.cons (hwA.mono (kdB.trans (Kd.of_same sp))) .nil)))) ⟨hcan.asc,by omega,fun u mu=>(hgu u mu).mono (by decide),fun u mu=> ?_,gff,sff,⟨sh.1,lt12 (by omega),lt12 (by omega)⟩,sh,hw0⟩
   obtain ⟨p0,mp0,e0⟩:=gh hcan mu
   rw [←e0]
   exact hln p0 mp0
def fv:Sp:=fun vs H Q _=>∃(v:V) (us:List Pq) (f wt:Fr) (b:Bool),vs= [v]∧TrAt H v (ptT us f wt b)∧PtOk us f wt∧∀(x:V) (H':Hp) (r:Fr),Same H H'→TrAt H' x (frT r)→Gf 14 r→Sh r→r.1≠0→Q x H'
theorem scSg:ax ["_law_part_here"] ["_law_part_here"] (af eV):=⟨rfl,rfl,rfl,by decide +kernel,rfl,by decide +kernel,by decide +kernel⟩
theorem gf_m1:Gf 2 m1:=⟨by decide,by show (1:Nat) < 2^2;decide,by show (1:Nat) < 2^2;decide⟩
theorem pJ {f fT:Addr} {fd dT:FuncData} (F:Fun K "_law_signed" "_law_signed" eV f fd) (GT:FnOk P w K mg base CX0 2 fT dT ["one","other"] (cU K)) (kT:PySem.W.keepIn K (.ref fT)=true) (bT:Binds K dT ["one","other"] []) (mT:mg "times"=some (.ref fT)):FnOk P w K mg base CX0 3 f fd ["_law_part_here"] fv:=by
 refine F.ok scSg (fun vs H Q E h=> ?_) (fun cdv A outer s H vs Q E hr h=> ?_)
 · obtain ⟨v,us,ff,wt,b,rfl,_⟩:=h
   rfl
 obtain ⟨v,us,ff,wt,b,rfl,hv,ho,k⟩:=h
 refine ⟨_,ae (aK (aU (am ak (pv 0) aa fun _ _=>rfl)) (ag (aj (am ak (pv 0) aa fun _ _=>rfl))) az)
  (ag (aj (ad GT hr rfl mT kT bT .nil ai (a8 (am ak (pv 0) aa fun _ _=>rfl) (a8 (aH (a8 (cV cr aa) (a8 aa a9))) a9))))),?_⟩
 obtain ⟨r,vs,rfl,h1,h2⟩:=at_t hv
 obtain ⟨x0,rr,rfl,hx0,h3⟩:=h2.inv
 obtain ⟨x1,rr2,rfl,hx1,h4⟩:=h3.inv
 obtain ⟨x2,rr3,rfl,hx2,h5⟩:=h4.inv
 unfold TrsAt at h5
 subst h5
 unfold TrAt at hx1
 subst hx1
 obtain ⟨rw',rfl,hrw⟩:=cH hx2
 refine ⟨_,rfl,r,_,1, .bl b,rfl,rfl,SqT.of h1,rfl,b,rfl,?_⟩
 cases b with
 |true=>
  refine iteT ⟨_,rfl,r,_,2, .ref rw',rfl,rfl,SqT.of h1,rfl,?_⟩
  exact k _ H wt (Same.refl H) hx2 (ho.gw.mono (by decide)) ho.sw (by have:=ho.w0;omega)
 |false=>
  refine iteF ?_
  refine ⟨_,rfl,r,_,2, .ref rw',rfl,rfl,SqT.of h1,rfl,_,rfl,by show 2≤sizeLine;decide,fun p np=> ?_⟩
  have s1:=ah (o:= .tup [.int (-1), .int 1]) np
  refine ⟨rw',p,_,_,_,_,rfl,SqT.of (s1 _ _ hrw),SqT.of ac,⟨ho.gw.pos,by decide,ho.gw.b1 (by decide),ho.gw.b2 (by decide),gf_m1.b1 (by decide),gf_m1.b2 (by decide)⟩,fun r2 H2 hr2 s2 h2'=> ?_⟩
  have st:=dh ho.sw qH
  refine k (.ref r2) H2 (bZ wt m1) (s1.trans s2) (aY h2') (ho.gw.times gf_m1) st fun z=> ?_
  have e1:rv (bZ wt m1)=0:=by
   show (((bZ wt m1).1:Int):Rat) / (((bZ wt m1).2:Int):Rat)=0
   rw [z]
   show (0:Rat) / _=0
   grind
  rw [qI ho.sw qH] at e1
  have e2:rv wt≠0:=fun z=>by
   have:=(oA ho.sw).mp z
   have:=ho.w0
   rw [‹wt=zero›] at this
   exact absurd this (by decide)
  have e3:rv m1= -1:=by
   show ((-1:Int):Rat) / ((1:Int):Rat)= -1
   decide +kernel
  rw [e3] at e1
  grind
end
open PySem L2 Mth Tre Wd Su
abbrev Pd:=List Pq×Fr×Fr×Bool
noncomputable def pdT (d:Pd):Tr:=ptT d.1 d.2.1 d.2.2.1 d.2.2.2
def PdOk (d:Pd):Prop:=PtOk d.1 d.2.1 d.2.2.1
theorem qP {H:Hp} {v:V} {us:List Pq} {f wt:Fr} {b:Bool} (h:TrAt H v (ptT us f wt b)):∃r a ru rf rw',v= .ref r∧H r=some (.tup [.ref a, .bl b, .ref rw'])∧H a=some (.tup [.str "most", .ref ru, .ref rf])∧TrAt H (.ref ru) (.tup (us.map prT))∧H rf=some (.tup [.int f.1, .int f.2])∧H rw'=some (.tup [.int wt.1, .int wt.2]):=by
 obtain ⟨r,vs,rfl,h1,h2⟩:=at_t h
 obtain ⟨x0,rr,rfl,hx0,h3⟩:=h2.inv
 obtain ⟨x1,rr2,rfl,hx1,h4⟩:=h3.inv
 obtain ⟨x2,rr3,rfl,hx2,h5⟩:=h4.inv
 unfold TrsAt at h5
 subst h5
 unfold TrAt at hx1
 subst hx1
 obtain ⟨rw',rfl,hrw⟩:=cH hx2
 obtain ⟨a,y,z,rfl,ha,hy,hz⟩:=at3 hx0
 obtain ⟨ru,vs,rfl,hru,hrs⟩:=at_t hy
 obtain ⟨rf,rfl,hrf⟩:=cH hz
 exact ⟨r,a,ru,rf,rw',rfl,h1,ha,hy,hrf,hrw⟩
theorem oq1 {a b:Tr} (h:Oq (.tup [a,b])):Oq b:=by
 unfold Oq at h
 exact oG h.2 (by simp)
theorem sQ:Gf 1 zero:=⟨by decide,by show (0:Nat) < 2^1;decide,by show (1:Nat) < 2^1;decide⟩
section
variable {P:Program} {w:World} {K:PySem.W.Frag} {mg:Str→Option Value} {base:Heap}
def iL:Sp:=fun vs H Q _=>∃(l:Addr) (ws:List V) (ds:List Pd),vs= [.ref l]∧H l=some (.lst ws)∧TrsAt H ws (ds.map pdT)∧ds.length≤3∧(∀d∈ds,PdOk d)∧
 ∀(x:V) (H':Hp) (as:List Pq) (bd:Fr),Same H H'→TrAt H' x (.tup [.tup (as.map prT),frT bd])→Asc as→as.length≤9→(∀p∈as,Gq 165 p)→(∀p∈as,Ln p.1)→Gf 82 bd→Sh bd→Q x H'
theorem scTo:ax ["_law_parts_here","_law_whole_here","_law_bound","_law_part_here"] ["_law_parts_here"] (af eU):=⟨rfl,rfl,rfl,by decide +kernel,rfl,by decide +kernel,by decide +kernel⟩
theorem pH {f fA fB fS fP fT:Addr} {fd dA dB dS dP dT:FuncData} (F:Fun K "_law_totals" "_law_totals" eU f fd)
 (gA:FnOk P w K mg base CX0 4 fA dA ["one","other"] kg) (kA:PySem.W.keepIn K (.ref fA)=true) (bA:Binds K dA ["one","other"] []) (mA:mg "sum_plus"=some (.ref fA))
 (gB:FnOk P w K mg base CX0 4 fB dB ["one","many"] fw) (kB:PySem.W.keepIn K (.ref fB)=true) (bB:Binds K dB ["one","many"] []) (mB:mg "sum_times"=some (.ref fB))
 (gS:FnOk P w K mg base CX0 3 fS dS ["_law_part_here"] fv) (kS:PySem.W.keepIn K (.ref fS)=true) (bS:Binds K dS ["_law_part_here"] []) (mS:mg "_law_signed"=some (.ref fS))
 (gP:FnOk P w K mg base CX0 2 fP dP ["one","other"] (gy K)) (kP:PySem.W.keepIn K (.ref fP)=true) (bP:Binds K dP ["one","other"] []) (mP:mg "plus"=some (.ref fP))
 (gT:FnOk P w K mg base CX0 2 fT dT ["one","other"] (cU K)) (kT:PySem.W.keepIn K (.ref fT)=true) (bT:Binds K dT ["one","other"] []) (mT:mg "times"=some (.ref fT)):FnOk P w K mg base CX0 5 f fd ["_law_parts_here"] iL:=by
 refine F.ok scTo (fun vs H Q E h=> ?_) (fun cdv A outer s H vs Q E hr h=> ?_)
 · obtain ⟨l,ws,ds,rfl,_⟩:=h
   rfl
 obtain ⟨l,ws,ds,rfl,hl,hT,d3,hd,k⟩:=h
 have hr2:Room 2 _:=hr.mono (by decide)
 have hr3:Room 3 _:=hr.mono (by decide)
 refine ⟨_,ae (aD (i:=1) scTo.nd rfl (Or.inl rfl) (aH a9))
  (ae (aD (i:=2) scTo.nd rfl (Or.inl rfl) (aH (a8 aa (a8 aa a9))))
  (ae (iT PassesOwn.never rfl (fK (pv 0)) (aQ (i:=3) scTo.nd rfl (Or.inl rfl))
   (ae (aD (i:=1) scTo.nd rfl (Or.inl rfl) (ad gA hr rfl mA kA bA .nil ai (a8 (pv 1) (a8 (ad gB hr rfl mB kB bB .nil ai (a8 (am ak (am ak (pv 3) aa fun _ _=>rfl) aa fun _ _=>rfl) (a8 (ad gS hr3 rfl mS kS bS .nil ai (a8 (pv 3) a9)) a9))) a9))))
   (ag (aD (i:=2) scTo.nd rfl (Or.inl rfl) (ad gP hr2 rfl mP kP bP .nil ai (a8 (pv 2) (a8 (ad gT hr2 rfl mT kT bT .nil ai (a8 (am ak (am ak (pv 3) aa fun _ _=>rfl) aa fun _ _=>rfl) (a8 (ad gS hr3 rfl mS kS bS .nil ai (a8 (pv 3) a9)) a9))) a9)))))))
  (ag (aj (aH (a8 (pv 1) (a8 (pv 2) a9))))))),?_⟩
 have hL:(20000:Nat)≤sizeLine:=by decide +kernel
 have wl:=hT.len
 rw [List.length_map] at wl
 refine ⟨by show 0≤sizeLine;decide,fun p1 np1=> ?_⟩
 have s1:=ah (o:= .tup []) np1
 refine ⟨by show 2≤sizeLine;decide,fun p2 np2=> ?_⟩
 have s2:=ah (o:= .tup [.int 0, .int 1]) np2
 have s12:=s1.trans s2
 refine ⟨_,rfl,l,rfl,⟨ws,SqL.of (s12 _ _ hl)⟩,?_⟩
 refine fZ (xs:=ws) (fun i σ H'=>Same H H'∧∃(wv bv:V) (v3:Option V) (as:List Pq) (bd:Fr),σ= [some (.ref l),some wv,some bv,v3]∧TrAt H' wv (.tup (as.map prT))∧Asc as∧as.length≤3*i∧(∀p∈as,Gq (55*i) p)∧(∀p∈as,Ln p.1)∧TrAt H' bv (frT bd)∧Gf (27*i+1) bd∧Sh bd)
  ⟨s12,_,_,none,[],zero,rfl,at_tup (s2 _ _ ac) .nil,List.Pairwise.nil,Nat.le_refl _,(fun p m=>by cases m),(fun p m=>by cases m),aY ac,sQ,ou⟩ (fun i σ H' _ p=>SqL.of (p.1 _ _ hl)) ?_ ?_
 · rintro i x σ H1 ex ⟨sH,wv,bv,v3,as,bd,rfl,hw,asc,al,ga,gl,hb,gb,sb⟩
   obtain ⟨t,et,ht⟩:=(hT.mono (Kd.of_same sH)).get' ex
   rw [List.getElem?_map] at et
   obtain ⟨⟨us,ff,wt,b⟩,ed,rfl⟩:=Option.map_eq_some_iff.mp et
   have ilt:i < ds.length:=(List.getElem?_eq_some_iff.mp ed).1
   have ho:PtOk us ff wt:=hd _ (List.mem_of_getElem? ed)
   have ht':TrAt H1 x (ptT us ff wt b):=ht
   obtain ⟨r,a,ru,rf,rw',rfl,h1,ha,hu,hrf,hrw⟩:=qP ht'
   refine ⟨_,rfl,_,rfl,r,_,0, .ref a,rfl,rfl,SqT.of h1,rfl,a,_,1, .ref ru,rfl,rfl,SqT.of ha,rfl,_,rfl, .ref r,us,ff,wt,b,rfl,ht',ho,fun sx H2 sg s2' hsx gsx ssx sx0=> ?_⟩
   refine ⟨_,_,us,sg,3,40,14,rfl,hu.mono (Kd.of_same s2'),hsx,ssx,gsx,ho.len,by decide,by decide,by decide,by decide,ho.asc,ho.gq,fun y H3 vs s3 hy hcan hvl hgv=> ?_⟩
   have ga':∀p∈as,Gq 200 p:=fun p m=>(ga p m).mono (by omega)
   refine ⟨_,_,as,vs,12,200,rfl,hw.mono (Kd.of_same (s2'.trans s3)),hy,by have:=ho.len;omega,by decide,by decide,ga',fun p m=>(hgv p m).mono (by decide),fun z H4 xs s4 hz hcx hxl hgx=> ?_⟩
   have hgx2:∀p∈xs,Gq (55*(i+1)) p:=fun p m=>⟨(hgx p m).ty,(hgx p m).dep,(tD hcx asc hcan.asc ga hgv m).mono (by omega),(hgx p m).sh⟩
   have hlx:∀p∈xs,Ln p.1:=fun p m=>by
    obtain ⟨q,mq,e0⟩:=gh hcx m
    rw [←e0]
    rcases List.mem_append.mp mq with mq|mq
    · exact gl q mq
    · obtain ⟨q2,mq2,e2⟩:=gh hcan mq
      rw [←e2]
      obtain ⟨q3,mq3,rfl⟩:=List.mem_map.mp mq2
      exact ho.ln q3 mq3
   have sA:=s2'.trans (s3.trans s4)
   refine aI ?_
   dsimp only
   have ht4:=ht'.mono (Kd.of_same sA)
   refine ⟨_,rfl,_,rfl,r,_,0, .ref a,rfl,rfl,SqT.of (sA _ _ h1),rfl,a,_,2, .ref rf,rfl,rfl,SqT.of (sA _ _ ha),rfl,_,rfl, .ref r,us,ff,wt,b,rfl,ht4,ho,fun sy H5 sg2 s5 hsy gsy ssy sy0=> ?_⟩
   obtain ⟨ry,rfl,hry⟩:=cH hsy
   refine ⟨rf,ry,_,_,_,_,rfl,SqT.of (s5 _ _ (sA _ _ hrf)),SqT.of hry,⟨ho.gf.pos,gsy.pos,ho.gf.b1 (by decide),ho.gf.b2 (by decide),gsy.b1 (by decide),gsy.b2 (by decide)⟩,fun r6 H6 _ s6 h6=> ?_⟩
   have gt:Gf 26 (bZ ff sg2):=ho.gf.times gsy
   have st:Sh (bZ ff sg2):=dh ho.sf ssy
   obtain ⟨rb,rfl,hrb⟩:=cH (hb.mono (Kd.of_same (sA.trans (s5.trans s6))))
   refine ⟨rb,r6,_,_,(bZ ff sg2).1,(bZ ff sg2).2,rfl,SqT.of hrb,SqT.of h6,⟨gb.pos,gt.pos,gb.b1 (by omega),gb.b2 (by omega),gt.b1 (by decide),gt.b2 (by decide)⟩,fun r7 H7 _ s7 h7=> ?_⟩
   refine ⟨sH.trans (sA.trans (s5.trans (s6.trans s7))),z, .ref r7,_,xs,eK bd (bZ ff sg2),rfl,hz.mono (Kd.of_same (s5.trans (s6.trans s7))),hcx.asc,?_,hgx2,hlx,aY h7,(gb.plus gt).mono (by omega),fz sb st⟩
   have:=ho.len
   omega
 · rintro σ H1 ⟨sH,wv,bv,v3,as,bd,rfl,hw,asc,al,ga,gl,hb,gb,sb⟩
   rw [wl] at al ga gb
   refine ⟨_,rfl,_,rfl,by show 2≤sizeLine;decide,fun p np=> ?_⟩
   have sp:=ah (o:= .tup [wv,bv]) np
   exact k (.ref p) _ as bd (sH.trans sp) (cW ac (hw.mono (Kd.of_same sp)) (hb.mono (Kd.of_same sp))) asc (by omega) (fun p m=>(ga p m).mono (by omega)) gl (gb.mono (by omega)) sb
def kf:Sp:=fun vs H Q _=>∃(tp c nl:Addr) (d k:Nat),vs= [.ref tp, .ref nl, .int (d:Int)]∧TapeAt H tp c k∧k+140*4^d≤1000000∧Names H nl∧nl≠tp∧d < 3∧
 ∀v t H',TapeAt H' tp c (k+140*4^d)→But tp H H'→TrAt H' v t→Th 12 t→Q v H'
theorem scTh:ax ["_law_tape_here","_law_names_here","_law_deep","_law_wish_here"] ["_law_tape_here","_law_names_here","_law_deep"] (af gJ):=⟨rfl,rfl,rfl,by decide +kernel,rfl,by decide +kernel,by decide +kernel⟩
theorem rH {f fW:Addr} {fd dW:FuncData} {nW:Nat} (hW:nW=9) (F:Fun K "_law_thing" "_law_thing" gJ f fd)
 (gW:FnOk P w K mg base CX0 nW fW dW ["_law_tape_here","_law_names_here","_law_deep"] (qA 3)) (kW:PySem.W.keepIn K (.ref fW)=true) (bW:Binds K dW ["_law_tape_here","_law_names_here","_law_deep"] []) (mW:mg "_law_wish"=some (.ref fW)):FnOk P w K mg base CX0 10 f fd ["_law_tape_here","_law_names_here","_law_deep"] kf:=by
 subst hW
 refine F.ok scTh (fun vs H Q E h=> ?_) (fun cdv A outer s H vs Q E hr h=> ?_)
 · obtain ⟨tp,c,nl,d,k,rfl,_⟩:=h
   rfl
 obtain ⟨tp,c,nl,d,kk,rfl,hT,hn,hN,nt,d3,k⟩:=h
 refine ⟨_,ae (aD (i:=3) scTh.nd rfl (Or.inl rfl) (ad gW hr rfl mW kW bW .nil ai (a8 (pv 0) (a8 (pv 1) (a8 (pv 2) a9)))))
  (ae (ly PassesOwn.never (aw be (am ak (pv 3) aa fun _ _=>rfl) aA (aq _)) (ag (aD (i:=3) scTh.nd rfl (Or.inl rfl) (am ak (pv 3) aa fun _ _=>rfl))))
  (ag (aj (pv 3)))),?_⟩
 refine ⟨_,rfl,_,rfl,_,rfl,tp,c,nl,d,kk,rfl,hT,hn,hN,nt,d3,fun v t H1 hT1 b1 hv gw dt=> ?_⟩
 refine ⟨fun m σ H'=>H'=H1∧∃v' t',σ= [some (.ref tp),some (.ref nl),some (.int (d:Int)),some v']∧TrAt H1 v' t'∧Ty .ws t'∧Oq t'∧t'.depth≤12∧m=t'.depth,⟨t.depth,rfl,v,t,rfl,hv,gw.gw.ty,vd gw,by omega,rfl⟩,?_⟩
 rintro m σ H' ⟨rfl,v',t',rfl,hv',ht',oq',dd,rfl⟩
 obtain ⟨x,r,rfl,hx⟩:=tT ht'
 obtain ⟨a,vs,rfl,ha,hvs⟩:=m4 hv'
 have at0:atI (V.str x::vs) 0=some (.str x):=bh (j:=0) rfl
 refine ⟨_,rfl,a,_,0, .str x,rfl,rfl,SqT.of ha,at0,rfl,_,rfl,?_⟩
 rcases hx with ⟨rfl,w',rfl,hw,eu⟩|⟨nx,eu⟩
 · rw [decide_eq_true rfl]
   refine iteT ?_
   obtain ⟨y,r1,rfl,h3,h4⟩:=hvs.inv
   have at1:atI (V.str (Str.ofString "not")::y::r1) 1=some y:=bh (j:=1) rfl
   have ud:=lh eu
   refine ⟨fun σ' H''=>H''=H'∧σ'= [some (.ref tp),some (.ref nl),some (.int (d:Int)),some y],?_,?_⟩
   · rintro σ' H'' ⟨rfl,rfl⟩
     exact ⟨w'.depth,ud,rfl,y,w',rfl,h3,hw,oq1 oq',by omega,rfl⟩
   · exact ⟨_,rfl,a,_,1,y,rfl,rfl,SqT.of ha,at1,rfl,rfl⟩
 · rw [decide_eq_false (show¬V.str x=V.str (Str.ofString "not") from fun z=>nx (V.str.inj z))]
   refine iteF ?_
   exact ⟨_,rfl,k _ _ _ hT1 b1 hv' ⟨c5 ht',dd,oq'⟩⟩
def iu:Sp:=fun vs H Q _=>∃(tp c nl:Addr) (d k:Nat),vs= [.ref tp, .ref nl, .int (d:Int)]∧TapeAt H tp c k∧k+400≤1000000∧Names H nl∧nl≠tp∧d≤3∧
 ∀v t H',TapeAt H' tp c (k+400)→But tp H H'→TrAt H' v t→Th 12 t→(∃ts,t= .tup ts)→Q v H'
theorem scTs:ax ["_law_tape_here","_law_names_here","_law_least"] ["_law_tape_here","_law_names_here","_law_least"] (af gK):=⟨rfl,rfl,rfl,by decide +kernel,rfl,by decide +kernel,by decide +kernel⟩
theorem rJ {f fT fD:Addr} {fd dT dD:FuncData} (F:Fun K "_law_terms" "_law_terms" gK f fd) (B:Blt mg)
 (gT:FnOk P w K mg base CX0 4 fT dT ["_law_tape_here","_law_names_here","_law_deep"] (eG 3)) (kT:PySem.W.keepIn K (.ref fT)=true) (bT:Binds K dT ["_law_tape_here","_law_names_here","_law_deep"] []) (mT:mg "_law_term"=some (.ref fT))
 (gD:FnOk P w K mg base CX0 1 fD dD ["_law_tape_here","_law_many"] ci) (kD:PySem.W.keepIn K (.ref fD)=true) (bD:Binds K dD ["_law_tape_here","_law_many"] []) (mD:mg "_law_draw"=some (.ref fD)):FnOk P w K mg base CX0 5 f fd ["_law_tape_here","_law_names_here","_law_least"] iu:=by
 refine F.ok scTs (fun vs H Q E h=> ?_) (fun cdv A outer s H vs Q E hr h=> ?_)
 · obtain ⟨tp,c,nl,d,k,rfl,_⟩:=h
   rfl
 obtain ⟨tp,c,nl,d,kk,rfl,hT,hn,hN,nt,d3,k⟩:=h
 have hr1:Room 1 _:=hr.mono (by decide)
 refine ⟨_,ag (aj (bE bu rfl B.tu PyProof.Rows.boot_tuple (a8
  (bx (NC:= ["_law_k","_law_names_here","_law_tape_here"]) (mp:= [none,some 1,some 0]) rfl (bY rfl B.ra (a8 (aE bU (pv 2) (ad gD hr1 rfl mD kD bD .nil ai (a8 (pv 0) (a8 aa a9)))) a9)) (fun _ _ _ _ _=>aQ (i:=0) (show (["_law_k","_law_names_here","_law_tape_here"]:List Str).Nodup by decide +kernel) rfl (Or.inl rfl)) (fun _ _ _ _ _=>bp)
   (fun _ _ _ _ _=>ad gT hr rfl mT kT bT .nil ai (a8 (pv 2) (a8 (pv 1) (a8 aa a9))))) a9))),?_⟩
 have hL:(20000:Nat)≤sizeLine:=by decide +kernel
 refine jX ?_
 refine bn rfl ?_
 refine ⟨_,rfl,_,rfl,tp,c,3,kk,rfl,hT,by omega,by decide,ba (by decide) (by decide),fun r H0 r0 r1 hT0 kp0=> ?_⟩
 refine ⟨_,_,rfl,rfl,(d:Int)+r,rfl,by omega,by omega,fun D nD=> ?_⟩
 obtain ⟨m,em⟩:∃m:Nat,((d:Int)+r).toNat=m:=⟨_,rfl⟩
 have m5:m≤5:=by omega
 have b0:But tp H H0:=But.of_keep kp0
 have nfD:=hT0.ne nD
 have n0D:=b0.free hT0 nD
 rw [em]
 refine bV (n:=m) (fun i acc H'=>TapeAt H' tp c (kk+1+i*64)∧But tp H H'∧H' D=some (.lst acc)∧∃ts:List Tr,TrsAt H' acc ts∧ts.length=i∧∀t∈ts,Th 7 t)
  ⟨(hT0.wr nfD).mono (by omega),b0.wr n0D,ac,[], .nil,rfl,fun y m=>by cases m⟩ ?_ ?_
 · rintro i acc H' hi ⟨hT',bt,hD,ts,hTs,hl,hw⟩
   refine ⟨_,rfl,_,rfl,tp,c,nl,2,kk+1+i*64,rfl,hT',by show kk+1+i*64+64≤1000000;omega,hN.but nt bt,nt,by decide,fun v t H6 hT6 b6 hv ty lnt dt=> ?_⟩
   have hD6:H6 D=some (.lst acc):=b6 D _ nfD.1 hD
   have kd6:=b6.kd hT' hT6
   have tp6:=Kd.upd (ys:=acc++ [v]) hD6
   have hl2:=hTs.len
   have hT6':TapeAt H6 tp c (kk+1+i*64+64):=hT6
   refine CompN.mk hi (by omega) hD6 ⟨(hT6'.wr nfD).mono (by omega),(bt.trans b6).wr n0D,ac,ts++ [t],TrsAt.app (.cons (hv.mono tp6) .nil) (hTs.mono (kd6.trans tp6)),by simp [hl],fun u mu=> ?_⟩
   rcases List.mem_append.mp mu with mu|mu
   · exact hw u mu
   · rw [List.mem_singleton.mp mu]
     exact ⟨c5 ty,by omega,fe lnt⟩
 · rintro acc H4 ⟨hT4,b4,hD,ts,hTs,hl,hw⟩
   refine ⟨D,acc,rfl, .inl ⟨SqL.of hD,fun l nl'=> ?_⟩⟩
   have s1:Same H4 (upd H4 l (.tup acc)):=ah nl'
   exact k (.ref l) (.tup ts) _ ((hT4.same s1).mono (by omega)) (b4.trans (But.of_same s1)) (at_tup ac (hTs.mono (Kd.of_same s1))) ((er (by omega) hw).mono (by decide)) ⟨ts,rfl⟩
end
open PySem L2 Mth Tre Wd Su
theorem qU {H:Hp} {q0 q1 q2 q3 q4:Addr} {r:Int} (h0:0≤r) (h5:r < 5) (a0:H q0=some (.tup [.int 0, .int 1])) (a1:H q1=some (.tup [.int (-1), .int 2])) (a2:H q2=some (.tup [.int (-3), .int 1])) (a3:H q3=some (.tup [.int 0, .int 1])) (a4:H q4=some (.tup [.int 1, .int 3])):
 ∃(v:V) (p:Fr),atI [V.ref q0, .ref q1, .ref q2, .ref q3, .ref q4] r=some v∧TrAt H v (frT p)∧Gf 3 p∧Sh p:=by
 have:r=0∨r=1∨r=2∨r=3∨r=4:=by omega
 rcases this with rfl|rfl|rfl|rfl|rfl
 · exact ⟨.ref q0,(0,1),rfl,aY a0,⟨by decide,by unfold Lt2;decide,by unfold Lt2;decide⟩,⟨by decide,by decide⟩⟩
 · exact ⟨.ref q1,(-1,2),rfl,aY a1,⟨by decide,by unfold Lt2;decide,by unfold Lt2;decide⟩,⟨by decide,by decide⟩⟩
 · exact ⟨.ref q2,(-3,1),rfl,aY a2,⟨by decide,by unfold Lt2;decide,by unfold Lt2;decide⟩,⟨by decide,by decide⟩⟩
 · exact ⟨.ref q3,(0,1),rfl,aY a3,⟨by decide,by unfold Lt2;decide,by unfold Lt2;decide⟩,⟨by decide,by decide⟩⟩
 · exact ⟨.ref q4,(1,3),rfl,aY a4,⟨by decide,by unfold Lt2;decide,by unfold Lt2;decide⟩,⟨by decide,by decide⟩⟩
theorem lj {H:Hp}:∀ {ws:List V} {ts:List Tr} (i:Nat),TrsAt H ws ts→TrsAt H (ws.take i) (ts.take i)
 |ws,ts,0,_=>by rw [List.take_zero,List.take_zero];exact .nil
 |ws,[],i+1,h=>by
  unfold TrsAt at h
  subst h
  rw [List.take_nil,List.take_nil]
  exact .nil
 |ws,t::ts,i+1,h=>by
  obtain ⟨x,r,rfl,h1,h2⟩:=h.inv
  rw [List.take_succ_cons,List.take_succ_cons]
  exact .cons h1 (lj i h2)
theorem ll {H:Hp}:∀ {ws:List V} {ts:List Tr} (i:Nat),TrsAt H ws ts→TrsAt H (ws.drop i) (ts.drop i)
 |ws,ts,0,h=>by rw [List.drop_zero,List.drop_zero];exact h
 |ws,[],i+1,h=>by
  unfold TrsAt at h
  subst h
  rw [List.drop_nil,List.drop_nil]
  exact .nil
 |ws,t::ts,i+1,h=>by
  obtain ⟨x,r,rfl,h1,h2⟩:=h.inv
  rw [List.drop_succ_cons,List.drop_succ_cons]
  exact ll i h2
section
variable {P:Program} {w:World} {K:PySem.W.Frag} {mg:Str→Option Value} {base:Heap}
def iw:Sp:=fun vs H Q _=>∃(tp c nl:Addr) (k:Nat),vs= [.ref tp, .ref nl]∧TapeAt H tp c k∧k+400≤1000000∧Names H nl∧nl≠tp∧
 ∀v t H',TapeAt H' tp c (k+400)→But tp H H'→TrAt H' v t→Th 12 t→Q v H'
theorem scPs:ax ["_law_tape_here","_law_names_here","_law_parts_here","_law_whole_here","_law_bound","_law_last","_law_less","_law_aim","_law_atom_here"] ["_law_tape_here","_law_names_here"] (af gZ):=⟨rfl,rfl,rfl,by decide +kernel,rfl,by decide +kernel,by decide +kernel⟩
theorem rL {f fP fT fS fD fM fN fB fX C:Addr} {fd dP dT dS dD dM dN dB dX:FuncData} (F:Fun K "_law_parts" "_law_parts" gZ f fd) (B:Blt mg)
 (gP:FnOk P w K mg base CX0 5 fP dP ["_law_tape_here","_law_names_here"] kh) (kP:PySem.W.keepIn K (.ref fP)=true) (bP:Binds K dP ["_law_tape_here","_law_names_here"] []) (mP:mg "_law_part"=some (.ref fP))
 (gT:FnOk P w K mg base CX0 5 fT dT ["_law_parts_here"] iL) (kT:PySem.W.keepIn K (.ref fT)=true) (bT:Binds K dT ["_law_parts_here"] []) (mT:mg "_law_totals"=some (.ref fT))
 (gS:FnOk P w K mg base CX0 3 fS dS ["_law_part_here"] fv) (kS:PySem.W.keepIn K (.ref fS)=true) (bS:Binds K dS ["_law_part_here"] []) (mS:mg "_law_signed"=some (.ref fS))
 (gD:FnOk P w K mg base CX0 1 fD dD ["_law_tape_here","_law_many"] ci) (kD:PySem.W.keepIn K (.ref fD)=true) (bD:Binds K dD ["_law_tape_here","_law_many"] []) (mD:mg "_law_draw"=some (.ref fD))
 (gM:FnOk P w K mg base CX0 4 fM dM ["one","many"] fw) (kM:PySem.W.keepIn K (.ref fM)=true) (bM:Binds K dM ["one","many"] []) (mM:mg "sum_times"=some (.ref fM))
 (gN:FnOk P w K mg base CX0 3 fN dN ["one","other"] ki) (kN:PySem.W.keepIn K (.ref fN)=true) (bN:Binds K dN ["one","other"] []) (mN:mg "minus"=some (.ref fN))
 (gB:FnOk P w K mg base CX0 2 fB dB ["one","other"] (cU K)) (kB:PySem.W.keepIn K (.ref fB)=true) (bB:Binds K dB ["one","other"] []) (mB:mg "times"=some (.ref fB))
 (gX:FnOk P w K mg base (CX1 P w) 4 fX dX ["one","other"] (iM C)) (kX:PySem.W.keepIn K (.ref fX)=true) (bX:Binds K dX ["one","other"] []) (mX:mg "parted"=some (.ref fX)):
 FnOk P w K mg base CX0 6 f fd ["_law_tape_here","_law_names_here"] iw:=by
 refine F.ok scPs (fun vs H Q E h=> ?_) (fun cdv A outer s H vs Q E hr h=> ?_)
 · obtain ⟨tp,c,nl,k,rfl,_⟩:=h
   rfl
 obtain ⟨tp,c,nl,kk,rfl,hT,hn,hN,nt,k⟩:=h
 have hr1:Room 1 _:=hr.mono (by decide)
 have hr2:Room 2 _:=hr.mono (by decide)
 have hr3:Room 3 _:=hr.mono (by decide)
 have hr4:Room 4 _:=hr.mono (by decide)
 refine ⟨_,ae (oB (NC:= ["_law_k","_law_names_here","_law_tape_here"]) (mp:= [none,some 1,some 0]) (i:=2) rfl scPs.nd rfl rfl rfl (bY rfl B.ra (a8 (ad gD hr1 rfl mD kD bD .nil ai (a8 (pv 0) (a8 aa a9))) a9)) (fun _ _ _ _ _=>aQ (i:=0) (show (["_law_k","_law_names_here","_law_tape_here"]:List Str).Nodup by decide +kernel) rfl (Or.inl rfl)) (fun _ _ _ _ _=>bp)
  (fun _ _ _ _ _=>ad gP hr rfl mP kP bP .nil ai (a8 (pv 2) (a8 (pv 1) a9))))
  (ae (iU (ad gT hr rfl mT kT bT .nil ai (a8 (pv 2) a9)) (iV rfl (c9 (aQ (i:=3) scPs.nd rfl (Or.inl rfl)) (c9 (aQ (i:=4) scPs.nd rfl (Or.inl rfl)) fU))))
  (ae (aD (i:=5) scPs.nd rfl (Or.inl rfl) (ad gP hr rfl mP kP bP .nil ai (a8 (pv 0) (a8 (pv 1) a9))))
  (ae (aD (i:=6) scPs.nd rfl (Or.inl rfl) (ad gX hr4 rfl mX kX bX .nil jF (a8 (aH (a8 (cV cr aa) (a8 aa a9))) (a8 (ad gS hr3 rfl mS kS bS .nil ai (a8 (pv 5) a9)) a9))))
  (ae (aD (i:=7) scPs.nd rfl (Or.inl rfl) (am aT (cm (a8 (aH (a8 aa (a8 aa a9))) (a8 (aH (a8 (cV cr aa) (a8 aa a9))) (a8 (aH (a8 (cV cr aa) (a8 aa a9))) (a8 (aH (a8 aa (a8 aa a9))) (a8 (aH (a8 aa (a8 aa a9))) a9)))))) (ad gD hr1 rfl mD kD bD .nil ai (a8 (pv 0) (a8 aa a9))) fun _ _=>rfl))
  (ae (aD (i:=8) scPs.nd rfl (Or.inl rfl) (aH (a8 aA (a8 (ad gM hr4 rfl mM kM bM .nil ai (a8 (pv 3) (a8 (pv 6) a9))) (a8 (ad gB hr2 rfl mB kB bB .nil ai (a8 (ad gN hr3 rfl mN kN bN .nil ai (a8 (pv 4) (a8 (pv 7) a9))) (a8 (pv 6) a9))) a9)))))
  (ae (eY (iX PySem.F.plainAttrs_list PySem.F.slot_list_insert PySem.F.type_list_insert pM (pv 2) (a8 (ad gD hr1 rfl mD kD bD .nil ai (a8 (pv 0) (a8 (aE bU (ar aF rfl B.le PySem.boot_len (a8 (pv 2) a9)) aa) a9))) (a8 (aH (a8 (pv 8) (a8 (am ak (pv 5) aa fun _ _=>rfl) (a8 (am ak (pv 5) aa fun _ _=>rfl) a9)))) a9))))
  (ag (aj (bE bu rfl B.tu PyProof.Rows.boot_tuple (a8 (pv 2) a9)))))))))),?_⟩
 have hL:(20000:Nat)≤sizeLine:=by decide +kernel
 refine o0 rfl ?_
 refine ⟨_,rfl,tp,c,4,kk,rfl,hT,by omega,by decide,ba (by decide) (by decide),fun r H0 r0 r1 hT0 kp0=> ?_⟩
 refine ⟨r,rfl,by omega,by omega,fun D nD=> ?_⟩
 obtain ⟨m,em⟩:∃m:Nat,r.toNat=m:=⟨_,rfl⟩
 have m3:m≤3:=by omega
 have b0:But tp H H0:=But.of_keep kp0
 have nfD:=hT0.ne nD
 have n0D:=b0.free hT0 nD
 rw [em]
 refine bV (n:=m) (fun i acc H'=>TapeAt H' tp c (kk+1+i*80)∧But tp H H'∧H' D=some (.lst acc)∧∃ds:List Pd,TrsAt H' acc (ds.map pdT)∧ds.length=i∧∀d∈ds,PdOk d)
  ⟨(hT0.wr nfD).mono (by omega),b0.wr n0D,ac,[], .nil,rfl,fun y m=>by cases m⟩ ?_ ?_
 · rintro i acc H' hi ⟨hT',bt,hD,ds,hTs,hl,hw⟩
   refine ⟨_,rfl,_,rfl,tp,c,nl,kk+1+i*80,rfl,hT',by omega,hN.but nt bt,nt,fun v us ff wt b H6 hT6 b6 hv ho=> ?_⟩
   have hD6:H6 D=some (.lst acc):=b6 D _ nfD.1 hD
   have kd6:=b6.kd hT' hT6
   have tp6:=Kd.upd (ys:=acc++ [v]) hD6
   have hl2:=hTs.len
   rw [List.length_map] at hl2
   refine CompN.mk hi (by omega) hD6 ⟨(hT6.wr nfD).mono (by omega),(bt.trans b6).wr n0D,ac,ds++ [(us,ff,wt,b)],by rw [List.map_append];exact TrsAt.app (.cons (hv.mono tp6) .nil) (hTs.mono (kd6.trans tp6)),by simp [hl],fun u mu=> ?_⟩
   rcases List.mem_append.mp mu with mu|mu
   · exact hw u mu
   · rw [List.mem_singleton.mp mu]
     exact ho
 · rintro acc H4 ⟨hT4,b4,hD,ds,hTs,hl,hw⟩
   refine aI ?_
   have accl:=hTs.len
   rw [List.length_map] at accl
   refine ⟨_,rfl,D,acc,ds,rfl,hD,hTs,by omega,hw,fun x H5 as bd s5 hx asc al ga gln gb sb=> ?_⟩
   obtain ⟨px,wv,bv,rfl,hpx,hwv,hbv⟩:=dz hx
   refine ⟨px,_,rfl,SqT.of hpx,rfl,_,_,rfl,_,_,rfl,rfl,?_⟩
   have hT5:=hT4.same s5
   have b5:=b4.trans (But.of_same s5)
   have hD5:=s5 _ _ hD
   have hTs5:=hTs.mono (Kd.of_same s5)
   refine ⟨_,rfl,_,rfl,tp,c,nl,_,rfl,hT5,by omega,hN.but nt b5,nt,fun lv us ff wt b H6 hT6 b6 hlv ho=> ?_⟩
   have kd6:=b6.kd hT5 hT6
   have hD6:=b6 D _ nfD.1 hD5
   refine ⟨_,rfl,by show 2≤sizeLine;decide,fun p7 np7=> ?_⟩
   have s7:=ah (o:= .tup [.int (-1), .int 1]) np7
   have h7:(upd H6 p7 (.tup [.int (-1), .int 1])) p7=some (.tup [.int (-1), .int 1]):=ac
   refine ⟨_,rfl,lv,us,ff,wt,b,rfl,hlv.mono (Kd.of_same s7),ho,fun sx H8 sg s8 hsx gsx ssx sx0=> ?_⟩
   refine ⟨_,_,m1,sg,2,14,rfl,aY (s8 _ _ h7),hsx,gf_m1,gsx,by decide,by decide,qH,ssx,sx0,fun le H9 lf s9 hle glf slf=> ?_⟩
   have s69:=s7.trans (s8.trans s9)
   have hT9:=hT6.same s69
   have hD9:=s69 _ _ hD6
   have hTs9:=hTs5.mono (kd6.trans (Kd.of_same s69))
   have hlv9:=hlv.mono (Kd.of_same s69)
   have hwv9:=hwv.mono (kd6.trans (Kd.of_same s69))
   have hbv9:=hbv.mono (kd6.trans (Kd.of_same s69))
   have b9:=b5.trans (b6.trans (But.of_same s69))
   clear hT hT0 hT4 hT5 hTs hTs5 hx hpx hwv hbv hlv hD hD5 hD6 b4 b5 b6 hsx h7 s7 s8 s9 s69
   refine aI ?_
   refine ⟨by show 2≤sizeLine;decide,fun q0 nq0=> ?_⟩
   have t0:=ah (o:= .tup [.int 0, .int 1]) nq0
   refine ⟨_,rfl,by show 2≤sizeLine;decide,fun q1 nq1=> ?_⟩
   have t1:=ah (o:= .tup [.int (-1), .int 2]) nq1
   refine ⟨_,rfl,by show 2≤sizeLine;decide,fun q2 nq2=> ?_⟩
   have t2:=ah (o:= .tup [.int (-3), .int 1]) nq2
   refine ⟨by show 2≤sizeLine;decide,fun q3 nq3=> ?_⟩
   have t3:=ah (o:= .tup [.int 0, .int 1]) nq3
   refine ⟨by show 2≤sizeLine;decide,fun q4 nq4=> ?_⟩
   have t4:=ah (o:= .tup [.int 1, .int 3]) nq4
   refine ⟨by show 5≤sizeLine;decide,fun L nL=> ?_⟩
   have t5:=ah (o:= .lst [.ref q0, .ref q1, .ref q2, .ref q3, .ref q4]) nL
   have a4:=t5 _ _ (ac (o:=HO.tup [.int 1, .int 3]))
   have a3:=t5 _ _ (t4 _ _ (ac (o:=HO.tup [.int 0, .int 1])))
   have a2:=t5 _ _ (t4 _ _ (t3 _ _ (ac (o:=HO.tup [.int (-3), .int 1]))))
   have a1:=t5 _ _ (t4 _ _ (t3 _ _ (t2 _ _ (ac (o:=HO.tup [.int (-1), .int 2])))))
   have a0:=t5 _ _ (t4 _ _ (t3 _ _ (t2 _ _ (t1 _ _ (ac (o:=HO.tup [.int 0, .int 1]))))))
   have tt:=t0.trans (t1.trans (t2.trans (t3.trans (t4.trans t5))))
   have aL:=ac (H:=upd (upd (upd (upd (upd H9 q0 (.tup [.int 0, .int 1])) q1 (.tup [.int (-1), .int 2])) q2 (.tup [.int (-3), .int 1])) q3 (.tup [.int 0, .int 1])) q4 (.tup [.int 1, .int 3])) (a:=L) (o:= .lst [.ref q0, .ref q1, .ref q2, .ref q3, .ref q4])
   generalize upd (upd (upd (upd (upd (upd H9 q0 (.tup [.int 0, .int 1])) q1 (.tup [.int (-1), .int 2])) q2 (.tup [.int (-3), .int 1])) q3 (.tup [.int 0, .int 1])) q4 (.tup [.int 1, .int 3])) L (.lst [.ref q0, .ref q1, .ref q2, .ref q3, .ref q4])=HA at a0 a1 a2 a3 a4 tt aL ⊢
   have hTA:=hT9.same tt
   have nLt:=hTA.ne (r:=L)
   refine ⟨_,rfl,tp,c,5,_,rfl,hTA,by omega,by decide,ba (by decide) (by decide),fun rB HB rB0 rB5 hTB kpB=> ?_⟩
   have bB:But tp HA HB:=But.of_keep kpB
   have kdB:=bB.kd hTA hTB
   have nz:∀q o,HA q=some o→(∀xs,o≠ .lst xs)→q≠tp:=fun q o h1 h2 z=>by
    obtain ⟨xs,hxs⟩:=hTA.lst
    rw [z,hxs] at h1
    exact h2 xs (Option.some.inj h1).symm
   have nL:L≠tp:=fun z=>by
    have:=hT9.ne (r:=L)
    subst z
    obtain ⟨xs,hxs⟩:=hT9.lst
    have h2:=t4 _ _ (t3 _ _ (t2 _ _ (t1 _ _ (t0 _ _ hxs))))
    rw [nL] at h2
    cases h2
   obtain ⟨av,ap,eav,hav,gap,sap⟩:=qU rB0 rB5 (bB _ _ (nz _ _ a0 (by simp)) a0) (bB _ _ (nz _ _ a1 (by simp)) a1) (bB _ _ (nz _ _ a2 (by simp)) a2) (bB _ _ (nz _ _ a3 (by simp)) a3) (bB _ _ (nz _ _ a4 (by simp)) a4)
   refine ⟨L,_,rB,_,rfl,rfl,SqL.of (bB _ _ nL aL),eav,?_⟩
   have kdAB:=(Kd.of_same tt).trans kdB
   have hleB:=hle.mono kdAB
   have hwvB:=hwv9.mono kdAB
   have hbvB:=hbv9.mono kdAB
   have hlvB:=hlv9.mono kdAB
   have hTsB:=hTs9.mono kdAB
   have hDB:=bB D _ nfD.1 (tt _ _ hD9)
   have bbB:=b9.trans ((But.of_same tt).trans bB)
   clear a0 a1 a2 a3 a4 aL hTA hT9 hle hwv9 hbv9 hlv9 hTs9 hD9 b9 t0 t1 t2 t3 t4 t5 tt
   refine aI ?_
   refine ⟨_,rfl,_,rfl,wv,le,as,lf,9,165,16,rfl,hwvB,hleB,slf,glf,al,by decide,by decide,by decide,by decide,asc,ga,fun y HC vs sC hy hcan hvl hgv=> ?_⟩
   have hnv:∀u∈vs,Ln u.1:=fun u m=>by
    obtain ⟨q2,mq2,e2⟩:=gh hcan m
    rw [←e2]
    obtain ⟨q3,mq3,rfl⟩:=List.mem_map.mp mq2
    exact gln q3 mq3
   refine ⟨_,rfl,_,rfl,bv,av,bd,ap,82,3,rfl,hbvB.mono (Kd.of_same sC),hav.mono (Kd.of_same sC),gb,gap,by decide,by decide,sb,sap,fun mi HD mf sD hmi gmf smf=> ?_⟩
   obtain ⟨rm,rfl,hrm⟩:=cH hmi
   obtain ⟨rl,rfl,hrl⟩:=cH (hleB.mono (Kd.of_same (sC.trans sD)))
   refine ⟨_,rfl,rm,rl,_,_,_,_,rfl,SqT.of hrm,SqT.of hrl,⟨gmf.pos,glf.pos,gmf.b1 (by decide),gmf.b2 (by decide),glf.b1 (by decide),glf.b2 (by decide)⟩,fun r6 HE _ sE hE=> ?_⟩
   have gtf:=gmf.times glf
   refine ⟨by show 3≤sizeLine;decide,fun pa npa=> ?_⟩
   have sF:=ah (o:= .tup [.str (Str.ofString "most"),y, .ref r6]) npa
   have hat:TrAt (upd HE pa (.tup [.str (Str.ofString "most"),y, .ref r6])) (.ref pa) (.tup [s_ "most", .tup (vs.map prT),frT (bZ mf lf)]):=at_tup ac (.cons at_str (.cons (hy.mono (Kd.of_same (sD.trans (sE.trans sF)))) (.cons (aY (sF _ _ hE)) .nil)))
   have sBF:=sC.trans (sD.trans (sE.trans sF))
   generalize upd HE pa (.tup [.str (Str.ofString "most"),y, .ref r6])=HF at hat sBF sF ⊢
   have hTF:=hTB.same sBF
   have hDF:=sBF _ _ hDB
   have hTsF:=hTsB.mono (Kd.of_same sBF)
   have hlvF:=hlvB.mono (Kd.of_same sBF)
   have bbF:=bbB.trans (But.of_same sBF)
   refine aI ?_
   refine ⟨_,rfl, .inl ⟨rfl,_,SqL.of hDF⟩,_,rfl,_,rfl,D,acc,rfl, .inl (SqL.of hDF),_,_,rfl,rfl,?_⟩
   refine ⟨tp,c,(acc.length:Int)+1,_,rfl,hTF,by omega,by omega,ba (by omega) (by omega),fun rG HG rG0 rG1 hTG kpG=> ?_⟩
   have bG:But tp HF HG:=But.of_keep kpG
   have kdG:=bG.kd hTF hTG
   have hlvG:=hlvF.mono kdG
   have hDG:=bG D _ nfD.1 hDF
   obtain ⟨rr,a',ru',rf',rw',rfl,h1G,_,_,_,hrwG⟩:=qP hlvG
   refine ⟨_,rfl,_,rfl,rr,_,1, .bl b,rfl,rfl,SqT.of h1G,rfl,_,rfl,rr,_,2, .ref rw',rfl,rfl,SqT.of h1G,rfl,by show 3≤sizeLine;decide,fun pz npz=> ?_⟩
   have sz:=ah (o:= .tup [.ref pa, .bl b, .ref rw']) npz
   have hDz:=sz _ _ hDG
   obtain ⟨ig,eig⟩:∃ig:Nat,rG=(ig:Int):=⟨rG.toNat,by omega⟩
   refine ⟨D,acc, .ref pz,rG,ig,rfl,rfl,eig,hDz,by omega,by omega,?_⟩
   have nDp:pz≠D:=fun z=>by rw [z,hDG] at npz;cases npz
   have tpz:=Kd.upd (ys:=acc.take ig++ .ref pz::acc.drop ig) hDz
   have kdz:=(Kd.of_same sz).trans tpz
   have hpz:TrAt (upd (upd HG pz (.tup [.ref pa, .bl b, .ref rw'])) D (.lst (acc.take ig++ .ref pz::acc.drop ig))) (.ref pz) (ptT vs (bZ mf lf) wt b):=at_tup ((aB nDp).trans ac) (.cons (hat.mono (kdG.trans kdz)) (.cons vt (.cons ((aY hrwG).mono kdz) .nil)))
   have hall:=TrsAt.app (TrsAt.cons hpz (ll ig (hTsF.mono (kdG.trans kdz)))) (lj ig (hTsF.mono (kdG.trans kdz)))
   have hTz:=(hTG.same sz).wr nfD (o:= .lst (acc.take ig++ .ref pz::acc.drop ig))
   have bz:=((bbF.trans bG).trans (But.of_same sz)).wr n0D (o:= .lst (acc.take ig++ .ref pz::acc.drop ig))
   have hDD:(upd (upd HG pz (.tup [.ref pa, .bl b, .ref rw'])) D (.lst (acc.take ig++ .ref pz::acc.drop ig))) D=some (.lst (acc.take ig++ .ref pz::acc.drop ig)):=ac
   generalize upd (upd HG pz (.tup [.ref pa, .bl b, .ref rw'])) D (.lst (acc.take ig++ .ref pz::acc.drop ig))=HZ at hall hTz bz hDD ⊢
   refine ⟨_,rfl,D,_,rfl, .inl ⟨SqL.of hDD,fun l nl'=> ?_⟩⟩
   have sl:=ah (o:= .tup (acc.take ig++ .ref pz::acc.drop ig)) nl'
   refine k (.ref l) _ _ ((hTz.same sl).mono (by omega)) (bz.trans (But.of_same sl)) (at_tup ac (hall.mono (Kd.of_same sl))) (er (by rw [List.length_append,List.length_cons,List.length_take,List.length_drop,List.length_map];omega) fun t mt=> ?_)
   rcases List.mem_append.mp mt with mt|mt
   · obtain ⟨d,md,rfl⟩:=List.mem_map.mp (List.mem_of_mem_take mt)
     exact o7 (by decide) (by have:=(hw d md).len;omega) (hw d md).ln (hw d md).gq _ _ _ ((hw d md).gf.mono (by decide)) ((hw d md).gw.mono (by decide))
   · rcases List.mem_cons.mp mt with rfl|mt
     · exact o7 (by decide) (by omega) hnv hgv _ _ _ (gtf.mono (by decide)) (ho.gw.mono (by decide))
     · obtain ⟨d,md,rfl⟩:=List.mem_map.mp (List.mem_of_mem_drop mt)
       exact o7 (by decide) (by have:=(hw d md).len;omega) (hw d md).ln (hw d md).gq _ _ _ ((hw d md).gf.mono (by decide)) ((hw d md).gw.mono (by decide))
end
open PySem L2 Mth Tre Wd Su
section
variable {P:Program} {w:World} {K:PySem.W.Frag} {mg:Str→Option Value} {base:Heap}
def mV:Sp:=fun vs H Q _=>∃(tp c nl:Addr) (x:Str) (k:Nat),vs= [.ref tp, .ref nl, .str x]∧TapeAt H tp c k∧k+300≤1000000∧Names H nl∧nl≠tp∧
 ∀v a b H',TapeAt H' tp c (k+300)→But tp H H'→TrAt H' v (.tup [a,b])→Th 8 a→Th 8 b→Q v H'
theorem scPr:ax ["_law_tape_here","_law_names_here","_law_word","_law_one","_law_other","_law_many","_law_name"] ["_law_tape_here","_law_names_here","_law_word"] (af jB):=⟨rfl,rfl,rfl,by decide +kernel,rfl,by decide +kernel,by decide +kernel⟩
theorem uu {f fT fD:Addr} {fd dT dD:FuncData} (F:Fun K "_law_pair" "_law_pair" jB f fd) (B:Blt mg)
 (gT:FnOk P w K mg base CX0 4 fT dT ["_law_tape_here","_law_names_here","_law_deep"] (eG 3)) (kT:PySem.W.keepIn K (.ref fT)=true) (bT:Binds K dT ["_law_tape_here","_law_names_here","_law_deep"] []) (mT:mg "_law_term"=some (.ref fT))
 (gD:FnOk P w K mg base CX0 1 fD dD ["_law_tape_here","_law_many"] ci) (kD:PySem.W.keepIn K (.ref fD)=true) (bD:Binds K dD ["_law_tape_here","_law_many"] []) (mD:mg "_law_draw"=some (.ref fD)):FnOk P w K mg base CX0 5 f fd ["_law_tape_here","_law_names_here","_law_word"] mV:=by
 refine F.ok scPr (fun vs H Q E h=> ?_) (fun cdv A outer s H vs Q E hr h=> ?_)
 · obtain ⟨tp,c,nl,x,k,rfl,_⟩:=h
   rfl
 obtain ⟨tp,c,nl,wd,kk,rfl,hT,hn,hN,nt,k⟩:=h
 have hr1:Room 1 _:=hr.mono (by decide)
 refine ⟨_,ae (aD (i:=3) scPr.nd rfl (Or.inl rfl) (ad gT hr rfl mT kT bT .nil ai (a8 (pv 0) (a8 (pv 1) (a8 aa a9)))))
  (ae (aD (i:=4) scPr.nd rfl (Or.inl rfl) (ad gT hr rfl mT kT bT .nil ai (a8 (pv 0) (a8 (pv 1) (a8 aa a9)))))
  (ae (aK (PW.pt (dy (aw be (pv 2) aA (aq _)) (dw (aw dY (ad gD hr1 rfl mD kD bD .nil ai (a8 (pv 0) (a8 aa a9))) aa (aq _)))))
   (ae (aD (i:=5) scPr.nd rfl (Or.inl rfl) (aE bU aa (ad gD hr1 rfl mD kD bD .nil ai (a8 (pv 0) (a8 aa a9)))))
   (ae (aD (i:=6) scPr.nd rfl (Or.inl rfl) (am aT (pv 1) (ad gD hr1 rfl mD kD bD .nil ai (a8 (pv 0) (a8 aa a9))) fun _ _=>rfl))
   (ae (aD (i:=3) scPr.nd rfl (Or.inl rfl) (aH (a8 aA (a8 (pv 6) (a8 (bE bu rfl B.tu PyProof.Rows.boot_tuple (a8
    (bx (NC:= ["_law_k","_law_names_here","_law_tape_here"]) (mp:= [none,some 1,some 0]) rfl (bY rfl B.ra (a8 (pv 5) a9)) (fun _ _ _ _ _=>aQ (i:=0) (show (["_law_k","_law_names_here","_law_tape_here"]:List Str).Nodup by decide +kernel) rfl (Or.inl rfl)) (fun _ _ _ _ _=>bp) (fun _ _ _ _ _=>ad gT hr rfl mT kT bT .nil ai (a8 (pv 2) (a8 (pv 1) (a8 aa a9))))) a9)) a9)))))
   (ag (aD (i:=4) scPr.nd rfl (Or.inl rfl) (aH (a8 aA (a8 (pv 6) (a8 (bE bu rfl B.tu PyProof.Rows.boot_tuple (a8
    (bx (NC:= ["_law_k","_law_names_here","_law_tape_here"]) (mp:= [none,some 1,some 0]) rfl (bY rfl B.ra (a8 (pv 5) a9)) (fun _ _ _ _ _=>aQ (i:=0) (show (["_law_k","_law_names_here","_law_tape_here"]:List Str).Nodup by decide +kernel) rfl (Or.inl rfl)) (fun _ _ _ _ _=>bp) (fun _ _ _ _ _=>ad gT hr rfl mT kT bT .nil ai (a8 (pv 2) (a8 (pv 1) (a8 aa a9))))) a9)) a9)))))))))
   az)
  (ae (aK (aw be (ad gD hr1 rfl mD kD bD .nil ai (a8 (pv 0) (a8 aa a9))) aa (aq _)) (ag (aD (i:=4) scPr.nd rfl (Or.inl rfl) (pv 3))) az)
  (ag (aj (aH (a8 (pv 3) (a8 (pv 4) a9)))))))),?_⟩
 have hL:(20000:Nat)≤sizeLine:=by decide +kernel
 refine ⟨_,rfl,_,rfl,tp,c,nl,2,kk,rfl,hT,by show kk+64≤1000000;omega,hN,nt,by decide,fun v1 t1 H1 hT1 b1 hv1 ty1 ln1 d1=> ?_⟩
 have hT1:TapeAt H1 tp c (kk+64):=hT1
 refine aI ?_
 refine ⟨_,rfl,_,rfl,tp,c,nl,2,kk+64,rfl,hT1,by show kk+64+64≤1000000;omega,hN.but nt b1,nt,by decide,fun v2 t2 H2 hT2 b2 hv2 ty2 ln2 d2=> ?_⟩
 have hT2:TapeAt H2 tp c (kk+64+64):=hT2
 have b12:=b1.trans b2
 have hv1':=hv1.mono (b2.kd hT1 hT2)
 refine aI ?_
 dsimp only
 refine fE (fun σ' H'=>TapeAt H' tp c (kk+280)∧But tp H H'∧∃x y t u v5 v6,σ'= [some (.ref tp),some (.ref nl),some (.str wd),some x,some y,v5,v6]∧TrAt H' x t∧TrAt H' y u∧Th 8 t∧Th 8 u) ?_ fun nx hnx=> ?_
 rotate_left
 · have th1:Th 8 t1:=⟨c5 ty1,by omega,fe ln1⟩
   have th2:Th 8 t2:=⟨c5 ty2,by omega,fe ln2⟩
   refine ⟨_,rfl,rfl,_,rfl,?_⟩
   refine ite2 (fun _=> ?_) (fun _=> ?_)
   · refine ⟨_,rfl,tp,c,4,kk+128,rfl,hT2,by omega,by decide,ba (by decide) (by decide),fun r3 H3 _ _ hT3 kp3=> ?_⟩
     have b3:=b12.trans (But.of_keep kp3)
     have kd3:=(But.of_keep kp3).kd hT2 hT3
     refine ⟨_,_,rfl,rfl,_,rfl,?_⟩
     refine ite2 (fun _=> ?_) (fun _=> ?_)
     · refine ⟨_,rfl,tp,c,3,kk+129,rfl,hT3,by omega,by decide,ba (by decide) (by decide),fun r4 H4 r40 r43 hT4 kp4=> ?_⟩
       have b4:=b3.trans (But.of_keep kp4)
       refine ⟨_,_,rfl,rfl,?_⟩
       refine aI ?_
       refine ⟨_,rfl,_,rfl,tp,c,3,kk+130,rfl,hT4,by omega,by decide,ba (by decide) (by decide),fun r5 H5 r50 r53 hT5 kp5=> ?_⟩
       have b5:=b4.trans (But.of_keep kp5)
       obtain ⟨xs,g,e1,e2,ng⟩:=(hN.but nt b5).atN r50 r53
       have hg8:g.length≤100:=by have:=ng.le;omega
       refine ⟨nl,xs,r5,_,rfl,rfl,SqL.of e1,e2,?_⟩
       refine aI ?_
       obtain ⟨m,em⟩:∃m:Nat,1+r4=(m:Int):=⟨(1+r4).toNat,by omega⟩
       have m3:m≤3:=by omega
       refine ⟨_,rfl,?_⟩
       refine eF ?_
       refine bn rfl ?_
       refine ⟨_,rfl,m,by show [V.int (1+r4)]=_;rw [em],by omega,by omega,fun D nD=> ?_⟩
       have nfD:=hT5.ne nD
       have n0D:=b5.free hT5 nD
       have hT5:TapeAt H5 tp c (kk+131):=hT5
       refine bV (n:=m) (fun i acc H'=>TapeAt H' tp c (kk+131+i*16)∧But tp H H'∧H' D=some (.lst acc)∧∃ts:List Tr,TrsAt H' acc ts∧ts.length=i∧∀t∈ts,Th 5 t)
        ⟨(hT5.wr nfD).mono (by omega),b5.wr n0D,ac,[], .nil,rfl,fun y m=>by cases m⟩ ?_ ?_
       · rintro i acc H' hi ⟨hT',bt,hD,ts,hTs,hl,hw⟩
         refine ⟨_,rfl,_,rfl,tp,c,nl,1,kk+131+i*16,rfl,hT',by show kk+131+i*16+16≤1000000;omega,hN.but nt bt,nt,by decide,fun v t H6 hT6 b6 hv ty lnt dt=> ?_⟩
         have hD6:H6 D=some (.lst acc):=b6 D _ nfD.1 hD
         have kd6:=b6.kd hT' hT6
         have tp6:=Kd.upd (ys:=acc++ [v]) hD6
         have hl2:=hTs.len
         have hT6':TapeAt H6 tp c (kk+131+i*16+16):=hT6
         refine CompN.mk hi (by omega) hD6 ⟨(hT6'.wr nfD).mono (by omega),(bt.trans b6).wr n0D,ac,ts++ [t],TrsAt.app (.cons (hv.mono tp6) .nil) (hTs.mono (kd6.trans tp6)),by simp [hl],fun u mu=> ?_⟩
         rcases List.mem_append.mp mu with mu|mu
         · exact hw u mu
         · rw [List.mem_singleton.mp mu]
           exact ⟨c5 ty,by omega,fe lnt⟩
       · rintro acc H7 ⟨hT7,b7,hD,ts,hTs,hl,hw⟩
         refine ⟨D,acc,rfl, .inl ⟨SqL.of hD,fun l nl'=> ?_⟩⟩
         refine ⟨by show 3≤sizeLine;decide,fun p np=> ?_⟩
         have s1:Same H7 (upd H7 l (.tup acc)):=ah nl'
         have s2:Same (upd H7 l (.tup acc)) (upd (upd H7 l (.tup acc)) p (.tup [.str (Str.ofString "call"), .str g, .ref l])):=ah np
         have ha:TrAt (upd (upd H7 l (.tup acc)) p (.tup [.str (Str.ofString "call"), .str g, .ref l])) (.ref p) (.tup [s_ "call", .str g, .tup ts]):=at_tup ac (.cons at_str (.cons at_str (.cons (at_tup (s2 _ _ ac) (hTs.mono (Kd.of_same (s1.trans s2)))) .nil)))
         have tha:Th 8 (.tup [s_ "call", .str g, .tup ts]):=(fq (fi 6 _) (fi 6 _ hg8) (er (by omega) hw)).mono (by decide)
         have hT8:=(hT7.same (s1.trans s2))
         have b8:=b7.trans (But.of_same (s1.trans s2))
         generalize upd (upd H7 l (.tup acc)) p (.tup [.str (Str.ofString "call"), .str g, .ref l])=H8 at ha hT8 b8 ⊢
         refine aI ?_
         refine ⟨_,rfl,?_⟩
         refine eF ?_
         refine bn rfl ?_
         refine ⟨_,rfl,m,by show [V.int (1+r4)]=_;rw [em],by omega,by omega,fun D2 nD2=> ?_⟩
         have nfD2:=hT8.ne nD2
         have n0D2:=b8.free hT8 nD2
         have haD:TrAt (upd H8 D2 (.lst [])) (.ref p) (.tup [s_ "call", .str g, .tup ts]):=ha.mono (Kd.of_same (ah nD2))
         refine bV (n:=m) (fun i acc H'=>TapeAt H' tp c (kk+179+i*16)∧But tp H H'∧TrAt H' (.ref p) (.tup [s_ "call", .str g, .tup ts])∧H' D2=some (.lst acc)∧∃ts2:List Tr,TrsAt H' acc ts2∧ts2.length=i∧∀t∈ts2,Th 5 t)
          ⟨(hT8.wr nfD2).mono (by omega),b8.wr n0D2,haD,ac,[], .nil,rfl,fun y m=>by cases m⟩ ?_ ?_
         · rintro i acc H' hi ⟨hT',bt,hap,hD,ts2,hTs,hl,hw⟩
           refine ⟨_,rfl,_,rfl,tp,c,nl,1,kk+179+i*16,rfl,hT',by show kk+179+i*16+16≤1000000;omega,hN.but nt bt,nt,by decide,fun v t H6 hT6 b6 hv ty lnt dt=> ?_⟩
           have hD6:H6 D2=some (.lst acc):=b6 D2 _ nfD2.1 hD
           have kd6:=b6.kd hT' hT6
           have tp6:=Kd.upd (ys:=acc++ [v]) hD6
           have hl2:=hTs.len
           have hT6':TapeAt H6 tp c (kk+179+i*16+16):=hT6
           refine CompN.mk hi (by omega) hD6 ⟨(hT6'.wr nfD2).mono (by omega),(bt.trans b6).wr n0D2,hap.mono (kd6.trans tp6),ac,ts2++ [t],TrsAt.app (.cons (hv.mono tp6) .nil) (hTs.mono (kd6.trans tp6)),by simp [hl],fun u mu=> ?_⟩
           rcases List.mem_append.mp mu with mu|mu
           · exact hw u mu
           · rw [List.mem_singleton.mp mu]
             exact ⟨c5 ty,by omega,fe lnt⟩
         · rintro acc H9 ⟨hT9,b9,hap,hD,ts2,hTs,hl,hw⟩
           refine ⟨D2,acc,rfl, .inl ⟨SqL.of hD,fun l nl'=> ?_⟩⟩
           refine ⟨by show 3≤sizeLine;decide,fun p2 np2=> ?_⟩
           have s1:Same H9 (upd H9 l (.tup acc)):=ah nl'
           have s2:Same (upd H9 l (.tup acc)) (upd (upd H9 l (.tup acc)) p2 (.tup [.str (Str.ofString "call"), .str g, .ref l])):=ah np2
           refine aI ?_
           exact hnx _ _ ⟨(hT9.same (s1.trans s2)).mono (by omega),b9.trans (But.of_same (s1.trans s2)), .ref p, .ref p2,_,_,_,_,rfl,hap.mono (Kd.of_same (s1.trans s2)),at_tup ac (.cons at_str (.cons at_str (.cons (at_tup (s2 _ _ ac) (hTs.mono (Kd.of_same (s1.trans s2)))) .nil))),tha,(fq (fi 6 _) (fi 6 _ hg8) (er (by omega) hw)).mono (by decide)⟩
     · exact hnx _ _ ⟨hT3.mono (by omega),b3,v1,v2,t1,t2,_,_,rfl,hv1'.mono kd3,hv2.mono kd3,th1,th2⟩
   · exact hnx _ _ ⟨hT2.mono (by omega),b12,v1,v2,t1,t2,_,_,rfl,hv1',hv2,th1,th2⟩
 rintro σ' H3 ⟨hT3,b3,x,y,t,u,v5,v6,rfl,hx,hy,tht,thu⟩
 have last:∀(y:V) (u:Tr) (H4:Hp),TapeAt H4 tp c (kk+281)→But tp H H4→TrAt H4 x t→TrAt H4 y u→Th 8 u→(tRet (tTup (bf (tVar 3) (bf (tVar 4) tNil)))) {nx:=fun _ H'=>Q .non H',rt:=Q} [some (.ref tp),some (.ref nl),some (.str wd),some x,some y,v5,v6] H4:=by
  intro y u H4 hT4 b4 hx hy thu
  refine ⟨_,rfl,_,rfl,by show 2≤sizeLine;decide,fun p np=> ?_⟩
  have sp:=ah (o:= .tup [x,y]) np
  exact k (.ref p) t u _ ((hT4.same sp).mono (by omega)) (b4.trans (But.of_same sp)) (cW ac (hx.mono (Kd.of_same sp)) (hy.mono (Kd.of_same sp))) tht thu
 refine ⟨_,rfl,tp,c,8,kk+280,rfl,hT3,by omega,by decide,ba (by decide) (by decide),fun r4 H4 _ _ hT4 kp4=> ?_⟩
 have b4:=b3.trans (But.of_keep kp4)
 have kd4:=(But.of_keep kp4).kd hT3 hT4
 refine ⟨rfl,_,rfl,?_⟩
 refine ite2 (fun _=> ?_) (fun _=> ?_)
 · refine ⟨_,rfl,?_⟩
   refine aI ?_
   exact last x t H4 hT4 b4 (hx.mono kd4) (hx.mono kd4) tht
 · exact last y u H4 hT4 b4 (hx.mono kd4) (hy.mono kd4) thu
end
open PySem L2 Mth Tre Wd Su
def StA (t:Tr):Prop:=Th 13 t∧∃(k:Str) (r:List Tr),t= .tup (.str k::r)∧(k= "resolve"→∃(i:Int) (q:List Tr),r= .int i::q)
theorem o9 {n:Nat} {a:Tr} {ts:List Tr} (l:ts.length≤11) (h1:Th n a) (h2:∀t∈ts,Th n t):Th (n+1) (.tup (a::ts)):=er (by rw [List.length_cons];omega) fun t m=>by
 rcases List.mem_cons.mp m with rfl|m
 · exact h1
 · exact h2 t m
theorem gv {k:Str} {r:List Tr} (hk:k≠"resolve") (hl:r.length≤11) (hk2:k.length≤100) (h:∀t∈r,Th 12 t):StA (.tup (.str k::r)):=⟨o9 hl (fi _ _ hk2) h,k,r,rfl,fun e=>absurd e hk⟩
theorem at_i {H:Hp} {x:Int}:TrAt H (.int x) (.int x):=by unfold TrAt;rfl
theorem pG {r:Int} (h0:0≤r) (h4:r < 4):∃x:Str,atI [V.str (Str.ofString "turn"), .str (Str.ofString "calls"), .str (Str.ofString "level"), .str (Str.ofString "meet")] r=some (.str x)∧x≠"resolve"∧x.length≤100:=by
 have:r=0∨r=1∨r=2∨r=3:=by omega
 rcases this with rfl|rfl|rfl|rfl
 · exact ⟨_,rfl,by decide +kernel,by decide +kernel⟩
 · exact ⟨_,rfl,by decide +kernel,by decide +kernel⟩
 · exact ⟨_,rfl,by decide +kernel,by decide +kernel⟩
 · exact ⟨_,rfl,by decide +kernel,by decide +kernel⟩
section
variable {P:Program} {w:World} {K:PySem.W.Frag} {mg:Str→Option Value} {base:Heap}
def mK:Sp:=fun vs H Q _=>∃(tp c nl:Addr) (k:Nat),vs= [.ref tp, .ref nl]∧TapeAt H tp c k∧k+2300≤1000000∧Names H nl∧nl≠tp∧
 ∀v t H',TapeAt H' tp c (k+2300)→But tp H H'→TrAt H' v t→StA t→Q v H'
theorem scStp:ax ["_law_tape_here","_law_names_here","_law_kind","_law_word"] ["_law_tape_here","_law_names_here"] (af jx):=⟨rfl,rfl,rfl,by decide +kernel,rfl,by decide +kernel,by decide +kernel⟩
theorem uo {f fT fD fH fP fM fR:Addr} {fd dT dD dH dP dM dR:FuncData} (F:Fun K "_law_step" "_law_step" jx f fd)
 (gT:FnOk P w K mg base CX0 4 fT dT ["_law_tape_here","_law_names_here","_law_deep"] (eG 3)) (kT:PySem.W.keepIn K (.ref fT)=true) (bT:Binds K dT ["_law_tape_here","_law_names_here","_law_deep"] []) (mT:mg "_law_term"=some (.ref fT))
 (gD:FnOk P w K mg base CX0 1 fD dD ["_law_tape_here","_law_many"] ci) (kD:PySem.W.keepIn K (.ref fD)=true) (bD:Binds K dD ["_law_tape_here","_law_many"] []) (mD:mg "_law_draw"=some (.ref fD))
 (gH:FnOk P w K mg base CX0 10 fH dH ["_law_tape_here","_law_names_here","_law_deep"] kf) (kH:PySem.W.keepIn K (.ref fH)=true) (bH:Binds K dH ["_law_tape_here","_law_names_here","_law_deep"] []) (mH:mg "_law_thing"=some (.ref fH))
 (gP:FnOk P w K mg base CX0 6 fP dP ["_law_tape_here","_law_names_here"] iw) (kP:PySem.W.keepIn K (.ref fP)=true) (bP:Binds K dP ["_law_tape_here","_law_names_here"] []) (mP:mg "_law_parts"=some (.ref fP))
 (gM:FnOk P w K mg base CX0 5 fM dM ["_law_tape_here","_law_names_here","_law_least"] iu) (kM:PySem.W.keepIn K (.ref fM)=true) (bM:Binds K dM ["_law_tape_here","_law_names_here","_law_least"] []) (mM:mg "_law_terms"=some (.ref fM))
 (gR:FnOk P w K mg base CX0 5 fR dR ["_law_tape_here","_law_names_here","_law_word"] mV) (kR:PySem.W.keepIn K (.ref fR)=true) (bR:Binds K dR ["_law_tape_here","_law_names_here","_law_word"] []) (mR:mg "_law_pair"=some (.ref fR)):
 FnOk P w K mg base CX0 11 f fd ["_law_tape_here","_law_names_here"] mK:=by
 refine F.ok scStp (fun vs H Q E h=> ?_) (fun cdv A outer s H vs Q E hr h=> ?_)
 · obtain ⟨tp,c,nl,k,rfl,_⟩:=h
   rfl
 obtain ⟨tp,c,nl,kk,rfl,hT,hn,hN,nt,k⟩:=h
 have hr1:Room 1 _:=hr.mono (by decide)
 have hr4:Room 4 _:=hr.mono (by decide)
 have hr5:Room 5 _:=hr.mono (by decide)
 have hr6:Room 6 _:=hr.mono (by decide)
 refine ⟨_,ae (aD (i:=2) scStp.nd rfl (Or.inl rfl) (ad gD hr1 rfl mD kD bD .nil ai (a8 (pv 0) (a8 aa a9))))
  (ae (aK (aw be (pv 2) aa (aq _)) (ag (aj (aH (a8 aA (a8 (ad gD hr1 rfl mD kD bD .nil ai (a8 (pv 0) (a8 aa a9))) a9))))) az)
  (ae (aK (aw be (pv 2) aa (aq _)) (ag (aj (aH (a8 aA (a8 (ad gH hr rfl mH kH bH .nil ai (a8 (pv 0) (a8 (pv 1) (a8 aa a9)))) (a8 (ad gD hr1 rfl mD kD bD .nil ai (a8 (pv 0) (a8 aa a9))) a9)))))) az)
  (ae (aK (aw be (pv 2) aa (aq _)) (ag (aj (aH (a8 aA (a8 (ad gD hr1 rfl mD kD bD .nil ai (a8 (pv 0) (a8 aa a9))) (a8 (ad gD hr1 rfl mD kD bD .nil ai (a8 (pv 0) (a8 aa a9))) (a8 (ad gH hr rfl mH kH bH .nil ai (a8 (pv 0) (a8 (pv 1) (a8 aa a9)))) a9))))))) az)
  (ae (aK (PW.pt (cv (aw be (pv 2) aa (aq _)) (ck (aw be (pv 2) aa (aq _))))) (ag (aj (aH (a8 aA (a8 (ad gP hr6 rfl mP kP bP .nil ai (a8 (pv 0) (a8 (pv 1) a9))) a9))))) az)
  (ae (aK (aw be (pv 2) aa (aq _)) (ag (aj (aH (a8 aA (a8 (ad gT hr4 rfl mT kT bT .nil ai (a8 (pv 0) (a8 (pv 1) (a8 aa a9)))) a9))))) az)
  (ae (aK (aw be (pv 2) aa (aq _)) (ag (aj (aH (a8 aA (a8 (ad gM hr5 rfl mM kM bM .nil ai (a8 (pv 0) (a8 (pv 1) (a8 aa a9)))) a9))))) az)
  (ae (aD (i:=3) scStp.nd rfl (Or.inl rfl) (am aT (cm (a8 aA (a8 aA (a8 aA (a8 aA a9))))) (ad gD hr1 rfl mD kD bD .nil ai (a8 (pv 0) (a8 aa a9))) fun _ _=>rfl))
  (ag (aj (aE oH (aH (a8 (pv 3) a9)) (ad gR hr5 rfl mR kR bR .nil ai (a8 (pv 0) (a8 (pv 1) (a8 (pv 3) a9)))))))))))))),?_⟩
 have hL:(20000:Nat)≤sizeLine:=by decide +kernel
 refine ⟨_,rfl,tp,c,9,kk,rfl,hT,by omega,by decide,ba (by decide) (by decide),fun r H1 _ _ hT1 kp1=> ?_⟩
 have b1:But tp H H1:=But.of_keep kp1
 have hN1:=hN.but nt b1
 refine aI ?_
 refine ⟨_,rfl,rfl,_,rfl,?_⟩
 refine ite2 (fun _=> ?_) (fun _=> ?_)
 · refine ⟨_,rfl,tp,c,5,kk+1,rfl,hT1,by omega,by decide,ba (by decide) (by decide),fun r2 H2 q0 q1 hT2 kp2=> ?_⟩
   refine ⟨by show 2≤sizeLine;decide,fun p np=> ?_⟩
   have sp:=ah (o:= .tup [.str (Str.ofString "wish"), .int r2]) np
   exact k (.ref p) _ _ ((hT2.same sp).mono (by omega)) (b1.trans ((But.of_keep kp2).trans (But.of_same sp))) (at_tup ac (.cons at_str (.cons at_i .nil))) (gv (by decide +kernel) (by simp) (by decide +kernel) fun t m=>by rw [List.mem_singleton.mp m];exact gm _ _ (kl q0 (by omega)))
 refine ⟨_,rfl,rfl,_,rfl,?_⟩
 refine ite2 (fun _=> ?_) (fun _=> ?_)
 · refine ⟨_,rfl,_,rfl,tp,c,nl,2,kk+1,rfl,hT1,by show kk+1+2240≤1000000;omega,hN1,nt,by decide,fun v t H2 hT2 b2 hv th=> ?_⟩
   have hT2:TapeAt H2 tp c (kk+1+2240):=hT2
   refine ⟨_,rfl,tp,c,4,kk+2241,rfl,hT2,by omega,by decide,ba (by decide) (by decide),fun r2 H3 q0 q1 hT3 kp3=> ?_⟩
   have kd3:=(But.of_keep kp3).kd hT2 hT3
   refine ⟨by show 3≤sizeLine;decide,fun p np=> ?_⟩
   have sp:=ah (o:= .tup [.str (Str.ofString "open"),v, .int r2]) np
   refine k (.ref p) _ _ ((hT3.same sp).mono (by omega)) (b1.trans (b2.trans ((But.of_keep kp3).trans (But.of_same sp)))) (at_tup ac (.cons at_str (.cons (hv.mono (kd3.trans (Kd.of_same sp))) (.cons at_i .nil)))) (gv (by decide +kernel) (by simp) (by decide +kernel) fun u m=> ?_)
   rcases List.mem_cons.mp m with rfl|m
   · exact th
   · rw [List.mem_singleton.mp m]
     exact gm _ _ (kl q0 (by omega))
 refine ⟨_,rfl,rfl,_,rfl,?_⟩
 refine ite2 (fun _=> ?_) (fun _=> ?_)
 · refine ⟨_,rfl,tp,c,6,kk+1,rfl,hT1,by omega,by decide,ba (by decide) (by decide),fun r2 H2 q0 q1 hT2 kp2=> ?_⟩
   refine ⟨_,rfl,tp,c,6,kk+2,rfl,hT2,by omega,by decide,ba (by decide) (by decide),fun r3 H3 q2 q3 hT3 kp3=> ?_⟩
   have b3:=b1.trans ((But.of_keep kp2).trans (But.of_keep kp3))
   refine ⟨_,rfl,_,rfl,tp,c,nl,1,kk+3,rfl,hT3,by show kk+3+560≤1000000;omega,hN.but nt b3,nt,by decide,fun v t H4 hT4 b4 hv th=> ?_⟩
   have hT4:TapeAt H4 tp c (kk+3+560):=hT4
   refine ⟨by show 4≤sizeLine;decide,fun p np=> ?_⟩
   have sp:=ah (o:= .tup [.str (Str.ofString "resolve"), .int r2, .int r3,v]) np
   refine k (.ref p) (.tup [s_ "resolve", .int r2, .int r3,t]) _ ((hT4.same sp).mono (by omega)) (b3.trans (b4.trans (But.of_same sp))) (at_tup ac (.cons at_str (.cons at_i (.cons at_i (.cons (hv.mono (Kd.of_same sp)) .nil))))) ⟨o9 (by simp) (fi _ _) fun u m=> ?_,_,_,rfl,fun _=>⟨r2,_,rfl⟩⟩
   rcases List.mem_cons.mp m with rfl|m
   · exact gm _ _ (kl q0 (by omega))
   · rcases List.mem_cons.mp m with rfl|m
     · exact gm _ _ (kl q2 (by omega))
     · rw [List.mem_singleton.mp m]
       exact th
 have sumS:(tRet (tTup (bf (tC (.str (Str.ofString "sum"))) (bf (lr iw [] E0 (bf (tVar 0) (bf (tVar 1) tNil))) tNil)))) {nx:=fun _ H'=>Q .non H',rt:=Q} [some (.ref tp),some (.ref nl),some (.int r),none] H1:=by
  refine ⟨_,rfl,_,rfl,tp,c,nl,kk+1,rfl,hT1,by omega,hN1,nt,fun v t H2 hT2 b2 hv th=> ?_⟩
  refine ⟨by show 2≤sizeLine;decide,fun p np=> ?_⟩
  have sp:=ah (o:= .tup [.str (Str.ofString "sum"),v]) np
  exact k (.ref p) _ _ ((hT2.same sp).mono (by omega)) (b1.trans (b2.trans (But.of_same sp))) (at_tup ac (.cons at_str (.cons (hv.mono (Kd.of_same sp)) .nil))) (gv (by decide +kernel) (by simp) (by decide +kernel) fun u m=>by rw [List.mem_singleton.mp m];exact th)
 refine ⟨_,rfl,rfl,_,rfl,?_⟩
 refine ite2 (fun _=>sumS) (fun _=> ?_)
 refine ⟨_,rfl,rfl,_,rfl,?_⟩
 refine ite2 (fun _=>sumS) (fun _=> ?_)
 refine ⟨_,rfl,rfl,_,rfl,?_⟩
 refine ite2 (fun _=> ?_) (fun _=> ?_)
 · refine ⟨_,rfl,_,rfl,tp,c,nl,2,kk+1,rfl,hT1,by show kk+1+64≤1000000;omega,hN1,nt,by decide,fun v t H2 hT2 b2 hv ty lnt dt=> ?_⟩
   have hT2:TapeAt H2 tp c (kk+1+64):=hT2
   refine ⟨by show 2≤sizeLine;decide,fun p np=> ?_⟩
   have sp:=ah (o:= .tup [.str (Str.ofString "self"),v]) np
   exact k (.ref p) _ _ ((hT2.same sp).mono (by omega)) (b1.trans (b2.trans (But.of_same sp))) (at_tup ac (.cons at_str (.cons (hv.mono (Kd.of_same sp)) .nil))) (gv (by decide +kernel) (by simp) (by decide +kernel) fun u m=>by rw [List.mem_singleton.mp m];exact ⟨c5 ty,by omega,fe lnt⟩)
 refine ⟨_,rfl,rfl,_,rfl,?_⟩
 refine ite2 (fun _=> ?_) (fun _=> ?_)
 · refine ⟨_,rfl,_,rfl,tp,c,nl,3,kk+1,rfl,hT1,by omega,hN1,nt,by decide,fun v t H2 hT2 b2 hv th _=> ?_⟩
   refine ⟨by show 2≤sizeLine;decide,fun p np=> ?_⟩
   have sp:=ah (o:= .tup [.str (Str.ofString "chain"),v]) np
   exact k (.ref p) _ _ ((hT2.same sp).mono (by omega)) (b1.trans (b2.trans (But.of_same sp))) (at_tup ac (.cons at_str (.cons (hv.mono (Kd.of_same sp)) .nil))) (gv (by decide +kernel) (by simp) (by decide +kernel) fun u m=>by rw [List.mem_singleton.mp m];exact th)
 refine ⟨by show 4≤sizeLine;decide,fun L nL=> ?_⟩
 have nLt:=hT1.ne nL
 have n0L:=b1.free hT1 nL
 refine ⟨_,rfl,tp,c,4,kk+1,rfl,hT1.wr nLt,by omega,by decide,ba (by decide) (by decide),fun r2 H2 r20 r24 hT2 kp2=> ?_⟩
 have hL2:=(kp2 L nLt.1).trans (ac (o:=HO.lst [.str (Str.ofString "turn"), .str (Str.ofString "calls"), .str (Str.ofString "level"), .str (Str.ofString "meet")]))
 have b2:=(b1.wr n0L (o:= .lst [.str (Str.ofString "turn"), .str (Str.ofString "calls"), .str (Str.ofString "level"), .str (Str.ofString "meet")])).trans (But.of_keep kp2)
 obtain ⟨x,ex,hx,hx2⟩:=pG r20 r24
 refine ⟨L,_,r2,_,rfl,rfl,SqL.of hL2,ex,?_⟩
 refine aI ?_
 refine ⟨_,rfl,by show 1≤sizeLine;decide,fun p1 np1=> ?_⟩
 have s3:=ah (o:= .tup [.str x]) np1
 have hT3:=hT2.same s3
 have b3:=b2.trans (But.of_same s3)
 refine ⟨_,rfl,_,rfl,_,rfl,tp,c,nl,x,kk+2,rfl,hT3,by omega,hN.but nt b3,nt,fun v a b H4 hT4 b4 hv tha thb=> ?_⟩
 have h1:=b4 p1 _ (hT2.ne np1).1 (ac (o:=HO.tup [.str x]))
 obtain ⟨rp,xa,xb,rfl,hrp,hxa,hxb⟩:=dz hv
 refine ⟨p1,rp,[.str x],[xa,xb],rfl,rfl,SqT.of h1,SqT.of hrp,by simp,by show 3≤sizeLine;decide,fun z=>absurd z (by simp),fun _ p np=> ?_⟩
 have sp:=ah (o:= .tup ([.str x]++ [xa,xb])) np
 refine k (.ref p) (.tup [.str x,a,b]) _ ((hT4.same sp).mono (by omega)) (b3.trans (b4.trans (But.of_same sp))) (at_tup ac (.cons at_str (.cons (hxa.mono (Kd.of_same sp)) (.cons (hxb.mono (Kd.of_same sp)) .nil)))) (gv hx (by simp) hx2 fun u m=> ?_)
 rcases List.mem_cons.mp m with rfl|m
 · exact tha.mono (by decide)
 · rw [List.mem_singleton.mp m]
   exact thb.mono (by decide)
end
end K23
namespace L2
open PySem Tre
section
variable {X:Cx}
theorem PE.imp {e:Expr} {t u:TE} (h:PE X e t) (k:∀σ H Q,u σ H Q→t σ H Q):PE X e u:=fun pins s σ H Q I q=>h pins s σ H Q I (k σ H Q q)
theorem PA.imp {es:List Expr} {t u:TA} (h:PA X es t) (k:∀σ H Q,u σ H Q→t σ H Q):PA X es u:=fun pos pins s σ H Q I q=>h pos pins s σ H Q I (k σ H Q q)
theorem cL {H:Hp} {p:Addr} {o:HO} (h:H p=none):Same H (upd H p o):=fun b u e=>by
 rw [aB (aN e h)]
 exact e
theorem Same.none {H H':Hp} {p:Addr} (s:Same H H') (h:H' p=none):H p=none:=by
 cases e:H p with
 |none=>rfl
 |some o=>rw [s p o e] at h;cases h
end
end L2
namespace EqD
open PySem PySem.Spec PyProof.Rows SeqAt L2
section
variable {prog:Program} {w:World} {A:Around} {E:Value→Shared→Prop} {s:Shared}
theorem uR {a b:Addr} {ws:List Value} {Q:Value→Shared→Prop} (ha:IsTup s.heap a ([]:List Value).toArray) (hb:IsTup s.heap b ws.toArray) (k:Q (.ref b) s):wpAny (model prog w) A (binaryOp .Add (.ref a) (.ref b)) Q E s:=by
 obtain ⟨⟨c1,d1,t1,l1⟩,g1,e1,m1,f1⟩:=ha
 obtain ⟨⟨c2,d2,t2,l2⟩,g2,e2,m2,f2⟩:=hb
 dsimp only at e1 f1 e2 f2
 subst e1 f1 e2 f2
 exact concat_meets ⟨_,g1,rfl⟩ ⟨_,g2,rfl⟩ noFill_tuple_add seq_tuple_add PySem.F.slot_tuple_add PySem.F.entry_tuple_add (PySem.F.args_tuple_add_2 _ _) (tuple_addW0 a b _ ws.toArray m1 m2 d1 d2 l1 l2 rfl) ⟨g1,g2,k⟩
end
section
variable {X:Cx}
def xg:R2:=fun x y H Q=>∃a b xs ys,x= .ref a∧y= .ref b∧H a=some (.tup xs)∧H b=some (.tup ys)∧xs.length+ys.length≤sizeLine∧∀r H',Same H H'→H' r=some (.tup (xs++ys))→Q (.ref r) H'
theorem fV:OpR X (binaryOp .Add) xg:=by
 intro pins s σ H x y v u Q I rx ry h
 obtain ⟨a,b,xs,ys,rfl,rfl,ha,hb,hz,q⟩:=h
 by_cases z:xs= []
 · subst z
   cases rx
   cases ry
   obtain ⟨us,r1,p1,_⟩:=I.tuple (SqT.of ha)
   obtain ⟨ws,r2,p2,_⟩:=I.tuple (SqT.of hb)
   cases r1
   exact uR p1 p2 ⟨.ref b,H,I,rfl,q b H (Same.refl H) hb⟩
 · refine oH pins s σ H _ _ v u Q I rx ry ⟨a,b,xs,ys,rfl,rfl,SqT.of ha,SqT.of hb,z,hz,fun e=> ?_,fun e p np=> ?_⟩
   · subst e
     exact q a H (Same.refl H) (by rw [List.append_nil];exact ha)
   · exact q p _ (cL np) ac
end
open PySem L2
noncomputable def di (f:Expr→Option Pl):List Expr→Option (List Pl)
 | []=>some []
 |e::es=>match f e,di f es with
  |some t,some ts=>some (t::ts)
  |_,_=>none
noncomputable def litP:Nat→Expr→Option Pl
 |0,_=>none
 |n+1,e=>match e with
  | .Constant (.str x) _ _=>some (.str x)
  | .Constant (.int i) _ _=>some (.int i)
  | .Constant (.bool b) _ _=>some (.bl b)
  | .Constant .none _ _=>some .non
  | .UnaryOp .USub (.Constant (.int i) _ _) _=>some (.int (-i))
  | .Tuple es _ _=>if es.length≤100 then (di (litP n) es).map .tup else none
  | .List es _=>if es.length≤100 then (di (litP n) es).map (fun _=> .lst) else none
  | .Dict [some (.Constant (.str _) _ _)] [.Constant (.int _) _ _] _=>some .dct
  | .Dict [] [] _=>some .dct
  |_=>none
noncomputable def jG (n:Nat):Expr→Option (List Pl)
 | .List es _=>if es.length≤100 then di (litP n) es else none
 |_=>none
def wM (t:Pl):TE:=fun _ H Q=>∀v H',Same H H'→PlAt H' v t→Q v H'
def qx (ts:List Pl):TA:=fun _ H Q=>∀vs H',Same H H'→PlsAt H' vs ts→Q vs H'
def vG (ts:List Pl):TE:=fun _ H Q=>∀r vs H',Same H H'→H r=none→H' r=some (.lst vs)→PlsAt H' vs ts→Q (.ref r) H'
section
variable {X:Cx}
theorem f8:∀ {n:Nat} {es:List Expr} {ts:List Pl},di (litP n) es=some ts→ts.length=es.length
 |n,[],ts,h=>by
  rw [di] at h
  cases h
  rfl
 |n,e::es,ts,h=>by
  rw [di] at h
  split at h
  · rename_i t us h1 h2
    cases h
    rw [List.length_cons,List.length_cons,f8 h2]
  · cases h
theorem re:∀n,∀e t,litP n e=some t→PE X e (wM t)∧∀es,starEach (e::es) X.env=(false,eval e X.env)::starEach es X.env:=by
 intro n
 induction n with
 |zero=>
  intro e t h
  rw [litP] at h
  cases h
 |succ n ih=>
  have many:∀es ts,di (litP n) es=some ts→PA X es (qx ts):=by
   intro es
   induction es with
   |nil=>
    intro ts h
    rw [di] at h
    cases h
    exact PA.imp a9 fun σ H Q q=>q [] H (Same.refl H) .nil
   |cons e es ih2=>
    intro ts h
    rw [di] at h
    split at h
    · rename_i t us h1 h2
      cases h
      obtain ⟨a1,a2⟩:=ih e t h1
      refine PA.imp (a8 a1 (ih2 us h2) (a2 es)) fun σ H Q q=> ?_
      intro v H1 s1 hv ws H2 s2 hw
      exact q (v::ws) H2 (s1.trans s2) (.cons (hv.mono (Ke.of_same s2)) hw)
    · cases h
  have big:(100:Nat)≤sizeLine:=by decide +kernel
  intro e t h
  unfold litP at h
  split at h
  · cases h
    exact ⟨PE.imp aA fun σ H Q q=>q _ H (Same.refl H) (by unfold PlAt;rfl),fun es=>rfl⟩
  · cases h
    exact ⟨PE.imp aa fun σ H Q q=>q _ H (Same.refl H) (by unfold PlAt;rfl),fun es=>rfl⟩
  · cases h
    exact ⟨PE.imp cB fun σ H Q q=>q _ H (Same.refl H) (by unfold PlAt;rfl),fun es=>rfl⟩
  · cases h
    exact ⟨PE.imp qX fun σ H Q q=>q _ H (Same.refl H) (by unfold PlAt;rfl),fun es=>rfl⟩
  · cases h
    exact ⟨PE.imp (cV cr aa) fun σ H Q q=>⟨_,rfl,q _ H (Same.refl H) (by unfold PlAt;rfl)⟩,fun es=>rfl⟩
  · rename_i es k pos
    split at h
    · rename_i hl
      obtain ⟨ts,h1,h2⟩:=Option.map_eq_some_iff.mp h
      cases h2
      refine ⟨PE.imp (aH (many es ts h1)) fun σ H Q q=> ?_,fun es=>rfl⟩
      intro vs H1 s1 hv
      have l1:=hv.len
      have l2:=f8 h1
      refine ⟨by omega,fun p np=> ?_⟩
      have s2:=cL (o:= .tup vs) np
      exact q (.ref p) _ (s1.trans s2) (by unfold PlAt;exact ⟨p,vs,rfl,ac,hv.mono (Ke.of_same s2)⟩)
    · cases h
  · rename_i es pos
    split at h
    · rename_i hl
      obtain ⟨ts,h1,h2⟩:=Option.map_eq_some_iff.mp h
      cases h2
      refine ⟨PE.imp (cm (many es ts h1)) fun σ H Q q=> ?_,fun es=>rfl⟩
      intro vs H1 s1 hv
      have l1:=hv.len
      have l2:=f8 h1
      refine ⟨by omega,fun p np=> ?_⟩
      have s2:=cL (o:= .lst vs) np
      exact q (.ref p) _ (s1.trans s2) (by unfold PlAt;exact ⟨p,vs,rfl,ac⟩)
    · cases h
  · rename_i k _ _ i _ _ _
    cases h
    refine ⟨PE.imp (uf (qR aA aa uc) rfl rfl (by simp) (by simp)) fun σ H Q q=> ?_,fun es=>rfl⟩
    intro p np
    refine ⟨ac,[(.inr k, .int i)],rfl,by simp,q (.ref p) _ ?_ (by unfold PlAt;exact ⟨p,_,rfl,ac⟩)⟩
    intro b o e
    have ne:b≠p:=fun z=>by rw [z,np] at e;cases e
    rw [aB ne,aB ne]
    exact e
  · cases h
    refine ⟨PE.imp rh fun σ H Q q=> ?_,fun es=>rfl⟩
    intro p np
    exact q (.ref p) _ (cL (o:= .dK []) np) (by unfold PlAt;exact ⟨p,_,rfl,ac⟩)
  · cases h
theorem lJ (n:Nat):∀ {es:List Expr} {ts:List Pl},di (litP n) es=some ts→PA X es (qx ts)
 | [],ts,h=>by
  rw [di] at h
  cases h
  exact PA.imp a9 fun σ H Q q=>q [] H (Same.refl H) .nil
 |e::es,ts,h=>by
  rw [di] at h
  split at h
  · rename_i t us h1 h2
    cases h
    obtain ⟨a1,a2⟩:=re (X:=X) n e t h1
    refine PA.imp (a8 a1 (lJ n h2) (a2 es)) fun σ H Q q=> ?_
    intro v H1 s1 hv ws H2 s2 hw
    exact q (v::ws) H2 (s1.trans s2) (.cons (hv.mono (Ke.of_same s2)) hw)
  · cases h
theorem lG (n:Nat) {e:Expr} {ts:List Pl} (h:jG n e=some ts):PE X e (vG ts):=by
 unfold jG at h
 split at h
 · rename_i es pos
   split at h
   · rename_i hl
     refine PE.imp (cm (lJ n h)) fun σ H Q q=> ?_
     intro vs H1 s1 hv
     have l1:=hv.len
     have l2:=f8 h
     refine ⟨by have:(100:Nat)≤sizeLine:=by decide +kernel
                omega,fun p np=> ?_⟩
     have s2:=cL (o:= .lst vs) np
     exact q p vs _ (s1.trans s2) (s1.none np) ac (hv.mono (Ke.of_same s2))
   · cases h
 · cases h
end
end EqD
namespace K23P
open PySem L2 Mth Wd EqD Tre Su
open K23
inductive Gz (l:Nat):Nat→Pl→Prop
 |non (d:Nat):Gz l d .non
 |bl (d:Nat) (b:Bool):Gz l d (.bl b)
 |int (d:Nat) (i:Int):Big i→Gz l d (.int i)
 |str (d:Nat) (x:Str):x.length≤300→Gz l d (.str x)
 |lst (d:Nat):Gz l d .lst
 |dct (d:Nat):Gz l d .dct
 |tup (d:Nat) (ts:List Pl):ts.length≤l→(∀t∈ts,Gz l d t)→Gz l (d+1) (.tup ts)
theorem Gz.mono {l l' d:Nat} {p:Pl} (h:Gz l d p):∀ {e:Nat},l≤l'→d≤e→Gz l' e p:=by
 induction h with
 |non=>exact fun _ _=> .non _
 |bl=>exact fun _ _=> .bl _ _
 |int d i h=>exact fun _ _=> .int _ _ h
 |str d x h1=>exact fun _ _=> .str _ _ h1
 |lst=>exact fun _ _=> .lst _
 |dct=>exact fun _ _=> .dct _
 |tup d ts h1 h2 ih=>
  intro e hl hd
  obtain ⟨e',rfl⟩:∃e',e=e'+1:=⟨e - 1,by omega⟩
  exact .tup e' ts (by omega) fun t m=>ih t m hl (by omega)
theorem Gz.items {l d:Nat} {ts:List Pl} (h:Gz l d (.tup ts)):∃d',d=d'+1∧ts.length≤l∧∀t∈ts,Gz l d' t:=by
 cases h with
 |tup d' _ h1 h2=>exact ⟨d',rfl,h1,h2⟩
theorem lx:∀ {ts:List Pl} {d:Nat},(∀t∈ts,pdep t≤d)→psdep ts≤d
 | [],d,_=>by unfold psdep;omega
 |t::ts,d,h=>by
  unfold psdep
  have h1:=h t List.mem_cons_self
  have h2:=lx fun u m=>h u (List.mem_cons_of_mem _ m)
  omega
theorem Gz.dep {l d:Nat} {p:Pl} (h:Gz l d p):pdep p≤d:=by
 induction h with
 |tup d ts h1 h2 ih=>
  unfold pdep
  have:=lx ih
  omega
 |_=>unfold pdep;omega
theorem oksO:∀ {ts:List Pl},(∀t∈ts,Ok t)→Oks ts
 | [],_=>by unfold Oks;trivial
 |t::ts,h=>by unfold Oks;exact ⟨h t List.mem_cons_self,oksO fun u m=>h u (List.mem_cons_of_mem _ m)⟩
theorem Gz.ok {l d:Nat} {p:Pl} (h:Gz l d p) (hl:l≤1000):Ok p:=by
 induction h with
 |non=>unfold Ok;trivial
 |bl=>unfold Ok;trivial
 |int d i h=>unfold Ok;exact h
 |str d x h1=>unfold Ok;omega
 |lst=>unfold Ok;trivial
 |dct=>unfold Ok;trivial
 |tup d ts h1 h2 ih=>unfold Ok;exact ⟨by omega,oksO ih⟩
theorem Gz.cut {l d:Nat} {ts us:List Pl} (h:Gz l d (.tup ts)) (hl:us.length≤ts.length) (hm:∀u∈us,u∈ts):Gz l d (.tup us):=by
 obtain ⟨d',rfl,h1,h2⟩:=h.items
 exact .tup d' us (by omega) fun u m=>h2 u (hm u m)
mutual
theorem sO:∀ {t:Tr},Oq t→t.pure→Gz 12 t.depth (toPl t)
 | .str x,h,_=>by rw [toPl];unfold Oq at h;exact .str _ _ (by omega)
 | .int i,h,_=>by rw [toPl];unfold Oq at h;exact .int _ _ (Nat.lt_of_lt_of_le h (Nat.pow_le_pow_right (by decide) (by decide)))
 | .bl b,h,_=>by rw [toPl];exact .bl _ _
 | .non,h,_=>by rw [toPl];exact .non _
 | .ls,h,_=>by rw [toPl];exact .lst _
 | .tup ts,h,hp=>by
  rw [toPl,Tr.depth]
  unfold Oq at h
  refine .tup _ _ (by rw [jo,List.length_map];exact h.1) fun u m=> ?_
  unfold Tr.pure at hp
  exact gz_oqs h.2 hp u m
theorem gz_oqs:∀ {ts:List Tr},Oqs ts→Trs.pure ts→∀u∈toPls ts,Gz 12 (Trs.depth ts) u
 | [],_,_,u,m=>by rw [toPls] at m;cases m
 |t::ts,h,hp,u,m=>by
  rw [toPls] at m
  unfold Oqs at h
  unfold Trs.pure at hp
  rw [Trs.depth]
  rcases List.mem_cons.mp m with rfl|m
  · exact (sO h.1 hp.1).mono (Nat.le_refl _) (by omega)
  · exact (gz_oqs h.2 hp.2 u m).mono (Nat.le_refl _) (by omega)
end
theorem sN {n:Nat} {t:Tr} (h:Th n t):Gz 12 n (toPl t):=(sO h.oq h.pu).mono (Nat.le_refl _) h.dp
theorem But.ke {tp c:Addr} {H H':Hp} {n m:Nat} (b:But tp H H') (x:TapeAt H tp c n) (y:TapeAt H' tp c m):Ke H H':=by
 obtain ⟨xs,e⟩:=x.lst
 obtain ⟨ys,e'⟩:=y.lst
 refine ⟨fun a zs h=>b a _ (fun z=> ?_) h,fun a zs h=> ?_,fun a zs h=>⟨zs,b a _ (fun z=> ?_) h⟩⟩
 · rw [z,e] at h;cases h
 · by_cases z:a=tp
   · subst z;exact ⟨ys,e'⟩
   · exact ⟨zs,b a _ z h⟩
 · rw [z,e] at h;cases h
end K23P
namespace EqD
open PySem L2
theorem PlsAt.drop {H:Hp}:∀ {vs:List V} {ts:List Pl} (n:Nat),PlsAt H vs ts→PlsAt H (vs.drop n) (ts.drop n)
 |vs,ts,0,h=>h
 |vs,[],n+1,h=>by
  unfold PlsAt at h
  subst h
  exact .nil
 |vs,t::ts,n+1,h=>by
  obtain ⟨v,r,rfl,_,h2⟩:=h.inv
  exact PlsAt.drop n h2
theorem PlsAt.take {H:Hp}:∀ {vs:List V} {ts:List Pl} (n:Nat),PlsAt H vs ts→PlsAt H (vs.take n) (ts.take n)
 |vs,ts,0,h=>by
  rw [List.take_zero,List.take_zero]
  exact .nil
 |vs,[],n+1,h=>by
  unfold PlsAt at h
  subst h
  exact .nil
 |vs,t::ts,n+1,h=>by
  obtain ⟨v,r,rfl,h1,h2⟩:=h.inv
  exact .cons h1 (PlsAt.take n h2)
theorem PlsAt.cut {H:Hp} {vs:List V} {ts:List Pl} (h:PlsAt H vs ts) (lo hi:Option Int):∃us,PlsAt H (cutV vs lo hi) us∧us.length≤ts.length∧∀u∈us,u∈ts:=by
 refine ⟨_,(h.drop _).take _,?_,fun u m=>List.mem_of_mem_drop (List.mem_of_mem_take m)⟩
 rw [List.length_take,List.length_drop]
 omega
end EqD
namespace K23P
open PySem L2 Mth EqD K23
theorem vb {H:Hp} {vs:List V} {ts:List Pl} {r:Int} (h:PlsAt H vs ts) (h0:0≤r) (h1:r < (ts.length:Int)):∃v t,atI vs r=some v∧t∈ts∧PlAt H v t:=by
 obtain ⟨j,rfl⟩:∃j:Nat,r=(j:Int):=⟨r.toNat,by omega⟩
 have hl:=h.len
 have hj:j < vs.length:=by omega
 obtain ⟨t,e1,e2⟩:=h.get' (i:=j) (v:=vs[j]) (List.getElem?_eq_getElem hj)
 exact ⟨vs[j],t,bh (List.getElem?_eq_getElem hj),List.mem_of_getElem? e1,e2⟩
theorem cR {H:Hp} {r:Addr} {vs:List V} {ts:List Pl} (h:H r=some (.tup vs)) (h2:PlsAt H vs ts):PlAt H (.ref r) (.tup ts):=by
 unfold PlAt
 exact ⟨r,vs,rfl,h,h2⟩
theorem qS {H:Hp} {r:Addr} {vs:List V} (h:H r=some (.lst vs)):PlAt H (.ref r) .lst:=by
 unfold PlAt
 exact ⟨r,vs,rfl,h⟩
theorem ni {H:Hp} {x:Str}:PlAt H (.str x) (.str x):=by unfold PlAt;rfl
theorem nj {H:Hp} {x:Int}:PlAt H (.int x) (.int x):=by unfold PlAt;rfl
theorem v9 {H:Hp} {x:Bool}:PlAt H (.bl x) (.bl x):=by unfold PlAt;rfl
noncomputable def asgV:Stmt→Expr
 | .Assign _ v _=>v
 |_=> .Constant .none 0 ⟨0,0,0,0⟩
noncomputable def asgW (s:Stmt) (L:Expr):Stmt:=match s with
 | .Assign ts _ p=> .Assign ts L p
 |s=>s
noncomputable def asgB:Stmt→Expr
 | .Assign _ (.BinOp _ _ v _) _=>v
 |_=> .Constant .none 0 ⟨0,0,0,0⟩
noncomputable def asgX (s:Stmt) (L:Expr):Stmt:=match s with
 | .Assign ts (.BinOp a o _ q) p=> .Assign ts (.BinOp a o L q) p
 |s=>s
theorem pB {n:Nat} {L:Expr} {ts:List Pl} (h:jG n L=some ts) {tg:Option Expr} {line:Nat} {env:Env}:swapsWith L tg line env=pure false:=by
 unfold jG at h
 split at h
 · rfl
 · cases h
theorem pV {vs:List V} {j:Nat} (hj:j < vs.length):cutV vs none (some (j:Int))=vs.take j∧cutV vs (some ((j:Int)+1)) none=vs.drop (j+1):=by
 unfold cutV
 have e1:HT.sIx vs.length vs.length (some (j:Int))=j:=by rw [HT.sIx_nat];omega
 have e2:HT.sIx vs.length 0 (some ((j:Int)+1))=j+1:=by
  rw [show (j:Int)+1=((j+1:Nat):Int) by omega,HT.sIx_nat]
  omega
 rw [e1,e2]
 refine ⟨by simp [HT.sIx_none],?_⟩
 rw [HT.sIx_none]
 apply List.take_of_length_le
 rw [List.length_drop]
 omega
open PySem L2 Mth Wd EqD Tre Su
open K23
noncomputable def odd1:List Pl:= [.bl true, .int 1, .int 0, .int (-1), .non, .str (Str.ofString ""), .str (Str.ofString "name"), .str (Str.ofString "most"), .tup [], .lst, .dct, .tup [.int 1, .int 1], .tup [.bl true, .int 1], .tup [.int 2, .int 4], .tup [.int 0, .int 1], .tup [.int 1, .int (-1)], .tup [.int (-1), .int 1]]
noncomputable def odd2:List Pl:= [.tup [.str (Str.ofString "flag"), .str (Str.ofString "a")], .tup [.str (Str.ofString "name"), .str (Str.ofString "a")], .tup [.str (Str.ofString "not"), .tup [.str (Str.ofString "flag"), .str (Str.ofString "a")]], .tup [.str (Str.ofString "like"), .tup [.str (Str.ofString "name"), .str (Str.ofString "a")], .tup [.str (Str.ofString "name"), .str (Str.ofString "a")]], .bl false]
theorem gzs {x:Str} (h:decide (x.length≤300)=true) (l d:Nat):Gz l d (.str x):= .str d x (of_decide_eq_true h)
theorem gzi {i:Int} (h:decide (i.natAbs≤100)=true) (l d:Nat):Gz l d (.int i):= .int d i (Nat.lt_of_le_of_lt (of_decide_eq_true h) (by decide +kernel))
theorem gz2 {l d:Nat} {a b:Pl} (hl:3≤l) (ha:Gz l d a) (hb:Gz l d b):Gz l (d+1) (.tup [a,b]):= .tup d _ (by simp;omega) fun t m=>by
 simp only [List.mem_cons,List.not_mem_nil,or_false] at m
 rcases m with rfl|rfl
 · exact ha
 · exact hb
theorem gz3 {l d:Nat} {a b c:Pl} (hl:3≤l) (ha:Gz l d a) (hb:Gz l d b) (hc:Gz l d c):Gz l (d+1) (.tup [a,b,c]):= .tup d _ (by simp;omega) fun t m=>by
 simp only [List.mem_cons,List.not_mem_nil,or_false] at m
 rcases m with rfl|rfl|rfl
 · exact ha
 · exact hb
 · exact hc
theorem rR {l:Nat} (hl:3≤l) {T:Int} (bT:Big T):∀p∈odd1++odd2++ [.int T],Gz l 2 p:=by
 intro p m
 have na:Gz l 1 (.tup [.str (Str.ofString "name"), .str (Str.ofString "a")]):=gz2 hl (gzs (by decide +kernel) _ _) (gzs (by decide +kernel) _ _)
 have fa:Gz l 1 (.tup [.str (Str.ofString "flag"), .str (Str.ofString "a")]):=gz2 hl (gzs (by decide +kernel) _ _) (gzs (by decide +kernel) _ _)
 have ii:∀i j:Int,decide (i.natAbs≤100)=true→decide (j.natAbs≤100)=true→Gz l 2 (.tup [.int i, .int j]):=fun i j h1 h2=>(gz2 (d:=1) hl (gzi h1 _ _) (gzi h2 _ _))
 simp only [odd1,odd2,List.cons_append,List.nil_append,List.mem_cons,List.not_mem_nil,or_false] at m
 rcases m with rfl|rfl|rfl|rfl|rfl|rfl|rfl|rfl|rfl|rfl|rfl|rfl|rfl|rfl|rfl|rfl|rfl|rfl|rfl|rfl|rfl|rfl|rfl
 · exact .bl _ _
 · exact gzi (by decide) _ _
 · exact gzi (by decide) _ _
 · exact gzi (by decide) _ _
 · exact .non _
 · exact gzs (by decide +kernel) _ _
 · exact gzs (by decide +kernel) _ _
 · exact gzs (by decide +kernel) _ _
 · exact .tup 1 _ (by simp) fun t m=>by cases m
 · exact .lst _
 · exact .dct _
 · exact ii _ _ (by decide) (by decide)
 · exact gz2 (d:=1) hl (.bl _ _) (gzi (by decide) _ _)
 · exact ii _ _ (by decide) (by decide)
 · exact ii _ _ (by decide) (by decide)
 · exact ii _ _ (by decide) (by decide)
 · exact ii _ _ (by decide) (by decide)
 · exact fa.mono (Nat.le_refl _) (by decide)
 · exact na.mono (Nat.le_refl _) (by decide)
 · exact gz2 hl (gzs (by decide +kernel) _ _) fa
 · exact gz3 hl (gzs (by decide +kernel) _ _) na na
 · exact .bl _ _
 · exact .int _ _ bT
noncomputable abbrev bdB (i:Nat):Stmt:=(ao fJ).getD i (.Pass ⟨0,0,0,0⟩)
section
variable {P:Program} {w:World} {K:PySem.W.Frag} {mg:Str→Option Value} {base:Heap}
def n8 (l n:Nat):Sp:=fun vs H Q _=>∃(tp c:Addr) (v:V) (p:Pl) (d e k:Nat),vs= [.ref tp,v, .int (d:Int)]∧TapeAt H tp c k∧k+4*(d+1)≤1000000∧PlAt H v p∧Gz l e p∧d < n∧
 ∀v' p' H',TapeAt H' tp c (k+4*(d+1))→But tp H H'→PlAt H' v' p'→Gz (l+1) (e+3) p'→Q v' H'
theorem scBe:ax ["_law_tape_here","_law_thing_here","_law_deep","_law_odd","_law_way","_law_at"] ["_law_tape_here","_law_thing_here","_law_deep"] (af fJ):=⟨rfl,rfl,rfl,by decide +kernel,rfl,by decide +kernel,by decide +kernel⟩
theorem oJ {f fD:Addr} {fd fdD:FuncData} (F:Fun K "_law_bent" "_law_bent" fJ f fd) (bF:Binds K fd ["_law_tape_here","_law_thing_here","_law_deep"] []) (mF:mg "_law_bent"=some (.ref f)) (B:Blt mg)
 (GD:FnOk P w K mg base CX0 1 fD fdD ["_law_tape_here","_law_many"] ci) (kD:PySem.W.keepIn K (.ref fD)=true) (bD:Binds K fdD ["_law_tape_here","_law_many"] []) (mD:mg "_law_draw"=some (.ref fD))
 {l:Nat} (l3:3≤l) (l9:l≤900):∀n,FnOk P w K mg base CX0 (n+2) f fd ["_law_tape_here","_law_thing_here","_law_deep"] (n8 l n):=by
 intro n
 induction n with
 |zero=>exact ⟨fun vs H Q E ⟨_,_,_,_,_,_,_,_,_,_,_,_,h,_⟩=>absurd h (by omega),fun A outer s H args us vs Q E _ _ _ _ ⟨_,_,_,_,_,_,_,_,_,_,_,_,h,_⟩=>absurd h (by omega)⟩
 |succ n ih=>
  refine F.ok scBe (fun vs H Q E h=> ?_) (fun cdv A outer s H vs Q E hr h=> ?_)
  · obtain ⟨tp,c,v,p,d,e,k,rfl,_⟩:=h
    rfl
  obtain ⟨tp,c,v,p,d,e,kk,rfl,hT,hn,hv,hg,hd,k⟩:=h
  have hr1:Room 1 _:=hr.mono (by omega)
  have eB:ao fJ=asgW (bdB 0) (asgV (bdB 0))::asgX (bdB 1) (asgB (bdB 1))::(ao fJ).drop 2:=rfl
  have e1:jG 9 (asgV (bdB 0))=some odd1:=rfl
  have e2:jG 9 (asgB (bdB 1))=some odd2:=rfl
  rw [eB]
  clear eB
  generalize asgV (bdB 0)=L1 at e1 ⊢
  generalize asgB (bdB 1)=L2 at e2 ⊢
  refine ⟨_,ae (aD (i:=3) scBe.nd rfl (Or.inl rfl) (lG 9 e1) (pB e1))
   (ae (aD (i:=3) scBe.nd rfl (Or.inl rfl) (aE i7 (pv 3) (lG 9 e2)))
   (ae (eY (iX PySem.F.plainAttrs_list PySem.F.slot_list_append PySem.F.type_list_append cN (pv 3) (a8 (aE nw aa aa) a9)))
   (ae (aD (i:=4) scBe.nd rfl (Or.inl rfl) (ad GD hr1 rfl mD kD bD .nil ai (a8 (pv 0) (a8 aa a9))))
   (ae (aK (PW.pt (dy (aU (ar (r:=rIsi K) aS rfl B.isi ay (a8 (pv 1) (a8 (aX (v:= .ty "tuple") rfl B.tu PyProof.Rows.boot_tuple rfl) a9))))
    (dy (aw dY (ar aF rfl B.le PySem.boot_len (a8 (pv 1) a9)) aa (aq _))
    (dy (aw dY (pv 2) aa (aq _)) (dw (aw dY (pv 4) aa (aq _)))))))
    (ae (aD (i:=5) scBe.nd rfl (Or.inl rfl) (ad GD hr1 rfl mD kD bD .nil ai (a8 (pv 0) (a8 (ar aF rfl B.le PySem.boot_len (a8 (pv 1) a9)) a9))))
    (ag (aj (aE fV (aE fV (cb SlW.sl_A (pv 1) cy (cw (pv 5))) (aH (a8 (ad ih hr rfl mF F.kp bF .nil ai (a8 (pv 0) (a8 (am ak (pv 1) (pv 5) fun _ _=>rfl) (a8 (aE fk (pv 2) aa) a9)))) a9)))
     (cb SlW.sl_A (pv 1) (cw (aE bU (pv 5) aa)) cy))))) az)
   (ae (aK (PW.pt (dy (aw be (pv 4) aa (aq _)) (dw (aU (ar (r:=rIsi K) aS rfl B.isi ay (a8 (pv 1) (a8 (aX (v:= .ty "tuple") rfl B.tu PyProof.Rows.boot_tuple rfl) a9)))))))
    (ag (aj (bE cM rfl B.li PyProof.Rows.boot_list (a8 (pv 1) a9)))) az)
   (ae (aK (PW.pt (dy (aw be (pv 4) aa (aq _)) (dw (aU (ar (r:=rIsi K) aS rfl B.isi ay (a8 (pv 1) (a8 (aX (v:= .ty "tuple") rfl B.tu PyProof.Rows.boot_tuple rfl) a9)))))))
    (ag (aj (aE fV (pv 1) (aH (a8 (am aT (pv 3) (ad GD hr1 rfl mD kD bD .nil ai (a8 (pv 0) (a8 (ar aF rfl B.le PySem.boot_len (a8 (pv 3) a9)) a9))) fun _ _=>rfl) a9))))) az)
   (ae (aK (PW.pt (dy (aw be (pv 4) aa (aq _)) (dw (aU (ar (r:=rIsi K) aS rfl B.isi ay (a8 (pv 1) (a8 (aX (v:= .ty "tuple") rfl B.tu PyProof.Rows.boot_tuple rfl) a9)))))))
    (ag (aj (cb SlW.sl_A (pv 1) (cw aa) cy))) az)
   (ag (aj (am aT (pv 3) (ad GD hr1 rfl mD kD bD .nil ai (a8 (pv 0) (a8 (ar aF rfl B.le PySem.boot_len (a8 (pv 3) a9)) a9))) fun _ _=>rfl)))))))))),?_⟩
  have hL:(20000:Nat)≤sizeLine:=by decide +kernel
  intro A1 vs1 H2 s2 _ hA hP1
  refine aI ?_
  try dsimp only
  refine ⟨_,rfl,?_⟩
  intro A2 vs2 H3 s3 _ hB hP2
  have l1:=hP1.len
  have l2:=hP2.len
  have c1:odd1.length=17:=rfl
  have c2:odd2.length=5:=rfl
  refine ⟨A1,A2,vs1,vs2,rfl,rfl,s3 _ _ hA,hB,by omega,fun L nL=> ?_⟩
  have sL:=ah (o:= .lst (vs1++vs2)) nL
  have hLL:=ac (H:=H3) (a:=L) (o:= .lst (vs1++vs2))
  have hP:=PlsAt.app hP2 (hP1.mono (Ke.of_same s3))
  have hP4:=hP.mono (Ke.of_same sL)
  have s4:=s2.trans (s3.trans sL)
  have nLh:H L=none:=(s2.trans s3).none nL
  have nL2:=(hT.same (s2.trans s3)).ne nL
  generalize upd H3 L (.lst (vs1++vs2))=H4 at sL hLL hP4 s4 ⊢
  have hT4:=hT.same s4
  refine aI ?_
  try dsimp only
  obtain ⟨T,eT,bT⟩:∃T:Int,(10:Int)^(30:Int).toNat=T∧Big T:=⟨_,rfl,Nat.lt_of_lt_of_le (show ((10:Int)^(30:Int).toNat).natAbs < 2^200 by decide +kernel) (Nat.pow_le_pow_right (by decide) (by decide))⟩
  refine ⟨_,rfl, .inl ⟨rfl,_,SqL.of hLL⟩,_,_,rfl,rfl,⟨by decide,by decide,by decide⟩,?_⟩
  dsimp only
  rw [eT]
  refine ⟨L,_,_,rfl,rfl,hLL,by rw [List.length_append];omega,?_⟩
  have tp5:Ke H4 (upd H4 L (.lst (vs1++vs2++ [.int T]))):=by
   refine ⟨fun a zs q=> ?_,fun a zs q=> ?_,fun a zs q=> ?_⟩
   · rw [aB (fun z=>by rw [z,hLL] at q;cases q)];exact q
   · by_cases z:a=L
     · subst z;exact ⟨_,ac⟩
     · rw [aB z];exact ⟨zs,q⟩
   · rw [aB (fun z=>by rw [z,hLL] at q;cases q)];exact ⟨zs,q⟩
  have hP5:PlsAt (upd H4 L (.lst (vs1++vs2++ [.int T]))) (vs1++vs2++ [.int T]) (odd1++odd2++ [.int T]):=PlsAt.app (.cons nj .nil) (hP4.mono tp5)
  have hL5:(upd H4 L (.lst (vs1++vs2++ [.int T]))) L=some (.lst (vs1++vs2++ [.int T])):=ac
  have hT5:=hT4.wr (o:= .lst (vs1++vs2++ [.int T])) nL2
  have b5:But tp H (upd H4 L (.lst (vs1++vs2++ [.int T]))):=(But.of_same s4).wr nLh
  have hv5:=hv.mono ((Ke.of_same s4).trans tp5)
  generalize upd H4 L (.lst (vs1++vs2++ [.int T]))=H5 at hP5 hL5 hT5 b5 hv5 ⊢
  clear tp5 hP4 hLL s4 hT4
  have ol:(vs1++vs2++ [V.int T]).length=23:=by rw [List.length_append,List.length_append,l1,l2,c1,c2];rfl
  have oo:(odd1++odd2++ [Pl.int T]).length=23:=rfl
  generalize hO:vs1++vs2++ [V.int T]=os at*
  refine ⟨_,rfl,tp,c,8,kk,rfl,hT5,by omega,by decide,ba (by decide) (by decide),fun wy H6 w0 w8 hT6 kp6=> ?_⟩
  have b56:But tp H5 H6:=But.of_keep kp6
  have k56:=But.ke b56 hT5 hT6
  have b6:=b5.trans b56
  have hL6:H6 L=some (.lst os):=b56 _ _ nL2.1 hL5
  have hP6:=hP5.mono k56
  have hv6:=hv5.mono k56
  clear hP5 hL5 hT5 b5 hv5 k56 b56 kp6
  refine aI ?_
  try dsimp only
  have oddS:∀H7,TapeAt H7 tp c (kk+1)→But tp H6 H7→(tRet (tOp (rIxL K) (tVar 3) (lr ci [] E0 (bf (tVar 0) (bf (tCB (fun xs H Q=>∃p ys,xs= [.ref p]∧(SqL K H p ys∨SqT K H p ys)∧Q (.int ys.length) H) (bf (tVar 3) tNil)) tNil))))) {nx:=fun _ H'=>Q .non H',rt:=Q} [some (.ref tp),some v,some (.int (d:Int)),some (.ref L),some (.int wy),none] H7:=by
   intro H7 hT7 b7
   refine ⟨_,rfl,_,rfl,_,rfl,L,os,rfl, .inl (SqL.of (b7 _ _ nL2.1 hL6)),tp,c,_,kk+1,rfl,hT7,by omega,by rw [ol];decide,ba (by rw [ol];decide) (by rw [ol];decide),fun r H8 r0 r1 hT8 kp8=> ?_⟩
   have b8:But tp H7 H8:=But.of_keep kp8
   obtain ⟨x,t,ex,mt,hx⟩:=vb (hP6.mono ((But.ke b7 hT6 hT7).trans (But.ke b8 hT7 hT8))) r0 (by rw [ol] at r1;rw [oo];exact r1)
   refine ⟨L,os,r,x,rfl,rfl,SqL.of (b8 _ _ nL2.1 (b7 _ _ nL2.1 hL6)),ex,?_⟩
   exact k x t H8 (hT8.mono (by omega)) (b6.trans (b7.trans b8)) hx ((rR l3 bT t mt).mono (by omega) (by omega))
  refine fE (fun σ' H'=>σ'= [some (.ref tp),some v,some (.int (d:Int)),some (.ref L),some (.int wy),none]∧H6=H') ?_ fun nx hnx=> ?_
  rotate_left
  · refine ⟨_,rfl,v, .ty "tuple",_,cD p,rfl,c7 hv6, .inl ⟨rfl,cg K p⟩,_,rfl,?_⟩
    cases p with
    |tup ts=>
     refine iteT ?_
     have hv':=hv6
     unfold PlAt at hv'
     obtain ⟨r,vs,rfl,g,hTs⟩:=hv'
     have tl:=hTs.len
     obtain ⟨e',rfl,g1,g2⟩:=hg.items
     refine ⟨_,rfl,r,vs,rfl, .inr (SqT.of g),_,_,rfl,rfl,_,rfl,?_⟩
     refine ite2 (fun z=> ?_) (fun z=> ?_)
     rotate_left
     · first|exact hnx _ _ ⟨rfl,rfl⟩|exact iteF (hnx _ _ ⟨rfl,rfl⟩)
     have z0:(0:Int) < (vs.length:Int):=of_decide_eq_true z
     refine ⟨_,rfl,_,_,rfl,rfl,_,rfl,?_⟩
     refine ite2 (fun z=> ?_) (fun z=> ?_)
     rotate_left
     · exact iteF (hnx _ _ ⟨rfl,rfl⟩)
     have d0:(0:Int) < (d:Int):=of_decide_eq_true z
     refine ⟨_,rfl,_,_,rfl,rfl,_,rfl,?_⟩
     refine ite2 (fun z=> ?_) (fun z=> ?_)
     rotate_left
     · exact hnx _ _ ⟨rfl,rfl⟩
     refine ⟨_,rfl,_,rfl,r,vs,rfl, .inr (SqT.of g),tp,c,_,kk+1,rfl,hT6,by omega,z0,ba (by omega) (by omega),fun j H7 j0 jn hT7 kp7=> ?_⟩
     have b7:But tp H6 H7:=But.of_keep kp7
     have k7:=But.ke b7 hT6 hT7
     obtain ⟨m,rfl⟩:∃m:Nat,j=(m:Int):=⟨j.toNat,by omega⟩
     have hm:m < vs.length:=by omega
     obtain ⟨c1',c2'⟩:=pV hm
     refine aI ?_
     try dsimp only
     refine ⟨_,rfl,_,rfl,m,rfl,r,vs,rfl,k7.tup _ _ g,fun ra H8 s8 e8=> ?_⟩
     rw [c1'] at e8
     have k8:=k7.trans (Ke.of_same s8)
     obtain ⟨x,ex⟩:∃x,vs[m]?=some x:=⟨vs[m],List.getElem?_eq_getElem hm⟩
     obtain ⟨t,et,hx⟩:=hTs.get' ex
     have hT8:=hT7.same s8
     refine ⟨_,rfl,_,rfl,_,rfl,r,vs,_,x,rfl,rfl,SqT.of (k8.tup _ _ g),bh ex,_,rfl,_,_,rfl,rfl,?_⟩
     refine ⟨tp,c,x,t,d - 1,e',kk+2,?_,hT8,by omega,hx.mono k8,g2 t (List.mem_of_getElem? et),by omega,fun v' p' H9 hT9 b9 hv9 hg9=> ?_⟩
     · show [V.ref tp,x, .int ((d:Int) - 1)]=_
       rw [show ((d:Int) - 1)=((d - 1:Nat):Int) by omega]
     have k9:=But.ke b9 hT8 hT9
     refine ⟨by show 1≤sizeLine;omega,fun q nq=> ?_⟩
     have sq:=ah (o:= .tup [v']) nq
     have hq:=ac (H:=H9) (a:=q) (o:= .tup [v'])
     generalize upd H9 q (.tup [v'])=HA at sq hq ⊢
     have kA:=k9.trans (Ke.of_same sq)
     refine ⟨ra,q,_,[v'],rfl,rfl,kA.tup _ _ e8,hq,by rw [List.length_take,List.length_singleton];omega,fun rb HB sB eB=> ?_⟩
     refine ⟨_,rfl,_,rfl,_,_,rfl,rfl,_,rfl,r,vs,rfl,(k8.trans (kA.trans (Ke.of_same sB))).tup _ _ g,fun rc HC sC eC=> ?_⟩
     rw [c2'] at eC
     refine ⟨rb,rc,_,_,rfl,rfl,sC _ _ eB,eC,by simp only [List.length_append,List.length_take,List.length_drop,List.length_singleton];omega,fun rd HD sD eD=> ?_⟩
     have sAll:=sB.trans (sC.trans sD)
     have kD':=k8.trans (kA.trans (Ke.of_same sAll))
     have hTD:=hTs.mono kD'
     refine k (.ref rd) (.tup ((ts.take m++ [p'])++ts.drop (m+1))) HD (((hT9.same sq).same sAll).mono (by omega)) (b6.trans (b7.trans ((But.of_same s8).trans (b9.trans (But.of_same (sq.trans sAll)))))) (cR eD (PlsAt.app (hTD.drop _) (PlsAt.app (.cons (hv9.mono (Ke.of_same (sq.trans sAll))) .nil) (hTD.take _)))) (.tup _ _ ?_ fun u mu=> ?_)
     · simp only [List.length_append,List.length_take,List.length_drop,List.length_singleton]
       omega
     · rcases List.mem_append.mp mu with mu|mu
       · rcases List.mem_append.mp mu with mu|mu
         · exact (g2 u (List.mem_of_mem_take mu)).mono (by omega) (by omega)
         · rw [List.mem_singleton.mp mu]
           exact hg9.mono (by omega) (by omega)
       · exact (g2 u (List.mem_of_mem_drop mu)).mono (by omega) (by omega)
    |_=>first|exact iteF (hnx _ _ ⟨rfl,rfl⟩)|exact iteF (iteF (hnx _ _ ⟨rfl,rfl⟩))
  rintro _ _ ⟨rfl,rfl⟩
  refine fE (fun σ' H'=>σ'= [some (.ref tp),some v,some (.int (d:Int)),some (.ref L),some (.int wy),none]∧H6=H') ?_ fun nx hnx=> ?_
  rotate_left
  · refine ⟨_,rfl,rfl,_,rfl,?_⟩
    refine ite2 (fun z=> ?_) (fun z=> ?_)
    rotate_left
    · exact iteF (hnx _ _ ⟨rfl,rfl⟩)
    refine ⟨_,rfl,v, .ty "tuple",_,cD p,rfl,c7 hv6, .inl ⟨rfl,cg K p⟩,_,rfl,?_⟩
    cases p with
    |tup ts=>
     refine iteT ?_
     have hv':=hv6
     unfold PlAt at hv'
     obtain ⟨r,vs,rfl,g,hTs⟩:=hv'
     refine ⟨_,rfl,r,vs,rfl, .inr (SqT.of g),fun q nq=> ?_⟩
     have sq:=ah (o:= .lst vs) nq
     exact k (.ref q) .lst _ ((hT6.same sq).mono (by omega)) (b6.trans (But.of_same sq)) (qS ac) (.lst _)
    |_=>exact iteF (hnx _ _ ⟨rfl,rfl⟩)
  rintro _ _ ⟨rfl,rfl⟩
  refine fE (fun σ' H'=>σ'= [some (.ref tp),some v,some (.int (d:Int)),some (.ref L),some (.int wy),none]∧H6=H') ?_ fun nx hnx=> ?_
  rotate_left
  · refine ⟨_,rfl,rfl,_,rfl,?_⟩
    refine ite2 (fun z=> ?_) (fun z=> ?_)
    rotate_left
    · exact iteF (hnx _ _ ⟨rfl,rfl⟩)
    refine ⟨_,rfl,v, .ty "tuple",_,cD p,rfl,c7 hv6, .inl ⟨rfl,cg K p⟩,_,rfl,?_⟩
    cases p with
    |tup ts=>
     refine iteT ?_
     have hv':=hv6
     unfold PlAt at hv'
     obtain ⟨r,vs,rfl,g,hTs⟩:=hv'
     have tl:=hTs.len
     obtain ⟨e',rfl,g1,g2⟩:=hg.items
     refine ⟨_,rfl,_,rfl,_,rfl,_,rfl,L,os,rfl, .inl (SqL.of hL6),tp,c,_,kk+1,rfl,hT6,by omega,by rw [ol];decide,ba (by rw [ol];decide) (by rw [ol];decide),fun j H8 r0 r1 hT8 kp8=> ?_⟩
     have b8:But tp H6 H8:=But.of_keep kp8
     have k8:=But.ke b8 hT6 hT8
     obtain ⟨x,t,ex,mt,hx⟩:=vb (hP6.mono k8) r0 (by rw [ol] at r1;rw [oo];exact r1)
     refine ⟨L,os,j,x,rfl,rfl,SqL.of (b8 _ _ nL2.1 hL6),ex,by show 1≤sizeLine;omega,fun q nq=> ?_⟩
     have sq:=ah (o:= .tup [x]) nq
     have hq:=ac (H:=H8) (a:=q) (o:= .tup [x])
     generalize upd H8 q (.tup [x])=H9 at sq hq ⊢
     refine ⟨r,q,vs,[x],rfl,rfl,sq _ _ (k8.tup _ _ g),hq,by simp only [List.length_singleton];omega,fun rd HA sA eA=> ?_⟩
     have kA:=(Ke.of_same (sq.trans sA))
     refine k (.ref rd) (.tup (ts++ [t])) HA ((hT8.same (sq.trans sA)).mono (by omega)) (b6.trans (b8.trans (But.of_same (sq.trans sA)))) (cR eA (PlsAt.app (.cons (hx.mono kA) .nil) (hTs.mono (k8.trans kA)))) (.tup _ _ (by rw [List.length_append,List.length_singleton];omega) fun u mu=> ?_)
     rcases List.mem_append.mp mu with mu|mu
     · exact (g2 u mu).mono (by omega) (by omega)
     · rw [List.mem_singleton.mp mu]
       exact (rR l3 bT t mt).mono (by omega) (by omega)
    |_=>exact iteF (hnx _ _ ⟨rfl,rfl⟩)
  rintro _ _ ⟨rfl,rfl⟩
  refine fE (fun σ' H'=>σ'= [some (.ref tp),some v,some (.int (d:Int)),some (.ref L),some (.int wy),none]∧H6=H') ?_ fun nx hnx=> ?_
  rotate_left
  · refine ⟨_,rfl,rfl,_,rfl,?_⟩
    refine ite2 (fun z=> ?_) (fun z=> ?_)
    rotate_left
    · exact iteF (hnx _ _ ⟨rfl,rfl⟩)
    refine ⟨_,rfl,v, .ty "tuple",_,cD p,rfl,c7 hv6, .inl ⟨rfl,cg K p⟩,_,rfl,?_⟩
    cases p with
    |tup ts=>
     refine iteT ?_
     have hv':=hv6
     unfold PlAt at hv'
     obtain ⟨r,vs,rfl,g,hTs⟩:=hv'
     refine ⟨_,rfl,_,rfl,r,vs,rfl,g,fun rd HA sA eA=> ?_⟩
     obtain ⟨us,h1,h2,h3⟩:=(hTs.mono (Ke.of_same sA)).cut (some 1) none
     exact k (.ref rd) (.tup us) HA ((hT6.same sA).mono (by omega)) (b6.trans (But.of_same sA)) (cR eA h1) ((hg.cut h2 h3).mono (by omega) (by omega))
    |_=>exact iteF (hnx _ _ ⟨rfl,rfl⟩)
  rintro _ _ ⟨rfl,rfl⟩
  exact oddS H6 hT6 fun a o _ q=>q
end
end K23P
namespace EqD
open PySem L2
def wN (C:L2.St→Hp→Prop) (t:Pl):TE:=fun σ H Q=>C σ H∧∀v H',Same H H'→PlAt H' v t→Q v H'
def vF (C:L2.St→Hp→Prop) (ts:List Pl):TA:=fun σ H Q=>C σ H∧∀vs H',Same H H'→PlsAt H' vs ts→Q vs H'
def du (C:L2.St→Hp→Prop) (ts:List Pl):TE:=fun σ H Q=>C σ H∧∀r vs H',Same H H'→H r=none→H' r=some (.lst vs)→PlsAt H' vs ts→Q (.ref r) H'
structure PEs (X:Cx) (e:Expr) (t:TE):Prop where
 h:PE X e t
structure LT (X:Cx) (C:L2.St→Hp→Prop) (e:Expr) (t:Pl):Prop where
 pe:PE X e (wN C t)
 st:∀es,starEach (e::es) X.env=(false,eval e X.env)::starEach es X.env
structure LTs (X:Cx) (C:L2.St→Hp→Prop) (es:List Expr) (ts:List Pl):Prop where
 pa:PA X es (vF C ts)
 len:es.length≤100
 len2:ts.length=es.length
section
variable {X:Cx} {C:L2.St→Hp→Prop}
theorem LT.str {x a pos}:LT X C (.Constant (.str x) a pos) (.str x):=⟨PE.imp aA fun σ H Q q=>q.2 _ H (Same.refl H) (by unfold PlAt;rfl),fun es=>rfl⟩
theorem LT.int {x a pos}:LT X C (.Constant (.int x) a pos) (.int x):=⟨PE.imp aa fun σ H Q q=>q.2 _ H (Same.refl H) (by unfold PlAt;rfl),fun es=>rfl⟩
theorem LT.bl {x a pos}:LT X C (.Constant (.bool x) a pos) (.bl x):=⟨PE.imp cB fun σ H Q q=>q.2 _ H (Same.refl H) (by unfold PlAt;rfl),fun es=>rfl⟩
theorem LT.hole {e:Expr} {t:Pl} {te:TE} (h:PE X e te) (hc:∀σ H Q,C σ H→(∀v H',Same H H'→PlAt H' v t→Q v H')→te σ H Q) (st:∀es,starEach (e::es) X.env=(false,eval e X.env)::starEach es X.env):LT X C e t:=
 ⟨PE.imp h fun σ H Q q=>hc σ H Q q.1 q.2,st⟩
theorem LTs.nil:LTs X C [] []:=⟨PA.imp a9 fun σ H Q q=>q.2 [] H (Same.refl H) .nil,by simp,rfl⟩
theorem LTs.cons (hC:∀σ H H',C σ H→Same H H'→C σ H') {e:Expr} {t:Pl} {es:List Expr} {ts:List Pl} (h:LT X C e t) (hs:LTs X C es ts) (hl:es.length < 100):LTs X C (e::es) (t::ts):=
 ⟨PA.imp (a8 h.pe hs.pa (h.st es)) fun σ H Q q=>⟨q.1,fun v H1 s1 hv=>⟨hC _ _ _ q.1 s1,fun ws H2 s2 hw=>q.2 (v::ws) H2 (s1.trans s2) (.cons (hv.mono (Ke.of_same s2)) hw)⟩⟩,hl,by rw [List.length_cons,List.length_cons,hs.len2]⟩
theorem LT.tup {es:List Expr} {ts:List Pl} {k pos} (h:LTs X C es ts):LT X C (.Tuple es k pos) (.tup ts):=by
 refine ⟨PE.imp (aH h.pa) fun σ H Q q=>⟨q.1,fun vs H1 s1 hv=> ?_⟩,fun es=>rfl⟩
 have big:(100:Nat)≤sizeLine:=by decide +kernel
 have l1:=hv.len
 have l2:=h.len2
 have l3:=h.len
 refine ⟨by omega,fun p np=> ?_⟩
 have s2:=cL (o:= .tup vs) np
 exact q.2 (.ref p) _ (s1.trans s2) (by unfold PlAt;exact ⟨p,vs,rfl,ac,hv.mono (Ke.of_same s2)⟩)
theorem LTs.lst {es:List Expr} {ts:List Pl} {pos} (h:LTs X C es ts):PEs X (.List es pos) (du C ts):=by
 refine ⟨PE.imp (cm h.pa) fun σ H Q q=>⟨q.1,fun vs H1 s1 hv=> ?_⟩⟩
 have big:(100:Nat)≤sizeLine:=by decide +kernel
 have l1:=hv.len
 have l2:=h.len2
 have l3:=h.len
 refine ⟨by omega,fun p np=> ?_⟩
 have s2:=cL (o:= .lst vs) np
 exact q.2 p vs _ (s1.trans s2) (s1.none np) ac (hv.mono (Ke.of_same s2))
end
end EqD
namespace K23P
open PySem L2 Mth Wd EqD Tre Su
open K23
noncomputable abbrev bdN (i:Nat):Stmt:=(ao ij).getD i (.Pass ⟨0,0,0,0⟩)
noncomputable def retB:Stmt→Expr
 | .Return (some (.BinOp _ _ v _)) _=>v
 |_=> .Constant .none 0 ⟨0,0,0,0⟩
noncomputable def retX (s:Stmt) (L:Expr):Stmt:=match s with
 | .Return (some (.BinOp a o _ q)) p=> .Return (some (.BinOp a o L q)) p
 |s=>s
structure Cn (nl rt:Addr) (av:V) (x0:Str) (A:Pl) (xs:List V) (us:List Pl) (σ:L2.St) (H:Hp):Prop where
 n1:σ[1]?=some (some (.ref nl))
 n2:σ[2]?=some (some av)
 n4:σ[4]?=some (some (.ref rt))
 a:PlAt H av A
 t:H rt=some (.tup xs)
 u:PlsAt H xs us
 n:∃ns,H nl=some (.lst (.str x0::ns))
theorem Cn.same {nl rt:Addr} {av:V} {x0:Str} {A:Pl} {xs:List V} {us:List Pl} (σ:L2.St) (H H':Hp) (c:Cn nl rt av x0 A xs us σ H) (s:Same H H'):Cn nl rt av x0 A xs us σ H':=by
 obtain ⟨ns,e⟩:=c.n
 exact ⟨c.n1,c.n2,c.n4,c.a.mono (Ke.of_same s),s _ _ c.t,c.u.mono (Ke.of_same s),ns,s _ _ e⟩
theorem ic {vs:List V} {n:Nat}:cutV vs none (some (n:Int))=vs.take n:=by
 unfold cutV
 rw [HT.sIx_nat,HT.sIx_none]
 simp [List.take_eq_take_iff]
noncomputable def j1 (A:Pl) (us:List Pl):List Pl:= [.tup [.str (Str.ofString "open"), .tup [.str (Str.ofString "not"),A], .int 0], .tup [.str (Str.ofString "resolve"), .int 0, .int 1, .tup [.str (Str.ofString "not"),A]], .tup [.str (Str.ofString "chain"), .tup (us.take 2)], .tup [.str (Str.ofString "chain"), .tup (us.take 3)]]
noncomputable def iZ (A:Pl) (x0:Str):List Pl:= [.tup [.str (Str.ofString "sum"), .tup []], .tup [.str (Str.ofString "sum"), .tup [.tup [.tup [.str (Str.ofString "flag"), .str x0], .bl true, .tup [.int 1, .int 1]]]], .tup [.str (Str.ofString "wish"), .bl true], .tup [.str (Str.ofString "open"),A, .bl true]]
section
variable {X:Cx} {nl rt:Addr} {av:V} {x0:Str} {A:Pl} {xs:List V} {us:List Pl}
theorem lcs {e:Expr} {t:Pl} {es:List Expr} {ts:List Pl} (h:LT X (Cn nl rt av x0 A xs us) e t) (hs:LTs X (Cn nl rt av x0 A xs us) es ts) (hl:es.length < 100:=by decide):LTs X (Cn nl rt av x0 A xs us) (e::es) (t::ts):= .cons Cn.same h hs hl
theorem nN (hN:X.N[2]?=some (Str.ofString "_law_atom_here")) (hv:Vis X.env.scope (Str.ofString "_law_atom_here")) {pos:Pos}:LT X (Cn nl rt av x0 A xs us) (.Name "_law_atom_here" pos) A:=
 .hole (iW hN hv) (fun σ H Q c q=>⟨av,c.n2,q av H (Same.refl H) c.a⟩) fun es=>rfl
theorem vi (hN:X.N[4]?=some (Str.ofString "_law_terms_here")) (hv:Vis X.env.scope (Str.ofString "_law_terms_here")) {n:Nat} {p1 p2 p3 p4:Pos} {a}:LT X (Cn nl rt av x0 A xs us) (.Subscript (.Name "_law_terms_here" p1) (.Slice none (some (.Constant (.int (n:Int)) a p2)) none p3) p4) (.tup (us.take n)):=
 .hole (cb SlW.sl_A (iW hN hv) cy (cw aa)) (fun σ H Q c q=>⟨_,c.n4,_,rfl,rt,xs,rfl,c.t,fun r H' s e=>q (.ref r) H' s (cR (by rw [ic] at e;exact e) ((c.u.mono (Ke.of_same s)).take n))⟩) fun es=>rfl
theorem l_nm (hN:X.N[1]?=some (Str.ofString "_law_names_here")) (hv:Vis X.env.scope (Str.ofString "_law_names_here")) {p1 p2 p3:Pos} {a}:LT X (Cn nl rt av x0 A xs us) (.Subscript (.Name "_law_names_here" p1) (.Constant (.int 0) a p2) p3) (.str x0):=
 .hole (am aT (iW hN hv) aa fun _ _=>rfl) (fun σ H Q c q=>by
  obtain ⟨ns,e⟩:=c.n
  exact ⟨_,c.n1,nl,_,0, .str x0,rfl,rfl,SqL.of e,bh (j:=0) (by simp),q _ H (Same.refl H) ni⟩) fun es=>rfl
theorem qZ (hN2:X.N[2]?=some (Str.ofString "_law_atom_here")) (hv2:Vis X.env.scope (Str.ofString "_law_atom_here")) (hN4:X.N[4]?=some (Str.ofString "_law_terms_here")) (hv4:Vis X.env.scope (Str.ofString "_law_terms_here")):
 PEs X (asgV (bdN 3)) (du (Cn nl rt av x0 A xs us) (j1 A us)):=
 LTs.lst (lcs (.tup (lcs .str (lcs (.tup (lcs .str (lcs (nN hN2 hv2) .nil))) (lcs .int .nil))))
  (lcs (.tup (lcs .str (lcs .int (lcs .int (lcs (.tup (lcs .str (lcs (nN hN2 hv2) .nil))) .nil)))))
  (lcs (.tup (lcs .str (lcs (vi (n:=2) hN4 hv4) .nil)))
  (lcs (.tup (lcs .str (lcs (vi (n:=3) hN4 hv4) .nil))) .nil))))
theorem qY (hN2:X.N[2]?=some (Str.ofString "_law_atom_here")) (hv2:Vis X.env.scope (Str.ofString "_law_atom_here")) (hN1:X.N[1]?=some (Str.ofString "_law_names_here")) (hv1:Vis X.env.scope (Str.ofString "_law_names_here")):
 PEs X (retB (bdN 5)) (du (Cn nl rt av x0 A xs us) (iZ A x0)):=by
 refine LTs.lst ?_
 refine lcs ?_ (lcs ?_ (lcs ?_ (lcs ?_ .nil)))
 · refine .tup (lcs .str (lcs (.tup .nil) .nil))
 · refine .tup ?_
   refine lcs .str ?_
   refine lcs ?_ .nil
   refine .tup ?_
   refine lcs ?_ .nil
   refine .tup ?_
   refine lcs ?_ ?_
   · refine .tup ?_
     exact lcs .str (lcs (l_nm hN1 hv1) .nil)
   · refine lcs .bl ?_
     refine lcs ?_ .nil
     refine .tup ?_
     exact lcs .int (lcs .int .nil)
 · exact .tup (lcs .str (lcs .bl .nil))
 · exact .tup (lcs .str (lcs (nN hN2 hv2) (lcs .bl .nil)))
end
structure Nd where
 nl:Addr
 rt:Addr
 av:V
 x0:Str
 A:Pl
 xs:List V
 us:List Pl
abbrev Nd.C (d:Nd):L2.St→Hp→Prop:=Cn d.nl d.rt d.av d.x0 d.A d.xs d.us
def tN1:TE:=fun σ H Q=>∃d:Nd,du d.C (j1 d.A d.us) σ H Q
def tN2:TE:=fun σ H Q=>∃d:Nd,du d.C (iZ d.A d.x0) σ H Q
theorem vV {X:Cx} {e:Expr} (h:∀nl rt av x0 A xs us,PEs X e (du (Cn nl rt av x0 A xs us) (j1 A us))):PE X e tN1:=fun pins s σ H Q I ⟨d,q⟩=>h d.nl d.rt d.av d.x0 d.A d.xs d.us |>.h pins s σ H Q I q
theorem vU {X:Cx} {e:Expr} (h:∀nl rt av x0 A xs us,PEs X e (du (Cn nl rt av x0 A xs us) (iZ A x0))):PE X e tN2:=fun pins s σ H Q I ⟨d,q⟩=>h d.nl d.rt d.av d.x0 d.A d.xs d.us |>.h pins s σ H Q I q
open PySem L2 Mth Wd EqD Tre Su
open K23
theorem gz1 {l d:Nat} {a:Pl} (hl:3≤l) (ha:Gz l d a):Gz l (d+1) (.tup [a]):= .tup d _ (by simp;omega) fun t m=>by
 rw [List.mem_singleton.mp m]
 exact ha
theorem vT {H:Hp}:PlAt H .non .non:=by unfold PlAt;rfl
theorem But.keL {l:Addr} {H H':Hp} {xs ys:List V} (b:But l H H') (e:H l=some (.lst xs)) (e':H' l=some (.lst ys)):Ke H H':=by
 refine ⟨fun a zs h=>b a _ (fun z=> ?_) h,fun a zs h=> ?_,fun a zs h=>⟨zs,b a _ (fun z=> ?_) h⟩⟩
 · rw [z,e] at h;cases h
 · by_cases z:a=l
   · subst z;exact ⟨ys,e'⟩
   · exact ⟨zs,b a _ z h⟩
 · rw [z,e] at h;cases h
theorem rW {A:Pl} {us:List Pl} (gA:Gz 12 8 A) (gu:Gz 12 12 (.tup us)):∀t∈j1 A us,Gz 12 14 t:=by
 intro t m
 have hn:Gz 12 9 (.tup [.str (Str.ofString "not"),A]):=gz2 (by decide) (gzs (by decide +kernel) _ _) gA
 have hc:∀n,Gz 12 13 (.tup [.str (Str.ofString "chain"), .tup (us.take n)]):=fun n=>gz2 (by decide) (gzs (by decide +kernel) _ _) (gu.cut (by rw [List.length_take];omega) fun u mu=>List.mem_of_mem_take mu)
 simp only [j1,List.mem_cons,List.not_mem_nil,or_false] at m
 rcases m with rfl|rfl|rfl|rfl
 · exact (gz3 (by decide) (gzs (by decide +kernel) _ _) hn (gzi (by decide) _ _)).mono (Nat.le_refl _) (by decide)
 · refine (Gz.tup (l:=12) 9 _ (by simp) fun t m=> ?_).mono (Nat.le_refl _) (by decide)
   simp only [List.mem_cons,List.not_mem_nil,or_false] at m
   rcases m with rfl|rfl|rfl|rfl
   · exact gzs (by decide +kernel) _ _
   · exact gzi (by decide) _ _
   · exact gzi (by decide) _ _
   · exact hn
 · exact (hc 2).mono (Nat.le_refl _) (by decide)
 · exact (hc 3).mono (Nat.le_refl _) (by decide)
theorem rV {A:Pl} {x0:Str} (gA:Gz 12 8 A) (hx:x0.length≤8):∀t∈iZ A x0,Gz 12 14 t:=by
 intro t m
 simp only [iZ,List.mem_cons,List.not_mem_nil,or_false] at m
 rcases m with rfl|rfl|rfl|rfl
 · exact gz2 (d:=13) (by decide) (gzs (by decide +kernel) _ _) (.tup 12 _ (by simp) fun t m=>by cases m)
 · refine (gz2 (d:=4) (by decide) (gzs (by decide +kernel) _ _) (gz1 (d:=3) (by decide) (gz3 (d:=2) (by decide) (gz2 (d:=1) (by decide) (gzs (by decide +kernel) _ _) (.str _ _ (by omega))) (.bl _ _) (gz2 (d:=1) (by decide) (gzi (by decide) _ _) (gzi (by decide) _ _))))).mono (Nat.le_refl _) (by decide)
 · exact gz2 (d:=13) (by decide) (gzs (by decide +kernel) _ _) (.bl _ _)
 · exact (gz3 (by decide) (gzs (by decide +kernel) _ _) gA (.bl _ _)).mono (Nat.le_refl _) (by decide)
section
variable {P:Program} {w:World} {K:PySem.W.Frag} {mg:Str→Option Value} {base:Heap}
def mY:Sp:=fun vs H Q _=>∃(tp c nl:Addr) (k:Nat),vs= [.ref tp, .ref nl]∧TapeAt H tp c k∧k+610≤1000000∧Names H nl∧nl≠tp∧
 ∀l ws ts H',H l=none→TapeAt H' tp c (k+610)→But tp H H'→H' l=some (.lst ws)→PlsAt H' ws ts→ts.length=11→(∀t∈ts,Gz 12 14 t)→Q (.ref l) H'
theorem scNr:ax ["_law_tape_here","_law_names_here","_law_atom_here","_law_part_here","_law_terms_here","_law_some","_law_weight"] ["_law_tape_here","_law_names_here"] (af ij):=⟨rfl,rfl,rfl,by decide +kernel,rfl,by decide +kernel,by decide +kernel⟩
theorem uv {f fA fP fT fX:Addr} {fd dA dP dT dX:FuncData} (F:Fun K "_law_near" "_law_near" ij f fd)
 (gA:FnOk P w K mg base CX0 6 fA dA ["_law_tape_here","_law_names_here"] iN) (kA:PySem.W.keepIn K (.ref fA)=true) (bA:Binds K dA ["_law_tape_here","_law_names_here"] []) (mA:mg "_law_atom"=some (.ref fA))
 (gP:FnOk P w K mg base CX0 5 fP dP ["_law_tape_here","_law_names_here"] kh) (kP:PySem.W.keepIn K (.ref fP)=true) (bP:Binds K dP ["_law_tape_here","_law_names_here"] []) (mP:mg "_law_part"=some (.ref fP))
 (gT:FnOk P w K mg base CX0 5 fT dT ["_law_tape_here","_law_names_here","_law_least"] iu) (kT:PySem.W.keepIn K (.ref fT)=true) (bT:Binds K dT ["_law_tape_here","_law_names_here","_law_least"] []) (mT:mg "_law_terms"=some (.ref fT))
 (gX:FnOk P w K mg base CX0 2 fX dX ["one","other"] (cU K)) (kX:PySem.W.keepIn K (.ref fX)=true) (bX:Binds K dX ["one","other"] []) (mX:mg "times"=some (.ref fX)):FnOk P w K mg base CX0 7 f fd ["_law_tape_here","_law_names_here"] mY:=by
 refine F.ok scNr (fun vs H Q E h=> ?_) (fun cdv A outer s H vs Q E hr h=> ?_)
 · obtain ⟨tp,c,nl,k,rfl,_⟩:=h
   rfl
 obtain ⟨tp,c,nl,kk,rfl,hT,hn,hN,nt,k⟩:=h
 have hr2:Room 2 _:=hr.mono (by decide)
 have hr5:Room 5 _:=hr.mono (by decide)
 have eB:ao ij= [bdN 0,bdN 1,bdN 2,asgW (bdN 3) (asgV (bdN 3)),bdN 4,retX (bdN 5) (retB (bdN 5))]:=rfl
 have e1:∀X:Cx,X.N[2]?=some (Str.ofString "_law_atom_here")→Vis X.env.scope (Str.ofString "_law_atom_here")→X.N[4]?=some (Str.ofString "_law_terms_here")→Vis X.env.scope (Str.ofString "_law_terms_here")→∀nl rt av x0 A xs us,PEs X (asgV (bdN 3)) (du (Cn nl rt av x0 A xs us) (j1 A us)):=fun X h1 h2 h3 h4 nl rt av x0 A xs us=>qZ h1 h2 h3 h4
 have e2:∀X:Cx,X.N[2]?=some (Str.ofString "_law_atom_here")→Vis X.env.scope (Str.ofString "_law_atom_here")→X.N[1]?=some (Str.ofString "_law_names_here")→Vis X.env.scope (Str.ofString "_law_names_here")→∀nl rt av x0 A xs us,PEs X (retB (bdN 5)) (du (Cn nl rt av x0 A xs us) (iZ A x0)):=fun X h1 h2 h3 h4 nl rt av x0 A xs us=>qY h1 h2 h3 h4
 have e3:∀(tg:Option Expr) (line:Nat) (env:Env),swapsWith (asgV (bdN 3)) tg line env=pure false:=fun _ _ _=>rfl
 rw [eB]
 clear eB
 generalize asgV (bdN 3)=L1 at e1 e3 ⊢
 generalize retB (bdN 5)=L2 at e2 ⊢
 refine ⟨_,ae (aD (i:=2) scNr.nd rfl (Or.inl rfl) (ad gA hr rfl mA kA bA .nil ai (a8 (pv 0) (a8 (pv 1) a9))))
  (ae (aD (i:=3) scNr.nd rfl (Or.inl rfl) (ad gP hr5 rfl mP kP bP .nil ai (a8 (pv 0) (a8 (pv 1) a9))))
  (ae (aD (i:=4) scNr.nd rfl (Or.inl rfl) (ad gT hr5 rfl mT kT bT .nil ai (a8 (pv 0) (a8 (pv 1) (a8 aa a9)))))
  (ae (aD (i:=5) scNr.nd rfl (Or.inl rfl) (vV (e1 _ rfl (Or.inl rfl) rfl (Or.inl rfl))) (e3 _ _ _))
  (ae (iT PassesOwn.never rfl (fK (cm (a8 (aH (a8 aa (a8 aa a9))) (a8 (ad gX hr2 rfl mX kX bX .nil ai (a8 (am ak (pv 3) aa fun _ _=>rfl) (a8 (aH (a8 (cV cr aa) (a8 aa a9))) a9))) (a8 (am ak (pv 3) aa fun _ _=>rfl) a9))))) (aQ (i:=6) scNr.nd rfl (Or.inl rfl))
   (ag (eY (iX PySem.F.plainAttrs_list PySem.F.slot_list_append PySem.F.type_list_append cN (pv 5) (a8 (aH (a8 aA (a8 (aH (a8 (aE fV (cb SlW.sl_A (pv 3) cy (cw aa)) (aH (a8 (pv 6) a9))) a9)) a9))) a9)))))
  (ag (aj (aE i7 (pv 5) (vU (e2 _ rfl (Or.inl rfl) rfl (Or.inl rfl)))))))))),?_⟩
 have hL:(20000:Nat)≤sizeLine:=by decide +kernel
 have h10:(10:Nat)≤sizeLine:=by decide +kernel
 refine ⟨_,rfl,_,rfl,tp,c,nl,kk,rfl,hT,by omega,hN,nt,fun av at_ H1 hT1 b1 hav gat dat=> ?_⟩
 refine aI ?_
 refine ⟨_,rfl,_,rfl,tp,c,nl,kk+130,rfl,hT1,by omega,hN.but nt b1,nt,fun pv_ us ff wt bb H2 hT2 b2 hpv ptok=> ?_⟩
 have b12:=b1.trans b2
 refine aI ?_
 refine ⟨_,rfl,_,rfl,tp,c,nl,3,kk+210,rfl,hT2,by omega,hN.but nt b12,nt,by decide,fun tv tt H3 hT3 b3 htv tht htt=> ?_⟩
 obtain ⟨ts,rfl⟩:=htt
 have b13:=b12.trans b3
 have kd2:=b2.kd hT1 hT2
 have kd3:=b3.kd hT2 hT3
 have hA3:PlAt H3 av (toPl at_):=lE (hav.mono (kd2.trans kd3))
 have gA3:Gz 12 8 (toPl at_):=(sO (vd gat) (c5 gat.gw.ty)).mono (Nat.le_refl _) dat
 have hP3:=hpv.mono kd3
 obtain ⟨rp,ap,ru,rf,rw',rfl,hrp,hap,hru,hrf,hrw⟩:=qP hP3
 have thp:=o7 (e:=40) (by decide) (by have:=ptok.len;omega) ptok.ln ptok.gq ff wt bb (ptok.gf.mono (by decide)) (ptok.gw.mono (by decide))
 have thm:=o8 (e:=40) (by decide) (by have:=ptok.len;omega) ptok.ln ptok.gq ff (ptok.gf.mono (by decide))
 have gM:Gz 12 10 (toPl (.tup [s_ "most", .tup (us.map prT),frT ff])):=sN thm
 have hM3:PlAt H3 (.ref ap) (toPl (.tup [s_ "most", .tup (us.map prT),frT ff])):=lE (K23.at_tup hap (.cons K23.at_str (.cons hru (.cons (aY hrf) .nil))))
 have hTp:PlAt H3 tv (toPl (.tup ts)):=lE htv
 have gTp:Gz 12 12 (toPl (.tup ts)):=sN tht
 rw [toPl] at hTp gTp
 have hTp':=hTp
 unfold PlAt at hTp'
 obtain ⟨rt,xs,rfl,grt,hxs⟩:=hTp'
 have hN3:=hN.but nt b13
 clear hN hav hpv htv hT1 hT2 kd2 kd3 b1 b2 b3 hP3
 refine aI ?_
 obtain ⟨x0,xb,xc,eN,nm0,_⟩:=hN3
 have hgu:=hTp
 refine ⟨⟨nl,rt,av,x0,toPl at_,xs,toPls ts⟩,⟨rfl,rfl,rfl,hA3,grt,hxs,_,eN⟩,fun L vs1 H4 s4 nL gL hvs=> ?_⟩
 refine aI ?_
 dsimp only
 have hT4:=hT3.same s4
 have nLt:=hT3.ne nL
 have nL0:H L=none:=b13.free hT3 nL
 have b14:=b13.trans (But.of_same (tp:=tp) s4)
 refine ⟨by show 2≤sizeLine;omega,fun p1 np1=> ?_⟩
 have s5:=ah (o:= .tup [.int 0, .int 1]) np1
 have g5:=ac (H:=H4) (a:=p1) (o:= .tup [.int 0, .int 1])
 generalize upd H4 p1 (.tup [.int 0, .int 1])=H5 at s5 g5 ⊢
 have s35:=s4.trans s5
 refine ⟨_,rfl,rp,_,2, .ref rw',rfl,rfl,SqT.of (s35 _ _ hrp),rfl,_,rfl,by show 2≤sizeLine;omega,fun p2 np2=> ?_⟩
 have s6:=ah (o:= .tup [.int (-1), .int 1]) np2
 have g6:=ac (H:=H5) (a:=p2) (o:= .tup [.int (-1), .int 1])
 generalize upd H5 p2 (.tup [.int (-1), .int 1])=H6 at s6 g6 ⊢
 have s36:=s35.trans s6
 refine ⟨rw',p2,_,_,_,_,rfl,SqT.of (s36 _ _ hrw),SqT.of g6,⟨ptok.gw.pos,by decide,ptok.gw.b1 (by decide),ptok.gw.b2 (by decide),gf_m1.b1 (by decide),gf_m1.b2 (by decide)⟩,fun r2 H7 hr2' s7 h7=> ?_⟩
 have s37:=s36.trans s7
 refine ⟨_,rfl,rp,_,2, .ref rw',rfl,rfl,SqT.of (s37 _ _ hrp),rfl,?_⟩
 refine ⟨by show 3≤sizeLine;omega,fun il nil'=> ?_⟩
 have s8:=ah (o:= .lst [.ref p1, .ref r2, .ref rw']) nil'
 have g8:=ac (H:=H7) (a:=il) (o:= .lst [.ref p1, .ref r2, .ref rw'])
 have gp8:=s8 _ _ ((s6.trans s7) _ _ g5)
 have gr8:=s8 _ _ h7
 have gw8:=s8 _ _ (s37 _ _ hrw)
 have gL8:=s8 _ _ ((s5.trans (s6.trans s7)) _ _ gL)
 have nlL:il≠L:=fun z=>by rw [z,(s5.trans (s6.trans s7)) _ _ gL] at nil';cases nil'
 have s38:=s37.trans s8
 generalize upd H7 il (.lst [.ref p1, .ref r2, .ref rw'])=H8 at s8 g8 gp8 gr8 gw8 gL8 s38 ⊢
 have hT8:=(hT3.same s38).mono (show kk+210+400≤kk+610 by omega)
 have b18:=b13.trans (But.of_same (tp:=tp) s38)
 have hvs8:=hvs.mono (Ke.of_same (s5.trans (s6.trans (s7.trans s8))))
 have hrp8:=s38 _ _ hrp
 have hM8:=hM3.mono (Ke.of_same s38)
 have hA8:=hA3.mono (Ke.of_same s38)
 have grt8:=s38 _ _ grt
 have hxs8:=hxs.mono (Ke.of_same s38)
 have eN8:=s38 _ _ eN
 have ne_tup:∀ {a:Addr} {zs:List V},H8 a=some (.tup zs)→a≠L:=fun h z=>by rw [z,gL8] at h;cases h
 have nlL2:nl≠L:=fun z=>by rw [←z,eN] at nL;cases nL
 clear s4 s5 s6 s7 s8 s35 s36 s37 np1 np2 nil' g5 g6 h7 hr2' hT3 hT4 b13 b14 hvs hrp hrw hap hru hrf gL hTp hA3 grt hxs eN
 have gz0:∀t∈j1 (toPl at_) (toPls ts),Gz 12 14 t:=rW gA3 gTp
 have bw:∀x∈ [V.ref p1, .ref r2, .ref rw'],∃a i j,x= .ref a∧H8 a=some (.tup [.int i, .int j])∧Big i∧Big j:=by
  intro x m
  simp only [List.mem_cons,List.not_mem_nil,or_false] at m
  rcases m with rfl|rfl|rfl
  · exact ⟨p1,0,1,rfl,gp8,ba (by decide) (by decide),ba (by decide) (by decide)⟩
  · exact ⟨r2,_,_,rfl,gr8,(ptok.gw.times gf_m1).b1 (by decide),(ptok.gw.times gf_m1).b2 (by decide)⟩
  · exact ⟨rw',_,_,rfl,gw8,ptok.gw.b1 (by decide),ptok.gw.b2 (by decide)⟩
 have wl: [V.ref p1, .ref r2, .ref rw'].length=3:=rfl
 generalize [V.ref p1, .ref r2, .ref rw']=wts at g8 bw wl
 refine ⟨il,rfl,⟨wts,SqL.of g8⟩,?_⟩
 refine fZ (xs:=wts) (fun i σ H'=>TapeAt H' tp c (kk+610)∧But tp H H'∧But L H8 H'∧∃(ws:List V) (us':List Pl) (v6:Option V),σ= [some (.ref tp),some (.ref nl),some av,some (.ref rp),some (.ref rt),some (.ref L),v6]∧H' L=some (.lst ws)∧PlsAt H' ws us'∧us'.length=4+i∧∀t∈us',Gz 12 14 t)
  ⟨hT8,b18,(fun a o _ e=>e),vs1,_,none,rfl,gL8,hvs8,rfl,gz0⟩ ?_ ?_ ?_
 · rintro i σ H' hi ⟨_,_,bL,_⟩
   exact SqL.of (bL _ _ nlL g8)
 · rintro i x σ H' hx ⟨hT9,b9,bL,ws,us',v6,rfl,gL9,hp9,hl9,hg9⟩
   have hi:i < 3:=by
    have:=(List.getElem?_eq_some_iff.mp hx).1
    omega
   obtain ⟨a,ii,jj,rfl,ga,bi,bj⟩:=bw x (List.mem_of_getElem? hx)
   have kL:=But.keL bL gL8 gL9
   refine aI ?_
   dsimp only
   refine ⟨_,rfl, .inl ⟨rfl,_,SqL.of gL9⟩,_,rfl,_,rfl,rp,_,rfl,kL.tup _ _ hrp8,fun q HA sA eA=> ?_⟩
   rw [show cutV [V.ref ap, .bl bb, .ref rw'] none (some 2)= [V.ref ap, .bl bb] from ic (n:=2)] at eA
   refine ⟨_,rfl,by show 1≤sizeLine;omega,fun p np=> ?_⟩
   have sB:=ah (o:= .tup [.ref a]) np
   have gB:=ac (H:=HA) (a:=p) (o:= .tup [.ref a])
   generalize upd HA p (.tup [.ref a])=HB at sB gB ⊢
   refine ⟨q,p,_,_,rfl,rfl,sB _ _ eA,gB,by show 3≤sizeLine;omega,fun r HC sC eC=> ?_⟩
   refine ⟨by show 1≤sizeLine;omega,fun p3 np3=> ?_⟩
   have sD:=ah (o:= .tup [.ref r]) np3
   have gD:=ac (H:=HC) (a:=p3) (o:= .tup [.ref r])
   generalize upd HC p3 (.tup [.ref r])=HD at sD gD ⊢
   refine ⟨by show 2≤sizeLine;omega,fun p4 np4=> ?_⟩
   have sE:=ah (o:= .tup [.str (Str.ofString "sum"), .ref p3]) np4
   have gE:=ac (H:=HD) (a:=p4) (o:= .tup [.str (Str.ofString "sum"), .ref p3])
   generalize upd HD p4 (.tup [.str (Str.ofString "sum"), .ref p3])=HE at sE gE ⊢
   have s9:=sA.trans (sB.trans (sC.trans (sD.trans sE)))
   have gLE:=s9 _ _ gL9
   have lw:=hp9.len
   refine ⟨L,ws,_,rfl,rfl,gLE,by omega,?_⟩
   have bLE:But L HE (upd HE L (.lst (ws++ [.ref p4]))):=fun x o n e=>by rw [aB n];exact e
   have kE:=But.keL bLE gLE ac
   have k9:=(Ke.of_same s9).trans kE
   have tpart:PlAt (upd HE L (.lst (ws++ [.ref p4]))) (.ref p4) (.tup [.str (Str.ofString "sum"), .tup [.tup [toPl (.tup [s_ "most", .tup (us.map prT),frT ff]), .bl bb, .tup [.int ii, .int jj]]]]):=by
    refine cR (kE.tup _ _ gE) (.cons ni (.cons (cR (kE.tup _ _ (sE _ _ gD)) (.cons (cR (kE.tup _ _ ((sD.trans sE) _ _ eC)) (.cons (hM8.mono (kL.trans k9)) (.cons v9 (.cons (cR ((kL.trans k9).tup _ _ ga) (.cons nj (.cons nj .nil))) .nil)))) .nil)) .nil))
   refine ⟨(hT9.same s9).wr nLt,(b9.trans (But.of_same s9)).wr nL0,bL.trans ((But.of_same s9).trans bLE),_,us'++ [_],_,rfl,ac,PlsAt.app (.cons tpart .nil) (hp9.mono k9),by rw [List.length_append,List.length_singleton];omega,fun t mt=> ?_⟩
   rcases List.mem_append.mp mt with mt|mt
   · exact hg9 t mt
   · rw [List.mem_singleton.mp mt]
     exact gz2 (by decide) (gzs (by decide +kernel) _ _) ((gz1 (by decide) (gz3 (d:=10) (by decide) gM (.bl _ _) ((gz2 (d:=9) (by decide) (.int _ _ bi) (.int _ _ bj))))).mono (Nat.le_refl _) (by decide))
 · rintro σ H' ⟨hT9,b9,bL,ws,us',v6,rfl,gL9,hp9,hl9,hg9⟩
   have kL:=But.keL bL gL8 gL9
   refine ⟨_,rfl,⟨nl,rt,av,x0,toPl at_,xs,toPls ts⟩,⟨rfl,rfl,rfl,hA8.mono kL,kL.tup _ _ grt8,hxs8.mono kL,_,bL _ _ nlL2 eN8⟩,fun R vs2 HA sA nR gR hvs2=> ?_⟩
   have lw:=hp9.len
   dsimp only at hvs2
   have l2:=hvs2.len
   have c2:(iZ (toPl at_) x0).length=4:=rfl
   refine ⟨L,R,ws,vs2,rfl,rfl,sA _ _ gL9,gR,by omega,fun p np=> ?_⟩
   have sB:=ah (o:= .lst (ws++vs2)) np
   have np0:H p=none:=b9.free hT9 (Same.free sA np)
   refine k p _ _ _ np0 ((hT9.same sA).same sB) (b9.trans (But.of_same (sA.trans sB))) ac (PlsAt.app (hvs2.mono (Ke.of_same sB)) (hp9.mono (Ke.of_same (sA.trans sB)))) (by rw [List.length_append,hl9,c2,wl]) fun t mt=> ?_
   rcases List.mem_append.mp mt with mt|mt
   · exact hg9 t mt
   · exact rV gA3 nm0.le t mt
end
open PySem L2 Mth Wd EqD Tre Su
open K23
section
variable {P:Program} {w:World} {K:PySem.W.Frag} {mg:Str→Option Value} {base:Heap}
def om (K:PySem.W.Frag):Sp:=fun vs H Q _=>∃(a:Addr) (ns:List Int),vs= [.ref a]∧SqL K H a (ns.map V.int)∧ns.length≤63∧∀H',Q (.bl true) H'
theorem scL:ax ["_law_script","_law_tape_here","_law_names_here","_law_k","_law_step_here","_law_some","_law_one","_law_found"] ["_law_script"] (af sLaw):=⟨rfl,rfl,rfl,by decide +kernel,rfl,by decide +kernel,by decide +kernel⟩
def Lz (H:Hp) (vs:List V) (n:Nat):Prop:=∃ts,PlsAt H vs ts∧ts.length=n∧∀t∈ts,Gz 30 19 t
theorem Lz.len {H:Hp} {vs:List V} {n:Nat} (h:Lz H vs n):vs.length=n:=by
 obtain ⟨ts,h1,h2,_⟩:=h
 rw [h1.len,h2]
theorem Lz.mono {H H':Hp} {vs:List V} {n:Nat} (h:Lz H vs n) (k:Ke H H'):Lz H' vs n:=by
 obtain ⟨ts,h1,h2,h3⟩:=h
 exact ⟨ts,h1.mono k,h2,h3⟩
theorem Lz.nil {H:Hp}:Lz H [] 0:=⟨[], .nil,rfl,fun t m=>by cases m⟩
theorem Lz.cons {H:Hp} {v:V} {p:Pl} {vs:List V} {n:Nat} (h:PlAt H v p) (g:Gz 30 19 p) (hs:Lz H vs n):Lz H (v::vs) (n+1):=by
 obtain ⟨ts,h1,h2,h3⟩:=hs
 refine ⟨p::ts, .cons h h1,by rw [List.length_cons,h2],fun t m=> ?_⟩
 rcases List.mem_cons.mp m with rfl|m
 · exact g
 · exact h3 t m
theorem Lz.app {H:Hp} {vs ws:List V} {n m:Nat} (h:Lz H vs n) (hs:Lz H ws m):Lz H (vs++ws) (n+m):=by
 obtain ⟨ts,h1,h2,h3⟩:=h
 obtain ⟨us,h4,h5,h6⟩:=hs
 refine ⟨ts++us,PlsAt.app h4 h1,by rw [List.length_append,h2,h5],fun t mt=> ?_⟩
 rcases List.mem_append.mp mt with mt|mt
 · exact h3 t mt
 · exact h6 t mt
theorem Lz.get {H:Hp} {vs:List V} {n i:Nat} {v:V} (h:Lz H vs n) (e:vs[i]?=some v):∃p,PlAt H v p∧Gz 30 19 p:=by
 obtain ⟨ts,h1,h2,h3⟩:=h
 obtain ⟨t,e1,e2⟩:=h1.get' e
 exact ⟨t,e2,h3 t (List.mem_of_getElem? e1)⟩
theorem Lz.take {H:Hp} {vs:List V} {n:Nat} (h:Lz H vs n) (m:Nat) (hm:m≤n):Lz H (vs.take m) m:=by
 obtain ⟨ts,h1,h2,h3⟩:=h
 exact ⟨ts.take m,h1.take m,by rw [List.length_take];omega,fun t mt=>h3 t (List.mem_of_mem_take mt)⟩
theorem w9 {f fTp fNm fSt fB fDr fNr fQ fL:Addr} {fd dTp dNm dSt dB dDr dNr dQ dL:FuncData} (F:Fun K "law" "law" sLaw f fd) (B:Blt mg)
 (gTp:FnOk P w K mg base CX0 1 fTp dTp ["_law_script"] (qB K)) (kTp:PySem.W.keepIn K (.ref fTp)=true) (bTp:Binds K dTp ["_law_script"] []) (mTp:mg "_law_tape"=some (.ref fTp))
 (gNm:FnOk P w K mg base CX0 2 fNm dNm ["_law_tape_here"] oj) (kNm:PySem.W.keepIn K (.ref fNm)=true) (bNm:Binds K dNm ["_law_tape_here"] []) (mNm:mg "_law_names"=some (.ref fNm))
 (gSt:FnOk P w K mg base CX0 11 fSt dSt ["_law_tape_here","_law_names_here"] mK) (kSt:PySem.W.keepIn K (.ref fSt)=true) (bSt:Binds K dSt ["_law_tape_here","_law_names_here"] []) (mSt:mg "_law_step"=some (.ref fSt))
 (gB1:FnOk P w K mg base CX0 8 fB dB ["_law_tape_here","_law_thing_here","_law_deep"] (n8 12 6)) (gB2:FnOk P w K mg base CX0 8 fB dB ["_law_tape_here","_law_thing_here","_law_deep"] (n8 13 6)) (kB:PySem.W.keepIn K (.ref fB)=true) (bB:Binds K dB ["_law_tape_here","_law_thing_here","_law_deep"] []) (mB:mg "_law_bent"=some (.ref fB))
 (gDr:FnOk P w K mg base CX0 1 fDr dDr ["_law_tape_here","_law_many"] ci) (kDr:PySem.W.keepIn K (.ref fDr)=true) (bDr:Binds K dDr ["_law_tape_here","_law_many"] []) (mDr:mg "_law_draw"=some (.ref fDr))
 (gNr:FnOk P w K mg base CX0 7 fNr dNr ["_law_tape_here","_law_names_here"] mY) (kNr:PySem.W.keepIn K (.ref fNr)=true) (bNr:Binds K dNr ["_law_tape_here","_law_names_here"] []) (mNr:mg "_law_near"=some (.ref fNr))
 (gQ:FnOk P w K mg base CX0 69 fQ dQ ["thing"] qC) (kQ:PySem.W.keepIn K (.ref fQ)=true) (bQ:Binds K dQ ["thing"] []) (mQ:mg "is_step"=some (.ref fQ))
 (gL:FnOk P w K mg base CX0 69 fL dL ["_law_thing_here"] qD) (kL:PySem.W.keepIn K (.ref fL)=true) (bL:Binds K dL ["_law_thing_here"] []) (mL:mg "_law_is_step"=some (.ref fL)):
 FnOk P w K mg base CX0 70 f fd ["_law_script"] (om K):=by
 refine F.ok scL (fun vs H Q E h=> ?_) (fun cdv A outer s H vs Q E hr h=> ?_)
 · obtain ⟨a,ns,rfl,_⟩:=h
   rfl
 obtain ⟨a,ns0,rfl,hS,hl,k⟩:=h
 have hr1:Room 1 _:=hr.mono (by decide)
 have hr2:Room 2 _:=hr.mono (by decide)
 have hr7:Room 7 _:=hr.mono (by decide)
 have hr8:Room 8 _:=hr.mono (by decide)
 have hr11:Room 11 _:=hr.mono (by decide)
 refine ⟨_,ae (aD (i:=1) scL.nd rfl (Or.inl rfl) (ad gTp hr1 rfl mTp kTp bTp .nil ai (a8 (pv 0) a9)))
  (ae (aD (i:=2) scL.nd rfl (Or.inl rfl) (ad gNm hr2 rfl mNm kNm bNm .nil ai (a8 (pv 1) a9)))
  (ae (iT PassesOwn.never rfl (bY rfl B.ra (a8 aa a9)) (aQ (i:=3) scL.nd rfl (Or.inl rfl))
   (ae (aD (i:=4) scL.nd rfl (Or.inl rfl) (ad gSt hr11 rfl mSt kSt bSt .nil ai (a8 (pv 1) (a8 (pv 2) a9))))
   (ae (aD (i:=5) scL.nd rfl (Or.inl rfl) (cm (a8 (pv 4) (a8 (ad gB1 hr8 rfl mB kB bB .nil ai (a8 (pv 1) (a8 (pv 4) (a8 aa a9)))) a9))))
   (ae (eY (iX PySem.F.plainAttrs_list PySem.F.slot_list_append PySem.F.type_list_append cN (pv 5) (a8 (ad gB2 hr8 rfl mB kB bB .nil ai (a8 (pv 1) (a8 (am aT (pv 5) aa fun _ _=>rfl) (a8 aa a9)))) a9)))
   (ae (aD (i:=5) scL.nd rfl (Or.inl rfl) (aE i7 (pv 5) (cm (a8 (pv 4) (a8 (bE cM rfl B.li PyProof.Rows.boot_list (a8 (pv 4) a9)) (a8 (am ak (pv 4) aa fun _ _=>rfl) (a8 (aH a9) (a8 qX (a8 (aH (a8 (pv 4) a9)) (a8 (aE fV (pv 4) (pv 4)) a9))))))))))
   (ag (iT PassesOwn.never rfl (fK (aE i7 (aE i7 (cb on (pv 5) cy (cw aa)) (cm (a8 (am aT (pv 5) (aE bU aa (ad gDr hr1 rfl mDr kDr bDr .nil ai (a8 (pv 1) (a8 aa a9)))) fun _ _=>rfl) a9))) (ad gNr hr7 rfl mNr kNr bNr .nil ai (a8 (pv 1) (a8 (pv 2) a9))))) (aQ (i:=6) scL.nd rfl (Or.inl rfl))
    (ae (aD (i:=7) scL.nd rfl (Or.inl rfl) (ad gQ hr rfl mQ kQ bQ .nil ai (a8 (pv 6) a9)))
    (ag (aK (PW.pt (cv (br (aU (ar (r:=rIsi K) aS rfl B.isi ay (a8 (pv 7) (a8 (aX (v:= .ty "bool") rfl B.bo PyProof.Rows.boot_bool rfl) a9))))) (ck (aw rA (pv 7) (ad gL hr rfl mL kL bL .nil ai (a8 (pv 6) a9)) (aq _))))) (ag (aj cB)) az))))))))))
  (ag (aj cB)))),?_⟩
 have hL:(20000:Nat)≤sizeLine:=by decide +kernel
 refine ⟨_,rfl,a,ns0,rfl,hS,hl,fun tp c H1 _ _ hT1=> ?_⟩
 refine aI ?_
 refine ⟨_,rfl,tp,c,0,rfl,hT1,by decide,fun nl H2 hT2 b2 nnl hN2=> ?_⟩
 have nt:nl≠tp:=(hT1.ne nnl).1
 clear b2 nnl hT1
 refine aI ?_
 refine ⟨4,rfl,by decide,by decide,?_⟩
 refine pR (n:=4) (fun i σ H'=>TapeAt H' tp c (10+i*3000)∧Names H' nl∧∃x3 x4 x5 x6 x7,σ= [some (.ref a),some (.ref tp),some (.ref nl),x3,x4,x5,x6,x7])
  ⟨hT2,hN2,none,none,none,none,none,rfl⟩ ?_ ?_
 · rintro i σ H0 hi ⟨hT0,hN0,x3,x4,x5,x6,x7,rfl⟩
   refine aI ?_
   dsimp only
   refine ⟨_,rfl,_,rfl,tp,c,nl,10+i*3000,rfl,hT0,by omega,hN0,nt,fun v t H3 hT3 b3 hv sta=> ?_⟩
   obtain ⟨th,kk,r,rfl,_⟩:=sta
   have gz0:Gz 12 13 (toPl (.tup (.str kk::r))):=sN th
   have hp3:PlAt H3 v (toPl (.tup (.str kk::r))):=lE hv
   clear hv th
   rw [toPl,toPls,toPl] at gz0 hp3
   obtain ⟨d0,ed0,gl0,gi0⟩:=gz0.items
   have gk:Gz 12 12 (.str kk):=by
    have:=gi0 (.str kk) List.mem_cons_self
    rw [show d0=12 by omega] at this
    exact this
   generalize toPls r=pr at gz0 hp3 gl0 gi0
   have hp3':=hp3
   unfold PlAt at hp3'
   obtain ⟨rs,vs,rfl,g3,hvs3⟩:=hp3'
   obtain ⟨vk,vr,rfl,hk3,_⟩:=hvs3.inv
   unfold PlAt at hk3
   subst hk3
   generalize hps:(Pl.str kk::pr)=ps at*
   refine aI ?_
   dsimp only
   refine ⟨_,rfl,_,rfl,_,rfl,tp,c, .ref rs, .tup ps,5,13,10+i*3000+2300,rfl,hT3,by omega,hp3,gz0,by decide,fun v2 p2 H4 hT4 b4 hv2 gz2'=> ?_⟩
   have k4:=But.ke b4 hT3 hT4
   refine ⟨by show 2≤sizeLine;omega,fun L nL=> ?_⟩
   have s5:=ah (o:= .lst [.ref rs,v2]) nL
   have gL5:=ac (H:=H4) (a:=L) (o:= .lst [.ref rs,v2])
   have b34:=b3.trans b4
   have nL0:H0 L=none:=b34.free hT4 nL
   have nLt:=hT4.ne nL
   have hT5:=hT4.same s5
   have b5:=b34.trans (But.of_same (tp:=tp) s5)
   have k5:=k4.trans (Ke.of_same s5)
   have hv25:=hv2.mono (Ke.of_same s5)
   generalize upd H4 L (.lst [.ref rs,v2])=H5 at s5 gL5 hT5 b5 k5 hv25 ⊢
   clear hT4 hv2 b34 b4 k4 s5 nL
   refine aI ?_
   dsimp only
   refine ⟨_,rfl, .inl ⟨rfl,_,SqL.of gL5⟩,_,rfl,_,rfl,L,_,1,v2,rfl,rfl,SqL.of gL5,rfl,tp,c,v2,p2,4,16,_,rfl,hT5,by omega,hv25,gz2',by decide,fun v3 p3 H6 hT6 b6 hv3 gz3'=> ?_⟩
   have k6:=But.ke b6 hT5 hT6
   have gL6:=b6 _ _ nLt.1 gL5
   refine ⟨L,_,_,rfl,rfl,gL6,by show 2 < sizeLine;omega,?_⟩
   have bL7:But L H6 (upd H6 L (.lst ([.ref rs,v2]++ [v3]))):=fun x o n e=>by rw [aB n];exact e
   have k7:=But.keL bL7 gL6 ac
   have gL7:=ac (H:=H6) (a:=L) (o:= .lst ([.ref rs,v2]++ [v3]))
   have hT7:=hT6.wr (o:= .lst ([.ref rs,v2]++ [v3])) nLt
   have b7:=(b5.trans b6).wr (o:= .lst ([.ref rs,v2]++ [v3])) nL0
   have k57:=k5.trans (k6.trans k7)
   have hp7:PlAt _ (.ref rs) (.tup ps):=hp3.mono k57
   have lz7:Lz _ ([.ref rs,v2]++ [v3]) 3:= .cons hp7 (gz0.mono (by decide) (by decide)) (.cons (hv25.mono (k6.trans k7)) (gz2'.mono (by decide) (by decide)) (.cons (hv3.mono k7) (gz3'.mono (by decide) (by decide)) .nil))
   have g7:=k57.tup _ _ g3
   have hvs7:=hvs3.mono k57
   generalize upd H6 L (.lst ([.ref rs,v2]++ [v3]))=H7 at k7 gL7 hT7 b7 k57 hp7 lz7 g7 hvs7 bL7 ⊢
   generalize [V.ref rs,v2]++ [v3]=w7 at gL7 lz7
   clear k6 k5 hT5 hT6 b6 b5 hv25 hv3 gL5 gL6 k7 bL7 k57 hT3 b3 hp3 g3 hvs3
   have l7:=lz7.len
   have lv:=hvs7.len
   have lps:ps.length≤12:=gl0
   refine ⟨_,rfl,_,rfl,_,rfl,rs,_,rfl, .inr (SqT.of g7),fun q1 nq1=> ?_⟩
   have s8:=ah (o:= .lst (.str kk::vr)) nq1
   have h8:=ac (H:=H7) (a:=q1) (o:= .lst (.str kk::vr))
   generalize upd H7 q1 (.lst (.str kk::vr))=H8 at s8 h8 ⊢
   refine ⟨_,rfl,rs,_,0, .str kk,rfl,rfl,SqT.of (s8 _ _ g7),bh (j:=0) (by simp),?_⟩
   refine ⟨by show 0≤sizeLine;omega,fun q2 nq2=> ?_⟩
   have s9:=ah (o:= .tup []) nq2
   have h9:=ac (H:=H8) (a:=q2) (o:= .tup [])
   generalize upd H8 q2 (.tup [])=H9 at s9 h9 ⊢
   refine ⟨_,rfl,by show 1≤sizeLine;omega,fun q3 nq3=> ?_⟩
   have sA:=ah (o:= .tup [.ref rs]) nq3
   have hA:=ac (H:=H9) (a:=q3) (o:= .tup [.ref rs])
   generalize upd H9 q3 (.tup [.ref rs])=HA at sA hA ⊢
   have s7A:=s8.trans (s9.trans sA)
   refine ⟨_,rfl,_,rfl,rs,rs,_,_,rfl,rfl,s7A _ _ g7,s7A _ _ g7,by omega,fun q4 HB sB hB=> ?_⟩
   refine ⟨by show 7≤sizeLine;omega,fun q5 nq5=> ?_⟩
   have sC:=ah (o:= .lst [.ref rs, .ref q1, .str kk, .ref q2, .non, .ref q3, .ref q4]) nq5
   have hC:=ac (H:=HB) (a:=q5) (o:= .lst [.ref rs, .ref q1, .str kk, .ref q2, .non, .ref q3, .ref q4])
   have s7C:=s7A.trans (sB.trans sC)
   have lzC:Lz _ [.ref rs, .ref q1, .str kk, .ref q2, .non, .ref q3, .ref q4] 7:=
    .cons (hp7.mono (Ke.of_same s7C)) (gz0.mono (by decide) (by decide))
    (.cons (qS ((s9.trans (sA.trans (sB.trans sC))) _ _ h8)) (.lst _)
    (.cons ni (gk.mono (by decide) (by decide))
    (.cons (cR ((sA.trans (sB.trans sC)) _ _ h9) .nil) (.tup 18 _ (by simp) fun t m=>by cases m)
    (.cons vT (.non _)
    (.cons (cR ((sB.trans sC) _ _ hA) (.cons (hp7.mono (Ke.of_same s7C)) .nil)) ((gz1 (by decide) gz0).mono (by decide) (by decide))
    (.cons (cR (sC _ _ hB) (PlsAt.app (hvs7.mono (Ke.of_same s7C)) (hvs7.mono (Ke.of_same s7C)))) (.tup 18 _ (by rw [List.length_append];omega) fun t m=>by
     rcases List.mem_append.mp m with m|m<;>exact (gi0 t m).mono (by decide) (by omega)) .nil))))))
   generalize upd HB q5 (.lst [.ref rs, .ref q1, .str kk, .ref q2, .non, .ref q3, .ref q4])=HC at sC hC s7C lzC ⊢
   generalize [V.ref rs, .ref q1, .str kk, .ref q2, .non, .ref q3, .ref q4]=wC at hC lzC
   have lC:=lzC.len
   refine ⟨L,q5,_,_,rfl,rfl,s7C _ _ gL7,hC,by omega,fun M nM=> ?_⟩
   have sD:=ah (o:= .lst (w7++wC)) nM
   have hD:=ac (H:=HC) (a:=M) (o:= .lst (w7++wC))
   have s7D:=s7C.trans sD
   have lzD:=Lz.app (lz7.mono (Ke.of_same s7D)) (lzC.mono (Ke.of_same sD))
   have nMt:=(hT7.same s7C).ne nM
   generalize upd HC M (.lst (w7++wC))=HD at sD hD s7D lzD ⊢
   have lD:=lzD.len
   generalize w7++wC=wD at hD lzD lD
   have hTD:=hT7.same s7D
   have bD:=b7.trans (But.of_same (tp:=tp) s7D)
   clear s8 h8 s9 h9 sA hA s7A sB hB sC hC s7C lzC lC sD s7D nq1 nq2 nq3 nq5 nM lz7 gL7 hT7 b7 hp7 g7 hvs7
   refine aI ?_
   dsimp only
   refine ⟨_,rfl,_,rfl,M,wD,rfl,SqL.of hD,fun p1 np1=> ?_⟩
   rw [show cutV wD none (some 4)=wD.take 4 from ic (n:=4)]
   have sE:=ah (o:= .lst (wD.take 4)) np1
   have hE:=ac (H:=HD) (a:=p1) (o:= .lst (wD.take 4))
   have nE:=hTD.ne np1
   have lzE:=lzD.mono (Ke.of_same sE)
   generalize upd HD p1 (.lst (wD.take 4))=HE at sE hE lzE ⊢
   have hTE:=hTD.same sE
   refine ⟨_,rfl,_,rfl,tp,c,6,_,rfl,hTE,by omega,by decide,ba (by decide) (by decide),fun rr HF r0 r6 hTF kpF=> ?_⟩
   have bEF:But tp HE HF:=But.of_keep kpF
   have kEF:=But.ke bEF hTE hTF
   obtain ⟨j,rfl⟩:∃j:Nat,rr=(j:Int):=⟨rr.toNat,by omega⟩
   have hj:4+j < wD.length:=by omega
   have hDF:=bEF _ _ nMt.1 (sE _ _ hD)
   have hEF:=bEF _ _ nE.1 hE
   have lzF:=lzE.mono kEF
   refine ⟨_,_,rfl,rfl,M,wD,_,wD[4+j],rfl,rfl,SqL.of hDF,?_,by show 1≤sizeLine;omega,fun p2' np2=> ?_⟩
   · rw [show (4:Int)+(j:Int)=((4+j:Nat):Int) by omega]
     exact bh (List.getElem?_eq_getElem hj)
   obtain ⟨px,hpx,gpx⟩:=lzF.get (List.getElem?_eq_getElem hj)
   generalize wD[4+j]=x at hpx ⊢
   have sG:=ah (o:= .lst [x]) np2
   have hG:=ac (H:=HF) (a:=p2') (o:= .lst [x])
   have lzG:=lzF.mono (Ke.of_same sG)
   have hpxG:=hpx.mono (Ke.of_same sG)
   have hEG:=sG _ _ hEF
   have hTG:=hTF.same sG
   have bG:=(bD.trans (But.of_same (tp:=tp) sE)).trans (bEF.trans (But.of_same sG))
   generalize upd HF p2' (.lst [x])=HG at sG hG lzG hpxG hEG hTG bG ⊢
   have lz4:=lzG.take 4 (by decide)
   have l4:=lz4.len
   refine ⟨p1,p2',_,_,rfl,rfl,hEG,hG,by rw [l4];show 5≤sizeLine;omega,fun p3 np3=> ?_⟩
   have sH:=ah (o:= .lst (wD.take 4++ [x])) np3
   have hH:=ac (H:=HG) (a:=p3) (o:= .lst (wD.take 4++ [x]))
   have lzH:Lz _ (wD.take 4++ [x]) 5:=(Lz.app lz4 (.cons hpxG gpx .nil)).mono (Ke.of_same sH)
   have nHt:=hTG.ne np3
   have hTH:=hTG.same sH
   have bH:=bG.trans (But.of_same (tp:=tp) sH)
   generalize upd HG p3 (.lst (wD.take 4++ [x]))=HH at sH hH lzH hTH bH ⊢
   generalize wD.take 4++ [x]=wH at hH lzH
   clear sE hE nE lzE hTE bEF kEF hDF hEF lzF sG hG lzG hpxG hpx hEG hTG bG lz4 l4 sH hTF kpF hTD bD lzD hD
   refine ⟨_,rfl,_,rfl,tp,c,nl,_,rfl,hTH,by omega,hN0.but nt bH,nt,fun q6 wI ts6 HI nq6 hTI bI hI hPI l11 gI=> ?_⟩
   have hHI:=bI _ _ nHt.1 hH
   have lzI:Lz HI wI 11:=⟨ts6,hPI,l11,fun t m=>(gI t m).mono (by decide) (by decide)⟩
   have lHI:=lzH.mono (But.ke bI hTH hTI)
   have l5:=lHI.len
   have l6:=lzI.len
   refine ⟨p3,q6,_,_,rfl,rfl,hHI,hI,by omega,fun il nil'=> ?_⟩
   have sJ:=ah (o:= .lst (wH++wI)) nil'
   have hJ:=ac (H:=HI) (a:=il) (o:= .lst (wH++wI))
   have lzJ:=(Lz.app lHI lzI).mono (Ke.of_same sJ)
   have hTJ:=hTI.same sJ
   have bJ:=(bH.trans bI).trans (But.of_same (tp:=tp) sJ)
   generalize upd HI il (.lst (wH++wI))=HJ at sJ hJ lzJ hTJ bJ ⊢
   generalize wH++wI=wJ at hJ lzJ
   clear hHI lzI lHI sJ hI hPI hTI bI hTH bH lzH hH
   refine ⟨il,rfl,⟨wJ,SqL.of hJ⟩,?_⟩
   refine fZ (xs:=wJ) (fun n σ H'=>Same HJ H'∧∃y6 y7,σ= [some (.ref a),some (.ref tp),some (.ref nl),some (.int ((0:Int)+(i:Int))),some (.ref rs),some (.ref M),y6,y7])
    ⟨Same.refl _,_,_,rfl⟩ (fun n σ H' _ q=>SqL.of (q.1 _ _ hJ)) ?_ ?_
   · rintro n y σ H' hy ⟨sK,y6,y7,rfl⟩
     obtain ⟨py,hpy,gpy⟩:=lzJ.get hy
     have okp:=gpy.ok (by decide)
     have dep:=gpy.dep
     refine aI ?_
     dsimp only
     refine ⟨_,rfl,y,py,rfl,hpy.mono (Ke.of_same sK),okp,by omega,fun HL sL=> ?_⟩
     refine aI ?_
     dsimp only
     refine ⟨_,rfl, .bl (stB py), .ty "bool",_,isBl (.bl (stB py)),rfl,c7 (p:= .bl (stB py)) v9, .inl ⟨rfl,ia K _⟩,_,rfl,?_⟩
     refine iteF ?_
     refine ⟨_,rfl,_,rfl,y,py,rfl,hpy.mono (Ke.of_same (sK.trans sL)),okp,by omega,fun HM sM=> ?_⟩
     refine ⟨rfl,_,rfl,?_⟩
     rw [decide_eq_true rfl]
     refine iteF ?_
     exact ⟨sK.trans (sL.trans sM),_,_,rfl⟩
   · rintro σ H' ⟨sK,y6,y7,rfl⟩
     exact ⟨(hTJ.same sK).mono (by omega),hN0.but nt (bJ.trans (But.of_same sK)),_,_,_,_,_,rfl⟩
 · rintro σ H' ⟨_,_,_⟩
   exact k H'
end
open PySem L2 Mth Wd EqD K23
theorem ex0 {n:Nat} (us:List Value) (hl:us.length=n+1):∃a vs,us=a::vs∧vs.length=n:=by
 cases us with
 |nil=>cases hl
 |cons a vs=>exact ⟨a,vs,rfl,Nat.succ.inj hl⟩
theorem ex1 (us:List Value) (hl:us.length=1):∃a,us= [a]:=by
 obtain ⟨a,vs,rfl,h⟩:=ex0 us hl
 exact ⟨a,by rw [List.eq_nil_of_length_eq_zero h]⟩
theorem ex2 (us:List Value) (hl:us.length=2):∃a b,us= [a,b]:=by
 obtain ⟨a,vs,rfl,h⟩:=ex0 us hl
 obtain ⟨b,rfl⟩:=ex1 vs h
 exact ⟨a,b,rfl⟩
theorem ex3 (us:List Value) (hl:us.length=3):∃a b c,us= [a,b,c]:=by
 obtain ⟨a,vs,rfl,h⟩:=ex0 us hl
 obtain ⟨b,c,rfl⟩:=ex2 vs h
 exact ⟨a,b,c,rfl⟩
theorem all_mk {l:PySem.W.OpenLaw} {w:World} {K:PySem.W.Frag} {h:Heap} {mg:Str→Option Value} {fa C fI:Addr} (X:K.In h) (G:h.Ns mainGlobals mg) (hfa:mg "law"=some (.ref fa))
 {odI anI:Option Addr} {slI:Array (Option Value)} {ocI kVI dcI pmI cdI ctI:Value}
 {fCD:Addr} {odCD anCD:Option Addr} {slCD:Array (Option Value)} {ocCD kVCD dcCD pmCD cdCD ctCD:Value}
 {fFR:Addr} {odFR anFR:Option Addr} {slFR:Array (Option Value)} {ocFR kVFR dcFR pmFR cdFR ctFR:Value}
 {fPL:Addr} {odPL anPL:Option Addr} {slPL:Array (Option Value)} {ocPL kVPL dcPL pmPL cdPL ctPL:Value}
 {fTX:Addr} {odTX anTX:Option Addr} {slTX:Array (Option Value)} {ocTX kVTX dcTX pmTX cdTX ctTX:Value}
 {fMI:Addr} {odMI anMI:Option Addr} {slMI:Array (Option Value)} {ocMI kVMI dcMI pmMI cdMI ctMI:Value}
 {fPD:Addr} {odPD anPD:Option Addr} {slPD:Array (Option Value)} {ocPD kVPD dcPD pmPD cdPD ctPD:Value}
 {fCO:Addr} {odCO anCO:Option Addr} {slCO:Array (Option Value)} {ocCO kVCO dcCO pmCO cdCO ctCO:Value}
 {fSI:Addr} {odSI anSI:Option Addr} {slSI:Array (Option Value)} {ocSI kVSI dcSI pmSI cdSI ctSI:Value}
 {fSU:Addr} {odSU anSU:Option Addr} {slSU:Array (Option Value)} {ocSU kVSU dcSU pmSU cdSU ctSU:Value}
 {fSP:Addr} {odSP anSP:Option Addr} {slSP:Array (Option Value)} {ocSP kVSP dcSP pmSP cdSP ctSP:Value}
 {fST:Addr} {odST anST:Option Addr} {slST:Array (Option Value)} {ocST kVST dcST pmST cdST ctST:Value}
 {fIW:Addr} {odIW anIW:Option Addr} {slIW:Array (Option Value)} {ocIW kVIW dcIW pmIW cdIW ctIW:Value}
 {fIO:Addr} {odIO anIO:Option Addr} {slIO:Array (Option Value)} {ocIO kVIO dcIO pmIO cdIO ctIO:Value}
 {fNQ:Addr} {odNQ anNQ:Option Addr} {slNQ:Array (Option Value)} {ocNQ kVNQ dcNQ pmNQ cdNQ ctNQ:Value}
 {fFQ:Addr} {odFQ anFQ:Option Addr} {slFQ:Array (Option Value)} {ocFQ kVFQ dcFQ pmFQ cdFQ ctFQ:Value}
 {fTQ:Addr} {odTQ anTQ:Option Addr} {slTQ:Array (Option Value)} {ocTQ kVTQ dcTQ pmTQ cdTQ ctTQ:Value}
 {fCT:Addr} {odCT anCT:Option Addr} {slCT:Array (Option Value)} {ocCT kVCT dcCT pmCT cdCT ctCT:Value}
 {fPQ:Addr} {odPQ anPQ:Option Addr} {slPQ:Array (Option Value)} {ocPQ kVPQ dcPQ pmPQ cdPQ ctPQ:Value}
 {fSM:Addr} {odSM anSM:Option Addr} {slSM:Array (Option Value)} {ocSM kVSM dcSM pmSM cdSM ctSM:Value}
 {fAQ:Addr} {odAQ anAQ:Option Addr} {slAQ:Array (Option Value)} {ocAQ kVAQ dcAQ pmAQ cdAQ ctAQ:Value}
 {fWQ:Addr} {odWQ anWQ:Option Addr} {slWQ:Array (Option Value)} {ocWQ kVWQ dcWQ pmWQ cdWQ ctWQ:Value}
 {fQK:Addr} {odQK anQK:Option Addr} {slQK:Array (Option Value)} {ocQK kVQK dcQK pmQK cdQK ctQK:Value}
 {fQI:Addr} {odQI anQI:Option Addr} {slQI:Array (Option Value)} {ocQI kVQI dcQI pmQI cdQI ctQI:Value}
 {fQP:Addr} {odQP anQP:Option Addr} {slQP:Array (Option Value)} {ocQP kVQP dcQP pmQP cdQP ctQP:Value}
 {fQC:Addr} {odQC anQC:Option Addr} {slQC:Array (Option Value)} {ocQC kVQC dcQC pmQC cdQC ctQC:Value}
 {fQ1:Addr} {odQ1 anQ1:Option Addr} {slQ1:Array (Option Value)} {ocQ1 kVQ1 dcQ1 pmQ1 cdQ1 ctQ1:Value}
 {fQ2:Addr} {odQ2 anQ2:Option Addr} {slQ2:Array (Option Value)} {ocQ2 kVQ2 dcQ2 pmQ2 cdQ2 ctQ2:Value}
 {fQS:Addr} {odQS anQS:Option Addr} {slQS:Array (Option Value)} {ocQS kVQS dcQS pmQS cdQS ctQS:Value}
 {fTP:Addr} {odTP anTP:Option Addr} {slTP:Array (Option Value)} {ocTP kVTP dcTP pmTP cdTP ctTP:Value}
 {fDR:Addr} {odDR anDR:Option Addr} {slDR:Array (Option Value)} {ocDR kVDR dcDR pmDR cdDR ctDR:Value}
 {fNM:Addr} {odNM anNM:Option Addr} {slNM:Array (Option Value)} {ocNM kVNM dcNM pmNM cdNM ctNM:Value}
 {fWH:Addr} {odWH anWH:Option Addr} {slWH:Array (Option Value)} {ocWH kVWH dcWH pmWH cdWH ctWH:Value}
 {fSH:Addr} {odSH anSH:Option Addr} {slSH:Array (Option Value)} {ocSH kVSH dcSH pmSH cdSH ctSH:Value}
 {fTE:Addr} {odTE anTE:Option Addr} {slTE:Array (Option Value)} {ocTE kVTE dcTE pmTE cdTE ctTE:Value}
 {fLS:Addr} {odLS anLS:Option Addr} {slLS:Array (Option Value)} {ocLS kVLS dcLS pmLS cdLS ctLS:Value}
 {fAT:Addr} {odAT anAT:Option Addr} {slAT:Array (Option Value)} {ocAT kVAT dcAT pmAT cdAT ctAT:Value}
 {fWI:Addr} {odWI anWI:Option Addr} {slWI:Array (Option Value)} {ocWI kVWI dcWI pmWI cdWI ctWI:Value}
 {fFW:Addr} {odFW anFW:Option Addr} {slFW:Array (Option Value)} {ocFW kVFW dcFW pmFW cdFW ctFW:Value}
 {fPT:Addr} {odPT anPT:Option Addr} {slPT:Array (Option Value)} {ocPT kVPT dcPT pmPT cdPT ctPT:Value}
 {fSG:Addr} {odSG anSG:Option Addr} {slSG:Array (Option Value)} {ocSG kVSG dcSG pmSG cdSG ctSG:Value}
 {fTO:Addr} {odTO anTO:Option Addr} {slTO:Array (Option Value)} {ocTO kVTO dcTO pmTO cdTO ctTO:Value}
 {fPS:Addr} {odPS anPS:Option Addr} {slPS:Array (Option Value)} {ocPS kVPS dcPS pmPS cdPS ctPS:Value}
 {fTH:Addr} {odTH anTH:Option Addr} {slTH:Array (Option Value)} {ocTH kVTH dcTH pmTH cdTH ctTH:Value}
 {fTS:Addr} {odTS anTS:Option Addr} {slTS:Array (Option Value)} {ocTS kVTS dcTS pmTS cdTS ctTS:Value}
 {fSQ:Addr} {odSQ anSQ:Option Addr} {slSQ:Array (Option Value)} {ocSQ kVSQ dcSQ pmSQ cdSQ ctSQ:Value}
 {fPR:Addr} {odPR anPR:Option Addr} {slPR:Array (Option Value)} {ocPR kVPR dcPR pmPR cdPR ctPR:Value}
 {fBE:Addr} {odBE anBE:Option Addr} {slBE:Array (Option Value)} {ocBE kVBE dcBE pmBE cdBE ctBE:Value}
 {fNR:Addr} {odNR anNR:Option Addr} {slNR:Array (Option Value)} {ocNR kVNR dcNR pmNR cdNR ctNR:Value}
 {fLN:Addr} {odLN anLN:Option Addr} {slLN:Array (Option Value)} {ocLN kVLN dcLN pmLN cdLN ctLN:Value}
 {fLH:Addr} {odLH anLH:Option Addr} {slLH:Array (Option Value)} {ocLH kVLH dcLH pmLH cdLH ctLH:Value}
 {fLP:Addr} {odLP anLP:Option Addr} {slLP:Array (Option Value)} {ocLP kVLP dcLP pmLP cdLP ctLP:Value}
 {fLL:Addr} {odLL anLL:Option Addr} {slLL:Array (Option Value)} {ocLL kVLL dcLL pmLL cdLL ctLL:Value}
 {fLT:Addr} {odLT anLT:Option Addr} {slLT:Array (Option Value)} {ocLT kVLT dcLT pmLT cdLT ctLT:Value}
 {fLA:Addr} {odLA anLA:Option Addr} {slLA:Array (Option Value)} {ocLA kVLA dcLA pmLA cdLA ctLA:Value}
 {nm qn:Str} {Nn:Addr} {bs bm:List Value} {hdct:Bool} {sn:List Str} {sub:List Value} {ab:Bool} {col:Option Bool} {dd:Option Addr} {k0 k1 k2 k3 k5:Option Value}
 {Z:Addr} {dZ:Option Addr} {nZ:Nat} {sZ:Array (Option Value)} {t0 t1:Tok}
 {tk1 tk2 tk3:Tok}
 {Z2:Addr} {dZ2:Option Addr} {nZ2:Nat} {sZ2:Array (Option Value)} {u0 u1 u2 u3:Tok}
 (aC:PySem.W.nsIn K mainGlobals "NoShare"=some (some (.ref C)))
 (iI:PySem.W.findIn K (.ref C) "__init__"=some (some (.ref fI)))
 (fnI:PySem.W.isFn K (.ref fI)=true)
 (lI:K.lookup fI=some ⟨ocI,odI, .func (PySem.W.fnOf "__init__" "WishError.__init__" (au ik) (ao ik) (af ik) .none kVI dcI pmI anI cdI ctI),slI⟩)
 (cI:PySem.W.codeIn K cdI "WishError.__init__"=true)
 (kI:PySem.W.keepIn K (.ref fI)=true)
 (aCD:PySem.W.nsIn K mainGlobals "common_divisor"=some (some (.ref fCD)))
 (lCD:K.lookup fCD=some ⟨ocCD,odCD, .func (PySem.W.fnOf "common_divisor" "common_divisor" (au sCd) (ao sCd) (af sCd) .none kVCD dcCD pmCD anCD cdCD ctCD),slCD⟩)
 (cCD:PySem.W.codeIn K cdCD "common_divisor"=true)
 (kCD:PySem.W.keepIn K (.ref fCD)=true)
 (aFR:PySem.W.nsIn K mainGlobals "fraction"=some (some (.ref fFR)))
 (lFR:K.lookup fFR=some ⟨ocFR,odFR, .func (PySem.W.fnOf "fraction" "fraction" (au sFr) (ao sFr) (af sFr) .none kVFR dcFR pmFR anFR cdFR ctFR),slFR⟩)
 (cFR:PySem.W.codeIn K cdFR "fraction"=true)
 (kFR:PySem.W.keepIn K (.ref fFR)=true)
 (aPL:PySem.W.nsIn K mainGlobals "plus"=some (some (.ref fPL)))
 (lPL:K.lookup fPL=some ⟨ocPL,odPL, .func (PySem.W.fnOf "plus" "plus" (au jz) (ao jz) (af jz) .none kVPL dcPL pmPL anPL cdPL ctPL),slPL⟩)
 (cPL:PySem.W.codeIn K cdPL "plus"=true)
 (kPL:PySem.W.keepIn K (.ref fPL)=true)
 (aTX:PySem.W.nsIn K mainGlobals "times"=some (some (.ref fTX)))
 (lTX:K.lookup fTX=some ⟨ocTX,odTX, .func (PySem.W.fnOf "times" "times" (au gG) (ao gG) (af gG) .none kVTX dcTX pmTX anTX cdTX ctTX),slTX⟩)
 (cTX:PySem.W.codeIn K cdTX "times"=true)
 (kTX:PySem.W.keepIn K (.ref fTX)=true)
 (aMI:PySem.W.nsIn K mainGlobals "minus"=some (some (.ref fMI)))
 (lMI:K.lookup fMI=some ⟨ocMI,odMI, .func (PySem.W.fnOf "minus" "minus" (au i0) (ao i0) (af i0) .none kVMI dcMI pmMI anMI cdMI ctMI),slMI⟩)
 (cMI:PySem.W.codeIn K cdMI "minus"=true)
 (kMI:PySem.W.keepIn K (.ref fMI)=true)
 (aPD:PySem.W.nsIn K mainGlobals "parted"=some (some (.ref fPD)))
 (lPD:K.lookup fPD=some ⟨ocPD,odPD, .func (PySem.W.fnOf "parted" "parted" (au eX) (ao eX) (af eX) .none kVPD dcPD pmPD anPD cdPD ctPD),slPD⟩)
 (cPD:PySem.W.codeIn K cdPD "parted"=true)
 (kPD:PySem.W.keepIn K (.ref fPD)=true)
 (aCO:PySem.W.nsIn K mainGlobals "contrary"=some (some (.ref fCO)))
 (lCO:K.lookup fCO=some ⟨ocCO,odCO, .func (PySem.W.fnOf "contrary" "contrary" (au i3) (ao i3) (af i3) .none kVCO dcCO pmCO anCO cdCO ctCO),slCO⟩)
 (cCO:PySem.W.codeIn K cdCO "contrary"=true)
 (kCO:PySem.W.keepIn K (.ref fCO)=true)
 (aSI:PySem.W.nsIn K mainGlobals "sign_of"=some (some (.ref fSI)))
 (lSI:K.lookup fSI=some ⟨ocSI,odSI, .func (PySem.W.fnOf "sign_of" "sign_of" (au jy) (ao jy) (af jy) .none kVSI dcSI pmSI anSI cdSI ctSI),slSI⟩)
 (cSI:PySem.W.codeIn K cdSI "sign_of"=true)
 (kSI:PySem.W.keepIn K (.ref fSI)=true)
 (aSU:PySem.W.nsIn K mainGlobals "sum_of"=some (some (.ref fSU)))
 (lSU:K.lookup fSU=some ⟨ocSU,odSU, .func (PySem.W.fnOf "sum_of" "sum_of" (au sSum) (ao sSum) (af sSum) .none kVSU dcSU pmSU anSU cdSU ctSU),slSU⟩)
 (cSU:PySem.W.codeIn K cdSU "sum_of"=true)
 (kSU:PySem.W.keepIn K (.ref fSU)=true)
 (aSP:PySem.W.nsIn K mainGlobals "sum_plus"=some (some (.ref fSP)))
 (lSP:K.lookup fSP=some ⟨ocSP,odSP, .func (PySem.W.fnOf "sum_plus" "sum_plus" (au gY) (ao gY) (af gY) .none kVSP dcSP pmSP anSP cdSP ctSP),slSP⟩)
 (cSP:PySem.W.codeIn K cdSP "sum_plus"=true)
 (kSP:PySem.W.keepIn K (.ref fSP)=true)
 (aST:PySem.W.nsIn K mainGlobals "sum_times"=some (some (.ref fST)))
 (lST:K.lookup fST=some ⟨ocST,odST, .func (PySem.W.fnOf "sum_times" "sum_times" (au eW) (ao eW) (af eW) .none kVST dcST pmST anST cdST ctST),slST⟩)
 (cST:PySem.W.codeIn K cdST "sum_times"=true)
 (kST:PySem.W.keepIn K (.ref fST)=true)
 (aIW:PySem.W.nsIn K mainGlobals "is_whole"=some (some (.ref fIW)))
 (lIW:K.lookup fIW=some ⟨ocIW,odIW, .func (PySem.W.fnOf "is_whole" "is_whole" (au sIw) (ao sIw) (af sIw) .none kVIW dcIW pmIW anIW cdIW ctIW),slIW⟩)
 (cIW:PySem.W.codeIn K cdIW "is_whole"=true)
 (kIW:PySem.W.keepIn K (.ref fIW)=true)
 (aIO:PySem.W.nsIn K mainGlobals "is_tuple_of"=some (some (.ref fIO)))
 (lIO:K.lookup fIO=some ⟨ocIO,odIO, .func (PySem.W.fnOf "is_tuple_of" "is_tuple_of" (au sIto) (ao sIto) (af sIto) .none kVIO dcIO pmIO anIO cdIO ctIO),slIO⟩)
 (cIO:PySem.W.codeIn K cdIO "is_tuple_of"=true)
 (kIO:PySem.W.keepIn K (.ref fIO)=true)
 (aNQ:PySem.W.nsIn K mainGlobals "is_name"=some (some (.ref fNQ)))
 (lNQ:K.lookup fNQ=some ⟨ocNQ,odNQ, .func (PySem.W.fnOf "is_name" "is_name" (au sNmQ) (ao sNmQ) (af sNmQ) .none kVNQ dcNQ pmNQ anNQ cdNQ ctNQ),slNQ⟩)
 (cNQ:PySem.W.codeIn K cdNQ "is_name"=true)
 (kNQ:PySem.W.keepIn K (.ref fNQ)=true)
 (aFQ:PySem.W.nsIn K mainGlobals "is_fraction"=some (some (.ref fFQ)))
 (lFQ:K.lookup fFQ=some ⟨ocFQ,odFQ, .func (PySem.W.fnOf "is_fraction" "is_fraction" (au sFrQ) (ao sFrQ) (af sFrQ) .none kVFQ dcFQ pmFQ anFQ cdFQ ctFQ),slFQ⟩)
 (cFQ:PySem.W.codeIn K cdFQ "is_fraction"=true)
 (kFQ:PySem.W.keepIn K (.ref fFQ)=true)
 (aTQ:PySem.W.nsIn K mainGlobals "is_term"=some (some (.ref fTQ)))
 (lTQ:K.lookup fTQ=some ⟨ocTQ,odTQ, .func (PySem.W.fnOf "is_term" "is_term" (au sTmQ) (ao sTmQ) (af sTmQ) .none kVTQ dcTQ pmTQ anTQ cdTQ ctTQ),slTQ⟩)
 (cTQ:PySem.W.codeIn K cdTQ "is_term"=true)
 (kTQ:PySem.W.keepIn K (.ref fTQ)=true)
 (aCT:PySem.W.nsIn K mainGlobals "are_call_terms"=some (some (.ref fCT)))
 (lCT:K.lookup fCT=some ⟨ocCT,odCT, .func (PySem.W.fnOf "are_call_terms" "are_call_terms" (au sCtQ) (ao sCtQ) (af sCtQ) .none kVCT dcCT pmCT anCT cdCT ctCT),slCT⟩)
 (cCT:PySem.W.codeIn K cdCT "are_call_terms"=true)
 (kCT:PySem.W.keepIn K (.ref fCT)=true)
 (aPQ:PySem.W.nsIn K mainGlobals "is_pair"=some (some (.ref fPQ)))
 (lPQ:K.lookup fPQ=some ⟨ocPQ,odPQ, .func (PySem.W.fnOf "is_pair" "is_pair" (au sPrQ) (ao sPrQ) (af sPrQ) .none kVPQ dcPQ pmPQ anPQ cdPQ ctPQ),slPQ⟩)
 (cPQ:PySem.W.codeIn K cdPQ "is_pair"=true)
 (kPQ:PySem.W.keepIn K (.ref fPQ)=true)
 (aSM:PySem.W.nsIn K mainGlobals "is_sum"=some (some (.ref fSM)))
 (lSM:K.lookup fSM=some ⟨ocSM,odSM, .func (PySem.W.fnOf "is_sum" "is_sum" (au sSmQ) (ao sSmQ) (af sSmQ) .none kVSM dcSM pmSM anSM cdSM ctSM),slSM⟩)
 (cSM:PySem.W.codeIn K cdSM "is_sum"=true)
 (kSM:PySem.W.keepIn K (.ref fSM)=true)
 (aAQ:PySem.W.nsIn K mainGlobals "is_atom"=some (some (.ref fAQ)))
 (lAQ:K.lookup fAQ=some ⟨ocAQ,odAQ, .func (PySem.W.fnOf "is_atom" "is_atom" (au sAtQ) (ao sAtQ) (af sAtQ) .none kVAQ dcAQ pmAQ anAQ cdAQ ctAQ),slAQ⟩)
 (cAQ:PySem.W.codeIn K cdAQ "is_atom"=true)
 (kAQ:PySem.W.keepIn K (.ref fAQ)=true)
 (aWQ:PySem.W.nsIn K mainGlobals "is_wish"=some (some (.ref fWQ)))
 (lWQ:K.lookup fWQ=some ⟨ocWQ,odWQ, .func (PySem.W.fnOf "is_wish" "is_wish" (au sWsQ) (ao sWsQ) (af sWsQ) .none kVWQ dcWQ pmWQ anWQ cdWQ ctWQ),slWQ⟩)
 (cWQ:PySem.W.codeIn K cdWQ "is_wish"=true)
 (kWQ:PySem.W.keepIn K (.ref fWQ)=true)
 (aQK:PySem.W.nsIn K mainGlobals "is_count"=some (some (.ref fQK)))
 (lQK:K.lookup fQK=some ⟨ocQK,odQK, .func (PySem.W.fnOf "is_count" "is_count" (au sCnt) (ao sCnt) (af sCnt) .none kVQK dcQK pmQK anQK cdQK ctQK),slQK⟩)
 (cQK:PySem.W.codeIn K cdQK "is_count"=true)
 (kQK:PySem.W.keepIn K (.ref fQK)=true)
 (aQI:PySem.W.nsIn K mainGlobals "is_thing"=some (some (.ref fQI)))
 (lQI:K.lookup fQI=some ⟨ocQI,odQI, .func (PySem.W.fnOf "is_thing" "is_thing" (au sThQ) (ao sThQ) (af sThQ) .none kVQI dcQI pmQI anQI cdQI ctQI),slQI⟩)
 (cQI:PySem.W.codeIn K cdQI "is_thing"=true)
 (kQI:PySem.W.keepIn K (.ref fQI)=true)
 (aQP:PySem.W.nsIn K mainGlobals "is_part"=some (some (.ref fQP)))
 (lQP:K.lookup fQP=some ⟨ocQP,odQP, .func (PySem.W.fnOf "is_part" "is_part" (au sPtQ) (ao sPtQ) (af sPtQ) .none kVQP dcQP pmQP anQP cdQP ctQP),slQP⟩)
 (cQP:PySem.W.codeIn K cdQP "is_part"=true)
 (kQP:PySem.W.keepIn K (.ref fQP)=true)
 (aQC:PySem.W.nsIn K mainGlobals "is_chain"=some (some (.ref fQC)))
 (lQC:K.lookup fQC=some ⟨ocQC,odQC, .func (PySem.W.fnOf "is_chain" "is_chain" (au sChQ) (ao sChQ) (af sChQ) .none kVQC dcQC pmQC anQC cdQC ctQC),slQC⟩)
 (cQC:PySem.W.codeIn K cdQC "is_chain"=true)
 (kQC:PySem.W.keepIn K (.ref fQC)=true)
 (aQ1:PySem.W.nsIn K mainGlobals "is_step_of_one"=some (some (.ref fQ1)))
 (lQ1:K.lookup fQ1=some ⟨ocQ1,odQ1, .func (PySem.W.fnOf "is_step_of_one" "is_step_of_one" (au sSt1) (ao sSt1) (af sSt1) .none kVQ1 dcQ1 pmQ1 anQ1 cdQ1 ctQ1),slQ1⟩)
 (cQ1:PySem.W.codeIn K cdQ1 "is_step_of_one"=true)
 (kQ1:PySem.W.keepIn K (.ref fQ1)=true)
 (aQ2:PySem.W.nsIn K mainGlobals "is_step_of_two"=some (some (.ref fQ2)))
 (lQ2:K.lookup fQ2=some ⟨ocQ2,odQ2, .func (PySem.W.fnOf "is_step_of_two" "is_step_of_two" (au sSt2) (ao sSt2) (af sSt2) .none kVQ2 dcQ2 pmQ2 anQ2 cdQ2 ctQ2),slQ2⟩)
 (cQ2:PySem.W.codeIn K cdQ2 "is_step_of_two"=true)
 (kQ2:PySem.W.keepIn K (.ref fQ2)=true)
 (aQS:PySem.W.nsIn K mainGlobals "is_step"=some (some (.ref fQS)))
 (lQS:K.lookup fQS=some ⟨ocQS,odQS, .func (PySem.W.fnOf "is_step" "is_step" (au sStp) (ao sStp) (af sStp) .none kVQS dcQS pmQS anQS cdQS ctQS),slQS⟩)
 (cQS:PySem.W.codeIn K cdQS "is_step"=true)
 (kQS:PySem.W.keepIn K (.ref fQS)=true)
 (aTP:PySem.W.nsIn K mainGlobals "_law_tape"=some (some (.ref fTP)))
 (lTP:K.lookup fTP=some ⟨ocTP,odTP, .func (PySem.W.fnOf "_law_tape" "_law_tape" (au jv) (ao jv) (af jv) .none kVTP dcTP pmTP anTP cdTP ctTP),slTP⟩)
 (cTP:PySem.W.codeIn K cdTP "_law_tape"=true)
 (kTP:PySem.W.keepIn K (.ref fTP)=true)
 (aDR:PySem.W.nsIn K mainGlobals "_law_draw"=some (some (.ref fDR)))
 (lDR:K.lookup fDR=some ⟨ocDR,odDR, .func (PySem.W.fnOf "_law_draw" "_law_draw" (au fG) (ao fG) (af fG) .none kVDR dcDR pmDR anDR cdDR ctDR),slDR⟩)
 (cDR:PySem.W.codeIn K cdDR "_law_draw"=true)
 (kDR:PySem.W.keepIn K (.ref fDR)=true)
 (aNM:PySem.W.nsIn K mainGlobals "_law_names"=some (some (.ref fNM)))
 (lNM:K.lookup fNM=some ⟨ocNM,odNM, .func (PySem.W.fnOf "_law_names" "_law_names" (au hU) (ao hU) (af hU) .none kVNM dcNM pmNM anNM cdNM ctNM),slNM⟩)
 (cNM:PySem.W.codeIn K cdNM "_law_names"=true)
 (kNM:PySem.W.keepIn K (.ref fNM)=true)
 (aWH:PySem.W.nsIn K mainGlobals "_law_whole"=some (some (.ref fWH)))
 (lWH:K.lookup fWH=some ⟨ocWH,odWH, .func (PySem.W.fnOf "_law_whole" "_law_whole" (au gz) (ao gz) (af gz) .none kVWH dcWH pmWH anWH cdWH ctWH),slWH⟩)
 (cWH:PySem.W.codeIn K cdWH "_law_whole"=true)
 (kWH:PySem.W.keepIn K (.ref fWH)=true)
 (aSH:PySem.W.nsIn K mainGlobals "_law_share"=some (some (.ref fSH)))
 (lSH:K.lookup fSH=some ⟨ocSH,odSH, .func (PySem.W.fnOf "_law_share" "_law_share" (au gU) (ao gU) (af gU) .none kVSH dcSH pmSH anSH cdSH ctSH),slSH⟩)
 (cSH:PySem.W.codeIn K cdSH "_law_share"=true)
 (kSH:PySem.W.keepIn K (.ref fSH)=true)
 (aTE:PySem.W.nsIn K mainGlobals "_law_term"=some (some (.ref fTE)))
 (lTE:K.lookup fTE=some ⟨ocTE,odTE, .func (PySem.W.fnOf "_law_term" "_law_term" (au ju) (ao ju) (af ju) .none kVTE dcTE pmTE anTE cdTE ctTE),slTE⟩)
 (cTE:PySem.W.codeIn K cdTE "_law_term"=true)
 (kTE:PySem.W.keepIn K (.ref fTE)=true)
 (aLS:PySem.W.nsIn K mainGlobals "_law_sum"=some (some (.ref fLS)))
 (lLS:K.lookup fLS=some ⟨ocLS,odLS, .func (PySem.W.fnOf "_law_sum" "_law_sum" (au jC) (ao jC) (af jC) .none kVLS dcLS pmLS anLS cdLS ctLS),slLS⟩)
 (cLS:PySem.W.codeIn K cdLS "_law_sum"=true)
 (kLS:PySem.W.keepIn K (.ref fLS)=true)
 (aAT:PySem.W.nsIn K mainGlobals "_law_atom"=some (some (.ref fAT)))
 (lAT:K.lookup fAT=some ⟨ocAT,odAT, .func (PySem.W.fnOf "_law_atom" "_law_atom" (au jE) (ao jE) (af jE) .none kVAT dcAT pmAT anAT cdAT ctAT),slAT⟩)
 (cAT:PySem.W.codeIn K cdAT "_law_atom"=true)
 (kAT:PySem.W.keepIn K (.ref fAT)=true)
 (aWI:PySem.W.nsIn K mainGlobals "_law_wish"=some (some (.ref fWI)))
 (lWI:K.lookup fWI=some ⟨ocWI,odWI, .func (PySem.W.fnOf "_law_wish" "_law_wish" (au jt) (ao jt) (af jt) .none kVWI dcWI pmWI anWI cdWI ctWI),slWI⟩)
 (cWI:PySem.W.codeIn K cdWI "_law_wish"=true)
 (kWI:PySem.W.keepIn K (.ref fWI)=true)
 (aFW:PySem.W.nsIn K mainGlobals "_law_few"=some (some (.ref fFW)))
 (lFW:K.lookup fFW=some ⟨ocFW,odFW, .func (PySem.W.fnOf "_law_few" "_law_few" (au sFew) (ao sFew) (af sFew) .none kVFW dcFW pmFW anFW cdFW ctFW),slFW⟩)
 (cFW:PySem.W.codeIn K cdFW "_law_few"=true)
 (kFW:PySem.W.keepIn K (.ref fFW)=true)
 (aPT:PySem.W.nsIn K mainGlobals "_law_part"=some (some (.ref fPT)))
 (lPT:K.lookup fPT=some ⟨ocPT,odPT, .func (PySem.W.fnOf "_law_part" "_law_part" (au jA) (ao jA) (af jA) .none kVPT dcPT pmPT anPT cdPT ctPT),slPT⟩)
 (cPT:PySem.W.codeIn K cdPT "_law_part"=true)
 (kPT:PySem.W.keepIn K (.ref fPT)=true)
 (aSG:PySem.W.nsIn K mainGlobals "_law_signed"=some (some (.ref fSG)))
 (lSG:K.lookup fSG=some ⟨ocSG,odSG, .func (PySem.W.fnOf "_law_signed" "_law_signed" (au eV) (ao eV) (af eV) .none kVSG dcSG pmSG anSG cdSG ctSG),slSG⟩)
 (cSG:PySem.W.codeIn K cdSG "_law_signed"=true)
 (kSG:PySem.W.keepIn K (.ref fSG)=true)
 (aTO:PySem.W.nsIn K mainGlobals "_law_totals"=some (some (.ref fTO)))
 (lTO:K.lookup fTO=some ⟨ocTO,odTO, .func (PySem.W.fnOf "_law_totals" "_law_totals" (au eU) (ao eU) (af eU) .none kVTO dcTO pmTO anTO cdTO ctTO),slTO⟩)
 (cTO:PySem.W.codeIn K cdTO "_law_totals"=true)
 (kTO:PySem.W.keepIn K (.ref fTO)=true)
 (aPS:PySem.W.nsIn K mainGlobals "_law_parts"=some (some (.ref fPS)))
 (lPS:K.lookup fPS=some ⟨ocPS,odPS, .func (PySem.W.fnOf "_law_parts" "_law_parts" (au gZ) (ao gZ) (af gZ) .none kVPS dcPS pmPS anPS cdPS ctPS),slPS⟩)
 (cPS:PySem.W.codeIn K cdPS "_law_parts"=true)
 (kPS:PySem.W.keepIn K (.ref fPS)=true)
 (aTH:PySem.W.nsIn K mainGlobals "_law_thing"=some (some (.ref fTH)))
 (lTH:K.lookup fTH=some ⟨ocTH,odTH, .func (PySem.W.fnOf "_law_thing" "_law_thing" (au gJ) (ao gJ) (af gJ) .none kVTH dcTH pmTH anTH cdTH ctTH),slTH⟩)
 (cTH:PySem.W.codeIn K cdTH "_law_thing"=true)
 (kTH:PySem.W.keepIn K (.ref fTH)=true)
 (aTS:PySem.W.nsIn K mainGlobals "_law_terms"=some (some (.ref fTS)))
 (lTS:K.lookup fTS=some ⟨ocTS,odTS, .func (PySem.W.fnOf "_law_terms" "_law_terms" (au gK) (ao gK) (af gK) .none kVTS dcTS pmTS anTS cdTS ctTS),slTS⟩)
 (cTS:PySem.W.codeIn K cdTS "_law_terms"=true)
 (kTS:PySem.W.keepIn K (.ref fTS)=true)
 (aSQ:PySem.W.nsIn K mainGlobals "_law_step"=some (some (.ref fSQ)))
 (lSQ:K.lookup fSQ=some ⟨ocSQ,odSQ, .func (PySem.W.fnOf "_law_step" "_law_step" (au jx) (ao jx) (af jx) .none kVSQ dcSQ pmSQ anSQ cdSQ ctSQ),slSQ⟩)
 (cSQ:PySem.W.codeIn K cdSQ "_law_step"=true)
 (kSQ:PySem.W.keepIn K (.ref fSQ)=true)
 (aPR:PySem.W.nsIn K mainGlobals "_law_pair"=some (some (.ref fPR)))
 (lPR:K.lookup fPR=some ⟨ocPR,odPR, .func (PySem.W.fnOf "_law_pair" "_law_pair" (au jB) (ao jB) (af jB) .none kVPR dcPR pmPR anPR cdPR ctPR),slPR⟩)
 (cPR:PySem.W.codeIn K cdPR "_law_pair"=true)
 (kPR:PySem.W.keepIn K (.ref fPR)=true)
 (aBE:PySem.W.nsIn K mainGlobals "_law_bent"=some (some (.ref fBE)))
 (lBE:K.lookup fBE=some ⟨ocBE,odBE, .func (PySem.W.fnOf "_law_bent" "_law_bent" (au fJ) (ao fJ) (af fJ) .none kVBE dcBE pmBE anBE cdBE ctBE),slBE⟩)
 (cBE:PySem.W.codeIn K cdBE "_law_bent"=true)
 (kBE:PySem.W.keepIn K (.ref fBE)=true)
 (aNR:PySem.W.nsIn K mainGlobals "_law_near"=some (some (.ref fNR)))
 (lNR:K.lookup fNR=some ⟨ocNR,odNR, .func (PySem.W.fnOf "_law_near" "_law_near" (au ij) (ao ij) (af ij) .none kVNR dcNR pmNR anNR cdNR ctNR),slNR⟩)
 (cNR:PySem.W.codeIn K cdNR "_law_near"=true)
 (kNR:PySem.W.keepIn K (.ref fNR)=true)
 (aLN:PySem.W.nsIn K mainGlobals "_law_is_number"=some (some (.ref fLN)))
 (lLN:K.lookup fLN=some ⟨ocLN,odLN, .func (PySem.W.fnOf "_law_is_number" "_law_is_number" (au sLNb) (ao sLNb) (af sLNb) .none kVLN dcLN pmLN anLN cdLN ctLN),slLN⟩)
 (cLN:PySem.W.codeIn K cdLN "_law_is_number"=true)
 (kLN:PySem.W.keepIn K (.ref fLN)=true)
 (aLH:PySem.W.nsIn K mainGlobals "_law_is_thing"=some (some (.ref fLH)))
 (lLH:K.lookup fLH=some ⟨ocLH,odLH, .func (PySem.W.fnOf "_law_is_thing" "_law_is_thing" (au sLTh) (ao sLTh) (af sLTh) .none kVLH dcLH pmLH anLH cdLH ctLH),slLH⟩)
 (cLH:PySem.W.codeIn K cdLH "_law_is_thing"=true)
 (kLH:PySem.W.keepIn K (.ref fLH)=true)
 (aLP:PySem.W.nsIn K mainGlobals "_law_is_part"=some (some (.ref fLP)))
 (lLP:K.lookup fLP=some ⟨ocLP,odLP, .func (PySem.W.fnOf "_law_is_part" "_law_is_part" (au sLPt) (ao sLPt) (af sLPt) .none kVLP dcLP pmLP anLP cdLP ctLP),slLP⟩)
 (cLP:PySem.W.codeIn K cdLP "_law_is_part"=true)
 (kLP:PySem.W.keepIn K (.ref fLP)=true)
 (aLL:PySem.W.nsIn K mainGlobals "_law_is_all"=some (some (.ref fLL)))
 (lLL:K.lookup fLL=some ⟨ocLL,odLL, .func (PySem.W.fnOf "_law_is_all" "_law_is_all" (au jD) (ao jD) (af jD) .none kVLL dcLL pmLL anLL cdLL ctLL),slLL⟩)
 (cLL:PySem.W.codeIn K cdLL "_law_is_all"=true)
 (kLL:PySem.W.keepIn K (.ref fLL)=true)
 (aLT:PySem.W.nsIn K mainGlobals "_law_is_step"=some (some (.ref fLT)))
 (lLT:K.lookup fLT=some ⟨ocLT,odLT, .func (PySem.W.fnOf "_law_is_step" "_law_is_step" (au sLSt) (ao sLSt) (af sLSt) .none kVLT dcLT pmLT anLT cdLT ctLT),slLT⟩)
 (cLT:PySem.W.codeIn K cdLT "_law_is_step"=true)
 (kLT:PySem.W.keepIn K (.ref fLT)=true)
 (aLA:PySem.W.nsIn K mainGlobals "law"=some (some (.ref fLA)))
 (lLA:K.lookup fLA=some ⟨ocLA,odLA, .func (PySem.W.fnOf "law" "law" (au sLaw) (ao sLaw) (af sLaw) .none kVLA dcLA pmLA anLA cdLA ctLA),slLA⟩)
 (cLA:PySem.W.codeIn K cdLA "law"=true)
 (kLA:PySem.W.keepIn K (.ref fLA)=true)
 (kC:PySem.W.keepIn K (.ref C)=true)
 (lC:K.lookup C=some (excClassObj nm qn C Nn bs bm hdct sn sub ab col dd k0 k1 k2 k3 k5 "ValueError.__new__"))
 (aZ:PySem.W.nsIn K mainGlobals "ZERO"=some (some (.ref Z)))
 (lZ:K.lookup Z=some ⟨.type "tuple",dZ, .seq #[.int 0 t0, .int 1 t1] nZ,sZ⟩)
 (aML:PySem.W.nsIn K mainGlobals "MOST_LETTERS"=some (some (.int 8 tk1)))
 (aMC:PySem.W.nsIn K mainGlobals "MOST_IN_CALL"=some (some (.int 3 tk2)))
 (aLC:PySem.W.nsIn K mainGlobals "LEAST_IN_CHAIN"=some (some (.int 3 tk3)))
 (aZ2:PySem.W.nsIn K mainGlobals "TWO_TERM_KINDS"=some (some (.ref Z2)))
 (lZ2:K.lookup Z2=some ⟨.type "tuple",dZ2, .seq #[.str (Str.ofString "turn") u0, .str (Str.ofString "calls") u1, .str (Str.ofString "level") u2, .str (Str.ofString "meet") u3] nZ2,sZ2⟩)
 (z_abs:PySem.W.nsIn K mainGlobals "abs"=some none)
 (z_len:PySem.W.nsIn K mainGlobals "len"=some none)
 (z_range:PySem.W.nsIn K mainGlobals "range"=some none)
 (z_isinstance:PySem.W.nsIn K mainGlobals "isinstance"=some none)
 (z_tuple:PySem.W.nsIn K mainGlobals "tuple"=some none)
 (z_int:PySem.W.nsIn K mainGlobals "int"=some none)
 (z_bool:PySem.W.nsIn K mainGlobals "bool"=some none)
 (z_list:PySem.W.nsIn K mainGlobals "list"=some none)
 (z_str:PySem.W.nsIn K mainGlobals "str"=some none)
 (z_all:PySem.W.nsIn K mainGlobals "all"=some none)
 (z_any:PySem.W.nsIn K mainGlobals "any"=some none)
 (z_zip:PySem.W.nsIn K mainGlobals "zip"=some none)
 (z_sorted:PySem.W.nsIn K mainGlobals "sorted"=some none)
 (z_ValueError:PySem.W.nsIn K mainGlobals "ValueError"=some none)
 (ln:Line "ValueError" bm):
 ∃fd:FuncData,(∀(s:Shared) (v:Value),BindsTo s fd ⟨[v],[]⟩ [("_law_script",v)])∧∀base:Heap,K.In base→base.Ns mainGlobals mg→FnOk l.prog w K mg base CX0 70 fa fd ["_law_script"] (om K):=by
 have e:=hfa.symm.trans (PySem.W.mg_of X G aLA)
 cases e
 have B:Blt mg:=⟨PySem.W.mg_none_of X G z_abs,PySem.W.mg_none_of X G z_len,PySem.W.mg_none_of X G z_range,PySem.W.mg_none_of X G z_isinstance,PySem.W.mg_none_of X G z_tuple,PySem.W.mg_none_of X G z_int,PySem.W.mg_none_of X G z_bool,PySem.W.mg_none_of X G z_list,PySem.W.mg_none_of X G z_str,PySem.W.mg_none_of X G z_all,PySem.W.mg_none_of X G z_any,PySem.W.mg_none_of X G z_zip,PySem.W.mg_none_of X G z_sorted,PySem.W.mg_none_of X G z_ValueError⟩
 have FI:=aG (st:=ik) lI cI kI
 have bI:=FI.binds (ps:= ["self","words"]) fun _ _ _ _ _ _ us hl=>match us,hl with| [_,_],_=>rfl
 have FCD:=aG (st:=sCd) lCD cCD kCD
 have bCD:=FCD.binds (ps:= ["one","other"]) fun _ _ _ _ _ _ us hl=>by obtain ⟨_,_,rfl⟩:=ex2 us hl;rfl
 have mCD:=PySem.W.mg_of X G aCD
 have FFR:=aG (st:=sFr) lFR cFR kFR
 have bFR:=FFR.binds (ps:= ["top","bottom"]) fun _ _ _ _ _ _ us hl=>by obtain ⟨_,_,rfl⟩:=ex2 us hl;rfl
 have mFR:=PySem.W.mg_of X G aFR
 have FPL:=aG (st:=jz) lPL cPL kPL
 have bPL:=FPL.binds (ps:= ["one","other"]) fun _ _ _ _ _ _ us hl=>by obtain ⟨_,_,rfl⟩:=ex2 us hl;rfl
 have mPL:=PySem.W.mg_of X G aPL
 have FTX:=aG (st:=gG) lTX cTX kTX
 have bTX:=FTX.binds (ps:= ["one","other"]) fun _ _ _ _ _ _ us hl=>by obtain ⟨_,_,rfl⟩:=ex2 us hl;rfl
 have mTX:=PySem.W.mg_of X G aTX
 have FMI:=aG (st:=i0) lMI cMI kMI
 have bMI:=FMI.binds (ps:= ["one","other"]) fun _ _ _ _ _ _ us hl=>by obtain ⟨_,_,rfl⟩:=ex2 us hl;rfl
 have mMI:=PySem.W.mg_of X G aMI
 have FPD:=aG (st:=eX) lPD cPD kPD
 have bPD:=FPD.binds (ps:= ["one","other"]) fun _ _ _ _ _ _ us hl=>by obtain ⟨_,_,rfl⟩:=ex2 us hl;rfl
 have mPD:=PySem.W.mg_of X G aPD
 have FCO:=aG (st:=i3) lCO cCO kCO
 have bCO:=FCO.binds (ps:= ["one"]) fun _ _ _ _ _ _ us hl=>by obtain ⟨_,rfl⟩:=ex1 us hl;rfl
 have mCO:=PySem.W.mg_of X G aCO
 have FSI:=aG (st:=jy) lSI cSI kSI
 have bSI:=FSI.binds (ps:= ["one"]) fun _ _ _ _ _ _ us hl=>by obtain ⟨_,rfl⟩:=ex1 us hl;rfl
 have mSI:=PySem.W.mg_of X G aSI
 have FSU:=aG (st:=sSum) lSU cSU kSU
 have bSU:=FSU.binds (ps:= ["pairs"]) fun _ _ _ _ _ _ us hl=>by obtain ⟨_,rfl⟩:=ex1 us hl;rfl
 have mSU:=PySem.W.mg_of X G aSU
 have FSP:=aG (st:=gY) lSP cSP kSP
 have bSP:=FSP.binds (ps:= ["one","other"]) fun _ _ _ _ _ _ us hl=>by obtain ⟨_,_,rfl⟩:=ex2 us hl;rfl
 have mSP:=PySem.W.mg_of X G aSP
 have FST:=aG (st:=eW) lST cST kST
 have bST:=FST.binds (ps:= ["one","many"]) fun _ _ _ _ _ _ us hl=>by obtain ⟨_,_,rfl⟩:=ex2 us hl;rfl
 have mST:=PySem.W.mg_of X G aST
 have FIW:=aG (st:=sIw) lIW cIW kIW
 have bIW:=FIW.binds (ps:= ["thing"]) fun _ _ _ _ _ _ us hl=>by obtain ⟨_,rfl⟩:=ex1 us hl;rfl
 have mIW:=PySem.W.mg_of X G aIW
 have FIO:=aG (st:=sIto) lIO cIO kIO
 have bIO:=FIO.binds (ps:= ["thing","count"]) fun _ _ _ _ _ _ us hl=>by obtain ⟨_,_,rfl⟩:=ex2 us hl;rfl
 have mIO:=PySem.W.mg_of X G aIO
 have FNQ:=aG (st:=sNmQ) lNQ cNQ kNQ
 have bNQ:=FNQ.binds (ps:= ["thing"]) fun _ _ _ _ _ _ us hl=>by obtain ⟨_,rfl⟩:=ex1 us hl;rfl
 have mNQ:=PySem.W.mg_of X G aNQ
 have FFQ:=aG (st:=sFrQ) lFQ cFQ kFQ
 have bFQ:=FFQ.binds (ps:= ["thing"]) fun _ _ _ _ _ _ us hl=>by obtain ⟨_,rfl⟩:=ex1 us hl;rfl
 have mFQ:=PySem.W.mg_of X G aFQ
 have FTQ:=aG (st:=sTmQ) lTQ cTQ kTQ
 have bTQ:=FTQ.binds (ps:= ["thing"]) fun _ _ _ _ _ _ us hl=>by obtain ⟨_,rfl⟩:=ex1 us hl;rfl
 have mTQ:=PySem.W.mg_of X G aTQ
 have FCT:=aG (st:=sCtQ) lCT cCT kCT
 have bCT:=FCT.binds (ps:= ["thing"]) fun _ _ _ _ _ _ us hl=>by obtain ⟨_,rfl⟩:=ex1 us hl;rfl
 have mCT:=PySem.W.mg_of X G aCT
 have FPQ:=aG (st:=sPrQ) lPQ cPQ kPQ
 have bPQ:=FPQ.binds (ps:= ["thing"]) fun _ _ _ _ _ _ us hl=>by obtain ⟨_,rfl⟩:=ex1 us hl;rfl
 have mPQ:=PySem.W.mg_of X G aPQ
 have FSM:=aG (st:=sSmQ) lSM cSM kSM
 have bSM:=FSM.binds (ps:= ["thing"]) fun _ _ _ _ _ _ us hl=>by obtain ⟨_,rfl⟩:=ex1 us hl;rfl
 have mSM:=PySem.W.mg_of X G aSM
 have FAQ:=aG (st:=sAtQ) lAQ cAQ kAQ
 have bAQ:=FAQ.binds (ps:= ["thing"]) fun _ _ _ _ _ _ us hl=>by obtain ⟨_,rfl⟩:=ex1 us hl;rfl
 have mAQ:=PySem.W.mg_of X G aAQ
 have FWQ:=aG (st:=sWsQ) lWQ cWQ kWQ
 have bWQ:=FWQ.binds (ps:= ["thing"]) fun _ _ _ _ _ _ us hl=>by obtain ⟨_,rfl⟩:=ex1 us hl;rfl
 have mWQ:=PySem.W.mg_of X G aWQ
 have FQK:=aG (st:=sCnt) lQK cQK kQK
 have bQK:=FQK.binds (ps:= ["thing"]) fun _ _ _ _ _ _ us hl=>by obtain ⟨_,rfl⟩:=ex1 us hl;rfl
 have mQK:=PySem.W.mg_of X G aQK
 have FQI:=aG (st:=sThQ) lQI cQI kQI
 have bQI:=FQI.binds (ps:= ["thing"]) fun _ _ _ _ _ _ us hl=>by obtain ⟨_,rfl⟩:=ex1 us hl;rfl
 have mQI:=PySem.W.mg_of X G aQI
 have FQP:=aG (st:=sPtQ) lQP cQP kQP
 have bQP:=FQP.binds (ps:= ["thing"]) fun _ _ _ _ _ _ us hl=>by obtain ⟨_,rfl⟩:=ex1 us hl;rfl
 have mQP:=PySem.W.mg_of X G aQP
 have FQC:=aG (st:=sChQ) lQC cQC kQC
 have bQC:=FQC.binds (ps:= ["thing"]) fun _ _ _ _ _ _ us hl=>by obtain ⟨_,rfl⟩:=ex1 us hl;rfl
 have mQC:=PySem.W.mg_of X G aQC
 have FQ1:=aG (st:=sSt1) lQ1 cQ1 kQ1
 have bQ1:=FQ1.binds (ps:= ["kind","inner"]) fun _ _ _ _ _ _ us hl=>by obtain ⟨_,_,rfl⟩:=ex2 us hl;rfl
 have mQ1:=PySem.W.mg_of X G aQ1
 have FQ2:=aG (st:=sSt2) lQ2 cQ2 kQ2
 have bQ2:=FQ2.binds (ps:= ["kind","one","other"]) fun _ _ _ _ _ _ us hl=>by obtain ⟨_,_,_,rfl⟩:=ex3 us hl;rfl
 have mQ2:=PySem.W.mg_of X G aQ2
 have FQS:=aG (st:=sStp) lQS cQS kQS
 have bQS:=FQS.binds (ps:= ["thing"]) fun _ _ _ _ _ _ us hl=>by obtain ⟨_,rfl⟩:=ex1 us hl;rfl
 have mQS:=PySem.W.mg_of X G aQS
 have FTP:=aG (st:=jv) lTP cTP kTP
 have bTP:=FTP.binds (ps:= ["_law_script"]) fun _ _ _ _ _ _ us hl=>by obtain ⟨_,rfl⟩:=ex1 us hl;rfl
 have mTP:=PySem.W.mg_of X G aTP
 have FDR:=aG (st:=fG) lDR cDR kDR
 have bDR:=FDR.binds (ps:= ["_law_tape_here","_law_many"]) fun _ _ _ _ _ _ us hl=>by obtain ⟨_,_,rfl⟩:=ex2 us hl;rfl
 have mDR:=PySem.W.mg_of X G aDR
 have FNM:=aG (st:=hU) lNM cNM kNM
 have bNM:=FNM.binds (ps:= ["_law_tape_here"]) fun _ _ _ _ _ _ us hl=>by obtain ⟨_,rfl⟩:=ex1 us hl;rfl
 have mNM:=PySem.W.mg_of X G aNM
 have FWH:=aG (st:=gz) lWH cWH kWH
 have bWH:=FWH.binds (ps:= ["_law_tape_here","_law_small","_law_great"]) fun _ _ _ _ _ _ us hl=>by obtain ⟨_,_,_,rfl⟩:=ex3 us hl;rfl
 have mWH:=PySem.W.mg_of X G aWH
 have FSH:=aG (st:=gU) lSH cSH kSH
 have bSH:=FSH.binds (ps:= ["_law_tape_here"]) fun _ _ _ _ _ _ us hl=>by obtain ⟨_,rfl⟩:=ex1 us hl;rfl
 have mSH:=PySem.W.mg_of X G aSH
 have FTE:=aG (st:=ju) lTE cTE kTE
 have bTE:=FTE.binds (ps:= ["_law_tape_here","_law_names_here","_law_deep"]) fun _ _ _ _ _ _ us hl=>by obtain ⟨_,_,_,rfl⟩:=ex3 us hl;rfl
 have mTE:=PySem.W.mg_of X G aTE
 have FLS:=aG (st:=jC) lLS cLS kLS
 have bLS:=FLS.binds (ps:= ["_law_tape_here","_law_names_here"]) fun _ _ _ _ _ _ us hl=>by obtain ⟨_,_,rfl⟩:=ex2 us hl;rfl
 have mLS:=PySem.W.mg_of X G aLS
 have FAT:=aG (st:=jE) lAT cAT kAT
 have bAT:=FAT.binds (ps:= ["_law_tape_here","_law_names_here"]) fun _ _ _ _ _ _ us hl=>by obtain ⟨_,_,rfl⟩:=ex2 us hl;rfl
 have mAT:=PySem.W.mg_of X G aAT
 have FWI:=aG (st:=jt) lWI cWI kWI
 have bWI:=FWI.binds (ps:= ["_law_tape_here","_law_names_here","_law_deep"]) fun _ _ _ _ _ _ us hl=>by obtain ⟨_,_,_,rfl⟩:=ex3 us hl;rfl
 have mWI:=PySem.W.mg_of X G aWI
 have FFW:=aG (st:=sFew) lFW cFW kFW
 have bFW:=FFW.binds (ps:= ["_law_tape_here"]) fun _ _ _ _ _ _ us hl=>by obtain ⟨_,rfl⟩:=ex1 us hl;rfl
 have mFW:=PySem.W.mg_of X G aFW
 have FPT:=aG (st:=jA) lPT cPT kPT
 have bPT:=FPT.binds (ps:= ["_law_tape_here","_law_names_here"]) fun _ _ _ _ _ _ us hl=>by obtain ⟨_,_,rfl⟩:=ex2 us hl;rfl
 have mPT:=PySem.W.mg_of X G aPT
 have FSG:=aG (st:=eV) lSG cSG kSG
 have bSG:=FSG.binds (ps:= ["_law_part_here"]) fun _ _ _ _ _ _ us hl=>by obtain ⟨_,rfl⟩:=ex1 us hl;rfl
 have mSG:=PySem.W.mg_of X G aSG
 have FTO:=aG (st:=eU) lTO cTO kTO
 have bTO:=FTO.binds (ps:= ["_law_parts_here"]) fun _ _ _ _ _ _ us hl=>by obtain ⟨_,rfl⟩:=ex1 us hl;rfl
 have mTO:=PySem.W.mg_of X G aTO
 have FPS:=aG (st:=gZ) lPS cPS kPS
 have bPS:=FPS.binds (ps:= ["_law_tape_here","_law_names_here"]) fun _ _ _ _ _ _ us hl=>by obtain ⟨_,_,rfl⟩:=ex2 us hl;rfl
 have mPS:=PySem.W.mg_of X G aPS
 have FTH:=aG (st:=gJ) lTH cTH kTH
 have bTH:=FTH.binds (ps:= ["_law_tape_here","_law_names_here","_law_deep"]) fun _ _ _ _ _ _ us hl=>by obtain ⟨_,_,_,rfl⟩:=ex3 us hl;rfl
 have mTH:=PySem.W.mg_of X G aTH
 have FTS:=aG (st:=gK) lTS cTS kTS
 have bTS:=FTS.binds (ps:= ["_law_tape_here","_law_names_here","_law_least"]) fun _ _ _ _ _ _ us hl=>by obtain ⟨_,_,_,rfl⟩:=ex3 us hl;rfl
 have mTS:=PySem.W.mg_of X G aTS
 have FSQ:=aG (st:=jx) lSQ cSQ kSQ
 have bSQ:=FSQ.binds (ps:= ["_law_tape_here","_law_names_here"]) fun _ _ _ _ _ _ us hl=>by obtain ⟨_,_,rfl⟩:=ex2 us hl;rfl
 have mSQ:=PySem.W.mg_of X G aSQ
 have FPR:=aG (st:=jB) lPR cPR kPR
 have bPR:=FPR.binds (ps:= ["_law_tape_here","_law_names_here","_law_word"]) fun _ _ _ _ _ _ us hl=>by obtain ⟨_,_,_,rfl⟩:=ex3 us hl;rfl
 have mPR:=PySem.W.mg_of X G aPR
 have FBE:=aG (st:=fJ) lBE cBE kBE
 have bBE:=FBE.binds (ps:= ["_law_tape_here","_law_thing_here","_law_deep"]) fun _ _ _ _ _ _ us hl=>by obtain ⟨_,_,_,rfl⟩:=ex3 us hl;rfl
 have mBE:=PySem.W.mg_of X G aBE
 have FNR:=aG (st:=ij) lNR cNR kNR
 have bNR:=FNR.binds (ps:= ["_law_tape_here","_law_names_here"]) fun _ _ _ _ _ _ us hl=>by obtain ⟨_,_,rfl⟩:=ex2 us hl;rfl
 have mNR:=PySem.W.mg_of X G aNR
 have FLN:=aG (st:=sLNb) lLN cLN kLN
 have bLN:=FLN.binds (ps:= ["_law_thing_here"]) fun _ _ _ _ _ _ us hl=>by obtain ⟨_,rfl⟩:=ex1 us hl;rfl
 have mLN:=PySem.W.mg_of X G aLN
 have FLH:=aG (st:=sLTh) lLH cLH kLH
 have bLH:=FLH.binds (ps:= ["_law_thing_here"]) fun _ _ _ _ _ _ us hl=>by obtain ⟨_,rfl⟩:=ex1 us hl;rfl
 have mLH:=PySem.W.mg_of X G aLH
 have FLP:=aG (st:=sLPt) lLP cLP kLP
 have bLP:=FLP.binds (ps:= ["_law_thing_here"]) fun _ _ _ _ _ _ us hl=>by obtain ⟨_,rfl⟩:=ex1 us hl;rfl
 have mLP:=PySem.W.mg_of X G aLP
 have FLL:=aG (st:=jD) lLL cLL kLL
 have bLL:=FLL.binds (ps:= ["_law_things","_law_least","_law_asked"]) fun _ _ _ _ _ _ us hl=>by obtain ⟨_,_,_,rfl⟩:=ex3 us hl;rfl
 have mLL:=PySem.W.mg_of X G aLL
 have FLT:=aG (st:=sLSt) lLT cLT kLT
 have bLT:=FLT.binds (ps:= ["_law_thing_here"]) fun _ _ _ _ _ _ us hl=>by obtain ⟨_,rfl⟩:=ex1 us hl;rfl
 have mLT:=PySem.W.mg_of X G aLT
 have FLA:=aG (st:=sLaw) lLA cLA kLA
 have mX:=PySem.W.mg_of X G aC
 have mZ:=PySem.W.mg_of X G aZ
 have hX:∀H:Hp,Dj.SqX K H Z [.int 0, .int 1]:=fun H=> .inr ⟨_,_,_,lZ,rfl,rfl,(by show 2≤sizeLine;decide), .cons ⟨t0,rfl⟩ (.cons ⟨t1,rfl⟩ .nil)⟩
 have hZ:∀H:Hp,SqT K H Z [.int 0, .int 1]:=fun H=>(hX H).sq
 have XC:XCls K C fI:=⟨⟨_,_,_,_,_,_,_,_,_,_,_,_,_,_,_,_,lC,ln⟩,iI,fnI,kC⟩
 refine ⟨PySem.W.fnOf "law" "law" (au sLaw) (ao sLaw) (af sLaw) .none kVLA dcLA pmLA anLA cdLA ctLA,fun s v=> .of_eq rfl,fun base _ _=> ?_⟩
 have gFR:FnOk l.prog w K mg base (CX1 l.prog w) 3 fFR _ ["top","bottom"] (spFr C):=xB FFR FCD bCD mCD FI bI mX XC B
 have gPL:FnOk l.prog w K mg base CX0 2 fPL _ ["one","other"] (gy K):=uq FPL FCD bCD mCD B
 have gDR:FnOk l.prog w K mg base CX0 1 fDR _ ["_law_tape_here","_law_many"] ci:=ix FDR B
 have gWH:FnOk l.prog w K mg base CX0 2 fWH _ ["_law_tape_here","_law_small","_law_great"] spWh:=xj FWH B FDR bDR mDR
 have gSH:FnOk l.prog w K mg base CX0 4 fSH _ ["_law_tape_here"] spSh:=xo FSH gWH kWH bWH mWH gFR kFR bFR mFR
 have gTE:∀n,FnOk l.prog w K mg base CX0 (n+1) fTE _ ["_law_tape_here","_law_names_here","_law_deep"] (eG n):=uj FTE bTE mTE B FDR bDR mDR
 have gSX:FnOk l.prog w K mg base CX0 3 fSU _ ["pairs"] gx:=um FSU B gPL kPL bPL mPL mZ hZ
 have gLS:FnOk l.prog w K mg base CX0 5 fLS _ ["_law_tape_here","_law_names_here"] n5:=uw FLS B (gTE 2) kTE bTE mTE gSH kSH bSH mSH gSX kSU bSU mSU gDR kDR bDR mDR
 have gAT:FnOk l.prog w K mg base CX0 6 fAT _ ["_law_tape_here","_law_names_here"] iN:=ux FAT (gTE 3) kTE bTE mTE gSH kSH bSH mSH gLS kLS bLS mLS gDR kDR bDR mDR
 have gTX:FnOk l.prog w K mg base CX0 2 fTX _ ["one","other"] (cU K):=rF FTX FCD bCD mCD B
 have gCO:FnOk l.prog w K mg base CX0 1 fCO _ ["one"] kj:=rO FCO
 have gSP:FnOk l.prog w K mg base CX0 4 fSP _ ["one","other"] kg:=rK FSP B gSX kSU bSU mSU
 have gST:FnOk l.prog w K mg base CX0 4 fST _ ["one","many"] fw:=pI FST gSX kSU bSU mSU gTX kTX bTX mTX
 have gMI:FnOk l.prog w K mg base CX0 3 fMI _ ["one","other"] ki:=rN FMI gPL kPL bPL mPL gCO kCO bCO mCO
 have gPD:FnOk l.prog w K mg base (CX1 l.prog w) 4 fPD _ ["one","other"] (iM C):=pK FPD gTX kTX bTX mTX gFR kFR bFR mFR FI bI mX XC mZ hZ B
 have gFW:FnOk l.prog w K mg base CX0 4 fFW _ ["_law_tape_here"] qE:=wa FFW gWH kWH bWH mWH gFR kFR bFR mFR
 have gPT:FnOk l.prog w K mg base CX0 5 fPT _ ["_law_tape_here","_law_names_here"] kh:=ut FPT B (gTE 2) kTE bTE mTE gFW kFW bFW mFW gSX kSU bSU mSU gDR kDR bDR mDR gWH kWH bWH mWH gFR kFR bFR mFR
 have gSG:FnOk l.prog w K mg base CX0 3 fSG _ ["_law_part_here"] fv:=pJ FSG gTX kTX bTX mTX
 have gTO:FnOk l.prog w K mg base CX0 5 fTO _ ["_law_parts_here"] iL:=pH FTO gSP kSP bSP mSP gST kST bST mST gSG kSG bSG mSG gPL kPL bPL mPL gTX kTX bTX mTX
 have gPS:FnOk l.prog w K mg base CX0 6 fPS _ ["_law_tape_here","_law_names_here"] iw:=rL FPS B gPT kPT bPT mPT gTO kTO bTO mTO gSG kSG bSG mSG gDR kDR bDR mDR gST kST bST mST gMI kMI bMI mMI gTX kTX bTX mTX gPD kPD bPD mPD
 have gWI:=ui FWI bWI mWI B gAT kAT bAT mAT gDR kDR bDR mDR 3
 have gTH:FnOk l.prog w K mg base CX0 10 fTH _ ["_law_tape_here","_law_names_here","_law_deep"] kf:=rH rfl FTH gWI kWI bWI mWI
 have gTS:FnOk l.prog w K mg base CX0 5 fTS _ ["_law_tape_here","_law_names_here","_law_least"] iu:=rJ FTS B (gTE 3) kTE bTE mTE gDR kDR bDR mDR
 have gPR:FnOk l.prog w K mg base CX0 5 fPR _ ["_law_tape_here","_law_names_here","_law_word"] mV:=uu FPR B (gTE 3) kTE bTE mTE gDR kDR bDR mDR
 have gSQ:FnOk l.prog w K mg base CX0 11 fSQ _ ["_law_tape_here","_law_names_here"] mK:=uo FSQ (gTE 3) kTE bTE mTE gDR kDR bDR mDR gTH kTH bTH mTH gPS kPS bPS mPS gTS kTS bTS mTS gPR kPR bPR mPR
 have mZ2:=PySem.W.mg_of X G aZ2
 have hX2:∀H:Hp,Dj.SqX K H Z2 (kinds.map V.str):=fun H=> .inr ⟨_,_,_,lZ2,rfl,rfl,(by show 4≤sizeLine;decide), .cons ⟨u0,rfl⟩ (.cons ⟨u1,rfl⟩ (.cons ⟨u2,rfl⟩ (.cons ⟨u3,rfl⟩ .nil)))⟩
 have hZ2:∀H:Hp,SqT K H Z2 (kinds.map V.str):=fun H=>(hX2 H).sq
 have gIW:FnOk l.prog w K mg base CX0 1 fIW _ ["thing"] spIw:=xx FIW B
 have gIO:FnOk l.prog w K mg base CX0 1 fIO _ ["thing","count"] spTo:=xk FIO B
 have gNQ:FnOk l.prog w K mg base CX0 1 fNQ _ ["thing"] spNm:=xr FNQ B (PySem.W.mg_of X G aML)
 have gTQ:FnOk l.prog w K mg base CX0 41 fTQ _ ["thing"] (spTm 20):=vh FTQ kTQ bTQ mTQ B (PySem.W.mg_of X G aMC) gIO kIO bIO mIO gNQ kNQ bNQ mNQ FCT kCT bCT mCT 20
 have gFQ:FnOk l.prog w K mg base CX0 4 fFQ _ ["thing"] spFq:=xC FFQ gIO kIO bIO mIO gIW kIW bIW mIW gFR kFR bFR mFR
 have gPQ:FnOk l.prog w K mg base CX0 42 fPQ _ ["thing"] spPr:=xq FPQ gIO kIO bIO mIO gTQ kTQ bTQ mTQ gFQ kFQ bFQ mFQ mZ hZ
 have gSM:FnOk l.prog w K mg base CX0 43 fSM _ ["thing"] spSq:=xm FSM B gPQ kPQ bPQ mPQ
 have gAQ:FnOk l.prog w K mg base CX0 44 fAQ _ ["thing"] spAq:=xE FAQ gIO kIO bIO mIO gNQ kNQ bNQ mNQ gSM kSM bSM mSM gFQ kFQ bFQ mFQ gTQ kTQ bTQ mTQ
 have gWQ:FnOk l.prog w K mg base CX0 66 fWQ _ ["thing"] (spWq 21):=xi FWQ bWQ mWQ B gIO kIO bIO mIO gAQ kAQ bAQ mAQ 21 (Nat.le_refl _)
 have gQK:FnOk l.prog w K mg base CX0 2 fQK _ ["thing"] spIc:=xA FQK gIW kIW bIW mIW
 have gQI:FnOk l.prog w K mg base CX0 67 fQI _ ["thing"] spIt:=xy FQI gWQ kWQ bWQ mWQ
 have gSI:FnOk l.prog w K mg base CX0 1 fSI _ ["one"] spSg:=xp FSI
 have gQP:FnOk l.prog w K mg base CX0 67 fQP _ ["thing"] spIp:=xz FQP B gIO kIO bIO mIO gWQ kWQ bWQ mWQ gFQ kFQ bFQ mFQ gSI kSI bSI mSI
 have gQC:FnOk l.prog w K mg base CX0 42 fQC _ ["thing"] spCh:=xD FQC B (PySem.W.mg_of X G aLC) gTQ kTQ bTQ mTQ
 have gQ1:FnOk l.prog w K mg base CX0 68 fQ1 _ ["kind","inner"] sp1:=ok_1 FQ1 B gQK kQK bQK mQK gQP kQP bQP mQP gTQ kTQ bTQ mTQ gQC kQC bQC mQC
 have gQ2:FnOk l.prog w K mg base CX0 68 fQ2 _ ["kind","one","other"] sp2:=ok_2 FQ2 mZ2 hZ2 gQK kQK bQK mQK gQI kQI bQI mQI gTQ kTQ bTQ mTQ
 have gQS:FnOk l.prog w K mg base CX0 69 fQS _ ["thing"] qC:=vZ FQS gIO kIO bIO mIO gQ1 kQ1 bQ1 mQ1 gQ2 kQ2 bQ2 mQ2 gQK kQK bQK mQK gQI kQI bQI mQI
 have gLN:FnOk l.prog w K mg base CX0 1 fLN _ ["_law_thing_here"] spLn:=xv FLN B
 have gLH:FnOk l.prog w K mg base CX0 67 fLH _ ["_law_thing_here"] spLh:=xw FLH gWQ kWQ bWQ mWQ
 have gLP:FnOk l.prog w K mg base CX0 67 fLP _ ["_law_thing_here"] spLp:=xu FLP B gWQ kWQ bWQ mWQ gFQ kFQ bFQ mFQ
 have gL1:FnOk l.prog w K mg base CX0 68 fLL _ ["_law_things","_law_least","_law_asked"] (iO fLN cnB):=ny FLL B (by decide) gLN kLN bLN fun v p H Q E h1 h2 h3 h4=>⟨v,p,rfl,h1,h4 H (Same.refl H)⟩
 have gL2:FnOk l.prog w K mg base CX0 68 fLL _ ["_law_things","_law_least","_law_asked"] (iO fLP prtB):=ny FLL B (by decide) gLP kLP bLP fun v p H Q E h1 h2 h3 h4=>⟨v,p,rfl,h1,h2,by omega,h4⟩
 have gL3:FnOk l.prog w K mg base CX0 68 fLL _ ["_law_things","_law_least","_law_asked"] (iO fTQ (tmB 20)):=ny FLL B (by decide) gTQ kTQ bTQ fun v p H Q E h1 h2 h3 h4=>⟨v,p,rfl,h1,Ok.sm h2,by omega,h4⟩
 have gLT:FnOk l.prog w K mg base CX0 69 fLT _ ["_law_thing_here"] qD:=w6 (dP:=PySem.W.fnOf "law" "law" (au sLaw) (ao sLaw) (af sLaw) .none kVLA dcLA pmLA anLA cdLA ctLA) FLT B gLN kLN bLN mLN gLH kLH bLH mLH mLP gTQ kTQ bTQ mTQ gL1 gL2 gL3 kLL bLL mLL
 have gB1:=oJ FBE bBE mBE B gDR kDR bDR mDR (l:=12) (by decide) (by decide) 6
 have gB2:=oJ FBE bBE mBE B gDR kDR bDR mDR (l:=13) (by decide) (by decide) 6
 have gNR:FnOk l.prog w K mg base CX0 7 fNR _ ["_law_tape_here","_law_names_here"] mY:=uv FNR gAT kAT bAT mAT gPT kPT bPT mPT gTS kTS bTS mTS gTX kTX bTX mTX
 exact w9 FLA B (uk FTP B) kTP bTP mTP (rM FNM B FDR bDR mDR) kNM bNM mNM gSQ kSQ bSQ mSQ gB1 gB2 kBE bBE mBE gDR kDR bDR mDR gNR kNR bNR mNR gQS kQS bQS mQS gLT kLT bLT mLT
theorem walk {l:PySem.W.OpenLaw} {q:Program} {loose:List Str} {XP:(Str→Option Value)→Heap→Prop} {YP:World→Heap→Prop} {d:DefRec} {K:Params→PySem.W.Frag} (hn:l.most=some 63) (hdf:d.params.defaults= [])
 (hY:∀(w:World) (h:Heap),YP w h→(K w.params).In h)
 (F:∀(w:World) (mg:Str→Option Value) (fa:Addr) (h:Heap),(K w.params).In h→h.Ns mainGlobals mg→mg d.name=some (.ref fa)→
  ∃fd:FuncData,(∀(s:Shared) (u:Value),BindsTo s fd ⟨[u],[]⟩ [("_law_script",u)])∧∀base:Heap,(K w.params).In base→base.Ns mainGlobals mg→FnOk l.prog w (K w.params) mg base CX0 70 fa fd ["_law_script"] (om (K w.params))):
 PySem.W.WalkO q loose XP YP l.row.toRowW d [] (fun f vs=>PySem.call f vs):=
 L2.walk_of (n:=63) (k:=70) (x:="_law_script") (CX:=fun _=>CX0) (sp:=fun w=>om (K w.params)) hn (by decide) hdf ⟨rfl,by decide,by decide,rfl⟩ hY F (fun _ _ a ns hl _ hS=>⟨a,ns,rfl,hS,hl,fun _=>rfl⟩) fun _ _ _ _ _ z=>z
end K23P
def PySem.W.Fast.tw14285928094808003130:Unit:=()
def PySem.W.Fast.tw4610935286802228322:Unit:=()
def PySem.W.Fast.tw17279989036984795461:Unit:=()
def PySem.W.Fast.tw1107971964498320967:Unit:=()
def PySem.W.Fast.tw12620432086911097567:Unit:=()
def PySem.W.Fast.tw16588874292852230781:Unit:=()
def PySem.W.Fast.tw12538047233138189649:Unit:=()
def PySem.W.Fast.tw16794534914059768300:Unit:=()
def PySem.W.Fast.tw6502184841907353744:Unit:=()
def PySem.W.Fast.tw14628203695607999129:Unit:=()
def PySem.W.Fast.tw10061304403848158697:Unit:=()
def PySem.W.Fast.tw12284542950421029846:Unit:=()
def PySem.W.Fast.tw8535845977204766008:Unit:=()
def PySem.W.Fast.tw2688081023897821586:Unit:=()
def PySem.W.Fast.tw7383538446119698579:Unit:=()
def PySem.W.Fast.tw13293344688188522027:Unit:=()
def PySem.W.Fast.tw5772787437227956603:Unit:=()
def PySem.W.Fast.tw262283926305756496:Unit:=()
def PySem.W.Fast.tw3418277809624557396:Unit:=()
def PySem.W.Fast.tw8723138686454612336:Unit:=()
def PySem.W.Fast.tw632687057542782659:Unit:=()
def PySem.W.Fast.tw5237834558454964886:Unit:=()
def PySem.W.Fast.tw4831324410568818293:Unit:=()
def PySem.W.Fast.tw8026505443965345911:Unit:=()
def PySem.W.Fast.tw12617123637054095849:Unit:=()
def PySem.W.Fast.tw16965168159633213663:Unit:=()
def PySem.W.Fast.tw790299568346130035:Unit:=()
def PySem.W.Fast.tw13717663465547571315:Unit:=()
def PySem.W.Fast.tw12601135085616434771:Unit:=()
def PySem.W.Fast.tw8824755924882796871:Unit:=()
def PySem.W.Fast.tw4021335114055878016:Unit:=()
def PySem.W.Fast.tw4740680600319260486:Unit:=()
def PySem.W.Fast.tw5848373908643994322:Unit:=()
def PySem.W.Fast.tw3064703881162091679:Unit:=()
def PySem.W.Fast.tw5497479323303860960:Unit:=()
def PySem.W.Fast.tw7571610206800080309:Unit:=()
def PySem.W.Fast.tw1888432985517034615:Unit:=()
def PySem.W.Fast.tw11529289150508571559:Unit:=()
def PySem.W.Fast.tw17074100125558635519:Unit:=()
def PySem.W.Fast.tw13042301746269492137:Unit:=()
def PySem.W.Fast.tw9943733442877683031:Unit:=()
def PySem.W.Fast.tw11275726242228337469:Unit:=()
def PySem.W.Fast.tw1797382952155641257:Unit:=()
def PySem.W.Fast.tw10273159656215853501:Unit:=()
def PySem.W.Fast.tw9355127556850491014:Unit:=()
def PySem.W.Fast.tw5089899117459715098:Unit:=()
def PySem.W.Fast.tw10154705004488446552:Unit:=()
def PySem.W.Fast.tw1999458250316340673:Unit:=()
def PySem.W.Fast.tw10521752941084445672:Unit:=()
def PySem.W.Fast.tw8134103239259572224:Unit:=()
def PySem.W.Fast.tw12059186466074035949:Unit:=()
def PySem.W.Fast.tw3300064623156025448:Unit:=()
def PySem.W.Fast.tw16492790722238027083:Unit:=()
def PySem.W.Fast.tw498759967419429675:Unit:=()
def PySem.W.Fast.tw11353818868431690242:Unit:=()
def PySem.W.Fast.tw5054740994636779255:Unit:=()
def PySem.W.Fast.tw60783414559093412:Unit:=()
def PySem.W.Fast.tw6301569567536993943:Unit:=()
def PySem.W.Fast.tw9931889189020454983:Unit:=()
def PySem.W.Fast.tw10916741854107977004:Unit:=()
def PySem.W.Fast.tw6531528478322272037:Unit:=()
def PySem.W.Fast.tw15131387827475592686:Unit:=()
def PySem.W.Fast.tw5829861406686364765:Unit:=()
def PySem.W.Fast.tw7171745828275250774:Unit:=()
def PySem.W.Fast.tw13241723626626820015:Unit:=()
def PySem.W.Fast.tw11502804232310722626:Unit:=()
def PySem.W.Fast.tw14266707912081818671:Unit:=()
def PySem.W.Fast.tw16424119543559576281:Unit:=()
def PySem.W.Fast.tw13308895522812770359:Unit:=()
open PySem PySem.W PyProof.Rows
set_option maxRecDepth 100000 in
set_option maxHeartbeats 0 in
theorem PySem.Challenge.cw_smallword_k23_steps_by_their_form_holds : PySem.Challenge.rw_smallword_k23_steps_by_their_form.Holds := by
  w_on; o_law; k_head; (case hw => w_witness2)
  k_fill
  refine K23P.walk (l := PySem.Challenge.rw_smallword_k23_steps_by_their_form) rfl rfl (fun w h Y => PySem.W.kIn_of Y) ?F
  case F =>
    intro w mg fa h KX G hmg
    refine' K23P.all_mk KX G hmg ?aC ?iI ?fnI ?lI ?cI ?kI ?aCD ?lCD ?cCD ?kCD ?aFR ?lFR ?cFR ?kFR ?aPL ?lPL ?cPL ?kPL ?aTX ?lTX ?cTX ?kTX ?aMI ?lMI ?cMI ?kMI ?aPD ?lPD ?cPD ?kPD ?aCO ?lCO ?cCO ?kCO ?aSI ?lSI ?cSI ?kSI ?aSU ?lSU ?cSU ?kSU ?aSP ?lSP ?cSP ?kSP ?aST ?lST ?cST ?kST ?aIW ?lIW ?cIW ?kIW ?aIO ?lIO ?cIO ?kIO ?aNQ ?lNQ ?cNQ ?kNQ ?aFQ ?lFQ ?cFQ ?kFQ ?aTQ ?lTQ ?cTQ ?kTQ ?aCT ?lCT ?cCT ?kCT ?aPQ ?lPQ ?cPQ ?kPQ ?aSM ?lSM ?cSM ?kSM ?aAQ ?lAQ ?cAQ ?kAQ ?aWQ ?lWQ ?cWQ ?kWQ ?aQK ?lQK ?cQK ?kQK ?aQI ?lQI ?cQI ?kQI ?aQP ?lQP ?cQP ?kQP ?aQC ?lQC ?cQC ?kQC ?aQ1 ?lQ1 ?cQ1 ?kQ1 ?aQ2 ?lQ2 ?cQ2 ?kQ2 ?aQS ?lQS ?cQS ?kQS ?aTP ?lTP ?cTP ?kTP ?aDR ?lDR ?cDR ?kDR ?aNM ?lNM ?cNM ?kNM ?aWH ?lWH ?cWH ?kWH ?aSH ?lSH ?cSH ?kSH ?aTE ?lTE ?cTE ?kTE ?aLS ?lLS ?cLS ?kLS ?aAT ?lAT ?cAT ?kAT ?aWI ?lWI ?cWI ?kWI ?aFW ?lFW ?cFW ?kFW ?aPT ?lPT ?cPT ?kPT ?aSG ?lSG ?cSG ?kSG ?aTO ?lTO ?cTO ?kTO ?aPS ?lPS ?cPS ?kPS ?aTH ?lTH ?cTH ?kTH ?aTS ?lTS ?cTS ?kTS ?aSQ ?lSQ ?cSQ ?kSQ ?aPR ?lPR ?cPR ?kPR ?aBE ?lBE ?cBE ?kBE ?aNR ?lNR ?cNR ?kNR ?aLN ?lLN ?cLN ?kLN ?aLH ?lLH ?cLH ?kLH ?aLP ?lLP ?cLP ?kLP ?aLL ?lLL ?cLL ?kLL ?aLT ?lLT ?cLT ?kLT ?aLA ?lLA ?cLA ?kLA ?kC ?lC ?aZ ?lZ ?aML ?aMC ?aLC ?aZ2 ?lZ2 ?z_abs ?z_len ?z_range ?z_isinstance ?z_tuple ?z_int ?z_bool ?z_list ?z_str ?z_all ?z_any ?z_zip ?z_sorted ?z_ValueError ?ln
    (case aC => k_is); (case iI => k_is); (case fnI => k_is); (case lI => k_is); (case cI => k_is); (case kI => k_is); (case aCD => k_is); (case lCD => k_is)
    (case cCD => k_is); (case kCD => k_is); (case aFR => k_is); (case lFR => k_is); (case cFR => k_is); (case kFR => k_is); (case aPL => k_is); (case lPL => k_is)
    (case cPL => k_is); (case kPL => k_is); (case aTX => k_is); (case lTX => k_is); (case cTX => k_is); (case kTX => k_is); (case aMI => k_is); (case lMI => k_is)
    (case cMI => k_is); (case kMI => k_is); (case aPD => k_is); (case lPD => k_is); (case cPD => k_is); (case kPD => k_is); (case aCO => k_is); (case lCO => k_is)
    (case cCO => k_is); (case kCO => k_is); (case aSI => k_is); (case lSI => k_is); (case cSI => k_is); (case kSI => k_is); (case aSU => k_is); (case lSU => k_is)
    (case cSU => k_is); (case kSU => k_is); (case aSP => k_is); (case lSP => k_is); (case cSP => k_is); (case kSP => k_is); (case aST => k_is); (case lST => k_is)
    (case cST => k_is); (case kST => k_is); (case aIW => k_is); (case lIW => k_is); (case cIW => k_is); (case kIW => k_is); (case aIO => k_is); (case lIO => k_is)
    (case cIO => k_is); (case kIO => k_is); (case aNQ => k_is); (case lNQ => k_is); (case cNQ => k_is); (case kNQ => k_is); (case aFQ => k_is); (case lFQ => k_is)
    (case cFQ => k_is); (case kFQ => k_is); (case aTQ => k_is); (case lTQ => k_is); (case cTQ => k_is); (case kTQ => k_is); (case aCT => k_is); (case lCT => k_is)
    (case cCT => k_is); (case kCT => k_is); (case aPQ => k_is); (case lPQ => k_is); (case cPQ => k_is); (case kPQ => k_is); (case aSM => k_is); (case lSM => k_is)
    (case cSM => k_is); (case kSM => k_is); (case aAQ => k_is); (case lAQ => k_is); (case cAQ => k_is); (case kAQ => k_is); (case aWQ => k_is); (case lWQ => k_is)
    (case cWQ => k_is); (case kWQ => k_is); (case aQK => k_is); (case lQK => k_is); (case cQK => k_is); (case kQK => k_is); (case aQI => k_is); (case lQI => k_is)
    (case cQI => k_is); (case kQI => k_is); (case aQP => k_is); (case lQP => k_is); (case cQP => k_is); (case kQP => k_is); (case aQC => k_is); (case lQC => k_is)
    (case cQC => k_is); (case kQC => k_is); (case aQ1 => k_is); (case lQ1 => k_is); (case cQ1 => k_is); (case kQ1 => k_is); (case aQ2 => k_is); (case lQ2 => k_is)
    (case cQ2 => k_is); (case kQ2 => k_is); (case aQS => k_is); (case lQS => k_is); (case cQS => k_is); (case kQS => k_is); (case aTP => k_is); (case lTP => k_is)
    (case cTP => k_is); (case kTP => k_is); (case aDR => k_is); (case lDR => k_is); (case cDR => k_is); (case kDR => k_is); (case aNM => k_is); (case lNM => k_is)
    (case cNM => k_is); (case kNM => k_is); (case aWH => k_is); (case lWH => k_is); (case cWH => k_is); (case kWH => k_is); (case aSH => k_is); (case lSH => k_is)
    (case cSH => k_is); (case kSH => k_is); (case aTE => k_is); (case lTE => k_is); (case cTE => k_is); (case kTE => k_is); (case aLS => k_is); (case lLS => k_is)
    (case cLS => k_is); (case kLS => k_is); (case aAT => k_is); (case lAT => k_is); (case cAT => k_is); (case kAT => k_is); (case aWI => k_is); (case lWI => k_is)
    (case cWI => k_is); (case kWI => k_is); (case aFW => k_is); (case lFW => k_is); (case cFW => k_is); (case kFW => k_is); (case aPT => k_is); (case lPT => k_is)
    (case cPT => k_is); (case kPT => k_is); (case aSG => k_is); (case lSG => k_is); (case cSG => k_is); (case kSG => k_is); (case aTO => k_is); (case lTO => k_is)
    (case cTO => k_is); (case kTO => k_is); (case aPS => k_is); (case lPS => k_is); (case cPS => k_is); (case kPS => k_is); (case aTH => k_is); (case lTH => k_is)
    (case cTH => k_is); (case kTH => k_is); (case aTS => k_is); (case lTS => k_is); (case cTS => k_is); (case kTS => k_is); (case aSQ => k_is); (case lSQ => k_is)
    (case cSQ => k_is); (case kSQ => k_is); (case aPR => k_is); (case lPR => k_is); (case cPR => k_is); (case kPR => k_is); (case aBE => k_is); (case lBE => k_is)
    (case cBE => k_is); (case kBE => k_is); (case aNR => k_is); (case lNR => k_is); (case cNR => k_is); (case kNR => k_is); (case aLN => k_is); (case lLN => k_is)
    (case cLN => k_is); (case kLN => k_is); (case aLH => k_is); (case lLH => k_is); (case cLH => k_is); (case kLH => k_is); (case aLP => k_is); (case lLP => k_is)
    (case cLP => k_is); (case kLP => k_is); (case aLL => k_is); (case lLL => k_is); (case cLL => k_is); (case kLL => k_is); (case aLT => k_is); (case lLT => k_is)
    (case cLT => k_is); (case kLT => k_is); (case aLA => k_is); (case lLA => k_is); (case cLA => k_is); (case kLA => k_is); (case kC => k_is); (case lC => k_is)
    (case aZ => k_is); (case lZ => k_is); (case aML => k_is); (case aMC => k_is); (case aLC => k_is); (case aZ2 => k_is); (case lZ2 => k_is); (case z_abs => k_is)
    (case z_len => k_is); (case z_range => k_is); (case z_isinstance => k_is); (case z_tuple => k_is); (case z_int => k_is); (case z_bool => k_is); (case z_list => k_is); (case z_str => k_is)
    (case z_all => k_is); (case z_any => k_is); (case z_zip => k_is); (case z_sorted => k_is); (case z_ValueError => k_is)
    (case ln => exact ⟨by decide, by decide, by decide, by decide⟩)
