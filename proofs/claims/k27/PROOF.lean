import PyProof.Rows.All
import Wide.All
import OpenK.AllK
import Wide.FinOn
import Lean
import PyProof.EqAt
import PyProof.EqKinds
import PyProof.TupleCall
import KE.KSortTup
import PyProof.NeKinds
import PyProof.DictRoadsH
import PyProof.ZipIter
import KE.LcSums
import KE.KListMore
import KE.KIntText
import KE.KRevIter
import PyProof.Rows.Range3
import PyProof.NsDelKeeps
import PySem.Challenge.RW_smallword_k27_what_sums_and_likenings_ha
set_option Elab.async false
set_option linter.all false
set_option maxRecDepth 100000
set_option maxHeartbeats 8000000
namespace L2
open PySem PySem.Spec PyProof.Rows
abbrev Key:=Sum Int Str
noncomputable def fg:Key→Value→Bool
 | .inl k,v=>Value.isInt k v
 | .inr x,v=>Value.isStrOf x v
noncomputable def keyH (w:World):Key→Int
 | .inl k=>hashInt k
 | .inr x=>hashStr w x
theorem aF:∀ {k:Key} {v:Value},fg k v=true→(∃i t,k=Sum.inl i∧v=Value.int i t)∨(∃x t,k=Sum.inr x∧v=Value.str x t)
 | .inl i,v,h=>by
  obtain ⟨t,e⟩:=Value.isInt_shape (k:=i) (v:=v) h
  exact .inl ⟨i,t,rfl,e⟩
 | .inr x,v,h=>by
  obtain ⟨t,e⟩:=Value.isStrOf_shape (x:=x) (v:=v) h
  exact .inr ⟨x,t,rfl,e⟩
theorem ic (i:Int) (t:Tok):fg (.inl i) (.int i t)=true:=by simp [fg,Value.isInt]
theorem i9 (x:Str) (t:Tok):fg (.inr x) (.str x t)=true:=by simp [fg,Value.isStrOf]
theorem ug (a b:Int):decide ((Sum.inl a:Key)=Sum.inl b)=(a==b):=by
 by_cases e:a=b
 · subst e;simp
 · have h:¬(Sum.inl a:Key)=Sum.inl b:=fun q=>e (Sum.inl.inj q)
   rw [decide_eq_false h]
   exact (beq_eq_false_iff_ne.mpr e).symm
theorem uc (a b:Str):decide ((Sum.inr a:Key)=Sum.inr b)=decide (a=b):=by
 by_cases e:a=b
 · subst e;simp
 · have h:¬(Sum.inr a:Key)=Sum.inr b:=fun q=>e (Sum.inr.inj q)
   rw [decide_eq_false h,decide_eq_false e]
theorem uf (a:Int) (b:Str):decide ((Sum.inl a:Key)=Sum.inr b)=false:=decide_eq_false (fun q=>nomatch q)
theorem ue (a:Str) (b:Int):decide ((Sum.inr a:Key)=Sum.inl b)=false:=decide_eq_false (fun q=>nomatch q)
noncomputable def aN (prog:Program) (w:World):PySem.KeyKind prog w Key where
 is:=fg
 hash:=keyH w
 inj:=fun v a b ha hb=>by
  rcases aF ha with ⟨i,t,rfl,rfl⟩|⟨x,t,rfl,rfl⟩
  · rcases aF hb with ⟨j,u,rfl,e⟩|⟨y,u,rfl,e⟩
    · injection e with e1 _;rw [e1]
    · exact nomatch e
  · rcases aF hb with ⟨j,u,rfl,e⟩|⟨y,u,rfl,e⟩
    · exact nomatch e
    · injection e with e1 _;rw [e1]
 byValue:=fun k v h=>by
  rcases aF h with ⟨i,t,rfl,rfl⟩|⟨x,t,rfl,rfl⟩<;>rfl
 pyHash:=fun hv h=>by
  rcases aF hv with ⟨i,t,rfl,rfl⟩|⟨x,t,rfl,rfl⟩
  · exact wpAny_pyHash_int h
  · exact wpAny_pyHash_str h
 eqBool:=fun hu hv h=>by
  rcases aF hu with ⟨i,t,rfl,rfl⟩|⟨x,t,rfl,rfl⟩
  · rcases aF hv with ⟨j,u,rfl,rfl⟩|⟨y,u,rfl,rfl⟩
    · rw [ug] at h;exact wpAny_eqBool_int h
    · rw [uf] at h;exact SeqAt.EqAt.int_str i t y u _ _ _ _ h
  · rcases aF hv with ⟨j,u,rfl,rfl⟩|⟨y,u,rfl,rfl⟩
    · rw [ue] at h;exact SeqAt.EqAt.str_int x t j u _ _ _ _ h
    · rw [uc] at h;exact wpAny_eqBool_str h
 «strs»:=fun k x t v h=>by
  rcases aF h with ⟨i,u,rfl,e⟩|⟨y,u,rfl,e⟩
  · exact nomatch e
  · injection e with e1 _
    subst e1
    cases v<;>rfl
theorem jC (prog:Program) (w:World) (i:Int) (t:Tok):(aN prog w).is (.inl i) (.int i t)=true:=ic i t
theorem jB (prog:Program) (w:World) (x:Str) (t:Tok):(aN prog w).is (.inr x) (.str x t)=true:=i9 x t
open PySem PySem.Spec PyProof.Rows
inductive V where
 |non|bl (b:Bool)|int (i:Int)|str (x:Str)|byt (b:Array UInt8)|flt (b:UInt64)|ref (a:Addr)|ty (n:String)
 deriving DecidableEq
def RelV:V→Value→Prop
 | .non,u=>u=Value.none
 | .bl b,u=>u=Value.bool b
 | .int i,u=>∃t,u=Value.int i t
 | .str x,u=>∃t,u=Value.str x t
 | .byt b,u=>∃t,u=Value.bytes b t
 | .flt b,u=>∃t,u=Value.float b t
 | .ref a,u=>u=Value.ref a
 | .ty n,u=>u=Value.type n
abbrev Vals:List V→List Value→Prop:=Paired RelV
theorem Vals.length {xs:List V} {us:List Value} (r:Vals xs us):xs.length=us.length:=Paired.length r
theorem Vals.get:∀ {xs:List V} {us:List Value} {i:Nat} {x:V},Vals xs us→xs[i]?=some x→∃u,us[i]?=some u∧RelV x u
 |_,_,_,_, .nil,e=>by simp at e
 |_,_,0,_, .cons r _,e=>by simp at e;subst e;exact ⟨_,rfl,r⟩
 |_,_,i+1,x, .cons _ t,e=>by
  obtain ⟨u,h1,h2⟩:=Vals.get (i:=i) (x:=x) t (by simpa using e)
  exact ⟨u,by simpa using h1,h2⟩
theorem Vals.set {x:V} {u:Value} (r:RelV x u):∀ {xs:List V} {us:List Value} (i:Nat),Vals xs us→Vals (xs.set i x) (us.set i u)
 |_,_,_, .nil=> .nil
 |_,_,0, .cons _ t=> .cons r t
 |_,_,i+1, .cons q t=> .cons q (Vals.set r i t)
theorem Vals.append:∀ {xs ys:List V} {us ws:List Value},Vals xs us→Vals ys ws→Vals (xs++ys) (us++ws)
 |_,_,_,_, .nil,s=>s
 |_,_,_,_, .cons r t,s=> .cons r (Vals.append t s)
theorem Vals.take:∀ {xs:List V} {us:List Value} (n:Nat),Vals xs us→Vals (xs.take n) (us.take n)
 |_,_,0,_=> .nil
 |_,_,_+1, .nil=> .nil
 |_,_,n+1, .cons r t=> .cons r (Vals.take n t)
theorem Vals.drop:∀ {xs:List V} {us:List Value} (n:Nat),Vals xs us→Vals (xs.drop n) (us.drop n)
 |_,_,0,r=>r
 |_,_,_+1, .nil=> .nil
 |_,_,n+1, .cons _ t=>Vals.drop n t
def RelO:Option V→Option Value→Prop
 |some v,some u=>RelV v u
 |none,none=>True
 |_,_=>False
def KV {κ:Type}:List (κ×V)→List (κ×Value)→Prop:=Paired fun (p:κ×V) (q:κ×Value)=>p.1=q.1∧RelV p.2 q.2
def kV:Key→V
 | .inl i=> .int i
 | .inr x=> .str x
inductive HO where
 |lst (xs:List V)
 |tup (xs:List V)
 |dK (kvs:List (Key×V))|dT (kvs:List (List Key×V))
 |set (S:Int→Bool) (n:Nat)
 |ins (C dx:Addr) (fs:List (Str×V))
 |own (x:Addr)
 |xd (fs:List (Str×V))
 |met (f x:Addr)
 |rng (lo hi:Int)
 |frz (o:Obj) (u:HO)
 |tbl (ps:Array Value)
 |ext (φ:Heap→Prop)
abbrev Hp:=Addr→Option HO
noncomputable def upd (H:Hp) (a:Addr) (o:HO):Hp:=fun b=>if b=a then some o else H b
theorem a9 {H:Hp} {a:Addr} {o:HO}:upd H a o a=some o:=by unfold upd;rw [if_pos rfl]
theorem ai {H:Hp} {a b:Addr} {o:HO} (h:b≠a):upd H a o b=H b:=by unfold upd;rw [if_neg h]
theorem vb {H:Hp} {a b:Addr} {o u:HO} (h:H a=some o) (h':H b=some u) (d:o≠u):a≠b:=by
 intro e;subst e;rw [h] at h';exact d (Option.some.inj h')
theorem aD {H:Hp} {a b:Addr} {o:HO} (h:H a=some o) (h':H b=none):a≠b:=by
 intro e;subst e;rw [h] at h';cases h'
section
variable (P:Program) (w:World)
def ObjOk (H:Hp) (h:Heap) (a:Addr):HO→Prop
 | .lst xs=>xs.length≤sizeLine∧∃(its:List Value) (n:Nat),Vals xs its∧h.get? a=some {cls:= .type "list",data:= .seq its.toArray n}
 | .tup xs=>xs.length≤sizeLine∧∃its:List Value,Vals xs its∧IsTup h a its.toArray
 | .dK kvs=>kvs.length≤sizeLine∧(a==sysModules)=false∧∃vs,KV kvs vs∧h.DictOf (aN P w) a vs
 | .dT kvs=>kvs.length≤sizeLine∧(a==sysModules)=false∧∃xs:List (List Key×Addr×Value),
  Paired (fun (p:List Key×V) (q:List Key×Addr×Value)=>p.1=q.1∧H q.2.1=some (.tup (p.1.map kV))∧RelV p.2 q.2.2) kvs xs∧
  ∃o es ep,h.get? a=some o∧o.ExactDict∧o.data= .dict es ep∧es.toList=xs.map (entryOfKey (tupleKind (aN P w)))∧(xs.map (·.1)).Nodup
 | .set S n=>h.SetOf (intKind P w) a S n
 | .ins C dx fs=>H dx=some (.own a)∧fs.length≤1000∧dx≠a∧h.get? a=some (PySem.W.instObj C dx)∧
  ∃mA,h.Ns1 dx mA∧(∀f,RelO (fs.lookup f) (mA f))∧PySem.Within mA (fs.map (·.1))
 | .own _=>∃o,h.get? a=some o
 | .xd fs=>∃mA,h.Ns1 a mA∧∀f,RelO (fs.lookup f) (mA f)
 | .rng lo hi=>∃t u v,h.get? a=some {cls:= .type "range",data:= .fields #[.int lo t, .int hi u, .int 1 v]}
 | .frz o u=>h.get? a=some o∧ObjOk H h a u
 | .tbl ps=>h.get? a=some {cls:= .none,data:= .fields ps}
 | .met f x=>h.get? a=some (PySem.W.methodObj (.ref f) (.ref x))
 | .ext φ=>φ h∧(∃o,h.get? a=some o)∧∀h1 h2:Heap,φ h1→(∀o,h1.get? a=some o→h2.get? a=some o)→φ h2
def HOk (H:Hp) (h:Heap):Prop:=∀a o,H a=some o→ObjOk P w H h a o
end
section
variable {P:Program} {w:World} {H H':Hp} {h h':Heap} {a:Addr} {o:HO}
theorem ObjOk.lt (x:ObjOk P w H h a o):a < h.objs.size:=by
 cases o with
 |lst xs=>obtain ⟨_,_,_,_,e⟩:=x;exact Heap.lt_size e
 |tup xs=>obtain ⟨_,_,_,p⟩:=x;exact p.lt
 |dK kvs=>obtain ⟨_,_,_,_,o,_,_,e,_⟩:=x;exact Heap.lt_size e
 |dT kvs=>obtain ⟨_,_,_,_,o,_,_,e,_⟩:=x;exact Heap.lt_size e
 |set S n=>obtain ⟨o,_,_,_,e,_⟩:=x;exact Heap.lt_size e
 |ins C dx fs=>obtain ⟨_,_,_,e,_⟩:=x;exact Heap.lt_size e
 |own y=>obtain ⟨_,e⟩:=x;exact Heap.lt_size e
 |xd fs=>obtain ⟨_,⟨_,_,_,e,_⟩,_⟩:=x;exact Heap.lt_size e
 |rng lo hi=>obtain ⟨_,_,_,e⟩:=x;exact Heap.lt_size e
 |frz ob u=>obtain ⟨e,_⟩:=x;exact Heap.lt_size e
 |tbl ps=>exact Heap.lt_size (show h.get? a=some _ from x)
 |met f y=>exact Heap.lt_size (show h.get? a=some _ from x)
 |ext φ=>obtain ⟨_,⟨_,e⟩,_⟩:=x;exact Heap.lt_size e
theorem Paired.mapP {α β:Type} {F G:α→β→Prop}:∀ {l₁:List α} {l₂:List β},Paired F l₁ l₂→(∀a b,F a b→G a b)→Paired G l₁ l₂
 |_,_, .nil,_=> .nil
 |_,_, .cons r t,f=> .cons (f _ _ r) (Paired.mapP t f)
theorem ObjOk.stay (x:ObjOk P w H h a o) (k:∀b u,(b=a∨H b=some (.own a))→h.get? b=some u→h'.get? b=some u)
 (ho:∀b,H b=some (.own a)→H' b=some (.own a)) (ht:∀b xs,H b=some (.tup xs)→H' b=some (.tup xs)):ObjOk P w H' h' a o:=by
 induction o with
 |lst xs=>obtain ⟨z,its,n,r,e⟩:=x;exact ⟨z,its,n,r,k _ _ (.inl rfl) e⟩
 |tup xs=>obtain ⟨z,its,r,ob,e,c⟩:=x;exact ⟨z,its,r,ob,k _ _ (.inl rfl) e,c⟩
 |dK kvs=>obtain ⟨z,y,vs,r,ob,es,ep,e,c⟩:=x;exact ⟨z,y,vs,r,ob,es,ep,k _ _ (.inl rfl) e,c⟩
 |dT kvs=>
  obtain ⟨z,y,xs,r,ob,es,ep,e,c⟩:=x
  exact ⟨z,y,xs,Paired.mapP r fun p q z=>⟨z.1,ht _ _ z.2.1,z.2.2⟩,ob,es,ep,k _ _ (.inl rfl) e,c⟩
 |set S n=>obtain ⟨ob,es,ep,t,e,c⟩:=x;exact ⟨ob,es,ep,t,k _ _ (.inl rfl) e,c⟩
 |ins C dx fs=>
  obtain ⟨d,z,ne,e,mA,⟨od,es,ep,e2,c⟩,r⟩:=x
  exact ⟨ho _ d,z,ne,k _ _ (.inl rfl) e,mA,⟨od,es,ep,k _ _ (.inr d) e2,c⟩,r⟩
 |own y=>obtain ⟨ob,e⟩:=x;exact ⟨ob,k _ _ (.inl rfl) e⟩
 |xd fs=>obtain ⟨mA,⟨od,es,ep,e,c⟩,r⟩:=x;exact ⟨mA,⟨od,es,ep,k _ _ (.inl rfl) e,c⟩,r⟩
 |rng lo hi=>obtain ⟨t,u,v,e⟩:=x;exact ⟨t,u,v,k _ _ (.inl rfl) e⟩
 |frz ob u ih=>obtain ⟨e,q⟩:=x;exact ⟨k _ _ (.inl rfl) e,ih q⟩
 |tbl ps=>
  have e:h.get? a=some {cls:= .none,data:= .fields ps}:=x
  show h'.get? a=some {cls:= .none,data:= .fields ps}
  exact k a _ (.inl rfl) e
 |met f y=>
  have e:h.get? a=some (PySem.W.methodObj (.ref f) (.ref y)):=x
  show h'.get? a=some (PySem.W.methodObj (.ref f) (.ref y))
  exact k a _ (.inl rfl) e
 |ext φ=>obtain ⟨p,⟨o,e⟩,st⟩:=x;exact ⟨st _ _ p fun o q=>k _ _ (.inl rfl) q,⟨o,k _ _ (.inl rfl) e⟩,st⟩
theorem HOk.lt (x:HOk P w H h) (e:H a=some o):a < h.objs.size:=(x a o e).lt
theorem HOk.fresh (x:HOk P w H h) (e:h.objs.size≤a):H a=none:=by
 cases q:H a with
 |none=>rfl
 |some u=>exact absurd (Nat.lt_of_lt_of_le (x.lt q) e) (Nat.lt_irrefl _)
theorem HOk.kept (x:HOk P w H h) (k:∀b u,h.get? b=some u→h'.get? b=some u):HOk P w H h':=fun a o e=>
 (x a o e).stay (fun b u _ q=>k b u q) (fun _ q=>q) fun _ _ q=>q
theorem HOk.laid (x:HOk P w H h) (k:∀b u,h.get? b=some u→h'.get? b=some u) (hp:h.objs.size≤a) (new:ObjOk P w (upd H a o) h' a o):HOk P w (upd H a o) h':=fun b u e=>by
 have hn:=x.fresh hp
 by_cases hb:b=a
 · subst hb;rw [a9] at e;cases e;exact new
 · rw [ai hb] at e
   exact (x b u e).stay (fun c v _ q=>k c v q) (fun c q=>by rw [ai (aD q hn)];exact q) fun c xs q=>by rw [ai (aD q hn)];exact q
end
def Rd (H:Hp) (a:Addr) (u:HO):Prop:=H a=some u∨∃o,H a=some (.frz o u)
theorem Rd.of {H:Hp} {a:Addr} {u:HO} (h:H a=some u):Rd H a u:= .inl h
theorem Rd.ok {P:Program} {w:World} {H:Hp} {h:Heap} {a:Addr} {u:HO} (r:Rd H a u) (x:HOk P w H h):ObjOk P w H h a u:=by
 rcases r with r|⟨o,r⟩
 · exact x a u r
 · obtain ⟨_,q⟩:=x a _ r
   exact q
def Mut:Option HO→Prop
 |some (.lst _)=>True
 |some (.dK _)=>True
 |some (.dT _)=>True
 |some (.set _ _)=>True
 |some (.ins _ _ _)=>True
 |some (.ext _)=>True
 |_=>False
section
variable {P:Program} {w:World} {H:Hp} {h h':Heap} {x e:Addr} {o':HO}
theorem HOk.write (ok:HOk P w H h) (mu:Mut (H x)) (he:e=x∨H e=some (.own x)) (k:∀b u,b≠e→h.get? b=some u→h'.get? b=some u) (heo:∃u,h'.get? e=some u)
 (new:ObjOk P w (upd H x o') h' x o'):HOk P w (upd H x o') h':=fun b u q=>by
 have nown:∀c y,H c=some (.own y)→c≠x:=fun c y r z=>by subst z;rw [r] at mu;exact mu
 have ntup:∀c xs,H c=some (.tup xs)→c≠x:=fun c xs r z=>by subst z;rw [r] at mu;exact mu
 by_cases hb:b=x
 · subst hb;rw [a9] at q;cases q;exact new
 · rw [ai hb] at q
   by_cases hbe:b=e
   · have q':H b=some (.own x):=by
      rcases he with z|z
      · exact absurd (hbe.trans z) hb
      · rw [hbe];exact z
     rw [q] at q';cases q'
     obtain ⟨v,hv⟩:=heo
     exact ⟨v,by rw [hbe];exact hv⟩
   · refine (ok b u q).stay (fun c v hc r=>k c v ?_ r) (fun c r=>by rw [ai (nown c b r)];exact r) fun c xs r=>by rw [ai (ntup c xs r)];exact r
     rcases hc with rfl|hc
     · exact hbe
     · rintro rfl
       rcases he with z|z
       · exact nown c b hc z
       · rw [hc] at z;cases z;exact hb rfl
end
def Idl (x:Option HO):Prop:=x=none∨∃xs,x=some (.tup xs)
theorem Idl.no {x:Option HO} (h:x=none):Idl x:= .inl h
structure Un (fs ex:List Addr) (H H':Hp) (h h':Heap):Prop where
 keep:∀b o,h.get? b=some o→Idl (H b)→b∉fs→b∉ex→h'.get? b=some o
 slot:∀b o,h.get? b=some o→H b=none→b∈fs→b∉ex→∃sl,h'.get? b=some {o with slots:=sl}
 free:∀b o,h.get? b=some o→H b=none→b∉ex→H' b=none
 there:∀b o,h.get? b=some o→b∉ex→∃o',h'.get? b=some o'
 tups:∀b xs,H b=some (.tup xs)→H' b=some (.tup xs)
 frzs:∀b o u,H b=some (.frz o u)→H' b=some (.frz o u)
 tbls:∀b ps,H b=some (.tbl ps)→∃more,H' b=some (.tbl (ps++more))
section
variable {fs fs' ex ex':List Addr} {H H1 H2:Hp} {h h1 h2 h':Heap} {a x e:Addr} {o:HO}
theorem Un.any (u:Un fs ex H H1 h h1) {b:Addr} {ob:Obj} (q:h.get? b=some ob) (n:H b=none) (hx:b∉ex):∃sl,h1.get? b=some {ob with slots:=sl}:=by
 by_cases hb:b∈fs
 · exact u.slot b ob q n hb hx
 · exact ⟨ob.slots,u.keep b ob q (.inl n) hb hx⟩
theorem Un.idl (u:Un fs ex H H1 h h1) {b:Addr} {ob:Obj} (q:h.get? b=some ob) (n:Idl (H b)) (hx:b∉ex):Idl (H1 b):=by
 rcases n with n|⟨xs,n⟩
 · exact .inl (u.free b ob q n hx)
 · exact .inr ⟨xs,u.tups b xs n⟩
theorem Un.trans (a:Un fs ex H H1 h h1) (b:Un fs ex H1 H2 h1 h2):Un fs ex H H2 h h2 where
 keep:=fun c ob q n hc hx=>b.keep c ob (a.keep c ob q n hc hx) (a.idl q n hx) hc hx
 slot:=fun c ob q n hc hx=>by
  obtain ⟨sl,e1⟩:=a.slot c ob q n hc hx
  obtain ⟨sl',e2⟩:=b.slot c _ e1 (a.free c ob q n hx) hc hx
  exact ⟨sl',e2⟩
 free:=fun c ob q n hx=>by
  obtain ⟨o',e1⟩:=a.there c ob q hx
  exact b.free c o' e1 (a.free c ob q n hx) hx
 there:=fun c ob q hx=>by
  obtain ⟨o',e1⟩:=a.there c ob q hx
  exact b.there c o' e1 hx
 tups:=fun c xs q=>b.tups c xs (a.tups c xs q)
 frzs:=fun c ob xs q=>b.frzs c ob xs (a.frzs c ob xs q)
 tbls:=fun c ps q=>by
  obtain ⟨m1,e1⟩:=a.tbls c ps q
  obtain ⟨m2,e2⟩:=b.tbls c _ e1
  exact ⟨m1++m2,by rw [e2,Array.append_assoc]⟩
theorem Un.kept (k:∀b u,h.get? b=some u→h'.get? b=some u):Un fs ex H H h h':=
 ⟨fun b ob q _ _ _=>k b ob q,fun b ob q _ _ _=>⟨ob.slots,k b ob q⟩,fun _ _ _ n _=>n,fun b ob q _=>⟨ob,k b ob q⟩,fun _ _ q=>q,fun _ _ _ q=>q,fun _ ps q=>⟨#[],by rw [q];simp⟩⟩
theorem Un.refl:Un fs ex H H h h:=Un.kept fun _ _ q=>q
theorem Un.laid (k:∀b u,h.get? b=some u→h'.get? b=some u) (hp:h.objs.size≤a) (hn:H a=none):Un fs ex H (upd H a o) h h' where
 keep:=fun b u q _ _ _=>k b u q
 slot:=fun b u q _ _ _=>⟨u.slots,k b u q⟩
 free:=fun b u q n _=>by rw [ai (Nat.ne_of_lt (Nat.lt_of_lt_of_le (Heap.lt_size q) hp))];exact n
 there:=fun b u q _=>⟨u,k b u q⟩
 tups:=fun b xs q=>by rw [ai (aD q hn)];exact q
 frzs:=fun b u xs q=>by rw [ai (aD q hn)];exact q
 tbls:=fun b ps q=>⟨#[],by rw [ai (aD q hn),q];simp⟩
theorem Un.write (mu:Mut (H x)) (he:e=x∨H e=some (.own x)) (k:∀b u,b≠e→h.get? b=some u→h'.get? b=some u) (heo:∃u,h'.get? e=some u):Un fs ex H (upd H x o) h h':=by
 have hx:∀b,H b=none→b≠x:=fun b n z=>by subst z;rw [n] at mu;exact mu
 have hb:∀b,H b=none→b≠e:=fun b n z=>by
  subst z
  rcases he with r|r
  · exact hx b n r
  · rw [n] at r;cases r
 have hi:∀b,Idl (H b)→b≠e:=fun b n z=>by
  rcases n with n|⟨xs,n⟩
  · exact hb b n z
  · subst z
    rcases he with r|r
    · subst r
      rw [n] at mu
      exact mu
    · rw [n] at r;cases r
 have hm:∀b u,H b=some u→¬Mut (some u)→b≠x:=fun b u q nm z=>by subst z;rw [q] at mu;exact nm mu
 refine ⟨fun b u q n _ _=>k b u (hi b n) q,fun b u q n _ _=>⟨u.slots,k b u (hb b n) q⟩,fun b u q n _=>by rw [ai (hx b n)];exact n,fun b u q _=> ?_,
  fun b xs q=>by rw [ai (hm b _ q fun z=>z)];exact q,fun b u xs q=>by rw [ai (hm b _ q fun z=>z)];exact q,fun b ps q=>⟨#[],by rw [ai (hm b _ q fun z=>z),q];simp⟩⟩
 by_cases hbe:b=e
 · subst hbe;exact heo
 · exact ⟨u,k b u hbe q⟩
theorem Un.mono (u:Un fs ex H H1 h h1) (hs:∀b∈fs,b∈fs') (hx:∀b∈ex,b∈ex'):Un fs' ex' H H1 h h1:=
 ⟨fun b ob q n hb he=>u.keep b ob q n (fun z=>hb (hs b z)) fun z=>he (hx b z),fun _ _ q n _ he=>u.any q n fun z=>he (hx _ z),fun b ob q n he=>u.free b ob q n fun z=>he (hx b z),fun b ob q he=>u.there b ob q fun z=>he (hx b z),u.tups,u.frzs,u.tbls⟩
end
noncomputable def trk (h:Heap) (H:Hp):List Addr:=(List.range h.objs.size).filter fun a=>(H a).isSome
noncomputable def hidT (h:Heap) (H:Hp):Heap:=PySem.W.hideAll h (trk h H)
theorem ng (h:Heap) (H:Hp):(hidT h H).objs.size=h.objs.size:=PySem.W.hideAll_size _ _
theorem ph {h:Heap} {H:Hp} {b:Addr} {o:Obj} (e:h.get? b=some o) (n:H b=none):(hidT h H).get? b=some o:=
 PySem.W.hideAll_get _ e fun hm=>by
  have q:(H b).isSome=true:=(List.mem_filter.mp hm).2
  rw [n] at q;simp at q
theorem iR {h:Heap} {H:Hp} {b:Addr} {o:Obj} (e:(hidT h H).get? b=some o):h.get? b=some o∧H b=none:=by
 have e':h.get? b=some o:=PySem.W.of_hideAll (trk h H) e
 refine ⟨e',?_⟩
 cases q:H b with
 |none=>rfl
 |some x=>
  have hm:b∈trk h H:=List.mem_filter.mpr ⟨List.mem_range.mpr (Heap.lt_size e'),by simp [q]⟩
  have z:(hidT h H).get? b=none:=PySem.W.hideAll_none (trk h H) hm
  rw [z] at e;cases e
noncomputable def rV (g h:Heap) (L:Addr):List (Addr×Obj):=(List.range h.objs.size).filterMap fun a=>if a=L∨(g.get? a).isSome=true then none else (h.get? a).map fun o=>(a,o)
noncomputable def rest (g h:Heap) (L d:Addr):List (Addr×Obj):=(rV g h L).filter fun p=>decide (p.1≠d)
open PySem PySem.Spec PyProof.Rows
structure Mod (K:PySem.W.Frag) (mg:Str→Option Value) (base:Heap):Prop where
 kin:K.In base
 glob:base.Ns mainGlobals mg
 blt:∃mb,base.Ns builtinsNs mb∧∀x:Str,x≠"__name__"→mb x=bootBuiltins x
 nolimit:base.NoLimit
structure Cx where
 prog:Program
 w:World
 K:PySem.W.Frag
 mg:Str→Option Value
 base:Heap
 A:Around
 N:List Str
 s₀:Shared
 H₀:Hp
 env:Env
 outer:List Env
 stack:List Env
 ex:List Addr
 fn:Str→Bool
 calm:Bool
 pn:List (Addr×Obj)
 xe:Value→Shared→Prop
def frs (l:List Env):List Addr:=l.filterMap (·.frame)
abbrev Cx.fs (X:Cx):List Addr:=frs X.outer
def Vis (sc:Scope) (x:Str):Prop:=sc.names.lookup x=some .local∨sc.names.lookup x=some .cell∨sc.names.lookup x=some .free
def Loc (sc:Scope) (x:Str):Prop:=sc.names.lookup x=some .local∨sc.names.lookup x=some .cell
def Look (env:Env) (h:Heap) (m:Str→Option Value) (x:Str) (u:Value):Prop:=
 (env.kindOf x=some .local∧m x=some u)∨((env.kindOf x=some .cell∨env.kindOf x=some .free)∧∃c,env.cells.lookup x=some c∧h.IsCell c (some u))
structure Cx.Ok (X:Cx):Prop where
 mod:Mod X.K X.mg X.base
 kind:X.env.scope.kind= .function
 glob:X.env.globals=mainGlobals
 blt:X.env.builtins=builtinsNs
 above:X.s₀.heap.objs.size≤X.env.locals
 inj:∀x y c,X.env.cells.lookup x=some c→X.env.cells.lookup y=some c→x=y
 has:∀x,(X.env.kindOf x=some .cell∨X.env.kindOf x=some .free)→∃c,X.env.cells.lookup x=some c
 cab:∀x c,X.fn x=true→X.env.cells.lookup x=some c→X.s₀.heap.objs.size≤c
 hd:X.calm=true→X.A.handled=none
 frames:X.A.frames=some X.stack
 stk:X.stack=X.outer∨(X.stack=X.env::X.outer∧X.env.frame=some X.env.locals)
 exf:∀b∈X.ex,b≠X.env.locals∧∀x c,X.env.cells.lookup x=some c→c≠b
 bs:∀b o,X.base.get? b=some o→X.s₀.heap.get? b=some o∧Idl (X.H₀ b)
 bsz:X.base.objs.size≤X.s₀.heap.objs.size
 noex:∀b o,X.base.get? b=some o→b∉X.ex
 exfs:∀b∈X.ex,b∉X.fs
 funs:X.s₀.heap.FunFrames X.base X.outer
 frf:∀b∈X.fs,X.H₀ b=none
structure Inv (X:Cx) (pins:List (Addr×Obj)) (σ:List (Option V)) (H:Hp) (s:Shared):Prop where
 ok:X.Ok
 os:s.os=X.s₀.os
 bare:AllBare s.gens
 base:Un X.fs X.ex X.H₀ H X.s₀.heap s.heap
 loc:∃m,s.heap.Ns X.env.locals m∧∀(i:Nat) (x:Str) (v:V),X.N[i]?=some x→σ[i]?=some (some v)→Vis X.env.scope x→∃u,RelV v u∧Look X.env s.heap m x u
 cell:∀x c,X.env.cells.lookup x=some c→∃v,s.heap.IsCell c v
 free:H X.env.locals=none
 freeC:∀x c,X.env.cells.lookup x=some c→H c=none
 pin:∀p∈X.pn++pins,s.heap.get? p.1=some p.2∧H p.1=none∧p.1≠X.env.locals∧p.1∉X.fs∧∀v,p.2.data≠ .cell v
 hok:HOk X.prog X.w H s.heap
 len:σ.length=X.N.length
section
variable {X:Cx} {pins:List (Addr×Obj)} {σ:List (Option V)} {H H':Hp} {s:Shared} {h':Heap}
theorem Cx.Ok.nofr (ok:X.Ok) {b:Addr} {o:Obj} (e:X.base.get? b=some o):b∉X.fs:=fun hb=>by
 have:=(ok.funs.mem hb).1
 rw [e] at this;cases this
theorem Inv.bs (I:Inv X pins σ H s):∀b o,X.base.get? b=some o→s.heap.get? b=some o∧Idl (H b):=fun b o e=>
 ⟨I.base.keep b o (I.ok.bs b o e).1 (I.ok.bs b o e).2 (I.ok.nofr e) (I.ok.noex b o e),I.base.idl (I.ok.bs b o e).1 (I.ok.bs b o e).2 (I.ok.noex b o e)⟩
theorem Inv.bk (I:Inv X pins σ H s):∀b o,X.base.get? b=some o→s.heap.get? b=some o:=fun b o e=>(I.bs b o e).1
theorem Inv.mod (I:Inv X pins σ H s):Mod X.K X.mg X.base:=I.ok.mod
theorem Inv.kIn (I:Inv X pins σ H s):X.K.In s.heap:=I.ok.mod.kin.keeps I.bk
theorem Inv.nolimit (I:Inv X pins σ H s):s.heap.NoLimit:=I.ok.mod.nolimit.keeps I.bk
theorem Inv.fr (I:Inv X pins σ H s):∃m,Fr X.base X.env.locals s.heap m:=
 let ⟨m,hn,_⟩:=I.loc
 ⟨m,hn,I.bk,Nat.le_trans I.ok.bsz I.ok.above⟩
theorem Inv.lt (I:Inv X pins σ H s):X.env.locals < s.heap.objs.size:=let ⟨_,hn,_⟩:=I.loc;hn.lt
theorem Inv.sz (I:Inv X pins σ H s):X.s₀.heap.objs.size≤s.heap.objs.size:=Nat.le_trans I.ok.above (Nat.le_of_lt I.lt)
theorem Inv.nofs (I:Inv X pins σ H s) {a:Addr} (h:s.heap.objs.size≤a):a∉X.fs:=fun hb=>by
 obtain ⟨_,o,ho,_⟩:=I.ok.funs.mem hb
 exact absurd (Nat.lt_of_lt_of_le (Heap.lt_size ho) (Nat.le_trans I.sz h)) (Nat.lt_irrefl _)
theorem Inv.cne (I:Inv X pins σ H s):∀x c,X.env.cells.lookup x=some c→c≠X.env.locals:=fun x c e z=>by
 obtain ⟨v,o,ho,hd⟩:=I.cell x c e
 obtain ⟨m,⟨o',es,ep,ho',hd',_⟩,_⟩:=I.loc
 rw [z,ho'] at ho;cases ho;rw [hd'] at hd;cases hd
theorem Inv.funs (I:Inv X pins σ H s):s.heap.FunFrames X.base X.outer:=by
 have all:∀(l:List Env),(∀b∈frs l,b∈X.fs)→X.s₀.heap.FunFrames X.base l→s.heap.FunFrames X.base l:=by
  intro l
  induction l with
  |nil=>intro _ _;trivial
  |cons env r ih=>
   intro hs hl
   obtain ⟨hk,⟨L,o,hf,hn,ho,hd⟩,hr⟩:=hl
   have hL:L∈X.fs:=hs L (by unfold frs;rw [List.filterMap_cons,hf];exact List.mem_cons_self)
   obtain ⟨sl,e⟩:=I.base.slot L o ho (I.ok.frf L hL) hL fun z=>I.ok.exfs L z hL
   exact ⟨hk,⟨L,_,hf,hn,e,hd⟩,ih (fun b hb=>hs b (by unfold frs;rw [List.filterMap_cons,hf];exact List.mem_cons_of_mem _ hb)) hr⟩
 exact all X.outer (fun _ hb=>hb) I.ok.funs
theorem Inv.stack (I:Inv X pins σ H s):s.heap.FunFrames X.base X.stack:=by
 rcases I.ok.stk with e|⟨e,hf⟩
 · rw [e];exact I.funs
 · rw [e]
   obtain ⟨m,hn,_⟩:=I.loc
   refine .cons (by rw [I.ok.kind];decide) hf hn ?_ I.funs
   exact Heap.get?_none_of_le (Nat.le_trans I.ok.bsz I.ok.above)
theorem Inv.stkSub (I:Inv X pins σ H s):∀b∈frs X.stack,b∈X.env.locals::X.fs:=fun b hb=>by
 rcases I.ok.stk with e|⟨e,hf⟩
 · rw [e] at hb;exact List.mem_cons_of_mem _ hb
 · rw [e] at hb
   unfold frs at hb
   rw [List.filterMap_cons,hf] at hb
   exact hb
theorem Inv.stkFree (I:Inv X pins σ H s):∀b∈frs X.stack,H b=none:=fun b hb=>by
 rcases List.mem_cons.mp (I.stkSub b hb) with e|hb
 · rw [e];exact I.free
 · obtain ⟨_,o,ho,_⟩:=I.ok.funs.mem hb
   exact I.base.free b o ho (I.ok.frf b hb) fun z=>I.ok.exfs b z hb
theorem Inv.step {g':Array GenState} {t':Nat} {d':Drawn} {ch:List Addr} (I:Inv X pins σ H s)
 (hch:∀b∈ch,(b∈X.ex∨X.s₀.heap.objs.size≤b)∧b≠X.env.locals∧(∀x c,X.env.cells.lookup x=some c→c≠b)∧∀p∈X.pn++pins,p.1≠b)
 (keep:∀b o,b≠X.env.locals→b∉X.fs→b∉ch→s.heap.get? b=some o→Idl (H b)→h'.get? b=some o)
 (slot:∀b o,b≠X.env.locals→b∈X.fs→b∉ch→s.heap.get? b=some o→H b=none→∃sl,h'.get? b=some {o with slots:=sl}) (free:∀b o,b∉ch→s.heap.get? b=some o→H b=none→H' b=none)
 (there:∀b o,b∉ch→s.heap.get? b=some o→∃o',h'.get? b=some o')
 (tups:∀b xs,H b=some (.tup xs)→H' b=some (.tup xs)) (frzs:∀b o u,H b=some (.frz o u)→H' b=some (.frz o u)) (tbls:∀b ps,H b=some (.tbl ps)→∃more,H' b=some (.tbl (ps++more)))
 (ns:∀m,s.heap.Ns X.env.locals m→h'.Ns X.env.locals m) (hok:HOk X.prog X.w H' h') (hg:AllBare g'):
 Inv X pins σ H' {s with heap:=h',gens:=g',drawn:=d',toks:=t'}:=by
 have neL:∀b o,X.s₀.heap.get? b=some o→b≠X.env.locals:=fun b o e=>Nat.ne_of_lt (Nat.lt_of_lt_of_le (Heap.lt_size e) I.ok.above)
 have neC:∀b o,X.s₀.heap.get? b=some o→b∉X.ex→b∉ch:=fun b o e hx hb=>by
  rcases (hch b hb).1 with z|z
  · exact hx z
  · exact absurd (Nat.lt_of_lt_of_le (Heap.lt_size e) z) (Nat.lt_irrefl _)
 have cellK:∀x c,X.env.cells.lookup x=some c→∀v,s.heap.IsCell c v→h'.IsCell c v:=fun x c e v ⟨o,ho,hd⟩=>by
  have nch:c∉ch:=fun z=>(hch c z).2.2.1 x c e rfl
  by_cases hc:c∈X.fs
  · obtain ⟨sl,q⟩:=slot c o (I.cne x c e) hc nch ho (I.freeC x c e)
    exact ⟨_,q,hd⟩
  · exact ⟨o,keep c o (I.cne x c e) hc nch ho (.inl (I.freeC x c e)),hd⟩
 refine ⟨I.ok,I.os,hg,⟨fun b o e n hb hx=> ?_,fun b o e n hb hx=> ?_,fun b o e n hx=> ?_,fun b o e hx=> ?_,fun b xs e=>tups b xs (I.base.tups b xs e),fun b o xs e=>frzs b o xs (I.base.frzs b o xs e),fun b ps e=> ?_⟩,?_,fun x c e=> ?_,?_,fun x c e=> ?_,fun p hp=> ?_,hok,I.len⟩
 · exact keep b o (neL b o e) hb (neC b o e hx) (I.base.keep b o e n hb hx) (I.base.idl e n hx)
 · obtain ⟨sl,e1⟩:=I.base.slot b o e n hb hx
   obtain ⟨sl',e2⟩:=slot b _ (neL b o e) hb (neC b o e hx) e1 (I.base.free b o e n hx)
   exact ⟨sl',e2⟩
 · obtain ⟨o',e1⟩:=I.base.there b o e hx
   exact free b o' (neC b o e hx) e1 (I.base.free b o e n hx)
 · obtain ⟨o',e1⟩:=I.base.there b o e hx
   exact there b o' (neC b o e hx) e1
 · obtain ⟨m1,e1⟩:=I.base.tbls b ps e
   obtain ⟨m2,e2⟩:=tbls b _ e1
   exact ⟨m1++m2,by rw [e2,Array.append_assoc]⟩
 · obtain ⟨m,hn,hl⟩:=I.loc
   refine ⟨m,ns m hn,fun i x v e1 e2 e3=> ?_⟩
   obtain ⟨u,r,l⟩:=hl i x v e1 e2 e3
   refine ⟨u,r,?_⟩
   rcases l with l|⟨k,c,e,z⟩
   · exact .inl l
   · exact .inr ⟨k,c,e,cellK x c e _ z⟩
 · obtain ⟨v,z⟩:=I.cell x c e
   exact ⟨v,cellK x c e v z⟩
 · obtain ⟨m,⟨o,_,_,ho,_⟩,_⟩:=I.loc
   exact free _ o (fun z=>(hch _ z).2.1 rfl) ho I.free
 · obtain ⟨v,o,ho,hd⟩:=I.cell x c e
   exact free c o (fun z=>(hch c z).2.2.1 x c e rfl) ho (I.freeC x c e)
 · obtain ⟨e,n,ne,nf,d⟩:=I.pin p hp
   have nch:p.1∉ch:=fun z=>(hch p.1 z).2.2.2 p hp rfl
   exact ⟨keep p.1 p.2 ne nf nch e (.inl n),free p.1 p.2 nch e n,ne,nf,d⟩
theorem Inv.un {t':Nat} (I:Inv X pins σ H s) (u:Un X.fs [] H H' s.heap h') (hok:HOk X.prog X.w H' h'):Inv X pins σ H' {s with heap:=h',toks:=t'}:=by
 obtain ⟨m,⟨o,es,ep,ho,r⟩,_⟩:=id I.loc
 obtain ⟨sl,hL⟩:=u.any ho I.free (by simp)
 exact I.step (g':=s.gens) (d':=s.drawn) (ch:= []) (fun _ z=>nomatch z) (fun b o _ hb _ e n=>u.keep b o e n hb (by simp)) (fun b o _ hb _ e n=>u.slot b o e n hb (by simp)) (fun b o _ e n=>u.free b o e n (by simp)) (fun b o _ e=>u.there b o e (by simp)) u.tups u.frzs u.tbls (fun m' hm=>by
  obtain ⟨o',es',ep',ho',r'⟩:=hm
  rw [ho] at ho';cases ho'
  exact ⟨_,es',ep',hL,r'⟩) hok I.bare
theorem Inv.call {g':Array GenState} {t':Nat} {d':Drawn} {ch:List Addr} (I:Inv X pins σ H s) (u:Un (frs X.stack) ch H H' s.heap h') (hok:HOk X.prog X.w H' h') (hg:AllBare g')
 (hch:∀b∈ch,(b∈X.ex∨X.s₀.heap.objs.size≤b)∧b≠X.env.locals∧(∀x c,X.env.cells.lookup x=some c→c≠b)∧∀p∈X.pn++pins,p.1≠b):
 Inv X pins σ H' {s with heap:=h',gens:=g',drawn:=d',toks:=t'}:=by
 obtain ⟨m,⟨o,es,ep,ho,r⟩,_⟩:=id I.loc
 obtain ⟨sl,hL⟩:=u.any ho I.free fun z=>(hch _ z).2.1 rfl
 exact I.step (ch:=ch) hch (fun b o hL hb hc e n=>u.keep b o e n (fun z=>(List.mem_cons.mp (I.stkSub b z)).elim hL hb) hc) (fun b o _ _ hc e n=>u.any e n hc) (fun b o hc e n=>u.free b o e n hc) (fun b o hc e=>u.there b o e hc) u.tups u.frzs u.tbls (fun m' hm=>by
  obtain ⟨o',es',ep',ho',r'⟩:=hm
  rw [ho] at ho';cases ho'
  exact ⟨_,es',ep',hL,r'⟩) hok hg
theorem Inv.turned {t':Nat} {it:Addr} (I:Inv X pins σ H s) (k:∀b o,b≠it→s.heap.get? b=some o→h'.get? b=some o) (hn:H it=none) (hL:it≠X.env.locals)
 (h1:it∈X.ex∨X.s₀.heap.objs.size≤it) (h2:∀x c,X.env.cells.lookup x=some c→c≠it) (h3:∀p∈X.pn++pins,p.1≠it):Inv X pins σ H {s with heap:=h',toks:=t'}:=by
 have nit:∀b u,H b=some u→b≠it:=fun b u e z=>by rw [z,hn] at e;cases e
 refine I.step (g':=s.gens) (d':=s.drawn) (ch:= [it]) (fun b hb=> ?_) (fun b o _ _ hc e _=>k b o (fun z=>hc (by simp [z])) e) (fun b o _ _ hc e _=>⟨o.slots,k b o (fun z=>hc (by simp [z])) e⟩) (fun _ _ _ _ n=>n)
  (fun b o hc e=>⟨o,k b o (fun z=>hc (by simp [z])) e⟩) (fun _ _ e=>e) (fun _ _ _ e=>e) (fun b ps e=>⟨#[],by rw [e];simp⟩) (fun m hm=> ?_) (fun b u e=> ?_) I.bare
 · have e:b=it:=by simpa using hb
   subst e
   exact ⟨h1,hL,h2,h3⟩
 · obtain ⟨o,es,ep,ho,r⟩:=hm
   exact ⟨o,es,ep,k _ o (Ne.symm hL) ho,r⟩
 · refine (I.hok b u e).stay (fun c v hc q=>k c v ?_ q) (fun _ q=>q) fun _ _ q=>q
   rcases hc with z|z
   · rw [z];exact nit b u e
   · exact nit c _ z
theorem Inv.tok (I:Inv X pins σ H s) (t:Nat):Inv X pins σ H {s with toks:=t}:=I.un (h':=s.heap) (t':=t) Un.refl I.hok
theorem Inv.kept {t':Nat} (I:Inv X pins σ H s) (k:∀b u,s.heap.get? b=some u→h'.get? b=some u):Inv X pins σ H {s with heap:=h',toks:=t'}:=I.un (Un.kept k) (I.hok.kept k)
theorem Inv.laid {a:Addr} {o:HO} {t':Nat} (I:Inv X pins σ H s) (k:∀b u,s.heap.get? b=some u→h'.get? b=some u) (hp:s.heap.objs.size≤a) (new:ObjOk X.prog X.w (upd H a o) h' a o):
 Inv X pins σ (upd H a o) {s with heap:=h',toks:=t'}:=I.un (Un.laid k hp (I.hok.fresh hp)) (I.hok.laid k hp new)
theorem Inv.write {x e:Addr} {o:HO} {t':Nat} (I:Inv X pins σ H s) (mu:Mut (H x)) (he:e=x∨H e=some (.own x)) (k:∀b u,b≠e→s.heap.get? b=some u→h'.get? b=some u) (heo:∃u,h'.get? e=some u)
 (new:ObjOk X.prog X.w (upd H x o) h' x o):Inv X pins σ (upd H x o) {s with heap:=h',toks:=t'}:=I.un (Un.write mu he k heo) (I.hok.write mu he k heo new)
theorem Inv.weak {σ':List (Option V)} (I:Inv X pins σ H s) (hl:σ'.length=σ.length) (w:∀(i:Nat) v,σ'[i]?=some (some v)→σ[i]?=some (some v)):Inv X pins σ' H s:=
 ⟨I.ok,I.os,I.bare,I.base,let ⟨m,hn,hl'⟩:=I.loc;⟨m,hn,fun i x v e1 e2 e3=>hl' i x v e1 (w i v e2) e3⟩,I.cell,I.free,I.freeC,I.pin,I.hok,hl.trans I.len⟩
theorem Inv.pins_of {pins':List (Addr×Obj)} (I:Inv X pins σ H s) (h:∀p∈pins',s.heap.get? p.1=some p.2∧H p.1=none∧p.1≠X.env.locals∧p.1∉X.fs∧∀v,p.2.data≠ .cell v):Inv X pins' σ H s:=
 ⟨I.ok,I.os,I.bare,I.base,I.loc,I.cell,I.free,I.freeC,fun p hp=>(List.mem_append.mp hp).elim (fun z=>I.pin p (List.mem_append_left _ z)) (h p),I.hok,I.len⟩
theorem jA {N:List Str} (hN:N.Nodup) {i j:Nat} {x:Str} (a:N[i]?=some x) (b:N[j]?=some x):i=j:=by
 obtain ⟨h1,e1⟩:=List.getElem?_eq_some_iff.mp a
 obtain ⟨h2,e2⟩:=List.getElem?_eq_some_iff.mp b
 exact (List.getElem_inj hN).mp (e1.trans e2.symm)
theorem hJ {M:Model} {A:Around} {E:Value→Shared→Prop} {i:Nat} {x:Str} {v:V} {u:Value} {Q:Unit→Shared→Prop} (I:Inv X pins σ H s) (hN:X.N.Nodup) (hi:X.N[i]?=some x) (hx:Loc X.env.scope x) (r:RelV v u)
 (h:∀s',Inv X pins (σ.set i (some v)) H s'→(∃a,Heap.SameBut a s.heap s'.heap∧(a=X.env.locals∨X.env.cells.lookup x=some a))→Q () s') (hf:X.fn x=true∨X.env.scope.names.lookup x=some .local:=by first|exact .inl rfl|exact .inr rfl|assumption):wpAny M A (storeName X.env x u) Q E s:=by
 obtain ⟨m,hn,hl⟩:=id I.loc
 have hcls:(X.env.scope.kind== .class ||(X.env.scope.kind== .module&&X.env.locals !=X.env.globals))=false:=by rw [I.ok.kind];rfl
 have hiσ:i < σ.length:=by rw [I.len];exact (List.getElem?_eq_some_iff.mp hi).1
 have cne:=I.cne
 have tracked:∀ {a:Addr} {h':Heap},(∃o,s.heap.get? a=some o∧H a=none)→Heap.SameBut a s.heap h'→HOk X.prog X.w H h':=fun {a h'} ha hs b ob e=>by
  obtain ⟨_,_,hfree⟩:=ha
  refine (I.hok b ob e).stay (fun c w' hc q=>(hs.2 c ?_).trans q) (fun _ q=>q) fun _ _ q=>q
  rintro rfl
  rcases hc with rfl|hc
  · rw [hfree] at e;cases e
  · rw [hfree] at hc;cases hc
 rcases hx with hk|hk
 · refine wpAny_storeName_local hk hn (fun h' hn' hs=> ?_) hcls
   obtain ⟨oL,_,_,hoL,_⟩:=id hn
   refine h _ ⟨I.ok,I.os,I.bare,⟨fun b o e n hb hx=> ?_,fun b o e n hb hx=> ?_,I.base.free,fun b o e hx=> ?_,I.base.tups,I.base.frzs,I.base.tbls⟩,⟨_,hn',fun j y v' e1 e2 e3=> ?_⟩,fun y c e=> ?_,I.free,I.freeC,fun p hp=> ?_,tracked ⟨oL,hoL,I.free⟩ hs,by simpa using I.len⟩ ⟨_,hs, .inl rfl⟩
   · exact (hs.2 b (Nat.ne_of_lt (Nat.lt_of_lt_of_le (Heap.lt_size e) I.ok.above))).trans (I.base.keep b o e n hb hx)
   · obtain ⟨sl,e1⟩:=I.base.slot b o e n hb hx
     exact ⟨sl,(hs.2 b (Nat.ne_of_lt (Nat.lt_of_lt_of_le (Heap.lt_size e) I.ok.above))).trans e1⟩
   · obtain ⟨o',e1⟩:=I.base.there b o e hx
     exact ⟨o',(hs.2 b (Nat.ne_of_lt (Nat.lt_of_lt_of_le (Heap.lt_size e) I.ok.above))).trans e1⟩
   · by_cases hj:j=i
     · subst hj
       rw [hi] at e1;cases e1
       rw [List.getElem?_set_self hiσ] at e2
       cases e2
       exact ⟨u,r, .inl ⟨hk,by simp⟩⟩
     · rw [List.getElem?_set_ne (Ne.symm hj)] at e2
       obtain ⟨u',r',q⟩:=hl j y v' e1 e2 e3
       refine ⟨u',r',?_⟩
       rcases q with ⟨k,e⟩|⟨k,c,e,z⟩
       · refine .inl ⟨k,?_⟩
         have:y≠x:=fun e=>hj (jA hN e1 (e▸hi))
         simp [this,e]
       · exact .inr ⟨k,c,e,z.sameBut hs (cne y c e)⟩
   · obtain ⟨w',z⟩:=I.cell y c e
     exact ⟨w',z.sameBut hs (cne y c e)⟩
   · obtain ⟨e,n,ne,nf,d⟩:=I.pin p hp
     exact ⟨(hs.2 p.1 ne).trans e,n,ne,nf,d⟩
 · have hfn:X.fn x=true:=by
    rcases hf with z|z
    · exact z
    · rw [z] at hk;cases hk
   obtain ⟨c,hc⟩:=I.ok.has x (.inl hk)
   obtain ⟨w',z⟩:=I.cell x c hc
   refine wpAny_storeName_cell I.ok.kind hk hc z (fun h' hc' hs=> ?_)
   obtain ⟨oc,hoc,hocd⟩:=id z
   refine h {s with heap:=h'} ⟨I.ok,I.os,I.bare,⟨fun b o e n hb hx=> ?_,fun b o e n hb hx=> ?_,I.base.free,fun b o e hx=> ?_,I.base.tups,I.base.frzs,I.base.tbls⟩,⟨m,hn.sameBut hs (Ne.symm (cne x c hc)),fun j y v' e1 e2 e3=> ?_⟩,fun y c' e=> ?_,I.free,I.freeC,fun p hp=> ?_,tracked ⟨oc,hoc,I.freeC x c hc⟩ hs,by simpa using I.len⟩ ⟨c,hs, .inr hc⟩
   · exact (hs.2 b (Nat.ne_of_lt (Nat.lt_of_lt_of_le (Heap.lt_size e) (I.ok.cab x c hfn hc)))).trans (I.base.keep b o e n hb hx)
   · obtain ⟨sl,e1⟩:=I.base.slot b o e n hb hx
     exact ⟨sl,(hs.2 b (Nat.ne_of_lt (Nat.lt_of_lt_of_le (Heap.lt_size e) (I.ok.cab x c hfn hc)))).trans e1⟩
   · obtain ⟨o',e1⟩:=I.base.there b o e hx
     exact ⟨o',(hs.2 b (Nat.ne_of_lt (Nat.lt_of_lt_of_le (Heap.lt_size e) (I.ok.cab x c hfn hc)))).trans e1⟩
   · by_cases hj:j=i
     · subst hj
       rw [hi] at e1;cases e1
       rw [List.getElem?_set_self hiσ] at e2
       cases e2
       exact ⟨u,r, .inr ⟨.inl hk,c,hc,hc'⟩⟩
     · rw [List.getElem?_set_ne (Ne.symm hj)] at e2
       obtain ⟨u',r',q⟩:=hl j y v' e1 e2 e3
       refine ⟨u',r',?_⟩
       rcases q with q|⟨k,c',e,z'⟩
       · exact .inl q
       · refine .inr ⟨k,c',e,z'.sameBut hs ?_⟩
         rintro rfl
         exact hj (jA hN e1 (I.ok.inj _ _ _ e hc▸hi))
   · by_cases hcc:c'=c
     · subst hcc;exact ⟨_,hc'⟩
     · obtain ⟨w2,z2⟩:=I.cell y c' e
       exact ⟨w2,z2.sameBut hs hcc⟩
   · obtain ⟨e,n,ne,nf,d⟩:=I.pin p hp
     refine ⟨(hs.2 p.1 ?_).trans e,n,ne,nf,d⟩
     intro q
     rw [q,hoc] at e
     have q':oc=p.2:=Option.some.inj e
     exact d w' (by rw [←q'];exact hocd)
theorem dM {M:Model} {A:Around} {E:Value→Shared→Prop} {i:Nat} {x:Str} {v:V} {u:Value} {Q:Unit→Shared→Prop} (I:Inv X pins σ H s) (hN:X.N.Nodup) (hi:X.N[i]?=some x) (hx:Loc X.env.scope x) (r:RelV v u)
 (h:∀s',Inv X pins (σ.set i (some v)) H s'→Q () s') (hf:X.fn x=true∨X.env.scope.names.lookup x=some .local:=by first|exact .inl rfl|exact .inr rfl|assumption):wpAny M A (storeName X.env x u) Q E s:=
 hJ I hN hi hx r (fun s' I' _=>h s' I') hf
theorem Inv.call' {s':Shared} {ch:List Addr} (I:Inv X pins σ H s) (ho:s'.os=s.os) (u:Un (frs X.stack) ch H H' s.heap s'.heap) (hok:HOk X.prog X.w H' s'.heap) (hg:AllBare s'.gens)
 (hch:∀b∈ch,(b∈X.ex∨X.s₀.heap.objs.size≤b)∧b≠X.env.locals∧(∀x c,X.env.cells.lookup x=some c→c≠b)∧∀p∈X.pn++pins,p.1≠b):Inv X pins σ H' s':=by
 obtain ⟨h',g',d',t',o'⟩:=s'
 have e:o'=s.os:=ho
 subst e
 exact I.call (g':=g') (t':=t') (d':=d') u hok hg hch
end
abbrev XK:=Value→Option Addr→Hp→Prop
abbrev St:=List (Option V)
abbrev VK:=V→Hp→Prop
abbrev TE:=St→Hp→VK→Prop
abbrev TT:=St→Hp→(Bool→Hp→Prop)→Prop
abbrev TA:=St→Hp→(List V→Hp→Prop)→Prop
structure Ends where
 nx:St→Hp→Prop
 rt:VK
 bk:St→Hp→Prop:=fun _ _=>False
 ct:St→Hp→Prop:=fun _ _=>False
abbrev TS:=Ends→St→Hp→Prop
def EP (X:Cx) (pins:List (Addr×Obj)) (σ:St) (Q:VK) (u:Value) (s':Shared):Prop:=∃v H',Inv X pins σ H' s'∧RelV v u∧Q v H'
def TP (X:Cx) (pins:List (Addr×Obj)) (σ:St) (Q:Bool→Hp→Prop) (b:Bool) (s':Shared):Prop:=∃H',Inv X pins σ H' s'∧Q b H'
def AP (X:Cx) (pins:List (Addr×Obj)) (σ:St) (Q:List V→Hp→Prop) (us:List Value) (s':Shared):Prop:=∃vs H',Inv X pins σ H' s'∧Vals vs us∧Q vs H'
def SP (X:Cx) (pins:List (Addr×Obj)) (D:Ends) (f:Flow) (s':Shared):Prop:=
 match f with
 | .next=>∃σ' H',Inv X pins σ' H' s'∧D.nx σ' H'
 | .brk=>∃σ' H',Inv X pins σ' H' s'∧D.bk σ' H'
 | .cont=>∃σ' H',Inv X pins σ' H' s'∧D.ct σ' H'
 | .ret u=>∃v σ' H',Inv X pins σ' H' s'∧RelV v u∧D.rt v H'
def PE (X:Cx) (e:Expr) (t:TE):Prop:=
 ∀(pins:List (Addr×Obj)) (s:Shared) (σ:St) (H:Hp) (Q:VK),Inv X pins σ H s→t σ H Q→wpAny (model X.prog X.w) X.A (eval e X.env) (EP X pins σ Q) X.xe s
def PT (X:Cx) (e:Expr) (t:TT):Prop:=
 ∀(pins:List (Addr×Obj)) (s:Shared) (σ:St) (H:Hp) (Q:Bool→Hp→Prop),Inv X pins σ H s→t σ H Q→wpAny (model X.prog X.w) X.A (isTrue e X.env (eval e X.env)) (TP X pins σ Q) X.xe s
def PW (X:Cx) (e:Expr) (t:TT):Prop:=
 ∀(whole:Sem Value) (pins:List (Addr×Obj)) (s:Shared) (σ:St) (H:Hp) (Q:Bool→Hp→Prop),Inv X pins σ H s→t σ H Q→wpAny (model X.prog X.w) X.A (isTrue e X.env whole) (TP X pins σ Q) X.xe s
theorem PW.pt {X:Cx} {e:Expr} {t:TT} (h:PW X e t):PT X e t:=h _
def PA (X:Cx) (es:List Expr) (t:TA):Prop:=
 ∀(pos:Pos) (pins:List (Addr×Obj)) (s:Shared) (σ:St) (H:Hp) (Q:List V→Hp→Prop),Inv X pins σ H s→t σ H Q→wpAny (model X.prog X.w) X.A (spliced (backTo pos (starEach es X.env))) (AP X pins σ Q) X.xe s
def PS (X:Cx) (st:Stmt) (t:TS):Prop:=
 ∀(pins:List (Addr×Obj)) (s:Shared) (σ:St) (H:Hp) (D:Ends),Inv X pins σ H s→t D σ H→wpAny (model X.prog X.w) X.A (exec st X.env) (SP X pins D) X.xe s
def PSs (X:Cx) (st:List Stmt) (t:TS):Prop:=
 ∀(pins:List (Addr×Obj)) (s:Shared) (σ:St) (H:Hp) (D:Ends),Inv X pins σ H s→t D σ H→wpAny (model X.prog X.w) X.A (execs st X.env) (SP X pins D) X.xe s
theorem thn {α:Type} {t:Sem α} {Q Q':α→Shared→Prop} {M:Model} {A:Around} {E:Value→Shared→Prop} {s:Shared} (h:wpAny M A t Q E s) (hQ:∀a s,Q a s→Q' a s):wpAny M A t Q' E s:=wpAny_mono h hQ fun _ _ x=>x
open PySem PySem.Spec PyProof.Rows
section
variable {X:Cx}
def tVar (i:Nat):TE:=fun σ H Q=>∃v,σ[i]?=some (some v)∧Q v H
def tC (v:V):TE:=fun _ H Q=>Q v H
theorem tM {i:Nat} {x:Str} {pos:Pos} (hN:X.N[i]?=some x) (hv:Vis X.env.scope x) (hd:(x==("__debug__":Str))=false:=by decide) (hcd:(x==("__classdict__":Str))=false:=by decide):PE X (.Name x pos) (tVar i):=by
 intro pins s σ H Q I h
 obtain ⟨v,e,h⟩:=h
 obtain ⟨m,hn,hl⟩:=I.loc
 obtain ⟨u,r,l⟩:=hl i x v hN e hv
 have fin:EP X pins σ Q u s:=⟨v,H,I,r,h⟩
 rcases l with ⟨hk,hm⟩|⟨hk,c,hc,hcell⟩
 · exact wpAny_Name (wpAny_loadName_local I.ok.kind hk hn hm fin) hd
 · rcases hk with hk|hk
   · exact wpAny_Name (wpAny_loadName_cell I.ok.kind hk hc hcell fin) hd
   · exact wpAny_Name (wpAny_loadName_free I.ok.kind hk hc hcell fin hcd) hd
theorem ac {i j pos}:PE X (.Constant (.int i) j pos) (tC (.int i)):=fun _ _ _ H _ I h=>wpAny_Constant_int ⟨.int i,H,I.tok _,⟨_,rfl⟩,h⟩
theorem aY {b j pos}:PE X (.Constant (.bool b) j pos) (tC (.bl b)):=fun _ _ _ H _ I h=>Constant_bool ⟨.bl b,H,I,rfl,h⟩
theorem iO {j pos}:PE X (.Constant .none j pos) (tC .non):=fun _ _ _ H _ I h=>Constant_none ⟨.non,H,I,rfl,h⟩
theorem aM {x j pos}:PE X (.Constant (.str x) j pos) (tC (.str x)):=fun _ _ _ H _ I h=>Calls.Constant_str ⟨.str x,H,I.tok _,⟨_,rfl⟩,h⟩
def Gl (X:Cx) (x:Str):Prop:=X.env.kindOf x=some .globalImplicit
theorem iX {E:Value→Shared→Prop} {pins:List (Addr×Obj)} {s:Shared} {σ:St} {H:Hp} {x:Str} {u:Value} {pos:Pos} {Q:Value→Shared→Prop} (I:Inv X pins σ H s) (hg:Gl X x) (hm:X.mg x=some u) (h:Q u s)
 (hd:(x==("__debug__":Str))=false:=by decide):wpAny (model X.prog X.w) X.A (eval (.Name x pos) X.env) Q E s:=
 Calls.Name_function_global I.ok.kind hg (Calls.loadGlobal_global (by rw [I.ok.glob];exact I.mod.glob.keeps I.bk) hm h) hd
theorem f8 {E:Value→Shared→Prop} {pins:List (Addr×Obj)} {s:Shared} {σ:St} {H:Hp} {x:Str} {u:Value} {pos:Pos} {Q:Value→Shared→Prop} (I:Inv X pins σ H s) (hg:Gl X x) (hm:X.mg x=none) (hv:bootBuiltins x=some u) (h:Q u s)
 (hn:x≠"__name__":=by decide) (hd:(x==("__debug__":Str))=false:=by decide):wpAny (model X.prog X.w) X.A (eval (.Name x pos) X.env) Q E s:=by
 obtain ⟨mb,h1,h2⟩:=I.mod.blt
 exact Calls.Name_function_global I.ok.kind hg (Calls.loadGlobal_builtin (by rw [I.ok.glob];exact I.mod.glob.keeps I.bk) hm (by rw [I.ok.blt];exact h1.keeps I.bk) ((h2 x hn).trans hv) h) hd
theorem e7 {x:Str} {v:V} {u:Value} {pos:Pos} (hg:Gl X x) (hm:X.mg x=some u) (r:RelV v u) (hd:(x==("__debug__":Str))=false:=by decide):PE X (.Name x pos) (tC v):=
 fun _ _ _ H _ I h=>iX I hg hm ⟨v,H,I,r,h⟩ hd
theorem aR {x:Str} {v:V} {u:Value} {pos:Pos} (hg:Gl X x) (hm:X.mg x=none) (hv:bootBuiltins x=some u) (r:RelV v u) (hn:x≠"__name__":=by decide) (hd:(x==("__debug__":Str))=false:=by decide):PE X (.Name x pos) (tC v):=
 fun _ _ _ H _ I h=>f8 I hg hm hv ⟨v,H,I,r,h⟩ hn hd
variable {a b:Expr} {ta tb:TE} {pos:Pos}
def tB (t:TE):TT:=fun σ H Q=>t σ H fun x H1=>∃c,x= .bl c∧Q c H1
theorem bB {e:Expr} {t:TE} (h:PE X e t) (he:∀whole,isTrue e X.env whole=(do let v←whole;standAt e.pos;holding [v] (truthy v)):=by intro _;rfl):PT X e (tB t):=by
 intro pins s σ H Q I hw
 refine isTrue_plain (thn (h pins s σ H _ I hw) fun v s1 ⟨x,H1,I1,r1,q1⟩=> ?_) (he _)
 obtain ⟨d,rfl,q⟩:=q1
 cases r1
 exact wpAny_truthy_bool ⟨H1,I1,q⟩
variable {tA tB':TT} {rest:List Expr}
def tAnd (t u:TT):TT:=fun σ H Q=>t σ H fun c H1=>if c=true then u σ H1 Q else Q false H1
def tOr (t u:TT):TT:=fun σ H Q=>t σ H fun c H1=>if c=true then Q true H1 else u σ H1 Q
def tNot (t:TT):TT:=fun σ H Q=>t σ H fun c H1=>Q (!c) H1
theorem lB (ha:PT X a tA):PW X (.BoolOp .And [a] pos) tA:=by
 intro wh pins s σ H Q I h
 refine isTrue_and (thn (ha pins s σ H Q I h) fun c s1 e=> ?_)
 cases c with
 |true=>exact isTrue_and_nil e
 |false=>exact e
theorem cR (ha:PT X a tA):PW X (.BoolOp .Or [a] pos) tA:=by
 intro wh pins s σ H Q I h
 refine isTrue_or (thn (ha pins s σ H Q I h) fun c s1 e=> ?_)
 cases c with
 |false=>exact isTrue_or_nil e
 |true=>exact e
theorem ot (ha:PT X a tA) (hb:PW X (.BoolOp .And (b::rest) pos) tB'):PW X (.BoolOp .And (a::b::rest) pos) (tAnd tA tB'):=by
 intro wh pins s σ H Q I h
 refine isTrue_and (thn (ha pins s σ H _ I h) fun c s1 ⟨H1,I1,q1⟩=> ?_)
 cases c with
 |true=>exact hb wh pins s1 σ H1 Q I1 q1
 |false=>exact ⟨H1,I1,q1⟩
theorem fc (ha:PT X a tA) (hb:PW X (.BoolOp .Or (b::rest) pos) tB'):PW X (.BoolOp .Or (a::b::rest) pos) (tOr tA tB'):=by
 intro wh pins s σ H Q I h
 refine isTrue_or (thn (ha pins s σ H _ I h) fun c s1 ⟨H1,I1,q1⟩=> ?_)
 cases c with
 |true=>exact ⟨H1,I1,q1⟩
 |false=>exact hb wh pins s1 σ H1 Q I1 q1
theorem cT (ha:PT X a tA):PT X (.UnaryOp .Not a pos) (tNot tA):=by
 intro pins s σ H Q I h
 exact isTrue_not (ha pins s σ H (fun c H1=>Q (!c) H1) I h)
def uF (ta tb:TE):TE:=fun σ H Q=>ta σ H fun x H1=>∃c,x= .bl c∧if c=true then tb σ H1 Q else Q (.bl false) H1
def uC (ta:TE):TE:=fun σ H Q=>ta σ H fun x H1=>∃c,x= .bl c∧Q (.bl (!c)) H1
theorem dz {op} {t:TE} (h:PE X a t):PE X (.BoolOp op [a] pos) t:=fun pins s σ H Q I hw=>BoolOp_one (h pins s σ H Q I hw)
theorem ci (ha:PE X a ta) (hb:PE X (.BoolOp .And (b::rest) pos) tb):PE X (.BoolOp .And (a::b::rest) pos) (uF ta tb):=by
 intro pins s σ H Q I h
 refine BoolOp_and (thn (ha pins s σ H _ I h) fun v s1 ⟨x,H1,I1,r1,q1⟩=> ?_)
 obtain ⟨c,rfl,q1⟩:=q1
 cases r1
 refine wpAny_truthy_bool ?_
 cases c with
 |true=>exact hb pins s1 σ H1 Q I1 q1
 |false=>exact ⟨.bl false,H1,I1,rfl,q1⟩
theorem tN (ha:PE X a ta):PE X (.UnaryOp .Not a pos) (uC ta):=by
 intro pins s σ H Q I h
 refine UnaryOp_ (thn (ha pins s σ H _ I h) fun v s1 ⟨x,H1,I1,r1,q1⟩=> ?_)
 obtain ⟨c,rfl,q1⟩:=q1
 cases r1
 exact not_of (wpAny_truthy_bool ⟨.bl (!c),H1,I1,rfl,q1⟩)
end
open PySem PySem.Spec PyProof.Rows
def SqL (K:PySem.W.Frag) (H:Hp) (a:Addr) (xs:List V):Prop:=
 Rd H a (.lst xs)∨
  ∃(o:Obj) (its:Array Value) (n:Nat),K.lookup a=some o∧o.cls= .type "list"∧o.dict=none∧o.data= .seq its n∧its.size≤sizeLine∧Vals xs its.toList
def SqT (K:PySem.W.Frag) (H:Hp) (a:Addr) (xs:List V):Prop:=
 Rd H a (.tup xs)∨
  ∃(o:Obj) (its:Array Value) (n:Nat),K.lookup a=some o∧o.cls= .type "tuple"∧o.data= .seq its n∧its.size≤sizeLine∧Vals xs its.toList
noncomputable def absV:Value→Option V
 | .none=>some .non
 | .bool b=>some (.bl b)
 | .int i _=>some (.int i)
 | .str x _=>some (.str x)
 | .bytes b _=>some (.byt b)
 | .float b _=>some (.flt b)
 | .ref a=>some (.ref a)
 | .type n=>some (.ty n)
 |_=>none
theorem RelV.abs {x:V} {u:Value} (r:RelV x u):absV u=some x:=by
 cases x with
 |non=>cases r;rfl
 |bl _=>cases r;rfl
 |int _=>obtain ⟨t,rfl⟩:=r;rfl
 |str _=>obtain ⟨t,rfl⟩:=r;rfl
 |byt _=>obtain ⟨t,rfl⟩:=r;rfl
 |flt _=>obtain ⟨t,rfl⟩:=r;rfl
 |ref _=>cases r;rfl
 |ty _=>cases r;rfl
theorem RelV.inj {x y:V} {u:Value} (r:RelV x u) (q:RelV y u):x=y:=Option.some.inj (r.abs.symm.trans q.abs)
theorem Vals.inj:∀ {xs ys:List V} {us:List Value},Vals xs us→Vals ys us→xs=ys
 |_,_,_, .nil, .nil=>rfl
 |_,_,_, .cons r t, .cons r' t'=>by rw [r.inj r',Vals.inj t t']
section
variable {X:Cx} {pins:List (Addr×Obj)} {σ:St} {H:Hp} {s:Shared} {a:Addr} {xs ys:List V}
theorem SqL.of {K:PySem.W.Frag} (h:H a=some (.lst xs)):SqL K H a xs:= .inl (.inl h)
theorem SqT.of {K:PySem.W.Frag} (h:H a=some (.tup xs)):SqT K H a xs:= .inl (.inl h)
theorem Inv.list (I:Inv X pins σ H s) (h:SqL X.K H a xs):∃its:List Value,Vals xs its∧PlainL s.heap a its.toArray∧xs.length≤sizeLine:=by
 rcases h with h|⟨o,its,n,hk,hc,hd,hs,hz,r⟩
 · obtain ⟨z,its,n,r,e⟩:=h.ok I.hok
   exact ⟨its,r,⟨_,n,e,rfl,rfl,rfl⟩,z⟩
 · refine ⟨its.toList,r,⟨o,n,I.kIn a o hk,hc,hd,by simpa using hs⟩,?_⟩
   have e:=r.length
   simp only [Array.length_toList] at e
   omega
theorem Inv.tuple (I:Inv X pins σ H s) (h:SqT X.K H a xs):∃its:List Value,Vals xs its∧IsTup s.heap a its.toArray∧xs.length≤sizeLine:=by
 rcases h with h|⟨o,its,n,hk,hc,hs,hz,r⟩
 · obtain ⟨z,its,r,p⟩:=h.ok I.hok
   exact ⟨its,r,p,z⟩
 · refine ⟨its.toList,r,⟨o,I.kIn a o hk,hc,n,by simpa using hs⟩,?_⟩
   have e:=r.length
   simp only [Array.length_toList] at e
   omega
theorem Inv.list_inj (I:Inv X pins σ H s) (h:SqL X.K H a xs) (h':SqL X.K H a ys):xs=ys:=by
 obtain ⟨its,r,⟨o,n,e,_,_,d⟩,_⟩:=I.list h
 obtain ⟨its',r',⟨o',n',e',_,_,d'⟩,_⟩:=I.list h'
 rw [e] at e';cases e'
 rw [d] at d'
 injection d' with d1 _
 have:its=its':=by simpa using congrArg Array.toList d1
 subst this
 exact r.inj r'
theorem Inv.tuple_inj (I:Inv X pins σ H s) (h:SqT X.K H a xs) (h':SqT X.K H a ys):xs=ys:=by
 obtain ⟨its,r,⟨o,e,_,n,d⟩,_⟩:=I.tuple h
 obtain ⟨its',r',⟨o',e',_,n',d'⟩,_⟩:=I.tuple h'
 rw [e] at e';cases e'
 rw [d] at d'
 injection d' with d1 _
 have:its=its':=by simpa using congrArg Array.toList d1
 subst this
 exact r.inj r'
end
abbrev Cx.wish (X:Cx) (E:Value→Shared→Prop):Cx:= {X with xe:=E}
abbrev Cx.nox (X:Cx):Cx:=X.wish fun _ _=>False
theorem Cx.Ok.wish {X:Cx} (ok:X.Ok) (E:Value→Shared→Prop):(X.wish E).Ok:=
 ⟨ok.mod,ok.kind,ok.glob,ok.blt,ok.above,ok.inj,ok.has,ok.cab,ok.hd,ok.frames,ok.stk,ok.exf,ok.bs,ok.bsz,ok.noex,ok.exfs,ok.funs,ok.frf⟩
theorem Cx.Ok.unwish {X:Cx} {E:Value→Shared→Prop} (ok:(X.wish E).Ok):X.Ok:=
 ⟨ok.mod,ok.kind,ok.glob,ok.blt,ok.above,ok.inj,ok.has,ok.cab,ok.hd,ok.frames,ok.stk,ok.exf,ok.bs,ok.bsz,ok.noex,ok.exfs,ok.funs,ok.frf⟩
section
variable {X:Cx} {pins:List (Addr×Obj)} {σ:St} {H:Hp} {s:Shared} {E:Value→Shared→Prop}
theorem Inv.wish (I:Inv X pins σ H s) (E:Value→Shared→Prop):Inv (X.wish E) pins σ H s:=⟨I.ok.wish E,I.os,I.bare,I.base,I.loc,I.cell,I.free,I.freeC,I.pin,I.hok,I.len⟩
theorem Inv.unwish (I:Inv (X.wish E) pins σ H s):Inv X pins σ H s:=⟨I.ok.unwish,I.os,I.bare,I.base,I.loc,I.cell,I.free,I.freeC,I.pin,I.hok,I.len⟩
theorem SP.unwish {D:Ends} {f:Flow} {s':Shared} (h:SP (X.wish E) pins D f s'):SP X pins D f s':=by
 cases f with
 |next=>obtain ⟨σ',H',I,q⟩:=h;exact ⟨σ',H',I.unwish,q⟩
 |brk=>obtain ⟨σ',H',I,q⟩:=h;exact ⟨σ',H',I.unwish,q⟩
 |cont=>obtain ⟨σ',H',I,q⟩:=h;exact ⟨σ',H',I.unwish,q⟩
 |ret u=>obtain ⟨v,σ',H',I,r,q⟩:=h;exact ⟨v,σ',H',I.unwish,r,q⟩
theorem PE.nox {e:Expr} {t:TE} (h:PE X.nox e t):PE X e t:=fun pins s σ H Q I hw=>
 wpAny_mono (h pins s σ H Q (I.wish _) hw) (fun _ _ ⟨v,H',I',r,q⟩=>⟨v,H',I'.unwish,r,q⟩) fun _ _ z=>False.elim z
theorem PT.nox {e:Expr} {t:TT} (h:PT X.nox e t):PT X e t:=fun pins s σ H Q I hw=>
 wpAny_mono (h pins s σ H Q (I.wish _) hw) (fun _ _ ⟨H',I',q⟩=>⟨H',I'.unwish,q⟩) fun _ _ z=>False.elim z
theorem PSs.nox {st:List Stmt} {t:TS} (h:PSs X.nox st t):PSs X st t:=fun pins s σ H D I hw=>
 wpAny_mono (h pins s σ H D (I.wish _) hw) (fun _ _ q=>q.unwish) fun _ _ z=>False.elim z
end
section
variable {X:Cx} {st:Stmt} {rest:List Stmt} {t u:TS} {e:Expr} {te:TE} {pos:Pos}
def lb:TS:=fun D σ H=>D.nx σ H
def tSeq (t u:TS):TS:=fun D σ H=>t {D with nx:=u D} σ H
theorem ak:PSs X [] lb:=fun _ _ σ H _ I h=>wpAny_execs_nil ⟨σ,H,I,h⟩
theorem ae (h1:PS X st t) (h2:PSs X rest u):PSs X (st::rest) (tSeq t u):=by
 intro pins s σ H D I h
 refine wpAny_execs_cons (thn (h1 pins s σ H {D with nx:=u D} I h) fun f s1 q=> ?_)
 cases f with
 |next=>
  obtain ⟨σ',H',I',q⟩:=q
  exact h2 pins s1 σ' H' D I' q
 |ret v=>exact q
 |brk=>exact q
 |cont=>exact q
theorem ag (h1:PS X st t):PSs X [st] t:=by
 intro pins s σ H D I h
 refine wpAny_execs_cons (thn (h1 pins s σ H D I h) fun f s1 q=> ?_)
 cases f with
 |next=>exact wpAny_execs_nil q
 |ret v=>exact q
 |brk=>exact q
 |cont=>exact q
theorem Inv.quiet {pins:List (Addr×Obj)} {σ:St} {H:Hp} {s:Shared} (I:Inv X pins σ H s):interactive X.env=false:=by simp [interactive,I.ok.kind]
def uD (te:TE):TS:=fun D σ H=>te σ H fun _ H1=>D.nx σ H1
theorem fm (he:PE X e te) (hs:swapsWith e none pos.line X.env=pure false:=by rfl):PS X (.Expr e pos) (uD te):=by
 intro pins s σ H D I h
 exact wpAny_Expr_any (thn (he pins s σ H _ I h) fun v s1 ⟨x,H1,I1,r1,q1⟩=>⟨σ,H1,I1,q1⟩) I.quiet hs
def tRet (te:TE):TS:=fun D σ H=>te σ H D.rt
theorem am (he:PE X e te):PS X (.Return (some e) pos) (tRet te):=by
 intro pins s σ H D I h
 exact wpAny_Return_some (thn (he pins s σ H _ I h) fun v s1 ⟨x,H1,I1,r1,q1⟩=>⟨x,σ,H1,I1,r1,q1⟩)
def tIfS (c:TT) (t u:TS):TS:=fun D σ H=>c σ H fun b H1=>if b=true then t D σ H1 else u D σ H1
theorem aI {c:Expr} {a b:List Stmt} {tc:TT} (hc:PT X c tc) (ha:PSs X a t) (hb:PSs X b u):PS X (.If c a b pos) (tIfS tc t u):=by
 intro pins s σ H D I h
 refine wpAny_If (thn (hc pins s σ H _ I h) fun d s1 ⟨H1,I1,q1⟩=> ?_)
 cases d with
 |true=>exact ha pins s1 σ H1 D I1 q1
 |false=>exact hb pins s1 σ H1 D I1 q1
end
abbrev TG:=V→St→Hp→(St→Hp→Prop)→Prop
abbrev TGs:=List V→St→Hp→(St→Hp→Prop)→Prop
def PG (X:Cx) (target:Expr) (t:TG):Prop:=
 ∀(pins:List (Addr×Obj)) (s:Shared) (σ:St) (H:Hp) (v:V) (u:Value) (Q:St→Hp→Prop),Inv X pins σ H s→RelV v u→t v σ H Q→
  wpAny (model X.prog X.w) X.A (assign target X.env u) (fun _ s'=>∃σ' H',Inv X pins σ' H' s'∧Q σ' H') X.xe s
def PGs (X:Cx) (ts:List Expr) (t:TGs):Prop:=
 ∀(pins:List (Addr×Obj)) (s:Shared) (σ:St) (H:Hp) (vs:List V) (us:List Value) (Q:St→Hp→Prop),Inv X pins σ H s→Vals vs us→t vs σ H Q→
  wpAny (model X.prog X.w) X.A (assignInOrder ((assignEach ts X.env).map (·.2)) us) (fun _ s'=>∃σ' H',Inv X pins σ' H' s'∧Q σ' H') X.xe s
abbrev TSet:=V→V→V→Hp→(Hp→Prop)→Prop
def PSet (X:Cx) (t:TSet):Prop:=
 ∀(pins:List (Addr×Obj)) (s:Shared) (σ:St) (H:Hp) (o i v:V) (ov iv u:Value) (Q:Hp→Prop),Inv X pins σ H s→RelV o ov→RelV i iv→RelV v u→t o i v H Q→
  wpAny (model X.prog X.w) X.A (setItem ov iv u) (fun _ s'=>∃H',Inv X pins σ H' s'∧Q H') X.xe s
section
variable {X:Cx} {pos:Pos}
def aV (i:Nat):TG:=fun v σ H Q=>Q (σ.set i (some v)) H
theorem aK {i:Nat} {x:Str} (hN:X.N.Nodup) (hi:X.N[i]?=some x) (hx:Loc X.env.scope x) (hf:X.fn x=true∨X.env.scope.names.lookup x=some .local:=by first|exact .inl rfl|exact .inr rfl|assumption):PG X (.Name x pos) (aV i):=by
 intro pins s σ H v u Q I r h
 exact wpAny_assign_Name (dM I hN hi hx r (fun s' I'=>⟨_,H,I',h⟩) hf)
def gNil:TGs:=fun vs σ H Q=>vs= []∧Q σ H
def cW (t:TG) (u:TGs):TGs:=fun vs σ H Q=>∃v r,vs=v::r∧t v σ H fun σ' H'=>u r σ' H' Q
theorem e6:PGs X [] gNil:=by
 intro pins s σ H vs us Q I r h
 obtain ⟨e,h⟩:=h
 subst e
 cases r
 exact assignInOrder_nil ⟨σ,H,I,h⟩
theorem br {e:Expr} {es:List Expr} {t:TG} {u:TGs} (h1:PG X e t) (h2:PGs X es u)
 (hs:(assignEach (e::es) X.env).map (·.2)=assign e X.env::(assignEach es X.env).map (·.2):=by rfl):PGs X (e::es) (cW t u):=by
 intro pins s σ H vs us Q I r h
 obtain ⟨v,vr,e1,h⟩:=h
 subst e1
 cases r with
 |cons r rr=>
  rw [hs]
  refine assignInOrder_cons (thn (h1 pins s σ H _ _ _ I r h) fun _ s1 ⟨σ1,H1,I1,q1⟩=> ?_)
  exact h2 pins s1 σ1 H1 _ _ Q I1 rr q1
def gTup (K:PySem.W.Frag) (n:Nat) (t:TGs):TG:=fun v σ H Q=>∃a xs,v= .ref a∧SqT K H a xs∧xs.length=n∧t xs σ H Q
theorem fM {es:List Expr} {k:Nat} {t:TGs} {n:Nat} (hc:X.calm=true) (h:PGs X es t)
 (hn:(assignEach es X.env).length=n:=by rfl) (hst:(assignEach es X.env).findIdx? (·.1)=none:=by rfl):PG X (.Tuple es k pos) (gTup X.K n t):=by
 intro pins s σ H v u Q I r hw
 obtain ⟨a,xs,e1,hq,hl,hw⟩:=hw
 subst e1
 cases r
 obtain ⟨its,rv,ht,hz⟩:=I.tuple hq
 refine assign_Tuple_tuple (I.ok.hd hc) ht (by simp [hn,←hl,rv.length]) hst fun h' hx=> ?_
 have I1:Inv X pins σ H {s with heap:=h'}:=I.kept (t':=s.toks) fun b o e=>hx b o (Nat.ne_of_lt (Heap.lt_size e)) e
 exact h pins _ σ H xs _ Q I1 (by simpa using rv) hw
def gSub (to ti:TE) (t:TSet):TG:=fun v σ H Q=>to σ H fun o H1=>ti σ H1 fun i H2=>t o i v H2 fun H3=>Q σ H3
theorem ka {o i:Expr} {to ti:TE} {t:TSet} (ho:PE X o to) (hi:PE X i ti) (hs:PSet X t)
 (ha:∀v,assign (.Subscript o i pos) X.env v=(do
  let ov←holding [v] (eval o X.env)
  let iv←holding [v,ov] (eval i X.env)
  standAt pos
  holding [v,ov,iv] (setItem ov iv v)
  release [v,ov,iv] []):=by intro _;rfl):PG X (.Subscript o i pos) (gSub to ti t):=by
 intro pins s σ H v u Q I r h
 rw [ha]
 refine wpAny_bind (wpAny_holding (thn (ho pins s σ H _ I h) fun ov s1 ⟨x,H1,I1,r1,q1⟩=> ?_))
 refine wpAny_bind (wpAny_holding (thn (hi pins s1 σ H1 _ I1 q1) fun iv s2 ⟨y,H2,I2,r2,q2⟩=> ?_))
 refine wpAny_bind (wpAny_standAt (wpAny_bind (wpAny_holding (thn (hs pins s2 σ H2 x y v ov iv u _ I2 r1 r2 r q2) fun _ s3 ⟨H3,I3,q3⟩=> ?_))))
 exact wpAny_release ⟨σ,H3,I3,q3⟩
def tAsg (te:TE) (g:TG):TS:=fun D σ H=>te σ H fun x H1=>g x σ H1 D.nx
theorem k9 {tg e:Expr} {te:TE} {g:TG} (he:PE X e te) (hg:PG X tg g) (hs:swapsWithSole [tg] e pos.line X.env=pure false:=by rfl) (hw:swappedStores [tg] e X.env=pure none:=by rfl)
 (h1:(assignEach [tg] X.env).map (·.2)= [assign tg X.env]:=by rfl):PS X (.Assign [tg] e pos) (tAsg te g):=by
 intro pins s σ H D I h
 refine wpAny_Assign_stores (thn (he pins s σ H _ I h) fun v s1 ⟨x,H1,I1,r1,q1⟩=> ?_) hs hw
 rw [h1]
 exact thn (hg pins s1 σ H1 x v _ I1 r1 q1) fun _ s2 q=>q
theorem aH {i:Nat} {x:Str} {e:Expr} {te:TE} {pos':Pos} (hN:X.N.Nodup) (hi:X.N[i]?=some x) (hx:Loc X.env.scope x) (he:PE X e te) (hs:swapsWith e (some (.Name x pos')) pos.line X.env=pure false:=by rfl) (hf:X.fn x=true∨X.env.scope.names.lookup x=some .local:=by first|exact .inl rfl|exact .inr rfl|assumption):
 PS X (.Assign [.Name x pos'] e pos) (tAsg te (aV i)):=by
 intro pins s σ H D I h
 refine wpAny_Assign_Name (thn (he pins s σ H _ I h) fun v s1 ⟨y,H1,I1,r1,q1⟩=> ?_) hs
 exact dM I1 hN hi hx r1 (fun s2 I2=>⟨_,H1,I2,q1⟩) hf
def tPar (i j:Nat) (ta:TA):TS:=fun D σ H=>ta σ H fun vs H1=>∃v w,vs= [v,w]∧D.nx ((σ.set i (some v)).set j (some w)) H1
theorem tL {i j:Nat} {x y:Str} {a b:Expr} {ta:TA} {px py pt:Pos} {kt k2 pt2} (hc:X.calm=true) (hN:X.N.Nodup) (hi:X.N[i]?=some x) (hj:X.N[j]?=some y) (hij:i≠j)
 (hx:X.env.scope.names.lookup x=some .local) (hy:X.env.scope.names.lookup y=some .local) (ha:PA X [a,b] ta)
 (hw:swappedStores [.Tuple [.Name x px, .Name y py] kt pt] (.Tuple [a,b] k2 pt2) X.env=pure (some [x,y]))
 (hs:swapsWithSole [.Tuple [.Name x px, .Name y py] kt pt] (.Tuple [a,b] k2 pt2) pos.line X.env=pure false:=by rfl):
 PS X (.Assign [.Tuple [.Name x px, .Name y py] kt pt] (.Tuple [a,b] k2 pt2) pos) (tPar i j ta):=by
 intro pins s σ H D I h
 rw [exec_Assign_arm]
 refine wpAny_bind (wpAny_standAt ?_)
 rw [hs]
 refine wpAny_bind (wpAny_pure ?_)
 rw [if_neg (by decide)]
 refine wpAny_bind (Tuple_ (thn (ha _ pins s σ H _ I h) fun us s1 ⟨vs,H1,I1,r1,q1⟩=> ?_))
 obtain ⟨v,w,e1,q1⟩:=q1
 subst e1
 obtain ⟨u1,u2,rfl,rv,rw'⟩:∃u1 u2,us= [u1,u2]∧RelV v u1∧RelV w u2:=by
  cases r1 with
  |cons p q=>
   cases q with
   |cons p' q'=>
    cases q'
    exact ⟨_,_,rfl,p,p'⟩
 refine wpAny_newObj_type ?_ (by show 2≤sizeLine;decide)
 have I2:Inv X pins σ H1 {s1 with heap:=s1.heap.push {cls:= .type "tuple",data:= .seq [u1,u2].toArray}}:=I1.kept (t':=s1.toks) fun b o e=>Heap.get?_push_of_some _ e
 rw [hw]
 refine wpAny_bind (wpAny_pure ?_)
 show wpAny (model X.prog X.w) X.A (do rule "assign.swapped-stores";let items←unpackItems (.ref s1.heap.objs.size) 2 none;assignInOrder [fun v=>bindName X.env y v,fun v=>bindName X.env x v] items.reverse;pure Flow.next) _ _ _
 refine wpAny_bind (wpAny_rule (wpAny_bind (unpackItems_tuple (items:= #[u1,u2]) (I.ok.hd hc) (IsTup.new s1.heap _) fun h' hx'=> ?_)))
 have I3:=I2.kept (h':=h') (t':=s1.toks) fun b o e=>hx' b o (Nat.ne_of_lt (Heap.lt_size e)) e
 show wpAny _ _ (assignInOrder [fun v=>bindName X.env y v,fun v=>bindName X.env x v] [u2,u1] >>=fun _=>pure Flow.next) _ _ _
 refine wpAny_bind (assignInOrder_cons (wpAny_bindName (dM I3 hN hj (.inl hy) rw' (fun s2 I4=> ?_) (.inr hy))))
 refine assignInOrder_cons (wpAny_bindName (dM I4 hN hi (.inl hx) rv (fun s3 I5=>assignInOrder_nil (wpAny_pure ?_)) (.inr hx)))
 rw [List.set_comm _ _ (Ne.symm hij)] at I5
 exact ⟨_,H1,I5,q1⟩
end
section
variable {X:Cx} {pos:Pos}
def nW (c:TT) (tb:TS):TS:=fun D σ H=>∃W:Nat→St→Hp→Prop,(∃m,W m σ H)∧∀m σ H,W m σ H→
 c σ H fun b H1=>if b=true then∃N:St→Hp→Prop,(∀σ' H',N σ' H'→∃m',m' < m∧W m' σ' H')∧tb {D with nx:=N,ct:=N,bk:=D.nx} σ H1 else D.nx σ H1
theorem ox {c:Expr} {body:List Stmt} {tc:TT} {tb:TS} (hp:PassesOwn (model X.prog X.w) X.A X.env X.xe) (hc:PT X c tc) (hb:PSs X body tb):PS X (.While c body [] pos) (nW tc tb):=by
 intro pins s σ H D I h
 obtain ⟨W,⟨m0,w0⟩,turn⟩:=h
 refine wpAny_While (codeAny_whileLoop (fun n s'=>∃σ' H',Inv X pins σ' H' s'∧W n σ' H') ?_ m0 ⟨σ,H,I,w0⟩)
 rintro n s1 ⟨σ1,H1,I1,w1⟩
 refine wpAny_passesOwn hp (thn (hc pins s1 σ1 H1 _ I1 (turn n σ1 H1 w1)) fun b s2 ⟨H2,I2,q2⟩=> ?_)
 cases b with
 |true=>
  obtain ⟨N,hN,q2⟩:=q2
  rw [if_pos rfl]
  refine wpAny_passesOwn hp (thn (hb pins s2 σ1 H2 _ I2 q2) fun f s3 q3=> ?_)
  cases f with
  |next=>
   obtain ⟨σ3,H3,I3,n3⟩:=q3
   obtain ⟨m',hm,w3⟩:=hN σ3 H3 n3
   exact ⟨m',hm,σ3,H3,I3,w3⟩
  |cont=>
   obtain ⟨σ3,H3,I3,n3⟩:=q3
   obtain ⟨m',hm,w3⟩:=hN σ3 H3 n3
   exact ⟨m',hm,σ3,H3,I3,w3⟩
  |brk=>exact q3
  |ret v=>exact q3
 |false=>
  rw [if_neg Bool.false_ne_true]
  exact wpAny_execs_nil ⟨σ1,H2,I2,q2⟩
end
structure It where
 go:Nat→Hp→Prop
 yld:Nat→Hp→V→Hp→Prop
 stop:Nat→Hp→Prop
def FpOk (X:Cx) (pins:List (Addr×Obj)) (H:Hp) (b:Addr):Prop:=
 H b=none∧b≠X.env.locals∧b∉X.fs∧(b∈X.ex∨X.s₀.heap.objs.size≤b)∧(∀x c,X.env.cells.lookup x=some c→c≠b)∧∀p∈X.pn++pins,p.1≠b
theorem Inv.fpOk {X:Cx} {pins:List (Addr×Obj)} {σ:St} {H H':Hp} {s:Shared} {b:Addr} (I:Inv X pins σ H s) (hb:s.heap.objs.size≤b) (hn:H' b=none):FpOk X pins H' b:=by
 refine ⟨hn,Nat.ne_of_gt (Nat.lt_of_lt_of_le I.lt hb),I.nofs hb, .inr (Nat.le_trans I.sz hb),fun x c e z=> ?_,fun p hp z=> ?_⟩
 · obtain ⟨v,q⟩:=I.cell x c e
   exact absurd (Nat.lt_of_lt_of_le q.lt (by rw [z];exact hb)) (Nat.lt_irrefl _)
 · exact absurd (Nat.lt_of_lt_of_le (Heap.lt_size (I.pin p hp).1) (by rw [z];exact hb)) (Nat.lt_irrefl _)
structure Turn (P:Program) (w:World) (K:PySem.W.Frag) (tg:Expr) (J:It) (fp:List Addr) (it:Addr) (tn:Nat→Heap→Prop):Prop where
 mem:it∈fp
 obj:∀i h,tn i h→∀b∈fp,∃o,h.get? b=some o∧∀v,o.data≠ .cell v
 keep:∀i h h',tn i h→(∀b∈fp,∀o,h.get? b=some o→h'.get? b=some o)→tn i h'
 item:∀(X:Cx),X.prog=P→X.w=w→X.K=K→X.calm=true→∀(i:Nat) (pins:List (Addr×Obj)) (s:Shared) (σ:St) (H:Hp) (E:Value→Shared→Prop),Inv X pins σ H s→(∀b∈fp,FpOk X pins H b)→tn i s.heap→J.go i H→
  wpAny (model P w) X.A (pyNext (.ref it)) (fun r s1=>∃u,r=some u∧
   wpAny (model P w) X.A (letOwnedTupleGo tg (.ref it) u) (fun _ s2=>∃x H',Inv X pins σ H' s2∧RelV x u∧J.yld i H x H'∧tn (i+1) s2.heap∧∀b∈fp,H' b=none) E s1) E s
 done:∀(X:Cx),X.prog=P→X.w=w→X.K=K→X.calm=true→∀(i:Nat) (pins:List (Addr×Obj)) (s:Shared) (σ:St) (H:Hp) (E:Value→Shared→Prop),Inv X pins σ H s→(∀b∈fp,FpOk X pins H b)→tn i s.heap→J.stop i H→
  wpAny (model P w) X.A (pyNext (.ref it)) (fun r s1=>r=none∧Inv X pins σ H s1) E s
 self:∀(A:Around) (i:Nat) (s:Shared) (Q:Value→Shared→Prop) (E:Value→Shared→Prop),tn i s.heap→Q (.ref it) s→wpAny (model P w) A (pyIter (.ref it)) Q E s
abbrev TI:=St→Hp→(It→Hp→Prop)→Prop
def PIE (X:Cx) (pins:List (Addr×Obj)) (σ:St) (tg:Expr) (R:It→Hp→Prop) (itv:Value) (s2:Shared):Prop:=
 ∃(it:Addr) (fp:List Addr) (tn:Nat→Heap→Prop) (J:It) (H':Hp),itv= .ref it∧Inv X pins σ H' s2∧Turn X.prog X.w X.K tg J fp it tn∧tn 0 s2.heap∧(∀b∈fp,FpOk X pins H' b)∧R J H'
def PI (X:Cx) (tg iter:Expr) (wi:TI):Prop:=
 ∀(pins:List (Addr×Obj)) (s:Shared) (σ:St) (H:Hp) (R:It→Hp→Prop),Inv X pins σ H s→wi σ H R→
  wpAny (model X.prog X.w) X.A (eval iter X.env) (fun v s1=>wpAny (model X.prog X.w) X.A (pyIter v) (PIE X pins σ tg R) X.xe s1) X.xe s
theorem pi {M:Model} {A:Around} {E:Value→Shared→Prop} {s:Shared} {tg:Expr} {it:Addr} {u:Value} {o:Obj} {n:String} {vs:Array Value} {Q:Unit→Shared→Prop} (ho:s.heap.get? it=some o) (hc:o.cls= .type n) (hd:o.data= .fields vs)
 (hn: ["enumerate","zip","dict_itemiterator","dict_reverseitemiterator","odict_iterator","itertools.zip_longest","itertools.pairwise"].contains n=false) (hQ:Q () s):wpAny M A (letOwnedTupleGo tg (.ref it) u) Q E s:=by
 unfold letOwnedTupleGo
 cases tg<;>first
  |exact wpAny_pure hQ
  |(cases u<;>first
     |exact wpAny_pure hQ
     |(refine wpAny_bind (wpAny_load ho ?_)
       rw [hc,hd]
       show wpAny M A (if (["enumerate","zip","dict_itemiterator","dict_reverseitemiterator","odict_iterator","itertools.zip_longest","itertools.pairwise"].contains n&&vs[0]?==some (rawInt _))=true then _ else _) Q E s
       rw [if_neg (by intro h;rw [hn,Bool.false_and] at h;cases h)]
       exact wpAny_pure hQ))
def Itl (K:PySem.W.Frag) (a:Addr):It:=
 ⟨fun i H=>∃xs x,SqL K H a xs∧xs[i]?=some x,fun i H x H'=>H'=H∧∀xs,SqL K H a xs→xs[i]?=some x,fun i H=>∃xs,SqL K H a xs∧xs.length≤i⟩
def Itt (K:PySem.W.Frag) (a:Addr):It:=
 ⟨fun i H=>∃xs x,SqT K H a xs∧xs[i]?=some x,fun i H x H'=>H'=H∧∀xs,SqT K H a xs→xs[i]?=some x,fun i H=>∃xs,SqT K H a xs∧xs.length≤i⟩
def Itr (lo:Int) (n:Nat):It:=⟨fun i _=>i < n,fun i H x H'=>H'=H∧x= .int (lo+i),fun i _=>n≤i⟩
theorem m6 {P:Program} {w:World} {K:PySem.W.Frag} {tg:Expr} (a it:Addr):Turn P w K tg (Itl K a) [it] it (fun i h=>h.IsListIter it a i) where
 mem:=by simp
 obj:=fun i h st b hb=>by
  have e:b=it:=by simpa using hb
  subst e
  obtain ⟨o,e,c,d⟩:=st
  exact ⟨o,e,fun v z=>by rw [d] at z;cases z⟩
 keep:=fun i h h' st k=>st.at fun o e=>k it (by simp) o e
 item:=by
  intro X hP hw hK hc i pins s σ H E I hf st hg
  subst hP hw hK
  obtain ⟨xs,x,hq,hx⟩:=hg
  obtain ⟨its,rv,p,hz⟩:=I.list hq
  obtain ⟨u,hu,ru⟩:=rv.get hx
  obtain ⟨f0,f1,f2,f3,f4,f5⟩:=hf it (by simp)
  refine wpAny_pyNext_list_item st p.isList (x:=u) (by simpa using hu) fun h' st' sb=> ?_
  have I1:Inv X pins σ H {s with heap:=h'}:=I.turned (t':=s.toks) (fun b o hb e=>(sb.2 b hb).trans e) f0 f1 f3 f4 f5
  obtain ⟨o,e,c,d⟩:=id st'
  exact ⟨u,rfl,pi (s:= {s with heap:=h'}) e c d (by decide) ⟨x,H,I1,ru,⟨rfl,fun ys hy=>by rw [I.list_inj hy hq];exact hx⟩,st',fun b hb=>(hf b hb).1⟩⟩
 done:=by
  intro X hP hw hK hc i pins s σ H E I hf st hg
  subst hP hw hK
  obtain ⟨xs,hq,hx⟩:=hg
  obtain ⟨its,rv,p,hz⟩:=I.list hq
  obtain ⟨f0,f1,f2,f3,f4,f5⟩:=hf it (by simp)
  have hl:=rv.length
  exact wpAny_pyNext_list_end (I.ok.hd hc) st p.isList (by simp;omega) fun h' eb=>⟨rfl,I.turned (t':=s.toks) (fun b o hb e=>eb b o hb e) f0 f1 f3 f4 f5⟩
 self:=fun _ _ _ _ _ st h=>wpAny_pyIter_listiter st h
theorem jU {P:Program} {w:World} {K:PySem.W.Frag} {tg:Expr} (a it:Addr):Turn P w K tg (Itt K a) [it] it (fun i h=>h.IsTupleIter it a i) where
 mem:=by simp
 obj:=fun i h st b hb=>by
  have e:b=it:=by simpa using hb
  subst e
  obtain ⟨o,e,c,d⟩:=st
  exact ⟨o,e,fun v z=>by rw [d] at z;cases z⟩
 keep:=fun i h h' st k=>st.at fun o e=>k it (by simp) o e
 item:=by
  intro X hP hw hK hc i pins s σ H E I hf st hg
  subst hP hw hK
  obtain ⟨xs,x,hq,hx⟩:=hg
  obtain ⟨its,rv,p,hz⟩:=I.tuple hq
  obtain ⟨u,hu,ru⟩:=rv.get hx
  obtain ⟨f0,f1,f2,f3,f4,f5⟩:=hf it (by simp)
  refine wpAny_pyNext_tuple_item st (show s.heap.IsTuple a its.toArray from p) (x:=u) (by simpa using hu) fun h' st' sb=> ?_
  have I1:Inv X pins σ H {s with heap:=h'}:=I.turned (t':=s.toks) (fun b o hb e=>(sb.2 b hb).trans e) f0 f1 f3 f4 f5
  obtain ⟨o,e,c,d⟩:=id st'
  exact ⟨u,rfl,pi (s:= {s with heap:=h'}) e c d (by decide) ⟨x,H,I1,ru,⟨rfl,fun ys hy=>by rw [I.tuple_inj hy hq];exact hx⟩,st',fun b hb=>(hf b hb).1⟩⟩
 done:=by
  intro X hP hw hK hc i pins s σ H E I hf st hg
  subst hP hw hK
  obtain ⟨xs,hq,hx⟩:=hg
  obtain ⟨its,rv,p,hz⟩:=I.tuple hq
  obtain ⟨f0,f1,f2,f3,f4,f5⟩:=hf it (by simp)
  have hl:=rv.length
  exact wpAny_pyNext_tuple_end (I.ok.hd hc) st (show s.heap.IsTuple a its.toArray from p) (by simp;omega) fun h' eb=>⟨rfl,I.turned (t':=s.toks) (fun b o hb e=>eb b o hb e) f0 f1 f3 f4 f5⟩
 self:=fun _ _ _ _ _ st h=>wpAny_pyIter_tupleiter st h
theorem jV {P:Program} {w:World} {K:PySem.W.Frag} {tg:Expr} (it:Addr) (lo:Int) (n:Nat):Turn P w K tg (Itr lo n) [it] it (fun i h=>IsRangeIter h it (lo+(i:Nat)*1) ((n:Int) - (i:Nat)) 1) where
 mem:=by simp
 obj:=fun i h st b hb=>by
  have e:b=it:=by simpa using hb
  subst e
  exact ⟨_,st,fun v z=>by
   have z':Data.fields _=Data.cell v:=z
   cases z'⟩
 keep:=fun i h h' st k=>k it (by simp) _ st
 item:=by
  intro X hP hw hK hc i pins s σ H E I hf st hg
  subst hP hw hK
  obtain ⟨f0,f1,f2,f3,f4,f5⟩:=hf it (by simp)
  have W:=Walks.range (prog:=X.prog) (w:=X.w) (I.ok.hd hc) it lo 1 n
  refine W.item i s _ _ hg st fun v h' tk hv st' kk=> ?_
  obtain ⟨t,rfl⟩:=hv
  have I1:Inv X pins σ H {s with heap:=h',toks:=tk}:=I.turned (fun b o hb e=>kk b o (by simpa using hb) e) f0 f1 f3 f4 f5
  refine ⟨_,rfl,pi (s:= {s with heap:=h',toks:=tk}) (n:="range_iterator") st' rfl rfl (by decide) ⟨.int (lo+i),H,I1,⟨t,?_⟩,⟨rfl,rfl⟩,st',fun b hb=>(hf b hb).1⟩⟩
  rw [Int.mul_one]
 done:=by
  intro X hP hw hK hc i pins s σ H E I hf st hg
  subst hP hw hK
  obtain ⟨f0,f1,f2,f3,f4,f5⟩:=hf it (by simp)
  exact wpAny_pyNext_range_end (I.ok.hd hc) st (by have:n≤i:=hg;omega) fun h' eb=>⟨rfl,I.turned (t':=s.toks) (fun b o hb e=>eb b o hb e) f0 f1 f3 f4 f5⟩
 self:=fun _ _ _ _ _ st h=>wpAny_pyIter_rangeiter st h
open PySem PySem.Spec PyProof.Rows
section
variable {X:Cx} {tg:Expr}
def vd (K:PySem.W.Frag) (tl:TE):TI:=fun σ H R=>tl σ H fun x H1=>∃a,x= .ref a∧(∃xs,SqL K H1 a xs)∧R (Itl K a) H1
def iTup (K:PySem.W.Frag) (tl:TE):TI:=fun σ H R=>tl σ H fun x H1=>∃a,x= .ref a∧(∃xs,SqT K H1 a xs)∧R (Itt K a) H1
theorem cm {l:Expr} {tl:TE} (hl:PE X l tl):PI X tg l (vd X.K tl):=by
 intro pins s σ H R I h
 refine thn (hl pins s σ H _ I h) fun v s1 ⟨x,H1,I1,r1,q1⟩=> ?_
 obtain ⟨a,e,⟨xs,hq⟩,q⟩:=q1
 subst e
 cases r1
 obtain ⟨its,rv,p,hz⟩:=I1.list hq
 refine wpAny_pyIter_list p.isList ?_
 refine ⟨s1.heap.objs.size,[s1.heap.objs.size],_,_,H1,rfl,I1.kept (t':=s1.toks) fun b o e=>Heap.get?_push_of_some _ e,m6 a _,⟨_,Heap.get?_push_size _ rfl,rfl,rfl⟩,fun b hb=> ?_,q⟩
 have e:b=s1.heap.objs.size:=by simpa using hb
 subst e
 exact I1.fpOk (Nat.le_refl _) (I1.hok.fresh (Nat.le_refl _))
theorem fK {l:Expr} {tl:TE} (hl:PE X l tl):PI X tg l (iTup X.K tl):=by
 intro pins s σ H R I h
 refine thn (hl pins s σ H _ I h) fun v s1 ⟨x,H1,I1,r1,q1⟩=> ?_
 obtain ⟨a,e,⟨xs,hq⟩,q⟩:=q1
 subst e
 cases r1
 obtain ⟨its,rv,p,hz⟩:=I1.tuple hq
 refine wpAny_pyIter_tuple (show s1.heap.IsTuple a its.toArray from p) ?_
 refine ⟨s1.heap.objs.size,[s1.heap.objs.size],_,_,H1,rfl,I1.kept (t':=s1.toks) fun b o e=>Heap.get?_push_of_some _ e,jU a _,⟨_,Heap.get?_push_size _ rfl,rfl,rfl⟩,fun b hb=> ?_,q⟩
 have e:b=s1.heap.objs.size:=by simpa using hb
 subst e
 exact I1.fpOk (Nat.le_refl _) (I1.hok.fresh (Nat.le_refl _))
theorem oo {pins:List (Addr×Obj)} {σ:St} {H:Hp} {s:Shared} {R:It→Hp→Prop} {E:Value→Shared→Prop} {lo hi:Int} {t u v:Tok} {tk:Nat} (I:Inv X pins σ H s) (h1:-(2^62)≤lo) (h2:lo < 2^62) (h3:-(2^62)≤hi) (h4:hi < 2^62)
 (q:R (Itr lo (hi - lo).toNat) H):wpAny (model X.prog X.w) X.A (pyIter (.ref s.heap.objs.size)) (PIE X pins σ tg R) E {s with heap:=s.heap.push {cls:= .type "range",data:= .fields #[.int lo t, .int hi u, .int 1 v]},toks:=tk}:=by
 refine wpAny_pyIter_range (IsRange.new ..) (small_one h1 h2 h3 h4) ?_
 have I1:Inv X pins σ H {s with heap:=s.heap.push {cls:= .type "range",data:= .fields #[.int lo t, .int hi u, .int 1 v]},toks:=tk}:=I.kept fun b o e=>Heap.get?_push_of_some _ e
 refine ⟨(s.heap.push {cls:= .type "range",data:= .fields #[.int lo t, .int hi u, .int 1 v]}).objs.size,[(s.heap.push {cls:= .type "range",data:= .fields #[.int lo t, .int hi u, .int 1 v]}).objs.size],_,_,H,rfl,
  I1.kept (t':=tk) fun b o e=>Heap.get?_push_of_some _ e,jV _ lo (hi - lo).toNat,?_,fun b hb=> ?_,q⟩
 · have e1:lo+((0:Nat):Int)*1=lo:=by simp
   have e2:(((hi - lo).toNat:Nat):Int) - ((0:Nat):Int)=Builtin.Range.rangeSize lo hi 1:=by rw [rangeSize_one];split<;>omega
   show IsRangeIter _ _ (lo+((0:Nat):Int)*1) ((((hi - lo).toNat:Nat):Int) - ((0:Nat):Int)) 1
   rw [e1,e2]
   exact Heap.get?_push_size _ rfl
 · have e:b=(s.heap.push {cls:= .type "range",data:= .fields #[.int lo t, .int hi u, .int 1 v]}).objs.size:=by simpa using hb
   subst e
   exact I1.fpOk (Nat.le_refl _) (I1.hok.fresh (Nat.le_refl _))
def vc (ta:TA):TI:=fun σ H R=>ta σ H fun vs H1=>∃j:Int,vs= [.int j]∧ -(2^62)≤j∧j < 2^62∧R (Itr 0 j.toNat) H1
theorem cb {a:Expr} {ta:TA} {p pos:Pos} (hg:Gl X "range") (hm:X.mg "range"=none) (ha:PA X [a] ta) (hs:starEach [a] X.env= [(false,eval a X.env)]:=by rfl):PI X tg (.Call (.Name "range" p) [a] [] pos) (vc ta):=by
 intro pins s σ H R I h
 refine Call_ (f8 I hg hm boot_range (PyProof.Rows.callWith_type1 (thn (ha pos pins s σ H _ I h) fun us s1 ⟨vs,H1,I1,r1,q1⟩=> ?_) hs rfl))
 obtain ⟨j,e,q1,q2,q⟩:=q1
 subst e
 cases r1 with
 |cons r rr=>
  cases rr
  obtain ⟨t,rfl⟩:=r
  exact call_range_1 (oo I1 (by omega) (by omega) q1 q2 (by simpa using q))
def tFor (wi:TI) (g:TG) (tb:TS):TS:=fun D σ H=>wi σ H fun J H1=>∃W:Nat→Nat→St→Hp→Prop,(∃m,W 0 m σ H1)∧∀i m σ H,W i m σ H→
 (J.stop i H∧D.nx σ H)∨(J.go i H∧∃N:St→Hp→Prop,(∀σ' H',N σ' H'→∃m',m' < m∧W (i+1) m' σ' H')∧∀x H',J.yld i H x H'→g x σ H' fun σ2 H2=>tb {D with nx:=N,ct:=N,bk:=D.nx} σ2 H2)
noncomputable def eY (fp:List Addr) (h:Heap):List (Addr×Obj):=fp.filterMap fun b=>(h.get? b).map fun o=>(b,o)
theorem bG {fp:List Addr} {h:Heap} {b:Addr} {o:Obj} (hb:b∈fp) (e:h.get? b=some o):(b,o)∈eY fp h:=List.mem_filterMap.mpr ⟨b,hb,by rw [e];rfl⟩
theorem mw {fp:List Addr} {h:Heap} {p:Addr×Obj} (hp:p∈eY fp h):p.1∈fp∧h.get? p.1=some p.2:=by
 obtain ⟨b,hb,e⟩:=List.mem_filterMap.mp hp
 cases q:h.get? b with
 |none=>rw [q] at e;cases e
 |some o=>
  rw [q] at e
  have e':(b,o)=p:=Option.some.inj e
  subst e'
  exact ⟨hb,q⟩
theorem Inv.pinned {pins:List (Addr×Obj)} {σ:St} {H:Hp} {s:Shared} {fp:List Addr} (I:Inv X pins σ H s) (hf:∀b∈fp,FpOk X pins H b) (ho:∀b∈fp,∃o,s.heap.get? b=some o∧∀v,o.data≠ .cell v):Inv X (pins++eY fp s.heap) σ H s:=
 I.pins_of fun p hp=>(List.mem_append.mp hp).elim (fun z=>I.pin p (List.mem_append_right _ z)) fun z=>by
  obtain ⟨hb,e⟩:=mw z
  obtain ⟨f0,f1,f2,_⟩:=hf p.1 hb
  obtain ⟨o,e',d⟩:=ho p.1 hb
  rw [e] at e';cases e'
  exact ⟨e,f0,f1,f2,d⟩
theorem Inv.unpinned {pins pl:List (Addr×Obj)} {σ:St} {H:Hp} {s:Shared} (I:Inv X (pins++pl) σ H s):Inv X pins σ H s:=I.pins_of fun p hp=>I.pin p (List.mem_append_right _ (List.mem_append_left _ hp))
theorem cJ {iter:Expr} {body:List Stmt} {wi:TI} {g:TG} {tb:TS} {pos:Pos} (hp:PassesOwn (model X.prog X.w) X.A X.env X.xe) (hc:X.calm=true) (hi:PI X tg iter wi) (hg:PG X tg g) (hb:PSs X body tb)
 (hs:∀x,foldedSetIterable iter X.env x=pure x:=by intro _;rfl):PS X (.For tg iter body [] pos) (tFor wi g tb):=by
 intro pins s σ H D I h
 refine wpAny_For (thn (hi pins s σ H _ I h) fun v s1 h1=>thn h1 fun itv s2 h2=> ?_) hs
 obtain ⟨it,fp,tn,J,H2,e,I2,T,st2,f2,W,⟨m0,w0⟩,turn⟩:=h2
 subst e
 have stat:∀ {H':Hp},(∀b∈fp,H' b=none)→∀b∈fp,FpOk X pins H' b:=fun hn b hb=>⟨hn b hb,(f2 b hb).2⟩
 refine codeAny_forLoop_any (fun n s'=>∃i σ' H',Inv X pins σ' H' s'∧tn i s'.heap∧(∀b∈fp,H' b=none)∧W i n σ' H') ?_ m0 ⟨0,σ,H2,I2,st2,fun b hb=>(f2 b hb).1,w0⟩
 rintro n s3 ⟨i,σ3,H3,I3,st3,fr3,w3⟩
 rcases turn i n σ3 H3 w3 with ⟨stop,qn⟩|⟨go,N,hN,step⟩
 · refine wpAny_passesOwn hp (thn (T.done X rfl rfl rfl hc i pins s3 σ3 H3 X.xe I3 (stat fr3) st3 stop) fun r s4 ⟨hr,I4⟩=> ?_)
   subst hr
   exact wpAny_execs_nil ⟨σ3,H3,I4,qn⟩
 · refine wpAny_passesOwn hp (thn (T.item X rfl rfl rfl hc i pins s3 σ3 H3 X.xe I3 (stat fr3) st3 go) fun r s4 ⟨u,hr,h4⟩=> ?_)
   subst hr
   refine wpAny_passesOwn hp (thn h4 fun _ s5 ⟨x,H5,I5,r5,y5,st5,fr5⟩=> ?_)
   have I5':=I5.pinned (stat fr5) (T.obj _ _ st5)
   refine wpAny_passesOwn hp (thn (hg _ s5 σ3 H5 x u _ I5' r5 (step x H5 y5)) fun _ s6 ⟨σ6,H6,I6,q6⟩=> ?_)
   refine wpAny_passesOwn hp (thn (hb _ s6 σ6 H6 _ I6 q6) fun f s7 q7=> ?_)
   have again:∀ {σ7:St} {H7:Hp},Inv X (pins++eY fp s5.heap) σ7 H7 s7→N σ7 H7→∃m,m < n∧∃i σ' H',Inv X pins σ' H' s7∧tn i s7.heap∧(∀b∈fp,H' b=none)∧W i m σ' H':=fun {σ7 H7} I7 n7=>by
    obtain ⟨m',hm,w7⟩:=hN σ7 H7 n7
    refine ⟨m',hm,i+1,σ7,H7,I7.unpinned,T.keep _ _ _ st5 fun b hb o e=>(I7.pin (b,o) (List.mem_append_right _ (List.mem_append_right _ (bG hb e)))).1,fun b hb=> ?_,w7⟩
    obtain ⟨o,e,d⟩:=T.obj _ _ st5 b hb
    exact (I7.pin (b,o) (List.mem_append_right _ (List.mem_append_right _ (bG hb e)))).2.1
   cases f with
   |next=>obtain ⟨σ7,H7,I7,n7⟩:=q7;exact again I7 n7
   |cont=>obtain ⟨σ7,H7,I7,n7⟩:=q7;exact again I7 n7
   |brk=>obtain ⟨σ7,H7,I7,q7⟩:=q7;exact ⟨σ7,H7,I7.unpinned,q7⟩
   |ret v=>obtain ⟨x7,σ7,H7,I7,r7,q7⟩:=q7;exact ⟨x7,σ7,H7,I7.unpinned,r7,q7⟩
end
theorem cD {K:PySem.W.Frag} {a:Addr} {xs:List V} {g:TG} {tb:TS} {D:Ends} {σ:St} {H:Hp} (Pv:Nat→St→Hp→Prop) (h0:Pv 0 σ H) (hl:∀i σ H,i≤xs.length→Pv i σ H→SqL K H a xs)
 (hs:∀i x σ H,xs[i]?=some x→Pv i σ H→g x σ H fun σ2 H2=>tb {D with nx:=Pv (i+1),ct:=Pv (i+1),bk:=D.nx} σ2 H2) (hd:∀σ H,Pv xs.length σ H→D.nx σ H):
 ∃W:Nat→Nat→St→Hp→Prop,(∃m,W 0 m σ H)∧∀i m σ H,W i m σ H→
  ((Itl K a).stop i H∧D.nx σ H)∨((Itl K a).go i H∧∃N:St→Hp→Prop,(∀σ' H',N σ' H'→∃m',m' < m∧W (i+1) m' σ' H')∧∀x H',(Itl K a).yld i H x H'→g x σ H' fun σ2 H2=>tb {D with nx:=N,ct:=N,bk:=D.nx} σ2 H2):=by
 refine ⟨fun i m σ H=>m=xs.length - i∧i≤xs.length∧Pv i σ H,⟨xs.length,by simp,Nat.zero_le _,h0⟩,?_⟩
 rintro i m σ H ⟨rfl,hi,p⟩
 have q:=hl i σ H hi p
 by_cases hlt:i < xs.length
 · refine .inr ⟨⟨xs,xs[i],q,by simp [hlt]⟩,Pv (i+1),fun σ' H' p'=>⟨xs.length - (i+1),by omega,rfl,hlt,p'⟩,fun x H' y=> ?_⟩
   obtain ⟨e,y⟩:=y
   subst e
   exact hs i x σ _ (y xs q) p
 · have e:i=xs.length:=by omega
   subst e
   exact .inl ⟨⟨xs,q,Nat.le_refl _⟩,hd σ H p⟩
theorem rJ {K:PySem.W.Frag} {a:Addr} {xs:List V} {g:TG} {tb:TS} {D:Ends} {σ:St} {H:Hp} (Pv:Nat→St→Hp→Prop) (h0:Pv 0 σ H) (hl:∀i σ H,i≤xs.length→Pv i σ H→SqT K H a xs)
 (hs:∀i x σ H,xs[i]?=some x→Pv i σ H→g x σ H fun σ2 H2=>tb {D with nx:=Pv (i+1),ct:=Pv (i+1),bk:=D.nx} σ2 H2) (hd:∀σ H,Pv xs.length σ H→D.nx σ H):
 ∃W:Nat→Nat→St→Hp→Prop,(∃m,W 0 m σ H)∧∀i m σ H,W i m σ H→
  ((Itt K a).stop i H∧D.nx σ H)∨((Itt K a).go i H∧∃N:St→Hp→Prop,(∀σ' H',N σ' H'→∃m',m' < m∧W (i+1) m' σ' H')∧∀x H',(Itt K a).yld i H x H'→g x σ H' fun σ2 H2=>tb {D with nx:=N,ct:=N,bk:=D.nx} σ2 H2):=by
 refine ⟨fun i m σ H=>m=xs.length - i∧i≤xs.length∧Pv i σ H,⟨xs.length,by simp,Nat.zero_le _,h0⟩,?_⟩
 rintro i m σ H ⟨rfl,hi,p⟩
 have q:=hl i σ H hi p
 by_cases hlt:i < xs.length
 · refine .inr ⟨⟨xs,xs[i],q,by simp [hlt]⟩,Pv (i+1),fun σ' H' p'=>⟨xs.length - (i+1),by omega,rfl,hlt,p'⟩,fun x H' y=> ?_⟩
   obtain ⟨e,y⟩:=y
   subst e
   exact hs i x σ _ (y xs q) p
 · have e:i=xs.length:=by omega
   subst e
   exact .inl ⟨⟨xs,q,Nat.le_refl _⟩,hd σ H p⟩
theorem ij {lo:Int} {n:Nat} {g:TG} {tb:TS} {D:Ends} {σ:St} {H:Hp} (Pv:Nat→St→Hp→Prop) (h0:Pv 0 σ H)
 (hs:∀i σ H,i < n→Pv i σ H→g (.int (lo+i)) σ H fun σ2 H2=>tb {D with nx:=Pv (i+1),ct:=Pv (i+1),bk:=D.nx} σ2 H2) (hd:∀σ H,Pv n σ H→D.nx σ H):
 ∃W:Nat→Nat→St→Hp→Prop,(∃m,W 0 m σ H)∧∀i m σ H,W i m σ H→
  ((Itr lo n).stop i H∧D.nx σ H)∨((Itr lo n).go i H∧∃N:St→Hp→Prop,(∀σ' H',N σ' H'→∃m',m' < m∧W (i+1) m' σ' H')∧∀x H',(Itr lo n).yld i H x H'→g x σ H' fun σ2 H2=>tb {D with nx:=N,ct:=N,bk:=D.nx} σ2 H2):=by
 refine ⟨fun i m σ H=>m=n - i∧i≤n∧Pv i σ H,⟨n,by simp,Nat.zero_le _,h0⟩,?_⟩
 rintro i m σ H ⟨rfl,hi,p⟩
 by_cases hlt:i < n
 · refine .inr ⟨hlt,Pv (i+1),fun σ' H' p'=>⟨n - (i+1),by omega,rfl,hlt,p'⟩,fun x H' y=> ?_⟩
   obtain ⟨e,y⟩:=y
   subst e y
   exact hs i σ _ hlt p
 · have e:i=n:=by omega
   subst e
   exact .inl ⟨Nat.le_refl _,hd σ H p⟩
theorem nu {c:TT} {tb:TS} {D:Ends} {σ:St} {H:Hp} (Pv:St→Hp→Prop) (μ:St→Hp→Nat) (h0:Pv σ H)
 (hs:∀σ H,Pv σ H→c σ H fun b H1=>if b=true then tb {D with nx:=fun σ' H'=>Pv σ' H'∧μ σ' H' < μ σ H,ct:=fun σ' H'=>Pv σ' H'∧μ σ' H' < μ σ H,bk:=D.nx} σ H1 else D.nx σ H1)
 (mono:∀σ H Q Q',(∀b H1,Q b H1→Q' b H1)→c σ H Q→c σ H Q'):nW c tb D σ H:=by
 refine ⟨fun m σ H=>m=μ σ H∧Pv σ H,⟨_,rfl,h0⟩,?_⟩
 rintro m σ H ⟨rfl,p⟩
 refine mono σ H _ _ (fun b H1 q=> ?_) (hs σ H p)
 cases b with
 |true=>exact ⟨_,fun σ' H' ⟨p',l⟩=>⟨_,l,rfl,p'⟩,q⟩
 |false=>exact q
open PySem PySem.Spec PyProof.Rows
abbrev R2:=V→V→Hp→VK→Prop
def OpR (X:Cx) (f:Value→Value→Sem Value) (r:R2):Prop:=
 ∀(pins:List (Addr×Obj)) (s:Shared) (σ:St) (H:Hp) (x y:V) (v u:Value) (Q:VK),Inv X pins σ H s→RelV x v→RelV y u→r x y H Q→
  wpAny (model X.prog X.w) X.A (f v u) (EP X pins σ Q) X.xe s
def UnR (X:Cx) (f:Value→Sem Value) (r:V→Hp→VK→Prop):Prop:=
 ∀(pins:List (Addr×Obj)) (s:Shared) (σ:St) (H:Hp) (x:V) (v:Value) (Q:VK),Inv X pins σ H s→RelV x v→r x H Q→
  wpAny (model X.prog X.w) X.A (f v) (EP X pins σ Q) X.xe s
def CallR (X:Cx) (f:Value) (r:List V→Hp→VK→Prop):Prop:=
 ∀(pins:List (Addr×Obj)) (s:Shared) (σ:St) (H:Hp) (xs:List V) (us:List Value) (Q:VK),Inv X pins σ H s→Vals xs us→r xs H Q→
  wpAny (model X.prog X.w) X.A (call f us) (EP X pins σ Q) X.xe s
def TruR (X:Cx) (r:V→Hp→(Bool→Hp→Prop)→Prop):Prop:=
 ∀(pins:List (Addr×Obj)) (s:Shared) (σ:St) (H:Hp) (x:V) (v:Value) (Q:Bool→Hp→Prop),Inv X pins σ H s→RelV x v→r x H Q→
  wpAny (model X.prog X.w) X.A (truthy v) (TP X pins σ Q) X.xe s
def tOp (r:R2) (ta tb:TE):TE:=fun σ H Q=>ta σ H fun x H1=>tb σ H1 fun y H2=>r x y H2 Q
def tUn (r:V→Hp→VK→Prop) (ta:TE):TE:=fun σ H Q=>ta σ H fun x H1=>r x H1 Q
def rI (C:Int→Int→Prop) (g:Int→Int→V):R2:=fun x y H Q=>∃i j,x= .int i∧y= .int j∧C i j∧Q (g i j) H
def rI0 (g:Int→Int→V):R2:=fun x y H Q=>∃i j,x= .int i∧y= .int j∧Q (g i j) H
def rU (g:Int→V):V→Hp→VK→Prop:=fun x H Q=>∃i,x= .int i∧Q (g i) H
section
variable {X:Cx} {a b c:Expr} {ta tb tc:TE} {pos:Pos}
theorem binT (ha:PE X a ta) (hb:PE X b tb) {pins:List (Addr×Obj)} {s:Shared} {σ:St} {H:Hp} {R:V→V→Hp→Prop} (I:Inv X pins σ H s)
 (h:ta σ H fun x H1=>tb σ H1 fun y H2=>R x y H2) {Q:Value→Shared→Prop} {f:Value→Value→Sem Value}
 (hf:∀v u s2 x y H2,Inv X pins σ H2 s2→RelV x v→RelV y u→R x y H2→wpAny (model X.prog X.w) X.A (f v u) Q X.xe s2):
 wpAny (model X.prog X.w) X.A (eval a X.env) (fun v s₁=>wpAny (model X.prog X.w) X.A (eval b X.env) (fun u s₂=>wpAny (model X.prog X.w) X.A (f v u) Q X.xe s₂) X.xe s₁) X.xe s:=by
 refine thn (ha pins s σ H _ I h) fun v s1 ⟨x,H1,I1,r1,q1⟩=> ?_
 refine thn (hb pins s1 σ H1 _ I1 q1) fun u s2 ⟨y,H2,I2,r2,q2⟩=> ?_
 exact hf v u s2 x y H2 I2 r1 r2 q2
theorem aE {op:Operator} {r:R2} (ho:OpR X (binaryOp op) r) (ha:PE X a ta) (hb:PE X b tb):PE X (.BinOp a op b pos) (tOp r ta tb):=by
 intro pins s σ H Q I h
 exact wpAny_BinOp (binT ha hb I h fun v u s2 x y H2 I2 rx ry q=>ho pins s2 σ H2 x y v u Q I2 rx ry q)
theorem dm {op:UnaryOp} {r:V→Hp→VK→Prop} (ho:UnR X (unaryOp op) r) (ha:PE X a ta):PE X (.UnaryOp op a pos) (tUn r ta):=by
 intro pins s σ H Q I h
 exact UnaryOp_ (thn (ha pins s σ H _ I h) fun v s1 ⟨x,H1,I1,r1,q1⟩=>ho pins s1 σ H1 x v Q I1 r1 q1)
theorem opI {f:Value→Value→Sem Value} {C:Int→Int→Prop} {g:Int→Int→Int}
 (rule:∀(i j:Int) (t u:Tok) (s:Shared) (Q:Value→Shared→Prop) (E:Value→Shared→Prop),C i j→Q (.int (g i j) s.toks) {s with toks:=s.toks+1}→wpAny (model X.prog X.w) X.A (f (.int i t) (.int j u)) Q E s):
 OpR X f (rI C fun i j=> .int (g i j)):=by
 intro pins s σ H x y v u Q I rx ry h
 obtain ⟨i,j,rfl,rfl,hc,q⟩:=h
 obtain ⟨t,rfl⟩:=rx
 obtain ⟨t',rfl⟩:=ry
 exact rule i j t t' s _ _ hc ⟨.int (g i j),H,I.tok _,⟨_,rfl⟩,q⟩
theorem opI0 {f:Value→Value→Sem Value} {g:Int→Int→Int}
 (rule:∀(i j:Int) (t u:Tok) (s:Shared) (Q:Value→Shared→Prop) (E:Value→Shared→Prop),Q (.int (g i j) s.toks) {s with toks:=s.toks+1}→wpAny (model X.prog X.w) X.A (f (.int i t) (.int j u)) Q E s):
 OpR X f (rI0 fun i j=> .int (g i j)):=by
 intro pins s σ H x y v u Q I rx ry h
 obtain ⟨i,j,rfl,rfl,q⟩:=h
 obtain ⟨t,rfl⟩:=rx
 obtain ⟨t',rfl⟩:=ry
 exact rule i j t t' s _ _ ⟨.int (g i j),H,I.tok _,⟨_,rfl⟩,q⟩
theorem opB0 {f:Value→Value→Sem Value} {g:Int→Int→Bool}
 (rule:∀(i j:Int) (t u:Tok) (s:Shared) (Q:Value→Shared→Prop) (E:Value→Shared→Prop),Q (.bool (g i j)) s→wpAny (model X.prog X.w) X.A (f (.int i t) (.int j u)) Q E s):
 OpR X f (rI0 fun i j=> .bl (g i j)):=by
 intro pins s σ H x y v u Q I rx ry h
 obtain ⟨i,j,rfl,rfl,q⟩:=h
 obtain ⟨t,rfl⟩:=rx
 obtain ⟨t',rfl⟩:=ry
 exact rule i j t t' s _ _ ⟨.bl (g i j),H,I,rfl,q⟩
def CPow (i j:Int):Prop:=0≤j∧j≤1000000∧i.natAbs < 2^64
def CMul (i j:Int):Prop:=(-(2^64) < i∧i < 2^64)∨(-(2^64) < j∧j < 2^64)
theorem CMul.ok {i j:Int} (h:CMul i j):IntMulOk i j:=by
 rcases h with ⟨h1,h2⟩|⟨h1,h2⟩
 · exact .of_left (intBits_le_64 h1 h2)
 · exact .of_right (intBits_le_64 h1 h2)
theorem bZ:OpR X (binaryOp .Add) (rI0 fun i j=> .int (i+j)):=opI0 fun _ _ _ _ _ _ _ q=>add_int q
theorem oG:OpR X (binaryOp .Sub) (rI0 fun i j=> .int (i - j)):=opI0 fun _ _ _ _ _ _ _ q=>sub_int q
theorem cK:OpR X (binaryOp .Mod) (rI (fun _ j=>0 < j) fun i j=> .int (i%j)):=opI fun i j _ _ _ _ _ hc q=>by
 have h1:(0:Int) < j:=hc
 exact mod_int' (by omega) (by rw [Int.fmod_eq_emod_of_nonneg i (by omega)];exact q)
theorem qR:OpR X (binaryOp .Mod) (rI (fun _ j=>j≠0) fun i j=> .int (i.fmod j)):=opI fun _ _ _ _ _ _ _ hc q=>mod_int' hc q
theorem oH:OpR X (binaryOp .Pow) (rI CPow fun i j=> .int (i^j.toNat)):=opI fun _ _ _ _ _ _ _ hc q=>pow_int_small hc.1 hc.2.1 hc.2.2 q
theorem unI {f:Value→Sem Value} {g:Int→Int}
 (rule:∀(i:Int) (t:Tok) (s:Shared) (Q:Value→Shared→Prop) (E:Value→Shared→Prop),Q (.int (g i) s.toks) {s with toks:=s.toks+1}→wpAny (model X.prog X.w) X.A (f (.int i t)) Q E s):
 UnR X f (rU fun i=> .int (g i)):=by
 intro pins s σ H x v Q I rx h
 obtain ⟨i,rfl,q⟩:=h
 obtain ⟨t,rfl⟩:=rx
 exact rule i t s _ _ ⟨.int (g i),H,I.tok _,⟨_,rfl⟩,q⟩
theorem cr:UnR X (unaryOp .USub) (rU fun i=> .int (-i)):=unI fun _ _ _ _ _ q=>neg_int q
end
noncomputable def scal:V→V→Bool
 | .non, .non=>true| .non, .int _=>true| .int _, .non=>true| .non, .bl _=>true| .bl _, .non=>true| .non, .str _=>true| .str _, .non=>true
 | .int _, .int _=>true| .bl _, .bl _=>true| .str _, .str _=>true| .byt _, .byt _=>true
 | .int _, .str _=>true| .str _, .int _=>true| .bl _, .str _=>true| .str _, .bl _=>true
 |_,_=>false
def rEq:R2:=fun x y H Q=>scal x y=true∧Q (.bl (decide (x=y))) H
def rNe:R2:=fun x y H Q=>scal x y=true∧Q (.bl (!decide (x=y))) H
theorem lV {i j:Int}:decide (V.int i=V.int j)=(i==j):=by
 rw [Bool.eq_iff_iff]
 simp
theorem kJ {i j:Bool}:decide (V.bl i=V.bl j)=(i==j):=by
 rw [Bool.eq_iff_iff]
 simp
theorem lU {i j:Str}:decide (V.str i=V.str j)=(i==j):=by
 rw [Bool.eq_iff_iff]
 simp
theorem lW {i j:Array UInt8}:decide (V.byt i=V.byt j)=(i.toList==j.toList):=by
 rw [Bool.eq_iff_iff]
 cases i
 cases j
 simp
section
variable {X:Cx} {a b c:Expr} {ta tb tc:TE} {pos:Pos}
theorem aL {pins:List (Addr×Obj)} {σ:St} {H:Hp} {s:Shared} {Q:VK} {k k':Bool} (I:Inv X pins σ H s) (q:Q (.bl k) H) (e:k=k'):EP X pins σ Q (.bool k') s:=by
 subst e
 exact ⟨.bl k,H,I,rfl,q⟩
theorem aP:OpR X (compareOp .Eq) rEq:=by
 intro pins s σ H x y v u Q I rx ry h
 obtain ⟨hs,q⟩:=h
 cases x with
 |non=>
  cases rx
  cases y with
  |non=>cases ry;exact PySem.EqNone.eq_none_none (aL I q (by simp))
  |bl j=>cases ry;exact PySem.EqNone.eq_none_bool (aL I q (by simp))
  |int j=>obtain ⟨t',rfl⟩:=ry;exact PySem.EqNone.eq_none_int (aL I q (by simp))
  |str j=>obtain ⟨t',rfl⟩:=ry;exact PySem.EqNone.eq_none_str (aL I q (by simp))
  |_=>exact absurd (show false=true from hs) Bool.false_ne_true
 |bl i=>
  cases rx
  cases y with
  |non=>cases ry;exact PySem.EqNone.eq_bool_none (aL I q (by simp))
  |bl j=>cases ry;exact eq_bool (aL I q kJ)
  |str j=>obtain ⟨t',rfl⟩:=ry;exact PySem.EqMixed.eq_bool_str (aL I q (by simp))
  |_=>exact absurd (show false=true from hs) Bool.false_ne_true
 |int i=>
  obtain ⟨t,rfl⟩:=rx
  cases y with
  |non=>cases ry;exact PySem.EqNone.eq_int_none (aL I q (by simp))
  |int j=>obtain ⟨t',rfl⟩:=ry;exact eq_int (aL I q lV)
  |str j=>obtain ⟨t',rfl⟩:=ry;exact PySem.EqMixed.eq_int_str (aL I q (by simp))
  |_=>exact absurd (show false=true from hs) Bool.false_ne_true
 |str i=>
  obtain ⟨t,rfl⟩:=rx
  cases y with
  |non=>cases ry;exact PySem.EqNone.eq_str_none (aL I q (by simp))
  |bl j=>cases ry;exact PySem.EqMixed.eq_str_bool (aL I q (by simp))
  |int j=>obtain ⟨t',rfl⟩:=ry;exact PySem.EqMixed.eq_str_int (aL I q (by simp))
  |str j=>obtain ⟨t',rfl⟩:=ry;exact eq_str (aL I q lU)
  |_=>exact absurd (show false=true from hs) Bool.false_ne_true
 |byt i=>
  obtain ⟨t,rfl⟩:=rx
  cases y with
  |byt j=>obtain ⟨t',rfl⟩:=ry;exact PySem.W.eq_bytes (aL I q lW)
  |_=>exact absurd (show false=true from hs) Bool.false_ne_true
 |_=>cases y<;>exact absurd (show false=true from hs) Bool.false_ne_true
theorem lK:OpR X (compareOp .NotEq) rNe:=by
 intro pins s σ H x y v u Q I rx ry h
 obtain ⟨hs,q⟩:=h
 cases x with
 |non=>
  cases rx
  cases y with
  |non=>cases ry;exact PySem.EqNone.ne_none_none (aL I q (by simp))
  |bl j=>cases ry;exact PySem.EqNone.ne_none_bool (aL I q (by simp))
  |int j=>obtain ⟨t',rfl⟩:=ry;exact PySem.EqNone.ne_none_int (aL I q (by simp))
  |str j=>obtain ⟨t',rfl⟩:=ry;exact PySem.EqNone.ne_none_str (aL I q (by simp))
  |_=>exact absurd (show false=true from hs) Bool.false_ne_true
 |bl i=>
  cases rx
  cases y with
  |non=>cases ry;exact PySem.EqNone.ne_bool_none (aL I q (by simp))
  |bl j=>cases ry;exact ne_bool (aL I q (congrArg not kJ))
  |str j=>obtain ⟨t',rfl⟩:=ry;exact PySem.EqMixed.ne_bool_str (aL I q (by simp))
  |_=>exact absurd (show false=true from hs) Bool.false_ne_true
 |int i=>
  obtain ⟨t,rfl⟩:=rx
  cases y with
  |non=>cases ry;exact PySem.EqNone.ne_int_none (aL I q (by simp))
  |int j=>obtain ⟨t',rfl⟩:=ry;exact ne_int (aL I q (congrArg not lV))
  |str j=>obtain ⟨t',rfl⟩:=ry;exact PySem.EqMixed.ne_int_str (aL I q (by simp))
  |_=>exact absurd (show false=true from hs) Bool.false_ne_true
 |str i=>
  obtain ⟨t,rfl⟩:=rx
  cases y with
  |non=>cases ry;exact PySem.EqNone.ne_str_none (aL I q (by simp))
  |bl j=>cases ry;exact PySem.EqMixed.ne_str_bool (aL I q (by simp))
  |int j=>obtain ⟨t',rfl⟩:=ry;exact PySem.EqMixed.ne_str_int (aL I q (by simp))
  |str j=>obtain ⟨t',rfl⟩:=ry;exact ne_str (aL I q (congrArg not lU))
  |_=>exact absurd (show false=true from hs) Bool.false_ne_true
 |byt i=>
  obtain ⟨t,rfl⟩:=rx
  cases y with
  |byt j=>obtain ⟨t',rfl⟩:=ry;exact PySem.W.ne_bytes (aL I q (congrArg not lW))
  |_=>exact absurd (show false=true from hs) Bool.false_ne_true
 |_=>cases y<;>exact absurd (show false=true from hs) Bool.false_ne_true
theorem uP:OpR X (compareOp .Lt) (rI0 fun i j=> .bl (decide (i < j))):=opB0 fun _ _ _ _ _ _ _ q=>lt_int q
theorem oI:OpR X (compareOp .LtE) (rI0 fun i j=> .bl (decide (i≤j))):=opB0 fun _ _ _ _ _ _ _ q=>le_int q
theorem i8:OpR X (compareOp .Gt) (rI0 fun i j=> .bl (decide (j < i))):=opB0 fun _ _ _ _ _ _ _ q=>gt_int q
theorem iP:OpR X (compareOp .Is) (fun x y H Q=>y= .non∧Q (.bl (decide (x= .non))) H):=by
 intro pins s σ H x y v u Q I rx ry h
 obtain ⟨rfl,q⟩:=h
 cases ry
 refine is_none_gen (aL I q ?_)
 cases x<;>first
  |(cases rx;rfl)
  |(obtain ⟨t,rfl⟩:=rx;rfl)
theorem OpR.or {f:Value→Value→Sem Value} {r r':R2} (h:OpR X f r) (h':OpR X f r'):OpR X f (fun x y H Q=>r x y H Q∨r' x y H Q):=by
 intro pins s σ H x y v u Q I rx ry q
 rcases q with q|q
 · exact h pins s σ H x y v u Q I rx ry q
 · exact h' pins s σ H x y v u Q I rx ry q
theorem au (b:Expr) {op:CmpOp} (h:op≠ .In:=by decide) (h2:op≠ .NotIn:=by decide):behindInMarks op b=false:=by
 have e1:(op==CmpOp.In)=false:=by cases op<;>first|rfl|exact absurd rfl h
 have e2:(op==CmpOp.NotIn)=false:=by cases op<;>first|rfl|exact absurd rfl h2
 cases b<;>simp [behindInMarks,e1,e2]
theorem aW {op:CmpOp} {r:R2} (ho:OpR X (compareOp op) r) (ha:PE X a ta) (hb:PE X b tb) (hm:behindInMarks op b=false):PE X (.Compare a [op] [b] pos) (tOp r ta tb):=by
 intro pins s σ H Q I h
 exact wpAny_Compare1 (binT ha hb I h fun v u s2 x y H2 I2 rx ry q=>ho pins s2 σ H2 x y v u Q I2 rx ry q) hm
def nX (t:TE):TT:=fun σ H Q=>t σ H fun x H'=>∃k,x= .bl k∧Q k H'
theorem ar {op:CmpOp} {r:R2} (ho:OpR X (compareOp op) r) (ha:PE X a ta) (hb:PE X b tb) (hm:behindInMarks op b=false):PT X (.Compare a [op] [b] pos) (nX (tOp r ta tb)):=by
 intro pins s σ H Q I h
 refine wpAny_isTrue_Compare1 (thn (ha pins s σ H _ I h) fun v s1 ⟨x,H1,I1,r1,q1⟩=>thn (hb pins s1 σ H1 _ I1 q1) fun u s2 ⟨y,H2,I2,r2,q2⟩=>
  thn (ho pins s2 σ H2 x y v u _ I2 r1 r2 q2) fun c s3 ⟨z,H3,I3,r3,k,e,q3⟩=> ?_) hm
 subst e
 cases r3
 exact wpAny_truthy_bool ⟨H3,I3,q3⟩
def tH (r r':R2) (ta tb tc:TE):TE:=fun σ H Q=>ta σ H fun x H1=>tb σ H1 fun y H2=>r x y H2 fun z H3=>∃k,z= .bl k∧
 (if k=true then tc σ H3 fun w' H4=>r' y w' H4 Q else Q (.bl false) H3)
theorem ow {op op':CmpOp} {r r':R2} (ho:OpR X (compareOp op) r) (ho':OpR X (compareOp op') r') (ha:PE X a ta) (hb:PE X b tb) (hc:PE X c tc)
 (hm:lastMarks [op,op'] [b,c]=false:=by with_unfolding_all rfl):PT X (.Compare a [op,op'] [b,c] pos) (nX (tH r r' ta tb tc)):=by
 intro pins s σ H Q I h
 refine isTrue_chain (thn (ha pins s σ H _ I h) fun v s1 ⟨x,H1,I1,r1,q1⟩=>test_link (thn (hb pins s1 σ H1 _ I1 q1) fun u s2 ⟨y,H2,I2,r2,q2⟩=>
  thn (ho pins s2 σ H2 x y v u _ I2 r1 r2 q2) fun d s3 ⟨z,H3,I3,r3,k,e,q3⟩=> ?_)) hm
 subst e
 cases r3
 refine wpAny_truthy_bool ?_
 cases k with
 |false=>
  obtain ⟨k',e',q'⟩:=q3
  cases e'
  exact ite_ff ⟨H3,I3,q'⟩
 |true=>
  refine ite_tt (test_last (thn (hc pins s3 σ H3 _ I3 q3) fun w' s4 ⟨z',H4,I4,r4,q4⟩=>thn (ho' pins s4 σ H4 y z' u w' _ I4 r2 r4 q4) fun d' s5 ⟨z2,H5,I5,r5,k2,e2,q5⟩=> ?_))
  subst e2
  cases r5
  exact wpAny_truthy_bool ⟨H5,I5,q5⟩
def TruV (K:PySem.W.Frag) (x:V) (H:Hp) (k:Bool):Prop:=
 match x with
 | .non=>k=false
 | .bl b=>k=b
 | .int i=>k=(i !=0)
 | .str y=>y.length≤sizeLine∧k=((y.length:Int) !=0)
 | .byt y=>y.size≤sizeLine∧k=((y.size:Int) !=0)
 | .ref p=>(∃xs,SqL K H p xs∧k= !xs.isEmpty)∨(∃xs,SqT K H p xs∧k= !xs.isEmpty)∨∃kvs,H p=some (.dK kvs)∧k= !kvs.isEmpty
 |_=>False
theorem kz {κ:Type} {kvs:List (κ×V)} {vs:List (κ×Value)} (r:KV kvs vs):(!vs.isEmpty)= !kvs.isEmpty:=by
 cases r<;>rfl
theorem gc {xs:List V} {its:List Value} (r:Vals xs its):(!its.toArray.isEmpty)= !xs.isEmpty:=by
 cases r<;>simp
theorem dB:(sizeLine:Nat) < 2^63:=by rw [sizeLine_eq];decide
theorem tw:TruR X (fun x H Q=>∃k,TruV X.K x H k∧Q k H):=by
 intro pins s σ H x v Q I rx h
 obtain ⟨k,e,q⟩:=h
 have hl:=dB
 have hs:sizeLine=16777216:=sizeLine_eq
 cases x with
 |non=>
  cases rx
  have e':k=false:=e
  subst e'
  exact truthy_none ⟨H,I,q⟩
 |bl b=>
  cases rx
  have e':k=b:=e
  subst e'
  exact wpAny_truthy_bool ⟨H,I,q⟩
 |int i=>
  obtain ⟨t,rfl⟩:=rx
  have e':k=(i !=0):=e
  subst e'
  exact PySem.P.truthy_int ⟨H,I,q⟩
 |str y=>
  obtain ⟨t,rfl⟩:=rx
  obtain ⟨hy,e'⟩:y.length≤sizeLine∧k=((y.length:Int) !=0):=e
  subst e'
  exact PySem.P.truthy_str (by omega) ⟨H,I.tok _,q⟩
 |byt y=>
  obtain ⟨t,rfl⟩:=rx
  obtain ⟨hy,e'⟩:y.size≤sizeLine∧k=((y.size:Int) !=0):=e
  subst e'
  exact PySem.W.truthy_bytes (by omega) ⟨H,I.tok _,q⟩
 |ref p=>
  cases rx
  have e':(∃xs,SqL X.K H p xs∧k= !xs.isEmpty)∨(∃xs,SqT X.K H p xs∧k= !xs.isEmpty)∨∃kvs,H p=some (.dK kvs)∧k= !kvs.isEmpty:=e
  rcases e' with ⟨xs,hx,e'⟩|⟨xs,hx,e'⟩|⟨kvs,hx,e'⟩
  · subst e'
    obtain ⟨its,r,pl,hz⟩:=I.list hx
    have hlen:=r.length
    exact wpAny_truthy_list pl.isList (by simp only [List.size_toArray];omega) ⟨H,I.tok _,by rw [gc r];exact q⟩
  · subst e'
    obtain ⟨its,r,pl,hz⟩:=I.tuple hx
    have hlen:=r.length
    exact truthy_tuple pl (by simp only [List.size_toArray];omega) ⟨H,I.tok _,by rw [gc r];exact q⟩
  · subst e'
    obtain ⟨hz,hS,vs,r,m⟩:kvs.length≤sizeLine∧(p==sysModules)=false∧∃vs,KV kvs vs∧s.heap.DictOf (aN X.prog X.w) p vs:=I.hok p _ hx
    have hlen:kvs.length=vs.length:=Paired.length r
    exact wpAny_truthy_dict hS m (by omega) ⟨H,I.tok _,by rw [kz r];exact q⟩
 |_=>exact (show False from e).elim
theorem jp (ha:PE X a ta) (he:∀whole,isTrue a X.env whole=(do let v←whole;standAt a.pos;holding [v] (truthy v))):
 PT X a (fun σ H Q=>ta σ H fun x H'=>∃k,TruV X.K x H' k∧Q k H'):=by
 intro pins s σ H Q I h
 exact isTrue_plain (thn (ha pins s σ H _ I h) fun v s1 ⟨x,H1,I1,r1,q1⟩=>tw pins s1 σ H1 x v Q I1 r1 q1) (he _)
theorem fQ:OpR X (binaryOp .Add) (fun x y H Q=>∃i j,x= .str i∧y= .str j∧i.length+j.length≤sizeLine∧Q (.str (i++j)) H):=by
 intro pins s σ H x y v u Q I rx ry h
 obtain ⟨i,j,rfl,rfl,hz,q⟩:=h
 obtain ⟨t,rfl⟩:=rx
 obtain ⟨t',rfl⟩:=ry
 exact add_str (fun t' tk=>⟨.str (i++j),H,I.tok _,⟨_,rfl⟩,q⟩) hz
theorem gY {x:V} {us:List Value} (r:Vals [x] us):∃u,us= [u]∧RelV x u:=by
 cases r with
 |cons r1 r2=>cases r2;exact ⟨_,rfl,r1⟩
theorem pW:CallR X (.builtin "abs") (fun xs H Q=>∃i,xs= [.int i]∧Q (.int (if i < 0 then -i else i)) H):=by
 intro pins s σ H xs us Q I r h
 obtain ⟨i,rfl,q⟩:=h
 obtain ⟨u,rfl,t,rfl⟩:=gY r
 exact call_abs_int fun u tk=>⟨.int (if i < 0 then -i else i),H,I.tok _,⟨_,rfl⟩,q⟩
end
open PySem PySem.Spec PyProof.Rows
structure ObjM (h:Heap) (x dx C:Addr) (mA:Str→Option Value):Prop where
 obj:h.get? x=some (PySem.W.instObj C dx)
 ns:h.Ns1 dx mA
 ne:dx≠x
theorem mE {h:Heap} {dx:Addr} {mA:Str→Option Value} (n:h.Ns1 dx mA):∃od,h.get? dx=some od∧∀name,PySem.W.lookIn name od=some (mA name):=by
 obtain ⟨o,es,ep,ho,hd,hk,_,hm⟩:=n
 refine ⟨o,ho,fun name=> ?_⟩
 have e:=hm name
 unfold nsFind findBy at e
 rw [←Array.find?_toList] at e
 unfold PySem.W.lookIn
 rw [hd]
 dsimp only
 split
 · rename_i y q
   rw [q] at e
   exact congrArg some e
 · rename_i q
   rw [q] at e
   have a:es.toList.any (·.refKey)=false:=by
    rw [List.any_eq_false]
    intro y hy
    obtain ⟨z,t,hkey⟩:=hk y (Array.mem_toList_iff.mp hy)
    simp [DictEntry.refKey,hkey]
   have a':¬es.toList.any (·.refKey)=true:=by rw [a];exact Bool.false_ne_true
   rw [if_neg a']
   exact congrArg some e
theorem ObjM.look {h:Heap} {x dx C:Addr} {mA:Str→Option Value} (I:ObjM h x dx C mA):∃od,PySem.W.InstAt h x (PySem.W.instObj C dx) C (some od)∧∀name,PySem.W.lookIn name od=some (mA name):=
 let ⟨od,ho,hl⟩:=mE I.ns
 ⟨od,⟨I.obj,rfl,rfl,ho⟩,hl⟩
section
variable {prog:Program} {w:World} {A:Around} {E:Value→Shared→Prop} {s:Shared} {K:PySem.W.Frag} {x dx C f:Addr} {mA:Str→Option Value} {name:Str} {v:Value}
end
noncomputable def putF (f:Str) (v:V):List (Str×V)→List (Str×V)
 | []=> [(f,v)]
 |(g,x)::r=>if g=f then (g,v)::r else (g,x)::putF f v r
section
variable {P:Program} {w:World} {H H':Hp} {h h':Heap} {a C dx:Addr} {fs fs':List (Str×V)}
theorem rC (hok:HOk P w H h) (e:H a=some (.ins C dx fs)):∃mA,ObjM h a dx C mA∧(∀f,RelO (fs.lookup f) (mA f))∧PySem.Within mA (fs.map (·.1))∧fs.length≤1000∧H dx=some (.own a):=by
 obtain ⟨d,z,ne,ob,mA,n,r,q⟩:=(show ObjOk P w H h a (.ins C dx fs) from hok a _ e)
 exact ⟨mA,⟨ob,n,ne⟩,r,q,z,d⟩
end
structure Cls (K:PySem.W.Frag) (C:Addr):Prop where
 pg:PySem.W.plainGet K C Str.empty=true
 hd:PySem.W.hasDictIn K C=true
 po:PySem.W.plainOver K C=true
 sa:PySem.W.findIn K (.ref C) "__setattr__"=some (some (.builtin "object.__setattr__"))
theorem Cls.get {K:PySem.W.Frag} {C:Addr} (c:Cls K C) (f:Str):PySem.W.plainGet K C f=true:=c.pg
section
variable {X:Cx} {pins:List (Addr×Obj)} {σ:St} {H:Hp} {s:Shared} {a C dx:Addr} {fs:List (Str×V)} {f:Str} {v:V} {A:Around} {E:Value→Shared→Prop}
theorem Inv.made (I:Inv X pins σ H s):Inv X pins σ (upd (upd H s.heap.objs.size (.own (s.heap.objs.size+1))) (s.heap.objs.size+1) (.ins C s.heap.objs.size []))
 {s with heap:=(s.heap.push PySem.W.emptyDict).push (PySem.W.instObj C s.heap.objs.size)}:=by
 have e1:(s.heap.push PySem.W.emptyDict).get? s.heap.objs.size=some PySem.W.emptyDict:=Heap.get?_push_size s.heap rfl
 have e2:((s.heap.push PySem.W.emptyDict).push (PySem.W.instObj C s.heap.objs.size)).get? (s.heap.objs.size+1)=some (PySem.W.instObj C s.heap.objs.size):=by
  have:=Heap.get?_push_size (s.heap.push PySem.W.emptyDict) (o:=PySem.W.instObj C s.heap.objs.size) rfl
  rwa [Heap.size_push] at this
 have e3:(s.heap.push PySem.W.emptyDict).Ns s.heap.objs.size (fun _=>none):=⟨PySem.W.emptyDict, #[],_,e1,rfl,(fun e he=>absurd he (by simp)),fun _=>rfl⟩
 have I1:=I.laid (a:=s.heap.objs.size) (o:= .own (s.heap.objs.size+1)) (h':=s.heap.push PySem.W.emptyDict) (t':=s.toks) (fun b u q=>Heap.get?_push_of_some _ q) (Nat.le_refl _) ⟨_,e1⟩
 refine I1.laid (a:=s.heap.objs.size+1) (o:= .ins C s.heap.objs.size []) (t':=s.toks) (fun b u q=>Heap.get?_push_of_some _ q) (Nat.le_of_eq (Heap.size_push _ _)) ?_
 have ne:s.heap.objs.size≠s.heap.objs.size+1:=Nat.ne_of_lt (Nat.lt_succ_self _)
 refine ⟨by rw [ai ne,a9],Nat.zero_le _,ne,e2,fun _=>none,(Heap.Ns1.of_empty e3).at fun o q=>Heap.get?_push_of_some _ q,fun _=>True.intro,fun y hy=>absurd rfl hy⟩
end
section
variable {X:Cx} {o e value:Expr} {f:Str} {pos pos' tpos:Pos} {ta tv:TE}
end
section
variable {X:Cx} {pins:List (Addr×Obj)} {σ:St} {H:Hp} {s:Shared} {A:Around} {E:Value→Shared→Prop} {Q:Value→Shared→Prop} {c:Value} {b:Bool}
inductive TyOf (K:PySem.W.Frag) (H:Hp):V→Value→Prop where
 |non:TyOf K H .non (.type "NoneType")
 |bl (x:Bool):TyOf K H (.bl x) (.type "bool")
 |int (i:Int):TyOf K H (.int i) (.type "int")
 |str (x:Str):TyOf K H (.str x) (.type "str")
 |flt (x:UInt64):TyOf K H (.flt x) (.type "float")
 |lst {a:Addr} {xs:List V} (e:H a=some (.lst xs)):TyOf K H (.ref a) (.type "list")
 |frz {a:Addr} {o:Obj} {xs:List V} (e:H a=some (.frz o (.lst xs))):TyOf K H (.ref a) (.type "list")
 |tup {a:Addr} {xs:List V} (e:H a=some (.tup xs)):TyOf K H (.ref a) (.type "tuple")
 |dK {a:Addr} {kvs:List (Key×V)} (e:H a=some (.dK kvs)):TyOf K H (.ref a) (.type "dict")
 |dT {a:Addr} {kvs:List (List Key×V)} (e:H a=some (.dT kvs)):TyOf K H (.ref a) (.type "dict")
 |ins {a C dx:Addr} {fs:List (Str×V)} (e:H a=some (.ins C dx fs)) (cl:Cls K C) (ha:PySem.W.findIn K (.ref C) "__class__"=some (some (.builtin "object.__class__")))
  (hn:PySem.W.specialIn K (.builtin "object.__class__") "__get__"=some (some (.builtin "getset_descriptor.__get__"))) (htk:PySem.W.takesIn K (.builtin "object.__class__")=some true)
  (hm:PySem.W.mroIn K C (.type "object")=some true):TyOf K H (.ref a) (.ref C)
end
open PySem PySem.Spec PyProof.Rows
structure Room (k:Nat) (A:Around):Prop where
 hd:A.handled=none
 dp:A.depth+3*k+5 < recursionLimit
 un:A.units+16*k+200 < cLine
 gd:A.guards=some []
theorem Room.mono {j k:Nat} {A:Around} (r:Room k A) (h:j≤k):Room j A:=⟨r.hd,by have:=r.dp;omega,by have:=r.un;omega,r.gd⟩
theorem Room.deeper {k:Nat} {A:Around} (r:Room (k+1) A) (env:Env):Room k (A.deeper env):=
 ⟨r.hd,by have:=r.dp;show A.depth+1+3*k+5 < _;omega,by have:=r.un;show A.units+3+16*k+200 < _;omega,by first|exact r.gd|(have:=r.gd;simpa [Around.deeper,Around.under] using this)⟩
theorem Room.in1 {k:Nat} {A:Around} (r:Room (k+1) A):Room k A.in1:=
 ⟨r.hd,by have:=r.dp;show A.depth+3*k+5 < _;omega,by have:=r.un;show A.units+1+16*k+200 < _;omega,r.gd⟩
theorem kl {A:Around} {C:Addr} {us:List Value} {kw:List (Str×Value)}:(A.under (.builtin "type.__call__" ⟨.ref C::us,kw⟩)).depth=A.depth+1:=by
 first|rfl|simp [Around.under,Code.weight,Code.isCreation,Code.isGuard,Code.isCaller,Code.frames,Code.isFrame,guardIds]
theorem kj {A:Around} {C:Addr} {us:List Value} {kw:List (Str×Value)}:(A.under (.builtin "type.__call__" ⟨.ref C::us,kw⟩)).units=A.units+1:=by
 first|rfl|simp [Around.under,Code.cUnits,Code.frames,Code.isFrame]
theorem Room.make {k:Nat} {A:Around} (r:Room (k+1) A) (C:Addr) (us:List Value) (kw:List (Str×Value)):Room k (A.under (.builtin "type.__call__" ⟨.ref C::us,kw⟩)):=
 ⟨r.hd,by have:=r.dp;rw [kl];omega,by have:=r.un;rw [kj];omega,by have:=r.gd;simp [Around.under,Code.guards,Code.isGuard,guardIds,pushGuards,this]⟩
theorem Room.depth {k:Nat} {A:Around} (r:Room k A):A.depth < recursionLimit:=by have:=r.dp;omega
theorem Room.units {k:Nat} {A:Around} (r:Room k A):A.units+64 < cLine:=by have:=r.un;omega
def tNil:TA:=fun _ H Q=>Q [] H
def bA (ta:TE) (tr:TA):TA:=fun σ H Q=>ta σ H fun x H1=>tr σ H1 fun xs H2=>Q (x::xs) H2
section
variable {X:Cx} {e:Expr} {es:List Expr} {te:TE} {t:TA} {pos:Pos}
theorem aa:PA X [] tNil:=fun _ _ _ _ H Q I h=>Calls.spliced_nil ⟨[],H,I, .nil,h⟩
theorem a8 (ha:PE X e te) (hr:PA X es t) (hs:starEach (e::es) X.env=(false,eval e X.env)::starEach es X.env:=by rfl):PA X (e::es) (bA te t):=by
 intro pos pins s σ H Q I h
 rw [hs]
 show wpAny _ _ (spliced ((false,eval e X.env)::backTo pos (starEach es X.env))) _ _ s
 refine Calls.spliced_cons (thn (ha pins s σ H _ I h) fun u s1 ⟨x,H1,I1,r1,q1⟩=> ?_)
 exact thn (hr pos pins s1 σ H1 _ I1 q1) fun us s2 ⟨xs,H2,I2,r2,q2⟩=>⟨x::xs,H2,I2, .cons r1 r2,q2⟩
def tTup (t:TA):TE:=fun σ H Q=>t σ H fun xs H1=>xs.length≤sizeLine∧∀p,H1 p=none→Q (.ref p) (upd H1 p (.tup xs))
def tLst (t:TA):TE:=fun σ H Q=>t σ H fun xs H1=>xs.length≤sizeLine∧∀p,H1 p=none→Q (.ref p) (upd H1 p (.lst xs))
theorem aw {x1} (h:PA X es t):PE X (.Tuple es x1 pos) (tTup t):=by
 intro pins s σ H Q I hq
 refine wpAny_Tuple_spliced (thn (h pos pins s σ H _ I hq) fun us s1 ⟨xs,H1,I1,r,z,q⟩=>⟨by rw [←r.length];exact z,?_⟩)
 have hf:H1 s1.heap.objs.size=none:=I1.hok.fresh (Nat.le_refl _)
 refine ⟨.ref s1.heap.objs.size,upd H1 s1.heap.objs.size (.tup xs),I1.laid (t':=s1.toks) (fun b u e=>Heap.get?_push_of_some _ e) (Nat.le_refl _) ?_,rfl,q _ hf⟩
 exact ⟨z,us,r,⟨_,Heap.get?_push_size _ rfl,rfl,_,rfl⟩⟩
theorem bq (h:PA X es t):PE X (.List es pos) (tLst t):=by
 intro pins s σ H Q I hq
 refine wpAny_List_spliced (thn (h pos pins s σ H _ I hq) fun us s1 ⟨xs,H1,I1,r,z,q⟩=>⟨by rw [←r.length];exact z,?_⟩)
 have hf:H1 s1.heap.objs.size=none:=I1.hok.fresh (Nat.le_refl _)
 refine ⟨.ref s1.heap.objs.size,upd H1 s1.heap.objs.size (.lst xs),I1.laid (t':=s1.toks) (fun b u e=>Heap.get?_push_of_some _ e) (Nat.le_refl _) ?_,rfl,q _ hf⟩
 exact ⟨z,us,0,r,Heap.get?_push_size _ rfl⟩
end
abbrev Sp:=List V→Hp→VK→XK→Prop
abbrev CXT:=List Env→Hp→Shared→XK→Value→Shared→Prop
structure Env0 (P:Program) (w:World) (K:PySem.W.Frag) (mg:Str→Option Value) (base:Heap) (A:Around) (outer:List Env) (s:Shared) (H:Hp):Prop where
 frames:A.frames=some outer
 mod:Mod K mg base
 bs:∀b o,base.get? b=some o→s.heap.get? b=some o∧Idl (H b)
 bsz:base.objs.size≤s.heap.objs.size
 funs:s.heap.FunFrames base outer
 frf:∀b∈frs outer,H b=none
 hok:HOk P w H s.heap
 bare:AllBare s.gens
def CE (outer:List Env) (P:Program) (w:World) (H:Hp) (s:Shared) (Q:VK) (u:Value) (s':Shared):Prop:=
 ∃v H',s'.os=s.os∧AllBare s'.gens∧Un (frs outer) [] H H' s.heap s'.heap∧HOk P w H' s'.heap∧RelV v u∧Q v H'
def CR (CX:CXT) (outer:List Env) (P:Program) (w:World) (H:Hp) (s:Shared) (Q:VK) (E:XK) (r:Result) (s':Shared):Prop:=
 match r with
 | .ok (.ret u)=>CE outer P w H s Q u s'
 | .ok _=>False
 | .error e=>CX outer H s E e s'
structure FnOk (P:Program) (w:World) (K:PySem.W.Frag) (mg:Str→Option Value) (base:Heap) (CX:CXT) (k:Nat) (f:Addr) (fd:FuncData) (ps:List Str) (sp:Sp):Prop where
 len:∀vs H Q E,sp vs H Q E→vs.length=ps.length
 run:∀(A:Around) (outer:List Env) (s:Shared) (H:Hp) (args:Args) (us:List Value) (vs:List V) (Q:VK) (E:XK),Room k A→Env0 P w K mg base A outer s H→BindsTo s fd args (ps.zip us)→Vals vs us→sp vs H Q E→
  codeAny (model P w) A (.call (.ref f) args) (CR CX outer P w H s Q E) s
theorem FnOk.mono {P:Program} {w:World} {K:PySem.W.Frag} {mg:Str→Option Value} {base:Heap} {CX:CXT} {j k:Nat} {f:Addr} {fd:FuncData} {ps:List Str} {sp:Sp} (F:FnOk P w K mg base CX j f fd ps sp) (h:j≤k):
 FnOk P w K mg base CX k f fd ps sp:=⟨F.len,fun A outer s H args us vs Q E hr=>F.run A outer s H args us vs Q E (hr.mono h)⟩
theorem FnOk.imp {P:Program} {w:World} {K:PySem.W.Frag} {mg:Str→Option Value} {base:Heap} {CX:CXT} {k:Nat} {f:Addr} {fd:FuncData} {ps:List Str} {sp sp':Sp} (F:FnOk P w K mg base CX k f fd ps sp)
 (h:∀vs H Q E,sp' vs H Q E→sp vs H Q E):FnOk P w K mg base CX k f fd ps sp':=
 ⟨fun vs H Q E q=>F.len vs H Q E (h _ _ _ _ q),fun A outer s H args us vs Q E hr he hb hv hs=>F.run A outer s H args us vs Q E hr he hb hv (h _ _ _ _ hs)⟩
theorem Env0.make {P:Program} {w:World} {K:PySem.W.Frag} {mg:Str→Option Value} {base:Heap} {A:Around} {outer:List Env} {s:Shared} {H:Hp} (e:Env0 P w K mg base A outer s H) (C:Addr) (us:List Value) (kw:List (Str×Value)):
 Env0 P w K mg base (A.under (.builtin "type.__call__" ⟨.ref C::us,kw⟩)) outer s H:=⟨by first|exact e.frames|(simpa [Around.under,Code.envs,Code.isFrame,pushEnvs] using e.frames),e.mod,e.bs,e.bsz,e.funs,e.frf,e.hok,e.bare⟩
theorem Env0.in1 {P:Program} {w:World} {K:PySem.W.Frag} {mg:Str→Option Value} {base:Heap} {A:Around} {outer:List Env} {s:Shared} {H:Hp} (e:Env0 P w K mg base A outer s H):
 Env0 P w K mg base A.in1 outer s H:=⟨e.frames,e.mod,e.bs,e.bsz,e.funs,e.frf,e.hok,e.bare⟩
section
variable {X:Cx} {pins:List (Addr×Obj)} {σ:St} {H:Hp} {s s':Shared}
theorem Inv.env0 (I:Inv X pins σ H s):Env0 X.prog X.w X.K X.mg X.base X.A X.stack s H:=
 ⟨I.ok.frames,I.ok.mod,I.bs,Nat.le_trans I.ok.bsz I.sz,I.stack,I.stkFree,I.hok,I.bare⟩
theorem Inv.after {Q:VK} {u:Value} (I:Inv X pins σ H s) (h:CE X.stack X.prog X.w H s Q u s'):EP X pins σ Q u s':=by
 obtain ⟨v,H',os,bare,un,hok,r,q⟩:=h
 obtain ⟨hh,g,d,t,os'⟩:=s'
 obtain rfl:os'=s.os:=os
 exact ⟨v,H',I.call (h':=hh) (g':=g) (d':=d) (t':=t) (ch:= []) un hok bare (fun b z=>absurd z (by simp)),r,q⟩
end
def uE (sp:Sp) (dvs:List V) (E:XK) (t:TA):TE:=fun σ H Q=>t σ H fun vs H1=>sp (vs++dvs) H1 Q E
def Binds (K:PySem.W.Frag) (fd:FuncData) (ps:List Str) (ds:List Value):Prop:=
 ∀(s:Shared) (us:List Value),K.In s.heap→(us++ds).length=ps.length→BindsTo s fd ⟨us,[]⟩ (ps.zip (us++ds))
theorem Binds.all {K:PySem.W.Frag} {fd:FuncData} {ps:List Str} (h:∀us:List Value,us.length=ps.length→bindArgs fd ⟨us,[]⟩=pure (ps.zip us)):Binds K fd ps []:=fun s us _ hl=>by
 rw [List.append_nil] at hl ⊢
 exact .of_eq (h us hl)
def gA (CX:CXT) (X:Cx) (E:XK):Prop:=∀(pins:List (Addr×Obj)) (σ:St) (H:Hp) (s:Shared) (e:Value) (s':Shared),Inv X pins σ H s→CX X.stack H s E e s'→X.xe e s'
section
variable {X:Cx} {CX:CXT} {k:Nat} {f C:Addr} {fd:FuncData} {ps:List Str} {sp:Sp} {dvs:List V} {ds:List Value} {E:XK} {x m:Str} {p pos apos:Pos} {e o:Expr} {es:List Expr} {ta:TE} {t:TA}
theorem tK {pins:List (Addr×Obj)} {σ:St} {H:Hp} {s:Shared} {Q:VK} {us:List Value} {vs:List V} (F:FnOk X.prog X.w X.K X.mg X.base CX k f fd ps sp) (hr:Room k X.A) (hb:Binds X.K fd ps ds) (hd:Vals dvs ds) (hx:gA CX X E)
 (I:Inv X pins σ H s) (r:Vals vs us) (h:sp (vs++dvs) H Q E):wpAny (model X.prog X.w) X.A (call (.ref f) us) (EP X pins σ Q) X.xe s:=by
 have r2:Vals (vs++dvs) (us++ds):=r.append hd
 have hl:(us++ds).length=ps.length:=by rw [←r2.length];exact F.len _ _ _ _ h
 refine wpAny_call (codeAny_mono (F.run X.A X.stack s H ⟨us,[]⟩ (us++ds) (vs++dvs) Q E hr I.env0 (hb s us I.kIn hl) r2 h) fun r s' hq=> ?_)
 cases r with
 |error e=>exact hx pins σ H s e s' I hq
 |ok fl=>
  cases fl with
  |ret u=>exact I.after hq
  |next=>exact False.elim hq
  |brk=>exact False.elim hq
  |cont=>exact False.elim hq
theorem ah (F:FnOk X.prog X.w X.K X.mg X.base CX k f fd ps sp) (hr:Room k X.A) (hg:Gl X x) (hm:X.mg x=some (.ref f)) (hk:PySem.W.keepIn X.K (.ref f)=true) (hb:Binds X.K fd ps ds) (hd:Vals dvs ds) (hx:gA CX X E)
 (ha:PA X (e::es) t) (hdb:(x==("__debug__":Str))=false:=by decide) (he:starEach (e::es) X.env=(false,eval e X.env)::starEach es X.env:=by rfl) (hpl:(backTo pos (starEach es X.env)).any (·.1)=false:=by rfl):
 PE X (.Call (.Name x p) (e::es) [] pos) (uE sp dvs E t):=by
 intro pins s σ H Q I h
 refine wpAny_Call_Name_kw (iX I hg hm ?_ hdb)
 refine PySem.W.callWith_K (h₀:=X.base) I.ok.mod.kin hk (thn (ha pos pins s σ H _ I h) fun us s1 ⟨vs,H1,I1,r,q⟩=>⟨I1.kIn,?_⟩) he hpl
 exact tK F hr hb hd hx I1 r q
end
section
variable {X:Cx} {CX:CXT} {k:Nat} {f C:Addr} {fd:FuncData} {ps ks:List Str} {sp:Sp} {E:XK} {x m:Str} {p pos apos kpos:Pos} {e o:Expr} {es:List Expr} {kws:List Keyword} {te ta:TE} {t tk:TA} {nm:Option Str}
variable {g:List Value→List Value→List Value} {gV:List V→List V→List V}
end
structure az (N P:List Str) (sc:Scope):Prop where
 kind:sc.kind= .function
 co:sc.isCoroutine=false
 gen:sc.isGenerator=false
 nd:N.Nodup
 pre:N.take P.length=P
 par:∀x∈P,sc.names.lookup x=some .local∨sc.names.lookup x=some .cell
 nofree:∀y∈sc.names,y.2≠ .free
theorem iq {kindOf:Str→Option NameKind} {x:Str}:∀ {binds:List (Str×Value)} {m:Str→Option Value},(∀v,(x,v)∉binds)→bindL kindOf binds m x=m x
 | [],_,_=>rfl
 |(n,v)::r,m,h=>by
  unfold bindL
  rw [iq fun w hw=>h w (List.mem_cons_of_mem _ hw)]
  split
  · have:x≠n:=by rintro rfl;exact h v List.mem_cons_self
    simp [this]
  · rfl
theorem iu {kindOf:Str→Option NameKind} {x:Str}:∀ {binds:List (Str×Value)} {m:Str→Option Value},(∀v,(x,v)∉binds)→bindC kindOf binds m x=m x
 | [],_,_=>rfl
 |(n,v)::r,m,h=>by
  unfold bindC
  rw [iu fun w hw=>h w (List.mem_cons_of_mem _ hw)]
  split
  · rfl
  · have:x≠n:=by rintro rfl;exact h v List.mem_cons_self
    simp [this]
theorem ir {kindOf:Str→Option NameKind} {x:Str} {v:Value}:∀ {P:List Str} {vs:List Value} {i:Nat} {m:Str→Option Value},P.Nodup→P[i]?=some x→vs[i]?=some v→kindOf x=some .local→
 bindL kindOf (P.zip vs) m x=some v
 | [],_,_,_,_,h,_,_=>by simp at h
 |_::_,[],_,_,_,_,h,_=>by simp at h
 |p::P,w::vs,0,m,nd,h1,h2,hk=>by
  simp at h1 h2;subst h1;subst h2
  show bindL kindOf ((p,w)::P.zip vs) m p=_
  unfold bindL
  rw [iq fun v hv=>(List.nodup_cons.mp nd).1 (List.of_mem_zip hv).1,if_pos hk]
  simp
 |p::P,w::vs,i+1,m,nd,h1,h2,hk=>by
  show bindL kindOf ((p,w)::P.zip vs) m x=_
  unfold bindL
  exact ir (i:=i) (List.nodup_cons.mp nd).2 (by simpa using h1) (by simpa using h2) hk
theorem iw {kindOf:Str→Option NameKind} {x:Str} {v:Value}:∀ {P:List Str} {vs:List Value} {i:Nat} {m:Str→Option Value},P.Nodup→P[i]?=some x→vs[i]?=some v→kindOf x≠some .local→
 bindC kindOf (P.zip vs) m x=some v
 | [],_,_,_,_,h,_,_=>by simp at h
 |_::_,[],_,_,_,_,h,_=>by simp at h
 |p::P,w::vs,0,m,nd,h1,h2,hk=>by
  simp at h1 h2;subst h1;subst h2
  show bindC kindOf ((p,w)::P.zip vs) m p=_
  unfold bindC
  rw [iu fun v hv=>(List.nodup_cons.mp nd).1 (List.of_mem_zip hv).1,if_neg hk]
  simp
 |p::P,w::vs,i+1,m,nd,h1,h2,hk=>by
  show bindC kindOf ((p,w)::P.zip vs) m x=_
  unfold bindC
  exact iw (i:=i) (List.nodup_cons.mp nd).2 (by simpa using h1) (by simpa using h2) hk
noncomputable def dQ (N:List Str) (vs:List V):St:=vs.map some++List.replicate (N.length - vs.length) none
noncomputable def cxOf (CX:CXT) (P:Program) (w:World) (K:PySem.W.Frag) (mg:Str→Option Value) (base:Heap) (N:List Str) (qual:Str) (scope:Scope) (f:Addr) (cd:Value) (A:Around) (outer:List Env) (s:Shared) (H:Hp) (E:XK):Cx where
 prog:=P
 w:=w
 K:=K
 mg:=mg
 base:=base
 A:=A.deeper (envOfC qual scope s.heap.objs.size f cd)
 N:=N
 s₀:=s
 H₀:=H
 env:=envOfC qual scope s.heap.objs.size f cd
 outer:=outer
 stack:=envOfC qual scope s.heap.objs.size f cd::outer
 ex:= []
 calm:=true
 fn:=fun _=>true
 pn:= []
 xe:=fun e s'=>wpAny (model P w) (A.deeper (envOfC qual scope s.heap.objs.size f cd)) (leaving (envOfC qual scope s.heap.objs.size f cd) e) (fun _ s''=>CX outer H s E e s'') (fun e' s''=>CX outer H s E e' s'') s'
theorem jP {sc:Scope} {n:Nat} {x:Str} (h:sc.names.lookup x=some .cell):∃c,(cellsFrom n sc.names []).lookup x=some c:=by
 have q:=PySem.W.cellsFrom_some sc.names n [] (.inl h)
 exact Option.isSome_iff_exists.mp q
theorem n6 {CX:CXT} {P:Program} {w:World} {K:PySem.W.Frag} {mg:Str→Option Value} {base:Heap} {N ps:List Str} {qual:Str} {scope:Scope} {f:Addr} {cd:Value} {A:Around} {outer:List Env} {s s1:Shared} {H:Hp} {E:XK} {us:List Value} {vs:List V}
 (S:az N ps scope) (hd:A.handled=none) (e0:Env0 P w K mg base A outer s H) (hl:vs.length=ps.length) (r:Vals vs us)
 (x:InCallC s s.heap.objs.size (bindL (envOfC qual scope s.heap.objs.size f cd).kindOf (ps.zip us) fun _=>none) (cellsFrom (s.heap.objs.size+1) scope.names []) (bindC (envOfC qual scope s.heap.objs.size f cd).kindOf (ps.zip us) fun _=>none) s1):
 Inv (cxOf CX P w K mg base N qual scope f cd A outer s H E) [] (dQ N vs) H s1:=by
 have hpl:ps.length≤N.length:=by have:=congrArg List.length S.pre;rw [List.length_take] at this;omega
 obtain ⟨h1,tk,rfl,hk⟩:=x.done
 have noA:∀b:Addr,b∉(cxOf CX P w K mg base N qual scope f cd A outer s H E).ex:=fun b z=>absurd (show b∈([]:List Addr) from z) (by simp)
 refine ⟨⟨e0.mod,S.kind,rfl,rfl,Nat.le_refl _,fun y z c h1 h2=> ?_,fun y hy=> ?_,fun y c _ h=> ?_,fun _=>hd,Around.frames_deeper e0.frames, .inr ⟨rfl,rfl⟩,fun b z=>absurd z (noA b),e0.bs,e0.bsz,fun b _ _=>noA b,fun b z=>absurd z (noA b),e0.funs,e0.frf⟩,
  rfl,e0.bare,Un.kept hk,⟨_,x.toInCall.ns,fun i y v h1 h2 h3=> ?_⟩,fun y c h=>⟨_,x.cell y c h⟩,e0.hok.fresh (Nat.le_refl _),fun y c h=> ?_,fun p hp=>absurd (show p∈([]:List (Addr×Obj)) from hp) (by simp),e0.hok.kept hk,?_⟩
 · exact name_of_addr x.apart (PySem.mem_of_lookup h1) (PySem.mem_of_lookup h2)
 · have hy:scope.names.lookup y=some .cell∨scope.names.lookup y=some .free:=hy
   rcases hy with hy|hy
   · exact jP hy
   · exact absurd rfl (S.nofree _ (PySem.mem_of_lookup hy))
 · exact Nat.le_of_lt (x.above y c (PySem.mem_of_lookup h))
 · have hi:i < vs.length:=by
    unfold dQ at h2
    by_cases hi:i < vs.length
    · exact hi
    · rw [List.getElem?_append_right (by simpa using hi)] at h2
      rw [List.getElem?_replicate] at h2
      split at h2<;>cases h2
   have ha:vs[i]?=some v:=by
    unfold dQ at h2
    rw [List.getElem?_append_left (by simpa using hi),List.getElem?_map] at h2
    cases e:vs[i]? with
    |none=>rw [e] at h2;cases h2
    |some a=>rw [e] at h2;cases h2;rfl
   obtain ⟨u,hu,rv⟩:=r.get ha
   have hp:ps[i]?=some y:=by
    rw [←S.pre,List.getElem?_take_of_lt (by omega)];exact h1
   have ndP:ps.Nodup:=by rw [←S.pre];exact S.nd.sublist (List.take_sublist _ _)
   refine ⟨u,rv,?_⟩
   rcases S.par y (List.mem_of_getElem? hp) with k|k
   · exact .inl ⟨k,ir ndP hp hu k⟩
   · obtain ⟨c,e⟩:=jP (n:=s.heap.objs.size+1) k
     refine .inr ⟨.inl k,c,e,?_⟩
     have q:=x.cell y c e
     rw [iw ndP hp hu (by show scope.names.lookup y≠_;rw [k];decide)] at q
     exact q
 · exact e0.hok.fresh (Nat.le_of_lt (x.above y c (PySem.mem_of_lookup h)))
 · unfold dQ
   show _=N.length
   rw [List.length_append,List.length_map,List.length_replicate]
   omega
theorem sR {CX:CXT} {P:Program} {w:World} {K:PySem.W.Frag} {mg:Str→Option Value} {base:Heap} {k:Nat} {f:Addr} {name qual:Str} {params:Arguments} {body:List Stmt} {scope:Scope} {dV kV doc pm cdv ct oc:Value} {an od:Option Addr}
 {osl:Array (Option Value)} {N ps:List Str} {sp:Sp} (lk:K.lookup f=some ⟨oc,od, .func (PySem.W.fnOf name qual params body scope dV kV doc pm an cdv ct),osl⟩) (hcd:PySem.W.codeIn K cdv qual=true) (S:az N ps scope)
 (len:∀vs H Q E,sp vs H Q E→vs.length=ps.length)
 (hbody:∀(A:Around) (outer:List Env) (s:Shared) (H:Hp) (vs:List V) (Q:VK) (E:XK),Room k (A.deeper (envOfC qual scope s.heap.objs.size f cdv))→sp vs H Q E→
  ∃t,PSs (cxOf CX P w K mg base N qual scope f cdv A outer s H E) body t∧t {nx:=fun _ H'=>Q .non H',rt:=Q} (dQ N vs) H):
 FnOk P w K mg base CX (k+1) f (PySem.W.fnOf name qual params body scope dV kV doc pm an cdv ct) ps sp:=by
 refine ⟨len,fun A outer s H args us vs Q E hr e0 hb r hsp=> ?_⟩
 have hl:=len _ _ _ _ hsp
 have KX:K.In s.heap:=e0.mod.kin.keeps fun b o e=>(e0.bs b o e).1
 have lim:s.heap.NoLimit:=e0.mod.nolimit.keeps fun b o e=>(e0.bs b o e).1
 have hkind:∀y∈ps.zip us,scope.names.lookup y.1=some .local∨(scope.names.lookup y.1=some .cell∧((cellsFrom (s.heap.objs.size+1) scope.names []).lookup y.1).isSome=true):=fun ⟨n,v⟩ hy=>by
  rcases S.par n (List.of_mem_zip hy).1 with q|q
  · exact .inl q
  · exact .inr ⟨q,PySem.W.cellsFrom_some _ _ _ (.inl q)⟩
 refine codeAny_call_function hr.depth (KX _ _ lk) rfl S.co S.gen rfl (PySem.W.codeRec_of KX hcd) (hb _ _ _ _ ?_)
 refine wpAny_newFunctionEnv_cells S.kind hkind fun env he s1 x=> ?_
 subst he
 refine ⟨lim.keeps x.toInCall.keep,codeAny_func ?_⟩
 obtain ⟨t,ht,hq⟩:=hbody A outer s H vs Q E (hr.deeper _) hsp
 have I:Inv (cxOf CX P w K mg base N qual scope f cdv A outer s H E) [] (dQ N vs) H s1:=n6 S hr.hd e0 hl r x
 refine wpAny_mono (ht [] s1 (dQ N vs) H _ I hq) (fun fl s' hs=> ?_) fun e s' hs=>hs
 have fin:∀ {σ':St} {H':Hp} {v:V} {u:Value},Inv (cxOf CX P w K mg base N qual scope f cdv A outer s H E) [] σ' H' s'→RelV v u→Q v H'→CE outer P w H s Q u s':=
  fun {σ' H' v u} J rv q=>⟨v,H',J.os,J.bare,J.base,J.hok,rv,q⟩
 cases fl with
 |ret u=>
  obtain ⟨v,σ',H',J,rv,q⟩:=hs
  exact fin J rv q
 |next=>
  obtain ⟨σ',H',J,q⟩:=hs
  exact fin (v:=V.non) (u:=Value.none) J rfl q
 |brk=>
  obtain ⟨_,_,_,q⟩:=hs
  exact False.elim q
 |cont=>
  obtain ⟨_,_,_,q⟩:=hs
  exact False.elim q
open PySem PySem.Spec PyProof.Rows
section
variable {X:Cx} {x:Str} {p pos:Pos} {e:Expr} {es:List Expr} {t:TA} {id T:String} {r:List V→Hp→VK→Prop}
def tCB (r:List V→Hp→VK→Prop) (t:TA):TE:=fun σ H Q=>t σ H fun vs H1=>r vs H1 Q
theorem aB (hc:CallR X (.builtin id) r) (hg:Gl X x) (hm:X.mg x=none) (hv:bootBuiltins x=some (.builtin id)) (ha:PA X (e::es) t) (hn:x≠"__name__":=by decide) (hdb:(x==("__debug__":Str))=false:=by decide)
 (he:starEach (e::es) X.env=(false,eval e X.env)::starEach es X.env:=by rfl) (hpl:(backTo pos (starEach es X.env)).any (·.1)=false:=by rfl):PE X (.Call (.Name x p) (e::es) [] pos) (tCB r t):=by
 intro pins s σ H Q I h
 refine wpAny_Call_Name_kw (f8 I hg hm hv ?_ hn hdb)
 exact PyProof.Rows.callWith_builtin1 (thn (ha pos pins s σ H _ I h) fun us s1 ⟨vs,H1,I1,r1,q1⟩=>hc pins s1 σ H1 vs us Q I1 r1 q1) he hpl
theorem bE (hc:CallR X (.type T) r) (hg:Gl X x) (hm:X.mg x=none) (hv:bootBuiltins x=some (.type T)) (ha:PA X (e::es) t) (hn:x≠"__name__":=by decide) (hdb:(x==("__debug__":Str))=false:=by decide)
 (he:starEach (e::es) X.env=(false,eval e X.env)::starEach es X.env:=by rfl) (hpl:(backTo pos (starEach es X.env)).any (·.1)=false:=by rfl):PE X (.Call (.Name x p) (e::es) [] pos) (tCB r t):=by
 intro pins s σ H Q I h
 refine wpAny_Call_Name_kw (f8 I hg hm hv ?_ hn hdb)
 exact PyProof.Rows.callWith_type1 (thn (ha pos pins s σ H _ I h) fun us s1 ⟨vs,H1,I1,r1,q1⟩=>hc pins s1 σ H1 vs us Q I1 r1 q1) he hpl
end
end L2
namespace HT
open PySem PyProof.Rows
section
open PySem.SeqAt
open PySem.AutoSeq1 (wpAny_loadPart')
open PySem.MeetsSeq PySem.MeetsSeq2 PySem.MeetsSeq3
end
section
variable {prog:Program} {w:World} {A:Around} {E:Value→Shared→Prop} {s:Shared}
noncomputable def sIx (n d:Nat):Option Int→Nat
 |none=>d
 |some v=>if v < 0 then (v+(n:Int)).toNat else min v.toNat n
end
end HT
namespace L2
open PySem PySem.Spec PyProof.Rows
abbrev TO:=St→Hp→(Option Int→Hp→Prop)→Prop
def PO (X:Cx) (e:Option Expr) (t:TO):Prop:=
 ∀(pins:List (Addr×Obj)) (s:Shared) (σ:St) (H:Hp) (Q:Option Int→Hp→Prop),Inv X pins σ H s→t σ H Q→
  wpAny (model X.prog X.w) X.A (evalPart e X.env) (fun u s'=>∃o H',Inv X pins σ H' s'∧IsPart u o∧Q o H') X.xe s
def la:TO:=fun _ H Q=>Q none H
def se (t:TE):TO:=fun σ H Q=>t σ H fun x H1=>∃i,x= .int i∧Q (some i) H1
section
variable {X:Cx} {e:Expr} {te:TE} {lo hi:Option Expr} {tl th:TO} {pos p2:Pos}
theorem lF:PO X none la:=by
 intro pins s σ H Q I h
 rw [evalPart_none]
 exact wpAny_pure ⟨none,H,I, .none,h⟩
theorem lE (h:PE X e te):PO X (some e) (se te):=by
 intro pins s σ H Q I hw
 rw [evalPart_some]
 refine thn (h pins s σ H _ I hw) fun u s1 ⟨x,H1,I1,r1,q1⟩=> ?_
 obtain ⟨i,rfl,q⟩:=q1
 obtain ⟨t,rfl⟩:=r1
 exact ⟨some i,H1,I1, .int i t,q⟩
def SlR (X:Cx) (r:V→Option Int→Option Int→Hp→VK→Prop):Prop:=
 ∀(pins:List (Addr×Obj)) (s:Shared) (σ:St) (H:Hp) (x:V) (v vl vu:Value) (lo hi:Option Int) (sl:Addr) (Q:VK),Inv X pins σ H s→RelV x v→s.heap.IsSliceOf sl vl vu .none→IsPart vl lo→IsPart vu hi→r x lo hi H Q→
  ∃T id,typeLookup (.type T) "__getitem__"=pure (some (.builtin id))∧s.TypeIs v T∧wpAny (model X.prog X.w) X.A (getItem v (.ref sl)) (EP X pins σ Q) X.xe s
theorem SlR.or {r r':V→Option Int→Option Int→Hp→VK→Prop} (h:SlR X r) (h':SlR X r'):SlR X (fun x lo hi H Q=>r x lo hi H Q∨r' x lo hi H Q):=by
 intro pins s σ H x v vl vu lo hi sl Q I rx hs pl pu q
 rcases q with q|q
 · exact h pins s σ H x v vl vu lo hi sl Q I rx hs pl pu q
 · exact h' pins s σ H x v vl vu lo hi sl Q I rx hs pl pu q
def tSl (r:V→Option Int→Option Int→Hp→VK→Prop) (te:TE) (tl th:TO):TE:=fun σ H Q=>te σ H fun x H1=>tl σ H1 fun l H2=>th σ H2 fun u H3=>r x l u H3 Q
theorem js {r:V→Option Int→Option Int→Hp→VK→Prop} (hr:SlR X r) (he:PE X e te) (hl:PO X lo tl) (hu:PO X hi th):PE X (.Subscript e (.Slice lo hi none p2) pos) (tSl r te tl th):=by
 intro pins s σ H Q I h
 refine Subscript_ (thn (he pins s σ H _ I h) fun v s1 ⟨x,H1,I1,r1,q1⟩=> ?_)
 refine wpAny_Slice (thn (hl pins s1 σ H1 _ I1 q1) fun vl s2 ⟨l,H2,I2,pl,q2⟩=>thn (hu pins s2 σ H2 _ I2 q2) fun vu s3 ⟨u,H3,I3,pu,q3⟩=> ?_)
 rw [evalPart_none]
 refine wpAny_pure ?_
 have I4:Inv X pins σ H3 {s3 with heap:=s3.heap.push {cls:= .type "slice",data:= .fields #[vl,vu, .none]}}:=I3.kept (t':=s3.toks) fun b ob q=>Heap.get?_push_of_some _ q
 obtain ⟨T,id,hT,ht,hg⟩:=hr pins {s3 with heap:=s3.heap.push {cls:= .type "slice",data:= .fields #[vl,vu, .none]}} σ H3 x v vl vu l u s3.heap.objs.size Q I4 r1 (Heap.IsSliceOf.new ..) pl pu q3
 show wpAny (model X.prog X.w) X.A (subscriptTail e (.Slice lo hi none p2) v (.ref s3.heap.objs.size)) (EP X pins σ Q) X.xe {s3 with heap:=s3.heap.push {cls:= .type "slice",data:= .fields #[vl,vu, .none]}}
 exact tail_any (ops:= [.ref s3.heap.objs.size,v]) ht hT hg (by with_unfolding_all rfl)
noncomputable def cutV (xs:List V) (lo hi:Option Int):List V:=(xs.drop (HT.sIx xs.length 0 lo)).take (HT.sIx xs.length xs.length hi - HT.sIx xs.length 0 lo)
theorem jM (xs:List V) (lo hi:Option Int):(cutV xs lo hi).length≤xs.length:=by
 unfold cutV
 rw [List.length_take,List.length_drop]
 omega
end
open PySem PySem.Spec PyProof.Rows
noncomputable def ixN (n:Nat) (i:Int):Option Nat:=if 0≤i then (if i < n then some i.toNat else none) else if -(n:Int)≤i then some (i+n).toNat else none
noncomputable def atI {α:Type} (xs:List α) (i:Int):Option α:=(ixN xs.length i).bind fun j=>xs[j]?
theorem lP {n:Nat} {i:Int} {j:Nat} (h:ixN n i=some j):seqIndex? i n=some j∧j < n∧ -(n:Int)≤i∧i < n:=by
 unfold ixN at h
 by_cases h0:0≤i
 · rw [if_pos h0] at h
   by_cases h1:i < n
   · rw [if_pos h1] at h
     have e:i.toNat=j:=Option.some.inj h
     exact ⟨by rw [seqIndex_of h0 h1,e],by omega,by omega,h1⟩
   · rw [if_neg h1] at h;cases h
 · rw [if_neg h0] at h
   by_cases h1:-(n:Int)≤i
   · rw [if_pos h1] at h
     have e:(i+n).toNat=j:=Option.some.inj h
     exact ⟨by rw [seqIndex_neg (by omega) h1,e],by omega,h1,by omega⟩
   · rw [if_neg h1] at h;cases h
theorem j9 {α:Type} {xs:List α} {i:Int} {v:α} (h:atI xs i=some v):∃j,seqIndex? i xs.length=some j∧xs[j]?=some v∧j < xs.length∧ -(xs.length:Int)≤i∧i < xs.length:=by
 unfold atI at h
 cases e:ixN xs.length i with
 |none=>rw [e] at h;cases h
 |some j=>
  rw [e] at h
  obtain ⟨h1,h2,h3,h4⟩:=lP e
  exact ⟨j,h1,h,h2,h3,h4⟩
theorem eJ {α:Type} {xs:List α} {j:Nat} {v:α} (h:xs[j]?=some v):atI xs (j:Int)=some v:=by
 have hj:j < xs.length:=(List.getElem?_eq_some_iff.mp h).1
 have e:ixN xs.length (j:Int)=some j:=by
  unfold ixN
  rw [if_pos (by omega),if_pos (by omega)];simp
 unfold atI;rw [e];exact h
def rX (b:Expr):Prop:=∀o i,subscripted b false o i=operate [o,i] (getItem o i)
def IxR (X:Cx) (r:R2):Prop:=
 ∀(value slice:Expr) (pins:List (Addr×Obj)) (s:Shared) (σ:St) (H:Hp) (x y:V) (v u:Value) (Q:VK),Inv X pins σ H s→RelV x v→RelV y u→r x y H Q→
  subscripted slice false v u=operate [v,u] (getItem v u)→wpAny (model X.prog X.w) X.A (subscriptTail value slice v u) (EP X pins σ Q) X.xe s
def MtR (X:Cx) (id:String) (r:V→List V→Hp→VK→Prop):Prop:=
 ∀(pins:List (Addr×Obj)) (s:Shared) (σ:St) (H:Hp) (x:V) (xs:List V) (v:Value) (us:List Value) (Q:VK),Inv X pins σ H s→RelV x v→Vals xs us→r x xs H Q→
  wpAny (model X.prog X.w) X.A (call (.builtin id) (v::us)) (EP X pins σ Q) X.xe s
section
variable {X:Cx} {a b:Expr} {ta tb:TE} {pos:Pos}
theorem IxR.or {r r':R2} (h:IxR X r) (h':IxR X r'):IxR X (fun x y H Q=>r x y H Q∨r' x y H Q):=by
 intro value slice pins s σ H x y v u Q I rx ry q hs
 rcases q with q|q
 · exact h value slice pins s σ H x y v u Q I rx ry q hs
 · exact h' value slice pins s σ H x y v u Q I rx ry q hs
theorem MtR.or {id:String} {r r':V→List V→Hp→VK→Prop} (h:MtR X id r) (h':MtR X id r'):MtR X id (fun x xs H Q=>r x xs H Q∨r' x xs H Q):=by
 intro pins s σ H x xs v us Q I rx rs q
 rcases q with q|q
 · exact h pins s σ H x xs v us Q I rx rs q
 · exact h' pins s σ H x xs v us Q I rx rs q
theorem ao {r:R2} (hr:IxR X r) (ha:PE X a ta) (hb:PE X b tb) (hs:rX b):PE X (.Subscript a b pos) (tOp r ta tb):=by
 intro pins s σ H Q I h
 exact Subscript_ (binT ha hb I h fun v u s2 x y H2 I2 rx ry q=>hr a b pins s2 σ H2 x y v u Q I2 rx ry q (hs _ _))
def rIxL (K:PySem.W.Frag):R2:=fun x y H Q=>∃p xs i v,x= .ref p∧y= .int i∧SqL K H p xs∧atI xs i=some v∧Q v H
def rIxT (K:PySem.W.Frag):R2:=fun x y H Q=>∃p xs i v,x= .ref p∧y= .int i∧SqT K H p xs∧atI xs i=some v∧Q v H
def rIxS:R2:=fun x y H Q=>∃z i c,x= .str z∧y= .int i∧z.length≤sizeLine∧atI z.cps.toList i=some c∧Q (.str ⟨#[c]⟩) H
theorem aU:IxR X (rIxL X.K):=by
 intro value slice pins s σ H x y v u Q I rx ry h hs
 obtain ⟨p,xs,i,z,rfl,rfl,hq,he,q⟩:=h
 cases rx
 obtain ⟨t,rfl⟩:=ry
 obtain ⟨its,r,pl,hz⟩:=I.list hq
 obtain ⟨j,h1,h2,h3,h4,h5⟩:=j9 he
 obtain ⟨w,ew,rw'⟩:=r.get h2
 have hl:=r.length
 have hn:=dB
 have fin:EP X pins σ Q w s:=⟨z,H,I,rw',q⟩
 by_cases h0:0≤i
 · have hj:i.toNat=j:=by
    rw [seqIndex_of h0 h5] at h1
    exact Option.some.inj h1
   exact item_listR pl.isList h0 (by omega) (by rw [hj];simpa using ew) fin hs
 · have hj:(i+(its.toArray.size:Int)).toNat=j:=by
    rw [seqIndex_neg (by omega) h4] at h1
    rw [List.size_toArray,←hl]
    exact Option.some.inj h1
   exact subscriptTail_builtinR (x:=w) pl.isList.typeIs slot_list_getitem.lookup
    (wpAny_getItem_list_neg (Q:=fun r s'=>r=w∧EP X pins σ Q r s') pl.isList (by omega) (by rw [List.size_toArray]<;>omega) (by omega) (by rw [hj];simpa using ew) ⟨rfl,fin⟩) hs
theorem aq:IxR X (rIxT X.K):=by
 intro value slice pins s σ H x y v u Q I rx ry h hs
 obtain ⟨p,xs,i,z,rfl,rfl,hq,he,q⟩:=h
 cases rx
 obtain ⟨t,rfl⟩:=ry
 obtain ⟨its,r,pl,hz⟩:=I.tuple hq
 obtain ⟨j,h1,h2,h3,h4,h5⟩:=j9 he
 obtain ⟨w,ew,rw'⟩:=r.get h2
 have hl:=r.length
 have hn:=dB
 have fin:EP X pins σ Q w s:=⟨z,H,I,rw',q⟩
 exact subscriptTail_builtinR (x:=w) pl.typeIs slot_tuple_getitem.lookup
  (getItem_tuple (j:=j) (Q:=fun r s'=>r=w∧EP X pins σ Q r s') pl (by omega) (by omega) (by rw [List.size_toArray,←hl];exact h1) (by simpa using ew) ⟨rfl,fin⟩) hs
theorem iZ:IxR X rIxS:=by
 intro value slice pins s σ H x y v u Q I rx ry h hs
 obtain ⟨z,i,c,rfl,rfl,hz,he,q⟩:=h
 obtain ⟨t,rfl⟩:=rx
 obtain ⟨t',rfl⟩:=ry
 obtain ⟨j,h1,h2,h3,h4,h5⟩:=j9 he
 have hl:z.cps.toList.length=z.length:=by simp [Str.length]
 rw [hl] at h1 h4 h5
 have hn:=dB
 exact tail_any (typeIs_str s z t) slot_str_getitem.lookup (getItem_str (c:=c) (by
  have e1:decide (i < -(2^63:Int))=false:=decide_eq_false (by omega)
  have e2:decide (i≥2^63)=false:=decide_eq_false (by omega)
  rw [e1,e2,Bool.or_false]) (by rw [h1];simpa using h2) ⟨.str ⟨#[c]⟩,H,I.tok _,⟨_,rfl⟩,q⟩) hs
theorem ki (its:List Value) (n j:Nat) (u:Value):Obj.mapSeq (·.setIfInBounds j u) {cls:= .type "list",data:= .seq its.toArray n} = {cls:= .type "list",data:= .seq (its.set j u).toArray n}:=by
 simp [Obj.mapSeq]
theorem Inv.lst {pins:List (Addr×Obj)} {σ:St} {H:Hp} {s:Shared} {p:Addr} {xs:List V} (I:Inv X pins σ H s) (h:H p=some (.lst xs)):
 ∃(its:List Value) (n:Nat),Vals xs its∧s.heap.get? p=some {cls:= .type "list",data:= .seq its.toArray n}∧xs.length≤sizeLine:=by
 obtain ⟨z,its,n,r,e⟩:=I.hok p _ h
 exact ⟨its,n,r,e,z⟩
theorem Inv.lstUpd {pins:List (Addr×Obj)} {σ:St} {H:Hp} {s:Shared} {p:Addr} {xs ys:List V} {its its':List Value} {n n':Nat} {f:Obj→Obj} (I:Inv X pins σ H s) (h:H p=some (.lst xs))
 (ho:s.heap.get? p=some {cls:= .type "list",data:= .seq its.toArray n}) (hf:f {cls:= .type "list",data:= .seq its.toArray n} = {cls:= .type "list",data:= .seq its'.toArray n'}) (r:Vals ys its') (hz:ys.length≤sizeLine) (t:Nat):
 Inv X pins σ (upd H p (.lst ys)) {s with heap:=s.heap.update p f,toks:=t}:=by
 have e:(s.heap.update p f).get? p=some {cls:= .type "list",data:= .seq its'.toArray n'}:=by
  rw [Heap.get?_update_self f ho (by rw [hf]<;>rfl),hf]
 refine I.write (x:=p) (e:=p) (by rw [h];trivial) (.inl rfl) (fun b u hb q=>(Heap.get?_update_other _ _ (Ne.symm hb)).trans q) ⟨_,e⟩ ?_
 exact ⟨hz,its',n',r,e⟩
def uL:V→V→V→Hp→(Hp→Prop)→Prop:=fun o i v H Q=>∃p xs k j,o= .ref p∧i= .int k∧H p=some (.lst xs)∧ixN xs.length k=some j∧Q (upd H p (.lst (xs.set j v)))
theorem fG:PSet X uL:=by
 intro pins s σ H o i v ov iv u Q I ro ri rv h
 obtain ⟨p,xs,k,j,rfl,rfl,hp,hj,q⟩:=h
 cases ro
 obtain ⟨t,rfl⟩:=ri
 obtain ⟨its,n,r,ho,hz⟩:=I.lst hp
 obtain ⟨h1,h2,h3,h4⟩:=lP hj
 have hl:=r.length
 have hn:=dB
 have I':Inv X pins σ (upd H p (.lst (xs.set j v))) {s with heap:=s.heap.update p (Obj.mapSeq (·.setIfInBounds j u))}:=
  I.lstUpd hp ho (ki its n j u) (r.set rv j) (by rw [List.length_set];exact hz) s.toks
 by_cases h0:0≤k
 · have hk:k.toNat=j:=by
    rw [seqIndex_of h0 h4] at h1
    exact Option.some.inj h1
   exact PySem.W.ki_setAt ho h0 (by omega) (by rw [List.size_toArray,←hl];exact h4) (by rw [hk];exact ⟨_,I',q⟩)
 · have hk:(k+(its.toArray.size:Int)).toNat=j:=by
    rw [seqIndex_neg (by omega) h3] at h1
    rw [List.size_toArray,←hl]
    exact Option.some.inj h1
   exact PySem.W.ki_setBack ho (by omega) (by rw [List.size_toArray,←hl];exact h3) (by omega) (by rw [hk];exact ⟨_,I',q⟩)
theorem iL (lo hi:Option Int) (n:Nat):(sliceBounds lo hi none n).1=((HT.sIx n 0 lo:Nat):Int)∧(sliceBounds lo hi none n).2.1=((HT.sIx n n hi:Nat):Int)∧(sliceBounds lo hi none n).2.2=1:=by
 refine ⟨?_,?_,rfl⟩
 · cases lo with
   |none=>simp [sliceBounds,HT.sIx]
   |some i=>
    simp only [sliceBounds,HT.sIx,Option.getD_none,show (1:Int) > 0 by decide,if_true]
    by_cases h:i < 0
    · simp only [h,if_true]<;>omega
    · simp only [h,if_false]<;>omega
 · cases hi with
   |none=>simp [sliceBounds,HT.sIx]
   |some i=>
    simp only [sliceBounds,HT.sIx,Option.getD_none,show (1:Int) > 0 by decide,if_true]
    by_cases h:i < 0
    · simp only [h,if_true]<;>omega
    · simp only [h,if_false]<;>omega
theorem gK (its:List Value) (lo hi:Option Int):slicePick its.toArray lo hi none=((its.drop (HT.sIx its.length 0 lo)).take (HT.sIx its.length its.length hi - HT.sIx its.length 0 lo)).toArray:=by
 obtain ⟨h1,h2,h3⟩:=iL lo hi its.toArray.size
 unfold slicePick
 rw [h1,h2,h3]
 simp only [sliceRange_one,pick_run,List.size_toArray]<;>rfl
def rSlL (K:PySem.W.Frag):V→Option Int→Option Int→Hp→VK→Prop:=fun x lo hi H Q=>∃a xs,x= .ref a∧SqL K H a xs∧∀p,H p=none→Q (.ref p) (upd H p (.lst (cutV xs lo hi)))
theorem qH:SlR X (rSlL X.K):=by
 intro pins s σ H x v vl vu lo hi sl Q I rx hs pl pu h
 obtain ⟨a,xs,rfl,hx,q⟩:=h
 cases rx
 obtain ⟨its,r,ht,hz⟩:=I.list hx
 have hlen:=r.length
 refine ⟨"list",_,slot_list_getitem.lookup,ht.isList.typeIs,?_⟩
 refine wpAny_getItem_list_slice ht.isList hs pl pu .none (by simp) ?_ (by rw [List.size_toArray]<;>omega)
 rw [gK,←hlen]
 refine ⟨.ref s.heap.objs.size,_,I.laid (t':=s.toks) (o:= .lst (cutV xs lo hi)) (fun b ob q=>Heap.get?_push_of_some _ q) (Nat.le_refl _) ?_,rfl,q _ (I.hok.fresh (Nat.le_refl _))⟩
 exact ⟨Nat.le_trans (jM xs lo hi) hz,_,0,(r.drop (HT.sIx xs.length 0 lo)).take (HT.sIx xs.length xs.length hi - HT.sIx xs.length 0 lo),Heap.get?_push_size _ rfl⟩
noncomputable def fh:V→Bool
 | .non=>true
 | .bl _=>true
 | .int _=>true
 | .str _=>true
 |_=>false
noncomputable def eqV:V→V→Bool
 | .non, .non=>true
 | .bl a, .bl b=>a==b
 | .bl a, .int b=>(if a then 1 else 0)==b
 | .int a, .bl b=>a==(if b then 1 else 0)
 | .int a, .int b=>a==b
 | .str a, .str b=>a==b
 |_,_=>false
theorem um {A:Around} {s:Shared} {y x:V} {u v:Value} (ry:RelV y u) (rx:RelV x v) (fy:fh y=true) (fx:fh x=true):SeqAt.EqAt A s u v (eqV y x):=by
 cases y with
 |non=>
  cases ry
  cases x with
  |non=>cases rx;exact SeqAt.EqAt.same _
  |bl b=>cases rx;exact SeqAt.EqAt.none_bool b
  |int b=>obtain ⟨t,rfl⟩:=rx;exact SeqAt.EqAt.none_int b t
  |str b=>obtain ⟨t,rfl⟩:=rx;exact SeqAt.EqAt.none_str b t
  |_=>exact absurd (show false=true from fx) Bool.false_ne_true
 |bl a=>
  cases ry
  cases x with
  |non=>cases rx;exact SeqAt.EqAt.bool_none a
  |bl b=>cases rx;exact SeqAt.EqAt.bool_bool a b
  |int b=>obtain ⟨t,rfl⟩:=rx;exact SeqAt.EqAt.bool_int a b t
  |str b=>obtain ⟨t,rfl⟩:=rx;exact SeqAt.EqAt.bool_str a b t
  |_=>exact absurd (show false=true from fx) Bool.false_ne_true
 |int a=>
  obtain ⟨t',rfl⟩:=ry
  cases x with
  |non=>cases rx;exact SeqAt.EqAt.int_none a t'
  |bl b=>cases rx;exact SeqAt.EqAt.int_bool a t' b
  |int b=>obtain ⟨t,rfl⟩:=rx;exact SeqAt.EqAt.int_int a t' b t
  |str b=>obtain ⟨t,rfl⟩:=rx;exact SeqAt.EqAt.int_str a t' b t
  |_=>exact absurd (show false=true from fx) Bool.false_ne_true
 |str a=>
  obtain ⟨t',rfl⟩:=ry
  cases x with
  |non=>cases rx;exact SeqAt.EqAt.str_none a t'
  |bl b=>cases rx;exact SeqAt.EqAt.str_bool a t' b
  |int b=>obtain ⟨t,rfl⟩:=rx;exact SeqAt.EqAt.str_int a t' b t
  |str b=>obtain ⟨t,rfl⟩:=rx;exact SeqAt.EqAt.str_str a t' b t
  |_=>exact absurd (show false=true from fx) Bool.false_ne_true
 |_=>exact absurd (show false=true from fy) Bool.false_ne_true
noncomputable def eqU (x:V) (u:Value):Bool:=match u with
 | .none=>eqV .non x
 | .bool b=>eqV (.bl b) x
 | .int i _=>eqV (.int i) x
 | .str z _=>eqV (.str z) x
 |_=>false
theorem pC {x y:V} {u:Value} (r:RelV y u) (f:fh y=true):eqU x u=eqV y x:=by
 cases y with
 |non=>cases r;rfl
 |bl b=>cases r;rfl
 |int i=>obtain ⟨t,rfl⟩:=r;rfl
 |str z=>obtain ⟨t,rfl⟩:=r;rfl
 |_=>exact absurd (show false=true from f) Bool.false_ne_true
theorem jb {x:V}:∀ {xs:List V} {us:List Value},Vals xs us→xs.all fh=true→us.any (eqU x)=xs.any fun y=>eqV y x
 |_,_, .nil,_=>rfl
 |y::xs,u::us, .cons r t,f=>by
  rw [List.all_cons,Bool.and_eq_true] at f
  rw [List.any_cons,List.any_cons,pC r f.1,jb t f.2]
theorem fU {A:Around} {s:Shared} {x:V} {v:Value} (rx:RelV x v) (fx:fh x=true):∀ {xs:List V} {us:List Value},Vals xs us→xs.all fh=true→∀u∈us,SeqAt.EqAt A s u v (eqU x u)
 |_,_, .nil,_=>fun u hu=>by cases hu
 |y::xs,u::us, .cons r t,f=>fun u' hu=>by
  rw [List.all_cons,Bool.and_eq_true] at f
  rcases List.mem_cons.mp hu with rfl|hu
  · rw [pC r f.1];exact um r rx f.1 fx
  · exact fU rx fx t f.2 u' hu
noncomputable def inV (x:V) (xs:List V):Bool:=xs.any fun y=>eqV y x
def rIn (K:PySem.W.Frag) (neg:Bool):R2:=fun x y H Q=>∃p xs,y= .ref p∧(SqL K H p xs∨SqT K H p xs)∧fh x=true∧xs.all fh=true∧Q (.bl (if neg then !inV x xs else inV x xs)) H
theorem mr:OpR X (compareOp .In) (rIn X.K false):=by
 intro pins s σ H x y v u Q I rx ry h
 obtain ⟨p,xs,rfl,hq,fx,fs,q⟩:=h
 cases ry
 rcases hq with hq|hq
 · obtain ⟨its,r,pl,hz⟩:=I.list hq
   refine SeqAt.in_listAt (eqU x) pl.isList (fun w hw=>fU rx fx r fs w (by simpa using hw)) ⟨.bl _,H,I,rfl,?_⟩
   rw [show its.toArray.any (eqU x)=its.any (eqU x) by simp,jb r fs]
   exact q
 · obtain ⟨its,r,pl,hz⟩:=I.tuple hq
   refine SeqAt.in_tupleAt (eqU x) pl (fun w hw=>fU rx fx r fs w (by simpa using hw)) ⟨.bl _,H,I,rfl,?_⟩
   rw [show its.toArray.any (eqU x)=its.any (eqU x) by simp,jb r fs]
   exact q
theorem aX:CallR X (.builtin "len") (fun xs H Q=>∃p ys,xs= [.ref p]∧(SqL X.K H p ys∨SqT X.K H p ys)∧Q (.int ys.length) H):=by
 intro pins s σ H xs us Q I r h
 obtain ⟨p,ys,rfl,hq,q⟩:=h
 obtain ⟨u,rfl,rx⟩:=gY r
 cases rx
 have hn:=dB
 rcases hq with hq|hq
 · obtain ⟨its,r',pl,hz⟩:=I.list hq
   have hlen:=r'.length
   exact Calls.call_len_list pl.isList (by simp only [List.size_toArray]<;>omega) ⟨.int ys.length,H,I.tok _,⟨s.toks+1,by rw [List.size_toArray,hlen]⟩,q⟩
 · obtain ⟨its,r',pl,hz⟩:=I.tuple hq
   have hlen:=r'.length
   exact len_tuple pl (by simp only [List.size_toArray]<;>omega) ⟨.int ys.length,H,I.tok _,⟨s.toks+1,by rw [List.size_toArray,hlen]⟩,q⟩
theorem j7:CallR X (.builtin "len") (fun xs H Q=>∃z,xs= [.str z]∧z.length≤sizeLine∧Q (.int z.length) H):=by
 intro pins s σ H xs us Q I r h
 obtain ⟨z,rfl,hz,q⟩:=h
 obtain ⟨u,rfl,t,rfl⟩:=gY r
 have hn:=dB
 exact len_str (by omega) ⟨.int z.length,H,I.tok _,⟨_,rfl⟩,q⟩
theorem CallR.or {f:Value} {r r':List V→Hp→VK→Prop} (h:CallR X f r) (h':CallR X f r'):CallR X f (fun xs H Q=>r xs H Q∨r' xs H Q):=by
 intro pins s σ H xs us Q I rs q
 rcases q with q|q
 · exact h pins s σ H xs us Q I rs q
 · exact h' pins s σ H xs us Q I rs q
theorem aT:CallR X (.type "tuple") (fun xs H Q=>∃p ys,xs= [.ref p]∧((SqL X.K H p ys∧∀l,H l=none→Q (.ref l) (upd H l (.tup ys)))∨(SqT X.K H p ys∧Q (.ref p) H))):=by
 intro pins s σ H xs us Q I r h
 obtain ⟨p,ys,rfl,h⟩:=h
 obtain ⟨u,rfl,rx⟩:=gY r
 cases rx
 rcases h with ⟨hq,q⟩|⟨hq,q⟩
 · obtain ⟨its,r',pl,hz⟩:=I.list hq
   have hlen:=r'.length
   refine call_tuple_list pl.isList (fun h' kp=> ?_) (by simp only [List.size_toArray]<;>omega)
   have I1:Inv X pins σ H {s with heap:=h'}:=I.kept (t':=s.toks) kp
   have I2:Inv X pins σ (upd H h'.objs.size (.tup ys)) {s with heap:=h'.push {cls:= .type "tuple",data:= .seq its.toArray}}:=
    I1.laid (t':=s.toks) (fun b o e=>Heap.get?_push_of_some _ e) (Nat.le_refl _) (show ObjOk X.prog X.w _ _ _ (.tup ys) from ⟨hz,its,r',IsTup.new _ _⟩)
   exact ⟨.ref h'.objs.size,_,I2,rfl,q _ (I1.hok.fresh (Nat.le_refl _))⟩
 · obtain ⟨its,r',pl,hz⟩:=I.tuple hq
   exact call_tuple_same pl ⟨.ref p,H,I,rfl,q⟩
def tyV (K:PySem.W.Frag) (T:String) (x:V) (H:Hp):Prop:=match x with
 | .str _=>T= "str"
 | .int _=>T= "int"
 | .ref p=>(T= "list"∧∃xs,SqL K H p xs)∨(T= "tuple"∧∃o,K.lookup p=some o∧o.cls= .type "tuple"∧o.dict=none)∨
  (T= "dict"∧((∃kvs,H p=some (.dK kvs))∨∃kvs,H p=some (.dT kvs)))∨(T= "set"∧∃S n,H p=some (.set S n))
 |_=>False
theorem nH {pins:List (Addr×Obj)} {σ:St} {H:Hp} {s:Shared} {T:String} {x:V} {v:Value} (I:Inv X pins σ H s) (r:RelV x v) (ty:tyV X.K T x H):
 s.TypeIs v T∧∀a,v= .ref a→∃ob,s.heap.get? a=some ob∧ob.dict=none:=by
 cases x with
 |str z=>
  obtain ⟨t,rfl⟩:=r
  cases (show T= "str" from ty)
  exact ⟨typeIs_str s z t,fun _ e=>nomatch e⟩
 |int i=>
  obtain ⟨t,rfl⟩:=r
  cases (show T= "int" from ty)
  exact ⟨typeIs_int s i t,fun _ e=>nomatch e⟩
 |ref p=>
  cases r
  rcases ty with ⟨rfl,xs,hq⟩|⟨rfl,o,hk,hc,hd⟩|⟨rfl,hk⟩|⟨rfl,S,n,hk⟩
  · obtain ⟨its,_,pl,_⟩:=I.list hq
    refine ⟨pl.isList.typeIs,fun a e=> ?_⟩
    cases e
    obtain ⟨o,n,e,c,hd,_⟩:=pl
    exact ⟨o,e,hd⟩
  · refine ⟨⟨o,I.kIn p o hk,hc⟩,fun a e=> ?_⟩
    cases e
    exact ⟨o,I.kIn _ o hk,hd⟩
  · have z:∃o,s.heap.get? p=some o∧o.ExactDict:=by
     rcases hk with ⟨kvs,hk⟩|⟨kvs,hk⟩
     · obtain ⟨_,_,_,_,o,_,_,e,ex,_⟩:=I.hok p _ hk
       exact ⟨o,e,ex⟩
     · obtain ⟨_,_,_,_,o,_,_,e,ex,_⟩:=I.hok p _ hk
       exact ⟨o,e,ex⟩
    obtain ⟨o,e,ex⟩:=z
    refine ⟨⟨o,e,ex.1⟩,fun a e2=> ?_⟩
    cases e2
    exact ⟨o,e,ex.2.1⟩
  · obtain ⟨o,_,_,_,e,ex,_⟩:=I.hok p _ hk
    refine ⟨⟨o,e,ex.1⟩,fun a e2=> ?_⟩
    cases e2
    exact ⟨o,e,ex.2.1⟩
 |_=>exact False.elim ty
def tBM0 (K:PySem.W.Frag) (T:String) (r:V→List V→Hp→VK→Prop) (to:TE):TE:=fun σ H Q=>to σ H fun x H1=>tyV K T x H1∧r x [] H1 Q
def tBM (K:PySem.W.Frag) (T:String) (r:V→List V→Hp→VK→Prop) (to:TE) (t:TA):TE:=fun σ H Q=>to σ H fun x H1=>tyV K T x H1∧t σ H1 fun xs H2=>r x xs H2 Q
variable {o e:Expr} {es:List Expr} {to:TE} {t:TA} {name:Str} {apos cpos:Pos} {T id:String} {r:V→List V→Hp→VK→Prop}
theorem kc (pa:PlainAttrs T) (slot:Slot T name id) (hty:typeOf (.builtin id)=pure (.type "method_descriptor")) (hm:MtR X id r) (ho:PE X o to)
 (hbase:attributeBase o name X.env (eval o X.env)=eval o X.env:=by rfl) (hline:(apos.endLine==cpos.line)=true:=by rfl):PE X (.Call (.Attribute o name apos) [] [] cpos) (tBM0 X.K T r to):=by
 intro pins s σ H Q I h
 refine wpAny_Call_method0_late hbase hline (thn (ho pins s σ H _ I h) fun v s1 ⟨x,H1,I1,r1,ty,q1⟩=> ?_)
 obtain ⟨h1,h2⟩:=nH I1 r1 ty
 exact ⟨T,id,pa,slot,hty,h1,h2,Calls.callWith_builtin rfl (PySem.evalArgs_none (hm pins s1 σ H1 x [] v [] Q I1 r1 .nil q1))⟩
theorem jv (pa:PlainAttrs T) (slot:Slot T name id) (hty:typeOf (.builtin id)=pure (.type "method_descriptor")) (hm:MtR X id r) (ho:PE X o to) (ha:PA X (e::es) t)
 (hbase:attributeBase o name X.env (eval o X.env)=eval o X.env:=by rfl)
 (hfew:((backTo cpos (starEach (e::es) X.env)).all (fun x=> !x.1)&& (backToKw cpos (keywordEach [] X.env)).all (fun x=>x.1.isSome)
  &&decide ((e::es).length+([]:List Keyword).length+(if ([]:List Keyword).isEmpty then 0 else 1) < 30))=true:=by rfl)
 (hline:(apos.endLine==cpos.line)=true:=by rfl) (hs:starEach (e::es) X.env=(false,eval e X.env)::starEach es X.env:=by rfl) (hplain:(backTo cpos (starEach es X.env)).any (·.1)=false:=by rfl):
 PE X (.Call (.Attribute o name apos) (e::es) [] cpos) (tBM X.K T r to t):=by
 intro pins s σ H Q I h
 refine wpAny_Call_method_late hbase hfew hline rfl (thn (ho pins s σ H _ I h) fun v s1 ⟨x,H1,I1,r1,ty,q1⟩=> ?_)
 obtain ⟨h1,h2⟩:=nH I1 r1 ty
 refine ⟨T,id,pa,slot,hty,h1,h2,?_⟩
 have hA:=ha cpos pins s1 σ H1 _ I1 q1
 rw [hs] at hA ⊢
 refine Calls.callWith_builtin (by show (false ||(backTo cpos (starEach es X.env)).any (·.1))=false;rw [hplain]<;>rfl) (Calls.evalArgs_plain ?_)
 exact thn hA fun us s2 ⟨vs,H2,I2,r2,q2⟩=>hm pins s2 σ H2 x vs v us Q I2 r1 r2 q2
end
open PySem PySem.Spec PyProof.Rows
def MtM (X:Cx) (id:String) (r:V→List V→Hp→VK→Prop):Prop:=
 ∀(pins:List (Addr×Obj)) (s:Shared) (σ:St) (H:Hp) (x:V) (xs:List V) (v:Value) (us:List Value) (Q:VK),Inv X pins σ H s→RelV x v→Vals xs us→r x xs H Q→
  wpAny (model X.prog X.w) X.A (call (.builtin id) (v::us)) (EP X pins σ Q) X.xe s
theorem Vals.one:∀ {x:V} {us:List Value},Vals [x] us→∃u,us= [u]∧RelV x u
 |_,_, .cons r .nil=>⟨_,rfl,r⟩
theorem Vals.two {x y:V} {us:List Value} (h:Vals [x,y] us):∃u v,us= [u,v]∧RelV x u∧RelV y v:=by
 cases h with
 |cons r t=>cases t with
  |cons q t'=>cases t';exact ⟨_,_,rfl,r,q⟩
theorem Vals.zero:∀ {us:List Value},Vals [] us→us= []
 |_, .nil=>rfl
theorem Vals.dropLast {xs:List V} {us:List Value} (h:Vals xs us):Vals xs.dropLast us.dropLast:=by
 induction h with
 |nil=>exact .nil
 |cons r t ih=>
  cases t with
  |nil=>exact .nil
  |cons q t'=>exact .cons r ih
theorem Vals.reverse {xs:List V} {us:List Value} (h:Vals xs us):Vals xs.reverse us.reverse:=by
 induction h with
 |nil=>exact .nil
 |cons r t ih=>rw [List.reverse_cons,List.reverse_cons];exact Vals.append ih (.cons r .nil)
section
variable {X:Cx} {pins:List (Addr×Obj)} {σ:St} {H:Hp} {s:Shared} {l b:Addr} {xs ys zs:List V}
theorem Inv.lset {its its':List Value} {n:Nat} {f:Array Value→Array Value} {t':Nat} (I:Inv X pins σ H s) (hH:H l=some (.lst xs))
 (e:s.heap.get? l=some {cls:= .type "list",data:= .seq its.toArray n}) (hf:f its.toArray=its'.toArray) (hv:Vals ys its') (hz:ys.length≤sizeLine):
 Inv X pins σ (upd H l (.lst ys)) {s with heap:=s.heap.update l (Obj.mapSeq f),toks:=t'}:=by
 have q:=PySem.IsL.update e f
 rw [hf] at q
 refine I.write (x:=l) (e:=l) (by rw [hH];exact trivial) (.inl rfl) (fun b' u hb hu=>(Heap.get?_update_other s.heap (Obj.mapSeq f) (Ne.symm hb)).trans hu) ⟨_,q⟩ ?_
 exact ⟨hz,its',_,hv,q⟩
theorem Inv.fresh (I:Inv X pins σ H s):H s.heap.objs.size=none:=I.hok.fresh (Nat.le_refl _)
theorem Inv.lstM (I:Inv X pins σ H s) (hH:H l=some (.lst xs)):xs.length≤sizeLine∧∃(its:List Value) (n:Nat),Vals xs its∧xs.length=its.length∧s.heap.get? l=some {cls:= .type "list",data:= .seq its.toArray n}:=by
 obtain ⟨z,its,n,r,e⟩:=I.hok l _ hH
 exact ⟨z,its,n,r,r.length,e⟩
end
section
variable {X:Cx}
def qL:V→List V→Hp→VK→Prop:=fun x vs H Q=>∃l xs y,x= .ref l∧vs= [y]∧H l=some (.lst xs)∧xs.length < sizeLine∧Q .non (upd H l (.lst (xs++ [y])))
theorem cC:MtM X "list.append" qL:=by
 intro pins s σ H x vs v us Q I rx rv h
 obtain ⟨l,xs,y,rfl,rfl,hH,hz,q⟩:=h
 cases rx
 obtain ⟨u,rfl,ru⟩:=rv.one
 obtain ⟨z,its,n,r,hl,e⟩:=I.lstM hH
 refine call_meets F.slot_list_append ⟨_,e,rfl⟩ F.entry_list_append (F.args_list_append_2 _ _) (PySem.list_append l its.toArray n u (by rw [List.size_toArray];omega)) ⟨e,?_⟩
 refine ⟨.non,_,I.lset (its':=its++ [u]) hH e (by simp) (r.append (.cons ru .nil)) ?_,rfl,q⟩
 rw [List.length_append,List.length_singleton]
 omega
end
section
variable {prog:Program} {w:World} {A:Around} {E:Value→Shared→Prop} {s:Shared}
end
section
variable {X:Cx}
end
end L2
namespace Att
open PySem PySem.W PySem.Calls PyProof.Rows
theorem fi {P:Params} {h:Heap}:∀(ns:List Int) (vs:List Value),WellAll P h vs (ns.map WData.int)→IntsAre vs ns:=by
 intro ns
 induction ns with
 |nil=>
  intro vs w
  rw [List.map_nil] at w
  cases w
  exact .nil
 |cons n ns ih=>
  intro vs w
  rw [List.map_cons] at w
  cases w with
  |cons a b=>
   cases a
   exact .cons _ _ (ih _ b)
theorem mm {l:OpenLaw} {n:Nat} (hn:l.most=some n) {P:Params} {h:Heap} {args:List WData} {vals:List Value}
 (hpre:l.row.toRowW.claim.pre args=true) (hwl:WellAll P h vals args):
 ∃a vs ns,vals= [Value.ref a]∧args= [WData.list (ns.map WData.int)]∧h.get? a=some {cls:= .type "list",data:= .seq vs.toArray}∧IntsAre vs ns∧ns.length≤n:=by
 have hsh:WShape.hasAll [] args [.list .int]=true:=(pre_splitW hpre).1
 have hc:l.pre.holds [] {args:=args} =true:=(pre_splitW hpre).2
 obtain ⟨d,r,rfl,h1,h2⟩:=hasAllW_cons hsh
 obtain rfl:=hasAllW_nil h2
 obtain ⟨xs,rfl,h3⟩:=hasW_list h1
 obtain ⟨ns,rfl⟩:=items_int h3
 have hlen:ns.length≤n:=by
  unfold OpenLaw.pre at hc
  have h4:(WTm.not (.lt (.lit (.int (n:Int))) (.len (.arg 0)))).holds [] {args:= [.list (ns.map .int)]} =true:=by
   have h4:=(holds_andW hc).1
   rw [hn] at h4
   exact h4
  have h5:=condW_of h4 (w_not (w_lt w_lit (w_len_list (w_arg rfl))))
  rw [List.length_map] at h5
  refine Nat.le_of_not_lt fun q=> ?_
  have q':(n:Int) < ((ns.length:Nat):Int):=by omega
  first
   |(rw [decide_eq_true q'] at h5;exact absurd h5 (by decide))
   |(simp at h5;omega)
 cases hwl with
 |cons w1 w2=>
  cases w2
  cases w1 with
  |list ho hall=>exact ⟨_,_,ns,rfl,rfl,ho,fi ns _ hall,hlen⟩
theorem mn (l:OpenLaw) (args:List WData):l.row.toRowW.claim.post args (.bool true) args=true:=
 postW_of (r:=l.row.toRowW) (X:=(true==true))
  (show WShape.has [] (.bool true) .bool=true by first|rfl|decide|simp [WShape.has,WShape.arms,WShape.armsAll])
  (show (WTm.eq .res (.lit (.bool true))).value [] {args:=args,res:=some (.bool true),after:=args} =some (.bool (true==true)) from w_eq_bool (w_res rfl) w_lit) rfl
theorem attach_call {l:OpenLaw} {n:Nat} {q:Program} {loose:List Str} {XP:(Str→Option Value)→Heap→Prop} {YP:World→Heap→Prop} {d:DefRec}
 (hn:l.most=some n) (hdf:d.params.defaults= [])
 (call:∀(w:World) (s₀ s₁:Shared) (mg mb:Str→Option Value) (fa:Addr) (o:Obj) (pm cd doc:Value) (a:Addr) (vs:List Value) (ns:List Int),
  Ground q loose [] XP w s₀ mg mb s₁.heap→YP w s₁.heap→
  s₁.heap.get? fa=some o→o.data= .func (docDef d.name d.params d.body d.scope pm cd doc)→s₁.heap.CodeRec cd d.name→mg d.name=some (.ref fa)→
  s₁.heap.get? a=some {cls:= .type "list",data:= .seq vs.toArray}→IntsAre vs ns→ns.length≤n→s₁.gens= #[]→
  codeAny (model l.prog w) callerA (.call (.ref fa) ⟨[.ref a],[]⟩) (fun r s'=>r= .ok (.ret (.bool true))∧OldK s₁.heap s'.heap∧s'.os=s₁.os∧AllBare s'.gens) s₁):
 WalkO q loose XP YP l.row.toRowW d [] (fun f vs=>PySem.call f vs):=by
 intro w s₀ s₁ mg mb G Y fa o pm cd doc dV kV ho hd hcd hD hmg hg args vals as hpre hlay hrd hwl hlo
 obtain rfl:dV= .none:=Dflts.none hD hdf
 obtain rfl:kV= .none:=Dflts.noKw hD
 obtain ⟨a,vs,ns,rfl,rfl,hobj,hints,hlen⟩:=mm hn hpre hwl
 refine enter_call (codeAny_mono (call w s₀ s₁ mg mb fa o pm cd doc a vs ns G Y ho (fd_plain hd) hcd hmg hobj hints hlen hg) fun r s' hq=> ?_)
 obtain ⟨rfl,h2,h3,h4⟩:=hq
 exact ⟨.inl ⟨.bool true, .bool true,[],rfl,fun _=>rfl, .bool true,mn l _,fun _=>⟨List.Pairwise.nil,fun _ hm=>(nomatch hm)⟩⟩,h2,h3,h4⟩
section
variable {prog:Program} {w:World} {A:Around} {E:Value→Shared→Prop} {s:Shared} {K:Frag}
end
end Att
namespace L2
open PySem PySem.Spec PyProof.Rows
theorem gU:∀ {vs:List Value} {ns:List Int},IntsAre vs ns→Vals (ns.map V.int) vs
 |_,_, .nil=> .nil
 |_,_, .cons n t h=> .cons ⟨t,rfl⟩ (gU h)
def Only (H:Hp):Prop:=∀b,H b=none∨∃o xs,H b=some (.frz o (.lst xs))
open PySem PySem.Spec PyProof.Rows
open PySem PySem.Spec PyProof.Rows
noncomputable def rD (s:Stmt) (j:Nat):Stmt:=match s with
 | .ClassDef _ _ _ body _ _ _ _ _ _ _=>body.getD j (.Pass ⟨0,0,0,0⟩)
 |_=> .Pass ⟨0,0,0,0⟩
noncomputable def ax (s:Stmt):Arguments:=match s with
 | .FunctionDef _ a _ _ _ _ _ _ _ _=>a
 |_=> {posonlyargs:= [],args:= [],vararg:=none,kwonlyargs:= [],kw_defaults:= [],kwarg:=none,defaults:= []}
noncomputable def av (s:Stmt):List Stmt:=match s with
 | .FunctionDef _ _ b _ _ _ _ _ _ _=>b
 |_=> []
noncomputable def af (s:Stmt):Scope:=match s with
 | .FunctionDef _ _ _ _ _ _ sc _ _ _=>sc
 |_=> {kind:= .function,names:= [],isGenerator:=false,isCoroutine:=false}
abbrev CX0:CXT:=fun _ _ _ _ _ _=>False
abbrev E0:XK:=fun _ _ _=>False
theorem aj {X:Cx}:gA CX0 X E0:=fun _ _ _ _ _ _ _ h=>h.elim
structure Fun (K:PySem.W.Frag) (x qual:Str) (st:Stmt) (f:Addr) (fd:FuncData):Prop where
 ex:∃(oc:Value) (od:Option Addr) (kV doc pm:Value) (an:Option Addr) (cdv ct:Value) (osl:Array (Option Value)),
  fd=PySem.W.fnOf x qual (ax st) (av st) (af st) .none kV doc pm an cdv ct∧K.lookup f=some ⟨oc,od, .func fd,osl⟩∧PySem.W.codeIn K cdv qual=true
 kp:PySem.W.keepIn K (.ref f)=true
section
variable {P:Program} {w:World} {K:PySem.W.Frag} {mg:Str→Option Value} {base:Heap}
theorem Fun.ok {x qual:Str} {st:Stmt} {f:Addr} {fd:FuncData} {N ps:List Str} {k:Nat} {sp:Sp} (F:Fun K x qual st f fd) (S:az N ps (af st)) (len:∀vs H Q E,sp vs H Q E→vs.length=ps.length)
 (hbody:∀(cdv:Value) (A:Around) (outer:List Env) (s:Shared) (H:Hp) (vs:List V) (Q:VK) (E:XK),Room k (A.deeper (envOfC qual (af st) s.heap.objs.size f cdv))→sp vs H Q E→
  ∃t,PSs (cxOf CX0 P w K mg base N qual (af st) f cdv A outer s H E).nox (av st) t∧t {nx:=fun _ H'=>Q .non H',rt:=Q} (dQ N vs) H):FnOk P w K mg base CX0 (k+1) f fd ps sp:=by
 obtain ⟨oc,od,kV,doc,pm,an,cdv,ct,osl,rfl,lk,hcd⟩:=F.ex
 refine sR lk hcd S len fun A outer s H vs Q E hr hsp=> ?_
 obtain ⟨t,h,q⟩:=hbody cdv A outer s H vs Q E hr hsp
 exact ⟨t,h.nox,q⟩
theorem Fun.binds {x qual:Str} {st:Stmt} {f:Addr} {fd:FuncData} {ps:List Str} (F:Fun K x qual st f fd)
 (h:∀(kV doc pm:Value) (an:Option Addr) (cdv ct:Value) (us:List Value),us.length=ps.length→bindArgs (PySem.W.fnOf x qual (ax st) (av st) (af st) .none kV doc pm an cdv ct) ⟨us,[]⟩=pure (ps.zip us)):Binds K fd ps []:=by
 obtain ⟨oc,od,kV,doc,pm,an,cdv,ct,osl,rfl,lk,hcd⟩:=F.ex
 exact .all (h kV doc pm an cdv ct)
theorem aJ {x qual:Str} {st:Stmt} {f:Addr} {oc:Value} {od an:Option Addr} {osl:Array (Option Value)} {kV doc pm cdv ct:Value} (l:K.lookup f=some ⟨oc,od, .func (PySem.W.fnOf x qual (ax st) (av st) (af st) .none kV doc pm an cdv ct),osl⟩)
 (c:PySem.W.codeIn K cdv qual=true) (k:PySem.W.keepIn K (.ref f)=true):Fun K x qual st f (PySem.W.fnOf x qual (ax st) (av st) (af st) .none kV doc pm an cdv ct):=⟨⟨oc,od,kV,doc,pm,an,cdv,ct,osl,rfl,l,c⟩,k⟩
end
theorem jH {A:Around} {k:Nat} (hr:Room k A):A.units+1 < cLine:=Nat.lt_of_le_of_lt (Nat.add_le_add_left (by decide:1≤64) _) hr.units
theorem hU {n:Nat} (h:n≤1000):n < sizeLine:=Nat.lt_of_le_of_lt h (by decide)
section
variable {X:Cx}
theorem pv (i:Nat) {x:Str} {pos:Pos} (hN:X.N[i]?=some x:=by rfl) (hv:Vis X.env.scope x:=by first|exact Or.inl rfl|exact Or.inr (Or.inl rfl)|exact Or.inr (Or.inr rfl)) (hd:(x==("__debug__":Str))=false:=by decide)
 (hcd:(x==("__classdict__":Str))=false:=by decide):PE X (.Name x pos) (tVar i):=tM hN hv hd hcd
end
theorem iteF {A B:Prop} (h:B):if false=true then A else B:=by
 rw [if_neg Bool.false_ne_true]
 exact h
theorem iteT {A B:Prop} (h:A):if true=true then A else B:=by
 rw [if_pos rfl]
 exact h
theorem ite2 {c A B:Prop} [Decidable c] (h1:c→A) (h2:¬c→B):if c then A else B:=by
 by_cases h:c
 · rw [if_pos h]
   exact h1 h
 · rw [if_neg h]
   exact h2 h
def Same (H H':Hp):Prop:=∀b o,H b=some o→H' b=some o
theorem Same.refl (H:Hp):Same H H:=fun _ _ h=>h
theorem Same.trans {H H1 H2:Hp} (a:Same H H1) (b:Same H1 H2):Same H H2:=fun c o h=>b c o (a c o h)
theorem Same.free {H H':Hp} (e:Same H H') {l:Addr} (h:H' l=Option.none):H l=Option.none:=by
 cases q:H l with
 |none=>rfl
 |some o=>
  rw [e l o q] at h
  cases h
theorem Same.seq {K:PySem.W.Frag} {H H':Hp} {a:Addr} {xs:List V} (e:Same H H') (h:SqL K H a xs):SqL K H' a xs:=by
 rcases h with (h|⟨o,h⟩)|h
 · exact .inl (.inl (e _ _ h))
 · exact .inl (.inr ⟨o,e _ _ h⟩)
 · exact .inr h
end L2
namespace Srt
open PySem PySem.W PyProof.Rows
structure Ord (lt:Nat→Nat→Bool):Prop where
 asym:∀a b,lt a b=true→lt b a=false
 tr:∀a b c,lt b a=false→lt c b=false→lt c a=false
theorem Ord.refl {lt:Nat→Nat→Bool} (O:Ord lt) (a:Nat):lt a a=false:=by
 cases e:lt a a with
 |false=>rfl
 |true=>exact (O.asym a a e).symm.trans e |>.symm
theorem Ord.up {lt:Nat→Nat→Bool} (O:Ord lt) {a b c:Nat} (h:lt a b=true) (h2:lt c b=false):lt a c=true:=by
 cases e:lt a c with
 |true=>rfl
 |false=>
  have:=O.tr b c a h2 e
  rw [h] at this
  cases this
def Tri {α:Type} (lt:Nat→Nat→Bool) (N:Nat) (Post:α→Prop):KasT α→Prop
 | .ret a=>Post a
 | .ask i j k=>i < N∧j < N∧Tri lt N Post (k (lt i j))
variable {lt:Nat→Nat→Bool} {N:Nat}
theorem cw {α β:Type} {Post:β→Prop} {f:α→KasT β}:∀ {t:KasT α},Tri lt N (fun a=>Tri lt N Post (f a)) t→Tri lt N Post (t.bind f)
 | .ret a,h=>h
 | .ask i j k,h=>⟨h.1,h.2.1,cw h.2.2⟩
theorem bf {α:Type} {P Q:α→Prop} (hPQ:∀a,P a→Q a):∀ {t:KasT α},Tri lt N P t→Tri lt N Q t
 | .ret a,h=>hPQ a h
 | .ask i j k,h=>⟨h.1,h.2.1,bf hPQ h.2.2⟩
theorem nK {α:Type} {cmp:Nat→Nat→(Bool→Shared→Prop)→Shared→Prop} {G:Shared→Prop} {Post:α→Prop} {Q:α→Shared→Prop}
 (hc:∀i j (R:Bool→Shared→Prop) s,i < N→j < N→G s→(∀s',G s'→R (lt i j) s')→cmp i j R s) (hQ:∀a s,Post a→G s→Q a s):∀ {t:KasT α} {s:Shared},Tri lt N Post t→G s→t.kasWp cmp Q s
 | .ret a,s,h,g=>hQ a s h g
 | .ask i j k,s,h,g=>hc i j _ s h.1 h.2.1 g fun s' g'=>nK hc hQ h.2.2 g'
def g (p:Array Nat) (k:Nat):Nat:=p.getD k 0
def Pm (N:Nat) (p:Array Nat):Prop:=p.toList.Perm (List.range N)
theorem Pm.size {p:Array Nat} (h:Pm N p):p.size=N:=by
 have:=h.length_eq
 rw [Array.length_toList,List.length_range] at this
 exact this
theorem cV {p:Array Nat} (k:Nat):g p k=(p[k]?).getD 0:=by
 unfold g
 rw [Array.getD_eq_getD_getElem?]
theorem Pm.bd {p:Array Nat} (h:Pm N p) {k:Nat} (hk:k < N):g p k < N:=by
 have hs:=h.size
 have:p[k]?=some (p[k]'(by omega)):=Array.getElem?_eq_getElem _
 rw [cV,this]
 have m:p[k]'(by omega)∈p.toList:=Array.mem_toList_iff.mpr (Array.getElem_mem _)
 exact List.mem_range.mp (h.mem_iff.mp m)
theorem Pm.of {p q:Array Nat} (h:Pm N p) (e:q.Perm p):Pm N q:=(Array.perm_iff_toList_perm.mp e).trans h
theorem Pm.rev {p:Array Nat} (h:Pm N p) (i j:Nat):Pm N (kas_rev p i j):=h.of (mirror_perm _ _ _ _)
theorem dq {p:Array Nat} {i j:Nat} (hj:j≤p.size) (k:Nat):g (kas_rev p i j) k=if i≤k∧k < j then g p (i+j - 1 - k) else g p k:=by
 rw [cV]
 unfold kas_rev
 rw [getElem?_mirror_all hj]
 split<;>rw [cV]
theorem vf {p:Array Nat} {src d:Nat} (hs:src < p.size) (hd:d≤src) (k:Nat):g (bubble p src d) k=if k=src - d then g p src else if src - d < k∧k≤src then g p (k - 1) else g p k:=by
 rw [cV,getElem?_bubble hs d hd]
 split
 · rw [cV]
 · split<;>rw [cV]
def Up (lt:Nat→Nat→Bool) (p:Array Nat) (n:Nat):Prop:=∀i j,i≤j→j < n→lt (g p j) (g p i)=false
def Dn (lt:Nat→Nat→Bool) (p:Array Nat) (n:Nat):Prop:=∀i j,i≤j→j < n→lt (g p i) (g p j)=false
theorem qw (O:Ord lt) {p:Array Nat} {n:Nat} (h0:1≤n) (h:Up lt p n) (e:lt (g p n) (g p (n - 1))=false):Up lt p (n+1):=by
 intro i j hij hj
 by_cases q:j < n
 · exact h i j hij q
 · have ej:j=n:=by omega
   subst ej
   by_cases qi:i=j
   · subst qi
     exact O.refl _
   · exact O.tr _ _ _ (h i (j - 1) (by omega) (by omega)) e
theorem eB (O:Ord lt) {p:Array Nat} {n:Nat} (h0:1≤n) (h:Dn lt p n) (e:lt (g p (n - 1)) (g p n)=false):Dn lt p (n+1):=by
 intro i j hij hj
 by_cases q:j < n
 · exact h i j hij q
 · have ej:j=n:=by omega
   subst ej
   by_cases qi:i=j
   · subst qi
     exact O.refl _
   · exact O.tr _ _ _ e (h i (j - 1) (by omega) (by omega))
theorem t9 {p:Array Nat} {n:Nat} (hn:n≤p.size) (h:Dn lt p n):Up lt (kas_rev p 0 n) n:=by
 intro i j hij hj
 rw [dq hn,dq hn,if_pos ⟨Nat.zero_le _,hj⟩,if_pos ⟨Nat.zero_le _,by omega⟩]
 exact h _ _ (by omega) (by omega)
theorem nV (O:Ord lt) {p:Array Nat} (hp:Pm N p):∀(f n:Nat),1≤n→n+f≤N→Up lt p n→Tri lt N (fun m=>n≤m∧m≤n+f∧Up lt p m∧(m < n+f→lt (g p m) (g p (m - 1))=true)) (kas_asc p f n)
 |0,n,h1,h2,h=>⟨Nat.le_refl _,Nat.le_refl _,h,fun q=>absurd q (by omega)⟩
 |f+1,n,h1,h2,h=>by
  refine ⟨Pm.bd hp (by omega),Pm.bd hp (by omega),?_⟩
  show Tri lt N _ (if lt (g p n) (g p (n - 1))=true then .ret n else kas_asc p f (n+1))
  by_cases e:lt (g p n) (g p (n - 1))=true
  · rw [if_pos e]
    exact ⟨Nat.le_refl _,by omega,h,fun _=>e⟩
  · rw [if_neg e]
    refine bf (fun m hm=> ?_) (nV O hp f (n+1) (by omega) (by omega) (qw O h1 h (by simpa using e)))
    exact ⟨by omega,by omega,hm.2.2.1,fun q=>hm.2.2.2 (by omega)⟩
def Eqv (lt:Nat→Nat→Bool) (p:Array Nat) (n q:Nat):Prop:=∀k,n - 1 - q≤k→k < n→lt (g p k) (g p (n - 1))=false∧lt (g p (n - 1)) (g p k)=false
theorem jL (O:Ord lt) {p:Array Nat} {n q:Nat} (hn:n≤p.size) (hq:q+1≤n) (h:Dn lt p n) (he:Eqv lt p n q):Dn lt (kas_rev p (n - (q+1)) n) n:=by
 intro i j hij hj
 rw [dq hn,dq hn]
 by_cases bi:n - (q+1)≤i
 · rw [if_pos ⟨bi,by omega⟩,if_pos ⟨by omega,hj⟩]
   obtain ⟨a1,a2⟩:=he (n - (q+1)+n - 1 - i) (by omega) (by omega)
   obtain ⟨b1,b2⟩:=he (n - (q+1)+n - 1 - j) (by omega) (by omega)
   exact O.tr _ _ _ b2 a1
 · rw [if_neg (by omega)]
   by_cases bj:n - (q+1)≤j
   · rw [if_pos ⟨bj,hj⟩]
     exact h _ _ (by omega) (by omega)
   · rw [if_neg (by omega)]
     exact h _ _ hij hj
theorem iE (O:Ord lt):∀(f:Nat) (p:Array Nat) (n q:Nat),Pm N p→1≤n→n+f≤N→q+1≤n→Dn lt p n→Eqv lt p n q→
 Tri lt N (fun r=>Pm N r.1∧n≤r.2.1∧r.2.1≤n+f∧r.2.2+1≤r.2.1∧Dn lt r.1 r.2.1∧Eqv lt r.1 r.2.1 r.2.2) (kas_desc f p n q)
 |0,p,n,q,hp,h1,h2,hq,h,he=>⟨hp,Nat.le_refl _,Nat.le_refl _,hq,h,he⟩
 |f+1,p,n,q,hp,h1,h2,hq,h,he=>by
  have hs:=hp.size
  refine ⟨Pm.bd hp (by omega),Pm.bd hp (by omega),?_⟩
  show Tri lt N _ (if lt (g p n) (g p (n - 1))=true then (if q > 0 then kas_desc f (kas_rev p (n - (q+1)) n) (n+1) 0 else kas_desc f p (n+1) 0) else .ask (g p (n - 1)) (g p n) fun d=>if d=true then .ret (p,n,q) else kas_desc f p (n+1) (q+1))
  have one:∀p':Array Nat,Eqv lt p' (n+1) 0:=fun p' k k1 k2=>by
   have:k=n:=by omega
   subst this
   exact ⟨O.refl _,O.refl _⟩
  by_cases e:lt (g p n) (g p (n - 1))=true
  · rw [if_pos e]
    have e':=O.asym _ _ e
    by_cases q0:q > 0
    · rw [if_pos q0]
      have d1:=jL O (by omega) hq h he
      have d2:Dn lt (kas_rev p (n - (q+1)) n) (n+1):=by
       refine eB O h1 d1 ?_
       rw [dq (by omega),dq (by omega),if_pos ⟨by omega,by omega⟩,if_neg (by omega)]
       obtain ⟨a1,a2⟩:=he (n - (q+1)+n - 1 - (n - 1)) (by omega) (by omega)
       exact O.tr _ _ _ e' a1
      refine bf (fun r hr=> ?_) (iE O f _ (n+1) 0 (hp.rev _ _) (by omega) (by omega) (by omega) d2 (one _))
      exact ⟨hr.1,by omega,by omega,hr.2.2.2⟩
    · rw [if_neg q0]
      refine bf (fun r hr=> ?_) (iE O f p (n+1) 0 hp (by omega) (by omega) (by omega) (eB O h1 h e') (one _))
      exact ⟨hr.1,by omega,by omega,hr.2.2.2⟩
  · rw [if_neg e]
    have e1:lt (g p n) (g p (n - 1))=false:=by simpa using e
    refine ⟨Pm.bd hp (by omega),Pm.bd hp (by omega),?_⟩
    show Tri lt N _ (if lt (g p (n - 1)) (g p n)=true then .ret (p,n,q) else kas_desc f p (n+1) (q+1))
    by_cases e2:lt (g p (n - 1)) (g p n)=true
    · rw [if_pos e2]
      exact ⟨hp,Nat.le_refl _,(by show n≤n+(f+1);omega),hq,h,he⟩
    · rw [if_neg e2]
      have e3:lt (g p (n - 1)) (g p n)=false:=by simpa using e2
      refine bf (fun r hr=> ?_) (iE O f p (n+1) (q+1) hp (by omega) (by omega) (by omega) (eB O h1 h e3) fun k k1 k2=> ?_)
      · exact ⟨hr.1,by omega,by omega,hr.2.2.2⟩
      · show lt (g p k) (g p n)=false∧lt (g p n) (g p k)=false
        by_cases kn:k=n
        · subst kn
          exact ⟨O.refl _,O.refl _⟩
        · obtain ⟨a1,a2⟩:=he k (by omega) (by omega)
          exact ⟨O.tr _ _ _ e3 a1,O.tr _ _ _ a2 e1⟩
theorem nU (O:Ord lt) {p:Array Nat} {n:Nat} (hp:Pm N p) (h1:1≤n) (hn:n≤N) (h:Dn lt p n):Tri lt N (fun r=>Pm N r.2∧1≤r.1∧r.1≤N∧Up lt r.2 r.1) (kas_tail3 n N p):=by
 unfold kas_tail3
 refine cw (bf (fun m hm=> ?_) (nV O (hp.rev 0 n) (N - n) n h1 (by omega) (t9 (by rw [hp.size];exact hn) h)))
 exact ⟨hp.rev 0 n,by omega,by omega,hm.2.2.1⟩
theorem fz (O:Ord lt) {p:Array Nat} {n:Nat} (hp:Pm N p) (hn:n+1≤N) (h:Dn lt p (n+1)):Tri lt N (fun r=>Pm N r.2∧1≤r.1∧r.1≤N∧Up lt r.2 r.1) (kas_descPart n N p):=by
 unfold kas_descPart
 refine cw (bf (fun r hr=> ?_) (iE O (N - (n+1)) p (n+1) 0 hp (by omega) (by omega) (by omega) h fun k k1 k2=> ?_))
 · obtain ⟨a1,a2,a3,a4,a5,a6⟩:=hr
   split
   · exact nU O (a1.rev _ _) (by omega) (by omega) (jL O (by rw [a1.size];omega) a4 a5 a6)
   · exact nU O a1 (by omega) (by omega) a5
 · have:k=n:=by omega
   subst this
   exact ⟨O.refl _,O.refl _⟩
theorem qD (O:Ord lt) {p:Array Nat} (hp:Pm N p) (hN:1≤N):Tri lt N (fun r=>Pm N r.2∧1≤r.1∧r.1≤N∧Up lt r.2 r.1) (kas_count N p):=by
 unfold kas_count
 have u1:Up lt p 1:=fun i j hij hj=>by
  have:i=0:=by omega
  have:j=0:=by omega
  subst_vars
  exact O.refl _
 refine cw (bf (fun n hn=> ?_) (nV O hp (N - 1) 1 (Nat.le_refl _) (by omega) u1))
 obtain ⟨b1,b2,b3,b4⟩:=hn
 by_cases e:(n==N)=true
 · rw [if_pos e]
   exact ⟨hp,b1,by omega,b3⟩
 · rw [if_neg e]
   have e':n≠N:=by simpa using e
   have l1:=b4 (by omega)
   by_cases n1:n > 1
   · rw [if_pos n1]
     refine ⟨Pm.bd hp (by omega),Pm.bd hp (by omega),?_⟩
     show Tri lt N _ (if lt (g p 0) (g p (n - 1))=true then .ret (n,p) else kas_descPart n N (kas_rev p 0 n))
     by_cases e2:lt (g p 0) (g p (n - 1))=true
     · rw [if_pos e2]
       exact ⟨hp,b1,by omega,b3⟩
     · rw [if_neg e2]
       have e3:lt (g p 0) (g p (n - 1))=false:=by simpa using e2
       have alike:∀i j,i < n→j < n→lt (g p i) (g p j)=false:=fun i j hi hj=>
        O.tr (g p j) (g p 0) (g p i) (O.tr _ _ _ (b3 j (n - 1) (by omega) (by omega)) e3) (b3 0 i (Nat.zero_le _) hi)
       have hs:=hp.size
       refine fz O (hp.rev 0 n) (by omega) (eB O (by omega) (fun i j hij hj=> ?_) ?_)
       · rw [dq (by omega),dq (by omega),if_pos ⟨Nat.zero_le _,by omega⟩,if_pos ⟨Nat.zero_le _,hj⟩]
         exact alike _ _ (by omega) (by omega)
       · rw [dq (by omega),dq (by omega),if_pos ⟨Nat.zero_le _,by omega⟩,if_neg (by omega)]
         exact O.tr _ _ _ (O.asym _ _ l1) (alike _ _ (by omega) (by omega))
   · rw [if_neg n1]
     have en:n=1:=by omega
     subst en
     refine fz O hp (by omega) (eB O (Nat.le_refl _) (fun i j hij hj=> ?_) (O.asym _ _ l1))
     have:i=0:=by omega
     have:j=0:=by omega
     subst_vars
     exact O.refl _
theorem iD (O:Ord lt) {p:Array Nat} {k:Nat} (hp:Pm N p) (hk:k < N) (h:Up lt p k):∀(f l r:Nat),l≤r→r≤k→r - l≤f→(∀i,i < l→lt (g p k) (g p i)=false)→(∀i,r≤i→i < k→lt (g p k) (g p i)=true)→
 Tri lt N (fun m=>m≤k∧(∀i,i < m→lt (g p k) (g p i)=false)∧∀i,m≤i→i < k→lt (g p k) (g p i)=true) (kas_place p k f l r)
 |0,l,r,h1,h2,h3,a,b=>by
  have:l=r:=by omega
  subst this
  exact ⟨h2,a,b⟩
 |f+1,l,r,h1,h2,h3,a,b=>by
  show Tri lt N _ (if l≥r then .ret l else .ask (p.getD k 0) (p.getD ((l+r) / 2) 0) fun c=>if c=true then kas_place p k f l ((l+r) / 2) else kas_place p k f ((l+r) / 2+1) r)
  by_cases e:l≥r
  · rw [if_pos e]
    have:l=r:=by omega
    subst this
    exact ⟨h2,a,b⟩
  · rw [if_neg e]
    refine ⟨Pm.bd hp hk,Pm.bd hp (by omega),?_⟩
    show Tri lt N _ (if lt (g p k) (g p ((l+r) / 2))=true then kas_place p k f l ((l+r) / 2) else kas_place p k f ((l+r) / 2+1) r)
    by_cases c:lt (g p k) (g p ((l+r) / 2))=true
    · rw [if_pos c]
      refine iD O hp hk h f l ((l+r) / 2) (by omega) (by omega) (by omega) a fun i i1 i2=> ?_
      by_cases q:r≤i
      · exact b i q i2
      · exact O.up c (h _ _ i1 i2)
    · rw [if_neg c]
      have c':lt (g p k) (g p ((l+r) / 2))=false:=by simpa using c
      refine iD O hp hk h f ((l+r) / 2+1) r (by omega) h2 (by omega) (fun i i1=> ?_) b
      exact O.tr _ _ _ (h i ((l+r) / 2) (by omega) (by omega)) c'
theorem rY (O:Ord lt):∀(f:Nat) (p:Array Nat) (k:Nat),Pm N p→k+f≤N→Up lt p k→Tri lt N (fun q=>Pm N q∧Up lt q (k+f)) (kas_bin f p k)
 |0,p,k,hp,_,h=>⟨hp,h⟩
 |f+1,p,k,hp,hk,h=>by
  have hs:=hp.size
  show Tri lt N _ ((kas_place p k k 0 k).bind fun l=>kas_bin f (bubble p k (k - l)) (k+1))
  refine cw (bf (fun l hl=> ?_) (iD O hp (by omega) h k 0 k (Nat.zero_le _) (Nat.le_refl _) (by omega) (fun i hi=>absurd hi (by omega)) fun i h1 h2=>absurd h1 (by omega)))
  obtain ⟨l1,l2,l3⟩:=hl
  have el:k - (k - l)=l:=by omega
  have hb:∀i,g (bubble p k (k - l)) i=if i=l then g p k else if l < i∧i≤k then g p (i - 1) else g p i:=fun i=>by
   rw [vf (by omega) (by omega),el]
  have u:Up lt (bubble p k (k - l)) (k+1):=by
   intro i j hij hj
   rw [hb,hb]
   by_cases jl:j=l
   · rw [if_pos jl]
     by_cases il:i=l
     · rw [if_pos il]
       exact O.refl _
     · rw [if_neg il,if_neg (by omega)]
       exact l2 i (by omega)
   · rw [if_neg jl]
     by_cases j2:l < j∧j≤k
     · rw [if_pos j2]
       by_cases il:i=l
       · rw [if_pos il]
         exact O.asym _ _ (l3 (j - 1) (by omega) (by omega))
       · rw [if_neg il]
         by_cases i2:l < i∧i≤k
         · rw [if_pos i2]
           exact h _ _ (by omega) (by omega)
         · rw [if_neg i2]
           exact h _ _ (by omega) (by omega)
     · rw [if_neg j2,if_neg (by omega),if_neg (by omega)]
       exact h _ _ hij (by omega)
  refine bf (fun q hq=> ?_) (rY O f _ (k+1) (hp.of (bubble_perm _ _ _)) (by omega) u)
  rw [show k+(f+1)=k+1+f by omega]
  exact hq
theorem tz (O:Ord lt) (hN:1≤N):Tri lt N (fun p=>Pm N p∧Up lt p N) (kas_sort N):=by
 unfold kas_sort
 have h0:Pm N (List.toArray (List.range N)):=by
  unfold Pm
  simp
 refine cw (bf (fun r hr=> ?_) (qD O h0 hN))
 obtain ⟨a1,a2,a3,a4⟩:=hr
 by_cases e:r.1 < N
 · rw [if_pos e]
   have em:max r.1 1=r.1:=by omega
   rw [em]
   have:=rY O (N - r.1) r.2 r.1 a1 (by omega) a4
   rw [show r.1+(N - r.1)=N by omega] at this
   exact this
 · rw [if_neg e]
   have:r.1=N:=by omega
   rw [this] at a4
   exact ⟨a1,a4⟩
end Srt
namespace L2
open PySem
section
variable {M:Model} {prog:Program} {w:World} {A:Around} {E:Value→Shared→Prop} {h:Heap} {g:Array GenState} {d:Drawn} {t:Nat} {os:OsState}
variable {nm q:Str} {C N:Addr} {bs bm bmB:List Value} {hdct:Bool} {sn:List Str} {sub:List Value} {ab:Bool} {col:Option Bool} {dd:Option Addr} {k0 k1 k2 k3 k5:Option Value} {B newId initId:String}
structure Line (B:String) (bm:List Value):Prop where
 own:bm.contains (.type B)=true
 top:bm.contains (.type "BaseException")=true
 attr:bm.contains (.type "AttributeError")=false
 name:bm.contains (.type "NameError")=false
theorem Line.cons {C:Addr} (l:Line B bm):Line B (.ref C::bm):=
 ⟨by rw [List.contains_cons,l.own,Bool.or_true],by rw [List.contains_cons,l.top,Bool.or_true],by rw [List.contains_cons,l.attr];rfl,by rw [List.contains_cons,l.name];rfl⟩
theorem rh (Fn:ExcBaseFacts B newId initId bmB) (l:Line B bm) {args:List Value} {Q:Unit→Shared→Prop}
 (oC:h.get? C=some (excClassObj nm q C N bs bm hdct sn sub ab col dd k0 k1 k2 k3 k5 newId)) (z:Q () ⟨h,g,d,t,os⟩):
 wpAny M A (checkBuiltinCall newId ⟨.ref C::args,[]⟩) Q E ⟨h,g,d,t,os⟩:=by
 have own:=(l.cons (C:=C)).own
 have st:=Fn.noStar
 simp only [checkBuiltinCall,Fn.newKind,Fn.newSplit,Fn.newRow]
 repeat
  first
  |refine wpAny_loadPart_at oC ?_
  |(refine wpAny_isSubtype_exc oC ?_;rw [own])
  |refine wpAny_staticBase_exc oC ?_
  |refine wpAny_madeBy_exc oC ?_
  |simp only [bne_self_eq_false,Bool.false_eq_true,if_false]
  |wp_step
 exact z
theorem r9 (Fn:ExcBaseFacts B newId initId bmB) (l:Line B bm) {args:List Value} {R:Result→Shared→Prop}
 (oC:h.get? C=some (excClassObj nm q C N bs bm hdct sn sub ab col dd k0 k1 k2 k3 k5 newId)) (sz:args.length≤sizeLine)
 (z:R (.ok (.ret (.ref (h.objs.size+1)))) ⟨(h.push {cls:= .type "tuple",data:= .seq args.toArray}).push {cls:= .ref C,data:= .fields #[.ref h.objs.size, .none, .none, .none, .bool false, .none]},g,d,t,os⟩):
 codeAny (model prog w) A (.builtin newId ⟨.ref C::args,[]⟩) R ⟨h,g,d,t,os⟩:=by
 have en:=Fn.ends
 have c1:=(l.cons (C:=C)).own
 have c2:=(l.cons (C:=C)).attr
 have c3:=(l.cons (C:=C)).name
 refine codeAny_builtinAt Fn.entry ?_
 unfold Builtin.«BaseException.__new__»
 refine wpAt_bind ?_
 show wpAt _ _ _ (stack >>=_) _ _ _
 refine wpAt_bind (wpAt_stack fun p below=>wpAt_of_wpAny ?_)
 wp_walk
 refine wpAt_of_wpAny ?_
 rw [Fn.owner]
 repeat
  first
  |with_reducible refine wpAny_madeHere_exc Fn.canon oC ?_
  |with_reducible refine wpAny_loadPart_at oC ?_
  |(with_reducible refine wpAny_isSubtype_exc oC ?_;first|rw [c1]|rw [c2]|rw [c3])
  |wp_step
 show R _ _
 rw [Heap.size_push]
 exact z
theorem gG (Fn:ExcBaseFacts B newId initId bmB) (l:Line B bm) {K:PySem.W.Frag} {args:List Value} {fI:Addr} {Q:Fin→Shared→Prop}
 (oC:h.get? C=some (excClassObj nm q C N bs bm hdct sn sub ab col dd k0 k1 k2 k3 k5 newId)) (X:K.In h) (hi:PySem.W.findIn K (.ref C) "__init__"=some (some (.ref fI))) (hf:PySem.W.isFn K (.ref fI)=true) (sz:args.length≤sizeLine)
 (z:∀h' e,Heap.MadeExcOf h h' e (.ref C) args→e=h.objs.size+1→
  wpAny (model prog w) A (call (.ref fI) (.ref e::args)) (fun r s'=>r= .none∧Q (.done (.ret (.ref e))) s') E ⟨h',g,d,t,os⟩):
 wpAny (model prog w) A (Builtin.«type.__call__» ⟨.ref C::args,[]⟩) Q E ⟨h,g,d,t,os⟩:=by
 repeat
  first
  |with_reducible refine wpAny_loadPart_at oC ?_
  |with_reducible refine wpAny_madeBy_exc oC ?_
  |wp_step
 refine codeAny_call_builtin_code (Code.quiet_builtin _ Fn.quiet) (rh Fn l oC ?_)
 refine r9 Fn l oC sz ?_
 show wpAny _ _ _ _ _ _
 have up:∀b o,h.get? b=some o→((h.push {cls:= .type "tuple",data:= .seq args.toArray}).push {cls:= .ref C,data:= .fields #[.ref h.objs.size, .none, .none, .none, .bool false, .none]}).get? b=some o:=
  fun b o e=>Heap.get?_push_of_some _ (Heap.get?_push_of_some _ e)
 have oC1:=up _ _ oC
 have it:((h.push {cls:= .type "tuple",data:= .seq args.toArray}).push
  {cls:= .ref C,data:= .fields #[.ref h.objs.size, .none, .none, .none, .bool false, .none]}).get? (h.objs.size+1)=some
  {cls:= .ref C,data:= .fields #[.ref h.objs.size, .none, .none, .none, .bool false, .none]}:=by heap_get
 have me:(Value.ref C::bm).contains (.ref C)=true:=by simp
 unfold isInstance
 repeat
  first
  |with_reducible refine wpAny_loadPart_at it ?_
  |(with_reducible refine wpAny_isSubtype_exc oC1 ?_;rw [me])
  |wp_step
 show wpAny _ _ (typeLookup (.ref C) _) _ _ _
 have Lk:=PySem.W.looks_findIn (M:=model prog w) (X.keeps up) hi
 refine Lk.here ?_
 refine wpAny_holding (wpAny_bind ?_)
 have Bf:=PySem.W.bind_fn (M:=model prog w) (X.keeps up) (.ref (h.objs.size+1)) (beq_iff_eq.mp hf)
 refine Bf.here ?_
 refine wpAny_bind (wpAny_mono (z _ (h.objs.size+1) ⟨up,Heap.get?_none_of_le (Nat.le_succ _),h.objs.size,it,Heap.get?_none_of_le (Nat.le_refl _),?_⟩ rfl) (fun r s' hr=> ?_) fun _ _ x=>x)
 · exact Heap.get?_push_of_some _ (Heap.get?_push_at rfl rfl)
 · obtain ⟨rfl,hQ⟩:=hr
   wp_walk
   exact hQ
theorem pV (Fn:ExcBaseFacts B newId initId bmB) (l:Line B bm) {K:PySem.W.Frag} {args:List Value} {fI:Addr} {Q:Value→Shared→Prop}
 (oC:h.get? C=some (excClassObj nm q C N bs bm hdct sn sub ab col dd k0 k1 k2 k3 k5 newId)) (X:K.In h) (hi:PySem.W.findIn K (.ref C) "__init__"=some (some (.ref fI))) (hf:PySem.W.isFn K (.ref fI)=true) (sz:args.length≤sizeLine)
 (z:∀h' e,Heap.MadeExcOf h h' e (.ref C) args→e=h.objs.size+1→
  wpAny (model prog w) (A.under (.builtin "type.__call__" ⟨.ref C::args,[]⟩)) (call (.ref fI) (.ref e::args)) (fun r s'=>r= .none∧Q (.ref e) s') E ⟨h',g,d,t,os⟩):
 wpAny (model prog w) A (call (.ref C) args) Q E ⟨h,g,d,t,os⟩:=by
 have f1:=tc_lookup
 have f2:=tc_bind (.ref C)
 have ty:(⟨h,g,d,t,os⟩:Shared).TypeIs (.ref C) "type":=⟨_,oC,rfl⟩
 refine wpAny_call (codeAny_of_tree ?_)
 show wpAny _ _ (callAny (.ref C) _) _ _ _
 repeat
  any_goals
   first
   |assumption
   |with_reducible refine wpAny_loadPart_at oC ?_
   |wp_step
 refine ⟨rfl,?_⟩
 exact codeAny_call_builtin_at (Code.quiet_builtin _ (by decide +kernel)) entry_typeCall (wpAny_check_type_call_sub oC (gG Fn l oC X hi hf sz fun h' e hm ee=>z h' e hm ee))
end
section
open PySem
variable {prog:Program} {w:World} {A:Around} {E:Value→Shared→Prop} {h:Heap} {g:Array GenState} {d:Drawn} {t:Nat} {os:OsState}
variable {nm q:Str} {C N:Addr} {bs bm bmB:List Value} {hdct:Bool} {sn:List Str} {sub:List Value} {ab:Bool} {col:Option Bool} {dd:Option Addr} {k0 k1 k2 k3 k5:Option Value} {B newId nid initId:String}
theorem oU (Fn:ExcBaseFacts B nid initId bmB) (l:Line B bm) {M:Model} {e:Addr} {oe:Obj} {args:List Value} {Q:Unit→Shared→Prop}
 (oC:h.get? C=some (excClassObj nm q C N bs bm hdct sn sub ab col dd k0 k1 k2 k3 k5 newId)) (oE:h.get? e=some oe) (cE:oe.cls= .ref C) (z:Q () ⟨h,g,d,t,os⟩):
 wpAny M A (checkBuiltinCall initId ⟨.ref e::args,[]⟩) Q E ⟨h,g,d,t,os⟩:=by
 have own:=(l.cons (C:=C)).own
 have st:=Fn.noStar
 simp only [checkBuiltinCall,Fn.initKind,Fn.initSplit,Fn.initRow]
 repeat
  first
  |(with_reducible refine wpAny_loadPart_at oE ?_;rw [cE])
  |with_reducible refine wpAny_loadPart_at oC ?_
  |(with_reducible refine wpAny_isSubtype_exc oC ?_;rw [own])
  |wp_step
 refine wpAny_onRaise ?_
 rw [show∀(a b:String) (n:Nat),Bind.check ⟨.positional,"*",B, .self,[⟨"args", .varPos,false⟩]⟩ a b n (List.map (fun x=>x.fst) ({pos:=Value.ref e::args}:Args).kw)=pure () from fun a b n=>check_star_args _ _ _ _ _ _]
 exact wpAny_pure z
theorem gx (Fn:ExcBaseFacts B nid initId bmB) (l:Line B bm) {e t0:Addr} {args:List Value} {Q:Value→Shared→Prop}
 (oC:h.get? C=some (excClassObj nm q C N bs bm hdct sn sub ab col dd k0 k1 k2 k3 k5 newId)) (oE:h.get? e=some {cls:= .ref C,data:= .fields #[.ref t0, .none, .none, .none, .bool false, .none]}) (sz:args.length≤sizeLine)
 (z:∀h' t1,(∀b o,b≠e→h.get? b=some o→h'.get? b=some o)→h'.get? e=some {cls:= .ref C,data:= .fields #[.ref t1, .none, .none, .none, .bool false, .none]}→Q .none ⟨h',g,d,t,os⟩):
 wpAny (model prog w) A (call (.builtin initId) (.ref e::args)) Q E ⟨h,g,d,t,os⟩:=by
 refine wpAny_call (codeAny_call_builtin Fn.init.plain Fn.initEntry (oU Fn l oC oE rfl ?_))
 wp_walk
 refine z _ h.objs.size (fun b o hb e1=> ?_) ?_
 · rw [Heap.get?_update_other _ _ (Ne.symm hb)]
   exact Heap.get?_push_of_some _ e1
 · rw [Heap.get?_update_self _ (Heap.get?_push_of_some _ oE) rfl]
   rfl
end
open PySem PySem.Spec PyProof.Rows
noncomputable def Exo (C e:Addr):HO:= .ext fun h=>∃t,h.get? e=some {cls:= .ref C,data:= .fields #[.ref t, .none, .none, .none, .bool false, .none]}
theorem pz {P:Program} {w:World} {H:Hp} {h:Heap} {C e t:Addr} (x:h.get? e=some {cls:= .ref C,data:= .fields #[.ref t, .none, .none, .none, .bool false, .none]}):ObjOk P w H h e (Exo C e):=
 ⟨⟨t,x⟩,⟨_,x⟩,fun _ _ ⟨t',y⟩ k=>⟨t',k _ y⟩⟩
theorem t8 {H:Hp} {a:Addr} {o:HO} (e:H a=some o):upd H a o=H:=by
 funext b
 unfold upd
 split
 · rename_i q
   rw [q,e]
 · rfl
structure XCls (K:PySem.W.Frag) (C fI:Addr):Prop where
 ex:∃nm q N bs bm hdct sn sub ab col dd k0 k1 k2 k3 k5,K.lookup C=some (excClassObj nm q C N bs bm hdct sn sub ab col dd k0 k1 k2 k3 k5 "ValueError.__new__")∧Line "ValueError" bm
 init:PySem.W.findIn K (.ref C) "__init__"=some (some (.ref fI))
 fn:PySem.W.isFn K (.ref fI)=true
 kp:PySem.W.keepIn K (.ref C)=true
section
variable {X:Cx} {CX:CXT} {k:Nat} {f C:Addr} {fd:FuncData} {ps:List Str} {sp:Sp} {E:XK} {x:Str} {p pos apos:Pos} {e:Expr} {es:List Expr} {t:TA}
def tE (s₀:Shared) (C:Addr) (sp:Sp) (E:XK) (t:TA):TE:=fun σ H Q=>t σ H fun vs H1=>∀x,H1 x=none→s₀.heap.get? x=none→sp (.ref x::vs) (upd H1 x (Exo C x)) (fun v H2=>v= .non∧Q (.ref x) H2) E
theorem oB (M:XCls X.K C f) (F:FnOk X.prog X.w X.K X.mg X.base CX k f fd ps sp) (hr:Room (k+1) X.A) (hg:Gl X x) (hm:X.mg x=some (.ref C)) (hb:Binds X.K fd ps []) (hx:gA CX X E)
 (ha:PA X (e::es) t) (hsz:(e::es).length≤100) (hdb:(x==("__debug__":Str))=false:=by decide) (he:starEach (e::es) X.env=(false,eval e X.env)::starEach es X.env:=by rfl) (hpl:(backTo pos (starEach es X.env)).any (·.1)=false:=by rfl)
 (hlen:∀vs H Q E',sp vs H Q E'→vs.length≤1000):PE X (.Call (.Name x p) (e::es) [] pos) (tE X.s₀ C sp E t):=by
 intro pins s σ H Q I h
 refine wpAny_Call_Name_kw (iX I hg hm ?_ hdb)
 refine PySem.W.callWith_K (h₀:=X.base) I.ok.mod.kin M.kp (thn (ha pos pins s σ H _ I h) fun us s1 ⟨vs,H1,I1,r,z⟩=>⟨I1.kIn,?_⟩) he hpl
 obtain ⟨nm,q,N,bs,bm,hdct,sn,sub,ab,col,dd,k0,k1,k2,k3,k5,hC,hl⟩:=M.ex
 have oC:=I1.kIn _ _ hC
 have f1:H1 (s1.heap.objs.size+1)=none:=I1.hok.fresh (Nat.le_succ _)
 have f2:X.s₀.heap.get? (s1.heap.objs.size+1)=none:=Heap.get?_none_of_le (Nat.le_trans I1.sz (Nat.le_succ _))
 have hq:=z _ f1 f2
 have e1:vs.length=us.length:=r.length
 have l1:=hlen _ _ _ _ hq
 rw [List.length_cons] at l1
 obtain ⟨hh,g,d,tk,os⟩:=s1
 refine pV (K:=X.K) PySem.F.excBase_ValueError hl oC I1.kIn M.init M.fn (show us.length≤sizeLine from Nat.le_of_lt (hU (by omega))) fun h' e' hm' ee=> ?_
 subst ee
 obtain ⟨t0,ht0,_⟩:=hm'.there
 have I2:=I1.laid (t':=tk) (o:=Exo C (hh.objs.size+1)) (a:=hh.objs.size+1) hm'.keeps (Nat.le_succ _) (pz ht0)
 have r2:Vals (V.ref (hh.objs.size+1)::vs) (Value.ref (hh.objs.size+1)::us):= .cons rfl r
 have hl2:(Value.ref (hh.objs.size+1)::us).length=ps.length:=by
  have e:=r2.length
  rw [F.len _ _ _ _ hq] at e
  exact e.symm
 refine wpAny_call (codeAny_mono (F.run _ X.stack _ _ ⟨Value.ref (hh.objs.size+1)::us,[]⟩ (Value.ref (hh.objs.size+1)::us) _ _ E (hr.make C us [])
  (I2.env0.make C us []) (by have:=hb _ (Value.ref (hh.objs.size+1)::us) I2.kIn (by rw [List.append_nil];exact hl2);rw [List.append_nil] at this;exact this) r2 hq) fun r s' hq'=> ?_)
 cases r with
 |error e=>exact hx pins σ _ _ e s' I2 hq'
 |ok fl=>
  cases fl with
  |ret u=>
   obtain ⟨v,H',I3,rv,ev,q3⟩:=I2.after hq'
   subst ev
   exact ⟨rv,⟨V.ref (hh.objs.size+1),H',I3,rfl,q3⟩⟩
  |next=>exact False.elim hq'
  |brk=>exact False.elim hq'
  |cont=>exact False.elim hq'
def mi (K:PySem.W.Frag) (t:TA):TE:=fun σ H Q=>t σ H fun vs H1=>∃x C fI r,vs= .ref x::r∧r.length≤1000∧H1 x=some (Exo C x)∧XCls K C fI∧Q .non H1
theorem kG (K:PySem.W.Frag):PySem.W.findCls K (.type "ValueError") (.type "type") "__init__"=some (.val (.builtin "ValueError.__init__")):=by kernel_rfl
theorem jx (hg:Gl X "ValueError") (hm:X.mg "ValueError"=none) (ha:PA X (e::es) t) (he:starEach (e::es) X.env=(false,eval e X.env)::starEach es X.env:=by rfl) (hpl:(backTo pos (starEach es X.env)).any (·.1)=false:=by rfl)
 {pl:Sem Bool} (ht:eval (.Call (.Attribute (.Name "ValueError" p) "__init__" apos) (e::es) [] pos) X.env=(do
  let ov←eval (.Name "ValueError" p) X.env
  standAt apos.atName
  let (f,first)←holding [ov] (getMethod ov "__init__" pl)
  callWith pos f first (backTo pos (starEach (e::es) X.env)) (backToKw pos (keywordEach [] X.env))):=by rfl):
 PE X (.Call (.Attribute (.Name "ValueError" p) "__init__" apos) (e::es) [] pos) (mi X.K t):=by
 intro pins s σ H Q I h
 obtain ⟨m,F⟩:=I.fr
 refine PySem.W.methodCall_KW (pl:=pl) (f8 I hg hm (u:= .type "ValueError") (by kernel_rfl) ?_) ht
 refine PySem.W.method_type F I.ok.mod.kin (by kernel_rfl) (by decide +kernel) (kG X.K) (by decide +kernel) ?_
 refine PyProof.Rows.callWith_builtin1 (thn (ha pos pins _ σ H _ (I.tok _) h) fun us s1 ⟨vs,H1,I1,r1,y,C,fI,r,ev,hz,hH,hX,q1⟩=> ?_) he hpl
 subst ev
 cases r1 with
 | @cons _ u0 _ ur q0 r1=>
  cases (show u0=Value.ref y from q0)
  obtain ⟨nm,q,N,bs,bm,hdct,sn,sub,ab,col,dd,k0,k1,k2,k3,k5,hC,hl⟩:=hX.ex
  have oC:=I1.kIn _ _ hC
  obtain ⟨⟨t0,oE⟩,_⟩:=(show ObjOk X.prog X.w H1 s1.heap y (Exo C y) from I1.hok y _ hH)
  have e1:r.length=ur.length:=r1.length
  obtain ⟨hh,g,d,tk,os⟩:=s1
  refine gx PySem.F.excBase_ValueError hl oC oE (Nat.le_of_lt (hU (by omega))) fun h' t1 kk oE'=> ?_
  have I2:=I1.write (x:=y) (e:=y) (o:=Exo C y) (t':=tk) (by rw [hH];exact True.intro) (.inl rfl) kk ⟨_,oE'⟩ (pz oE')
  rw [t8 hH] at I2
  exact ⟨.non,H1,I2,rfl,q1⟩
end
open PySem PySem.Spec PyProof.Rows
def unt (H:Hp) (e:Addr):Hp:=fun b=>if b=e then none else H b
theorem cv {H:Hp} {e:Addr}:unt H e e=none:=by unfold unt;rw [if_pos rfl]
theorem cq {H:Hp} {e b:Addr} (h:b≠e):unt H e b=H b:=by unfold unt;rw [if_neg h]
theorem qx {H:Hp} {e:Addr} {o:HO} (h:H e=none):unt (upd H e o) e=H:=by
 funext b
 by_cases q:b=e
 · rw [q,cv,h]
 · rw [cq q,ai q]
theorem tf {P:Program} {w:World} {H:Hp} {h:Heap} {C e:Addr} (x:HOk P w H h) (he:H e=some (Exo C e)):HOk P w (unt H e) h:=fun b o q=>by
 have nb:b≠e:=by
  intro z
  rw [z,cv] at q
  cases q
 rw [cq nb] at q
 refine (x b o q).stay (fun _ _ _ r=>r) (fun c r=> ?_) (fun c xs r=> ?_)
 · rw [cq]
   · exact r
   · intro z
     rw [z,he] at r
     cases r
 · rw [cq]
   · exact r
   · intro z
     rw [z,he] at r
     cases r
def qo (X:Cx) (E:XK):Prop:=∀(pins:List (Addr×Obj)) (σ:St) (H:Hp) (s:Shared) (e C:Addr),Inv X pins σ H s→H e=some (Exo C e)→X.s₀.heap.get? e=none→E (.ref C) none (unt H e)→X.xe (.ref e) s
section
variable {X:Cx} {C fI:Addr} {E:XK} {pos:Pos} {ce:Expr} {te:TE}
def tD (s₀:Shared) (C:Addr) (E:XK) (te:TE):TS:=fun _ σ H=>te σ H fun v H1=>∃e,v= .ref e∧H1 e=some (Exo C e)∧s₀.heap.get? e=none∧E (.ref C) none (unt H1 e)
theorem oy (hc:X.calm=true) (hX:XCls X.K C fI) (he:PE X ce te) (hx:qo X E):PS X (.Raise (some ce) none pos) (tD X.s₀ C E te):=by
 intro pins s σ H D I h
 obtain ⟨nm,q,N,bs,bm,hdct,sn,sub,ab,col,dd,k0,k1,k2,k3,k5,hC,hl⟩:=hX.ex
 show wpAny (model X.prog X.w) X.A (do standAt pos;raiseStmt X.env (some (do let v←eval ce X.env;standAt pos;pure v)) none) _ _ s
 refine wpAny_bind (wpAny_standAt (wpAny_raiseStmt_made_sub (C:=C) (nm:=nm) (q:=q) (N:=N) (bs:=bs) (bm:=bm) (hdct:=hdct) (sn:=sn) (sub:=sub) (ab:=ab) (col:=col) (dd:=dd) (k0:=k0) (k1:=k1) (k2:=k2) (k3:=k3) (k5:=k5) (newId:="ValueError.__new__") hl.top (I.ok.hd hc) ?_))
 refine wpAny_bind (thn (he pins s σ H _ I h) fun v s1 ⟨x,H1,I1,r1,e,ex,hH,hn,q1⟩=>wpAny_bind (wpAny_standAt (wpAny_pure ?_)))
 subst ex
 cases (show v=Value.ref e from r1)
 obtain ⟨⟨t0,oE⟩,_⟩:=(show ObjOk X.prog X.w H1 s1.heap e (Exo C e) from I1.hok e _ hH)
 exact ⟨e,t0,rfl,I1.kIn _ _ hC,oE,hx pins σ H1 s1 e C I1 hH hn q1⟩
end
noncomputable def CX1 (P:Program) (w:World):CXT:=fun outer H s E e s'=>∃(a C:Addr) (a0:Value) (B:Heap) (H':Hp),e= .ref a∧s'.os=s.os∧AllBare s'.gens∧s.heap.get? a=none∧H' a=none∧HOk P w H' B∧
 Heap.FlyingW B outer a (.ref C) a0 s'.heap∧(∀b o,s.heap.get? b=some o→Idl (H b)→b∉frs outer→B.get? b=some o)∧(∀b o,s.heap.get? b=some o→H b=none→b∈frs outer→∃sl,s'.heap.get? b=some {o with slots:=sl})∧
 (∀b o,s.heap.get? b=some o→H b=none→H' b=none)∧(∀b o,s.heap.get? b=some o→b∉frs outer→∃o',B.get? b=some o')∧
 (∀b xs,H b=some (.tup xs)→H' b=some (.tup xs))∧(∀b o u,H b=some (.frz o u)→H' b=some (.frz o u))∧(∀b ps,H b=some (.tbl ps)→∃more,H' b=some (.tbl (ps++more)))∧E (.ref C) none H'
theorem frs_cons {env:Env} {outer:List Env} {b:Addr}:b∈frs (env::outer)↔env.frame=some b∨b∈frs outer:=by
 unfold frs
 rw [List.filterMap_cons]
 cases q:env.frame with
 |none=>simp
 |some L=>
  simp only [List.mem_cons,Option.some.injEq]
  constructor
  · rintro (z|z)
    · exact .inl z.symm
    · exact .inr z
  · rintro (z|z)
    · exact .inl z.symm
    · exact .inr z
theorem mf {P:Program} {w:World} {K:PySem.W.Frag} {mg:Str→Option Value} {base:Heap} {N:List Str} {qual:Str} {scope:Scope} {f:Addr} {cd:Value} {A:Around} {outer:List Env} {s:Shared} {H:Hp} {E:XK}:
 qo (cxOf (CX1 P w) P w K mg base N qual scope f cd A outer s H E) E:=by
 intro pins σ H1 s1 e C I hH hn hE
 obtain ⟨⟨t0,oE⟩,_⟩:=(show ObjOk P w H1 s1.heap e (Exo C e) from I.hok e _ hH)
 have stk:s1.heap.FunFrames base (envOfC qual scope s.heap.objs.size f cd::outer):=I.stack
 have fre:∀b∈frs (envOfC qual scope s.heap.objs.size f cd::outer),H1 b=none:=I.stkFree
 have hfl:(envOfC qual scope s.heap.objs.size f cd).frame=some s.heap.objs.size:=rfl
 have hin:∀env∈(envOfC qual scope s.heap.objs.size f cd::outer),∀b,env.frame=some b→b∈e::frs (envOfC qual scope s.heap.objs.size f cd::outer):=fun env he b hb=>List.mem_cons_of_mem _ (List.mem_filterMap.mpr ⟨env,he,hb⟩)
 have kB:∀b o,s1.heap.get? b=some o→b≠e→b∉frs (envOfC qual scope s.heap.objs.size f cd::outer)→(PySem.W.hideAll s1.heap (e::frs (envOfC qual scope s.heap.objs.size f cd::outer))).get? b=some o:=fun b o q h1 h2=>
  PySem.W.hideAll_get _ q fun z=>by
   rcases List.mem_cons.mp z with z|z
   · exact h1 z
   · exact h2 z
 have nL:∀b o,s.heap.get? b=some o→b≠s.heap.objs.size:=fun b o q=>Nat.ne_of_lt (Heap.lt_size q)
 have nfr:∀b o,s.heap.get? b=some o→b∉frs outer→b∉frs (envOfC qual scope s.heap.objs.size f cd::outer):=fun b o q h2 z=>by
  rcases frs_cons.mp z with z|z
  · rw [hfl] at z
    exact nL b o q (Option.some.inj z).symm
  · exact h2 z
 have ne:∀b o,s.heap.get? b=some o→b≠e:=fun b o q z=>by
  rw [z] at q
  have hn':s.heap.get? e=none:=hn
  rw [hn'] at q
  cases q
 refine wpAny_leaving_firstW (base:=PySem.W.hideAll s1.heap (e::frs (envOfC qual scope s.heap.objs.size f cd::outer))) (a0:= .ref t0) (oe:= {cls:= .ref C,data:= .fields #[.ref t0, .none, .none, .none, .bool false, .none]}) (L:=s.heap.objs.size)
  I.ok.frames (PySem.W.funFrames_hide stk hin) hfl oE (fun b o q=>PySem.W.of_hideAll _ q) (PySem.W.hideAll_none _ List.mem_cons_self) rfl rfl rfl fun h' hL=> ?_
 obtain ⟨z1,⟨_,_,z2⟩,z3,z4⟩:=hL
 have un:Un (frs outer) [] H H1 s.heap s1.heap:=I.base
 refine ⟨e,C, .ref t0,_,unt H1 e,rfl,I.os,I.bare,hn,cv,?_,⟨z1,PySem.W.hideAll_none _ List.mem_cons_self,z2,z3⟩,?_,?_,?_,?_,?_,?_,?_,hE⟩
 · intro b o q
   have nb:b≠e:=by
    intro z
    rw [z,cv] at q
    cases q
   refine (tf I.hok hH b o q).stay (fun c v hc r=>kB c v r ?_ ?_) (fun _ r=>r) fun _ _ r=>r
   · rcases hc with z|z
     · rw [z]
       exact nb
     · intro y
       rw [y,cv] at z
       cases z
   · intro y
     have y':=fre c y
     rcases hc with z|z
     · rw [cq nb,←z,y'] at q
       cases q
     · by_cases ce:c=e
       · rw [ce,cv] at z
         cases z
       · rw [cq ce,y'] at z
         cases z
 · intro b o q n hb
   exact kB b o (un.keep b o q n hb (by simp)) (ne b o q) (nfr b o q hb)
 · intro b o q n hb
   obtain ⟨sl,e1⟩:=un.slot b o q n hb (by simp)
   have nd:=(stk.mem (b:=b) (frs_cons.mpr (.inr hb))).2
   obtain ⟨o1,e2,d2⟩:=nd
   rw [e1] at e2
   cases e2
   obtain ⟨sl',e3⟩:=z4 b _ e1 d2
   exact ⟨sl',e3⟩
 · intro b o q n
   rw [cq (ne b o q)]
   exact un.free b o q n (by simp)
 · intro b o q hb
   obtain ⟨o',e1⟩:=un.there b o q (by simp)
   exact ⟨o',kB b o' e1 (ne b o q) (nfr b o q hb)⟩
 · intro b xs q
   have q1:=un.tups b xs q
   rw [cq]
   · exact q1
   · intro z
     rw [z,hH] at q1
     cases q1
 · intro b o u q
   have q1:=un.frzs b o u q
   rw [cq]
   · exact q1
   · intro z
     rw [z,hH] at q1
     cases q1
 · intro b ps q
   obtain ⟨more,q1⟩:=un.tbls b ps q
   refine ⟨more,?_⟩
   rw [cq]
   · exact q1
   · intro z
     rw [z,hH] at q1
     cases q1
theorem uO {X:Cx} {P:Program} {w:World}:gA (CX1 P w) X E0:=fun _ _ _ _ _ _ _ h=>by
 obtain ⟨_,_,_,_,_,h⟩:=h
 exact h.2.2.2.2.2.2.2.2.2.2.2.2.2.2.elim
section
open PySem PySem.W Builtin Builtin.ObjectAttr Builtin.Getset_descriptor
variable {prog:Program} {w:World} {A:Around} {E:Value→Shared→Prop} {h:Heap} {g:Array GenState} {d:Drawn} {t:Nat} {os:OsState} {a C:Addr} {o:Obj} {K:Frag}
structure XIs (K:Frag) (C:Addr):Prop where
 cls:(clsIn K C).isSome=true
 ga:findIn K (.ref C) "__getattribute__"=some (some (.builtin "BaseException.__getattribute__"))
 hook:findIn K (.ref C) "__getattr__"=some none
 cl:findIn K (.ref C) "__class__"=some (some (.builtin "object.__class__"))
 mo:mroIn K C (.type "object")=some true
 mb:mroIn K C (.type "BaseException")=some true
theorem eZ {M:Model} {n:Str} {r:Option Value} {Q:Option Value→Shared→Prop} (X:K.In h) (e:findIn K (.ref C) n=some r) (z:Q r ⟨h,g,d,t,os⟩):wpAny M A (typeLookup (.ref C) n) Q E ⟨h,g,d,t,os⟩:=
 (looks_findIn (M:=M) X e).at z
theorem oX {M:Model} {b:Value} {r:Bool} {Q:Bool→Shared→Prop} (X:K.In h) (e:mroIn K C b=some r) (z:Q r ⟨h,g,d,t,os⟩):wpAny M A (isSubtype (.ref C) b) Q E ⟨h,g,d,t,os⟩:=
 (looks_mroIn (M:=M) X e).at z
theorem gQ {R:Result→Shared→Prop} {tp:Value} (Z:XIs K C) (X:K.In h) (hx:h.get? a=some o) (hc:o.cls= .ref C) (z:R (.ok (.ret (.ref C))) ⟨h,g,d,t,os⟩):
 codeAny (model prog w) A (.call (.builtin "getset_descriptor.__get__") ⟨[.builtin "object.__class__", .ref a,tp],[]⟩) R ⟨h,g,d,t,os⟩:=by
 have L0:Looks (model prog w) h (typeOf (.ref a)) (.ref C):=by
  have:=((Looks.ld (M:=model prog w) (part:=some headPart) hx).andThen (f:=fun o=>pure o.cls) .now)
  rw [hc] at this
  exact this
 have L1:=looks_mroIn (M:=model prog w) X Z.mo
 refine codeAny_call_builtin KF.slot_gs.plain KF.entry_gs (KF.slot_gs.check _ _ _ _ _ _ _ _ KF.type_class (KF.args_gs _ _ _) ?_)
 unfold Builtin.«getset_descriptor.__get__» descrGet
 rw [dga_obj]
 refine wpAny_bind (wpAny_pure ?_)
 unfold descrGetter descrCheckInstance descrNameAndClass isInstance
 simp only [KF.owner_class]
 repeat lk
 refine ⟨Code.quiet_builtin _ (by decide +kernel),codeAny_builtin KF.entry_class ?_⟩
 unfold Builtin.«object.__class__» shownTypeOf
 repeat lk
 exact z
theorem u5 {M:Model} {nv:Value} {Q:Unit→Shared→Prop} (Z:XIs K C) (X:K.In h) (hx:h.get? a=some o) (hc:o.cls= .ref C) (z:Q () ⟨h,g,d,t,os⟩):
 wpAny M A (checkBuiltinCall "BaseException.__getattribute__" ⟨[.ref a,nv],[]⟩) Q E ⟨h,g,d,t,os⟩:=by
 have hk:builtinKind "BaseException.__getattribute__"=some .slot:=by decide +kernel
 have hs:splitId "BaseException.__getattribute__"=some ("BaseException","__getattribute__"):=by decide +kernel
 have ha:=PySem.F.args_bexc_ga (.ref a) nv
 simp only [checkBuiltinCall,hk,hs]
 refine wpAny_bind ?_
 unfold isInstance
 repeat
  first
  |(with_reducible refine wpAny_loadPart_at hx ?_;rw [hc])
  |with_reducible refine oX X Z.mb ?_
  |wp_step
 exact z
theorem nh {Q:Option Value→Shared→Prop} (Z:XIs K C) (X:K.In h) (hx:h.get? a=some o) (hc:o.cls= .ref C) (z:Q (some (.ref C)) ⟨h,g,d,t+1,os⟩):
 wpAny (model prog w) A (getAttr? (.ref a) "__class__") Q E ⟨h,g,d,t,os⟩:=by
 have f3:=PySem.F.excAttr_ValueError.ga.bind (.ref a)
 have b2:(Value.builtin "BaseException.__getattribute__"==Value.builtin "object.__getattribute__")=false:=by decide +kernel
 have b1:(onTheHeap (Value.ref C)&&Value.builtin "BaseException.__getattribute__"==Value.builtin "object.__getattribute__")=false:=by rw [b2];rfl
 have f5:=PySem.F.typeOf_object_class
 have f6:=PySem.F.slot_gs_get.lookup
 have f7:=PySem.F.slot_gs_set.lookup
 have hT5:(⟨h,g,d,t+1,os⟩:Shared).TypeIs (.builtin "object.__class__") "getset_descriptor":=PySem.F.typeOf_object_class
 unfold getAttr? getAttrBy?
 refine wpAny_bind (wpAny_mkText (wpAny_bind (wpAny_attempt ?_)))
 unfold getAttrBy
 repeat
  any_goals
   first
   |assumption
   |(with_reducible refine wpAny_loadPart_at hx ?_;rw [hc])
   |with_reducible refine eZ X Z.ga ?_
   |with_reducible refine eZ X Z.hook ?_
   |wp_step
 refine codeAny_call_builtin PySem.F.excAttr_ValueError.ga.plain PySem.F.entry_bexc_ga (u5 Z X hx hc ?_)
 repeat
  any_goals
   first
   |assumption
   |(with_reducible refine wpAny_loadPart_at hx ?_;rw [hc])
   |with_reducible refine eZ X Z.cl ?_
   |wp_step
 refine gQ Z X hx hc ?_
 repeat
  any_goals
   first
   |assumption
   |wp_step
end
open PySem PySem.Spec PyProof.Rows
noncomputable def Cau (C a:Addr):HO:= .ext fun h=>∃o,h.get? a=some o∧o.cls= .ref C
theorem p6 {K:PySem.W.Frag} {C a:Addr} (Z:XIs K C):PySem.W.KitX K (.ref a) (.ref C) (fun h=>∃o,h.get? a=some o∧o.cls= .ref C) where
 ty:=fun M h _ ⟨o,e,c⟩=>by
  have:=((PySem.W.Looks.ld (M:=M) (part:=some headPart) e).andThen (f:=fun o=>pure o.cls) .now)
  rw [c] at this
  exact this
 it:=fun M h X _=>by
  have hc:=Z.cls
  unfold PySem.W.clsIn at hc
  split at hc
  · rename_i ho
    intro A' Q' E' s' k q
    unfold isType loadHead
    exact wpAny_bind (wpAny_loadPart (k _ _ (X _ _ ho)) (wpAny_pure q))
  · cases hc
 ne:=fun h tp dd its n sl X htp=>by
  have hc:=Z.cls
  refine Bool.eq_false_iff.mpr fun q=> ?_
  have e:C=tp:=Value.ref.inj (beq_iff_eq.mp q)
  subst e
  unfold PySem.W.clsIn at hc
  split at hc
  · rename_i ho
    cases (X _ _ ho).symm.trans htp
  · cases hc
 ca:=fun {prog w A E Q s} X ⟨o,e,c⟩ k=>by
  obtain ⟨h,g,d,t,os⟩:=s
  exact nh Z X e c k
noncomputable def clsV:V→Value
 | .ty n=> .type n
 | .ref a=> .ref a
 |_=> .none
def lQ:V→Bool
 | .ty _=>true
 | .ref _=>true
 |_=>false
theorem lX {x:V} {u:Value} (r:RelV x u) (h:lQ x=true):u=clsV x:=by
 cases x with
 |ty n=>exact r
 |ref a=>exact r
 |_=>cases h
theorem jN:∀ {xs:List V} {us:List Value},Vals xs us→xs.all lQ=true→us=xs.map clsV
 |_,_, .nil,_=>rfl
 |_,_, .cons r t,h=>by
  rw [List.all_cons,Bool.and_eq_true] at h
  rw [lX r h.1,jN t h.2,List.map_cons]
inductive TyX (K:PySem.W.Frag) (H:Hp):V→Value→Prop where
 |of {x:V} {t:Value} (h:TyOf K H x t):TyX K H x t
 |exc {a C:Addr} (e:H a=some (Cau C a)) (Z:XIs K C):TyX K H (.ref a) (.ref C)
section
variable {X:Cx}
theorem TyX.kit {pins:List (Addr×Obj)} {σ:St} {H:Hp} {s:Shared} {x:V} {u t:Value} (I:Inv X pins σ H s) (rx:RelV x u) (ty:TyX X.K H x t):∃Hh,PySem.W.KitX X.K u t Hh∧Hh s.heap∧u≠ .builtin "__main__.__loader__#opaque":=by
 cases ty with
 |of ty=>
  cases ty with
  |non=>cases (show u=Value.none from rx);exact ⟨_,PySem.W.kitx_none,True.intro,fun z=>nomatch z⟩
  |bl y=>cases (show u=Value.bool y from rx);exact ⟨_,PySem.W.kitx_bool,True.intro,fun z=>nomatch z⟩
  |int i=>obtain ⟨t,q⟩:=(show∃t,u=Value.int i t from rx);cases q;exact ⟨_,PySem.W.kitx_int,True.intro,fun z=>nomatch z⟩
  |str y=>obtain ⟨t,q⟩:=(show∃t,u=Value.str y t from rx);cases q;exact ⟨_,PySem.W.kitx_str,True.intro,fun z=>nomatch z⟩
  |flt y=>obtain ⟨t,q⟩:=(show∃t,u=Value.float y t from rx);cases q;exact ⟨_,PySem.W.kitx_float,True.intro,fun z=>nomatch z⟩
  | @lst a xs ea=>
   cases (show u=Value.ref a from rx)
   obtain ⟨_,_,n,_,h1⟩:=(show ObjOk X.prog X.w H s.heap a (.lst xs) from I.hok a _ ea)
   exact ⟨_,PySem.W.kitx_list,⟨_,h1,rfl⟩,fun z=>nomatch z⟩
  | @frz a ob xs ea=>
   cases (show u=Value.ref a from rx)
   obtain ⟨_,_,_,n,_,h1⟩:=(show ObjOk X.prog X.w H s.heap a (.frz ob (.lst xs)) from I.hok a _ ea)
   exact ⟨_,PySem.W.kitx_list,⟨_,h1,rfl⟩,fun z=>nomatch z⟩
  | @tup a xs ea=>
   cases (show u=Value.ref a from rx)
   obtain ⟨_,_,_,o,h1,h2,_⟩:=(show ObjOk X.prog X.w H s.heap a (.tup xs) from I.hok a _ ea)
   exact ⟨_,PySem.W.kitx_tuple,⟨o,h1,h2⟩,fun z=>nomatch z⟩
  | @dK a kvs ea=>
   cases (show u=Value.ref a from rx)
   obtain ⟨_,_,vs,_,o,es,ep,h1,h2,_⟩:=(show ObjOk X.prog X.w H s.heap a (.dK kvs) from I.hok a _ ea)
   exact ⟨_,PySem.W.kitx_dict,⟨o,h1,h2.1⟩,fun z=>nomatch z⟩
  | @dT a kvs ea=>
   cases (show u=Value.ref a from rx)
   obtain ⟨_,_,xs,_,o,es,ep,h1,h2,_⟩:=(show ObjOk X.prog X.w H s.heap a (.dT kvs) from I.hok a _ ea)
   exact ⟨_,PySem.W.kitx_dict,⟨o,h1,h2.1⟩,fun z=>nomatch z⟩
  | @ins a C dx fs ea cl ha hn htk hm=>
   cases (show u=Value.ref a from rx)
   obtain ⟨mA,O,_⟩:=rC I.hok ea
   obtain ⟨od,J,_⟩:=O.look
   exact ⟨_,PySem.W.kitx_own (cl.get _) cl.hd ha hn htk hm,J,fun z=>nomatch z⟩
 | @exc a C e Z=>
  cases (show u=Value.ref a from rx)
  obtain ⟨h1,_⟩:=(show ObjOk X.prog X.w H s.heap a (Cau C a) from I.hok a _ e)
  exact ⟨_,p6 Z,h1,fun z=>nomatch z⟩
def rIsi (K:PySem.W.Frag):List V→Hp→VK→Prop:=fun xs H Q=>∃x c t b,xs= [x,c]∧TyX K H x t∧
 ((lQ c=true∧PySem.W.kitOne K t (clsV c)=some b)∨(∃p ys,c= .ref p∧H p=some (.tup ys)∧ys.all lQ=true∧PySem.W.kitAny K t (ys.map clsV)=some b))∧Q (.bl b) H
theorem aS:CallR X (.builtin "isinstance") (rIsi X.K):=by
 intro pins s σ H xs us Q I r h
 obtain ⟨x,c,t,b,e,ty,h,q⟩:=h
 subst e
 cases r with
 | @cons _ u _ _ rx r=>
  cases r with
  | @cons _ v _ _ rc r=>
   cases r
   obtain ⟨Hh,Z,hp,hne⟩:=ty.kit I rx
   rcases h with ⟨hc,hk⟩|⟨p,ys,e,hH,hall,hk⟩
   · cases lX rc hc
     exact PySem.W.kia_one Z I.kIn hp hk hne fun tk=>⟨.bl b,H,I.tok tk,rfl,q⟩
   · subst e
     cases (show v=Value.ref p from rc)
     obtain ⟨_,its,rv,⟨oc,od,oda,osl⟩,h1,h2,n,h3⟩:=(show ObjOk X.prog X.w H s.heap p (.tup ys) from I.hok p _ hH)
     dsimp only at h2 h3
     subst h2 h3
     cases jN rv hall
     exact PySem.W.kia_tup Z I.kIn hp h1 hk hne fun tk=>⟨.bl b,H,I.tok tk,rfl,q⟩
end
open PySem PySem.Spec PyProof.Rows
abbrev TSX:=Ends→XK→St→Hp→Prop
section
variable {X:Cx} {CX:CXT} {k:Nat} {f:Addr} {fd:FuncData} {ps:List Str} {sp:Sp} {x:Str} {p pos epos:Pos} {e:Expr} {es:List Expr} {t:TA}
end
section
variable {X:Cx} {pins:List (Addr×Obj)} {σ:St} {H:Hp} {s:Shared} {a:Addr}
end
section
variable {X:Cx} {body suite:List Stmt} {b0:Stmt} {tb:TSX} {ts:TS} {i:Nat} {n cx:Str} {np hpos pos:Pos} {W:Addr}
end
open PySem PySem.Spec PyProof.Rows
section
variable {X:Cx}
def Big (i:Int):Prop:=i.natAbs < 2^8000
theorem bn:OpR X (binaryOp .Mult) (rI (fun i j=>Big i∧Big j) fun i j=> .int (i*j)):=opI fun _ _ _ _ _ _ _ hc q=>
 PyProof.Rows.mul_int q (IntMulOk.of_le (m:=8000) (n:=8000) (intBits_le_iff.mpr hc.1) (intBits_le_iff.mpr hc.2) (by decide))
theorem qg {i j:Int} (h:Big j):Builtin.divisionGoesByPylong i j=false:=by
 refine PyProof.noPylong_of_log2 ?_
 by_cases z:j.natAbs=0
 · rw [z];decide
 · exact Nat.lt_trans ((Nat.log2_lt z).mpr h) (by decide)
theorem bh:OpR X (binaryOp .FloorDiv) (rI (fun _ j=>0 < j∧Big j) fun i j=> .int (i / j)):=opI fun i j _ _ _ _ _ hc q=>by
 have h1:(0:Int) < j:=hc.1
 exact floordiv_int (by omega) (by rw [Int.fdiv_eq_ediv_of_nonneg i (by omega)];exact q) (.inl (qg hc.2))
theorem jy:OpR X (binaryOp .FloorDiv) (rI (fun _ j=>j≠0∧Big j) fun i j=> .int (i.fdiv j)):=opI fun _ _ _ _ _ _ _ hc q=>floordiv_int hc.1 q (.inl (qg hc.2))
end
theorem Fun.okX {P:Program} {w:World} {K:PySem.W.Frag} {mg:Str→Option Value} {base:Heap} {CX:CXT} {x qual:Str} {st:Stmt} {f:Addr} {fd:FuncData} {N ps:List Str} {k:Nat} {sp:Sp} (F:Fun K x qual st f fd) (S:az N ps (af st))
 (len:∀vs H Q E,sp vs H Q E→vs.length=ps.length)
 (hbody:∀(cdv:Value) (A:Around) (outer:List Env) (s:Shared) (H:Hp) (vs:List V) (Q:VK) (E:XK),Room k (A.deeper (envOfC qual (af st) s.heap.objs.size f cdv))→sp vs H Q E→
  ∃t,PSs (cxOf CX P w K mg base N qual (af st) f cdv A outer s H E) (av st) t∧t {nx:=fun _ H'=>Q .non H',rt:=Q} (dQ N vs) H):FnOk P w K mg base CX (k+1) f fd ps sp:=by
 obtain ⟨oc,od,kV,doc,pm,an,cdv,ct,osl,rfl,lk,hcd⟩:=F.ex
 exact sR lk hcd S len fun A outer s H vs Q E hr hsp=>hbody cdv A outer s H vs Q E hr hsp
theorem e9 (K:PySem.W.Frag):PySem.W.kitOne K (.type "int") (.type "bool")=some false:=by kernel_rfl
theorem ay:bootBuiltins "isinstance"=some (.builtin "isinstance"):=by decide +kernel
theorem pZ:bootBuiltins "abs"=some (.builtin "abs"):=by decide +kernel
open PySem PySem.Spec PyProof.Rows
section
variable {X:Cx}
theorem tQ (hu:X.A.units+1 < cLine):OpR X (compareOp .Eq) (fun x y H Q=>∃(p q:Addr) (a b c d:Int),x= .ref p∧y= .ref q∧SqT X.K H p [.int a, .int b]∧SqT X.K H q [.int c, .int d]∧Q (.bl (decide (a=c∧b=d))) H):=by
 intro pins s σ H x y v u Q I rx ry h
 obtain ⟨p,q,a,b,c,d,e1,e2,hp,hq,k⟩:=h
 subst e1 e2
 cases (show v=Value.ref p from rx)
 cases (show u=Value.ref q from ry)
 obtain ⟨its,r1,t1,_⟩:=I.tuple hp
 obtain ⟨its2,r2,t2,_⟩:=I.tuple hq
 obtain ⟨u1,u2,rfl,⟨w1,rfl⟩,⟨w2,rfl⟩⟩:=Vals.two r1
 obtain ⟨u3,u4,rfl,⟨w3,rfl⟩,⟨w4,rfl⟩⟩:=Vals.two r2
 refine PySem.SeqAt.eq_tupleAt (e:=fun j=>if j=0 then a==c else b==d) (show s.heap.IsTuple p _ from t1) (show s.heap.IsTuple q _ from t2) (by omega) (fun j h1 h2=> ?_) ?_
 · match j,h1,h2 with
   |0,_,_=>exact PySem.SeqAt.EqAt.int_int a w1 c w3
   |1,_,_=>exact PySem.SeqAt.EqAt.int_int b w2 d w4
   |j+2,h1,_=>
    have:j+2 < 2:=h1
    omega
 · refine ⟨.bl (decide (a=c∧b=d)),H,I,?_,k⟩
   show Value.bool (((a==c)&& ((b==d)&&true))&&true)=Value.bool (decide (a=c∧b=d))
   congr 1
   rw [Bool.and_true,Bool.and_true,Bool.eq_iff_iff]
   simp
end
section
variable {X:Cx} {CX:CXT} {k:Nat} {f:Addr} {fd:FuncData} {ps:List Str} {sp:Sp} {x:Str} {p pos rpos:Pos} {e:Expr} {es:List Expr} {t:TA}
end
section
variable {X:Cx} {body suite:List Stmt} {b0:Stmt} {tb:TSX} {ts:TS} {cx:Str} {np hpos pos:Pos} {W:Addr}
end
theorem cu (K:PySem.W.Frag):PySem.W.kitOne K (.type "bool") (.type "bool")=some true:=by kernel_rfl
end L2
namespace Tre
open PySem PySem.Spec PyProof.Rows L2
inductive Tr where
 |non
 |bl (b:Bool)
 |int (i:Int)
 |str (x:Str)
 |tup (ts:List Tr)
 |ls
mutual
noncomputable def Tr.depth:Tr→Nat
 | .tup ts=>Trs.depth ts+1
 |_=>0
noncomputable def Trs.depth:List Tr→Nat
 | []=>0
 |t::ts=>max (Tr.depth t) (Trs.depth ts)
end
mutual
def Tr.pure:Tr→Prop
 | .tup ts=>Trs.pure ts
 | .ls=>False
 |_=>True
def Trs.pure:List Tr→Prop
 | []=>True
 |t::ts=>Tr.pure t∧Trs.pure ts
end
mutual
def TrAt (H:Hp):V→Tr→Prop
 |v, .non=>v= .non
 |v, .bl b=>v= .bl b
 |v, .int i=>v= .int i
 |v, .str x=>v= .str x
 |v, .tup ts=>∃r vs,v= .ref r∧H r=some (.tup vs)∧TrsAt H vs ts
 |v, .ls=>∃r xs,v= .ref r∧H r=some (.lst xs)
def TrsAt (H:Hp):List V→List Tr→Prop
 |vs,[]=>vs= []
 |vs,t::ts=>∃v r,vs=v::r∧TrAt H v t∧TrsAt H r ts
end
structure Kd (H H':Hp):Prop where
 tup:∀a xs,H a=some (.tup xs)→H' a=some (.tup xs)
 lst:∀a xs,H a=some (.lst xs)→∃ys,H' a=some (.lst ys)
theorem Kd.refl (H:Hp):Kd H H:=⟨fun _ _ e=>e,fun _ xs e=>⟨xs,e⟩⟩
theorem Kd.trans {H H1 H2:Hp} (a:Kd H H1) (b:Kd H1 H2):Kd H H2:=⟨fun x o e=>b.tup x o (a.tup x o e),fun x o e=>by
 obtain ⟨ys,e1⟩:=a.lst x o e
 exact b.lst x ys e1⟩
theorem Kd.of_same {H H':Hp} (s:Same H H'):Kd H H':=⟨fun a xs e=>s a _ e,fun a xs e=>⟨xs,s a _ e⟩⟩
theorem Kd.upd {H:Hp} {p:Addr} {xs ys:List V} (h:H p=some (.lst xs)):Kd H (upd H p (.lst ys)):=by
 refine ⟨fun a zs e=> ?_,fun a zs e=> ?_⟩
 · rw [ai]
   · exact e
   · intro z
     rw [z,h] at e
     cases e
 · by_cases z:a=p
   · subst z
     exact ⟨ys,a9⟩
   · exact ⟨zs,(ai z).trans e⟩
mutual
theorem TrAt.mono {H H':Hp} (k:Kd H H'):∀ {v:V} {t:Tr},TrAt H v t→TrAt H' v t
 |v, .non,h=>by unfold TrAt at h ⊢;exact h
 |v, .bl b,h=>by unfold TrAt at h ⊢;exact h
 |v, .int i,h=>by unfold TrAt at h ⊢;exact h
 |v, .str x,h=>by unfold TrAt at h ⊢;exact h
 |v, .ls,h=>by
  unfold TrAt at h ⊢
  obtain ⟨r,xs,e,h⟩:=h
  obtain ⟨ys,h'⟩:=k.lst r xs h
  exact ⟨r,ys,e,h'⟩
 |v, .tup ts,h=>by
  unfold TrAt at h ⊢
  obtain ⟨r,vs,e,h1,h2⟩:=h
  exact ⟨r,vs,e,k.tup _ _ h1,TrsAt.mono k h2⟩
theorem TrsAt.mono {H H':Hp} (k:Kd H H'):∀ {vs:List V} {ts:List Tr},TrsAt H vs ts→TrsAt H' vs ts
 |vs,[],h=>by unfold TrsAt at h ⊢;exact h
 |vs,t::ts,h=>by
  unfold TrsAt at h ⊢
  obtain ⟨v,r,e,h1,h2⟩:=h
  exact ⟨v,r,e,TrAt.mono k h1,TrsAt.mono k h2⟩
end
theorem TrsAt.nil {H:Hp}:TrsAt H [] []:=by unfold TrsAt;rfl
theorem TrsAt.cons {H:Hp} {v:V} {t:Tr} {vs:List V} {ts:List Tr} (h:TrAt H v t) (r:TrsAt H vs ts):TrsAt H (v::vs) (t::ts):=by
 unfold TrsAt
 exact ⟨v,vs,rfl,h,r⟩
theorem TrsAt.inv {H:Hp} {t:Tr} {vs:List V} {ts:List Tr} (h:TrsAt H vs (t::ts)):∃v r,vs=v::r∧TrAt H v t∧TrsAt H r ts:=by
 unfold TrsAt at h
 exact h
theorem TrsAt.len {H:Hp}:∀ {vs:List V} {ts:List Tr},TrsAt H vs ts→vs.length=ts.length
 |vs,[],h=>by
  unfold TrsAt at h
  rw [h]
  rfl
 |vs,t::ts,h=>by
  obtain ⟨v,r,e,_,h2⟩:=h.inv
  rw [e,List.length_cons,List.length_cons,h2.len]
theorem TrsAt.app {H:Hp} {ws:List V} {us:List Tr} (b:TrsAt H ws us):∀ {vs:List V} {ts:List Tr},TrsAt H vs ts→TrsAt H (vs++ws) (ts++us)
 |vs,[],h=>by
  unfold TrsAt at h
  subst h
  exact b
 |vs,t::ts,h=>by
  obtain ⟨v,r,e,h1,h2⟩:=h.inv
  subst e
  exact .cons h1 (TrsAt.app b h2)
theorem TrsAt.get {H:Hp}:∀ {vs:List V} {ts:List Tr} {i:Nat} {t:Tr},TrsAt H vs ts→ts[i]?=some t→∃v,vs[i]?=some v∧TrAt H v t
 |vs,[],i,t,_,e=>by simp at e
 |vs,a::ts,0,t,h,e=>by
  obtain ⟨v,r,rfl,h1,h2⟩:=h.inv
  simp at e
  subst e
  exact ⟨v,rfl,h1⟩
 |vs,a::ts,i+1,t,h,e=>by
  obtain ⟨v,r,rfl,h1,h2⟩:=h.inv
  obtain ⟨u,e1,e2⟩:=h2.get (i:=i) (by simpa using e)
  exact ⟨u,by simpa using e1,e2⟩
theorem TrsAt.get' {H:Hp} {vs:List V} {ts:List Tr} {i:Nat} {v:V} (h:TrsAt H vs ts) (e:vs[i]?=some v):∃t,ts[i]?=some t∧TrAt H v t:=by
 have hl:=h.len
 have hi:i < vs.length:=(List.getElem?_eq_some_iff.mp e).1
 obtain ⟨u,e1,e2⟩:=h.get (i:=i) (t:=ts[i]'(by omega)) (List.getElem?_eq_getElem _)
 rw [e] at e1
 cases e1
 exact ⟨_,List.getElem?_eq_getElem _,e2⟩
mutual
theorem TrAt.det {H:Hp}:∀ {v:V} {t u:Tr},TrAt H v t→TrAt H v u→t=u
 |v, .non,u,h1,h2=>by
  unfold TrAt at h1
  subst h1
  cases u<;>unfold TrAt at h2<;>first|rfl|(cases h2;done)|(obtain ⟨_,_,e,_⟩:=h2;cases e)
 |v, .bl b,u,h1,h2=>by
  unfold TrAt at h1
  subst h1
  cases u<;>unfold TrAt at h2<;>first|(cases h2;rfl)|(cases h2;done)|(obtain ⟨_,_,e,_⟩:=h2;cases e)
 |v, .int b,u,h1,h2=>by
  unfold TrAt at h1
  subst h1
  cases u<;>unfold TrAt at h2<;>first|(cases h2;rfl)|(cases h2;done)|(obtain ⟨_,_,e,_⟩:=h2;cases e)
 |v, .str b,u,h1,h2=>by
  unfold TrAt at h1
  subst h1
  cases u<;>unfold TrAt at h2<;>first|(cases h2;rfl)|(cases h2;done)|(obtain ⟨_,_,e,_⟩:=h2;cases e)
 |v, .ls,u,h1,h2=>by
  unfold TrAt at h1
  obtain ⟨r,xs,rfl,h1⟩:=h1
  cases u<;>unfold TrAt at h2<;>first|rfl|(cases h2;done)|(obtain ⟨_,_,e,h2,_⟩:=h2;cases e;rw [h1] at h2;cases h2)
 |v, .tup ts, .tup us,h1,h2=>by
  unfold TrAt at h1 h2
  obtain ⟨r,vs,rfl,h1,h3⟩:=h1
  obtain ⟨r',vs',e,h2,h4⟩:=h2
  cases e
  rw [h1] at h2
  cases h2
  rw [TrsAt.det h3 h4]
 |v, .tup ts, .non,h1,h2=>by unfold TrAt at h1 h2;obtain ⟨_,_,e,_⟩:=h1;rw [h2] at e;cases e
 |v, .tup ts, .bl _,h1,h2=>by unfold TrAt at h1 h2;obtain ⟨_,_,e,_⟩:=h1;rw [h2] at e;cases e
 |v, .tup ts, .int _,h1,h2=>by unfold TrAt at h1 h2;obtain ⟨_,_,e,_⟩:=h1;rw [h2] at e;cases e
 |v, .tup ts, .str _,h1,h2=>by unfold TrAt at h1 h2;obtain ⟨_,_,e,_⟩:=h1;rw [h2] at e;cases e
 |v, .tup ts, .ls,h1,h2=>by
  unfold TrAt at h1 h2
  obtain ⟨r,vs,rfl,h1,_⟩:=h1
  obtain ⟨r',xs,e,h2⟩:=h2
  cases e
  rw [h1] at h2
  cases h2
theorem TrsAt.det {H:Hp}:∀ {vs:List V} {ts us:List Tr},TrsAt H vs ts→TrsAt H vs us→ts=us
 |vs,[],[],_,_=>rfl
 |vs,[],u::us,h1,h2=>by
  have a:=h1.len
  have b:=h2.len
  rw [a] at b
  simp at b
 |vs,t::ts,[],h1,h2=>by
  have a:=h1.len
  have b:=h2.len
  rw [a] at b
  simp at b
 |vs,t::ts,u::us,h1,h2=>by
  obtain ⟨v,r,rfl,h3,h4⟩:=h1.inv
  obtain ⟨v',r',e,h5,h6⟩:=h2.inv
  cases e
  rw [TrAt.det h3 h5,TrsAt.det h4 h6]
end
mutual
noncomputable def eqT:Tr→Tr→Bool
 | .non, .non=>true
 | .bl a, .bl b=>a==b
 | .bl a, .int i=>(if a then 1 else 0)==i
 | .int i, .bl b=>i==(if b then 1 else 0)
 | .int i, .int j=>i==j
 | .str x, .str y=>x==y
 | .tup ts, .tup us=>eqTs ts us
 | .ls, .ls=>true
 |_,_=>false
noncomputable def eqTs:List Tr→List Tr→Bool
 | [],[]=>true
 |t::ts,u::us=>eqT t u&&eqTs ts us
 |_,_=>false
end
mutual
theorem eA:∀t:Tr,eqT t t=true
 | .non=>by simp [eqT]
 | .bl _=>by simp [eqT]
 | .int _=>by simp [eqT]
 | .str _=>by simp [eqT]
 | .ls=>by simp [eqT]
 | .tup ts=>by simp only [eqT];exact eqTs_refl ts
theorem eqTs_refl:∀ts:List Tr,eqTs ts ts=true
 | []=>by simp [eqTs]
 |t::ts=>by simp [eqTs,eA t,eqTs_refl ts]
end
noncomputable def eqJ (ts us:List Tr) (j:Nat):Bool:=match ts[j]?,us[j]? with
 |some t,some u=>eqT t u
 |_,_=>true
theorem pD {ts us:List Tr} {j:Nat} {t u:Tr} (h1:ts[j]?=some t) (h2:us[j]?=some u):eqJ ts us j=eqT t u:=by
 unfold eqJ
 rw [h1,h2]
theorem er:∀(ts us:List Tr),eqTs ts us=((List.range (min ts.length us.length)).all (eqJ ts us)&&ts.length==us.length)
 | [],[]=>by simp [eqTs]
 | [],u::us=>by simp [eqTs]
 |t::ts,[]=>by simp [eqTs]
 |t::ts,u::us=>by
  simp only [eqTs,List.length_cons]
  rw [er ts us,show min (ts.length+1) (us.length+1)=min ts.length us.length+1 by omega,List.range_succ_eq_map,List.all_cons,List.all_map]
  have e:(eqJ (t::ts) (u::us)) ∘ Nat.succ=eqJ ts us:=by
   funext j
   simp [eqJ]
  rw [e]
  simp [eqJ,Bool.and_assoc]
open PySem PySem.Spec PyProof.Rows L2
section
variable {X:Cx} {pins:List (Addr×Obj)} {σ:L2.St} {H:Hp} {s:Shared} {A:Around}
theorem m8 {a b:Addr} {xs ys:List V} (I:Inv X pins σ H s) (ha:H a=some (.tup xs)) (hb:H b=some (.tup ys)) (hu:A.units < cLine) (e:Nat→Bool) (hne:a≠b)
 (he:∀j x y u v,xs[j]?=some x→ys[j]?=some y→RelV x u→RelV y v→SeqAt.EqAt A.in1 s u v (e j)):
 SeqAt.EqAt A s (.ref a) (.ref b) ((List.range (min xs.length ys.length)).all e&&xs.length==ys.length):=by
 obtain ⟨us,r1,p1,_⟩:=I.tuple (SqT.of ha)
 obtain ⟨ws,r2,p2,_⟩:=I.tuple (SqT.of hb)
 have l1:=r1.length
 have l2:=r2.length
 have:=SeqAt.RcAt.tuples (A:=A) (e:=e) (show s.heap.IsTuple a us.toArray from p1) (show s.heap.IsTuple b ws.toArray from p2) hu fun j h1 h2=>by
  have h1':j < us.length:=by simpa using h1
  have h2':j < ws.length:=by simpa using h2
  obtain ⟨u,e1,q1⟩:=r1.get (i:=j) (x:=xs[j]'(by omega)) (List.getElem?_eq_getElem _)
  obtain ⟨v,e2,q2⟩:=r2.get (i:=j) (x:=ys[j]'(by omega)) (List.getElem?_eq_getElem _)
  have z1:us.toArray[j]=u:=by rw [List.getElem_toArray];rw [List.getElem?_eq_getElem h1'] at e1;exact Option.some.inj e1
  have z2:ws.toArray[j]=v:=by rw [List.getElem_toArray];rw [List.getElem?_eq_getElem h2'] at e2;exact Option.some.inj e2
  rw [z1,z2]
  exact he j _ _ u v (List.getElem?_eq_getElem _) (List.getElem?_eq_getElem _) q1 q2
 rw [List.size_toArray,List.size_toArray,←l1,←l2] at this
 exact SeqAt.EqAt.of_refs hne this
theorem aQ:∀ {ts:List Tr} {t:Tr},t∈ts→t.depth≤Trs.depth ts
 |a::ts,t,h=>by
  unfold Trs.depth
  rcases List.mem_cons.mp h with rfl|h
  · omega
  · have:=aQ h
    omega
theorem cA:∀ {ts:List Tr} {t:Tr},Trs.pure ts→t∈ts→t.pure
 |a::ts,t,p,h=>by
  unfold Trs.pure at p
  rcases List.mem_cons.mp h with rfl|h
  · exact p.1
  · exact cA p.2 h
theorem cy {r:Addr} {vs:List V} (I:Inv X pins σ H s) (h:H r=some (.tup vs)):∃its:Array Value,s.heap.IsTuple r its:=by
 obtain ⟨us,_,p,_⟩:=I.tuple (SqT.of h)
 exact ⟨_,p⟩
theorem cz {r:Addr} {vs:List V} (I:Inv X pins σ H s) (h:H r=some (.lst vs)):∃its:Array Value,s.heap.IsList r its:=by
 obtain ⟨us,_,p,_⟩:=I.list (SqL.of h)
 exact ⟨_,p.isList⟩
theorem lw (I:Inv X pins σ H s) {A:Around} {t u:Tr} {v w:V} {a b:Value} (hd:∀ts,t≠ .tup ts) (hp:t.pure∨u.pure) (h1:TrAt H v t) (h2:TrAt H w u) (r1:RelV v a) (r2:RelV w b) (hu0:A.units < cLine):SeqAt.EqAt A s a b (eqT t u):=by
 cases t with
 |tup ts=>exact (hd ts rfl).elim
 |non=>
  unfold TrAt at h1
  subst h1
  cases (show a=Value.none from r1)
  cases u with
  |non=>unfold TrAt at h2;subst h2;cases (show b=Value.none from r2);simp only [eqT];exact SeqAt.EqAt.same _
  |bl c=>unfold TrAt at h2;subst h2;cases (show b=Value.bool c from r2);simp only [eqT];exact SeqAt.EqAt.none_bool c
  |int c=>unfold TrAt at h2;subst h2;obtain ⟨t',rfl⟩:=r2;simp only [eqT];exact SeqAt.EqAt.none_int c t'
  |str c=>unfold TrAt at h2;subst h2;obtain ⟨t',rfl⟩:=r2;simp only [eqT];exact SeqAt.EqAt.none_str c t'
  |tup us=>unfold TrAt at h2;obtain ⟨r,vs,rfl,g1,_⟩:=h2;cases r2;obtain ⟨its,p⟩:=cy I g1;simp only [eqT];exact SeqAt.EqAt.none_tuple p hu0
  |ls=>unfold TrAt at h2;obtain ⟨r,vs,rfl,g1⟩:=h2;cases r2;obtain ⟨its,p⟩:=cz I g1;simp only [eqT];exact SeqAt.EqAt.none_list p hu0
 |bl d=>
  unfold TrAt at h1
  subst h1
  cases (show a=Value.bool d from r1)
  cases u with
  |non=>unfold TrAt at h2;subst h2;cases (show b=Value.none from r2);simp only [eqT];exact SeqAt.EqAt.bool_none d
  |bl c=>unfold TrAt at h2;subst h2;cases (show b=Value.bool c from r2);simp only [eqT];exact SeqAt.EqAt.bool_bool d c
  |int c=>unfold TrAt at h2;subst h2;obtain ⟨t',rfl⟩:=r2;simp only [eqT];exact SeqAt.EqAt.bool_int d c t'
  |str c=>unfold TrAt at h2;subst h2;obtain ⟨t',rfl⟩:=r2;simp only [eqT];exact SeqAt.EqAt.bool_str d c t'
  |tup us=>unfold TrAt at h2;obtain ⟨r,vs,rfl,g1,_⟩:=h2;cases r2;obtain ⟨its,p⟩:=cy I g1;simp only [eqT];exact SeqAt.EqAt.bool_tuple d p hu0
  |ls=>unfold TrAt at h2;obtain ⟨r,vs,rfl,g1⟩:=h2;cases r2;obtain ⟨its,p⟩:=cz I g1;simp only [eqT];exact SeqAt.EqAt.bool_list d p hu0
 |int d=>
  unfold TrAt at h1
  subst h1
  obtain ⟨t0,rfl⟩:=r1
  cases u with
  |non=>unfold TrAt at h2;subst h2;cases (show b=Value.none from r2);simp only [eqT];exact SeqAt.EqAt.int_none d t0
  |bl c=>unfold TrAt at h2;subst h2;cases (show b=Value.bool c from r2);simp only [eqT];exact SeqAt.EqAt.int_bool d t0 c
  |int c=>unfold TrAt at h2;subst h2;obtain ⟨t',rfl⟩:=r2;simp only [eqT];exact SeqAt.EqAt.int_int d t0 c t'
  |str c=>unfold TrAt at h2;subst h2;obtain ⟨t',rfl⟩:=r2;simp only [eqT];exact SeqAt.EqAt.int_str d t0 c t'
  |tup us=>unfold TrAt at h2;obtain ⟨r,vs,rfl,g1,_⟩:=h2;cases r2;obtain ⟨its,p⟩:=cy I g1;simp only [eqT];exact SeqAt.EqAt.int_tuple d t0 p hu0
  |ls=>unfold TrAt at h2;obtain ⟨r,vs,rfl,g1⟩:=h2;cases r2;obtain ⟨its,p⟩:=cz I g1;simp only [eqT];exact SeqAt.EqAt.int_list d t0 p hu0
 |str d=>
  unfold TrAt at h1
  subst h1
  obtain ⟨t0,rfl⟩:=r1
  cases u with
  |non=>unfold TrAt at h2;subst h2;cases (show b=Value.none from r2);simp only [eqT];exact SeqAt.EqAt.str_none d t0
  |bl c=>unfold TrAt at h2;subst h2;cases (show b=Value.bool c from r2);simp only [eqT];exact SeqAt.EqAt.str_bool d t0 c
  |int c=>unfold TrAt at h2;subst h2;obtain ⟨t',rfl⟩:=r2;simp only [eqT];exact SeqAt.EqAt.str_int d t0 c t'
  |str c=>unfold TrAt at h2;subst h2;obtain ⟨t',rfl⟩:=r2;simp only [eqT];exact SeqAt.EqAt.str_str d t0 c t'
  |tup us=>unfold TrAt at h2;obtain ⟨r,vs,rfl,g1,_⟩:=h2;cases r2;obtain ⟨its,p⟩:=cy I g1;simp only [eqT];exact SeqAt.EqAt.str_tuple d t0 p hu0
  |ls=>unfold TrAt at h2;obtain ⟨r,vs,rfl,g1⟩:=h2;cases r2;obtain ⟨its,p⟩:=cz I g1;simp only [eqT];exact SeqAt.EqAt.str_list d t0 p hu0
 |ls=>
  unfold TrAt at h1
  obtain ⟨r0,vs0,rfl,g0⟩:=h1
  cases r1
  obtain ⟨its0,p0⟩:=cz I g0
  cases u with
  |non=>unfold TrAt at h2;subst h2;cases (show b=Value.none from r2);simp only [eqT];exact SeqAt.EqAt.list_none p0 hu0
  |bl c=>unfold TrAt at h2;subst h2;cases (show b=Value.bool c from r2);simp only [eqT];exact SeqAt.EqAt.list_bool c p0 hu0
  |int c=>unfold TrAt at h2;subst h2;obtain ⟨t',rfl⟩:=r2;simp only [eqT];exact SeqAt.EqAt.list_int c t' p0 hu0
  |str c=>unfold TrAt at h2;subst h2;obtain ⟨t',rfl⟩:=r2;simp only [eqT];exact SeqAt.EqAt.list_str c t' p0 hu0
  |tup us=>unfold TrAt at h2;obtain ⟨r,vs,rfl,g1,_⟩:=h2;cases r2;obtain ⟨its,p⟩:=cy I g1;simp only [eqT];exact SeqAt.EqAt.list_tuple p0 p hu0
  |ls=>rcases hp with hp|hp<;>simp [Tr.pure] at hp
theorem iB (I:Inv X pins σ H s):∀(n:Nat) {A:Around} {t u:Tr} {v w:V} {a b:Value},t.depth≤n→(t.pure∨u.pure)→TrAt H v t→TrAt H w u→RelV v a→RelV w b→A.units+n+1 < cLine→SeqAt.EqAt A s a b (eqT t u):=by
 intro n
 induction n with
 |zero=>
  intro A t u v w a b hd hp h1 h2 r1 r2 hu
  refine lw I (fun ts e=> ?_) hp h1 h2 r1 r2 (by omega)
  subst e
  simp [Tr.depth] at hd
 |succ n ih=>
  intro A t u v w a b hd hp h1 h2 r1 r2 hu
  have hu0:A.units < cLine:=by omega
  cases t with
  |tup ts=>
   have h1':=h1
   have h2':=h2
   unfold TrAt at h1
   obtain ⟨r0,vs0,rfl,g0,k0⟩:=h1
   cases r1
   obtain ⟨its0,p0⟩:=cy I g0
   unfold Tr.depth at hd
   cases u with
   |non=>unfold TrAt at h2;subst h2;cases (show b=Value.none from r2);simp only [eqT];exact SeqAt.EqAt.tuple_none p0 hu0
   |bl c=>unfold TrAt at h2;subst h2;cases (show b=Value.bool c from r2);simp only [eqT];exact SeqAt.EqAt.tuple_bool c p0 hu0
   |int c=>unfold TrAt at h2;subst h2;obtain ⟨t',rfl⟩:=r2;simp only [eqT];exact SeqAt.EqAt.tuple_int c t' p0 hu0
   |str c=>unfold TrAt at h2;subst h2;obtain ⟨t',rfl⟩:=r2;simp only [eqT];exact SeqAt.EqAt.tuple_str c t' p0 hu0
   |ls=>unfold TrAt at h2;obtain ⟨r,vs,rfl,g1⟩:=h2;cases r2;obtain ⟨its,p⟩:=cz I g1;simp only [eqT];exact SeqAt.EqAt.tuple_list p0 p hu0
   |tup us=>
    unfold TrAt at h2
    obtain ⟨r,vs,rfl,g1,k1⟩:=h2
    cases r2
    by_cases z:r0=r
    · subst z
      rw [←TrAt.det h1' h2',eA]
      exact SeqAt.EqAt.same _
    · have:=m8 I g0 g1 hu0 (eqJ ts us) z fun j x y u' v' m1 m2 q1 q2=>by
       obtain ⟨t1,n1,a1⟩:=k0.get' m1
       obtain ⟨t2,n2,a2⟩:=k1.get' m2
       rw [pD n1 n2]
       refine ih (A:=A.in1) (by have:=aQ (List.mem_of_getElem? n1);omega) ?_ a1 a2 q1 q2 (by show A.units+1+n+1 < cLine;omega)
       rcases hp with hp|hp
       · unfold Tr.pure at hp
         exact .inl (cA hp (List.mem_of_getElem? n1))
       · unfold Tr.pure at hp
         exact .inr (cA hp (List.mem_of_getElem? n2))
      rw [k0.len,k1.len,←er] at this
      simp only [eqT]
      exact this
  |_=>exact lw I (fun ts e=>by cases e) hp h1 h2 r1 r2 hu0
end
open PySem PySem.Spec PyProof.Rows L2
open PySem.AutoSeq1 (wpAny_loadPart')
def LtAt (A:Around) (s:Shared) (y x:Value) (b:Bool):Prop:=
 ∀(prog:Program) (w:World) (E:Value→Shared→Prop) (Q:Value→Shared→Prop),Q (.bool b) s→wpAny (model prog w) A (richCompare .Lt y x) Q E s
def cG (A:Around) (s:Shared):List Value→List Value→List (Bool×Bool)→Prop
 |v::vs,w::ws,(e,l)::q=>SeqAt.EqAt A s v w e∧(e=false→LtAt A s v w l)∧(e=true→cG A s vs ws q)
 | [],_,q=>q= []
 |_,[],q=>q= []
 |_,_,_=>False
noncomputable def lexV (fin:Bool):List (Bool×Bool)→Bool
 | []=>fin
 |(e,l)::q=>if e=true then lexV fin q else l
theorem iA (l b:Addr) (items items2:Array Value) (n n2:Nat) (dd dd2:Option Addr) (sl sl2:Array (Option Value)) (q:List (Bool×Bool)):
 Meets (Builtin.«tuple.__lt__» ⟨[.ref l, .ref b],[]⟩)
  (fun A R s=>s.heap.get? l=some {cls:= .type "tuple",dict:=dd,data:= .seq items n,slots:=sl}∧s.heap.get? b=some {cls:= .type "tuple",dict:=dd2,data:= .seq items2 n2,slots:=sl2}∧
   cG A.in1 s items.toList items2.toList q∧R (.ok (.ret (.bool (lexV (decide (items.size < items2.size)) q)))) s):=
 .of_wp fun prog w A R s h=>by
  obtain ⟨hp,g,d,tk,os⟩:=s;obtain ⟨hl,hb,hx,h⟩:=h
  have f2:=AutoSeq1.sub_tuple_tuple
  wp_walk using wpAny_loadPart' hl,wpAny_loadPart' hb,wpAny_forIn_list _ (fun rest b s'=>b.1=none∧s'=⟨hp,g,d,tk,os⟩∧∃(vs ws:List Value) (q':List (Bool×Bool)),rest=vs.zip ws∧
   cG A.in1 ⟨hp,g,d,tk,os⟩ vs ws q'∧R (.ok (.ret (.bool (lexV (decide (items.size < items2.size)) q')))) ⟨hp,g,d,tk,os⟩) _
  case turn=>
   rintro ⟨y,x⟩ rest b s' ⟨hb',rfl,vs,ws,q',hz,hlx,hR⟩
   match vs,ws,q',hz,hlx,hR with
   | [],_,_,hz,_,_=>rw [List.zip_nil_left] at hz;cases hz
   |_::_,[],_,hz,_,_=>rw [List.zip_nil_right] at hz;cases hz
   |v::vs,w'::ws,[],_,hlx,_=>exact hlx.elim
   |v::vs,w'::ws,(e,lo)::q',hz,hlx,hR=>
    rw [List.zip_cons_cons] at hz
    injection hz with hyx hrest
    injection hyx with hy hx'
    subst hy hx'
    obtain ⟨he,hlt,hlx⟩:=hlx
    refine wpAny_bind (he prog w _ _ ?_)
    cases e with
    |true=>
     wp_walk
     exact ⟨rfl,rfl,_,_,_,hrest,hlx rfl,hR⟩
    |false=>
     have hri:=hlt rfl prog w
     wp_walk using hri
     exact ⟨_,rfl,hR⟩
  case fin=>
   rintro ⟨b1,b2⟩ s' ⟨hb',rfl,vs,ws,q',hz,hlx,hR⟩
   simp only at hb'
   subst hb'
   have hq:q'= []:=by
    match vs,ws,q',hz,hlx with
    | [],_,_,_,hlx=>unfold cG at hlx;exact hlx
    |_::_,[],_,_,hlx=>unfold cG at hlx;exact hlx
    |_::_,_::_,_,hz,_=>rw [List.zip_cons_cons] at hz;cases hz
   subst hq
   wp_walk
   exact ⟨_,rfl,by simpa [Builtin.Tuple.tupleCompareSizes,lexV] using hR⟩
  case h=>
   exact ⟨rfl,rfl,items.toList,items2.toList,q,rfl,hx,h⟩
theorem jW {A:Around} {s:Shared} {l b:Addr} {items items2:Array Value} {q:List (Bool×Bool)} (hl:s.heap.IsTuple l items) (hb:s.heap.IsTuple b items2) (hu:A.units < cLine)
 (hx:cG A.in1 s items.toList items2.toList q):LtAt A s (.ref l) (.ref b) (lexV (decide (items.size < items2.size)) q):=by
 intro prog w E Q h
 obtain ⟨⟨cls,dd,data,sl⟩,ho,hc,n,hd⟩:=id hl
 obtain ⟨⟨cls2,dd2,data2,sl2⟩,ho2,hc2,n2,hd2⟩:=id hb
 simp only at hc hd hc2 hd2
 subst hc hd hc2 hd2
 exact richCompare_meets_room (op:= .Lt) ⟨_,ho,rfl⟩ ⟨_,ho2,rfl⟩ PySem.F.slot_tuple_lt PySem.F.entry_tuple_lt (PySem.F.args_tuple_lt_2 _ _) (iA l b items items2 n n2 dd dd2 sl sl2 q)
  ⟨ho,ho2,hx,show Value.bool (lexV (decide (items.size < items2.size)) q)≠Value.notImplemented∧Q (.bool (lexV (decide (items.size < items2.size)) q)) s from ⟨(fun x=>nomatch x),h⟩⟩ hu
open PySem L2
inductive Co where
 |non
 |num (i:Int)
 |str (l:List Nat)
 |tup (cs:List Co)
 |ls
noncomputable def Co.kind:Co→Nat
 | .non=>0
 | .num _=>1
 | .str _=>2
 | .tup _=>3
 | .ls=>4
mutual
noncomputable def code:Tr→Co
 | .non=> .non
 | .bl b=> .num (if b then 1 else 0)
 | .int i=> .num i
 | .str x=> .str x.cps.toList
 | .tup ts=> .tup (codes ts)
 | .ls=> .ls
noncomputable def codes:List Tr→List Co
 | []=> []
 |t::ts=>code t::codes ts
end
theorem qG (x y:Str):((x==y)=true)↔x.cps.toList=y.cps.toList:=by
 rw [beq_iff_eq]
 constructor
 · rintro rfl
   rfl
 · intro h
   cases x
   cases y
   simp only [Str.mk.injEq]
   exact Array.toList_inj.mp h
mutual
theorem cj:∀(t u:Tr),(eqT t u=true)↔code t=code u
 | .non,u=>by cases u<;>simp [eqT,code]
 | .bl a,u=>by cases u<;>simp [eqT,code];cases a<;>rename_i b<;>cases b<;>simp
 | .int i,u=>by cases u<;>simp [eqT,code]
 | .str x, .str y=>by simp only [eqT,code,Co.str.injEq];exact qG x y
 | .str x, .non=>by simp [eqT,code]
 | .str x, .bl _=>by simp [eqT,code]
 | .str x, .int _=>by simp [eqT,code]
 | .str x, .tup _=>by simp [eqT,code]
 | .str x, .ls=>by simp [eqT,code]
 | .ls,u=>by cases u<;>simp [eqT,code]
 | .tup ts, .tup us=>by simp only [eqT,code,Co.tup.injEq];exact eqTs_code ts us
 | .tup ts, .non=>by simp [eqT,code]
 | .tup ts, .bl _=>by simp [eqT,code]
 | .tup ts, .int _=>by simp [eqT,code]
 | .tup ts, .str _=>by simp [eqT,code]
 | .tup ts, .ls=>by simp [eqT,code]
theorem eqTs_code:∀(ts us:List Tr),(eqTs ts us=true)↔codes ts=codes us
 | [],[]=>by simp [eqTs,codes]
 | [],u::us=>by simp [eqTs,codes]
 |t::ts,[]=>by simp [eqTs,codes]
 |t::ts,u::us=>by
  simp only [eqTs,codes,Bool.and_eq_true,List.cons.injEq]
  rw [cj t u,eqTs_code ts us]
end
mutual
def LtC:Co→Co→Prop
 | .num i, .num j=>i < j
 | .str l, .str m=>l < m
 | .tup cs, .tup ds=>LtCs cs ds
 |c,d=>c.kind < d.kind
def LtCs:List Co→List Co→Prop
 | [],[]=>False
 | [],_::_=>True
 |_::_,[]=>False
 |c::cs,d::ds=>LtC c d∨(c=d∧LtCs cs ds)
end
theorem jE {c d:Co} (h:LtC c d):c.kind≤d.kind:=by
 cases c<;>cases d<;>simp [LtC,Co.kind] at h ⊢
theorem jD {c d:Co} (h:c.kind < d.kind):LtC c d:=by
 cases c<;>cases d<;>simp [LtC,Co.kind] at h ⊢
mutual
theorem iU:∀c:Co,¬LtC c c
 | .non=>by simp [LtC,Co.kind]
 | .num _=>by simp [LtC]
 | .str l=>by simp only [LtC];exact List.lt_irrefl l
 | .tup cs=>by simp only [LtC];exact ltCs_irr cs
 | .ls=>by simp [LtC,Co.kind]
theorem ltCs_irr:∀cs:List Co,¬LtCs cs cs
 | []=>by simp [LtCs]
 |c::cs=>by
  simp only [LtCs,not_or]
  exact ⟨iU c,fun h=>ltCs_irr cs h.2⟩
end
mutual
theorem iT:∀c d:Co,LtC c d∨c=d∨LtC d c
 | .num i, .num j=>by simp only [LtC,Co.num.injEq];omega
 | .str l, .str m=>by
  simp only [LtC,Co.str.injEq]
  by_cases h1:l < m
  · exact .inl h1
  · by_cases h2:m < l
    · exact .inr (.inr h2)
    · exact .inr (.inl (List.le_antisymm (List.not_lt.mp h2) (List.not_lt.mp h1)))
 | .tup cs, .tup ds=>by simp only [LtC,Co.tup.injEq];exact ltCs_tri cs ds
 | .non,d=>by cases d<;>simp [LtC,Co.kind]
 | .ls,d=>by cases d<;>simp [LtC,Co.kind]
 | .num i, .non=>by simp [LtC,Co.kind]
 | .num i, .str _=>by simp [LtC,Co.kind]
 | .num i, .tup _=>by simp [LtC,Co.kind]
 | .num i, .ls=>by simp [LtC,Co.kind]
 | .str i, .non=>by simp [LtC,Co.kind]
 | .str i, .num _=>by simp [LtC,Co.kind]
 | .str i, .tup _=>by simp [LtC,Co.kind]
 | .str i, .ls=>by simp [LtC,Co.kind]
 | .tup i, .non=>by simp [LtC,Co.kind]
 | .tup i, .num _=>by simp [LtC,Co.kind]
 | .tup i, .str _=>by simp [LtC,Co.kind]
 | .tup i, .ls=>by simp [LtC,Co.kind]
theorem ltCs_tri:∀cs ds:List Co,LtCs cs ds∨cs=ds∨LtCs ds cs
 | [],[]=>by simp
 | [],d::ds=>by simp [LtCs]
 |c::cs,[]=>by simp [LtCs]
 |c::cs,d::ds=>by
  simp only [LtCs,List.cons.injEq]
  rcases iT c d with h|h|h
  · exact .inl (.inl h)
  · rcases ltCs_tri cs ds with g|g|g
    · exact .inl (.inr ⟨h,g⟩)
    · exact .inr (.inl ⟨h,g⟩)
    · exact .inr (.inr (.inr ⟨h.symm,g⟩))
  · exact .inr (.inr (.inl h))
end
theorem aA {a b c:Co} (h1:LtC a b) (h2:LtC b c) (hk:a.kind < b.kind∨b.kind < c.kind):LtC a c:=by
 have k1:=jE h1
 have k2:=jE h2
 exact jD (by omega)
mutual
theorem dh:∀ {a b c:Co},LtC a b→LtC b c→LtC a c
 | .num i, .num j, .num k,h1,h2=>by simp only [LtC] at *;omega
 | .str i, .str j, .str k,h1,h2=>by simp only [LtC] at *;exact List.lt_trans h1 h2
 | .tup i, .tup j, .tup k,h1,h2=>by simp only [LtC] at *;exact ltCs_trans h1 h2
 | .num _, .num _, .str _,h1,h2=>aA h1 h2 (by simp [LtC,Co.kind] at h1 h2 ⊢)
 | .num _, .num _, .tup _,h1,h2=>aA h1 h2 (by simp [LtC,Co.kind] at h1 h2 ⊢)
 | .num _, .num _, .non,h1,h2=>aA h1 h2 (by simp [LtC,Co.kind] at h1 h2 ⊢)
 | .num _, .num _, .ls,h1,h2=>aA h1 h2 (by simp [LtC,Co.kind] at h1 h2 ⊢)
 | .num _, .str _,_,h1,h2=>aA h1 h2 (by simp [LtC,Co.kind] at h1 h2 ⊢)
 | .num _, .tup _,_,h1,h2=>aA h1 h2 (by simp [LtC,Co.kind] at h1 h2 ⊢)
 | .num _, .non,_,h1,h2=>aA h1 h2 (by simp [LtC,Co.kind] at h1 h2 ⊢)
 | .num _, .ls,_,h1,h2=>aA h1 h2 (by simp [LtC,Co.kind] at h1 h2 ⊢)
 | .str _, .str _, .num _,h1,h2=>aA h1 h2 (by simp [LtC,Co.kind] at h1 h2 ⊢)
 | .str _, .str _, .tup _,h1,h2=>aA h1 h2 (by simp [LtC,Co.kind] at h1 h2 ⊢)
 | .str _, .str _, .non,h1,h2=>aA h1 h2 (by simp [LtC,Co.kind] at h1 h2 ⊢)
 | .str _, .str _, .ls,h1,h2=>aA h1 h2 (by simp [LtC,Co.kind] at h1 h2 ⊢)
 | .str _, .num _,_,h1,h2=>aA h1 h2 (by simp [LtC,Co.kind] at h1 h2 ⊢)
 | .str _, .tup _,_,h1,h2=>aA h1 h2 (by simp [LtC,Co.kind] at h1 h2 ⊢)
 | .str _, .non,_,h1,h2=>aA h1 h2 (by simp [LtC,Co.kind] at h1 h2 ⊢)
 | .str _, .ls,_,h1,h2=>aA h1 h2 (by simp [LtC,Co.kind] at h1 h2 ⊢)
 | .tup _, .tup _, .num _,h1,h2=>aA h1 h2 (by simp [LtC,Co.kind] at h1 h2 ⊢)
 | .tup _, .tup _, .str _,h1,h2=>aA h1 h2 (by simp [LtC,Co.kind] at h1 h2 ⊢)
 | .tup _, .tup _, .non,h1,h2=>aA h1 h2 (by simp [LtC,Co.kind] at h1 h2 ⊢)
 | .tup _, .tup _, .ls,h1,h2=>aA h1 h2 (by simp [LtC,Co.kind] at h1 h2 ⊢)
 | .tup _, .num _,_,h1,h2=>aA h1 h2 (by simp [LtC,Co.kind] at h1 h2 ⊢)
 | .tup _, .str _,_,h1,h2=>aA h1 h2 (by simp [LtC,Co.kind] at h1 h2 ⊢)
 | .tup _, .non,_,h1,h2=>aA h1 h2 (by simp [LtC,Co.kind] at h1 h2 ⊢)
 | .tup _, .ls,_,h1,h2=>aA h1 h2 (by simp [LtC,Co.kind] at h1 h2 ⊢)
 | .non,b,_,h1,h2=>aA h1 h2 (by cases b<;>simp [LtC,Co.kind] at h1 h2 ⊢)
 | .ls,b,_,h1,h2=>aA h1 h2 (by cases b<;>simp [LtC,Co.kind] at h1 h2 ⊢)
theorem ltCs_trans:∀ {a b c:List Co},LtCs a b→LtCs b c→LtCs a c
 | [],[],_,h1,_=>by simp [LtCs] at h1
 | [],_::_,[],_,h2=>by simp [LtCs] at h2
 | [],_::_,_::_,_,_=>by simp [LtCs]
 |_::_,[],_,h1,_=>by simp [LtCs] at h1
 |_::_,_::_,[],_,h2=>by simp [LtCs] at h2
 |x::a,y::b,z::c,h1,h2=>by
  simp only [LtCs] at*
  rcases h1 with h1|⟨e1,h1⟩
  · rcases h2 with h2|⟨e2,h2⟩
    · exact .inl (dh h1 h2)
    · exact .inl (e2▸h1)
  · rcases h2 with h2|⟨e2,h2⟩
    · exact .inl (e1▸h2)
    · exact .inr ⟨e1.trans e2,ltCs_trans h1 h2⟩
end
open Classical in
noncomputable def ltT (t u:Tr):Bool:=decide (LtC (code t) (code u))
open Classical in
theorem ltT_iff {t u:Tr}:(ltT t u=true)↔LtC (code t) (code u):=by
 unfold ltT
 exact decide_eq_true_iff
theorem fX {t u:Tr} (h:ltT t u=true):ltT u t=false:=by
 cases e:ltT u t with
 |false=>rfl
 |true=>exact absurd (dh (ltT_iff.mp h) (ltT_iff.mp e)) (iU _)
theorem u7 {a b c:Tr} (h1:ltT b a=false) (h2:ltT c b=false):ltT c a=false:=by
 cases e:ltT c a with
 |false=>rfl
 |true=>
  have n1:¬LtC (code b) (code a):=fun z=>by rw [ltT_iff.mpr z] at h1;cases h1
  have n2:¬LtC (code c) (code b):=fun z=>by rw [ltT_iff.mpr z] at h2;cases h2
  have l:=ltT_iff.mp e
  rcases iT (code a) (code b) with q|q|q
  · exact absurd (dh l q) n2
  · rw [q] at l
    exact absurd l n2
  · exact absurd q n1
theorem km {a b:Tr} (h1:ltT a b=false) (h2:ltT b a=false):eqT a b=true:=by
 rw [cj]
 rcases iT (code a) (code b) with q|q|q
 · rw [ltT_iff.mpr q] at h1
   cases h1
 · exact q
 · rw [ltT_iff.mpr q] at h2
   cases h2
open PySem PySem.Spec PyProof.Rows L2
mutual
def Cm:Tr→Tr→Prop
 | .bl _, .bl _=>True
 | .int _, .int _=>True
 | .str _, .str _=>True
 | .tup ts, .tup us=>Cms ts us
 |_,_=>False
def Cms:List Tr→List Tr→Prop
 |t::ts,u::us=>(eqT t u=true∧Cms ts us)∨(eqT t u=false∧Cm t u)
 | [],_=>True
 |_::_,[]=>True
end
noncomputable def qs:List Tr→List Tr→List (Bool×Bool)
 |t::ts,u::us=>(eqT t u,ltT t u)::qs ts us
 | [],_=> []
 |_::_,[]=> []
theorem iV:∀(ts us:List Tr),(lexV (decide (ts.length < us.length)) (qs ts us)=true)↔LtCs (codes ts) (codes us)
 | [],[]=>by simp [qs,lexV,codes,LtCs]
 | [],u::us=>by simp [qs,lexV,codes,LtCs]
 |t::ts,[]=>by simp [qs,lexV,codes,LtCs]
 |t::ts,u::us=>by
  have ih:=iV ts us
  have e:decide ((t::ts).length < (u::us).length)=decide (ts.length < us.length):=by simp
  rw [e]
  simp only [qs,lexV,codes,LtCs]
  by_cases h:eqT t u=true
  · rw [if_pos h,ih]
    have hc:=(cj t u).mp h
    rw [hc]
    constructor
    · intro z
      exact .inr ⟨rfl,z⟩
    · rintro (z|⟨_,z⟩)
      · exact absurd z (iU _)
      · exact z
  · rw [if_neg h]
    have hc:¬code t=code u:=fun z=>h ((cj t u).mpr z)
    constructor
    · intro z
      exact .inl (ltT_iff.mp z)
    · rintro (z|⟨z,_⟩)
      · exact ltT_iff.mpr z
      · exact absurd z hc
theorem bU {a b:Bool} (h:(a=true)↔(b=true)):a=b:=Bool.eq_iff_iff.mpr h
section
variable {X:Cx} {pins:List (Addr×Obj)} {σ:L2.St} {H:Hp} {s:Shared}
theorem ko (I:Inv X pins σ H s) {n:Nat} {A:Around} (hu:A.units+n+1 < cLine)
 (ih:∀ {t u:Tr} {v w:V} {a b:Value},t.depth≤n→(t.pure∨u.pure)→Cm t u→TrAt H v t→TrAt H w u→RelV v a→RelV w b→LtAt A s a b (ltT t u)):
 ∀ {ts us:List Tr} {vs ws:List V} {as bs:List Value},Trs.depth ts≤n→(Trs.pure ts∨Trs.pure us)→Cms ts us→TrsAt H vs ts→TrsAt H ws us→Vals vs as→Vals ws bs→cG A s as bs (qs ts us)
 | [],us,vs,ws,as,bs,hd,hp,hc,h1,h2,r1,r2=>by
  unfold TrsAt at h1
  subst h1
  cases r1
  cases us<;>simp [cG,qs]
 |t::ts,[],vs,ws,as,bs,hd,hp,hc,h1,h2,r1,r2=>by
  unfold TrsAt at h2
  subst h2
  cases r2
  obtain ⟨v,r,rfl,_,_⟩:=h1.inv
  cases r1
  simp [cG,qs]
 |t::ts,u::us,vs,ws,as,bs,hd,hp,hc,h1,h2,r1,r2=>by
  obtain ⟨v,r,rfl,g1,g2⟩:=h1.inv
  obtain ⟨v',r',rfl,g3,g4⟩:=h2.inv
  unfold Trs.depth at hd
  have hp1:t.pure∨u.pure:=by
   rcases hp with hp|hp<;>unfold Trs.pure at hp
   · exact .inl hp.1
   · exact .inr hp.1
  have hp2:Trs.pure ts∨Trs.pure us:=by
   rcases hp with hp|hp<;>unfold Trs.pure at hp
   · exact .inl hp.2
   · exact .inr hp.2
  cases r1 with
  |cons q1 q2=>
   cases r2 with
   |cons q3 q4=>
    simp only [cG,qs]
    refine ⟨iB I n (by omega) hp1 g1 g3 q1 q3 hu,fun e=> ?_,fun e=> ?_⟩
    · unfold Cms at hc
      rcases hc with ⟨e',_⟩|⟨_,hc⟩
      · rw [e] at e'
        cases e'
      · exact ih (by omega) hp1 hc g1 g3 q1 q3
    · unfold Cms at hc
      rcases hc with ⟨_,hc⟩|⟨e',_⟩
      · exact ko I hu ih (by omega) hp2 hc g2 g4 q2 q4
      · rw [e] at e'
        cases e'
theorem lu {A:Around} {t u:Tr} {v w:V} {a b:Value} (hd:∀ts,t≠ .tup ts) (hc:Cm t u) (h1:TrAt H v t) (h2:TrAt H w u) (r1:RelV v a) (r2:RelV w b):LtAt A s a b (ltT t u):=by
 cases t<;>cases u<;>unfold Cm at hc<;>first|exact hc.elim|skip
 · rename_i x y
   unfold TrAt at h1 h2
   subst h1 h2
   cases (show a=Value.bool x from r1)
   cases (show b=Value.bool y from r2)
   intro prog w' E Q h
   refine lt_bool ?_
   have e:decide (b2i x < b2i y)=ltT (.bl x) (.bl y):=by
    refine bU ?_
    rw [ltT_iff,decide_eq_true_iff]
    cases x<;>cases y<;>simp [code,LtC,b2i]
   rw [e]
   exact h
 · rename_i x y
   unfold TrAt at h1 h2
   subst h1 h2
   obtain ⟨t1,rfl⟩:=r1
   obtain ⟨t2,rfl⟩:=r2
   intro prog w' E Q h
   refine lt_int ?_
   have e:decide (x < y)=ltT (.int x) (.int y):=by
    refine bU ?_
    rw [ltT_iff,decide_eq_true_iff]
    simp [code,LtC]
   rw [e]
   exact h
 · rename_i x y
   unfold TrAt at h1 h2
   subst h1 h2
   obtain ⟨t1,rfl⟩:=r1
   obtain ⟨t2,rfl⟩:=r2
   intro prog w' E Q h
   refine lt_str ?_
   have e:decide (x.cps.toList < y.cps.toList)=ltT (.str x) (.str y):=by
    refine bU ?_
    rw [ltT_iff,decide_eq_true_iff]
    simp [code,LtC]
   rw [e]
   exact h
 · exact (hd _ rfl).elim
theorem qz (I:Inv X pins σ H s):∀(n:Nat) {A:Around} {t u:Tr} {v w:V} {a b:Value},t.depth≤n→(t.pure∨u.pure)→Cm t u→TrAt H v t→TrAt H w u→RelV v a→RelV w b→A.units+n+1 < cLine→LtAt A s a b (ltT t u):=by
 intro n
 induction n with
 |zero=>
  intro A t u v w a b hd hp hc h1 h2 r1 r2 hu
  refine lu (fun ts e=> ?_) hc h1 h2 r1 r2
  subst e
  simp [Tr.depth] at hd
 |succ n ih=>
  intro A t u v w a b hd hp hc h1 h2 r1 r2 hu
  cases t with
  |tup ts=>
   cases u<;>first|(unfold Cm at hc;exact hc.elim)|skip
   rename_i us
   unfold Cm at hc
   unfold TrAt at h1 h2
   obtain ⟨r0,vs0,rfl,g0,k0⟩:=h1
   obtain ⟨r,vs,rfl,g1,k1⟩:=h2
   cases r1
   cases r2
   obtain ⟨as,q0,p0,_⟩:=I.tuple (SqT.of g0)
   obtain ⟨bs,q1,p1,_⟩:=I.tuple (SqT.of g1)
   unfold Tr.depth at hd
   have hp':Trs.pure ts∨Trs.pure us:=by
    rcases hp with hp|hp<;>unfold Tr.pure at hp
    · exact .inl hp
    · exact .inr hp
   have hu1:A.in1.units+n+1 < cLine:=by show A.units+1+n+1 < cLine;omega
   have hx:=ko (A:=A.in1) I hu1 (fun d pp cc a1 a2 b1 b2=>ih d pp cc a1 a2 b1 b2 hu1) (by omega) hp' hc k0 k1 q0 q1
   have:=jW (A:=A) (show s.heap.IsTuple r0 as.toArray from p0) (show s.heap.IsTuple r bs.toArray from p1) (by omega) (by simpa using hx)
   have e:lexV (decide (as.toArray.size < bs.toArray.size)) (qs ts us)=ltT (.tup ts) (.tup us):=by
    have l0:=k0.len
    have l1:=k1.len
    have l2:=q0.length
    have l3:=q1.length
    have e2:decide (as.toArray.size < bs.toArray.size)=decide (ts.length < us.length):=by
     rw [List.size_toArray,List.size_toArray,←l2,←l3,l0,l1]
    rw [e2]
    refine bU ?_
    rw [iV,ltT_iff]
    simp [code,LtC]
   rw [←e]
   exact this
  |_=>exact lu (fun ts e=>by cases e) hc h1 h2 r1 r2
end
end Tre
namespace Srt
open PySem PySem.W PySem.Calls PyProof.Rows
theorem eX {α:Type} (d:α):∀(vs:List α),(List.range vs.length).map (fun i=>vs.getD i d)=vs
 | []=>rfl
 |v::vs=>by
  rw [List.length_cons,List.range_succ_eq_map,List.map_cons,List.map_map]
  have:=eX d vs
  simp only [Function.comp_def]
  show v::List.map (fun i=>vs.getD i d) (List.range vs.length)=v::vs
  rw [this]
theorem kX {α:Type}:∀(vs:List α),List.map (fun x=>x.snd) (vs.zip vs)=vs
 | []=>rfl
 |v::vs=>by
  rw [List.zip_cons_cons,List.map_cons,kX vs]
section
variable {prog:Program} {w:World} {A:Around} {E:Value→Shared→Prop} {s:Shared} {lt:Nat→Nat→Bool} {κ:SortKind}
def Stay (s:Shared) (a:Addr) (h':Heap):Prop:=∀b o,b≠a→s.heap.get? b=some o→h'.get? b=some o
theorem gM {a:Addr} {vs:List Value} {n:Nat} {P:PySem.Fin→Shared→Prop} (O:Ord lt) (ho:s.heap.get? a=some (seqObj "list" vs.toArray n)) (h64:vs.length < 64)
 (hkind:2≤vs.length→∀h',Stay s a h'→∀R:SortKind→Shared→Prop,R κ {s with heap:=h'}→wpAny (model prog w) A (keyKind' vs.toArray) R E {s with heap:=h'})
 (hask:∀h',Stay s a h'→∀i j (R:Bool→Shared→Prop),i < vs.length→j < vs.length→R (lt i j) {s with heap:=h'}→kas_ask prog w A κ vs i j R {s with heap:=h'})
 (h:∀p:Array Nat,Pm vs.length p→Up lt p vs.length→P (.done (.ret .none)) {s with heap:=sortedHeap s.heap a vs (List.toArray (p.toList.map fun i=>vs.getD i Value.none))}):
 wpAny (model prog w) A (Builtin.«list.sort» ⟨[.ref a],[]⟩) P E s:=by
 have ha:a < s.heap.objs.size:=Heap.lt_size ho
 rw [list_sort_plain]
 refine wpAny_bind (listItems_at ho rfl ?_)
 refine wpAny_bind (listUpdate_at ho rfl ?_ (by rw [List.size_toArray,sizeLine_eq];omega) (Nat.zero_le _))
 obtain ⟨e1,ho1⟩:∃e1,(s.heap.update a (Obj.mapSeq fun _=>(#[]:Array Value))).get? a=some (seqObj "list" #[] e1):=⟨_,get?_update_seq ho fun _=> #[]⟩
 refine wpAny_bind (seqEpoch_at ho1 rfl ?_)
 refine wpAny_bind (wpAny_newTuple ?_ (by show vs.length≤_;rw [sizeLine_eq];omega))
 refine wpAny_bind (wpAny_newList ?_ (Nat.zero_le _))
 refine wpAny_holding ?_
 have s1:=Heap.SameBut.update s.heap a (Obj.mapSeq fun _=>(#[]:Array Value))
 have st:Stay s a (((s.heap.update a (Obj.mapSeq fun _=>(#[]:Array Value))).push (seqObj "tuple" vs.toArray 0)).push (seqObj "list" #[] 0)):=fun b o hb e=>
  Heap.get?_push_of_some _ (Heap.get?_push_of_some _ ((s1.2 b hb).trans e))
 have ho6:(((s.heap.update a (Obj.mapSeq fun _=>(#[]:Array Value))).push (seqObj "tuple" vs.toArray 0)).push (seqObj "list" #[] 0)).get? a=some (seqObj "list" #[] e1):=Heap.get?_push_of_some _ (Heap.get?_push_of_some _ ho1)
 show wpAny (model prog w) A _ P E {s with heap:=((s.heap.update a (Obj.mapSeq fun _=>(#[]:Array Value))).push (seqObj "tuple" vs.toArray 0)).push (seqObj "list" #[] 0)}
 dsimp only
 have out:∀p:Array Nat,Pm vs.length p→(List.toArray (p.toList.map fun i=>vs.getD i Value.none)).size≤sizeLine:=fun p hp=>by
  rw [List.size_toArray,List.length_map,Array.length_toList,hp.size,sizeLine_eq]
  omega
 by_cases h2:vs.toArray.size < 2
 · rw [if_pos h2,if_pos h2]
   refine wpAny_bind (wpAny_pure ?_)
   rw [StateT.run_pure]
   refine wpAny_bind (wpAny_pure ?_)
   dsimp only
   refine wpAny_bind (seqEpoch_at ho6 rfl ?_)
   have h0:Pm vs.length (List.toArray (List.range vs.length)):=by
    unfold Pm
    simp
   have eo:(arrOf (SortSt.mk' general' (vs.toArray.zip vs.toArray) #[] 7 none)).map (·.2)=List.toArray ((List.toArray (List.range vs.length)).toList.map fun i=>vs.getD i Value.none):=by
    rw [List.toList_toArray,eX]
    show (vs.toArray.zip vs.toArray).map (·.2)=vs.toArray
    apply Array.toList_inj.mp
    simp
    exact kX vs
   rw [eo]
   refine wpAny_bind (listUpdate_at ho6 rfl ?_ (Nat.zero_le _) (Nat.le_succ_of_le (out _ h0)))
   simp only [bne_self_eq_false,Bool.false_eq_true,if_false]
   refine wpAny_pure (h _ h0 fun i j hij hj=> ?_)
   have hv:vs.length < 2:=by simpa using h2
   have:i=j:=by omega
   subst this
   exact O.refl _
 · rw [if_neg h2,if_neg h2]
   have h2':2≤vs.length:=by
    rw [List.size_toArray] at h2
    omega
   refine wpAny_bind (hkind h2' _ st _ ?_)
   have run:(kas_sort vs.length).kasWp (kas_ask prog w A κ vs) (fun p s'=>(Pm vs.length p∧Up lt p vs.length)∧s'= {s with heap:=((s.heap.update a (Obj.mapSeq fun _=>(#[]:Array Value))).push (seqObj "tuple" vs.toArray 0)).push (seqObj "list" #[] 0)})
    {s with heap:=((s.heap.update a (Obj.mapSeq fun _=>(#[]:Array Value))).push (seqObj "tuple" vs.toArray 0)).push (seqObj "list" #[] 0)}:=
    nK (lt:=lt) (N:=vs.length) (G:=fun s'=>s'= {s with heap:=((s.heap.update a (Obj.mapSeq fun _=>(#[]:Array Value))).push (seqObj "tuple" vs.toArray 0)).push (seqObj "list" #[] 0)})
     (fun i j R s' hi hj hg hR=>by subst hg;exact hask _ st i j R hi hj (hR _ rfl)) (fun p s' hp hg=>⟨hp,hg⟩) (tz O (by omega)) rfl
   refine wpAny_bind (wpAny_mono (kat_run (ks:=vs) (Q:=fun st' s'=>∃p:Array Nat,(Pm vs.length p∧Up lt p vs.length)∧arrOf st'=p.map (kas_item (vs.toArray.zip vs.toArray))∧failedOf st'=none∧s'= {s with heap:=((s.heap.update a (Obj.mapSeq fun _=>(#[]:Array Value))).push (seqObj "tuple" vs.toArray 0)).push (seqObj "list" #[] 0)})
    rfl h2' h64 (fun p st' s' a1 a2 a3 a4=>⟨p,a4.1,a2,a3,a4.2⟩) run) ?_ fun _ _ e=>e)
   rintro ⟨⟨⟩,st'⟩ s' ⟨p,hp,har,hf,rfl⟩
   dsimp only
   refine wpAny_bind (seqEpoch_at ho6 rfl ?_)
   rw [kat_snds rfl har]
   refine wpAny_bind (listUpdate_at ho6 rfl ?_ (Nat.zero_le _) (Nat.le_succ_of_le (out p hp.1)))
   rw [hf]
   simp only [bne_self_eq_false,Bool.false_eq_true,if_false]
   exact wpAny_pure (h p hp.1 hp.2)
theorem k7 {l:Addr} {vs:List Value} {Q:Value→Shared→Prop} (O:Ord lt) (hl:s.heap.IsList l vs.toArray) (h64:vs.length < 64)
 (hkind:2≤vs.length→∀h',(∀b o,s.heap.get? b=some o→h'.get? b=some o)→∀(E':Value→Shared→Prop) (R:SortKind→Shared→Prop),R κ {s with heap:=h'}→wpAny (model prog w) A.in1.in1 (keyKind' vs.toArray) R E' {s with heap:=h'})
 (hask:∀h',(∀b o,s.heap.get? b=some o→h'.get? b=some o)→∀i j (R:Bool→Shared→Prop),i < vs.length→j < vs.length→R (lt i j) {s with heap:=h'}→kas_ask prog w A.in1.in1 κ vs i j R {s with heap:=h'})
 (h:∀p:Array Nat,Pm vs.length p→Up lt p vs.length→Q (.ref (s.heap.objs.size+1)) {s with heap:=sortedAll s.heap vs (List.toArray (p.toList.map fun i=>vs.getD i Value.none))}):
 wpAny (model prog w) A (call (.builtin "sorted") [.ref l]) Q E s:=by
 refine Calls.call_function_entry kind_sorted plain_sorted entry_sorted (args_sorted1 _) ?_
 unfold Builtin.«sorted»
 refine wpAny_bind (m:=checkCount "sorted" 1 1 _) (wpAny_pure ?_)
 refine wpAny_bind (collect_list hl ?_ (by rw [sizeLine_eq];omega))
 refine wpAny_bind (wpAny_newList ?_ (by rw [sizeLine_eq];omega))
 have hsz:((s.heap.push (seqObj "list" #[] 0)).update s.heap.objs.size (Obj.mapSeq (· ++vs.toArray))).objs.size=s.heap.objs.size+1:=by
  rw [Heap.size_update,size_push']
 have hoL:(((s.heap.push (seqObj "list" #[] 0)).update s.heap.objs.size (Obj.mapSeq (· ++vs.toArray))).push (seqObj "list" vs.toArray 0)).get? (s.heap.objs.size+1)=some (seqObj "list" vs.toArray 0):=by
  rw [←hsz];exact Heap.get?_push_size _ rfl
 have keep:∀b o,s.heap.get? b=some o→(((s.heap.push (seqObj "list" #[] 0)).update s.heap.objs.size (Obj.mapSeq (· ++vs.toArray))).push (seqObj "list" vs.toArray 0)).get? b=some o∧b≠s.heap.objs.size+1:=fun b o q=>by
  have hlt:b < s.heap.objs.size:=Heap.lt_size q
  refine ⟨?_,Nat.ne_of_lt (Nat.lt_succ_of_lt hlt)⟩
  rw [Heap.get?_push_ne _ _ _ (by rw [hsz];exact Nat.ne_of_lt (Nat.lt_succ_of_lt hlt)),Heap.get?_update_ne _ _ _ _ (Nat.ne_of_lt hlt),Heap.get?_push_ne _ _ _ (Nat.ne_of_lt hlt)]
  exact q
 show wpAny _ _ _ _ _ {s with heap:=((s.heap.push (seqObj "list" #[] 0)).update s.heap.objs.size (Obj.mapSeq (· ++vs.toArray))).push (seqObj "list" vs.toArray 0)}
 rw [hsz]
 refine wpAny_bind (wpAny_holding (wpAny_call_entry slot_list_sort ⟨_,hoL,rfl⟩ entry_list_sort (gM (lt:=lt) (κ:=κ) O hoL h64 (fun h2 h' st R hR=>hkind h2 h' (fun b o e=>st b o (keep b o e).2 (keep b o e).1) _ R hR)
  (fun h' st i j R hi hj hR=>hask h' (fun b o e=>st b o (keep b o e).2 (keep b o e).1) i j R hi hj hR) fun p a1 a2=>⟨_,rfl,?_⟩) (args_list_sort _)))
 exact wpAny_pure ⟨_,rfl,h p a1 a2⟩
end
end Srt
namespace Tre
open PySem PySem.Spec PyProof.Rows L2 Srt
theorem ie {prog:Program} {w:World} {A:Around} {s:Shared} {fin:Bool} {Q:Bool→Shared→Prop}:∀ {as bs:List Value} {q:List (Bool×Bool)} {i:Nat},cG A s as bs q→Q (lexV fin q) s→PySem.W.KatLex prog w A false fin Q (as.zip bs) i s
 | [],_,q,i,h,hq=>by
  unfold cG at h
  subst h
  rw [List.zip_nil_left]
  exact PySem.W.kat_nil hq
 |_::_,[],q,i,h,hq=>by
  unfold cG at h
  subst h
  rw [List.zip_nil_right]
  exact PySem.W.kat_nil hq
 |a::as,b::bs,[],i,h,hq=>h.elim
 |a::as,b::bs,(e,l)::q,i,h,hq=>by
  obtain ⟨h1,h2,h3⟩:=h
  rw [List.zip_cons_cons]
  refine PySem.W.kat_cons (h1 prog w _ _ ?_)
  cases e with
  |true=>exact PySem.W.kat_yes (ie (h3 rfl) hq)
  |false=>
   refine PySem.W.kat_no ?_
   show wpAny _ _ (oneLt' false a b) _ _ _
   exact PySem.W.kat_one a b (h2 rfl prog w _ _ hq)
def Hd (t:Tr):Prop:=∃fs r,t= .tup (.tup fs::r)
theorem TrsAt.map {H:Hp} {vs:List V} {ts:List Tr} (h:TrsAt H vs ts):∀ {is:List Nat},(∀i∈is,i < ts.length)→TrsAt H (is.map fun i=>vs.getD i .non) (is.map fun i=>ts.getD i .non)
 | [],_=> .nil
 |i::is,hi=>by
  have h0:i < ts.length:=hi i List.mem_cons_self
  have hl:=h.len
  obtain ⟨v,e1,e2⟩:=h.get (i:=i) (t:=ts[i]) (List.getElem?_eq_getElem h0)
  have ev:vs.getD i .non=v:=by rw [List.getD_eq_getElem?_getD,e1];rfl
  have et:ts.getD i .non=ts[i]:=by rw [List.getD_eq_getElem?_getD,List.getElem?_eq_getElem h0];rfl
  rw [List.map_cons,List.map_cons,ev,et]
  exact .cons e2 (TrsAt.map h fun j m=>hi j (List.mem_cons_of_mem _ m))
theorem Vals.map {vs:List V} {as:List Value} (h:Vals vs as):∀ {is:List Nat},(∀i∈is,i < vs.length)→Vals (is.map fun i=>vs.getD i .non) (is.map fun i=>as.getD i Value.none)
 | [],_=> .nil
 |i::is,hi=>by
  have h0:i < vs.length:=hi i List.mem_cons_self
  obtain ⟨u,e1,e2⟩:=h.get (i:=i) (x:=vs[i]) (List.getElem?_eq_getElem h0)
  have ev:vs.getD i .non=vs[i]:=by rw [List.getD_eq_getElem?_getD,List.getElem?_eq_getElem h0];rfl
  have et:as.getD i Value.none=u:=by rw [List.getD_eq_getElem?_getD,e1];rfl
  rw [List.map_cons,List.map_cons,ev,et]
  exact .cons e2 (Vals.map h fun j m=>hi j (List.mem_cons_of_mem _ m))
section
variable {X:Cx} {pins:List (Addr×Obj)} {σ:L2.St} {H:Hp} {s:Shared}
theorem fk (I:Inv X pins σ H s) {r:Addr} {vs:List V} (h:H r=some (.tup vs)):∃(as:List Value) (o:Obj) (n:Nat),Vals vs as∧s.heap.get? r=some o∧o.cls= .type "tuple"∧o.data= .seq as.toArray n:=by
 obtain ⟨as,q,p,_⟩:=I.tuple (SqT.of h)
 obtain ⟨o,ho,hc,n,hd⟩:=(show s.heap.IsTuple r as.toArray from p)
 exact ⟨as,o,n,q,ho,hc,hd⟩
theorem gb (I:Inv X pins σ H s):∀ {vs:List V} {ts:List Tr} {as:List Value},TrsAt H vs ts→Vals vs as→(∀t∈ts,Hd t)→∃fs,PySem.W.KatTups s.heap as fs∧fs.length=as.length∧∀v∈fs,∃(r:Addr) (o:Obj),v= .ref r∧s.heap.get? r=some o∧o.cls= .type "tuple"
 |vs,[],as,h,r,_=>by
  unfold TrsAt at h
  subst h
  cases r
  exact ⟨[],PySem.W.KatTups.nil,rfl,fun v m=>by cases m⟩
 |vs,t::ts,as,h,r,hh=>by
  obtain ⟨v,vr,rfl,h1,h2⟩:=h.inv
  cases r with
  |cons q1 q2=>
   obtain ⟨fs,k1,k2,k3⟩:=gb I h2 q2 fun t m=>hh t (List.mem_cons_of_mem _ m)
   obtain ⟨gs,gr,rfl⟩:=hh t List.mem_cons_self
   unfold TrAt at h1
   obtain ⟨r0,vs0,rfl,g0,g1⟩:=h1
   cases q1
   obtain ⟨f,fr,rfl,h3,h4⟩:=g1.inv
   obtain ⟨as0,o,n,q3,ho,hc,hd⟩:=fk I g0
   cases q3 with
   |cons q5 q6=>
    unfold TrAt at h3
    obtain ⟨r1,vs1,rfl,g2,_⟩:=h3
    cases q5
    obtain ⟨_,o1,_,_,ho1,hc1,_⟩:=fk I g2
    refine ⟨.ref r1::fs,PySem.W.KatTups.cons ho hc hd (by simp) k1,by simp [k2],fun v m=> ?_⟩
    rcases List.mem_cons.mp m with rfl|m
    · exact ⟨r1,o1,rfl,ho1,hc1⟩
    · exact k3 v m
def qK:List V→Hp→VK→Prop:=fun xs H Q=>∃(l:Addr) (vs:List V) (ts:List Tr),xs= [.ref l]∧H l=some (.lst vs)∧TrsAt H vs ts∧ts.length < 64∧(∀t∈ts,Hd t∧t.pure∧t.depth≤40)∧(∀t∈ts,∀u∈ts,Cm t u)∧
 ∀(D:Addr) (ws:List V) (us:List Tr),H D=none→us.Perm ts→TrsAt H ws us→(∀(i j:Nat) (t u:Tr),i≤j→us[i]?=some t→us[j]?=some u→ltT u t=false)→Q (.ref D) (upd H D (.lst ws))
theorem cp (hu:X.A.units+60 < cLine):CallR X (.builtin "sorted") qK:=by
 intro pins s σ H xs us Q I r h
 obtain ⟨l,vs,ts,rfl,hl,hT,hlen,hts,hcm,q⟩:=h
 obtain ⟨u,rfl,ru⟩:=gY r
 cases ru
 obtain ⟨as,rv,pl,_⟩:=I.list (SqL.of hl)
 have l1:=hT.len
 have l2:=rv.length
 have O:Srt.Ord fun i j=>ltT (ts.getD i .non) (ts.getD j .non):=⟨fun a b h=>fX h,fun a b c h1 h2=>u7 h1 h2⟩
 have at_:∀i,i < as.length→∃t v a,ts.getD i .non=t∧t∈ts∧TrAt H v t∧RelV v a∧as.getD i Value.none=a:=fun i hi=>by
  have hi':i < ts.length:=by omega
  obtain ⟨v,e1,e2⟩:=hT.get (i:=i) (t:=ts[i]) (List.getElem?_eq_getElem hi')
  obtain ⟨a,e3,e4⟩:=rv.get e1
  exact ⟨ts[i],v,a,by rw [List.getD_eq_getElem?_getD,List.getElem?_eq_getElem hi'];rfl,List.getElem_mem hi',e2,e4,by rw [List.getD_eq_getElem?_getD,e3];rfl⟩
 refine k7 (κ:=tuples' false) O pl.isList (by omega) (fun h2 h' kp E' R hR=> ?_) (fun h' kp i j R hi hj hR=> ?_) fun p hp hup=> ?_
 · have I':Inv X pins σ H {s with heap:=h'}:=I.kept (t':=s.toks) kp
   obtain ⟨fs,k1,k2,k3⟩:=gb I' hT rv fun t m=>(hts t m).1
   refine PySem.W.kat_kind (T:=Value.type "tuple") k1 (by omega) (fun v m=> ?_) (by decide +kernel) ?_
   · obtain ⟨r,o,rfl,ho,hc⟩:=k3 v m
     have:PySem.W.Looks (model X.prog X.w) h' (typeOf (.ref r)) o.cls:=(PySem.W.Looks.ld ho).andThen .now
     rw [hc] at this
     exact this
   · rw [show (Value.type "tuple" !=Value.type "tuple")=false by decide +kernel]
     exact hR
 · have I':Inv X pins σ H {s with heap:=h'}:=I.kept (t':=s.toks) kp
   obtain ⟨t,v,a,et,mt,ht,ra,ea⟩:=at_ i hi
   obtain ⟨u,v',b,eu,mu,hu',rb,eb⟩:=at_ j hj
   have hc:=hcm t mt u mu
   obtain ⟨⟨f1,r1,rfl⟩,p1,d1⟩:=hts t mt
   obtain ⟨⟨f2,r2,rfl⟩,p2,d2⟩:=hts u mu
   unfold TrAt at ht hu'
   obtain ⟨x0,vs0,rfl,g0,g1⟩:=ht
   obtain ⟨y0,ws0,rfl,g2,g3⟩:=hu'
   cases ra
   cases rb
   obtain ⟨as0,o,n,q3,ho,hcl,hd⟩:=fk I' g0
   obtain ⟨bs0,o',n',q4,ho',hcl',hd'⟩:=fk I' g2
   unfold Tr.depth at d1
   unfold Tr.pure at p1
   unfold Cm at hc
   have hu1:X.A.in1.in1.units+40+1 < cLine:=by show X.A.units+1+1+40+1 < cLine;omega
   have hx:=ko (A:=X.A.in1.in1) I' hu1 (fun d pp cc a1 a2 b1 b2=>qz I' 40 d pp cc a1 a2 b1 b2 hu1) (by omega) (.inl p1) hc g1 g3 q3 q4
   unfold PySem.W.kas_ask
   rw [ea,eb]
   refine PySem.W.kat_lt (b:=false) ho hd ho' hd' ?_
   rw [List.toList_toArray,List.toList_toArray]
   refine ie hx ?_
   have e:lexV (decide (as0.toArray.size < bs0.toArray.size)) (qs (.tup f1::r1) (.tup f2::r2))=ltT (ts.getD i .non) (ts.getD j .non):=by
    have z0:=g1.len
    have z1:=g3.len
    have z2:=q3.length
    have z3:=q4.length
    have e2:decide (as0.toArray.size < bs0.toArray.size)=decide ((Tr.tup f1::r1).length < (Tr.tup f2::r2).length):=by
     rw [List.size_toArray,List.size_toArray,←z2,←z3,z0,z1]
    rw [e2,et,eu]
    refine bU ?_
    rw [iV,ltT_iff]
    simp [code,LtC]
   rw [e]
   exact hR
 · have hin:∀i∈p.toList,i < ts.length:=fun i m=>by
    have:=List.mem_range.mp (List.Perm.mem_iff hp |>.mp m)
    omega
   refine ⟨.ref (s.heap.objs.size+1),upd H (s.heap.objs.size+1) (.lst (p.toList.map fun i=>vs.getD i .non)),I.laid (t':=s.toks) (fun b o e=>sortedAll_old e) (Nat.le_succ _) ?_,rfl,?_⟩
   · obtain ⟨e,he⟩:=sortedAll_at s.heap as (List.toArray (p.toList.map fun i=>as.getD i Value.none))
     refine ⟨?_,p.toList.map fun i=>as.getD i Value.none,e,Vals.map rv fun i m=>by have:=hin i m;omega,he⟩
     rw [List.length_map,Array.length_toList,hp.size]
     have:(64:Nat)≤sizeLine:=by decide +kernel
     omega
   · refine q _ _ (p.toList.map fun i=>ts.getD i .non) (I.hok.fresh (Nat.le_succ _)) ?_ (TrsAt.map hT hin) fun i j t u hij e1 e2=> ?_
     · have:=List.Perm.map (fun i=>ts.getD i Tr.non) hp
       rw [show as.length=ts.length by omega,eX] at this
       exact this
     · rw [List.getElem?_map] at e1 e2
       obtain ⟨a,ea,rfl⟩:=Option.map_eq_some_iff.mp e1
       obtain ⟨b,eb,rfl⟩:=Option.map_eq_some_iff.mp e2
       have hj:j < as.length:=by
        have:=(List.getElem?_eq_some_iff.mp eb).1
        rw [Array.length_toList,hp.size] at this
        exact this
       have:=hup i j hij hj
       rw [cV,cV,←Array.getElem?_toList,←Array.getElem?_toList,ea,eb] at this
       exact this
end
open PySem L2
inductive So where
 |tm|fr|pr|ws|lt
abbrev s_ (x:String):Tr:= .str (Str.ofString x)
inductive Ty:So→Tr→Prop
 |nm (x:Str):Ty .tm (.tup [s_ "name", .str x])
 |ap (x:Str) (ts:List Tr):ts.length≤3→(∀t∈ts,Ty .tm t)→Ty .tm (.tup [s_ "call", .str x, .tup ts])
 |fr (a b:Int):Ty .fr (.tup [.int a, .int b])
 |pr (t f:Tr):Ty .tm t→Ty .fr f→Ty .pr (.tup [t,f])
 |fl (x:Str):Ty .ws (.tup [s_ "flag", .str x])
 |mo (ps:List Tr) (f:Tr):(∀p∈ps,Ty .pr p)→Ty .fr f→Ty .ws (.tup [s_ "most", .tup ps,f])
 |li (t u:Tr):Ty .tm t→Ty .tm u→Ty .ws (.tup [s_ "like",t,u])
 |no (w:Tr):Ty .ws w→Ty .ws (.tup [s_ "not",w])
 |bo (l:List Tr):(∀w∈l,Ty .ws w)→Ty .ws (.tup [s_ "both", .tup l])
 |ei (l:List Tr):(∀w∈l,Ty .ws w)→Ty .ws (.tup [s_ "either", .tup l])
 |lt (w:Tr) (b:Bool):Ty .ws w→Ty .lt (.tup [w, .bl b])
theorem aG {t u:Tr} {ts us:List Tr} (h1:eqT t u=false→Cm t u) (h2:Cms ts us):Cms (t::ts) (u::us):=by
 unfold Cms
 cases e:eqT t u with
 |true=>exact .inl ⟨rfl,h2⟩
 |false=>exact .inr ⟨rfl,h1 e⟩
theorem ux {t u:Tr} {ts us:List Tr} (h0:eqT t u=false) (h1:Cm t u):Cms (t::ts) (u::us):=by
 unfold Cms
 exact .inr ⟨h0,h1⟩
theorem bu {us:List Tr}:Cms [] us:=by
 cases us<;>simp [Cms]
theorem c5 (x y:Str):Cm (.str x) (.str y):=by simp [Cm]
theorem pS (x y:Int):Cm (.int x) (.int y):=by simp [Cm]
theorem vm (x y:Bool):Cm (.bl x) (.bl y):=by simp [Cm]
theorem gk {ts us:List Tr} (h:Cms ts us):Cm (.tup ts) (.tup us):=by
 unfold Cm
 exact h
theorem ft {ts us:List Tr} (h:∀t∈ts,∀u∈us,Cm t u):Cms ts us:=by
 induction ts generalizing us with
 |nil=>exact bu
 |cons t ts ih=>
  cases us with
  |nil=>simp [Cms]
  |cons u us=>exact aG (fun _=>h t List.mem_cons_self u List.mem_cons_self) (ih fun a ma b mb=>h a (List.mem_cons_of_mem _ ma) b (List.mem_cons_of_mem _ mb))
theorem l5:∀(n:Nat) {k:So} {t u:Tr},t.depth≤n→Ty k t→Ty k u→Cm t u:=by
 intro n
 induction n with
 |zero=>
  intro k t u hd h1 h2
  cases h1<;>simp [Tr.depth] at hd
 |succ n ih=>
  intro k t u hd h1 h2
  have sub:∀ {ts:List Tr} {t:Tr},(Tr.tup ts).depth≤n+1→t∈ts→t.depth≤n:=fun h m=>by
   unfold Tr.depth at h
   have:=aQ m
   omega
  have sub2:∀ {ts l:List Tr} {t:Tr},(Tr.tup ts).depth≤n+1→Tr.tup l∈ts→t∈l→t.depth≤n:=fun h m m2=>by
   have h3:=sub h m
   unfold Tr.depth at h3
   have:=aQ m2
   omega
  cases h1<;>cases h2<;>refine gk ?_
  all_goals first
   |exact ux (by decide +kernel) (c5 _ _)
   |skip
  · exact aG (fun _=>c5 _ _) (aG (fun _=>c5 _ _) bu)
  · rename_i x ts _ h1 y us _ h2
    exact aG (fun _=>c5 _ _) (aG (fun _=>c5 _ _) (aG (fun _=>gk (ft fun a ma b mb=>ih (sub2 hd (by simp) ma) (h1 a ma) (h2 b mb))) bu))
  · exact aG (fun _=>pS _ _) (aG (fun _=>pS _ _) bu)
  · rename_i t1 f1 a1 b1 t2 f2 a2 b2
    exact aG (fun _=>ih (sub hd (by simp)) a1 a2) (aG (fun _=>ih (sub hd (by simp)) b1 b2) bu)
  · exact aG (fun _=>c5 _ _) (aG (fun _=>c5 _ _) bu)
  · rename_i p1 f1 a1 b1 p2 f2 a2 b2
    exact aG (fun _=>c5 _ _) (aG (fun _=>gk (ft fun a ma b mb=>ih (sub2 hd (by simp) ma) (a1 a ma) (a2 b mb))) (aG (fun _=>ih (sub hd (by simp)) b1 b2) bu))
  · rename_i t1 u1 a1 b1 t2 u2 a2 b2
    exact aG (fun _=>c5 _ _) (aG (fun _=>ih (sub hd (by simp)) a1 a2) (aG (fun _=>ih (sub hd (by simp)) b1 b2) bu))
  · rename_i w1 a1 w2 a2
    exact aG (fun _=>c5 _ _) (aG (fun _=>ih (sub hd (by simp)) a1 a2) bu)
  · rename_i l1 a1 l2 a2
    exact aG (fun _=>c5 _ _) (aG (fun _=>gk (ft fun a ma b mb=>ih (sub2 hd (by simp) ma) (a1 a ma) (a2 b mb))) bu)
  · rename_i l1 a1 l2 a2
    exact aG (fun _=>c5 _ _) (aG (fun _=>gk (ft fun a ma b mb=>ih (sub2 hd (by simp) ma) (a1 a ma) (a2 b mb))) bu)
  · rename_i w1 b1 a1 w2 b2 a2
    exact aG (fun _=>ih (sub hd (by simp)) a1 a2) (aG (fun _=>vm _ _) bu)
theorem cS {ts:List Tr} (h:∀t∈ts,t.pure):Trs.pure ts:=by
 induction ts with
 |nil=>unfold Trs.pure;trivial
 |cons t ts ih=>
  unfold Trs.pure
  exact ⟨h t List.mem_cons_self,ih fun u m=>h u (List.mem_cons_of_mem _ m)⟩
theorem c8 {k:So} {t:Tr} (h:Ty k t):t.pure:=by
 induction h with
 |nm x=>simp [Tr.pure,Trs.pure]
 |ap x ts _ _ ih=>simp only [Tr.pure,Trs.pure];exact ⟨trivial,trivial,cS ih,trivial⟩
 |fr a b=>simp [Tr.pure,Trs.pure]
 |pr t f _ _ h1 h2=>simp only [Tr.pure,Trs.pure];exact ⟨h1,h2,trivial⟩
 |fl x=>simp [Tr.pure,Trs.pure]
 |mo ps f _ _ h1 h2=>simp only [Tr.pure,Trs.pure];exact ⟨trivial,cS h1,h2,trivial⟩
 |li t u _ _ h1 h2=>simp only [Tr.pure,Trs.pure];exact ⟨trivial,h1,h2,trivial⟩
 |no w _ h1=>simp only [Tr.pure,Trs.pure];exact ⟨trivial,h1,trivial⟩
 |bo l _ h1=>simp only [Tr.pure,Trs.pure];exact ⟨trivial,cS h1,trivial⟩
 |ei l _ h1=>simp only [Tr.pure,Trs.pure];exact ⟨trivial,cS h1,trivial⟩
 |lt w b _ h1=>simp only [Tr.pure,Trs.pure];exact ⟨h1,trivial,trivial⟩
theorem kZ {t:Tr} (h:Ty .lt t∨Ty .pr t):Hd t:=by
 rcases h with h|h
 · cases h with
   |lt w b hw=>cases hw<;>exact ⟨_,_,rfl⟩
 · cases h with
   |pr t f ht hf=>cases ht<;>exact ⟨_,_,rfl⟩
end Tre
namespace Mth
theorem pk (a b:Int):Int.gcd b (a.fmod b)=Int.gcd a b:=by
 have e:a.fmod b=a - b*a.fdiv b:=Int.fmod_def a b
 rw [e,Int.gcd_comm a b]
 have:a - b*a.fdiv b=a+b*(-(a.fdiv b)):=by rw [Int.mul_neg,Int.sub_eq_add_neg]
 rw [this]
 exact Int.gcd_add_mul_left_right ..
theorem rK {a b:Int} (h:b≠0):(a.fmod b).natAbs < b.natAbs:=by
 by_cases hb:0 < b
 · have h1:=Int.fmod_nonneg_of_pos a hb
   have h2:=Int.fmod_lt_of_pos a hb
   omega
 · have h3:0 < -b:=by omega
   have e:a.fmod b= -((-a).fmod (-b)):=by
    rw [Int.neg_fmod_neg,Int.neg_neg]
   have h1:=Int.fmod_nonneg_of_pos (-a) h3
   have h2:=Int.fmod_lt_of_pos (-a) h3
   omega
noncomputable def dv (t b:Int):Int:=if b < 0 then -(Int.gcd t b:Int) else (Int.gcd t b:Int)
noncomputable def fx (t b:Int):Int:=t.fdiv (dv t b)
noncomputable def fy (t b:Int):Int:=b.fdiv (dv t b)
theorem pF {t b:Int} (h:b≠0):dv t b≠0:=by
 have:0 < Int.gcd t b:=Int.gcd_pos_of_ne_zero_right t h
 unfold dv
 split<;>omega
theorem pG {t b:Int}:(dv t b).natAbs=Int.gcd t b:=by
 unfold dv
 split<;>omega
theorem uo {t b:Int}:dv t b∣t∧dv t b∣b:=by
 have h1:((Int.gcd t b:Nat):Int)∣t:=Int.gcd_dvd_left ..
 have h2:((Int.gcd t b:Nat):Int)∣b:=Int.gcd_dvd_right ..
 unfold dv
 split
 · exact ⟨Int.neg_dvd.mpr h1,Int.neg_dvd.mpr h2⟩
 · exact ⟨h1,h2⟩
theorem sw {t b:Int} (h:b≠0):t=dv t b*fx t b∧b=dv t b*fy t b:=by
 obtain ⟨⟨x,hx⟩,⟨y,hy⟩⟩:=uo (t:=t) (b:=b)
 have n:=pF (t:=t) h
 have e1:fx t b=x:=by
  unfold fx
  generalize dv t b=d at*
  rw [hx]
  exact Int.mul_fdiv_cancel_left _ n
 have e2:fy t b=y:=by
  unfold fy
  generalize dv t b=d at*
  rw [hy]
  exact Int.mul_fdiv_cancel_left _ n
 rw [e1,e2]
 exact ⟨hx,hy⟩
theorem uj {t b:Int} (h:b≠0):1≤fy t b:=by
 obtain ⟨_,e⟩:=sw (t:=t) h
 have g:0 < Int.gcd t b:=Int.gcd_pos_of_ne_zero_right t h
 have n:=pF (t:=t) h
 by_cases q:1≤fy t b
 · exact q
 · exfalso
   have q':fy t b≤0:=by omega
   have d:(b < 0→dv t b < 0)∧(¬b < 0→0 < dv t b):=by
    unfold dv
    constructor
    · intro z;rw [if_pos z];omega
    · intro z;rw [if_neg z];omega
   by_cases z:b < 0
   · have:=Int.mul_nonneg_of_nonpos_of_nonpos (Int.le_of_lt (d.1 z)) q'
     omega
   · have:=Int.mul_nonpos_of_nonneg_of_nonpos (Int.le_of_lt (d.2 z)) q'
     omega
theorem u9 {t b:Int} (h:b≠0):Int.gcd (fx t b) (fy t b)=1:=by
 obtain ⟨e1,e2⟩:=sw (t:=t) h
 have g:0 < Int.gcd t b:=Int.gcd_pos_of_ne_zero_right t h
 have e:Int.gcd t b=(dv t b).natAbs*Int.gcd (fx t b) (fy t b):=by
  have:Int.gcd t b=Int.gcd (dv t b*fx t b) (dv t b*fy t b):=by rw [←e1,←e2]
  rw [this,Int.gcd_mul_left]
 rw [pG] at e
 have:=Nat.eq_of_mul_eq_mul_left g (show Int.gcd t b*1=Int.gcd t b*Int.gcd (fx t b) (fy t b) by rw [←e,Nat.mul_one])
 exact this.symm
def dw (x y:Int):Prop:=0 < y∧Int.gcd x y=1
theorem eC {x y z:Int} (h1:Int.gcd x y=1) (h2:Int.gcd x z=1):Int.gcd x (y*z)=1:=by
 show Nat.gcd x.natAbs (y*z).natAbs=1
 rw [Int.natAbs_mul]
 exact Nat.Coprime.mul_right h1 h2
theorem gh {x y z:Int} (h1:Int.gcd y x=1) (h2:Int.gcd z x=1):Int.gcd (y*z) x=1:=by
 rw [Int.gcd_comm]
 exact eC (by rw [Int.gcd_comm];exact h1) (by rw [Int.gcd_comm];exact h2)
theorem pP {x x' y:Int} (h:Int.gcd (x'*x) y=1):Int.gcd x' y=1:=by
 have e:Nat.gcd (x'*x).natAbs y.natAbs=1:=h
 rw [Int.natAbs_mul] at e
 exact Nat.Coprime.coprime_mul_right e
theorem cF {x x' y:Int} (h:Int.gcd (x*x') y=1):Int.gcd x' y=1:=by
 rw [Int.mul_comm] at h
 exact pP h
theorem dj {x y y':Int} (h:Int.gcd x (y*y')=1):Int.gcd x y'=1:=by
 rw [Int.gcd_comm] at h ⊢
 exact cF h
theorem cY {x y:Int} (h:y≠0):∃x' y':Int,x=(Int.gcd x y:Int)*x'∧y=(Int.gcd x y:Int)*y'∧Int.gcd x' y'=1∧x / (Int.gcd x y:Int)=x'∧y / (Int.gcd x y:Int)=y':=by
 have g:0 < Int.gcd x y:=Int.gcd_pos_of_ne_zero_right x h
 obtain ⟨x',hx⟩:((Int.gcd x y:Nat):Int)∣x:=Int.gcd_dvd_left ..
 obtain ⟨y',hy⟩:((Int.gcd x y:Nat):Int)∣y:=Int.gcd_dvd_right ..
 have n:((Int.gcd x y:Nat):Int)≠0:=by omega
 refine ⟨x',y',hx,hy,?_,?_,?_⟩
 · have e:Int.gcd x y=Int.gcd x y*Int.gcd x' y':=by
    have:Int.gcd x y=Int.gcd ((Int.gcd x y:Int)*x') ((Int.gcd x y:Int)*y'):=by rw [←hx,←hy]
    rw [Int.gcd_mul_left,Int.natAbs_natCast] at this
    exact this
   have:=Nat.eq_of_mul_eq_mul_left g (show Int.gcd x y*1=Int.gcd x y*Int.gcd x' y' by rw [←e,Nat.mul_one])
   exact this.symm
 · generalize ((Int.gcd x y:Nat):Int)=k at*
   rw [hx]
   exact Int.mul_ediv_cancel_left _ n
 · generalize ((Int.gcd x y:Nat):Int)=k at*
   rw [hy]
   exact Int.mul_ediv_cancel_left _ n
theorem cg {k x:Int} (hk:0≤k) (h:0 < k*x):0 < x:=by
 by_cases q:0 < x
 · exact q
 · have:=Int.mul_nonpos_of_nonneg_of_nonpos hk (show x≤0 by omega)
   omega
noncomputable def pT (a b c d:Int):Int:=a*(d / (Int.gcd b d:Int))+c*(b / (Int.gcd b d:Int))
noncomputable def pE (a b c d:Int):Int:=(Int.gcd (pT a b c d) (Int.gcd b d:Int):Int)
noncomputable def pX (a b c d:Int):Int:=pT a b c d / pE a b c d
noncomputable def pY (a b c d:Int):Int:=b / (Int.gcd b d:Int)*(d / pE a b c d)
theorem lG {a b c d:Int} (h1:dw a b) (h2:dw c d):dw (pX a b c d) (pY a b c d)∧pX a b c d*(b*d)=(a*d+c*b)*pY a b c d:=by
 obtain ⟨b0,g1⟩:=h1
 obtain ⟨d0,g2⟩:=h2
 obtain ⟨b',d',eb,ed,g3,qb,qd⟩:=cY (x:=b) (y:=d) (by omega)
 have s0:(0:Int) < (Int.gcd b d:Int):=by
  have:0 < Int.gcd b d:=Int.gcd_pos_of_ne_zero_right b (by omega)
  omega
 have eT:pT a b c d=a*d'+c*b':=by unfold pT;rw [qb,qd]
 unfold pX pY
 have eE:pE a b c d=(Int.gcd (a*d'+c*b') (Int.gcd b d:Int):Int):=by unfold pE;rw [eT]
 rw [eE,eT,qb]
 generalize ((Int.gcd b d:Nat):Int)=s at*
 obtain ⟨t',s',et,es,g4,qt,qs⟩:=cY (x:=a*d'+c*b') (y:=s) (by omega)
 have e0:(0:Int) < (Int.gcd (a*d'+c*b') s:Int):=by
  have:0 < Int.gcd (a*d'+c*b') s:=Int.gcd_pos_of_ne_zero_right _ (by omega)
  omega
 have b0':0 < b':=cg (k:=s) (by omega) (by omega)
 have d0':0 < d':=cg (k:=s) (by omega) (by omega)
 have cT1:Int.gcd (a*d'+c*b') b'=1:=by
  have:Int.gcd (a*d'+c*b') b'=Int.gcd (a*d') b':=by
   rw [Int.gcd_comm,Int.gcd_comm (a*d')]
   have e:a*d'+c*b'=a*d'+b'*c:=by rw [Int.mul_comm c b']
   rw [e]
   exact Int.gcd_add_mul_left_right ..
  rw [this]
  refine gh ?_ (by rw [Int.gcd_comm];exact g3)
  rw [eb] at g1
  exact dj g1
 have cT2:Int.gcd (a*d'+c*b') d'=1:=by
  have:Int.gcd (a*d'+c*b') d'=Int.gcd (c*b') d':=by
   rw [Int.gcd_comm,Int.gcd_comm (c*b')]
   have e:a*d'+c*b'=c*b'+d'*a:=by rw [Int.mul_comm a d',Int.add_comm]
   rw [e]
   exact Int.gcd_add_mul_left_right ..
  rw [this]
  refine gh ?_ g3
  rw [ed] at g2
  exact dj g2
 rw [qt]
 generalize ((Int.gcd (a*d'+c*b') s:Nat):Int)=e at*
 have s0':0 < s':=cg (k:=e) (by omega) (by omega)
 have qd2:d / e=d'*s':=by
  rw [ed,es,Int.mul_assoc,Int.mul_ediv_cancel_left _ (by omega),Int.mul_comm]
 rw [qd2]
 generalize ht:a*d'+c*b'=t at*
 refine ⟨⟨Int.mul_pos b0' (Int.mul_pos d0' s0'),?_⟩,?_⟩
 · rw [et] at cT1 cT2
   exact eC (cF cT1) (eC (cF cT2) g4)
 · have e1:a*d+c*b=s*t:=by
    rw [ed,eb,←ht,Int.mul_add]
    simp only [Int.mul_left_comm]
   rw [e1,et,eb,ed]
   have e2:s*(e*t')*(b'*(d'*s'))=s*t'*b'*d'*(e*s'):=by
    simp only [Int.mul_assoc,Int.mul_left_comm,Int.mul_comm]
   rw [e2,←es]
   simp only [Int.mul_assoc,Int.mul_left_comm,Int.mul_comm]
noncomputable def tX (a b c d:Int):Int:=a / (Int.gcd a d:Int)*(c / (Int.gcd c b:Int))
noncomputable def tY (a b c d:Int):Int:=b / (Int.gcd c b:Int)*(d / (Int.gcd a d:Int))
theorem jj {a b c d:Int} (h1:dw a b) (h2:dw c d):dw (tX a b c d) (tY a b c d)∧tX a b c d*(b*d)=a*c*tY a b c d:=by
 obtain ⟨b0,g1⟩:=h1
 obtain ⟨d0,g2⟩:=h2
 obtain ⟨a',d',ea,ed,g3,qa,qd⟩:=cY (x:=a) (y:=d) (by omega)
 obtain ⟨c',b',ec,eb,g4,qc,qb⟩:=cY (x:=c) (y:=b) (by omega)
 have f0:(0:Int)≤(Int.gcd a d:Int):=by omega
 have k0:(0:Int)≤(Int.gcd c b:Int):=by omega
 unfold tX tY
 rw [qa,qd,qc,qb]
 generalize ((Int.gcd a d:Nat):Int)=f at*
 generalize ((Int.gcd c b:Nat):Int)=k at*
 have b0':0 < b':=cg k0 (by omega)
 have d0':0 < d':=cg f0 (by omega)
 subst ea ed ec eb
 have h1:Int.gcd a' b'=1:=cF (dj g1)
 have h2:Int.gcd c' d'=1:=cF (dj g2)
 refine ⟨⟨Int.mul_pos b0' d0',gh (eC h1 g3) (eC g4 h2)⟩,?_⟩
 simp only [Int.mul_assoc,Int.mul_left_comm,Int.mul_comm]
theorem gg {t b:Int} (h:b≠0):dw (fx t b) (fy t b):=⟨by have:=uj (t:=t) h;omega,u9 h⟩
theorem fq (a b:Int):(a / b).natAbs≤a.natAbs:=Int.natAbs_ediv_le_natAbs a b
end Mth
namespace L2
section
open PySem
variable {prog:Program} {w:World} {A:Around} {R:Result→Shared→Prop} {s:Shared}
theorem gi {elt target iter:Expr} {ifs:List Expr} {scope:Scope} {pos:Pos} {it acc:Value} {env:Env} (I:Nat→Shared→Prop)
 (turn:∀n s,I n s→wpAny (model prog w) A (pyNext it) (fun r s₁=>match r with
  |none=>R (.ok .next) s₁
  |some v=>wpAny (model prog w) A (letOwnedTupleGo target it v) (fun _ s₁'=>wpAny (model prog w) A (assign target env v) (fun _ s₂=>
   wpAny (model prog w) A (forIn ifs true fun c r=>if r=true then do let ok←isTrue c env (eval c env);pure (ForInStep.yield ok) else pure (ForInStep.yield r)) (fun ok s₃=>
    if ok=true then wpAny (model prog w) A (eval elt env) (fun x s₄=>
     wpAny (model prog w) A (call (.builtin "list.append") [acc,x]) (fun _ s₅=>∃m,m < n∧I m s₅) (fun _ _=>False) s₄) (fun _ _=>False) s₃
    else∃m,m < n∧I m s₃) (fun _ _=>False) s₂) (fun _ _=>False) s₁') (fun _ _=>False) s₁) (fun _ _=>False) s)
 (n:Nat) (h:I n s):codeAny (model prog w) A (.compLoop (.ListComp elt [⟨target,iter,ifs,0⟩] scope pos) 0 it acc env) R s:=by
 refine codeAny_loop rfl I (fun n s hI=> ?_) n h
 show wpAny _ A ((compTurn (.ListComp elt [⟨target,iter,ifs,0⟩] scope pos) 0 it acc env).onRaise (fun x=>do noteFrame x env;theTreesLotGoes x)) _ _ s
 refine wpAny_noted ?_
 rw [compTurn_list]
 refine wpAny_bind (wpAny_standAt (wpAny_bind (wpAny_mono (turn n s hI) (fun r s₁ h₁=> ?_) fun _ _ z=>z.elim)))
 cases r with
 |none=>exact wpAny_pure h₁
 |some v=>
  refine wpAny_bind (wpAny_mono h₁ (fun _ s₁' h₁'=> ?_) fun _ _ z=>z.elim)
  refine wpAny_bind (wpAny_mono h₁' (fun _ s₂ h₂=>wpAny_bind (wpAny_mono h₂ (fun ok s₃ h₃=> ?_) fun _ _ z=>z.elim)) fun _ _ z=>z.elim)
  cases ok with
  |false=>exact wpAny_pure ⟨rfl,h₃⟩
  |true=>
   exact wpAny_bind (wpAny_bind (wpAny_mono h₃ (fun x s₄ h₄=>wpAny_bind (wpAny_mono h₄ (fun _ s₅ h₅=>wpAny_pure (wpAny_pure ⟨rfl,h₅⟩)) fun _ _ z=>z.elim)) fun _ _ z=>z.elim))
noncomputable def ck (names:List (Str×NameKind)) (cells:List (Str×Addr)):List (Str×Addr)→List (Str×Addr):=match names with
 | []=>fun cs=>cs
 |(n,k)::r=>fun cs=>ck r cells (if (k== .free)=true then (n,(cells.lookup n).getD 0)::cs else cs)
noncomputable def bQ (names:List (Str×NameKind)) (cells:List (Str×Addr)):Bool:=names.all fun y=> !(y.2== .free) ||(cells.lookup y.1).isSome
theorem j6 (env:Env):∀(names:List (Str×NameKind)) (cs:List (Str×Addr)),bQ names env.cells=true→
 (forIn names cs fun (x:Str×NameKind) (r:List (Str×Addr))=>match x with
  |(name,kind)=>if (kind==NameKind.free)=true then do let __do_lift←cellOf env name;pure (ForInStep.yield ((name,__do_lift)::r)) else pure (ForInStep.yield r):Sem (List (Str×Addr)))=pure (ck names env.cells cs)
 | [],cs,_=>rfl
 |(n,k)::r,cs,h=>by
  unfold bQ at h
  rw [List.all_cons,Bool.and_eq_true] at h
  rw [List.forIn_cons]
  unfold ck
  by_cases hk:(k==NameKind.free)=true
  · rw [if_pos hk]
    dsimp only
    rw [if_pos hk]
    have h1:(env.cells.lookup n).isSome=true:=by
     have:=h.1
     rw [hk] at this
     simpa using this
    obtain ⟨c,hc⟩:=Option.isSome_iff_exists.mp h1
    have e:cellOf env n=pure c:=by unfold cellOf;rw [hc]
    rw [e,hc]
    exact j6 env r _ h.2
  · rw [if_neg hk]
    dsimp only
    rw [if_neg hk]
    exact j6 env r _ h.2
theorem lY {scope:Scope} {env:Env} (h:bQ scope.names env.cells=true):closureFor scope env=pure (ck scope.names env.cells []):=by
 unfold closureFor
 have:=j6 env scope.names [] h
 simp only [bind_pure]
 exact this
theorem jO {cells:List (Str×Addr)}:∀(names:List (Str×NameKind)) (cs:List (Str×Addr)),bQ names cells=true→(∀y c,cs.lookup y=some c→cells.lookup y=some c)→∀y c,(ck names cells cs).lookup y=some c→cells.lookup y=some c
 | [],cs,_,hc,y,c,e=>hc y c e
 |(n,k)::r,cs,h,hc,y,c,e=>by
  unfold bQ at h
  rw [List.all_cons,Bool.and_eq_true] at h
  refine jO r _ h.2 (fun z d q=> ?_) y c e
  by_cases hk:(k==NameKind.free)=true
  · rw [if_pos hk,List.lookup_cons] at q
    cases zn:(z==n) with
    |true=>
     rw [zn] at q
     have h1:(cells.lookup n).isSome=true:=by
      have:=h.1
      rw [hk] at this
      simpa using this
     obtain ⟨c',hc'⟩:=Option.isSome_iff_exists.mp h1
     have zn':z=n:=by simpa using zn
     rw [zn',hc']
     have q':some ((cells.lookup n).getD 0)=some d:=q
     rw [hc'] at q'
     exact q'
    |false=>
     rw [zn] at q
     exact hc z d q
  · rw [if_neg hk] at q
    exact hc z d q
theorem im {cells:List (Str×Addr)}:∀(names:List (Str×NameKind)) (cs:List (Str×Addr)) (y:Str),(∃c,cs.lookup y=some c)→∃c,(ck names cells cs).lookup y=some c
 | [],cs,y,h=>h
 |(n,k)::r,cs,y,h=>by
  refine im r _ y ?_
  by_cases hk:(k==NameKind.free)=true
  · rw [if_pos hk,List.lookup_cons]
    cases zn:(y==n) with
    |true=>exact ⟨_,rfl⟩
    |false=>exact h
  · rw [if_neg hk]
    exact h
theorem gn {cells:List (Str×Addr)}:∀(names:List (Str×NameKind)) (cs:List (Str×Addr)) (y:Str),(y,NameKind.free)∈names→∃c,(ck names cells cs).lookup y=some c
 | [],_,y,h=>by cases h
 |(n,k)::r,cs,y,h=>by
  rcases List.mem_cons.mp h with e|h
  · obtain ⟨e1,e2⟩:=Prod.mk.inj e
    subst e1
    subst e2
    unfold ck
    refine im r _ y ?_
    rw [if_pos (show (NameKind.free==NameKind.free)=true from rfl),List.lookup_cons]
    have:(y==y)=true:=by simp
    rw [this]
    exact ⟨_,rfl⟩
  · exact gn r _ y h
end
open PySem PySem.Spec PyProof.Rows
noncomputable abbrev XC (X:Cx) (scope:Scope) (NC:List Str) (C:Addr) (s:Shared) (H:Hp) (fp:List Addr) (pn:List (Addr×Obj)):Cx:=
 {X with N:=NC,s₀:=s,H₀:=H,env:=compEnvC scope (ck scope.names X.env.cells []) C X.env,outer:=X.stack,stack:=X.stack,ex:=fp,fn:=fun _=>false,pn:=pn,xe:=fun _ _=>False}
noncomputable def subS (mp:List (Option Nat)) (σ:St):St:=mp.map fun o=>match o with
 |some i=>(σ[i]?).getD none
 |none=>none
noncomputable def jz (N NC:List Str) (mp:List (Option Nat)) (names outer:List (Str×NameKind)):Bool:=(List.range mp.length).all fun j=>match mp[j]? with
 |some (some i)=>(match NC[j]?,N[i]? with
  |some y,some z=>y==z&&names.lookup y==some NameKind.free&& (outer.lookup y==some NameKind.cell ||outer.lookup y==some NameKind.free)
  |_,_=>false)
 |_=>true
theorem oS {N NC:List Str} {mp:List (Option Nat)} {names outer:List (Str×NameKind)} (h:jz N NC mp names outer=true) {j i:Nat} (e:mp[j]?=some (some i)):∃y,NC[j]?=some y∧N[i]?=some y∧names.lookup y=some .free∧(outer.lookup y=some .cell∨outer.lookup y=some .free):=by
 unfold jz at h
 rw [List.all_eq_true] at h
 have hj:j < mp.length:=(List.getElem?_eq_some_iff.mp e).1
 have:=h j (List.mem_range.mpr hj)
 rw [e] at this
 dsimp only at this
 split at this
 · rename_i y z e1 e2
   simp only [Bool.and_eq_true,Bool.or_eq_true,beq_iff_eq] at this
   obtain ⟨⟨rfl,h2⟩,h3⟩:=this
   exact ⟨y,e1,e2,h2,h3⟩
 · cases this
def PTs (X:Cx) (ifs:List Expr) (t:TT):Prop:=
 ∀(pins:List (Addr×Obj)) (s:Shared) (σ:St) (H:Hp) (Q:Bool→Hp→Prop),Inv X pins σ H s→t σ H Q→
  wpAny (model X.prog X.w) X.A (forIn ifs true fun c r=>if r=true then do let ok←isTrue c X.env (eval c X.env);pure (ForInStep.yield ok) else pure (ForInStep.yield r)) (TP X pins σ Q) X.xe s
def cH:TT:=fun _ H Q=>Q true H
theorem bK {X:Cx}:PTs X [] cH:=fun _ _ σ H Q I h=>wpAny_tests_nil ⟨H,I,h⟩
theorem qM {X:Cx} {c:Expr} {t:TT} (hc:PT X c t):PTs X [c] t:=fun pins s σ H Q I h=>wpAny_tests_one (hc pins s σ H Q I h)
def Ext (σ σ':St):Prop:=∀(j:Nat) (v:V),σ[j]?=some (some v)→σ'[j]?=some (some v)
theorem Ext.refl (σ:St):Ext σ σ:=fun _ _ e=>e
theorem ext1 {o:Option V} {r:St}:Ext (none::r) (o::r)
 |0,v,e=>by cases (Option.some.inj (show some (none:Option V)=some (some v) from e))
 |j+1,v,e=>e
theorem ext2 {o p:Option V} {r:St}:Ext (none::none::r) (o::p::r)
 |0,v,e=>by cases (Option.some.inj (show some (none:Option V)=some (some v) from e))
 |1,v,e=>by cases (Option.some.inj (show some (none:Option V)=some (some v) from e))
 |j+2,v,e=>e
def cP (mp:List (Option Nat)) (wi:TI) (g:TG) (tc:TT) (te:TE):TE:=fun σ H Q=>wi σ H fun J H1=>∀D,H1 D=none→
 ∃W:Nat→Nat→List V→Hp→Prop,(∃m,W 0 m [] (upd H1 D (.lst [])))∧∀i m acc H2,W i m acc H2→
  (J.stop i H2∧Q (.ref D) H2)∨
  (J.go i H2∧∀x H3,J.yld i H2 x H3→g x (subS mp σ) H3 fun σ4 H4=>Ext (subS mp σ) σ4∧tc σ4 H4 fun b H5=>if b=true then te σ4 H5 fun v H6=>H6 D=some (.lst acc)∧acc.length < sizeLine∧∃m',m' < m∧W (i+1) m' (acc++ [v]) (upd H6 D (.lst (acc++ [v])))
   else∃m',m' < m∧W (i+1) m' acc H5)
open PySem PySem.Spec PyProof.Rows
theorem c7 {env:Env}:∀ {names:List (Str×NameKind)} {x:Str},names.lookup x=some .free→
 (names.map fun (n,k)=>if (k==NameKind.free&&env.scope.kind== .function&&env.kindOf n==some .cell) then (n,NameKind.cell) else (n,k)).lookup x=some .cell∨
 (names.map fun (n,k)=>if (k==NameKind.free&&env.scope.kind== .function&&env.kindOf n==some .cell) then (n,NameKind.cell) else (n,k)).lookup x=some .free
 | [],_,h=>by simp at h
 |(n,k)::r,x,h=>by
  have ih:= @c7 env r x
  show List.lookup x ((if (k==NameKind.free&&env.scope.kind== .function&&env.kindOf n==some .cell)=true then (n,NameKind.cell) else (n,k))::_)=_∨List.lookup x ((if (k==NameKind.free&&env.scope.kind== .function&&env.kindOf n==some .cell)=true then (n,NameKind.cell) else (n,k))::_)=_
  cases hx:x==n with
  |true=>
   simp only [List.lookup_cons,hx] at h
   cases h
   by_cases hc:(NameKind.free==NameKind.free&&env.scope.kind== .function&&env.kindOf n==some .cell)=true
   · rw [if_pos hc]
     left
     simp only [List.lookup_cons,hx]
   · rw [if_neg hc]
     right
     simp only [List.lookup_cons,hx]
  |false=>
   simp only [List.lookup_cons,hx] at h
   by_cases hc:(k==NameKind.free&&env.scope.kind== .function&&env.kindOf n==some .cell)=true
   · rw [if_pos hc]
     simp only [List.lookup_cons,hx]
     exact ih h
   · rw [if_neg hc]
     simp only [List.lookup_cons,hx]
     exact ih h
theorem fb {env:Env}:∀ {names:List (Str×NameKind)} {x:Str},(∀y∈names,y.2≠ .cell)→
 ((names.map fun (n,k)=>if (k==NameKind.free&&env.scope.kind== .function&&env.kindOf n==some .cell) then (n,NameKind.cell) else (n,k)).lookup x=some .cell∨
 (names.map fun (n,k)=>if (k==NameKind.free&&env.scope.kind== .function&&env.kindOf n==some .cell) then (n,NameKind.cell) else (n,k)).lookup x=some .free)→(x,NameKind.free)∈names
 | [],_,_,h=>by simp at h
 |(n,k)::r,x,hn,h=>by
  have ih:= @fb env r x (fun y hy=>hn y (List.mem_cons_of_mem _ hy))
  have nk:k≠ .cell:=hn (n,k) List.mem_cons_self
  rw [List.map_cons] at h
  dsimp only at h
  cases hx:x==n with
  |true=>
   have xn:x=n:=by simpa using hx
   subst xn
   by_cases hc:(k==NameKind.free&&env.scope.kind== .function&&env.kindOf x==some .cell)=true
   · have:k= .free:=by
      have:=hc
      rw [Bool.and_eq_true,Bool.and_eq_true] at this
      simpa using this.1.1
     rw [this]
     exact List.mem_cons_self
   · rw [if_neg hc,List.lookup_cons,hx] at h
     rcases h with h|h
     · exact absurd (Option.some.inj h) nk
     · cases (Option.some.inj h)
       exact List.mem_cons_self
  |false=>
   refine List.mem_cons_of_mem _ (ih ?_)
   by_cases hc:(k==NameKind.free&&env.scope.kind== .function&&env.kindOf n==some .cell)=true
   · rw [if_pos hc,List.lookup_cons,hx] at h
     exact h
   · rw [if_neg hc,List.lookup_cons,hx] at h
     exact h
section
variable {X:Cx} {pins:List (Addr×Obj)} {σ:St} {H:Hp} {s:Shared}
theorem Inv.block {scope:Scope} {NC:List Str} {mp:List (Option Nat)} {fp:List Addr} {h1:Heap} {tk:Nat} {m:Str→Option Value} (I:Inv X pins σ H s) (hf:∀b∈fp,FpOk X pins H b) (hlt:∀b∈fp,b < s.heap.objs.size) (hk:scope.kind= .function) (hnc:∀y∈scope.names,y.2≠ .cell)
 (hc:bQ scope.names X.env.cells=true) (hl:mp.length=NC.length) (hm:jz X.N NC mp scope.names X.env.scope.names=true) (kp:∀b o,s.heap.get? b=some o→h1.get? b=some o) (hn:h1.Ns s.heap.objs.size m):
 Inv (XC X scope NC s.heap.objs.size s H fp (X.pn++pins)) [] (subS mp σ) H {s with heap:=h1,toks:=tk}:=by
 have sub:=jO (cells:=X.env.cells) scope.names [] hc (fun y c e=>by cases e)
 have lt:∀b o,s.heap.get? b=some o→b≠s.heap.objs.size:=fun b o e=>Nat.ne_of_lt (Heap.lt_size e)
 have nst:∀b,b≠X.env.locals→b∉X.fs→b∉frs X.stack:=fun b h1 h2 z=>by
  rcases List.mem_cons.mp (I.stkSub b z) with e|e
  · exact h1 e
  · exact h2 e
 refine ⟨⟨I.ok.mod,hk,I.ok.glob,I.ok.blt,Nat.le_refl _,fun x y c e1 e2=>I.ok.inj x y c (sub x c e1) (sub y c e2),fun x hx=> ?_,(fun _ _ z=>by cases z),I.ok.hd,I.ok.frames, .inl rfl,fun b hb=> ?_,fun b o e=> ?_,Nat.le_trans I.ok.bsz I.sz,fun b o e hb=> ?_,fun b hb=> ?_,I.stack,I.stkFree⟩,
  rfl,I.bare,Un.kept kp,⟨m,hn,fun j y v e1 e2 e3=> ?_⟩,fun y c e=> ?_,I.hok.fresh (Nat.le_refl _),fun y c e=>I.freeC y c (sub y c e),fun p hp=> ?_,I.hok.kept kp,?_⟩
 · exact gn scope.names [] x (fb hnc hx)
 · obtain ⟨f0,f1,f2,f3,f4,f5⟩:=hf b hb
   exact ⟨Nat.ne_of_lt (hlt b hb),fun x c e=>f4 x c (sub x c e)⟩
 · obtain ⟨h1,h2⟩:=I.bs b o e
   exact ⟨h1,h2⟩
 · obtain ⟨f0,f1,f2,f3,f4,f5⟩:=hf b hb
   rcases f3 with z|z
   · exact I.ok.noex b o e z
   · exact absurd (Nat.lt_of_lt_of_le (Heap.lt_size e) (Nat.le_trans I.ok.bsz z)) (Nat.lt_irrefl _)
 · obtain ⟨f0,f1,f2,f3,f4,f5⟩:=hf b hb
   exact nst b f1 f2
 ·
  unfold subS at e2
  rw [List.getElem?_map] at e2
  cases q:mp[j]? with
  |none=>rw [q] at e2;cases e2
  |some o=>
   rw [q] at e2
   cases o with
   |none=>cases e2
   |some i=>
    have e2':some ((σ[i]?).getD none)=some (some v):=e2
    obtain ⟨z,y1,y2,y3,y4⟩:=oS hm q
    have yz:y=z:=Option.some.inj ((show NC[j]?=some y from e1).symm.trans y1)
    subst yz
    have e4:σ[i]?=some (some v):=by
     cases w:σ[i]? with
     |none=>rw [w] at e2';cases e2'
     |some t=>rw [w] at e2';exact e2'
    obtain ⟨m0,hn0,hl0⟩:=I.loc
    obtain ⟨c,hcl⟩:=gn (cells:=X.env.cells) scope.names [] y (PySem.mem_of_lookup y3)
    have hcx:=sub y c hcl
    have vis:Vis X.env.scope y:= .inr y4
    obtain ⟨u,ru,lk⟩:=hl0 i y v y2 e4 vis
    refine ⟨u,ru, .inr ⟨c7 y3,c,hcl,?_⟩⟩
    rcases lk with ⟨k1,_⟩|⟨_,c',k2,k3⟩
    · have k1':X.env.scope.names.lookup y=some .local:=k1
      rcases y4 with y4|y4<;>(rw [y4] at k1';cases k1')
    · rw [hcx] at k2
      cases k2
      obtain ⟨oc,q1,q2⟩:=k3
      exact ⟨oc,kp _ _ q1,q2⟩
 · obtain ⟨v,oc,q1,q2⟩:=I.cell y c (sub y c e)
   exact ⟨v,oc,kp _ _ q1,q2⟩
 · have hp':p∈X.pn++pins:=by simpa using hp
   obtain ⟨q1,q2,q3,q4,q5⟩:=I.pin p hp'
   exact ⟨kp _ _ q1,q2,lt _ _ q1,nst _ q3 q4,q5⟩
 · show (subS mp σ).length=NC.length
   unfold subS
   rw [List.length_map,hl]
variable {elt target iter:Expr} {ifs:List Expr} {scope:Scope} {NC:List Str} {mp:List (Option Nat)} {pos:Pos} {wi:TI} {g:TG} {tc:TT} {te:TE}
theorem c9 (hcalm:X.calm=true) (hi:PI X target iter wi) (hg:∀C s H fp pn,PG (XC X scope NC C s H fp pn) target g) (ht:∀C s H fp pn,PTs (XC X scope NC C s H fp pn) ifs tc) (he:∀C s H fp pn,PE (XC X scope NC C s H fp pn) elt te)
 (hl:mp.length=NC.length:=by rfl) (hm:jz X.N NC mp scope.names X.env.scope.names=true:=by rfl) (hc:bQ scope.names X.env.cells=true:=by rfl) (hk:scope.kind= .function:=by rfl)
 (hnc:∀y∈scope.names,y.2≠ .cell:=by decide +kernel) (hnm:∀y∈scope.names,y.2= .local→scope.names.lookup y.1=some .local:=by decide +kernel) (hs:∀x,foldedSetIterable iter X.env x=pure x:=by intro _;rfl):
 PE X (.ListComp elt [⟨target,iter,ifs,0⟩] scope pos) (cP mp wi g tc te):=by
 intro pins s σ H Q I h
 rw [eval_ListComp]
 refine wpAny_comprehension_free (use:=none) rfl hs (lY hc) hk hnm (thn (hi pins s σ H _ I h) fun v s1 h1=>thn h1 fun itv s2 h2=> ?_)
 obtain ⟨it,fp,tn,J,H2,e,I2,T,st2,f2,W⟩:=h2
 subst e
 refine wpAny_newObj_type ?_ (by show 0≤sizeLine;decide)
 have nD:H2 s2.heap.objs.size=none:=I2.hok.fresh (Nat.le_refl _)
 have I3:Inv X pins σ (upd H2 s2.heap.objs.size (.lst [])) {s2 with heap:=s2.heap.push {cls:= .type "list",data:= .seq ([]:List Value).toArray}}:=
  I2.laid (t':=s2.toks) (fun b u e=>Heap.get?_push_of_some _ e) (Nat.le_refl _) ⟨by show 0≤sizeLine;decide,[],0, .nil,Heap.get?_push_size _ rfl⟩
 obtain ⟨W,⟨m0,w0⟩,turn⟩:=W _ nD
 have lt2:∀b∈fp,b < s2.heap.objs.size:=fun b hb=>by
  obtain ⟨o,e,_⟩:=T.obj 0 _ st2 b hb
  exact Heap.lt_size e
 have nDf:∀b∈fp,b≠s2.heap.objs.size:=fun b hb=>Nat.ne_of_lt (lt2 b hb)
 have f3:∀b∈fp,FpOk X pins (upd H2 s2.heap.objs.size (.lst [])) b:=fun b hb=>by
  obtain ⟨g0,g1⟩:=f2 b hb
  exact ⟨by rw [ai (nDf b hb)];exact g0,g1⟩
 have st3:tn 0 (s2.heap.push {cls:= .type "list",data:= .seq ([]:List Value).toArray}):=T.keep 0 _ _ st2 fun b _ o e=>Heap.get?_push_of_some _ e
 have lt3:∀b∈fp,b < (s2.heap.push {cls:= .type "list",data:= .seq ([]:List Value).toArray}).objs.size:=fun b hb=>by
  rw [Heap.size_push]
  exact Nat.lt_succ_of_lt (lt2 b hb)
 generalize hD:s2.heap.objs.size=D at*
 generalize hs3:({s2 with heap:=s2.heap.push {cls:= .type "list",data:= .seq ([]:List Value).toArray}}:Shared)=s3 at*
 have hh3:s3.heap=s2.heap.push {cls:= .type "list",data:= .seq ([]:List Value).toArray}:=by rw [←hs3]
 rw [←hh3] at st3 lt3
 generalize hH3:upd H2 D (.lst [])=H3 at*
 refine wpAny_newFunctionEnv (around:=some X.env) hnc (by intro y hy;cases hy) (fun h4 hn4 hsb4=> ?_) hk
 have kp4:∀b o,s3.heap.get? b=some o→h4.get? b=some o:=fun b o e=>hsb4.extBut b o (Nat.ne_of_lt (Heap.lt_size e)) (Heap.get?_push_of_some _ e)
 have I4:=I3.block (tk:=s3.toks+([]:List (Str×Value)).length) f3 lt3 hk hnc hc hl hm kp4 hn4
 have st4:tn 0 h4:=T.keep 0 _ _ st3 fun b _ o e=>kp4 b o e
 have fin:∀(s5:Shared) (σ5:St) (H5:Hp),Inv (XC X scope NC s3.heap.objs.size s3 H3 fp (X.pn++pins)) [] σ5 H5 s5→Q (.ref D) H5→compPost (model X.prog X.w) X.A X.xe none (EP X pins σ Q) (.ref D) s3.heap.objs.size (.ok .next) s5:=by
  intro s5 σ5 H5 I5 q5
  obtain ⟨m5,hn5,_⟩:=id I5.loc
  refine ⟨m5,hn5,fun h6 sb6=>⟨.ref D,H5,?_,rfl,q5⟩⟩
  have kp6:∀b o,b≠s3.heap.objs.size→s5.heap.get? b=some o→h6.get? b=some o:=fun b o hb e=>sb6.extBut b o hb e
  have nC:∀b o,s3.heap.get? b=some o→b≠s3.heap.objs.size:=fun b o e=>Nat.ne_of_lt (Heap.lt_size e)
  have un:Un (frs X.stack) fp H3 H5 s3.heap s5.heap:=I5.base
  have hfree:H5 s3.heap.objs.size=none:=I5.free
  refine I3.call' (s':= {s5 with heap:=h6}) (ch:=fp) I5.os ⟨fun b o e n hb hx=>kp6 b o (nC b o e) (un.keep b o e n hb hx),fun b o e n hb hx=> ?_,un.free,fun b o e hx=> ?_,un.tups,un.frzs,un.tbls⟩ ?_ I5.bare (fun b hb=> ?_)
  · obtain ⟨sl,e1⟩:=un.slot b o e n hb hx
    exact ⟨sl,kp6 b _ (nC b o e) e1⟩
  · obtain ⟨o',e1⟩:=un.there b o e hx
    exact ⟨o',kp6 b o' (nC b o e) e1⟩
  · intro b o e
    have nb:b≠s3.heap.objs.size:=fun z=>by rw [z,hfree] at e;cases e
    refine (I5.hok b o e).stay (fun c v hc' r=>kp6 c v ?_ r) (fun _ r=>r) fun _ _ r=>r
    rcases hc' with z|z
    · rw [z];exact nb
    · intro y
      rw [y,hfree] at z
      cases z
  · obtain ⟨g0,g1,g2,g3,g4,g5⟩:=f3 b hb
    exact ⟨g3,g1,g4,g5⟩
 have loop:codeAny (model X.prog X.w) X.A (.compLoop (.ListComp elt [⟨target,iter,ifs,0⟩] scope pos) 0 (.ref it) (.ref D) (compEnvC scope (ck scope.names X.env.cells []) s3.heap.objs.size X.env)) (compPost (model X.prog X.w) X.A X.xe none (EP X pins σ Q) (.ref D) s3.heap.objs.size)
  {s3 with heap:=h4,toks:=s3.toks+([]:List (Str×Value)).length}:=by
  refine gi (fun n s'=>∃i acc σ' H',Inv (XC X scope NC s3.heap.objs.size s3 H3 fp (X.pn++pins)) [] σ' H' s'∧Ext (subS mp σ) σ'∧tn i s'.heap∧(∀b∈fp,H' b=none)∧W i n acc H') ?_ m0
   ⟨0,[],subS mp σ,H3,I4,fun _ _ e=>e,st4,fun b hb=>(f3 b hb).1,w0⟩
  rintro n s5 ⟨i,acc,σ5,H5,I5,hσ,st5,fr5,w5⟩
  have I5':Inv (XC X scope NC s3.heap.objs.size s3 H3 fp (X.pn++pins)) [] (subS mp σ) H5 s5:=I5.weak (by rw [I5.len];unfold subS;rw [List.length_map];exact hl) hσ
  have fpk:∀ {H':Hp},(∀b∈fp,H' b=none)→∀b∈fp,FpOk (XC X scope NC s3.heap.objs.size s3 H3 fp (X.pn++pins)) [] H' b:=fun hn b hb=>by
   obtain ⟨g0,g1,g2,g3,g4,g5⟩:=f3 b hb
   refine ⟨hn b hb,Nat.ne_of_lt (lt3 b hb),?_, .inl hb,(I4.ok.exf b hb).2,fun p hp=>g5 p (by simpa using hp)⟩
   exact I4.ok.exfs b hb
  rcases turn i n acc H5 w5 with ⟨stop,q⟩|⟨go,step⟩
  · refine thn (T.done (XC X scope NC s3.heap.objs.size s3 H3 fp (X.pn++pins)) rfl rfl rfl hcalm i [] s5 _ H5 (fun _ _=>False) I5' (fpk fr5) st5 stop) fun r s6 ⟨hr,I6⟩=> ?_
    subst hr
    exact fin s6 _ H5 I6 q
  · refine thn (T.item (XC X scope NC s3.heap.objs.size s3 H3 fp (X.pn++pins)) rfl rfl rfl hcalm i [] s5 _ H5 (fun _ _=>False) I5' (fpk fr5) st5 go) fun r s6 ⟨u,hr,h6⟩=> ?_
    subst hr
    refine thn h6 fun _ s7 ⟨x,H7,I7,r7,y7,st7,fr7⟩=> ?_
    have I7':=I7.pinned (fpk fr7) (T.obj _ _ st7)
    refine thn (hg _ _ _ _ _ _ s7 _ H7 x u _ I7' r7 (step x H7 y7)) fun _ s8 ⟨σ8,H8,I8,ext8,q8⟩=> ?_
    refine thn (ht _ _ _ _ _ _ s8 σ8 H8 _ I8 q8) fun ok s9 ⟨H9,I9,q9⟩=> ?_
    have again:∀ {σ':St} {H':Hp} {s':Shared} {acc':List V} {m':Nat},Inv (XC X scope NC s3.heap.objs.size s3 H3 fp (X.pn++pins)) ([]++eY fp s7.heap) σ' H' s'→Ext (subS mp σ) σ'→m' < n→W (i+1) m' acc' H'→
     ∃m,m < n∧∃i acc σ' H',Inv (XC X scope NC s3.heap.objs.size s3 H3 fp (X.pn++pins)) [] σ' H' s'∧Ext (subS mp σ) σ'∧tn i s'.heap∧(∀b∈fp,H' b=none)∧W i m acc H':=by
     intro σ' H' s' acc' m' I' hσ' hm' w'
     refine ⟨m',hm',i+1,acc',σ',H',I'.unpinned,hσ',T.keep _ _ _ st7 fun b hb o e=>(I'.pin (b,o) (List.mem_append_right _ (List.mem_append_right _ (bG hb e)))).1,fun b hb=> ?_,w'⟩
     obtain ⟨o,e,d⟩:=T.obj _ _ st7 b hb
     exact (I'.pin (b,o) (List.mem_append_right _ (List.mem_append_right _ (bG hb e)))).2.1
    cases ok with
    |false=>
     rw [if_neg Bool.false_ne_true] at q9
     rw [if_neg Bool.false_ne_true]
     obtain ⟨m',hm',w'⟩:=q9
     exact again I9 ext8 hm' w'
    |true=>
     rw [if_pos rfl] at q9
     rw [if_pos rfl]
     refine thn (he _ _ _ _ _ _ s9 σ8 H9 _ I9 q9) fun v s10 ⟨y,H10,I10,r10,hD10,hz,m',hm',w'⟩=> ?_
     refine thn (cC (X:=XC X scope NC s3.heap.objs.size s3 H3 fp (X.pn++pins)) _ s10 σ8 H10 (.ref D) [y] (.ref D) [v] (fun _ H'=>H'=upd H10 D (.lst (acc++ [y]))) I10 rfl (.cons r10 .nil) ⟨D,acc,y,rfl,rfl,hD10,hz,rfl⟩) fun _ s11 ⟨_,H11,I11,_,e11⟩=> ?_
     subst e11
     exact again I11 ext8 hm' w'
 exact codeAny_compStart_list loop (T.self _ 0 _ _ _ st4 loop)
end
open PySem PySem.Spec PyProof.Rows
section
variable {X:Cx} {pins:List (Addr×Obj)} {σ:St} {H:Hp} {s:Shared}
theorem m4 {h h':Heap} {a b:Addr} {m:Str→Option Value} (hn:h.Ns a m) (sb:Heap.SameBut b h h') (ne:a≠b):h'.Ns a m:=by
 obtain ⟨o,es,ep,ho,r⟩:=hn
 exact ⟨o,es,ep,(sb.2 a ne).trans ho,r⟩
variable {elt target iter:Expr} {ifs:List Expr} {scope:Scope} {NC:List Str} {mp:List (Option Nat)} {pos spos:Pos} {wi:TI} {g:TG} {tc:TT} {te:TE} {i:Nat} {x:Str} {px:Pos}
theorem lD (hcalm:X.calm=true) (hN:X.N.Nodup) (hix:X.N[i]?=some x) (hx:X.env.scope.names.lookup x=some .local) (hsw:swapsWith (.ListComp elt [⟨target,iter,ifs,0⟩] scope pos) (some (.Name x px)) spos.line X.env=pure true)
 (hi:PI X target iter wi) (hg:∀C s H fp pn,PG (XC X scope NC C s H fp pn) target g) (ht:∀C s H fp pn,PTs (XC X scope NC C s H fp pn) ifs tc) (he:∀C s H fp pn,PE (XC X scope NC C s H fp pn) elt te)
 (hl:mp.length=NC.length:=by rfl) (hm:jz X.N NC mp scope.names X.env.scope.names=true:=by rfl) (hc:bQ scope.names X.env.cells=true:=by rfl) (hk:scope.kind= .function:=by rfl)
 (hnc:∀y∈scope.names,y.2≠ .cell:=by decide +kernel) (hnm:∀y∈scope.names,y.2= .local→scope.names.lookup y.1=some .local:=by decide +kernel) (hs:∀x,foldedSetIterable iter X.env x=pure x:=by intro _;rfl):
 PS X (.Assign [.Name x px] (.ListComp elt [⟨target,iter,ifs,0⟩] scope pos) spos) (tAsg (cP mp wi g tc te) (aV i)):=by
 intro pins s σ H Z I h
 rw [exec_Assign_Name_used _ _ _ _ hsw]
 refine wpAny_bind (wpAny_standAt (wpAny_bind ?_))
 show wpAny _ _ (do let _←comprehension (.ListComp elt [⟨target,iter,ifs,0⟩] scope pos) scope X.env _ (newList []) false (eval iter X.env) (some (assign (.Name x px) X.env))) _ _ s
 refine wpAny_bind (wpAny_mono (wpAny_comprehension_free (use:=some (assign (.Name x px) X.env)) (Q:=fun _ s'=>SP X pins Z .next s') (E:=X.xe) rfl hs (lY hc) hk hnm
  (thn (hi pins s σ H _ I h) fun v s1 h1=>thn h1 fun itv s2 h2=> ?_)) (fun _ s' q=>wpAny_pure (wpAny_pure q)) fun _ _ e=>e)
 obtain ⟨it,fp,tn,J,H2,e,I2,T,st2,f2,W⟩:=h2
 subst e
 refine wpAny_newObj_type ?_ (by show 0≤sizeLine;decide)
 have nD:H2 s2.heap.objs.size=none:=I2.hok.fresh (Nat.le_refl _)
 have I3:Inv X pins σ (upd H2 s2.heap.objs.size (.lst [])) {s2 with heap:=s2.heap.push {cls:= .type "list",data:= .seq ([]:List Value).toArray}}:=
  I2.laid (t':=s2.toks) (fun b u e=>Heap.get?_push_of_some _ e) (Nat.le_refl _) ⟨by show 0≤sizeLine;decide,[],0, .nil,Heap.get?_push_size _ rfl⟩
 obtain ⟨W,⟨m0,w0⟩,turn⟩:=W _ nD
 have lt2:∀b∈fp,b < s2.heap.objs.size:=fun b hb=>by
  obtain ⟨o,e,_⟩:=T.obj 0 _ st2 b hb
  exact Heap.lt_size e
 have nDf:∀b∈fp,b≠s2.heap.objs.size:=fun b hb=>Nat.ne_of_lt (lt2 b hb)
 have f3:∀b∈fp,FpOk X pins (upd H2 s2.heap.objs.size (.lst [])) b:=fun b hb=>by
  obtain ⟨g0,g1⟩:=f2 b hb
  exact ⟨by rw [ai (nDf b hb)];exact g0,g1⟩
 have st3:tn 0 (s2.heap.push {cls:= .type "list",data:= .seq ([]:List Value).toArray}):=T.keep 0 _ _ st2 fun b _ o e=>Heap.get?_push_of_some _ e
 have lt3:∀b∈fp,b < (s2.heap.push {cls:= .type "list",data:= .seq ([]:List Value).toArray}).objs.size:=fun b hb=>by
  rw [Heap.size_push]
  exact Nat.lt_succ_of_lt (lt2 b hb)
 generalize hD:s2.heap.objs.size=D at*
 generalize hs3:({s2 with heap:=s2.heap.push {cls:= .type "list",data:= .seq ([]:List Value).toArray}}:Shared)=s3 at*
 have hh3:s3.heap=s2.heap.push {cls:= .type "list",data:= .seq ([]:List Value).toArray}:=by rw [←hs3]
 rw [←hh3] at st3 lt3
 generalize hH3:upd H2 D (.lst [])=H3 at*
 refine wpAny_newFunctionEnv (around:=some X.env) hnc (by intro y hy;cases hy) (fun h4 hn4 hsb4=> ?_) hk
 have kp4:∀b o,s3.heap.get? b=some o→h4.get? b=some o:=fun b o e=>hsb4.extBut b o (Nat.ne_of_lt (Heap.lt_size e)) (Heap.get?_push_of_some _ e)
 have I4:=I3.block (tk:=s3.toks+([]:List (Str×Value)).length) f3 lt3 hk hnc hc hl hm kp4 hn4
 have st4:tn 0 h4:=T.keep 0 _ _ st3 fun b _ o e=>kp4 b o e
 have nC:∀b o,s3.heap.get? b=some o→b≠s3.heap.objs.size:=fun b o e=>Nat.ne_of_lt (Heap.lt_size e)
 have out:∀(s5:Shared) (σ5:St) (H5:Hp) (h6:Heap),Inv (XC X scope NC s3.heap.objs.size s3 H3 fp (X.pn++pins)) [] σ5 H5 s5→Heap.SameBut s3.heap.objs.size s5.heap h6→Inv X pins σ H5 {s5 with heap:=h6}:=by
  intro s5 σ5 H5 h6 I5 sb6
  have kp6:∀b o,b≠s3.heap.objs.size→s5.heap.get? b=some o→h6.get? b=some o:=fun b o hb e=>sb6.extBut b o hb e
  have un:Un (frs X.stack) fp H3 H5 s3.heap s5.heap:=I5.base
  have hfree:H5 s3.heap.objs.size=none:=I5.free
  refine I3.call' (s':= {s5 with heap:=h6}) (ch:=fp) I5.os ⟨fun b o e n hb hx=>kp6 b o (nC b o e) (un.keep b o e n hb hx),fun b o e n hb hx=> ?_,un.free,fun b o e hx=> ?_,un.tups,un.frzs,un.tbls⟩ ?_ I5.bare (fun b hb=> ?_)
  · obtain ⟨sl,e1⟩:=un.slot b o e n hb hx
    exact ⟨sl,kp6 b _ (nC b o e) e1⟩
  · obtain ⟨o',e1⟩:=un.there b o e hx
    exact ⟨o',kp6 b o' (nC b o e) e1⟩
  · intro b o e
    have nb:b≠s3.heap.objs.size:=fun z=>by rw [z,hfree] at e;cases e
    refine (I5.hok b o e).stay (fun c v hc' r=>kp6 c v ?_ r) (fun _ r=>r) fun _ _ r=>r
    rcases hc' with z|z
    · rw [z];exact nb
    · intro y
      rw [y,hfree] at z
      cases z
  · obtain ⟨g0,g1,g2,g3,g4,g5⟩:=f3 b hb
    exact ⟨g3,g1,g4,g5⟩
 have fin:∀(s5:Shared) (σ5:St) (H5:Hp),Inv (XC X scope NC s3.heap.objs.size s3 H3 fp (X.pn++pins)) [] σ5 H5 s5→Z.nx (σ.set i (some (.ref D))) H5→compPost (model X.prog X.w) X.A X.xe (some (assign (.Name x px) X.env)) (fun _ s'=>SP X pins Z .next s') (.ref D) s3.heap.objs.size (.ok .next) s5:=by
  intro s5 σ5 H5 I5 q5
  obtain ⟨m5,hn5,_⟩:=id I5.loc
  have I6:=out s5 σ5 H5 s5.heap I5 (.refl ..)
  have lC:X.env.locals≠s3.heap.objs.size:=Nat.ne_of_lt I3.lt
  show wpAny _ _ (assign (.Name x px) X.env (.ref D)) _ _ _
  refine wpAny_assign_Name (hJ (X:=X) (v:= .ref D) I6 hN hix (.inl hx) rfl (fun s7 I7 hch=> ?_) (.inr hx))
  obtain ⟨a,sb7,ha⟩:=hch
  have aC:s3.heap.objs.size≠a:=by
   rcases ha with z|z
   · rw [z];exact Ne.symm lC
   · obtain ⟨v,oc,q1,_⟩:=I3.cell x a z
     exact Ne.symm (nC a oc q1)
  refine ⟨m5,m4 hn5 sb7 aC,fun h8 sb8=>⟨σ.set i (some (.ref D)),H5,?_,q5⟩⟩
  have hfree:H5 s3.heap.objs.size=none:=I5.free
  have kp8:∀b o,b≠s3.heap.objs.size→s7.heap.get? b=some o→h8.get? b=some o:=fun b o hb e=>sb8.extBut b o hb e
  have s0lt:∀b o,X.s₀.heap.get? b=some o→b≠s3.heap.objs.size:=fun b o e=>Nat.ne_of_lt (Nat.lt_of_lt_of_le (Heap.lt_size e) I3.sz)
  refine ⟨I7.ok,I7.os,I7.bare,⟨fun b o e n hb hx=>kp8 b o (s0lt b o e) (I7.base.keep b o e n hb hx),fun b o e n hb hx=> ?_,I7.base.free,fun b o e hx=> ?_,I7.base.tups,I7.base.frzs,I7.base.tbls⟩,?_,fun y c e=> ?_,I7.free,I7.freeC,fun p hp=> ?_,?_,I7.len⟩
  · obtain ⟨sl,e1⟩:=I7.base.slot b o e n hb hx
    exact ⟨sl,kp8 b _ (s0lt b o e) e1⟩
  · obtain ⟨o',e1⟩:=I7.base.there b o e hx
    exact ⟨o',kp8 b o' (s0lt b o e) e1⟩
  · obtain ⟨m7,hn7,hl7⟩:=I7.loc
    have cellN:∀y c,X.env.cells.lookup y=some c→c≠s3.heap.objs.size:=fun y c e=>by
     obtain ⟨v,oc,q1,_⟩:=I3.cell y c e
     exact nC c oc q1
    refine ⟨m7,m4 hn7 sb8 lC,fun j y v e1 e2 e3=> ?_⟩
    obtain ⟨u,ru,lk⟩:=hl7 j y v e1 e2 e3
    refine ⟨u,ru,?_⟩
    rcases lk with lk|⟨k1,c,k2,k3⟩
    · exact .inl lk
    · exact .inr ⟨k1,c,k2,k3.sameBut sb8 (cellN y c k2)⟩
  · obtain ⟨w',z⟩:=I7.cell y c e
    obtain ⟨v,oc,q1,_⟩:=I3.cell y c e
    exact ⟨w',z.sameBut sb8 (nC c oc q1)⟩
  · obtain ⟨e,n1,n2,n3,n4⟩:=I7.pin p hp
    obtain ⟨e3,_⟩:=I3.pin p hp
    exact ⟨kp8 _ _ (nC _ _ e3) e,n1,n2,n3,n4⟩
  · intro b o e
    have nb:b≠s3.heap.objs.size:=fun z=>by rw [z,hfree] at e;cases e
    refine (I7.hok b o e).stay (fun c v hc' r=>kp8 c v ?_ r) (fun _ r=>r) fun _ _ r=>r
    rcases hc' with z|z
    · rw [z];exact nb
    · intro y
      rw [y,hfree] at z
      cases z
 have loop:codeAny (model X.prog X.w) X.A (.compLoop (.ListComp elt [⟨target,iter,ifs,0⟩] scope pos) 0 (.ref it) (.ref D) (compEnvC scope (ck scope.names X.env.cells []) s3.heap.objs.size X.env)) (compPost (model X.prog X.w) X.A X.xe (some (assign (.Name x px) X.env)) (fun _ s'=>SP X pins Z .next s') (.ref D) s3.heap.objs.size)
  {s3 with heap:=h4,toks:=s3.toks+([]:List (Str×Value)).length}:=by
  refine gi (fun n s'=>∃i acc σ' H',Inv (XC X scope NC s3.heap.objs.size s3 H3 fp (X.pn++pins)) [] σ' H' s'∧Ext (subS mp σ) σ'∧tn i s'.heap∧(∀b∈fp,H' b=none)∧W i n acc H') ?_ m0
   ⟨0,[],subS mp σ,H3,I4,fun _ _ e=>e,st4,fun b hb=>(f3 b hb).1,w0⟩
  rintro n s5 ⟨i,acc,σ5,H5,I5,hσ,st5,fr5,w5⟩
  have I5':Inv (XC X scope NC s3.heap.objs.size s3 H3 fp (X.pn++pins)) [] (subS mp σ) H5 s5:=I5.weak (by rw [I5.len];unfold subS;rw [List.length_map];exact hl) hσ
  have fpk:∀ {H':Hp},(∀b∈fp,H' b=none)→∀b∈fp,FpOk (XC X scope NC s3.heap.objs.size s3 H3 fp (X.pn++pins)) [] H' b:=fun hn b hb=>by
   obtain ⟨g0,g1,g2,g3,g4,g5⟩:=f3 b hb
   refine ⟨hn b hb,Nat.ne_of_lt (lt3 b hb),?_, .inl hb,(I4.ok.exf b hb).2,fun p hp=>g5 p (by simpa using hp)⟩
   exact I4.ok.exfs b hb
  rcases turn i n acc H5 w5 with ⟨stop,q⟩|⟨go,step⟩
  · refine thn (T.done (XC X scope NC s3.heap.objs.size s3 H3 fp (X.pn++pins)) rfl rfl rfl hcalm i [] s5 _ H5 (fun _ _=>False) I5' (fpk fr5) st5 stop) fun r s6 ⟨hr,I6⟩=> ?_
    subst hr
    exact fin s6 _ H5 I6 q
  · refine thn (T.item (XC X scope NC s3.heap.objs.size s3 H3 fp (X.pn++pins)) rfl rfl rfl hcalm i [] s5 _ H5 (fun _ _=>False) I5' (fpk fr5) st5 go) fun r s6 ⟨u,hr,h6⟩=> ?_
    subst hr
    refine thn h6 fun _ s7 ⟨x,H7,I7,r7,y7,st7,fr7⟩=> ?_
    have I7':=I7.pinned (fpk fr7) (T.obj _ _ st7)
    refine thn (hg _ _ _ _ _ _ s7 _ H7 x u _ I7' r7 (step x H7 y7)) fun _ s8 ⟨σ8,H8,I8,ext8,q8⟩=> ?_
    refine thn (ht _ _ _ _ _ _ s8 σ8 H8 _ I8 q8) fun ok s9 ⟨H9,I9,q9⟩=> ?_
    have again:∀ {σ':St} {H':Hp} {s':Shared} {acc':List V} {m':Nat},Inv (XC X scope NC s3.heap.objs.size s3 H3 fp (X.pn++pins)) ([]++eY fp s7.heap) σ' H' s'→Ext (subS mp σ) σ'→m' < n→W (i+1) m' acc' H'→
     ∃m,m < n∧∃i acc σ' H',Inv (XC X scope NC s3.heap.objs.size s3 H3 fp (X.pn++pins)) [] σ' H' s'∧Ext (subS mp σ) σ'∧tn i s'.heap∧(∀b∈fp,H' b=none)∧W i m acc H':=by
     intro σ' H' s' acc' m' I' hσ' hm' w'
     refine ⟨m',hm',i+1,acc',σ',H',I'.unpinned,hσ',T.keep _ _ _ st7 fun b hb o e=>(I'.pin (b,o) (List.mem_append_right _ (List.mem_append_right _ (bG hb e)))).1,fun b hb=> ?_,w'⟩
     obtain ⟨o,e,d⟩:=T.obj _ _ st7 b hb
     exact (I'.pin (b,o) (List.mem_append_right _ (List.mem_append_right _ (bG hb e)))).2.1
    cases ok with
    |false=>
     rw [if_neg Bool.false_ne_true] at q9
     rw [if_neg Bool.false_ne_true]
     obtain ⟨m',hm',w'⟩:=q9
     exact again I9 ext8 hm' w'
    |true=>
     rw [if_pos rfl] at q9
     rw [if_pos rfl]
     refine thn (he _ _ _ _ _ _ s9 σ8 H9 _ I9 q9) fun v s10 ⟨y,H10,I10,r10,hD10,hz,m',hm',w'⟩=> ?_
     refine thn (cC (X:=XC X scope NC s3.heap.objs.size s3 H3 fp (X.pn++pins)) _ s10 σ8 H10 (.ref D) [y] (.ref D) [v] (fun _ H'=>H'=upd H10 D (.lst (acc++ [y]))) I10 rfl (.cons r10 .nil) ⟨D,acc,y,rfl,rfl,hD10,hz,rfl⟩) fun _ s11 ⟨_,H11,I11,_,e11⟩=> ?_
     subst e11
     exact again I11 ext8 hm' w'
 exact codeAny_compStart_list loop (T.self _ 0 _ _ _ st4 loop)
end
open PySem PySem.Spec PyProof.Rows
section
variable {κ:Type} [DecidableEq κ]
noncomputable def valV (kvs:List (κ×V)) (k:κ):Option V:=(kvs.find? fun kv=>decide (kv.1=k)).map (·.2)
noncomputable def putK (kvs:List (κ×V)) (k:κ) (v:V):List (κ×V):=
 if (kvs.any fun kv=>decide (kv.1=k))=true then kvs.map (fun kv=>if kv.1=k then (kv.1,v) else kv) else kvs++ [(k,v)]
noncomputable def sS (kvs:List (κ×V)) (k:κ):List (κ×V):=kvs.filter fun kv=>decide (kv.1≠k)
theorem ba {p:κ×V} {r:List (κ×V)} {k:κ} (e:p.1=k):valV (p::r) k=some p.2:=by simp [valV,List.find?_cons,e]
theorem be {p:κ×V} {r:List (κ×V)} {k:κ} (e:¬p.1=k):valV (p::r) k=valV r k:=by simp [valV,List.find?_cons,e]
theorem dG (k:κ):∀kvs:List (κ×V),(kvs.any fun kv=>decide (kv.1=k))=(valV kvs k).isSome
 | []=>rfl
 |p::r=>by
  rw [List.any_cons]
  by_cases e:p.1=k
  · simp only [ba e,decide_eq_true e,Bool.true_or,Option.isSome_some]
  · rw [be e,decide_eq_false e,Bool.false_or];exact dG k r
theorem jg (k j:κ) (y:V):∀kvs:List (κ×V),valV (kvs.map fun kv=>if kv.1=k then (kv.1,y) else kv) j=(valV kvs j).map fun x=>if j=k then y else x
 | []=>rfl
 |p::r=>by
  have ih:=jg k j y r
  rw [List.map_cons]
  by_cases h:p.1=k
  · rw [if_pos h]
    by_cases e:p.1=j
    · rw [ba (p:=(p.1,y)) e,ba e,Option.map_some,if_pos (e.symm.trans h)]
    · rw [be (p:=(p.1,y)) e,be e,ih]
  · rw [if_neg h]
    by_cases e:p.1=j
    · rw [ba (p:=p) e,ba e,Option.map_some,if_neg (fun z=>h (e.trans z))]
    · rw [be (p:=p) e,be e,ih]
theorem gZ (k j:κ) (y:V):∀kvs:List (κ×V),valV kvs k=none→valV (kvs++ [(k,y)]) j=if j=k then some y else valV kvs j
 | [],_=>by
  by_cases e:k=j
  · rw [if_pos e.symm];exact ba (p:=(k,y)) e
  · rw [if_neg (fun z=>e z.symm)];exact be (p:=(k,y)) e
 |p::r,hn=>by
  rw [List.cons_append]
  have hk:¬p.1=k:=fun z=>by rw [ba z] at hn;cases hn
  rw [be hk] at hn
  have ih:=gZ k j y r hn
  by_cases e:p.1=j
  · rw [ba e,ba e,if_neg (fun z=>hk (e.trans z))]
  · rw [be e,be e,ih]
theorem jf (kvs:List (κ×V)) (k j:κ) (y:V):valV (putK kvs k y) j=if j=k then some y else valV kvs j:=by
 unfold putK
 by_cases a:(kvs.any fun kv=>decide (kv.1=k))=true
 · rw [if_pos a,jg]
   rw [dG] at a
   by_cases e:j=k
   · obtain ⟨x,hx⟩:=Option.isSome_iff_exists.mp a
     rw [if_pos e,e,hx,Option.map_some,if_pos rfl]
   · rw [if_neg e]
     cases valV kvs j with
     |none=>rfl
     |some x=>rw [Option.map_some,if_neg e]
 · rw [if_neg a]
   refine gZ k j y kvs ?_
   rw [dG] at a
   cases q:valV kvs k with
   |none=>rfl
   |some x=>rw [q] at a;exact (a rfl).elim
theorem cn (kvs:List (κ×V)) (k:κ) (v:V):(putK kvs k v).length≤kvs.length+1:=by
 unfold putK
 split
 · rw [List.length_map];omega
 · rw [List.length_append,List.length_cons,List.length_nil];omega
theorem RelO.isSome_eq {o:Option V} {u:Option Value} (r:RelO o u):o.isSome=u.isSome:=by
 cases o with
 |none=>cases u with
  |none=>rfl
  |some _=>exact (show False from r).elim
 |some _=>cases u with
  |none=>exact (show False from r).elim
  |some _=>rfl
theorem RelO.getD {o:Option V} {u:Option Value} {d:V} {d':Value} (r:RelO o u) (rd:RelV d d'):RelV (o.getD d) (u.getD d'):=by
 cases o with
 |none=>cases u with
  |none=>exact rd
  |some _=>exact (show False from r).elim
 |some _=>cases u with
  |none=>exact (show False from r).elim
  |some _=>exact r
theorem KV.val {kvs:List (κ×V)} {vs:List (κ×Value)} (r:KV kvs vs) (k:κ):RelO (valV kvs k) (valueAt vs k):=by
 unfold KV at r
 induction r with
 |nil=>exact True.intro
 | @cons p q ps qs h t ih=>
  obtain ⟨h1,h2⟩:=h
  by_cases e:p.1=k
  · have e':q.1=k:=h1.symm.trans e
    have b:valueAt (q::qs) k=some q.2:=by simp [valueAt,List.find?_cons,e']
    rw [ba e,b];exact h2
  · have e':¬q.1=k:=fun z=>e (h1.trans z)
    have b:valueAt (q::qs) k=valueAt qs k:=by simp [valueAt,List.find?_cons,e']
    rw [be e,b];exact ih
theorem KV.any {kvs:List (κ×V)} {vs:List (κ×Value)} (r:KV kvs vs) (k:κ):(kvs.any fun kv=>decide (kv.1=k))=vs.any fun kv=>decide (kv.1=k):=by
 unfold KV at r
 induction r with
 |nil=>rfl
 |cons h t ih=>rw [List.any_cons,List.any_cons,ih,h.1]
theorem KV.repl {kvs:List (κ×V)} {vs:List (κ×Value)} (r:KV kvs vs) (k:κ) {y:V} {u:Value} (ry:RelV y u):
 KV (kvs.map fun kv=>if kv.1=k then (kv.1,y) else kv) (vs.map fun kv=>if kv.1=k then (kv.1,u) else kv):=by
 unfold KV at r ⊢
 induction r with
 |nil=>exact .nil
 | @cons p q ps qs h t ih=>
  rw [List.map_cons,List.map_cons]
  refine .cons ?_ ih
  obtain ⟨h1,h2⟩:=h
  by_cases e:p.1=k
  · rw [if_pos e,if_pos (h1.symm.trans e)];exact ⟨h1,ry⟩
  · rw [if_neg e,if_neg (fun z=>e (h1.trans z))];exact ⟨h1,h2⟩
theorem KV.put {kvs:List (κ×V)} {vs:List (κ×Value)} (r:KV kvs vs) (k:κ) {y:V} {u:Value} (ry:RelV y u):KV (putK kvs k y) (stored vs k u):=by
 unfold putK stored
 rw [r.any k]
 by_cases e:(vs.any fun kv=>decide (kv.1=k))=true
 · rw [if_pos e,if_pos e];exact r.repl k ry
 · rw [if_neg e,if_neg e];exact Paired.snoc r ⟨rfl,ry⟩
theorem KV.drop {kvs:List (κ×V)} {vs:List (κ×Value)} (r:KV kvs vs) (k:κ):KV (sS kvs k) (without vs k):=by
 unfold KV at r ⊢
 unfold sS without
 induction r with
 |nil=>exact .nil
 | @cons p q ps qs h t ih=>
  obtain ⟨h1,h2⟩:=h
  rw [List.filter_cons,List.filter_cons]
  by_cases e:p.1=k
  · have a:¬decide (p.1≠k)=true:=by simp [e]
    have b:¬decide (q.1≠k)=true:=by simp [h1.symm.trans e]
    rw [if_neg a,if_neg b];exact ih
  · have e':¬q.1=k:=fun z=>e (h1.trans z)
    have a:decide (p.1≠k)=true:=by simp [e]
    have b:decide (q.1≠k)=true:=by simp [e']
    rw [if_pos a,if_pos b];exact .cons ⟨h1,h2⟩ ih
theorem KV.keys {kvs:List (κ×V)} {vs:List (κ×Value)} (r:KV kvs vs):kvs.map (·.1)=vs.map (·.1):=by
 unfold KV at r
 induction r with
 |nil=>rfl
 |cons h t ih=>rw [List.map_cons,List.map_cons,ih,h.1]
theorem KV.length {kvs:List (κ×V)} {vs:List (κ×Value)} (r:KV kvs vs):kvs.length=vs.length:=Paired.length r
end
theorem pb {P:Program} {w:World} {k:Key} {u:Value} (r:RelV (kV k) u):(aN P w).is k u=true:=by
 cases k with
 |inl i=>obtain ⟨t,e⟩:=(show∃t,u=Value.int i t from r);subst e;exact jC P w i t
 |inr x=>obtain ⟨t,e⟩:=(show∃t,u=Value.str x t from r);subst e;exact jB P w x t
theorem ig {P:Program} {w:World}:∀ {ks:List Key} {us:List Value},Vals (ks.map kV) us→ItemsAre (aN P w) ks us
 | [],_,r=>by rw [List.map_nil] at r;cases r;exact .nil
 |k::ks,_,r=>by
  rw [List.map_cons] at r
  cases r with
  |cons h t=>exact .cons (pb h) (ig t)
abbrev KT (H:Hp):List (List Key×V)→List (List Key×Addr×Value)→Prop:=Paired fun p q=>p.1=q.1∧H q.2.1=some (.tup (p.1.map kV))∧RelV p.2 q.2.2
theorem KT.val {H:Hp} {kvs:List (List Key×V)} {xs:List (List Key×Addr×Value)} (r:KT H kvs xs) (k:List Key):RelO (valV kvs k) ((atKey xs k).map (·.2)):=by
 induction r with
 |nil=>exact True.intro
 | @cons p q ps qs h t ih=>
  obtain ⟨h1,_,h2⟩:=h
  by_cases e:p.1=k
  · have e':q.1=k:=h1.symm.trans e
    have b:atKey (q::qs) k=some q.2:=by simp [atKey,List.find?_cons,e']
    rw [ba e,b];exact h2
  · have e':¬q.1=k:=fun z=>e (h1.trans z)
    have b:atKey (q::qs) k=atKey qs k:=by simp [atKey,List.find?_cons,e']
    rw [be e,b];exact ih
theorem KT.repl {H:Hp} {kvs:List (List Key×V)} {xs:List (List Key×Addr×Value)} (r:KT H kvs xs) (k:List Key) {y:V} {u:Value} (ry:RelV y u):
 KT H (kvs.map fun kv=>if kv.1=k then (kv.1,y) else kv) (xs.map (putAt k u)):=by
 induction r with
 |nil=>exact .nil
 | @cons p q ps qs h t ih=>
  rw [List.map_cons,List.map_cons]
  refine .cons ?_ ih
  obtain ⟨h1,h2,h3⟩:=h
  unfold putAt
  by_cases e:p.1=k
  · rw [if_pos e,if_pos (h1.symm.trans e)];exact ⟨h1,h2,ry⟩
  · rw [if_neg e,if_neg (fun z=>e (h1.trans z))];exact ⟨h1,h2,h3⟩
theorem KT.put {H:Hp} {kvs:List (List Key×V)} {xs:List (List Key×Addr×Value)} (r:KT H kvs xs) (k:List Key) {b:Addr} {y:V} {u:Value} (hb:H b=some (.tup (k.map kV))) (ry:RelV y u):
 KT H (putK kvs k y) (storedH xs k b u):=by
 have e:(kvs.any fun kv=>decide (kv.1=k))=(atKey xs k).isSome:=by
  rw [dG,(r.val k).isSome_eq,Option.isSome_map]
 unfold putK storedH
 rw [e]
 by_cases q:(atKey xs k).isSome=true
 · rw [if_pos q,if_pos q];exact r.repl k ry
 · rw [if_neg q,if_neg q];exact Paired.snoc r ⟨rfl,hb,ry⟩
theorem KT.keeps {H H':Hp} {kvs:List (List Key×V)} {xs:List (List Key×Addr×Value)} (r:KT H kvs xs) (ht:∀b ys,H b=some (.tup ys)→H' b=some (.tup ys)):KT H' kvs xs:=
 Paired.mapP r fun _ _ z=>⟨z.1,ht _ _ z.2.1,z.2.2⟩
section
variable {P:Program} {w:World} {H:Hp} {h:Heap} {a:Addr}
theorem sv {u:HO} (ok:HOk P w H h) (e:Rd H a u):ObjOk P w H h a u:=e.ok ok
theorem pI {kvs:List (Key×V)} (ok:HOk P w H h) (e:Rd H a (.dK kvs)):kvs.length≤sizeLine∧(a==sysModules)=false∧∃vs,KV kvs vs∧h.DictOf (aN P w) a vs:=
 show ObjOk P w H h a (.dK kvs) from sv ok e
theorem vk {kvs:List (Key×V)} (ok:HOk P w H h) (e:H a=some (.dK kvs)):kvs.length≤sizeLine∧(a==sysModules)=false∧∃vs,KV kvs vs∧h.DictOf (aN P w) a vs:=pI ok (.inl e)
theorem g9 {ks:List Key} (ok:HOk P w H h) (e:H a=some (.tup (ks.map kV))):(tupleKind (aN P w)).is h ks a:=by
 obtain ⟨_,its,r,o,h1,h2,n,h3⟩:=(show ObjOk P w H h a (.tup (ks.map kV)) from ok a _ e)
 exact ⟨o,its.toArray,n,h1,h2,h3,by simpa using ig r⟩
theorem pH {kvs:List (List Key×V)} (ok:HOk P w H h) (e:Rd H a (.dT kvs)):kvs.length≤sizeLine∧(a==sysModules)=false∧
 ∃xs,KT H kvs xs∧h.DictOfH (tupleKind (aN P w)) a xs:=by
 obtain ⟨z,y,xs,r,o,es,ep,h1,h2,h3,h4,h5⟩:=(show ObjOk P w H h a (.dT kvs) from sv ok e)
 refine ⟨z,y,xs,r,o,es,ep,h1,h2,h3,h4,fun x hx=> ?_,h5⟩
 have all:∀ {l:List (List Key×V)} {m:List (List Key×Addr×Value)},KT H l m→∀x∈m,(tupleKind (aN P w)).is h x.1 x.2.1:=by
  intro l m q
  induction q with
  |nil=>intro x hx;exact nomatch hx
  | @cons p q ps qs hq t ih=>
   intro x hx
   rcases List.mem_cons.mp hx with e|hx
   · subst e
     exact g9 ok (by rw [←hq.1];exact hq.2.1)
   · exact ih x hx
 exact all r x hx
theorem vj {kvs:List (List Key×V)} (ok:HOk P w H h) (e:H a=some (.dT kvs)):kvs.length≤sizeLine∧(a==sysModules)=false∧
 ∃xs,KT H kvs xs∧h.DictOfH (tupleKind (aN P w)) a xs:=pH ok (.inl e)
end
def DGet (H:Hp) (a:Addr) (y:V) (r:Option V):Prop:=
 (∃kvs k,Rd H a (.dK kvs)∧y=kV k∧r=valV kvs k)∨∃kvs k b,Rd H a (.dT kvs)∧y= .ref b∧H b=some (.tup (k.map kV))∧r=valV kvs k
def DPut (H:Hp) (a:Addr) (y v:V) (H':Hp):Prop:=
 (∃kvs k,H a=some (.dK kvs)∧y=kV k∧kvs.length < sizeLine∧H'=upd H a (.dK (putK kvs k v)))∨
 ∃kvs k b,H a=some (.dT kvs)∧y= .ref b∧H b=some (.tup (k.map kV))∧kvs.length < sizeLine∧H'=upd H a (.dT (putK kvs k v))
theorem DGet.k {H:Hp} {a:Addr} {kvs:List (Key×V)} {k:Key} (e:H a=some (.dK kvs)):DGet H a (kV k) (valV kvs k):= .inl ⟨kvs,k, .inl e,rfl,rfl⟩
theorem DGet.t {H:Hp} {a b:Addr} {kvs:List (List Key×V)} {k:List Key} (e:H a=some (.dT kvs)) (eb:H b=some (.tup (k.map kV))):DGet H a (.ref b) (valV kvs k):= .inr ⟨kvs,k,b, .inl e,rfl,eb,rfl⟩
theorem DPut.k {H:Hp} {a:Addr} {kvs:List (Key×V)} {k:Key} {v:V} (e:H a=some (.dK kvs)) (hl:kvs.length < sizeLine):DPut H a (kV k) v (upd H a (.dK (putK kvs k v))):= .inl ⟨kvs,k,e,rfl,hl,rfl⟩
theorem DPut.t {H:Hp} {a b:Addr} {kvs:List (List Key×V)} {k:List Key} {v:V} (e:H a=some (.dT kvs)) (eb:H b=some (.tup (k.map kV))) (hl:kvs.length < sizeLine):
 DPut H a (.ref b) v (upd H a (.dT (putK kvs k v))):= .inr ⟨kvs,k,b,e,rfl,eb,hl,rfl⟩
section
variable {X:Cx} {pins:List (Addr×Obj)} {σ:St} {H:Hp} {s:Shared} {a:Addr} {y v:V} {u r:Value} {o:Option V} {A:Around} {E:Value→Shared→Prop}
theorem Inv.big (I:Inv X pins σ H s):sysModules < s.heap.objs.size:=by
 have h:mainGlobals < s.heap.objs.size:=(I.mod.glob.keeps I.bk).lt
 exact Nat.lt_trans (by decide) h
theorem j4 {h':Heap} {t':Nat} {ob:HO} (I:Inv X pins σ H s) (mu:Mut (H a)) (hs:Heap.SameBut a s.heap h') (he:∃q,h'.get? a=some q) (new:ObjOk X.prog X.w (upd H a ob) h' a ob):
 Inv X pins σ (upd H a ob) {s with heap:=h',toks:=t'}:=
 I.write (x:=a) (e:=a) mu (.inl rfl) (fun b q hb z=>(hs.2 b hb).trans z) he new
theorem uu {P:Program} {w:World} {H':Hp} {h':Heap} {kvs:List (Key×V)} {vs:List (Key×Value)} (z:kvs.length≤sizeLine) (hd:(a==sysModules)=false) (rel:KV kvs vs) (dd:h'.DictOf (aN P w) a vs):
 ObjOk P w H' h' a (.dK kvs):=⟨z,hd,vs,rel,dd⟩
theorem ni {H':Hp} {Q:Unit→Shared→Prop} (hu:A.units+1 < cLine) (I:Inv X pins σ H s) (g:DPut H a y v H') (ry:RelV y u) (rv:RelV v r) (h:∀s',Inv X pins σ H' s'→Q () s'):
 wpAny (model X.prog X.w) A (setItem (.ref a) u r) Q E s:=by
 rcases g with ⟨kvs,k,e,ey,l,eH⟩|⟨kvs,k,b,e,ey,eb,l,eH⟩
 · subst ey eH
   obtain ⟨z,hd,vs,rel,dd⟩:=vk I.hok e
   have hz:vs.length≤sizeLine:=by rw [←rel.length];exact z
   have hl:(putK kvs k v).length≤sizeLine:=by have:=cn kvs k v;omega
   refine wpAny_setItem_pairs (hsz:=hz) (pb ry) dd fun h' dd' hs=>h _ ?_
   have he:∃q,h'.get? a=some q:=let ⟨q,_,_,hq,_⟩:=dd';⟨q,hq⟩
   exact j4 I (by rw [e];exact True.intro) hs he (uu hl hd (rel.put k rv) dd')
 · subst ey eH
   cases (show u=Value.ref b from ry)
   obtain ⟨z,hd,xs,rel,dd⟩:=vj I.hok e
   have hz:xs.length≤sizeLine:=by rw [←Paired.length rel];exact z
   have hl:(putK kvs k v).length≤sizeLine:=by have:=cn kvs k v;omega
   refine wpAny_setItem_heap (hsz:=hz) (tupleKind_room_in1 hu) (g9 I.hok eb) dd fun h' dd' hs=>h _ ?_
   obtain ⟨q,es,ep,hq,h2,h3,h4,_,h5⟩:=dd'
   refine j4 I (by rw [e];exact True.intro) hs ⟨q,hq⟩ ⟨hl,hd,_,(rel.put k eb rv).keeps fun c ys ec=> ?_,q,es,ep,hq,h2,h3,h4,h5⟩
   rw [ai (vb ec e (fun z=>nomatch z))]
   exact ec
end
section
variable {X:Cx} {pins:List (Addr×Obj)} {σ:St} {H:Hp} {s:Shared} {a:Addr} {kvs:List (Key×V)} {k:Key} {u:Value} {A:Around} {E:Value→Shared→Prop}
end
def uI (td ty tv:TE):TS:=fun D σ H=>tv σ H fun v H1=>td σ H1 fun x H2=>ty σ H2 fun y H3=>∃a H4,x= .ref a∧DPut H3 a y v H4∧D.nx σ H4
section
variable {X:Cx} {o i e value:Expr} {pos pos' tpos:Pos} {td ty tv:TE}
theorem iN (hu:X.A.units+1 < cLine) (ho:PE X o td) (hi:PE X i ty) (hv:PE X value tv) (hs:swapsWith value (some (.Subscript o i pos')) pos.line X.env=pure false):
 PS X (.Assign [.Subscript o i pos'] value pos) (uI td ty tv):=by
 intro pins s σ H D I h
 refine wpAny_Assign_Subscript (thn (hv pins s σ H _ I h) fun r s1 ⟨v,H1,I1,rv,q1⟩=>thn (ho pins s1 σ H1 _ I1 q1) fun u s2 ⟨x,H2,I2,rx,q2⟩=>thn (hi pins s2 σ H2 _ I2 q2) fun iv s3 ⟨y,H3,I3,ry,a,H4,ex,g,q3⟩=> ?_) hs
 subst ex
 obtain rfl:u=Value.ref a:=rx
 exact ni hu I3 g ry rv fun s4 I4=>⟨σ,H4,I4,q3⟩
end
theorem pJ {P:Program} {w:World} {H:Hp} (h:Heap) (hb:sysModules < h.objs.size):ObjOk P w H (h.push {cls:= .type "dict",data:= .dict #[]}) h.objs.size (.dK []):=
 ⟨Nat.zero_le _,beq_eq_false_iff_ne.mpr (Ne.symm (Nat.ne_of_lt hb)),[], .nil,Heap.DictOf.new h⟩
def tF:TE:=fun _ H Q=>∀p,H p=none→Q (.ref p) (upd H p (.dK []))
section
variable {X:Cx} {pos:Pos}
theorem jt:PE X (.Dict [] [] pos) tF:=fun pins s σ H Q I h=>
 wpAny_Dict_empty ⟨.ref s.heap.objs.size,_,I.laid (a:=s.heap.objs.size) (o:= .dK []) (t':=s.toks) (fun _ _ q=>Heap.get?_push_of_some _ q) (Nat.le_refl _) (pJ s.heap I.big),rfl,h _ (I.hok.fresh (Nat.le_refl _))⟩
end
structure M2 (X:Cx) (o:Expr) (m:Str) (apos:Pos) (e f:Expr) (cpos:Pos):Prop where
 base:attributeBase o m X.env (eval o X.env)=eval o X.env
 few:((backTo cpos (starEach [e,f] X.env)).all (fun x=> !x.1)&& (backToKw cpos (keywordEach [] X.env)).all (fun x=>x.1.isSome)
  &&decide (([e,f]:List Expr).length+([]:List Keyword).length+(if ([]:List Keyword).isEmpty then 0 else 1) < 30))=true
 line:(apos.endLine==cpos.line)=true
 trees:backTo cpos (starEach [e,f] X.env)= [(false,eval e X.env),(false,eval f X.env)]
def IsD (H:Hp) (a:Addr):Prop:=(∃kvs,Rd H a (.dK kvs))∨∃kvs,Rd H a (.dT kvs)
theorem uh {X:Cx} {pins:List (Addr×Obj)} {σ:St} {H:Hp} {s:Shared} {a:Addr} (I:Inv X pins σ H s) (d:IsD H a):
 s.TypeIs (.ref a) "dict"∧(∀b,Value.ref a= .ref b→∃ob,s.heap.get? b=some ob∧ob.dict=none)∧(a==sysModules)=false:=by
 rcases d with ⟨kvs,e⟩|⟨kvs,e⟩
 · obtain ⟨_,hd,vs,_,dd⟩:=pI I.hok e
   refine ⟨dd.typeIs,fun b q=> ?_,hd⟩
   cases q
   obtain ⟨ob,_,_,h1,h2,_⟩:=dd
   exact ⟨ob,h1,h2.2.1⟩
 · obtain ⟨_,hd,xs,_,dd⟩:=pH I.hok e
   refine ⟨dd.typeIs,fun b q=> ?_,hd⟩
   cases q
   obtain ⟨ob,_,_,h1,h2,_⟩:=dd
   exact ⟨ob,h1,h2.2.1⟩
section
variable {X:Cx} {pins:List (Addr×Obj)} {σ:St} {H:Hp} {s:Shared} {a:Addr} {y d:V} {u r:Value} {o:Option V} {A:Around} {E:Value→Shared→Prop}
theorem uw {Q:Value→Shared→Prop} (hu:A.units+1 < cLine) (I:Inv X pins σ H s) (g:DGet H a y o) (ry:RelV y u) (rd:RelV d r) (h:∀w' s',Inv X pins σ H s'→RelV (o.getD d) w'→Q w' s'):
 wpAny (model X.prog X.w) A (call (.builtin "dict.get") [.ref a,u,r]) Q E s:=by
 rcases g with ⟨kvs,k,e,ey,l⟩|⟨kvs,k,b,e,ey,eb,l⟩
 · subst ey
   obtain ⟨z,hd,vs,rel,dd⟩:=pI I.hok e
   refine call_meetsIn PySem.F.slot_dict_get dd.typeIs PySem.F.entry_dict_get (PySem.F.args_dict_get_3 _ _ _) (meets_dict_get_default (aN X.prog X.w) a (pb ry) hd r) ⟨_,dd.mapOf,h _ _ (I.tok _) ?_⟩
   rw [l]
   exact (rel.val k).getD rd
 · subst ey
   cases (show u=Value.ref b from ry)
   obtain ⟨z,hd,xs,rel,dd⟩:=pH I.hok e
   refine call_meetsIn PySem.F.slot_dict_get dd.typeIs PySem.F.entry_dict_get (PySem.F.args_dict_get_3 _ _ _) (meetsH_dict_get_default (tupleKind (aN X.prog X.w)) a b hd r) ⟨tupleKind_room_in1 hu,k,xs,g9 I.hok eb,dd,h _ _ (I.tok _) ?_⟩
   rw [l]
   exact (rel.val k).getD rd
end
def tG (td ty tx:TE):TE:=fun σ H Q=>td σ H fun x H1=>∃a,x= .ref a∧IsD H1 a∧ty σ H1 fun y H2=>tx σ H2 fun z H3=>∃o,DGet H3 a y o∧Q (o.getD z) H3
section
variable {X:Cx} {o e f:Expr} {apos cpos:Pos} {td ty tx:TE}
theorem ju (hu:X.A.units+1 < cLine) (ho:PE X o td) (he:PE X e ty) (hf:PE X f tx) (m:M2 X o "get" apos e f cpos):PE X (.Call (.Attribute o "get" apos) [e,f] [] cpos) (tG td ty tx):=by
 intro pins s σ H Q I h
 refine wpAny_Call_method m.base m.few m.line PySem.F.plainAttrs_dict PySem.F.slot_dict_get PySem.F.type_dict_get (thn (ho pins s σ H _ I h) fun u s1 ⟨x,H1,I1,rx,a,ex,d,q1⟩=> ?_)
 subst ex
 obtain rfl:u=Value.ref a:=rx
 obtain ⟨t1,t2,_⟩:=uh I1 d
 refine ⟨t1,t2,?_⟩
 rw [m.trees]
 refine Calls.callWith_builtin rfl (Calls.evalArgs_plain (Calls.spliced_cons (thn (he pins s1 σ H1 _ I1 q1) fun iv s2 ⟨y,H2,I2,ry,q2⟩=>
  Calls.spliced_cons (thn (hf pins s2 σ H2 _ I2 q2) fun fv s3 ⟨z,H3,I3,rz,ov,g,q3⟩=>Calls.spliced_nil ?_))))
 exact uw hu I3 g ry rz fun w' s4 I4 rw'=>⟨_,H3,I4,rw',q3⟩
end
section
variable {X:Cx} {pins:List (Addr×Obj)} {σ:St} {H:Hp} {s:Shared} {a:Addr} {kvs:List (Key×V)} {A:Around} {E:Value→Shared→Prop}
end
section
variable {X:Cx} {pins:List (Addr×Obj)} {σ:St} {H:Hp} {s:Shared} {a:Addr} {y:V} {u:Value} {A:Around} {E:Value→Shared→Prop}
end
open PySem PySem.Spec PyProof.Rows
def iy (J:It) (D:Addr) (te:TE) (rest:L2.St) (Q:VK) (H1:Hp):Prop:=
 ∃W:Nat→Nat→List V→Hp→Prop,(∃m,W 0 m [] (upd H1 D (.lst [])))∧∀i m acc H2,W i m acc H2→
  (J.stop i H2∧Q (.ref D) H2)∨
  (J.go i H2∧∀x H3,J.yld i H2 x H3→aV 0 x (none::rest) H3 fun σ4 H4=>Ext (none::rest) σ4∧cH σ4 H4 fun b H5=>if b=true then te σ4 H5 fun v H6=>H6 D=some (.lst acc)∧acc.length < sizeLine∧∃m',m' < m∧W (i+1) m' (acc++ [v]) (upd H6 D (.lst (acc++ [v])))
   else∃m',m' < m∧W (i+1) m' acc H5)
theorem bM {mp:List (Option Nat)} {wi:TI} {te:TE} {σ rest:L2.St} {H:Hp} {Q:VK} (e:subS mp σ=none::rest) (h:wi σ H fun J H1=>∀D,H1 D=none→iy J D te rest Q H1):cP mp wi (aV 0) cH te σ H Q:=by
 unfold cP
 rw [e]
 exact h
theorem qy {mp:List (Option Nat)} {wi:TI} {te:TE} {u:TS} {Z:Ends} {i:Nat} {σ rest:L2.St} {H:Hp} (e:subS mp σ=none::rest) (h:wi σ H fun J H1=>∀D,H1 D=none→iy J D te rest (fun x H2=>aV i x σ H2 (u Z)) H1):
 tSeq (tAsg (cP mp wi (aV 0) cH te) (aV i)) u Z σ H:=bM e h
def CompN (n i:Nat) (D:Addr) (acc:List V) (Pv:Nat→List V→Hp→Prop):VK:=fun v H6=>H6 D=some (.lst acc)∧acc.length < sizeLine∧∃m',m' < n - i∧(m'=n - (i+1)∧i+1≤n∧Pv (i+1) (acc++ [v]) (upd H6 D (.lst (acc++ [v]))))
theorem CompN.mk {n i:Nat} {D:Addr} {acc:List V} {Pv:Nat→List V→Hp→Prop} {v:V} {H6:Hp} (hi:i < n) (hl:acc.length < sizeLine) (h1:H6 D=some (.lst acc)) (h2:Pv (i+1) (acc++ [v]) (upd H6 D (.lst (acc++ [v])))):CompN n i D acc Pv v H6:=
 ⟨h1,hl,n - (i+1),by omega,rfl,hi,h2⟩
theorem j5 {J:It} {D:Addr} {te:TE} {rest:L2.St} {Q:VK} {H1:Hp} (n:Nat) (Pv:Nat→List V→Hp→Prop) (h0:Pv 0 [] (upd H1 D (.lst [])))
 (hgo:∀i acc H,i < n→Pv i acc H→J.go i H)
 (hs:∀i x acc H H',i < n→Pv i acc H→J.yld i H x H'→te (some x::rest) H' (CompN n i D acc Pv))
 (hd:∀acc H,Pv n acc H→J.stop n H∧Q (.ref D) H):iy J D te rest Q H1:=by
 refine ⟨fun i m acc H=>m=n - i∧i≤n∧Pv i acc H,⟨n,by simp,Nat.zero_le _,h0⟩,?_⟩
 rintro i m acc H ⟨rfl,hi,p⟩
 by_cases hlt:i < n
 · refine .inr ⟨hgo i acc H hlt p,fun x H' y=> ?_⟩
   refine ⟨ext1,?_⟩
   show (if true=true then te (some x::rest) H' (CompN n i D acc Pv) else∃m',m' < n - i∧(m'=n - (i+1)∧i+1≤n∧Pv (i+1) acc H'))
   exact iteT (hs i x acc H H' hlt p y)
 · have e:i=n:=by omega
   subst e
   exact .inl (hd acc H p)
theorem gj {K:PySem.W.Frag} {a D:Addr} {xs:List V} {te:TE} {rest:L2.St} {Q:VK} {H1:Hp} (Pv:Nat→List V→Hp→Prop) (h0:Pv 0 [] (upd H1 D (.lst [])))
 (hl:∀i acc H,Pv i acc H→SqT K H a xs)
 (hs:∀i x acc H,i < xs.length→xs[i]?=some x→Pv i acc H→te (some x::rest) H (CompN xs.length i D acc Pv))
 (hd:∀acc H,Pv xs.length acc H→Q (.ref D) H):iy (Itt K a) D te rest Q H1:=by
 refine j5 xs.length Pv h0 (fun i acc H hi p=>⟨xs,xs[i],hl i acc H p,by simp [hi]⟩) (fun i x acc H H' hi p y=> ?_) fun acc H p=>⟨⟨xs,hl _ acc H p,Nat.le_refl _⟩,hd acc H p⟩
 obtain ⟨e,y⟩:=y
 subst e
 exact hs i x acc _ hi (y xs (hl i acc _ p)) p
theorem nj {K:PySem.W.Frag} {a D:Addr} {xs:List V} {te:TE} {rest:L2.St} {Q:VK} {H1:Hp} (Pv:Nat→List V→Hp→Prop) (h0:Pv 0 [] (upd H1 D (.lst [])))
 (hl:∀i acc H,Pv i acc H→SqL K H a xs)
 (hs:∀i x acc H,i < xs.length→xs[i]?=some x→Pv i acc H→te (some x::rest) H (CompN xs.length i D acc Pv))
 (hd:∀acc H,Pv xs.length acc H→Q (.ref D) H):iy (Itl K a) D te rest Q H1:=by
 refine j5 xs.length Pv h0 (fun i acc H hi p=>⟨xs,xs[i],hl i acc H p,by simp [hi]⟩) (fun i x acc H H' hi p y=> ?_) fun acc H p=>⟨⟨xs,hl _ acc H p,Nat.le_refl _⟩,hd acc H p⟩
 obtain ⟨e,y⟩:=y
 subst e
 exact hs i x acc _ hi (y xs (hl i acc _ p)) p
theorem cM {n:Nat} {D:Addr} {te:TE} {rest:L2.St} {Q:VK} {H1:Hp} (Pv:Nat→List V→Hp→Prop) (h0:Pv 0 [] (upd H1 D (.lst [])))
 (hs:∀(i:Nat) acc H,i < n→Pv i acc H→te (some (.int (0+(i:Int)))::rest) H (CompN n i D acc Pv))
 (hd:∀acc H,Pv n acc H→Q (.ref D) H):iy (Itr 0 n) D te rest Q H1:=by
 refine j5 n Pv h0 (fun i acc H hi p=>hi) (fun i x acc H H' hi p y=> ?_) fun acc H p=>⟨Nat.le_refl _,hd acc H p⟩
 obtain ⟨e,y⟩:=y
 subst e y
 exact hs i acc _ hi p
end L2
namespace Tk
open PySem PySem.Spec PyProof.Rows L2
inductive KT where
 |lf (k:Key)
 |tp (ts:List KT)
noncomputable instance:DecidableEq KT:=Classical.typeDecidableEq KT
mutual
noncomputable def KT.depth:KT→Nat
 | .lf _=>0
 | .tp ts=>KTs.depth ts+1
noncomputable def KTs.depth:List KT→Nat
 | []=>0
 |t::ts=>max (KT.depth t) (KTs.depth ts)
end
theorem dE:∀ {ts:List KT} {t:KT},t∈ts→t.depth≤KTs.depth ts
 |a::ts,t,h=>by
  unfold KTs.depth
  rcases List.mem_cons.mp h with rfl|h
  · omega
  · have:=dE h
    omega
mutual
def KAt (h:Heap):Value→KT→Prop
 |v, .lf k=>fg k v=true
 |v, .tp ts=>∃a o items n,v= .ref a∧h.get? a=some o∧o.cls= .type "tuple"∧o.data= .seq items n∧KsAt h items.toList ts
def KsAt (h:Heap):List Value→List KT→Prop
 |vs,[]=>vs= []
 |vs,t::ts=>∃v r,vs=v::r∧KAt h v t∧KsAt h r ts
end
mutual
theorem KAt.keep {h h':Heap} (k:∀a o items n,h.get? a=some o→o.data= .seq items n→h'.get? a=some o):∀ {v:Value} {t:KT},KAt h v t→KAt h' v t
 |v, .lf k,x=>by unfold KAt at x ⊢;exact x
 |v, .tp ts,x=>by
  unfold KAt at x ⊢
  obtain ⟨a,o,items,n,e,g,c,d,r⟩:=x
  exact ⟨a,o,items,n,e,k a o items n g d,c,d,KsAt.keep k r⟩
theorem KsAt.keep {h h':Heap} (k:∀a o items n,h.get? a=some o→o.data= .seq items n→h'.get? a=some o):∀ {vs:List Value} {ts:List KT},KsAt h vs ts→KsAt h' vs ts
 |vs,[],x=>by unfold KsAt at x ⊢;exact x
 |vs,t::ts,x=>by
  unfold KsAt at x ⊢
  obtain ⟨v,r,e,x1,x2⟩:=x
  exact ⟨v,r,e,KAt.keep k x1,KsAt.keep k x2⟩
end
mutual
theorem KAt.det {h:Heap}:∀ {v:Value} {t u:KT},KAt h v t→KAt h v u→t=u
 |v, .lf k, .lf j,x,y=>by
  unfold KAt at x y
  rcases aF x with ⟨i,t,rfl,rfl⟩|⟨x',t,rfl,rfl⟩
  · rcases aF y with ⟨i',t',rfl,e⟩|⟨y',t',rfl,e⟩
    · injection e with e1 _
      rw [e1]
    · cases e
  · rcases aF y with ⟨i',t',rfl,e⟩|⟨y',t',rfl,e⟩
    · cases e
    · injection e with e1 _
      rw [e1]
 |v, .lf k, .tp us,x,y=>by
  unfold KAt at x y
  obtain ⟨a,o,items,n,rfl,_⟩:=y
  rcases aF x with ⟨i,t,rfl,e⟩|⟨x',t,rfl,e⟩<;>cases e
 |v, .tp ts, .lf k,x,y=>by
  unfold KAt at x y
  obtain ⟨a,o,items,n,rfl,_⟩:=x
  rcases aF y with ⟨i,t,rfl,e⟩|⟨x',t,rfl,e⟩<;>cases e
 |v, .tp ts, .tp us,x,y=>by
  unfold KAt at x y
  obtain ⟨a,o,items,n,rfl,g,c,d,r⟩:=x
  obtain ⟨a',o',items',n',e,g',c',d',r'⟩:=y
  injection e with e
  subst e
  rw [g] at g'
  cases g'
  rw [d] at d'
  injection d' with d1 _
  subst d1
  rw [KsAt.det r r']
theorem KsAt.det {h:Heap}:∀ {vs:List Value} {ts us:List KT},KsAt h vs ts→KsAt h vs us→ts=us
 |vs,[],[],_,_=>rfl
 |vs,[],u::us,x,y=>by
  unfold KsAt at x y
  obtain ⟨v,r,e,_⟩:=y
  rw [x] at e
  cases e
 |vs,t::ts,[],x,y=>by
  unfold KsAt at x y
  obtain ⟨v,r,e,_⟩:=x
  rw [y] at e
  cases e
 |vs,t::ts,u::us,x,y=>by
  unfold KsAt at x y
  obtain ⟨v,r,rfl,x1,x2⟩:=x
  obtain ⟨v',r',e,y1,y2⟩:=y
  cases e
  rw [KAt.det x1 y1,KsAt.det x2 y2]
end
theorem KsAt.len {h:Heap}:∀ {vs:List Value} {ts:List KT},KsAt h vs ts→vs.length=ts.length
 |vs,[],x=>by unfold KsAt at x;rw [x];rfl
 |vs,t::ts,x=>by
  unfold KsAt at x
  obtain ⟨v,r,rfl,_,x2⟩:=x
  rw [List.length_cons,List.length_cons,KsAt.len x2]
theorem KsAt.get {h:Heap}:∀ {vs:List Value} {ts:List KT} {j:Nat} {v:Value},KsAt h vs ts→vs[j]?=some v→∃t,ts[j]?=some t∧KAt h v t
 |vs,[],j,v,x,e=>by
  unfold KsAt at x
  rw [x] at e
  cases e
 |vs,t::ts,0,v,x,e=>by
  unfold KsAt at x
  obtain ⟨v',r,rfl,x1,_⟩:=x
  cases e
  exact ⟨t,rfl,x1⟩
 |vs,t::ts,j+1,v,x,e=>by
  unfold KsAt at x
  obtain ⟨v',r,rfl,_,x2⟩:=x
  exact KsAt.get (j:=j) x2 e
section
variable (prog:Program) (w:World)
mutual
noncomputable def KT.hash:KT→Int
 | .lf k=>(aN prog w).hash k
 | .tp ts=>reduceHash (Builtin.Tuple.tupleHashOf (KTs.hash ts))
noncomputable def KTs.hash:List KT→List Int
 | []=> []
 |t::ts=>KT.hash t::KTs.hash ts
end
end
mutual
noncomputable def KT.draws:KT→Nat
 | .lf _=>1
 | .tp ts=>KTs.draws ts+1
noncomputable def KTs.draws:List KT→Nat
 | []=>0
 |t::ts=>KT.draws t+KTs.draws ts
end
theorem jJ (prog:Program) (w:World):∀(a b:List KT),KTs.hash prog w (a++b)=KTs.hash prog w a++KTs.hash prog w b
 | [],b=>by simp [KTs.hash]
 |t::a,b=>by simp [KTs.hash,jJ prog w a b]
theorem ik:∀(a b:List KT),KTs.draws (a++b)=KTs.draws a+KTs.draws b
 | [],b=>by simp [KTs.draws]
 |t::a,b=>by simp [KTs.draws,ik a b,Nat.add_assoc]
section
variable {prog:Program} {w:World}
theorem rE:∀(n:Nat) {A:Around} {E:Value→Shared→Prop} {s:Shared} {t:KT} {v:Value} {Q:Int→Shared→Prop},t.depth≤n→A.units+n < cLine→KAt s.heap v t→Q (t.hash prog w) {s with toks:=s.toks+t.draws}→wpAny (model prog w) A (pyHash v) Q E s:=by
 intro n
 induction n with
 |zero=>
  intro A E s t v Q hd hu hk h
  cases t with
  |tp ts=>simp [KT.depth] at hd
  |lf k=>
   unfold KAt at hk
   simp only [KT.hash,KT.draws] at h
   exact (aN prog w).pyHash hk h
 |succ n ih=>
  intro A E s t v Q hd hu hk h
  cases t with
  |lf k=>
   unfold KAt at hk
   simp only [KT.hash,KT.draws] at h
   exact (aN prog w).pyHash hk h
  |tp ts=>
   unfold KAt at hk
   obtain ⟨a,o,items,m,rfl,g,c,d,r⟩:=hk
   have ty:s.TypeIs (.ref a) "tuple":=⟨o,g,c⟩
   have hd':KTs.depth ts≤n:=by
    unfold KT.depth at hd
    omega
   simp only [KT.hash,KT.draws] at h
   unfold pyHash
   unfold pyHashByItsType
   refine wpAny_bind (wpAny_cRoomFor_or (.inr (by omega)) (wpAny_bind (wpAny_specialOf ty F.slot_tuple_hash.lookup ?_)))
   show wpAny _ _ (if (some (Value.builtin "tuple.__hash__")==some Value.none)=true then _ else _) _ _ _
   rw [if_neg (fun z=>by rw [beq_builtin_none] at z;cases z)]
   refine wpAny_bind (wpAny_specialOf ty F.slot_tuple_hash.lookup ?_)
   show wpAny _ _ (do let y←callSpecialIfBoundUnlessNone? (.ref a) "__hash__" _;_) _ _ _
   refine wpAny_bind (wpAny_callSpecialIfBoundUnlessNone?_slot ty F.slot_tuple_hash (wpAny_call_entry F.slot_tuple_hash ty F.entry_tuple_hash ?_ (F.args_tuple_hash_1 _)))
   show wpAny _ _ (do let y←Builtin.Tuple.tupleItemsOf (.ref a);_) _ _ _
   refine wpAny_bind (wpAny_tupleItemsOf g d (wpAny_bind ?_))
   rw [←Array.forIn_toList]
   refine wpAny_forIn_list _ (fun rest (b:Array Int) s'=>∃done left,ts=done++left∧KsAt s.heap rest left∧b.toList=KTs.hash prog w done∧s'= {s with toks:=s.toks+KTs.draws done}) _ ?_ ?_ _ _ ⟨[],ts,rfl,r,rfl,by simp [KTs.draws]⟩
   · rintro x rest b s' ⟨done,left,rfl,hl,hb,rfl⟩
     cases left with
     |nil=>
      unfold KsAt at hl
      cases hl
     |cons t left=>
      unfold KsAt at hl
      obtain ⟨v,rr,e,h1,h2⟩:=hl
      cases e
      have dt:t.depth≤n:=by
       have:=dE (show t∈done++t::left by simp)
       omega
      refine wpAny_bind (ih (s:= {s with toks:=s.toks+KTs.draws done}) dt (by first|(show A.units+1+n < cLine;omega)|(show A.units+n < cLine;omega)) h1 ?_)
      have fin:∃done' left',done++t::left=done'++left'∧KsAt s.heap rest left'∧(b.push (KT.hash prog w t)).toList=KTs.hash prog w done'∧({s with toks:=s.toks+KTs.draws done+t.draws}:Shared)= {s with toks:=s.toks+KTs.draws done'}:=by
       refine ⟨done++ [t],left,by simp,h2,by rw [jJ,Array.toList_push,hb];simp [KTs.hash],?_⟩
       rw [ik]
       simp [KTs.draws,Nat.add_assoc]
      first
       |exact wpAny_pure fin
       |exact wpAny_bind (wpAny_pure (wpAny_pure fin))
   · rintro b s' ⟨done,left,rfl,hl,hb,rfl⟩
     cases left with
     |cons t left=>
      unfold KsAt at hl
      obtain ⟨v,rr,e,_⟩:=hl
      cases e
     |nil=>
      rw [List.append_nil] at h
      show wpAny _ _ (retInt (Builtin.Tuple.tupleHashOf b.toList)) _ _ _
      rw [hb]
      refine wpAny_ret_mkInt ?_
      show wpAny _ _ (if (decide (-(2:Int)^63≤Builtin.Tuple.tupleHashOf (KTs.hash prog w done))&&decide (Builtin.Tuple.tupleHashOf (KTs.hash prog w done) < 2^63))=true then _ else _) _ _ _
      unfold reduceHash at h
      by_cases hr:(decide (-(2:Int)^63≤Builtin.Tuple.tupleHashOf (KTs.hash prog w done))&&decide (Builtin.Tuple.tupleHashOf (KTs.hash prog w done) < 2^63))=true
      · rw [if_pos hr] at h ⊢
        exact wpAny_pure (by simpa [Nat.add_assoc] using h)
      · rw [if_neg hr] at h ⊢
        exact wpAny_bind (wpAny_rule (wpAny_pure (by simpa [Nat.add_assoc] using h)))
end
open PySem PySem.Spec PyProof.Rows L2
theorem rS {ts us:List KT}:((List.range (min ts.length us.length)).all (fun j=>decide (ts[j]?=us[j]?))&&ts.length==us.length)=decide (ts=us):=by
 by_cases h:ts=us
 · subst h
   simp
 · rw [decide_eq_false h]
   by_cases hl:ts.length=us.length
   · have:∃j,j < ts.length∧ts[j]?≠us[j]?:=by
      refine Classical.byContradiction fun n=>h (List.ext_getElem? fun j=> ?_)
      by_cases hj:j < ts.length
      · exact Classical.byContradiction fun z=>n ⟨j,hj,z⟩
      · rw [List.getElem?_eq_none (by omega),List.getElem?_eq_none (by omega)]
     obtain ⟨j,hj,ne⟩:=this
     rw [Bool.and_eq_false_iff]
     left
     refine List.all_eq_false.mpr ⟨j,List.mem_range.mpr (by omega),?_⟩
     simp [ne]
   · rw [Bool.and_eq_false_iff]
     right
     simp [hl]
theorem vh:∀(n:Nat) {A:Around} {s:Shared} {t u:KT} {a b:Value},t.depth≤n→A.units+n+1 < cLine→KAt s.heap a t→KAt s.heap b u→SeqAt.EqAt A s a b (decide (t=u)):=by
 intro n
 induction n with
 |zero=>
  intro A s t u a b hd hu h1 h2
  cases t with
  |tp ts=>simp [KT.depth] at hd
  |lf k=>
   unfold KAt at h1
   cases u with
   |lf j=>
    unfold KAt at h2
    intro prog w E Q q
    refine (aN prog w).eqBool h1 h2 ?_
    have e:decide (k=j)=decide (KT.lf k=KT.lf j):=by simp
    rw [e]
    exact q
   |tp us=>
    unfold KAt at h2
    obtain ⟨r,o,items,m,rfl,g,c,d,_⟩:=h2
    rw [decide_eq_false (by intro z;cases z)]
    rcases aF h1 with ⟨i,t,rfl,rfl⟩|⟨x,t,rfl,rfl⟩
    · exact SeqAt.EqAt.int_tuple i t (items:=items) ⟨o,g,c,m,d⟩ (by omega)
    · exact SeqAt.EqAt.str_tuple x t (items:=items) ⟨o,g,c,m,d⟩ (by omega)
 |succ n ih=>
  intro A s t u a b hd hu h1 h2
  cases t with
  |lf k=>
   unfold KAt at h1
   cases u with
   |lf j=>
    unfold KAt at h2
    intro prog w E Q q
    refine (aN prog w).eqBool h1 h2 ?_
    have e:decide (k=j)=decide (KT.lf k=KT.lf j):=by simp
    rw [e]
    exact q
   |tp us=>
    unfold KAt at h2
    obtain ⟨r,o,items,m,rfl,g,c,d,_⟩:=h2
    rw [decide_eq_false (by intro z;cases z)]
    rcases aF h1 with ⟨i,t,rfl,rfl⟩|⟨x,t,rfl,rfl⟩
    · exact SeqAt.EqAt.int_tuple i t (items:=items) ⟨o,g,c,m,d⟩ (by omega)
    · exact SeqAt.EqAt.str_tuple x t (items:=items) ⟨o,g,c,m,d⟩ (by omega)
  |tp ts=>
   have h1':=h1
   have h2':=h2
   unfold KAt at h1
   obtain ⟨r,o,items,m,rfl,g,c,d,k1⟩:=h1
   cases u with
   |lf j=>
    unfold KAt at h2
    rw [decide_eq_false (by intro z;cases z)]
    rcases aF h2 with ⟨i,t,rfl,rfl⟩|⟨x,t,rfl,rfl⟩
    · exact SeqAt.EqAt.tuple_int i t (items:=items) ⟨o,g,c,m,d⟩ (by omega)
    · exact SeqAt.EqAt.tuple_str x t (items:=items) ⟨o,g,c,m,d⟩ (by omega)
   |tp us=>
    unfold KAt at h2
    obtain ⟨r',o',items',m',rfl,g',c',d',k2⟩:=h2
    by_cases z:r=r'
    · subst z
      rw [decide_eq_true (KAt.det h1' h2')]
      exact SeqAt.EqAt.same _
    · have hd':KTs.depth ts≤n:=by
       unfold KT.depth at hd
       omega
      have l1:=k1.len
      have l2:=k2.len
      have:=SeqAt.RcAt.tuples (A:=A) (e:=fun j=>decide (ts[j]?=us[j]?)) (show s.heap.IsTuple r items from ⟨o,g,c,m,d⟩) (show s.heap.IsTuple r' items' from ⟨o',g',c',m',d'⟩) (by omega) fun j g1 g2=>by
       obtain ⟨t1,e1,a1⟩:=k1.get (j:=j) (v:=items[j]) (by rw [Array.getElem?_toList];simp [g1])
       obtain ⟨t2,e2,a2⟩:=k2.get (j:=j) (v:=items'[j]) (by rw [Array.getElem?_toList];simp [g2])
       have e:decide (ts[j]?=us[j]?)=decide (t1=t2):=by rw [e1,e2];simp
       rw [e]
       refine ih (A:=A.in1) ?_ (by show A.units+1+n+1 < cLine;omega) a1 a2
       have:=dE (List.mem_of_getElem? e1)
       omega
      have hs1:items.size=ts.length:=by rw [←l1,Array.length_toList]
      have hs2:items'.size=us.length:=by rw [←l2,Array.length_toList]
      rw [hs1,hs2,rS] at this
      have e:decide (KT.tp ts=KT.tp us)=decide (ts=us):=by simp
      rw [e]
      exact SeqAt.EqAt.of_refs z this
theorem oq:∀(n:Nat) {prog:Program} {w:World} {A:Around} {E:Value→Shared→Prop} {s:Shared} {t:KT} {v:Value} {Q:Bool→Shared→Prop},KAt s.heap v t→t.depth≤n→Q true s→wpAny (model prog w) A (eqIsQuiet n v) Q E s:=by
 have leaf:∀(n:Nat) {prog:Program} {w:World} {A:Around} {E:Value→Shared→Prop} {s:Shared} {k:Key} {v:Value} {Q:Bool→Shared→Prop},fg k v=true→Q true s→wpAny (model prog w) A (eqIsQuiet n v) Q E s:=by
  intro n prog w A E s k v Q h q
  rw [eqIsQuiet_byValue _ ((aN prog w).byValue k v h)]
  exact wpAny_pure q
 intro n
 induction n with
 |zero=>
  intro prog w A E s t v Q h hd q
  cases t with
  |tp ts=>simp [KT.depth] at hd
  |lf k=>
   unfold KAt at h
   exact leaf 0 h q
 |succ n ih=>
  intro prog w A E s t v Q h hd q
  cases t with
  |lf k=>
   unfold KAt at h
   exact leaf _ h q
  |tp ts=>
   unfold KAt at h
   obtain ⟨a,o,items,m,rfl,g,c,d,r⟩:=h
   have ty:s.TypeIs (.ref a) "tuple":=⟨o,g,c⟩
   have hd':KTs.depth ts≤n:=by
    unfold KT.depth at hd
    omega
   unfold eqIsQuiet
   refine wpAny_bind (wpAny_specialOf ty F.slot_tuple_eq.lookup ?_)
   show wpAny _ _ (do let y←isInstance (.ref a) (.type "tuple");_) _ _ _
   refine wpAny_bind (wpAny_isInstance ty isSubtype_tuple_tuple ?_)
   simp only [Bool.not_true,if_false,Bool.false_eq_true]
   refine wpAny_bind (wpAny_seqItems g d (wpAny_bind ?_))
   show wpAny _ _ (forIn items _ _) _ _ _
   rw [←Array.forIn_toList]
   refine wpAny_forIn_list _ (fun rest b s'=>b.1=none∧s'=s∧∃left,KsAt s.heap rest left∧KTs.depth left≤n) _ ?_ ?_ _ _ ⟨rfl,rfl,ts,r,hd'⟩
   · rintro x rest b s' ⟨hb,rfl,left,hl,hd2⟩
     cases left with
     |nil=>
      unfold KsAt at hl
      cases hl
     |cons t left=>
      unfold KsAt at hl
      obtain ⟨v,rr,e,h1,h2⟩:=hl
      cases e
      unfold KTs.depth at hd2
      refine wpAny_bind (ih h1 (by omega) ?_)
      simp only [Bool.not_true,if_false,Bool.false_eq_true]
      exact wpAny_pure ⟨rfl,rfl,left,h2,by omega⟩
   · rintro ⟨b1,b2⟩ s' ⟨hb,rfl,_⟩
     simp only at hb
     subst hb
     exact wpAny_pure q
noncomputable def treeKind (prog:Program) (w:World):HeapKind prog w (List KT) where
 is:=fun h ts a=>KAt h (.ref a) (.tp ts)∧(KT.tp ts).depth≤8
 hash:=fun ts=>(KT.tp ts).hash prog w
 draws:=fun ts=>(KT.tp ts).draws
 room:=fun A=>A.units+20 < cLine
 inj:=fun x y=>by
  have:=KAt.det x.1 y.1
  injection this
 keeps:=fun {h h' k a d o es ep} x g hd sb=>⟨x.1.keep fun b ob items n e dt=>by
  have ne:b≠d:=fun z=>by
   subst z
   rw [g] at e
   cases e
   rw [hd] at dt
   cases dt
  exact (sb.2 b ne).trans e,x.2⟩
 pyHash:=fun hu x q=>rE 8 x.2 (by omega) x.1 q
 eqBool:=fun {A E s x y a b Q} hu hx hy q=>by
  refine vh 8 (t:= .tp x) (u:= .tp y) hx.2 (by omega) hx.1 hy.1 prog w E Q ?_
  have e:decide (KT.tp x=KT.tp y)=decide (x=y):=by simp
  rw [e]
  exact q
 quiet:=fun x q=>oq 8 x.1 x.2 q
end Tk
namespace Dj
open PySem PySem.Spec PyProof.Rows L2 Tre
def SqX (K:PySem.W.Frag) (H:Hp) (a:Addr) (xs:List V):Prop:=
 H a=some (.tup xs)∨∃(o:Obj) (its:Array Value) (n:Nat),K.lookup a=some o∧o.cls= .type "tuple"∧o.data= .seq its n∧its.size≤sizeLine∧Vals xs its.toList
theorem SqX.sq {K:PySem.W.Frag} {H:Hp} {a:Addr} {xs:List V} (h:SqX K H a xs):SqT K H a xs:=h.elim (fun e=> .inl (.inl e)) .inr
theorem SqX.mono {K:PySem.W.Frag} {H H':Hp} {a:Addr} {xs:List V} (d:Kd H H') (h:SqX K H a xs):SqX K H' a xs:=h.elim (fun e=> .inl (d.tup _ _ e)) .inr
mutual
def KVt (K:PySem.W.Frag) (H:Hp):V→Tk.KT→Prop
 |v, .lf (.inl i)=>v= .int i
 |v, .lf (.inr x)=>v= .str x
 |v, .tp ts=>∃r vs,v= .ref r∧SqX K H r vs∧KVts K H vs ts
def KVts (K:PySem.W.Frag) (H:Hp):List V→List Tk.KT→Prop
 |vs,[]=>vs= []
 |vs,t::ts=>∃v r,vs=v::r∧KVt K H v t∧KVts K H r ts
end
section
variable {P:Program} {w:World} {K:PySem.W.Frag} {H H':Hp} {h:Heap}
mutual
theorem KVt.mono (d:Kd H H'):∀ {v:V} {t:Tk.KT},KVt K H v t→KVt K H' v t
 |v, .lf (.inl i),a=>by unfold KVt at a ⊢;exact a
 |v, .lf (.inr x),a=>by unfold KVt at a ⊢;exact a
 |v, .tp ts,a=>by
  unfold KVt at a ⊢
  obtain ⟨r,vs,e,s,q⟩:=a
  exact ⟨r,vs,e,s.mono d,KVts.mono d q⟩
theorem KVts.mono (d:Kd H H'):∀ {vs:List V} {ts:List Tk.KT},KVts K H vs ts→KVts K H' vs ts
 |vs,[],a=>by unfold KVts at a ⊢;exact a
 |vs,t::ts,a=>by
  unfold KVts at a ⊢
  obtain ⟨v,r,e,a1,a2⟩:=a
  exact ⟨v,r,e,KVt.mono d a1,KVts.mono d a2⟩
end
theorem tI (ok:HOk P w H h) (kin:K.In h) {q:Addr} {vs:List V} (e:SqX K H q vs):∃its:List Value,Vals vs its∧∃o n,h.get? q=some o∧o.cls= .type "tuple"∧o.data= .seq its.toArray n:=by
 rcases e with e|⟨o,its,n,hk,hc,hs,hz,r⟩
 · obtain ⟨_,its,rv,o,h1,h2,n,h3⟩:=(show ObjOk P w H h q (.tup vs) from ok q _ e)
   exact ⟨its,rv,o,n,h1,h2,h3⟩
 · exact ⟨its.toList,r,o,n,kin q o hk,hc,by simpa using hs⟩
mutual
theorem p9 (ok:HOk P w H h) (kin:K.In h):∀ {v:V} {t:Tk.KT} {u:Value},KVt K H v t→RelV v u→Tk.KAt h u t
 |v, .lf (.inl i),u,a,r=>by
  unfold KVt at a
  subst a
  obtain ⟨t,rfl⟩:=r
  simp only [Tk.KAt]
  exact ic i t
 |v, .lf (.inr x),u,a,r=>by
  unfold KVt at a
  subst a
  obtain ⟨t,rfl⟩:=r
  simp only [Tk.KAt]
  exact i9 x t
 |v, .tp ts,u,a,r=>by
  unfold KVt at a
  obtain ⟨q,vs,rfl,e,as⟩:=a
  obtain rfl:u=Value.ref q:=r
  obtain ⟨its,rv,o,n,h1,h2,h3⟩:=tI ok kin e
  simp only [Tk.KAt]
  exact ⟨q,o,its.toArray,n,rfl,h1,h2,h3,by simpa using kats_of ok kin as rv⟩
theorem kats_of (ok:HOk P w H h) (kin:K.In h):∀ {vs:List V} {ts:List Tk.KT} {us:List Value},KVts K H vs ts→Vals vs us→Tk.KsAt h us ts
 |vs,[],us,a,r=>by
  unfold KVts at a
  subst a
  cases r
  simp [Tk.KsAt]
 |vs,t::ts,us,a,r=>by
  unfold KVts at a
  obtain ⟨v,q,rfl,a1,a2⟩:=a
  cases r with
  |cons r1 r2=>
   simp only [Tk.KsAt]
   exact ⟨_,_,rfl,p9 ok kin a1 r1,kats_of ok kin a2 r2⟩
end
end
def KeyAt (K:PySem.W.Frag) (H:Hp) (k:List Tk.KT) (b:Addr):Prop:=∃vs,SqX K H b vs∧KVts K H vs k∧(Tk.KT.tp k).depth≤8
theorem KeyAt.mono {K:PySem.W.Frag} {H H':Hp} {k:List Tk.KT} {b:Addr} (d:Kd H H') (h:KeyAt K H k b):KeyAt K H' k b:=by
 obtain ⟨ts,h1,h2,h3⟩:=h
 exact ⟨ts,h1.mono d,h2.mono d,h3⟩
theorem KeyAt.is {P:Program} {w:World} {K:PySem.W.Frag} {H:Hp} {h:Heap} {k:List Tk.KT} {b:Addr} (ok:HOk P w H h) (kin:K.In h) (x:KeyAt K H k b):(Tk.treeKind P w).is h k b:=by
 obtain ⟨vs,h1,h2,h4⟩:=x
 have:=p9 ok kin (v:= .ref b) (t:= .tp k) (u:= .ref b) (by unfold KVt;exact ⟨b,vs,rfl,h1,h2⟩) rfl
 exact ⟨this,h4⟩
abbrev Ent:=List Tk.KT×Addr×V
abbrev RE:List Ent→List (List Tk.KT×Addr×Value)→Prop:=Paired fun p q=>p.1=q.1∧p.2.1=q.2.1∧RelV p.2.2 q.2.2
noncomputable def dJ (P:Program) (w:World) (a:Addr) (kvs:List Ent):HO:= .ext fun h=>kvs.length≤sizeLine∧(a==sysModules)=false∧
 ∃xs:List (List Tk.KT×Addr×Value),RE kvs xs∧∃o es ep,h.get? a=some o∧o.ExactDict∧o.data= .dict es ep∧es.toList=xs.map (entryOfKey (Tk.treeKind P w))∧(xs.map (·.1)).Nodup
structure DJ (P:Program) (w:World) (K:PySem.W.Frag) (H:Hp) (a:Addr) (kvs:List Ent):Prop where
 at_:H a=some (dJ P w a kvs)
 keys:∀p∈kvs,KeyAt K H p.1 p.2.1
noncomputable def valJ (kvs:List Ent) (k:List Tk.KT):Option V:=(kvs.find? fun p=>decide (p.1=k)).map (·.2.2)
noncomputable def putJ (kvs:List Ent) (k:List Tk.KT) (b:Addr) (v:V):List Ent:=
 if (valJ kvs k).isSome then kvs.map (fun p=>if p.1=k then (p.1,p.2.1,v) else p) else kvs++ [(k,b,v)]
theorem bv {p:Ent} {r:List Ent} {k:List Tk.KT} (e:p.1=k):valJ (p::r) k=some p.2.2:=by simp [valJ,List.find?_cons,e]
theorem bw {p:Ent} {r:List Ent} {k:List Tk.KT} (e:¬p.1=k):valJ (p::r) k=valJ r k:=by simp [valJ,List.find?_cons,e]
theorem jh (k j:List Tk.KT) (y:V):∀kvs:List Ent,valJ (kvs.map fun p=>if p.1=k then (p.1,p.2.1,y) else p) j=(valJ kvs j).map fun x=>if j=k then y else x
 | []=>rfl
 |p::r=>by
  have ih:=jh k j y r
  rw [List.map_cons]
  by_cases h:p.1=k
  · rw [if_pos h]
    by_cases e:p.1=j
    · rw [bv (p:=(p.1,p.2.1,y)) e,bv e,Option.map_some,if_pos (e.symm.trans h)]
    · rw [bw (p:=(p.1,p.2.1,y)) e,bw e,ih]
  · rw [if_neg h]
    by_cases e:p.1=j
    · rw [bv (p:=p) e,bv e,Option.map_some,if_neg (fun z=>h (e.trans z))]
    · rw [bw (p:=p) e,bw e,ih]
theorem hB (k j:List Tk.KT) (b:Addr) (y:V):∀kvs:List Ent,valJ kvs k=none→valJ (kvs++ [(k,b,y)]) j=if j=k then some y else valJ kvs j
 | [],_=>by
  by_cases e:k=j
  · rw [if_pos e.symm];exact bv (p:=(k,b,y)) e
  · rw [if_neg (fun z=>e z.symm)];exact bw (p:=(k,b,y)) e
 |p::r,hn=>by
  rw [List.cons_append]
  have hk:¬p.1=k:=fun z=>by rw [bv z] at hn;cases hn
  rw [bw hk] at hn
  have ih:=hB k j b y r hn
  by_cases e:p.1=j
  · rw [bv e,bv e,if_neg (fun z=>hk (e.trans z))]
  · rw [bw e,bw e,ih]
theorem nB (kvs:List Ent) (k j:List Tk.KT) (b:Addr) (y:V):valJ (putJ kvs k b y) j=if j=k then some y else valJ kvs j:=by
 unfold putJ
 cases q:valJ kvs k with
 |none=>rw [if_neg (by simp)];exact hB k j b y kvs q
 |some x=>
  rw [if_pos (by rfl),jh]
  by_cases e:j=k
  · rw [if_pos e,e,q,Option.map_some,if_pos rfl]
  · rw [if_neg e]
    cases valJ kvs j with
    |none=>rfl
    |some z=>rw [Option.map_some,if_neg e]
theorem fe (kvs:List Ent) (k:List Tk.KT) (b:Addr) (v:V):(putJ kvs k b v).length≤kvs.length+1:=by
 unfold putJ
 split
 · rw [List.length_map];omega
 · rw [List.length_append,List.length_cons,List.length_nil];omega
theorem RE.val {kvs:List Ent} {xs:List (List Tk.KT×Addr×Value)} (r:RE kvs xs) (k:List Tk.KT):RelO (valJ kvs k) ((atKey xs k).map (·.2)):=by
 induction r with
 |nil=>exact True.intro
 | @cons p q ps qs h t ih=>
  obtain ⟨h1,_,h2⟩:=h
  by_cases e:p.1=k
  · have e':q.1=k:=h1.symm.trans e
    have b:atKey (q::qs) k=some q.2:=by simp [atKey,List.find?_cons,e']
    rw [bv e,b];exact h2
  · have e':¬q.1=k:=fun z=>e (h1.trans z)
    have b:atKey (q::qs) k=atKey qs k:=by simp [atKey,List.find?_cons,e']
    rw [bw e,b];exact ih
theorem RE.repl {kvs:List Ent} {xs:List (List Tk.KT×Addr×Value)} (r:RE kvs xs) (k:List Tk.KT) {y:V} {u:Value} (ry:RelV y u):
 RE (kvs.map fun p=>if p.1=k then (p.1,p.2.1,y) else p) (xs.map (putAt k u)):=by
 induction r with
 |nil=>exact .nil
 | @cons p q ps qs h t ih=>
  rw [List.map_cons,List.map_cons]
  refine .cons ?_ ih
  obtain ⟨h1,h2,h3⟩:=h
  unfold putAt
  by_cases e:p.1=k
  · rw [if_pos e,if_pos (h1.symm.trans e)];exact ⟨h1,h2,ry⟩
  · rw [if_neg e,if_neg (fun z=>e (h1.trans z))];exact ⟨h1,h2,h3⟩
theorem RE.put {kvs:List Ent} {xs:List (List Tk.KT×Addr×Value)} (r:RE kvs xs) (k:List Tk.KT) {b:Addr} {y:V} {u:Value} (ry:RelV y u):RE (putJ kvs k b y) (storedH xs k b u):=by
 have e:(valJ kvs k).isSome=(atKey xs k).isSome:=by
  rw [(r.val k).isSome_eq,Option.isSome_map]
 unfold putJ storedH
 rw [e]
 by_cases q:(atKey xs k).isSome=true
 · rw [if_pos q,if_pos q];exact r.repl k ry
 · rw [if_neg q,if_neg q];exact Paired.snoc r ⟨rfl,rfl,ry⟩
theorem ou {kvs:List Ent} {k:List Tk.KT} {b:Addr} {v:V} {p:Ent} (h:p∈putJ kvs k b v):(∃q∈kvs,p.1=q.1∧p.2.1=q.2.1)∨(p.1=k∧p.2.1=b):=by
 unfold putJ at h
 split at h
 · obtain ⟨q,m,e⟩:=List.mem_map.mp h
   split at e
   · subst e;exact .inl ⟨q,m,rfl,rfl⟩
   · subst e;exact .inl ⟨q,m,rfl,rfl⟩
 · rcases List.mem_append.mp h with m|m
   · exact .inl ⟨p,m,rfl,rfl⟩
   · rw [List.mem_singleton.mp m];exact .inr ⟨rfl,rfl⟩
theorem Kd.updJ {P:Program} {w:World} {H:Hp} {a:Addr} {kvs:List Ent} {o:HO} (h:H a=some (dJ P w a kvs)):Kd H (upd H a o):=by
 refine ⟨fun b zs e=> ?_,fun b zs e=>⟨zs,?_⟩⟩
 · rw [ai (fun z=>by rw [z,h] at e;cases e)];exact e
 · rw [ai (fun z=>by rw [z,h] at e;cases e)];exact e
theorem Kd.updK {H:Hp} {a:Addr} {kvs:List (Key×V)} {o:HO} (h:H a=some (.dK kvs)):Kd H (upd H a o):=by
 refine ⟨fun b zs e=> ?_,fun b zs e=>⟨zs,?_⟩⟩
 · rw [ai (fun z=>by rw [z,h] at e;cases e)];exact e
 · rw [ai (fun z=>by rw [z,h] at e;cases e)];exact e
theorem DJ.put {P:Program} {w:World} {K:PySem.W.Frag} {H:Hp} {a b:Addr} {kvs:List Ent} {k:List Tk.KT} {v:V} (d:DJ P w K H a kvs) (hk:KeyAt K H k b):DJ P w K (upd H a (dJ P w a (putJ kvs k b v))) a (putJ kvs k b v):=by
 refine ⟨a9,fun p m=> ?_⟩
 refine KeyAt.mono (Kd.updJ d.at_) ?_
 rcases ou m with ⟨q,mq,e1,e2⟩|⟨e1,e2⟩
 · rw [e1,e2];exact d.keys q mq
 · rw [e1,e2];exact hk
theorem DJ.kd {P:Program} {w:World} {K:PySem.W.Frag} {H H':Hp} {a:Addr} {kvs:List Ent} (d:DJ P w K H a kvs) (k:Kd H H') (e:H' a=some (dJ P w a kvs)):DJ P w K H' a kvs:=⟨e,fun p m=>(d.keys p m).mono k⟩
section
variable {P:Program} {w:World} {H:Hp} {h:Heap} {a:Addr}
theorem pK {K:PySem.W.Frag} {kvs:List Ent} (ok:HOk P w H h) (kin:K.In h) (d:DJ P w K H a kvs):kvs.length≤sizeLine∧(a==sysModules)=false∧∃xs,RE kvs xs∧h.DictOfH (Tk.treeKind P w) a xs:=by
 obtain ⟨⟨z,y,xs,r,o,es,ep,h1,h2,h3,h4,h5⟩,_⟩:=(show ObjOk P w H h a (dJ P w a kvs) from ok a _ d.at_)
 refine ⟨z,y,xs,r,o,es,ep,h1,h2,h3,h4,?_,h5⟩
 have all:∀ {l:List Ent} {m:List (List Tk.KT×Addr×Value)},RE l m→(∀p∈l,KeyAt K H p.1 p.2.1)→∀x∈m,(Tk.treeKind P w).is h x.1 x.2.1:=by
  intro l m q
  induction q with
  |nil=>intro _ x hx;exact nomatch hx
  | @cons p q ps qs hq t ih=>
   intro kp x hx
   rcases List.mem_cons.mp hx with e|hx
   · subst e
     rw [←hq.1,←hq.2.1]
     exact (kp p List.mem_cons_self).is ok kin
   · exact ih (fun p m=>kp p (List.mem_cons_of_mem _ m)) x hx
 exact all r d.keys
theorem pL {kvs:List Ent} {xs:List (List Tk.KT×Addr×Value)} {H':Hp} {h':Heap} (z:kvs.length≤sizeLine) (y:(a==sysModules)=false) (r:RE kvs xs)
 (d:∃o es ep,h'.get? a=some o∧o.ExactDict∧o.data= .dict es ep∧es.toList=xs.map (entryOfKey (Tk.treeKind P w))∧(xs.map (·.1)).Nodup):ObjOk P w H' h' a (dJ P w a kvs):=by
 obtain ⟨o,es,ep,h1,h2⟩:=d
 refine ⟨⟨z,y,xs,r,o,es,ep,h1,h2⟩,⟨o,h1⟩,?_⟩
 rintro g1 g2 ⟨z,y,xs,r,o,es,ep,h1,h2⟩ st
 exact ⟨z,y,xs,r,o,es,ep,st _ h1,h2⟩
end
noncomputable def nY (P:Program) (w:World):TE:=fun _ H Q=>∀p,H p=none→Q (.ref p) (upd H p (dJ P w p []))
noncomputable def oj (P:Program) (w:World) (K:PySem.W.Frag) (td ty tv:TE):TS:=fun D σ H=>tv σ H fun v H1=>td σ H1 fun x H2=>ty σ H2 fun y H3=>∃a b k kvs,x= .ref a∧y= .ref b∧DJ P w K H3 a kvs∧KeyAt K H3 k b∧kvs.length < sizeLine∧D.nx σ (upd H3 a (dJ P w a (putJ kvs k b v)))
noncomputable def o0 (P:Program) (w:World) (K:PySem.W.Frag) (td ty tx:TE):TE:=fun σ H Q=>td σ H fun x H1=>∃a kvs,x= .ref a∧DJ P w K H1 a kvs∧ty σ H1 fun y H2=>tx σ H2 fun z H3=>∃b k,y= .ref b∧DJ P w K H3 a kvs∧KeyAt K H3 k b∧Q ((valJ kvs k).getD z) H3
section
variable {X:Cx} {pos pos' apos cpos:Pos} {o i e f value:Expr} {td ty tv tx:TE}
theorem pM {P:Program} {w:World} {H:Hp} (h:Heap) (hb:sysModules < h.objs.size):ObjOk P w H (h.push {cls:= .type "dict",data:= .dict #[]}) h.objs.size (dJ P w h.objs.size []):=
 pL (Nat.zero_le _) (beq_eq_false_iff_ne.mpr (Ne.symm (Nat.ne_of_lt hb))) .nil ⟨_, #[],0,Heap.get?_push_size _ rfl,⟨rfl,rfl,rfl⟩,rfl,rfl,List.nodup_nil⟩
theorem oD:PE X (.Dict [] [] pos) (nY X.prog X.w):=fun pins s σ H Q I h=>
 wpAny_Dict_empty ⟨.ref s.heap.objs.size,_,I.laid (a:=s.heap.objs.size) (o:=dJ X.prog X.w s.heap.objs.size []) (t':=s.toks) (fun _ _ q=>Heap.get?_push_of_some _ q) (Nat.le_refl _) (pM s.heap I.big),rfl,h _ (I.hok.fresh (Nat.le_refl _))⟩
theorem oz (hu:X.A.units+30 < cLine) (ho:PE X o td) (hi:PE X i ty) (hv:PE X value tv) (hs:swapsWith value (some (.Subscript o i pos')) pos.line X.env=pure false):
 PS X (.Assign [.Subscript o i pos'] value pos) (oj X.prog X.w X.K td ty tv):=by
 intro pins s σ H D I h
 refine wpAny_Assign_Subscript (thn (hv pins s σ H _ I h) fun r s1 ⟨v,H1,I1,rv,q1⟩=>thn (ho pins s1 σ H1 _ I1 q1) fun u s2 ⟨x,H2,I2,rx,q2⟩=>thn (hi pins s2 σ H2 _ I2 q2) fun iv s3 ⟨y,H3,I3,ry,a,b,k,kvs,ex,ey,d,kb,hl,q3⟩=> ?_) hs
 subst ex ey
 obtain rfl:u=Value.ref a:=rx
 obtain rfl:iv=Value.ref b:=ry
 obtain ⟨z,hd,xs,rel,dd⟩:=pK I3.hok I3.kIn d
 have hz:xs.length≤sizeLine:=by rw [←Paired.length rel];exact z
 have hl2:(putJ kvs k b v).length≤sizeLine:=by have:=fe kvs k b v;omega
 refine wpAny_setItem_heap (hsz:=hz) (by show X.A.units+1+20 < cLine;omega) (kb.is I3.hok I3.kIn) dd fun h' dd' hs=>⟨σ,_,?_,q3⟩
 obtain ⟨q,es,ep,hq,h2,h3,h4,_,h5⟩:=dd'
 exact j4 I3 (by rw [d.at_];exact True.intro) hs ⟨q,hq⟩ (pL hl2 hd (rel.put k rv) ⟨q,es,ep,hq,h2,h3,h4,h5⟩)
theorem oF (hu:X.A.units+30 < cLine) (ho:PE X o td) (he:PE X e ty) (hf:PE X f tx) (m:M2 X o "get" apos e f cpos):PE X (.Call (.Attribute o "get" apos) [e,f] [] cpos) (o0 X.prog X.w X.K td ty tx):=by
 intro pins s σ H Q I h
 refine wpAny_Call_method m.base m.few m.line PySem.F.plainAttrs_dict PySem.F.slot_dict_get PySem.F.type_dict_get (thn (ho pins s σ H _ I h) fun u s1 ⟨x,H1,I1,rx,a,kvs,ex,d,q1⟩=> ?_)
 subst ex
 obtain rfl:u=Value.ref a:=rx
 have ty0:s1.TypeIs (.ref a) "dict"∧∀b,Value.ref a= .ref b→∃ob,s1.heap.get? b=some ob∧ob.dict=none:=by
  obtain ⟨_,_,xs,_,dd⟩:=pK I1.hok I1.kIn d
  refine ⟨dd.typeIs,fun b q=> ?_⟩
  cases q
  obtain ⟨ob,_,_,h1,h2,_⟩:=dd
  exact ⟨ob,h1,h2.2.1⟩
 refine ⟨ty0.1,ty0.2,?_⟩
 rw [m.trees]
 refine Calls.callWith_builtin rfl (Calls.evalArgs_plain (Calls.spliced_cons (thn (he pins s1 σ H1 _ I1 q1) fun iv s2 ⟨y,H2,I2,ry,q2⟩=>
  Calls.spliced_cons (thn (hf pins s2 σ H2 _ I2 q2) fun fv s3 ⟨z,H3,I3,rz,b,k,ey,d3,kb,q3⟩=>Calls.spliced_nil ?_))))
 subst ey
 obtain rfl:iv=Value.ref b:=ry
 obtain ⟨_,hd,xs,rel,dd⟩:=pK I3.hok I3.kIn d3
 exact call_meetsIn PySem.F.slot_dict_get dd.typeIs PySem.F.entry_dict_get (PySem.F.args_dict_get_3 _ _ _) (meetsH_dict_get_default (Tk.treeKind X.prog X.w) a b hd fv) ⟨by show X.A.units+1+20 < cLine;omega,k,xs,kb.is I3.hok I3.kIn,dd,⟨_,H3,I3.tok _,(rel.val k).getD rz,q3⟩⟩
variable {P:Program} {w:World} {K:PySem.W.Frag}
theorem qP (hP:X.prog=P) (hw:X.w=w):PE X (.Dict [] [] pos) (nY P w):=by
 subst hP hw
 exact oD
theorem qN (hP:X.prog=P) (hw:X.w=w) (hK:X.K=K) (hu:X.A.units+30 < cLine) (ho:PE X o td) (hi:PE X i ty) (hv:PE X value tv) (hs:swapsWith value (some (.Subscript o i pos')) pos.line X.env=pure false):
 PS X (.Assign [.Subscript o i pos'] value pos) (oj P w K td ty tv):=by
 subst hP hw hK
 exact oz hu ho hi hv hs
theorem qQ (hP:X.prog=P) (hw:X.w=w) (hK:X.K=K) (hu:X.A.units+30 < cLine) (ho:PE X o td) (he:PE X e ty) (hf:PE X f tx) (m:M2 X o "get" apos e f cpos):PE X (.Call (.Attribute o "get" apos) [e,f] [] cpos) (o0 P w K td ty tx):=by
 subst hP hw hK
 exact oF hu ho he hf m
end
end Dj
namespace Tre
open PySem L2
theorem fB {x y:Str} (h:x.cps.toList=y.cps.toList):x=y:=by
 cases x
 cases y
 simp only [Str.mk.injEq]
 exact Array.toList_inj.mp h
theorem eD {ts us:List Tr} (h:∀t∈ts,∀u∈us,code t=code u→t=u) (e:codes ts=codes us):ts=us:=by
 induction ts generalizing us with
 |nil=>cases us with
  |nil=>rfl
  |cons u us=>simp [codes] at e
 |cons t ts ih=>
  cases us with
  |nil=>simp [codes] at e
  |cons u us=>
   simp only [codes,List.cons.injEq] at e
   rw [h t List.mem_cons_self u List.mem_cons_self e.1,ih (fun a ma b mb=>h a (List.mem_cons_of_mem _ ma) b (List.mem_cons_of_mem _ mb)) e.2]
theorem nl {x y:String} (h:(Str.ofString x).cps.toList≠(Str.ofString y).cps.toList) {r s:List Co}:Co.tup (.str (Str.ofString x).cps.toList::r)=Co.tup (.str (Str.ofString y).cps.toList::s)→False:=fun e=>by
 simp only [Co.tup.injEq,List.cons.injEq,Co.str.injEq] at e
 exact h e.1
theorem nE:∀(n:Nat) {k:So} {t u:Tr},t.depth≤n→Ty k t→Ty k u→code t=code u→t=u:=by
 intro n
 induction n with
 |zero=>
  intro k t u hd h1 h2
  cases h1<;>simp [Tr.depth] at hd
 |succ n ih=>
  intro k t u hd h1 h2 e
  have sub:∀ {ts:List Tr} {t:Tr},(Tr.tup ts).depth≤n+1→t∈ts→t.depth≤n:=fun h m=>by
   unfold Tr.depth at h
   have:=aQ m
   omega
  have sub2:∀ {ts l:List Tr} {t:Tr},(Tr.tup ts).depth≤n+1→Tr.tup l∈ts→t∈l→t.depth≤n:=fun h m m2=>by
   have h3:=sub h m
   unfold Tr.depth at h3
   have:=aQ m2
   omega
  cases h1<;>cases h2<;>simp only [code,codes] at e
  all_goals first
   |exact (nl (by decide +kernel) e).elim
   |skip
  all_goals simp only [Co.tup.injEq,List.cons.injEq,Co.str.injEq,Co.num.injEq,and_true,true_and] at e
  · rw [fB e]
  · rename_i x ts _ h1 y us _ h2
    rw [fB e.1,eD (fun a ma b mb=>ih (sub2 hd (by simp) ma) (h1 a ma) (h2 b mb)) e.2]
  · rw [e.1,e.2]
  · rename_i t1 f1 a1 b1 t2 f2 a2 b2
    rw [ih (sub hd (by simp)) a1 a2 e.1,ih (sub hd (by simp)) b1 b2 e.2]
  · rw [fB e]
  · rename_i p1 f1 a1 b1 p2 f2 a2 b2
    rw [eD (fun a ma b mb=>ih (sub2 hd (by simp) ma) (a1 a ma) (a2 b mb)) e.1,ih (sub hd (by simp)) b1 b2 e.2]
  · rename_i t1 u1 a1 b1 t2 u2 a2 b2
    rw [ih (sub hd (by simp)) a1 a2 e.1,ih (sub hd (by simp)) b1 b2 e.2]
  · rename_i w1 a1 w2 a2
    rw [ih (sub hd (by simp)) a1 a2 e]
  · rename_i l1 a1 l2 a2
    rw [eD (fun a ma b mb=>ih (sub2 hd (by simp) ma) (a1 a ma) (a2 b mb)) e]
  · rename_i l1 a1 l2 a2
    rw [eD (fun a ma b mb=>ih (sub2 hd (by simp) ma) (a1 a ma) (a2 b mb)) e]
  · rename_i w1 b1 a1 w2 b2 a2
    have e2:b1=b2:=by
     have:=e.2
     cases b1<;>cases b2<;>simp at this ⊢
    rw [ih (sub hd (by simp)) a1 a2 e.1,e2]
def Rise (us:List Tr):Prop:=∀(i j:Nat) (t u:Tr),i≤j→us[i]?=some t→us[j]?=some u→ltT u t=false
theorem Rise.tail {a:Tr} {us:List Tr} (h:Rise (a::us)):Rise us:=fun i j t u hij e1 e2=>h (i+1) (j+1) t u (by omega) (by simpa using e1) (by simpa using e2)
theorem Rise.head {a b:Tr} {us:List Tr} (h:Rise (a::us)) (m:b∈us):ltT b a=false:=by
 obtain ⟨j,hj,e⟩:=List.getElem_of_mem m
 exact h 0 (j+1) a b (by omega) rfl (by simp [hj,e])
theorem lA {k:So}:∀ {us vs:List Tr},us.Perm vs→Rise us→Rise vs→(∀t∈us,Ty k t)→us=vs
 | [],vs,p,_,_,_=>by
  have:=p.length_eq
  cases vs with
  |nil=>rfl
  |cons v vs=>simp at this
 |a::us,[],p,_,_,_=>by
  have:=p.length_eq
  simp at this
 |a::us,b::vs,p,h1,h2,ty=>by
  have e:a=b:=by
   have ma:a∈b::vs:=p.mem_iff.mp List.mem_cons_self
   have mb:b∈a::us:=p.mem_iff.mpr List.mem_cons_self
   rcases List.mem_cons.mp ma with rfl|ma
   · rfl
   · rcases List.mem_cons.mp mb with rfl|mb
     · rfl
     · have q:=km (h2.head ma) (h1.head mb)
       exact nE a.depth (Nat.le_refl _) (ty a List.mem_cons_self) (ty b (List.mem_cons_of_mem _ mb)) ((cj a b).mp q)
  subst e
  rw [lA (List.Perm.cons_inv p) h1.tail h2.tail fun t m=>ty t (List.mem_cons_of_mem _ m)]
end Tre
namespace Wd
open PySem L2 Tre Mth Dj
def Lt2 (e:Nat) (x:Int):Prop:=x.natAbs < 2^e
theorem Lt2.mono {m n:Nat} {x:Int} (h:Lt2 m x) (hn:m≤n):Lt2 n x:=Nat.lt_of_lt_of_le h (Nat.pow_le_pow_right (by decide) hn)
theorem Lt2.big {n:Nat} {x:Int} (h:Lt2 n x) (hn:n≤8000):Big x:=h.mono hn
theorem Lt2.div {e:Nat} {x y:Int} (h:Lt2 e x):Lt2 e (x / y):=Nat.lt_of_le_of_lt (fq x y) h
theorem Lt2.mul {m n:Nat} {x y:Int} (h1:Lt2 m x) (h2:Lt2 n y):Lt2 (m+n) (x*y):=by
 unfold Lt2 at*
 rw [Int.natAbs_mul,Nat.pow_add]
 exact Nat.mul_lt_mul'' h1 h2
theorem Lt2.add {m:Nat} {x y:Int} (h1:Lt2 m x) (h2:Lt2 m y):Lt2 (m+1) (x+y):=by
 unfold Lt2 at*
 have:=Int.natAbs_add_le x y
 rw [Nat.pow_succ]
 omega
theorem lH {m n:Nat} {a b c d:Int} (ha:Lt2 m a) (hb:Lt2 m b) (hc:Lt2 n c) (hd:Lt2 n d):Lt2 (m+n+1) (pX a b c d)∧Lt2 (m+n+1) (pY a b c d):=by
 refine ⟨?_,?_⟩
 · unfold pX
   refine Lt2.div ?_
   unfold pT
   refine Lt2.add (ha.mul hd.div) ?_
   rw [Nat.add_comm]
   exact hc.mul hb.div
 · unfold pY
   exact (hb.div.mul hd.div).mono (by omega)
theorem jk {m n:Nat} {a b c d:Int} (ha:Lt2 m a) (hb:Lt2 m b) (hc:Lt2 n c) (hd:Lt2 n d):Lt2 (m+n) (tX a b c d)∧Lt2 (m+n) (tY a b c d):=⟨ha.div.mul hc.div,hb.div.mul hd.div⟩
theorem jq {a b c d:Int} (hb:0 < b) (hd:0 < d):0 < pY a b c d:=by
 have g0:(0:Int) < (Int.gcd b d:Int):=by
  have:=Int.gcd_pos_of_ne_zero_right b (show d≠0 by omega)
  omega
 have e0:(0:Int) < pE a b c d:=by
  have:=Int.gcd_pos_of_ne_zero_right (pT a b c d) (show (Int.gcd b d:Int)≠0 by omega)
  unfold pE
  omega
 unfold pY
 have h1:0 < b / (Int.gcd b d:Int):=Int.ediv_pos_of_pos_of_dvd hb (by omega) (Int.gcd_dvd_left b d)
 have h2:0 < d / pE a b c d:=by
  refine Int.ediv_pos_of_pos_of_dvd hd (by omega) ?_
  unfold pE
  exact Int.dvd_trans (Int.gcd_dvd_right (pT a b c d) (Int.gcd b d:Int)) (Int.gcd_dvd_right b d)
 exact Int.mul_pos h1 h2
theorem m9 {a b c d:Int} (hb:0 < b) (hd:0 < d):0 < tY a b c d:=by
 have g1:(0:Int) < (Int.gcd c b:Int):=by
  have:=Int.gcd_pos_of_ne_zero_right c (show b≠0 by omega)
  omega
 have g2:(0:Int) < (Int.gcd a d:Int):=by
  have:=Int.gcd_pos_of_ne_zero_right a (show d≠0 by omega)
  omega
 unfold tY
 exact Int.mul_pos (Int.ediv_pos_of_pos_of_dvd hb (by omega) (Int.gcd_dvd_right c b)) (Int.ediv_pos_of_pos_of_dvd hd (by omega) (Int.gcd_dvd_right a d))
abbrev Fr:=Int×Int
def frT (p:Fr):Tr:= .tup [.int p.1, .int p.2]
def frK (p:Fr):Tk.KT:= .tp [.lf (.inl p.1), .lf (.inl p.2)]
structure Gf (e:Nat) (p:Fr):Prop where
 pos:0 < p.2
 top:Lt2 e p.1
 bot:Lt2 e p.2
theorem Gf.mono {m n:Nat} {p:Fr} (h:Gf m p) (hn:m≤n):Gf n p:=⟨h.pos,h.top.mono hn,h.bot.mono hn⟩
def zero:Fr:=(0,1)
def Gv (p:Fr):Prop:=Gf 200 p∧dw p.1 p.2
theorem lT:Gf 200 zero:=⟨by decide,by show (0:Nat) < 2^200;exact Nat.pow_pos (by decide),by show (1:Nat) < 2^200;decide +kernel⟩
theorem j1:Gv zero:=⟨lT,by decide,by decide⟩
noncomputable def cB (p q:Fr):Fr:=(pX p.1 p.2 q.1 q.2,pY p.1 p.2 q.1 q.2)
noncomputable def cO (p q:Fr):Fr:=(tX p.1 p.2 q.1 q.2,tY p.1 p.2 q.1 q.2)
theorem Gf.plus {m n:Nat} {p q:Fr} (h1:Gf m p) (h2:Gf n q):Gf (m+n+1) (cB p q):=⟨jq h1.pos h2.pos,(lH h1.top h1.bot h2.top h2.bot).1,(lH h1.top h1.bot h2.top h2.bot).2⟩
theorem Gf.times {m n:Nat} {p q:Fr} (h1:Gf m p) (h2:Gf n q):Gf (m+n) (cO p q):=⟨m9 h1.pos h2.pos,(jk h1.top h1.bot h2.top h2.bot).1,(jk h1.top h1.bot h2.top h2.bot).2⟩
structure Wld where
 fl:Str→Bool
 va:Str→Fr
 ca:List Tk.KT→Fr
structure Wld.Ok (W:Wld):Prop where
 va:∀x,Gv (W.va x)
 ca:∀k,Gv (W.ca k)
mutual
noncomputable def valT (W:Wld):Tr→Fr
 | .tup (_:: .str x::r)=>match r with
  | []=>W.va x
  |t::_=>W.ca [.lf (.inr x), .tp (keyT W t)]
 |_=>zero
noncomputable def keyT (W:Wld):Tr→List Tk.KT
 | .tup ts=>valsT W ts
 |_=> []
noncomputable def valsT (W:Wld):List Tr→List Tk.KT
 | []=> []
 |t::ts=>frK (valT W t)::valsT W ts
end
theorem je (W:Wld) (k x:Str):valT W (.tup [.str k, .str x])=W.va x:=by rw [valT]
theorem nA (W:Wld) (k x:Str) (ts:List Tr):valT W (.tup [.str k, .str x, .tup ts])=W.ca [.lf (.inr x), .tp (valsT W ts)]:=by rw [valT,keyT]
theorem gX (W:Wld):∀ts,valsT W ts=ts.map fun t=>frK (valT W t)
 | []=>by rw [valsT];rfl
 |t::ts=>by rw [valsT,gX W ts];rfl
theorem fj {W:Wld} (h:W.Ok) (t:Tr):Gv (valT W t):=by
 unfold valT
 split
 · split
   · exact h.va _
   · exact h.ca _
 · exact j1
theorem kY {W:Wld} (h:W.Ok) (t:Tr):Gf 200 (valT W t):=(fj h t).1
def dU:Tr→Fr
 | .tup [.int a, .int b]=>(a,b)
 |_=>zero
noncomputable def sum1 (W:Wld) (acc:Fr):Tr→Fr
 | .tup [t,f]=>cB acc (cO (dU f) (valT W t))
 |_=>acc
noncomputable def sumT (W:Wld) (ps:List Tr):Fr:=ps.foldl (sum1 W) zero
def Gp (p:Tr):Prop:=∃tm f,p= .tup [tm,frT f]∧Ty .tm tm∧tm.depth≤5∧Gf 603 f
theorem oi (f:Fr):dU (frT f)=f:=rfl
theorem qF {W:Wld} (h:W.Ok) {acc:Fr} {p:Tr} {n:Nat} (ha:Gf n acc) (hp:Gp p):Gf (n+804) (sum1 W acc p):=by
 obtain ⟨tm,f,rfl,_,_,hf⟩:=hp
 show Gf _ (cB acc (cO (dU (frT f)) (valT W tm)))
 rw [oi]
 exact (ha.plus (hf.times (kY h tm))).mono (by omega)
inductive Gw:Tr→Prop
 |fl (x:Str):Gw (.tup [s_ "flag", .str x])
 |mo (ps:List Tr) (f:Fr):ps.length≤3→(∀p∈ps,Gp p)→Gf 900 f→Gw (.tup [s_ "most", .tup ps,frT f])
 |li (t u:Tr):Ty .tm t→Ty .tm u→t.depth≤7→u.depth≤7→Gw (.tup [s_ "like",t,u])
 |no (w:Tr):Gw w→Gw (.tup [s_ "not",w])
 |bo (l:List Tr):l.length≤3→(∀w∈l,Gw w)→Gw (.tup [s_ "both", .tup l])
 |ei (l:List Tr):l.length≤3→(∀w∈l,Gw w)→Gw (.tup [s_ "either", .tup l])
theorem Gw.ty {t:Tr} (h:Gw t):Ty .ws t:=by
 induction h with
 |fl x=>exact .fl x
 |mo ps f _ hp _=>
  refine .mo ps _ (fun p m=> ?_) (.fr _ _)
  obtain ⟨tm,f,rfl,h1,_⟩:=hp p m
  exact .pr _ _ h1 (.fr _ _)
 |li t u h1 h2 _ _=>exact .li t u h1 h2
 |no w _ ih=>exact .no w ih
 |bo l _ _ ih=>exact .bo l ih
 |ei l _ _ ih=>exact .ei l ih
inductive Gl:Tr→Prop
 |mk (t:Tr) (b:Bool):Gw t→Gl (.tup [t, .bl b])
theorem Gl.ty {t:Tr} (h:Gl t):Ty .lt t:=by
 cases h with
 |mk t b h=>exact .lt t b h.ty
def uk (W:Wld):Tr→Bool
 | .str x=>W.fl x
 |_=>false
def psOf:Tr→List Tr
 | .tup ps=>ps
 |_=> []
mutual
noncomputable def hold (W:Wld):Tr→Bool
 | .tup (.str k::t::r)=>match r with
  | []=>if k=Str.ofString "flag" then uk W t else if k=Str.ofString "not" then !hold W t else if k=Str.ofString "both" then allT W t else anyT W t
  |u::_=>if k=Str.ofString "like" then decide (valT W t=valT W u) else decide ((sumT W (psOf t)).1*(dU u).2≤(dU u).1*(sumT W (psOf t)).2)
 |_=>false
noncomputable def allT (W:Wld):Tr→Bool
 | .tup ts=>allTs W ts
 |_=>true
noncomputable def anyT (W:Wld):Tr→Bool
 | .tup ts=>anyTs W ts
 |_=>false
noncomputable def allTs (W:Wld):List Tr→Bool
 | []=>true
 |t::ts=>hold W t&&allTs W ts
noncomputable def anyTs (W:Wld):List Tr→Bool
 | []=>false
 |t::ts=>hold W t ||anyTs W ts
end
theorem jT (W:Wld):∀ts,allTs W ts=ts.all (hold W)
 | []=>by rw [allTs];rfl
 |t::ts=>by rw [allTs,jT W ts];rfl
theorem jS (W:Wld):∀ts,anyTs W ts=ts.any (hold W)
 | []=>by rw [anyTs];rfl
 |t::ts=>by rw [anyTs,jS W ts];rfl
theorem n8 (W:Wld) (x:Str):hold W (.tup [s_ "flag", .str x])=W.fl x:=by
 rw [hold,if_pos rfl]
 rfl
theorem pf (W:Wld) (t:Tr):hold W (.tup [s_ "not",t])= !hold W t:=by
 rw [hold,if_neg (by decide +kernel),if_pos rfl]
theorem n9 (W:Wld) (l:List Tr):hold W (.tup [s_ "both", .tup l])=l.all (hold W):=by
 rw [hold,if_neg (by decide +kernel),if_neg (by decide +kernel),if_pos rfl,allT,jT]
theorem jI (W:Wld) (l:List Tr):hold W (.tup [s_ "either", .tup l])=l.any (hold W):=by
 rw [hold,if_neg (by decide +kernel),if_neg (by decide +kernel),if_neg (by decide +kernel),anyT,jS]
theorem f9 (W:Wld) (t u:Tr):hold W (.tup [s_ "like",t,u])=decide (valT W t=valT W u):=by
 rw [hold,if_pos rfl]
theorem ii (W:Wld) (ps:List Tr) (f:Fr):hold W (.tup [s_ "most", .tup ps,frT f])=decide ((sumT W ps).1*f.2≤f.1*(sumT W ps).2):=by
 rw [hold,if_neg (by decide +kernel)]
 rfl
noncomputable def lith (W:Wld):Tr→Bool
 | .tup [t, .bl b]=>hold W t==b
 |_=>false
noncomputable def rowh (W:Wld) (ts:List Tr):Bool:=ts.any (lith W)
end Wd
namespace K27
open PySem L2 Mth
noncomputable def top (i:Nat):Stmt:=PySem.Challenge.pw_smallword_k27_what_sums_and_likenings_ha.main.body.getD i (.Pass ⟨0,0,0,0⟩)
noncomputable abbrev fJ:Stmt:=rD (top 1) 0
noncomputable abbrev sCd:Stmt:=top 6
noncomputable abbrev sFr:Stmt:=top 7
noncomputable abbrev i5:Stmt:=top 8
noncomputable abbrev eP:Stmt:=top 9
noncomputable abbrev sIto:Stmt:=top 16
noncomputable abbrev sNmQ:Stmt:=top 17
noncomputable abbrev sTmQ:Stmt:=top 19
noncomputable abbrev sCtQ:Stmt:=top 20
noncomputable abbrev sRow:Stmt:=top 23
noncomputable abbrev sSum:Stmt:=top 29
noncomputable abbrev eV:Stmt:=top 30
noncomputable abbrev sStp:Stmt:=top 37
noncomputable abbrev sSt2:Stmt:=top 39
noncomputable abbrev sRby:Stmt:=top 45
noncomputable abbrev sRo2:Stmt:=top 49
noncomputable abbrev i6:Stmt:=top 51
noncomputable abbrev sNab:Stmt:=top 52
noncomputable abbrev i4:Stmt:=top 54
noncomputable abbrev dY:Stmt:=top 55
noncomputable abbrev eU:Stmt:=top 56
noncomputable abbrev eO:Stmt:=top 57
noncomputable abbrev eQ:Stmt:=top 58
noncomputable abbrev i0:Stmt:=top 59
noncomputable abbrev eW:Stmt:=top 60
noncomputable abbrev eL:Stmt:=top 61
noncomputable abbrev eM:Stmt:=top 62
noncomputable abbrev de:Stmt:=top 63
noncomputable abbrev df:Stmt:=top 64
noncomputable abbrev eR:Stmt:=top 65
noncomputable abbrev i7:Stmt:=top 66
noncomputable abbrev sLLs:Stmt:=top 67
noncomputable abbrev sLaw:Stmt:=top 68
section
variable {P:Program} {w:World} {K:PySem.W.Frag} {mg:Str→Option Value} {base:Heap}
structure Blt (mg:Str→Option Value):Prop where
 ab:mg "abs"=none
 le:mg "len"=none
 ra:mg "range"=none
 isi:mg "isinstance"=none
 tu:mg "tuple"=none
 it:mg "int"=none
 bo:mg "bool"=none
 li:mg "list"=none
 st:mg "str"=none
 al:mg "all"=none
 an:mg "any"=none
 zi:mg "zip"=none
 so:mg "sorted"=none
 ve:mg "ValueError"=none
def og (K:PySem.W.Frag):Sp:=fun vs H Q _=>∃(x C fI:Addr) (y:V),vs= [.ref x,y]∧H x=some (Exo C x)∧XCls K C fI∧Q .non H
theorem scI:az ["self","words"] ["self","words"] (af fJ):=⟨rfl,rfl,rfl,by decide +kernel,rfl,by decide +kernel,by decide +kernel⟩
theorem qX {f:Addr} {fd:FuncData} (F:Fun K "__init__" "WishError.__init__" fJ f fd) (B:Blt mg):FnOk P w K mg base CX0 1 f fd ["self","words"] (og K):=by
 refine F.ok scI (fun vs H Q E h=> ?_) (fun cdv A outer s H vs Q E hr h=> ?_)
 · obtain ⟨x,C,fI,y,rfl,_⟩:=h
   rfl
 · obtain ⟨x,C,fI,y,rfl,hH,hX,k⟩:=h
   refine ⟨_,ag (fm (jx rfl B.ve (a8 (pv 0) (a8 (pv 1) aa)))),?_⟩
   exact ⟨_,rfl,_,rfl,x,C,fI,[y],rfl,by show 1≤1000;decide,hH,hX,k⟩
def spCd:Sp:=fun vs H Q _=>∃(a b:Int),vs= [.int a, .int b]∧Q (.int (Int.gcd a b:Int)) H
theorem scC:az ["one","other"] ["one","other"] (af sCd):=⟨rfl,rfl,rfl,by decide +kernel,rfl,by decide +kernel,by decide +kernel⟩
theorem rW (a:Int):(if a < 0 then -a else a)=(Int.gcd a 0:Int):=by
 rw [Int.gcd_zero_right]
 split<;>omega
theorem oR {f:Addr} {fd:FuncData} (F:Fun K "common_divisor" "common_divisor" sCd f fd) (B:Blt mg):FnOk P w K mg base CX0 1 f fd ["one","other"] spCd:=by
 refine F.ok scC (fun vs H Q E h=> ?_) (fun cdv A outer s H vs Q E hr h=> ?_)
 · obtain ⟨a,b,rfl,_⟩:=h
   rfl
 · obtain ⟨a,b,rfl,k⟩:=h
   refine ⟨_,ae (ox PassesOwn.never (ar lK (pv 1) ac (au _)) (ag (tL (i:=0) (j:=1) rfl scC.nd rfl rfl (by decide) rfl rfl (a8 (pv 1) (a8 (aE qR (pv 0) (pv 1)) aa)) rfl)))
    (ag (am (aB pW rfl B.ab pZ (a8 (pv 0) aa)))),?_⟩
   refine nu (fun σ H'=>H'=H∧∃x y:Int,σ= [some (.int x),some (.int y)]∧Int.gcd x y=Int.gcd a b) (fun σ _=>match σ with| [_,some (.int y)]=>y.natAbs|_=>0) ⟨rfl,a,b,rfl,rfl⟩ ?_ ?_
   · rintro σ H' ⟨rfl,x,y,rfl,e⟩
     refine ⟨_,rfl,rfl,_,rfl,?_⟩
     by_cases z:y=0
     · subst z
       rw [decide_eq_true rfl]
       refine iteF ?_
       refine ⟨_,rfl,x,rfl,?_⟩
       rw [rW,e]
       exact k
     · have z':¬(V.int y=V.int 0):=fun q=>z (V.int.inj q)
       rw [decide_eq_false z']
       refine iteT ?_
       refine ⟨_,rfl,_,rfl,_,rfl,x,y,rfl,rfl,z,_,_,rfl,?_⟩
       refine ⟨⟨rfl,y,x.fmod y,rfl,?_⟩,?_⟩
       · rw [pk,e]
       · exact rK z
   · intro σ H' R R' hR h
     obtain ⟨v,e1,e2,q,e3,h⟩:=h
     exact ⟨v,e1,e2,q,e3,hR _ _ h⟩
def spFr (C:Addr):Sp:=fun vs H Q E=>∃(t b:Int),vs= [.int t, .int b]∧Big t∧Big b∧(b=0→E (.ref C) none H)∧(b≠0→∀p,H p=none→Q (.ref p) (upd H p (.tup [.int (fx t b), .int (fy t b)])))
theorem scF:az ["top","bottom","divisor"] ["top","bottom"] (af sFr):=⟨rfl,rfl,rfl,by decide +kernel,rfl,by decide +kernel,by decide +kernel⟩
theorem eG {t b:Int} (h:Big b) (z:b≠0):Big (Int.gcd t b:Int):=by
 have:Int.gcd t b≤b.natAbs:=Int.gcd_le_natAbs_right t (by omega)
 unfold Big at*
 omega
theorem uZ {f fC fI C:Addr} {fd fdC fdI:FuncData} (F:Fun K "fraction" "fraction" sFr f fd) (FC:Fun K "common_divisor" "common_divisor" sCd fC fdC) (bC:Binds K fdC ["one","other"] []) (mC:mg "common_divisor"=some (.ref fC))
 (FI:Fun K "__init__" "WishError.__init__" fJ fI fdI) (bI:Binds K fdI ["self","words"] []) (mX:mg "NoShare"=some (.ref C)) (XC:XCls K C fI) (B:Blt mg):FnOk P w K mg base (CX1 P w) 3 f fd ["top","bottom"] (spFr C):=by
 have GC:FnOk P w K mg base CX0 1 fC fdC ["one","other"] spCd:=oR FC B
 have GI:FnOk P w K mg base CX0 1 fI fdI ["self","words"] (og K):=qX FI B
 refine F.okX scF (fun vs H Q E h=> ?_) (fun cdv A outer s H vs Q E hr h=> ?_)
 · obtain ⟨a,b,rfl,_⟩:=h
   rfl
 · obtain ⟨t,b,rfl,ht,hb,kE,kQ⟩:=h
   have hr1:Room 1 _:=hr.mono (by decide)
   refine ⟨_,ae (aI (ar aP (pv 1) ac (au _)) (ag (oy rfl XC (oB XC GI hr rfl mX bI aj (a8 aM aa) (by decide) (hlen:=fun vs H Q E ⟨_,_,_,_,e,_⟩=>by rw [e];show 2≤1000;decide)) mf)) ak)
    (ae (aH (i:=2) scF.nd rfl (Or.inl rfl) (ah GC hr1 rfl mC FC.kp bC .nil aj (a8 (pv 0) (a8 (pv 1) aa))))
    (ae (aI (ar uP (pv 1) ac (au _)) (ag (aH (i:=2) scF.nd rfl (Or.inl rfl) (dm cr (pv 2)))) ak)
    (ag (am (aw (a8 (aE jy (pv 0) (pv 2)) (a8 (aE jy (pv 1) (pv 2)) aa))))))),?_⟩
   refine ⟨_,rfl,rfl,_,rfl,?_⟩
   by_cases z:b=0
   · subst z
     rw [decide_eq_true rfl]
     refine iteT ?_
     intro x nx ns
     refine ⟨x,C,fI,_,rfl,a9,XC,rfl,x,rfl,a9,ns,?_⟩
     rw [qx nx]
     exact kE rfl
   · have z':¬(V.int b=V.int 0):=fun q=>z (V.int.inj q)
     rw [decide_eq_false z']
     refine iteF ?_
     refine ⟨_,rfl,_,rfl,t,b,rfl,?_⟩
     have bg:=eG (t:=t) hb z
     have n0:=pF (t:=t) z
     have last:∀d:Int,d=dv t b→∀H':Hp,H'=H→((tRet (tTup (bA (tOp (rI (fun _ j=>j≠0∧Big j) fun i j=> .int (i.fdiv j)) (tVar 0) (tVar 2)) (bA (tOp (rI (fun _ j=>j≠0∧Big j) fun i j=> .int (i.fdiv j)) (tVar 1) (tVar 2)) tNil))))
      {nx:=fun _ H'=>Q .non H',rt:=Q} [some (.int t),some (.int b),some (.int d)] H'):=by
      intro d hd H' hH
      subst hH
      have bd:Big d:=by
       rw [hd]
       unfold Big at*
       rw [pG]
       omega
      have nd:d≠0:=by rw [hd];exact n0
      refine ⟨_,rfl,_,rfl,t,d,rfl,rfl,⟨nd,bd⟩,_,rfl,_,rfl,b,d,rfl,rfl,⟨nd,bd⟩,by show 2≤sizeLine;decide,fun p hp=> ?_⟩
      have:=kQ z p hp
      unfold fx fy at this
      rw [←hd] at this
      exact this
     refine ⟨_,rfl,b,0,rfl,rfl,_,rfl,?_⟩
     by_cases zb:b < 0
     · rw [decide_eq_true zb]
       refine iteT ?_
       refine ⟨_,rfl,_,rfl,?_⟩
       exact last _ (by unfold dv;rw [if_pos zb]) H rfl
     · rw [decide_eq_false zb]
       refine iteF ?_
       exact last _ (by unfold dv;rw [if_neg zb]) H rfl
end
open PySem L2 Mth Tre
theorem ad {H:Hp} {p:Addr} {o:HO} (h:H p=none):Same H (upd H p o):=fun b u e=>by
 rw [ai (aD e h)]
 exact e
theorem bx {H H':Hp} {D:Addr} {o:HO} (h:H D=none) (s:Same H H'):Same H (upd H' D o):=fun b u e=>by
 rw [ai (aD e h)]
 exact s b u e
theorem Bg.div {x y:Int} (h:Big x):Big (x / y):=Nat.lt_of_le_of_lt (fq x y) h
section
variable {P:Program} {w:World} {K:PySem.W.Frag} {mg:Str→Option Value} {base:Heap}
def fE (K:PySem.W.Frag):Sp:=fun vs H Q _=>∃(p q:Addr) (a b c d:Int),vs= [.ref p, .ref q]∧SqT K H p [.int a, .int b]∧SqT K H q [.int c, .int d]∧
 (0 < b∧0 < d∧Big a∧Big b∧Big c∧Big d)∧∀(r:Addr) (H':Hp),H r=none→Same H H'→H' r=some (.tup [.int (pX a b c d), .int (pY a b c d)])→Q (.ref r) H'
theorem k4 {vs:List V} {H:Hp} {Q:VK} {E:XK} (h:fE K vs H Q E):vs.length=2:=by
 obtain ⟨p,q,a,b,c,d,rfl,_⟩:=h
 rfl
theorem scP:az ["one","other","shared","top","divisor"] ["one","other"] (af i5):=⟨rfl,rfl,rfl,by decide +kernel,rfl,by decide +kernel,by decide +kernel⟩
theorem qV {f fC:Addr} {fd fdC:FuncData} (F:Fun K "plus" "plus" i5 f fd) (FC:Fun K "common_divisor" "common_divisor" sCd fC fdC) (bC:Binds K fdC ["one","other"] []) (mC:mg "common_divisor"=some (.ref fC)) (B:Blt mg):
 FnOk P w K mg base CX0 2 f fd ["one","other"] (fE K):=by
 have GC:FnOk P w K mg base CX0 1 fC fdC ["one","other"] spCd:=oR FC B
 refine F.ok scP (fun vs H Q E h=>k4 h) (fun cdv A outer s H vs Q E hr h=> ?_)
 obtain ⟨p,q,a,b,c,d,rfl,hp,hq,⟨b0,d0,sa,sb,sc,sd⟩,k⟩:=h
 refine ⟨_,ae (aH (i:=2) scP.nd rfl (Or.inl rfl) (ah GC hr rfl mC FC.kp bC .nil aj (a8 (ao aq (pv 0) ac fun _ _=>rfl) (a8 (ao aq (pv 1) ac fun _ _=>rfl) aa))))
  (ae (aH (i:=3) scP.nd rfl (Or.inl rfl) (aE bZ (aE bn (ao aq (pv 0) ac fun _ _=>rfl) (aE bh (ao aq (pv 1) ac fun _ _=>rfl) (pv 2)))
   (aE bn (ao aq (pv 1) ac fun _ _=>rfl) (aE bh (ao aq (pv 0) ac fun _ _=>rfl) (pv 2)))))
  (ae (aH (i:=4) scP.nd rfl (Or.inl rfl) (ah GC hr rfl mC FC.kp bC .nil aj (a8 (pv 3) (a8 (pv 2) aa))))
  (ag (am (aw (a8 (aE bh (pv 3) (pv 4)) (a8 (aE bn (aE bh (ao aq (pv 0) ac fun _ _=>rfl) (pv 2)) (aE bh (ao aq (pv 1) ac fun _ _=>rfl) (pv 4))) aa))))))),?_⟩
 have g0:(0:Int) < (Int.gcd b d:Int):=by
  have:=Int.gcd_pos_of_ne_zero_right b (show d≠0 by omega)
  omega
 have gS:Big (Int.gcd b d:Int):=eG sd (by omega)
 have e0:(0:Int) < pE a b c d:=by
  have:=Int.gcd_pos_of_ne_zero_right (pT a b c d) (show (Int.gcd b d:Int)≠0 by omega)
  unfold pE
  omega
 have eS:Big (pE a b c d):=eG gS (by omega)
 refine ⟨_,rfl,p,_,1, .int b,rfl,rfl,hp,rfl,_,rfl,q,_,1, .int d,rfl,rfl,hq,rfl,b,d,rfl,?_⟩
 refine ⟨_,rfl,p,_,0, .int a,rfl,rfl,hp,rfl,_,rfl,q,_,1, .int d,rfl,rfl,hq,rfl,_,rfl,d,_,rfl,rfl,⟨g0,gS⟩,a,_,rfl,rfl,⟨sa,(Bg.div sd)⟩,_,rfl,q,_,0, .int c,rfl,rfl,hq,rfl,_,rfl,p,_,1, .int b,rfl,rfl,hp,rfl,_,rfl,b,_,rfl,rfl,⟨g0,gS⟩,c,_,rfl,rfl,⟨sc,(Bg.div sb)⟩,_,_,rfl,rfl,?_⟩
 refine ⟨_,rfl,_,rfl,pT a b c d,(Int.gcd b d:Int),rfl,?_⟩
 refine ⟨_,rfl,_,rfl,pT a b c d,pE a b c d,rfl,rfl,⟨e0,eS⟩,_,rfl,p,_,1, .int b,rfl,rfl,hp,rfl,_,rfl,b,_,rfl,rfl,⟨g0,gS⟩,_,rfl,q,_,1, .int d,rfl,rfl,hq,rfl,_,rfl,d,pE a b c d,rfl,rfl,⟨e0,eS⟩,_,_,rfl,rfl,⟨(Bg.div sb),(Bg.div sd)⟩,by show 2≤sizeLine;decide,fun r hr'=> ?_⟩
 exact k r _ hr' (ad hr') a9
def iH (K:PySem.W.Frag):Sp:=fun vs H Q _=>∃(p q:Addr) (a b c d:Int),vs= [.ref p, .ref q]∧SqT K H p [.int a, .int b]∧SqT K H q [.int c, .int d]∧
 (0 < b∧0 < d∧Big a∧Big b∧Big c∧Big d)∧∀(r:Addr) (H':Hp),H r=none→Same H H'→H' r=some (.tup [.int (tX a b c d), .int (tY a b c d)])→Q (.ref r) H'
theorem scTi:az ["one","other","first","second"] ["one","other"] (af eP):=⟨rfl,rfl,rfl,by decide +kernel,rfl,by decide +kernel,by decide +kernel⟩
theorem oN {f fC:Addr} {fd fdC:FuncData} (F:Fun K "times" "times" eP f fd) (FC:Fun K "common_divisor" "common_divisor" sCd fC fdC) (bC:Binds K fdC ["one","other"] []) (mC:mg "common_divisor"=some (.ref fC)) (B:Blt mg):
 FnOk P w K mg base CX0 2 f fd ["one","other"] (iH K):=by
 have GC:FnOk P w K mg base CX0 1 fC fdC ["one","other"] spCd:=oR FC B
 refine F.ok scTi (fun vs H Q E h=> ?_) (fun cdv A outer s H vs Q E hr h=> ?_)
 · obtain ⟨p,q,a,b,c,d,rfl,_⟩:=h
   rfl
 obtain ⟨p,q,a,b,c,d,rfl,hp,hq,⟨b0,d0,sa,sb,sc,sd⟩,k⟩:=h
 refine ⟨_,ae (aH (i:=2) scTi.nd rfl (Or.inl rfl) (ah GC hr rfl mC FC.kp bC .nil aj (a8 (ao aq (pv 0) ac fun _ _=>rfl) (a8 (ao aq (pv 1) ac fun _ _=>rfl) aa))))
  (ae (aH (i:=3) scTi.nd rfl (Or.inl rfl) (ah GC hr rfl mC FC.kp bC .nil aj (a8 (ao aq (pv 1) ac fun _ _=>rfl) (a8 (ao aq (pv 0) ac fun _ _=>rfl) aa))))
  (ag (am (aw (a8 (aE bn (aE bh (ao aq (pv 0) ac fun _ _=>rfl) (pv 2)) (aE bh (ao aq (pv 1) ac fun _ _=>rfl) (pv 3)))
   (a8 (aE bn (aE bh (ao aq (pv 0) ac fun _ _=>rfl) (pv 3)) (aE bh (ao aq (pv 1) ac fun _ _=>rfl) (pv 2))) aa)))))),?_⟩
 have g1:(0:Int) < (Int.gcd a d:Int):=by
  have:=Int.gcd_pos_of_ne_zero_right a (show d≠0 by omega)
  omega
 have s1:Big (Int.gcd a d:Int):=eG sd (by omega)
 have g2:(0:Int) < (Int.gcd c b:Int):=by
  have:=Int.gcd_pos_of_ne_zero_right c (show b≠0 by omega)
  omega
 have s2:Big (Int.gcd c b:Int):=eG sb (by omega)
 refine ⟨_,rfl,p,_,0, .int a,rfl,rfl,hp,rfl,_,rfl,q,_,1, .int d,rfl,rfl,hq,rfl,a,d,rfl,?_⟩
 refine ⟨_,rfl,q,_,0, .int c,rfl,rfl,hq,rfl,_,rfl,p,_,1, .int b,rfl,rfl,hp,rfl,c,b,rfl,?_⟩
 refine ⟨_,rfl,p,_,0, .int a,rfl,rfl,hp,rfl,_,rfl,a,_,rfl,rfl,⟨g1,s1⟩,_,rfl,q,_,0, .int c,rfl,rfl,hq,rfl,_,rfl,c,_,rfl,rfl,⟨g2,s2⟩,_,_,rfl,rfl,⟨Bg.div sa,Bg.div sc⟩,
  _,rfl,p,_,1, .int b,rfl,rfl,hp,rfl,_,rfl,b,_,rfl,rfl,⟨g2,s2⟩,_,rfl,q,_,1, .int d,rfl,rfl,hq,rfl,_,rfl,d,_,rfl,rfl,⟨g1,s1⟩,_,_,rfl,rfl,⟨Bg.div sb,Bg.div sd⟩,by show 2≤sizeLine;decide,fun r hr'=> ?_⟩
 exact k r _ hr' (ad hr') a9
end
end K27
namespace Tre
open PySem PySem.Spec PyProof.Rows L2
section
variable {X:Cx}
def rEqT:R2:=fun x y H Q=>∃ts us,TrAt H x (.tup ts)∧TrAt H y (.tup us)∧(Trs.pure ts∨Trs.pure us)∧Trs.depth ts≤40∧Q (.bl (eqTs ts us)) H
def rNeT:R2:=fun x y H Q=>∃ts us,TrAt H x (.tup ts)∧TrAt H y (.tup us)∧(Trs.pure ts∨Trs.pure us)∧Trs.depth ts≤40∧Q (.bl (!eqTs ts us)) H
theorem jG {pins:List (Addr×Obj)} {σ:L2.St} {H:Hp} {s:Shared} {A:Around} {ts us:List Tr} {vs ws:List V} {as bs:List Value} (I:Inv X pins σ H s) (hu:A.units+42 < cLine) (h1:TrsAt H vs ts) (h2:TrsAt H ws us) (hp:Trs.pure ts∨Trs.pure us) (hd:Trs.depth ts≤40) (r1:Vals vs as) (r2:Vals ws bs)
 (j:Nat) (g1:j < as.toArray.size) (g2:j < bs.toArray.size):SeqAt.EqAt A s as.toArray[j] bs.toArray[j] (eqJ ts us j):=by
 have l1:=h1.len
 have l2:=h2.len
 have l3:=r1.length
 have l4:=r2.length
 have h1':j < as.length:=by simpa using g1
 have h2':j < bs.length:=by simpa using g2
 have t1:ts[j]?=some (ts[j]'(by omega)):=List.getElem?_eq_getElem _
 have t2:us[j]?=some (us[j]'(by omega)):=List.getElem?_eq_getElem _
 obtain ⟨v,e1,a1⟩:=h1.get t1
 obtain ⟨w,e2,a2⟩:=h2.get t2
 obtain ⟨u1,e3,q1⟩:=r1.get e1
 obtain ⟨u2,e4,q2⟩:=r2.get e2
 have z1:as.toArray[j]=u1:=by rw [List.getElem_toArray];rw [List.getElem?_eq_getElem h1'] at e3;exact Option.some.inj e3
 have z2:bs.toArray[j]=u2:=by rw [List.getElem_toArray];rw [List.getElem?_eq_getElem h2'] at e4;exact Option.some.inj e4
 rw [z1,z2,pD t1 t2]
 refine iB I 40 ?_ ?_ a1 a2 q1 q2 (by omega)
 · have:=aQ (List.mem_of_getElem? t1)
   omega
 · rcases hp with hp|hp
   · exact .inl (cA hp (List.mem_of_getElem? t1))
   · exact .inr (cA hp (List.mem_of_getElem? t2))
theorem oJ (hu:X.A.units+50 < cLine):OpR X (compareOp .Eq) rEqT:=by
 intro pins s σ H x y v u Q I rx ry h
 obtain ⟨ts,us,h1,h2,hp,hd,q⟩:=h
 unfold TrAt at h1 h2
 obtain ⟨a,vs,rfl,g1,k1⟩:=h1
 obtain ⟨b,ws,rfl,g2,k2⟩:=h2
 cases rx
 cases ry
 obtain ⟨as,r1,p1,_⟩:=I.tuple (SqT.of g1)
 obtain ⟨bs,r2,p2,_⟩:=I.tuple (SqT.of g2)
 refine PySem.SeqAt.eq_tupleAt (e:=eqJ ts us) (show s.heap.IsTuple a as.toArray from p1) (show s.heap.IsTuple b bs.toArray from p2) (by omega) (fun j g1 g2=>jG I (by first|omega|(show X.A.units+1+42 < cLine;omega)) k1 k2 hp hd r1 r2 j g1 g2) ?_
 refine ⟨.bl (eqTs ts us),H,I,?_,q⟩
 rw [List.size_toArray,List.size_toArray,←r1.length,←r2.length,k1.len,k2.len,←er]
 rfl
theorem tO (hu:X.A.units+50 < cLine):OpR X (compareOp .NotEq) rNeT:=by
 intro pins s σ H x y v u Q I rx ry h
 obtain ⟨ts,us,h1,h2,hp,hd,q⟩:=h
 unfold TrAt at h1 h2
 obtain ⟨a,vs,rfl,g1,k1⟩:=h1
 obtain ⟨b,ws,rfl,g2,k2⟩:=h2
 cases rx
 cases ry
 obtain ⟨as,r1,p1,_⟩:=I.tuple (SqT.of g1)
 obtain ⟨bs,r2,p2,_⟩:=I.tuple (SqT.of g2)
 refine SeqAt.RcNeAt.tuples (A:=X.A) (e:=eqJ ts us) (show s.heap.IsTuple a as.toArray from p1) (show s.heap.IsTuple b bs.toArray from p2) (by omega) (fun j g1 g2=>jG I (by show X.A.units+1+42 < cLine;omega) k1 k2 hp hd r1 r2 j g1 g2) X.prog X.w X.xe _ ?_
 refine ⟨.bl (!eqTs ts us),H,I,?_,q⟩
 rw [List.size_toArray,List.size_toArray,←r1.length,←r2.length,k1.len,k2.len,←er]
 rfl
end
open PySem L2
noncomputable def dd1 (acc:List Tr) (t:Tr):List Tr:=match acc.getLast? with
 |none=>acc++ [t]
 |some l=>if eqT l t=true then acc else acc++ [t]
noncomputable def dd (ts:List Tr):List Tr:=ts.foldl dd1 []
theorem cL (ts:List Tr) (t:Tr):dd (ts++ [t])=dd1 (dd ts) t:=by
 unfold dd
 rw [List.foldl_append]
 rfl
theorem rQ (acc:List Tr) (t:Tr):(dd1 acc t).length≤acc.length+1:=by
 unfold dd1
 split
 · simp
 · split<;>simp
theorem rP {acc:List Tr} {t u:Tr} (h:u∈dd1 acc t):u∈acc∨u=t:=by
 unfold dd1 at h
 split at h
 · rcases List.mem_append.mp h with h|h
   · exact .inl h
   · exact .inr (List.mem_singleton.mp h)
 · split at h
   · exact .inl h
   · rcases List.mem_append.mp h with h|h
     · exact .inl h
     · exact .inr (List.mem_singleton.mp h)
end Tre
namespace K27
open PySem L2 Mth Tre
theorem boot_sorted:bootBuiltins "sorted"=some (.builtin "sorted"):=PyProof.Rows.boot_sorted
section
variable {P:Program} {w:World} {K:PySem.W.Frag} {mg:Str→Option Value} {base:Heap}
def sf:Sp:=fun vs H Q _=>∃(l:Addr) (ws:List V) (ts:List Tr),vs= [.ref l]∧H l=some (.lst ws)∧TrsAt H ws ts∧ts.length < 64∧(∀t∈ts,Ty .lt t∧t.depth≤30)∧
 ∀(v:V) (H':Hp) (us:List Tr),Same H H'→us.Perm ts→(∀(i j:Nat) (t u:Tr),i≤j→us[i]?=some t→us[j]?=some u→ltT u t=false)→TrAt H' v (.tup (dd us))→Q v H'
theorem scRow:az ["literals","row","literal"] ["literals"] (af sRow):=⟨rfl,rfl,rfl,by decide +kernel,rfl,by decide +kernel,by decide +kernel⟩
theorem tU {f:Addr} {fd:FuncData} (F:Fun K "row_of" "row_of" sRow f fd) (B:Blt mg):FnOk P w K mg base CX0 1 f fd ["literals"] sf:=by
 refine F.ok scRow (fun vs H Q E h=> ?_) (fun cdv A outer s H vs Q E hr h=> ?_)
 · obtain ⟨l,ws,ts,rfl,_⟩:=h
   rfl
 obtain ⟨l,ws,ts,rfl,hl,hT,hn,hty,k⟩:=h
 have hun:=hr.units
 refine ⟨_,ae (aH (i:=1) scRow.nd rfl (Or.inl rfl) (bq aa))
  (ae (cJ PassesOwn.never rfl (cm (aB (cp (Nat.lt_of_le_of_lt (Nat.add_le_add_left (by decide) _) hun)) rfl B.so boot_sorted (a8 (pv 0) aa))) (aK (i:=2) scRow.nd rfl (Or.inl rfl))
   (ag (aI (PW.pt (fc (cT (jp (pv 1) (by intro _;rfl))) (cR (ar (tO (Nat.lt_of_le_of_lt (Nat.add_le_add_left (by decide) _) hun)) (ao aU (pv 1) (dm cr ac) fun _ _=>rfl) (pv 2) (au _)))))
    (ag (fm (jv PySem.F.plainAttrs_list PySem.F.slot_list_append PySem.F.type_list_append cC (pv 1) (a8 (pv 2) aa)))) ak)))
  (ag (am (bE aT rfl B.tu PyProof.Rows.boot_tuple (a8 (pv 1) aa))))),?_⟩
 have hL:(20000:Nat)≤sizeLine:=by decide +kernel
 refine ⟨by show 0≤sizeLine;decide,fun D nD=> ?_⟩
 have s1:Same H (upd H D (.lst [])):=ad nD
 refine ⟨_,rfl,l,ws,ts,rfl,s1 _ _ hl,hT.mono (Kd.of_same s1),hn,fun t m=>⟨kZ (.inl (hty t m).1),c8 (hty t m).1,by have:=(hty t m).2;omega⟩,fun t m u mu=>l5 30 (hty t m).2 (hty t m).1 (hty u mu).1,fun S ws' us nS pm hT' srt=> ?_⟩
 have s2:=ad (o:= .lst ws') nS
 have nS0:=s1.free nS
 have nDS:D≠S:=fun z=>by rw [←z,a9] at nS;cases nS
 have ul:us.length=ts.length:=pm.length_eq
 have wl:=hT'.len
 have hty':∀t∈us,Ty .lt t∧t.depth≤30:=fun t m=>hty t (pm.mem_iff.mp m)
 refine ⟨S,rfl,⟨ws',SqL.of a9⟩,?_⟩
 refine cD (xs:=ws') (fun i σ H'=>Same H H'∧H' S=some (.lst ws')∧TrsAt H' ws' us∧∃rs vi,σ= [some (.ref l),some (.ref D),vi]∧H' D=some (.lst rs)∧TrsAt H' rs (dd (us.take i))∧(∀t∈dd (us.take i),Ty .lt t∧t.depth≤30)∧(dd (us.take i)).length≤i)
  ⟨s1.trans s2,a9,hT'.mono (Kd.of_same s2),[],none,rfl,s2 _ _ a9,by simp only [List.take_zero];exact .nil,fun t m=>(by simp [dd] at m),by simp [dd]⟩ (fun i σ H' _ p=>SqL.of p.2.1) ?_ ?_
 · rintro i x σ H' ex ⟨sH,hS,hTS,rs,vi,rfl,hD,hR,hRt,hRl⟩
   obtain ⟨u,eu,hu⟩:=hTS.get' ex
   have mu:=List.mem_of_getElem? eu
   have ilt:i < us.length:=(List.getElem?_eq_some_iff.mp eu).1
   have et:us.take (i+1)=us.take i++ [u]:=by rw [List.take_add_one,eu];rfl
   have rl:=hR.len
   have app:dd1 (dd (us.take i)) u=dd (us.take i)++ [u]→Same H (upd H' D (.lst (rs++ [x])))∧(upd H' D (.lst (rs++ [x]))) S=some (.lst ws')∧TrsAt (upd H' D (.lst (rs++ [x]))) ws' us∧∃rs' vi,[some (V.ref l),some (.ref D),some x]= [some (.ref l),some (.ref D),vi]∧(upd H' D (.lst (rs++ [x]))) D=some (.lst rs')∧TrsAt (upd H' D (.lst (rs++ [x]))) rs' (dd (us.take (i+1)))∧(∀t∈dd (us.take (i+1)),Ty .lt t∧t.depth≤30)∧(dd (us.take (i+1))).length≤i+1:=by
    intro e
    have kd:=Kd.upd (ys:=rs++ [x]) hD
    refine ⟨bx nD sH,(ai nDS.symm).trans hS,hTS.mono kd,_,_,rfl,a9,?_,fun t m=> ?_,?_⟩
    · rw [et,cL,e]
      exact TrsAt.app (.cons (hu.mono kd) .nil) (hR.mono kd)
    · rw [et,cL,e] at m
      rcases List.mem_append.mp m with m|m
      · exact hRt t m
      · rw [List.mem_singleton.mp m]
        exact hty' u mu
    · rw [et,cL,e,List.length_append]
      simp only [List.length_cons,List.length_nil]
      omega
   refine ⟨_,rfl,!rs.isEmpty, .inl ⟨rs,SqL.of hD,rfl⟩,?_⟩
   have w2:=wl
   by_cases z:rs= []
   · have e0:dd (us.take i)= []:=List.length_eq_zero_iff.mp (by rw [←rl,z];rfl)
     rw [z]
     refine iteT ?_
     refine iteT ?_
     refine ⟨_,rfl, .inl ⟨rfl,_,SqL.of hD⟩,_,rfl,D,rs,x,rfl,rfl,hD,by rw [z];show 0 < sizeLine;omega,?_⟩
     exact app (by rw [e0];rfl)
   · have z':rs.isEmpty=false:=by simpa using z
     rw [z']
     refine iteF ?_
     have pos:0 < rs.length:=List.length_pos_iff.mpr z
     obtain ⟨lt_,el⟩:∃lt_,(dd (us.take i))[rs.length - 1]?=some lt_:=⟨(dd (us.take i))[rs.length - 1]'(by omega),List.getElem?_eq_getElem _⟩
     obtain ⟨y,ey,hy⟩:=hR.get el
     have ml:=List.mem_of_getElem? el
     have egl:(dd (us.take i)).getLast?=some lt_:=by rw [List.getLast?_eq_getElem?,←rl];exact el
     have eat:atI rs (-1)=some y:=by
      unfold atI ixN
      rw [if_neg (by decide),if_pos (by omega),show (-1+(rs.length:Int)).toNat=rs.length - 1 by omega]
      exact ey
     obtain ⟨yt,yd⟩:=hRt lt_ ml
     obtain ⟨ut,ud⟩:=hty' u mu
     cases yt with
     |lt w1 b1 hw1=>
      cases ut with
      |lt w2 b2 hw2=>
       have pu:=c8 (Ty.lt w1 b1 hw1)
       unfold Tr.pure at pu
       unfold Tr.depth at yd
       refine ⟨_,rfl,_,rfl,D,rs,-1,y,rfl,rfl,SqL.of hD,eat,_,rfl,_,_,hy,hu, .inl pu,by omega,_,rfl,?_⟩
       have ed:dd1 (dd (us.take i)) (.tup [w2, .bl b2])=if eqTs [w1, .bl b1] [w2, .bl b2]=true then dd (us.take i) else dd (us.take i)++ [.tup [w2, .bl b2]]:=by
        unfold dd1
        rw [egl]
        simp only [eqT]
        rfl
       cases q:eqTs [w1, .bl b1] [w2, .bl b2] with
       |false=>
        refine iteT ?_
        refine ⟨_,rfl, .inl ⟨rfl,_,SqL.of hD⟩,_,rfl,D,rs,x,rfl,rfl,hD,by omega,?_⟩
        exact app (by rw [ed,q,if_neg Bool.false_ne_true])
       |true=>
        refine iteF ?_
        have e2:dd (us.take (i+1))=dd (us.take i):=by rw [et,cL,ed,q,if_pos rfl]
        exact ⟨sH,hS,hTS,rs,_,rfl,hD,by rw [e2];exact hR,by rw [e2];exact hRt,by rw [e2];omega⟩
 · rintro σ H' ⟨sH,hS,hTS,rs,vi,rfl,hD,hR,hRt,hRl⟩
   rw [wl,List.take_length] at hR
   refine ⟨_,rfl,D,rs,rfl, .inl ⟨SqL.of hD,fun p np=> ?_⟩⟩
   refine k (.ref p) _ us (sH.trans (ad np)) pm srt ?_
   unfold TrAt
   exact ⟨p,rs,rfl,a9,hR.mono (Kd.of_same (ad np))⟩
end
end K27
namespace L2
open PySem PySem.Spec PyProof.Rows
def qp (J:It) (D:Addr) (tc:TT) (te:TE) (rest:L2.St) (Q:VK) (H1:Hp):Prop:=
 ∃W:Nat→Nat→List V→Hp→Prop,(∃m,W 0 m [] (upd H1 D (.lst [])))∧∀i m acc H2,W i m acc H2→
  (J.stop i H2∧Q (.ref D) H2)∨
  (J.go i H2∧∀x H3,J.yld i H2 x H3→aV 0 x (none::rest) H3 fun σ4 H4=>Ext (none::rest) σ4∧tc σ4 H4 fun b H5=>if b=true then te σ4 H5 fun v H6=>H6 D=some (.lst acc)∧acc.length < sizeLine∧∃m',m' < m∧W (i+1) m' (acc++ [v]) (upd H6 D (.lst (acc++ [v])))
   else∃m',m' < m∧W (i+1) m' acc H5)
theorem mh {mp:List (Option Nat)} {wi:TI} {tc:TT} {te:TE} {σ rest:L2.St} {H:Hp} {Q:VK} (e:subS mp σ=none::rest) (h:wi σ H fun J H1=>∀D,H1 D=none→qp J D tc te rest Q H1):cP mp wi (aV 0) tc te σ H Q:=by
 unfold cP
 rw [e]
 exact h
def CompS (n i:Nat) (acc:List V) (Pv:Nat→List V→Hp→Prop):Hp→Prop:=fun H5=>∃m',m' < n - i∧(m'=n - (i+1)∧i+1≤n∧Pv (i+1) acc H5)
theorem CompS.mk {n i:Nat} {acc:List V} {Pv:Nat→List V→Hp→Prop} {H5:Hp} (hi:i < n) (h:Pv (i+1) acc H5):CompS n i acc Pv H5:=⟨n - (i+1),by omega,rfl,hi,h⟩
theorem kK {K:PySem.W.Frag} {a D:Addr} {xs:List V} {tc:TT} {te:TE} {rest:L2.St} {Q:VK} {H1:Hp} (Pv:Nat→List V→Hp→Prop) (h0:Pv 0 [] (upd H1 D (.lst [])))
 (hl:∀i acc H,Pv i acc H→SqL K H a xs)
 (hs:∀i x acc H,i < xs.length→xs[i]?=some x→Pv i acc H→tc (some x::rest) H fun b H5=>if b=true then te (some x::rest) H5 (CompN xs.length i D acc Pv) else CompS xs.length i acc Pv H5)
 (hd:∀acc H,Pv xs.length acc H→Q (.ref D) H):qp (Itl K a) D tc te rest Q H1:=by
 refine ⟨fun i m acc H=>m=xs.length - i∧i≤xs.length∧Pv i acc H,⟨xs.length,by simp,Nat.zero_le _,h0⟩,?_⟩
 rintro i m acc H ⟨rfl,hi,p⟩
 by_cases hlt:i < xs.length
 · refine .inr ⟨⟨xs,xs[i],hl i acc H p,by simp [hlt]⟩,fun x H' y=>⟨ext1,?_⟩⟩
   obtain ⟨e,y⟩:=y
   subst e
   exact hs i x acc _ hlt (y xs (hl i acc _ p)) p
 · have e:i=xs.length:=by omega
   subst e
   exact .inl ⟨⟨xs,hl _ acc H p,Nat.le_refl _⟩,hd acc H p⟩
end L2
namespace K27
open PySem L2 Mth Tre
def Bd (n:Nat) (x:Int):Prop:=x.natAbs < 2^(201*n)
theorem Bd.big {n:Nat} {x:Int} (h:Bd n x) (hn:n≤3):Big x:=Nat.lt_of_lt_of_le h (Nat.pow_le_pow_right (by decide) (by omega))
theorem Bd.mono {m n:Nat} {x:Int} (h:Bd m x) (hn:m≤n):Bd n x:=Nat.lt_of_lt_of_le h (Nat.pow_le_pow_right (by decide) (by omega))
theorem jq {a b c d:Int} (hb:0 < b) (hd:0 < d):0 < pY a b c d:=by
 have g0:(0:Int) < (Int.gcd b d:Int):=by
  have:=Int.gcd_pos_of_ne_zero_right b (show d≠0 by omega)
  omega
 have e0:(0:Int) < pE a b c d:=by
  have:=Int.gcd_pos_of_ne_zero_right (pT a b c d) (show (Int.gcd b d:Int)≠0 by omega)
  unfold pE
  omega
 unfold pY
 have h1:0 < b / (Int.gcd b d:Int):=Int.ediv_pos_of_pos_of_dvd hb (by omega) (Int.gcd_dvd_left b d)
 have h2:0 < d / pE a b c d:=by
  refine Int.ediv_pos_of_pos_of_dvd hd (by omega) ?_
  unfold pE
  exact Int.dvd_trans (Int.gcd_dvd_right (pT a b c d) (Int.gcd b d:Int)) (Int.gcd_dvd_right b d)
 exact Int.mul_pos h1 h2
def Pr (n:Nat) (t:Tr):Prop:=∃(tm:Tr) (a b:Int),t= .tup [tm, .tup [.int a, .int b]]∧Ty .tm tm∧tm.depth≤5∧0 < b∧Bd n a∧Bd n b
theorem Pr.ty {n:Nat} {t:Tr} (h:Pr n t):Ty .pr t∧t.depth≤6:=by
 obtain ⟨tm,a,b,rfl,h1,h2,_⟩:=h
 refine ⟨.pr _ _ h1 (.fr a b),?_⟩
 simp only [Tr.depth,Trs.depth]
 omega
theorem Pr.mono {m n:Nat} {t:Tr} (h:Pr m t) (hn:m≤n):Pr n t:=by
 obtain ⟨tm,a,b,e,h1,h2,h3,h4,h5⟩:=h
 exact ⟨tm,a,b,e,h1,h2,h3,h4.mono hn,h5.mono hn⟩
end K27
namespace Su
open PySem L2 Tre Mth Wd
def rv (p:Fr):Rat:=(p.1:Rat) / (p.2:Rat)
abbrev Sh (p:Fr):Prop:=dw p.1 p.2
theorem ne0 {b:Int} (h:0 < b):(b:Rat)≠0:=by
 simp only [ne_eq,Rat.intCast_eq_zero_iff]
 omega
theorem uK {p q:Fr} (h1:0 < p.2) (h2:0 < q.2):rv p=rv q↔p.1*q.2=q.1*p.2:=by
 have a:=ne0 h1
 have b:=ne0 h2
 unfold rv
 constructor
 · intro h
   have:(p.1:Rat)*q.2=q.1*p.2:=by grind
   exact_mod_cast this
 · intro h
   have:(p.1:Rat)*q.2=q.1*p.2:=by exact_mod_cast h
   grind
theorem k8 {p q:Fr} (h1:Sh p) (h2:Sh q) (e:rv p=rv q):p=q:=by
 rw [uK h1.1 h2.1] at e
 obtain ⟨a,b⟩:=p
 obtain ⟨c,d⟩:=q
 obtain ⟨b0,g1⟩:=h1
 obtain ⟨d0,g2⟩:=h2
 dsimp only at*
 have n1:a.natAbs*d.natAbs=c.natAbs*b.natAbs:=by rw [←Int.natAbs_mul,←Int.natAbs_mul,e]
 have g1':Nat.Coprime b.natAbs a.natAbs:=by rw [Nat.coprime_comm];exact g1
 have g2':Nat.Coprime d.natAbs c.natAbs:=by rw [Nat.coprime_comm];exact g2
 have d1:b.natAbs∣d.natAbs:=g1'.dvd_of_dvd_mul_left ⟨c.natAbs,by rw [n1,Nat.mul_comm]⟩
 have d2:d.natAbs∣b.natAbs:=g2'.dvd_of_dvd_mul_left ⟨a.natAbs,by rw [←n1,Nat.mul_comm]⟩
 have e1:=Nat.dvd_antisymm d1 d2
 have e2:b=d:=by omega
 subst e2
 have e3:a=c:=Int.eq_of_mul_eq_mul_right (by omega) e
 rw [e3]
theorem iM {p q:Fr} (h1:Sh p) (h2:Sh q):Sh (cB p q):=(lG h1 h2).1
theorem ly {p q:Fr} (h1:Sh p) (h2:Sh q):rv (cB p q)=rv p+rv q:=by
 obtain ⟨s,e⟩:=lG h1 h2
 have a:=ne0 h1.1
 have b:=ne0 h2.1
 have c:=ne0 s.1
 have e':((pX p.1 p.2 q.1 q.2:Int):Rat)*(p.2*q.2)=(p.1*q.2+q.1*p.2)*(pY p.1 p.2 q.1 q.2:Int):=by exact_mod_cast e
 unfold rv cB
 dsimp only
 grind
theorem jo {p q:Fr} (h1:Sh p) (h2:Sh q):Sh (cO p q):=(jj h1 h2).1
theorem ol {p q:Fr} (h1:Sh p) (h2:Sh q):rv (cO p q)=rv p*rv q:=by
 obtain ⟨s,e⟩:=jj h1 h2
 have a:=ne0 h1.1
 have b:=ne0 h2.1
 have c:=ne0 s.1
 have e':((tX p.1 p.2 q.1 q.2:Int):Rat)*(p.2*q.2)=p.1*q.1*(tY p.1 p.2 q.1 q.2:Int):=by exact_mod_cast e
 unfold rv cO
 dsimp only
 grind
theorem lj:Sh zero:=⟨by decide,by decide⟩
theorem rv_zero:rv zero=0:=by
 show ((0:Int):Rat) / ((1:Int):Rat)=0
 have:((0:Int):Rat)=0:=by simp
 rw [this]
 grind
theorem sj {p:Fr} (h:Sh p):rv p=0↔p=zero:=by
 constructor
 · intro e
   exact k8 h lj (e.trans rv_zero.symm)
 · rintro rfl
   exact rv_zero
abbrev Pq:=Tr×Fr
def prT (p:Pq):Tr:= .tup [p.1,frT p.2]
open Classical in
noncomputable def tot (t:Tr):List Pq→Rat
 | []=>0
 |p::r=>(if p.1=t then rv p.2 else 0)+tot t r
theorem dc (t:Tr) (a b:List Pq):tot t (a++b)=tot t a+tot t b:=by
 induction a with
 |nil=>simp only [List.nil_append,tot];grind
 |cons p r ih=>simp only [List.cons_append,tot,ih];grind
open Classical in
theorem iC (t:Tr) (p:Pq):tot t [p]=if p.1=t then rv p.2 else 0:=by
 simp only [tot]
 grind
theorem ji {t:Tr} {a b:List Pq} (h:a.Perm b):tot t a=tot t b:=by
 induction h with
 |nil=>rfl
 |cons x _ ih=>simp only [tot,ih]
 |swap x y l=>simp only [tot];grind
 |trans _ _ h1 h2=>rw [h1,h2]
theorem dI {t:Tr}:∀ {l:List Pq},(∀p∈l,p.1≠t)→tot t l=0
 | [],_=>rfl
 |p::r,h=>by
  simp only [tot]
  rw [if_neg (h p List.mem_cons_self),dI fun q m=>h q (List.mem_cons_of_mem _ m)]
  grind
abbrev Asc (us:List Pq):Prop:=us.Pairwise fun a b=>ltT a.1 b.1=true
theorem u6 (t:Tr):ltT t t=false:=by
 cases e:ltT t t with
 |false=>rfl
 |true=>exact (fX e).symm.trans e |>.symm
theorem lN {t u:Tr} (h:ltT t u=true):t≠u:=fun z=>by
 rw [z,u6] at h
 cases h
theorem mz {a b c:Tr} (h1:ltT a b=true) (h2:ltT b c=true):ltT a c=true:=ltT_iff.mpr (dh (ltT_iff.mp h1) (ltT_iff.mp h2))
theorem ja {us:List Pq} (h:Asc us) {p:Pq} (m:p∈us):tot p.1 us=rv p.2:=by
 induction us with
 |nil=>cases m
 |cons q r ih=>
  obtain ⟨h1,h2⟩:=List.pairwise_cons.mp h
  simp only [tot]
  rcases List.mem_cons.mp m with e|m
  · subst e
    rw [if_pos rfl,dI fun x mx=>(lN (h1 x mx)).symm]
    grind
  · rw [if_neg (lN (h1 p m)),ih h2 m]
    grind
structure Can (ps us:List Pq):Prop where
 asc:Asc us
 sh:∀p∈us,Sh p.2∧p.2≠zero
 eq:∀t,tot t us=tot t ps
theorem Can.mem {ps us vs:List Pq} (h1:Can ps us) (h2:Can ps vs) {p:Pq} (m:p∈us):p∈vs:=by
 have e1:=ja h1.asc m
 rw [h1.eq,←h2.eq] at e1
 have n0:rv p.2≠0:=fun z=>(h1.sh p m).2 ((sj (h1.sh p m).1).mp z)
 refine Classical.byContradiction fun no=> ?_
 by_cases q:∀x∈vs,x.1≠p.1
 · rw [dI q] at e1
   exact n0 e1.symm
 · obtain ⟨x,hx⟩:=Classical.not_forall.mp q
   obtain ⟨mx,ex⟩:=Classical.not_imp.mp hx
   have ex:=Classical.not_not.mp ex
   have e2:=ja h2.asc mx
   rw [ex,e1] at e2
   have e3:=k8 (h1.sh p m).1 (h2.sh x mx).1 e2
   have:x=p:=Prod.ext ex e3.symm
   rw [this] at mx
   exact no mx
theorem qh:∀ {us vs:List Pq},Asc us→Asc vs→(∀p,p∈us↔p∈vs)→us=vs
 | [],[],_,_,_=>rfl
 | [],b::vs,_,_,h=>by
  have:=(h b).mpr List.mem_cons_self
  cases this
 |a::us,[],_,_,h=>by
  have:=(h a).mp List.mem_cons_self
  cases this
 |a::us,b::vs,h1,h2,h=>by
  obtain ⟨a1,a2⟩:=List.pairwise_cons.mp h1
  obtain ⟨b1,b2⟩:=List.pairwise_cons.mp h2
  have e:a=b:=by
   rcases List.mem_cons.mp ((h a).mp List.mem_cons_self) with e|m
   · exact e
   · rcases List.mem_cons.mp ((h b).mpr List.mem_cons_self) with e|m'
     · exact e.symm
     · have:=fX (b1 a m)
       rw [a1 b m'] at this
       cases this
  subst e
  rw [qh a2 b2 fun p=> ?_]
  constructor
  · intro m
    rcases List.mem_cons.mp ((h p).mp (List.mem_cons_of_mem _ m)) with e|m'
    · rw [e] at m
      exact absurd rfl (lN (a1 a m))
    · exact m'
  · intro m
    rcases List.mem_cons.mp ((h p).mpr (List.mem_cons_of_mem _ m)) with e|m'
    · rw [e] at m
      exact absurd rfl (lN (b1 a m))
    · exact m'
theorem Can.uniq {ps us vs:List Pq} (h1:Can ps us) (h2:Can ps vs):us=vs:=qh h1.asc h2.asc fun p=>⟨h1.mem h2,h2.mem h1⟩
theorem Can.to {ps qs us:List Pq} (h:Can ps us) (e:∀t,tot t ps=tot t qs):Can qs us:=⟨h.asc,h.sh,fun t=>(h.eq t).trans (e t)⟩
structure Run (ds us:List Pq):Prop where
 asc:Asc us
 sh:∀p∈us,Sh p.2
 eq:∀t,tot t us=tot t ds
 key:∀p∈us,∃d∈ds,d.1=p.1
theorem Run.nil:Run [] []:=⟨.nil,(fun p m=>by cases m),fun t=>rfl,fun p m=>by cases m⟩
theorem Run.app {ds us:List Pq} {u:Pq} (h:Run ds us) (hl:∀p∈us,ltT p.1 u.1=true) (hs:Sh u.2):Run (ds++ [u]) (us++ [u]):=by
 refine ⟨?_,fun p m=> ?_,fun t=>by rw [dc,dc,h.eq],fun p m=> ?_⟩
 · refine List.pairwise_append.mpr ⟨h.asc,List.pairwise_singleton _ _,fun a ma b mb=> ?_⟩
   rw [List.mem_singleton.mp mb]
   exact hl a ma
 · rcases List.mem_append.mp m with m|m
   · exact h.sh p m
   · rw [List.mem_singleton.mp m]
     exact hs
 · rcases List.mem_append.mp m with m|m
   · obtain ⟨d,md,e⟩:=h.key p m
     exact ⟨d,List.mem_append_left _ md,e⟩
   · rw [List.mem_singleton.mp m]
     exact ⟨u,List.mem_append_right _ List.mem_cons_self,rfl⟩
theorem Run.add {ds us:List Pq} {t:Tr} {f g:Fr} (h:Run ds (us++ [(t,f)])) (hs:Sh g):Run (ds++ [(t,g)]) (us++ [(t,cB f g)]):=by
 have hf:Sh f:=h.sh (t,f) (List.mem_append_right _ List.mem_cons_self)
 obtain ⟨a1,_,a3⟩:=List.pairwise_append.mp h.asc
 refine ⟨?_,fun p m=> ?_,fun u=> ?_,fun p m=> ?_⟩
 · refine List.pairwise_append.mpr ⟨a1,List.pairwise_singleton _ _,fun a ma b mb=> ?_⟩
   rw [List.mem_singleton.mp mb]
   exact a3 a ma (t,f) List.mem_cons_self
 · rcases List.mem_append.mp m with m|m
   · exact h.sh p (List.mem_append_left _ m)
   · rw [List.mem_singleton.mp m]
     exact iM hf hs
 · have e:=h.eq u
   rw [dc,iC] at e
   rw [dc,dc,iC,iC,←e,ly hf hs]
   dsimp only
   by_cases z:t=u
   · simp only [if_pos z];grind
   · simp only [if_neg z];grind
 · rcases List.mem_append.mp m with m|m
   · obtain ⟨d,md,e⟩:=h.key p (List.mem_append_left _ m)
     exact ⟨d,List.mem_append_left _ md,e⟩
   · rw [List.mem_singleton.mp m]
     exact ⟨(t,g),List.mem_append_right _ List.mem_cons_self,rfl⟩
theorem jX (t:Tr) {us:List Pq} (h:∀p∈us,Sh p.2):tot t (us.filter fun p=>decide (p.2≠zero))=tot t us:=by
 induction us with
 |nil=>rfl
 |cons p r ih=>
  have ih:=ih fun q m=>h q (List.mem_cons_of_mem _ m)
  rw [List.filter_cons]
  by_cases z:p.2=zero
  · have e:decide (p.2≠zero)=false:=by simp [z]
    rw [e,if_neg (by decide),ih]
    simp only [tot,z,rv_zero]
    grind
  · have e:decide (p.2≠zero)=true:=by simp [z]
    rw [e,if_pos rfl]
    simp only [tot,ih]
theorem Run.fin {ps us:List Pq} (h:Run ps us):Can ps (us.filter fun p=>decide (p.2≠zero)):=by
 refine ⟨h.asc.filter _,fun p m=> ?_,fun t=>(jX t h.sh).trans (h.eq t)⟩
 obtain ⟨m1,m2⟩:=List.mem_filter.mp m
 exact ⟨h.sh p m1,by simpa using m2⟩
theorem rj {p q:Pq} (h:ltT p.1 q.1=true):ltT (prT p) (prT q)=true:=by
 rw [ltT_iff] at h ⊢
 show LtC (.tup (code p.1::_)) (.tup (code q.1::_))
 simp only [LtC,LtCs]
 exact .inl h
theorem iW {p q:Pq} (h:ltT (prT q) (prT p)=false):ltT q.1 p.1=false:=by
 cases e:ltT q.1 p.1 with
 |false=>rfl
 |true=>rw [rj e] at h;cases h
theorem oV {t u:Tr} (h1:ltT u t=false) (h2:eqT t u=false):ltT t u=true:=by
 cases e:ltT t u with
 |true=>rfl
 |false=>rw [km e h1] at h2;cases h2
theorem l9 {t u:Tr} (h1:Ty .tm t) (h2:Ty .tm u) (h:eqT t u=true):t=u:=nE t.depth (Nat.le_refl _) h1 h2 ((cj t u).mp h)
end Su
namespace Zp
open PySem
inductive Src where
 |lst|tup
def Src.It (k:Src) (h:Heap) (it l:Addr) (i:Nat):Prop:=match k with
 | .lst=>h.IsListIter it l i
 | .tup=>h.IsTupleIter it l i
def Src.Sq (k:Src) (h:Heap) (l:Addr) (xs:Array Value):Prop:=match k with
 | .lst=>h.IsList l xs
 | .tup=>h.IsTuple l xs
theorem cU {k:Src} {h h':Heap} {a l:Addr} {i:Nat} (x:k.It h a l i) (e:∀o,h.get? a=some o→h'.get? a=some o):k.It h' a l i:=by
 cases k
 · exact Heap.IsListIter.at x e
 · exact Heap.IsTupleIter.at x e
theorem o6 {k:Src} {h h':Heap} {l:Addr} {xs:Array Value} (x:k.Sq h l xs) (e:∀o,h.get? l=some o→h'.get? l=some o):k.Sq h' l xs:=by
 cases k
 · exact Heap.IsList.at x e
 · exact Heap.IsTuple.at x e
theorem j0 {k:Src} {h:Heap} {a l:Addr} {i:Nat} (x:k.It h a l i):∃o,h.get? a=some o∧∀v,o.data≠ .cell v:=by
 cases k
 all_goals
  obtain ⟨o,e,_,d⟩:=x
  exact ⟨o,e,fun v z=>by rw [d] at z;cases z⟩
section
variable {prog:Program} {w:World} {A:Around} {E:Value→Shared→Prop} {s:Shared} {k:Src} {it l:Addr} {i:Nat} {xs:Array Value} {x:Value} {Q:Value→Shared→Prop}
theorem lL (st:k.It s.heap it l i) (sq:k.Sq s.heap l xs) (hx:xs[i]?=some x) (q:∀h',k.It h' it l (i+1)→Heap.SameBut it s.heap h'→Q x {s with heap:=h'}):
 wpAny (model prog w) A (Builtin.SmallTypes.nextOf (.ref it)) Q E s:=by
 cases k
 · exact wpAny_nextOf_list_item st sq hx q
 · obtain ⟨o,e1,e2,e3⟩:=id st
   obtain ⟨p,f1,_,n,f3⟩:=sq
   have ty:=Heap.IsTupleIter.typeIs st
   rw [Builtin.SmallTypes.nextOf]
   refine wpAny_bind (wpAny_callSpecial?_slot (name:=Str.ofString "__next__") ty F.slot_tuple_iterator_next (wpAny_call_entry F.slot_tuple_iterator_next ty F.entry_tuple_iterator_next ?_ (F.args_tuple_iterator_next_1 _)))
   show wpAny _ _ (do let y←field (.ref it) 0;_) _ _ s
   refine wpAny_bind (wpAny_field e1 e3 (x:= .ref l) rfl ?_)
   show wpAny _ _ (if (Value.ref l==Value.none)=true then _ else _) _ _ _
   refine (if_neg (show¬((Value.ref l==Value.none)=true) from Bool.false_ne_true))▸ ?_
   show wpAny _ _ (do let y←field (.ref it) 1;_) _ _ s
   refine wpAny_bind (wpAny_field e1 e3 (x:= .int i 0) rfl ?_)
   show wpAny _ _ (do let y←seqItems? (.ref l);_) _ _ s
   refine wpAny_bind (wpAny_seqItems f1 f3 ?_)
   simp only [hx,Int.toNat_natCast]
   refine wpAny_bind (wpAny_setField e1 e3 (by simp) (wpAny_pure ⟨x,rfl,wpAny_pure (q _ ?_ (Heap.SameBut.update ..))⟩))
   refine ⟨_,Heap.get?_update_self _ e1 (Obj.isFreed_of_fields (Obj.data_mapFields e3 _)),(Obj.cls_mapFields ..).trans e2,?_⟩
   rw [Obj.data_mapFields e3]
   simp [rawInt]
theorem tZ (hh:A.handled=none) (st:k.It s.heap it l i) (sq:k.Sq s.heap l xs) (hx:xs[i]?=none) (q:∀h' e,Heap.ExtBut it s.heap h'→(∃o,h'.get? e=some o∧o.cls= .type "StopIteration")→E (.ref e) {s with heap:=h'}):
 wpAny (model prog w) A (Builtin.SmallTypes.nextOf (.ref it)) Q E s:=by
 cases k
 · exact wpAny_nextOf_list_end hh st sq hx q
 · obtain ⟨o,e1,e2,e3⟩:=id st
   obtain ⟨p,f1,_,n,f3⟩:=sq
   have ty:=Heap.IsTupleIter.typeIs st
   rw [Builtin.SmallTypes.nextOf]
   refine wpAny_bind (wpAny_callSpecial?_slot (name:=Str.ofString "__next__") ty F.slot_tuple_iterator_next (wpAny_call_entry F.slot_tuple_iterator_next ty F.entry_tuple_iterator_next ?_ (F.args_tuple_iterator_next_1 _)))
   show wpAny _ _ (do let y←field (.ref it) 0;_) _ _ s
   refine wpAny_bind (wpAny_field e1 e3 (x:= .ref l) rfl ?_)
   show wpAny _ _ (if (Value.ref l==Value.none)=true then _ else _) _ _ _
   refine (if_neg (show¬((Value.ref l==Value.none)=true) from Bool.false_ne_true))▸ ?_
   show wpAny _ _ (do let y←field (.ref it) 1;_) _ _ s
   refine wpAny_bind (wpAny_field e1 e3 (x:= .int i 0) rfl ?_)
   show wpAny _ _ (do let y←seqItems? (.ref l);_) _ _ s
   refine wpAny_bind (wpAny_seqItems f1 f3 ?_)
   simp only [hx,Int.toNat_natCast]
   refine wpAny_bind (wpAny_rule (wpAny_bind (wpAny_setField e1 e3 (by simp) ?_)))
   show wpAny _ _ (do let y←newExc (.type "StopIteration") [];_) _ _ _
   refine wpAny_bind ?_
   simp only [newTuple,newExc]
   refine wpAny_bind (wpAny_newObj_type (wpAny_bind (m:=firstArgMember _ _) (wpAny_of_eq (a:=Value.none) (by first|rfl|(simp only [firstArgMember];rfl)) (wpAny_newObj_type ?_ (by size_fits)))) (by size_fits))
   simp only [raiseNew]
   refine wpAny_bind (wpAny_handled ?_)
   first|rw [show A.in1.handled=none from hh]|rw [hh]
   exact wpAny_bind (wpAny_pure (wpAny_throw (q _ _ (((Heap.SameBut.update ..).extBut.push _).push _) ⟨_,Heap.get?_push_size _ rfl,rfl⟩)))
end
open PySem
section
variable {prog:Program} {w:World} {A:Around} {E:Value→Shared→Prop} {s:Shared} {k:Src} {z TI TO i1 i2 l1 l2:Addr} {j:Nat} {xs ys:Array Value} {x y a b:Value}
theorem qq {Q:Value→Shared→Prop} (D:ZipApart z TI TO i1 i2 l1 l2) (hz:IsZip s.heap z TI TO .none) (hI:IsPair s.heap TI (.ref i1) (.ref i2)) (hO:IsPair s.heap TO a b)
 (t1:k.It s.heap i1 l1 j) (t2:k.It s.heap i2 l2 j) (q1:k.Sq s.heap l1 xs) (q2:k.Sq s.heap l2 ys) (ex:xs[j]?=some x) (ey:ys[j]?=some y)
 (q:∀h',IsZip h' z TI TO (rawInt s.heap.objs.size)→IsPair h' TO x y→k.It h' i1 l1 (j+1)→k.It h' i2 l2 (j+1)→IsPair h' s.heap.objs.size x y→h'.objs.size=s.heap.objs.size+1→
  (∀c o,c≠z→c≠TO→c≠i1→c≠i2→s.heap.get? c=some o→h'.get? c=some o)→Q (.ref s.heap.objs.size) {s with heap:=h'}):
 wpAny (model prog w) A (Builtin.«zip.__next__» ⟨[.ref z],[]⟩) (fun r s'=>∃v,r= .done (.ret v)∧Q v s') E s:=by
 show wpAny _ _ (do let u←field (.ref z) 2;_) _ _ _
 refine wpAny_bind (wpAny_field hz rfl (x:= .bool false) rfl ?_)
 show wpAny _ _ (do let u←field (.ref z) 3;_) _ _ _
 refine wpAny_bind (wpAny_field hz rfl (x:= .ref TI) rfl (wpAny_bind (wpAny_seqItems hI rfl ?_)))
 show wpAny _ _ (do let u←Builtin.SmallTypes.ownedTupleIsFree (.ref z);_) _ _ _
 refine wpAny_bind ?_
 rw [Builtin.SmallTypes.ownedTupleIsFree]
 refine wpAny_bind (wpAny_field hz rfl (x:= .none) rfl (wpAny_pure ?_))
 simp only [if_true]
 refine wpAny_bind (wpAny_rule (wpAny_bind (wpAny_field hz rfl (x:= .ref TO) rfl (wpAny_bind (wpAny_setField_rec hz (by simp) fun g1 y1 s1=> ?_)))))
 have y1:IsZip g1 z TI TO .ellipsis:=y1
 refine wpAny_bind ?_
 simp only [List.forIn_cons,List.forIn_nil,List.zipIdx_nil,List.zipIdx_cons]
 refine wpAny_bind (wpAny_bind (wpAny_onRaise ?_))
 show wpAny _ _ (do let u←Builtin.SmallTypes.nextOf (.ref i1);_) _ _ _
 refine wpAny_bind (lL (s:= {s with heap:=g1}) (cU t1 fun o e=>s1.extBut _ o D.i1z e) (o6 q1 fun o e=>s1.extBut _ o D.l1z e) ex fun g2 u1 s2=>wpAny_pure ?_)
 have o2:IsPair g2 TO a b:=s2.extBut _ _ D.TOi1 (s1.extBut _ _ D.TOz hO)
 refine wpAny_bind (wpAny_seqItems o2 rfl (wpAny_bind (wpAny_updateSeq_pair (s:= {s with heap:=g2}) o2 fun g3 o3 s3=> ?_)))
 have o3:IsPair g3 TO x b:=o3
 refine wpAny_bind (wpAny_letGo (wpAny_pure (wpAny_bind (wpAny_bind (wpAny_onRaise ?_)))))
 show wpAny _ _ (do let u←Builtin.SmallTypes.nextOf (.ref i2);_) _ _ _
 refine wpAny_bind (lL (s:= {s with heap:=g3}) (cU t2 fun o e=>s3.extBut _ o D.TOi2.symm (s2.extBut _ o D.i12.symm (s1.extBut _ o D.i2z e))) (o6 q2 fun o e=>s3.extBut _ o D.l2TO (s2.extBut _ o D.l2i1 (s1.extBut _ o D.l2z e))) ey fun g4 u2 s4=>wpAny_pure ?_)
 have o4:IsPair g4 TO x b:=s4.extBut _ _ D.TOi2 o3
 refine wpAny_bind (wpAny_seqItems o4 rfl (wpAny_bind (wpAny_updateSeq_pair (s:= {s with heap:=g4}) o4 fun g5 o5 s5=> ?_)))
 have o5:IsPair g5 TO x y:=o5
 refine wpAny_bind (wpAny_letGo (wpAny_pure (wpAny_pure (wpAny_bind (wpAny_seqItems o5 rfl (wpAny_bind (wpAny_newTuple ?_)))))))
 have sz:g5.objs.size=s.heap.objs.size:=by rw [s5.1,s4.1,s3.1,s2.1,s1.1]
 have all:∀c o,c≠z→c≠TO→c≠i1→c≠i2→s.heap.get? c=some o→g5.get? c=some o:=fun c o c1 c2 c3 c4 e=>s5.extBut _ _ c2 (s4.extBut _ _ c4 (s3.extBut _ _ c2 (s2.extBut _ _ c3 (s1.extBut _ _ c1 e))))
 have y5:IsZip g5 z TI TO .ellipsis:=s5.extBut _ _ D.TOz.symm (s4.extBut _ _ D.i2z.symm (s3.extBut _ _ D.TOz.symm (s2.extBut _ _ D.i1z.symm y1)))
 have v1:k.It g5 i1 l1 (j+1):=cU u1 fun o e=>s5.extBut _ o D.TOi1.symm (s4.extBut _ o D.i12 (s3.extBut _ o D.TOi1.symm e))
 have v2:k.It g5 i2 l2 (j+1):=cU u2 fun o e=>s5.extBut _ o D.TOi2.symm e
 have lz:z < g5.objs.size:=Heap.lt_size y5
 show wpAny _ _ (do let u←Builtin.SmallTypes.ownedTupleHandOut (.ref z) (.ref g5.objs.size);_) _ _ _
 refine wpAny_bind ?_
 rw [Builtin.SmallTypes.ownedTupleHandOut]
 have y6:IsZip (g5.push {cls:= .type "tuple",data:= .seq #[x,y]}) z TI TO .ellipsis:=Heap.get?_push_of_some _ y5
 refine wpAny_bind (wpAny_setField_rec y6 (by simp) fun g7 y7 s7=> ?_)
 have y7:IsZip g7 z TI TO (rawInt g5.objs.size):=y7
 refine wpAny_setField_rec y7 (by simp) fun g8 y8 s8=> ?_
 have y8:IsZip g8 z TI TO (rawInt g5.objs.size):=y8
 have up:∀c o,c≠z→g5.get? c=some o→g8.get? c=some o:=fun c o n e=>s8.extBut _ _ n (s7.extBut _ _ n (Heap.get?_push_of_some _ e))
 have p8:IsPair g8 g5.objs.size x y:=s8.extBut _ _ (Nat.ne_of_gt lz) (s7.extBut _ _ (Nat.ne_of_gt lz) (Heap.get?_push_size _ rfl))
 have z8:g8.objs.size=g5.objs.size+1:=by rw [s8.1,s7.1,Heap.size_push]
 rw [sz] at y8 p8 z8
 refine wpAny_pure ⟨_,rfl,?_⟩
 show Q (.ref g5.objs.size) _
 rw [sz]
 exact q g8 y8 (up _ _ D.TOz o5) (cU v1 fun o e=>up _ o D.i1z e) (cU v2 fun o e=>up _ o D.i2z e) p8 z8 fun c o c1 c2 c3 c4 e=>up c o c1 (all c o c1 c2 c3 c4 e)
theorem t5 {Q:Fin→Shared→Prop} (hh:A.handled=none) (D:ZipApart z TI TO i1 i2 l1 l2) (hz:IsZip s.heap z TI TO .none) (hI:IsPair s.heap TI (.ref i1) (.ref i2)) (hO:IsPair s.heap TO a b)
 (t1:k.It s.heap i1 l1 j) (t2:k.It s.heap i2 l2 j) (q1:k.Sq s.heap l1 xs) (q2:k.Sq s.heap l2 ys) (ends:xs[j]?=none)
 (q:∀h' e,(∀c o,c≠z→c≠TO→c≠i1→c≠i2→s.heap.get? c=some o→h'.get? c=some o)→(∃o,h'.get? e=some o∧o.cls= .type "StopIteration")→E (.ref e) {s with heap:=h'}):
 wpAny (model prog w) A (Builtin.«zip.__next__» ⟨[.ref z],[]⟩) Q E s:=by
 show wpAny _ _ (do let u←field (.ref z) 2;_) _ _ _
 refine wpAny_bind (wpAny_field hz rfl (x:= .bool false) rfl ?_)
 show wpAny _ _ (do let u←field (.ref z) 3;_) _ _ _
 refine wpAny_bind (wpAny_field hz rfl (x:= .ref TI) rfl (wpAny_bind (wpAny_seqItems hI rfl ?_)))
 show wpAny _ _ (do let u←Builtin.SmallTypes.ownedTupleIsFree (.ref z);_) _ _ _
 refine wpAny_bind ?_
 rw [Builtin.SmallTypes.ownedTupleIsFree]
 refine wpAny_bind (wpAny_field hz rfl (x:= .none) rfl (wpAny_pure ?_))
 simp only [if_true]
 refine wpAny_bind (wpAny_rule (wpAny_bind (wpAny_field hz rfl (x:= .ref TO) rfl (wpAny_bind (wpAny_setField_rec hz (by simp) fun g1 y1 s1=> ?_)))))
 have y1:IsZip g1 z TI TO .ellipsis:=y1
 refine wpAny_bind ?_
 simp only [List.forIn_cons,List.forIn_nil,List.zipIdx_nil,List.zipIdx_cons]
 refine wpAny_bind (wpAny_bind (wpAny_onRaise ?_))
 show wpAny _ _ (do let u←Builtin.SmallTypes.nextOf (.ref i1);_) _ _ _
 refine wpAny_bind (tZ (s:= {s with heap:=g1}) hh (cU t1 fun o e=>s1.extBut _ o D.i1z e) (o6 q1 fun o e=>s1.extBut _ o D.l1z e) ends fun g2 e s2 he=> ?_)
 obtain ⟨oe,e1,e2⟩:=he
 have y2:IsZip g2 z TI TO .ellipsis:=s2 _ _ D.i1z.symm y1
 have ne:e≠z:=fun n=>by subst n;rw [y2] at e1;cases e1;simp at e2
 exact wpAny_setField_rec y2 (by simp) fun g3 _ s3=>q g3 e (fun c o c1 _ c3 _ n=>s3.extBut _ _ c1 (s2 _ _ c3 (s1.extBut _ _ c1 n))) ⟨oe,s3.extBut _ _ ne e1,e2⟩
theorem qv {Q:Option Value→Shared→Prop} (D:ZipApart z TI TO i1 i2 l1 l2) (hz:IsZip s.heap z TI TO .none) (hI:IsPair s.heap TI (.ref i1) (.ref i2)) (hO:IsPair s.heap TO a b)
 (t1:k.It s.heap i1 l1 j) (t2:k.It s.heap i2 l2 j) (q1:k.Sq s.heap l1 xs) (q2:k.Sq s.heap l2 ys) (ex:xs[j]?=some x) (ey:ys[j]?=some y)
 (q:∀h',IsZip h' z TI TO (rawInt s.heap.objs.size)→IsPair h' TO x y→k.It h' i1 l1 (j+1)→k.It h' i2 l2 (j+1)→IsPair h' s.heap.objs.size x y→h'.objs.size=s.heap.objs.size+1→
  (∀c o,c≠z→c≠TO→c≠i1→c≠i2→s.heap.get? c=some o→h'.get? c=some o)→Q (some (.ref s.heap.objs.size)) {s with heap:=h'}):
 wpAny (model prog w) A (pyNext (.ref z)) Q E s:=by
 have ty:s.TypeIs (.ref z) "zip":=⟨_,hz,rfl⟩
 rw [pyNext]
 exact wpAny_bind (wpAny_attempt (wpAny_callSpecial?_slot (name:=Str.ofString "__next__") ty F.slot_zip_next (wpAny_call_entry F.slot_zip_next ty F.entry_zip_next
  (qq D hz hI hO t1 t2 q1 q2 ex ey fun h' a1 a2 a3 a4 a5 a6 a7=>wpAny_pure (q h' a1 a2 a3 a4 a5 a6 a7)) (F.args_zip_next_1 _))))
theorem t6 {Q:Option Value→Shared→Prop} (hh:A.handled=none) (D:ZipApart z TI TO i1 i2 l1 l2) (hz:IsZip s.heap z TI TO .none) (hI:IsPair s.heap TI (.ref i1) (.ref i2)) (hO:IsPair s.heap TO a b)
 (t1:k.It s.heap i1 l1 j) (t2:k.It s.heap i2 l2 j) (q1:k.Sq s.heap l1 xs) (q2:k.Sq s.heap l2 ys) (ends:xs[j]?=none)
 (q:∀h',(∀c o,c≠z→c≠TO→c≠i1→c≠i2→s.heap.get? c=some o→h'.get? c=some o)→Q none {s with heap:=h'}):wpAny (model prog w) A (pyNext (.ref z)) Q E s:=by
 have ty:s.TypeIs (.ref z) "zip":=⟨_,hz,rfl⟩
 rw [pyNext]
 refine wpAny_bind (wpAny_attempt (wpAny_callSpecial?_slot (name:=Str.ofString "__next__") ty F.slot_zip_next (wpAny_call_entry F.slot_zip_next ty F.entry_zip_next (t5 hh D hz hI hO t1 t2 q1 q2 ends fun h' e up he=> ?_) (F.args_zip_next_1 _))))
 obtain ⟨o,e1,e2⟩:=he
 exact wpAny_bind (wpAny_isInstance (T:="StopIteration") (b:=true) ⟨o,e1,e2⟩ isSubtype_stop (wpAny_pure (q _ up)))
end
open PySem
abbrev zA (h:Heap) (l:Addr):Heap:=h.push {cls:= .type "tuple_iterator",data:= .fields #[.ref l, .int 0 0]}
abbrev zB (h:Heap) (l m:Addr):Heap:=zA (zA h l) m
abbrev zC (h:Heap) (l m:Addr):Heap:=(zB h l m).push {cls:= .type "tuple",data:= .seq #[.ref h.objs.size, .ref (zA h l).objs.size]}
abbrev zD (h:Heap) (l m:Addr):Heap:=(zC h l m).push {cls:= .type "tuple",data:= .seq #[.none, .none]}
abbrev zE (h:Heap) (l m:Addr):Heap:=(zD h l m).push {cls:= .type "zip",data:= .fields #[.none, .bool false, .bool false, .ref (zB h l m).objs.size, .ref (zC h l m).objs.size]}
theorem r8 (l m:Addr) (xs ys:Array Value):Meets (Builtin.«zip.__new__» ⟨[.type "zip", .ref l, .ref m],[]⟩) (fun _ R s=>s.heap.IsTuple l xs∧s.heap.IsTuple m ys∧
 R (.ok (.ret (.ref (zD s.heap l m).objs.size))) {s with heap:=zE s.heap l m}):=
 .of_wp fun prog w A R s h=>by
  obtain ⟨hp,g,d,tk,os⟩:=s
  obtain ⟨p1,p2,h⟩:=h
  have hsub:=sub_zip
  have p1:Heap.IsTuple (Shared.heap ⟨hp,g,d,tk,os⟩) l xs:=p1
  have p2:Heap.IsTuple (Shared.heap ⟨zA hp l,g,d,tk,os⟩) m ys:=Heap.IsTuple.at p2 fun o e=>Heap.get?_push_of_some _ e
  wp_walk using wpAny_pyIter_tuple p1,wpAny_pyIter_tuple p2
  exact ⟨_,rfl,h⟩
section
variable {prog:Program} {w:World} {A:Around} {E:Value→Shared→Prop} {s:Shared}
theorem pU {k:Src} {l m:Addr} {xs ys:Array Value} {Q:Value→Shared→Prop} (p1:k.Sq s.heap l xs) (p2:k.Sq s.heap m ys)
 (q:∀h',IsZip h' (s.heap.objs.size+4) (s.heap.objs.size+2) (s.heap.objs.size+3) .none→IsPair h' (s.heap.objs.size+2) (.ref s.heap.objs.size) (.ref (s.heap.objs.size+1))→
  IsPair h' (s.heap.objs.size+3) .none .none→k.It h' s.heap.objs.size l 0→k.It h' (s.heap.objs.size+1) m 0→h'.objs.size=s.heap.objs.size+5→
  (∀c o,s.heap.get? c=some o→h'.get? c=some o)→Q (.ref (s.heap.objs.size+4)) {s with heap:=h'}):
 wpAny (model prog w) A (call (.type "zip") [.ref l, .ref m]) Q E s:=by
 cases k
 · exact call_zip_2 p1 p2 q
 · refine callType_new F.called_zip (by decide) (F.typeCall_zip_2 _ _) (F.newCall_zip_2 _ _) (fun obj=>F.args_object_init_3 obj _ _) F.entry_zip_new (r8 l m xs ys) ⟨p1,p2,?_⟩
   have a1:(zA s.heap l).objs.size=s.heap.objs.size+1:=Heap.size_push ..
   have a2:(zB s.heap l m).objs.size=s.heap.objs.size+2:=by rw [Heap.size_push,a1]
   have a3:(zC s.heap l m).objs.size=s.heap.objs.size+3:=by rw [Heap.size_push,a2]
   have a4:(zD s.heap l m).objs.size=s.heap.objs.size+4:=by rw [Heap.size_push,a3]
   have a5:(zE s.heap l m).objs.size=s.heap.objs.size+5:=by rw [Heap.size_push,a4]
   have b5:(zE s.heap l m).get? (zD s.heap l m).objs.size=some _:=Heap.get?_push_size _ rfl
   have b4:(zE s.heap l m).get? (zC s.heap l m).objs.size=some _:=Heap.get?_push_of_some _ (Heap.get?_push_size _ rfl)
   have b3:(zE s.heap l m).get? (zB s.heap l m).objs.size=some _:=Heap.get?_push_of_some _ (Heap.get?_push_of_some _ (Heap.get?_push_size _ rfl))
   have b2:(zE s.heap l m).get? (zA s.heap l).objs.size=some _:=Heap.get?_push_of_some _ (Heap.get?_push_of_some _ (Heap.get?_push_of_some _ (Heap.get?_push_size _ rfl)))
   have b1:(zE s.heap l m).get? s.heap.objs.size=some _:=Heap.get?_push_of_some _ (Heap.get?_push_of_some _ (Heap.get?_push_of_some _ (Heap.get?_push_of_some _ (Heap.get?_push_size _ rfl))))
   show _∧_
   rw [a2,a3,a4] at b5
   rw [a1,a2] at b3
   rw [a3] at b4
   rw [a1] at b2
   rw [a4]
   exact ⟨⟨_,b5,rfl⟩,q _ b5 b3 b4 ⟨_,b1,rfl,rfl⟩ ⟨_,b2,rfl,rfl⟩ a5 fun c o e=>Heap.get?_push_of_some _ (Heap.get?_push_of_some _ (Heap.get?_push_of_some _ (Heap.get?_push_of_some _ (Heap.get?_push_of_some _ e))))⟩
end
end Zp
namespace L2
open PySem PySem.Spec PyProof.Rows Zp
def Sqk (k:Src) (K:PySem.W.Frag) (H:Hp) (a:Addr) (xs:List V):Prop:=match k with
 | .lst=>SqL K H a xs
 | .tup=>SqT K H a xs
theorem Inv.sqk {X:Cx} {pins:List (Addr×Obj)} {σ:St} {H:Hp} {s:Shared} {k:Src} {a:Addr} {xs:List V} (I:Inv X pins σ H s) (h:Sqk k X.K H a xs):∃its:List Value,Vals xs its∧k.Sq s.heap a its.toArray∧xs.length≤sizeLine:=by
 cases k
 · obtain ⟨its,r,p,z⟩:=I.list h
   exact ⟨its,r,p.isList,z⟩
 · obtain ⟨its,r,p,z⟩:=I.tuple h
   exact ⟨its,r,p,z⟩
theorem Inv.sqk_inj {X:Cx} {pins:List (Addr×Obj)} {σ:St} {H:Hp} {s:Shared} {k:Src} {a:Addr} {xs ys:List V} (I:Inv X pins σ H s) (h:Sqk k X.K H a xs) (h':Sqk k X.K H a ys):xs=ys:=by
 cases k
 · exact I.list_inj h h'
 · exact I.tuple_inj h h'
def Itz (k:Src) (K:PySem.W.Frag) (a b:Addr):It:=
 ⟨fun i H=>∃xs ys x y,Sqk k K H a xs∧Sqk k K H b ys∧xs[i]?=some x∧ys[i]?=some y,
  fun i H v H'=>∃T x y,v= .ref T∧H T=none∧H'=upd H T (.tup [x,y])∧(∀xs,Sqk k K H a xs→xs[i]?=some x)∧(∀ys,Sqk k K H b ys→ys[i]?=some y)∧i < sizeLine,
  fun i H=>∃xs ys,Sqk k K H a xs∧Sqk k K H b ys∧xs.length≤i⟩
section
variable {X:Cx} {pins:List (Addr×Obj)} {σ:St} {H:Hp} {s:Shared}
theorem Inv.turneds {h':Heap} {t':Nat} {fp:List Addr} (I:Inv X pins σ H s) (k:∀b o,b∉fp→s.heap.get? b=some o→h'.get? b=some o) (hf:∀b∈fp,FpOk X pins H b):Inv X pins σ H {s with heap:=h',toks:=t'}:=by
 refine I.call' (s':= {s with heap:=h',toks:=t'}) (ch:=fp) rfl ⟨fun b o e _ _ hx=>k b o hx e,fun b o e _ _ hx=>⟨o.slots,k b o hx e⟩,fun _ _ _ n _=>n,fun b o e hx=>⟨o,k b o hx e⟩,fun _ _ e=>e,fun _ _ _ e=>e,fun b ps e=>⟨#[],by rw [e];simp⟩⟩ ?_ I.bare fun b hb=> ?_
 · intro b o e
   have nb:∀c u,H c=some u→c∉fp:=fun c u e z=>by rw [(hf c z).1] at e;cases e
   refine (I.hok b o e).stay (fun c v hc q=>k c v ?_ q) (fun _ q=>q) fun _ _ q=>q
   rcases hc with z|z
   · rw [z];exact nb b o e
   · exact nb c _ z
 · obtain ⟨g0,g1,g2,g3,g4,g5⟩:=hf b hb
   exact ⟨g3,g1,g4,g5⟩
end
theorem nI {P:Program} {w:World} {K:PySem.W.Frag} {es:List Expr} {kk:Nat} {pos:Pos} {k:Src} (a b z TI TO i1 i2:Addr) (hd: [z,TI,TO,i1,i2].Nodup):
 Turn P w K (.Tuple es kk pos) (Itz k K a b) [z,TI,TO,i1,i2] z (fun i h=>IsZip h z TI TO .none∧IsPair h TI (.ref i1) (.ref i2)∧(∃u v,IsPair h TO u v)∧k.It h i1 a i∧k.It h i2 b i∧a∉ [z,TI,TO,i1,i2]∧b∉ [z,TI,TO,i1,i2]) where
 mem:=by simp
 obj:=fun i h ⟨h1,h2,⟨u,v,h3⟩,h4,h5,_⟩ c hc=>by
  simp only [List.mem_cons,List.not_mem_nil,or_false] at hc
  rcases hc with rfl|rfl|rfl|rfl|rfl
  · exact ⟨_,h1,fun v e=>by cases (show Data.fields _=Data.cell v from e)⟩
  · exact ⟨_,h2,fun v e=>by cases (show Data.seq _ _=Data.cell v from e)⟩
  · exact ⟨_,h3,fun v e=>by cases (show Data.seq _ _=Data.cell v from e)⟩
  · exact j0 h4
  · exact j0 h5
 keep:=fun i h h' ⟨h1,h2,⟨u,v,h3⟩,h4,h5,h6⟩ kp=>⟨kp z (by simp) _ h1,kp TI (by simp) _ h2,⟨u,v,kp TO (by simp) _ h3⟩,cU h4 fun o e=>kp i1 (by simp) o e,cU h5 fun o e=>kp i2 (by simp) o e,h6⟩
 item:=by
  intro X hP hw hK hc i pins s σ H E I hf ⟨h1,h2,⟨u0,v0,h3⟩,h4,h5,h6,h7⟩ hg
  subst hP hw hK
  obtain ⟨xs,ys,x,y,g1,g2,g3,g4⟩:=hg
  obtain ⟨as,r1,p1,z1⟩:=I.sqk g1
  obtain ⟨bs,r2,p2,z2⟩:=I.sqk g2
  obtain ⟨u,e1,q1⟩:=r1.get g3
  obtain ⟨v,e2,q2⟩:=r2.get g4
  simp only [List.nodup_cons,List.mem_cons,List.not_mem_nil,or_false,not_or,List.nodup_nil,and_true,not_false_eq_true] at hd h6 h7
  obtain ⟨⟨d1,d2,d3,d4⟩,⟨d5,d6,d7⟩,⟨d8,d9⟩,d10⟩:=hd
  have D:ZipApart z TI TO i1 i2 a b:=⟨Ne.symm d1,Ne.symm d2,Ne.symm d3,Ne.symm d4,d5,d6,d7,d8,d9,d10,h6.1,h6.2.2.1,h6.2.2.2.1,h6.2.2.2.2,h7.1,h7.2.2.1,h7.2.2.2.1,h7.2.2.2.2⟩
  refine qv D h1 h2 h3 h4 h5 p1 p2 (x:=u) (y:=v) (by simpa using e1) (by simpa using e2) fun h' a1 a2 a3 a4 a5 a6 up=>⟨_,rfl,?_⟩
  refine wpAny_letOwnedTupleGo_zip (s:= {s with heap:=h'}) a1 fun h'' b1 sb=> ?_
  have T:=s.heap.objs.size
  have fr:H s.heap.objs.size=none:=I.hok.fresh (Nat.le_refl _)
  have lt:∀ {c:Addr} {o:Obj},s.heap.get? c=some o→c≠s.heap.objs.size:=fun e=>Nat.ne_of_lt (Heap.lt_size e)
  have all:∀c o,c∉ [z,TI,TO,i1,i2]→s.heap.get? c=some o→h''.get? c=some o:=fun c o n e=>by
   simp only [List.mem_cons,List.not_mem_nil,or_false,not_or] at n
   exact sb.extBut c o n.1 (up c o n.1 n.2.2.1 n.2.2.2.1 n.2.2.2.2 e)
  have nz:s.heap.objs.size≠z:=(lt h1).symm
  have pT:IsPair h'' s.heap.objs.size u v:=sb.extBut _ _ nz a5
  have fp:∀b∈ [z,TI,TO,i1,i2],upd H s.heap.objs.size (.tup [x,y]) b=none:=fun c hc=>by
   have nc:c≠s.heap.objs.size:=by
    simp only [List.mem_cons,List.not_mem_nil,or_false] at hc
    rcases hc with rfl|rfl|rfl|rfl|rfl
    · exact lt h1
    · exact lt h2
    · exact lt h3
    · obtain ⟨o,e,_⟩:=j0 h4
      exact lt e
    · obtain ⟨o,e,_⟩:=j0 h5
      exact lt e
   rw [ai nc]
   exact (hf c hc).1
  refine ⟨.ref s.heap.objs.size,upd H s.heap.objs.size (.tup [x,y]),?_,rfl,⟨_,x,y,rfl,fr,rfl,fun zs hz=> ?_,fun zs hz=> ?_,Nat.lt_of_lt_of_le (List.getElem?_eq_some_iff.mp g3).1 z1⟩,⟨b1,?_,⟨u,v,?_⟩,?_,?_,?_,?_⟩,fp⟩
  ·
   refine I.call' (s':= {s with heap:=h''}) (ch:= [z,TI,TO,i1,i2]) rfl ⟨fun b o e _ _ hx=>all b o hx e,fun b o e _ _ hx=>⟨o.slots,all b o hx e⟩,fun c o e n _=>by rw [ai (lt e)];exact n,fun b o e hx=>⟨o,all b o hx e⟩,fun c zs e=>by rw [ai (aD e fr)];exact e,fun c o zs e=>by rw [ai (aD e fr)];exact e,fun c ps e=>⟨#[],by rw [ai (aD e fr),e];simp⟩⟩ ?_ I.bare fun b hb=> ?_
   · intro c o e
     by_cases hcT:c=s.heap.objs.size
     · subst hcT
       rw [a9] at e
       cases e
       exact ⟨by show 2≤sizeLine;decide,[u,v], .cons q1 (.cons q2 .nil),⟨_,pT,rfl,_,rfl⟩⟩
     · rw [ai hcT] at e
       have nb:∀c u,H c=some u→c∉ [z,TI,TO,i1,i2]:=fun c u e hz=>by rw [(hf c hz).1] at e;cases e
       refine (I.hok c o e).stay (fun d v hc q=>all d v ?_ q) (fun d q=> ?_) fun d m q=> ?_
       · rcases hc with hz|hz
         · rw [hz];exact nb c o e
         · exact nb d _ hz
       · rw [ai (aD q fr)];exact q
       · rw [ai (aD q fr)];exact q
   · obtain ⟨g0,g1,g2,g3,g4,g5⟩:=hf b hb
     exact ⟨g3,g1,g4,g5⟩
  · rw [I.sqk_inj hz g1];exact g3
  · rw [I.sqk_inj hz g2];exact g4
  · exact sb.extBut _ _ D.TIz (up _ _ D.TIz D.TITO D.TIi1 D.TIi2 h2)
  · exact sb.extBut _ _ D.TOz a2
  · exact cU a3 fun o e=>sb.extBut _ o D.i1z e
  · exact cU a4 fun o e=>sb.extBut _ o D.i2z e
  · simpa using h6
  · simpa using h7
 done:=by
  intro X hP hw hK hc i pins s σ H E I hf ⟨h1,h2,⟨u0,v0,h3⟩,h4,h5,h6,h7⟩ hg
  subst hP hw hK
  obtain ⟨xs,ys,g1,g2,g3⟩:=hg
  obtain ⟨as,r1,p1,z1⟩:=I.sqk g1
  obtain ⟨bs,r2,p2,z2⟩:=I.sqk g2
  have hl:=r1.length
  simp only [List.nodup_cons,List.mem_cons,List.not_mem_nil,or_false,not_or,List.nodup_nil,and_true,not_false_eq_true] at hd h6 h7
  obtain ⟨⟨d1,d2,d3,d4⟩,⟨d5,d6,d7⟩,⟨d8,d9⟩,d10⟩:=hd
  have D:ZipApart z TI TO i1 i2 a b:=⟨Ne.symm d1,Ne.symm d2,Ne.symm d3,Ne.symm d4,d5,d6,d7,d8,d9,d10,h6.1,h6.2.2.1,h6.2.2.2.1,h6.2.2.2.2,h7.1,h7.2.2.1,h7.2.2.2.1,h7.2.2.2.2⟩
  refine t6 (I.ok.hd hc) D h1 h2 h3 h4 h5 p1 p2 (by simp;omega) fun h' up=>⟨rfl,I.turneds (t':=s.toks) (fun c o n e=> ?_) hf⟩
  simp only [List.mem_cons,List.not_mem_nil,or_false,not_or] at n
  exact up c o n.1 n.2.2.1 n.2.2.2.1 n.2.2.2.2 e
 self:=fun _ _ _ _ _ st h=>wpAny_pyIter_zip st.1 h
section
variable {X:Cx}
def iZip (k:Src) (K:PySem.W.Frag) (ta:TA):TI:=fun σ H R=>ta σ H fun vs H1=>∃a b xs ys,vs= [.ref a, .ref b]∧Sqk k K H1 a xs∧Sqk k K H1 b ys∧R (Itz k K a b) H1
theorem oA {k:Src} {es:List Expr} {kk:Nat} {pt:Pos} {x y:Expr} {ta:TA} {p pos:Pos} (hg:Gl X "zip") (hm:X.mg "zip"=none) (ha:PA X [x,y] ta) (hs:starEach [x,y] X.env= [(false,eval x X.env),(false,eval y X.env)]:=by rfl) (hs2:starEach [y] X.env= [(false,eval y X.env)]:=by rfl):
 PI X (.Tuple es kk pt) (.Call (.Name "zip" p) [x,y] [] pos) (iZip k X.K ta):=by
 intro pins s σ H R I h
 refine Call_ (f8 I hg hm PyProof.Rows.boot_zip (PyProof.Rows.callWith_type1 (thn (ha pos pins s σ H _ I h) fun us s1 ⟨vs,H1,I1,r1,q1⟩=> ?_) (by rw [hs,hs2]) (by rw [hs2];rfl)))
 obtain ⟨a,b,xs,ys,e,k1,k2,q⟩:=q1
 subst e
 cases r1 with
 |cons r rr=>
  cases rr with
  |cons r' rr=>
   cases rr
   cases r
   cases r'
   obtain ⟨as,_,p1,_⟩:=I1.sqk k1
   obtain ⟨bs,_,p2,_⟩:=I1.sqk k2
   refine pU p1 p2 fun h' hz hI hO t1 t2 sz up=> ?_
   refine wpAny_pyIter_zip (s:= {s1 with heap:=h'}) hz ?_
   have lta:a < s1.heap.objs.size:=by
    cases k
    · obtain ⟨o,e,_⟩:=p1
      exact Heap.lt_size e
    · obtain ⟨o,e,_⟩:=p1
      exact Heap.lt_size e
   have ltb:b < s1.heap.objs.size:=by
    cases k
    · obtain ⟨o,e,_⟩:=p2
      exact Heap.lt_size e
    · obtain ⟨o,e,_⟩:=p2
      exact Heap.lt_size e
   have na:∀j,a≠s1.heap.objs.size+j:=fun j=>Nat.ne_of_lt (Nat.lt_of_lt_of_le lta (Nat.le_add_right ..))
   have nb:∀j,b≠s1.heap.objs.size+j:=fun j=>Nat.ne_of_lt (Nat.lt_of_lt_of_le ltb (Nat.le_add_right ..))
   have le:∀c∈ [s1.heap.objs.size+4,s1.heap.objs.size+2,s1.heap.objs.size+3,s1.heap.objs.size+0,s1.heap.objs.size+1],s1.heap.objs.size≤c:=fun c hc=>by
    simp only [List.mem_cons,List.not_mem_nil,or_false] at hc
    rcases hc with rfl|rfl|rfl|rfl|rfl<;>exact Nat.le_add_right ..
   refine ⟨s1.heap.objs.size+4,[s1.heap.objs.size+4,s1.heap.objs.size+2,s1.heap.objs.size+3,s1.heap.objs.size+0,s1.heap.objs.size+1],_,_,H1,rfl,I1.kept (t':=s1.toks) up,nI a b _ _ _ _ _ (by simp),⟨hz,hI,⟨_,_,hO⟩,t1,t2,?_,?_⟩,fun c hc=>I1.fpOk (le c hc) (I1.hok.fresh (le c hc)),q⟩
   · simp only [List.mem_cons,List.not_mem_nil,or_false,not_or]
     exact ⟨na 4,na 2,na 3,na 0,na 1⟩
   · simp only [List.mem_cons,List.not_mem_nil,or_false,not_or]
     exact ⟨nb 4,nb 2,nb 3,nb 0,nb 1⟩
end
open PySem PySem.Spec PyProof.Rows Zp
section
variable {X:Cx}
def sQ (K:PySem.W.Frag) (ta:TA):TI:=fun σ H R=>iZip .lst K ta σ H R∨iZip .tup K ta σ H R
theorem qO {es:List Expr} {kk:Nat} {pt:Pos} {x y:Expr} {ta:TA} {p pos:Pos} (hg:Gl X "zip") (hm:X.mg "zip"=none) (ha:PA X [x,y] ta) (hs:starEach [x,y] X.env= [(false,eval x X.env),(false,eval y X.env)]:=by rfl) (hs2:starEach [y] X.env= [(false,eval y X.env)]:=by rfl):
 PI X (.Tuple es kk pt) (.Call (.Name "zip" p) [x,y] [] pos) (sQ X.K ta):=fun pins s σ H R I h=>h.elim (oA (k:= .lst) hg hm ha hs hs2 pins s σ H R I) (oA (k:= .tup) hg hm ha hs hs2 pins s σ H R I)
end
theorem pQ {k:Src} {K K':PySem.W.Frag} {a b:Addr} {mp:List (Option Nat)} {ta:TA} {te:TE} {Q:VK} {σ rest:L2.St} {H1:Hp} {xs ys:List V} (e:subS mp σ=none::none::rest) (hl:ys.length=xs.length)
 (ha:∀Q:List V→Hp→Prop,Q [.ref a, .ref b] H1→ta σ H1 Q) (h1:Sqk k K H1 a xs) (h2:Sqk k K H1 b ys)
 (h:∀D,H1 D=none→∃Pv:Nat→List V→Hp→Prop,Pv 0 [] (upd H1 D (.lst []))∧(∀i acc H,Pv i acc H→Sqk k K H a xs∧Sqk k K H b ys)∧
  (∀i T x y acc H,i < xs.length→i < sizeLine→Pv i acc H→xs[i]?=some x→ys[i]?=some y→H T=none→te (some x::some y::rest) (upd H T (.tup [x,y])) (CompN xs.length i D acc Pv))∧∀acc H,Pv xs.length acc H→Q (.ref D) H):
 cP mp (sQ K ta) (gTup K' 2 (cW (aV 0) (cW (aV 1) gNil))) cH te σ H1 Q:=by
 unfold cP
 rw [e]
 have main:iZip k K ta σ H1 fun J H1=>∀D,H1 D=none→
  ∃W:Nat→Nat→List V→Hp→Prop,(∃m,W 0 m [] (upd H1 D (.lst [])))∧∀i m acc H2,W i m acc H2→(J.stop i H2∧Q (.ref D) H2)∨
  (J.go i H2∧∀x H3,J.yld i H2 x H3→gTup K' 2 (cW (aV 0) (cW (aV 1) gNil)) x (none::none::rest) H3 fun σ4 H4=>Ext (none::none::rest) σ4∧cH σ4 H4 fun b H5=>if b=true then te σ4 H5 fun v H6=>H6 D=some (.lst acc)∧acc.length < sizeLine∧∃m',m' < m∧W (i+1) m' (acc++ [v]) (upd H6 D (.lst (acc++ [v])))
  else∃m',m' < m∧W (i+1) m' acc H5):=by
  refine ha _ ⟨a,b,xs,ys,rfl,h1,h2,fun D nD=> ?_⟩
  obtain ⟨Pv,p0,pq,ps,pd⟩:=h D nD
  refine ⟨fun i m acc H=>m=xs.length - i∧i≤xs.length∧Pv i acc H,⟨xs.length,by simp,Nat.zero_le _,p0⟩,?_⟩
  rintro i m acc H ⟨rfl,hi,p⟩
  obtain ⟨q1,q2⟩:=pq i acc H p
  by_cases hlt:i < xs.length
  · refine .inr ⟨⟨xs,ys,xs[i],ys[i],q1,q2,by simp [hlt],by simp [hl,hlt]⟩,?_⟩
    rintro v H' ⟨T,x,y,rfl,nT,rfl,y1,y2,z⟩
    refine ⟨T,[x,y],rfl,SqT.of a9,rfl,x,[y],rfl,y,[],rfl,rfl,ext2,?_⟩
    exact ps i T x y acc H hlt z p (y1 xs q1) (y2 ys q2) nT
  · have ei:i=xs.length:=by omega
    subst ei
    exact .inl ⟨⟨xs,ys,q1,q2,Nat.le_refl _⟩,pd acc H p⟩
 cases k
 · exact .inl main
 · exact .inr main
section
variable {X:Cx}
theorem ip:∀ {bs:List Bool} {us:List Value},Vals (bs.map V.bl) us→us=bs.map Value.bool
 | [],_,r=>by cases r;rfl
 |b::bs,_,r=>by
  rw [List.map_cons] at r
  cases r with
  |cons r1 r2=>rw [ip r2,(show _=Value.bool b from r1)];rfl
theorem io (hc:X.calm=true):CallR X (.builtin "all") (fun xs H Q=>∃(p:Addr) (bs:List Bool),xs= [.ref p]∧SqL X.K H p (bs.map V.bl)∧Q (.bl (bs.all id)) H):=by
 intro pins s σ H xs us Q I r h
 obtain ⟨p,bs,rfl,hp,q⟩:=h
 obtain ⟨u,rfl,ru⟩:=gY r
 cases ru
 obtain ⟨its,rv,pl,_⟩:=I.list hp
 have e:=ip rv
 subst e
 have hlt:p < s.heap.objs.size:=by obtain ⟨_,e,_⟩:=pl.isList;exact Heap.lt_size e
 refine call_all_walk (wpAny_pyIter_list pl.isList ⟨s.heap.objs.size,[s.heap.objs.size,p],[s.heap.objs.size],(bs.map Value.bool).toArray.size,_,_,fun i=>(bs[i]?).getD true,rfl,Walks.list (A:=X.A.in1) (I.ok.hd hc) _ p (Nat.ne_of_lt hlt) _,
  ⟨⟨_,Heap.get?_push_size _ rfl,rfl,rfl⟩,pl.isList.push _⟩,fun i v s' Q' E' hP hQ=> ?_,fun h' tk hk=> ?_⟩)
 · have hP':(bs.map Value.bool)[i]?=some v:=by simpa using hP
   rw [List.getElem?_map] at hP'
   obtain ⟨b,e,rfl⟩:=Option.map_eq_some_iff.mp hP'
   dsimp only at hQ
   rw [e] at hQ
   exact wpAny_truthy_bool hQ
 · have e:((List.range (bs.map Value.bool).toArray.size).all fun i=>(bs[i]?).getD true)=bs.all id:=by
    rw [List.size_toArray,List.length_map]
    exact PyProof.Rows.LSm.range_all bs
   rw [e]
   refine ⟨.bl _,H,I.kept (t':=tk) fun b x ex=>hk b x (fun hm=> ?_) (Heap.get?_push_of_some _ ex),rfl,q⟩
   rw [List.mem_singleton.mp hm] at ex
   exact Nat.lt_irrefl _ (Heap.lt_size ex)
end
end L2
namespace Tre
open PySem L2 Zp
def Sm (H:Hp):Nat→V→V→Prop
 |0,_,_=>False
 |n+1,v,w=>(∃x,v= .str x∧w= .str x)∨(∃i,v= .int i∧w= .int i)∨(∃b,v= .bl b∧w= .bl b)∨(v= .non∧w= .non)∨
  ∃a b xs ys,v= .ref a∧w= .ref b∧((H a=some (.lst xs)∧H b=some (.lst ys))∨(H a=some (.tup xs)∧H b=some (.tup ys)))∧ys.length=xs.length∧∀(j:Nat) x y,xs[j]?=some x→ys[j]?=some y→Sm H n x y
theorem Sm.mono {H H':Hp} (s:Same H H'):∀ {n:Nat} {v w:V},Sm H n v w→Sm H' n v w
 |0,_,_,h=>h.elim
 |n+1,v,w,h=>by
  rcases h with h|h|h|h|⟨a,b,xs,ys,e1,e2,h1,h2,h4⟩
  · exact .inl h
  · exact .inr (.inl h)
  · exact .inr (.inr (.inl h))
  · exact .inr (.inr (.inr (.inl h)))
  · refine .inr (.inr (.inr (.inr ⟨a,b,xs,ys,e1,e2,?_,h2,fun j x y q1 q2=>Sm.mono s (h4 j x y q1 q2)⟩)))
    rcases h1 with ⟨q1,q2⟩|⟨q1,q2⟩
    · exact .inl ⟨s _ _ q1,s _ _ q2⟩
    · exact .inr ⟨s _ _ q1,s _ _ q2⟩
theorem oh {H:Hp} {n:Nat} {vs ws:List V} {ts:List Tr} (h1:TrsAt H vs ts) (h2:TrsAt H ws ts) (h:∀v w t,t∈ts→TrAt H v t→TrAt H w t→Sm H n v w):ws.length=vs.length∧∀(j:Nat) x y,vs[j]?=some x→ws[j]?=some y→Sm H n x y:=by
 have l1:=h1.len
 have l2:=h2.len
 refine ⟨by omega,fun j x y e1 e2=> ?_⟩
 have hj:j < ts.length:=by
  have:=(List.getElem?_eq_some_iff.mp e1).1
  omega
 have t1:ts[j]?=some ts[j]:=List.getElem?_eq_getElem _
 obtain ⟨v,f1,a1⟩:=h1.get t1
 obtain ⟨w,f2,a2⟩:=h2.get t1
 rw [e1] at f1
 rw [e2] at f2
 cases f1
 cases f2
 exact h x y _ (List.mem_of_getElem? t1) a1 a2
theorem sg {H:Hp}:∀(n:Nat) {v w:V} {t:Tr},TrAt H v t→TrAt H w t→t.pure→t.depth < n→Sm H n v w
 |0,v,w,t,_,_,_,h=>absurd h (by omega)
 |n+1,v,w, .non,h1,h2,_,_=>by
  unfold TrAt at h1 h2
  exact .inr (.inr (.inr (.inl ⟨h1,h2⟩)))
 |n+1,v,w, .bl b,h1,h2,_,_=>by
  unfold TrAt at h1 h2
  exact .inr (.inr (.inl ⟨b,h1,h2⟩))
 |n+1,v,w, .int i,h1,h2,_,_=>by
  unfold TrAt at h1 h2
  exact .inr (.inl ⟨i,h1,h2⟩)
 |n+1,v,w, .str x,h1,h2,_,_=>by
  unfold TrAt at h1 h2
  exact .inl ⟨x,h1,h2⟩
 |n+1,v,w, .ls,_,_,hp,_=>by
  unfold Tr.pure at hp
  exact hp.elim
 |n+1,v,w, .tup ts,h1,h2,hp,hd=>by
  unfold TrAt at h1 h2
  unfold Tr.pure at hp
  unfold Tr.depth at hd
  obtain ⟨r,vs,rfl,g1,k1⟩:=h1
  obtain ⟨r',ws,rfl,g2,k2⟩:=h2
  obtain ⟨hl,hi⟩:=oh (n:=n) k1 k2 fun v w t m a b=>sg n a b (cA hp m) (by have:=aQ m;omega)
  exact .inr (.inr (.inr (.inr ⟨r,r',vs,ws,rfl,rfl, .inr ⟨g1,g2⟩,hl,hi⟩)))
theorem mK (K:PySem.W.Frag):PySem.W.kitAny K (.type "str") [.type "list", .type "tuple"]=some false:=by kernel_rfl
theorem mU (K:PySem.W.Frag):PySem.W.kitAny K (.type "int") [.type "list", .type "tuple"]=some false:=by kernel_rfl
theorem kx (K:PySem.W.Frag):PySem.W.kitAny K (.type "bool") [.type "list", .type "tuple"]=some false:=by kernel_rfl
theorem kr (K:PySem.W.Frag):PySem.W.kitAny K (.type "NoneType") [.type "list", .type "tuple"]=some false:=by kernel_rfl
theorem mJ (K:PySem.W.Frag):PySem.W.kitAny K (.type "tuple") [.type "list", .type "tuple"]=some true:=by kernel_rfl
theorem mQ (K:PySem.W.Frag):PySem.W.kitAny K (.type "list") [.type "list", .type "tuple"]=some true:=by kernel_rfl
theorem ku (K:PySem.W.Frag):PySem.W.kitOne K (.type "list") (.type "list")=some true:=by kernel_rfl
theorem kq (K:PySem.W.Frag):PySem.W.kitOne K (.type "tuple") (.type "list")=some false:=by kernel_rfl
theorem ff (K:PySem.W.Frag):PySem.W.kitOne K (.type "str") (.type "bool")=some false:=by kernel_rfl
theorem fY (K:PySem.W.Frag):PySem.W.kitOne K (.type "str") (.type "str")=some true:=by kernel_rfl
theorem fZ (K:PySem.W.Frag):PySem.W.kitOne K (.type "int") (.type "str")=some false:=by kernel_rfl
theorem mM (K:PySem.W.Frag):PySem.W.kitAny K (.type "str") [.type "int", .type "str"]=some true:=by kernel_rfl
theorem mY (K:PySem.W.Frag):PySem.W.kitAny K (.type "int") [.type "int", .type "str"]=some true:=by kernel_rfl
open PySem PySem.Spec PyProof.Rows L2
section
variable {X:Cx}
theorem qj {H:Hp} {t:Tr} {e:Value→Bool}:∀ {xs:List V} {us:List Value} {ts:List Tr},Vals xs us→TrsAt H xs ts→(∀v u s,RelV v u→TrAt H v s→e u=eqT s t)→us.any e=ts.any fun s=>eqT s t
 |_,_,[],r,h,_=>by
  unfold TrsAt at h
  subst h
  cases r
  rfl
 |_,_,s::ts,r,h,he=>by
  unfold TrsAt at h
  obtain ⟨v,q,rfl,h1,h2⟩:=h
  cases r with
  |cons r1 r2=>rw [List.any_cons,List.any_cons,qj r2 h2 he,he _ _ _ r1 h1]
end
open PySem PySem.Spec PyProof.Rows L2
section
variable {X:Cx}
def SqE (H:Hp) (p:Addr) (xs:List V):Prop:=H p=some (.lst xs)∨H p=some (.tup xs)
def rIn (b:Bool):R2:=fun x y H Q=>∃p xs ts t,y= .ref p∧SqE H p xs∧TrsAt H xs ts∧TrAt H x t∧(∀u∈ts,u.depth≤40)∧t.pure∧Q (.bl ((ts.any fun u=>eqT u t)==b)) H
theorem eg {pins:List (Addr×Obj)} {s:Shared} {σ:L2.St} {H:Hp} {xs:List V} {ts:List Tr} {t:Tr} {x:V} {v:Value} {its:List Value} (hu:X.A.units+50 < cLine) (I:Inv X pins σ H s) (rx:RelV x v) (r:Vals xs its) (hT:TrsAt H xs ts) (ht:TrAt H x t) (hd:∀u∈ts,u.depth≤40) (hpu:t.pure):
 ∃e:Value→Bool,(∀w,w∈its.toArray→SeqAt.EqAt X.A.in1 s w v (e w))∧its.toArray.any e=ts.any fun s=>eqT s t:=by
 classical
 have he:∀v' u' s',RelV v' u'→TrAt H v' s'→decide (∃v s,RelV v u'∧TrAt H v s∧eqT s t=true)=eqT s' t:=fun v' u' s' r' h'=>by
  cases e:eqT s' t with
  |true=>exact decide_eq_true ⟨v',s',r',h',e⟩
  |false=>
   refine decide_eq_false ?_
   rintro ⟨v2,s2,r2,h2,e2⟩
   cases r2.inj r'
   rw [TrAt.det h2 h',e] at e2
   cases e2
 refine ⟨fun u'=>decide (∃v s,RelV v u'∧TrAt H v s∧eqT s t=true),fun w hw=> ?_,?_⟩
 · have hw':w∈its:=by simpa using hw
   obtain ⟨j,hj,ej⟩:=List.getElem_of_mem hw'
   have l1:=r.length
   have l2:=hT.len
   have t1:ts[j]?=some (ts[j]'(by omega)):=List.getElem?_eq_getElem _
   obtain ⟨v',e1,a1⟩:=hT.get t1
   obtain ⟨u',e2,q2⟩:=r.get e1
   rw [List.getElem?_eq_getElem hj,ej] at e2
   cases e2
   dsimp only
   rw [he _ _ _ q2 a1]
   exact iB I 40 (hd _ (List.mem_of_getElem? t1)) (.inr hpu) a1 ht q2 rx (by show X.A.units+1+40+1 < cLine;omega)
 · rw [List.any_toArray]
   exact qj r hT he
theorem sV (b:Bool):(b==true)=b:=by cases b<;>rfl
theorem sW (b:Bool):(b==false)= !b:=by cases b<;>rfl
theorem ke (hu:X.A.units+50 < cLine):OpR X (compareOp .In) (rIn true):=by
 intro pins s σ H x y v u Q I rx ry h
 obtain ⟨p,xs,ts,t,rfl,hp,hT,ht,hd,hpu,q⟩:=h
 cases ry
 rcases hp with hp|hp
 · obtain ⟨its,r,pl,hz⟩:=I.list (SqL.of hp)
   obtain ⟨e,h1,h2⟩:=eg hu I rx r hT ht hd hpu
   refine SeqAt.in_listAt e pl.isList h1 ⟨.bl _,H,I,rfl,?_⟩
   rw [h2,←sV (ts.any fun s=>eqT s t)]
   exact q
 · obtain ⟨its,r,pl,hz⟩:=I.tuple (SqT.of hp)
   obtain ⟨e,h1,h2⟩:=eg hu I rx r hT ht hd hpu
   refine SeqAt.in_tupleAt e (show s.heap.IsTuple p its.toArray from pl) h1 ⟨.bl _,H,I,rfl,?_⟩
   rw [h2,←sV (ts.any fun s=>eqT s t)]
   exact q
theorem lJ (hu:X.A.units+50 < cLine):OpR X (compareOp .NotIn) (rIn false):=by
 intro pins s σ H x y v u Q I rx ry h
 obtain ⟨p,xs,ts,t,rfl,hp,hT,ht,hd,hpu,q⟩:=h
 cases ry
 rcases hp with hp|hp
 · obtain ⟨its,r,pl,hz⟩:=I.list (SqL.of hp)
   obtain ⟨e,h1,h2⟩:=eg hu I rx r hT ht hd hpu
   refine SeqAt.notIn_listAt e pl.isList h1 ⟨.bl _,H,I,rfl,?_⟩
   rw [h2,←sW (ts.any fun s=>eqT s t)]
   exact q
 · obtain ⟨its,r,pl,hz⟩:=I.tuple (SqT.of hp)
   obtain ⟨e,h1,h2⟩:=eg hu I rx r hT ht hd hpu
   refine SeqAt.notIn_tupleAt e (show s.heap.IsTuple p its.toArray from pl) h1 ⟨.bl _,H,I,rfl,?_⟩
   rw [h2,←sW (ts.any fun s=>eqT s t)]
   exact q
end
theorem gy {H:Hp}:∀ {bs:List Bool},TrsAt H (bs.map V.bl) (bs.map Tr.bl)
 | []=> .nil
 |b::bs=> .cons (by unfold TrAt;rfl) gy
theorem eF (b:Bool):∀bs:List Bool,((bs.map Tr.bl).any fun u=>eqT u (.bl b))=bs.any (· ==b)
 | []=>rfl
 |c::bs=>by
  rw [List.map_cons,List.any_cons,List.any_cons,eF b bs]
  simp [eqT]
theorem dl {bs:List Bool}:∀u∈bs.map Tr.bl,u.depth≤40:=fun u m=>by
 obtain ⟨b,_,rfl⟩:=List.mem_map.mp m
 simp [Tr.depth]
end Tre
namespace L2
open PySem PySem.Spec PyProof.Rows
section
variable {X:Cx}
end
theorem pR {K K':PySem.W.Frag} {a:Addr} {mp:List (Option Nat)} {tl:TE} {te:TE} {Q:VK} {σ rest:L2.St} {H H1:Hp} {xs:List V} (e:subS mp σ=none::none::rest)
 (ha:∀Q:VK,Q (.ref a) H1→tl σ H Q) (h1:SqT K H1 a xs)
 (h:∀D,H1 D=none→∃Pv:Nat→List V→Hp→Prop,Pv 0 [] (upd H1 D (.lst []))∧(∀i acc H,Pv i acc H→SqT K H a xs)∧
  (∀i z acc H,i < xs.length→Pv i acc H→xs[i]?=some z→∃T x y,z= .ref T∧SqT K' H T [x,y]∧te (some x::some y::rest) H (CompN xs.length i D acc Pv))∧∀acc H,Pv xs.length acc H→Q (.ref D) H):
 cP mp (iTup K tl) (gTup K' 2 (cW (aV 0) (cW (aV 1) gNil))) cH te σ H Q:=by
 unfold cP
 rw [e]
 refine ha _ ⟨a,rfl,⟨xs,h1⟩,fun D nD=> ?_⟩
 obtain ⟨Pv,p0,pq,ps,pd⟩:=h D nD
 refine ⟨fun i m acc H=>m=xs.length - i∧i≤xs.length∧Pv i acc H,⟨xs.length,by simp,Nat.zero_le _,p0⟩,?_⟩
 rintro i m acc H ⟨rfl,hi,p⟩
 have q1:=pq i acc H p
 by_cases hlt:i < xs.length
 · refine .inr ⟨⟨xs,xs[i],q1,by simp [hlt]⟩,?_⟩
   rintro v H' ⟨rfl,y⟩
   have ev:=y xs q1
   obtain ⟨T,x,z,rfl,hT,hte⟩:=ps i v acc _ hlt p ev
   exact ⟨T,[x,z],rfl,hT,rfl,x,[z],rfl,z,[],rfl,rfl,ext2,hte⟩
 · have ei:i=xs.length:=by omega
   subst ei
   exact .inl ⟨⟨xs,q1,Nat.le_refl _⟩,pd acc H p⟩
end L2
namespace Wd
open PySem L2 Tre Mth Dj
def FlG (kF:List (Key×V)):Prop:=∀x v,valV kF (.inr x)=some v→∃b,v=V.bl b
def VaG (H:Hp) (kV:List (Key×V)):Prop:=∀x v,valV kV (.inr x)=some v→∃p,TrAt H v (frT p)∧Gv p
def CaG (H:Hp) (kC:List Ent):Prop:=∀k v,valJ kC k=some v→∃p,TrAt H v (frT p)∧Gv p
structure WS (P:Program) (w:World) (K:PySem.W.Frag) (H:Hp) (F D C:Addr) (n:Nat):Prop where
 ne:F≠D
 fl:∃kF,H F=some (.dK kF)∧FlG kF∧kF.length≤n
 va:∃kV,H D=some (.dK kV)∧VaG H kV∧kV.length≤n
 ca:∃kC,DJ P w K H C kC∧CaG H kC∧kC.length≤n
theorem VaG.mono {H H':Hp} {kV:List (Key×V)} (k:Kd H H') (h:VaG H kV):VaG H' kV:=fun x v e=>by
 obtain ⟨p,h1,h2⟩:=h x v e
 exact ⟨p,h1.mono k,h2⟩
theorem CaG.mono {H H':Hp} {kC:List Ent} (k:Kd H H') (h:CaG H kC):CaG H' kC:=fun x v e=>by
 obtain ⟨p,h1,h2⟩:=h x v e
 exact ⟨p,h1.mono k,h2⟩
section
variable {P:Program} {w:World} {K:PySem.W.Frag} {H H':Hp} {F D C:Addr} {n:Nat}
theorem WS.kd (h:WS P w K H F D C n) (k:Kd H H') (hs:∀a o,a=F∨a=D∨a=C→H a=some o→H' a=some o):WS P w K H' F D C n:=by
 obtain ⟨kF,f1,f2,f3⟩:=h.fl
 obtain ⟨kV,v1,v2,v3⟩:=h.va
 obtain ⟨kC,c1,c2,c3⟩:=h.ca
 exact ⟨h.ne,⟨kF,hs _ _ (.inl rfl) f1,f2,f3⟩,⟨kV,hs _ _ (.inr (.inl rfl)) v1,v2.mono k,v3⟩,⟨kC,c1.kd k (hs _ _ (.inr (.inr rfl)) c1.at_),c2.mono k,c3⟩⟩
theorem WS.same (h:WS P w K H F D C n) (s:Same H H'):WS P w K H' F D C n:=h.kd (Kd.of_same s) fun a o _ e=>s a o e
theorem WS.mono {m:Nat} (h:WS P w K H F D C n) (hn:n≤m):WS P w K H F D C m:=by
 obtain ⟨kF,f1,f2,f3⟩:=h.fl
 obtain ⟨kV,v1,v2,v3⟩:=h.va
 obtain ⟨kC,c1,c2,c3⟩:=h.ca
 exact ⟨h.ne,⟨kF,f1,f2,by omega⟩,⟨kV,v1,v2,by omega⟩,⟨kC,c1,c2,by omega⟩⟩
theorem WS.nFC (h:WS P w K H F D C n):F≠C∧D≠C:=by
 obtain ⟨kF,f1,f2,f3⟩:=h.fl
 obtain ⟨kV,v1,v2,v3⟩:=h.va
 obtain ⟨kC,c1,c2,c3⟩:=h.ca
 exact ⟨fun z=>(by rw [z,c1.at_] at f1;cases f1),fun z=>(by rw [z,c1.at_] at v1;cases v1)⟩
theorem WS.putF {kF:List (Key×V)} {x:Str} {b:Bool} (h:WS P w K H F D C n) (e:H F=some (.dK kF)):WS P w K (upd H F (.dK (putK kF (.inr x) (.bl b)))) F D C (n+1):=by
 obtain ⟨kF',f1,f2,f3⟩:=h.fl
 rw [e] at f1
 cases f1
 obtain ⟨kV,v1,v2,v3⟩:=h.va
 obtain ⟨kC,c1,c2,c3⟩:=h.ca
 have k:=Kd.updK (o:= .dK (putK kF (.inr x) (.bl b))) e
 refine ⟨h.ne,⟨_,a9,fun y v q=> ?_,?_⟩,⟨kV,(ai h.ne.symm).trans v1,v2.mono k,by omega⟩,⟨kC,c1.kd k ((ai h.nFC.1.symm).trans c1.at_),c2.mono k,by omega⟩⟩
 · rw [jf] at q
   split at q
   · cases q;exact ⟨b,rfl⟩
   · exact f2 y v q
 · have:=cn kF (.inr x) (.bl b)
   omega
theorem WS.putV {kV:List (Key×V)} {x:Str} {v:V} {p:Fr} (h:WS P w K H F D C n) (e:H D=some (.dK kV)) (hv:TrAt H v (frT p)) (hp:Gv p):WS P w K (upd H D (.dK (putK kV (.inr x) v))) F D C (n+1):=by
 obtain ⟨kF,f1,f2,f3⟩:=h.fl
 obtain ⟨kV',v1,v2,v3⟩:=h.va
 rw [e] at v1
 cases v1
 obtain ⟨kC,c1,c2,c3⟩:=h.ca
 have k:=Kd.updK (o:= .dK (putK kV (.inr x) v)) e
 refine ⟨h.ne,⟨kF,(ai h.ne).trans f1,f2,by omega⟩,⟨_,a9,fun y u q=> ?_,?_⟩,⟨kC,c1.kd k ((ai h.nFC.2.symm).trans c1.at_),c2.mono k,by omega⟩⟩
 · rw [jf] at q
   split at q
   · cases q;exact ⟨p,hv.mono k,hp⟩
   · exact v2.mono k y u q
 · have:=cn kV (.inr x) v
   omega
theorem WS.putC {kC:List Ent} {j:List Tk.KT} {b:Addr} {v:V} {p:Fr} (h:WS P w K H F D C n) (e:DJ P w K H C kC) (hj:KeyAt K H j b) (hv:TrAt H v (frT p)) (hp:Gv p) (hl:kC.length≤n) (hc:CaG H kC):WS P w K (upd H C (dJ P w C (putJ kC j b v))) F D C (n+1):=by
 obtain ⟨kF,f1,f2,f3⟩:=h.fl
 obtain ⟨kV,v1,v2,v3⟩:=h.va
 have k:=Kd.updJ (o:=dJ P w C (putJ kC j b v)) e.at_
 refine ⟨h.ne,⟨kF,(ai h.nFC.1).trans f1,f2,by omega⟩,⟨kV,(ai h.nFC.2).trans v1,v2.mono k,by omega⟩,⟨_,e.put hj,fun y u q=> ?_,?_⟩⟩
 · rw [nB] at q
   split at q
   · cases q;exact ⟨p,hv.mono k,hp⟩
   · exact hc.mono k y u q
 · have:=fe kC j b v
   omega
end
def WAt (P:Program) (w:World) (K:PySem.W.Frag) (H:Hp) (v:V) (W:Wld):Prop:=∃r F D C kF kV kC,v= .ref r∧H r=some (.tup [.ref F, .ref D, .ref C])∧
 (H F=some (.dK kF)∧∀x,(valV kF (.inr x)).getD (.bl false)= .bl (W.fl x))∧
 (H D=some (.dK kV)∧∀x,(∃u,valV kV (.inr x)=some u∧TrAt H u (frT (W.va x)))∨(valV kV (.inr x)=none∧W.va x=zero))∧
 (DJ P w K H C kC∧∀k,(∃u,valJ kC k=some u∧TrAt H u (frT (W.ca k)))∨(valJ kC k=none∧W.ca k=zero))
section
variable {P:Program} {w:World} {K:PySem.W.Frag} {H H':Hp} {F D C r:Addr} {n:Nat} {v:V} {W:Wld}
theorem WS.at_ (h:WS P w K H F D C n) (e:H r=some (.tup [.ref F, .ref D, .ref C])):∃W:Wld,W.Ok∧WAt P w K H (.ref r) W:=by
 obtain ⟨kF,f1,f2,f3⟩:=h.fl
 obtain ⟨kV,v1,v2,v3⟩:=h.va
 obtain ⟨kC,c1,c2,c3⟩:=h.ca
 have hF:∀x:Str,∃b,(valV kF (.inr x)).getD (.bl false)= .bl b:=fun x=>by
  cases q:valV kF (.inr x) with
  |none=>exact ⟨false,rfl⟩
  |some v=>
   obtain ⟨b,rfl⟩:=f2 x v q
   exact ⟨b,rfl⟩
 have hV:∀x:Str,∃p,Gv p∧((∃u,valV kV (.inr x)=some u∧TrAt H u (frT p))∨(valV kV (.inr x)=none∧p=zero)):=fun x=>by
  cases q:valV kV (.inr x) with
  |none=>exact ⟨zero,j1, .inr ⟨rfl,rfl⟩⟩
  |some v=>
   obtain ⟨p,h1,h2⟩:=v2 x v q
   exact ⟨p,h2, .inl ⟨v,rfl,h1⟩⟩
 have hC:∀k:List Tk.KT,∃p,Gv p∧((∃u,valJ kC k=some u∧TrAt H u (frT p))∨(valJ kC k=none∧p=zero)):=fun k=>by
  cases q:valJ kC k with
  |none=>exact ⟨zero,j1, .inr ⟨rfl,rfl⟩⟩
  |some v=>
   obtain ⟨p,h1,h2⟩:=c2 k v q
   exact ⟨p,h2, .inl ⟨v,rfl,h1⟩⟩
 exact ⟨⟨fun x=>Classical.choose (hF x),fun x=>Classical.choose (hV x),fun k=>Classical.choose (hC k)⟩,⟨fun x=>(Classical.choose_spec (hV x)).1,fun k=>(Classical.choose_spec (hC k)).1⟩,
  r,F,D,C,kF,kV,kC,rfl,e,⟨f1,fun x=>Classical.choose_spec (hF x)⟩,⟨v1,fun x=>(Classical.choose_spec (hV x)).2⟩,⟨c1,fun k=>(Classical.choose_spec (hC k)).2⟩⟩
theorem WAt.kd (h:WAt P w K H v W) (k:Kd H H') (hs:∀a o,(∀xs,o≠ .lst xs)→H a=some o→H' a=some o):WAt P w K H' v W:=by
 obtain ⟨r,F,D,C,kF,kV,kC,e,h1,⟨h2,h3⟩,⟨h4,h5⟩,h6,h7⟩:=h
 refine ⟨r,F,D,C,kF,kV,kC,e,k.tup _ _ h1,⟨hs _ _ (fun _ z=>by cases z) h2,h3⟩,⟨hs _ _ (fun _ z=>by cases z) h4,fun x=> ?_⟩,h6.kd k (hs _ _ (fun _ z=>by cases z) h6.at_),fun j=> ?_⟩
 · rcases h5 x with ⟨u,e1,e2⟩|q
   · exact .inl ⟨u,e1,e2.mono k⟩
   · exact .inr q
 · rcases h7 j with ⟨u,e1,e2⟩|q
   · exact .inl ⟨u,e1,e2.mono k⟩
   · exact .inr q
theorem WAt.same (h:WAt P w K H v W) (s:Same H H'):WAt P w K H' v W:=h.kd (Kd.of_same s) fun a o _ e=>s a o e
end
theorem sP:∀ps:List Fr,Tk.KTs.depth (ps.map frK)≤1
 | []=>by simp [Tk.KTs.depth]
 |p::ps=>by
  have:=sP ps
  simp only [List.map_cons,Tk.KTs.depth,frK,Tk.KT.depth]
  omega
def FrAt (K:PySem.W.Frag) (H:Hp) (v:V) (p:Fr):Prop:=∃r,v= .ref r∧SqX K H r [.int p.1, .int p.2]
def FrsAt (K:PySem.W.Frag) (H:Hp):List V→List Fr→Prop
 |vs,[]=>vs= []
 |vs,p::ps=>∃v r,vs=v::r∧FrAt K H v p∧FrsAt K H r ps
theorem FrAt.mono {K:PySem.W.Frag} {H H':Hp} {v:V} {p:Fr} (d:Kd H H') (h:FrAt K H v p):FrAt K H' v p:=by
 obtain ⟨r,e,s⟩:=h
 exact ⟨r,e,s.mono d⟩
theorem FrsAt.mono {K:PySem.W.Frag} {H H':Hp} (d:Kd H H'):∀ {vs:List V} {ps:List Fr},FrsAt K H vs ps→FrsAt K H' vs ps
 |vs,[],h=>h
 |vs,p::ps,h=>by
  obtain ⟨v,r,e,h1,h2⟩:=h
  exact ⟨v,r,e,h1.mono d,FrsAt.mono d h2⟩
theorem FrsAt.snoc {K:PySem.W.Frag} {H:Hp} {u:V} {q:Fr} (hu:FrAt K H u q):∀ {vs:List V} {ps:List Fr},FrsAt K H vs ps→FrsAt K H (vs++ [u]) (ps++ [q])
 |vs,[],h=>by
  cases (show vs= [] from h)
  exact ⟨u,[],rfl,hu,rfl⟩
 |vs,p::ps,h=>by
  obtain ⟨v,r,rfl,h1,h2⟩:=h
  exact ⟨v,r++ [u],rfl,h1,FrsAt.snoc hu h2⟩
theorem rH {K:PySem.W.Frag} {H:Hp} {v:V} {p:Fr} (h:TrAt H v (frT p)):FrAt K H v p:=by
 unfold frT TrAt at h
 obtain ⟨r,vs,e,h1,h2⟩:=h
 obtain ⟨x,r1,rfl,h3,h4⟩:=h2.inv
 obtain ⟨y,r2,rfl,h5,h6⟩:=h4.inv
 unfold TrAt at h3 h5
 unfold TrsAt at h6
 subst h3 h5 h6
 exact ⟨r,e, .inl h1⟩
theorem jK {K:PySem.W.Frag} {H:Hp}:∀ {vs:List V} {ps:List Fr},TrsAt H vs (ps.map frT)→FrsAt K H vs ps
 |vs,[],h=>by
  unfold List.map TrsAt at h
  exact h
 |vs,p::ps,h=>by
  rw [List.map_cons] at h
  obtain ⟨v,r,e,h1,h2⟩:=h.inv
  exact ⟨v,r,e,rH h1,jK h2⟩
theorem lO {K:PySem.W.Frag} {H:Hp}:∀ {vs:List V} {ps:List Fr},FrsAt K H vs ps→KVts K H vs (ps.map frK)
 |vs,[],h=>by
  rw [List.map_nil,KVts]
  exact h
 |vs,p::ps,h=>by
  obtain ⟨v,r,e,⟨q,e1,s⟩,h2⟩:=h
  rw [List.map_cons,KVts]
  refine ⟨v,r,e,?_,lO h2⟩
  rw [frK,KVt]
  refine ⟨q,_,e1,s,?_⟩
  rw [KVts]
  refine ⟨_,_,rfl,by rw [KVt],?_⟩
  rw [KVts]
  refine ⟨_,_,rfl,by rw [KVt],?_⟩
  rw [KVts]
theorem g9 {K:PySem.W.Frag} {H:Hp} {q r:Addr} {x:Str} {vs:List V} {ps:List Fr} (h:H q=some (.tup [.str x, .ref r])) (h2:H r=some (.tup vs)) (h3:FrsAt K H vs ps):KeyAt K H [.lf (.inr x), .tp (ps.map frK)] q:=by
 refine ⟨_, .inl h,?_,?_⟩
 · rw [KVts]
   refine ⟨_,_,rfl,by rw [KVt],?_⟩
   rw [KVts]
   refine ⟨_,_,rfl,?_,by rw [KVts]⟩
   rw [KVt]
   exact ⟨r,vs,rfl, .inl h2,lO h3⟩
 · have:=sP ps
   simp only [Tk.KT.depth,Tk.KTs.depth]
   omega
theorem ky {K:PySem.W.Frag} {H:Hp} {q:Addr} {x:Str} {ps:List Fr} (h:TrAt H (.ref q) (.tup [.str x, .tup (ps.map frT)])):KeyAt K H [.lf (.inr x), .tp (ps.map frK)] q:=by
 unfold TrAt at h
 obtain ⟨r,vs,e,h1,h2⟩:=h
 cases e
 obtain ⟨y,r1,rfl,h3,h4⟩:=h2.inv
 obtain ⟨z,r2,rfl,h5,h6⟩:=h4.inv
 unfold TrAt at h3 h5
 unfold TrsAt at h6
 subst h3 h6
 obtain ⟨b,zs,rfl,g1,g2⟩:=h5
 exact g9 h1 g1 (jK g2)
end Wd
namespace L2
open PySem Tre Wd
theorem dX {t rest:TS} {Z:Ends} {σ:L2.St} {H:Hp} (R:L2.St→Hp→Prop) (hR:∀σ' H',R σ' H'→rest Z σ' H') (h:∀nx:L2.St→Hp→Prop,(∀σ' H',R σ' H'→nx σ' H')→t {Z with nx:=nx} σ H):tSeq t rest Z σ H:=h _ hR
theorem bz {i:Nat} {v:V} {σ:L2.St} {H:Hp} {k:L2.St→Hp→Prop} (h:k (σ.set i (some v)) H):aV i v σ H k:=h
theorem dy {Z:Ends} {σ:L2.St} {H:Hp} (h:Z.nx σ H):lb Z σ H:=h
theorem l6 {r:List V→Hp→VK→Prop} {te:TE} {i:Nat} {u:TS} {Z:Ends} {σ:L2.St} {H:Hp} (h:te σ H fun v H1=>r [v] H1 fun x H2=>aV i x σ H2 (u Z)):tSeq (tAsg (tCB r (bA te tNil)) (aV i)) u Z σ H:=h
theorem l8 {r:List V→Hp→VK→Prop} {te:TE} {Z:Ends} {σ:L2.St} {H:Hp} (h:te σ H fun v H1=>r [v] H1 Z.rt):tRet (tCB r (bA te tNil)) Z σ H:=h
theorem fw {r:List V→Hp→VK→Prop} {te:TE} {σ:L2.St} {H:Hp} {Q:List V→Hp→Prop} (h:te σ H fun v H1=>r [v] H1 fun u H2=>Q [u] H2):bA (tCB r (bA te tNil)) tNil σ H Q:=h
theorem l7 {r:R2} {v:V} {tb:TE} {Z:Ends} {σ:L2.St} {H:Hp} (h:tb σ H fun y H2=>r v y H2 Z.rt):tRet (tOp r (tC v) tb) Z σ H:=h
theorem nR {te:TE} {σ:L2.St} {H:Hp} {Q:List V→Hp→Prop} (h:te σ H fun v H1=>Q [v] H1):bA te tNil σ H Q:=h
theorem eh {H:Hp} {v:V} {x:Str} {r:List Tr} (h:TrAt H v (.tup (.str x::r))):∃a vs,v= .ref a∧H a=some (.tup (.str x::vs))∧TrsAt H vs r:=by
 unfold TrAt at h
 obtain ⟨a,vs,e,h1,h2⟩:=h
 obtain ⟨y,r1,rfl,h3,h4⟩:=h2.inv
 unfold TrAt at h3
 subst h3
 exact ⟨a,r1,e,h1,h4⟩
theorem at2 {H:Hp} {v:V} {k:Str} {t:Tr} (h:TrAt H v (.tup [.str k,t])):∃a y,v= .ref a∧H a=some (.tup [.str k,y])∧TrAt H y t:=by
 obtain ⟨a,vs,e,h1,h2⟩:=eh h
 obtain ⟨y,r,rfl,h3,h4⟩:=h2.inv
 unfold TrsAt at h4
 subst h4
 exact ⟨a,y,e,h1,h3⟩
theorem at3 {H:Hp} {v:V} {k:Str} {t u:Tr} (h:TrAt H v (.tup [.str k,t,u])):∃a y z,v= .ref a∧H a=some (.tup [.str k,y,z])∧TrAt H y t∧TrAt H z u:=by
 obtain ⟨a,vs,e,h1,h2⟩:=eh h
 obtain ⟨y,r,rfl,h3,h4⟩:=h2.inv
 obtain ⟨z,r2,rfl,h5,h6⟩:=h4.inv
 unfold TrsAt at h6
 subst h6
 exact ⟨a,y,z,e,h1,h3,h5⟩
theorem at_s {H:Hp} {v:V} {x:Str} (h:TrAt H v (.str x)):v= .str x:=by
 unfold TrAt at h
 exact h
theorem at_t {H:Hp} {v:V} {ts:List Tr} (h:TrAt H v (.tup ts)):∃a vs,v= .ref a∧H a=some (.tup vs)∧TrsAt H vs ts:=by
 unfold TrAt at h
 exact h
theorem dF {H:Hp} {x:Str}:TrAt H (.str x) (.str x):=by unfold TrAt;rfl
theorem aO {H:Hp} {r:Addr} {vs:List V} {ts:List Tr} (h:H r=some (.tup vs)) (h1:TrsAt H vs ts):TrAt H (.ref r) (.tup ts):=by
 unfold TrAt
 exact ⟨r,vs,rfl,h,h1⟩
theorem dg {H:Hp} {v:V} {a b:Tr} (h:TrAt H v (.tup [a,b])):∃r x y,v= .ref r∧H r=some (.tup [x,y])∧TrAt H x a∧TrAt H y b:=by
 unfold TrAt at h
 obtain ⟨r,vs,e,h1,h2⟩:=h
 obtain ⟨x,r1,rfl,h3,h4⟩:=h2.inv
 obtain ⟨y,r2,rfl,h5,h6⟩:=h4.inv
 unfold TrsAt at h6
 subst h6
 exact ⟨r,x,y,e,h1,h3,h5⟩
theorem lR {H:Hp} {v:V} {a b:Int} (h:TrAt H v (.tup [.int a, .int b])):∃r,v= .ref r∧H r=some (.tup [.int a, .int b]):=by
 obtain ⟨r,x,y,e,h1,h2,h3⟩:=dg h
 unfold TrAt at h2 h3
 subst h2 h3
 exact ⟨r,e,h1⟩
theorem cN {H:Hp} {r:Addr} {x y:V} {a b:Tr} (h:H r=some (.tup [x,y])) (h1:TrAt H x a) (h2:TrAt H y b):TrAt H (.ref r) (.tup [a,b]):=by
 unfold TrAt
 exact ⟨r,_,rfl,h, .cons h1 (.cons h2 .nil)⟩
theorem bp {H:Hp} {r:Addr} {a b:Int} (h:H r=some (.tup [.int a, .int b])):TrAt H (.ref r) (.tup [.int a, .int b]):=cN h (by unfold TrAt;rfl) (by unfold TrAt;rfl)
theorem eI {H:Hp} {v:V} {p:Fr} (h:TrAt H v (frT p)):∃r,v= .ref r∧H r=some (.tup [.int p.1, .int p.2]):=lR h
theorem cf {n:Nat}:∀ {ts:List Tr},(∀t∈ts,t.depth≤n)→Trs.depth ts≤n
 | [],_=>by unfold Trs.depth;omega
 |t::ts,h=>by
  unfold Trs.depth
  have h1:=h t List.mem_cons_self
  have h2:=cf fun u m=>h u (List.mem_cons_of_mem t m)
  omega
theorem qm (bs:List Bool):((bs.any (· ==false))==false)=bs.all id:=by
 induction bs with
 |nil=>rfl
 |cons b bs ih=>
  rw [List.any_cons,List.all_cons,←ih]
  cases b<;>simp
theorem kM (bs:List Bool):((bs.any (· ==true))==true)=bs.any id:=by
 induction bs with
 |nil=>rfl
 |cons b bs ih=>
  rw [List.any_cons,List.any_cons,←ih]
  cases b<;>simp
theorem lM {α:Type} (f:α→Bool) (l:List α):(l.map f).all id=l.all f:=by
 rw [List.all_map]
 rfl
theorem iS {α:Type} (f:α→Bool) (l:List α):(l.map f).any id=l.any f:=by
 rw [List.any_map]
 rfl
theorem lS {t:Tr} (h:Gw t):(∃x,t= .tup [s_ "flag", .str x])∨(∃a b,t= .tup [s_ "like",a,b]∧Ty .tm a∧Ty .tm b∧a.depth≤7∧b.depth≤7)∨(∃ps f,t= .tup [s_ "most", .tup ps,frT f]∧ps.length≤3∧(∀p∈ps,Gp p)∧Gf 900 f)∨
 (∃u,t= .tup [s_ "not",u]∧Gw u)∨(∃l,t= .tup [s_ "both", .tup l]∧l.length≤3∧∀u∈l,Gw u)∨∃l,t= .tup [s_ "either", .tup l]∧l.length≤3∧∀u∈l,Gw u:=by
 cases h with
 |fl x=>exact .inl ⟨x,rfl⟩
 |li a b h1 h2 h3 h4=>exact .inr (.inl ⟨a,b,rfl,h1,h2,h3,h4⟩)
 |mo ps f h1 h2 h3=>exact .inr (.inr (.inl ⟨ps,f,rfl,h1,h2,h3⟩))
 |no u h=>exact .inr (.inr (.inr (.inl ⟨u,rfl,h⟩)))
 |bo l h1 h2=>exact .inr (.inr (.inr (.inr (.inl ⟨l,rfl,h1,h2⟩))))
 |ei l h1 h2=>exact .inr (.inr (.inr (.inr (.inr ⟨l,rfl,h1,h2⟩))))
theorem ge {t:Tr} (h:Gw t):0 < t.depth:=by
 cases h<;>simp [Tr.depth]
theorem bJ (W:Wld) (t:Tr) (b:Bool):lith W (.tup [t, .bl b])=(hold W t==b):=rfl
open PySem PySem.Spec PyProof.Rows
section
variable {X:Cx}
def rNeP (K:PySem.W.Frag):R2:=fun x y H Q=>∃(p q:Addr) (a b c d:Int),x= .ref p∧y= .ref q∧SqT K H p [.int a, .int b]∧SqT K H q [.int c, .int d]∧Q (.bl (!decide (a=c∧b=d))) H
theorem tP (hu:X.A.units+1 < cLine):OpR X (compareOp .NotEq) (rNeP X.K):=by
 intro pins s σ H x y v u Q I rx ry h
 obtain ⟨p,q,a,b,c,d,e1,e2,hp,hq,k⟩:=h
 subst e1 e2
 cases (show v=Value.ref p from rx)
 cases (show u=Value.ref q from ry)
 obtain ⟨its,r1,t1,_⟩:=I.tuple hp
 obtain ⟨its2,r2,t2,_⟩:=I.tuple hq
 obtain ⟨u1,u2,rfl,⟨w1,rfl⟩,⟨w2,rfl⟩⟩:=Vals.two r1
 obtain ⟨u3,u4,rfl,⟨w3,rfl⟩,⟨w4,rfl⟩⟩:=Vals.two r2
 refine SeqAt.RcNeAt.tuples (A:=X.A) (e:=fun j=>if j=0 then a==c else b==d) (show s.heap.IsTuple p _ from t1) (show s.heap.IsTuple q _ from t2) (by omega) (fun j h1 h2=> ?_) X.prog X.w X.xe _ ?_
 · match j,h1,h2 with
   |0,_,_=>exact PySem.SeqAt.EqAt.int_int a w1 c w3
   |1,_,_=>exact PySem.SeqAt.EqAt.int_int b w2 d w4
   |j+2,h1,_=>
    have:j+2 < 2:=h1
    omega
 · refine ⟨.bl (!decide (a=c∧b=d)),H,I,?_,k⟩
   show Value.bool (!(((a==c)&& ((b==d)&&true))&&true))=Value.bool (!decide (a=c∧b=d))
   congr 2
   rw [Bool.and_true,Bool.and_true,Bool.eq_iff_iff]
   simp
end
end L2
namespace Tre
open PySem L2
theorem TrsAt.set {H:Hp} {v:V} {t:Tr} (hv:TrAt H v t):∀ {vs:List V} {ts:List Tr} {i:Nat},TrsAt H vs ts→TrsAt H (vs.set i v) (ts.set i t)
 |vs,[],i,h=>by
  unfold TrsAt at h
  subst h
  simp
  exact .nil
 |vs,u::ts,0,h=>by
  obtain ⟨w,r,rfl,h1,h2⟩:=h.inv
  exact .cons hv h2
 |vs,u::ts,i+1,h=>by
  obtain ⟨w,r,rfl,h1,h2⟩:=h.inv
  exact .cons h1 (TrsAt.set hv h2)
theorem nQ {t:Tr} (h:Ty .tm t):∃ts,t= .tup ts:=by
 cases h<;>exact ⟨_,rfl⟩
end Tre
namespace Su
open PySem L2 Tre Mth Wd
theorem last_at {α:Type} {rs:List α} {y:α} (pos:0 < rs.length) (ey:rs[rs.length - 1]?=some y):atI rs (-1)=some y:=by
 unfold atI ixN
 rw [if_neg (by decide),if_pos (by omega),show (-1+(rs.length:Int)).toNat=rs.length - 1 by omega]
 exact ey
theorem rB {n:Nat} (pos:0 < n):ixN n (-1)=some (n - 1):=by
 unfold ixN
 rw [if_neg (by decide),if_pos (by omega),show (-1+(n:Int)).toNat=n - 1 by omega]
theorem jr {α β:Type} {f:α→β} {us vs:List β} (h:us.Perm vs):∀ {ps:List α},vs=ps.map f→∃qs:List α,us=qs.map f∧qs.Perm ps:=by
 induction h with
 |nil=>intro ps e;exact ⟨[],rfl,by cases ps with|nil=>exact .nil|cons p ps=>simp at e⟩
 |cons x _ ih=>
  intro ps e
  cases ps with
  |nil=>simp at e
  |cons p ps=>
   rw [List.map_cons,List.cons.injEq] at e
   obtain ⟨qs,e1,e2⟩:=ih e.2
   exact ⟨p::qs,by rw [List.map_cons,e1,e.1],e2.cons p⟩
 |swap x y l=>
  intro ps e
  cases ps with
  |nil=>simp at e
  |cons p ps=>
   cases ps with
   |nil=>simp at e
   |cons q ps=>
    simp only [List.map_cons,List.cons.injEq] at e
    obtain ⟨e1,e2,e3⟩:=e
    exact ⟨q::p::ps,by simp only [List.map_cons,e1,e2,e3], .swap p q ps⟩
 |trans _ _ h1 h2=>
  intro ps e
  obtain ⟨ms,e1,p1⟩:=h2 e
  obtain ⟨qs,e2,p2⟩:=h1 e1
  exact ⟨qs,e2,p2.trans p1⟩
structure Gq (e:Nat) (p:Pq):Prop where
 ty:Ty .tm p.1
 dep:p.1.depth≤7
 gf:Gf e p.2
 sh:Sh p.2
theorem Gq.mono {m n:Nat} {p:Pq} (h:Gq m p) (hn:m≤n):Gq n p:=⟨h.ty,h.dep,h.gf.mono hn,h.sh⟩
theorem Gq.pr {e:Nat} {p:Pq} (h:Gq e p):Ty .pr (prT p)∧(prT p).depth≤8:=by
 refine ⟨.pr _ _ h.ty (.fr _ _),?_⟩
 have:=h.dep
 unfold prT frT
 simp only [Tr.depth,Trs.depth]
 omega
theorem jm {α:Type} {us:List α} {i:Nat} {u:α} (e:us[i]?=some u):us.take (i+1)=us.take i++ [u]:=by
 rw [List.take_add_one,e]
 rfl
theorem rG {p:Fr}:(!decide (p.1=0∧p.2=1))=decide (p≠zero):=by
 by_cases h:p=zero
 · subst h
   decide
 · have:¬(p.1=0∧p.2=1):=fun q=>h (Prod.ext q.1 q.2)
   simp [this,h]
open PySem L2 Tre Mth Wd
def negF (f:Fr):Fr:=(-f.1,f.2)
def neg (p:Pq):Pq:=(p.1,negF p.2)
theorem om (f:Fr):rv (negF f)= -rv f:=by
 unfold rv negF
 simp only [Rat.intCast_neg]
 grind
open Classical in
theorem qA (t:Tr) (ps:List Pq):tot t (ps.map neg)= -tot t ps:=by
 induction ps with
 |nil=>simp only [List.map_nil,tot];grind
 |cons p r ih=>
  simp only [List.map_cons,tot,ih]
  show (if p.1=t then rv (negF p.2) else 0)+_=_
  rw [om]
  by_cases z:p.1=t
  · simp only [if_pos z];grind
  · simp only [if_neg z];grind
def m1:Fr:=(-1,1)
def p1:Fr:=(1,1)
theorem lr:Sh m1:=⟨by decide,by decide⟩
theorem lq:Sh p1:=⟨by decide,by decide⟩
theorem ss:rv m1= -1:=by
 show ((-1:Int):Rat) / ((1:Int):Rat)= -1
 simp only [Rat.intCast_neg]
 have:((1:Int):Rat)=1:=by simp
 rw [this]
 grind
theorem si:rv p1=1:=by
 show ((1:Int):Rat) / ((1:Int):Rat)=1
 have:((1:Int):Rat)=1:=by simp
 rw [this]
 grind
theorem gf_1 {p:Fr} (h:p=m1∨p=p1):Gf 1 p:=by
 rcases h with rfl|rfl
 · exact ⟨by decide,by show (1:Nat) < 2^1;decide,by show (1:Nat) < 2^1;decide⟩
 · exact ⟨by decide,by show (1:Nat) < 2^1;decide,by show (1:Nat) < 2^1;decide⟩
end Su
namespace L2
theorem if_f {c:Bool} {p q:Prop} (h:c=false) (hq:q):if c=true then p else q:=by
 rw [h,if_neg (by decide)]
 exact hq
theorem ne_int {a b:Int} (h:a=b):(!decide (V.int a=V.int b))=false:=by
 rw [h,decide_eq_true rfl]
 rfl
theorem if_t {c:Bool} {p q:Prop} (h:c=true) (hp:p):if c=true then p else q:=by
 rw [h,if_pos rfl]
 exact hp
end L2
namespace Tre
open PySem L2
end Tre
namespace K27
open PySem L2 Mth Tre Su
def Pi (t:Tr):Prop:=∃(tm:Tr) (a b:Int),t= .tup [tm, .tup [.int a, .int b]]∧Ty .tm tm∧tm.depth≤5∧0 < b∧a.natAbs < 2^200∧b.natAbs < 2^200
theorem p200 {x:Int} (h:x.natAbs < 2^200):Bd 1 x:=Nat.lt_of_lt_of_le h (Nat.pow_le_pow_right (by decide) (by decide))
theorem Pi.pr {t:Tr} (h:Pi t):Pr 1 t:=by
 obtain ⟨tm,a,b,e,h1,h2,h3,h4,h5⟩:=h
 exact ⟨tm,a,b,e,h1,h2,h3,p200 h4,p200 h5⟩
section
variable {P:Program} {w:World} {K:PySem.W.Frag} {mg:Str→Option Value} {base:Heap}
end
end K27
namespace Tre
open PySem L2
noncomputable def uA:Tr→Option Tr
 | .tup [.str x,w]=>if x=Str.ofString "not" then some w else none
 |_=>none
noncomputable def sX:Nat→Tr→Bool→Tr×Bool
 |0,t,b=>(t,b)
 |n+1,t,b=>match uA t with
  |some w=>sX n w (!b)
  |none=>(t,b)
noncomputable def bare (t:Tr) (b:Bool):Tr×Bool:=sX t.depth t b
end Tre
namespace K27
open PySem L2 Mth Tre
section
variable {P:Program} {w:World} {K:PySem.W.Frag} {mg:Str→Option Value} {base:Heap}
end
open PySem L2 Mth Tre
def TapeAt (H:Hp) (tp c:Addr) (n:Nat):Prop:=
 (c=tp∧∃a z:Int,H tp=some (.lst [.int 1, .int a, .int z]))∨(tp≠c∧∃(cells:List Int) (k:Nat),H tp=some (.lst [.int 0, .ref c, .int (k:Int)])∧H c=some (.lst (cells.map V.int))∧k≤n)
def Keep (tp:Addr) (H H':Hp):Prop:=∀x,x≠tp→H' x=H x
theorem Keep.refl {tp:Addr} {H:Hp}:Keep tp H H:=fun _ _=>rfl
theorem Keep.trans {tp:Addr} {H H1 H2:Hp} (a:Keep tp H H1) (b:Keep tp H1 H2):Keep tp H H2:=fun x h=>(b x h).trans (a x h)
def But (tp:Addr) (H H':Hp):Prop:=∀x o,x≠tp→H x=some o→H' x=some o
theorem But.of_keep {tp:Addr} {H H':Hp} (k:Keep tp H H'):But tp H H':=fun x o h e=>(k x h).trans e
theorem But.of_same {tp:Addr} {H H':Hp} (k:Same H H'):But tp H H':=fun x o _ e=>k x o e
theorem But.trans {tp:Addr} {H H1 H2:Hp} (a:But tp H H1) (b:But tp H1 H2):But tp H H2:=fun x o h e=>b x o h (a x o h e)
theorem TapeAt.lst {H:Hp} {tp c:Addr} {n:Nat} (h:TapeAt H tp c n):∃xs,H tp=some (.lst xs):=by
 rcases h with ⟨_,a,z,h⟩|⟨_,cells,k,h,_⟩
 · exact ⟨_,h⟩
 · exact ⟨_,h⟩
theorem TapeAt.mono {H:Hp} {tp c:Addr} {m n:Nat} (h:TapeAt H tp c m) (hn:m≤n):TapeAt H tp c n:=by
 rcases h with h|⟨h4,cells,k,h1,h2,h3⟩
 · exact .inl h
 · exact .inr ⟨h4,cells,k,h1,h2,by omega⟩
theorem TapeAt.same {H H':Hp} {tp c:Addr} {n:Nat} (h:TapeAt H tp c n) (s:Same H H'):TapeAt H' tp c n:=by
 rcases h with ⟨e,a,z,h⟩|⟨h4,cells,k,h1,h2,h3⟩
 · exact .inl ⟨e,a,z,s _ _ h⟩
 · exact .inr ⟨h4,cells,k,s _ _ h1,s _ _ h2,h3⟩
theorem TapeAt.ne {H:Hp} {tp c r:Addr} {n:Nat} (h:TapeAt H tp c n) (hr:H r=none):r≠tp∧r≠c:=by
 rcases h with ⟨e,a,z,h⟩|⟨h4,cells,k,h1,h2,h3⟩
 · subst e
   exact ⟨(aD h hr).symm,(aD h hr).symm⟩
 · exact ⟨(aD h1 hr).symm,(aD h2 hr).symm⟩
theorem TapeAt.wr {H:Hp} {tp c D:Addr} {n:Nat} {o:HO} (h:TapeAt H tp c n) (hD:D≠tp∧D≠c):TapeAt (upd H D o) tp c n:=by
 rcases h with ⟨e,a,z,h⟩|⟨h4,cells,k,h1,h2,h3⟩
 · exact .inl ⟨e,a,z,(ai hD.1.symm).trans h⟩
 · exact .inr ⟨h4,cells,k,(ai hD.1.symm).trans h1,(ai hD.2.symm).trans h2,h3⟩
theorem But.free {tp c D:Addr} {H H':Hp} {n:Nat} (b:But tp H H') (x:TapeAt H' tp c n) (h:H' D=none):H D=none:=by
 have n1:=(x.ne h).1
 cases e:H D with
 |none=>rfl
 |some o=>
  rw [b D o n1 e] at h
  cases h
theorem But.wr {tp D:Addr} {H H':Hp} {o:HO} (b:But tp H H') (h:H D=none):But tp H (upd H' D o):=fun x u n1 e=>by
 rw [ai (aD e h)]
 exact b x u n1 e
theorem But.kd {tp c:Addr} {H H':Hp} {n m:Nat} (b:But tp H H') (x:TapeAt H tp c n) (y:TapeAt H' tp c m):Kd H H':=by
 obtain ⟨xs,e⟩:=x.lst
 obtain ⟨ys,e'⟩:=y.lst
 refine ⟨fun a zs h=>b a _ (fun z=> ?_) h,fun a zs h=> ?_⟩
 · rw [z,e] at h
   cases h
 · by_cases z:a=tp
   · subst z
     exact ⟨ys,e'⟩
   · exact ⟨zs,b a _ z h⟩
theorem cX {m:Int} (h0:0≤m) (h:m≤2^100):Big m:=by
 unfold Big
 have:(2:Nat)^100 < 2^8000:=by decide +kernel
 have e:m.natAbs≤2^100:=by omega
 exact Nat.lt_of_le_of_lt e this
section
variable {P:Program} {w:World} {K:PySem.W.Frag} {mg:Str→Option Value} {base:Heap}
def o8 (K:PySem.W.Frag):Sp:=fun vs H Q _=>∃(a:Addr) (ns:List Int),vs= [.ref a]∧SqL K H a (ns.map V.int)∧ns.length≤63∧∀(r c:Addr) (H':Hp),H r=none→Same H H'→TapeAt H' r c 0→Q (.ref r) H'
theorem scTp:az ["_law_script"] ["_law_script"] (af i4):=⟨rfl,rfl,rfl,by decide +kernel,rfl,by decide +kernel,by decide +kernel⟩
theorem pO (ns:List Int) (lo hi:Option Int):∃ms:List Int,cutV (ns.map V.int) lo hi=ms.map V.int∧ms.length≤ns.length:=by
 refine ⟨(ns.drop (HT.sIx (ns.map V.int).length 0 lo)).take (HT.sIx (ns.map V.int).length (ns.map V.int).length hi - HT.sIx (ns.map V.int).length 0 lo),?_,?_⟩
 · unfold cutV
   rw [List.map_take,List.map_drop]
 · rw [List.length_take,List.length_drop]
   omega
theorem qT {f:Addr} {fd:FuncData} (F:Fun K "_law_tape" "_law_tape" i4 f fd) (B:Blt mg):FnOk P w K mg base CX0 1 f fd ["_law_script"] (o8 K):=by
 refine F.ok scTp (fun vs H Q E h=> ?_) (fun cdv A outer s H vs Q E hr h=> ?_)
 · obtain ⟨a,ns,rfl,_⟩:=h
   rfl
 obtain ⟨a,ns,rfl,hS,hl,k⟩:=h
 refine ⟨_,ae (aI (PW.pt (ot (ar i8 (aB aX rfl B.le PySem.boot_len (a8 (pv 0) aa)) ac (au _)) (lB (ar aP (aE cK (ao aU (pv 0) ac fun _ _=>rfl) ac) ac (au _)))))
  (ag (am (bq (a8 ac (a8 (aE bh (ao aU (pv 0) ac fun _ _=>rfl) ac) (a8 ac aa)))))) ak)
  (ag (am (bq (a8 ac (a8 (js qH (pv 0) lF (lE ac)) (a8 ac aa)))))),?_⟩
 have last:(tRet (tLst (bA (tC (.int 0)) (bA (tSl (rSlL K) (tVar 0) la (se (tC (.int 63)))) (bA (tC (.int 0)) tNil))))) {nx:=fun _ H'=>Q .non H',rt:=Q} [some (V.ref a)] H:=by
  refine ⟨_,rfl,63,rfl,a,_,rfl,hS,fun c nc=> ?_⟩
  obtain ⟨ms,em,lm⟩:=pO ns none (some 63)
  rw [em]
  refine ⟨by show 3≤sizeLine;decide,fun p np=> ?_⟩
  have s1:Same H (upd H c (.lst (ms.map V.int))):=ad nc
  have s2:Same (upd H c (.lst (ms.map V.int))) (upd (upd H c (.lst (ms.map V.int))) p (.lst [.int 0, .ref c, .int 0])):=ad np
  refine k p c _ (s1.free np) (s1.trans s2) (.inr ⟨fun z=> ?_,ms,0,a9,s2 _ _ a9,Nat.le_refl _⟩)
  rw [z,a9] at np
  cases np
 refine ⟨_,rfl,a,_,rfl, .inl hS,_,_,rfl,rfl,_,rfl,?_⟩
 rw [List.length_map]
 by_cases z:(0:Int) < (ns.length:Int)
 · rw [decide_eq_true z]
   refine iteT ?_
   have at0:atI (ns.map V.int) 0=some (.int (ns[0]'(by omega))):=eJ (j:=0) (by rw [List.getElem?_map,List.getElem?_eq_getElem (by omega)];rfl)
   refine ⟨_,rfl,a,_,0,_,rfl,rfl,hS,at0,_,_,rfl,rfl,by show (0:Int) < 2;decide,rfl,_,rfl,?_⟩
   refine ite2 (fun _=> ?_) (fun _=>last)
   refine ⟨_,rfl,a,_,0,_,rfl,rfl,hS,at0,_,_,rfl,rfl,⟨by show (0:Int) < 2;decide,by show (2:Int).natAbs < 2^8000;decide +kernel⟩,by show 3≤sizeLine;decide,fun p np=> ?_⟩
   exact k p p _ np (ad np) (.inl ⟨rfl,_,_,a9⟩)
 · rw [decide_eq_false z]
   refine iteF ?_
   refine iteF ?_
   exact last
end
open PySem L2 Mth Tre
theorem uy {ns:List Int} {i:Int} (h0:0≤i) (h1:i < ns.length):∃z:Int,atI (ns.map V.int) i=some (.int z):=by
 obtain ⟨j,rfl⟩:∃j:Nat,i=(j:Int):=⟨i.toNat,by omega⟩
 have hj:j < ns.length:=by omega
 exact ⟨ns[j],eJ (by rw [List.getElem?_map,List.getElem?_eq_getElem hj];rfl)⟩
section
variable {P:Program} {w:World} {K:PySem.W.Frag} {mg:Str→Option Value} {base:Heap}
def cQ:Sp:=fun vs H Q _=>∃(tp c:Addr) (m:Int) (n:Nat),vs= [.ref tp, .int m]∧TapeAt H tp c n∧n≤1000000∧0 < m∧Big m∧∀(r:Int) (H':Hp),0≤r→r < m→TapeAt H' tp c (n+1)→Keep tp H H'→Q (.int r) H'
theorem scDr:az ["_law_tape_here","_law_many","_law_found","_law_k","_law_cell","_law_stirred"] ["_law_tape_here","_law_many"] (af dY):=⟨rfl,rfl,rfl,by decide +kernel,rfl,by decide +kernel,by decide +kernel⟩
theorem fo {f:Addr} {fd:FuncData} (F:Fun K "_law_draw" "_law_draw" dY f fd) (B:Blt mg):FnOk P w K mg base CX0 1 f fd ["_law_tape_here","_law_many"] cQ:=by
 refine F.ok scDr (fun vs H Q E h=> ?_) (fun cdv A outer s H vs Q E hr h=> ?_)
 · obtain ⟨tp,c,m,n,rfl,_⟩:=h
   rfl
 obtain ⟨tp,c,m,n,rfl,hT,hn,m0,mB,k⟩:=h
 refine ⟨_,ae (aI (ar aP (ao aU (pv 0) ac fun _ _=>rfl) ac (au _))
  (ae (aH (i:=2) scDr.nd rfl (Or.inl rfl) (aE cK (ao aU (pv 0) ac fun _ _=>rfl) (pv 1)))
  (ae (k9 (aE bh (ao aU (pv 0) ac fun _ _=>rfl) (pv 1)) (ka (pv 0) ac fG))
  (ag (am (pv 2))))) ak)
  (ae (aH (i:=3) scDr.nd rfl (Or.inl rfl) (ao aU (pv 0) ac fun _ _=>rfl))
  (ae (k9 (aE bZ (pv 3) ac) (ka (pv 0) ac fG))
  (ae (aH (i:=4) scDr.nd rfl (Or.inl rfl) ac)
  (ae (aI (ar i8 (aB aX rfl B.le PySem.boot_len (a8 (ao aU (pv 0) ac fun _ _=>rfl) aa)) ac (au _))
   (ag (aH (i:=4) scDr.nd rfl (Or.inl rfl) (aE cK (ao aU (ao aU (pv 0) ac fun _ _=>rfl) (aE cK (pv 3) (aB aX rfl B.le PySem.boot_len (a8 (ao aU (pv 0) ac fun _ _=>rfl) aa))) fun _ _=>rfl) ac))) ak)
  (ae (aH (i:=5) scDr.nd rfl (Or.inl rfl) (aE cK (aE bn (aE bZ (pv 4) ac) (aE bZ (aE bZ (aE bn (aE bn ac (pv 3)) (pv 3)) (aE bn ac (pv 3))) ac)) ac))
  (ag (am (aE cK (aE cK (aE bn (aE cK (aE bn (aE bZ (pv 5) (pv 3)) ac) ac) ac) ac) (pv 1))))))))),?_⟩
 have bc:∀c:Int,0≤c→c≤2147483647→Big c:=fun c h0 h1=>cX h0 (by omega)
 rcases hT with ⟨ec,a,z,hT⟩|⟨ne,cells,kk,hT,hc,hk⟩
 · refine ⟨_,rfl,tp,_,0, .int 1,rfl,rfl,SqL.of hT,rfl,rfl,_,rfl,?_⟩
   rw [decide_eq_true rfl]
   refine iteT ?_
   refine ⟨_,rfl,tp,_,1, .int a,rfl,rfl,SqL.of hT,rfl,_,rfl,a,m,rfl,rfl,m0,?_⟩
   refine ⟨_,rfl,tp,_,1, .int a,rfl,rfl,SqL.of hT,rfl,_,rfl,a,m,rfl,rfl,⟨m0,mB⟩,_,rfl,tp,_,1,1,rfl,rfl,hT,rfl,?_⟩
   exact ⟨_,rfl,k _ _ (Int.emod_nonneg _ (by omega)) (Int.emod_lt_of_pos _ m0) (.inl ⟨ec,a / m,z,a9⟩) fun x hx=>ai hx⟩
 · refine ⟨_,rfl,tp,_,0, .int 0,rfl,rfl,SqL.of hT,rfl,rfl,_,rfl,?_⟩
   rw [decide_eq_false (show¬V.int 0=V.int 1 by decide)]
   refine iteF ?_
   refine ⟨_,rfl,tp,_,2, .int (kk:Int),rfl,rfl,SqL.of hT,rfl,?_⟩
   refine ⟨_,rfl,_,_,rfl,rfl,_,rfl,tp,_,2,2,rfl,rfl,hT,rfl,?_⟩
   have hT1:(upd H tp (.lst ([V.int 0, .ref c, .int (kk:Int)].set 2 (.int ((kk:Int)+1))))) tp=some (.lst [.int 0, .ref c, .int ((kk+1:Nat):Int)]):=a9
   have hc1:(upd H tp (.lst ([V.int 0, .ref c, .int (kk:Int)].set 2 (.int ((kk:Int)+1))))) c=some (.lst (cells.map V.int)):=by rw [ai (Ne.symm ne)];exact hc
   have k1:Keep tp H (upd H tp (.lst ([V.int 0, .ref c, .int (kk:Int)].set 2 (.int ((kk:Int)+1))))):=fun x h1=>ai h1
   generalize upd H tp (.lst ([V.int 0, .ref c, .int (kk:Int)].set 2 (.int ((kk:Int)+1))))=H1 at hT1 hc1 k1 ⊢
   have tape1:TapeAt H1 tp c (n+1):= .inr ⟨ne,cells,kk+1,hT1,hc1,by omega⟩
   have b1:Big (kk:Int):=cX (by omega) (by omega)
   have sq:(31*(kk:Int)*(kk:Int))≤31*1000000*1000000:=Int.mul_le_mul (by omega) (by omega) (by omega) (by omega)
   have sq0:(0:Int)≤31*(kk:Int)*(kk:Int):=Int.mul_nonneg (by omega) (by omega)
   have last:∀cell:Int,0≤cell→cell≤2147483629→
    (tSeq (tAsg (tOp (rI (fun _ j=>0 < j) fun i j=> .int (i%j)) (tOp (rI (fun i j=>Big i∧Big j) fun i j=> .int (i*j)) (tOp (rI0 fun i j=> .int (i+j)) (tVar 4) (tC (.int 1))) (tOp (rI0 fun i j=> .int (i+j)) (tOp (rI0 fun i j=> .int (i+j)) (tOp (rI (fun i j=>Big i∧Big j) fun i j=> .int (i*j)) (tOp (rI (fun i j=>Big i∧Big j) fun i j=> .int (i*j)) (tC (.int 31)) (tVar 3)) (tVar 3)) (tOp (rI (fun i j=>Big i∧Big j) fun i j=> .int (i*j)) (tC (.int 7919)) (tVar 3))) (tC (.int 1)))) (tC (.int 2147483647))) (aV 5))
     (tRet (tOp (rI (fun _ j=>0 < j) fun i j=> .int (i%j)) (tOp (rI (fun _ j=>0 < j) fun i j=> .int (i%j)) (tOp (rI (fun i j=>Big i∧Big j) fun i j=> .int (i*j)) (tOp (rI (fun _ j=>0 < j) fun i j=> .int (i%j)) (tOp (rI (fun i j=>Big i∧Big j) fun i j=> .int (i*j)) (tOp (rI0 fun i j=> .int (i+j)) (tVar 5) (tVar 3)) (tC (.int 48271))) (tC (.int 2147483629))) (tC (.int 69621))) (tC (.int 2147483587))) (tVar 1))))
     {nx:=fun _ H'=>Q .non H',rt:=Q} [some (.ref tp),some (.int m),none,some (.int (kk:Int)),some (.int cell),none] H1:=by
    intro cell c0 c1
    refine ⟨_,rfl,_,_,rfl,rfl,_,rfl,31,_,rfl,rfl,⟨bc 31 (by decide) (by decide),b1⟩,_,rfl,_,_,rfl,rfl,⟨cX (by omega) (by omega),b1⟩,_,rfl,7919,_,rfl,rfl,⟨bc 7919 (by decide) (by decide),b1⟩,_,_,rfl,rfl,_,_,rfl,rfl,_,_,rfl,rfl,⟨cX (by omega) (by omega),cX (by omega) (by omega)⟩,_,_,rfl,rfl,by show (0:Int) < 2147483647;decide,?_⟩
    have st0:(0:Int)≤(cell+1)*(31*(kk:Int)*(kk:Int)+7919*(kk:Int)+1)%2147483647:=Int.emod_nonneg _ (by decide)
    have st1:(cell+1)*(31*(kk:Int)*(kk:Int)+7919*(kk:Int)+1)%2147483647 < 2147483647:=Int.emod_lt_of_pos _ (by decide)
    have u0:∀st:Int,(0:Int)≤(st+(kk:Int))*48271%2147483629:=fun st=>Int.emod_nonneg _ (by decide)
    have u1:∀st:Int,(st+(kk:Int))*48271%2147483629≤2^100:=fun st=>by
     have:(st+(kk:Int))*48271%2147483629 < 2147483629:=Int.emod_lt_of_pos _ (by decide)
     omega
    refine ⟨_,rfl,_,rfl,_,_,rfl,rfl,_,48271,rfl,rfl,⟨cX (by omega) (by omega),bc 48271 (by decide) (by decide)⟩,_,2147483629,rfl,rfl,by show (0:Int) < 2147483629;decide,_,69621,rfl,rfl,⟨cX (u0 _) (u1 _),bc 69621 (by decide) (by decide)⟩,_,2147483587,rfl,rfl,by show (0:Int) < 2147483587;decide,_,rfl,_,m,rfl,rfl,m0,?_⟩
    exact k _ _ (Int.emod_nonneg _ (by omega)) (Int.emod_lt_of_pos _ m0) tape1 k1
   refine ⟨_,rfl,tp,_,1, .ref c,rfl,rfl,SqL.of hT1,rfl,c,_,rfl, .inl (SqL.of hc1),_,_,rfl,rfl,_,rfl,?_⟩
   rw [List.length_map]
   by_cases z:(0:Int) < (cells.length:Int)
   · rw [decide_eq_true z]
     refine iteT ?_
     have q0:(0:Int)≤(kk:Int)%(cells.length:Int):=Int.emod_nonneg _ (by omega)
     have q1:(kk:Int)%(cells.length:Int) < (cells.length:Int):=Int.emod_lt_of_pos _ (by omega)
     obtain ⟨v,ev⟩:=uy q0 q1
     refine ⟨_,rfl,tp,_,1, .ref c,rfl,rfl,SqL.of hT1,rfl,_,rfl,_,rfl,tp,_,1, .ref c,rfl,rfl,SqL.of hT1,rfl,c,_,rfl, .inl (SqL.of hc1),_,_,rfl,rfl,by rw [List.length_map];omega,c,_,(kk:Int)%(cells.length:Int), .int v,rfl,by rw [List.length_map],SqL.of hc1,ev,_,2147483629,rfl,rfl,by show (0:Int) < 2147483629;decide,?_⟩
     exact last _ (Int.emod_nonneg _ (by decide)) (Int.le_of_lt (Int.emod_lt_of_pos _ (by decide)))
   · rw [decide_eq_false z]
     refine iteF ?_
     exact last 0 (by decide) (by decide)
end
end K27
namespace L2
open PySem PySem.Spec PyProof.Rows
section
variable {X:Cx}
def rS0 (f:Str→V):V→List V→Hp→VK→Prop:=fun x vs H Q=>∃z,x= .str z∧vs= []∧Q (f z) H
def rS1 (C:Str→Str→Prop) (f:Str→Str→V):V→List V→Hp→VK→Prop:=fun x vs H Q=>∃z y,x= .str z∧vs= [.str y]∧C z y∧Q (f z y) H
theorem kg:MtM X "str.isascii" (rS0 fun z=> .bl (Txt.isascii z)):=by
 intro pins s σ H x vs v us Q I rx rv h
 obtain ⟨z,rfl,rfl,q⟩:=h
 obtain ⟨t,rfl⟩:=rx
 cases rv
 exact SC.isascii ⟨.bl _,H,I,rfl,q⟩
end
open PySem PySem.Spec PyProof.Rows
section
variable {X:Cx} {tg:Expr}
end
section
variable {X:Cx} {tg:Expr}
end
open PySem PySem.Spec PyProof.Rows
section
variable {prog:Program} {w:World} {A:Around} {E:Value→Shared→Prop} {s:Shared}
end
section
variable {X:Cx}
end
open PySem PySem.Spec PyProof.Rows
section
variable {X:Cx}
def rSlS:V→Option Int→Option Int→Hp→VK→Prop:=fun x lo hi H Q=>∃(z:Str),x= .str z∧z.length≤sizeLine∧Q (.str (Txt.slice z lo hi)) H
theorem tJ:SlR X rSlS:=by
 intro pins s σ H x v vl vu lo hi sl Q I rx hs pl pu h
 obtain ⟨z,rfl,hz,q⟩:=h
 obtain ⟨t,rfl⟩:=rx
 obtain ⟨o,ho,hc,hd⟩:=hs
 refine ⟨"str",_,PySem.F.slot_str_getitem.lookup,typeIs_str _ _ _,?_⟩
 cases pl with
 |none=>
  cases pu with
  |none=>exact wpAny_getItem_str_slice (l:=none) (u:=none) (st:=none) ⟨o,ho,hc,hd⟩ rfl (post_val_or_str ⟨Nat.le_trans (Txt.slice_le z none none) hz,fun t' k=>⟨.str _,H,I.tok k,⟨_,rfl⟩,q⟩⟩)
  |int j tj=>exact wpAny_getItem_str_slice (l:=none) (u:=some (j,tj)) (st:=none) ⟨o,ho,hc,hd⟩ rfl (post_val_or_str ⟨Nat.le_trans (Txt.slice_le z none (some j)) hz,fun t' k=>⟨.str _,H,I.tok k,⟨_,rfl⟩,q⟩⟩)
 |int i ti=>
  cases pu with
  |none=>exact wpAny_getItem_str_slice (l:=some (i,ti)) (u:=none) (st:=none) ⟨o,ho,hc,hd⟩ rfl (post_val_or_str ⟨Nat.le_trans (Txt.slice_le z (some i) none) hz,fun t' k=>⟨.str _,H,I.tok k,⟨_,rfl⟩,q⟩⟩)
  |int j tj=>exact wpAny_getItem_str_slice (l:=some (i,ti)) (u:=some (j,tj)) (st:=none) ⟨o,ho,hc,hd⟩ rfl (post_val_or_str ⟨Nat.le_trans (Txt.slice_le z (some i) (some j)) hz,fun t' k=>⟨.str _,H,I.tok k,⟨_,rfl⟩,q⟩⟩)
end
open PySem PySem.Spec PyProof.Rows
section
variable {X:Cx}
theorem fA:∀ {ys:List Str} {us:List Value},Vals (ys.map V.str) us→StrsAre us ys
 | [],_,r=>by cases r;exact .nil
 |y::ys,_,r=>by
  rw [List.map_cons] at r
  cases r with
  |cons r1 r2=>
   obtain ⟨t,rfl⟩:=r1
   exact .cons y t (fA r2)
def uM (K:PySem.W.Frag):V→List V→Hp→VK→Prop:=fun x vs H Q=>∃(sep:Str) (l:Addr) (ys:List Str),x= .str sep∧vs= [.ref l]∧SqL K H l (ys.map V.str)∧(ys.map (·.length)).sum+ys.length*sep.length≤16777216∧Q (.str (Txt.join sep ys)) H
theorem re:MtM X "str.join" (uM X.K):=by
 intro pins s σ H x vs v us Q I rx rv h
 obtain ⟨sep,l,ys,rfl,rfl,hl,hz,q⟩:=h
 obtain ⟨t,rfl⟩:=rx
 obtain ⟨u,rfl,ru⟩:=rv.one
 cases ru
 obtain ⟨its,r,p,_⟩:=I.list hl
 exact PyProof.Rows.join_list p.isList (by simpa using fA r) hz fun t' k=>⟨.str _,H,I.tok k,⟨_,rfl⟩,q⟩
theorem rg:MtM X "str.find" (rS1 (fun _ _=>True) fun z y=> .int (Txt.find z y)):=by
 intro pins s σ H x vs v us Q I rx rv h
 obtain ⟨z,y,rfl,rfl,_,q⟩:=h
 obtain ⟨t,rfl⟩:=rx
 obtain ⟨u,rfl,ru⟩:=rv.one
 obtain ⟨t',rfl⟩:=ru
 exact SC.find ⟨.int _,H,I.tok _,⟨_,rfl⟩,q⟩
end
end L2
namespace Trm
open PySem
inductive Tm where
 |nm (x:Str)
 |ap (f:Str) (ts:List Tm)
def Ltr (c:Nat):Prop:=97≤c∧c≤122
structure Nm (x:Str):Prop where
 pos:0 < x.length
 le:x.length≤8
 ltr:∀c∈x.cps.toList,Ltr c
mutual
noncomputable def Tm.depth:Tm→Nat
 | .nm _=>0
 | .ap _ ts=>Tms.depth ts+1
noncomputable def Tms.depth:List Tm→Nat
 | []=>0
 |t::ts=>max (Tm.depth t) (Tms.depth ts)
end
mutual
noncomputable def Tm.all:Tm→List Tm
 | .nm x=> [.nm x]
 | .ap f ts=>Tms.all ts++ [.ap f ts]
noncomputable def Tms.all:List Tm→List Tm
 | []=> []
 |t::ts=>Tm.all t++Tms.all ts
end
mutual
noncomputable def Tm.shown:Tm→Str
 | .nm x=>x
 | .ap f ts=>Str.ofString "("++Txt.join (Str.ofString " ") (f::Tms.shown ts)++Str.ofString ")"
noncomputable def Tms.shown:List Tm→List Str
 | []=> []
 |t::ts=>Tm.shown t::Tms.shown ts
end
end Trm
namespace K27
open PySem L2 Mth Tre
theorem nR {te:TE} {σ:L2.St} {H:Hp} {Q:List V→Hp→Prop} (h:te σ H fun v H1=>Q [v] H1):bA te tNil σ H Q:=h
abbrev abc:Str:=Str.ofString "abcdefghijklmnopqrstuvwxyz"
theorem jd:abc.length≤sizeLine:=by decide +kernel
theorem kU {i:Int} (h0:0≤i) (h1:i < 26):∃c,atI abc.cps.toList i=some c:=by
 obtain ⟨j,rfl⟩:∃j:Nat,i=(j:Int):=⟨i.toNat,by omega⟩
 have hl:abc.cps.toList.length=26:=by decide +kernel
 exact ⟨abc.cps.toList[j]'(by omega),eJ (List.getElem?_eq_getElem _)⟩
theorem lx (x:Str):x.cps.toList.length=x.length:=by simp [Str.length]
theorem di (x y:Str):(x++y).length=x.length+y.length:=by
 rw [←lx,←lx,←lx,←List.length_append]
 congr 1
 show (x.cps++y.cps).toList=_
 simp
theorem pe:∀(ys:List Str),(Txt.join (Str.ofString "") ys).length=(ys.map (·.length)).sum:=by
 intro ys
 have e:Txt.join (Str.ofString "") ys=Str.join (Str.ofString "") ys:=StrLaws.glued_eq_join _ _
 have e0:(Str.ofString "").length=0:=by decide +kernel
 rw [e]
 clear e
 induction ys with
 |nil=>rfl
 |cons y ys ih=>
  cases ys with
  |nil=>simp [Str.join]
  |cons z ys=>
   have e2:Str.join (Str.ofString "") (y::z::ys)=y++Str.ofString ""++Str.join (Str.ofString "") (z::ys):=rfl
   rw [e2,di,di,e0,ih]
   simp
theorem jc:∀c∈abc.cps.toList,Trm.Ltr c:=by
 have:abc.cps.toList.all (fun c=>decide (97≤c∧c≤122))=true:=by decide +kernel
 intro c m
 have:=List.all_eq_true.mp this c m
 rw [decide_eq_true_iff] at this
 exact this
theorem j8 {xs:List Nat} {i:Int} {c:Nat} (h:atI xs i=some c):c∈xs:=by
 unfold atI at h
 obtain ⟨j,_,e⟩:=Option.bind_eq_some_iff.mp h
 exact List.mem_of_getElem? e
theorem fu {x y:Str} (h1:∀c∈x.cps.toList,Trm.Ltr c) (h2:∀c∈y.cps.toList,Trm.Ltr c):∀c∈(x++y).cps.toList,Trm.Ltr c:=fun c m=>by
 have m:c∈(x.cps++y.cps).toList:=m
 rw [Array.toList_append] at m
 exact (List.mem_append.mp m).elim (h1 c) (h2 c)
theorem pc {ys:List Str} (h:∀y∈ys,∀c∈y.cps.toList,Trm.Ltr c):∀c∈(Txt.join (Str.ofString "") ys).cps.toList,Trm.Ltr c:=by
 have e:Txt.join (Str.ofString "") ys=Str.join (Str.ofString "") ys:=StrLaws.glued_eq_join _ _
 rw [e]
 clear e
 induction ys with
 |nil=>intro c m;cases m
 |cons y ys ih=>
  cases ys with
  |nil=>exact h y List.mem_cons_self
  |cons z ys=>
   have e2:Str.join (Str.ofString "") (y::z::ys)=y++Str.ofString ""++Str.join (Str.ofString "") (z::ys):=rfl
   rw [e2]
   exact fu (fu (h y List.mem_cons_self) fun c m=>by
    have e0:(Str.ofString "").cps.toList= []:=by decide +kernel
    rw [e0] at m
    cases m) (ih fun u mu=>h u (List.mem_cons_of_mem _ mu))
theorem mj {x:Str} {l u:Option Int} (h:∀c∈x.cps.toList,Trm.Ltr c):∀c∈(Txt.slice x l u).cps.toList,Trm.Ltr c:=fun c m=>by
 unfold Txt.slice at m
 split at m
 · exact h c m
 · obtain ⟨i,_,e⟩:=List.mem_filterMap.mp m
   exact h c (List.mem_of_getElem? (i:=i) (by simpa using e))
theorem iQ {d:Nat} (h:Trm.Ltr d):∀c∈(⟨#[d]⟩:Str).cps.toList,Trm.Ltr c:=fun c m=>by
 have:c=d:=by simpa using m
 rw [this]
 exact h
def Names (H:Hp) (nl:Addr):Prop:=∃a b c:Str,H nl=some (.lst [.str a, .str b, .str c])∧Trm.Nm a∧Trm.Nm b∧Trm.Nm c
theorem Names.atN {H:Hp} {nl:Addr} (h:Names H nl) {i:Int} (h0:0≤i) (h3:i < 3):∃xs x,H nl=some (.lst xs)∧atI xs i=some (.str x)∧Trm.Nm x:=by
 obtain ⟨a,b,c,e,n1,n2,n3⟩:=h
 have:i=0∨i=1∨i=2:=by omega
 rcases this with rfl|rfl|rfl
 · exact ⟨_,a,e,rfl,n1⟩
 · exact ⟨_,b,e,rfl,n2⟩
 · exact ⟨_,c,e,rfl,n3⟩
theorem Names.at {H:Hp} {nl:Addr} (h:Names H nl) {i:Int} (h0:0≤i) (h3:i < 3):∃xs x,H nl=some (.lst xs)∧atI xs i=some (.str x):=by
 obtain ⟨a,b,c,e,_⟩:=h
 have:i=0∨i=1∨i=2:=by omega
 rcases this with rfl|rfl|rfl
 · exact ⟨_,a,e,rfl⟩
 · exact ⟨_,b,e,rfl⟩
 · exact ⟨_,c,e,rfl⟩
theorem Names.but {tp nl:Addr} {H H':Hp} (h:Names H nl) (n1:nl≠tp) (b:But tp H H'):Names H' nl:=by
 obtain ⟨x,y,z,e,r⟩:=h
 exact ⟨x,y,z,b _ _ n1 e,r⟩
theorem bX {m:Int} (h0:0≤m) (h:m≤1000000):Big m:=cX h0 (by omega)
theorem oY {z:Str} (h:0 < z.length):∃c,atI z.cps.toList (-1)=some c:=by
 have hl:=lx z
 refine ⟨z.cps.toList[z.cps.toList.length - 1]'(by omega),Su.last_at (by omega) (List.getElem?_eq_getElem _)⟩
section
variable {P:Program} {w:World} {K:PySem.W.Frag} {mg:Str→Option Value} {base:Heap}
def lg:Sp:=fun vs H Q _=>∃(tp c:Addr) (n:Nat),vs= [.ref tp]∧TapeAt H tp c n∧n+10≤1000000∧∀(r:Addr) (H':Hp),TapeAt H' tp c (n+10)→But tp H H'→H r=none→Names H' r→Q (.ref r) H'
theorem scNm:az ["_law_tape_here","_law_letters","_law_word","_law_at"] ["_law_tape_here"] (af eU):=⟨rfl,rfl,rfl,by decide +kernel,rfl,by decide +kernel,by decide +kernel⟩
theorem oP {f fD:Addr} {fd fdD:FuncData} (F:Fun K "_law_names" "_law_names" eU f fd) (B:Blt mg) (FD:Fun K "_law_draw" "_law_draw" dY fD fdD) (bD:Binds K fdD ["_law_tape_here","_law_many"] []) (mD:mg "_law_draw"=some (.ref fD)):
 FnOk P w K mg base CX0 2 f fd ["_law_tape_here"] lg:=by
 have GD:FnOk P w K mg base CX0 1 fD fdD ["_law_tape_here","_law_many"] cQ:=fo FD B
 refine F.ok scNm (fun vs H Q E h=> ?_) (fun cdv A outer s H vs Q E hr h=> ?_)
 · obtain ⟨tp,cc,n,rfl,_⟩:=h
   rfl
 obtain ⟨tp,cc,n,rfl,hT,hn,k⟩:=h
 refine ⟨_,ae (aH (i:=1) scNm.nd rfl (Or.inr rfl) aM)
  (ae (aH (i:=2) scNm.nd rfl (Or.inl rfl) (jv PySem.F.plainAttrs_str PySem.F.slot_str_join PySem.F.type_str_join re aM (a8
   (c9 (NC:= ["_law_k","_law_letters","_law_tape_here"]) (mp:= [none,some 1,some 0]) rfl (cb rfl B.ra (a8 (aE bZ ac (ah GD hr rfl mD FD.kp bD .nil aj (a8 (pv 0) (a8 ac aa)))) aa)) (fun _ _ _ _ _=>aK (i:=0) (show (["_law_k","_law_letters","_law_tape_here"]:List Str).Nodup by decide +kernel) rfl (Or.inl rfl)) (fun _ _ _ _ _=>bK)
    (fun _ _ _ _ _=>ao iZ (pv 1) (ah GD hr rfl mD FD.kp bD .nil aj (a8 (pv 2) (a8 ac aa))) fun _ _=>rfl)) aa)))
  (ae (aH (i:=3) scNm.nd rfl (Or.inl rfl) (aE bZ (aE bZ (jv PySem.F.plainAttrs_str PySem.F.slot_str_find PySem.F.type_str_find rg (pv 1) (a8 (ao iZ (pv 2) (dm cr ac) fun _ _=>rfl) aa)) ac) (ah GD hr rfl mD FD.kp bD .nil aj (a8 (pv 0) (a8 ac aa)))))
  (ag (am (bq (a8 (pv 2) (a8 (aE fQ (js tJ (pv 2) lF (lE (dm cr ac))) (ao iZ (pv 1) (aE cK (pv 3) ac) fun _ _=>rfl)) (a8 (aE fQ (pv 2) (ao iZ (pv 1) (ah GD hr rfl mD FD.kp bD .nil aj (a8 (pv 0) (a8 ac aa))) fun _ _=>rfl)) aa)))))))),?_⟩
 have hL:(20000:Nat)≤sizeLine:=by decide +kernel
 refine ⟨rfl,?_⟩
 refine nR ?_
 refine bM rfl ?_
 refine ⟨_,rfl,tp,cc,6,n,rfl,hT,by omega,by decide,bX (by decide) (by decide),fun r0 H0 r00 r01 hT0 kp0=> ?_⟩
 refine ⟨1,r0,rfl,rfl,1+r0,rfl,by omega,by omega,fun D nD=> ?_⟩
 obtain ⟨c,ec⟩:∃c:Nat,(1+r0).toNat=c:=⟨_,rfl⟩
 have c6:c≤6:=by omega
 have c1:1≤c:=by omega
 have nfD:=hT0.ne nD
 have bt0:But tp H H0:=But.of_keep kp0
 have nD0:=bt0.free hT0 nD
 rw [ec]
 refine cM (n:=c) (fun i acc H'=>TapeAt H' tp cc (n+1+i)∧But tp H H'∧H' D=some (.lst acc)∧∃ys:List Str,acc=ys.map V.str∧ys.length=i∧∀y∈ys,y.length=1∧∀c∈y.cps.toList,Trm.Ltr c)
  ⟨hT0.same (ad nD),bt0.wr nD0,a9,[],rfl,rfl,fun y m=>by cases m⟩ ?_ ?_
 · rintro i acc H' hi ⟨hT',bt,hD,ys,rfl,hy,hw⟩
   refine ⟨_,rfl,_,rfl,tp,cc,26,n+1+i,rfl,hT',by omega,by decide,bX (by decide) (by decide),fun r H2 h0 h1 hT2 kp=> ?_⟩
   obtain ⟨d,ed⟩:=kU h0 h1
   have hD2:H2 D=some (.lst (ys.map V.str)):=(kp D nfD.1).trans hD
   have hTw:TapeAt (upd H2 D (.lst (ys.map V.str++ [.str ⟨#[d]⟩]))) tp cc (n+1+(i+1)):=hT2.wr nfD
   refine ⟨_,r,d,rfl,rfl,jd,ed,CompN.mk hi (by rw [List.length_map];omega) hD2 ⟨hTw,(bt.trans (But.of_keep kp)).wr nD0,a9,ys++ [⟨#[d]⟩],by simp,by simp [hy],fun y m=> ?_⟩⟩
   rcases List.mem_append.mp m with m|m
   · exact hw y m
   · rw [List.mem_singleton.mp m]
     exact ⟨rfl,iQ (jc _ (j8 ed))⟩
 rintro acc H1 ⟨hT1,bt1,hD,ys,rfl,hy,hw⟩
 have sm:(ys.map (·.length)).sum=ys.length:=by
  clear hy hD
  induction ys with
  |nil=>rfl
  |cons y ys ih=>
   simp only [List.map_cons,List.sum_cons,List.length_cons]
   rw [ih fun z m=>hw z (List.mem_cons_of_mem _ m),(hw y List.mem_cons_self).1]
   omega
 have e0:(Str.ofString "").length=0:=by decide +kernel
 have jl:=pe ys
 refine ⟨_,D,ys,rfl,rfl,SqL.of hD,by rw [e0];omega,?_⟩
 have wl:(Txt.join (Str.ofString "") ys).length=c:=by omega
 obtain ⟨lc,elc⟩:=oY (z:=Txt.join (Str.ofString "") ys) (by omega)
 refine ⟨_,rfl,rfl,_,rfl,_,rfl,_,-1,lc,rfl,rfl,by omega,elc,_,_,rfl,rfl,trivial,_,_,rfl,rfl,_,rfl,tp,cc,25,n+1+c,rfl,hT1,by omega,by decide,bX (by decide) (by decide),fun r1 H2 _ _ hT2 kp2=> ?_⟩
 refine ⟨_,_,rfl,rfl,?_⟩
 have q0:∀x:Int,(0:Int)≤x%26:=fun x=>Int.emod_nonneg _ (by decide)
 have q1:∀x:Int,x%26 < 26:=fun x=>Int.emod_lt_of_pos _ (by decide)
 obtain ⟨ld,eld⟩:=kU (q0 (Txt.find abc ⟨#[lc]⟩ +1+r1)) (q1 _)
 have sl1:=Txt.slice_le (Txt.join (Str.ofString "") ys) none (some (-1))
 have one:∀x:Nat,(⟨#[x]⟩:Str).length=1:=fun _=>rfl
 refine ⟨_,rfl,_,rfl,_,rfl,_,rfl,_,rfl,by omega,_,rfl,_,rfl,_,26,rfl,rfl,by show (0:Int) < 26;decide,_,_,ld,rfl,rfl,jd,eld,_,_,rfl,rfl,by rw [one];omega,_,rfl,_,rfl,_,rfl,tp,cc,26,n+1+c+1,rfl,hT2,by omega,by decide,bX (by decide) (by decide),fun r2 H3 r20 r21 hT3 kp3=> ?_⟩
 obtain ⟨le_,ele⟩:=kU r20 r21
 refine ⟨_,r2,le_,rfl,rfl,jd,ele,_,_,rfl,rfl,by rw [one];omega,by show 3≤sizeLine;decide,fun p np=> ?_⟩
 have bt3:=(bt1.trans (But.of_keep kp2)).trans (But.of_keep kp3)
 have np0:=bt3.free hT3 np
 have jw:=pc fun y my=>(hw y my).2
 exact k p _ ((hT3.wr (hT3.ne np)).mono (by omega)) (bt3.wr np0) np0 ⟨_,_,_,a9,⟨by omega,by omega,jw⟩,⟨by rw [di,one];omega,by rw [di,one];omega,fu (mj jw) (iQ (jc _ (j8 eld)))⟩,⟨by rw [di,one];omega,by rw [di,one];omega,fu jw (iQ (jc _ (j8 ele)))⟩⟩
end
open PySem L2 Mth Tre
theorem pw {t b:Int} (h:0 < b):fx t b=t / (Int.gcd t b:Int)∧fy t b=b / (Int.gcd t b:Int):=by
 unfold fx fy dv
 rw [if_neg (by omega)]
 exact ⟨Int.fdiv_eq_ediv_of_nonneg _ (by omega),Int.fdiv_eq_ediv_of_nonneg _ (by omega)⟩
theorem vg {t b:Int} (h:0 < b):(fx t b).natAbs≤t.natAbs∧(fy t b).natAbs≤b.natAbs:=by
 rw [(pw (t:=t) h).1,(pw (t:=t) h).2]
 exact ⟨fq _ _,fq _ _⟩
def T59:Int:=10^59
theorem t59:(1000000:Int)≤T59∧(T59+10).natAbs < 2^200∧T59 < 2^200:=by decide +kernel
theorem qe {m:Int} (h0:0≤m) (h:m≤T59+10):Big m:=by
 have h1:=t59.2.1
 unfold Big
 have:(2:Nat)^200 < 2^8000:=by decide +kernel
 exact Nat.lt_of_le_of_lt (show m.natAbs≤(T59+10).natAbs by omega) (Nat.lt_trans h1 this)
section
variable {P:Program} {w:World} {K:PySem.W.Frag} {mg:Str→Option Value} {base:Heap}
def spWh:Sp:=fun vs H Q _=>∃(tp c:Addr) (a b:Int) (n:Nat),vs= [.ref tp, .int a, .int b]∧TapeAt H tp c n∧n+2≤1000000∧0 < a∧a≤b∧b≤T59∧∀(r:Int) (H':Hp),0≤r→r < b→TapeAt H' tp c (n+2)→Keep tp H H'→Q (.int r) H'
theorem scWh:az ["_law_tape_here","_law_small","_law_great"] ["_law_tape_here","_law_small","_law_great"] (af eO):=⟨rfl,rfl,rfl,by decide +kernel,rfl,by decide +kernel,by decide +kernel⟩
theorem uQ {f fD:Addr} {fd fdD:FuncData} (F:Fun K "_law_whole" "_law_whole" eO f fd) (B:Blt mg) (FD:Fun K "_law_draw" "_law_draw" dY fD fdD) (bD:Binds K fdD ["_law_tape_here","_law_many"] []) (mD:mg "_law_draw"=some (.ref fD)):
 FnOk P w K mg base CX0 2 f fd ["_law_tape_here","_law_small","_law_great"] spWh:=by
 have GD:FnOk P w K mg base CX0 1 fD fdD ["_law_tape_here","_law_many"] cQ:=fo FD B
 refine F.ok scWh (fun vs H Q E h=> ?_) (fun cdv A outer s H vs Q E hr h=> ?_)
 · obtain ⟨tp,c,a,b,n,rfl,_⟩:=h
   rfl
 obtain ⟨tp,c,a,b,n,rfl,hT,hn,a0,ab,bT,k⟩:=h
 refine ⟨_,ae (aI (ar aP (ah GD hr rfl mD FD.kp bD .nil aj (a8 (pv 0) (a8 ac aa))) ac (au _)) (ag (am (ah GD hr rfl mD FD.kp bD .nil aj (a8 (pv 0) (a8 (pv 2) aa))))) ak)
  (ag (am (ah GD hr rfl mD FD.kp bD .nil aj (a8 (pv 0) (a8 (pv 1) aa))))),?_⟩
 refine ⟨_,rfl,tp,c,9,n,rfl,hT,by omega,by decide,bX (by decide) (by decide),fun r H1 _ _ hT1 kp1=> ?_⟩
 refine ⟨rfl,_,rfl,?_⟩
 refine ite2 (fun _=> ?_) (fun _=> ?_)
 · exact ⟨_,rfl,_,rfl,tp,c,b,n+1,rfl,hT1,by omega,by omega,qe (by omega) (by omega),fun r H2 r0 r1 hT2 kp2=>k r H2 r0 r1 hT2 (kp1.trans kp2)⟩
 · exact ⟨_,rfl,_,rfl,tp,c,a,n+1,rfl,hT1,by omega,a0,qe (by omega) (by omega),fun r H2 r0 r1 hT2 kp2=>k r H2 r0 (by omega) hT2 (kp1.trans kp2)⟩
def spSh:Sp:=fun vs H Q _=>∃(tp c:Addr) (n:Nat),vs= [.ref tp]∧TapeAt H tp c n∧n+4≤1000000∧∀(v:V) (H':Hp) (x y:Int),TapeAt H' tp c (n+4)→But tp H H'→TrAt H' v (.tup [.int x, .int y])→0 < y→x.natAbs < 2^200→y.natAbs < 2^200→dw x y→Q v H'
theorem scSh:az ["_law_tape_here","_law_top"] ["_law_tape_here"] (af eQ):=⟨rfl,rfl,rfl,by decide +kernel,rfl,by decide +kernel,by decide +kernel⟩
theorem uT {f fW fF C:Addr} {fd fdW fdF:FuncData} (F:Fun K "_law_share" "_law_share" eQ f fd) (GW:FnOk P w K mg base CX0 2 fW fdW ["_law_tape_here","_law_small","_law_great"] spWh) (kW:PySem.W.keepIn K (.ref fW)=true) (bW:Binds K fdW ["_law_tape_here","_law_small","_law_great"] []) (mW:mg "_law_whole"=some (.ref fW))
 (GF:FnOk P w K mg base (CX1 P w) 3 fF fdF ["top","bottom"] (spFr C)) (kF:PySem.W.keepIn K (.ref fF)=true) (bF:Binds K fdF ["top","bottom"] []) (mF:mg "fraction"=some (.ref fF)):
 FnOk P w K mg base CX0 4 f fd ["_law_tape_here"] spSh:=by
 refine F.ok scSh (fun vs H Q E h=> ?_) (fun cdv A outer s H vs Q E hr h=> ?_)
 · obtain ⟨tp,c,n,rfl,_⟩:=h
   rfl
 obtain ⟨tp,c,n,rfl,hT,hn,k⟩:=h
 have hr2:Room 2 _:=hr.mono (by decide)
 refine ⟨_,ae (aH (i:=1) scSh.nd rfl (Or.inl rfl) (aE oG (ah GW hr2 rfl mW kW bW .nil aj (a8 (pv 0) (a8 ac (a8 (aE oH ac ac) aa)))) ac))
  (ag (am (ah GF hr rfl mF kF bF .nil uO (a8 (pv 1) (a8 (aE bZ ac (ah GW hr2 rfl mW kW bW .nil aj (a8 (pv 0) (a8 ac (a8 (aE oH ac ac) aa))))) aa))))),?_⟩
 have e59:(10:Int)^(59:Int).toNat=T59:=by decide +kernel
 obtain ⟨g1,g2,g3⟩:=t59
 refine ⟨_,rfl,10,59,rfl,rfl,⟨by decide,by decide,by decide⟩,tp,c,9,T59,n,by rw [←e59];rfl,hT,by omega,by decide,by omega,by omega,fun r H1 r0 r1 hT1 kp1=> ?_⟩
 refine ⟨_,_,rfl,rfl,?_⟩
 refine ⟨_,rfl,_,rfl,10,59,rfl,rfl,⟨by decide,by decide,by decide⟩,tp,c,3,T59,n+2,by rw [←e59];rfl,hT1,by omega,by decide,by omega,by omega,fun q H2 q0 q1 hT2 kp2=> ?_⟩
 have b0:(0:Int) < 1+q:=by omega
 have bt:Big (r - 4):=by
  unfold Big
  have:(2:Nat)^200 < 2^8000:=by decide +kernel
  exact Nat.lt_of_le_of_lt (show (r - 4).natAbs≤(T59+10).natAbs by omega) (Nat.lt_trans g2 this)
 refine ⟨_,_,rfl,rfl,r - 4,1+q,rfl,bt,qe (by omega) (by omega),fun z=>absurd z (by omega),fun _ p np=> ?_⟩
 have hl:=vg (t:=r - 4) b0
 have b2:But tp H H2:=But.of_keep (kp1.trans kp2)
 have np0:=b2.free hT2 np
 refine k (.ref p) _ _ _ (hT2.wr (hT2.ne np)) (b2.wr np0) (bp a9) (gg (by omega)).1 ?_ ?_ (gg (by omega))
 · exact Nat.lt_of_le_of_lt hl.1 (Nat.lt_of_le_of_lt (show (r - 4).natAbs≤(T59+10).natAbs by omega) g2)
 · exact Nat.lt_of_le_of_lt hl.2 (Nat.lt_of_le_of_lt (show (1+q).natAbs≤(T59+10).natAbs by omega) g2)
end
open PySem L2 Mth Tre
theorem fw {r:List V→Hp→VK→Prop} {te:TE} {σ:L2.St} {H:Hp} {Q:List V→Hp→Prop} (h:te σ H fun v H1=>r [v] H1 fun u H2=>Q [u] H2):bA (tCB r (bA te tNil)) tNil σ H Q:=h
theorem cf {n:Nat}:∀ {ts:List Tr},(∀t∈ts,t.depth≤n)→Trs.depth ts≤n
 | [],_=>by unfold Trs.depth;omega
 |t::ts,h=>by
  unfold Trs.depth
  have h1:=h t List.mem_cons_self
  have h2:=cf fun u m=>h u (List.mem_cons_of_mem t m)
  omega
inductive Ln:Tr→Prop
 |nm (x:Str):Trm.Nm x→Ln (.tup [s_ "name", .str x])
 |ap (f:Str) (ts:List Tr):Trm.Nm f→0 < ts.length→ts.length≤3→(∀t∈ts,Ln t)→Ln (.tup [s_ "call", .str f, .tup ts])
theorem dF {H:Hp} {x:Str}:TrAt H (.str x) (.str x):=by unfold TrAt;rfl
theorem aO {H:Hp} {r:Addr} {vs:List V} {ts:List Tr} (h:H r=some (.tup vs)) (h1:TrsAt H vs ts):TrAt H (.ref r) (.tup ts):=by
 unfold TrAt
 exact ⟨r,vs,rfl,h,h1⟩
section
variable {P:Program} {w:World} {K:PySem.W.Frag} {mg:Str→Option Value} {base:Heap}
def jY (n:Nat):Sp:=fun vs H Q _=>∃(tp c nl:Addr) (d k:Nat),vs= [.ref tp, .ref nl, .int (d:Int)]∧TapeAt H tp c k∧k+4^(d+1)≤1000000∧Names H nl∧nl≠tp∧d < n∧
 ∀v t H',TapeAt H' tp c (k+4^(d+1))→But tp H H'→TrAt H' v t→Ty .tm t→Ln t→t.depth≤2*d+1→Q v H'
theorem scTe:az ["_law_tape_here","_law_names_here","_law_deep","_law_name"] ["_law_tape_here","_law_names_here","_law_deep"] (af i0):=⟨rfl,rfl,rfl,by decide +kernel,rfl,by decide +kernel,by decide +kernel⟩
theorem qS {f fD:Addr} {fd fdD:FuncData} (F:Fun K "_law_term" "_law_term" i0 f fd) (bF:Binds K fd ["_law_tape_here","_law_names_here","_law_deep"] []) (mF:mg "_law_term"=some (.ref f)) (B:Blt mg) (FD:Fun K "_law_draw" "_law_draw" dY fD fdD) (bD:Binds K fdD ["_law_tape_here","_law_many"] []) (mD:mg "_law_draw"=some (.ref fD)):
 ∀n,FnOk P w K mg base CX0 (n+1) f fd ["_law_tape_here","_law_names_here","_law_deep"] (jY n):=by
 have GD:FnOk P w K mg base CX0 1 fD fdD ["_law_tape_here","_law_many"] cQ:=fo FD B
 intro n
 induction n with
 |zero=>exact ⟨fun vs H Q E ⟨_,_,_,_,_,_,_,_,_,_,h,_⟩=>absurd h (by omega),fun A outer s H args us vs Q E _ _ _ _ ⟨_,_,_,_,_,_,_,_,_,_,h,_⟩=>absurd h (by omega)⟩
 |succ n ih=>
  refine F.ok scTe (fun vs H Q E h=> ?_) (fun cdv A outer s H vs Q E hr h=> ?_)
  · obtain ⟨tp,c,nl,d,k,rfl,_⟩:=h
    rfl
  obtain ⟨tp,c,nl,d,kk,rfl,hT,hn,hN,nt,hd,k⟩:=h
  have hr1:Room 1 _:=hr.mono (by omega)
  refine ⟨_,ae (aH (i:=3) scTe.nd rfl (Or.inl rfl) (ao aU (pv 1) (ah GD hr1 rfl mD FD.kp bD .nil aj (a8 (pv 0) (a8 ac aa))) fun _ _=>rfl))
   (ae (aI (PW.pt (fc (ar aP (pv 2) ac (au _)) (cR (ar i8 (ah GD hr1 rfl mD FD.kp bD .nil aj (a8 (pv 0) (a8 ac aa))) ac (au _)))))
    (ag (am (aw (a8 aM (a8 (pv 3) aa))))) ak)
   (ag (am (aw (a8 aM (a8 (pv 3) (a8 (bE aT rfl B.tu PyProof.Rows.boot_tuple (a8
    (c9 (NC:= ["_law_k","_law_deep","_law_names_here","_law_tape_here"]) (mp:= [none,some 2,some 1,some 0]) rfl (cb rfl B.ra (a8 (aE bZ ac (ah GD hr1 rfl mD FD.kp bD .nil aj (a8 (pv 0) (a8 ac aa)))) aa)) (fun _ _ _ _ _=>aK (i:=0) (show (["_law_k","_law_deep","_law_names_here","_law_tape_here"]:List Str).Nodup by decide +kernel) rfl (Or.inl rfl)) (fun _ _ _ _ _=>bK)
     (fun _ _ _ _ _=>ah ih hr rfl mF F.kp bF .nil aj (a8 (pv 3) (a8 (pv 2) (a8 (aE oG (pv 1) ac) aa))))) aa)) aa))))))),?_⟩
  have hL:(20000:Nat)≤sizeLine:=by decide +kernel
  have p4:4≤4^(d+1):=by
   have:4^1≤4^(d+1):=Nat.pow_le_pow_right (by decide) (by omega)
   omega
  refine ⟨_,rfl,_,rfl,tp,c,3,kk,rfl,hT,by omega,by decide,bX (by decide) (by decide),fun r H1 r0 r1 hT1 kp1=> ?_⟩
  have b1:But tp H H1:=But.of_keep kp1
  obtain ⟨xs,x,e1,e2,nmx⟩:=(hN.but nt b1).atN r0 r1
  refine ⟨nl,xs,r,_,rfl,rfl,SqL.of e1,e2,?_⟩
  have name:∀(H2:Hp) (m:Nat),TapeAt H2 tp c (kk+m)→m≤4→But tp H H2→(tRet (tTup (bA (tC (.str (Str.ofString "name"))) (bA (tVar 3) tNil)))) {nx:=fun _ H'=>Q .non H',rt:=Q} [some (.ref tp),some (.ref nl),some (.int (d:Int)),some (.str x)] H2:=by
   intro H2 m hT2 hm b2
   refine ⟨_,rfl,by show 2≤sizeLine;decide,fun p np=> ?_⟩
   have np0:=b2.free hT2 np
   refine k (.ref p) _ _ ((hT2.wr (hT2.ne np)).mono (by omega)) (b2.wr np0) (aO a9 (.cons dF (.cons dF .nil))) (.nm x) (.nm x nmx) ?_
   simp only [Tr.depth,Trs.depth]
   omega
  refine ⟨_,rfl,rfl,_,rfl,?_⟩
  refine ite2 (fun _=>name H1 1 hT1 (by decide) b1) (fun hd0=> ?_)
  have d0:d≠0:=fun z=>hd0 (by rw [z];decide)
  refine ⟨_,rfl,tp,c,3,kk+1,rfl,hT1,by omega,by decide,bX (by decide) (by decide),fun r2 H2 _ _ hT2 kp2=> ?_⟩
  have b2:=b1.trans (But.of_keep kp2)
  refine ⟨_,_,rfl,rfl,_,rfl,?_⟩
  refine ite2 (fun _=>name H2 2 hT2 (by decide) b2) (fun _=> ?_)
  refine ⟨_,rfl,?_⟩
  refine fw ?_
  refine bM rfl ?_
  refine ⟨_,rfl,tp,c,3,kk+2,rfl,hT2,by omega,by decide,bX (by decide) (by decide),fun r3 H3 r30 r31 hT3 kp3=> ?_⟩
  have b3:=b2.trans (But.of_keep kp3)
  refine ⟨1,r3,rfl,rfl,1+r3,rfl,by omega,by omega,fun D nD=> ?_⟩
  obtain ⟨m,em⟩:∃m:Nat,(1+r3).toNat=m:=⟨_,rfl⟩
  have m3:m≤3:=by omega
  have nfD:=hT3.ne nD
  have n0D:=b3.free hT3 nD
  have e4:4^(d+1)=4*4^d:=by rw [Nat.pow_succ,Nat.mul_comm]
  have d4:4≤4^d:=by
   have:4^1≤4^d:=Nat.pow_le_pow_right (by decide) (by omega)
   omega
  have hm4:m*4^d≤3*4^d:=Nat.mul_le_mul_right _ m3
  rw [em]
  refine cM (n:=m) (fun i acc H'=>TapeAt H' tp c (kk+3+i*4^d)∧But tp H H'∧H' D=some (.lst acc)∧∃ts:List Tr,TrsAt H' acc ts∧ts.length=i∧∀t∈ts,(Ty .tm t∧Ln t)∧t.depth≤2*(d - 1)+1)
   ⟨(hT3.wr nfD).mono (by omega),b3.wr n0D,a9,[], .nil,rfl,fun y m=>by cases m⟩ ?_ ?_
  · rintro i acc H' hi ⟨hT',bt,hD,ts,hTs,hl,hw⟩
    have hi4:i*4^d+4^d≤3*4^d:=by
     have:(i+1)*4^d≤3*4^d:=Nat.mul_le_mul_right _ (by omega)
     rw [Nat.add_mul,Nat.one_mul] at this
     exact this
    have ed:d - 1+1=d:=by omega
    refine ⟨_,rfl,_,rfl,_,rfl,_,_,rfl,rfl,tp,c,nl,d - 1,kk+3+i*4^d,?_,hT',by rw [ed];omega,hN.but nt bt,nt,by omega,fun v t H6 hT6 b6 hv tyt lnt dt=> ?_⟩
    · show [V.ref tp, .ref nl, .int ((d:Int) - 1)]=_
      rw [show ((d:Int) - 1)=((d - 1:Nat):Int) by omega]
    · have hD6:H6 D=some (.lst acc):=b6 D _ nfD.1 hD
      have kd6:=b6.kd hT' hT6
      have tp6:=Kd.upd (ys:=acc++ [v]) hD6
      have hl2:=hTs.len
      rw [ed] at hT6
      refine CompN.mk hi (by omega) hD6 ⟨?_,(bt.trans b6).wr n0D,a9,ts++ [t],TrsAt.app (.cons (hv.mono tp6) .nil) (hTs.mono (kd6.trans tp6)),by simp [hl],fun u mu=> ?_⟩
      · rw [Nat.add_mul,Nat.one_mul,←Nat.add_assoc]
        exact hT6.wr nfD
      · rcases List.mem_append.mp mu with mu|mu
        · exact hw u mu
        · rw [List.mem_singleton.mp mu]
          exact ⟨⟨tyt,lnt⟩,dt⟩
  · rintro acc H4 ⟨hT4,b4,hD,ts,hTs,hl,hw⟩
    refine ⟨D,acc,rfl, .inl ⟨SqL.of hD,fun l nl'=> ?_⟩⟩
    refine ⟨by show 3≤sizeLine;decide,fun q nq=> ?_⟩
    have s1:Same H4 (upd H4 l (.tup acc)):=ad nl'
    have s2:Same (upd H4 l (.tup acc)) (upd (upd H4 l (.tup acc)) q (.tup [.str (Str.ofString "call"), .str x, .ref l])):=ad nq
    refine k (.ref q) _ _ ((hT4.same (s1.trans s2)).mono (by omega)) (b4.trans (But.of_same (s1.trans s2))) (aO a9 (.cons dF (.cons dF (.cons (aO (s2 _ _ a9) (hTs.mono (Kd.of_same (s1.trans s2)))) .nil)))) (.ap x ts (by omega) fun t m=>(hw t m).1.1) (.ap x ts nmx (by omega) (by omega) fun t m=>(hw t m).1.2) ?_
    have:=cf fun t m=>(hw t m).2
    simp only [Tr.depth,Trs.depth]
    omega
end
open PySem L2 Mth Tre Zp
section
variable {P:Program} {w:World} {K:PySem.W.Frag} {mg:Str→Option Value} {base:Heap}
def spAl (n:Nat):Sp:=fun vs H Q _=>∃(v w:V),vs= [v,w]∧Sm H n v w∧∀H',Same H H'→Q (.bl true) H'
theorem scAl:az ["_law_found","_law_due"] ["_law_found","_law_due"] (af eW):=⟨rfl,rfl,rfl,by decide +kernel,rfl,by decide +kernel,by decide +kernel⟩
theorem nP {Z:Ends} {σ:L2.St} {H:Hp} (h:Z.nx σ H):lb Z σ H:=h
theorem qk:∀ {bs:List Bool},(∀b∈bs,b=true)→bs.all id=true:=fun h=>List.all_eq_true.mpr fun b m=>h b m
theorem v9 {f:Addr} {fd:FuncData} (F:Fun K "_law_alike" "_law_alike" eW f fd) (bF:Binds K fd ["_law_found","_law_due"] []) (mF:mg "_law_alike"=some (.ref f)) (B:Blt mg):∀n,FnOk P w K mg base CX0 (n+1) f fd ["_law_found","_law_due"] (spAl n):=by
 intro n
 induction n with
 |zero=>exact ⟨fun vs H Q E ⟨_,_,_,h,_⟩=>h.elim,fun A outer s H args us vs Q E _ _ _ _ ⟨_,_,_,h,_⟩=>h.elim⟩
 |succ n ih=>
  refine F.ok scAl (fun vs H Q E h=> ?_) (fun cdv A outer s H vs Q E hr h=> ?_)
  · obtain ⟨v,w',rfl,_⟩:=h
    rfl
  obtain ⟨v,w',rfl,hs,k⟩:=h
  refine ⟨_,ae (aI (bB (aB (r:=rIsi K) aS rfl B.isi ay (a8 (pv 1) (a8 (aw (a8 (aR (v:= .ty "list") rfl B.li PyProof.Rows.boot_list rfl) (a8 (aR (v:= .ty "tuple") rfl B.tu PyProof.Rows.boot_tuple rfl) aa))) aa))))
   (ae (aI (PW.pt (fc (cT (bB (aB (r:=rIsi K) aS rfl B.isi ay (a8 (pv 0) (a8 (aw (a8 (aR (v:= .ty "list") rfl B.li PyProof.Rows.boot_list rfl) (a8 (aR (v:= .ty "tuple") rfl B.tu PyProof.Rows.boot_tuple rfl) aa))) aa)))))
    (cR (ar lK (aB (r:=rIsi K) aS rfl B.isi ay (a8 (pv 0) (a8 (aR (v:= .ty "list") rfl B.li PyProof.Rows.boot_list rfl) aa))) (aB (r:=rIsi K) aS rfl B.isi ay (a8 (pv 1) (a8 (aR (v:= .ty "list") rfl B.li PyProof.Rows.boot_list rfl) aa))) (au _))))) (ag (am aY)) ak)
   (ae (aI (ar lK (aB aX rfl B.le PySem.boot_len (a8 (pv 0) aa)) (aB aX rfl B.le PySem.boot_len (a8 (pv 1) aa)) (au _)) (ag (am aY)) ak)
   (ag (am (aB (io rfl) rfl B.al PyProof.Rows.boot_all (a8 (c9 (NC:= ["_law_one","_law_other"]) (mp:= [none,none]) (g:=gTup K 2 (cW (aV 0) (cW (aV 1) gNil))) rfl (qO rfl B.zi (a8 (pv 0) (a8 (pv 1) aa)))
    (fun _ _ _ _ _=>fM (n:=2) rfl (br (aK (i:=0) (show (["_law_one","_law_other"]:List Str).Nodup by decide +kernel) rfl (Or.inl rfl) (Or.inr rfl)) (br (aK (i:=1) (show (["_law_one","_law_other"]:List Str).Nodup by decide +kernel) rfl (Or.inl rfl) (Or.inr rfl)) e6))) (fun _ _ _ _ _=>bK)
    (fun _ _ _ _ _=>ah ih hr rfl mF F.kp bF .nil aj (a8 (pv 0) (a8 (pv 1) aa)))) aa)))))) ak)
   (ae (aI (PW.pt (fc (ar iP (pv 1) iO (au _)) (cR (ar iP (pv 0) iO (au _)))))
    (ag (am (ci (aW iP (pv 1) iO (au _)) (dz (aW iP (pv 0) iO (au _)))))) ak)
   (ae (aI (PW.pt (fc (bB (aB (r:=rIsi K) aS rfl B.isi ay (a8 (pv 1) (a8 (aR (v:= .ty "bool") rfl B.bo PyProof.Rows.boot_bool rfl) aa)))) (cR (bB (aB (r:=rIsi K) aS rfl B.isi ay (a8 (pv 0) (a8 (aR (v:= .ty "bool") rfl B.bo PyProof.Rows.boot_bool rfl) aa)))))))
    (ag (am (ci (aB (r:=rIsi K) aS rfl B.isi ay (a8 (pv 1) (a8 (aR (v:= .ty "bool") rfl B.bo PyProof.Rows.boot_bool rfl) aa))) (ci (aB (r:=rIsi K) aS rfl B.isi ay (a8 (pv 0) (a8 (aR (v:= .ty "bool") rfl B.bo PyProof.Rows.boot_bool rfl) aa))) (dz (aW aP (pv 0) (pv 1) (au _))))))) ak)
   (ae (aI (PW.pt (fc (cT (bB (aB (r:=rIsi K) aS rfl B.isi ay (a8 (pv 0) (a8 (aw (a8 (aR (v:= .ty "int") rfl B.it PyProof.Rows.boot_int rfl) (a8 (aR (v:= .ty "str") rfl B.st PyProof.Rows.boot_str rfl) aa))) aa)))))
    (cR (ar lK (aB (r:=rIsi K) aS rfl B.isi ay (a8 (pv 0) (a8 (aR (v:= .ty "str") rfl B.st PyProof.Rows.boot_str rfl) aa))) (aB (r:=rIsi K) aS rfl B.isi ay (a8 (pv 1) (a8 (aR (v:= .ty "str") rfl B.st PyProof.Rows.boot_str rfl) aa))) (au _))))) (ag (am aY)) ak)
   (ag (am (aW aP (pv 0) (pv 1) (au _))))))),?_⟩
  rcases hs with ⟨x,rfl,rfl⟩|⟨i,rfl,rfl⟩|⟨b,rfl,rfl⟩|⟨rfl,rfl⟩|⟨a,b,xs,ys,rfl,rfl,hab,hlen,hit⟩
  · refine ⟨_,rfl,by show 2≤sizeLine;decide,fun p np=> ?_⟩
    have s1:Same H (upd H p (.tup [.ty "list", .ty "tuple"])):=ad np
    refine ⟨.str x, .ref p,_,false,rfl, .of (.str x), .inr ⟨p,_,rfl,a9,rfl,mK K⟩,false,rfl,iteF ?_⟩
    refine ⟨_,rfl,rfl,_,rfl,iteF ⟨_,rfl,rfl,_,rfl,iteF ?_⟩⟩
    refine ⟨_,rfl, .str x, .ty "bool",_,false,rfl, .of (.str x), .inl ⟨rfl,ff K⟩,false,rfl,iteF ⟨_,rfl, .str x, .ty "bool",_,false,rfl, .of (.str x), .inl ⟨rfl,ff K⟩,false,rfl,iteF ?_⟩⟩
    refine ⟨_,rfl,by show 2≤sizeLine;decide,fun q nq=> ?_⟩
    have s2:=s1.trans (ad (o:= .tup [.ty "int", .ty "str"]) nq)
    refine ⟨.str x, .ref q,_,true,rfl, .of (.str x), .inr ⟨q,_,rfl,a9,rfl,mM K⟩,true,rfl,iteF ?_⟩
    refine ⟨_,rfl, .str x, .ty "str",_,true,rfl, .of (.str x), .inl ⟨rfl,fY K⟩,_,rfl, .str x, .ty "str",_,true,rfl, .of (.str x), .inl ⟨rfl,fY K⟩,rfl,_,rfl,?_⟩
    rw [decide_eq_true rfl]
    refine iteF ⟨_,rfl,_,rfl,rfl,?_⟩
    rw [decide_eq_true rfl]
    exact k _ s2
  · refine ⟨_,rfl,by show 2≤sizeLine;decide,fun p np=> ?_⟩
    have s1:Same H (upd H p (.tup [.ty "list", .ty "tuple"])):=ad np
    refine ⟨.int i, .ref p,_,false,rfl, .of (.int i), .inr ⟨p,_,rfl,a9,rfl,mU K⟩,false,rfl,iteF ?_⟩
    refine ⟨_,rfl,rfl,_,rfl,iteF ⟨_,rfl,rfl,_,rfl,iteF ?_⟩⟩
    refine ⟨_,rfl, .int i, .ty "bool",_,false,rfl, .of (.int i), .inl ⟨rfl,e9 K⟩,false,rfl,iteF ⟨_,rfl, .int i, .ty "bool",_,false,rfl, .of (.int i), .inl ⟨rfl,e9 K⟩,false,rfl,iteF ?_⟩⟩
    refine ⟨_,rfl,by show 2≤sizeLine;decide,fun q nq=> ?_⟩
    have s2:=s1.trans (ad (o:= .tup [.ty "int", .ty "str"]) nq)
    refine ⟨.int i, .ref q,_,true,rfl, .of (.int i), .inr ⟨q,_,rfl,a9,rfl,mY K⟩,true,rfl,iteF ?_⟩
    refine ⟨_,rfl, .int i, .ty "str",_,false,rfl, .of (.int i), .inl ⟨rfl,fZ K⟩,_,rfl, .int i, .ty "str",_,false,rfl, .of (.int i), .inl ⟨rfl,fZ K⟩,rfl,_,rfl,?_⟩
    rw [decide_eq_true rfl]
    refine iteF ⟨_,rfl,_,rfl,rfl,?_⟩
    rw [decide_eq_true rfl]
    exact k _ s2
  · refine ⟨_,rfl,by show 2≤sizeLine;decide,fun p np=> ?_⟩
    have s1:Same H (upd H p (.tup [.ty "list", .ty "tuple"])):=ad np
    refine ⟨.bl b, .ref p,_,false,rfl, .of (.bl b), .inr ⟨p,_,rfl,a9,rfl,kx K⟩,false,rfl,iteF ?_⟩
    refine ⟨_,rfl,rfl,_,rfl,iteF ⟨_,rfl,rfl,_,rfl,iteF ?_⟩⟩
    refine ⟨_,rfl, .bl b, .ty "bool",_,true,rfl, .of (.bl b), .inl ⟨rfl,cu K⟩,true,rfl,iteT ?_⟩
    refine ⟨_,rfl, .bl b, .ty "bool",_,true,rfl, .of (.bl b), .inl ⟨rfl,cu K⟩,true,rfl,iteT ⟨_,rfl, .bl b, .ty "bool",_,true,rfl, .of (.bl b), .inl ⟨rfl,cu K⟩,true,rfl,iteT ⟨_,rfl,_,rfl,rfl,?_⟩⟩⟩
    rw [decide_eq_true rfl]
    exact k _ s1
  · refine ⟨_,rfl,by show 2≤sizeLine;decide,fun p np=> ?_⟩
    have s1:Same H (upd H p (.tup [.ty "list", .ty "tuple"])):=ad np
    refine ⟨.non, .ref p,_,false,rfl, .of .non, .inr ⟨p,_,rfl,a9,rfl,kr K⟩,false,rfl,iteF ?_⟩
    refine ⟨_,rfl,rfl,_,rfl,iteT ⟨_,rfl,rfl,_,rfl,iteT ⟨_,rfl,rfl,?_⟩⟩⟩
    exact k _ s1
  · obtain ⟨T,bl,kk,hTy,kA,kL,hSq⟩:∃(T:String) (bl:Bool) (kk:Src),(∀H',Same H H'→TyX K H' (.ref a) (.type T)∧TyX K H' (.ref b) (.type T))∧PySem.W.kitAny K (.type T) [.type "list", .type "tuple"]=some true∧PySem.W.kitOne K (.type T) (.type "list")=some bl∧
     (∀H',Same H H'→(Sqk kk K H' a xs∧(SqL K H' a xs∨SqT K H' a xs))∧Sqk kk K H' b ys∧(SqL K H' b ys∨SqT K H' b ys)):=by
     rcases hab with ⟨ha,hb⟩|⟨ha,hb⟩
     · exact ⟨"list",true, .lst,fun H' s=>⟨.of (.lst (s _ _ ha)), .of (.lst (s _ _ hb))⟩,mQ K,ku K,fun H' s=>⟨⟨SqL.of (s _ _ ha), .inl (SqL.of (s _ _ ha))⟩,SqL.of (s _ _ hb), .inl (SqL.of (s _ _ hb))⟩⟩
     · exact ⟨"tuple",false, .tup,fun H' s=>⟨.of (.tup (s _ _ ha)), .of (.tup (s _ _ hb))⟩,mJ K,kq K,fun H' s=>⟨⟨SqT.of (s _ _ ha), .inr (SqT.of (s _ _ ha))⟩,SqT.of (s _ _ hb), .inr (SqT.of (s _ _ hb))⟩⟩
    refine ⟨_,rfl,by show 2≤sizeLine;decide,fun p np=> ?_⟩
    have s1:Same H (upd H p (.tup [.ty "list", .ty "tuple"])):=ad np
    obtain ⟨ta,tb⟩:=hTy _ s1
    refine ⟨.ref b, .ref p,_,true,rfl,tb, .inr ⟨p,_,rfl,a9,rfl,kA⟩,true,rfl,iteT ?_⟩
    refine ⟨_,rfl,by show 2≤sizeLine;decide,fun q nq=> ?_⟩
    have s2:=s1.trans (ad (o:= .tup [.ty "list", .ty "tuple"]) nq)
    obtain ⟨ta,tb⟩:=hTy _ s2
    obtain ⟨⟨za,qa⟩,zb,qb⟩:=hSq _ s2
    refine ⟨.ref a, .ref q,_,true,rfl,ta, .inr ⟨q,_,rfl,a9,rfl,kA⟩,true,rfl,iteF ?_⟩
    refine ⟨_,rfl, .ref a, .ty "list",_,bl,rfl,ta, .inl ⟨rfl,kL⟩,_,rfl, .ref b, .ty "list",_,bl,rfl,tb, .inl ⟨rfl,kL⟩,rfl,_,rfl,?_⟩
    rw [decide_eq_true rfl]
    refine iteF ⟨_,rfl,a,xs,rfl,qa,_,rfl,b,ys,rfl,qb,rfl,_,rfl,?_⟩
    rw [decide_eq_true (show V.int (xs.length:Int)=V.int (ys.length:Int) by rw [hlen])]
    refine iteF ?_
    refine nP ?_
    dsimp only
    refine l8 ?_
    generalize hH2:upd (upd H p (.tup [.ty "list", .ty "tuple"])) q (.tup [.ty "list", .ty "tuple"])=H2 at*
    refine pQ (k:=kk) (rest:= []) (a:=a) (b:=b) rfl hlen (fun Q q=>⟨_,rfl,_,rfl,q⟩) za zb fun D nD=> ?_
    refine ⟨fun i acc H'=>Same H2 H'∧H' D=some (.lst acc)∧acc=List.replicate i (V.bl true),⟨ad nD,a9,rfl⟩,?_,?_,?_⟩
    · rintro i acc H' ⟨sH,_,_⟩
      obtain ⟨⟨u1,_⟩,u2,_⟩:=hSq _ (s2.trans sH)
      exact ⟨u1,u2⟩
    · rintro i T x y acc H' hi hz ⟨sH,hD,rfl⟩ e1 e2 nT
      have sT:=sH.trans (ad (o:= .tup [x,y]) nT)
      refine ⟨_,rfl,_,rfl,_,_,rfl,(hit i _ _ e1 e2).mono (s2.trans sT),fun H6 s6=>CompN.mk hi ?_ (s6 _ _ ((ad nT) _ _ hD)) ⟨bx nD (sT.trans s6),a9,?_⟩⟩
      · rw [List.length_replicate]
        exact hz
      · rw [List.replicate_succ']
    · rintro acc H' ⟨sH,hD,rfl⟩
      refine ⟨D,List.replicate xs.length true,rfl,SqL.of (by rw [List.map_replicate];exact hD),?_⟩
      rw [qk fun b m=>(List.mem_replicate.mp m).2]
      exact k _ (s2.trans sH)
end
end K27
namespace Tre
open PySem L2
noncomputable def dn1 (acc:List Tr) (t:Tr):List Tr:=if (acc.any fun u=>eqT u t)=true then acc else acc++ [t]
noncomputable def dn (ts:List Tr):List Tr:=ts.foldl dn1 []
theorem j3 (ts:List Tr) (t:Tr):dn (ts++ [t])=dn1 (dn ts) t:=by
 unfold dn
 rw [List.foldl_append]
 rfl
theorem rL {acc:List Tr} {t u:Tr} (h:u∈dn1 acc t):u∈acc∨u=t:=by
 unfold dn1 at h
 split at h
 · exact .inl h
 · rcases List.mem_append.mp h with h|h
   · exact .inl h
   · exact .inr (List.mem_singleton.mp h)
theorem rM (acc:List Tr) (t:Tr):(dn1 acc t).length≤acc.length+1:=by
 unfold dn1
 split<;>simp
theorem iz {k:So} {t u:Tr} (h1:Ty k t) (h2:Ty k u) (e:eqT t u=true):t=u:=nE t.depth (Nat.le_refl _) h1 h2 ((cj t u).mp e)
theorem rO {k:So}:∀(n:Nat) (ps:List Tr),ps.length=n→Rise ps→(∀t∈ps,Ty k t)→dn ps=dd ps∧(∀u∈dd ps,u∈ps)∧(dd ps).getLast?=ps.getLast?:=by
 intro n
 induction n with
 |zero=>
  intro ps hl _ _
  have:ps= []:=List.eq_nil_of_length_eq_zero hl
  subst this
  exact ⟨rfl,fun u m=>m,rfl⟩
 |succ n ih=>
  intro ps hl hr ht
  obtain ⟨qs,t,rfl⟩:∃qs t,ps=qs++ [t]:=by
   have hne:ps≠ []:=fun z=>by rw [z] at hl;simp at hl
   exact ⟨ps.dropLast,ps.getLast hne,(List.dropLast_concat_getLast hne).symm⟩
  rw [List.length_append,List.length_singleton] at hl
  have hq:Rise qs:=fun i j a b hij e1 e2=>hr i j a b hij (by rw [List.getElem?_append_left (List.getElem?_eq_some_iff.mp e1).1];exact e1) (by rw [List.getElem?_append_left (List.getElem?_eq_some_iff.mp e2).1];exact e2)
  have tt:Ty k t:=ht t (by simp)
  have tq:∀u∈qs,Ty k u:=fun u m=>ht u (by simp [m])
  obtain ⟨i1,i2,i3⟩:=ih qs (by omega) hq tq
  have le:∀u∈qs,ltT t u=false:=fun u m=>by
   obtain ⟨j,hj,e⟩:=List.getElem_of_mem m
   refine hr j qs.length u t (by omega) ?_ (by simp)
   rw [List.getElem?_append_left hj,List.getElem?_eq_getElem hj,e]
  rw [j3,cL,i1]
  have last:∀ {l:Tr},(dd qs).getLast?=some l→l∈qs∧∀u∈qs,ltT l u=false:=fun {l} e=>by
   rw [i3] at e
   have hne:qs≠ []:=fun z=>by rw [z] at e;cases e
   have e2:qs[qs.length - 1]?=some l:=by rw [←List.getLast?_eq_getElem?];exact e
   refine ⟨List.mem_of_getElem? e2,fun u m=> ?_⟩
   obtain ⟨j,hj,e'⟩:=List.getElem_of_mem m
   exact hq j (qs.length - 1) u l (by omega) (by rw [List.getElem?_eq_getElem hj,e']) e2
  have any:∀ {l:Tr},(dd qs).getLast?=some l→((dd qs).any fun u=>eqT u t)=eqT l t:=fun {l} e=>by
   obtain ⟨ml,hl'⟩:=last e
   cases c:eqT l t with
   |true=>
    refine List.any_eq_true.mpr ⟨l,List.mem_of_getLast? e,c⟩
   |false=>
    refine List.any_eq_false.mpr fun u m z=> ?_
    have mu:=i2 u m
    have eu:=iz (tq u mu) tt (by simpa using z)
    subst eu
    have:=km (hl' u mu) (le l ml)
    rw [this] at c
    cases c
  cases e:(dd qs).getLast? with
  |none=>
   have hd:dd qs= []:=List.getLast?_eq_none_iff.mp e
   unfold dn1 dd1
   rw [hd]
   exact ⟨rfl,fun u m=>by simp at m;simp [m],by simp⟩
  |some l=>
   have ha:=any e
   have e1:dd1 (dd qs) t=if eqT l t=true then dd qs else dd qs++ [t]:=by
    unfold dd1
    rw [e]
   have e2:dn1 (dd qs) t=if eqT l t=true then dd qs else dd qs++ [t]:=by
    unfold dn1
    rw [ha]
   rw [e1,e2]
   refine ⟨rfl,fun u m=> ?_,?_⟩
   · split at m
     · simp [i2 u m]
     · rcases List.mem_append.mp m with m|m
       · simp [i2 u m]
       · simp [List.mem_singleton.mp m]
   · split
     · rename_i z
       rw [e,iz (tq l (last e).1) tt z]
       simp
     · simp
theorem sU {k:So} {us:List Tr} (hr:Rise us) (ht:∀t∈us,Ty k t):dn us=dd us∧∀u∈dd us,u∈us:=by
 obtain ⟨h1,h2,_⟩:=rO us.length us rfl hr ht
 exact ⟨h1,h2⟩
theorem TrsAt.take {H:Hp}:∀ {vs:List V} {ts:List Tr} (n:Nat),TrsAt H vs ts→TrsAt H (vs.take n) (ts.take n)
 |_,_,0,_=>by
  rw [List.take_zero,List.take_zero]
  exact .nil
 |_,[],n+1,h=>by
  unfold TrsAt at h
  subst h
  exact .nil
 |_,t::ts,n+1,h=>by
  obtain ⟨v,r,rfl,h1,h2⟩:=h.inv
  exact .cons h1 (TrsAt.take n h2)
theorem TrsAt.drop {H:Hp}:∀ {vs:List V} {ts:List Tr} (n:Nat),TrsAt H vs ts→TrsAt H (vs.drop n) (ts.drop n)
 |_,_,0,h=>by
  rw [List.drop_zero,List.drop_zero]
  exact h
 |_,[],n+1,h=>by
  unfold TrsAt at h
  subst h
  exact .nil
 |_,t::ts,n+1,h=>by
  obtain ⟨v,r,rfl,h1,h2⟩:=h.inv
  exact TrsAt.drop n h2
end Tre
namespace K27
open PySem L2 Mth Tre Wd Dj
theorem l6 {r:List V→Hp→VK→Prop} {te:TE} {i:Nat} {u:TS} {Z:Ends} {σ:L2.St} {H:Hp} (h:te σ H fun v H1=>r [v] H1 fun x H2=>aV i x σ H2 (u Z)):tSeq (tAsg (tCB r (bA te tNil)) (aV i)) u Z σ H:=h
theorem nw {P:Program} {w:World} {K:PySem.W.Frag} {H H':Hp} {tp c F D C:Addr} {n m k:Nat} (h:WS P w K H F D C k) (x:TapeAt H tp c n) (b:But tp H H') (y:TapeAt H' tp c m):WS P w K H' F D C k:=by
 obtain ⟨xs,ex⟩:=x.lst
 refine h.kd (b.kd x y) fun a o ha e=>b a o (fun z=> ?_) e
 rw [z] at ha
 obtain ⟨kF,f1,_⟩:=h.fl
 obtain ⟨kV,v1,_⟩:=h.va
 obtain ⟨kC,c1,_⟩:=h.ca
 rcases ha with rfl|rfl|rfl
 · rw [ex] at f1;cases f1
 · rw [ex] at v1;cases v1
 · have c2:=c1.at_
   rw [ex] at c2;cases c2
section
variable {P:Program} {w:World} {K:PySem.W.Frag} {mg:Str→Option Value} {base:Heap}
def iF:Sp:=fun vs H Q _=>∃(tp c:Addr) (n:Nat),vs= [.ref tp]∧TapeAt H tp c n∧n+6≤1000000∧∀(v:V) (p:Fr) (H':Hp),TapeAt H' tp c (n+6)→But tp H H'→TrAt H' v (frT p)→Gv p→Q v H'
theorem scWo:az ["_law_tape_here"] ["_law_tape_here"] (af eL):=⟨rfl,rfl,rfl,by decide +kernel,rfl,by decide +kernel,by decide +kernel⟩
theorem pj {a b:Int} (h0:0 < b) (ha:a.natAbs < 10) (hb:b.natAbs < 10) (hg:Int.gcd a b=1):Gv (a,b):=by
 have:(10:Nat) < 2^200:=by decide +kernel
 exact ⟨⟨h0,Nat.lt_trans ha this,Nat.lt_trans hb this⟩,h0,hg⟩
theorem oK {f fD fS:Addr} {fd dD dS:FuncData} (F:Fun K "_law_worth" "_law_worth" eL f fd)
 (gS:FnOk P w K mg base CX0 4 fS dS ["_law_tape_here"] spSh) (kS:PySem.W.keepIn K (.ref fS)=true) (bS:Binds K dS ["_law_tape_here"] []) (mS:mg "_law_share"=some (.ref fS))
 (gD:FnOk P w K mg base CX0 1 fD dD ["_law_tape_here","_law_many"] cQ) (kD:PySem.W.keepIn K (.ref fD)=true) (bD:Binds K dD ["_law_tape_here","_law_many"] []) (mD:mg "_law_draw"=some (.ref fD)):
 FnOk P w K mg base CX0 5 f fd ["_law_tape_here"] iF:=by
 refine F.ok scWo (fun vs H Q E h=> ?_) (fun cdv A outer s H vs Q E hr h=> ?_)
 · obtain ⟨tp,c,n,rfl,_⟩:=h
   rfl
 obtain ⟨tp,c,n,rfl,hT,hn,k⟩:=h
 have hr1:Room 1 _:=hr.mono (by decide)
 refine ⟨_,ae (aI (ar aP (ah gD hr1 rfl mD kD bD .nil aj (a8 (pv 0) (a8 ac aa))) ac (au _)) (ag (am (ah gS hr rfl mS kS bS .nil aj (a8 (pv 0) aa)))) ak)
  (ag (am (ao aU (bq (a8 (aw (a8 ac (a8 ac aa))) (a8 (aw (a8 ac (a8 ac aa))) (a8 (aw (a8 (dm cr ac) (a8 ac aa))) (a8 (aw (a8 ac (a8 ac aa))) (a8 (aw (a8 ac (a8 ac aa))) aa))))))
   (ah gD hr1 rfl mD kD bD .nil aj (a8 (pv 0) (a8 ac aa))) fun _ _=>rfl))),?_⟩
 refine ⟨_,rfl,tp,c,9,n,rfl,hT,by omega,by decide,bX (by decide) (by decide),fun r H1 _ _ hT1 kp1=> ?_⟩
 have b1:But tp H H1:=But.of_keep kp1
 refine ⟨rfl,_,rfl,?_⟩
 refine ite2 (fun _=> ?_) (fun _=> ?_)
 · refine ⟨_,rfl,tp,c,n+1,rfl,hT1,by omega,fun v H2 x y hT2 b2 hv y0 hx hy hs=> ?_⟩
   exact k v (x,y) H2 (hT2.mono (by omega)) (b1.trans b2) hv ⟨⟨y0,hx,hy⟩,hs⟩
 · refine ⟨by show 2≤sizeLine;decide,fun p1 n1=>⟨by show 2≤sizeLine;decide,fun p2 n2=>⟨_,rfl,by show 2≤sizeLine;decide,fun p3 n3=>⟨by show 2≤sizeLine;decide,fun p4 n4=>⟨by show 2≤sizeLine;decide,fun p5 n5=>⟨by show 5≤sizeLine;decide,fun l nl=> ?_⟩⟩⟩⟩⟩⟩
   have s1:=ad (o:= .tup [.int 0, .int 1]) n1
   have s2:=ad (o:= .tup [.int 1, .int 1]) n2
   have s3:=ad (o:= .tup [.int (-1), .int 1]) n3
   have s4:=ad (o:= .tup [.int 1, .int 2]) n4
   have s5:=ad (o:= .tup [.int 2, .int 1]) n5
   have s6:=ad (o:= .lst [.ref p1, .ref p2, .ref p3, .ref p4, .ref p5]) nl
   have e5:=s6 _ _ (a9 (a:=p5) (o:= .tup [.int 2, .int 1]))
   have e4:=s6 _ _ (s5 _ _ (a9 (a:=p4) (o:= .tup [.int 1, .int 2])))
   have e3:=s6 _ _ (s5 _ _ (s4 _ _ (a9 (a:=p3) (o:= .tup [.int (-1), .int 1]))))
   have e2:=s6 _ _ (s5 _ _ (s4 _ _ (s3 _ _ (a9 (a:=p2) (o:= .tup [.int 1, .int 1])))))
   have e1:=s6 _ _ (s5 _ _ (s4 _ _ (s3 _ _ (s2 _ _ (a9 (a:=p1) (o:= .tup [.int 0, .int 1]))))))
   have sa:=s1.trans (s2.trans (s3.trans (s4.trans (s5.trans s6))))
   have e0:=a9 (H:=upd (upd (upd (upd (upd H1 p1 (.tup [.int 0, .int 1])) p2 (.tup [.int 1, .int 1])) p3 (.tup [.int (-1), .int 1])) p4 (.tup [.int 1, .int 2])) p5 (.tup [.int 2, .int 1])) (a:=l) (o:= .lst [.ref p1, .ref p2, .ref p3, .ref p4, .ref p5])
   have nfl:l≠tp:=(hT1.ne (s1.free (s2.free (s3.free (s4.free (s5.free nl)))))).1
   refine ⟨_,rfl,tp,c,5,n+1,rfl,hT1.same sa,by omega,by decide,bX (by decide) (by decide),fun q H2 q0 q1 hT2 kp2=> ?_⟩
   generalize upd (upd (upd (upd (upd (upd H1 p1 (.tup [.int 0, .int 1])) p2 (.tup [.int 1, .int 1])) p3 (.tup [.int (-1), .int 1])) p4 (.tup [.int 1, .int 2])) p5 (.tup [.int 2, .int 1])) l (.lst [.ref p1, .ref p2, .ref p3, .ref p4, .ref p5])=HL at*
   have b2:=But.of_keep kp2
   have kd2:=b2.kd (hT1.same sa) hT2
   have bb:But tp H H2:=(b1.trans (But.of_same sa)).trans b2
   have hq:q=0∨q=1∨q=2∨q=3∨q=4:=by omega
   have fin:∀(x:Addr) (a b:Int),HL x=some (.tup [.int a, .int b])→0 < b→a.natAbs < 10→b.natAbs < 10→Int.gcd a b=1→Q (.ref x) H2:=fun x a b ex h0 ha hb hg=>
    k (.ref x) (a,b) H2 (hT2.mono (by omega)) bb (bp (kd2.tup _ _ ex)) (pj h0 ha hb hg)
   have hl2:H2 l=some (.lst [.ref p1, .ref p2, .ref p3, .ref p4, .ref p5]):=(kp2 l nfl).trans e0
   rcases hq with rfl|rfl|rfl|rfl|rfl
   · exact ⟨l,_,0, .ref p1,rfl,rfl,SqL.of hl2,rfl,fin p1 _ _ e1 (by decide) (by decide) (by decide) (by decide)⟩
   · exact ⟨l,_,1, .ref p2,rfl,rfl,SqL.of hl2,rfl,fin p2 _ _ e2 (by decide) (by decide) (by decide) (by decide)⟩
   · exact ⟨l,_,2, .ref p3,rfl,rfl,SqL.of hl2,rfl,fin p3 _ _ e3 (by decide) (by decide) (by decide) (by decide)⟩
   · exact ⟨l,_,3, .ref p4,rfl,rfl,SqL.of hl2,rfl,fin p4 _ _ e4 (by decide) (by decide) (by decide) (by decide)⟩
   · exact ⟨l,_,4, .ref p5,rfl,rfl,SqL.of hl2,rfl,fin p5 _ _ e5 (by decide) (by decide) (by decide) (by decide)⟩
end
open PySem L2 Mth Tre Wd Dj
section
variable {P:Program} {w:World} {K:PySem.W.Frag} {mg:Str→Option Value} {base:Heap}
theorem dX {t rest:TS} {Z:Ends} {σ:L2.St} {H:Hp} (R:L2.St→Hp→Prop) (hR:∀σ' H',R σ' H'→rest Z σ' H') (h:∀nx:L2.St→Hp→Prop,(∀σ' H',R σ' H'→nx σ' H')→t {Z with nx:=nx} σ H):tSeq t rest Z σ H:=h _ hR
def iG (P:Program) (w:World) (K:PySem.W.Frag):Sp:=fun vs H Q _=>∃(tp c nl:Addr) (k:Nat),vs= [.ref tp, .ref nl]∧TapeAt H tp c k∧k+400≤1000000∧Names H nl∧nl≠tp∧
 ∀r F D C H',TapeAt H' tp c (k+400)→But tp H H'→H r=none→H F=none→H D=none→H C=none→H' r=some (.tup [.ref F, .ref D, .ref C])→WS P w K H' F D C 24→Q (.ref r) H'
theorem scWd:az ["_law_tape_here","_law_names_here","_law_flags","_law_values","_law_calls","_law_name","_law_k","_law_key"] ["_law_tape_here","_law_names_here"] (af eM):=⟨rfl,rfl,rfl,by decide +kernel,rfl,by decide +kernel,by decide +kernel⟩
structure Wm (P:Program) (w:World) (K:PySem.W.Frag) (H H':Hp) (tp c F D C:Addr) (k n:Nat):Prop where
 tape:TapeAt H' tp c k
 but:But tp H H'
 ws:WS P w K H' F D C n
theorem Wm.go {H H1 H2:Hp} {tp c F D C:Addr} {k n m:Nat} (h:Wm P w K H H1 tp c F D C k n) (b:But tp H1 H2) (t:TapeAt H2 tp c m):Wm P w K H H2 tp c F D C m n:=⟨t,h.but.trans b,nw h.ws h.tape b t⟩
theorem Wm.mono {H H1:Hp} {tp c F D C:Addr} {k n k' n':Nat} (h:Wm P w K H H1 tp c F D C k n) (hk:k≤k') (hn:n≤n'):Wm P w K H H1 tp c F D C k' n':=⟨h.tape.mono hk,h.but,h.ws.mono hn⟩
theorem oM {f fD fW:Addr} {fd dD dW:FuncData} (F:Fun K "_law_world" "_law_world" eM f fd) (B:Blt mg)
 (gW:FnOk P w K mg base CX0 5 fW dW ["_law_tape_here"] iF) (kW:PySem.W.keepIn K (.ref fW)=true) (bW:Binds K dW ["_law_tape_here"] []) (mW:mg "_law_worth"=some (.ref fW))
 (gD:FnOk P w K mg base CX0 1 fD dD ["_law_tape_here","_law_many"] cQ) (kD:PySem.W.keepIn K (.ref fD)=true) (bD:Binds K dD ["_law_tape_here","_law_many"] []) (mD:mg "_law_draw"=some (.ref fD)):
 FnOk P w K mg base CX0 6 f fd ["_law_tape_here","_law_names_here"] (iG P w K):=by
 refine F.ok scWd (fun vs H Q E h=> ?_) (fun cdv A outer s H vs Q E hr h=> ?_)
 · obtain ⟨tp,c,nl,k,rfl,_⟩:=h
   rfl
 obtain ⟨tp,c,nl,kk,rfl,hT,hn,hN,nt,k⟩:=h
 have hr1:Room 1 _:=hr.mono (by decide)
 have hun:=hr.units
 have hu1:=jH hr
 refine ⟨_,ae (aH (i:=2) scWd.nd rfl (Or.inl rfl) jt)
  (ae (aH (i:=3) scWd.nd rfl (Or.inl rfl) jt)
  (ae (aH (i:=4) scWd.nd rfl (Or.inl rfl) (qP (P:=P) (w:=w) rfl rfl))
  (ae (cJ PassesOwn.never rfl (cm (pv 1)) (aK (i:=5) scWd.nd rfl (Or.inl rfl))
   (ae (aI (ar i8 (ah gD hr1 rfl mD kD bD .nil aj (a8 (pv 0) (a8 ac aa))) ac (au _)) (ag (iN hu1 (pv 2) (pv 5) (aW aP (ah gD hr1 rfl mD kD bD .nil aj (a8 (pv 0) (a8 ac aa))) ac (au _)) rfl)) ak)
   (ae (aI (ar i8 (ah gD hr1 rfl mD kD bD .nil aj (a8 (pv 0) (a8 ac aa))) ac (au _)) (ag (iN hu1 (pv 3) (pv 5) (ah gW hr rfl mW kW bW .nil aj (a8 (pv 0) aa)) rfl)) ak)
   (ag (cJ PassesOwn.never rfl (cb rfl B.ra (a8 (ah gD hr1 rfl mD kD bD .nil aj (a8 (pv 0) (a8 ac aa))) aa)) (aK (i:=6) scWd.nd rfl (Or.inl rfl))
    (ae (aH (i:=7) scWd.nd rfl (Or.inl rfl) (bE aT rfl B.tu PyProof.Rows.boot_tuple (a8
     (c9 (NC:= ["_law_j","_law_tape_here"]) (mp:= [none,some 0]) rfl (cb rfl B.ra (a8 (aE bZ ac (ah gD hr1 rfl mD kD bD .nil aj (a8 (pv 0) (a8 ac aa)))) aa)) (fun _ _ _ _ _=>aK (i:=0) (show (["_law_j","_law_tape_here"]:List Str).Nodup by decide +kernel) rfl (Or.inl rfl)) (fun _ _ _ _ _=>bK)
      (fun _ _ _ _ _=>ah gW hr rfl mW kW bW .nil aj (a8 (pv 1) aa))) aa)))
    (ag (qN (P:=P) (w:=w) (K:=K) rfl rfl rfl (Nat.lt_of_le_of_lt (Nat.add_le_add_left (by decide) _) hun) (pv 4) (aw (a8 (pv 5) (a8 (pv 7) aa))) (ah gW hr rfl mW kW bW .nil aj (a8 (pv 0) aa)) rfl))))))))
  (ag (am (aw (a8 (pv 2) (a8 (pv 3) (a8 (pv 4) aa))))))))),?_⟩
 have hL:(20000:Nat)≤sizeLine:=by decide +kernel
 intro Fa nF Da nD Ca nC
 have nFt:=hT.ne nF
 have nD0:H Da=none:=(ad nF).free nD
 have nC1:=(ad nD).free nC
 have nC0:H Ca=none:=(ad nF).free nC1
 have nDt:=hT.ne nD0
 have nCt:=hT.ne nC0
 have sA:Same H (upd (upd (upd H Fa (.dK [])) Da (.dK [])) Ca (dJ P w Ca [])):=(ad nF).trans ((ad nD).trans (ad nC))
 have neFD:Fa≠Da:=fun z=>by rw [←z,a9] at nD;cases nD
 have neFC:Fa≠Ca:=fun z=>by rw [←z,a9] at nC1;cases nC1
 have neDC:Da≠Ca:=fun z=>by rw [←z,a9] at nC;cases nC
 have w0:Wm P w K H (upd (upd (upd H Fa (.dK [])) Da (.dK [])) Ca (dJ P w Ca [])) tp c Fa Da Ca kk 0:=
  ⟨hT.same sA,But.of_same sA,neFD,⟨[],ad nC _ _ (ad nD _ _ a9),fun x v e=>(by cases e),Nat.le_refl _⟩,⟨[],ad nC _ _ a9,fun x v e=>(by cases e),Nat.le_refl _⟩,⟨[],⟨a9,fun p m=>(by cases m)⟩,fun x v e=>(by cases e),Nat.le_refl _⟩⟩
 generalize upd (upd (upd H Fa (.dK [])) Da (.dK [])) Ca (dJ P w Ca [])=H0 at w0
 obtain ⟨xa,xb,xc,eN,_⟩:=hN
 have eN0:H0 nl=some (.lst [.str xa, .str xb, .str xc]):=w0.but nl _ nt eN
 refine ⟨_,rfl,nl,rfl,⟨_,SqL.of eN0⟩,?_⟩
 refine cD (xs:= [.str xa, .str xb, .str xc]) (fun i σ H'=>Wm P w K H H' tp c Fa Da Ca (kk+i*130) (i*8)∧∃v5 v6 v7,σ= [some (.ref tp),some (.ref nl),some (.ref Fa),some (.ref Da),some (.ref Ca),v5,v6,v7])
  ⟨by simpa using w0,none,none,none,rfl⟩ (fun i σ H' _ p=>SqL.of (p.1.but nl _ nt eN)) ?_ ?_
 · rintro i x σ H1 ex ⟨w1,v5,v6,v7,rfl⟩
   have hi:i < 3:=(List.getElem?_eq_some_iff.mp ex).1
   obtain ⟨x,rfl⟩:∃y:Str,x= .str y:=by
    have m:=List.mem_of_getElem? ex
    simp only [List.mem_cons,List.not_mem_nil,or_false] at m
    rcases m with rfl|rfl|rfl<;>exact ⟨_,rfl⟩
   have e1:kk+(i+1)*130=kk+i*130+130:=by omega
   have e2:(i+1)*8=i*8+8:=by omega
   have hk1:kk+i*130+130≤1000000:=by omega
   rw [e1,e2]
   generalize kk+i*130=k1 at*
   have hn1:i*8≤16:=by omega
   generalize i*8=n1 at*
   clear e1 e2
   refine dX (fun σ' H'=>Wm P w K H H' tp c Fa Da Ca (k1+2) (n1+1)∧σ'= [some (.ref tp),some (.ref nl),some (.ref Fa),some (.ref Da),some (.ref Ca),some (.str x),v6,v7]) ?_ fun nx hnx=> ?_
   rotate_left
   · refine ⟨_,rfl,tp,c,4,k1,rfl,w1.tape,by omega,by decide,bX (by decide) (by decide),fun r H2 _ _ hT2 kp2=> ?_⟩
     have w2:=w1.go (But.of_keep kp2) hT2
     refine ⟨_,_,rfl,rfl,_,rfl,?_⟩
     refine ite2 (fun _=> ?_) (fun _=>hnx _ _ ⟨w2.mono (by omega) (by omega),rfl⟩)
     refine ⟨_,rfl,tp,c,2,k1+1,rfl,w2.tape,by omega,by decide,bX (by decide) (by decide),fun r3 H3 _ _ hT3 kp3=> ?_⟩
     have w3:=w2.go (But.of_keep kp3) hT3
     obtain ⟨kF,f1,f2,f3⟩:=w3.ws.fl
     exact ⟨rfl,_,rfl,_,rfl,Fa,_,rfl,DPut.k (k:=Sum.inr x) f1 (by omega),hnx _ _ ⟨⟨w3.tape.wr nFt,w3.but.wr nF,w3.ws.putF f1⟩,rfl⟩⟩
   rintro σ' H2 ⟨w2,rfl⟩
   refine dX (fun σ' H'=>Wm P w K H H' tp c Fa Da Ca (k1+9) (n1+2)∧σ'= [some (.ref tp),some (.ref nl),some (.ref Fa),some (.ref Da),some (.ref Ca),some (.str x),v6,v7]) ?_ fun nx hnx=> ?_
   rotate_left
   · refine ⟨_,rfl,tp,c,5,k1+2,rfl,w2.tape,by omega,by decide,bX (by decide) (by decide),fun r H3 _ _ hT3 kp3=> ?_⟩
     have w3:=w2.go (But.of_keep kp3) hT3
     refine ⟨_,_,rfl,rfl,_,rfl,?_⟩
     refine ite2 (fun _=> ?_) (fun _=>hnx _ _ ⟨w3.mono (by omega) (by omega),rfl⟩)
     refine ⟨_,rfl,tp,c,k1+3,rfl,w3.tape,by omega,fun v p H4 hT4 b4 hv hp=> ?_⟩
     have w4:=w3.go b4 hT4
     obtain ⟨kV,f1,f2,f3⟩:=w4.ws.va
     exact ⟨_,rfl,_,rfl,Da,_,rfl,DPut.k (k:=Sum.inr x) f1 (by omega),hnx _ _ ⟨⟨w4.tape.wr nDt,w4.but.wr nD0,w4.ws.putV f1 hv hp⟩,rfl⟩⟩
   rintro σ' H3 ⟨w3,rfl⟩
   refine ⟨_,rfl,tp,c,4,k1+9,rfl,w3.tape,by omega,by decide,bX (by decide) (by decide),fun r H4 r0 r1 hT4 kp4=> ?_⟩
   have w4:=w3.go (But.of_keep kp4) hT4
   refine ⟨r,rfl,by omega,by omega,?_⟩
   obtain ⟨m,em⟩:∃m:Nat,r.toNat=m:=⟨_,rfl⟩
   have m3:m≤3:=by omega
   rw [em]
   refine ij (n:=m) (fun j σ H'=>Wm P w K H H' tp c Fa Da Ca (k1+10+j*30) (n1+2+j)∧∃v6 v7,σ= [some (.ref tp),some (.ref nl),some (.ref Fa),some (.ref Da),some (.ref Ca),some (.str x),v6,v7]) ⟨by simpa using w4,v6,v7,rfl⟩ ?_ ?_
   · rintro j σ H5 hj ⟨w5,v6,v7,rfl⟩
     have hk5:k1+10+j*30+30≤k1+100:=by omega
     have hn5:n1+2+j≤40:=by omega
     have e1:k1+10+(j+1)*30=k1+10+j*30+30:=by omega
     have e2:n1+2+(j+1)=n1+2+j+1:=by omega
     rw [e1,e2]
     clear e1 e2
     generalize k1+10+j*30=k5 at*
     generalize n1+2+j=n5 at*
     refine l6 ?_
     refine bM rfl ?_
     refine ⟨_,rfl,tp,c,3,k5,rfl,w5.tape,by omega,by decide,bX (by decide) (by decide),fun r6 H6 q0 q1 hT6 kp6=> ?_⟩
     have w6:=w5.go (But.of_keep kp6) hT6
     refine ⟨1,r6,rfl,rfl,1+r6,rfl,by omega,by omega,fun L nL=> ?_⟩
     obtain ⟨m2,em2⟩:∃m:Nat,(1+r6).toNat=m:=⟨_,rfl⟩
     have m23:m2≤3:=by omega
     rw [em2]
     have nLt:=w6.tape.ne nL
     have sL:=ad (o:= .lst []) nL
     refine cM (n:=m2) (fun i acc H'=>TapeAt H' tp c (k5+1+i*6)∧But tp H6 H'∧H' L=some (.lst acc)∧∃ps:List Fr,TrsAt H' acc (ps.map frT)∧ps.length=i)
      ⟨(w6.tape.same sL).mono (by omega),But.of_same sL,a9,[], .nil,rfl⟩ ?_ ?_
     · rintro i acc H7 hi ⟨hT7,b7,hL7,ps,hps,hl⟩
       refine ⟨_,rfl,tp,c,k5+1+i*6,rfl,hT7,by omega,fun v p H8 hT8 b8 hv hp=> ?_⟩
       have hL8:=b8 L _ nLt.1 hL7
       have kd8:=b8.kd hT7 hT8
       have kd9:=Kd.upd (ys:=acc++ [v]) hL8
       have al:=hps.len
       rw [List.length_map] at al
       refine CompN.mk hi (by omega) hL8 ⟨(hT8.wr nLt).mono (by omega),(b7.trans b8).wr nL,a9,ps++ [p],?_,by simp [hl]⟩
       rw [List.map_append]
       exact TrsAt.app (.cons (hv.mono kd9) .nil) (hps.mono (kd8.trans kd9))
     · rintro acc H7 ⟨hT7,b7,hL7,ps,hps,hl⟩
       have w7:=w6.go b7 hT7
       refine ⟨L,acc,rfl, .inl ⟨SqL.of hL7,fun q nq=> ?_⟩⟩
       have s8:=ad (o:= .tup acc) nq
       have w8:=w7.go (But.of_same s8) (hT7.same s8)
       have hq8:TrAt (upd H7 q (.tup acc)) (.ref q) (.tup (ps.map frT)):=aO a9 (hps.mono (Kd.of_same s8))
       generalize upd H7 q (.tup acc)=H8 at w8 hq8
       refine ⟨_,rfl,tp,c,_,rfl,w8.tape,by omega,fun v p H9 hT9 b9 hv hp=> ?_⟩
       have w9:=w8.go b9 hT9
       have hq9:=hq8.mono (b9.kd w8.tape hT9)
       refine ⟨_,rfl,_,rfl,_,rfl,by show 2≤sizeLine;decide,fun z nz=> ?_⟩
       have s10:=ad (o:= .tup [.str x, .ref q]) nz
       have w10:=w9.go (But.of_same s10) (hT9.same s10)
       have hz:TrAt (upd H9 z (.tup [.str x, .ref q])) (.ref z) (.tup [.str x, .tup (ps.map frT)]):=aO a9 (.cons dF (.cons (hq9.mono (Kd.of_same s10)) .nil))
       have hv10:=hv.mono (Kd.of_same s10)
       generalize upd H9 z (.tup [.str x, .ref q])=H10 at w10 hz hv10
       obtain ⟨kC,c1,c2,c3⟩:=w10.ws.ca
       refine ⟨Ca,z,_,kC,rfl,rfl,c1,ky hz,by omega,⟨⟨(w10.tape.wr nCt).mono (by omega),w10.but.wr nC0,w10.ws.putC c1 (ky hz) hv10 hp c3 c2⟩,_,_,rfl⟩⟩
   · rintro σ H5 ⟨w5,v6,v7,rfl⟩
     exact ⟨w5.mono (by omega) (by omega),_,_,_,rfl⟩
 · rintro σ H1 ⟨w1,v5,v6,v7,rfl⟩
   refine ⟨_,rfl,_,rfl,_,rfl,by show 3≤sizeLine;decide,fun r nr=> ?_⟩
   have sr:=ad (o:= .tup [.ref Fa, .ref Da, .ref Ca]) nr
   exact k r Fa Da Ca _ ((w1.tape.same sr).mono (by show kk+3*130≤kk+400;omega)) (w1.but.trans (But.of_same sr)) (w1.but.free w1.tape nr) nF nD0 nC0 a9 (w1.ws.same sr)
end
open PySem L2 Mth Tre Wd Dj
theorem at2 {H:Hp} {v:V} {k:Str} {t:Tr} (h:TrAt H v (.tup [.str k,t])):∃a y,v= .ref a∧H a=some (.tup [.str k,y])∧TrAt H y t:=by
 obtain ⟨a,vs,e,h1,h2⟩:=eh h
 obtain ⟨y,r,rfl,h3,h4⟩:=h2.inv
 unfold TrsAt at h4
 subst h4
 exact ⟨a,y,e,h1,h3⟩
theorem at3 {H:Hp} {v:V} {k:Str} {t u:Tr} (h:TrAt H v (.tup [.str k,t,u])):∃a y z,v= .ref a∧H a=some (.tup [.str k,y,z])∧TrAt H y t∧TrAt H z u:=by
 obtain ⟨a,vs,e,h1,h2⟩:=eh h
 obtain ⟨y,r,rfl,h3,h4⟩:=h2.inv
 obtain ⟨z,r2,rfl,h5,h6⟩:=h4.inv
 unfold TrsAt at h6
 subst h6
 exact ⟨a,y,z,e,h1,h3,h5⟩
theorem at_s {H:Hp} {v:V} {x:Str} (h:TrAt H v (.str x)):v= .str x:=by
 unfold TrAt at h
 exact h
theorem at_t {H:Hp} {v:V} {ts:List Tr} (h:TrAt H v (.tup ts)):∃a vs,v= .ref a∧H a=some (.tup vs)∧TrsAt H vs ts:=by
 unfold TrAt at h
 exact h
section
variable {P:Program} {w:World} {K:PySem.W.Frag} {mg:Str→Option Value} {base:Heap}
def o7 (P:Program) (w:World) (K:PySem.W.Frag) (n:Nat):Sp:=fun vs H Q _=>∃(v wv:V) (t:Tr) (W:Wld),vs= [v,wv]∧TrAt H v t∧Ty .tm t∧t.depth≤n∧WAt P w K H wv W∧∀u H',Same H H'→TrAt H' u (frT (valT W t))→Q u H'
theorem scVa:az ["_law_term_here","_law_world_here","_law_key"] ["_law_term_here","_law_world_here"] (af de):=⟨rfl,rfl,rfl,by decide +kernel,rfl,by decide +kernel,by decide +kernel⟩
theorem tR {f:Addr} {fd:FuncData} (F:Fun K "_law_value" "_law_value" de f fd) (bF:Binds K fd ["_law_term_here","_law_world_here"] []) (mF:mg "_law_value"=some (.ref f)) (B:Blt mg):
 ∀n,FnOk P w K mg base CX0 (n+1) f fd ["_law_term_here","_law_world_here"] (o7 P w K n):=by
 intro n
 induction n with
 |zero=>exact ⟨fun vs H Q E ⟨_,_,_,_,_,_,h,d,_⟩=>(by cases h<;>simp [Tr.depth] at d),fun A outer s H args us vs Q E _ _ _ _ ⟨_,_,_,_,_,_,h,d,_⟩=>(by cases h<;>simp [Tr.depth] at d)⟩
 |succ n ih=>
  refine F.ok scVa (fun vs H Q E h=> ?_) (fun cdv A outer s H vs Q E hr h=> ?_)
  · obtain ⟨v,wv,t,W,rfl,_⟩:=h
    rfl
  obtain ⟨v,wv,t,W,rfl,hv,ty,dt,hW,k⟩:=h
  have hun:=hr.units
  have hu1:=jH hr
  refine ⟨_,ae (aI (ar aP (ao aq (pv 0) ac fun _ _=>rfl) aM (au _)) (ag (am (ju hu1 (ao aq (pv 1) ac fun _ _=>rfl) (ao aq (pv 0) ac fun _ _=>rfl) (aw (a8 ac (a8 ac aa))) ⟨rfl,rfl,rfl,rfl⟩))) ak)
   (ae (aH (i:=2) scVa.nd rfl (Or.inl rfl) (aw (a8 (ao aq (pv 0) ac fun _ _=>rfl) (a8 (bE aT rfl B.tu PyProof.Rows.boot_tuple (a8
    (c9 (NC:= ["_law_one","_law_world_here"]) (mp:= [none,some 1]) rfl (fK (ao aq (pv 0) ac fun _ _=>rfl)) (fun _ _ _ _ _=>aK (i:=0) (show (["_law_one","_law_world_here"]:List Str).Nodup by decide +kernel) rfl (Or.inl rfl)) (fun _ _ _ _ _=>bK)
     (fun _ _ _ _ _=>ah ih hr rfl mF F.kp bF .nil aj (a8 (pv 0) (a8 (pv 1) aa)))) aa)) aa))))
   (ag (am (qQ (P:=P) (w:=w) (K:=K) rfl rfl rfl (Nat.lt_of_le_of_lt (Nat.add_le_add_left (by decide) _) hun) (ao aq (pv 1) ac fun _ _=>rfl) (pv 2) (aw (a8 ac (a8 ac aa))) ⟨rfl,rfl,rfl,rfl⟩)))),?_⟩
  have hW':=hW
  obtain ⟨r,F',D,C,kF,kV,kC,rfl,g1,⟨g2,g3⟩,⟨g4,g5⟩,g6,g7⟩:=hW'
  cases ty with
  |nm x=>
   obtain ⟨a,y,rfl,ha,hy⟩:=at2 hv
   cases at_s hy
   refine ⟨_,rfl,a,_,0, .str (Str.ofString "name"),rfl,rfl,SqT.of ha,rfl,rfl,_,rfl,?_⟩
   rw [decide_eq_true rfl]
   refine iteT ?_
   refine ⟨_,rfl,r,_,1, .ref D,rfl,rfl,SqT.of g1,rfl,D,rfl, .inl ⟨kV, .inl g4⟩,_,rfl,a,_,1, .str x,rfl,rfl,SqT.of ha,rfl,by show 2≤sizeLine;decide,fun p np=> ?_⟩
   have sp:=ad (o:= .tup [.int 0, .int 1]) np
   refine ⟨_,DGet.k (k:=Sum.inr x) (sp _ _ g4),?_⟩
   rcases g5 x with ⟨u,e1,e2⟩|⟨e1,e2⟩
   · rw [e1]
     exact k u _ sp (by rw [je];exact e2.mono (Kd.of_same sp))
   · rw [e1]
     exact k (.ref p) _ sp (by rw [je,e2];exact bp a9)
  |ap x ts tsl hts=>
   obtain ⟨a,y,z,rfl,ha,hy,hz⟩:=at3 hv
   cases at_s hy
   obtain ⟨b,zs,rfl,hb,hzs⟩:=at_t hz
   refine ⟨_,rfl,a,_,0, .str (Str.ofString "call"),rfl,rfl,SqT.of ha,rfl,rfl,_,rfl,?_⟩
   rw [decide_eq_false (by decide +kernel)]
   refine iteF ?_
   refine ⟨_,rfl,a,_,1, .str x,rfl,rfl,SqT.of ha,rfl,?_⟩
   refine fw ?_
   refine bM rfl ?_
   refine ⟨_,rfl,a,_,2, .ref b,rfl,rfl,SqT.of ha,rfl,b,rfl,⟨zs,SqT.of hb⟩,fun L nL=> ?_⟩
   have zl:=hzs.len
   refine gj (xs:=zs) (fun i acc H'=>Same H H'∧H' L=some (.lst acc)∧acc.length=i∧TrsAt H' acc (((ts.take i).map (valT W)).map frT)) ⟨ad nL,a9,rfl,by simp only [List.take_zero,List.map_nil];exact .nil⟩ (fun i acc H' p=>SqT.of (p.1 _ _ hb)) ?_ ?_
   · rintro i z acc H' hi ez ⟨sH,hL,hl,hA⟩
     obtain ⟨t',et,ht'⟩:=(hzs.mono (Kd.of_same sH)).get' ez
     have mt:=List.mem_of_getElem? et
     have dt':t'.depth≤n:=by
      have:=aQ mt
      simp only [Tr.depth,Trs.depth] at dt
      omega
     refine ⟨_,rfl,_,rfl,z,_,t',W,rfl,ht',hts t' mt,dt',hW.same sH,fun u H6 s6 hu6=> ?_⟩
     have hL6:=s6 _ _ hL
     have kd:=Kd.upd (ys:=acc++ [u]) hL6
     have hL20:(20000:Nat)≤sizeLine:=by decide +kernel
     refine CompN.mk hi (by omega) hL6 ⟨bx nL (sH.trans s6),a9,by simp [hl],?_⟩
     rw [List.take_add_one,et]
     simp only [Option.toList,List.map_append,List.map_cons,List.map_nil]
     exact TrsAt.app (.cons (hu6.mono kd) .nil) (hA.mono ((Kd.of_same s6).trans kd))
   · rintro acc H' ⟨sH,hL,hl,hA⟩
     rw [zl,List.take_length] at hA
     refine ⟨L,acc,rfl, .inl ⟨SqL.of hL,fun q nq=> ?_⟩⟩
     refine ⟨by show 2≤sizeLine;decide,fun q2 nq2=> ?_⟩
     have s1:=ad (o:= .tup acc) nq
     have s2:=ad (o:= .tup [.str x, .ref q]) nq2
     have s12:=sH.trans (s1.trans s2)
     have hq2:TrAt (upd (upd H' q (.tup acc)) q2 (.tup [.str x, .ref q])) (.ref q2) (.tup [.str x, .tup ((ts.map (valT W)).map frT)]):=aO a9 (.cons dF (.cons (aO (s2 _ _ a9) (hA.mono (Kd.of_same (s1.trans s2)))) .nil))
     generalize upd (upd H' q (.tup acc)) q2 (.tup [.str x, .ref q])=H2 at s12 hq2
     refine ⟨_,rfl,r,_,2, .ref C,rfl,rfl,SqT.of (s12 _ _ g1),rfl,C,kC,rfl,g6.kd (Kd.of_same s12) (s12 _ _ g6.at_),_,rfl,by show 2≤sizeLine;decide,fun p np=> ?_⟩
     have sp:=ad (o:= .tup [.int 0, .int 1]) np
     have s3:=s12.trans sp
     refine ⟨q2,_,rfl,g6.kd (Kd.of_same s3) (s3 _ _ g6.at_),ky (hq2.mono (Kd.of_same sp)),?_⟩
     have ek:valT W (.tup [s_ "call", .str x, .tup ts])=W.ca [.lf (.inr x), .tp ((ts.map (valT W)).map frK)]:=by
      rw [nA,gX,List.map_map]
      rfl
     rcases g7 [.lf (.inr x), .tp ((ts.map (valT W)).map frK)] with ⟨u,e1,e2⟩|⟨e1,e2⟩
     · rw [e1]
       exact k u _ s3 (by rw [ek];exact e2.mono (Kd.of_same s3))
     · rw [e1]
       exact k (.ref p) _ s3 (by rw [ek,e2];exact bp a9)
end
open PySem L2 Mth Tre Wd Dj
theorem dy {Z:Ends} {σ:L2.St} {H:Hp} (h:Z.nx σ H):lb Z σ H:=h
theorem qm (bs:List Bool):((bs.any (· ==false))==false)=bs.all id:=by
 induction bs with
 |nil=>rfl
 |cons b bs ih=>
  rw [List.any_cons,List.all_cons,←ih]
  cases b<;>simp
theorem kM (bs:List Bool):((bs.any (· ==true))==true)=bs.any id:=by
 induction bs with
 |nil=>rfl
 |cons b bs ih=>
  rw [List.any_cons,List.any_cons,←ih]
  cases b<;>simp
theorem lM {α:Type} (f:α→Bool) (l:List α):(l.map f).all id=l.all f:=by
 rw [List.all_map]
 rfl
theorem iS {α:Type} (f:α→Bool) (l:List α):(l.map f).any id=l.any f:=by
 rw [List.any_map]
 rfl
theorem eI {H:Hp} {v:V} {p:Fr} (h:TrAt H v (frT p)):∃r,v= .ref r∧H r=some (.tup [.int p.1, .int p.2]):=lR h
theorem lS {t:Tr} (h:Gw t):(∃x,t= .tup [s_ "flag", .str x])∨(∃a b,t= .tup [s_ "like",a,b]∧Ty .tm a∧Ty .tm b∧a.depth≤7∧b.depth≤7)∨(∃ps f,t= .tup [s_ "most", .tup ps,frT f]∧ps.length≤3∧(∀p∈ps,Gp p)∧Gf 900 f)∨
 (∃u,t= .tup [s_ "not",u]∧Gw u)∨(∃l,t= .tup [s_ "both", .tup l]∧l.length≤3∧∀u∈l,Gw u)∨∃l,t= .tup [s_ "either", .tup l]∧l.length≤3∧∀u∈l,Gw u:=by
 cases h with
 |fl x=>exact .inl ⟨x,rfl⟩
 |li a b h1 h2 h3 h4=>exact .inr (.inl ⟨a,b,rfl,h1,h2,h3,h4⟩)
 |mo ps f h1 h2 h3=>exact .inr (.inr (.inl ⟨ps,f,rfl,h1,h2,h3⟩))
 |no u h=>exact .inr (.inr (.inr (.inl ⟨u,rfl,h⟩)))
 |bo l h1 h2=>exact .inr (.inr (.inr (.inr (.inl ⟨l,rfl,h1,h2⟩))))
 |ei l h1 h2=>exact .inr (.inr (.inr (.inr (.inr ⟨l,rfl,h1,h2⟩))))
section
variable {P:Program} {w:World} {K:PySem.W.Frag} {mg:Str→Option Value} {base:Heap}
def k6 (P:Program) (w:World) (K:PySem.W.Frag) (n:Nat):Sp:=fun vs H Q _=>∃(v wv:V) (t:Tr) (W:Wld),vs= [v,wv]∧TrAt H v t∧Gw t∧t.depth≤n∧W.Ok∧WAt P w K H wv W∧∀H',Same H H'→Q (.bl (hold W t)) H'
theorem ge {t:Tr} (h:Gw t):0 < t.depth:=by
 cases h<;>simp [Tr.depth]
theorem scHo:az ["_law_wish","_law_world_here","_law_total","_law_term_here","_law_share_here","_law_kept"] ["_law_wish","_law_world_here"] (af df):=⟨rfl,rfl,rfl,by decide +kernel,rfl,by decide +kernel,by decide +kernel⟩
theorem qY {f fV fP fT:Addr} {fd dV dP dT:FuncData} (F:Fun K "_law_holds" "_law_holds" df f fd) (bF:Binds K fd ["_law_wish","_law_world_here"] []) (mF:mg "_law_holds"=some (.ref f)) (B:Blt mg)
 (gV:FnOk P w K mg base CX0 9 fV dV ["_law_term_here","_law_world_here"] (o7 P w K 8)) (kV:PySem.W.keepIn K (.ref fV)=true) (bV:Binds K dV ["_law_term_here","_law_world_here"] []) (mV:mg "_law_value"=some (.ref fV))
 (gP:FnOk P w K mg base CX0 2 fP dP ["one","other"] (fE K)) (kP:PySem.W.keepIn K (.ref fP)=true) (bP:Binds K dP ["one","other"] []) (mP:mg "plus"=some (.ref fP))
 (gT:FnOk P w K mg base CX0 2 fT dT ["one","other"] (iH K)) (kT:PySem.W.keepIn K (.ref fT)=true) (bT:Binds K dT ["one","other"] []) (mT:mg "times"=some (.ref fT)):
 ∀n,FnOk P w K mg base CX0 (n+9) f fd ["_law_wish","_law_world_here"] (k6 P w K n):=by
 intro n
 induction n with
 |zero=>exact ⟨fun vs H Q E ⟨_,_,_,_,_,_,h,d,_⟩=>absurd (ge h) (by omega),fun A outer s H args us vs Q E _ _ _ _ ⟨_,_,_,_,_,_,h,d,_⟩=>absurd (ge h) (by omega)⟩
 |succ n ih=>
  refine F.ok scHo (fun vs H Q E h=> ?_) (fun cdv A outer s H vs Q E hr h=> ?_)
  · obtain ⟨v,wv,t,W,rfl,_⟩:=h
    rfl
  obtain ⟨v,wv,t,W,rfl,hv,gw,dt,hok,hW,k⟩:=h
  have hun:=hr.units
  have hu1:=jH hr
  have hr9:Room 9 _:=hr.mono (by omega)
  have hr2:Room 2 _:=hr.mono (by omega)
  have hu50:_+50 < cLine:=Nat.lt_of_le_of_lt (Nat.add_le_add_left (by decide) _) hun
  refine ⟨_,ae (aI (ar aP (ao aq (pv 0) ac fun _ _=>rfl) aM (au _)) (ag (am (ju hu1 (ao aq (pv 1) ac fun _ _=>rfl) (ao aq (pv 0) ac fun _ _=>rfl) aY ⟨rfl,rfl,rfl,rfl⟩))) ak)
   (ae (aI (ar aP (ao aq (pv 0) ac fun _ _=>rfl) aM (au _)) (ag (am (aW (tQ hu1) (ah gV hr9 rfl mV kV bV .nil aj (a8 (ao aq (pv 0) ac fun _ _=>rfl) (a8 (pv 1) aa))) (ah gV hr9 rfl mV kV bV .nil aj (a8 (ao aq (pv 0) ac fun _ _=>rfl) (a8 (pv 1) aa))) (au _)))) ak)
   (ae (aI (ar aP (ao aq (pv 0) ac fun _ _=>rfl) aM (au _))
    (ae (aH (i:=2) scHo.nd rfl (Or.inl rfl) (aw (a8 ac (a8 ac aa))))
    (ae (cJ PassesOwn.never rfl (fK (ao aq (pv 0) ac fun _ _=>rfl)) (fM rfl (br (aK (i:=3) scHo.nd rfl (Or.inl rfl)) (br (aK (i:=4) scHo.nd rfl (Or.inl rfl)) e6)))
     (ag (aH (i:=2) scHo.nd rfl (Or.inl rfl) (ah gP hr2 rfl mP kP bP .nil aj (a8 (pv 2) (a8 (ah gT hr2 rfl mT kT bT .nil aj (a8 (pv 4) (a8 (ah gV hr9 rfl mV kV bV .nil aj (a8 (pv 3) (a8 (pv 1) aa))) aa))) aa))))))
    (ag (am (aW oI (aE bn (ao aq (pv 2) ac fun _ _=>rfl) (ao aq (ao aq (pv 0) ac fun _ _=>rfl) ac fun _ _=>rfl)) (aE bn (ao aq (ao aq (pv 0) ac fun _ _=>rfl) ac fun _ _=>rfl) (ao aq (pv 2) ac fun _ _=>rfl)) (au _)))))) ak)
   (ae (aI (ar aP (ao aq (pv 0) ac fun _ _=>rfl) aM (au _)) (ag (am (tN (ah ih hr rfl mF F.kp bF .nil aj (a8 (ao aq (pv 0) ac fun _ _=>rfl) (a8 (pv 1) aa)))))) ak)
   (ae (lD (NC:= ["_law_one","_law_world_here"]) (mp:= [none,some 1]) (i:=5) rfl scHo.nd rfl rfl rfl (fK (ao aq (pv 0) ac fun _ _=>rfl)) (fun _ _ _ _ _=>aK (i:=0) (show (["_law_one","_law_world_here"]:List Str).Nodup by decide +kernel) rfl (Or.inl rfl)) (fun _ _ _ _ _=>bK)
    (fun _ _ _ _ _=>ah ih hr rfl mF F.kp bF .nil aj (a8 (pv 0) (a8 (pv 1) aa))))
   (ae (aI (ar aP (ao aq (pv 0) ac fun _ _=>rfl) aM (au _)) (ag (am (aW (lJ hu50) aY (pv 5) (by with_unfolding_all rfl)))) ak)
   (ag (am (aW (ke hu50) aY (pv 5) (by with_unfolding_all rfl))))))))),?_⟩
  have hW':=hW
  obtain ⟨r,F',D,C,kF,kV',kC,rfl,g1,⟨g2,g3⟩,⟨g4,g5⟩,g6,g7⟩:=hW'
  have hL20:(20000:Nat)≤sizeLine:=by decide +kernel
  rcases lS gw with ⟨x,rfl⟩|⟨ta,tb,rfl,tya,tyb,da,db⟩|⟨ps,f0,rfl,pl,hps,hf0⟩|⟨u,rfl,gu⟩|hbe
  ·
   obtain ⟨a,y,rfl,ha,hy⟩:=at2 hv
   cases at_s hy
   refine ⟨_,rfl,a,_,0, .str (Str.ofString "flag"),rfl,rfl,SqT.of ha,rfl,rfl,_,rfl,?_⟩
   rw [decide_eq_true rfl]
   refine iteT ?_
   refine ⟨_,rfl,r,_,0, .ref F',rfl,rfl,SqT.of g1,rfl,F',rfl, .inl ⟨kF, .inl g2⟩,_,rfl,a,_,1, .str x,rfl,rfl,SqT.of ha,rfl,_,DGet.k (k:=Sum.inr x) g2,?_⟩
   rw [g3 x]
   have:=k H (Same.refl _)
   rw [n8] at this
   exact this
  ·
   obtain ⟨a,y,z,rfl,ha,hy,hz⟩:=at3 hv
   refine ⟨_,rfl,a,_,0, .str (Str.ofString "like"),rfl,rfl,SqT.of ha,rfl,rfl,_,rfl,?_⟩
   rw [decide_eq_false (by decide +kernel)]
   refine iteF ?_
   refine ⟨_,rfl,a,_,0, .str (Str.ofString "like"),rfl,rfl,SqT.of ha,rfl,rfl,_,rfl,?_⟩
   rw [decide_eq_true rfl]
   refine iteT ?_
   refine ⟨_,rfl,a,_,1,y,rfl,rfl,SqT.of ha,rfl,_,rfl,y,_,ta,W,rfl,hy,tya,by omega,hW,fun u H1 s1 hu1=> ?_⟩
   refine ⟨_,rfl,a,_,2,z,rfl,rfl,SqT.of (s1 _ _ ha),rfl,_,rfl,z,_,tb,W,rfl,hz.mono (Kd.of_same s1),tyb,by omega,hW.same s1,fun u2 H2 s2 hu2=> ?_⟩
   obtain ⟨q1,rfl,e1⟩:=eI hu1
   obtain ⟨q2,rfl,e2⟩:=eI hu2
   refine ⟨q1,q2,_,_,_,_,rfl,rfl,SqT.of (s2 _ _ e1),SqT.of e2,?_⟩
   have:=k H2 (s1.trans s2)
   rw [f9] at this
   have ee:decide ((valT W ta).1=(valT W tb).1∧(valT W ta).2=(valT W tb).2)=decide (valT W ta=valT W tb):=by
    rw [decide_eq_decide,Prod.ext_iff]
   rw [ee]
   exact this
  ·
   obtain ⟨a,y,z,rfl,ha,hy,hz⟩:=at3 hv
   obtain ⟨b,ys,rfl,hb,hys⟩:=at_t hy
   obtain ⟨q0,rfl,e0⟩:=eI hz
   refine ⟨_,rfl,a,_,0, .str (Str.ofString "most"),rfl,rfl,SqT.of ha,rfl,rfl,_,rfl,?_⟩
   rw [decide_eq_false (by decide +kernel)]
   refine iteF ?_
   refine ⟨_,rfl,a,_,0, .str (Str.ofString "most"),rfl,rfl,SqT.of ha,rfl,rfl,_,rfl,?_⟩
   rw [decide_eq_false (by decide +kernel)]
   refine iteF ?_
   refine ⟨_,rfl,a,_,0, .str (Str.ofString "most"),rfl,rfl,SqT.of ha,rfl,rfl,_,rfl,?_⟩
   rw [decide_eq_true rfl]
   refine iteT ?_
   refine ⟨by show 2≤sizeLine;decide,fun p0 np0=> ?_⟩
   have sp0:=ad (o:= .tup [.int 0, .int 1]) np0
   have yl:=hys.len
   refine ⟨_,rfl,a,_,1, .ref b,rfl,rfl,SqT.of (sp0 _ _ ha),rfl,b,rfl,⟨ys,SqT.of (sp0 _ _ hb)⟩,?_⟩
   refine rJ (xs:=ys) (fun i σ H'=>Same H H'∧∃rt v3 v4,σ= [some (.ref a),some (.ref r),some (.ref rt),v3,v4,none]∧H' rt=some (.tup [.int ((ps.take i).foldl (sum1 W) zero).1, .int ((ps.take i).foldl (sum1 W) zero).2])∧Gf (200+i*804) ((ps.take i).foldl (sum1 W) zero))
    ⟨sp0,p0,none,none,rfl,a9,by simpa using lT⟩ (fun i σ H' _ p=>SqT.of (p.1 _ _ hb)) ?_ ?_
   · rintro i x σ H1 ex ⟨s1,rt,v3,v4,rfl,hrt,hg⟩
     obtain ⟨pr,epr,hpr⟩:=(hys.mono (Kd.of_same s1)).get' ex
     have ilt:i < ps.length:=(List.getElem?_eq_some_iff.mp epr).1
     have gp:=hps pr (List.mem_of_getElem? epr)
     have e1:(ps.take (i+1)).foldl (sum1 W) zero=sum1 W ((ps.take i).foldl (sum1 W) zero) pr:=by
      rw [List.take_add_one,epr]
      simp only [Option.toList,List.foldl_append,List.foldl_cons,List.foldl_nil]
     have hg1:=qF hok hg gp
     rw [←e1] at hg1
     rw [e1] at hg1 ⊢
     have hg1':Gf (200+(i+1)*804) (sum1 W ((ps.take i).foldl (sum1 W) zero) pr):=hg1.mono (by omega)
     generalize (ps.take i).foldl (sum1 W) zero=acc at*
     obtain ⟨tm,fr,rfl,tytm,dtm,gfr⟩:=gp
     obtain ⟨pq,xt,xf,rfl,hpq,hxt,hxf⟩:=dg hpr
     obtain ⟨qf,rfl,hqf⟩:=eI hxf
     refine ⟨pq,_,rfl,SqT.of hpq,rfl,_,_,rfl,_,_,rfl,rfl,?_⟩
     refine ⟨_,rfl,_,rfl,_,rfl,_,rfl,xt,_,tm,W,rfl,hxt,tytm,by omega,hW.same s1,fun u H2 s2 hu=> ?_⟩
     obtain ⟨qu,rfl,hqu⟩:=eI hu
     have gv:=kY hok tm
     have bg:∀ {e:Nat} {z:Int},Lt2 e z→e≤8000→Big z:=fun h1 h2=>h1.big h2
     have i3:i≤2:=by omega
     refine ⟨qf,qu,fr.1,fr.2,(valT W tm).1,(valT W tm).2,rfl,SqT.of (s2 _ _ hqf),SqT.of hqu,⟨gfr.pos,gv.pos,gfr.top.big (by decide),gfr.bot.big (by decide),gv.top.big (by decide),gv.bot.big (by decide)⟩,fun rm H3 _ s3 hrm=> ?_⟩
     have gm:=gfr.times gv
     refine ⟨rt,rm,acc.1,acc.2,_,_,rfl,SqT.of (s3 _ _ (s2 _ _ hrt)),SqT.of hrm,⟨hg.pos,gm.pos,hg.top.big (by omega),hg.bot.big (by omega),gm.top.big (by decide),gm.bot.big (by decide)⟩,fun rp H4 _ s4 hrp=> ?_⟩
     exact ⟨s1.trans (s2.trans (s3.trans s4)),rp,_,_,rfl,hrp,hg1'⟩
   · rintro σ H1 ⟨s1,rt,v3,v4,rfl,hrt,hg⟩
     rw [yl,List.take_length] at hrt hg
     have es:ps.foldl (sum1 W) zero=sumT W ps:=rfl
     rw [es] at hrt hg
     have hk:=k H1 s1
     rw [ii] at hk
     generalize sumT W ps=tot at*
     refine ⟨_,rfl,rt,_,0,_,rfl,rfl,SqT.of hrt,rfl,_,rfl,a,_,2, .ref q0,rfl,rfl,SqT.of (s1 _ _ ha),rfl,q0,_,1,_,rfl,rfl,SqT.of (s1 _ _ e0),rfl,_,_,rfl,rfl,⟨hg.top.big (by omega),hf0.bot.big (by decide)⟩,
      _,rfl,a,_,2, .ref q0,rfl,rfl,SqT.of (s1 _ _ ha),rfl,q0,_,0,_,rfl,rfl,SqT.of (s1 _ _ e0),rfl,_,rfl,rt,_,1,_,rfl,rfl,SqT.of hrt,rfl,_,_,rfl,rfl,⟨hf0.top.big (by decide),hg.bot.big (by omega)⟩,_,_,rfl,rfl,hk⟩
  ·
   obtain ⟨a,y,rfl,ha,hy⟩:=at2 hv
   refine ⟨_,rfl,a,_,0, .str (Str.ofString "not"),rfl,rfl,SqT.of ha,rfl,rfl,_,rfl,?_⟩
   rw [decide_eq_false (by decide +kernel)]
   refine iteF ?_
   refine ⟨_,rfl,a,_,0, .str (Str.ofString "not"),rfl,rfl,SqT.of ha,rfl,rfl,_,rfl,?_⟩
   rw [decide_eq_false (by decide +kernel)]
   refine iteF ?_
   refine ⟨_,rfl,a,_,0, .str (Str.ofString "not"),rfl,rfl,SqT.of ha,rfl,rfl,_,rfl,?_⟩
   rw [decide_eq_false (by decide +kernel)]
   refine iteF ?_
   refine ⟨_,rfl,a,_,0, .str (Str.ofString "not"),rfl,rfl,SqT.of ha,rfl,rfl,_,rfl,?_⟩
   rw [decide_eq_true rfl]
   refine iteT ?_
   have du:u.depth≤n:=by
    simp only [Tr.depth,Trs.depth] at dt
    omega
   refine ⟨_,rfl,a,_,1,y,rfl,rfl,SqT.of ha,rfl,_,rfl,y,_,u,W,rfl,hy,gu,du,hok,hW,fun H1 s1=>⟨_,rfl,?_⟩⟩
   have:=k H1 s1
   rw [pf] at this
   exact this
  ·
   obtain ⟨kd,l,et,ekd,ll,hl⟩:∃(kd:Str) (l:List Tr),t= .tup [.str kd, .tup l]∧(kd=Str.ofString "both"∨kd=Str.ofString "either")∧l.length≤3∧∀u∈l,Gw u:=by
    rcases hbe with ⟨l,e,h1,h2⟩|⟨l,e,h1,h2⟩
    · exact ⟨_,l,e, .inl rfl,h1,h2⟩
    · exact ⟨_,l,e, .inr rfl,h1,h2⟩
   subst et
   obtain ⟨a,y,rfl,ha,hy⟩:=at2 hv
   obtain ⟨b,ys,rfl,hb,hys⟩:=at_t hy
   have yl:=hys.len
   have n1:¬V.str kd=V.str (Str.ofString "flag"):=by rcases ekd with rfl|rfl<;>decide +kernel
   have n2:¬V.str kd=V.str (Str.ofString "like"):=by rcases ekd with rfl|rfl<;>decide +kernel
   have n3:¬V.str kd=V.str (Str.ofString "most"):=by rcases ekd with rfl|rfl<;>decide +kernel
   have n4:¬V.str kd=V.str (Str.ofString "not"):=by rcases ekd with rfl|rfl<;>decide +kernel
   refine ⟨_,rfl,a,_,0, .str kd,rfl,rfl,SqT.of ha,rfl,rfl,_,rfl,?_⟩
   rw [decide_eq_false n1]
   refine iteF ?_
   refine ⟨_,rfl,a,_,0, .str kd,rfl,rfl,SqT.of ha,rfl,rfl,_,rfl,?_⟩
   rw [decide_eq_false n2]
   refine iteF ?_
   refine ⟨_,rfl,a,_,0, .str kd,rfl,rfl,SqT.of ha,rfl,rfl,_,rfl,?_⟩
   rw [decide_eq_false n3]
   refine iteF ?_
   refine ⟨_,rfl,a,_,0, .str kd,rfl,rfl,SqT.of ha,rfl,rfl,_,rfl,?_⟩
   rw [decide_eq_false n4]
   refine iteF ?_
   refine dy ?_
   dsimp only
   refine qy rfl ?_
   refine ⟨_,rfl,a,_,1, .ref b,rfl,rfl,SqT.of ha,rfl,b,rfl,⟨ys,SqT.of hb⟩,fun L nL=> ?_⟩
   refine gj (xs:=ys) (fun i acc H'=>Same H H'∧H' L=some (.lst acc)∧acc=((l.take i).map (hold W)).map V.bl) ⟨ad nL,a9,by simp⟩ (fun i acc H' p=>SqT.of (p.1 _ _ hb)) ?_ ?_
   · rintro i z acc H' hi ez ⟨sH,hL,rfl⟩
     obtain ⟨t',et,ht'⟩:=(hys.mono (Kd.of_same sH)).get' ez
     have mt:=List.mem_of_getElem? et
     have dt':t'.depth≤n:=by
      have:=aQ mt
      simp only [Tr.depth,Trs.depth] at dt
      omega
     refine ⟨_,rfl,_,rfl,z,_,t',W,rfl,ht',hl t' mt,dt',hok,hW.same sH,fun H6 s6=> ?_⟩
     refine CompN.mk hi ?_ (s6 _ _ hL) ⟨bx nL (sH.trans s6),a9,?_⟩
     · rw [List.length_map,List.length_map,List.length_take]
       omega
     · rw [List.take_add_one,et]
       simp only [Option.toList,List.map_append,List.map_cons,List.map_nil]
   · rintro acc H' ⟨sH,hL,rfl⟩
     rw [yl,List.take_length] at hL
     have hk:=k H' sH
     refine ⟨_,rfl,a,_,0, .str kd,rfl,rfl,SqT.of (sH _ _ ha),rfl,rfl,_,rfl,?_⟩
     rcases ekd with rfl|rfl
     · rw [decide_eq_true rfl]
       refine iteT ?_
       refine ⟨_,rfl,L,_,_, .bl false,rfl, .inl hL,gy,by unfold TrAt;rfl,dl,by simp [Tr.pure],?_⟩
       rw [eF,qm,lM]
       rw [n9] at hk
       exact hk
     · rw [decide_eq_false (by decide +kernel)]
       refine iteF ?_
       refine ⟨_,rfl,L,_,_, .bl true,rfl, .inl hL,gy,by unfold TrAt;rfl,dl,by simp [Tr.pure],?_⟩
       rw [eF,kM,iS]
       rw [jI] at hk
       exact hk
end
open PySem L2 Mth Tre Wd Dj
theorem l7 {r:R2} {v:V} {tb:TE} {Z:Ends} {σ:L2.St} {H:Hp} (h:tb σ H fun y H2=>r v y H2 Z.rt):tRet (tOp r (tC v) tb) Z σ H:=h
theorem bJ (W:Wld) (t:Tr) (b:Bool):lith W (.tup [t, .bl b])=(hold W t==b):=rfl
section
variable {P:Program} {w:World} {K:PySem.W.Frag} {mg:Str→Option Value} {base:Heap}
def iJ (P:Program) (w:World) (K:PySem.W.Frag) (m n:Nat):Sp:=fun vs H Q _=>∃(v wv:V) (ts:List Tr) (W:Wld),vs= [v,wv]∧TrAt H v (.tup ts)∧ts.length≤m∧(∀t∈ts,Wd.Gl t∧t.depth≤n+1)∧W.Ok∧WAt P w K H wv W∧∀H',Same H H'→Q (.bl (rowh W ts)) H'
theorem scRt:az ["_law_row_here","_law_world_here"] ["_law_row_here","_law_world_here"] (af eR):=⟨rfl,rfl,rfl,by decide +kernel,rfl,by decide +kernel,by decide +kernel⟩
theorem oO {n:Nat} {f fH:Addr} {fd dH:FuncData} (F:Fun K "_law_row_true" "_law_row_true" eR f fd)
 (gH:FnOk P w K mg base CX0 (n+9) fH dH ["_law_wish","_law_world_here"] (k6 P w K n)) (kH:PySem.W.keepIn K (.ref fH)=true) (bH:Binds K dH ["_law_wish","_law_world_here"] []) (mH:mg "_law_holds"=some (.ref fH)):
 FnOk P w K mg base CX0 (n+10) f fd ["_law_row_here","_law_world_here"] (iJ P w K 64 n):=by
 refine F.ok scRt (fun vs H Q E h=> ?_) (fun cdv A outer s H vs Q E hr h=> ?_)
 · obtain ⟨v,wv,ts,W,rfl,_⟩:=h
   rfl
 obtain ⟨v,wv,ts,W,rfl,hv,hlen,hts,hok,hW,k⟩:=h
 have hun:=hr.units
 have hu50:_+50 < cLine:=Nat.lt_of_le_of_lt (Nat.add_le_add_left (by decide) _) hun
 refine ⟨_,ag (am (aW (ke hu50) aY (c9 (NC:= ["_law_one","_law_truth","_law_world_here"]) (mp:= [none,none,some 1]) (g:=gTup K 2 (cW (aV 0) (cW (aV 1) gNil))) rfl (fK (pv 0))
  (fun _ _ _ _ _=>fM (n:=2) rfl (br (aK (i:=0) (show (["_law_one","_law_truth","_law_world_here"]:List Str).Nodup by decide +kernel) rfl (Or.inl rfl) (Or.inr rfl)) (br (aK (i:=1) (show (["_law_one","_law_truth","_law_world_here"]:List Str).Nodup by decide +kernel) rfl (Or.inl rfl) (Or.inr rfl)) e6))) (fun _ _ _ _ _=>bK)
  (fun _ _ _ _ _=>aW aP (ah gH hr rfl mH kH bH .nil aj (a8 (pv 0) (a8 (pv 2) aa))) (pv 1) (au _))) (by with_unfolding_all rfl))),?_⟩
 have hL20:(20000:Nat)≤sizeLine:=by decide +kernel
 obtain ⟨a,xs,rfl,ha,hxs⟩:=at_t hv
 have xl:=hxs.len
 refine l7 ?_
 refine pR (xs:=xs) (rest:= [some wv]) (a:=a) rfl (fun Q q=>⟨_,rfl,q⟩) (SqT.of ha) fun L nL=> ?_
 refine ⟨fun i acc H'=>Same H H'∧H' L=some (.lst acc)∧acc=((ts.take i).map (lith W)).map V.bl,⟨ad nL,a9,by simp⟩,fun i acc H' p=>SqT.of (p.1 _ _ ha),?_,?_⟩
 · rintro i z acc H' hi ⟨sH,hL,rfl⟩ ez
   obtain ⟨t',et,ht'⟩:=(hxs.mono (Kd.of_same sH)).get' ez
   have mt:=List.mem_of_getElem? et
   obtain ⟨gl,dt'⟩:=hts t' mt
   cases gl with
   |mk t b gw=>
    obtain ⟨T,x,y,rfl,hT,hx,hy⟩:=dg ht'
    unfold TrAt at hy
    subst hy
    have dt:t.depth≤n:=by
     simp only [Tr.depth,Trs.depth] at dt'
     omega
    refine ⟨T,x, .bl b,rfl,SqT.of hT,?_⟩
    refine ⟨_,rfl,_,rfl,x,wv,t,W,rfl,hx,gw,dt,hok,hW.same sH,fun H6 s6=> ?_⟩
    refine ⟨_,rfl,rfl,?_⟩
    refine CompN.mk hi ?_ (s6 _ _ hL) ⟨bx nL (sH.trans s6),a9,?_⟩
    · rw [List.length_map,List.length_map,List.length_take]
      omega
    · rw [List.take_add_one,et,kJ]
      simp only [Option.toList,List.map_append,List.map_cons,List.map_nil,bJ]
 · rintro acc H' ⟨sH,hL,rfl⟩
   rw [xl,List.take_length] at hL
   refine ⟨L,_,_, .bl true,rfl, .inl hL,gy,by unfold TrAt;rfl,dl,by simp [Tr.pure],?_⟩
   rw [eF,kM,iS]
   exact k H' sH
end
end K27
namespace Tre
open PySem L2
theorem pN:∀(n:Nat) (us:List Tr),us.length=n→∀u∈dd us,u∈us:=by
 intro n
 induction n with
 |zero=>
  intro us hl u m
  have:us= []:=List.eq_nil_of_length_eq_zero hl
  subst this
  exact m
 |succ n ih=>
  intro us hl u m
  obtain ⟨qs,t,rfl⟩:∃qs t,us=qs++ [t]:=by
   have hne:us≠ []:=fun z=>by rw [z] at hl;simp at hl
   exact ⟨us.dropLast,us.getLast hne,(List.dropLast_concat_getLast hne).symm⟩
  rw [List.length_append,List.length_singleton] at hl
  rw [cL] at m
  rcases rP m with m|rfl
  · exact List.mem_append_left _ (ih qs (by omega) u m)
  · simp
theorem uv:∀(n:Nat) (us:List Tr),us.length=n→(dd us).length≤n:=by
 intro n
 induction n with
 |zero=>
  intro us hl
  have:us= []:=List.eq_nil_of_length_eq_zero hl
  subst this
  exact Nat.le_refl _
 |succ n ih=>
  intro us hl
  obtain ⟨qs,t,rfl⟩:∃qs t,us=qs++ [t]:=by
   have hne:us≠ []:=fun z=>by rw [z] at hl;simp at hl
   exact ⟨us.dropLast,us.getLast hne,(List.dropLast_concat_getLast hne).symm⟩
  rw [List.length_append,List.length_singleton] at hl
  rw [cL]
  have:=rQ (dd qs) t
  have:=ih qs (by omega)
  omega
end Tre
namespace K27
open PySem L2 Mth Tre Wd Dj
structure S (Ok:Tr→Prop) (H:Hp) (tp c nl L:Addr) (n:Nat) (ts:List Tr):Prop where
 tape:TapeAt H tp c n
 names:Names H nl
 nt:nl≠tp
 lt:L≠tp
 lc:L≠c
 ln:nl≠L
 lst:∃vs,H L=some (.lst vs)∧TrsAt H vs ts
 ok:∀t∈ts,Ok t
theorem S.but {Ok:Tr→Prop} {H H':Hp} {tp c nl L:Addr} {n m:Nat} {ts:List Tr} (h:S Ok H tp c nl L n ts) (b:But tp H H') (hT:TapeAt H' tp c m):S Ok H' tp c nl L m ts:=by
 obtain ⟨vs,e,ht⟩:=h.lst
 exact ⟨hT,h.names.but h.nt b,h.nt,h.lt,h.lc,h.ln,⟨vs,b _ _ h.lt e,ht.mono (b.kd h.tape hT)⟩,h.ok⟩
theorem S.same {Ok:Tr→Prop} {H H':Hp} {tp c nl L:Addr} {n:Nat} {ts:List Tr} (h:S Ok H tp c nl L n ts) (s:Same H H'):S Ok H' tp c nl L n ts:=h.but (But.of_same s) (h.tape.same s)
theorem S.mono {Ok:Tr→Prop} {H:Hp} {tp c nl L:Addr} {n m:Nat} {ts:List Tr} (h:S Ok H tp c nl L n ts) (hn:n≤m):S Ok H tp c nl L m ts:=h.but (But.of_same (Same.refl _)) (h.tape.mono hn)
theorem S.wr {Ok:Tr→Prop} {H:Hp} {tp c nl L:Addr} {n:Nat} {ts ts':List Tr} {vs':List V} (h:S Ok H tp c nl L n ts) (ht:TrsAt H vs' ts') (ok:∀t∈ts',Ok t):S Ok (upd H L (.lst vs')) tp c nl L n ts':=by
 obtain ⟨vs,e,_⟩:=h.lst
 obtain ⟨x,y,z,en,rn⟩:=h.names
 exact ⟨h.tape.wr ⟨h.lt,h.lc⟩,⟨x,y,z,(ai h.ln).trans en,rn⟩,h.nt,h.lt,h.lc,h.ln,⟨vs',a9,ht.mono (Kd.upd e)⟩,ok⟩
theorem S.push {Ok:Tr→Prop} {H:Hp} {tp c nl L:Addr} {n:Nat} {ts:List Tr} {t:Tr} {vs:List V} {v:V} (h:S Ok H tp c nl L n ts) (e:H L=some (.lst vs)) (hv:TrAt H v t) (ok:Ok t):S Ok (upd H L (.lst (vs++ [v]))) tp c nl L n (ts++ [t]):=by
 obtain ⟨vs',e',ht⟩:=h.lst
 rw [e] at e'
 cases e'
 refine h.wr (TrsAt.app (.cons hv .nil) ht) fun u m=> ?_
 rcases List.mem_append.mp m with m|m
 · exact h.ok u m
 · rw [List.mem_singleton.mp m]
   exact ok
open PySem L2 Mth Tre Wd Dj
open Classical in
noncomputable def rowT (ts:List Tr):Tr:=if h:∃us:List Tr,us.Perm ts∧Rise us then .tup (dd (Classical.choose h)) else .tup []
theorem qJ {k:So} {ts us:List Tr} (pm:us.Perm ts) (hr:Rise us) (ty:∀t∈ts,Ty k t):rowT ts= .tup (dd us):=by
 have h:∃us:List Tr,us.Perm ts∧Rise us:=⟨us,pm,hr⟩
 unfold rowT
 rw [dif_pos h]
 have e:Classical.choose h=us:=lA (k:=k) ((Classical.choose_spec h).1.trans pm.symm) (Classical.choose_spec h).2 hr fun t m=>ty t ((Classical.choose_spec h).1.mem_iff.mp m)
 rw [e]
theorem uq:∀(n:Nat) (us:List Tr),us.length=n→∀x∈us,((dn us).any fun u=>eqT u x)=true:=by
 intro n
 induction n with
 |zero=>
  intro us hl x m
  have:us= []:=List.eq_nil_of_length_eq_zero hl
  subst this
  cases m
 |succ n ih=>
  intro us hl x m
  obtain ⟨qs,t,rfl⟩:∃qs t,us=qs++ [t]:=by
   have hne:us≠ []:=fun z=>by rw [z] at hl;simp at hl
   exact ⟨us.dropLast,us.getLast hne,(List.dropLast_concat_getLast hne).symm⟩
  rw [List.length_append,List.length_singleton] at hl
  rw [j3]
  unfold dn1
  rcases List.mem_append.mp m with m|m
  · have:=ih qs (by omega) x m
    split
    · exact this
    · rw [List.any_append,this,Bool.true_or]
  · rw [List.mem_singleton.mp m]
    split
    · assumption
    · rw [List.any_append]
      simp [eA]
structure ix (ts rs:List Tr):Prop where
 eq:rowT ts= .tup rs
 len:rs.length≤ts.length
 mem:∀x,x∈rs↔x∈ts
theorem su {ts us:List Tr} (pm:us.Perm ts) (hr:Rise us) (ty:∀t∈ts,Ty .lt t):ix ts (dd us):=by
 have tyu:∀t∈us,Ty .lt t:=fun t m=>ty t (pm.mem_iff.mp m)
 refine ⟨qJ pm hr ty,?_,fun x=>⟨fun m=>pm.mem_iff.mp (pN us.length us rfl x m),fun m=> ?_⟩⟩
 · have:=uv us.length us rfl
   have:=pm.length_eq
   omega
 · have mu:=pm.mem_iff.mpr m
   have h1:=uq us.length us rfl x mu
   rw [(sU (k:= .lt) hr tyu).1] at h1
   obtain ⟨u,m2,e⟩:=List.any_eq_true.mp h1
   have:=iz (tyu u (pN us.length us rfl u m2)) (tyu x mu) e
   rw [←this]
   exact m2
theorem qI {ts rs:List Tr} (h:ix ts rs) (W:Wld):rowh W rs=ts.any (lith W):=by
 unfold rowh
 rw [Bool.eq_iff_iff,List.any_eq_true,List.any_eq_true]
 exact ⟨fun ⟨x,m,e⟩=>⟨x,(h.mem x).mp m,e⟩,fun ⟨x,m,e⟩=>⟨x,(h.mem x).mpr m,e⟩⟩
def litT (t:Tr) (b:Bool):Tr:= .tup [t, .bl b]
theorem rF {t:Tr} {b:Bool} {n:Nat} (h:Gw t) (hd:t.depth≤n):Wd.Gl (litT t b)∧(litT t b).depth≤n+1:=by
 refine ⟨.mk t b h,?_⟩
 simp only [litT,Tr.depth,Trs.depth]
 omega
section
variable {P:Program} {w:World} {K:PySem.W.Frag} {mg:Str→Option Value} {base:Heap}
def eK:Sp:=fun vs H Q _=>∃(l:Addr) (ws:List V) (ts:List Tr),vs= [.ref l]∧H l=some (.lst ws)∧TrsAt H ws ts∧ts.length < 64∧(∀t∈ts,Ty .lt t∧t.depth≤30)∧∀(v:V) (H':Hp) (rs:List Tr),Same H H'→ix ts rs→TrAt H' v (.tup rs)→Q v H'
theorem on {k:Nat} {f:Addr} {fd:FuncData} (g:FnOk P w K mg base CX0 k f fd ["literals"] sf):FnOk P w K mg base CX0 k f fd ["literals"] eK:=g.imp fun vs H Q E ⟨l,ws,ts,e,h1,h2,h3,h4,kk⟩=>
 ⟨l,ws,ts,e,h1,h2,h3,h4,fun v H' us s pm srt hv=>kk v H' (dd us) s (su pm srt fun t m=>(h4 t m).1) hv⟩
theorem scLr:az ["_law_literals","_law_kept","_law_one"] ["_law_literals"] (af i7):=⟨rfl,rfl,rfl,by decide +kernel,rfl,by decide +kernel,by decide +kernel⟩
theorem qW {f:Addr} {fd:FuncData} (F:Fun K "_law_row" "_law_row" i7 f fd) (B:Blt mg):FnOk P w K mg base CX0 1 f fd ["_law_literals"] eK:=by
 refine F.ok scLr (fun vs H Q E h=> ?_) (fun cdv A outer s H vs Q E hr h=> ?_)
 · obtain ⟨l,ws,ts,rfl,_⟩:=h
   rfl
 obtain ⟨l,ws,ts,rfl,hl,hT,hn,hty,k⟩:=h
 have hun:=hr.units
 refine ⟨_,ae (aH (i:=1) scLr.nd rfl (Or.inl rfl) (bq aa))
  (ae (cJ PassesOwn.never rfl (cm (aB (cp (Nat.lt_of_le_of_lt (Nat.add_le_add_left (by decide) _) hun)) rfl B.so boot_sorted (a8 (pv 0) aa))) (aK (i:=2) scLr.nd rfl (Or.inl rfl))
   (ag (aI (ar (lJ (Nat.lt_of_le_of_lt (Nat.add_le_add_left (by decide) _) hun)) (pv 2) (pv 1) (by with_unfolding_all rfl))
    (ag (fm (jv PySem.F.plainAttrs_list PySem.F.slot_list_append PySem.F.type_list_append cC (pv 1) (a8 (pv 2) aa)))) ak)))
  (ag (am (bE aT rfl B.tu PyProof.Rows.boot_tuple (a8 (pv 1) aa))))),?_⟩
 have hL:(20000:Nat)≤sizeLine:=by decide +kernel
 refine ⟨by show 0≤sizeLine;decide,fun D nD=> ?_⟩
 have s8:Same H (upd H D (.lst [])):=ad nD
 refine ⟨_,rfl,l,ws,ts,rfl,s8 _ _ hl,hT.mono (Kd.of_same s8),hn,fun t mt=>⟨kZ (.inl (hty t mt).1),c8 (hty t mt).1,by have:=(hty t mt).2;omega⟩,fun t mt u mu=>l5 30 (hty t mt).2 (hty t mt).1 (hty u mu).1,fun Z ws' us nZ pm hT' srt=> ?_⟩
 have s9:=ad (o:= .lst ws') nZ
 have nDZ:D≠Z:=fun z=>by rw [←z,a9] at nZ;cases nZ
 have ul:us.length=ts.length:=pm.length_eq
 have wl:=hT'.len
 have hty':∀t∈us,Ty .lt t∧t.depth≤30:=fun t mt=>hty t (pm.mem_iff.mp mt)
 refine ⟨Z,rfl,⟨ws',SqL.of a9⟩,?_⟩
 refine cD (xs:=ws') (fun i σ H'=>Same H H'∧H' Z=some (.lst ws')∧TrsAt H' ws' us∧∃rs vi,σ= [some (.ref l),some (.ref D),vi]∧H' D=some (.lst rs)∧TrsAt H' rs (dn (us.take i))∧(∀t∈dn (us.take i),t∈us)∧(dn (us.take i)).length≤i)
  ⟨s8.trans s9,a9,hT'.mono (Kd.of_same s9),[],none,rfl,s9 _ _ a9,by simp only [List.take_zero];exact .nil,fun t mt=>(by simp [dn] at mt),by simp [dn]⟩ (fun i σ H' _ p=>SqL.of p.2.1) ?_ ?_
 · rintro i x σ H' ex ⟨sH,hZ,hTS,rs,vi,rfl,hD,hR,hRt,hRl⟩
   obtain ⟨u,eu,hu⟩:=hTS.get' ex
   have mu:=List.mem_of_getElem? eu
   have ilt:i < us.length:=(List.getElem?_eq_some_iff.mp eu).1
   have et:us.take (i+1)=us.take i++ [u]:=by rw [List.take_add_one,eu];rfl
   have rl:=hR.len
   refine ⟨_,rfl,_,rfl,D,rs,dn (us.take i),u,rfl, .inl hD,hR,hu,fun t mt=>by have:=(hty' t (hRt t mt)).2;omega,c8 (hty' u mu).1,_,rfl,?_⟩
   have e1:dn (us.take (i+1))=dn1 (dn (us.take i)) u:=by rw [et,j3]
   have mem1:∀t∈dn (us.take (i+1)),t∈us:=fun t mt=>by
    rw [e1] at mt
    rcases rL mt with mt|rfl
    · exact hRt t mt
    · exact mu
   have len1:(dn (us.take (i+1))).length≤i+1:=by
    rw [e1]
    have:=rM (dn (us.take i)) u
    omega
   cases q:((dn (us.take i)).any fun s=>eqT s u) with
   |false=>
    refine iteT ?_
    refine ⟨_,rfl, .inl ⟨rfl,_,SqL.of hD⟩,_,rfl,D,rs,x,rfl,rfl,hD,by omega,?_⟩
    have kd:=Kd.upd (ys:=rs++ [x]) hD
    refine ⟨bx nD sH,(ai nDZ.symm).trans hZ,hTS.mono kd,_,_,rfl,a9,?_,mem1,len1⟩
    have e2:dn1 (dn (us.take i)) u=dn (us.take i)++ [u]:=by
     unfold dn1
     rw [q,if_neg Bool.false_ne_true]
    rw [e1,e2]
    exact TrsAt.app (.cons (hu.mono kd) .nil) (hR.mono kd)
   |true=>
    refine iteF ?_
    have e2:dn1 (dn (us.take i)) u=dn (us.take i):=by
     unfold dn1
     rw [q,if_pos rfl]
    exact ⟨sH,hZ,hTS,rs,_,rfl,hD,by rw [e1,e2];exact hR,mem1,len1⟩
 · rintro σ H10 ⟨s10,hZ,hTS,rs,vi,rfl,hD,hR,hRt,hRl⟩
   rw [wl,List.take_length] at hR hRt
   obtain ⟨edd,mdd⟩:=sU (k:= .lt) srt fun t mt=>(hty' t mt).1
   rw [edd] at hR
   refine ⟨_,rfl,D,rs,rfl, .inl ⟨SqL.of hD,fun p np=> ?_⟩⟩
   have s14:=ad (o:= .tup rs) np
   exact k (.ref p) _ _ (s10.trans s14) (su pm srt fun t m=>(hty t m).1) (aO a9 (hR.mono (Kd.of_same s14)))
end
end K27
namespace L2
open PySem
theorem jR:∀c:Nat,c < 128→(Unicode.isAlpha c=true∧Unicode.isLower c=true∧Unicode.isUpper c=false∧Unicode.isTitle c=false∧(97≤c∧c≤122))∨(Unicode.isAlpha c=true∧Unicode.isLower c=false∧Unicode.isUpper c=true∧¬(97≤c∧c≤122))∨(Unicode.isAlpha c=false∧¬(97≤c∧c≤122)):=by
 decide +kernel
theorem rT {p:Nat→Bool} {a:Array Nat}:a.all p=a.toList.all p:=by simp
theorem rR {p:Nat→Bool} {a:Array Nat}:a.any p=a.toList.any p:=by simp
theorem oT (x:Str):(Txt.isascii x&& (Txt.isalpha x&&Txt.islower x))=true↔0 < x.length∧∀c∈x.cps.toList,97≤c∧c≤122:=by
 unfold Txt.isascii Txt.isalpha Txt.islower
 simp only [Bool.and_eq_true,rT,rR,List.all_eq_true,List.any_eq_true,decide_eq_true_eq,Bool.not_eq_true',Bool.or_eq_true]
 constructor
 · rintro ⟨h1,⟨h2,h3⟩,h4,h5⟩
   refine ⟨h2,fun c m=> ?_⟩
   rcases jR c (h1 c m) with ⟨_,_,_,_,k⟩|⟨_,_,k,_⟩|⟨k,_⟩
   · exact k
   · exfalso
     have:(x.cps.toList.any fun c=>Unicode.isUpper c ||Unicode.isTitle c)=true:=List.any_eq_true.mpr ⟨c,m,by rw [k];rfl⟩
     rw [h5] at this
     cases this
   · rw [h3 c m] at k
     cases k
 · rintro ⟨h1,h2⟩
   have asc:∀c∈x.cps.toList,c < 128:=fun c m=>by have:=h2 c m;omega
   have kd:∀c∈x.cps.toList,Unicode.isAlpha c=true∧Unicode.isLower c=true∧Unicode.isUpper c=false∧Unicode.isTitle c=false:=fun c m=>by
    rcases jR c (asc c m) with ⟨a,b,d,e,_⟩|⟨_,_,_,k⟩|⟨_,k⟩
    · exact ⟨a,b,d,e⟩
    · exact absurd (h2 c m) k
    · exact absurd (h2 c m) k
   refine ⟨asc,⟨h1,fun c m=>(kd c m).1⟩,?_,?_⟩
   · cases e:x.cps.toList with
     |nil=>
      have:x.length=0:=by
       show x.cps.size=0
       rw [←Array.length_toList,e]
       rfl
      omega
     |cons c l=>exact ⟨c,List.mem_cons_self,(kd c (by rw [e];exact List.mem_cons_self)).2.1⟩
   · cases e:(x.cps.toList.any fun c=>Unicode.isUpper c ||Unicode.isTitle c) with
     |false=>rfl
     |true=>
      obtain ⟨c,m,k⟩:=List.any_eq_true.mp e
      obtain ⟨_,_,k1,k2⟩:=kd c m
      rw [k1,k2] at k
      cases k
section
variable {X:Cx}
def rBs (g:Str→Bool):V→List V→Hp→VK→Prop:=fun x vs H Q=>∃z,x= .str z∧vs= []∧Q (.bl (g z)) H
theorem kh:MtM X "str.isalpha" (rBs Txt.isalpha):=by
 intro pins s σ H x vs v us Q I rx rv h
 obtain ⟨z,rfl,rfl,q⟩:=h
 obtain ⟨t,rfl⟩:=rx
 cases rv.zero
 exact SC.isalpha ⟨.bl _,H,I,rfl,q⟩
theorem kf:MtM X "str.islower" (rBs Txt.islower):=by
 intro pins s σ H x vs v us Q I rx rv h
 obtain ⟨z,rfl,rfl,q⟩:=h
 obtain ⟨t,rfl⟩:=rx
 cases rv.zero
 exact SC.islower ⟨.bl _,H,I,rfl,q⟩
end
open PySem PySem.Spec PyProof.Rows
section
variable {X:Cx} {CX:CXT} {k i:Nat} {f:Addr} {fd:FuncData} {ps:List Str} {sp:Sp} {x y:Str} {p py pos epos:Pos} {e:Expr} {es:List Expr} {t:TA}
end
section
variable {X:Cx} {pins:List (Addr×Obj)} {σ σ':St} {H:Hp} {s:Shared} {h9:Heap} {tk:Nat}
end
section
variable {X:Cx} {body suite:List Stmt} {b0:Stmt} {tb:TSX} {ts:TS} {i:Nat} {n cx:Str} {np hpos pos:Pos} {W:Addr}
end
section
variable {X:Cx} {k:Nat} {f a:Addr} {fd:FuncData} {ps:List Str} {sp:Sp} {E:XK} {x:Str} {p pos:Pos} {e:Expr} {es:List Expr} {t:TA}
end
open PySem PySem.Spec PyProof.Rows
theorem bY {X:Cx} {b:List Stmt}:PSs X b (fun _ _ _=>False):=fun _ _ _ _ _ _ h=>h.elim
end L2
namespace K27
open PySem L2 Mth Tre Wd Dj
theorem qB {r:List V→Hp→VK→Prop} {te:TE} {σ:L2.St} {H:Hp} {Q:VK} (h:te σ H fun v H1=>r [v] H1 Q):tCB r (bA te tNil) σ H Q:=h
theorem nN {te:TE} {Z:Ends} {σ:L2.St} {H:Hp} (h:te σ H Z.rt):tRet te Z σ H:=h
theorem p7 (K:PySem.W.Frag):PySem.W.kitOne K (.type "tuple") (.type "tuple")=some true:=by kernel_rfl
theorem ub (K:PySem.W.Frag):PySem.W.kitOne K (.type "str") (.type "str")=some true:=by kernel_rfl
theorem sY {H:Hp} {v:V} {x:Str} (h:TrAt H v (.str x)):v= .str x:=by unfold TrAt at h;exact h
theorem qZ {x:Str} (h:Trm.Nm x):Txt.isascii x=true∧Txt.isalpha x=true∧Txt.islower x=true:=by
 have e:=(oT x).mpr ⟨h.pos,fun c m=>h.ltr c m⟩
 rw [Bool.and_eq_true,Bool.and_eq_true] at e
 exact e
section
variable {P:Program} {w:World} {K:PySem.W.Frag} {mg:Str→Option Value} {base:Heap}
def spTo:Sp:=fun vs H Q _=>∃(r:Addr) (xs:List V) (n:Int),vs= [.ref r, .int n]∧H r=some (.tup xs)∧Q (.bl (decide ((xs.length:Int)=n))) H
theorem scTo:az ["thing","count"] ["thing","count"] (af sIto):=⟨rfl,rfl,rfl,by decide +kernel,rfl,by decide +kernel,by decide +kernel⟩
theorem uS {f:Addr} {fd:FuncData} (F:Fun K "is_tuple_of" "is_tuple_of" sIto f fd) (B:Blt mg):FnOk P w K mg base CX0 1 f fd ["thing","count"] spTo:=by
 refine F.ok scTo (fun vs H Q E h=> ?_) (fun cdv A outer s H vs Q E hr h=> ?_)
 · obtain ⟨r,xs,n,rfl,_⟩:=h
   rfl
 obtain ⟨r,xs,n,rfl,g,k⟩:=h
 refine ⟨_,ag (am (ci (aB (r:=rIsi K) aS rfl B.isi ay (a8 (pv 0) (a8 (aR (v:= .ty "tuple") rfl B.tu PyProof.Rows.boot_tuple rfl) aa))) (dz (aW aP (aB aX rfl B.le PySem.boot_len (a8 (pv 0) aa)) (pv 1) (au _))))),?_⟩
 refine ⟨_,rfl, .ref r, .ty "tuple", .type "tuple",true,rfl, .of (.tup g), .inl ⟨rfl,p7 K⟩,_,rfl,?_⟩
 refine iteT ?_
 refine ⟨_,rfl,r,xs,rfl, .inr (SqT.of g),_,rfl,rfl,?_⟩
 have e:decide (V.int (xs.length:Int)=V.int n)=decide ((xs.length:Int)=n):=by
  by_cases z:(xs.length:Int)=n
  · rw [decide_eq_true z,decide_eq_true (congrArg V.int z)]
  · rw [decide_eq_false z,decide_eq_false (fun q=>z (V.int.inj q))]
 rw [e]
 exact k
def spNq:Sp:=fun vs H Q _=>∃(x:Str),vs= [.str x]∧Trm.Nm x∧Q (.bl true) H
theorem scNq:az ["thing"] ["thing"] (af sNmQ):=⟨rfl,rfl,rfl,by decide +kernel,rfl,by decide +kernel,by decide +kernel⟩
theorem uW {f:Addr} {fd:FuncData} {tk:Tok} (F:Fun K "is_name" "is_name" sNmQ f fd) (B:Blt mg) (mL:mg "MOST_LETTERS"=some (.int 8 tk)):FnOk P w K mg base CX0 1 f fd ["thing"] spNq:=by
 refine F.ok scNq (fun vs H Q E h=> ?_) (fun cdv A outer s H vs Q E hr h=> ?_)
 · obtain ⟨x,rfl,_⟩:=h
   rfl
 obtain ⟨x,rfl,hx,k⟩:=h
 refine ⟨_,ae (aI (PW.pt (fc (cT (bB (aB (r:=rIsi K) aS rfl B.isi ay (a8 (pv 0) (a8 (aR (v:= .ty "str") rfl B.st PyProof.Rows.boot_str rfl) aa))))) (cR (ar i8 (aB j7 rfl B.le PySem.boot_len (a8 (pv 0) aa)) (e7 (v:= .int 8) rfl mL ⟨_,rfl⟩) (au _))))) (ag (am aY)) ak)
  (ag (am (ci (kc PySem.F.plainAttrs_str PySem.F.slot_str_isascii PySem.F.type_str_isascii kg (pv 0)) (ci (kc PySem.F.plainAttrs_str PySem.F.slot_str_isalpha PySem.F.type_str_isalpha kh (pv 0)) (dz (kc PySem.F.plainAttrs_str PySem.F.slot_str_islower PySem.F.type_str_islower kf (pv 0))))))),?_⟩
 obtain ⟨t1,t2,t3⟩:=qZ hx
 have hl:=hx.le
 refine ⟨_,rfl, .str x, .ty "str", .type "str",true,rfl, .of (.str x), .inl ⟨rfl,ub K⟩,_,rfl,?_⟩
 refine iteF ?_
 refine ⟨_,rfl,x,rfl,Nat.le_trans hl (by decide +kernel),_,8,rfl,rfl,_,rfl,?_⟩
 refine if_f (decide_eq_false (by omega)) ?_
 refine ⟨_,rfl,rfl,x,rfl,rfl,_,rfl,?_⟩
 refine if_t t1 ?_
 refine ⟨_,rfl,rfl,x,rfl,rfl,_,rfl,?_⟩
 refine if_t t2 ?_
 refine ⟨_,rfl,rfl,x,rfl,rfl,?_⟩
 rw [t3]
 exact k
def spTq (n:Nat):Sp:=fun vs H Q _=>∃(v:V) (t:Tr),vs= [v]∧TrAt H v t∧Ln t∧t.depth < n∧∀H',Same H H'→Q (.bl true) H'
def spCq (n:Nat):Sp:=fun vs H Q _=>∃(v:V) (ts:List Tr),vs= [v]∧TrAt H v (.tup ts)∧0 < ts.length∧ts.length≤3∧(∀t∈ts,Ln t∧t.depth < n)∧∀H',Same H H'→Q (.bl true) H'
theorem scTq:az ["thing"] ["thing"] (af sTmQ):=⟨rfl,rfl,rfl,by decide +kernel,rfl,by decide +kernel,by decide +kernel⟩
theorem scCq:az ["thing"] ["thing"] (af sCtQ):=⟨rfl,rfl,rfl,by decide +kernel,rfl,by decide +kernel,by decide +kernel⟩
theorem uz {n:Nat}:(List.replicate n true).all id=true:=by
 induction n with
 |zero=>rfl
 |succ n ih=>rw [List.replicate_succ,List.all_cons,ih];rfl
theorem v8 {f fT:Addr} {fd dT:FuncData} {n:Nat} {tk:Tok} (F:Fun K "are_call_terms" "are_call_terms" sCtQ f fd) (B:Blt mg) (mL:mg "MOST_IN_CALL"=some (.int 3 tk))
 (gT:FnOk P w K mg base CX0 (2*n+1) fT dT ["thing"] (spTq n)) (kT:PySem.W.keepIn K (.ref fT)=true) (bT:Binds K dT ["thing"] []) (mT:mg "is_term"=some (.ref fT)):FnOk P w K mg base CX0 (2*n+2) f fd ["thing"] (spCq n):=by
 refine F.ok scCq (fun vs H Q E h=> ?_) (fun cdv A outer s H vs Q E hr h=> ?_)
 · obtain ⟨v,ts,rfl,_⟩:=h
   rfl
 obtain ⟨v,ts,rfl,hv,l0,l3,hts,k⟩:=h
 refine ⟨_,ae (aI (PW.pt (fc (cT (bB (aB (r:=rIsi K) aS rfl B.isi ay (a8 (pv 0) (a8 (aR (v:= .ty "tuple") rfl B.tu PyProof.Rows.boot_tuple rfl) aa))))) (cR (cT (ow oI oI ac (aB aX rfl B.le PySem.boot_len (a8 (pv 0) aa)) (e7 (v:= .int 3) rfl mL ⟨_,rfl⟩)))))) (ag (am aY)) ak)
  (ag (am (aB (io rfl) rfl B.al PyProof.Rows.boot_all (a8 (c9 (NC:= ["inner"]) (mp:= [none]) rfl (fK (pv 0)) (fun _ _ _ _ _=>aK (i:=0) (by simp) rfl (Or.inl rfl)) (fun _ _ _ _ _=>bK) (fun _ _ _ _ _=>ah gT hr rfl mT kT bT .nil aj (a8 (pv 0) aa))) aa)))),?_⟩
 have hL20:(20000:Nat)≤sizeLine:=by decide +kernel
 obtain ⟨r,xs,rfl,g,hxs⟩:=at_t hv
 have xl:=hxs.len
 refine ⟨_,rfl, .ref r, .ty "tuple", .type "tuple",true,rfl, .of (.tup g), .inl ⟨rfl,p7 K⟩,_,rfl,?_⟩
 refine iteF ?_
 refine ⟨_,rfl,r,xs,rfl, .inr (SqT.of g),1,_,rfl,rfl,_,rfl,?_⟩
 refine if_t (decide_eq_true (by omega)) ?_
 refine ⟨_,_,rfl,rfl,_,rfl,?_⟩
 refine if_f (by rw [decide_eq_true (by omega)];rfl) ?_
 refine dy ?_
 dsimp only
 refine nN ?_
 refine qB ?_
 refine bM (rest:= []) rfl ?_
 refine ⟨_,rfl,r,rfl,⟨xs,SqT.of g⟩,fun L nL=> ?_⟩
 refine gj (xs:=xs) (fun i acc H'=>Same H H'∧H' L=some (.lst acc)∧acc=(List.replicate i true).map V.bl) ⟨ad nL,a9,rfl⟩ (fun i acc H' p=>SqT.of (p.1 _ _ g)) ?_ ?_
 · rintro i z acc H' hi ez ⟨sH,hL,rfl⟩
   obtain ⟨t',et,ht'⟩:=(hxs.mono (Kd.of_same sH)).get' ez
   have mt:=List.mem_of_getElem? et
   refine ⟨_,rfl,z,t',rfl,ht',(hts t' mt).1,(hts t' mt).2,fun H6 s6=> ?_⟩
   refine CompN.mk hi (by rw [List.length_map,List.length_replicate];omega) (s6 _ _ hL) ⟨bx nL (sH.trans s6),a9,?_⟩
   rw [List.replicate_succ',List.map_append]
   rfl
 · rintro acc H' ⟨sH,hL,rfl⟩
   refine ⟨L,_,rfl,SqL.of hL,?_⟩
   rw [uz]
   exact k H' sH
theorem tS {f fO fN fC:Addr} {fd dO dN dC:FuncData} {n:Nat} (F:Fun K "is_term" "is_term" sTmQ f fd)
 (gO:FnOk P w K mg base CX0 1 fO dO ["thing","count"] spTo) (kO:PySem.W.keepIn K (.ref fO)=true) (bO:Binds K dO ["thing","count"] []) (mO:mg "is_tuple_of"=some (.ref fO))
 (gN:FnOk P w K mg base CX0 1 fN dN ["thing"] spNq) (kN:PySem.W.keepIn K (.ref fN)=true) (bN:Binds K dN ["thing"] []) (mN:mg "is_name"=some (.ref fN))
 (gC:FnOk P w K mg base CX0 (2*n+2) fC dC ["thing"] (spCq n)) (kC:PySem.W.keepIn K (.ref fC)=true) (bC:Binds K dC ["thing"] []) (mC:mg "are_call_terms"=some (.ref fC)):FnOk P w K mg base CX0 (2*n+3) f fd ["thing"] (spTq (n+1)):=by
 refine F.ok scTq (fun vs H Q E h=> ?_) (fun cdv A outer s H vs Q E hr h=> ?_)
 · obtain ⟨v,t,rfl,_⟩:=h
   rfl
 obtain ⟨v,t,rfl,hv,hln,hd,k⟩:=h
 have hr1:Room 1 _:=hr.mono (by omega)
 refine ⟨_,ae (aI (bB (ah gO hr1 rfl mO kO bO .nil aj (a8 (pv 0) (a8 ac aa)))) (ag (am (ci (aW aP (ao aq (pv 0) ac fun _ _=>rfl) aM (au _)) (dz (ah gN hr1 rfl mN kN bN .nil aj (a8 (ao aq (pv 0) ac fun _ _=>rfl) aa)))))) ak)
  (ae (aI (bB (ah gO hr1 rfl mO kO bO .nil aj (a8 (pv 0) (a8 ac aa)))) (ag (am (ci (aW aP (ao aq (pv 0) ac fun _ _=>rfl) aM (au _)) (ci (ah gN hr1 rfl mN kN bN .nil aj (a8 (ao aq (pv 0) ac fun _ _=>rfl) aa)) (dz (ah gC hr rfl mC kC bC .nil aj (a8 (ao aq (pv 0) ac fun _ _=>rfl) aa))))))) ak)
  (ag (am aY))),?_⟩
 cases hln with
 |nm x hx=>
  obtain ⟨r,y,rfl,g,hy⟩:=at2 hv
  cases sY hy
  refine ⟨_,rfl,r,_,2,rfl,g,_,rfl,?_⟩
  refine if_t (decide_eq_true rfl) ?_
  refine ⟨_,rfl,r,_,0,_,rfl,rfl,SqT.of g,rfl,rfl,_,rfl,?_⟩
  refine if_t (decide_eq_true rfl) ?_
  exact ⟨_,rfl,r,_,1,_,rfl,rfl,SqT.of g,rfl,x,rfl,hx,k H (Same.refl H)⟩
 |ap f ts hf l0 l3 hts=>
  obtain ⟨r,y,z,rfl,g,hy,hz⟩:=at3 hv
  cases sY hy
  refine ⟨_,rfl,r,_,2,rfl,g,_,rfl,?_⟩
  refine if_f (decide_eq_false (by show¬((3:Nat):Int)=2;decide)) ?_
  refine ⟨_,rfl,r,_,3,rfl,g,_,rfl,?_⟩
  refine if_t (decide_eq_true rfl) ?_
  refine ⟨_,rfl,r,_,0,_,rfl,rfl,SqT.of g,rfl,rfl,_,rfl,?_⟩
  refine if_t (decide_eq_true rfl) ?_
  refine ⟨_,rfl,r,_,1,_,rfl,rfl,SqT.of g,rfl,f,rfl,hf,_,rfl,?_⟩
  refine iteT ?_
  refine ⟨_,rfl,r,_,2,z,rfl,rfl,SqT.of g,rfl,z,ts,rfl,hz,l0,l3,fun t m=>⟨hts t m,?_⟩,k⟩
  have:=aQ m
  simp only [Tr.depth,Trs.depth] at hd
  omega
theorem uR {f fO fN fC:Addr} {fd dO dN dC:FuncData} {tk:Tok} (F:Fun K "is_term" "is_term" sTmQ f fd) (bF:Binds K fd ["thing"] []) (mF:mg "is_term"=some (.ref f)) (FC:Fun K "are_call_terms" "are_call_terms" sCtQ fC dC) (B:Blt mg) (mL:mg "MOST_IN_CALL"=some (.int 3 tk))
 (gO:FnOk P w K mg base CX0 1 fO dO ["thing","count"] spTo) (kO:PySem.W.keepIn K (.ref fO)=true) (bO:Binds K dO ["thing","count"] []) (mO:mg "is_tuple_of"=some (.ref fO))
 (gN:FnOk P w K mg base CX0 1 fN dN ["thing"] spNq) (kN:PySem.W.keepIn K (.ref fN)=true) (bN:Binds K dN ["thing"] []) (mN:mg "is_name"=some (.ref fN))
 (bC:Binds K dC ["thing"] []) (mC:mg "are_call_terms"=some (.ref fC)):∀n,FnOk P w K mg base CX0 (2*n+1) f fd ["thing"] (spTq n):=by
 intro n
 induction n with
 |zero=>exact ⟨fun vs H Q E ⟨_,_,_,_,_,h,_⟩=>absurd h (by omega),fun A outer s H args us vs Q E _ _ _ _ ⟨_,_,_,_,_,h,_⟩=>absurd h (by omega)⟩
 |succ n ih=>exact tS F gO kO bO mO gN kN bN mN (v8 FC B mL ih F.kp bF mF) FC.kp bC mC
end
open PySem L2 Mth Tre Wd Su
section
variable {P:Program} {w:World} {K:PySem.W.Frag} {mg:Str→Option Value} {base:Heap}
def jZ:Sp:=fun vs H Q _=>∃(l:Addr) (ws:List V) (ps:List Pq) (n e:Nat),vs= [.ref l]∧H l=some (.lst ws)∧TrsAt H ws (ps.map prT)∧ps.length≤n∧n < 64∧n*(e+1)≤8000∧(∀p∈ps,Gq e p)∧
 ∀(v:V) (H':Hp) (us:List Pq),Same H H'→TrAt H' v (.tup (us.map prT))→Can ps us→us.length≤ps.length→(∀u∈us,Gq (n*(e+1)) u)→Q v H'
theorem scSumX:az ["pairs","totals","term","share"] ["pairs"] (af sSum):=⟨rfl,rfl,rfl,by decide +kernel,rfl,by decide +kernel,by decide +kernel⟩
theorem qU {f fP Z:Addr} {fd fdP:FuncData} (F:Fun K "sum_of" "sum_of" sSum f fd) (B:Blt mg) (GP:FnOk P w K mg base CX0 2 fP fdP ["one","other"] (fE K)) (kP:PySem.W.keepIn K (.ref fP)=true) (bP:Binds K fdP ["one","other"] []) (mP:mg "plus"=some (.ref fP))
 (mZ:mg "ZERO"=some (.ref Z)) (hZ:∀H:Hp,SqT K H Z [.int 0, .int 1]):FnOk P w K mg base CX0 3 f fd ["pairs"] jZ:=by
 refine F.ok scSumX (fun vs H Q E h=> ?_) (fun cdv A outer s H vs Q E hr h=> ?_)
 · obtain ⟨l,ws,ps,n,e,rfl,_⟩:=h
   rfl
 obtain ⟨l,ws,ps,n,e,rfl,hl,hT,hn,n64,hne,hty,k⟩:=h
 have hun:=hr.units
 have hu1:=jH hr
 refine ⟨_,ae (aH (i:=1) scSumX.nd rfl (Or.inl rfl) (bq aa))
  (ae (cJ PassesOwn.never rfl (cm (aB (cp (Nat.lt_of_le_of_lt (Nat.add_le_add_left (by decide) _) hun)) rfl B.so PyProof.Rows.boot_sorted (a8 (pv 0) aa))) (fM rfl (br (aK (i:=2) scSumX.nd rfl (Or.inl rfl)) (br (aK (i:=3) scSumX.nd rfl (Or.inl rfl)) e6)))
   (ag (aI (PW.pt (ot (jp (pv 1) (by intro _;rfl)) (lB (ar (oJ (Nat.lt_of_le_of_lt (Nat.add_le_add_left (by decide) _) hun)) (ao aq (ao aU (pv 1) (dm cr ac) fun _ _=>rfl) ac fun _ _=>rfl) (pv 2) (au _)))))
    (ag (k9 (aw (a8 (pv 2) (a8 (ah GP hr rfl mP kP bP .nil aj (a8 (ao aq (ao aU (pv 1) (dm cr ac) fun _ _=>rfl) ac fun _ _=>rfl) (a8 (pv 3) aa))) aa))) (ka (pv 1) (dm cr ac) fG)))
    (ag (fm (jv PySem.F.plainAttrs_list PySem.F.slot_list_append PySem.F.type_list_append cC (pv 1) (a8 (aw (a8 (pv 2) (a8 (pv 3) aa))) aa)))))))
  (ag (am (bE aT rfl B.tu PyProof.Rows.boot_tuple (a8
   (c9 (NC:= ["total"]) (mp:= [none]) rfl (cm (pv 1)) (fun _ _ _ _ _=>aK (i:=0) (by simp) rfl (Or.inl rfl)) (fun _ _ _ _ _=>qM (ar (r:=rNeP K) (tP hu1) (ao (r:=rIxT K) aq (pv 0) ac fun _ _=>rfl) (e7 (v:= .ref Z) rfl mZ rfl) (au _))) (fun _ _ _ _ _=>pv 0)) aa))))),?_⟩
 have hL:(20000:Nat)≤sizeLine:=by decide +kernel
 refine ⟨by show 0≤sizeLine;decide,fun D nD=> ?_⟩
 have s1:Same H (upd H D (.lst [])):=ad nD
 have tyT:∀t∈ps.map prT,Ty .pr t∧t.depth≤8:=fun t m=>by
  obtain ⟨p,mp,rfl⟩:=List.mem_map.mp m
  exact (hty p mp).pr
 refine ⟨_,rfl,l,ws,_,rfl,s1 _ _ hl,hT.mono (Kd.of_same s1),by rw [List.length_map];omega,fun t m=>⟨kZ (.inr (tyT t m).1),c8 (tyT t m).1,by have:=(tyT t m).2;omega⟩,fun t m u mu=>l5 30 (by have:=(tyT t m).2;omega) (tyT t m).1 (tyT u mu).1,fun S ws' us nS pm hT' srt=> ?_⟩
 obtain ⟨qs,rfl,pq⟩:=jr pm rfl
 have s2:=ad (o:= .lst ws') nS
 have nS0:=s1.free nS
 have nDS:D≠S:=fun z=>by rw [←z,a9] at nS;cases nS
 have ul:qs.length=ps.length:=pq.length_eq
 have wl:=hT'.len
 rw [List.length_map] at wl
 have hty':∀t∈qs,Gq e t:=fun t m=>hty t (pq.mem_iff.mp m)
 have ord:∀(i:Nat) (u:Pq),qs[i]?=some u→∀d∈qs.take i,ltT u.1 d.1=false:=by
  intro i u eu d md
  obtain ⟨j,hj,ej⟩:=List.getElem_of_mem md
  rw [List.length_take] at hj
  have ej':qs[j]?=some d:=by
   rw [List.getElem_take] at ej
   rw [←ej]
   exact List.getElem?_eq_getElem _
  exact iW (srt j i _ _ (by omega) (by rw [List.getElem?_map,ej'];rfl) (by rw [List.getElem?_map,eu];rfl))
 refine ⟨S,rfl,⟨ws',SqL.of a9⟩,?_⟩
 refine cD (xs:=ws') (fun i σ H'=>Same H H'∧H' S=some (.lst ws')∧TrsAt H' ws' (qs.map prT)∧∃(rs:List V) (trs:List Pq) (v2 v3:Option V),σ= [some (.ref l),some (.ref D),v2,v3]∧H' D=some (.lst rs)∧TrsAt H' rs (trs.map prT)∧Run (qs.take i) trs∧(∀t∈trs,Gq (i*(e+1)) t)∧trs.length≤i)
  ⟨s1.trans s2,a9,hT'.mono (Kd.of_same s2),[],[],none,none,rfl,s2 _ _ a9, .nil,by rw [List.take_zero];exact Run.nil,(fun t m=>by cases m),Nat.le_refl _⟩ (fun i σ H' _ p=>SqL.of p.2.1) ?_ ?_
 · rintro i x σ H' ex ⟨sH,hS,hTS,rs,trs,v2,v3,rfl,hD,hR,hRun,hRt,hRl⟩
   obtain ⟨u,eu,hu⟩:=hTS.get' ex
   rw [List.getElem?_map] at eu
   obtain ⟨⟨tm,fr⟩,eq,rfl⟩:=Option.map_eq_some_iff.mp eu
   have mu:=List.mem_of_getElem? eq
   have ilt:i < qs.length:=(List.getElem?_eq_some_iff.mp eq).1
   have gu:=hty' _ mu
   obtain ⟨r,xt,xf,rfl,hr',hxt,hxf⟩:=dg hu
   obtain ⟨rf,rfl,hrf⟩:=eI hxf
   have rl:=hR.len
   rw [List.length_map] at rl
   have etk:=jm eq
   have ei:(i+1)*(e+1)=i*(e+1)+e+1:=by rw [Nat.succ_mul];omega
   have ile:i*(e+1)≤8000:=Nat.le_trans (Nat.mul_le_mul_right _ (by omega)) hne
   have e8:e≤8000:=by
    have:1*(e+1)≤n*(e+1):=Nat.mul_le_mul_right _ (by omega)
    omega
   refine ⟨r,_,rfl,SqT.of hr',rfl,_,_,rfl,_,_,rfl,rfl,?_⟩
   have app:(∀p∈trs,ltT p.1 tm=true)→∀p,H' p=none→Same H (upd (upd H' p (.tup [xt, .ref rf])) D (.lst (rs++ [.ref p])))∧(upd (upd H' p (.tup [xt, .ref rf])) D (.lst (rs++ [.ref p]))) S=some (.lst ws')∧TrsAt (upd (upd H' p (.tup [xt, .ref rf])) D (.lst (rs++ [.ref p]))) ws' (qs.map prT)∧
    ∃(rs':List V) (trs':List Pq) (v2' v3':Option V),[some (V.ref l),some (.ref D),some xt,some (.ref rf)]= [some (.ref l),some (.ref D),v2',v3']∧(upd (upd H' p (.tup [xt, .ref rf])) D (.lst (rs++ [.ref p]))) D=some (.lst rs')∧TrsAt (upd (upd H' p (.tup [xt, .ref rf])) D (.lst (rs++ [.ref p]))) rs' (trs'.map prT)∧Run (qs.take (i+1)) trs'∧(∀t∈trs',Gq ((i+1)*(e+1)) t)∧trs'.length≤i+1:=by
    intro hlt p np
    have sp:Same H' (upd H' p (.tup [xt, .ref rf])):=ad np
    have hDp:=sp _ _ hD
    have kd:=(Kd.of_same sp).trans (Kd.upd (ys:=rs++ [.ref p]) hDp)
    have hp':(upd (upd H' p (.tup [xt, .ref rf])) D (.lst (rs++ [.ref p]))) p=some (.tup [xt, .ref rf]):=by
     rw [ai (fun z=>by rw [z,hD] at np;cases np)]
     exact a9
    refine ⟨bx nD (sH.trans sp),(ai nDS.symm).trans (sp _ _ hS),hTS.mono kd,_,trs++ [(tm,fr)],_,_,rfl,a9,?_,?_,fun t m=> ?_,by rw [List.length_append];simp only [List.length_cons,List.length_nil];omega⟩
    · rw [List.map_append]
      exact TrsAt.app (.cons (cN hp' (hxt.mono kd) (hxf.mono kd)) .nil) (hR.mono kd)
    · rw [etk]
      exact hRun.app hlt gu.sh
    · rcases List.mem_append.mp m with m|m
      · exact (hRt t m).mono (by omega)
      · rw [List.mem_singleton.mp m]
        exact gu.mono (by omega)
   refine ⟨_,rfl,!rs.isEmpty, .inl ⟨rs,SqL.of hD,rfl⟩,?_⟩
   by_cases z:rs= []
   · have zt:trs= []:=List.length_eq_zero_iff.mp (by rw [←rl,z];rfl)
     rw [z]
     refine iteF ?_
     refine iteF ?_
     rw [←z]
     refine ⟨_,rfl, .inl ⟨rfl,_,SqL.of hD⟩,_,rfl,_,rfl,by show 2≤sizeLine;decide,fun p np=> ?_⟩
     refine ⟨D,rs,_,rfl,rfl,ad np _ _ hD,by omega,?_⟩
     exact app (fun p m=>by rw [zt] at m;cases m) p np
   · have z':rs.isEmpty=false:=by simpa using z
     rw [z']
     refine iteT ?_
     have pos:0 < rs.length:=List.length_pos_iff.mpr z
     have zt:trs≠ []:=fun q=>by rw [q] at rl;simp at rl;exact z rl
     obtain ⟨tr0,⟨tm',fr'⟩,rfl⟩:∃l a,trs=l++ [a]:=⟨trs.dropLast,trs.getLast zt,(List.dropLast_concat_getLast zt).symm⟩
     have rl':rs.length - 1=tr0.length:=by rw [List.length_append,List.length_singleton] at rl;omega
     obtain ⟨y,ey,hy⟩:=hR.get (i:=rs.length - 1) (t:=prT (tm',fr')) (by rw [List.getElem?_map,rl',List.getElem?_append_right (Nat.le_refl _),Nat.sub_self];rfl)
     have gl:=hRt (tm',fr') (List.mem_append_right _ List.mem_cons_self)
     obtain ⟨ry,yt,yf,rfl,hry,hyt,hyf⟩:=dg hy
     obtain ⟨ryf,rfl,hryf⟩:=eI hyf
     obtain ⟨l1,e1⟩:=nQ gu.ty
     obtain ⟨l2,e2⟩:=nQ gl.ty
     have pu:=c8 gl.ty
     have dd2:=gl.dep
     dsimp only at e1 e2 pu dd2 hxt hyt
     rw [e2] at pu dd2
     unfold Tr.pure at pu
     unfold Tr.depth at dd2
     have eat:=last_at pos ey
     refine ⟨_,rfl,_,rfl,D,rs,-1,_,rfl,rfl,SqL.of hD,eat,ry,_,0,yt,rfl,rfl,SqT.of hry,rfl,_,rfl,l2,l1,by rw [←e2];exact hyt,by rw [←e1];exact hxt, .inl pu,by omega,_,rfl,?_⟩
     cases q:eqTs l2 l1 with
     |true=>
      have em:tm'=tm:=l9 gl.ty gu.ty (by rw [e1,e2];unfold eqT;exact q)
      refine iteT ?_
      refine ⟨_,rfl,_,rfl,_,rfl,D,rs,-1,_,rfl,rfl,SqL.of hD,eat,ry,_,1, .ref ryf,rfl,rfl,SqT.of hry,rfl,_,rfl,ryf,rf,_,_,_,_,rfl,SqT.of hryf,SqT.of hrf,⟨gl.gf.pos,gu.gf.pos,gl.gf.top.big ile,gl.gf.bot.big ile,gu.gf.top.big e8,gu.gf.bot.big e8⟩,fun rp H2 nrp sp2 hrp=> ?_⟩
      refine ⟨by show 2≤sizeLine;decide,fun p np=> ?_⟩
      have sp3:Same H' (upd H2 p (.tup [xt, .ref rp])):=sp2.trans (ad np)
      have hD3:=sp3 _ _ hD
      refine ⟨_,rfl,_,rfl,D,rs,-1,rs.length - 1,rfl,rfl,hD3,rB pos,?_⟩
      have kd:=(Kd.of_same sp3).trans (Kd.upd (ys:=rs.set (rs.length - 1) (.ref p)) hD3)
      have nDp:p≠D:=fun z=>by rw [z,sp2 _ _ hD] at np;cases np
      have hp':(upd (upd H2 p (.tup [xt, .ref rp])) D (.lst (rs.set (rs.length - 1) (.ref p)))) p=some (.tup [xt, .ref rp]):=by
       rw [ai nDp]
       exact a9
      have hrp':(upd (upd H2 p (.tup [xt, .ref rp])) D (.lst (rs.set (rs.length - 1) (.ref p)))) rp=some (.tup [.int (cB fr' fr).1, .int (cB fr' fr).2]):=by
       rw [ai (fun z=>by rw [z,sp2 _ _ hD] at hrp;cases hrp)]
       exact ad np _ _ hrp
      refine ⟨bx nD (sH.trans sp3),(ai nDS.symm).trans (sp3 _ _ hS),hTS.mono kd,_,tr0++ [(tm,cB fr' fr)],_,_,rfl,a9,?_,?_,fun t m=> ?_,?_⟩
      · have:=TrsAt.set (i:=rs.length - 1) (cN (b:=frT (cB fr' fr)) hp' (hxt.mono kd) (bp hrp')) (hR.mono kd)
        rw [rl',List.map_append,List.map_cons,List.map_nil,List.set_append_right _ _ (by rw [List.length_map];exact Nat.le_refl _),List.length_map,Nat.sub_self] at this
        rw [rl',List.map_append]
        exact this
      · rw [etk]
        subst em
        exact hRun.add gu.sh
      · rcases List.mem_append.mp m with m|m
        · exact (hRt t (List.mem_append_left _ m)).mono (by omega)
        · rw [List.mem_singleton.mp m]
          exact ⟨gu.ty,gu.dep,by rw [ei];exact gl.gf.plus gu.gf,iM gl.sh gu.sh⟩
      · rw [List.length_append,List.length_singleton] at hRl ⊢
        omega
     |false=>
      have lt1:ltT tm' tm=true:=by
       obtain ⟨d,md,ed⟩:=hRun.key (tm',fr') (List.mem_append_right _ List.mem_cons_self)
       have:=ord i _ eq d md
       rw [ed] at this
       exact oV this (by rw [e1,e2];unfold eqT;exact q)
      refine iteF ?_
      refine ⟨_,rfl, .inl ⟨rfl,_,SqL.of hD⟩,_,rfl,_,rfl,by show 2≤sizeLine;decide,fun p np=> ?_⟩
      refine ⟨D,rs,_,rfl,rfl,ad np _ _ hD,by omega,?_⟩
      refine app (fun p m=> ?_) p np
      rcases List.mem_append.mp m with m|m
      · exact mz ((List.pairwise_append.mp hRun.asc).2.2 p m (tm',fr') List.mem_cons_self) lt1
      · rw [List.mem_singleton.mp m]
        exact lt1
 · rintro σ H' ⟨sH,hS,hTS,rs,trs,v2,v3,rfl,hD,hR,hRun,hRt,hRl⟩
   have rl:=hR.len
   rw [List.length_map] at rl
   rw [wl,ul] at hRl hRt
   rw [wl,List.take_length] at hRun
   dsimp only
   refine l8 ?_
   refine mh rfl ?_
   refine ⟨_,rfl,D,rfl,⟨rs,SqL.of hD⟩,fun D2 nD2=> ?_⟩
   have nDD:D≠D2:=aD hD nD2
   refine kK (xs:=rs) (fun i acc H''=>Same H' H''∧H'' D2=some (.lst acc)∧TrsAt H'' acc (((trs.take i).filter fun p=>decide (p.2≠zero)).map prT)) ⟨ad nD2,a9,by rw [List.take_zero];exact .nil⟩ (fun i acc H'' p=>SqL.of (p.1 _ _ hD)) ?_ ?_
   · rintro i x acc H'' hi ex ⟨sH2,hD2,hA⟩
     obtain ⟨t,et,ht⟩:=(hR.mono (Kd.of_same sH2)).get' ex
     rw [List.getElem?_map] at et
     obtain ⟨⟨tm,fr⟩,eq,rfl⟩:=Option.map_eq_some_iff.mp et
     obtain ⟨r,xt,xf,rfl,hr',hxt,hxf⟩:=dg ht
     obtain ⟨rf,rfl,hrf⟩:=eI hxf
     have al:=hA.len
     rw [List.length_map] at al
     have al2:=List.length_filter_le (fun p:Pq=>decide (p.2≠zero)) (trs.take i)
     rw [List.length_take] at al2
     refine ⟨_,rfl,r,_,1, .ref rf,rfl,rfl,SqT.of hr',rfl,rf,Z,fr.1,fr.2,0,1,rfl,rfl,SqT.of hrf,hZ _,_,rfl,?_⟩
     rw [rG]
     have ef:(trs.take (i+1)).filter (fun p=>decide (p.2≠zero))=(trs.take i).filter (fun p=>decide (p.2≠zero))++(if decide (fr≠zero)=true then [(tm,fr)] else []):=by
      rw [jm eq,List.filter_append,List.filter_cons]
      rfl
     refine ite2 (fun y=> ?_) (fun y=>CompS.mk hi ⟨sH2,hD2,?_⟩)
     · have kd:=Kd.upd (ys:=acc++ [.ref r]) hD2
       refine ⟨_,rfl,CompN.mk hi (by omega) hD2 ⟨bx nD2 sH2,a9,?_⟩⟩
       rw [ef,if_pos y,List.map_append]
       exact TrsAt.app (.cons (ht.mono kd) .nil) (hA.mono kd)
     · rw [ef,if_neg y,List.append_nil]
       exact hA
   · rintro acc H'' ⟨sH2,hD2,hA⟩
     rw [rl,List.take_length] at hA
     refine ⟨D2,acc,rfl, .inl ⟨SqL.of hD2,fun p np=> ?_⟩⟩
     have sp:=ad (o:= .tup acc) np
     refine k (.ref p) _ _ (sH.trans (sH2.trans sp)) (aO a9 (hA.mono (Kd.of_same sp))) (hRun.fin.to fun t=>ji pq) ?_ fun u m=> ?_
     · exact Nat.le_trans (List.length_filter_le _ _) hRl
     · exact (hRt u (List.mem_filter.mp m).1).mono (Nat.mul_le_mul_right _ hn)
end
open PySem L2 Mth Tre Wd Su
section
variable {P:Program} {w:World} {K:PySem.W.Frag} {mg:Str→Option Value} {base:Heap}
def iK:Sp:=fun vs H Q _=>∃(v u:V) (t r:Tr),vs= [v,u]∧TrAt H v t∧TrAt H u r∧Ty .tm t∧Ty .tm r∧t.depth≤7∧r.depth≤7∧
 ∀(x:V) (H':Hp) (us:List Pq),Same H H'→TrAt H' x (.tup (us.map prT))→Can [(t,p1),(r,m1)] us→us.length≤2→(∀p∈us,Gq 4 p)→Q x H'
theorem uH:az ["one","other"] ["one","other"] (af eV):=⟨rfl,rfl,rfl,by decide +kernel,rfl,by decide +kernel,by decide +kernel⟩
theorem oQ {f fS:Addr} {fd dS:FuncData} (F:Fun K "less_sum" "less_sum" eV f fd)
 (gS:FnOk P w K mg base CX0 3 fS dS ["pairs"] jZ) (kS:PySem.W.keepIn K (.ref fS)=true) (bS:Binds K dS ["pairs"] []) (mS:mg "sum_of"=some (.ref fS)):FnOk P w K mg base CX0 4 f fd ["one","other"] iK:=by
 refine F.ok uH (fun vs H Q E h=> ?_) (fun cdv A outer s H vs Q E hr h=> ?_)
 · obtain ⟨v,u,t,r,rfl,_⟩:=h
   rfl
 obtain ⟨v,u,t,r,rfl,hv,hu,tt,tr,dt,dr,k⟩:=h
 refine ⟨_,ag (am (ah gS hr rfl mS kS bS .nil aj (a8 (bq (a8 (aw (a8 (pv 0) (a8 (aw (a8 ac (a8 ac aa))) aa))) (a8 (aw (a8 (pv 1) (a8 (aw (a8 (dm cr ac) (a8 ac aa))) aa))) aa))) aa))),?_⟩
 refine ⟨_,rfl,by show 2≤sizeLine;decide,fun a na=> ?_⟩
 refine ⟨by show 2≤sizeLine;decide,fun b nb=> ?_⟩
 refine ⟨_,rfl,_,rfl,by show 2≤sizeLine;decide,fun c nc=> ?_⟩
 refine ⟨by show 2≤sizeLine;decide,fun d nd=> ?_⟩
 refine ⟨by show 2≤sizeLine;decide,fun l nl=> ?_⟩
 have s1:=ad (o:= .tup [.int 1, .int 1]) na
 have s2:=ad (o:= .tup [v, .ref a]) nb
 have s3:=ad (o:= .tup [.int (-1), .int 1]) nc
 have s4:=ad (o:= .tup [u, .ref c]) nd
 have s5:=ad (o:= .lst [.ref b, .ref d]) nl
 have s45:=s4.trans s5
 have s35:=s3.trans s45
 have s25:=s2.trans s35
 have s15:=s1.trans s25
 refine ⟨l,_,[(t,p1),(r,m1)],2,1,rfl,a9,?_,Nat.le_refl _,by decide,by decide,fun p mp=> ?_,fun x H' us s6 hx hc hle hg=> ?_⟩
 · exact .cons (cN (s35 _ _ a9) (hv.mono (Kd.of_same s15)) (bp (s25 _ _ a9))) (.cons (cN (s5 _ _ a9) (hu.mono (Kd.of_same s15)) (bp (s45 _ _ a9))) .nil)
 · simp only [List.mem_cons,List.not_mem_nil,or_false] at mp
   rcases mp with rfl|rfl
   · exact ⟨tt,dt,gf_1 (.inr rfl),lq⟩
   · exact ⟨tr,dr,gf_1 (.inl rfl),lr⟩
 · exact k x H' us (s15.trans s6) hx hc hle hg
end
end K27
namespace SlW
open PySem PySem.Spec PyProof.Rows SeqAt L2 Tre
section
variable {prog:Program} {w:World} {A:Around} {E:Value→Shared→Prop} {s:Shared}
end
section
variable {X:Cx}
end
end SlW
namespace K27
open PySem L2 Mth Tre Wd Dj Su
structure GT (t:Tr):Prop where
 ty:Ty .tm t
 ln:Ln t
 dp:t.depth≤5
abbrev likT (t u:Tr):Tr:= .tup [s_ "like",t,u]
abbrev lkT (t u:Tr) (b:Bool):Tr:= .tup [likT t u, .bl b]
abbrev mosT (us:List Pq):Tr:= .tup [s_ "most", .tup (us.map prT),frT zero]
abbrev mlT (us:List Pq) (b:Bool):Tr:= .tup [mosT us, .bl b]
def Knd (k:Str):Prop:=k=Str.ofString "level"∨k=Str.ofString "meet"
section
variable {P:Program} {w:World} {K:PySem.W.Frag} {mg:Str→Option Value} {base:Heap}
theorem jQ {H:Hp} {x:String}:TrAt H (.str (Str.ofString x)) (s_ x):=by unfold TrAt;rfl
theorem gz {H:Hp} {b:Bool}:TrAt H (.bl b) (.bl b):=by unfold TrAt;rfl
theorem nst {x y:String} (h:(Str.ofString x).cps.toList≠(Str.ofString y).cps.toList):¬V.str (Str.ofString x)=V.str (Str.ofString y):=fun e=>h (by injection e with e;rw [e])
theorem knst {k:Str} (h:Knd k) {y:String} (h1:(Str.ofString "level").cps.toList≠(Str.ofString y).cps.toList) (h2:(Str.ofString "meet").cps.toList≠(Str.ofString y).cps.toList):¬V.str k=V.str (Str.ofString y):=by
 rcases h with rfl|rfl
 · exact nst h1
 · exact nst h2
def sp2:Sp:=fun vs H Q _=>∃(v u:V) (k:Str) (t r:Tr),vs= [.str k,v,u]∧TrAt H v t∧TrAt H u r∧Knd k∧GT t∧GT r∧∀H',Same H H'→Q (.bl true) H'
theorem sc2:az ["kind","one","other"] ["kind","one","other"] (af sSt2):=⟨rfl,rfl,rfl,by decide +kernel,rfl,by decide +kernel,by decide +kernel⟩
abbrev iY:List V:= [.str (Str.ofString "turn"), .str (Str.ofString "calls"), .str (Str.ofString "level"), .str (Str.ofString "meet")]
theorem ok_2 {f fT Z:Addr} {fd dT:FuncData} (F:Fun K "is_step_of_two" "is_step_of_two" sSt2 f fd) (mZ:mg "TWO_TERM_KINDS"=some (.ref Z)) (hZ:∀H:Hp,SqT K H Z iY)
 (gT:FnOk P w K mg base CX0 17 fT dT ["thing"] (spTq 8)) (kT:PySem.W.keepIn K (.ref fT)=true) (bT:Binds K dT ["thing"] []) (mT:mg "is_term"=some (.ref fT)):FnOk P w K mg base CX0 18 f fd ["kind","one","other"] sp2:=by
 refine F.ok sc2 (fun vs H Q E h=> ?_) (fun cdv A outer s H vs Q E hr h=> ?_)
 · obtain ⟨v,u,k,t,r,rfl,_⟩:=h
   rfl
 obtain ⟨v,u,kd,t,r,rfl,hv,hu,hk,ht,hr',k⟩:=h
 refine ⟨_,ae (aI (ar aP (pv 0) aM (au _)) bY ak)
  (ag (am (ci (aW mr (pv 0) (e7 (v:= .ref Z) rfl mZ rfl) (by with_unfolding_all rfl)) (ci (ah gT hr rfl mT kT bT .nil aj (a8 (pv 1) aa)) (dz (ah gT hr rfl mT kT bT .nil aj (a8 (pv 2) aa))))))),?_⟩
 refine ⟨_,rfl,rfl,_,rfl,if_f (decide_eq_false (knst hk (by decide +kernel) (by decide +kernel))) ?_⟩
 have dt:=ht.dp
 have dr:=hr'.dp
 rcases hk with rfl|rfl
 · refine ⟨_,rfl,Z,iY,rfl, .inr (hZ H),rfl,rfl,_,rfl,if_t (by decide +kernel) ?_⟩
   refine ⟨_,rfl,v,t,rfl,hv,ht.ln,by omega,fun H1 s1=>⟨_,rfl,iteT ?_⟩⟩
   exact ⟨_,rfl,_,_,rfl,hu.mono (Kd.of_same s1),hr'.ln,by omega,fun H2 s2=>k H2 (s1.trans s2)⟩
 · refine ⟨_,rfl,Z,iY,rfl, .inr (hZ H),rfl,rfl,_,rfl,if_t (by decide +kernel) ?_⟩
   refine ⟨_,rfl,v,t,rfl,hv,ht.ln,by omega,fun H1 s1=>⟨_,rfl,iteT ?_⟩⟩
   exact ⟨_,rfl,_,_,rfl,hu.mono (Kd.of_same s1),hr'.ln,by omega,fun H2 s2=>k H2 (s1.trans s2)⟩
def o9:Sp:=fun vs H Q _=>∃(p:Addr) (v u:V) (k:Str) (t r:Tr),vs= [.ref p]∧H p=some (.tup [.str k,v,u])∧TrAt H v t∧TrAt H u r∧Knd k∧GT t∧GT r∧∀H',Same H H'→Q (.bl true) H'
theorem uG:az ["thing"] ["thing"] (af sStp):=⟨rfl,rfl,rfl,by decide +kernel,rfl,by decide +kernel,by decide +kernel⟩
theorem tT {f fO f2:Addr} {fd dO d2:FuncData} (F:Fun K "is_step" "is_step" sStp f fd)
 (gO:FnOk P w K mg base CX0 1 fO dO ["thing","count"] spTo) (kO:PySem.W.keepIn K (.ref fO)=true) (bO:Binds K dO ["thing","count"] []) (mO:mg "is_tuple_of"=some (.ref fO))
 (g2:FnOk P w K mg base CX0 18 f2 d2 ["kind","one","other"] sp2) (k2:PySem.W.keepIn K (.ref f2)=true) (b2:Binds K d2 ["kind","one","other"] []) (m2:mg "is_step_of_two"=some (.ref f2)):FnOk P w K mg base CX0 19 f fd ["thing"] o9:=by
 refine F.ok uG (fun vs H Q E h=> ?_) (fun cdv A outer s H vs Q E hr h=> ?_)
 · obtain ⟨p,v,u,k,t,r,rfl,_⟩:=h
   rfl
 obtain ⟨p,v,u,kd,t,r,rfl,g,hv,hu,hk,ht,hr',k⟩:=h
 have hr1:Room 1 _:=hr.mono (by decide)
 refine ⟨_,ae (aI (bB (ah gO hr1 rfl mO kO bO .nil aj (a8 (pv 0) (a8 ac aa)))) bY ak)
  (ae (aI (bB (ah gO hr1 rfl mO kO bO .nil aj (a8 (pv 0) (a8 ac aa)))) (ag (am (ah g2 hr rfl m2 k2 b2 .nil aj (a8 (ao aq (pv 0) ac fun _ _=>rfl) (a8 (ao aq (pv 0) ac fun _ _=>rfl) (a8 (ao aq (pv 0) ac fun _ _=>rfl) aa)))))) ak)
  bY),?_⟩
 refine ⟨_,rfl,p,_,2,rfl,g,_,rfl,if_f (decide_eq_false (by show¬((3:Nat):Int)=2;decide)) ?_⟩
 refine ⟨_,rfl,p,_,3,rfl,g,_,rfl,if_t (decide_eq_true rfl) ?_⟩
 exact ⟨_,rfl,p,_,0,_,rfl,rfl,SqT.of g,rfl,_,rfl,p,_,1,_,rfl,rfl,SqT.of g,rfl,_,rfl,p,_,2,_,rfl,rfl,SqT.of g,rfl,v,u,_,_,_,rfl,hv,hu,hk,ht,hr',k⟩
def spLk:Sp:=fun vs H Q _=>∃(v u:V) (t r:Tr) (b:Bool),vs= [v,u, .bl b]∧TrAt H v t∧TrAt H u r∧∀x H',Same H H'→TrAt H' x (lkT t r b)→Q x H'
theorem scLk:az ["one","other","truth"] ["one","other","truth"] (af i6):=⟨rfl,rfl,rfl,by decide +kernel,rfl,by decide +kernel,by decide +kernel⟩
theorem uY {f:Addr} {fd:FuncData} (F:Fun K "like" "like" i6 f fd):FnOk P w K mg base CX0 1 f fd ["one","other","truth"] spLk:=by
 refine F.ok scLk (fun vs H Q E h=> ?_) (fun cdv A outer s H vs Q E hr h=> ?_)
 · obtain ⟨v,u,t,r,b,rfl,_⟩:=h
   rfl
 obtain ⟨v,u,t,r,b,rfl,hv,hu,k⟩:=h
 refine ⟨_,ag (am (aw (a8 (aw (a8 aM (a8 (pv 0) (a8 (pv 1) aa)))) (a8 (pv 2) aa)))),?_⟩
 refine ⟨_,rfl,_,rfl,by show 3≤sizeLine;decide,fun p np=>⟨_,rfl,by show 2≤sizeLine;decide,fun q nq=> ?_⟩⟩
 have s1:=ad (o:= .tup [.str (Str.ofString "like"),v,u]) np
 have s2:=ad (o:= .tup [.ref p, .bl b]) nq
 have s12:=s1.trans s2
 exact k (.ref q) _ s12 (aO a9 (.cons (aO (s2 _ _ a9) (.cons jQ (.cons (hv.mono (Kd.of_same s12)) (.cons (hu.mono (Kd.of_same s12)) .nil)))) (.cons gz .nil)))
abbrev AtZ (H:Hp) (Z:Addr):Prop:=H Z=some (.tup [.int 0, .int 1])
def oa (Z:Addr):Sp:=fun vs H Q _=>∃(v u:V) (t r:Tr) (b:Bool),vs= [v,u, .bl b]∧TrAt H v t∧TrAt H u r∧GT t∧GT r∧AtZ H Z∧∀x H' us,Same H H'→Can [(t,p1),(r,m1)] us→us.length≤2→(∀p∈us,Gq 4 p)→TrAt H' x (mlT us b)→Q x H'
theorem scNb:az ["one","other","truth"] ["one","other","truth"] (af sNab):=⟨rfl,rfl,rfl,by decide +kernel,rfl,by decide +kernel,by decide +kernel⟩
theorem tV {f fS Z:Addr} {fd dS:FuncData} (F:Fun K "not_above" "not_above" sNab f fd) (mZ:mg "ZERO"=some (.ref Z))
 (gS:FnOk P w K mg base CX0 4 fS dS ["one","other"] iK) (kS:PySem.W.keepIn K (.ref fS)=true) (bS:Binds K dS ["one","other"] []) (mS:mg "less_sum"=some (.ref fS)):FnOk P w K mg base CX0 5 f fd ["one","other","truth"] (oa Z):=by
 refine F.ok scNb (fun vs H Q E h=> ?_) (fun cdv A outer s H vs Q E hr h=> ?_)
 · obtain ⟨v,u,t,r,b,rfl,_⟩:=h
   rfl
 obtain ⟨v,u,t,r,b,rfl,hv,hu,ht,hr',hZ,k⟩:=h
 refine ⟨_,ag (am (aw (a8 (aw (a8 aM (a8 (ah gS hr rfl mS kS bS .nil aj (a8 (pv 0) (a8 (pv 1) aa))) (a8 (e7 (v:= .ref Z) rfl mZ rfl) aa)))) (a8 (pv 2) aa)))),?_⟩
 have dt:=ht.dp
 have dr:=hr'.dp
 refine ⟨_,rfl,_,rfl,v,u,t,r,rfl,hv,hu,ht.ty,hr'.ty,by omega,by omega,fun x H1 us s1 hx hc hl hg=> ?_⟩
 refine ⟨by show 3≤sizeLine;decide,fun p np=>⟨_,rfl,by show 2≤sizeLine;decide,fun q nq=> ?_⟩⟩
 have s2:=ad (o:= .tup [.str (Str.ofString "most"),x, .ref Z]) np
 have s3:=ad (o:= .tup [.ref p, .bl b]) nq
 have s23:=s2.trans s3
 exact k (.ref q) _ us (s1.trans s23) hc hl hg (aO a9 (.cons (aO (s3 _ _ a9) (.cons jQ (.cons (hx.mono (Kd.of_same s23)) (.cons (bp ((s1.trans s23) _ _ hZ)) .nil)))) (.cons gz .nil)))
end
end K27
namespace Su
open PySem L2 Tre Mth Wd
noncomputable def lin (g:Tr→Rat):List Pq→Rat
 | []=>0
 |p::r=>rv p.2*g p.1+lin g r
theorem rA (g:Tr→Rat) (a b:List Pq):lin g (a++b)=lin g a+lin g b:=by
 induction a with
 |nil=>simp only [List.nil_append,lin];grind
 |cons p r ih=>simp only [List.cons_append,lin,ih];grind
theorem rq (g:Tr→Rat) (a:List Pq):lin g (a.map neg)= -lin g a:=by
 induction a with
 |nil=>simp only [List.map_nil,lin];grind
 |cons p r ih=>
  simp only [List.map_cons,lin,ih]
  show rv (negF p.2)*g p.1+_=_
  rw [om]
  grind
open Classical in
theorem mG (g:Tr→Rat) (k:Tr) (l:List Pq):lin g l=g k*tot k l+lin g (l.filter fun p=>decide (p.1≠k)):=by
 induction l with
 |nil=>simp only [List.filter_nil,lin,tot];grind
 |cons p r ih=>
  rw [List.filter_cons]
  by_cases z:p.1=k
  · have e:decide (p.1≠k)=false:=by simp [z]
    rw [e,if_neg (by decide)]
    simp only [lin,tot,if_pos z,ih,z]
    grind
  · have e:decide (p.1≠k)=true:=by simp [z]
    rw [e,if_pos rfl]
    simp only [lin,tot,if_neg z,ih]
    grind
open Classical in
theorem nO (t k:Tr) (l:List Pq):tot t (l.filter fun p=>decide (p.1≠k))=if t=k then 0 else tot t l:=by
 induction l with
 |nil=>simp only [List.filter_nil,tot];grind
 |cons p r ih=>
  rw [List.filter_cons]
  by_cases z:p.1=k
  · have e:decide (p.1≠k)=false:=by simp [z]
    rw [e,if_neg (by decide),ih]
    by_cases y:t=k
    · simp only [if_pos y]
    · simp only [if_neg y,tot,if_neg (fun q:p.1=t=>y (q.symm.trans z))]
      grind
  · have e:decide (p.1≠k)=true:=by simp [z]
    rw [e,if_pos rfl]
    simp only [tot,ih]
    by_cases y:t=k
    · simp only [if_pos y]
      rw [if_neg (fun q:p.1=t=>z (q.trans y))]
      grind
    · simp only [if_neg y]
open Classical in
theorem jF (g:Tr→Rat):∀(n:Nat) (l:List Pq),l.length≤n→(∀t,tot t l=0)→lin g l=0
 |_,[],_,_=>rfl
 |0,p::r,h,_=>by simp at h
 |n+1,p::r,h,ht=>by
  rw [mG g p.1,ht,jF g n]
  · grind
  · have e:decide (p.1≠p.1)=false:=by simp
    rw [List.filter_cons,e,if_neg (by decide)]
    have:=List.length_filter_le (fun q:Pq=>decide (q.1≠p.1)) r
    simp only [List.length_cons] at h
    omega
  · intro t
    rw [nO]
    split
    · rfl
    · exact ht t
theorem ua (g:Tr→Rat) {a b:List Pq} (h:∀t,tot t a=tot t b):lin g a=lin g b:=by
 have:=jF g _ (a++b.map neg) (Nat.le_refl _) fun t=>by rw [dc,qA,h];grind
 rw [rA,rq] at this
 grind
theorem Can.lin {ps us:List Pq} (h:Can ps us) (g:Tr→Rat):lin g us=lin g ps:=ua g h.eq
theorem Can.key {ps us:List Pq} (h:Can ps us) {p:Pq} (m:p∈us):∃q∈ps,q.1=p.1:=by
 refine Classical.byContradiction fun no=> ?_
 have e:=ja h.asc m
 rw [h.eq,dI fun q mq ez=>no ⟨q,mq,ez⟩] at e
 exact (h.sh p m).2 ((sj (h.sh p m).1).mp e.symm)
noncomputable def vl (W:Wld) (t:Tr):Rat:=rv (valT W t)
theorem jn {W:Wld} (hW:W.Ok):∀(us:List Pq) (acc:Fr),(∀p∈us,Sh p.2)→Sh acc→Sh ((us.map prT).foldl (sum1 W) acc)∧rv ((us.map prT).foldl (sum1 W) acc)=rv acc+lin (vl W) us
 | [],acc,_,ha=>⟨ha,by simp only [List.map_nil,List.foldl_nil,lin];grind⟩
 |p::r,acc,h,ha=>by
  have hp:=h p List.mem_cons_self
  have hv:=(fj hW p.1).2
  have e:sum1 W acc (prT p)=cB acc (cO p.2 (valT W p.1)):=rfl
  obtain ⟨i1,i2⟩:=jn hW r (cB acc (cO p.2 (valT W p.1))) (fun x m=>h x (List.mem_cons_of_mem _ m)) (iM ha (jo hp hv))
  simp only [List.map_cons,List.foldl_cons,e]
  refine ⟨i1,?_⟩
  rw [i2,ly ha (jo hp hv),ol hp hv]
  simp only [lin,vl]
  grind
theorem qE {W:Wld} (hW:W.Ok) {us:List Pq} (h:∀p∈us,Sh p.2):Sh (sumT W (us.map prT))∧rv (sumT W (us.map prT))=lin (vl W) us:=by
 obtain ⟨a,b⟩:=jn hW us zero h lj
 refine ⟨a,b.trans ?_⟩
 rw [rv_zero]
 grind
theorem uJ {p q:Fr} (h1:0 < p.2) (h2:0 < q.2):p.1*q.2≤q.1*p.2↔rv p≤rv q:=by
 have a:(0:Rat) < p.2:=by exact_mod_cast h1
 have b:(0:Rat) < q.2:=by exact_mod_cast h2
 have e:(p.1*q.2≤q.1*p.2)↔((p.1:Rat)*q.2≤q.1*p.2):=by
  rw [←Rat.intCast_mul,←Rat.intCast_mul,Rat.intCast_le_intCast]
 rw [e]
 unfold rv
 have ia:(0:Rat) < (p.2:Rat)⁻¹:=Rat.inv_pos.mpr a
 have ib:(0:Rat) < (q.2:Rat)⁻¹:=Rat.inv_pos.mpr b
 rw [Rat.div_def,Rat.div_def]
 have na:(p.2:Rat)*(p.2:Rat)⁻¹=1:=Rat.mul_inv_cancel _ (by grind)
 have nb:(q.2:Rat)*(q.2:Rat)⁻¹=1:=Rat.mul_inv_cancel _ (by grind)
 generalize (p.2:Rat)⁻¹=x at*
 generalize (q.2:Rat)⁻¹=y at*
 generalize (p.2:Rat)=c at*
 generalize (q.2:Rat)=d at*
 generalize (p.1:Rat)=m at*
 generalize (q.1:Rat)=n at*
 constructor
 · intro h
   have h3:=Rat.mul_le_mul_of_nonneg_right h (Rat.le_of_lt ia)
   have h4:=Rat.mul_le_mul_of_nonneg_right h3 (Rat.le_of_lt ib)
   have e1:m*d*x*y=m*x:=by clear h h3 h4 e;grind
   have e2:n*c*x*y=n*y:=by clear h h3 h4 e;grind
   rw [e1,e2] at h4
   exact h4
 · intro h
   have h3:=Rat.mul_le_mul_of_nonneg_right h (Rat.le_of_lt a)
   have h4:=Rat.mul_le_mul_of_nonneg_right h3 (Rat.le_of_lt b)
   have e1:m*x*c*d=m*d:=by clear h h3 h4 e;grind
   have e2:n*y*c*d=n*c:=by clear h h3 h4 e;grind
   rw [e1,e2] at h4
   exact h4
end Su
namespace K27
open PySem L2 Mth Tre Wd Dj Su
structure Ls (t r:Tr) (us:List Pq):Prop where
 can:Can [(t,p1),(r,m1)] us
 len:us.length≤2
 gq:∀p∈us,Gq 4 p
inductive Du:Str→Tr→Tr→List Tr→Prop
 |le (t r:Tr) (us:List Pq):Ls t r us→Du (Str.ofString "level") t r [lkT t r false,mlT us true]
 |me (t r:Tr) (us vs:List Pq):Ls t r us→Ls r t vs→Du (Str.ofString "meet") t r [mlT us false,mlT vs false,lkT t r true]
theorem Du.inv {k:Str} {t r:Tr} {ls:List Tr} (h:Du k t r ls):(k=Str.ofString "level"∧∃us,Ls t r us∧ls= [lkT t r false,mlT us true])∨(k=Str.ofString "meet"∧∃us vs,Ls t r us∧Ls r t vs∧ls= [mlT us false,mlT vs false,lkT t r true]):=by
 cases h with
 |le _ _ us h=>exact .inl ⟨rfl,us,h,rfl⟩
 |me _ _ us vs h1 h2=>exact .inr ⟨rfl,us,vs,h1,h2,rfl⟩
theorem sx:Str.ofString "level"≠Str.ofString "meet":=fun e=>absurd (congrArg (fun s:Str=>s.cps.toList) e) (by decide +kernel)
theorem Du.uniq {k:Str} {t r:Tr} {ls ms:List Tr} (h1:Du k t r ls) (h2:Du k t r ms):ls=ms:=by
 rcases h1.inv with ⟨e1,us,a,rfl⟩|⟨e1,us,vs,a,b,rfl⟩<;>rcases h2.inv with ⟨e2,us',a',rfl⟩|⟨e2,us',vs',a',b',rfl⟩
 · rw [a.can.uniq a'.can]
 · exact absurd (e1.symm.trans e2) sx
 · exact absurd (e2.symm.trans e1) sx
 · rw [a.can.uniq a'.can,b.can.uniq b'.can]
theorem gf0:Gf 900 zero:=⟨by decide,by show (0:Nat) < 2^900;exact Nat.pos_of_ne_zero (by simp),by show (1:Nat) < 2^900;exact Nat.one_lt_two_pow (by decide)⟩
theorem Ls.gw {t r:Tr} {us:List Pq} (h:Ls t r us) (ht:GT t) (hr:GT r):Gw (mosT us)∧(mosT us).depth≤11:=by
 have dp:∀p∈us,p.1.depth≤5:=fun p m=>by
  obtain ⟨q,mq,e⟩:=h.can.key m
  simp only [List.mem_cons,List.not_mem_nil,or_false] at mq
  rcases mq with rfl|rfl
  · rw [←e];exact ht.dp
  · rw [←e];exact hr.dp
 refine ⟨.mo _ zero (by rw [List.length_map];have:=h.len;omega) (fun x m=> ?_) gf0,?_⟩
 · obtain ⟨p,mp,rfl⟩:=List.mem_map.mp m
   exact ⟨p.1,p.2,rfl,(h.gq p mp).ty,dp p mp,(h.gq p mp).gf.mono (by decide)⟩
 · have:=cf (n:=8) (ts:=us.map prT) fun x m=>by
    obtain ⟨p,mp,rfl⟩:=List.mem_map.mp m
    exact (h.gq p mp).pr.2
   show (Tr.tup [s_ "most", .tup (us.map prT), .tup [.int zero.1, .int zero.2]]).depth≤11
   simp only [Tr.depth,Trs.depth]
   omega
theorem sy {t u:Tr} (h1:GT t) (h2:GT u):Gw (likT t u)∧(likT t u).depth≤11:=by
 have:=h1.dp
 have:=h2.dp
 refine ⟨.li _ _ h1.ty h2.ty (by omega) (by omega),?_⟩
 simp only [Tr.depth,Trs.depth]
 omega
def Lo (l:Tr):Prop:=∃a b,l= .tup [a, .bl b]∧Gw a∧a.depth≤11
theorem Du.lo {k:Str} {t r:Tr} {ls:List Tr} (h:Du k t r ls) (ht:GT t) (hr:GT r):∀l∈ls,Lo l:=by
 intro l m
 rcases h.inv with ⟨_,us,a,rfl⟩|⟨_,us,vs,a,b,rfl⟩
 · simp only [List.mem_cons,List.not_mem_nil,or_false] at m
   rcases m with rfl|rfl
   · exact ⟨_,_,rfl,sy ht hr⟩
   · exact ⟨_,_,rfl,a.gw ht hr⟩
 · simp only [List.mem_cons,List.not_mem_nil,or_false] at m
   rcases m with rfl|rfl|rfl
   · exact ⟨_,_,rfl,a.gw ht hr⟩
   · exact ⟨_,_,rfl,b.gw hr ht⟩
   · exact ⟨_,_,rfl,sy ht hr⟩
theorem Lo.ty {l:Tr} (h:Lo l):Ty .lt l∧l.depth≤30:=by
 obtain ⟨a,b,rfl,g,d⟩:=h
 refine ⟨.lt _ _ g.ty,?_⟩
 simp only [Tr.depth,Trs.depth]
 omega
theorem Du.len {k:Str} {t r:Tr} {ls:List Tr} (h:Du k t r ls):ls.length≤3:=by
 rcases h.inv with ⟨_,us,a,rfl⟩|⟨_,us,vs,a,b,rfl⟩<;>simp
theorem dA {W:Wld} (hW:W.Ok) {t r:Tr} {us:List Pq} (h:Ls t r us):(hold W (mosT us)=true)↔vl W t≤vl W r:=by
 obtain ⟨s,e⟩:=qE hW fun p m=>(h.can.sh p m).1
 show (hold W (.tup [s_ "most", .tup (us.map prT),frT zero])=true)↔_
 rw [ii,decide_eq_true_iff,uJ s.1 (by decide:(0:Int) < zero.2),e,h.can.lin,rv_zero]
 simp only [lin,si,ss]
 constructor<;>intro h<;>grind
theorem t7 {W:Wld} (hW:W.Ok) {t r:Tr} (h1:vl W t≤vl W r) (h2:vl W r≤vl W t):valT W t=valT W r:=k8 (fj hW t).2 (fj hW r).2 (by
 have e1:vl W t=rv (valT W t):=rfl
 have e2:vl W r=rv (valT W r):=rfl
 rw [←e1,←e2]
 grind)
theorem Du.true {W:Wld} (hW:W.Ok) {k:Str} {t r:Tr} {ls:List Tr} (h:Du k t r ls):ls.any (lith W)=true:=by
 rcases h.inv with ⟨_,us,a,rfl⟩|⟨_,us,vs,a,b,rfl⟩
 · rw [List.any_cons,List.any_cons,bJ,bJ,f9]
   by_cases e:valT W t=valT W r
   · have:=(dA hW a).mpr (by show rv _≤rv _;rw [e];exact Rat.le_refl)
     rw [this]
     cases (decide (valT W t=valT W r)==false)<;>rfl
   · rw [decide_eq_false e]
     rfl
 · rw [List.any_cons,List.any_cons,List.any_cons,bJ,bJ,bJ,f9]
   cases h1:hold W (mosT us) with
   |false=>rfl
   |true=>
    cases h2:hold W (mosT vs) with
    |false=>rfl
    |true=>
     rw [decide_eq_true (t7 hW ((dA hW a).mp h1) ((dA hW b).mp h2))]
     rfl
section
variable {P:Program} {w:World} {K:PySem.W.Frag} {mg:Str→Option Value} {base:Heap}
def spR2 (Z:Addr):Sp:=fun vs H Q _=>∃(k:Str) (v u:V) (t r:Tr),vs= [.str k,v,u]∧TrAt H v t∧TrAt H u r∧Knd k∧GT t∧GT r∧AtZ H Z∧∀x H' ls rs,Same H H'→Du k t r ls→ix ls rs→TrAt H' x (.tup rs)→Q x H'
theorem scR2:az ["kind","one","other"] ["kind","one","other"] (af sRo2):=⟨rfl,rfl,rfl,by decide +kernel,rfl,by decide +kernel,by decide +kernel⟩
theorem uV {f fL fR fN Z:Addr} {fd dL dR dN:FuncData} (F:Fun K "row_of_two" "row_of_two" sRo2 f fd)
 (gL:FnOk P w K mg base CX0 1 fL dL ["one","other","truth"] spLk) (kL:PySem.W.keepIn K (.ref fL)=true) (bL:Binds K dL ["one","other","truth"] []) (mL:mg "like"=some (.ref fL))
 (gN:FnOk P w K mg base CX0 5 fN dN ["one","other","truth"] (oa Z)) (kN:PySem.W.keepIn K (.ref fN)=true) (bN:Binds K dN ["one","other","truth"] []) (mN:mg "not_above"=some (.ref fN))
 (gR:FnOk P w K mg base CX0 1 fR dR ["literals"] eK) (kR:PySem.W.keepIn K (.ref fR)=true) (bR:Binds K dR ["literals"] []) (mR:mg "row_of"=some (.ref fR)):FnOk P w K mg base CX0 6 f fd ["kind","one","other"] (spR2 Z):=by
 refine F.ok scR2 (fun vs H Q E h=> ?_) (fun cdv A outer s H vs Q E hr h=> ?_)
 · obtain ⟨k,v,u,t,r,rfl,_⟩:=h
   rfl
 obtain ⟨kd,v,u,t,r,rfl,hv,hu,hk,ht,hr',hZ,k⟩:=h
 have hr1:Room 1 _:=hr.mono (by decide)
 refine ⟨_,ae (aI (ar aP (pv 0) aM (au _)) bY ak)
  (ae (aI (ar aP (pv 0) aM (au _)) bY ak)
  (ae (aI (ar aP (pv 0) aM (au _)) (ag (am (ah gR hr1 rfl mR kR bR .nil aj (a8 (bq (a8 (ah gL hr1 rfl mL kL bL .nil aj (a8 (pv 1) (a8 (pv 2) (a8 aY aa)))) (a8 (ah gN hr rfl mN kN bN .nil aj (a8 (pv 1) (a8 (pv 2) (a8 aY aa)))) aa))) aa)))) ak)
  (ag (am (ah gR hr1 rfl mR kR bR .nil aj (a8 (bq (a8 (ah gN hr rfl mN kN bN .nil aj (a8 (pv 1) (a8 (pv 2) (a8 aY aa)))) (a8 (ah gN hr rfl mN kN bN .nil aj (a8 (pv 2) (a8 (pv 1) (a8 aY aa)))) (a8 (ah gL hr1 rfl mL kL bL .nil aj (a8 (pv 1) (a8 (pv 2) (a8 aY aa)))) aa)))) aa)))))),?_⟩
 refine ⟨_,rfl,rfl,_,rfl,if_f (decide_eq_false (knst hk (by decide +kernel) (by decide +kernel))) ?_⟩
 refine ⟨_,rfl,rfl,_,rfl,if_f (decide_eq_false (knst hk (by decide +kernel) (by decide +kernel))) ?_⟩
 rcases hk with rfl|rfl
 · refine ⟨_,rfl,rfl,_,rfl,if_t (decide_eq_true rfl) ?_⟩
   refine ⟨_,rfl,_,rfl,v,u,t,r,false,rfl,hv,hu,fun x H1 s1 hx=> ?_⟩
   refine ⟨_,rfl,_,rfl,v,u,t,r,true,rfl,hv.mono (Kd.of_same s1),hu.mono (Kd.of_same s1),ht,hr',s1 _ _ hZ,fun y H2 us s2 c1 c2 c3 hy=> ?_⟩
   refine ⟨by show 2≤sizeLine;decide,fun l nl=> ?_⟩
   have s3:=ad (o:= .lst [x,y]) nl
   have s23:=s2.trans s3
   have du:Du (Str.ofString "level") t r [lkT t r false,mlT us true]:= .le t r us ⟨c1,c2,c3⟩
   exact ⟨l,[x,y],_,rfl,a9, .cons (hx.mono (Kd.of_same s23)) (.cons (hy.mono (Kd.of_same s3)) .nil),by show 2 < 64;decide,fun a m=>(du.lo ht hr' a m).ty,fun v H' rs s6 ro hv=>k v H' _ rs (s1.trans (s23.trans s6)) du ro hv⟩
 · refine ⟨_,rfl,rfl,_,rfl,if_f (decide_eq_false (nst (by decide +kernel))) ?_⟩
   refine ⟨_,rfl,_,rfl,v,u,t,r,false,rfl,hv,hu,ht,hr',hZ,fun x H1 us s1 c1 c2 c3 hx=> ?_⟩
   refine ⟨_,rfl,_,rfl,u,v,r,t,false,rfl,hu.mono (Kd.of_same s1),hv.mono (Kd.of_same s1),hr',ht,s1 _ _ hZ,fun y H2 vs s2 d1 d2 d3 hy=> ?_⟩
   have s12:=s1.trans s2
   refine ⟨_,rfl,_,rfl,v,u,t,r,true,rfl,hv.mono (Kd.of_same s12),hu.mono (Kd.of_same s12),fun z H3 s3 hz=> ?_⟩
   refine ⟨by show 3≤sizeLine;decide,fun l nl=> ?_⟩
   have s4:=ad (o:= .lst [x,y,z]) nl
   have s34:=s3.trans s4
   have du:Du (Str.ofString "meet") t r [mlT us false,mlT vs false,lkT t r true]:= .me t r us vs ⟨c1,c2,c3⟩ ⟨d1,d2,d3⟩
   exact ⟨l,[x,y,z],_,rfl,a9, .cons (hx.mono (Kd.of_same (s2.trans s34))) (.cons (hy.mono (Kd.of_same s34)) (.cons (hz.mono (Kd.of_same s4)) .nil)),by show 3 < 64;decide,fun a m=>(du.lo ht hr' a m).ty,fun v H' rs s6 ro hv=>k v H' _ rs (s12.trans (s34.trans s6)) du ro hv⟩
def spRb (Z:Addr):Sp:=fun vs H Q _=>∃(x y:V) (p:Addr) (k:Str) (v u:V) (t r:Tr),vs= [x,y, .ref p]∧H p=some (.tup [.str k,v,u])∧TrAt H v t∧TrAt H u r∧Knd k∧GT t∧GT r∧AtZ H Z∧∀x H' ls rs,Same H H'→Du k t r ls→ix ls rs→TrAt H' x (.tup rs)→Q x H'
theorem scRb:az ["wishes","rows","step","kind"] ["wishes","rows","step"] (af sRby):=⟨rfl,rfl,rfl,by decide +kernel,rfl,by decide +kernel,by decide +kernel⟩
theorem uU {f fS f2 Z:Addr} {fd dS d2:FuncData} (F:Fun K "row_by" "row_by" sRby f fd)
 (gS:FnOk P w K mg base CX0 19 fS dS ["thing"] o9) (kS:PySem.W.keepIn K (.ref fS)=true) (bS:Binds K dS ["thing"] []) (mS:mg "is_step"=some (.ref fS))
 (g2:FnOk P w K mg base CX0 6 f2 d2 ["kind","one","other"] (spR2 Z)) (k2:PySem.W.keepIn K (.ref f2)=true) (b2:Binds K d2 ["kind","one","other"] []) (m2:mg "row_of_two"=some (.ref f2)):FnOk P w K mg base CX0 20 f fd ["wishes","rows","step"] (spRb Z):=by
 refine F.ok scRb (fun vs H Q E h=> ?_) (fun cdv A outer s H vs Q E hr h=> ?_)
 · obtain ⟨x,y,p,k,v,u,t,r,rfl,_⟩:=h
   rfl
 obtain ⟨x,y,p,kd,v,u,t,r,rfl,g,hv,hu,hk,ht,hr',hZ,k⟩:=h
 have hr6:Room 6 _:=hr.mono (by decide)
 refine ⟨_,ae (aI (cT (bB (ah gS hr rfl mS kS bS .nil aj (a8 (pv 2) aa)))) bY ak)
  (ae (aH (i:=3) scRb.nd rfl (Or.inl rfl) (ao aq (pv 2) ac fun _ _=>rfl))
  (ae (aI (ar aP (pv 3) aM (au _)) bY ak)
  (ae (aI (ar aP (pv 3) aM (au _)) bY ak)
  (ae (aI (ar aP (pv 3) aM (au _)) bY ak)
  (ae (aI (ar aP (pv 3) aM (au _)) bY ak)
  (ae (aI (ar aP (pv 3) aM (au _)) bY ak)
  (ae (aI (ar aP (pv 3) aM (au _)) bY ak)
  (ag (am (ah g2 hr6 rfl m2 k2 b2 .nil aj (a8 (pv 3) (a8 (ao aq (pv 2) ac fun _ _=>rfl) (a8 (ao aq (pv 2) ac fun _ _=>rfl) aa))))))))))))),?_⟩
 refine ⟨_,rfl,p,v,u,kd,t,r,rfl,g,hv,hu,hk,ht,hr',fun H1 s1=>⟨_,rfl,iteF ?_⟩⟩
 have g1:=s1 _ _ g
 refine ⟨_,rfl,p,_,0,_,rfl,rfl,SqT.of g1,rfl,?_⟩
 refine ⟨_,rfl,rfl,_,rfl,if_f (decide_eq_false (knst hk (by decide +kernel) (by decide +kernel))) ?_⟩
 refine ⟨_,rfl,rfl,_,rfl,if_f (decide_eq_false (knst hk (by decide +kernel) (by decide +kernel))) ?_⟩
 refine ⟨_,rfl,rfl,_,rfl,if_f (decide_eq_false (knst hk (by decide +kernel) (by decide +kernel))) ?_⟩
 refine ⟨_,rfl,rfl,_,rfl,if_f (decide_eq_false (knst hk (by decide +kernel) (by decide +kernel))) ?_⟩
 refine ⟨_,rfl,rfl,_,rfl,if_f (decide_eq_false (knst hk (by decide +kernel) (by decide +kernel))) ?_⟩
 refine ⟨_,rfl,rfl,_,rfl,if_f (decide_eq_false (knst hk (by decide +kernel) (by decide +kernel))) ?_⟩
 exact ⟨_,rfl,_,rfl,p,_,1,_,rfl,rfl,SqT.of g1,rfl,_,rfl,p,_,2,_,rfl,rfl,SqT.of g1,rfl,kd,v,u,t,r,rfl,hv.mono (Kd.of_same s1),hu.mono (Kd.of_same s1),hk,ht,hr',s1 _ _ hZ,fun x H' ls rs s2 du ro hx=>k x H' ls rs (s1.trans s2) du ro hx⟩
end
open PySem L2 Mth Tre Wd Dj Su
theorem rk (t:Tr):Ls t t []:=by
 refine ⟨⟨.nil,fun p m=>(by cases m),fun x=> ?_⟩,by simp,fun p m=>by cases m⟩
 simp only [tot]
 by_cases z:t=x
 · rw [if_pos z,if_pos z,si,ss];grind
 · rw [if_neg z,if_neg z];grind
theorem uN {α:Type} {a b:α} {l:List α} (h:l.Perm [a,b]):l= [a,b]∨l= [b,a]:=by
 have hl:=h.length_eq
 match l,hl with
 | [x,y],_=>
  have mx:x∈ [a,b]:=h.mem_iff.mp (by simp)
  simp only [List.mem_cons,List.not_mem_nil,or_false] at mx
  rcases mx with rfl|rfl
  · have:=List.Perm.cons_inv h
    have:=List.perm_singleton.mp this
    simp only [List.cons.injEq,and_true] at this
    exact .inl (by rw [this])
  · have h':=h.trans (List.Perm.swap _ _ _)
    have:=List.perm_singleton.mp (List.Perm.cons_inv h')
    simp only [List.cons.injEq,and_true] at this
    exact .inr (by rw [this])
theorem u8 {t r:Tr} (ht:GT t) (hr:GT r) (hne:t≠r) {us:List Pq} (hp:us.Perm [(t,p1),(r,m1)]) (srt:∀(i j:Nat) (x y:Tr),i≤j→(us.map prT)[i]?=some x→(us.map prT)[j]?=some y→ltT y x=false):Ls t r us:=by
 have dt:=ht.dp
 have dr:=hr.dp
 have ne:eqT t r=false:=by
  cases e:eqT t r with
  |false=>rfl
  |true=>exact absurd (l9 ht.ty hr.ty e) hne
 have ne':eqT r t=false:=by
  cases e:eqT r t with
  |false=>rfl
  |true=>exact absurd (l9 hr.ty ht.ty e).symm hne
 refine ⟨⟨?_,fun p m=> ?_,fun x=>ji hp⟩,by rw [hp.length_eq];simp,fun p m=> ?_⟩
 · rcases uN hp with rfl|rfl
   · refine List.pairwise_cons.mpr ⟨fun q m=> ?_,List.pairwise_singleton _ _⟩
     rw [List.mem_singleton.mp m]
     exact oV (iW (srt 0 1 _ _ (by decide) rfl rfl)) ne
   · refine List.pairwise_cons.mpr ⟨fun q m=> ?_,List.pairwise_singleton _ _⟩
     rw [List.mem_singleton.mp m]
     exact oV (iW (srt 0 1 _ _ (by decide) rfl rfl)) ne'
 · have:=hp.mem_iff.mp m
   simp only [List.mem_cons,List.not_mem_nil,or_false] at this
   rcases this with rfl|rfl
   · exact ⟨lq,by show p1≠zero;decide⟩
   · exact ⟨lr,by show m1≠zero;decide⟩
 · have:=hp.mem_iff.mp m
   simp only [List.mem_cons,List.not_mem_nil,or_false] at this
   rcases this with rfl|rfl
   · exact ⟨ht.ty,by show t.depth≤7;omega,(gf_1 (.inr rfl)).mono (by decide),lq⟩
   · exact ⟨hr.ty,by show r.depth≤7;omega,(gf_1 (.inl rfl)).mono (by decide),lr⟩
theorem GT.tup {t:Tr} (h:GT t):∃ts,t= .tup ts:=by
 cases h.ln with
 |nm x _=>exact ⟨_,rfl⟩
 |ap f ts _ _ _ _=>exact ⟨_,rfl⟩
section
variable {P:Program} {w:World} {K:PySem.W.Frag} {mg:Str→Option Value} {base:Heap}
def spLl:Sp:=fun vs H Q _=>∃(v u:V) (t r:Tr),vs= [v,u]∧TrAt H v t∧TrAt H u r∧GT t∧GT r∧∀x H' us,Same H H'→Ls t r us→TrAt H' x (mosT us)→Q x H'
theorem scLl:az ["_law_one","_law_other"] ["_law_one","_law_other"] (af sLLs):=⟨rfl,rfl,rfl,by decide +kernel,rfl,by decide +kernel,by decide +kernel⟩
theorem uX {f:Addr} {fd:FuncData} (F:Fun K "_law_less" "_law_less" sLLs f fd) (B:Blt mg):FnOk P w K mg base CX0 1 f fd ["_law_one","_law_other"] spLl:=by
 refine F.ok scLl (fun vs H Q E h=> ?_) (fun cdv A outer s H vs Q E hr h=> ?_)
 · obtain ⟨v,u,t,r,rfl,_⟩:=h
   rfl
 obtain ⟨v,u,t,r,rfl,hv,hu,ht,hr',k⟩:=h
 have hun:=hr.units
 have hu50:_+50 < cLine:=Nat.lt_of_le_of_lt (Nat.add_le_add_left (by decide) _) hun
 refine ⟨_,ae (aI (ar (oJ hu50) (pv 0) (pv 1) (au _)) (ag (am (aw (a8 aM (a8 (aw aa) (a8 (aw (a8 ac (a8 ac aa))) aa)))))) ak)
  (ag (am (aw (a8 aM (a8 (bE aT rfl B.tu PyProof.Rows.boot_tuple (a8 (aB (cp (Nat.lt_of_le_of_lt (Nat.add_le_add_left (by decide) _) hun)) rfl B.so PyProof.Rows.boot_sorted (a8 (bq (a8 (aw (a8 (pv 0) (a8 (aw (a8 ac (a8 ac aa))) aa))) (a8 (aw (a8 (pv 1) (a8 (aw (a8 (dm cr ac) (a8 ac aa))) aa))) aa))) aa)) aa)) (a8 (aw (a8 ac (a8 ac aa))) aa)))))),?_⟩
 have dt:=ht.dp
 have dr:=hr'.dp
 obtain ⟨ts,rfl⟩:=ht.tup
 obtain ⟨rs,rfl⟩:=hr'.tup
 have e40:Trs.depth ts≤40:=by simp only [Tr.depth] at dt;omega
 have pu:Trs.pure ts:=by have:=c8 ht.ty;unfold Tr.pure at this;exact this
 refine ⟨_,rfl,_,rfl,ts,rs,hv,hu, .inl pu,e40,_,rfl,?_⟩
 have eqs:eqTs ts rs=eqT (.tup ts) (.tup rs):=by rw [eqT]
 by_cases e:(Tr.tup ts)= .tup rs
 · refine if_t (by rw [eqs,e,eA]) ?_
   refine ⟨by show 0≤sizeLine;decide,fun a na=> ?_⟩
   refine ⟨by show 2≤sizeLine;decide,fun b nb=> ?_⟩
   refine ⟨by show 3≤sizeLine;decide,fun c nc=> ?_⟩
   have s1:=ad (o:= .tup []) na
   have s2:=ad (o:= .tup [.int 0, .int 1]) nb
   have s3:=ad (o:= .tup [.str (Str.ofString "most"), .ref a, .ref b]) nc
   refine k (.ref c) _ [] (s1.trans (s2.trans s3)) (by rw [←e];exact rk _) (aO a9 (.cons jQ (.cons (aO ((s2.trans s3) _ _ a9) .nil) (.cons (bp (s3 _ _ a9)) .nil))))
 · refine if_f (by
    rw [eqs]
    cases z:eqT (.tup ts) (.tup rs) with
    |false=>rfl
    |true=>exact absurd (l9 ht.ty hr'.ty z) e) ?_
   refine dy ?_
   dsimp only
   refine ⟨_,rfl,by show 2≤sizeLine;decide,fun a na=> ?_⟩
   refine ⟨by show 2≤sizeLine;decide,fun b nb=> ?_⟩
   refine ⟨_,rfl,_,rfl,by show 2≤sizeLine;decide,fun c nc=> ?_⟩
   refine ⟨by show 2≤sizeLine;decide,fun d nd=> ?_⟩
   refine ⟨by show 2≤sizeLine;decide,fun l nl=> ?_⟩
   have s1:=ad (o:= .tup [.int 1, .int 1]) na
   have s2:=ad (o:= .tup [v, .ref a]) nb
   have s3:=ad (o:= .tup [.int (-1), .int 1]) nc
   have s4:=ad (o:= .tup [u, .ref c]) nd
   have s5:=ad (o:= .lst [.ref b, .ref d]) nl
   have s45:=s4.trans s5
   have s35:=s3.trans s45
   have s25:=s2.trans s35
   have s15:=s1.trans s25
   have g1:Gq 1 (.tup ts,p1):=⟨ht.ty,Nat.le_trans dt (by decide),gf_1 (.inr rfl),lq⟩
   have g2:Gq 1 (.tup rs,m1):=⟨hr'.ty,Nat.le_trans dr (by decide),gf_1 (.inl rfl),lr⟩
   have gq:∀x∈ [((Tr.tup ts,p1):Pq),(.tup rs,m1)].map prT,Ty .pr x∧x.depth≤8:=fun x m=>by
    simp only [List.map_cons,List.map_nil,List.mem_cons,List.not_mem_nil,or_false] at m
    rcases m with rfl|rfl
    · exact g1.pr
    · exact g2.pr
   refine ⟨l,_,[((Tr.tup ts,p1):Pq),(.tup rs,m1)].map prT,rfl,a9,?_,by simp,fun x m=>⟨kZ (.inr (gq x m).1),c8 (gq x m).1,by have:=(gq x m).2;omega⟩,fun x m y my=>l5 30 (by have:=(gq x m).2;omega) (gq x m).1 (gq y my).1,fun D ws us nD pm hT' srt=> ?_⟩
   · exact .cons (cN (s35 _ _ a9) (hv.mono (Kd.of_same s15)) (bp (s25 _ _ a9))) (.cons (cN (s5 _ _ a9) (hu.mono (Kd.of_same s15)) (bp (s45 _ _ a9))) .nil)
   obtain ⟨qs,rfl,pq⟩:=jr pm rfl
   have s6:=ad (o:= .lst ws) nD
   have hD:=a9 (a:=D) (o:= .lst ws) (H:=(upd (upd (upd (upd (upd H a (.tup [.int 1, .int 1])) b (.tup [v, .ref a])) c (.tup [.int (-1), .int 1])) d (.tup [u, .ref c])) l (.lst [.ref b, .ref d])))
   have wl:=hT'.len
   have ql:=pq.length_eq
   rw [List.length_map,ql] at wl
   refine ⟨D,ws,rfl, .inl ⟨SqL.of hD,fun q nq=> ?_⟩⟩
   have s7:=ad (o:= .tup ws) nq
   refine ⟨by show 2≤sizeLine;decide,fun z nz=> ?_⟩
   have s8:=ad (o:= .tup [.int 0, .int 1]) nz
   refine ⟨by show 3≤sizeLine;decide,fun y ny=> ?_⟩
   have s9:=ad (o:= .tup [.str (Str.ofString "most"), .ref q, .ref z]) ny
   have s79:=s7.trans (s8.trans s9)
   have s69:=s6.trans s79
   exact k (.ref y) _ qs (s15.trans s69) (u8 ht hr' e pq srt) (aO a9 (.cons jQ (.cons (aO ((s8.trans s9) _ _ a9) (hT'.mono (Kd.of_same s69))) (.cons (bp (s9 _ _ a9)) .nil))))
end
open PySem L2 Mth Tre Wd Dj Su
theorem uB {r:R2} {v:V} {tb:TE} {t u:TS} {Z:Ends} {σ:L2.St} {H:Hp} (h:tb σ H fun y H2=>r v y H2 fun x H3=>∃c,x= .bl c∧if c=true then t Z σ H3 else u Z σ H3):tIfS (nX (tOp r (tC v) tb)) t u Z σ H:=h
theorem nJ {te:TE} {i:Nat} {u:TS} {Z:Ends} {σ:L2.St} {H:Hp} (h:te σ H fun v H1=>u Z (σ.set i (some v)) H1):tSeq (tAsg te (aV i)) u Z σ H:=h
theorem nn (n:Nat):((List.replicate n true).any (· ==false))=false:=by
 induction n with
 |zero=>rfl
 |succ n ih=>rw [List.replicate_succ,List.any_cons,ih];rfl
structure Wq where
 r:Addr
 F:Addr
 D:Addr
 C:Addr
structure Wq.At (P:Program) (w:World) (K:PySem.W.Frag) (H:Hp) (n:Nat) (q:Wq):Prop where
 t:H q.r=some (.tup [.ref q.F, .ref q.D, .ref q.C])
 ws:WS P w K H q.F q.D q.C n
section
variable {P:Program} {w:World} {K:PySem.W.Frag} {H H':Hp} {q:Wq} {k:Nat}
theorem Wq.At.same (h:Wq.At P w K H k q) (s:Same H H'):Wq.At P w K H' k q:=⟨s _ _ h.t,h.ws.same s⟩
theorem Wq.At.but {tp c:Addr} {n m:Nat} (h:Wq.At P w K H k q) (x:TapeAt H tp c n) (b:But tp H H') (y:TapeAt H' tp c m):Wq.At P w K H' k q:=⟨b _ _ (fun z=>by
 obtain ⟨xs,ex⟩:=x.lst
 have:=h.t
 rw [z,ex] at this
 cases this) h.t,nw h.ws x b y⟩
theorem Wq.At.lst {G:Addr} {xs ys:List V} (h:Wq.At P w K H k q) (e:H G=some (.lst xs)):Wq.At P w K (upd H G (.lst ys)) k q:=by
 refine ⟨(ai fun z=> ?_).trans h.t,h.ws.kd (Kd.upd e) fun a o ha ea=>(ai fun z=> ?_).trans ea⟩
 · have:=h.t
   rw [z,e] at this
   cases this
 · rw [z] at ha
   obtain ⟨kF,f1,_⟩:=h.ws.fl
   obtain ⟨kV,v1,_⟩:=h.ws.va
   obtain ⟨kC,c1,_⟩:=h.ws.ca
   rcases ha with y|y|y
   · rw [←y,e] at f1;cases f1
   · rw [←y,e] at v1;cases v1
   · have:=c1.at_
     rw [←y,e] at this
     cases this
def t4 (p q:Wq):Prop:=p.D≠q.F∧p.D≠q.D∧p.D≠q.C
theorem Wq.At.put {d:Wq} {kV:List (Key×V)} {o:HO} (h:Wq.At P w K H k q) (e:H d.D=some (.dK kV)) (a:t4 d q):Wq.At P w K (upd H d.D o) k q:=by
 refine ⟨(ai fun z=> ?_).trans h.t,h.ws.kd (Kd.updK e) fun b u hb eb=>(ai fun z=> ?_).trans eb⟩
 · have:=h.t
   rw [z,e] at this
   cases this
 · rw [z] at hb
   rcases hb with y|y|y
   · exact a.1 y
   · exact a.2.1 y
   · exact a.2.2 y
theorem Wq.At.mono {m:Nat} (h:Wq.At P w K H k q) (hm:k≤m):Wq.At P w K H m q:=⟨h.t,h.ws.mono hm⟩
theorem qC {tp c D:Addr} {n:Nat} {kV:List (Key×V)} (h:TapeAt H tp c n) (e:H D=some (.dK kV)):D≠tp∧D≠c:=by
 rcases h with ⟨rfl,_,_,h⟩|⟨_,_,_,h1,h2,_⟩
 · exact ⟨fun z=>(by rw [z,h] at e;cases e),fun z=>(by rw [z,h] at e;cases e)⟩
 · exact ⟨fun z=>(by rw [z,h1] at e;cases e),fun z=>(by rw [z,h2] at e;cases e)⟩
theorem ui:Gv ((1,1):Fr):=⟨⟨by decide,by show (1:Nat) < 2^200;decide +kernel,by show (1:Nat) < 2^200;decide +kernel⟩,by decide,by decide⟩
theorem Wq.At.wat (h:Wq.At P w K H k q):∃W:Wld,W.Ok∧WAt P w K H (.ref q.r) W:=h.ws.at_ h.t
end
section
variable {P:Program} {w:World} {K:PySem.W.Frag} {mg:Str→Option Value} {base:Heap}
def lh (K:PySem.W.Frag) (Z:Addr):Sp:=fun vs H Q _=>∃(a:Addr) (ns:List Int),vs= [.ref a]∧SqL K H a (ns.map V.int)∧ns.length≤63∧AtZ H Z∧∀H',Q (.bl true) H'
theorem scL:az ["_law_script","_law_tape_here","_law_names_here","_law_worlds","_law_name","_law_k","_law_one","_law_other","_law_like","_law_level","_law_meet","_law_word","_law_due","_law_found"] ["_law_script"] (af sLaw):=⟨rfl,rfl,rfl,by decide +kernel,rfl,by decide +kernel,by decide +kernel⟩
theorem tW {f fTp fNm fDr fTe fLl fLr fRb fAl fWo fRT Z:Addr} {fd dTp dNm dDr dTe dLl dLr dRb dAl dWo dRT:FuncData} (F:Fun K "law" "law" sLaw f fd) (B:Blt mg)
 (gTp:FnOk P w K mg base CX0 1 fTp dTp ["_law_script"] (o8 K)) (kTp:PySem.W.keepIn K (.ref fTp)=true) (bTp:Binds K dTp ["_law_script"] []) (mTp:mg "_law_tape"=some (.ref fTp))
 (gNm:FnOk P w K mg base CX0 2 fNm dNm ["_law_tape_here"] lg) (kNm:PySem.W.keepIn K (.ref fNm)=true) (bNm:Binds K dNm ["_law_tape_here"] []) (mNm:mg "_law_names"=some (.ref fNm))
 (gDr:FnOk P w K mg base CX0 1 fDr dDr ["_law_tape_here","_law_many"] cQ) (kDr:PySem.W.keepIn K (.ref fDr)=true) (bDr:Binds K dDr ["_law_tape_here","_law_many"] []) (mDr:mg "_law_draw"=some (.ref fDr))
 (gTe:FnOk P w K mg base CX0 4 fTe dTe ["_law_tape_here","_law_names_here","_law_deep"] (jY 3)) (kTe:PySem.W.keepIn K (.ref fTe)=true) (bTe:Binds K dTe ["_law_tape_here","_law_names_here","_law_deep"] []) (mTe:mg "_law_term"=some (.ref fTe))
 (gLl:FnOk P w K mg base CX0 1 fLl dLl ["_law_one","_law_other"] spLl) (kLl:PySem.W.keepIn K (.ref fLl)=true) (bLl:Binds K dLl ["_law_one","_law_other"] []) (mLl:mg "_law_less"=some (.ref fLl))
 (gLr:FnOk P w K mg base CX0 1 fLr dLr ["_law_literals"] eK) (kLr:PySem.W.keepIn K (.ref fLr)=true) (bLr:Binds K dLr ["_law_literals"] []) (mLr:mg "_law_row"=some (.ref fLr))
 (gRb:FnOk P w K mg base CX0 20 fRb dRb ["wishes","rows","step"] (spRb Z)) (kRb:PySem.W.keepIn K (.ref fRb)=true) (bRb:Binds K dRb ["wishes","rows","step"] []) (mRb:mg "row_by"=some (.ref fRb))
 (gAl:FnOk P w K mg base CX0 31 fAl dAl ["_law_found","_law_due"] (spAl 30)) (kAl:PySem.W.keepIn K (.ref fAl)=true) (bAl:Binds K dAl ["_law_found","_law_due"] []) (mAl:mg "_law_alike"=some (.ref fAl))
 (gWo:FnOk P w K mg base CX0 6 fWo dWo ["_law_tape_here","_law_names_here"] (iG P w K)) (kWo:PySem.W.keepIn K (.ref fWo)=true) (bWo:Binds K dWo ["_law_tape_here","_law_names_here"] []) (mWo:mg "_law_world"=some (.ref fWo))
 (gRT:FnOk P w K mg base CX0 29 fRT dRT ["_law_row_here","_law_world_here"] (iJ P w K 64 19)) (kRT:PySem.W.keepIn K (.ref fRT)=true) (bRT:Binds K dRT ["_law_row_here","_law_world_here"] []) (mRT:mg "_law_row_true"=some (.ref fRT)):
 FnOk P w K mg base CX0 32 f fd ["_law_script"] (lh K Z):=by
 refine F.ok scL (fun vs H Q E h=> ?_) (fun cdv A outer s H vs Q E hr h=> ?_)
 · obtain ⟨a,ns,rfl,_⟩:=h
   rfl
 obtain ⟨a,ns,rfl,hS,hl,hZ,k⟩:=h
 have hr1:Room 1 _:=hr.mono (by decide)
 have hr2:Room 2 _:=hr.mono (by decide)
 have hr4:Room 4 _:=hr.mono (by decide)
 have hr6:Room 6 _:=hr.mono (by decide)
 have hr20:Room 20 _:=hr.mono (by decide)
 have hr29:Room 29 _:=hr.mono (by decide)
 have hun:=hr.units
 have hu1:=jH hr
 have hu50:_+50 < cLine:=Nat.lt_of_le_of_lt (Nat.add_le_add_left (by decide) _) hun
 have nd3:(["_law_k","_law_names_here","_law_tape_here"]:List Str).Nodup:=by decide +kernel
 have nd2:(["_law_world_here","_law_found"]:List Str).Nodup:=by decide +kernel
 refine ⟨_,ae (aH (i:=1) scL.nd rfl (Or.inr rfl) (ah gTp hr1 rfl mTp kTp bTp .nil aj (a8 (pv 0) aa)))
  (ae (aH (i:=2) scL.nd rfl (Or.inr rfl) (ah gNm hr2 rfl mNm kNm bNm .nil aj (a8 (pv 1) aa)))
  (ae (lD (i:=3) (NC:= ["_law_k","_law_names_here","_law_tape_here"]) (mp:= [none,some 2,some 1]) rfl scL.nd rfl rfl rfl (cb rfl B.ra (a8 ac aa)) (fun _ _ _ _ _=>aK (i:=0) nd3 rfl (Or.inl rfl)) (fun _ _ _ _ _=>bK) (fun _ _ _ _ _=>ah gWo hr6 rfl mWo kWo bWo .nil aj (a8 (pv 2) (a8 (pv 1) aa))))
  (ae (aI (ar aP (ah gDr hr1 rfl mDr kDr bDr .nil aj (a8 (pv 1) (a8 ac aa))) ac (au _))
   (ag (cJ PassesOwn.never rfl (cm (pv 2)) (aK (i:=4) scL.nd rfl (Or.inl rfl))
    (ag (iN hu1 (ao aq (ao aU (pv 3) ac fun _ _=>rfl) ac fun _ _=>rfl) (pv 4) (aw (a8 ac (a8 ac aa))) rfl)))) ak)
  (ae (cJ PassesOwn.never rfl (cb rfl B.ra (a8 ac aa)) (aK (i:=5) scL.nd rfl (Or.inl rfl))
   (ae (aH (i:=6) scL.nd rfl (Or.inl rfl) (ah gTe hr4 rfl mTe kTe bTe .nil aj (a8 (pv 1) (a8 (pv 2) (a8 ac aa)))))
   (ae (aH (i:=7) scL.nd rfl (Or.inl rfl) (ah gTe hr4 rfl mTe kTe bTe .nil aj (a8 (pv 1) (a8 (pv 2) (a8 ac aa)))))
   (ae (aI (ar aP (ah gDr hr1 rfl mDr kDr bDr .nil aj (a8 (pv 1) (a8 ac aa))) ac (au _)) (ag (aH (i:=7) scL.nd rfl (Or.inl rfl) (pv 6))) ak)
   (ae (aH (i:=8) scL.nd rfl (Or.inl rfl) (aw (a8 aM (a8 (pv 6) (a8 (pv 7) aa)))))
   (ae (aH (i:=9) scL.nd rfl (Or.inl rfl) (ah gLr hr1 rfl mLr kLr bLr .nil aj (a8 (bq (a8 (aw (a8 (pv 8) (a8 aY aa))) (a8 (aw (a8 (ah gLl hr1 rfl mLl kLl bLl .nil aj (a8 (pv 6) (a8 (pv 7) aa))) (a8 aY aa))) aa))) aa)))
   (ae (aH (i:=10) scL.nd rfl (Or.inl rfl) (ah gLr hr1 rfl mLr kLr bLr .nil aj (a8 (bq (a8 (aw (a8 (ah gLl hr1 rfl mLl kLl bLl .nil aj (a8 (pv 6) (a8 (pv 7) aa))) (a8 aY aa))) (a8 (aw (a8 (ah gLl hr1 rfl mLl kLl bLl .nil aj (a8 (pv 7) (a8 (pv 6) aa))) (a8 aY aa))) (a8 (aw (a8 (pv 8) (a8 aY aa))) aa)))) aa)))
   (ag (cJ PassesOwn.never rfl (cm (bq (a8 (aw (a8 aM (a8 (pv 9) aa))) (a8 (aw (a8 aM (a8 (pv 10) aa))) aa)))) (fM rfl (br (aK (i:=11) scL.nd rfl (Or.inl rfl)) (br (aK (i:=12) scL.nd rfl (Or.inl rfl)) e6)))
    (ae (aH (i:=13) scL.nd rfl (Or.inr rfl) (ah gRb hr20 rfl mRb kRb bRb .nil aj (a8 (bq aa) (a8 (bq aa) (a8 (aw (a8 (pv 11) (a8 (pv 6) (a8 (pv 7) aa)))) aa)))))
    (ae (aI (cT (bB (ah gAl hr rfl mAl kAl bAl .nil aj (a8 (pv 13) (a8 (pv 12) aa))))) (ag (am aY)) ak)
    (ag (aI (ar (ke hu50) aY (c9 (NC:= ["_law_world_here","_law_found"]) (mp:= [none,some 13]) rfl (cm (pv 3)) (fun _ _ _ _ _=>aK (i:=0) nd2 rfl (Or.inl rfl)) (fun _ _ _ _ _=>bK) (fun _ _ _ _ _=>ah gRT hr29 rfl mRT kRT bRT .nil aj (a8 (pv 1) (a8 (pv 0) aa)))) (by with_unfolding_all rfl)) (ag (am aY)) ak)))))))))))))
  (ag (am aY)))))),?_⟩
 have hL:(20000:Nat)≤sizeLine:=by decide +kernel
 refine ⟨_,rfl,a,ns,rfl,hS,hl,fun tp c H1 ntp s1 hT1=> ?_⟩
 have hZ1:=s1 _ _ hZ
 have nZ:Z≠tp:=fun z=>by
  obtain ⟨xs,ex⟩:=hT1.lst
  rw [z,ex] at hZ1
  cases hZ1
 refine ⟨_,rfl,tp,c,0,rfl,hT1,by decide,fun nl H2 hT2 b2 nnl hN2=> ?_⟩
 have nt:nl≠tp:=(hT1.ne nnl).1
 have hZ2:=b2 _ _ nZ hZ1
 clear hT1 b2 nnl hZ1 s1
 refine bz ?_
 try dsimp only
 refine nJ ?_
 refine bM (rest:= [some (.ref nl),some (.ref tp)]) rfl ?_
 refine ⟨3,rfl,by decide,by decide,fun G nG=> ?_⟩
 have nfG:=hT2.ne nG
 refine cM (n:=3) (fun i acc H'=>TapeAt H' tp c (10+i*400)∧But tp H2 H'∧H' G=some (.lst acc)∧∃qs:List Wq,acc=qs.map (fun q=>V.ref q.r)∧qs.length=i∧(∀q∈qs,Wq.At P w K H' 24 q)∧qs.Pairwise t4)
  ⟨(hT2.wr nfG).mono (by omega),(But.of_same (ad nG)),a9,[],rfl,rfl,(fun q m=>by cases m), .nil⟩ ?_ ?_
 · rintro i acc H' hi ⟨hT',bt,hG,qs,rfl,ql,hq,apt⟩
   refine ⟨_,rfl,_,rfl,tp,c,nl,10+i*400,rfl,hT',by omega,hN2.but nt bt,nt,fun r F D C H6 hT6 b6 nr nF nD nC ht hws=> ?_⟩
   have hG6:H6 G=some (.lst _):=b6 G _ nfG.1 hG
   have new:Wq.At P w K H6 24 ⟨r,F,D,C⟩:=⟨ht,hws⟩
   refine CompN.mk hi (by rw [List.length_map];omega) hG6 ⟨(hT6.wr nfG).mono (by omega),(bt.trans b6).wr nG,a9,qs++ [⟨r,F,D,C⟩],by rw [List.map_append];rfl,by rw [List.length_append,ql];rfl,fun q mq=> ?_,?_⟩
   · rcases List.mem_append.mp mq with mq|mq
     · exact ((hq q mq).but hT' b6 hT6).lst hG6
     · rw [List.mem_singleton.mp mq]
       exact new.lst hG6
   · refine List.pairwise_append.mpr ⟨apt,List.pairwise_singleton _ _,fun p mp q mq=> ?_⟩
     rw [List.mem_singleton.mp mq]
     obtain ⟨kV,v1,_⟩:=(hq p mp).ws.va
     refine ⟨fun z=> ?_,fun z=> ?_,fun z=> ?_⟩
     · rw [z] at v1;rw [nF] at v1;cases v1
     · rw [z] at v1;rw [nD] at v1;cases v1
     · rw [z] at v1;rw [nC] at v1;cases v1
 rintro acc H3 ⟨hT3,b3,hG3,qs,rfl,ql,hq3,apt⟩
 have hN3:=hN2.but nt b3
 have hZ3:=b3 _ _ nZ hZ2
 clear hT2 hN2 hZ2 b3
 try dsimp only
 refine dX (fun σ' H'=>TapeAt H' tp c 1400∧Names H' nl∧AtZ H' Z∧H' G=some (.lst (qs.map fun q=>V.ref q.r))∧(∀q∈qs,Wq.At P w K H' 40 q)∧∃x4,σ'= [some (.ref a),some (.ref tp),some (.ref nl),some (.ref G),x4,none,none,none,none,none,none,none,none,none]) ?_ fun nx hnx=> ?_
 rotate_left
 · refine ⟨_,rfl,tp,c,3,_,rfl,hT3,by omega,by decide,bX (by decide) (by decide),fun rr H4 r0 r3 hT4 kp4=> ?_⟩
   have b4:But tp H3 H4:=But.of_keep kp4
   have hN4:=hN3.but nt b4
   have hZ4:=b4 _ _ nZ hZ3
   have hG4:=b4 _ _ nfG.1 hG3
   have hq4:∀q∈qs,Wq.At P w K H4 24 q:=fun q m=>(hq3 q m).but hT3 b4 hT4
   clear hT3 hN3 hZ3 hG3 hq3 b4 kp4
   refine ⟨rfl,_,rfl,?_⟩
   refine ite2 (fun z=> ?_) (fun z=> ?_)
   rotate_left
   · first|exact hnx _ _ ⟨hT4.mono (by omega),hN4,hZ4,hG4,fun q m=>(hq4 q m).mono (by decide),_,rfl⟩|exact dy (hnx _ _ ⟨hT4.mono (by omega),hN4,hZ4,hG4,fun q m=>(hq4 q m).mono (by decide),_,rfl⟩)
   obtain ⟨xa,xb,xc,eN,rN⟩:=hN4
   obtain ⟨q0,qr,rfl⟩:∃q0 qr,qs=q0::qr:=by
    cases qs with
    |nil=>cases ql
    |cons q0 qr=>exact ⟨q0,qr,rfl⟩
   obtain ⟨ap0,_⟩:=List.pairwise_cons.mp apt
   refine ⟨_,rfl,nl,rfl,⟨_,SqL.of eN⟩,?_⟩
   refine cD (xs:= [.str xa, .str xb, .str xc]) (fun i σ H'=>TapeAt H' tp c 1300∧H' nl=some (.lst [.str xa, .str xb, .str xc])∧AtZ H' Z∧H' G=some (.lst ((q0::qr).map fun q=>V.ref q.r))∧(∀q∈q0::qr,Wq.At P w K H' (24+i) q)∧∃x4,σ= [some (.ref a),some (.ref tp),some (.ref nl),some (.ref G),x4,none,none,none,none,none,none,none,none,none])
    ⟨hT4.mono (by omega),eN,hZ4,hG4,hq4,_,rfl⟩ (fun i σ H' _ p=>SqL.of p.2.1) ?_ ?_
   · rintro i x σ H5 ex ⟨hT5,eN5,hZ5,hG5,hq5,x4,rfl⟩
     obtain ⟨x,rfl⟩:∃y:Str,x= .str y:=by
      have m:=List.mem_of_getElem? ex
      simp only [List.mem_cons,List.not_mem_nil,or_false] at m
      rcases m with rfl|rfl|rfl<;>exact ⟨_,rfl⟩
     have hi:i < 3:=(List.getElem?_eq_some_iff.mp ex).1
     refine bz ?_
     try dsimp only
     refine ⟨by show 2≤sizeLine;decide,fun p np=> ?_⟩
     have s6:=ad (o:= .tup [.int 1, .int 1]) np
     have g6:=a9 (H:=H5) (a:=p) (o:= .tup [.int 1, .int 1])
     have hT6:=hT5.same s6
     have eN6:=s6 _ _ eN5
     have hZ6:=s6 _ _ hZ5
     have hG6:=s6 _ _ hG5
     have hq6:∀q∈q0::qr,Wq.At P w K _ (24+i) q:=fun q m=>(hq5 q m).same s6
     generalize upd H5 p (.tup [.int 1, .int 1])=H6 at s6 g6 hT6 eN6 hZ6 hG6 hq6 ⊢
     have h0:=hq6 q0 List.mem_cons_self
     obtain ⟨kV,v1,v2,v3⟩:=h0.ws.va
     refine ⟨_,rfl,G,_,0, .ref q0.r,rfl,rfl,SqL.of hG6,eJ (j:=0) (by simp),q0.r,_,1, .ref q0.D,rfl,rfl,SqT.of h0.t,eJ (j:=1) (by simp),_,rfl,q0.D,_,rfl,DPut.k (k:=Sum.inr x) v1 (by omega),?_⟩
     have nd:∀ {b:Addr} {xs:List V},(H6 b=some (.lst xs)∨H6 b=some (.tup xs))→b≠q0.D:=fun hb z=>by
      rw [z,v1] at hb
      rcases hb with hb|hb<;>cases hb
     refine ⟨hT6.wr (qC hT6 v1),(ai (nd (.inl eN6))).trans eN6,(ai (nd (.inr hZ6))).trans hZ6,(ai (nd (.inl hG6))).trans hG6,fun q mq=> ?_,_,rfl⟩
     rcases List.mem_cons.mp mq with rfl|mq
     · exact ⟨(ai (nd (.inr h0.t))).trans h0.t,h0.ws.putV v1 (bp g6) ui⟩
     · exact ((hq6 q (List.mem_cons_of_mem _ mq)).put v1 (ap0 q mq)).mono (by omega)
   · rintro σ H5 ⟨hT5,eN5,hZ5,hG5,hq5,x4,rfl⟩
     exact hnx _ _ ⟨hT5.mono (by omega),⟨xa,xb,xc,eN5,rN⟩,hZ5,hG5,fun q m=>(hq5 q m).mono (by show 24+3≤40;decide),_,rfl⟩
 rintro σ' H4 ⟨hT4,hN4,hZ4,hG4,hq4,x4,rfl⟩
 clear hT3 hN3 hZ3 hG3 hq3 apt
 refine ⟨3,rfl,by decide,by decide,?_⟩
 refine ij (n:=3) (fun i σ H'=>TapeAt H' tp c (1400+i*300)∧Names H' nl∧AtZ H' Z∧H' G=some (.lst (qs.map fun q=>V.ref q.r))∧(∀q∈qs,Wq.At P w K H' 40 q)∧∃x4 x5 x6 x7 x8 x9 x10 x11 x12 x13,σ= [some (.ref a),some (.ref tp),some (.ref nl),some (.ref G),x4,x5,x6,x7,x8,x9,x10,x11,x12,x13])
  ⟨hT4,hN4,hZ4,hG4,hq4,_,_,_,_,_,_,_,_,_,_,rfl⟩ ?_ (fun σ H' _=>k H')
 clear hT4 hN4 hZ4 hG4 hq4
 rintro i σ H0 hi ⟨hT0,hN0,hZ0,hG0,hq0,x4,x5,x6,x7,x8,x9,x10,x11,x12,x13,rfl⟩
 refine bz ?_
 try dsimp only
 refine ⟨_,rfl,_,rfl,tp,c,nl,2,1400+i*300,rfl,hT0,by show 1400+i*300+64≤1000000;omega,hN0,nt,by decide,fun v t H1 hT1 b1 hv ty ln dp=> ?_⟩
 have gt:GT t:=⟨ty,ln,dp⟩
 replace hT1:TapeAt H1 tp c (1400+i*300+64):=hT1
 have hN1:=hN0.but nt b1
 refine bz ?_
 try dsimp only
 refine ⟨_,rfl,_,rfl,tp,c,nl,2,1400+i*300+64,rfl,hT1,by show 1400+i*300+64+64≤1000000;omega,hN1,nt,by decide,fun u r H2 hT2 b2 hu ty2 ln2 dp2=> ?_⟩
 have gr:GT r:=⟨ty2,ln2,dp2⟩
 replace hT2:TapeAt H2 tp c (1400+i*300+64+64):=hT2
 have hv2:=hv.mono (b2.kd hT1 hT2)
 have b02:=b1.trans b2
 clear hv hN1 ty ln dp ty2 ln2 dp2
 refine bz ?_
 try dsimp only
 refine dX (fun σ' H'=>TapeAt H' tp c (1400+i*300+130)∧But tp H0 H'∧TrAt H' v t∧∃u' r',TrAt H' u' r'∧GT r'∧σ'= [some (.ref a),some (.ref tp),some (.ref nl),some (.ref G),x4,some (.int ((0:Int)+(i:Int))),some v,some u',x8,x9,x10,x11,x12,x13]) ?_ fun nx hnx=> ?_
 rotate_left
 · refine ⟨_,rfl,tp,c,5,_,rfl,hT2,by omega,by decide,bX (by decide) (by decide),fun rr H3 r0 r3 hT3 kp3=> ?_⟩
   have b3:But tp H2 H3:=But.of_keep kp3
   have kd3:=b3.kd hT2 hT3
   refine ⟨rfl,_,rfl,?_⟩
   refine ite2 (fun z=> ?_) (fun z=> ?_)
   · exact ⟨_,rfl,hnx _ _ ⟨hT3.mono (by omega),b02.trans b3,hv2.mono kd3,v,t,hv2.mono kd3,gt,rfl⟩⟩
   · first|exact hnx _ _ ⟨hT3.mono (by omega),b02.trans b3,hv2.mono kd3,u,r,hu.mono kd3,gr,rfl⟩|exact dy (hnx _ _ ⟨hT3.mono (by omega),b02.trans b3,hv2.mono kd3,u,r,hu.mono kd3,gr,rfl⟩)
 rintro σ' H3 ⟨hT3,b3,hv3,u',r',hu3,gr',rfl⟩
 clear hu gr hv2 hT1 hT2 b1 b2 b02
 have hN3:=hN0.but nt b3
 have hZ3:=b3 _ _ nZ hZ0
 have hG3:=b3 _ _ nfG.1 hG0
 have hq3:∀q∈qs,Wq.At P w K H3 40 q:=fun q m=>(hq0 q m).but hT0 b3 hT3
 clear hT0 hN0 hZ0 hG0 hq0 b3
 refine ⟨_,rfl,_,rfl,by show 3≤sizeLine;decide,fun lp nlp=> ?_⟩
 have s4:=ad (o:= .tup [.str (Str.ofString "like"),v,u']) nlp
 have g4:=a9 (H:=H3) (a:=lp) (o:= .tup [.str (Str.ofString "like"),v,u'])
 generalize upd H3 lp (.tup [.str (Str.ofString "like"),v,u'])=H4 at s4 g4 ⊢
 have hv4:=hv3.mono (Kd.of_same s4)
 have hu4:=hu3.mono (Kd.of_same s4)
 have hlk:TrAt H4 (.ref lp) (likT t r'):=aO g4 (.cons jQ (.cons hv4 (.cons hu4 .nil)))
 refine bz ?_
 try dsimp only
 refine ⟨_,rfl,by show 2≤sizeLine;decide,fun p1 np1=> ?_⟩
 have s5:=ad (o:= .tup [.ref lp, .bl false]) np1
 have g5:=a9 (H:=H4) (a:=p1) (o:= .tup [.ref lp, .bl false])
 generalize upd H4 p1 (.tup [.ref lp, .bl false])=H5 at s5 g5 ⊢
 refine ⟨_,rfl,_,rfl,v,u',t,r',rfl,hv4.mono (Kd.of_same s5),hu4.mono (Kd.of_same s5),gt,gr',fun x1 H6 us1 s6 ls1 hx1=> ?_⟩
 refine ⟨by show 2≤sizeLine;decide,fun p2 np2=> ?_⟩
 have s7:=ad (o:= .tup [x1, .bl true]) np2
 have g7:=a9 (H:=H6) (a:=p2) (o:= .tup [x1, .bl true])
 generalize upd H6 p2 (.tup [x1, .bl true])=H7 at s7 g7 ⊢
 refine ⟨by show 2≤sizeLine;decide,fun l1 nl1=> ?_⟩
 have s8:=ad (o:= .lst [.ref p1, .ref p2]) nl1
 have g8:=a9 (H:=H7) (a:=l1) (o:= .lst [.ref p1, .ref p2])
 generalize upd H7 l1 (.lst [.ref p1, .ref p2])=H8 at s8 g8 ⊢
 have du1:Du (Str.ofString "level") t r' [lkT t r' false,mlT us1 true]:= .le t r' us1 ls1
 have s58:=s5.trans (s6.trans (s7.trans s8))
 have s68:=s6.trans (s7.trans s8)
 refine ⟨l1,_,_,rfl,g8, .cons (aO (s68 _ _ g5) (.cons (hlk.mono (Kd.of_same s58)) (.cons gz .nil))) (.cons (aO (s8 _ _ g7) (.cons (hx1.mono (Kd.of_same (s7.trans s8))) (.cons gz .nil))) .nil),by show 2 < 64;decide,fun l m=>(du1.lo gt gr' l m).ty,fun lv H9 rs1 s9 ro1 hlv=> ?_⟩
 have s49:=s58.trans s9
 have hv9:=hv4.mono (Kd.of_same s49)
 have hu9:=hu4.mono (Kd.of_same s49)
 have hlk9:=hlk.mono (Kd.of_same s49)
 have s39:=s4.trans s49
 clear s5 s6 s7 s8 g5 g7 g8 s58 s68 s49 hx1 hlk hv4 hu4 g4 np1 np2 nl1 nlp s9
 refine bz ?_
 try dsimp only
 refine ⟨_,rfl,_,rfl,v,u',t,r',rfl,hv9,hu9,gt,gr',fun y1 HA us2 sA ls2 hy1=> ?_⟩
 refine ⟨by show 2≤sizeLine;decide,fun p3 np3=> ?_⟩
 have sB:=ad (o:= .tup [y1, .bl false]) np3
 have gB:=a9 (H:=HA) (a:=p3) (o:= .tup [y1, .bl false])
 generalize upd HA p3 (.tup [y1, .bl false])=HB at sB gB ⊢
 have sAB:=sA.trans sB
 refine ⟨_,rfl,_,rfl,u',v,r',t,rfl,hu9.mono (Kd.of_same sAB),hv9.mono (Kd.of_same sAB),gr',gt,fun y2 HC vs2 sC ls3 hy2=> ?_⟩
 refine ⟨by show 2≤sizeLine;decide,fun p4 np4=> ?_⟩
 have sD:=ad (o:= .tup [y2, .bl false]) np4
 have gD:=a9 (H:=HC) (a:=p4) (o:= .tup [y2, .bl false])
 generalize upd HC p4 (.tup [y2, .bl false])=HD at sD gD ⊢
 refine ⟨_,rfl,by show 2≤sizeLine;decide,fun p5 np5=> ?_⟩
 have sE:=ad (o:= .tup [.ref lp, .bl true]) np5
 have gE:=a9 (H:=HD) (a:=p5) (o:= .tup [.ref lp, .bl true])
 generalize upd HD p5 (.tup [.ref lp, .bl true])=HE at sE gE ⊢
 refine ⟨by show 3≤sizeLine;decide,fun l2 nl2=> ?_⟩
 have sF:=ad (o:= .lst [.ref p3, .ref p4, .ref p5]) nl2
 have gF:=a9 (H:=HE) (a:=l2) (o:= .lst [.ref p3, .ref p4, .ref p5])
 generalize upd HE l2 (.lst [.ref p3, .ref p4, .ref p5])=HF at sF gF ⊢
 have du2:Du (Str.ofString "meet") t r' [mlT us2 false,mlT vs2 false,lkT t r' true]:= .me t r' us2 vs2 ls2 ls3
 have sDF:=sD.trans (sE.trans sF)
 have sCF:=sC.trans sDF
 have sBF:=sB.trans sCF
 refine ⟨l2,_,_,rfl,gF, .cons (aO (sCF _ _ gB) (.cons (hy1.mono (Kd.of_same sBF)) (.cons gz .nil))) (.cons (aO ((sE.trans sF) _ _ gD) (.cons (hy2.mono (Kd.of_same sDF)) (.cons gz .nil))) (.cons (aO (sF _ _ gE) (.cons (hlk9.mono (Kd.of_same (sA.trans sBF))) (.cons gz .nil))) .nil)),by show 3 < 64;decide,fun l m=>(du2.lo gt gr' l m).ty,fun mv HG rs2 sG ro2 hmv=> ?_⟩
 have s9G:=(sA.trans sBF).trans sG
 have hvG:=hv9.mono (Kd.of_same s9G)
 have huG:=hu9.mono (Kd.of_same s9G)
 have hlvG:=hlv.mono (Kd.of_same s9G)
 have s3G:=s39.trans s9G
 clear sA sB sC sD sE sF gB gD gE gF sAB sDF sCF sBF hy1 hy2 hlk9 hv9 hu9 hlv s39 s9G np3 np4 np5 nl2 sG
 refine bz ?_
 try dsimp only
 refine ⟨_,rfl,by show 2≤sizeLine;decide,fun pA npA=> ?_⟩
 have sH:=ad (o:= .tup [.str (Str.ofString "level"),lv]) npA
 have gH:=a9 (H:=HG) (a:=pA) (o:= .tup [.str (Str.ofString "level"),lv])
 generalize upd HG pA (.tup [.str (Str.ofString "level"),lv])=HH at sH gH ⊢
 refine ⟨_,rfl,by show 2≤sizeLine;decide,fun pB npB=> ?_⟩
 have sI:=ad (o:= .tup [.str (Str.ofString "meet"),mv]) npB
 have gI:=a9 (H:=HH) (a:=pB) (o:= .tup [.str (Str.ofString "meet"),mv])
 generalize upd HH pB (.tup [.str (Str.ofString "meet"),mv])=HI at sI gI ⊢
 refine ⟨by show 2≤sizeLine;decide,fun il nil'=> ?_⟩
 have sJ:=ad (o:= .lst [.ref pA, .ref pB]) nil'
 have gJ:=a9 (H:=HI) (a:=il) (o:= .lst [.ref pA, .ref pB])
 generalize upd HI il (.lst [.ref pA, .ref pB])=HJ at sJ gJ ⊢
 have sGJ:=sH.trans (sI.trans sJ)
 have s3J:=s3G.trans sGJ
 have hvJ:=hvG.mono (Kd.of_same sGJ)
 have huJ:=huG.mono (Kd.of_same sGJ)
 have two:∀x∈ [V.ref pA, .ref pB],∃(p:Addr) (kd:Str) (dv:V) (ls rs:List Tr),x= .ref p∧HJ p=some (.tup [.str kd,dv])∧Knd kd∧Du kd t r' ls∧ix ls rs∧TrAt HJ dv (.tup rs):=by
  intro x m
  simp only [List.mem_cons,List.not_mem_nil,or_false] at m
  rcases m with rfl|rfl
  · exact ⟨pA,_,lv,_,rs1,rfl,(sI.trans sJ) _ _ gH, .inl rfl,du1,ro1,hlvG.mono (Kd.of_same sGJ)⟩
  · exact ⟨pB,_,mv,_,rs2,rfl,sJ _ _ gI, .inr rfl,du2,ro2,hmv.mono (Kd.of_same sGJ)⟩
 have hTJ:=(hT3.same s3J).mono (show 1400+i*300+130≤1400+(i+1)*300 by omega)
 have hNJ:=hN3.but nt (But.of_same s3J)
 have hZJ:=s3J _ _ hZ3
 have hGJ:=s3J _ _ hG3
 have hqJ:∀q∈qs,Wq.At P w K HJ 40 q:=fun q m=>(hq3 q m).same s3J
 clear sH sI sJ gH gI sGJ s3J hvG huG hlvG hmv s3G hT3 hN3 hZ3 hG3 hq3 npA npB nil' hv3 hu3 du1 du2 ro1 ro2 s4
 refine ⟨il,rfl,⟨_,SqL.of gJ⟩,?_⟩
 generalize [V.ref pA, .ref pB]=prs at gJ two
 refine cD (xs:=prs) (fun n σ H'=>Same HJ H'∧∃y11 y12 y13,σ= [some (.ref a),some (.ref tp),some (.ref nl),some (.ref G),x4,some (.int ((0:Int)+(i:Int))),some v,some u',some (.ref lp),some lv,some mv,y11,y12,y13])
  ⟨Same.refl _,_,_,_,rfl⟩ (fun n σ H' _ p=>SqL.of (p.1 _ _ gJ)) ?_ ?_
 · rintro n x σ HK ex ⟨sK,y11,y12,y13,rfl⟩
   obtain ⟨p,kd,dv,ls,rs,rfl,hp,hkd,du,ro,hdv⟩:=two x (List.mem_of_getElem? ex)
   refine ⟨p,_,rfl,SqT.of (sK _ _ hp),rfl,_,_,rfl,_,_,rfl,rfl,?_⟩
   refine ⟨by show 0≤sizeLine;decide,fun e1 n1=>⟨by show 0≤sizeLine;decide,fun e2 n2=>⟨_,rfl,_,rfl,_,rfl,by show 3≤sizeLine;decide,fun st nst'=> ?_⟩⟩⟩
   have sL:=(ad (o:= .lst []) n1).trans ((ad (o:= .lst []) n2).trans (ad (o:= .tup [.str kd,v,u']) nst'))
   have gL:=a9 (H:=upd (upd HK e1 (.lst [])) e2 (.lst [])) (a:=st) (o:= .tup [.str kd,v,u'])
   generalize upd (upd (upd HK e1 (.lst [])) e2 (.lst [])) st (.tup [.str kd,v,u'])=HL at sL gL ⊢
   have sJL:=sK.trans sL
   refine ⟨.ref e1, .ref e2,st,kd,v,u',t,r',rfl,gL,hvJ.mono (Kd.of_same sJL),huJ.mono (Kd.of_same sJL),hkd,gt,gr',sJL _ _ hZJ,fun fv HM ls' rs' sM du' ro' hfv=> ?_⟩
   have els:=du'.uniq du
   subst els
   have ers:rs'=rs:=by
    have:=ro'.eq.symm.trans ro.eq
    injection this
   subst ers
   have sJM:=sJL.trans sM
   have hdvM:=hdv.mono (Kd.of_same sJM)
   have hlo:∀l∈rs',Lo l:=fun l m=>du.lo gt gr' l ((ro.mem l).mp m)
   have hpu:Tr.pure (.tup rs'):=by
    unfold Tr.pure
    exact cS fun l m=>c8 (hlo l m).ty.1
   have hgl:∀l∈rs',Wd.Gl l∧l.depth≤12:=fun l m=>by
    obtain ⟨b,c',rfl,g,d⟩:=hlo l m
    exact rF g d
   have hdp:Tr.depth (.tup rs') < 30:=by
    have:=cf fun l m=>(hgl l m).2
    unfold Tr.depth
    omega
   have rl:rs'.length≤3:=Nat.le_trans ro.len du.len
   refine bz ?_
   try dsimp only
   refine ⟨_,rfl,_,rfl,_,_,rfl,sg 30 hfv hdvM hpu hdp,fun HN sN=>⟨true,rfl,iteF ?_⟩⟩
   have sJN:=sJM.trans sN
   have hfvN:=hfv.mono (Kd.of_same sN)
   refine dy ?_
   dsimp only
   refine uB ?_
   refine bM (rest:= [some fv]) rfl ?_
   refine ⟨_,rfl,G,rfl,⟨_,SqL.of (sJN _ _ hGJ)⟩,fun M nM=> ?_⟩
   refine nj (xs:=qs.map fun q=>V.ref q.r) (fun i acc H'=>Same HN H'∧H' M=some (.lst acc)∧acc=(List.replicate i true).map V.bl) ⟨ad nM,a9,rfl⟩ (fun i acc H' h=>SqL.of (h.1 _ _ (sJN _ _ hGJ))) ?_ ?_
   · rintro i' u acc H' hi' eu ⟨s',hM,rfl⟩
     rw [List.length_map] at hi'
     obtain ⟨q,mq,rfl⟩:=List.mem_map.mp (List.mem_of_getElem? eu)
     obtain ⟨W,oW,hW⟩:=((hqJ q mq).same (sJN.trans s')).wat
     refine ⟨_,rfl,_,rfl,fv, .ref q.r,rs',W,rfl,hfvN.mono (Kd.of_same s'),by omega,fun t m=>⟨(hgl t m).1,by have:=(hgl t m).2;omega⟩,oW,hW,fun HO' sO=> ?_⟩
     rw [qI ro W,du.true oW]
     refine CompN.mk (by rw [List.length_map];exact hi') (by rw [List.length_map,List.length_replicate];omega) (sO _ _ hM) ⟨bx nM (s'.trans sO),a9,?_⟩
     rw [List.replicate_succ',List.map_append]
     rfl
   rintro acc H' ⟨s',hM,rfl⟩
   refine ⟨M,_,_, .bl false,rfl, .inl hM,gy,by unfold TrAt;rfl,dl,by simp [Tr.pure],?_⟩
   rw [eF,nn]
   exact ⟨_,rfl,iteF ⟨sJN.trans s',_,_,_,rfl⟩⟩
 · rintro σ HK ⟨sK,y11,y12,y13,rfl⟩
   exact ⟨hTJ.same sK,hNJ.but nt (But.of_same sK),sK _ _ hZJ,sK _ _ hGJ,fun q m=>(hqJ q m).same sK,_,_,_,_,_,_,_,_,_,_,rfl⟩
end
end K27
namespace L2
open PySem PySem.Spec PyProof.Rows
theorem mI {P:Program} {w:World} {K:PySem.W.Frag} {mg mb:Str→Option Value} {CX:CXT} {k:Nat} {fa a:Addr} {fd:FuncData} {x:Str} {sp:Sp} {s₁:Shared} {vs:List Value} {ns:List Int}
 (KX:K.In s₁.heap) (hns:s₁.heap.Ns mainGlobals mg) (hb:s₁.heap.Ns builtinsNs mb) (hbb:∀x:Str,x≠"__name__"→mb x=bootBuiltins x) (hlim:s₁.heap.NoLimit) (hg:s₁.gens= #[])
 (ha:s₁.heap.get? a=some {cls:= .type "list",data:= .seq vs.toArray}) (hi:IntsAre vs ns) (hl:ns.length≤sizeLine) (hr:Room k callerA)
 (F:∀base:Heap,K.In base→base.Ns mainGlobals mg→FnOk P w K mg base CX k fa fd [x] sp) (hbind:∀(s:Shared) (u:Value),BindsTo s fd ⟨[u],[]⟩ [(x,u)])
 {Z:Addr} {oZ:Obj} {zs:List V} {its:List Value} {nZ:Nat} (lZ:K.lookup Z=some oZ) (cZ:oZ.cls= .type "tuple") (dZ:oZ.data= .seq its.toArray nZ) (rZ:Vals zs its) (lz:zs.length≤sizeLine)
 (hsp:∀H:Hp,H Z=some (.tup zs)→SqL K H a (ns.map V.int)→sp [.ref a] H (fun v _=>v= .bl true) fun _ _ _=>False)
 (hCX:∀H e s',CX [] H s₁ (fun _ _ _=>False) e s'→False):
 codeAny (model P w) callerA (.call (.ref fa) ⟨[.ref a],[]⟩) (fun r s'=>r= .ok (.ret (.bool true))∧OldK s₁.heap s'.heap∧s'.os=s₁.os∧AllBare s'.gens) s₁:=by
 have rv:=gU hi
 have lenV:=hi.length
 have core:∀H:Hp,Only H→SqL K H a (ns.map V.int)→HOk P w H s₁.heap→(∀b,H b≠none→b=a)→(H a≠none→K.lookup a=none)→
  codeAny (model P w) callerA (.call (.ref fa) ⟨[.ref a],[]⟩) (fun r s'=>r= .ok (.ret (.bool true))∧OldK s₁.heap s'.heap∧s'.os=s₁.os∧AllBare s'.gens) s₁:=by
  intro H hO hS hok hA hK
  have base_of:∀ {b:Addr} {o:Obj},s₁.heap.get? b=some o→H b=none→(hidT s₁.heap H).get? b=some o:=fun e n=>ph e n
  have noA:∀ {b:Addr} {o:Obj} {es:Array DictEntry} {ep:Nat},s₁.heap.get? b=some o→o.data= .dict es ep→H b=none:=fun {b o es ep} e d=>by
   cases q:H b with
   |none=>rfl
   |some u=>
    have e':b=a:=hA b (by rw [q];simp)
    subst e'
    rw [ha] at e;cases e
    have d':Data.seq vs.toArray _=Data.dict es ep:=d
    cases d'
  have nsK:∀ {b:Addr} {m:Str→Option Value},s₁.heap.Ns b m→(hidT s₁.heap H).Ns b m:=fun {b m} ⟨o,es,ep,e,d,r⟩=>⟨o,es,ep,base_of e (noA e d),d,r⟩
  have sqZ:SqL K H a (ns.map V.int)→SqL K (upd H Z (.tup zs)) a (ns.map V.int):=fun h=>by
   have ne:∀u,H a=some u→a≠Z:=fun u q y=>by
    have:=hK (by rw [q];simp)
    rw [y,lZ] at this
    cases this
   rcases h with (h|⟨o,h⟩)|h
   · exact .inl (.inl ((ai (ne _ h)).trans h))
   · exact .inl (.inr ⟨o,(ai (ne _ h)).trans h⟩)
   · exact .inr h
  have hKb:K.In (hidT s₁.heap H):=fun b o e=>base_of (KX b o e) (by
   cases q:H b with
   |none=>rfl
   |some u=>
    have e':b=a:=hA b (by rw [q];simp)
    subst e'
    rw [hK (by rw [q];simp)] at e;cases e)
  have hM:Mod K mg (hidT s₁.heap H):=⟨hKb,nsK hns,⟨mb,nsK hb,hbb⟩,let ⟨mc,h1,h2⟩:=hlim;⟨mc,nsK h1,h2⟩⟩
  have hZn:H Z=none:=(iR (hKb Z oZ lZ)).2
  have idl:∀b,H b=none→Idl (upd H Z (.tup zs) b):=fun b n=>by
   by_cases e:b=Z
   · subst e
     exact .inr ⟨zs,a9⟩
   · exact .inl (by rw [ai e];exact n)
  have hokZ:HOk P w (upd H Z (.tup zs)) s₁.heap:=fun b u e=>by
   by_cases hb:b=Z
   · subst hb
     rw [a9] at e
     cases e
     exact ⟨lz,its,rZ,oZ,KX _ _ lZ,cZ,nZ,dZ⟩
   · rw [ai hb] at e
     exact (hok b u e).stay (fun c v _ q=>q) (fun c q=>by rw [ai (aD q hZn)];exact q) fun c xs q=>by rw [ai (aD q hZn)];exact q
  have e0:Env0 P w K mg (hidT s₁.heap H) callerA [] s₁ (upd H Z (.tup zs)):=⟨rfl,hM,fun b o e=>⟨(iR e).1,idl b (iR e).2⟩,Nat.le_of_eq (ng _ _),trivial,fun b hb=>absurd (show b∈([]:List Addr) from hb) (by simp),hokZ, .of_eq hg⟩
  refine codeAny_mono ((F _ hKb (nsK hns)).run callerA [] s₁ (upd H Z (.tup zs)) ⟨[.ref a],[]⟩ [.ref a] [.ref a] _ _ hr e0 (hbind s₁ (.ref a)) (.cons rfl .nil) (hsp _ a9 (sqZ hS))) fun r s' h=> ?_
  cases r with
  |error e=>exact (hCX _ e s' h).elim
  |ok fl=>
   cases fl with
   |next=>exact False.elim h
   |brk=>exact False.elim h
   |cont=>exact False.elim h
   |ret u=>
    obtain ⟨v,H',os,bare,un,hok',r',q⟩:=h
    have q':v= .bl true:=q
    subst q'
    obtain rfl:u=Value.bool true:=r'
    refine ⟨rfl,OldK.of_keep fun b o e=> ?_,os,bare⟩
    cases q:H b with
    |none=>exact un.keep b o e (idl b q) (by intro z;exact absurd (show b∈([]:List Addr) from z) (by simp)) (by simp)
    |some u=>
     rcases hO b with z|⟨ob,xs,z⟩
     · rw [q] at z;cases z
     · have z2:=un.frzs b ob _ ((ai fun y=>by rw [y,hZn] at z;cases z).trans z)
       obtain ⟨e1,_⟩:=hok b _ z
       obtain ⟨e2,_⟩:=hok' b _ z2
       rw [e] at e1;cases e1
       exact e2
 cases hk:K.lookup a with
 |some o=>
  have e:=KX a o hk
  rw [ha] at e
  cases e
  refine core (fun _=>none) (fun _=> .inl rfl) (.inr ⟨_,vs.toArray,_,hk,rfl,rfl,rfl,by rw [List.size_toArray,lenV];exact hl,by simpa using rv⟩) (fun b u z=>by have z':(none:Option HO)=some u:=z;cases z') (fun b z=>absurd rfl z) fun z=>absurd rfl z
 |none=>
  refine core (fun b=>if b=a then some (.frz {cls:= .type "list",data:= .seq vs.toArray} (.lst (ns.map V.int))) else none) (fun b=> ?_) (.inl (.inr ⟨{cls:= .type "list",data:= .seq vs.toArray},if_pos rfl⟩)) (fun b u z=> ?_) (fun b z=> ?_) fun _=>hk
  · by_cases hb:b=a
    · exact .inr ⟨_,_,if_pos hb⟩
    · exact .inl (if_neg hb)
  · by_cases hb:b=a
    · have z':=(if_pos hb).symm.trans z
      cases z'
      subst hb
      exact ⟨ha,by rw [List.length_map];exact hl,vs,_,rv,ha⟩
    · have z':=(if_neg hb).symm.trans z
      cases z'
  · by_cases hb:b=a
    · exact hb
    · exact absurd (if_neg hb) z
theorem walk_ofZ {l:PySem.W.OpenLaw} {n k:Nat} {q:Program} {loose:List Str} {XP:(Str→Option Value)→Heap→Prop} {YP:World→Heap→Prop} {d:DefRec} {K:Params→PySem.W.Frag} {CX:World→CXT} {sp:World→Addr→Sp} {zs:List V} {x:Str}
 (hn:l.most=some n) (hn2:n≤sizeLine) (hdf:d.params.defaults= []) (hr:Room k callerA)
 (hY:∀(w:World) (h:Heap),YP w h→(K w.params).In h)
 (F:∀(w:World) (mg:Str→Option Value) (fa:Addr) (h:Heap),(K w.params).In h→h.Ns mainGlobals mg→mg d.name=some (.ref fa)→
  ∃(Z:Addr) (oZ:Obj) (its:List Value) (nZ:Nat),(K w.params).lookup Z=some oZ∧oZ.cls= .type "tuple"∧oZ.data= .seq its.toArray nZ∧Vals zs its∧zs.length≤sizeLine∧∃fd:FuncData,(∀(s:Shared) (u:Value),BindsTo s fd ⟨[u],[]⟩ [(x,u)])∧
   ∀base:Heap,(K w.params).In base→base.Ns mainGlobals mg→FnOk l.prog w (K w.params) mg base (CX w) k fa fd [x] (sp w Z))
 (hsp:∀(w:World) (H:Hp) (a Z:Addr) (ns:List Int),ns.length≤n→H Z=some (.tup zs)→SqL (K w.params) H a (ns.map V.int)→sp w Z [.ref a] H (fun v _=>v= .bl true) fun _ _ _=>False)
 (hCX:∀(w:World) (H:Hp) (s:Shared) (e:Value) (s':Shared),CX w [] H s (fun _ _ _=>False) e s'→False):
 PySem.W.WalkO q loose XP YP l.row.toRowW d [] (fun f vs=>PySem.call f vs):=by
 refine Att.attach_call hn hdf fun w s₀ s₁ mg mb fa o pm cd doc a vs ns G Y ho hd hcd hmg hobj hints hlen hg=> ?_
 have KX:=hY w _ Y
 obtain ⟨Z,oZ,its,nZ,lZ,cZ,dZ,rZ,lz,fd,hb,hF⟩:=F w mg fa _ KX G.T.g hmg
 exact mI KX G.T.g G.T.b G.T.builtins G.T.nolimit hg hobj hints (Nat.le_trans hlen hn2) hr hF hb lZ cZ dZ rZ lz (fun H hO hS=>hsp w H a Z ns hlen hO hS) fun H e s'=>hCX w H s₁ e s'
end L2
namespace K27
open PySem L2 Mth Wd
theorem ex0 {n:Nat} (us:List Value) (hl:us.length=n+1):∃a vs,us=a::vs∧vs.length=n:=by
 cases us with
 |nil=>cases hl
 |cons a vs=>exact ⟨a,vs,rfl,Nat.succ.inj hl⟩
theorem ex1 (us:List Value) (hl:us.length=1):∃a,us= [a]:=by
 obtain ⟨a,vs,rfl,h⟩:=ex0 us hl
 exact ⟨a,by rw [List.eq_nil_of_length_eq_zero h]⟩
theorem ex2 (us:List Value) (hl:us.length=2):∃a b,us= [a,b]:=by
 obtain ⟨a,vs,rfl,h⟩:=ex0 us hl
 obtain ⟨b,rfl⟩:=ex1 vs h
 exact ⟨a,b,rfl⟩
theorem ex3 (us:List Value) (hl:us.length=3):∃a b c,us= [a,b,c]:=by
 obtain ⟨a,vs,rfl,h⟩:=ex0 us hl
 obtain ⟨b,c,rfl⟩:=ex2 vs h
 exact ⟨a,b,c,rfl⟩
theorem all_mk {l:PySem.W.OpenLaw} {w:World} {K:PySem.W.Frag} {h:Heap} {mg:Str→Option Value} {fa C fI:Addr} (X:K.In h) (G:h.Ns mainGlobals mg) (hfa:mg "law"=some (.ref fa))
 {odI anI:Option Addr} {slI:Array (Option Value)} {ocI kVI dcI pmI cdI ctI:Value}
 {fCD:Addr} {odCD anCD:Option Addr} {slCD:Array (Option Value)} {ocCD kVCD dcCD pmCD cdCD ctCD:Value}
 {fFR:Addr} {odFR anFR:Option Addr} {slFR:Array (Option Value)} {ocFR kVFR dcFR pmFR cdFR ctFR:Value}
 {fPL:Addr} {odPL anPL:Option Addr} {slPL:Array (Option Value)} {ocPL kVPL dcPL pmPL cdPL ctPL:Value}
 {fTI:Addr} {odTI anTI:Option Addr} {slTI:Array (Option Value)} {ocTI kVTI dcTI pmTI cdTI ctTI:Value}
 {fRO:Addr} {odRO anRO:Option Addr} {slRO:Array (Option Value)} {ocRO kVRO dcRO pmRO cdRO ctRO:Value}
 {fSU:Addr} {odSU anSU:Option Addr} {slSU:Array (Option Value)} {ocSU kVSU dcSU pmSU cdSU ctSU:Value}
 {fLS:Addr} {odLS anLS:Option Addr} {slLS:Array (Option Value)} {ocLS kVLS dcLS pmLS cdLS ctLS:Value}
 {fQO:Addr} {odQO anQO:Option Addr} {slQO:Array (Option Value)} {ocQO kVQO dcQO pmQO cdQO ctQO:Value}
 {fQN:Addr} {odQN anQN:Option Addr} {slQN:Array (Option Value)} {ocQN kVQN dcQN pmQN cdQN ctQN:Value}
 {fQT:Addr} {odQT anQT:Option Addr} {slQT:Array (Option Value)} {ocQT kVQT dcQT pmQT cdQT ctQT:Value}
 {fQC:Addr} {odQC anQC:Option Addr} {slQC:Array (Option Value)} {ocQC kVQC dcQC pmQC cdQC ctQC:Value}
 {fQ2:Addr} {odQ2 anQ2:Option Addr} {slQ2:Array (Option Value)} {ocQ2 kVQ2 dcQ2 pmQ2 cdQ2 ctQ2:Value}
 {fQS:Addr} {odQS anQS:Option Addr} {slQS:Array (Option Value)} {ocQS kVQS dcQS pmQS cdQS ctQS:Value}
 {fLK:Addr} {odLK anLK:Option Addr} {slLK:Array (Option Value)} {ocLK kVLK dcLK pmLK cdLK ctLK:Value}
 {fNA:Addr} {odNA anNA:Option Addr} {slNA:Array (Option Value)} {ocNA kVNA dcNA pmNA cdNA ctNA:Value}
 {fR2:Addr} {odR2 anR2:Option Addr} {slR2:Array (Option Value)} {ocR2 kVR2 dcR2 pmR2 cdR2 ctR2:Value}
 {fRB:Addr} {odRB anRB:Option Addr} {slRB:Array (Option Value)} {ocRB kVRB dcRB pmRB cdRB ctRB:Value}
 {fTP:Addr} {odTP anTP:Option Addr} {slTP:Array (Option Value)} {ocTP kVTP dcTP pmTP cdTP ctTP:Value}
 {fDR:Addr} {odDR anDR:Option Addr} {slDR:Array (Option Value)} {ocDR kVDR dcDR pmDR cdDR ctDR:Value}
 {fNM:Addr} {odNM anNM:Option Addr} {slNM:Array (Option Value)} {ocNM kVNM dcNM pmNM cdNM ctNM:Value}
 {fWH:Addr} {odWH anWH:Option Addr} {slWH:Array (Option Value)} {ocWH kVWH dcWH pmWH cdWH ctWH:Value}
 {fSH:Addr} {odSH anSH:Option Addr} {slSH:Array (Option Value)} {ocSH kVSH dcSH pmSH cdSH ctSH:Value}
 {fTE:Addr} {odTE anTE:Option Addr} {slTE:Array (Option Value)} {ocTE kVTE dcTE pmTE cdTE ctTE:Value}
 {fAL:Addr} {odAL anAL:Option Addr} {slAL:Array (Option Value)} {ocAL kVAL dcAL pmAL cdAL ctAL:Value}
 {fWO:Addr} {odWO anWO:Option Addr} {slWO:Array (Option Value)} {ocWO kVWO dcWO pmWO cdWO ctWO:Value}
 {fWD:Addr} {odWD anWD:Option Addr} {slWD:Array (Option Value)} {ocWD kVWD dcWD pmWD cdWD ctWD:Value}
 {fLV:Addr} {odLV anLV:Option Addr} {slLV:Array (Option Value)} {ocLV kVLV dcLV pmLV cdLV ctLV:Value}
 {fLH:Addr} {odLH anLH:Option Addr} {slLH:Array (Option Value)} {ocLH kVLH dcLH pmLH cdLH ctLH:Value}
 {fRT:Addr} {odRT anRT:Option Addr} {slRT:Array (Option Value)} {ocRT kVRT dcRT pmRT cdRT ctRT:Value}
 {fLR:Addr} {odLR anLR:Option Addr} {slLR:Array (Option Value)} {ocLR kVLR dcLR pmLR cdLR ctLR:Value}
 {fLL:Addr} {odLL anLL:Option Addr} {slLL:Array (Option Value)} {ocLL kVLL dcLL pmLL cdLL ctLL:Value}
 {fLA:Addr} {odLA anLA:Option Addr} {slLA:Array (Option Value)} {ocLA kVLA dcLA pmLA cdLA ctLA:Value}
 {nm qn:Str} {Nn:Addr} {bs bm:List Value} {hdct:Bool} {sn:List Str} {sub:List Value} {ab:Bool} {col:Option Bool} {dd:Option Addr} {k0 k1 k2 k3 k5:Option Value}
 {Z:Addr} {dZ:Option Addr} {nZ:Nat} {sZ:Array (Option Value)} {t0 t1:Tok}
 {Zk:Addr} {dk:Option Addr} {nk:Nat} {sk:Array (Option Value)} {tk1 tk2 u1 u2 u3 u4:Tok}
 (aC:PySem.W.nsIn K mainGlobals "NoShare"=some (some (.ref C)))
 (iI:PySem.W.findIn K (.ref C) "__init__"=some (some (.ref fI)))
 (fnI:PySem.W.isFn K (.ref fI)=true)
 (lI:K.lookup fI=some ⟨ocI,odI, .func (PySem.W.fnOf "__init__" "WishError.__init__" (ax fJ) (av fJ) (af fJ) .none kVI dcI pmI anI cdI ctI),slI⟩)
 (cI:PySem.W.codeIn K cdI "WishError.__init__"=true)
 (kI:PySem.W.keepIn K (.ref fI)=true)
 (aCD:PySem.W.nsIn K mainGlobals "common_divisor"=some (some (.ref fCD)))
 (lCD:K.lookup fCD=some ⟨ocCD,odCD, .func (PySem.W.fnOf "common_divisor" "common_divisor" (ax sCd) (av sCd) (af sCd) .none kVCD dcCD pmCD anCD cdCD ctCD),slCD⟩)
 (cCD:PySem.W.codeIn K cdCD "common_divisor"=true)
 (kCD:PySem.W.keepIn K (.ref fCD)=true)
 (aFR:PySem.W.nsIn K mainGlobals "fraction"=some (some (.ref fFR)))
 (lFR:K.lookup fFR=some ⟨ocFR,odFR, .func (PySem.W.fnOf "fraction" "fraction" (ax sFr) (av sFr) (af sFr) .none kVFR dcFR pmFR anFR cdFR ctFR),slFR⟩)
 (cFR:PySem.W.codeIn K cdFR "fraction"=true)
 (kFR:PySem.W.keepIn K (.ref fFR)=true)
 (aPL:PySem.W.nsIn K mainGlobals "plus"=some (some (.ref fPL)))
 (lPL:K.lookup fPL=some ⟨ocPL,odPL, .func (PySem.W.fnOf "plus" "plus" (ax i5) (av i5) (af i5) .none kVPL dcPL pmPL anPL cdPL ctPL),slPL⟩)
 (cPL:PySem.W.codeIn K cdPL "plus"=true)
 (kPL:PySem.W.keepIn K (.ref fPL)=true)
 (aTI:PySem.W.nsIn K mainGlobals "times"=some (some (.ref fTI)))
 (lTI:K.lookup fTI=some ⟨ocTI,odTI, .func (PySem.W.fnOf "times" "times" (ax eP) (av eP) (af eP) .none kVTI dcTI pmTI anTI cdTI ctTI),slTI⟩)
 (cTI:PySem.W.codeIn K cdTI "times"=true)
 (kTI:PySem.W.keepIn K (.ref fTI)=true)
 (aRO:PySem.W.nsIn K mainGlobals "row_of"=some (some (.ref fRO)))
 (lRO:K.lookup fRO=some ⟨ocRO,odRO, .func (PySem.W.fnOf "row_of" "row_of" (ax sRow) (av sRow) (af sRow) .none kVRO dcRO pmRO anRO cdRO ctRO),slRO⟩)
 (cRO:PySem.W.codeIn K cdRO "row_of"=true)
 (kRO:PySem.W.keepIn K (.ref fRO)=true)
 (aSU:PySem.W.nsIn K mainGlobals "sum_of"=some (some (.ref fSU)))
 (lSU:K.lookup fSU=some ⟨ocSU,odSU, .func (PySem.W.fnOf "sum_of" "sum_of" (ax sSum) (av sSum) (af sSum) .none kVSU dcSU pmSU anSU cdSU ctSU),slSU⟩)
 (cSU:PySem.W.codeIn K cdSU "sum_of"=true)
 (kSU:PySem.W.keepIn K (.ref fSU)=true)
 (aLS:PySem.W.nsIn K mainGlobals "less_sum"=some (some (.ref fLS)))
 (lLS:K.lookup fLS=some ⟨ocLS,odLS, .func (PySem.W.fnOf "less_sum" "less_sum" (ax eV) (av eV) (af eV) .none kVLS dcLS pmLS anLS cdLS ctLS),slLS⟩)
 (cLS:PySem.W.codeIn K cdLS "less_sum"=true)
 (kLS:PySem.W.keepIn K (.ref fLS)=true)
 (aQO:PySem.W.nsIn K mainGlobals "is_tuple_of"=some (some (.ref fQO)))
 (lQO:K.lookup fQO=some ⟨ocQO,odQO, .func (PySem.W.fnOf "is_tuple_of" "is_tuple_of" (ax sIto) (av sIto) (af sIto) .none kVQO dcQO pmQO anQO cdQO ctQO),slQO⟩)
 (cQO:PySem.W.codeIn K cdQO "is_tuple_of"=true)
 (kQO:PySem.W.keepIn K (.ref fQO)=true)
 (aQN:PySem.W.nsIn K mainGlobals "is_name"=some (some (.ref fQN)))
 (lQN:K.lookup fQN=some ⟨ocQN,odQN, .func (PySem.W.fnOf "is_name" "is_name" (ax sNmQ) (av sNmQ) (af sNmQ) .none kVQN dcQN pmQN anQN cdQN ctQN),slQN⟩)
 (cQN:PySem.W.codeIn K cdQN "is_name"=true)
 (kQN:PySem.W.keepIn K (.ref fQN)=true)
 (aQT:PySem.W.nsIn K mainGlobals "is_term"=some (some (.ref fQT)))
 (lQT:K.lookup fQT=some ⟨ocQT,odQT, .func (PySem.W.fnOf "is_term" "is_term" (ax sTmQ) (av sTmQ) (af sTmQ) .none kVQT dcQT pmQT anQT cdQT ctQT),slQT⟩)
 (cQT:PySem.W.codeIn K cdQT "is_term"=true)
 (kQT:PySem.W.keepIn K (.ref fQT)=true)
 (aQC:PySem.W.nsIn K mainGlobals "are_call_terms"=some (some (.ref fQC)))
 (lQC:K.lookup fQC=some ⟨ocQC,odQC, .func (PySem.W.fnOf "are_call_terms" "are_call_terms" (ax sCtQ) (av sCtQ) (af sCtQ) .none kVQC dcQC pmQC anQC cdQC ctQC),slQC⟩)
 (cQC:PySem.W.codeIn K cdQC "are_call_terms"=true)
 (kQC:PySem.W.keepIn K (.ref fQC)=true)
 (aQ2:PySem.W.nsIn K mainGlobals "is_step_of_two"=some (some (.ref fQ2)))
 (lQ2:K.lookup fQ2=some ⟨ocQ2,odQ2, .func (PySem.W.fnOf "is_step_of_two" "is_step_of_two" (ax sSt2) (av sSt2) (af sSt2) .none kVQ2 dcQ2 pmQ2 anQ2 cdQ2 ctQ2),slQ2⟩)
 (cQ2:PySem.W.codeIn K cdQ2 "is_step_of_two"=true)
 (kQ2:PySem.W.keepIn K (.ref fQ2)=true)
 (aQS:PySem.W.nsIn K mainGlobals "is_step"=some (some (.ref fQS)))
 (lQS:K.lookup fQS=some ⟨ocQS,odQS, .func (PySem.W.fnOf "is_step" "is_step" (ax sStp) (av sStp) (af sStp) .none kVQS dcQS pmQS anQS cdQS ctQS),slQS⟩)
 (cQS:PySem.W.codeIn K cdQS "is_step"=true)
 (kQS:PySem.W.keepIn K (.ref fQS)=true)
 (aLK:PySem.W.nsIn K mainGlobals "like"=some (some (.ref fLK)))
 (lLK:K.lookup fLK=some ⟨ocLK,odLK, .func (PySem.W.fnOf "like" "like" (ax i6) (av i6) (af i6) .none kVLK dcLK pmLK anLK cdLK ctLK),slLK⟩)
 (cLK:PySem.W.codeIn K cdLK "like"=true)
 (kLK:PySem.W.keepIn K (.ref fLK)=true)
 (aNA:PySem.W.nsIn K mainGlobals "not_above"=some (some (.ref fNA)))
 (lNA:K.lookup fNA=some ⟨ocNA,odNA, .func (PySem.W.fnOf "not_above" "not_above" (ax sNab) (av sNab) (af sNab) .none kVNA dcNA pmNA anNA cdNA ctNA),slNA⟩)
 (cNA:PySem.W.codeIn K cdNA "not_above"=true)
 (kNA:PySem.W.keepIn K (.ref fNA)=true)
 (aR2:PySem.W.nsIn K mainGlobals "row_of_two"=some (some (.ref fR2)))
 (lR2:K.lookup fR2=some ⟨ocR2,odR2, .func (PySem.W.fnOf "row_of_two" "row_of_two" (ax sRo2) (av sRo2) (af sRo2) .none kVR2 dcR2 pmR2 anR2 cdR2 ctR2),slR2⟩)
 (cR2:PySem.W.codeIn K cdR2 "row_of_two"=true)
 (kR2:PySem.W.keepIn K (.ref fR2)=true)
 (aRB:PySem.W.nsIn K mainGlobals "row_by"=some (some (.ref fRB)))
 (lRB:K.lookup fRB=some ⟨ocRB,odRB, .func (PySem.W.fnOf "row_by" "row_by" (ax sRby) (av sRby) (af sRby) .none kVRB dcRB pmRB anRB cdRB ctRB),slRB⟩)
 (cRB:PySem.W.codeIn K cdRB "row_by"=true)
 (kRB:PySem.W.keepIn K (.ref fRB)=true)
 (aTP:PySem.W.nsIn K mainGlobals "_law_tape"=some (some (.ref fTP)))
 (lTP:K.lookup fTP=some ⟨ocTP,odTP, .func (PySem.W.fnOf "_law_tape" "_law_tape" (ax i4) (av i4) (af i4) .none kVTP dcTP pmTP anTP cdTP ctTP),slTP⟩)
 (cTP:PySem.W.codeIn K cdTP "_law_tape"=true)
 (kTP:PySem.W.keepIn K (.ref fTP)=true)
 (aDR:PySem.W.nsIn K mainGlobals "_law_draw"=some (some (.ref fDR)))
 (lDR:K.lookup fDR=some ⟨ocDR,odDR, .func (PySem.W.fnOf "_law_draw" "_law_draw" (ax dY) (av dY) (af dY) .none kVDR dcDR pmDR anDR cdDR ctDR),slDR⟩)
 (cDR:PySem.W.codeIn K cdDR "_law_draw"=true)
 (kDR:PySem.W.keepIn K (.ref fDR)=true)
 (aNM:PySem.W.nsIn K mainGlobals "_law_names"=some (some (.ref fNM)))
 (lNM:K.lookup fNM=some ⟨ocNM,odNM, .func (PySem.W.fnOf "_law_names" "_law_names" (ax eU) (av eU) (af eU) .none kVNM dcNM pmNM anNM cdNM ctNM),slNM⟩)
 (cNM:PySem.W.codeIn K cdNM "_law_names"=true)
 (kNM:PySem.W.keepIn K (.ref fNM)=true)
 (aWH:PySem.W.nsIn K mainGlobals "_law_whole"=some (some (.ref fWH)))
 (lWH:K.lookup fWH=some ⟨ocWH,odWH, .func (PySem.W.fnOf "_law_whole" "_law_whole" (ax eO) (av eO) (af eO) .none kVWH dcWH pmWH anWH cdWH ctWH),slWH⟩)
 (cWH:PySem.W.codeIn K cdWH "_law_whole"=true)
 (kWH:PySem.W.keepIn K (.ref fWH)=true)
 (aSH:PySem.W.nsIn K mainGlobals "_law_share"=some (some (.ref fSH)))
 (lSH:K.lookup fSH=some ⟨ocSH,odSH, .func (PySem.W.fnOf "_law_share" "_law_share" (ax eQ) (av eQ) (af eQ) .none kVSH dcSH pmSH anSH cdSH ctSH),slSH⟩)
 (cSH:PySem.W.codeIn K cdSH "_law_share"=true)
 (kSH:PySem.W.keepIn K (.ref fSH)=true)
 (aTE:PySem.W.nsIn K mainGlobals "_law_term"=some (some (.ref fTE)))
 (lTE:K.lookup fTE=some ⟨ocTE,odTE, .func (PySem.W.fnOf "_law_term" "_law_term" (ax i0) (av i0) (af i0) .none kVTE dcTE pmTE anTE cdTE ctTE),slTE⟩)
 (cTE:PySem.W.codeIn K cdTE "_law_term"=true)
 (kTE:PySem.W.keepIn K (.ref fTE)=true)
 (aAL:PySem.W.nsIn K mainGlobals "_law_alike"=some (some (.ref fAL)))
 (lAL:K.lookup fAL=some ⟨ocAL,odAL, .func (PySem.W.fnOf "_law_alike" "_law_alike" (ax eW) (av eW) (af eW) .none kVAL dcAL pmAL anAL cdAL ctAL),slAL⟩)
 (cAL:PySem.W.codeIn K cdAL "_law_alike"=true)
 (kAL:PySem.W.keepIn K (.ref fAL)=true)
 (aWO:PySem.W.nsIn K mainGlobals "_law_worth"=some (some (.ref fWO)))
 (lWO:K.lookup fWO=some ⟨ocWO,odWO, .func (PySem.W.fnOf "_law_worth" "_law_worth" (ax eL) (av eL) (af eL) .none kVWO dcWO pmWO anWO cdWO ctWO),slWO⟩)
 (cWO:PySem.W.codeIn K cdWO "_law_worth"=true)
 (kWO:PySem.W.keepIn K (.ref fWO)=true)
 (aWD:PySem.W.nsIn K mainGlobals "_law_world"=some (some (.ref fWD)))
 (lWD:K.lookup fWD=some ⟨ocWD,odWD, .func (PySem.W.fnOf "_law_world" "_law_world" (ax eM) (av eM) (af eM) .none kVWD dcWD pmWD anWD cdWD ctWD),slWD⟩)
 (cWD:PySem.W.codeIn K cdWD "_law_world"=true)
 (kWD:PySem.W.keepIn K (.ref fWD)=true)
 (aLV:PySem.W.nsIn K mainGlobals "_law_value"=some (some (.ref fLV)))
 (lLV:K.lookup fLV=some ⟨ocLV,odLV, .func (PySem.W.fnOf "_law_value" "_law_value" (ax de) (av de) (af de) .none kVLV dcLV pmLV anLV cdLV ctLV),slLV⟩)
 (cLV:PySem.W.codeIn K cdLV "_law_value"=true)
 (kLV:PySem.W.keepIn K (.ref fLV)=true)
 (aLH:PySem.W.nsIn K mainGlobals "_law_holds"=some (some (.ref fLH)))
 (lLH:K.lookup fLH=some ⟨ocLH,odLH, .func (PySem.W.fnOf "_law_holds" "_law_holds" (ax df) (av df) (af df) .none kVLH dcLH pmLH anLH cdLH ctLH),slLH⟩)
 (cLH:PySem.W.codeIn K cdLH "_law_holds"=true)
 (kLH:PySem.W.keepIn K (.ref fLH)=true)
 (aRT:PySem.W.nsIn K mainGlobals "_law_row_true"=some (some (.ref fRT)))
 (lRT:K.lookup fRT=some ⟨ocRT,odRT, .func (PySem.W.fnOf "_law_row_true" "_law_row_true" (ax eR) (av eR) (af eR) .none kVRT dcRT pmRT anRT cdRT ctRT),slRT⟩)
 (cRT:PySem.W.codeIn K cdRT "_law_row_true"=true)
 (kRT:PySem.W.keepIn K (.ref fRT)=true)
 (aLR:PySem.W.nsIn K mainGlobals "_law_row"=some (some (.ref fLR)))
 (lLR:K.lookup fLR=some ⟨ocLR,odLR, .func (PySem.W.fnOf "_law_row" "_law_row" (ax i7) (av i7) (af i7) .none kVLR dcLR pmLR anLR cdLR ctLR),slLR⟩)
 (cLR:PySem.W.codeIn K cdLR "_law_row"=true)
 (kLR:PySem.W.keepIn K (.ref fLR)=true)
 (aLL:PySem.W.nsIn K mainGlobals "_law_less"=some (some (.ref fLL)))
 (lLL:K.lookup fLL=some ⟨ocLL,odLL, .func (PySem.W.fnOf "_law_less" "_law_less" (ax sLLs) (av sLLs) (af sLLs) .none kVLL dcLL pmLL anLL cdLL ctLL),slLL⟩)
 (cLL:PySem.W.codeIn K cdLL "_law_less"=true)
 (kLL:PySem.W.keepIn K (.ref fLL)=true)
 (aLA:PySem.W.nsIn K mainGlobals "law"=some (some (.ref fLA)))
 (lLA:K.lookup fLA=some ⟨ocLA,odLA, .func (PySem.W.fnOf "law" "law" (ax sLaw) (av sLaw) (af sLaw) .none kVLA dcLA pmLA anLA cdLA ctLA),slLA⟩)
 (cLA:PySem.W.codeIn K cdLA "law"=true)
 (kLA:PySem.W.keepIn K (.ref fLA)=true)
 (kC:PySem.W.keepIn K (.ref C)=true)
 (lC:K.lookup C=some (excClassObj nm qn C Nn bs bm hdct sn sub ab col dd k0 k1 k2 k3 k5 "ValueError.__new__"))
 (aZ:PySem.W.nsIn K mainGlobals "ZERO"=some (some (.ref Z)))
 (lZ:K.lookup Z=some ⟨.type "tuple",dZ, .seq #[.int 0 t0, .int 1 t1] nZ,sZ⟩)
 (aZk:PySem.W.nsIn K mainGlobals "TWO_TERM_KINDS"=some (some (.ref Zk)))
 (lZk:K.lookup Zk=some ⟨.type "tuple",dk, .seq #[.str (Str.ofString "turn") u1, .str (Str.ofString "calls") u2, .str (Str.ofString "level") u3, .str (Str.ofString "meet") u4] nk,sk⟩)
 (aML:PySem.W.nsIn K mainGlobals "MOST_LETTERS"=some (some (.int 8 tk1)))
 (aMC:PySem.W.nsIn K mainGlobals "MOST_IN_CALL"=some (some (.int 3 tk2)))
 (z_abs:PySem.W.nsIn K mainGlobals "abs"=some none)
 (z_len:PySem.W.nsIn K mainGlobals "len"=some none)
 (z_range:PySem.W.nsIn K mainGlobals "range"=some none)
 (z_isinstance:PySem.W.nsIn K mainGlobals "isinstance"=some none)
 (z_tuple:PySem.W.nsIn K mainGlobals "tuple"=some none)
 (z_int:PySem.W.nsIn K mainGlobals "int"=some none)
 (z_bool:PySem.W.nsIn K mainGlobals "bool"=some none)
 (z_list:PySem.W.nsIn K mainGlobals "list"=some none)
 (z_str:PySem.W.nsIn K mainGlobals "str"=some none)
 (z_all:PySem.W.nsIn K mainGlobals "all"=some none)
 (z_any:PySem.W.nsIn K mainGlobals "any"=some none)
 (z_zip:PySem.W.nsIn K mainGlobals "zip"=some none)
 (z_sorted:PySem.W.nsIn K mainGlobals "sorted"=some none)
 (z_ValueError:PySem.W.nsIn K mainGlobals "ValueError"=some none)
 (ln:Line "ValueError" bm):
 ∃(Z':Addr) (oZ:Obj) (its:List Value) (nZ':Nat),K.lookup Z'=some oZ∧oZ.cls= .type "tuple"∧oZ.data= .seq its.toArray nZ'∧Vals [.int 0, .int 1] its∧ [V.int 0, .int 1].length≤sizeLine∧∃fd:FuncData,(∀(s:Shared) (v:Value),BindsTo s fd ⟨[v],[]⟩ [("_law_script",v)])∧∀base:Heap,K.In base→base.Ns mainGlobals mg→FnOk l.prog w K mg base CX0 32 fa fd ["_law_script"] (lh K Z'):=by
 have e:=hfa.symm.trans (PySem.W.mg_of X G aLA)
 cases e
 have B:Blt mg:=⟨PySem.W.mg_none_of X G z_abs,PySem.W.mg_none_of X G z_len,PySem.W.mg_none_of X G z_range,PySem.W.mg_none_of X G z_isinstance,PySem.W.mg_none_of X G z_tuple,PySem.W.mg_none_of X G z_int,PySem.W.mg_none_of X G z_bool,PySem.W.mg_none_of X G z_list,PySem.W.mg_none_of X G z_str,PySem.W.mg_none_of X G z_all,PySem.W.mg_none_of X G z_any,PySem.W.mg_none_of X G z_zip,PySem.W.mg_none_of X G z_sorted,PySem.W.mg_none_of X G z_ValueError⟩
 have FI:=aJ (st:=fJ) lI cI kI
 have bI:=FI.binds (ps:= ["self","words"]) fun _ _ _ _ _ _ us hl=>match us,hl with| [_,_],_=>rfl
 have FCD:=aJ (st:=sCd) lCD cCD kCD
 have bCD:=FCD.binds (ps:= ["one","other"]) fun _ _ _ _ _ _ us hl=>by obtain ⟨_,_,rfl⟩:=ex2 us hl;rfl
 have mCD:=PySem.W.mg_of X G aCD
 have FFR:=aJ (st:=sFr) lFR cFR kFR
 have bFR:=FFR.binds (ps:= ["top","bottom"]) fun _ _ _ _ _ _ us hl=>by obtain ⟨_,_,rfl⟩:=ex2 us hl;rfl
 have mFR:=PySem.W.mg_of X G aFR
 have FPL:=aJ (st:=i5) lPL cPL kPL
 have bPL:=FPL.binds (ps:= ["one","other"]) fun _ _ _ _ _ _ us hl=>by obtain ⟨_,_,rfl⟩:=ex2 us hl;rfl
 have mPL:=PySem.W.mg_of X G aPL
 have FTI:=aJ (st:=eP) lTI cTI kTI
 have bTI:=FTI.binds (ps:= ["one","other"]) fun _ _ _ _ _ _ us hl=>by obtain ⟨_,_,rfl⟩:=ex2 us hl;rfl
 have mTI:=PySem.W.mg_of X G aTI
 have FRO:=aJ (st:=sRow) lRO cRO kRO
 have bRO:=FRO.binds (ps:= ["literals"]) fun _ _ _ _ _ _ us hl=>by obtain ⟨_,rfl⟩:=ex1 us hl;rfl
 have mRO:=PySem.W.mg_of X G aRO
 have FSU:=aJ (st:=sSum) lSU cSU kSU
 have bSU:=FSU.binds (ps:= ["pairs"]) fun _ _ _ _ _ _ us hl=>by obtain ⟨_,rfl⟩:=ex1 us hl;rfl
 have mSU:=PySem.W.mg_of X G aSU
 have FLS:=aJ (st:=eV) lLS cLS kLS
 have bLS:=FLS.binds (ps:= ["one","other"]) fun _ _ _ _ _ _ us hl=>by obtain ⟨_,_,rfl⟩:=ex2 us hl;rfl
 have mLS:=PySem.W.mg_of X G aLS
 have FQO:=aJ (st:=sIto) lQO cQO kQO
 have bQO:=FQO.binds (ps:= ["thing","count"]) fun _ _ _ _ _ _ us hl=>by obtain ⟨_,_,rfl⟩:=ex2 us hl;rfl
 have mQO:=PySem.W.mg_of X G aQO
 have FQN:=aJ (st:=sNmQ) lQN cQN kQN
 have bQN:=FQN.binds (ps:= ["thing"]) fun _ _ _ _ _ _ us hl=>by obtain ⟨_,rfl⟩:=ex1 us hl;rfl
 have mQN:=PySem.W.mg_of X G aQN
 have FQT:=aJ (st:=sTmQ) lQT cQT kQT
 have bQT:=FQT.binds (ps:= ["thing"]) fun _ _ _ _ _ _ us hl=>by obtain ⟨_,rfl⟩:=ex1 us hl;rfl
 have mQT:=PySem.W.mg_of X G aQT
 have FQC:=aJ (st:=sCtQ) lQC cQC kQC
 have bQC:=FQC.binds (ps:= ["thing"]) fun _ _ _ _ _ _ us hl=>by obtain ⟨_,rfl⟩:=ex1 us hl;rfl
 have mQC:=PySem.W.mg_of X G aQC
 have FQ2:=aJ (st:=sSt2) lQ2 cQ2 kQ2
 have bQ2:=FQ2.binds (ps:= ["kind","one","other"]) fun _ _ _ _ _ _ us hl=>by obtain ⟨_,_,_,rfl⟩:=ex3 us hl;rfl
 have mQ2:=PySem.W.mg_of X G aQ2
 have FQS:=aJ (st:=sStp) lQS cQS kQS
 have bQS:=FQS.binds (ps:= ["thing"]) fun _ _ _ _ _ _ us hl=>by obtain ⟨_,rfl⟩:=ex1 us hl;rfl
 have mQS:=PySem.W.mg_of X G aQS
 have FLK:=aJ (st:=i6) lLK cLK kLK
 have bLK:=FLK.binds (ps:= ["one","other","truth"]) fun _ _ _ _ _ _ us hl=>by obtain ⟨_,_,_,rfl⟩:=ex3 us hl;rfl
 have mLK:=PySem.W.mg_of X G aLK
 have FNA:=aJ (st:=sNab) lNA cNA kNA
 have bNA:=FNA.binds (ps:= ["one","other","truth"]) fun _ _ _ _ _ _ us hl=>by obtain ⟨_,_,_,rfl⟩:=ex3 us hl;rfl
 have mNA:=PySem.W.mg_of X G aNA
 have FR2:=aJ (st:=sRo2) lR2 cR2 kR2
 have bR2:=FR2.binds (ps:= ["kind","one","other"]) fun _ _ _ _ _ _ us hl=>by obtain ⟨_,_,_,rfl⟩:=ex3 us hl;rfl
 have mR2:=PySem.W.mg_of X G aR2
 have FRB:=aJ (st:=sRby) lRB cRB kRB
 have bRB:=FRB.binds (ps:= ["wishes","rows","step"]) fun _ _ _ _ _ _ us hl=>by obtain ⟨_,_,_,rfl⟩:=ex3 us hl;rfl
 have mRB:=PySem.W.mg_of X G aRB
 have FTP:=aJ (st:=i4) lTP cTP kTP
 have bTP:=FTP.binds (ps:= ["_law_script"]) fun _ _ _ _ _ _ us hl=>by obtain ⟨_,rfl⟩:=ex1 us hl;rfl
 have mTP:=PySem.W.mg_of X G aTP
 have FDR:=aJ (st:=dY) lDR cDR kDR
 have bDR:=FDR.binds (ps:= ["_law_tape_here","_law_many"]) fun _ _ _ _ _ _ us hl=>by obtain ⟨_,_,rfl⟩:=ex2 us hl;rfl
 have mDR:=PySem.W.mg_of X G aDR
 have FNM:=aJ (st:=eU) lNM cNM kNM
 have bNM:=FNM.binds (ps:= ["_law_tape_here"]) fun _ _ _ _ _ _ us hl=>by obtain ⟨_,rfl⟩:=ex1 us hl;rfl
 have mNM:=PySem.W.mg_of X G aNM
 have FWH:=aJ (st:=eO) lWH cWH kWH
 have bWH:=FWH.binds (ps:= ["_law_tape_here","_law_small","_law_great"]) fun _ _ _ _ _ _ us hl=>by obtain ⟨_,_,_,rfl⟩:=ex3 us hl;rfl
 have mWH:=PySem.W.mg_of X G aWH
 have FSH:=aJ (st:=eQ) lSH cSH kSH
 have bSH:=FSH.binds (ps:= ["_law_tape_here"]) fun _ _ _ _ _ _ us hl=>by obtain ⟨_,rfl⟩:=ex1 us hl;rfl
 have mSH:=PySem.W.mg_of X G aSH
 have FTE:=aJ (st:=i0) lTE cTE kTE
 have bTE:=FTE.binds (ps:= ["_law_tape_here","_law_names_here","_law_deep"]) fun _ _ _ _ _ _ us hl=>by obtain ⟨_,_,_,rfl⟩:=ex3 us hl;rfl
 have mTE:=PySem.W.mg_of X G aTE
 have FAL:=aJ (st:=eW) lAL cAL kAL
 have bAL:=FAL.binds (ps:= ["_law_found","_law_due"]) fun _ _ _ _ _ _ us hl=>by obtain ⟨_,_,rfl⟩:=ex2 us hl;rfl
 have mAL:=PySem.W.mg_of X G aAL
 have FWO:=aJ (st:=eL) lWO cWO kWO
 have bWO:=FWO.binds (ps:= ["_law_tape_here"]) fun _ _ _ _ _ _ us hl=>by obtain ⟨_,rfl⟩:=ex1 us hl;rfl
 have mWO:=PySem.W.mg_of X G aWO
 have FWD:=aJ (st:=eM) lWD cWD kWD
 have bWD:=FWD.binds (ps:= ["_law_tape_here","_law_names_here"]) fun _ _ _ _ _ _ us hl=>by obtain ⟨_,_,rfl⟩:=ex2 us hl;rfl
 have mWD:=PySem.W.mg_of X G aWD
 have FLV:=aJ (st:=de) lLV cLV kLV
 have bLV:=FLV.binds (ps:= ["_law_term_here","_law_world_here"]) fun _ _ _ _ _ _ us hl=>by obtain ⟨_,_,rfl⟩:=ex2 us hl;rfl
 have mLV:=PySem.W.mg_of X G aLV
 have FLH:=aJ (st:=df) lLH cLH kLH
 have bLH:=FLH.binds (ps:= ["_law_wish","_law_world_here"]) fun _ _ _ _ _ _ us hl=>by obtain ⟨_,_,rfl⟩:=ex2 us hl;rfl
 have mLH:=PySem.W.mg_of X G aLH
 have FRT:=aJ (st:=eR) lRT cRT kRT
 have bRT:=FRT.binds (ps:= ["_law_row_here","_law_world_here"]) fun _ _ _ _ _ _ us hl=>by obtain ⟨_,_,rfl⟩:=ex2 us hl;rfl
 have mRT:=PySem.W.mg_of X G aRT
 have FLR:=aJ (st:=i7) lLR cLR kLR
 have bLR:=FLR.binds (ps:= ["_law_literals"]) fun _ _ _ _ _ _ us hl=>by obtain ⟨_,rfl⟩:=ex1 us hl;rfl
 have mLR:=PySem.W.mg_of X G aLR
 have FLL:=aJ (st:=sLLs) lLL cLL kLL
 have bLL:=FLL.binds (ps:= ["_law_one","_law_other"]) fun _ _ _ _ _ _ us hl=>by obtain ⟨_,_,rfl⟩:=ex2 us hl;rfl
 have mLL:=PySem.W.mg_of X G aLL
 have FLA:=aJ (st:=sLaw) lLA cLA kLA
 have mX:=PySem.W.mg_of X G aC
 have mZ:=PySem.W.mg_of X G aZ
 have hX:∀H:Hp,Dj.SqX K H Z [.int 0, .int 1]:=fun H=> .inr ⟨_,_,_,lZ,rfl,rfl,(by show 2≤sizeLine;decide), .cons ⟨t0,rfl⟩ (.cons ⟨t1,rfl⟩ .nil)⟩
 have hZ:∀H:Hp,SqT K H Z [.int 0, .int 1]:=fun H=>(hX H).sq
 have XC:XCls K C fI:=⟨⟨_,_,_,_,_,_,_,_,_,_,_,_,_,_,_,_,lC,ln⟩,iI,fnI,kC⟩
 refine ⟨Z,_,[.int 0 t0, .int 1 t1],nZ,lZ,rfl,rfl, .cons ⟨t0,rfl⟩ (.cons ⟨t1,rfl⟩ .nil),(by show 2≤sizeLine;decide),PySem.W.fnOf "law" "law" (ax sLaw) (av sLaw) (af sLaw) .none kVLA dcLA pmLA anLA cdLA ctLA,fun s v=> .of_eq rfl,fun base _ _=> ?_⟩
 have gFR:FnOk l.prog w K mg base (CX1 l.prog w) 3 fFR _ ["top","bottom"] (spFr C):=uZ FFR FCD bCD mCD FI bI mX XC B
 have gPL:FnOk l.prog w K mg base CX0 2 fPL _ ["one","other"] (fE K):=qV FPL FCD bCD mCD B
 have gDR:FnOk l.prog w K mg base CX0 1 fDR _ ["_law_tape_here","_law_many"] cQ:=fo FDR B
 have gWH:FnOk l.prog w K mg base CX0 2 fWH _ ["_law_tape_here","_law_small","_law_great"] spWh:=uQ FWH B FDR bDR mDR
 have gSH:FnOk l.prog w K mg base CX0 4 fSH _ ["_law_tape_here"] spSh:=uT FSH gWH kWH bWH mWH gFR kFR bFR mFR
 have gTE:∀n,FnOk l.prog w K mg base CX0 (n+1) fTE _ ["_law_tape_here","_law_names_here","_law_deep"] (jY n):=qS FTE bTE mTE B FDR bDR mDR
 have gTI:FnOk l.prog w K mg base CX0 2 fTI _ ["one","other"] (iH K):=oN FTI FCD bCD mCD B
 have gWO:FnOk l.prog w K mg base CX0 5 fWO _ ["_law_tape_here"] iF:=oK FWO gSH kSH bSH mSH gDR kDR bDR mDR
 have gWD:FnOk l.prog w K mg base CX0 6 fWD _ ["_law_tape_here","_law_names_here"] (iG l.prog w K):=oM FWD B gWO kWO bWO mWO gDR kDR bDR mDR
 have gLV:FnOk l.prog w K mg base CX0 9 fLV _ ["_law_term_here","_law_world_here"] (o7 l.prog w K 8):=tR FLV bLV mLV B 8
 have gLH:FnOk l.prog w K mg base CX0 28 fLH _ ["_law_wish","_law_world_here"] (k6 l.prog w K 19):=qY FLH bLH mLH B gLV kLV bLV mLV gPL kPL bPL mPL gTI kTI bTI mTI 19
 have gRT:FnOk l.prog w K mg base CX0 29 fRT _ ["_law_row_here","_law_world_here"] (iJ l.prog w K 64 19):=oO FRT gLH kLH bLH mLH
 have hZk:∀H:Hp,SqT K H Zk iY:=fun H=> .inr ⟨_,_,_,lZk,rfl,rfl,(by show 4≤sizeLine;decide), .cons ⟨u1,rfl⟩ (.cons ⟨u2,rfl⟩ (.cons ⟨u3,rfl⟩ (.cons ⟨u4,rfl⟩ .nil)))⟩
 have gSX:FnOk l.prog w K mg base CX0 3 fSU _ ["pairs"] jZ:=qU FSU B gPL kPL bPL mPL mZ hZ
 have gLS:FnOk l.prog w K mg base CX0 4 fLS _ ["one","other"] iK:=oQ FLS gSX kSU bSU mSU
 have gQO:FnOk l.prog w K mg base CX0 1 fQO _ ["thing","count"] spTo:=uS FQO B
 have gQN:FnOk l.prog w K mg base CX0 1 fQN _ ["thing"] spNq:=uW FQN B (PySem.W.mg_of X G aML)
 have gQT:FnOk l.prog w K mg base CX0 17 fQT _ ["thing"] (spTq 8):=uR FQT bQT mQT FQC B (PySem.W.mg_of X G aMC) gQO kQO bQO mQO gQN kQN bQN mQN bQC mQC 8
 have gQ2:FnOk l.prog w K mg base CX0 18 fQ2 _ ["kind","one","other"] sp2:=ok_2 FQ2 (PySem.W.mg_of X G aZk) hZk gQT kQT bQT mQT
 have gQS:FnOk l.prog w K mg base CX0 19 fQS _ ["thing"] o9:=tT FQS gQO kQO bQO mQO gQ2 kQ2 bQ2 mQ2
 have gLK:FnOk l.prog w K mg base CX0 1 fLK _ ["one","other","truth"] spLk:=uY FLK
 have gNA:FnOk l.prog w K mg base CX0 5 fNA _ ["one","other","truth"] (oa Z):=tV FNA mZ gLS kLS bLS mLS
 have gRO:FnOk l.prog w K mg base CX0 1 fRO _ ["literals"] eK:=on (tU FRO B)
 have gR2:FnOk l.prog w K mg base CX0 6 fR2 _ ["kind","one","other"] (spR2 Z):=uV FR2 gLK kLK bLK mLK gNA kNA bNA mNA gRO kRO bRO mRO
 have gRB:FnOk l.prog w K mg base CX0 20 fRB _ ["wishes","rows","step"] (spRb Z):=uU FRB gQS kQS bQS mQS gR2 kR2 bR2 mR2
 have gLR:FnOk l.prog w K mg base CX0 1 fLR _ ["_law_literals"] eK:=qW FLR B
 have gLL:FnOk l.prog w K mg base CX0 1 fLL _ ["_law_one","_law_other"] spLl:=uX FLL B
 exact tW FLA B (qT FTP B) kTP bTP mTP (oP FNM B FDR bDR mDR) kNM bNM mNM gDR kDR bDR mDR (gTE 3) kTE bTE mTE gLL kLL bLL mLL gLR kLR bLR mLR gRB kRB bRB mRB (v9 FAL bAL mAL B 30) kAL bAL mAL gWD kWD bWD mWD gRT kRT bRT mRT
theorem walk {l:PySem.W.OpenLaw} {q:Program} {loose:List Str} {XP:(Str→Option Value)→Heap→Prop} {YP:World→Heap→Prop} {d:DefRec} {K:Params→PySem.W.Frag} (hn:l.most=some 63) (hdf:d.params.defaults= [])
 (hY:∀(w:World) (h:Heap),YP w h→(K w.params).In h)
 (F:∀(w:World) (mg:Str→Option Value) (fa:Addr) (h:Heap),(K w.params).In h→h.Ns mainGlobals mg→mg d.name=some (.ref fa)→
  ∃(Z:Addr) (oZ:Obj) (its:List Value) (nZ:Nat),(K w.params).lookup Z=some oZ∧oZ.cls= .type "tuple"∧oZ.data= .seq its.toArray nZ∧Vals [.int 0, .int 1] its∧ [V.int 0, .int 1].length≤sizeLine∧∃fd:FuncData,(∀(s:Shared) (u:Value),BindsTo s fd ⟨[u],[]⟩ [("_law_script",u)])∧∀base:Heap,(K w.params).In base→base.Ns mainGlobals mg→FnOk l.prog w (K w.params) mg base CX0 32 fa fd ["_law_script"] (lh (K w.params) Z)):
 PySem.W.WalkO q loose XP YP l.row.toRowW d [] (fun f vs=>PySem.call f vs):=
 L2.walk_ofZ (zs:= [.int 0, .int 1]) (n:=63) (k:=32) (x:="_law_script") (CX:=fun _=>CX0) (sp:=fun w Z=>lh (K w.params) Z) hn (by decide) hdf ⟨rfl,by decide,by decide,rfl⟩ hY F (fun _ _ a Z ns hl hz hS=>⟨a,ns,rfl,hS,hl,hz,fun _=>rfl⟩) fun _ _ _ _ _ z=>z
end K27
def PySem.W.Fast.tw13919728496517992266:Unit:=()
def PySem.W.Fast.tw9754164667497132958:Unit:=()
def PySem.W.Fast.tw16484450297138783414:Unit:=()
def PySem.W.Fast.tw425107580381203683:Unit:=()
def PySem.W.Fast.tw10175620010541062065:Unit:=()
def PySem.W.Fast.tw15039499683219044738:Unit:=()
def PySem.W.Fast.tw7784486340018574412:Unit:=()
def PySem.W.Fast.tw13303801186338189272:Unit:=()
def PySem.W.Fast.tw15801486057904001462:Unit:=()
def PySem.W.Fast.tw11611803501877170376:Unit:=()
def PySem.W.Fast.tw2797780421527994589:Unit:=()
def PySem.W.Fast.tw9278774768176424642:Unit:=()
def PySem.W.Fast.tw1429859179671252453:Unit:=()
def PySem.W.Fast.tw3791905691304289747:Unit:=()
def PySem.W.Fast.tw13688552089235053363:Unit:=()
def PySem.W.Fast.tw16590413018298592039:Unit:=()
def PySem.W.Fast.tw16099439411773432413:Unit:=()
def PySem.W.Fast.tw10515769142035337683:Unit:=()
def PySem.W.Fast.tw10894164517437827309:Unit:=()
def PySem.W.Fast.tw66772498477931612:Unit:=()
def PySem.W.Fast.tw13659865462657970618:Unit:=()
def PySem.W.Fast.tw2518971897176359950:Unit:=()
def PySem.W.Fast.tw11174954346613930848:Unit:=()
def PySem.W.Fast.tw12312655605888196836:Unit:=()
def PySem.W.Fast.tw15468304423109102533:Unit:=()
def PySem.W.Fast.tw13133061497731097273:Unit:=()
def PySem.W.Fast.tw8307962759184398005:Unit:=()
def PySem.W.Fast.tw14350259565966882372:Unit:=()
def PySem.W.Fast.tw1012947925548867068:Unit:=()
def PySem.W.Fast.tw8190551161723196126:Unit:=()
def PySem.W.Fast.tw7777655827945929056:Unit:=()
def PySem.W.Fast.tw14092732196758822577:Unit:=()
def PySem.W.Fast.tw17520844396242684478:Unit:=()
def PySem.W.Fast.tw13599003275256618803:Unit:=()
open PySem PySem.W PyProof.Rows
set_option maxRecDepth 100000 in
set_option maxHeartbeats 0 in
theorem PySem.Challenge.cw_smallword_k27_what_sums_and_likenings_ha_holds : PySem.Challenge.rw_smallword_k27_what_sums_and_likenings_ha.Holds := by
  w_on; o_law; k_head; (case hw => w_witness2)
  k_fill
  refine K27.walk (l := PySem.Challenge.rw_smallword_k27_what_sums_and_likenings_ha) rfl rfl (fun w h Y => PySem.W.kIn_of Y) ?F
  case F =>
    intro w mg fa h KX G hmg
    refine' K27.all_mk KX G hmg ?aC ?iI ?fnI ?lI ?cI ?kI ?aCD ?lCD ?cCD ?kCD ?aFR ?lFR ?cFR ?kFR ?aPL ?lPL ?cPL ?kPL ?aTI ?lTI ?cTI ?kTI ?aRO ?lRO ?cRO ?kRO ?aSU ?lSU ?cSU ?kSU ?aLS ?lLS ?cLS ?kLS ?aQO ?lQO ?cQO ?kQO ?aQN ?lQN ?cQN ?kQN ?aQT ?lQT ?cQT ?kQT ?aQC ?lQC ?cQC ?kQC ?aQ2 ?lQ2 ?cQ2 ?kQ2 ?aQS ?lQS ?cQS ?kQS ?aLK ?lLK ?cLK ?kLK ?aNA ?lNA ?cNA ?kNA ?aR2 ?lR2 ?cR2 ?kR2 ?aRB ?lRB ?cRB ?kRB ?aTP ?lTP ?cTP ?kTP ?aDR ?lDR ?cDR ?kDR ?aNM ?lNM ?cNM ?kNM ?aWH ?lWH ?cWH ?kWH ?aSH ?lSH ?cSH ?kSH ?aTE ?lTE ?cTE ?kTE ?aAL ?lAL ?cAL ?kAL ?aWO ?lWO ?cWO ?kWO ?aWD ?lWD ?cWD ?kWD ?aLV ?lLV ?cLV ?kLV ?aLH ?lLH ?cLH ?kLH ?aRT ?lRT ?cRT ?kRT ?aLR ?lLR ?cLR ?kLR ?aLL ?lLL ?cLL ?kLL ?aLA ?lLA ?cLA ?kLA ?kC ?lC ?aZ ?lZ ?aZk ?lZk ?aML ?aMC ?z_abs ?z_len ?z_range ?z_isinstance ?z_tuple ?z_int ?z_bool ?z_list ?z_str ?z_all ?z_any ?z_zip ?z_sorted ?z_ValueError ?ln
    (case aC => k_is); (case iI => k_is); (case fnI => k_is); (case lI => k_is); (case cI => k_is); (case kI => k_is); (case aCD => k_is); (case lCD => k_is)
    (case cCD => k_is); (case kCD => k_is); (case aFR => k_is); (case lFR => k_is); (case cFR => k_is); (case kFR => k_is); (case aPL => k_is); (case lPL => k_is)
    (case cPL => k_is); (case kPL => k_is); (case aTI => k_is); (case lTI => k_is); (case cTI => k_is); (case kTI => k_is); (case aRO => k_is); (case lRO => k_is)
    (case cRO => k_is); (case kRO => k_is); (case aSU => k_is); (case lSU => k_is); (case cSU => k_is); (case kSU => k_is); (case aLS => k_is); (case lLS => k_is)
    (case cLS => k_is); (case kLS => k_is); (case aQO => k_is); (case lQO => k_is); (case cQO => k_is); (case kQO => k_is); (case aQN => k_is); (case lQN => k_is)
    (case cQN => k_is); (case kQN => k_is); (case aQT => k_is); (case lQT => k_is); (case cQT => k_is); (case kQT => k_is); (case aQC => k_is); (case lQC => k_is)
    (case cQC => k_is); (case kQC => k_is); (case aQ2 => k_is); (case lQ2 => k_is); (case cQ2 => k_is); (case kQ2 => k_is); (case aQS => k_is); (case lQS => k_is)
    (case cQS => k_is); (case kQS => k_is); (case aLK => k_is); (case lLK => k_is); (case cLK => k_is); (case kLK => k_is); (case aNA => k_is); (case lNA => k_is)
    (case cNA => k_is); (case kNA => k_is); (case aR2 => k_is); (case lR2 => k_is); (case cR2 => k_is); (case kR2 => k_is); (case aRB => k_is); (case lRB => k_is)
    (case cRB => k_is); (case kRB => k_is); (case aTP => k_is); (case lTP => k_is); (case cTP => k_is); (case kTP => k_is); (case aDR => k_is); (case lDR => k_is)
    (case cDR => k_is); (case kDR => k_is); (case aNM => k_is); (case lNM => k_is); (case cNM => k_is); (case kNM => k_is); (case aWH => k_is); (case lWH => k_is)
    (case cWH => k_is); (case kWH => k_is); (case aSH => k_is); (case lSH => k_is); (case cSH => k_is); (case kSH => k_is); (case aTE => k_is); (case lTE => k_is)
    (case cTE => k_is); (case kTE => k_is); (case aAL => k_is); (case lAL => k_is); (case cAL => k_is); (case kAL => k_is); (case aWO => k_is); (case lWO => k_is)
    (case cWO => k_is); (case kWO => k_is); (case aWD => k_is); (case lWD => k_is); (case cWD => k_is); (case kWD => k_is); (case aLV => k_is); (case lLV => k_is)
    (case cLV => k_is); (case kLV => k_is); (case aLH => k_is); (case lLH => k_is); (case cLH => k_is); (case kLH => k_is); (case aRT => k_is); (case lRT => k_is)
    (case cRT => k_is); (case kRT => k_is); (case aLR => k_is); (case lLR => k_is); (case cLR => k_is); (case kLR => k_is); (case aLL => k_is); (case lLL => k_is)
    (case cLL => k_is); (case kLL => k_is); (case aLA => k_is); (case lLA => k_is); (case cLA => k_is); (case kLA => k_is); (case kC => k_is); (case lC => k_is)
    (case aZ => k_is); (case lZ => k_is); (case aZk => k_is); (case lZk => k_is); (case aML => k_is); (case aMC => k_is); (case z_abs => k_is); (case z_len => k_is)
    (case z_range => k_is); (case z_isinstance => k_is); (case z_tuple => k_is); (case z_int => k_is); (case z_bool => k_is); (case z_list => k_is); (case z_str => k_is); (case z_all => k_is)
    (case z_any => k_is); (case z_zip => k_is); (case z_sorted => k_is); (case z_ValueError => k_is)
    (case ln => exact ⟨by decide, by decide, by decide, by decide⟩)
