import PyProof.Rows.All
import Wide.All
import OpenK.AllK
import Wide.FinOn
import Lean
import PyProof.EqAt
import PyProof.EqKinds
import PyProof.TupleCall
import KE.KSortTup
import PyProof.NeKinds
import PyProof.DictRoadsH
import KE.KIntText
import KE.KRevIter
import PyProof.Rows.Range3
import PyProof.StrLawsTight
import PyProof.ZipIter
import KE.LcSums
import KE.KListMore
import KE.KDictList
import KE.KDictLaws
import KE.KMinKey
import PyProof.NsDelKeeps
import PyProof.WalksEnum
import PyProof.EnumMake
import PyProof.Rows.EnumRows
import PyProof.Rows.SortKeyStr
import PyProof.Rows.SortWalk
import PySem.Challenge.RW_smallword_k12_other_texts_read
set_option Elab.async false
set_option linter.all false
set_option maxRecDepth 100000
set_option maxHeartbeats 8000000
namespace L2
open PySem PySem.Spec PyProof.Rows
abbrev Key:=Sum Int Str
noncomputable def g9:Key→Value→Bool
 | .inl k,v=>Value.isInt k v
 | .inr x,v=>Value.isStrOf x v
noncomputable def keyH (w:World):Key→Int
 | .inl k=>hashInt k
 | .inr x=>hashStr w x
theorem aM:∀ {k:Key} {v:Value},g9 k v=true→(∃i t,k=Sum.inl i∧v=Value.int i t)∨(∃x t,k=Sum.inr x∧v=Value.str x t)
 | .inl i,v,h=>by
  obtain ⟨t,e⟩:=Value.isInt_shape (k:=i) (v:=v) h
  exact .inl ⟨i,t,rfl,e⟩
 | .inr x,v,h=>by
  obtain ⟨t,e⟩:=Value.isStrOf_shape (x:=x) (v:=v) h
  exact .inr ⟨x,t,rfl,e⟩
theorem oE (i:Int) (t:Tok):g9 (.inl i) (.int i t)=true:=by simp [g9,Value.isInt]
theorem oC (x:Str) (t:Tok):g9 (.inr x) (.str x t)=true:=by simp [g9,Value.isStrOf]
theorem vT (a b:Int):decide ((Sum.inl a:Key)=Sum.inl b)=(a==b):=by
 by_cases e:a=b
 · subst e;simp
 · have h:¬(Sum.inl a:Key)=Sum.inl b:=fun q=>e (Sum.inl.inj q)
   rw [decide_eq_false h]
   exact (beq_eq_false_iff_ne.mpr e).symm
theorem vQ (a b:Str):decide ((Sum.inr a:Key)=Sum.inr b)=decide (a=b):=by
 by_cases e:a=b
 · subst e;simp
 · have h:¬(Sum.inr a:Key)=Sum.inr b:=fun q=>e (Sum.inr.inj q)
   rw [decide_eq_false h,decide_eq_false e]
theorem vS (a:Int) (b:Str):decide ((Sum.inl a:Key)=Sum.inr b)=false:=decide_eq_false (fun q=>nomatch q)
theorem vR (a:Str) (b:Int):decide ((Sum.inr a:Key)=Sum.inl b)=false:=decide_eq_false (fun q=>nomatch q)
noncomputable def cA (prog:Program) (w:World):PySem.KeyKind prog w Key where
 is:=g9
 hash:=keyH w
 inj:=fun v a b ha hb=>by
  rcases aM ha with ⟨i,t,rfl,rfl⟩|⟨x,t,rfl,rfl⟩
  · rcases aM hb with ⟨j,u,rfl,e⟩|⟨y,u,rfl,e⟩
    · injection e with e1 _;rw [e1]
    · exact nomatch e
  · rcases aM hb with ⟨j,u,rfl,e⟩|⟨y,u,rfl,e⟩
    · exact nomatch e
    · injection e with e1 _;rw [e1]
 byValue:=fun k v h=>by
  rcases aM h with ⟨i,t,rfl,rfl⟩|⟨x,t,rfl,rfl⟩<;>rfl
 pyHash:=fun hv h=>by
  rcases aM hv with ⟨i,t,rfl,rfl⟩|⟨x,t,rfl,rfl⟩
  · exact wpAny_pyHash_int h
  · exact wpAny_pyHash_str h
 eqBool:=fun hu hv h=>by
  rcases aM hu with ⟨i,t,rfl,rfl⟩|⟨x,t,rfl,rfl⟩
  · rcases aM hv with ⟨j,u,rfl,rfl⟩|⟨y,u,rfl,rfl⟩
    · rw [vT] at h;exact wpAny_eqBool_int h
    · rw [vS] at h;exact SeqAt.EqAt.int_str i t y u _ _ _ _ h
  · rcases aM hv with ⟨j,u,rfl,rfl⟩|⟨y,u,rfl,rfl⟩
    · rw [vR] at h;exact SeqAt.EqAt.str_int x t j u _ _ _ _ h
    · rw [vQ] at h;exact wpAny_eqBool_str h
 «strs»:=fun k x t v h=>by
  rcases aM h with ⟨i,u,rfl,e⟩|⟨y,u,rfl,e⟩
  · exact nomatch e
  · injection e with e1 _
    subst e1
    cases v<;>rfl
open PySem PySem.Spec PyProof.Rows
inductive V where
 |non|bl (b:Bool)|int (i:Int)|str (x:Str)|byt (b:Array UInt8)|flt (b:UInt64)|ref (a:Addr)|ty (n:String)
 deriving DecidableEq
def RelV:V→Value→Prop
 | .non,u=>u=Value.none
 | .bl b,u=>u=Value.bool b
 | .int i,u=>∃t,u=Value.int i t
 | .str x,u=>∃t,u=Value.str x t
 | .byt b,u=>∃t,u=Value.bytes b t
 | .flt b,u=>∃t,u=Value.float b t
 | .ref a,u=>u=Value.ref a
 | .ty n,u=>u=Value.type n
abbrev Vals:List V→List Value→Prop:=Paired RelV
theorem Vals.length {xs:List V} {us:List Value} (r:Vals xs us):xs.length=us.length:=Paired.length r
theorem Vals.get:∀ {xs:List V} {us:List Value} {i:Nat} {x:V},Vals xs us→xs[i]?=some x→∃u,us[i]?=some u∧RelV x u
 |_,_,_,_, .nil,e=>by simp at e
 |_,_,0,_, .cons r _,e=>by simp at e;subst e;exact ⟨_,rfl,r⟩
 |_,_,i+1,x, .cons _ t,e=>by
  obtain ⟨u,h1,h2⟩:=Vals.get (i:=i) (x:=x) t (by simpa using e)
  exact ⟨u,by simpa using h1,h2⟩
theorem Vals.set {x:V} {u:Value} (r:RelV x u):∀ {xs:List V} {us:List Value} (i:Nat),Vals xs us→Vals (xs.set i x) (us.set i u)
 |_,_,_, .nil=> .nil
 |_,_,0, .cons _ t=> .cons r t
 |_,_,i+1, .cons q t=> .cons q (Vals.set r i t)
theorem Vals.append:∀ {xs ys:List V} {us ws:List Value},Vals xs us→Vals ys ws→Vals (xs++ys) (us++ws)
 |_,_,_,_, .nil,s=>s
 |_,_,_,_, .cons r t,s=> .cons r (Vals.append t s)
theorem Vals.take:∀ {xs:List V} {us:List Value} (n:Nat),Vals xs us→Vals (xs.take n) (us.take n)
 |_,_,0,_=> .nil
 |_,_,_+1, .nil=> .nil
 |_,_,n+1, .cons r t=> .cons r (Vals.take n t)
theorem Vals.drop:∀ {xs:List V} {us:List Value} (n:Nat),Vals xs us→Vals (xs.drop n) (us.drop n)
 |_,_,0,r=>r
 |_,_,_+1, .nil=> .nil
 |_,_,n+1, .cons _ t=>Vals.drop n t
def RelO:Option V→Option Value→Prop
 |some v,some u=>RelV v u
 |none,none=>True
 |_,_=>False
def KV {κ:Type}:List (κ×V)→List (κ×Value)→Prop:=Paired fun (p:κ×V) (q:κ×Value)=>p.1=q.1∧RelV p.2 q.2
def kV:Key→V
 | .inl i=> .int i
 | .inr x=> .str x
inductive HO where
 |lst (xs:List V)
 |tup (xs:List V)
 |dK (kvs:List (Key×V))|dT (kvs:List (List Key×V))
 |set (S:Int→Bool) (n:Nat)
 |ins (C dx:Addr) (fs:List (Str×V))
 |own (x:Addr)
 |xd (fs:List (Str×V))
 |met (f x:Addr)
 |rng (lo hi:Int)
 |frz (o:Obj) (u:HO)
 |tbl (ps:Array Value)
 |ext (φ:Heap→Prop)
abbrev Hp:=Addr→Option HO
noncomputable def upd (H:Hp) (a:Addr) (o:HO):Hp:=fun b=>if b=a then some o else H b
theorem ac {H:Hp} {a:Addr} {o:HO}:upd H a o a=some o:=by unfold upd;rw [if_pos rfl]
theorem ak {H:Hp} {a b:Addr} {o:HO} (h:b≠a):upd H a o b=H b:=by unfold upd;rw [if_neg h]
theorem aR {H:Hp} {a b:Addr} {o:HO} (h:H a=some o) (h':H b=none):a≠b:=by
 intro e;subst e;rw [h] at h';cases h'
section
variable (P:Program) (w:World)
def ObjOk (H:Hp) (h:Heap) (a:Addr):HO→Prop
 | .lst xs=>xs.length≤sizeLine∧∃(its:List Value) (n:Nat),Vals xs its∧h.get? a=some {cls:= .type "list",data:= .seq its.toArray n}
 | .tup xs=>xs.length≤sizeLine∧∃its:List Value,Vals xs its∧IsTup h a its.toArray
 | .dK kvs=>kvs.length≤sizeLine∧(a==sysModules)=false∧∃vs,KV kvs vs∧h.DictOf (cA P w) a vs
 | .dT kvs=>kvs.length≤sizeLine∧(a==sysModules)=false∧∃xs:List (List Key×Addr×Value),
  Paired (fun (p:List Key×V) (q:List Key×Addr×Value)=>p.1=q.1∧H q.2.1=some (.tup (p.1.map kV))∧RelV p.2 q.2.2) kvs xs∧
  ∃o es ep,h.get? a=some o∧o.ExactDict∧o.data= .dict es ep∧es.toList=xs.map (entryOfKey (tupleKind (cA P w)))∧(xs.map (·.1)).Nodup
 | .set S n=>h.SetOf (intKind P w) a S n
 | .ins C dx fs=>H dx=some (.own a)∧fs.length≤1000∧dx≠a∧h.get? a=some (PySem.W.instObj C dx)∧
  ∃mA,h.Ns1 dx mA∧(∀f,RelO (fs.lookup f) (mA f))∧PySem.Within mA (fs.map (·.1))
 | .own _=>∃o,h.get? a=some o
 | .xd fs=>∃mA,h.Ns1 a mA∧∀f,RelO (fs.lookup f) (mA f)
 | .rng lo hi=>∃t u v,h.get? a=some {cls:= .type "range",data:= .fields #[.int lo t, .int hi u, .int 1 v]}
 | .frz o u=>h.get? a=some o∧ObjOk H h a u
 | .tbl ps=>h.get? a=some {cls:= .none,data:= .fields ps}
 | .met f x=>h.get? a=some (PySem.W.methodObj (.ref f) (.ref x))
 | .ext φ=>φ h∧(∃o,h.get? a=some o)∧∀h1 h2:Heap,φ h1→(∀o,h1.get? a=some o→h2.get? a=some o)→φ h2
def HOk (H:Hp) (h:Heap):Prop:=∀a o,H a=some o→ObjOk P w H h a o
end
section
variable {P:Program} {w:World} {H H':Hp} {h h':Heap} {a:Addr} {o:HO}
theorem ObjOk.lt (x:ObjOk P w H h a o):a < h.objs.size:=by
 cases o with
 |lst xs=>obtain ⟨_,_,_,_,e⟩:=x;exact Heap.lt_size e
 |tup xs=>obtain ⟨_,_,_,p⟩:=x;exact p.lt
 |dK kvs=>obtain ⟨_,_,_,_,o,_,_,e,_⟩:=x;exact Heap.lt_size e
 |dT kvs=>obtain ⟨_,_,_,_,o,_,_,e,_⟩:=x;exact Heap.lt_size e
 |set S n=>obtain ⟨o,_,_,_,e,_⟩:=x;exact Heap.lt_size e
 |ins C dx fs=>obtain ⟨_,_,_,e,_⟩:=x;exact Heap.lt_size e
 |own y=>obtain ⟨_,e⟩:=x;exact Heap.lt_size e
 |xd fs=>obtain ⟨_,⟨_,_,_,e,_⟩,_⟩:=x;exact Heap.lt_size e
 |rng lo hi=>obtain ⟨_,_,_,e⟩:=x;exact Heap.lt_size e
 |frz ob u=>obtain ⟨e,_⟩:=x;exact Heap.lt_size e
 |tbl ps=>exact Heap.lt_size (show h.get? a=some _ from x)
 |met f y=>exact Heap.lt_size (show h.get? a=some _ from x)
 |ext φ=>obtain ⟨_,⟨_,e⟩,_⟩:=x;exact Heap.lt_size e
theorem Paired.mapP {α β:Type} {F G:α→β→Prop}:∀ {l₁:List α} {l₂:List β},Paired F l₁ l₂→(∀a b,F a b→G a b)→Paired G l₁ l₂
 |_,_, .nil,_=> .nil
 |_,_, .cons r t,f=> .cons (f _ _ r) (Paired.mapP t f)
theorem Paired.imp' {α β:Type} {F G:α→β→Prop} (f:∀a b,F a b→G a b) {l₁:List α} {l₂:List β} (r:Paired F l₁ l₂):Paired G l₁ l₂:=Paired.mapP r f
theorem ObjOk.stay (x:ObjOk P w H h a o) (k:∀b u,(b=a∨H b=some (.own a))→h.get? b=some u→h'.get? b=some u)
 (ho:∀b,H b=some (.own a)→H' b=some (.own a)) (ht:∀b xs,H b=some (.tup xs)→H' b=some (.tup xs)):ObjOk P w H' h' a o:=by
 induction o with
 |lst xs=>obtain ⟨z,its,n,r,e⟩:=x;exact ⟨z,its,n,r,k _ _ (.inl rfl) e⟩
 |tup xs=>obtain ⟨z,its,r,ob,e,c⟩:=x;exact ⟨z,its,r,ob,k _ _ (.inl rfl) e,c⟩
 |dK kvs=>obtain ⟨z,y,vs,r,ob,es,ep,e,c⟩:=x;exact ⟨z,y,vs,r,ob,es,ep,k _ _ (.inl rfl) e,c⟩
 |dT kvs=>
  obtain ⟨z,y,xs,r,ob,es,ep,e,c⟩:=x
  exact ⟨z,y,xs,Paired.mapP r fun p q z=>⟨z.1,ht _ _ z.2.1,z.2.2⟩,ob,es,ep,k _ _ (.inl rfl) e,c⟩
 |set S n=>obtain ⟨ob,es,ep,t,e,c⟩:=x;exact ⟨ob,es,ep,t,k _ _ (.inl rfl) e,c⟩
 |ins C dx fs=>
  obtain ⟨d,z,ne,e,mA,⟨od,es,ep,e2,c⟩,r⟩:=x
  exact ⟨ho _ d,z,ne,k _ _ (.inl rfl) e,mA,⟨od,es,ep,k _ _ (.inr d) e2,c⟩,r⟩
 |own y=>obtain ⟨ob,e⟩:=x;exact ⟨ob,k _ _ (.inl rfl) e⟩
 |xd fs=>obtain ⟨mA,⟨od,es,ep,e,c⟩,r⟩:=x;exact ⟨mA,⟨od,es,ep,k _ _ (.inl rfl) e,c⟩,r⟩
 |rng lo hi=>obtain ⟨t,u,v,e⟩:=x;exact ⟨t,u,v,k _ _ (.inl rfl) e⟩
 |frz ob u ih=>obtain ⟨e,q⟩:=x;exact ⟨k _ _ (.inl rfl) e,ih q⟩
 |tbl ps=>
  have e:h.get? a=some {cls:= .none,data:= .fields ps}:=x
  show h'.get? a=some {cls:= .none,data:= .fields ps}
  exact k a _ (.inl rfl) e
 |met f y=>
  have e:h.get? a=some (PySem.W.methodObj (.ref f) (.ref y)):=x
  show h'.get? a=some (PySem.W.methodObj (.ref f) (.ref y))
  exact k a _ (.inl rfl) e
 |ext φ=>obtain ⟨p,⟨o,e⟩,st⟩:=x;exact ⟨st _ _ p fun o q=>k _ _ (.inl rfl) q,⟨o,k _ _ (.inl rfl) e⟩,st⟩
theorem HOk.lt (x:HOk P w H h) (e:H a=some o):a < h.objs.size:=(x a o e).lt
theorem HOk.fresh (x:HOk P w H h) (e:h.objs.size≤a):H a=none:=by
 cases q:H a with
 |none=>rfl
 |some u=>exact absurd (Nat.lt_of_lt_of_le (x.lt q) e) (Nat.lt_irrefl _)
theorem HOk.kept (x:HOk P w H h) (k:∀b u,h.get? b=some u→h'.get? b=some u):HOk P w H h':=fun a o e=>
 (x a o e).stay (fun b u _ q=>k b u q) (fun _ q=>q) fun _ _ q=>q
theorem HOk.laid (x:HOk P w H h) (k:∀b u,h.get? b=some u→h'.get? b=some u) (hp:h.objs.size≤a) (new:ObjOk P w (upd H a o) h' a o):HOk P w (upd H a o) h':=fun b u e=>by
 have hn:=x.fresh hp
 by_cases hb:b=a
 · subst hb;rw [ac] at e;cases e;exact new
 · rw [ak hb] at e
   exact (x b u e).stay (fun c v _ q=>k c v q) (fun c q=>by rw [ak (aR q hn)];exact q) fun c xs q=>by rw [ak (aR q hn)];exact q
end
def Rd (H:Hp) (a:Addr) (u:HO):Prop:=H a=some u∨∃o,H a=some (.frz o u)
theorem Rd.ok {P:Program} {w:World} {H:Hp} {h:Heap} {a:Addr} {u:HO} (r:Rd H a u) (x:HOk P w H h):ObjOk P w H h a u:=by
 rcases r with r|⟨o,r⟩
 · exact x a u r
 · obtain ⟨_,q⟩:=x a _ r
   exact q
def Mut:Option HO→Prop
 |some (.lst _)=>True
 |some (.dK _)=>True
 |some (.dT _)=>True
 |some (.set _ _)=>True
 |some (.ins _ _ _)=>True
 |some (.ext _)=>True
 |_=>False
section
variable {P:Program} {w:World} {H:Hp} {h h':Heap} {x e:Addr} {o':HO}
theorem HOk.write (ok:HOk P w H h) (mu:Mut (H x)) (he:e=x∨H e=some (.own x)) (k:∀b u,b≠e→h.get? b=some u→h'.get? b=some u) (heo:∃u,h'.get? e=some u)
 (new:ObjOk P w (upd H x o') h' x o'):HOk P w (upd H x o') h':=fun b u q=>by
 have nown:∀c y,H c=some (.own y)→c≠x:=fun c y r z=>by subst z;rw [r] at mu;exact mu
 have ntup:∀c xs,H c=some (.tup xs)→c≠x:=fun c xs r z=>by subst z;rw [r] at mu;exact mu
 by_cases hb:b=x
 · subst hb;rw [ac] at q;cases q;exact new
 · rw [ak hb] at q
   by_cases hbe:b=e
   · have q':H b=some (.own x):=by
      rcases he with z|z
      · exact absurd (hbe.trans z) hb
      · rw [hbe];exact z
     rw [q] at q';cases q'
     obtain ⟨v,hv⟩:=heo
     exact ⟨v,by rw [hbe];exact hv⟩
   · refine (ok b u q).stay (fun c v hc r=>k c v ?_ r) (fun c r=>by rw [ak (nown c b r)];exact r) fun c xs r=>by rw [ak (ntup c xs r)];exact r
     rcases hc with rfl|hc
     · exact hbe
     · rintro rfl
       rcases he with z|z
       · exact nown c b hc z
       · rw [hc] at z;cases z;exact hb rfl
end
def Idl (x:Option HO):Prop:=x=none∨∃xs,x=some (.tup xs)
theorem Idl.no {x:Option HO} (h:x=none):Idl x:= .inl h
structure Un (fs ex:List Addr) (H H':Hp) (h h':Heap):Prop where
 keep:∀b o,h.get? b=some o→Idl (H b)→b∉fs→b∉ex→h'.get? b=some o
 slot:∀b o,h.get? b=some o→H b=none→b∈fs→b∉ex→∃sl,h'.get? b=some {o with slots:=sl}
 free:∀b o,h.get? b=some o→H b=none→b∉ex→H' b=none
 there:∀b o,h.get? b=some o→b∉ex→∃o',h'.get? b=some o'
 tups:∀b xs,H b=some (.tup xs)→H' b=some (.tup xs)
 frzs:∀b o u,H b=some (.frz o u)→H' b=some (.frz o u)
 tbls:∀b ps,H b=some (.tbl ps)→∃more,H' b=some (.tbl (ps++more))
section
variable {fs fs' ex ex':List Addr} {H H1 H2:Hp} {h h1 h2 h':Heap} {a x e:Addr} {o:HO}
theorem Un.any (u:Un fs ex H H1 h h1) {b:Addr} {ob:Obj} (q:h.get? b=some ob) (n:H b=none) (hx:b∉ex):∃sl,h1.get? b=some {ob with slots:=sl}:=by
 by_cases hb:b∈fs
 · exact u.slot b ob q n hb hx
 · exact ⟨ob.slots,u.keep b ob q (.inl n) hb hx⟩
theorem Un.idl (u:Un fs ex H H1 h h1) {b:Addr} {ob:Obj} (q:h.get? b=some ob) (n:Idl (H b)) (hx:b∉ex):Idl (H1 b):=by
 rcases n with n|⟨xs,n⟩
 · exact .inl (u.free b ob q n hx)
 · exact .inr ⟨xs,u.tups b xs n⟩
theorem Un.kept (k:∀b u,h.get? b=some u→h'.get? b=some u):Un fs ex H H h h':=
 ⟨fun b ob q _ _ _=>k b ob q,fun b ob q _ _ _=>⟨ob.slots,k b ob q⟩,fun _ _ _ n _=>n,fun b ob q _=>⟨ob,k b ob q⟩,fun _ _ q=>q,fun _ _ _ q=>q,fun _ ps q=>⟨#[],by rw [q];simp⟩⟩
theorem Un.refl:Un fs ex H H h h:=Un.kept fun _ _ q=>q
theorem Un.laid (k:∀b u,h.get? b=some u→h'.get? b=some u) (hp:h.objs.size≤a) (hn:H a=none):Un fs ex H (upd H a o) h h' where
 keep:=fun b u q _ _ _=>k b u q
 slot:=fun b u q _ _ _=>⟨u.slots,k b u q⟩
 free:=fun b u q n _=>by rw [ak (Nat.ne_of_lt (Nat.lt_of_lt_of_le (Heap.lt_size q) hp))];exact n
 there:=fun b u q _=>⟨u,k b u q⟩
 tups:=fun b xs q=>by rw [ak (aR q hn)];exact q
 frzs:=fun b u xs q=>by rw [ak (aR q hn)];exact q
 tbls:=fun b ps q=>⟨#[],by rw [ak (aR q hn),q];simp⟩
theorem Un.write (mu:Mut (H x)) (he:e=x∨H e=some (.own x)) (k:∀b u,b≠e→h.get? b=some u→h'.get? b=some u) (heo:∃u,h'.get? e=some u):Un fs ex H (upd H x o) h h':=by
 have hx:∀b,H b=none→b≠x:=fun b n z=>by subst z;rw [n] at mu;exact mu
 have hb:∀b,H b=none→b≠e:=fun b n z=>by
  subst z
  rcases he with r|r
  · exact hx b n r
  · rw [n] at r;cases r
 have hi:∀b,Idl (H b)→b≠e:=fun b n z=>by
  rcases n with n|⟨xs,n⟩
  · exact hb b n z
  · subst z
    rcases he with r|r
    · subst r
      rw [n] at mu
      exact mu
    · rw [n] at r;cases r
 have hm:∀b u,H b=some u→¬Mut (some u)→b≠x:=fun b u q nm z=>by subst z;rw [q] at mu;exact nm mu
 refine ⟨fun b u q n _ _=>k b u (hi b n) q,fun b u q n _ _=>⟨u.slots,k b u (hb b n) q⟩,fun b u q n _=>by rw [ak (hx b n)];exact n,fun b u q _=> ?_,
  fun b xs q=>by rw [ak (hm b _ q fun z=>z)];exact q,fun b u xs q=>by rw [ak (hm b _ q fun z=>z)];exact q,fun b ps q=>⟨#[],by rw [ak (hm b _ q fun z=>z),q];simp⟩⟩
 by_cases hbe:b=e
 · subst hbe;exact heo
 · exact ⟨u,k b u hbe q⟩
end
noncomputable def trk (h:Heap) (H:Hp):List Addr:=(List.range h.objs.size).filter fun a=>(H a).isSome
noncomputable def hidT (h:Heap) (H:Hp):Heap:=PySem.W.hideAll h (trk h H)
theorem oG (h:Heap) (H:Hp):(hidT h H).objs.size=h.objs.size:=PySem.W.hideAll_size _ _
theorem rJ {h:Heap} {H:Hp} {b:Addr} {o:Obj} (e:h.get? b=some o) (n:H b=none):(hidT h H).get? b=some o:=
 PySem.W.hideAll_get _ e fun hm=>by
  have q:(H b).isSome=true:=(List.mem_filter.mp hm).2
  rw [n] at q;simp at q
theorem nj {h:Heap} {H:Hp} {b:Addr} {o:Obj} (e:(hidT h H).get? b=some o):h.get? b=some o∧H b=none:=by
 have e':h.get? b=some o:=PySem.W.of_hideAll (trk h H) e
 refine ⟨e',?_⟩
 cases q:H b with
 |none=>rfl
 |some x=>
  have hm:b∈trk h H:=List.mem_filter.mpr ⟨List.mem_range.mpr (Heap.lt_size e'),by simp [q]⟩
  have z:(hidT h H).get? b=none:=PySem.W.hideAll_none (trk h H) hm
  rw [z] at e;cases e
noncomputable def ug (g h:Heap) (L:Addr):List (Addr×Obj):=(List.range h.objs.size).filterMap fun a=>if a=L∨(g.get? a).isSome=true then none else (h.get? a).map fun o=>(a,o)
noncomputable def rest (g h:Heap) (L d:Addr):List (Addr×Obj):=(ug g h L).filter fun p=>decide (p.1≠d)
open PySem PySem.Spec PyProof.Rows
structure Mod (K:PySem.W.Frag) (mg:Str→Option Value) (base:Heap):Prop where
 kin:K.In base
 glob:base.Ns mainGlobals mg
 blt:∃mb,base.Ns builtinsNs mb∧∀x:Str,x≠"__name__"→mb x=bootBuiltins x
 nolimit:base.NoLimit
structure Cx where
 prog:Program
 w:World
 K:PySem.W.Frag
 mg:Str→Option Value
 base:Heap
 A:Around
 N:List Str
 s₀:Shared
 H₀:Hp
 env:Env
 outer:List Env
 stack:List Env
 ex:List Addr
 fn:Str→Bool
 calm:Bool
 pn:List (Addr×Obj)
 xe:Value→Shared→Prop
def frs (l:List Env):List Addr:=l.filterMap (·.frame)
abbrev Cx.fs (X:Cx):List Addr:=frs X.outer
def Vis (sc:Scope) (x:Str):Prop:=sc.names.lookup x=some .local∨sc.names.lookup x=some .cell∨sc.names.lookup x=some .free
def Loc (sc:Scope) (x:Str):Prop:=sc.names.lookup x=some .local∨sc.names.lookup x=some .cell
def Look (env:Env) (h:Heap) (m:Str→Option Value) (x:Str) (u:Value):Prop:=
 (env.kindOf x=some .local∧m x=some u)∨((env.kindOf x=some .cell∨env.kindOf x=some .free)∧∃c,env.cells.lookup x=some c∧h.IsCell c (some u))
structure Cx.Ok (X:Cx):Prop where
 mod:Mod X.K X.mg X.base
 kind:X.env.scope.kind= .function
 glob:X.env.globals=mainGlobals
 blt:X.env.builtins=builtinsNs
 above:X.s₀.heap.objs.size≤X.env.locals
 inj:∀x y c,X.env.cells.lookup x=some c→X.env.cells.lookup y=some c→x=y
 has:∀x,(X.env.kindOf x=some .cell∨X.env.kindOf x=some .free)→∃c,X.env.cells.lookup x=some c
 cab:∀x c,X.fn x=true→X.env.cells.lookup x=some c→X.s₀.heap.objs.size≤c
 hd:X.calm=true→X.A.handled=none
 frames:X.A.frames=some X.stack
 stk:X.stack=X.outer∨(X.stack=X.env::X.outer∧X.env.frame=some X.env.locals)
 exf:∀b∈X.ex,b≠X.env.locals∧∀x c,X.env.cells.lookup x=some c→c≠b
 bs:∀b o,X.base.get? b=some o→X.s₀.heap.get? b=some o∧Idl (X.H₀ b)
 bsz:X.base.objs.size≤X.s₀.heap.objs.size
 noex:∀b o,X.base.get? b=some o→b∉X.ex
 exfs:∀b∈X.ex,b∉X.fs
 funs:X.s₀.heap.FunFrames X.base X.outer
 frf:∀b∈X.fs,X.H₀ b=none
structure Inv (X:Cx) (pins:List (Addr×Obj)) (σ:List (Option V)) (H:Hp) (s:Shared):Prop where
 ok:X.Ok
 os:s.os=X.s₀.os
 bare:AllBare s.gens
 base:Un X.fs X.ex X.H₀ H X.s₀.heap s.heap
 loc:∃m,s.heap.Ns X.env.locals m∧∀(i:Nat) (x:Str) (v:V),X.N[i]?=some x→σ[i]?=some (some v)→Vis X.env.scope x→∃u,RelV v u∧Look X.env s.heap m x u
 cell:∀x c,X.env.cells.lookup x=some c→∃v,s.heap.IsCell c v
 free:H X.env.locals=none
 freeC:∀x c,X.env.cells.lookup x=some c→H c=none
 pin:∀p∈X.pn++pins,s.heap.get? p.1=some p.2∧H p.1=none∧p.1≠X.env.locals∧p.1∉X.fs∧∀v,p.2.data≠ .cell v
 hok:HOk X.prog X.w H s.heap
 len:σ.length=X.N.length
section
variable {X:Cx} {pins:List (Addr×Obj)} {σ:List (Option V)} {H H':Hp} {s:Shared} {h':Heap}
theorem Cx.Ok.nofr (ok:X.Ok) {b:Addr} {o:Obj} (e:X.base.get? b=some o):b∉X.fs:=fun hb=>by
 have:=(ok.funs.mem hb).1
 rw [e] at this;cases this
theorem Inv.bs (I:Inv X pins σ H s):∀b o,X.base.get? b=some o→s.heap.get? b=some o∧Idl (H b):=fun b o e=>
 ⟨I.base.keep b o (I.ok.bs b o e).1 (I.ok.bs b o e).2 (I.ok.nofr e) (I.ok.noex b o e),I.base.idl (I.ok.bs b o e).1 (I.ok.bs b o e).2 (I.ok.noex b o e)⟩
theorem Inv.bk (I:Inv X pins σ H s):∀b o,X.base.get? b=some o→s.heap.get? b=some o:=fun b o e=>(I.bs b o e).1
theorem Inv.mod (I:Inv X pins σ H s):Mod X.K X.mg X.base:=I.ok.mod
theorem Inv.kIn (I:Inv X pins σ H s):X.K.In s.heap:=I.ok.mod.kin.keeps I.bk
theorem Inv.nolimit (I:Inv X pins σ H s):s.heap.NoLimit:=I.ok.mod.nolimit.keeps I.bk
theorem Inv.fr (I:Inv X pins σ H s):∃m,Fr X.base X.env.locals s.heap m:=
 let ⟨m,hn,_⟩:=I.loc
 ⟨m,hn,I.bk,Nat.le_trans I.ok.bsz I.ok.above⟩
theorem Inv.lt (I:Inv X pins σ H s):X.env.locals < s.heap.objs.size:=let ⟨_,hn,_⟩:=I.loc;hn.lt
theorem Inv.sz (I:Inv X pins σ H s):X.s₀.heap.objs.size≤s.heap.objs.size:=Nat.le_trans I.ok.above (Nat.le_of_lt I.lt)
theorem Inv.nofs (I:Inv X pins σ H s) {a:Addr} (h:s.heap.objs.size≤a):a∉X.fs:=fun hb=>by
 obtain ⟨_,o,ho,_⟩:=I.ok.funs.mem hb
 exact absurd (Nat.lt_of_lt_of_le (Heap.lt_size ho) (Nat.le_trans I.sz h)) (Nat.lt_irrefl _)
theorem Inv.cne (I:Inv X pins σ H s):∀x c,X.env.cells.lookup x=some c→c≠X.env.locals:=fun x c e z=>by
 obtain ⟨v,o,ho,hd⟩:=I.cell x c e
 obtain ⟨m,⟨o',es,ep,ho',hd',_⟩,_⟩:=I.loc
 rw [z,ho'] at ho;cases ho;rw [hd'] at hd;cases hd
theorem Inv.funs (I:Inv X pins σ H s):s.heap.FunFrames X.base X.outer:=by
 have all:∀(l:List Env),(∀b∈frs l,b∈X.fs)→X.s₀.heap.FunFrames X.base l→s.heap.FunFrames X.base l:=by
  intro l
  induction l with
  |nil=>intro _ _;trivial
  |cons env r ih=>
   intro hs hl
   obtain ⟨hk,⟨L,o,hf,hn,ho,hd⟩,hr⟩:=hl
   have hL:L∈X.fs:=hs L (by unfold frs;rw [List.filterMap_cons,hf];exact List.mem_cons_self)
   obtain ⟨sl,e⟩:=I.base.slot L o ho (I.ok.frf L hL) hL fun z=>I.ok.exfs L z hL
   exact ⟨hk,⟨L,_,hf,hn,e,hd⟩,ih (fun b hb=>hs b (by unfold frs;rw [List.filterMap_cons,hf];exact List.mem_cons_of_mem _ hb)) hr⟩
 exact all X.outer (fun _ hb=>hb) I.ok.funs
theorem Inv.stack (I:Inv X pins σ H s):s.heap.FunFrames X.base X.stack:=by
 rcases I.ok.stk with e|⟨e,hf⟩
 · rw [e];exact I.funs
 · rw [e]
   obtain ⟨m,hn,_⟩:=I.loc
   refine .cons (by rw [I.ok.kind];decide) hf hn ?_ I.funs
   exact Heap.get?_none_of_le (Nat.le_trans I.ok.bsz I.ok.above)
theorem Inv.stkSub (I:Inv X pins σ H s):∀b∈frs X.stack,b∈X.env.locals::X.fs:=fun b hb=>by
 rcases I.ok.stk with e|⟨e,hf⟩
 · rw [e] at hb;exact List.mem_cons_of_mem _ hb
 · rw [e] at hb
   unfold frs at hb
   rw [List.filterMap_cons,hf] at hb
   exact hb
theorem Inv.stkFree (I:Inv X pins σ H s):∀b∈frs X.stack,H b=none:=fun b hb=>by
 rcases List.mem_cons.mp (I.stkSub b hb) with e|hb
 · rw [e];exact I.free
 · obtain ⟨_,o,ho,_⟩:=I.ok.funs.mem hb
   exact I.base.free b o ho (I.ok.frf b hb) fun z=>I.ok.exfs b z hb
theorem Inv.step {g':Array GenState} {t':Nat} {d':Drawn} {ch:List Addr} (I:Inv X pins σ H s)
 (hch:∀b∈ch,(b∈X.ex∨X.s₀.heap.objs.size≤b)∧b≠X.env.locals∧(∀x c,X.env.cells.lookup x=some c→c≠b)∧∀p∈X.pn++pins,p.1≠b)
 (keep:∀b o,b≠X.env.locals→b∉X.fs→b∉ch→s.heap.get? b=some o→Idl (H b)→h'.get? b=some o)
 (slot:∀b o,b≠X.env.locals→b∈X.fs→b∉ch→s.heap.get? b=some o→H b=none→∃sl,h'.get? b=some {o with slots:=sl}) (free:∀b o,b∉ch→s.heap.get? b=some o→H b=none→H' b=none)
 (there:∀b o,b∉ch→s.heap.get? b=some o→∃o',h'.get? b=some o')
 (tups:∀b xs,H b=some (.tup xs)→H' b=some (.tup xs)) (frzs:∀b o u,H b=some (.frz o u)→H' b=some (.frz o u)) (tbls:∀b ps,H b=some (.tbl ps)→∃more,H' b=some (.tbl (ps++more)))
 (ns:∀m,s.heap.Ns X.env.locals m→h'.Ns X.env.locals m) (hok:HOk X.prog X.w H' h') (hg:AllBare g'):
 Inv X pins σ H' {s with heap:=h',gens:=g',drawn:=d',toks:=t'}:=by
 have neL:∀b o,X.s₀.heap.get? b=some o→b≠X.env.locals:=fun b o e=>Nat.ne_of_lt (Nat.lt_of_lt_of_le (Heap.lt_size e) I.ok.above)
 have neC:∀b o,X.s₀.heap.get? b=some o→b∉X.ex→b∉ch:=fun b o e hx hb=>by
  rcases (hch b hb).1 with z|z
  · exact hx z
  · exact absurd (Nat.lt_of_lt_of_le (Heap.lt_size e) z) (Nat.lt_irrefl _)
 have cellK:∀x c,X.env.cells.lookup x=some c→∀v,s.heap.IsCell c v→h'.IsCell c v:=fun x c e v ⟨o,ho,hd⟩=>by
  have nch:c∉ch:=fun z=>(hch c z).2.2.1 x c e rfl
  by_cases hc:c∈X.fs
  · obtain ⟨sl,q⟩:=slot c o (I.cne x c e) hc nch ho (I.freeC x c e)
    exact ⟨_,q,hd⟩
  · exact ⟨o,keep c o (I.cne x c e) hc nch ho (.inl (I.freeC x c e)),hd⟩
 refine ⟨I.ok,I.os,hg,⟨fun b o e n hb hx=> ?_,fun b o e n hb hx=> ?_,fun b o e n hx=> ?_,fun b o e hx=> ?_,fun b xs e=>tups b xs (I.base.tups b xs e),fun b o xs e=>frzs b o xs (I.base.frzs b o xs e),fun b ps e=> ?_⟩,?_,fun x c e=> ?_,?_,fun x c e=> ?_,fun p hp=> ?_,hok,I.len⟩
 · exact keep b o (neL b o e) hb (neC b o e hx) (I.base.keep b o e n hb hx) (I.base.idl e n hx)
 · obtain ⟨sl,e1⟩:=I.base.slot b o e n hb hx
   obtain ⟨sl',e2⟩:=slot b _ (neL b o e) hb (neC b o e hx) e1 (I.base.free b o e n hx)
   exact ⟨sl',e2⟩
 · obtain ⟨o',e1⟩:=I.base.there b o e hx
   exact free b o' (neC b o e hx) e1 (I.base.free b o e n hx)
 · obtain ⟨o',e1⟩:=I.base.there b o e hx
   exact there b o' (neC b o e hx) e1
 · obtain ⟨m1,e1⟩:=I.base.tbls b ps e
   obtain ⟨m2,e2⟩:=tbls b _ e1
   exact ⟨m1++m2,by rw [e2,Array.append_assoc]⟩
 · obtain ⟨m,hn,hl⟩:=I.loc
   refine ⟨m,ns m hn,fun i x v e1 e2 e3=> ?_⟩
   obtain ⟨u,r,l⟩:=hl i x v e1 e2 e3
   refine ⟨u,r,?_⟩
   rcases l with l|⟨k,c,e,z⟩
   · exact .inl l
   · exact .inr ⟨k,c,e,cellK x c e _ z⟩
 · obtain ⟨v,z⟩:=I.cell x c e
   exact ⟨v,cellK x c e v z⟩
 · obtain ⟨m,⟨o,_,_,ho,_⟩,_⟩:=I.loc
   exact free _ o (fun z=>(hch _ z).2.1 rfl) ho I.free
 · obtain ⟨v,o,ho,hd⟩:=I.cell x c e
   exact free c o (fun z=>(hch c z).2.2.1 x c e rfl) ho (I.freeC x c e)
 · obtain ⟨e,n,ne,nf,d⟩:=I.pin p hp
   have nch:p.1∉ch:=fun z=>(hch p.1 z).2.2.2 p hp rfl
   exact ⟨keep p.1 p.2 ne nf nch e (.inl n),free p.1 p.2 nch e n,ne,nf,d⟩
theorem Inv.un {t':Nat} (I:Inv X pins σ H s) (u:Un X.fs [] H H' s.heap h') (hok:HOk X.prog X.w H' h'):Inv X pins σ H' {s with heap:=h',toks:=t'}:=by
 obtain ⟨m,⟨o,es,ep,ho,r⟩,_⟩:=id I.loc
 obtain ⟨sl,hL⟩:=u.any ho I.free (by simp)
 exact I.step (g':=s.gens) (d':=s.drawn) (ch:= []) (fun _ z=>nomatch z) (fun b o _ hb _ e n=>u.keep b o e n hb (by simp)) (fun b o _ hb _ e n=>u.slot b o e n hb (by simp)) (fun b o _ e n=>u.free b o e n (by simp)) (fun b o _ e=>u.there b o e (by simp)) u.tups u.frzs u.tbls (fun m' hm=>by
  obtain ⟨o',es',ep',ho',r'⟩:=hm
  rw [ho] at ho';cases ho'
  exact ⟨_,es',ep',hL,r'⟩) hok I.bare
theorem Inv.call {g':Array GenState} {t':Nat} {d':Drawn} {ch:List Addr} (I:Inv X pins σ H s) (u:Un (frs X.stack) ch H H' s.heap h') (hok:HOk X.prog X.w H' h') (hg:AllBare g')
 (hch:∀b∈ch,(b∈X.ex∨X.s₀.heap.objs.size≤b)∧b≠X.env.locals∧(∀x c,X.env.cells.lookup x=some c→c≠b)∧∀p∈X.pn++pins,p.1≠b):
 Inv X pins σ H' {s with heap:=h',gens:=g',drawn:=d',toks:=t'}:=by
 obtain ⟨m,⟨o,es,ep,ho,r⟩,_⟩:=id I.loc
 obtain ⟨sl,hL⟩:=u.any ho I.free fun z=>(hch _ z).2.1 rfl
 exact I.step (ch:=ch) hch (fun b o hL hb hc e n=>u.keep b o e n (fun z=>(List.mem_cons.mp (I.stkSub b z)).elim hL hb) hc) (fun b o _ _ hc e n=>u.any e n hc) (fun b o hc e n=>u.free b o e n hc) (fun b o hc e=>u.there b o e hc) u.tups u.frzs u.tbls (fun m' hm=>by
  obtain ⟨o',es',ep',ho',r'⟩:=hm
  rw [ho] at ho';cases ho'
  exact ⟨_,es',ep',hL,r'⟩) hok hg
theorem Inv.turned {t':Nat} {it:Addr} (I:Inv X pins σ H s) (k:∀b o,b≠it→s.heap.get? b=some o→h'.get? b=some o) (hn:H it=none) (hL:it≠X.env.locals)
 (h1:it∈X.ex∨X.s₀.heap.objs.size≤it) (h2:∀x c,X.env.cells.lookup x=some c→c≠it) (h3:∀p∈X.pn++pins,p.1≠it):Inv X pins σ H {s with heap:=h',toks:=t'}:=by
 have nit:∀b u,H b=some u→b≠it:=fun b u e z=>by rw [z,hn] at e;cases e
 refine I.step (g':=s.gens) (d':=s.drawn) (ch:= [it]) (fun b hb=> ?_) (fun b o _ _ hc e _=>k b o (fun z=>hc (by simp [z])) e) (fun b o _ _ hc e _=>⟨o.slots,k b o (fun z=>hc (by simp [z])) e⟩) (fun _ _ _ _ n=>n)
  (fun b o hc e=>⟨o,k b o (fun z=>hc (by simp [z])) e⟩) (fun _ _ e=>e) (fun _ _ _ e=>e) (fun b ps e=>⟨#[],by rw [e];simp⟩) (fun m hm=> ?_) (fun b u e=> ?_) I.bare
 · have e:b=it:=by simpa using hb
   subst e
   exact ⟨h1,hL,h2,h3⟩
 · obtain ⟨o,es,ep,ho,r⟩:=hm
   exact ⟨o,es,ep,k _ o (Ne.symm hL) ho,r⟩
 · refine (I.hok b u e).stay (fun c v hc q=>k c v ?_ q) (fun _ q=>q) fun _ _ q=>q
   rcases hc with z|z
   · rw [z];exact nit b u e
   · exact nit c _ z
theorem Inv.tok (I:Inv X pins σ H s) (t:Nat):Inv X pins σ H {s with toks:=t}:=I.un (h':=s.heap) (t':=t) Un.refl I.hok
theorem Inv.kept {t':Nat} (I:Inv X pins σ H s) (k:∀b u,s.heap.get? b=some u→h'.get? b=some u):Inv X pins σ H {s with heap:=h',toks:=t'}:=I.un (Un.kept k) (I.hok.kept k)
theorem Inv.laid {a:Addr} {o:HO} {t':Nat} (I:Inv X pins σ H s) (k:∀b u,s.heap.get? b=some u→h'.get? b=some u) (hp:s.heap.objs.size≤a) (new:ObjOk X.prog X.w (upd H a o) h' a o):
 Inv X pins σ (upd H a o) {s with heap:=h',toks:=t'}:=I.un (Un.laid k hp (I.hok.fresh hp)) (I.hok.laid k hp new)
theorem Inv.write {x e:Addr} {o:HO} {t':Nat} (I:Inv X pins σ H s) (mu:Mut (H x)) (he:e=x∨H e=some (.own x)) (k:∀b u,b≠e→s.heap.get? b=some u→h'.get? b=some u) (heo:∃u,h'.get? e=some u)
 (new:ObjOk X.prog X.w (upd H x o) h' x o):Inv X pins σ (upd H x o) {s with heap:=h',toks:=t'}:=I.un (Un.write mu he k heo) (I.hok.write mu he k heo new)
theorem Inv.weak {σ':List (Option V)} (I:Inv X pins σ H s) (hl:σ'.length=σ.length) (w:∀(i:Nat) v,σ'[i]?=some (some v)→σ[i]?=some (some v)):Inv X pins σ' H s:=
 ⟨I.ok,I.os,I.bare,I.base,let ⟨m,hn,hl'⟩:=I.loc;⟨m,hn,fun i x v e1 e2 e3=>hl' i x v e1 (w i v e2) e3⟩,I.cell,I.free,I.freeC,I.pin,I.hok,hl.trans I.len⟩
theorem Inv.pins_of {pins':List (Addr×Obj)} (I:Inv X pins σ H s) (h:∀p∈pins',s.heap.get? p.1=some p.2∧H p.1=none∧p.1≠X.env.locals∧p.1∉X.fs∧∀v,p.2.data≠ .cell v):Inv X pins' σ H s:=
 ⟨I.ok,I.os,I.bare,I.base,I.loc,I.cell,I.free,I.freeC,fun p hp=>(List.mem_append.mp hp).elim (fun z=>I.pin p (List.mem_append_left _ z)) (h p),I.hok,I.len⟩
theorem k8 {N:List Str} (hN:N.Nodup) {i j:Nat} {x:Str} (a:N[i]?=some x) (b:N[j]?=some x):i=j:=by
 obtain ⟨h1,e1⟩:=List.getElem?_eq_some_iff.mp a
 obtain ⟨h2,e2⟩:=List.getElem?_eq_some_iff.mp b
 exact (List.getElem_inj hN).mp (e1.trans e2.symm)
theorem iw {M:Model} {A:Around} {E:Value→Shared→Prop} {i:Nat} {x:Str} {v:V} {u:Value} {Q:Unit→Shared→Prop} (I:Inv X pins σ H s) (hN:X.N.Nodup) (hi:X.N[i]?=some x) (hx:Loc X.env.scope x) (r:RelV v u)
 (h:∀s',Inv X pins (σ.set i (some v)) H s'→(∃a,Heap.SameBut a s.heap s'.heap∧(a=X.env.locals∨X.env.cells.lookup x=some a))→Q () s') (hf:X.fn x=true∨X.env.scope.names.lookup x=some .local:=by first|exact .inl rfl|exact .inr rfl|assumption):wpAny M A (storeName X.env x u) Q E s:=by
 obtain ⟨m,hn,hl⟩:=id I.loc
 have hcls:(X.env.scope.kind== .class ||(X.env.scope.kind== .module&&X.env.locals !=X.env.globals))=false:=by rw [I.ok.kind];rfl
 have hiσ:i < σ.length:=by rw [I.len];exact (List.getElem?_eq_some_iff.mp hi).1
 have cne:=I.cne
 have tracked:∀ {a:Addr} {h':Heap},(∃o,s.heap.get? a=some o∧H a=none)→Heap.SameBut a s.heap h'→HOk X.prog X.w H h':=fun {a h'} ha hs b ob e=>by
  obtain ⟨_,_,hfree⟩:=ha
  refine (I.hok b ob e).stay (fun c w' hc q=>(hs.2 c ?_).trans q) (fun _ q=>q) fun _ _ q=>q
  rintro rfl
  rcases hc with rfl|hc
  · rw [hfree] at e;cases e
  · rw [hfree] at hc;cases hc
 rcases hx with hk|hk
 · refine wpAny_storeName_local hk hn (fun h' hn' hs=> ?_) hcls
   obtain ⟨oL,_,_,hoL,_⟩:=id hn
   refine h _ ⟨I.ok,I.os,I.bare,⟨fun b o e n hb hx=> ?_,fun b o e n hb hx=> ?_,I.base.free,fun b o e hx=> ?_,I.base.tups,I.base.frzs,I.base.tbls⟩,⟨_,hn',fun j y v' e1 e2 e3=> ?_⟩,fun y c e=> ?_,I.free,I.freeC,fun p hp=> ?_,tracked ⟨oL,hoL,I.free⟩ hs,by simpa using I.len⟩ ⟨_,hs, .inl rfl⟩
   · exact (hs.2 b (Nat.ne_of_lt (Nat.lt_of_lt_of_le (Heap.lt_size e) I.ok.above))).trans (I.base.keep b o e n hb hx)
   · obtain ⟨sl,e1⟩:=I.base.slot b o e n hb hx
     exact ⟨sl,(hs.2 b (Nat.ne_of_lt (Nat.lt_of_lt_of_le (Heap.lt_size e) I.ok.above))).trans e1⟩
   · obtain ⟨o',e1⟩:=I.base.there b o e hx
     exact ⟨o',(hs.2 b (Nat.ne_of_lt (Nat.lt_of_lt_of_le (Heap.lt_size e) I.ok.above))).trans e1⟩
   · by_cases hj:j=i
     · subst hj
       rw [hi] at e1;cases e1
       rw [List.getElem?_set_self hiσ] at e2
       cases e2
       exact ⟨u,r, .inl ⟨hk,by simp⟩⟩
     · rw [List.getElem?_set_ne (Ne.symm hj)] at e2
       obtain ⟨u',r',q⟩:=hl j y v' e1 e2 e3
       refine ⟨u',r',?_⟩
       rcases q with ⟨k,e⟩|⟨k,c,e,z⟩
       · refine .inl ⟨k,?_⟩
         have:y≠x:=fun e=>hj (k8 hN e1 (e▸hi))
         simp [this,e]
       · exact .inr ⟨k,c,e,z.sameBut hs (cne y c e)⟩
   · obtain ⟨w',z⟩:=I.cell y c e
     exact ⟨w',z.sameBut hs (cne y c e)⟩
   · obtain ⟨e,n,ne,nf,d⟩:=I.pin p hp
     exact ⟨(hs.2 p.1 ne).trans e,n,ne,nf,d⟩
 · have hfn:X.fn x=true:=by
    rcases hf with z|z
    · exact z
    · rw [z] at hk;cases hk
   obtain ⟨c,hc⟩:=I.ok.has x (.inl hk)
   obtain ⟨w',z⟩:=I.cell x c hc
   refine wpAny_storeName_cell I.ok.kind hk hc z (fun h' hc' hs=> ?_)
   obtain ⟨oc,hoc,hocd⟩:=id z
   refine h {s with heap:=h'} ⟨I.ok,I.os,I.bare,⟨fun b o e n hb hx=> ?_,fun b o e n hb hx=> ?_,I.base.free,fun b o e hx=> ?_,I.base.tups,I.base.frzs,I.base.tbls⟩,⟨m,hn.sameBut hs (Ne.symm (cne x c hc)),fun j y v' e1 e2 e3=> ?_⟩,fun y c' e=> ?_,I.free,I.freeC,fun p hp=> ?_,tracked ⟨oc,hoc,I.freeC x c hc⟩ hs,by simpa using I.len⟩ ⟨c,hs, .inr hc⟩
   · exact (hs.2 b (Nat.ne_of_lt (Nat.lt_of_lt_of_le (Heap.lt_size e) (I.ok.cab x c hfn hc)))).trans (I.base.keep b o e n hb hx)
   · obtain ⟨sl,e1⟩:=I.base.slot b o e n hb hx
     exact ⟨sl,(hs.2 b (Nat.ne_of_lt (Nat.lt_of_lt_of_le (Heap.lt_size e) (I.ok.cab x c hfn hc)))).trans e1⟩
   · obtain ⟨o',e1⟩:=I.base.there b o e hx
     exact ⟨o',(hs.2 b (Nat.ne_of_lt (Nat.lt_of_lt_of_le (Heap.lt_size e) (I.ok.cab x c hfn hc)))).trans e1⟩
   · by_cases hj:j=i
     · subst hj
       rw [hi] at e1;cases e1
       rw [List.getElem?_set_self hiσ] at e2
       cases e2
       exact ⟨u,r, .inr ⟨.inl hk,c,hc,hc'⟩⟩
     · rw [List.getElem?_set_ne (Ne.symm hj)] at e2
       obtain ⟨u',r',q⟩:=hl j y v' e1 e2 e3
       refine ⟨u',r',?_⟩
       rcases q with q|⟨k,c',e,z'⟩
       · exact .inl q
       · refine .inr ⟨k,c',e,z'.sameBut hs ?_⟩
         rintro rfl
         exact hj (k8 hN e1 (I.ok.inj _ _ _ e hc▸hi))
   · by_cases hcc:c'=c
     · subst hcc;exact ⟨_,hc'⟩
     · obtain ⟨w2,z2⟩:=I.cell y c' e
       exact ⟨w2,z2.sameBut hs hcc⟩
   · obtain ⟨e,n,ne,nf,d⟩:=I.pin p hp
     refine ⟨(hs.2 p.1 ?_).trans e,n,ne,nf,d⟩
     intro q
     rw [q,hoc] at e
     have q':oc=p.2:=Option.some.inj e
     exact d w' (by rw [←q'];exact hocd)
theorem eM {M:Model} {A:Around} {E:Value→Shared→Prop} {i:Nat} {x:Str} {v:V} {u:Value} {Q:Unit→Shared→Prop} (I:Inv X pins σ H s) (hN:X.N.Nodup) (hi:X.N[i]?=some x) (hx:Loc X.env.scope x) (r:RelV v u)
 (h:∀s',Inv X pins (σ.set i (some v)) H s'→Q () s') (hf:X.fn x=true∨X.env.scope.names.lookup x=some .local:=by first|exact .inl rfl|exact .inr rfl|assumption):wpAny M A (storeName X.env x u) Q E s:=
 iw I hN hi hx r (fun s' I' _=>h s' I') hf
theorem Inv.call' {s':Shared} {ch:List Addr} (I:Inv X pins σ H s) (ho:s'.os=s.os) (u:Un (frs X.stack) ch H H' s.heap s'.heap) (hok:HOk X.prog X.w H' s'.heap) (hg:AllBare s'.gens)
 (hch:∀b∈ch,(b∈X.ex∨X.s₀.heap.objs.size≤b)∧b≠X.env.locals∧(∀x c,X.env.cells.lookup x=some c→c≠b)∧∀p∈X.pn++pins,p.1≠b):Inv X pins σ H' s':=by
 obtain ⟨h',g',d',t',o'⟩:=s'
 have e:o'=s.os:=ho
 subst e
 exact I.call (g':=g') (t':=t') (d':=d') u hok hg hch
end
abbrev XK:=Value→Option Addr→Hp→Prop
abbrev St:=List (Option V)
abbrev VK:=V→Hp→Prop
abbrev TE:=St→Hp→VK→Prop
abbrev TT:=St→Hp→(Bool→Hp→Prop)→Prop
abbrev TA:=St→Hp→(List V→Hp→Prop)→Prop
structure Ends where
 nx:St→Hp→Prop
 rt:VK
 bk:St→Hp→Prop:=fun _ _=>False
 ct:St→Hp→Prop:=fun _ _=>False
abbrev TS:=Ends→St→Hp→Prop
def EP (X:Cx) (pins:List (Addr×Obj)) (σ:St) (Q:VK) (u:Value) (s':Shared):Prop:=∃v H',Inv X pins σ H' s'∧RelV v u∧Q v H'
def TP (X:Cx) (pins:List (Addr×Obj)) (σ:St) (Q:Bool→Hp→Prop) (b:Bool) (s':Shared):Prop:=∃H',Inv X pins σ H' s'∧Q b H'
def AP (X:Cx) (pins:List (Addr×Obj)) (σ:St) (Q:List V→Hp→Prop) (us:List Value) (s':Shared):Prop:=∃vs H',Inv X pins σ H' s'∧Vals vs us∧Q vs H'
def SP (X:Cx) (pins:List (Addr×Obj)) (D:Ends) (f:Flow) (s':Shared):Prop:=
 match f with
 | .next=>∃σ' H',Inv X pins σ' H' s'∧D.nx σ' H'
 | .brk=>∃σ' H',Inv X pins σ' H' s'∧D.bk σ' H'
 | .cont=>∃σ' H',Inv X pins σ' H' s'∧D.ct σ' H'
 | .ret u=>∃v σ' H',Inv X pins σ' H' s'∧RelV v u∧D.rt v H'
def PE (X:Cx) (e:Expr) (t:TE):Prop:=
 ∀(pins:List (Addr×Obj)) (s:Shared) (σ:St) (H:Hp) (Q:VK),Inv X pins σ H s→t σ H Q→wpAny (model X.prog X.w) X.A (eval e X.env) (EP X pins σ Q) X.xe s
def PT (X:Cx) (e:Expr) (t:TT):Prop:=
 ∀(pins:List (Addr×Obj)) (s:Shared) (σ:St) (H:Hp) (Q:Bool→Hp→Prop),Inv X pins σ H s→t σ H Q→wpAny (model X.prog X.w) X.A (isTrue e X.env (eval e X.env)) (TP X pins σ Q) X.xe s
def PW (X:Cx) (e:Expr) (t:TT):Prop:=
 ∀(whole:Sem Value) (pins:List (Addr×Obj)) (s:Shared) (σ:St) (H:Hp) (Q:Bool→Hp→Prop),Inv X pins σ H s→t σ H Q→wpAny (model X.prog X.w) X.A (isTrue e X.env whole) (TP X pins σ Q) X.xe s
theorem PW.pt {X:Cx} {e:Expr} {t:TT} (h:PW X e t):PT X e t:=h _
def PA (X:Cx) (es:List Expr) (t:TA):Prop:=
 ∀(pos:Pos) (pins:List (Addr×Obj)) (s:Shared) (σ:St) (H:Hp) (Q:List V→Hp→Prop),Inv X pins σ H s→t σ H Q→wpAny (model X.prog X.w) X.A (spliced (backTo pos (starEach es X.env))) (AP X pins σ Q) X.xe s
def PS (X:Cx) (st:Stmt) (t:TS):Prop:=
 ∀(pins:List (Addr×Obj)) (s:Shared) (σ:St) (H:Hp) (D:Ends),Inv X pins σ H s→t D σ H→wpAny (model X.prog X.w) X.A (exec st X.env) (SP X pins D) X.xe s
def PSs (X:Cx) (st:List Stmt) (t:TS):Prop:=
 ∀(pins:List (Addr×Obj)) (s:Shared) (σ:St) (H:Hp) (D:Ends),Inv X pins σ H s→t D σ H→wpAny (model X.prog X.w) X.A (execs st X.env) (SP X pins D) X.xe s
theorem thn {α:Type} {t:Sem α} {Q Q':α→Shared→Prop} {M:Model} {A:Around} {E:Value→Shared→Prop} {s:Shared} (h:wpAny M A t Q E s) (hQ:∀a s,Q a s→Q' a s):wpAny M A t Q' E s:=wpAny_mono h hQ fun _ _ x=>x
open PySem PySem.Spec PyProof.Rows
section
variable {X:Cx}
def tVar (i:Nat):TE:=fun σ H Q=>∃v,σ[i]?=some (some v)∧Q v H
def tC (v:V):TE:=fun _ H Q=>Q v H
theorem v0 {i:Nat} {x:Str} {pos:Pos} (hN:X.N[i]?=some x) (hv:Vis X.env.scope x) (hd:(x==("__debug__":Str))=false:=by decide) (hcd:(x==("__classdict__":Str))=false:=by decide):PE X (.Name x pos) (tVar i):=by
 intro pins s σ H Q I h
 obtain ⟨v,e,h⟩:=h
 obtain ⟨m,hn,hl⟩:=I.loc
 obtain ⟨u,r,l⟩:=hl i x v hN e hv
 have fin:EP X pins σ Q u s:=⟨v,H,I,r,h⟩
 rcases l with ⟨hk,hm⟩|⟨hk,c,hc,hcell⟩
 · exact wpAny_Name (wpAny_loadName_local I.ok.kind hk hn hm fin) hd
 · rcases hk with hk|hk
   · exact wpAny_Name (wpAny_loadName_cell I.ok.kind hk hc hcell fin) hd
   · exact wpAny_Name (wpAny_loadName_free I.ok.kind hk hc hcell fin hcd) hd
theorem ad {i j pos}:PE X (.Constant (.int i) j pos) (tC (.int i)):=fun _ _ _ H _ I h=>wpAny_Constant_int ⟨.int i,H,I.tok _,⟨_,rfl⟩,h⟩
theorem cE {b j pos}:PE X (.Constant (.bool b) j pos) (tC (.bl b)):=fun _ _ _ H _ I h=>Constant_bool ⟨.bl b,H,I,rfl,h⟩
theorem cq {j pos}:PE X (.Constant .none j pos) (tC .non):=fun _ _ _ H _ I h=>Constant_none ⟨.non,H,I,rfl,h⟩
theorem ai {x j pos}:PE X (.Constant (.str x) j pos) (tC (.str x)):=fun _ _ _ H _ I h=>Calls.Constant_str ⟨.str x,H,I.tok _,⟨_,rfl⟩,h⟩
def Gl (X:Cx) (x:Str):Prop:=X.env.kindOf x=some .globalImplicit
theorem jy {E:Value→Shared→Prop} {pins:List (Addr×Obj)} {s:Shared} {σ:St} {H:Hp} {x:Str} {u:Value} {pos:Pos} {Q:Value→Shared→Prop} (I:Inv X pins σ H s) (hg:Gl X x) (hm:X.mg x=some u) (h:Q u s)
 (hd:(x==("__debug__":Str))=false:=by decide):wpAny (model X.prog X.w) X.A (eval (.Name x pos) X.env) Q E s:=
 Calls.Name_function_global I.ok.kind hg (Calls.loadGlobal_global (by rw [I.ok.glob];exact I.mod.glob.keeps I.bk) hm h) hd
theorem eD {E:Value→Shared→Prop} {pins:List (Addr×Obj)} {s:Shared} {σ:St} {H:Hp} {x:Str} {u:Value} {pos:Pos} {Q:Value→Shared→Prop} (I:Inv X pins σ H s) (hg:Gl X x) (hm:X.mg x=none) (hv:bootBuiltins x=some u) (h:Q u s)
 (hn:x≠"__name__":=by decide) (hd:(x==("__debug__":Str))=false:=by decide):wpAny (model X.prog X.w) X.A (eval (.Name x pos) X.env) Q E s:=by
 obtain ⟨mb,h1,h2⟩:=I.mod.blt
 exact Calls.Name_function_global I.ok.kind hg (Calls.loadGlobal_builtin (by rw [I.ok.glob];exact I.mod.glob.keeps I.bk) hm (by rw [I.ok.blt];exact h1.keeps I.bk) ((h2 x hn).trans hv) h) hd
theorem bR {x:Str} {v:V} {u:Value} {pos:Pos} (hg:Gl X x) (hm:X.mg x=some u) (r:RelV v u) (hd:(x==("__debug__":Str))=false:=by decide):PE X (.Name x pos) (tC v):=
 fun _ _ _ H _ I h=>jy I hg hm ⟨v,H,I,r,h⟩ hd
theorem bv {x:Str} {v:V} {u:Value} {pos:Pos} (hg:Gl X x) (hm:X.mg x=none) (hv:bootBuiltins x=some u) (r:RelV v u) (hn:x≠"__name__":=by decide) (hd:(x==("__debug__":Str))=false:=by decide):PE X (.Name x pos) (tC v):=
 fun _ _ _ H _ I h=>eD I hg hm hv ⟨v,H,I,r,h⟩ hn hd
variable {a b:Expr} {ta tb:TE} {pos:Pos}
def tB (t:TE):TT:=fun σ H Q=>t σ H fun x H1=>∃c,x= .bl c∧Q c H1
theorem bH {e:Expr} {t:TE} (h:PE X e t) (he:∀whole,isTrue e X.env whole=(do let v←whole;standAt e.pos;holding [v] (truthy v)):=by intro _;rfl):PT X e (tB t):=by
 intro pins s σ H Q I hw
 refine isTrue_plain (thn (h pins s σ H _ I hw) fun v s1 ⟨x,H1,I1,r1,q1⟩=> ?_) (he _)
 obtain ⟨d,rfl,q⟩:=q1
 cases r1
 exact wpAny_truthy_bool ⟨H1,I1,q⟩
variable {tA tB':TT} {rest:List Expr}
def tAnd (t u:TT):TT:=fun σ H Q=>t σ H fun c H1=>if c=true then u σ H1 Q else Q false H1
def tOr (t u:TT):TT:=fun σ H Q=>t σ H fun c H1=>if c=true then Q true H1 else u σ H1 Q
def tNot (t:TT):TT:=fun σ H Q=>t σ H fun c H1=>Q (!c) H1
theorem jo (ha:PT X a tA):PW X (.BoolOp .And [a] pos) tA:=by
 intro wh pins s σ H Q I h
 refine isTrue_and (thn (ha pins s σ H Q I h) fun c s1 e=> ?_)
 cases c with
 |true=>exact isTrue_and_nil e
 |false=>exact e
theorem df (ha:PT X a tA):PW X (.BoolOp .Or [a] pos) tA:=by
 intro wh pins s σ H Q I h
 refine isTrue_or (thn (ha pins s σ H Q I h) fun c s1 e=> ?_)
 cases c with
 |false=>exact isTrue_or_nil e
 |true=>exact e
theorem lD (ha:PT X a tA) (hb:PW X (.BoolOp .And (b::rest) pos) tB'):PW X (.BoolOp .And (a::b::rest) pos) (tAnd tA tB'):=by
 intro wh pins s σ H Q I h
 refine isTrue_and (thn (ha pins s σ H _ I h) fun c s1 ⟨H1,I1,q1⟩=> ?_)
 cases c with
 |true=>exact hb wh pins s1 σ H1 Q I1 q1
 |false=>exact ⟨H1,I1,q1⟩
theorem eR (ha:PT X a tA) (hb:PW X (.BoolOp .Or (b::rest) pos) tB'):PW X (.BoolOp .Or (a::b::rest) pos) (tOr tA tB'):=by
 intro wh pins s σ H Q I h
 refine isTrue_or (thn (ha pins s σ H _ I h) fun c s1 ⟨H1,I1,q1⟩=> ?_)
 cases c with
 |true=>exact ⟨H1,I1,q1⟩
 |false=>exact hb wh pins s1 σ H1 Q I1 q1
theorem cC (ha:PT X a tA):PT X (.UnaryOp .Not a pos) (tNot tA):=by
 intro pins s σ H Q I h
 exact isTrue_not (ha pins s σ H (fun c H1=>Q (!c) H1) I h)
def wJ (ta tb:TE):TE:=fun σ H Q=>ta σ H fun x H1=>∃c,x= .bl c∧if c=true then tb σ H1 Q else Q (.bl false) H1
def wF (ta:TE):TE:=fun σ H Q=>ta σ H fun x H1=>∃c,x= .bl c∧Q (.bl (!c)) H1
theorem gY {op} {t:TE} (h:PE X a t):PE X (.BoolOp op [a] pos) t:=fun pins s σ H Q I hw=>BoolOp_one (h pins s σ H Q I hw)
theorem eB (ha:PE X a ta) (hb:PE X (.BoolOp .And (b::rest) pos) tb):PE X (.BoolOp .And (a::b::rest) pos) (wJ ta tb):=by
 intro pins s σ H Q I h
 refine BoolOp_and (thn (ha pins s σ H _ I h) fun v s1 ⟨x,H1,I1,r1,q1⟩=> ?_)
 obtain ⟨c,rfl,q1⟩:=q1
 cases r1
 refine wpAny_truthy_bool ?_
 cases c with
 |true=>exact hb pins s1 σ H1 Q I1 q1
 |false=>exact ⟨.bl false,H1,I1,rfl,q1⟩
theorem v9 (ha:PE X a ta):PE X (.UnaryOp .Not a pos) (wF ta):=by
 intro pins s σ H Q I h
 refine UnaryOp_ (thn (ha pins s σ H _ I h) fun v s1 ⟨x,H1,I1,r1,q1⟩=> ?_)
 obtain ⟨c,rfl,q1⟩:=q1
 cases r1
 exact not_of (wpAny_truthy_bool ⟨.bl (!c),H1,I1,rfl,q1⟩)
def tIf (t:TT) (ta tb:TE):TE:=fun σ H Q=>t σ H fun c H1=>if c=true then ta σ H1 Q else tb σ H1 Q
theorem bK {c:Expr} (hc:PT X c tA) (ha:PE X a ta) (hb:PE X b tb):PE X (.IfExp c a b pos) (tIf tA ta tb):=by
 intro pins s σ H Q I h
 refine wpAny_IfExp (thn (hc pins s σ H _ I h) fun d s1 ⟨H1,I1,q1⟩=> ?_)
 cases d with
 |true=>exact ha pins s1 σ H1 Q I1 q1
 |false=>exact hb pins s1 σ H1 Q I1 q1
end
open PySem PySem.Spec PyProof.Rows
def SqL (K:PySem.W.Frag) (H:Hp) (a:Addr) (xs:List V):Prop:=
 Rd H a (.lst xs)∨
  ∃(o:Obj) (its:Array Value) (n:Nat),K.lookup a=some o∧o.cls= .type "list"∧o.dict=none∧o.data= .seq its n∧its.size≤sizeLine∧Vals xs its.toList
def SqT (K:PySem.W.Frag) (H:Hp) (a:Addr) (xs:List V):Prop:=
 Rd H a (.tup xs)∨
  ∃(o:Obj) (its:Array Value) (n:Nat),K.lookup a=some o∧o.cls= .type "tuple"∧o.data= .seq its n∧its.size≤sizeLine∧Vals xs its.toList
noncomputable def absV:Value→Option V
 | .none=>some .non
 | .bool b=>some (.bl b)
 | .int i _=>some (.int i)
 | .str x _=>some (.str x)
 | .bytes b _=>some (.byt b)
 | .float b _=>some (.flt b)
 | .ref a=>some (.ref a)
 | .type n=>some (.ty n)
 |_=>none
theorem RelV.abs {x:V} {u:Value} (r:RelV x u):absV u=some x:=by
 cases x with
 |non=>cases r;rfl
 |bl _=>cases r;rfl
 |int _=>obtain ⟨t,rfl⟩:=r;rfl
 |str _=>obtain ⟨t,rfl⟩:=r;rfl
 |byt _=>obtain ⟨t,rfl⟩:=r;rfl
 |flt _=>obtain ⟨t,rfl⟩:=r;rfl
 |ref _=>cases r;rfl
 |ty _=>cases r;rfl
theorem RelV.inj {x y:V} {u:Value} (r:RelV x u) (q:RelV y u):x=y:=Option.some.inj (r.abs.symm.trans q.abs)
theorem Vals.inj:∀ {xs ys:List V} {us:List Value},Vals xs us→Vals ys us→xs=ys
 |_,_,_, .nil, .nil=>rfl
 |_,_,_, .cons r t, .cons r' t'=>by rw [r.inj r',Vals.inj t t']
section
variable {X:Cx} {pins:List (Addr×Obj)} {σ:St} {H:Hp} {s:Shared} {a:Addr} {xs ys:List V}
theorem SqL.of {K:PySem.W.Frag} (h:H a=some (.lst xs)):SqL K H a xs:= .inl (.inl h)
theorem SqT.of {K:PySem.W.Frag} (h:H a=some (.tup xs)):SqT K H a xs:= .inl (.inl h)
theorem Inv.list (I:Inv X pins σ H s) (h:SqL X.K H a xs):∃its:List Value,Vals xs its∧PlainL s.heap a its.toArray∧xs.length≤sizeLine:=by
 rcases h with h|⟨o,its,n,hk,hc,hd,hs,hz,r⟩
 · obtain ⟨z,its,n,r,e⟩:=h.ok I.hok
   exact ⟨its,r,⟨_,n,e,rfl,rfl,rfl⟩,z⟩
 · refine ⟨its.toList,r,⟨o,n,I.kIn a o hk,hc,hd,by simpa using hs⟩,?_⟩
   have e:=r.length
   simp only [Array.length_toList] at e
   omega
theorem Inv.tuple (I:Inv X pins σ H s) (h:SqT X.K H a xs):∃its:List Value,Vals xs its∧IsTup s.heap a its.toArray∧xs.length≤sizeLine:=by
 rcases h with h|⟨o,its,n,hk,hc,hs,hz,r⟩
 · obtain ⟨z,its,r,p⟩:=h.ok I.hok
   exact ⟨its,r,p,z⟩
 · refine ⟨its.toList,r,⟨o,I.kIn a o hk,hc,n,by simpa using hs⟩,?_⟩
   have e:=r.length
   simp only [Array.length_toList] at e
   omega
theorem Inv.list_inj (I:Inv X pins σ H s) (h:SqL X.K H a xs) (h':SqL X.K H a ys):xs=ys:=by
 obtain ⟨its,r,⟨o,n,e,_,_,d⟩,_⟩:=I.list h
 obtain ⟨its',r',⟨o',n',e',_,_,d'⟩,_⟩:=I.list h'
 rw [e] at e';cases e'
 rw [d] at d'
 injection d' with d1 _
 have:its=its':=by simpa using congrArg Array.toList d1
 subst this
 exact r.inj r'
theorem Inv.tuple_inj (I:Inv X pins σ H s) (h:SqT X.K H a xs) (h':SqT X.K H a ys):xs=ys:=by
 obtain ⟨its,r,⟨o,e,_,n,d⟩,_⟩:=I.tuple h
 obtain ⟨its',r',⟨o',e',_,n',d'⟩,_⟩:=I.tuple h'
 rw [e] at e';cases e'
 rw [d] at d'
 injection d' with d1 _
 have:its=its':=by simpa using congrArg Array.toList d1
 subst this
 exact r.inj r'
end
abbrev Cx.wish (X:Cx) (E:Value→Shared→Prop):Cx:= {X with xe:=E}
abbrev Cx.nox (X:Cx):Cx:=X.wish fun _ _=>False
theorem Cx.Ok.wish {X:Cx} (ok:X.Ok) (E:Value→Shared→Prop):(X.wish E).Ok:=
 ⟨ok.mod,ok.kind,ok.glob,ok.blt,ok.above,ok.inj,ok.has,ok.cab,ok.hd,ok.frames,ok.stk,ok.exf,ok.bs,ok.bsz,ok.noex,ok.exfs,ok.funs,ok.frf⟩
theorem Cx.Ok.unwish {X:Cx} {E:Value→Shared→Prop} (ok:(X.wish E).Ok):X.Ok:=
 ⟨ok.mod,ok.kind,ok.glob,ok.blt,ok.above,ok.inj,ok.has,ok.cab,ok.hd,ok.frames,ok.stk,ok.exf,ok.bs,ok.bsz,ok.noex,ok.exfs,ok.funs,ok.frf⟩
section
variable {X:Cx} {pins:List (Addr×Obj)} {σ:St} {H:Hp} {s:Shared} {E:Value→Shared→Prop}
theorem Inv.wish (I:Inv X pins σ H s) (E:Value→Shared→Prop):Inv (X.wish E) pins σ H s:=⟨I.ok.wish E,I.os,I.bare,I.base,I.loc,I.cell,I.free,I.freeC,I.pin,I.hok,I.len⟩
theorem Inv.unwish (I:Inv (X.wish E) pins σ H s):Inv X pins σ H s:=⟨I.ok.unwish,I.os,I.bare,I.base,I.loc,I.cell,I.free,I.freeC,I.pin,I.hok,I.len⟩
theorem SP.unwish {D:Ends} {f:Flow} {s':Shared} (h:SP (X.wish E) pins D f s'):SP X pins D f s':=by
 cases f with
 |next=>obtain ⟨σ',H',I,q⟩:=h;exact ⟨σ',H',I.unwish,q⟩
 |brk=>obtain ⟨σ',H',I,q⟩:=h;exact ⟨σ',H',I.unwish,q⟩
 |cont=>obtain ⟨σ',H',I,q⟩:=h;exact ⟨σ',H',I.unwish,q⟩
 |ret u=>obtain ⟨v,σ',H',I,r,q⟩:=h;exact ⟨v,σ',H',I.unwish,r,q⟩
theorem PSs.nox {st:List Stmt} {t:TS} (h:PSs X.nox st t):PSs X st t:=fun pins s σ H D I hw=>
 wpAny_mono (h pins s σ H D (I.wish _) hw) (fun _ _ q=>q.unwish) fun _ _ z=>False.elim z
end
section
variable {X:Cx} {st:Stmt} {rest:List Stmt} {t u:TS} {e:Expr} {te:TE} {pos:Pos}
def pi:TS:=fun D σ H=>D.nx σ H
def tSeq (t u:TS):TS:=fun D σ H=>t {D with nx:=u D} σ H
theorem av:PSs X [] pi:=fun _ _ σ H _ I h=>wpAny_execs_nil ⟨σ,H,I,h⟩
theorem aa (h1:PS X st t) (h2:PSs X rest u):PSs X (st::rest) (tSeq t u):=by
 intro pins s σ H D I h
 refine wpAny_execs_cons (thn (h1 pins s σ H {D with nx:=u D} I h) fun f s1 q=> ?_)
 cases f with
 |next=>
  obtain ⟨σ',H',I',q⟩:=q
  exact h2 pins s1 σ' H' D I' q
 |ret v=>exact q
 |brk=>exact q
 |cont=>exact q
theorem ag (h1:PS X st t):PSs X [st] t:=by
 intro pins s σ H D I h
 refine wpAny_execs_cons (thn (h1 pins s σ H D I h) fun f s1 q=> ?_)
 cases f with
 |next=>exact wpAny_execs_nil q
 |ret v=>exact q
 |brk=>exact q
 |cont=>exact q
theorem Inv.quiet {pins:List (Addr×Obj)} {σ:St} {H:Hp} {s:Shared} (I:Inv X pins σ H s):interactive X.env=false:=by simp [interactive,I.ok.kind]
def wI (te:TE):TS:=fun D σ H=>te σ H fun _ H1=>D.nx σ H1
theorem cg (he:PE X e te) (hs:swapsWith e none pos.line X.env=pure false:=by rfl):PS X (.Expr e pos) (wI te):=by
 intro pins s σ H D I h
 exact wpAny_Expr_any (thn (he pins s σ H _ I h) fun v s1 ⟨x,H1,I1,r1,q1⟩=>⟨σ,H1,I1,q1⟩) I.quiet hs
def tRet (te:TE):TS:=fun D σ H=>te σ H D.rt
theorem aj (he:PE X e te):PS X (.Return (some e) pos) (tRet te):=by
 intro pins s σ H D I h
 exact wpAny_Return_some (thn (he pins s σ H _ I h) fun v s1 ⟨x,H1,I1,r1,q1⟩=>⟨x,σ,H1,I1,r1,q1⟩)
def tIfS (c:TT) (t u:TS):TS:=fun D σ H=>c σ H fun b H1=>if b=true then t D σ H1 else u D σ H1
theorem aK {c:Expr} {a b:List Stmt} {tc:TT} (hc:PT X c tc) (ha:PSs X a t) (hb:PSs X b u):PS X (.If c a b pos) (tIfS tc t u):=by
 intro pins s σ H D I h
 refine wpAny_If (thn (hc pins s σ H _ I h) fun d s1 ⟨H1,I1,q1⟩=> ?_)
 cases d with
 |true=>exact ha pins s1 σ H1 D I1 q1
 |false=>exact hb pins s1 σ H1 D I1 q1
end
abbrev TG:=V→St→Hp→(St→Hp→Prop)→Prop
abbrev TGs:=List V→St→Hp→(St→Hp→Prop)→Prop
def PG (X:Cx) (target:Expr) (t:TG):Prop:=
 ∀(pins:List (Addr×Obj)) (s:Shared) (σ:St) (H:Hp) (v:V) (u:Value) (Q:St→Hp→Prop),Inv X pins σ H s→RelV v u→t v σ H Q→
  wpAny (model X.prog X.w) X.A (assign target X.env u) (fun _ s'=>∃σ' H',Inv X pins σ' H' s'∧Q σ' H') X.xe s
def PGs (X:Cx) (ts:List Expr) (t:TGs):Prop:=
 ∀(pins:List (Addr×Obj)) (s:Shared) (σ:St) (H:Hp) (vs:List V) (us:List Value) (Q:St→Hp→Prop),Inv X pins σ H s→Vals vs us→t vs σ H Q→
  wpAny (model X.prog X.w) X.A (assignInOrder ((assignEach ts X.env).map (·.2)) us) (fun _ s'=>∃σ' H',Inv X pins σ' H' s'∧Q σ' H') X.xe s
abbrev TSet:=V→V→V→Hp→(Hp→Prop)→Prop
def PSet (X:Cx) (t:TSet):Prop:=
 ∀(pins:List (Addr×Obj)) (s:Shared) (σ:St) (H:Hp) (o i v:V) (ov iv u:Value) (Q:Hp→Prop),Inv X pins σ H s→RelV o ov→RelV i iv→RelV v u→t o i v H Q→
  wpAny (model X.prog X.w) X.A (setItem ov iv u) (fun _ s'=>∃H',Inv X pins σ H' s'∧Q H') X.xe s
section
variable {X:Cx} {pos:Pos}
def cv (i:Nat):TG:=fun v σ H Q=>Q (σ.set i (some v)) H
theorem aL {i:Nat} {x:Str} (hN:X.N.Nodup) (hi:X.N[i]?=some x) (hx:Loc X.env.scope x) (hf:X.fn x=true∨X.env.scope.names.lookup x=some .local:=by first|exact .inl rfl|exact .inr rfl|assumption):PG X (.Name x pos) (cv i):=by
 intro pins s σ H v u Q I r h
 exact wpAny_assign_Name (eM I hN hi hx r (fun s' I'=>⟨_,H,I',h⟩) hf)
def gNil:TGs:=fun vs σ H Q=>vs= []∧Q σ H
def ko (t:TG) (u:TGs):TGs:=fun vs σ H Q=>∃v r,vs=v::r∧t v σ H fun σ' H'=>u r σ' H' Q
theorem cI:PGs X [] gNil:=by
 intro pins s σ H vs us Q I r h
 obtain ⟨e,h⟩:=h
 subst e
 cases r
 exact assignInOrder_nil ⟨σ,H,I,h⟩
theorem aY {e:Expr} {es:List Expr} {t:TG} {u:TGs} (h1:PG X e t) (h2:PGs X es u)
 (hs:(assignEach (e::es) X.env).map (·.2)=assign e X.env::(assignEach es X.env).map (·.2):=by rfl):PGs X (e::es) (ko t u):=by
 intro pins s σ H vs us Q I r h
 obtain ⟨v,vr,e1,h⟩:=h
 subst e1
 cases r with
 |cons r rr=>
  rw [hs]
  refine assignInOrder_cons (thn (h1 pins s σ H _ _ _ I r h) fun _ s1 ⟨σ1,H1,I1,q1⟩=> ?_)
  exact h2 pins s1 σ1 H1 _ _ Q I1 rr q1
def gTup (K:PySem.W.Frag) (n:Nat) (t:TGs):TG:=fun v σ H Q=>∃a xs,v= .ref a∧SqT K H a xs∧xs.length=n∧t xs σ H Q
theorem dk {es:List Expr} {k:Nat} {t:TGs} {n:Nat} (hc:X.calm=true) (h:PGs X es t)
 (hn:(assignEach es X.env).length=n:=by rfl) (hst:(assignEach es X.env).findIdx? (·.1)=none:=by rfl):PG X (.Tuple es k pos) (gTup X.K n t):=by
 intro pins s σ H v u Q I r hw
 obtain ⟨a,xs,e1,hq,hl,hw⟩:=hw
 subst e1
 cases r
 obtain ⟨its,rv,ht,hz⟩:=I.tuple hq
 refine assign_Tuple_tuple (I.ok.hd hc) ht (by simp [hn,←hl,rv.length]) hst fun h' hx=> ?_
 have I1:Inv X pins σ H {s with heap:=h'}:=I.kept (t':=s.toks) fun b o e=>hx b o (Nat.ne_of_lt (Heap.lt_size e)) e
 exact h pins _ σ H xs _ Q I1 (by simpa using rv) hw
def gSub (to ti:TE) (t:TSet):TG:=fun v σ H Q=>to σ H fun o H1=>ti σ H1 fun i H2=>t o i v H2 fun H3=>Q σ H3
theorem lI {o i:Expr} {to ti:TE} {t:TSet} (ho:PE X o to) (hi:PE X i ti) (hs:PSet X t)
 (ha:∀v,assign (.Subscript o i pos) X.env v=(do
  let ov←holding [v] (eval o X.env)
  let iv←holding [v,ov] (eval i X.env)
  standAt pos
  holding [v,ov,iv] (setItem ov iv v)
  release [v,ov,iv] []):=by intro _;rfl):PG X (.Subscript o i pos) (gSub to ti t):=by
 intro pins s σ H v u Q I r h
 rw [ha]
 refine wpAny_bind (wpAny_holding (thn (ho pins s σ H _ I h) fun ov s1 ⟨x,H1,I1,r1,q1⟩=> ?_))
 refine wpAny_bind (wpAny_holding (thn (hi pins s1 σ H1 _ I1 q1) fun iv s2 ⟨y,H2,I2,r2,q2⟩=> ?_))
 refine wpAny_bind (wpAny_standAt (wpAny_bind (wpAny_holding (thn (hs pins s2 σ H2 x y v ov iv u _ I2 r1 r2 r q2) fun _ s3 ⟨H3,I3,q3⟩=> ?_))))
 exact wpAny_release ⟨σ,H3,I3,q3⟩
def tAsg (te:TE) (g:TG):TS:=fun D σ H=>te σ H fun x H1=>g x σ H1 D.nx
theorem fw {tg e:Expr} {te:TE} {g:TG} (he:PE X e te) (hg:PG X tg g) (hs:swapsWithSole [tg] e pos.line X.env=pure false:=by rfl) (hw:swappedStores [tg] e X.env=pure none:=by rfl)
 (h1:(assignEach [tg] X.env).map (·.2)= [assign tg X.env]:=by rfl):PS X (.Assign [tg] e pos) (tAsg te g):=by
 intro pins s σ H D I h
 refine wpAny_Assign_stores (thn (he pins s σ H _ I h) fun v s1 ⟨x,H1,I1,r1,q1⟩=> ?_) hs hw
 rw [h1]
 exact thn (hg pins s1 σ H1 x v _ I1 r1 q1) fun _ s2 q=>q
theorem aq {i:Nat} {x:Str} {e:Expr} {te:TE} {pos':Pos} (hN:X.N.Nodup) (hi:X.N[i]?=some x) (hx:Loc X.env.scope x) (he:PE X e te) (hs:swapsWith e (some (.Name x pos')) pos.line X.env=pure false:=by rfl) (hf:X.fn x=true∨X.env.scope.names.lookup x=some .local:=by first|exact .inl rfl|exact .inr rfl|assumption):
 PS X (.Assign [.Name x pos'] e pos) (tAsg te (cv i)):=by
 intro pins s σ H D I h
 refine wpAny_Assign_Name (thn (he pins s σ H _ I h) fun v s1 ⟨y,H1,I1,r1,q1⟩=> ?_) hs
 exact eM I1 hN hi hx r1 (fun s2 I2=>⟨_,H1,I2,q1⟩) hf
def tPar (i j:Nat) (ta:TA):TS:=fun D σ H=>ta σ H fun vs H1=>∃v w,vs= [v,w]∧D.nx ((σ.set i (some v)).set j (some w)) H1
theorem uX {i j:Nat} {x y:Str} {a b:Expr} {ta:TA} {px py pt:Pos} {kt k2 pt2} (hc:X.calm=true) (hN:X.N.Nodup) (hi:X.N[i]?=some x) (hj:X.N[j]?=some y) (hij:i≠j)
 (hx:X.env.scope.names.lookup x=some .local) (hy:X.env.scope.names.lookup y=some .local) (ha:PA X [a,b] ta)
 (hw:swappedStores [.Tuple [.Name x px, .Name y py] kt pt] (.Tuple [a,b] k2 pt2) X.env=pure (some [x,y]))
 (hs:swapsWithSole [.Tuple [.Name x px, .Name y py] kt pt] (.Tuple [a,b] k2 pt2) pos.line X.env=pure false:=by rfl):
 PS X (.Assign [.Tuple [.Name x px, .Name y py] kt pt] (.Tuple [a,b] k2 pt2) pos) (tPar i j ta):=by
 intro pins s σ H D I h
 rw [exec_Assign_arm]
 refine wpAny_bind (wpAny_standAt ?_)
 rw [hs]
 refine wpAny_bind (wpAny_pure ?_)
 rw [if_neg (by decide)]
 refine wpAny_bind (Tuple_ (thn (ha _ pins s σ H _ I h) fun us s1 ⟨vs,H1,I1,r1,q1⟩=> ?_))
 obtain ⟨v,w,e1,q1⟩:=q1
 subst e1
 obtain ⟨u1,u2,rfl,rv,rw'⟩:∃u1 u2,us= [u1,u2]∧RelV v u1∧RelV w u2:=by
  cases r1 with
  |cons p q=>
   cases q with
   |cons p' q'=>
    cases q'
    exact ⟨_,_,rfl,p,p'⟩
 refine wpAny_newObj_type ?_ (by show 2≤sizeLine;decide)
 have I2:Inv X pins σ H1 {s1 with heap:=s1.heap.push {cls:= .type "tuple",data:= .seq [u1,u2].toArray}}:=I1.kept (t':=s1.toks) fun b o e=>Heap.get?_push_of_some _ e
 rw [hw]
 refine wpAny_bind (wpAny_pure ?_)
 show wpAny (model X.prog X.w) X.A (do rule "assign.swapped-stores";let items←unpackItems (.ref s1.heap.objs.size) 2 none;assignInOrder [fun v=>bindName X.env y v,fun v=>bindName X.env x v] items.reverse;pure Flow.next) _ _ _
 refine wpAny_bind (wpAny_rule (wpAny_bind (unpackItems_tuple (items:= #[u1,u2]) (I.ok.hd hc) (IsTup.new s1.heap _) fun h' hx'=> ?_)))
 have I3:=I2.kept (h':=h') (t':=s1.toks) fun b o e=>hx' b o (Nat.ne_of_lt (Heap.lt_size e)) e
 show wpAny _ _ (assignInOrder [fun v=>bindName X.env y v,fun v=>bindName X.env x v] [u2,u1] >>=fun _=>pure Flow.next) _ _ _
 refine wpAny_bind (assignInOrder_cons (wpAny_bindName (eM I3 hN hj (.inl hy) rw' (fun s2 I4=> ?_) (.inr hy))))
 refine assignInOrder_cons (wpAny_bindName (eM I4 hN hi (.inl hx) rv (fun s3 I5=>assignInOrder_nil (wpAny_pure ?_)) (.inr hx)))
 rw [List.set_comm _ _ (Ne.symm hij)] at I5
 exact ⟨_,H1,I5,q1⟩
end
section
variable {X:Cx} {pos:Pos}
def ph (c:TT) (tb:TS):TS:=fun D σ H=>∃W:Nat→St→Hp→Prop,(∃m,W m σ H)∧∀m σ H,W m σ H→
 c σ H fun b H1=>if b=true then∃N:St→Hp→Prop,(∀σ' H',N σ' H'→∃m',m' < m∧W m' σ' H')∧tb {D with nx:=N,ct:=N,bk:=D.nx} σ H1 else D.nx σ H1
theorem gX {c:Expr} {body:List Stmt} {tc:TT} {tb:TS} (hp:PassesOwn (model X.prog X.w) X.A X.env X.xe) (hc:PT X c tc) (hb:PSs X body tb):PS X (.While c body [] pos) (ph tc tb):=by
 intro pins s σ H D I h
 obtain ⟨W,⟨m0,w0⟩,turn⟩:=h
 refine wpAny_While (codeAny_whileLoop (fun n s'=>∃σ' H',Inv X pins σ' H' s'∧W n σ' H') ?_ m0 ⟨σ,H,I,w0⟩)
 rintro n s1 ⟨σ1,H1,I1,w1⟩
 refine wpAny_passesOwn hp (thn (hc pins s1 σ1 H1 _ I1 (turn n σ1 H1 w1)) fun b s2 ⟨H2,I2,q2⟩=> ?_)
 cases b with
 |true=>
  obtain ⟨N,hN,q2⟩:=q2
  rw [if_pos rfl]
  refine wpAny_passesOwn hp (thn (hb pins s2 σ1 H2 _ I2 q2) fun f s3 q3=> ?_)
  cases f with
  |next=>
   obtain ⟨σ3,H3,I3,n3⟩:=q3
   obtain ⟨m',hm,w3⟩:=hN σ3 H3 n3
   exact ⟨m',hm,σ3,H3,I3,w3⟩
  |cont=>
   obtain ⟨σ3,H3,I3,n3⟩:=q3
   obtain ⟨m',hm,w3⟩:=hN σ3 H3 n3
   exact ⟨m',hm,σ3,H3,I3,w3⟩
  |brk=>exact q3
  |ret v=>exact q3
 |false=>
  rw [if_neg Bool.false_ne_true]
  exact wpAny_execs_nil ⟨σ1,H2,I2,q2⟩
end
structure It where
 go:Nat→Hp→Prop
 yld:Nat→Hp→V→Hp→Prop
 stop:Nat→Hp→Prop
def FpOk (X:Cx) (pins:List (Addr×Obj)) (H:Hp) (b:Addr):Prop:=
 H b=none∧b≠X.env.locals∧b∉X.fs∧(b∈X.ex∨X.s₀.heap.objs.size≤b)∧(∀x c,X.env.cells.lookup x=some c→c≠b)∧∀p∈X.pn++pins,p.1≠b
theorem Inv.fpOk {X:Cx} {pins:List (Addr×Obj)} {σ:St} {H H':Hp} {s:Shared} {b:Addr} (I:Inv X pins σ H s) (hb:s.heap.objs.size≤b) (hn:H' b=none):FpOk X pins H' b:=by
 refine ⟨hn,Nat.ne_of_gt (Nat.lt_of_lt_of_le I.lt hb),I.nofs hb, .inr (Nat.le_trans I.sz hb),fun x c e z=> ?_,fun p hp z=> ?_⟩
 · obtain ⟨v,q⟩:=I.cell x c e
   exact absurd (Nat.lt_of_lt_of_le q.lt (by rw [z];exact hb)) (Nat.lt_irrefl _)
 · exact absurd (Nat.lt_of_lt_of_le (Heap.lt_size (I.pin p hp).1) (by rw [z];exact hb)) (Nat.lt_irrefl _)
structure Turn (P:Program) (w:World) (K:PySem.W.Frag) (tg:Expr) (J:It) (fp:List Addr) (it:Addr) (tn:Nat→Heap→Prop):Prop where
 mem:it∈fp
 obj:∀i h,tn i h→∀b∈fp,∃o,h.get? b=some o∧∀v,o.data≠ .cell v
 keep:∀i h h',tn i h→(∀b∈fp,∀o,h.get? b=some o→h'.get? b=some o)→tn i h'
 item:∀(X:Cx),X.prog=P→X.w=w→X.K=K→X.calm=true→∀(i:Nat) (pins:List (Addr×Obj)) (s:Shared) (σ:St) (H:Hp) (E:Value→Shared→Prop),Inv X pins σ H s→(∀b∈fp,FpOk X pins H b)→tn i s.heap→J.go i H→
  wpAny (model P w) X.A (pyNext (.ref it)) (fun r s1=>∃u,r=some u∧
   wpAny (model P w) X.A (letOwnedTupleGo tg (.ref it) u) (fun _ s2=>∃x H',Inv X pins σ H' s2∧RelV x u∧J.yld i H x H'∧tn (i+1) s2.heap∧∀b∈fp,H' b=none) E s1) E s
 done:∀(X:Cx),X.prog=P→X.w=w→X.K=K→X.calm=true→∀(i:Nat) (pins:List (Addr×Obj)) (s:Shared) (σ:St) (H:Hp) (E:Value→Shared→Prop),Inv X pins σ H s→(∀b∈fp,FpOk X pins H b)→tn i s.heap→J.stop i H→
  wpAny (model P w) X.A (pyNext (.ref it)) (fun r s1=>r=none∧Inv X pins σ H s1) E s
 self:∀(A:Around) (i:Nat) (s:Shared) (Q:Value→Shared→Prop) (E:Value→Shared→Prop),tn i s.heap→Q (.ref it) s→wpAny (model P w) A (pyIter (.ref it)) Q E s
abbrev TI:=St→Hp→(It→Hp→Prop)→Prop
def PIE (X:Cx) (pins:List (Addr×Obj)) (σ:St) (tg:Expr) (R:It→Hp→Prop) (itv:Value) (s2:Shared):Prop:=
 ∃(it:Addr) (fp:List Addr) (tn:Nat→Heap→Prop) (J:It) (H':Hp),itv= .ref it∧Inv X pins σ H' s2∧Turn X.prog X.w X.K tg J fp it tn∧tn 0 s2.heap∧(∀b∈fp,FpOk X pins H' b)∧R J H'
def PI (X:Cx) (tg iter:Expr) (wi:TI):Prop:=
 ∀(pins:List (Addr×Obj)) (s:Shared) (σ:St) (H:Hp) (R:It→Hp→Prop),Inv X pins σ H s→wi σ H R→
  wpAny (model X.prog X.w) X.A (eval iter X.env) (fun v s1=>wpAny (model X.prog X.w) X.A (pyIter v) (PIE X pins σ tg R) X.xe s1) X.xe s
theorem nM {M:Model} {A:Around} {E:Value→Shared→Prop} {s:Shared} {tg:Expr} {it:Addr} {u:Value} {o:Obj} {n:String} {vs:Array Value} {Q:Unit→Shared→Prop} (ho:s.heap.get? it=some o) (hc:o.cls= .type n) (hd:o.data= .fields vs)
 (hn: ["enumerate","zip","dict_itemiterator","dict_reverseitemiterator","odict_iterator","itertools.zip_longest","itertools.pairwise"].contains n=false) (hQ:Q () s):wpAny M A (letOwnedTupleGo tg (.ref it) u) Q E s:=by
 unfold letOwnedTupleGo
 cases tg<;>first
  |exact wpAny_pure hQ
  |(cases u<;>first
     |exact wpAny_pure hQ
     |(refine wpAny_bind (wpAny_load ho ?_)
       rw [hc,hd]
       show wpAny M A (if (["enumerate","zip","dict_itemiterator","dict_reverseitemiterator","odict_iterator","itertools.zip_longest","itertools.pairwise"].contains n&&vs[0]?==some (rawInt _))=true then _ else _) Q E s
       rw [if_neg (by intro h;rw [hn,Bool.false_and] at h;cases h)]
       exact wpAny_pure hQ))
def Itl (K:PySem.W.Frag) (a:Addr):It:=
 ⟨fun i H=>∃xs x,SqL K H a xs∧xs[i]?=some x,fun i H x H'=>H'=H∧∀xs,SqL K H a xs→xs[i]?=some x,fun i H=>∃xs,SqL K H a xs∧xs.length≤i⟩
def Itt (K:PySem.W.Frag) (a:Addr):It:=
 ⟨fun i H=>∃xs x,SqT K H a xs∧xs[i]?=some x,fun i H x H'=>H'=H∧∀xs,SqT K H a xs→xs[i]?=some x,fun i H=>∃xs,SqT K H a xs∧xs.length≤i⟩
def Itr (lo:Int) (n:Nat):It:=⟨fun i _=>i < n,fun i H x H'=>H'=H∧x= .int (lo+i),fun i _=>n≤i⟩
theorem o8 {P:Program} {w:World} {K:PySem.W.Frag} {tg:Expr} (a it:Addr):Turn P w K tg (Itl K a) [it] it (fun i h=>h.IsListIter it a i) where
 mem:=by simp
 obj:=fun i h st b hb=>by
  have e:b=it:=by simpa using hb
  subst e
  obtain ⟨o,e,c,d⟩:=st
  exact ⟨o,e,fun v z=>by rw [d] at z;cases z⟩
 keep:=fun i h h' st k=>st.at fun o e=>k it (by simp) o e
 item:=by
  intro X hP hw hK hc i pins s σ H E I hf st hg
  subst hP hw hK
  obtain ⟨xs,x,hq,hx⟩:=hg
  obtain ⟨its,rv,p,hz⟩:=I.list hq
  obtain ⟨u,hu,ru⟩:=rv.get hx
  obtain ⟨f0,f1,f2,f3,f4,f5⟩:=hf it (by simp)
  refine wpAny_pyNext_list_item st p.isList (x:=u) (by simpa using hu) fun h' st' sb=> ?_
  have I1:Inv X pins σ H {s with heap:=h'}:=I.turned (t':=s.toks) (fun b o hb e=>(sb.2 b hb).trans e) f0 f1 f3 f4 f5
  obtain ⟨o,e,c,d⟩:=id st'
  exact ⟨u,rfl,nM (s:= {s with heap:=h'}) e c d (by decide) ⟨x,H,I1,ru,⟨rfl,fun ys hy=>by rw [I.list_inj hy hq];exact hx⟩,st',fun b hb=>(hf b hb).1⟩⟩
 done:=by
  intro X hP hw hK hc i pins s σ H E I hf st hg
  subst hP hw hK
  obtain ⟨xs,hq,hx⟩:=hg
  obtain ⟨its,rv,p,hz⟩:=I.list hq
  obtain ⟨f0,f1,f2,f3,f4,f5⟩:=hf it (by simp)
  have hl:=rv.length
  exact wpAny_pyNext_list_end (I.ok.hd hc) st p.isList (by simp;omega) fun h' eb=>⟨rfl,I.turned (t':=s.toks) (fun b o hb e=>eb b o hb e) f0 f1 f3 f4 f5⟩
 self:=fun _ _ _ _ _ st h=>wpAny_pyIter_listiter st h
theorem l9 {P:Program} {w:World} {K:PySem.W.Frag} {tg:Expr} (a it:Addr):Turn P w K tg (Itt K a) [it] it (fun i h=>h.IsTupleIter it a i) where
 mem:=by simp
 obj:=fun i h st b hb=>by
  have e:b=it:=by simpa using hb
  subst e
  obtain ⟨o,e,c,d⟩:=st
  exact ⟨o,e,fun v z=>by rw [d] at z;cases z⟩
 keep:=fun i h h' st k=>st.at fun o e=>k it (by simp) o e
 item:=by
  intro X hP hw hK hc i pins s σ H E I hf st hg
  subst hP hw hK
  obtain ⟨xs,x,hq,hx⟩:=hg
  obtain ⟨its,rv,p,hz⟩:=I.tuple hq
  obtain ⟨u,hu,ru⟩:=rv.get hx
  obtain ⟨f0,f1,f2,f3,f4,f5⟩:=hf it (by simp)
  refine wpAny_pyNext_tuple_item st (show s.heap.IsTuple a its.toArray from p) (x:=u) (by simpa using hu) fun h' st' sb=> ?_
  have I1:Inv X pins σ H {s with heap:=h'}:=I.turned (t':=s.toks) (fun b o hb e=>(sb.2 b hb).trans e) f0 f1 f3 f4 f5
  obtain ⟨o,e,c,d⟩:=id st'
  exact ⟨u,rfl,nM (s:= {s with heap:=h'}) e c d (by decide) ⟨x,H,I1,ru,⟨rfl,fun ys hy=>by rw [I.tuple_inj hy hq];exact hx⟩,st',fun b hb=>(hf b hb).1⟩⟩
 done:=by
  intro X hP hw hK hc i pins s σ H E I hf st hg
  subst hP hw hK
  obtain ⟨xs,hq,hx⟩:=hg
  obtain ⟨its,rv,p,hz⟩:=I.tuple hq
  obtain ⟨f0,f1,f2,f3,f4,f5⟩:=hf it (by simp)
  have hl:=rv.length
  exact wpAny_pyNext_tuple_end (I.ok.hd hc) st (show s.heap.IsTuple a its.toArray from p) (by simp;omega) fun h' eb=>⟨rfl,I.turned (t':=s.toks) (fun b o hb e=>eb b o hb e) f0 f1 f3 f4 f5⟩
 self:=fun _ _ _ _ _ st h=>wpAny_pyIter_tupleiter st h
theorem la {P:Program} {w:World} {K:PySem.W.Frag} {tg:Expr} (it:Addr) (lo:Int) (n:Nat):Turn P w K tg (Itr lo n) [it] it (fun i h=>IsRangeIter h it (lo+(i:Nat)*1) ((n:Int) - (i:Nat)) 1) where
 mem:=by simp
 obj:=fun i h st b hb=>by
  have e:b=it:=by simpa using hb
  subst e
  exact ⟨_,st,fun v z=>by
   have z':Data.fields _=Data.cell v:=z
   cases z'⟩
 keep:=fun i h h' st k=>k it (by simp) _ st
 item:=by
  intro X hP hw hK hc i pins s σ H E I hf st hg
  subst hP hw hK
  obtain ⟨f0,f1,f2,f3,f4,f5⟩:=hf it (by simp)
  have W:=Walks.range (prog:=X.prog) (w:=X.w) (I.ok.hd hc) it lo 1 n
  refine W.item i s _ _ hg st fun v h' tk hv st' kk=> ?_
  obtain ⟨t,rfl⟩:=hv
  have I1:Inv X pins σ H {s with heap:=h',toks:=tk}:=I.turned (fun b o hb e=>kk b o (by simpa using hb) e) f0 f1 f3 f4 f5
  refine ⟨_,rfl,nM (s:= {s with heap:=h',toks:=tk}) (n:="range_iterator") st' rfl rfl (by decide) ⟨.int (lo+i),H,I1,⟨t,?_⟩,⟨rfl,rfl⟩,st',fun b hb=>(hf b hb).1⟩⟩
  rw [Int.mul_one]
 done:=by
  intro X hP hw hK hc i pins s σ H E I hf st hg
  subst hP hw hK
  obtain ⟨f0,f1,f2,f3,f4,f5⟩:=hf it (by simp)
  exact wpAny_pyNext_range_end (I.ok.hd hc) st (by have:n≤i:=hg;omega) fun h' eb=>⟨rfl,I.turned (t':=s.toks) (fun b o hb e=>eb b o hb e) f0 f1 f3 f4 f5⟩
 self:=fun _ _ _ _ _ st h=>wpAny_pyIter_rangeiter st h
open PySem PySem.Spec PyProof.Rows
section
variable {X:Cx} {tg:Expr}
def xv (K:PySem.W.Frag) (tl:TE):TI:=fun σ H R=>tl σ H fun x H1=>∃a,x= .ref a∧(∃xs,SqL K H1 a xs)∧R (Itl K a) H1
def iTup (K:PySem.W.Frag) (tl:TE):TI:=fun σ H R=>tl σ H fun x H1=>∃a,x= .ref a∧(∃xs,SqT K H1 a xs)∧R (Itt K a) H1
theorem dQ {l:Expr} {tl:TE} (hl:PE X l tl):PI X tg l (xv X.K tl):=by
 intro pins s σ H R I h
 refine thn (hl pins s σ H _ I h) fun v s1 ⟨x,H1,I1,r1,q1⟩=> ?_
 obtain ⟨a,e,⟨xs,hq⟩,q⟩:=q1
 subst e
 cases r1
 obtain ⟨its,rv,p,hz⟩:=I1.list hq
 refine wpAny_pyIter_list p.isList ?_
 refine ⟨s1.heap.objs.size,[s1.heap.objs.size],_,_,H1,rfl,I1.kept (t':=s1.toks) fun b o e=>Heap.get?_push_of_some _ e,o8 a _,⟨_,Heap.get?_push_size _ rfl,rfl,rfl⟩,fun b hb=> ?_,q⟩
 have e:b=s1.heap.objs.size:=by simpa using hb
 subst e
 exact I1.fpOk (Nat.le_refl _) (I1.hok.fresh (Nat.le_refl _))
theorem qv {l:Expr} {tl:TE} (hl:PE X l tl):PI X tg l (iTup X.K tl):=by
 intro pins s σ H R I h
 refine thn (hl pins s σ H _ I h) fun v s1 ⟨x,H1,I1,r1,q1⟩=> ?_
 obtain ⟨a,e,⟨xs,hq⟩,q⟩:=q1
 subst e
 cases r1
 obtain ⟨its,rv,p,hz⟩:=I1.tuple hq
 refine wpAny_pyIter_tuple (show s1.heap.IsTuple a its.toArray from p) ?_
 refine ⟨s1.heap.objs.size,[s1.heap.objs.size],_,_,H1,rfl,I1.kept (t':=s1.toks) fun b o e=>Heap.get?_push_of_some _ e,l9 a _,⟨_,Heap.get?_push_size _ rfl,rfl,rfl⟩,fun b hb=> ?_,q⟩
 have e:b=s1.heap.objs.size:=by simpa using hb
 subst e
 exact I1.fpOk (Nat.le_refl _) (I1.hok.fresh (Nat.le_refl _))
theorem ql {pins:List (Addr×Obj)} {σ:St} {H:Hp} {s:Shared} {R:It→Hp→Prop} {E:Value→Shared→Prop} {lo hi:Int} {t u v:Tok} {tk:Nat} (I:Inv X pins σ H s) (h1:-(2^62)≤lo) (h2:lo < 2^62) (h3:-(2^62)≤hi) (h4:hi < 2^62)
 (q:R (Itr lo (hi - lo).toNat) H):wpAny (model X.prog X.w) X.A (pyIter (.ref s.heap.objs.size)) (PIE X pins σ tg R) E {s with heap:=s.heap.push {cls:= .type "range",data:= .fields #[.int lo t, .int hi u, .int 1 v]},toks:=tk}:=by
 refine wpAny_pyIter_range (IsRange.new ..) (small_one h1 h2 h3 h4) ?_
 have I1:Inv X pins σ H {s with heap:=s.heap.push {cls:= .type "range",data:= .fields #[.int lo t, .int hi u, .int 1 v]},toks:=tk}:=I.kept fun b o e=>Heap.get?_push_of_some _ e
 refine ⟨(s.heap.push {cls:= .type "range",data:= .fields #[.int lo t, .int hi u, .int 1 v]}).objs.size,[(s.heap.push {cls:= .type "range",data:= .fields #[.int lo t, .int hi u, .int 1 v]}).objs.size],_,_,H,rfl,
  I1.kept (t':=tk) fun b o e=>Heap.get?_push_of_some _ e,la _ lo (hi - lo).toNat,?_,fun b hb=> ?_,q⟩
 · have e1:lo+((0:Nat):Int)*1=lo:=by simp
   have e2:(((hi - lo).toNat:Nat):Int) - ((0:Nat):Int)=Builtin.Range.rangeSize lo hi 1:=by rw [rangeSize_one];split<;>omega
   show IsRangeIter _ _ (lo+((0:Nat):Int)*1) ((((hi - lo).toNat:Nat):Int) - ((0:Nat):Int)) 1
   rw [e1,e2]
   exact Heap.get?_push_size _ rfl
 · have e:b=(s.heap.push {cls:= .type "range",data:= .fields #[.int lo t, .int hi u, .int 1 v]}).objs.size:=by simpa using hb
   subst e
   exact I1.fpOk (Nat.le_refl _) (I1.hok.fresh (Nat.le_refl _))
def xu (ta:TA):TI:=fun σ H R=>ta σ H fun vs H1=>∃j:Int,vs= [.int j]∧ -(2^62)≤j∧j < 2^62∧R (Itr 0 j.toNat) H1
theorem bQ {a:Expr} {ta:TA} {p pos:Pos} (hg:Gl X "range") (hm:X.mg "range"=none) (ha:PA X [a] ta) (hs:starEach [a] X.env= [(false,eval a X.env)]:=by rfl):PI X tg (.Call (.Name "range" p) [a] [] pos) (xu ta):=by
 intro pins s σ H R I h
 refine Call_ (eD I hg hm boot_range (PyProof.Rows.callWith_type1 (thn (ha pos pins s σ H _ I h) fun us s1 ⟨vs,H1,I1,r1,q1⟩=> ?_) hs rfl))
 obtain ⟨j,e,q1,q2,q⟩:=q1
 subst e
 cases r1 with
 |cons r rr=>
  cases rr
  obtain ⟨t,rfl⟩:=r
  exact call_range_1 (ql I1 (by omega) (by omega) q1 q2 (by simpa using q))
def tFor (wi:TI) (g:TG) (tb:TS):TS:=fun D σ H=>wi σ H fun J H1=>∃W:Nat→Nat→St→Hp→Prop,(∃m,W 0 m σ H1)∧∀i m σ H,W i m σ H→
 (J.stop i H∧D.nx σ H)∨(J.go i H∧∃N:St→Hp→Prop,(∀σ' H',N σ' H'→∃m',m' < m∧W (i+1) m' σ' H')∧∀x H',J.yld i H x H'→g x σ H' fun σ2 H2=>tb {D with nx:=N,ct:=N,bk:=D.nx} σ2 H2)
noncomputable def fz (fp:List Addr) (h:Heap):List (Addr×Obj):=fp.filterMap fun b=>(h.get? b).map fun o=>(b,o)
theorem cb {fp:List Addr} {h:Heap} {b:Addr} {o:Obj} (hb:b∈fp) (e:h.get? b=some o):(b,o)∈fz fp h:=List.mem_filterMap.mpr ⟨b,hb,by rw [e];rfl⟩
theorem ot {fp:List Addr} {h:Heap} {p:Addr×Obj} (hp:p∈fz fp h):p.1∈fp∧h.get? p.1=some p.2:=by
 obtain ⟨b,hb,e⟩:=List.mem_filterMap.mp hp
 cases q:h.get? b with
 |none=>rw [q] at e;cases e
 |some o=>
  rw [q] at e
  have e':(b,o)=p:=Option.some.inj e
  subst e'
  exact ⟨hb,q⟩
theorem Inv.pinned {pins:List (Addr×Obj)} {σ:St} {H:Hp} {s:Shared} {fp:List Addr} (I:Inv X pins σ H s) (hf:∀b∈fp,FpOk X pins H b) (ho:∀b∈fp,∃o,s.heap.get? b=some o∧∀v,o.data≠ .cell v):Inv X (pins++fz fp s.heap) σ H s:=
 I.pins_of fun p hp=>(List.mem_append.mp hp).elim (fun z=>I.pin p (List.mem_append_right _ z)) fun z=>by
  obtain ⟨hb,e⟩:=ot z
  obtain ⟨f0,f1,f2,_⟩:=hf p.1 hb
  obtain ⟨o,e',d⟩:=ho p.1 hb
  rw [e] at e';cases e'
  exact ⟨e,f0,f1,f2,d⟩
theorem Inv.unpinned {pins pl:List (Addr×Obj)} {σ:St} {H:Hp} {s:Shared} (I:Inv X (pins++pl) σ H s):Inv X pins σ H s:=I.pins_of fun p hp=>I.pin p (List.mem_append_right _ (List.mem_append_left _ hp))
theorem cD {iter:Expr} {body:List Stmt} {wi:TI} {g:TG} {tb:TS} {pos:Pos} (hp:PassesOwn (model X.prog X.w) X.A X.env X.xe) (hc:X.calm=true) (hi:PI X tg iter wi) (hg:PG X tg g) (hb:PSs X body tb)
 (hs:∀x,foldedSetIterable iter X.env x=pure x:=by intro _;rfl):PS X (.For tg iter body [] pos) (tFor wi g tb):=by
 intro pins s σ H D I h
 refine wpAny_For (thn (hi pins s σ H _ I h) fun v s1 h1=>thn h1 fun itv s2 h2=> ?_) hs
 obtain ⟨it,fp,tn,J,H2,e,I2,T,st2,f2,W,⟨m0,w0⟩,turn⟩:=h2
 subst e
 have stat:∀ {H':Hp},(∀b∈fp,H' b=none)→∀b∈fp,FpOk X pins H' b:=fun hn b hb=>⟨hn b hb,(f2 b hb).2⟩
 refine codeAny_forLoop_any (fun n s'=>∃i σ' H',Inv X pins σ' H' s'∧tn i s'.heap∧(∀b∈fp,H' b=none)∧W i n σ' H') ?_ m0 ⟨0,σ,H2,I2,st2,fun b hb=>(f2 b hb).1,w0⟩
 rintro n s3 ⟨i,σ3,H3,I3,st3,fr3,w3⟩
 rcases turn i n σ3 H3 w3 with ⟨stop,qn⟩|⟨go,N,hN,step⟩
 · refine wpAny_passesOwn hp (thn (T.done X rfl rfl rfl hc i pins s3 σ3 H3 X.xe I3 (stat fr3) st3 stop) fun r s4 ⟨hr,I4⟩=> ?_)
   subst hr
   exact wpAny_execs_nil ⟨σ3,H3,I4,qn⟩
 · refine wpAny_passesOwn hp (thn (T.item X rfl rfl rfl hc i pins s3 σ3 H3 X.xe I3 (stat fr3) st3 go) fun r s4 ⟨u,hr,h4⟩=> ?_)
   subst hr
   refine wpAny_passesOwn hp (thn h4 fun _ s5 ⟨x,H5,I5,r5,y5,st5,fr5⟩=> ?_)
   have I5':=I5.pinned (stat fr5) (T.obj _ _ st5)
   refine wpAny_passesOwn hp (thn (hg _ s5 σ3 H5 x u _ I5' r5 (step x H5 y5)) fun _ s6 ⟨σ6,H6,I6,q6⟩=> ?_)
   refine wpAny_passesOwn hp (thn (hb _ s6 σ6 H6 _ I6 q6) fun f s7 q7=> ?_)
   have again:∀ {σ7:St} {H7:Hp},Inv X (pins++fz fp s5.heap) σ7 H7 s7→N σ7 H7→∃m,m < n∧∃i σ' H',Inv X pins σ' H' s7∧tn i s7.heap∧(∀b∈fp,H' b=none)∧W i m σ' H':=fun {σ7 H7} I7 n7=>by
    obtain ⟨m',hm,w7⟩:=hN σ7 H7 n7
    refine ⟨m',hm,i+1,σ7,H7,I7.unpinned,T.keep _ _ _ st5 fun b hb o e=>(I7.pin (b,o) (List.mem_append_right _ (List.mem_append_right _ (cb hb e)))).1,fun b hb=> ?_,w7⟩
    obtain ⟨o,e,d⟩:=T.obj _ _ st5 b hb
    exact (I7.pin (b,o) (List.mem_append_right _ (List.mem_append_right _ (cb hb e)))).2.1
   cases f with
   |next=>obtain ⟨σ7,H7,I7,n7⟩:=q7;exact again I7 n7
   |cont=>obtain ⟨σ7,H7,I7,n7⟩:=q7;exact again I7 n7
   |brk=>obtain ⟨σ7,H7,I7,q7⟩:=q7;exact ⟨σ7,H7,I7.unpinned,q7⟩
   |ret v=>obtain ⟨x7,σ7,H7,I7,r7,q7⟩:=q7;exact ⟨x7,σ7,H7,I7.unpinned,r7,q7⟩
end
theorem i3 {K:PySem.W.Frag} {a:Addr} {xs:List V} {g:TG} {tb:TS} {D:Ends} {σ:St} {H:Hp} (Pv:Nat→St→Hp→Prop) (h0:Pv 0 σ H) (hl:∀i σ H,i≤xs.length→Pv i σ H→SqL K H a xs)
 (hs:∀i x σ H,xs[i]?=some x→Pv i σ H→g x σ H fun σ2 H2=>tb {D with nx:=Pv (i+1),ct:=Pv (i+1),bk:=D.nx} σ2 H2) (hd:∀σ H,Pv xs.length σ H→D.nx σ H):
 ∃W:Nat→Nat→St→Hp→Prop,(∃m,W 0 m σ H)∧∀i m σ H,W i m σ H→
  ((Itl K a).stop i H∧D.nx σ H)∨((Itl K a).go i H∧∃N:St→Hp→Prop,(∀σ' H',N σ' H'→∃m',m' < m∧W (i+1) m' σ' H')∧∀x H',(Itl K a).yld i H x H'→g x σ H' fun σ2 H2=>tb {D with nx:=N,ct:=N,bk:=D.nx} σ2 H2):=by
 refine ⟨fun i m σ H=>m=xs.length - i∧i≤xs.length∧Pv i σ H,⟨xs.length,by simp,Nat.zero_le _,h0⟩,?_⟩
 rintro i m σ H ⟨rfl,hi,p⟩
 have q:=hl i σ H hi p
 by_cases hlt:i < xs.length
 · refine .inr ⟨⟨xs,xs[i],q,by simp [hlt]⟩,Pv (i+1),fun σ' H' p'=>⟨xs.length - (i+1),by omega,rfl,hlt,p'⟩,fun x H' y=> ?_⟩
   obtain ⟨e,y⟩:=y
   subst e
   exact hs i x σ _ (y xs q) p
 · have e:i=xs.length:=by omega
   subst e
   exact .inl ⟨⟨xs,q,Nat.le_refl _⟩,hd σ H p⟩
theorem u6 {K:PySem.W.Frag} {a:Addr} {xs:List V} {g:TG} {tb:TS} {D:Ends} {σ:St} {H:Hp} (Pv:Nat→St→Hp→Prop) (h0:Pv 0 σ H) (hl:∀i σ H,i≤xs.length→Pv i σ H→SqT K H a xs)
 (hs:∀i x σ H,xs[i]?=some x→Pv i σ H→g x σ H fun σ2 H2=>tb {D with nx:=Pv (i+1),ct:=Pv (i+1),bk:=D.nx} σ2 H2) (hd:∀σ H,Pv xs.length σ H→D.nx σ H):
 ∃W:Nat→Nat→St→Hp→Prop,(∃m,W 0 m σ H)∧∀i m σ H,W i m σ H→
  ((Itt K a).stop i H∧D.nx σ H)∨((Itt K a).go i H∧∃N:St→Hp→Prop,(∀σ' H',N σ' H'→∃m',m' < m∧W (i+1) m' σ' H')∧∀x H',(Itt K a).yld i H x H'→g x σ H' fun σ2 H2=>tb {D with nx:=N,ct:=N,bk:=D.nx} σ2 H2):=by
 refine ⟨fun i m σ H=>m=xs.length - i∧i≤xs.length∧Pv i σ H,⟨xs.length,by simp,Nat.zero_le _,h0⟩,?_⟩
 rintro i m σ H ⟨rfl,hi,p⟩
 have q:=hl i σ H hi p
 by_cases hlt:i < xs.length
 · refine .inr ⟨⟨xs,xs[i],q,by simp [hlt]⟩,Pv (i+1),fun σ' H' p'=>⟨xs.length - (i+1),by omega,rfl,hlt,p'⟩,fun x H' y=> ?_⟩
   obtain ⟨e,y⟩:=y
   subst e
   exact hs i x σ _ (y xs q) p
 · have e:i=xs.length:=by omega
   subst e
   exact .inl ⟨⟨xs,q,Nat.le_refl _⟩,hd σ H p⟩
theorem cW {lo:Int} {n:Nat} {g:TG} {tb:TS} {D:Ends} {σ:St} {H:Hp} (Pv:Nat→St→Hp→Prop) (h0:Pv 0 σ H)
 (hs:∀i σ H,i < n→Pv i σ H→g (.int (lo+i)) σ H fun σ2 H2=>tb {D with nx:=Pv (i+1),ct:=Pv (i+1),bk:=D.nx} σ2 H2) (hd:∀σ H,Pv n σ H→D.nx σ H):
 ∃W:Nat→Nat→St→Hp→Prop,(∃m,W 0 m σ H)∧∀i m σ H,W i m σ H→
  ((Itr lo n).stop i H∧D.nx σ H)∨((Itr lo n).go i H∧∃N:St→Hp→Prop,(∀σ' H',N σ' H'→∃m',m' < m∧W (i+1) m' σ' H')∧∀x H',(Itr lo n).yld i H x H'→g x σ H' fun σ2 H2=>tb {D with nx:=N,ct:=N,bk:=D.nx} σ2 H2):=by
 refine ⟨fun i m σ H=>m=n - i∧i≤n∧Pv i σ H,⟨n,by simp,Nat.zero_le _,h0⟩,?_⟩
 rintro i m σ H ⟨rfl,hi,p⟩
 by_cases hlt:i < n
 · refine .inr ⟨hlt,Pv (i+1),fun σ' H' p'=>⟨n - (i+1),by omega,rfl,hlt,p'⟩,fun x H' y=> ?_⟩
   obtain ⟨e,y⟩:=y
   subst e y
   exact hs i σ _ hlt p
 · have e:i=n:=by omega
   subst e
   exact .inl ⟨Nat.le_refl _,hd σ H p⟩
theorem gv {c:TT} {tb:TS} {D:Ends} {σ:St} {H:Hp} (Pv:St→Hp→Prop) (μ:St→Hp→Nat) (h0:Pv σ H)
 (hs:∀σ H,Pv σ H→c σ H fun b H1=>if b=true then tb {D with nx:=fun σ' H'=>Pv σ' H'∧μ σ' H' < μ σ H,ct:=fun σ' H'=>Pv σ' H'∧μ σ' H' < μ σ H,bk:=D.nx} σ H1 else D.nx σ H1)
 (mono:∀σ H Q Q',(∀b H1,Q b H1→Q' b H1)→c σ H Q→c σ H Q'):ph c tb D σ H:=by
 refine ⟨fun m σ H=>m=μ σ H∧Pv σ H,⟨_,rfl,h0⟩,?_⟩
 rintro m σ H ⟨rfl,p⟩
 refine mono σ H _ _ (fun b H1 q=> ?_) (hs σ H p)
 cases b with
 |true=>exact ⟨_,fun σ' H' ⟨p',l⟩=>⟨_,l,rfl,p'⟩,q⟩
 |false=>exact q
open PySem PySem.Spec PyProof.Rows
abbrev R2:=V→V→Hp→VK→Prop
def OpR (X:Cx) (f:Value→Value→Sem Value) (r:R2):Prop:=
 ∀(pins:List (Addr×Obj)) (s:Shared) (σ:St) (H:Hp) (x y:V) (v u:Value) (Q:VK),Inv X pins σ H s→RelV x v→RelV y u→r x y H Q→
  wpAny (model X.prog X.w) X.A (f v u) (EP X pins σ Q) X.xe s
def UnR (X:Cx) (f:Value→Sem Value) (r:V→Hp→VK→Prop):Prop:=
 ∀(pins:List (Addr×Obj)) (s:Shared) (σ:St) (H:Hp) (x:V) (v:Value) (Q:VK),Inv X pins σ H s→RelV x v→r x H Q→
  wpAny (model X.prog X.w) X.A (f v) (EP X pins σ Q) X.xe s
def cG (X:Cx) (f:Value) (r:List V→Hp→VK→Prop):Prop:=
 ∀(pins:List (Addr×Obj)) (s:Shared) (σ:St) (H:Hp) (xs:List V) (us:List Value) (Q:VK),Inv X pins σ H s→Vals xs us→r xs H Q→
  wpAny (model X.prog X.w) X.A (call f us) (EP X pins σ Q) X.xe s
def TruR (X:Cx) (r:V→Hp→(Bool→Hp→Prop)→Prop):Prop:=
 ∀(pins:List (Addr×Obj)) (s:Shared) (σ:St) (H:Hp) (x:V) (v:Value) (Q:Bool→Hp→Prop),Inv X pins σ H s→RelV x v→r x H Q→
  wpAny (model X.prog X.w) X.A (truthy v) (TP X pins σ Q) X.xe s
def tOp (r:R2) (ta tb:TE):TE:=fun σ H Q=>ta σ H fun x H1=>tb σ H1 fun y H2=>r x y H2 Q
def tUn (r:V→Hp→VK→Prop) (ta:TE):TE:=fun σ H Q=>ta σ H fun x H1=>r x H1 Q
def rI (C:Int→Int→Prop) (g:Int→Int→V):R2:=fun x y H Q=>∃i j,x= .int i∧y= .int j∧C i j∧Q (g i j) H
def rI0 (g:Int→Int→V):R2:=fun x y H Q=>∃i j,x= .int i∧y= .int j∧Q (g i j) H
def rU (g:Int→V):V→Hp→VK→Prop:=fun x H Q=>∃i,x= .int i∧Q (g i) H
section
variable {X:Cx} {a b c:Expr} {ta tb tc:TE} {pos:Pos}
theorem binT (ha:PE X a ta) (hb:PE X b tb) {pins:List (Addr×Obj)} {s:Shared} {σ:St} {H:Hp} {R:V→V→Hp→Prop} (I:Inv X pins σ H s)
 (h:ta σ H fun x H1=>tb σ H1 fun y H2=>R x y H2) {Q:Value→Shared→Prop} {f:Value→Value→Sem Value}
 (hf:∀v u s2 x y H2,Inv X pins σ H2 s2→RelV x v→RelV y u→R x y H2→wpAny (model X.prog X.w) X.A (f v u) Q X.xe s2):
 wpAny (model X.prog X.w) X.A (eval a X.env) (fun v s₁=>wpAny (model X.prog X.w) X.A (eval b X.env) (fun u s₂=>wpAny (model X.prog X.w) X.A (f v u) Q X.xe s₂) X.xe s₁) X.xe s:=by
 refine thn (ha pins s σ H _ I h) fun v s1 ⟨x,H1,I1,r1,q1⟩=> ?_
 refine thn (hb pins s1 σ H1 _ I1 q1) fun u s2 ⟨y,H2,I2,r2,q2⟩=> ?_
 exact hf v u s2 x y H2 I2 r1 r2 q2
theorem ao {op:Operator} {r:R2} (ho:OpR X (binaryOp op) r) (ha:PE X a ta) (hb:PE X b tb):PE X (.BinOp a op b pos) (tOp r ta tb):=by
 intro pins s σ H Q I h
 exact wpAny_BinOp (binT ha hb I h fun v u s2 x y H2 I2 rx ry q=>ho pins s2 σ H2 x y v u Q I2 rx ry q)
theorem ck {op:UnaryOp} {r:V→Hp→VK→Prop} (ho:UnR X (unaryOp op) r) (ha:PE X a ta):PE X (.UnaryOp op a pos) (tUn r ta):=by
 intro pins s σ H Q I h
 exact UnaryOp_ (thn (ha pins s σ H _ I h) fun v s1 ⟨x,H1,I1,r1,q1⟩=>ho pins s1 σ H1 x v Q I1 r1 q1)
theorem opI {f:Value→Value→Sem Value} {C:Int→Int→Prop} {g:Int→Int→Int}
 (rule:∀(i j:Int) (t u:Tok) (s:Shared) (Q:Value→Shared→Prop) (E:Value→Shared→Prop),C i j→Q (.int (g i j) s.toks) {s with toks:=s.toks+1}→wpAny (model X.prog X.w) X.A (f (.int i t) (.int j u)) Q E s):
 OpR X f (rI C fun i j=> .int (g i j)):=by
 intro pins s σ H x y v u Q I rx ry h
 obtain ⟨i,j,rfl,rfl,hc,q⟩:=h
 obtain ⟨t,rfl⟩:=rx
 obtain ⟨t',rfl⟩:=ry
 exact rule i j t t' s _ _ hc ⟨.int (g i j),H,I.tok _,⟨_,rfl⟩,q⟩
theorem opI0 {f:Value→Value→Sem Value} {g:Int→Int→Int}
 (rule:∀(i j:Int) (t u:Tok) (s:Shared) (Q:Value→Shared→Prop) (E:Value→Shared→Prop),Q (.int (g i j) s.toks) {s with toks:=s.toks+1}→wpAny (model X.prog X.w) X.A (f (.int i t) (.int j u)) Q E s):
 OpR X f (rI0 fun i j=> .int (g i j)):=by
 intro pins s σ H x y v u Q I rx ry h
 obtain ⟨i,j,rfl,rfl,q⟩:=h
 obtain ⟨t,rfl⟩:=rx
 obtain ⟨t',rfl⟩:=ry
 exact rule i j t t' s _ _ ⟨.int (g i j),H,I.tok _,⟨_,rfl⟩,q⟩
theorem opB0 {f:Value→Value→Sem Value} {g:Int→Int→Bool}
 (rule:∀(i j:Int) (t u:Tok) (s:Shared) (Q:Value→Shared→Prop) (E:Value→Shared→Prop),Q (.bool (g i j)) s→wpAny (model X.prog X.w) X.A (f (.int i t) (.int j u)) Q E s):
 OpR X f (rI0 fun i j=> .bl (g i j)):=by
 intro pins s σ H x y v u Q I rx ry h
 obtain ⟨i,j,rfl,rfl,q⟩:=h
 obtain ⟨t,rfl⟩:=rx
 obtain ⟨t',rfl⟩:=ry
 exact rule i j t t' s _ _ ⟨.bl (g i j),H,I,rfl,q⟩
def CDiv (i j:Int):Prop:=0 < j∧j < 1073741824
def CPow (i j:Int):Prop:=0≤j∧j≤1000000∧i.natAbs < 2^64
def CMul (i j:Int):Prop:=(-(2^64) < i∧i < 2^64)∨(-(2^64) < j∧j < 2^64)
theorem CMul.ok {i j:Int} (h:CMul i j):IntMulOk i j:=by
 rcases h with ⟨h1,h2⟩|⟨h1,h2⟩
 · exact .of_left (intBits_le_64 h1 h2)
 · exact .of_right (intBits_le_64 h1 h2)
theorem bq:OpR X (binaryOp .Add) (rI0 fun i j=> .int (i+j)):=opI0 fun _ _ _ _ _ _ _ q=>add_int q
theorem dn:OpR X (binaryOp .Sub) (rI0 fun i j=> .int (i - j)):=opI0 fun _ _ _ _ _ _ _ q=>sub_int q
theorem fJ:OpR X (binaryOp .Mult) (rI CMul fun i j=> .int (i*j)):=opI fun _ _ _ _ _ _ _ hc q=>mul_int q hc.ok
theorem tD:OpR X (binaryOp .FloorDiv) (rI CDiv fun i j=> .int (i / j)):=opI fun i j _ _ _ _ _ hc q=>by
 have h1:(0:Int) < j:=hc.1
 have h2:j < 1073741824:=hc.2
 exact floordiv_int (by omega) (by rw [Int.fdiv_eq_ediv_of_nonneg i (by omega)];exact q) (.inl (PyProof.noPylong_small (by omega)))
theorem c9:OpR X (binaryOp .Mod) (rI (fun _ j=>0 < j) fun i j=> .int (i%j)):=opI fun i j _ _ _ _ _ hc q=>by
 have h1:(0:Int) < j:=hc
 exact mod_int' (by omega) (by rw [Int.fmod_eq_emod_of_nonneg i (by omega)];exact q)
theorem tz:OpR X (binaryOp .Mod) (rI (fun _ j=>j≠0) fun i j=> .int (i.fmod j)):=opI fun _ _ _ _ _ _ _ hc q=>mod_int' hc q
theorem jp:OpR X (binaryOp .Pow) (rI CPow fun i j=> .int (i^j.toNat)):=opI fun _ _ _ _ _ _ _ hc q=>pow_int_small hc.1 hc.2.1 hc.2.2 q
theorem unI {f:Value→Sem Value} {g:Int→Int}
 (rule:∀(i:Int) (t:Tok) (s:Shared) (Q:Value→Shared→Prop) (E:Value→Shared→Prop),Q (.int (g i) s.toks) {s with toks:=s.toks+1}→wpAny (model X.prog X.w) X.A (f (.int i t)) Q E s):
 UnR X f (rU fun i=> .int (g i)):=by
 intro pins s σ H x v Q I rx h
 obtain ⟨i,rfl,q⟩:=h
 obtain ⟨t,rfl⟩:=rx
 exact rule i t s _ _ ⟨.int (g i),H,I.tok _,⟨_,rfl⟩,q⟩
theorem bw:UnR X (unaryOp .USub) (rU fun i=> .int (-i)):=unI fun _ _ _ _ _ q=>neg_int q
end
noncomputable def scal:V→V→Bool
 | .non, .non=>true| .non, .int _=>true| .int _, .non=>true| .non, .bl _=>true| .bl _, .non=>true| .non, .str _=>true| .str _, .non=>true
 | .int _, .int _=>true| .bl _, .bl _=>true| .str _, .str _=>true| .byt _, .byt _=>true
 | .int _, .str _=>true| .str _, .int _=>true| .bl _, .str _=>true| .str _, .bl _=>true
 |_,_=>false
def rEq:R2:=fun x y H Q=>scal x y=true∧Q (.bl (decide (x=y))) H
def rNe:R2:=fun x y H Q=>scal x y=true∧Q (.bl (!decide (x=y))) H
theorem nR {i j:Int}:decide (V.int i=V.int j)=(i==j):=by
 rw [Bool.eq_iff_iff]
 simp
theorem rX {i j:Bool}:decide (V.bl i=V.bl j)=(i==j):=by
 rw [Bool.eq_iff_iff]
 simp
theorem nQ {i j:Str}:decide (V.str i=V.str j)=(i==j):=by
 rw [Bool.eq_iff_iff]
 simp
theorem nU {i j:Array UInt8}:decide (V.byt i=V.byt j)=(i.toList==j.toList):=by
 rw [Bool.eq_iff_iff]
 cases i
 cases j
 simp
section
variable {X:Cx} {a b c:Expr} {ta tb tc:TE} {pos:Pos}
theorem aT {pins:List (Addr×Obj)} {σ:St} {H:Hp} {s:Shared} {Q:VK} {k k':Bool} (I:Inv X pins σ H s) (q:Q (.bl k) H) (e:k=k'):EP X pins σ Q (.bool k') s:=by
 subst e
 exact ⟨.bl k,H,I,rfl,q⟩
theorem aP:OpR X (compareOp .Eq) rEq:=by
 intro pins s σ H x y v u Q I rx ry h
 obtain ⟨hs,q⟩:=h
 cases x with
 |non=>
  cases rx
  cases y with
  |non=>cases ry;exact PySem.EqNone.eq_none_none (aT I q (by simp))
  |bl j=>cases ry;exact PySem.EqNone.eq_none_bool (aT I q (by simp))
  |int j=>obtain ⟨t',rfl⟩:=ry;exact PySem.EqNone.eq_none_int (aT I q (by simp))
  |str j=>obtain ⟨t',rfl⟩:=ry;exact PySem.EqNone.eq_none_str (aT I q (by simp))
  |_=>exact absurd (show false=true from hs) Bool.false_ne_true
 |bl i=>
  cases rx
  cases y with
  |non=>cases ry;exact PySem.EqNone.eq_bool_none (aT I q (by simp))
  |bl j=>cases ry;exact eq_bool (aT I q rX)
  |str j=>obtain ⟨t',rfl⟩:=ry;exact PySem.EqMixed.eq_bool_str (aT I q (by simp))
  |_=>exact absurd (show false=true from hs) Bool.false_ne_true
 |int i=>
  obtain ⟨t,rfl⟩:=rx
  cases y with
  |non=>cases ry;exact PySem.EqNone.eq_int_none (aT I q (by simp))
  |int j=>obtain ⟨t',rfl⟩:=ry;exact eq_int (aT I q nR)
  |str j=>obtain ⟨t',rfl⟩:=ry;exact PySem.EqMixed.eq_int_str (aT I q (by simp))
  |_=>exact absurd (show false=true from hs) Bool.false_ne_true
 |str i=>
  obtain ⟨t,rfl⟩:=rx
  cases y with
  |non=>cases ry;exact PySem.EqNone.eq_str_none (aT I q (by simp))
  |bl j=>cases ry;exact PySem.EqMixed.eq_str_bool (aT I q (by simp))
  |int j=>obtain ⟨t',rfl⟩:=ry;exact PySem.EqMixed.eq_str_int (aT I q (by simp))
  |str j=>obtain ⟨t',rfl⟩:=ry;exact eq_str (aT I q nQ)
  |_=>exact absurd (show false=true from hs) Bool.false_ne_true
 |byt i=>
  obtain ⟨t,rfl⟩:=rx
  cases y with
  |byt j=>obtain ⟨t',rfl⟩:=ry;exact PySem.W.eq_bytes (aT I q nU)
  |_=>exact absurd (show false=true from hs) Bool.false_ne_true
 |_=>cases y<;>exact absurd (show false=true from hs) Bool.false_ne_true
theorem iH:OpR X (compareOp .NotEq) rNe:=by
 intro pins s σ H x y v u Q I rx ry h
 obtain ⟨hs,q⟩:=h
 cases x with
 |non=>
  cases rx
  cases y with
  |non=>cases ry;exact PySem.EqNone.ne_none_none (aT I q (by simp))
  |bl j=>cases ry;exact PySem.EqNone.ne_none_bool (aT I q (by simp))
  |int j=>obtain ⟨t',rfl⟩:=ry;exact PySem.EqNone.ne_none_int (aT I q (by simp))
  |str j=>obtain ⟨t',rfl⟩:=ry;exact PySem.EqNone.ne_none_str (aT I q (by simp))
  |_=>exact absurd (show false=true from hs) Bool.false_ne_true
 |bl i=>
  cases rx
  cases y with
  |non=>cases ry;exact PySem.EqNone.ne_bool_none (aT I q (by simp))
  |bl j=>cases ry;exact ne_bool (aT I q (congrArg not rX))
  |str j=>obtain ⟨t',rfl⟩:=ry;exact PySem.EqMixed.ne_bool_str (aT I q (by simp))
  |_=>exact absurd (show false=true from hs) Bool.false_ne_true
 |int i=>
  obtain ⟨t,rfl⟩:=rx
  cases y with
  |non=>cases ry;exact PySem.EqNone.ne_int_none (aT I q (by simp))
  |int j=>obtain ⟨t',rfl⟩:=ry;exact ne_int (aT I q (congrArg not nR))
  |str j=>obtain ⟨t',rfl⟩:=ry;exact PySem.EqMixed.ne_int_str (aT I q (by simp))
  |_=>exact absurd (show false=true from hs) Bool.false_ne_true
 |str i=>
  obtain ⟨t,rfl⟩:=rx
  cases y with
  |non=>cases ry;exact PySem.EqNone.ne_str_none (aT I q (by simp))
  |bl j=>cases ry;exact PySem.EqMixed.ne_str_bool (aT I q (by simp))
  |int j=>obtain ⟨t',rfl⟩:=ry;exact PySem.EqMixed.ne_str_int (aT I q (by simp))
  |str j=>obtain ⟨t',rfl⟩:=ry;exact ne_str (aT I q (congrArg not nQ))
  |_=>exact absurd (show false=true from hs) Bool.false_ne_true
 |byt i=>
  obtain ⟨t,rfl⟩:=rx
  cases y with
  |byt j=>obtain ⟨t',rfl⟩:=ry;exact PySem.W.ne_bytes (aT I q (congrArg not nU))
  |_=>exact absurd (show false=true from hs) Bool.false_ne_true
 |_=>cases y<;>exact absurd (show false=true from hs) Bool.false_ne_true
theorem jZ:OpR X (compareOp .Lt) (rI0 fun i j=> .bl (decide (i < j))):=opB0 fun _ _ _ _ _ _ _ q=>lt_int q
theorem nh:OpR X (compareOp .Gt) (rI0 fun i j=> .bl (decide (j < i))):=opB0 fun _ _ _ _ _ _ _ q=>gt_int q
theorem uy:OpR X (compareOp .GtE) (rI0 fun i j=> .bl (decide (j≤i))):=opB0 fun _ _ _ _ _ _ _ q=>ge_int q
theorem jq:OpR X (compareOp .Is) (fun x y H Q=>y= .non∧Q (.bl (decide (x= .non))) H):=by
 intro pins s σ H x y v u Q I rx ry h
 obtain ⟨rfl,q⟩:=h
 cases ry
 refine is_none_gen (aT I q ?_)
 cases x<;>first
  |(cases rx;rfl)
  |(obtain ⟨t,rfl⟩:=rx;rfl)
theorem au (b:Expr) {op:CmpOp} (h:op≠ .In:=by decide) (h2:op≠ .NotIn:=by decide):behindInMarks op b=false:=by
 have e1:(op==CmpOp.In)=false:=by cases op<;>first|rfl|exact absurd rfl h
 have e2:(op==CmpOp.NotIn)=false:=by cases op<;>first|rfl|exact absurd rfl h2
 cases b<;>simp [behindInMarks,e1,e2]
theorem cK {op:CmpOp} {r:R2} (ho:OpR X (compareOp op) r) (ha:PE X a ta) (hb:PE X b tb) (hm:behindInMarks op b=false):PE X (.Compare a [op] [b] pos) (tOp r ta tb):=by
 intro pins s σ H Q I h
 exact wpAny_Compare1 (binT ha hb I h fun v u s2 x y H2 I2 rx ry q=>ho pins s2 σ H2 x y v u Q I2 rx ry q) hm
def wE (t:TE):TT:=fun σ H Q=>t σ H fun x H'=>∃k,x= .bl k∧Q k H'
theorem am {op:CmpOp} {r:R2} (ho:OpR X (compareOp op) r) (ha:PE X a ta) (hb:PE X b tb) (hm:behindInMarks op b=false):PT X (.Compare a [op] [b] pos) (wE (tOp r ta tb)):=by
 intro pins s σ H Q I h
 refine wpAny_isTrue_Compare1 (thn (ha pins s σ H _ I h) fun v s1 ⟨x,H1,I1,r1,q1⟩=>thn (hb pins s1 σ H1 _ I1 q1) fun u s2 ⟨y,H2,I2,r2,q2⟩=>
  thn (ho pins s2 σ H2 x y v u _ I2 r1 r2 q2) fun c s3 ⟨z,H3,I3,r3,k,e,q3⟩=> ?_) hm
 subst e
 cases r3
 exact wpAny_truthy_bool ⟨H3,I3,q3⟩
def TruV (K:PySem.W.Frag) (x:V) (H:Hp) (k:Bool):Prop:=
 match x with
 | .non=>k=false
 | .bl b=>k=b
 | .int i=>k=(i !=0)
 | .str y=>y.length≤sizeLine∧k=((y.length:Int) !=0)
 | .byt y=>y.size≤sizeLine∧k=((y.size:Int) !=0)
 | .ref p=>(∃xs,SqL K H p xs∧k= !xs.isEmpty)∨(∃xs,SqT K H p xs∧k= !xs.isEmpty)∨∃kvs,H p=some (.dK kvs)∧k= !kvs.isEmpty
 |_=>False
theorem lU {κ:Type} {kvs:List (κ×V)} {vs:List (κ×Value)} (r:KV kvs vs):(!vs.isEmpty)= !kvs.isEmpty:=by
 cases r<;>rfl
theorem i0 {xs:List V} {its:List Value} (r:Vals xs its):(!its.toArray.isEmpty)= !xs.isEmpty:=by
 cases r<;>simp
theorem eC:(sizeLine:Nat) < 2^63:=by rw [sizeLine_eq];decide
theorem uM:TruR X (fun x H Q=>∃k,TruV X.K x H k∧Q k H):=by
 intro pins s σ H x v Q I rx h
 obtain ⟨k,e,q⟩:=h
 have hl:=eC
 have hs:sizeLine=16777216:=sizeLine_eq
 cases x with
 |non=>
  cases rx
  have e':k=false:=e
  subst e'
  exact truthy_none ⟨H,I,q⟩
 |bl b=>
  cases rx
  have e':k=b:=e
  subst e'
  exact wpAny_truthy_bool ⟨H,I,q⟩
 |int i=>
  obtain ⟨t,rfl⟩:=rx
  have e':k=(i !=0):=e
  subst e'
  exact PySem.P.truthy_int ⟨H,I,q⟩
 |str y=>
  obtain ⟨t,rfl⟩:=rx
  obtain ⟨hy,e'⟩:y.length≤sizeLine∧k=((y.length:Int) !=0):=e
  subst e'
  exact PySem.P.truthy_str (by omega) ⟨H,I.tok _,q⟩
 |byt y=>
  obtain ⟨t,rfl⟩:=rx
  obtain ⟨hy,e'⟩:y.size≤sizeLine∧k=((y.size:Int) !=0):=e
  subst e'
  exact PySem.W.truthy_bytes (by omega) ⟨H,I.tok _,q⟩
 |ref p=>
  cases rx
  have e':(∃xs,SqL X.K H p xs∧k= !xs.isEmpty)∨(∃xs,SqT X.K H p xs∧k= !xs.isEmpty)∨∃kvs,H p=some (.dK kvs)∧k= !kvs.isEmpty:=e
  rcases e' with ⟨xs,hx,e'⟩|⟨xs,hx,e'⟩|⟨kvs,hx,e'⟩
  · subst e'
    obtain ⟨its,r,pl,hz⟩:=I.list hx
    have hlen:=r.length
    exact wpAny_truthy_list pl.isList (by simp only [List.size_toArray];omega) ⟨H,I.tok _,by rw [i0 r];exact q⟩
  · subst e'
    obtain ⟨its,r,pl,hz⟩:=I.tuple hx
    have hlen:=r.length
    exact truthy_tuple pl (by simp only [List.size_toArray];omega) ⟨H,I.tok _,by rw [i0 r];exact q⟩
  · subst e'
    obtain ⟨hz,hS,vs,r,m⟩:kvs.length≤sizeLine∧(p==sysModules)=false∧∃vs,KV kvs vs∧s.heap.DictOf (cA X.prog X.w) p vs:=I.hok p _ hx
    have hlen:kvs.length=vs.length:=Paired.length r
    exact wpAny_truthy_dict hS m (by omega) ⟨H,I.tok _,by rw [lU r];exact q⟩
 |_=>exact (show False from e).elim
theorem qp (ha:PE X a ta) (he:∀whole,isTrue a X.env whole=(do let v←whole;standAt a.pos;holding [v] (truthy v))):
 PT X a (fun σ H Q=>ta σ H fun x H'=>∃k,TruV X.K x H' k∧Q k H'):=by
 intro pins s σ H Q I h
 exact isTrue_plain (thn (ha pins s σ H _ I h) fun v s1 ⟨x,H1,I1,r1,q1⟩=>uM pins s1 σ H1 x v Q I1 r1 q1) (he _)
theorem az:OpR X (binaryOp .Add) (fun x y H Q=>∃i j,x= .str i∧y= .str j∧i.length+j.length≤sizeLine∧Q (.str (i++j)) H):=by
 intro pins s σ H x y v u Q I rx ry h
 obtain ⟨i,j,rfl,rfl,hz,q⟩:=h
 obtain ⟨t,rfl⟩:=rx
 obtain ⟨t',rfl⟩:=ry
 exact add_str (fun t' tk=>⟨.str (i++j),H,I.tok _,⟨_,rfl⟩,q⟩) hz
theorem e7 {x:V} {us:List Value} (r:Vals [x] us):∃u,us= [u]∧RelV x u:=by
 cases r with
 |cons r1 r2=>cases r2;exact ⟨_,rfl,r1⟩
theorem ik:cG X (.builtin "abs") (fun xs H Q=>∃i,xs= [.int i]∧Q (.int (if i < 0 then -i else i)) H):=by
 intro pins s σ H xs us Q I r h
 obtain ⟨i,rfl,q⟩:=h
 obtain ⟨u,rfl,t,rfl⟩:=e7 r
 exact call_abs_int fun u tk=>⟨.int (if i < 0 then -i else i),H,I.tok _,⟨_,rfl⟩,q⟩
theorem c6:cG X (.type "str") (fun xs H Q=>∃i,xs= [.int i]∧i.natAbs.log2 < 1920∧Q (.str (toString i)) H):=by
 intro pins s σ H xs us Q I r h
 obtain ⟨i,rfl,hz,q⟩:=h
 obtain ⟨u,rfl,t,rfl⟩:=e7 r
 exact PySem.P.str_of_int hz ⟨.str _,H,I.tok _,⟨_,rfl⟩,q⟩
end
open PySem PySem.Spec PyProof.Rows
structure ObjM (h:Heap) (x dx C:Addr) (mA:Str→Option Value):Prop where
 obj:h.get? x=some (PySem.W.instObj C dx)
 ns:h.Ns1 dx mA
 ne:dx≠x
theorem oy {h:Heap} {dx:Addr} {mA:Str→Option Value} (n:h.Ns1 dx mA):∃od,h.get? dx=some od∧∀name,PySem.W.lookIn name od=some (mA name):=by
 obtain ⟨o,es,ep,ho,hd,hk,_,hm⟩:=n
 refine ⟨o,ho,fun name=> ?_⟩
 have e:=hm name
 unfold nsFind findBy at e
 rw [←Array.find?_toList] at e
 unfold PySem.W.lookIn
 rw [hd]
 dsimp only
 split
 · rename_i y q
   rw [q] at e
   exact congrArg some e
 · rename_i q
   rw [q] at e
   have a:es.toList.any (·.refKey)=false:=by
    rw [List.any_eq_false]
    intro y hy
    obtain ⟨z,t,hkey⟩:=hk y (Array.mem_toList_iff.mp hy)
    simp [DictEntry.refKey,hkey]
   have a':¬es.toList.any (·.refKey)=true:=by rw [a];exact Bool.false_ne_true
   rw [if_neg a']
   exact congrArg some e
theorem ObjM.look {h:Heap} {x dx C:Addr} {mA:Str→Option Value} (I:ObjM h x dx C mA):∃od,PySem.W.InstAt h x (PySem.W.instObj C dx) C (some od)∧∀name,PySem.W.lookIn name od=some (mA name):=
 let ⟨od,ho,hl⟩:=oy I.ns
 ⟨od,⟨I.obj,rfl,rfl,ho⟩,hl⟩
section
variable {prog:Program} {w:World} {A:Around} {E:Value→Shared→Prop} {s:Shared} {K:PySem.W.Frag} {x dx C f:Addr} {mA:Str→Option Value} {name:Str} {v:Value}
theorem tZ {expr:Bool} {Q:Value→Shared→Prop} (X:K.In s.heap) (I:ObjM s.heap x dx C mA) (hg:PySem.W.plainGet K C name=true) (hh:PySem.W.hasDictIn K C=true)
 (ha:PySem.W.findIn K (.ref C) name=some none) (hv:mA name=some v) (hv':PySem.W.handedIn v=true) (h:Q v {s with toks:=s.toks+1}):
 wpAny (model prog w) A (getAttr (.ref x) name expr) Q E s:=by
 obtain ⟨od,J,hl⟩:=I.look
 exact PySem.W.get_value X J (PySem.W.plainGet_of hg).1 (PySem.W.findObj_own hh ha rfl (by rw [hl,hv])) hv' h
theorem sM {ns:List Str} {Q:Unit→Shared→Prop} (X:K.In s.heap) (I:ObjM s.heap x dx C mA)
 (hs:PySem.W.findIn K (.ref C) "__setattr__"=some (some (.builtin "object.__setattr__"))) (hp:PySem.W.plainOver K C=true) (ht:PySem.W.takerIn K C name=some none) (hh:PySem.W.hasDictIn K C=true)
 (hw:PySem.Within mA ns) (hsz:ns.length≤sizeLine)
 (h:∀h',ObjM h' x dx C (fun y=>if y=name then some v else mA y)→Heap.SameBut dx s.heap h'→Q () {s with heap:=h',toks:=s.toks+2}):
 wpAny (model prog w) A (setAttr (.ref x) name v) Q E s:=by
 obtain ⟨od,J,hl⟩:=I.look
 refine PySem.W.set_plain X J hs (PySem.W.osa_open (s:= {s with toks:=s.toks+1}) (r:=none) X J hp ht fun b=> ?_)
 obtain ⟨cd,hc,hd'⟩:=PySem.W.any_some hh
 have hx:s.heap.get? x=some ⟨.ref C,some dx, .plain, #[]⟩:=I.obj
 refine wpAny_bind (wpAny_pure (wpAny_bind (wpAny_bind (wpAny_loadPart hx (wpAny_bind (PySem.W.Looks.here (s:= {s with toks:=s.toks+1}) (PySem.W.looks_clsIn X hc) ?_))))))
 rw [hd']
 refine wpAny_pure (a:=some dx) (wpAny_bind (wpAny_pure (wpAny_bind ?_)))
 refine wpAny_nsSet1 (s:= {s with toks:=s.toks+1}) I.ns fun h' hn2 hs2=> ?_
 obtain ⟨oD,esD,epD,hoD,hdD,hcD⟩:=hn2.count (PySem.Within.cons name v hw)
 refine wpAny_bind (wpAny_lookBehind hoD (by rw [hdD];exact pastItsLine_dict (Nat.le_trans hcD (by rw [List.length_cons];omega))) ?_)
 exact wpAny_pure (h _ ⟨(hs2.2 _ (Ne.symm I.ne)).trans I.obj,hn2,I.ne⟩ hs2)
theorem rh {R:Result→Shared→Prop} {vs:List Value} {kw:List (Str×Value)} (X:K.In s.heap) (hm:PySem.W.makesIn K C=true)
 (hi:PySem.W.findIn K (.ref C) "__init__"=some (some (.ref f))) (hf:PySem.W.typeIn K (.ref f)=some (.type "function"))
 (h:codeAny (model prog w) (A.under (.builtin "type.__call__" ⟨.ref C::vs,kw⟩)) (.call (.ref f) ⟨.ref (s.heap.objs.size+1)::vs,kw⟩) (PySem.W.InitBack (s.heap.objs.size+1) R)
  {s with heap:=(s.heap.push PySem.W.emptyDict).push (PySem.W.instObj C s.heap.objs.size)}):
 codeAny (model prog w) A (.call (.ref C) ⟨vs,kw⟩) R s:=by
 obtain ⟨hh,g,d,t,os⟩:=s
 exact PySem.W.make_core (PySem.W.makes_of X hm) (PySem.W.looks_findIn X hi) (fun self=>PySem.W.bind_fn X self hf) (.inl rfl) h
end
noncomputable def putF (f:Str) (v:V):List (Str×V)→List (Str×V)
 | []=> [(f,v)]
 |(g,x)::r=>if g=f then (g,v)::r else (g,x)::putF f v r
theorem g6 (f g:Str) (v:V):∀fs:List (Str×V),(putF f v fs).lookup g=if g=f then some v else fs.lookup g
 | []=>by
  show List.lookup g [(f,v)]=_
  by_cases h:g=f
  · have hb:(g==f)=true:=beq_iff_eq.mpr h
    simp only [List.lookup,hb,if_pos h]
  · have hb:(g==f)=false:=beq_eq_false_iff_ne.mpr h
    simp only [List.lookup,hb,if_neg h]
 |(k,x)::r=>by
  have ih:=g6 f g v r
  rw [show putF f v ((k,x)::r)=(if k=f then (k,v)::r else (k,x)::putF f v r) from rfl]
  by_cases hk:k=f
  · rw [if_pos hk]
    by_cases h:g=k
    · have hb:(g==k)=true:=beq_iff_eq.mpr h
      simp only [List.lookup,hb,if_pos (h.trans hk)]
    · have hb:(g==k)=false:=beq_eq_false_iff_ne.mpr h
      simp only [List.lookup,hb,if_neg (fun e:g=f=>h (e.trans hk.symm))]
  · rw [if_neg hk]
    by_cases h:g=k
    · have hb:(g==k)=true:=beq_iff_eq.mpr h
      simp only [List.lookup,hb,if_neg (fun e:g=f=>hk (h.symm.trans e))]
    · have hb:(g==k)=false:=beq_eq_false_iff_ne.mpr h
      simp only [List.lookup,hb]
      exact ih
theorem fO (f:Str) (v:V):∀fs:List (Str×V),f∈(putF f v fs).map (·.1)∧∀g,g∈fs.map (·.1)→g∈(putF f v fs).map (·.1)
 | []=>⟨by simp [putF],fun g h=>by simp at h⟩
 |(k,x)::r=>by
  obtain ⟨i1,i2⟩:=fO f v r
  rw [show putF f v ((k,x)::r)=(if k=f then (k,v)::r else (k,x)::putF f v r) from rfl]
  by_cases hk:k=f
  · rw [if_pos hk]
    subst hk
    exact ⟨by simp,fun g h=>by simpa using h⟩
  · rw [if_neg hk]
    refine ⟨?_,fun g h=> ?_⟩
    · rw [List.map_cons]
      exact List.mem_cons_of_mem _ i1
    · rw [List.map_cons] at h ⊢
      rcases List.mem_cons.mp h with e|e
      · exact List.mem_cons.mpr (.inl e)
      · exact List.mem_cons_of_mem _ (i2 g e)
theorem g7 (f:Str) (v:V):∀fs:List (Str×V),(putF f v fs).length≤fs.length+1
 | []=>by simp [putF]
 |(k,x)::r=>by
  have ih:=g7 f v r
  rw [show putF f v ((k,x)::r)=(if k=f then (k,v)::r else (k,x)::putF f v r) from rfl]
  by_cases hk:k=f
  · rw [if_pos hk,List.length_cons,List.length_cons];omega
  · rw [if_neg hk,List.length_cons,List.length_cons];omega
theorem RelO.some_of {v:V} {o:Option Value} (r:RelO (some v) o):∃u,o=some u∧RelV v u:=by
 cases o with
 |none=>exact (show False from r).elim
 |some u=>exact ⟨u,rfl,r⟩
theorem oH {v:V} {u:Value} (r:RelV v u):PySem.W.handedIn u=true:=by
 cases v with
 |non=>cases (show u=Value.none from r);rfl
 |bl b=>cases (show u=Value.bool b from r);rfl
 |int i=>obtain ⟨t,e⟩:=(show∃t,u=Value.int i t from r);cases e;rfl
 |str x=>obtain ⟨t,e⟩:=(show∃t,u=Value.str x t from r);cases e;rfl
 |byt b=>obtain ⟨t,e⟩:=(show∃t,u=Value.bytes b t from r);cases e;rfl
 |flt b=>obtain ⟨t,e⟩:=(show∃t,u=Value.float b t from r);cases e;rfl
 |ref a=>cases (show u=Value.ref a from r);rfl
 |ty n=>cases (show u=Value.type n from r);rfl
section
variable {P:Program} {w:World} {H H':Hp} {h h':Heap} {a C dx:Addr} {fs fs':List (Str×V)}
theorem jA (hok:HOk P w H h) (e:H a=some (.ins C dx fs)):∃mA,ObjM h a dx C mA∧(∀f,RelO (fs.lookup f) (mA f))∧PySem.Within mA (fs.map (·.1))∧fs.length≤1000∧H dx=some (.own a):=by
 obtain ⟨d,z,ne,ob,mA,n,r,q⟩:=(show ObjOk P w H h a (.ins C dx fs) from hok a _ e)
 exact ⟨mA,⟨ob,n,ne⟩,r,q,z,d⟩
end
structure Cls (K:PySem.W.Frag) (C:Addr):Prop where
 pg:PySem.W.plainGet K C Str.empty=true
 hd:PySem.W.hasDictIn K C=true
 po:PySem.W.plainOver K C=true
 sa:PySem.W.findIn K (.ref C) "__setattr__"=some (some (.builtin "object.__setattr__"))
theorem Cls.get {K:PySem.W.Frag} {C:Addr} (c:Cls K C) (f:Str):PySem.W.plainGet K C f=true:=c.pg
def NoAttr (K:PySem.W.Frag) (C:Addr) (f:Str):Prop:=PySem.W.findIn K (.ref C) f=some none
theorem NoAttr.taker {K:PySem.W.Frag} {C:Addr} {f:Str} (n:NoAttr K C f):PySem.W.takerIn K C f=some none:=by
 unfold PySem.W.takerIn
 rw [show PySem.W.findIn K (.ref C) f=some none from n]
 rfl
section
variable {X:Cx} {pins:List (Addr×Obj)} {σ:St} {H:Hp} {s:Shared} {a C dx:Addr} {fs:List (Str×V)} {f:Str} {v:V} {A:Around} {E:Value→Shared→Prop}
theorem lW {b:Bool} {Q:Value→Shared→Prop} (I:Inv X pins σ H s) (e:H a=some (.ins C dx fs)) (c:Cls X.K C) (n:NoAttr X.K C f) (l:fs.lookup f=some v)
 (h:∀u s',Inv X pins σ H s'→RelV v u→Q u s'):wpAny (model X.prog X.w) A (getAttr (.ref a) f b) Q E s:=by
 obtain ⟨mA,O,r,_,_,_⟩:=jA I.hok e
 obtain ⟨u,hu,ru⟩:=RelO.some_of (v:=v) (o:=mA f) (by rw [←l];exact r f)
 exact tZ I.kIn O (c.get f) c.hd n hu (oH ru) (h u _ (I.tok _) ru)
theorem lA {y:V} {u:Value} {Q:Unit→Shared→Prop} (I:Inv X pins σ H s) (e:H a=some (.ins C dx fs)) (c:Cls X.K C) (n:NoAttr X.K C f) (hl:fs.length < 1000) (ry:RelV y u)
 (h:∀s',Inv X pins σ (upd H a (.ins C dx (putF f y fs))) s'→Q () s'):wpAny (model X.prog X.w) A (setAttr (.ref a) f u) Q E s:=by
 obtain ⟨mA,O,r,wi,_,ho⟩:=jA I.hok e
 have hz:(fs.map (·.1)).length≤sizeLine:=by rw [List.length_map,sizeLine_eq];omega
 refine sM I.kIn O c.sa c.po n.taker c.hd wi hz fun h' O' sb=>h _ ?_
 have hd:∃o,h'.get? dx=some o:=let ⟨o,_,_,e',_⟩:=O'.ns;⟨o,e'⟩
 refine I.write (x:=a) (e:=dx) (by rw [e];exact True.intro) (.inr ho) (fun b q hb z=>(sb.2 b hb).trans z) hd ?_
 refine ⟨by rw [ak O.ne];exact ho,?_,O.ne,O'.obj,_,O'.ns,fun g=> ?_,fun g hg=> ?_⟩
 · have:=g7 f y fs;omega
 · show RelO ((putF f y fs).lookup g) (if g=f then some u else mA g)
   rw [g6]
   by_cases q:g=f
   · rw [if_pos q,if_pos q];exact ry
   · rw [if_neg q,if_neg q];exact r g
 · by_cases q:g=f
   · rw [q];exact (fO f y fs).1
   · refine (fO f y fs).2 g (wi g fun z=>hg ?_)
     show (if g=f then some u else mA g)=none
     rw [if_neg q];exact z
theorem Inv.made (I:Inv X pins σ H s):Inv X pins σ (upd (upd H s.heap.objs.size (.own (s.heap.objs.size+1))) (s.heap.objs.size+1) (.ins C s.heap.objs.size []))
 {s with heap:=(s.heap.push PySem.W.emptyDict).push (PySem.W.instObj C s.heap.objs.size)}:=by
 have e1:(s.heap.push PySem.W.emptyDict).get? s.heap.objs.size=some PySem.W.emptyDict:=Heap.get?_push_size s.heap rfl
 have e2:((s.heap.push PySem.W.emptyDict).push (PySem.W.instObj C s.heap.objs.size)).get? (s.heap.objs.size+1)=some (PySem.W.instObj C s.heap.objs.size):=by
  have:=Heap.get?_push_size (s.heap.push PySem.W.emptyDict) (o:=PySem.W.instObj C s.heap.objs.size) rfl
  rwa [Heap.size_push] at this
 have e3:(s.heap.push PySem.W.emptyDict).Ns s.heap.objs.size (fun _=>none):=⟨PySem.W.emptyDict, #[],_,e1,rfl,(fun e he=>absurd he (by simp)),fun _=>rfl⟩
 have I1:=I.laid (a:=s.heap.objs.size) (o:= .own (s.heap.objs.size+1)) (h':=s.heap.push PySem.W.emptyDict) (t':=s.toks) (fun b u q=>Heap.get?_push_of_some _ q) (Nat.le_refl _) ⟨_,e1⟩
 refine I1.laid (a:=s.heap.objs.size+1) (o:= .ins C s.heap.objs.size []) (t':=s.toks) (fun b u q=>Heap.get?_push_of_some _ q) (Nat.le_of_eq (Heap.size_push _ _)) ?_
 have ne:s.heap.objs.size≠s.heap.objs.size+1:=Nat.ne_of_lt (Nat.lt_succ_self _)
 refine ⟨by rw [ak ne,ac],Nat.zero_le _,ne,e2,fun _=>none,(Heap.Ns1.of_empty e3).at fun o q=>Heap.get?_push_of_some _ q,fun _=>True.intro,fun y hy=>absurd rfl hy⟩
theorem ub {prog:Program} {w:World} {env:Env} {e:Expr} {f:Str} {pos:Pos} {s:Shared} {Q:Value→Shared→Prop} (hb:attributeBase e f env (eval e env)=eval e env)
 (h:wpAny (model prog w) A (eval e env) (fun o s₁=>wpAny (model prog w) A (getAttr o f true) Q E s₁) E s):wpAny (model prog w) A (eval (.Attribute e f pos) env) Q E s:=
 Attribute_any_ h (by rw [arm_eval_Attribute,hb])
end
def tFld (K:PySem.W.Frag) (ta:TE) (f:Str):TE:=fun σ H Q=>ta σ H fun x H1=>∃a C dx fs v,x= .ref a∧H1 a=some (.ins C dx fs)∧Cls K C∧NoAttr K C f∧fs.lookup f=some v∧Q v H1
def sFld (K:PySem.W.Frag) (ta tv:TE) (f:Str):TS:=fun D σ H=>tv σ H fun y H1=>ta σ H1 fun x H2=>∃a C dx fs,x= .ref a∧H2 a=some (.ins C dx fs)∧Cls K C∧NoAttr K C f∧fs.length < 1000∧
 D.nx σ (upd H2 a (.ins C dx (putF f y fs)))
section
variable {X:Cx} {o e value:Expr} {f:Str} {pos pos' tpos:Pos} {ta tv:TE}
theorem b9 (he:PE X e ta) (hb:attributeBase e f X.env (eval e X.env)=eval e X.env):PE X (.Attribute e f pos) (tFld X.K ta f):=by
 intro pins s σ H Q I h
 refine ub hb (thn (he pins s σ H _ I h) fun u s1 ⟨x,H1,I1,rx,a,C,dx,fs,v,ex,ea,c,n,l,q⟩=> ?_)
 subst ex
 obtain rfl:u=Value.ref a:=rx
 exact lW I1 ea c n l fun u' s2 I2 ru=>⟨v,H1,I2,ru,q⟩
theorem lF (ha:PE X o ta) (hv:PE X value tv) (hs:swapsWith value (some (.Attribute o f pos')) pos.line X.env=pure false):PS X (.Assign [.Attribute o f pos'] value pos) (sFld X.K ta tv f):=by
 intro pins s σ H D I h
 refine plainObj_wpAny_Assign_Attribute (thn (hv pins s σ H _ I h) fun u s1 ⟨y,H1,I1,ry,q⟩=>thn (ha pins s1 σ H1 _ I1 q) fun ov s2 ⟨x,H2,I2,rx,a,C,dx,fs,ex,ea,c,n,l,q2⟩=> ?_) hs
 subst ex
 obtain rfl:ov=Value.ref a:=rx
 exact lA I2 ea c n l ry fun s3 I3=>⟨σ,_,I3,q2⟩
end
section
variable {X:Cx} {pins:List (Addr×Obj)} {σ:St} {H:Hp} {s:Shared} {A:Around} {E:Value→Shared→Prop} {Q:Value→Shared→Prop} {c:Value} {b:Bool}
inductive TyOf (K:PySem.W.Frag) (H:Hp):V→Value→Prop where
 |non:TyOf K H .non (.type "NoneType")
 |bl (x:Bool):TyOf K H (.bl x) (.type "bool")
 |int (i:Int):TyOf K H (.int i) (.type "int")
 |str (x:Str):TyOf K H (.str x) (.type "str")
 |flt (x:UInt64):TyOf K H (.flt x) (.type "float")
 |lst {a:Addr} {xs:List V} (e:H a=some (.lst xs)):TyOf K H (.ref a) (.type "list")
 |frz {a:Addr} {o:Obj} {xs:List V} (e:H a=some (.frz o (.lst xs))):TyOf K H (.ref a) (.type "list")
 |tup {a:Addr} {xs:List V} (e:H a=some (.tup xs)):TyOf K H (.ref a) (.type "tuple")
 |dK {a:Addr} {kvs:List (Key×V)} (e:H a=some (.dK kvs)):TyOf K H (.ref a) (.type "dict")
 |dT {a:Addr} {kvs:List (List Key×V)} (e:H a=some (.dT kvs)):TyOf K H (.ref a) (.type "dict")
 |ins {a C dx:Addr} {fs:List (Str×V)} (e:H a=some (.ins C dx fs)) (cl:Cls K C) (ha:PySem.W.findIn K (.ref C) "__class__"=some (some (.builtin "object.__class__")))
  (hn:PySem.W.specialIn K (.builtin "object.__class__") "__get__"=some (some (.builtin "getset_descriptor.__get__"))) (htk:PySem.W.takesIn K (.builtin "object.__class__")=some true)
  (hm:PySem.W.mroIn K C (.type "object")=some true):TyOf K H (.ref a) (.ref C)
end
open PySem PySem.Spec PyProof.Rows
structure Room (k:Nat) (A:Around):Prop where
 hd:A.handled=none
 dp:A.depth+3*k+5 < recursionLimit
 un:A.units+16*k+200 < cLine
 gd:A.guards=some []
theorem Room.mono {j k:Nat} {A:Around} (r:Room k A) (h:j≤k):Room j A:=⟨r.hd,by have:=r.dp;omega,by have:=r.un;omega,r.gd⟩
theorem Room.deeper {k:Nat} {A:Around} (r:Room (k+1) A) (env:Env):Room k (A.deeper env):=
 ⟨r.hd,by have:=r.dp;show A.depth+1+3*k+5 < _;omega,by have:=r.un;show A.units+3+16*k+200 < _;omega,by first|exact r.gd|(have:=r.gd;simpa [Around.deeper,Around.under] using this)⟩
theorem Room.in1 {k:Nat} {A:Around} (r:Room (k+1) A):Room k A.in1:=
 ⟨r.hd,by have:=r.dp;show A.depth+3*k+5 < _;omega,by have:=r.un;show A.units+1+16*k+200 < _;omega,r.gd⟩
theorem lP {A:Around} {C:Addr} {us:List Value} {kw:List (Str×Value)}:(A.under (.builtin "type.__call__" ⟨.ref C::us,kw⟩)).depth=A.depth+1:=by
 first|rfl|simp [Around.under,Code.weight,Code.isCreation,Code.isGuard,Code.isCaller,Code.frames,Code.isFrame,guardIds]
theorem lO {A:Around} {C:Addr} {us:List Value} {kw:List (Str×Value)}:(A.under (.builtin "type.__call__" ⟨.ref C::us,kw⟩)).units=A.units+1:=by
 first|rfl|simp [Around.under,Code.cUnits,Code.frames,Code.isFrame]
theorem Room.make {k:Nat} {A:Around} (r:Room (k+1) A) (C:Addr) (us:List Value) (kw:List (Str×Value)):Room k (A.under (.builtin "type.__call__" ⟨.ref C::us,kw⟩)):=
 ⟨r.hd,by have:=r.dp;rw [lP];omega,by have:=r.un;rw [lO];omega,by have:=r.gd;simp [Around.under,Code.guards,Code.isGuard,guardIds,pushGuards,this]⟩
theorem Room.depth {k:Nat} {A:Around} (r:Room k A):A.depth < recursionLimit:=by have:=r.dp;omega
theorem Room.units {k:Nat} {A:Around} (r:Room k A):A.units+64 < cLine:=by have:=r.un;omega
def tNil:TA:=fun _ H Q=>Q [] H
def bp (ta:TE) (tr:TA):TA:=fun σ H Q=>ta σ H fun x H1=>tr σ H1 fun xs H2=>Q (x::xs) H2
section
variable {X:Cx} {e:Expr} {es:List Expr} {te:TE} {t:TA} {pos:Pos}
theorem a9:PA X [] tNil:=fun _ _ _ _ H Q I h=>Calls.spliced_nil ⟨[],H,I, .nil,h⟩
theorem a7 (ha:PE X e te) (hr:PA X es t) (hs:starEach (e::es) X.env=(false,eval e X.env)::starEach es X.env:=by rfl):PA X (e::es) (bp te t):=by
 intro pos pins s σ H Q I h
 rw [hs]
 show wpAny _ _ (spliced ((false,eval e X.env)::backTo pos (starEach es X.env))) _ _ s
 refine Calls.spliced_cons (thn (ha pins s σ H _ I h) fun u s1 ⟨x,H1,I1,r1,q1⟩=> ?_)
 exact thn (hr pos pins s1 σ H1 _ I1 q1) fun us s2 ⟨xs,H2,I2,r2,q2⟩=>⟨x::xs,H2,I2, .cons r1 r2,q2⟩
def tTup (t:TA):TE:=fun σ H Q=>t σ H fun xs H1=>xs.length≤sizeLine∧∀p,H1 p=none→Q (.ref p) (upd H1 p (.tup xs))
def tLst (t:TA):TE:=fun σ H Q=>t σ H fun xs H1=>xs.length≤sizeLine∧∀p,H1 p=none→Q (.ref p) (upd H1 p (.lst xs))
theorem aE {x1} (h:PA X es t):PE X (.Tuple es x1 pos) (tTup t):=by
 intro pins s σ H Q I hq
 refine wpAny_Tuple_spliced (thn (h pos pins s σ H _ I hq) fun us s1 ⟨xs,H1,I1,r,z,q⟩=>⟨by rw [←r.length];exact z,?_⟩)
 have hf:H1 s1.heap.objs.size=none:=I1.hok.fresh (Nat.le_refl _)
 refine ⟨.ref s1.heap.objs.size,upd H1 s1.heap.objs.size (.tup xs),I1.laid (t':=s1.toks) (fun b u e=>Heap.get?_push_of_some _ e) (Nat.le_refl _) ?_,rfl,q _ hf⟩
 exact ⟨z,us,r,⟨_,Heap.get?_push_size _ rfl,rfl,_,rfl⟩⟩
theorem bn (h:PA X es t):PE X (.List es pos) (tLst t):=by
 intro pins s σ H Q I hq
 refine wpAny_List_spliced (thn (h pos pins s σ H _ I hq) fun us s1 ⟨xs,H1,I1,r,z,q⟩=>⟨by rw [←r.length];exact z,?_⟩)
 have hf:H1 s1.heap.objs.size=none:=I1.hok.fresh (Nat.le_refl _)
 refine ⟨.ref s1.heap.objs.size,upd H1 s1.heap.objs.size (.lst xs),I1.laid (t':=s1.toks) (fun b u e=>Heap.get?_push_of_some _ e) (Nat.le_refl _) ?_,rfl,q _ hf⟩
 exact ⟨z,us,0,r,Heap.get?_push_size _ rfl⟩
end
abbrev Sp:=List V→Hp→VK→XK→Prop
abbrev CXT:=List Env→Hp→Shared→XK→Value→Shared→Prop
structure Env0 (P:Program) (w:World) (K:PySem.W.Frag) (mg:Str→Option Value) (base:Heap) (A:Around) (outer:List Env) (s:Shared) (H:Hp):Prop where
 frames:A.frames=some outer
 mod:Mod K mg base
 bs:∀b o,base.get? b=some o→s.heap.get? b=some o∧Idl (H b)
 bsz:base.objs.size≤s.heap.objs.size
 funs:s.heap.FunFrames base outer
 frf:∀b∈frs outer,H b=none
 hok:HOk P w H s.heap
 bare:AllBare s.gens
def CE (outer:List Env) (P:Program) (w:World) (H:Hp) (s:Shared) (Q:VK) (u:Value) (s':Shared):Prop:=
 ∃v H',s'.os=s.os∧AllBare s'.gens∧Un (frs outer) [] H H' s.heap s'.heap∧HOk P w H' s'.heap∧RelV v u∧Q v H'
def CR (CX:CXT) (outer:List Env) (P:Program) (w:World) (H:Hp) (s:Shared) (Q:VK) (E:XK) (r:Result) (s':Shared):Prop:=
 match r with
 | .ok (.ret u)=>CE outer P w H s Q u s'
 | .ok _=>False
 | .error e=>CX outer H s E e s'
structure FnOk (P:Program) (w:World) (K:PySem.W.Frag) (mg:Str→Option Value) (base:Heap) (CX:CXT) (k:Nat) (f:Addr) (fd:FuncData) (ps:List Str) (sp:Sp):Prop where
 len:∀vs H Q E,sp vs H Q E→vs.length=ps.length
 run:∀(A:Around) (outer:List Env) (s:Shared) (H:Hp) (args:Args) (us:List Value) (vs:List V) (Q:VK) (E:XK),Room k A→Env0 P w K mg base A outer s H→BindsTo s fd args (ps.zip us)→Vals vs us→sp vs H Q E→
  codeAny (model P w) A (.call (.ref f) args) (CR CX outer P w H s Q E) s
theorem Env0.make {P:Program} {w:World} {K:PySem.W.Frag} {mg:Str→Option Value} {base:Heap} {A:Around} {outer:List Env} {s:Shared} {H:Hp} (e:Env0 P w K mg base A outer s H) (C:Addr) (us:List Value) (kw:List (Str×Value)):
 Env0 P w K mg base (A.under (.builtin "type.__call__" ⟨.ref C::us,kw⟩)) outer s H:=⟨by first|exact e.frames|(simpa [Around.under,Code.envs,Code.isFrame,pushEnvs] using e.frames),e.mod,e.bs,e.bsz,e.funs,e.frf,e.hok,e.bare⟩
theorem Env0.in1 {P:Program} {w:World} {K:PySem.W.Frag} {mg:Str→Option Value} {base:Heap} {A:Around} {outer:List Env} {s:Shared} {H:Hp} (e:Env0 P w K mg base A outer s H):
 Env0 P w K mg base A.in1 outer s H:=⟨e.frames,e.mod,e.bs,e.bsz,e.funs,e.frf,e.hok,e.bare⟩
section
variable {X:Cx} {pins:List (Addr×Obj)} {σ:St} {H:Hp} {s s':Shared}
theorem Inv.env0 (I:Inv X pins σ H s):Env0 X.prog X.w X.K X.mg X.base X.A X.stack s H:=
 ⟨I.ok.frames,I.ok.mod,I.bs,Nat.le_trans I.ok.bsz I.sz,I.stack,I.stkFree,I.hok,I.bare⟩
theorem Inv.after {Q:VK} {u:Value} (I:Inv X pins σ H s) (h:CE X.stack X.prog X.w H s Q u s'):EP X pins σ Q u s':=by
 obtain ⟨v,H',os,bare,un,hok,r,q⟩:=h
 obtain ⟨hh,g,d,t,os'⟩:=s'
 obtain rfl:os'=s.os:=os
 exact ⟨v,H',I.call (h':=hh) (g':=g) (d':=d) (t':=t) (ch:= []) un hok bare (fun b z=>absurd z (by simp)),r,q⟩
end
def eL (sp:Sp) (dvs:List V) (E:XK) (t:TA):TE:=fun σ H Q=>t σ H fun vs H1=>sp (vs++dvs) H1 Q E
def wG (C:Addr) (sp:Sp) (dvs:List V) (E:XK) (t:TA):TE:=fun σ H Q=>t σ H fun vs H1=>∀x dx,H1 x=none→H1 dx=none→dx≠x→
 sp (.ref x::(vs++dvs)) (upd (upd H1 dx (.own x)) x (.ins C dx [])) (fun v H2=>v= .non∧Q (.ref x) H2) E
def Binds (K:PySem.W.Frag) (fd:FuncData) (ps:List Str) (ds:List Value):Prop:=
 ∀(s:Shared) (us:List Value),K.In s.heap→(us++ds).length=ps.length→BindsTo s fd ⟨us,[]⟩ (ps.zip (us++ds))
theorem Binds.all {K:PySem.W.Frag} {fd:FuncData} {ps:List Str} (h:∀us:List Value,us.length=ps.length→bindArgs fd ⟨us,[]⟩=pure (ps.zip us)):Binds K fd ps []:=fun s us _ hl=>by
 rw [List.append_nil] at hl ⊢
 exact .of_eq (h us hl)
def io (CX:CXT) (X:Cx) (E:XK):Prop:=∀(pins:List (Addr×Obj)) (σ:St) (H:Hp) (s:Shared) (e:Value) (s':Shared),Inv X pins σ H s→CX X.stack H s E e s'→X.xe e s'
section
variable {X:Cx} {CX:CXT} {k:Nat} {f C:Addr} {fd:FuncData} {ps:List Str} {sp:Sp} {dvs:List V} {ds:List Value} {E:XK} {x m:Str} {p pos apos:Pos} {e o:Expr} {es:List Expr} {ta:TE} {t:TA}
theorem uT {pins:List (Addr×Obj)} {σ:St} {H:Hp} {s:Shared} {Q:VK} {us:List Value} {vs:List V} (F:FnOk X.prog X.w X.K X.mg X.base CX k f fd ps sp) (hr:Room k X.A) (hb:Binds X.K fd ps ds) (hd:Vals dvs ds) (hx:io CX X E)
 (I:Inv X pins σ H s) (r:Vals vs us) (h:sp (vs++dvs) H Q E):wpAny (model X.prog X.w) X.A (call (.ref f) us) (EP X pins σ Q) X.xe s:=by
 have r2:Vals (vs++dvs) (us++ds):=r.append hd
 have hl:(us++ds).length=ps.length:=by rw [←r2.length];exact F.len _ _ _ _ h
 refine wpAny_call (codeAny_mono (F.run X.A X.stack s H ⟨us,[]⟩ (us++ds) (vs++dvs) Q E hr I.env0 (hb s us I.kIn hl) r2 h) fun r s' hq=> ?_)
 cases r with
 |error e=>exact hx pins σ H s e s' I hq
 |ok fl=>
  cases fl with
  |ret u=>exact I.after hq
  |next=>exact False.elim hq
  |brk=>exact False.elim hq
  |cont=>exact False.elim hq
theorem ah (F:FnOk X.prog X.w X.K X.mg X.base CX k f fd ps sp) (hr:Room k X.A) (hg:Gl X x) (hm:X.mg x=some (.ref f)) (hk:PySem.W.keepIn X.K (.ref f)=true) (hb:Binds X.K fd ps ds) (hd:Vals dvs ds) (hx:io CX X E)
 (ha:PA X (e::es) t) (hdb:(x==("__debug__":Str))=false:=by decide) (he:starEach (e::es) X.env=(false,eval e X.env)::starEach es X.env:=by rfl) (hpl:(backTo pos (starEach es X.env)).any (·.1)=false:=by rfl):
 PE X (.Call (.Name x p) (e::es) [] pos) (eL sp dvs E t):=by
 intro pins s σ H Q I h
 refine wpAny_Call_Name_kw (jy I hg hm ?_ hdb)
 refine PySem.W.callWith_K (h₀:=X.base) I.ok.mod.kin hk (thn (ha pos pins s σ H _ I h) fun us s1 ⟨vs,H1,I1,r,q⟩=>⟨I1.kIn,?_⟩) he hpl
 exact uT F hr hb hd hx I1 r q
structure Mk (K:PySem.W.Frag) (C f:Addr):Prop where
 makes:PySem.W.makesIn K C=true
 init:PySem.W.findIn K (.ref C) "__init__"=some (some (.ref f))
 fn:PySem.W.isFn K (.ref f)=true
 kp:PySem.W.keepIn K (.ref C)=true
theorem qg {pins:List (Addr×Obj)} {σ:St} {H:Hp} {s:Shared} {Q:VK} {us:List Value} {vs:List V} (M:Mk X.K C f) (F:FnOk X.prog X.w X.K X.mg X.base CX k f fd ps sp) (hr:Room (k+1) X.A) (hb:Binds X.K fd ps ds) (hd:Vals dvs ds)
 (hx:io CX X E) (I:Inv X pins σ H s) (r:Vals vs us)
 (h:∀x dx,H x=none→H dx=none→dx≠x→sp (.ref x::(vs++dvs)) (upd (upd H dx (.own x)) x (.ins C dx [])) (fun v H2=>v= .non∧Q (.ref x) H2) E):
 wpAny (model X.prog X.w) X.A (call (.ref C) us) (EP X pins σ Q) X.xe s:=by
 have hq:=h (s.heap.objs.size+1) s.heap.objs.size (I.hok.fresh (Nat.le_succ _)) (I.hok.fresh (Nat.le_refl _)) (Nat.ne_of_lt (Nat.lt_succ_self _))
 have I2:=Inv.made (C:=C) I
 have r2:Vals (V.ref (s.heap.objs.size+1)::(vs++dvs)) (Value.ref (s.heap.objs.size+1)::(us++ds)):= .cons rfl (r.append hd)
 have hl:(Value.ref (s.heap.objs.size+1)::us++ds).length=ps.length:=by
  have e:=r2.length
  rw [F.len _ _ _ _ hq] at e
  exact e.symm
 refine wpAny_call (rh (f:=f) I.kIn M.makes M.init (beq_iff_eq.mp M.fn) (codeAny_mono (F.run _ X.stack _ _ ⟨Value.ref (s.heap.objs.size+1)::us,[]⟩ (Value.ref (s.heap.objs.size+1)::(us++ds)) _ _ E (hr.make C us [])
  (I2.env0.make C us []) (hb _ (Value.ref (s.heap.objs.size+1)::us) I2.kIn hl) r2 hq) fun r s' hq'=> ?_))
 cases r with
 |error e=>exact hx pins σ _ _ e s' I2 hq'
 |ok fl=>
  cases fl with
  |ret u=>
   obtain ⟨v,H',I3,rv,ev,q3⟩:=I2.after hq'
   subst ev
   exact ⟨rv,⟨V.ref (s.heap.objs.size+1),H',I3,rfl,q3⟩⟩
  |next=>exact False.elim hq'
  |brk=>exact False.elim hq'
  |cont=>exact False.elim hq'
theorem n9 (M:Mk X.K C f) (F:FnOk X.prog X.w X.K X.mg X.base CX k f fd ps sp) (hr:Room (k+1) X.A) (hg:Gl X x) (hm:X.mg x=some (.ref C)) (hb:Binds X.K fd ps ds) (hd:Vals dvs ds) (hx:io CX X E)
 (ha:PA X (e::es) t) (hdb:(x==("__debug__":Str))=false:=by decide) (he:starEach (e::es) X.env=(false,eval e X.env)::starEach es X.env:=by rfl) (hpl:(backTo pos (starEach es X.env)).any (·.1)=false:=by rfl):
 PE X (.Call (.Name x p) (e::es) [] pos) (wG C sp dvs E t):=by
 intro pins s σ H Q I h
 refine wpAny_Call_Name_kw (jy I hg hm ?_ hdb)
 refine PySem.W.callWith_K (h₀:=X.base) I.ok.mod.kin M.kp (thn (ha pos pins s σ H _ I h) fun us s1 ⟨vs,H1,I1,r,q⟩=>⟨I1.kIn,?_⟩) he hpl
 exact qg M F hr hb hd hx I1 r q
end
section
variable {X:Cx} {CX:CXT} {k:Nat} {f C:Addr} {fd:FuncData} {ps ks:List Str} {sp:Sp} {E:XK} {x m:Str} {p pos apos kpos:Pos} {e o:Expr} {es:List Expr} {kws:List Keyword} {te ta:TE} {t tk:TA} {nm:Option Str}
variable {g:List Value→List Value→List Value} {gV:List V→List V→List V}
end
structure aA (N P:List Str) (sc:Scope):Prop where
 kind:sc.kind= .function
 co:sc.isCoroutine=false
 gen:sc.isGenerator=false
 nd:N.Nodup
 pre:N.take P.length=P
 par:∀x∈P,sc.names.lookup x=some .local∨sc.names.lookup x=some .cell
 nofree:∀y∈sc.names,y.2≠ .free
theorem iU {kindOf:Str→Option NameKind} {x:Str}:∀ {binds:List (Str×Value)} {m:Str→Option Value},(∀v,(x,v)∉binds)→bindL kindOf binds m x=m x
 | [],_,_=>rfl
 |(n,v)::r,m,h=>by
  unfold bindL
  rw [iU fun w hw=>h w (List.mem_cons_of_mem _ hw)]
  split
  · have:x≠n:=by rintro rfl;exact h v List.mem_cons_self
    simp [this]
  · rfl
theorem iW {kindOf:Str→Option NameKind} {x:Str}:∀ {binds:List (Str×Value)} {m:Str→Option Value},(∀v,(x,v)∉binds)→bindC kindOf binds m x=m x
 | [],_,_=>rfl
 |(n,v)::r,m,h=>by
  unfold bindC
  rw [iW fun w hw=>h w (List.mem_cons_of_mem _ hw)]
  split
  · rfl
  · have:x≠n:=by rintro rfl;exact h v List.mem_cons_self
    simp [this]
theorem iV {kindOf:Str→Option NameKind} {x:Str} {v:Value}:∀ {P:List Str} {vs:List Value} {i:Nat} {m:Str→Option Value},P.Nodup→P[i]?=some x→vs[i]?=some v→kindOf x=some .local→
 bindL kindOf (P.zip vs) m x=some v
 | [],_,_,_,_,h,_,_=>by simp at h
 |_::_,[],_,_,_,_,h,_=>by simp at h
 |p::P,w::vs,0,m,nd,h1,h2,hk=>by
  simp at h1 h2;subst h1;subst h2
  show bindL kindOf ((p,w)::P.zip vs) m p=_
  unfold bindL
  rw [iU fun v hv=>(List.nodup_cons.mp nd).1 (List.of_mem_zip hv).1,if_pos hk]
  simp
 |p::P,w::vs,i+1,m,nd,h1,h2,hk=>by
  show bindL kindOf ((p,w)::P.zip vs) m x=_
  unfold bindL
  exact iV (i:=i) (List.nodup_cons.mp nd).2 (by simpa using h1) (by simpa using h2) hk
theorem iX {kindOf:Str→Option NameKind} {x:Str} {v:Value}:∀ {P:List Str} {vs:List Value} {i:Nat} {m:Str→Option Value},P.Nodup→P[i]?=some x→vs[i]?=some v→kindOf x≠some .local→
 bindC kindOf (P.zip vs) m x=some v
 | [],_,_,_,_,h,_,_=>by simp at h
 |_::_,[],_,_,_,_,h,_=>by simp at h
 |p::P,w::vs,0,m,nd,h1,h2,hk=>by
  simp at h1 h2;subst h1;subst h2
  show bindC kindOf ((p,w)::P.zip vs) m p=_
  unfold bindC
  rw [iW fun v hv=>(List.nodup_cons.mp nd).1 (List.of_mem_zip hv).1,if_neg hk]
  simp
 |p::P,w::vs,i+1,m,nd,h1,h2,hk=>by
  show bindC kindOf ((p,w)::P.zip vs) m x=_
  unfold bindC
  exact iX (i:=i) (List.nodup_cons.mp nd).2 (by simpa using h1) (by simpa using h2) hk
noncomputable def fV (N:List Str) (vs:List V):St:=vs.map some++List.replicate (N.length - vs.length) none
noncomputable def cxOf (CX:CXT) (P:Program) (w:World) (K:PySem.W.Frag) (mg:Str→Option Value) (base:Heap) (N:List Str) (qual:Str) (scope:Scope) (f:Addr) (cd:Value) (A:Around) (outer:List Env) (s:Shared) (H:Hp) (E:XK):Cx where
 prog:=P
 w:=w
 K:=K
 mg:=mg
 base:=base
 A:=A.deeper (envOfC qual scope s.heap.objs.size f cd)
 N:=N
 s₀:=s
 H₀:=H
 env:=envOfC qual scope s.heap.objs.size f cd
 outer:=outer
 stack:=envOfC qual scope s.heap.objs.size f cd::outer
 ex:= []
 calm:=true
 fn:=fun _=>true
 pn:= []
 xe:=fun e s'=>wpAny (model P w) (A.deeper (envOfC qual scope s.heap.objs.size f cd)) (leaving (envOfC qual scope s.heap.objs.size f cd) e) (fun _ s''=>CX outer H s E e s'') (fun e' s''=>CX outer H s E e' s'') s'
theorem kX {sc:Scope} {n:Nat} {x:Str} (h:sc.names.lookup x=some .cell):∃c,(cellsFrom n sc.names []).lookup x=some c:=by
 have q:=PySem.W.cellsFrom_some sc.names n [] (.inl h)
 exact Option.isSome_iff_exists.mp q
theorem oF {CX:CXT} {P:Program} {w:World} {K:PySem.W.Frag} {mg:Str→Option Value} {base:Heap} {N ps:List Str} {qual:Str} {scope:Scope} {f:Addr} {cd:Value} {A:Around} {outer:List Env} {s s1:Shared} {H:Hp} {E:XK} {us:List Value} {vs:List V}
 (S:aA N ps scope) (hd:A.handled=none) (e0:Env0 P w K mg base A outer s H) (hl:vs.length=ps.length) (r:Vals vs us)
 (x:InCallC s s.heap.objs.size (bindL (envOfC qual scope s.heap.objs.size f cd).kindOf (ps.zip us) fun _=>none) (cellsFrom (s.heap.objs.size+1) scope.names []) (bindC (envOfC qual scope s.heap.objs.size f cd).kindOf (ps.zip us) fun _=>none) s1):
 Inv (cxOf CX P w K mg base N qual scope f cd A outer s H E) [] (fV N vs) H s1:=by
 have hpl:ps.length≤N.length:=by have:=congrArg List.length S.pre;rw [List.length_take] at this;omega
 obtain ⟨h1,tk,rfl,hk⟩:=x.done
 have noA:∀b:Addr,b∉(cxOf CX P w K mg base N qual scope f cd A outer s H E).ex:=fun b z=>absurd (show b∈([]:List Addr) from z) (by simp)
 refine ⟨⟨e0.mod,S.kind,rfl,rfl,Nat.le_refl _,fun y z c h1 h2=> ?_,fun y hy=> ?_,fun y c _ h=> ?_,fun _=>hd,Around.frames_deeper e0.frames, .inr ⟨rfl,rfl⟩,fun b z=>absurd z (noA b),e0.bs,e0.bsz,fun b _ _=>noA b,fun b z=>absurd z (noA b),e0.funs,e0.frf⟩,
  rfl,e0.bare,Un.kept hk,⟨_,x.toInCall.ns,fun i y v h1 h2 h3=> ?_⟩,fun y c h=>⟨_,x.cell y c h⟩,e0.hok.fresh (Nat.le_refl _),fun y c h=> ?_,fun p hp=>absurd (show p∈([]:List (Addr×Obj)) from hp) (by simp),e0.hok.kept hk,?_⟩
 · exact name_of_addr x.apart (PySem.mem_of_lookup h1) (PySem.mem_of_lookup h2)
 · have hy:scope.names.lookup y=some .cell∨scope.names.lookup y=some .free:=hy
   rcases hy with hy|hy
   · exact kX hy
   · exact absurd rfl (S.nofree _ (PySem.mem_of_lookup hy))
 · exact Nat.le_of_lt (x.above y c (PySem.mem_of_lookup h))
 · have hi:i < vs.length:=by
    unfold fV at h2
    by_cases hi:i < vs.length
    · exact hi
    · rw [List.getElem?_append_right (by simpa using hi)] at h2
      rw [List.getElem?_replicate] at h2
      split at h2<;>cases h2
   have ha:vs[i]?=some v:=by
    unfold fV at h2
    rw [List.getElem?_append_left (by simpa using hi),List.getElem?_map] at h2
    cases e:vs[i]? with
    |none=>rw [e] at h2;cases h2
    |some a=>rw [e] at h2;cases h2;rfl
   obtain ⟨u,hu,rv⟩:=r.get ha
   have hp:ps[i]?=some y:=by
    rw [←S.pre,List.getElem?_take_of_lt (by omega)];exact h1
   have ndP:ps.Nodup:=by rw [←S.pre];exact S.nd.sublist (List.take_sublist _ _)
   refine ⟨u,rv,?_⟩
   rcases S.par y (List.mem_of_getElem? hp) with k|k
   · exact .inl ⟨k,iV ndP hp hu k⟩
   · obtain ⟨c,e⟩:=kX (n:=s.heap.objs.size+1) k
     refine .inr ⟨.inl k,c,e,?_⟩
     have q:=x.cell y c e
     rw [iX ndP hp hu (by show scope.names.lookup y≠_;rw [k];decide)] at q
     exact q
 · exact e0.hok.fresh (Nat.le_of_lt (x.above y c (PySem.mem_of_lookup h)))
 · unfold fV
   show _=N.length
   rw [List.length_append,List.length_map,List.length_replicate]
   omega
theorem xz {CX:CXT} {P:Program} {w:World} {K:PySem.W.Frag} {mg:Str→Option Value} {base:Heap} {k:Nat} {f:Addr} {name qual:Str} {params:Arguments} {body:List Stmt} {scope:Scope} {dV kV doc pm cdv ct oc:Value} {an od:Option Addr}
 {osl:Array (Option Value)} {N ps:List Str} {sp:Sp} (lk:K.lookup f=some ⟨oc,od, .func (PySem.W.fnOf name qual params body scope dV kV doc pm an cdv ct),osl⟩) (hcd:PySem.W.codeIn K cdv qual=true) (S:aA N ps scope)
 (len:∀vs H Q E,sp vs H Q E→vs.length=ps.length)
 (hbody:∀(A:Around) (outer:List Env) (s:Shared) (H:Hp) (vs:List V) (Q:VK) (E:XK),Room k (A.deeper (envOfC qual scope s.heap.objs.size f cdv))→sp vs H Q E→
  ∃t,PSs (cxOf CX P w K mg base N qual scope f cdv A outer s H E) body t∧t {nx:=fun _ H'=>Q .non H',rt:=Q} (fV N vs) H):
 FnOk P w K mg base CX (k+1) f (PySem.W.fnOf name qual params body scope dV kV doc pm an cdv ct) ps sp:=by
 refine ⟨len,fun A outer s H args us vs Q E hr e0 hb r hsp=> ?_⟩
 have hl:=len _ _ _ _ hsp
 have KX:K.In s.heap:=e0.mod.kin.keeps fun b o e=>(e0.bs b o e).1
 have lim:s.heap.NoLimit:=e0.mod.nolimit.keeps fun b o e=>(e0.bs b o e).1
 have hkind:∀y∈ps.zip us,scope.names.lookup y.1=some .local∨(scope.names.lookup y.1=some .cell∧((cellsFrom (s.heap.objs.size+1) scope.names []).lookup y.1).isSome=true):=fun ⟨n,v⟩ hy=>by
  rcases S.par n (List.of_mem_zip hy).1 with q|q
  · exact .inl q
  · exact .inr ⟨q,PySem.W.cellsFrom_some _ _ _ (.inl q)⟩
 refine codeAny_call_function hr.depth (KX _ _ lk) rfl S.co S.gen rfl (PySem.W.codeRec_of KX hcd) (hb _ _ _ _ ?_)
 refine wpAny_newFunctionEnv_cells S.kind hkind fun env he s1 x=> ?_
 subst he
 refine ⟨lim.keeps x.toInCall.keep,codeAny_func ?_⟩
 obtain ⟨t,ht,hq⟩:=hbody A outer s H vs Q E (hr.deeper _) hsp
 have I:Inv (cxOf CX P w K mg base N qual scope f cdv A outer s H E) [] (fV N vs) H s1:=oF S hr.hd e0 hl r x
 refine wpAny_mono (ht [] s1 (fV N vs) H _ I hq) (fun fl s' hs=> ?_) fun e s' hs=>hs
 have fin:∀ {σ':St} {H':Hp} {v:V} {u:Value},Inv (cxOf CX P w K mg base N qual scope f cdv A outer s H E) [] σ' H' s'→RelV v u→Q v H'→CE outer P w H s Q u s':=
  fun {σ' H' v u} J rv q=>⟨v,H',J.os,J.bare,J.base,J.hok,rv,q⟩
 cases fl with
 |ret u=>
  obtain ⟨v,σ',H',J,rv,q⟩:=hs
  exact fin J rv q
 |next=>
  obtain ⟨σ',H',J,q⟩:=hs
  exact fin (v:=V.non) (u:=Value.none) J rfl q
 |brk=>
  obtain ⟨_,_,_,q⟩:=hs
  exact False.elim q
 |cont=>
  obtain ⟨_,_,_,q⟩:=hs
  exact False.elim q
open PySem PySem.Spec PyProof.Rows
section
variable {X:Cx} {x:Str} {p pos:Pos} {e:Expr} {es:List Expr} {t:TA} {id T:String} {r:List V→Hp→VK→Prop}
def tCB (r:List V→Hp→VK→Prop) (t:TA):TE:=fun σ H Q=>t σ H fun vs H1=>r vs H1 Q
theorem aD (hc:cG X (.builtin id) r) (hg:Gl X x) (hm:X.mg x=none) (hv:bootBuiltins x=some (.builtin id)) (ha:PA X (e::es) t) (hn:x≠"__name__":=by decide) (hdb:(x==("__debug__":Str))=false:=by decide)
 (he:starEach (e::es) X.env=(false,eval e X.env)::starEach es X.env:=by rfl) (hpl:(backTo pos (starEach es X.env)).any (·.1)=false:=by rfl):PE X (.Call (.Name x p) (e::es) [] pos) (tCB r t):=by
 intro pins s σ H Q I h
 refine wpAny_Call_Name_kw (eD I hg hm hv ?_ hn hdb)
 exact PyProof.Rows.callWith_builtin1 (thn (ha pos pins s σ H _ I h) fun us s1 ⟨vs,H1,I1,r1,q1⟩=>hc pins s1 σ H1 vs us Q I1 r1 q1) he hpl
theorem aU (hc:cG X (.type T) r) (hg:Gl X x) (hm:X.mg x=none) (hv:bootBuiltins x=some (.type T)) (ha:PA X (e::es) t) (hn:x≠"__name__":=by decide) (hdb:(x==("__debug__":Str))=false:=by decide)
 (he:starEach (e::es) X.env=(false,eval e X.env)::starEach es X.env:=by rfl) (hpl:(backTo pos (starEach es X.env)).any (·.1)=false:=by rfl):PE X (.Call (.Name x p) (e::es) [] pos) (tCB r t):=by
 intro pins s σ H Q I h
 refine wpAny_Call_Name_kw (eD I hg hm hv ?_ hn hdb)
 exact PyProof.Rows.callWith_type1 (thn (ha pos pins s σ H _ I h) fun us s1 ⟨vs,H1,I1,r1,q1⟩=>hc pins s1 σ H1 vs us Q I1 r1 q1) he hpl
end
end L2
namespace HT
open PySem PyProof.Rows
section
open PySem.SeqAt
open PySem.AutoSeq1 (wpAny_loadPart')
open PySem.MeetsSeq PySem.MeetsSeq2 PySem.MeetsSeq3
end
section
variable {prog:Program} {w:World} {A:Around} {E:Value→Shared→Prop} {s:Shared}
theorem cat_tup {t b:Addr} {vs ws:List Value} {Q:Value→Shared→Prop} (ht:IsTup s.heap t vs.toArray) (hb:IsTup s.heap b ws.toArray) (hv:vs≠ [])
 (h1:ws= []→Q (.ref t) s) (h2:ws≠ []→Q (.ref s.heap.objs.size) {s with heap:=s.heap.push {cls:= .type "tuple",data:= .seq (vs++ws).toArray}})
 (hsz:vs.length+ws.length≤sizeLine):wpAny (model prog w) A (binaryOp .Add (.ref t) (.ref b)) Q E s:=by
 obtain ⟨⟨cls,dd,data,sl⟩,ho,hc,n,hd⟩:=id ht
 obtain ⟨⟨cls2,dd2,data2,sl2⟩,ho2,hc2,n2,hd2⟩:=id hb
 simp only at hc hd hc2 hd2
 subst hc hd hc2 hd2
 have e:vs.toArray++ws.toArray=(vs++ws).toArray:=by simp
 by_cases hw:ws= []
 · exact concat_meets ⟨_,ho,rfl⟩ ⟨_,ho2,rfl⟩ noFill_tuple_add seq_tuple_add PySem.F.slot_tuple_add PySem.F.entry_tuple_add (PySem.F.args_tuple_add_2 _ _)
    (tuple_addW1 t b vs.toArray ws.toArray n n2 dd dd2 sl sl2 (by simpa using hv) (by simp [hw])) ⟨ho,ho2,h1 hw⟩
 · refine concat_meets ⟨_,ho,rfl⟩ ⟨_,ho2,rfl⟩ noFill_tuple_add seq_tuple_add PySem.F.slot_tuple_add PySem.F.entry_tuple_add (PySem.F.args_tuple_add_2 _ _)
    (tuple_addW2 t b vs.toArray ws.toArray n n2 dd dd2 sl sl2 (by simpa using hv) (by simpa using hw) (by rw [List.size_toArray,List.size_toArray];exact hsz)) ⟨ho,ho2,?_⟩
   rw [e]
   exact h2 hw
noncomputable def sIx (n d:Nat):Option Int→Nat
 |none=>d
 |some v=>if v < 0 then (v+(n:Int)).toNat else min v.toNat n
end
end HT
namespace L2
open PySem PySem.Spec PyProof.Rows
abbrev TO:=St→Hp→(Option Int→Hp→Prop)→Prop
def PO (X:Cx) (e:Option Expr) (t:TO):Prop:=
 ∀(pins:List (Addr×Obj)) (s:Shared) (σ:St) (H:Hp) (Q:Option Int→Hp→Prop),Inv X pins σ H s→t σ H Q→
  wpAny (model X.prog X.w) X.A (evalPart e X.env) (fun u s'=>∃o H',Inv X pins σ H' s'∧IsPart u o∧Q o H') X.xe s
def mr:TO:=fun _ H Q=>Q none H
def uq (t:TE):TO:=fun σ H Q=>t σ H fun x H1=>∃i,x= .int i∧Q (some i) H1
theorem lV {ns:List Int}:∀ {us:List Value},Vals (ns.map V.int) us→IntsAre us ns:=by
 induction ns with
 |nil=>intro us r;rw [List.map_nil] at r;cases r;exact .nil
 |cons n ns ih=>
  intro us r
  rw [List.map_cons] at r
  cases r with
  |cons r1 r2=>
   obtain ⟨t,e⟩:=r1
   subst e
   exact .cons n t (ih r2)
section
variable {X:Cx} {e:Expr} {te:TE} {lo hi:Option Expr} {tl th:TO} {pos p2:Pos}
theorem d6:PO X none mr:=by
 intro pins s σ H Q I h
 rw [evalPart_none]
 exact wpAny_pure ⟨none,H,I, .none,h⟩
theorem c4 (h:PE X e te):PO X (some e) (uq te):=by
 intro pins s σ H Q I hw
 rw [evalPart_some]
 refine thn (h pins s σ H _ I hw) fun u s1 ⟨x,H1,I1,r1,q1⟩=> ?_
 obtain ⟨i,rfl,q⟩:=q1
 obtain ⟨t,rfl⟩:=r1
 exact ⟨some i,H1,I1, .int i t,q⟩
def SlR (X:Cx) (r:V→Option Int→Option Int→Hp→VK→Prop):Prop:=
 ∀(pins:List (Addr×Obj)) (s:Shared) (σ:St) (H:Hp) (x:V) (v vl vu:Value) (lo hi:Option Int) (sl:Addr) (Q:VK),Inv X pins σ H s→RelV x v→s.heap.IsSliceOf sl vl vu .none→IsPart vl lo→IsPart vu hi→r x lo hi H Q→
  ∃T id,typeLookup (.type T) "__getitem__"=pure (some (.builtin id))∧s.TypeIs v T∧wpAny (model X.prog X.w) X.A (getItem v (.ref sl)) (EP X pins σ Q) X.xe s
def tSl (r:V→Option Int→Option Int→Hp→VK→Prop) (te:TE) (tl th:TO):TE:=fun σ H Q=>te σ H fun x H1=>tl σ H1 fun l H2=>th σ H2 fun u H3=>r x l u H3 Q
theorem c5 {r:V→Option Int→Option Int→Hp→VK→Prop} (hr:SlR X r) (he:PE X e te) (hl:PO X lo tl) (hu:PO X hi th):PE X (.Subscript e (.Slice lo hi none p2) pos) (tSl r te tl th):=by
 intro pins s σ H Q I h
 refine Subscript_ (thn (he pins s σ H _ I h) fun v s1 ⟨x,H1,I1,r1,q1⟩=> ?_)
 refine wpAny_Slice (thn (hl pins s1 σ H1 _ I1 q1) fun vl s2 ⟨l,H2,I2,pl,q2⟩=>thn (hu pins s2 σ H2 _ I2 q2) fun vu s3 ⟨u,H3,I3,pu,q3⟩=> ?_)
 rw [evalPart_none]
 refine wpAny_pure ?_
 have I4:Inv X pins σ H3 {s3 with heap:=s3.heap.push {cls:= .type "slice",data:= .fields #[vl,vu, .none]}}:=I3.kept (t':=s3.toks) fun b ob q=>Heap.get?_push_of_some _ q
 obtain ⟨T,id,hT,ht,hg⟩:=hr pins {s3 with heap:=s3.heap.push {cls:= .type "slice",data:= .fields #[vl,vu, .none]}} σ H3 x v vl vu l u s3.heap.objs.size Q I4 r1 (Heap.IsSliceOf.new ..) pl pu q3
 show wpAny (model X.prog X.w) X.A (subscriptTail e (.Slice lo hi none p2) v (.ref s3.heap.objs.size)) (EP X pins σ Q) X.xe {s3 with heap:=s3.heap.push {cls:= .type "slice",data:= .fields #[vl,vu, .none]}}
 exact tail_any (ops:= [.ref s3.heap.objs.size,v]) ht hT hg (by with_unfolding_all rfl)
noncomputable def cutV (xs:List V) (lo hi:Option Int):List V:=(xs.drop (HT.sIx xs.length 0 lo)).take (HT.sIx xs.length xs.length hi - HT.sIx xs.length 0 lo)
theorem kI (xs:List V) (lo hi:Option Int):(cutV xs lo hi).length≤xs.length:=by
 unfold cutV
 rw [List.length_take,List.length_drop]
 omega
def wZ (K:PySem.W.Frag):R2:=fun x y H Q=>∃a b xs ys,x= .ref a∧y= .ref b∧SqT K H a xs∧SqT K H b ys∧xs≠ []∧xs.length+ys.length≤sizeLine∧
 (ys= []→Q (.ref a) H)∧(ys≠ []→∀p,H p=none→Q (.ref p) (upd H p (.tup (xs++ys))))
theorem Vals.nil_iff {xs:List V} {us:List Value} (r:Vals xs us):us= []↔xs= []:=by
 cases r with
 |nil=>simp
 |cons _ _=>simp
theorem ni:OpR X (binaryOp .Add) (wZ X.K):=by
 intro pins s σ H x y v u Q I rx ry h
 obtain ⟨a,b,xs,ys,rfl,rfl,ha,hb,hx,hz,q1,q2⟩:=h
 cases rx
 cases ry
 obtain ⟨its,r1,p1,_⟩:=I.tuple ha
 obtain ⟨its2,r2,p2,_⟩:=I.tuple hb
 refine HT.cat_tup p1 p2 (fun z=>hx (r1.nil_iff.mp z)) (fun z=>⟨.ref a,H,I,rfl,q1 (r2.nil_iff.mp z)⟩) (fun z=> ?_) (by rw [←r1.length,←r2.length];exact hz)
 refine ⟨.ref s.heap.objs.size,_,I.laid (t':=s.toks) (o:= .tup (xs++ys)) (fun b ob q=>Heap.get?_push_of_some _ q) (Nat.le_refl _) ?_,rfl,q2 (fun w=>z (r2.nil_iff.mpr w)) _ (I.hok.fresh (Nat.le_refl _))⟩
 exact ⟨by rw [List.length_append];exact hz,_,r1.append r2,IsTup.new _ _⟩
end
open PySem PySem.Spec PyProof.Rows
noncomputable def ixN (n:Nat) (i:Int):Option Nat:=if 0≤i then (if i < n then some i.toNat else none) else if -(n:Int)≤i then some (i+n).toNat else none
noncomputable def atI {α:Type} (xs:List α) (i:Int):Option α:=(ixN xs.length i).bind fun j=>xs[j]?
theorem nH {n:Nat} {i:Int} {j:Nat} (h:ixN n i=some j):seqIndex? i n=some j∧j < n∧ -(n:Int)≤i∧i < n:=by
 unfold ixN at h
 by_cases h0:0≤i
 · rw [if_pos h0] at h
   by_cases h1:i < n
   · rw [if_pos h1] at h
     have e:i.toNat=j:=Option.some.inj h
     exact ⟨by rw [seqIndex_of h0 h1,e],by omega,by omega,h1⟩
   · rw [if_neg h1] at h;cases h
 · rw [if_neg h0] at h
   by_cases h1:-(n:Int)≤i
   · rw [if_pos h1] at h
     have e:(i+n).toNat=j:=Option.some.inj h
     exact ⟨by rw [seqIndex_neg (by omega) h1,e],by omega,h1,by omega⟩
   · rw [if_neg h1] at h;cases h
theorem jJ {α:Type} {xs:List α} {i:Int} {v:α} (h:atI xs i=some v):∃j,seqIndex? i xs.length=some j∧xs[j]?=some v∧j < xs.length∧ -(xs.length:Int)≤i∧i < xs.length:=by
 unfold atI at h
 cases e:ixN xs.length i with
 |none=>rw [e] at h;cases h
 |some j=>
  rw [e] at h
  obtain ⟨h1,h2,h3,h4⟩:=nH e
  exact ⟨j,h1,h,h2,h3,h4⟩
theorem bX {α:Type} {xs:List α} {j:Nat} {v:α} (h:xs[j]?=some v):atI xs (j:Int)=some v:=by
 have hj:j < xs.length:=(List.getElem?_eq_some_iff.mp h).1
 have e:ixN xs.length (j:Int)=some j:=by
  unfold ixN
  rw [if_pos (by omega),if_pos (by omega)];simp
 unfold atI;rw [e];exact h
def ui (b:Expr):Prop:=∀o i,subscripted b false o i=operate [o,i] (getItem o i)
def IxR (X:Cx) (r:R2):Prop:=
 ∀(value slice:Expr) (pins:List (Addr×Obj)) (s:Shared) (σ:St) (H:Hp) (x y:V) (v u:Value) (Q:VK),Inv X pins σ H s→RelV x v→RelV y u→r x y H Q→
  subscripted slice false v u=operate [v,u] (getItem v u)→wpAny (model X.prog X.w) X.A (subscriptTail value slice v u) (EP X pins σ Q) X.xe s
def MtR (X:Cx) (id:String) (r:V→List V→Hp→VK→Prop):Prop:=
 ∀(pins:List (Addr×Obj)) (s:Shared) (σ:St) (H:Hp) (x:V) (xs:List V) (v:Value) (us:List Value) (Q:VK),Inv X pins σ H s→RelV x v→Vals xs us→r x xs H Q→
  wpAny (model X.prog X.w) X.A (call (.builtin id) (v::us)) (EP X pins σ Q) X.xe s
section
variable {X:Cx} {a b:Expr} {ta tb:TE} {pos:Pos}
theorem aB {r:R2} (hr:IxR X r) (ha:PE X a ta) (hb:PE X b tb) (hs:ui b):PE X (.Subscript a b pos) (tOp r ta tb):=by
 intro pins s σ H Q I h
 exact Subscript_ (binT ha hb I h fun v u s2 x y H2 I2 rx ry q=>hr a b pins s2 σ H2 x y v u Q I2 rx ry q (hs _ _))
def rIxL (K:PySem.W.Frag):R2:=fun x y H Q=>∃p xs i v,x= .ref p∧y= .int i∧SqL K H p xs∧atI xs i=some v∧Q v H
def rIxT (K:PySem.W.Frag):R2:=fun x y H Q=>∃p xs i v,x= .ref p∧y= .int i∧SqT K H p xs∧atI xs i=some v∧Q v H
def rIxS:R2:=fun x y H Q=>∃z i c,x= .str z∧y= .int i∧z.length≤sizeLine∧atI z.cps.toList i=some c∧Q (.str ⟨#[c]⟩) H
theorem aG:IxR X (rIxL X.K):=by
 intro value slice pins s σ H x y v u Q I rx ry h hs
 obtain ⟨p,xs,i,z,rfl,rfl,hq,he,q⟩:=h
 cases rx
 obtain ⟨t,rfl⟩:=ry
 obtain ⟨its,r,pl,hz⟩:=I.list hq
 obtain ⟨j,h1,h2,h3,h4,h5⟩:=jJ he
 obtain ⟨w,ew,rw'⟩:=r.get h2
 have hl:=r.length
 have hn:=eC
 have fin:EP X pins σ Q w s:=⟨z,H,I,rw',q⟩
 by_cases h0:0≤i
 · have hj:i.toNat=j:=by
    rw [seqIndex_of h0 h5] at h1
    exact Option.some.inj h1
   exact item_listR pl.isList h0 (by omega) (by rw [hj];simpa using ew) fin hs
 · have hj:(i+(its.toArray.size:Int)).toNat=j:=by
    rw [seqIndex_neg (by omega) h4] at h1
    rw [List.size_toArray,←hl]
    exact Option.some.inj h1
   exact subscriptTail_builtinR (x:=w) pl.isList.typeIs slot_list_getitem.lookup
    (wpAny_getItem_list_neg (Q:=fun r s'=>r=w∧EP X pins σ Q r s') pl.isList (by omega) (by rw [List.size_toArray]<;>omega) (by omega) (by rw [hj];simpa using ew) ⟨rfl,fin⟩) hs
theorem aJ:IxR X (rIxT X.K):=by
 intro value slice pins s σ H x y v u Q I rx ry h hs
 obtain ⟨p,xs,i,z,rfl,rfl,hq,he,q⟩:=h
 cases rx
 obtain ⟨t,rfl⟩:=ry
 obtain ⟨its,r,pl,hz⟩:=I.tuple hq
 obtain ⟨j,h1,h2,h3,h4,h5⟩:=jJ he
 obtain ⟨w,ew,rw'⟩:=r.get h2
 have hl:=r.length
 have hn:=eC
 have fin:EP X pins σ Q w s:=⟨z,H,I,rw',q⟩
 exact subscriptTail_builtinR (x:=w) pl.typeIs slot_tuple_getitem.lookup
  (getItem_tuple (j:=j) (Q:=fun r s'=>r=w∧EP X pins σ Q r s') pl (by omega) (by omega) (by rw [List.size_toArray,←hl];exact h1) (by simpa using ew) ⟨rfl,fin⟩) hs
theorem rD:IxR X rIxS:=by
 intro value slice pins s σ H x y v u Q I rx ry h hs
 obtain ⟨z,i,c,rfl,rfl,hz,he,q⟩:=h
 obtain ⟨t,rfl⟩:=rx
 obtain ⟨t',rfl⟩:=ry
 obtain ⟨j,h1,h2,h3,h4,h5⟩:=jJ he
 have hl:z.cps.toList.length=z.length:=by simp [Str.length]
 rw [hl] at h1 h4 h5
 have hn:=eC
 exact tail_any (typeIs_str s z t) slot_str_getitem.lookup (getItem_str (c:=c) (by
  have e1:decide (i < -(2^63:Int))=false:=decide_eq_false (by omega)
  have e2:decide (i≥2^63)=false:=decide_eq_false (by omega)
  rw [e1,e2,Bool.or_false]) (by rw [h1];simpa using h2) ⟨.str ⟨#[c]⟩,H,I.tok _,⟨_,rfl⟩,q⟩) hs
theorem lN (its:List Value) (n j:Nat) (u:Value):Obj.mapSeq (·.setIfInBounds j u) {cls:= .type "list",data:= .seq its.toArray n} = {cls:= .type "list",data:= .seq (its.set j u).toArray n}:=by
 simp [Obj.mapSeq]
theorem Inv.lst {pins:List (Addr×Obj)} {σ:St} {H:Hp} {s:Shared} {p:Addr} {xs:List V} (I:Inv X pins σ H s) (h:H p=some (.lst xs)):
 ∃(its:List Value) (n:Nat),Vals xs its∧s.heap.get? p=some {cls:= .type "list",data:= .seq its.toArray n}∧xs.length≤sizeLine:=by
 obtain ⟨z,its,n,r,e⟩:=I.hok p _ h
 exact ⟨its,n,r,e,z⟩
theorem Inv.lstUpd {pins:List (Addr×Obj)} {σ:St} {H:Hp} {s:Shared} {p:Addr} {xs ys:List V} {its its':List Value} {n n':Nat} {f:Obj→Obj} (I:Inv X pins σ H s) (h:H p=some (.lst xs))
 (ho:s.heap.get? p=some {cls:= .type "list",data:= .seq its.toArray n}) (hf:f {cls:= .type "list",data:= .seq its.toArray n} = {cls:= .type "list",data:= .seq its'.toArray n'}) (r:Vals ys its') (hz:ys.length≤sizeLine) (t:Nat):
 Inv X pins σ (upd H p (.lst ys)) {s with heap:=s.heap.update p f,toks:=t}:=by
 have e:(s.heap.update p f).get? p=some {cls:= .type "list",data:= .seq its'.toArray n'}:=by
  rw [Heap.get?_update_self f ho (by rw [hf]<;>rfl),hf]
 refine I.write (x:=p) (e:=p) (by rw [h];trivial) (.inl rfl) (fun b u hb q=>(Heap.get?_update_other _ _ (Ne.symm hb)).trans q) ⟨_,e⟩ ?_
 exact ⟨hz,its',n',r,e⟩
def wW:V→V→V→Hp→(Hp→Prop)→Prop:=fun o i v H Q=>∃p xs k j,o= .ref p∧i= .int k∧H p=some (.lst xs)∧ixN xs.length k=some j∧Q (upd H p (.lst (xs.set j v)))
theorem gU:PSet X wW:=by
 intro pins s σ H o i v ov iv u Q I ro ri rv h
 obtain ⟨p,xs,k,j,rfl,rfl,hp,hj,q⟩:=h
 cases ro
 obtain ⟨t,rfl⟩:=ri
 obtain ⟨its,n,r,ho,hz⟩:=I.lst hp
 obtain ⟨h1,h2,h3,h4⟩:=nH hj
 have hl:=r.length
 have hn:=eC
 have I':Inv X pins σ (upd H p (.lst (xs.set j v))) {s with heap:=s.heap.update p (Obj.mapSeq (·.setIfInBounds j u))}:=
  I.lstUpd hp ho (lN its n j u) (r.set rv j) (by rw [List.length_set];exact hz) s.toks
 by_cases h0:0≤k
 · have hk:k.toNat=j:=by
    rw [seqIndex_of h0 h4] at h1
    exact Option.some.inj h1
   exact PySem.W.ki_setAt ho h0 (by omega) (by rw [List.size_toArray,←hl];exact h4) (by rw [hk];exact ⟨_,I',q⟩)
 · have hk:(k+(its.toArray.size:Int)).toNat=j:=by
    rw [seqIndex_neg (by omega) h3] at h1
    rw [List.size_toArray,←hl]
    exact Option.some.inj h1
   exact PySem.W.ki_setBack ho (by omega) (by rw [List.size_toArray,←hl];exact h3) (by omega) (by rw [hk];exact ⟨_,I',q⟩)
theorem jj (lo hi:Option Int) (n:Nat):(sliceBounds lo hi none n).1=((HT.sIx n 0 lo:Nat):Int)∧(sliceBounds lo hi none n).2.1=((HT.sIx n n hi:Nat):Int)∧(sliceBounds lo hi none n).2.2=1:=by
 refine ⟨?_,?_,rfl⟩
 · cases lo with
   |none=>simp [sliceBounds,HT.sIx]
   |some i=>
    simp only [sliceBounds,HT.sIx,Option.getD_none,show (1:Int) > 0 by decide,if_true]
    by_cases h:i < 0
    · simp only [h,if_true]<;>omega
    · simp only [h,if_false]<;>omega
 · cases hi with
   |none=>simp [sliceBounds,HT.sIx]
   |some i=>
    simp only [sliceBounds,HT.sIx,Option.getD_none,show (1:Int) > 0 by decide,if_true]
    by_cases h:i < 0
    · simp only [h,if_true]<;>omega
    · simp only [h,if_false]<;>omega
theorem ip (its:List Value) (lo hi:Option Int):slicePick its.toArray lo hi none=((its.drop (HT.sIx its.length 0 lo)).take (HT.sIx its.length its.length hi - HT.sIx its.length 0 lo)).toArray:=by
 obtain ⟨h1,h2,h3⟩:=jj lo hi its.toArray.size
 unfold slicePick
 rw [h1,h2,h3]
 simp only [sliceRange_one,pick_run,List.size_toArray]<;>rfl
def rSlL (K:PySem.W.Frag):V→Option Int→Option Int→Hp→VK→Prop:=fun x lo hi H Q=>∃a xs,x= .ref a∧SqL K H a xs∧∀p,H p=none→Q (.ref p) (upd H p (.lst (cutV xs lo hi)))
theorem jk:SlR X (rSlL X.K):=by
 intro pins s σ H x v vl vu lo hi sl Q I rx hs pl pu h
 obtain ⟨a,xs,rfl,hx,q⟩:=h
 cases rx
 obtain ⟨its,r,ht,hz⟩:=I.list hx
 have hlen:=r.length
 refine ⟨"list",_,slot_list_getitem.lookup,ht.isList.typeIs,?_⟩
 refine wpAny_getItem_list_slice ht.isList hs pl pu .none (by simp) ?_ (by rw [List.size_toArray]<;>omega)
 rw [ip,←hlen]
 refine ⟨.ref s.heap.objs.size,_,I.laid (t':=s.toks) (o:= .lst (cutV xs lo hi)) (fun b ob q=>Heap.get?_push_of_some _ q) (Nat.le_refl _) ?_,rfl,q _ (I.hok.fresh (Nat.le_refl _))⟩
 exact ⟨Nat.le_trans (kI xs lo hi) hz,_,0,(r.drop (HT.sIx xs.length 0 lo)).take (HT.sIx xs.length xs.length hi - HT.sIx xs.length 0 lo),Heap.get?_push_size _ rfl⟩
theorem aX:cG X (.builtin "len") (fun xs H Q=>∃p ys,xs= [.ref p]∧(SqL X.K H p ys∨SqT X.K H p ys)∧Q (.int ys.length) H):=by
 intro pins s σ H xs us Q I r h
 obtain ⟨p,ys,rfl,hq,q⟩:=h
 obtain ⟨u,rfl,rx⟩:=e7 r
 cases rx
 have hn:=eC
 rcases hq with hq|hq
 · obtain ⟨its,r',pl,hz⟩:=I.list hq
   have hlen:=r'.length
   exact Calls.call_len_list pl.isList (by simp only [List.size_toArray]<;>omega) ⟨.int ys.length,H,I.tok _,⟨s.toks+1,by rw [List.size_toArray,hlen]⟩,q⟩
 · obtain ⟨its,r',pl,hz⟩:=I.tuple hq
   have hlen:=r'.length
   exact len_tuple pl (by simp only [List.size_toArray]<;>omega) ⟨.int ys.length,H,I.tok _,⟨s.toks+1,by rw [List.size_toArray,hlen]⟩,q⟩
theorem c7:cG X (.builtin "len") (fun xs H Q=>∃z,xs= [.str z]∧z.length≤sizeLine∧Q (.int z.length) H):=by
 intro pins s σ H xs us Q I r h
 obtain ⟨z,rfl,hz,q⟩:=h
 obtain ⟨u,rfl,t,rfl⟩:=e7 r
 have hn:=eC
 exact len_str (by omega) ⟨.int z.length,H,I.tok _,⟨_,rfl⟩,q⟩
theorem jG:cG X (.type "list") (fun xs H Q=>∃p ys,xs= [.ref p]∧(SqL X.K H p ys∨SqT X.K H p ys)∧∀l,H l=none→Q (.ref l) (upd H l (.lst ys))):=by
 intro pins s σ H xs us Q I r h
 obtain ⟨p,ys,rfl,hq,q⟩:=h
 obtain ⟨u,rfl,rx⟩:=e7 r
 cases rx
 have fin:∀(its:List Value),Vals ys its→ys.length≤sizeLine→∀(h':Heap) (c':Nat),(∀b o',s.heap.get? b=some o'→h'.get? b=some o')→
  h'.get? s.heap.objs.size=some {cls:= .type "list",dict:=none,data:= .seq its.toArray c',slots:= #[]}→EP X pins σ Q (.ref s.heap.objs.size) {s with heap:=h'}:=fun its r' hz h' c' kp e=>
  ⟨.ref s.heap.objs.size,_,I.laid (t':=s.toks) kp (Nat.le_refl _) (show ObjOk X.prog X.w _ h' _ (.lst ys) from ⟨hz,its,c',r',e⟩),rfl,q _ (I.hok.fresh (Nat.le_refl _))⟩
 rcases hq with hq|hq
 · obtain ⟨its,r',pl,hz⟩:=I.list hq
   have hlen:=r'.length
   obtain ⟨o,ho,hc,n,hd⟩:=pl.isList
   exact call_list_seq p (.inl rfl) ho hc hd (fun h' c' kp e=>fin its r' hz h' c' kp e) (by simp only [List.size_toArray]<;>omega)
 · obtain ⟨its,r',pl,hz⟩:=I.tuple hq
   have hlen:=r'.length
   obtain ⟨o,ho,hc,n,hd⟩:=pl
   exact call_list_seq p (.inr rfl) ho hc hd (fun h' c' kp e=>fin its r' hz h' c' kp e) (by simp only [List.size_toArray]<;>omega)
theorem ba:cG X (.type "tuple") (fun xs H Q=>∃p ys,xs= [.ref p]∧((SqL X.K H p ys∧∀l,H l=none→Q (.ref l) (upd H l (.tup ys)))∨(SqT X.K H p ys∧Q (.ref p) H))):=by
 intro pins s σ H xs us Q I r h
 obtain ⟨p,ys,rfl,h⟩:=h
 obtain ⟨u,rfl,rx⟩:=e7 r
 cases rx
 rcases h with ⟨hq,q⟩|⟨hq,q⟩
 · obtain ⟨its,r',pl,hz⟩:=I.list hq
   have hlen:=r'.length
   refine call_tuple_list pl.isList (fun h' kp=> ?_) (by simp only [List.size_toArray]<;>omega)
   have I1:Inv X pins σ H {s with heap:=h'}:=I.kept (t':=s.toks) kp
   have I2:Inv X pins σ (upd H h'.objs.size (.tup ys)) {s with heap:=h'.push {cls:= .type "tuple",data:= .seq its.toArray}}:=
    I1.laid (t':=s.toks) (fun b o e=>Heap.get?_push_of_some _ e) (Nat.le_refl _) (show ObjOk X.prog X.w _ _ _ (.tup ys) from ⟨hz,its,r',IsTup.new _ _⟩)
   exact ⟨.ref h'.objs.size,_,I2,rfl,q _ (I1.hok.fresh (Nat.le_refl _))⟩
 · obtain ⟨its,r',pl,hz⟩:=I.tuple hq
   exact call_tuple_same pl ⟨.ref p,H,I,rfl,q⟩
def tyV (K:PySem.W.Frag) (T:String) (x:V) (H:Hp):Prop:=match x with
 | .str _=>T= "str"
 | .int _=>T= "int"
 | .ref p=>(T= "list"∧∃xs,SqL K H p xs)∨(T= "tuple"∧∃o,K.lookup p=some o∧o.cls= .type "tuple"∧o.dict=none)∨
  (T= "dict"∧((∃kvs,H p=some (.dK kvs))∨∃kvs,H p=some (.dT kvs)))∨(T= "set"∧∃S n,H p=some (.set S n))
 |_=>False
theorem oT {pins:List (Addr×Obj)} {σ:St} {H:Hp} {s:Shared} {T:String} {x:V} {v:Value} (I:Inv X pins σ H s) (r:RelV x v) (ty:tyV X.K T x H):
 s.TypeIs v T∧∀a,v= .ref a→∃ob,s.heap.get? a=some ob∧ob.dict=none:=by
 cases x with
 |str z=>
  obtain ⟨t,rfl⟩:=r
  cases (show T= "str" from ty)
  exact ⟨typeIs_str s z t,fun _ e=>nomatch e⟩
 |int i=>
  obtain ⟨t,rfl⟩:=r
  cases (show T= "int" from ty)
  exact ⟨typeIs_int s i t,fun _ e=>nomatch e⟩
 |ref p=>
  cases r
  rcases ty with ⟨rfl,xs,hq⟩|⟨rfl,o,hk,hc,hd⟩|⟨rfl,hk⟩|⟨rfl,S,n,hk⟩
  · obtain ⟨its,_,pl,_⟩:=I.list hq
    refine ⟨pl.isList.typeIs,fun a e=> ?_⟩
    cases e
    obtain ⟨o,n,e,c,hd,_⟩:=pl
    exact ⟨o,e,hd⟩
  · refine ⟨⟨o,I.kIn p o hk,hc⟩,fun a e=> ?_⟩
    cases e
    exact ⟨o,I.kIn _ o hk,hd⟩
  · have z:∃o,s.heap.get? p=some o∧o.ExactDict:=by
     rcases hk with ⟨kvs,hk⟩|⟨kvs,hk⟩
     · obtain ⟨_,_,_,_,o,_,_,e,ex,_⟩:=I.hok p _ hk
       exact ⟨o,e,ex⟩
     · obtain ⟨_,_,_,_,o,_,_,e,ex,_⟩:=I.hok p _ hk
       exact ⟨o,e,ex⟩
    obtain ⟨o,e,ex⟩:=z
    refine ⟨⟨o,e,ex.1⟩,fun a e2=> ?_⟩
    cases e2
    exact ⟨o,e,ex.2.1⟩
  · obtain ⟨o,_,_,_,e,ex,_⟩:=I.hok p _ hk
    refine ⟨⟨o,e,ex.1⟩,fun a e2=> ?_⟩
    cases e2
    exact ⟨o,e,ex.2.1⟩
 |_=>exact False.elim ty
def tBM0 (K:PySem.W.Frag) (T:String) (r:V→List V→Hp→VK→Prop) (to:TE):TE:=fun σ H Q=>to σ H fun x H1=>tyV K T x H1∧r x [] H1 Q
def tBM (K:PySem.W.Frag) (T:String) (r:V→List V→Hp→VK→Prop) (to:TE) (t:TA):TE:=fun σ H Q=>to σ H fun x H1=>tyV K T x H1∧t σ H1 fun xs H2=>r x xs H2 Q
variable {o e:Expr} {es:List Expr} {to:TE} {t:TA} {name:Str} {apos cpos:Pos} {T id:String} {r:V→List V→Hp→VK→Prop}
theorem fH (pa:PlainAttrs T) (slot:Slot T name id) (hty:typeOf (.builtin id)=pure (.type "method_descriptor")) (hm:MtR X id r) (ho:PE X o to)
 (hbase:attributeBase o name X.env (eval o X.env)=eval o X.env:=by rfl) (hline:(apos.endLine==cpos.line)=true:=by rfl):PE X (.Call (.Attribute o name apos) [] [] cpos) (tBM0 X.K T r to):=by
 intro pins s σ H Q I h
 refine wpAny_Call_method0_late hbase hline (thn (ho pins s σ H _ I h) fun v s1 ⟨x,H1,I1,r1,ty,q1⟩=> ?_)
 obtain ⟨h1,h2⟩:=oT I1 r1 ty
 exact ⟨T,id,pa,slot,hty,h1,h2,Calls.callWith_builtin rfl (PySem.evalArgs_none (hm pins s1 σ H1 x [] v [] Q I1 r1 .nil q1))⟩
theorem bZ (pa:PlainAttrs T) (slot:Slot T name id) (hty:typeOf (.builtin id)=pure (.type "method_descriptor")) (hm:MtR X id r) (ho:PE X o to) (ha:PA X (e::es) t)
 (hbase:attributeBase o name X.env (eval o X.env)=eval o X.env:=by rfl)
 (hfew:((backTo cpos (starEach (e::es) X.env)).all (fun x=> !x.1)&& (backToKw cpos (keywordEach [] X.env)).all (fun x=>x.1.isSome)
  &&decide ((e::es).length+([]:List Keyword).length+(if ([]:List Keyword).isEmpty then 0 else 1) < 30))=true:=by rfl)
 (hline:(apos.endLine==cpos.line)=true:=by rfl) (hs:starEach (e::es) X.env=(false,eval e X.env)::starEach es X.env:=by rfl) (hplain:(backTo cpos (starEach es X.env)).any (·.1)=false:=by rfl):
 PE X (.Call (.Attribute o name apos) (e::es) [] cpos) (tBM X.K T r to t):=by
 intro pins s σ H Q I h
 refine wpAny_Call_method_late hbase hfew hline rfl (thn (ho pins s σ H _ I h) fun v s1 ⟨x,H1,I1,r1,ty,q1⟩=> ?_)
 obtain ⟨h1,h2⟩:=oT I1 r1 ty
 refine ⟨T,id,pa,slot,hty,h1,h2,?_⟩
 have hA:=ha cpos pins s1 σ H1 _ I1 q1
 rw [hs] at hA ⊢
 refine Calls.callWith_builtin (by show (false ||(backTo cpos (starEach es X.env)).any (·.1))=false;rw [hplain]<;>rfl) (Calls.evalArgs_plain ?_)
 exact thn hA fun us s2 ⟨vs,H2,I2,r2,q2⟩=>hm pins s2 σ H2 x vs v us Q I2 r1 r2 q2
end
open PySem PySem.Spec PyProof.Rows
def MtM (X:Cx) (id:String) (r:V→List V→Hp→VK→Prop):Prop:=
 ∀(pins:List (Addr×Obj)) (s:Shared) (σ:St) (H:Hp) (x:V) (xs:List V) (v:Value) (us:List Value) (Q:VK),Inv X pins σ H s→RelV x v→Vals xs us→r x xs H Q→
  wpAny (model X.prog X.w) X.A (call (.builtin id) (v::us)) (EP X pins σ Q) X.xe s
theorem Vals.one:∀ {x:V} {us:List Value},Vals [x] us→∃u,us= [u]∧RelV x u
 |_,_, .cons r .nil=>⟨_,rfl,r⟩
theorem Vals.two {x y:V} {us:List Value} (h:Vals [x,y] us):∃u v,us= [u,v]∧RelV x u∧RelV y v:=by
 cases h with
 |cons r t=>cases t with
  |cons q t'=>cases t';exact ⟨_,_,rfl,r,q⟩
theorem Vals.zero:∀ {us:List Value},Vals [] us→us= []
 |_, .nil=>rfl
theorem Vals.dropLast {xs:List V} {us:List Value} (h:Vals xs us):Vals xs.dropLast us.dropLast:=by
 induction h with
 |nil=>exact .nil
 |cons r t ih=>
  cases t with
  |nil=>exact .nil
  |cons q t'=>exact .cons r ih
theorem Vals.eraseIdx:∀ {xs:List V} {us:List Value} (i:Nat),Vals xs us→Vals (xs.eraseIdx i) (us.eraseIdx i)
 |_,_,_, .nil=> .nil
 |_,_,0, .cons _ t=>t
 |_,_,i+1, .cons r t=> .cons r (Vals.eraseIdx i t)
theorem Vals.reverse {xs:List V} {us:List Value} (h:Vals xs us):Vals xs.reverse us.reverse:=by
 induction h with
 |nil=>exact .nil
 |cons r t ih=>rw [List.reverse_cons,List.reverse_cons];exact Vals.append ih (.cons r .nil)
theorem m6 {α:Type} (l:List α):l.eraseIdx (l.length - 1)=l.dropLast:=by
 induction l with
 |nil=>rfl
 |cons a r ih=>
  cases r with
  |nil=>rfl
  |cons b r=>
   have e:(a::b::r).length - 1=((b::r).length - 1)+1:=by
    have h1:(a::b::r).length=r.length+2:=rfl
    have h2:(b::r).length=r.length+1:=rfl
    omega
   rw [e,List.eraseIdx_cons_succ,ih]
   all_goals rfl
section
variable {X:Cx} {pins:List (Addr×Obj)} {σ:St} {H:Hp} {s:Shared} {l b:Addr} {xs ys zs:List V}
theorem Inv.lset {its its':List Value} {n:Nat} {f:Array Value→Array Value} {t':Nat} (I:Inv X pins σ H s) (hH:H l=some (.lst xs))
 (e:s.heap.get? l=some {cls:= .type "list",data:= .seq its.toArray n}) (hf:f its.toArray=its'.toArray) (hv:Vals ys its') (hz:ys.length≤sizeLine):
 Inv X pins σ (upd H l (.lst ys)) {s with heap:=s.heap.update l (Obj.mapSeq f),toks:=t'}:=by
 have q:=PySem.IsL.update e f
 rw [hf] at q
 refine I.write (x:=l) (e:=l) (by rw [hH];exact trivial) (.inl rfl) (fun b' u hb hu=>(Heap.get?_update_other s.heap (Obj.mapSeq f) (Ne.symm hb)).trans hu) ⟨_,q⟩ ?_
 exact ⟨hz,its',_,hv,q⟩
theorem Inv.lstM (I:Inv X pins σ H s) (hH:H l=some (.lst xs)):xs.length≤sizeLine∧∃(its:List Value) (n:Nat),Vals xs its∧xs.length=its.length∧s.heap.get? l=some {cls:= .type "list",data:= .seq its.toArray n}:=by
 obtain ⟨z,its,n,r,e⟩:=I.hok l _ hH
 exact ⟨z,its,n,r,r.length,e⟩
end
section
variable {X:Cx}
def sU:V→List V→Hp→VK→Prop:=fun x vs H Q=>∃l xs y,x= .ref l∧vs= [y]∧H l=some (.lst xs)∧xs.length < sizeLine∧Q .non (upd H l (.lst (xs++ [y])))
theorem bf:MtM X "list.append" sU:=by
 intro pins s σ H x vs v us Q I rx rv h
 obtain ⟨l,xs,y,rfl,rfl,hH,hz,q⟩:=h
 cases rx
 obtain ⟨u,rfl,ru⟩:=rv.one
 obtain ⟨z,its,n,r,hl,e⟩:=I.lstM hH
 refine call_meets F.slot_list_append ⟨_,e,rfl⟩ F.entry_list_append (F.args_list_append_2 _ _) (PySem.list_append l its.toArray n u (by rw [List.size_toArray];omega)) ⟨e,?_⟩
 refine ⟨.non,_,I.lset (its':=its++ [u]) hH e (by simp) (r.append (.cons ru .nil)) ?_,rfl,q⟩
 rw [List.length_append,List.length_singleton]
 omega
def rPop:V→List V→Hp→VK→Prop:=fun x vs H Q=>∃l xs y,x= .ref l∧vs= []∧H l=some (.lst xs)∧xs[xs.length - 1]?=some y∧Q y (upd H l (.lst xs.dropLast))
theorem vF:MtM X "list.pop" rPop:=by
 intro pins s σ H x vs v us Q I rx rv h
 obtain ⟨l,xs,y,rfl,rfl,hH,hy,q⟩:=h
 cases rx
 have hus:=rv.zero
 subst hus
 obtain ⟨z,its,n,r,hl,e⟩:=I.lstM hH
 obtain ⟨u,hu,ru⟩:=r.get hy
 have hy':its.toArray[its.toArray.size - 1]?=some u:=by
  show its.toArray[its.length - 1]?=some u
  rw [←Array.getElem?_toList,←hl]
  exact hu
 refine call_meets F.slot_list_pop ⟨_,e,rfl⟩ F.entry_list_pop (F.args_list_pop_1 _) (MeetsSeq.list_pop_last l its.toArray n u hy' (by rw [List.size_toArray];omega)) ⟨e,?_⟩
 refine ⟨y,_,I.lset (its':=its.dropLast) hH e ?_ r.dropLast ?_,ru,q⟩
 · show its.toArray.eraseIdxIfInBounds (its.toArray.size - 1)=its.dropLast.toArray
   rw [List.size_toArray,List.eraseIdxIfInBounds_toArray,m6]
 · rw [List.length_dropLast]
   omega
end
section
variable {prog:Program} {w:World} {A:Around} {E:Value→Shared→Prop} {s:Shared}
end
section
variable {X:Cx}
end
end L2
namespace Att
open PySem PySem.W PySem.Calls PyProof.Rows
theorem gb {P:Params} {h:Heap}:∀(ns:List Int) (vs:List Value),WellAll P h vs (ns.map WData.int)→IntsAre vs ns:=by
 intro ns
 induction ns with
 |nil=>
  intro vs w
  rw [List.map_nil] at w
  cases w
  exact .nil
 |cons n ns ih=>
  intro vs w
  rw [List.map_cons] at w
  cases w with
  |cons a b=>
   cases a
   exact .cons _ _ (ih _ b)
theorem ol {l:OpenLaw} {n:Nat} (hn:l.most=some n) {P:Params} {h:Heap} {args:List WData} {vals:List Value}
 (hpre:l.row.toRowW.claim.pre args=true) (hwl:WellAll P h vals args):
 ∃a vs ns,vals= [Value.ref a]∧args= [WData.list (ns.map WData.int)]∧h.get? a=some {cls:= .type "list",data:= .seq vs.toArray}∧IntsAre vs ns∧ns.length≤n:=by
 have hsh:WShape.hasAll [] args [.list .int]=true:=(pre_splitW hpre).1
 have hc:l.pre.holds [] {args:=args} =true:=(pre_splitW hpre).2
 obtain ⟨d,r,rfl,h1,h2⟩:=hasAllW_cons hsh
 obtain rfl:=hasAllW_nil h2
 obtain ⟨xs,rfl,h3⟩:=hasW_list h1
 obtain ⟨ns,rfl⟩:=items_int h3
 have hlen:ns.length≤n:=by
  unfold OpenLaw.pre at hc
  have h4:(WTm.not (.lt (.lit (.int (n:Int))) (.len (.arg 0)))).holds [] {args:= [.list (ns.map .int)]} =true:=by
   have h4:=(holds_andW hc).1
   rw [hn] at h4
   exact h4
  have h5:=condW_of h4 (w_not (w_lt w_lit (w_len_list (w_arg rfl))))
  rw [List.length_map] at h5
  refine Nat.le_of_not_lt fun q=> ?_
  have q':(n:Int) < ((ns.length:Nat):Int):=by omega
  first
   |(rw [decide_eq_true q'] at h5;exact absurd h5 (by decide))
   |(simp at h5;omega)
 cases hwl with
 |cons w1 w2=>
  cases w2
  cases w1 with
  |list ho hall=>exact ⟨_,_,ns,rfl,rfl,ho,gb ns _ hall,hlen⟩
theorem oo (l:OpenLaw) (args:List WData):l.row.toRowW.claim.post args (.bool true) args=true:=
 postW_of (r:=l.row.toRowW) (X:=(true==true))
  (show WShape.has [] (.bool true) .bool=true by first|rfl|decide|simp [WShape.has,WShape.arms,WShape.armsAll])
  (show (WTm.eq .res (.lit (.bool true))).value [] {args:=args,res:=some (.bool true),after:=args} =some (.bool (true==true)) from w_eq_bool (w_res rfl) w_lit) rfl
theorem attach_call {l:OpenLaw} {n:Nat} {q:Program} {loose:List Str} {XP:(Str→Option Value)→Heap→Prop} {YP:World→Heap→Prop} {d:DefRec}
 (hn:l.most=some n) (hdf:d.params.defaults= [])
 (call:∀(w:World) (s₀ s₁:Shared) (mg mb:Str→Option Value) (fa:Addr) (o:Obj) (pm cd doc:Value) (a:Addr) (vs:List Value) (ns:List Int),
  Ground q loose [] XP w s₀ mg mb s₁.heap→YP w s₁.heap→
  s₁.heap.get? fa=some o→o.data= .func (docDef d.name d.params d.body d.scope pm cd doc)→s₁.heap.CodeRec cd d.name→mg d.name=some (.ref fa)→
  s₁.heap.get? a=some {cls:= .type "list",data:= .seq vs.toArray}→IntsAre vs ns→ns.length≤n→s₁.gens= #[]→
  codeAny (model l.prog w) callerA (.call (.ref fa) ⟨[.ref a],[]⟩) (fun r s'=>r= .ok (.ret (.bool true))∧OldK s₁.heap s'.heap∧s'.os=s₁.os∧AllBare s'.gens) s₁):
 WalkO q loose XP YP l.row.toRowW d [] (fun f vs=>PySem.call f vs):=by
 intro w s₀ s₁ mg mb G Y fa o pm cd doc dV kV ho hd hcd hD hmg hg args vals as hpre hlay hrd hwl hlo
 obtain rfl:dV= .none:=Dflts.none hD hdf
 obtain rfl:kV= .none:=Dflts.noKw hD
 obtain ⟨a,vs,ns,rfl,rfl,hobj,hints,hlen⟩:=ol hn hpre hwl
 refine enter_call (codeAny_mono (call w s₀ s₁ mg mb fa o pm cd doc a vs ns G Y ho (fd_plain hd) hcd hmg hobj hints hlen hg) fun r s' hq=> ?_)
 obtain ⟨rfl,h2,h3,h4⟩:=hq
 exact ⟨.inl ⟨.bool true, .bool true,[],rfl,fun _=>rfl, .bool true,oo l _,fun _=>⟨List.Pairwise.nil,fun _ hm=>(nomatch hm)⟩⟩,h2,h3,h4⟩
section
variable {prog:Program} {w:World} {A:Around} {E:Value→Shared→Prop} {s:Shared} {K:Frag}
end
end Att
namespace L2
open PySem PySem.Spec PyProof.Rows
theorem ir:∀ {vs:List Value} {ns:List Int},IntsAre vs ns→Vals (ns.map V.int) vs
 |_,_, .nil=> .nil
 |_,_, .cons n t h=> .cons ⟨t,rfl⟩ (ir h)
def Only (H:Hp):Prop:=∀b,H b=none∨∃o xs,H b=some (.frz o (.lst xs))
theorem rn {P:Program} {w:World} {K:PySem.W.Frag} {mg mb:Str→Option Value} {CX:CXT} {k:Nat} {fa a:Addr} {fd:FuncData} {x:Str} {sp:Sp} {s₁:Shared} {vs:List Value} {ns:List Int}
 (KX:K.In s₁.heap) (hns:s₁.heap.Ns mainGlobals mg) (hb:s₁.heap.Ns builtinsNs mb) (hbb:∀x:Str,x≠"__name__"→mb x=bootBuiltins x) (hlim:s₁.heap.NoLimit) (hg:s₁.gens= #[])
 (ha:s₁.heap.get? a=some {cls:= .type "list",data:= .seq vs.toArray}) (hi:IntsAre vs ns) (hl:ns.length≤sizeLine) (hr:Room k callerA)
 (F:∀base:Heap,K.In base→base.Ns mainGlobals mg→FnOk P w K mg base CX k fa fd [x] sp) (hbind:∀(s:Shared) (u:Value),BindsTo s fd ⟨[u],[]⟩ [(x,u)])
 (hsp:∀H:Hp,Only H→SqL K H a (ns.map V.int)→sp [.ref a] H (fun v _=>v= .bl true) fun _ _ _=>False)
 (hCX:∀H e s',CX [] H s₁ (fun _ _ _=>False) e s'→False):
 codeAny (model P w) callerA (.call (.ref fa) ⟨[.ref a],[]⟩) (fun r s'=>r= .ok (.ret (.bool true))∧OldK s₁.heap s'.heap∧s'.os=s₁.os∧AllBare s'.gens) s₁:=by
 have rv:=ir hi
 have lenV:=hi.length
 have core:∀H:Hp,Only H→SqL K H a (ns.map V.int)→HOk P w H s₁.heap→(∀b,H b≠none→b=a)→(H a≠none→K.lookup a=none)→
  codeAny (model P w) callerA (.call (.ref fa) ⟨[.ref a],[]⟩) (fun r s'=>r= .ok (.ret (.bool true))∧OldK s₁.heap s'.heap∧s'.os=s₁.os∧AllBare s'.gens) s₁:=by
  intro H hO hS hok hA hK
  have base_of:∀ {b:Addr} {o:Obj},s₁.heap.get? b=some o→H b=none→(hidT s₁.heap H).get? b=some o:=fun e n=>rJ e n
  have noA:∀ {b:Addr} {o:Obj} {es:Array DictEntry} {ep:Nat},s₁.heap.get? b=some o→o.data= .dict es ep→H b=none:=fun {b o es ep} e d=>by
   cases q:H b with
   |none=>rfl
   |some u=>
    have e':b=a:=hA b (by rw [q];simp)
    subst e'
    rw [ha] at e;cases e
    have d':Data.seq vs.toArray _=Data.dict es ep:=d
    cases d'
  have nsK:∀ {b:Addr} {m:Str→Option Value},s₁.heap.Ns b m→(hidT s₁.heap H).Ns b m:=fun {b m} ⟨o,es,ep,e,d,r⟩=>⟨o,es,ep,base_of e (noA e d),d,r⟩
  have hKb:K.In (hidT s₁.heap H):=fun b o e=>base_of (KX b o e) (by
   cases q:H b with
   |none=>rfl
   |some u=>
    have e':b=a:=hA b (by rw [q];simp)
    subst e'
    rw [hK (by rw [q];simp)] at e;cases e)
  have hM:Mod K mg (hidT s₁.heap H):=⟨hKb,nsK hns,⟨mb,nsK hb,hbb⟩,let ⟨mc,h1,h2⟩:=hlim;⟨mc,nsK h1,h2⟩⟩
  have e0:Env0 P w K mg (hidT s₁.heap H) callerA [] s₁ H:=⟨rfl,hM,fun b o e=>⟨(nj e).1, .inl (nj e).2⟩,Nat.le_of_eq (oG _ _),trivial,fun b hb=>absurd (show b∈([]:List Addr) from hb) (by simp),hok, .of_eq hg⟩
  refine codeAny_mono ((F _ hKb (nsK hns)).run callerA [] s₁ H ⟨[.ref a],[]⟩ [.ref a] [.ref a] _ _ hr e0 (hbind s₁ (.ref a)) (.cons rfl .nil) (hsp H hO hS)) fun r s' h=> ?_
  cases r with
  |error e=>exact (hCX H e s' h).elim
  |ok fl=>
   cases fl with
   |next=>exact False.elim h
   |brk=>exact False.elim h
   |cont=>exact False.elim h
   |ret u=>
    obtain ⟨v,H',os,bare,un,hok',r',q⟩:=h
    have q':v= .bl true:=q
    subst q'
    obtain rfl:u=Value.bool true:=r'
    refine ⟨rfl,OldK.of_keep fun b o e=> ?_,os,bare⟩
    cases q:H b with
    |none=>exact un.keep b o e (.inl q) (by intro z;exact absurd (show b∈([]:List Addr) from z) (by simp)) (by simp)
    |some u=>
     rcases hO b with z|⟨ob,xs,z⟩
     · rw [q] at z;cases z
     · have z2:=un.frzs b ob _ z
       obtain ⟨e1,_⟩:=hok b _ z
       obtain ⟨e2,_⟩:=hok' b _ z2
       rw [e] at e1;cases e1
       exact e2
 cases hk:K.lookup a with
 |some o=>
  have e:=KX a o hk
  rw [ha] at e
  cases e
  refine core (fun _=>none) (fun _=> .inl rfl) (.inr ⟨_,vs.toArray,_,hk,rfl,rfl,rfl,by rw [List.size_toArray,lenV];exact hl,by simpa using rv⟩) (fun b u z=>by have z':(none:Option HO)=some u:=z;cases z') (fun b z=>absurd rfl z) fun z=>absurd rfl z
 |none=>
  refine core (fun b=>if b=a then some (.frz {cls:= .type "list",data:= .seq vs.toArray} (.lst (ns.map V.int))) else none) (fun b=> ?_) (.inl (.inr ⟨{cls:= .type "list",data:= .seq vs.toArray},if_pos rfl⟩)) (fun b u z=> ?_) (fun b z=> ?_) fun _=>hk
  · by_cases hb:b=a
    · exact .inr ⟨_,_,if_pos hb⟩
    · exact .inl (if_neg hb)
  · by_cases hb:b=a
    · have z':=(if_pos hb).symm.trans z
      cases z'
      subst hb
      exact ⟨ha,by rw [List.length_map];exact hl,vs,_,rv,ha⟩
    · have z':=(if_neg hb).symm.trans z
      cases z'
  · by_cases hb:b=a
    · exact hb
    · exact absurd (if_neg hb) z
open PySem PySem.Spec PyProof.Rows
theorem walk_of {l:PySem.W.OpenLaw} {n k:Nat} {q:Program} {loose:List Str} {XP:(Str→Option Value)→Heap→Prop} {YP:World→Heap→Prop} {d:DefRec} {K:Params→PySem.W.Frag} {CX:World→CXT} {sp:World→Sp} {x:Str}
 (hn:l.most=some n) (hn2:n≤sizeLine) (hdf:d.params.defaults= []) (hr:Room k callerA)
 (hY:∀(w:World) (h:Heap),YP w h→(K w.params).In h)
 (F:∀(w:World) (mg:Str→Option Value) (fa:Addr) (h:Heap),(K w.params).In h→h.Ns mainGlobals mg→mg d.name=some (.ref fa)→
  ∃fd:FuncData,(∀(s:Shared) (u:Value),BindsTo s fd ⟨[u],[]⟩ [(x,u)])∧
   ∀base:Heap,(K w.params).In base→base.Ns mainGlobals mg→FnOk l.prog w (K w.params) mg base (CX w) k fa fd [x] (sp w))
 (hsp:∀(w:World) (H:Hp) (a:Addr) (ns:List Int),ns.length≤n→Only H→SqL (K w.params) H a (ns.map V.int)→sp w [.ref a] H (fun v _=>v= .bl true) fun _ _ _=>False)
 (hCX:∀(w:World) (H:Hp) (s:Shared) (e:Value) (s':Shared),CX w [] H s (fun _ _ _=>False) e s'→False):
 PySem.W.WalkO q loose XP YP l.row.toRowW d [] (fun f vs=>PySem.call f vs):=by
 refine Att.attach_call hn hdf fun w s₀ s₁ mg mb fa o pm cd doc a vs ns G Y ho hd hcd hmg hobj hints hlen hg=> ?_
 have KX:=hY w _ Y
 obtain ⟨fd,hb,hF⟩:=F w mg fa _ KX G.T.g hmg
 exact rn KX G.T.g G.T.b G.T.builtins G.T.nolimit hg hobj hints (Nat.le_trans hlen hn2) hr hF hb (fun H hO hS=>hsp w H a ns hlen hO hS) fun H e s'=>hCX w H s₁ e s'
open PySem PySem.Spec PyProof.Rows
noncomputable def tU (s:Stmt) (j:Nat):Stmt:=match s with
 | .ClassDef _ _ _ body _ _ _ _ _ _ _=>body.getD j (.Pass ⟨0,0,0,0⟩)
 |_=> .Pass ⟨0,0,0,0⟩
noncomputable def ay (s:Stmt):Arguments:=match s with
 | .FunctionDef _ a _ _ _ _ _ _ _ _=>a
 |_=> {posonlyargs:= [],args:= [],vararg:=none,kwonlyargs:= [],kw_defaults:= [],kwarg:=none,defaults:= []}
noncomputable def aw (s:Stmt):List Stmt:=match s with
 | .FunctionDef _ _ b _ _ _ _ _ _ _=>b
 |_=> []
noncomputable def ae (s:Stmt):Scope:=match s with
 | .FunctionDef _ _ _ _ _ _ sc _ _ _=>sc
 |_=> {kind:= .function,names:= [],isGenerator:=false,isCoroutine:=false}
abbrev CX0:CXT:=fun _ _ _ _ _ _=>False
abbrev E0:XK:=fun _ _ _=>False
theorem ar {X:Cx}:io CX0 X E0:=fun _ _ _ _ _ _ _ h=>h.elim
structure Fun (K:PySem.W.Frag) (x qual:Str) (st:Stmt) (f:Addr) (fd:FuncData):Prop where
 ex:∃(oc:Value) (od:Option Addr) (kV doc pm:Value) (an:Option Addr) (cdv ct:Value) (osl:Array (Option Value)),
  fd=PySem.W.fnOf x qual (ay st) (aw st) (ae st) .none kV doc pm an cdv ct∧K.lookup f=some ⟨oc,od, .func fd,osl⟩∧PySem.W.codeIn K cdv qual=true
 kp:PySem.W.keepIn K (.ref f)=true
section
variable {P:Program} {w:World} {K:PySem.W.Frag} {mg:Str→Option Value} {base:Heap}
theorem Fun.ok {x qual:Str} {st:Stmt} {f:Addr} {fd:FuncData} {N ps:List Str} {k:Nat} {sp:Sp} (F:Fun K x qual st f fd) (S:aA N ps (ae st)) (len:∀vs H Q E,sp vs H Q E→vs.length=ps.length)
 (hbody:∀(cdv:Value) (A:Around) (outer:List Env) (s:Shared) (H:Hp) (vs:List V) (Q:VK) (E:XK),Room k (A.deeper (envOfC qual (ae st) s.heap.objs.size f cdv))→sp vs H Q E→
  ∃t,PSs (cxOf CX0 P w K mg base N qual (ae st) f cdv A outer s H E).nox (aw st) t∧t {nx:=fun _ H'=>Q .non H',rt:=Q} (fV N vs) H):FnOk P w K mg base CX0 (k+1) f fd ps sp:=by
 obtain ⟨oc,od,kV,doc,pm,an,cdv,ct,osl,rfl,lk,hcd⟩:=F.ex
 refine xz lk hcd S len fun A outer s H vs Q E hr hsp=> ?_
 obtain ⟨t,h,q⟩:=hbody cdv A outer s H vs Q E hr hsp
 exact ⟨t,h.nox,q⟩
theorem Fun.binds {x qual:Str} {st:Stmt} {f:Addr} {fd:FuncData} {ps:List Str} (F:Fun K x qual st f fd)
 (h:∀(kV doc pm:Value) (an:Option Addr) (cdv ct:Value) (us:List Value),us.length=ps.length→bindArgs (PySem.W.fnOf x qual (ay st) (aw st) (ae st) .none kV doc pm an cdv ct) ⟨us,[]⟩=pure (ps.zip us)):Binds K fd ps []:=by
 obtain ⟨oc,od,kV,doc,pm,an,cdv,ct,osl,rfl,lk,hcd⟩:=F.ex
 exact .all (h kV doc pm an cdv ct)
theorem aF {x qual:Str} {st:Stmt} {f:Addr} {oc:Value} {od an:Option Addr} {osl:Array (Option Value)} {kV doc pm cdv ct:Value} (l:K.lookup f=some ⟨oc,od, .func (PySem.W.fnOf x qual (ay st) (aw st) (ae st) .none kV doc pm an cdv ct),osl⟩)
 (c:PySem.W.codeIn K cdv qual=true) (k:PySem.W.keepIn K (.ref f)=true):Fun K x qual st f (PySem.W.fnOf x qual (ay st) (aw st) (ae st) .none kV doc pm an cdv ct):=⟨⟨oc,od,kV,doc,pm,an,cdv,ct,osl,rfl,l,c⟩,k⟩
end
theorem rG {A:Around} {k:Nat} (hr:Room k A):A.units+1 < cLine:=Nat.lt_of_le_of_lt (Nat.add_le_add_left (by decide:1≤64) _) hr.units
section
variable {X:Cx}
theorem pv (i:Nat) {x:Str} {pos:Pos} (hN:X.N[i]?=some x:=by rfl) (hv:Vis X.env.scope x:=by first|exact Or.inl rfl|exact Or.inr (Or.inl rfl)|exact Or.inr (Or.inr rfl)) (hd:(x==("__debug__":Str))=false:=by decide)
 (hcd:(x==("__classdict__":Str))=false:=by decide):PE X (.Name x pos) (tVar i):=v0 hN hv hd hcd
end
theorem iteF {A B:Prop} (h:B):if false=true then A else B:=by
 rw [if_neg Bool.false_ne_true]
 exact h
theorem iteT {A B:Prop} (h:A):if true=true then A else B:=by
 rw [if_pos rfl]
 exact h
theorem ite2 {c A B:Prop} [Decidable c] (h1:c→A) (h2:¬c→B):if c then A else B:=by
 by_cases h:c
 · rw [if_pos h]
   exact h1 h
 · rw [if_neg h]
   exact h2 h
def Same (H H':Hp):Prop:=∀b o,H b=some o→H' b=some o
theorem Same.refl (H:Hp):Same H H:=fun _ _ h=>h
theorem Same.trans {H H1 H2:Hp} (a:Same H H1) (b:Same H1 H2):Same H H2:=fun c o h=>b c o (a c o h)
theorem Same.free {H H':Hp} (e:Same H H') {l:Addr} (h:H' l=Option.none):H l=Option.none:=by
 cases q:H l with
 |none=>rfl
 |some o=>
  rw [e l o q] at h
  cases h
theorem Same.seq {K:PySem.W.Frag} {H H':Hp} {a:Addr} {xs:List V} (e:Same H H') (h:SqL K H a xs):SqL K H' a xs:=by
 rcases h with (h|⟨o,h⟩)|h
 · exact .inl (.inl (e _ _ h))
 · exact .inl (.inr ⟨o,e _ _ h⟩)
 · exact .inr h
end L2
namespace Srt
open PySem PySem.W PyProof.Rows
structure Ord (lt:Nat→Nat→Bool):Prop where
 asym:∀a b,lt a b=true→lt b a=false
 tr:∀a b c,lt b a=false→lt c b=false→lt c a=false
theorem Ord.refl {lt:Nat→Nat→Bool} (O:Ord lt) (a:Nat):lt a a=false:=by
 cases e:lt a a with
 |false=>rfl
 |true=>exact (O.asym a a e).symm.trans e |>.symm
theorem Ord.up {lt:Nat→Nat→Bool} (O:Ord lt) {a b c:Nat} (h:lt a b=true) (h2:lt c b=false):lt a c=true:=by
 cases e:lt a c with
 |true=>rfl
 |false=>
  have:=O.tr b c a h2 e
  rw [h] at this
  cases this
def Tri {α:Type} (lt:Nat→Nat→Bool) (N:Nat) (Post:α→Prop):KasT α→Prop
 | .ret a=>Post a
 | .ask i j k=>i < N∧j < N∧Tri lt N Post (k (lt i j))
variable {lt:Nat→Nat→Bool} {N:Nat}
theorem cQ {α β:Type} {Post:β→Prop} {f:α→KasT β}:∀ {t:KasT α},Tri lt N (fun a=>Tri lt N Post (f a)) t→Tri lt N Post (t.bind f)
 | .ret a,h=>h
 | .ask i j k,h=>⟨h.1,h.2.1,cQ h.2.2⟩
theorem bx {α:Type} {P Q:α→Prop} (hPQ:∀a,P a→Q a):∀ {t:KasT α},Tri lt N P t→Tri lt N Q t
 | .ret a,h=>hPQ a h
 | .ask i j k,h=>⟨h.1,h.2.1,bx hPQ h.2.2⟩
theorem oX {α:Type} {cmp:Nat→Nat→(Bool→Shared→Prop)→Shared→Prop} {G:Shared→Prop} {Post:α→Prop} {Q:α→Shared→Prop}
 (hc:∀i j (R:Bool→Shared→Prop) s,i < N→j < N→G s→(∀s',G s'→R (lt i j) s')→cmp i j R s) (hQ:∀a s,Post a→G s→Q a s):∀ {t:KasT α} {s:Shared},Tri lt N Post t→G s→t.kasWp cmp Q s
 | .ret a,s,h,g=>hQ a s h g
 | .ask i j k,s,h,g=>hc i j _ s h.1 h.2.1 g fun s' g'=>oX hc hQ h.2.2 g'
def g (p:Array Nat) (k:Nat):Nat:=p.getD k 0
def Pm (N:Nat) (p:Array Nat):Prop:=p.toList.Perm (List.range N)
theorem Pm.size {p:Array Nat} (h:Pm N p):p.size=N:=by
 have:=h.length_eq
 rw [Array.length_toList,List.length_range] at this
 exact this
theorem cO {p:Array Nat} (k:Nat):g p k=(p[k]?).getD 0:=by
 unfold g
 rw [Array.getD_eq_getD_getElem?]
theorem Pm.bd {p:Array Nat} (h:Pm N p) {k:Nat} (hk:k < N):g p k < N:=by
 have hs:=h.size
 have:p[k]?=some (p[k]'(by omega)):=Array.getElem?_eq_getElem _
 rw [cO,this]
 have m:p[k]'(by omega)∈p.toList:=Array.mem_toList_iff.mpr (Array.getElem_mem _)
 exact List.mem_range.mp (h.mem_iff.mp m)
theorem Pm.of {p q:Array Nat} (h:Pm N p) (e:q.Perm p):Pm N q:=(Array.perm_iff_toList_perm.mp e).trans h
theorem Pm.rev {p:Array Nat} (h:Pm N p) (i j:Nat):Pm N (kas_rev p i j):=h.of (mirror_perm _ _ _ _)
theorem eg {p:Array Nat} {i j:Nat} (hj:j≤p.size) (k:Nat):g (kas_rev p i j) k=if i≤k∧k < j then g p (i+j - 1 - k) else g p k:=by
 rw [cO]
 unfold kas_rev
 rw [getElem?_mirror_all hj]
 split<;>rw [cO]
theorem xx {p:Array Nat} {src d:Nat} (hs:src < p.size) (hd:d≤src) (k:Nat):g (bubble p src d) k=if k=src - d then g p src else if src - d < k∧k≤src then g p (k - 1) else g p k:=by
 rw [cO,getElem?_bubble hs d hd]
 split
 · rw [cO]
 · split<;>rw [cO]
def Up (lt:Nat→Nat→Bool) (p:Array Nat) (n:Nat):Prop:=∀i j,i≤j→j < n→lt (g p j) (g p i)=false
def Dn (lt:Nat→Nat→Bool) (p:Array Nat) (n:Nat):Prop:=∀i j,i≤j→j < n→lt (g p i) (g p j)=false
theorem sD (O:Ord lt) {p:Array Nat} {n:Nat} (h0:1≤n) (h:Up lt p n) (e:lt (g p n) (g p (n - 1))=false):Up lt p (n+1):=by
 intro i j hij hj
 by_cases q:j < n
 · exact h i j hij q
 · have ej:j=n:=by omega
   subst ej
   by_cases qi:i=j
   · subst qi
     exact O.refl _
   · exact O.tr _ _ _ (h i (j - 1) (by omega) (by omega)) e
theorem f8 (O:Ord lt) {p:Array Nat} {n:Nat} (h0:1≤n) (h:Dn lt p n) (e:lt (g p (n - 1)) (g p n)=false):Dn lt p (n+1):=by
 intro i j hij hj
 by_cases q:j < n
 · exact h i j hij q
 · have ej:j=n:=by omega
   subst ej
   by_cases qi:i=j
   · subst qi
     exact O.refl _
   · exact O.tr _ _ _ e (h i (j - 1) (by omega) (by omega))
theorem uL {p:Array Nat} {n:Nat} (hn:n≤p.size) (h:Dn lt p n):Up lt (kas_rev p 0 n) n:=by
 intro i j hij hj
 rw [eg hn,eg hn,if_pos ⟨Nat.zero_le _,hj⟩,if_pos ⟨Nat.zero_le _,by omega⟩]
 exact h _ _ (by omega) (by omega)
theorem pf (O:Ord lt) {p:Array Nat} (hp:Pm N p):∀(f n:Nat),1≤n→n+f≤N→Up lt p n→Tri lt N (fun m=>n≤m∧m≤n+f∧Up lt p m∧(m < n+f→lt (g p m) (g p (m - 1))=true)) (kas_asc p f n)
 |0,n,h1,h2,h=>⟨Nat.le_refl _,Nat.le_refl _,h,fun q=>absurd q (by omega)⟩
 |f+1,n,h1,h2,h=>by
  refine ⟨Pm.bd hp (by omega),Pm.bd hp (by omega),?_⟩
  show Tri lt N _ (if lt (g p n) (g p (n - 1))=true then .ret n else kas_asc p f (n+1))
  by_cases e:lt (g p n) (g p (n - 1))=true
  · rw [if_pos e]
    exact ⟨Nat.le_refl _,by omega,h,fun _=>e⟩
  · rw [if_neg e]
    refine bx (fun m hm=> ?_) (pf O hp f (n+1) (by omega) (by omega) (sD O h1 h (by simpa using e)))
    exact ⟨by omega,by omega,hm.2.2.1,fun q=>hm.2.2.2 (by omega)⟩
def Eqv (lt:Nat→Nat→Bool) (p:Array Nat) (n q:Nat):Prop:=∀k,n - 1 - q≤k→k < n→lt (g p k) (g p (n - 1))=false∧lt (g p (n - 1)) (g p k)=false
theorem kz (O:Ord lt) {p:Array Nat} {n q:Nat} (hn:n≤p.size) (hq:q+1≤n) (h:Dn lt p n) (he:Eqv lt p n q):Dn lt (kas_rev p (n - (q+1)) n) n:=by
 intro i j hij hj
 rw [eg hn,eg hn]
 by_cases bi:n - (q+1)≤i
 · rw [if_pos ⟨bi,by omega⟩,if_pos ⟨by omega,hj⟩]
   obtain ⟨a1,a2⟩:=he (n - (q+1)+n - 1 - i) (by omega) (by omega)
   obtain ⟨b1,b2⟩:=he (n - (q+1)+n - 1 - j) (by omega) (by omega)
   exact O.tr _ _ _ b2 a1
 · rw [if_neg (by omega)]
   by_cases bj:n - (q+1)≤j
   · rw [if_pos ⟨bj,hj⟩]
     exact h _ _ (by omega) (by omega)
   · rw [if_neg (by omega)]
     exact h _ _ hij hj
theorem j9 (O:Ord lt):∀(f:Nat) (p:Array Nat) (n q:Nat),Pm N p→1≤n→n+f≤N→q+1≤n→Dn lt p n→Eqv lt p n q→
 Tri lt N (fun r=>Pm N r.1∧n≤r.2.1∧r.2.1≤n+f∧r.2.2+1≤r.2.1∧Dn lt r.1 r.2.1∧Eqv lt r.1 r.2.1 r.2.2) (kas_desc f p n q)
 |0,p,n,q,hp,h1,h2,hq,h,he=>⟨hp,Nat.le_refl _,Nat.le_refl _,hq,h,he⟩
 |f+1,p,n,q,hp,h1,h2,hq,h,he=>by
  have hs:=hp.size
  refine ⟨Pm.bd hp (by omega),Pm.bd hp (by omega),?_⟩
  show Tri lt N _ (if lt (g p n) (g p (n - 1))=true then (if q > 0 then kas_desc f (kas_rev p (n - (q+1)) n) (n+1) 0 else kas_desc f p (n+1) 0) else .ask (g p (n - 1)) (g p n) fun d=>if d=true then .ret (p,n,q) else kas_desc f p (n+1) (q+1))
  have one:∀p':Array Nat,Eqv lt p' (n+1) 0:=fun p' k k1 k2=>by
   have:k=n:=by omega
   subst this
   exact ⟨O.refl _,O.refl _⟩
  by_cases e:lt (g p n) (g p (n - 1))=true
  · rw [if_pos e]
    have e':=O.asym _ _ e
    by_cases q0:q > 0
    · rw [if_pos q0]
      have d1:=kz O (by omega) hq h he
      have d2:Dn lt (kas_rev p (n - (q+1)) n) (n+1):=by
       refine f8 O h1 d1 ?_
       rw [eg (by omega),eg (by omega),if_pos ⟨by omega,by omega⟩,if_neg (by omega)]
       obtain ⟨a1,a2⟩:=he (n - (q+1)+n - 1 - (n - 1)) (by omega) (by omega)
       exact O.tr _ _ _ e' a1
      refine bx (fun r hr=> ?_) (j9 O f _ (n+1) 0 (hp.rev _ _) (by omega) (by omega) (by omega) d2 (one _))
      exact ⟨hr.1,by omega,by omega,hr.2.2.2⟩
    · rw [if_neg q0]
      refine bx (fun r hr=> ?_) (j9 O f p (n+1) 0 hp (by omega) (by omega) (by omega) (f8 O h1 h e') (one _))
      exact ⟨hr.1,by omega,by omega,hr.2.2.2⟩
  · rw [if_neg e]
    have e1:lt (g p n) (g p (n - 1))=false:=by simpa using e
    refine ⟨Pm.bd hp (by omega),Pm.bd hp (by omega),?_⟩
    show Tri lt N _ (if lt (g p (n - 1)) (g p n)=true then .ret (p,n,q) else kas_desc f p (n+1) (q+1))
    by_cases e2:lt (g p (n - 1)) (g p n)=true
    · rw [if_pos e2]
      exact ⟨hp,Nat.le_refl _,(by show n≤n+(f+1);omega),hq,h,he⟩
    · rw [if_neg e2]
      have e3:lt (g p (n - 1)) (g p n)=false:=by simpa using e2
      refine bx (fun r hr=> ?_) (j9 O f p (n+1) (q+1) hp (by omega) (by omega) (by omega) (f8 O h1 h e3) fun k k1 k2=> ?_)
      · exact ⟨hr.1,by omega,by omega,hr.2.2.2⟩
      · show lt (g p k) (g p n)=false∧lt (g p n) (g p k)=false
        by_cases kn:k=n
        · subst kn
          exact ⟨O.refl _,O.refl _⟩
        · obtain ⟨a1,a2⟩:=he k (by omega) (by omega)
          exact ⟨O.tr _ _ _ e3 a1,O.tr _ _ _ a2 e1⟩
theorem pe (O:Ord lt) {p:Array Nat} {n:Nat} (hp:Pm N p) (h1:1≤n) (hn:n≤N) (h:Dn lt p n):Tri lt N (fun r=>Pm N r.2∧1≤r.1∧r.1≤N∧Up lt r.2 r.1) (kas_tail3 n N p):=by
 unfold kas_tail3
 refine cQ (bx (fun m hm=> ?_) (pf O (hp.rev 0 n) (N - n) n h1 (by omega) (uL (by rw [hp.size];exact hn) h)))
 exact ⟨hp.rev 0 n,by omega,by omega,hm.2.2.1⟩
theorem gx (O:Ord lt) {p:Array Nat} {n:Nat} (hp:Pm N p) (hn:n+1≤N) (h:Dn lt p (n+1)):Tri lt N (fun r=>Pm N r.2∧1≤r.1∧r.1≤N∧Up lt r.2 r.1) (kas_descPart n N p):=by
 unfold kas_descPart
 refine cQ (bx (fun r hr=> ?_) (j9 O (N - (n+1)) p (n+1) 0 hp (by omega) (by omega) (by omega) h fun k k1 k2=> ?_))
 · obtain ⟨a1,a2,a3,a4,a5,a6⟩:=hr
   split
   · exact pe O (a1.rev _ _) (by omega) (by omega) (kz O (by rw [a1.size];omega) a4 a5 a6)
   · exact pe O a1 (by omega) (by omega) a5
 · have:k=n:=by omega
   subst this
   exact ⟨O.refl _,O.refl _⟩
theorem sI (O:Ord lt) {p:Array Nat} (hp:Pm N p) (hN:1≤N):Tri lt N (fun r=>Pm N r.2∧1≤r.1∧r.1≤N∧Up lt r.2 r.1) (kas_count N p):=by
 unfold kas_count
 have u1:Up lt p 1:=fun i j hij hj=>by
  have:i=0:=by omega
  have:j=0:=by omega
  subst_vars
  exact O.refl _
 refine cQ (bx (fun n hn=> ?_) (pf O hp (N - 1) 1 (Nat.le_refl _) (by omega) u1))
 obtain ⟨b1,b2,b3,b4⟩:=hn
 by_cases e:(n==N)=true
 · rw [if_pos e]
   exact ⟨hp,b1,by omega,b3⟩
 · rw [if_neg e]
   have e':n≠N:=by simpa using e
   have l1:=b4 (by omega)
   by_cases n1:n > 1
   · rw [if_pos n1]
     refine ⟨Pm.bd hp (by omega),Pm.bd hp (by omega),?_⟩
     show Tri lt N _ (if lt (g p 0) (g p (n - 1))=true then .ret (n,p) else kas_descPart n N (kas_rev p 0 n))
     by_cases e2:lt (g p 0) (g p (n - 1))=true
     · rw [if_pos e2]
       exact ⟨hp,b1,by omega,b3⟩
     · rw [if_neg e2]
       have e3:lt (g p 0) (g p (n - 1))=false:=by simpa using e2
       have alike:∀i j,i < n→j < n→lt (g p i) (g p j)=false:=fun i j hi hj=>
        O.tr (g p j) (g p 0) (g p i) (O.tr _ _ _ (b3 j (n - 1) (by omega) (by omega)) e3) (b3 0 i (Nat.zero_le _) hi)
       have hs:=hp.size
       refine gx O (hp.rev 0 n) (by omega) (f8 O (by omega) (fun i j hij hj=> ?_) ?_)
       · rw [eg (by omega),eg (by omega),if_pos ⟨Nat.zero_le _,by omega⟩,if_pos ⟨Nat.zero_le _,hj⟩]
         exact alike _ _ (by omega) (by omega)
       · rw [eg (by omega),eg (by omega),if_pos ⟨Nat.zero_le _,by omega⟩,if_neg (by omega)]
         exact O.tr _ _ _ (O.asym _ _ l1) (alike _ _ (by omega) (by omega))
   · rw [if_neg n1]
     have en:n=1:=by omega
     subst en
     refine gx O hp (by omega) (f8 O (Nat.le_refl _) (fun i j hij hj=> ?_) (O.asym _ _ l1))
     have:i=0:=by omega
     have:j=0:=by omega
     subst_vars
     exact O.refl _
theorem j8 (O:Ord lt) {p:Array Nat} {k:Nat} (hp:Pm N p) (hk:k < N) (h:Up lt p k):∀(f l r:Nat),l≤r→r≤k→r - l≤f→(∀i,i < l→lt (g p k) (g p i)=false)→(∀i,r≤i→i < k→lt (g p k) (g p i)=true)→
 Tri lt N (fun m=>m≤k∧(∀i,i < m→lt (g p k) (g p i)=false)∧∀i,m≤i→i < k→lt (g p k) (g p i)=true) (kas_place p k f l r)
 |0,l,r,h1,h2,h3,a,b=>by
  have:l=r:=by omega
  subst this
  exact ⟨h2,a,b⟩
 |f+1,l,r,h1,h2,h3,a,b=>by
  show Tri lt N _ (if l≥r then .ret l else .ask (p.getD k 0) (p.getD ((l+r) / 2) 0) fun c=>if c=true then kas_place p k f l ((l+r) / 2) else kas_place p k f ((l+r) / 2+1) r)
  by_cases e:l≥r
  · rw [if_pos e]
    have:l=r:=by omega
    subst this
    exact ⟨h2,a,b⟩
  · rw [if_neg e]
    refine ⟨Pm.bd hp hk,Pm.bd hp (by omega),?_⟩
    show Tri lt N _ (if lt (g p k) (g p ((l+r) / 2))=true then kas_place p k f l ((l+r) / 2) else kas_place p k f ((l+r) / 2+1) r)
    by_cases c:lt (g p k) (g p ((l+r) / 2))=true
    · rw [if_pos c]
      refine j8 O hp hk h f l ((l+r) / 2) (by omega) (by omega) (by omega) a fun i i1 i2=> ?_
      by_cases q:r≤i
      · exact b i q i2
      · exact O.up c (h _ _ i1 i2)
    · rw [if_neg c]
      have c':lt (g p k) (g p ((l+r) / 2))=false:=by simpa using c
      refine j8 O hp hk h f ((l+r) / 2+1) r (by omega) h2 (by omega) (fun i i1=> ?_) b
      exact O.tr _ _ _ (h i ((l+r) / 2) (by omega) (by omega)) c'
theorem uo (O:Ord lt):∀(f:Nat) (p:Array Nat) (k:Nat),Pm N p→k+f≤N→Up lt p k→Tri lt N (fun q=>Pm N q∧Up lt q (k+f)) (kas_bin f p k)
 |0,p,k,hp,_,h=>⟨hp,h⟩
 |f+1,p,k,hp,hk,h=>by
  have hs:=hp.size
  show Tri lt N _ ((kas_place p k k 0 k).bind fun l=>kas_bin f (bubble p k (k - l)) (k+1))
  refine cQ (bx (fun l hl=> ?_) (j8 O hp (by omega) h k 0 k (Nat.zero_le _) (Nat.le_refl _) (by omega) (fun i hi=>absurd hi (by omega)) fun i h1 h2=>absurd h1 (by omega)))
  obtain ⟨l1,l2,l3⟩:=hl
  have el:k - (k - l)=l:=by omega
  have hb:∀i,g (bubble p k (k - l)) i=if i=l then g p k else if l < i∧i≤k then g p (i - 1) else g p i:=fun i=>by
   rw [xx (by omega) (by omega),el]
  have u:Up lt (bubble p k (k - l)) (k+1):=by
   intro i j hij hj
   rw [hb,hb]
   by_cases jl:j=l
   · rw [if_pos jl]
     by_cases il:i=l
     · rw [if_pos il]
       exact O.refl _
     · rw [if_neg il,if_neg (by omega)]
       exact l2 i (by omega)
   · rw [if_neg jl]
     by_cases j2:l < j∧j≤k
     · rw [if_pos j2]
       by_cases il:i=l
       · rw [if_pos il]
         exact O.asym _ _ (l3 (j - 1) (by omega) (by omega))
       · rw [if_neg il]
         by_cases i2:l < i∧i≤k
         · rw [if_pos i2]
           exact h _ _ (by omega) (by omega)
         · rw [if_neg i2]
           exact h _ _ (by omega) (by omega)
     · rw [if_neg j2,if_neg (by omega),if_neg (by omega)]
       exact h _ _ hij (by omega)
  refine bx (fun q hq=> ?_) (uo O f _ (k+1) (hp.of (bubble_perm _ _ _)) (by omega) u)
  rw [show k+(f+1)=k+1+f by omega]
  exact hq
theorem uN (O:Ord lt) (hN:1≤N):Tri lt N (fun p=>Pm N p∧Up lt p N) (kas_sort N):=by
 unfold kas_sort
 have h0:Pm N (List.toArray (List.range N)):=by
  unfold Pm
  simp
 refine cQ (bx (fun r hr=> ?_) (sI O h0 hN))
 obtain ⟨a1,a2,a3,a4⟩:=hr
 by_cases e:r.1 < N
 · rw [if_pos e]
   have em:max r.1 1=r.1:=by omega
   rw [em]
   have:=uo O (N - r.1) r.2 r.1 a1 (by omega) a4
   rw [show r.1+(N - r.1)=N by omega] at this
   exact this
 · rw [if_neg e]
   have:r.1=N:=by omega
   rw [this] at a4
   exact ⟨a1,a4⟩
end Srt
namespace L2
open PySem
section
variable {M:Model} {prog:Program} {w:World} {A:Around} {E:Value→Shared→Prop} {h:Heap} {g:Array GenState} {d:Drawn} {t:Nat} {os:OsState}
variable {nm q:Str} {C N:Addr} {bs bm bmB:List Value} {hdct:Bool} {sn:List Str} {sub:List Value} {ab:Bool} {col:Option Bool} {dd:Option Addr} {k0 k1 k2 k3 k5:Option Value} {B newId initId:String}
structure Line (B:String) (bm:List Value):Prop where
 own:bm.contains (.type B)=true
 top:bm.contains (.type "BaseException")=true
 attr:bm.contains (.type "AttributeError")=false
 name:bm.contains (.type "NameError")=false
theorem Line.cons {C:Addr} (l:Line B bm):Line B (.ref C::bm):=
 ⟨by rw [List.contains_cons,l.own,Bool.or_true],by rw [List.contains_cons,l.top,Bool.or_true],by rw [List.contains_cons,l.attr];rfl,by rw [List.contains_cons,l.name];rfl⟩
end
end L2
namespace L2
section
open PySem
variable {prog:Program} {w:World} {A:Around} {E:Value→Shared→Prop} {h:Heap} {g:Array GenState} {d:Drawn} {t:Nat} {os:OsState}
variable {nm q:Str} {C N:Addr} {bs bm bmB:List Value} {hdct:Bool} {sn:List Str} {sub:List Value} {ab:Bool} {col:Option Bool} {dd:Option Addr} {k0 k1 k2 k3 k5:Option Value} {B newId nid initId:String}
end
open PySem PySem.Spec PyProof.Rows
section
variable {X:Cx} {CX:CXT} {k:Nat} {f C:Addr} {fd:FuncData} {ps:List Str} {sp:Sp} {E:XK} {x:Str} {p pos apos:Pos} {e:Expr} {es:List Expr} {t:TA}
end
open PySem PySem.Spec PyProof.Rows
section
variable {X:Cx} {C fI:Addr} {E:XK} {pos:Pos} {ce:Expr} {te:TE}
end
end L2
namespace L2
section
open PySem PySem.W Builtin Builtin.ObjectAttr Builtin.Getset_descriptor
variable {prog:Program} {w:World} {A:Around} {E:Value→Shared→Prop} {h:Heap} {g:Array GenState} {d:Drawn} {t:Nat} {os:OsState} {a C:Addr} {o:Obj} {K:Frag}
structure XIs (K:Frag) (C:Addr):Prop where
 cls:(clsIn K C).isSome=true
 ga:findIn K (.ref C) "__getattribute__"=some (some (.builtin "BaseException.__getattribute__"))
 hook:findIn K (.ref C) "__getattr__"=some none
 cl:findIn K (.ref C) "__class__"=some (some (.builtin "object.__class__"))
 mo:mroIn K C (.type "object")=some true
 mb:mroIn K C (.type "BaseException")=some true
theorem fK {M:Model} {n:Str} {r:Option Value} {Q:Option Value→Shared→Prop} (X:K.In h) (e:findIn K (.ref C) n=some r) (z:Q r ⟨h,g,d,t,os⟩):wpAny M A (typeLookup (.ref C) n) Q E ⟨h,g,d,t,os⟩:=
 (looks_findIn (M:=M) X e).at z
theorem rk {M:Model} {b:Value} {r:Bool} {Q:Bool→Shared→Prop} (X:K.In h) (e:mroIn K C b=some r) (z:Q r ⟨h,g,d,t,os⟩):wpAny M A (isSubtype (.ref C) b) Q E ⟨h,g,d,t,os⟩:=
 (looks_mroIn (M:=M) X e).at z
theorem iq {R:Result→Shared→Prop} {tp:Value} (Z:XIs K C) (X:K.In h) (hx:h.get? a=some o) (hc:o.cls= .ref C) (z:R (.ok (.ret (.ref C))) ⟨h,g,d,t,os⟩):
 codeAny (model prog w) A (.call (.builtin "getset_descriptor.__get__") ⟨[.builtin "object.__class__", .ref a,tp],[]⟩) R ⟨h,g,d,t,os⟩:=by
 have L0:Looks (model prog w) h (typeOf (.ref a)) (.ref C):=by
  have:=((Looks.ld (M:=model prog w) (part:=some headPart) hx).andThen (f:=fun o=>pure o.cls) .now)
  rw [hc] at this
  exact this
 have L1:=looks_mroIn (M:=model prog w) X Z.mo
 refine codeAny_call_builtin KF.slot_gs.plain KF.entry_gs (KF.slot_gs.check _ _ _ _ _ _ _ _ KF.type_class (KF.args_gs _ _ _) ?_)
 unfold Builtin.«getset_descriptor.__get__» descrGet
 rw [dga_obj]
 refine wpAny_bind (wpAny_pure ?_)
 unfold descrGetter descrCheckInstance descrNameAndClass isInstance
 simp only [KF.owner_class]
 repeat lk
 refine ⟨Code.quiet_builtin _ (by decide +kernel),codeAny_builtin KF.entry_class ?_⟩
 unfold Builtin.«object.__class__» shownTypeOf
 repeat lk
 exact z
theorem vI {M:Model} {nv:Value} {Q:Unit→Shared→Prop} (Z:XIs K C) (X:K.In h) (hx:h.get? a=some o) (hc:o.cls= .ref C) (z:Q () ⟨h,g,d,t,os⟩):
 wpAny M A (checkBuiltinCall "BaseException.__getattribute__" ⟨[.ref a,nv],[]⟩) Q E ⟨h,g,d,t,os⟩:=by
 have hk:builtinKind "BaseException.__getattribute__"=some .slot:=by decide +kernel
 have hs:splitId "BaseException.__getattribute__"=some ("BaseException","__getattribute__"):=by decide +kernel
 have ha:=PySem.F.args_bexc_ga (.ref a) nv
 simp only [checkBuiltinCall,hk,hs]
 refine wpAny_bind ?_
 unfold isInstance
 repeat
  first
  |(with_reducible refine wpAny_loadPart_at hx ?_;rw [hc])
  |with_reducible refine rk X Z.mb ?_
  |wp_step
 exact z
theorem oJ {Q:Option Value→Shared→Prop} (Z:XIs K C) (X:K.In h) (hx:h.get? a=some o) (hc:o.cls= .ref C) (z:Q (some (.ref C)) ⟨h,g,d,t+1,os⟩):
 wpAny (model prog w) A (getAttr? (.ref a) "__class__") Q E ⟨h,g,d,t,os⟩:=by
 have f3:=PySem.F.excAttr_ValueError.ga.bind (.ref a)
 have b2:(Value.builtin "BaseException.__getattribute__"==Value.builtin "object.__getattribute__")=false:=by decide +kernel
 have b1:(onTheHeap (Value.ref C)&&Value.builtin "BaseException.__getattribute__"==Value.builtin "object.__getattribute__")=false:=by rw [b2];rfl
 have f5:=PySem.F.typeOf_object_class
 have f6:=PySem.F.slot_gs_get.lookup
 have f7:=PySem.F.slot_gs_set.lookup
 have hT5:(⟨h,g,d,t+1,os⟩:Shared).TypeIs (.builtin "object.__class__") "getset_descriptor":=PySem.F.typeOf_object_class
 unfold getAttr? getAttrBy?
 refine wpAny_bind (wpAny_mkText (wpAny_bind (wpAny_attempt ?_)))
 unfold getAttrBy
 repeat
  any_goals
   first
   |assumption
   |(with_reducible refine wpAny_loadPart_at hx ?_;rw [hc])
   |with_reducible refine fK X Z.ga ?_
   |with_reducible refine fK X Z.hook ?_
   |wp_step
 refine codeAny_call_builtin PySem.F.excAttr_ValueError.ga.plain PySem.F.entry_bexc_ga (vI Z X hx hc ?_)
 repeat
  any_goals
   first
   |assumption
   |(with_reducible refine wpAny_loadPart_at hx ?_;rw [hc])
   |with_reducible refine fK X Z.cl ?_
   |wp_step
 refine iq Z X hx hc ?_
 repeat
  any_goals
   first
   |assumption
   |wp_step
end
end L2
namespace L2
open PySem PySem.Spec PyProof.Rows
noncomputable def Cau (C a:Addr):HO:= .ext fun h=>∃o,h.get? a=some o∧o.cls= .ref C
theorem rA {K:PySem.W.Frag} {C a:Addr} (Z:XIs K C):PySem.W.KitX K (.ref a) (.ref C) (fun h=>∃o,h.get? a=some o∧o.cls= .ref C) where
 ty:=fun M h _ ⟨o,e,c⟩=>by
  have:=((PySem.W.Looks.ld (M:=M) (part:=some headPart) e).andThen (f:=fun o=>pure o.cls) .now)
  rw [c] at this
  exact this
 it:=fun M h X _=>by
  have hc:=Z.cls
  unfold PySem.W.clsIn at hc
  split at hc
  · rename_i ho
    intro A' Q' E' s' k q
    unfold isType loadHead
    exact wpAny_bind (wpAny_loadPart (k _ _ (X _ _ ho)) (wpAny_pure q))
  · cases hc
 ne:=fun h tp dd its n sl X htp=>by
  have hc:=Z.cls
  refine Bool.eq_false_iff.mpr fun q=> ?_
  have e:C=tp:=Value.ref.inj (beq_iff_eq.mp q)
  subst e
  unfold PySem.W.clsIn at hc
  split at hc
  · rename_i ho
    cases (X _ _ ho).symm.trans htp
  · cases hc
 ca:=fun {prog w A E Q s} X ⟨o,e,c⟩ k=>by
  obtain ⟨h,g,d,t,os⟩:=s
  exact oJ Z X e c k
noncomputable def clsV:V→Value
 | .ty n=> .type n
 | .ref a=> .ref a
 |_=> .none
def nJ:V→Bool
 | .ty _=>true
 | .ref _=>true
 |_=>false
theorem nV {x:V} {u:Value} (r:RelV x u) (h:nJ x=true):u=clsV x:=by
 cases x with
 |ty n=>exact r
 |ref a=>exact r
 |_=>cases h
theorem kR:∀ {xs:List V} {us:List Value},Vals xs us→xs.all nJ=true→us=xs.map clsV
 |_,_, .nil,_=>rfl
 |_,_, .cons r t,h=>by
  rw [List.all_cons,Bool.and_eq_true] at h
  rw [nV r h.1,kR t h.2,List.map_cons]
inductive TyX (K:PySem.W.Frag) (H:Hp):V→Value→Prop where
 |of {x:V} {t:Value} (h:TyOf K H x t):TyX K H x t
 |exc {a C:Addr} (e:H a=some (Cau C a)) (Z:XIs K C):TyX K H (.ref a) (.ref C)
section
variable {X:Cx}
theorem TyX.kit {pins:List (Addr×Obj)} {σ:St} {H:Hp} {s:Shared} {x:V} {u t:Value} (I:Inv X pins σ H s) (rx:RelV x u) (ty:TyX X.K H x t):∃Hh,PySem.W.KitX X.K u t Hh∧Hh s.heap∧u≠ .builtin "__main__.__loader__#opaque":=by
 cases ty with
 |of ty=>
  cases ty with
  |non=>cases (show u=Value.none from rx);exact ⟨_,PySem.W.kitx_none,True.intro,fun z=>nomatch z⟩
  |bl y=>cases (show u=Value.bool y from rx);exact ⟨_,PySem.W.kitx_bool,True.intro,fun z=>nomatch z⟩
  |int i=>obtain ⟨t,q⟩:=(show∃t,u=Value.int i t from rx);cases q;exact ⟨_,PySem.W.kitx_int,True.intro,fun z=>nomatch z⟩
  |str y=>obtain ⟨t,q⟩:=(show∃t,u=Value.str y t from rx);cases q;exact ⟨_,PySem.W.kitx_str,True.intro,fun z=>nomatch z⟩
  |flt y=>obtain ⟨t,q⟩:=(show∃t,u=Value.float y t from rx);cases q;exact ⟨_,PySem.W.kitx_float,True.intro,fun z=>nomatch z⟩
  | @lst a xs ea=>
   cases (show u=Value.ref a from rx)
   obtain ⟨_,_,n,_,h1⟩:=(show ObjOk X.prog X.w H s.heap a (.lst xs) from I.hok a _ ea)
   exact ⟨_,PySem.W.kitx_list,⟨_,h1,rfl⟩,fun z=>nomatch z⟩
  | @frz a ob xs ea=>
   cases (show u=Value.ref a from rx)
   obtain ⟨_,_,_,n,_,h1⟩:=(show ObjOk X.prog X.w H s.heap a (.frz ob (.lst xs)) from I.hok a _ ea)
   exact ⟨_,PySem.W.kitx_list,⟨_,h1,rfl⟩,fun z=>nomatch z⟩
  | @tup a xs ea=>
   cases (show u=Value.ref a from rx)
   obtain ⟨_,_,_,o,h1,h2,_⟩:=(show ObjOk X.prog X.w H s.heap a (.tup xs) from I.hok a _ ea)
   exact ⟨_,PySem.W.kitx_tuple,⟨o,h1,h2⟩,fun z=>nomatch z⟩
  | @dK a kvs ea=>
   cases (show u=Value.ref a from rx)
   obtain ⟨_,_,vs,_,o,es,ep,h1,h2,_⟩:=(show ObjOk X.prog X.w H s.heap a (.dK kvs) from I.hok a _ ea)
   exact ⟨_,PySem.W.kitx_dict,⟨o,h1,h2.1⟩,fun z=>nomatch z⟩
  | @dT a kvs ea=>
   cases (show u=Value.ref a from rx)
   obtain ⟨_,_,xs,_,o,es,ep,h1,h2,_⟩:=(show ObjOk X.prog X.w H s.heap a (.dT kvs) from I.hok a _ ea)
   exact ⟨_,PySem.W.kitx_dict,⟨o,h1,h2.1⟩,fun z=>nomatch z⟩
  | @ins a C dx fs ea cl ha hn htk hm=>
   cases (show u=Value.ref a from rx)
   obtain ⟨mA,O,_⟩:=jA I.hok ea
   obtain ⟨od,J,_⟩:=O.look
   exact ⟨_,PySem.W.kitx_own (cl.get _) cl.hd ha hn htk hm,J,fun z=>nomatch z⟩
 | @exc a C e Z=>
  cases (show u=Value.ref a from rx)
  obtain ⟨h1,_⟩:=(show ObjOk X.prog X.w H s.heap a (Cau C a) from I.hok a _ e)
  exact ⟨_,rA Z,h1,fun z=>nomatch z⟩
def rIsi (K:PySem.W.Frag):List V→Hp→VK→Prop:=fun xs H Q=>∃x c t b,xs= [x,c]∧TyX K H x t∧
 ((nJ c=true∧PySem.W.kitOne K t (clsV c)=some b)∨(∃p ys,c= .ref p∧H p=some (.tup ys)∧ys.all nJ=true∧PySem.W.kitAny K t (ys.map clsV)=some b))∧Q (.bl b) H
theorem bh:cG X (.builtin "isinstance") (rIsi X.K):=by
 intro pins s σ H xs us Q I r h
 obtain ⟨x,c,t,b,e,ty,h,q⟩:=h
 subst e
 cases r with
 | @cons _ u _ _ rx r=>
  cases r with
  | @cons _ v _ _ rc r=>
   cases r
   obtain ⟨Hh,Z,hp,hne⟩:=ty.kit I rx
   rcases h with ⟨hc,hk⟩|⟨p,ys,e,hH,hall,hk⟩
   · cases nV rc hc
     exact PySem.W.kia_one Z I.kIn hp hk hne fun tk=>⟨.bl b,H,I.tok tk,rfl,q⟩
   · subst e
     cases (show v=Value.ref p from rc)
     obtain ⟨_,its,rv,⟨oc,od,oda,osl⟩,h1,h2,n,h3⟩:=(show ObjOk X.prog X.w H s.heap p (.tup ys) from I.hok p _ hH)
     dsimp only at h2 h3
     subst h2 h3
     cases kR rv hall
     exact PySem.W.kia_tup Z I.kIn hp h1 hk hne fun tk=>⟨.bl b,H,I.tok tk,rfl,q⟩
end
open PySem PySem.Spec PyProof.Rows
abbrev TSX:=Ends→XK→St→Hp→Prop
section
variable {X:Cx} {CX:CXT} {k:Nat} {f:Addr} {fd:FuncData} {ps:List Str} {sp:Sp} {x:Str} {p pos epos:Pos} {e:Expr} {es:List Expr} {t:TA}
end
section
variable {X:Cx} {pins:List (Addr×Obj)} {σ:St} {H:Hp} {s:Shared} {a:Addr}
end
section
variable {X:Cx} {body suite:List Stmt} {b0:Stmt} {tb:TSX} {ts:TS} {i:Nat} {n cx:Str} {np hpos pos:Pos} {W:Addr}
end
open PySem PySem.Spec PyProof.Rows
section
variable {X:Cx}
def Big (i:Int):Prop:=i.natAbs < 2^8000
theorem ci:OpR X (binaryOp .Mult) (rI (fun i j=>Big i∧Big j) fun i j=> .int (i*j)):=opI fun _ _ _ _ _ _ _ hc q=>
 PyProof.Rows.mul_int q (IntMulOk.of_le (m:=8000) (n:=8000) (intBits_le_iff.mpr hc.1) (intBits_le_iff.mpr hc.2) (by decide))
theorem jH {i j:Int} (h:Big j):Builtin.divisionGoesByPylong i j=false:=by
 refine PyProof.noPylong_of_log2 ?_
 by_cases z:j.natAbs=0
 · rw [z];decide
 · exact Nat.lt_trans ((Nat.log2_lt z).mpr h) (by decide)
theorem be:OpR X (binaryOp .FloorDiv) (rI (fun _ j=>0 < j∧Big j) fun i j=> .int (i / j)):=opI fun i j _ _ _ _ _ hc q=>by
 have h1:(0:Int) < j:=hc.1
 exact floordiv_int (by omega) (by rw [Int.fdiv_eq_ediv_of_nonneg i (by omega)];exact q) (.inl (jH hc.2))
theorem k4:OpR X (binaryOp .FloorDiv) (rI (fun _ j=>j≠0∧Big j) fun i j=> .int (i.fdiv j)):=opI fun _ _ _ _ _ _ _ hc q=>floordiv_int hc.1 q (.inl (jH hc.2))
theorem iQ (hc:X.calm=true):cG X (.builtin "sum") (fun xs H Q=>∃(p:Addr) (ns:List Int),xs= [.ref p]∧SqL X.K H p (ns.map V.int)∧Q (.int ns.sum) H):=by
 intro pins s σ H xs us Q I r h
 obtain ⟨p,ns,e,hp,q⟩:=h
 subst e
 cases r with
 | @cons _ u _ _ r rr=>
  cases rr
  cases (show u=Value.ref p from r)
  obtain ⟨its,rv,pl,_⟩:=I.list hp
  have hi:=lV rv
  obtain ⟨zs,ez⟩:=hi.allInts.items
  have hl:=pl.isList
  rw [ez] at hl
  refine sum_intListG (I.ok.hd hc) hl fun h' tk t' hk=> ?_
  have e2:preSum (numAt zs) zs.size=ns.sum:=by
   have e3:numsOf (intItems zs).toList=ns:=by
    rw [←ez]
    exact hi.numsOf
   rw [preSum_eq,List.take_of_length_le (by simp),←nums_intItems,e3]
  rw [e2]
  exact ⟨.int ns.sum,H,I.kept hk,⟨_,rfl⟩,q⟩
end
theorem aI:bootBuiltins "isinstance"=some (.builtin "isinstance"):=by decide +kernel
theorem kZ:bootBuiltins "sum"=some (.builtin "sum"):=by decide +kernel
theorem im:bootBuiltins "abs"=some (.builtin "abs"):=by decide +kernel
open PySem PySem.Spec PyProof.Rows
section
variable {X:Cx}
end
section
variable {X:Cx} {CX:CXT} {k:Nat} {f:Addr} {fd:FuncData} {ps:List Str} {sp:Sp} {x:Str} {p pos rpos:Pos} {e:Expr} {es:List Expr} {t:TA}
end
section
variable {X:Cx} {body suite:List Stmt} {b0:Stmt} {tb:TSX} {ts:TS} {cx:Str} {np hpos pos:Pos} {W:Addr}
end
end L2
namespace Tre
open PySem PySem.Spec PyProof.Rows L2
inductive Tr where
 |non
 |bl (b:Bool)
 |int (i:Int)
 |str (x:Str)
 |tup (ts:List Tr)
 |ls
mutual
noncomputable def Tr.depth:Tr→Nat
 | .tup ts=>Trs.depth ts+1
 |_=>0
noncomputable def Trs.depth:List Tr→Nat
 | []=>0
 |t::ts=>max (Tr.depth t) (Trs.depth ts)
end
mutual
def Tr.pure:Tr→Prop
 | .tup ts=>Trs.pure ts
 | .ls=>False
 |_=>True
def Trs.pure:List Tr→Prop
 | []=>True
 |t::ts=>Tr.pure t∧Trs.pure ts
end
mutual
def TrAt (H:Hp):V→Tr→Prop
 |v, .non=>v= .non
 |v, .bl b=>v= .bl b
 |v, .int i=>v= .int i
 |v, .str x=>v= .str x
 |v, .tup ts=>∃r vs,v= .ref r∧H r=some (.tup vs)∧TrsAt H vs ts
 |v, .ls=>∃r xs,v= .ref r∧H r=some (.lst xs)
def TrsAt (H:Hp):List V→List Tr→Prop
 |vs,[]=>vs= []
 |vs,t::ts=>∃v r,vs=v::r∧TrAt H v t∧TrsAt H r ts
end
structure Kd (H H':Hp):Prop where
 tup:∀a xs,H a=some (.tup xs)→H' a=some (.tup xs)
 lst:∀a xs,H a=some (.lst xs)→∃ys,H' a=some (.lst ys)
theorem Kd.trans {H H1 H2:Hp} (a:Kd H H1) (b:Kd H1 H2):Kd H H2:=⟨fun x o e=>b.tup x o (a.tup x o e),fun x o e=>by
 obtain ⟨ys,e1⟩:=a.lst x o e
 exact b.lst x ys e1⟩
theorem Kd.of_same {H H':Hp} (s:Same H H'):Kd H H':=⟨fun a xs e=>s a _ e,fun a xs e=>⟨xs,s a _ e⟩⟩
theorem Kd.upd {H:Hp} {p:Addr} {xs ys:List V} (h:H p=some (.lst xs)):Kd H (upd H p (.lst ys)):=by
 refine ⟨fun a zs e=> ?_,fun a zs e=> ?_⟩
 · rw [ak]
   · exact e
   · intro z
     rw [z,h] at e
     cases e
 · by_cases z:a=p
   · subst z
     exact ⟨ys,ac⟩
   · exact ⟨zs,(ak z).trans e⟩
mutual
theorem TrAt.mono {H H':Hp} (k:Kd H H'):∀ {v:V} {t:Tr},TrAt H v t→TrAt H' v t
 |v, .non,h=>by unfold TrAt at h ⊢;exact h
 |v, .bl b,h=>by unfold TrAt at h ⊢;exact h
 |v, .int i,h=>by unfold TrAt at h ⊢;exact h
 |v, .str x,h=>by unfold TrAt at h ⊢;exact h
 |v, .ls,h=>by
  unfold TrAt at h ⊢
  obtain ⟨r,xs,e,h⟩:=h
  obtain ⟨ys,h'⟩:=k.lst r xs h
  exact ⟨r,ys,e,h'⟩
 |v, .tup ts,h=>by
  unfold TrAt at h ⊢
  obtain ⟨r,vs,e,h1,h2⟩:=h
  exact ⟨r,vs,e,k.tup _ _ h1,TrsAt.mono k h2⟩
theorem TrsAt.mono {H H':Hp} (k:Kd H H'):∀ {vs:List V} {ts:List Tr},TrsAt H vs ts→TrsAt H' vs ts
 |vs,[],h=>by unfold TrsAt at h ⊢;exact h
 |vs,t::ts,h=>by
  unfold TrsAt at h ⊢
  obtain ⟨v,r,e,h1,h2⟩:=h
  exact ⟨v,r,e,TrAt.mono k h1,TrsAt.mono k h2⟩
end
theorem TrsAt.nil {H:Hp}:TrsAt H [] []:=by unfold TrsAt;rfl
theorem TrsAt.cons {H:Hp} {v:V} {t:Tr} {vs:List V} {ts:List Tr} (h:TrAt H v t) (r:TrsAt H vs ts):TrsAt H (v::vs) (t::ts):=by
 unfold TrsAt
 exact ⟨v,vs,rfl,h,r⟩
theorem TrsAt.inv {H:Hp} {t:Tr} {vs:List V} {ts:List Tr} (h:TrsAt H vs (t::ts)):∃v r,vs=v::r∧TrAt H v t∧TrsAt H r ts:=by
 unfold TrsAt at h
 exact h
theorem TrsAt.len {H:Hp}:∀ {vs:List V} {ts:List Tr},TrsAt H vs ts→vs.length=ts.length
 |vs,[],h=>by
  unfold TrsAt at h
  rw [h]
  rfl
 |vs,t::ts,h=>by
  obtain ⟨v,r,e,_,h2⟩:=h.inv
  rw [e,List.length_cons,List.length_cons,h2.len]
theorem TrsAt.app {H:Hp} {ws:List V} {us:List Tr} (b:TrsAt H ws us):∀ {vs:List V} {ts:List Tr},TrsAt H vs ts→TrsAt H (vs++ws) (ts++us)
 |vs,[],h=>by
  unfold TrsAt at h
  subst h
  exact b
 |vs,t::ts,h=>by
  obtain ⟨v,r,e,h1,h2⟩:=h.inv
  subst e
  exact .cons h1 (TrsAt.app b h2)
theorem TrsAt.get {H:Hp}:∀ {vs:List V} {ts:List Tr} {i:Nat} {t:Tr},TrsAt H vs ts→ts[i]?=some t→∃v,vs[i]?=some v∧TrAt H v t
 |vs,[],i,t,_,e=>by simp at e
 |vs,a::ts,0,t,h,e=>by
  obtain ⟨v,r,rfl,h1,h2⟩:=h.inv
  simp at e
  subst e
  exact ⟨v,rfl,h1⟩
 |vs,a::ts,i+1,t,h,e=>by
  obtain ⟨v,r,rfl,h1,h2⟩:=h.inv
  obtain ⟨u,e1,e2⟩:=h2.get (i:=i) (by simpa using e)
  exact ⟨u,by simpa using e1,e2⟩
theorem TrsAt.get' {H:Hp} {vs:List V} {ts:List Tr} {i:Nat} {v:V} (h:TrsAt H vs ts) (e:vs[i]?=some v):∃t,ts[i]?=some t∧TrAt H v t:=by
 have hl:=h.len
 have hi:i < vs.length:=(List.getElem?_eq_some_iff.mp e).1
 obtain ⟨u,e1,e2⟩:=h.get (i:=i) (t:=ts[i]'(by omega)) (List.getElem?_eq_getElem _)
 rw [e] at e1
 cases e1
 exact ⟨_,List.getElem?_eq_getElem _,e2⟩
mutual
theorem TrAt.det {H:Hp}:∀ {v:V} {t u:Tr},TrAt H v t→TrAt H v u→t=u
 |v, .non,u,h1,h2=>by
  unfold TrAt at h1
  subst h1
  cases u<;>unfold TrAt at h2<;>first|rfl|(cases h2;done)|(obtain ⟨_,_,e,_⟩:=h2;cases e)
 |v, .bl b,u,h1,h2=>by
  unfold TrAt at h1
  subst h1
  cases u<;>unfold TrAt at h2<;>first|(cases h2;rfl)|(cases h2;done)|(obtain ⟨_,_,e,_⟩:=h2;cases e)
 |v, .int b,u,h1,h2=>by
  unfold TrAt at h1
  subst h1
  cases u<;>unfold TrAt at h2<;>first|(cases h2;rfl)|(cases h2;done)|(obtain ⟨_,_,e,_⟩:=h2;cases e)
 |v, .str b,u,h1,h2=>by
  unfold TrAt at h1
  subst h1
  cases u<;>unfold TrAt at h2<;>first|(cases h2;rfl)|(cases h2;done)|(obtain ⟨_,_,e,_⟩:=h2;cases e)
 |v, .ls,u,h1,h2=>by
  unfold TrAt at h1
  obtain ⟨r,xs,rfl,h1⟩:=h1
  cases u<;>unfold TrAt at h2<;>first|rfl|(cases h2;done)|(obtain ⟨_,_,e,h2,_⟩:=h2;cases e;rw [h1] at h2;cases h2)
 |v, .tup ts, .tup us,h1,h2=>by
  unfold TrAt at h1 h2
  obtain ⟨r,vs,rfl,h1,h3⟩:=h1
  obtain ⟨r',vs',e,h2,h4⟩:=h2
  cases e
  rw [h1] at h2
  cases h2
  rw [TrsAt.det h3 h4]
 |v, .tup ts, .non,h1,h2=>by unfold TrAt at h1 h2;obtain ⟨_,_,e,_⟩:=h1;rw [h2] at e;cases e
 |v, .tup ts, .bl _,h1,h2=>by unfold TrAt at h1 h2;obtain ⟨_,_,e,_⟩:=h1;rw [h2] at e;cases e
 |v, .tup ts, .int _,h1,h2=>by unfold TrAt at h1 h2;obtain ⟨_,_,e,_⟩:=h1;rw [h2] at e;cases e
 |v, .tup ts, .str _,h1,h2=>by unfold TrAt at h1 h2;obtain ⟨_,_,e,_⟩:=h1;rw [h2] at e;cases e
 |v, .tup ts, .ls,h1,h2=>by
  unfold TrAt at h1 h2
  obtain ⟨r,vs,rfl,h1,_⟩:=h1
  obtain ⟨r',xs,e,h2⟩:=h2
  cases e
  rw [h1] at h2
  cases h2
theorem TrsAt.det {H:Hp}:∀ {vs:List V} {ts us:List Tr},TrsAt H vs ts→TrsAt H vs us→ts=us
 |vs,[],[],_,_=>rfl
 |vs,[],u::us,h1,h2=>by
  have a:=h1.len
  have b:=h2.len
  rw [a] at b
  simp at b
 |vs,t::ts,[],h1,h2=>by
  have a:=h1.len
  have b:=h2.len
  rw [a] at b
  simp at b
 |vs,t::ts,u::us,h1,h2=>by
  obtain ⟨v,r,rfl,h3,h4⟩:=h1.inv
  obtain ⟨v',r',e,h5,h6⟩:=h2.inv
  cases e
  rw [TrAt.det h3 h5,TrsAt.det h4 h6]
end
mutual
noncomputable def eqT:Tr→Tr→Bool
 | .non, .non=>true
 | .bl a, .bl b=>a==b
 | .bl a, .int i=>(if a then 1 else 0)==i
 | .int i, .bl b=>i==(if b then 1 else 0)
 | .int i, .int j=>i==j
 | .str x, .str y=>x==y
 | .tup ts, .tup us=>eqTs ts us
 | .ls, .ls=>true
 |_,_=>false
noncomputable def eqTs:List Tr→List Tr→Bool
 | [],[]=>true
 |t::ts,u::us=>eqT t u&&eqTs ts us
 |_,_=>false
end
mutual
theorem ky:∀t:Tr,eqT t t=true
 | .non=>by simp [eqT]
 | .bl _=>by simp [eqT]
 | .int _=>by simp [eqT]
 | .str _=>by simp [eqT]
 | .ls=>by simp [eqT]
 | .tup ts=>by simp only [eqT];exact eqTs_refl ts
theorem eqTs_refl:∀ts:List Tr,eqTs ts ts=true
 | []=>by simp [eqTs]
 |t::ts=>by simp [eqTs,ky t,eqTs_refl ts]
end
noncomputable def eqJ (ts us:List Tr) (j:Nat):Bool:=match ts[j]?,us[j]? with
 |some t,some u=>eqT t u
 |_,_=>true
theorem rN {ts us:List Tr} {j:Nat} {t u:Tr} (h1:ts[j]?=some t) (h2:us[j]?=some u):eqJ ts us j=eqT t u:=by
 unfold eqJ
 rw [h1,h2]
theorem i5:∀(ts us:List Tr),eqTs ts us=((List.range (min ts.length us.length)).all (eqJ ts us)&&ts.length==us.length)
 | [],[]=>by simp [eqTs]
 | [],u::us=>by simp [eqTs]
 |t::ts,[]=>by simp [eqTs]
 |t::ts,u::us=>by
  simp only [eqTs,List.length_cons]
  rw [i5 ts us,show min (ts.length+1) (us.length+1)=min ts.length us.length+1 by omega,List.range_succ_eq_map,List.all_cons,List.all_map]
  have e:(eqJ (t::ts) (u::us)) ∘ Nat.succ=eqJ ts us:=by
   funext j
   simp [eqJ]
  rw [e]
  simp [eqJ,Bool.and_assoc]
open PySem PySem.Spec PyProof.Rows L2
section
variable {X:Cx} {pins:List (Addr×Obj)} {σ:L2.St} {H:Hp} {s:Shared} {A:Around}
theorem oa {a b:Addr} {xs ys:List V} (I:Inv X pins σ H s) (ha:H a=some (.tup xs)) (hb:H b=some (.tup ys)) (hu:A.units < cLine) (e:Nat→Bool) (hne:a≠b)
 (he:∀j x y u v,xs[j]?=some x→ys[j]?=some y→RelV x u→RelV y v→SeqAt.EqAt A.in1 s u v (e j)):
 SeqAt.EqAt A s (.ref a) (.ref b) ((List.range (min xs.length ys.length)).all e&&xs.length==ys.length):=by
 obtain ⟨us,r1,p1,_⟩:=I.tuple (SqT.of ha)
 obtain ⟨ws,r2,p2,_⟩:=I.tuple (SqT.of hb)
 have l1:=r1.length
 have l2:=r2.length
 have:=SeqAt.RcAt.tuples (A:=A) (e:=e) (show s.heap.IsTuple a us.toArray from p1) (show s.heap.IsTuple b ws.toArray from p2) hu fun j h1 h2=>by
  have h1':j < us.length:=by simpa using h1
  have h2':j < ws.length:=by simpa using h2
  obtain ⟨u,e1,q1⟩:=r1.get (i:=j) (x:=xs[j]'(by omega)) (List.getElem?_eq_getElem _)
  obtain ⟨v,e2,q2⟩:=r2.get (i:=j) (x:=ys[j]'(by omega)) (List.getElem?_eq_getElem _)
  have z1:us.toArray[j]=u:=by rw [List.getElem_toArray];rw [List.getElem?_eq_getElem h1'] at e1;exact Option.some.inj e1
  have z2:ws.toArray[j]=v:=by rw [List.getElem_toArray];rw [List.getElem?_eq_getElem h2'] at e2;exact Option.some.inj e2
  rw [z1,z2]
  exact he j _ _ u v (List.getElem?_eq_getElem _) (List.getElem?_eq_getElem _) q1 q2
 rw [List.size_toArray,List.size_toArray,←l1,←l2] at this
 exact SeqAt.EqAt.of_refs hne this
theorem bc:∀ {ts:List Tr} {t:Tr},t∈ts→t.depth≤Trs.depth ts
 |a::ts,t,h=>by
  unfold Trs.depth
  rcases List.mem_cons.mp h with rfl|h
  · omega
  · have:=bc h
    omega
theorem dh:∀ {ts:List Tr} {t:Tr},Trs.pure ts→t∈ts→t.pure
 |a::ts,t,p,h=>by
  unfold Trs.pure at p
  rcases List.mem_cons.mp h with rfl|h
  · exact p.1
  · exact dh p.2 h
theorem cR {r:Addr} {vs:List V} (I:Inv X pins σ H s) (h:H r=some (.tup vs)):∃its:Array Value,s.heap.IsTuple r its:=by
 obtain ⟨us,_,p,_⟩:=I.tuple (SqT.of h)
 exact ⟨_,p⟩
theorem cS {r:Addr} {vs:List V} (I:Inv X pins σ H s) (h:H r=some (.lst vs)):∃its:Array Value,s.heap.IsList r its:=by
 obtain ⟨us,_,p,_⟩:=I.list (SqL.of h)
 exact ⟨_,p.isList⟩
theorem mV (I:Inv X pins σ H s) {A:Around} {t u:Tr} {v w:V} {a b:Value} (hd:∀ts,t≠ .tup ts) (hp:t.pure∨u.pure) (h1:TrAt H v t) (h2:TrAt H w u) (r1:RelV v a) (r2:RelV w b) (hu0:A.units < cLine):SeqAt.EqAt A s a b (eqT t u):=by
 cases t with
 |tup ts=>exact (hd ts rfl).elim
 |non=>
  unfold TrAt at h1
  subst h1
  cases (show a=Value.none from r1)
  cases u with
  |non=>unfold TrAt at h2;subst h2;cases (show b=Value.none from r2);simp only [eqT];exact SeqAt.EqAt.same _
  |bl c=>unfold TrAt at h2;subst h2;cases (show b=Value.bool c from r2);simp only [eqT];exact SeqAt.EqAt.none_bool c
  |int c=>unfold TrAt at h2;subst h2;obtain ⟨t',rfl⟩:=r2;simp only [eqT];exact SeqAt.EqAt.none_int c t'
  |str c=>unfold TrAt at h2;subst h2;obtain ⟨t',rfl⟩:=r2;simp only [eqT];exact SeqAt.EqAt.none_str c t'
  |tup us=>unfold TrAt at h2;obtain ⟨r,vs,rfl,g1,_⟩:=h2;cases r2;obtain ⟨its,p⟩:=cR I g1;simp only [eqT];exact SeqAt.EqAt.none_tuple p hu0
  |ls=>unfold TrAt at h2;obtain ⟨r,vs,rfl,g1⟩:=h2;cases r2;obtain ⟨its,p⟩:=cS I g1;simp only [eqT];exact SeqAt.EqAt.none_list p hu0
 |bl d=>
  unfold TrAt at h1
  subst h1
  cases (show a=Value.bool d from r1)
  cases u with
  |non=>unfold TrAt at h2;subst h2;cases (show b=Value.none from r2);simp only [eqT];exact SeqAt.EqAt.bool_none d
  |bl c=>unfold TrAt at h2;subst h2;cases (show b=Value.bool c from r2);simp only [eqT];exact SeqAt.EqAt.bool_bool d c
  |int c=>unfold TrAt at h2;subst h2;obtain ⟨t',rfl⟩:=r2;simp only [eqT];exact SeqAt.EqAt.bool_int d c t'
  |str c=>unfold TrAt at h2;subst h2;obtain ⟨t',rfl⟩:=r2;simp only [eqT];exact SeqAt.EqAt.bool_str d c t'
  |tup us=>unfold TrAt at h2;obtain ⟨r,vs,rfl,g1,_⟩:=h2;cases r2;obtain ⟨its,p⟩:=cR I g1;simp only [eqT];exact SeqAt.EqAt.bool_tuple d p hu0
  |ls=>unfold TrAt at h2;obtain ⟨r,vs,rfl,g1⟩:=h2;cases r2;obtain ⟨its,p⟩:=cS I g1;simp only [eqT];exact SeqAt.EqAt.bool_list d p hu0
 |int d=>
  unfold TrAt at h1
  subst h1
  obtain ⟨t0,rfl⟩:=r1
  cases u with
  |non=>unfold TrAt at h2;subst h2;cases (show b=Value.none from r2);simp only [eqT];exact SeqAt.EqAt.int_none d t0
  |bl c=>unfold TrAt at h2;subst h2;cases (show b=Value.bool c from r2);simp only [eqT];exact SeqAt.EqAt.int_bool d t0 c
  |int c=>unfold TrAt at h2;subst h2;obtain ⟨t',rfl⟩:=r2;simp only [eqT];exact SeqAt.EqAt.int_int d t0 c t'
  |str c=>unfold TrAt at h2;subst h2;obtain ⟨t',rfl⟩:=r2;simp only [eqT];exact SeqAt.EqAt.int_str d t0 c t'
  |tup us=>unfold TrAt at h2;obtain ⟨r,vs,rfl,g1,_⟩:=h2;cases r2;obtain ⟨its,p⟩:=cR I g1;simp only [eqT];exact SeqAt.EqAt.int_tuple d t0 p hu0
  |ls=>unfold TrAt at h2;obtain ⟨r,vs,rfl,g1⟩:=h2;cases r2;obtain ⟨its,p⟩:=cS I g1;simp only [eqT];exact SeqAt.EqAt.int_list d t0 p hu0
 |str d=>
  unfold TrAt at h1
  subst h1
  obtain ⟨t0,rfl⟩:=r1
  cases u with
  |non=>unfold TrAt at h2;subst h2;cases (show b=Value.none from r2);simp only [eqT];exact SeqAt.EqAt.str_none d t0
  |bl c=>unfold TrAt at h2;subst h2;cases (show b=Value.bool c from r2);simp only [eqT];exact SeqAt.EqAt.str_bool d t0 c
  |int c=>unfold TrAt at h2;subst h2;obtain ⟨t',rfl⟩:=r2;simp only [eqT];exact SeqAt.EqAt.str_int d t0 c t'
  |str c=>unfold TrAt at h2;subst h2;obtain ⟨t',rfl⟩:=r2;simp only [eqT];exact SeqAt.EqAt.str_str d t0 c t'
  |tup us=>unfold TrAt at h2;obtain ⟨r,vs,rfl,g1,_⟩:=h2;cases r2;obtain ⟨its,p⟩:=cR I g1;simp only [eqT];exact SeqAt.EqAt.str_tuple d t0 p hu0
  |ls=>unfold TrAt at h2;obtain ⟨r,vs,rfl,g1⟩:=h2;cases r2;obtain ⟨its,p⟩:=cS I g1;simp only [eqT];exact SeqAt.EqAt.str_list d t0 p hu0
 |ls=>
  unfold TrAt at h1
  obtain ⟨r0,vs0,rfl,g0⟩:=h1
  cases r1
  obtain ⟨its0,p0⟩:=cS I g0
  cases u with
  |non=>unfold TrAt at h2;subst h2;cases (show b=Value.none from r2);simp only [eqT];exact SeqAt.EqAt.list_none p0 hu0
  |bl c=>unfold TrAt at h2;subst h2;cases (show b=Value.bool c from r2);simp only [eqT];exact SeqAt.EqAt.list_bool c p0 hu0
  |int c=>unfold TrAt at h2;subst h2;obtain ⟨t',rfl⟩:=r2;simp only [eqT];exact SeqAt.EqAt.list_int c t' p0 hu0
  |str c=>unfold TrAt at h2;subst h2;obtain ⟨t',rfl⟩:=r2;simp only [eqT];exact SeqAt.EqAt.list_str c t' p0 hu0
  |tup us=>unfold TrAt at h2;obtain ⟨r,vs,rfl,g1,_⟩:=h2;cases r2;obtain ⟨its,p⟩:=cR I g1;simp only [eqT];exact SeqAt.EqAt.list_tuple p0 p hu0
  |ls=>rcases hp with hp|hp<;>simp [Tr.pure] at hp
theorem mj (I:Inv X pins σ H s):∀(n:Nat) {A:Around} {t u:Tr} {v w:V} {a b:Value},t.depth≤n→(t.pure∨u.pure)→TrAt H v t→TrAt H w u→RelV v a→RelV w b→A.units+n+1 < cLine→SeqAt.EqAt A s a b (eqT t u):=by
 intro n
 induction n with
 |zero=>
  intro A t u v w a b hd hp h1 h2 r1 r2 hu
  refine mV I (fun ts e=> ?_) hp h1 h2 r1 r2 (by omega)
  subst e
  simp [Tr.depth] at hd
 |succ n ih=>
  intro A t u v w a b hd hp h1 h2 r1 r2 hu
  have hu0:A.units < cLine:=by omega
  cases t with
  |tup ts=>
   have h1':=h1
   have h2':=h2
   unfold TrAt at h1
   obtain ⟨r0,vs0,rfl,g0,k0⟩:=h1
   cases r1
   obtain ⟨its0,p0⟩:=cR I g0
   unfold Tr.depth at hd
   cases u with
   |non=>unfold TrAt at h2;subst h2;cases (show b=Value.none from r2);simp only [eqT];exact SeqAt.EqAt.tuple_none p0 hu0
   |bl c=>unfold TrAt at h2;subst h2;cases (show b=Value.bool c from r2);simp only [eqT];exact SeqAt.EqAt.tuple_bool c p0 hu0
   |int c=>unfold TrAt at h2;subst h2;obtain ⟨t',rfl⟩:=r2;simp only [eqT];exact SeqAt.EqAt.tuple_int c t' p0 hu0
   |str c=>unfold TrAt at h2;subst h2;obtain ⟨t',rfl⟩:=r2;simp only [eqT];exact SeqAt.EqAt.tuple_str c t' p0 hu0
   |ls=>unfold TrAt at h2;obtain ⟨r,vs,rfl,g1⟩:=h2;cases r2;obtain ⟨its,p⟩:=cS I g1;simp only [eqT];exact SeqAt.EqAt.tuple_list p0 p hu0
   |tup us=>
    unfold TrAt at h2
    obtain ⟨r,vs,rfl,g1,k1⟩:=h2
    cases r2
    by_cases z:r0=r
    · subst z
      rw [←TrAt.det h1' h2',ky]
      exact SeqAt.EqAt.same _
    · have:=oa I g0 g1 hu0 (eqJ ts us) z fun j x y u' v' m1 m2 q1 q2=>by
       obtain ⟨t1,n1,a1⟩:=k0.get' m1
       obtain ⟨t2,n2,a2⟩:=k1.get' m2
       rw [rN n1 n2]
       refine ih (A:=A.in1) (by have:=bc (List.mem_of_getElem? n1);omega) ?_ a1 a2 q1 q2 (by show A.units+1+n+1 < cLine;omega)
       rcases hp with hp|hp
       · unfold Tr.pure at hp
         exact .inl (dh hp (List.mem_of_getElem? n1))
       · unfold Tr.pure at hp
         exact .inr (dh hp (List.mem_of_getElem? n2))
      rw [k0.len,k1.len,←i5] at this
      simp only [eqT]
      exact this
  |_=>exact mV I (fun ts e=>by cases e) hp h1 h2 r1 r2 hu0
end
open PySem PySem.Spec PyProof.Rows L2
open PySem.AutoSeq1 (wpAny_loadPart')
def LtAt (A:Around) (s:Shared) (y x:Value) (b:Bool):Prop:=
 ∀(prog:Program) (w:World) (E:Value→Shared→Prop) (Q:Value→Shared→Prop),Q (.bool b) s→wpAny (model prog w) A (richCompare .Lt y x) Q E s
def cp (A:Around) (s:Shared):List Value→List Value→List (Bool×Bool)→Prop
 |v::vs,w::ws,(e,l)::q=>SeqAt.EqAt A s v w e∧(e=false→LtAt A s v w l)∧(e=true→cp A s vs ws q)
 | [],_,q=>q= []
 |_,[],q=>q= []
 |_,_,_=>False
noncomputable def lexV (fin:Bool):List (Bool×Bool)→Bool
 | []=>fin
 |(e,l)::q=>if e=true then lexV fin q else l
theorem j4 (l b:Addr) (items items2:Array Value) (n n2:Nat) (dd dd2:Option Addr) (sl sl2:Array (Option Value)) (q:List (Bool×Bool)):
 Meets (Builtin.«tuple.__lt__» ⟨[.ref l, .ref b],[]⟩)
  (fun A R s=>s.heap.get? l=some {cls:= .type "tuple",dict:=dd,data:= .seq items n,slots:=sl}∧s.heap.get? b=some {cls:= .type "tuple",dict:=dd2,data:= .seq items2 n2,slots:=sl2}∧
   cp A.in1 s items.toList items2.toList q∧R (.ok (.ret (.bool (lexV (decide (items.size < items2.size)) q)))) s):=
 .of_wp fun prog w A R s h=>by
  obtain ⟨hp,g,d,tk,os⟩:=s;obtain ⟨hl,hb,hx,h⟩:=h
  have f2:=AutoSeq1.sub_tuple_tuple
  wp_walk using wpAny_loadPart' hl,wpAny_loadPart' hb,wpAny_forIn_list _ (fun rest b s'=>b.1=none∧s'=⟨hp,g,d,tk,os⟩∧∃(vs ws:List Value) (q':List (Bool×Bool)),rest=vs.zip ws∧
   cp A.in1 ⟨hp,g,d,tk,os⟩ vs ws q'∧R (.ok (.ret (.bool (lexV (decide (items.size < items2.size)) q')))) ⟨hp,g,d,tk,os⟩) _
  case turn=>
   rintro ⟨y,x⟩ rest b s' ⟨hb',rfl,vs,ws,q',hz,hlx,hR⟩
   match vs,ws,q',hz,hlx,hR with
   | [],_,_,hz,_,_=>rw [List.zip_nil_left] at hz;cases hz
   |_::_,[],_,hz,_,_=>rw [List.zip_nil_right] at hz;cases hz
   |v::vs,w'::ws,[],_,hlx,_=>exact hlx.elim
   |v::vs,w'::ws,(e,lo)::q',hz,hlx,hR=>
    rw [List.zip_cons_cons] at hz
    injection hz with hyx hrest
    injection hyx with hy hx'
    subst hy hx'
    obtain ⟨he,hlt,hlx⟩:=hlx
    refine wpAny_bind (he prog w _ _ ?_)
    cases e with
    |true=>
     wp_walk
     exact ⟨rfl,rfl,_,_,_,hrest,hlx rfl,hR⟩
    |false=>
     have hri:=hlt rfl prog w
     wp_walk using hri
     exact ⟨_,rfl,hR⟩
  case fin=>
   rintro ⟨b1,b2⟩ s' ⟨hb',rfl,vs,ws,q',hz,hlx,hR⟩
   simp only at hb'
   subst hb'
   have hq:q'= []:=by
    match vs,ws,q',hz,hlx with
    | [],_,_,_,hlx=>unfold cp at hlx;exact hlx
    |_::_,[],_,_,hlx=>unfold cp at hlx;exact hlx
    |_::_,_::_,_,hz,_=>rw [List.zip_cons_cons] at hz;cases hz
   subst hq
   wp_walk
   exact ⟨_,rfl,by simpa [Builtin.Tuple.tupleCompareSizes,lexV] using hR⟩
  case h=>
   exact ⟨rfl,rfl,items.toList,items2.toList,q,rfl,hx,h⟩
theorem lb {A:Around} {s:Shared} {l b:Addr} {items items2:Array Value} {q:List (Bool×Bool)} (hl:s.heap.IsTuple l items) (hb:s.heap.IsTuple b items2) (hu:A.units < cLine)
 (hx:cp A.in1 s items.toList items2.toList q):LtAt A s (.ref l) (.ref b) (lexV (decide (items.size < items2.size)) q):=by
 intro prog w E Q h
 obtain ⟨⟨cls,dd,data,sl⟩,ho,hc,n,hd⟩:=id hl
 obtain ⟨⟨cls2,dd2,data2,sl2⟩,ho2,hc2,n2,hd2⟩:=id hb
 simp only at hc hd hc2 hd2
 subst hc hd hc2 hd2
 exact richCompare_meets_room (op:= .Lt) ⟨_,ho,rfl⟩ ⟨_,ho2,rfl⟩ PySem.F.slot_tuple_lt PySem.F.entry_tuple_lt (PySem.F.args_tuple_lt_2 _ _) (j4 l b items items2 n n2 dd dd2 sl sl2 q)
  ⟨ho,ho2,hx,show Value.bool (lexV (decide (items.size < items2.size)) q)≠Value.notImplemented∧Q (.bool (lexV (decide (items.size < items2.size)) q)) s from ⟨(fun x=>nomatch x),h⟩⟩ hu
end Tre
namespace Tre
open PySem L2
inductive Co where
 |non
 |num (i:Int)
 |str (l:List Nat)
 |tup (cs:List Co)
 |ls
noncomputable def Co.kind:Co→Nat
 | .non=>0
 | .num _=>1
 | .str _=>2
 | .tup _=>3
 | .ls=>4
mutual
noncomputable def code:Tr→Co
 | .non=> .non
 | .bl b=> .num (if b then 1 else 0)
 | .int i=> .num i
 | .str x=> .str x.cps.toList
 | .tup ts=> .tup (codes ts)
 | .ls=> .ls
noncomputable def codes:List Tr→List Co
 | []=> []
 |t::ts=>code t::codes ts
end
theorem ja (x y:Str):((x==y)=true)↔x.cps.toList=y.cps.toList:=by
 rw [beq_iff_eq]
 constructor
 · rintro rfl
   rfl
 · intro h
   cases x
   cases y
   simp only [Str.mk.injEq]
   exact Array.toList_inj.mp h
mutual
theorem dq:∀(t u:Tr),(eqT t u=true)↔code t=code u
 | .non,u=>by cases u<;>simp [eqT,code]
 | .bl a,u=>by cases u<;>simp [eqT,code];cases a<;>rename_i b<;>cases b<;>simp
 | .int i,u=>by cases u<;>simp [eqT,code]
 | .str x, .str y=>by simp only [eqT,code,Co.str.injEq];exact ja x y
 | .str x, .non=>by simp [eqT,code]
 | .str x, .bl _=>by simp [eqT,code]
 | .str x, .int _=>by simp [eqT,code]
 | .str x, .tup _=>by simp [eqT,code]
 | .str x, .ls=>by simp [eqT,code]
 | .ls,u=>by cases u<;>simp [eqT,code]
 | .tup ts, .tup us=>by simp only [eqT,code,Co.tup.injEq];exact eqTs_code ts us
 | .tup ts, .non=>by simp [eqT,code]
 | .tup ts, .bl _=>by simp [eqT,code]
 | .tup ts, .int _=>by simp [eqT,code]
 | .tup ts, .str _=>by simp [eqT,code]
 | .tup ts, .ls=>by simp [eqT,code]
theorem eqTs_code:∀(ts us:List Tr),(eqTs ts us=true)↔codes ts=codes us
 | [],[]=>by simp [eqTs,codes]
 | [],u::us=>by simp [eqTs,codes]
 |t::ts,[]=>by simp [eqTs,codes]
 |t::ts,u::us=>by
  simp only [eqTs,codes,Bool.and_eq_true,List.cons.injEq]
  rw [dq t u,eqTs_code ts us]
end
mutual
def LtC:Co→Co→Prop
 | .num i, .num j=>i < j
 | .str l, .str m=>l < m
 | .tup cs, .tup ds=>LtCs cs ds
 |c,d=>c.kind < d.kind
def LtCs:List Co→List Co→Prop
 | [],[]=>False
 | [],_::_=>True
 |_::_,[]=>False
 |c::cs,d::ds=>LtC c d∨(c=d∧LtCs cs ds)
end
theorem kc {c d:Co} (h:LtC c d):c.kind≤d.kind:=by
 cases c<;>cases d<;>simp [LtC,Co.kind] at h ⊢
theorem ka {c d:Co} (h:c.kind < d.kind):LtC c d:=by
 cases c<;>cases d<;>simp [LtC,Co.kind] at h ⊢
mutual
theorem jv:∀c:Co,¬LtC c c
 | .non=>by simp [LtC,Co.kind]
 | .num _=>by simp [LtC]
 | .str l=>by simp only [LtC];exact List.lt_irrefl l
 | .tup cs=>by simp only [LtC];exact ltCs_irr cs
 | .ls=>by simp [LtC,Co.kind]
theorem ltCs_irr:∀cs:List Co,¬LtCs cs cs
 | []=>by simp [LtCs]
 |c::cs=>by
  simp only [LtCs,not_or]
  exact ⟨jv c,fun h=>ltCs_irr cs h.2⟩
end
mutual
theorem ju:∀c d:Co,LtC c d∨c=d∨LtC d c
 | .num i, .num j=>by simp only [LtC,Co.num.injEq];omega
 | .str l, .str m=>by
  simp only [LtC,Co.str.injEq]
  by_cases h1:l < m
  · exact .inl h1
  · by_cases h2:m < l
    · exact .inr (.inr h2)
    · exact .inr (.inl (List.le_antisymm (List.not_lt.mp h2) (List.not_lt.mp h1)))
 | .tup cs, .tup ds=>by simp only [LtC,Co.tup.injEq];exact ltCs_tri cs ds
 | .non,d=>by cases d<;>simp [LtC,Co.kind]
 | .ls,d=>by cases d<;>simp [LtC,Co.kind]
 | .num i, .non=>by simp [LtC,Co.kind]
 | .num i, .str _=>by simp [LtC,Co.kind]
 | .num i, .tup _=>by simp [LtC,Co.kind]
 | .num i, .ls=>by simp [LtC,Co.kind]
 | .str i, .non=>by simp [LtC,Co.kind]
 | .str i, .num _=>by simp [LtC,Co.kind]
 | .str i, .tup _=>by simp [LtC,Co.kind]
 | .str i, .ls=>by simp [LtC,Co.kind]
 | .tup i, .non=>by simp [LtC,Co.kind]
 | .tup i, .num _=>by simp [LtC,Co.kind]
 | .tup i, .str _=>by simp [LtC,Co.kind]
 | .tup i, .ls=>by simp [LtC,Co.kind]
theorem ltCs_tri:∀cs ds:List Co,LtCs cs ds∨cs=ds∨LtCs ds cs
 | [],[]=>by simp
 | [],d::ds=>by simp [LtCs]
 |c::cs,[]=>by simp [LtCs]
 |c::cs,d::ds=>by
  simp only [LtCs,List.cons.injEq]
  rcases ju c d with h|h|h
  · exact .inl (.inl h)
  · rcases ltCs_tri cs ds with g|g|g
    · exact .inl (.inr ⟨h,g⟩)
    · exact .inr (.inl ⟨h,g⟩)
    · exact .inr (.inr (.inr ⟨h.symm,g⟩))
  · exact .inr (.inr (.inl h))
end
theorem aH {a b c:Co} (h1:LtC a b) (h2:LtC b c) (hk:a.kind < b.kind∨b.kind < c.kind):LtC a c:=by
 have k1:=kc h1
 have k2:=kc h2
 exact ka (by omega)
mutual
theorem dU:∀ {a b c:Co},LtC a b→LtC b c→LtC a c
 | .num i, .num j, .num k,h1,h2=>by simp only [LtC] at *;omega
 | .str i, .str j, .str k,h1,h2=>by simp only [LtC] at *;exact List.lt_trans h1 h2
 | .tup i, .tup j, .tup k,h1,h2=>by simp only [LtC] at *;exact ltCs_trans h1 h2
 | .num _, .num _, .str _,h1,h2=>aH h1 h2 (by simp [LtC,Co.kind] at h1 h2 ⊢)
 | .num _, .num _, .tup _,h1,h2=>aH h1 h2 (by simp [LtC,Co.kind] at h1 h2 ⊢)
 | .num _, .num _, .non,h1,h2=>aH h1 h2 (by simp [LtC,Co.kind] at h1 h2 ⊢)
 | .num _, .num _, .ls,h1,h2=>aH h1 h2 (by simp [LtC,Co.kind] at h1 h2 ⊢)
 | .num _, .str _,_,h1,h2=>aH h1 h2 (by simp [LtC,Co.kind] at h1 h2 ⊢)
 | .num _, .tup _,_,h1,h2=>aH h1 h2 (by simp [LtC,Co.kind] at h1 h2 ⊢)
 | .num _, .non,_,h1,h2=>aH h1 h2 (by simp [LtC,Co.kind] at h1 h2 ⊢)
 | .num _, .ls,_,h1,h2=>aH h1 h2 (by simp [LtC,Co.kind] at h1 h2 ⊢)
 | .str _, .str _, .num _,h1,h2=>aH h1 h2 (by simp [LtC,Co.kind] at h1 h2 ⊢)
 | .str _, .str _, .tup _,h1,h2=>aH h1 h2 (by simp [LtC,Co.kind] at h1 h2 ⊢)
 | .str _, .str _, .non,h1,h2=>aH h1 h2 (by simp [LtC,Co.kind] at h1 h2 ⊢)
 | .str _, .str _, .ls,h1,h2=>aH h1 h2 (by simp [LtC,Co.kind] at h1 h2 ⊢)
 | .str _, .num _,_,h1,h2=>aH h1 h2 (by simp [LtC,Co.kind] at h1 h2 ⊢)
 | .str _, .tup _,_,h1,h2=>aH h1 h2 (by simp [LtC,Co.kind] at h1 h2 ⊢)
 | .str _, .non,_,h1,h2=>aH h1 h2 (by simp [LtC,Co.kind] at h1 h2 ⊢)
 | .str _, .ls,_,h1,h2=>aH h1 h2 (by simp [LtC,Co.kind] at h1 h2 ⊢)
 | .tup _, .tup _, .num _,h1,h2=>aH h1 h2 (by simp [LtC,Co.kind] at h1 h2 ⊢)
 | .tup _, .tup _, .str _,h1,h2=>aH h1 h2 (by simp [LtC,Co.kind] at h1 h2 ⊢)
 | .tup _, .tup _, .non,h1,h2=>aH h1 h2 (by simp [LtC,Co.kind] at h1 h2 ⊢)
 | .tup _, .tup _, .ls,h1,h2=>aH h1 h2 (by simp [LtC,Co.kind] at h1 h2 ⊢)
 | .tup _, .num _,_,h1,h2=>aH h1 h2 (by simp [LtC,Co.kind] at h1 h2 ⊢)
 | .tup _, .str _,_,h1,h2=>aH h1 h2 (by simp [LtC,Co.kind] at h1 h2 ⊢)
 | .tup _, .non,_,h1,h2=>aH h1 h2 (by simp [LtC,Co.kind] at h1 h2 ⊢)
 | .tup _, .ls,_,h1,h2=>aH h1 h2 (by simp [LtC,Co.kind] at h1 h2 ⊢)
 | .non,b,_,h1,h2=>aH h1 h2 (by cases b<;>simp [LtC,Co.kind] at h1 h2 ⊢)
 | .ls,b,_,h1,h2=>aH h1 h2 (by cases b<;>simp [LtC,Co.kind] at h1 h2 ⊢)
theorem ltCs_trans:∀ {a b c:List Co},LtCs a b→LtCs b c→LtCs a c
 | [],[],_,h1,_=>by simp [LtCs] at h1
 | [],_::_,[],_,h2=>by simp [LtCs] at h2
 | [],_::_,_::_,_,_=>by simp [LtCs]
 |_::_,[],_,h1,_=>by simp [LtCs] at h1
 |_::_,_::_,[],_,h2=>by simp [LtCs] at h2
 |x::a,y::b,z::c,h1,h2=>by
  simp only [LtCs] at*
  rcases h1 with h1|⟨e1,h1⟩
  · rcases h2 with h2|⟨e2,h2⟩
    · exact .inl (dU h1 h2)
    · exact .inl (e2▸h1)
  · rcases h2 with h2|⟨e2,h2⟩
    · exact .inl (e1▸h2)
    · exact .inr ⟨e1.trans e2,ltCs_trans h1 h2⟩
end
open Classical in
noncomputable def ltT (t u:Tr):Bool:=decide (LtC (code t) (code u))
open Classical in
theorem ltT_iff {t u:Tr}:(ltT t u=true)↔LtC (code t) (code u):=by
 unfold ltT
 exact decide_eq_true_iff
theorem eX {t u:Tr} (h:ltT t u=true):ltT u t=false:=by
 cases e:ltT u t with
 |false=>rfl
 |true=>exact absurd (dU (ltT_iff.mp h) (ltT_iff.mp e)) (jv _)
theorem rj {a b c:Tr} (h1:ltT b a=false) (h2:ltT c b=false):ltT c a=false:=by
 cases e:ltT c a with
 |false=>rfl
 |true=>
  have n1:¬LtC (code b) (code a):=fun z=>by rw [ltT_iff.mpr z] at h1;cases h1
  have n2:¬LtC (code c) (code b):=fun z=>by rw [ltT_iff.mpr z] at h2;cases h2
  have l:=ltT_iff.mp e
  rcases ju (code a) (code b) with q|q|q
  · exact absurd (dU l q) n2
  · rw [q] at l
    exact absurd l n2
  · exact absurd q n1
theorem vK {a b:Tr} (h1:ltT a b=false) (h2:ltT b a=false):eqT a b=true:=by
 rw [dq]
 rcases ju (code a) (code b) with q|q|q
 · rw [ltT_iff.mpr q] at h1
   cases h1
 · exact q
 · rw [ltT_iff.mpr q] at h2
   cases h2
open PySem PySem.Spec PyProof.Rows L2
mutual
def Cm:Tr→Tr→Prop
 | .bl _, .bl _=>True
 | .int _, .int _=>True
 | .str _, .str _=>True
 | .tup ts, .tup us=>Cms ts us
 |_,_=>False
def Cms:List Tr→List Tr→Prop
 |t::ts,u::us=>(eqT t u=true∧Cms ts us)∨(eqT t u=false∧Cm t u)
 | [],_=>True
 |_::_,[]=>True
end
noncomputable def qs:List Tr→List Tr→List (Bool×Bool)
 |t::ts,u::us=>(eqT t u,ltT t u)::qs ts us
 | [],_=> []
 |_::_,[]=> []
theorem gk:∀(ts us:List Tr),(lexV (decide (ts.length < us.length)) (qs ts us)=true)↔LtCs (codes ts) (codes us)
 | [],[]=>by simp [qs,lexV,codes,LtCs]
 | [],u::us=>by simp [qs,lexV,codes,LtCs]
 |t::ts,[]=>by simp [qs,lexV,codes,LtCs]
 |t::ts,u::us=>by
  have ih:=gk ts us
  have e:decide ((t::ts).length < (u::us).length)=decide (ts.length < us.length):=by simp
  rw [e]
  simp only [qs,lexV,codes,LtCs]
  by_cases h:eqT t u=true
  · rw [if_pos h,ih]
    have hc:=(dq t u).mp h
    rw [hc]
    constructor
    · intro z
      exact .inr ⟨rfl,z⟩
    · rintro (z|⟨_,z⟩)
      · exact absurd z (jv _)
      · exact z
  · rw [if_neg h]
    have hc:¬code t=code u:=fun z=>h ((dq t u).mpr z)
    constructor
    · intro z
      exact .inl (ltT_iff.mp z)
    · rintro (z|⟨z,_⟩)
      · exact ltT_iff.mpr z
      · exact absurd z hc
theorem bO {a b:Bool} (h:(a=true)↔(b=true)):a=b:=Bool.eq_iff_iff.mpr h
section
variable {X:Cx} {pins:List (Addr×Obj)} {σ:L2.St} {H:Hp} {s:Shared}
theorem jx (I:Inv X pins σ H s) {n:Nat} {A:Around} (hu:A.units+n+1 < cLine)
 (ih:∀ {t u:Tr} {v w:V} {a b:Value},t.depth≤n→(t.pure∨u.pure)→Cm t u→TrAt H v t→TrAt H w u→RelV v a→RelV w b→LtAt A s a b (ltT t u)):
 ∀ {ts us:List Tr} {vs ws:List V} {as bs:List Value},Trs.depth ts≤n→(Trs.pure ts∨Trs.pure us)→Cms ts us→TrsAt H vs ts→TrsAt H ws us→Vals vs as→Vals ws bs→cp A s as bs (qs ts us)
 | [],us,vs,ws,as,bs,hd,hp,hc,h1,h2,r1,r2=>by
  unfold TrsAt at h1
  subst h1
  cases r1
  cases us<;>simp [cp,qs]
 |t::ts,[],vs,ws,as,bs,hd,hp,hc,h1,h2,r1,r2=>by
  unfold TrsAt at h2
  subst h2
  cases r2
  obtain ⟨v,r,rfl,_,_⟩:=h1.inv
  cases r1
  simp [cp,qs]
 |t::ts,u::us,vs,ws,as,bs,hd,hp,hc,h1,h2,r1,r2=>by
  obtain ⟨v,r,rfl,g1,g2⟩:=h1.inv
  obtain ⟨v',r',rfl,g3,g4⟩:=h2.inv
  unfold Trs.depth at hd
  have hp1:t.pure∨u.pure:=by
   rcases hp with hp|hp<;>unfold Trs.pure at hp
   · exact .inl hp.1
   · exact .inr hp.1
  have hp2:Trs.pure ts∨Trs.pure us:=by
   rcases hp with hp|hp<;>unfold Trs.pure at hp
   · exact .inl hp.2
   · exact .inr hp.2
  cases r1 with
  |cons q1 q2=>
   cases r2 with
   |cons q3 q4=>
    simp only [cp,qs]
    refine ⟨mj I n (by omega) hp1 g1 g3 q1 q3 hu,fun e=> ?_,fun e=> ?_⟩
    · unfold Cms at hc
      rcases hc with ⟨e',_⟩|⟨_,hc⟩
      · rw [e] at e'
        cases e'
      · exact ih (by omega) hp1 hc g1 g3 q1 q3
    · unfold Cms at hc
      rcases hc with ⟨_,hc⟩|⟨e',_⟩
      · exact jx I hu ih (by omega) hp2 hc g2 g4 q2 q4
      · rw [e] at e'
        cases e'
theorem mU {A:Around} {t u:Tr} {v w:V} {a b:Value} (hd:∀ts,t≠ .tup ts) (hc:Cm t u) (h1:TrAt H v t) (h2:TrAt H w u) (r1:RelV v a) (r2:RelV w b):LtAt A s a b (ltT t u):=by
 cases t<;>cases u<;>unfold Cm at hc<;>first|exact hc.elim|skip
 · rename_i x y
   unfold TrAt at h1 h2
   subst h1 h2
   cases (show a=Value.bool x from r1)
   cases (show b=Value.bool y from r2)
   intro prog w' E Q h
   refine lt_bool ?_
   have e:decide (b2i x < b2i y)=ltT (.bl x) (.bl y):=by
    refine bO ?_
    rw [ltT_iff,decide_eq_true_iff]
    cases x<;>cases y<;>simp [code,LtC,b2i]
   rw [e]
   exact h
 · rename_i x y
   unfold TrAt at h1 h2
   subst h1 h2
   obtain ⟨t1,rfl⟩:=r1
   obtain ⟨t2,rfl⟩:=r2
   intro prog w' E Q h
   refine lt_int ?_
   have e:decide (x < y)=ltT (.int x) (.int y):=by
    refine bO ?_
    rw [ltT_iff,decide_eq_true_iff]
    simp [code,LtC]
   rw [e]
   exact h
 · rename_i x y
   unfold TrAt at h1 h2
   subst h1 h2
   obtain ⟨t1,rfl⟩:=r1
   obtain ⟨t2,rfl⟩:=r2
   intro prog w' E Q h
   refine lt_str ?_
   have e:decide (x.cps.toList < y.cps.toList)=ltT (.str x) (.str y):=by
    refine bO ?_
    rw [ltT_iff,decide_eq_true_iff]
    simp [code,LtC]
   rw [e]
   exact h
 · exact (hd _ rfl).elim
theorem mi (I:Inv X pins σ H s):∀(n:Nat) {A:Around} {t u:Tr} {v w:V} {a b:Value},t.depth≤n→(t.pure∨u.pure)→Cm t u→TrAt H v t→TrAt H w u→RelV v a→RelV w b→A.units+n+1 < cLine→LtAt A s a b (ltT t u):=by
 intro n
 induction n with
 |zero=>
  intro A t u v w a b hd hp hc h1 h2 r1 r2 hu
  refine mU (fun ts e=> ?_) hc h1 h2 r1 r2
  subst e
  simp [Tr.depth] at hd
 |succ n ih=>
  intro A t u v w a b hd hp hc h1 h2 r1 r2 hu
  cases t with
  |tup ts=>
   cases u<;>first|(unfold Cm at hc;exact hc.elim)|skip
   rename_i us
   unfold Cm at hc
   unfold TrAt at h1 h2
   obtain ⟨r0,vs0,rfl,g0,k0⟩:=h1
   obtain ⟨r,vs,rfl,g1,k1⟩:=h2
   cases r1
   cases r2
   obtain ⟨as,q0,p0,_⟩:=I.tuple (SqT.of g0)
   obtain ⟨bs,q1,p1,_⟩:=I.tuple (SqT.of g1)
   unfold Tr.depth at hd
   have hp':Trs.pure ts∨Trs.pure us:=by
    rcases hp with hp|hp<;>unfold Tr.pure at hp
    · exact .inl hp
    · exact .inr hp
   have hu1:A.in1.units+n+1 < cLine:=by show A.units+1+n+1 < cLine;omega
   have hx:=jx (A:=A.in1) I hu1 (fun d pp cc a1 a2 b1 b2=>ih d pp cc a1 a2 b1 b2 hu1) (by omega) hp' hc k0 k1 q0 q1
   have:=lb (A:=A) (show s.heap.IsTuple r0 as.toArray from p0) (show s.heap.IsTuple r bs.toArray from p1) (by omega) (by simpa using hx)
   have e:lexV (decide (as.toArray.size < bs.toArray.size)) (qs ts us)=ltT (.tup ts) (.tup us):=by
    have l0:=k0.len
    have l1:=k1.len
    have l2:=q0.length
    have l3:=q1.length
    have e2:decide (as.toArray.size < bs.toArray.size)=decide (ts.length < us.length):=by
     rw [List.size_toArray,List.size_toArray,←l2,←l3,l0,l1]
    rw [e2]
    refine bO ?_
    rw [gk,ltT_iff]
    simp [code,LtC]
   rw [←e]
   exact this
  |_=>exact mU (fun ts e=>by cases e) hc h1 h2 r1 r2
end
end Tre
namespace Srt
open PySem PySem.W PySem.Calls PyProof.Rows
theorem dO {α:Type} (d:α):∀(vs:List α),(List.range vs.length).map (fun i=>vs.getD i d)=vs
 | []=>rfl
 |v::vs=>by
  rw [List.length_cons,List.range_succ_eq_map,List.map_cons,List.map_map]
  have:=dO d vs
  simp only [Function.comp_def]
  show v::List.map (fun i=>vs.getD i d) (List.range vs.length)=v::vs
  rw [this]
theorem mf {α:Type}:∀(vs:List α),List.map (fun x=>x.snd) (vs.zip vs)=vs
 | []=>rfl
 |v::vs=>by
  rw [List.zip_cons_cons,List.map_cons,mf vs]
section
variable {prog:Program} {w:World} {A:Around} {E:Value→Shared→Prop} {s:Shared} {lt:Nat→Nat→Bool} {κ:SortKind}
def Stay (s:Shared) (a:Addr) (h':Heap):Prop:=∀b o,b≠a→s.heap.get? b=some o→h'.get? b=some o
theorem e9 {a:Addr} {vs:List Value} {n:Nat} {P:PySem.Fin→Shared→Prop} (O:Ord lt) (ho:s.heap.get? a=some (seqObj "list" vs.toArray n)) (h64:vs.length < 64)
 (hkind:2≤vs.length→∀h',Stay s a h'→∀R:SortKind→Shared→Prop,R κ {s with heap:=h'}→wpAny (model prog w) A (keyKind' vs.toArray) R E {s with heap:=h'})
 (hask:∀h',Stay s a h'→∀i j (R:Bool→Shared→Prop),i < vs.length→j < vs.length→R (lt i j) {s with heap:=h'}→kas_ask prog w A κ vs i j R {s with heap:=h'})
 (h:∀p:Array Nat,Pm vs.length p→Up lt p vs.length→P (.done (.ret .none)) {s with heap:=sortedHeap s.heap a vs (List.toArray (p.toList.map fun i=>vs.getD i Value.none))}):
 wpAny (model prog w) A (Builtin.«list.sort» ⟨[.ref a],[]⟩) P E s:=by
 have ha:a < s.heap.objs.size:=Heap.lt_size ho
 rw [list_sort_plain]
 refine wpAny_bind (listItems_at ho rfl ?_)
 refine wpAny_bind (listUpdate_at ho rfl ?_ (by rw [List.size_toArray,sizeLine_eq];omega) (Nat.zero_le _))
 obtain ⟨e1,ho1⟩:∃e1,(s.heap.update a (Obj.mapSeq fun _=>(#[]:Array Value))).get? a=some (seqObj "list" #[] e1):=⟨_,get?_update_seq ho fun _=> #[]⟩
 refine wpAny_bind (seqEpoch_at ho1 rfl ?_)
 refine wpAny_bind (wpAny_newTuple ?_ (by show vs.length≤_;rw [sizeLine_eq];omega))
 refine wpAny_bind (wpAny_newList ?_ (Nat.zero_le _))
 refine wpAny_holding ?_
 have s1:=Heap.SameBut.update s.heap a (Obj.mapSeq fun _=>(#[]:Array Value))
 have st:Stay s a (((s.heap.update a (Obj.mapSeq fun _=>(#[]:Array Value))).push (seqObj "tuple" vs.toArray 0)).push (seqObj "list" #[] 0)):=fun b o hb e=>
  Heap.get?_push_of_some _ (Heap.get?_push_of_some _ ((s1.2 b hb).trans e))
 have ho6:(((s.heap.update a (Obj.mapSeq fun _=>(#[]:Array Value))).push (seqObj "tuple" vs.toArray 0)).push (seqObj "list" #[] 0)).get? a=some (seqObj "list" #[] e1):=Heap.get?_push_of_some _ (Heap.get?_push_of_some _ ho1)
 show wpAny (model prog w) A _ P E {s with heap:=((s.heap.update a (Obj.mapSeq fun _=>(#[]:Array Value))).push (seqObj "tuple" vs.toArray 0)).push (seqObj "list" #[] 0)}
 dsimp only
 have out:∀p:Array Nat,Pm vs.length p→(List.toArray (p.toList.map fun i=>vs.getD i Value.none)).size≤sizeLine:=fun p hp=>by
  rw [List.size_toArray,List.length_map,Array.length_toList,hp.size,sizeLine_eq]
  omega
 by_cases h2:vs.toArray.size < 2
 · rw [if_pos h2,if_pos h2]
   refine wpAny_bind (wpAny_pure ?_)
   rw [StateT.run_pure]
   refine wpAny_bind (wpAny_pure ?_)
   dsimp only
   refine wpAny_bind (seqEpoch_at ho6 rfl ?_)
   have h0:Pm vs.length (List.toArray (List.range vs.length)):=by
    unfold Pm
    simp
   have eo:(arrOf (SortSt.mk' general' (vs.toArray.zip vs.toArray) #[] 7 none)).map (·.2)=List.toArray ((List.toArray (List.range vs.length)).toList.map fun i=>vs.getD i Value.none):=by
    rw [List.toList_toArray,dO]
    show (vs.toArray.zip vs.toArray).map (·.2)=vs.toArray
    apply Array.toList_inj.mp
    simp
    exact mf vs
   rw [eo]
   refine wpAny_bind (listUpdate_at ho6 rfl ?_ (Nat.zero_le _) (Nat.le_succ_of_le (out _ h0)))
   simp only [bne_self_eq_false,Bool.false_eq_true,if_false]
   refine wpAny_pure (h _ h0 fun i j hij hj=> ?_)
   have hv:vs.length < 2:=by simpa using h2
   have:i=j:=by omega
   subst this
   exact O.refl _
 · rw [if_neg h2,if_neg h2]
   have h2':2≤vs.length:=by
    rw [List.size_toArray] at h2
    omega
   refine wpAny_bind (hkind h2' _ st _ ?_)
   have run:(kas_sort vs.length).kasWp (kas_ask prog w A κ vs) (fun p s'=>(Pm vs.length p∧Up lt p vs.length)∧s'= {s with heap:=((s.heap.update a (Obj.mapSeq fun _=>(#[]:Array Value))).push (seqObj "tuple" vs.toArray 0)).push (seqObj "list" #[] 0)})
    {s with heap:=((s.heap.update a (Obj.mapSeq fun _=>(#[]:Array Value))).push (seqObj "tuple" vs.toArray 0)).push (seqObj "list" #[] 0)}:=
    oX (lt:=lt) (N:=vs.length) (G:=fun s'=>s'= {s with heap:=((s.heap.update a (Obj.mapSeq fun _=>(#[]:Array Value))).push (seqObj "tuple" vs.toArray 0)).push (seqObj "list" #[] 0)})
     (fun i j R s' hi hj hg hR=>by subst hg;exact hask _ st i j R hi hj (hR _ rfl)) (fun p s' hp hg=>⟨hp,hg⟩) (uN O (by omega)) rfl
   refine wpAny_bind (wpAny_mono (kat_run (ks:=vs) (Q:=fun st' s'=>∃p:Array Nat,(Pm vs.length p∧Up lt p vs.length)∧arrOf st'=p.map (kas_item (vs.toArray.zip vs.toArray))∧failedOf st'=none∧s'= {s with heap:=((s.heap.update a (Obj.mapSeq fun _=>(#[]:Array Value))).push (seqObj "tuple" vs.toArray 0)).push (seqObj "list" #[] 0)})
    rfl h2' h64 (fun p st' s' a1 a2 a3 a4=>⟨p,a4.1,a2,a3,a4.2⟩) run) ?_ fun _ _ e=>e)
   rintro ⟨⟨⟩,st'⟩ s' ⟨p,hp,har,hf,rfl⟩
   dsimp only
   refine wpAny_bind (seqEpoch_at ho6 rfl ?_)
   rw [kat_snds rfl har]
   refine wpAny_bind (listUpdate_at ho6 rfl ?_ (Nat.zero_le _) (Nat.le_succ_of_le (out p hp.1)))
   rw [hf]
   simp only [bne_self_eq_false,Bool.false_eq_true,if_false]
   exact wpAny_pure (h p hp.1 hp.2)
theorem lv {l:Addr} {vs:List Value} {Q:Value→Shared→Prop} (O:Ord lt) (hl:s.heap.IsList l vs.toArray) (h64:vs.length < 64)
 (hkind:2≤vs.length→∀h',(∀b o,s.heap.get? b=some o→h'.get? b=some o)→∀(E':Value→Shared→Prop) (R:SortKind→Shared→Prop),R κ {s with heap:=h'}→wpAny (model prog w) A.in1.in1 (keyKind' vs.toArray) R E' {s with heap:=h'})
 (hask:∀h',(∀b o,s.heap.get? b=some o→h'.get? b=some o)→∀i j (R:Bool→Shared→Prop),i < vs.length→j < vs.length→R (lt i j) {s with heap:=h'}→kas_ask prog w A.in1.in1 κ vs i j R {s with heap:=h'})
 (h:∀p:Array Nat,Pm vs.length p→Up lt p vs.length→Q (.ref (s.heap.objs.size+1)) {s with heap:=sortedAll s.heap vs (List.toArray (p.toList.map fun i=>vs.getD i Value.none))}):
 wpAny (model prog w) A (call (.builtin "sorted") [.ref l]) Q E s:=by
 refine Calls.call_function_entry kind_sorted plain_sorted entry_sorted (args_sorted1 _) ?_
 unfold Builtin.«sorted»
 refine wpAny_bind (m:=checkCount "sorted" 1 1 _) (wpAny_pure ?_)
 refine wpAny_bind (collect_list hl ?_ (by rw [sizeLine_eq];omega))
 refine wpAny_bind (wpAny_newList ?_ (by rw [sizeLine_eq];omega))
 have hsz:((s.heap.push (seqObj "list" #[] 0)).update s.heap.objs.size (Obj.mapSeq (· ++vs.toArray))).objs.size=s.heap.objs.size+1:=by
  rw [Heap.size_update,size_push']
 have hoL:(((s.heap.push (seqObj "list" #[] 0)).update s.heap.objs.size (Obj.mapSeq (· ++vs.toArray))).push (seqObj "list" vs.toArray 0)).get? (s.heap.objs.size+1)=some (seqObj "list" vs.toArray 0):=by
  rw [←hsz];exact Heap.get?_push_size _ rfl
 have keep:∀b o,s.heap.get? b=some o→(((s.heap.push (seqObj "list" #[] 0)).update s.heap.objs.size (Obj.mapSeq (· ++vs.toArray))).push (seqObj "list" vs.toArray 0)).get? b=some o∧b≠s.heap.objs.size+1:=fun b o q=>by
  have hlt:b < s.heap.objs.size:=Heap.lt_size q
  refine ⟨?_,Nat.ne_of_lt (Nat.lt_succ_of_lt hlt)⟩
  rw [Heap.get?_push_ne _ _ _ (by rw [hsz];exact Nat.ne_of_lt (Nat.lt_succ_of_lt hlt)),Heap.get?_update_ne _ _ _ _ (Nat.ne_of_lt hlt),Heap.get?_push_ne _ _ _ (Nat.ne_of_lt hlt)]
  exact q
 show wpAny _ _ _ _ _ {s with heap:=((s.heap.push (seqObj "list" #[] 0)).update s.heap.objs.size (Obj.mapSeq (· ++vs.toArray))).push (seqObj "list" vs.toArray 0)}
 rw [hsz]
 refine wpAny_bind (wpAny_holding (wpAny_call_entry slot_list_sort ⟨_,hoL,rfl⟩ entry_list_sort (e9 (lt:=lt) (κ:=κ) O hoL h64 (fun h2 h' st R hR=>hkind h2 h' (fun b o e=>st b o (keep b o e).2 (keep b o e).1) _ R hR)
  (fun h' st i j R hi hj hR=>hask h' (fun b o e=>st b o (keep b o e).2 (keep b o e).1) i j R hi hj hR) fun p a1 a2=>⟨_,rfl,?_⟩) (args_list_sort _)))
 exact wpAny_pure ⟨_,rfl,h p a1 a2⟩
end
end Srt
namespace Tre
open PySem PySem.Spec PyProof.Rows L2 Srt
theorem iJ {prog:Program} {w:World} {A:Around} {s:Shared} {fin:Bool} {Q:Bool→Shared→Prop}:∀ {as bs:List Value} {q:List (Bool×Bool)} {i:Nat},cp A s as bs q→Q (lexV fin q) s→PySem.W.KatLex prog w A false fin Q (as.zip bs) i s
 | [],_,q,i,h,hq=>by
  unfold cp at h
  subst h
  rw [List.zip_nil_left]
  exact PySem.W.kat_nil hq
 |_::_,[],q,i,h,hq=>by
  unfold cp at h
  subst h
  rw [List.zip_nil_right]
  exact PySem.W.kat_nil hq
 |a::as,b::bs,[],i,h,hq=>h.elim
 |a::as,b::bs,(e,l)::q,i,h,hq=>by
  obtain ⟨h1,h2,h3⟩:=h
  rw [List.zip_cons_cons]
  refine PySem.W.kat_cons (h1 prog w _ _ ?_)
  cases e with
  |true=>exact PySem.W.kat_yes (iJ (h3 rfl) hq)
  |false=>
   refine PySem.W.kat_no ?_
   show wpAny _ _ (oneLt' false a b) _ _ _
   exact PySem.W.kat_one a b (h2 rfl prog w _ _ hq)
def Hd (t:Tr):Prop:=∃fs r,t= .tup (.tup fs::r)
theorem TrsAt.map {H:Hp} {vs:List V} {ts:List Tr} (h:TrsAt H vs ts):∀ {is:List Nat},(∀i∈is,i < ts.length)→TrsAt H (is.map fun i=>vs.getD i .non) (is.map fun i=>ts.getD i .non)
 | [],_=> .nil
 |i::is,hi=>by
  have h0:i < ts.length:=hi i List.mem_cons_self
  have hl:=h.len
  obtain ⟨v,e1,e2⟩:=h.get (i:=i) (t:=ts[i]) (List.getElem?_eq_getElem h0)
  have ev:vs.getD i .non=v:=by rw [List.getD_eq_getElem?_getD,e1];rfl
  have et:ts.getD i .non=ts[i]:=by rw [List.getD_eq_getElem?_getD,List.getElem?_eq_getElem h0];rfl
  rw [List.map_cons,List.map_cons,ev,et]
  exact .cons e2 (TrsAt.map h fun j m=>hi j (List.mem_cons_of_mem _ m))
theorem Vals.map {vs:List V} {as:List Value} (h:Vals vs as):∀ {is:List Nat},(∀i∈is,i < vs.length)→Vals (is.map fun i=>vs.getD i .non) (is.map fun i=>as.getD i Value.none)
 | [],_=> .nil
 |i::is,hi=>by
  have h0:i < vs.length:=hi i List.mem_cons_self
  obtain ⟨u,e1,e2⟩:=h.get (i:=i) (x:=vs[i]) (List.getElem?_eq_getElem h0)
  have ev:vs.getD i .non=vs[i]:=by rw [List.getD_eq_getElem?_getD,List.getElem?_eq_getElem h0];rfl
  have et:as.getD i Value.none=u:=by rw [List.getD_eq_getElem?_getD,e1];rfl
  rw [List.map_cons,List.map_cons,ev,et]
  exact .cons e2 (Vals.map h fun j m=>hi j (List.mem_cons_of_mem _ m))
section
variable {X:Cx} {pins:List (Addr×Obj)} {σ:L2.St} {H:Hp} {s:Shared}
theorem d4 (I:Inv X pins σ H s) {r:Addr} {vs:List V} (h:H r=some (.tup vs)):∃(as:List Value) (o:Obj) (n:Nat),Vals vs as∧s.heap.get? r=some o∧o.cls= .type "tuple"∧o.data= .seq as.toArray n:=by
 obtain ⟨as,q,p,_⟩:=I.tuple (SqT.of h)
 obtain ⟨o,ho,hc,n,hd⟩:=(show s.heap.IsTuple r as.toArray from p)
 exact ⟨as,o,n,q,ho,hc,hd⟩
theorem hU (I:Inv X pins σ H s):∀ {vs:List V} {ts:List Tr} {as:List Value},TrsAt H vs ts→Vals vs as→(∀t∈ts,Hd t)→∃fs,PySem.W.KatTups s.heap as fs∧fs.length=as.length∧∀v∈fs,∃(r:Addr) (o:Obj),v= .ref r∧s.heap.get? r=some o∧o.cls= .type "tuple"
 |vs,[],as,h,r,_=>by
  unfold TrsAt at h
  subst h
  cases r
  exact ⟨[],PySem.W.KatTups.nil,rfl,fun v m=>by cases m⟩
 |vs,t::ts,as,h,r,hh=>by
  obtain ⟨v,vr,rfl,h1,h2⟩:=h.inv
  cases r with
  |cons q1 q2=>
   obtain ⟨fs,k1,k2,k3⟩:=hU I h2 q2 fun t m=>hh t (List.mem_cons_of_mem _ m)
   obtain ⟨gs,gr,rfl⟩:=hh t List.mem_cons_self
   unfold TrAt at h1
   obtain ⟨r0,vs0,rfl,g0,g1⟩:=h1
   cases q1
   obtain ⟨f,fr,rfl,h3,h4⟩:=g1.inv
   obtain ⟨as0,o,n,q3,ho,hc,hd⟩:=d4 I g0
   cases q3 with
   |cons q5 q6=>
    unfold TrAt at h3
    obtain ⟨r1,vs1,rfl,g2,_⟩:=h3
    cases q5
    obtain ⟨_,o1,_,_,ho1,hc1,_⟩:=d4 I g2
    refine ⟨.ref r1::fs,PySem.W.KatTups.cons ho hc hd (by simp) k1,by simp [k2],fun v m=> ?_⟩
    rcases List.mem_cons.mp m with rfl|m
    · exact ⟨r1,o1,rfl,ho1,hc1⟩
    · exact k3 v m
def sR:List V→Hp→VK→Prop:=fun xs H Q=>∃(l:Addr) (vs:List V) (ts:List Tr),xs= [.ref l]∧H l=some (.lst vs)∧TrsAt H vs ts∧ts.length < 64∧(∀t∈ts,Hd t∧t.pure∧t.depth≤40)∧(∀t∈ts,∀u∈ts,Cm t u)∧
 ∀(D:Addr) (ws:List V) (us:List Tr),H D=none→us.Perm ts→TrsAt H ws us→(∀(i j:Nat) (t u:Tr),i≤j→us[i]?=some t→us[j]?=some u→ltT u t=false)→Q (.ref D) (upd H D (.lst ws))
theorem kY (hu:X.A.units+60 < cLine):cG X (.builtin "sorted") sR:=by
 intro pins s σ H xs us Q I r h
 obtain ⟨l,vs,ts,rfl,hl,hT,hlen,hts,hcm,q⟩:=h
 obtain ⟨u,rfl,ru⟩:=e7 r
 cases ru
 obtain ⟨as,rv,pl,_⟩:=I.list (SqL.of hl)
 have l1:=hT.len
 have l2:=rv.length
 have O:Srt.Ord fun i j=>ltT (ts.getD i .non) (ts.getD j .non):=⟨fun a b h=>eX h,fun a b c h1 h2=>rj h1 h2⟩
 have at_:∀i,i < as.length→∃t v a,ts.getD i .non=t∧t∈ts∧TrAt H v t∧RelV v a∧as.getD i Value.none=a:=fun i hi=>by
  have hi':i < ts.length:=by omega
  obtain ⟨v,e1,e2⟩:=hT.get (i:=i) (t:=ts[i]) (List.getElem?_eq_getElem hi')
  obtain ⟨a,e3,e4⟩:=rv.get e1
  exact ⟨ts[i],v,a,by rw [List.getD_eq_getElem?_getD,List.getElem?_eq_getElem hi'];rfl,List.getElem_mem hi',e2,e4,by rw [List.getD_eq_getElem?_getD,e3];rfl⟩
 refine lv (κ:=tuples' false) O pl.isList (by omega) (fun h2 h' kp E' R hR=> ?_) (fun h' kp i j R hi hj hR=> ?_) fun p hp hup=> ?_
 · have I':Inv X pins σ H {s with heap:=h'}:=I.kept (t':=s.toks) kp
   obtain ⟨fs,k1,k2,k3⟩:=hU I' hT rv fun t m=>(hts t m).1
   refine PySem.W.kat_kind (T:=Value.type "tuple") k1 (by omega) (fun v m=> ?_) (by decide +kernel) ?_
   · obtain ⟨r,o,rfl,ho,hc⟩:=k3 v m
     have:PySem.W.Looks (model X.prog X.w) h' (typeOf (.ref r)) o.cls:=(PySem.W.Looks.ld ho).andThen .now
     rw [hc] at this
     exact this
   · rw [show (Value.type "tuple" !=Value.type "tuple")=false by decide +kernel]
     exact hR
 · have I':Inv X pins σ H {s with heap:=h'}:=I.kept (t':=s.toks) kp
   obtain ⟨t,v,a,et,mt,ht,ra,ea⟩:=at_ i hi
   obtain ⟨u,v',b,eu,mu,hu',rb,eb⟩:=at_ j hj
   have hc:=hcm t mt u mu
   obtain ⟨⟨f1,r1,rfl⟩,p1,d1⟩:=hts t mt
   obtain ⟨⟨f2,r2,rfl⟩,p2,d2⟩:=hts u mu
   unfold TrAt at ht hu'
   obtain ⟨x0,vs0,rfl,g0,g1⟩:=ht
   obtain ⟨y0,ws0,rfl,g2,g3⟩:=hu'
   cases ra
   cases rb
   obtain ⟨as0,o,n,q3,ho,hcl,hd⟩:=d4 I' g0
   obtain ⟨bs0,o',n',q4,ho',hcl',hd'⟩:=d4 I' g2
   unfold Tr.depth at d1
   unfold Tr.pure at p1
   unfold Cm at hc
   have hu1:X.A.in1.in1.units+40+1 < cLine:=by show X.A.units+1+1+40+1 < cLine;omega
   have hx:=jx (A:=X.A.in1.in1) I' hu1 (fun d pp cc a1 a2 b1 b2=>mi I' 40 d pp cc a1 a2 b1 b2 hu1) (by omega) (.inl p1) hc g1 g3 q3 q4
   unfold PySem.W.kas_ask
   rw [ea,eb]
   refine PySem.W.kat_lt (b:=false) ho hd ho' hd' ?_
   rw [List.toList_toArray,List.toList_toArray]
   refine iJ hx ?_
   have e:lexV (decide (as0.toArray.size < bs0.toArray.size)) (qs (.tup f1::r1) (.tup f2::r2))=ltT (ts.getD i .non) (ts.getD j .non):=by
    have z0:=g1.len
    have z1:=g3.len
    have z2:=q3.length
    have z3:=q4.length
    have e2:decide (as0.toArray.size < bs0.toArray.size)=decide ((Tr.tup f1::r1).length < (Tr.tup f2::r2).length):=by
     rw [List.size_toArray,List.size_toArray,←z2,←z3,z0,z1]
    rw [e2,et,eu]
    refine bO ?_
    rw [gk,ltT_iff]
    simp [code,LtC]
   rw [e]
   exact hR
 · have hin:∀i∈p.toList,i < ts.length:=fun i m=>by
    have:=List.mem_range.mp (List.Perm.mem_iff hp |>.mp m)
    omega
   refine ⟨.ref (s.heap.objs.size+1),upd H (s.heap.objs.size+1) (.lst (p.toList.map fun i=>vs.getD i .non)),I.laid (t':=s.toks) (fun b o e=>sortedAll_old e) (Nat.le_succ _) ?_,rfl,?_⟩
   · obtain ⟨e,he⟩:=sortedAll_at s.heap as (List.toArray (p.toList.map fun i=>as.getD i Value.none))
     refine ⟨?_,p.toList.map fun i=>as.getD i Value.none,e,Vals.map rv fun i m=>by have:=hin i m;omega,he⟩
     rw [List.length_map,Array.length_toList,hp.size]
     have:(64:Nat)≤sizeLine:=by decide +kernel
     omega
   · refine q _ _ (p.toList.map fun i=>ts.getD i .non) (I.hok.fresh (Nat.le_succ _)) ?_ (TrsAt.map hT hin) fun i j t u hij e1 e2=> ?_
     · have:=List.Perm.map (fun i=>ts.getD i Tr.non) hp
       rw [show as.length=ts.length by omega,dO] at this
       exact this
     · rw [List.getElem?_map] at e1 e2
       obtain ⟨a,ea,rfl⟩:=Option.map_eq_some_iff.mp e1
       obtain ⟨b,eb,rfl⟩:=Option.map_eq_some_iff.mp e2
       have hj:j < as.length:=by
        have:=(List.getElem?_eq_some_iff.mp eb).1
        rw [Array.length_toList,hp.size] at this
        exact this
       have:=hup i j hij hj
       rw [cO,cO,←Array.getElem?_toList,←Array.getElem?_toList,ea,eb] at this
       exact this
end
end Tre
namespace Tre
open PySem L2
inductive So where
 |tm|fr|pr|ws|lt
abbrev s_ (x:String):Tr:= .str (Str.ofString x)
inductive Ty:So→Tr→Prop
 |nm (x:Str):Ty .tm (.tup [s_ "name", .str x])
 |ap (x:Str) (ts:List Tr):ts.length≤3→(∀t∈ts,Ty .tm t)→Ty .tm (.tup [s_ "call", .str x, .tup ts])
 |fr (a b:Int):Ty .fr (.tup [.int a, .int b])
 |pr (t f:Tr):Ty .tm t→Ty .fr f→Ty .pr (.tup [t,f])
 |fl (x:Str):Ty .ws (.tup [s_ "flag", .str x])
 |mo (ps:List Tr) (f:Tr):(∀p∈ps,Ty .pr p)→Ty .fr f→Ty .ws (.tup [s_ "most", .tup ps,f])
 |li (t u:Tr):Ty .tm t→Ty .tm u→Ty .ws (.tup [s_ "like",t,u])
 |no (w:Tr):Ty .ws w→Ty .ws (.tup [s_ "not",w])
 |bo (l:List Tr):(∀w∈l,Ty .ws w)→Ty .ws (.tup [s_ "both", .tup l])
 |ei (l:List Tr):(∀w∈l,Ty .ws w)→Ty .ws (.tup [s_ "either", .tup l])
 |lt (w:Tr) (b:Bool):Ty .ws w→Ty .lt (.tup [w, .bl b])
theorem aN {t u:Tr} {ts us:List Tr} (h1:eqT t u=false→Cm t u) (h2:Cms ts us):Cms (t::ts) (u::us):=by
 unfold Cms
 cases e:eqT t u with
 |true=>exact .inl ⟨rfl,h2⟩
 |false=>exact .inr ⟨rfl,h1 e⟩
theorem wf {t u:Tr} {ts us:List Tr} (h0:eqT t u=false) (h1:Cm t u):Cms (t::ts) (u::us):=by
 unfold Cms
 exact .inr ⟨h0,h1⟩
theorem bV {us:List Tr}:Cms [] us:=by
 cases us<;>simp [Cms]
theorem cr (x y:Str):Cm (.str x) (.str y):=by simp [Cm]
theorem se (x y:Int):Cm (.int x) (.int y):=by simp [Cm]
theorem xB (x y:Bool):Cm (.bl x) (.bl y):=by simp [Cm]
theorem ig {ts us:List Tr} (h:Cms ts us):Cm (.tup ts) (.tup us):=by
 unfold Cm
 exact h
theorem gp {ts us:List Tr} (h:∀t∈ts,∀u∈us,Cm t u):Cms ts us:=by
 induction ts generalizing us with
 |nil=>exact bV
 |cons t ts ih=>
  cases us with
  |nil=>simp [Cms]
  |cons u us=>exact aN (fun _=>h t List.mem_cons_self u List.mem_cons_self) (ih fun a ma b mb=>h a (List.mem_cons_of_mem _ ma) b (List.mem_cons_of_mem _ mb))
theorem uk:∀(n:Nat) {k:So} {t u:Tr},t.depth≤n→Ty k t→Ty k u→Cm t u:=by
 intro n
 induction n with
 |zero=>
  intro k t u hd h1 h2
  cases h1<;>simp [Tr.depth] at hd
 |succ n ih=>
  intro k t u hd h1 h2
  have sub:∀ {ts:List Tr} {t:Tr},(Tr.tup ts).depth≤n+1→t∈ts→t.depth≤n:=fun h m=>by
   unfold Tr.depth at h
   have:=bc m
   omega
  have sub2:∀ {ts l:List Tr} {t:Tr},(Tr.tup ts).depth≤n+1→Tr.tup l∈ts→t∈l→t.depth≤n:=fun h m m2=>by
   have h3:=sub h m
   unfold Tr.depth at h3
   have:=bc m2
   omega
  cases h1<;>cases h2<;>refine ig ?_
  all_goals first
   |exact wf (by decide +kernel) (cr _ _)
   |skip
  · exact aN (fun _=>cr _ _) (aN (fun _=>cr _ _) bV)
  · rename_i x ts _ h1 y us _ h2
    exact aN (fun _=>cr _ _) (aN (fun _=>cr _ _) (aN (fun _=>ig (gp fun a ma b mb=>ih (sub2 hd (by simp) ma) (h1 a ma) (h2 b mb))) bV))
  · exact aN (fun _=>se _ _) (aN (fun _=>se _ _) bV)
  · rename_i t1 f1 a1 b1 t2 f2 a2 b2
    exact aN (fun _=>ih (sub hd (by simp)) a1 a2) (aN (fun _=>ih (sub hd (by simp)) b1 b2) bV)
  · exact aN (fun _=>cr _ _) (aN (fun _=>cr _ _) bV)
  · rename_i p1 f1 a1 b1 p2 f2 a2 b2
    exact aN (fun _=>cr _ _) (aN (fun _=>ig (gp fun a ma b mb=>ih (sub2 hd (by simp) ma) (a1 a ma) (a2 b mb))) (aN (fun _=>ih (sub hd (by simp)) b1 b2) bV))
  · rename_i t1 u1 a1 b1 t2 u2 a2 b2
    exact aN (fun _=>cr _ _) (aN (fun _=>ih (sub hd (by simp)) a1 a2) (aN (fun _=>ih (sub hd (by simp)) b1 b2) bV))
  · rename_i w1 a1 w2 a2
    exact aN (fun _=>cr _ _) (aN (fun _=>ih (sub hd (by simp)) a1 a2) bV)
  · rename_i l1 a1 l2 a2
    exact aN (fun _=>cr _ _) (aN (fun _=>ig (gp fun a ma b mb=>ih (sub2 hd (by simp) ma) (a1 a ma) (a2 b mb))) bV)
  · rename_i l1 a1 l2 a2
    exact aN (fun _=>cr _ _) (aN (fun _=>ig (gp fun a ma b mb=>ih (sub2 hd (by simp) ma) (a1 a ma) (a2 b mb))) bV)
  · rename_i w1 b1 a1 w2 b2 a2
    exact aN (fun _=>ih (sub hd (by simp)) a1 a2) (aN (fun _=>xB _ _) bV)
theorem eU {ts:List Tr} (h:∀t∈ts,t.pure):Trs.pure ts:=by
 induction ts with
 |nil=>unfold Trs.pure;trivial
 |cons t ts ih=>
  unfold Trs.pure
  exact ⟨h t List.mem_cons_self,ih fun u m=>h u (List.mem_cons_of_mem _ m)⟩
theorem j0 {k:So} {t:Tr} (h:Ty k t):t.pure:=by
 induction h with
 |nm x=>simp [Tr.pure,Trs.pure]
 |ap x ts _ _ ih=>simp only [Tr.pure,Trs.pure];exact ⟨trivial,trivial,eU ih,trivial⟩
 |fr a b=>simp [Tr.pure,Trs.pure]
 |pr t f _ _ h1 h2=>simp only [Tr.pure,Trs.pure];exact ⟨h1,h2,trivial⟩
 |fl x=>simp [Tr.pure,Trs.pure]
 |mo ps f _ _ h1 h2=>simp only [Tr.pure,Trs.pure];exact ⟨trivial,eU h1,h2,trivial⟩
 |li t u _ _ h1 h2=>simp only [Tr.pure,Trs.pure];exact ⟨trivial,h1,h2,trivial⟩
 |no w _ h1=>simp only [Tr.pure,Trs.pure];exact ⟨trivial,h1,trivial⟩
 |bo l _ h1=>simp only [Tr.pure,Trs.pure];exact ⟨trivial,eU h1,trivial⟩
 |ei l _ h1=>simp only [Tr.pure,Trs.pure];exact ⟨trivial,eU h1,trivial⟩
 |lt w b _ h1=>simp only [Tr.pure,Trs.pure];exact ⟨h1,trivial,trivial⟩
theorem wz {t:Tr} (h:Ty .lt t∨Ty .pr t):Hd t:=by
 rcases h with h|h
 · cases h with
   |lt w b hw=>cases hw<;>exact ⟨_,_,rfl⟩
 · cases h with
   |pr t f ht hf=>cases ht<;>exact ⟨_,_,rfl⟩
end Tre
namespace Mth
theorem rK (a b:Int):Int.gcd b (a.fmod b)=Int.gcd a b:=by
 have e:a.fmod b=a - b*a.fdiv b:=Int.fmod_def a b
 rw [e,Int.gcd_comm a b]
 have:a - b*a.fdiv b=a+b*(-(a.fdiv b)):=by rw [Int.mul_neg,Int.sub_eq_add_neg]
 rw [this]
 exact Int.gcd_add_mul_left_right ..
theorem u7 {a b:Int} (h:b≠0):(a.fmod b).natAbs < b.natAbs:=by
 by_cases hb:0 < b
 · have h1:=Int.fmod_nonneg_of_pos a hb
   have h2:=Int.fmod_lt_of_pos a hb
   omega
 · have h3:0 < -b:=by omega
   have e:a.fmod b= -((-a).fmod (-b)):=by
    rw [Int.neg_fmod_neg,Int.neg_neg]
   have h1:=Int.fmod_nonneg_of_pos (-a) h3
   have h2:=Int.fmod_lt_of_pos (-a) h3
   omega
noncomputable def dv (t b:Int):Int:=if b < 0 then -(Int.gcd t b:Int) else (Int.gcd t b:Int)
noncomputable def fx (t b:Int):Int:=t.fdiv (dv t b)
noncomputable def fy (t b:Int):Int:=b.fdiv (dv t b)
theorem rP {t b:Int} (h:b≠0):dv t b≠0:=by
 have:0 < Int.gcd t b:=Int.gcd_pos_of_ne_zero_right t h
 unfold dv
 split<;>omega
theorem rQ {t b:Int}:(dv t b).natAbs=Int.gcd t b:=by
 unfold dv
 split<;>omega
theorem we {t b:Int}:dv t b∣t∧dv t b∣b:=by
 have h1:((Int.gcd t b:Nat):Int)∣t:=Int.gcd_dvd_left ..
 have h2:((Int.gcd t b:Nat):Int)∣b:=Int.gcd_dvd_right ..
 unfold dv
 split
 · exact ⟨Int.neg_dvd.mpr h1,Int.neg_dvd.mpr h2⟩
 · exact ⟨h1,h2⟩
theorem jX {t b:Int} (h:b≠0):t=dv t b*fx t b∧b=dv t b*fy t b:=by
 obtain ⟨⟨x,hx⟩,⟨y,hy⟩⟩:=we (t:=t) (b:=b)
 have n:=rP (t:=t) h
 have e1:fx t b=x:=by
  unfold fx
  generalize dv t b=d at*
  rw [hx]
  exact Int.mul_fdiv_cancel_left _ n
 have e2:fy t b=y:=by
  unfold fy
  generalize dv t b=d at*
  rw [hy]
  exact Int.mul_fdiv_cancel_left _ n
 rw [e1,e2]
 exact ⟨hx,hy⟩
theorem w6 {t b:Int} (h:b≠0):1≤fy t b:=by
 obtain ⟨_,e⟩:=jX (t:=t) h
 have g:0 < Int.gcd t b:=Int.gcd_pos_of_ne_zero_right t h
 have n:=rP (t:=t) h
 by_cases q:1≤fy t b
 · exact q
 · exfalso
   have q':fy t b≤0:=by omega
   have d:(b < 0→dv t b < 0)∧(¬b < 0→0 < dv t b):=by
    unfold dv
    constructor
    · intro z;rw [if_pos z];omega
    · intro z;rw [if_neg z];omega
   by_cases z:b < 0
   · have:=Int.mul_nonneg_of_nonpos_of_nonpos (Int.le_of_lt (d.1 z)) q'
     omega
   · have:=Int.mul_nonpos_of_nonneg_of_nonpos (Int.le_of_lt (d.2 z)) q'
     omega
theorem vL {t b:Int} (h:b≠0):Int.gcd (fx t b) (fy t b)=1:=by
 obtain ⟨e1,e2⟩:=jX (t:=t) h
 have g:0 < Int.gcd t b:=Int.gcd_pos_of_ne_zero_right t h
 have e:Int.gcd t b=(dv t b).natAbs*Int.gcd (fx t b) (fy t b):=by
  have:Int.gcd t b=Int.gcd (dv t b*fx t b) (dv t b*fy t b):=by rw [←e1,←e2]
  rw [this,Int.gcd_mul_left]
 rw [rQ] at e
 have:=Nat.eq_of_mul_eq_mul_left g (show Int.gcd t b*1=Int.gcd t b*Int.gcd (fx t b) (fy t b) by rw [←e,Nat.mul_one])
 exact this.symm
def cn (x y:Int):Prop:=0 < y∧Int.gcd x y=1
theorem f9 {x y z:Int} (h1:Int.gcd x y=1) (h2:Int.gcd x z=1):Int.gcd x (y*z)=1:=by
 show Nat.gcd x.natAbs (y*z).natAbs=1
 rw [Int.natAbs_mul]
 exact Nat.Coprime.mul_right h1 h2
theorem i9 {x y z:Int} (h1:Int.gcd y x=1) (h2:Int.gcd z x=1):Int.gcd (y*z) x=1:=by
 rw [Int.gcd_comm]
 exact f9 (by rw [Int.gcd_comm];exact h1) (by rw [Int.gcd_comm];exact h2)
theorem rY {x x' y:Int} (h:Int.gcd (x'*x) y=1):Int.gcd x' y=1:=by
 have e:Nat.gcd (x'*x).natAbs y.natAbs=1:=h
 rw [Int.natAbs_mul] at e
 exact Nat.Coprime.coprime_mul_right e
theorem cY {x x' y:Int} (h:Int.gcd (x*x') y=1):Int.gcd x' y=1:=by
 rw [Int.mul_comm] at h
 exact rY h
theorem dY {x y y':Int} (h:Int.gcd x (y*y')=1):Int.gcd x y'=1:=by
 rw [Int.gcd_comm] at h ⊢
 exact cY h
theorem bY {x y:Int} (h:y≠0):∃x' y':Int,x=(Int.gcd x y:Int)*x'∧y=(Int.gcd x y:Int)*y'∧Int.gcd x' y'=1∧x / (Int.gcd x y:Int)=x'∧y / (Int.gcd x y:Int)=y':=by
 have g:0 < Int.gcd x y:=Int.gcd_pos_of_ne_zero_right x h
 obtain ⟨x',hx⟩:((Int.gcd x y:Nat):Int)∣x:=Int.gcd_dvd_left ..
 obtain ⟨y',hy⟩:((Int.gcd x y:Nat):Int)∣y:=Int.gcd_dvd_right ..
 have n:((Int.gcd x y:Nat):Int)≠0:=by omega
 refine ⟨x',y',hx,hy,?_,?_,?_⟩
 · have e:Int.gcd x y=Int.gcd x y*Int.gcd x' y':=by
    have:Int.gcd x y=Int.gcd ((Int.gcd x y:Int)*x') ((Int.gcd x y:Int)*y'):=by rw [←hx,←hy]
    rw [Int.gcd_mul_left,Int.natAbs_natCast] at this
    exact this
   have:=Nat.eq_of_mul_eq_mul_left g (show Int.gcd x y*1=Int.gcd x y*Int.gcd x' y' by rw [←e,Nat.mul_one])
   exact this.symm
 · generalize ((Int.gcd x y:Nat):Int)=k at*
   rw [hx]
   exact Int.mul_ediv_cancel_left _ n
 · generalize ((Int.gcd x y:Nat):Int)=k at*
   rw [hy]
   exact Int.mul_ediv_cancel_left _ n
theorem bJ {k x:Int} (hk:0≤k) (h:0 < k*x):0 < x:=by
 by_cases q:0 < x
 · exact q
 · have:=Int.mul_nonpos_of_nonneg_of_nonpos hk (show x≤0 by omega)
   omega
noncomputable def pT (a b c d:Int):Int:=a*(d / (Int.gcd b d:Int))+c*(b / (Int.gcd b d:Int))
noncomputable def pE (a b c d:Int):Int:=(Int.gcd (pT a b c d) (Int.gcd b d:Int):Int)
noncomputable def pX (a b c d:Int):Int:=pT a b c d / pE a b c d
noncomputable def pY (a b c d:Int):Int:=b / (Int.gcd b d:Int)*(d / pE a b c d)
theorem mY {a b c d:Int} (h1:cn a b) (h2:cn c d):cn (pX a b c d) (pY a b c d)∧pX a b c d*(b*d)=(a*d+c*b)*pY a b c d:=by
 obtain ⟨b0,g1⟩:=h1
 obtain ⟨d0,g2⟩:=h2
 obtain ⟨b',d',eb,ed,g3,qb,qd⟩:=bY (x:=b) (y:=d) (by omega)
 have s0:(0:Int) < (Int.gcd b d:Int):=by
  have:0 < Int.gcd b d:=Int.gcd_pos_of_ne_zero_right b (by omega)
  omega
 have eT:pT a b c d=a*d'+c*b':=by unfold pT;rw [qb,qd]
 unfold pX pY
 have eE:pE a b c d=(Int.gcd (a*d'+c*b') (Int.gcd b d:Int):Int):=by unfold pE;rw [eT]
 rw [eE,eT,qb]
 generalize ((Int.gcd b d:Nat):Int)=s at*
 obtain ⟨t',s',et,es,g4,qt,qs⟩:=bY (x:=a*d'+c*b') (y:=s) (by omega)
 have e0:(0:Int) < (Int.gcd (a*d'+c*b') s:Int):=by
  have:0 < Int.gcd (a*d'+c*b') s:=Int.gcd_pos_of_ne_zero_right _ (by omega)
  omega
 have b0':0 < b':=bJ (k:=s) (by omega) (by omega)
 have d0':0 < d':=bJ (k:=s) (by omega) (by omega)
 have cT1:Int.gcd (a*d'+c*b') b'=1:=by
  have:Int.gcd (a*d'+c*b') b'=Int.gcd (a*d') b':=by
   rw [Int.gcd_comm,Int.gcd_comm (a*d')]
   have e:a*d'+c*b'=a*d'+b'*c:=by rw [Int.mul_comm c b']
   rw [e]
   exact Int.gcd_add_mul_left_right ..
  rw [this]
  refine i9 ?_ (by rw [Int.gcd_comm];exact g3)
  rw [eb] at g1
  exact dY g1
 have cT2:Int.gcd (a*d'+c*b') d'=1:=by
  have:Int.gcd (a*d'+c*b') d'=Int.gcd (c*b') d':=by
   rw [Int.gcd_comm,Int.gcd_comm (c*b')]
   have e:a*d'+c*b'=c*b'+d'*a:=by rw [Int.mul_comm a d',Int.add_comm]
   rw [e]
   exact Int.gcd_add_mul_left_right ..
  rw [this]
  refine i9 ?_ g3
  rw [ed] at g2
  exact dY g2
 rw [qt]
 generalize ((Int.gcd (a*d'+c*b') s:Nat):Int)=e at*
 have s0':0 < s':=bJ (k:=e) (by omega) (by omega)
 have qd2:d / e=d'*s':=by
  rw [ed,es,Int.mul_assoc,Int.mul_ediv_cancel_left _ (by omega),Int.mul_comm]
 rw [qd2]
 generalize ht:a*d'+c*b'=t at*
 refine ⟨⟨Int.mul_pos b0' (Int.mul_pos d0' s0'),?_⟩,?_⟩
 · rw [et] at cT1 cT2
   exact f9 (cY cT1) (f9 (cY cT2) g4)
 · have e1:a*d+c*b=s*t:=by
    rw [ed,eb,←ht,Int.mul_add]
    simp only [Int.mul_left_comm]
   rw [e1,et,eb,ed]
   have e2:s*(e*t')*(b'*(d'*s'))=s*t'*b'*d'*(e*s'):=by
    simp only [Int.mul_assoc,Int.mul_left_comm,Int.mul_comm]
   rw [e2,←es]
   simp only [Int.mul_assoc,Int.mul_left_comm,Int.mul_comm]
noncomputable def tX (a b c d:Int):Int:=a / (Int.gcd a d:Int)*(c / (Int.gcd c b:Int))
noncomputable def tY (a b c d:Int):Int:=b / (Int.gcd c b:Int)*(d / (Int.gcd a d:Int))
theorem jN {a b c d:Int} (h1:cn a b) (h2:cn c d):cn (tX a b c d) (tY a b c d)∧tX a b c d*(b*d)=a*c*tY a b c d:=by
 obtain ⟨b0,g1⟩:=h1
 obtain ⟨d0,g2⟩:=h2
 obtain ⟨a',d',ea,ed,g3,qa,qd⟩:=bY (x:=a) (y:=d) (by omega)
 obtain ⟨c',b',ec,eb,g4,qc,qb⟩:=bY (x:=c) (y:=b) (by omega)
 have f0:(0:Int)≤(Int.gcd a d:Int):=by omega
 have k0:(0:Int)≤(Int.gcd c b:Int):=by omega
 unfold tX tY
 rw [qa,qd,qc,qb]
 generalize ((Int.gcd a d:Nat):Int)=f at*
 generalize ((Int.gcd c b:Nat):Int)=k at*
 have b0':0 < b':=bJ k0 (by omega)
 have d0':0 < d':=bJ f0 (by omega)
 subst ea ed ec eb
 have h1:Int.gcd a' b'=1:=cY (dY g1)
 have h2:Int.gcd c' d'=1:=cY (dY g2)
 refine ⟨⟨Int.mul_pos b0' d0',i9 (f9 h1 g3) (f9 g4 h2)⟩,?_⟩
 simp only [Int.mul_assoc,Int.mul_left_comm,Int.mul_comm]
theorem lX {t b:Int} (h:b≠0):cn (fx t b) (fy t b):=⟨by have:=w6 (t:=t) h;omega,vL h⟩
theorem ia {c d:Int} (h:cn c d):cn (-c) d:=⟨h.1,by rw [Int.gcd_comm,Int.gcd_neg,Int.gcd_comm];exact h.2⟩
theorem gn (a b:Int):(a / b).natAbs≤a.natAbs:=Int.natAbs_ediv_le_natAbs a b
end Mth
namespace L2
section
open PySem
variable {prog:Program} {w:World} {A:Around} {R:Result→Shared→Prop} {s:Shared}
theorem ic {elt target iter:Expr} {ifs:List Expr} {scope:Scope} {pos:Pos} {it acc:Value} {env:Env} (I:Nat→Shared→Prop)
 (turn:∀n s,I n s→wpAny (model prog w) A (pyNext it) (fun r s₁=>match r with
  |none=>R (.ok .next) s₁
  |some v=>wpAny (model prog w) A (letOwnedTupleGo target it v) (fun _ s₁'=>wpAny (model prog w) A (assign target env v) (fun _ s₂=>
   wpAny (model prog w) A (forIn ifs true fun c r=>if r=true then do let ok←isTrue c env (eval c env);pure (ForInStep.yield ok) else pure (ForInStep.yield r)) (fun ok s₃=>
    if ok=true then wpAny (model prog w) A (eval elt env) (fun x s₄=>
     wpAny (model prog w) A (call (.builtin "list.append") [acc,x]) (fun _ s₅=>∃m,m < n∧I m s₅) (fun _ _=>False) s₄) (fun _ _=>False) s₃
    else∃m,m < n∧I m s₃) (fun _ _=>False) s₂) (fun _ _=>False) s₁') (fun _ _=>False) s₁) (fun _ _=>False) s)
 (n:Nat) (h:I n s):codeAny (model prog w) A (.compLoop (.ListComp elt [⟨target,iter,ifs,0⟩] scope pos) 0 it acc env) R s:=by
 refine codeAny_loop rfl I (fun n s hI=> ?_) n h
 show wpAny _ A ((compTurn (.ListComp elt [⟨target,iter,ifs,0⟩] scope pos) 0 it acc env).onRaise (fun x=>do noteFrame x env;theTreesLotGoes x)) _ _ s
 refine wpAny_noted ?_
 rw [compTurn_list]
 refine wpAny_bind (wpAny_standAt (wpAny_bind (wpAny_mono (turn n s hI) (fun r s₁ h₁=> ?_) fun _ _ z=>z.elim)))
 cases r with
 |none=>exact wpAny_pure h₁
 |some v=>
  refine wpAny_bind (wpAny_mono h₁ (fun _ s₁' h₁'=> ?_) fun _ _ z=>z.elim)
  refine wpAny_bind (wpAny_mono h₁' (fun _ s₂ h₂=>wpAny_bind (wpAny_mono h₂ (fun ok s₃ h₃=> ?_) fun _ _ z=>z.elim)) fun _ _ z=>z.elim)
  cases ok with
  |false=>exact wpAny_pure ⟨rfl,h₃⟩
  |true=>
   exact wpAny_bind (wpAny_bind (wpAny_mono h₃ (fun x s₄ h₄=>wpAny_bind (wpAny_mono h₄ (fun _ s₅ h₅=>wpAny_pure (wpAny_pure ⟨rfl,h₅⟩)) fun _ _ z=>z.elim)) fun _ _ z=>z.elim))
noncomputable def cF (names:List (Str×NameKind)) (cells:List (Str×Addr)):List (Str×Addr)→List (Str×Addr):=match names with
 | []=>fun cs=>cs
 |(n,k)::r=>fun cs=>cF r cells (if (k== .free)=true then (n,(cells.lookup n).getD 0)::cs else cs)
noncomputable def cm (names:List (Str×NameKind)) (cells:List (Str×Addr)):Bool:=names.all fun y=> !(y.2== .free) ||(cells.lookup y.1).isSome
theorem jC (env:Env):∀(names:List (Str×NameKind)) (cs:List (Str×Addr)),cm names env.cells=true→
 (forIn names cs fun (x:Str×NameKind) (r:List (Str×Addr))=>match x with
  |(name,kind)=>if (kind==NameKind.free)=true then do let __do_lift←cellOf env name;pure (ForInStep.yield ((name,__do_lift)::r)) else pure (ForInStep.yield r):Sem (List (Str×Addr)))=pure (cF names env.cells cs)
 | [],cs,_=>rfl
 |(n,k)::r,cs,h=>by
  unfold cm at h
  rw [List.all_cons,Bool.and_eq_true] at h
  rw [List.forIn_cons]
  unfold cF
  by_cases hk:(k==NameKind.free)=true
  · rw [if_pos hk]
    dsimp only
    rw [if_pos hk]
    have h1:(env.cells.lookup n).isSome=true:=by
     have:=h.1
     rw [hk] at this
     simpa using this
    obtain ⟨c,hc⟩:=Option.isSome_iff_exists.mp h1
    have e:cellOf env n=pure c:=by unfold cellOf;rw [hc]
    rw [e,hc]
    exact jC env r _ h.2
  · rw [if_neg hk]
    dsimp only
    rw [if_neg hk]
    exact jC env r _ h.2
theorem nX {scope:Scope} {env:Env} (h:cm scope.names env.cells=true):closureFor scope env=pure (cF scope.names env.cells []):=by
 unfold closureFor
 have:=jC env scope.names [] h
 simp only [bind_pure]
 exact this
theorem kU {cells:List (Str×Addr)}:∀(names:List (Str×NameKind)) (cs:List (Str×Addr)),cm names cells=true→(∀y c,cs.lookup y=some c→cells.lookup y=some c)→∀y c,(cF names cells cs).lookup y=some c→cells.lookup y=some c
 | [],cs,_,hc,y,c,e=>hc y c e
 |(n,k)::r,cs,h,hc,y,c,e=>by
  unfold cm at h
  rw [List.all_cons,Bool.and_eq_true] at h
  refine kU r _ h.2 (fun z d q=> ?_) y c e
  by_cases hk:(k==NameKind.free)=true
  · rw [if_pos hk,List.lookup_cons] at q
    cases zn:(z==n) with
    |true=>
     rw [zn] at q
     have h1:(cells.lookup n).isSome=true:=by
      have:=h.1
      rw [hk] at this
      simpa using this
     obtain ⟨c',hc'⟩:=Option.isSome_iff_exists.mp h1
     have zn':z=n:=by simpa using zn
     rw [zn',hc']
     have q':some ((cells.lookup n).getD 0)=some d:=q
     rw [hc'] at q'
     exact q'
    |false=>
     rw [zn] at q
     exact hc z d q
  · rw [if_neg hk] at q
    exact hc z d q
theorem iP {cells:List (Str×Addr)}:∀(names:List (Str×NameKind)) (cs:List (Str×Addr)) (y:Str),(∃c,cs.lookup y=some c)→∃c,(cF names cells cs).lookup y=some c
 | [],cs,y,h=>h
 |(n,k)::r,cs,y,h=>by
  refine iP r _ y ?_
  by_cases hk:(k==NameKind.free)=true
  · rw [if_pos hk,List.lookup_cons]
    cases zn:(y==n) with
    |true=>exact ⟨_,rfl⟩
    |false=>exact h
  · rw [if_neg hk]
    exact h
theorem ii {cells:List (Str×Addr)}:∀(names:List (Str×NameKind)) (cs:List (Str×Addr)) (y:Str),(y,NameKind.free)∈names→∃c,(cF names cells cs).lookup y=some c
 | [],_,y,h=>by cases h
 |(n,k)::r,cs,y,h=>by
  rcases List.mem_cons.mp h with e|h
  · obtain ⟨e1,e2⟩:=Prod.mk.inj e
    subst e1
    subst e2
    unfold cF
    refine iP r _ y ?_
    rw [if_pos (show (NameKind.free==NameKind.free)=true from rfl),List.lookup_cons]
    have:(y==y)=true:=by simp
    rw [this]
    exact ⟨_,rfl⟩
  · exact ii r _ y h
end
open PySem PySem.Spec PyProof.Rows
noncomputable abbrev XC (X:Cx) (scope:Scope) (NC:List Str) (C:Addr) (s:Shared) (H:Hp) (fp:List Addr) (pn:List (Addr×Obj)):Cx:=
 {X with N:=NC,s₀:=s,H₀:=H,env:=compEnvC scope (cF scope.names X.env.cells []) C X.env,outer:=X.stack,stack:=X.stack,ex:=fp,fn:=fun _=>false,pn:=pn,xe:=fun _ _=>False}
noncomputable def subS (mp:List (Option Nat)) (σ:St):St:=mp.map fun o=>match o with
 |some i=>(σ[i]?).getD none
 |none=>none
noncomputable def k7 (N NC:List Str) (mp:List (Option Nat)) (names outer:List (Str×NameKind)):Bool:=(List.range mp.length).all fun j=>match mp[j]? with
 |some (some i)=>(match NC[j]?,N[i]? with
  |some y,some z=>y==z&&names.lookup y==some NameKind.free&& (outer.lookup y==some NameKind.cell ||outer.lookup y==some NameKind.free)
  |_,_=>false)
 |_=>true
theorem qY {N NC:List Str} {mp:List (Option Nat)} {names outer:List (Str×NameKind)} (h:k7 N NC mp names outer=true) {j i:Nat} (e:mp[j]?=some (some i)):∃y,NC[j]?=some y∧N[i]?=some y∧names.lookup y=some .free∧(outer.lookup y=some .cell∨outer.lookup y=some .free):=by
 unfold k7 at h
 rw [List.all_eq_true] at h
 have hj:j < mp.length:=(List.getElem?_eq_some_iff.mp e).1
 have:=h j (List.mem_range.mpr hj)
 rw [e] at this
 dsimp only at this
 split at this
 · rename_i y z e1 e2
   simp only [Bool.and_eq_true,Bool.or_eq_true,beq_iff_eq] at this
   obtain ⟨⟨rfl,h2⟩,h3⟩:=this
   exact ⟨y,e1,e2,h2,h3⟩
 · cases this
def PTs (X:Cx) (ifs:List Expr) (t:TT):Prop:=
 ∀(pins:List (Addr×Obj)) (s:Shared) (σ:St) (H:Hp) (Q:Bool→Hp→Prop),Inv X pins σ H s→t σ H Q→
  wpAny (model X.prog X.w) X.A (forIn ifs true fun c r=>if r=true then do let ok←isTrue c X.env (eval c X.env);pure (ForInStep.yield ok) else pure (ForInStep.yield r)) (TP X pins σ Q) X.xe s
def gh:TT:=fun _ H Q=>Q true H
theorem d5 {X:Cx}:PTs X [] gh:=fun _ _ σ H Q I h=>wpAny_tests_nil ⟨H,I,h⟩
theorem mX {X:Cx} {c:Expr} {t:TT} (hc:PT X c t):PTs X [c] t:=fun pins s σ H Q I h=>wpAny_tests_one (hc pins s σ H Q I h)
def Ext (σ σ':St):Prop:=∀(j:Nat) (v:V),σ[j]?=some (some v)→σ'[j]?=some (some v)
theorem ext1 {o:Option V} {r:St}:Ext (none::r) (o::r)
 |0,v,e=>by cases (Option.some.inj (show some (none:Option V)=some (some v) from e))
 |j+1,v,e=>e
theorem ext2 {o p:Option V} {r:St}:Ext (none::none::r) (o::p::r)
 |0,v,e=>by cases (Option.some.inj (show some (none:Option V)=some (some v) from e))
 |1,v,e=>by cases (Option.some.inj (show some (none:Option V)=some (some v) from e))
 |j+2,v,e=>e
def fU (mp:List (Option Nat)) (wi:TI) (g:TG) (tc:TT) (te:TE):TE:=fun σ H Q=>wi σ H fun J H1=>∀D,H1 D=none→
 ∃W:Nat→Nat→List V→Hp→Prop,(∃m,W 0 m [] (upd H1 D (.lst [])))∧∀i m acc H2,W i m acc H2→
  (J.stop i H2∧Q (.ref D) H2)∨
  (J.go i H2∧∀x H3,J.yld i H2 x H3→g x (subS mp σ) H3 fun σ4 H4=>Ext (subS mp σ) σ4∧tc σ4 H4 fun b H5=>if b=true then te σ4 H5 fun v H6=>H6 D=some (.lst acc)∧acc.length < sizeLine∧∃m',m' < m∧W (i+1) m' (acc++ [v]) (upd H6 D (.lst (acc++ [v])))
   else∃m',m' < m∧W (i+1) m' acc H5)
open PySem PySem.Spec PyProof.Rows
theorem cu {env:Env}:∀ {names:List (Str×NameKind)} {x:Str},names.lookup x=some .free→
 (names.map fun (n,k)=>if (k==NameKind.free&&env.scope.kind== .function&&env.kindOf n==some .cell) then (n,NameKind.cell) else (n,k)).lookup x=some .cell∨
 (names.map fun (n,k)=>if (k==NameKind.free&&env.scope.kind== .function&&env.kindOf n==some .cell) then (n,NameKind.cell) else (n,k)).lookup x=some .free
 | [],_,h=>by simp at h
 |(n,k)::r,x,h=>by
  have ih:= @cu env r x
  show List.lookup x ((if (k==NameKind.free&&env.scope.kind== .function&&env.kindOf n==some .cell)=true then (n,NameKind.cell) else (n,k))::_)=_∨List.lookup x ((if (k==NameKind.free&&env.scope.kind== .function&&env.kindOf n==some .cell)=true then (n,NameKind.cell) else (n,k))::_)=_
  cases hx:x==n with
  |true=>
   simp only [List.lookup_cons,hx] at h
   cases h
   by_cases hc:(NameKind.free==NameKind.free&&env.scope.kind== .function&&env.kindOf n==some .cell)=true
   · rw [if_pos hc]
     left
     simp only [List.lookup_cons,hx]
   · rw [if_neg hc]
     right
     simp only [List.lookup_cons,hx]
  |false=>
   simp only [List.lookup_cons,hx] at h
   by_cases hc:(k==NameKind.free&&env.scope.kind== .function&&env.kindOf n==some .cell)=true
   · rw [if_pos hc]
     simp only [List.lookup_cons,hx]
     exact ih h
   · rw [if_neg hc]
     simp only [List.lookup_cons,hx]
     exact ih h
theorem fY {env:Env}:∀ {names:List (Str×NameKind)} {x:Str},(∀y∈names,y.2≠ .cell)→
 ((names.map fun (n,k)=>if (k==NameKind.free&&env.scope.kind== .function&&env.kindOf n==some .cell) then (n,NameKind.cell) else (n,k)).lookup x=some .cell∨
 (names.map fun (n,k)=>if (k==NameKind.free&&env.scope.kind== .function&&env.kindOf n==some .cell) then (n,NameKind.cell) else (n,k)).lookup x=some .free)→(x,NameKind.free)∈names
 | [],_,_,h=>by simp at h
 |(n,k)::r,x,hn,h=>by
  have ih:= @fY env r x (fun y hy=>hn y (List.mem_cons_of_mem _ hy))
  have nk:k≠ .cell:=hn (n,k) List.mem_cons_self
  rw [List.map_cons] at h
  dsimp only at h
  cases hx:x==n with
  |true=>
   have xn:x=n:=by simpa using hx
   subst xn
   by_cases hc:(k==NameKind.free&&env.scope.kind== .function&&env.kindOf x==some .cell)=true
   · have:k= .free:=by
      have:=hc
      rw [Bool.and_eq_true,Bool.and_eq_true] at this
      simpa using this.1.1
     rw [this]
     exact List.mem_cons_self
   · rw [if_neg hc,List.lookup_cons,hx] at h
     rcases h with h|h
     · exact absurd (Option.some.inj h) nk
     · cases (Option.some.inj h)
       exact List.mem_cons_self
  |false=>
   refine List.mem_cons_of_mem _ (ih ?_)
   by_cases hc:(k==NameKind.free&&env.scope.kind== .function&&env.kindOf n==some .cell)=true
   · rw [if_pos hc,List.lookup_cons,hx] at h
     exact h
   · rw [if_neg hc,List.lookup_cons,hx] at h
     exact h
section
variable {X:Cx} {pins:List (Addr×Obj)} {σ:St} {H:Hp} {s:Shared}
theorem Inv.block {scope:Scope} {NC:List Str} {mp:List (Option Nat)} {fp:List Addr} {h1:Heap} {tk:Nat} {m:Str→Option Value} (I:Inv X pins σ H s) (hf:∀b∈fp,FpOk X pins H b) (hlt:∀b∈fp,b < s.heap.objs.size) (hk:scope.kind= .function) (hnc:∀y∈scope.names,y.2≠ .cell)
 (hc:cm scope.names X.env.cells=true) (hl:mp.length=NC.length) (hm:k7 X.N NC mp scope.names X.env.scope.names=true) (kp:∀b o,s.heap.get? b=some o→h1.get? b=some o) (hn:h1.Ns s.heap.objs.size m):
 Inv (XC X scope NC s.heap.objs.size s H fp (X.pn++pins)) [] (subS mp σ) H {s with heap:=h1,toks:=tk}:=by
 have sub:=kU (cells:=X.env.cells) scope.names [] hc (fun y c e=>by cases e)
 have lt:∀b o,s.heap.get? b=some o→b≠s.heap.objs.size:=fun b o e=>Nat.ne_of_lt (Heap.lt_size e)
 have nst:∀b,b≠X.env.locals→b∉X.fs→b∉frs X.stack:=fun b h1 h2 z=>by
  rcases List.mem_cons.mp (I.stkSub b z) with e|e
  · exact h1 e
  · exact h2 e
 refine ⟨⟨I.ok.mod,hk,I.ok.glob,I.ok.blt,Nat.le_refl _,fun x y c e1 e2=>I.ok.inj x y c (sub x c e1) (sub y c e2),fun x hx=> ?_,(fun _ _ z=>by cases z),I.ok.hd,I.ok.frames, .inl rfl,fun b hb=> ?_,fun b o e=> ?_,Nat.le_trans I.ok.bsz I.sz,fun b o e hb=> ?_,fun b hb=> ?_,I.stack,I.stkFree⟩,
  rfl,I.bare,Un.kept kp,⟨m,hn,fun j y v e1 e2 e3=> ?_⟩,fun y c e=> ?_,I.hok.fresh (Nat.le_refl _),fun y c e=>I.freeC y c (sub y c e),fun p hp=> ?_,I.hok.kept kp,?_⟩
 · exact ii scope.names [] x (fY hnc hx)
 · obtain ⟨f0,f1,f2,f3,f4,f5⟩:=hf b hb
   exact ⟨Nat.ne_of_lt (hlt b hb),fun x c e=>f4 x c (sub x c e)⟩
 · obtain ⟨h1,h2⟩:=I.bs b o e
   exact ⟨h1,h2⟩
 · obtain ⟨f0,f1,f2,f3,f4,f5⟩:=hf b hb
   rcases f3 with z|z
   · exact I.ok.noex b o e z
   · exact absurd (Nat.lt_of_lt_of_le (Heap.lt_size e) (Nat.le_trans I.ok.bsz z)) (Nat.lt_irrefl _)
 · obtain ⟨f0,f1,f2,f3,f4,f5⟩:=hf b hb
   exact nst b f1 f2
 ·
  unfold subS at e2
  rw [List.getElem?_map] at e2
  cases q:mp[j]? with
  |none=>rw [q] at e2;cases e2
  |some o=>
   rw [q] at e2
   cases o with
   |none=>cases e2
   |some i=>
    have e2':some ((σ[i]?).getD none)=some (some v):=e2
    obtain ⟨z,y1,y2,y3,y4⟩:=qY hm q
    have yz:y=z:=Option.some.inj ((show NC[j]?=some y from e1).symm.trans y1)
    subst yz
    have e4:σ[i]?=some (some v):=by
     cases w:σ[i]? with
     |none=>rw [w] at e2';cases e2'
     |some t=>rw [w] at e2';exact e2'
    obtain ⟨m0,hn0,hl0⟩:=I.loc
    obtain ⟨c,hcl⟩:=ii (cells:=X.env.cells) scope.names [] y (PySem.mem_of_lookup y3)
    have hcx:=sub y c hcl
    have vis:Vis X.env.scope y:= .inr y4
    obtain ⟨u,ru,lk⟩:=hl0 i y v y2 e4 vis
    refine ⟨u,ru, .inr ⟨cu y3,c,hcl,?_⟩⟩
    rcases lk with ⟨k1,_⟩|⟨_,c',k2,k3⟩
    · have k1':X.env.scope.names.lookup y=some .local:=k1
      rcases y4 with y4|y4<;>(rw [y4] at k1';cases k1')
    · rw [hcx] at k2
      cases k2
      obtain ⟨oc,q1,q2⟩:=k3
      exact ⟨oc,kp _ _ q1,q2⟩
 · obtain ⟨v,oc,q1,q2⟩:=I.cell y c (sub y c e)
   exact ⟨v,oc,kp _ _ q1,q2⟩
 · have hp':p∈X.pn++pins:=by simpa using hp
   obtain ⟨q1,q2,q3,q4,q5⟩:=I.pin p hp'
   exact ⟨kp _ _ q1,q2,lt _ _ q1,nst _ q3 q4,q5⟩
 · show (subS mp σ).length=NC.length
   unfold subS
   rw [List.length_map,hl]
variable {elt target iter:Expr} {ifs:List Expr} {scope:Scope} {NC:List Str} {mp:List (Option Nat)} {pos:Pos} {wi:TI} {g:TG} {tc:TT} {te:TE}
theorem cJ (hcalm:X.calm=true) (hi:PI X target iter wi) (hg:∀C s H fp pn,PG (XC X scope NC C s H fp pn) target g) (ht:∀C s H fp pn,PTs (XC X scope NC C s H fp pn) ifs tc) (he:∀C s H fp pn,PE (XC X scope NC C s H fp pn) elt te)
 (hl:mp.length=NC.length:=by rfl) (hm:k7 X.N NC mp scope.names X.env.scope.names=true:=by rfl) (hc:cm scope.names X.env.cells=true:=by rfl) (hk:scope.kind= .function:=by rfl)
 (hnc:∀y∈scope.names,y.2≠ .cell:=by decide +kernel) (hnm:∀y∈scope.names,y.2= .local→scope.names.lookup y.1=some .local:=by decide +kernel) (hs:∀x,foldedSetIterable iter X.env x=pure x:=by intro _;rfl):
 PE X (.ListComp elt [⟨target,iter,ifs,0⟩] scope pos) (fU mp wi g tc te):=by
 intro pins s σ H Q I h
 rw [eval_ListComp]
 refine wpAny_comprehension_free (use:=none) rfl hs (nX hc) hk hnm (thn (hi pins s σ H _ I h) fun v s1 h1=>thn h1 fun itv s2 h2=> ?_)
 obtain ⟨it,fp,tn,J,H2,e,I2,T,st2,f2,W⟩:=h2
 subst e
 refine wpAny_newObj_type ?_ (by show 0≤sizeLine;decide)
 have nD:H2 s2.heap.objs.size=none:=I2.hok.fresh (Nat.le_refl _)
 have I3:Inv X pins σ (upd H2 s2.heap.objs.size (.lst [])) {s2 with heap:=s2.heap.push {cls:= .type "list",data:= .seq ([]:List Value).toArray}}:=
  I2.laid (t':=s2.toks) (fun b u e=>Heap.get?_push_of_some _ e) (Nat.le_refl _) ⟨by show 0≤sizeLine;decide,[],0, .nil,Heap.get?_push_size _ rfl⟩
 obtain ⟨W,⟨m0,w0⟩,turn⟩:=W _ nD
 have lt2:∀b∈fp,b < s2.heap.objs.size:=fun b hb=>by
  obtain ⟨o,e,_⟩:=T.obj 0 _ st2 b hb
  exact Heap.lt_size e
 have nDf:∀b∈fp,b≠s2.heap.objs.size:=fun b hb=>Nat.ne_of_lt (lt2 b hb)
 have f3:∀b∈fp,FpOk X pins (upd H2 s2.heap.objs.size (.lst [])) b:=fun b hb=>by
  obtain ⟨g0,g1⟩:=f2 b hb
  exact ⟨by rw [ak (nDf b hb)];exact g0,g1⟩
 have st3:tn 0 (s2.heap.push {cls:= .type "list",data:= .seq ([]:List Value).toArray}):=T.keep 0 _ _ st2 fun b _ o e=>Heap.get?_push_of_some _ e
 have lt3:∀b∈fp,b < (s2.heap.push {cls:= .type "list",data:= .seq ([]:List Value).toArray}).objs.size:=fun b hb=>by
  rw [Heap.size_push]
  exact Nat.lt_succ_of_lt (lt2 b hb)
 generalize hD:s2.heap.objs.size=D at*
 generalize hs3:({s2 with heap:=s2.heap.push {cls:= .type "list",data:= .seq ([]:List Value).toArray}}:Shared)=s3 at*
 have hh3:s3.heap=s2.heap.push {cls:= .type "list",data:= .seq ([]:List Value).toArray}:=by rw [←hs3]
 rw [←hh3] at st3 lt3
 generalize hH3:upd H2 D (.lst [])=H3 at*
 refine wpAny_newFunctionEnv (around:=some X.env) hnc (by intro y hy;cases hy) (fun h4 hn4 hsb4=> ?_) hk
 have kp4:∀b o,s3.heap.get? b=some o→h4.get? b=some o:=fun b o e=>hsb4.extBut b o (Nat.ne_of_lt (Heap.lt_size e)) (Heap.get?_push_of_some _ e)
 have I4:=I3.block (tk:=s3.toks+([]:List (Str×Value)).length) f3 lt3 hk hnc hc hl hm kp4 hn4
 have st4:tn 0 h4:=T.keep 0 _ _ st3 fun b _ o e=>kp4 b o e
 have fin:∀(s5:Shared) (σ5:St) (H5:Hp),Inv (XC X scope NC s3.heap.objs.size s3 H3 fp (X.pn++pins)) [] σ5 H5 s5→Q (.ref D) H5→compPost (model X.prog X.w) X.A X.xe none (EP X pins σ Q) (.ref D) s3.heap.objs.size (.ok .next) s5:=by
  intro s5 σ5 H5 I5 q5
  obtain ⟨m5,hn5,_⟩:=id I5.loc
  refine ⟨m5,hn5,fun h6 sb6=>⟨.ref D,H5,?_,rfl,q5⟩⟩
  have kp6:∀b o,b≠s3.heap.objs.size→s5.heap.get? b=some o→h6.get? b=some o:=fun b o hb e=>sb6.extBut b o hb e
  have nC:∀b o,s3.heap.get? b=some o→b≠s3.heap.objs.size:=fun b o e=>Nat.ne_of_lt (Heap.lt_size e)
  have un:Un (frs X.stack) fp H3 H5 s3.heap s5.heap:=I5.base
  have hfree:H5 s3.heap.objs.size=none:=I5.free
  refine I3.call' (s':= {s5 with heap:=h6}) (ch:=fp) I5.os ⟨fun b o e n hb hx=>kp6 b o (nC b o e) (un.keep b o e n hb hx),fun b o e n hb hx=> ?_,un.free,fun b o e hx=> ?_,un.tups,un.frzs,un.tbls⟩ ?_ I5.bare (fun b hb=> ?_)
  · obtain ⟨sl,e1⟩:=un.slot b o e n hb hx
    exact ⟨sl,kp6 b _ (nC b o e) e1⟩
  · obtain ⟨o',e1⟩:=un.there b o e hx
    exact ⟨o',kp6 b o' (nC b o e) e1⟩
  · intro b o e
    have nb:b≠s3.heap.objs.size:=fun z=>by rw [z,hfree] at e;cases e
    refine (I5.hok b o e).stay (fun c v hc' r=>kp6 c v ?_ r) (fun _ r=>r) fun _ _ r=>r
    rcases hc' with z|z
    · rw [z];exact nb
    · intro y
      rw [y,hfree] at z
      cases z
  · obtain ⟨g0,g1,g2,g3,g4,g5⟩:=f3 b hb
    exact ⟨g3,g1,g4,g5⟩
 have loop:codeAny (model X.prog X.w) X.A (.compLoop (.ListComp elt [⟨target,iter,ifs,0⟩] scope pos) 0 (.ref it) (.ref D) (compEnvC scope (cF scope.names X.env.cells []) s3.heap.objs.size X.env)) (compPost (model X.prog X.w) X.A X.xe none (EP X pins σ Q) (.ref D) s3.heap.objs.size)
  {s3 with heap:=h4,toks:=s3.toks+([]:List (Str×Value)).length}:=by
  refine ic (fun n s'=>∃i acc σ' H',Inv (XC X scope NC s3.heap.objs.size s3 H3 fp (X.pn++pins)) [] σ' H' s'∧Ext (subS mp σ) σ'∧tn i s'.heap∧(∀b∈fp,H' b=none)∧W i n acc H') ?_ m0
   ⟨0,[],subS mp σ,H3,I4,fun _ _ e=>e,st4,fun b hb=>(f3 b hb).1,w0⟩
  rintro n s5 ⟨i,acc,σ5,H5,I5,hσ,st5,fr5,w5⟩
  have I5':Inv (XC X scope NC s3.heap.objs.size s3 H3 fp (X.pn++pins)) [] (subS mp σ) H5 s5:=I5.weak (by rw [I5.len];unfold subS;rw [List.length_map];exact hl) hσ
  have fpk:∀ {H':Hp},(∀b∈fp,H' b=none)→∀b∈fp,FpOk (XC X scope NC s3.heap.objs.size s3 H3 fp (X.pn++pins)) [] H' b:=fun hn b hb=>by
   obtain ⟨g0,g1,g2,g3,g4,g5⟩:=f3 b hb
   refine ⟨hn b hb,Nat.ne_of_lt (lt3 b hb),?_, .inl hb,(I4.ok.exf b hb).2,fun p hp=>g5 p (by simpa using hp)⟩
   exact I4.ok.exfs b hb
  rcases turn i n acc H5 w5 with ⟨stop,q⟩|⟨go,step⟩
  · refine thn (T.done (XC X scope NC s3.heap.objs.size s3 H3 fp (X.pn++pins)) rfl rfl rfl hcalm i [] s5 _ H5 (fun _ _=>False) I5' (fpk fr5) st5 stop) fun r s6 ⟨hr,I6⟩=> ?_
    subst hr
    exact fin s6 _ H5 I6 q
  · refine thn (T.item (XC X scope NC s3.heap.objs.size s3 H3 fp (X.pn++pins)) rfl rfl rfl hcalm i [] s5 _ H5 (fun _ _=>False) I5' (fpk fr5) st5 go) fun r s6 ⟨u,hr,h6⟩=> ?_
    subst hr
    refine thn h6 fun _ s7 ⟨x,H7,I7,r7,y7,st7,fr7⟩=> ?_
    have I7':=I7.pinned (fpk fr7) (T.obj _ _ st7)
    refine thn (hg _ _ _ _ _ _ s7 _ H7 x u _ I7' r7 (step x H7 y7)) fun _ s8 ⟨σ8,H8,I8,ext8,q8⟩=> ?_
    refine thn (ht _ _ _ _ _ _ s8 σ8 H8 _ I8 q8) fun ok s9 ⟨H9,I9,q9⟩=> ?_
    have again:∀ {σ':St} {H':Hp} {s':Shared} {acc':List V} {m':Nat},Inv (XC X scope NC s3.heap.objs.size s3 H3 fp (X.pn++pins)) ([]++fz fp s7.heap) σ' H' s'→Ext (subS mp σ) σ'→m' < n→W (i+1) m' acc' H'→
     ∃m,m < n∧∃i acc σ' H',Inv (XC X scope NC s3.heap.objs.size s3 H3 fp (X.pn++pins)) [] σ' H' s'∧Ext (subS mp σ) σ'∧tn i s'.heap∧(∀b∈fp,H' b=none)∧W i m acc H':=by
     intro σ' H' s' acc' m' I' hσ' hm' w'
     refine ⟨m',hm',i+1,acc',σ',H',I'.unpinned,hσ',T.keep _ _ _ st7 fun b hb o e=>(I'.pin (b,o) (List.mem_append_right _ (List.mem_append_right _ (cb hb e)))).1,fun b hb=> ?_,w'⟩
     obtain ⟨o,e,d⟩:=T.obj _ _ st7 b hb
     exact (I'.pin (b,o) (List.mem_append_right _ (List.mem_append_right _ (cb hb e)))).2.1
    cases ok with
    |false=>
     rw [if_neg Bool.false_ne_true] at q9
     rw [if_neg Bool.false_ne_true]
     obtain ⟨m',hm',w'⟩:=q9
     exact again I9 ext8 hm' w'
    |true=>
     rw [if_pos rfl] at q9
     rw [if_pos rfl]
     refine thn (he _ _ _ _ _ _ s9 σ8 H9 _ I9 q9) fun v s10 ⟨y,H10,I10,r10,hD10,hz,m',hm',w'⟩=> ?_
     refine thn (bf (X:=XC X scope NC s3.heap.objs.size s3 H3 fp (X.pn++pins)) _ s10 σ8 H10 (.ref D) [y] (.ref D) [v] (fun _ H'=>H'=upd H10 D (.lst (acc++ [y]))) I10 rfl (.cons r10 .nil) ⟨D,acc,y,rfl,rfl,hD10,hz,rfl⟩) fun _ s11 ⟨_,H11,I11,_,e11⟩=> ?_
     subst e11
     exact again I11 ext8 hm' w'
 exact codeAny_compStart_list loop (T.self _ 0 _ _ _ st4 loop)
end
open PySem PySem.Spec PyProof.Rows
section
variable {X:Cx} {pins:List (Addr×Obj)} {σ:St} {H:Hp} {s:Shared}
theorem o4 {h h':Heap} {a b:Addr} {m:Str→Option Value} (hn:h.Ns a m) (sb:Heap.SameBut b h h') (ne:a≠b):h'.Ns a m:=by
 obtain ⟨o,es,ep,ho,r⟩:=hn
 exact ⟨o,es,ep,(sb.2 a ne).trans ho,r⟩
variable {elt target iter:Expr} {ifs:List Expr} {scope:Scope} {NC:List Str} {mp:List (Option Nat)} {pos spos:Pos} {wi:TI} {g:TG} {tc:TT} {te:TE} {i:Nat} {x:Str} {px:Pos}
theorem sV (hcalm:X.calm=true) (hN:X.N.Nodup) (hix:X.N[i]?=some x) (hx:X.env.scope.names.lookup x=some .local) (hsw:swapsWith (.ListComp elt [⟨target,iter,ifs,0⟩] scope pos) (some (.Name x px)) spos.line X.env=pure true)
 (hi:PI X target iter wi) (hg:∀C s H fp pn,PG (XC X scope NC C s H fp pn) target g) (ht:∀C s H fp pn,PTs (XC X scope NC C s H fp pn) ifs tc) (he:∀C s H fp pn,PE (XC X scope NC C s H fp pn) elt te)
 (hl:mp.length=NC.length:=by rfl) (hm:k7 X.N NC mp scope.names X.env.scope.names=true:=by rfl) (hc:cm scope.names X.env.cells=true:=by rfl) (hk:scope.kind= .function:=by rfl)
 (hnc:∀y∈scope.names,y.2≠ .cell:=by decide +kernel) (hnm:∀y∈scope.names,y.2= .local→scope.names.lookup y.1=some .local:=by decide +kernel) (hs:∀x,foldedSetIterable iter X.env x=pure x:=by intro _;rfl):
 PS X (.Assign [.Name x px] (.ListComp elt [⟨target,iter,ifs,0⟩] scope pos) spos) (tAsg (fU mp wi g tc te) (cv i)):=by
 intro pins s σ H Z I h
 rw [exec_Assign_Name_used _ _ _ _ hsw]
 refine wpAny_bind (wpAny_standAt (wpAny_bind ?_))
 show wpAny _ _ (do let _←comprehension (.ListComp elt [⟨target,iter,ifs,0⟩] scope pos) scope X.env _ (newList []) false (eval iter X.env) (some (assign (.Name x px) X.env))) _ _ s
 refine wpAny_bind (wpAny_mono (wpAny_comprehension_free (use:=some (assign (.Name x px) X.env)) (Q:=fun _ s'=>SP X pins Z .next s') (E:=X.xe) rfl hs (nX hc) hk hnm
  (thn (hi pins s σ H _ I h) fun v s1 h1=>thn h1 fun itv s2 h2=> ?_)) (fun _ s' q=>wpAny_pure (wpAny_pure q)) fun _ _ e=>e)
 obtain ⟨it,fp,tn,J,H2,e,I2,T,st2,f2,W⟩:=h2
 subst e
 refine wpAny_newObj_type ?_ (by show 0≤sizeLine;decide)
 have nD:H2 s2.heap.objs.size=none:=I2.hok.fresh (Nat.le_refl _)
 have I3:Inv X pins σ (upd H2 s2.heap.objs.size (.lst [])) {s2 with heap:=s2.heap.push {cls:= .type "list",data:= .seq ([]:List Value).toArray}}:=
  I2.laid (t':=s2.toks) (fun b u e=>Heap.get?_push_of_some _ e) (Nat.le_refl _) ⟨by show 0≤sizeLine;decide,[],0, .nil,Heap.get?_push_size _ rfl⟩
 obtain ⟨W,⟨m0,w0⟩,turn⟩:=W _ nD
 have lt2:∀b∈fp,b < s2.heap.objs.size:=fun b hb=>by
  obtain ⟨o,e,_⟩:=T.obj 0 _ st2 b hb
  exact Heap.lt_size e
 have nDf:∀b∈fp,b≠s2.heap.objs.size:=fun b hb=>Nat.ne_of_lt (lt2 b hb)
 have f3:∀b∈fp,FpOk X pins (upd H2 s2.heap.objs.size (.lst [])) b:=fun b hb=>by
  obtain ⟨g0,g1⟩:=f2 b hb
  exact ⟨by rw [ak (nDf b hb)];exact g0,g1⟩
 have st3:tn 0 (s2.heap.push {cls:= .type "list",data:= .seq ([]:List Value).toArray}):=T.keep 0 _ _ st2 fun b _ o e=>Heap.get?_push_of_some _ e
 have lt3:∀b∈fp,b < (s2.heap.push {cls:= .type "list",data:= .seq ([]:List Value).toArray}).objs.size:=fun b hb=>by
  rw [Heap.size_push]
  exact Nat.lt_succ_of_lt (lt2 b hb)
 generalize hD:s2.heap.objs.size=D at*
 generalize hs3:({s2 with heap:=s2.heap.push {cls:= .type "list",data:= .seq ([]:List Value).toArray}}:Shared)=s3 at*
 have hh3:s3.heap=s2.heap.push {cls:= .type "list",data:= .seq ([]:List Value).toArray}:=by rw [←hs3]
 rw [←hh3] at st3 lt3
 generalize hH3:upd H2 D (.lst [])=H3 at*
 refine wpAny_newFunctionEnv (around:=some X.env) hnc (by intro y hy;cases hy) (fun h4 hn4 hsb4=> ?_) hk
 have kp4:∀b o,s3.heap.get? b=some o→h4.get? b=some o:=fun b o e=>hsb4.extBut b o (Nat.ne_of_lt (Heap.lt_size e)) (Heap.get?_push_of_some _ e)
 have I4:=I3.block (tk:=s3.toks+([]:List (Str×Value)).length) f3 lt3 hk hnc hc hl hm kp4 hn4
 have st4:tn 0 h4:=T.keep 0 _ _ st3 fun b _ o e=>kp4 b o e
 have nC:∀b o,s3.heap.get? b=some o→b≠s3.heap.objs.size:=fun b o e=>Nat.ne_of_lt (Heap.lt_size e)
 have out:∀(s5:Shared) (σ5:St) (H5:Hp) (h6:Heap),Inv (XC X scope NC s3.heap.objs.size s3 H3 fp (X.pn++pins)) [] σ5 H5 s5→Heap.SameBut s3.heap.objs.size s5.heap h6→Inv X pins σ H5 {s5 with heap:=h6}:=by
  intro s5 σ5 H5 h6 I5 sb6
  have kp6:∀b o,b≠s3.heap.objs.size→s5.heap.get? b=some o→h6.get? b=some o:=fun b o hb e=>sb6.extBut b o hb e
  have un:Un (frs X.stack) fp H3 H5 s3.heap s5.heap:=I5.base
  have hfree:H5 s3.heap.objs.size=none:=I5.free
  refine I3.call' (s':= {s5 with heap:=h6}) (ch:=fp) I5.os ⟨fun b o e n hb hx=>kp6 b o (nC b o e) (un.keep b o e n hb hx),fun b o e n hb hx=> ?_,un.free,fun b o e hx=> ?_,un.tups,un.frzs,un.tbls⟩ ?_ I5.bare (fun b hb=> ?_)
  · obtain ⟨sl,e1⟩:=un.slot b o e n hb hx
    exact ⟨sl,kp6 b _ (nC b o e) e1⟩
  · obtain ⟨o',e1⟩:=un.there b o e hx
    exact ⟨o',kp6 b o' (nC b o e) e1⟩
  · intro b o e
    have nb:b≠s3.heap.objs.size:=fun z=>by rw [z,hfree] at e;cases e
    refine (I5.hok b o e).stay (fun c v hc' r=>kp6 c v ?_ r) (fun _ r=>r) fun _ _ r=>r
    rcases hc' with z|z
    · rw [z];exact nb
    · intro y
      rw [y,hfree] at z
      cases z
  · obtain ⟨g0,g1,g2,g3,g4,g5⟩:=f3 b hb
    exact ⟨g3,g1,g4,g5⟩
 have fin:∀(s5:Shared) (σ5:St) (H5:Hp),Inv (XC X scope NC s3.heap.objs.size s3 H3 fp (X.pn++pins)) [] σ5 H5 s5→Z.nx (σ.set i (some (.ref D))) H5→compPost (model X.prog X.w) X.A X.xe (some (assign (.Name x px) X.env)) (fun _ s'=>SP X pins Z .next s') (.ref D) s3.heap.objs.size (.ok .next) s5:=by
  intro s5 σ5 H5 I5 q5
  obtain ⟨m5,hn5,_⟩:=id I5.loc
  have I6:=out s5 σ5 H5 s5.heap I5 (.refl ..)
  have lC:X.env.locals≠s3.heap.objs.size:=Nat.ne_of_lt I3.lt
  show wpAny _ _ (assign (.Name x px) X.env (.ref D)) _ _ _
  refine wpAny_assign_Name (iw (X:=X) (v:= .ref D) I6 hN hix (.inl hx) rfl (fun s7 I7 hch=> ?_) (.inr hx))
  obtain ⟨a,sb7,ha⟩:=hch
  have aC:s3.heap.objs.size≠a:=by
   rcases ha with z|z
   · rw [z];exact Ne.symm lC
   · obtain ⟨v,oc,q1,_⟩:=I3.cell x a z
     exact Ne.symm (nC a oc q1)
  refine ⟨m5,o4 hn5 sb7 aC,fun h8 sb8=>⟨σ.set i (some (.ref D)),H5,?_,q5⟩⟩
  have hfree:H5 s3.heap.objs.size=none:=I5.free
  have kp8:∀b o,b≠s3.heap.objs.size→s7.heap.get? b=some o→h8.get? b=some o:=fun b o hb e=>sb8.extBut b o hb e
  have s0lt:∀b o,X.s₀.heap.get? b=some o→b≠s3.heap.objs.size:=fun b o e=>Nat.ne_of_lt (Nat.lt_of_lt_of_le (Heap.lt_size e) I3.sz)
  refine ⟨I7.ok,I7.os,I7.bare,⟨fun b o e n hb hx=>kp8 b o (s0lt b o e) (I7.base.keep b o e n hb hx),fun b o e n hb hx=> ?_,I7.base.free,fun b o e hx=> ?_,I7.base.tups,I7.base.frzs,I7.base.tbls⟩,?_,fun y c e=> ?_,I7.free,I7.freeC,fun p hp=> ?_,?_,I7.len⟩
  · obtain ⟨sl,e1⟩:=I7.base.slot b o e n hb hx
    exact ⟨sl,kp8 b _ (s0lt b o e) e1⟩
  · obtain ⟨o',e1⟩:=I7.base.there b o e hx
    exact ⟨o',kp8 b o' (s0lt b o e) e1⟩
  · obtain ⟨m7,hn7,hl7⟩:=I7.loc
    have cellN:∀y c,X.env.cells.lookup y=some c→c≠s3.heap.objs.size:=fun y c e=>by
     obtain ⟨v,oc,q1,_⟩:=I3.cell y c e
     exact nC c oc q1
    refine ⟨m7,o4 hn7 sb8 lC,fun j y v e1 e2 e3=> ?_⟩
    obtain ⟨u,ru,lk⟩:=hl7 j y v e1 e2 e3
    refine ⟨u,ru,?_⟩
    rcases lk with lk|⟨k1,c,k2,k3⟩
    · exact .inl lk
    · exact .inr ⟨k1,c,k2,k3.sameBut sb8 (cellN y c k2)⟩
  · obtain ⟨w',z⟩:=I7.cell y c e
    obtain ⟨v,oc,q1,_⟩:=I3.cell y c e
    exact ⟨w',z.sameBut sb8 (nC c oc q1)⟩
  · obtain ⟨e,n1,n2,n3,n4⟩:=I7.pin p hp
    obtain ⟨e3,_⟩:=I3.pin p hp
    exact ⟨kp8 _ _ (nC _ _ e3) e,n1,n2,n3,n4⟩
  · intro b o e
    have nb:b≠s3.heap.objs.size:=fun z=>by rw [z,hfree] at e;cases e
    refine (I7.hok b o e).stay (fun c v hc' r=>kp8 c v ?_ r) (fun _ r=>r) fun _ _ r=>r
    rcases hc' with z|z
    · rw [z];exact nb
    · intro y
      rw [y,hfree] at z
      cases z
 have loop:codeAny (model X.prog X.w) X.A (.compLoop (.ListComp elt [⟨target,iter,ifs,0⟩] scope pos) 0 (.ref it) (.ref D) (compEnvC scope (cF scope.names X.env.cells []) s3.heap.objs.size X.env)) (compPost (model X.prog X.w) X.A X.xe (some (assign (.Name x px) X.env)) (fun _ s'=>SP X pins Z .next s') (.ref D) s3.heap.objs.size)
  {s3 with heap:=h4,toks:=s3.toks+([]:List (Str×Value)).length}:=by
  refine ic (fun n s'=>∃i acc σ' H',Inv (XC X scope NC s3.heap.objs.size s3 H3 fp (X.pn++pins)) [] σ' H' s'∧Ext (subS mp σ) σ'∧tn i s'.heap∧(∀b∈fp,H' b=none)∧W i n acc H') ?_ m0
   ⟨0,[],subS mp σ,H3,I4,fun _ _ e=>e,st4,fun b hb=>(f3 b hb).1,w0⟩
  rintro n s5 ⟨i,acc,σ5,H5,I5,hσ,st5,fr5,w5⟩
  have I5':Inv (XC X scope NC s3.heap.objs.size s3 H3 fp (X.pn++pins)) [] (subS mp σ) H5 s5:=I5.weak (by rw [I5.len];unfold subS;rw [List.length_map];exact hl) hσ
  have fpk:∀ {H':Hp},(∀b∈fp,H' b=none)→∀b∈fp,FpOk (XC X scope NC s3.heap.objs.size s3 H3 fp (X.pn++pins)) [] H' b:=fun hn b hb=>by
   obtain ⟨g0,g1,g2,g3,g4,g5⟩:=f3 b hb
   refine ⟨hn b hb,Nat.ne_of_lt (lt3 b hb),?_, .inl hb,(I4.ok.exf b hb).2,fun p hp=>g5 p (by simpa using hp)⟩
   exact I4.ok.exfs b hb
  rcases turn i n acc H5 w5 with ⟨stop,q⟩|⟨go,step⟩
  · refine thn (T.done (XC X scope NC s3.heap.objs.size s3 H3 fp (X.pn++pins)) rfl rfl rfl hcalm i [] s5 _ H5 (fun _ _=>False) I5' (fpk fr5) st5 stop) fun r s6 ⟨hr,I6⟩=> ?_
    subst hr
    exact fin s6 _ H5 I6 q
  · refine thn (T.item (XC X scope NC s3.heap.objs.size s3 H3 fp (X.pn++pins)) rfl rfl rfl hcalm i [] s5 _ H5 (fun _ _=>False) I5' (fpk fr5) st5 go) fun r s6 ⟨u,hr,h6⟩=> ?_
    subst hr
    refine thn h6 fun _ s7 ⟨x,H7,I7,r7,y7,st7,fr7⟩=> ?_
    have I7':=I7.pinned (fpk fr7) (T.obj _ _ st7)
    refine thn (hg _ _ _ _ _ _ s7 _ H7 x u _ I7' r7 (step x H7 y7)) fun _ s8 ⟨σ8,H8,I8,ext8,q8⟩=> ?_
    refine thn (ht _ _ _ _ _ _ s8 σ8 H8 _ I8 q8) fun ok s9 ⟨H9,I9,q9⟩=> ?_
    have again:∀ {σ':St} {H':Hp} {s':Shared} {acc':List V} {m':Nat},Inv (XC X scope NC s3.heap.objs.size s3 H3 fp (X.pn++pins)) ([]++fz fp s7.heap) σ' H' s'→Ext (subS mp σ) σ'→m' < n→W (i+1) m' acc' H'→
     ∃m,m < n∧∃i acc σ' H',Inv (XC X scope NC s3.heap.objs.size s3 H3 fp (X.pn++pins)) [] σ' H' s'∧Ext (subS mp σ) σ'∧tn i s'.heap∧(∀b∈fp,H' b=none)∧W i m acc H':=by
     intro σ' H' s' acc' m' I' hσ' hm' w'
     refine ⟨m',hm',i+1,acc',σ',H',I'.unpinned,hσ',T.keep _ _ _ st7 fun b hb o e=>(I'.pin (b,o) (List.mem_append_right _ (List.mem_append_right _ (cb hb e)))).1,fun b hb=> ?_,w'⟩
     obtain ⟨o,e,d⟩:=T.obj _ _ st7 b hb
     exact (I'.pin (b,o) (List.mem_append_right _ (List.mem_append_right _ (cb hb e)))).2.1
    cases ok with
    |false=>
     rw [if_neg Bool.false_ne_true] at q9
     rw [if_neg Bool.false_ne_true]
     obtain ⟨m',hm',w'⟩:=q9
     exact again I9 ext8 hm' w'
    |true=>
     rw [if_pos rfl] at q9
     rw [if_pos rfl]
     refine thn (he _ _ _ _ _ _ s9 σ8 H9 _ I9 q9) fun v s10 ⟨y,H10,I10,r10,hD10,hz,m',hm',w'⟩=> ?_
     refine thn (bf (X:=XC X scope NC s3.heap.objs.size s3 H3 fp (X.pn++pins)) _ s10 σ8 H10 (.ref D) [y] (.ref D) [v] (fun _ H'=>H'=upd H10 D (.lst (acc++ [y]))) I10 rfl (.cons r10 .nil) ⟨D,acc,y,rfl,rfl,hD10,hz,rfl⟩) fun _ s11 ⟨_,H11,I11,_,e11⟩=> ?_
     subst e11
     exact again I11 ext8 hm' w'
 exact codeAny_compStart_list loop (T.self _ 0 _ _ _ st4 loop)
end
open PySem PySem.Spec PyProof.Rows
section
variable {κ:Type} [DecidableEq κ]
noncomputable def valV (kvs:List (κ×V)) (k:κ):Option V:=(kvs.find? fun kv=>decide (kv.1=k)).map (·.2)
noncomputable def putK (kvs:List (κ×V)) (k:κ) (v:V):List (κ×V):=
 if (kvs.any fun kv=>decide (kv.1=k))=true then kvs.map (fun kv=>if kv.1=k then (kv.1,v) else kv) else kvs++ [(k,v)]
theorem RelO.isSome_eq {o:Option V} {u:Option Value} (r:RelO o u):o.isSome=u.isSome:=by
 cases o with
 |none=>cases u with
  |none=>rfl
  |some _=>exact (show False from r).elim
 |some _=>cases u with
  |none=>exact (show False from r).elim
  |some _=>rfl
theorem RelO.getD {o:Option V} {u:Option Value} {d:V} {d':Value} (r:RelO o u) (rd:RelV d d'):RelV (o.getD d) (u.getD d'):=by
 cases o with
 |none=>cases u with
  |none=>exact rd
  |some _=>exact (show False from r).elim
 |some _=>cases u with
  |none=>exact (show False from r).elim
  |some _=>exact r
theorem KV.any {kvs:List (κ×V)} {vs:List (κ×Value)} (r:KV kvs vs) (k:κ):(kvs.any fun kv=>decide (kv.1=k))=vs.any fun kv=>decide (kv.1=k):=by
 unfold KV at r
 induction r with
 |nil=>rfl
 |cons h t ih=>rw [List.any_cons,List.any_cons,ih,h.1]
theorem KV.length {kvs:List (κ×V)} {vs:List (κ×Value)} (r:KV kvs vs):kvs.length=vs.length:=Paired.length r
end
abbrev KT (H:Hp):List (List Key×V)→List (List Key×Addr×Value)→Prop:=Paired fun p q=>p.1=q.1∧H q.2.1=some (.tup (p.1.map kV))∧RelV p.2 q.2.2
theorem KT.keeps {H H':Hp} {kvs:List (List Key×V)} {xs:List (List Key×Addr×Value)} (r:KT H kvs xs) (ht:∀b ys,H b=some (.tup ys)→H' b=some (.tup ys)):KT H' kvs xs:=
 Paired.mapP r fun _ _ z=>⟨z.1,ht _ _ z.2.1,z.2.2⟩
section
variable {P:Program} {w:World} {H:Hp} {h:Heap} {a:Addr}
end
def DGet (H:Hp) (a:Addr) (y:V) (r:Option V):Prop:=
 (∃kvs k,Rd H a (.dK kvs)∧y=kV k∧r=valV kvs k)∨∃kvs k b,Rd H a (.dT kvs)∧y= .ref b∧H b=some (.tup (k.map kV))∧r=valV kvs k
def DPut (H:Hp) (a:Addr) (y v:V) (H':Hp):Prop:=
 (∃kvs k,H a=some (.dK kvs)∧y=kV k∧kvs.length < sizeLine∧H'=upd H a (.dK (putK kvs k v)))∨
 ∃kvs k b,H a=some (.dT kvs)∧y= .ref b∧H b=some (.tup (k.map kV))∧kvs.length < sizeLine∧H'=upd H a (.dT (putK kvs k v))
theorem DGet.k {H:Hp} {a:Addr} {kvs:List (Key×V)} {k:Key} (e:H a=some (.dK kvs)):DGet H a (kV k) (valV kvs k):= .inl ⟨kvs,k, .inl e,rfl,rfl⟩
theorem DGet.t {H:Hp} {a b:Addr} {kvs:List (List Key×V)} {k:List Key} (e:H a=some (.dT kvs)) (eb:H b=some (.tup (k.map kV))):DGet H a (.ref b) (valV kvs k):= .inr ⟨kvs,k,b, .inl e,rfl,eb,rfl⟩
theorem DPut.k {H:Hp} {a:Addr} {kvs:List (Key×V)} {k:Key} {v:V} (e:H a=some (.dK kvs)) (hl:kvs.length < sizeLine):DPut H a (kV k) v (upd H a (.dK (putK kvs k v))):= .inl ⟨kvs,k,e,rfl,hl,rfl⟩
theorem DPut.t {H:Hp} {a b:Addr} {kvs:List (List Key×V)} {k:List Key} {v:V} (e:H a=some (.dT kvs)) (eb:H b=some (.tup (k.map kV))) (hl:kvs.length < sizeLine):
 DPut H a (.ref b) v (upd H a (.dT (putK kvs k v))):= .inr ⟨kvs,k,b,e,rfl,eb,hl,rfl⟩
section
variable {X:Cx} {pins:List (Addr×Obj)} {σ:St} {H:Hp} {s:Shared} {a:Addr} {y v:V} {u r:Value} {o:Option V} {A:Around} {E:Value→Shared→Prop}
theorem Inv.big (I:Inv X pins σ H s):sysModules < s.heap.objs.size:=by
 have h:mainGlobals < s.heap.objs.size:=(I.mod.glob.keeps I.bk).lt
 exact Nat.lt_trans (by decide) h
theorem u9 {h':Heap} {t':Nat} {ob:HO} (I:Inv X pins σ H s) (mu:Mut (H a)) (hs:Heap.SameBut a s.heap h') (he:∃q,h'.get? a=some q) (new:ObjOk X.prog X.w (upd H a ob) h' a ob):
 Inv X pins σ (upd H a ob) {s with heap:=h',toks:=t'}:=
 I.write (x:=a) (e:=a) mu (.inl rfl) (fun b q hb z=>(hs.2 b hb).trans z) he new
end
section
variable {X:Cx} {pins:List (Addr×Obj)} {σ:St} {H:Hp} {s:Shared} {a:Addr} {kvs:List (Key×V)} {k:Key} {u:Value} {A:Around} {E:Value→Shared→Prop}
end
def NoSl (i:Expr):Prop:=∀ov iv,subscripted i false ov iv=operate [ov,iv] (getItem ov iv)
theorem sJ {prog:Program} {w:World} {A:Around} {E:Value→Shared→Prop} {s:Shared} {env:Env} {value slice:Expr} {pos:Pos} {T id:String} {Q:Value→Shared→Prop}
 (hl:typeLookup (.type T) "__getitem__"=pure (some (.builtin id))) (hs:NoSl slice)
 (h:wpAny (model prog w) A (eval value env) (fun o s₁=>wpAny (model prog w) A (eval slice env) (fun i s₂=>s₂.TypeIs o T∧wpAny (model prog w) A (getItem o i) Q E s₂) E s₁) E s):
 wpAny (model prog w) A (eval (.Subscript value slice pos) env) Q E s:=by
 refine Subscript_ (wpAny_mono h (fun o s₁ h₁=>wpAny_mono h₁ (fun i s₂ h₂=> ?_) fun _ _ x=>x) fun _ _ x=>x)
 obtain ⟨hT,h₂⟩:=h₂
 unfold subscriptTail
 refine wpAny_bind ?_
 rw [getitemInPython_of_ne hT.not_modules]
 refine wpAny_bind (wpAny_specialOf hT hl ?_)
 have fin:wpAny (model prog w) A (subscripted slice false o i) (fun r s₃=>wpAny (model prog w) A (letTemporaryGo value o r >>=fun _=>pure r) Q E s₃) E s₂:=by
  rw [hs o i]
  exact wpAny_operating (wpAny_mono h₂ (fun r s₃ h₃=>wpAny_bind (wpAny_letTemporaryGo (wpAny_pure h₃))) fun _ _ x=>x)
 first
  |exact wpAny_pure (wpAny_bind fin)
  |exact wpAny_bind (wpAny_pure (wpAny_bind fin))
  |exact wpAny_bind fin
section
variable {X:Cx} {o i e value:Expr} {pos pos' tpos:Pos} {td ty tv:TE}
end
section
variable {X:Cx} {pos:Pos}
end
structure M1 (X:Cx) (o:Expr) (m:Str) (apos:Pos) (e:Expr) (cpos:Pos):Prop where
 base:attributeBase o m X.env (eval o X.env)=eval o X.env
 few:((backTo cpos (starEach [e] X.env)).all (fun x=> !x.1)&& (backToKw cpos (keywordEach [] X.env)).all (fun x=>x.1.isSome)
  &&decide (([e]:List Expr).length+([]:List Keyword).length+(if ([]:List Keyword).isEmpty then 0 else 1) < 30))=true
 line:(apos.endLine==cpos.line)=true
 trees:backTo cpos (starEach [e] X.env)= [(false,eval e X.env)]
structure M2 (X:Cx) (o:Expr) (m:Str) (apos:Pos) (e f:Expr) (cpos:Pos):Prop where
 base:attributeBase o m X.env (eval o X.env)=eval o X.env
 few:((backTo cpos (starEach [e,f] X.env)).all (fun x=> !x.1)&& (backToKw cpos (keywordEach [] X.env)).all (fun x=>x.1.isSome)
  &&decide (([e,f]:List Expr).length+([]:List Keyword).length+(if ([]:List Keyword).isEmpty then 0 else 1) < 30))=true
 line:(apos.endLine==cpos.line)=true
 trees:backTo cpos (starEach [e,f] X.env)= [(false,eval e X.env),(false,eval f X.env)]
section
variable {X:Cx} {pins:List (Addr×Obj)} {σ:St} {H:Hp} {s:Shared} {a:Addr} {y d:V} {u r:Value} {o:Option V} {A:Around} {E:Value→Shared→Prop}
end
section
variable {X:Cx} {o e f:Expr} {apos cpos:Pos} {td ty tx:TE}
end
section
variable {X:Cx} {pins:List (Addr×Obj)} {σ:St} {H:Hp} {s:Shared} {a:Addr} {kvs:List (Key×V)} {A:Around} {E:Value→Shared→Prop}
end
section
variable {X:Cx} {pins:List (Addr×Obj)} {σ:St} {H:Hp} {s:Shared} {a:Addr} {y:V} {u:Value} {A:Around} {E:Value→Shared→Prop}
end
open PySem PySem.Spec PyProof.Rows
def l6 (J:It) (D:Addr) (te:TE) (rest:L2.St) (Q:VK) (H1:Hp):Prop:=
 ∃W:Nat→Nat→List V→Hp→Prop,(∃m,W 0 m [] (upd H1 D (.lst [])))∧∀i m acc H2,W i m acc H2→
  (J.stop i H2∧Q (.ref D) H2)∨
  (J.go i H2∧∀x H3,J.yld i H2 x H3→cv 0 x (none::rest) H3 fun σ4 H4=>Ext (none::rest) σ4∧gh σ4 H4 fun b H5=>if b=true then te σ4 H5 fun v H6=>H6 D=some (.lst acc)∧acc.length < sizeLine∧∃m',m' < m∧W (i+1) m' (acc++ [v]) (upd H6 D (.lst (acc++ [v])))
   else∃m',m' < m∧W (i+1) m' acc H5)
theorem cT {mp:List (Option Nat)} {wi:TI} {te:TE} {σ rest:L2.St} {H:Hp} {Q:VK} (e:subS mp σ=none::rest) (h:wi σ H fun J H1=>∀D,H1 D=none→l6 J D te rest Q H1):fU mp wi (cv 0) gh te σ H Q:=by
 unfold fU
 rw [e]
 exact h
def CompN (n i:Nat) (D:Addr) (acc:List V) (Pv:Nat→List V→Hp→Prop):VK:=fun v H6=>H6 D=some (.lst acc)∧acc.length < sizeLine∧∃m',m' < n - i∧(m'=n - (i+1)∧i+1≤n∧Pv (i+1) (acc++ [v]) (upd H6 D (.lst (acc++ [v]))))
theorem CompN.mk {n i:Nat} {D:Addr} {acc:List V} {Pv:Nat→List V→Hp→Prop} {v:V} {H6:Hp} (hi:i < n) (hl:acc.length < sizeLine) (h1:H6 D=some (.lst acc)) (h2:Pv (i+1) (acc++ [v]) (upd H6 D (.lst (acc++ [v])))):CompN n i D acc Pv v H6:=
 ⟨h1,hl,n - (i+1),by omega,rfl,hi,h2⟩
theorem jB {J:It} {D:Addr} {te:TE} {rest:L2.St} {Q:VK} {H1:Hp} (n:Nat) (Pv:Nat→List V→Hp→Prop) (h0:Pv 0 [] (upd H1 D (.lst [])))
 (hgo:∀i acc H,i < n→Pv i acc H→J.go i H)
 (hs:∀i x acc H H',i < n→Pv i acc H→J.yld i H x H'→te (some x::rest) H' (CompN n i D acc Pv))
 (hd:∀acc H,Pv n acc H→J.stop n H∧Q (.ref D) H):l6 J D te rest Q H1:=by
 refine ⟨fun i m acc H=>m=n - i∧i≤n∧Pv i acc H,⟨n,by simp,Nat.zero_le _,h0⟩,?_⟩
 rintro i m acc H ⟨rfl,hi,p⟩
 by_cases hlt:i < n
 · refine .inr ⟨hgo i acc H hlt p,fun x H' y=> ?_⟩
   refine ⟨ext1,?_⟩
   show (if true=true then te (some x::rest) H' (CompN n i D acc Pv) else∃m',m' < n - i∧(m'=n - (i+1)∧i+1≤n∧Pv (i+1) acc H'))
   exact iteT (hs i x acc H H' hlt p y)
 · have e:i=n:=by omega
   subst e
   exact .inl (hd acc H p)
theorem oM {K:PySem.W.Frag} {a D:Addr} {xs:List V} {te:TE} {rest:L2.St} {Q:VK} {H1:Hp} (Pv:Nat→List V→Hp→Prop) (h0:Pv 0 [] (upd H1 D (.lst [])))
 (hl:∀i acc H,Pv i acc H→SqL K H a xs)
 (hs:∀i x acc H,i < xs.length→xs[i]?=some x→Pv i acc H→te (some x::rest) H (CompN xs.length i D acc Pv))
 (hd:∀acc H,Pv xs.length acc H→Q (.ref D) H):l6 (Itl K a) D te rest Q H1:=by
 refine jB xs.length Pv h0 (fun i acc H hi p=>⟨xs,xs[i],hl i acc H p,by simp [hi]⟩) (fun i x acc H H' hi p y=> ?_) fun acc H p=>⟨⟨xs,hl _ acc H p,Nat.le_refl _⟩,hd acc H p⟩
 obtain ⟨e,y⟩:=y
 subst e
 exact hs i x acc _ hi (y xs (hl i acc _ p)) p
theorem d8 {n:Nat} {D:Addr} {te:TE} {rest:L2.St} {Q:VK} {H1:Hp} (Pv:Nat→List V→Hp→Prop) (h0:Pv 0 [] (upd H1 D (.lst [])))
 (hs:∀(i:Nat) acc H,i < n→Pv i acc H→te (some (.int (0+(i:Int)))::rest) H (CompN n i D acc Pv))
 (hd:∀acc H,Pv n acc H→Q (.ref D) H):l6 (Itr 0 n) D te rest Q H1:=by
 refine jB n Pv h0 (fun i acc H hi p=>hi) (fun i x acc H H' hi p y=> ?_) fun acc H p=>⟨Nat.le_refl _,hd acc H p⟩
 obtain ⟨e,y⟩:=y
 subst e y
 exact hs i acc _ hi p
end L2
namespace Tk
open PySem PySem.Spec PyProof.Rows L2
inductive KT where
 |lf (k:Key)
 |tp (ts:List KT)
noncomputable instance:DecidableEq KT:=Classical.typeDecidableEq KT
mutual
noncomputable def KT.depth:KT→Nat
 | .lf _=>0
 | .tp ts=>KTs.depth ts+1
noncomputable def KTs.depth:List KT→Nat
 | []=>0
 |t::ts=>max (KT.depth t) (KTs.depth ts)
end
theorem eF:∀ {ts:List KT} {t:KT},t∈ts→t.depth≤KTs.depth ts
 |a::ts,t,h=>by
  unfold KTs.depth
  rcases List.mem_cons.mp h with rfl|h
  · omega
  · have:=eF h
    omega
mutual
def KAt (h:Heap):Value→KT→Prop
 |v, .lf k=>g9 k v=true
 |v, .tp ts=>∃a o items n,v= .ref a∧h.get? a=some o∧o.cls= .type "tuple"∧o.data= .seq items n∧KsAt h items.toList ts
def KsAt (h:Heap):List Value→List KT→Prop
 |vs,[]=>vs= []
 |vs,t::ts=>∃v r,vs=v::r∧KAt h v t∧KsAt h r ts
end
mutual
theorem KAt.keep {h h':Heap} (k:∀a o items n,h.get? a=some o→o.data= .seq items n→h'.get? a=some o):∀ {v:Value} {t:KT},KAt h v t→KAt h' v t
 |v, .lf k,x=>by unfold KAt at x ⊢;exact x
 |v, .tp ts,x=>by
  unfold KAt at x ⊢
  obtain ⟨a,o,items,n,e,g,c,d,r⟩:=x
  exact ⟨a,o,items,n,e,k a o items n g d,c,d,KsAt.keep k r⟩
theorem KsAt.keep {h h':Heap} (k:∀a o items n,h.get? a=some o→o.data= .seq items n→h'.get? a=some o):∀ {vs:List Value} {ts:List KT},KsAt h vs ts→KsAt h' vs ts
 |vs,[],x=>by unfold KsAt at x ⊢;exact x
 |vs,t::ts,x=>by
  unfold KsAt at x ⊢
  obtain ⟨v,r,e,x1,x2⟩:=x
  exact ⟨v,r,e,KAt.keep k x1,KsAt.keep k x2⟩
end
mutual
theorem KAt.det {h:Heap}:∀ {v:Value} {t u:KT},KAt h v t→KAt h v u→t=u
 |v, .lf k, .lf j,x,y=>by
  unfold KAt at x y
  rcases aM x with ⟨i,t,rfl,rfl⟩|⟨x',t,rfl,rfl⟩
  · rcases aM y with ⟨i',t',rfl,e⟩|⟨y',t',rfl,e⟩
    · injection e with e1 _
      rw [e1]
    · cases e
  · rcases aM y with ⟨i',t',rfl,e⟩|⟨y',t',rfl,e⟩
    · cases e
    · injection e with e1 _
      rw [e1]
 |v, .lf k, .tp us,x,y=>by
  unfold KAt at x y
  obtain ⟨a,o,items,n,rfl,_⟩:=y
  rcases aM x with ⟨i,t,rfl,e⟩|⟨x',t,rfl,e⟩<;>cases e
 |v, .tp ts, .lf k,x,y=>by
  unfold KAt at x y
  obtain ⟨a,o,items,n,rfl,_⟩:=x
  rcases aM y with ⟨i,t,rfl,e⟩|⟨x',t,rfl,e⟩<;>cases e
 |v, .tp ts, .tp us,x,y=>by
  unfold KAt at x y
  obtain ⟨a,o,items,n,rfl,g,c,d,r⟩:=x
  obtain ⟨a',o',items',n',e,g',c',d',r'⟩:=y
  injection e with e
  subst e
  rw [g] at g'
  cases g'
  rw [d] at d'
  injection d' with d1 _
  subst d1
  rw [KsAt.det r r']
theorem KsAt.det {h:Heap}:∀ {vs:List Value} {ts us:List KT},KsAt h vs ts→KsAt h vs us→ts=us
 |vs,[],[],_,_=>rfl
 |vs,[],u::us,x,y=>by
  unfold KsAt at x y
  obtain ⟨v,r,e,_⟩:=y
  rw [x] at e
  cases e
 |vs,t::ts,[],x,y=>by
  unfold KsAt at x y
  obtain ⟨v,r,e,_⟩:=x
  rw [y] at e
  cases e
 |vs,t::ts,u::us,x,y=>by
  unfold KsAt at x y
  obtain ⟨v,r,rfl,x1,x2⟩:=x
  obtain ⟨v',r',e,y1,y2⟩:=y
  cases e
  rw [KAt.det x1 y1,KsAt.det x2 y2]
end
theorem KsAt.len {h:Heap}:∀ {vs:List Value} {ts:List KT},KsAt h vs ts→vs.length=ts.length
 |vs,[],x=>by unfold KsAt at x;rw [x];rfl
 |vs,t::ts,x=>by
  unfold KsAt at x
  obtain ⟨v,r,rfl,_,x2⟩:=x
  rw [List.length_cons,List.length_cons,KsAt.len x2]
theorem KsAt.get {h:Heap}:∀ {vs:List Value} {ts:List KT} {j:Nat} {v:Value},KsAt h vs ts→vs[j]?=some v→∃t,ts[j]?=some t∧KAt h v t
 |vs,[],j,v,x,e=>by
  unfold KsAt at x
  rw [x] at e
  cases e
 |vs,t::ts,0,v,x,e=>by
  unfold KsAt at x
  obtain ⟨v',r,rfl,x1,_⟩:=x
  cases e
  exact ⟨t,rfl,x1⟩
 |vs,t::ts,j+1,v,x,e=>by
  unfold KsAt at x
  obtain ⟨v',r,rfl,_,x2⟩:=x
  exact KsAt.get (j:=j) x2 e
section
variable (prog:Program) (w:World)
mutual
noncomputable def KT.hash:KT→Int
 | .lf k=>(cA prog w).hash k
 | .tp ts=>reduceHash (Builtin.Tuple.tupleHashOf (KTs.hash ts))
noncomputable def KTs.hash:List KT→List Int
 | []=> []
 |t::ts=>KT.hash t::KTs.hash ts
end
end
mutual
noncomputable def KT.draws:KT→Nat
 | .lf _=>1
 | .tp ts=>KTs.draws ts+1
noncomputable def KTs.draws:List KT→Nat
 | []=>0
 |t::ts=>KT.draws t+KTs.draws ts
end
theorem kh (prog:Program) (w:World):∀(a b:List KT),KTs.hash prog w (a++b)=KTs.hash prog w a++KTs.hash prog w b
 | [],b=>by simp [KTs.hash]
 |t::a,b=>by simp [KTs.hash,kh prog w a b]
theorem iO:∀(a b:List KT),KTs.draws (a++b)=KTs.draws a+KTs.draws b
 | [],b=>by simp [KTs.draws]
 |t::a,b=>by simp [KTs.draws,iO a b,Nat.add_assoc]
section
variable {prog:Program} {w:World}
theorem tV:∀(n:Nat) {A:Around} {E:Value→Shared→Prop} {s:Shared} {t:KT} {v:Value} {Q:Int→Shared→Prop},t.depth≤n→A.units+n < cLine→KAt s.heap v t→Q (t.hash prog w) {s with toks:=s.toks+t.draws}→wpAny (model prog w) A (pyHash v) Q E s:=by
 intro n
 induction n with
 |zero=>
  intro A E s t v Q hd hu hk h
  cases t with
  |tp ts=>simp [KT.depth] at hd
  |lf k=>
   unfold KAt at hk
   simp only [KT.hash,KT.draws] at h
   exact (cA prog w).pyHash hk h
 |succ n ih=>
  intro A E s t v Q hd hu hk h
  cases t with
  |lf k=>
   unfold KAt at hk
   simp only [KT.hash,KT.draws] at h
   exact (cA prog w).pyHash hk h
  |tp ts=>
   unfold KAt at hk
   obtain ⟨a,o,items,m,rfl,g,c,d,r⟩:=hk
   have ty:s.TypeIs (.ref a) "tuple":=⟨o,g,c⟩
   have hd':KTs.depth ts≤n:=by
    unfold KT.depth at hd
    omega
   simp only [KT.hash,KT.draws] at h
   unfold pyHash
   unfold pyHashByItsType
   refine wpAny_bind (wpAny_cRoomFor_or (.inr (by omega)) (wpAny_bind (wpAny_specialOf ty F.slot_tuple_hash.lookup ?_)))
   show wpAny _ _ (if (some (Value.builtin "tuple.__hash__")==some Value.none)=true then _ else _) _ _ _
   rw [if_neg (fun z=>by rw [beq_builtin_none] at z;cases z)]
   refine wpAny_bind (wpAny_specialOf ty F.slot_tuple_hash.lookup ?_)
   show wpAny _ _ (do let y←callSpecialIfBoundUnlessNone? (.ref a) "__hash__" _;_) _ _ _
   refine wpAny_bind (wpAny_callSpecialIfBoundUnlessNone?_slot ty F.slot_tuple_hash (wpAny_call_entry F.slot_tuple_hash ty F.entry_tuple_hash ?_ (F.args_tuple_hash_1 _)))
   show wpAny _ _ (do let y←Builtin.Tuple.tupleItemsOf (.ref a);_) _ _ _
   refine wpAny_bind (wpAny_tupleItemsOf g d (wpAny_bind ?_))
   rw [←Array.forIn_toList]
   refine wpAny_forIn_list _ (fun rest (b:Array Int) s'=>∃done left,ts=done++left∧KsAt s.heap rest left∧b.toList=KTs.hash prog w done∧s'= {s with toks:=s.toks+KTs.draws done}) _ ?_ ?_ _ _ ⟨[],ts,rfl,r,rfl,by simp [KTs.draws]⟩
   · rintro x rest b s' ⟨done,left,rfl,hl,hb,rfl⟩
     cases left with
     |nil=>
      unfold KsAt at hl
      cases hl
     |cons t left=>
      unfold KsAt at hl
      obtain ⟨v,rr,e,h1,h2⟩:=hl
      cases e
      have dt:t.depth≤n:=by
       have:=eF (show t∈done++t::left by simp)
       omega
      refine wpAny_bind (ih (s:= {s with toks:=s.toks+KTs.draws done}) dt (by first|(show A.units+1+n < cLine;omega)|(show A.units+n < cLine;omega)) h1 ?_)
      have fin:∃done' left',done++t::left=done'++left'∧KsAt s.heap rest left'∧(b.push (KT.hash prog w t)).toList=KTs.hash prog w done'∧({s with toks:=s.toks+KTs.draws done+t.draws}:Shared)= {s with toks:=s.toks+KTs.draws done'}:=by
       refine ⟨done++ [t],left,by simp,h2,by rw [kh,Array.toList_push,hb];simp [KTs.hash],?_⟩
       rw [iO]
       simp [KTs.draws,Nat.add_assoc]
      first
       |exact wpAny_pure fin
       |exact wpAny_bind (wpAny_pure (wpAny_pure fin))
   · rintro b s' ⟨done,left,rfl,hl,hb,rfl⟩
     cases left with
     |cons t left=>
      unfold KsAt at hl
      obtain ⟨v,rr,e,_⟩:=hl
      cases e
     |nil=>
      rw [List.append_nil] at h
      show wpAny _ _ (retInt (Builtin.Tuple.tupleHashOf b.toList)) _ _ _
      rw [hb]
      refine wpAny_ret_mkInt ?_
      show wpAny _ _ (if (decide (-(2:Int)^63≤Builtin.Tuple.tupleHashOf (KTs.hash prog w done))&&decide (Builtin.Tuple.tupleHashOf (KTs.hash prog w done) < 2^63))=true then _ else _) _ _ _
      unfold reduceHash at h
      by_cases hr:(decide (-(2:Int)^63≤Builtin.Tuple.tupleHashOf (KTs.hash prog w done))&&decide (Builtin.Tuple.tupleHashOf (KTs.hash prog w done) < 2^63))=true
      · rw [if_pos hr] at h ⊢
        exact wpAny_pure (by simpa [Nat.add_assoc] using h)
      · rw [if_neg hr] at h ⊢
        exact wpAny_bind (wpAny_rule (wpAny_pure (by simpa [Nat.add_assoc] using h)))
end
open PySem PySem.Spec PyProof.Rows L2
theorem ue {ts us:List KT}:((List.range (min ts.length us.length)).all (fun j=>decide (ts[j]?=us[j]?))&&ts.length==us.length)=decide (ts=us):=by
 by_cases h:ts=us
 · subst h
   simp
 · rw [decide_eq_false h]
   by_cases hl:ts.length=us.length
   · have:∃j,j < ts.length∧ts[j]?≠us[j]?:=by
      refine Classical.byContradiction fun n=>h (List.ext_getElem? fun j=> ?_)
      by_cases hj:j < ts.length
      · exact Classical.byContradiction fun z=>n ⟨j,hj,z⟩
      · rw [List.getElem?_eq_none (by omega),List.getElem?_eq_none (by omega)]
     obtain ⟨j,hj,ne⟩:=this
     rw [Bool.and_eq_false_iff]
     left
     refine List.all_eq_false.mpr ⟨j,List.mem_range.mpr (by omega),?_⟩
     simp [ne]
   · rw [Bool.and_eq_false_iff]
     right
     simp [hl]
theorem xA:∀(n:Nat) {A:Around} {s:Shared} {t u:KT} {a b:Value},t.depth≤n→A.units+n+1 < cLine→KAt s.heap a t→KAt s.heap b u→SeqAt.EqAt A s a b (decide (t=u)):=by
 intro n
 induction n with
 |zero=>
  intro A s t u a b hd hu h1 h2
  cases t with
  |tp ts=>simp [KT.depth] at hd
  |lf k=>
   unfold KAt at h1
   cases u with
   |lf j=>
    unfold KAt at h2
    intro prog w E Q q
    refine (cA prog w).eqBool h1 h2 ?_
    have e:decide (k=j)=decide (KT.lf k=KT.lf j):=by simp
    rw [e]
    exact q
   |tp us=>
    unfold KAt at h2
    obtain ⟨r,o,items,m,rfl,g,c,d,_⟩:=h2
    rw [decide_eq_false (by intro z;cases z)]
    rcases aM h1 with ⟨i,t,rfl,rfl⟩|⟨x,t,rfl,rfl⟩
    · exact SeqAt.EqAt.int_tuple i t (items:=items) ⟨o,g,c,m,d⟩ (by omega)
    · exact SeqAt.EqAt.str_tuple x t (items:=items) ⟨o,g,c,m,d⟩ (by omega)
 |succ n ih=>
  intro A s t u a b hd hu h1 h2
  cases t with
  |lf k=>
   unfold KAt at h1
   cases u with
   |lf j=>
    unfold KAt at h2
    intro prog w E Q q
    refine (cA prog w).eqBool h1 h2 ?_
    have e:decide (k=j)=decide (KT.lf k=KT.lf j):=by simp
    rw [e]
    exact q
   |tp us=>
    unfold KAt at h2
    obtain ⟨r,o,items,m,rfl,g,c,d,_⟩:=h2
    rw [decide_eq_false (by intro z;cases z)]
    rcases aM h1 with ⟨i,t,rfl,rfl⟩|⟨x,t,rfl,rfl⟩
    · exact SeqAt.EqAt.int_tuple i t (items:=items) ⟨o,g,c,m,d⟩ (by omega)
    · exact SeqAt.EqAt.str_tuple x t (items:=items) ⟨o,g,c,m,d⟩ (by omega)
  |tp ts=>
   have h1':=h1
   have h2':=h2
   unfold KAt at h1
   obtain ⟨r,o,items,m,rfl,g,c,d,k1⟩:=h1
   cases u with
   |lf j=>
    unfold KAt at h2
    rw [decide_eq_false (by intro z;cases z)]
    rcases aM h2 with ⟨i,t,rfl,rfl⟩|⟨x,t,rfl,rfl⟩
    · exact SeqAt.EqAt.tuple_int i t (items:=items) ⟨o,g,c,m,d⟩ (by omega)
    · exact SeqAt.EqAt.tuple_str x t (items:=items) ⟨o,g,c,m,d⟩ (by omega)
   |tp us=>
    unfold KAt at h2
    obtain ⟨r',o',items',m',rfl,g',c',d',k2⟩:=h2
    by_cases z:r=r'
    · subst z
      rw [decide_eq_true (KAt.det h1' h2')]
      exact SeqAt.EqAt.same _
    · have hd':KTs.depth ts≤n:=by
       unfold KT.depth at hd
       omega
      have l1:=k1.len
      have l2:=k2.len
      have:=SeqAt.RcAt.tuples (A:=A) (e:=fun j=>decide (ts[j]?=us[j]?)) (show s.heap.IsTuple r items from ⟨o,g,c,m,d⟩) (show s.heap.IsTuple r' items' from ⟨o',g',c',m',d'⟩) (by omega) fun j g1 g2=>by
       obtain ⟨t1,e1,a1⟩:=k1.get (j:=j) (v:=items[j]) (by rw [Array.getElem?_toList];simp [g1])
       obtain ⟨t2,e2,a2⟩:=k2.get (j:=j) (v:=items'[j]) (by rw [Array.getElem?_toList];simp [g2])
       have e:decide (ts[j]?=us[j]?)=decide (t1=t2):=by rw [e1,e2];simp
       rw [e]
       refine ih (A:=A.in1) ?_ (by show A.units+1+n+1 < cLine;omega) a1 a2
       have:=eF (List.mem_of_getElem? e1)
       omega
      have hs1:items.size=ts.length:=by rw [←l1,Array.length_toList]
      have hs2:items'.size=us.length:=by rw [←l2,Array.length_toList]
      rw [hs1,hs2,ue] at this
      have e:decide (KT.tp ts=KT.tp us)=decide (ts=us):=by simp
      rw [e]
      exact SeqAt.EqAt.of_refs z this
theorem qm:∀(n:Nat) {prog:Program} {w:World} {A:Around} {E:Value→Shared→Prop} {s:Shared} {t:KT} {v:Value} {Q:Bool→Shared→Prop},KAt s.heap v t→t.depth≤n→Q true s→wpAny (model prog w) A (eqIsQuiet n v) Q E s:=by
 have leaf:∀(n:Nat) {prog:Program} {w:World} {A:Around} {E:Value→Shared→Prop} {s:Shared} {k:Key} {v:Value} {Q:Bool→Shared→Prop},g9 k v=true→Q true s→wpAny (model prog w) A (eqIsQuiet n v) Q E s:=by
  intro n prog w A E s k v Q h q
  rw [eqIsQuiet_byValue _ ((cA prog w).byValue k v h)]
  exact wpAny_pure q
 intro n
 induction n with
 |zero=>
  intro prog w A E s t v Q h hd q
  cases t with
  |tp ts=>simp [KT.depth] at hd
  |lf k=>
   unfold KAt at h
   exact leaf 0 h q
 |succ n ih=>
  intro prog w A E s t v Q h hd q
  cases t with
  |lf k=>
   unfold KAt at h
   exact leaf _ h q
  |tp ts=>
   unfold KAt at h
   obtain ⟨a,o,items,m,rfl,g,c,d,r⟩:=h
   have ty:s.TypeIs (.ref a) "tuple":=⟨o,g,c⟩
   have hd':KTs.depth ts≤n:=by
    unfold KT.depth at hd
    omega
   unfold eqIsQuiet
   refine wpAny_bind (wpAny_specialOf ty F.slot_tuple_eq.lookup ?_)
   show wpAny _ _ (do let y←isInstance (.ref a) (.type "tuple");_) _ _ _
   refine wpAny_bind (wpAny_isInstance ty isSubtype_tuple_tuple ?_)
   simp only [Bool.not_true,if_false,Bool.false_eq_true]
   refine wpAny_bind (wpAny_seqItems g d (wpAny_bind ?_))
   show wpAny _ _ (forIn items _ _) _ _ _
   rw [←Array.forIn_toList]
   refine wpAny_forIn_list _ (fun rest b s'=>b.1=none∧s'=s∧∃left,KsAt s.heap rest left∧KTs.depth left≤n) _ ?_ ?_ _ _ ⟨rfl,rfl,ts,r,hd'⟩
   · rintro x rest b s' ⟨hb,rfl,left,hl,hd2⟩
     cases left with
     |nil=>
      unfold KsAt at hl
      cases hl
     |cons t left=>
      unfold KsAt at hl
      obtain ⟨v,rr,e,h1,h2⟩:=hl
      cases e
      unfold KTs.depth at hd2
      refine wpAny_bind (ih h1 (by omega) ?_)
      simp only [Bool.not_true,if_false,Bool.false_eq_true]
      exact wpAny_pure ⟨rfl,rfl,left,h2,by omega⟩
   · rintro ⟨b1,b2⟩ s' ⟨hb,rfl,_⟩
     simp only at hb
     subst hb
     exact wpAny_pure q
noncomputable def treeKind (prog:Program) (w:World):HeapKind prog w (List KT) where
 is:=fun h ts a=>KAt h (.ref a) (.tp ts)∧(KT.tp ts).depth≤8
 hash:=fun ts=>(KT.tp ts).hash prog w
 draws:=fun ts=>(KT.tp ts).draws
 room:=fun A=>A.units+20 < cLine
 inj:=fun x y=>by
  have:=KAt.det x.1 y.1
  injection this
 keeps:=fun {h h' k a d o es ep} x g hd sb=>⟨x.1.keep fun b ob items n e dt=>by
  have ne:b≠d:=fun z=>by
   subst z
   rw [g] at e
   cases e
   rw [hd] at dt
   cases dt
  exact (sb.2 b ne).trans e,x.2⟩
 pyHash:=fun hu x q=>tV 8 x.2 (by omega) x.1 q
 eqBool:=fun {A E s x y a b Q} hu hx hy q=>by
  refine xA 8 (t:= .tp x) (u:= .tp y) hx.2 (by omega) hx.1 hy.1 prog w E Q ?_
  have e:decide (KT.tp x=KT.tp y)=decide (x=y):=by simp
  rw [e]
  exact q
 quiet:=fun x q=>qm 8 x.1 x.2 q
end Tk
namespace Dj
open PySem PySem.Spec PyProof.Rows L2 Tre
def SqX (K:PySem.W.Frag) (H:Hp) (a:Addr) (xs:List V):Prop:=
 H a=some (.tup xs)∨∃(o:Obj) (its:Array Value) (n:Nat),K.lookup a=some o∧o.cls= .type "tuple"∧o.data= .seq its n∧its.size≤sizeLine∧Vals xs its.toList
theorem SqX.sq {K:PySem.W.Frag} {H:Hp} {a:Addr} {xs:List V} (h:SqX K H a xs):SqT K H a xs:=h.elim (fun e=> .inl (.inl e)) .inr
theorem SqX.mono {K:PySem.W.Frag} {H H':Hp} {a:Addr} {xs:List V} (d:Kd H H') (h:SqX K H a xs):SqX K H' a xs:=h.elim (fun e=> .inl (d.tup _ _ e)) .inr
mutual
def KVt (K:PySem.W.Frag) (H:Hp):V→Tk.KT→Prop
 |v, .lf (.inl i)=>v= .int i
 |v, .lf (.inr x)=>v= .str x
 |v, .tp ts=>∃r vs,v= .ref r∧SqX K H r vs∧KVts K H vs ts
def KVts (K:PySem.W.Frag) (H:Hp):List V→List Tk.KT→Prop
 |vs,[]=>vs= []
 |vs,t::ts=>∃v r,vs=v::r∧KVt K H v t∧KVts K H r ts
end
section
variable {P:Program} {w:World} {K:PySem.W.Frag} {H H':Hp} {h:Heap}
mutual
theorem KVt.mono (d:Kd H H'):∀ {v:V} {t:Tk.KT},KVt K H v t→KVt K H' v t
 |v, .lf (.inl i),a=>by unfold KVt at a ⊢;exact a
 |v, .lf (.inr x),a=>by unfold KVt at a ⊢;exact a
 |v, .tp ts,a=>by
  unfold KVt at a ⊢
  obtain ⟨r,vs,e,s,q⟩:=a
  exact ⟨r,vs,e,s.mono d,KVts.mono d q⟩
theorem KVts.mono (d:Kd H H'):∀ {vs:List V} {ts:List Tk.KT},KVts K H vs ts→KVts K H' vs ts
 |vs,[],a=>by unfold KVts at a ⊢;exact a
 |vs,t::ts,a=>by
  unfold KVts at a ⊢
  obtain ⟨v,r,e,a1,a2⟩:=a
  exact ⟨v,r,e,KVt.mono d a1,KVts.mono d a2⟩
end
theorem uO (ok:HOk P w H h) (kin:K.In h) {q:Addr} {vs:List V} (e:SqX K H q vs):∃its:List Value,Vals vs its∧∃o n,h.get? q=some o∧o.cls= .type "tuple"∧o.data= .seq its.toArray n:=by
 rcases e with e|⟨o,its,n,hk,hc,hs,hz,r⟩
 · obtain ⟨_,its,rv,o,h1,h2,n,h3⟩:=(show ObjOk P w H h q (.tup vs) from ok q _ e)
   exact ⟨its,rv,o,n,h1,h2,h3⟩
 · exact ⟨its.toList,r,o,n,kin q o hk,hc,by simpa using hs⟩
mutual
theorem rB (ok:HOk P w H h) (kin:K.In h):∀ {v:V} {t:Tk.KT} {u:Value},KVt K H v t→RelV v u→Tk.KAt h u t
 |v, .lf (.inl i),u,a,r=>by
  unfold KVt at a
  subst a
  obtain ⟨t,rfl⟩:=r
  simp only [Tk.KAt]
  exact oE i t
 |v, .lf (.inr x),u,a,r=>by
  unfold KVt at a
  subst a
  obtain ⟨t,rfl⟩:=r
  simp only [Tk.KAt]
  exact oC x t
 |v, .tp ts,u,a,r=>by
  unfold KVt at a
  obtain ⟨q,vs,rfl,e,as⟩:=a
  obtain rfl:u=Value.ref q:=r
  obtain ⟨its,rv,o,n,h1,h2,h3⟩:=uO ok kin e
  simp only [Tk.KAt]
  exact ⟨q,o,its.toArray,n,rfl,h1,h2,h3,by simpa using kats_of ok kin as rv⟩
theorem kats_of (ok:HOk P w H h) (kin:K.In h):∀ {vs:List V} {ts:List Tk.KT} {us:List Value},KVts K H vs ts→Vals vs us→Tk.KsAt h us ts
 |vs,[],us,a,r=>by
  unfold KVts at a
  subst a
  cases r
  simp [Tk.KsAt]
 |vs,t::ts,us,a,r=>by
  unfold KVts at a
  obtain ⟨v,q,rfl,a1,a2⟩:=a
  cases r with
  |cons r1 r2=>
   simp only [Tk.KsAt]
   exact ⟨_,_,rfl,rB ok kin a1 r1,kats_of ok kin a2 r2⟩
end
end
def KeyAt (K:PySem.W.Frag) (H:Hp) (k:List Tk.KT) (b:Addr):Prop:=∃vs,SqX K H b vs∧KVts K H vs k∧(Tk.KT.tp k).depth≤8
theorem KeyAt.mono {K:PySem.W.Frag} {H H':Hp} {k:List Tk.KT} {b:Addr} (d:Kd H H') (h:KeyAt K H k b):KeyAt K H' k b:=by
 obtain ⟨ts,h1,h2,h3⟩:=h
 exact ⟨ts,h1.mono d,h2.mono d,h3⟩
theorem KeyAt.is {P:Program} {w:World} {K:PySem.W.Frag} {H:Hp} {h:Heap} {k:List Tk.KT} {b:Addr} (ok:HOk P w H h) (kin:K.In h) (x:KeyAt K H k b):(Tk.treeKind P w).is h k b:=by
 obtain ⟨vs,h1,h2,h4⟩:=x
 have:=rB ok kin (v:= .ref b) (t:= .tp k) (u:= .ref b) (by unfold KVt;exact ⟨b,vs,rfl,h1,h2⟩) rfl
 exact ⟨this,h4⟩
abbrev Ent:=List Tk.KT×Addr×V
abbrev RE:List Ent→List (List Tk.KT×Addr×Value)→Prop:=Paired fun p q=>p.1=q.1∧p.2.1=q.2.1∧RelV p.2.2 q.2.2
noncomputable def dJ (P:Program) (w:World) (a:Addr) (kvs:List Ent):HO:= .ext fun h=>kvs.length≤sizeLine∧(a==sysModules)=false∧
 ∃xs:List (List Tk.KT×Addr×Value),RE kvs xs∧∃o es ep,h.get? a=some o∧o.ExactDict∧o.data= .dict es ep∧es.toList=xs.map (entryOfKey (Tk.treeKind P w))∧(xs.map (·.1)).Nodup
structure DJ (P:Program) (w:World) (K:PySem.W.Frag) (H:Hp) (a:Addr) (kvs:List Ent):Prop where
 at_:H a=some (dJ P w a kvs)
 keys:∀p∈kvs,KeyAt K H p.1 p.2.1
noncomputable def valJ (kvs:List Ent) (k:List Tk.KT):Option V:=(kvs.find? fun p=>decide (p.1=k)).map (·.2.2)
noncomputable def putJ (kvs:List Ent) (k:List Tk.KT) (b:Addr) (v:V):List Ent:=
 if (valJ kvs k).isSome then kvs.map (fun p=>if p.1=k then (p.1,p.2.1,v) else p) else kvs++ [(k,b,v)]
theorem jL {p:Ent} {r:List Ent} {k:List Tk.KT} (e:p.1=k):valJ (p::r) k=some p.2.2:=by simp [valJ,List.find?_cons,e]
theorem gw {p:Ent} {r:List Ent} {k:List Tk.KT} (e:¬p.1=k):valJ (p::r) k=valJ r k:=by simp [valJ,List.find?_cons,e]
theorem kf (kvs:List Ent) (k:List Tk.KT) (b:Addr) (v:V):(putJ kvs k b v).length≤kvs.length+1:=by
 unfold putJ
 split
 · rw [List.length_map];omega
 · rw [List.length_append,List.length_cons,List.length_nil];omega
theorem RE.val {kvs:List Ent} {xs:List (List Tk.KT×Addr×Value)} (r:RE kvs xs) (k:List Tk.KT):RelO (valJ kvs k) ((atKey xs k).map (·.2)):=by
 induction r with
 |nil=>exact True.intro
 | @cons p q ps qs h t ih=>
  obtain ⟨h1,_,h2⟩:=h
  by_cases e:p.1=k
  · have e':q.1=k:=h1.symm.trans e
    have b:atKey (q::qs) k=some q.2:=by simp [atKey,List.find?_cons,e']
    rw [jL e,b];exact h2
  · have e':¬q.1=k:=fun z=>e (h1.trans z)
    have b:atKey (q::qs) k=atKey qs k:=by simp [atKey,List.find?_cons,e']
    rw [gw e,b];exact ih
theorem RE.repl {kvs:List Ent} {xs:List (List Tk.KT×Addr×Value)} (r:RE kvs xs) (k:List Tk.KT) {y:V} {u:Value} (ry:RelV y u):
 RE (kvs.map fun p=>if p.1=k then (p.1,p.2.1,y) else p) (xs.map (putAt k u)):=by
 induction r with
 |nil=>exact .nil
 | @cons p q ps qs h t ih=>
  rw [List.map_cons,List.map_cons]
  refine .cons ?_ ih
  obtain ⟨h1,h2,h3⟩:=h
  unfold putAt
  by_cases e:p.1=k
  · rw [if_pos e,if_pos (h1.symm.trans e)];exact ⟨h1,h2,ry⟩
  · rw [if_neg e,if_neg (fun z=>e (h1.trans z))];exact ⟨h1,h2,h3⟩
theorem RE.put {kvs:List Ent} {xs:List (List Tk.KT×Addr×Value)} (r:RE kvs xs) (k:List Tk.KT) {b:Addr} {y:V} {u:Value} (ry:RelV y u):RE (putJ kvs k b y) (storedH xs k b u):=by
 have e:(valJ kvs k).isSome=(atKey xs k).isSome:=by
  rw [(r.val k).isSome_eq,Option.isSome_map]
 unfold putJ storedH
 rw [e]
 by_cases q:(atKey xs k).isSome=true
 · rw [if_pos q,if_pos q];exact r.repl k ry
 · rw [if_neg q,if_neg q];exact Paired.snoc r ⟨rfl,rfl,ry⟩
theorem qo {kvs:List Ent} {k:List Tk.KT} {b:Addr} {v:V} {p:Ent} (h:p∈putJ kvs k b v):(∃q∈kvs,p.1=q.1∧p.2.1=q.2.1)∨(p.1=k∧p.2.1=b):=by
 unfold putJ at h
 split at h
 · obtain ⟨q,m,e⟩:=List.mem_map.mp h
   split at e
   · subst e;exact .inl ⟨q,m,rfl,rfl⟩
   · subst e;exact .inl ⟨q,m,rfl,rfl⟩
 · rcases List.mem_append.mp h with m|m
   · exact .inl ⟨p,m,rfl,rfl⟩
   · rw [List.mem_singleton.mp m];exact .inr ⟨rfl,rfl⟩
theorem Kd.updJ {P:Program} {w:World} {H:Hp} {a:Addr} {kvs:List Ent} {o:HO} (h:H a=some (dJ P w a kvs)):Kd H (upd H a o):=by
 refine ⟨fun b zs e=> ?_,fun b zs e=>⟨zs,?_⟩⟩
 · rw [ak (fun z=>by rw [z,h] at e;cases e)];exact e
 · rw [ak (fun z=>by rw [z,h] at e;cases e)];exact e
theorem DJ.put {P:Program} {w:World} {K:PySem.W.Frag} {H:Hp} {a b:Addr} {kvs:List Ent} {k:List Tk.KT} {v:V} (d:DJ P w K H a kvs) (hk:KeyAt K H k b):DJ P w K (upd H a (dJ P w a (putJ kvs k b v))) a (putJ kvs k b v):=by
 refine ⟨ac,fun p m=> ?_⟩
 refine KeyAt.mono (Kd.updJ d.at_) ?_
 rcases qo m with ⟨q,mq,e1,e2⟩|⟨e1,e2⟩
 · rw [e1,e2];exact d.keys q mq
 · rw [e1,e2];exact hk
theorem DJ.kd {P:Program} {w:World} {K:PySem.W.Frag} {H H':Hp} {a:Addr} {kvs:List Ent} (d:DJ P w K H a kvs) (k:Kd H H') (e:H' a=some (dJ P w a kvs)):DJ P w K H' a kvs:=⟨e,fun p m=>(d.keys p m).mono k⟩
section
variable {P:Program} {w:World} {H:Hp} {h:Heap} {a:Addr}
theorem kH {K:PySem.W.Frag} {kvs:List Ent} (ok:HOk P w H h) (kin:K.In h) (d:DJ P w K H a kvs):kvs.length≤sizeLine∧(a==sysModules)=false∧∃xs,RE kvs xs∧h.DictOfH (Tk.treeKind P w) a xs:=by
 obtain ⟨⟨z,y,xs,r,o,es,ep,h1,h2,h3,h4,h5⟩,_⟩:=(show ObjOk P w H h a (dJ P w a kvs) from ok a _ d.at_)
 refine ⟨z,y,xs,r,o,es,ep,h1,h2,h3,h4,?_,h5⟩
 have all:∀ {l:List Ent} {m:List (List Tk.KT×Addr×Value)},RE l m→(∀p∈l,KeyAt K H p.1 p.2.1)→∀x∈m,(Tk.treeKind P w).is h x.1 x.2.1:=by
  intro l m q
  induction q with
  |nil=>intro _ x hx;exact nomatch hx
  | @cons p q ps qs hq t ih=>
   intro kp x hx
   rcases List.mem_cons.mp hx with e|hx
   · subst e
     rw [←hq.1,←hq.2.1]
     exact (kp p List.mem_cons_self).is ok kin
   · exact ih (fun p m=>kp p (List.mem_cons_of_mem _ m)) x hx
 exact all r d.keys
theorem rV {kvs:List Ent} {xs:List (List Tk.KT×Addr×Value)} {H':Hp} {h':Heap} (z:kvs.length≤sizeLine) (y:(a==sysModules)=false) (r:RE kvs xs)
 (d:∃o es ep,h'.get? a=some o∧o.ExactDict∧o.data= .dict es ep∧es.toList=xs.map (entryOfKey (Tk.treeKind P w))∧(xs.map (·.1)).Nodup):ObjOk P w H' h' a (dJ P w a kvs):=by
 obtain ⟨o,es,ep,h1,h2⟩:=d
 refine ⟨⟨z,y,xs,r,o,es,ep,h1,h2⟩,⟨o,h1⟩,?_⟩
 rintro g1 g2 ⟨z,y,xs,r,o,es,ep,h1,h2⟩ st
 exact ⟨z,y,xs,r,o,es,ep,st _ h1,h2⟩
end
noncomputable def pj (P:Program) (w:World):TE:=fun _ H Q=>∀p,H p=none→Q (.ref p) (upd H p (dJ P w p []))
noncomputable def pZ (P:Program) (w:World) (K:PySem.W.Frag) (td ty tv:TE):TS:=fun D σ H=>tv σ H fun v H1=>td σ H1 fun x H2=>ty σ H2 fun y H3=>∃a b k kvs,x= .ref a∧y= .ref b∧DJ P w K H3 a kvs∧KeyAt K H3 k b∧kvs.length < sizeLine∧D.nx σ (upd H3 a (dJ P w a (putJ kvs k b v)))
noncomputable def pk (P:Program) (w:World) (K:PySem.W.Frag) (td ty tx:TE):TE:=fun σ H Q=>td σ H fun x H1=>∃a kvs,x= .ref a∧DJ P w K H1 a kvs∧ty σ H1 fun y H2=>tx σ H2 fun z H3=>∃b k,y= .ref b∧DJ P w K H3 a kvs∧KeyAt K H3 k b∧Q ((valJ kvs k).getD z) H3
section
variable {X:Cx} {pos pos' apos cpos:Pos} {o i e f value:Expr} {td ty tv tx:TE}
theorem rW {P:Program} {w:World} {H:Hp} (h:Heap) (hb:sysModules < h.objs.size):ObjOk P w H (h.push {cls:= .type "dict",data:= .dict #[]}) h.objs.size (dJ P w h.objs.size []):=
 rV (Nat.zero_le _) (beq_eq_false_iff_ne.mpr (Ne.symm (Nat.ne_of_lt hb))) .nil ⟨_, #[],0,Heap.get?_push_size _ rfl,⟨rfl,rfl,rfl⟩,rfl,rfl,List.nodup_nil⟩
theorem qB:PE X (.Dict [] [] pos) (pj X.prog X.w):=fun pins s σ H Q I h=>
 wpAny_Dict_empty ⟨.ref s.heap.objs.size,_,I.laid (a:=s.heap.objs.size) (o:=dJ X.prog X.w s.heap.objs.size []) (t':=s.toks) (fun _ _ q=>Heap.get?_push_of_some _ q) (Nat.le_refl _) (rW s.heap I.big),rfl,h _ (I.hok.fresh (Nat.le_refl _))⟩
theorem qq (hu:X.A.units+30 < cLine) (ho:PE X o td) (hi:PE X i ty) (hv:PE X value tv) (hs:swapsWith value (some (.Subscript o i pos')) pos.line X.env=pure false):
 PS X (.Assign [.Subscript o i pos'] value pos) (pZ X.prog X.w X.K td ty tv):=by
 intro pins s σ H D I h
 refine wpAny_Assign_Subscript (thn (hv pins s σ H _ I h) fun r s1 ⟨v,H1,I1,rv,q1⟩=>thn (ho pins s1 σ H1 _ I1 q1) fun u s2 ⟨x,H2,I2,rx,q2⟩=>thn (hi pins s2 σ H2 _ I2 q2) fun iv s3 ⟨y,H3,I3,ry,a,b,k,kvs,ex,ey,d,kb,hl,q3⟩=> ?_) hs
 subst ex ey
 obtain rfl:u=Value.ref a:=rx
 obtain rfl:iv=Value.ref b:=ry
 obtain ⟨z,hd,xs,rel,dd⟩:=kH I3.hok I3.kIn d
 have hz:xs.length≤sizeLine:=by rw [←Paired.length rel];exact z
 have hl2:(putJ kvs k b v).length≤sizeLine:=by have:=kf kvs k b v;omega
 refine wpAny_setItem_heap (hsz:=hz) (by show X.A.units+1+20 < cLine;omega) (kb.is I3.hok I3.kIn) dd fun h' dd' hs=>⟨σ,_,?_,q3⟩
 obtain ⟨q,es,ep,hq,h2,h3,h4,_,h5⟩:=dd'
 exact u9 I3 (by rw [d.at_];exact True.intro) hs ⟨q,hq⟩ (rV hl2 hd (rel.put k rv) ⟨q,es,ep,hq,h2,h3,h4,h5⟩)
theorem qC (hu:X.A.units+30 < cLine) (ho:PE X o td) (he:PE X e ty) (hf:PE X f tx) (m:M2 X o "get" apos e f cpos):PE X (.Call (.Attribute o "get" apos) [e,f] [] cpos) (pk X.prog X.w X.K td ty tx):=by
 intro pins s σ H Q I h
 refine wpAny_Call_method m.base m.few m.line PySem.F.plainAttrs_dict PySem.F.slot_dict_get PySem.F.type_dict_get (thn (ho pins s σ H _ I h) fun u s1 ⟨x,H1,I1,rx,a,kvs,ex,d,q1⟩=> ?_)
 subst ex
 obtain rfl:u=Value.ref a:=rx
 have ty0:s1.TypeIs (.ref a) "dict"∧∀b,Value.ref a= .ref b→∃ob,s1.heap.get? b=some ob∧ob.dict=none:=by
  obtain ⟨_,_,xs,_,dd⟩:=kH I1.hok I1.kIn d
  refine ⟨dd.typeIs,fun b q=> ?_⟩
  cases q
  obtain ⟨ob,_,_,h1,h2,_⟩:=dd
  exact ⟨ob,h1,h2.2.1⟩
 refine ⟨ty0.1,ty0.2,?_⟩
 rw [m.trees]
 refine Calls.callWith_builtin rfl (Calls.evalArgs_plain (Calls.spliced_cons (thn (he pins s1 σ H1 _ I1 q1) fun iv s2 ⟨y,H2,I2,ry,q2⟩=>
  Calls.spliced_cons (thn (hf pins s2 σ H2 _ I2 q2) fun fv s3 ⟨z,H3,I3,rz,b,k,ey,d3,kb,q3⟩=>Calls.spliced_nil ?_))))
 subst ey
 obtain rfl:iv=Value.ref b:=ry
 obtain ⟨_,hd,xs,rel,dd⟩:=kH I3.hok I3.kIn d3
 exact call_meetsIn PySem.F.slot_dict_get dd.typeIs PySem.F.entry_dict_get (PySem.F.args_dict_get_3 _ _ _) (meetsH_dict_get_default (Tk.treeKind X.prog X.w) a b hd fv) ⟨by show X.A.units+1+20 < cLine;omega,k,xs,kb.is I3.hok I3.kIn,dd,⟨_,H3,I3.tok _,(rel.val k).getD rz,q3⟩⟩
variable {P:Program} {w:World} {K:PySem.W.Frag}
theorem sY (hP:X.prog=P) (hw:X.w=w):PE X (.Dict [] [] pos) (pj P w):=by
 subst hP hw
 exact qB
theorem sW (hP:X.prog=P) (hw:X.w=w) (hK:X.K=K) (hu:X.A.units+30 < cLine) (ho:PE X o td) (hi:PE X i ty) (hv:PE X value tv) (hs:swapsWith value (some (.Subscript o i pos')) pos.line X.env=pure false):
 PS X (.Assign [.Subscript o i pos'] value pos) (pZ P w K td ty tv):=by
 subst hP hw hK
 exact qq hu ho hi hv hs
theorem t8 (hP:X.prog=P) (hw:X.w=w) (hK:X.K=K) (hu:X.A.units+30 < cLine) (ho:PE X o td) (he:PE X e ty) (hf:PE X f tx) (m:M2 X o "get" apos e f cpos):PE X (.Call (.Attribute o "get" apos) [e,f] [] cpos) (pk P w K td ty tx):=by
 subst hP hw hK
 exact qC hu ho he hf m
end
end Dj
namespace Tre
open PySem L2
theorem gH {x y:Str} (h:x.cps.toList=y.cps.toList):x=y:=by
 cases x
 cases y
 simp only [Str.mk.injEq]
 exact Array.toList_inj.mp h
theorem fb {ts us:List Tr} (h:∀t∈ts,∀u∈us,code t=code u→t=u) (e:codes ts=codes us):ts=us:=by
 induction ts generalizing us with
 |nil=>cases us with
  |nil=>rfl
  |cons u us=>simp [codes] at e
 |cons t ts ih=>
  cases us with
  |nil=>simp [codes] at e
  |cons u us=>
   simp only [codes,List.cons.injEq] at e
   rw [h t List.mem_cons_self u List.mem_cons_self e.1,ih (fun a ma b mb=>h a (List.mem_cons_of_mem _ ma) b (List.mem_cons_of_mem _ mb)) e.2]
theorem nl {x y:String} (h:(Str.ofString x).cps.toList≠(Str.ofString y).cps.toList) {r s:List Co}:Co.tup (.str (Str.ofString x).cps.toList::r)=Co.tup (.str (Str.ofString y).cps.toList::s)→False:=fun e=>by
 simp only [Co.tup.injEq,List.cons.injEq,Co.str.injEq] at e
 exact h e.1
theorem wA:∀(n:Nat) {k:So} {t u:Tr},t.depth≤n→Ty k t→Ty k u→code t=code u→t=u:=by
 intro n
 induction n with
 |zero=>
  intro k t u hd h1 h2
  cases h1<;>simp [Tr.depth] at hd
 |succ n ih=>
  intro k t u hd h1 h2 e
  have sub:∀ {ts:List Tr} {t:Tr},(Tr.tup ts).depth≤n+1→t∈ts→t.depth≤n:=fun h m=>by
   unfold Tr.depth at h
   have:=bc m
   omega
  have sub2:∀ {ts l:List Tr} {t:Tr},(Tr.tup ts).depth≤n+1→Tr.tup l∈ts→t∈l→t.depth≤n:=fun h m m2=>by
   have h3:=sub h m
   unfold Tr.depth at h3
   have:=bc m2
   omega
  cases h1<;>cases h2<;>simp only [code,codes] at e
  all_goals first
   |exact (nl (by decide +kernel) e).elim
   |skip
  all_goals simp only [Co.tup.injEq,List.cons.injEq,Co.str.injEq,Co.num.injEq,and_true,true_and] at e
  · rw [gH e]
  · rename_i x ts _ h1 y us _ h2
    rw [gH e.1,fb (fun a ma b mb=>ih (sub2 hd (by simp) ma) (h1 a ma) (h2 b mb)) e.2]
  · rw [e.1,e.2]
  · rename_i t1 f1 a1 b1 t2 f2 a2 b2
    rw [ih (sub hd (by simp)) a1 a2 e.1,ih (sub hd (by simp)) b1 b2 e.2]
  · rw [gH e]
  · rename_i p1 f1 a1 b1 p2 f2 a2 b2
    rw [fb (fun a ma b mb=>ih (sub2 hd (by simp) ma) (a1 a ma) (a2 b mb)) e.1,ih (sub hd (by simp)) b1 b2 e.2]
  · rename_i t1 u1 a1 b1 t2 u2 a2 b2
    rw [ih (sub hd (by simp)) a1 a2 e.1,ih (sub hd (by simp)) b1 b2 e.2]
  · rename_i w1 a1 w2 a2
    rw [ih (sub hd (by simp)) a1 a2 e]
  · rename_i l1 a1 l2 a2
    rw [fb (fun a ma b mb=>ih (sub2 hd (by simp) ma) (a1 a ma) (a2 b mb)) e]
  · rename_i l1 a1 l2 a2
    rw [fb (fun a ma b mb=>ih (sub2 hd (by simp) ma) (a1 a ma) (a2 b mb)) e]
  · rename_i w1 b1 a1 w2 b2 a2
    have e2:b1=b2:=by
     have:=e.2
     cases b1<;>cases b2<;>simp at this ⊢
    rw [ih (sub hd (by simp)) a1 a2 e.1,e2]
def Rise (us:List Tr):Prop:=∀(i j:Nat) (t u:Tr),i≤j→us[i]?=some t→us[j]?=some u→ltT u t=false
theorem Rise.tail {a:Tr} {us:List Tr} (h:Rise (a::us)):Rise us:=fun i j t u hij e1 e2=>h (i+1) (j+1) t u (by omega) (by simpa using e1) (by simpa using e2)
theorem Rise.head {a b:Tr} {us:List Tr} (h:Rise (a::us)) (m:b∈us):ltT b a=false:=by
 obtain ⟨j,hj,e⟩:=List.getElem_of_mem m
 exact h 0 (j+1) a b (by omega) rfl (by simp [hj,e])
end Tre
namespace Wd
open PySem L2 Tre Mth Dj
def Lt2 (e:Nat) (x:Int):Prop:=x.natAbs < 2^e
theorem Lt2.mono {m n:Nat} {x:Int} (h:Lt2 m x) (hn:m≤n):Lt2 n x:=Nat.lt_of_lt_of_le h (Nat.pow_le_pow_right (by decide) hn)
theorem Lt2.big {n:Nat} {x:Int} (h:Lt2 n x) (hn:n≤8000):Big x:=h.mono hn
theorem Lt2.div {e:Nat} {x y:Int} (h:Lt2 e x):Lt2 e (x / y):=Nat.lt_of_le_of_lt (gn x y) h
theorem Lt2.mul {m n:Nat} {x y:Int} (h1:Lt2 m x) (h2:Lt2 n y):Lt2 (m+n) (x*y):=by
 unfold Lt2 at*
 rw [Int.natAbs_mul,Nat.pow_add]
 exact Nat.mul_lt_mul'' h1 h2
theorem Lt2.add {m:Nat} {x y:Int} (h1:Lt2 m x) (h2:Lt2 m y):Lt2 (m+1) (x+y):=by
 unfold Lt2 at*
 have:=Int.natAbs_add_le x y
 rw [Nat.pow_succ]
 omega
theorem n5 {m n:Nat} {a b c d:Int} (ha:Lt2 m a) (hb:Lt2 m b) (hc:Lt2 n c) (hd:Lt2 n d):Lt2 (m+n+1) (pX a b c d)∧Lt2 (m+n+1) (pY a b c d):=by
 refine ⟨?_,?_⟩
 · unfold pX
   refine Lt2.div ?_
   unfold pT
   refine Lt2.add (ha.mul hd.div) ?_
   rw [Nat.add_comm]
   exact hc.mul hb.div
 · unfold pY
   exact (hb.div.mul hd.div).mono (by omega)
theorem jO {m n:Nat} {a b c d:Int} (ha:Lt2 m a) (hb:Lt2 m b) (hc:Lt2 n c) (hd:Lt2 n d):Lt2 (m+n) (tX a b c d)∧Lt2 (m+n) (tY a b c d):=⟨ha.div.mul hc.div,hb.div.mul hd.div⟩
theorem qr {a b c d:Int} (hb:0 < b) (hd:0 < d):0 < pY a b c d:=by
 have g0:(0:Int) < (Int.gcd b d:Int):=by
  have:=Int.gcd_pos_of_ne_zero_right b (show d≠0 by omega)
  omega
 have e0:(0:Int) < pE a b c d:=by
  have:=Int.gcd_pos_of_ne_zero_right (pT a b c d) (show (Int.gcd b d:Int)≠0 by omega)
  unfold pE
  omega
 unfold pY
 have h1:0 < b / (Int.gcd b d:Int):=Int.ediv_pos_of_pos_of_dvd hb (by omega) (Int.gcd_dvd_left b d)
 have h2:0 < d / pE a b c d:=by
  refine Int.ediv_pos_of_pos_of_dvd hd (by omega) ?_
  unfold pE
  exact Int.dvd_trans (Int.gcd_dvd_right (pT a b c d) (Int.gcd b d:Int)) (Int.gcd_dvd_right b d)
 exact Int.mul_pos h1 h2
theorem og {a b c d:Int} (hb:0 < b) (hd:0 < d):0 < tY a b c d:=by
 have g1:(0:Int) < (Int.gcd c b:Int):=by
  have:=Int.gcd_pos_of_ne_zero_right c (show b≠0 by omega)
  omega
 have g2:(0:Int) < (Int.gcd a d:Int):=by
  have:=Int.gcd_pos_of_ne_zero_right a (show d≠0 by omega)
  omega
 unfold tY
 exact Int.mul_pos (Int.ediv_pos_of_pos_of_dvd hb (by omega) (Int.gcd_dvd_right c b)) (Int.ediv_pos_of_pos_of_dvd hd (by omega) (Int.gcd_dvd_right a d))
abbrev Fr:=Int×Int
def frT (p:Fr):Tr:= .tup [.int p.1, .int p.2]
def frK (p:Fr):Tk.KT:= .tp [.lf (.inl p.1), .lf (.inl p.2)]
structure Gf (e:Nat) (p:Fr):Prop where
 pos:0 < p.2
 top:Lt2 e p.1
 bot:Lt2 e p.2
theorem Gf.mono {m n:Nat} {p:Fr} (h:Gf m p) (hn:m≤n):Gf n p:=⟨h.pos,h.top.mono hn,h.bot.mono hn⟩
def zero:Fr:=(0,1)
def Gv (p:Fr):Prop:=Gf 200 p∧cn p.1 p.2
theorem tW:Gf 200 zero:=⟨by decide,by show (0:Nat) < 2^200;exact Nat.pow_pos (by decide),by show (1:Nat) < 2^200;decide +kernel⟩
theorem nK:Gv zero:=⟨tW,by decide,by decide⟩
noncomputable def eW (p q:Fr):Fr:=(pX p.1 p.2 q.1 q.2,pY p.1 p.2 q.1 q.2)
noncomputable def eA (p q:Fr):Fr:=(tX p.1 p.2 q.1 q.2,tY p.1 p.2 q.1 q.2)
theorem Gf.plus {m n:Nat} {p q:Fr} (h1:Gf m p) (h2:Gf n q):Gf (m+n+1) (eW p q):=⟨qr h1.pos h2.pos,(n5 h1.top h1.bot h2.top h2.bot).1,(n5 h1.top h1.bot h2.top h2.bot).2⟩
theorem Gf.times {m n:Nat} {p q:Fr} (h1:Gf m p) (h2:Gf n q):Gf (m+n) (eA p q):=⟨og h1.pos h2.pos,(jO h1.top h1.bot h2.top h2.bot).1,(jO h1.top h1.bot h2.top h2.bot).2⟩
structure Wld where
 fl:Str→Bool
 va:Str→Fr
 ca:List Tk.KT→Fr
structure Wld.Ok (W:Wld):Prop where
 va:∀x,Gv (W.va x)
 ca:∀k,Gv (W.ca k)
mutual
noncomputable def valT (W:Wld):Tr→Fr
 | .tup (_:: .str x::r)=>match r with
  | []=>W.va x
  |t::_=>W.ca [.lf (.inr x), .tp (keyT W t)]
 |_=>zero
noncomputable def keyT (W:Wld):Tr→List Tk.KT
 | .tup ts=>valsT W ts
 |_=> []
noncomputable def valsT (W:Wld):List Tr→List Tk.KT
 | []=> []
 |t::ts=>frK (valT W t)::valsT W ts
end
end Wd
namespace K12
open PySem L2 Mth
noncomputable def top (i:Nat):Stmt:=PySem.Challenge.pw_smallword_k12_other_texts_read.main.body.getD i (.Pass ⟨0,0,0,0⟩)
noncomputable abbrev sCd:Stmt:=top 6
noncomputable abbrev sFr:Stmt:=top 7
noncomputable abbrev iB:Stmt:=top 8
noncomputable abbrev fg:Stmt:=top 9
noncomputable abbrev fq:Stmt:=top 10
noncomputable abbrev sFg:Stmt:=top 14
noncomputable abbrev sAf:Stmt:=top 15
noncomputable abbrev sNo:Stmt:=top 16
noncomputable abbrev sFt:Stmt:=top 17
noncomputable abbrev sFi:Stmt:=top 18
noncomputable abbrev sNmQ:Stmt:=top 22
noncomputable abbrev sSum:Stmt:=top 24
noncomputable abbrev dw:Stmt:=top 25
noncomputable abbrev dH:Stmt:=top 27
noncomputable abbrev cU:Stmt:=top 28
noncomputable abbrev ft:Stmt:=top 29
noncomputable abbrev fu:Stmt:=top 30
noncomputable abbrev fo:Stmt:=top 31
noncomputable abbrev iF:Stmt:=tU (top 35) 0
noncomputable abbrev sRdW:Stmt:=top 36
noncomputable abbrev sRdA:Stmt:=top 37
noncomputable abbrev sTkW:Stmt:=top 38
noncomputable abbrev sBeg:Stmt:=top 39
noncomputable abbrev sPut:Stmt:=top 40
noncomputable abbrev sThI:Stmt:=top 41
noncomputable abbrev sClo:Stmt:=top 42
noncomputable abbrev sWan:Stmt:=top 43
noncomputable abbrev sMay:Stmt:=top 44
noncomputable abbrev sTby:Stmt:=top 45
noncomputable abbrev sSuW:Stmt:=top 46
noncomputable abbrev iE:Stmt:=top 48
noncomputable abbrev de:Stmt:=top 49
noncomputable abbrev dc:Stmt:=top 50
noncomputable abbrev sLow:Stmt:=top 51
noncomputable abbrev fj:Stmt:=top 52
noncomputable abbrev fh:Stmt:=top 53
noncomputable abbrev fm:Stmt:=top 54
noncomputable abbrev iz:Stmt:=top 55
noncomputable abbrev iC:Stmt:=top 56
noncomputable abbrev fk:Stmt:=top 57
noncomputable abbrev iD:Stmt:=top 58
noncomputable abbrev sTTx:Stmt:=top 59
noncomputable abbrev iA:Stmt:=top 61
noncomputable abbrev sTrn:Stmt:=top 62
noncomputable abbrev sMea:Stmt:=top 63
noncomputable abbrev sWri:Stmt:=top 64
noncomputable abbrev sLaw:Stmt:=top 65
section
variable {P:Program} {w:World} {K:PySem.W.Frag} {mg:Str→Option Value} {base:Heap}
structure Blt (mg:Str→Option Value):Prop where
 ab:mg "abs"=none
 le:mg "len"=none
 ra:mg "range"=none
 isi:mg "isinstance"=none
 tu:mg "tuple"=none
 it:mg "int"=none
 bo:mg "bool"=none
 li:mg "list"=none
 st:mg "str"=none
 al:mg "all"=none
 an:mg "any"=none
 su:mg "sum"=none
 zi:mg "zip"=none
 so:mg "sorted"=none
 ve:mg "ValueError"=none
 en:mg "enumerate"=none
 rv:mg "reversed"=none
def spCd:Sp:=fun vs H Q _=>∃(a b:Int),vs= [.int a, .int b]∧Q (.int (Int.gcd a b:Int)) H
theorem scC:aA ["one","other"] ["one","other"] (ae sCd):=⟨rfl,rfl,rfl,by decide +kernel,rfl,by decide +kernel,by decide +kernel⟩
theorem uh (a:Int):(if a < 0 then -a else a)=(Int.gcd a 0:Int):=by
 rw [Int.gcd_zero_right]
 split<;>omega
theorem qV {f:Addr} {fd:FuncData} (F:Fun K "common_divisor" "common_divisor" sCd f fd) (B:Blt mg):FnOk P w K mg base CX0 1 f fd ["one","other"] spCd:=by
 refine F.ok scC (fun vs H Q E h=> ?_) (fun cdv A outer s H vs Q E hr h=> ?_)
 · obtain ⟨a,b,rfl,_⟩:=h
   rfl
 · obtain ⟨a,b,rfl,k⟩:=h
   refine ⟨_,aa (gX PassesOwn.never (am iH (pv 1) ad (au _)) (ag (uX (i:=0) (j:=1) rfl scC.nd rfl rfl (by decide) rfl rfl (a7 (pv 1) (a7 (ao tz (pv 0) (pv 1)) a9)) rfl)))
    (ag (aj (aD ik rfl B.ab im (a7 (pv 0) a9)))),?_⟩
   refine gv (fun σ H'=>H'=H∧∃x y:Int,σ= [some (.int x),some (.int y)]∧Int.gcd x y=Int.gcd a b) (fun σ _=>match σ with| [_,some (.int y)]=>y.natAbs|_=>0) ⟨rfl,a,b,rfl,rfl⟩ ?_ ?_
   · rintro σ H' ⟨rfl,x,y,rfl,e⟩
     refine ⟨_,rfl,rfl,_,rfl,?_⟩
     by_cases z:y=0
     · subst z
       rw [decide_eq_true rfl]
       refine iteF ?_
       refine ⟨_,rfl,x,rfl,?_⟩
       rw [uh,e]
       exact k
     · have z':¬(V.int y=V.int 0):=fun q=>z (V.int.inj q)
       rw [decide_eq_false z']
       refine iteT ?_
       refine ⟨_,rfl,_,rfl,_,rfl,x,y,rfl,rfl,z,_,_,rfl,?_⟩
       refine ⟨⟨rfl,y,x.fmod y,rfl,?_⟩,?_⟩
       · rw [rK,e]
       · exact u7 z
   · intro σ H' R R' hR h
     obtain ⟨v,e1,e2,q,e3,h⟩:=h
     exact ⟨v,e1,e2,q,e3,hR _ _ h⟩
theorem cL {t b:Int} (h:Big b) (z:b≠0):Big (Int.gcd t b:Int):=by
 have:Int.gcd t b≤b.natAbs:=Int.gcd_le_natAbs_right t (by omega)
 unfold Big at*
 omega
end
open PySem L2 Mth Tre
theorem af {H:Hp} {p:Addr} {o:HO} (h:H p=none):Same H (upd H p o):=fun b u e=>by
 rw [ak (aR e h)]
 exact e
theorem cf {H H':Hp} {D:Addr} {o:HO} (h:H D=none) (s:Same H H'):Same H (upd H' D o):=fun b u e=>by
 rw [ak (aR e h)]
 exact s b u e
theorem Bg.div {x y:Int} (h:Big x):Big (x / y):=Nat.lt_of_le_of_lt (gn x y) h
section
variable {P:Program} {w:World} {K:PySem.W.Frag} {mg:Str→Option Value} {base:Heap}
def jc (K:PySem.W.Frag):Sp:=fun vs H Q _=>∃(p q:Addr) (a b c d:Int),vs= [.ref p, .ref q]∧SqT K H p [.int a, .int b]∧SqT K H q [.int c, .int d]∧
 (0 < b∧0 < d∧Big a∧Big b∧Big c∧Big d)∧∀(r:Addr) (H':Hp),H r=none→Same H H'→H' r=some (.tup [.int (pX a b c d), .int (pY a b c d)])→Q (.ref r) H'
theorem lq {vs:List V} {H:Hp} {Q:VK} {E:XK} (h:jc K vs H Q E):vs.length=2:=by
 obtain ⟨p,q,a,b,c,d,rfl,_⟩:=h
 rfl
theorem scP:aA ["one","other","shared","top","divisor"] ["one","other"] (ae iB):=⟨rfl,rfl,rfl,by decide +kernel,rfl,by decide +kernel,by decide +kernel⟩
theorem tG {f fC:Addr} {fd fdC:FuncData} (F:Fun K "plus" "plus" iB f fd) (FC:Fun K "common_divisor" "common_divisor" sCd fC fdC) (bC:Binds K fdC ["one","other"] []) (mC:mg "common_divisor"=some (.ref fC)) (B:Blt mg):
 FnOk P w K mg base CX0 2 f fd ["one","other"] (jc K):=by
 have GC:FnOk P w K mg base CX0 1 fC fdC ["one","other"] spCd:=qV FC B
 refine F.ok scP (fun vs H Q E h=>lq h) (fun cdv A outer s H vs Q E hr h=> ?_)
 obtain ⟨p,q,a,b,c,d,rfl,hp,hq,⟨b0,d0,sa,sb,sc,sd⟩,k⟩:=h
 refine ⟨_,aa (aq (i:=2) scP.nd rfl (Or.inl rfl) (ah GC hr rfl mC FC.kp bC .nil ar (a7 (aB aJ (pv 0) ad fun _ _=>rfl) (a7 (aB aJ (pv 1) ad fun _ _=>rfl) a9))))
  (aa (aq (i:=3) scP.nd rfl (Or.inl rfl) (ao bq (ao ci (aB aJ (pv 0) ad fun _ _=>rfl) (ao be (aB aJ (pv 1) ad fun _ _=>rfl) (pv 2)))
   (ao ci (aB aJ (pv 1) ad fun _ _=>rfl) (ao be (aB aJ (pv 0) ad fun _ _=>rfl) (pv 2)))))
  (aa (aq (i:=4) scP.nd rfl (Or.inl rfl) (ah GC hr rfl mC FC.kp bC .nil ar (a7 (pv 3) (a7 (pv 2) a9))))
  (ag (aj (aE (a7 (ao be (pv 3) (pv 4)) (a7 (ao ci (ao be (aB aJ (pv 0) ad fun _ _=>rfl) (pv 2)) (ao be (aB aJ (pv 1) ad fun _ _=>rfl) (pv 4))) a9))))))),?_⟩
 have g0:(0:Int) < (Int.gcd b d:Int):=by
  have:=Int.gcd_pos_of_ne_zero_right b (show d≠0 by omega)
  omega
 have gS:Big (Int.gcd b d:Int):=cL sd (by omega)
 have e0:(0:Int) < pE a b c d:=by
  have:=Int.gcd_pos_of_ne_zero_right (pT a b c d) (show (Int.gcd b d:Int)≠0 by omega)
  unfold pE
  omega
 have eS:Big (pE a b c d):=cL gS (by omega)
 refine ⟨_,rfl,p,_,1, .int b,rfl,rfl,hp,rfl,_,rfl,q,_,1, .int d,rfl,rfl,hq,rfl,b,d,rfl,?_⟩
 refine ⟨_,rfl,p,_,0, .int a,rfl,rfl,hp,rfl,_,rfl,q,_,1, .int d,rfl,rfl,hq,rfl,_,rfl,d,_,rfl,rfl,⟨g0,gS⟩,a,_,rfl,rfl,⟨sa,(Bg.div sd)⟩,_,rfl,q,_,0, .int c,rfl,rfl,hq,rfl,_,rfl,p,_,1, .int b,rfl,rfl,hp,rfl,_,rfl,b,_,rfl,rfl,⟨g0,gS⟩,c,_,rfl,rfl,⟨sc,(Bg.div sb)⟩,_,_,rfl,rfl,?_⟩
 refine ⟨_,rfl,_,rfl,pT a b c d,(Int.gcd b d:Int),rfl,?_⟩
 refine ⟨_,rfl,_,rfl,pT a b c d,pE a b c d,rfl,rfl,⟨e0,eS⟩,_,rfl,p,_,1, .int b,rfl,rfl,hp,rfl,_,rfl,b,_,rfl,rfl,⟨g0,gS⟩,_,rfl,q,_,1, .int d,rfl,rfl,hq,rfl,_,rfl,d,pE a b c d,rfl,rfl,⟨e0,eS⟩,_,_,rfl,rfl,⟨(Bg.div sb),(Bg.div sd)⟩,by show 2≤sizeLine;decide,fun r hr'=> ?_⟩
 exact k r _ hr' (af hr') ac
def jb (K:PySem.W.Frag):Sp:=fun vs H Q _=>∃(p q:Addr) (a b c d:Int),vs= [.ref p, .ref q]∧SqT K H p [.int a, .int b]∧SqT K H q [.int c, .int d]∧
 (0 < b∧0 < d∧Big a∧Big b∧Big c∧Big d)∧∀(r:Addr) (H':Hp),H r=none→Same H H'→H' r=some (.tup [.int (tX a b c d), .int (tY a b c d)])→Q (.ref r) H'
theorem scTi:aA ["one","other","first","second"] ["one","other"] (ae fg):=⟨rfl,rfl,rfl,by decide +kernel,rfl,by decide +kernel,by decide +kernel⟩
theorem qL {f fC:Addr} {fd fdC:FuncData} (F:Fun K "times" "times" fg f fd) (FC:Fun K "common_divisor" "common_divisor" sCd fC fdC) (bC:Binds K fdC ["one","other"] []) (mC:mg "common_divisor"=some (.ref fC)) (B:Blt mg):
 FnOk P w K mg base CX0 2 f fd ["one","other"] (jb K):=by
 have GC:FnOk P w K mg base CX0 1 fC fdC ["one","other"] spCd:=qV FC B
 refine F.ok scTi (fun vs H Q E h=> ?_) (fun cdv A outer s H vs Q E hr h=> ?_)
 · obtain ⟨p,q,a,b,c,d,rfl,_⟩:=h
   rfl
 obtain ⟨p,q,a,b,c,d,rfl,hp,hq,⟨b0,d0,sa,sb,sc,sd⟩,k⟩:=h
 refine ⟨_,aa (aq (i:=2) scTi.nd rfl (Or.inl rfl) (ah GC hr rfl mC FC.kp bC .nil ar (a7 (aB aJ (pv 0) ad fun _ _=>rfl) (a7 (aB aJ (pv 1) ad fun _ _=>rfl) a9))))
  (aa (aq (i:=3) scTi.nd rfl (Or.inl rfl) (ah GC hr rfl mC FC.kp bC .nil ar (a7 (aB aJ (pv 1) ad fun _ _=>rfl) (a7 (aB aJ (pv 0) ad fun _ _=>rfl) a9))))
  (ag (aj (aE (a7 (ao ci (ao be (aB aJ (pv 0) ad fun _ _=>rfl) (pv 2)) (ao be (aB aJ (pv 1) ad fun _ _=>rfl) (pv 3)))
   (a7 (ao ci (ao be (aB aJ (pv 0) ad fun _ _=>rfl) (pv 3)) (ao be (aB aJ (pv 1) ad fun _ _=>rfl) (pv 2))) a9)))))),?_⟩
 have g1:(0:Int) < (Int.gcd a d:Int):=by
  have:=Int.gcd_pos_of_ne_zero_right a (show d≠0 by omega)
  omega
 have s1:Big (Int.gcd a d:Int):=cL sd (by omega)
 have g2:(0:Int) < (Int.gcd c b:Int):=by
  have:=Int.gcd_pos_of_ne_zero_right c (show b≠0 by omega)
  omega
 have s2:Big (Int.gcd c b:Int):=cL sb (by omega)
 refine ⟨_,rfl,p,_,0, .int a,rfl,rfl,hp,rfl,_,rfl,q,_,1, .int d,rfl,rfl,hq,rfl,a,d,rfl,?_⟩
 refine ⟨_,rfl,q,_,0, .int c,rfl,rfl,hq,rfl,_,rfl,p,_,1, .int b,rfl,rfl,hp,rfl,c,b,rfl,?_⟩
 refine ⟨_,rfl,p,_,0, .int a,rfl,rfl,hp,rfl,_,rfl,a,_,rfl,rfl,⟨g1,s1⟩,_,rfl,q,_,0, .int c,rfl,rfl,hq,rfl,_,rfl,c,_,rfl,rfl,⟨g2,s2⟩,_,_,rfl,rfl,⟨Bg.div sa,Bg.div sc⟩,
  _,rfl,p,_,1, .int b,rfl,rfl,hp,rfl,_,rfl,b,_,rfl,rfl,⟨g2,s2⟩,_,rfl,q,_,1, .int d,rfl,rfl,hq,rfl,_,rfl,d,_,rfl,rfl,⟨g1,s1⟩,_,_,rfl,rfl,⟨Bg.div sb,Bg.div sd⟩,by show 2≤sizeLine;decide,fun r hr'=> ?_⟩
 exact k r _ hr' (af hr') ac
end
open PySem L2 Mth Tre
def FeedAt (H:Hp) (f c:Addr):Prop:=∃(cells:List Int) (b n:Int),H f=some (.lst [.ref c, .int b, .int n])∧H c=some (.lst (cells.map V.int))∧0 < cells.length∧cells.length≤63∧f≠c
def Keep (f c:Addr) (H H':Hp):Prop:=∀x,x≠f→x≠c→H' x=H x
theorem Keep.refl {f c:Addr} {H:Hp}:Keep f c H H:=fun _ _ _=>rfl
theorem Keep.trans {f c:Addr} {H H1 H2:Hp} (a:Keep f c H H1) (b:Keep f c H1 H2):Keep f c H H2:=fun x h1 h2=>(b x h1 h2).trans (a x h1 h2)
theorem i8 (ns:List Int) (lo hi:Option Int):∃ms:List Int,cutV (ns.map V.int) lo hi=ms.map V.int∧ms.length≤ns.length:=by
 refine ⟨(ns.drop (HT.sIx (ns.map V.int).length 0 lo)).take (HT.sIx (ns.map V.int).length (ns.map V.int).length hi - HT.sIx (ns.map V.int).length 0 lo),?_,?_⟩
 · unfold cutV
   rw [List.map_take,List.map_drop]
 · rw [List.length_take,List.length_drop]
   omega
theorem wj {ns:List Int} {i:Int} (h0:0≤i) (h1:i < ns.length):∃(j:Nat) (z:Int),i=(j:Int)∧j < ns.length∧atI (ns.map V.int) i=some (.int z)∧ixN (ns.map V.int).length i=some j:=by
 obtain ⟨j,rfl⟩:∃j:Nat,i=(j:Int):=⟨i.toNat,by omega⟩
 have hj:j < ns.length:=by omega
 refine ⟨j,ns[j],rfl,hj,bX (by simp [hj]),?_⟩
 unfold ixN
 rw [if_pos h0,List.length_map,if_pos h1,Int.toNat_natCast]
theorem FeedAt.keep {f c:Addr} {H H':Hp} (x:FeedAt H f c) (e1:H' f=H f) (e2:H' c=H c):FeedAt H' f c:=by
 obtain ⟨cells,b,n,h1,h2,r⟩:=x
 exact ⟨cells,b,n,e1.trans h1,e2.trans h2,r⟩
theorem FeedAt.same {f c:Addr} {H H':Hp} (x:FeedAt H f c) (s:Same H H'):FeedAt H' f c:=by
 obtain ⟨cells,b,n,h1,h2,r⟩:=x
 exact ⟨cells,b,n,s _ _ h1,s _ _ h2,r⟩
theorem FeedAt.ne {f c r:Addr} {H:Hp} (x:FeedAt H f c) (h:H r=none):r≠f∧r≠c:=by
 obtain ⟨cells,b,n,h1,h2,_⟩:=x
 exact ⟨(aR h1 h).symm,(aR h2 h).symm⟩
def But (f c:Addr) (H H':Hp):Prop:=∀x o,x≠f→x≠c→H x=some o→H' x=some o
theorem But.of_keep {f c:Addr} {H H':Hp} (k:Keep f c H H'):But f c H H':=fun x o h1 h2 e=>(k x h1 h2).trans e
theorem But.of_same {f c:Addr} {H H':Hp} (k:Same H H'):But f c H H':=fun x o _ _ e=>k x o e
theorem But.trans {f c:Addr} {H H1 H2:Hp} (a:But f c H H1) (b:But f c H1 H2):But f c H H2:=fun x o h1 h2 e=>b x o h1 h2 (a x o h1 h2 e)
theorem But.wr {f c D:Addr} {H H':Hp} {o:HO} (b:But f c H H') (h:H D=none):But f c H (upd H' D o):=fun x u n1 n2 e=>by
 rw [ak (aR e h)]
 exact b x u n1 n2 e
theorem FeedAt.wr {f c D:Addr} {H:Hp} {o:HO} (x:FeedAt H f c) (h:D≠f∧D≠c):FeedAt (upd H D o) f c:=x.keep (ak h.1.symm) (ak h.2.symm)
theorem But.free {f c D:Addr} {H H':Hp} (b:But f c H H') (x:FeedAt H' f c) (h:H' D=none):H D=none:=by
 obtain ⟨n1,n2⟩:=x.ne h
 cases e:H D with
 |none=>rfl
 |some o=>
  rw [b D o n1 n2 e] at h
  cases h
theorem br {m:Int} (h0:0≤m) (h:m≤1000000):Big m:=by
 unfold Big
 have:(1000000:Nat) < 2^8000:=by decide +kernel
 exact Nat.lt_of_le_of_lt (by omega) this
theorem But.kd {f c:Addr} {H H':Hp} (b:But f c H H') (x:FeedAt H f c) (y:FeedAt H' f c):Kd H H':=by
 obtain ⟨cells,u,n,h1,h2,_⟩:=x
 obtain ⟨cells',u',n',h1',h2',_⟩:=y
 refine ⟨fun a zs h=>b a _ (fun z=> ?_) (fun z=> ?_) h,fun a zs h=> ?_⟩
 · rw [z,h1] at h
   cases h
 · rw [z,h2] at h
   cases h
 · by_cases z:a=f
   · subst z
     exact ⟨_,h1'⟩
   · by_cases z':a=c
     · subst z'
       exact ⟨_,h2'⟩
     · exact ⟨zs,b a _ z z' h⟩
section
variable {P:Program} {w:World} {K:PySem.W.Frag} {mg:Str→Option Value} {base:Heap}
def pU (K:PySem.W.Frag):Sp:=fun vs H Q _=>∃(a:Addr) (ns:List Int),vs= [.ref a]∧SqL K H a (ns.map V.int)∧ns.length≤63∧∀(f c:Addr) (H':Hp),H f=none→H c=none→Same H H'→FeedAt H' f c→Q (.ref f) H'
theorem scFd:aA ["_law_script","_law_cells"] ["_law_script"] (ae iE):=⟨rfl,rfl,rfl,by decide +kernel,rfl,by decide +kernel,by decide +kernel⟩
theorem tK {f:Addr} {fd:FuncData} (F:Fun K "_law_feed" "_law_feed" iE f fd) (B:Blt mg):FnOk P w K mg base CX0 1 f fd ["_law_script"] (pU K):=by
 refine F.ok scFd (fun vs H Q E h=> ?_) (fun cdv A outer s H vs Q E hr h=> ?_)
 · obtain ⟨a,ns,rfl,_⟩:=h
   rfl
 · obtain ⟨a,ns,rfl,hS,hl,k⟩:=h
   refine ⟨_,aa (aq (i:=1) scFd.nd rfl (Or.inl rfl) (aU jG rfl B.li PyProof.Rows.boot_list (a7 (c5 jk (pv 0) (c4 ad) (c4 ad)) a9)))
    (aa (aK (am aP (aD aX rfl B.le PySem.boot_len (a7 (pv 1) a9)) ad (au _))
     (ag (aq (i:=1) scFd.nd rfl (Or.inl rfl) (bn (a7 (ao tD (aD (iQ rfl) rfl B.su kZ (a7 (c5 jk (pv 0) d6 (c4 ad)) a9)) ad) a9)))) av)
    (ag (aj (bn (a7 (pv 1) (a7 (ao c9 (aD (iQ rfl) rfl B.su kZ (a7 (c5 jk (pv 0) d6 (c4 ad)) a9)) ad) (a7 ad a9))))))),?_⟩
   refine ⟨_,rfl,1,rfl,63,rfl,a,_,rfl,hS,fun p hp=> ?_⟩
   obtain ⟨ms,em,lm⟩:=i8 ns (some 1) (some 63)
   rw [em]
   refine ⟨p,_,rfl, .inl (SqL.of ac),fun c0 hc0=> ?_⟩
   have s1:Same H (upd (upd H p (.lst (ms.map V.int))) c0 (.lst (ms.map V.int))):=(af hp).trans (af hc0)
   have n1:H c0=none:=(af hp).free hc0
   have last:∀(H1:Hp) (c:Addr) (cells:List Int),Same H H1→H c=none→H1 c=some (.lst (cells.map V.int))→0 < cells.length→cells.length≤63→
    (tRet (tLst (bp (tVar 1) (bp (tOp (rI (fun _ j=>0 < j) fun i j=> .int (i%j)) (tCB (fun xs H Q=>∃(p:Addr) (ns:List Int),xs= [.ref p]∧SqL K H p (ns.map V.int)∧Q (.int ns.sum) H) (bp (tSl (rSlL K) (tVar 0) mr (uq (tC (.int 1)))) tNil)) (tC (.int 2))) (bp (tC (.int 0)) tNil)))))
     {nx:=fun _ H'=>Q .non H',rt:=Q} [some (.ref a),some (.ref c)] H1:=by
    intro H1 c cells sm nc hc h0 h63
    refine ⟨_,rfl,_,rfl,1,rfl,a,_,rfl,sm.seq hS,fun p2 hp2=> ?_⟩
    obtain ⟨ls,el,ll⟩:=i8 ns none (some 1)
    rw [el]
    refine ⟨p2,ls,rfl,SqL.of ac,_,_,rfl,rfl,(by show (0:Int) < 2;decide),by show 3≤sizeLine;decide,fun f hf=> ?_⟩
    have s2:Same H (upd (upd H1 p2 (.lst (ls.map V.int))) f (.lst [.ref c, .int (ls.sum%2), .int 0])):=sm.trans ((af hp2).trans (af hf))
    have s3:Same H (upd H1 p2 (.lst (ls.map V.int))):=sm.trans (af hp2)
    have hc2:(upd H1 p2 (.lst (ls.map V.int))) c=some (.lst (cells.map V.int)):=af hp2 _ _ hc
    refine k f c _ (s3.free hf) nc s2 ⟨cells,_,_,ac,?_,h0,h63,fun z=> ?_⟩
    · rw [ak (aR hc2 hf)]
      exact hc2
    · rw [z,hc2] at hf
      cases hf
   refine ⟨_,rfl,c0,_,rfl, .inl (SqL.of ac),rfl,_,rfl,?_⟩
   rw [List.length_map]
   by_cases z:ms.length=0
   · have z':V.int ((ms.length:Nat):Int)=V.int 0:=by rw [z];rfl
     rw [decide_eq_true z']
     refine iteT ?_
     refine ⟨_,rfl,1,rfl,a,_,rfl,s1.seq hS,fun p2 hp2=> ?_⟩
     obtain ⟨ls,el,ll⟩:=i8 ns none (some 1)
     rw [el]
     refine ⟨p2,ls,rfl,SqL.of ac,_,_,rfl,rfl,⟨by decide,by decide⟩,by show 1≤sizeLine;decide,fun c hc=> ?_⟩
     have s3:=s1.trans (af (o:= .lst (ls.map V.int)) hp2)
     exact last _ c [ls.sum / 2] (s3.trans (af hc)) (s3.free hc) ac (by show 0 < 1;decide) (by show 1≤63;decide)
   · have z':¬V.int ((ms.length:Nat):Int)=V.int 0:=fun q=>z (by have:=V.int.inj q;omega)
     rw [decide_eq_false z']
     refine iteF ?_
     exact last _ c0 ms s1 n1 ac (by omega) (by omega)
def cN:Sp:=fun vs H Q _=>∃(f c:Addr) (m:Int),vs= [.ref f, .int m]∧FeedAt H f c∧0 < m∧Big m∧∀(r:Int) (H':Hp),0≤r→r < m→FeedAt H' f c→Keep f c H H'→Q (.int r) H'
theorem scD:aA ["_law_feed_here","_law_many","_law_at","_law_k","_law_cell"] ["_law_feed_here","_law_many"] (ae de):=⟨rfl,rfl,rfl,by decide +kernel,rfl,by decide +kernel,by decide +kernel⟩
theorem dR {f:Addr} {fd:FuncData} (F:Fun K "_law_draw" "_law_draw" de f fd) (B:Blt mg):FnOk P w K mg base CX0 1 f fd ["_law_feed_here","_law_many"] cN:=by
 refine F.ok scD (fun vs H Q E h=> ?_) (fun cdv A outer s H vs Q E hr h=> ?_)
 · obtain ⟨f,c,m,rfl,_⟩:=h
   rfl
 · obtain ⟨f,c,m,rfl,⟨cells,b,n,hf,hc,l0,l63,nfc⟩,m0,mB,k⟩:=h
   refine ⟨_,aa (aq (i:=2) scD.nd rfl (Or.inl rfl) (aB aG (pv 0) ad fun _ _=>rfl))
    (aa (fw (ao bq (pv 2) ad) (lI (pv 0) ad gU))
    (aa (aq (i:=3) scD.nd rfl (Or.inl rfl) (ao c9 (pv 2) (aD aX rfl B.le PySem.boot_len (a7 (aB aG (pv 0) ad fun _ _=>rfl) a9))))
    (aa (aq (i:=4) scD.nd rfl (Or.inl rfl) (aB aG (aB aG (pv 0) ad fun _ _=>rfl) (pv 3) fun _ _=>rfl))
    (aa (aK (am aP (aB aG (pv 0) ad fun _ _=>rfl) ad (au _))
     (aa (fw (ao be (pv 4) (pv 1)) (lI (aB aG (pv 0) ad fun _ _=>rfl) (pv 3) gU)) (ag (aj (ao c9 (pv 4) (pv 1))))) av)
    (ag (aj (ao c9 (ao c9 (ao fJ (ao c9 (ao fJ (ao bq (pv 4) (ao fJ ad (pv 2))) ad) ad) ad) ad) (pv 1)))))))),?_⟩
   refine ⟨_,rfl,f,_,2, .int n,rfl,rfl,SqL.of hf,rfl,?_⟩
   refine ⟨_,rfl,_,_,rfl,rfl,_,rfl,f,_,2,2,rfl,rfl,hf,rfl,?_⟩
   have hf1:(upd H f (.lst ([V.ref c, .int b, .int n].set 2 (.int (n+1))))) f=some (.lst [.ref c, .int b, .int (n+1)]):=ac
   have hc1:(upd H f (.lst ([V.ref c, .int b, .int n].set 2 (.int (n+1))))) c=some (.lst (cells.map V.int)):=by rw [ak (Ne.symm nfc)];exact hc
   have k1:Keep f c H (upd H f (.lst ([V.ref c, .int b, .int n].set 2 (.int (n+1))))):=fun x h1 _=>ak h1
   generalize upd H f (.lst ([V.ref c, .int b, .int n].set 2 (.int (n+1))))=H1 at hf1 hc1 k1 ⊢
   refine ⟨_,rfl,_,rfl,f,_,0, .ref c,rfl,rfl,SqL.of hf1,rfl,c,_,rfl, .inl (SqL.of hc1),n,_,rfl,rfl,(by rw [List.length_map];omega),?_⟩
   rw [List.length_map]
   have q0:(0:Int)≤n%(cells.length:Int):=Int.emod_nonneg _ (by omega)
   have q1:n%(cells.length:Int) < (cells.length:Int):=Int.emod_lt_of_pos _ (by omega)
   obtain ⟨j,z,ek,hj,ha,hix⟩:=wj q0 q1
   refine ⟨_,rfl,f,_,0, .ref c,rfl,rfl,SqL.of hf1,rfl,_,rfl,c,_,n%(cells.length:Int), .int z,rfl,rfl,SqL.of hc1,ha,?_⟩
   refine ⟨_,rfl,f,_,1, .int b,rfl,rfl,SqL.of hf1,rfl,rfl,_,rfl,?_⟩
   refine ite2 (fun _=> ?_) (fun _=> ?_)
   · refine ⟨_,rfl,_,rfl,z,m,rfl,rfl,⟨m0,mB⟩,_,rfl,f,_,0, .ref c,rfl,rfl,SqL.of hf1,rfl,_,rfl,c,_,n%(cells.length:Int),j,rfl,rfl,hc1,hix,?_⟩
     refine ⟨_,rfl,_,rfl,z,m,rfl,rfl,m0,?_⟩
     refine k _ _ (Int.emod_nonneg _ (by omega)) (Int.emod_lt_of_pos _ m0) ⟨cells.set j (z / m),b,n+1,?_,?_,?_,?_,nfc⟩ (k1.trans fun x _ h2=>ak h2)
     · rw [ak nfc]
       exact hf1
     · rw [List.map_set]
       exact ac
     · rw [List.length_set]
       exact l0
     · rw [List.length_set]
       exact l63
   · refine ⟨_,rfl,_,rfl,31,n,rfl,rfl, .inl ⟨by decide,by decide⟩,z,31*n,rfl,rfl,_,48271,rfl,rfl, .inr ⟨by decide,by decide⟩,_,2147483647,rfl,rfl,(by show (0:Int) < 2147483647;decide),_,69621,rfl,rfl, .inr ⟨by decide,by decide⟩,_,2147483629,rfl,rfl,(by show (0:Int) < 2147483629;decide),_,rfl,_,m,rfl,rfl,m0,?_⟩
     exact k _ _ (Int.emod_nonneg _ (by omega)) (Int.emod_lt_of_pos _ m0) ⟨cells,b,n+1,hf1,hc1,l0,l63,nfc⟩ k1
end
end K12
namespace L2
open PySem PySem.Spec PyProof.Rows
section
variable {X:Cx}
def rS0 (f:Str→V):V→List V→Hp→VK→Prop:=fun x vs H Q=>∃z,x= .str z∧vs= []∧Q (f z) H
def rS1 (C:Str→Str→Prop) (f:Str→Str→V):V→List V→Hp→VK→Prop:=fun x vs H Q=>∃z y,x= .str z∧vs= [.str y]∧C z y∧Q (f z y) H
theorem gZ:MtM X "str.isascii" (rS0 fun z=> .bl (Txt.isascii z)):=by
 intro pins s σ H x vs v us Q I rx rv h
 obtain ⟨z,rfl,rfl,q⟩:=h
 obtain ⟨t,rfl⟩:=rx
 cases rv
 exact SC.isascii ⟨.bl _,H,I,rfl,q⟩
theorem lL:MtM X "str.isdigit" (rS0 fun z=> .bl (Txt.isdigit z)):=by
 intro pins s σ H x vs v us Q I rx rv h
 obtain ⟨z,rfl,rfl,q⟩:=h
 obtain ⟨t,rfl⟩:=rx
 cases rv
 exact SC.isdigit ⟨.bl _,H,I,rfl,q⟩
theorem iI:MtM X "str.startswith" (rS1 (fun _ _=>True) fun z y=> .bl (Txt.startswith z y)):=by
 intro pins s σ H x vs v us Q I rx rv h
 obtain ⟨z,y,rfl,rfl,_,q⟩:=h
 obtain ⟨t,rfl⟩:=rx
 obtain ⟨u,rfl,ru⟩:=rv.one
 obtain ⟨t',rfl⟩:=ru
 exact SC.startswith ⟨.bl _,H,I,rfl,q⟩
theorem fZ:MtM X "str.removeprefix" (rS1 (fun z _=>z.length≤sizeLine) fun z y=> .str (Txt.removeprefix z y)):=by
 intro pins s σ H x vs v us Q I rx rv h
 obtain ⟨z,y,rfl,rfl,hz,q⟩:=h
 obtain ⟨t,rfl⟩:=rx
 obtain ⟨u,rfl,ru⟩:=rv.one
 obtain ⟨t',rfl⟩:=ru
 exact SC.removeprefix (fun t' k=>⟨.str _,H,I.tok k,⟨_,rfl⟩,q⟩) hz
def rZf:V→List V→Hp→VK→Prop:=fun x vs H Q=>∃z i,x= .str z∧vs= [.int i]∧PadOk i=true∧Q (.str (Txt.zfill z i)) H
theorem re:MtM X "str.zfill" rZf:=by
 intro pins s σ H x vs v us Q I rx rv h
 obtain ⟨z,i,rfl,rfl,hp,q⟩:=h
 obtain ⟨t,rfl⟩:=rx
 obtain ⟨u,rfl,ru⟩:=rv.one
 obtain ⟨t',rfl⟩:=ru
 exact SC.zfill hp (fun t' k=>⟨.str _,H,I.tok k,⟨_,rfl⟩,q⟩)
theorem iR:cG X (.type "int") (fun xs H Q=>∃z n,xs= [.str z]∧PySem.intText? z=some n∧z.length≤640∧Q (.int n) H):=by
 intro pins s σ H xs us Q I r h
 obtain ⟨z,n,rfl,hn,hl,q⟩:=h
 obtain ⟨u,rfl,ru⟩:=e7 r
 obtain ⟨t,rfl⟩:=ru
 exact PySem.W.KIN.call_text hn hl ⟨.int n,H,I.tok _,⟨_,rfl⟩,q⟩
noncomputable def aV (x y:Str):Str×Str×Str:=match Builtin.Str.occurrences x y 0 x.length 1 with
 |i::_=>(Builtin.Str.strSub x 0 i,y,Builtin.Str.strSub x (i+y.length) x.length)
 | []=>(x,Str.empty,Str.empty)
def wX:V→List V→Hp→VK→Prop:=fun x vs H Q=>∃z y,x= .str z∧vs= [.str y]∧(y.length==0)=false∧z.length≤sizeLine∧∀p,H p=none→Q (.ref p) (upd H p (.tup [.str (aV z y).1, .str (aV z y).2.1, .str (aV z y).2.2]))
theorem js:MtM X "str.partition" wX:=by
 intro pins s σ H x vs v us Q I rx rv h
 obtain ⟨z,y,rfl,rfl,hy,hz,q⟩:=h
 obtain ⟨t,rfl⟩:=rx
 obtain ⟨u,rfl,ru⟩:=rv.one
 obtain ⟨t',rfl⟩:=ru
 refine call_meets PySem.F.slot_str_partition (typeIs_str _ _ _) PySem.F.entry_str_partition (PySem.F.args_str_partition_2 _ _) (meets_str_partition z y t t' hy hz) ?_
 have q:=q s.heap.objs.size (I.hok.fresh (Nat.le_refl _))
 unfold aV at q
 cases e:Builtin.Str.occurrences z y 0 z.length 1 with
 |cons i r=>
  rw [e] at q
  refine ⟨.ref s.heap.objs.size,_,I.laid (t':=s.toks+1+1) (fun b u e=>Heap.get?_push_of_some _ e) (Nat.le_refl _) ?_,rfl,q⟩
  exact ⟨by show 3≤sizeLine;decide,[_,_,_], .cons ⟨_,rfl⟩ (.cons ⟨_,rfl⟩ (.cons ⟨_,rfl⟩ .nil)),⟨_,Heap.get?_push_size _ rfl,rfl,_,rfl⟩⟩
 |nil=>
  rw [e] at q
  refine ⟨.ref s.heap.objs.size,_,I.laid (t':=s.toks+1) (fun b u e=>Heap.get?_push_of_some _ e) (Nat.le_refl _) ?_,rfl,q⟩
  exact ⟨by show 3≤sizeLine;decide,[_,_,_], .cons ⟨_,rfl⟩ (.cons ⟨_,rfl⟩ (.cons ⟨_,rfl⟩ .nil)),⟨_,Heap.get?_push_size _ rfl,rfl,_,rfl⟩⟩
noncomputable def jr (x y:Str):Bool:=(decide (x.length < y.length) ||decide (Builtin.Str.strKind x < Builtin.Str.strKind y)) ||(Builtin.Str.occurrences x y 0 x.length (x.length+1)).isEmpty
noncomputable def bu (x y:Str):List Str:=if jr x y=true then [x] else Builtin.Str.partsBetween x (Builtin.Str.occurrences x y 0 x.length (x.length+1)) y.length
theorem e6:∀(tk:Nat) (ys:List Str),Vals (ys.map V.str) (strsFrom tk ys)
 |_,[]=> .nil
 |tk,y::ys=> .cons ⟨tk,rfl⟩ (e6 (tk+1) ys)
def uV:V→List V→Hp→VK→Prop:=fun x vs H Q=>∃z y,x= .str z∧vs= [.str y]∧(y.length==0)=false∧z.length≤sizeLine∧(bu z y).length≤sizeLine∧∀p,H p=none→Q (.ref p) (upd H p (.lst ((bu z y).map V.str)))
theorem rg:MtM X "str.split" uV:=by
 intro pins s σ H x vs v us Q I rx rv h
 obtain ⟨z,y,rfl,rfl,hy,hz,hn,q⟩:=h
 obtain ⟨t,rfl⟩:=rx
 obtain ⟨u,rfl,ru⟩:=rv.one
 obtain ⟨t',rfl⟩:=ru
 have q:=q s.heap.objs.size (I.hok.fresh (Nat.le_refl _))
 unfold bu jr at q hn
 cases h1:(decide (z.length < y.length) ||decide (Builtin.Str.strKind z < Builtin.Str.strKind y)) with
 |true=>
  rw [h1,Bool.true_or,if_pos rfl] at q
  refine call_meets PySem.F.slot_str_split (typeIs_str _ _ _) PySem.F.entry_str_split (PySem.F.args_str_split_2 _ _) (meets_str_split_cannot_occur z y t t' h1) ?_
  refine ⟨.ref s.heap.objs.size,_,I.laid (t':=s.toks) (fun b u e=>Heap.get?_push_of_some _ e) (Nat.le_refl _) ?_,rfl,q⟩
  exact ⟨by show 1≤sizeLine;decide,[_],0, .cons ⟨_,rfl⟩ .nil,Heap.get?_push_size _ rfl⟩
 |false=>
  rw [h1,Bool.false_or] at q hn
  cases e:(Builtin.Str.occurrences z y 0 z.length (z.length+1)).isEmpty with
  |true=>
   rw [e,if_pos rfl] at q
   refine call_meets PySem.F.slot_str_split (typeIs_str _ _ _) PySem.F.entry_str_split (PySem.F.args_str_split_2 _ _) (meets_str_split_not_found z y t t' h1 hy e) ?_
   refine ⟨.ref s.heap.objs.size,_,I.laid (t':=s.toks) (fun b u e=>Heap.get?_push_of_some _ e) (Nat.le_refl _) ?_,rfl,q⟩
   exact ⟨by show 1≤sizeLine;decide,[_],0, .cons ⟨_,rfl⟩ .nil,Heap.get?_push_size _ rfl⟩
  |false=>
   rw [e,if_neg Bool.false_ne_true] at q hn
   refine call_meets PySem.F.slot_str_split (typeIs_str _ _ _) PySem.F.entry_str_split (PySem.F.args_str_split_2 _ _) (meets_str_split_sep z y t t' h1 hy e hz hn) ?_
   refine ⟨.ref s.heap.objs.size,_,I.laid (t':=_) (fun b u e=>Heap.get?_push_of_some _ e) (Nat.le_refl _) ?_,rfl,q⟩
   exact ⟨by rw [List.length_map];exact hn,_,0,e6 _ _,Heap.get?_push_size _ rfl⟩
end
open PySem PySem.Spec PyProof.Rows
def ItR (lo c:Int) (n:Nat):It:=⟨fun i _=>i < n,fun i H x H'=>H'=H∧x= .int (lo+(i:Nat)*c),fun i _=>n≤i⟩
theorem jM {P:Program} {w:World} {K:PySem.W.Frag} {tg:Expr} (it:Addr) (lo c:Int) (n:Nat):Turn P w K tg (ItR lo c n) [it] it (fun i h=>IsRangeIter h it (lo+(i:Nat)*c) ((n:Int) - (i:Nat)) c) where
 mem:=by simp
 obj:=fun i h st b hb=>by
  have e:b=it:=by simpa using hb
  subst e
  exact ⟨_,st,fun v z=>by
   have z':Data.fields _=Data.cell v:=z
   cases z'⟩
 keep:=fun i h h' st k=>k it (by simp) _ st
 item:=by
  intro X hP hw hK hc i pins s σ H E I hf st hg
  subst hP hw hK
  obtain ⟨f0,f1,f2,f3,f4,f5⟩:=hf it (by simp)
  refine (Walks.range (prog:=X.prog) (w:=X.w) (I.ok.hd hc) it lo c n).item i s _ _ hg st fun v h' tk hv st' kk=> ?_
  obtain ⟨t,rfl⟩:=hv
  have I1:Inv X pins σ H {s with heap:=h',toks:=tk}:=I.turned (fun b o hb e=>kk b o (by simpa using hb) e) f0 f1 f3 f4 f5
  exact ⟨_,rfl,nM (s:= {s with heap:=h',toks:=tk}) (n:="range_iterator") st' rfl rfl (by decide) ⟨.int (lo+i*c),H,I1,⟨t,rfl⟩,⟨rfl,rfl⟩,st',fun b hb=>(hf b hb).1⟩⟩
 done:=by
  intro X hP hw hK hc i pins s σ H E I hf st hg
  subst hP hw hK
  obtain ⟨f0,f1,f2,f3,f4,f5⟩:=hf it (by simp)
  exact wpAny_pyNext_range_end (I.ok.hd hc) st (by have:n≤i:=hg;omega) fun h' eb=>⟨rfl,I.turned (t':=s.toks) (fun b o hb e=>eb b o hb e) f0 f1 f3 f4 f5⟩
 self:=fun _ _ _ _ _ st h=>wpAny_pyIter_rangeiter st h
section
variable {X:Cx} {tg:Expr}
def xr (ta:TA):TI:=fun σ H R=>ta σ H fun vs H1=>∃(lo hi c:Int) (n:Nat),vs= [.int lo, .int hi, .int c]∧0 < c∧Builtin.Range.small lo hi c=true∧Builtin.divisionGoesByPylong (hi - lo) c=false∧Builtin.Range.rangeSize lo hi c=(n:Int)∧R (ItR lo c n) H1
theorem iG {a b c:Expr} {ta:TA} {p pos:Pos} (hg:Gl X "range") (hm:X.mg "range"=none) (ha:PA X [a,b,c] ta) (hs:starEach [a,b,c] X.env= [(false,eval a X.env),(false,eval b X.env),(false,eval c X.env)]:=by rfl)
 (hs2:starEach [b,c] X.env= [(false,eval b X.env),(false,eval c X.env)]:=by rfl):PI X tg (.Call (.Name "range" p) [a,b,c] [] pos) (xr ta):=by
 intro pins s σ H R I h
 refine Call_ (eD I hg hm boot_range (PyProof.Rows.callWith_type1 (thn (ha pos pins s σ H _ I h) fun us s1 ⟨vs,H1,I1,r1,q1⟩=> ?_) (by rw [hs,hs2]) (by rw [hs2];rfl)))
 obtain ⟨lo,hi,cc,n,e,c0,sm,dv,hn,q⟩:=q1
 subst e
 cases r1 with
 |cons r rr=>
  cases rr with
  |cons r' rr=>
   cases rr with
   |cons r'' rr=>
    cases rr
    obtain ⟨t,rfl⟩:=r
    obtain ⟨t',rfl⟩:=r'
    obtain ⟨t'',rfl⟩:=r''
    refine PySem.call_range_3 (by omega) ?_ (.inl dv)
    refine wpAny_pyIter_range (IsRange.new ..) sm ?_
    have I2:Inv X pins σ H1 {s1 with heap:=s1.heap.push {cls:= .type "range",data:= .fields #[.int lo t, .int hi t', .int cc t'']}}:=I1.kept (t':=s1.toks) fun b o e=>Heap.get?_push_of_some _ e
    refine ⟨(s1.heap.push {cls:= .type "range",data:= .fields #[.int lo t, .int hi t', .int cc t'']}).objs.size,[(s1.heap.push {cls:= .type "range",data:= .fields #[.int lo t, .int hi t', .int cc t'']}).objs.size],_,_,H1,rfl,
     I2.kept (t':=s1.toks) fun b o e=>Heap.get?_push_of_some _ e,jM _ lo cc n,?_,fun b hb=> ?_,q⟩
    · have e1:lo+((0:Nat):Int)*cc=lo:=by simp
      have e2:((n:Nat):Int) - ((0:Nat):Int)=Builtin.Range.rangeSize lo hi cc:=by rw [hn];simp
      show IsRangeIter _ _ (lo+((0:Nat):Int)*cc) (((n:Nat):Int) - ((0:Nat):Int)) cc
      rw [e1,e2]
      exact Heap.get?_push_size _ rfl
    · have e:b=(s1.heap.push {cls:= .type "range",data:= .fields #[.int lo t, .int hi t', .int cc t'']}).objs.size:=by simpa using hb
      subst e
      exact I2.fpOk (Nat.le_refl _) (I2.hok.fresh (Nat.le_refl _))
end
theorem lY {lo c:Int} {n:Nat} {g:TG} {tb:TS} {D:Ends} {σ:L2.St} {H:Hp} (Pv:Nat→L2.St→Hp→Prop) (h0:Pv 0 σ H)
 (hs:∀i σ H,i < n→Pv i σ H→g (.int (lo+(i:Nat)*c)) σ H fun σ2 H2=>tb {D with nx:=Pv (i+1),ct:=Pv (i+1),bk:=D.nx} σ2 H2) (hd:∀σ H,Pv n σ H→D.nx σ H):
 ∃W:Nat→Nat→L2.St→Hp→Prop,(∃m,W 0 m σ H)∧∀i m σ H,W i m σ H→
  ((ItR lo c n).stop i H∧D.nx σ H)∨((ItR lo c n).go i H∧∃N:L2.St→Hp→Prop,(∀σ' H',N σ' H'→∃m',m' < m∧W (i+1) m' σ' H')∧∀x H',(ItR lo c n).yld i H x H'→g x σ H' fun σ2 H2=>tb {D with nx:=N,ct:=N,bk:=D.nx} σ2 H2):=by
 refine ⟨fun i m σ H=>m=n - i∧i≤n∧Pv i σ H,⟨n,by simp,Nat.zero_le _,h0⟩,?_⟩
 rintro i m σ H ⟨rfl,hi,p⟩
 by_cases hlt:i < n
 · refine .inr ⟨hlt,Pv (i+1),fun σ' H' p'=>⟨n - (i+1),by omega,rfl,hlt,p'⟩,fun x H' y=> ?_⟩
   obtain ⟨e,y⟩:=y
   subst e y
   exact hs i σ _ hlt p
 · have e:i=n:=by omega
   subst e
   exact .inl ⟨Nat.le_refl _,hd σ H p⟩
section
variable {X:Cx} {tg:Expr}
end
open PySem PySem.Spec PyProof.Rows
theorem ou:typeLookup (.type "list_reverseiterator") "__len__"=pure none:=by rw [typeLookup_type,builtinLookup_eq_fast];kernel_rfl
theorem rH:typeLookup (.type "list_reverseiterator") "__length_hint__"=pure (some (.builtin "list_reverseiterator.__length_hint__")):=by rw [typeLookup_type,builtinLookup_eq_fast];kernel_rfl
section
variable {prog:Program} {w:World} {A:Around} {E:Value→Shared→Prop} {s:Shared}
theorem kO {I l:Addr} {items:Array Value} {Q:List Value→Shared→Prop} (hh:A.handled=none) (hne:l≠I) (hit:s.heap.IsRevIter I l ((items.size:Int) - 1)) (hl:s.heap.IsList l items) (hn:items.size≤sizeLine)
 (hQ:∀s' acc,Moved [I] (fun a b=>b=a) s s'→ItemsOf (fun i v=>items[items.size - 1 - i]?=some v) acc items.size→Q acc.toList s'):wpAny (model prog w) A (collect (.ref I)) Q E s:=by
 have W:=(Walks.listRev (prog:=prog) (w:=w) (A:=A.in1) hh I l hne items).toS
 have ltI:I < s.heap.objs.size:=by obtain ⟨o,e,_⟩:=hit;exact Heap.lt_size e
 have ltl:l < s.heap.objs.size:=by obtain ⟨o,e,_⟩:=hl;exact Heap.lt_size e
 have st0:0≤items.size∧s.heap.IsRevIter I l ((items.size:Int) - 1 - ((0:Nat):Int))∧s.heap.IsList l items:=⟨Nat.zero_le _,by simpa using hit,hl⟩
 have new:∀b∈ [I,l],b≠s.heap.objs.size:=fun b hb=>by
  rcases List.mem_cons.mp hb with rfl|hb
  · exact Nat.ne_of_lt ltI
  · rw [List.mem_singleton.mp hb]
    exact Nat.ne_of_lt ltl
 unfold collect
 refine wpAny_bind (wpAny_runValue (codeAny_builtin PySem.F.entry_proto_collect ?_))
 rw [Around.under_plainId PySem.F.plain_proto_collect _]
 show wpAny _ A.in1 (newList [] >>=fun x=>again (.builtin "list.__iadd__" ⟨[x, .ref I],[]⟩)) _ _ s
 refine wpAny_bind (wpAny_newObj_type ?_)
 refine wpAny_pure ⟨plainId_quiet PySem.F.plain_list_iadd _,codeAny_builtin PySem.F.entry_list_iadd ?_⟩
 rw [Around.under_plainId PySem.F.plain_list_iadd _]
 generalize hs1:({s with heap:=s.heap.push {cls:= .type "list",data:= .seq ([]:List Value).toArray}}:Shared)=s1
 have st1:0≤items.size∧s1.heap.IsRevIter I l ((items.size:Int) - 1 - ((0:Nat):Int))∧s1.heap.IsList l items:=by
  subst hs1
  exact ⟨Nat.zero_le _,st0.2.1.at fun o e=>Heap.get?_push_of_some _ e,st0.2.2.at fun o e=>Heap.get?_push_of_some _ e⟩
 have hT:s1.TypeIs (.ref I) "list_reverseiterator":=st1.2.1.typeIs
 have h1:Builtin.List.listSameRef (.ref s.heap.objs.size) (.ref I)=false:=by simp [Builtin.List.listSameRef,(Nat.ne_of_lt ltI).symm]
 show wpAny _ A.in1 (Builtin.List.listExtendWith (.ref s.heap.objs.size) (.ref I) (.ref s.heap.objs.size)) _ _ s1
 unfold Builtin.List.listExtendWith
 refine wpAny_bind (wpAny_typeOf hT ?_)
 rw [if_neg (by rw [h1];decide)]
 refine wpAny_bind (wpAny_pyIter_revIter st1.2.1 ?_)
 refine wpAny_bind (wpAny_holding ?_)
 unfold Builtin.List.listLengthHint
 refine wpAny_bind (wpAny_specialOf hT ou ?_)
 show wpAny _ A.in1 (specialOf (Value.ref I) (Str.ofString "__length_hint__") >>=_) _ _ _
 refine wpAny_bind (wpAny_specialOf hT rH ?_)
 generalize hid:("list_reverseiterator.__length_hint__":String)=nm
 (fail_if_success (clear hid nm))
 wp_delta
 rw [show splitId nm=some ("list_reverseiterator","__length_hint__") by subst hid;decide +kernel]
 subst hid
 refine wpAny_bind (wpAny_isInstance (b:=true) hT (by rw [isSubtype_type];kernel_rfl) ?_)
 refine wpAny_pure ?_
 rw [if_neg (by decide)]
 have hS1:s1.heap.get? s.heap.objs.size=some {cls:= .type "list",data:= .seq ([]:List Value).toArray}:=by
  subst hs1
  exact Heap.get?_push_size _ rfl
 refine wpAny_pure ⟨plainId_quiet PySem.F.plain_extend_loop _,codeAny_extend_loopS W hn _ (fun m=>new _ m rfl) _ items.size 0 _ _ _ rfl (Nat.zero_le _) st1 hS1 (ItemsOf.nil _) fun s' acc c' hm hS' hacc=> ?_⟩
 show wpAny _ A (load s.heap.objs.size >>=_) _ _ s'
 refine wpAny_bind (wpAny_load hS' ?_)
 refine wpAny_pure (hQ s' acc ?_ hacc)
 subst hs1
 exact Moved.drop_new (o:= {cls:= .type "list",data:= .seq ([]:List Value).toArray}) (tk:=s.toks) hm (Nat.le_refl _)
end
section
variable {X:Cx}
theorem om {items acc:Array Value} {ys:List Str} (r:Vals (ys.map V.str) items.toList) (h:ItemsOf (fun i v=>items[items.size - 1 - i]?=some v) acc items.size):∃l:List (Str×Tok),strValues l=acc.toList∧l.map (·.1)=ys.reverse:=by
 have e:acc.toList=items.toList.reverse:=by
  refine List.ext_getElem? fun j=> ?_
  by_cases hj:j < items.size
  · have hj':j < acc.size:=by rw [h.1];exact hj
    have:=h.2 j _ (Array.getElem?_eq_getElem hj')
    rw [Array.getElem?_toList,Array.getElem?_eq_getElem hj',←this,List.getElem?_reverse (by simpa using hj),Array.getElem?_toList,Array.length_toList]
  · rw [List.getElem?_eq_none (by rw [Array.length_toList,h.1];omega),List.getElem?_eq_none (by rw [List.length_reverse,Array.length_toList];omega)]
 rw [e]
 generalize items.toList=us at r
 clear e h
 induction ys generalizing us with
 |nil=>cases r;exact ⟨[],rfl,rfl⟩
 |cons y ys ih=>
  rw [List.map_cons] at r
  cases r with
  |cons r1 r2=>
   obtain ⟨t,rfl⟩:=r1
   obtain ⟨l,e1,e2⟩:=ih _ r2
   refine ⟨l++ [(y,t)],?_,?_⟩
   · rw [List.reverse_cons,←e1]
     unfold strValues
     rw [List.map_append]
     rfl
   · rw [List.map_append,e2,List.reverse_cons]
     rfl
theorem rC (hc:X.calm=true) {pins:List (Addr×Obj)} {σ:L2.St} {H:Hp} {s:Shared} {Q:VK} {sep:Str} {t:Tok} {p l:Addr} {ys:List Str} (I:Inv X pins σ H s) (fp:FpOk X pins H p) (hl:H l=some (.lst (ys.map V.str)))
 (hit:s.heap.IsRevIter p l ((ys.length:Int) - 1)) (hz:(ys.map (·.length)).sum+ys.length*sep.length≤16777216) (q:Q (.str (Txt.join sep ys.reverse)) H):
 wpAny (model X.prog X.w) X.A (call (.builtin "str.join") [.str sep t, .ref p]) (EP X pins σ Q) X.xe s:=by
 obtain ⟨f0,f1,f2,f3,f4,f5⟩:=fp
 obtain ⟨its,r,pl,hsz⟩:=I.list (SqL.of hl)
 have hne:l≠p:=fun e=>by rw [e,f0] at hl;cases hl
 have e:its.toArray.size=ys.length:=by rw [List.size_toArray,←r.length,List.length_map]
 have hit':s.heap.IsRevIter p l ((its.toArray.size:Int) - 1):=by rw [e];exact hit
 have hn:ys.length≤sizeLine:=by
  have:=(show ObjOk X.prog X.w H s.heap l (.lst (ys.map V.str)) from I.hok l _ hl).1
  rw [List.length_map] at this
  exact this
 refine wpAny_call (codeAny_call_builtin PySem.F.slot_str_join.plain PySem.F.entry_str_join (PySem.F.slot_str_join.check _ _ _ _ _ _ _ _ (typeIs_str _ _ _) (PySem.F.args_str_join_2 _ _) ?_))
 rw [join_tree_other]
 refine wpAny_bind (wpAny_typeOf hit.typeIs ?_)
 show wpAny _ X.A.in1 ((pyIter (.ref p)).tryCatch _ >>=fun it=>collect it >>=fun items=>_) _ _ s
 refine wpAny_bind (wpAny_tryCatch (wpAny_pyIter_revIter hit ?_))
 refine wpAny_bind (kO (I.ok.hd hc) hne hit' pl.isList (by rw [e];exact hn) fun s' acc hm hacc=> ?_)
 obtain ⟨pr,e1,e2⟩:=om (items:=its.toArray) (by simpa using r) hacc
 rw [←e1]
 have hok:JoinOk sep (pr.map (·.1))=true:=by
  rw [e2]
  refine joinOk_of ?_
  rw [List.map_reverse,List.sum_reverse,List.length_reverse]
  exact hz
 unfold JoinOk at hok
 rw [Bool.not_eq_true'] at hok
 have g:Gives (PySem.joinTail sep (strValues pr)) (joinMade sep pr):=by
  have g0:=gives_joinTail sep pr hok
  cases pr with
  |nil=>exact g0
  |cons a b=>cases b with
   |nil=>exact g0
   |cons c d=>exact g0
 refine g X.prog X.w X.A (wants (EP X pins σ Q) X.xe) s' (post_join pr ⟨joinFit_length hok,fun t' k=> ?_⟩)
 rw [e2]
 have I2:Inv X pins σ H {s with heap:=s'.heap,toks:=k}:=I.turned (fun b o hb e=>hm.heap b o (by simpa using hb) e) f0 f1 f3 f4 f5
 have es:({s' with toks:=k}:Shared)= {s with heap:=s'.heap,toks:=k}:=by
  rw [show s'.gens=s.gens from hm.gens,hm.drawn,hm.os]
 rw [es]
 exact ⟨.str _,H,I2,⟨_,rfl⟩,q⟩
def tJR (sep:Str) (te:TE):TE:=fun σ H Q=>te σ H fun x H1=>∃(l:Addr) (ys:List Str),x= .ref l∧H1 l=some (.lst (ys.map V.str))∧(ys.map (·.length)).sum+ys.length*sep.length≤16777216∧Q (.str (Txt.join sep ys.reverse)) H1
theorem ss:bootBuiltins "reversed"=some (.type "reversed"):=by decide +kernel
theorem qz {sep:Str} {e:Expr} {te:TE} {j:Nat} {p0 p1 pos apos cpos:Pos} (hc:X.calm=true) (hg:Gl X "reversed") (hm:X.mg "reversed"=none) (he:PE X e te)
 (hbase:attributeBase (.Constant (.str sep) j p0) "join" X.env (eval (.Constant (.str sep) j p0) X.env)=eval (.Constant (.str sep) j p0) X.env:=by rfl)
 (hfew:((backTo cpos (starEach [.Call (.Name "reversed" p1) [e] [] pos] X.env)).all (fun x=> !x.1)&& (backToKw cpos (keywordEach [] X.env)).all (fun x=>x.1.isSome)
  &&decide ([Expr.Call (.Name "reversed" p1) [e] [] pos].length+([]:List Keyword).length+(if ([]:List Keyword).isEmpty then 0 else 1) < 30))=true:=by rfl)
 (hline:(apos.endLine==cpos.line)=true:=by rfl) (hs:starEach [.Call (.Name "reversed" p1) [e] [] pos] X.env= [(false,eval (.Call (.Name "reversed" p1) [e] [] pos) X.env)]:=by rfl)
 (hs2:starEach [e] X.env= [(false,eval e X.env)]:=by rfl):
 PE X (.Call (.Attribute (.Constant (.str sep) j p0) "join" apos) [.Call (.Name "reversed" p1) [e] [] pos] [] cpos) (tJR sep te):=by
 intro pins s σ H Q I h
 refine wpAny_Call_method_late hbase hfew hline rfl (thn ((ai (X:=X)) pins s σ H (fun x H1=>x= .str sep∧H1=H) I ⟨rfl,rfl⟩) fun v s1 ⟨x,H1,I1,r1,ex,eH⟩=> ?_)
 subst ex eH
 obtain ⟨t,rfl⟩:=r1
 refine ⟨"str","str.join",PySem.F.plainAttrs_str,PySem.F.slot_str_join,PySem.F.type_str_join,typeIs_str _ _ _,fun a ea=>(by cases ea),?_⟩
 rw [hs]
 refine Calls.callWith_builtin rfl (Calls.evalArgs_plain ?_)
 show wpAny _ _ (spliced [(false,eval (.Call (.Name "reversed" p1) [e] [] pos) X.env)]) _ _ s1
 refine Calls.spliced_cons ?_
 refine wpAny_Call_Name_kw (eD I1 hg hm ss ?_ (by decide) (by decide))
 refine PyProof.Rows.callWith_type1 (thn ((a7 he a9 hs2) pos pins s1 σ H1 (fun vs H2=>match vs with| [x]=>∃(l:Addr) (ys:List Str),x= .ref l∧H2 l=some (.lst (ys.map V.str))∧(ys.map (·.length)).sum+ys.length*sep.length≤16777216∧Q (.str (Txt.join sep ys.reverse)) H2|_=>False) I1 h) fun us s2 ⟨vs,H2,I2,r2,q2⟩=> ?_) hs2 rfl
 match vs,r2,q2 with
 | [_],r2,⟨l,ys,ex,hl,hz,q⟩=>
  subst ex
  obtain ⟨u,rfl,ru⟩:=r2.one
  cases ru
  obtain ⟨its,rv,pl,_⟩:=I2.list (SqL.of hl)
  have el:its.toArray.size=ys.length:=by rw [List.size_toArray,←rv.length,List.length_map]
  refine call_reversed_list pl.isList ?_
  refine Calls.spliced_nil ?_
  rw [el]
  have I3:Inv X pins σ H2 {s2 with heap:=s2.heap.push (revObj l ((ys.length:Int) - 1))}:=I2.kept (t':=s2.toks) fun b o e=>Heap.get?_push_of_some _ e
  exact rC hc I3 (I2.fpOk (Nat.le_refl _) (I2.hok.fresh (Nat.le_refl _))) hl ⟨_,Heap.get?_push_size _ rfl,rfl,rfl⟩ hz q
end
end L2
namespace Dec
open PySem PySem.NumText
def cl (x:Str):List Nat:=x.cps.toList
theorem aO (x y:Str):cl (x++y)=cl x++cl y:=by
 show (x.cps++y.cps).toList=_
 simp [cl]
theorem sk {x y:Str} (h:cl x=cl y):x=y:=by
 cases x
 cases y
 simp only [Str.mk.injEq]
 exact Array.toList_inj.mp h
theorem ax (x:Str):(cl x).length=x.length:=by simp [cl,Str.length]
noncomputable def ds (n:Nat):List Nat:=(Nat.toDigits 10 n).map Char.toNat
theorem m9:∀d:Nat,d < 10→(Nat.digitChar d).toNat=48+d:=by decide
theorem i6 {n:Nat} (h:n < 10):ds n= [48+n]:=by
 unfold ds
 rw [Nat.toDigits_of_lt_base h]
 show [(Nat.digitChar n).toNat]=_
 rw [m9 n h]
theorem eZ {n:Nat} (h:10≤n):ds n=ds (n / 10)++ [48+n%10]:=by
 have hm:n%10 < 10:=Nat.mod_lt n (by decide)
 have t:Nat.toDigits 10 (n / 10)++Nat.toDigits 10 (n%10)=Nat.toDigits 10 (10*(n / 10)+n%10):=Nat.toDigits_append_toDigits (by decide) (by omega) hm
 rw [Nat.div_add_mod] at t
 have e:=i6 hm
 unfold ds at e ⊢
 rw [←t,List.map_append,e]
theorem rR (n:Nat):digitsVal (ds n)=n:=PySem.W.KIN.val_back n
theorem i7:∀n:Nat,AllDigits (ds n):=by
 intro n
 induction n using Nat.strongRecOn with
 |_ n ih=>
  by_cases h:n < 10
  · rw [i6 h]
    intro c m
    rw [List.mem_singleton.mp m]
    omega
  · rw [eZ (by omega)]
    intro c m
    rcases List.mem_append.mp m with m|m
    · exact ih (n / 10) (by omega) c m
    · rw [List.mem_singleton.mp m]
      omega
theorem rS (n:Nat):ds n≠ []:=by
 by_cases h:n < 10
 · rw [i6 h]
   simp
 · rw [eZ (by omega)]
   simp
theorem cP:∀(k:Nat) {n:Nat},n < 10^(k+1)→(ds n).length≤k+1
 |0,n,h=>by rw [i6 (by simpa using h)];simp
 |k+1,n,h=>by
  by_cases q:n < 10
  · rw [i6 q]
    simp
  · rw [eZ (by omega),List.length_append]
    have:=cP k (n:=n / 10) (by rw [Nat.pow_succ] at h;omega)
    simp only [List.length_cons,List.length_nil]
    omega
theorem i4:∀(b:List Nat) (a:Nat),b.foldl (fun acc c=>acc*10+(c - 48)) a=a*10^b.length+digitsVal b
 | [],a=>by simp [digitsVal]
 |c::b,a=>by
  unfold digitsVal
  simp only [List.foldl_cons,List.length_cons]
  rw [i4 b (a*10+(c - 48)),i4 b (0*10+(c - 48)),Nat.pow_succ]
  rw [Nat.add_mul,Nat.add_mul,Nat.mul_assoc,Nat.mul_comm 10]
  omega
theorem mh (a b:List Nat):digitsVal (a++b)=digitsVal a*10^b.length+digitsVal b:=by
 unfold digitsVal
 rw [List.foldl_append]
 exact i4 b _
theorem l8:∀ {l:List Nat},AllDigits l→digitsVal l < 10^l.length
 | [],_=>by simp [digitsVal]
 |c::l,h=>by
  have e:=mh [c] l
  have h1:=l8 h.tail
  have h2:=h.head
  have e2:digitsVal [c]=c - 48:=by simp [digitsVal]
  rw [List.singleton_append,e2] at e
  rw [e,List.length_cons,Nat.pow_succ]
  have:(c - 48)*10^l.length≤9*10^l.length:=Nat.mul_le_mul_right _ (by omega)
  omega
noncomputable def pad:Nat→Nat→List Nat
 |0,_=> []
 |k+1,r=>pad k (r / 10)++ [48+r%10]
theorem ng:∀k r,(pad k r).length=k
 |0,_=>rfl
 |k+1,r=>by simp [pad,ng k]
theorem jY:∀k,pad k 0=List.replicate k 48
 |0=>rfl
 |k+1=>by
  show pad k (0 / 10)++ [48+0%10]=_
  rw [Nat.zero_div,jY k,List.replicate_succ']
theorem rT {q:Nat} (hq:0 < q):∀(k:Nat) {r:Nat},r < 10^k→ds (q*10^k+r)=ds q++pad k r
 |0,r,h=>by
  have:r=0:=by simpa using h
  subst this
  simp [pad]
 |k+1,r,h=>by
  have e:q*10^(k+1)+r=10*(q*10^k)+r:=by rw [Nat.pow_succ,←Nat.mul_assoc,Nat.mul_comm]
  have h10:10≤q*10^(k+1)+r:=by
   have:1≤q*10^k:=Nat.mul_pos hq (Nat.pow_pos (by decide))
   omega
  rw [eZ h10]
  have e1:(q*10^(k+1)+r) / 10=q*10^k+r / 10:=by omega
  have e2:(q*10^(k+1)+r)%10=r%10:=by omega
  rw [e1,e2,rT hq k (r:=r / 10) (by rw [Nat.pow_succ] at h;omega)]
  simp [pad]
theorem zf:∀(k:Nat) {r:Nat},r < 10^(k+1)→List.replicate (k+1 - (ds r).length) 48++ds r=pad (k+1) r
 |0,r,h=>by
  have h:r < 10:=by simpa using h
  rw [i6 h]
  show [48+r]= [48+r%10]
  rw [Nat.mod_eq_of_lt h]
 |k+1,r,h=>by
  by_cases q:r < 10
  · rw [i6 q]
    show List.replicate (k+1+1 - 1) 48++ [48+r]=pad (k+1) (r / 10)++ [48+r%10]
    rw [Nat.mod_eq_of_lt q,Nat.div_eq_of_lt q,jY]
    rfl
  · rw [eZ (by omega)]
    have:=zf k (r:=r / 10) (by rw [Nat.pow_succ] at h;omega)
    show _=pad (k+1) (r / 10)++ [48+r%10]
    rw [←this,List.length_append]
    simp
open PySem PySem.NumText L2 Mth
theorem sf {z:Str} {r k:Nat} (h:cl z=ds r) (hr:r < 10^(k+1)):cl (Txt.zfill z ((k+1:Nat):Int))=pad (k+1) r:=by
 have hl:=cP k hr
 have hz:z.length=(ds r).length:=by rw [←ax,h]
 rw [←zf k hr]
 unfold Txt.zfill
 by_cases q:((k+1:Nat):Int)≤(z.length:Int)
 · rw [if_pos q,h,show k+1 - (ds r).length=0 by omega]
   rfl
 · rw [if_neg q]
   unfold zfilled
   have hd:∀c,z.cps[0]?=some c→48≤c∧c≤57:=fun c e=>by
    refine i7 r c ?_
    rw [←h]
    exact Array.mem_toList_iff.mpr (Array.mem_of_getElem? e)
   have hp:cl (Builtin.Str.padded z (((k+1:Nat):Int).toNat - z.length) 0 48)=List.replicate (k+1 - (ds r).length) 48++ds r:=by
    unfold Builtin.Str.padded cl
    simp only [Array.toList_append,Array.toList_replicate,List.replicate_zero,List.append_nil]
    rw [←hz,←h]
    rfl
   split
   · rename_i e
     have:=hd _ e
     omega
   · rename_i e
     have:=hd _ e
     omega
   · exact hp
theorem uD (c:Nat) (h:c < 128):Unicode.isDigit c=decide (48≤c∧c≤57):=by
 have:∀c,c < 128→Unicode.isDigit c=decide (48≤c∧c≤57):=by decide +kernel
 exact this c h
theorem u8 (z:Str):(Txt.isascii z=true∧Txt.isdigit z=true)↔(cl z≠ []∧AllDigits (cl z)):=by
 unfold Txt.isascii Txt.isdigit
 rw [Bool.and_eq_true,←Array.all_toList,←Array.all_toList,List.all_eq_true,List.all_eq_true]
 have hl:(decide (z.length > 0)=true)↔cl z≠ []:=by
  rw [decide_eq_true_iff,←ax]
  exact List.length_pos_iff
 rw [hl]
 constructor
 · rintro ⟨h1,h2,h3⟩
   refine ⟨h2,fun c m=> ?_⟩
   have:=h3 c m
   rw [uD c (by simpa using h1 c m)] at this
   simpa using this
 · rintro ⟨h1,h2⟩
   refine ⟨fun c m=> ?_,h1,fun c m=> ?_⟩
   · have:=(h2 c m).2
     simp
     omega
   · rw [uD c (by have:=(h2 c m).2;omega)]
     simpa using h2 c m
def sl:Str:=Str.ofString "/"
theorem ut:sl=⟨#[47]⟩:=by decide +kernel
theorem jI {z:Str} {d hi i:Nat} (h:StrLaws.At z ⟨#[d]⟩ hi i):(cl z)[i]?=some d:=by
 obtain ⟨_,h⟩:=h
 unfold Builtin.Str.subAt at h
 have e:z.cps.extract i (i+1)= #[d]:=eq_of_beq h
 have e2:((cl z).drop i).take 1= [d]:=by
  have:=congrArg Array.toList e
  rw [Array.toList_extract] at this
  simpa [cl,List.extract_eq_drop_take] using this
 have e3:((cl z).drop i)[0]?=some d:=by
  cases q:(cl z).drop i with
  |nil=>rw [q] at e2;simp at e2
  |cons a b=>rw [q] at e2;simp at e2;simp [e2]
 simpa using e3
theorem uJ {z:Str} {d i:Nat} (h:(cl z)[i]?=some d):StrLaws.At z ⟨#[d]⟩ z.length i:=by
 have hi:i < (cl z).length:=(List.getElem?_eq_some_iff.mp h).1
 refine ⟨by show i+1≤z.length;rw [←ax];omega,?_⟩
 unfold Builtin.Str.subAt
 have e:z.cps.extract i (i+1)= #[d]:=by
  apply Array.toList_inj.mp
  rw [Array.toList_extract,List.extract_eq_drop_take,show i+1 - i=1 by omega]
  show ((cl z).drop i).take 1= [d]
  rw [List.drop_eq_getElem_cons hi]
  have:=(List.getElem?_eq_some_iff.mp h).2
  simp [this]
 show (z.cps.extract i (i+1)== #[d])=true
 rw [e]
 simp
theorem vH {a b:List Nat} {d i:Nat} (ha:¬d∈a) (hb:¬d∈b) (h:(a++d::b)[i]?=some d):i=a.length:=by
 by_cases h1:i < a.length
 · rw [List.getElem?_append_left h1] at h
   exact absurd (List.mem_of_getElem? h) ha
 · by_cases h2:i=a.length
   · exact h2
   · rw [List.getElem?_append_right (by omega)] at h
     obtain ⟨j,e⟩:∃j,i - a.length=j+1:=⟨i - a.length - 1,by omega⟩
     rw [e,List.getElem?_cons_succ] at h
     exact absurd (List.mem_of_getElem? h) hb
theorem qZ {z:Str} {d lim:Nat} (h:¬d∈cl z):Builtin.Str.occurrences z ⟨#[d]⟩ 0 z.length lim= []:=by
 refine PySem.W.occ_nil_of_no _ _ lim fun i hi=> ?_
 cases q:Builtin.Str.subAt z ⟨#[d]⟩ i with
 |false=>rfl
 |true=>exact absurd (List.mem_of_getElem? (jI ⟨hi,q⟩)) h
theorem tM {z:Str} {a b:List Nat} {d:Nat} (e:cl z=a++d::b) (ha:¬d∈a) (hb:¬d∈b):∃r,Builtin.Str.occurrences z ⟨#[d]⟩ 0 z.length 1=a.length::r:=by
 have h:=StrLaws.found_one z d
 rw [decide_eq_true (show d∈z.cps.toList by show d∈cl z;rw [e];simp)] at h
 cases q:Builtin.Str.occurrences z ⟨#[d]⟩ 0 z.length 1 with
 |nil=>rw [q] at h;simp at h
 |cons i r=>
  have:=StrLaws.occ_spec z ⟨#[d]⟩ 0 z.length 1 i (by rw [q];exact List.mem_cons_self)
  have ei:i=a.length:=vH ha hb (e▸jI this)
  subst ei
  exact ⟨r,rfl⟩
theorem jD (z:Str) (i j:Nat):cl (Builtin.Str.strSub z i j)=((cl z).take j).drop i:=by
 unfold Builtin.Str.strSub cl
 simp [List.extract_eq_drop_take,List.drop_take]
theorem qH {z:Str} {a b:List Nat} (e:cl z=a++47::b) (ha:¬47∈a) (hb:¬47∈b):cl (aV z sl).1=a∧(aV z sl).2.1=sl∧cl (aV z sl).2.2=b:=by
 obtain ⟨r,o⟩:=tM e ha hb
 unfold aV
 rw [ut,o]
 refine ⟨?_,rfl,?_⟩
 · rw [jD,e]
   simp
 · show cl (Builtin.Str.strSub z (a.length+1) z.length)=b
   rw [jD,←ax z,List.take_length,e]
   simp
theorem oq {z:Str} (h:¬47∈cl z):aV z sl=(z,Str.empty,Str.empty):=by
 unfold aV
 rw [ut,qZ h]
open PySem PySem.NumText L2 Mth
def sg (x:Int):List Nat:=if x < 0 then [45] else []
noncomputable def low (x y:Int):List Nat:=ds x.natAbs++(if y=1 then [] else 47::ds y.natAbs)
noncomputable def txt (x y:Int):List Nat:=sg x++low x y
theorem nP {n c:Nat} (h:c < 48):¬c∈ds n:=fun m=>by
 have:=(i7 n c m).1
 omega
noncomputable def pA:List Nat→List Nat
 | []=> []
 |c::r=>if c=45 then r else c::r
theorem ke (x y:Int):∃c r,low x y=c::r∧c≠45:=by
 unfold low
 cases q:ds x.natAbs with
 |nil=>exact absurd q (rS _)
 |cons c r=>
  refine ⟨c,_,rfl,fun e=> ?_⟩
  have:=nP (n:=x.natAbs) (c:=45) (by decide)
  rw [q,e] at this
  exact this List.mem_cons_self
theorem oh (x y:Int):pA (txt x y)=low x y:=by
 unfold txt sg
 obtain ⟨c,r,e,h⟩:=ke x y
 split
 · rfl
 · rw [e]
   show (if c=45 then r else c::r)=c::r
   rw [if_neg h]
def mn:Str:=Str.ofString "-"
theorem uz:mn=⟨#[45]⟩:=by decide +kernel
theorem ix (z:Str):Txt.startswith z mn=decide ((cl z)[0]?=some 45):=by
 rw [uz,Bool.eq_iff_iff,decide_eq_true_iff]
 unfold Txt.startswith
 rw [Bool.and_eq_true,decide_eq_true_iff]
 constructor
 · rintro ⟨h1,h2⟩
   exact jI (hi:=z.length) ⟨h1,h2⟩
 · intro h
   exact uJ h
theorem uI (z:Str):cl (Txt.removeprefix z mn)=pA (cl z):=by
 rw [StrLaws.removeprefix_eq]
 have h:=ix z
 unfold Txt.startswith at h
 rw [h,uz]
 cases q:cl z with
 |nil=>
  rw [decide_eq_false (by simp)]
  rw [if_neg Bool.false_ne_true,q]
  rfl
 |cons c r=>
  show _=if c=45 then r else c::r
  by_cases e:c=45
  · subst e
    rw [decide_eq_true (by rfl),if_pos rfl,if_pos rfl]
    show List.take _ (List.drop 1 (cl z))=r
    rw [←ax,q]
    simp
    rw [List.take_of_length_le]
    show r.length≤r.length+1 - 1
    omega
  · rw [decide_eq_false (by simp [e]),if_neg Bool.false_ne_true,if_neg e,q]
noncomputable def side (y:Int):List Nat:=if y=1 then [49] else ds y.natAbs
theorem jS {y:Int} (h:0 < y):digitsVal (side y)=y.natAbs:=by
 unfold side
 split
 · rename_i e
   subst e
   rfl
 · exact rR _
theorem jT (y:Int):AllDigits (side y)∧side y≠ []:=by
 unfold side
 split
 · exact ⟨fun c m=>by rw [List.mem_singleton.mp m];omega,by simp⟩
 · exact ⟨i7 _,rS _⟩
theorem sK (x:Int):(if x < 0 then -1 else 1)*(x.natAbs:Int)=x:=by
 split<;>omega
theorem kq {x y:Int} (h:cn x y):fx x y=x∧fy x y=y:=by
 obtain ⟨h0,hg⟩:=h
 unfold fx fy dv
 rw [hg,if_neg (by omega)]
 exact ⟨Int.fdiv_one x,Int.fdiv_one y⟩
theorem rL {t b:Int} (h:0 < b):fx t b=t / (Int.gcd t b:Int)∧fy t b=b / (Int.gcd t b:Int):=by
 unfold fx fy dv
 rw [if_neg (by omega)]
 exact ⟨Int.fdiv_eq_ediv_of_nonneg _ (by omega),Int.fdiv_eq_ediv_of_nonneg _ (by omega)⟩
theorem iZ {l:List Nat} (h:AllDigits l) (hl:l.length≤200):Big ((digitsVal l:Nat):Int):=by
 unfold Big
 have h1:=l8 h
 have h2:10^l.length≤10^200:=Nat.pow_le_pow_right (by decide) hl
 have h3:(10:Nat)^200 < 2^700:=by decide +kernel
 rw [Int.natAbs_natCast]
 omega
end Dec
namespace Su
open PySem L2 Tre Mth Wd
def rv (p:Fr):Rat:=(p.1:Rat) / (p.2:Rat)
abbrev Sh (p:Fr):Prop:=cn p.1 p.2
theorem ne0 {b:Int} (h:0 < b):(b:Rat)≠0:=by
 simp only [ne_eq,Rat.intCast_eq_zero_iff]
 omega
theorem uw {p q:Fr} (h1:0 < p.2) (h2:0 < q.2):rv p=rv q↔p.1*q.2=q.1*p.2:=by
 have a:=ne0 h1
 have b:=ne0 h2
 unfold rv
 constructor
 · intro h
   have:(p.1:Rat)*q.2=q.1*p.2:=by grind
   exact_mod_cast this
 · intro h
   have:(p.1:Rat)*q.2=q.1*p.2:=by exact_mod_cast h
   grind
theorem qf {p q:Fr} (h1:Sh p) (h2:Sh q) (e:rv p=rv q):p=q:=by
 rw [uw h1.1 h2.1] at e
 obtain ⟨a,b⟩:=p
 obtain ⟨c,d⟩:=q
 obtain ⟨b0,g1⟩:=h1
 obtain ⟨d0,g2⟩:=h2
 dsimp only at*
 have n1:a.natAbs*d.natAbs=c.natAbs*b.natAbs:=by rw [←Int.natAbs_mul,←Int.natAbs_mul,e]
 have g1':Nat.Coprime b.natAbs a.natAbs:=by rw [Nat.coprime_comm];exact g1
 have g2':Nat.Coprime d.natAbs c.natAbs:=by rw [Nat.coprime_comm];exact g2
 have d1:b.natAbs∣d.natAbs:=g1'.dvd_of_dvd_mul_left ⟨c.natAbs,by rw [n1,Nat.mul_comm]⟩
 have d2:d.natAbs∣b.natAbs:=g2'.dvd_of_dvd_mul_left ⟨a.natAbs,by rw [←n1,Nat.mul_comm]⟩
 have e1:=Nat.dvd_antisymm d1 d2
 have e2:b=d:=by omega
 subst e2
 have e3:a=c:=Int.eq_of_mul_eq_mul_right (by omega) e
 rw [e3]
theorem mR {p q:Fr} (h1:Sh p) (h2:Sh q):Sh (eW p q):=(mY h1 h2).1
theorem sN {p q:Fr} (h1:Sh p) (h2:Sh q):rv (eW p q)=rv p+rv q:=by
 obtain ⟨s,e⟩:=mY h1 h2
 have a:=ne0 h1.1
 have b:=ne0 h2.1
 have c:=ne0 s.1
 have e':((pX p.1 p.2 q.1 q.2:Int):Rat)*(p.2*q.2)=(p.1*q.2+q.1*p.2)*(pY p.1 p.2 q.1 q.2:Int):=by exact_mod_cast e
 unfold rv eW
 dsimp only
 grind
theorem gR {p q:Fr} (h1:Sh p) (h2:Sh q):Sh (eA p q):=(jN h1 h2).1
theorem qe {p q:Fr} (h1:Sh p) (h2:Sh q):rv (eA p q)=rv p*rv q:=by
 obtain ⟨s,e⟩:=jN h1 h2
 have a:=ne0 h1.1
 have b:=ne0 h2.1
 have c:=ne0 s.1
 have e':((tX p.1 p.2 q.1 q.2:Int):Rat)*(p.2*q.2)=p.1*q.1*(tY p.1 p.2 q.1 q.2:Int):=by exact_mod_cast e
 unfold rv eA
 dsimp only
 grind
theorem mQ:Sh zero:=⟨by decide,by decide⟩
theorem rv_zero:rv zero=0:=by
 show ((0:Int):Rat) / ((1:Int):Rat)=0
 have:((0:Int):Rat)=0:=by simp
 rw [this]
 grind
theorem uv {p:Fr} (h:Sh p):rv p=0↔p=zero:=by
 constructor
 · intro e
   exact qf h mQ (e.trans rv_zero.symm)
 · rintro rfl
   exact rv_zero
noncomputable def low (t b:Int):Fr:=(t / (Int.gcd t b:Int),b / (Int.gcd t b:Int))
theorem lw {t b:Int} (h:0 < b):Sh (low t b):=by
 obtain ⟨x',y',ex,ey,g1,qx,qy⟩:=bY (x:=t) (y:=b) (by omega)
 unfold low
 rw [qx,qy]
 have y0:0 < y':=bJ (k:=(Int.gcd t b:Int)) (by omega) (by omega)
 exact ⟨y0,g1⟩
theorem uS {t b:Int} (h:0 < b):rv (low t b)=(t:Rat) / (b:Rat):=by
 have s:=lw (t:=t) h
 obtain ⟨x',y',ex,ey,g1,qx,qy⟩:=bY (x:=t) (y:=b) (by omega)
 have g0:0 < Int.gcd t b:=Int.gcd_pos_of_ne_zero_right t (by omega)
 unfold low at s ⊢
 rw [qx,qy] at s ⊢
 have e:x'*b=t*y':=by
  generalize ((Int.gcd t b:Nat):Int)=g at*
  rw [ex,ey]
  simp only [Int.mul_assoc,Int.mul_left_comm,Int.mul_comm]
 exact (uw (p:=(x',y')) (q:=(t,b)) s.1 h).mpr e
theorem vY {e:Nat} {t b:Int} (h:0 < b) (h1:Lt2 e t) (h2:Lt2 e b):Gf e (low t b):=⟨(lw h).1,h1.div,h2.div⟩
abbrev Pq:=Tr×Fr
def prT (p:Pq):Tr:= .tup [p.1,frT p.2]
open Classical in
noncomputable def tot (t:Tr):List Pq→Rat
 | []=>0
 |p::r=>(if p.1=t then rv p.2 else 0)+tot t r
theorem dr (t:Tr) (a b:List Pq):tot t (a++b)=tot t a+tot t b:=by
 induction a with
 |nil=>simp only [List.nil_append,tot];grind
 |cons p r ih=>simp only [List.cons_append,tot,ih];grind
open Classical in
theorem gc (t:Tr) (p:Pq):tot t [p]=if p.1=t then rv p.2 else 0:=by
 simp only [tot]
 grind
theorem oY {t:Tr} {a b:List Pq} (h:a.Perm b):tot t a=tot t b:=by
 induction h with
 |nil=>rfl
 |cons x _ ih=>simp only [tot,ih]
 |swap x y l=>simp only [tot];grind
 |trans _ _ h1 h2=>rw [h1,h2]
theorem eJ {t:Tr}:∀ {l:List Pq},(∀p∈l,p.1≠t)→tot t l=0
 | [],_=>rfl
 |p::r,h=>by
  simp only [tot]
  rw [if_neg (h p List.mem_cons_self),eJ fun q m=>h q (List.mem_cons_of_mem _ m)]
  grind
abbrev Asc (us:List Pq):Prop:=us.Pairwise fun a b=>ltT a.1 b.1=true
theorem vJ (t:Tr):ltT t t=false:=by
 cases e:ltT t t with
 |false=>rfl
 |true=>exact (eX e).symm.trans e |>.symm
theorem nn {t u:Tr} (h:ltT t u=true):t≠u:=fun z=>by
 rw [z,vJ] at h
 cases h
theorem ox {a b c:Tr} (h1:ltT a b=true) (h2:ltT b c=true):ltT a c=true:=ltT_iff.mpr (dU (ltT_iff.mp h1) (ltT_iff.mp h2))
theorem jK {us:List Pq} (h:Asc us) {p:Pq} (m:p∈us):tot p.1 us=rv p.2:=by
 induction us with
 |nil=>cases m
 |cons q r ih=>
  obtain ⟨h1,h2⟩:=List.pairwise_cons.mp h
  simp only [tot]
  rcases List.mem_cons.mp m with e|m
  · subst e
    rw [if_pos rfl,eJ fun x mx=>(nn (h1 x mx)).symm]
    grind
  · rw [if_neg (nn (h1 p m)),ih h2 m]
    grind
structure Can (ps us:List Pq):Prop where
 asc:Asc us
 sh:∀p∈us,Sh p.2∧p.2≠zero
 eq:∀t,tot t us=tot t ps
theorem Can.mem {ps us vs:List Pq} (h1:Can ps us) (h2:Can ps vs) {p:Pq} (m:p∈us):p∈vs:=by
 have e1:=jK h1.asc m
 rw [h1.eq,←h2.eq] at e1
 have n0:rv p.2≠0:=fun z=>(h1.sh p m).2 ((uv (h1.sh p m).1).mp z)
 refine Classical.byContradiction fun no=> ?_
 by_cases q:∀x∈vs,x.1≠p.1
 · rw [eJ q] at e1
   exact n0 e1.symm
 · obtain ⟨x,hx⟩:=Classical.not_forall.mp q
   obtain ⟨mx,ex⟩:=Classical.not_imp.mp hx
   have ex:=Classical.not_not.mp ex
   have e2:=jK h2.asc mx
   rw [ex,e1] at e2
   have e3:=qf (h1.sh p m).1 (h2.sh x mx).1 e2
   have:x=p:=Prod.ext ex e3.symm
   rw [this] at mx
   exact no mx
theorem sv:∀ {us vs:List Pq},Asc us→Asc vs→(∀p,p∈us↔p∈vs)→us=vs
 | [],[],_,_,_=>rfl
 | [],b::vs,_,_,h=>by
  have:=(h b).mpr List.mem_cons_self
  cases this
 |a::us,[],_,_,h=>by
  have:=(h a).mp List.mem_cons_self
  cases this
 |a::us,b::vs,h1,h2,h=>by
  obtain ⟨a1,a2⟩:=List.pairwise_cons.mp h1
  obtain ⟨b1,b2⟩:=List.pairwise_cons.mp h2
  have e:a=b:=by
   rcases List.mem_cons.mp ((h a).mp List.mem_cons_self) with e|m
   · exact e
   · rcases List.mem_cons.mp ((h b).mpr List.mem_cons_self) with e|m'
     · exact e.symm
     · have:=eX (b1 a m)
       rw [a1 b m'] at this
       cases this
  subst e
  rw [sv a2 b2 fun p=> ?_]
  constructor
  · intro m
    rcases List.mem_cons.mp ((h p).mp (List.mem_cons_of_mem _ m)) with e|m'
    · rw [e] at m
      exact absurd rfl (nn (a1 a m))
    · exact m'
  · intro m
    rcases List.mem_cons.mp ((h p).mpr (List.mem_cons_of_mem _ m)) with e|m'
    · rw [e] at m
      exact absurd rfl (nn (b1 a m))
    · exact m'
theorem Can.uniq {ps us vs:List Pq} (h1:Can ps us) (h2:Can ps vs):us=vs:=sv h1.asc h2.asc fun p=>⟨h1.mem h2,h2.mem h1⟩
theorem Can.to {ps qs us:List Pq} (h:Can ps us) (e:∀t,tot t ps=tot t qs):Can qs us:=⟨h.asc,h.sh,fun t=>(h.eq t).trans (e t)⟩
structure Run (ds us:List Pq):Prop where
 asc:Asc us
 sh:∀p∈us,Sh p.2
 eq:∀t,tot t us=tot t ds
 key:∀p∈us,∃d∈ds,d.1=p.1
theorem Run.nil:Run [] []:=⟨.nil,(fun p m=>by cases m),fun t=>rfl,fun p m=>by cases m⟩
theorem Run.app {ds us:List Pq} {u:Pq} (h:Run ds us) (hl:∀p∈us,ltT p.1 u.1=true) (hs:Sh u.2):Run (ds++ [u]) (us++ [u]):=by
 refine ⟨?_,fun p m=> ?_,fun t=>by rw [dr,dr,h.eq],fun p m=> ?_⟩
 · refine List.pairwise_append.mpr ⟨h.asc,List.pairwise_singleton _ _,fun a ma b mb=> ?_⟩
   rw [List.mem_singleton.mp mb]
   exact hl a ma
 · rcases List.mem_append.mp m with m|m
   · exact h.sh p m
   · rw [List.mem_singleton.mp m]
     exact hs
 · rcases List.mem_append.mp m with m|m
   · obtain ⟨d,md,e⟩:=h.key p m
     exact ⟨d,List.mem_append_left _ md,e⟩
   · rw [List.mem_singleton.mp m]
     exact ⟨u,List.mem_append_right _ List.mem_cons_self,rfl⟩
theorem Run.add {ds us:List Pq} {t:Tr} {f g:Fr} (h:Run ds (us++ [(t,f)])) (hs:Sh g):Run (ds++ [(t,g)]) (us++ [(t,eW f g)]):=by
 have hf:Sh f:=h.sh (t,f) (List.mem_append_right _ List.mem_cons_self)
 obtain ⟨a1,_,a3⟩:=List.pairwise_append.mp h.asc
 refine ⟨?_,fun p m=> ?_,fun u=> ?_,fun p m=> ?_⟩
 · refine List.pairwise_append.mpr ⟨a1,List.pairwise_singleton _ _,fun a ma b mb=> ?_⟩
   rw [List.mem_singleton.mp mb]
   exact a3 a ma (t,f) List.mem_cons_self
 · rcases List.mem_append.mp m with m|m
   · exact h.sh p (List.mem_append_left _ m)
   · rw [List.mem_singleton.mp m]
     exact mR hf hs
 · have e:=h.eq u
   rw [dr,gc] at e
   rw [dr,dr,gc,gc,←e,sN hf hs]
   dsimp only
   by_cases z:t=u
   · simp only [if_pos z];grind
   · simp only [if_neg z];grind
 · rcases List.mem_append.mp m with m|m
   · obtain ⟨d,md,e⟩:=h.key p (List.mem_append_left _ m)
     exact ⟨d,List.mem_append_left _ md,e⟩
   · rw [List.mem_singleton.mp m]
     exact ⟨(t,g),List.mem_append_right _ List.mem_cons_self,rfl⟩
theorem lg (t:Tr) {us:List Pq} (h:∀p∈us,Sh p.2):tot t (us.filter fun p=>decide (p.2≠zero))=tot t us:=by
 induction us with
 |nil=>rfl
 |cons p r ih=>
  have ih:=ih fun q m=>h q (List.mem_cons_of_mem _ m)
  rw [List.filter_cons]
  by_cases z:p.2=zero
  · have e:decide (p.2≠zero)=false:=by simp [z]
    rw [e,if_neg (by decide),ih]
    simp only [tot,z,rv_zero]
    grind
  · have e:decide (p.2≠zero)=true:=by simp [z]
    rw [e,if_pos rfl]
    simp only [tot,ih]
theorem Run.fin {ps us:List Pq} (h:Run ps us):Can ps (us.filter fun p=>decide (p.2≠zero)):=by
 refine ⟨h.asc.filter _,fun p m=> ?_,fun t=>(lg t h.sh).trans (h.eq t)⟩
 obtain ⟨m1,m2⟩:=List.mem_filter.mp m
 exact ⟨h.sh p m1,by simpa using m2⟩
theorem tO {p q:Pq} (h:ltT p.1 q.1=true):ltT (prT p) (prT q)=true:=by
 rw [ltT_iff] at h ⊢
 show LtC (.tup (code p.1::_)) (.tup (code q.1::_))
 simp only [LtC,LtCs]
 exact .inl h
theorem tP {p q:Pq} (h:ltT (prT q) (prT p)=false):ltT q.1 p.1=false:=by
 cases e:ltT q.1 p.1 with
 |false=>rfl
 |true=>rw [tO e] at h;cases h
theorem uA {t u:Tr} (h1:ltT u t=false) (h2:eqT t u=false):ltT t u=true:=by
 cases e:ltT t u with
 |true=>rfl
 |false=>rw [vK e h1] at h2;cases h2
theorem um {t u:Tr} (h1:Ty .tm t) (h2:Ty .tm u) (h:eqT t u=true):t=u:=wA t.depth (Nat.le_refl _) h1 h2 ((dq t u).mp h)
end Su
namespace L2
open PySem PySem.Spec PyProof.Rows
def sx (J:It) (D:Addr) (tc:TT) (te:TE) (rest:L2.St) (Q:VK) (H1:Hp):Prop:=
 ∃W:Nat→Nat→List V→Hp→Prop,(∃m,W 0 m [] (upd H1 D (.lst [])))∧∀i m acc H2,W i m acc H2→
  (J.stop i H2∧Q (.ref D) H2)∨
  (J.go i H2∧∀x H3,J.yld i H2 x H3→cv 0 x (none::rest) H3 fun σ4 H4=>Ext (none::rest) σ4∧tc σ4 H4 fun b H5=>if b=true then te σ4 H5 fun v H6=>H6 D=some (.lst acc)∧acc.length < sizeLine∧∃m',m' < m∧W (i+1) m' (acc++ [v]) (upd H6 D (.lst (acc++ [v])))
   else∃m',m' < m∧W (i+1) m' acc H5)
theorem iu {mp:List (Option Nat)} {wi:TI} {tc:TT} {te:TE} {σ rest:L2.St} {H:Hp} {Q:VK} (e:subS mp σ=none::rest) (h:wi σ H fun J H1=>∀D,H1 D=none→sx J D tc te rest Q H1):fU mp wi (cv 0) tc te σ H Q:=by
 unfold fU
 rw [e]
 exact h
def CompS (n i:Nat) (acc:List V) (Pv:Nat→List V→Hp→Prop):Hp→Prop:=fun H5=>∃m',m' < n - i∧(m'=n - (i+1)∧i+1≤n∧Pv (i+1) acc H5)
theorem CompS.mk {n i:Nat} {acc:List V} {Pv:Nat→List V→Hp→Prop} {H5:Hp} (hi:i < n) (h:Pv (i+1) acc H5):CompS n i acc Pv H5:=⟨n - (i+1),by omega,rfl,hi,h⟩
theorem ie {K:PySem.W.Frag} {a D:Addr} {xs:List V} {tc:TT} {te:TE} {rest:L2.St} {Q:VK} {H1:Hp} (Pv:Nat→List V→Hp→Prop) (h0:Pv 0 [] (upd H1 D (.lst [])))
 (hl:∀i acc H,Pv i acc H→SqL K H a xs)
 (hs:∀i x acc H,i < xs.length→xs[i]?=some x→Pv i acc H→tc (some x::rest) H fun b H5=>if b=true then te (some x::rest) H5 (CompN xs.length i D acc Pv) else CompS xs.length i acc Pv H5)
 (hd:∀acc H,Pv xs.length acc H→Q (.ref D) H):sx (Itl K a) D tc te rest Q H1:=by
 refine ⟨fun i m acc H=>m=xs.length - i∧i≤xs.length∧Pv i acc H,⟨xs.length,by simp,Nat.zero_le _,h0⟩,?_⟩
 rintro i m acc H ⟨rfl,hi,p⟩
 by_cases hlt:i < xs.length
 · refine .inr ⟨⟨xs,xs[i],hl i acc H p,by simp [hlt]⟩,fun x H' y=>⟨ext1,?_⟩⟩
   obtain ⟨e,y⟩:=y
   subst e
   exact hs i x acc _ hlt (y xs (hl i acc _ p)) p
 · have e:i=xs.length:=by omega
   subst e
   exact .inl ⟨⟨xs,hl _ acc H p,Nat.le_refl _⟩,hd acc H p⟩
end L2
namespace Zp
open PySem
inductive Src where
 |lst|tup
section
variable {prog:Program} {w:World} {A:Around} {E:Value→Shared→Prop} {s:Shared} {k:Src} {it l:Addr} {i:Nat} {xs:Array Value} {x:Value} {Q:Value→Shared→Prop}
end
open PySem
section
variable {prog:Program} {w:World} {A:Around} {E:Value→Shared→Prop} {s:Shared} {k:Src} {z TI TO i1 i2 l1 l2:Addr} {j:Nat} {xs ys:Array Value} {x y a b:Value}
end
open PySem
section
variable {prog:Program} {w:World} {A:Around} {E:Value→Shared→Prop} {s:Shared}
end
end Zp
namespace L2
open PySem PySem.Spec PyProof.Rows Zp
section
variable {X:Cx} {pins:List (Addr×Obj)} {σ:St} {H:Hp} {s:Shared}
theorem Inv.turneds {h':Heap} {t':Nat} {fp:List Addr} (I:Inv X pins σ H s) (k:∀b o,b∉fp→s.heap.get? b=some o→h'.get? b=some o) (hf:∀b∈fp,FpOk X pins H b):Inv X pins σ H {s with heap:=h',toks:=t'}:=by
 refine I.call' (s':= {s with heap:=h',toks:=t'}) (ch:=fp) rfl ⟨fun b o e _ _ hx=>k b o hx e,fun b o e _ _ hx=>⟨o.slots,k b o hx e⟩,fun _ _ _ n _=>n,fun b o e hx=>⟨o,k b o hx e⟩,fun _ _ e=>e,fun _ _ _ e=>e,fun b ps e=>⟨#[],by rw [e];simp⟩⟩ ?_ I.bare fun b hb=> ?_
 · intro b o e
   have nb:∀c u,H c=some u→c∉fp:=fun c u e z=>by rw [(hf c z).1] at e;cases e
   refine (I.hok b o e).stay (fun c v hc q=>k c v ?_ q) (fun _ q=>q) fun _ _ q=>q
   rcases hc with z|z
   · rw [z];exact nb b o e
   · exact nb c _ z
 · obtain ⟨g0,g1,g2,g3,g4,g5⟩:=hf b hb
   exact ⟨g3,g1,g4,g5⟩
end
section
variable {X:Cx}
end
open PySem PySem.Spec PyProof.Rows Zp
section
variable {X:Cx}
end
section
variable {X:Cx}
theorem iT:∀ {bs:List Bool} {us:List Value},Vals (bs.map V.bl) us→us=bs.map Value.bool
 | [],_,r=>by cases r;rfl
 |b::bs,_,r=>by
  rw [List.map_cons] at r
  cases r with
  |cons r1 r2=>rw [iT r2,(show _=Value.bool b from r1)];rfl
theorem oN (hc:X.calm=true):cG X (.builtin "all") (fun xs H Q=>∃(p:Addr) (bs:List Bool),xs= [.ref p]∧SqL X.K H p (bs.map V.bl)∧Q (.bl (bs.all id)) H):=by
 intro pins s σ H xs us Q I r h
 obtain ⟨p,bs,rfl,hp,q⟩:=h
 obtain ⟨u,rfl,ru⟩:=e7 r
 cases ru
 obtain ⟨its,rv,pl,_⟩:=I.list hp
 have e:=iT rv
 subst e
 have hlt:p < s.heap.objs.size:=by obtain ⟨_,e,_⟩:=pl.isList;exact Heap.lt_size e
 refine call_all_walk (wpAny_pyIter_list pl.isList ⟨s.heap.objs.size,[s.heap.objs.size,p],[s.heap.objs.size],(bs.map Value.bool).toArray.size,_,_,fun i=>(bs[i]?).getD true,rfl,Walks.list (A:=X.A.in1) (I.ok.hd hc) _ p (Nat.ne_of_lt hlt) _,
  ⟨⟨_,Heap.get?_push_size _ rfl,rfl,rfl⟩,pl.isList.push _⟩,fun i v s' Q' E' hP hQ=> ?_,fun h' tk hk=> ?_⟩)
 · have hP':(bs.map Value.bool)[i]?=some v:=by simpa using hP
   rw [List.getElem?_map] at hP'
   obtain ⟨b,e,rfl⟩:=Option.map_eq_some_iff.mp hP'
   dsimp only at hQ
   rw [e] at hQ
   exact wpAny_truthy_bool hQ
 · have e:((List.range (bs.map Value.bool).toArray.size).all fun i=>(bs[i]?).getD true)=bs.all id:=by
    rw [List.size_toArray,List.length_map]
    exact PyProof.Rows.LSm.range_all bs
   rw [e]
   refine ⟨.bl _,H,I.kept (t':=tk) fun b x ex=>hk b x (fun hm=> ?_) (Heap.get?_push_of_some _ ex),rfl,q⟩
   rw [List.mem_singleton.mp hm] at ex
   exact Nat.lt_irrefl _ (Heap.lt_size ex)
end
end L2
namespace Tre
open PySem L2 Zp
end Tre
namespace Tre
open PySem PySem.Spec PyProof.Rows L2
section
variable {X:Cx}
end
open PySem PySem.Spec PyProof.Rows L2
section
variable {X:Cx}
end
end Tre
namespace L2
open PySem PySem.Spec PyProof.Rows
section
variable {X:Cx}
end
theorem rZ {K K':PySem.W.Frag} {a:Addr} {mp:List (Option Nat)} {tl:TE} {te:TE} {Q:VK} {σ rest:L2.St} {H H1:Hp} {xs:List V} (e:subS mp σ=none::none::rest)
 (ha:∀Q:VK,Q (.ref a) H1→tl σ H Q) (h1:SqT K H1 a xs)
 (h:∀D,H1 D=none→∃Pv:Nat→List V→Hp→Prop,Pv 0 [] (upd H1 D (.lst []))∧(∀i acc H,Pv i acc H→SqT K H a xs)∧
  (∀i z acc H,i < xs.length→Pv i acc H→xs[i]?=some z→∃T x y,z= .ref T∧SqT K' H T [x,y]∧te (some x::some y::rest) H (CompN xs.length i D acc Pv))∧∀acc H,Pv xs.length acc H→Q (.ref D) H):
 fU mp (iTup K tl) (gTup K' 2 (ko (cv 0) (ko (cv 1) gNil))) gh te σ H Q:=by
 unfold fU
 rw [e]
 refine ha _ ⟨a,rfl,⟨xs,h1⟩,fun D nD=> ?_⟩
 obtain ⟨Pv,p0,pq,ps,pd⟩:=h D nD
 refine ⟨fun i m acc H=>m=xs.length - i∧i≤xs.length∧Pv i acc H,⟨xs.length,by simp,Nat.zero_le _,p0⟩,?_⟩
 rintro i m acc H ⟨rfl,hi,p⟩
 have q1:=pq i acc H p
 by_cases hlt:i < xs.length
 · refine .inr ⟨⟨xs,xs[i],q1,by simp [hlt]⟩,?_⟩
   rintro v H' ⟨rfl,y⟩
   have ev:=y xs q1
   obtain ⟨T,x,z,rfl,hT,hte⟩:=ps i v acc _ hlt p ev
   exact ⟨T,[x,z],rfl,hT,rfl,x,[z],rfl,z,[],rfl,rfl,ext2,hte⟩
 · have ei:i=xs.length:=by omega
   subst ei
   exact .inl ⟨⟨xs,q1,Nat.le_refl _⟩,pd acc H p⟩
end L2
namespace Wd
open PySem L2 Tre Mth Dj
def FlG (kF:List (Key×V)):Prop:=∀x v,valV kF (.inr x)=some v→∃b,v=V.bl b
def VaG (H:Hp) (kV:List (Key×V)):Prop:=∀x v,valV kV (.inr x)=some v→∃p,TrAt H v (frT p)∧Gv p
def CaG (H:Hp) (kC:List Ent):Prop:=∀k v,valJ kC k=some v→∃p,TrAt H v (frT p)∧Gv p
structure WS (P:Program) (w:World) (K:PySem.W.Frag) (H:Hp) (F D C:Addr) (n:Nat):Prop where
 ne:F≠D
 fl:∃kF,H F=some (.dK kF)∧FlG kF∧kF.length≤n
 va:∃kV,H D=some (.dK kV)∧VaG H kV∧kV.length≤n
 ca:∃kC,DJ P w K H C kC∧CaG H kC∧kC.length≤n
section
variable {P:Program} {w:World} {K:PySem.W.Frag} {H H':Hp} {F D C:Addr} {n:Nat}
end
def WAt (P:Program) (w:World) (K:PySem.W.Frag) (H:Hp) (v:V) (W:Wld):Prop:=∃r F D C kF kV kC,v= .ref r∧H r=some (.tup [.ref F, .ref D, .ref C])∧
 (H F=some (.dK kF)∧∀x,(valV kF (.inr x)).getD (.bl false)= .bl (W.fl x))∧
 (H D=some (.dK kV)∧∀x,(∃u,valV kV (.inr x)=some u∧TrAt H u (frT (W.va x)))∨(valV kV (.inr x)=none∧W.va x=zero))∧
 (DJ P w K H C kC∧∀k,(∃u,valJ kC k=some u∧TrAt H u (frT (W.ca k)))∨(valJ kC k=none∧W.ca k=zero))
section
variable {P:Program} {w:World} {K:PySem.W.Frag} {H H':Hp} {F D C r:Addr} {n:Nat} {v:V} {W:Wld}
theorem WS.at_ (h:WS P w K H F D C n) (e:H r=some (.tup [.ref F, .ref D, .ref C])):∃W:Wld,W.Ok∧WAt P w K H (.ref r) W:=by
 obtain ⟨kF,f1,f2,f3⟩:=h.fl
 obtain ⟨kV,v1,v2,v3⟩:=h.va
 obtain ⟨kC,c1,c2,c3⟩:=h.ca
 have hF:∀x:Str,∃b,(valV kF (.inr x)).getD (.bl false)= .bl b:=fun x=>by
  cases q:valV kF (.inr x) with
  |none=>exact ⟨false,rfl⟩
  |some v=>
   obtain ⟨b,rfl⟩:=f2 x v q
   exact ⟨b,rfl⟩
 have hV:∀x:Str,∃p,Gv p∧((∃u,valV kV (.inr x)=some u∧TrAt H u (frT p))∨(valV kV (.inr x)=none∧p=zero)):=fun x=>by
  cases q:valV kV (.inr x) with
  |none=>exact ⟨zero,nK, .inr ⟨rfl,rfl⟩⟩
  |some v=>
   obtain ⟨p,h1,h2⟩:=v2 x v q
   exact ⟨p,h2, .inl ⟨v,rfl,h1⟩⟩
 have hC:∀k:List Tk.KT,∃p,Gv p∧((∃u,valJ kC k=some u∧TrAt H u (frT p))∨(valJ kC k=none∧p=zero)):=fun k=>by
  cases q:valJ kC k with
  |none=>exact ⟨zero,nK, .inr ⟨rfl,rfl⟩⟩
  |some v=>
   obtain ⟨p,h1,h2⟩:=c2 k v q
   exact ⟨p,h2, .inl ⟨v,rfl,h1⟩⟩
 exact ⟨⟨fun x=>Classical.choose (hF x),fun x=>Classical.choose (hV x),fun k=>Classical.choose (hC k)⟩,⟨fun x=>(Classical.choose_spec (hV x)).1,fun k=>(Classical.choose_spec (hC k)).1⟩,
  r,F,D,C,kF,kV,kC,rfl,e,⟨f1,fun x=>Classical.choose_spec (hF x)⟩,⟨v1,fun x=>(Classical.choose_spec (hV x)).2⟩,⟨c1,fun k=>(Classical.choose_spec (hC k)).2⟩⟩
end
end Wd
namespace L2
open PySem Tre Wd
theorem cH {t rest:TS} {Z:Ends} {σ:L2.St} {H:Hp} (R:L2.St→Hp→Prop) (hR:∀σ' H',R σ' H'→rest Z σ' H') (h:∀nx:L2.St→Hp→Prop,(∀σ' H',R σ' H'→nx σ' H')→t {Z with nx:=nx} σ H):tSeq t rest Z σ H:=h _ hR
theorem cV {i:Nat} {v:V} {σ:L2.St} {H:Hp} {k:L2.St→Hp→Prop} (h:k (σ.set i (some v)) H):cv i v σ H k:=h
theorem lh {Z:Ends} {σ:L2.St} {H:Hp} (h:Z.nx σ H):pi Z σ H:=h
theorem j6 {r:List V→Hp→VK→Prop} {te:TE} {Z:Ends} {σ:L2.St} {H:Hp} (h:te σ H fun v H1=>r [v] H1 Z.rt):tRet (tCB r (bp te tNil)) Z σ H:=h
theorem pb {r:List V→Hp→VK→Prop} {te:TE} {σ:L2.St} {H:Hp} {Q:List V→Hp→Prop} (h:te σ H fun v H1=>r [v] H1 fun u H2=>Q [u] H2):bp (tCB r (bp te tNil)) tNil σ H Q:=h
theorem j5 {te:TE} {Z:Ends} {σ:L2.St} {H:Hp} (h:te σ H Z.rt):tRet te Z σ H:=h
theorem pc {te:TE} {σ:L2.St} {H:Hp} {Q:List V→Hp→Prop} (h:te σ H fun v H1=>Q [v] H1):bp te tNil σ H Q:=h
theorem kx {H:Hp} {v:V} {x:Str} {r:List Tr} (h:TrAt H v (.tup (.str x::r))):∃a vs,v= .ref a∧H a=some (.tup (.str x::vs))∧TrsAt H vs r:=by
 unfold TrAt at h
 obtain ⟨a,vs,e,h1,h2⟩:=h
 obtain ⟨y,r1,rfl,h3,h4⟩:=h2.inv
 unfold TrAt at h3
 subst h3
 exact ⟨a,r1,e,h1,h4⟩
theorem at2 {H:Hp} {v:V} {k:Str} {t:Tr} (h:TrAt H v (.tup [.str k,t])):∃a y,v= .ref a∧H a=some (.tup [.str k,y])∧TrAt H y t:=by
 obtain ⟨a,vs,e,h1,h2⟩:=kx h
 obtain ⟨y,r,rfl,h3,h4⟩:=h2.inv
 unfold TrsAt at h4
 subst h4
 exact ⟨a,y,e,h1,h3⟩
theorem at3 {H:Hp} {v:V} {k:Str} {t u:Tr} (h:TrAt H v (.tup [.str k,t,u])):∃a y z,v= .ref a∧H a=some (.tup [.str k,y,z])∧TrAt H y t∧TrAt H z u:=by
 obtain ⟨a,vs,e,h1,h2⟩:=kx h
 obtain ⟨y,r,rfl,h3,h4⟩:=h2.inv
 obtain ⟨z,r2,rfl,h5,h6⟩:=h4.inv
 unfold TrsAt at h6
 subst h6
 exact ⟨a,y,z,e,h1,h3,h5⟩
theorem at_s {H:Hp} {v:V} {x:Str} (h:TrAt H v (.str x)):v= .str x:=by
 unfold TrAt at h
 exact h
theorem at_t {H:Hp} {v:V} {ts:List Tr} (h:TrAt H v (.tup ts)):∃a vs,v= .ref a∧H a=some (.tup vs)∧TrsAt H vs ts:=by
 unfold TrAt at h
 exact h
theorem aS {H:Hp} {x:Str}:TrAt H (.str x) (.str x):=by unfold TrAt;rfl
theorem aQ {H:Hp} {r:Addr} {vs:List V} {ts:List Tr} (h:H r=some (.tup vs)) (h1:TrsAt H vs ts):TrAt H (.ref r) (.tup ts):=by
 unfold TrAt
 exact ⟨r,vs,rfl,h,h1⟩
theorem cy {H:Hp} {v:V} {a b:Tr} (h:TrAt H v (.tup [a,b])):∃r x y,v= .ref r∧H r=some (.tup [x,y])∧TrAt H x a∧TrAt H y b:=by
 unfold TrAt at h
 obtain ⟨r,vs,e,h1,h2⟩:=h
 obtain ⟨x,r1,rfl,h3,h4⟩:=h2.inv
 obtain ⟨y,r2,rfl,h5,h6⟩:=h4.inv
 unfold TrsAt at h6
 subst h6
 exact ⟨r,x,y,e,h1,h3,h5⟩
theorem tT {H:Hp} {v:V} {a b:Int} (h:TrAt H v (.tup [.int a, .int b])):∃r,v= .ref r∧H r=some (.tup [.int a, .int b]):=by
 obtain ⟨r,x,y,e,h1,h2,h3⟩:=cy h
 unfold TrAt at h2 h3
 subst h2 h3
 exact ⟨r,e,h1⟩
theorem cM {H:Hp} {r:Addr} {x y:V} {a b:Tr} (h:H r=some (.tup [x,y])) (h1:TrAt H x a) (h2:TrAt H y b):TrAt H (.ref r) (.tup [a,b]):=by
 unfold TrAt
 exact ⟨r,_,rfl,h, .cons h1 (.cons h2 .nil)⟩
theorem c8 {H:Hp} {r:Addr} {a b:Int} (h:H r=some (.tup [.int a, .int b])):TrAt H (.ref r) (.tup [.int a, .int b]):=cM h (by unfold TrAt;rfl) (by unfold TrAt;rfl)
theorem cZ {H:Hp} {v:V} {p:Fr} (h:TrAt H v (frT p)):∃r,v= .ref r∧H r=some (.tup [.int p.1, .int p.2]):=tT h
theorem cX {n:Nat}:∀ {ts:List Tr},(∀t∈ts,t.depth≤n)→Trs.depth ts≤n
 | [],_=>by unfold Trs.depth;omega
 |t::ts,h=>by
  unfold Trs.depth
  have h1:=h t List.mem_cons_self
  have h2:=cX fun u m=>h u (List.mem_cons_of_mem t m)
  omega
end L2
namespace L2
open PySem PySem.Spec PyProof.Rows
section
variable {X:Cx}
def rNeP (K:PySem.W.Frag):R2:=fun x y H Q=>∃(p q:Addr) (a b c d:Int),x= .ref p∧y= .ref q∧SqT K H p [.int a, .int b]∧SqT K H q [.int c, .int d]∧Q (.bl (!decide (a=c∧b=d))) H
theorem vc (hu:X.A.units+1 < cLine):OpR X (compareOp .NotEq) (rNeP X.K):=by
 intro pins s σ H x y v u Q I rx ry h
 obtain ⟨p,q,a,b,c,d,e1,e2,hp,hq,k⟩:=h
 subst e1 e2
 cases (show v=Value.ref p from rx)
 cases (show u=Value.ref q from ry)
 obtain ⟨its,r1,t1,_⟩:=I.tuple hp
 obtain ⟨its2,r2,t2,_⟩:=I.tuple hq
 obtain ⟨u1,u2,rfl,⟨w1,rfl⟩,⟨w2,rfl⟩⟩:=Vals.two r1
 obtain ⟨u3,u4,rfl,⟨w3,rfl⟩,⟨w4,rfl⟩⟩:=Vals.two r2
 refine SeqAt.RcNeAt.tuples (A:=X.A) (e:=fun j=>if j=0 then a==c else b==d) (show s.heap.IsTuple p _ from t1) (show s.heap.IsTuple q _ from t2) (by omega) (fun j h1 h2=> ?_) X.prog X.w X.xe _ ?_
 · match j,h1,h2 with
   |0,_,_=>exact PySem.SeqAt.EqAt.int_int a w1 c w3
   |1,_,_=>exact PySem.SeqAt.EqAt.int_int b w2 d w4
   |j+2,h1,_=>
    have:j+2 < 2:=h1
    omega
 · refine ⟨.bl (!decide (a=c∧b=d)),H,I,?_,k⟩
   show Value.bool (!(((a==c)&& ((b==d)&&true))&&true))=Value.bool (!decide (a=c∧b=d))
   congr 2
   rw [Bool.and_true,Bool.and_true,Bool.eq_iff_iff]
   simp
end
end L2
namespace Tre
open PySem L2
theorem TrsAt.set {H:Hp} {v:V} {t:Tr} (hv:TrAt H v t):∀ {vs:List V} {ts:List Tr} {i:Nat},TrsAt H vs ts→TrsAt H (vs.set i v) (ts.set i t)
 |vs,[],i,h=>by
  unfold TrsAt at h
  subst h
  simp
  exact .nil
 |vs,u::ts,0,h=>by
  obtain ⟨w,r,rfl,h1,h2⟩:=h.inv
  exact .cons hv h2
 |vs,u::ts,i+1,h=>by
  obtain ⟨w,r,rfl,h1,h2⟩:=h.inv
  exact .cons h1 (TrsAt.set hv h2)
theorem fc {t:Tr} (h:Ty .tm t):∃ts,t= .tup ts:=by
 cases h<;>exact ⟨_,rfl⟩
end Tre
namespace Su
open PySem L2 Tre Mth Wd
theorem last_at {α:Type} {rs:List α} {y:α} (pos:0 < rs.length) (ey:rs[rs.length - 1]?=some y):atI rs (-1)=some y:=by
 unfold atI ixN
 rw [if_neg (by decide),if_pos (by omega),show (-1+(rs.length:Int)).toNat=rs.length - 1 by omega]
 exact ey
theorem tQ {n:Nat} (pos:0 < n):ixN n (-1)=some (n - 1):=by
 unfold ixN
 rw [if_neg (by decide),if_pos (by omega),show (-1+(n:Int)).toNat=n - 1 by omega]
theorem qw {α β:Type} {f:α→β} {us vs:List β} (h:us.Perm vs):∀ {ps:List α},vs=ps.map f→∃qs:List α,us=qs.map f∧qs.Perm ps:=by
 induction h with
 |nil=>intro ps e;exact ⟨[],rfl,by cases ps with|nil=>exact .nil|cons p ps=>simp at e⟩
 |cons x _ ih=>
  intro ps e
  cases ps with
  |nil=>simp at e
  |cons p ps=>
   rw [List.map_cons,List.cons.injEq] at e
   obtain ⟨qs,e1,e2⟩:=ih e.2
   exact ⟨p::qs,by rw [List.map_cons,e1,e.1],e2.cons p⟩
 |swap x y l=>
  intro ps e
  cases ps with
  |nil=>simp at e
  |cons p ps=>
   cases ps with
   |nil=>simp at e
   |cons q ps=>
    simp only [List.map_cons,List.cons.injEq] at e
    obtain ⟨e1,e2,e3⟩:=e
    exact ⟨q::p::ps,by simp only [List.map_cons,e1,e2,e3], .swap p q ps⟩
 |trans _ _ h1 h2=>
  intro ps e
  obtain ⟨ms,e1,p1⟩:=h2 e
  obtain ⟨qs,e2,p2⟩:=h1 e1
  exact ⟨qs,e2,p2.trans p1⟩
structure Gq (e:Nat) (p:Pq):Prop where
 ty:Ty .tm p.1
 dep:p.1.depth≤7
 gf:Gf e p.2
 sh:Sh p.2
theorem Gq.mono {m n:Nat} {p:Pq} (h:Gq m p) (hn:m≤n):Gq n p:=⟨h.ty,h.dep,h.gf.mono hn,h.sh⟩
theorem Gq.pr {e:Nat} {p:Pq} (h:Gq e p):Ty .pr (prT p)∧(prT p).depth≤8:=by
 refine ⟨.pr _ _ h.ty (.fr _ _),?_⟩
 have:=h.dep
 unfold prT frT
 simp only [Tr.depth,Trs.depth]
 omega
theorem d9 {α:Type} {us:List α} {i:Nat} {u:α} (e:us[i]?=some u):us.take (i+1)=us.take i++ [u]:=by
 rw [List.take_add_one,e]
 rfl
theorem u5 {p:Fr}:(!decide (p.1=0∧p.2=1))=decide (p≠zero):=by
 by_cases h:p=zero
 · subst h
   decide
 · have:¬(p.1=0∧p.2=1):=fun q=>h (Prod.ext q.1 q.2)
   simp [this,h]
open PySem L2 Tre Mth Wd
noncomputable def fX (q:Fr) (p:Pq):Pq:=(p.1,eA p.2 q)
def negF (f:Fr):Fr:=(-f.1,f.2)
def neg (p:Pq):Pq:=(p.1,negF p.2)
theorem uP {f:Fr} (h:Sh f):Sh (negF f):=ia h
theorem uR (f:Fr):rv (negF f)= -rv f:=by
 unfold rv negF
 simp only [Rat.intCast_neg]
 grind
theorem vX {e:Nat} {f:Fr} (h:Gf e f):Gf e (negF f):=⟨h.pos,by show (-f.1).natAbs < _;rw [Int.natAbs_neg];exact h.top,h.bot⟩
open Classical in
theorem sG (t:Tr) (ps:List Pq):tot t (ps.map neg)= -tot t ps:=by
 induction ps with
 |nil=>simp only [List.map_nil,tot];grind
 |cons p r ih=>
  simp only [List.map_cons,tot,ih]
  show (if p.1=t then rv (negF p.2) else 0)+_=_
  rw [uR]
  by_cases z:p.1=t
  · simp only [if_pos z];grind
  · simp only [if_neg z];grind
open Classical in
theorem oe (t:Tr) {q:Fr} (hq:Sh q) {ps:List Pq} (h:∀p∈ps,Sh p.2):tot t (ps.map (fX q))=tot t ps*rv q:=by
 induction ps with
 |nil=>simp only [List.map_nil,tot];grind
 |cons p r ih=>
  simp only [List.map_cons,tot,ih fun x m=>h x (List.mem_cons_of_mem _ m)]
  show (if p.1=t then rv (eA p.2 q) else 0)+_=_
  rw [qe (h p List.mem_cons_self) hq]
  by_cases z:p.1=t
  · simp only [if_pos z];grind
  · simp only [if_neg z];grind
theorem uc {ps:List Pq} (h:Asc ps) (hs:∀p∈ps,Sh p.2):Run ps ps:=⟨h,hs,fun _=>rfl,fun p m=>⟨p,m,rfl⟩⟩
theorem oO {q:Fr} {ps:List Pq} (h:Asc ps):Asc (ps.map (fX q)):=List.pairwise_map.mpr h
def m1:Fr:=(-1,1)
def p1:Fr:=(1,1)
theorem uu:Sh m1:=⟨by decide,by decide⟩
theorem wS:rv m1= -1:=by
 show ((-1:Int):Rat) / ((1:Int):Rat)= -1
 simp only [Rat.intCast_neg]
 have:((1:Int):Rat)=1:=by simp
 rw [this]
 grind
theorem gf_1 {p:Fr} (h:p=m1∨p=p1):Gf 1 p:=by
 rcases h with rfl|rfl
 · exact ⟨by decide,by show (1:Nat) < 2^1;decide,by show (1:Nat) < 2^1;decide⟩
 · exact ⟨by decide,by show (1:Nat) < 2^1;decide,by show (1:Nat) < 2^1;decide⟩
theorem Can.scaled {q:Fr} (hq:Sh q) {as us:List Pq} (ha:Asc as) (hs:∀p∈as,Sh p.2) (h:Can (as.map (fX q)) us) {e m:Nat} (he:∀p∈as,Gq e p) (hm:Gf m q):∀u∈us,Gq (e+m) u:=by
 have hs':∀p∈as.map (fX q),Sh p.2:=fun p mp=>by
  obtain ⟨x,mx,rfl⟩:=List.mem_map.mp mp
  exact gR (hs x mx) hq
 have e1:=h.uniq (uc (oO ha) hs').fin
 intro u mu
 rw [e1] at mu
 obtain ⟨x,mx,rfl⟩:=List.mem_map.mp (List.mem_filter.mp mu).1
 have g:=he x mx
 exact ⟨g.ty,g.dep,g.gf.times hm,gR g.sh hq⟩
noncomputable def mostT (us:List Pq) (b:Fr):Tr:= .tup [s_ "most", .tup (us.map prT),frT b]
end Su
namespace L2
theorem if_f {c:Bool} {p q:Prop} (h:c=false) (hq:q):if c=true then p else q:=by
 rw [h,if_neg (by decide)]
 exact hq
theorem ne_int {a b:Int} (h:a=b):(!decide (V.int a=V.int b))=false:=by
 rw [h,decide_eq_true rfl]
 rfl
theorem if_t {c:Bool} {p q:Prop} (h:c=true) (hp:p):if c=true then p else q:=by
 rw [h,if_pos rfl]
 exact hp
open PySem PySem.Spec PyProof.Rows
section
variable {X:Cx}
theorem gy:∀ {ys:List Str} {us:List Value},Vals (ys.map V.str) us→StrsAre us ys
 | [],_,r=>by cases r;exact .nil
 |y::ys,_,r=>by
  rw [List.map_cons] at r
  cases r with
  |cons r1 r2=>
   obtain ⟨t,rfl⟩:=r1
   exact .cons y t (gy r2)
def wY (K:PySem.W.Frag):V→List V→Hp→VK→Prop:=fun x vs H Q=>∃(sep:Str) (l:Addr) (ys:List Str),x= .str sep∧vs= [.ref l]∧SqL K H l (ys.map V.str)∧(ys.map (·.length)).sum+ys.length*sep.length≤16777216∧Q (.str (Txt.join sep ys)) H
theorem jt:MtM X "str.join" (wY X.K):=by
 intro pins s σ H x vs v us Q I rx rv h
 obtain ⟨sep,l,ys,rfl,rfl,hl,hz,q⟩:=h
 obtain ⟨t,rfl⟩:=rx
 obtain ⟨u,rfl,ru⟩:=rv.one
 cases ru
 obtain ⟨its,r,p,_⟩:=I.list hl
 exact PyProof.Rows.join_list p.isList (by simpa using gy r) hz fun t' k=>⟨.str _,H,I.tok k,⟨_,rfl⟩,q⟩
def rSlS:V→Option Int→Option Int→Hp→VK→Prop:=fun x lo hi H Q=>∃(z:Str),x= .str z∧z.length≤sizeLine∧Q (.str (Txt.slice z lo hi)) H
theorem ff:SlR X rSlS:=by
 intro pins s σ H x v vl vu lo hi sl Q I rx hs pl pu h
 obtain ⟨z,rfl,hz,q⟩:=h
 obtain ⟨t,rfl⟩:=rx
 obtain ⟨o,ho,hc,hd⟩:=hs
 refine ⟨"str",_,PySem.F.slot_str_getitem.lookup,typeIs_str _ _ _,?_⟩
 cases pl with
 |none=>
  cases pu with
  |none=>exact wpAny_getItem_str_slice (l:=none) (u:=none) (st:=none) ⟨o,ho,hc,hd⟩ rfl (post_val_or_str ⟨Nat.le_trans (Txt.slice_le z none none) hz,fun t' k=>⟨.str _,H,I.tok k,⟨_,rfl⟩,q⟩⟩)
  |int j tj=>exact wpAny_getItem_str_slice (l:=none) (u:=some (j,tj)) (st:=none) ⟨o,ho,hc,hd⟩ rfl (post_val_or_str ⟨Nat.le_trans (Txt.slice_le z none (some j)) hz,fun t' k=>⟨.str _,H,I.tok k,⟨_,rfl⟩,q⟩⟩)
 |int i ti=>
  cases pu with
  |none=>exact wpAny_getItem_str_slice (l:=some (i,ti)) (u:=none) (st:=none) ⟨o,ho,hc,hd⟩ rfl (post_val_or_str ⟨Nat.le_trans (Txt.slice_le z (some i) none) hz,fun t' k=>⟨.str _,H,I.tok k,⟨_,rfl⟩,q⟩⟩)
  |int j tj=>exact wpAny_getItem_str_slice (l:=some (i,ti)) (u:=some (j,tj)) (st:=none) ⟨o,ho,hc,hd⟩ rfl (post_val_or_str ⟨Nat.le_trans (Txt.slice_le z (some i) (some j)) hz,fun t' k=>⟨.str _,H,I.tok k,⟨_,rfl⟩,q⟩⟩)
end
section
variable {X:Cx}
def uW:R2:=fun x y H Q=>∃l b xs,x= .ref l∧y= .ref b∧H l=some (.lst xs)∧H b=some (.lst [])∧Q (.bl (!xs.isEmpty)) H
theorem qJ (hu:X.A.units+1 < cLine):OpR X (compareOp .NotEq) uW:=by
 intro pins s σ H x y v u Q I rx ry h
 obtain ⟨l,b,xs,rfl,rfl,hH,hB,q⟩:=h
 cases rx
 cases ry
 obtain ⟨its,r,pl,_⟩:=I.list (SqL.of hH)
 obtain ⟨its2,r2,pl2,_⟩:=I.list (SqL.of hB)
 cases r2
 have fin:∀k:Bool,k= !xs.isEmpty→EP X pins σ Q (.bool k) s:=fun k e=>by subst e;exact ⟨.bl _,H,I,rfl,q⟩
 cases r with
 |nil=>exact SeqAt.RcNeAt.lists (e:=fun _=>true) pl.isList pl2.isList rfl (by omega) (fun j h1 _=>absurd h1 (by simp)) X.prog X.w X.xe _ (fin _ rfl)
 |cons r1 r2=>exact SeqAt.RcNeAt.lists_lengths pl.isList pl2.isList (by simp) (by omega) X.prog X.w X.xe _ (fin _ rfl)
end
end L2
namespace Trm
open PySem
inductive Tm where
 |nm (x:Str)
 |ap (f:Str) (ts:List Tm)
def Ltr (c:Nat):Prop:=97≤c∧c≤122
structure Nm (x:Str):Prop where
 pos:0 < x.length
 le:x.length≤8
 ltr:∀c∈x.cps.toList,Ltr c
mutual
noncomputable def Tm.all:Tm→List Tm
 | .nm x=> [.nm x]
 | .ap f ts=>Tms.all ts++ [.ap f ts]
noncomputable def Tms.all:List Tm→List Tm
 | []=> []
 |t::ts=>Tm.all t++Tms.all ts
end
open PySem
def cl (x:Str):List Nat:=x.cps.toList
theorem aO (x y:Str):cl (x++y)=cl x++cl y:=by
 show (x.cps++y.cps).toList=_
 simp [cl]
theorem ax (x:Str):(cl x).length=x.length:=by simp [cl,Str.length]
end Trm
namespace L2
open PySem PySem.Spec PyProof.Rows
section
variable {X:Cx}
end
open PySem PySem.Spec PyProof.Rows
section
variable {prog:Program} {w:World} {A:Around} {R:Result→Shared→Prop} {it S:Addr} {fp wr:List Addr} {n:Nat} {P:Nat→Value→Prop} {St:Nat→Heap→Prop} {kw:List (Str×Value)}
end
section
variable {X:Cx}
end
end L2
namespace Trm
open PySem PySem.Spec PyProof.Rows L2
mutual
def TmAt (H:Hp):V→Tm→Prop
 |v, .nm x=>∃r,v= .ref r∧H r=some (.tup [.str "name", .str x])
 |v, .ap f ts=>∃r q vs,v= .ref r∧H r=some (.tup [.str "call", .str f, .ref q])∧H q=some (.tup vs)∧TmsAt H vs ts
def TmsAt (H:Hp):List V→List Tm→Prop
 |vs,[]=>vs= []
 |vs,t::ts=>∃v r,vs=v::r∧TmAt H v t∧TmsAt H r ts
end
theorem TmsAt.inv {H:Hp} {t:Tm} {vs:List V} {ts:List Tm} (h:TmsAt H vs (t::ts)):∃v r,vs=v::r∧TmAt H v t∧TmsAt H r ts:=by
 unfold TmsAt at h
 exact h
theorem TmsAt.len {H:Hp}:∀ {vs:List V} {ts:List Tm},TmsAt H vs ts→vs.length=ts.length
 |vs,[],h=>by
  unfold TmsAt at h
  rw [h]
  rfl
 |vs,t::ts,h=>by
  obtain ⟨v,r,e,_,h2⟩:=h.inv
  rw [e,List.length_cons,List.length_cons,h2.len]
theorem TmAt.ref {H:Hp} {v:V} {t:Tm} (h:TmAt H v t):∃r,v= .ref r:=by
 cases t with
 |nm x=>unfold TmAt at h;obtain ⟨r,e,_⟩:=h;exact ⟨r,e⟩
 |ap f ts=>unfold TmAt at h;obtain ⟨r,_,_,e,_⟩:=h;exact ⟨r,e⟩
section
variable {X:Cx} {pins:List (Addr×Obj)} {σ:L2.St} {H:Hp} {s:Shared} {A:Around}
def e2 (x y:Str):Nat→Bool
 |0=>true
 |_=>x==y
def e3 (x y:Str) (k:Bool):Nat→Bool
 |0=>true
 |1=>x==y
 |_=>k
def e0 (k:Bool):Nat→Bool
 |0=>false
 |_=>k
end
end Trm
namespace Dec
open PySem PySem.NumText L2 Mth
theorem nY:∀(ys:List Str),cl (Txt.join (Str.ofString "") ys)=(ys.map cl).flatten:=by
 intro ys
 have e:Txt.join (Str.ofString "") ys=Str.join (Str.ofString "") ys:=StrLaws.glued_eq_join _ _
 have e0:cl (Str.ofString "")= []:=by decide +kernel
 rw [e]
 induction ys with
 |nil=>rfl
 |cons y ys ih=>
  cases ys with
  |nil=>
   show cl y= [cl y].flatten
   simp
  |cons z ys=>
   have e2:Str.join (Str.ofString "") (y::z::ys)=y++Str.ofString ""++Str.join (Str.ofString "") (z::ys):=rfl
   rw [e2,aO,aO,e0,ih (StrLaws.glued_eq_join _ _)]
   simp
theorem ij (m:Nat):cl (Str.ofString (toString ((m:Nat):Int)))=ds m:=PySem.W.KIN.signs_num m
theorem ku:∀(ps:List Str),((ps.map cl).flatten).length=(ps.map (·.length)).sum
 | []=>rfl
 |p::ps=>by
  simp only [List.map_cons,List.flatten_cons,List.length_append,List.sum_cons]
  rw [ku ps,ax]
theorem kr (ps:List Str):((ps.reverse.map cl).flatten).length=(ps.map (·.length)).sum:=by
 rw [ku,List.map_reverse,List.sum_reverse]
theorem pz:∀ {ps:List Str},(∀p∈ps,0 < p.length)→ps.length≤(ps.map (·.length)).sum
 | [],_=>Nat.le_refl _
 |p::ps,h=>by
  have h1:=h p List.mem_cons_self
  have h2:=pz fun q m=>h q (List.mem_cons_of_mem p m)
  simp only [List.map_cons,List.sum_cons,List.length_cons]
  omega
theorem lQ {m:Nat} (h:m < 10^200):((m:Nat):Int).natAbs.log2 < 1920:=by
 rw [Int.natAbs_natCast]
 by_cases z:m=0
 · subst z
   decide
 · rw [Nat.log2_lt z]
   exact Nat.lt_of_lt_of_le h (by decide +kernel)
theorem wu (x:Int):(if x < 0 then -x else x)=(x.natAbs:Int):=by split<;>omega
theorem e_cl:cl (Str.ofString "")= []:=by decide +kernel
theorem m_cl:cl (Str.ofString "-")= [45]:=by decide +kernel
theorem s_cl:cl (Str.ofString "/")= [47]:=by decide +kernel
theorem len_app (x y:Str):(x++y).length=x.length+y.length:=by rw [←ax,aO,List.length_append,ax,ax]
theorem sF {x y:Int} (hx:x.natAbs < 10^200) (hy:y.natAbs < 10^200):(txt x y).length≤402:=by
 unfold txt sg low
 have h1:=cP 199 hx
 have h2:=cP 199 hy
 simp only [List.length_append]
 split<;>split<;>simp<;>omega
theorem jE (x:Int):cl (Str.ofString (toString x))=sg x++ds x.natAbs:=by
 cases x with
 |ofNat m=>
  unfold sg
  rw [if_neg (by simp)]
  exact ij m
 |negSucc m=>
  unfold sg
  rw [if_pos (Int.negSucc_lt_zero m)]
  have h:=ij (m+1)
  unfold cl at h ⊢
  rw [PyProof.Rows.signs_ofString] at h ⊢
  have e:(toString (Int.negSucc m))= "-"++toString (((m+1:Nat):Int)):=rfl
  rw [e,String.toList_append,List.map_append,h]
  rfl
end Dec
namespace Tw
open PySem L2 Tre Wd Mth Dec Su
mutual
noncomputable def tmC:Tr→List Nat
 | .tup (_:: .str x::r)=>match r with
  | []=>cl x
  |t::_=>40::cl x++tmK t++ [41]
 |_=> []
noncomputable def tmK:Tr→List Nat
 | .tup ts=>tmsC ts
 |_=> []
noncomputable def tmsC:List Tr→List Nat
 | []=> []
 |t::ts=>32::tmC t++tmsC ts
end
theorem j7 (k x:Str):tmC (.tup [.str k, .str x])=cl x:=by rw [tmC]
theorem gg (k x:Str) (ts:List Tr):tmC (.tup [.str k, .str x, .tup ts])=40::cl x++tmsC ts++ [41]:=by rw [tmC,tmK]
noncomputable def spC (cs:List (List Nat)):List Nat:=(cs.map (32:: ·)).flatten
theorem eK:∀ts,tmsC ts=spC (ts.map tmC)
 | []=>by rw [tmsC];rfl
 |t::ts=>by
  rw [tmsC,eK ts]
  rfl
theorem eQ (a b:List (List Nat)):spC (a++b)=spC a++spC b:=by
 unfold spC
 rw [List.map_append,List.flatten_append]
theorem eP (c:List Nat):spC [c]=32::c:=by simp [spC]
theorem cw {B:Nat}:∀ {cs:List (List Nat)},(∀c∈cs,c.length≤B)→(spC cs).length≤cs.length*(B+1)
 | [],_=>Nat.zero_le _
 |c::cs,h=>by
  have h1:=h c List.mem_cons_self
  have h2:=cw fun d m=>h d (List.mem_cons_of_mem c m)
  have e:spC (c::cs)=(32::c)++spC cs:=rfl
  rw [e,List.length_append,List.length_cons,List.length_cons,Nat.succ_mul]
  omega
theorem name_len {k x:Str} {d:Nat} (h:x.length≤8):(tmC (.tup [.str k, .str x])).length≤13*4^d:=by
 rw [j7,ax]
 have:=Nat.pow_pos (n:=d) (show 0 < 4 by decide)
 omega
theorem call_len {k x:Str} {ts:List Tr} {d:Nat} (h:x.length≤8) (h3:ts.length≤3) (h0:0 < d) (hw:∀t∈ts,(tmC t).length≤13*4^(d - 1)):(tmC (.tup [.str k, .str x, .tup ts])).length≤13*4^d:=by
 obtain ⟨e,rfl⟩:∃e,d=e+1:=⟨d - 1,by omega⟩
 rw [gg,eK]
 rw [show e+1 - 1=e by omega] at hw
 have h2:=cw (B:=13*4^e) (cs:=ts.map tmC) (fun c m=>by
  obtain ⟨t,mt,rfl⟩:=List.mem_map.mp m
  exact hw t mt)
 rw [List.length_map] at h2
 have h4:ts.length*(13*4^e+1)≤3*(13*4^e+1):=Nat.mul_le_mul_right _ h3
 have h5:=Nat.pow_pos (n:=e) (show 0 < 4 by decide)
 simp only [List.length_append,List.length_cons,List.length_nil,ax]
 rw [Nat.pow_succ]
 omega
theorem jQ:cl (Str.ofString " ")= [32]:=by decide +kernel
theorem uC:cl (Str.ofString "(")= [40]:=by decide +kernel
theorem jV:cl (Str.ofString ")")= [41]:=by decide +kernel
theorem sj (y:Str) (ys:List Str):cl (Txt.join (Str.ofString " ") (y::ys))=cl y++spC (ys.map cl):=by
 have e:Txt.join (Str.ofString " ") (y::ys)=Str.join (Str.ofString " ") (y::ys):=StrLaws.glued_eq_join _ _
 rw [e]
 clear e
 induction ys generalizing y with
 |nil=>
  show cl y=cl y++spC []
  simp [spC]
 |cons z ys ih=>
  have e2:Str.join (Str.ofString " ") (y::z::ys)=y++Str.ofString " "++Str.join (Str.ofString " ") (z::ys):=rfl
  rw [e2,aO,aO,jQ,ih z]
  simp [spC]
theorem pw {B:Nat}:∀ {ys:List Str},(∀y∈ys,y.length≤B)→(ys.map (·.length)).sum≤ys.length*B
 | [],_=>Nat.zero_le _
 |y::ys,h=>by
  have h1:=h y List.mem_cons_self
  have h2:=pw fun z m=>h z (List.mem_cons_of_mem y m)
  simp only [List.map_cons,List.sum_cons,List.length_cons]
  rw [Nat.succ_mul]
  omega
noncomputable def frC (p:Fr):List Nat:=txt p.1 p.2
theorem p9:(2:Nat)^200≤10^200:=Nat.pow_le_pow_left (by decide) _
theorem Gfl {p:Fr} (h:Gf 200 p):p.1.natAbs < 10^200∧p.2.natAbs < 10^200:=⟨Nat.lt_of_lt_of_le h.top p9,Nat.lt_of_lt_of_le h.bot p9⟩
theorem dX {p:Fr} (h:Gf 200 p):(frC p).length≤402:=sF (Gfl h).1 (Gfl h).2
inductive Gm:Tr→Prop
 |nm (x:Str):Trm.Nm x→Gm (.tup [s_ "name", .str x])
 |ap (f:Str) (ts:List Tr):Trm.Nm f→0 < ts.length→ts.length≤3→(∀t∈ts,Gm t)→Gm (.tup [s_ "call", .str f, .tup ts])
structure Tb (t:Tr):Prop where
 ty:Ty .tm t
 dep:t.depth≤7
 len:(tmC t).length≤1000
 gm:Gm t
structure Pb (p:Pq):Prop where
 tb:Tb p.1
 gf:Gf 200 p.2
 sh:Sh p.2
noncomputable def prC (p:Pq):List (List Nat):= [frC p.2,tmC p.1]
def hd (k:Str):List Nat:=40::cl k
inductive Wx:Nat→Tr→List Nat→Prop
 |fl (n:Nat) (x:Str):Trm.Nm x→Wx n (.tup [s_ "flag", .str x]) (cl x)
 |mo (n:Nat) (ps:List Pq) (f:Fr):ps.length≤3→(∀p∈ps,Pb p)→Gf 200 f→Can ps ps→Sh f→Wx n (.tup [s_ "most", .tup (ps.map prT),frT f]) (hd "most"++spC (ps.flatMap prC++ [frC f])++ [41])
 |li (n:Nat) (t u:Tr):Tb t→Tb u→Wx n (.tup [s_ "like",t,u]) (hd "like"++spC [tmC t,tmC u]++ [41])
 |no (n:Nat) (t:Tr) (c:List Nat):Wx n t c→Wx (n+1) (.tup [s_ "not",t]) (hd "not"++spC [c]++ [41])
 |bo (n:Nat) (l:List (Tr×List Nat)):l.length≤3→(∀p∈l,Wx n p.1 p.2)→Wx (n+1) (.tup [s_ "both", .tup (l.map (·.1))]) (hd "all"++spC (l.map (·.2))++ [41])
 |ei (n:Nat) (l:List (Tr×List Nat)):l.length≤3→(∀p∈l,Wx n p.1 p.2)→Wx (n+1) (.tup [s_ "either", .tup (l.map (·.1))]) (hd "any"++spC (l.map (·.2))++ [41])
theorem vV:(hd "most").length=5∧(hd "like").length=5∧(hd "not").length=4∧(hd "all").length=4∧(hd "any").length=4:=by decide +kernel
theorem gi {ps:List Pq} (h:∀p∈ps,Pb p):∀c∈ps.flatMap prC,c.length≤1000:=fun c m=>by
 obtain ⟨p,mp,mc⟩:=List.mem_flatMap.mp m
 have hp:=h p mp
 rcases List.mem_cons.mp mc with rfl|mc
 · have:=dX hp.gf
   omega
 · rw [List.mem_singleton.mp mc]
   exact hp.tb.len
theorem eV (ps:List Pq):(ps.flatMap prC).length=2*ps.length:=by
 induction ps with
 |nil=>rfl
 |cons p ps ih=>
  rw [List.flatMap_cons,List.length_append,ih,List.length_cons]
  show 2+_=_
  omega
theorem Wx.len {n:Nat} {t:Tr} {c:List Nat} (h:Wx n t c):c.length≤8000*4^n:=by
 have hh:=vV
 induction h with
 |fl n x h=>
  rw [ax]
  have:=h.le
  have:=Nat.pow_pos (n:=n) (show 0 < 4 by decide)
  omega
 |mo n ps f h1 h2 h3 _ _=>
  have h4:=cw (B:=1000) (cs:=ps.flatMap prC++ [frC f]) (fun c m=>by
   rcases List.mem_append.mp m with m|m
   · exact gi h2 c m
   · rw [List.mem_singleton.mp m]
     have:=dX h3
     omega)
  rw [List.length_append,eV,List.length_singleton] at h4
  have h5:(2*ps.length+1)*(1000+1)≤7*1001:=Nat.mul_le_mul_right _ (by omega)
  have:=Nat.pow_pos (n:=n) (show 0 < 4 by decide)
  simp only [List.length_append,List.length_singleton,hh.1]
  omega
 |li n t u h1 h2=>
  have h3:=h1.len
  have h4:=h2.len
  have:=Nat.pow_pos (n:=n) (show 0 < 4 by decide)
  simp only [List.length_append,List.length_singleton,hh.2.1,spC,List.map_cons,List.map_nil,List.flatten_cons,List.flatten_nil,List.length_cons,List.length_nil]
  omega
 |no n t c _ ih=>
  have:=Nat.pow_pos (n:=n) (show 0 < 4 by decide)
  rw [eP,Nat.pow_succ]
  simp only [List.length_append,List.length_singleton,hh.2.2.1,List.length_cons,List.length_nil]
  omega
 |bo n l h1 h2 ih=>
  have h4:=cw (B:=8000*4^n) (cs:=l.map (·.2)) (fun c m=>by
   obtain ⟨p,mp,rfl⟩:=List.mem_map.mp m
   exact ih p mp)
  rw [List.length_map] at h4
  have h5:l.length*(8000*4^n+1)≤3*(8000*4^n+1):=Nat.mul_le_mul_right _ h1
  have:=Nat.pow_pos (n:=n) (show 0 < 4 by decide)
  rw [Nat.pow_succ]
  simp only [List.length_append,List.length_singleton,hh.2.2.2.1]
  omega
 |ei n l h1 h2 ih=>
  have h4:=cw (B:=8000*4^n) (cs:=l.map (·.2)) (fun c m=>by
   obtain ⟨p,mp,rfl⟩:=List.mem_map.mp m
   exact ih p mp)
  rw [List.length_map] at h4
  have h5:l.length*(8000*4^n+1)≤3*(8000*4^n+1):=Nat.mul_le_mul_right _ h1
  have:=Nat.pow_pos (n:=n) (show 0 < 4 by decide)
  rw [Nat.pow_succ]
  simp only [List.length_append,List.length_singleton,hh.2.2.2.2]
  omega
theorem lG {n:Nat} (h:n≤3):8000*4^n≤512000:=by
 have:4^n≤4^3:=Nat.pow_le_pow_right (by decide) h
 omega
end Tw
namespace K12
open PySem PySem.NumText L2 Mth Dec Tre Wd
abbrev PW:Nat:=10^64
section
variable {P:Program} {w:World} {K:PySem.W.Frag} {mg:Str→Option Value} {base:Heap}
def spFg:Sp:=fun vs H Q _=>∃(n:Nat),vs= [.int (n:Int)]∧n < 10^200∧∀(z:Str) (H':Hp),Same H H'→cl z=ds n→Q (.str z) H'
theorem scFg:aA ["number","pieces"] ["number"] (ae sFg):=⟨rfl,rfl,rfl,by decide +kernel,rfl,by decide +kernel,by decide +kernel⟩
theorem xj {f:Addr} {fd:FuncData} {tp tw:Tok} (F:Fun K "figures_of" "figures_of" sFg f fd) (B:Blt mg) (mP:mg "PIECE"=some (.int 64 tp)) (mW:mg "PIECE_WORTH"=some (.int ((PW:Nat):Int) tw)):FnOk P w K mg base CX0 1 f fd ["number"] spFg:=by
 refine F.ok scFg (fun vs H Q E h=> ?_) (fun cdv A outer s H vs Q E hr h=> ?_)
 · obtain ⟨n,rfl,_⟩:=h
   rfl
 obtain ⟨n,rfl,hn,k⟩:=h
 refine ⟨_,aa (aq (i:=1) scFg.nd rfl (Or.inl rfl) (bn a9))
  (aa (gX PassesOwn.never (am uy (pv 0) (bR (v:= .int ((PW:Nat):Int)) rfl mW ⟨_,rfl⟩) (au _))
   (aa (cg (bZ PySem.F.plainAttrs_list PySem.F.slot_list_append PySem.F.type_list_append bf (pv 1) (a7
    (bZ PySem.F.plainAttrs_str PySem.F.slot_str_zfill PySem.F.type_str_zfill re (aU c6 rfl B.st PyProof.Rows.boot_str (a7 (ao c9 (pv 0) (bR (v:= .int ((PW:Nat):Int)) rfl mW ⟨_,rfl⟩)) a9)) (a7 (bR (v:= .int 64) rfl mP ⟨_,rfl⟩) a9)) a9)))
   (ag (aq (i:=0) scFg.nd rfl (Or.inl rfl) (ao be (pv 0) (bR (v:= .int ((PW:Nat):Int)) rfl mW ⟨_,rfl⟩))))))
  (ag (aj (ao az (aU c6 rfl B.st PyProof.Rows.boot_str (a7 (pv 0) a9)) (qz rfl rfl B.rv (pv 1)))))),?_⟩
 have hL:(20000:Nat)≤sizeLine:=by decide +kernel
 refine ⟨by show 0≤sizeLine;decide,fun L nL=> ?_⟩
 refine gv (fun σ H'=>Same H H'∧∃(m:Nat) (ps:List Str),σ= [some (.int (m:Int)),some (.ref L)]∧H' L=some (.lst (ps.map V.str))∧(∀p∈ps,0 < p.length)∧m≤n∧ds n=ds m++(ps.reverse.map cl).flatten)
  (fun σ _=>match σ with| [some (.int y),_]=>y.natAbs|_=>0) ⟨af nL,n,[],rfl,ac,(fun p m=>by cases m),Nat.le_refl _,by simp⟩ ?_ ?_
 · rintro σ H' ⟨sH,m,ps,rfl,hLs,hp,hm,e⟩
   have hm200:m < 10^200:=Nat.lt_of_le_of_lt hm hn
   have hlen:=congrArg List.length e
   rw [List.length_append,kr] at hlen
   have hn2:=cP 199 hn
   have hps:=pz hp
   refine ⟨_,rfl,_,_,rfl,rfl,_,rfl,?_⟩
   by_cases z:((PW:Nat):Int)≤(m:Int)
   · have zN:PW≤m:=by omega
     rw [decide_eq_true z]
     refine iteT ?_
     have er:(m:Int)%((PW:Nat):Int)=((m%PW:Nat):Int):=(Int.natCast_emod m PW).symm
     have ed:(m:Int) / ((PW:Nat):Int)=((m / PW:Nat):Int):=(Int.natCast_ediv m PW).symm
     have hr64:m%PW < PW:=Nat.mod_lt _ (Nat.pow_pos (by decide))
     have key:cl (Str.ofString (toString ((m:Int)%((PW:Nat):Int))))=ds (m%PW):=by rw [er];exact ij _
     have hlog:((m:Int)%((PW:Nat):Int)).natAbs.log2 < 1920:=by rw [er];exact lQ (Nat.lt_of_lt_of_le hr64 (by decide +kernel))
     have hz:=sf (k:=63) key hr64
     refine ⟨_,rfl, .inl ⟨rfl,_,SqL.of hLs⟩,_,rfl,_,_,rfl,rfl,by show (0:Int) < ((PW:Nat):Int);decide +kernel,_,rfl,hlog,rfl,_,64,rfl,rfl,by decide +kernel,L,_,_,rfl,rfl,hLs,by rw [List.length_map];omega,?_⟩
     refine ⟨_,rfl,_,_,rfl,rfl,⟨by show (0:Int) < ((PW:Nat):Int);decide +kernel,by show (((PW:Nat):Int)).natAbs < 2^8000;decide +kernel⟩,?_⟩
     refine ⟨⟨cf nL sH,m / PW,ps++ [Txt.zfill (Str.ofString (toString ((m:Int)%((PW:Nat):Int)))) 64],?_,?_,fun p mp=> ?_,Nat.le_trans (Nat.div_le_self _ _) hm,?_⟩,?_⟩
     · rw [←ed]
       rfl
     · rw [ac,List.map_append]
       rfl
     · rcases List.mem_append.mp mp with mp|mp
       · exact hp p mp
       · rw [List.mem_singleton.mp mp,←ax]
         show 0 < (cl (Txt.zfill _ ((63+1:Nat):Int))).length
         rw [hz,ng]
         decide
     · have e2:=rT (q:=m / PW) (Nat.div_pos zN (Nat.pow_pos (by decide))) 64 (r:=m%PW) hr64
       rw [Nat.div_add_mod'] at e2
       rw [e,e2,List.reverse_append,List.append_assoc]
       show _=ds (m / PW)++((Txt.zfill _ ((63+1:Nat):Int)::ps.reverse).map cl).flatten
       rw [List.map_cons,List.flatten_cons,hz]
     · show ((m:Int) / ((PW:Nat):Int)).natAbs < ((m:Int)).natAbs
       rw [ed,Int.natAbs_natCast,Int.natAbs_natCast]
       exact Nat.div_lt_self (by omega) (by decide +kernel)
   · rw [decide_eq_false z]
     refine iteF ?_
     have hj:(Txt.join (Str.ofString "") ps.reverse).length=(ps.map (·.length)).sum:=by rw [←ax,nY,kr]
     have hs:(Str.ofString (toString (m:Int))).length=(ds m).length:=by rw [←ax,ij]
     have e0:(Str.ofString "").length=0:=by decide +kernel
     refine ⟨_,rfl,_,rfl,lQ hm200,_,rfl,L,ps,rfl,hLs,by rw [e0];omega,_,_,rfl,rfl,by rw [hj,hs];omega,?_⟩
     refine k _ H' sH ?_
     rw [aO,nY,ij,e]
 · intro σ H' R R' hR h
   obtain ⟨v,e1,a,b,e2,e3,q,e4,h⟩:=h
   exact ⟨v,e1,a,b,e2,e3,q,e4,hR _ _ h⟩
def spFt (K:PySem.W.Frag):Sp:=fun vs H Q _=>∃(p:Addr) (x y:Int),vs= [.ref p]∧SqT K H p [.int x, .int y]∧0 < y∧x.natAbs < 10^200∧y.natAbs < 10^200∧∀(z:Str) (H':Hp),Same H H'→cl z=txt x y→Q (.str z) H'
theorem scFt:aA ["one","top","bottom","sign","share"] ["one"] (ae sFt):=⟨rfl,rfl,rfl,by decide +kernel,rfl,by decide +kernel,by decide +kernel⟩
theorem xg {f fG:Addr} {fd fdG:FuncData} (F:Fun K "fraction_text" "fraction_text" sFt f fd) (B:Blt mg) (GG:FnOk P w K mg base CX0 1 fG fdG ["number"] spFg) (kG:PySem.W.keepIn K (.ref fG)=true) (bG:Binds K fdG ["number"] []) (mG:mg "figures_of"=some (.ref fG)):FnOk P w K mg base CX0 2 f fd ["one"] (spFt K):=by
 refine F.ok scFt (fun vs H Q E h=> ?_) (fun cdv A outer s H vs Q E hr h=> ?_)
 · obtain ⟨p,x,y,rfl,_⟩:=h
   rfl
 obtain ⟨p,x,y,rfl,hp,y0,hx,hy,k⟩:=h
 refine ⟨_,aa (fw (pv 0) (dk rfl (aY (aL (i:=1) scFt.nd rfl (Or.inl rfl)) (aY (aL (i:=2) scFt.nd rfl (Or.inl rfl)) cI))))
  (aa (aq (i:=3) scFt.nd rfl (Or.inl rfl) (bK (am jZ (pv 1) ad (au _)) ai ai))
  (aa (aq (i:=4) scFt.nd rfl (Or.inl rfl) (bK (am aP (pv 2) ad (au _)) ai (ao az ai (ah GG hr rfl mG kG bG .nil ar (a7 (pv 2) a9)))))
  (ag (aj (ao az (ao az (pv 3) (ah GG hr rfl mG kG bG .nil ar (a7 (aD ik rfl B.ab im (a7 (pv 1) a9)) a9))) (pv 4)))))),?_⟩
 have hL:(20000:Nat)≤sizeLine:=by decide +kernel
 have l1:=cP 199 hx
 have l2:=cP 199 hy
 have ey:((y.natAbs:Nat):Int)=y:=by omega
 refine ⟨_,rfl,p,_,rfl,hp,rfl,_,_,rfl,_,_,rfl,rfl,?_⟩
 have last:∀(H1:Hp) (sT hT:Str),Same H H1→cl sT=sg x→cl hT=(if y=1 then [] else 47::ds y.natAbs)→
  (tRet (tOp (fun x y H Q=>∃i j,x= .str i∧y= .str j∧i.length+j.length≤sizeLine∧Q (.str (i++j)) H) (tOp (fun x y H Q=>∃i j,x= .str i∧y= .str j∧i.length+j.length≤sizeLine∧Q (.str (i++j)) H) (tVar 3) (eL spFg [] E0 (bp (tCB (fun xs H Q=>∃i,xs= [.int i]∧Q (.int (if i < 0 then -i else i)) H) (bp (tVar 1) tNil)) tNil))) (tVar 4)))
   {nx:=fun _ H'=>Q .non H',rt:=Q} [some (.ref p),some (.int x),some (.int y),some (.str sT),some (.str hT)] H1:=by
  intro H1 sT hT s1 es eh
  have a1:sT.length≤1:=by
   rw [←ax,es]
   unfold sg
   split<;>simp
  have a2:hT.length≤201:=by
   rw [←ax,eh]
   split<;>simp<;>omega
  refine ⟨_,rfl,_,rfl,x,rfl,x.natAbs,by rw [wu];rfl,hx,fun z H2 s2 ez=> ?_⟩
  have a3:z.length≤200:=by rw [←ax,ez];exact l1
  refine ⟨_,_,rfl,rfl,by omega,_,rfl,_,_,rfl,rfl,by rw [len_app];omega,?_⟩
  refine k _ H2 (s1.trans s2) ?_
  rw [aO,aO,es,ez,eh]
  unfold txt low
  rw [List.append_assoc]
 have share:∀sT:Str,cl sT=sg x→(tSeq (tAsg (tIf (tB (tOp rEq (tVar 2) (tC (.int 1)))) (tC (.str (Str.ofString ""))) (tOp (fun x y H Q=>∃i j,x= .str i∧y= .str j∧i.length+j.length≤sizeLine∧Q (.str (i++j)) H) (tC (.str (Str.ofString "/"))) (eL spFg [] E0 (bp (tVar 2) tNil)))) (cv 4))
  (tRet (tOp (fun x y H Q=>∃i j,x= .str i∧y= .str j∧i.length+j.length≤sizeLine∧Q (.str (i++j)) H) (tOp (fun x y H Q=>∃i j,x= .str i∧y= .str j∧i.length+j.length≤sizeLine∧Q (.str (i++j)) H) (tVar 3) (eL spFg [] E0 (bp (tCB (fun xs H Q=>∃i,xs= [.int i]∧Q (.int (if i < 0 then -i else i)) H) (bp (tVar 1) tNil)) tNil))) (tVar 4))))
   {nx:=fun _ H'=>Q .non H',rt:=Q} [some (.ref p),some (.int x),some (.int y),some (.str sT),none] H:=by
  intro sT es
  refine ⟨_,rfl,rfl,_,rfl,?_⟩
  by_cases e:y=1
  · rw [decide_eq_true (show V.int y=V.int 1 by rw [e])]
    refine iteT ?_
    exact last H sT _ (Same.refl H) es (by rw [if_pos e];exact e_cl)
  · rw [decide_eq_false (show¬V.int y=V.int 1 from fun q=>e (V.int.inj q))]
    refine iteF ?_
    refine ⟨_,rfl,y.natAbs,by rw [ey];rfl,hy,fun z H2 s2 ez=> ?_⟩
    have a3:z.length≤200:=by rw [←ax,ez];exact l2
    have a4:(Str.ofString "/").length=1:=by decide +kernel
    refine ⟨_,_,rfl,rfl,by omega,?_⟩
    exact last H2 sT _ s2 es (by rw [if_neg e,aO,s_cl,ez];rfl)
 refine ⟨_,rfl,_,_,rfl,rfl,_,rfl,?_⟩
 by_cases e:x < 0
 · rw [decide_eq_true e]
   refine iteT ?_
   exact share _ (by unfold sg;rw [if_pos e];exact m_cl)
 · rw [decide_eq_false e]
   refine iteF ?_
   exact share _ (by unfold sg;rw [if_neg e];exact e_cl)
end
end K12
namespace L2
open PySem PySem.Spec PyProof.Rows
section
variable {X:Cx} {CX:CXT} {k i:Nat} {f:Addr} {fd:FuncData} {ps:List Str} {sp:Sp} {x y:Str} {p py pos epos:Pos} {e:Expr} {es:List Expr} {t:TA}
end
section
variable {X:Cx} {pins:List (Addr×Obj)} {σ σ':St} {H:Hp} {s:Shared} {h9:Heap} {tk:Nat}
end
section
variable {X:Cx} {body suite:List Stmt} {b0:Stmt} {tb:TSX} {ts:TS} {i:Nat} {n cx:Str} {np hpos pos:Pos} {W:Addr}
end
section
variable {X:Cx} {k:Nat} {f a:Addr} {fd:FuncData} {ps:List Str} {sp:Sp} {E:XK} {x:Str} {p pos:Pos} {e:Expr} {es:List Expr} {t:TA}
end
open PySem PySem.Spec PyProof.Rows
theorem lE {X:Cx} {b:List Stmt}:PSs X b (fun _ _ _=>False):=fun _ _ _ _ _ _ h=>h.elim
end L2
namespace K12
open PySem L2 Mth
section
variable {P:Program} {w:World} {K:PySem.W.Frag} {mg:Str→Option Value} {base:Heap}
def spFr:Sp:=fun vs H Q _=>∃(t b:Int),vs= [.int t, .int b]∧Big t∧Big b∧b≠0∧(∀p,H p=none→Q (.ref p) (upd H p (.tup [.int (fx t b), .int (fy t b)])))
theorem scF:aA ["top","bottom","divisor"] ["top","bottom"] (ae sFr):=⟨rfl,rfl,rfl,by decide +kernel,rfl,by decide +kernel,by decide +kernel⟩
theorem xh {f fC:Addr} {fd fdC:FuncData} (F:Fun K "fraction" "fraction" sFr f fd) (FC:Fun K "common_divisor" "common_divisor" sCd fC fdC) (bC:Binds K fdC ["one","other"] []) (mC:mg "common_divisor"=some (.ref fC)) (B:Blt mg):FnOk P w K mg base CX0 3 f fd ["top","bottom"] spFr:=by
 have GC:FnOk P w K mg base CX0 1 fC fdC ["one","other"] spCd:=qV FC B
 refine F.ok scF (fun vs H Q E h=> ?_) (fun cdv A outer s H vs Q E hr h=> ?_)
 · obtain ⟨a,b,rfl,_⟩:=h
   rfl
 · obtain ⟨t,b,rfl,ht,hb,z,kQ⟩:=h
   have hr1:Room 1 _:=hr.mono (by decide)
   refine ⟨_,aa (aK (am aP (pv 1) ad (au _)) lE av)
    (aa (aq (i:=2) scF.nd rfl (Or.inl rfl) (ah GC hr1 rfl mC FC.kp bC .nil ar (a7 (pv 0) (a7 (pv 1) a9))))
    (aa (aK (am jZ (pv 1) ad (au _)) (ag (aq (i:=2) scF.nd rfl (Or.inl rfl) (ck bw (pv 2)))) av)
    (ag (aj (aE (a7 (ao k4 (pv 0) (pv 2)) (a7 (ao k4 (pv 1) (pv 2)) a9))))))),?_⟩
   refine ⟨_,rfl,rfl,_,rfl,?_⟩
   · have z':¬(V.int b=V.int 0):=fun q=>z (V.int.inj q)
     rw [decide_eq_false z']
     refine iteF ?_
     refine ⟨_,rfl,_,rfl,t,b,rfl,?_⟩
     have bg:=cL (t:=t) hb z
     have n0:=rP (t:=t) z
     have last:∀d:Int,d=dv t b→∀H':Hp,H'=H→((tRet (tTup (bp (tOp (rI (fun _ j=>j≠0∧Big j) fun i j=> .int (i.fdiv j)) (tVar 0) (tVar 2)) (bp (tOp (rI (fun _ j=>j≠0∧Big j) fun i j=> .int (i.fdiv j)) (tVar 1) (tVar 2)) tNil))))
      {nx:=fun _ H'=>Q .non H',rt:=Q} [some (.int t),some (.int b),some (.int d)] H'):=by
      intro d hd H' hH
      subst hH
      have bd:Big d:=by
       rw [hd]
       unfold Big at*
       rw [rQ]
       omega
      have nd:d≠0:=by rw [hd];exact n0
      refine ⟨_,rfl,_,rfl,t,d,rfl,rfl,⟨nd,bd⟩,_,rfl,_,rfl,b,d,rfl,rfl,⟨nd,bd⟩,by show 2≤sizeLine;decide,fun p hp=> ?_⟩
      have:=kQ p hp
      unfold fx fy at this
      rw [←hd] at this
      exact this
     refine ⟨_,rfl,b,0,rfl,rfl,_,rfl,?_⟩
     by_cases zb:b < 0
     · rw [decide_eq_true zb]
       refine iteT ?_
       refine ⟨_,rfl,_,rfl,?_⟩
       exact last _ (by unfold dv;rw [if_pos zb]) H rfl
     · rw [decide_eq_false zb]
       refine iteF ?_
       exact last _ (by unfold dv;rw [if_neg zb]) H rfl
end
end K12
namespace Dec
open PySem PySem.NumText L2 Mth
theorem si {z:Str} {i j:Nat} (h1:i≤j) (h2:j≤(cl z).length):cl (Txt.slice z (some (i:Int)) (some (j:Int)))=((cl z).drop i).take (j - i):=by
 have:=PyProof.Rows.slice_closesL (x:=z) (i:=i) (j:=j) (by omega) (by omega) (by rw [←ax];omega)
 rw [eq_of_beq this]
 unfold cl
 simp
theorem xC {z:Str} {j:Nat} (h2:j≤(cl z).length):cl (Txt.slice z none (some (j:Int)))=(cl z).take j:=by
 have:=PyProof.Rows.slice_closes_toL (x:=z) (j:=j) (by omega) (by rw [←ax];omega)
 rw [eq_of_beq this]
 unfold cl
 simp
theorem fR {l:List Nat} (h:AllDigits l) (i:Nat):AllDigits (l.take i):=fun c m=>h c (List.mem_of_mem_take m)
theorem oK {l:List Nat} (h:AllDigits l) (i:Nat):AllDigits (l.drop i):=fun c m=>h c (List.mem_of_mem_drop m)
theorem oR {l:List Nat} {a k:Nat} (h:a+k≤l.length):digitsVal (l.take (a+k))=digitsVal (l.take a)*10^k+digitsVal ((l.drop a).take k):=by
 rw [List.take_add,mh,List.length_take,List.length_drop]
 rw [show min k (l.length - a)=k by omega]
theorem ux {x:Str} (h:AllDigits (cl x)) (h1:cl x≠ []) (h2:x.length≤640):PySem.intText? x=some ((digitsVal (cl x):Nat):Int):=intText_digits h h1 (Nat.le_trans h2 (by decide))
end Dec
namespace K12
open PySem PySem.NumText L2 Mth Dec
section
variable {P:Program} {w:World} {K:PySem.W.Frag} {mg:Str→Option Value} {base:Heap}
def spAf:Sp:=fun vs H Q _=>∃(z:Str),vs= [.str z]∧∀b:Bool,(b=true↔(cl z≠ []∧AllDigits (cl z)))→Q (.bl b) H
theorem scAf:aA ["text"] ["text"] (ae sAf):=⟨rfl,rfl,rfl,by decide +kernel,rfl,by decide +kernel,by decide +kernel⟩
theorem xm {f:Addr} {fd:FuncData} (F:Fun K "are_figures" "are_figures" sAf f fd):FnOk P w K mg base CX0 1 f fd ["text"] spAf:=by
 refine F.ok scAf (fun vs H Q E h=> ?_) (fun cdv A outer s H vs Q E hr h=> ?_)
 · obtain ⟨z,rfl,_⟩:=h
   rfl
 obtain ⟨z,rfl,k⟩:=h
 refine ⟨_,ag (aj (eB (fH PySem.F.plainAttrs_str PySem.F.slot_str_isascii PySem.F.type_str_isascii gZ (pv 0)) (gY (fH PySem.F.plainAttrs_str PySem.F.slot_str_isdigit PySem.F.type_str_isdigit lL (pv 0))))),?_⟩
 refine ⟨_,rfl,rfl,z,rfl,rfl,_,rfl,?_⟩
 have hf:=u8 z
 by_cases e:Txt.isascii z=true
 · rw [e]
   refine iteT ?_
   refine ⟨_,rfl,rfl,z,rfl,rfl,?_⟩
   refine k _ ?_
   rw [←hf]
   simp [e]
 · have e':Txt.isascii z=false:=by simpa using e
   rw [e']
   refine iteF ?_
   refine k _ ?_
   rw [←hf]
   simp [e]
def spNo:Sp:=fun vs H Q _=>∃(z:Str),vs= [.str z]∧AllDigits (cl z)∧z.length≤200∧Q (.int ((digitsVal (cl z):Nat):Int)) H
theorem scNo:aA ["figures","ahead","number","at"] ["figures"] (ae sNo):=⟨rfl,rfl,rfl,by decide +kernel,rfl,by decide +kernel,by decide +kernel⟩
theorem xc {f:Addr} {fd:FuncData} {tp tw:Tok} (F:Fun K "number_of" "number_of" sNo f fd) (B:Blt mg) (mP:mg "PIECE"=some (.int 64 tp)) (mW:mg "PIECE_WORTH"=some (.int ((PW:Nat):Int) tw)):FnOk P w K mg base CX0 1 f fd ["figures"] spNo:=by
 refine F.ok scNo (fun vs H Q E h=> ?_) (fun cdv A outer s H vs Q E hr h=> ?_)
 · obtain ⟨z,rfl,_⟩:=h
   rfl
 obtain ⟨z,rfl,hd,hz,k⟩:=h
 refine ⟨_,aa (aq (i:=1) scNo.nd rfl (Or.inl rfl) (ao c9 (aD c7 rfl B.le PySem.boot_len (a7 (pv 0) a9)) (bR (v:= .int 64) rfl mP ⟨_,rfl⟩)))
  (aa (aq (i:=2) scNo.nd rfl (Or.inl rfl) (aU iR rfl B.it PyProof.Rows.boot_int (a7 (ao az ai (c5 ff (pv 0) d6 (c4 (pv 1)))) a9)))
  (aa (cD PassesOwn.never rfl (iG rfl B.ra (a7 (pv 1) (a7 (aD c7 rfl B.le PySem.boot_len (a7 (pv 0) a9)) (a7 (bR (v:= .int 64) rfl mP ⟨_,rfl⟩) a9)))) (aL (i:=3) scNo.nd rfl (Or.inl rfl))
   (ag (aq (i:=2) scNo.nd rfl (Or.inl rfl) (ao bq (ao ci (pv 2) (bR (v:= .int ((PW:Nat):Int)) rfl mW ⟨_,rfl⟩)) (aU iR rfl B.it PyProof.Rows.boot_int (a7 (c5 ff (pv 0) (c4 (pv 3)) (c4 (ao bq (pv 3) (bR (v:= .int 64) rfl mP ⟨_,rfl⟩)))) a9))))))
  (ag (aj (pv 2))))),?_⟩
 have hL:(20000:Nat)≤sizeLine:=by decide +kernel
 have hl:=ax z
 refine ⟨_,rfl,z,rfl,by omega,_,64,rfl,rfl,by show (0:Int) < 64;decide,?_⟩
 obtain ⟨a,ea⟩:∃a:Nat,a=z.length%64:=⟨_,rfl⟩
 obtain ⟨q,eq⟩:∃q:Nat,q=z.length / 64:=⟨_,rfl⟩
 have eN:a+q*64=z.length:=by omega
 have e1:((z.length:Nat):Int)%64=(a:Int):=by omega
 have hca:a≤(cl z).length:=by omega
 have ct:=xC hca
 have z0:cl (Str.ofString "0")= [48]:=by decide +kernel
 have cz:cl (Str.ofString "0"++Txt.slice z none (some (a:Int)))=48::(cl z).take a:=by rw [aO,z0,ct];rfl
 have dz:AllDigits (48::(cl z).take a):=fun c m=>by
  rcases List.mem_cons.mp m with rfl|m
  · omega
  · exact fR hd a c m
 have lz:(Str.ofString "0"++Txt.slice z none (some (a:Int))).length≤640:=by
  rw [←ax,cz,List.length_cons,List.length_take]
  omega
 have lt:(Txt.slice z none (some (a:Int))).length≤200:=by
  rw [←ax,ct,List.length_take]
  omega
 have r0:=ux (x:=Str.ofString "0"++Txt.slice z none (some (a:Int))) (by rw [cz];exact dz) (by rw [cz];simp) lz
 rw [cz,digitsVal_zero] at r0
 show tSeq _ _ _ [some (.str z),some (.int (((z.length:Nat):Int)%64)),none,none] H
 rw [e1]
 refine ⟨_,rfl,_,rfl,_,rfl,z,rfl,by omega,_,_,rfl,rfl,by rw [show (Str.ofString "0").length=1 by decide +kernel];omega,_,_,rfl,r0,lz,?_⟩
 have hs:Builtin.Range.rangeSize (a:Int) ((z.length:Nat):Int) 64=(q:Int):=by
  unfold Builtin.Range.rangeSize
  rw [if_pos (by decide)]
  split<;>omega
 refine ⟨_,rfl,_,rfl,z,rfl,by omega,_,_,64,q,rfl,by decide,?_,?_,hs,?_⟩
 · unfold Builtin.Range.small
   rw [hs]
   have fit:∀x:Int,-1000≤x→x≤1000→Builtin.Range.rangeFitsLong x=true:=fun x h1 h2=>by
    unfold Builtin.Range.rangeFitsLong
    rw [decide_eq_true (by omega),decide_eq_true (by omega)]
    rfl
   rw [fit (a:Int) (by omega) (by omega),fit ((z.length:Nat):Int) (by omega) (by omega),fit 64 (by decide) (by decide),fit (q:Int) (by omega) (by omega)]
   rw [if_pos (by decide),fit (((z.length:Nat):Int)+(64 - 1)) (by omega) (by omega),Bool.or_true]
   rfl
 · exact jH (by show (64:Int).natAbs < 2^8000;decide +kernel)
 · refine lY (lo:=(a:Int)) (c:=64) (n:=q) (fun i σ H'=>H'=H∧∃v,σ= [some (.str z),some (.int (a:Int)),some (.int ((digitsVal ((cl z).take (a+i*64)):Nat):Int)),v]) ⟨rfl,none,by rw [Nat.zero_mul,Nat.add_zero];rfl⟩ ?_ ?_
   · rintro i σ H' hi ⟨rfl,v,rfl⟩
     have ei:(a:Int)+(i:Nat)*64=((a+i*64:Nat):Int):=by omega
     have ej:((a+i*64:Nat):Int)+64=((a+i*64+64:Nat):Int):=by omega
     have hb:a+i*64+64≤(cl z).length:=by omega
     have cs:=si (z:=z) (i:=a+i*64) (j:=a+i*64+64) (by omega) hb
     rw [show a+i*64+64 - (a+i*64)=64 by omega] at cs
     have lc:(Txt.slice z (some ((a+i*64:Nat):Int)) (some ((a+i*64+64:Nat):Int))).length=64:=by
      rw [←ax,cs,List.length_take,List.length_drop]
      omega
     have rd:=ux (x:=Txt.slice z (some ((a+i*64:Nat):Int)) (some ((a+i*64+64:Nat):Int))) (by rw [cs];exact fR (oK hd _) _) (by intro z0;rw [←ax,z0] at lc;simp at lc) (by omega)
     rw [cs] at rd
     have vt:=oR (l:=cl z) (a:=a+i*64) (k:=64) hb
     show tAsg _ _ _ [some (.str z),some (.int (a:Int)),some (.int ((digitsVal ((cl z).take (a+i*64)):Nat):Int)),some (.int ((a:Int)+(i:Nat)*64))] H'
     rw [ei]
     refine ⟨_,rfl,_,_,rfl,rfl,⟨iZ (fR hd _) (by rw [List.length_take];omega),by show (((PW:Nat):Int)).natAbs < 2^8000;decide +kernel⟩,_,rfl,_,rfl,_,rfl,_,rfl,_,_,rfl,rfl,_,rfl,z,rfl,by omega,_,_,rfl,by rw [ej];exact rd,by rw [ej,lc];decide,_,_,rfl,rfl,rfl,some (.int ((a+i*64:Nat):Int)),?_⟩
     rw [Nat.add_mul,Nat.one_mul,←Nat.add_assoc,vt]
     rw [Int.natCast_add,Int.natCast_mul]
     rfl
   · rintro σ H' ⟨rfl,v,rfl⟩
     refine ⟨_,rfl,?_⟩
     rw [eN,←hl,List.take_length]
     exact k
end
end K12
namespace Dec
open PySem PySem.NumText L2 Mth
theorem o_cl:cl (Str.ofString "1")= [49]:=by decide +kernel
theorem emp:Str.empty=Str.ofString "":=by decide +kernel
theorem mH (z:Str) (i j:Nat):(Builtin.Str.strSub z i j).length≤z.length:=by
 rw [←ax,jD,List.length_drop,List.length_take,ax]
 omega
theorem qI (z y:Str):(aV z y).1.length≤z.length∧(aV z y).2.2.length≤z.length:=by
 unfold aV
 split
 · exact ⟨mH _ _ _,mH _ _ _⟩
 · exact ⟨Nat.le_refl _,Nat.zero_le _⟩
theorem oi (l:List Nat):(pA l).length≤l.length:=by
 cases l with
 |nil=>exact Nat.le_refl _
 |cons c r=>
  show (if c=45 then r else c::r).length≤_
  split<;>simp
theorem uU (t:Str):(Txt.removeprefix t mn).length≤t.length:=by
 rw [←ax,uI,←ax t]
 exact oi _
theorem wL:¬sl=Str.ofString "":=by decide +kernel
theorem qE {t:Str} {x y:Int} (e:cl t=txt x y):cl (aV (Txt.removeprefix t mn) sl).1=ds x.natAbs∧(if (aV (Txt.removeprefix t mn) sl).2.1=Str.ofString "" then cl (Str.ofString "1")=side y else cl (aV (Txt.removeprefix t mn) sl).2.2=side y):=by
 have hu:cl (Txt.removeprefix t mn)=low x y:=by rw [uI,e,oh]
 unfold low at hu
 unfold side
 by_cases q:y=1
 · rw [if_pos q,List.append_nil] at hu
   have hp:=oq (z:=Txt.removeprefix t mn) (by rw [hu];exact nP (by decide))
   rw [hp,if_pos q]
   refine ⟨hu,?_⟩
   rw [if_pos emp]
   exact o_cl
 · rw [if_neg q] at hu
   obtain ⟨h1,h2,h3⟩:=qH hu (nP (by decide)) (nP (by decide))
   rw [h2,if_neg wL,if_neg q]
   exact ⟨h1,h3⟩
theorem oI {t:Str} {x y:Int} (e:cl t=txt x y):Txt.startswith t mn=decide (x < 0):=by
 rw [ix,e]
 unfold txt sg
 by_cases q:x < 0
 · rw [if_pos q,decide_eq_true q]
   simp
 · rw [if_neg q,decide_eq_false q]
   obtain ⟨c,r,e2,h⟩:=ke x y
   rw [List.nil_append,e2]
   simp [h]
theorem oS {l:List Nat} (h:AllDigits l) (hl:l.length≤200):digitsVal l < 10^200:=Nat.lt_of_lt_of_le (l8 h) (Nat.pow_le_pow_right (by decide) hl)
theorem xy {t b:Int} (h:0 < b):(fx t b).natAbs≤t.natAbs∧(fy t b).natAbs≤b.natAbs:=by
 rw [(rL (t:=t) h).1,(rL (t:=t) h).2]
 exact ⟨gn _ _,gn _ _⟩
end Dec
namespace K12
open PySem PySem.NumText L2 Mth Dec
theorem vU {c:Bool} {D:Ends} {σ:L2.St} {H:Hp} {i:Nat} {v:V} (h:D.nx (if c=true then σ.set i (some v) else σ) H):if c=true then tAsg (tC v) (cv i) D σ H else pi D σ H:=by
 cases c
 · rw [if_neg Bool.false_ne_true] at h ⊢
   exact h
 · rw [if_pos rfl] at h ⊢
   exact h
section
variable {P:Program} {w:World} {K:PySem.W.Frag} {mg:Str→Option Value} {base:Heap}
def spFi:Sp:=fun vs H Q _=>∃(t:Str),vs= [.str t]∧t.length≤200∧
 ((∃x y,cn x y∧cl t=txt x y∧∀r H',H r=none→Same H H'→H' r=some (.tup [.int x, .int y])→Q (.ref r) H')∨((∀x y,cn x y→cl t≠txt x y)∧∀H',Same H H'→Q .non H'))
theorem pS {vs:List V} {H:Hp} {Q:VK} {E:XK} (h:spFi vs H Q E):vs.length=1:=by
 obtain ⟨t,rfl,_⟩:=h
 rfl
theorem scFi:aA ["text","top","slash","bottom","sign","found"] ["text"] (ae sFi):=⟨rfl,rfl,rfl,by decide +kernel,rfl,by decide +kernel,by decide +kernel⟩
theorem xi {f fA fN fF fT:Addr} {fd fdA fdN fdF fdT:FuncData} (F:Fun K "fraction_in" "fraction_in" sFi f fd) (B:Blt mg)
 (GA:FnOk P w K mg base CX0 1 fA fdA ["text"] spAf) (kA:PySem.W.keepIn K (.ref fA)=true) (bA:Binds K fdA ["text"] []) (mA:mg "are_figures"=some (.ref fA))
 (GN:FnOk P w K mg base CX0 1 fN fdN ["figures"] spNo) (kN:PySem.W.keepIn K (.ref fN)=true) (bN:Binds K fdN ["figures"] []) (mN:mg "number_of"=some (.ref fN))
 (GF:FnOk P w K mg base CX0 3 fF fdF ["top","bottom"] spFr) (kF:PySem.W.keepIn K (.ref fF)=true) (bF:Binds K fdF ["top","bottom"] []) (mF:mg "fraction"=some (.ref fF))
 (GT:FnOk P w K mg base CX0 2 fT fdT ["one"] (spFt K)) (kT:PySem.W.keepIn K (.ref fT)=true) (bT:Binds K fdT ["one"] []) (mT:mg "fraction_text"=some (.ref fT)):FnOk P w K mg base CX0 4 f fd ["text"] spFi:=by
 refine F.ok scFi (fun vs H Q E h=>pS h) (fun cdv A outer s H vs Q E hr h=> ?_)
 obtain ⟨t,rfl,ht,k⟩:=h
 have hr1:Room 1 _:=hr.mono (by decide)
 have hr2:Room 2 _:=hr.mono (by decide)
 refine ⟨_,aa (fw (bZ PySem.F.plainAttrs_str PySem.F.slot_str_partition PySem.F.type_str_partition js (bZ PySem.F.plainAttrs_str PySem.F.slot_str_removeprefix PySem.F.type_str_removeprefix fZ (pv 0) (a7 ai a9)) (a7 ai a9))
  (dk rfl (aY (aL (i:=1) scFi.nd rfl (Or.inl rfl)) (aY (aL (i:=2) scFi.nd rfl (Or.inl rfl)) (aY (aL (i:=3) scFi.nd rfl (Or.inl rfl)) cI)))))
  (aa (aK (am aP (pv 2) ai (au _)) (ag (aq (i:=3) scFi.nd rfl (Or.inl rfl) ai)) av)
  (aa (aK (PW.pt (eR (cC (bH (ah GA hr1 rfl mA kA bA .nil ar (a7 (pv 1) a9)))) (eR (cC (bH (ah GA hr1 rfl mA kA bA .nil ar (a7 (pv 3) a9)))) (df (am aP (ah GN hr1 rfl mN kN bN .nil ar (a7 (pv 3) a9)) ad (au _))))))
   (ag (aj cq)) av)
  (aa (aq (i:=4) scFi.nd rfl (Or.inl rfl) (bK (bH (bZ PySem.F.plainAttrs_str PySem.F.slot_str_startswith PySem.F.type_str_startswith iI (pv 0) (a7 ai a9))) (ck bw ad) ad))
  (aa (aq (i:=5) scFi.nd rfl (Or.inl rfl) (ah GF hr rfl mF kF bF .nil ar (a7 (ao ci (pv 4) (ah GN hr1 rfl mN kN bN .nil ar (a7 (pv 1) a9))) (a7 (ah GN hr1 rfl mN kN bN .nil ar (a7 (pv 3) a9)) a9))))
  (ag (aj (bK (am aP (ah GT hr2 rfl mT kT bT .nil ar (a7 (pv 5) a9)) (pv 0) (au _)) (pv 5) cq))))))),?_⟩
 have hL:(20000:Nat)≤sizeLine:=by decide +kernel
 have hrm:=uU t
 refine ⟨_,rfl,rfl,t,mn,rfl,rfl,by omega,rfl,_,sl,rfl,rfl,by decide +kernel,by omega,fun p np=> ?_⟩
 have s1:Same H (upd H p (.tup [.str (aV (Txt.removeprefix t mn) sl).1, .str (aV (Txt.removeprefix t mn) sl).2.1, .str (aV (Txt.removeprefix t mn) sl).2.2])):=af np
 refine ⟨p,_,rfl,SqT.of ac,rfl,_,_,rfl,_,_,rfl,_,_,rfl,rfl,?_⟩
 generalize upd H p (.tup [.str (aV (Txt.removeprefix t mn) sl).1, .str (aV (Txt.removeprefix t mn) sl).2.1, .str (aV (Txt.removeprefix t mn) sl).2.2])=H1 at s1
 have pl:=qI (Txt.removeprefix t mn) sl
 have hc:∀x y,cl t=txt x y→cl (aV (Txt.removeprefix t mn) sl).1=ds x.natAbs∧(if (aV (Txt.removeprefix t mn) sl).2.1=Str.ofString "" then cl (Str.ofString "1")=side y else cl (aV (Txt.removeprefix t mn) sl).2.2=side y):=fun x y e=>qE e
 generalize (aV (Txt.removeprefix t mn) sl).1=a at pl hc
 generalize (aV (Txt.removeprefix t mn) sl).2.1=sh at hc
 generalize (aV (Txt.removeprefix t mn) sl).2.2=b0 at pl hc
 refine ⟨_,rfl,rfl,_,rfl,?_⟩
 refine vU ?_
 obtain ⟨b,eb,hb⟩:∃b:Str,(if decide (V.str sh=V.str (Str.ofString ""))=true then [some (V.str t),some (.str a),some (.str sh),some (.str b0),none,none].set 3 (some (.str (Str.ofString "1"))) else [some (V.str t),some (.str a),some (.str sh),some (.str b0),none,none])= [some (V.str t),some (.str a),some (.str sh),some (.str b),none,none]∧b.length≤200∧∀x y,cl t=txt x y→cl b=side y:=by
  by_cases e:sh=Str.ofString ""
  · refine ⟨Str.ofString "1",?_,by rw [show (Str.ofString "1").length=1 by decide +kernel];decide,fun x y h=> ?_⟩
    · rw [if_pos (decide_eq_true (by rw [e]))]
      rfl
    · have:=(hc x y h).2
      rw [if_pos e] at this
      exact this
  · refine ⟨b0,?_,by omega,fun x y h=> ?_⟩
    · rw [if_neg (by simp [e])]
    · have:=(hc x y h).2
      rw [if_neg e] at this
      exact this
 show (_:L2.St→Hp→Prop) (if decide (V.str sh=V.str (Str.ofString ""))=true then [some (V.str t),some (.str a),some (.str sh),some (.str b0),none,none].set 3 (some (.str (Str.ofString "1"))) else [some (V.str t),some (.str a),some (.str sh),some (.str b0),none,none]) H1
 rw [eb]
 have no:(∀x y,cn x y→cl t=txt x y→False)→∀H',Same H H'→Q .non H':=by
  rcases k with ⟨x,y,h1,h2,_⟩|⟨_,k⟩
  · exact fun h=>(h x y h1 h2).elim
  · exact fun _=>k
 refine ⟨_,rfl,a,rfl,fun b1 h1=>⟨b1,rfl,?_⟩⟩
 cases b1 with
 |false=>
  refine iteT ?_
  refine iteT ?_
  refine no (fun x y _ e=> ?_) H1 s1
  have:=h1.mpr (by rw [(hc x y e).1];exact ⟨rS _,i7 _⟩)
  cases this
 |true=>
  refine iteF ?_
  refine ⟨_,rfl,b,rfl,fun b2 h2=>⟨b2,rfl,?_⟩⟩
  cases b2 with
  |false=>
   refine iteT ?_
   refine iteT ?_
   refine no (fun x y _ e=> ?_) H1 s1
   have:=h2.mpr (by rw [hb.2 x y e];exact ⟨(jT y).2,(jT y).1⟩)
   cases this
  |true=>
   have da:=(h1.mp rfl).2
   have db:=(h2.mp rfl).2
   refine iteF ?_
   refine ⟨_,rfl,b,rfl,db,hb.1,rfl,_,rfl,?_⟩
   by_cases z:digitsVal (cl b)=0
   · rw [decide_eq_true (show V.int ((digitsVal (cl b):Nat):Int)=V.int 0 by rw [z];rfl)]
     refine iteT ?_
     refine no (fun x y s e=> ?_) H1 s1
     rw [hb.2 x y e,jS s.1] at z
     have:=s.1
     omega
   · rw [decide_eq_false (show¬V.int ((digitsVal (cl b):Nat):Int)=V.int 0 from fun q=>z (by have:=V.int.inj q;omega))]
     refine iteF ?_
     have va:=oS da (by rw [ax];omega)
     have vb:=oS db (by rw [ax];exact hb.1)
     have fin:∀sgn:Int,sgn=(if Txt.startswith t mn=true then -1 else 1)→
      (tSeq (tAsg (eL spFr [] E0 (bp (tOp (rI (fun i j=>Big i∧Big j) fun i j=> .int (i*j)) (tVar 4) (eL spNo [] E0 (bp (tVar 1) tNil))) (bp (eL spNo [] E0 (bp (tVar 3) tNil)) tNil))) (cv 5)) (tRet (tIf (tB (tOp rEq (eL (spFt K) [] E0 (bp (tVar 5) tNil)) (tVar 0))) (tVar 5) (tC .non))))
      {nx:=fun _ H'=>Q .non H',rt:=Q} [some (V.str t),some (.str a),some (.str sh),some (.str b),some (.int sgn),none] H1:=by
      intro sgn hs
      have bs:Big sgn:=by
       rw [hs]
       split
       · show (-1:Int).natAbs < 2^8000;decide +kernel
       · show (1:Int).natAbs < 2^8000;decide +kernel
      have ab:(sgn*((digitsVal (cl a):Nat):Int)).natAbs=digitsVal (cl a):=by
       rw [hs]
       split<;>omega
      have bt:Big (sgn*((digitsVal (cl a):Nat):Int)):=by
       unfold Big
       rw [ab]
       exact Nat.lt_trans va (by decide +kernel)
      have b0:(0:Int) < ((digitsVal (cl b):Nat):Int):=by omega
      refine ⟨_,rfl,_,rfl,a,rfl,da,by omega,_,_,rfl,rfl,⟨bs,iZ da (by rw [ax];omega)⟩,_,rfl,b,rfl,db,hb.1,_,_,rfl,bt,iZ db (by rw [ax];exact hb.1),by omega,fun r nr=> ?_⟩
      have s2:=s1.trans (af (o:= .tup [.int (fx (sgn*((digitsVal (cl a):Nat):Int)) ((digitsVal (cl b):Nat):Int)), .int (fy (sgn*((digitsVal (cl a):Nat):Int)) ((digitsVal (cl b):Nat):Int))]) nr)
      have hsh:=lX (t:=sgn*((digitsVal (cl a):Nat):Int)) (b:=((digitsVal (cl b):Nat):Int)) (by omega)
      have hle:=xy (t:=sgn*((digitsVal (cl a):Nat):Int)) b0
      rw [ab] at hle
      refine ⟨_,rfl,r,_,_,rfl,SqT.of ac,hsh.1,by omega,by omega,fun zz H3 s3 ez=> ?_⟩
      refine ⟨_,rfl,rfl,_,rfl,?_⟩
      have up:=s3 _ _ ac
      rcases k with ⟨x,y,k1,k2,k3⟩|⟨k1,k3⟩
      · have e1:sgn*((digitsVal (cl a):Nat):Int)=x:=by
         rw [hs,oI k2,(hc x y k2).1,rR]
         have:=sK x
         by_cases q:x < 0
         · rw [if_pos q] at this
           rw [decide_eq_true q,if_pos rfl]
           exact this
         · rw [if_neg q] at this
           rw [decide_eq_false q,if_neg Bool.false_ne_true]
           exact this
        have e2:((digitsVal (cl b):Nat):Int)=y:=by
         rw [hb.2 x y k2,jS k1.1]
         have:=k1.1
         omega
        rw [e1,e2,(kq k1).1,(kq k1).2] at ez up
        have et:zz=t:=sk (ez.trans k2.symm)
        rw [decide_eq_true (show V.str zz=V.str t by rw [et])]
        refine iteT ?_
        exact ⟨_,rfl,k3 r H3 (s1.free nr) (s2.trans s3) up⟩
      · have et:¬V.str zz=V.str t:=fun q=>k1 _ _ hsh (by rw [←ez,V.str.inj q])
        rw [decide_eq_false et]
        refine iteF ?_
        exact k3 H3 (s2.trans s3)
     refine ⟨_,rfl,rfl,t,mn,rfl,rfl,trivial,_,rfl,?_⟩
     by_cases q:Txt.startswith t mn=true
     · rw [q]
       refine iteT ?_
       exact ⟨_,rfl,fin (-1) (by rw [if_pos q])⟩
     · have q':Txt.startswith t mn=false:=by simpa using q
       rw [q']
       refine iteF ?_
       exact fin 1 (by rw [if_neg q])
end
end K12
namespace Tre
open PySem PySem.Spec PyProof.Rows L2
section
variable {X:Cx}
def rEqT:R2:=fun x y H Q=>∃ts us,TrAt H x (.tup ts)∧TrAt H y (.tup us)∧(Trs.pure ts∨Trs.pure us)∧Trs.depth ts≤40∧Q (.bl (eqTs ts us)) H
theorem rF {pins:List (Addr×Obj)} {σ:L2.St} {H:Hp} {s:Shared} {A:Around} {ts us:List Tr} {vs ws:List V} {as bs:List Value} (I:Inv X pins σ H s) (hu:A.units+42 < cLine) (h1:TrsAt H vs ts) (h2:TrsAt H ws us) (hp:Trs.pure ts∨Trs.pure us) (hd:Trs.depth ts≤40) (r1:Vals vs as) (r2:Vals ws bs)
 (j:Nat) (g1:j < as.toArray.size) (g2:j < bs.toArray.size):SeqAt.EqAt A s as.toArray[j] bs.toArray[j] (eqJ ts us j):=by
 have l1:=h1.len
 have l2:=h2.len
 have l3:=r1.length
 have l4:=r2.length
 have h1':j < as.length:=by simpa using g1
 have h2':j < bs.length:=by simpa using g2
 have t1:ts[j]?=some (ts[j]'(by omega)):=List.getElem?_eq_getElem _
 have t2:us[j]?=some (us[j]'(by omega)):=List.getElem?_eq_getElem _
 obtain ⟨v,e1,a1⟩:=h1.get t1
 obtain ⟨w,e2,a2⟩:=h2.get t2
 obtain ⟨u1,e3,q1⟩:=r1.get e1
 obtain ⟨u2,e4,q2⟩:=r2.get e2
 have z1:as.toArray[j]=u1:=by rw [List.getElem_toArray];rw [List.getElem?_eq_getElem h1'] at e3;exact Option.some.inj e3
 have z2:bs.toArray[j]=u2:=by rw [List.getElem_toArray];rw [List.getElem?_eq_getElem h2'] at e4;exact Option.some.inj e4
 rw [z1,z2,rN t1 t2]
 refine mj I 40 ?_ ?_ a1 a2 q1 q2 (by omega)
 · have:=bc (List.mem_of_getElem? t1)
   omega
 · rcases hp with hp|hp
   · exact .inl (dh hp (List.mem_of_getElem? t1))
   · exact .inr (dh hp (List.mem_of_getElem? t2))
theorem vd (hu:X.A.units+50 < cLine):OpR X (compareOp .Eq) rEqT:=by
 intro pins s σ H x y v u Q I rx ry h
 obtain ⟨ts,us,h1,h2,hp,hd,q⟩:=h
 unfold TrAt at h1 h2
 obtain ⟨a,vs,rfl,g1,k1⟩:=h1
 obtain ⟨b,ws,rfl,g2,k2⟩:=h2
 cases rx
 cases ry
 obtain ⟨as,r1,p1,_⟩:=I.tuple (SqT.of g1)
 obtain ⟨bs,r2,p2,_⟩:=I.tuple (SqT.of g2)
 refine PySem.SeqAt.eq_tupleAt (e:=eqJ ts us) (show s.heap.IsTuple a as.toArray from p1) (show s.heap.IsTuple b bs.toArray from p2) (by omega) (fun j g1 g2=>rF I (by first|omega|(show X.A.units+1+42 < cLine;omega)) k1 k2 hp hd r1 r2 j g1 g2) ?_
 refine ⟨.bl (eqTs ts us),H,I,?_,q⟩
 rw [List.size_toArray,List.size_toArray,←r1.length,←r2.length,k1.len,k2.len,←i5]
 rfl
end
end Tre
namespace K12
open PySem L2 Mth Tre Wd Su
section
variable {P:Program} {w:World} {K:PySem.W.Frag} {mg:Str→Option Value} {base:Heap}
def jR:Sp:=fun vs H Q _=>∃(l:Addr) (ws:List V) (ps:List Pq) (n e:Nat),vs= [.ref l]∧H l=some (.lst ws)∧TrsAt H ws (ps.map prT)∧ps.length≤n∧n < 64∧n*(e+1)≤8000∧(∀p∈ps,Gq e p)∧
 ∀(v:V) (H':Hp) (us:List Pq),Same H H'→TrAt H' v (.tup (us.map prT))→Can ps us→us.length≤ps.length→(∀u∈us,Gq (n*(e+1)) u)→Q v H'
theorem scSum:aA ["pairs","totals","term","share"] ["pairs"] (ae sSum):=⟨rfl,rfl,rfl,by decide +kernel,rfl,by decide +kernel,by decide +kernel⟩
theorem vp {f fP Z:Addr} {fd fdP:FuncData} (F:Fun K "sum_of" "sum_of" sSum f fd) (B:Blt mg) (GP:FnOk P w K mg base CX0 2 fP fdP ["one","other"] (jc K)) (kP:PySem.W.keepIn K (.ref fP)=true) (bP:Binds K fdP ["one","other"] []) (mP:mg "plus"=some (.ref fP))
 (mZ:mg "ZERO"=some (.ref Z)) (hZ:∀H:Hp,SqT K H Z [.int 0, .int 1]):FnOk P w K mg base CX0 3 f fd ["pairs"] jR:=by
 refine F.ok scSum (fun vs H Q E h=> ?_) (fun cdv A outer s H vs Q E hr h=> ?_)
 · obtain ⟨l,ws,ps,n,e,rfl,_⟩:=h
   rfl
 obtain ⟨l,ws,ps,n,e,rfl,hl,hT,hn,n64,hne,hty,k⟩:=h
 have hun:=hr.units
 have hu1:=rG hr
 refine ⟨_,aa (aq (i:=1) scSum.nd rfl (Or.inl rfl) (bn a9))
  (aa (cD PassesOwn.never rfl (dQ (aD (kY (Nat.lt_of_le_of_lt (Nat.add_le_add_left (by decide) _) hun)) rfl B.so PyProof.Rows.boot_sorted (a7 (pv 0) a9))) (dk rfl (aY (aL (i:=2) scSum.nd rfl (Or.inl rfl)) (aY (aL (i:=3) scSum.nd rfl (Or.inl rfl)) cI)))
   (ag (aK (PW.pt (lD (qp (pv 1) (by intro _;rfl)) (jo (am (vd (Nat.lt_of_le_of_lt (Nat.add_le_add_left (by decide) _) hun)) (aB aJ (aB aG (pv 1) (ck bw ad) fun _ _=>rfl) ad fun _ _=>rfl) (pv 2) (au _)))))
    (ag (fw (aE (a7 (pv 2) (a7 (ah GP hr rfl mP kP bP .nil ar (a7 (aB aJ (aB aG (pv 1) (ck bw ad) fun _ _=>rfl) ad fun _ _=>rfl) (a7 (pv 3) a9))) a9))) (lI (pv 1) (ck bw ad) gU)))
    (ag (cg (bZ PySem.F.plainAttrs_list PySem.F.slot_list_append PySem.F.type_list_append bf (pv 1) (a7 (aE (a7 (pv 2) (a7 (pv 3) a9))) a9)))))))
  (ag (aj (aU ba rfl B.tu PyProof.Rows.boot_tuple (a7
   (cJ (NC:= ["total"]) (mp:= [none]) rfl (dQ (pv 1)) (fun _ _ _ _ _=>aL (i:=0) (by simp) rfl (Or.inl rfl)) (fun _ _ _ _ _=>mX (am (r:=rNeP K) (vc hu1) (aB (r:=rIxT K) aJ (pv 0) ad fun _ _=>rfl) (bR (v:= .ref Z) rfl mZ rfl) (au _))) (fun _ _ _ _ _=>pv 0)) a9))))),?_⟩
 have hL:(20000:Nat)≤sizeLine:=by decide +kernel
 refine ⟨by show 0≤sizeLine;decide,fun D nD=> ?_⟩
 have s1:Same H (upd H D (.lst [])):=af nD
 have tyT:∀t∈ps.map prT,Ty .pr t∧t.depth≤8:=fun t m=>by
  obtain ⟨p,mp,rfl⟩:=List.mem_map.mp m
  exact (hty p mp).pr
 refine ⟨_,rfl,l,ws,_,rfl,s1 _ _ hl,hT.mono (Kd.of_same s1),by rw [List.length_map];omega,fun t m=>⟨wz (.inr (tyT t m).1),j0 (tyT t m).1,by have:=(tyT t m).2;omega⟩,fun t m u mu=>uk 30 (by have:=(tyT t m).2;omega) (tyT t m).1 (tyT u mu).1,fun S ws' us nS pm hT' srt=> ?_⟩
 obtain ⟨qs,rfl,pq⟩:=qw pm rfl
 have s2:=af (o:= .lst ws') nS
 have nS0:=s1.free nS
 have nDS:D≠S:=fun z=>by rw [←z,ac] at nS;cases nS
 have ul:qs.length=ps.length:=pq.length_eq
 have wl:=hT'.len
 rw [List.length_map] at wl
 have hty':∀t∈qs,Gq e t:=fun t m=>hty t (pq.mem_iff.mp m)
 have ord:∀(i:Nat) (u:Pq),qs[i]?=some u→∀d∈qs.take i,ltT u.1 d.1=false:=by
  intro i u eu d md
  obtain ⟨j,hj,ej⟩:=List.getElem_of_mem md
  rw [List.length_take] at hj
  have ej':qs[j]?=some d:=by
   rw [List.getElem_take] at ej
   rw [←ej]
   exact List.getElem?_eq_getElem _
  exact tP (srt j i _ _ (by omega) (by rw [List.getElem?_map,ej'];rfl) (by rw [List.getElem?_map,eu];rfl))
 refine ⟨S,rfl,⟨ws',SqL.of ac⟩,?_⟩
 refine i3 (xs:=ws') (fun i σ H'=>Same H H'∧H' S=some (.lst ws')∧TrsAt H' ws' (qs.map prT)∧∃(rs:List V) (trs:List Pq) (v2 v3:Option V),σ= [some (.ref l),some (.ref D),v2,v3]∧H' D=some (.lst rs)∧TrsAt H' rs (trs.map prT)∧Run (qs.take i) trs∧(∀t∈trs,Gq (i*(e+1)) t)∧trs.length≤i)
  ⟨s1.trans s2,ac,hT'.mono (Kd.of_same s2),[],[],none,none,rfl,s2 _ _ ac, .nil,by rw [List.take_zero];exact Run.nil,(fun t m=>by cases m),Nat.le_refl _⟩ (fun i σ H' _ p=>SqL.of p.2.1) ?_ ?_
 · rintro i x σ H' ex ⟨sH,hS,hTS,rs,trs,v2,v3,rfl,hD,hR,hRun,hRt,hRl⟩
   obtain ⟨u,eu,hu⟩:=hTS.get' ex
   rw [List.getElem?_map] at eu
   obtain ⟨⟨tm,fr⟩,eq,rfl⟩:=Option.map_eq_some_iff.mp eu
   have mu:=List.mem_of_getElem? eq
   have ilt:i < qs.length:=(List.getElem?_eq_some_iff.mp eq).1
   have gu:=hty' _ mu
   obtain ⟨r,xt,xf,rfl,hr',hxt,hxf⟩:=cy hu
   obtain ⟨rf,rfl,hrf⟩:=cZ hxf
   have rl:=hR.len
   rw [List.length_map] at rl
   have etk:=d9 eq
   have ei:(i+1)*(e+1)=i*(e+1)+e+1:=by rw [Nat.succ_mul];omega
   have ile:i*(e+1)≤8000:=Nat.le_trans (Nat.mul_le_mul_right _ (by omega)) hne
   have e8:e≤8000:=by
    have:1*(e+1)≤n*(e+1):=Nat.mul_le_mul_right _ (by omega)
    omega
   refine ⟨r,_,rfl,SqT.of hr',rfl,_,_,rfl,_,_,rfl,rfl,?_⟩
   have app:(∀p∈trs,ltT p.1 tm=true)→∀p,H' p=none→Same H (upd (upd H' p (.tup [xt, .ref rf])) D (.lst (rs++ [.ref p])))∧(upd (upd H' p (.tup [xt, .ref rf])) D (.lst (rs++ [.ref p]))) S=some (.lst ws')∧TrsAt (upd (upd H' p (.tup [xt, .ref rf])) D (.lst (rs++ [.ref p]))) ws' (qs.map prT)∧
    ∃(rs':List V) (trs':List Pq) (v2' v3':Option V),[some (V.ref l),some (.ref D),some xt,some (.ref rf)]= [some (.ref l),some (.ref D),v2',v3']∧(upd (upd H' p (.tup [xt, .ref rf])) D (.lst (rs++ [.ref p]))) D=some (.lst rs')∧TrsAt (upd (upd H' p (.tup [xt, .ref rf])) D (.lst (rs++ [.ref p]))) rs' (trs'.map prT)∧Run (qs.take (i+1)) trs'∧(∀t∈trs',Gq ((i+1)*(e+1)) t)∧trs'.length≤i+1:=by
    intro hlt p np
    have sp:Same H' (upd H' p (.tup [xt, .ref rf])):=af np
    have hDp:=sp _ _ hD
    have kd:=(Kd.of_same sp).trans (Kd.upd (ys:=rs++ [.ref p]) hDp)
    have hp':(upd (upd H' p (.tup [xt, .ref rf])) D (.lst (rs++ [.ref p]))) p=some (.tup [xt, .ref rf]):=by
     rw [ak (fun z=>by rw [z,hD] at np;cases np)]
     exact ac
    refine ⟨cf nD (sH.trans sp),(ak nDS.symm).trans (sp _ _ hS),hTS.mono kd,_,trs++ [(tm,fr)],_,_,rfl,ac,?_,?_,fun t m=> ?_,by rw [List.length_append];simp only [List.length_cons,List.length_nil];omega⟩
    · rw [List.map_append]
      exact TrsAt.app (.cons (cM hp' (hxt.mono kd) (hxf.mono kd)) .nil) (hR.mono kd)
    · rw [etk]
      exact hRun.app hlt gu.sh
    · rcases List.mem_append.mp m with m|m
      · exact (hRt t m).mono (by omega)
      · rw [List.mem_singleton.mp m]
        exact gu.mono (by omega)
   refine ⟨_,rfl,!rs.isEmpty, .inl ⟨rs,SqL.of hD,rfl⟩,?_⟩
   by_cases z:rs= []
   · have zt:trs= []:=List.length_eq_zero_iff.mp (by rw [←rl,z];rfl)
     rw [z]
     refine iteF ?_
     refine iteF ?_
     rw [←z]
     refine ⟨_,rfl, .inl ⟨rfl,_,SqL.of hD⟩,_,rfl,_,rfl,by show 2≤sizeLine;decide,fun p np=> ?_⟩
     refine ⟨D,rs,_,rfl,rfl,af np _ _ hD,by omega,?_⟩
     exact app (fun p m=>by rw [zt] at m;cases m) p np
   · have z':rs.isEmpty=false:=by simpa using z
     rw [z']
     refine iteT ?_
     have pos:0 < rs.length:=List.length_pos_iff.mpr z
     have zt:trs≠ []:=fun q=>by rw [q] at rl;simp at rl;exact z rl
     obtain ⟨tr0,⟨tm',fr'⟩,rfl⟩:∃l a,trs=l++ [a]:=⟨trs.dropLast,trs.getLast zt,(List.dropLast_concat_getLast zt).symm⟩
     have rl':rs.length - 1=tr0.length:=by rw [List.length_append,List.length_singleton] at rl;omega
     obtain ⟨y,ey,hy⟩:=hR.get (i:=rs.length - 1) (t:=prT (tm',fr')) (by rw [List.getElem?_map,rl',List.getElem?_append_right (Nat.le_refl _),Nat.sub_self];rfl)
     have gl:=hRt (tm',fr') (List.mem_append_right _ List.mem_cons_self)
     obtain ⟨ry,yt,yf,rfl,hry,hyt,hyf⟩:=cy hy
     obtain ⟨ryf,rfl,hryf⟩:=cZ hyf
     obtain ⟨l1,e1⟩:=fc gu.ty
     obtain ⟨l2,e2⟩:=fc gl.ty
     have pu:=j0 gl.ty
     have dd2:=gl.dep
     dsimp only at e1 e2 pu dd2 hxt hyt
     rw [e2] at pu dd2
     unfold Tr.pure at pu
     unfold Tr.depth at dd2
     have eat:=last_at pos ey
     refine ⟨_,rfl,_,rfl,D,rs,-1,_,rfl,rfl,SqL.of hD,eat,ry,_,0,yt,rfl,rfl,SqT.of hry,rfl,_,rfl,l2,l1,by rw [←e2];exact hyt,by rw [←e1];exact hxt, .inl pu,by omega,_,rfl,?_⟩
     cases q:eqTs l2 l1 with
     |true=>
      have em:tm'=tm:=um gl.ty gu.ty (by rw [e1,e2];unfold eqT;exact q)
      refine iteT ?_
      refine ⟨_,rfl,_,rfl,_,rfl,D,rs,-1,_,rfl,rfl,SqL.of hD,eat,ry,_,1, .ref ryf,rfl,rfl,SqT.of hry,rfl,_,rfl,ryf,rf,_,_,_,_,rfl,SqT.of hryf,SqT.of hrf,⟨gl.gf.pos,gu.gf.pos,gl.gf.top.big ile,gl.gf.bot.big ile,gu.gf.top.big e8,gu.gf.bot.big e8⟩,fun rp H2 nrp sp2 hrp=> ?_⟩
      refine ⟨by show 2≤sizeLine;decide,fun p np=> ?_⟩
      have sp3:Same H' (upd H2 p (.tup [xt, .ref rp])):=sp2.trans (af np)
      have hD3:=sp3 _ _ hD
      refine ⟨_,rfl,_,rfl,D,rs,-1,rs.length - 1,rfl,rfl,hD3,tQ pos,?_⟩
      have kd:=(Kd.of_same sp3).trans (Kd.upd (ys:=rs.set (rs.length - 1) (.ref p)) hD3)
      have nDp:p≠D:=fun z=>by rw [z,sp2 _ _ hD] at np;cases np
      have hp':(upd (upd H2 p (.tup [xt, .ref rp])) D (.lst (rs.set (rs.length - 1) (.ref p)))) p=some (.tup [xt, .ref rp]):=by
       rw [ak nDp]
       exact ac
      have hrp':(upd (upd H2 p (.tup [xt, .ref rp])) D (.lst (rs.set (rs.length - 1) (.ref p)))) rp=some (.tup [.int (eW fr' fr).1, .int (eW fr' fr).2]):=by
       rw [ak (fun z=>by rw [z,sp2 _ _ hD] at hrp;cases hrp)]
       exact af np _ _ hrp
      refine ⟨cf nD (sH.trans sp3),(ak nDS.symm).trans (sp3 _ _ hS),hTS.mono kd,_,tr0++ [(tm,eW fr' fr)],_,_,rfl,ac,?_,?_,fun t m=> ?_,?_⟩
      · have:=TrsAt.set (i:=rs.length - 1) (cM (b:=frT (eW fr' fr)) hp' (hxt.mono kd) (c8 hrp')) (hR.mono kd)
        rw [rl',List.map_append,List.map_cons,List.map_nil,List.set_append_right _ _ (by rw [List.length_map];exact Nat.le_refl _),List.length_map,Nat.sub_self] at this
        rw [rl',List.map_append]
        exact this
      · rw [etk]
        subst em
        exact hRun.add gu.sh
      · rcases List.mem_append.mp m with m|m
        · exact (hRt t (List.mem_append_left _ m)).mono (by omega)
        · rw [List.mem_singleton.mp m]
          exact ⟨gu.ty,gu.dep,by rw [ei];exact gl.gf.plus gu.gf,mR gl.sh gu.sh⟩
      · rw [List.length_append,List.length_singleton] at hRl ⊢
        omega
     |false=>
      have lt1:ltT tm' tm=true:=by
       obtain ⟨d,md,ed⟩:=hRun.key (tm',fr') (List.mem_append_right _ List.mem_cons_self)
       have:=ord i _ eq d md
       rw [ed] at this
       exact uA this (by rw [e1,e2];unfold eqT;exact q)
      refine iteF ?_
      refine ⟨_,rfl, .inl ⟨rfl,_,SqL.of hD⟩,_,rfl,_,rfl,by show 2≤sizeLine;decide,fun p np=> ?_⟩
      refine ⟨D,rs,_,rfl,rfl,af np _ _ hD,by omega,?_⟩
      refine app (fun p m=> ?_) p np
      rcases List.mem_append.mp m with m|m
      · exact ox ((List.pairwise_append.mp hRun.asc).2.2 p m (tm',fr') List.mem_cons_self) lt1
      · rw [List.mem_singleton.mp m]
        exact lt1
 · rintro σ H' ⟨sH,hS,hTS,rs,trs,v2,v3,rfl,hD,hR,hRun,hRt,hRl⟩
   have rl:=hR.len
   rw [List.length_map] at rl
   rw [wl,ul] at hRl hRt
   rw [wl,List.take_length] at hRun
   dsimp only
   refine j6 ?_
   refine iu rfl ?_
   refine ⟨_,rfl,D,rfl,⟨rs,SqL.of hD⟩,fun D2 nD2=> ?_⟩
   have nDD:D≠D2:=aR hD nD2
   refine ie (xs:=rs) (fun i acc H''=>Same H' H''∧H'' D2=some (.lst acc)∧TrsAt H'' acc (((trs.take i).filter fun p=>decide (p.2≠zero)).map prT)) ⟨af nD2,ac,by rw [List.take_zero];exact .nil⟩ (fun i acc H'' p=>SqL.of (p.1 _ _ hD)) ?_ ?_
   · rintro i x acc H'' hi ex ⟨sH2,hD2,hA⟩
     obtain ⟨t,et,ht⟩:=(hR.mono (Kd.of_same sH2)).get' ex
     rw [List.getElem?_map] at et
     obtain ⟨⟨tm,fr⟩,eq,rfl⟩:=Option.map_eq_some_iff.mp et
     obtain ⟨r,xt,xf,rfl,hr',hxt,hxf⟩:=cy ht
     obtain ⟨rf,rfl,hrf⟩:=cZ hxf
     have al:=hA.len
     rw [List.length_map] at al
     have al2:=List.length_filter_le (fun p:Pq=>decide (p.2≠zero)) (trs.take i)
     rw [List.length_take] at al2
     refine ⟨_,rfl,r,_,1, .ref rf,rfl,rfl,SqT.of hr',rfl,rf,Z,fr.1,fr.2,0,1,rfl,rfl,SqT.of hrf,hZ _,_,rfl,?_⟩
     rw [u5]
     have ef:(trs.take (i+1)).filter (fun p=>decide (p.2≠zero))=(trs.take i).filter (fun p=>decide (p.2≠zero))++(if decide (fr≠zero)=true then [(tm,fr)] else []):=by
      rw [d9 eq,List.filter_append,List.filter_cons]
      rfl
     refine ite2 (fun y=> ?_) (fun y=>CompS.mk hi ⟨sH2,hD2,?_⟩)
     · have kd:=Kd.upd (ys:=acc++ [.ref r]) hD2
       refine ⟨_,rfl,CompN.mk hi (by omega) hD2 ⟨cf nD2 sH2,ac,?_⟩⟩
       rw [ef,if_pos y,List.map_append]
       exact TrsAt.app (.cons (ht.mono kd) .nil) (hA.mono kd)
     · rw [ef,if_neg y,List.append_nil]
       exact hA
   · rintro acc H'' ⟨sH2,hD2,hA⟩
     rw [rl,List.take_length] at hA
     refine ⟨D2,acc,rfl, .inl ⟨SqL.of hD2,fun p np=> ?_⟩⟩
     have sp:=af (o:= .tup acc) np
     refine k (.ref p) _ _ (sH.trans (sH2.trans sp)) (aQ ac (hA.mono (Kd.of_same sp))) (hRun.fin.to fun t=>oY pq) ?_ fun u m=> ?_
     · exact Nat.le_trans (List.length_filter_le _ _) hRl
     · exact (hRt u (List.mem_filter.mp m).1).mono (Nat.mul_le_mul_right _ hn)
end
end K12
namespace L2
open PySem PySem.Spec PyProof.Rows Zp
def Ite (K:PySem.W.Frag) (a:Addr):It:=
 ⟨fun i H=>∃xs x,SqL K H a xs∧xs[i]?=some x,
  fun i H v H'=>∃T x,v= .ref T∧H T=none∧H'=upd H T (.tup [.int i,x])∧(∀xs,SqL K H a xs→xs[i]?=some x)∧i < sizeLine,
  fun i H=>∃xs,SqL K H a xs∧xs.length≤i⟩
theorem o9 {P:Program} {w:World} {K:PySem.W.Frag} {es:List Expr} {kk:Nat} {pos:Pos} (a e it:Addr) (hd:e≠it):
 Turn P w K (.Tuple es kk pos) (Ite K a) [e,it] e (fun i h=>(∃old,IsEnum h e it i old)∧h.IsListIter it a i∧a∉ [e,it]) where
 mem:=by simp
 obj:=fun i h ⟨⟨u,h1⟩,h2,_⟩ c hc=>by
  simp only [List.mem_cons,List.not_mem_nil,or_false] at hc
  rcases hc with rfl|rfl
  · exact ⟨_,h1,fun v e=>by cases (show Data.fields _=Data.cell v from e)⟩
  · obtain ⟨o,e1,_,e3⟩:=h2
    exact ⟨o,e1,fun v e=>by rw [e3] at e;cases e⟩
 keep:=fun i h h' ⟨⟨u,h1⟩,h2,h3⟩ kp=>⟨⟨u,kp e (by simp) _ h1⟩,h2.at fun o x=>kp it (by simp) o x,h3⟩
 item:=by
  intro X hP hw hK hc i pins s σ H E I hf ⟨⟨u0,h1⟩,h2,h6⟩ hg
  subst hP hw hK
  obtain ⟨xs,x,g1,g3⟩:=hg
  obtain ⟨as,r1,p1,z1⟩:=I.list g1
  obtain ⟨u,e1,q1⟩:=r1.get g3
  have p1:=p1.isList
  simp only [List.mem_cons,List.not_mem_nil,or_false,not_or] at h6
  refine wpAny_pyNext_enum_item h1 h2 p1 (x:=u) (by simpa using e1) hd fun h' a1 a3 a5 a6 up=>⟨_,rfl,?_⟩
  refine wpAny_letOwnedTupleGo_enum (s:= {s with heap:=h',toks:=s.toks+1}) a1 fun h'' b1 sb=> ?_
  have fr:H s.heap.objs.size=none:=I.hok.fresh (Nat.le_refl _)
  have lt:∀ {c:Addr} {o:Obj},s.heap.get? c=some o→c≠s.heap.objs.size:=fun e=>Nat.ne_of_lt (Heap.lt_size e)
  have all:∀c o,c∉ [e,it]→s.heap.get? c=some o→h''.get? c=some o:=fun c o n ee=>by
   simp only [List.mem_cons,List.not_mem_nil,or_false,not_or] at n
   exact sb.extBut c o n.1 (up c o n.1 n.2 ee)
  have nz:s.heap.objs.size≠e:=(lt h1).symm
  have pT:h''.get? s.heap.objs.size=some {cls:= .type "tuple",data:= .seq #[.int i s.toks,u]}:=sb.extBut _ _ nz a5
  have fp:∀b∈ [e,it],upd H s.heap.objs.size (.tup [.int i,x]) b=none:=fun c hc=>by
   have nc:c≠s.heap.objs.size:=by
    simp only [List.mem_cons,List.not_mem_nil,or_false] at hc
    rcases hc with rfl|rfl
    · exact lt h1
    · obtain ⟨o,ee,_⟩:=h2
      exact lt ee
   rw [ak nc]
   exact (hf c hc).1
  refine ⟨.ref s.heap.objs.size,upd H s.heap.objs.size (.tup [.int i,x]),?_,rfl,⟨_,x,rfl,fr,rfl,fun zs hz=> ?_,Nat.lt_of_lt_of_le (List.getElem?_eq_some_iff.mp g3).1 z1⟩,⟨⟨u,by simpa using b1⟩,?_,?_⟩,fp⟩
  ·
   refine I.call' (s':= {s with heap:=h'',toks:=s.toks+1}) (ch:= [e,it]) rfl ⟨fun b o e _ _ hx=>all b o hx e,fun b o e _ _ hx=>⟨o.slots,all b o hx e⟩,fun c o e n _=>by rw [ak (lt e)];exact n,fun b o e hx=>⟨o,all b o hx e⟩,fun c zs e=>by rw [ak (aR e fr)];exact e,fun c o zs e=>by rw [ak (aR e fr)];exact e,fun c ps e=>⟨#[],by rw [ak (aR e fr),e];simp⟩⟩ ?_ I.bare fun b hb=> ?_
   · intro c o ee
     by_cases hcT:c=s.heap.objs.size
     · subst hcT
       rw [ac] at ee
       cases ee
       exact ⟨by show 2≤sizeLine;decide,[.int i s.toks,u], .cons ⟨_,rfl⟩ (.cons q1 .nil),⟨_,pT,rfl,_,rfl⟩⟩
     · rw [ak hcT] at ee
       have nb:∀c u,H c=some u→c∉ [e,it]:=fun c u e hz=>by rw [(hf c hz).1] at e;cases e
       refine (I.hok c o ee).stay (fun d v hc q=>all d v ?_ q) (fun d q=> ?_) fun d m q=> ?_
       · rcases hc with hz|hz
         · rw [hz];exact nb c o ee
         · exact nb d _ hz
       · rw [ak (aR q fr)];exact q
       · rw [ak (aR q fr)];exact q
   · obtain ⟨g0,g1,g2,g3,g4,g5⟩:=hf b hb
     exact ⟨g3,g1,g4,g5⟩
  · rw [I.list_inj hz g1];exact g3
  · exact a3.extBut sb.extBut hd.symm
  · simpa using h6
 done:=by
  intro X hP hw hK hc i pins s σ H E I hf ⟨⟨u0,h1⟩,h2,h6⟩ hg
  subst hP hw hK
  obtain ⟨xs,g1,g3⟩:=hg
  obtain ⟨as,r1,p1,z1⟩:=I.list g1
  have hl:=r1.length
  refine wpAny_pyNext_enum_end (I.ok.hd hc) h1 h2 p1.isList (by simp;omega) fun h' up=>⟨rfl,I.turneds (t':=s.toks) (fun c o n ee=> ?_) hf⟩
  simp only [List.mem_cons,List.not_mem_nil,or_false,not_or] at n
  exact up c o n.2 ee
 self:=fun _ _ _ _ _ st h=>by
  obtain ⟨⟨u,h1⟩,_⟩:=st
  exact wpAny_pyIter_enum h1 h
section
variable {X:Cx}
def xw (K:PySem.W.Frag) (ta:TA):TI:=fun σ H R=>ta σ H fun vs H1=>∃a xs,vs= [.ref a]∧SqL K H1 a xs∧R (Ite K a) H1
theorem sX {es:List Expr} {kk:Nat} {pt:Pos} {x:Expr} {ta:TA} {p pos:Pos} (hg:Gl X "enumerate") (hm:X.mg "enumerate"=none) (ha:PA X [x] ta) (hs:starEach [x] X.env= [(false,eval x X.env)]:=by rfl):
 PI X (.Tuple es kk pt) (.Call (.Name "enumerate" p) [x] [] pos) (xw X.K ta):=by
 intro pins s σ H R I h
 refine Call_ (eD I hg hm PyProof.Rows.boot_enumerate (PyProof.Rows.callWith_type1 (thn (ha pos pins s σ H _ I h) fun us s1 ⟨vs,H1,I1,r1,q1⟩=> ?_) (by rw [hs];rfl) rfl))
 obtain ⟨a,xs,e,k1,q⟩:=q1
 subst e
 cases r1 with
 |cons r rr=>
  cases rr
  cases r
  obtain ⟨as,_,p1,_⟩:=I1.list k1
  have p1:=p1.isList
  have lta:a < s1.heap.objs.size:=by
   obtain ⟨o,e,_⟩:=p1
   exact Heap.lt_size e
  refine call_enumerate_list p1 fun h' h1 h2 sz up=> ?_
  refine wpAny_pyIter_enum (s:= {s1 with heap:=h'}) h1 ?_
  have na:∀j,a≠s1.heap.objs.size+j:=fun j=>Nat.ne_of_lt (Nat.lt_of_lt_of_le lta (Nat.le_add_right ..))
  have le:∀c∈ [s1.heap.objs.size+1,s1.heap.objs.size+0],s1.heap.objs.size≤c:=fun c hc=>by
   simp only [List.mem_cons,List.not_mem_nil,or_false] at hc
   rcases hc with rfl|rfl<;>exact Nat.le_add_right ..
  refine ⟨s1.heap.objs.size+1,[s1.heap.objs.size+1,s1.heap.objs.size+0],_,_,H1,rfl,I1.kept (t':=s1.toks) up,o9 a _ _ (by simp),⟨⟨_,h1⟩,h2,?_⟩,fun c hc=>I1.fpOk (le c hc) (I1.hok.fresh (le c hc)),q⟩
  simp only [List.mem_cons,List.not_mem_nil,or_false,not_or]
  exact ⟨na 1,na 0⟩
end
end L2
namespace L2
open PySem
theorem rM {K:PySem.W.Frag} {a:Addr} {xs:List V} {g:TG} {tb:TS} {D:Ends} {σ:L2.St} {H:Hp} (Pv:Nat→L2.St→Hp→Prop) (h0:Pv 0 σ H) (hl:∀i σ H,i≤xs.length→Pv i σ H→SqL K H a xs)
 (hs:∀i T x σ H,xs[i]?=some x→H T=none→Pv i σ H→g (.ref T) σ (upd H T (.tup [.int i,x])) fun σ2 H2=>tb {D with nx:=Pv (i+1),ct:=Pv (i+1),bk:=D.nx} σ2 H2) (hd:∀σ H,Pv xs.length σ H→D.nx σ H):
 ∃W:Nat→Nat→L2.St→Hp→Prop,(∃m,W 0 m σ H)∧∀i m σ H,W i m σ H→
  ((Ite K a).stop i H∧D.nx σ H)∨((Ite K a).go i H∧∃N:L2.St→Hp→Prop,(∀σ' H',N σ' H'→∃m',m' < m∧W (i+1) m' σ' H')∧∀x H',(Ite K a).yld i H x H'→g x σ H' fun σ2 H2=>tb {D with nx:=N,ct:=N,bk:=D.nx} σ2 H2):=by
 refine ⟨fun i m σ H=>m=xs.length - i∧i≤xs.length∧Pv i σ H,⟨xs.length,by simp,Nat.zero_le _,h0⟩,?_⟩
 rintro i m σ H ⟨rfl,hi,p⟩
 have q:=hl i σ H hi p
 by_cases hlt:i < xs.length
 · refine .inr ⟨⟨xs,xs[i],q,by simp [hlt]⟩,Pv (i+1),fun σ' H' p'=>⟨xs.length - (i+1),by omega,rfl,hlt,p'⟩,fun x H' y=> ?_⟩
   obtain ⟨T,x',rfl,nT,rfl,y1,_⟩:=y
   exact hs i T x' σ H (y1 xs q) nT p
 · have e:i=xs.length:=by omega
   subst e
   exact .inl ⟨⟨xs,q,Nat.le_refl _⟩,hd σ H p⟩
end L2
namespace Tw
open PySem PyProof.Rows L2 Tre Wd Mth Dec Su
inductive Wi:Nat→Str→Tr→List (List Nat)→Prop
 |mo (n:Nat) (ps:List Pq) (f:Fr):ps.length≤3→(∀p∈ps,Pb p)→Gf 200 f→Wi n "most" (.tup [s_ "most", .tup (ps.map prT),frT f]) (ps.flatMap prC++ [frC f])
 |li (n:Nat) (t u:Tr):Tb t→Tb u→Wi n "like" (.tup [s_ "like",t,u]) [tmC t,tmC u]
 |no (n:Nat) (t:Tr) (c:List Nat):Wx n t c→Wi (n+1) "not" (.tup [s_ "not",t]) [c]
 |bo (n:Nat) (l:List (Tr×List Nat)):l.length≤3→(∀p∈l,Wx n p.1 p.2)→Wi (n+1) "both" (.tup [s_ "both", .tup (l.map (·.1))]) (l.map (·.2))
 |ei (n:Nat) (l:List (Tr×List Nat)):l.length≤3→(∀p∈l,Wx n p.1 p.2)→Wi (n+1) "either" (.tup [s_ "either", .tup (l.map (·.1))]) (l.map (·.2))
def FwP (k k':Str):Prop:=(k= "not"∧k'= "not")∨(k= "both"∧k'= "all")∨(k= "either"∧k'= "any")∨(k= "like"∧k'= "like")∨(k= "most"∧k'= "most")
theorem FwP.len {k k':Str} (h:FwP k k'):k'.length≤10:=by
 rcases h with ⟨_,rfl⟩|⟨_,rfl⟩|⟨_,rfl⟩|⟨_,rfl⟩|⟨_,rfl⟩<;>decide +kernel
theorem Wi.head {n:Nat} {k:Str} {t:Tr} {cs:List (List Nat)} (h:Wi n k t cs):(∃r,t= .tup (.str k::r))∧k≠"flag":=by
 cases h with
 |mo _ ps f h1 h2 h3=>exact ⟨⟨_,rfl⟩,by decide +kernel⟩
 |li _ t u h1 h2=>exact ⟨⟨_,rfl⟩,by decide +kernel⟩
 |no m t c h=>exact ⟨⟨_,rfl⟩,by decide +kernel⟩
 |bo m l h1 h2=>exact ⟨⟨_,rfl⟩,by decide +kernel⟩
 |ei m l h1 h2=>exact ⟨⟨_,rfl⟩,by decide +kernel⟩
theorem Wi.small {n:Nat} {k:Str} {t:Tr} {cs:List (List Nat)} (h:Wi n k t cs) (hn:n≤4):cs.length≤10∧∀c∈cs,c.length≤600000:=by
 cases h with
 |mo _ ps f h1 h2 h3=>
  refine ⟨by rw [List.length_append,eV,List.length_singleton];omega,fun c m=> ?_⟩
  rcases List.mem_append.mp m with m|m
  · have:=gi h2 c m
    omega
  · rw [List.mem_singleton.mp m]
    have:=dX h3
    omega
 |li _ t u h1 h2=>
  have:=h1.len
  have:=h2.len
  refine ⟨by simp,fun c m=> ?_⟩
  rcases List.mem_cons.mp m with rfl|m
  · omega
  · rw [List.mem_singleton.mp m]
    omega
 |no m t c h=>
  refine ⟨by simp,fun d md=> ?_⟩
  rw [List.mem_singleton.mp md]
  have:=h.len
  have:=lG (n:=m) (by omega)
  omega
 |bo m l h1 h2=>
  refine ⟨by rw [List.length_map];omega,fun d md=> ?_⟩
  obtain ⟨p,mp,rfl⟩:=List.mem_map.mp md
  have:=(h2 p mp).len
  have:=lG (n:=m) (by omega)
  omega
 |ei m l h1 h2=>
  refine ⟨by rw [List.length_map];omega,fun d md=> ?_⟩
  obtain ⟨p,mp,rfl⟩:=List.mem_map.mp md
  have:=(h2 p mp).len
  have:=lG (n:=m) (by omega)
  omega
section
variable {X:Cx} {D:Addr}
end
end Tw
namespace L2
open PySem PySem.Spec PyProof.Rows
section
variable {X:Cx}
theorem ow:MtM X "str.rstrip" (rS1 (fun z _=>z.length≤sizeLine) fun z y=> .str (Txt.rstripChars z y)):=by
 intro pins s σ H x vs v us Q I rx rv h
 obtain ⟨z,y,rfl,rfl,hz,q⟩:=h
 obtain ⟨t,rfl⟩:=rx
 obtain ⟨u,rfl,ru⟩:=rv.one
 obtain ⟨t',rfl⟩:=ru
 exact SC.rstripChars (fun t' k=>⟨.str _,H,I.tok k,⟨_,rfl⟩,q⟩) hz
end
theorem kJ {lo c:Int} {n:Nat} {D:Addr} {te:TE} {rest:L2.St} {Q:VK} {H1:Hp} (Pv:Nat→List V→Hp→Prop) (h0:Pv 0 [] (upd H1 D (.lst [])))
 (hs:∀(i:Nat) acc H,i < n→Pv i acc H→te (some (.int (lo+(i:Nat)*c))::rest) H (CompN n i D acc Pv))
 (hd:∀acc H,Pv n acc H→Q (.ref D) H):l6 (ItR lo c n) D te rest Q H1:=by
 refine jB n Pv h0 (fun i acc H hi p=>hi) (fun i x acc H H' hi p y=> ?_) fun acc H p=>⟨Nat.le_refl _,hd acc H p⟩
 obtain ⟨e,y⟩:=y
 subst e y
 exact hs i acc _ hi p
structure GdK (w:World) (K:PySem.W.Frag) (D:Addr) (R:Str→Str→Prop):Prop where
 lk:∃es n,K.lookup D=some ⟨.type "dict",none, .dict es n, #[]⟩∧PySem.W.KeysLit w.params es.toList
 ns:(D==sysModules)=false
 at_:∀k k',R k k'→∃t,PySem.W.nsIn K D k=some (some (.str k' t))
def wH (D:Addr) (R:Str→Str→Prop) (td ty:TE):TE:=fun σ H Q=>td σ H fun x H1=>x= .ref D∧ty σ H1 fun y H2=>∃k k',y= .str k∧R k k'∧Q (.str k') H2
section
variable {X:Cx} {o e:Expr} {apos cpos:Pos} {td ty:TE} {D:Addr} {R:Str→Str→Prop}
theorem t9 (h:GdK X.w X.K D R) (ho:PE X o td) (he:PE X e ty) (m:M1 X o "get" apos e cpos):PE X (.Call (.Attribute o "get" apos) [e] [] cpos) (wH D R td ty):=by
 intro pins s σ H Q I hh
 obtain ⟨es,n,hl,hk⟩:=h.lk
 refine wpAny_Call_method m.base m.few m.line PySem.F.plainAttrs_dict PySem.F.slot_dict_get PySem.F.type_dict_get (thn (ho pins s σ H _ I hh) fun u s1 ⟨x,H1,I1,rx,ex,q1⟩=> ?_)
 subst ex
 obtain rfl:u=Value.ref D:=rx
 have hm1:=PySem.W.mapOf_K (prog:=X.prog) I1.kIn hl hk
 refine ⟨hm1.typeIs,hm1.noDict,?_⟩
 rw [m.trees]
 refine Calls.callWith_builtin rfl (Calls.evalArgs_plain (Calls.spliced_cons (thn (he pins s1 σ H1 _ I1 q1) fun iv s2 ⟨y,H2,I2,ry,k,k',ey,hr,q2⟩=>Calls.spliced_nil ?_)))
 subst ey
 obtain ⟨t,rfl⟩:=ry
 obtain ⟨t',hn⟩:=h.at_ k k' hr
 have hm2:=PySem.W.mapOf_K (prog:=X.prog) I2.kIn hl hk
 refine call_meetsIn PySem.F.slot_dict_get hm2.typeIs PySem.F.entry_dict_get (PySem.F.args_dict_get_2 _ _) (meets_dict_get (strKind X.prog X.w) D (strKind_is X.prog X.w k t) h.ns) ⟨_,hm2,?_⟩
 rw [PySem.W.find_K hl hn]
 exact ⟨.str k',H2,I2.tok _,⟨t',rfl⟩,q2⟩
end
end L2
namespace Dec
open PySem PySem.NumText L2 Mth
def lp:Str:=Str.ofString "("
def rp:Str:=Str.ofString ")"
def bk:Str:=Str.ofString " "
theorem uB:lp=⟨#[40]⟩:=by decide +kernel
theorem wU:rp=⟨#[41]⟩:=by decide +kernel
theorem xE:bk=⟨#[32]⟩:=by decide +kernel
theorem du (z:Str):Txt.startswith z lp=decide ((cl z)[0]?=some 40):=by
 rw [uB,Bool.eq_iff_iff,decide_eq_true_iff]
 unfold Txt.startswith
 rw [Bool.and_eq_true,decide_eq_true_iff]
 constructor
 · rintro ⟨h1,h2⟩
   exact jI (hi:=z.length) ⟨h1,h2⟩
 · intro h
   exact uJ h
theorem qh {z:Str} (h:(cl z)[0]?≠some 40):Txt.removeprefix z lp=z:=by
 rw [StrLaws.removeprefix_eq]
 have h1:=du z
 unfold Txt.startswith at h1
 rw [h1,decide_eq_false h,if_neg Bool.false_ne_true]
theorem wV {z:Str} {r:List Nat} (q:cl z=40::r):cl (Txt.removeprefix z lp)=r:=by
 rw [StrLaws.removeprefix_eq]
 have h:=du z
 unfold Txt.startswith at h
 rw [h,uB,q,decide_eq_true (by rfl),if_pos rfl]
 show List.take _ (List.drop 1 (cl z))=r
 rw [←ax,q]
 simp
 rw [List.take_of_length_le]
 show r.length≤r.length+1 - 1
 omega
theorem oV {p:Nat→Bool} {c:Nat} (hc:p c=true):∀(k:Nat) {l:List Nat},(∀d,l.head?=some d→p d=false)→((List.replicate k c++l).takeWhile p).length=k
 |0,l,h=>by
  cases l with
  |nil=>rfl
  |cons d r=>
   have:=h d rfl
   simp [List.takeWhile_cons,this]
 |k+1,l,h=>by
  rw [List.replicate_succ,List.cons_append,List.takeWhile_cons,if_pos hc,List.length_cons,oV hc k h]
theorem wT {z:Str} {c:List Nat} {k:Nat} (q:cl z=c++List.replicate k 41) (h:¬41∈c):cl (Txt.rstripChars z rp)=c:=by
 unfold Txt.rstripChars
 rw [PyProof.Rows.stripBy_eq]
 have e1:stripLo rp.cps.contains false z=0:=rfl
 rw [e1]
 unfold stripHi
 rw [if_pos rfl,jD,List.drop_zero,List.drop_zero]
 have e2:z.cps.toList=cl z:=rfl
 rw [e2,q,List.reverse_append,List.reverse_replicate,oV (by decide +kernel) k ?_]
 · rw [show z.length - k=c.length by rw [←ax,q,List.length_append,List.length_replicate];omega]
   simp
 · intro d hd
   have m:d∈c:=List.mem_reverse.mp (List.mem_of_mem_head? hd)
   have n:d≠41:=fun e=>h (e▸m)
   rw [wU]
   simp [n]
noncomputable def glue:List (List Nat)→List Nat
 | []=> []
 | [w]=>w
 |w::v::r=>w++32::glue (v::r)
theorem kj:∀ {a b:List (List Nat)},a≠ []→b≠ []→(∀w∈a,¬32∈w)→(∀w∈b,¬32∈w)→glue a=glue b→a=b
 | [],_,h,_,_,_,_=>absurd rfl h
 |_::_,[],_,h,_,_,_=>absurd rfl h
 | [w],[v],_,_,_,_,e=>by rw [show w=v from e]
 | [w],v::v'::r,_,_,ha,_,e=>by
  have e:w=v++32::glue (v'::r):=e
  exact absurd (show 32∈w by rw [e];simp) (ha w List.mem_cons_self)
 |w::w'::r,[v],_,_,_,hb,e=>by
  have e:w++32::glue (w'::r)=v:=e
  exact absurd (show 32∈v by rw [←e];simp) (hb v List.mem_cons_self)
 |w::w'::r,v::v'::s,_,_,ha,hb,e=>by
  have e:w++32::glue (w'::r)=v++32::glue (v'::s):=e
  have key:∀ {x y p q:List Nat},¬32∈x→¬32∈y→x++32::p=y++32::q→x=y∧p=q:=by
   intro x
   induction x with
   |nil=>
    intro y p q _ hy e
    cases y with
    |nil=>exact ⟨rfl,(List.cons.inj e).2⟩
    |cons d y=>exact absurd (show 32∈d::y by rw [(List.cons.inj e).1];simp) hy
   |cons c x ih=>
    intro y p q hx hy e
    cases y with
    |nil=>exact absurd (show 32∈c::x by rw [←(List.cons.inj e).1];simp) hx
    |cons d y=>
     obtain ⟨e1,e2⟩:=List.cons.inj e
     obtain ⟨e3,e4⟩:=ih (fun m=>hx (List.mem_cons_of_mem _ m)) (fun m=>hy (List.mem_cons_of_mem _ m)) e2
     exact ⟨by rw [e1,e3],e4⟩
  obtain ⟨e1,e2⟩:=key (ha w List.mem_cons_self) (hb v List.mem_cons_self) e
  rw [e1,kj (by simp) (by simp) (fun x m=>ha x (List.mem_cons_of_mem _ m)) (fun x m=>hb x (List.mem_cons_of_mem _ m)) e2]
theorem iM:∀(ys:List Str),cl (Str.join bk ys)=glue (ys.map cl)
 | []=>rfl
 | [y]=>rfl
 |y::z::r=>by
  have e2:Str.join bk (y::z::r)=y++bk++Str.join bk (z::r):=rfl
  have e3:cl bk= [32]:=by decide +kernel
  rw [e2,aO,aO,iM (z::r),e3]
  simp [glue]
theorem pC (z y:Str):bu z y=Txt.split z y:=by
 unfold bu jr Txt.split
 cases (decide (z.length < y.length) ||decide (Builtin.Str.strKind z < Builtin.Str.strKind y)) with
 |true=>simp
 |false=>simp
theorem pB (z y:Str):Txt.split z y≠ []:=by
 unfold Txt.split
 split
 · simp
 · split
   · simp
   · rw [StrLaws.partsBetween_eq]
     obtain ⟨p,r,e⟩:=StrLaws.partsFrom_ne z y.length 0 (Builtin.Str.occurrences z y 0 z.length (z.length+1))
     rw [e]
     simp
theorem cut {z:Str} {ws:List (List Nat)} (h0:ws≠ []) (hw:∀w∈ws,¬32∈w) (e:cl z=glue ws):(bu z bk).map cl=ws:=by
 rw [pC]
 refine kj (by simpa using pB z bk) h0 (fun w m=> ?_) hw ?_
 · obtain ⟨p,mp,rfl⟩:=List.mem_map.mp m
   have:=StrLaws.split_free z 32 p (by rw [←xE];exact mp)
   exact this
 · rw [←iM,StrLaws.join_split,e]
end Dec
namespace Rd
open PySem L2 Tre Wd Mth Dec Su Tw
structure Br where
 kind:Str
 first:Str
 things:List Tr
noncomputable def wnt (k f:Str) (n:Nat):V:=
 if k= "whole" then (if n=0 then .str f else .non)
 else if k= "not" then (if n=0 then .str "wish" else .non)
 else if k= "like" then (if n < 2 then .str "term" else .non)
 else if k= "call" then (if n < 3 then .str "term" else .non)
 else if k= "sum" then (if n%2=0 then .str "fraction" else .str "term")
 else .str "wish"
noncomputable def mayE (k:Str) (n:Nat):Bool:=
 if k= "not" then decide (1≤n) else if k= "call" then decide (1≤n) else if k= "like" then decide (n=2) else if k= "sum" then decide (n%2=1) else decide (k≠"whole")
def Kn (f k:Str):Prop:=(f= "not"∧k= "not")∨(f= "all"∧k= "all")∨(f= "any"∧k= "any")∨(f= "like"∧k= "like")∨(f= "most"∧k= "sum")∨(f= "least"∧k= "sum")∨(f= "below"∧k= "sum")∨(f= "above"∧k= "sum")∨(f= "equal"∧k= "sum")
def iL (ps:List Pq):List Tr:=ps.flatMap fun p=> [frT p.2,p.1]
def Mn (f:Str) (ps:List Pq) (b:Fr) (t:Tr):Prop:=(f= "most"∧∃us,Can ps us∧t=mostT us b)∨(f= "least"∧∃us,Can (ps.map neg) us∧t=mostT us (negF b))∨(f= "below"∧∃us,Can (ps.map neg) us∧t= .tup [s_ "not",mostT us (negF b)])∨(f= "above"∧∃us,Can ps us∧t= .tup [s_ "not",mostT us b])∨(f= "equal"∧∃us us',Can ps us∧Can (ps.map neg) us'∧t= .tup [s_ "both", .tup [mostT us b,mostT us' (negF b)]])
inductive Told:Str→Str→List Tr→Tr→Prop
 |ca (f:Str) (ts:List Tr):Told "call" f ts (.tup [s_ "call", .str f, .tup ts])
 |no (f:Str) (t:Tr):Told "not" f [t] (.tup [s_ "not",t])
 |li (f:Str) (t u:Tr):Told "like" f [t,u] (.tup [s_ "like",t,u])
 |al (f:Str) (ts:List Tr):Told "all" f ts (.tup [s_ "both", .tup ts])
 |an (f:Str) (ts:List Tr):Told "any" f ts (.tup [s_ "either", .tup ts])
 |su (f:Str) (ps:List Pq) (b:Fr) (t:Tr):ps.length≤4→(∀p∈ps,Gq 200 p)→Mn f ps b t→Told "sum" f (iL ps++ [frT b]) t
noncomputable abbrev Br.n (b:Br):V:=wnt b.kind b.first b.things.length
noncomputable abbrev push (t:Tr) (b:Br):Br:=⟨b.kind,b.first,b.things++ [t]⟩
inductive StP:Str→V→Tr→Prop
 |fr (c:Str) (p:Fr):cl c=frC p→Sh p→StP c (.str "fraction") (frT p)
 |wi (c:Str):Trm.Nm c→StP c (.str "wish") (.tup [s_ "flag", .str c])
 |te (c:Str):Trm.Nm c→StP c (.str "term") (.tup [s_ "name", .str c])
inductive StO:Str→V→Str→Prop
 |wi (f k:Str):Kn f k→StO f (.str "wish") k
 |te (f:Str):Trm.Nm f→StO f (.str "term") "call"
inductive Clos:Nat→List Br→List Br→Prop
 |zero (st:List Br):Clos 0 st st
 |succ (n:Nat) (a p:Br) (r st:List Br) (t:Tr):mayE a.kind a.things.length=true→Told a.kind a.first a.things t→p.things.length < 100→Clos n (push t p::r) st→Clos (n+1) (a::p::r) st
structure Wo where
 o:Bool
 c:Str
 k:Nat
noncomputable def Wo.sg (w:Wo):List Nat:=(if w.o=true then [40] else [])++(cl w.c++List.replicate w.k 41)
def Pl (c:Str):Prop:=(∀d∈cl c,d≠32∧d≠40∧d≠41)∧c.length≤200
inductive StW:Wo→List Br→List Br→Prop
 |op (c:Str) (k:Nat) (b:Br) (r:List Br) (kd:Str) (st:List Br):StO c b.n kd→r.length < 30→Clos k (⟨kd,c,[]⟩::b::r) st→StW ⟨true,c,k⟩ (b::r) st
 |pu (c:Str) (k:Nat) (b:Br) (r:List Br) (t:Tr) (st:List Br):StP c b.n t→b.things.length < 100→Clos k (push t b::r) st→StW ⟨false,c,k⟩ (b::r) st
inductive Run:List Wo→List Br→List Br→Prop
 |nil (st:List Br):Run [] st st
 |cons (w:Wo) (ws:List Wo) (a b c:List Br):StW w a b→Run ws b c→Run (w::ws) a c
theorem Run.app {ws us:List Wo} {a b c:List Br} (h:Run ws a b) (h':Run us b c):Run (ws++us) a c:=by
 induction h with
 |nil st=>exact h'
 |cons w ws a b c s _ ih=>exact .cons _ _ _ _ _ s (ih h')
theorem Clos.snoc {k:Nat} {a:List Br} {x p:Br} {r:List Br} {t:Tr} (h1:mayE x.kind x.things.length=true) (h2:Told x.kind x.first x.things t) (h3:p.things.length < 100) (h:Clos k a (x::p::r)):Clos (k+1) a (push t p::r):=by
 generalize e:x::p::r=z at h
 induction h with
 |zero st=>subst e;exact .succ _ _ _ _ _ _ h1 h2 h3 (.zero _)
 |succ n a' p' r' st t' q1 q2 q3 _ ih=>exact .succ _ _ _ _ _ _ q1 q2 q3 (ih e)
noncomputable def bump:List Wo→List Wo
 | []=> []
 | [w]=> [⟨w.o,w.c,w.k+1⟩]
 |w::v::r=>w::bump (v::r)
theorem o2 {w:Wo} {ws:List Wo}:bump (w::ws)≠ []:=by
 cases ws<;>simp [bump]
theorem o0:∀ {ws:List Wo},(∀w∈ws,Pl w.c)→∀w∈bump ws,Pl w.c
 | [],_=>fun w m=>by cases m
 | [w],h=>fun v m=>by
  rw [List.mem_singleton.mp m]
  exact h w List.mem_cons_self
 |w::v::r,h=>fun u m=>by
  rcases List.mem_cons.mp m with rfl|m
  · exact h _ List.mem_cons_self
  · exact o0 (fun x mx=>h x (List.mem_cons_of_mem _ mx)) u m
theorem iS:∀ {w:Wo} {ws:List Wo},glue ((bump (w::ws)).map Wo.sg)=glue ((w::ws).map Wo.sg)++ [41]
 |w,[]=>by
  show Wo.sg ⟨w.o,w.c,w.k+1⟩=Wo.sg w++ [41]
  unfold Wo.sg
  rw [List.replicate_succ']
  simp
 |w,v::r=>by
  have ih:=iS (w:=v) (ws:=r)
  obtain ⟨x,y,e⟩:=List.exists_cons_of_ne_nil (o2 (w:=v) (ws:=r))
  show glue ((w::bump (v::r)).map Wo.sg)=_
  rw [e] at ih ⊢
  show Wo.sg w++32::glue ((x::y).map Wo.sg)=(Wo.sg w++32::glue ((v::r).map Wo.sg))++ [41]
  rw [ih]
  simp
theorem jU {x p:Br} {r:List Br} {t:Tr} (h1:mayE x.kind x.things.length=true) (h2:Told x.kind x.first x.things t) (h3:p.things.length < 100):∀ {w:Wo} {ws:List Wo} {a:List Br},Run (w::ws) a (x::p::r)→Run (bump (w::ws)) a (push t p::r)
 |w,[],a,h=>by
  cases h with
  |cons _ _ _ b _ s h'=>
   cases h'
   refine .cons _ _ _ _ _ ?_ (.nil _)
   cases s with
   |op c k b r' kd st q1 q2 q3=>exact .op _ _ _ _ _ _ q1 q2 (q3.snoc h1 h2 h3)
   |pu c k b r' t' st q1 q2 q3=>exact .pu _ _ _ _ _ _ q1 q2 (q3.snoc h1 h2 h3)
 |w,v::us,a,h=>by
  cases h with
  |cons _ _ _ b _ s h'=>exact .cons _ _ _ _ _ s (jU h1 h2 h3 h')
theorem km:∀ {a b:List (List Nat)},a≠ []→b≠ []→glue (a++b)=glue a++32::glue b
 | [],_,h,_=>absurd rfl h
 | [w],b,_,h=>by
  obtain ⟨v,r,rfl⟩:=List.exists_cons_of_ne_nil h
  rfl
 |w::v::r,b,_,h=>by
  show w++32::glue ((v::r)++b)=(w++32::glue (v::r))++32::glue b
  rw [km (by simp) h]
  simp
theorem iN:∀(l:List (List (List Nat))) {a:List (List Nat)},a≠ []→(∀w∈l,w≠ [])→glue (a++l.flatten)=glue a++spC (l.map glue)
 | [],a,_,_=>by simp [spC]
 |w::l,a,ha,h=>by
  rw [List.flatten_cons,←List.append_assoc,iN l (a:=a++w) (by simp [ha]) (fun v m=>h v (List.mem_cons_of_mem _ m)),km ha (h w List.mem_cons_self)]
  simp [spC]
def Rw (d:Nat) (wn:Str) (t:Tr) (c:List Nat):Prop:=∃ws:List Wo,ws≠ []∧(∀w∈ws,Pl w.c)∧glue (ws.map Wo.sg)=c∧∀(b:Br) (r:List Br),b.n= .str wn→r.length+d≤30→b.things.length < 100→Run ws (b::r) (push t b::r)
theorem lB {wn:Str} {t:Tr} {c:Str} (hp:Pl c) (hs:StP c (.str wn) t) (d:Nat):Rw d wn t (cl c):=by
 refine ⟨[⟨false,c,0⟩],by simp,fun w m=> ?_,?_,fun b r q1 q2 q3=> ?_⟩
 · rw [List.mem_singleton.mp m]
   exact hp
 · simp [glue,Wo.sg]
 · refine .cons _ _ _ _ _ (.pu _ _ _ _ t _ ?_ q3 (.zero _)) (.nil _)
   rw [q1]
   exact hs
theorem r8 {c:Str} (h:Trm.Nm c):Pl c:=⟨fun d m=>by
 have:Trm.Ltr d:=h.ltr d m
 unfold Trm.Ltr at this
 omega,by have:=h.le;omega⟩
theorem jX {kd f:Str} {d:Nat}:∀(rest:List (Tr×List Nat)) (acc:List Tr),(∀i p,rest[i]?=some p→∃w',wnt kd f (acc.length+i)= .str w'∧Rw d w' p.1 p.2)→acc.length+rest.length < 100→
 ∃L:List (List Wo),(∀ws∈L,ws≠ [])∧(∀ws∈L,∀w∈ws,Pl w.c)∧L.map (fun ws=>glue (ws.map Wo.sg))=rest.map (·.2)∧∀r:List Br,r.length+d≤30→Run L.flatten (⟨kd,f,acc⟩::r) (⟨kd,f,acc++rest.map (·.1)⟩::r)
 | [],acc,_,_=>⟨[],(fun ws m=>by cases m),(fun ws m=>by cases m),rfl,fun r _=>by rw [List.map_nil,List.append_nil];exact .nil _⟩
 |p::rest,acc,h,hl=>by
  obtain ⟨w',e1,ws,n1,n2,n3,n4⟩:=h 0 p rfl
  rw [List.length_cons] at hl
  obtain ⟨L,m1,m2,m3,m4⟩:=jX rest (acc++ [p.1]) (fun i q e=>by
   have:=h (i+1) q (by rw [List.getElem?_cons_succ];exact e)
   rw [List.length_append,List.length_singleton,show acc.length+1+i=acc.length+(i+1) by omega]
   exact this) (by rw [List.length_append,List.length_singleton];omega)
  refine ⟨ws::L,fun v m=> ?_,fun v m=> ?_,?_,fun r hr=> ?_⟩
  · rcases List.mem_cons.mp m with rfl|m
    · exact n1
    · exact m1 v m
  · rcases List.mem_cons.mp m with rfl|m
    · exact n2
    · exact m2 v m
  · rw [List.map_cons,n3,m3]
    rfl
  · rw [List.flatten_cons]
    refine (n4 ⟨kd,f,acc⟩ r e1 hr (by dsimp only;omega)).app ?_
    have:=m4 r hr
    rw [List.append_assoc] at this
    exact this
theorem comp {kd f wn:Str} {d:Nat} {t:Tr} (items:List (Tr×List Nat)) (ho:StO f (.str wn) kd) (hf:Pl f) (hi:∀i p,items[i]?=some p→∃w',wnt kd f i= .str w'∧Rw d w' p.1 p.2) (hl:items.length < 100) (hm:mayE kd items.length=true)
 (ht:Told kd f (items.map (·.1)) t):Rw (d+1) wn t (Tw.hd f++spC (items.map (·.2))++ [41]):=by
 obtain ⟨L,m1,m2,m3,m4⟩:=jX items [] (fun i p e=>by rw [List.length_nil,Nat.zero_add];exact hi i p e) (by rw [List.length_nil];omega)
 refine ⟨bump (⟨true,f,0⟩::L.flatten),o2,o0 (fun w m=> ?_),?_,fun b r q1 q2 q3=> ?_⟩
 · rcases List.mem_cons.mp m with rfl|m
   · exact hf
   · obtain ⟨ws,mw,mm⟩:=List.mem_flatten.mp m
     exact m2 ws mw w mm
 · rw [iS,List.map_cons,List.map_flatten]
   have e:=iN (L.map (·.map Wo.sg)) (a:= [Wo.sg ⟨true,f,0⟩]) (by simp) (fun w m=>by
    obtain ⟨ws,mw,rfl⟩:=List.mem_map.mp m
    simpa using m1 ws mw)
   rw [List.map_map] at e
   have e':List.map (glue ∘ fun x:List Wo=>List.map Wo.sg x) L=items.map (·.2):=m3
   rw [e'] at e
   rw [show Wo.sg ⟨true,f,0⟩::(L.map (·.map Wo.sg)).flatten= [Wo.sg ⟨true,f,0⟩]++(L.map (·.map Wo.sg)).flatten from rfl,e]
   simp [glue,Wo.sg,Tw.hd]
 · refine jU (x:=⟨kd,f,items.map (·.1)⟩) (by dsimp only;rw [List.length_map];exact hm) ht q3 (.cons _ _ _ (⟨kd,f,[]⟩::b::r) _ (.op _ _ _ _ kd _ ?_ (by omega) (.zero _)) ?_)
   · rw [q1]
     exact ho
   · have:=m4 (b::r) (by rw [List.length_cons];omega)
     exact this
theorem wB {t:Tr} (h:Gm t):∀d,t.depth≤2*d+1→Rw d "term" t (tmC t):=by
 induction h with
 |nm x hx=>
  intro d _
  rw [show tmC (.tup [s_ "name", .str x])=cl x from j7 _ _]
  exact lB (r8 hx) (.te x hx) d
 |ap f ts hf h0 h3 _ ih=>
  intro d hd
  simp only [Tr.depth,Trs.depth] at hd
  obtain ⟨e,rfl⟩:∃e,d=e+1:=⟨d - 1,by omega⟩
  have k:=comp (kd:="call") (f:=f) (wn:="term") (d:=e) (t:= .tup [s_ "call", .str f, .tup ts]) (ts.map fun u=>(u,tmC u)) (.te f hf) (r8 hf) (fun i p ep=> ?_) (by rw [List.length_map];omega) ?_ ?_
  · rw [List.map_map] at k
    rw [show tmC (.tup [s_ "call", .str f, .tup ts])=40::cl f++tmsC ts++ [41] from gg _ _ _,eK]
    exact k
  · rw [List.getElem?_map] at ep
    obtain ⟨u,eu,rfl⟩:=Option.map_eq_some_iff.mp ep
    have mu:=List.mem_of_getElem? eu
    have hi:i < ts.length:=(List.getElem?_eq_some_iff.mp eu).1
    have:=bc mu
    refine ⟨"term",?_,ih u mu e (by omega)⟩
    unfold wnt
    rw [if_neg (by decide +kernel),if_neg (by decide +kernel),if_neg (by decide +kernel),if_pos rfl,if_pos (by omega)]
  · unfold mayE
    rw [if_neg (by decide +kernel),if_pos rfl,List.length_map]
    exact decide_eq_true h0
  · rw [List.map_map]
    have e:List.map ((fun x:Tr×List Nat=>x.1) ∘ fun u=>(u,tmC u)) ts=ts:=by
     rw [show ((fun x:Tr×List Nat=>x.1) ∘ fun u:Tr=>(u,tmC u))=id from rfl,List.map_id]
    rw [e]
    exact .ca f ts
theorem oU:(2:Nat)^200≤10^61:=by decide +kernel
theorem w8 {p:Fr} (h:Gf 200 p):(frC p).length≤130:=by
 unfold frC txt sg Dec.low
 have h1:=cP 60 (Nat.lt_of_lt_of_le h.top oU)
 have h2:=cP 60 (Nat.lt_of_lt_of_le h.bot oU)
 simp only [List.length_append]
 split<;>split<;>simp<;>omega
theorem nN {p:Fr} (h:Gf 200 p):∀d∈frC p,d≠32∧d≠40∧d≠41:=by
 intro d m
 unfold frC txt sg Dec.low at m
 have dg:∀ {n:Nat},d∈ds n→d≠32∧d≠40∧d≠41:=fun {n} m=>by
  have:=(i7 n d m).1
  omega
 rcases List.mem_append.mp m with m|m
 · split at m
   · rw [List.mem_singleton.mp m]
     decide
   · cases m
 · rcases List.mem_append.mp m with m|m
   · exact dg m
   · split at m
     · cases m
     · rcases List.mem_cons.mp m with rfl|m
       · decide
       · exact dg m
theorem uE {p:Fr} (h:Gf 200 p) (hs:Sh p) (d:Nat):Rw d "fraction" (frT p) (frC p):=by
 have e:cl ⟨(frC p).toArray⟩=frC p:=by simp [cl]
 have:=lB (wn:="fraction") (t:=frT p) (c:=⟨(frC p).toArray⟩) ⟨by rw [e];exact nN h,by rw [←ax,e];have:=w8 h;omega⟩ (.fr _ p e hs) d
 rw [e] at this
 exact this
noncomputable def itm (p:Pq):List (Tr×List Nat):= [(frT p.2,frC p.2),(p.1,tmC p.1)]
theorem rE {d:Nat} {b:Fr} (hb:Rw d "fraction" (frT b) (frC b)):∀(ps:List Pq),(∀p∈ps,Rw d "fraction" (frT p.2) (frC p.2)∧Rw d "term" p.1 (tmC p.1))→∀i q,(ps.flatMap itm++ [(frT b,frC b)])[i]?=some q→(i%2=0∧Rw d "fraction" q.1 q.2)∨(i%2=1∧Rw d "term" q.1 q.2)
 | [],_,0,q,e=>by
  cases e
  exact .inl ⟨rfl,hb⟩
 | [],_,i+1,q,e=>by simp at e
 |p::ps,h,0,q,e=>by
  have e:some (frT p.2,frC p.2)=some q:=e
  cases e
  exact .inl ⟨rfl,(h p List.mem_cons_self).1⟩
 |p::ps,h,1,q,e=>by
  have e:some (p.1,tmC p.1)=some q:=e
  cases e
  exact .inr ⟨rfl,(h p List.mem_cons_self).2⟩
 |p::ps,h,i+2,q,e=>by
  have e:(ps.flatMap itm++ [(frT b,frC b)])[i]?=some q:=e
  rcases rE hb ps (fun x m=>h x (List.mem_cons_of_mem _ m)) i q e with ⟨a,b⟩|⟨a,b⟩
  · exact .inl ⟨by omega,b⟩
  · exact .inr ⟨by omega,b⟩
theorem nI (ps:List Pq):(ps.flatMap itm).length=2*ps.length:=by
 induction ps with
 |nil=>rfl
 |cons p ps ih=>
  rw [List.flatMap_cons,List.length_append,ih,List.length_cons]
  show 2+_=_
  omega
theorem xq (ps:List Pq):(ps.flatMap itm).map (·.1)=iL ps:=by
 rw [List.map_flatMap]
 rfl
theorem xp (ps:List Pq):(ps.flatMap itm).map (·.2)=ps.flatMap prC:=by
 rw [List.map_flatMap]
 rfl
theorem gj {f k:Str} (h:Kn f k):Pl f:=by
 have key:∀f:Str,decide (∀d∈cl f,d≠32∧d≠40∧d≠41)=true→decide (f.length≤200)=true→Pl f:=fun f h1 h2=>⟨of_decide_eq_true h1,of_decide_eq_true h2⟩
 rcases h with ⟨rfl,_⟩|⟨rfl,_⟩|⟨rfl,_⟩|⟨rfl,_⟩|⟨rfl,_⟩|⟨rfl,_⟩|⟨rfl,_⟩|⟨rfl,_⟩|⟨rfl,_⟩<;>exact key _ (by decide +kernel) (by decide +kernel)
theorem wK {f:Str} {ps:List Pq} {b:Fr} {t:Tr} (kn:Kn f "sum") (h1:ps.length≤4) (h2:∀p∈ps,Pb p) (h3:Gf 200 b) (h5:Sh b) (hm:Mn f ps b t):Rw 4 "wish" t (Tw.hd f++spC (ps.flatMap prC++ [frC b])++ [41]):=by
 have k:=comp (kd:="sum") (f:=f) (wn:="wish") (d:=3) (t:=t) (ps.flatMap itm++ [(frT b,frC b)]) (.wi _ _ kn) (gj kn) (fun i p ep=> ?_) ?_ ?_ ?_
 · rw [List.map_append,xp] at k
   exact k
 · have w:wnt "sum" f i=if i%2=0 then .str "fraction" else .str "term":=by
    unfold wnt
    rw [if_neg (by decide +kernel),if_neg (by decide +kernel),if_neg (by decide +kernel),if_neg (by decide +kernel),if_pos rfl]
   rw [w]
   rcases rE (d:=3) (uE h3 h5 3) ps (fun p m=>⟨uE (h2 p m).gf (h2 p m).sh 3,wB (h2 p m).tb.gm 3 (h2 p m).tb.dep⟩) i p ep with ⟨e,q⟩|⟨e,q⟩
   · exact ⟨_,by rw [if_pos e],q⟩
   · exact ⟨_,by rw [if_neg (by omega)],q⟩
 · rw [List.length_append,nI,List.length_singleton]
   omega
 · unfold mayE
   rw [if_neg (by decide +kernel),if_neg (by decide +kernel),if_neg (by decide +kernel),if_pos rfl,List.length_append,nI,List.length_singleton]
   exact decide_eq_true (by omega)
 · rw [List.map_append,xq]
   exact .su _ ps b _ h1 (fun p m=>⟨(h2 p m).tb.ty,(h2 p m).tb.dep,(h2 p m).gf,(h2 p m).sh⟩) hm
theorem uF {x:Str} (h:Trm.Nm x) (d:Nat):Rw d "wish" (.tup [s_ "flag", .str x]) (cl x):=lB (r8 h) (.wi x h) d
theorem xo {d:Nat} {t:Tr} {c:List Nat} (h:Rw d "wish" t c):Rw (d+1) "wish" (.tup [s_ "not",t]) (Tw.hd "not"++spC [c]++ [41]):=by
 have kn:Kn "not" "not":= .inl ⟨rfl,rfl⟩
 refine comp (kd:="not") (f:="not") (wn:="wish") (d:=d) (t:= .tup [s_ "not",t]) [(t,c)] (.wi _ _ kn) (gj kn) (fun i p ep=> ?_) (by show 1 < 100;decide) (by show mayE "not" 1=true;decide +kernel) (.no _ t)
 match i,ep with
 |0,ep=>
  cases ep
  refine ⟨_,?_,h⟩
  decide +kernel
 |i+1,ep=>simp at ep
theorem xD {d:Nat} (l:List (Tr×List Nat)) (hl:l.length < 100) (h:∀p∈l,Rw d "wish" p.1 p.2):Rw (d+1) "wish" (.tup [s_ "both", .tup (l.map (·.1))]) (Tw.hd "all"++spC (l.map (·.2))++ [41]):=by
 have kn:Kn "all" "all":= .inr (.inl ⟨rfl,rfl⟩)
 refine comp (kd:="all") (f:="all") (wn:="wish") (d:=d) (t:= .tup [s_ "both", .tup (l.map (·.1))]) l (.wi _ _ kn) (gj kn) (fun i p ep=>⟨_,?_,h p (List.mem_of_getElem? ep)⟩) hl ?_ (.al _ _)
 · unfold wnt
   rw [if_neg (by decide +kernel),if_neg (by decide +kernel),if_neg (by decide +kernel),if_neg (by decide +kernel),if_neg (by decide +kernel)]
 · unfold mayE
   rw [if_neg (by decide +kernel),if_neg (by decide +kernel),if_neg (by decide +kernel),if_neg (by decide +kernel)]
   decide +kernel
theorem uH {d:Nat} (l:List (Tr×List Nat)) (hl:l.length < 100) (h:∀p∈l,Rw d "wish" p.1 p.2):Rw (d+1) "wish" (.tup [s_ "either", .tup (l.map (·.1))]) (Tw.hd "any"++spC (l.map (·.2))++ [41]):=by
 have kn:Kn "any" "any":= .inr (.inr (.inl ⟨rfl,rfl⟩))
 refine comp (kd:="any") (f:="any") (wn:="wish") (d:=d) (t:= .tup [s_ "either", .tup (l.map (·.1))]) l (.wi _ _ kn) (gj kn) (fun i p ep=>⟨_,?_,h p (List.mem_of_getElem? ep)⟩) hl ?_ (.an _ _)
 · unfold wnt
   rw [if_neg (by decide +kernel),if_neg (by decide +kernel),if_neg (by decide +kernel),if_neg (by decide +kernel),if_neg (by decide +kernel)]
 · unfold mayE
   rw [if_neg (by decide +kernel),if_neg (by decide +kernel),if_neg (by decide +kernel),if_neg (by decide +kernel)]
   decide +kernel
theorem whole {wn:Str} {t:Tr} {c:List Nat} {d:Nat} (h:Rw d wn t c) (hd:d≤30):∃ws:List Wo,ws≠ []∧(∀w∈ws,Pl w.c)∧glue (ws.map Wo.sg)=c∧Run ws [⟨"whole",wn,[]⟩] [⟨"whole",wn,[t]⟩]:=by
 obtain ⟨ws,h1,h2,h3,h4⟩:=h
 exact ⟨ws,h1,h2,h3,h4 ⟨"whole",wn,[]⟩ [] rfl (by simpa using hd) (by show 0 < 100;decide)⟩
theorem wM {w:Wo} (h:Pl w.c):¬32∈w.sg:=by
 intro m
 unfold Wo.sg at m
 rcases List.mem_append.mp m with m|m
 · split at m
   · simp at m
   · cases m
 · rcases List.mem_append.mp m with m|m
   · exact (h.1 _ m).1 rfl
   · simp at m
open PySem L2 Tre Wd Mth Dec Su Tw
structure Bk (K:PySem.W.Frag) (C:Addr):Prop where
 cls:Cls K C
 nk:NoAttr K C "kind"
 nf:NoAttr K C "first"
 nt:NoAttr K C "things"
noncomputable abbrev bfs (k f:Str) (l:Addr):List (Str×V):= [(Str.ofString "kind", .str k),(Str.ofString "first", .str f),(Str.ofString "things", .ref l)]
theorem lk_k {k f:Str} {l:Addr}:(bfs k f l).lookup (Str.ofString "kind")=some (.str k):=by
 unfold bfs
 rw [List.lookup_cons,show ((Str.ofString "kind"==Str.ofString "kind")=true) by decide +kernel]
theorem lk_f {k f:Str} {l:Addr}:(bfs k f l).lookup (Str.ofString "first")=some (.str f):=by
 unfold bfs
 rw [List.lookup_cons,show ((Str.ofString "first"==Str.ofString "kind")=false) by decide +kernel,List.lookup_cons,show ((Str.ofString "first"==Str.ofString "first")=true) by decide +kernel]
theorem lk_t {k f:Str} {l:Addr}:(bfs k f l).lookup (Str.ofString "things")=some (.ref l):=by
 unfold bfs
 rw [List.lookup_cons,show ((Str.ofString "things"==Str.ofString "kind")=false) by decide +kernel,List.lookup_cons,show ((Str.ofString "things"==Str.ofString "first")=false) by decide +kernel,List.lookup_cons,show ((Str.ofString "things"==Str.ofString "things")=true) by decide +kernel]
theorem put2 (y x:V):putF (Str.ofString "first") y [(Str.ofString "kind",x)]= [(Str.ofString "kind",x),(Str.ofString "first",y)]:=by
 unfold putF
 rw [if_neg (by decide +kernel)]
 rfl
theorem put3 (y x z:V):putF (Str.ofString "things") y [(Str.ofString "kind",x),(Str.ofString "first",z)]= [(Str.ofString "kind",x),(Str.ofString "first",z),(Str.ofString "things",y)]:=by
 unfold putF
 rw [if_neg (by decide +kernel)]
 unfold putF
 rw [if_neg (by decide +kernel)]
 rfl
inductive BrsAt (C:Addr) (H:Hp):List (Addr×Addr)→List Br→Prop
 |nil:BrsAt C H [] []
 |cons (a l dx:Addr) (k f:Str) (ws:List V) (ts:List Tr) (L:List (Addr×Addr)) (st:List Br):H a=some (.ins C dx (bfs k f l))→H l=some (.lst ws)→TrsAt H ws ts→BrsAt C H L st→BrsAt C H ((a,l)::L) (⟨k,f,ts⟩::st)
theorem BrsAt.same {C:Addr} {H H':Hp} {L:List (Addr×Addr)} {st:List Br} (s:Same H H') (h:BrsAt C H L st):BrsAt C H' L st:=by
 induction h with
 |nil=>exact .nil
 |cons a l dx k f ws ts L st h1 h2 h3 _ ih=>exact .cons a l dx k f ws ts L st (s _ _ h1) (s _ _ h2) (h3.mono (Kd.of_same s)) ih
theorem BrsAt.wr {C:Addr} {H:Hp} {x:Addr} {xs ys:List V} {L:List (Addr×Addr)} {st:List Br} (hx:H x=some (.lst xs)) (h:BrsAt C H L st):x∉L.map (·.2)→BrsAt C (upd H x (.lst ys)) L st:=by
 induction h with
 |nil=>exact fun _=> .nil
 |cons a l dx k f ws ts L st h1 h2 h3 _ ih=>
  intro n
  rw [List.map_cons] at n
  have n1:l≠x:=fun e=>n (by rw [e];exact List.mem_cons_self)
  have n2:a≠x:=fun e=>by rw [e,hx] at h1;cases h1
  exact .cons a l dx k f ws ts L st ((ak n2).trans h1) ((ak n1).trans h2) (h3.mono (Kd.upd hx)) (ih fun m=>n (List.mem_cons_of_mem _ m))
theorem BrsAt.len {C:Addr} {H:Hp} {L:List (Addr×Addr)} {st:List Br} (h:BrsAt C H L st):L.length=st.length:=by
 induction h with
 |nil=>rfl
 |cons a l dx k f ws ts L st h1 h2 h3 _ ih=>rw [List.length_cons,List.length_cons,ih]
theorem BrsAt.lst {C:Addr} {H:Hp} {L:List (Addr×Addr)} {st:List Br} (h:BrsAt C H L st):∀l∈L.map (·.2),∃ws,H l=some (.lst ws):=by
 induction h with
 |nil=>exact fun l m=>by cases m
 |cons a l dx k f ws ts L st h1 h2 h3 _ ih=>
  intro x m
  rcases List.mem_cons.mp m with rfl|m
  · exact ⟨ws,h2⟩
  · exact ih x m
noncomputable def lsV (L:List (Addr×Addr)):List V:=L.reverse.map fun p=>V.ref p.1
theorem eY (p:Addr×Addr) (L:List (Addr×Addr)):lsV (p::L)=lsV L++ [V.ref p.1]:=by simp [lsV]
theorem nA (L:List (Addr×Addr)):(lsV L).length=L.length:=by simp [lsV]
structure StAt (C:Addr) (H0 H:Hp) (b:Addr) (st:List Br):Prop where
 same:Same H0 H
 nb:H0 b=none
 ex:∃L:List (Addr×Addr),H b=some (.lst (lsV L))∧(L.map (·.2)).Nodup∧(∀l∈L.map (·.2),H0 l=none∧l≠b)∧BrsAt C H L st
theorem StAt.more {C:Addr} {H0 H H':Hp} {b:Addr} {st:List Br} (h:StAt C H0 H b st) (s:Same H H'):StAt C H0 H' b st:=by
 obtain ⟨L,h1,h2,h3,h4⟩:=h.ex
 exact ⟨h.same.trans s,h.nb,L,s _ _ h1,h2,h3,h4.same s⟩
theorem wr0 {H H':Hp} {D:Addr} {o:HO} (h:H D=none) (s:Same H H'):Same H (upd H' D o):=fun b u e=>by
 rw [ak (fun z=>by rw [z,h] at e;cases e)]
 exact s b u e
theorem cB {α:Type} (xs:List α) (y:α):atI (xs++ [y]) (-1)=some y:=Su.last_at (by simp) (by simp)
theorem StAt.top {C:Addr} {H0 H:Hp} {b:Addr} {x:Br} {r:List Br} (h:StAt C H0 H b (x::r)):∃(a l dx:Addr) (ws xs:List V),H b=some (.lst (xs++ [.ref a]))∧xs.length=r.length∧H a=some (.ins C dx (bfs x.kind x.first l))∧H l=some (.lst ws)∧TrsAt H ws x.things∧H0 l=none∧l≠b∧
 ∀(H':Hp) (v:V) (t:Tr),Same H H'→TrAt H' v t→StAt C H0 (upd H' l (.lst (ws++ [v]))) b (push t x::r):=by
 obtain ⟨L,h1,h2,h3,h4⟩:=h.ex
 cases h4 with
 |cons a l dx k f ws ts L st q1 q2 q3 q4=>
  obtain ⟨n1,n2⟩:=h3 l List.mem_cons_self
  rw [eY] at h1
  refine ⟨a,l,dx,ws,lsV L,h1,by rw [nA,q4.len],q1,q2,q3,n1,n2,fun H' v t s hv=>⟨wr0 n1 (h.same.trans s),h.nb,(a,l)::L,?_,h2,h3,?_⟩⟩
  · rw [ak n2.symm,eY]
    exact s _ _ h1
  · have hl:=s _ _ q2
    have na:a≠l:=fun e=>by rw [e,q2] at q1;cases q1
    have kd:=Kd.upd (ys:=ws++ [v]) hl
    refine .cons a l dx k f (ws++ [v]) (ts++ [t]) L r ((ak na).trans (s _ _ q1)) ac (TrsAt.app (.cons (hv.mono kd) .nil) ((q3.mono (Kd.of_same s)).mono kd)) ((q4.same s).wr hl ?_)
    rw [List.map_cons] at h2
    exact (List.nodup_cons.mp h2).1
theorem StAt.off {C:Addr} {H0 H:Hp} {b:Addr} {x:Br} {r:List Br} (h:StAt C H0 H b (x::r)):∃(a l dx:Addr) (ws xs:List V),H b=some (.lst (xs++ [.ref a]))∧H a=some (.ins C dx (bfs x.kind x.first l))∧H l=some (.lst ws)∧TrsAt H ws x.things∧a≠b∧l≠b∧StAt C H0 (upd H b (.lst xs)) b r:=by
 obtain ⟨L,h1,h2,h3,h4⟩:=h.ex
 cases h4 with
 |cons a l dx k f ws ts L st q1 q2 q3 q4=>
  obtain ⟨n1,n2⟩:=h3 l List.mem_cons_self
  rw [eY] at h1
  have na:a≠b:=fun e=>by rw [e,h1] at q1;cases q1
  rw [List.map_cons] at h2
  exact ⟨a,l,dx,ws,lsV L,h1,q1,q2,q3,na,n2,wr0 h.nb h.same,h.nb,L,ac,(List.nodup_cons.mp h2).2,fun y m=>h3 y (List.mem_cons_of_mem _ m),q4.wr h1 fun m=>(h3 b (List.mem_cons_of_mem _ m)).2 rfl⟩
theorem StAt.add {C:Addr} {H0 H H':Hp} {b a l dx:Addr} {k f:Str} {st:List Br} (h:StAt C H0 H b st) (s:Same H H') (nl:H l=none) (h1:H' a=some (.ins C dx (bfs k f l))) (h2:H' l=some (.lst [])):
 ∃xs:List V,H b=some (.lst xs)∧xs.length=st.length∧StAt C H0 (upd H' b (.lst (xs++ [.ref a]))) b (⟨k,f,[]⟩::st):=by
 obtain ⟨L,q1,q2,q3,q4⟩:=h.ex
 have nb:l≠b:=fun e=>by rw [e,q1] at nl;cases nl
 have n0:H0 l=none:=by
  cases e:H0 l with
  |none=>rfl
  |some o=>
   have:=h.same _ _ e
   rw [nl] at this
   cases this
 have nL:l∉L.map (·.2):=fun m=>by
  obtain ⟨ws,e⟩:=q4.lst l m
  rw [nl] at e
  cases e
 have hb:=s _ _ q1
 have na:a≠b:=fun e=>by rw [e,hb] at h1;cases h1
 refine ⟨lsV L,q1,by rw [nA,q4.len],wr0 h.nb (h.same.trans s),h.nb,(a,l)::L,?_,?_,?_,?_⟩
 · rw [ac,eY]
 · rw [List.map_cons]
   exact List.nodup_cons.mpr ⟨nL,q2⟩
 · intro y m
   rcases List.mem_cons.mp m with rfl|m
   · exact ⟨n0,nb⟩
   · exact q3 y m
 · exact .cons a l dx k f [] [] L st ((ak na).trans h1) ((ak nb).trans h2) .nil ((q4.same s).wr hb fun m=>(q3 b m).2 rfl)
theorem StAt.new {C:Addr} {H0 H:Hp} {b a l dx:Addr} {k f:Str} (s:Same H0 H) (nb:H0 b=none) (nl:H0 l=none) (n:l≠b) (hb:H b=some (.lst [.ref a])) (h1:H a=some (.ins C dx (bfs k f l))) (h2:H l=some (.lst [])):StAt C H0 H b [⟨k,f,[]⟩]:=
 ⟨s,nb,[(a,l)],hb,by simp,fun y m=>by rw [List.mem_singleton.mp m];exact ⟨nl,n⟩, .cons a l dx k f [] [] [] [] h1 h2 .nil .nil⟩
section
variable {K:PySem.W.Frag} {C a l dx:Addr} {k f s:Str} {H:Hp} {t u:TS} {D:Ends} {σ:L2.St}
theorem aW (ha:H a=some (.ins C dx (bfs k f l))) (hC:Bk K C) (ne:k≠s) (h:u D (some (.ref a)::σ) H):tIfS (tB (tOp rEq (tFld K (tVar 0) (Str.ofString "kind")) (tC (.str s)))) t u D (some (.ref a)::σ) H:=by
 refine ⟨_,rfl,a,C,dx,_,_,rfl,ha,hC.cls,hC.nk,lk_k,rfl,_,rfl,?_⟩
 exact if_f (decide_eq_false fun e=>ne (V.str.inj e)) h
theorem bU (ha:H a=some (.ins C dx (bfs k f l))) (hC:Bk K C) (e:k=s) (h:t D (some (.ref a)::σ) H):tIfS (tB (tOp rEq (tFld K (tVar 0) (Str.ofString "kind")) (tC (.str s)))) t u D (some (.ref a)::σ) H:=by
 refine ⟨_,rfl,a,C,dx,_,_,rfl,ha,hC.cls,hC.nk,lk_k,rfl,_,rfl,?_⟩
 exact if_t (decide_eq_true (by rw [e])) h
end
end Rd
namespace L2
open PySem
theorem l5:∀c:Nat,c < 128→(Unicode.isAlpha c=true∧Unicode.isLower c=true∧Unicode.isUpper c=false∧Unicode.isTitle c=false∧(97≤c∧c≤122))∨(Unicode.isAlpha c=true∧Unicode.isLower c=false∧Unicode.isUpper c=true∧¬(97≤c∧c≤122))∨(Unicode.isAlpha c=false∧¬(97≤c∧c≤122)):=by
 decide +kernel
theorem uf {p:Nat→Bool} {a:Array Nat}:a.all p=a.toList.all p:=by simp
theorem ud {p:Nat→Bool} {a:Array Nat}:a.any p=a.toList.any p:=by simp
theorem r9 (x:Str):(Txt.isascii x&& (Txt.isalpha x&&Txt.islower x))=true↔0 < x.length∧∀c∈x.cps.toList,97≤c∧c≤122:=by
 unfold Txt.isascii Txt.isalpha Txt.islower
 simp only [Bool.and_eq_true,uf,ud,List.all_eq_true,List.any_eq_true,decide_eq_true_eq,Bool.not_eq_true',Bool.or_eq_true]
 constructor
 · rintro ⟨h1,⟨h2,h3⟩,h4,h5⟩
   refine ⟨h2,fun c m=> ?_⟩
   rcases l5 c (h1 c m) with ⟨_,_,_,_,k⟩|⟨_,_,k,_⟩|⟨k,_⟩
   · exact k
   · exfalso
     have:(x.cps.toList.any fun c=>Unicode.isUpper c ||Unicode.isTitle c)=true:=List.any_eq_true.mpr ⟨c,m,by rw [k];rfl⟩
     rw [h5] at this
     cases this
   · rw [h3 c m] at k
     cases k
 · rintro ⟨h1,h2⟩
   have asc:∀c∈x.cps.toList,c < 128:=fun c m=>by have:=h2 c m;omega
   have kd:∀c∈x.cps.toList,Unicode.isAlpha c=true∧Unicode.isLower c=true∧Unicode.isUpper c=false∧Unicode.isTitle c=false:=fun c m=>by
    rcases l5 c (asc c m) with ⟨a,b,d,e,_⟩|⟨_,_,_,k⟩|⟨_,k⟩
    · exact ⟨a,b,d,e⟩
    · exact absurd (h2 c m) k
    · exact absurd (h2 c m) k
   refine ⟨asc,⟨h1,fun c m=>(kd c m).1⟩,?_,?_⟩
   · cases e:x.cps.toList with
     |nil=>
      have:x.length=0:=by
       show x.cps.size=0
       rw [←Array.length_toList,e]
       rfl
      omega
     |cons c l=>exact ⟨c,List.mem_cons_self,(kd c (by rw [e];exact List.mem_cons_self)).2.1⟩
   · cases e:(x.cps.toList.any fun c=>Unicode.isUpper c ||Unicode.isTitle c) with
     |false=>rfl
     |true=>
      obtain ⟨c,m,k⟩:=List.any_eq_true.mp e
      obtain ⟨_,_,k1,k2⟩:=kd c m
      rw [k1,k2] at k
      cases k
section
variable {X:Cx}
def rBs (g:Str→Bool):V→List V→Hp→VK→Prop:=fun x vs H Q=>∃z,x= .str z∧vs= []∧Q (.bl (g z)) H
theorem lM:MtM X "str.isalpha" (rBs Txt.isalpha):=by
 intro pins s σ H x vs v us Q I rx rv h
 obtain ⟨z,rfl,rfl,q⟩:=h
 obtain ⟨t,rfl⟩:=rx
 cases rv.zero
 exact SC.isalpha ⟨.bl _,H,I,rfl,q⟩
theorem lK:MtM X "str.islower" (rBs Txt.islower):=by
 intro pins s σ H x vs v us Q I rx rv h
 obtain ⟨z,rfl,rfl,q⟩:=h
 obtain ⟨t,rfl⟩:=rx
 cases rv.zero
 exact SC.islower ⟨.bl _,H,I,rfl,q⟩
end
end L2
namespace K12
open PySem L2 Mth Dec Tre Wd Su Tw Rd
theorem vP (K:PySem.W.Frag):PySem.W.kitOne K (.type "str") (.type "str")=some true:=by kernel_rfl
theorem tN {x:Str} (h:Trm.Nm x):Txt.isascii x=true∧Txt.isalpha x=true∧Txt.islower x=true:=by
 have e:=(r9 x).mpr ⟨h.pos,fun c m=>h.ltr c m⟩
 rw [Bool.and_eq_true,Bool.and_eq_true] at e
 exact e
section
variable {P:Program} {w:World} {K:PySem.W.Frag} {mg:Str→Option Value} {base:Heap}
def spNq:Sp:=fun vs H Q _=>∃(x:Str),vs= [.str x]∧Trm.Nm x∧Q (.bl true) H
theorem scNq:aA ["thing"] ["thing"] (ae sNmQ):=⟨rfl,rfl,rfl,by decide +kernel,rfl,by decide +kernel,by decide +kernel⟩
theorem xb {f:Addr} {fd:FuncData} {tk:Tok} (F:Fun K "is_name" "is_name" sNmQ f fd) (B:Blt mg) (mL:mg "MOST_LETTERS"=some (.int 8 tk)):FnOk P w K mg base CX0 1 f fd ["thing"] spNq:=by
 refine F.ok scNq (fun vs H Q E h=> ?_) (fun cdv A outer s H vs Q E hr h=> ?_)
 · obtain ⟨x,rfl,_⟩:=h
   rfl
 obtain ⟨x,rfl,hx,k⟩:=h
 refine ⟨_,aa (aK (PW.pt (eR (cC (bH (aD (r:=rIsi K) bh rfl B.isi aI (a7 (pv 0) (a7 (bv (v:= .ty "str") rfl B.st PyProof.Rows.boot_str rfl) a9))))) (df (am nh (aD c7 rfl B.le PySem.boot_len (a7 (pv 0) a9)) (bR (v:= .int 8) rfl mL ⟨_,rfl⟩) (au _))))) (ag (aj cE)) av)
  (ag (aj (eB (fH PySem.F.plainAttrs_str PySem.F.slot_str_isascii PySem.F.type_str_isascii gZ (pv 0)) (eB (fH PySem.F.plainAttrs_str PySem.F.slot_str_isalpha PySem.F.type_str_isalpha lM (pv 0)) (gY (fH PySem.F.plainAttrs_str PySem.F.slot_str_islower PySem.F.type_str_islower lK (pv 0))))))),?_⟩
 obtain ⟨t1,t2,t3⟩:=tN hx
 have hl:=hx.le
 refine ⟨_,rfl, .str x, .ty "str", .type "str",true,rfl, .of (.str x), .inl ⟨rfl,vP K⟩,_,rfl,?_⟩
 refine iteF ?_
 refine ⟨_,rfl,x,rfl,Nat.le_trans hl (by decide +kernel),_,8,rfl,rfl,_,rfl,?_⟩
 refine if_f (decide_eq_false (by omega)) ?_
 refine ⟨_,rfl,rfl,x,rfl,rfl,_,rfl,?_⟩
 refine if_t t1 ?_
 refine ⟨_,rfl,rfl,x,rfl,rfl,_,rfl,?_⟩
 refine if_t t2 ?_
 refine ⟨_,rfl,rfl,x,rfl,rfl,?_⟩
 rw [t3]
 exact k
def spBi (C:Addr):Sp:=fun vs H Q _=>∃(x dx:Addr) (k f:Str),vs= [.ref x, .str k, .str f]∧H x=some (.ins C dx [])∧∀(l:Addr) (H':Hp),l≠x→H l=none→H' x=some (.ins C dx (bfs k f l))→H' l=some (.lst [])→(∀y o,y≠x→H y=some o→H' y=some o)→Q .non H'
theorem scBi:aA ["self","kind","first"] ["self","kind","first"] (ae iF):=⟨rfl,rfl,rfl,by decide +kernel,rfl,by decide +kernel,by decide +kernel⟩
theorem xk {f C:Addr} {fd:FuncData} (F:Fun K "__init__" "Bracket.__init__" iF f fd) (hC:Bk K C):FnOk P w K mg base CX0 1 f fd ["self","kind","first"] (spBi C):=by
 refine F.ok scBi (fun vs H Q E h=> ?_) (fun cdv A outer s H vs Q E hr h=> ?_)
 · obtain ⟨x,dx,k,f,rfl,_⟩:=h
   rfl
 obtain ⟨x,dx,k,f,rfl,hx,q⟩:=h
 refine ⟨_,aa (lF (pv 0) (pv 1) rfl) (aa (lF (pv 0) (pv 2) rfl) (ag (lF (pv 0) (bn a9) rfl))),?_⟩
 refine ⟨_,rfl,_,rfl,x,C,dx,[],rfl,hx,hC.cls,hC.nk,by decide,?_⟩
 rw [show putF (Str.ofString "kind") (V.str k) []= [(Str.ofString "kind",V.str k)] from rfl]
 refine ⟨_,rfl,_,rfl,x,C,dx,_,rfl,ac,hC.cls,hC.nf,by show 1 < 1000;decide,?_⟩
 rw [put2]
 refine ⟨by show 0≤sizeLine;decide,fun l nl=> ?_⟩
 have nx:l≠x:=fun z=>by rw [z,ac] at nl;cases nl
 refine ⟨_,rfl,x,C,dx,_,rfl,(ak nx.symm).trans ac,hC.cls,hC.nt,by show 2 < 1000;decide,?_⟩
 rw [put3]
 refine q l _ nx (by rw [ak nx,ak nx] at nl;exact nl) ac ((ak nx).trans ac) fun y o ny e=> ?_
 have nyl:y≠l:=fun z=>by rw [ak nx,ak nx,←z,e] at nl;cases nl
 rw [ak ny,ak nyl,ak ny,ak ny]
 exact e
def mI (C:Addr):Sp:=fun vs H Q _=>∃(a l dx:Addr) (k f:Str) (ws:List V),vs= [.ref a]∧H a=some (.ins C dx (bfs k f l))∧H l=some (.lst ws)∧Q (wnt k f ws.length) H
theorem scWan:aA ["bracket","many"] ["bracket"] (ae sWan):=⟨rfl,rfl,rfl,by decide +kernel,rfl,by decide +kernel,by decide +kernel⟩
theorem vg {f C:Addr} {fd:FuncData} {tk:Tok} (F:Fun K "wanted" "wanted" sWan f fd) (B:Blt mg) (hC:Bk K C) (mM:mg "MOST_IN_CALL"=some (.int 3 tk)):FnOk P w K mg base CX0 1 f fd ["bracket"] (mI C):=by
 refine F.ok scWan (fun vs H Q E h=> ?_) (fun cdv A outer s H vs Q E hr h=> ?_)
 · obtain ⟨a,l,dx,k,f,ws,rfl,_⟩:=h
   rfl
 obtain ⟨a,l,dx,k,f,ws,rfl,ha,hl,hq⟩:=h
 refine ⟨_,aa (aq (i:=1) scWan.nd rfl (Or.inl rfl) (aD aX rfl B.le PySem.boot_len (a7 (b9 (pv 0) rfl) a9)))
  (aa (aK (am aP (b9 (pv 0) rfl) ai (au _)) (ag (aj (bK (am aP (pv 1) ad (au _)) (b9 (pv 0) rfl) cq))) av)
  (aa (aK (am aP (b9 (pv 0) rfl) ai (au _)) (ag (aj (bK (am aP (pv 1) ad (au _)) ai cq))) av)
  (aa (aK (am aP (b9 (pv 0) rfl) ai (au _)) (ag (aj (bK (am jZ (pv 1) ad (au _)) ai cq))) av)
  (aa (aK (am aP (b9 (pv 0) rfl) ai (au _)) (ag (aj (bK (am jZ (pv 1) (bR (v:= .int 3) rfl mM ⟨_,rfl⟩) (au _)) ai cq))) av)
  (aa (aK (am aP (b9 (pv 0) rfl) ai (au _)) (ag (aj (bK (am aP (ao c9 (pv 1) ad) ad (au _)) ai ai))) av)
  (ag (aj ai))))))),?_⟩
 refine ⟨_,rfl,a,C,dx,_,_,rfl,ha,hC.cls,hC.nt,lk_t,l,ws,rfl, .inl (SqL.of hl),?_⟩
 unfold wnt at hq
 by_cases e1:k= "whole"
 · refine bU ha hC e1 ?_
   rw [if_pos e1] at hq
   refine ⟨_,rfl,rfl,_,rfl,?_⟩
   by_cases z:ws.length=0
   · rw [if_pos z] at hq
     exact if_t (decide_eq_true (by rw [z];rfl)) ⟨_,rfl,a,C,dx,_,_,rfl,ha,hC.cls,hC.nf,lk_f,hq⟩
   · rw [if_neg z] at hq
     exact if_f (decide_eq_false fun e=>z (by have:=V.int.inj e;omega)) hq
 refine aW ha hC e1 ?_
 rw [if_neg e1] at hq
 by_cases e2:k= "not"
 · refine bU ha hC e2 ?_
   rw [if_pos e2] at hq
   refine ⟨_,rfl,rfl,_,rfl,?_⟩
   by_cases z:ws.length=0
   · rw [if_pos z] at hq
     exact if_t (decide_eq_true (by rw [z];rfl)) hq
   · rw [if_neg z] at hq
     exact if_f (decide_eq_false fun e=>z (by have:=V.int.inj e;omega)) hq
 refine aW ha hC e2 ?_
 rw [if_neg e2] at hq
 by_cases e3:k= "like"
 · refine bU ha hC e3 ?_
   rw [if_pos e3] at hq
   refine ⟨_,rfl,_,_,rfl,rfl,_,rfl,?_⟩
   by_cases z:ws.length < 2
   · rw [if_pos z] at hq
     exact if_t (decide_eq_true (by omega)) hq
   · rw [if_neg z] at hq
     exact if_f (decide_eq_false (by omega)) hq
 refine aW ha hC e3 ?_
 rw [if_neg e3] at hq
 by_cases e4:k= "call"
 · refine bU ha hC e4 ?_
   rw [if_pos e4] at hq
   refine ⟨_,rfl,_,_,rfl,rfl,_,rfl,?_⟩
   by_cases z:ws.length < 3
   · rw [if_pos z] at hq
     exact if_t (decide_eq_true (by omega)) hq
   · rw [if_neg z] at hq
     exact if_f (decide_eq_false (by omega)) hq
 refine aW ha hC e4 ?_
 rw [if_neg e4] at hq
 by_cases e5:k= "sum"
 · refine bU ha hC e5 ?_
   rw [if_pos e5] at hq
   refine ⟨_,rfl,_,_,rfl,rfl,by show (0:Int) < 2;decide,rfl,_,rfl,?_⟩
   by_cases z:ws.length%2=0
   · rw [if_pos z] at hq
     exact if_t (decide_eq_true (congrArg V.int (by omega))) hq
   · rw [if_neg z] at hq
     exact if_f (decide_eq_false fun e=>z (by have:=V.int.inj e;omega)) hq
 refine aW ha hC e5 ?_
 rw [if_neg e5] at hq
 exact hq
def pR (C:Addr):Sp:=fun vs H Q _=>∃(a l dx:Addr) (k f:Str) (ws:List V),vs= [.ref a]∧H a=some (.ins C dx (bfs k f l))∧H l=some (.lst ws)∧Q (.bl (mayE k ws.length)) H
theorem scMay:aA ["bracket","many"] ["bracket"] (ae sMay):=⟨rfl,rfl,rfl,by decide +kernel,rfl,by decide +kernel,by decide +kernel⟩
theorem vy {f C:Addr} {fd:FuncData} (F:Fun K "may_end" "may_end" sMay f fd) (B:Blt mg) (hC:Bk K C):FnOk P w K mg base CX0 1 f fd ["bracket"] (pR C):=by
 refine F.ok scMay (fun vs H Q E h=> ?_) (fun cdv A outer s H vs Q E hr h=> ?_)
 · obtain ⟨a,l,dx,k,f,ws,rfl,_⟩:=h
   rfl
 obtain ⟨a,l,dx,k,f,ws,rfl,ha,hl,hq⟩:=h
 refine ⟨_,aa (aq (i:=1) scMay.nd rfl (Or.inl rfl) (aD aX rfl B.le PySem.boot_len (a7 (b9 (pv 0) rfl) a9)))
  (aa (aK (PW.pt (eR (am aP (b9 (pv 0) rfl) ai (au _)) (df (am aP (b9 (pv 0) rfl) ai (au _))))) (ag (aj (cK uy (pv 1) ad (au _)))) av)
  (aa (aK (am aP (b9 (pv 0) rfl) ai (au _)) (ag (aj (cK aP (pv 1) ad (au _)))) av)
  (aa (aK (am aP (b9 (pv 0) rfl) ai (au _)) (ag (aj (cK aP (ao c9 (pv 1) ad) ad (au _)))) av)
  (ag (aj (cK iH (b9 (pv 0) rfl) ai (au _))))))),?_⟩
 refine ⟨_,rfl,a,C,dx,_,_,rfl,ha,hC.cls,hC.nt,lk_t,l,ws,rfl, .inl (SqL.of hl),?_⟩
 unfold mayE at hq
 have ge:∀ {b:Bool},b=decide (1≤ws.length)→Q (.bl (decide (1≤ws.length))) H→Q (.bl b) H:=fun e q=>by rw [e];exact q
 have eI:∀ {x y:Int} {p:Prop} [Decidable p],(x=y↔p)→decide (V.int x=V.int y)=decide p:=fun {x y p} _ h=>by
  by_cases e:x=y
  · rw [decide_eq_true (congrArg V.int e),decide_eq_true (h.mp e)]
  · rw [decide_eq_false (fun q=>e (V.int.inj q)),decide_eq_false (fun q=>e (h.mpr q))]
 refine ⟨_,rfl,a,C,dx,_,_,rfl,ha,hC.cls,hC.nk,lk_k,rfl,_,rfl,?_⟩
 by_cases e1:k= "not"
 · rw [if_pos e1] at hq
   refine if_t (decide_eq_true (by rw [e1])) ?_
   refine iteT ?_
   refine ⟨_,rfl,_,_,rfl,rfl,?_⟩
   exact ge (by by_cases z:1≤ws.length<;>simp [z]<;>omega) hq
 rw [if_neg e1] at hq
 refine if_f (decide_eq_false fun e=>e1 (V.str.inj e)) ?_
 refine ⟨_,rfl,a,C,dx,_,_,rfl,ha,hC.cls,hC.nk,lk_k,rfl,_,rfl,?_⟩
 by_cases e2:k= "call"
 · rw [if_pos e2] at hq
   refine if_t (decide_eq_true (by rw [e2])) ?_
   refine ⟨_,rfl,_,_,rfl,rfl,?_⟩
   exact ge (by by_cases z:1≤ws.length<;>simp [z]<;>omega) hq
 rw [if_neg e2] at hq
 refine if_f (decide_eq_false fun e=>e2 (V.str.inj e)) ?_
 by_cases e3:k= "like"
 · rw [if_pos e3] at hq
   refine bU ha hC e3 ?_
   refine ⟨_,rfl,rfl,?_⟩
   rw [eI (show ((ws.length:Nat):Int)=2↔ws.length=2 by omega)]
   exact hq
 rw [if_neg e3] at hq
 refine aW ha hC e3 ?_
 by_cases e4:k= "sum"
 · rw [if_pos e4] at hq
   refine bU ha hC e4 ?_
   refine ⟨_,rfl,_,_,rfl,rfl,by show (0:Int) < 2;decide,rfl,?_⟩
   rw [eI (show ((ws.length:Nat):Int)%2=1↔ws.length%2=1 by omega)]
   exact hq
 rw [if_neg e4] at hq
 refine aW ha hC e4 ?_
 refine ⟨_,rfl,a,C,dx,_,_,rfl,ha,hC.cls,hC.nk,lk_k,rfl,?_⟩
 have:(!decide (V.str k=V.str (Str.ofString "whole")))=decide (k≠"whole"):=by
  by_cases e:k= "whole"
  · rw [decide_eq_true (by rw [e]),decide_eq_false (fun q=>q e)]
    rfl
  · rw [decide_eq_false (fun q=>e (V.str.inj q)),decide_eq_true e]
    rfl
 rw [this]
 exact hq
def pH:Sp:=fun vs H Q _=>∃(c:Str) (wv:V) (t:Tr),vs= [.str c,wv]∧StP c wv t∧c.length≤200∧∀v H',Same H H'→TrAt H' v t→v≠ .non→Q v H'
theorem wO:aA ["core","want"] ["core","want"] (ae sThI):=⟨rfl,rfl,rfl,by decide +kernel,rfl,by decide +kernel,by decide +kernel⟩
theorem vk {f fF fN:Addr} {fd dF dN:FuncData} (F:Fun K "thing_in" "thing_in" sThI f fd)
 (gF:FnOk P w K mg base CX0 4 fF dF ["text"] spFi) (kF:PySem.W.keepIn K (.ref fF)=true) (bF:Binds K dF ["text"] []) (mF:mg "fraction_in"=some (.ref fF))
 (gN:FnOk P w K mg base CX0 1 fN dN ["thing"] spNq) (kN:PySem.W.keepIn K (.ref fN)=true) (bN:Binds K dN ["thing"] []) (mN:mg "is_name"=some (.ref fN)):FnOk P w K mg base CX0 5 f fd ["core","want"] pH:=by
 refine F.ok wO (fun vs H Q E h=> ?_) (fun cdv A outer s H vs Q E hr h=> ?_)
 · obtain ⟨c,wv,t,rfl,_⟩:=h
   rfl
 obtain ⟨c,wv,t,rfl,hs,hl,k⟩:=h
 have hr1:Room 1 _:=hr.mono (by decide)
 refine ⟨_,aa (aK (am aP (pv 1) ai (au _)) (ag (aj (ah gF hr rfl mF kF bF .nil ar (a7 (pv 0) a9)))) av)
  (aa (aK (PW.pt (eR (am jq (pv 1) cq (au _)) (df (cC (bH (ah gN hr1 rfl mN kN bN .nil ar (a7 (pv 0) a9))))))) (ag (aj cq)) av)
  (ag (aj (bK (am aP (pv 1) ai (au _)) (aE (a7 ai (a7 (pv 0) a9))) (aE (a7 ai (a7 (pv 0) a9))))))),?_⟩
 cases hs with
 |fr p e1 e2=>
  refine ⟨_,rfl,rfl,_,rfl,?_⟩
  refine if_t (decide_eq_true rfl) ?_
  refine ⟨_,rfl,c,rfl,hl, .inl ⟨p.1,p.2,e2,e1,fun r H' nr s hr'=> ?_⟩⟩
  exact k (.ref r) H' s (c8 hr') (by intro z;cases z)
 |wi hn=>
  refine ⟨_,rfl,rfl,_,rfl,?_⟩
  refine if_f (by decide +kernel) ?_
  refine ⟨_,rfl,rfl,_,rfl,?_⟩
  refine if_f (by decide +kernel) ?_
  refine ⟨_,rfl,c,rfl,hn,_,rfl,?_⟩
  refine iteF ?_
  refine ⟨_,rfl,rfl,_,rfl,?_⟩
  refine if_t (decide_eq_true rfl) ?_
  refine ⟨_,rfl,by show 2≤sizeLine;decide,fun p np=> ?_⟩
  exact k (.ref p) _ (af np) (aQ ac (.cons aS (.cons aS .nil))) (by intro z;cases z)
 |te hn=>
  refine ⟨_,rfl,rfl,_,rfl,?_⟩
  refine if_f (by decide +kernel) ?_
  refine ⟨_,rfl,rfl,_,rfl,?_⟩
  refine if_f (by decide +kernel) ?_
  refine ⟨_,rfl,c,rfl,hn,_,rfl,?_⟩
  refine iteF ?_
  refine ⟨_,rfl,rfl,_,rfl,?_⟩
  refine if_f (by decide +kernel) ?_
  refine ⟨_,rfl,by show 2≤sizeLine;decide,fun p np=> ?_⟩
  exact k (.ref p) _ (af np) (aQ ac (.cons aS (.cons aS .nil))) (by intro z;cases z)
end
open PySem L2 Mth Dec Tre Wd Su Tw Rd
section
variable {P:Program} {w:World} {K:PySem.W.Frag} {mg:Str→Option Value} {base:Heap}
def pP (C:Addr):Sp:=fun vs H Q _=>∃(H0:Hp) (b:Addr) (c:Str) (x:Br) (r:List Br) (t:Tr),vs= [.ref b, .str c]∧StAt C H0 H b (x::r)∧StP c x.n t∧c.length≤200∧x.things.length < 100∧∀H',StAt C H0 H' b (push t x::r)→Q (.bl true) H'
theorem scPut:aA ["brackets","core","thing"] ["brackets","core"] (ae sPut):=⟨rfl,rfl,rfl,by decide +kernel,rfl,by decide +kernel,by decide +kernel⟩
theorem vw {f fT fW C:Addr} {fd dT dW:FuncData} (F:Fun K "is_put" "is_put" sPut f fd) (hC:Bk K C)
 (gT:FnOk P w K mg base CX0 5 fT dT ["core","want"] pH) (kT:PySem.W.keepIn K (.ref fT)=true) (bT:Binds K dT ["core","want"] []) (mT:mg "thing_in"=some (.ref fT))
 (gW:FnOk P w K mg base CX0 1 fW dW ["bracket"] (mI C)) (kW:PySem.W.keepIn K (.ref fW)=true) (bW:Binds K dW ["bracket"] []) (mW:mg "wanted"=some (.ref fW)):FnOk P w K mg base CX0 6 f fd ["brackets","core"] (pP C):=by
 refine F.ok scPut (fun vs H Q E h=> ?_) (fun cdv A outer s H vs Q E hr h=> ?_)
 · obtain ⟨H0,b,c,x,r,t,rfl,_⟩:=h
   rfl
 obtain ⟨H0,b,c,x,r,t,rfl,hS,hp,hc,hx,k⟩:=h
 have hr1:Room 1 _:=hr.mono (by decide)
 refine ⟨_,aa (aq (i:=2) scPut.nd rfl (Or.inl rfl) (ah gT hr rfl mT kT bT .nil ar (a7 (pv 1) (a7 (ah gW hr1 rfl mW kW bW .nil ar (a7 (aB aG (pv 0) (ck bw ad) fun _ _=>rfl) a9)) a9))))
  (aa (aK (am jq (pv 2) cq (au _)) (ag (aj cE)) av)
  (aa (cg (bZ PySem.F.plainAttrs_list PySem.F.slot_list_append PySem.F.type_list_append bf (b9 (aB aG (pv 0) (ck bw ad) fun _ _=>rfl) rfl) (a7 (pv 2) a9)))
  (ag (aj cE)))),?_⟩
 have hL:(20000:Nat)≤sizeLine:=by decide +kernel
 obtain ⟨a,l,dx,ws,xs,h1,h2,h3,h4,h5,h6,h7,go⟩:=hS.top
 have wl:=h5.len
 have hp':StP c (wnt x.kind x.first ws.length) t:=by rw [wl];exact hp
 refine ⟨_,rfl,_,rfl,_,rfl,b,_,-1, .ref a,rfl,rfl,SqL.of h1,cB _ _,a,l,dx,_,_,ws,rfl,h3,h4,c,_,t,rfl,hp',hc,fun v H1 s1 hv nv=> ?_⟩
 refine ⟨_,rfl,rfl,_,rfl,?_⟩
 refine if_f (decide_eq_false nv) ?_
 refine ⟨_,rfl,_,rfl,b,_,-1, .ref a,rfl,rfl,SqL.of (s1 _ _ h1),cB _ _,a,C,dx,_,_,rfl,s1 _ _ h3,hC.cls,hC.nt,lk_t, .inl ⟨rfl,_,SqL.of (s1 _ _ h4)⟩,_,rfl,l,ws,v,rfl,rfl,s1 _ _ h4,by omega,?_⟩
 exact k _ (go H1 v t s1 hv)
def pW (C:Addr):Sp:=fun vs H Q _=>∃(H0:Hp) (b:Addr) (f:Str) (x:Br) (r:List Br) (kd:Str),vs= [.ref b, .str f]∧StAt C H0 H b (x::r)∧StO f x.n kd∧r.length < 30∧∀H',StAt C H0 H' b (⟨kd,f,[]⟩::x::r)→Q (.bl true) H'
theorem scBeg:aA ["brackets","first","want","kind"] ["brackets","first"] (ae sBeg):=⟨rfl,rfl,rfl,by decide +kernel,rfl,by decide +kernel,by decide +kernel⟩
theorem vB {f fW fN fI C KD:Addr} {fd dW dN dI:FuncData} {tk:Tok} (F:Fun K "begins" "begins" sBeg f fd) (B:Blt mg) (hC:Bk K C) (M:Mk K C fI) (mC:mg "Bracket"=some (.ref C))
 (gI:FnOk P w K mg base CX0 1 fI dI ["self","kind","first"] (spBi C)) (bI:Binds K dI ["self","kind","first"] [])
 (gW:FnOk P w K mg base CX0 1 fW dW ["bracket"] (mI C)) (kW:PySem.W.keepIn K (.ref fW)=true) (bW:Binds K dW ["bracket"] []) (mW:mg "wanted"=some (.ref fW))
 (gN:FnOk P w K mg base CX0 1 fN dN ["thing"] spNq) (kN:PySem.W.keepIn K (.ref fN)=true) (bN:Binds K dN ["thing"] []) (mN:mg "is_name"=some (.ref fN))
 (mK:mg "KINDS"=some (.ref KD)) (hK:GdK w K KD Kn) (mB:mg "MOST_BRACKETS"=some (.int 30 tk)):FnOk P w K mg base CX0 3 f fd ["brackets","first"] (pW C):=by
 refine F.ok scBeg (fun vs H Q E h=> ?_) (fun cdv A outer s H vs Q E hr h=> ?_)
 · obtain ⟨H0,b,f,x,r,kd,rfl,_⟩:=h
   rfl
 obtain ⟨H0,b,f,x,r,kd,rfl,hS,ho,hrl,k⟩:=h
 have hr1:Room 1 _:=hr.mono (by decide)
 refine ⟨_,aa (aq (i:=2) scBeg.nd rfl (Or.inl rfl) (ah gW hr1 rfl mW kW bW .nil ar (a7 (aB aG (pv 0) (ck bw ad) fun _ _=>rfl) a9)))
  (aa (aq (i:=3) scBeg.nd rfl (Or.inl rfl) cq)
  (aa (aK (am aP (pv 2) ai (au _)) (ag (aq (i:=3) scBeg.nd rfl (Or.inl rfl) (t9 hK (bR (v:= .ref KD) rfl mK rfl) (pv 1) ⟨rfl,rfl,rfl,rfl⟩)))
   (ag (aK (PW.pt (lD (am aP (pv 2) ai (au _)) (jo (bH (ah gN hr1 rfl mN kN bN .nil ar (a7 (pv 1) a9)))))) (ag (aq (i:=3) scBeg.nd rfl (Or.inl rfl) ai)) av)))
  (aa (aK (PW.pt (eR (am jq (pv 3) cq (au _)) (df (am nh (aD aX rfl B.le PySem.boot_len (a7 (pv 0) a9)) (bR (v:= .int 30) rfl mB ⟨_,rfl⟩) (au _))))) (ag (aj cE)) av)
  (aa (cg (bZ PySem.F.plainAttrs_list PySem.F.slot_list_append PySem.F.type_list_append bf (pv 0) (a7 (n9 M gI hr rfl mC bI .nil ar (a7 (pv 3) (a7 (pv 1) a9))) a9)))
  (ag (aj cE)))))),?_⟩
 have hL:(20000:Nat)≤sizeLine:=by decide +kernel
 obtain ⟨a,l,dx,ws,xs,h1,h2,h3,h4,h5,h6,h7,go⟩:=hS.top
 have wl:=h5.len
 have ho':StO f (wnt x.kind x.first ws.length) kd:=by rw [wl];exact ho
 refine ⟨_,rfl,_,rfl,b,_,-1, .ref a,rfl,rfl,SqL.of h1,cB _ _,a,l,dx,_,_,ws,rfl,h3,h4,?_⟩
 generalize wnt x.kind x.first ws.length=wv at ho'
 refine cV ?_
 dsimp only
 refine cH (fun σ' H'=>H'=H∧σ'= [some (.ref b),some (.str f),some wv,some .non]) ?_ fun nx hnx=>hnx _ _ ⟨rfl,rfl⟩
 rintro σ' H' ⟨rfl,rfl⟩
 refine cH (fun σ' H1=>H1=H'∧σ'= [some (.ref b),some (.str f),some wv,some (.str kd)]) ?_ fun nx hnx=> ?_
 rotate_left
 · cases ho' with
   |wi _ hk=>
    refine ⟨_,rfl,rfl,_,rfl,?_⟩
    refine if_t (decide_eq_true rfl) ?_
    exact ⟨rfl,_,rfl,f,kd,rfl,hk,hnx _ _ ⟨rfl,rfl⟩⟩
   |te hn=>
    refine ⟨_,rfl,rfl,_,rfl,?_⟩
    refine if_f (by decide +kernel) ?_
    refine ⟨_,rfl,rfl,_,rfl,?_⟩
    refine if_t (decide_eq_true rfl) ?_
    refine ⟨_,rfl,f,rfl,hn,_,rfl,?_⟩
    exact iteT (hnx _ _ ⟨rfl,rfl⟩)
 rintro σ' H1 ⟨rfl,rfl⟩
 refine ⟨_,rfl,rfl,_,rfl,?_⟩
 refine if_f (decide_eq_false (by intro z;cases z)) ?_
 refine ⟨_,rfl,b,_,rfl, .inl (SqL.of h1),_,_,rfl,rfl,_,rfl,?_⟩
 refine if_f (decide_eq_false (by rw [List.length_append,List.length_singleton];omega)) ?_
 refine ⟨_,rfl, .inl ⟨rfl,_,SqL.of h1⟩,_,rfl,_,rfl,fun y dy ny ndy nd=> ?_⟩
 refine ⟨y,dy,kd,f,rfl,ac,fun l2 H2 n1 n2 q1 q2 q3=>⟨rfl,?_⟩⟩
 have nl2:H1 l2=none:=by
  rw [ak n1] at n2
  by_cases e:l2=dy
  · rw [e,ac] at n2
    cases n2
  · rw [ak e] at n2
    exact n2
 have sm:Same H1 H2:=fun z o e=>by
  have nz1:z≠y:=fun q=>by rw [q,ny] at e;cases e
  have nz2:z≠dy:=fun q=>by rw [q,ndy] at e;cases e
  exact q3 z o nz1 (by rw [ak nz1,ak nz2];exact e)
 obtain ⟨zs,e1,e2,e3⟩:=hS.add sm nl2 q1 q2
 rw [h1] at e1
 cases e1
 refine ⟨b,_,_,rfl,rfl,sm _ _ h1,by rw [List.length_append,List.length_singleton];omega,?_⟩
 exact k _ e3
end
end K12
namespace K12
open PySem L2 Mth Tre Wd Su
section
variable {P:Program} {w:World} {K:PySem.W.Frag} {mg:Str→Option Value} {base:Heap}
def jg:Sp:=fun vs H Q _=>∃(v:V) (b:Fr),vs= [v]∧TrAt H v (frT b)∧∀(u:V) (H':Hp),Same H H'→TrAt H' u (frT (negF b))→Q u H'
theorem scCo:aA ["one"] ["one"] (ae fq):=⟨rfl,rfl,rfl,by decide +kernel,rfl,by decide +kernel,by decide +kernel⟩
theorem qU {f:Addr} {fd:FuncData} (F:Fun K "contrary" "contrary" fq f fd):FnOk P w K mg base CX0 1 f fd ["one"] jg:=by
 refine F.ok scCo (fun vs H Q E h=> ?_) (fun cdv A outer s H vs Q E hr h=> ?_)
 · obtain ⟨v,b,rfl,_⟩:=h
   rfl
 obtain ⟨v,b,rfl,hv,k⟩:=h
 refine ⟨_,ag (aj (aE (a7 (ck bw (aB aJ (pv 0) ad fun _ _=>rfl)) (a7 (aB aJ (pv 0) ad fun _ _=>rfl) a9)))),?_⟩
 obtain ⟨r,rfl,hr'⟩:=cZ hv
 refine ⟨_,rfl,r,_,0, .int b.1,rfl,rfl,SqT.of hr',rfl,_,rfl,_,rfl,r,_,1, .int b.2,rfl,rfl,SqT.of hr',rfl,by show 2≤sizeLine;decide,fun p np=> ?_⟩
 exact k (.ref p) _ (af np) (c8 ac)
def gJ:Sp:=fun vs H Q _=>∃(v u:V) (as:List Pq) (q:Fr) (n e m:Nat),vs= [v,u]∧TrAt H v (.tup (as.map prT))∧TrAt H u (frT q)∧Sh q∧Gf m q∧as.length≤n∧n < 64∧n*(e+m+1)≤8000∧e≤8000∧m≤8000∧Asc as∧(∀p∈as,Gq e p)∧
 ∀(x:V) (H':Hp) (us:List Pq),Same H H'→TrAt H' x (.tup (us.map prT))→Can (as.map (fX q)) us→us.length≤as.length→(∀p∈us,Gq (e+m) p)→Q x H'
theorem scST:aA ["one","many"] ["one","many"] (ae dw):=⟨rfl,rfl,rfl,by decide +kernel,rfl,by decide +kernel,by decide +kernel⟩
theorem or {f fS fT:Addr} {fd dS dT:FuncData} (F:Fun K "sum_times" "sum_times" dw f fd)
 (gS:FnOk P w K mg base CX0 3 fS dS ["pairs"] jR) (kS:PySem.W.keepIn K (.ref fS)=true) (bS:Binds K dS ["pairs"] []) (mS:mg "sum_of"=some (.ref fS))
 (gT:FnOk P w K mg base CX0 2 fT dT ["one","other"] (jb K)) (kT:PySem.W.keepIn K (.ref fT)=true) (bT:Binds K dT ["one","other"] []) (mT:mg "times"=some (.ref fT)):FnOk P w K mg base CX0 4 f fd ["one","many"] gJ:=by
 refine F.ok scST (fun vs H Q E h=> ?_) (fun cdv A outer s H vs Q E hr h=> ?_)
 · obtain ⟨v,u,as,q,n,e,m,rfl,_⟩:=h
   rfl
 obtain ⟨v,u,as,q,n,e,m,rfl,hv,hu,sq,gq,an,n64,h8,e8,m8,asc,ga,k⟩:=h
 have hr2:Room 2 _:=hr.mono (by omega)
 refine ⟨_,ag (aj (ah gS hr rfl mS kS bS .nil ar (a7 (cJ (NC:= ["term","share","many"]) (mp:= [none,none,some 1]) (g:=gTup K 2 (ko (cv 0) (ko (cv 1) gNil))) rfl (qv (pv 0))
  (fun _ _ _ _ _=>dk (n:=2) rfl (aY (aL (i:=0) (show (["term","share","many"]:List Str).Nodup by decide +kernel) rfl (Or.inl rfl) (Or.inr rfl)) (aY (aL (i:=1) (show (["term","share","many"]:List Str).Nodup by decide +kernel) rfl (Or.inl rfl) (Or.inr rfl)) cI))) (fun _ _ _ _ _=>d5)
  (fun _ _ _ _ _=>aE (a7 (pv 0) (a7 (ah gT hr2 rfl mT kT bT .nil ar (a7 (pv 1) (a7 (pv 2) a9))) a9)))) a9))),?_⟩
 have hL20:(20000:Nat)≤sizeLine:=by decide +kernel
 obtain ⟨a,xs,rfl,ha,hxs⟩:=at_t hv
 obtain ⟨ru,rfl,hru⟩:=cZ hu
 have xl:=hxs.len
 rw [List.length_map] at xl
 refine j5 ?_
 refine pc ?_
 refine rZ (xs:=xs) (rest:= [some (.ref ru)]) (a:=a) rfl (fun Q q=>⟨_,rfl,q⟩) (SqT.of ha) fun L nL=> ?_
 refine ⟨fun i acc H'=>Same H H'∧H' L=some (.lst acc)∧TrsAt H' acc (((as.take i).map (fX q)).map prT),⟨af nL,ac,by rw [List.take_zero];exact .nil⟩,fun i acc H' p=>SqT.of (p.1 _ _ ha),?_,?_⟩
 · rintro i z acc H' hi ⟨sH,hL,hA⟩ ez
   obtain ⟨t',et,ht'⟩:=(hxs.mono (Kd.of_same sH)).get' ez
   rw [List.getElem?_map] at et
   obtain ⟨⟨tm,fr⟩,eq,rfl⟩:=Option.map_eq_some_iff.mp et
   have g:=ga _ (List.mem_of_getElem? eq)
   obtain ⟨T,x,y,rfl,hT,hx,hy⟩:=cy ht'
   obtain ⟨rf,rfl,hrf⟩:=cZ hy
   have al:=hA.len
   rw [List.length_map,List.length_map,List.length_take] at al
   refine ⟨T,x, .ref rf,rfl,SqT.of hT,?_⟩
   refine ⟨_,rfl,_,rfl,_,rfl,rf,ru,fr.1,fr.2,q.1,q.2,rfl,SqT.of hrf,SqT.of (sH _ _ hru),⟨g.gf.pos,gq.pos,g.gf.top.big e8,g.gf.bot.big e8,gq.top.big m8,gq.bot.big m8⟩,fun rm H6 _ s6 hrm=> ?_⟩
   refine ⟨by show 2≤sizeLine;decide,fun p np=> ?_⟩
   have sp:=af (o:= .tup [x, .ref rm]) np
   have s7:=s6.trans sp
   have hL7:=s7 _ _ hL
   have kd:=(Kd.of_same s7).trans (Kd.upd (ys:=acc++ [.ref p]) hL7)
   have nLp:p≠L:=fun z=>by rw [z,s6 _ _ hL] at np;cases np
   have nLr:rm≠L:=fun z=>by rw [z,s6 _ _ hL] at hrm;cases hrm
   refine CompN.mk hi (by omega) hL7 ⟨cf nL (sH.trans s7),ac,?_⟩
   rw [d9 eq,List.map_append,List.map_append]
   refine TrsAt.app (.cons ?_ .nil) (hA.mono kd)
   exact cM (a:=tm) (b:=frT (eA fr q)) ((ak nLp).trans ac) (hx.mono kd) (c8 ((ak nLr).trans (sp _ _ hrm)))
 · rintro acc H' ⟨sH,hL,hA⟩
   rw [xl,List.take_length] at hA
   have hs:∀p∈as,Sh p.2:=fun p m=>(ga p m).sh
   refine ⟨L,acc,as.map (fX q),n,e+m,rfl,hL,hA,by rw [List.length_map];exact an,n64,h8,fun p mp=> ?_,fun x H6 us s6 hx hc hl _=> ?_⟩
   · obtain ⟨y,my,rfl⟩:=List.mem_map.mp mp
     have g:=ga y my
     exact ⟨g.ty,g.dep,g.gf.times gq,gR g.sh sq⟩
   · rw [List.length_map] at hl
     exact k x H6 us (sH.trans s6) hx hc hl (hc.scaled sq asc hs ga gq)
structure PIn (H:Hp) (l:Addr) (u:V) (ps:List Pq) (b:Fr) (n e:Nat):Prop where
 lst:∃ws,H l=some (.lst ws)∧TrsAt H ws (ps.map prT)
 bd:TrAt H u (frT b)
 len:ps.length≤n
 n64:n < 64
 h8:n*(n*(e+1)+2)≤8000
 gq:∀p∈ps,Gq e p
theorem PIn.same {H H':Hp} {l:Addr} {u:V} {ps:List Pq} {b:Fr} {n e:Nat} (h:PIn H l u ps b n e) (s:Same H H'):PIn H' l u ps b n e:=by
 obtain ⟨ws,h1,h2⟩:=h.lst
 exact ⟨⟨ws,s _ _ h1,h2.mono (Kd.of_same s)⟩,h.bd.mono (Kd.of_same s),h.len,h.n64,h.h8,h.gq⟩
theorem PIn.le {H:Hp} {l:Addr} {u:V} {ps:List Pq} {b:Fr} {n e:Nat} (h:PIn H l u ps b n e):n*(e+1)≤8000:=by
 have h8:=h.h8
 cases n with
 |zero=>omega
 |succ n=>
  have:1*((n+1)*(e+1)+2)≤(n+1)*((n+1)*(e+1)+2):=Nat.mul_le_mul_right _ (by omega)
  omega
def gK:Sp:=fun vs H Q _=>∃(l:Addr) (u:V) (ps:List Pq) (b:Fr) (n e:Nat),vs= [.ref l,u]∧PIn H l u ps b n e∧
 ∀(x:V) (H':Hp) (us:List Pq),Same H H'→TrAt H' x (mostT us b)→Can ps us→us.length≤ps.length→(∀p∈us,Gq (n*(e+1)) p)→Q x H'
def eO:Sp:=fun vs H Q _=>∃(l:Addr) (u:V) (ps:List Pq) (b:Fr) (n e:Nat),vs= [.ref l,u]∧PIn H l u ps b n e∧
 ∀(x:V) (H':Hp) (us:List Pq),Same H H'→TrAt H' x (mostT us (negF b))→Can (ps.map neg) us→us.length≤ps.length→(∀p∈us,Gq (n*(e+1)+1) p)→Q x H'
def jh:Sp:=fun vs H Q _=>∃(l:Addr) (u:V) (ps:List Pq) (b:Fr) (n e:Nat),vs= [.ref l,u]∧PIn H l u ps b n e∧
 ∀(x:V) (H':Hp) (us:List Pq),Same H H'→TrAt H' x (.tup [s_ "not",mostT us (negF b)])→Can (ps.map neg) us→us.length≤ps.length→(∀p∈us,Gq (n*(e+1)+1) p)→Q x H'
def ji:Sp:=fun vs H Q _=>∃(l:Addr) (u:V) (ps:List Pq) (b:Fr) (n e:Nat),vs= [.ref l,u]∧PIn H l u ps b n e∧
 ∀(x:V) (H':Hp) (us:List Pq),Same H H'→TrAt H' x (.tup [s_ "not",mostT us b])→Can ps us→us.length≤ps.length→(∀p∈us,Gq (n*(e+1)) p)→Q x H'
def jf:Sp:=fun vs H Q _=>∃(l:Addr) (u:V) (ps:List Pq) (b:Fr) (n e:Nat),vs= [.ref l,u]∧PIn H l u ps b n e∧
 ∀(x:V) (H':Hp) (us us':List Pq),Same H H'→TrAt H' x (.tup [s_ "both", .tup [mostT us b,mostT us' (negF b)]])→Can ps us→us.length≤ps.length→(∀p∈us,Gq (n*(e+1)) p)→Can (ps.map neg) us'→us'.length≤ps.length→(∀p∈us',Gq (n*(e+1)+1) p)→Q x H'
theorem scMo:aA ["pairs","bound"] ["pairs","bound"] (ae dH):=⟨rfl,rfl,rfl,by decide +kernel,rfl,by decide +kernel,by decide +kernel⟩
theorem scLe:aA ["pairs","bound"] ["pairs","bound"] (ae cU):=⟨rfl,rfl,rfl,by decide +kernel,rfl,by decide +kernel,by decide +kernel⟩
theorem scBe:aA ["pairs","bound"] ["pairs","bound"] (ae ft):=⟨rfl,rfl,rfl,by decide +kernel,rfl,by decide +kernel,by decide +kernel⟩
theorem scAb:aA ["pairs","bound"] ["pairs","bound"] (ae fu):=⟨rfl,rfl,rfl,by decide +kernel,rfl,by decide +kernel,by decide +kernel⟩
theorem scEq:aA ["pairs","bound"] ["pairs","bound"] (ae fo):=⟨rfl,rfl,rfl,by decide +kernel,rfl,by decide +kernel,by decide +kernel⟩
theorem tH {f fS:Addr} {fd dS:FuncData} (F:Fun K "at_most" "at_most" dH f fd)
 (gS:FnOk P w K mg base CX0 3 fS dS ["pairs"] jR) (kS:PySem.W.keepIn K (.ref fS)=true) (bS:Binds K dS ["pairs"] []) (mS:mg "sum_of"=some (.ref fS)):FnOk P w K mg base CX0 4 f fd ["pairs","bound"] gK:=by
 refine F.ok scMo (fun vs H Q E h=> ?_) (fun cdv A outer s H vs Q E hr h=> ?_)
 · obtain ⟨l,u,ps,b,n,e,rfl,_⟩:=h
   rfl
 obtain ⟨l,u,ps,b,n,e,rfl,hi,k⟩:=h
 refine ⟨_,ag (aj (aE (a7 ai (a7 (ah gS hr rfl mS kS bS .nil ar (a7 (pv 0) a9)) (a7 (pv 1) a9))))),?_⟩
 obtain ⟨ws,hl,hT⟩:=hi.lst
 refine ⟨_,rfl,l,ws,ps,n,e,rfl,hl,hT,hi.len,hi.n64,hi.le,hi.gq,fun x H1 us s1 hx hc hle hg=> ?_⟩
 refine ⟨_,rfl,by show 3≤sizeLine;decide,fun p np=> ?_⟩
 have sp:=af (o:= .tup [.str (Str.ofString "most"),x,u]) np
 have kd:=Kd.of_same (s1.trans sp)
 exact k (.ref p) _ us (s1.trans sp) (aQ ac (.cons aS (.cons (hx.mono (Kd.of_same sp)) (.cons (hi.bd.mono kd) .nil)))) hc hle hg
theorem ua {ps us vs:List Pq} (h1:Can ps us) (h2:Can (us.map (fX m1)) vs):Can (ps.map neg) vs:=h2.to fun t=>by
 rw [oe t uu fun p m=>(h1.sh p m).1,sG,h1.eq,wS]
 grind
theorem qQ {f fS fT fC:Addr} {fd dS dT dC:FuncData} (F:Fun K "at_least" "at_least" cU f fd)
 (gS:FnOk P w K mg base CX0 3 fS dS ["pairs"] jR) (kS:PySem.W.keepIn K (.ref fS)=true) (bS:Binds K dS ["pairs"] []) (mS:mg "sum_of"=some (.ref fS))
 (gT:FnOk P w K mg base CX0 4 fT dT ["one","many"] gJ) (kT:PySem.W.keepIn K (.ref fT)=true) (bT:Binds K dT ["one","many"] []) (mT:mg "sum_times"=some (.ref fT))
 (gC:FnOk P w K mg base CX0 1 fC dC ["one"] jg) (kC:PySem.W.keepIn K (.ref fC)=true) (bC:Binds K dC ["one"] []) (mC:mg "contrary"=some (.ref fC)):FnOk P w K mg base CX0 5 f fd ["pairs","bound"] eO:=by
 refine F.ok scLe (fun vs H Q E h=> ?_) (fun cdv A outer s H vs Q E hr h=> ?_)
 · obtain ⟨l,u,ps,b,n,e,rfl,_⟩:=h
   rfl
 obtain ⟨l,u,ps,b,n,e,rfl,hi,k⟩:=h
 have hr3:Room 3 _:=hr.mono (by omega)
 have hr1:Room 1 _:=hr.mono (by omega)
 refine ⟨_,ag (aj (aE (a7 ai (a7 (ah gT hr rfl mT kT bT .nil ar (a7 (ah gS hr3 rfl mS kS bS .nil ar (a7 (pv 0) a9)) (a7 (aE (a7 (ck bw ad) (a7 ad a9))) a9)))
  (a7 (ah gC hr1 rfl mC kC bC .nil ar (a7 (pv 1) a9)) a9))))),?_⟩
 obtain ⟨ws,hl,hT⟩:=hi.lst
 refine ⟨_,rfl,l,ws,ps,n,e,rfl,hl,hT,hi.len,hi.n64,hi.le,hi.gq,fun x H1 us s1 hx hc hle hg=> ?_⟩
 refine ⟨_,rfl,by show 2≤sizeLine;decide,fun p np=> ?_⟩
 have sp:=af (o:= .tup [.int (-1), .int 1]) np
 have hlen:=hi.len
 refine ⟨x, .ref p,us,m1,n,n*(e+1),1,rfl,hx.mono (Kd.of_same sp),c8 ac,uu,gf_1 (.inl rfl),by omega,hi.n64,hi.h8,hi.le,by decide,hc.asc,hg,fun y H2 vs s2 hy hc2 hl2 hg2=> ?_⟩
 have s3:=s1.trans (sp.trans s2)
 refine ⟨_,rfl,u,b,rfl,hi.bd.mono (Kd.of_same s3),fun z H3 s4 hz=> ?_⟩
 refine ⟨by show 3≤sizeLine;decide,fun r nr=> ?_⟩
 have s5:=af (o:= .tup [.str (Str.ofString "most"),y,z]) nr
 exact k (.ref r) _ vs (s3.trans (s4.trans s5)) (aQ ac (.cons aS (.cons (hy.mono (Kd.of_same (s4.trans s5))) (.cons (hz.mono (Kd.of_same s5)) .nil)))) (ua hc hc2) (by omega) hg2
theorem qW {f fS:Addr} {fd dS:FuncData} (F:Fun K "below" "below" ft f fd)
 (gS:FnOk P w K mg base CX0 5 fS dS ["pairs","bound"] eO) (kS:PySem.W.keepIn K (.ref fS)=true) (bS:Binds K dS ["pairs","bound"] []) (mS:mg "at_least"=some (.ref fS)):FnOk P w K mg base CX0 6 f fd ["pairs","bound"] jh:=by
 refine F.ok scBe (fun vs H Q E h=> ?_) (fun cdv A outer s H vs Q E hr h=> ?_)
 · obtain ⟨l,u,ps,b,n,e,rfl,_⟩:=h
   rfl
 obtain ⟨l,u,ps,b,n,e,rfl,hi,k⟩:=h
 refine ⟨_,ag (aj (aE (a7 ai (a7 (ah gS hr rfl mS kS bS .nil ar (a7 (pv 0) (a7 (pv 1) a9))) a9)))),?_⟩
 refine ⟨_,rfl,_,rfl,l,u,ps,b,n,e,rfl,hi,fun x H1 us s1 hx hc hle hg=> ?_⟩
 refine ⟨by show 2≤sizeLine;decide,fun p np=> ?_⟩
 have sp:=af (o:= .tup [.str (Str.ofString "not"),x]) np
 exact k (.ref p) _ us (s1.trans sp) (aQ ac (.cons aS (.cons (hx.mono (Kd.of_same sp)) .nil))) hc hle hg
theorem qX {f fS:Addr} {fd dS:FuncData} (F:Fun K "above" "above" fu f fd)
 (gS:FnOk P w K mg base CX0 4 fS dS ["pairs","bound"] gK) (kS:PySem.W.keepIn K (.ref fS)=true) (bS:Binds K dS ["pairs","bound"] []) (mS:mg "at_most"=some (.ref fS)):FnOk P w K mg base CX0 5 f fd ["pairs","bound"] ji:=by
 refine F.ok scAb (fun vs H Q E h=> ?_) (fun cdv A outer s H vs Q E hr h=> ?_)
 · obtain ⟨l,u,ps,b,n,e,rfl,_⟩:=h
   rfl
 obtain ⟨l,u,ps,b,n,e,rfl,hi,k⟩:=h
 refine ⟨_,ag (aj (aE (a7 ai (a7 (ah gS hr rfl mS kS bS .nil ar (a7 (pv 0) (a7 (pv 1) a9))) a9)))),?_⟩
 refine ⟨_,rfl,_,rfl,l,u,ps,b,n,e,rfl,hi,fun x H1 us s1 hx hc hle hg=> ?_⟩
 refine ⟨by show 2≤sizeLine;decide,fun p np=> ?_⟩
 have sp:=af (o:= .tup [.str (Str.ofString "not"),x]) np
 exact k (.ref p) _ us (s1.trans sp) (aQ ac (.cons aS (.cons (hx.mono (Kd.of_same sp)) .nil))) hc hle hg
theorem qR {f fS fT:Addr} {fd dS dT:FuncData} (F:Fun K "equal" "equal" fo f fd)
 (gS:FnOk P w K mg base CX0 4 fS dS ["pairs","bound"] gK) (kS:PySem.W.keepIn K (.ref fS)=true) (bS:Binds K dS ["pairs","bound"] []) (mS:mg "at_most"=some (.ref fS))
 (gT:FnOk P w K mg base CX0 5 fT dT ["pairs","bound"] eO) (kT:PySem.W.keepIn K (.ref fT)=true) (bT:Binds K dT ["pairs","bound"] []) (mT:mg "at_least"=some (.ref fT)):FnOk P w K mg base CX0 6 f fd ["pairs","bound"] jf:=by
 refine F.ok scEq (fun vs H Q E h=> ?_) (fun cdv A outer s H vs Q E hr h=> ?_)
 · obtain ⟨l,u,ps,b,n,e,rfl,_⟩:=h
   rfl
 obtain ⟨l,u,ps,b,n,e,rfl,hi,k⟩:=h
 have hr4:Room 4 _:=hr.mono (by omega)
 refine ⟨_,ag (aj (aE (a7 ai (a7 (aE (a7 (ah gS hr4 rfl mS kS bS .nil ar (a7 (pv 0) (a7 (pv 1) a9))) (a7 (ah gT hr rfl mT kT bT .nil ar (a7 (pv 0) (a7 (pv 1) a9))) a9))) a9)))),?_⟩
 refine ⟨_,rfl,_,rfl,l,u,ps,b,n,e,rfl,hi,fun x H1 us s1 hx hc hle hg=> ?_⟩
 refine ⟨_,rfl,_,rfl,l,u,ps,b,n,e,rfl,hi.same s1,fun y H2 vs s2 hy hc2 hle2 hg2=> ?_⟩
 refine ⟨by show 2≤sizeLine;decide,fun p np=> ?_⟩
 refine ⟨by show 2≤sizeLine;decide,fun r nr=> ?_⟩
 have sp:=af (o:= .tup [x,y]) np
 have sr:=af (o:= .tup [.str (Str.ofString "both"), .ref p]) nr
 refine k (.ref r) _ us vs (s1.trans (s2.trans (sp.trans sr))) (aQ ac (.cons aS (.cons (aQ (sr _ _ ac) (.cons (hx.mono (Kd.of_same (s2.trans (sp.trans sr)))) (.cons (hy.mono (Kd.of_same (sp.trans sr))) .nil))) .nil))) hc hle hg hc2 hle2 hg2
end
open PySem L2 Mth Dec Tre Wd Su Tw Rd
theorem iK:∀(ps:List Pq) (b:Fr) (i:Nat) (p:Pq),ps[i]?=some p→(iL ps++ [frT b])[2*i]?=some (frT p.2)∧(iL ps++ [frT b])[2*i+1]?=some p.1
 | [],_,i,p,e=>by simp at e
 |q::ps,b,0,p,e=>by
  cases e
  exact ⟨rfl,rfl⟩
 |q::ps,b,i+1,p,e=>by
  have ih:=iK ps b i p (by rw [List.getElem?_cons_succ] at e;exact e)
  exact ih
theorem fQ (ps:List Pq):(iL ps).length=2*ps.length:=by
 induction ps with
 |nil=>rfl
 |cons p ps ih=>
  show ([frT p.2,p.1]++iL ps).length=2*(ps.length+1)
  rw [List.length_append,ih]
  show 2+_=_
  omega
theorem eG {H:Hp} {ws:List V} {ts:List Tr} (h:TrsAt H ws ts) {i:Nat} {t:Tr} (e:ts[i]?=some t):∃v,ws[i]?=some v∧TrAt H v t:=by
 have hl:=h.len
 have hi:i < ts.length:=(List.getElem?_eq_some_iff.mp e).1
 have hw:ws[i]?=some (ws[i]'(by omega)):=List.getElem?_eq_getElem _
 obtain ⟨t',e',ht⟩:=h.get' hw
 rw [e] at e'
 cases e'
 exact ⟨_,hw,ht⟩
theorem oW {te:TE} {i:Nat} {u:TS} {Z:Ends} {σ:L2.St} {H:Hp} (h:te σ H fun v H1=>u Z (σ.set i (some v)) H1):tSeq (tAsg te (cv i)) u Z σ H:=h
section
variable {P:Program} {w:World} {K:PySem.W.Frag} {mg:Str→Option Value} {base:Heap}
def pK:Sp:=fun vs H Q _=>∃(f:Str) (l:Addr) (u:V) (ps:List Pq) (b:Fr) (t:Tr),vs= [.str f, .ref l,u]∧PIn H l u ps b 4 200∧Mn f ps b t∧∀(x:V) (H':Hp),Same H H'→TrAt H' x t→Q x H'
theorem wP:aA ["first","pairs","bound"] ["first","pairs","bound"] (ae sSuW):=⟨rfl,rfl,rfl,by decide +kernel,rfl,by decide +kernel,by decide +kernel⟩
theorem vo {f fM fL fB fA fE:Addr} {fd dM dL dB dA dE:FuncData} (F:Fun K "sum_wish" "sum_wish" sSuW f fd)
 (gM:FnOk P w K mg base CX0 4 fM dM ["pairs","bound"] gK) (kM:PySem.W.keepIn K (.ref fM)=true) (bM:Binds K dM ["pairs","bound"] []) (mM:mg "at_most"=some (.ref fM))
 (gL:FnOk P w K mg base CX0 5 fL dL ["pairs","bound"] eO) (kL:PySem.W.keepIn K (.ref fL)=true) (bL:Binds K dL ["pairs","bound"] []) (mL:mg "at_least"=some (.ref fL))
 (gB:FnOk P w K mg base CX0 6 fB dB ["pairs","bound"] jh) (kB:PySem.W.keepIn K (.ref fB)=true) (bB:Binds K dB ["pairs","bound"] []) (mB:mg "below"=some (.ref fB))
 (gA:FnOk P w K mg base CX0 5 fA dA ["pairs","bound"] ji) (kA:PySem.W.keepIn K (.ref fA)=true) (bA:Binds K dA ["pairs","bound"] []) (mA:mg "above"=some (.ref fA))
 (gE:FnOk P w K mg base CX0 6 fE dE ["pairs","bound"] jf) (kE:PySem.W.keepIn K (.ref fE)=true) (bE:Binds K dE ["pairs","bound"] []) (mE:mg "equal"=some (.ref fE)):FnOk P w K mg base CX0 7 f fd ["first","pairs","bound"] pK:=by
 refine F.ok wP (fun vs H Q E h=> ?_) (fun cdv A outer s H vs Q E hr h=> ?_)
 · obtain ⟨f,l,u,ps,b,t,rfl,_⟩:=h
   rfl
 obtain ⟨f,l,u,ps,b,t,rfl,hi,hm,k⟩:=h
 have hr4:Room 4 _:=hr.mono (by decide)
 have hr5:Room 5 _:=hr.mono (by decide)
 refine ⟨_,aa (aK (am aP (pv 0) ai (au _)) (ag (aj (ah gM hr4 rfl mM kM bM .nil ar (a7 (pv 1) (a7 (pv 2) a9))))) av)
  (aa (aK (am aP (pv 0) ai (au _)) (ag (aj (ah gL hr5 rfl mL kL bL .nil ar (a7 (pv 1) (a7 (pv 2) a9))))) av)
  (aa (aK (am aP (pv 0) ai (au _)) (ag (aj (ah gB hr rfl mB kB bB .nil ar (a7 (pv 1) (a7 (pv 2) a9))))) av)
  (aa (aK (am aP (pv 0) ai (au _)) (ag (aj (ah gA hr5 rfl mA kA bA .nil ar (a7 (pv 1) (a7 (pv 2) a9))))) av)
  (ag (aj (ah gE hr rfl mE kE bE .nil ar (a7 (pv 1) (a7 (pv 2) a9)))))))),?_⟩
 rcases hm with ⟨rfl,us,hc,rfl⟩|⟨rfl,us,hc,rfl⟩|⟨rfl,us,hc,rfl⟩|⟨rfl,us,hc,rfl⟩|⟨rfl,us,us2,hc,hc2,rfl⟩
 · refine ⟨_,rfl,rfl,_,rfl,if_t (decide_eq_true rfl) ?_⟩
   refine ⟨_,rfl,_,rfl,l,u,ps,b,4,200,rfl,hi,fun x H1 us' s1 hx hc' _ _=> ?_⟩
   rw [hc'.uniq hc] at hx
   exact k x H1 s1 hx
 · refine ⟨_,rfl,rfl,_,rfl,if_f (by decide +kernel) ?_⟩
   refine ⟨_,rfl,rfl,_,rfl,if_t (decide_eq_true rfl) ?_⟩
   refine ⟨_,rfl,_,rfl,l,u,ps,b,4,200,rfl,hi,fun x H1 us' s1 hx hc' _ _=> ?_⟩
   rw [hc'.uniq hc] at hx
   exact k x H1 s1 hx
 · refine ⟨_,rfl,rfl,_,rfl,if_f (by decide +kernel) ?_⟩
   refine ⟨_,rfl,rfl,_,rfl,if_f (by decide +kernel) ?_⟩
   refine ⟨_,rfl,rfl,_,rfl,if_t (decide_eq_true rfl) ?_⟩
   refine ⟨_,rfl,_,rfl,l,u,ps,b,4,200,rfl,hi,fun x H1 us' s1 hx hc' _ _=> ?_⟩
   rw [hc'.uniq hc] at hx
   exact k x H1 s1 hx
 · refine ⟨_,rfl,rfl,_,rfl,if_f (by decide +kernel) ?_⟩
   refine ⟨_,rfl,rfl,_,rfl,if_f (by decide +kernel) ?_⟩
   refine ⟨_,rfl,rfl,_,rfl,if_f (by decide +kernel) ?_⟩
   refine ⟨_,rfl,rfl,_,rfl,if_t (decide_eq_true rfl) ?_⟩
   refine ⟨_,rfl,_,rfl,l,u,ps,b,4,200,rfl,hi,fun x H1 us' s1 hx hc' _ _=> ?_⟩
   rw [hc'.uniq hc] at hx
   exact k x H1 s1 hx
 · refine ⟨_,rfl,rfl,_,rfl,if_f (by decide +kernel) ?_⟩
   refine ⟨_,rfl,rfl,_,rfl,if_f (by decide +kernel) ?_⟩
   refine ⟨_,rfl,rfl,_,rfl,if_f (by decide +kernel) ?_⟩
   refine ⟨_,rfl,rfl,_,rfl,if_f (by decide +kernel) ?_⟩
   refine ⟨_,rfl,_,rfl,l,u,ps,b,4,200,rfl,hi,fun x H1 us' us2' s1 hx hc' _ _ hc2' _ _=> ?_⟩
   rw [hc'.uniq hc,hc2'.uniq hc2] at hx
   exact k x H1 s1 hx
def pI (C:Addr):Sp:=fun vs H Q _=>∃(a l dx:Addr) (k f:Str) (ws:List V) (ts:List Tr) (t:Tr),vs= [.ref a]∧H a=some (.ins C dx (bfs k f l))∧H l=some (.lst ws)∧TrsAt H ws ts∧Told k f ts t∧∀v H',Same H H'→TrAt H' v t→Q v H'
theorem scTby:aA ["bracket","things","pairs"] ["bracket"] (ae sTby):=⟨rfl,rfl,rfl,by decide +kernel,rfl,by decide +kernel,by decide +kernel⟩
theorem vn {f fS C:Addr} {fd dS:FuncData} (F:Fun K "told_by" "told_by" sTby f fd) (B:Blt mg) (hC:Bk K C)
 (gS:FnOk P w K mg base CX0 7 fS dS ["first","pairs","bound"] pK) (kS:PySem.W.keepIn K (.ref fS)=true) (bS:Binds K dS ["first","pairs","bound"] []) (mS:mg "sum_wish"=some (.ref fS)):FnOk P w K mg base CX0 8 f fd ["bracket"] (pI C):=by
 refine F.ok scTby (fun vs H Q E h=> ?_) (fun cdv A outer s H vs Q E hr h=> ?_)
 · obtain ⟨a,l,dx,k,f,ws,ts,t,rfl,_⟩:=h
   rfl
 obtain ⟨a,l,dx,kd,f,ws,ts,t,rfl,ha,hl,hT,ht,k⟩:=h
 have nd2:(["at","things"]:List Str).Nodup:=by decide +kernel
 refine ⟨_,aa (aq (i:=1) scTby.nd rfl (Or.inr rfl) (b9 (pv 0) rfl))
  (aa (aK (am aP (b9 (pv 0) rfl) ai (au _)) (ag (aj (aE (a7 ai (a7 (b9 (pv 0) rfl) (a7 (aU ba rfl B.tu PyProof.Rows.boot_tuple (a7 (pv 1) a9)) a9)))))) av)
  (aa (aK (am aP (b9 (pv 0) rfl) ai (au _)) (ag (aj (aE (a7 ai (a7 (aB aG (pv 1) ad fun _ _=>rfl) a9))))) av)
  (aa (aK (am aP (b9 (pv 0) rfl) ai (au _)) (ag (aj (aE (a7 ai (a7 (aB aG (pv 1) ad fun _ _=>rfl) (a7 (aB aG (pv 1) ad fun _ _=>rfl) a9)))))) av)
  (aa (aK (am aP (b9 (pv 0) rfl) ai (au _)) (ag (aj (aE (a7 ai (a7 (aU ba rfl B.tu PyProof.Rows.boot_tuple (a7 (pv 1) a9)) a9))))) av)
  (aa (aK (am aP (b9 (pv 0) rfl) ai (au _)) (ag (aj (aE (a7 ai (a7 (aU ba rfl B.tu PyProof.Rows.boot_tuple (a7 (pv 1) a9)) a9))))) av)
  (aa (sV rfl scTby.nd (i:=2) rfl rfl rfl (NC:= ["at","things"]) (mp:= [none,some 1]) (iG rfl B.ra (a7 ad (a7 (ao dn (aD aX rfl B.le PySem.boot_len (a7 (pv 1) a9)) ad) (a7 ad a9)))) (fun _ _ _ _ _=>aL (i:=0) nd2 rfl (Or.inl rfl)) (fun _ _ _ _ _=>d5)
   (fun _ _ _ _ _=>aE (a7 (aB (r:=rIxL K) aG (pv 1) (ao bq (pv 0) ad) fun _ _=>rfl) (a7 (aB (r:=rIxL K) aG (pv 1) (pv 0) fun _ _=>rfl) a9))))
  (ag (aj (ah gS hr rfl mS kS bS .nil ar (a7 (b9 (pv 0) rfl) (a7 (pv 2) (a7 (aB aG (pv 1) (ck bw ad) fun _ _=>rfl) a9)))))))))))),?_⟩
 have hL:(20000:Nat)≤sizeLine:=by decide +kernel
 have wl:=hT.len
 refine ⟨_,rfl,a,C,dx,_,_,rfl,ha,hC.cls,hC.nt,lk_t,?_⟩
 cases ht with
 |ca=>
  refine bU ha hC rfl ?_
  refine ⟨_,rfl,a,C,dx,_,_,rfl,ha,hC.cls,hC.nf,lk_f,_,rfl,l,ws,rfl, .inl ⟨SqL.of hl,fun q nq=> ?_⟩⟩
  have s1:=af (o:= .tup ws) nq
  refine ⟨by show 3≤sizeLine;decide,fun p np=> ?_⟩
  have s2:=af (o:= .tup [.str (Str.ofString "call"), .str f, .ref q]) np
  exact k (.ref p) _ (s1.trans s2) (aQ ac (.cons aS (.cons aS (.cons (aQ (s2 _ _ ac) (hT.mono (Kd.of_same (s1.trans s2)))) .nil))))
 |no t=>
  refine aW ha hC (by decide +kernel) ?_
  refine bU ha hC rfl ?_
  obtain ⟨v,ev,hv⟩:=eG hT (i:=0) rfl
  refine ⟨_,rfl,l,ws,0,v,rfl,rfl,SqL.of hl,bX (j:=0) ev,by show 2≤sizeLine;decide,fun p np=> ?_⟩
  have s2:=af (o:= .tup [.str (Str.ofString "not"),v]) np
  exact k (.ref p) _ s2 (aQ ac (.cons aS (.cons (hv.mono (Kd.of_same s2)) .nil)))
 |li t u=>
  refine aW ha hC (by decide +kernel) ?_
  refine aW ha hC (by decide +kernel) ?_
  refine bU ha hC rfl ?_
  obtain ⟨v,ev,hv⟩:=eG hT (i:=0) rfl
  obtain ⟨v2,ev2,hv2⟩:=eG hT (i:=1) rfl
  refine ⟨_,rfl,l,ws,0,v,rfl,rfl,SqL.of hl,bX (j:=0) ev,_,rfl,l,ws,1,v2,rfl,rfl,SqL.of hl,bX (j:=1) ev2,by show 3≤sizeLine;decide,fun p np=> ?_⟩
  have s2:=af (o:= .tup [.str (Str.ofString "like"),v,v2]) np
  exact k (.ref p) _ s2 (aQ ac (.cons aS (.cons (hv.mono (Kd.of_same s2)) (.cons (hv2.mono (Kd.of_same s2)) .nil))))
 |al=>
  refine aW ha hC (by decide +kernel) ?_
  refine aW ha hC (by decide +kernel) ?_
  refine aW ha hC (by decide +kernel) ?_
  refine bU ha hC rfl ?_
  refine ⟨_,rfl,l,ws,rfl, .inl ⟨SqL.of hl,fun q nq=> ?_⟩⟩
  have s1:=af (o:= .tup ws) nq
  refine ⟨by show 2≤sizeLine;decide,fun p np=> ?_⟩
  have s2:=af (o:= .tup [.str (Str.ofString "both"), .ref q]) np
  exact k (.ref p) _ (s1.trans s2) (aQ ac (.cons aS (.cons (aQ (s2 _ _ ac) (hT.mono (Kd.of_same (s1.trans s2)))) .nil)))
 |an=>
  refine aW ha hC (by decide +kernel) ?_
  refine aW ha hC (by decide +kernel) ?_
  refine aW ha hC (by decide +kernel) ?_
  refine aW ha hC (by decide +kernel) ?_
  refine bU ha hC rfl ?_
  refine ⟨_,rfl,l,ws,rfl, .inl ⟨SqL.of hl,fun q nq=> ?_⟩⟩
  have s1:=af (o:= .tup ws) nq
  refine ⟨by show 2≤sizeLine;decide,fun p np=> ?_⟩
  have s2:=af (o:= .tup [.str (Str.ofString "either"), .ref q]) np
  exact k (.ref p) _ (s1.trans s2) (aQ ac (.cons aS (.cons (aQ (s2 _ _ ac) (hT.mono (Kd.of_same (s1.trans s2)))) .nil)))
 |su _ ps b _ p4 pg pm=>
  refine aW ha hC (by decide +kernel) ?_
  refine aW ha hC (by decide +kernel) ?_
  refine aW ha hC (by decide +kernel) ?_
  refine aW ha hC (by decide +kernel) ?_
  refine aW ha hC (by decide +kernel) ?_
  rw [List.length_append,fQ,List.length_singleton] at wl
  refine lh ?_
  dsimp only
  refine oW ?_
  refine cT rfl ?_
  have hs:Builtin.Range.rangeSize 0 (((ws.length:Nat):Int) - 1) 2=((ps.length:Nat):Int):=by
   unfold Builtin.Range.rangeSize
   rw [if_pos (by decide)]
   split<;>omega
  refine ⟨_,rfl,l,ws,rfl, .inl (SqL.of hl),_,_,rfl,rfl,_,_,2,ps.length,rfl,by decide,?_,?_,hs,fun D nD=> ?_⟩
  · unfold Builtin.Range.small
    rw [hs]
    have fit:∀x:Int,-1000≤x→x≤1000→Builtin.Range.rangeFitsLong x=true:=fun x h1 h2=>by
     unfold Builtin.Range.rangeFitsLong
     rw [decide_eq_true (by omega),decide_eq_true (by omega)]
     rfl
    rw [fit 0 (by omega) (by omega),fit (((ws.length:Nat):Int) - 1) (by omega) (by omega),fit 2 (by decide) (by decide),fit ((ps.length:Nat):Int) (by omega) (by omega)]
    rw [if_pos (by decide),fit (((ws.length:Nat):Int) - 1+(2 - 1)) (by omega) (by omega),Bool.or_true]
    rfl
  · exact jH (by show (2:Int).natAbs < 2^8000;decide +kernel)
  have nDl:l≠D:=fun z=>by rw [z,nD] at hl;cases hl
  refine kJ (lo:=0) (c:=2) (n:=ps.length) (fun i acc H'=>Same H H'∧H' D=some (.lst acc)∧TrsAt H' acc ((ps.take i).map prT)) ⟨af nD,ac, .nil⟩ ?_ ?_
  · rintro i acc H' hi ⟨sH,hD,hA⟩
    obtain ⟨g1,g2⟩:=iK ps b i ps[i] (List.getElem?_eq_getElem hi)
    obtain ⟨v1,e1,q1⟩:=eG (hT.mono (Kd.of_same sH)) g1
    obtain ⟨v2,e2,q2⟩:=eG (hT.mono (Kd.of_same sH)) g2
    have al:=hA.len
    rw [List.length_map,List.length_take] at al
    have ei:(0:Int)+(i:Nat)*2=((2*i:Nat):Int):=by omega
    have ej:(0:Int)+(i:Nat)*2+1=((2*i+1:Nat):Int):=by omega
    refine ⟨_,rfl,_,rfl,_,_,rfl,rfl,l,ws,_,v2,rfl,rfl,SqL.of (sH _ _ hl),by rw [ej];exact bX e2,_,rfl,_,rfl,l,ws,_,v1,rfl,rfl,SqL.of (sH _ _ hl),by rw [ei];exact bX e1,by show 2≤sizeLine;decide,fun p np=> ?_⟩
    have sp:=af (o:= .tup [v2,v1]) np
    have hD2:=sp _ _ hD
    have nDp:p≠D:=fun z=>by rw [z,hD] at np;cases np
    have kd:=(Kd.of_same sp).trans (Kd.upd (ys:=acc++ [.ref p]) hD2)
    refine CompN.mk hi (by omega) hD2 ⟨cf nD (sH.trans sp),ac,?_⟩
    rw [List.take_add_one,List.getElem?_eq_getElem hi,List.map_append]
    exact TrsAt.app (.cons (cM ((ak nDp).trans ac) (q2.mono kd) (q1.mono kd)) .nil) (hA.mono kd)
  · rintro acc H1 ⟨sH,hD,hA⟩
    rw [List.take_length] at hA
    obtain ⟨vb,eb,hb⟩:=eG (hT.mono (Kd.of_same sH)) (i:=2*ps.length) (t:=frT b) (by rw [List.getElem?_append_right (by rw [fQ];omega),fQ];simp)
    have ha1:=sH _ _ ha
    refine ⟨_,rfl,a,C,dx,_,_,rfl,ha1,hC.cls,hC.nf,lk_f,_,rfl,_,rfl,_,rfl,l,ws,-1,vb,rfl,rfl,SqL.of (sH _ _ hl),Su.last_at (by omega) (by rw [show ws.length - 1=2*ps.length by omega];exact eb),?_⟩
    exact ⟨f,D,vb,ps,b,t,rfl,⟨⟨acc,hD,hA⟩,hb,p4,by decide,by decide,pg⟩,pm,fun x H2 s2 hx=>k x H2 (sH.trans s2) hx⟩
def pV (C:Addr):Sp:=fun vs H Q _=>∃(H0:Hp) (b:Addr) (x p:Br) (r:List Br) (t:Tr),vs= [.ref b]∧StAt C H0 H b (x::p::r)∧mayE x.kind x.things.length=true∧Told x.kind x.first x.things t∧p.things.length < 100∧∀H',StAt C H0 H' b (push t p::r)→Q (.bl true) H'
theorem scClo:aA ["brackets","last"] ["brackets"] (ae sClo):=⟨rfl,rfl,rfl,by decide +kernel,rfl,by decide +kernel,by decide +kernel⟩
theorem vA {f fM fT C:Addr} {fd dM dT:FuncData} (F:Fun K "closes" "closes" sClo f fd) (hC:Bk K C)
 (gM:FnOk P w K mg base CX0 1 fM dM ["bracket"] (pR C)) (kM:PySem.W.keepIn K (.ref fM)=true) (bM:Binds K dM ["bracket"] []) (mM:mg "may_end"=some (.ref fM))
 (gT:FnOk P w K mg base CX0 8 fT dT ["bracket"] (pI C)) (kT:PySem.W.keepIn K (.ref fT)=true) (bT:Binds K dT ["bracket"] []) (mT:mg "told_by"=some (.ref fT)):FnOk P w K mg base CX0 9 f fd ["brackets"] (pV C):=by
 refine F.ok scClo (fun vs H Q E h=> ?_) (fun cdv A outer s H vs Q E hr h=> ?_)
 · obtain ⟨H0,b,x,p,r,t,rfl,_⟩:=h
   rfl
 obtain ⟨H0,b,x,p,r,t,rfl,hS,hm,ht,p100,k⟩:=h
 have hr1:Room 1 _:=hr.mono (by decide)
 refine ⟨_,aa (aq (i:=1) scClo.nd rfl (Or.inl rfl) (aB aG (pv 0) (ck bw ad) fun _ _=>rfl))
  (aa (aK (cC (bH (ah gM hr1 rfl mM kM bM .nil ar (a7 (pv 1) a9)))) (ag (aj cE)) av)
  (aa (cg (fH PySem.F.plainAttrs_list PySem.F.slot_list_pop PySem.F.type_list_pop vF (pv 0)))
  (aa (cg (bZ PySem.F.plainAttrs_list PySem.F.slot_list_append PySem.F.type_list_append bf (b9 (aB aG (pv 0) (ck bw ad) fun _ _=>rfl) rfl) (a7 (ah gT hr rfl mT kT bT .nil ar (a7 (pv 1) a9)) a9)))
  (ag (aj cE))))),?_⟩
 have hL:(20000:Nat)≤sizeLine:=by decide +kernel
 obtain ⟨a,l,dx,ws,xs,h1,h2,h3,h4,n1,n2,hS'⟩:=hS.off
 have wl:=h4.len
 refine ⟨_,rfl,_,rfl,b,_,-1, .ref a,rfl,rfl,SqL.of h1,cB _ _,?_⟩
 refine ⟨_,rfl,a,l,dx,_,_,ws,rfl,h2,h3,_,rfl,?_⟩
 rw [wl,hm]
 refine iteF ?_
 refine ⟨_,rfl, .inl ⟨rfl,_,SqL.of h1⟩,b,_, .ref a,rfl,rfl,h1,by simp,?_⟩
 rw [List.dropLast_concat]
 have h2':(upd H b (.lst xs)) a=some (.ins C dx (bfs x.kind x.first l)):=(ak n1).trans h2
 have h3':(upd H b (.lst xs)) l=some (.lst ws):=(ak n2).trans h3
 have h4':=h4.mono (Kd.upd (ys:=xs) h1)
 dsimp only
 generalize upd H b (.lst xs)=H1 at hS' h2' h3' h4'
 obtain ⟨a2,l2,dx2,ws2,xs2,q1,q2,q3,q4,q5,q6,q7,go⟩:=hS'.top
 have wl2:=q5.len
 refine ⟨_,rfl,_,rfl,b,_,-1, .ref a2,rfl,rfl,SqL.of q1,cB _ _,a2,C,dx2,_,_,rfl,q3,hC.cls,hC.nt,lk_t, .inl ⟨rfl,_,SqL.of q4⟩,_,rfl,a,l,dx,_,_,ws,_,t,rfl,h2',h3',h4',ht,fun v H2 s2 hv=> ?_⟩
 refine ⟨l2,ws2,v,rfl,rfl,s2 _ _ q4,by omega,?_⟩
 exact k _ (go H2 v t s2 hv)
end
open PySem L2 Mth Dec Tre Wd Su Tw Rd
theorem ki:∀(ws:List (List Nat)),ws.length≤(glue ws).length+1
 | []=>Nat.zero_le _
 | [w]=>by show 1≤_;omega
 |w::v::r=>by
  have:=ki (v::r)
  show (v::r).length+1≤(w++32::glue (v::r)).length+1
  rw [List.length_append,List.length_cons (a:=32)]
  omega
theorem o6 {z:Str} {w:Wo} (hz:cl z=w.sg) (hp:Rd.Pl w.c):cl (Txt.removeprefix z lp)=cl w.c++List.replicate w.k 41∧Txt.startswith z lp=w.o:=by
 obtain ⟨o,c,k⟩:=w
 cases o with
 |false=>
  have e:cl z=cl c++List.replicate k 41:=by simpa [Wo.sg] using hz
  have n:(cl z)[0]?≠some 40:=by
   rw [e]
   cases q:cl c with
   |nil=>
    cases k with
    |zero=>simp
    |succ k=>simp [List.replicate_succ]
   |cons d r=>
    have:=(hp.1 d (by rw [q];exact List.mem_cons_self)).2.1
    simp [this]
  exact ⟨by rw [qh n];exact e,by rw [du];exact decide_eq_false n⟩
 |true=>
  have e:cl z=40::(cl c++List.replicate k 41):=by simpa [Wo.sg] using hz
  exact ⟨wV e,by rw [du,e];rfl⟩
theorem o5 {z:Str} {w:Wo} (hp:Rd.Pl w.c) (h:cl z=cl w.c++List.replicate w.k 41):Txt.rstripChars z rp=w.c:=sk (wT h fun m=>(hp.1 _ m).2.2 rfl)
section
variable {P:Program} {w:World} {K:PySem.W.Frag} {mg:Str→Option Value} {base:Heap}
def pG (C:Addr):Sp:=fun vs H Q _=>∃(H0:Hp) (b:Addr) (z:Str) (wo:Wo) (st st':List Br),vs= [.ref b, .str z]∧StAt C H0 H b st∧StW wo st st'∧cl z=wo.sg∧Rd.Pl wo.c∧z.length≤10000000∧∀H',StAt C H0 H' b st'→Q (.bl true) H'
theorem scTkW:aA ["brackets","word","bare","core","fits","turn"] ["brackets","word"] (ae sTkW):=⟨rfl,rfl,rfl,by decide +kernel,rfl,by decide +kernel,by decide +kernel⟩
theorem vj {f fB fP fC C:Addr} {fd dB dP dC:FuncData} (F:Fun K "takes_word" "takes_word" sTkW f fd) (B:Blt mg)
 (gB:FnOk P w K mg base CX0 3 fB dB ["brackets","first"] (pW C)) (kB:PySem.W.keepIn K (.ref fB)=true) (bB:Binds K dB ["brackets","first"] []) (mB:mg "begins"=some (.ref fB))
 (gP:FnOk P w K mg base CX0 6 fP dP ["brackets","core"] (pP C)) (kP:PySem.W.keepIn K (.ref fP)=true) (bP:Binds K dP ["brackets","core"] []) (mP:mg "is_put"=some (.ref fP))
 (gC:FnOk P w K mg base CX0 9 fC dC ["brackets"] (pV C)) (kC:PySem.W.keepIn K (.ref fC)=true) (bC:Binds K dC ["brackets"] []) (mC:mg "closes"=some (.ref fC)):FnOk P w K mg base CX0 10 f fd ["brackets","word"] (pG C):=by
 refine F.ok scTkW (fun vs H Q E h=> ?_) (fun cdv A outer s H vs Q E hr h=> ?_)
 · obtain ⟨H0,b,z,wo,st,st',rfl,_⟩:=h
   rfl
 obtain ⟨H0,b,z,wo,st,st',rfl,hS,hw,hz,hp,zl,k⟩:=h
 have hr3:Room 3 _:=hr.mono (by decide)
 have hr6:Room 6 _:=hr.mono (by decide)
 refine ⟨_,aa (aq (i:=2) scTkW.nd rfl (Or.inl rfl) (bZ PySem.F.plainAttrs_str PySem.F.slot_str_removeprefix PySem.F.type_str_removeprefix fZ (pv 1) (a7 ai a9)))
  (aa (aq (i:=3) scTkW.nd rfl (Or.inl rfl) (bZ PySem.F.plainAttrs_str PySem.F.slot_str_rstrip PySem.F.type_str_rstrip ow (pv 2) (a7 ai a9)))
  (aa (aq (i:=4) scTkW.nd rfl (Or.inl rfl) (bK (bH (bZ PySem.F.plainAttrs_str PySem.F.slot_str_startswith PySem.F.type_str_startswith iI (pv 1) (a7 ai a9))) (ah gB hr3 rfl mB kB bB .nil ar (a7 (pv 0) (a7 (pv 3) a9))) (ah gP hr6 rfl mP kP bP .nil ar (a7 (pv 0) (a7 (pv 3) a9)))))
  (aa (aK (cC (bH (pv 4))) (ag (aj cE)) av)
  (aa (cD PassesOwn.never rfl (bQ rfl B.ra (a7 (ao dn (aD c7 rfl B.le PySem.boot_len (a7 (pv 2) a9)) (aD c7 rfl B.le PySem.boot_len (a7 (pv 3) a9))) a9)) (aL (i:=5) scTkW.nd rfl (Or.inl rfl))
   (ag (aK (cC (bH (ah gC hr rfl mC kC bC .nil ar (a7 (pv 0) a9)))) (ag (aj cE)) av)))
  (ag (aj cE)))))),?_⟩
 have hL:(16000000:Nat)≤sizeLine:=by decide +kernel
 obtain ⟨hb,hs⟩:=o6 hz hp
 have hc:=o5 hp hb
 have bl:(Txt.removeprefix z lp).length=wo.c.length+wo.k:=by rw [←ax,hb,List.length_append,List.length_replicate,ax]
 have bz:(Txt.removeprefix z lp).length≤z.length:=by
  rw [bl,←ax z,hz]
  unfold Wo.sg
  rw [List.length_append,List.length_append,List.length_replicate,ax]
  omega
 refine cH (fun σ' H'=>H'=H∧σ'= [some (.ref b),some (.str z),some (.str (Txt.removeprefix z lp)),none,none,none]) ?_ fun nx hnx=>⟨_,rfl,rfl,z,lp,rfl,rfl,by omega,hnx _ _ ⟨rfl,rfl⟩⟩
 rintro σ' H' ⟨rfl,rfl⟩
 refine cH (fun σ' H1=>H1=H'∧σ'= [some (.ref b),some (.str z),some (.str (Txt.removeprefix z lp)),some (.str wo.c),none,none]) ?_ fun nx hnx=>⟨_,rfl,rfl,_,rp,rfl,rfl,by omega,hnx _ _ ⟨rfl,by rw [←hc];rfl⟩⟩
 rintro σ' H' ⟨rfl,rfl⟩
 clear hc hb
 generalize Txt.removeprefix z lp=bare at bl bz
 refine cH (fun σ' H'=>∃st1,StAt C H0 H' b st1∧Clos wo.k st1 st'∧σ'= [some (.ref b),some (.str z),some (.str bare),some (.str wo.c),some (.bl true),none]) ?_ fun nx hnx=> ?_
 rotate_left
 · refine ⟨_,rfl,rfl,z,lp,rfl,rfl,trivial,_,rfl,?_⟩
   cases hw with
   |op c kk x r kd _ h1 h2 h3=>
    refine if_t hs ?_
    exact ⟨_,rfl,_,rfl,H0,b,c,x,r,kd,rfl,hS,h1,h2,fun H1 hS1=>hnx _ _ ⟨_,hS1,h3,rfl⟩⟩
   |pu c kk x r t _ h1 h2 h3=>
    refine if_f hs ?_
    exact ⟨_,rfl,_,rfl,H0,b,c,x,r,t,rfl,hS,h1,hp.2,h2,fun H1 hS1=>hnx _ _ ⟨_,hS1,h3,rfl⟩⟩
 rintro σ' H1 ⟨st1,hS1,hC1,rfl⟩
 refine ⟨_,rfl,_,rfl,?_⟩
 refine iteF ?_
 refine ⟨_,rfl,bare,rfl,by omega,_,rfl,wo.c,rfl,by omega,_,_,rfl,rfl,_,rfl,by omega,by omega,?_⟩
 obtain ⟨j,ej⟩:∃j:Nat,(((bare.length:Nat):Int) - ((wo.c.length:Nat):Int)).toNat=j:=⟨_,rfl⟩
 have ejk:j=wo.k:=by omega
 rw [ej]
 refine cW (n:=j) (fun i σ H'=>∃st2 v5,StAt C H0 H' b st2∧Clos (wo.k - i) st2 st'∧σ= [some (.ref b),some (.str z),some (.str bare),some (.str wo.c),some (.bl true),v5]) ⟨st1,none,hS1,hC1,rfl⟩ ?_ ?_
 · rintro i σ H2 hi ⟨st2,v5,hS2,hC2,rfl⟩
   obtain ⟨m,em⟩:∃m,wo.k - i=m+1:=⟨wo.k - i - 1,by omega⟩
   rw [em] at hC2
   cases hC2 with
   |succ _ x p r _ t q1 q2 q3 q4=>
    refine ⟨_,rfl,H0,b,x,p,r,t,rfl,hS2,q1,q2,q3,fun H3 hS3=>⟨_,rfl,?_⟩⟩
    refine iteF ?_
    exact ⟨_,_,hS3,by rw [show wo.k - (i+1)=m by omega];exact q4,rfl⟩
 · rintro σ H2 ⟨st2,v5,hS2,hC2,rfl⟩
   rw [show wo.k - j=0 by omega] at hC2
   cases hC2
   exact k H2 hS2
def pO:Sp:=fun vs H Q _=>∃(wn z:Str) (t:Tr) (d:Nat),vs= [.str wn, .str z]∧Rw d wn t (cl z)∧d≤30∧z.length≤8000000∧∀v H',Same H H'→TrAt H' v t→Q v H'
theorem scRdA:aA ["want","text","words","brackets","at","word"] ["want","text"] (ae sRdA):=⟨rfl,rfl,rfl,by decide +kernel,rfl,by decide +kernel,by decide +kernel⟩
theorem vv {f fT fI C:Addr} {fd dT dI:FuncData} (F:Fun K "read_as" "read_as" sRdA f fd) (B:Blt mg) (hC:Bk K C) (M:Mk K C fI) (mC:mg "Bracket"=some (.ref C))
 (gI:FnOk P w K mg base CX0 1 fI dI ["self","kind","first"] (spBi C)) (bI:Binds K dI ["self","kind","first"] [])
 (gT:FnOk P w K mg base CX0 10 fT dT ["brackets","word"] (pG C)) (kT:PySem.W.keepIn K (.ref fT)=true) (bT:Binds K dT ["brackets","word"] []) (mT:mg "takes_word"=some (.ref fT)):FnOk P w K mg base CX0 11 f fd ["want","text"] pO:=by
 refine F.ok scRdA (fun vs H Q E h=> ?_) (fun cdv A outer s H vs Q E hr h=> ?_)
 · obtain ⟨wn,z,t,d,rfl,_⟩:=h
   rfl
 obtain ⟨wn,z,t,d,rfl,hrw,hd,zl,k⟩:=h
 have hr2:Room 2 _:=hr.mono (by decide)
 refine ⟨_,aa (aq (i:=2) scRdA.nd rfl (Or.inl rfl) (bZ PySem.F.plainAttrs_str PySem.F.slot_str_split PySem.F.type_str_split rg (pv 1) (a7 ai a9)))
  (aa (aq (i:=3) scRdA.nd rfl (Or.inl rfl) (bn (a7 (n9 M gI hr2 rfl mC bI .nil ar (a7 ai (a7 (pv 0) a9))) a9)))
  (aa (cD PassesOwn.never rfl (sX rfl B.en (a7 (pv 2) a9)) (dk (n:=2) rfl (aY (aL (i:=4) scRdA.nd rfl (Or.inl rfl)) (aY (aL (i:=5) scRdA.nd rfl (Or.inl rfl)) cI)))
   (ag (aK (cC (bH (ah gT hr rfl mT kT bT .nil ar (a7 (pv 3) (a7 (pv 5) a9))))) lE av)))
  (aa (aK (am nh (aD aX rfl B.le PySem.boot_len (a7 (pv 3) a9)) ad (au _)) lE av)
  (ag (aj (aB aG (b9 (aB aG (pv 3) ad fun _ _=>rfl) rfl) ad fun _ _=>rfl)))))),?_⟩
 have hL:(16000000:Nat)≤sizeLine:=by decide +kernel
 obtain ⟨ws,w0,wp,wg,run⟩:=whole hrw hd
 have hcut:=cut (z:=z) (ws:=ws.map Wo.sg) (by simpa using w0) (fun y m=>by
  obtain ⟨v,mv,rfl⟩:=List.mem_map.mp m
  exact wM (wp v mv)) wg.symm
 have gl:=ki (ws.map Wo.sg)
 rw [wg,ax,List.length_map] at gl
 have sl:(bu z bk).length=ws.length:=by
  have:=congrArg List.length hcut
  rw [List.length_map,List.length_map] at this
  exact this
 refine ⟨_,rfl,rfl,z,bk,rfl,rfl,by decide +kernel,by omega,by omega,fun W nW=> ?_⟩
 have s1:=af (o:= .lst ((bu z bk).map V.str)) nW
 have hW:(upd H W (.lst ((bu z bk).map V.str))) W=some (.lst ((bu z bk).map V.str)):=ac
 dsimp only
 generalize upd H W (.lst ((bu z bk).map V.str))=H1 at s1 hW
 refine ⟨_,rfl,fun y dy ny ndy nd=> ?_⟩
 refine ⟨y,dy,_,wn,rfl,ac,fun l2 H2 n1 n2 q1 q2 q3=>⟨rfl,?_⟩⟩
 have nl2:H1 l2=none:=by
  rw [ak n1] at n2
  by_cases e:l2=dy
  · rw [e,ac] at n2
    cases n2
  · rw [ak e] at n2
    exact n2
 have sm:Same H1 H2:=fun z o e=>by
  have nz1:z≠y:=fun q=>by rw [q,ny] at e;cases e
  have nz2:z≠dy:=fun q=>by rw [q,ndy] at e;cases e
  exact q3 z o nz1 (by rw [ak nz1,ak nz2];exact e)
 refine ⟨by show 1≤sizeLine;decide,fun L nL=> ?_⟩
 have sL:=af (o:= .lst [.ref y]) nL
 have nlL:l2≠L:=fun e=>by rw [e,nL] at q2;cases q2
 have st0:StAt C H1 (upd H2 L (.lst [.ref y])) L [⟨"whole",wn,[]⟩]:=StAt.new (sm.trans sL) (sm.free nL) nl2 nlL ac (sL _ _ q1) (sL _ _ q2)
 refine cV ?_
 generalize upd H2 L (.lst [.ref y])=H3 at st0
 refine ⟨_,rfl,W,_,rfl,SqL.of (st0.same _ _ hW),?_⟩
 refine rM (xs:=(bu z bk).map V.str) (fun i σ H'=>∃v4 v5 st,σ= [some (.str wn),some (.str z),some (.ref W),some (.ref L),v4,v5]∧StAt C H1 H' L st∧Run (ws.drop i) st [⟨"whole",wn,[t]⟩]) ⟨none,none,_,rfl,st0,run⟩ (fun i σ H' _ ⟨_,_,_,_,p,_⟩=>SqL.of (p.same _ _ hW)) ?_ ?_
 · rintro i T x σ H4 ex nT ⟨v4,v5,st,rfl,hS,hR⟩
   have sT:=af (o:= .tup [.int i,x]) nT
   rw [List.getElem?_map] at ex
   obtain ⟨zi,ezi,rfl⟩:=Option.map_eq_some_iff.mp ex
   have hi:i < ws.length:=by rw [←sl];exact (List.getElem?_eq_some_iff.mp ezi).1
   have ec:cl zi=(ws[i]).sg:=by
    have:((bu z bk).map cl)[i]?=(ws.map Wo.sg)[i]?:=by rw [hcut]
    rw [List.getElem?_map,List.getElem?_map,ezi,List.getElem?_eq_getElem hi] at this
    exact Option.some.inj this
   have zil:zi.length≤z.length:=by
    have mz:zi∈bu z bk:=List.mem_of_getElem? ezi
    have key:∀(us:List (List Nat)) (u:List Nat),u∈us→u.length≤(glue us).length:=by
     intro us
     induction us with
     |nil=>intro u m;cases m
     |cons a us ih=>
      intro u m
      cases us with
      |nil=>
       rw [List.mem_singleton.mp m]
       exact Nat.le_refl _
      |cons c us=>
       show u.length≤(a++32::glue (c::us)).length
       rw [List.length_append,List.length_cons]
       rcases List.mem_cons.mp m with rfl|m
       · omega
       · have:=ih u m
         omega
    have:=key (ws.map Wo.sg) (cl zi) (by rw [ec];exact List.mem_map_of_mem (List.getElem_mem hi))
    rw [wg,ax,ax] at this
    exact this
   rw [List.drop_eq_getElem_cons hi] at hR
   cases hR with
   |cons _ _ _ st2 _ hw hR2=>
    refine ⟨T,_,rfl,SqT.of ac,rfl,_,_,rfl,_,_,rfl,rfl,?_⟩
    refine ⟨_,rfl,_,rfl,H1,L,zi,ws[i],st,st2,rfl,hS.more sT,hw,ec,wp _ (List.getElem_mem hi),by omega,fun H5 hS5=>⟨_,rfl,?_⟩⟩
    refine iteF ?_
    exact ⟨_,_,st2,rfl,hS5,hR2⟩
 · rintro σ H4 ⟨v4,v5,st,rfl,hS,hR⟩
   rw [List.length_map,sl,List.drop_length] at hR
   cases hR
   obtain ⟨a,l,dx,vs,xs,h1,h2,h3,h4,h5,h6,h7,_⟩:=hS.top
   obtain rfl:xs= []:=List.eq_nil_of_length_eq_zero h2
   obtain ⟨v,ev,hv⟩:=eG h5 (i:=0) rfl
   refine ⟨_,rfl,L,_,rfl, .inl (SqL.of h1),_,_,rfl,rfl,_,rfl,?_⟩
   refine if_f (decide_eq_false (by show¬(1:Int) < ((1:Nat):Int);decide)) ?_
   refine ⟨_,rfl,L,_,0, .ref a,rfl,rfl,SqL.of h1,rfl,a,C,dx,_,_,rfl,h3,hC.cls,hC.nt,lk_t,l,vs,0,v,rfl,rfl,SqL.of h4,bX (j:=0) ev,?_⟩
   exact k v H4 (s1.trans hS.same) hv
def pN:Sp:=fun vs H Q _=>∃(z:Str) (t:Tr) (d:Nat),vs= [.str z]∧Rw d "wish" t (cl z)∧d≤30∧z.length≤8000000∧∀v H',Same H H'→TrAt H' v t→Q v H'
theorem wR:aA ["text"] ["text"] (ae sRdW):=⟨rfl,rfl,rfl,by decide +kernel,rfl,by decide +kernel,by decide +kernel⟩
theorem vq {f fA:Addr} {fd dA:FuncData} (F:Fun K "read_wish" "read_wish" sRdW f fd) (gA:FnOk P w K mg base CX0 11 fA dA ["want","text"] pO) (kA:PySem.W.keepIn K (.ref fA)=true) (bA:Binds K dA ["want","text"] []) (mA:mg "read_as"=some (.ref fA)):FnOk P w K mg base CX0 12 f fd ["text"] pN:=by
 refine F.ok wR (fun vs H Q E h=> ?_) (fun cdv A outer s H vs Q E hr h=> ?_)
 · obtain ⟨z,t,d,rfl,_⟩:=h
   rfl
 obtain ⟨z,t,d,rfl,hx,hn,zl,k⟩:=h
 refine ⟨_,ag (aj (ah gA hr rfl mA kA bA .nil ar (a7 ai (a7 (pv 0) a9)))),?_⟩
 exact ⟨_,rfl,_,z,t,d,rfl,hx,hn,zl,k⟩
end
end K12
namespace K12
open PySem L2 Mth Dec Tre Wd Su Tw
theorem jw {x:Int} (h:x.natAbs < 10^200):x.natAbs.log2 < 1920:=by
 have:=lQ h
 rwa [Int.natAbs_natCast] at this
theorem nB {x:Int} (h:x.natAbs < 10^200):(Str.ofString (toString x)).length≤201:=by
 rw [←ax,jE,List.length_append]
 have:=cP 199 h
 unfold sg
 split<;>simp<;>omega
theorem oZ {ts:List Tr} {t:Tr} (m:t∈ts):(tmC t).length≤(tmsC ts).length:=by
 rw [eK]
 obtain ⟨a,b,rfl⟩:=List.append_of_mem m
 rw [List.map_append,eQ,List.map_cons]
 show _≤(_++((32::tmC t)++spC (b.map tmC))).length
 simp only [List.length_append,List.length_cons]
 omega
section
variable {P:Program} {w:World} {K:PySem.W.Frag} {mg:Str→Option Value} {base:Heap}
def lu (K:PySem.W.Frag):Sp:=fun vs H Q _=>∃(p:Addr) (x y:Int),vs= [.ref p]∧SqT K H p [.int x, .int y]∧0 < y∧x.natAbs < 10^200∧y.natAbs < 10^200∧∀(z:Str),cl z=txt x y→Q (.str z) H
theorem uQ:aA ["_law_one"] ["_law_one"] (ae iD):=⟨rfl,rfl,rfl,by decide +kernel,rfl,by decide +kernel,by decide +kernel⟩
theorem tJ {f:Addr} {fd:FuncData} (F:Fun K "_law_figures" "_law_figures" iD f fd) (B:Blt mg):FnOk P w K mg base CX0 1 f fd ["_law_one"] (lu K):=by
 refine F.ok uQ (fun vs H Q E h=> ?_) (fun cdv A outer s H vs Q E hr h=> ?_)
 · obtain ⟨p,x,y,rfl,_⟩:=h
   rfl
 obtain ⟨p,x,y,rfl,hp,y0,hx,hy,k⟩:=h
 refine ⟨_,aa (aK (am aP (aB aJ (pv 0) ad fun _ _=>rfl) ad (au _)) (ag (aj (aU c6 rfl B.st PyProof.Rows.boot_str (a7 (aB aJ (pv 0) ad fun _ _=>rfl) a9)))) av)
  (ag (aj (ao az (ao az (aU c6 rfl B.st PyProof.Rows.boot_str (a7 (aB aJ (pv 0) ad fun _ _=>rfl) a9)) ai) (aU c6 rfl B.st PyProof.Rows.boot_str (a7 (aB aJ (pv 0) ad fun _ _=>rfl) a9))))),?_⟩
 have hL:(20000:Nat)≤sizeLine:=by decide +kernel
 refine ⟨_,rfl,p,_,1, .int y,rfl,rfl,hp,rfl,rfl,_,rfl,?_⟩
 by_cases e:y=1
 · rw [decide_eq_true (show V.int y=V.int 1 by rw [e])]
   refine iteT ⟨_,rfl,p,_,0, .int x,rfl,rfl,hp,rfl,x,rfl,jw hx,k _ ?_⟩
   rw [jE]
   unfold txt Dec.low
   rw [if_pos e,List.append_nil]
 · rw [decide_eq_false (show¬V.int y=V.int 1 from fun q=>e (V.int.inj q))]
   refine iteF ?_
   have l1:=nB hx
   have l2:=nB hy
   have a4:(Str.ofString "/").length=1:=by decide +kernel
   refine ⟨_,rfl,p,_,0, .int x,rfl,rfl,hp,rfl,x,rfl,jw hx,_,_,rfl,rfl,by show (Str.ofString (toString x)).length+_≤_;omega,_,rfl,p,_,1, .int y,rfl,rfl,hp,rfl,y,rfl,jw hy,_,_,rfl,rfl,?_,k _ ?_⟩
   · show (Str.ofString (toString x)++Str.ofString "/").length+(Str.ofString (toString y)).length≤_
     rw [Dec.len_app]
     omega
   · show cl (Str.ofString (toString x)++Str.ofString "/"++Str.ofString (toString y))=_
     rw [aO,aO,jE,jE,s_cl]
     unfold txt Dec.low
     rw [if_neg e]
     have:sg y= []:=by
      unfold sg
      rw [if_neg (by omega)]
     rw [this]
     simp
def pJ (n:Nat):Sp:=fun vs H Q _=>∃(v:V) (t:Tr),vs= [v]∧TrAt H v t∧Ty .tm t∧t.depth < n∧(tmC t).length≤1000∧∀z,cl z=tmC t→Q (.str z) H
theorem scTTx:aA ["_law_term_here","_law_text_here","_law_one"] ["_law_term_here"] (ae sTTx):=⟨rfl,rfl,rfl,by decide +kernel,rfl,by decide +kernel,by decide +kernel⟩
theorem vh {f:Addr} {fd:FuncData} (F:Fun K "_law_term_text" "_law_term_text" sTTx f fd) (bF:Binds K fd ["_law_term_here"] []) (mF:mg "_law_term_text"=some (.ref f)):
 ∀n,FnOk P w K mg base CX0 (n+1) f fd ["_law_term_here"] (pJ n):=by
 intro n
 induction n with
 |zero=>exact ⟨fun vs H Q E ⟨_,_,_,_,_,h,_⟩=>absurd h (by omega),fun A outer s H args us vs Q E _ _ _ _ ⟨_,_,_,_,_,h,_⟩=>absurd h (by omega)⟩
 |succ n ih=>
  refine F.ok scTTx (fun vs H Q E h=> ?_) (fun cdv A outer s H vs Q E hr h=> ?_)
  · obtain ⟨v,t,rfl,_⟩:=h
    rfl
  obtain ⟨v,t,rfl,hv,hw,hd,hl,k⟩:=h
  refine ⟨_,aa (aK (am aP (aB aJ (pv 0) ad fun _ _=>rfl) ai (au _)) (ag (aj (aB aJ (pv 0) ad fun _ _=>rfl))) av)
   (aa (aq (i:=1) scTTx.nd rfl (Or.inl rfl) (ao az ai (aB aJ (pv 0) ad fun _ _=>rfl)))
   (aa (cD PassesOwn.never rfl (qv (aB aJ (pv 0) ad fun _ _=>rfl)) (aL (i:=2) scTTx.nd rfl (Or.inl rfl))
    (ag (aq (i:=1) scTTx.nd rfl (Or.inl rfl) (ao az (ao az (pv 1) ai) (ah ih hr rfl mF F.kp bF .nil ar (a7 (pv 2) a9))))))
   (ag (aj (ao az (pv 1) ai))))),?_⟩
  have hL:(100000:Nat)≤sizeLine:=by decide +kernel
  have e1:(Str.ofString " ").length=1:=by decide +kernel
  have e2:(Str.ofString "(").length=1:=by decide +kernel
  have e3:(Str.ofString ")").length=1:=by decide +kernel
  cases hw with
  |nm x=>
   obtain ⟨r,y,rfl,h1,h2⟩:=at2 hv
   have h3:=at_s h2
   subst h3
   refine ⟨_,rfl,r,_,0, .str "name",rfl,rfl,SqT.of h1,rfl,rfl,_,rfl,?_⟩
   rw [decide_eq_true rfl]
   refine iteT ⟨_,rfl,r,_,1, .str x,rfl,rfl,SqT.of h1,rfl,?_⟩
   exact k _ (j7 _ _).symm
  |ap g ts ht3 hty=>
   obtain ⟨r,y,z,rfl,h1,h2,h3⟩:=at3 hv
   have e2':=at_s h2
   subst e2'
   obtain ⟨q,vs,rfl,h4,h5⟩:=at_t h3
   have hl':=hl
   unfold s_ at hl'
   rw [gg] at hl'
   simp only [List.length_append,List.length_cons,ax] at hl'
   refine ⟨_,rfl,r,_,0, .str "call",rfl,rfl,SqT.of h1,rfl,rfl,_,rfl,?_⟩
   rw [decide_eq_false (show¬V.str "call"=V.str "name" by decide +kernel)]
   refine iteF ?_
   refine ⟨_,rfl,r,_,1, .str g,rfl,rfl,SqT.of h1,rfl,_,_,rfl,rfl,by rw [e2];omega,?_⟩
   refine ⟨_,rfl,r,_,2, .ref q,rfl,rfl,SqT.of h1,rfl,q,rfl,⟨vs,SqT.of h4⟩,?_⟩
   have hlen:=h5.len
   refine u6 (xs:=vs) (fun i σ H'=>H'=H∧∃(z:Str) (v2:Option V),σ= [some (.ref r),some (.str z),v2]∧cl z=40::cl g++spC ((ts.take i).map tmC)) ⟨rfl,_,none,rfl,by rw [aO,uC,List.take_zero];simp [spC]⟩ (fun i σ H' _ p=>by rw [p.1];exact SqT.of h4) ?_ ?_
   · rintro i x σ H' ex ⟨rfl,z,v2,rfl,ez⟩
     obtain ⟨t,et,htt⟩:=h5.get' ex
     have mt:=List.mem_of_getElem? et
     have hsub:=oZ mt
     have htk:(spC ((ts.take i).map tmC)).length≤3*1001:=by
      refine Nat.le_trans (cw (B:=1000) fun c m=> ?_) (Nat.mul_le_mul_right _ ?_)
      · obtain ⟨t',mt',rfl⟩:=List.mem_map.mp m
        have:=oZ (List.mem_of_mem_take mt')
        omega
      · rw [List.length_map,List.length_take]
        omega
     have zl:z.length≤5000:=by
      rw [←ax,ez]
      simp only [List.length_append,List.length_cons,ax]
      omega
     refine ⟨_,rfl,_,_,rfl,rfl,by rw [e1];omega,_,rfl,x,t,rfl,htt,hty t mt,?_,by omega,fun z2 ez2=> ?_⟩
     · have hd2:=hd
       simp only [Tr.depth,Trs.depth] at hd2
       have:=bc mt
       omega
     · have z2l:z2.length≤1000:=by rw [←ax,ez2];omega
       refine ⟨_,_,rfl,rfl,by rw [Dec.len_app,e1];omega,?_⟩
       refine ⟨rfl,_,_,rfl,?_⟩
       rw [aO,aO,ez,jQ,ez2,List.take_add_one,et,List.map_append,eQ]
       show _=_++(_++spC [tmC t])
       rw [eP]
       simp
   · rintro σ H' ⟨rfl,z,v2,rfl,ez⟩
     rw [hlen,List.take_length,←eK] at ez
     have zl:z.length≤5000:=by
      rw [←ax,ez]
      simp only [List.length_append,List.length_cons,ax]
      omega
     refine ⟨_,rfl,_,_,rfl,rfl,by rw [e3];omega,k _ ?_⟩
     unfold s_
     rw [aO,jV,gg,ez]
end
end K12
namespace K12
open PySem L2 Mth Tre Wd
section
variable {P:Program} {w:World} {K:PySem.W.Frag} {mg:Str→Option Value} {base:Heap}
def T59:Int:=10^59
def je:Sp:=fun vs H Q _=>∃(f c:Addr) (m:Int),vs= [.ref f, .int m]∧FeedAt H f c∧0≤m∧m≤2*T59∧∀(r:Int) (H':Hp),0≤r→r≤m→FeedAt H' f c→Keep f c H H'→Q (.int r) H'
theorem scG:aA ["_law_feed_here","_law_most","_law_number","_law_k"] ["_law_feed_here","_law_most"] (ae dc):=⟨rfl,rfl,rfl,by decide +kernel,rfl,by decide +kernel,by decide +kernel⟩
theorem xF {m:Int} (h0:0≤m) (h1:m≤2*T59):Big (m+1):=by
 have e:(2*T59+1).natAbs < 2^8000:=by decide +kernel
 unfold Big
 have:(m+1).natAbs≤(2*T59+1).natAbs:=by omega
 exact Nat.lt_of_le_of_lt this e
theorem k6 {f fD:Addr} {fd fdD:FuncData} (F:Fun K "_law_great" "_law_great" dc f fd) (FD:Fun K "_law_draw" "_law_draw" de fD fdD) (bD:Binds K fdD ["_law_feed_here","_law_many"] []) (mD:mg "_law_draw"=some (.ref fD)) (B:Blt mg):
 FnOk P w K mg base CX0 2 f fd ["_law_feed_here","_law_most"] je:=by
 have GD:FnOk P w K mg base CX0 1 fD fdD ["_law_feed_here","_law_many"] cN:=dR FD B
 refine F.ok scG (fun vs H Q E h=> ?_) (fun cdv A outer s H vs Q E hr h=> ?_)
 · obtain ⟨f,c,m,rfl,_⟩:=h
   rfl
 · obtain ⟨f,c,m,rfl,hF,m0,m1,k⟩:=h
   obtain ⟨cells,b,n,hf,hc,l0,l63,nfc⟩:=id hF
   refine ⟨_,aa (aK (am aP (aB aG (pv 0) ad fun _ _=>rfl) ad (au _)) (ag (aj (ah GD hr rfl mD FD.kp bD .nil ar (a7 (pv 0) (a7 (ao bq (pv 1) ad) a9))))) av)
    (aa (aq (i:=2) scG.nd rfl (Or.inl rfl) ad)
    (aa (cD PassesOwn.never rfl (bQ rfl B.ra (a7 ad a9)) (aL (i:=3) scG.nd rfl (Or.inl rfl))
     (ag (aq (i:=2) scG.nd rfl (Or.inl rfl) (ao bq (ao fJ (pv 2) (ao jp ad ad)) (ah GD hr rfl mD FD.kp bD .nil ar (a7 (pv 0) (a7 (ao jp ad ad) a9)))))))
    (ag (aj (ao c9 (pv 2) (ao bq (pv 1) ad)))))),?_⟩
   refine ⟨_,rfl,f,_,1, .int b,rfl,rfl,SqL.of hf,rfl,rfl,_,rfl,?_⟩
   refine ite2 (fun _=> ?_) (fun _=> ?_)
   · refine ⟨_,rfl,_,rfl,m,1,rfl,rfl,f,c,m+1,rfl,hF,by omega,xF m0 m1,fun r H' r0 r1 hF' kp=> ?_⟩
     exact k r H' r0 (by omega) hF' kp
   · refine ⟨7,rfl,by decide,by decide,cW (lo:=0) (n:=7) (fun _ σ H'=>FeedAt H' f c∧Keep f c H H'∧∃(x:Int) (v:Option V),σ= [some (.ref f),some (.int m),some (.int x),v]) ⟨hF,Keep.refl,0,none,rfl⟩ ?_ ?_⟩
     · rintro i σ H1 hi ⟨hF1,kp1,x,v,rfl⟩
       refine ⟨_,rfl,10,9,rfl,rfl,⟨by decide,by decide,by decide⟩,x,_,rfl,rfl, .inr ⟨by decide,by decide⟩,_,rfl,10,9,rfl,rfl,⟨by decide,by decide,by decide⟩,f,c,_,rfl,hF1,by decide,by show ((10:Int)^(9:Int).toNat).natAbs < 2^8000;decide +kernel,fun r H2 r0 r1 hF2 kp2=> ?_⟩
       exact ⟨_,_,rfl,rfl,hF2,kp1.trans kp2,_,_,rfl⟩
     · rintro σ H1 ⟨hF1,kp1,x,v,rfl⟩
       refine ⟨_,rfl,_,rfl,m,1,rfl,rfl,x,m+1,rfl,rfl,by omega,?_⟩
       have q1:x%(m+1) < m+1:=Int.emod_lt_of_pos _ (by omega)
       exact k _ _ (Int.emod_nonneg _ (by omega)) (by omega) hF1 kp1
def gO:Sp:=fun vs H Q _=>∃(t b:Int),vs= [.int t, .int b]∧0 < b∧Big (Int.gcd t b:Int)∧∀(r:Addr) (H':Hp),H r=none→H'=upd H r (.tup [.int (t / (Int.gcd t b:Int)), .int (b / (Int.gcd t b:Int))])→Q (.ref r) H'
theorem scLo:aA ["_law_top","_law_bottom","_law_one","_law_other","_law_rest"] ["_law_top","_law_bottom"] (ae sLow):=⟨rfl,rfl,rfl,by decide +kernel,rfl,by decide +kernel,by decide +kernel⟩
theorem lJ {f:Addr} {fd:FuncData} (F:Fun K "_law_lowest" "_law_lowest" sLow f fd) (B:Blt mg):FnOk P w K mg base CX0 1 f fd ["_law_top","_law_bottom"] gO:=by
 refine F.ok scLo (fun vs H Q E h=> ?_) (fun cdv A outer s H vs Q E hr h=> ?_)
 · obtain ⟨t,b,rfl,_⟩:=h
   rfl
 · obtain ⟨t,b,rfl,b0,bg,k⟩:=h
   refine ⟨_,aa (aq (i:=2) scLo.nd rfl (Or.inl rfl) (aD ik rfl B.ab im (a7 (pv 0) a9)))
    (aa (aq (i:=3) scLo.nd rfl (Or.inl rfl) (pv 1))
    (aa (gX PassesOwn.never (am nh (pv 3) ad (au _))
     (aa (aq (i:=4) scLo.nd rfl (Or.inl rfl) (ao c9 (pv 2) (pv 3)))
     (aa (aq (i:=2) scLo.nd rfl (Or.inl rfl) (pv 3)) (ag (aq (i:=3) scLo.nd rfl (Or.inl rfl) (pv 4))))))
    (ag (aj (aE (a7 (ao be (pv 0) (pv 2)) (a7 (ao be (pv 1) (pv 2)) a9))))))),?_⟩
   refine ⟨_,rfl,t,rfl,_,rfl,?_⟩
   have ea:(if t < 0 then -t else t)=(t.natAbs:Int):=by split<;>omega
   rw [ea]
   have g0:0 < Int.gcd t b:=Int.gcd_pos_of_ne_zero_right t (by omega)
   refine gv (fun σ H'=>H'=H∧∃(x y:Nat) (v:Option V),σ= [some (.int t),some (.int b),some (.int x),some (.int y),v]∧Nat.gcd x y=Int.gcd t b) (fun σ _=>match σ with| [_,_,_,some (.int y),_]=>y.natAbs|_=>0)
    ⟨rfl,t.natAbs,b.natAbs,none,by rw [show ((b.natAbs:Nat):Int)=b by omega];rfl,rfl⟩ ?_ ?_
   · rintro σ H' ⟨rfl,x,y,v,rfl,e⟩
     refine ⟨_,rfl,_,0,rfl,rfl,_,rfl,?_⟩
     by_cases z:(0:Int) < (y:Int)
     · rw [decide_eq_true z]
       refine iteT ?_
       refine ⟨_,rfl,_,rfl,x,y,rfl,rfl,z,_,rfl,_,rfl,?_⟩
       have hm:((x:Int)%(y:Int))=((x%y:Nat):Int):=by simp
       refine ⟨⟨rfl,y,x%y,some (.int ((x%y:Nat):Int)),?_,?_⟩,?_⟩
       · show [some (V.int t),some (V.int b),some (V.int (y:Int)),some (V.int ((x:Int)%(y:Int))),some (V.int ((x:Int)%(y:Int)))]=_
         rw [hm]
       · rw [←e,Nat.gcd_comm x y,Nat.gcd_rec y x,Nat.gcd_comm]
       · show ((x:Int)%(y:Int)).natAbs < (y:Int).natAbs
         rw [hm]
         have:=Nat.mod_lt x (show 0 < y by omega)
         omega
     · rw [decide_eq_false z]
       refine iteF ?_
       have y0:y=0:=by omega
       subst y0
       rw [Nat.gcd_zero_right] at e
       subst e
       refine ⟨_,rfl,_,rfl,t,_,rfl,rfl,⟨by omega,bg⟩,_,rfl,_,rfl,b,_,rfl,rfl,⟨by omega,bg⟩,by show 2≤sizeLine;decide,fun r hr'=> ?_⟩
       exact k r _ hr' rfl
   · intro σ H' R R' hR h
     obtain ⟨v,e1,i,j,e2,e3,q,e4,h⟩:=h
     exact ⟨v,e1,i,j,e2,e3,q,e4,hR _ _ h⟩
end
open PySem L2 Mth Tre Wd
section
variable {P:Program} {w:World} {K:PySem.W.Frag} {mg:Str→Option Value} {base:Heap}
def pL:Sp:=fun vs H Q _=>∃(f c:Addr),vs= [.ref f]∧FeedAt H f c∧∀(v:V) (H':Hp) (p:Fr),FeedAt H' f c→But f c H H'→TrAt H' v (frT p)→Gf 30 p→cn p.1 p.2→Q v H'
theorem scSml:aA ["_law_feed_here","_law_most","_law_top"] ["_law_feed_here"] (ae fh):=⟨rfl,rfl,rfl,by decide +kernel,rfl,by decide +kernel,by decide +kernel⟩
def TSml:Int:=10^6
theorem tSml:(60:Int)≤TSml∧TSml≤T59∧(TSml+10).natAbs < 2^30:=by decide +kernel
theorem vC {f fD fG fL:Addr} {fd fdD fdG fdL:FuncData} (F:Fun K "_law_small" "_law_small" fh f fd) (FD:Fun K "_law_draw" "_law_draw" de fD fdD) (bD:Binds K fdD ["_law_feed_here","_law_many"] []) (mD:mg "_law_draw"=some (.ref fD))
 (FG:Fun K "_law_great" "_law_great" dc fG fdG) (bG:Binds K fdG ["_law_feed_here","_law_most"] []) (mG:mg "_law_great"=some (.ref fG)) (FL:Fun K "_law_lowest" "_law_lowest" sLow fL fdL) (bL:Binds K fdL ["_law_top","_law_bottom"] []) (mL:mg "_law_lowest"=some (.ref fL)) (B:Blt mg):
 FnOk P w K mg base CX0 3 f fd ["_law_feed_here"] pL:=by
 have GD:FnOk P w K mg base CX0 1 fD fdD ["_law_feed_here","_law_many"] cN:=dR FD B
 have GG:FnOk P w K mg base CX0 2 fG fdG ["_law_feed_here","_law_most"] je:=k6 FG FD bD mD B
 have GL:FnOk P w K mg base CX0 1 fL fdL ["_law_top","_law_bottom"] gO:=lJ FL B
 refine F.ok scSml (fun vs H Q E h=> ?_) (fun cdv A outer s H vs Q E hr h=> ?_)
 · obtain ⟨f,c,rfl,_⟩:=h
   rfl
 obtain ⟨f,c,rfl,hF,k⟩:=h
 have hr1:Room 1 _:=hr.mono (by decide)
 refine ⟨_,aa (aq (i:=1) scSml.nd rfl (Or.inl rfl) (aB aG (bn (a7 ad (a7 ad (a7 ad (a7 ad (a7 (ao jp ad ad) a9)))))) (ah GD hr1 rfl mD FD.kp bD .nil ar (a7 (pv 0) (a7 ad a9))) fun _ _=>rfl))
  (aa (aq (i:=2) scSml.nd rfl (Or.inl rfl) (ao dn (ah GG hr rfl mG FG.kp bG .nil ar (a7 (pv 0) (a7 (ao fJ ad (pv 1)) a9))) (pv 1)))
  (ag (aj (ah GL hr1 rfl mL FL.kp bL .nil ar (a7 (pv 2) (a7 (aB aG (bn (a7 ad (a7 (ao bq ad (ah GG hr rfl mG FG.kp bG .nil ar (a7 (pv 0) (a7 (ao dn (pv 1) ad) a9)))) a9)))
   (ah GD hr1 rfl mD FD.kp bD .nil ar (a7 (pv 0) (a7 ad a9))) fun _ _=>rfl) a9)))))),?_⟩
 obtain ⟨t60,t589,tbig⟩:=tSml
 refine cH (fun σ' H'=>∃most:Int,0 < most∧most≤TSml∧FeedAt H' f c∧But f c H H'∧σ'= [some (.ref f),some (.int most),none]) ?_ fun nx hnx=> ?_
 rotate_left
 · refine ⟨10,6,rfl,rfl,⟨by decide,by decide,by decide⟩,by show 5≤sizeLine;decide,fun p hp=> ?_⟩
   obtain ⟨npf,npc⟩:=hF.ne hp
   refine ⟨_,rfl,f,c,5,rfl,hF.same (af hp),by decide,br (by decide) (by decide),fun r H1 r0 r1 hF1 kp1=> ?_⟩
   have hp1:H1 p=some (.lst [.int 3, .int 3, .int 3, .int 60, .int ((10:Int)^(6:Int).toNat)]):=(kp1 p npf npc).trans ac
   have b1:But f c H H1:=(But.of_same (af hp)).trans (But.of_keep kp1)
   have r3:r=0∨r=1∨r=2∨r=3∨r=4:=by omega
   rcases r3 with rfl|rfl|rfl|rfl|rfl
   · exact ⟨p,_,0, .int 3,rfl,rfl,SqL.of hp1,rfl,hnx _ _ ⟨3,by decide,by omega,hF1,b1,rfl⟩⟩
   · exact ⟨p,_,1, .int 3,rfl,rfl,SqL.of hp1,rfl,hnx _ _ ⟨3,by decide,by omega,hF1,b1,rfl⟩⟩
   · exact ⟨p,_,2, .int 3,rfl,rfl,SqL.of hp1,rfl,hnx _ _ ⟨3,by decide,by omega,hF1,b1,rfl⟩⟩
   · exact ⟨p,_,3, .int 60,rfl,rfl,SqL.of hp1,rfl,hnx _ _ ⟨60,by decide,by omega,hF1,b1,rfl⟩⟩
   · exact ⟨p,_,4, .int TSml,rfl,rfl,SqL.of hp1,rfl,hnx _ _ ⟨TSml,by omega,by omega,hF1,b1,rfl⟩⟩
 rintro σ' H1 ⟨most,h0,h1,hF1,b1,rfl⟩
 refine ⟨_,rfl,_,rfl,2,most,rfl,rfl, .inl ⟨by decide,by decide⟩,f,c,2*most,rfl,hF1,by omega,by omega,fun r2 H2 s0 s1 hF2 kp2=> ?_⟩
 refine ⟨_,rfl,r2,most,rfl,rfl,?_⟩
 refine ⟨_,rfl,_,rfl,_,rfl,_,_,rfl,rfl,f,c,most - 1,rfl,hF2,by omega,by omega,fun r3 H3 u0 u1 hF3 kp3=> ?_⟩
 refine ⟨1,r3,rfl,rfl,by show 2≤sizeLine;decide,fun p3 hp3=> ?_⟩
 obtain ⟨np3,nc3⟩:=hF3.ne hp3
 refine ⟨_,rfl,f,c,2,rfl,hF3.same (af hp3),by decide,br (by decide) (by decide),fun r4 H4 w0 w1 hF4 kp4=> ?_⟩
 have hp4:H4 p3=some (.lst [.int 1, .int (1+r3)]):=(kp4 p3 np3 nc3).trans ac
 have b4:But f c H H4:=b1.trans ((But.of_keep kp2).trans ((But.of_keep kp3).trans ((But.of_same (af hp3)).trans (But.of_keep kp4))))
 have fin:∀y:Int,0 < y→y≤TSml+1→(gO [.int (r2 - most), .int y] H4 Q E0):=by
  intro y y0 y1
  have lx:Lt2 30 (r2 - most):=Nat.lt_of_le_of_lt (show (r2 - most).natAbs≤(TSml+10).natAbs by omega) tbig
  have ly:Lt2 30 y:=Nat.lt_of_le_of_lt (show y.natAbs≤(TSml+10).natAbs by omega) tbig
  have bg:Big (Int.gcd (r2 - most) y:Int):=cL (ly.big (by decide)) (by omega)
  refine ⟨_,y,rfl,y0,bg,fun r' H5 hr' e5=> ?_⟩
  subst e5
  obtain ⟨x',y',ex,ey,g1,qx,qy⟩:=bY (x:=r2 - most) (y:=y) (by omega)
  have s5:=af (o:= .tup [.int ((r2 - most) / (Int.gcd (r2 - most) y:Int)), .int (y / (Int.gcd (r2 - most) y:Int))]) hr'
  have lx':=lx.div (y:=(Int.gcd (r2 - most) y:Int))
  have ly':=ly.div (y:=(Int.gcd (r2 - most) y:Int))
  rw [qx] at lx'
  rw [qy] at ly'
  rw [qx,qy] at s5 ⊢
  have y0':0 < y':=bJ (k:=(Int.gcd (r2 - most) y:Int)) (by omega) (by omega)
  exact k (.ref r') _ (x',y') (hF4.same s5) (b4.trans (But.of_same s5)) (c8 ac) ⟨y0',lx',ly'⟩ ⟨y0',g1⟩
 have r2c:r4=0∨r4=1:=by omega
 rcases r2c with rfl|rfl
 · exact ⟨p3,_,0, .int 1,rfl,rfl,SqL.of hp4,rfl,fin 1 (by decide) (by omega)⟩
 · exact ⟨p3,_,1, .int (1+r3),rfl,rfl,SqL.of hp4,rfl,fin (1+r3) (by omega) (by omega)⟩
end
end K12
namespace K12
open PySem L2 Trm Tre Wd
def Wd (n:Nat) (x:Str):Prop:=x.length=n∧∀c∈cl x,Ltr c
abbrev abc:Str:=Str.ofString "abcdefghijklmnopqrstuvwxyz"
theorem sw {i:Int} (h0:0≤i) (h1:i < 26):∃c,atI abc.cps.toList i=some c∧Ltr c:=by
 obtain ⟨j,rfl⟩:∃j:Nat,i=(j:Int):=⟨i.toNat,by omega⟩
 have e:abc.cps.toList=(List.range 26).map (97+ ·):=by decide +kernel
 refine ⟨97+j,bX ?_,?_⟩
 · rw [e,List.getElem?_map,List.getElem?_range (by omega)]
   rfl
 · unfold Ltr
   omega
theorem o3:abc.length≤sizeLine:=by decide +kernel
theorem l7 {c:Nat} (h:Ltr c):Wd 1 ⟨#[c]⟩:=⟨rfl,fun d m=>by
 have m:d∈ [c]:=m
 rw [List.mem_singleton.mp m]
 exact h⟩
theorem len_app (x y:Str):(x++y).length=x.length+y.length:=by rw [←ax,aO,List.length_append,ax,ax]
theorem iY {m n:Nat} {x y:Str} (a:Wd m x) (b:Wd n y):Wd (m+n) (x++y):=by
 refine ⟨by rw [len_app,a.1,b.1],fun c h=> ?_⟩
 rw [aO] at h
 rcases List.mem_append.mp h with h|h
 · exact a.2 c h
 · exact b.2 c h
theorem iy {x:Str} {l u:Option Int} {c:Nat} (h:c∈cl (Txt.slice x l u)):c∈cl x:=by
 unfold Txt.slice at h
 split at h
 · exact h
 · have h':c∈List.filterMap (fun i=>x.cps[i]?) (Builtin.Str.strSliceIndices l u 1 x.length):=by simpa [cl] using h
   obtain ⟨i,_,e⟩:=List.mem_filterMap.mp h'
   unfold cl
   exact Array.mem_toList_iff.mpr (Array.mem_of_getElem? e)
theorem oQ {n:Nat} {x:Str} {j:Int} (a:Wd n x) (h0:0≤j) (h:j≤n):Wd j.toNat (Txt.slice x none (some j)):=by
 refine ⟨?_,fun c m=>a.2 c (iy m)⟩
 have:=(PyProof.Rows.fact_slice_ns x j).1 h0 (by have:=a.1;omega)
 omega
theorem sC {n:Nat} {x:Str} {j:Int} (a:Wd n x) (h0:0≤j) (h:j≤n):Wd (n - j.toNat) (Txt.slice x (some j) none):=by
 refine ⟨?_,fun c m=>a.2 c (iy m)⟩
 have:=(PyProof.Rows.fact_slice_sn x j).1 h0 (by have:=a.1;omega)
 have:=a.1
 omega
theorem uj {n:Nat} {x:Str} (a:Wd n x) (h0:0 < n) (h8:n≤8):Nm x:=⟨by rw [a.1];exact h0,by rw [a.1];exact h8,a.2⟩
theorem sy:∀ {ys:List Str},(∀y∈ys,Wd 1 y)→Wd ys.length (Txt.join (Str.ofString "") ys)
 |ys,h=>by
  have e:Txt.join (Str.ofString "") ys=Str.join (Str.ofString "") ys:=StrLaws.glued_eq_join _ _
  rw [e]
  clear e
  induction ys with
  |nil=>exact ⟨rfl,fun c m=>by cases m⟩
  |cons y ys ih=>
   have h1:=h y List.mem_cons_self
   have ih:=ih fun z m=>h z (List.mem_cons_of_mem _ m)
   cases ys with
   |nil=>exact h1
   |cons z ys=>
    have e2:Str.join (Str.ofString "") (y::z::ys)=y++Str.ofString ""++Str.join (Str.ofString "") (z::ys):=rfl
    rw [e2,List.length_cons (a:=y),Nat.add_comm]
    exact iY (m:=1) (iY (n:=0) h1 ⟨by decide +kernel,fun c m=>by
     have e3:cl (Str.ofString "")= []:=by decide +kernel
     rw [e3] at m
     cases m⟩) ih
theorem jP:∀ {ys:List Str},(∀y∈ys,Wd 1 y)→(ys.map (·.length)).sum=ys.length
 | [],_=>rfl
 |y::ys,h=>by
  simp only [List.map_cons,List.sum_cons,List.length_cons]
  rw [jP fun z m=>h z (List.mem_cons_of_mem _ m),(h y List.mem_cons_self).1]
  omega
def Names (H:Hp) (nl:Addr):Prop:=∃ns:List Str,H nl=some (.lst (ns.map V.str))∧ns.length=6∧∀x∈ns,Nm x
theorem Names.at {H:Hp} {nl:Addr} (h:Names H nl) {i:Int} (h0:0≤i) (h6:i < 6):∃xs x,H nl=some (.lst xs)∧atI xs i=some (.str x)∧Nm x:=by
 obtain ⟨ns,e,l,w⟩:=h
 obtain ⟨j,rfl⟩:∃j:Nat,i=(j:Int):=⟨i.toNat,by omega⟩
 have hj:j < ns.length:=by omega
 exact ⟨_,ns[j],e,bX (by simp [hj]),w _ (List.getElem_mem hj)⟩
theorem uK:∀x∈([Str.ofString "all",Str.ofString "not",Str.ofString "like",Str.ofString "most",Str.ofString "any",Str.ofString "equal"]:List Str),Nm x:=by
 have h:∀x∈([Str.ofString "all",Str.ofString "not",Str.ofString "like",Str.ofString "most",Str.ofString "any",Str.ofString "equal"]:List Str),0 < x.length∧x.length≤8∧∀c∈cl x,97≤c∧c≤122:=by decide +kernel
 exact fun x m=>⟨(h x m).1,(h x m).2.1,(h x m).2.2⟩
section
variable {P:Program} {w:World} {K:PySem.W.Frag} {mg:Str→Option Value} {base:Heap}
def mJ:Sp:=fun vs H Q _=>∃(f c:Addr),vs= [.ref f]∧FeedAt H f c∧∀(r:Addr) (H':Hp),FeedAt H' f c→But f c H H'→H r=none→Names H' r→Q (.ref r) H'
noncomputable def nNm:List Str:= ["_law_feed_here","_law_letters","_law_base","_law_way","_law_at","_law_first","_law_size","_law_found","_law_k","_law_sign"]
theorem scNm:aA nNm ["_law_feed_here"] (ae fm):=⟨rfl,rfl,rfl,by decide +kernel,rfl,by decide +kernel,by decide +kernel⟩
theorem qP {f fD:Addr} {fd fdD:FuncData} (F:Fun K "_law_names" "_law_names" fm f fd) (B:Blt mg) (FD:Fun K "_law_draw" "_law_draw" de fD fdD) (bD:Binds K fdD ["_law_feed_here","_law_many"] []) (mD:mg "_law_draw"=some (.ref fD)):
 FnOk P w K mg base CX0 2 f fd ["_law_feed_here"] mJ:=by
 have GD:FnOk P w K mg base CX0 1 fD fdD ["_law_feed_here","_law_many"] cN:=dR FD B
 refine F.ok scNm (fun vs H Q E h=> ?_) (fun cdv A outer s H vs Q E hr h=> ?_)
 · obtain ⟨f,c,rfl,_⟩:=h
   rfl
 obtain ⟨f,c,rfl,hF,k⟩:=h
 refine ⟨_,aa (aq (i:=1) scNm.nd rfl (Or.inr rfl) ai)
  (aa (aq (i:=2) scNm.nd rfl (Or.inr rfl) (bZ PySem.F.plainAttrs_str PySem.F.slot_str_join PySem.F.type_str_join jt ai (a7
   (cJ (NC:= ["_law_k","_law_feed_here","_law_letters"]) (mp:= [none,some 0,some 1]) rfl (bQ rfl B.ra (a7 ad a9)) (fun _ _ _ _ _=>aL (i:=0) (show (["_law_k","_law_feed_here","_law_letters"]:List Str).Nodup by decide +kernel) rfl (Or.inl rfl)) (fun _ _ _ _ _=>d5)
    (fun _ _ _ _ _=>aB rD (pv 2) (ah GD hr rfl mD FD.kp bD .nil ar (a7 (pv 1) (a7 ad a9))) fun _ _=>rfl)) a9)))
  (aa (aq (i:=3) scNm.nd rfl (Or.inl rfl) (ah GD hr rfl mD FD.kp bD .nil ar (a7 (pv 0) (a7 ad a9))))
  (aa (aK (am aP (pv 3) ad (au _)) (ag (aj
   (cJ (NC:= ["_law_k","_law_base"]) (mp:= [none,some 2]) rfl (bQ rfl B.ra (a7 ad a9)) (fun _ _ _ _ _=>aL (i:=0) (show (["_law_k","_law_base"]:List Str).Nodup by decide +kernel) rfl (Or.inl rfl)) (fun _ _ _ _ _=>d5)
    (fun _ _ _ _ _=>c5 ff (pv 1) d6 (c4 (ao bq (pv 0) ad)))))) av)
  (aa (aK (am aP (pv 3) ad (au _)) (ag (aj (bn (a7 ai (a7 ai (a7 ai (a7 ai (a7 ai (a7 ai a9))))))))) av)
  (aa (aq (i:=4) scNm.nd rfl (Or.inl rfl) (ah GD hr rfl mD FD.kp bD .nil ar (a7 (pv 0) (a7 ad a9))))
  (aa (aq (i:=5) scNm.nd rfl (Or.inl rfl) (ah GD hr rfl mD FD.kp bD .nil ar (a7 (pv 0) (a7 ad a9))))
  (aa (aq (i:=6) scNm.nd rfl (Or.inl rfl) (aB aG (bn (a7 ad (a7 (ao bq (pv 4) ad) a9))) (ah GD hr rfl mD FD.kp bD .nil ar (a7 (pv 0) (a7 ad a9))) fun _ _=>rfl))
  (aa (aq (i:=7) scNm.nd rfl (Or.inl rfl) (bn a9))
  (aa (cD PassesOwn.never rfl (bQ rfl B.ra (a7 ad a9)) (aL (i:=8) scNm.nd rfl (Or.inl rfl))
   (aa (aq (i:=9) scNm.nd rfl (Or.inl rfl) (aB rD (pv 1) (ao c9 (ao bq (pv 5) (pv 8)) ad) fun _ _=>rfl))
   (ag (cg (bZ PySem.F.plainAttrs_list PySem.F.slot_list_append PySem.F.type_list_append bf (pv 7) (a7 (c5 ff (ao az (ao az (c5 ff (pv 2) d6 (c4 (pv 4))) (pv 9)) (c5 ff (pv 2) (c4 (pv 4)) d6)) d6 (c4 (pv 6))) a9))))))
  (ag (aj (pv 7)))))))))))),?_⟩
 have hL:(20000:Nat)≤sizeLine:=by decide +kernel
 refine ⟨rfl,?_⟩
 refine pc ?_
 refine cT rfl ?_
 refine ⟨7,rfl,by decide,by decide,fun D nD=> ?_⟩
 have nfD:=hF.ne nD
 refine d8 (n:=7) (fun i acc H'=>FeedAt H' f c∧But f c H H'∧H' D=some (.lst acc)∧∃ys:List Str,acc=ys.map V.str∧ys.length=i∧∀y∈ys,Wd 1 y)
  ⟨hF.wr nfD,(But.of_same (Same.refl H)).wr nD,ac,[],rfl,rfl,fun y m=>by cases m⟩ ?_ ?_
 · rintro i acc H' hi ⟨hF',bt,hD,ys,rfl,hy,hw⟩
   refine ⟨_,rfl,_,rfl,f,c,26,rfl,hF',by decide,br (by decide) (by decide),fun r H2 h0 h1 hF2 kp=> ?_⟩
   obtain ⟨d,ed,ld⟩:=sw h0 h1
   have hD2:H2 D=some (.lst (ys.map V.str)):=(kp D nfD.1 nfD.2).trans hD
   refine ⟨_,r,d,rfl,rfl,o3,ed,CompN.mk hi (by rw [List.length_map];omega) hD2 ⟨hF2.wr nfD,(bt.trans (But.of_keep kp)).wr nD,ac,ys++ [⟨#[d]⟩],by simp,by simp [hy],fun y m=> ?_⟩⟩
   rcases List.mem_append.mp m with m|m
   · exact hw y m
   · rw [List.mem_singleton.mp m]
     exact l7 ld
 rintro acc H1 ⟨hF1,bt1,hD,ys,rfl,hy,hw⟩
 have hb:=sy hw
 rw [hy] at hb
 have e0:(Str.ofString "").length=0:=by decide +kernel
 refine ⟨_,D,ys,rfl,rfl,SqL.of hD,by rw [jP hw,hy,e0];decide,?_⟩
 generalize Txt.join (Str.ofString "") ys=bs at hb
 refine ⟨_,rfl,f,c,5,rfl,hF1,by decide,br (by decide) (by decide),fun way H2 w0 w5 hF2 kp2=> ?_⟩
 have bt2:=bt1.trans (But.of_keep kp2)
 have hbs:bs.length≤sizeLine:=by rw [hb.1];omega
 refine ⟨_,rfl,rfl,_,rfl,?_⟩
 refine ite2 (fun _=> ?_) (fun _=> ?_)
 · refine j5 ?_
   refine cT rfl ?_
   refine ⟨6,rfl,by decide,by decide,fun D2 nD2=> ?_⟩
   have nf2:=hF2.ne nD2
   have n0:=bt2.free hF2 nD2
   refine d8 (n:=6) (fun i acc H'=>FeedAt H' f c∧But f c H H'∧H' D2=some (.lst acc)∧∃ys:List Str,acc=ys.map V.str∧ys.length=i∧∀y∈ys,Nm y)
    ⟨hF2.wr nf2,bt2.wr n0,ac,[],rfl,rfl,fun y m=>by cases m⟩ ?_ ?_
   · rintro i acc H' hi ⟨hF',bt,hD,ys,rfl,hy,hw⟩
     refine ⟨_,rfl,_,rfl,_,_,rfl,rfl,_,rfl,bs,rfl,hbs,CompN.mk hi (by rw [List.length_map];omega) hD ⟨hF'.wr nf2,bt.wr n0,ac,ys++ [Txt.slice bs none (some (0+(i:Int)+1))],by rw [List.map_append];rfl,by simp [hy],fun y m=> ?_⟩⟩
     rcases List.mem_append.mp m with m|m
     · exact hw y m
     · rw [List.mem_singleton.mp m]
       exact uj (oQ hb (by omega) (by omega)) (by omega) (by omega)
   · rintro acc H3 ⟨hF3,bt3,hD3,ys,rfl,hy,hw⟩
     exact k D2 H3 hF3 bt3 n0 ⟨ys,hD3,hy,hw⟩
 refine ⟨_,rfl,rfl,_,rfl,?_⟩
 refine ite2 (fun _=> ?_) (fun _=> ?_)
 · refine ⟨by show 6≤sizeLine;decide,fun p np=> ?_⟩
   exact k p _ (hF2.wr (hF2.ne np)) (bt2.wr (bt2.free hF2 np)) (bt2.free hF2 np) ⟨_,ac,rfl,uK⟩
 refine ⟨_,rfl,f,c,8,rfl,hF2,by decide,br (by decide) (by decide),fun at_ H3 a0 a8 hF3 kp3=> ?_⟩
 refine ⟨_,rfl,f,c,26,rfl,hF3,by decide,br (by decide) (by decide),fun fi H4 f0 f26 hF4 kp4=> ?_⟩
 have bt4:=bt2.trans ((But.of_keep kp3).trans (But.of_keep kp4))
 refine ⟨_,rfl,_,_,rfl,rfl,by show 2≤sizeLine;decide,fun p np=> ?_⟩
 have nfp:=hF4.ne np
 have n0p:=bt4.free hF4 np
 refine ⟨_,rfl,f,c,2,rfl,hF4.wr nfp,by decide,br (by decide) (by decide),fun wh H5 h0 h2 hF5 kp5=> ?_⟩
 have hp5:H5 p=some (.lst [.int 8, .int (at_+1)]):=(kp5 p nfp.1 nfp.2).trans ac
 have bt5:=(bt4.wr n0p (o:= .lst [.int 8, .int (at_+1)])).trans (But.of_keep kp5)
 obtain ⟨sz,e5,s0,s8⟩:∃sz:Int,atI [V.int 8, .int (at_+1)] wh=some (.int sz)∧0 < sz∧sz≤8:=by
  by_cases z:wh=0
  · subst z
    exact ⟨8,rfl,by decide,by decide⟩
  · have z:wh=1:=by omega
    subst z
    exact ⟨at_+1,rfl,by omega,by omega⟩
 refine ⟨p,_,wh,_,rfl,rfl,SqL.of hp5,e5,?_⟩
 refine ⟨by show 0≤sizeLine;decide,fun L nL=> ?_⟩
 have nfL:=hF5.ne nL
 have n0L:=bt5.free hF5 nL
 refine ⟨6,rfl,by decide,by decide,?_⟩
 refine cW (n:=6) (fun i σ H'=>FeedAt H' f c∧But f c H H'∧∃kk sg,∃ys:List Str,σ= [some (.ref f),some (.str abc),some (.str bs),some (.int way),some (.int at_),some (.int fi),some (.int sz),some (.ref L),kk,sg]∧H' L=some (.lst (ys.map V.str))∧ys.length=i∧∀y∈ys,Nm y)
  ⟨hF5.wr nfL,bt5.wr n0L,none,none,[],rfl,ac,rfl,fun y m=>by cases m⟩ ?_ ?_
 · rintro i σ H' hi ⟨hF',bt,kk,sg,ys,rfl,hL',hy,hw⟩
   have q0:(0:Int)≤(fi+(0+(i:Int)))%26:=Int.emod_nonneg _ (by omega)
   have q1:(fi+(0+(i:Int)))%26 < 26:=Int.emod_lt_of_pos _ (by omega)
   obtain ⟨d,ed,ld⟩:=sw q0 q1
   have w1:=oQ (j:=at_) hb a0 (by omega)
   have w2:=sC (j:=at_) hb a0 (by omega)
   have w3:=iY w1 (l7 ld)
   have w4:=iY w3 w2
   have hsz:at_.toNat+1+(7 - at_.toNat)=8:=by omega
   rw [hsz] at w4
   refine ⟨_,rfl,_,rfl,_,rfl,_,_,rfl,rfl,_,26,rfl,rfl,(by show (0:Int) < 26;decide),_,_,d,rfl,rfl,o3,ed,?_⟩
   refine ⟨_,rfl, .inl ⟨rfl,_,SqL.of hL'⟩,_,rfl,_,rfl,_,rfl,bs,rfl,hbs,_,rfl,_,_,rfl,rfl,by rw [w1.1,(l7 ld).1];omega,_,rfl,_,rfl,_,rfl,bs,rfl,hbs,_,_,rfl,rfl,by rw [w3.1,w2.1];omega,_,rfl,_,rfl,_,rfl,by rw [w4.1];omega,L,_,_,rfl,rfl,hL',by rw [List.length_map];omega,?_⟩
   refine ⟨hF'.wr nfL,bt.wr n0L,_,_,ys++ [Txt.slice (Txt.slice bs none (some at_)++(⟨#[d]⟩:Str)++Txt.slice bs (some at_) none) none (some sz)],rfl,?_,by simp [hy],fun y m=> ?_⟩
   · rw [ac,List.map_append]
     rfl
   · rcases List.mem_append.mp m with m|m
     · exact hw y m
     · rw [List.mem_singleton.mp m]
       exact uj (oQ w4 (by omega) (by omega)) (by omega) (by omega)
 · rintro σ H' ⟨hF',bt,kk,sg,ys,rfl,hL',hy,hw⟩
   exact ⟨_,rfl,k L H' hF' bt n0L ⟨ys,hL',hy,hw⟩⟩
end
end K12
namespace K12
open PySem L2 Mth Tre Wd
theorem Names.but {f c nl:Addr} {H H':Hp} (h:Names H nl) (n1:nl≠f) (n2:nl≠c) (b:But f c H H'):Names H' nl:=by
 obtain ⟨ns,e,r⟩:=h
 exact ⟨ns,b _ _ n1 n2 e,r⟩
theorem xa {r:Int} (h0:0≤r) (h4:r < 4):∃m:Nat,atI [V.int 1, .int 1, .int 2, .int 3] r=some (.int (m:Int))∧0 < m∧m≤3:=by
 have:r=0∨r=1∨r=2∨r=3:=by omega
 rcases this with rfl|rfl|rfl|rfl
 · exact ⟨1,rfl,by decide,by decide⟩
 · exact ⟨1,rfl,by decide,by decide⟩
 · exact ⟨2,rfl,by decide,by decide⟩
 · exact ⟨3,rfl,by decide,by decide⟩
section
variable {P:Program} {w:World} {K:PySem.W.Frag} {mg:Str→Option Value} {base:Heap}
def lj (n:Nat):Sp:=fun vs H Q _=>∃(f c nl:Addr) (d:Nat),vs= [.ref f, .ref nl, .int (d:Int)]∧FeedAt H f c∧Names H nl∧nl≠f∧nl≠c∧d < n∧
 ∀v t H',FeedAt H' f c→But f c H H'→TrAt H' v t→Ty .tm t→t.depth≤2*d+1→(Tw.tmC t).length≤13*4^d→Tw.Gm t→Q v H'
theorem scTe:aA ["_law_feed_here","_law_names_here","_law_deep","_law_many","_law_f"] ["_law_feed_here","_law_names_here","_law_deep"] (ae iz):=⟨rfl,rfl,rfl,by decide +kernel,rfl,by decide +kernel,by decide +kernel⟩
theorem tE {f fD:Addr} {fd fdD:FuncData} (F:Fun K "_law_term" "_law_term" iz f fd) (bF:Binds K fd ["_law_feed_here","_law_names_here","_law_deep"] []) (mF:mg "_law_term"=some (.ref f)) (B:Blt mg) (FD:Fun K "_law_draw" "_law_draw" de fD fdD) (bD:Binds K fdD ["_law_feed_here","_law_many"] []) (mD:mg "_law_draw"=some (.ref fD)):
 ∀n,FnOk P w K mg base CX0 (n+1) f fd ["_law_feed_here","_law_names_here","_law_deep"] (lj n):=by
 have GD:FnOk P w K mg base CX0 1 fD fdD ["_law_feed_here","_law_many"] cN:=dR FD B
 intro n
 induction n with
 |zero=>exact ⟨fun vs H Q E ⟨_,_,_,_,_,_,_,_,_,h,_⟩=>absurd h (by omega),fun A outer s H args us vs Q E _ _ _ _ ⟨_,_,_,_,_,_,_,_,_,h,_⟩=>absurd h (by omega)⟩
 |succ n ih=>
  refine F.ok scTe (fun vs H Q E h=> ?_) (fun cdv A outer s H vs Q E hr h=> ?_)
  · obtain ⟨f,c,nl,d,rfl,_⟩:=h
    rfl
  obtain ⟨f,c,nl,d,rfl,hF,hN,nf,nc,hd,k⟩:=h
  have hr1:Room 1 _:=hr.mono (by omega)
  refine ⟨_,aa (aK (PW.pt (eR (am aP (pv 2) ad (au _)) (df (am jZ (ah GD hr1 rfl mD FD.kp bD .nil ar (a7 (pv 0) (a7 ad a9))) ad (au _)))))
   (ag (aj (aE (a7 ai (a7 (aB aG (pv 1) (ah GD hr1 rfl mD FD.kp bD .nil ar (a7 (pv 0) (a7 ad a9))) fun _ _=>rfl) a9))))) av)
   (aa (aq (i:=3) scTe.nd rfl (Or.inl rfl) (aB aG (bn (a7 ad (a7 ad (a7 ad (a7 ad a9))))) (ah GD hr1 rfl mD FD.kp bD .nil ar (a7 (pv 0) (a7 ad a9))) fun _ _=>rfl))
   (aa (aq (i:=4) scTe.nd rfl (Or.inl rfl) (aB aG (pv 1) (ao bq ad (ah GD hr1 rfl mD FD.kp bD .nil ar (a7 (pv 0) (a7 ad a9)))) fun _ _=>rfl))
   (ag (aj (aE (a7 ai (a7 (pv 4) (a7 (aU ba rfl B.tu PyProof.Rows.boot_tuple (a7
    (cJ (NC:= ["_law_k","_law_deep","_law_feed_here","_law_names_here"]) (mp:= [none,some 2,some 0,some 1]) rfl (bQ rfl B.ra (a7 (pv 3) a9)) (fun _ _ _ _ _=>aL (i:=0) (show (["_law_k","_law_deep","_law_feed_here","_law_names_here"]:List Str).Nodup by decide +kernel) rfl (Or.inl rfl)) (fun _ _ _ _ _=>d5)
     (fun _ _ _ _ _=>ah ih hr rfl mF F.kp bF .nil ar (a7 (pv 2) (a7 (pv 3) (a7 (ao dn (pv 1) ad) a9))))) a9)) a9)))))))),?_⟩
  have hL:(20000:Nat)≤sizeLine:=by decide +kernel
  have name:∀H1,FeedAt H1 f c→But f c H H1→(tRet (tTup (bp (tC (.str "name")) (bp (tOp (rIxL K) (tVar 1) (eL cN [] E0 (bp (tVar 0) (bp (tC (.int 3)) tNil)))) tNil)))) {nx:=fun _ H'=>Q .non H',rt:=Q} [some (.ref f),some (.ref nl),some (.int (d:Int)),none,none] H1:=by
   intro H1 hF1 b1
   refine ⟨_,rfl,_,rfl,f,c,3,rfl,hF1,by decide,br (by decide) (by decide),fun r H2 h0 h3 hF2 kp2=> ?_⟩
   have b2:=b1.trans (But.of_keep kp2)
   obtain ⟨xs,x,e1,e2,wx⟩:=(hN.but nf nc b2).at h0 (by omega)
   refine ⟨nl,xs,r,_,rfl,rfl,SqL.of e1,e2,by show 2≤sizeLine;decide,fun p np=> ?_⟩
   refine k (.ref p) _ _ (hF2.wr (hF2.ne np)) (b2.wr (b2.free hF2 np)) (aQ ac (.cons aS (.cons aS .nil))) (.nm x) ?_ (Tw.name_len wx.le) (.nm x wx)
   simp only [Tr.depth,Trs.depth]
   omega
  refine ⟨_,rfl,rfl,_,rfl,?_⟩
  refine ite2 (fun _=>name H hF (But.of_same (Same.refl H))) (fun hd0=> ?_)
  have d0:d≠0:=fun z=>hd0 (by rw [z];decide)
  refine ⟨_,rfl,f,c,5,rfl,hF,by decide,br (by decide) (by decide),fun r1 H1 _ _ hF1 kp1=> ?_⟩
  have b1:But f c H H1:=But.of_keep kp1
  refine ⟨_,_,rfl,rfl,_,rfl,?_⟩
  refine ite2 (fun _=>name H1 hF1 b1) (fun _=> ?_)
  refine ⟨by show 4≤sizeLine;decide,fun p np=> ?_⟩
  have nfp:=hF1.ne np
  have n0p:=b1.free hF1 np
  refine ⟨_,rfl,f,c,4,rfl,hF1.wr nfp,by decide,br (by decide) (by decide),fun r2 H2 h0 h4 hF2 kp2=> ?_⟩
  have hp2:H2 p=some (.lst [.int 1, .int 1, .int 2, .int 3]):=(kp2 p nfp.1 nfp.2).trans ac
  have b2:=(b1.wr n0p (o:= .lst [.int 1, .int 1, .int 2, .int 3])).trans (But.of_keep kp2)
  obtain ⟨m,em,m0,m3⟩:=xa h0 h4
  refine ⟨p,_,r2,_,rfl,rfl,SqL.of hp2,em,?_⟩
  refine ⟨_,rfl,_,rfl,f,c,3,rfl,hF2,by decide,br (by decide) (by decide),fun r3 H3 g0 g3 hF3 kp3=> ?_⟩
  have b3:=b2.trans (But.of_keep kp3)
  obtain ⟨xs,g,e1,e2,wg⟩:=(hN.but nf nc b3).at (i:=2+r3) (by omega) (by omega)
  refine ⟨_,_,rfl,rfl,nl,xs,_,_,rfl,rfl,SqL.of e1,e2,?_⟩
  refine ⟨_,rfl,?_⟩
  refine pb ?_
  refine cT rfl ?_
  refine ⟨_,rfl,m,rfl,by omega,by omega,fun D nD=> ?_⟩
  have nfD:=hF3.ne nD
  have n0D:=b3.free hF3 nD
  refine d8 (n:=m) (fun i acc H'=>FeedAt H' f c∧But f c H H'∧H' D=some (.lst acc)∧∃ts:List Tr,TrsAt H' acc ts∧ts.length=i∧∀t∈ts,Ty .tm t∧t.depth≤2*(d - 1)+1∧(Tw.tmC t).length≤13*4^(d - 1)∧Tw.Gm t)
   ⟨hF3.wr nfD,b3.wr n0D,ac,[], .nil,rfl,fun y m=>by cases m⟩ ?_ ?_
  · rintro i acc H' hi ⟨hF',bt,hD,ts,hT,hl,hw⟩
    refine ⟨_,rfl,_,rfl,_,rfl,_,_,rfl,rfl,f,c,nl,d - 1,?_,hF',hN.but nf nc bt,nf,nc,by omega,fun v t H6 hF6 b6 hv wt dt lt gt=> ?_⟩
    · show [V.ref f, .ref nl, .int ((d:Int) - 1)]=_
      rw [show ((d:Int) - 1)=((d - 1:Nat):Int) by omega]
    · have hD6:H6 D=some (.lst acc):=b6 D _ nfD.1 nfD.2 hD
      have kd6:=b6.kd hF' hF6
      have tp:=Kd.upd (ys:=acc++ [v]) hD6
      have hl2:=hT.len
      refine CompN.mk hi (by omega) hD6 ⟨hF6.wr nfD,(bt.trans b6).wr n0D,ac,ts++ [t],TrsAt.app (.cons (hv.mono tp) .nil) (hT.mono (kd6.trans tp)),by simp [hl],fun u mu=> ?_⟩
      rcases List.mem_append.mp mu with mu|mu
      · exact hw u mu
      · rw [List.mem_singleton.mp mu]
        exact ⟨wt,dt,lt,gt⟩
  · rintro acc H4 ⟨hF4,b4,hD,ts,hT,hl,hw⟩
    refine ⟨D,acc,rfl, .inl ⟨SqL.of hD,fun l nl'=> ?_⟩⟩
    refine ⟨by show 3≤sizeLine;decide,fun q nq=> ?_⟩
    have s1:Same H4 (upd H4 l (.tup acc)):=af nl'
    have s2:Same (upd H4 l (.tup acc)) (upd (upd H4 l (.tup acc)) q (.tup [.str (Str.ofString "call"), .str g, .ref l])):=af nq
    refine k (.ref q) _ _ (hF4.same (s1.trans s2)) (b4.trans (But.of_same (s1.trans s2))) (aQ ac (.cons aS (.cons aS (.cons (aQ (s2 _ _ ac) (hT.mono (Kd.of_same (s1.trans s2)))) .nil)))) (.ap g ts (by omega) fun t m=>(hw t m).1) ?_ (Tw.call_len wg.le (by omega) (by omega) fun t m=>(hw t m).2.2.1) (.ap g ts wg (by omega) (by omega) fun t m=>(hw t m).2.2.2)
    have:=cX fun t m=>(hw t m).2.1
    simp only [Tr.depth,Trs.depth]
    omega
end
open PySem L2 Mth Tre Wd Su
section
variable {P:Program} {w:World} {K:PySem.W.Frag} {mg:Str→Option Value} {base:Heap}
def PsAt (H:Hp) (l:Addr) (ps:List Pq):Prop:=∃ws,H l=some (.lst ws)∧TrsAt H ws (ps.map prT)
theorem PsAt.same {H H':Hp} {l:Addr} {ps:List Pq} (h:PsAt H l ps) (s:Same H H'):PsAt H' l ps:=by
 obtain ⟨ws,h1,h2⟩:=h
 exact ⟨ws,s _ _ h1,h2.mono (Kd.of_same s)⟩
theorem PsAt.but {H H':Hp} {l f c:Addr} {ps:List Pq} (h:PsAt H l ps) (n:l≠f∧l≠c) (x:FeedAt H f c) (b:But f c H H') (y:FeedAt H' f c):PsAt H' l ps:=by
 obtain ⟨ws,h1,h2⟩:=h
 exact ⟨ws,b _ _ n.1 n.2 h1,h2.mono (b.kd x y)⟩
structure Dq (p:Pq):Prop where
 gq:Gq 30 p
 dep:p.1.depth≤5
 len:(Tw.tmC p.1).length≤1000
 gm:Tw.Gm p.1
def jd:Sp:=fun vs H Q _=>∃(f c nl:Addr) (d m:Nat),vs= [.ref f, .ref nl, .int (d:Int), .int (m:Int)]∧FeedAt H f c∧Names H nl∧nl≠f∧nl≠c∧d < 3∧m≤20∧
 ∀(l:Addr) (ps:List Pq) (H':Hp),H l=none→FeedAt H' f c→But f c H H'→PsAt H' l ps→ps.length≤m→(∀p∈ps,Dq p)→Q (.ref l) H'
theorem scPa:aA ["_law_feed_here","_law_names_here","_law_deep","_law_most","_law_found","_law_k","_law_term_here"] ["_law_feed_here","_law_names_here","_law_deep","_law_most"] (ae fk):=⟨rfl,rfl,rfl,by decide +kernel,rfl,by decide +kernel,by decide +kernel⟩
theorem qN {f fD fT fS:Addr} {fd dD dT dS:FuncData} (F:Fun K "_law_pairs" "_law_pairs" fk f fd) (B:Blt mg)
 (gD:FnOk P w K mg base CX0 1 fD dD ["_law_feed_here","_law_many"] cN) (kD:PySem.W.keepIn K (.ref fD)=true) (bD:Binds K dD ["_law_feed_here","_law_many"] []) (mD:mg "_law_draw"=some (.ref fD))
 (gT:FnOk P w K mg base CX0 4 fT dT ["_law_feed_here","_law_names_here","_law_deep"] (lj 3)) (kT:PySem.W.keepIn K (.ref fT)=true) (bT:Binds K dT ["_law_feed_here","_law_names_here","_law_deep"] []) (mT:mg "_law_term"=some (.ref fT))
 (gS:FnOk P w K mg base CX0 3 fS dS ["_law_feed_here"] pL) (kS:PySem.W.keepIn K (.ref fS)=true) (bS:Binds K dS ["_law_feed_here"] []) (mS:mg "_law_small"=some (.ref fS)):
 FnOk P w K mg base CX0 5 f fd ["_law_feed_here","_law_names_here","_law_deep","_law_most"] jd:=by
 refine F.ok scPa (fun vs H Q E h=> ?_) (fun cdv A outer s H vs Q E hr h=> ?_)
 · obtain ⟨f,c,nl,d,m,rfl,_⟩:=h
   rfl
 obtain ⟨f,c,nl,d,m,rfl,hF,hN,nf,nc,hd,hm,k⟩:=h
 have hr1:Room 1 _:=hr.mono (by decide)
 have hr3:Room 3 _:=hr.mono (by decide)
 have hu1:=rG hr
 refine ⟨_,aa (aq (i:=4) scPa.nd rfl (Or.inl rfl) (bn a9))
  (aa (cD PassesOwn.never rfl (bQ rfl B.ra (a7 (ah gD hr1 rfl mD kD bD .nil ar (a7 (pv 0) (a7 (ao bq (pv 3) ad) a9))) a9)) (aL (i:=5) scPa.nd rfl (Or.inl rfl))
   (aa (aq (i:=6) scPa.nd rfl (Or.inl rfl) (ah gT hr rfl mT kT bT .nil ar (a7 (pv 0) (a7 (pv 1) (a7 (pv 2) a9)))))
   (aa (aK (PW.pt (lD (am (qJ hu1) (pv 4) (bn a9) (au _)) (jo (am aP (ah gD hr1 rfl mD kD bD .nil ar (a7 (pv 0) (a7 ad a9))) ad (au _)))))
    (ag (aq (i:=6) scPa.nd rfl (Or.inl rfl) (aB aJ (aB aG (pv 4) ad fun _ _=>rfl) ad fun _ _=>rfl))) av)
   (ag (cg (bZ PySem.F.plainAttrs_list PySem.F.slot_list_append PySem.F.type_list_append bf (pv 4) (a7 (aE (a7 (pv 6) (a7 (ah gS hr3 rfl mS kS bS .nil ar (a7 (pv 0) a9)) a9))) a9)))))))
  (ag (aj (pv 4)))),?_⟩
 have hL:(20000:Nat)≤sizeLine:=by decide +kernel
 refine ⟨by show 0≤sizeLine;decide,fun L nL=> ?_⟩
 have s1:=af (o:= .lst []) nL
 have nLt:=hF.ne nL
 refine ⟨_,rfl,_,rfl,_,_,rfl,rfl,f,c,(m:Int)+1,rfl,hF.same s1,by omega,br (by omega) (by omega),fun r H1 r0 r1 hF1 kp1=> ?_⟩
 have b1:But f c H H1:=(But.of_same s1).trans (But.of_keep kp1)
 have hL1:H1 L=some (.lst []):=(kp1 L nLt.1 nLt.2).trans ac
 refine ⟨r,rfl,by omega,by omega,?_⟩
 obtain ⟨j,ej⟩:∃j:Nat,r.toNat=j:=⟨_,rfl⟩
 have jm:j≤m:=by omega
 rw [ej]
 refine cW (n:=j) (fun i σ H'=>FeedAt H' f c∧But f c H H'∧∃(ws:List V) (ps:List Pq) (v5 v6:Option V),σ= [some (.ref f),some (.ref nl),some (.int (d:Int)),some (.int (m:Int)),some (.ref L),v5,v6]∧H' L=some (.lst ws)∧TrsAt H' ws (ps.map prT)∧ps.length=i∧∀p∈ps,Dq p)
  ⟨hF1,b1,[],[],none,none,rfl,hL1, .nil,rfl,fun p m=>by cases m⟩ ?_ ?_
 · rintro i σ H2 hi ⟨hF2,b2,ws,ps,v5,v6,rfl,hL2,hT2,hl2,hg2⟩
   have wl:=hT2.len
   rw [List.length_map] at wl
   refine ⟨_,rfl,_,rfl,_,rfl,f,c,nl,d,rfl,hF2,hN.but nf nc b2,nf,nc,hd,fun v t H3 hF3 b3 hv ty dt lt0 gm=> ?_⟩
   have lt:(Tw.tmC t).length≤1000:=by
    have:4^d≤4^2:=Nat.pow_le_pow_right (by decide) (by omega)
    omega
   have kd3:=b3.kd hF2 hF3
   have hL3:=b3 L _ nLt.1 nLt.2 hL2
   have hT3:=hT2.mono kd3
   have b03:=b2.trans b3
   refine cV ?_
   dsimp only
   refine cH (fun σ' H'=>FeedAt H' f c∧But f c H H'∧H' L=some (.lst ws)∧TrsAt H' ws (ps.map prT)∧∃v t,σ'= [some (.ref f),some (.ref nl),some (.int (d:Int)),some (.int (m:Int)),some (.ref L),some (.int (0+(i:Int))),some v]∧TrAt H' v t∧Ty .tm t∧t.depth≤5∧(Tw.tmC t).length≤1000∧Tw.Gm t) ?_ fun nx hnx=> ?_
   rotate_left
   · refine ⟨_,rfl,by show 0≤sizeLine;decide,fun z nz=> ?_⟩
     have sz:=af (o:= .lst []) nz
     have nzt:=hF3.ne nz
     refine ⟨L,z,ws,rfl,rfl,sz _ _ hL3,ac,_,rfl,?_⟩
     have hF4:=hF3.same sz
     have b4:=b03.trans (But.of_same sz)
     have hL4:=sz _ _ hL3
     have hT4:=hT3.mono (Kd.of_same sz)
     have hv4:=hv.mono (Kd.of_same sz)
     generalize upd H3 z (.lst [])=H4 at*
     by_cases zn:ws= []
     · rw [zn]
       refine iteF ?_
       refine iteF ?_
       refine lh ?_
       exact hnx _ _ ⟨hF4,b4,hL4,hT4,v,t,rfl,hv4,ty,by omega,lt,gm⟩
     · have z':ws.isEmpty=false:=by simpa using zn
       rw [z']
       refine iteT ?_
       refine ⟨_,rfl,f,c,4,rfl,hF4,by decide,br (by decide) (by decide),fun r5 H5 _ _ hF5 kp5=> ?_⟩
       have kd5:=(But.of_keep kp5).kd hF4 hF5
       have hL5:=(kp5 L nLt.1 nLt.2).trans hL4
       have hT5:=hT4.mono kd5
       have hv5:=hv4.mono kd5
       have b5:=b4.trans (But.of_keep kp5)
       refine ⟨rfl,_,rfl,?_⟩
       refine ite2 (fun _=> ?_) (fun _=>hnx _ _ ⟨hF5,b5,hL5,hT5,v,t,rfl,hv5,ty,by omega,lt,gm⟩)
       obtain ⟨w0,wr,rfl⟩:=List.exists_cons_of_ne_nil zn
       obtain ⟨t0,et0,ht0⟩:=hT5.get' (i:=0) (v:=w0) rfl
       rw [List.getElem?_map] at et0
       obtain ⟨p0,ep0,rfl⟩:=Option.map_eq_some_iff.mp et0
       have g0:=hg2 p0 (List.mem_of_getElem? ep0)
       obtain ⟨r0',x0,y0,rfl,hr0,hx0,hy0⟩:=cy ht0
       refine ⟨_,rfl,L,_,0, .ref r0',rfl,rfl,SqL.of hL5,bX (j:=0) rfl,r0',_,0,x0,rfl,rfl,SqT.of hr0,rfl,?_⟩
       exact hnx _ _ ⟨hF5,b5,hL5,hT5,x0,p0.1,rfl,hx0,g0.gq.ty,g0.dep,g0.len,g0.gm⟩
   rintro σ' H4 ⟨hF4,b4,hL4,hT4,v,t,rfl,hv4,ty,dt,lt,gm⟩
   refine ⟨_,rfl, .inl ⟨rfl,_,SqL.of hL4⟩,_,rfl,_,rfl,f,c,rfl,hF4,fun y H5 q hF5 b5 hy gq sq=> ?_⟩
   have kd5:=b5.kd hF4 hF5
   have hL5:=b5 L _ nLt.1 nLt.2 hL4
   refine ⟨by show 2≤sizeLine;decide,fun p np=> ?_⟩
   have sp:=af (o:= .tup [v,y]) np
   have hL6:=sp _ _ hL5
   refine ⟨L,ws,_,rfl,rfl,hL6,by omega,?_⟩
   have kd6:=(Kd.of_same sp).trans (Kd.upd (ys:=ws++ [.ref p]) hL6)
   have nLp:p≠L:=fun z=>by rw [z,hL5] at np;cases np
   have bb:=b4.trans (b5.trans (But.of_same sp))
   refine ⟨(hF5.same sp).wr nLt,bb.wr nL,ws++ [.ref p],ps++ [(t,q)],_,_,rfl,ac,?_,by simp [hl2],fun u mu=> ?_⟩
   · rw [List.map_append]
     exact TrsAt.app (.cons (cM ((ak nLp).trans ac) (hv4.mono (kd5.trans kd6)) (hy.mono kd6)) .nil) (hT4.mono (kd5.trans kd6))
   · rcases List.mem_append.mp mu with mu|mu
     · exact hg2 u mu
     · rw [List.mem_singleton.mp mu]
       exact ⟨⟨ty,by dsimp only;omega,gq,sq⟩,dt,lt,gm⟩
 · rintro σ H2 ⟨hF2,b2,ws,ps,v5,v6,rfl,hL2,hT2,hl2,hg2⟩
   exact ⟨_,rfl,k L ps H2 nL hF2 b2 ⟨ws,hL2,hT2⟩ (by omega) hg2⟩
end
end K12
namespace Dj
open PySem PySem.Spec PySem.W PyProof.Rows L2 Tre
def RawD (h:Heap) (d:Addr) (es:Array DictEntry) (ep:Nat):Prop:=∃o,h.get? d=some o∧o.ExactDict∧o.data= .dict es ep
theorem RawD.kp {h h':Heap} {d:Addr} {es:Array DictEntry} {ep:Nat} (x:RawD h d es ep) (e:∀o,h.get? d=some o→h'.get? d=some o):RawD h' d es ep:=by
 obtain ⟨o,h1,h2⟩:=x
 exact ⟨o,e o h1,h2⟩
theorem RawD.lt {h:Heap} {d:Addr} {es:Array DictEntry} {ep:Nat} (x:RawD h d es ep):d < h.objs.size:=by
 obtain ⟨o,h1,_⟩:=x
 exact Heap.lt_size h1
section
variable {prog:Program} {w:World} {A:Around} {E:Value→Shared→Prop} {s:Shared} {d it:Addr} {es:Array DictEntry} {ep:Nat}
theorem RawD.ty (x:RawD s.heap d es ep):s.TypeIs (.ref d) "dict":=by
 obtain ⟨o,h1,h2,_⟩:=x
 exact ⟨o,h1,h2.1⟩
theorem qk {Q:Value→Shared→Prop} (hd:(d==sysModules)=false) (hm:RawD s.heap d es ep)
 (hQ:Q (.ref s.heap.objs.size) {s with heap:=s.heap.push {cls:= .type "dict_keyiterator",data:= .fields #[.ref d, .int 0 0, .int es.size 0, .int ep 0]}}):wpAny (model prog w) A (pyIter (.ref d)) Q E s:=by
 have hT:=hm.ty
 obtain ⟨o,ho,hc,hdat⟩:=hm
 refine wpAny_pyIter_slot hT F.slot_dict_iter (wpAny_call_entry F.slot_dict_iter hT F.entry_dict_iter (A:=A) ?_ (F.args_dict_iter_1 _))
 unfold Builtin.«dict.__iter__»;refine wpAny_bind ?_;unfold Builtin.Dict.dictSlotNone;refine wpAny_bind (wpAny_notOrdered_dict hT ?_)
 show wpAny _ _ (pure (Value.ref d)) _ _ s;refine wpAny_pure ?_;show wpAny _ _ (Builtin.Dict.showsAll d >>=_) _ _ s
 unfold Builtin.Dict.showsAll;rw [if_neg (by rw [hd];exact Bool.false_ne_true)];refine wpAny_bind (wpAny_pure ?_)
 refine wpAny_bind (wpAny_dictEntries ho hdat (wpAny_bind (wpAny_dictEpoch ho hdat ?_)))
 refine wpAny_bind (wpAny_newObj_type (wpAny_pure ⟨_,rfl,"dict_keyiterator",_,⟨_,Heap.get?_push_size _ rfl,rfl⟩,F.slot_dict_keyiterator_next.lookup,by simpa [rawInt] using hQ⟩))
theorem qj {i:Nat} {Q:Option Value→Shared→Prop} (hit:s.heap.IsKeyIter it d i es.size ep) (hm:RawD s.heap d es ep) (hi:i < es.size)
 (hQ:∀h',h'.IsKeyIter it d (i+1) es.size ep→Heap.SameBut it s.heap h'→Q (some es[i].key) {s with heap:=h'}):wpAny (model prog w) A (pyNext (.ref it)) Q E s:=by
 obtain ⟨o,ho,hc,hd⟩:=id hit;obtain ⟨od,hod,hcd,hdd⟩:=id hm;have hown:Builtin.Dict_items.ownsTuple "dict_keyiterator"=false:=by decide
 unfold pyNext;refine wpAny_bind (wpAny_attempt (wpAny_callSpecial?_slot (name:=Str.ofString "__next__") hit.typeIs F.slot_dict_keyiterator_next (wpAny_call_entry F.slot_dict_keyiterator_next hit.typeIs F.entry_dict_keyiterator_next ?_ (F.args_dict_keyiterator_next_1 _))))
 refine wpAny_bind (wpAny_pure (wpAny_bind (wpAny_bind ?_)))
 first|refine wpAny_bind (wpAny_typeNameOfWhole_keyiter hit.typeIs (wpAny_pure (wpAny_bind (wpAny_fieldsOf ho hd ?_))))|refine wpAny_bind (wpAny_typeNameOf_keyiter hit.typeIs (wpAny_pure (wpAny_bind (wpAny_fieldsOf ho hd ?_))))
 simp only [hown,Bool.false_eq_true,if_false];show wpAny _ _ (if (Value.ref d==Value.none)=true then _ else _) _ _ s
 rw [if_neg (show¬((Value.ref d==Value.none)=true) from Bool.false_ne_true)];refine wpAny_bind (wpAny_pure (wpAny_bind (wpAny_dictEntries hod hdd ?_)))
 rw [if_neg (by simp)];refine wpAny_bind (wpAny_pure (wpAny_bind (wpAny_dictEpoch hod hdd ?_)));rw [if_neg (by simp)];refine wpAny_pure ?_
 simp only [show¬((i:Int) < 0) from by omega,if_false,Int.toNat_natCast,Array.getElem?_eq_getElem hi];refine wpAny_bind ?_
 first|refine wpAny_bind (wpAny_typeNameOfWhole_keyiter hit.typeIs (wpAny_pure (wpAny_bind (wpAny_isOneOf_keyiter hit.typeIs ?_))))|refine wpAny_bind (wpAny_typeNameOf_keyiter hit.typeIs (wpAny_pure (wpAny_bind (wpAny_isOneOf_keyiter hit.typeIs ?_))))
 show wpAny _ _ (setField (.ref it) 1 (rawInt ((i:Int)+1)) >>=_) _ _ s;refine wpAny_bind (wpAny_setField ho hd (by simp) ?_)
 have hit':(s.heap.update it (Obj.mapFields (·.setIfInBounds 1 (rawInt ((i:Int)+1))))).IsKeyIter it d (i+1) es.size ep:=⟨_,Heap.get?_update_self _ ho (Obj.isFreed_of_fields (Obj.data_mapFields hd _)),(Obj.cls_mapFields ..).trans hc,by rw [Obj.data_mapFields hd];simp [rawInt]⟩
 refine wpAny_bind (wpAny_holding (wpAny_bind (wpAny_isOneOf_keyiter (s:= {s with heap:=s.heap.update it (Obj.mapFields (·.setIfInBounds 1 (rawInt ((i:Int)+1))))}) hit'.typeIs ?_)))
 show wpAny _ _ (pure es[i].key) _ _ _;exact wpAny_pure (wpAny_pure ⟨_,rfl,wpAny_pure (hQ _ hit' (Heap.SameBut.update ..))⟩)
theorem sQ {i:Nat} {Q:Option Value→Shared→Prop} (hh:A.handled=none) (hit:s.heap.IsKeyIter it d i es.size ep) (hm:RawD s.heap d es ep) (hi:es.size≤i)
 (hQ:∀h',Heap.ExtBut it s.heap h'→Q none {s with heap:=h'}):wpAny (model prog w) A (pyNext (.ref it)) Q E s:=by
 obtain ⟨o,ho,hc,hd⟩:=id hit;obtain ⟨od,hod,hcd,hdd⟩:=id hm;have hown:Builtin.Dict_items.ownsTuple "dict_keyiterator"=false:=by decide
 unfold pyNext;refine wpAny_bind (wpAny_attempt (wpAny_callSpecial?_slot (name:=Str.ofString "__next__") hit.typeIs F.slot_dict_keyiterator_next (wpAny_call_entry F.slot_dict_keyiterator_next hit.typeIs F.entry_dict_keyiterator_next ?_ (F.args_dict_keyiterator_next_1 _))))
 refine wpAny_bind (wpAny_pure (wpAny_bind (wpAny_bind ?_)))
 first|refine wpAny_bind (wpAny_typeNameOfWhole_keyiter hit.typeIs (wpAny_pure (wpAny_bind (wpAny_fieldsOf ho hd ?_))))|refine wpAny_bind (wpAny_typeNameOf_keyiter hit.typeIs (wpAny_pure (wpAny_bind (wpAny_fieldsOf ho hd ?_))))
 simp only [hown,Bool.false_eq_true,if_false];show wpAny _ _ (if (Value.ref d==Value.none)=true then _ else _) _ _ s
 rw [if_neg (show¬((Value.ref d==Value.none)=true) from Bool.false_ne_true)];refine wpAny_bind (wpAny_pure (wpAny_bind (wpAny_dictEntries hod hdd ?_)))
 rw [if_neg (by simp)];refine wpAny_bind (wpAny_pure (wpAny_bind (wpAny_dictEpoch hod hdd ?_)));rw [if_neg (by simp)];refine wpAny_pure ?_
 simp only [show¬((i:Int) < 0) from by omega,if_false,Int.toNat_natCast,Array.getElem?_eq_none hi];refine wpAny_bind ?_
 first|refine wpAny_bind (wpAny_typeNameOfWhole_keyiter hit.typeIs (wpAny_pure ?_))|refine wpAny_bind (wpAny_typeNameOf_keyiter hit.typeIs (wpAny_pure (A:=A.in1) ?_))
 show wpAny _ _ (setField (.ref it) 0 .none >>=_) _ _ s;refine wpAny_bind (wpAny_setField ho hd (by simp) ?_)
 show wpAny _ _ (newExc (.type "StopIteration") [] >>=_) _ _ _;refine wpAny_bind ?_;simp only [newExc,newTuple]
 refine wpAny_bind (wpAny_newObj_type (wpAny_bind (m:=firstArgMember _ _) (wpAny_of_eq (a:=Value.none) (by first|rfl|(simp only [firstArgMember];rfl)) (wpAny_newObj_type ?_ (by size_fits)))) (by size_fits))
 simp only [raiseNew];refine wpAny_bind (wpAny_handled ?_);rw [show A.in1.handled=none from hh]
 refine wpAny_bind (wpAny_pure (wpAny_throw ?_));refine wpAny_bind (wpAny_isInstance (T:="StopIteration") (b:=true) ⟨_,Heap.get?_push_size _ rfl,rfl⟩ isSubtype_stop ?_);exact wpAny_pure (hQ _ (((Heap.SameBut.update ..).extBut.push _).push _))
theorem on (hh:A.handled=none) (I:Addr) (hne:d≠I):Walks prog w A I [I,d] [I] es.size (fun i v=>∃e,es[i]?=some e∧v=e.key) (fun i h=>h.IsKeyIter I d i es.size ep∧RawD h d es ep) where
 sub:=fun b hb=>by simp at hb;simp [hb]
 frame:=fun _ _ _ st hk=>⟨st.1.at fun o e=>hk I (by simp) o e,st.2.kp fun o e=>hk d (by simp) o e⟩
 item:=fun i s Q E hi st hQ=>by
  refine qj st.1 st.2 hi fun h' hit' hs'=> ?_
  exact hQ _ h' s.toks ⟨es[i],by simp [hi],rfl⟩ ⟨hit',st.2.kp fun o e=>hs'.extBut d o hne e⟩ fun b o hb e=>hs'.extBut b o (fun h=>hb (by simp [h])) e
 done:=fun s Q E st hQ=>sQ hh st.1 st.2 (Nat.le_refl _) fun h' he'=>hQ h' s.toks fun b o hb e=>he' b o (fun h=>hb (by simp [h])) e
 self:=fun _ _ _ _ st hQ=>wpAny_pyIter_keyiter st.1 hQ
theorem sP (lo:(d==sysModules)=false):KdlSrc prog w "dict" d d es.size (fun i v=>∃e,es[i]?=some e∧v=e.key) (fun h=>RawD h d es ep) where
 type:=fun _ hm=>hm.ty
 there:=fun _ hm=>⟨hm.lt,hm.lt⟩
 keep:=fun _ _ hm hk=>hm.kp fun o e=>hk d (.inl rfl) o e
 notList:=by decide
 notTuple:=by decide
 hint:=fun _ _ _ _ hm hq=>kdl_hint_dict hm.ty hq
 iter:=fun _ _ hh hm=>⟨_,_,(fun _ _ hq=>qk lo hm hq),on hh _ (Nat.ne_of_lt hm.lt),⟨⟨_,Heap.get?_push_size _ rfl,rfl,rfl⟩,hm.kp fun o e=>Heap.get?_push_of_some _ e⟩⟩
end
open PySem PySem.Spec PySem.W PyProof.Rows L2 Tre Srt
section
variable {prog:Program} {w:World} {A:Around} {E:Value→Shared→Prop} {s:Shared} {T:String} {r d:Addr} {n:Nat} {P:Nat→Value→Prop} {OK:Heap→Prop}
theorem kK {Q:List Value→Shared→Prop} (K:KdlSrc prog w T r d n P OK) (hh:A.handled=none) (hok:OK s.heap) (hn:n≤sizeLine)
 (hQ:∀h' tk (acc:Array Value),(∀b o,s.heap.get? b=some o→h'.get? b=some o)→s.heap.objs.size < h'.objs.size→ItemsOf P acc n→Q acc.toList {s with heap:=h',toks:=tk}):wpAny (model prog w) A (collect (.ref r)) Q E s:=by
 have hlt:=K.there _ hok
 unfold collect
 refine wpAny_bind (wpAny_runValue (codeAny_builtin PySem.F.entry_proto_collect ?_))
 rw [Around.under_plainId PySem.F.plain_proto_collect _]
 show wpAny _ A.in1 (newList [] >>=fun l=>again (.builtin "list.__iadd__" ⟨[l, .ref r],[]⟩)) _ _ s
 refine wpAny_bind (wpAny_newObj_type (wpAny_pure ⟨plainId_quiet PySem.F.plain_list_iadd _,codeAny_builtin PySem.F.entry_list_iadd ?_⟩))
 rw [Around.under_plainId PySem.F.plain_list_iadd _]
 have hS:(s.heap.push {cls:= .type "list",data:= .seq ([]:List Value).toArray}).get? s.heap.objs.size=some {cls:= .type "list",data:= .seq ([]:List Value).toArray}:=Heap.get?_push_size _ rfl
 show wpAny _ A.in1 (Builtin.List.listExtendWith (.ref s.heap.objs.size) (.ref r) (.ref s.heap.objs.size)) _ _ _
 refine kdl_extend (R:=fun r' s'=>match r' with
  | .ok (.ret v)=>wpAny (model prog w) A (match v with
   | .ref a=>do match (←load a).data with
    | .seq xs _=>pure xs.toList
    |_=>unsupported "internal:collect"
   |_=>unsupported "internal:collect") Q E s'
  | .ok _=>False
  | .error e=>E e s') (s:= {s with heap:=s.heap.push {cls:= .type "list",data:= .seq ([]:List Value).toArray}}) K hh (K.keep _ _ hok fun b _ o e=>Heap.get?_push_of_some _ e) _ (Nat.ne_of_gt hlt.1) (Nat.ne_of_gt hlt.2) _ _ hS (fun h' tk acc' c' hk hS' hacc=> ?_) hn
 show wpAny _ A (load s.heap.objs.size >>=_) _ _ _
 refine wpAny_bind (wpAny_load hS' (wpAny_pure (hQ h' tk acc' (fun b o e=>hk b o (Nat.ne_of_lt (Heap.lt_size e)) (Heap.get?_push_of_some _ e)) (Heap.lt_size hS') hacc)))
end
section
variable {prog:Program} {w:World} {A:Around} {E:Value→Shared→Prop} {s:Shared} {lt:Nat→Nat→Bool} {κ:SortKind}
theorem oj {l:Addr} {vs:List Value} {Q:Value→Shared→Prop} (O:Ord lt) (h64:vs.length < 64)
 (hcol:∀Q':List Value→Shared→Prop,(∀h' tk,(∀b o,s.heap.get? b=some o→h'.get? b=some o)→s.heap.objs.size < h'.objs.size→Q' vs {s with heap:=h',toks:=tk})→wpAny (model prog w) A.in1 (collect (.ref l)) Q' E s)
 (hkind:2≤vs.length→∀h' tk,(∀b o,s.heap.get? b=some o→h'.get? b=some o)→∀(E':Value→Shared→Prop) (R:SortKind→Shared→Prop),R κ {s with heap:=h',toks:=tk}→wpAny (model prog w) A.in1.in1 (keyKind' vs.toArray) R E' {s with heap:=h',toks:=tk})
 (hask:∀h' tk,(∀b o,s.heap.get? b=some o→h'.get? b=some o)→∀i j (R:Bool→Shared→Prop),i < vs.length→j < vs.length→R (lt i j) {s with heap:=h',toks:=tk}→kas_ask prog w A.in1.in1 κ vs i j R {s with heap:=h',toks:=tk})
 (h:∀p:Array Nat,Pm vs.length p→Up lt p vs.length→∀h' tk D e,(∀b o,s.heap.get? b=some o→h'.get? b=some o)→s.heap.objs.size≤D→h'.get? D=some (seqObj "list" (List.toArray (p.toList.map fun i=>vs.getD i Value.none)) e)→Q (.ref D) {s with heap:=h',toks:=tk}):
 wpAny (model prog w) A (call (.builtin "sorted") [.ref l]) Q E s:=by
 refine Calls.call_function_entry kind_sorted plain_sorted entry_sorted (args_sorted1 _) ?_
 unfold Builtin.«sorted»
 refine wpAny_bind (m:=checkCount "sorted" 1 1 _) (wpAny_pure (wpAny_bind (hcol _ fun h1 tk k1 sz=> ?_)))
 refine wpAny_bind (wpAny_newList (s:= {s with heap:=h1,toks:=tk}) ?_ (by rw [sizeLine_eq];omega))
 have hoL:(h1.push (seqObj "list" vs.toArray 0)).get? h1.objs.size=some (seqObj "list" vs.toArray 0):=Heap.get?_push_size _ rfl
 have keep:∀b o,s.heap.get? b=some o→(h1.push (seqObj "list" vs.toArray 0)).get? b=some o∧b≠h1.objs.size:=fun b o q=>⟨Heap.get?_push_of_some _ (k1 b o q),Nat.ne_of_lt (Heap.lt_size (k1 b o q))⟩
 show wpAny _ _ _ _ _ {s with heap:=h1.push (seqObj "list" vs.toArray 0),toks:=tk}
 refine wpAny_bind (wpAny_holding (wpAny_call_entry slot_list_sort ⟨_,hoL,rfl⟩ entry_list_sort (e9 (s:= {s with heap:=h1.push (seqObj "list" vs.toArray 0),toks:=tk}) (lt:=lt) (κ:=κ) O hoL h64 (fun h2 h' st R hR=>hkind h2 h' tk (fun b o e=>st b o (keep b o e).2 (keep b o e).1) _ R hR)
  (fun h' st i j R hi hj hR=>hask h' tk (fun b o e=>st b o (keep b o e).2 (keep b o e).1) i j R hi hj hR) fun p a1 a2=>⟨_,rfl,?_⟩) (args_list_sort _)))
 obtain ⟨e,he⟩:=sortedHeap_at (out:=List.toArray (p.toList.map fun i=>vs.getD i Value.none)) hoL
 refine wpAny_pure ⟨_,rfl,h p a1 a2 _ tk _ e (fun b o q=> ?_) (Nat.le_of_lt sz) he⟩
 rw [sortedHeap_old (keep b o q).2 (Heap.lt_size (keep b o q).1)]
 exact (keep b o q).1
end
theorem nF {prog:Program} {w:World} {A:Around} {s:Shared} {fin:Bool} {Q:Bool→Shared→Prop}:∀ {as bs:List Value} {q:List (Bool×Bool)} {i:Nat},0 < i→cp A s as bs q→Q (lexV fin q) s→KatLex prog w A true fin Q (as.zip bs) i s
 | [],_,q,i,_,h,hq=>by
  unfold cp at h
  subst h
  rw [List.zip_nil_left]
  exact kat_nil hq
 |_::_,[],q,i,_,h,hq=>by
  unfold cp at h
  subst h
  rw [List.zip_nil_right]
  exact kat_nil hq
 |a::as,b::bs,[],i,_,h,hq=>h.elim
 |a::as,b::bs,(e,l)::q,i,h0,h,hq=>by
  obtain ⟨h1,h2,h3⟩:=h
  rw [List.zip_cons_cons]
  refine kat_cons (h1 prog w _ _ ?_)
  cases e with
  |true=>exact kat_yes (nF (by omega) (h3 rfl) hq)
  |false=>
   refine kat_no ?_
   have e0:(true&&i==0)=false:=by
    cases i with
    |zero=>omega
    |succ i=>rfl
   rw [e0]
   exact kat_one a b (h2 rfl prog w _ _ hq)
theorem tS {prog:Program} {w:World} {A:Around} {s:Shared} {fin:Bool} {Q:Bool→Shared→Prop} {x y:Str} {t u:Tok} {as bs:List Value} {q:List (Bool×Bool)} (h:cp A s as bs q)
 (hq:Q (lexV fin ((x==y,decide (x.cps.toList < y.cps.toList))::q)) s):KatLex prog w A true fin Q ((Value.str x t::as).zip (Value.str y u::bs)) 0 s:=by
 rw [List.zip_cons_cons]
 refine kat_cons (SeqAt.EqAt.str_str x t y u prog w _ _ ?_)
 cases e:(x==y) with
 |true=>
  rw [e] at hq
  exact kat_yes (nF (by decide) h hq)
 |false=>
  rw [e] at hq
  refine kat_no ?_
  exact oneLt_str hq
def Hs (t:Tr):Prop:=∃x r,t= .tup (.str x::r)
section
variable {X:Cx} {pins:List (Addr×Obj)} {σ:L2.St} {H:Hp} {s:Shared}
theorem nG (I:Inv X pins σ H s):∀ {vs:List V} {ts:List Tr} {as:List Value},TrsAt H vs ts→Vals vs as→(∀t∈ts,Hs t)→∃fs,KatTups s.heap as fs∧fs.length=as.length∧∀v∈fs,∃(x:Str) (t:Tok),v= .str x t
 |vs,[],as,h,r,_=>by
  unfold TrsAt at h
  subst h
  cases r
  exact ⟨[], .nil,rfl,fun v m=>by cases m⟩
 |vs,t::ts,as,h,r,hh=>by
  obtain ⟨v,vr,rfl,h1,h2⟩:=h.inv
  cases r with
  |cons r1 r2=>
   obtain ⟨fs,f1,f2,f3⟩:=nG I h2 r2 fun u m=>hh u (List.mem_cons_of_mem _ m)
   obtain ⟨x,rr,rfl⟩:=hh t List.mem_cons_self
   unfold TrAt at h1
   obtain ⟨a,ws,rfl,g,k⟩:=h1
   cases r1
   obtain ⟨y,yr,rfl,k1,k2⟩:=k.inv
   unfold TrAt at k1
   subst k1
   obtain ⟨bs,o,n,q1,ho,hc,hd⟩:=d4 I g
   cases q1 with
   |cons q1 q2=>
    obtain ⟨tk,rfl⟩:=q1
    refine ⟨_,KatTups.cons ho hc hd rfl f1,by simp [f2],fun v m=> ?_⟩
    rcases List.mem_cons.mp m with e|m
    · exact ⟨x,tk,e⟩
    · exact f3 v m
def jW (P:Program) (w:World) (K:PySem.W.Frag):List V→Hp→VK→Prop:=fun xs H Q=>∃(a:Addr) (kvs:List Ent) (ts:List Tr),xs= [.ref a]∧DJ P w K H a kvs∧TrsAt H (kvs.map fun e=>V.ref e.2.1) ts∧ts.length < 64∧(∀t∈ts,Hs t∧t.pure∧t.depth≤40)∧(∀t∈ts,∀u∈ts,Cm t u)∧
 ∀(D:Addr) (ws:List V) (us:List Tr),H D=none→us.Perm ts→TrsAt H ws us→(∀(i j:Nat) (t u:Tr),i≤j→us[i]?=some t→us[j]?=some u→ltT u t=false)→Q (.ref D) (upd H D (.lst ws))
theorem sO {kvs:List Ent} {xs:List (List Tk.KT×Addr×Value)} (r:RE kvs xs):(kvs.map fun e=>V.ref e.2.1)=xs.map fun x=>V.ref x.2.1:=by
 induction r with
 |nil=>rfl
 |cons h _ ih=>rw [List.map_cons,List.map_cons,ih,h.2.1]
theorem o7 (xs:List (List Tk.KT×Addr×Value)):Vals (xs.map fun x=>V.ref x.2.1) (xs.map fun x=>Value.ref x.2.1):=by
 induction xs with
 |nil=>exact .nil
 |cons x r ih=>exact .cons rfl ih
theorem jF (hc:X.calm=true) (hu:X.A.units+60 < cLine):cG X (.builtin "sorted") (jW X.prog X.w X.K):=by
 intro pins s σ H xs us Q I r h
 obtain ⟨a,kvs,ts,rfl,dj,hT,hlen,hts,hcm,q⟩:=h
 obtain ⟨u,rfl,ru⟩:=e7 r
 cases ru
 obtain ⟨z,hd,ws,rel,dd⟩:=kH I.hok I.kIn dj
 obtain ⟨o,es,ep,ho,hx,hdat,hes,_⟩:=dd
 rw [sO rel] at hT
 obtain ⟨as,eas⟩:∃as,as=ws.map fun x=>Value.ref x.2.1:=⟨_,rfl⟩
 obtain ⟨vs,evs⟩:∃vs,vs=ws.map fun x=>V.ref x.2.1:=⟨_,rfl⟩
 have rv:Vals vs as:=by rw [eas,evs];exact o7 ws
 rw [←evs] at hT
 have l1:=hT.len
 have l2:=rv.length
 have wl:ws.length=vs.length:=by rw [evs,List.length_map]
 have esz:es.size=as.length:=by rw [←Array.length_toList,hes,List.length_map,eas,List.length_map]
 have O:Srt.Ord fun i j=>ltT (ts.getD i .non) (ts.getD j .non):=⟨fun a b h=>eX h,fun a b c h1 h2=>rj h1 h2⟩
 have at_:∀i,i < as.length→∃t v a,ts.getD i .non=t∧t∈ts∧TrAt H v t∧RelV v a∧as.getD i Value.none=a:=fun i hi=>by
  have hi':i < ts.length:=by omega
  obtain ⟨v,e1,e2⟩:=hT.get (i:=i) (t:=ts[i]) (List.getElem?_eq_getElem hi')
  obtain ⟨a,e3,e4⟩:=rv.get e1
  exact ⟨ts[i],v,a,by rw [List.getD_eq_getElem?_getD,List.getElem?_eq_getElem hi'];rfl,List.getElem_mem hi',e2,e4,by rw [List.getD_eq_getElem?_getD,e3];rfl⟩
 refine oj (κ:=tuples' true) (vs:=as) O (by omega) (fun Q' hQ'=> ?_) (fun h2 h' tk kp E' R hR=> ?_) (fun h' tk kp i j R hi hj hR=> ?_) fun p hp hup h' tk D e kp sz he=> ?_
 · have h64:(64:Nat)≤sizeLine:=by decide +kernel
   refine kK (A:=X.A.in1) (sP (es:=es) (ep:=ep) hd) (I.ok.hd hc) ⟨o,ho,hx,hdat⟩ (by omega) fun h' tk acc k1 sz hacc=> ?_
   have e:acc.toList=as:=by
    refine List.ext_getElem? fun j=> ?_
    by_cases hj:j < es.size
    · have hj':j < acc.size:=by rw [hacc.1];exact hj
      obtain ⟨en,e1,e2⟩:=hacc.2 j acc[j] (by simp [hj'])
      have e3:es.toList[j]?=some en:=by rw [Array.getElem?_toList];exact e1
      rw [hes,List.getElem?_map] at e3
      obtain ⟨x,ex,rfl⟩:=Option.map_eq_some_iff.mp e3
      rw [eas,List.getElem?_map,ex,Array.getElem?_toList,Array.getElem?_eq_getElem hj',e2]
      rfl
    · rw [List.getElem?_eq_none (by rw [Array.length_toList,hacc.1];omega),List.getElem?_eq_none (by omega)]
   rw [e]
   exact hQ' h' tk k1 sz
 · have I':Inv X pins σ H {s with heap:=h',toks:=tk}:=I.kept (t':=tk) kp
   obtain ⟨fs,k1,k2,k3⟩:=nG I' hT rv fun t m=>(hts t m).1
   refine kat_kind (T:=Value.type "str") k1 (by omega) (fun v m=> ?_) (by decide +kernel) ?_
   · obtain ⟨x,t,rfl⟩:=k3 v m
     exact .now
   · rw [show (Value.type "str" !=Value.type "tuple")=true by decide +kernel]
     exact hR
 · have I':Inv X pins σ H {s with heap:=h',toks:=tk}:=I.kept (t':=tk) kp
   obtain ⟨t,v,a,et,mt,ht,ra,ea⟩:=at_ i hi
   obtain ⟨u,v',b,eu,mu,hu',rb,eb⟩:=at_ j hj
   have hc':=hcm t mt u mu
   obtain ⟨⟨x1,r1,rfl⟩,p1,d1⟩:=hts t mt
   obtain ⟨⟨x2,r2,rfl⟩,p2,d2⟩:=hts u mu
   unfold TrAt at ht hu'
   obtain ⟨x0,vs0,rfl,g0,g1⟩:=ht
   obtain ⟨y0,ws0,rfl,g2,g3⟩:=hu'
   cases ra
   cases rb
   obtain ⟨as0,o,n,q3,ho,hcl,hd'⟩:=d4 I' g0
   obtain ⟨bs0,o',n',q4,ho',hcl',hd2⟩:=d4 I' g2
   have z0:=g1.len
   have z1:=g3.len
   have z2:=q3.length
   have z3:=q4.length
   obtain ⟨y1,yr1,rfl,w1,w2⟩:=g1.inv
   obtain ⟨y2,yr2,rfl,w3,w4⟩:=g3.inv
   unfold TrAt at w1 w3
   subst w1 w3
   cases q3 with
   |cons q3 q3'=>
    cases q4 with
    |cons q4 q4'=>
     obtain ⟨tk1,rfl⟩:=q3
     obtain ⟨tk2,rfl⟩:=q4
     unfold Tr.depth at d1
     unfold Trs.depth at d1
     unfold Tr.pure at p1
     unfold Trs.pure at p1
     unfold kas_ask
     rw [ea,eb]
     refine kat_lt (b:=true) ho hd' ho' hd2 ?_
     rw [List.toList_toArray,List.toList_toArray]
     have hu1:X.A.in1.in1.units+40+1 < cLine:=by show X.A.units+1+1+40+1 < cLine;omega
     have e:∀q,lexV (decide ((Value.str x1 tk1::_).toArray.size < (Value.str x2 tk2::_).toArray.size)) ((x1==x2,decide (x1.cps.toList < x2.cps.toList))::q)=lexV (decide ((Tr.str x1::r1).length < (Tr.str x2::r2).length)) ((x1==x2,decide (x1.cps.toList < x2.cps.toList))::q):=fun q=>by
      rw [List.size_toArray,List.size_toArray,←z2,←z3,z0,z1]
     by_cases ex:(x1==x2)=true
     · unfold Cm at hc'
       unfold Cms at hc'
       have hc2:Cms r1 r2:=by
        rcases hc' with ⟨_,c⟩|⟨n,_⟩
        · exact c
        · unfold Tre.eqT at n
          rw [ex] at n
          cases n
       have hx':=jx (A:=X.A.in1.in1) I' hu1 (fun d pp cc a1 a2 b1 b2=>mi I' 40 d pp cc a1 a2 b1 b2 hu1) (by omega) (.inl p1.2) hc2 w2 w4 q3' q4'
       refine tS hx' ?_
       rw [e]
       have e2:lexV (decide ((Tr.str x1::r1).length < (Tr.str x2::r2).length)) ((x1==x2,decide (x1.cps.toList < x2.cps.toList))::qs r1 r2)=ltT (ts.getD i .non) (ts.getD j .non):=by
        rw [et,eu]
        refine bO ?_
        rw [ltT_iff]
        have el:decide ((Tr.str x1::r1).length < (Tr.str x2::r2).length)=decide (r1.length < r2.length):=by simp
        have e4:=(ja x1 x2).mp ex
        simp only [lexV,ex,if_true,el,gk,Tre.code,Tre.codes,LtC,LtCs,e4]
        constructor
        · intro h;exact .inr ⟨trivial,h⟩
        · rintro (h|h)
          · exact absurd h (List.lt_irrefl _)
          · exact h.2
       rw [e2]
       exact hR
     · have exf:(x1==x2)=false:=by simpa using ex
       rw [List.zip_cons_cons]
       refine kat_cons (SeqAt.EqAt.str_str x1 tk1 x2 tk2 X.prog X.w _ _ ?_)
       rw [exf]
       refine kat_no ?_
       refine oneLt_str ?_
       have e2:decide (x1.cps.toList < x2.cps.toList)=ltT (ts.getD i .non) (ts.getD j .non):=by
        rw [et,eu]
        refine bO ?_
        rw [ltT_iff,decide_eq_true_iff]
        have ne:x1.cps.toList≠x2.cps.toList:=fun z=>ex ((ja x1 x2).mpr z)
        simp only [Tre.code,Tre.codes,LtC,LtCs,Co.str.injEq]
        constructor
        · intro h;exact .inl h
        · rintro (h|h)
          · exact h
          · exact absurd h.1 ne
       rw [e2]
       exact hR
 · have hin:∀i∈p.toList,i < ts.length:=fun i m=>by
    have:=List.mem_range.mp (List.Perm.mem_iff hp |>.mp m)
    omega
   refine ⟨.ref D,upd H D (.lst (p.toList.map fun i=>vs.getD i .non)),I.laid (t':=tk) kp sz ?_,rfl,?_⟩
   · refine ⟨?_,p.toList.map fun i=>as.getD i Value.none,e,Vals.map rv fun i m=>by have:=hin i m;omega,he⟩
     rw [List.length_map,Array.length_toList,hp.size]
     have:(64:Nat)≤sizeLine:=by decide +kernel
     omega
   · refine q _ _ (p.toList.map fun i=>ts.getD i .non) (I.hok.fresh sz) ?_ (TrsAt.map hT hin) fun i j t u hij e1 e2=> ?_
     · have:=List.Perm.map (fun i=>ts.getD i Tr.non) hp
       rw [show as.length=ts.length by omega,dO] at this
       exact this
     · rw [List.getElem?_map] at e1 e2
       obtain ⟨a,ea,rfl⟩:=Option.map_eq_some_iff.mp e1
       obtain ⟨b,eb,rfl⟩:=Option.map_eq_some_iff.mp e2
       have hj:j < as.length:=by
        have:=(List.getElem?_eq_some_iff.mp eb).1
        rw [Array.length_toList,hp.size] at this
        exact this
       have:=hup i j hij hj
       rw [cO,cO,←Array.getElem?_toList,←Array.getElem?_toList,ea,eb] at this
       exact this
end
end Dj
namespace Su
open PySem L2 Tre Mth Wd
theorem Can.key {ps us:List Pq} (h:Can ps us) {p:Pq} (m:p∈us):∃q∈ps,q.1=p.1:=by
 refine Classical.byContradiction fun no=> ?_
 have e:=jK h.asc m
 rw [h.eq,eJ fun q mq ez=>no ⟨q,mq,ez⟩] at e
 exact (h.sh p m).2 ((uv (h.sh p m).1).mp e.symm)
noncomputable def vl (W:Wld) (t:Tr):Rat:=rv (valT W t)
end Su
namespace Dj
open PySem PySem.Spec PyProof.Rows L2 Tre Wd Su
noncomputable def ur (P:Program) (w:World) (K:PySem.W.Frag) (td ty:TE):TE:=fun σ H Q=>td σ H fun x H1=>ty σ H1 fun y H2=>∃a b k kvs v,x= .ref a∧y= .ref b∧DJ P w K H2 a kvs∧KeyAt K H2 k b∧valJ kvs k=some v∧Q v H2
section
variable {X:Cx} {pos:Pos} {o i:Expr} {td ty:TE} {P:Program} {w:World} {K:PySem.W.Frag}
theorem tf (hu:X.A.units+30 < cLine) (ho:PE X o td) (hi:PE X i ty) (hs:NoSl i):PE X (.Subscript o i pos) (ur X.prog X.w X.K td ty):=by
 intro pins s σ H Q I h
 refine sJ PySem.F.slot_dict_getitem.lookup hs (thn (ho pins s σ H _ I h) fun u s1 ⟨x,H1,I1,rx,q1⟩=>thn (hi pins s1 σ H1 _ I1 q1) fun iv s2 ⟨y,H2,I2,ry,a,b,k,kvs,v,ex,ey,d,kb,e,q2⟩=> ?_)
 subst ex ey
 obtain rfl:u=Value.ref a:=rx
 obtain rfl:iv=Value.ref b:=ry
 obtain ⟨z,hd,xs,rel,dd⟩:=kH I2.hok I2.kIn d
 have rr:=rel.val k
 rw [e] at rr
 cases ea:atKey xs k with
 |none=>rw [ea] at rr;exact rr.elim
 |some p=>
  rw [ea] at rr
  exact ⟨dd.typeIs,wpAny_getItem_heap (by show X.A.units+1+20 < cLine;omega) (kb.is I2.hok I2.kIn) dd ea ⟨v,H2,I2.tok _,rr,q2⟩⟩
theorem qA (hP:X.prog=P) (hw:X.w=w) (hK:X.K=K) (hu:X.A.units+30 < cLine) (ho:PE X o td) (hi:PE X i ty) (hs:NoSl i):PE X (.Subscript o i pos) (ur P w K td ty):=by
 subst hP hw hK
 exact tf hu ho hi hs
theorem me (hP:X.prog=P) (hw:X.w=w) (hK:X.K=K) (hc:X.calm=true) (hu:X.A.units+60 < cLine):cG X (.builtin "sorted") (jW P w K):=by
 subst hP hw hK
 exact jF hc hu
end
mutual
noncomputable def ktT:Tr→Tk.KT
 | .int i=> .lf (.inl i)
 | .str x=> .lf (.inr x)
 | .tup ts=> .tp (ktTs ts)
 |_=> .tp []
noncomputable def ktTs:List Tr→List Tk.KT
 | []=> []
 |t::ts=>ktT t::ktTs ts
end
noncomputable def ktL:Tr→List Tk.KT
 | .tup ts=>ktTs ts
 |_=> []
mutual
def Kp:Tr→Prop
 | .int _=>True
 | .str _=>True
 | .tup ts=>Kps ts
 |_=>False
def Kps:List Tr→Prop
 | []=>True
 |t::ts=>Kp t∧Kps ts
end
theorem tR {ts:List Tr} (h:∀t∈ts,Kp t):Kps ts:=by
 induction ts with
 |nil=>trivial
 |cons t ts ih=>exact ⟨h t List.mem_cons_self,ih fun u m=>h u (List.mem_cons_of_mem _ m)⟩
theorem p8 {t:Tr} (h:Ty .tm t):Kp t:=by
 generalize e:So.tm=k at h
 induction h with
 |nm x=>simp only [Kp,Kps,and_self]
 |ap x ts _ _ ih=>simp only [Kp,Kps,and_true,true_and];exact tR fun t m=>ih t m e
 |fr=>cases e
 |pr=>cases e
 |fl=>cases e
 |mo=>cases e
 |li=>cases e
 |no=>cases e
 |bo=>cases e
 |ei=>cases e
 |lt=>cases e
mutual
theorem vN:∀ {t u:Tr},Kp t→Kp u→ktT t=ktT u→t=u
 | .int i, .int j,_,_,e=>by simp only [ktT,Tk.KT.lf.injEq,Sum.inl.injEq] at e;rw [e]
 | .int i, .str y,_,_,e=>by simp [ktT] at e
 | .int i, .tup us,_,_,e=>by simp [ktT] at e
 | .str x, .int j,_,_,e=>by simp [ktT] at e
 | .str x, .str y,_,_,e=>by simp only [ktT,Tk.KT.lf.injEq,Sum.inr.injEq] at e;rw [e]
 | .str x, .tup us,_,_,e=>by simp [ktT] at e
 | .tup ts, .int j,_,_,e=>by simp [ktT] at e
 | .tup ts, .str y,_,_,e=>by simp [ktT] at e
 | .tup ts, .tup us,h1,h2,e=>by
  simp only [ktT,Tk.KT.tp.injEq] at e
  rw [kts_inj h1 h2 e]
theorem kts_inj:∀ {ts us:List Tr},Kps ts→Kps us→ktTs ts=ktTs us→ts=us
 | [],[],_,_,_=>rfl
 | [],_::_,_,_,e=>by simp [ktTs] at e
 |_::_,[],_,_,e=>by simp [ktTs] at e
 |t::ts,u::us,h1,h2,e=>by
  simp only [ktTs,List.cons.injEq] at e
  rw [vN h1.1 h2.1 e.1,kts_inj h1.2 h2.2 e.2]
end
theorem nE {t u:Tr} (h1:Ty .tm t) (h2:Ty .tm u) (e:ktL t=ktL u):t=u:=by
 have k1:=p8 h1
 have k2:=p8 h2
 obtain ⟨ts,rfl⟩:=fc h1
 obtain ⟨us,rfl⟩:=fc h2
 rw [kts_inj k1 k2 e]
mutual
theorem vO:∀ {t:Tr},Kp t→(ktT t).depth=t.depth
 | .int i,_=>by simp [ktT,Tk.KT.depth,Tr.depth]
 | .str x,_=>by simp [ktT,Tk.KT.depth,Tr.depth]
 | .tup ts,k=>by
  simp only [ktT,Tk.KT.depth,Tr.depth]
  rw [kts_dep k]
theorem kts_dep:∀ {ts:List Tr},Kps ts→Tk.KTs.depth (ktTs ts)=Trs.depth ts
 | [],_=>by simp [ktTs,Tk.KTs.depth,Trs.depth]
 |t::ts,k=>by
  simp only [ktTs,Tk.KTs.depth,Trs.depth]
  rw [vO k.1,kts_dep k.2]
end
section
variable {K:PySem.W.Frag} {H:Hp}
mutual
theorem vM:∀ {v:V} {t:Tr},Kp t→TrAt H v t→KVt K H v (ktT t)
 |v, .int i,_,h=>by unfold TrAt at h;simp only [ktT,KVt];exact h
 |v, .str x,_,h=>by unfold TrAt at h;simp only [ktT,KVt];exact h
 |v, .tup ts,k,h=>by
  unfold TrAt at h
  obtain ⟨r,vs,e,h1,h2⟩:=h
  simp only [ktT,KVt]
  exact ⟨r,vs,e, .inl h1,kvts_of k h2⟩
theorem kvts_of:∀ {vs:List V} {ts:List Tr},Kps ts→TrsAt H vs ts→KVts K H vs (ktTs ts)
 |vs,[],_,h=>by unfold TrsAt at h;simp only [ktTs,KVts];exact h
 |vs,t::ts,k,h=>by
  obtain ⟨v,r,e,h1,h2⟩:=h.inv
  simp only [ktTs,KVts]
  exact ⟨v,r,e,vM k.1 h1,kvts_of k.2 h2⟩
end
theorem jz {b:Addr} {t:Tr} (ty:Ty .tm t) (hd:t.depth≤7) (h:TrAt H (.ref b) t):KeyAt K H (ktL t) b:=by
 have kp:=p8 ty
 obtain ⟨ts,rfl⟩:=fc ty
 unfold TrAt at h
 obtain ⟨r,vs,e,h1,h2⟩:=h
 cases e
 refine ⟨vs, .inl h1,kvts_of kp h2,?_⟩
 have:= @kts_dep ts kp
 simp only [Tr.depth] at hd
 simp only [ktL,Tk.KT.depth]
 omega
end
theorem p7 {H:Hp} {v:V} {t:Tr} (ty:Ty .tm t) (h:TrAt H v t):∃b,v= .ref b:=by
 obtain ⟨ts,rfl⟩:=fc ty
 unfold TrAt at h
 obtain ⟨r,vs,e,_⟩:=h
 exact ⟨r,e⟩
theorem wD {t:Tr} (h:Ty .tm t):Hs t:=by
 cases h<;>exact ⟨_,_,rfl⟩
def En (H:Hp) (g:Tr→Fr) (e:Ent) (t:Tr):Prop:=e.1=ktL t∧TrAt H (.ref e.2.1) t∧TrAt H e.2.2 (frT (g t))
structure DAt (P:Program) (w:World) (K:PySem.W.Frag) (H:Hp) (a:Addr) (ks:List Tr) (g:Tr→Fr):Prop where
 ex:∃kvs,DJ P w K H a kvs∧Paired (En H g) kvs ks
 ty:∀t∈ks,Ty .tm t∧t.depth≤7
 nd:ks.Nodup
section
variable {P:Program} {w:World} {K:PySem.W.Frag} {H H':Hp} {a:Addr} {ks:List Tr} {g:Tr→Fr}
theorem nO {kvs:List Ent} (k:Kd H H') (h:Paired (En H g) kvs ks):Paired (En H' g) kvs ks:=Paired.imp' (fun e t x=>⟨x.1,x.2.1.mono k,x.2.2.mono k⟩) h
theorem DAt.kd (x:DAt P w K H a ks g) (k:Kd H H') (hs:∀o,(∀xs,o≠ .lst xs)→H a=some o→H' a=some o):DAt P w K H' a ks g:=by
 obtain ⟨kvs,d,p⟩:=x.ex
 exact ⟨⟨kvs,d.kd k (hs _ (fun _ z=>by cases z) d.at_),nO k p⟩,x.ty,x.nd⟩
theorem DAt.same (x:DAt P w K H a ks g) (s:Same H H'):DAt P w K H' a ks g:=x.kd (Kd.of_same s) fun o _ e=>s _ _ e
theorem rO {kvs:List Ent} (h:Paired (En H g) kvs ks) (ty:∀t∈ks,Ty .tm t) {t:Tr} (tt:Ty .tm t):(t∈ks→∃v,valJ kvs (ktL t)=some v∧TrAt H v (frT (g t)))∧(t∉ks→valJ kvs (ktL t)=none):=by
 induction h with
 |nil=>exact ⟨fun m=>(by cases m),fun _=>rfl⟩
 | @cons e u es us h1 _ ih=>
  obtain ⟨i1,i2⟩:=ih fun x m=>ty x (List.mem_cons_of_mem _ m)
  by_cases z:u=t
  · subst z
    exact ⟨fun _=>⟨e.2.2,jL h1.1,h1.2.2⟩,fun n=>absurd List.mem_cons_self n⟩
  · have ne:¬e.1=ktL t:=fun q=>z (nE (ty u List.mem_cons_self) tt (h1.1.symm.trans q))
    refine ⟨fun m=> ?_,fun n=> ?_⟩
    · rw [gw ne]
      rcases List.mem_cons.mp m with e'|m
      · exact absurd e'.symm z
      · exact i1 m
    · rw [gw ne]
      exact i2 fun m=>n (List.mem_cons_of_mem _ m)
theorem DAt.val (x:DAt P w K H a ks g) {t:Tr} (tt:Ty .tm t):∃kvs,DJ P w K H a kvs∧kvs.length=ks.length∧(t∈ks→∃v,valJ kvs (ktL t)=some v∧TrAt H v (frT (g t)))∧(t∉ks→valJ kvs (ktL t)=none):=by
 obtain ⟨kvs,d,p⟩:=x.ex
 exact ⟨kvs,d,Paired.length p,rO p (fun t m=>(x.ty t m).1) tt⟩
open Classical in
noncomputable def setG (g:Tr→Fr) (t:Tr) (f:Fr):Tr→Fr:=fun u=>if u=t then f else g u
open Classical in
noncomputable def addK (ks:List Tr) (t:Tr):List Tr:=if t∈ks then ks else ks++ [t]
theorem wc {kvs:List Ent} {t:Tr} {f:Fr} {v:V} (hv:TrAt H v (frT f)) (tt:Ty .tm t) (h:Paired (En H g) kvs ks) (ty:∀t∈ks,Ty .tm t):Paired (En H (setG g t f)) (kvs.map fun p=>if p.1=ktL t then (p.1,p.2.1,v) else p) ks:=by
 induction h with
 |nil=>exact .nil
 | @cons e u es us h1 _ ih=>
  rw [List.map_cons]
  refine .cons ?_ (ih fun x m=>ty x (List.mem_cons_of_mem _ m))
  by_cases z:u=t
  · subst z
    rw [if_pos h1.1]
    refine ⟨h1.1,h1.2.1,?_⟩
    unfold setG
    rw [if_pos rfl]
    exact hv
  · have ne:¬e.1=ktL t:=fun q=>z (nE (ty u List.mem_cons_self) tt (h1.1.symm.trans q))
    rw [if_neg ne]
    refine ⟨h1.1,h1.2.1,?_⟩
    unfold setG
    rw [if_neg z]
    exact h1.2.2
theorem w9 {kvs:List Ent} {t:Tr} {f:Fr} (n:t∉ks) (h:Paired (En H g) kvs ks):Paired (En H (setG g t f)) kvs ks:=by
 induction h with
 |nil=>exact .nil
 | @cons e u es us h1 _ ih=>
  refine .cons ⟨h1.1,h1.2.1,?_⟩ (ih fun m=>n (List.mem_cons_of_mem _ m))
  unfold setG
  rw [if_neg (fun z=>n (by rw [←z];exact List.mem_cons_self))]
  exact h1.2.2
theorem DAt.put (x:DAt P w K H a ks g) {t:Tr} {b:Addr} {v:V} {f:Fr} (tt:Ty .tm t) (hd:t.depth≤7) (hb:TrAt H (.ref b) t) (hv:TrAt H v (frT f)) {kvs:List Ent} (d:DJ P w K H a kvs) (hk:DAt P w K H a ks g→Paired (En H g) kvs ks):
 DAt P w K (upd H a (dJ P w a (putJ kvs (ktL t) b v))) a (addK ks t) (setG g t f):=by
 have p:=hk x
 have kd:=Kd.updJ (o:=dJ P w a (putJ kvs (ktL t) b v)) d.at_
 have ev:=rO p (fun t m=>(x.ty t m).1) tt
 refine ⟨⟨_,d.put (jz tt hd hb),?_⟩,fun u m=> ?_,?_⟩
 · refine nO kd ?_
   unfold putJ addK
   by_cases m:t∈ks
   · obtain ⟨v',e',_⟩:=ev.1 m
     rw [e',if_pos m,if_pos (show (some v').isSome=true from rfl)]
     exact wc hv tt p fun t m=>(x.ty t m).1
   · rw [ev.2 m,if_neg m,if_neg (by simp)]
     refine Paired.snoc (w9 m p) ⟨rfl,hb,?_⟩
     unfold setG
     rw [if_pos rfl]
     exact hv
 · unfold addK at m
   split at m
   · exact x.ty u m
   · rcases List.mem_append.mp m with m|m
     · exact x.ty u m
     · rw [List.mem_singleton.mp m]
       exact ⟨tt,hd⟩
 · unfold addK
   split
   · exact x.nd
   · rename_i n
     exact List.nodup_append.mpr ⟨x.nd,(by simp),fun u mu y my=>by rw [List.mem_singleton.mp my];exact fun z=>n (by rw [←z];exact mu)⟩
theorem DAt.keys (x:DAt P w K H a ks g):∃kvs,DJ P w K H a kvs∧TrsAt H (kvs.map fun e=>V.ref e.2.1) ks:=by
 obtain ⟨kvs,d,p⟩:=x.ex
 refine ⟨kvs,d,?_⟩
 clear d x
 induction p with
 |nil=>exact .nil
 |cons h1 _ ih=>exact .cons h1.2.1 ih
end
open Classical in
structure Sd (ds:List Pq) (ks:List Tr) (g:Tr→Fr):Prop where
 sh:∀t∈ks,Sh (g t)
 eq:∀t,tot t ds=if t∈ks then rv (g t) else 0
theorem Sd.nil (g:Tr→Fr):Sd [] [] g:=⟨fun t m=>(by cases m),fun t=>(by rw [if_neg (by simp)];rfl)⟩
open Classical in
theorem Sd.add {ds:List Pq} {ks:List Tr} {g:Tr→Fr} (h:Sd ds ks g) {p:Pq} {f:Fr} (hf:Sh f) (e:rv f=(if p.1∈ks then rv (g p.1) else 0)+rv p.2):Sd (ds++ [p]) (addK ks p.1) (setG g p.1 f):=by
 refine ⟨fun t m=> ?_,fun t=> ?_⟩
 · unfold setG
   by_cases z:t=p.1
   · rw [if_pos z];exact hf
   · rw [if_neg z]
     unfold addK at m
     split at m
     · exact h.sh t m
     · rcases List.mem_append.mp m with m|m
       · exact h.sh t m
       · exact absurd (List.mem_singleton.mp m) z
 · rw [dr,gc,h.eq]
   unfold addK setG
   by_cases z:t=p.1
   · subst z
     rw [if_pos rfl]
     by_cases m:p.1∈ks
     · rw [if_pos m,if_pos m,if_pos m,if_pos rfl,e,if_pos m]
     · have m2:p.1∈ks++ [p.1]:=List.mem_append_right _ List.mem_cons_self
       rw [if_neg m,if_neg m,if_pos m2,if_pos rfl,e,if_neg m]
   · have z':¬p.1=t:=fun q=>z q.symm
     have ek:(t∈(if p.1∈ks then ks else ks++ [p.1]))↔t∈ks:=by
      split
      · exact Iff.rfl
      · rw [List.mem_append,List.mem_singleton]
        exact ⟨fun q=>q.elim id fun q=>absurd q z, .inl⟩
     simp only [ek,z,z',if_false]
     grind
noncomputable def outP (g:Tr→Fr) (ts:List Tr):List Pq:=(ts.filter fun t=>decide ((g t).1≠0)).map fun t=>(t,g t)
open Classical in
theorem ml (g:Tr→Fr) (u:Tr):∀ {ts:List Tr},ts.Nodup→(∀t∈ts,Sh (g t))→tot u (outP g ts)=if u∈ts then rv (g u) else 0
 | [],_,_=>by rw [if_neg (by simp)];rfl
 |t::ts,nd,hs=>by
  obtain ⟨n1,n2⟩:=List.nodup_cons.mp nd
  have ih:=ml g u n2 fun x m=>hs x (List.mem_cons_of_mem _ m)
  unfold outP at ih ⊢
  rw [List.filter_cons]
  have hsame:∀(q:Rat),(if u=t then q else 0)+(if u∈ts then rv (g u) else 0)=(if u∈t::ts then (if u=t then q else rv (g u)) else 0):=by
   intro q
   by_cases z:u=t
   · have nu:u∉ts:=fun m=>n1 (by rw [←z];exact m)
     rw [if_pos z,if_neg nu,if_pos (by rw [z];exact List.mem_cons_self),if_pos z]
     grind
   · rw [if_neg z]
     by_cases m:u∈ts
     · rw [if_pos m,if_pos (List.mem_cons_of_mem _ m),if_neg z]
       grind
     · rw [if_neg m,if_neg (fun q=>(List.mem_cons.mp q).elim z m)]
       grind
  by_cases z0:(g t).1=0
  · have e:decide ((g t).1≠0)=false:=by simp [z0]
    rw [e,if_neg (by decide),ih]
    have gz:rv (g t)=0:=by
     unfold rv
     rw [z0]
     have:((0:Int):Rat)=0:=by simp
     rw [this]
     grind
    have:=hsame 0
    by_cases z:u=t
    · subst z
      rw [if_neg n1,if_pos List.mem_cons_self,gz]
    · rw [if_neg z] at this
      by_cases m:u∈ts
      · rw [if_pos m,if_pos (List.mem_cons_of_mem _ m)]
      · rw [if_neg m,if_neg (fun q=>(List.mem_cons.mp q).elim z m)]
  · have e:decide ((g t).1≠0)=true:=by simp [z0]
    rw [e,if_pos rfl,List.map_cons]
    simp only [tot]
    rw [ih]
    by_cases z:u=t
    · subst z
      rw [if_pos rfl,if_neg n1,if_pos List.mem_cons_self]
      grind
    · rw [if_neg (fun q=>z q.symm)]
      by_cases m:u∈ts
      · rw [if_pos m,if_pos (List.mem_cons_of_mem _ m)]
        grind
      · rw [if_neg m,if_neg (fun q=>(List.mem_cons.mp q).elim z m)]
        grind
theorem Sd.can {ds:List Pq} {ks ts:List Tr} {g:Tr→Fr} (h:Sd ds ks g) (nd:ks.Nodup) (ty:∀t∈ks,Ty .tm t) (pm:ts.Perm ks) (hr:∀(i j:Nat) (t u:Tr),i≤j→ts[i]?=some t→ts[j]?=some u→ltT u t=false):Can ds (outP g ts):=by
 have ndt:ts.Nodup:=pm.nodup_iff.mpr nd
 have hs:∀t∈ts,Sh (g t):=fun t m=>h.sh t (pm.mem_iff.mp m)
 refine ⟨?_,fun p m=> ?_,fun t=> ?_⟩
 · unfold outP Asc
   rw [List.pairwise_map]
   refine List.Pairwise.filter _ ?_
   rw [List.pairwise_iff_getElem]
   intro i j hi hj hij
   have e1:ts[i]?=some ts[i]:=List.getElem?_eq_getElem hi
   have e2:ts[j]?=some ts[j]:=List.getElem?_eq_getElem hj
   have le:=hr i j _ _ (by omega) e1 e2
   refine uA le ?_
   cases q:eqT ts[i] ts[j] with
   |false=>rfl
   |true=>
    have:=um (ty _ (pm.mem_iff.mp (List.getElem_mem hi))) (ty _ (pm.mem_iff.mp (List.getElem_mem hj))) q
    have:=(List.nodup_iff_pairwise_ne.mp ndt)
    rw [List.pairwise_iff_getElem] at this
    exact absurd ‹ts[i]=ts[j]› (this i j hi hj hij)
 · obtain ⟨t,mt,rfl⟩:=List.mem_map.mp m
   obtain ⟨m1,m2⟩:=List.mem_filter.mp mt
   refine ⟨hs t m1,fun z=> ?_⟩
   have:(g t).1≠0:=by simpa using m2
   exact this (by rw [show g t=zero from z];rfl)
 · rw [ml g t ndt hs,h.eq]
   by_cases m:t∈ks
   · rw [if_pos m,if_pos (pm.mem_iff.mpr m)]
   · rw [if_neg m,if_neg (fun q=>m (pm.mem_iff.mp q))]
end Dj
namespace K12
open PySem L2 Mth Tre Wd Su Dj
section
variable {P:Program} {w:World} {K:PySem.W.Frag} {mg:Str→Option Value} {base:Heap}
def lr:Sp:=fun vs H Q _=>∃(l:Addr) (ps:List Pq) (n e:Nat),vs= [.ref l]∧PsAt H l ps∧ps.length≤n∧n < 64∧1+n*(e+1)≤8000∧(∀p∈ps,Gq e p)∧
 ∀(v:V) (H':Hp) (us:List Pq),Same H H'→TrAt H' v (.tup (us.map prT))→Can ps us→us.length≤ps.length→(∀u∈us,Gq (1+n*(e+1)) u)→Q v H'
theorem scLSm:aA ["_law_pairs_here","_law_found","_law_term_here","_law_many","_law_top","_law_bottom"] ["_law_pairs_here"] (ae iC):=⟨rfl,rfl,rfl,by decide +kernel,rfl,by decide +kernel,by decide +kernel⟩
open Classical in
theorem vZ {ks:List Tr} {g:Tr→Fr} {m:Nat} (hg:∀t∈ks,Gf (1+m) (g t)) (t:Tr):Gf (1+m) (if t∈ks then g t else zero):=by
 split
 · rename_i h
   exact hg t h
 · refine ⟨by decide,?_,?_⟩
   · show (0:Nat) < 2^(1+m)
     exact Nat.pow_pos (by decide)
   · show (1:Nat) < 2^(1+m)
     exact Nat.one_lt_two_pow (by omega)
open Classical in
theorem tI {f fL:Addr} {fd dL:FuncData} (F:Fun K "_law_sum" "_law_sum" iC f fd) (B:Blt mg)
 (gL:FnOk P w K mg base CX0 1 fL dL ["_law_top","_law_bottom"] gO) (kL:PySem.W.keepIn K (.ref fL)=true) (bL:Binds K dL ["_law_top","_law_bottom"] []) (mL:mg "_law_lowest"=some (.ref fL)):FnOk P w K mg base CX0 3 f fd ["_law_pairs_here"] lr:=by
 refine F.ok scLSm (fun vs H Q E h=> ?_) (fun cdv A outer s H vs Q E hr h=> ?_)
 · obtain ⟨l,ps,n,e,rfl,_⟩:=h
   rfl
 obtain ⟨l,ps,n,e,rfl,⟨ws,hl,hT⟩,hn,n64,h8,hg,k⟩:=h
 have hun:=hr.units
 have hu1:=rG hr
 have hr1:Room 1 _:=hr.mono (by decide)
 have hu30:=Nat.lt_of_le_of_lt (Nat.add_le_add_left (show 30≤64 by decide) _) hun
 have hu60:=Nat.lt_of_le_of_lt (Nat.add_le_add_left (show 60≤64 by decide) _) hun
 refine ⟨_,aa (aq (i:=1) scLSm.nd rfl (Or.inr rfl) (sY (P:=P) (w:=w) rfl rfl))
  (aa (cD PassesOwn.never rfl (dQ (pv 0)) (dk rfl (aY (aL (i:=2) scLSm.nd rfl (Or.inl rfl)) (aY (aL (i:=3) scLSm.nd rfl (Or.inl rfl)) cI)))
   (aa (fw (t8 (P:=P) (w:=w) (K:=K) rfl rfl rfl hu30 (pv 1) (pv 2) (aE (a7 ad (a7 ad a9))) ⟨rfl,rfl,rfl,rfl⟩) (dk rfl (aY (aL (i:=4) scLSm.nd rfl (Or.inl rfl)) (aY (aL (i:=5) scLSm.nd rfl (Or.inl rfl)) cI))))
   (ag (sW (P:=P) (w:=w) (K:=K) rfl rfl rfl hu30 (pv 1) (pv 2) (ah gL hr1 rfl mL kL bL .nil ar (a7 (ao bq (ao ci (pv 4) (aB aJ (pv 3) ad fun _ _=>rfl)) (ao ci (aB aJ (pv 3) ad fun _ _=>rfl) (pv 5))) (a7 (ao ci (pv 5) (aB aJ (pv 3) ad fun _ _=>rfl)) a9))) rfl))))
  (ag (aj (aU ba rfl B.tu PyProof.Rows.boot_tuple (a7
   (cJ (NC:= ["_law_term_here","_law_found"]) (mp:= [none,some 1]) rfl (dQ (aD (me (P:=P) (w:=w) (K:=K) rfl rfl rfl rfl hu60) rfl B.so PyProof.Rows.boot_sorted (a7 (pv 1) a9))) (fun _ _ _ _ _=>aL (i:=0) (show (["_law_term_here","_law_found"]:List Str).Nodup by decide +kernel) rfl (Or.inl rfl))
    (fun _ _ _ _ _=>mX (am iH (aB (r:=rIxT K) aJ (qA (P:=P) (w:=w) (K:=K) rfl rfl rfl hu30 (pv 1) (pv 0) (fun _ _=>rfl)) ad fun _ _=>rfl) ad (au _)))
    (fun _ _ _ _ _=>aE (a7 (pv 0) (a7 (qA (P:=P) (w:=w) (K:=K) rfl rfl rfl hu30 (pv 1) (pv 0) (fun _ _=>rfl)) a9)))) a9))))),?_⟩
 have hL:(20000:Nat)≤sizeLine:=by decide +kernel
 intro D nD
 have s1:Same H (upd H D (dJ P w D [])):=af nD
 have d0:DAt P w K (upd H D (dJ P w D [])) D [] (fun _=>zero):=⟨⟨[],⟨ac,fun p m=>(by cases m)⟩, .nil⟩,fun t m=>(by cases m),List.nodup_nil⟩
 have wl:=hT.len
 rw [List.length_map] at wl
 refine ⟨_,rfl,l,rfl,⟨_,SqL.of (s1 _ _ hl)⟩,?_⟩
 refine i3 (xs:=ws) (fun i σ H'=>Same H H'∧∃(ks:List Tr) (g:Tr→Fr) (v2 v3 v4 v5:Option V),σ= [some (.ref l),some (.ref D),v2,v3,v4,v5]∧DAt P w K H' D ks g∧Sd (ps.take i) ks g∧(∀t∈ks,Gf (1+i*(e+1)) (g t))∧ks.length≤i)
  ⟨s1,[],_,none,none,none,none,rfl,d0,by rw [List.take_zero];exact Sd.nil _,(fun t m=>by cases m),Nat.le_refl _⟩ (fun i σ H' _ p=>SqL.of (p.1 _ _ hl)) ?_ ?_
 · rintro i x σ H1 ex ⟨sH,ks,g,v2,v3,v4,v5,rfl,hD,hSd,hgk,hkl⟩
   obtain ⟨u,eu,hu⟩:=(hT.mono (Kd.of_same sH)).get' ex
   rw [List.getElem?_map] at eu
   obtain ⟨⟨tm,fr⟩,eq,rfl⟩:=Option.map_eq_some_iff.mp eu
   have gu:=hg _ (List.mem_of_getElem? eq)
   have ilt:i < ps.length:=(List.getElem?_eq_some_iff.mp eq).1
   obtain ⟨r,xt,xf,rfl,hr',hxt,hxf⟩:=cy hu
   obtain ⟨rf,rfl,hrf⟩:=cZ hxf
   have tyt:=gu.ty
   have dpt:=gu.dep
   have gfr:=gu.gf
   have shr:=gu.sh
   dsimp only at hxt tyt dpt gfr shr
   obtain ⟨bt,rfl⟩:=p7 tyt hxt
   have ei:1+(i+1)*(e+1)=1+i*(e+1)+e+1:=by rw [Nat.succ_mul];omega
   have ib:1+(i+1)*(e+1)≤8000:=by
    have:(i+1)*(e+1)≤n*(e+1):=Nat.mul_le_mul_right _ (by omega)
    omega
   refine ⟨r,_,rfl,SqT.of hr',rfl,_,_,rfl,_,_,rfl,rfl,?_⟩
   obtain ⟨kvs,dj,kl,vin,vout⟩:=hD.val tyt
   refine ⟨_,rfl,D,kvs,rfl,dj,_,rfl,by show 2≤sizeLine;decide,fun p np=> ?_⟩
   have sp:=af (o:= .tup [.int 0, .int 1]) np
   have hD2:=hD.same sp
   have dj2:=dj.kd (Kd.of_same sp) (sp _ _ dj.at_)
   refine ⟨bt,ktL tm,rfl,dj2,jz tyt dpt (hxt.mono (Kd.of_same sp)),?_⟩
   obtain ⟨z,ez,hz⟩:∃z,(valJ kvs (ktL tm)).getD (.ref p)=z∧TrAt (upd H1 p (.tup [.int 0, .int 1])) z (frT (if tm∈ks then g tm else zero)):=by
    by_cases m:tm∈ks
    · obtain ⟨v,e1,e2⟩:=vin m
      rw [e1,if_pos m]
      exact ⟨v,rfl,e2.mono (Kd.of_same sp)⟩
    · rw [vout m,if_neg m]
      exact ⟨_,rfl,c8 ac⟩
   rw [ez]
   have gq:=vZ hgk tm
   have sq:Sh (if tm∈ks then g tm else zero):=by
    split
    · rename_i m
      exact hSd.sh tm m
    · exact mQ
   have rq:rv (if tm∈ks then g tm else zero)=if tm∈ks then rv (g tm) else 0:=by
    split
    · rfl
    · exact rv_zero
   obtain ⟨rz,rfl,hrz⟩:=cZ hz
   have sH2:=sH.trans sp
   have hrf2:=sp _ _ hrf
   have hxt2:=hxt.mono (Kd.of_same sp)
   generalize upd H1 p (.tup [.int 0, .int 1])=H2 at sp hD2 dj2 hrz sH2 hrf2 hxt2 ⊢
   generalize (if tm∈ks then g tm else zero)=q at gq sq rq hrz
   refine ⟨rz,_,rfl,SqT.of hrz,rfl,_,_,rfl,_,_,rfl,rfl,?_⟩
   have bq1:Big q.1:=gq.top.big (by omega)
   have bq2:Big q.2:=gq.bot.big (by omega)
   have bf1:Big fr.1:=gfr.top.big (by omega)
   have bf2:Big fr.2:=gfr.bot.big (by omega)
   refine ⟨_,rfl,_,rfl,rf,_,1, .int fr.2,rfl,rfl,SqT.of hrf2,rfl,_,_,rfl,rfl,⟨bq1,bf2⟩,_,rfl,rf,_,0, .int fr.1,rfl,rfl,SqT.of hrf2,rfl,_,rfl,_,_,rfl,rfl,⟨bf1,bq2⟩,_,_,rfl,rfl,_,rfl,_,rfl,rf,_,1, .int fr.2,rfl,rfl,SqT.of hrf2,rfl,_,_,rfl,rfl,⟨bq2,bf2⟩,?_⟩
   have y0:0 < q.2*fr.2:=Int.mul_pos gq.pos gfr.pos
   have lx:Lt2 (1+(i+1)*(e+1)) (q.1*fr.2+fr.1*q.2):=by
    rw [ei]
    refine Lt2.add (gq.top.mul gfr.bot) ?_
    rw [Nat.add_comm]
    exact gfr.top.mul gq.bot
   have ly:Lt2 (1+(i+1)*(e+1)) (q.2*fr.2):=by
    rw [ei]
    exact (gq.bot.mul gfr.bot).mono (by omega)
   have erv:rv (low (q.1*fr.2+fr.1*q.2) (q.2*fr.2))=rv q+rv fr:=by
    rw [uS y0]
    have n1:=ne0 gq.pos
    have n2:=ne0 gfr.pos
    unfold rv
    simp only [Rat.intCast_mul,Rat.intCast_add]
    grind
   refine ⟨_,_,rfl,y0,cL (ly.big ib) (by omega),fun r' H3 hr3 e3=> ?_⟩
   subst e3
   have s3:=af (o:= .tup [.int (low (q.1*fr.2+fr.1*q.2) (q.2*fr.2)).1, .int (low (q.1*fr.2+fr.1*q.2) (q.2*fr.2)).2]) hr3
   have hv3:TrAt (upd H2 r' (.tup [.int (low (q.1*fr.2+fr.1*q.2) (q.2*fr.2)).1, .int (low (q.1*fr.2+fr.1*q.2) (q.2*fr.2)).2])) (.ref r') (frT (low (q.1*fr.2+fr.1*q.2) (q.2*fr.2))):=c8 ac
   have hD3:=hD2.same s3
   have hxt3:=hxt2.mono (Kd.of_same s3)
   have sH3:=sH2.trans s3
   have sl:=lw (t:=q.1*fr.2+fr.1*q.2) y0
   have gl:=vY y0 lx ly
   have e00:(q.1*fr.2+fr.1*q.2) / (Int.gcd (q.1*fr.2+fr.1*q.2) (q.2*fr.2):Int)=(low (q.1*fr.2+fr.1*q.2) (q.2*fr.2)).1:=rfl
   have e01:(q.2*fr.2) / (Int.gcd (q.1*fr.2+fr.1*q.2) (q.2*fr.2):Int)=(low (q.1*fr.2+fr.1*q.2) (q.2*fr.2)).2:=rfl
   dsimp only
   rw [e00,e01]
   generalize low (q.1*fr.2+fr.1*q.2) (q.2*fr.2)=nw at*
   generalize upd H2 r' (.tup [.int nw.1, .int nw.2])=H3 at*
   obtain ⟨kvs3,dj3,pr3⟩:=hD3.ex
   have kl3:kvs3.length=ks.length:=Paired.length pr3
   refine ⟨_,rfl,_,rfl,D,bt,ktL tm,kvs3,rfl,rfl,dj3,jz tyt dpt hxt3,by omega,?_⟩
   refine ⟨cf nD sH3,addK ks tm,setG g tm nw,_,_,_,_,rfl,hD3.put tyt dpt hxt3 hv3 dj3 (fun _=>pr3),?_,fun t m=> ?_,?_⟩
   · rw [d9 eq]
     exact hSd.add (p:=(tm,fr)) sl (by rw [erv,rq])
   · unfold setG
     by_cases z:t=tm
     · rw [if_pos z];exact gl
     · rw [if_neg z]
       have mt:t∈ks:=by
        unfold addK at m
        split at m
        · exact m
        · rcases List.mem_append.mp m with m|m
          · exact m
          · exact absurd (List.mem_singleton.mp m) z
       exact (hgk t mt).mono (by omega)
   · unfold addK
     split
     · omega
     · rw [List.length_append,List.length_singleton]
       omega
 · rintro σ H1 ⟨sH,ks,g,v2,v3,v4,v5,rfl,hD,hSd,hgk,hkl⟩
   rw [wl] at hkl hgk
   rw [wl,List.take_length] at hSd
   obtain ⟨kvs,dj,hK⟩:=hD.keys
   dsimp only
   refine j6 ?_
   refine iu rfl ?_
   refine ⟨_,rfl,D,kvs,ks,rfl,dj,hK,by omega,fun t m=>⟨wD (hD.ty t m).1,j0 (hD.ty t m).1,by have:=(hD.ty t m).2;omega⟩,fun t m u mu=>uk 30 (by have:=(hD.ty t m).2;omega) (hD.ty t m).1 (hD.ty u mu).1,fun S ws' us nS pm hT' srt=> ?_⟩
   have sS:=af (o:= .lst ws') nS
   have hS2:(upd H1 S (.lst ws')) S=some (.lst ws'):=ac
   have hD2:=hD.same sS
   have hT2:=hT'.mono (Kd.of_same sS)
   have sH2:=sH.trans sS
   generalize upd H1 S (.lst ws')=H2 at sS hS2 hD2 hT2 sH2 ⊢
   have wl2:=hT2.len
   have ul:us.length=ks.length:=pm.length_eq
   refine ⟨S,rfl,⟨ws',SqL.of hS2⟩,fun D2 nD2=> ?_⟩
   have hcan:=hSd.can hD.nd (fun t m=>(hD.ty t m).1) pm srt
   refine ie (xs:=ws') (fun i acc H''=>Same H2 H''∧H'' D2=some (.lst acc)∧TrsAt H'' acc ((outP g (us.take i)).map prT)) ⟨af nD2,ac,by rw [List.take_zero];exact .nil⟩ (fun i acc H'' p=>SqL.of (p.1 _ _ hS2)) ?_ ?_
   · rintro i x acc H3 hi ex ⟨s3,hD3,hA⟩
     obtain ⟨t,et,ht⟩:=(hT2.mono (Kd.of_same s3)).get' ex
     have mt:t∈ks:=pm.mem_iff.mp (List.mem_of_getElem? et)
     obtain ⟨tyt,dpt⟩:=hD.ty t mt
     obtain ⟨b,rfl⟩:=p7 tyt ht
     have hDD:=hD2.same s3
     obtain ⟨kvs3,dj3,kl3,vin,_⟩:=hDD.val tyt
     obtain ⟨v,ev,hv⟩:=vin mt
     obtain ⟨rv',rfl,hrv⟩:=cZ hv
     have kb:=jz (K:=K) tyt dpt ht
     have al:=hA.len
     rw [List.length_map] at al
     have al2:(outP g (us.take i)).length≤us.length:=by
      unfold outP
      rw [List.length_map]
      refine Nat.le_trans (List.length_filter_le _ _) ?_
      rw [List.length_take]
      omega
     refine ⟨_,rfl,_,rfl,D,b,ktL t,kvs3, .ref rv',rfl,rfl,dj3,kb,ev,rv',_,0, .int (g t).1,rfl,rfl,SqT.of hrv,rfl,rfl,_,rfl,?_⟩
     have ef:outP g (us.take (i+1))=outP g (us.take i)++(if decide ((g t).1≠0)=true then [(t,g t)] else []):=by
      unfold outP
      rw [d9 et,List.filter_append,List.map_append,List.filter_cons]
      split<;>rfl
     have ee:(!decide (V.int (g t).1=V.int 0))=decide ((g t).1≠0):=by
      by_cases z:(g t).1=0
      · simp [z]
      · simp [z]
     rw [ee]
     refine ite2 (fun y=> ?_) (fun y=>CompS.mk hi ⟨s3,hD3,?_⟩)
     · refine ⟨_,rfl,_,rfl,_,rfl,D,b,ktL t,kvs3, .ref rv',rfl,rfl,dj3,kb,ev,by show 2≤sizeLine;decide,fun p np=> ?_⟩
       have sp:=af (o:= .tup [.ref b, .ref rv']) np
       have hD4:=sp _ _ hD3
       have kd:=(Kd.of_same sp).trans (Kd.upd (ys:=acc++ [.ref p]) hD4)
       have nDp:p≠D2:=fun z=>by rw [z,hD3] at np;cases np
       refine CompN.mk hi (by omega) hD4 ⟨cf nD2 (s3.trans sp),ac,?_⟩
       rw [ef,if_pos y,List.map_append]
       exact TrsAt.app (.cons (cM ((ak nDp).trans ac) (ht.mono kd) (hv.mono kd)) .nil) (hA.mono kd)
     · rw [ef,if_neg y,List.append_nil]
       exact hA
   · rintro acc H3 ⟨s3,hD3,hA⟩
     rw [wl2,List.take_length] at hA
     refine ⟨D2,acc,rfl, .inl ⟨SqL.of hD3,fun p np=> ?_⟩⟩
     have sp:=af (o:= .tup acc) np
     refine k (.ref p) _ _ (sH2.trans (s3.trans sp)) (aQ ac (hA.mono (Kd.of_same sp))) hcan ?_ fun u m=> ?_
     · unfold outP
       rw [List.length_map]
       have:=List.length_filter_le (fun t=>decide ((g t).1≠0)) us
       omega
     · unfold outP at m
       obtain ⟨t,mt,rfl⟩:=List.mem_map.mp m
       have mt:=pm.mem_iff.mp (List.mem_filter.mp mt).1
       exact ⟨(hD.ty t mt).1,(hD.ty t mt).2,(hgk t mt).mono (by have:=Nat.mul_le_mul_right (e+1) hn;omega),hSd.sh t mt⟩
end
end K12
namespace K12
open PySem L2 Mth Tre Wd
section
variable {P:Program} {w:World} {K:PySem.W.Frag} {mg:Str→Option Value} {base:Heap}
def pM:Sp:=fun vs H Q _=>∃(f c:Addr),vs= [.ref f]∧FeedAt H f c∧∀(v:V) (H':Hp) (p:Fr),FeedAt H' f c→But f c H H'→TrAt H' v (frT p)→Gf 200 p→cn p.1 p.2→Q v H'
theorem scShr:aA ["_law_feed_here","_law_most","_law_top"] ["_law_feed_here"] (ae fj):=⟨rfl,rfl,rfl,by decide +kernel,rfl,by decide +kernel,by decide +kernel⟩
def TShr:Int:=10^58
theorem tShr:(60:Int)≤TShr∧TShr≤T59∧(TShr+10).natAbs < 2^200:=by decide +kernel
theorem vD {f fD fG fL:Addr} {fd fdD fdG fdL:FuncData} (F:Fun K "_law_share" "_law_share" fj f fd) (FD:Fun K "_law_draw" "_law_draw" de fD fdD) (bD:Binds K fdD ["_law_feed_here","_law_many"] []) (mD:mg "_law_draw"=some (.ref fD))
 (FG:Fun K "_law_great" "_law_great" dc fG fdG) (bG:Binds K fdG ["_law_feed_here","_law_most"] []) (mG:mg "_law_great"=some (.ref fG)) (FL:Fun K "_law_lowest" "_law_lowest" sLow fL fdL) (bL:Binds K fdL ["_law_top","_law_bottom"] []) (mL:mg "_law_lowest"=some (.ref fL)) (B:Blt mg):
 FnOk P w K mg base CX0 3 f fd ["_law_feed_here"] pM:=by
 have GD:FnOk P w K mg base CX0 1 fD fdD ["_law_feed_here","_law_many"] cN:=dR FD B
 have GG:FnOk P w K mg base CX0 2 fG fdG ["_law_feed_here","_law_most"] je:=k6 FG FD bD mD B
 have GL:FnOk P w K mg base CX0 1 fL fdL ["_law_top","_law_bottom"] gO:=lJ FL B
 refine F.ok scShr (fun vs H Q E h=> ?_) (fun cdv A outer s H vs Q E hr h=> ?_)
 · obtain ⟨f,c,rfl,_⟩:=h
   rfl
 obtain ⟨f,c,rfl,hF,k⟩:=h
 have hr1:Room 1 _:=hr.mono (by decide)
 refine ⟨_,aa (aq (i:=1) scShr.nd rfl (Or.inl rfl) (aB aG (bn (a7 ad (a7 ad (a7 ad (a7 ad (a7 (ao jp ad ad) a9)))))) (ah GD hr1 rfl mD FD.kp bD .nil ar (a7 (pv 0) (a7 ad a9))) fun _ _=>rfl))
  (aa (aq (i:=2) scShr.nd rfl (Or.inl rfl) (ao dn (ah GG hr rfl mG FG.kp bG .nil ar (a7 (pv 0) (a7 (ao fJ ad (pv 1)) a9))) (pv 1)))
  (ag (aj (ah GL hr1 rfl mL FL.kp bL .nil ar (a7 (pv 2) (a7 (aB aG (bn (a7 ad (a7 (ao bq ad (ah GG hr rfl mG FG.kp bG .nil ar (a7 (pv 0) (a7 (pv 1) a9)))) a9)))
   (ah GD hr1 rfl mD FD.kp bD .nil ar (a7 (pv 0) (a7 ad a9))) fun _ _=>rfl) a9)))))),?_⟩
 obtain ⟨t60,t589,tbig⟩:=tShr
 refine cH (fun σ' H'=>∃most:Int,0 < most∧most≤TShr∧FeedAt H' f c∧But f c H H'∧σ'= [some (.ref f),some (.int most),none]) ?_ fun nx hnx=> ?_
 rotate_left
 · refine ⟨10,58,rfl,rfl,⟨by decide,by decide,by decide⟩,by show 5≤sizeLine;decide,fun p hp=> ?_⟩
   obtain ⟨npf,npc⟩:=hF.ne hp
   refine ⟨_,rfl,f,c,5,rfl,hF.same (af hp),by decide,br (by decide) (by decide),fun r H1 r0 r1 hF1 kp1=> ?_⟩
   have hp1:H1 p=some (.lst [.int 3, .int 3, .int 3, .int 60, .int ((10:Int)^(58:Int).toNat)]):=(kp1 p npf npc).trans ac
   have b1:But f c H H1:=(But.of_same (af hp)).trans (But.of_keep kp1)
   have r3:r=0∨r=1∨r=2∨r=3∨r=4:=by omega
   rcases r3 with rfl|rfl|rfl|rfl|rfl
   · exact ⟨p,_,0, .int 3,rfl,rfl,SqL.of hp1,rfl,hnx _ _ ⟨3,by decide,by omega,hF1,b1,rfl⟩⟩
   · exact ⟨p,_,1, .int 3,rfl,rfl,SqL.of hp1,rfl,hnx _ _ ⟨3,by decide,by omega,hF1,b1,rfl⟩⟩
   · exact ⟨p,_,2, .int 3,rfl,rfl,SqL.of hp1,rfl,hnx _ _ ⟨3,by decide,by omega,hF1,b1,rfl⟩⟩
   · exact ⟨p,_,3, .int 60,rfl,rfl,SqL.of hp1,rfl,hnx _ _ ⟨60,by decide,by omega,hF1,b1,rfl⟩⟩
   · exact ⟨p,_,4, .int TShr,rfl,rfl,SqL.of hp1,rfl,hnx _ _ ⟨TShr,by omega,by omega,hF1,b1,rfl⟩⟩
 rintro σ' H1 ⟨most,h0,h1,hF1,b1,rfl⟩
 refine ⟨_,rfl,_,rfl,2,most,rfl,rfl, .inl ⟨by decide,by decide⟩,f,c,2*most,rfl,hF1,by omega,by omega,fun r2 H2 s0 s1 hF2 kp2=> ?_⟩
 refine ⟨_,rfl,r2,most,rfl,rfl,?_⟩
 refine ⟨_,rfl,_,rfl,_,rfl,f,c,most,rfl,hF2,by omega,by omega,fun r3 H3 u0 u1 hF3 kp3=> ?_⟩
 refine ⟨1,r3,rfl,rfl,by show 2≤sizeLine;decide,fun p3 hp3=> ?_⟩
 obtain ⟨np3,nc3⟩:=hF3.ne hp3
 refine ⟨_,rfl,f,c,2,rfl,hF3.same (af hp3),by decide,br (by decide) (by decide),fun r4 H4 w0 w1 hF4 kp4=> ?_⟩
 have hp4:H4 p3=some (.lst [.int 1, .int (1+r3)]):=(kp4 p3 np3 nc3).trans ac
 have b4:But f c H H4:=b1.trans ((But.of_keep kp2).trans ((But.of_keep kp3).trans ((But.of_same (af hp3)).trans (But.of_keep kp4))))
 have fin:∀y:Int,0 < y→y≤TShr+1→(gO [.int (r2 - most), .int y] H4 Q E0):=by
  intro y y0 y1
  have lx:Lt2 200 (r2 - most):=Nat.lt_of_le_of_lt (show (r2 - most).natAbs≤(TShr+10).natAbs by omega) tbig
  have ly:Lt2 200 y:=Nat.lt_of_le_of_lt (show y.natAbs≤(TShr+10).natAbs by omega) tbig
  have bg:Big (Int.gcd (r2 - most) y:Int):=cL (ly.big (by decide)) (by omega)
  refine ⟨_,y,rfl,y0,bg,fun r' H5 hr' e5=> ?_⟩
  subst e5
  obtain ⟨x',y',ex,ey,g1,qx,qy⟩:=bY (x:=r2 - most) (y:=y) (by omega)
  have s5:=af (o:= .tup [.int ((r2 - most) / (Int.gcd (r2 - most) y:Int)), .int (y / (Int.gcd (r2 - most) y:Int))]) hr'
  have lx':=lx.div (y:=(Int.gcd (r2 - most) y:Int))
  have ly':=ly.div (y:=(Int.gcd (r2 - most) y:Int))
  rw [qx] at lx'
  rw [qy] at ly'
  rw [qx,qy] at s5 ⊢
  have y0':0 < y':=bJ (k:=(Int.gcd (r2 - most) y:Int)) (by omega) (by omega)
  exact k (.ref r') _ (x',y') (hF4.same s5) (b4.trans (But.of_same s5)) (c8 ac) ⟨y0',lx',ly'⟩ ⟨y0',g1⟩
 have r2c:r4=0∨r4=1:=by omega
 rcases r2c with rfl|rfl
 · exact ⟨p3,_,0, .int 1,rfl,rfl,SqL.of hp4,rfl,fin 1 (by decide) (by omega)⟩
 · exact ⟨p3,_,1, .int (1+r3),rfl,rfl,SqL.of hp4,rfl,fin (1+r3) (by omega) (by omega)⟩
end
end K12
namespace K12
open PySem L2 Mth Tre Zp
theorem oA (K:PySem.W.Frag):PySem.W.kitAny K (.type "str") [.type "tuple", .type "list"]=some false:=by kernel_rfl
theorem oB (K:PySem.W.Frag):PySem.W.kitAny K (.type "int") [.type "tuple", .type "list"]=some false:=by kernel_rfl
theorem lT (K:PySem.W.Frag):PySem.W.kitAny K (.type "bool") [.type "tuple", .type "list"]=some false:=by kernel_rfl
theorem oz (K:PySem.W.Frag):PySem.W.kitAny K (.type "tuple") [.type "tuple", .type "list"]=some true:=by kernel_rfl
theorem hE (K:PySem.W.Frag):PySem.W.kitOne K (.type "tuple") (.type "tuple")=some true:=by kernel_rfl
theorem hG (K:PySem.W.Frag):PySem.W.kitOne K (.type "tuple") (.type "list")=some false:=by kernel_rfl
theorem hJ (K:PySem.W.Frag):PySem.W.kitOne K (.type "int") (.type "int")=some true:=by kernel_rfl
theorem g8 (K:PySem.W.Frag):PySem.W.kitOne K (.type "int") (.type "bool")=some false:=by kernel_rfl
theorem lS (K:PySem.W.Frag):PySem.W.kitOne K (.type "str") (.type "int")=some false:=by kernel_rfl
theorem kg (K:PySem.W.Frag):PySem.W.kitOne K (.type "str") (.type "bool")=some false:=by kernel_rfl
theorem lR (K:PySem.W.Frag):PySem.W.kitOne K (.type "str") (.type "str")=some true:=by kernel_rfl
theorem d7 (K:PySem.W.Frag):PySem.W.kitOne K (.type "bool") (.type "bool")=some true:=by kernel_rfl
mutual
def Pl:Tr→Prop
 | .bl _=>True
 | .int _=>True
 | .str _=>True
 | .tup ts=>ts.length≤1000∧Pls ts
 |_=>False
def Pls:List Tr→Prop
 | []=>True
 |t::ts=>Pl t∧Pls ts
end
theorem qu:∀ {ts:List Tr} {t:Tr},Pls ts→t∈ts→Pl t
 |a::ts,t,p,h=>by
  rcases List.mem_cons.mp h with rfl|h
  · exact p.1
  · exact qu p.2 h
theorem n6 {ts:List Tr} (h:∀t∈ts,Pl t):Pls ts:=by
 induction ts with
 |nil=>trivial
 |cons t ts ih=>exact ⟨h t List.mem_cons_self,ih fun u m=>h u (List.mem_cons_of_mem _ m)⟩
theorem wC {t:Tr} (h:Ty .tm t):Pl t:=by
 generalize e:So.tm=k at h
 induction h with
 |nm x=>simp [Pl,Pls]
 |ap x ts hl _ ih=>
  have:Pls ts:=n6 fun t m=>ih t m e
  simp only [Pl,Pls,and_true,true_and]
  exact ⟨by show 3≤1000;decide,by omega,this⟩
 |fr=>cases e
 |pr=>cases e
 |fl=>cases e
 |mo=>cases e
 |li=>cases e
 |no=>cases e
 |bo=>cases e
 |ei=>cases e
 |lt=>cases e
theorem nN (f:Wd.Fr):Pl (Wd.frT f):=by
 unfold Wd.frT
 simp only [Pl,Pls,and_true]
 show 2≤1000
 decide
theorem di {ts:List Tr} (hl:ts.length≤1000) (h:∀t∈ts,Pl t):Pl (.tup ts):=by
 simp only [Pl]
 exact ⟨hl,n6 h⟩
theorem uY {us:List Su.Pq} {e:Nat} (hl:us.length≤1000) (h:∀p∈us,Su.Gq e p):Pl (.tup (us.map Su.prT)):=di (by rw [List.length_map];exact hl) fun t m=>by
 obtain ⟨p,mp,rfl⟩:=List.mem_map.mp m
 refine di (by show 2≤1000;decide) fun t m=> ?_
 simp only [List.mem_cons,List.not_mem_nil,or_false] at m
 rcases m with rfl|rfl
 · exact wC (h p mp).ty
 · exact nN _
theorem n8 {us:List Su.Pq} {e:Nat} (hl:us.length≤1000) (h:∀p∈us,Su.Gq e p) (b:Wd.Fr):Pl (Su.mostT us b):=di (by show 3≤1000;decide) fun t m=>by
 simp only [List.mem_cons,List.not_mem_nil,or_false] at m
 rcases m with rfl|rfl|rfl
 · trivial
 · exact uY hl h
 · exact nN _
section
variable {P:Program} {w:World} {K:PySem.W.Frag} {mg:Str→Option Value} {base:Heap}
def ln (n:Nat):Sp:=fun vs H Q _=>∃(v w:V) (t:Tr),vs= [v,w]∧TrAt H v t∧TrAt H w t∧Pl t∧t.depth < n∧(∀ts,t= .tup ts→True)∧∀H',Same H H'→Q (.bl true) H'
theorem wQ:aA ["_law_found","_law_due"] ["_law_found","_law_due"] (ae iA):=⟨rfl,rfl,rfl,by decide +kernel,rfl,by decide +kernel,by decide +kernel⟩
theorem oP:∀ {bs:List Bool},(∀b∈bs,b=true)→bs.all id=true:=fun h=>List.all_eq_true.mpr fun b m=>h b m
theorem tF {f:Addr} {fd:FuncData} (F:Fun K "_law_same" "_law_same" iA f fd) (bF:Binds K fd ["_law_found","_law_due"] []) (mF:mg "_law_same"=some (.ref f)) (B:Blt mg):∀n,FnOk P w K mg base CX0 (n+1) f fd ["_law_found","_law_due"] (ln n):=by
 intro n
 induction n with
 |zero=>exact ⟨fun vs H Q E ⟨_,_,_,_,_,_,_,h,_⟩=>absurd h (by omega),fun A outer s H args us vs Q E _ _ _ _ ⟨_,_,_,_,_,_,_,h,_⟩=>absurd h (by omega)⟩
 |succ n ih=>
  refine F.ok wQ (fun vs H Q E h=> ?_) (fun cdv A outer s H vs Q E hr h=> ?_)
  · obtain ⟨v,w',t,rfl,_⟩:=h
    rfl
  obtain ⟨v,w',t,rfl,hv,hw,hp,hd,_,k⟩:=h
  refine ⟨_,(aa (aK (bH (aD (r:=rIsi K) bh rfl B.isi aI (a7 (pv 1) (a7 (aE (a7 (bv (v:= .ty "tuple") rfl B.tu PyProof.Rows.boot_tuple rfl) (a7 (bv (v:= .ty "list") rfl B.li PyProof.Rows.boot_list rfl) a9))) a9)))) (aa (aK (PW.pt (eR (am iH (aD (r:=rIsi K) bh rfl B.isi aI (a7 (pv 0) (a7 (bv (v:= .ty "tuple") rfl B.tu PyProof.Rows.boot_tuple rfl) a9))) (aD (r:=rIsi K) bh rfl B.isi aI (a7 (pv 1) (a7 (bv (v:= .ty "tuple") rfl B.tu PyProof.Rows.boot_tuple rfl) a9))) (au _)) (df (am iH (aD (r:=rIsi K) bh rfl B.isi aI (a7 (pv 0) (a7 (bv (v:= .ty "list") rfl B.li PyProof.Rows.boot_list rfl) a9))) (aD (r:=rIsi K) bh rfl B.isi aI (a7 (pv 1) (a7 (bv (v:= .ty "list") rfl B.li PyProof.Rows.boot_list rfl) a9))) (au _))))) (ag (aj cE)) av)
  (aa (aK (am iH (aD aX rfl B.le PySem.boot_len (a7 (pv 0) a9)) (aD aX rfl B.le PySem.boot_len (a7 (pv 1) a9)) (au _)) (ag (aj cE)) av)
  (ag (aj (aD (oN rfl) rfl B.al PyProof.Rows.boot_all (a7 (cJ (NC:= ["_law_k","_law_due","_law_found"]) (mp:= [none,some 1,some 0]) rfl (bQ rfl B.ra (a7 (aD aX rfl B.le PySem.boot_len (a7 (pv 1) a9)) a9)) (fun _ _ _ _ _=>aL (i:=0) (show (["_law_k","_law_due","_law_found"]:List Str).Nodup by decide +kernel) rfl (Or.inl rfl)) (fun _ _ _ _ _=>d5)
   (fun _ _ _ _ _=>ah ih hr rfl mF F.kp bF .nil ar (a7 (aB (r:=rIxT K) aJ (pv 2) (pv 0) fun _ _=>rfl) (a7 (aB (r:=rIxT K) aJ (pv 1) (pv 0) fun _ _=>rfl) a9)))) a9)))))) av)
  (aa (aK (PW.pt (eR (am jq (pv 1) cq (au _)) (df (bH (aD (r:=rIsi K) bh rfl B.isi aI (a7 (pv 1) (a7 (bv (v:= .ty "bool") rfl B.bo PyProof.Rows.boot_bool rfl) a9))))))) (ag (aj (eB (cK aP (aD (r:=rIsi K) bh rfl B.isi aI (a7 (pv 0) (a7 (bv (v:= .ty "bool") rfl B.bo PyProof.Rows.boot_bool rfl) a9))) (aD (r:=rIsi K) bh rfl B.isi aI (a7 (pv 1) (a7 (bv (v:= .ty "bool") rfl B.bo PyProof.Rows.boot_bool rfl) a9))) (au _)) (gY (cK aP (pv 0) (pv 1) (au _)))))) av)
  (aa (aK (bH (aD (r:=rIsi K) bh rfl B.isi aI (a7 (pv 1) (a7 (bv (v:= .ty "int") rfl B.it PyProof.Rows.boot_int rfl) a9)))) (ag (aj (eB (aD (r:=rIsi K) bh rfl B.isi aI (a7 (pv 0) (a7 (bv (v:= .ty "int") rfl B.it PyProof.Rows.boot_int rfl) a9))) (eB (v9 (aD (r:=rIsi K) bh rfl B.isi aI (a7 (pv 0) (a7 (bv (v:= .ty "bool") rfl B.bo PyProof.Rows.boot_bool rfl) a9)))) (gY (cK aP (pv 0) (pv 1) (au _))))))) av)
  (ag (aj (eB (aD (r:=rIsi K) bh rfl B.isi aI (a7 (pv 0) (a7 (bv (v:= .ty "str") rfl B.st PyProof.Rows.boot_str rfl) a9))) (gY (cK aP (pv 0) (pv 1) (au _))))))))),?_⟩
  have hL20:(20000:Nat)≤sizeLine:=by decide +kernel
  cases t with
  |non=>exact hp.elim
  |ls=>exact hp.elim
  |bl b=>
   unfold TrAt at hv hw
   subst hv hw
   refine ⟨_,rfl,by show 2≤sizeLine;decide,fun p np=> ?_⟩
   have s1:Same H (upd H p (.tup [.ty "tuple", .ty "list"])):=af np
   refine ⟨.bl b, .ref p,_,false,rfl, .of (.bl b), .inr ⟨p,_,rfl,ac,rfl,lT K⟩,false,rfl,iteF ?_⟩
   refine ⟨_,rfl,rfl,_,rfl,iteF ?_⟩
   refine ⟨_,rfl, .bl b, .ty "bool",_,true,rfl, .of (.bl b), .inl ⟨rfl,d7 K⟩,true,rfl,iteT ?_⟩
   refine ⟨_,rfl, .bl b, .ty "bool",_,true,rfl, .of (.bl b), .inl ⟨rfl,d7 K⟩,_,rfl, .bl b, .ty "bool",_,true,rfl, .of (.bl b), .inl ⟨rfl,d7 K⟩,rfl,true,rfl,iteT ?_⟩
   refine ⟨_,rfl,_,rfl,rfl,?_⟩
   rw [decide_eq_true rfl]
   exact k _ s1
  |int i=>
   unfold TrAt at hv hw
   subst hv hw
   refine ⟨_,rfl,by show 2≤sizeLine;decide,fun p np=> ?_⟩
   have s1:Same H (upd H p (.tup [.ty "tuple", .ty "list"])):=af np
   refine ⟨.int i, .ref p,_,false,rfl, .of (.int i), .inr ⟨p,_,rfl,ac,rfl,oB K⟩,false,rfl,iteF ?_⟩
   refine ⟨_,rfl,rfl,_,rfl,iteF ?_⟩
   refine ⟨_,rfl, .int i, .ty "bool",_,false,rfl, .of (.int i), .inl ⟨rfl,g8 K⟩,false,rfl,iteF ?_⟩
   refine ⟨_,rfl, .int i, .ty "int",_,true,rfl, .of (.int i), .inl ⟨rfl,hJ K⟩,true,rfl,iteT ?_⟩
   refine ⟨_,rfl, .int i, .ty "int",_,true,rfl, .of (.int i), .inl ⟨rfl,hJ K⟩,true,rfl,iteT ?_⟩
   refine ⟨_,rfl, .int i, .ty "bool",_,false,rfl, .of (.int i), .inl ⟨rfl,g8 K⟩,false,rfl,true,rfl,iteT ?_⟩
   refine ⟨_,rfl,_,rfl,rfl,?_⟩
   rw [decide_eq_true rfl]
   exact k _ s1
  |str x=>
   unfold TrAt at hv hw
   subst hv hw
   refine ⟨_,rfl,by show 2≤sizeLine;decide,fun p np=> ?_⟩
   have s1:Same H (upd H p (.tup [.ty "tuple", .ty "list"])):=af np
   refine ⟨.str x, .ref p,_,false,rfl, .of (.str x), .inr ⟨p,_,rfl,ac,rfl,oA K⟩,false,rfl,iteF ?_⟩
   refine ⟨_,rfl,rfl,_,rfl,iteF ?_⟩
   refine ⟨_,rfl, .str x, .ty "bool",_,false,rfl, .of (.str x), .inl ⟨rfl,kg K⟩,false,rfl,iteF ?_⟩
   refine ⟨_,rfl, .str x, .ty "int",_,false,rfl, .of (.str x), .inl ⟨rfl,lS K⟩,false,rfl,iteF ?_⟩
   refine ⟨_,rfl, .str x, .ty "str",_,true,rfl, .of (.str x), .inl ⟨rfl,lR K⟩,true,rfl,iteT ?_⟩
   refine ⟨_,rfl,_,rfl,rfl,?_⟩
   rw [decide_eq_true rfl]
   exact k _ s1
  |tup ts=>
   unfold TrAt at hv hw
   obtain ⟨a,xs,rfl,ha,hxs⟩:=hv
   obtain ⟨b,ys,rfl,hb,hys⟩:=hw
   have xl:=hxs.len
   have yl:=hys.len
   refine ⟨_,rfl,by show 2≤sizeLine;decide,fun p np=> ?_⟩
   have s1:Same H (upd H p (.tup [.ty "tuple", .ty "list"])):=af np
   refine ⟨.ref b, .ref p,_,true,rfl, .of (.tup (s1 _ _ hb)), .inr ⟨p,_,rfl,ac,rfl,oz K⟩,true,rfl,iteT ?_⟩
   have ha1:=s1 _ _ ha
   have hb1:=s1 _ _ hb
   generalize upd H p (.tup [.ty "tuple", .ty "list"])=H1 at s1 ha1 hb1 ⊢
   refine ⟨_,rfl, .ref a, .ty "tuple",_,true,rfl, .of (.tup ha1), .inl ⟨rfl,hE K⟩,_,rfl, .ref b, .ty "tuple",_,true,rfl, .of (.tup hb1), .inl ⟨rfl,hE K⟩,rfl,_,rfl,?_⟩
   rw [decide_eq_true rfl]
   refine iteF ?_
   refine ⟨_,rfl, .ref a, .ty "list",_,false,rfl, .of (.tup ha1), .inl ⟨rfl,hG K⟩,_,rfl, .ref b, .ty "list",_,false,rfl, .of (.tup hb1), .inl ⟨rfl,hG K⟩,rfl,_,rfl,?_⟩
   rw [decide_eq_true rfl]
   refine iteF ?_
   refine ⟨_,rfl,a,xs,rfl, .inr (SqT.of ha1),_,rfl,b,ys,rfl, .inr (SqT.of hb1),rfl,_,rfl,?_⟩
   rw [decide_eq_true (show V.int (xs.length:Int)=V.int (ys.length:Int) by rw [xl,yl])]
   refine iteF ?_
   refine lh ?_
   dsimp only
   refine j6 ?_
   refine cT rfl ?_
   obtain ⟨pl1,pl2⟩:ts.length≤1000∧Pls ts:=hp
   refine ⟨_,rfl,b,ys,rfl, .inr (SqT.of hb1),(ys.length:Int),rfl,by omega,by omega,fun D nD=> ?_⟩
   rw [show ((ys.length:Int)).toNat=ys.length from rfl]
   refine d8 (n:=ys.length) (fun i acc H'=>Same H1 H'∧H' D=some (.lst acc)∧acc=List.replicate i (V.bl true)) ⟨af nD,ac,rfl⟩ ?_ ?_
   · rintro i acc H' hi ⟨sH,hD,rfl⟩
     have s2:=s1.trans sH
     have hi':i < ts.length:=by omega
     have et:ts[i]?=some ts[i]:=List.getElem?_eq_getElem hi'
     obtain ⟨x,ex,hx⟩:=hxs.get et
     obtain ⟨y,ey,hy⟩:=hys.get et
     have mt:=List.getElem_mem hi'
     have e0:(0:Int)+(i:Int)=(i:Int):=by omega
     refine ⟨_,rfl,_,rfl,a,xs,_,x,rfl,rfl,SqT.of (s2 _ _ ha),by rw [e0];exact bX ex,_,rfl,_,rfl,b,ys,_,y,rfl,rfl,SqT.of (s2 _ _ hb),by rw [e0];exact bX ey,x,y,ts[i],rfl,hx.mono (Kd.of_same s2),hy.mono (Kd.of_same s2),qu pl2 mt,?_,fun _ _=>trivial,fun H6 s6=> ?_⟩
     · have:=bc mt
       simp only [Tr.depth] at hd
       omega
     · refine CompN.mk hi (by rw [List.length_replicate];omega) (s6 _ _ hD) ⟨cf nD (sH.trans s6),ac,?_⟩
       rw [List.replicate_succ']
   · rintro acc H' ⟨sH,hD,rfl⟩
     refine ⟨D,List.replicate ys.length true,rfl,SqL.of (by rw [List.map_replicate];exact hD),?_⟩
     rw [oP fun b m=>(List.mem_replicate.mp m).2]
     exact k _ (s1.trans sH)
end
end K12
namespace K12
open PySem L2 Mth Dec Tre Wd Su Tw Rd
theorem vW {e:Nat} {p:Pq} (h:Gq e p):Gq e (neg p):=⟨h.ty,h.dep,vX h.gf,uP h.sh⟩
def Fv (f:Str):Prop:=f= "most"∨f= "least"∨f= "below"∨f= "above"∨f= "equal"
theorem Fv.kn {f:Str} (h:Fv f):Kn f "sum":=by
 rcases h with rfl|rfl|rfl|rfl|rfl
 · exact .inr (.inr (.inr (.inr (.inl ⟨rfl,rfl⟩))))
 · exact .inr (.inr (.inr (.inr (.inr (.inl ⟨rfl,rfl⟩)))))
 · exact .inr (.inr (.inr (.inr (.inr (.inr (.inl ⟨rfl,rfl⟩))))))
 · exact .inr (.inr (.inr (.inr (.inr (.inr (.inr (.inl ⟨rfl,rfl⟩)))))))
 · exact .inr (.inr (.inr (.inr (.inr (.inr (.inr (.inr ⟨rfl,rfl⟩)))))))
theorem Fv.len {f:Str} (h:Fv f):f.length≤10:=by
 rcases h with rfl|rfl|rfl|rfl|rfl<;>decide +kernel
theorem k9 {us:List Pq} {e:Nat} (h:∀p∈us,Gq e p) (b:Fr):(mostT us b).depth≤10:=by
 have h1:∀t∈us.map prT,t.depth≤8:=fun t m=>by
  obtain ⟨p,mp,rfl⟩:=List.mem_map.mp m
  exact (h p mp).pr.2
 have h2:=cX h1
 unfold mostT frT
 simp only [Tr.depth,Trs.depth]
 omega
section
variable {P:Program} {w:World} {K:PySem.W.Frag} {mg:Str→Option Value} {base:Heap}
def pF:Sp:=fun vs H Q _=>∃(l:Addr) (ps:List Pq),vs= [.ref l]∧PsAt H l ps∧ps.length≤100∧∀(D:Addr) (H':Hp),Same H H'→PsAt H' D (ps.map neg)→Q (.ref D) H'
theorem wN:aA ["_law_pairs_here"] ["_law_pairs_here"] (ae sTrn):=⟨rfl,rfl,rfl,by decide +kernel,rfl,by decide +kernel,by decide +kernel⟩
theorem vi {f:Addr} {fd:FuncData} (F:Fun K "_law_turned" "_law_turned" sTrn f fd):FnOk P w K mg base CX0 1 f fd ["_law_pairs_here"] pF:=by
 refine F.ok wN (fun vs H Q E h=> ?_) (fun cdv A outer s H vs Q E hr h=> ?_)
 · obtain ⟨l,ps,rfl,_⟩:=h
   rfl
 obtain ⟨l,ps,rfl,⟨ws,hl,hT⟩,hn,k⟩:=h
 refine ⟨_,ag (aj (cJ (NC:= ["_law_pair"]) (mp:= [none]) rfl (dQ (pv 0)) (fun _ _ _ _ _=>aL (i:=0) (show (["_law_pair"]:List Str).Nodup by decide +kernel) rfl (Or.inl rfl)) (fun _ _ _ _ _=>d5)
  (fun _ _ _ _ _=>aE (a7 (aB (r:=rIxT K) aJ (pv 0) ad fun _ _=>rfl) (a7 (aE (a7 (ao dn ad (aB (r:=rIxT K) aJ (aB (r:=rIxT K) aJ (pv 0) ad fun _ _=>rfl) ad fun _ _=>rfl)) (a7 (aB (r:=rIxT K) aJ (aB (r:=rIxT K) aJ (pv 0) ad fun _ _=>rfl) ad fun _ _=>rfl) a9))) a9))))),?_⟩
 have hL:(20000:Nat)≤sizeLine:=by decide +kernel
 have wl:=hT.len
 rw [List.length_map] at wl
 refine j5 ?_
 refine cT rfl ?_
 refine ⟨_,rfl,l,rfl,⟨ws,SqL.of hl⟩,fun D nD=> ?_⟩
 refine oM (xs:=ws) (fun i acc H'=>Same H H'∧H' D=some (.lst acc)∧TrsAt H' acc (((ps.take i).map neg).map prT)) ⟨af nD,ac, .nil⟩ (fun i acc H' p=>SqL.of (p.1 _ _ hl)) ?_ ?_
 · rintro i x acc H' hi ex ⟨sH,hD,hA⟩
   obtain ⟨u,eu,hu⟩:=(hT.mono (Kd.of_same sH)).get' ex
   rw [List.getElem?_map] at eu
   obtain ⟨p,ep,rfl⟩:=Option.map_eq_some_iff.mp eu
   obtain ⟨r,xt,xf,rfl,hr',hxt,hxf⟩:=cy hu
   obtain ⟨rf,rfl,hrf⟩:=cZ hxf
   have al:=hA.len
   rw [List.length_map,List.length_map,List.length_take] at al
   refine ⟨_,rfl,r,_,0,xt,rfl,rfl,SqT.of hr',rfl,?_⟩
   refine ⟨_,rfl,r,_,1, .ref rf,rfl,rfl,SqT.of hr',rfl,rf,_,0, .int p.2.1,rfl,rfl,SqT.of hrf,rfl,_,_,rfl,rfl,_,rfl,r,_,1, .ref rf,rfl,rfl,SqT.of hr',rfl,rf,_,1, .int p.2.2,rfl,rfl,SqT.of hrf,rfl,by show 2≤sizeLine;decide,fun q nq=> ?_⟩
   have s1:=af (o:= .tup [.int (0 - p.2.1), .int p.2.2]) nq
   refine ⟨by show 2≤sizeLine;decide,fun q2 nq2=> ?_⟩
   have s2:=af (o:= .tup [xt, .ref q]) nq2
   have hD2:=s2 _ _ (s1 _ _ hD)
   have kd:=(Kd.of_same (s1.trans s2)).trans (Kd.upd (ys:=acc++ [.ref q2]) hD2)
   have n2:q2≠D:=fun z=>by rw [z,s1 _ _ hD] at nq2;cases nq2
   have n1:q≠D:=fun z=>by rw [z,hD] at nq;cases nq
   refine CompN.mk hi (by omega) hD2 ⟨cf nD (sH.trans (s1.trans s2)),ac,?_⟩
   rw [List.take_add_one,ep,List.map_append,List.map_append]
   refine TrsAt.app (.cons (cM (a:=p.1) (b:=frT (negF p.2)) ((ak n2).trans ac) (hxt.mono kd) ?_) .nil) (hA.mono kd)
   refine c8 (a:= -p.2.1) (b:=p.2.2) ?_
   rw [ak n1,show -p.2.1=0 - p.2.1 by omega]
   exact s2 _ _ ac
 · rintro acc H' ⟨sH,hD,hA⟩
   rw [wl,List.take_length] at hA
   exact k D H' sH ⟨acc,hD,hA⟩
def pQ:Sp:=fun vs H Q _=>∃(f:Str) (l:Addr) (u:V) (ps:List Pq) (b:Fr),vs= [.str f, .ref l,u]∧Fv f∧PsAt H l ps∧ps.length≤4∧(∀p∈ps,Gq 30 p)∧TrAt H u (frT b)∧∀(v:V) (t:Tr) (H':Hp),Same H H'→TrAt H' v t→Mn f ps b t→Pl t→t.depth≤12→Q v H'
theorem scMea:aA ["_law_word","_law_pairs_here","_law_bound","_law_most","_law_least"] ["_law_word","_law_pairs_here","_law_bound"] (ae sMea):=⟨rfl,rfl,rfl,by decide +kernel,rfl,by decide +kernel,by decide +kernel⟩
theorem vx {f fS fT:Addr} {fd dS dT:FuncData} (F:Fun K "_law_meant" "_law_meant" sMea f fd)
 (gS:FnOk P w K mg base CX0 3 fS dS ["_law_pairs_here"] lr) (kS:PySem.W.keepIn K (.ref fS)=true) (bS:Binds K dS ["_law_pairs_here"] []) (mS:mg "_law_sum"=some (.ref fS))
 (gT:FnOk P w K mg base CX0 1 fT dT ["_law_pairs_here"] pF) (kT:PySem.W.keepIn K (.ref fT)=true) (bT:Binds K dT ["_law_pairs_here"] []) (mT:mg "_law_turned"=some (.ref fT)):FnOk P w K mg base CX0 4 f fd ["_law_word","_law_pairs_here","_law_bound"] pQ:=by
 refine F.ok scMea (fun vs H Q E h=> ?_) (fun cdv A outer s H vs Q E hr h=> ?_)
 · obtain ⟨f,l,u,ps,b,rfl,_⟩:=h
   rfl
 obtain ⟨f,l,u,ps,b,rfl,hf,hP,h4,hg,hu,k⟩:=h
 have hr1:Room 1 _:=hr.mono (by decide)
 refine ⟨_,aa (aq (i:=3) scMea.nd rfl (Or.inl rfl) (aE (a7 ai (a7 (ah gS hr rfl mS kS bS .nil ar (a7 (pv 1) a9)) (a7 (pv 2) a9)))))
  (aa (aq (i:=4) scMea.nd rfl (Or.inl rfl) (aE (a7 ai (a7 (ah gS hr rfl mS kS bS .nil ar (a7 (ah gT hr1 rfl mT kT bT .nil ar (a7 (pv 1) a9)) a9)) (a7 (aE (a7 (ao dn ad (aB aJ (pv 2) ad fun _ _=>rfl)) (a7 (aB aJ (pv 2) ad fun _ _=>rfl) a9))) a9)))))
  (aa (aK (am aP (pv 0) ai (au _)) (ag (aj (pv 3))) av)
  (aa (aK (am aP (pv 0) ai (au _)) (ag (aj (pv 4))) av)
  (aa (aK (am aP (pv 0) ai (au _)) (ag (aj (aE (a7 ai (a7 (pv 4) a9))))) av)
  (aa (aK (am aP (pv 0) ai (au _)) (ag (aj (aE (a7 ai (a7 (pv 3) a9))))) av)
  (ag (aj (aE (a7 ai (a7 (aE (a7 (pv 3) (a7 (pv 4) a9))) a9)))))))))),?_⟩
 obtain ⟨rb,rfl,hrb⟩:=cZ hu
 refine ⟨_,rfl,l,ps,4,30,rfl,hP,h4,by decide,by decide,hg,fun vm H1 us s1 hvm hc hul hgu=> ?_⟩
 refine ⟨_,rfl,by show 3≤sizeLine;decide,fun p1 np1=> ?_⟩
 have sp1:=af (o:= .tup [.str (Str.ofString "most"),vm, .ref rb]) np1
 have s1':=s1.trans sp1
 have hm1:TrAt (upd H1 p1 (.tup [.str (Str.ofString "most"),vm, .ref rb])) (.ref p1) (mostT us b):=aQ ac (.cons aS (.cons (hvm.mono (Kd.of_same sp1)) (.cons (hu.mono (Kd.of_same s1')) .nil)))
 refine cV ?_
 generalize upd H1 p1 (.tup [.str (Str.ofString "most"),vm, .ref rb])=H2 at s1' hm1 ⊢
 refine ⟨_,rfl,l,ps,rfl,hP.same s1',by omega,fun D H3 s3 hD=> ?_⟩
 refine ⟨D,ps.map neg,4,30,rfl,hD,by rw [List.length_map];exact h4,by decide,by decide,(fun p m=>by
  obtain ⟨q,mq,rfl⟩:=List.mem_map.mp m
  exact vW (hg q mq)),fun vl H4 us2 s4 hvl hc2 hul2 hgu2=> ?_⟩
 rw [List.length_map] at hul2
 have s14:=s1'.trans (s3.trans s4)
 refine ⟨_,rfl,rb,_,0, .int b.1,rfl,rfl,SqT.of (s14 _ _ hrb),rfl,_,_,rfl,rfl,_,rfl,rb,_,1, .int b.2,rfl,rfl,SqT.of (s14 _ _ hrb),rfl,by show 2≤sizeLine;decide,fun q nq=> ?_⟩
 have sq:=af (o:= .tup [.int (0 - b.1), .int b.2]) nq
 have hq:TrAt (upd H4 q (.tup [.int (0 - b.1), .int b.2])) (.ref q) (frT (negF b)):=c8 (a:= -b.1) (b:=b.2) (by rw [ac,show -b.1=0 - b.1 by omega])
 refine ⟨by show 3≤sizeLine;decide,fun p2 np2=> ?_⟩
 have sp2:=af (o:= .tup [.str (Str.ofString "most"),vl, .ref q]) np2
 have hl2:TrAt (upd (upd H4 q (.tup [.int (0 - b.1), .int b.2])) p2 (.tup [.str (Str.ofString "most"),vl, .ref q])) (.ref p2) (mostT us2 (negF b)):=aQ ac (.cons aS (.cons (hvl.mono (Kd.of_same (sq.trans sp2))) (.cons (hq.mono (Kd.of_same sp2)) .nil)))
 have s15:=s14.trans (sq.trans sp2)
 have hm2:=hm1.mono (Kd.of_same (s3.trans (s4.trans (sq.trans sp2))))
 refine cV ?_
 generalize upd (upd H4 q (.tup [.int (0 - b.1), .int b.2])) p2 (.tup [.str (Str.ofString "most"),vl, .ref q])=H5 at hl2 s15 hm2 ⊢
 have plm:=n8 (b:=b) (by omega) hgu
 have pll:=n8 (b:=negF b) (by omega) hgu2
 have dm:=k9 hgu b
 have dl:=k9 hgu2 (negF b)
 have two:∀(x:Tr) (f:Str),Pl x→Pl (.tup [.str f,x]):=fun x f h=>di (by show 2≤1000;decide) fun y m=>by
  simp only [List.mem_cons,List.not_mem_nil,or_false] at m
  rcases m with rfl|rfl
  · trivial
  · exact h
 rcases hf with rfl|rfl|rfl|rfl|rfl
 · refine ⟨_,rfl,rfl,_,rfl,if_t (decide_eq_true rfl) ?_⟩
   exact ⟨_,rfl,k _ _ H5 s15 hm2 (.inl ⟨rfl,us,hc,rfl⟩) plm (by omega)⟩
 · refine ⟨_,rfl,rfl,_,rfl,if_f (by decide +kernel) ?_⟩
   refine ⟨_,rfl,rfl,_,rfl,if_t (decide_eq_true rfl) ?_⟩
   exact ⟨_,rfl,k _ _ H5 s15 hl2 (.inr (.inl ⟨rfl,us2,hc2,rfl⟩)) pll (by omega)⟩
 · refine ⟨_,rfl,rfl,_,rfl,if_f (by decide +kernel) ?_⟩
   refine ⟨_,rfl,rfl,_,rfl,if_f (by decide +kernel) ?_⟩
   refine ⟨_,rfl,rfl,_,rfl,if_t (decide_eq_true rfl) ?_⟩
   refine ⟨_,rfl,by show 2≤sizeLine;decide,fun p np=> ?_⟩
   have sp:=af (o:= .tup [.str (Str.ofString "not"), .ref p2]) np
   refine k (.ref p) _ _ (s15.trans sp) (aQ ac (.cons aS (.cons (hl2.mono (Kd.of_same sp)) .nil))) (.inr (.inr (.inl ⟨rfl,us2,hc2,rfl⟩))) (two _ _ pll) ?_
   simp only [Tr.depth,Trs.depth]
   omega
 · refine ⟨_,rfl,rfl,_,rfl,if_f (by decide +kernel) ?_⟩
   refine ⟨_,rfl,rfl,_,rfl,if_f (by decide +kernel) ?_⟩
   refine ⟨_,rfl,rfl,_,rfl,if_f (by decide +kernel) ?_⟩
   refine ⟨_,rfl,rfl,_,rfl,if_t (decide_eq_true rfl) ?_⟩
   refine ⟨_,rfl,by show 2≤sizeLine;decide,fun p np=> ?_⟩
   have sp:=af (o:= .tup [.str (Str.ofString "not"), .ref p1]) np
   refine k (.ref p) _ _ (s15.trans sp) (aQ ac (.cons aS (.cons (hm2.mono (Kd.of_same sp)) .nil))) (.inr (.inr (.inr (.inl ⟨rfl,us,hc,rfl⟩)))) (two _ _ plm) ?_
   simp only [Tr.depth,Trs.depth]
   omega
 · refine ⟨_,rfl,rfl,_,rfl,if_f (by decide +kernel) ?_⟩
   refine ⟨_,rfl,rfl,_,rfl,if_f (by decide +kernel) ?_⟩
   refine ⟨_,rfl,rfl,_,rfl,if_f (by decide +kernel) ?_⟩
   refine ⟨_,rfl,rfl,_,rfl,if_f (by decide +kernel) ?_⟩
   refine ⟨_,rfl,_,rfl,by show 2≤sizeLine;decide,fun p np=> ?_⟩
   have sp:=af (o:= .tup [.ref p1, .ref p2]) np
   refine ⟨by show 2≤sizeLine;decide,fun r nr=> ?_⟩
   have sr:=af (o:= .tup [.str (Str.ofString "both"), .ref p]) nr
   refine k (.ref r) _ _ (s15.trans (sp.trans sr)) (aQ ac (.cons aS (.cons (aQ (sr _ _ ac) (.cons (hm2.mono (Kd.of_same (sp.trans sr))) (.cons (hl2.mono (Kd.of_same (sp.trans sr))) .nil))) .nil))) (.inr (.inr (.inr (.inr ⟨rfl,us,us2,hc,hc2,rfl⟩)))) (two _ _ (di (by show 2≤1000;decide) fun y m=> ?_)) ?_
   · simp only [List.mem_cons,List.not_mem_nil,or_false] at m
     rcases m with rfl|rfl
     · exact plm
     · exact pll
   · simp only [Tr.depth,Trs.depth]
     omega
def pD:Sp:=fun vs H Q _=>∃(f:Str) (l:Addr) (u:V) (ps:List Pq) (b:Fr),vs= [.str f, .ref l,u]∧f.length≤10∧PsAt H l ps∧ps.length≤4∧(∀p∈ps,Pb p)∧TrAt H u (frT b)∧Gf 200 b∧∀z,cl z=Tw.hd f++spC (ps.flatMap prC++ [frC b])++ [41]→Q (.str z) H
theorem scWri:aA ["_law_word","_law_pairs_here","_law_bound","_law_text_here","_law_term_here","_law_many"] ["_law_word","_law_pairs_here","_law_bound"] (ae sWri):=⟨rfl,rfl,rfl,by decide +kernel,rfl,by decide +kernel,by decide +kernel⟩
theorem vf {f fG fT:Addr} {fd dG dT:FuncData} (F:Fun K "_law_written" "_law_written" sWri f fd)
 (gG:FnOk P w K mg base CX0 1 fG dG ["_law_one"] (lu K)) (kG:PySem.W.keepIn K (.ref fG)=true) (bG:Binds K dG ["_law_one"] []) (mG:mg "_law_figures"=some (.ref fG))
 (gT:FnOk P w K mg base CX0 9 fT dT ["_law_term_here"] (pJ 8)) (kT:PySem.W.keepIn K (.ref fT)=true) (bT:Binds K dT ["_law_term_here"] []) (mT:mg "_law_term_text"=some (.ref fT)):FnOk P w K mg base CX0 10 f fd ["_law_word","_law_pairs_here","_law_bound"] pD:=by
 refine F.ok scWri (fun vs H Q E h=> ?_) (fun cdv A outer s H vs Q E hr h=> ?_)
 · obtain ⟨f,l,u,ps,b,rfl,_⟩:=h
   rfl
 obtain ⟨f,l,u,ps,b,rfl,hf,⟨ws,hl,hT⟩,h4,hP,hu,hb,k⟩:=h
 have hr1:Room 1 _:=hr.mono (by decide)
 refine ⟨_,aa (aq (i:=3) scWri.nd rfl (Or.inl rfl) (ao az ai (pv 0)))
  (aa (cD PassesOwn.never rfl (dQ (pv 1)) (dk rfl (aY (aL (i:=4) scWri.nd rfl (Or.inl rfl)) (aY (aL (i:=5) scWri.nd rfl (Or.inl rfl)) cI)))
   (ag (aq (i:=3) scWri.nd rfl (Or.inl rfl) (ao az (ao az (ao az (ao az (pv 3) ai) (ah gG hr1 rfl mG kG bG .nil ar (a7 (pv 5) a9))) ai) (ah gT hr rfl mT kT bT .nil ar (a7 (pv 4) a9))))))
  (ag (aj (ao az (ao az (ao az (pv 3) ai) (ah gG hr1 rfl mG kG bG .nil ar (a7 (pv 2) a9))) ai)))),?_⟩
 have hL:(100000:Nat)≤sizeLine:=by decide +kernel
 have e1:(Str.ofString " ").length=1:=by decide +kernel
 have e2:(Str.ofString "(").length=1:=by decide +kernel
 have e3:(Str.ofString ")").length=1:=by decide +kernel
 have wl:=hT.len
 rw [List.length_map] at wl
 have bound:∀i,(spC ((ps.take i).flatMap prC)).length≤8*1001:=fun i=>by
  refine Nat.le_trans (cw (B:=1000) fun c m=>gi (fun p mp=>hP p (List.mem_of_mem_take mp)) c m) (Nat.mul_le_mul_right _ ?_)
  rw [eV,List.length_take]
  omega
 refine ⟨_,rfl,_,_,rfl,rfl,by rw [e2];omega,?_⟩
 refine ⟨_,rfl,l,rfl,⟨ws,SqL.of hl⟩,?_⟩
 refine i3 (xs:=ws) (fun i σ H'=>H'=H∧∃(z:Str) (v4 v5:Option V),σ= [some (.str f),some (.ref l),some u,some (.str z),v4,v5]∧cl z=Tw.hd f++spC ((ps.take i).flatMap prC)) ⟨rfl,_,none,none,rfl,by rw [aO,uC,List.take_zero];simp [spC,Tw.hd]⟩ (fun i σ H' _ p=>by rw [p.1];exact SqL.of hl) ?_ ?_
 · rintro i x σ H' ex ⟨rfl,z,v4,v5,rfl,ez⟩
   obtain ⟨t',et,htt⟩:=hT.get' ex
   rw [List.getElem?_map] at et
   obtain ⟨p,ep,rfl⟩:=Option.map_eq_some_iff.mp et
   have hp:=hP p (List.mem_of_getElem? ep)
   obtain ⟨r,xt,xf,rfl,hr',hxt,hxf⟩:=cy htt
   obtain ⟨rf,rfl,hrf⟩:=cZ hxf
   have zl:z.length≤10000:=by
    have:=bound i
    rw [←ax,ez,List.length_append]
    show (40::cl f).length+_≤_
    rw [List.length_cons,ax]
    omega
   refine ⟨r,_,rfl,SqT.of hr',rfl,_,_,rfl,_,_,rfl,rfl,?_⟩
   refine ⟨_,rfl,_,_,rfl,rfl,by rw [e1];omega,_,rfl,rf,_,_,rfl,SqT.of hrf,hp.gf.pos,(Gfl hp.gf).1,(Gfl hp.gf).2,fun z2 ez2=> ?_⟩
   have z2l:z2.length≤402:=by rw [←ax,ez2];exact dX hp.gf
   refine ⟨_,_,rfl,rfl,by rw [Dec.len_app,e1];omega,_,_,rfl,rfl,by rw [Dec.len_app,Dec.len_app,e1];omega,_,rfl,xt,p.1,rfl,hxt,hp.tb.ty,by have:=hp.tb.dep;omega,hp.tb.len,fun z3 ez3=> ?_⟩
   have z3l:z3.length≤1000:=by rw [←ax,ez3];exact hp.tb.len
   refine ⟨_,_,rfl,rfl,by rw [Dec.len_app,Dec.len_app,Dec.len_app,e1];omega,?_⟩
   refine ⟨rfl,_,_,_,rfl,?_⟩
   rw [aO,aO,aO,aO,ez,jQ,ez2,ez3,List.take_add_one,ep,List.flatMap_append,eQ]
   simp [spC,prC,frC]
 · rintro σ H' ⟨rfl,z,v4,v5,rfl,ez⟩
   rw [wl,List.take_length] at ez
   have zl:z.length≤10000:=by
    have:=bound ps.length
    rw [List.take_length] at this
    rw [←ax,ez,List.length_append]
    show (40::cl f).length+_≤_
    rw [List.length_cons,ax]
    omega
   obtain ⟨rb,rfl,hrb⟩:=cZ hu
   refine ⟨_,rfl,_,_,rfl,rfl,by rw [e1];omega,_,rfl,rb,_,_,rfl,SqT.of hrb,hb.pos,(Gfl hb).1,(Gfl hb).2,fun z2 ez2=> ?_⟩
   have z2l:z2.length≤402:=by rw [←ax,ez2];exact dX hb
   refine ⟨_,_,rfl,rfl,by rw [Dec.len_app,e1];omega,_,_,rfl,rfl,by rw [Dec.len_app,Dec.len_app,e1,e3];omega,k _ ?_⟩
   rw [aO,aO,aO,ez,jQ,ez2,jV,eQ,eP]
   simp [frC]
end
open PySem L2 Mth Dec Tre Wd Su Tw Rd
structure Ok (p:Tr×List Nat):Prop where
 rw:Rw 4 "wish" p.1 p.2
 pl:Pl p.1
 dep:p.1.depth≤12
 len:p.2.length≤12000
structure Iv (H:Hp) (f c nl L1 L2:Addr) (l:List (Tr×List Nat)) (zs:List Str) (vs:List V):Prop where
 fe:FeedAt H f c
 nm:Names H nl
 t1:H L1=some (.lst (zs.map V.str))
 e1:zs.map cl=l.map (·.2)
 t2:H L2=some (.lst vs)
 e2:TrsAt H vs (l.map (·.1))
 ok:∀p∈l,Ok p
structure Nq (f c nl L1 L2:Addr):Prop where
 a1:L1≠f∧L1≠c
 a2:L2≠f∧L2≠c
 an:nl≠f∧nl≠c
 n1:nl≠L1
 n2:nl≠L2
 n12:L1≠L2
theorem Iv.but {H H':Hp} {f c nl L1 L2:Addr} {l:List (Tr×List Nat)} {zs:List Str} {vs:List V} (n:Nq f c nl L1 L2) (h:Iv H f c nl L1 L2 l zs vs) (b:But f c H H') (x:FeedAt H' f c):Iv H' f c nl L1 L2 l zs vs:=
 ⟨x,h.nm.but n.an.1 n.an.2 b,b _ _ n.a1.1 n.a1.2 h.t1,h.e1,b _ _ n.a2.1 n.a2.2 h.t2,h.e2.mono (b.kd h.fe x),h.ok⟩
theorem Iv.same {H H':Hp} {f c nl L1 L2:Addr} {l:List (Tr×List Nat)} {zs:List Str} {vs:List V} (n:Nq f c nl L1 L2) (h:Iv H f c nl L1 L2 l zs vs) (s:Same H H'):Iv H' f c nl L1 L2 l zs vs:=h.but n (But.of_same s) (h.fe.same s)
theorem uZ {r:Int} (h0:0≤r) (h4:r < 5):∃f:Str,atI [V.str (Str.ofString "most"), .str (Str.ofString "least"), .str (Str.ofString "below"), .str (Str.ofString "above"), .str (Str.ofString "equal")] r=some (.str f)∧Fv f:=by
 have:r=0∨r=1∨r=2∨r=3∨r=4:=by omega
 rcases this with rfl|rfl|rfl|rfl|rfl
 · exact ⟨_,rfl, .inl rfl⟩
 · exact ⟨_,rfl, .inr (.inl rfl)⟩
 · exact ⟨_,rfl, .inr (.inr (.inl rfl))⟩
 · exact ⟨_,rfl, .inr (.inr (.inr (.inl rfl)))⟩
 · exact ⟨_,rfl, .inr (.inr (.inr (.inr rfl)))⟩
theorem vE:cl (Str.ofString "(not ")=Tw.hd "not"++ [32]:=by decide +kernel
theorem wq:cl (Str.ofString "(all ")=Tw.hd "all"++ [32]:=by decide +kernel
theorem wk:cl (Str.ofString "(any ")=Tw.hd "any"++ [32]:=by decide +kernel
theorem vG:cl (Str.ofString " (any) ")=32::(Tw.hd "any"++spC []++ [41])++ [32]:=by decide +kernel
theorem ww:(Str.ofString "(not ").length=5∧(Str.ofString "(all ").length=5∧(Str.ofString "(any ").length=5∧(Str.ofString " (any) ").length=7∧(Str.ofString " ").length=1∧(Str.ofString ")").length=1:=by decide +kernel
theorem gQ (c:List Nat) (cs:List (List Nat)):spC (c::cs)=32::c++spC cs:=by simp [spC]
theorem lH {f:Str} {t:Tr} (h:Pl t):Pl (.tup [.str f,t]):=di (by show 2≤1000;decide) fun y m=>by
 simp only [List.mem_cons,List.not_mem_nil,or_false] at m
 rcases m with rfl|rfl
 · trivial
 · exact h
theorem uG (x:Str):Pl (.tup [s_ "flag", .str x]):=by simp [Pl,Pls]
theorem sums {B:Nat}:∀ {zs:List Str},(∀z∈zs,z.length≤B)→(zs.map (·.length)).sum≤zs.length*B:=fun h=>pw h
section
variable {P:Program} {w:World} {K:PySem.W.Frag} {mg:Str→Option Value} {base:Heap}
def mO (K:PySem.W.Frag):Sp:=fun vs H Q _=>∃(a:Addr) (ns:List Int),vs= [.ref a]∧SqL K H a (ns.map V.int)∧ns.length≤63∧∀H',Q (.bl true) H'
theorem scL:aA ["_law_script","_law_feed_here","_law_names_here","_law_texts","_law_dues","_law_k","_law_word","_law_pairs_here","_law_bound","_law_flag","_law_found"] ["_law_script"] (ae sLaw):=⟨rfl,rfl,rfl,by decide +kernel,rfl,by decide +kernel,by decide +kernel⟩
theorem vz {f fFe fNm fDr fPa fSh fWr fMe fRw fSa:Addr} {fd dFe dNm dDr dPa dSh dWr dMe dRw dSa:FuncData} (F:Fun K "law" "law" sLaw f fd) (B:Blt mg)
 (gFe:FnOk P w K mg base CX0 1 fFe dFe ["_law_script"] (pU K)) (kFe:PySem.W.keepIn K (.ref fFe)=true) (bFe:Binds K dFe ["_law_script"] []) (mFe:mg "_law_feed"=some (.ref fFe))
 (gNm:FnOk P w K mg base CX0 2 fNm dNm ["_law_feed_here"] mJ) (kNm:PySem.W.keepIn K (.ref fNm)=true) (bNm:Binds K dNm ["_law_feed_here"] []) (mNm:mg "_law_names"=some (.ref fNm))
 (gDr:FnOk P w K mg base CX0 1 fDr dDr ["_law_feed_here","_law_many"] cN) (kDr:PySem.W.keepIn K (.ref fDr)=true) (bDr:Binds K dDr ["_law_feed_here","_law_many"] []) (mDr:mg "_law_draw"=some (.ref fDr))
 (gPa:FnOk P w K mg base CX0 5 fPa dPa ["_law_feed_here","_law_names_here","_law_deep","_law_most"] jd) (kPa:PySem.W.keepIn K (.ref fPa)=true) (bPa:Binds K dPa ["_law_feed_here","_law_names_here","_law_deep","_law_most"] []) (mPa:mg "_law_pairs"=some (.ref fPa))
 (gSh:FnOk P w K mg base CX0 3 fSh dSh ["_law_feed_here"] pM) (kSh:PySem.W.keepIn K (.ref fSh)=true) (bSh:Binds K dSh ["_law_feed_here"] []) (mSh:mg "_law_share"=some (.ref fSh))
 (gWr:FnOk P w K mg base CX0 10 fWr dWr ["_law_word","_law_pairs_here","_law_bound"] pD) (kWr:PySem.W.keepIn K (.ref fWr)=true) (bWr:Binds K dWr ["_law_word","_law_pairs_here","_law_bound"] []) (mWr:mg "_law_written"=some (.ref fWr))
 (gMe:FnOk P w K mg base CX0 4 fMe dMe ["_law_word","_law_pairs_here","_law_bound"] pQ) (kMe:PySem.W.keepIn K (.ref fMe)=true) (bMe:Binds K dMe ["_law_word","_law_pairs_here","_law_bound"] []) (mMe:mg "_law_meant"=some (.ref fMe))
 (gRw:FnOk P w K mg base CX0 12 fRw dRw ["text"] pN) (kRw:PySem.W.keepIn K (.ref fRw)=true) (bRw:Binds K dRw ["text"] []) (mRw:mg "read_wish"=some (.ref fRw))
 (gSa:FnOk P w K mg base CX0 21 fSa dSa ["_law_found","_law_due"] (ln 20)) (kSa:PySem.W.keepIn K (.ref fSa)=true) (bSa:Binds K dSa ["_law_found","_law_due"] []) (mSa:mg "_law_same"=some (.ref fSa)):
 FnOk P w K mg base CX0 22 f fd ["_law_script"] (mO K):=by
 refine F.ok scL (fun vs H Q E h=> ?_) (fun cdv A outer s H vs Q E hr h=> ?_)
 · obtain ⟨a,ns,rfl,_⟩:=h
   rfl
 obtain ⟨a,ns,rfl,hS,hl,k⟩:=h
 have hr1:Room 1 _:=hr.mono (by decide)
 have hr2:Room 2 _:=hr.mono (by decide)
 have hr3:Room 3 _:=hr.mono (by decide)
 have hr4:Room 4 _:=hr.mono (by decide)
 have hr5:Room 5 _:=hr.mono (by decide)
 have hr10:Room 10 _:=hr.mono (by decide)
 have hr12:Room 12 _:=hr.mono (by decide)
 refine ⟨_,aa (aq (i:=1) scL.nd rfl (Or.inl rfl) (ah gFe hr1 rfl mFe kFe bFe .nil ar (a7 (pv 0) a9)))
  (aa (aq (i:=2) scL.nd rfl (Or.inl rfl) (ah gNm hr2 rfl mNm kNm bNm .nil ar (a7 (pv 1) a9)))
  (aa (aq (i:=3) scL.nd rfl (Or.inl rfl) (bn a9))
  (aa (aq (i:=4) scL.nd rfl (Or.inl rfl) (bn a9))
  (aa (cD PassesOwn.never rfl (bQ rfl B.ra (a7 (ao bq ad (ah gDr hr1 rfl mDr kDr bDr .nil ar (a7 (pv 1) (a7 ad a9)))) a9)) (aL (i:=5) scL.nd rfl (Or.inl rfl))
   (aa (aq (i:=6) scL.nd rfl (Or.inl rfl) (aB aG (bn (a7 ai (a7 ai (a7 ai (a7 ai (a7 ai a9)))))) (ah gDr hr1 rfl mDr kDr bDr .nil ar (a7 (pv 1) (a7 ad a9))) fun _ _=>rfl))
   (aa (aq (i:=7) scL.nd rfl (Or.inl rfl) (ah gPa hr5 rfl mPa kPa bPa .nil ar (a7 (pv 1) (a7 (pv 2) (a7 ad (a7 ad a9))))))
   (aa (aq (i:=8) scL.nd rfl (Or.inl rfl) (ah gSh hr3 rfl mSh kSh bSh .nil ar (a7 (pv 1) a9)))
   (aa (cg (bZ PySem.F.plainAttrs_list PySem.F.slot_list_append PySem.F.type_list_append bf (pv 3) (a7 (ah gWr hr10 rfl mWr kWr bWr .nil ar (a7 (pv 6) (a7 (pv 7) (a7 (pv 8) a9)))) a9)))
   (aa (cg (bZ PySem.F.plainAttrs_list PySem.F.slot_list_append PySem.F.type_list_append bf (pv 4) (a7 (ah gMe hr4 rfl mMe kMe bMe .nil ar (a7 (pv 6) (a7 (pv 7) (a7 (pv 8) a9)))) a9)))
   (aa (aK (cC (bH (ah gSa hr rfl mSa kSa bSa .nil ar (a7 (ah gRw hr12 rfl mRw kRw bRw .nil ar (a7 (aB aG (pv 3) (ck bw ad) fun _ _=>rfl) a9)) (a7 (aB aG (pv 4) (ck bw ad) fun _ _=>rfl) a9))))) (ag (aj cE)) av)
   (ag (aK (cC (bH (ah gSa hr rfl mSa kSa bSa .nil ar (a7 (ah gRw hr12 rfl mRw kRw bRw .nil ar (a7 (ao az (ao az ai (aB aG (pv 3) (ck bw ad) fun _ _=>rfl)) ai) a9)) (a7 (aE (a7 ai (a7 (aB aG (pv 4) (ck bw ad) fun _ _=>rfl) a9))) a9))))) (ag (aj cE)) av)))))))))
  (aa (aq (i:=9) scL.nd rfl (Or.inl rfl) (aB aG (pv 2) (ah gDr hr1 rfl mDr kDr bDr .nil ar (a7 (pv 1) (a7 ad a9))) fun _ _=>rfl))
  (aa (aq (i:=10) scL.nd rfl (Or.inl rfl) (ah gRw hr12 rfl mRw kRw bRw .nil ar (a7 (ao az (ao az (ao az (ao az ai (bZ PySem.F.plainAttrs_str PySem.F.slot_str_join PySem.F.type_str_join jt ai (a7 (pv 3) a9))) ai) (pv 9)) ai) a9)))
  (aa (aK (cC (bH (ah gSa hr rfl mSa kSa bSa .nil ar (a7 (pv 10) (a7 (aE (a7 ai (a7 (ao ni (aU ba rfl B.tu PyProof.Rows.boot_tuple (a7 (pv 4) a9)) (aE (a7 (aE (a7 ai (a7 (pv 9) a9))) a9))) a9))) a9))))) (ag (aj cE)) av)
  (aa (aq (i:=10) scL.nd rfl (Or.inl rfl) (ah gRw hr12 rfl mRw kRw bRw .nil ar (a7 (ao az (ao az (ao az (ao az ai (pv 9)) ai) (bZ PySem.F.plainAttrs_str PySem.F.slot_str_join PySem.F.type_str_join jt ai (a7 (pv 3) a9))) ai) a9)))
  (ag (aj (ah gSa hr rfl mSa kSa bSa .nil ar (a7 (pv 10) (a7 (aE (a7 ai (a7 (ao ni (aE (a7 (aE (a7 ai (a7 (pv 9) a9))) (a7 (aE (a7 ai (a7 (aE a9) a9))) a9))) (aU ba rfl B.tu PyProof.Rows.boot_tuple (a7 (pv 4) a9))) a9))) a9))))))))))))),?_⟩
 have hL20:(1000000:Nat)≤sizeLine:=by decide +kernel
 obtain ⟨wn,wa,wy,wm,wb,wr⟩:=ww
 refine ⟨_,rfl,a,ns,rfl,hS,hl,fun f c H1 nf nc s1 hF1=> ?_⟩
 refine ⟨_,rfl,f,c,rfl,hF1,fun nl H2 hF2 b2 nnl hN2=> ?_⟩
 obtain ⟨n1,n2⟩:=hF1.ne nnl
 refine ⟨by show 0≤sizeLine;decide,fun L1 nL1=> ?_⟩
 have q1:=hF2.ne nL1
 have m1:nl≠L1:=fun z=>by
  obtain ⟨x,e,_⟩:=hN2
  rw [z,nL1] at e
  cases e
 have sA:=af (o:= .lst []) nL1
 refine ⟨by show 0≤sizeLine;decide,fun L2 nL2=> ?_⟩
 have q2:=(hF2.same sA).ne nL2
 have m2:nl≠L2:=fun z=>by
  obtain ⟨x,e,_⟩:=hN2
  rw [z] at e
  rw [sA _ _ e] at nL2
  cases nL2
 have m12:L1≠L2:=fun z=>by rw [←z,ac] at nL2;cases nL2
 have sB:=af (o:= .lst []) nL2
 have nq:Nq f c nl L1 L2:=⟨q1,q2,⟨n1,n2⟩,m1,m2,m12⟩
 have iv0:Iv (upd (upd H2 L1 (.lst [])) L2 (.lst [])) f c nl L1 L2 [] [] []:=⟨(hF2.same sA).same sB,(hN2.but n1 n2 (But.of_same sA)).but n1 n2 (But.of_same sB),sB _ _ ac,rfl,ac, .nil,fun p m=>by cases m⟩
 refine cV ?_
 generalize upd (upd H2 L1 (.lst [])) L2 (.lst [])=H3 at iv0 ⊢
 refine ⟨_,rfl,f,c,3,rfl,iv0.fe,by decide,br (by decide) (by decide),fun r0 H4 r00 r03 hF4 kp4=> ?_⟩
 have iv4:=iv0.but nq (But.of_keep kp4) hF4
 refine ⟨_,_,rfl,rfl,_,rfl,by omega,by omega,?_⟩
 obtain ⟨j,ej⟩:∃j:Nat,((1:Int)+r0).toNat=j:=⟨_,rfl⟩
 have j3:j≤3:=by omega
 have j1:1≤j:=by omega
 rw [ej]
 refine cW (n:=j) (fun i σ H'=>∃(l:List (Tr×List Nat)) (zs:List Str) (vs:List V) (v5 v6 v7 v8:Option V),σ= [some (.ref a),some (.ref f),some (.ref nl),some (.ref L1),some (.ref L2),v5,v6,v7,v8,none,none]∧Iv H' f c nl L1 L2 l zs vs∧l.length=i) ⟨[],[],[],none,none,none,none,rfl,iv4,rfl⟩ ?_ ?_
 · rintro i σ H' hi ⟨l,zs,vs,v5,v6,v7,v8,rfl,iv,hli⟩
   refine ⟨by show 5≤sizeLine;decide,fun p np=> ?_⟩
   have sp:=af (o:= .lst [.str (Str.ofString "most"), .str (Str.ofString "least"), .str (Str.ofString "below"), .str (Str.ofString "above"), .str (Str.ofString "equal")]) np
   have npf:=iv.fe.ne np
   have ivp:=iv.same nq sp
   have hp:(upd H' p (.lst [.str (Str.ofString "most"), .str (Str.ofString "least"), .str (Str.ofString "below"), .str (Str.ofString "above"), .str (Str.ofString "equal")])) p=some (.lst [.str (Str.ofString "most"), .str (Str.ofString "least"), .str (Str.ofString "below"), .str (Str.ofString "above"), .str (Str.ofString "equal")]):=ac
   generalize upd H' p (.lst [.str (Str.ofString "most"), .str (Str.ofString "least"), .str (Str.ofString "below"), .str (Str.ofString "above"), .str (Str.ofString "equal")])=H5 at ivp hp ⊢
   refine ⟨_,rfl,f,c,5,rfl,ivp.fe,by decide,br (by decide) (by decide),fun r H6 r0' r5 hF6 kp6=> ?_⟩
   obtain ⟨wd,ew,fv⟩:=uZ r0' r5
   have iv6:=ivp.but nq (But.of_keep kp6) hF6
   refine ⟨p,_,r,_,rfl,rfl,SqL.of ((kp6 p npf.1 npf.2).trans hp),ew,?_⟩
   refine ⟨_,rfl,_,rfl,f,c,nl,1,4,rfl,iv6.fe,iv6.nm,n1,n2,by decide,by decide,fun pl ps H7 npl hF7 b7 hps hlen hq=> ?_⟩
   have iv7:=iv6.but nq b7 hF7
   have npf7:=iv6.fe.ne npl
   refine ⟨_,rfl,f,c,rfl,iv7.fe,fun vb H8 b hF8 b8 hvb gfb shb=> ?_⟩
   have iv8:=iv7.but nq b8 hF8
   have hps8:=hps.but npf7 hF7 b8 hF8
   have hpb:∀p∈ps,Pb p:=fun p m=>⟨⟨(hq p m).gq.ty,(hq p m).gq.dep,(hq p m).len,(hq p m).gm⟩,(hq p m).gq.gf.mono (by decide),(hq p m).gq.sh⟩
   have zl0:zs.length=l.length:=by
    have:=congrArg List.length iv8.e1
    rw [List.length_map,List.length_map] at this
    exact this
   have vl0:=iv8.e2.len
   rw [List.length_map] at vl0
   refine ⟨_,rfl, .inl ⟨rfl,_,SqL.of iv8.t1⟩,_,rfl,_,rfl,_,rfl,wd,pl,vb,ps,b,rfl,fv.len,hps8,hlen,hpb,hvb,gfb,fun z ez=> ?_⟩
   have zc:(cl z).length≤12000:=by
    have h1:=cw (B:=1000) (cs:=ps.flatMap prC++ [frC b]) (fun x m=>by
     rcases List.mem_append.mp m with m|m
     · exact gi hpb x m
     · rw [List.mem_singleton.mp m]
       have:=dX gfb
       omega)
    rw [List.length_append,eV,List.length_singleton] at h1
    have h2:(2*ps.length+1)*(1000+1)≤9*1001:=Nat.mul_le_mul_right _ (by omega)
    have h3:=fv.len
    rw [ez,List.length_append,List.length_append,List.length_singleton]
    show (40::cl wd).length+_+1≤_
    rw [List.length_cons,ax]
    omega
   refine ⟨L1,_,_,rfl,rfl,iv8.t1,by rw [List.length_map];omega,?_⟩
   have nL1p:pl≠L1:=fun e=>by
    obtain ⟨ws,h1,_⟩:=iv7.t1,hps
    rw [e] at npl
    rw [iv6.t1] at npl
    cases npl
   have kd9:=Kd.upd (ys:=zs.map V.str++ [.str z]) iv8.t1
   have hF9:=iv8.fe.wr (o:= .lst (zs.map V.str++ [.str z])) q1
   have hN9:Names (upd H8 L1 (.lst (zs.map V.str++ [.str z]))) nl:=by
    obtain ⟨x,e,r⟩:=iv8.nm
    exact ⟨x,(ak m1).trans e,r⟩
   have h19:(upd H8 L1 (.lst (zs.map V.str++ [.str z]))) L1=some (.lst ((zs++ [z]).map V.str)):=by rw [ac,List.map_append];rfl
   have h29:(upd H8 L1 (.lst (zs.map V.str++ [.str z]))) L2=some (.lst vs):=(ak m12.symm).trans iv8.t2
   have e29:=iv8.e2.mono kd9
   have hps9:PsAt (upd H8 L1 (.lst (zs.map V.str++ [.str z]))) pl ps:=by
    obtain ⟨ws,h1,h2⟩:=hps8
    exact ⟨ws,(ak nL1p).trans h1,h2.mono kd9⟩
   have hvb9:=hvb.mono kd9
   dsimp only
   generalize upd H8 L1 (.lst (zs.map V.str++ [.str z]))=H9 at hF9 hN9 h19 h29 e29 hps9 hvb9 ⊢
   refine ⟨_,rfl, .inl ⟨rfl,_,SqL.of h29⟩,_,rfl,_,rfl,_,rfl,wd,pl,vb,ps,b,rfl,fv,hps9,hlen,(fun p m=>(hq p m).gq),hvb9,fun v t H10 s10 hv hmn hpl hdp=> ?_⟩
   refine ⟨L2,_,_,rfl,rfl,s10 _ _ h29,by omega,?_⟩
   have kdA:=Kd.upd (ys:=vs++ [v]) (s10 _ _ h29)
   have rwt:Rw 4 "wish" t (cl z):=by rw [ez];exact wK fv.kn hlen hpb gfb shb hmn
   have ivA:Iv (upd H10 L2 (.lst (vs++ [v]))) f c nl L1 L2 (l++ [(t,cl z)]) (zs++ [z]) (vs++ [v]):=by
    refine ⟨(hF9.same s10).wr q2,?_,(ak m12).trans (s10 _ _ h19),by rw [List.map_append,List.map_append,iv8.e1];rfl,ac,?_,fun p m=> ?_⟩
    · obtain ⟨x,e,r⟩:=hN9
      exact ⟨x,(ak m2).trans (s10 _ _ e),r⟩
    · rw [List.map_append]
      exact TrsAt.app (.cons (hv.mono kdA) .nil) ((e29.mono (Kd.of_same s10)).mono kdA)
    · rcases List.mem_append.mp m with m|m
      · exact iv8.ok p m
      · rw [List.mem_singleton.mp m]
        exact ⟨rwt,hpl,hdp,zc⟩
   have hvA:=hv.mono kdA
   dsimp only
   generalize upd H10 L2 (.lst (vs++ [v]))=H11 at ivA hvA ⊢
   have zlen:z.length≤12000:=by rw [←ax];exact zc
   have l1:(zs++ [z]).map V.str=zs.map V.str++ [.str z]:=by rw [List.map_append];rfl
   have t1A:=ivA.t1
   rw [l1] at t1A
   refine ⟨_,rfl,_,rfl,L1,_,-1, .str z,rfl,rfl,SqL.of t1A,cB _ _,z,t,4,rfl,rwt,by decide,by omega,fun u H12 s12 hu=> ?_⟩
   have ivB:=ivA.same nq s12
   refine ⟨_,rfl,_,rfl,L2,_,-1,v,rfl,rfl,SqL.of ivB.t2,cB _ _,u,v,t,rfl,hu,hvA.mono (Kd.of_same s12),hpl,by omega,fun _ _=>trivial,fun H13 s13=>⟨_,rfl,?_⟩⟩
   refine iteF ?_
   have ivC:=ivB.same nq s13
   have t1C:=ivC.t1
   rw [l1] at t1C
   refine ⟨_,rfl,_,rfl,L1,_,-1, .str z,rfl,rfl,SqL.of t1C,cB _ _,_,_,rfl,rfl,by rw [wn];omega,_,_,rfl,rfl,by rw [Dec.len_app,wn,wr];omega,_, .tup [s_ "not",t],5,rfl,?_,by decide,by rw [Dec.len_app,Dec.len_app,wn,wr];omega,fun u2 H14 s14 hu2=> ?_⟩
   · have:=xo rwt
     rw [aO,aO,vE,jV]
     rw [eP] at this
     simpa using this
   have ivD:=ivC.same nq s14
   refine ⟨_,rfl,_,rfl,L2,_,-1,v,rfl,rfl,SqL.of ivD.t2,cB _ _,by show 2≤sizeLine;decide,fun pt npt=> ?_⟩
   have s15:=af (o:= .tup [.str (Str.ofString "not"),v]) npt
   refine ⟨u2, .ref pt,_,rfl,hu2.mono (Kd.of_same s15),aQ ac (.cons aS (.cons (hvA.mono (Kd.of_same (s12.trans (s13.trans (s14.trans s15))))) .nil)),lH hpl,?_,fun _ _=>trivial,fun H16 s16=>⟨_,rfl,?_⟩⟩
   · simp only [Tr.depth,Trs.depth]
     omega
   refine iteF ?_
   exact ⟨_,_,_,_,_,_,_,rfl,ivD.same nq (s15.trans s16),by rw [List.length_append,hli];rfl⟩
 · rintro σ H' ⟨l,zs,vs,v5,v6,v7,v8,rfl,iv,hli⟩
   refine ⟨_,rfl,_,rfl,f,c,6,rfl,iv.fe,by decide,br (by decide) (by decide),fun r H6 r0' r6 hF6 kp6=> ?_⟩
   have iv6:=iv.but nq (But.of_keep kp6) hF6
   obtain ⟨xs,x,ex1,ex2,wx⟩:=iv6.nm.at r0' (by omega)
   refine ⟨nl,xs,r,_,rfl,rfl,SqL.of ex1,ex2,?_⟩
   have zl0:zs.length=l.length:=by
    have:=congrArg List.length iv6.e1
    rw [List.length_map,List.length_map] at this
    exact this
   have zl:∀z∈zs,z.length≤12000:=fun z m=>by
    have:cl z∈l.map (·.2):=by rw [←iv6.e1];exact List.mem_map_of_mem m
    obtain ⟨p,mp,e⟩:=List.mem_map.mp this
    rw [←ax,←e]
    exact (iv6.ok p mp).len
   obtain ⟨y,ys,rfl⟩:∃y ys,zs=y::ys:=List.exists_cons_of_ne_nil (fun e=>by rw [e] at zl0;simp at zl0;omega)
   have hjs:=sums zl
   have hjm:(y::ys).length*12000≤3*12000:=Nat.mul_le_mul_right _ (by omega)
   have hj3:(y::ys).length≤3:=by omega
   have cj:=sj y ys
   have ej:cl y++spC (ys.map cl)=cl (Txt.join (Str.ofString " ") (y::ys)):=cj.symm
   have spl:32::(cl y++spC (ys.map cl))=spC (l.map (·.2)):=by
    rw [←iv6.e1,List.map_cons,gQ]
    rfl
   have jl:(Txt.join (Str.ofString " ") (y::ys)).length≤40000:=by
    have h1:=cw (B:=12000) (cs:=l.map (·.2)) (fun d m=>by
     obtain ⟨p,mp,rfl⟩:=List.mem_map.mp m
     exact (iv6.ok p mp).len)
    rw [List.length_map] at h1
    have h2:l.length*(12000+1)≤3*12001:=Nat.mul_le_mul_right _ (by omega)
    have h3:=congrArg List.length spl
    rw [List.length_cons,ej] at h3
    rw [←ax]
    omega
   have xl:x.length≤8:=wx.le
   generalize hjoin:Txt.join (Str.ofString " ") (y::ys)=jn at jl ej
   have okl:∀p∈l++ [(Tr.tup [s_ "flag", .str x],cl x)],Rw 4 "wish" p.1 p.2:=fun p m=>by
    rcases List.mem_append.mp m with m|m
    · exact (iv6.ok p m).rw
    · rw [List.mem_singleton.mp m]
      exact uF wx 4
   have rwA:=xD (d:=4) (l++ [(Tr.tup [s_ "flag", .str x],cl x)]) (by rw [List.length_append,List.length_singleton];omega) okl
   refine ⟨rfl,_,rfl,_,L1,y::ys,rfl,rfl,SqL.of iv6.t1,by rw [wb];omega,?_⟩
   rw [hjoin]
   refine ⟨_,_,rfl,rfl,by rw [wa];omega,_,_,rfl,rfl,by rw [Dec.len_app,wa,wb];omega,_,rfl,_,_,rfl,rfl,by rw [Dec.len_app,Dec.len_app,wa,wb];omega,_,_,rfl,rfl,by rw [Dec.len_app,Dec.len_app,Dec.len_app,wa,wb,wr];omega,_, .tup [s_ "both", .tup ((l++ [(Tr.tup [s_ "flag", .str x],cl x)]).map (·.1))],5,rfl,?_,by decide,by rw [Dec.len_app,Dec.len_app,Dec.len_app,Dec.len_app,wa,wb,wr];omega,fun u H7 s7 hu=> ?_⟩
   · rw [aO,aO,aO,aO,wq,jQ,jV,←ej]
     rw [List.map_append (f:=fun p:Tr×List Nat=>p.2),eQ,←spl] at rwA
     have e:spC [cl x]=32::cl x:=eP _
     simp only [List.map_cons,List.map_nil,e] at rwA
     simpa using rwA
   have iv7:=iv6.same nq s7
   refine ⟨_,rfl,_,rfl,L2,vs,rfl, .inl ⟨SqL.of iv7.t2,fun tp ntp=> ?_⟩⟩
   have s8:=af (o:= .tup vs) ntp
   refine ⟨_,rfl,by show 2≤sizeLine;decide,fun p1 np1=> ?_⟩
   have s9:=af (o:= .tup [.str (Str.ofString "flag"), .str x]) np1
   refine ⟨by show 1≤sizeLine;decide,fun p2 np2=> ?_⟩
   have s10:=af (o:= .tup [.ref p1]) np2
   have vl0:=iv7.e2.len
   rw [List.length_map] at vl0
   have vne:vs≠ []:=fun e=>by rw [e] at vl0;simp at vl0;omega
   refine ⟨tp,p2,vs,[.ref p1],rfl,rfl,SqT.of (s10 _ _ (s9 _ _ ac)),SqT.of ac,vne,by rw [List.length_singleton];omega,fun z=>absurd z (by simp),fun _ p3 np3=> ?_⟩
   have s11:=af (o:= .tup (vs++ [.ref p1])) np3
   refine ⟨by show 2≤sizeLine;decide,fun p4 np4=> ?_⟩
   have s12:=af (o:= .tup [.str (Str.ofString "both"), .ref p3]) np4
   have sAll:=s8.trans (s9.trans (s10.trans (s11.trans s12)))
   have h3:=s12 _ _ (ac (H:=upd (upd (upd H7 tp (.tup vs)) p1 (.tup [.str (Str.ofString "flag"), .str x])) p2 (.tup [.ref p1])) (a:=p3) (o:= .tup (vs++ [.ref p1])))
   have h1:=s12 _ _ (s11 _ _ (s10 _ _ (ac (H:=upd H7 tp (.tup vs)) (a:=p1) (o:= .tup [.str (Str.ofString "flag"), .str x]))))
   have dueA:TrAt (upd (upd (upd (upd (upd H7 tp (.tup vs)) p1 (.tup [.str (Str.ofString "flag"), .str x])) p2 (.tup [.ref p1])) p3 (.tup (vs++ [.ref p1]))) p4 (.tup [.str (Str.ofString "both"), .ref p3])) (.ref p4) (.tup [s_ "both", .tup ((l++ [(Tr.tup [s_ "flag", .str x],cl x)]).map (·.1))]):=by
    refine aQ ac (.cons aS (.cons (aQ h3 ?_) .nil))
    rw [List.map_append]
    exact TrsAt.app (.cons (aQ h1 (.cons aS (.cons aS .nil))) .nil) (iv7.e2.mono (Kd.of_same sAll))
   have plL:∀t∈l.map (·.1),Pl t∧t.depth≤12:=fun t m=>by
    obtain ⟨p,mp,rfl⟩:=List.mem_map.mp m
    exact ⟨(iv7.ok p mp).pl,(iv7.ok p mp).dep⟩
   have dpF:(Tr.tup [s_ "flag", .str x]).depth≤12:=by
    simp only [Tr.depth,Trs.depth]
    omega
   refine ⟨u, .ref p4,_,rfl,hu.mono (Kd.of_same sAll),dueA,lH (di ?_ fun t m=> ?_),?_,fun _ _=>trivial,fun H8 s13=>⟨_,rfl,?_⟩⟩
   · rw [List.length_map,List.length_append,List.length_singleton]
     omega
   · rw [List.map_append] at m
     rcases List.mem_append.mp m with m|m
     · exact (plL t m).1
     · rw [List.mem_singleton.mp m]
       exact uG x
   · have:=cX (n:=12) (ts:=(l++ [(Tr.tup [s_ "flag", .str x],cl x)]).map (·.1)) fun t m=>by
      rw [List.map_append] at m
      rcases List.mem_append.mp m with m|m
      · exact (plL t m).2
      · rw [List.mem_singleton.mp m]
        exact dpF
     simp only [Tr.depth,Trs.depth]
     omega
   refine iteF ?_
   have iv8:=iv7.same nq (sAll.trans s13)
   clear dueA h1 h3
   have okm:∀p∈(Tr.tup [s_ "flag", .str x],cl x)::(Tr.tup [s_ "either", .tup []],Tw.hd "any"++spC []++ [41])::l,Rw 4 "wish" p.1 p.2:=fun p m=>by
    rcases List.mem_cons.mp m with rfl|m
    · exact uF wx 4
    · rcases List.mem_cons.mp m with rfl|m
      · exact uH (d:=3) [] (by decide) (fun p m=>by cases m)
      · exact (iv8.ok p m).rw
   have rwE:=uH (d:=4) ((Tr.tup [s_ "flag", .str x],cl x)::(Tr.tup [s_ "either", .tup []],Tw.hd "any"++spC []++ [41])::l) (by rw [List.length_cons,List.length_cons];omega) okm
   refine ⟨_,rfl,_,_,rfl,rfl,by rw [wy];omega,_,_,rfl,rfl,by rw [Dec.len_app,wy,wm];omega,rfl,_,rfl,_,L1,y::ys,rfl,rfl,SqL.of iv8.t1,by rw [wb];omega,?_⟩
   rw [hjoin]
   refine ⟨_,_,rfl,rfl,by rw [Dec.len_app,Dec.len_app,wy,wm];omega,_,_,rfl,rfl,by rw [Dec.len_app,Dec.len_app,Dec.len_app,wy,wm,wr];omega,_, .tup [s_ "either", .tup (((Tr.tup [s_ "flag", .str x],cl x)::(Tr.tup [s_ "either", .tup []],Tw.hd "any"++spC []++ [41])::l).map (·.1))],5,rfl,?_,by decide,by rw [Dec.len_app,Dec.len_app,Dec.len_app,Dec.len_app,wy,wm,wr];omega,fun u2 H9 s14 hu2=> ?_⟩
   · rw [aO,aO,aO,aO,wk,vG,jV,←ej]
     rw [List.map_cons (f:=fun p:Tr×List Nat=>p.2),List.map_cons (f:=fun p:Tr×List Nat=>p.2),gQ,gQ,←spl] at rwE
     simpa using rwE
   have iv9:=iv8.same nq s14
   refine ⟨_,rfl,_,rfl,by show 2≤sizeLine;decide,fun p1 np1=> ?_⟩
   have t1:=af (o:= .tup [.str (Str.ofString "flag"), .str x]) np1
   refine ⟨by show 0≤sizeLine;decide,fun p2 np2=> ?_⟩
   have t2:=af (o:= .tup []) np2
   refine ⟨by show 2≤sizeLine;decide,fun p3 np3=> ?_⟩
   have t3:=af (o:= .tup [.str (Str.ofString "either"), .ref p2]) np3
   refine ⟨by show 2≤sizeLine;decide,fun p4 np4=> ?_⟩
   have t4:=af (o:= .tup [.ref p1, .ref p3]) np4
   have iv10:=iv9.same nq (t1.trans (t2.trans (t3.trans t4)))
   have g1:=t4 _ _ (t3 _ _ (t2 _ _ (ac (H:=H9) (a:=p1) (o:= .tup [.str (Str.ofString "flag"), .str x]))))
   have g2:=t4 _ _ (t3 _ _ (ac (H:=upd H9 p1 (.tup [.str (Str.ofString "flag"), .str x])) (a:=p2) (o:= .tup [])))
   have g3:=t4 _ _ (ac (H:=upd (upd H9 p1 (.tup [.str (Str.ofString "flag"), .str x])) p2 (.tup [])) (a:=p3) (o:= .tup [.str (Str.ofString "either"), .ref p2]))
   have hu3:=hu2.mono (Kd.of_same (t1.trans (t2.trans (t3.trans t4))))
   have g4:(upd (upd (upd (upd H9 p1 (.tup [.str (Str.ofString "flag"), .str x])) p2 (.tup [])) p3 (.tup [.str (Str.ofString "either"), .ref p2])) p4 (.tup [.ref p1, .ref p3])) p4=some (.tup [.ref p1, .ref p3]):=ac
   generalize upd (upd (upd (upd H9 p1 (.tup [.str (Str.ofString "flag"), .str x])) p2 (.tup [])) p3 (.tup [.str (Str.ofString "either"), .ref p2])) p4 (.tup [.ref p1, .ref p3])=H10 at iv10 g1 g2 g3 g4 hu3 ⊢
   refine ⟨_,rfl,L2,vs,rfl, .inl ⟨SqL.of iv10.t2,fun tq ntq=> ?_⟩⟩
   have t5:=af (o:= .tup vs) ntq
   refine ⟨p4,tq,[.ref p1, .ref p3],vs,rfl,rfl,SqT.of (t5 _ _ g4),SqT.of ac,by simp,by show 2+vs.length≤sizeLine;omega,fun z=>absurd z vne,fun _ p5 np5=> ?_⟩
   have t6:=af (o:= .tup ([.ref p1, .ref p3]++vs)) np5
   refine ⟨by show 2≤sizeLine;decide,fun p6 np6=> ?_⟩
   have t7:=af (o:= .tup [.str (Str.ofString "either"), .ref p5]) np6
   have sE:=t5.trans (t6.trans t7)
   have g5:=t7 _ _ (ac (H:=upd H10 tq (.tup vs)) (a:=p5) (o:= .tup ([.ref p1, .ref p3]++vs)))
   refine ⟨u2, .ref p6,_,rfl,hu3.mono (Kd.of_same sE),?_,lH (di ?_ fun t m=> ?_),?_,fun _ _=>trivial,fun H11 s15=> ?_⟩
   · refine aQ ac (.cons aS (.cons (aQ g5 ?_) .nil))
     exact .cons (aQ (sE _ _ g1) (.cons aS (.cons aS .nil))) (.cons (aQ (sE _ _ g3) (.cons aS (.cons (aQ (sE _ _ g2) .nil) .nil))) (iv10.e2.mono (Kd.of_same sE)))
   · rw [List.length_map,List.length_cons,List.length_cons]
     omega
   · rcases List.mem_cons.mp m with rfl|m
     · exact uG x
     · rcases List.mem_cons.mp m with rfl|m
       · simp [Pl,Pls]
       · exact (plL t m).1
   · have:=cX (n:=12) (ts:=l.map (·.1)) fun t m=>(plL t m).2
     simp only [List.map_cons,Tr.depth,Trs.depth]
     omega
   · exact k H11
end
end K12
namespace K12
open PySem L2 Mth Wd
theorem ex0 {n:Nat} (us:List Value) (hl:us.length=n+1):∃a vs,us=a::vs∧vs.length=n:=by
 cases us with
 |nil=>cases hl
 |cons a vs=>exact ⟨a,vs,rfl,Nat.succ.inj hl⟩
theorem ex1 (us:List Value) (hl:us.length=1):∃a,us= [a]:=by
 obtain ⟨a,vs,rfl,h⟩:=ex0 us hl
 exact ⟨a,by rw [List.eq_nil_of_length_eq_zero h]⟩
theorem ex2 (us:List Value) (hl:us.length=2):∃a b,us= [a,b]:=by
 obtain ⟨a,vs,rfl,h⟩:=ex0 us hl
 obtain ⟨b,rfl⟩:=ex1 vs h
 exact ⟨a,b,rfl⟩
theorem ex3 (us:List Value) (hl:us.length=3):∃a b c,us= [a,b,c]:=by
 obtain ⟨a,vs,rfl,h⟩:=ex0 us hl
 obtain ⟨b,c,rfl⟩:=ex2 vs h
 exact ⟨a,b,c,rfl⟩
theorem ex4 (us:List Value) (hl:us.length=4):∃a b c d,us= [a,b,c,d]:=by
 obtain ⟨a,vs,rfl,h⟩:=ex0 us hl
 obtain ⟨b,c,d,rfl⟩:=ex3 vs h
 exact ⟨a,b,c,d,rfl⟩
theorem all_mk {l:PySem.W.OpenLaw} {w:World} {K:PySem.W.Frag} {h:Heap} {mg:Str→Option Value} {fa:Addr} (X:K.In h) (G:h.Ns mainGlobals mg) (hfa:mg "law"=some (.ref fa))
 {fCD:Addr} {odCD anCD:Option Addr} {slCD:Array (Option Value)} {ocCD kVCD dcCD pmCD cdCD ctCD:Value}
 {fFR:Addr} {odFR anFR:Option Addr} {slFR:Array (Option Value)} {ocFR kVFR dcFR pmFR cdFR ctFR:Value}
 {fPL:Addr} {odPL anPL:Option Addr} {slPL:Array (Option Value)} {ocPL kVPL dcPL pmPL cdPL ctPL:Value}
 {fTM:Addr} {odTM anTM:Option Addr} {slTM:Array (Option Value)} {ocTM kVTM dcTM pmTM cdTM ctTM:Value}
 {fCO:Addr} {odCO anCO:Option Addr} {slCO:Array (Option Value)} {ocCO kVCO dcCO pmCO cdCO ctCO:Value}
 {fFG:Addr} {odFG anFG:Option Addr} {slFG:Array (Option Value)} {ocFG kVFG dcFG pmFG cdFG ctFG:Value}
 {fAF:Addr} {odAF anAF:Option Addr} {slAF:Array (Option Value)} {ocAF kVAF dcAF pmAF cdAF ctAF:Value}
 {fNO:Addr} {odNO anNO:Option Addr} {slNO:Array (Option Value)} {ocNO kVNO dcNO pmNO cdNO ctNO:Value}
 {fFT:Addr} {odFT anFT:Option Addr} {slFT:Array (Option Value)} {ocFT kVFT dcFT pmFT cdFT ctFT:Value}
 {fFI:Addr} {odFI anFI:Option Addr} {slFI:Array (Option Value)} {ocFI kVFI dcFI pmFI cdFI ctFI:Value}
 {fNQ:Addr} {odNQ anNQ:Option Addr} {slNQ:Array (Option Value)} {ocNQ kVNQ dcNQ pmNQ cdNQ ctNQ:Value}
 {fSU:Addr} {odSU anSU:Option Addr} {slSU:Array (Option Value)} {ocSU kVSU dcSU pmSU cdSU ctSU:Value}
 {fSG:Addr} {odSG anSG:Option Addr} {slSG:Array (Option Value)} {ocSG kVSG dcSG pmSG cdSG ctSG:Value}
 {fAM:Addr} {odAM anAM:Option Addr} {slAM:Array (Option Value)} {ocAM kVAM dcAM pmAM cdAM ctAM:Value}
 {fLE:Addr} {odLE anLE:Option Addr} {slLE:Array (Option Value)} {ocLE kVLE dcLE pmLE cdLE ctLE:Value}
 {fBE:Addr} {odBE anBE:Option Addr} {slBE:Array (Option Value)} {ocBE kVBE dcBE pmBE cdBE ctBE:Value}
 {fAB:Addr} {odAB anAB:Option Addr} {slAB:Array (Option Value)} {ocAB kVAB dcAB pmAB cdAB ctAB:Value}
 {fEQ:Addr} {odEQ anEQ:Option Addr} {slEQ:Array (Option Value)} {ocEQ kVEQ dcEQ pmEQ cdEQ ctEQ:Value}
 {fRW:Addr} {odRW anRW:Option Addr} {slRW:Array (Option Value)} {ocRW kVRW dcRW pmRW cdRW ctRW:Value}
 {fRA:Addr} {odRA anRA:Option Addr} {slRA:Array (Option Value)} {ocRA kVRA dcRA pmRA cdRA ctRA:Value}
 {fTW:Addr} {odTW anTW:Option Addr} {slTW:Array (Option Value)} {ocTW kVTW dcTW pmTW cdTW ctTW:Value}
 {fBG:Addr} {odBG anBG:Option Addr} {slBG:Array (Option Value)} {ocBG kVBG dcBG pmBG cdBG ctBG:Value}
 {fPU:Addr} {odPU anPU:Option Addr} {slPU:Array (Option Value)} {ocPU kVPU dcPU pmPU cdPU ctPU:Value}
 {fTI:Addr} {odTI anTI:Option Addr} {slTI:Array (Option Value)} {ocTI kVTI dcTI pmTI cdTI ctTI:Value}
 {fCL:Addr} {odCL anCL:Option Addr} {slCL:Array (Option Value)} {ocCL kVCL dcCL pmCL cdCL ctCL:Value}
 {fWA:Addr} {odWA anWA:Option Addr} {slWA:Array (Option Value)} {ocWA kVWA dcWA pmWA cdWA ctWA:Value}
 {fME:Addr} {odME anME:Option Addr} {slME:Array (Option Value)} {ocME kVME dcME pmME cdME ctME:Value}
 {fTB:Addr} {odTB anTB:Option Addr} {slTB:Array (Option Value)} {ocTB kVTB dcTB pmTB cdTB ctTB:Value}
 {fSX:Addr} {odSX anSX:Option Addr} {slSX:Array (Option Value)} {ocSX kVSX dcSX pmSX cdSX ctSX:Value}
 {fFE:Addr} {odFE anFE:Option Addr} {slFE:Array (Option Value)} {ocFE kVFE dcFE pmFE cdFE ctFE:Value}
 {fDR:Addr} {odDR anDR:Option Addr} {slDR:Array (Option Value)} {ocDR kVDR dcDR pmDR cdDR ctDR:Value}
 {fGR:Addr} {odGR anGR:Option Addr} {slGR:Array (Option Value)} {ocGR kVGR dcGR pmGR cdGR ctGR:Value}
 {fLO:Addr} {odLO anLO:Option Addr} {slLO:Array (Option Value)} {ocLO kVLO dcLO pmLO cdLO ctLO:Value}
 {fSH:Addr} {odSH anSH:Option Addr} {slSH:Array (Option Value)} {ocSH kVSH dcSH pmSH cdSH ctSH:Value}
 {fSM:Addr} {odSM anSM:Option Addr} {slSM:Array (Option Value)} {ocSM kVSM dcSM pmSM cdSM ctSM:Value}
 {fNM:Addr} {odNM anNM:Option Addr} {slNM:Array (Option Value)} {ocNM kVNM dcNM pmNM cdNM ctNM:Value}
 {fTE:Addr} {odTE anTE:Option Addr} {slTE:Array (Option Value)} {ocTE kVTE dcTE pmTE cdTE ctTE:Value}
 {fLS:Addr} {odLS anLS:Option Addr} {slLS:Array (Option Value)} {ocLS kVLS dcLS pmLS cdLS ctLS:Value}
 {fPA:Addr} {odPA anPA:Option Addr} {slPA:Array (Option Value)} {ocPA kVPA dcPA pmPA cdPA ctPA:Value}
 {fLF:Addr} {odLF anLF:Option Addr} {slLF:Array (Option Value)} {ocLF kVLF dcLF pmLF cdLF ctLF:Value}
 {fTT:Addr} {odTT anTT:Option Addr} {slTT:Array (Option Value)} {ocTT kVTT dcTT pmTT cdTT ctTT:Value}
 {fTR:Addr} {odTR anTR:Option Addr} {slTR:Array (Option Value)} {ocTR kVTR dcTR pmTR cdTR ctTR:Value}
 {fMT:Addr} {odMT anMT:Option Addr} {slMT:Array (Option Value)} {ocMT kVMT dcMT pmMT cdMT ctMT:Value}
 {fWR:Addr} {odWR anWR:Option Addr} {slWR:Array (Option Value)} {ocWR kVWR dcWR pmWR cdWR ctWR:Value}
 {fSA:Addr} {odSA anSA:Option Addr} {slSA:Array (Option Value)} {ocSA kVSA dcSA pmSA cdSA ctSA:Value}
 {fLA:Addr} {odLA anLA:Option Addr} {slLA:Array (Option Value)} {ocLA kVLA dcLA pmLA cdLA ctLA:Value}
 {Z:Addr} {dZ:Option Addr} {nZ:Nat} {sZ:Array (Option Value)} {t0 t1:Tok}
 {tPI tPW:Tok}
 {CB KD fBI:Addr} {odBI anBI:Option Addr} {slBI:Array (Option Value)} {ocBI kVBI dcBI pmBI cdBI ctBI:Value} {eKD:Array DictEntry} {cKD:Nat} {tL tC tB y1 y2 y3 y4 y5 y6 y7 y8 y9:Tok}
 (aCD:PySem.W.nsIn K mainGlobals "common_divisor"=some (some (.ref fCD)))
 (lCD:K.lookup fCD=some ⟨ocCD,odCD, .func (PySem.W.fnOf "common_divisor" "common_divisor" (ay sCd) (aw sCd) (ae sCd) .none kVCD dcCD pmCD anCD cdCD ctCD),slCD⟩)
 (cCD:PySem.W.codeIn K cdCD "common_divisor"=true)
 (kCD:PySem.W.keepIn K (.ref fCD)=true)
 (aFR:PySem.W.nsIn K mainGlobals "fraction"=some (some (.ref fFR)))
 (lFR:K.lookup fFR=some ⟨ocFR,odFR, .func (PySem.W.fnOf "fraction" "fraction" (ay sFr) (aw sFr) (ae sFr) .none kVFR dcFR pmFR anFR cdFR ctFR),slFR⟩)
 (cFR:PySem.W.codeIn K cdFR "fraction"=true)
 (kFR:PySem.W.keepIn K (.ref fFR)=true)
 (aPL:PySem.W.nsIn K mainGlobals "plus"=some (some (.ref fPL)))
 (lPL:K.lookup fPL=some ⟨ocPL,odPL, .func (PySem.W.fnOf "plus" "plus" (ay iB) (aw iB) (ae iB) .none kVPL dcPL pmPL anPL cdPL ctPL),slPL⟩)
 (cPL:PySem.W.codeIn K cdPL "plus"=true)
 (kPL:PySem.W.keepIn K (.ref fPL)=true)
 (aTM:PySem.W.nsIn K mainGlobals "times"=some (some (.ref fTM)))
 (lTM:K.lookup fTM=some ⟨ocTM,odTM, .func (PySem.W.fnOf "times" "times" (ay fg) (aw fg) (ae fg) .none kVTM dcTM pmTM anTM cdTM ctTM),slTM⟩)
 (cTM:PySem.W.codeIn K cdTM "times"=true)
 (kTM:PySem.W.keepIn K (.ref fTM)=true)
 (aCO:PySem.W.nsIn K mainGlobals "contrary"=some (some (.ref fCO)))
 (lCO:K.lookup fCO=some ⟨ocCO,odCO, .func (PySem.W.fnOf "contrary" "contrary" (ay fq) (aw fq) (ae fq) .none kVCO dcCO pmCO anCO cdCO ctCO),slCO⟩)
 (cCO:PySem.W.codeIn K cdCO "contrary"=true)
 (kCO:PySem.W.keepIn K (.ref fCO)=true)
 (aFG:PySem.W.nsIn K mainGlobals "figures_of"=some (some (.ref fFG)))
 (lFG:K.lookup fFG=some ⟨ocFG,odFG, .func (PySem.W.fnOf "figures_of" "figures_of" (ay sFg) (aw sFg) (ae sFg) .none kVFG dcFG pmFG anFG cdFG ctFG),slFG⟩)
 (cFG:PySem.W.codeIn K cdFG "figures_of"=true)
 (kFG:PySem.W.keepIn K (.ref fFG)=true)
 (aAF:PySem.W.nsIn K mainGlobals "are_figures"=some (some (.ref fAF)))
 (lAF:K.lookup fAF=some ⟨ocAF,odAF, .func (PySem.W.fnOf "are_figures" "are_figures" (ay sAf) (aw sAf) (ae sAf) .none kVAF dcAF pmAF anAF cdAF ctAF),slAF⟩)
 (cAF:PySem.W.codeIn K cdAF "are_figures"=true)
 (kAF:PySem.W.keepIn K (.ref fAF)=true)
 (aNO:PySem.W.nsIn K mainGlobals "number_of"=some (some (.ref fNO)))
 (lNO:K.lookup fNO=some ⟨ocNO,odNO, .func (PySem.W.fnOf "number_of" "number_of" (ay sNo) (aw sNo) (ae sNo) .none kVNO dcNO pmNO anNO cdNO ctNO),slNO⟩)
 (cNO:PySem.W.codeIn K cdNO "number_of"=true)
 (kNO:PySem.W.keepIn K (.ref fNO)=true)
 (aFT:PySem.W.nsIn K mainGlobals "fraction_text"=some (some (.ref fFT)))
 (lFT:K.lookup fFT=some ⟨ocFT,odFT, .func (PySem.W.fnOf "fraction_text" "fraction_text" (ay sFt) (aw sFt) (ae sFt) .none kVFT dcFT pmFT anFT cdFT ctFT),slFT⟩)
 (cFT:PySem.W.codeIn K cdFT "fraction_text"=true)
 (kFT:PySem.W.keepIn K (.ref fFT)=true)
 (aFI:PySem.W.nsIn K mainGlobals "fraction_in"=some (some (.ref fFI)))
 (lFI:K.lookup fFI=some ⟨ocFI,odFI, .func (PySem.W.fnOf "fraction_in" "fraction_in" (ay sFi) (aw sFi) (ae sFi) .none kVFI dcFI pmFI anFI cdFI ctFI),slFI⟩)
 (cFI:PySem.W.codeIn K cdFI "fraction_in"=true)
 (kFI:PySem.W.keepIn K (.ref fFI)=true)
 (aNQ:PySem.W.nsIn K mainGlobals "is_name"=some (some (.ref fNQ)))
 (lNQ:K.lookup fNQ=some ⟨ocNQ,odNQ, .func (PySem.W.fnOf "is_name" "is_name" (ay sNmQ) (aw sNmQ) (ae sNmQ) .none kVNQ dcNQ pmNQ anNQ cdNQ ctNQ),slNQ⟩)
 (cNQ:PySem.W.codeIn K cdNQ "is_name"=true)
 (kNQ:PySem.W.keepIn K (.ref fNQ)=true)
 (aSU:PySem.W.nsIn K mainGlobals "sum_of"=some (some (.ref fSU)))
 (lSU:K.lookup fSU=some ⟨ocSU,odSU, .func (PySem.W.fnOf "sum_of" "sum_of" (ay sSum) (aw sSum) (ae sSum) .none kVSU dcSU pmSU anSU cdSU ctSU),slSU⟩)
 (cSU:PySem.W.codeIn K cdSU "sum_of"=true)
 (kSU:PySem.W.keepIn K (.ref fSU)=true)
 (aSG:PySem.W.nsIn K mainGlobals "sum_times"=some (some (.ref fSG)))
 (lSG:K.lookup fSG=some ⟨ocSG,odSG, .func (PySem.W.fnOf "sum_times" "sum_times" (ay dw) (aw dw) (ae dw) .none kVSG dcSG pmSG anSG cdSG ctSG),slSG⟩)
 (cSG:PySem.W.codeIn K cdSG "sum_times"=true)
 (kSG:PySem.W.keepIn K (.ref fSG)=true)
 (aAM:PySem.W.nsIn K mainGlobals "at_most"=some (some (.ref fAM)))
 (lAM:K.lookup fAM=some ⟨ocAM,odAM, .func (PySem.W.fnOf "at_most" "at_most" (ay dH) (aw dH) (ae dH) .none kVAM dcAM pmAM anAM cdAM ctAM),slAM⟩)
 (cAM:PySem.W.codeIn K cdAM "at_most"=true)
 (kAM:PySem.W.keepIn K (.ref fAM)=true)
 (aLE:PySem.W.nsIn K mainGlobals "at_least"=some (some (.ref fLE)))
 (lLE:K.lookup fLE=some ⟨ocLE,odLE, .func (PySem.W.fnOf "at_least" "at_least" (ay cU) (aw cU) (ae cU) .none kVLE dcLE pmLE anLE cdLE ctLE),slLE⟩)
 (cLE:PySem.W.codeIn K cdLE "at_least"=true)
 (kLE:PySem.W.keepIn K (.ref fLE)=true)
 (aBE:PySem.W.nsIn K mainGlobals "below"=some (some (.ref fBE)))
 (lBE:K.lookup fBE=some ⟨ocBE,odBE, .func (PySem.W.fnOf "below" "below" (ay ft) (aw ft) (ae ft) .none kVBE dcBE pmBE anBE cdBE ctBE),slBE⟩)
 (cBE:PySem.W.codeIn K cdBE "below"=true)
 (kBE:PySem.W.keepIn K (.ref fBE)=true)
 (aAB:PySem.W.nsIn K mainGlobals "above"=some (some (.ref fAB)))
 (lAB:K.lookup fAB=some ⟨ocAB,odAB, .func (PySem.W.fnOf "above" "above" (ay fu) (aw fu) (ae fu) .none kVAB dcAB pmAB anAB cdAB ctAB),slAB⟩)
 (cAB:PySem.W.codeIn K cdAB "above"=true)
 (kAB:PySem.W.keepIn K (.ref fAB)=true)
 (aEQ:PySem.W.nsIn K mainGlobals "equal"=some (some (.ref fEQ)))
 (lEQ:K.lookup fEQ=some ⟨ocEQ,odEQ, .func (PySem.W.fnOf "equal" "equal" (ay fo) (aw fo) (ae fo) .none kVEQ dcEQ pmEQ anEQ cdEQ ctEQ),slEQ⟩)
 (cEQ:PySem.W.codeIn K cdEQ "equal"=true)
 (kEQ:PySem.W.keepIn K (.ref fEQ)=true)
 (aRW:PySem.W.nsIn K mainGlobals "read_wish"=some (some (.ref fRW)))
 (lRW:K.lookup fRW=some ⟨ocRW,odRW, .func (PySem.W.fnOf "read_wish" "read_wish" (ay sRdW) (aw sRdW) (ae sRdW) .none kVRW dcRW pmRW anRW cdRW ctRW),slRW⟩)
 (cRW:PySem.W.codeIn K cdRW "read_wish"=true)
 (kRW:PySem.W.keepIn K (.ref fRW)=true)
 (aRA:PySem.W.nsIn K mainGlobals "read_as"=some (some (.ref fRA)))
 (lRA:K.lookup fRA=some ⟨ocRA,odRA, .func (PySem.W.fnOf "read_as" "read_as" (ay sRdA) (aw sRdA) (ae sRdA) .none kVRA dcRA pmRA anRA cdRA ctRA),slRA⟩)
 (cRA:PySem.W.codeIn K cdRA "read_as"=true)
 (kRA:PySem.W.keepIn K (.ref fRA)=true)
 (aTW:PySem.W.nsIn K mainGlobals "takes_word"=some (some (.ref fTW)))
 (lTW:K.lookup fTW=some ⟨ocTW,odTW, .func (PySem.W.fnOf "takes_word" "takes_word" (ay sTkW) (aw sTkW) (ae sTkW) .none kVTW dcTW pmTW anTW cdTW ctTW),slTW⟩)
 (cTW:PySem.W.codeIn K cdTW "takes_word"=true)
 (kTW:PySem.W.keepIn K (.ref fTW)=true)
 (aBG:PySem.W.nsIn K mainGlobals "begins"=some (some (.ref fBG)))
 (lBG:K.lookup fBG=some ⟨ocBG,odBG, .func (PySem.W.fnOf "begins" "begins" (ay sBeg) (aw sBeg) (ae sBeg) .none kVBG dcBG pmBG anBG cdBG ctBG),slBG⟩)
 (cBG:PySem.W.codeIn K cdBG "begins"=true)
 (kBG:PySem.W.keepIn K (.ref fBG)=true)
 (aPU:PySem.W.nsIn K mainGlobals "is_put"=some (some (.ref fPU)))
 (lPU:K.lookup fPU=some ⟨ocPU,odPU, .func (PySem.W.fnOf "is_put" "is_put" (ay sPut) (aw sPut) (ae sPut) .none kVPU dcPU pmPU anPU cdPU ctPU),slPU⟩)
 (cPU:PySem.W.codeIn K cdPU "is_put"=true)
 (kPU:PySem.W.keepIn K (.ref fPU)=true)
 (aTI:PySem.W.nsIn K mainGlobals "thing_in"=some (some (.ref fTI)))
 (lTI:K.lookup fTI=some ⟨ocTI,odTI, .func (PySem.W.fnOf "thing_in" "thing_in" (ay sThI) (aw sThI) (ae sThI) .none kVTI dcTI pmTI anTI cdTI ctTI),slTI⟩)
 (cTI:PySem.W.codeIn K cdTI "thing_in"=true)
 (kTI:PySem.W.keepIn K (.ref fTI)=true)
 (aCL:PySem.W.nsIn K mainGlobals "closes"=some (some (.ref fCL)))
 (lCL:K.lookup fCL=some ⟨ocCL,odCL, .func (PySem.W.fnOf "closes" "closes" (ay sClo) (aw sClo) (ae sClo) .none kVCL dcCL pmCL anCL cdCL ctCL),slCL⟩)
 (cCL:PySem.W.codeIn K cdCL "closes"=true)
 (kCL:PySem.W.keepIn K (.ref fCL)=true)
 (aWA:PySem.W.nsIn K mainGlobals "wanted"=some (some (.ref fWA)))
 (lWA:K.lookup fWA=some ⟨ocWA,odWA, .func (PySem.W.fnOf "wanted" "wanted" (ay sWan) (aw sWan) (ae sWan) .none kVWA dcWA pmWA anWA cdWA ctWA),slWA⟩)
 (cWA:PySem.W.codeIn K cdWA "wanted"=true)
 (kWA:PySem.W.keepIn K (.ref fWA)=true)
 (aME:PySem.W.nsIn K mainGlobals "may_end"=some (some (.ref fME)))
 (lME:K.lookup fME=some ⟨ocME,odME, .func (PySem.W.fnOf "may_end" "may_end" (ay sMay) (aw sMay) (ae sMay) .none kVME dcME pmME anME cdME ctME),slME⟩)
 (cME:PySem.W.codeIn K cdME "may_end"=true)
 (kME:PySem.W.keepIn K (.ref fME)=true)
 (aTB:PySem.W.nsIn K mainGlobals "told_by"=some (some (.ref fTB)))
 (lTB:K.lookup fTB=some ⟨ocTB,odTB, .func (PySem.W.fnOf "told_by" "told_by" (ay sTby) (aw sTby) (ae sTby) .none kVTB dcTB pmTB anTB cdTB ctTB),slTB⟩)
 (cTB:PySem.W.codeIn K cdTB "told_by"=true)
 (kTB:PySem.W.keepIn K (.ref fTB)=true)
 (aSX:PySem.W.nsIn K mainGlobals "sum_wish"=some (some (.ref fSX)))
 (lSX:K.lookup fSX=some ⟨ocSX,odSX, .func (PySem.W.fnOf "sum_wish" "sum_wish" (ay sSuW) (aw sSuW) (ae sSuW) .none kVSX dcSX pmSX anSX cdSX ctSX),slSX⟩)
 (cSX:PySem.W.codeIn K cdSX "sum_wish"=true)
 (kSX:PySem.W.keepIn K (.ref fSX)=true)
 (aFE:PySem.W.nsIn K mainGlobals "_law_feed"=some (some (.ref fFE)))
 (lFE:K.lookup fFE=some ⟨ocFE,odFE, .func (PySem.W.fnOf "_law_feed" "_law_feed" (ay iE) (aw iE) (ae iE) .none kVFE dcFE pmFE anFE cdFE ctFE),slFE⟩)
 (cFE:PySem.W.codeIn K cdFE "_law_feed"=true)
 (kFE:PySem.W.keepIn K (.ref fFE)=true)
 (aDR:PySem.W.nsIn K mainGlobals "_law_draw"=some (some (.ref fDR)))
 (lDR:K.lookup fDR=some ⟨ocDR,odDR, .func (PySem.W.fnOf "_law_draw" "_law_draw" (ay de) (aw de) (ae de) .none kVDR dcDR pmDR anDR cdDR ctDR),slDR⟩)
 (cDR:PySem.W.codeIn K cdDR "_law_draw"=true)
 (kDR:PySem.W.keepIn K (.ref fDR)=true)
 (aGR:PySem.W.nsIn K mainGlobals "_law_great"=some (some (.ref fGR)))
 (lGR:K.lookup fGR=some ⟨ocGR,odGR, .func (PySem.W.fnOf "_law_great" "_law_great" (ay dc) (aw dc) (ae dc) .none kVGR dcGR pmGR anGR cdGR ctGR),slGR⟩)
 (cGR:PySem.W.codeIn K cdGR "_law_great"=true)
 (kGR:PySem.W.keepIn K (.ref fGR)=true)
 (aLO:PySem.W.nsIn K mainGlobals "_law_lowest"=some (some (.ref fLO)))
 (lLO:K.lookup fLO=some ⟨ocLO,odLO, .func (PySem.W.fnOf "_law_lowest" "_law_lowest" (ay sLow) (aw sLow) (ae sLow) .none kVLO dcLO pmLO anLO cdLO ctLO),slLO⟩)
 (cLO:PySem.W.codeIn K cdLO "_law_lowest"=true)
 (kLO:PySem.W.keepIn K (.ref fLO)=true)
 (aSH:PySem.W.nsIn K mainGlobals "_law_share"=some (some (.ref fSH)))
 (lSH:K.lookup fSH=some ⟨ocSH,odSH, .func (PySem.W.fnOf "_law_share" "_law_share" (ay fj) (aw fj) (ae fj) .none kVSH dcSH pmSH anSH cdSH ctSH),slSH⟩)
 (cSH:PySem.W.codeIn K cdSH "_law_share"=true)
 (kSH:PySem.W.keepIn K (.ref fSH)=true)
 (aSM:PySem.W.nsIn K mainGlobals "_law_small"=some (some (.ref fSM)))
 (lSM:K.lookup fSM=some ⟨ocSM,odSM, .func (PySem.W.fnOf "_law_small" "_law_small" (ay fh) (aw fh) (ae fh) .none kVSM dcSM pmSM anSM cdSM ctSM),slSM⟩)
 (cSM:PySem.W.codeIn K cdSM "_law_small"=true)
 (kSM:PySem.W.keepIn K (.ref fSM)=true)
 (aNM:PySem.W.nsIn K mainGlobals "_law_names"=some (some (.ref fNM)))
 (lNM:K.lookup fNM=some ⟨ocNM,odNM, .func (PySem.W.fnOf "_law_names" "_law_names" (ay fm) (aw fm) (ae fm) .none kVNM dcNM pmNM anNM cdNM ctNM),slNM⟩)
 (cNM:PySem.W.codeIn K cdNM "_law_names"=true)
 (kNM:PySem.W.keepIn K (.ref fNM)=true)
 (aTE:PySem.W.nsIn K mainGlobals "_law_term"=some (some (.ref fTE)))
 (lTE:K.lookup fTE=some ⟨ocTE,odTE, .func (PySem.W.fnOf "_law_term" "_law_term" (ay iz) (aw iz) (ae iz) .none kVTE dcTE pmTE anTE cdTE ctTE),slTE⟩)
 (cTE:PySem.W.codeIn K cdTE "_law_term"=true)
 (kTE:PySem.W.keepIn K (.ref fTE)=true)
 (aLS:PySem.W.nsIn K mainGlobals "_law_sum"=some (some (.ref fLS)))
 (lLS:K.lookup fLS=some ⟨ocLS,odLS, .func (PySem.W.fnOf "_law_sum" "_law_sum" (ay iC) (aw iC) (ae iC) .none kVLS dcLS pmLS anLS cdLS ctLS),slLS⟩)
 (cLS:PySem.W.codeIn K cdLS "_law_sum"=true)
 (kLS:PySem.W.keepIn K (.ref fLS)=true)
 (aPA:PySem.W.nsIn K mainGlobals "_law_pairs"=some (some (.ref fPA)))
 (lPA:K.lookup fPA=some ⟨ocPA,odPA, .func (PySem.W.fnOf "_law_pairs" "_law_pairs" (ay fk) (aw fk) (ae fk) .none kVPA dcPA pmPA anPA cdPA ctPA),slPA⟩)
 (cPA:PySem.W.codeIn K cdPA "_law_pairs"=true)
 (kPA:PySem.W.keepIn K (.ref fPA)=true)
 (aLF:PySem.W.nsIn K mainGlobals "_law_figures"=some (some (.ref fLF)))
 (lLF:K.lookup fLF=some ⟨ocLF,odLF, .func (PySem.W.fnOf "_law_figures" "_law_figures" (ay iD) (aw iD) (ae iD) .none kVLF dcLF pmLF anLF cdLF ctLF),slLF⟩)
 (cLF:PySem.W.codeIn K cdLF "_law_figures"=true)
 (kLF:PySem.W.keepIn K (.ref fLF)=true)
 (aTT:PySem.W.nsIn K mainGlobals "_law_term_text"=some (some (.ref fTT)))
 (lTT:K.lookup fTT=some ⟨ocTT,odTT, .func (PySem.W.fnOf "_law_term_text" "_law_term_text" (ay sTTx) (aw sTTx) (ae sTTx) .none kVTT dcTT pmTT anTT cdTT ctTT),slTT⟩)
 (cTT:PySem.W.codeIn K cdTT "_law_term_text"=true)
 (kTT:PySem.W.keepIn K (.ref fTT)=true)
 (aTR:PySem.W.nsIn K mainGlobals "_law_turned"=some (some (.ref fTR)))
 (lTR:K.lookup fTR=some ⟨ocTR,odTR, .func (PySem.W.fnOf "_law_turned" "_law_turned" (ay sTrn) (aw sTrn) (ae sTrn) .none kVTR dcTR pmTR anTR cdTR ctTR),slTR⟩)
 (cTR:PySem.W.codeIn K cdTR "_law_turned"=true)
 (kTR:PySem.W.keepIn K (.ref fTR)=true)
 (aMT:PySem.W.nsIn K mainGlobals "_law_meant"=some (some (.ref fMT)))
 (lMT:K.lookup fMT=some ⟨ocMT,odMT, .func (PySem.W.fnOf "_law_meant" "_law_meant" (ay sMea) (aw sMea) (ae sMea) .none kVMT dcMT pmMT anMT cdMT ctMT),slMT⟩)
 (cMT:PySem.W.codeIn K cdMT "_law_meant"=true)
 (kMT:PySem.W.keepIn K (.ref fMT)=true)
 (aWR:PySem.W.nsIn K mainGlobals "_law_written"=some (some (.ref fWR)))
 (lWR:K.lookup fWR=some ⟨ocWR,odWR, .func (PySem.W.fnOf "_law_written" "_law_written" (ay sWri) (aw sWri) (ae sWri) .none kVWR dcWR pmWR anWR cdWR ctWR),slWR⟩)
 (cWR:PySem.W.codeIn K cdWR "_law_written"=true)
 (kWR:PySem.W.keepIn K (.ref fWR)=true)
 (aSA:PySem.W.nsIn K mainGlobals "_law_same"=some (some (.ref fSA)))
 (lSA:K.lookup fSA=some ⟨ocSA,odSA, .func (PySem.W.fnOf "_law_same" "_law_same" (ay iA) (aw iA) (ae iA) .none kVSA dcSA pmSA anSA cdSA ctSA),slSA⟩)
 (cSA:PySem.W.codeIn K cdSA "_law_same"=true)
 (kSA:PySem.W.keepIn K (.ref fSA)=true)
 (aLA:PySem.W.nsIn K mainGlobals "law"=some (some (.ref fLA)))
 (lLA:K.lookup fLA=some ⟨ocLA,odLA, .func (PySem.W.fnOf "law" "law" (ay sLaw) (aw sLaw) (ae sLaw) .none kVLA dcLA pmLA anLA cdLA ctLA),slLA⟩)
 (cLA:PySem.W.codeIn K cdLA "law"=true)
 (kLA:PySem.W.keepIn K (.ref fLA)=true)
 (aZ:PySem.W.nsIn K mainGlobals "ZERO"=some (some (.ref Z)))
 (lZ:K.lookup Z=some ⟨.type "tuple",dZ, .seq #[.int 0 t0, .int 1 t1] nZ,sZ⟩)
 (z_abs:PySem.W.nsIn K mainGlobals "abs"=some none)
 (z_len:PySem.W.nsIn K mainGlobals "len"=some none)
 (z_range:PySem.W.nsIn K mainGlobals "range"=some none)
 (z_isinstance:PySem.W.nsIn K mainGlobals "isinstance"=some none)
 (z_tuple:PySem.W.nsIn K mainGlobals "tuple"=some none)
 (z_int:PySem.W.nsIn K mainGlobals "int"=some none)
 (z_bool:PySem.W.nsIn K mainGlobals "bool"=some none)
 (z_list:PySem.W.nsIn K mainGlobals "list"=some none)
 (z_str:PySem.W.nsIn K mainGlobals "str"=some none)
 (z_all:PySem.W.nsIn K mainGlobals "all"=some none)
 (z_any:PySem.W.nsIn K mainGlobals "any"=some none)
 (z_sum:PySem.W.nsIn K mainGlobals "sum"=some none)
 (z_zip:PySem.W.nsIn K mainGlobals "zip"=some none)
 (z_sorted:PySem.W.nsIn K mainGlobals "sorted"=some none)
 (z_ValueError:PySem.W.nsIn K mainGlobals "ValueError"=some none)
 (z_enumerate:PySem.W.nsIn K mainGlobals "enumerate"=some none)
 (z_reversed:PySem.W.nsIn K mainGlobals "reversed"=some none)
 (aPI:PySem.W.nsIn K mainGlobals "PIECE"=some (some (.int 64 tPI)))
 (aPW:PySem.W.nsIn K mainGlobals "PIECE_WORTH"=some (some (.int ((PW:Nat):Int) tPW)))
 (aCB:PySem.W.nsIn K mainGlobals "Bracket"=some (some (.ref CB)))
 (aBI:PySem.W.findIn K (.ref CB) "__init__"=some (some (.ref fBI)))
 (nBI:PySem.W.isFn K (.ref fBI)=true)
 (lBI:K.lookup fBI=some ⟨ocBI,odBI, .func (PySem.W.fnOf "__init__" "Bracket.__init__" (ay iF) (aw iF) (ae iF) .none kVBI dcBI pmBI anBI cdBI ctBI),slBI⟩)
 (cBI:PySem.W.codeIn K cdBI "Bracket.__init__"=true)
 (kBI:PySem.W.keepIn K (.ref fBI)=true)
 (kCB:PySem.W.keepIn K (.ref CB)=true)
 (qM:PySem.W.makesIn K CB=true)
 (qG:PySem.W.plainGet K CB Str.empty=true)
 (qD:PySem.W.hasDictIn K CB=true)
 (qO:PySem.W.plainOver K CB=true)
 (qS:PySem.W.findIn K (.ref CB) "__setattr__"=some (some (.builtin "object.__setattr__")))
 (qK:PySem.W.findIn K (.ref CB) "kind"=some none)
 (qF:PySem.W.findIn K (.ref CB) "first"=some none)
 (qT:PySem.W.findIn K (.ref CB) "things"=some none)
 (aML:PySem.W.nsIn K mainGlobals "MOST_LETTERS"=some (some (.int 8 tL)))
 (aMC:PySem.W.nsIn K mainGlobals "MOST_IN_CALL"=some (some (.int 3 tC)))
 (aMB:PySem.W.nsIn K mainGlobals "MOST_BRACKETS"=some (some (.int 30 tB)))
 (aKD:PySem.W.nsIn K mainGlobals "KINDS"=some (some (.ref KD)))
 (lKD:K.lookup KD=some ⟨.type "dict",none, .dict eKD cKD, #[]⟩)
 (x1:PySem.W.nsIn K KD "not"=some (some (.str "not" y1)))
 (x2:PySem.W.nsIn K KD "all"=some (some (.str "all" y2)))
 (x3:PySem.W.nsIn K KD "any"=some (some (.str "any" y3)))
 (x4:PySem.W.nsIn K KD "like"=some (some (.str "like" y4)))
 (x5:PySem.W.nsIn K KD "most"=some (some (.str "sum" y5)))
 (x6:PySem.W.nsIn K KD "least"=some (some (.str "sum" y6)))
 (x7:PySem.W.nsIn K KD "below"=some (some (.str "sum" y7)))
 (x8:PySem.W.nsIn K KD "above"=some (some (.str "sum" y8)))
 (x9:PySem.W.nsIn K KD "equal"=some (some (.str "sum" y9)))
 (kKD:PySem.W.KeysLit w.params eKD.toList)
 (nKD:(KD==sysModules)=false):
 ∃fd:FuncData,(∀(s:Shared) (v:Value),BindsTo s fd ⟨[v],[]⟩ [("_law_script",v)])∧∀base:Heap,K.In base→base.Ns mainGlobals mg→FnOk l.prog w K mg base CX0 22 fa fd ["_law_script"] (mO K):=by
 have e:=hfa.symm.trans (PySem.W.mg_of X G aLA)
 cases e
 have B:Blt mg:=⟨PySem.W.mg_none_of X G z_abs,PySem.W.mg_none_of X G z_len,PySem.W.mg_none_of X G z_range,PySem.W.mg_none_of X G z_isinstance,PySem.W.mg_none_of X G z_tuple,PySem.W.mg_none_of X G z_int,PySem.W.mg_none_of X G z_bool,PySem.W.mg_none_of X G z_list,PySem.W.mg_none_of X G z_str,PySem.W.mg_none_of X G z_all,PySem.W.mg_none_of X G z_any,PySem.W.mg_none_of X G z_sum,PySem.W.mg_none_of X G z_zip,PySem.W.mg_none_of X G z_sorted,PySem.W.mg_none_of X G z_ValueError,PySem.W.mg_none_of X G z_enumerate,PySem.W.mg_none_of X G z_reversed⟩
 have FCD:=aF (st:=sCd) lCD cCD kCD
 have bCD:=FCD.binds (ps:= ["one","other"]) fun _ _ _ _ _ _ us hl=>by obtain ⟨_,_,rfl⟩:=ex2 us hl;rfl
 have mCD:=PySem.W.mg_of X G aCD
 have FFR:=aF (st:=sFr) lFR cFR kFR
 have bFR:=FFR.binds (ps:= ["top","bottom"]) fun _ _ _ _ _ _ us hl=>by obtain ⟨_,_,rfl⟩:=ex2 us hl;rfl
 have mFR:=PySem.W.mg_of X G aFR
 have FPL:=aF (st:=iB) lPL cPL kPL
 have bPL:=FPL.binds (ps:= ["one","other"]) fun _ _ _ _ _ _ us hl=>by obtain ⟨_,_,rfl⟩:=ex2 us hl;rfl
 have mPL:=PySem.W.mg_of X G aPL
 have FTM:=aF (st:=fg) lTM cTM kTM
 have bTM:=FTM.binds (ps:= ["one","other"]) fun _ _ _ _ _ _ us hl=>by obtain ⟨_,_,rfl⟩:=ex2 us hl;rfl
 have mTM:=PySem.W.mg_of X G aTM
 have FCO:=aF (st:=fq) lCO cCO kCO
 have bCO:=FCO.binds (ps:= ["one"]) fun _ _ _ _ _ _ us hl=>by obtain ⟨_,rfl⟩:=ex1 us hl;rfl
 have mCO:=PySem.W.mg_of X G aCO
 have FFG:=aF (st:=sFg) lFG cFG kFG
 have bFG:=FFG.binds (ps:= ["number"]) fun _ _ _ _ _ _ us hl=>by obtain ⟨_,rfl⟩:=ex1 us hl;rfl
 have mFG:=PySem.W.mg_of X G aFG
 have FAF:=aF (st:=sAf) lAF cAF kAF
 have bAF:=FAF.binds (ps:= ["text"]) fun _ _ _ _ _ _ us hl=>by obtain ⟨_,rfl⟩:=ex1 us hl;rfl
 have mAF:=PySem.W.mg_of X G aAF
 have FNO:=aF (st:=sNo) lNO cNO kNO
 have bNO:=FNO.binds (ps:= ["figures"]) fun _ _ _ _ _ _ us hl=>by obtain ⟨_,rfl⟩:=ex1 us hl;rfl
 have mNO:=PySem.W.mg_of X G aNO
 have FFT:=aF (st:=sFt) lFT cFT kFT
 have bFT:=FFT.binds (ps:= ["one"]) fun _ _ _ _ _ _ us hl=>by obtain ⟨_,rfl⟩:=ex1 us hl;rfl
 have mFT:=PySem.W.mg_of X G aFT
 have FFI:=aF (st:=sFi) lFI cFI kFI
 have bFI:=FFI.binds (ps:= ["text"]) fun _ _ _ _ _ _ us hl=>by obtain ⟨_,rfl⟩:=ex1 us hl;rfl
 have mFI:=PySem.W.mg_of X G aFI
 have FNQ:=aF (st:=sNmQ) lNQ cNQ kNQ
 have bNQ:=FNQ.binds (ps:= ["thing"]) fun _ _ _ _ _ _ us hl=>by obtain ⟨_,rfl⟩:=ex1 us hl;rfl
 have mNQ:=PySem.W.mg_of X G aNQ
 have FSU:=aF (st:=sSum) lSU cSU kSU
 have bSU:=FSU.binds (ps:= ["pairs"]) fun _ _ _ _ _ _ us hl=>by obtain ⟨_,rfl⟩:=ex1 us hl;rfl
 have mSU:=PySem.W.mg_of X G aSU
 have FSG:=aF (st:=dw) lSG cSG kSG
 have bSG:=FSG.binds (ps:= ["one","many"]) fun _ _ _ _ _ _ us hl=>by obtain ⟨_,_,rfl⟩:=ex2 us hl;rfl
 have mSG:=PySem.W.mg_of X G aSG
 have FAM:=aF (st:=dH) lAM cAM kAM
 have bAM:=FAM.binds (ps:= ["pairs","bound"]) fun _ _ _ _ _ _ us hl=>by obtain ⟨_,_,rfl⟩:=ex2 us hl;rfl
 have mAM:=PySem.W.mg_of X G aAM
 have FLE:=aF (st:=cU) lLE cLE kLE
 have bLE:=FLE.binds (ps:= ["pairs","bound"]) fun _ _ _ _ _ _ us hl=>by obtain ⟨_,_,rfl⟩:=ex2 us hl;rfl
 have mLE:=PySem.W.mg_of X G aLE
 have FBE:=aF (st:=ft) lBE cBE kBE
 have bBE:=FBE.binds (ps:= ["pairs","bound"]) fun _ _ _ _ _ _ us hl=>by obtain ⟨_,_,rfl⟩:=ex2 us hl;rfl
 have mBE:=PySem.W.mg_of X G aBE
 have FAB:=aF (st:=fu) lAB cAB kAB
 have bAB:=FAB.binds (ps:= ["pairs","bound"]) fun _ _ _ _ _ _ us hl=>by obtain ⟨_,_,rfl⟩:=ex2 us hl;rfl
 have mAB:=PySem.W.mg_of X G aAB
 have FEQ:=aF (st:=fo) lEQ cEQ kEQ
 have bEQ:=FEQ.binds (ps:= ["pairs","bound"]) fun _ _ _ _ _ _ us hl=>by obtain ⟨_,_,rfl⟩:=ex2 us hl;rfl
 have mEQ:=PySem.W.mg_of X G aEQ
 have FRW:=aF (st:=sRdW) lRW cRW kRW
 have bRW:=FRW.binds (ps:= ["text"]) fun _ _ _ _ _ _ us hl=>by obtain ⟨_,rfl⟩:=ex1 us hl;rfl
 have mRW:=PySem.W.mg_of X G aRW
 have FRA:=aF (st:=sRdA) lRA cRA kRA
 have bRA:=FRA.binds (ps:= ["want","text"]) fun _ _ _ _ _ _ us hl=>by obtain ⟨_,_,rfl⟩:=ex2 us hl;rfl
 have mRA:=PySem.W.mg_of X G aRA
 have FTW:=aF (st:=sTkW) lTW cTW kTW
 have bTW:=FTW.binds (ps:= ["brackets","word"]) fun _ _ _ _ _ _ us hl=>by obtain ⟨_,_,rfl⟩:=ex2 us hl;rfl
 have mTW:=PySem.W.mg_of X G aTW
 have FBG:=aF (st:=sBeg) lBG cBG kBG
 have bBG:=FBG.binds (ps:= ["brackets","first"]) fun _ _ _ _ _ _ us hl=>by obtain ⟨_,_,rfl⟩:=ex2 us hl;rfl
 have mBG:=PySem.W.mg_of X G aBG
 have FPU:=aF (st:=sPut) lPU cPU kPU
 have bPU:=FPU.binds (ps:= ["brackets","core"]) fun _ _ _ _ _ _ us hl=>by obtain ⟨_,_,rfl⟩:=ex2 us hl;rfl
 have mPU:=PySem.W.mg_of X G aPU
 have FTI:=aF (st:=sThI) lTI cTI kTI
 have bTI:=FTI.binds (ps:= ["core","want"]) fun _ _ _ _ _ _ us hl=>by obtain ⟨_,_,rfl⟩:=ex2 us hl;rfl
 have mTI:=PySem.W.mg_of X G aTI
 have FCL:=aF (st:=sClo) lCL cCL kCL
 have bCL:=FCL.binds (ps:= ["brackets"]) fun _ _ _ _ _ _ us hl=>by obtain ⟨_,rfl⟩:=ex1 us hl;rfl
 have mCL:=PySem.W.mg_of X G aCL
 have FWA:=aF (st:=sWan) lWA cWA kWA
 have bWA:=FWA.binds (ps:= ["bracket"]) fun _ _ _ _ _ _ us hl=>by obtain ⟨_,rfl⟩:=ex1 us hl;rfl
 have mWA:=PySem.W.mg_of X G aWA
 have FME:=aF (st:=sMay) lME cME kME
 have bME:=FME.binds (ps:= ["bracket"]) fun _ _ _ _ _ _ us hl=>by obtain ⟨_,rfl⟩:=ex1 us hl;rfl
 have mME:=PySem.W.mg_of X G aME
 have FTB:=aF (st:=sTby) lTB cTB kTB
 have bTB:=FTB.binds (ps:= ["bracket"]) fun _ _ _ _ _ _ us hl=>by obtain ⟨_,rfl⟩:=ex1 us hl;rfl
 have mTB:=PySem.W.mg_of X G aTB
 have FSX:=aF (st:=sSuW) lSX cSX kSX
 have bSX:=FSX.binds (ps:= ["first","pairs","bound"]) fun _ _ _ _ _ _ us hl=>by obtain ⟨_,_,_,rfl⟩:=ex3 us hl;rfl
 have mSX:=PySem.W.mg_of X G aSX
 have FFE:=aF (st:=iE) lFE cFE kFE
 have bFE:=FFE.binds (ps:= ["_law_script"]) fun _ _ _ _ _ _ us hl=>by obtain ⟨_,rfl⟩:=ex1 us hl;rfl
 have mFE:=PySem.W.mg_of X G aFE
 have FDR:=aF (st:=de) lDR cDR kDR
 have bDR:=FDR.binds (ps:= ["_law_feed_here","_law_many"]) fun _ _ _ _ _ _ us hl=>by obtain ⟨_,_,rfl⟩:=ex2 us hl;rfl
 have mDR:=PySem.W.mg_of X G aDR
 have FGR:=aF (st:=dc) lGR cGR kGR
 have bGR:=FGR.binds (ps:= ["_law_feed_here","_law_most"]) fun _ _ _ _ _ _ us hl=>by obtain ⟨_,_,rfl⟩:=ex2 us hl;rfl
 have mGR:=PySem.W.mg_of X G aGR
 have FLO:=aF (st:=sLow) lLO cLO kLO
 have bLO:=FLO.binds (ps:= ["_law_top","_law_bottom"]) fun _ _ _ _ _ _ us hl=>by obtain ⟨_,_,rfl⟩:=ex2 us hl;rfl
 have mLO:=PySem.W.mg_of X G aLO
 have FSH:=aF (st:=fj) lSH cSH kSH
 have bSH:=FSH.binds (ps:= ["_law_feed_here"]) fun _ _ _ _ _ _ us hl=>by obtain ⟨_,rfl⟩:=ex1 us hl;rfl
 have mSH:=PySem.W.mg_of X G aSH
 have FSM:=aF (st:=fh) lSM cSM kSM
 have bSM:=FSM.binds (ps:= ["_law_feed_here"]) fun _ _ _ _ _ _ us hl=>by obtain ⟨_,rfl⟩:=ex1 us hl;rfl
 have mSM:=PySem.W.mg_of X G aSM
 have FNM:=aF (st:=fm) lNM cNM kNM
 have bNM:=FNM.binds (ps:= ["_law_feed_here"]) fun _ _ _ _ _ _ us hl=>by obtain ⟨_,rfl⟩:=ex1 us hl;rfl
 have mNM:=PySem.W.mg_of X G aNM
 have FTE:=aF (st:=iz) lTE cTE kTE
 have bTE:=FTE.binds (ps:= ["_law_feed_here","_law_names_here","_law_deep"]) fun _ _ _ _ _ _ us hl=>by obtain ⟨_,_,_,rfl⟩:=ex3 us hl;rfl
 have mTE:=PySem.W.mg_of X G aTE
 have FLS:=aF (st:=iC) lLS cLS kLS
 have bLS:=FLS.binds (ps:= ["_law_pairs_here"]) fun _ _ _ _ _ _ us hl=>by obtain ⟨_,rfl⟩:=ex1 us hl;rfl
 have mLS:=PySem.W.mg_of X G aLS
 have FPA:=aF (st:=fk) lPA cPA kPA
 have bPA:=FPA.binds (ps:= ["_law_feed_here","_law_names_here","_law_deep","_law_most"]) fun _ _ _ _ _ _ us hl=>by obtain ⟨_,_,_,_,rfl⟩:=ex4 us hl;rfl
 have mPA:=PySem.W.mg_of X G aPA
 have FLF:=aF (st:=iD) lLF cLF kLF
 have bLF:=FLF.binds (ps:= ["_law_one"]) fun _ _ _ _ _ _ us hl=>by obtain ⟨_,rfl⟩:=ex1 us hl;rfl
 have mLF:=PySem.W.mg_of X G aLF
 have FTT:=aF (st:=sTTx) lTT cTT kTT
 have bTT:=FTT.binds (ps:= ["_law_term_here"]) fun _ _ _ _ _ _ us hl=>by obtain ⟨_,rfl⟩:=ex1 us hl;rfl
 have mTT:=PySem.W.mg_of X G aTT
 have FTR:=aF (st:=sTrn) lTR cTR kTR
 have bTR:=FTR.binds (ps:= ["_law_pairs_here"]) fun _ _ _ _ _ _ us hl=>by obtain ⟨_,rfl⟩:=ex1 us hl;rfl
 have mTR:=PySem.W.mg_of X G aTR
 have FMT:=aF (st:=sMea) lMT cMT kMT
 have bMT:=FMT.binds (ps:= ["_law_word","_law_pairs_here","_law_bound"]) fun _ _ _ _ _ _ us hl=>by obtain ⟨_,_,_,rfl⟩:=ex3 us hl;rfl
 have mMT:=PySem.W.mg_of X G aMT
 have FWR:=aF (st:=sWri) lWR cWR kWR
 have bWR:=FWR.binds (ps:= ["_law_word","_law_pairs_here","_law_bound"]) fun _ _ _ _ _ _ us hl=>by obtain ⟨_,_,_,rfl⟩:=ex3 us hl;rfl
 have mWR:=PySem.W.mg_of X G aWR
 have FSA:=aF (st:=iA) lSA cSA kSA
 have bSA:=FSA.binds (ps:= ["_law_found","_law_due"]) fun _ _ _ _ _ _ us hl=>by obtain ⟨_,_,rfl⟩:=ex2 us hl;rfl
 have mSA:=PySem.W.mg_of X G aSA
 have FLA:=aF (st:=sLaw) lLA cLA kLA
 have mZ:=PySem.W.mg_of X G aZ
 have hX:∀H:Hp,Dj.SqX K H Z [.int 0, .int 1]:=fun H=> .inr ⟨_,_,_,lZ,rfl,rfl,(by show 2≤sizeLine;decide), .cons ⟨t0,rfl⟩ (.cons ⟨t1,rfl⟩ .nil)⟩
 refine ⟨PySem.W.fnOf "law" "law" (ay sLaw) (aw sLaw) (ae sLaw) .none kVLA dcLA pmLA anLA cdLA ctLA,fun s v=> .of_eq rfl,fun base _ _=> ?_⟩
 have mP:=PySem.W.mg_of X G aPI
 have mW:=PySem.W.mg_of X G aPW
 have mCB:=PySem.W.mg_of X G aCB
 have mKD:=PySem.W.mg_of X G aKD
 have hCB:Rd.Bk K CB:=⟨⟨qG,qD,qO,qS⟩,qK,qF,qT⟩
 have hM:Mk K CB fBI:=⟨qM,aBI,nBI,kCB⟩
 have FBI:=aF (st:=iF) lBI cBI kBI
 have bBI:=FBI.binds (ps:= ["self","kind","first"]) fun _ _ _ _ _ _ us hl=>by obtain ⟨_,_,_,rfl⟩:=ex3 us hl;rfl
 have hKD:GdK w K KD Rd.Kn:=⟨⟨_,_,lKD,kKD⟩,nKD,fun k k' h=>by
  rcases h with ⟨rfl,rfl⟩|⟨rfl,rfl⟩|⟨rfl,rfl⟩|⟨rfl,rfl⟩|⟨rfl,rfl⟩|⟨rfl,rfl⟩|⟨rfl,rfl⟩|⟨rfl,rfl⟩|⟨rfl,rfl⟩
  · exact ⟨_,x1⟩
  · exact ⟨_,x2⟩
  · exact ⟨_,x3⟩
  · exact ⟨_,x4⟩
  · exact ⟨_,x5⟩
  · exact ⟨_,x6⟩
  · exact ⟨_,x7⟩
  · exact ⟨_,x8⟩
  · exact ⟨_,x9⟩⟩
 have hZ:∀H:Hp,SqT K H Z [.int 0, .int 1]:=fun H=>(hX H).sq
 have gFG:FnOk l.prog w K mg base CX0 1 fFG _ ["number"] spFg:=xj FFG B mP mW
 have gFT:FnOk l.prog w K mg base CX0 2 fFT _ ["one"] (spFt K):=xg FFT B gFG kFG bFG mFG
 have gDR:FnOk l.prog w K mg base CX0 1 fDR _ ["_law_feed_here","_law_many"] cN:=dR FDR B
 have gSM:FnOk l.prog w K mg base CX0 3 fSM _ ["_law_feed_here"] pL:=vC FSM FDR bDR mDR FGR bGR mGR FLO bLO mLO B
 have gSH:FnOk l.prog w K mg base CX0 3 fSH _ ["_law_feed_here"] pM:=vD FSH FDR bDR mDR FGR bGR mGR FLO bLO mLO B
 have gLO:FnOk l.prog w K mg base CX0 1 fLO _ ["_law_top","_law_bottom"] gO:=lJ FLO B
 have gTE:FnOk l.prog w K mg base CX0 4 fTE _ ["_law_feed_here","_law_names_here","_law_deep"] (lj 3):=tE FTE bTE mTE B FDR bDR mDR 3
 have gPA:FnOk l.prog w K mg base CX0 5 fPA _ ["_law_feed_here","_law_names_here","_law_deep","_law_most"] jd:=qN FPA B gDR kDR bDR mDR gTE kTE bTE mTE gSM kSM bSM mSM
 have gLS:FnOk l.prog w K mg base CX0 3 fLS _ ["_law_pairs_here"] lr:=tI FLS B gLO kLO bLO mLO
 have gFR:FnOk l.prog w K mg base CX0 3 fFR _ ["top","bottom"] spFr:=xh FFR FCD bCD mCD B
 have gAF:FnOk l.prog w K mg base CX0 1 fAF _ ["text"] spAf:=xm FAF
 have gNO:FnOk l.prog w K mg base CX0 1 fNO _ ["figures"] spNo:=xc FNO B mP mW
 have gFI:FnOk l.prog w K mg base CX0 4 fFI _ ["text"] spFi:=xi FFI B gAF kAF bAF mAF gNO kNO bNO mNO gFR kFR bFR mFR gFT kFT bFT mFT
 have gNQ:FnOk l.prog w K mg base CX0 1 fNQ _ ["thing"] spNq:=xb FNQ B (PySem.W.mg_of X G aML)
 have gPL:FnOk l.prog w K mg base CX0 2 fPL _ ["one","other"] (jc K):=tG FPL FCD bCD mCD B
 have gTM:FnOk l.prog w K mg base CX0 2 fTM _ ["one","other"] (jb K):=qL FTM FCD bCD mCD B
 have gSU:FnOk l.prog w K mg base CX0 3 fSU _ ["pairs"] jR:=vp FSU B gPL kPL bPL mPL mZ hZ
 have gSG:FnOk l.prog w K mg base CX0 4 fSG _ ["one","many"] gJ:=or FSG gSU kSU bSU mSU gTM kTM bTM mTM
 have gCO:FnOk l.prog w K mg base CX0 1 fCO _ ["one"] jg:=qU FCO
 have gAM:FnOk l.prog w K mg base CX0 4 fAM _ ["pairs","bound"] gK:=tH FAM gSU kSU bSU mSU
 have gLE:FnOk l.prog w K mg base CX0 5 fLE _ ["pairs","bound"] eO:=qQ FLE gSU kSU bSU mSU gSG kSG bSG mSG gCO kCO bCO mCO
 have gBE:FnOk l.prog w K mg base CX0 6 fBE _ ["pairs","bound"] jh:=qW FBE gLE kLE bLE mLE
 have gAB:FnOk l.prog w K mg base CX0 5 fAB _ ["pairs","bound"] ji:=qX FAB gAM kAM bAM mAM
 have gEQ:FnOk l.prog w K mg base CX0 6 fEQ _ ["pairs","bound"] jf:=qR FEQ gAM kAM bAM mAM gLE kLE bLE mLE
 have gSX:FnOk l.prog w K mg base CX0 7 fSX _ ["first","pairs","bound"] pK:=vo FSX gAM kAM bAM mAM gLE kLE bLE mLE gBE kBE bBE mBE gAB kAB bAB mAB gEQ kEQ bEQ mEQ
 have gBI:FnOk l.prog w K mg base CX0 1 fBI _ ["self","kind","first"] (spBi CB):=xk FBI hCB
 have gWA:FnOk l.prog w K mg base CX0 1 fWA _ ["bracket"] (mI CB):=vg FWA B hCB (PySem.W.mg_of X G aMC)
 have gME:FnOk l.prog w K mg base CX0 1 fME _ ["bracket"] (pR CB):=vy FME B hCB
 have gTI:FnOk l.prog w K mg base CX0 5 fTI _ ["core","want"] pH:=vk FTI gFI kFI bFI mFI gNQ kNQ bNQ mNQ
 have gPU:FnOk l.prog w K mg base CX0 6 fPU _ ["brackets","core"] (pP CB):=vw FPU hCB gTI kTI bTI mTI gWA kWA bWA mWA
 have gBG:FnOk l.prog w K mg base CX0 3 fBG _ ["brackets","first"] (pW CB):=vB FBG B hCB hM mCB gBI bBI gWA kWA bWA mWA gNQ kNQ bNQ mNQ mKD hKD (PySem.W.mg_of X G aMB)
 have gTB:FnOk l.prog w K mg base CX0 8 fTB _ ["bracket"] (pI CB):=vn FTB B hCB gSX kSX bSX mSX
 have gCL:FnOk l.prog w K mg base CX0 9 fCL _ ["brackets"] (pV CB):=vA FCL hCB gME kME bME mME gTB kTB bTB mTB
 have gTW:FnOk l.prog w K mg base CX0 10 fTW _ ["brackets","word"] (pG CB):=vj FTW B gBG kBG bBG mBG gPU kPU bPU mPU gCL kCL bCL mCL
 have gRA:FnOk l.prog w K mg base CX0 11 fRA _ ["want","text"] pO:=vv FRA B hCB hM mCB gBI bBI gTW kTW bTW mTW
 have gRW:FnOk l.prog w K mg base CX0 12 fRW _ ["text"] pN:=vq FRW gRA kRA bRA mRA
 have gSA:FnOk l.prog w K mg base CX0 21 fSA _ ["_law_found","_law_due"] (ln 20):=tF FSA bSA mSA B 20
 have gLF:FnOk l.prog w K mg base CX0 1 fLF _ ["_law_one"] (lu K):=tJ FLF B
 have gTT:FnOk l.prog w K mg base CX0 9 fTT _ ["_law_term_here"] (pJ 8):=vh FTT bTT mTT 8
 have gTR:FnOk l.prog w K mg base CX0 1 fTR _ ["_law_pairs_here"] pF:=vi FTR
 have gMT:FnOk l.prog w K mg base CX0 4 fMT _ ["_law_word","_law_pairs_here","_law_bound"] pQ:=vx FMT gLS kLS bLS mLS gTR kTR bTR mTR
 have gWR:FnOk l.prog w K mg base CX0 10 fWR _ ["_law_word","_law_pairs_here","_law_bound"] pD:=vf FWR gLF kLF bLF mLF gTT kTT bTT mTT
 exact vz FLA B (tK FFE B) kFE bFE mFE (qP FNM B FDR bDR mDR) kNM bNM mNM gDR kDR bDR mDR gPA kPA bPA mPA gSH kSH bSH mSH gWR kWR bWR mWR gMT kMT bMT mMT gRW kRW bRW mRW gSA kSA bSA mSA
theorem walk {l:PySem.W.OpenLaw} {q:Program} {loose:List Str} {XP:(Str→Option Value)→Heap→Prop} {YP:World→Heap→Prop} {d:DefRec} {K:Params→PySem.W.Frag} (hn:l.most=some 63) (hdf:d.params.defaults= [])
 (hY:∀(w:World) (h:Heap),YP w h→(K w.params).In h)
 (F:∀(w:World) (mg:Str→Option Value) (fa:Addr) (h:Heap),(K w.params).In h→h.Ns mainGlobals mg→mg d.name=some (.ref fa)→
  ∃fd:FuncData,(∀(s:Shared) (u:Value),BindsTo s fd ⟨[u],[]⟩ [("_law_script",u)])∧∀base:Heap,(K w.params).In base→base.Ns mainGlobals mg→FnOk l.prog w (K w.params) mg base CX0 22 fa fd ["_law_script"] (mO (K w.params))):
 PySem.W.WalkO q loose XP YP l.row.toRowW d [] (fun f vs=>PySem.call f vs):=
 L2.walk_of (n:=63) (k:=22) (x:="_law_script") (CX:=fun _=>CX0) (sp:=fun w=>mO (K w.params)) hn (by decide) hdf ⟨rfl,by decide,by decide,rfl⟩ hY F (fun _ _ a ns hl _ hS=>⟨a,ns,rfl,hS,hl,fun _=>rfl⟩) fun _ _ _ _ _ z=>z
end K12
def PySem.W.Fast.tw10977482331744893477:Unit:=()
def PySem.W.Fast.tw5477024048472707180:Unit:=()
def PySem.W.Fast.tw969346128216229355:Unit:=()
def PySem.W.Fast.tw10338469518124409617:Unit:=()
def PySem.W.Fast.tw6590653336098259660:Unit:=()
def PySem.W.Fast.tw11868724898408148412:Unit:=()
def PySem.W.Fast.tw15111401746973560233:Unit:=()
def PySem.W.Fast.tw9456937554627107197:Unit:=()
def PySem.W.Fast.tw15688981591271143474:Unit:=()
def PySem.W.Fast.tw3614165992334191593:Unit:=()
def PySem.W.Fast.tw525941185634273188:Unit:=()
def PySem.W.Fast.tw14240605212512283239:Unit:=()
def PySem.W.Fast.tw15213598595748092821:Unit:=()
def PySem.W.Fast.tw13874147713480635908:Unit:=()
def PySem.W.Fast.tw11317524295520459429:Unit:=()
def PySem.W.Fast.tw10024326982027628223:Unit:=()
def PySem.W.Fast.tw16769930439060517869:Unit:=()
def PySem.W.Fast.tw2250779261269789478:Unit:=()
def PySem.W.Fast.tw7777863921356228221:Unit:=()
def PySem.W.Fast.tw12690236359553469313:Unit:=()
def PySem.W.Fast.tw2307787645468275938:Unit:=()
def PySem.W.Fast.tw49284063538247956:Unit:=()
def PySem.W.Fast.tw14044501793979498114:Unit:=()
def PySem.W.Fast.tw8463586232810347496:Unit:=()
def PySem.W.Fast.tw5049126941793226264:Unit:=()
def PySem.W.Fast.tw819312193604599665:Unit:=()
def PySem.W.Fast.tw15853443518485275145:Unit:=()
def PySem.W.Fast.tw10136377637643596739:Unit:=()
def PySem.W.Fast.tw3493553045035984732:Unit:=()
def PySem.W.Fast.tw11240084657241092033:Unit:=()
def PySem.W.Fast.tw4190856235952069481:Unit:=()
def PySem.W.Fast.tw17752496453860689638:Unit:=()
def PySem.W.Fast.tw13782821297722406846:Unit:=()
def PySem.W.Fast.tw11525796669296551359:Unit:=()
def PySem.W.Fast.tw3359689595418349652:Unit:=()
open PySem PySem.W PyProof.Rows
set_option maxRecDepth 100000 in
set_option maxHeartbeats 0 in
theorem PySem.Challenge.cw_smallword_k12_other_texts_read_holds : PySem.Challenge.rw_smallword_k12_other_texts_read.Holds := by
  w_on; o_law; k_head; (case hw => w_witness2)
  k_fill
  refine K12.walk (l := PySem.Challenge.rw_smallword_k12_other_texts_read) rfl rfl (fun w h Y => PySem.W.kIn_of Y) ?F
  case F =>
    intro w mg fa h KX G hmg
    refine' K12.all_mk KX G hmg ?aCD ?lCD ?cCD ?kCD ?aFR ?lFR ?cFR ?kFR ?aPL ?lPL ?cPL ?kPL ?aTM ?lTM ?cTM ?kTM ?aCO ?lCO ?cCO ?kCO ?aFG ?lFG ?cFG ?kFG ?aAF ?lAF ?cAF ?kAF ?aNO ?lNO ?cNO ?kNO ?aFT ?lFT ?cFT ?kFT ?aFI ?lFI ?cFI ?kFI ?aNQ ?lNQ ?cNQ ?kNQ ?aSU ?lSU ?cSU ?kSU ?aSG ?lSG ?cSG ?kSG ?aAM ?lAM ?cAM ?kAM ?aLE ?lLE ?cLE ?kLE ?aBE ?lBE ?cBE ?kBE ?aAB ?lAB ?cAB ?kAB ?aEQ ?lEQ ?cEQ ?kEQ ?aRW ?lRW ?cRW ?kRW ?aRA ?lRA ?cRA ?kRA ?aTW ?lTW ?cTW ?kTW ?aBG ?lBG ?cBG ?kBG ?aPU ?lPU ?cPU ?kPU ?aTI ?lTI ?cTI ?kTI ?aCL ?lCL ?cCL ?kCL ?aWA ?lWA ?cWA ?kWA ?aME ?lME ?cME ?kME ?aTB ?lTB ?cTB ?kTB ?aSX ?lSX ?cSX ?kSX ?aFE ?lFE ?cFE ?kFE ?aDR ?lDR ?cDR ?kDR ?aGR ?lGR ?cGR ?kGR ?aLO ?lLO ?cLO ?kLO ?aSH ?lSH ?cSH ?kSH ?aSM ?lSM ?cSM ?kSM ?aNM ?lNM ?cNM ?kNM ?aTE ?lTE ?cTE ?kTE ?aLS ?lLS ?cLS ?kLS ?aPA ?lPA ?cPA ?kPA ?aLF ?lLF ?cLF ?kLF ?aTT ?lTT ?cTT ?kTT ?aTR ?lTR ?cTR ?kTR ?aMT ?lMT ?cMT ?kMT ?aWR ?lWR ?cWR ?kWR ?aSA ?lSA ?cSA ?kSA ?aLA ?lLA ?cLA ?kLA ?aZ ?lZ ?z_abs ?z_len ?z_range ?z_isinstance ?z_tuple ?z_int ?z_bool ?z_list ?z_str ?z_all ?z_any ?z_sum ?z_zip ?z_sorted ?z_ValueError ?z_enumerate ?z_reversed ?aPI ?aPW ?aCB ?aBI ?nBI ?lBI ?cBI ?kBI ?kCB ?qM ?qG ?qD ?qO ?qS ?qK ?qF ?qT ?aML ?aMC ?aMB ?aKD ?lKD ?x1 ?x2 ?x3 ?x4 ?x5 ?x6 ?x7 ?x8 ?x9 ?kKD ?nKD
    (case aCD => k_is); (case lCD => k_is); (case cCD => k_is); (case kCD => k_is); (case aFR => k_is); (case lFR => k_is); (case cFR => k_is); (case kFR => k_is)
    (case aPL => k_is); (case lPL => k_is); (case cPL => k_is); (case kPL => k_is); (case aTM => k_is); (case lTM => k_is); (case cTM => k_is); (case kTM => k_is)
    (case aCO => k_is); (case lCO => k_is); (case cCO => k_is); (case kCO => k_is); (case aFG => k_is); (case lFG => k_is); (case cFG => k_is); (case kFG => k_is)
    (case aAF => k_is); (case lAF => k_is); (case cAF => k_is); (case kAF => k_is); (case aNO => k_is); (case lNO => k_is); (case cNO => k_is); (case kNO => k_is)
    (case aFT => k_is); (case lFT => k_is); (case cFT => k_is); (case kFT => k_is); (case aFI => k_is); (case lFI => k_is); (case cFI => k_is); (case kFI => k_is)
    (case aNQ => k_is); (case lNQ => k_is); (case cNQ => k_is); (case kNQ => k_is); (case aSU => k_is); (case lSU => k_is); (case cSU => k_is); (case kSU => k_is)
    (case aSG => k_is); (case lSG => k_is); (case cSG => k_is); (case kSG => k_is); (case aAM => k_is); (case lAM => k_is); (case cAM => k_is); (case kAM => k_is)
    (case aLE => k_is); (case lLE => k_is); (case cLE => k_is); (case kLE => k_is); (case aBE => k_is); (case lBE => k_is); (case cBE => k_is); (case kBE => k_is)
    (case aAB => k_is); (case lAB => k_is); (case cAB => k_is); (case kAB => k_is); (case aEQ => k_is); (case lEQ => k_is); (case cEQ => k_is); (case kEQ => k_is)
    (case aRW => k_is); (case lRW => k_is); (case cRW => k_is); (case kRW => k_is); (case aRA => k_is); (case lRA => k_is); (case cRA => k_is); (case kRA => k_is)
    (case aTW => k_is); (case lTW => k_is); (case cTW => k_is); (case kTW => k_is); (case aBG => k_is); (case lBG => k_is); (case cBG => k_is); (case kBG => k_is)
    (case aPU => k_is); (case lPU => k_is); (case cPU => k_is); (case kPU => k_is); (case aTI => k_is); (case lTI => k_is); (case cTI => k_is); (case kTI => k_is)
    (case aCL => k_is); (case lCL => k_is); (case cCL => k_is); (case kCL => k_is); (case aWA => k_is); (case lWA => k_is); (case cWA => k_is); (case kWA => k_is)
    (case aME => k_is); (case lME => k_is); (case cME => k_is); (case kME => k_is); (case aTB => k_is); (case lTB => k_is); (case cTB => k_is); (case kTB => k_is)
    (case aSX => k_is); (case lSX => k_is); (case cSX => k_is); (case kSX => k_is); (case aFE => k_is); (case lFE => k_is); (case cFE => k_is); (case kFE => k_is)
    (case aDR => k_is); (case lDR => k_is); (case cDR => k_is); (case kDR => k_is); (case aGR => k_is); (case lGR => k_is); (case cGR => k_is); (case kGR => k_is)
    (case aLO => k_is); (case lLO => k_is); (case cLO => k_is); (case kLO => k_is); (case aSH => k_is); (case lSH => k_is); (case cSH => k_is); (case kSH => k_is)
    (case aSM => k_is); (case lSM => k_is); (case cSM => k_is); (case kSM => k_is); (case aNM => k_is); (case lNM => k_is); (case cNM => k_is); (case kNM => k_is)
    (case aTE => k_is); (case lTE => k_is); (case cTE => k_is); (case kTE => k_is); (case aLS => k_is); (case lLS => k_is); (case cLS => k_is); (case kLS => k_is)
    (case aPA => k_is); (case lPA => k_is); (case cPA => k_is); (case kPA => k_is); (case aLF => k_is); (case lLF => k_is); (case cLF => k_is); (case kLF => k_is)
    (case aTT => k_is); (case lTT => k_is); (case cTT => k_is); (case kTT => k_is); (case aTR => k_is); (case lTR => k_is); (case cTR => k_is); (case kTR => k_is)
    (case aMT => k_is); (case lMT => k_is); (case cMT => k_is); (case kMT => k_is); (case aWR => k_is); (case lWR => k_is); (case cWR => k_is); (case kWR => k_is)
    (case aSA => k_is); (case lSA => k_is); (case cSA => k_is); (case kSA => k_is); (case aLA => k_is); (case lLA => k_is); (case cLA => k_is); (case kLA => k_is)
    (case aZ => k_is); (case lZ => k_is); (case z_abs => k_is); (case z_len => k_is); (case z_range => k_is); (case z_isinstance => k_is); (case z_tuple => k_is); (case z_int => k_is)
    (case z_bool => k_is); (case z_list => k_is); (case z_str => k_is); (case z_all => k_is); (case z_any => k_is); (case z_sum => k_is); (case z_zip => k_is); (case z_sorted => k_is)
    (case z_ValueError => k_is); (case z_enumerate => k_is); (case z_reversed => k_is); (case aPI => k_is); (case aPW => k_is); (case aCB => k_is); (case aBI => k_is); (case nBI => k_is)
    (case lBI => k_is); (case cBI => k_is); (case kBI => k_is); (case kCB => k_is); (case qM => k_is); (case qG => k_is); (case qD => k_is); (case qO => k_is)
    (case qS => k_is); (case qK => k_is); (case qF => k_is); (case qT => k_is); (case aML => k_is); (case aMC => k_is); (case aMB => k_is); (case aKD => k_is)
    (case lKD => k_is); (case x1 => k_is); (case x2 => k_is); (case x3 => k_is); (case x4 => k_is); (case x5 => k_is); (case x6 => k_is); (case x7 => k_is)
    (case x8 => k_is); (case x9 => k_is); (case kKD => k_keys); (case nKD => decide)
