import PyProof.Rows.All
import Wide.All
import OpenK.AllK
import Wide.FinOn
import Lean
import PyProof.EqAt
import PyProof.EqKinds
import PyProof.TupleCall
import KE.KSortTup
import PyProof.NeKinds
import PyProof.DictRoadsH
import PyProof.ZipIter
import KE.LcSums
import KE.KListMore
import KE.KIntText
import KE.KRevIter
import PyProof.Rows.Range3
import KE.KDictList
import KE.KDictLaws
import PyProof.StrLawsTight
import PyProof.Rows.SortKeyStr
import PyProof.Rows.SortWalk
import PyProof.NsDelKeeps
import PyProof.RulesDel
import PyProof.RulesDelMore
import PyProof.DelItemList
import PyProof.Rows.IntBool
import KE.KStrOpen
import PySem.Challenge.RW_smallword_k81_levels_of_a_bench
set_option Elab.async false
set_option linter.all false
set_option maxRecDepth 100000
set_option maxHeartbeats 8000000
namespace L2
open PySem PySem.Spec PyProof.Rows
abbrev Key:=Sum Int Str
noncomputable def keyIs:Key→Value→Bool
 | .inl k,v=>Value.isInt k v
 | .inr x,v=>Value.isStrOf x v
noncomputable def keyH (w:World):Key→Int
 | .inl k=>hashInt k
 | .inr x=>hashStr w x
theorem keyIs_shape:∀ {k:Key} {v:Value},keyIs k v=true→(∃i t,k=Sum.inl i∧v=Value.int i t)∨(∃x t,k=Sum.inr x∧v=Value.str x t)
 | .inl i,v,h=>by
  obtain ⟨t,e⟩:=Value.isInt_shape (k:=i) (v:=v) h
  exact .inl ⟨i,t,rfl,e⟩
 | .inr x,v,h=>by
  obtain ⟨t,e⟩:=Value.isStrOf_shape (x:=x) (v:=v) h
  exact .inr ⟨x,t,rfl,e⟩
theorem keyIs_int (i:Int) (t:Tok):keyIs (.inl i) (.int i t)=true:=by simp [keyIs,Value.isInt]
theorem keyIs_str (x:Str) (t:Tok):keyIs (.inr x) (.str x t)=true:=by simp [keyIs,Value.isStrOf]
theorem key_ll (a b:Int):decide ((Sum.inl a:Key)=Sum.inl b)=(a==b):=by
 by_cases e:a=b
 · subst e;simp
 · have h:¬(Sum.inl a:Key)=Sum.inl b:=fun q=>e (Sum.inl.inj q)
   rw [decide_eq_false h]
   exact (beq_eq_false_iff_ne.mpr e).symm
theorem key_rr (a b:Str):decide ((Sum.inr a:Key)=Sum.inr b)=decide (a=b):=by
 by_cases e:a=b
 · subst e;simp
 · have h:¬(Sum.inr a:Key)=Sum.inr b:=fun q=>e (Sum.inr.inj q)
   rw [decide_eq_false h,decide_eq_false e]
theorem key_lr (a:Int) (b:Str):decide ((Sum.inl a:Key)=Sum.inr b)=false:=decide_eq_false (fun q=>nomatch q)
theorem key_rl (a:Str) (b:Int):decide ((Sum.inr a:Key)=Sum.inl b)=false:=decide_eq_false (fun q=>nomatch q)
noncomputable def mixKind (prog:Program) (w:World):PySem.KeyKind prog w Key where
 is:=keyIs
 hash:=keyH w
 inj:=fun v a b ha hb=>by
  rcases keyIs_shape ha with ⟨i,t,rfl,rfl⟩|⟨x,t,rfl,rfl⟩
  · rcases keyIs_shape hb with ⟨j,u,rfl,e⟩|⟨y,u,rfl,e⟩
    · injection e with e1 _;rw [e1]
    · exact nomatch e
  · rcases keyIs_shape hb with ⟨j,u,rfl,e⟩|⟨y,u,rfl,e⟩
    · exact nomatch e
    · injection e with e1 _;rw [e1]
 byValue:=fun k v h=>by
  rcases keyIs_shape h with ⟨i,t,rfl,rfl⟩|⟨x,t,rfl,rfl⟩<;>rfl
 pyHash:=fun hv h=>by
  rcases keyIs_shape hv with ⟨i,t,rfl,rfl⟩|⟨x,t,rfl,rfl⟩
  · exact wpAny_pyHash_int h
  · exact wpAny_pyHash_str h
 eqBool:=fun hu hv h=>by
  rcases keyIs_shape hu with ⟨i,t,rfl,rfl⟩|⟨x,t,rfl,rfl⟩
  · rcases keyIs_shape hv with ⟨j,u,rfl,rfl⟩|⟨y,u,rfl,rfl⟩
    · rw [key_ll] at h;exact wpAny_eqBool_int h
    · rw [key_lr] at h;exact SeqAt.EqAt.int_str i t y u _ _ _ _ h
  · rcases keyIs_shape hv with ⟨j,u,rfl,rfl⟩|⟨y,u,rfl,rfl⟩
    · rw [key_rl] at h;exact SeqAt.EqAt.str_int x t j u _ _ _ _ h
    · rw [key_rr] at h;exact wpAny_eqBool_str h
 «strs»:=fun k x t v h=>by
  rcases keyIs_shape h with ⟨i,u,rfl,e⟩|⟨y,u,rfl,e⟩
  · exact nomatch e
  · injection e with e1 _
    subst e1
    cases v<;>rfl
theorem mixKind_int (prog:Program) (w:World) (i:Int) (t:Tok):(mixKind prog w).is (.inl i) (.int i t)=true:=keyIs_int i t
theorem mixKind_str (prog:Program) (w:World) (x:Str) (t:Tok):(mixKind prog w).is (.inr x) (.str x t)=true:=keyIs_str x t
open PySem PySem.Spec PyProof.Rows
inductive V where
 |non|bl (b:Bool)|int (i:Int)|str (x:Str)|byt (b:Array UInt8)|flt (b:UInt64)|ref (a:Addr)|ty (n:String)
 deriving DecidableEq
def RelV:V→Value→Prop
 | .non,u=>u=Value.none
 | .bl b,u=>u=Value.bool b
 | .int i,u=>∃t,u=Value.int i t
 | .str x,u=>∃t,u=Value.str x t
 | .byt b,u=>∃t,u=Value.bytes b t
 | .flt b,u=>∃t,u=Value.float b t
 | .ref a,u=>u=Value.ref a
 | .ty n,u=>u=Value.type n
abbrev Vals:List V→List Value→Prop:=Paired RelV
theorem Vals.length {xs:List V} {us:List Value} (r:Vals xs us):xs.length=us.length:=Paired.length r
theorem Vals.get:∀ {xs:List V} {us:List Value} {i:Nat} {x:V},Vals xs us→xs[i]?=some x→∃u,us[i]?=some u∧RelV x u
 |_,_,_,_, .nil,e=>by simp at e
 |_,_,0,_, .cons r _,e=>by simp at e;subst e;exact ⟨_,rfl,r⟩
 |_,_,i+1,x, .cons _ t,e=>by
  obtain ⟨u,h1,h2⟩:=Vals.get (i:=i) (x:=x) t (by simpa using e)
  exact ⟨u,by simpa using h1,h2⟩
theorem Vals.set {x:V} {u:Value} (r:RelV x u):∀ {xs:List V} {us:List Value} (i:Nat),Vals xs us→Vals (xs.set i x) (us.set i u)
 |_,_,_, .nil=> .nil
 |_,_,0, .cons _ t=> .cons r t
 |_,_,i+1, .cons q t=> .cons q (Vals.set r i t)
theorem Vals.append:∀ {xs ys:List V} {us ws:List Value},Vals xs us→Vals ys ws→Vals (xs++ys) (us++ws)
 |_,_,_,_, .nil,s=>s
 |_,_,_,_, .cons r t,s=> .cons r (Vals.append t s)
theorem Vals.take:∀ {xs:List V} {us:List Value} (n:Nat),Vals xs us→Vals (xs.take n) (us.take n)
 |_,_,0,_=> .nil
 |_,_,_+1, .nil=> .nil
 |_,_,n+1, .cons r t=> .cons r (Vals.take n t)
theorem Vals.drop:∀ {xs:List V} {us:List Value} (n:Nat),Vals xs us→Vals (xs.drop n) (us.drop n)
 |_,_,0,r=>r
 |_,_,_+1, .nil=> .nil
 |_,_,n+1, .cons _ t=>Vals.drop n t
theorem Vals.none_of:∀ {xs:List V} {us:List Value} {i:Nat},Vals xs us→xs[i]?=none→us[i]?=none:=fun {xs us i} r e=>by
 have h1:=r.length
 have h2:xs.length≤i:=List.getElem?_eq_none_iff.mp e
 exact List.getElem?_eq_none_iff.mpr (by omega)
def RelO:Option V→Option Value→Prop
 |some v,some u=>RelV v u
 |none,none=>True
 |_,_=>False
def KV {κ:Type}:List (κ×V)→List (κ×Value)→Prop:=Paired fun (p:κ×V) (q:κ×Value)=>p.1=q.1∧RelV p.2 q.2
def kV:Key→V
 | .inl i=> .int i
 | .inr x=> .str x
inductive HO where
 |lst (xs:List V)
 |tup (xs:List V)
 |dK (kvs:List (Key×V))|dT (kvs:List (List Key×V))
 |set (S:Int→Bool) (n:Nat)
 |ins (C dx:Addr) (fs:List (Str×V))
 |own (x:Addr)
 |xd (fs:List (Str×V))
 |met (f x:Addr)
 |rng (lo hi:Int)
 |frz (o:Obj) (u:HO)
 |tbl (ps:Array Value)
 |ext (φ:Heap→Prop)
abbrev Hp:=Addr→Option HO
noncomputable def upd (H:Hp) (a:Addr) (o:HO):Hp:=fun b=>if b=a then some o else H b
theorem upd_same {H:Hp} {a:Addr} {o:HO}:upd H a o a=some o:=by unfold upd;rw [if_pos rfl]
theorem upd_ne {H:Hp} {a b:Addr} {o:HO} (h:b≠a):upd H a o b=H b:=by unfold upd;rw [if_neg h]
theorem ne_of_none {H:Hp} {a b:Addr} {o:HO} (h:H a=some o) (h':H b=none):a≠b:=by
 intro e;subst e;rw [h] at h';cases h'
section
variable (P:Program) (w:World)
def ObjOk (H:Hp) (h:Heap) (a:Addr):HO→Prop
 | .lst xs=>xs.length≤sizeLine∧∃(its:List Value) (n:Nat),Vals xs its∧h.get? a=some {cls:= .type "list",data:= .seq its.toArray n}
 | .tup xs=>xs.length≤sizeLine∧∃its:List Value,Vals xs its∧IsTup h a its.toArray
 | .dK kvs=>kvs.length≤sizeLine∧(a==sysModules)=false∧∃vs,KV kvs vs∧h.DictOf (mixKind P w) a vs
 | .dT kvs=>kvs.length≤sizeLine∧(a==sysModules)=false∧∃xs:List (List Key×Addr×Value),
  Paired (fun (p:List Key×V) (q:List Key×Addr×Value)=>p.1=q.1∧H q.2.1=some (.tup (p.1.map kV))∧RelV p.2 q.2.2) kvs xs∧
  ∃o es ep,h.get? a=some o∧o.ExactDict∧o.data= .dict es ep∧es.toList=xs.map (entryOfKey (tupleKind (mixKind P w)))∧(xs.map (·.1)).Nodup
 | .set S n=>h.SetOf (intKind P w) a S n
 | .ins C dx fs=>H dx=some (.own a)∧fs.length≤1000∧dx≠a∧h.get? a=some (PySem.W.instObj C dx)∧
  ∃mA,h.Ns1 dx mA∧(∀f,RelO (fs.lookup f) (mA f))∧PySem.Within mA (fs.map (·.1))
 | .own _=>∃o,h.get? a=some o
 | .xd fs=>∃mA,h.Ns1 a mA∧∀f,RelO (fs.lookup f) (mA f)
 | .rng lo hi=>∃t u v,h.get? a=some {cls:= .type "range",data:= .fields #[.int lo t, .int hi u, .int 1 v]}
 | .frz o u=>h.get? a=some o∧ObjOk H h a u
 | .tbl ps=>h.get? a=some {cls:= .none,data:= .fields ps}
 | .met f x=>h.get? a=some (PySem.W.methodObj (.ref f) (.ref x))
 | .ext φ=>φ h∧(∃o,h.get? a=some o)∧∀h1 h2:Heap,φ h1→(∀o,h1.get? a=some o→h2.get? a=some o)→φ h2
def HOk (H:Hp) (h:Heap):Prop:=∀a o,H a=some o→ObjOk P w H h a o
end
section
variable {P:Program} {w:World} {H H':Hp} {h h':Heap} {a:Addr} {o:HO}
theorem ObjOk.lt (x:ObjOk P w H h a o):a < h.objs.size:=by
 cases o with
 |lst xs=>obtain ⟨_,_,_,_,e⟩:=x;exact Heap.lt_size e
 |tup xs=>obtain ⟨_,_,_,p⟩:=x;exact p.lt
 |dK kvs=>obtain ⟨_,_,_,_,o,_,_,e,_⟩:=x;exact Heap.lt_size e
 |dT kvs=>obtain ⟨_,_,_,_,o,_,_,e,_⟩:=x;exact Heap.lt_size e
 |set S n=>obtain ⟨o,_,_,_,e,_⟩:=x;exact Heap.lt_size e
 |ins C dx fs=>obtain ⟨_,_,_,e,_⟩:=x;exact Heap.lt_size e
 |own y=>obtain ⟨_,e⟩:=x;exact Heap.lt_size e
 |xd fs=>obtain ⟨_,⟨_,_,_,e,_⟩,_⟩:=x;exact Heap.lt_size e
 |rng lo hi=>obtain ⟨_,_,_,e⟩:=x;exact Heap.lt_size e
 |frz ob u=>obtain ⟨e,_⟩:=x;exact Heap.lt_size e
 |tbl ps=>exact Heap.lt_size (show h.get? a=some _ from x)
 |met f y=>exact Heap.lt_size (show h.get? a=some _ from x)
 |ext φ=>obtain ⟨_,⟨_,e⟩,_⟩:=x;exact Heap.lt_size e
theorem Paired.mapP {α β:Type} {F G:α→β→Prop}:∀ {l₁:List α} {l₂:List β},Paired F l₁ l₂→(∀a b,F a b→G a b)→Paired G l₁ l₂
 |_,_, .nil,_=> .nil
 |_,_, .cons r t,f=> .cons (f _ _ r) (Paired.mapP t f)
theorem Paired.imp' {α β:Type} {F G:α→β→Prop} (f:∀a b,F a b→G a b) {l₁:List α} {l₂:List β} (r:Paired F l₁ l₂):Paired G l₁ l₂:=Paired.mapP r f
theorem ObjOk.stay (x:ObjOk P w H h a o) (k:∀b u,(b=a∨H b=some (.own a))→h.get? b=some u→h'.get? b=some u)
 (ho:∀b,H b=some (.own a)→H' b=some (.own a)) (ht:∀b xs,H b=some (.tup xs)→H' b=some (.tup xs)):ObjOk P w H' h' a o:=by
 induction o with
 |lst xs=>obtain ⟨z,its,n,r,e⟩:=x;exact ⟨z,its,n,r,k _ _ (.inl rfl) e⟩
 |tup xs=>obtain ⟨z,its,r,ob,e,c⟩:=x;exact ⟨z,its,r,ob,k _ _ (.inl rfl) e,c⟩
 |dK kvs=>obtain ⟨z,y,vs,r,ob,es,ep,e,c⟩:=x;exact ⟨z,y,vs,r,ob,es,ep,k _ _ (.inl rfl) e,c⟩
 |dT kvs=>
  obtain ⟨z,y,xs,r,ob,es,ep,e,c⟩:=x
  exact ⟨z,y,xs,Paired.mapP r fun p q z=>⟨z.1,ht _ _ z.2.1,z.2.2⟩,ob,es,ep,k _ _ (.inl rfl) e,c⟩
 |set S n=>obtain ⟨ob,es,ep,t,e,c⟩:=x;exact ⟨ob,es,ep,t,k _ _ (.inl rfl) e,c⟩
 |ins C dx fs=>
  obtain ⟨d,z,ne,e,mA,⟨od,es,ep,e2,c⟩,r⟩:=x
  exact ⟨ho _ d,z,ne,k _ _ (.inl rfl) e,mA,⟨od,es,ep,k _ _ (.inr d) e2,c⟩,r⟩
 |own y=>obtain ⟨ob,e⟩:=x;exact ⟨ob,k _ _ (.inl rfl) e⟩
 |xd fs=>obtain ⟨mA,⟨od,es,ep,e,c⟩,r⟩:=x;exact ⟨mA,⟨od,es,ep,k _ _ (.inl rfl) e,c⟩,r⟩
 |rng lo hi=>obtain ⟨t,u,v,e⟩:=x;exact ⟨t,u,v,k _ _ (.inl rfl) e⟩
 |frz ob u ih=>obtain ⟨e,q⟩:=x;exact ⟨k _ _ (.inl rfl) e,ih q⟩
 |tbl ps=>
  have e:h.get? a=some {cls:= .none,data:= .fields ps}:=x
  show h'.get? a=some {cls:= .none,data:= .fields ps}
  exact k a _ (.inl rfl) e
 |met f y=>
  have e:h.get? a=some (PySem.W.methodObj (.ref f) (.ref y)):=x
  show h'.get? a=some (PySem.W.methodObj (.ref f) (.ref y))
  exact k a _ (.inl rfl) e
 |ext φ=>obtain ⟨p,⟨o,e⟩,st⟩:=x;exact ⟨st _ _ p fun o q=>k _ _ (.inl rfl) q,⟨o,k _ _ (.inl rfl) e⟩,st⟩
theorem HOk.lt (x:HOk P w H h) (e:H a=some o):a < h.objs.size:=(x a o e).lt
theorem HOk.fresh (x:HOk P w H h) (e:h.objs.size≤a):H a=none:=by
 cases q:H a with
 |none=>rfl
 |some u=>exact absurd (Nat.lt_of_lt_of_le (x.lt q) e) (Nat.lt_irrefl _)
theorem HOk.kept (x:HOk P w H h) (k:∀b u,h.get? b=some u→h'.get? b=some u):HOk P w H h':=fun a o e=>
 (x a o e).stay (fun b u _ q=>k b u q) (fun _ q=>q) fun _ _ q=>q
theorem HOk.laid (x:HOk P w H h) (k:∀b u,h.get? b=some u→h'.get? b=some u) (hp:h.objs.size≤a) (new:ObjOk P w (upd H a o) h' a o):HOk P w (upd H a o) h':=fun b u e=>by
 have hn:=x.fresh hp
 by_cases hb:b=a
 · subst hb;rw [upd_same] at e;cases e;exact new
 · rw [upd_ne hb] at e
   exact (x b u e).stay (fun c v _ q=>k c v q) (fun c q=>by rw [upd_ne (ne_of_none q hn)];exact q) fun c xs q=>by rw [upd_ne (ne_of_none q hn)];exact q
end
def Rd (H:Hp) (a:Addr) (u:HO):Prop:=H a=some u∨∃o,H a=some (.frz o u)
theorem Rd.of {H:Hp} {a:Addr} {u:HO} (h:H a=some u):Rd H a u:= .inl h
theorem Rd.ok {P:Program} {w:World} {H:Hp} {h:Heap} {a:Addr} {u:HO} (r:Rd H a u) (x:HOk P w H h):ObjOk P w H h a u:=by
 rcases r with r|⟨o,r⟩
 · exact x a u r
 · obtain ⟨_,q⟩:=x a _ r
   exact q
def Mut:Option HO→Prop
 |some (.lst _)=>True
 |some (.dK _)=>True
 |some (.dT _)=>True
 |some (.set _ _)=>True
 |some (.ins _ _ _)=>True
 |some (.ext _)=>True
 |_=>False
section
variable {P:Program} {w:World} {H:Hp} {h h':Heap} {x e:Addr} {o':HO}
theorem HOk.write (ok:HOk P w H h) (mu:Mut (H x)) (he:e=x∨H e=some (.own x)) (k:∀b u,b≠e→h.get? b=some u→h'.get? b=some u) (heo:∃u,h'.get? e=some u)
 (new:ObjOk P w (upd H x o') h' x o'):HOk P w (upd H x o') h':=fun b u q=>by
 have nown:∀c y,H c=some (.own y)→c≠x:=fun c y r z=>by subst z;rw [r] at mu;exact mu
 have ntup:∀c xs,H c=some (.tup xs)→c≠x:=fun c xs r z=>by subst z;rw [r] at mu;exact mu
 by_cases hb:b=x
 · subst hb;rw [upd_same] at q;cases q;exact new
 · rw [upd_ne hb] at q
   by_cases hbe:b=e
   · have q':H b=some (.own x):=by
      rcases he with z|z
      · exact absurd (hbe.trans z) hb
      · rw [hbe];exact z
     rw [q] at q';cases q'
     obtain ⟨v,hv⟩:=heo
     exact ⟨v,by rw [hbe];exact hv⟩
   · refine (ok b u q).stay (fun c v hc r=>k c v ?_ r) (fun c r=>by rw [upd_ne (nown c b r)];exact r) fun c xs r=>by rw [upd_ne (ntup c xs r)];exact r
     rcases hc with rfl|hc
     · exact hbe
     · rintro rfl
       rcases he with z|z
       · exact nown c b hc z
       · rw [hc] at z;cases z;exact hb rfl
end
structure Un (fs ex:List Addr) (H H':Hp) (h h':Heap):Prop where
 keep:∀b o,h.get? b=some o→H b=none→b∉fs→b∉ex→h'.get? b=some o
 slot:∀b o,h.get? b=some o→H b=none→b∈fs→b∉ex→∃sl,h'.get? b=some {o with slots:=sl}
 free:∀b o,h.get? b=some o→H b=none→b∉ex→H' b=none
 there:∀b o,h.get? b=some o→b∉ex→∃o',h'.get? b=some o'
 tups:∀b xs,H b=some (.tup xs)→H' b=some (.tup xs)
 frzs:∀b o u,H b=some (.frz o u)→H' b=some (.frz o u)
 tbls:∀b ps,H b=some (.tbl ps)→∃more,H' b=some (.tbl (ps++more))
section
variable {fs fs' ex ex':List Addr} {H H1 H2:Hp} {h h1 h2 h':Heap} {a x e:Addr} {o:HO}
theorem Un.any (u:Un fs ex H H1 h h1) {b:Addr} {ob:Obj} (q:h.get? b=some ob) (n:H b=none) (hx:b∉ex):∃sl,h1.get? b=some {ob with slots:=sl}:=by
 by_cases hb:b∈fs
 · exact u.slot b ob q n hb hx
 · exact ⟨ob.slots,u.keep b ob q n hb hx⟩
theorem Un.trans (a:Un fs ex H H1 h h1) (b:Un fs ex H1 H2 h1 h2):Un fs ex H H2 h h2 where
 keep:=fun c ob q n hc hx=>b.keep c ob (a.keep c ob q n hc hx) (a.free c ob q n hx) hc hx
 slot:=fun c ob q n hc hx=>by
  obtain ⟨sl,e1⟩:=a.slot c ob q n hc hx
  obtain ⟨sl',e2⟩:=b.slot c _ e1 (a.free c ob q n hx) hc hx
  exact ⟨sl',e2⟩
 free:=fun c ob q n hx=>by
  obtain ⟨o',e1⟩:=a.there c ob q hx
  exact b.free c o' e1 (a.free c ob q n hx) hx
 there:=fun c ob q hx=>by
  obtain ⟨o',e1⟩:=a.there c ob q hx
  exact b.there c o' e1 hx
 tups:=fun c xs q=>b.tups c xs (a.tups c xs q)
 frzs:=fun c ob xs q=>b.frzs c ob xs (a.frzs c ob xs q)
 tbls:=fun c ps q=>by
  obtain ⟨m1,e1⟩:=a.tbls c ps q
  obtain ⟨m2,e2⟩:=b.tbls c _ e1
  exact ⟨m1++m2,by rw [e2,Array.append_assoc]⟩
theorem Un.kept (k:∀b u,h.get? b=some u→h'.get? b=some u):Un fs ex H H h h':=
 ⟨fun b ob q _ _ _=>k b ob q,fun b ob q _ _ _=>⟨ob.slots,k b ob q⟩,fun _ _ _ n _=>n,fun b ob q _=>⟨ob,k b ob q⟩,fun _ _ q=>q,fun _ _ _ q=>q,fun _ ps q=>⟨#[],by rw [q];simp⟩⟩
theorem Un.refl:Un fs ex H H h h:=Un.kept fun _ _ q=>q
theorem Un.laid (k:∀b u,h.get? b=some u→h'.get? b=some u) (hp:h.objs.size≤a) (hn:H a=none):Un fs ex H (upd H a o) h h' where
 keep:=fun b u q _ _ _=>k b u q
 slot:=fun b u q _ _ _=>⟨u.slots,k b u q⟩
 free:=fun b u q n _=>by rw [upd_ne (Nat.ne_of_lt (Nat.lt_of_lt_of_le (Heap.lt_size q) hp))];exact n
 there:=fun b u q _=>⟨u,k b u q⟩
 tups:=fun b xs q=>by rw [upd_ne (ne_of_none q hn)];exact q
 frzs:=fun b u xs q=>by rw [upd_ne (ne_of_none q hn)];exact q
 tbls:=fun b ps q=>⟨#[],by rw [upd_ne (ne_of_none q hn),q];simp⟩
theorem Un.write (mu:Mut (H x)) (he:e=x∨H e=some (.own x)) (k:∀b u,b≠e→h.get? b=some u→h'.get? b=some u) (heo:∃u,h'.get? e=some u):Un fs ex H (upd H x o) h h':=by
 have hx:∀b,H b=none→b≠x:=fun b n z=>by subst z;rw [n] at mu;exact mu
 have hb:∀b,H b=none→b≠e:=fun b n z=>by
  subst z
  rcases he with r|r
  · exact hx b n r
  · rw [n] at r;cases r
 have hm:∀b u,H b=some u→¬Mut (some u)→b≠x:=fun b u q nm z=>by subst z;rw [q] at mu;exact nm mu
 refine ⟨fun b u q n _ _=>k b u (hb b n) q,fun b u q n _ _=>⟨u.slots,k b u (hb b n) q⟩,fun b u q n _=>by rw [upd_ne (hx b n)];exact n,fun b u q _=> ?_,
  fun b xs q=>by rw [upd_ne (hm b _ q fun z=>z)];exact q,fun b u xs q=>by rw [upd_ne (hm b _ q fun z=>z)];exact q,fun b ps q=>⟨#[],by rw [upd_ne (hm b _ q fun z=>z),q];simp⟩⟩
 by_cases hbe:b=e
 · subst hbe;exact heo
 · exact ⟨u,k b u hbe q⟩
theorem Un.mono (u:Un fs ex H H1 h h1) (hs:∀b∈fs,b∈fs') (hx:∀b∈ex,b∈ex'):Un fs' ex' H H1 h h1:=
 ⟨fun b ob q n hb he=>u.keep b ob q n (fun z=>hb (hs b z)) fun z=>he (hx b z),fun _ _ q n _ he=>u.any q n fun z=>he (hx _ z),fun b ob q n he=>u.free b ob q n fun z=>he (hx b z),fun b ob q he=>u.there b ob q fun z=>he (hx b z),u.tups,u.frzs,u.tbls⟩
end
noncomputable def trk (h:Heap) (H:Hp):List Addr:=(List.range h.objs.size).filter fun a=>(H a).isSome
noncomputable def hidT (h:Heap) (H:Hp):Heap:=PySem.W.hideAll h (trk h H)
theorem hidT_size (h:Heap) (H:Hp):(hidT h H).objs.size=h.objs.size:=PySem.W.hideAll_size _ _
theorem hidT_get {h:Heap} {H:Hp} {b:Addr} {o:Obj} (e:h.get? b=some o) (n:H b=none):(hidT h H).get? b=some o:=
 PySem.W.hideAll_get _ e fun hm=>by
  have q:(H b).isSome=true:=(List.mem_filter.mp hm).2
  rw [n] at q;simp at q
theorem of_hidT {h:Heap} {H:Hp} {b:Addr} {o:Obj} (e:(hidT h H).get? b=some o):h.get? b=some o∧H b=none:=by
 have e':h.get? b=some o:=PySem.W.of_hideAll (trk h H) e
 refine ⟨e',?_⟩
 cases q:H b with
 |none=>rfl
 |some x=>
  have hm:b∈trk h H:=List.mem_filter.mpr ⟨List.mem_range.mpr (Heap.lt_size e'),by simp [q]⟩
  have z:(hidT h H).get? b=none:=PySem.W.hideAll_none (trk h H) hm
  rw [z] at e;cases e
noncomputable def allNews (g h:Heap) (L:Addr):List (Addr×Obj):=(List.range h.objs.size).filterMap fun a=>if a=L∨(g.get? a).isSome=true then none else (h.get? a).map fun o=>(a,o)
noncomputable def rest (g h:Heap) (L d:Addr):List (Addr×Obj):=(allNews g h L).filter fun p=>decide (p.1≠d)
open PySem PySem.Spec PyProof.Rows
structure Mod (K:PySem.W.Frag) (mg:Str→Option Value) (base:Heap):Prop where
 kin:K.In base
 glob:base.Ns mainGlobals mg
 blt:∃mb,base.Ns builtinsNs mb∧∀x:Str,x≠"__name__"→mb x=bootBuiltins x
 nolimit:base.NoLimit
structure Cx where
 prog:Program
 w:World
 K:PySem.W.Frag
 mg:Str→Option Value
 base:Heap
 A:Around
 N:List Str
 s₀:Shared
 H₀:Hp
 env:Env
 outer:List Env
 stack:List Env
 ex:List Addr
 fn:Str→Bool
 calm:Bool
 pn:List (Addr×Obj)
 xe:Value→Shared→Prop
def frs (l:List Env):List Addr:=l.filterMap (·.frame)
abbrev Cx.fs (X:Cx):List Addr:=frs X.outer
def Vis (sc:Scope) (x:Str):Prop:=sc.names.lookup x=some .local∨sc.names.lookup x=some .cell∨sc.names.lookup x=some .free
def Loc (sc:Scope) (x:Str):Prop:=sc.names.lookup x=some .local∨sc.names.lookup x=some .cell
def Look (env:Env) (h:Heap) (m:Str→Option Value) (x:Str) (u:Value):Prop:=
 (env.kindOf x=some .local∧m x=some u)∨((env.kindOf x=some .cell∨env.kindOf x=some .free)∧∃c,env.cells.lookup x=some c∧h.IsCell c (some u))
structure Cx.Ok (X:Cx):Prop where
 mod:Mod X.K X.mg X.base
 kind:X.env.scope.kind= .function
 glob:X.env.globals=mainGlobals
 blt:X.env.builtins=builtinsNs
 above:X.s₀.heap.objs.size≤X.env.locals
 inj:∀x y c,X.env.cells.lookup x=some c→X.env.cells.lookup y=some c→x=y
 has:∀x,(X.env.kindOf x=some .cell∨X.env.kindOf x=some .free)→∃c,X.env.cells.lookup x=some c
 cab:∀x c,X.fn x=true→X.env.cells.lookup x=some c→X.s₀.heap.objs.size≤c
 hd:X.calm=true→X.A.handled=none
 frames:X.A.frames=some X.stack
 stk:X.stack=X.outer∨(X.stack=X.env::X.outer∧X.env.frame=some X.env.locals)
 exf:∀b∈X.ex,b≠X.env.locals∧∀x c,X.env.cells.lookup x=some c→c≠b
 bs:∀b o,X.base.get? b=some o→X.s₀.heap.get? b=some o∧X.H₀ b=none
 bsz:X.base.objs.size≤X.s₀.heap.objs.size
 noex:∀b o,X.base.get? b=some o→b∉X.ex
 exfs:∀b∈X.ex,b∉X.fs
 funs:X.s₀.heap.FunFrames X.base X.outer
 frf:∀b∈X.fs,X.H₀ b=none
structure Inv (X:Cx) (pins:List (Addr×Obj)) (σ:List (Option V)) (H:Hp) (s:Shared):Prop where
 ok:X.Ok
 os:s.os=X.s₀.os
 bare:AllBare s.gens
 base:Un X.fs X.ex X.H₀ H X.s₀.heap s.heap
 loc:∃m,s.heap.Ns X.env.locals m∧∀(i:Nat) (x:Str) (v:V),X.N[i]?=some x→σ[i]?=some (some v)→Vis X.env.scope x→∃u,RelV v u∧Look X.env s.heap m x u
 cell:∀x c,X.env.cells.lookup x=some c→∃v,s.heap.IsCell c v
 free:H X.env.locals=none
 freeC:∀x c,X.env.cells.lookup x=some c→H c=none
 pin:∀p∈X.pn++pins,s.heap.get? p.1=some p.2∧H p.1=none∧p.1≠X.env.locals∧p.1∉X.fs∧∀v,p.2.data≠ .cell v
 hok:HOk X.prog X.w H s.heap
 len:σ.length=X.N.length
section
variable {X:Cx} {pins:List (Addr×Obj)} {σ:List (Option V)} {H H':Hp} {s:Shared} {h':Heap}
theorem Cx.Ok.nofr (ok:X.Ok) {b:Addr} {o:Obj} (e:X.base.get? b=some o):b∉X.fs:=fun hb=>by
 have:=(ok.funs.mem hb).1
 rw [e] at this;cases this
theorem Inv.bs (I:Inv X pins σ H s):∀b o,X.base.get? b=some o→s.heap.get? b=some o∧H b=none:=fun b o e=>
 ⟨I.base.keep b o (I.ok.bs b o e).1 (I.ok.bs b o e).2 (I.ok.nofr e) (I.ok.noex b o e),I.base.free b o (I.ok.bs b o e).1 (I.ok.bs b o e).2 (I.ok.noex b o e)⟩
theorem Inv.bk (I:Inv X pins σ H s):∀b o,X.base.get? b=some o→s.heap.get? b=some o:=fun b o e=>(I.bs b o e).1
theorem Inv.mod (I:Inv X pins σ H s):Mod X.K X.mg X.base:=I.ok.mod
theorem Inv.kIn (I:Inv X pins σ H s):X.K.In s.heap:=I.ok.mod.kin.keeps I.bk
theorem Inv.nolimit (I:Inv X pins σ H s):s.heap.NoLimit:=I.ok.mod.nolimit.keeps I.bk
theorem Inv.fr (I:Inv X pins σ H s):∃m,Fr X.base X.env.locals s.heap m:=
 let ⟨m,hn,_⟩:=I.loc
 ⟨m,hn,I.bk,Nat.le_trans I.ok.bsz I.ok.above⟩
theorem Inv.lt (I:Inv X pins σ H s):X.env.locals < s.heap.objs.size:=let ⟨_,hn,_⟩:=I.loc;hn.lt
theorem Inv.sz (I:Inv X pins σ H s):X.s₀.heap.objs.size≤s.heap.objs.size:=Nat.le_trans I.ok.above (Nat.le_of_lt I.lt)
theorem Inv.nofs (I:Inv X pins σ H s) {a:Addr} (h:s.heap.objs.size≤a):a∉X.fs:=fun hb=>by
 obtain ⟨_,o,ho,_⟩:=I.ok.funs.mem hb
 exact absurd (Nat.lt_of_lt_of_le (Heap.lt_size ho) (Nat.le_trans I.sz h)) (Nat.lt_irrefl _)
theorem Inv.cne (I:Inv X pins σ H s):∀x c,X.env.cells.lookup x=some c→c≠X.env.locals:=fun x c e z=>by
 obtain ⟨v,o,ho,hd⟩:=I.cell x c e
 obtain ⟨m,⟨o',es,ep,ho',hd',_⟩,_⟩:=I.loc
 rw [z,ho'] at ho;cases ho;rw [hd'] at hd;cases hd
theorem Inv.funs (I:Inv X pins σ H s):s.heap.FunFrames X.base X.outer:=by
 have all:∀(l:List Env),(∀b∈frs l,b∈X.fs)→X.s₀.heap.FunFrames X.base l→s.heap.FunFrames X.base l:=by
  intro l
  induction l with
  |nil=>intro _ _;trivial
  |cons env r ih=>
   intro hs hl
   obtain ⟨hk,⟨L,o,hf,hn,ho,hd⟩,hr⟩:=hl
   have hL:L∈X.fs:=hs L (by unfold frs;rw [List.filterMap_cons,hf];exact List.mem_cons_self)
   obtain ⟨sl,e⟩:=I.base.slot L o ho (I.ok.frf L hL) hL fun z=>I.ok.exfs L z hL
   exact ⟨hk,⟨L,_,hf,hn,e,hd⟩,ih (fun b hb=>hs b (by unfold frs;rw [List.filterMap_cons,hf];exact List.mem_cons_of_mem _ hb)) hr⟩
 exact all X.outer (fun _ hb=>hb) I.ok.funs
theorem Inv.stack (I:Inv X pins σ H s):s.heap.FunFrames X.base X.stack:=by
 rcases I.ok.stk with e|⟨e,hf⟩
 · rw [e];exact I.funs
 · rw [e]
   obtain ⟨m,hn,_⟩:=I.loc
   refine .cons (by rw [I.ok.kind];decide) hf hn ?_ I.funs
   exact Heap.get?_none_of_le (Nat.le_trans I.ok.bsz I.ok.above)
theorem Inv.stkSub (I:Inv X pins σ H s):∀b∈frs X.stack,b∈X.env.locals::X.fs:=fun b hb=>by
 rcases I.ok.stk with e|⟨e,hf⟩
 · rw [e] at hb;exact List.mem_cons_of_mem _ hb
 · rw [e] at hb
   unfold frs at hb
   rw [List.filterMap_cons,hf] at hb
   exact hb
theorem Inv.stkFree (I:Inv X pins σ H s):∀b∈frs X.stack,H b=none:=fun b hb=>by
 rcases List.mem_cons.mp (I.stkSub b hb) with e|hb
 · rw [e];exact I.free
 · obtain ⟨_,o,ho,_⟩:=I.ok.funs.mem hb
   exact I.base.free b o ho (I.ok.frf b hb) fun z=>I.ok.exfs b z hb
theorem Inv.step {g':Array GenState} {t':Nat} {d':Drawn} {ch:List Addr} (I:Inv X pins σ H s)
 (hch:∀b∈ch,(b∈X.ex∨X.s₀.heap.objs.size≤b)∧b≠X.env.locals∧(∀x c,X.env.cells.lookup x=some c→c≠b)∧∀p∈X.pn++pins,p.1≠b)
 (keep:∀b o,b≠X.env.locals→b∉X.fs→b∉ch→s.heap.get? b=some o→H b=none→h'.get? b=some o)
 (slot:∀b o,b≠X.env.locals→b∈X.fs→b∉ch→s.heap.get? b=some o→H b=none→∃sl,h'.get? b=some {o with slots:=sl}) (free:∀b o,b∉ch→s.heap.get? b=some o→H b=none→H' b=none)
 (there:∀b o,b∉ch→s.heap.get? b=some o→∃o',h'.get? b=some o')
 (tups:∀b xs,H b=some (.tup xs)→H' b=some (.tup xs)) (frzs:∀b o u,H b=some (.frz o u)→H' b=some (.frz o u)) (tbls:∀b ps,H b=some (.tbl ps)→∃more,H' b=some (.tbl (ps++more)))
 (ns:∀m,s.heap.Ns X.env.locals m→h'.Ns X.env.locals m) (hok:HOk X.prog X.w H' h') (hg:AllBare g'):
 Inv X pins σ H' {s with heap:=h',gens:=g',drawn:=d',toks:=t'}:=by
 have neL:∀b o,X.s₀.heap.get? b=some o→b≠X.env.locals:=fun b o e=>Nat.ne_of_lt (Nat.lt_of_lt_of_le (Heap.lt_size e) I.ok.above)
 have neC:∀b o,X.s₀.heap.get? b=some o→b∉X.ex→b∉ch:=fun b o e hx hb=>by
  rcases (hch b hb).1 with z|z
  · exact hx z
  · exact absurd (Nat.lt_of_lt_of_le (Heap.lt_size e) z) (Nat.lt_irrefl _)
 have cellK:∀x c,X.env.cells.lookup x=some c→∀v,s.heap.IsCell c v→h'.IsCell c v:=fun x c e v ⟨o,ho,hd⟩=>by
  have nch:c∉ch:=fun z=>(hch c z).2.2.1 x c e rfl
  by_cases hc:c∈X.fs
  · obtain ⟨sl,q⟩:=slot c o (I.cne x c e) hc nch ho (I.freeC x c e)
    exact ⟨_,q,hd⟩
  · exact ⟨o,keep c o (I.cne x c e) hc nch ho (I.freeC x c e),hd⟩
 refine ⟨I.ok,I.os,hg,⟨fun b o e n hb hx=> ?_,fun b o e n hb hx=> ?_,fun b o e n hx=> ?_,fun b o e hx=> ?_,fun b xs e=>tups b xs (I.base.tups b xs e),fun b o xs e=>frzs b o xs (I.base.frzs b o xs e),fun b ps e=> ?_⟩,?_,fun x c e=> ?_,?_,fun x c e=> ?_,fun p hp=> ?_,hok,I.len⟩
 · exact keep b o (neL b o e) hb (neC b o e hx) (I.base.keep b o e n hb hx) (I.base.free b o e n hx)
 · obtain ⟨sl,e1⟩:=I.base.slot b o e n hb hx
   obtain ⟨sl',e2⟩:=slot b _ (neL b o e) hb (neC b o e hx) e1 (I.base.free b o e n hx)
   exact ⟨sl',e2⟩
 · obtain ⟨o',e1⟩:=I.base.there b o e hx
   exact free b o' (neC b o e hx) e1 (I.base.free b o e n hx)
 · obtain ⟨o',e1⟩:=I.base.there b o e hx
   exact there b o' (neC b o e hx) e1
 · obtain ⟨m1,e1⟩:=I.base.tbls b ps e
   obtain ⟨m2,e2⟩:=tbls b _ e1
   exact ⟨m1++m2,by rw [e2,Array.append_assoc]⟩
 · obtain ⟨m,hn,hl⟩:=I.loc
   refine ⟨m,ns m hn,fun i x v e1 e2 e3=> ?_⟩
   obtain ⟨u,r,l⟩:=hl i x v e1 e2 e3
   refine ⟨u,r,?_⟩
   rcases l with l|⟨k,c,e,z⟩
   · exact .inl l
   · exact .inr ⟨k,c,e,cellK x c e _ z⟩
 · obtain ⟨v,z⟩:=I.cell x c e
   exact ⟨v,cellK x c e v z⟩
 · obtain ⟨m,⟨o,_,_,ho,_⟩,_⟩:=I.loc
   exact free _ o (fun z=>(hch _ z).2.1 rfl) ho I.free
 · obtain ⟨v,o,ho,hd⟩:=I.cell x c e
   exact free c o (fun z=>(hch c z).2.2.1 x c e rfl) ho (I.freeC x c e)
 · obtain ⟨e,n,ne,nf,d⟩:=I.pin p hp
   have nch:p.1∉ch:=fun z=>(hch p.1 z).2.2.2 p hp rfl
   exact ⟨keep p.1 p.2 ne nf nch e n,free p.1 p.2 nch e n,ne,nf,d⟩
theorem Inv.un {t':Nat} (I:Inv X pins σ H s) (u:Un X.fs [] H H' s.heap h') (hok:HOk X.prog X.w H' h'):Inv X pins σ H' {s with heap:=h',toks:=t'}:=by
 obtain ⟨m,⟨o,es,ep,ho,r⟩,_⟩:=id I.loc
 obtain ⟨sl,hL⟩:=u.any ho I.free (by simp)
 exact I.step (g':=s.gens) (d':=s.drawn) (ch:= []) (fun _ z=>nomatch z) (fun b o _ hb _ e n=>u.keep b o e n hb (by simp)) (fun b o _ hb _ e n=>u.slot b o e n hb (by simp)) (fun b o _ e n=>u.free b o e n (by simp)) (fun b o _ e=>u.there b o e (by simp)) u.tups u.frzs u.tbls (fun m' hm=>by
  obtain ⟨o',es',ep',ho',r'⟩:=hm
  rw [ho] at ho';cases ho'
  exact ⟨_,es',ep',hL,r'⟩) hok I.bare
theorem Inv.call {g':Array GenState} {t':Nat} {d':Drawn} {ch:List Addr} (I:Inv X pins σ H s) (u:Un (frs X.stack) ch H H' s.heap h') (hok:HOk X.prog X.w H' h') (hg:AllBare g')
 (hch:∀b∈ch,(b∈X.ex∨X.s₀.heap.objs.size≤b)∧b≠X.env.locals∧(∀x c,X.env.cells.lookup x=some c→c≠b)∧∀p∈X.pn++pins,p.1≠b):
 Inv X pins σ H' {s with heap:=h',gens:=g',drawn:=d',toks:=t'}:=by
 obtain ⟨m,⟨o,es,ep,ho,r⟩,_⟩:=id I.loc
 obtain ⟨sl,hL⟩:=u.any ho I.free fun z=>(hch _ z).2.1 rfl
 exact I.step (ch:=ch) hch (fun b o hL hb hc e n=>u.keep b o e n (fun z=>(List.mem_cons.mp (I.stkSub b z)).elim hL hb) hc) (fun b o _ _ hc e n=>u.any e n hc) (fun b o hc e n=>u.free b o e n hc) (fun b o hc e=>u.there b o e hc) u.tups u.frzs u.tbls (fun m' hm=>by
  obtain ⟨o',es',ep',ho',r'⟩:=hm
  rw [ho] at ho';cases ho'
  exact ⟨_,es',ep',hL,r'⟩) hok hg
theorem Inv.turned {t':Nat} {it:Addr} (I:Inv X pins σ H s) (k:∀b o,b≠it→s.heap.get? b=some o→h'.get? b=some o) (hn:H it=none) (hL:it≠X.env.locals)
 (h1:it∈X.ex∨X.s₀.heap.objs.size≤it) (h2:∀x c,X.env.cells.lookup x=some c→c≠it) (h3:∀p∈X.pn++pins,p.1≠it):Inv X pins σ H {s with heap:=h',toks:=t'}:=by
 have nit:∀b u,H b=some u→b≠it:=fun b u e z=>by rw [z,hn] at e;cases e
 refine I.step (g':=s.gens) (d':=s.drawn) (ch:= [it]) (fun b hb=> ?_) (fun b o _ _ hc e _=>k b o (fun z=>hc (by simp [z])) e) (fun b o _ _ hc e _=>⟨o.slots,k b o (fun z=>hc (by simp [z])) e⟩) (fun _ _ _ _ n=>n)
  (fun b o hc e=>⟨o,k b o (fun z=>hc (by simp [z])) e⟩) (fun _ _ e=>e) (fun _ _ _ e=>e) (fun b ps e=>⟨#[],by rw [e];simp⟩) (fun m hm=> ?_) (fun b u e=> ?_) I.bare
 · have e:b=it:=by simpa using hb
   subst e
   exact ⟨h1,hL,h2,h3⟩
 · obtain ⟨o,es,ep,ho,r⟩:=hm
   exact ⟨o,es,ep,k _ o (Ne.symm hL) ho,r⟩
 · refine (I.hok b u e).stay (fun c v hc q=>k c v ?_ q) (fun _ q=>q) fun _ _ q=>q
   rcases hc with z|z
   · rw [z];exact nit b u e
   · exact nit c _ z
theorem Inv.tok (I:Inv X pins σ H s) (t:Nat):Inv X pins σ H {s with toks:=t}:=I.un (h':=s.heap) (t':=t) Un.refl I.hok
theorem Inv.kept {t':Nat} (I:Inv X pins σ H s) (k:∀b u,s.heap.get? b=some u→h'.get? b=some u):Inv X pins σ H {s with heap:=h',toks:=t'}:=I.un (Un.kept k) (I.hok.kept k)
theorem Inv.laid {a:Addr} {o:HO} {t':Nat} (I:Inv X pins σ H s) (k:∀b u,s.heap.get? b=some u→h'.get? b=some u) (hp:s.heap.objs.size≤a) (new:ObjOk X.prog X.w (upd H a o) h' a o):
 Inv X pins σ (upd H a o) {s with heap:=h',toks:=t'}:=I.un (Un.laid k hp (I.hok.fresh hp)) (I.hok.laid k hp new)
theorem Inv.write {x e:Addr} {o:HO} {t':Nat} (I:Inv X pins σ H s) (mu:Mut (H x)) (he:e=x∨H e=some (.own x)) (k:∀b u,b≠e→s.heap.get? b=some u→h'.get? b=some u) (heo:∃u,h'.get? e=some u)
 (new:ObjOk X.prog X.w (upd H x o) h' x o):Inv X pins σ (upd H x o) {s with heap:=h',toks:=t'}:=I.un (Un.write mu he k heo) (I.hok.write mu he k heo new)
theorem Inv.weak {σ':List (Option V)} (I:Inv X pins σ H s) (hl:σ'.length=σ.length) (w:∀(i:Nat) v,σ'[i]?=some (some v)→σ[i]?=some (some v)):Inv X pins σ' H s:=
 ⟨I.ok,I.os,I.bare,I.base,let ⟨m,hn,hl'⟩:=I.loc;⟨m,hn,fun i x v e1 e2 e3=>hl' i x v e1 (w i v e2) e3⟩,I.cell,I.free,I.freeC,I.pin,I.hok,hl.trans I.len⟩
theorem Inv.pins_of {pins':List (Addr×Obj)} (I:Inv X pins σ H s) (h:∀p∈pins',s.heap.get? p.1=some p.2∧H p.1=none∧p.1≠X.env.locals∧p.1∉X.fs∧∀v,p.2.data≠ .cell v):Inv X pins' σ H s:=
 ⟨I.ok,I.os,I.bare,I.base,I.loc,I.cell,I.free,I.freeC,fun p hp=>(List.mem_append.mp hp).elim (fun z=>I.pin p (List.mem_append_left _ z)) (h p),I.hok,I.len⟩
theorem nodup_ix {N:List Str} (hN:N.Nodup) {i j:Nat} {x:Str} (a:N[i]?=some x) (b:N[j]?=some x):i=j:=by
 obtain ⟨h1,e1⟩:=List.getElem?_eq_some_iff.mp a
 obtain ⟨h2,e2⟩:=List.getElem?_eq_some_iff.mp b
 exact (List.getElem_inj hN).mp (e1.trans e2.symm)
theorem store_ok2 {M:Model} {A:Around} {E:Value→Shared→Prop} {i:Nat} {x:Str} {v:V} {u:Value} {Q:Unit→Shared→Prop} (I:Inv X pins σ H s) (hN:X.N.Nodup) (hi:X.N[i]?=some x) (hx:Loc X.env.scope x) (r:RelV v u)
 (h:∀s',Inv X pins (σ.set i (some v)) H s'→(∃a,Heap.SameBut a s.heap s'.heap∧(a=X.env.locals∨X.env.cells.lookup x=some a))→Q () s') (hf:X.fn x=true∨X.env.scope.names.lookup x=some .local:=by first|exact .inl rfl|exact .inr rfl|assumption):wpAny M A (storeName X.env x u) Q E s:=by
 obtain ⟨m,hn,hl⟩:=id I.loc
 have hcls:(X.env.scope.kind== .class ||(X.env.scope.kind== .module&&X.env.locals !=X.env.globals))=false:=by rw [I.ok.kind];rfl
 have hiσ:i < σ.length:=by rw [I.len];exact (List.getElem?_eq_some_iff.mp hi).1
 have cne:=I.cne
 have tracked:∀ {a:Addr} {h':Heap},(∃o,s.heap.get? a=some o∧H a=none)→Heap.SameBut a s.heap h'→HOk X.prog X.w H h':=fun {a h'} ha hs b ob e=>by
  obtain ⟨_,_,hfree⟩:=ha
  refine (I.hok b ob e).stay (fun c w' hc q=>(hs.2 c ?_).trans q) (fun _ q=>q) fun _ _ q=>q
  rintro rfl
  rcases hc with rfl|hc
  · rw [hfree] at e;cases e
  · rw [hfree] at hc;cases hc
 rcases hx with hk|hk
 · refine wpAny_storeName_local hk hn (fun h' hn' hs=> ?_) hcls
   obtain ⟨oL,_,_,hoL,_⟩:=id hn
   refine h _ ⟨I.ok,I.os,I.bare,⟨fun b o e n hb hx=> ?_,fun b o e n hb hx=> ?_,I.base.free,fun b o e hx=> ?_,I.base.tups,I.base.frzs,I.base.tbls⟩,⟨_,hn',fun j y v' e1 e2 e3=> ?_⟩,fun y c e=> ?_,I.free,I.freeC,fun p hp=> ?_,tracked ⟨oL,hoL,I.free⟩ hs,by simpa using I.len⟩ ⟨_,hs, .inl rfl⟩
   · exact (hs.2 b (Nat.ne_of_lt (Nat.lt_of_lt_of_le (Heap.lt_size e) I.ok.above))).trans (I.base.keep b o e n hb hx)
   · obtain ⟨sl,e1⟩:=I.base.slot b o e n hb hx
     exact ⟨sl,(hs.2 b (Nat.ne_of_lt (Nat.lt_of_lt_of_le (Heap.lt_size e) I.ok.above))).trans e1⟩
   · obtain ⟨o',e1⟩:=I.base.there b o e hx
     exact ⟨o',(hs.2 b (Nat.ne_of_lt (Nat.lt_of_lt_of_le (Heap.lt_size e) I.ok.above))).trans e1⟩
   · by_cases hj:j=i
     · subst hj
       rw [hi] at e1;cases e1
       rw [List.getElem?_set_self hiσ] at e2
       cases e2
       exact ⟨u,r, .inl ⟨hk,by simp⟩⟩
     · rw [List.getElem?_set_ne (Ne.symm hj)] at e2
       obtain ⟨u',r',q⟩:=hl j y v' e1 e2 e3
       refine ⟨u',r',?_⟩
       rcases q with ⟨k,e⟩|⟨k,c,e,z⟩
       · refine .inl ⟨k,?_⟩
         have:y≠x:=fun e=>hj (nodup_ix hN e1 (e▸hi))
         simp [this,e]
       · exact .inr ⟨k,c,e,z.sameBut hs (cne y c e)⟩
   · obtain ⟨w',z⟩:=I.cell y c e
     exact ⟨w',z.sameBut hs (cne y c e)⟩
   · obtain ⟨e,n,ne,nf,d⟩:=I.pin p hp
     exact ⟨(hs.2 p.1 ne).trans e,n,ne,nf,d⟩
 · have hfn:X.fn x=true:=by
    rcases hf with z|z
    · exact z
    · rw [z] at hk;cases hk
   obtain ⟨c,hc⟩:=I.ok.has x (.inl hk)
   obtain ⟨w',z⟩:=I.cell x c hc
   refine wpAny_storeName_cell I.ok.kind hk hc z (fun h' hc' hs=> ?_)
   obtain ⟨oc,hoc,hocd⟩:=id z
   refine h {s with heap:=h'} ⟨I.ok,I.os,I.bare,⟨fun b o e n hb hx=> ?_,fun b o e n hb hx=> ?_,I.base.free,fun b o e hx=> ?_,I.base.tups,I.base.frzs,I.base.tbls⟩,⟨m,hn.sameBut hs (Ne.symm (cne x c hc)),fun j y v' e1 e2 e3=> ?_⟩,fun y c' e=> ?_,I.free,I.freeC,fun p hp=> ?_,tracked ⟨oc,hoc,I.freeC x c hc⟩ hs,by simpa using I.len⟩ ⟨c,hs, .inr hc⟩
   · exact (hs.2 b (Nat.ne_of_lt (Nat.lt_of_lt_of_le (Heap.lt_size e) (I.ok.cab x c hfn hc)))).trans (I.base.keep b o e n hb hx)
   · obtain ⟨sl,e1⟩:=I.base.slot b o e n hb hx
     exact ⟨sl,(hs.2 b (Nat.ne_of_lt (Nat.lt_of_lt_of_le (Heap.lt_size e) (I.ok.cab x c hfn hc)))).trans e1⟩
   · obtain ⟨o',e1⟩:=I.base.there b o e hx
     exact ⟨o',(hs.2 b (Nat.ne_of_lt (Nat.lt_of_lt_of_le (Heap.lt_size e) (I.ok.cab x c hfn hc)))).trans e1⟩
   · by_cases hj:j=i
     · subst hj
       rw [hi] at e1;cases e1
       rw [List.getElem?_set_self hiσ] at e2
       cases e2
       exact ⟨u,r, .inr ⟨.inl hk,c,hc,hc'⟩⟩
     · rw [List.getElem?_set_ne (Ne.symm hj)] at e2
       obtain ⟨u',r',q⟩:=hl j y v' e1 e2 e3
       refine ⟨u',r',?_⟩
       rcases q with q|⟨k,c',e,z'⟩
       · exact .inl q
       · refine .inr ⟨k,c',e,z'.sameBut hs ?_⟩
         rintro rfl
         exact hj (nodup_ix hN e1 (I.ok.inj _ _ _ e hc▸hi))
   · by_cases hcc:c'=c
     · subst hcc;exact ⟨_,hc'⟩
     · obtain ⟨w2,z2⟩:=I.cell y c' e
       exact ⟨w2,z2.sameBut hs hcc⟩
   · obtain ⟨e,n,ne,nf,d⟩:=I.pin p hp
     refine ⟨(hs.2 p.1 ?_).trans e,n,ne,nf,d⟩
     intro q
     rw [q,hoc] at e
     have q':oc=p.2:=Option.some.inj e
     exact d w' (by rw [←q'];exact hocd)
theorem store_ok {M:Model} {A:Around} {E:Value→Shared→Prop} {i:Nat} {x:Str} {v:V} {u:Value} {Q:Unit→Shared→Prop} (I:Inv X pins σ H s) (hN:X.N.Nodup) (hi:X.N[i]?=some x) (hx:Loc X.env.scope x) (r:RelV v u)
 (h:∀s',Inv X pins (σ.set i (some v)) H s'→Q () s') (hf:X.fn x=true∨X.env.scope.names.lookup x=some .local:=by first|exact .inl rfl|exact .inr rfl|assumption):wpAny M A (storeName X.env x u) Q E s:=
 store_ok2 I hN hi hx r (fun s' I' _=>h s' I') hf
theorem Inv.call' {s':Shared} {ch:List Addr} (I:Inv X pins σ H s) (ho:s'.os=s.os) (u:Un (frs X.stack) ch H H' s.heap s'.heap) (hok:HOk X.prog X.w H' s'.heap) (hg:AllBare s'.gens)
 (hch:∀b∈ch,(b∈X.ex∨X.s₀.heap.objs.size≤b)∧b≠X.env.locals∧(∀x c,X.env.cells.lookup x=some c→c≠b)∧∀p∈X.pn++pins,p.1≠b):Inv X pins σ H' s':=by
 obtain ⟨h',g',d',t',o'⟩:=s'
 have e:o'=s.os:=ho
 subst e
 exact I.call (g':=g') (t':=t') (d':=d') u hok hg hch
end
abbrev XK:=Value→Option Addr→Hp→Prop
abbrev St:=List (Option V)
abbrev VK:=V→Hp→Prop
abbrev TE:=St→Hp→VK→Prop
abbrev TT:=St→Hp→(Bool→Hp→Prop)→Prop
abbrev TA:=St→Hp→(List V→Hp→Prop)→Prop
structure Ends where
 nx:St→Hp→Prop
 rt:VK
 bk:St→Hp→Prop:=fun _ _=>False
 ct:St→Hp→Prop:=fun _ _=>False
abbrev TS:=Ends→St→Hp→Prop
def EP (X:Cx) (pins:List (Addr×Obj)) (σ:St) (Q:VK) (u:Value) (s':Shared):Prop:=∃v H',Inv X pins σ H' s'∧RelV v u∧Q v H'
def TP (X:Cx) (pins:List (Addr×Obj)) (σ:St) (Q:Bool→Hp→Prop) (b:Bool) (s':Shared):Prop:=∃H',Inv X pins σ H' s'∧Q b H'
def AP (X:Cx) (pins:List (Addr×Obj)) (σ:St) (Q:List V→Hp→Prop) (us:List Value) (s':Shared):Prop:=∃vs H',Inv X pins σ H' s'∧Vals vs us∧Q vs H'
def SP (X:Cx) (pins:List (Addr×Obj)) (D:Ends) (f:Flow) (s':Shared):Prop:=
 match f with
 | .next=>∃σ' H',Inv X pins σ' H' s'∧D.nx σ' H'
 | .brk=>∃σ' H',Inv X pins σ' H' s'∧D.bk σ' H'
 | .cont=>∃σ' H',Inv X pins σ' H' s'∧D.ct σ' H'
 | .ret u=>∃v σ' H',Inv X pins σ' H' s'∧RelV v u∧D.rt v H'
def PE (X:Cx) (e:Expr) (t:TE):Prop:=
 ∀(pins:List (Addr×Obj)) (s:Shared) (σ:St) (H:Hp) (Q:VK),Inv X pins σ H s→t σ H Q→wpAny (model X.prog X.w) X.A (eval e X.env) (EP X pins σ Q) X.xe s
def PT (X:Cx) (e:Expr) (t:TT):Prop:=
 ∀(pins:List (Addr×Obj)) (s:Shared) (σ:St) (H:Hp) (Q:Bool→Hp→Prop),Inv X pins σ H s→t σ H Q→wpAny (model X.prog X.w) X.A (isTrue e X.env (eval e X.env)) (TP X pins σ Q) X.xe s
def PW (X:Cx) (e:Expr) (t:TT):Prop:=
 ∀(whole:Sem Value) (pins:List (Addr×Obj)) (s:Shared) (σ:St) (H:Hp) (Q:Bool→Hp→Prop),Inv X pins σ H s→t σ H Q→wpAny (model X.prog X.w) X.A (isTrue e X.env whole) (TP X pins σ Q) X.xe s
theorem PW.pt {X:Cx} {e:Expr} {t:TT} (h:PW X e t):PT X e t:=h _
def PA (X:Cx) (es:List Expr) (t:TA):Prop:=
 ∀(pos:Pos) (pins:List (Addr×Obj)) (s:Shared) (σ:St) (H:Hp) (Q:List V→Hp→Prop),Inv X pins σ H s→t σ H Q→wpAny (model X.prog X.w) X.A (spliced (backTo pos (starEach es X.env))) (AP X pins σ Q) X.xe s
def PS (X:Cx) (st:Stmt) (t:TS):Prop:=
 ∀(pins:List (Addr×Obj)) (s:Shared) (σ:St) (H:Hp) (D:Ends),Inv X pins σ H s→t D σ H→wpAny (model X.prog X.w) X.A (exec st X.env) (SP X pins D) X.xe s
def PSs (X:Cx) (st:List Stmt) (t:TS):Prop:=
 ∀(pins:List (Addr×Obj)) (s:Shared) (σ:St) (H:Hp) (D:Ends),Inv X pins σ H s→t D σ H→wpAny (model X.prog X.w) X.A (execs st X.env) (SP X pins D) X.xe s
theorem thn {α:Type} {t:Sem α} {Q Q':α→Shared→Prop} {M:Model} {A:Around} {E:Value→Shared→Prop} {s:Shared} (h:wpAny M A t Q E s) (hQ:∀a s,Q a s→Q' a s):wpAny M A t Q' E s:=wpAny_mono h hQ fun _ _ x=>x
open PySem PySem.Spec PyProof.Rows
section
variable {X:Cx}
def tVar (i:Nat):TE:=fun σ H Q=>∃v,σ[i]?=some (some v)∧Q v H
def tC (v:V):TE:=fun _ H Q=>Q v H
theorem pe_var {i:Nat} {x:Str} {pos:Pos} (hN:X.N[i]?=some x) (hv:Vis X.env.scope x) (hd:(x==("__debug__":Str))=false:=by decide) (hcd:(x==("__classdict__":Str))=false:=by decide):PE X (.Name x pos) (tVar i):=by
 intro pins s σ H Q I h
 obtain ⟨v,e,h⟩:=h
 obtain ⟨m,hn,hl⟩:=I.loc
 obtain ⟨u,r,l⟩:=hl i x v hN e hv
 have fin:EP X pins σ Q u s:=⟨v,H,I,r,h⟩
 rcases l with ⟨hk,hm⟩|⟨hk,c,hc,hcell⟩
 · exact wpAny_Name (wpAny_loadName_local I.ok.kind hk hn hm fin) hd
 · rcases hk with hk|hk
   · exact wpAny_Name (wpAny_loadName_cell I.ok.kind hk hc hcell fin) hd
   · exact wpAny_Name (wpAny_loadName_free I.ok.kind hk hc hcell fin hcd) hd
theorem pe_int {i j pos}:PE X (.Constant (.int i) j pos) (tC (.int i)):=fun _ _ _ H _ I h=>wpAny_Constant_int ⟨.int i,H,I.tok _,⟨_,rfl⟩,h⟩
theorem pe_bl {b j pos}:PE X (.Constant (.bool b) j pos) (tC (.bl b)):=fun _ _ _ H _ I h=>Constant_bool ⟨.bl b,H,I,rfl,h⟩
theorem pe_non {j pos}:PE X (.Constant .none j pos) (tC .non):=fun _ _ _ H _ I h=>Constant_none ⟨.non,H,I,rfl,h⟩
theorem pe_str {x j pos}:PE X (.Constant (.str x) j pos) (tC (.str x)):=fun _ _ _ H _ I h=>Calls.Constant_str ⟨.str x,H,I.tok _,⟨_,rfl⟩,h⟩
def Gl (X:Cx) (x:Str):Prop:=X.env.kindOf x=some .globalImplicit
theorem ld_glob {E:Value→Shared→Prop} {pins:List (Addr×Obj)} {s:Shared} {σ:St} {H:Hp} {x:Str} {u:Value} {pos:Pos} {Q:Value→Shared→Prop} (I:Inv X pins σ H s) (hg:Gl X x) (hm:X.mg x=some u) (h:Q u s)
 (hd:(x==("__debug__":Str))=false:=by decide):wpAny (model X.prog X.w) X.A (eval (.Name x pos) X.env) Q E s:=
 Calls.Name_function_global I.ok.kind hg (Calls.loadGlobal_global (by rw [I.ok.glob];exact I.mod.glob.keeps I.bk) hm h) hd
theorem ld_blt {E:Value→Shared→Prop} {pins:List (Addr×Obj)} {s:Shared} {σ:St} {H:Hp} {x:Str} {u:Value} {pos:Pos} {Q:Value→Shared→Prop} (I:Inv X pins σ H s) (hg:Gl X x) (hm:X.mg x=none) (hv:bootBuiltins x=some u) (h:Q u s)
 (hn:x≠"__name__":=by decide) (hd:(x==("__debug__":Str))=false:=by decide):wpAny (model X.prog X.w) X.A (eval (.Name x pos) X.env) Q E s:=by
 obtain ⟨mb,h1,h2⟩:=I.mod.blt
 exact Calls.Name_function_global I.ok.kind hg (Calls.loadGlobal_builtin (by rw [I.ok.glob];exact I.mod.glob.keeps I.bk) hm (by rw [I.ok.blt];exact h1.keeps I.bk) ((h2 x hn).trans hv) h) hd
theorem pe_glob {x:Str} {v:V} {u:Value} {pos:Pos} (hg:Gl X x) (hm:X.mg x=some u) (r:RelV v u) (hd:(x==("__debug__":Str))=false:=by decide):PE X (.Name x pos) (tC v):=
 fun _ _ _ H _ I h=>ld_glob I hg hm ⟨v,H,I,r,h⟩ hd
theorem pe_bltn {x:Str} {v:V} {u:Value} {pos:Pos} (hg:Gl X x) (hm:X.mg x=none) (hv:bootBuiltins x=some u) (r:RelV v u) (hn:x≠"__name__":=by decide) (hd:(x==("__debug__":Str))=false:=by decide):PE X (.Name x pos) (tC v):=
 fun _ _ _ H _ I h=>ld_blt I hg hm hv ⟨v,H,I,r,h⟩ hn hd
variable {a b:Expr} {ta tb:TE} {pos:Pos}
def tB (t:TE):TT:=fun σ H Q=>t σ H fun x H1=>∃c,x= .bl c∧Q c H1
theorem pt_val {e:Expr} {t:TE} (h:PE X e t) (he:∀whole,isTrue e X.env whole=(do let v←whole;standAt e.pos;holding [v] (truthy v)):=by intro _;rfl):PT X e (tB t):=by
 intro pins s σ H Q I hw
 refine isTrue_plain (thn (h pins s σ H _ I hw) fun v s1 ⟨x,H1,I1,r1,q1⟩=> ?_) (he _)
 obtain ⟨d,rfl,q⟩:=q1
 cases r1
 exact wpAny_truthy_bool ⟨H1,I1,q⟩
variable {tA tB':TT} {rest:List Expr}
def tAnd (t u:TT):TT:=fun σ H Q=>t σ H fun c H1=>if c=true then u σ H1 Q else Q false H1
def tOr (t u:TT):TT:=fun σ H Q=>t σ H fun c H1=>if c=true then Q true H1 else u σ H1 Q
def tNot (t:TT):TT:=fun σ H Q=>t σ H fun c H1=>Q (!c) H1
theorem pw_and1 (ha:PT X a tA):PW X (.BoolOp .And [a] pos) tA:=by
 intro wh pins s σ H Q I h
 refine isTrue_and (thn (ha pins s σ H Q I h) fun c s1 e=> ?_)
 cases c with
 |true=>exact isTrue_and_nil e
 |false=>exact e
theorem pw_or1 (ha:PT X a tA):PW X (.BoolOp .Or [a] pos) tA:=by
 intro wh pins s σ H Q I h
 refine isTrue_or (thn (ha pins s σ H Q I h) fun c s1 e=> ?_)
 cases c with
 |false=>exact isTrue_or_nil e
 |true=>exact e
theorem pw_and (ha:PT X a tA) (hb:PW X (.BoolOp .And (b::rest) pos) tB'):PW X (.BoolOp .And (a::b::rest) pos) (tAnd tA tB'):=by
 intro wh pins s σ H Q I h
 refine isTrue_and (thn (ha pins s σ H _ I h) fun c s1 ⟨H1,I1,q1⟩=> ?_)
 cases c with
 |true=>exact hb wh pins s1 σ H1 Q I1 q1
 |false=>exact ⟨H1,I1,q1⟩
theorem pw_or (ha:PT X a tA) (hb:PW X (.BoolOp .Or (b::rest) pos) tB'):PW X (.BoolOp .Or (a::b::rest) pos) (tOr tA tB'):=by
 intro wh pins s σ H Q I h
 refine isTrue_or (thn (ha pins s σ H _ I h) fun c s1 ⟨H1,I1,q1⟩=> ?_)
 cases c with
 |true=>exact ⟨H1,I1,q1⟩
 |false=>exact hb wh pins s1 σ H1 Q I1 q1
theorem pt_not (ha:PT X a tA):PT X (.UnaryOp .Not a pos) (tNot tA):=by
 intro pins s σ H Q I h
 exact isTrue_not (ha pins s σ H (fun c H1=>Q (!c) H1) I h)
def tAndV (ta tb:TE):TE:=fun σ H Q=>ta σ H fun x H1=>∃c,x= .bl c∧if c=true then tb σ H1 Q else Q (.bl false) H1
def tNotV (ta:TE):TE:=fun σ H Q=>ta σ H fun x H1=>∃c,x= .bl c∧Q (.bl (!c)) H1
theorem pe_one {op} {t:TE} (h:PE X a t):PE X (.BoolOp op [a] pos) t:=fun pins s σ H Q I hw=>BoolOp_one (h pins s σ H Q I hw)
theorem pe_and (ha:PE X a ta) (hb:PE X (.BoolOp .And (b::rest) pos) tb):PE X (.BoolOp .And (a::b::rest) pos) (tAndV ta tb):=by
 intro pins s σ H Q I h
 refine BoolOp_and (thn (ha pins s σ H _ I h) fun v s1 ⟨x,H1,I1,r1,q1⟩=> ?_)
 obtain ⟨c,rfl,q1⟩:=q1
 cases r1
 refine wpAny_truthy_bool ?_
 cases c with
 |true=>exact hb pins s1 σ H1 Q I1 q1
 |false=>exact ⟨.bl false,H1,I1,rfl,q1⟩
theorem pe_not (ha:PE X a ta):PE X (.UnaryOp .Not a pos) (tNotV ta):=by
 intro pins s σ H Q I h
 refine UnaryOp_ (thn (ha pins s σ H _ I h) fun v s1 ⟨x,H1,I1,r1,q1⟩=> ?_)
 obtain ⟨c,rfl,q1⟩:=q1
 cases r1
 exact not_of (wpAny_truthy_bool ⟨.bl (!c),H1,I1,rfl,q1⟩)
def tIf (t:TT) (ta tb:TE):TE:=fun σ H Q=>t σ H fun c H1=>if c=true then ta σ H1 Q else tb σ H1 Q
theorem pe_ifExp {c:Expr} (hc:PT X c tA) (ha:PE X a ta) (hb:PE X b tb):PE X (.IfExp c a b pos) (tIf tA ta tb):=by
 intro pins s σ H Q I h
 refine wpAny_IfExp (thn (hc pins s σ H _ I h) fun d s1 ⟨H1,I1,q1⟩=> ?_)
 cases d with
 |true=>exact ha pins s1 σ H1 Q I1 q1
 |false=>exact hb pins s1 σ H1 Q I1 q1
end
open PySem PySem.Spec PyProof.Rows
def SqL (K:PySem.W.Frag) (H:Hp) (a:Addr) (xs:List V):Prop:=
 Rd H a (.lst xs)∨
  ∃(o:Obj) (its:Array Value) (n:Nat),K.lookup a=some o∧o.cls= .type "list"∧o.dict=none∧o.data= .seq its n∧its.size≤sizeLine∧Vals xs its.toList
def SqT (K:PySem.W.Frag) (H:Hp) (a:Addr) (xs:List V):Prop:=
 Rd H a (.tup xs)∨
  ∃(o:Obj) (its:Array Value) (n:Nat),K.lookup a=some o∧o.cls= .type "tuple"∧o.data= .seq its n∧its.size≤sizeLine∧Vals xs its.toList
noncomputable def absV:Value→Option V
 | .none=>some .non
 | .bool b=>some (.bl b)
 | .int i _=>some (.int i)
 | .str x _=>some (.str x)
 | .bytes b _=>some (.byt b)
 | .float b _=>some (.flt b)
 | .ref a=>some (.ref a)
 | .type n=>some (.ty n)
 |_=>none
theorem RelV.abs {x:V} {u:Value} (r:RelV x u):absV u=some x:=by
 cases x with
 |non=>cases r;rfl
 |bl _=>cases r;rfl
 |int _=>obtain ⟨t,rfl⟩:=r;rfl
 |str _=>obtain ⟨t,rfl⟩:=r;rfl
 |byt _=>obtain ⟨t,rfl⟩:=r;rfl
 |flt _=>obtain ⟨t,rfl⟩:=r;rfl
 |ref _=>cases r;rfl
 |ty _=>cases r;rfl
theorem RelV.inj {x y:V} {u:Value} (r:RelV x u) (q:RelV y u):x=y:=Option.some.inj (r.abs.symm.trans q.abs)
theorem Vals.inj:∀ {xs ys:List V} {us:List Value},Vals xs us→Vals ys us→xs=ys
 |_,_,_, .nil, .nil=>rfl
 |_,_,_, .cons r t, .cons r' t'=>by rw [r.inj r',Vals.inj t t']
section
variable {X:Cx} {pins:List (Addr×Obj)} {σ:St} {H:Hp} {s:Shared} {a:Addr} {xs ys:List V}
theorem SqL.of {K:PySem.W.Frag} (h:H a=some (.lst xs)):SqL K H a xs:= .inl (.inl h)
theorem SqT.of {K:PySem.W.Frag} (h:H a=some (.tup xs)):SqT K H a xs:= .inl (.inl h)
theorem Inv.list (I:Inv X pins σ H s) (h:SqL X.K H a xs):∃its:List Value,Vals xs its∧PlainL s.heap a its.toArray∧xs.length≤sizeLine:=by
 rcases h with h|⟨o,its,n,hk,hc,hd,hs,hz,r⟩
 · obtain ⟨z,its,n,r,e⟩:=h.ok I.hok
   exact ⟨its,r,⟨_,n,e,rfl,rfl,rfl⟩,z⟩
 · refine ⟨its.toList,r,⟨o,n,I.kIn a o hk,hc,hd,by simpa using hs⟩,?_⟩
   have e:=r.length
   simp only [Array.length_toList] at e
   omega
theorem Inv.tuple (I:Inv X pins σ H s) (h:SqT X.K H a xs):∃its:List Value,Vals xs its∧IsTup s.heap a its.toArray∧xs.length≤sizeLine:=by
 rcases h with h|⟨o,its,n,hk,hc,hs,hz,r⟩
 · obtain ⟨z,its,r,p⟩:=h.ok I.hok
   exact ⟨its,r,p,z⟩
 · refine ⟨its.toList,r,⟨o,I.kIn a o hk,hc,n,by simpa using hs⟩,?_⟩
   have e:=r.length
   simp only [Array.length_toList] at e
   omega
theorem Inv.list_inj (I:Inv X pins σ H s) (h:SqL X.K H a xs) (h':SqL X.K H a ys):xs=ys:=by
 obtain ⟨its,r,⟨o,n,e,_,_,d⟩,_⟩:=I.list h
 obtain ⟨its',r',⟨o',n',e',_,_,d'⟩,_⟩:=I.list h'
 rw [e] at e';cases e'
 rw [d] at d'
 injection d' with d1 _
 have:its=its':=by simpa using congrArg Array.toList d1
 subst this
 exact r.inj r'
theorem Inv.tuple_inj (I:Inv X pins σ H s) (h:SqT X.K H a xs) (h':SqT X.K H a ys):xs=ys:=by
 obtain ⟨its,r,⟨o,e,_,n,d⟩,_⟩:=I.tuple h
 obtain ⟨its',r',⟨o',e',_,n',d'⟩,_⟩:=I.tuple h'
 rw [e] at e';cases e'
 rw [d] at d'
 injection d' with d1 _
 have:its=its':=by simpa using congrArg Array.toList d1
 subst this
 exact r.inj r'
end
abbrev Cx.wish (X:Cx) (E:Value→Shared→Prop):Cx:= {X with xe:=E}
abbrev Cx.nox (X:Cx):Cx:=X.wish fun _ _=>False
theorem Cx.Ok.wish {X:Cx} (ok:X.Ok) (E:Value→Shared→Prop):(X.wish E).Ok:=
 ⟨ok.mod,ok.kind,ok.glob,ok.blt,ok.above,ok.inj,ok.has,ok.cab,ok.hd,ok.frames,ok.stk,ok.exf,ok.bs,ok.bsz,ok.noex,ok.exfs,ok.funs,ok.frf⟩
theorem Cx.Ok.unwish {X:Cx} {E:Value→Shared→Prop} (ok:(X.wish E).Ok):X.Ok:=
 ⟨ok.mod,ok.kind,ok.glob,ok.blt,ok.above,ok.inj,ok.has,ok.cab,ok.hd,ok.frames,ok.stk,ok.exf,ok.bs,ok.bsz,ok.noex,ok.exfs,ok.funs,ok.frf⟩
section
variable {X:Cx} {pins:List (Addr×Obj)} {σ:St} {H:Hp} {s:Shared} {E:Value→Shared→Prop}
theorem Inv.wish (I:Inv X pins σ H s) (E:Value→Shared→Prop):Inv (X.wish E) pins σ H s:=⟨I.ok.wish E,I.os,I.bare,I.base,I.loc,I.cell,I.free,I.freeC,I.pin,I.hok,I.len⟩
theorem Inv.unwish (I:Inv (X.wish E) pins σ H s):Inv X pins σ H s:=⟨I.ok.unwish,I.os,I.bare,I.base,I.loc,I.cell,I.free,I.freeC,I.pin,I.hok,I.len⟩
theorem SP.unwish {D:Ends} {f:Flow} {s':Shared} (h:SP (X.wish E) pins D f s'):SP X pins D f s':=by
 cases f with
 |next=>obtain ⟨σ',H',I,q⟩:=h;exact ⟨σ',H',I.unwish,q⟩
 |brk=>obtain ⟨σ',H',I,q⟩:=h;exact ⟨σ',H',I.unwish,q⟩
 |cont=>obtain ⟨σ',H',I,q⟩:=h;exact ⟨σ',H',I.unwish,q⟩
 |ret u=>obtain ⟨v,σ',H',I,r,q⟩:=h;exact ⟨v,σ',H',I.unwish,r,q⟩
theorem PE.nox {e:Expr} {t:TE} (h:PE X.nox e t):PE X e t:=fun pins s σ H Q I hw=>
 wpAny_mono (h pins s σ H Q (I.wish _) hw) (fun _ _ ⟨v,H',I',r,q⟩=>⟨v,H',I'.unwish,r,q⟩) fun _ _ z=>False.elim z
theorem PT.nox {e:Expr} {t:TT} (h:PT X.nox e t):PT X e t:=fun pins s σ H Q I hw=>
 wpAny_mono (h pins s σ H Q (I.wish _) hw) (fun _ _ ⟨H',I',q⟩=>⟨H',I'.unwish,q⟩) fun _ _ z=>False.elim z
theorem PSs.nox {st:List Stmt} {t:TS} (h:PSs X.nox st t):PSs X st t:=fun pins s σ H D I hw=>
 wpAny_mono (h pins s σ H D (I.wish _) hw) (fun _ _ q=>q.unwish) fun _ _ z=>False.elim z
end
section
variable {X:Cx} {st:Stmt} {rest:List Stmt} {t u:TS} {e:Expr} {te:TE} {pos:Pos}
def tNext:TS:=fun D σ H=>D.nx σ H
def tSeq (t u:TS):TS:=fun D σ H=>t {D with nx:=u D} σ H
theorem pss_nil:PSs X [] tNext:=fun _ _ σ H _ I h=>wpAny_execs_nil ⟨σ,H,I,h⟩
theorem pss_cons (h1:PS X st t) (h2:PSs X rest u):PSs X (st::rest) (tSeq t u):=by
 intro pins s σ H D I h
 refine wpAny_execs_cons (thn (h1 pins s σ H {D with nx:=u D} I h) fun f s1 q=> ?_)
 cases f with
 |next=>
  obtain ⟨σ',H',I',q⟩:=q
  exact h2 pins s1 σ' H' D I' q
 |ret v=>exact q
 |brk=>exact q
 |cont=>exact q
theorem pss_one (h1:PS X st t):PSs X [st] t:=by
 intro pins s σ H D I h
 refine wpAny_execs_cons (thn (h1 pins s σ H D I h) fun f s1 q=> ?_)
 cases f with
 |next=>exact wpAny_execs_nil q
 |ret v=>exact q
 |brk=>exact q
 |cont=>exact q
theorem Inv.quiet {pins:List (Addr×Obj)} {σ:St} {H:Hp} {s:Shared} (I:Inv X pins σ H s):interactive X.env=false:=by simp [interactive,I.ok.kind]
def tDrop (te:TE):TS:=fun D σ H=>te σ H fun _ H1=>D.nx σ H1
theorem ps_expr (he:PE X e te) (hs:swapsWith e none pos.line X.env=pure false:=by rfl):PS X (.Expr e pos) (tDrop te):=by
 intro pins s σ H D I h
 exact wpAny_Expr_any (thn (he pins s σ H _ I h) fun v s1 ⟨x,H1,I1,r1,q1⟩=>⟨σ,H1,I1,q1⟩) I.quiet hs
def tRet (te:TE):TS:=fun D σ H=>te σ H D.rt
theorem ps_ret (he:PE X e te):PS X (.Return (some e) pos) (tRet te):=by
 intro pins s σ H D I h
 exact wpAny_Return_some (thn (he pins s σ H _ I h) fun v s1 ⟨x,H1,I1,r1,q1⟩=>⟨x,σ,H1,I1,r1,q1⟩)
def tIfS (c:TT) (t u:TS):TS:=fun D σ H=>c σ H fun b H1=>if b=true then t D σ H1 else u D σ H1
theorem ps_if {c:Expr} {a b:List Stmt} {tc:TT} (hc:PT X c tc) (ha:PSs X a t) (hb:PSs X b u):PS X (.If c a b pos) (tIfS tc t u):=by
 intro pins s σ H D I h
 refine wpAny_If (thn (hc pins s σ H _ I h) fun d s1 ⟨H1,I1,q1⟩=> ?_)
 cases d with
 |true=>exact ha pins s1 σ H1 D I1 q1
 |false=>exact hb pins s1 σ H1 D I1 q1
end
abbrev TG:=V→St→Hp→(St→Hp→Prop)→Prop
abbrev TGs:=List V→St→Hp→(St→Hp→Prop)→Prop
def PG (X:Cx) (target:Expr) (t:TG):Prop:=
 ∀(pins:List (Addr×Obj)) (s:Shared) (σ:St) (H:Hp) (v:V) (u:Value) (Q:St→Hp→Prop),Inv X pins σ H s→RelV v u→t v σ H Q→
  wpAny (model X.prog X.w) X.A (assign target X.env u) (fun _ s'=>∃σ' H',Inv X pins σ' H' s'∧Q σ' H') X.xe s
def PGs (X:Cx) (ts:List Expr) (t:TGs):Prop:=
 ∀(pins:List (Addr×Obj)) (s:Shared) (σ:St) (H:Hp) (vs:List V) (us:List Value) (Q:St→Hp→Prop),Inv X pins σ H s→Vals vs us→t vs σ H Q→
  wpAny (model X.prog X.w) X.A (assignInOrder ((assignEach ts X.env).map (·.2)) us) (fun _ s'=>∃σ' H',Inv X pins σ' H' s'∧Q σ' H') X.xe s
section
variable {X:Cx} {pos:Pos}
def gName (i:Nat):TG:=fun v σ H Q=>Q (σ.set i (some v)) H
theorem pg_name {i:Nat} {x:Str} (hN:X.N.Nodup) (hi:X.N[i]?=some x) (hx:Loc X.env.scope x) (hf:X.fn x=true∨X.env.scope.names.lookup x=some .local:=by first|exact .inl rfl|exact .inr rfl|assumption):PG X (.Name x pos) (gName i):=by
 intro pins s σ H v u Q I r h
 exact wpAny_assign_Name (store_ok I hN hi hx r (fun s' I'=>⟨_,H,I',h⟩) hf)
def gNil:TGs:=fun vs σ H Q=>vs= []∧Q σ H
def gCons (t:TG) (u:TGs):TGs:=fun vs σ H Q=>∃v r,vs=v::r∧t v σ H fun σ' H'=>u r σ' H' Q
theorem pgs_nil:PGs X [] gNil:=by
 intro pins s σ H vs us Q I r h
 obtain ⟨e,h⟩:=h
 subst e
 cases r
 exact assignInOrder_nil ⟨σ,H,I,h⟩
theorem pgs_cons {e:Expr} {es:List Expr} {t:TG} {u:TGs} (h1:PG X e t) (h2:PGs X es u)
 (hs:(assignEach (e::es) X.env).map (·.2)=assign e X.env::(assignEach es X.env).map (·.2):=by rfl):PGs X (e::es) (gCons t u):=by
 intro pins s σ H vs us Q I r h
 obtain ⟨v,vr,e1,h⟩:=h
 subst e1
 cases r with
 |cons r rr=>
  rw [hs]
  refine assignInOrder_cons (thn (h1 pins s σ H _ _ _ I r h) fun _ s1 ⟨σ1,H1,I1,q1⟩=> ?_)
  exact h2 pins s1 σ1 H1 _ _ Q I1 rr q1
def gTup (K:PySem.W.Frag) (n:Nat) (t:TGs):TG:=fun v σ H Q=>∃a xs,v= .ref a∧SqT K H a xs∧xs.length=n∧t xs σ H Q
theorem pg_tup {es:List Expr} {k:Nat} {t:TGs} {n:Nat} (hc:X.calm=true) (h:PGs X es t)
 (hn:(assignEach es X.env).length=n:=by rfl) (hst:(assignEach es X.env).findIdx? (·.1)=none:=by rfl):PG X (.Tuple es k pos) (gTup X.K n t):=by
 intro pins s σ H v u Q I r hw
 obtain ⟨a,xs,e1,hq,hl,hw⟩:=hw
 subst e1
 cases r
 obtain ⟨its,rv,ht,hz⟩:=I.tuple hq
 refine assign_Tuple_tuple (I.ok.hd hc) ht (by simp [hn,←hl,rv.length]) hst fun h' hx=> ?_
 have I1:Inv X pins σ H {s with heap:=h'}:=I.kept (t':=s.toks) fun b o e=>hx b o (Nat.ne_of_lt (Heap.lt_size e)) e
 exact h pins _ σ H xs _ Q I1 (by simpa using rv) hw
def tAsg (te:TE) (g:TG):TS:=fun D σ H=>te σ H fun x H1=>g x σ H1 D.nx
theorem ps_set {i:Nat} {x:Str} {e:Expr} {te:TE} {pos':Pos} (hN:X.N.Nodup) (hi:X.N[i]?=some x) (hx:Loc X.env.scope x) (he:PE X e te) (hs:swapsWith e (some (.Name x pos')) pos.line X.env=pure false:=by rfl) (hf:X.fn x=true∨X.env.scope.names.lookup x=some .local:=by first|exact .inl rfl|exact .inr rfl|assumption):
 PS X (.Assign [.Name x pos'] e pos) (tAsg te (gName i)):=by
 intro pins s σ H D I h
 refine wpAny_Assign_Name (thn (he pins s σ H _ I h) fun v s1 ⟨y,H1,I1,r1,q1⟩=> ?_) hs
 exact store_ok I1 hN hi hx r1 (fun s2 I2=>⟨_,H1,I2,q1⟩) hf
def tPar (i j:Nat) (ta:TA):TS:=fun D σ H=>ta σ H fun vs H1=>∃v w,vs= [v,w]∧D.nx ((σ.set i (some v)).set j (some w)) H1
theorem ps_par {i j:Nat} {x y:Str} {a b:Expr} {ta:TA} {px py pt:Pos} {kt k2 pt2} (hc:X.calm=true) (hN:X.N.Nodup) (hi:X.N[i]?=some x) (hj:X.N[j]?=some y) (hij:i≠j)
 (hx:X.env.scope.names.lookup x=some .local) (hy:X.env.scope.names.lookup y=some .local) (ha:PA X [a,b] ta)
 (hw:swappedStores [.Tuple [.Name x px, .Name y py] kt pt] (.Tuple [a,b] k2 pt2) X.env=pure (some [x,y]))
 (hs:swapsWithSole [.Tuple [.Name x px, .Name y py] kt pt] (.Tuple [a,b] k2 pt2) pos.line X.env=pure false:=by rfl):
 PS X (.Assign [.Tuple [.Name x px, .Name y py] kt pt] (.Tuple [a,b] k2 pt2) pos) (tPar i j ta):=by
 intro pins s σ H D I h
 rw [exec_Assign_arm]
 refine wpAny_bind (wpAny_standAt ?_)
 rw [hs]
 refine wpAny_bind (wpAny_pure ?_)
 rw [if_neg (by decide)]
 refine wpAny_bind (Tuple_ (thn (ha _ pins s σ H _ I h) fun us s1 ⟨vs,H1,I1,r1,q1⟩=> ?_))
 obtain ⟨v,w,e1,q1⟩:=q1
 subst e1
 obtain ⟨u1,u2,rfl,rv,rw'⟩:∃u1 u2,us= [u1,u2]∧RelV v u1∧RelV w u2:=by
  cases r1 with
  |cons p q=>
   cases q with
   |cons p' q'=>
    cases q'
    exact ⟨_,_,rfl,p,p'⟩
 refine wpAny_newObj_type ?_ (by show 2≤sizeLine;decide)
 have I2:Inv X pins σ H1 {s1 with heap:=s1.heap.push {cls:= .type "tuple",data:= .seq [u1,u2].toArray}}:=I1.kept (t':=s1.toks) fun b o e=>Heap.get?_push_of_some _ e
 rw [hw]
 refine wpAny_bind (wpAny_pure ?_)
 show wpAny (model X.prog X.w) X.A (do rule "assign.swapped-stores";let items←unpackItems (.ref s1.heap.objs.size) 2 none;assignInOrder [fun v=>bindName X.env y v,fun v=>bindName X.env x v] items.reverse;pure Flow.next) _ _ _
 refine wpAny_bind (wpAny_rule (wpAny_bind (unpackItems_tuple (items:= #[u1,u2]) (I.ok.hd hc) (IsTup.new s1.heap _) fun h' hx'=> ?_)))
 have I3:=I2.kept (h':=h') (t':=s1.toks) fun b o e=>hx' b o (Nat.ne_of_lt (Heap.lt_size e)) e
 show wpAny _ _ (assignInOrder [fun v=>bindName X.env y v,fun v=>bindName X.env x v] [u2,u1] >>=fun _=>pure Flow.next) _ _ _
 refine wpAny_bind (assignInOrder_cons (wpAny_bindName (store_ok I3 hN hj (.inl hy) rw' (fun s2 I4=> ?_) (.inr hy))))
 refine assignInOrder_cons (wpAny_bindName (store_ok I4 hN hi (.inl hx) rv (fun s3 I5=>assignInOrder_nil (wpAny_pure ?_)) (.inr hx)))
 rw [List.set_comm _ _ (Ne.symm hij)] at I5
 exact ⟨_,H1,I5,q1⟩
end
section
variable {X:Cx} {pos:Pos}
def tWhile (c:TT) (tb:TS):TS:=fun D σ H=>∃W:Nat→St→Hp→Prop,(∃m,W m σ H)∧∀m σ H,W m σ H→
 c σ H fun b H1=>if b=true then∃N:St→Hp→Prop,(∀σ' H',N σ' H'→∃m',m' < m∧W m' σ' H')∧tb {D with nx:=N,ct:=N,bk:=D.nx} σ H1 else D.nx σ H1
theorem ps_while {c:Expr} {body:List Stmt} {tc:TT} {tb:TS} (hp:PassesOwn (model X.prog X.w) X.A X.env X.xe) (hc:PT X c tc) (hb:PSs X body tb):PS X (.While c body [] pos) (tWhile tc tb):=by
 intro pins s σ H D I h
 obtain ⟨W,⟨m0,w0⟩,turn⟩:=h
 refine wpAny_While (codeAny_whileLoop (fun n s'=>∃σ' H',Inv X pins σ' H' s'∧W n σ' H') ?_ m0 ⟨σ,H,I,w0⟩)
 rintro n s1 ⟨σ1,H1,I1,w1⟩
 refine wpAny_passesOwn hp (thn (hc pins s1 σ1 H1 _ I1 (turn n σ1 H1 w1)) fun b s2 ⟨H2,I2,q2⟩=> ?_)
 cases b with
 |true=>
  obtain ⟨N,hN,q2⟩:=q2
  rw [if_pos rfl]
  refine wpAny_passesOwn hp (thn (hb pins s2 σ1 H2 _ I2 q2) fun f s3 q3=> ?_)
  cases f with
  |next=>
   obtain ⟨σ3,H3,I3,n3⟩:=q3
   obtain ⟨m',hm,w3⟩:=hN σ3 H3 n3
   exact ⟨m',hm,σ3,H3,I3,w3⟩
  |cont=>
   obtain ⟨σ3,H3,I3,n3⟩:=q3
   obtain ⟨m',hm,w3⟩:=hN σ3 H3 n3
   exact ⟨m',hm,σ3,H3,I3,w3⟩
  |brk=>exact q3
  |ret v=>exact q3
 |false=>
  rw [if_neg Bool.false_ne_true]
  exact wpAny_execs_nil ⟨σ1,H2,I2,q2⟩
end
structure It where
 go:Nat→Hp→Prop
 yld:Nat→Hp→V→Hp→Prop
 stop:Nat→Hp→Prop
def FpOk (X:Cx) (pins:List (Addr×Obj)) (H:Hp) (b:Addr):Prop:=
 H b=none∧b≠X.env.locals∧b∉X.fs∧(b∈X.ex∨X.s₀.heap.objs.size≤b)∧(∀x c,X.env.cells.lookup x=some c→c≠b)∧∀p∈X.pn++pins,p.1≠b
theorem Inv.fpOk {X:Cx} {pins:List (Addr×Obj)} {σ:St} {H H':Hp} {s:Shared} {b:Addr} (I:Inv X pins σ H s) (hb:s.heap.objs.size≤b) (hn:H' b=none):FpOk X pins H' b:=by
 refine ⟨hn,Nat.ne_of_gt (Nat.lt_of_lt_of_le I.lt hb),I.nofs hb, .inr (Nat.le_trans I.sz hb),fun x c e z=> ?_,fun p hp z=> ?_⟩
 · obtain ⟨v,q⟩:=I.cell x c e
   exact absurd (Nat.lt_of_lt_of_le q.lt (by rw [z];exact hb)) (Nat.lt_irrefl _)
 · exact absurd (Nat.lt_of_lt_of_le (Heap.lt_size (I.pin p hp).1) (by rw [z];exact hb)) (Nat.lt_irrefl _)
structure Turn (P:Program) (w:World) (K:PySem.W.Frag) (tg:Expr) (J:It) (fp:List Addr) (it:Addr) (tn:Nat→Heap→Prop):Prop where
 mem:it∈fp
 obj:∀i h,tn i h→∀b∈fp,∃o,h.get? b=some o∧∀v,o.data≠ .cell v
 keep:∀i h h',tn i h→(∀b∈fp,∀o,h.get? b=some o→h'.get? b=some o)→tn i h'
 item:∀(X:Cx),X.prog=P→X.w=w→X.K=K→X.calm=true→∀(i:Nat) (pins:List (Addr×Obj)) (s:Shared) (σ:St) (H:Hp) (E:Value→Shared→Prop),Inv X pins σ H s→(∀b∈fp,FpOk X pins H b)→tn i s.heap→J.go i H→
  wpAny (model P w) X.A (pyNext (.ref it)) (fun r s1=>∃u,r=some u∧
   wpAny (model P w) X.A (letOwnedTupleGo tg (.ref it) u) (fun _ s2=>∃x H',Inv X pins σ H' s2∧RelV x u∧J.yld i H x H'∧tn (i+1) s2.heap∧∀b∈fp,H' b=none) E s1) E s
 done:∀(X:Cx),X.prog=P→X.w=w→X.K=K→X.calm=true→∀(i:Nat) (pins:List (Addr×Obj)) (s:Shared) (σ:St) (H:Hp) (E:Value→Shared→Prop),Inv X pins σ H s→(∀b∈fp,FpOk X pins H b)→tn i s.heap→J.stop i H→
  wpAny (model P w) X.A (pyNext (.ref it)) (fun r s1=>r=none∧Inv X pins σ H s1) E s
 self:∀(A:Around) (i:Nat) (s:Shared) (Q:Value→Shared→Prop) (E:Value→Shared→Prop),tn i s.heap→Q (.ref it) s→wpAny (model P w) A (pyIter (.ref it)) Q E s
abbrev TI:=St→Hp→(It→Hp→Prop)→Prop
def PIE (X:Cx) (pins:List (Addr×Obj)) (σ:St) (tg:Expr) (R:It→Hp→Prop) (itv:Value) (s2:Shared):Prop:=
 ∃(it:Addr) (fp:List Addr) (tn:Nat→Heap→Prop) (J:It) (H':Hp),itv= .ref it∧Inv X pins σ H' s2∧Turn X.prog X.w X.K tg J fp it tn∧tn 0 s2.heap∧(∀b∈fp,FpOk X pins H' b)∧R J H'
def PI (X:Cx) (tg iter:Expr) (wi:TI):Prop:=
 ∀(pins:List (Addr×Obj)) (s:Shared) (σ:St) (H:Hp) (R:It→Hp→Prop),Inv X pins σ H s→wi σ H R→
  wpAny (model X.prog X.w) X.A (eval iter X.env) (fun v s1=>wpAny (model X.prog X.w) X.A (pyIter v) (PIE X pins σ tg R) X.xe s1) X.xe s
theorem go_of {M:Model} {A:Around} {E:Value→Shared→Prop} {s:Shared} {tg:Expr} {it:Addr} {u:Value} {o:Obj} {n:String} {vs:Array Value} {Q:Unit→Shared→Prop} (ho:s.heap.get? it=some o) (hc:o.cls= .type n) (hd:o.data= .fields vs)
 (hn: ["enumerate","zip","dict_itemiterator","dict_reverseitemiterator","odict_iterator","itertools.zip_longest","itertools.pairwise"].contains n=false) (hQ:Q () s):wpAny M A (letOwnedTupleGo tg (.ref it) u) Q E s:=by
 unfold letOwnedTupleGo
 cases tg<;>first
  |exact wpAny_pure hQ
  |(cases u<;>first
     |exact wpAny_pure hQ
     |(refine wpAny_bind (wpAny_load ho ?_)
       rw [hc,hd]
       show wpAny M A (if (["enumerate","zip","dict_itemiterator","dict_reverseitemiterator","odict_iterator","itertools.zip_longest","itertools.pairwise"].contains n&&vs[0]?==some (rawInt _))=true then _ else _) Q E s
       rw [if_neg (by intro h;rw [hn,Bool.false_and] at h;cases h)]
       exact wpAny_pure hQ))
def Itl (K:PySem.W.Frag) (a:Addr):It:=
 ⟨fun i H=>∃xs x,SqL K H a xs∧xs[i]?=some x,fun i H x H'=>H'=H∧∀xs,SqL K H a xs→xs[i]?=some x,fun i H=>∃xs,SqL K H a xs∧xs.length≤i⟩
def Itt (K:PySem.W.Frag) (a:Addr):It:=
 ⟨fun i H=>∃xs x,SqT K H a xs∧xs[i]?=some x,fun i H x H'=>H'=H∧∀xs,SqT K H a xs→xs[i]?=some x,fun i H=>∃xs,SqT K H a xs∧xs.length≤i⟩
def Itr (lo:Int) (n:Nat):It:=⟨fun i _=>i < n,fun i H x H'=>H'=H∧x= .int (lo+i),fun i _=>n≤i⟩
theorem turn_list {P:Program} {w:World} {K:PySem.W.Frag} {tg:Expr} (a it:Addr):Turn P w K tg (Itl K a) [it] it (fun i h=>h.IsListIter it a i) where
 mem:=by simp
 obj:=fun i h st b hb=>by
  have e:b=it:=by simpa using hb
  subst e
  obtain ⟨o,e,c,d⟩:=st
  exact ⟨o,e,fun v z=>by rw [d] at z;cases z⟩
 keep:=fun i h h' st k=>st.at fun o e=>k it (by simp) o e
 item:=by
  intro X hP hw hK hc i pins s σ H E I hf st hg
  subst hP hw hK
  obtain ⟨xs,x,hq,hx⟩:=hg
  obtain ⟨its,rv,p,hz⟩:=I.list hq
  obtain ⟨u,hu,ru⟩:=rv.get hx
  obtain ⟨f0,f1,f2,f3,f4,f5⟩:=hf it (by simp)
  refine wpAny_pyNext_list_item st p.isList (x:=u) (by simpa using hu) fun h' st' sb=> ?_
  have I1:Inv X pins σ H {s with heap:=h'}:=I.turned (t':=s.toks) (fun b o hb e=>(sb.2 b hb).trans e) f0 f1 f3 f4 f5
  obtain ⟨o,e,c,d⟩:=id st'
  exact ⟨u,rfl,go_of (s:= {s with heap:=h'}) e c d (by decide) ⟨x,H,I1,ru,⟨rfl,fun ys hy=>by rw [I.list_inj hy hq];exact hx⟩,st',fun b hb=>(hf b hb).1⟩⟩
 done:=by
  intro X hP hw hK hc i pins s σ H E I hf st hg
  subst hP hw hK
  obtain ⟨xs,hq,hx⟩:=hg
  obtain ⟨its,rv,p,hz⟩:=I.list hq
  obtain ⟨f0,f1,f2,f3,f4,f5⟩:=hf it (by simp)
  have hl:=rv.length
  exact wpAny_pyNext_list_end (I.ok.hd hc) st p.isList (by simp;omega) fun h' eb=>⟨rfl,I.turned (t':=s.toks) (fun b o hb e=>eb b o hb e) f0 f1 f3 f4 f5⟩
 self:=fun _ _ _ _ _ st h=>wpAny_pyIter_listiter st h
theorem turn_tuple {P:Program} {w:World} {K:PySem.W.Frag} {tg:Expr} (a it:Addr):Turn P w K tg (Itt K a) [it] it (fun i h=>h.IsTupleIter it a i) where
 mem:=by simp
 obj:=fun i h st b hb=>by
  have e:b=it:=by simpa using hb
  subst e
  obtain ⟨o,e,c,d⟩:=st
  exact ⟨o,e,fun v z=>by rw [d] at z;cases z⟩
 keep:=fun i h h' st k=>st.at fun o e=>k it (by simp) o e
 item:=by
  intro X hP hw hK hc i pins s σ H E I hf st hg
  subst hP hw hK
  obtain ⟨xs,x,hq,hx⟩:=hg
  obtain ⟨its,rv,p,hz⟩:=I.tuple hq
  obtain ⟨u,hu,ru⟩:=rv.get hx
  obtain ⟨f0,f1,f2,f3,f4,f5⟩:=hf it (by simp)
  refine wpAny_pyNext_tuple_item st (show s.heap.IsTuple a its.toArray from p) (x:=u) (by simpa using hu) fun h' st' sb=> ?_
  have I1:Inv X pins σ H {s with heap:=h'}:=I.turned (t':=s.toks) (fun b o hb e=>(sb.2 b hb).trans e) f0 f1 f3 f4 f5
  obtain ⟨o,e,c,d⟩:=id st'
  exact ⟨u,rfl,go_of (s:= {s with heap:=h'}) e c d (by decide) ⟨x,H,I1,ru,⟨rfl,fun ys hy=>by rw [I.tuple_inj hy hq];exact hx⟩,st',fun b hb=>(hf b hb).1⟩⟩
 done:=by
  intro X hP hw hK hc i pins s σ H E I hf st hg
  subst hP hw hK
  obtain ⟨xs,hq,hx⟩:=hg
  obtain ⟨its,rv,p,hz⟩:=I.tuple hq
  obtain ⟨f0,f1,f2,f3,f4,f5⟩:=hf it (by simp)
  have hl:=rv.length
  exact wpAny_pyNext_tuple_end (I.ok.hd hc) st (show s.heap.IsTuple a its.toArray from p) (by simp;omega) fun h' eb=>⟨rfl,I.turned (t':=s.toks) (fun b o hb e=>eb b o hb e) f0 f1 f3 f4 f5⟩
 self:=fun _ _ _ _ _ st h=>wpAny_pyIter_tupleiter st h
theorem turn_range {P:Program} {w:World} {K:PySem.W.Frag} {tg:Expr} (it:Addr) (lo:Int) (n:Nat):Turn P w K tg (Itr lo n) [it] it (fun i h=>IsRangeIter h it (lo+(i:Nat)*1) ((n:Int) - (i:Nat)) 1) where
 mem:=by simp
 obj:=fun i h st b hb=>by
  have e:b=it:=by simpa using hb
  subst e
  exact ⟨_,st,fun v z=>by
   have z':Data.fields _=Data.cell v:=z
   cases z'⟩
 keep:=fun i h h' st k=>k it (by simp) _ st
 item:=by
  intro X hP hw hK hc i pins s σ H E I hf st hg
  subst hP hw hK
  obtain ⟨f0,f1,f2,f3,f4,f5⟩:=hf it (by simp)
  have W:=Walks.range (prog:=X.prog) (w:=X.w) (I.ok.hd hc) it lo 1 n
  refine W.item i s _ _ hg st fun v h' tk hv st' kk=> ?_
  obtain ⟨t,rfl⟩:=hv
  have I1:Inv X pins σ H {s with heap:=h',toks:=tk}:=I.turned (fun b o hb e=>kk b o (by simpa using hb) e) f0 f1 f3 f4 f5
  refine ⟨_,rfl,go_of (s:= {s with heap:=h',toks:=tk}) (n:="range_iterator") st' rfl rfl (by decide) ⟨.int (lo+i),H,I1,⟨t,?_⟩,⟨rfl,rfl⟩,st',fun b hb=>(hf b hb).1⟩⟩
  rw [Int.mul_one]
 done:=by
  intro X hP hw hK hc i pins s σ H E I hf st hg
  subst hP hw hK
  obtain ⟨f0,f1,f2,f3,f4,f5⟩:=hf it (by simp)
  exact wpAny_pyNext_range_end (I.ok.hd hc) st (by have:n≤i:=hg;omega) fun h' eb=>⟨rfl,I.turned (t':=s.toks) (fun b o hb e=>eb b o hb e) f0 f1 f3 f4 f5⟩
 self:=fun _ _ _ _ _ st h=>wpAny_pyIter_rangeiter st h
open PySem PySem.Spec PyProof.Rows
section
variable {X:Cx} {tg:Expr}
def iList (K:PySem.W.Frag) (tl:TE):TI:=fun σ H R=>tl σ H fun x H1=>∃a,x= .ref a∧(∃xs,SqL K H1 a xs)∧R (Itl K a) H1
def iTup (K:PySem.W.Frag) (tl:TE):TI:=fun σ H R=>tl σ H fun x H1=>∃a,x= .ref a∧(∃xs,SqT K H1 a xs)∧R (Itt K a) H1
theorem pi_list {l:Expr} {tl:TE} (hl:PE X l tl):PI X tg l (iList X.K tl):=by
 intro pins s σ H R I h
 refine thn (hl pins s σ H _ I h) fun v s1 ⟨x,H1,I1,r1,q1⟩=> ?_
 obtain ⟨a,e,⟨xs,hq⟩,q⟩:=q1
 subst e
 cases r1
 obtain ⟨its,rv,p,hz⟩:=I1.list hq
 refine wpAny_pyIter_list p.isList ?_
 refine ⟨s1.heap.objs.size,[s1.heap.objs.size],_,_,H1,rfl,I1.kept (t':=s1.toks) fun b o e=>Heap.get?_push_of_some _ e,turn_list a _,⟨_,Heap.get?_push_size _ rfl,rfl,rfl⟩,fun b hb=> ?_,q⟩
 have e:b=s1.heap.objs.size:=by simpa using hb
 subst e
 exact I1.fpOk (Nat.le_refl _) (I1.hok.fresh (Nat.le_refl _))
theorem pi_tup {l:Expr} {tl:TE} (hl:PE X l tl):PI X tg l (iTup X.K tl):=by
 intro pins s σ H R I h
 refine thn (hl pins s σ H _ I h) fun v s1 ⟨x,H1,I1,r1,q1⟩=> ?_
 obtain ⟨a,e,⟨xs,hq⟩,q⟩:=q1
 subst e
 cases r1
 obtain ⟨its,rv,p,hz⟩:=I1.tuple hq
 refine wpAny_pyIter_tuple (show s1.heap.IsTuple a its.toArray from p) ?_
 refine ⟨s1.heap.objs.size,[s1.heap.objs.size],_,_,H1,rfl,I1.kept (t':=s1.toks) fun b o e=>Heap.get?_push_of_some _ e,turn_tuple a _,⟨_,Heap.get?_push_size _ rfl,rfl,rfl⟩,fun b hb=> ?_,q⟩
 have e:b=s1.heap.objs.size:=by simpa using hb
 subst e
 exact I1.fpOk (Nat.le_refl _) (I1.hok.fresh (Nat.le_refl _))
theorem range_it {pins:List (Addr×Obj)} {σ:St} {H:Hp} {s:Shared} {R:It→Hp→Prop} {E:Value→Shared→Prop} {lo hi:Int} {t u v:Tok} {tk:Nat} (I:Inv X pins σ H s) (h1:-(2^62)≤lo) (h2:lo < 2^62) (h3:-(2^62)≤hi) (h4:hi < 2^62)
 (q:R (Itr lo (hi - lo).toNat) H):wpAny (model X.prog X.w) X.A (pyIter (.ref s.heap.objs.size)) (PIE X pins σ tg R) E {s with heap:=s.heap.push {cls:= .type "range",data:= .fields #[.int lo t, .int hi u, .int 1 v]},toks:=tk}:=by
 refine wpAny_pyIter_range (IsRange.new ..) (small_one h1 h2 h3 h4) ?_
 have I1:Inv X pins σ H {s with heap:=s.heap.push {cls:= .type "range",data:= .fields #[.int lo t, .int hi u, .int 1 v]},toks:=tk}:=I.kept fun b o e=>Heap.get?_push_of_some _ e
 refine ⟨(s.heap.push {cls:= .type "range",data:= .fields #[.int lo t, .int hi u, .int 1 v]}).objs.size,[(s.heap.push {cls:= .type "range",data:= .fields #[.int lo t, .int hi u, .int 1 v]}).objs.size],_,_,H,rfl,
  I1.kept (t':=tk) fun b o e=>Heap.get?_push_of_some _ e,turn_range _ lo (hi - lo).toNat,?_,fun b hb=> ?_,q⟩
 · have e1:lo+((0:Nat):Int)*1=lo:=by simp
   have e2:(((hi - lo).toNat:Nat):Int) - ((0:Nat):Int)=Builtin.Range.rangeSize lo hi 1:=by rw [rangeSize_one];split<;>omega
   show IsRangeIter _ _ (lo+((0:Nat):Int)*1) ((((hi - lo).toNat:Nat):Int) - ((0:Nat):Int)) 1
   rw [e1,e2]
   exact Heap.get?_push_size _ rfl
 · have e:b=(s.heap.push {cls:= .type "range",data:= .fields #[.int lo t, .int hi u, .int 1 v]}).objs.size:=by simpa using hb
   subst e
   exact I1.fpOk (Nat.le_refl _) (I1.hok.fresh (Nat.le_refl _))
def iRng1 (ta:TA):TI:=fun σ H R=>ta σ H fun vs H1=>∃j:Int,vs= [.int j]∧ -(2^62)≤j∧j < 2^62∧R (Itr 0 j.toNat) H1
theorem pi_range1 {a:Expr} {ta:TA} {p pos:Pos} (hg:Gl X "range") (hm:X.mg "range"=none) (ha:PA X [a] ta) (hs:starEach [a] X.env= [(false,eval a X.env)]:=by rfl):PI X tg (.Call (.Name "range" p) [a] [] pos) (iRng1 ta):=by
 intro pins s σ H R I h
 refine Call_ (ld_blt I hg hm boot_range (PyProof.Rows.callWith_type1 (thn (ha pos pins s σ H _ I h) fun us s1 ⟨vs,H1,I1,r1,q1⟩=> ?_) hs rfl))
 obtain ⟨j,e,q1,q2,q⟩:=q1
 subst e
 cases r1 with
 |cons r rr=>
  cases rr
  obtain ⟨t,rfl⟩:=r
  exact call_range_1 (range_it I1 (by omega) (by omega) q1 q2 (by simpa using q))
def tFor (wi:TI) (g:TG) (tb:TS):TS:=fun D σ H=>wi σ H fun J H1=>∃W:Nat→Nat→St→Hp→Prop,(∃m,W 0 m σ H1)∧∀i m σ H,W i m σ H→
 (J.stop i H∧D.nx σ H)∨(J.go i H∧∃N:St→Hp→Prop,(∀σ' H',N σ' H'→∃m',m' < m∧W (i+1) m' σ' H')∧∀x H',J.yld i H x H'→g x σ H' fun σ2 H2=>tb {D with nx:=N,ct:=N,bk:=D.nx} σ2 H2)
noncomputable def pinsAt (fp:List Addr) (h:Heap):List (Addr×Obj):=fp.filterMap fun b=>(h.get? b).map fun o=>(b,o)
theorem mem_pinsAt {fp:List Addr} {h:Heap} {b:Addr} {o:Obj} (hb:b∈fp) (e:h.get? b=some o):(b,o)∈pinsAt fp h:=List.mem_filterMap.mpr ⟨b,hb,by rw [e];rfl⟩
theorem of_pinsAt {fp:List Addr} {h:Heap} {p:Addr×Obj} (hp:p∈pinsAt fp h):p.1∈fp∧h.get? p.1=some p.2:=by
 obtain ⟨b,hb,e⟩:=List.mem_filterMap.mp hp
 cases q:h.get? b with
 |none=>rw [q] at e;cases e
 |some o=>
  rw [q] at e
  have e':(b,o)=p:=Option.some.inj e
  subst e'
  exact ⟨hb,q⟩
theorem Inv.pinned {pins:List (Addr×Obj)} {σ:St} {H:Hp} {s:Shared} {fp:List Addr} (I:Inv X pins σ H s) (hf:∀b∈fp,FpOk X pins H b) (ho:∀b∈fp,∃o,s.heap.get? b=some o∧∀v,o.data≠ .cell v):Inv X (pins++pinsAt fp s.heap) σ H s:=
 I.pins_of fun p hp=>(List.mem_append.mp hp).elim (fun z=>I.pin p (List.mem_append_right _ z)) fun z=>by
  obtain ⟨hb,e⟩:=of_pinsAt z
  obtain ⟨f0,f1,f2,_⟩:=hf p.1 hb
  obtain ⟨o,e',d⟩:=ho p.1 hb
  rw [e] at e';cases e'
  exact ⟨e,f0,f1,f2,d⟩
theorem Inv.unpinned {pins pl:List (Addr×Obj)} {σ:St} {H:Hp} {s:Shared} (I:Inv X (pins++pl) σ H s):Inv X pins σ H s:=I.pins_of fun p hp=>I.pin p (List.mem_append_right _ (List.mem_append_left _ hp))
theorem ps_for {iter:Expr} {body:List Stmt} {wi:TI} {g:TG} {tb:TS} {pos:Pos} (hp:PassesOwn (model X.prog X.w) X.A X.env X.xe) (hc:X.calm=true) (hi:PI X tg iter wi) (hg:PG X tg g) (hb:PSs X body tb)
 (hs:∀x,foldedSetIterable iter X.env x=pure x:=by intro _;rfl):PS X (.For tg iter body [] pos) (tFor wi g tb):=by
 intro pins s σ H D I h
 refine wpAny_For (thn (hi pins s σ H _ I h) fun v s1 h1=>thn h1 fun itv s2 h2=> ?_) hs
 obtain ⟨it,fp,tn,J,H2,e,I2,T,st2,f2,W,⟨m0,w0⟩,turn⟩:=h2
 subst e
 have stat:∀ {H':Hp},(∀b∈fp,H' b=none)→∀b∈fp,FpOk X pins H' b:=fun hn b hb=>⟨hn b hb,(f2 b hb).2⟩
 refine codeAny_forLoop_any (fun n s'=>∃i σ' H',Inv X pins σ' H' s'∧tn i s'.heap∧(∀b∈fp,H' b=none)∧W i n σ' H') ?_ m0 ⟨0,σ,H2,I2,st2,fun b hb=>(f2 b hb).1,w0⟩
 rintro n s3 ⟨i,σ3,H3,I3,st3,fr3,w3⟩
 rcases turn i n σ3 H3 w3 with ⟨stop,qn⟩|⟨go,N,hN,step⟩
 · refine wpAny_passesOwn hp (thn (T.done X rfl rfl rfl hc i pins s3 σ3 H3 X.xe I3 (stat fr3) st3 stop) fun r s4 ⟨hr,I4⟩=> ?_)
   subst hr
   exact wpAny_execs_nil ⟨σ3,H3,I4,qn⟩
 · refine wpAny_passesOwn hp (thn (T.item X rfl rfl rfl hc i pins s3 σ3 H3 X.xe I3 (stat fr3) st3 go) fun r s4 ⟨u,hr,h4⟩=> ?_)
   subst hr
   refine wpAny_passesOwn hp (thn h4 fun _ s5 ⟨x,H5,I5,r5,y5,st5,fr5⟩=> ?_)
   have I5':=I5.pinned (stat fr5) (T.obj _ _ st5)
   refine wpAny_passesOwn hp (thn (hg _ s5 σ3 H5 x u _ I5' r5 (step x H5 y5)) fun _ s6 ⟨σ6,H6,I6,q6⟩=> ?_)
   refine wpAny_passesOwn hp (thn (hb _ s6 σ6 H6 _ I6 q6) fun f s7 q7=> ?_)
   have again:∀ {σ7:St} {H7:Hp},Inv X (pins++pinsAt fp s5.heap) σ7 H7 s7→N σ7 H7→∃m,m < n∧∃i σ' H',Inv X pins σ' H' s7∧tn i s7.heap∧(∀b∈fp,H' b=none)∧W i m σ' H':=fun {σ7 H7} I7 n7=>by
    obtain ⟨m',hm,w7⟩:=hN σ7 H7 n7
    refine ⟨m',hm,i+1,σ7,H7,I7.unpinned,T.keep _ _ _ st5 fun b hb o e=>(I7.pin (b,o) (List.mem_append_right _ (List.mem_append_right _ (mem_pinsAt hb e)))).1,fun b hb=> ?_,w7⟩
    obtain ⟨o,e,d⟩:=T.obj _ _ st5 b hb
    exact (I7.pin (b,o) (List.mem_append_right _ (List.mem_append_right _ (mem_pinsAt hb e)))).2.1
   cases f with
   |next=>obtain ⟨σ7,H7,I7,n7⟩:=q7;exact again I7 n7
   |cont=>obtain ⟨σ7,H7,I7,n7⟩:=q7;exact again I7 n7
   |brk=>obtain ⟨σ7,H7,I7,q7⟩:=q7;exact ⟨σ7,H7,I7.unpinned,q7⟩
   |ret v=>obtain ⟨x7,σ7,H7,I7,r7,q7⟩:=q7;exact ⟨x7,σ7,H7,I7.unpinned,r7,q7⟩
end
theorem for_list {K:PySem.W.Frag} {a:Addr} {xs:List V} {g:TG} {tb:TS} {D:Ends} {σ:St} {H:Hp} (Pv:Nat→St→Hp→Prop) (h0:Pv 0 σ H) (hl:∀i σ H,i≤xs.length→Pv i σ H→SqL K H a xs)
 (hs:∀i x σ H,xs[i]?=some x→Pv i σ H→g x σ H fun σ2 H2=>tb {D with nx:=Pv (i+1),ct:=Pv (i+1),bk:=D.nx} σ2 H2) (hd:∀σ H,Pv xs.length σ H→D.nx σ H):
 ∃W:Nat→Nat→St→Hp→Prop,(∃m,W 0 m σ H)∧∀i m σ H,W i m σ H→
  ((Itl K a).stop i H∧D.nx σ H)∨((Itl K a).go i H∧∃N:St→Hp→Prop,(∀σ' H',N σ' H'→∃m',m' < m∧W (i+1) m' σ' H')∧∀x H',(Itl K a).yld i H x H'→g x σ H' fun σ2 H2=>tb {D with nx:=N,ct:=N,bk:=D.nx} σ2 H2):=by
 refine ⟨fun i m σ H=>m=xs.length - i∧i≤xs.length∧Pv i σ H,⟨xs.length,by simp,Nat.zero_le _,h0⟩,?_⟩
 rintro i m σ H ⟨rfl,hi,p⟩
 have q:=hl i σ H hi p
 by_cases hlt:i < xs.length
 · refine .inr ⟨⟨xs,xs[i],q,by simp [hlt]⟩,Pv (i+1),fun σ' H' p'=>⟨xs.length - (i+1),by omega,rfl,hlt,p'⟩,fun x H' y=> ?_⟩
   obtain ⟨e,y⟩:=y
   subst e
   exact hs i x σ _ (y xs q) p
 · have e:i=xs.length:=by omega
   subst e
   exact .inl ⟨⟨xs,q,Nat.le_refl _⟩,hd σ H p⟩
theorem for_range {lo:Int} {n:Nat} {g:TG} {tb:TS} {D:Ends} {σ:St} {H:Hp} (Pv:Nat→St→Hp→Prop) (h0:Pv 0 σ H)
 (hs:∀i σ H,i < n→Pv i σ H→g (.int (lo+i)) σ H fun σ2 H2=>tb {D with nx:=Pv (i+1),ct:=Pv (i+1),bk:=D.nx} σ2 H2) (hd:∀σ H,Pv n σ H→D.nx σ H):
 ∃W:Nat→Nat→St→Hp→Prop,(∃m,W 0 m σ H)∧∀i m σ H,W i m σ H→
  ((Itr lo n).stop i H∧D.nx σ H)∨((Itr lo n).go i H∧∃N:St→Hp→Prop,(∀σ' H',N σ' H'→∃m',m' < m∧W (i+1) m' σ' H')∧∀x H',(Itr lo n).yld i H x H'→g x σ H' fun σ2 H2=>tb {D with nx:=N,ct:=N,bk:=D.nx} σ2 H2):=by
 refine ⟨fun i m σ H=>m=n - i∧i≤n∧Pv i σ H,⟨n,by simp,Nat.zero_le _,h0⟩,?_⟩
 rintro i m σ H ⟨rfl,hi,p⟩
 by_cases hlt:i < n
 · refine .inr ⟨hlt,Pv (i+1),fun σ' H' p'=>⟨n - (i+1),by omega,rfl,hlt,p'⟩,fun x H' y=> ?_⟩
   obtain ⟨e,y⟩:=y
   subst e y
   exact hs i σ _ hlt p
 · have e:i=n:=by omega
   subst e
   exact .inl ⟨Nat.le_refl _,hd σ H p⟩
theorem while_by {c:TT} {tb:TS} {D:Ends} {σ:St} {H:Hp} (Pv:St→Hp→Prop) (μ:St→Hp→Nat) (h0:Pv σ H)
 (hs:∀σ H,Pv σ H→c σ H fun b H1=>if b=true then tb {D with nx:=fun σ' H'=>Pv σ' H'∧μ σ' H' < μ σ H,ct:=fun σ' H'=>Pv σ' H'∧μ σ' H' < μ σ H,bk:=D.nx} σ H1 else D.nx σ H1)
 (mono:∀σ H Q Q',(∀b H1,Q b H1→Q' b H1)→c σ H Q→c σ H Q'):tWhile c tb D σ H:=by
 refine ⟨fun m σ H=>m=μ σ H∧Pv σ H,⟨_,rfl,h0⟩,?_⟩
 rintro m σ H ⟨rfl,p⟩
 refine mono σ H _ _ (fun b H1 q=> ?_) (hs σ H p)
 cases b with
 |true=>exact ⟨_,fun σ' H' ⟨p',l⟩=>⟨_,l,rfl,p'⟩,q⟩
 |false=>exact q
open PySem PySem.Spec PyProof.Rows
abbrev R2:=V→V→Hp→VK→Prop
def OpR (X:Cx) (f:Value→Value→Sem Value) (r:R2):Prop:=
 ∀(pins:List (Addr×Obj)) (s:Shared) (σ:St) (H:Hp) (x y:V) (v u:Value) (Q:VK),Inv X pins σ H s→RelV x v→RelV y u→r x y H Q→
  wpAny (model X.prog X.w) X.A (f v u) (EP X pins σ Q) X.xe s
def UnR (X:Cx) (f:Value→Sem Value) (r:V→Hp→VK→Prop):Prop:=
 ∀(pins:List (Addr×Obj)) (s:Shared) (σ:St) (H:Hp) (x:V) (v:Value) (Q:VK),Inv X pins σ H s→RelV x v→r x H Q→
  wpAny (model X.prog X.w) X.A (f v) (EP X pins σ Q) X.xe s
def CallR (X:Cx) (f:Value) (r:List V→Hp→VK→Prop):Prop:=
 ∀(pins:List (Addr×Obj)) (s:Shared) (σ:St) (H:Hp) (xs:List V) (us:List Value) (Q:VK),Inv X pins σ H s→Vals xs us→r xs H Q→
  wpAny (model X.prog X.w) X.A (call f us) (EP X pins σ Q) X.xe s
def TruR (X:Cx) (r:V→Hp→(Bool→Hp→Prop)→Prop):Prop:=
 ∀(pins:List (Addr×Obj)) (s:Shared) (σ:St) (H:Hp) (x:V) (v:Value) (Q:Bool→Hp→Prop),Inv X pins σ H s→RelV x v→r x H Q→
  wpAny (model X.prog X.w) X.A (truthy v) (TP X pins σ Q) X.xe s
def tOp (r:R2) (ta tb:TE):TE:=fun σ H Q=>ta σ H fun x H1=>tb σ H1 fun y H2=>r x y H2 Q
def tUn (r:V→Hp→VK→Prop) (ta:TE):TE:=fun σ H Q=>ta σ H fun x H1=>r x H1 Q
def rI (C:Int→Int→Prop) (g:Int→Int→V):R2:=fun x y H Q=>∃i j,x= .int i∧y= .int j∧C i j∧Q (g i j) H
def rI0 (g:Int→Int→V):R2:=fun x y H Q=>∃i j,x= .int i∧y= .int j∧Q (g i j) H
def rU (g:Int→V):V→Hp→VK→Prop:=fun x H Q=>∃i,x= .int i∧Q (g i) H
section
variable {X:Cx} {a b c:Expr} {ta tb tc:TE} {pos:Pos}
theorem binT (ha:PE X a ta) (hb:PE X b tb) {pins:List (Addr×Obj)} {s:Shared} {σ:St} {H:Hp} {R:V→V→Hp→Prop} (I:Inv X pins σ H s)
 (h:ta σ H fun x H1=>tb σ H1 fun y H2=>R x y H2) {Q:Value→Shared→Prop} {f:Value→Value→Sem Value}
 (hf:∀v u s2 x y H2,Inv X pins σ H2 s2→RelV x v→RelV y u→R x y H2→wpAny (model X.prog X.w) X.A (f v u) Q X.xe s2):
 wpAny (model X.prog X.w) X.A (eval a X.env) (fun v s₁=>wpAny (model X.prog X.w) X.A (eval b X.env) (fun u s₂=>wpAny (model X.prog X.w) X.A (f v u) Q X.xe s₂) X.xe s₁) X.xe s:=by
 refine thn (ha pins s σ H _ I h) fun v s1 ⟨x,H1,I1,r1,q1⟩=> ?_
 refine thn (hb pins s1 σ H1 _ I1 q1) fun u s2 ⟨y,H2,I2,r2,q2⟩=> ?_
 exact hf v u s2 x y H2 I2 r1 r2 q2
theorem pe_op {op:Operator} {r:R2} (ho:OpR X (binaryOp op) r) (ha:PE X a ta) (hb:PE X b tb):PE X (.BinOp a op b pos) (tOp r ta tb):=by
 intro pins s σ H Q I h
 exact wpAny_BinOp (binT ha hb I h fun v u s2 x y H2 I2 rx ry q=>ho pins s2 σ H2 x y v u Q I2 rx ry q)
theorem pe_un {op:UnaryOp} {r:V→Hp→VK→Prop} (ho:UnR X (unaryOp op) r) (ha:PE X a ta):PE X (.UnaryOp op a pos) (tUn r ta):=by
 intro pins s σ H Q I h
 exact UnaryOp_ (thn (ha pins s σ H _ I h) fun v s1 ⟨x,H1,I1,r1,q1⟩=>ho pins s1 σ H1 x v Q I1 r1 q1)
theorem opI {f:Value→Value→Sem Value} {C:Int→Int→Prop} {g:Int→Int→Int}
 (rule:∀(i j:Int) (t u:Tok) (s:Shared) (Q:Value→Shared→Prop) (E:Value→Shared→Prop),C i j→Q (.int (g i j) s.toks) {s with toks:=s.toks+1}→wpAny (model X.prog X.w) X.A (f (.int i t) (.int j u)) Q E s):
 OpR X f (rI C fun i j=> .int (g i j)):=by
 intro pins s σ H x y v u Q I rx ry h
 obtain ⟨i,j,rfl,rfl,hc,q⟩:=h
 obtain ⟨t,rfl⟩:=rx
 obtain ⟨t',rfl⟩:=ry
 exact rule i j t t' s _ _ hc ⟨.int (g i j),H,I.tok _,⟨_,rfl⟩,q⟩
theorem opI0 {f:Value→Value→Sem Value} {g:Int→Int→Int}
 (rule:∀(i j:Int) (t u:Tok) (s:Shared) (Q:Value→Shared→Prop) (E:Value→Shared→Prop),Q (.int (g i j) s.toks) {s with toks:=s.toks+1}→wpAny (model X.prog X.w) X.A (f (.int i t) (.int j u)) Q E s):
 OpR X f (rI0 fun i j=> .int (g i j)):=by
 intro pins s σ H x y v u Q I rx ry h
 obtain ⟨i,j,rfl,rfl,q⟩:=h
 obtain ⟨t,rfl⟩:=rx
 obtain ⟨t',rfl⟩:=ry
 exact rule i j t t' s _ _ ⟨.int (g i j),H,I.tok _,⟨_,rfl⟩,q⟩
theorem opB0 {f:Value→Value→Sem Value} {g:Int→Int→Bool}
 (rule:∀(i j:Int) (t u:Tok) (s:Shared) (Q:Value→Shared→Prop) (E:Value→Shared→Prop),Q (.bool (g i j)) s→wpAny (model X.prog X.w) X.A (f (.int i t) (.int j u)) Q E s):
 OpR X f (rI0 fun i j=> .bl (g i j)):=by
 intro pins s σ H x y v u Q I rx ry h
 obtain ⟨i,j,rfl,rfl,q⟩:=h
 obtain ⟨t,rfl⟩:=rx
 obtain ⟨t',rfl⟩:=ry
 exact rule i j t t' s _ _ ⟨.bl (g i j),H,I,rfl,q⟩
def CDiv (i j:Int):Prop:=0 < j∧j < 1073741824
def CMul (i j:Int):Prop:=(-(2^64) < i∧i < 2^64)∨(-(2^64) < j∧j < 2^64)
theorem CMul.ok {i j:Int} (h:CMul i j):IntMulOk i j:=by
 rcases h with ⟨h1,h2⟩|⟨h1,h2⟩
 · exact .of_left (intBits_le_64 h1 h2)
 · exact .of_right (intBits_le_64 h1 h2)
theorem two_pow_nn (k:Nat):(0:Int)≤2^k:=by
 rw [two_pow_cast]
 exact Int.natCast_nonneg _
theorem op_add:OpR X (binaryOp .Add) (rI0 fun i j=> .int (i+j)):=opI0 fun _ _ _ _ _ _ _ q=>add_int q
theorem op_sub:OpR X (binaryOp .Sub) (rI0 fun i j=> .int (i - j)):=opI0 fun _ _ _ _ _ _ _ q=>sub_int q
theorem op_mul:OpR X (binaryOp .Mult) (rI CMul fun i j=> .int (i*j)):=opI fun _ _ _ _ _ _ _ hc q=>mul_int q hc.ok
theorem op_fdiv:OpR X (binaryOp .FloorDiv) (rI CDiv fun i j=> .int (i / j)):=opI fun i j _ _ _ _ _ hc q=>by
 have h1:(0:Int) < j:=hc.1
 have h2:j < 1073741824:=hc.2
 exact floordiv_int (by omega) (by rw [Int.fdiv_eq_ediv_of_nonneg i (by omega)];exact q) (.inl (PyProof.noPylong_small (by omega)))
theorem op_mod:OpR X (binaryOp .Mod) (rI (fun _ j=>0 < j) fun i j=> .int (i%j)):=opI fun i j _ _ _ _ _ hc q=>by
 have h1:(0:Int) < j:=hc
 exact mod_int' (by omega) (by rw [Int.fmod_eq_emod_of_nonneg i (by omega)];exact q)
theorem op_modN:OpR X (binaryOp .Mod) (rI (fun _ j=>j≠0) fun i j=> .int (i.fmod j)):=opI fun _ _ _ _ _ _ _ hc q=>mod_int' hc q
theorem op_shr:OpR X (binaryOp .RShift) (rI (fun _ j=>0≤j) fun i j=> .int (i / 2^j.toNat)):=opI fun i j _ _ _ _ _ hc q=>
 rshift_int hc (by rw [Int.fdiv_eq_ediv_of_nonneg i (two_pow_nn _)];exact q)
theorem unI {f:Value→Sem Value} {g:Int→Int}
 (rule:∀(i:Int) (t:Tok) (s:Shared) (Q:Value→Shared→Prop) (E:Value→Shared→Prop),Q (.int (g i) s.toks) {s with toks:=s.toks+1}→wpAny (model X.prog X.w) X.A (f (.int i t)) Q E s):
 UnR X f (rU fun i=> .int (g i)):=by
 intro pins s σ H x v Q I rx h
 obtain ⟨i,rfl,q⟩:=h
 obtain ⟨t,rfl⟩:=rx
 exact rule i t s _ _ ⟨.int (g i),H,I.tok _,⟨_,rfl⟩,q⟩
theorem un_neg:UnR X (unaryOp .USub) (rU fun i=> .int (-i)):=unI fun _ _ _ _ _ q=>neg_int q
end
noncomputable def scal:V→V→Bool
 | .non, .non=>true| .non, .int _=>true| .int _, .non=>true| .non, .bl _=>true| .bl _, .non=>true| .non, .str _=>true| .str _, .non=>true
 | .int _, .int _=>true| .bl _, .bl _=>true| .str _, .str _=>true| .byt _, .byt _=>true
 | .int _, .str _=>true| .str _, .int _=>true| .bl _, .str _=>true| .str _, .bl _=>true
 |_,_=>false
def rEq:R2:=fun x y H Q=>scal x y=true∧Q (.bl (decide (x=y))) H
def rNe:R2:=fun x y H Q=>scal x y=true∧Q (.bl (!decide (x=y))) H
theorem dec_int {i j:Int}:decide (V.int i=V.int j)=(i==j):=by
 rw [Bool.eq_iff_iff]
 simp
theorem dec_bl {i j:Bool}:decide (V.bl i=V.bl j)=(i==j):=by
 rw [Bool.eq_iff_iff]
 simp
theorem dec_str {i j:Str}:decide (V.str i=V.str j)=(i==j):=by
 rw [Bool.eq_iff_iff]
 simp
theorem dec_byt {i j:Array UInt8}:decide (V.byt i=V.byt j)=(i.toList==j.toList):=by
 rw [Bool.eq_iff_iff]
 cases i
 cases j
 simp
section
variable {X:Cx} {a b c:Expr} {ta tb tc:TE} {pos:Pos}
theorem fin_bl {pins:List (Addr×Obj)} {σ:St} {H:Hp} {s:Shared} {Q:VK} {k k':Bool} (I:Inv X pins σ H s) (q:Q (.bl k) H) (e:k=k'):EP X pins σ Q (.bool k') s:=by
 subst e
 exact ⟨.bl k,H,I,rfl,q⟩
theorem op_eq:OpR X (compareOp .Eq) rEq:=by
 intro pins s σ H x y v u Q I rx ry h
 obtain ⟨hs,q⟩:=h
 cases x with
 |non=>
  cases rx
  cases y with
  |non=>cases ry;exact PySem.EqNone.eq_none_none (fin_bl I q (by simp))
  |bl j=>cases ry;exact PySem.EqNone.eq_none_bool (fin_bl I q (by simp))
  |int j=>obtain ⟨t',rfl⟩:=ry;exact PySem.EqNone.eq_none_int (fin_bl I q (by simp))
  |str j=>obtain ⟨t',rfl⟩:=ry;exact PySem.EqNone.eq_none_str (fin_bl I q (by simp))
  |_=>exact absurd (show false=true from hs) Bool.false_ne_true
 |bl i=>
  cases rx
  cases y with
  |non=>cases ry;exact PySem.EqNone.eq_bool_none (fin_bl I q (by simp))
  |bl j=>cases ry;exact eq_bool (fin_bl I q dec_bl)
  |str j=>obtain ⟨t',rfl⟩:=ry;exact PySem.EqMixed.eq_bool_str (fin_bl I q (by simp))
  |_=>exact absurd (show false=true from hs) Bool.false_ne_true
 |int i=>
  obtain ⟨t,rfl⟩:=rx
  cases y with
  |non=>cases ry;exact PySem.EqNone.eq_int_none (fin_bl I q (by simp))
  |int j=>obtain ⟨t',rfl⟩:=ry;exact eq_int (fin_bl I q dec_int)
  |str j=>obtain ⟨t',rfl⟩:=ry;exact PySem.EqMixed.eq_int_str (fin_bl I q (by simp))
  |_=>exact absurd (show false=true from hs) Bool.false_ne_true
 |str i=>
  obtain ⟨t,rfl⟩:=rx
  cases y with
  |non=>cases ry;exact PySem.EqNone.eq_str_none (fin_bl I q (by simp))
  |bl j=>cases ry;exact PySem.EqMixed.eq_str_bool (fin_bl I q (by simp))
  |int j=>obtain ⟨t',rfl⟩:=ry;exact PySem.EqMixed.eq_str_int (fin_bl I q (by simp))
  |str j=>obtain ⟨t',rfl⟩:=ry;exact eq_str (fin_bl I q dec_str)
  |_=>exact absurd (show false=true from hs) Bool.false_ne_true
 |byt i=>
  obtain ⟨t,rfl⟩:=rx
  cases y with
  |byt j=>obtain ⟨t',rfl⟩:=ry;exact PySem.W.eq_bytes (fin_bl I q dec_byt)
  |_=>exact absurd (show false=true from hs) Bool.false_ne_true
 |_=>cases y<;>exact absurd (show false=true from hs) Bool.false_ne_true
theorem op_ne:OpR X (compareOp .NotEq) rNe:=by
 intro pins s σ H x y v u Q I rx ry h
 obtain ⟨hs,q⟩:=h
 cases x with
 |non=>
  cases rx
  cases y with
  |non=>cases ry;exact PySem.EqNone.ne_none_none (fin_bl I q (by simp))
  |bl j=>cases ry;exact PySem.EqNone.ne_none_bool (fin_bl I q (by simp))
  |int j=>obtain ⟨t',rfl⟩:=ry;exact PySem.EqNone.ne_none_int (fin_bl I q (by simp))
  |str j=>obtain ⟨t',rfl⟩:=ry;exact PySem.EqNone.ne_none_str (fin_bl I q (by simp))
  |_=>exact absurd (show false=true from hs) Bool.false_ne_true
 |bl i=>
  cases rx
  cases y with
  |non=>cases ry;exact PySem.EqNone.ne_bool_none (fin_bl I q (by simp))
  |bl j=>cases ry;exact ne_bool (fin_bl I q (congrArg not dec_bl))
  |str j=>obtain ⟨t',rfl⟩:=ry;exact PySem.EqMixed.ne_bool_str (fin_bl I q (by simp))
  |_=>exact absurd (show false=true from hs) Bool.false_ne_true
 |int i=>
  obtain ⟨t,rfl⟩:=rx
  cases y with
  |non=>cases ry;exact PySem.EqNone.ne_int_none (fin_bl I q (by simp))
  |int j=>obtain ⟨t',rfl⟩:=ry;exact ne_int (fin_bl I q (congrArg not dec_int))
  |str j=>obtain ⟨t',rfl⟩:=ry;exact PySem.EqMixed.ne_int_str (fin_bl I q (by simp))
  |_=>exact absurd (show false=true from hs) Bool.false_ne_true
 |str i=>
  obtain ⟨t,rfl⟩:=rx
  cases y with
  |non=>cases ry;exact PySem.EqNone.ne_str_none (fin_bl I q (by simp))
  |bl j=>cases ry;exact PySem.EqMixed.ne_str_bool (fin_bl I q (by simp))
  |int j=>obtain ⟨t',rfl⟩:=ry;exact PySem.EqMixed.ne_str_int (fin_bl I q (by simp))
  |str j=>obtain ⟨t',rfl⟩:=ry;exact ne_str (fin_bl I q (congrArg not dec_str))
  |_=>exact absurd (show false=true from hs) Bool.false_ne_true
 |byt i=>
  obtain ⟨t,rfl⟩:=rx
  cases y with
  |byt j=>obtain ⟨t',rfl⟩:=ry;exact PySem.W.ne_bytes (fin_bl I q (congrArg not dec_byt))
  |_=>exact absurd (show false=true from hs) Bool.false_ne_true
 |_=>cases y<;>exact absurd (show false=true from hs) Bool.false_ne_true
theorem op_lt:OpR X (compareOp .Lt) (rI0 fun i j=> .bl (decide (i < j))):=opB0 fun _ _ _ _ _ _ _ q=>lt_int q
theorem op_le:OpR X (compareOp .LtE) (rI0 fun i j=> .bl (decide (i≤j))):=opB0 fun _ _ _ _ _ _ _ q=>le_int q
theorem op_gt:OpR X (compareOp .Gt) (rI0 fun i j=> .bl (decide (j < i))):=opB0 fun _ _ _ _ _ _ _ q=>gt_int q
theorem op_ge:OpR X (compareOp .GtE) (rI0 fun i j=> .bl (decide (j≤i))):=opB0 fun _ _ _ _ _ _ _ q=>ge_int q
theorem op_isN:OpR X (compareOp .Is) (fun x y H Q=>y= .non∧Q (.bl (decide (x= .non))) H):=by
 intro pins s σ H x y v u Q I rx ry h
 obtain ⟨rfl,q⟩:=h
 cases ry
 refine is_none_gen (fin_bl I q ?_)
 cases x<;>first
  |(cases rx;rfl)
  |(obtain ⟨t,rfl⟩:=rx;rfl)
theorem OpR.or {f:Value→Value→Sem Value} {r r':R2} (h:OpR X f r) (h':OpR X f r'):OpR X f (fun x y H Q=>r x y H Q∨r' x y H Q):=by
 intro pins s σ H x y v u Q I rx ry q
 rcases q with q|q
 · exact h pins s σ H x y v u Q I rx ry q
 · exact h' pins s σ H x y v u Q I rx ry q
theorem nomark (b:Expr) {op:CmpOp} (h:op≠ .In:=by decide) (h2:op≠ .NotIn:=by decide):behindInMarks op b=false:=by
 have e1:(op==CmpOp.In)=false:=by cases op<;>first|rfl|exact absurd rfl h
 have e2:(op==CmpOp.NotIn)=false:=by cases op<;>first|rfl|exact absurd rfl h2
 cases b<;>simp [behindInMarks,e1,e2]
theorem pe_cmpR {op:CmpOp} {r:R2} (ho:OpR X (compareOp op) r) (ha:PE X a ta) (hb:PE X b tb) (hm:behindInMarks op b=false):PE X (.Compare a [op] [b] pos) (tOp r ta tb):=by
 intro pins s σ H Q I h
 exact wpAny_Compare1 (binT ha hb I h fun v u s2 x y H2 I2 rx ry q=>ho pins s2 σ H2 x y v u Q I2 rx ry q) hm
def tTest (t:TE):TT:=fun σ H Q=>t σ H fun x H'=>∃k,x= .bl k∧Q k H'
theorem pt_cmpR {op:CmpOp} {r:R2} (ho:OpR X (compareOp op) r) (ha:PE X a ta) (hb:PE X b tb) (hm:behindInMarks op b=false):PT X (.Compare a [op] [b] pos) (tTest (tOp r ta tb)):=by
 intro pins s σ H Q I h
 refine wpAny_isTrue_Compare1 (thn (ha pins s σ H _ I h) fun v s1 ⟨x,H1,I1,r1,q1⟩=>thn (hb pins s1 σ H1 _ I1 q1) fun u s2 ⟨y,H2,I2,r2,q2⟩=>
  thn (ho pins s2 σ H2 x y v u _ I2 r1 r2 q2) fun c s3 ⟨z,H3,I3,r3,k,e,q3⟩=> ?_) hm
 subst e
 cases r3
 exact wpAny_truthy_bool ⟨H3,I3,q3⟩
def tChain (r r':R2) (ta tb tc:TE):TE:=fun σ H Q=>ta σ H fun x H1=>tb σ H1 fun y H2=>r x y H2 fun z H3=>∃k,z= .bl k∧
 (if k=true then tc σ H3 fun w' H4=>r' y w' H4 Q else Q (.bl false) H3)
theorem pt_chain {op op':CmpOp} {r r':R2} (ho:OpR X (compareOp op) r) (ho':OpR X (compareOp op') r') (ha:PE X a ta) (hb:PE X b tb) (hc:PE X c tc)
 (hm:lastMarks [op,op'] [b,c]=false:=by with_unfolding_all rfl):PT X (.Compare a [op,op'] [b,c] pos) (tTest (tChain r r' ta tb tc)):=by
 intro pins s σ H Q I h
 refine isTrue_chain (thn (ha pins s σ H _ I h) fun v s1 ⟨x,H1,I1,r1,q1⟩=>test_link (thn (hb pins s1 σ H1 _ I1 q1) fun u s2 ⟨y,H2,I2,r2,q2⟩=>
  thn (ho pins s2 σ H2 x y v u _ I2 r1 r2 q2) fun d s3 ⟨z,H3,I3,r3,k,e,q3⟩=> ?_)) hm
 subst e
 cases r3
 refine wpAny_truthy_bool ?_
 cases k with
 |false=>
  obtain ⟨k',e',q'⟩:=q3
  cases e'
  exact ite_ff ⟨H3,I3,q'⟩
 |true=>
  refine ite_tt (test_last (thn (hc pins s3 σ H3 _ I3 q3) fun w' s4 ⟨z',H4,I4,r4,q4⟩=>thn (ho' pins s4 σ H4 y z' u w' _ I4 r2 r4 q4) fun d' s5 ⟨z2,H5,I5,r5,k2,e2,q5⟩=> ?_))
  subst e2
  cases r5
  exact wpAny_truthy_bool ⟨H5,I5,q5⟩
def TruV (K:PySem.W.Frag) (x:V) (H:Hp) (k:Bool):Prop:=
 match x with
 | .non=>k=false
 | .bl b=>k=b
 | .int i=>k=(i !=0)
 | .str y=>y.length≤sizeLine∧k=((y.length:Int) !=0)
 | .byt y=>y.size≤sizeLine∧k=((y.size:Int) !=0)
 | .ref p=>(∃xs,SqL K H p xs∧k= !xs.isEmpty)∨(∃xs,SqT K H p xs∧k= !xs.isEmpty)∨∃kvs,H p=some (.dK kvs)∧k= !kvs.isEmpty
 |_=>False
theorem isEmpty_kv {κ:Type} {kvs:List (κ×V)} {vs:List (κ×Value)} (r:KV kvs vs):(!vs.isEmpty)= !kvs.isEmpty:=by
 cases r<;>rfl
theorem isEmpty_of {xs:List V} {its:List Value} (r:Vals xs its):(!its.toArray.isEmpty)= !xs.isEmpty:=by
 cases r<;>simp
theorem line63:(sizeLine:Nat) < 2^63:=by rw [sizeLine_eq];decide
theorem tru_ok:TruR X (fun x H Q=>∃k,TruV X.K x H k∧Q k H):=by
 intro pins s σ H x v Q I rx h
 obtain ⟨k,e,q⟩:=h
 have hl:=line63
 have hs:sizeLine=16777216:=sizeLine_eq
 cases x with
 |non=>
  cases rx
  have e':k=false:=e
  subst e'
  exact truthy_none ⟨H,I,q⟩
 |bl b=>
  cases rx
  have e':k=b:=e
  subst e'
  exact wpAny_truthy_bool ⟨H,I,q⟩
 |int i=>
  obtain ⟨t,rfl⟩:=rx
  have e':k=(i !=0):=e
  subst e'
  exact PySem.P.truthy_int ⟨H,I,q⟩
 |str y=>
  obtain ⟨t,rfl⟩:=rx
  obtain ⟨hy,e'⟩:y.length≤sizeLine∧k=((y.length:Int) !=0):=e
  subst e'
  exact PySem.P.truthy_str (by omega) ⟨H,I.tok _,q⟩
 |byt y=>
  obtain ⟨t,rfl⟩:=rx
  obtain ⟨hy,e'⟩:y.size≤sizeLine∧k=((y.size:Int) !=0):=e
  subst e'
  exact PySem.W.truthy_bytes (by omega) ⟨H,I.tok _,q⟩
 |ref p=>
  cases rx
  have e':(∃xs,SqL X.K H p xs∧k= !xs.isEmpty)∨(∃xs,SqT X.K H p xs∧k= !xs.isEmpty)∨∃kvs,H p=some (.dK kvs)∧k= !kvs.isEmpty:=e
  rcases e' with ⟨xs,hx,e'⟩|⟨xs,hx,e'⟩|⟨kvs,hx,e'⟩
  · subst e'
    obtain ⟨its,r,pl,hz⟩:=I.list hx
    have hlen:=r.length
    exact wpAny_truthy_list pl.isList (by simp only [List.size_toArray];omega) ⟨H,I.tok _,by rw [isEmpty_of r];exact q⟩
  · subst e'
    obtain ⟨its,r,pl,hz⟩:=I.tuple hx
    have hlen:=r.length
    exact truthy_tuple pl (by simp only [List.size_toArray];omega) ⟨H,I.tok _,by rw [isEmpty_of r];exact q⟩
  · subst e'
    obtain ⟨hz,hS,vs,r,m⟩:kvs.length≤sizeLine∧(p==sysModules)=false∧∃vs,KV kvs vs∧s.heap.DictOf (mixKind X.prog X.w) p vs:=I.hok p _ hx
    have hlen:kvs.length=vs.length:=Paired.length r
    exact wpAny_truthy_dict hS m (by omega) ⟨H,I.tok _,by rw [isEmpty_kv r];exact q⟩
 |_=>exact (show False from e).elim
theorem pt_truth (ha:PE X a ta) (he:∀whole,isTrue a X.env whole=(do let v←whole;standAt a.pos;holding [v] (truthy v))):
 PT X a (fun σ H Q=>ta σ H fun x H'=>∃k,TruV X.K x H' k∧Q k H'):=by
 intro pins s σ H Q I h
 exact isTrue_plain (thn (ha pins s σ H _ I h) fun v s1 ⟨x,H1,I1,r1,q1⟩=>tru_ok pins s1 σ H1 x v Q I1 r1 q1) (he _)
theorem vals1 {x:V} {us:List Value} (r:Vals [x] us):∃u,us= [u]∧RelV x u:=by
 cases r with
 |cons r1 r2=>cases r2;exact ⟨_,rfl,r1⟩
theorem call_abs:CallR X (.builtin "abs") (fun xs H Q=>∃i,xs= [.int i]∧Q (.int (if i < 0 then -i else i)) H):=by
 intro pins s σ H xs us Q I r h
 obtain ⟨i,rfl,q⟩:=h
 obtain ⟨u,rfl,t,rfl⟩:=vals1 r
 exact call_abs_int fun u tk=>⟨.int (if i < 0 then -i else i),H,I.tok _,⟨_,rfl⟩,q⟩
theorem call_int1:CallR X (.type "int") (fun xs H Q=>(∃i,xs= [.int i]∧Q (.int i) H)∨∃k,xs= [.bl k]∧Q (.int (if k then 1 else 0)) H):=by
 intro pins s σ H xs us Q I r h
 rcases h with ⟨i,rfl,q⟩|⟨k,rfl,q⟩
 · obtain ⟨u,rfl,t,rfl⟩:=vals1 r
   exact call_int_int ⟨.int i,H,I,⟨_,rfl⟩,q⟩
 · obtain ⟨u,rfl,r1⟩:=vals1 r
   cases r1
   exact call_int_bool ⟨.int (if k then 1 else 0),H,I.tok _,⟨_,rfl⟩,q⟩
end
open PySem PySem.Spec PyProof.Rows
structure ObjM (h:Heap) (x dx C:Addr) (mA:Str→Option Value):Prop where
 obj:h.get? x=some (PySem.W.instObj C dx)
 ns:h.Ns1 dx mA
 ne:dx≠x
theorem lookIn_ns {h:Heap} {dx:Addr} {mA:Str→Option Value} (n:h.Ns1 dx mA):∃od,h.get? dx=some od∧∀name,PySem.W.lookIn name od=some (mA name):=by
 obtain ⟨o,es,ep,ho,hd,hk,_,hm⟩:=n
 refine ⟨o,ho,fun name=> ?_⟩
 have e:=hm name
 unfold nsFind findBy at e
 rw [←Array.find?_toList] at e
 unfold PySem.W.lookIn
 rw [hd]
 dsimp only
 split
 · rename_i y q
   rw [q] at e
   exact congrArg some e
 · rename_i q
   rw [q] at e
   have a:es.toList.any (·.refKey)=false:=by
    rw [List.any_eq_false]
    intro y hy
    obtain ⟨z,t,hkey⟩:=hk y (Array.mem_toList_iff.mp hy)
    simp [DictEntry.refKey,hkey]
   have a':¬es.toList.any (·.refKey)=true:=by rw [a];exact Bool.false_ne_true
   rw [if_neg a']
   exact congrArg some e
theorem ObjM.look {h:Heap} {x dx C:Addr} {mA:Str→Option Value} (I:ObjM h x dx C mA):∃od,PySem.W.InstAt h x (PySem.W.instObj C dx) C (some od)∧∀name,PySem.W.lookIn name od=some (mA name):=
 let ⟨od,ho,hl⟩:=lookIn_ns I.ns
 ⟨od,⟨I.obj,rfl,rfl,ho⟩,hl⟩
section
variable {prog:Program} {w:World} {A:Around} {E:Value→Shared→Prop} {s:Shared} {K:PySem.W.Frag} {x dx C f:Addr} {mA:Str→Option Value} {name:Str} {v:Value}
theorem get_map {expr:Bool} {Q:Value→Shared→Prop} (X:K.In s.heap) (I:ObjM s.heap x dx C mA) (hg:PySem.W.plainGet K C name=true) (hh:PySem.W.hasDictIn K C=true)
 (ha:PySem.W.findIn K (.ref C) name=some none) (hv:mA name=some v) (hv':PySem.W.handedIn v=true) (h:Q v {s with toks:=s.toks+1}):
 wpAny (model prog w) A (getAttr (.ref x) name expr) Q E s:=by
 obtain ⟨od,J,hl⟩:=I.look
 exact PySem.W.get_value X J (PySem.W.plainGet_of hg).1 (PySem.W.findObj_own hh ha rfl (by rw [hl,hv])) hv' h
theorem get_meth {pl:Sem Bool} {Q:Value×List Value→Shared→Prop} (X:K.In s.heap) (I:ObjM s.heap x dx C mA) (hg:PySem.W.plainGet K C name=true)
 (hf:PySem.W.findIn K (.ref C) name=some (some (.ref f))) (ht:PySem.W.isFn K (.ref f)=true) (hv:mA name=none) (h:Q (.ref f,[.ref x]) s):
 wpAny (model prog w) A (getMethod (.ref x) name pl) Q E s:=by
 obtain ⟨od,J,hl⟩:=I.look
 exact PySem.W.method_fn X J (PySem.W.plainGet_of hg).1 (PySem.W.plainGet_of hg).2 hf (beq_iff_eq.mp ht) (by show (PySem.W.lookIn name od).map (·.isSome)=some false;rw [hl,hv];rfl) h
theorem set_map {ns:List Str} {Q:Unit→Shared→Prop} (X:K.In s.heap) (I:ObjM s.heap x dx C mA)
 (hs:PySem.W.findIn K (.ref C) "__setattr__"=some (some (.builtin "object.__setattr__"))) (hp:PySem.W.plainOver K C=true) (ht:PySem.W.takerIn K C name=some none) (hh:PySem.W.hasDictIn K C=true)
 (hw:PySem.Within mA ns) (hsz:ns.length≤sizeLine)
 (h:∀h',ObjM h' x dx C (fun y=>if y=name then some v else mA y)→Heap.SameBut dx s.heap h'→Q () {s with heap:=h',toks:=s.toks+2}):
 wpAny (model prog w) A (setAttr (.ref x) name v) Q E s:=by
 obtain ⟨od,J,hl⟩:=I.look
 refine PySem.W.set_plain X J hs (PySem.W.osa_open (s:= {s with toks:=s.toks+1}) (r:=none) X J hp ht fun b=> ?_)
 obtain ⟨cd,hc,hd'⟩:=PySem.W.any_some hh
 have hx:s.heap.get? x=some ⟨.ref C,some dx, .plain, #[]⟩:=I.obj
 refine wpAny_bind (wpAny_pure (wpAny_bind (wpAny_bind (wpAny_loadPart hx (wpAny_bind (PySem.W.Looks.here (s:= {s with toks:=s.toks+1}) (PySem.W.looks_clsIn X hc) ?_))))))
 rw [hd']
 refine wpAny_pure (a:=some dx) (wpAny_bind (wpAny_pure (wpAny_bind ?_)))
 refine wpAny_nsSet1 (s:= {s with toks:=s.toks+1}) I.ns fun h' hn2 hs2=> ?_
 obtain ⟨oD,esD,epD,hoD,hdD,hcD⟩:=hn2.count (PySem.Within.cons name v hw)
 refine wpAny_bind (wpAny_lookBehind hoD (by rw [hdD];exact pastItsLine_dict (Nat.le_trans hcD (by rw [List.length_cons];omega))) ?_)
 exact wpAny_pure (h _ ⟨(hs2.2 _ (Ne.symm I.ne)).trans I.obj,hn2,I.ne⟩ hs2)
theorem make_map {R:Result→Shared→Prop} {vs:List Value} {kw:List (Str×Value)} (X:K.In s.heap) (hm:PySem.W.makesIn K C=true)
 (hi:PySem.W.findIn K (.ref C) "__init__"=some (some (.ref f))) (hf:PySem.W.typeIn K (.ref f)=some (.type "function"))
 (h:codeAny (model prog w) (A.under (.builtin "type.__call__" ⟨.ref C::vs,kw⟩)) (.call (.ref f) ⟨.ref (s.heap.objs.size+1)::vs,kw⟩) (PySem.W.InitBack (s.heap.objs.size+1) R)
  {s with heap:=(s.heap.push PySem.W.emptyDict).push (PySem.W.instObj C s.heap.objs.size)}):
 codeAny (model prog w) A (.call (.ref C) ⟨vs,kw⟩) R s:=by
 obtain ⟨hh,g,d,t,os⟩:=s
 exact PySem.W.make_core (PySem.W.makes_of X hm) (PySem.W.looks_findIn X hi) (fun self=>PySem.W.bind_fn X self hf) (.inl rfl) h
end
noncomputable def putF (f:Str) (v:V):List (Str×V)→List (Str×V)
 | []=> [(f,v)]
 |(g,x)::r=>if g=f then (g,v)::r else (g,x)::putF f v r
theorem lookup_putF (f g:Str) (v:V):∀fs:List (Str×V),(putF f v fs).lookup g=if g=f then some v else fs.lookup g
 | []=>by
  show List.lookup g [(f,v)]=_
  by_cases h:g=f
  · have hb:(g==f)=true:=beq_iff_eq.mpr h
    simp only [List.lookup,hb,if_pos h]
  · have hb:(g==f)=false:=beq_eq_false_iff_ne.mpr h
    simp only [List.lookup,hb,if_neg h]
 |(k,x)::r=>by
  have ih:=lookup_putF f g v r
  rw [show putF f v ((k,x)::r)=(if k=f then (k,v)::r else (k,x)::putF f v r) from rfl]
  by_cases hk:k=f
  · rw [if_pos hk]
    by_cases h:g=k
    · have hb:(g==k)=true:=beq_iff_eq.mpr h
      simp only [List.lookup,hb,if_pos (h.trans hk)]
    · have hb:(g==k)=false:=beq_eq_false_iff_ne.mpr h
      simp only [List.lookup,hb,if_neg (fun e:g=f=>h (e.trans hk.symm))]
  · rw [if_neg hk]
    by_cases h:g=k
    · have hb:(g==k)=true:=beq_iff_eq.mpr h
      simp only [List.lookup,hb,if_neg (fun e:g=f=>hk (h.symm.trans e))]
    · have hb:(g==k)=false:=beq_eq_false_iff_ne.mpr h
      simp only [List.lookup,hb]
      exact ih
theorem keys_putF (f:Str) (v:V):∀fs:List (Str×V),f∈(putF f v fs).map (·.1)∧∀g,g∈fs.map (·.1)→g∈(putF f v fs).map (·.1)
 | []=>⟨by simp [putF],fun g h=>by simp at h⟩
 |(k,x)::r=>by
  obtain ⟨i1,i2⟩:=keys_putF f v r
  rw [show putF f v ((k,x)::r)=(if k=f then (k,v)::r else (k,x)::putF f v r) from rfl]
  by_cases hk:k=f
  · rw [if_pos hk]
    subst hk
    exact ⟨by simp,fun g h=>by simpa using h⟩
  · rw [if_neg hk]
    refine ⟨?_,fun g h=> ?_⟩
    · rw [List.map_cons]
      exact List.mem_cons_of_mem _ i1
    · rw [List.map_cons] at h ⊢
      rcases List.mem_cons.mp h with e|e
      · exact List.mem_cons.mpr (.inl e)
      · exact List.mem_cons_of_mem _ (i2 g e)
theorem length_putF (f:Str) (v:V):∀fs:List (Str×V),(putF f v fs).length≤fs.length+1
 | []=>by simp [putF]
 |(k,x)::r=>by
  have ih:=length_putF f v r
  rw [show putF f v ((k,x)::r)=(if k=f then (k,v)::r else (k,x)::putF f v r) from rfl]
  by_cases hk:k=f
  · rw [if_pos hk,List.length_cons,List.length_cons];omega
  · rw [if_neg hk,List.length_cons,List.length_cons];omega
theorem RelO.some_of {v:V} {o:Option Value} (r:RelO (some v) o):∃u,o=some u∧RelV v u:=by
 cases o with
 |none=>exact (show False from r).elim
 |some u=>exact ⟨u,rfl,r⟩
theorem RelO.none_of {o:Option Value} (r:RelO none o):o=none:=by
 cases o with
 |none=>rfl
 |some u=>exact (show False from r).elim
theorem handed_of {v:V} {u:Value} (r:RelV v u):PySem.W.handedIn u=true:=by
 cases v with
 |non=>cases (show u=Value.none from r);rfl
 |bl b=>cases (show u=Value.bool b from r);rfl
 |int i=>obtain ⟨t,e⟩:=(show∃t,u=Value.int i t from r);cases e;rfl
 |str x=>obtain ⟨t,e⟩:=(show∃t,u=Value.str x t from r);cases e;rfl
 |byt b=>obtain ⟨t,e⟩:=(show∃t,u=Value.bytes b t from r);cases e;rfl
 |flt b=>obtain ⟨t,e⟩:=(show∃t,u=Value.float b t from r);cases e;rfl
 |ref a=>cases (show u=Value.ref a from r);rfl
 |ty n=>cases (show u=Value.type n from r);rfl
section
variable {P:Program} {w:World} {H H':Hp} {h h':Heap} {a C dx:Addr} {fs fs':List (Str×V)}
theorem ins_get (hok:HOk P w H h) (e:H a=some (.ins C dx fs)):∃mA,ObjM h a dx C mA∧(∀f,RelO (fs.lookup f) (mA f))∧PySem.Within mA (fs.map (·.1))∧fs.length≤1000∧H dx=some (.own a):=by
 obtain ⟨d,z,ne,ob,mA,n,r,q⟩:=(show ObjOk P w H h a (.ins C dx fs) from hok a _ e)
 exact ⟨mA,⟨ob,n,ne⟩,r,q,z,d⟩
end
structure Cls (K:PySem.W.Frag) (C:Addr):Prop where
 pg:PySem.W.plainGet K C Str.empty=true
 hd:PySem.W.hasDictIn K C=true
 po:PySem.W.plainOver K C=true
 sa:PySem.W.findIn K (.ref C) "__setattr__"=some (some (.builtin "object.__setattr__"))
theorem Cls.get {K:PySem.W.Frag} {C:Addr} (c:Cls K C) (f:Str):PySem.W.plainGet K C f=true:=c.pg
def NoAttr (K:PySem.W.Frag) (C:Addr) (f:Str):Prop:=PySem.W.findIn K (.ref C) f=some none
theorem NoAttr.taker {K:PySem.W.Frag} {C:Addr} {f:Str} (n:NoAttr K C f):PySem.W.takerIn K C f=some none:=by
 unfold PySem.W.takerIn
 rw [show PySem.W.findIn K (.ref C) f=some none from n]
 rfl
structure Meth (K:PySem.W.Frag) (C:Addr) (m:Str) (f:Addr):Prop where
 at_:PySem.W.findIn K (.ref C) m=some (some (.ref f))
 fn:PySem.W.isFn K (.ref f)=true
 kp:PySem.W.keepIn K (.ref f)=true
section
variable {X:Cx} {pins:List (Addr×Obj)} {σ:St} {H:Hp} {s:Shared} {a C dx:Addr} {fs:List (Str×V)} {f:Str} {v:V} {A:Around} {E:Value→Shared→Prop}
theorem getattr_ok {b:Bool} {Q:Value→Shared→Prop} (I:Inv X pins σ H s) (e:H a=some (.ins C dx fs)) (c:Cls X.K C) (n:NoAttr X.K C f) (l:fs.lookup f=some v)
 (h:∀u s',Inv X pins σ H s'→RelV v u→Q u s'):wpAny (model X.prog X.w) A (getAttr (.ref a) f b) Q E s:=by
 obtain ⟨mA,O,r,_,_,_⟩:=ins_get I.hok e
 obtain ⟨u,hu,ru⟩:=RelO.some_of (v:=v) (o:=mA f) (by rw [←l];exact r f)
 exact get_map I.kIn O (c.get f) c.hd n hu (handed_of ru) (h u _ (I.tok _) ru)
theorem getmeth_ok {m:Str} {g:Addr} {pl:Sem Bool} {Q:Value×List Value→Shared→Prop} (I:Inv X pins σ H s) (e:H a=some (.ins C dx fs)) (c:Cls X.K C) (k:Meth X.K C m g) (l:fs.lookup m=none)
 (h:Q (.ref g,[.ref a]) s):wpAny (model X.prog X.w) A (getMethod (.ref a) m pl) Q E s:=by
 obtain ⟨mA,O,r,_,_,_⟩:=ins_get I.hok e
 have hn:mA m=none:=RelO.none_of (by rw [←l];exact r m)
 exact get_meth I.kIn O (c.get m) k.at_ k.fn hn h
theorem setattr_ok {y:V} {u:Value} {Q:Unit→Shared→Prop} (I:Inv X pins σ H s) (e:H a=some (.ins C dx fs)) (c:Cls X.K C) (n:NoAttr X.K C f) (hl:fs.length < 1000) (ry:RelV y u)
 (h:∀s',Inv X pins σ (upd H a (.ins C dx (putF f y fs))) s'→Q () s'):wpAny (model X.prog X.w) A (setAttr (.ref a) f u) Q E s:=by
 obtain ⟨mA,O,r,wi,_,ho⟩:=ins_get I.hok e
 have hz:(fs.map (·.1)).length≤sizeLine:=by rw [List.length_map,sizeLine_eq];omega
 refine set_map I.kIn O c.sa c.po n.taker c.hd wi hz fun h' O' sb=>h _ ?_
 have hd:∃o,h'.get? dx=some o:=let ⟨o,_,_,e',_⟩:=O'.ns;⟨o,e'⟩
 refine I.write (x:=a) (e:=dx) (by rw [e];exact True.intro) (.inr ho) (fun b q hb z=>(sb.2 b hb).trans z) hd ?_
 refine ⟨by rw [upd_ne O.ne];exact ho,?_,O.ne,O'.obj,_,O'.ns,fun g=> ?_,fun g hg=> ?_⟩
 · have:=length_putF f y fs;omega
 · show RelO ((putF f y fs).lookup g) (if g=f then some u else mA g)
   rw [lookup_putF]
   by_cases q:g=f
   · rw [if_pos q,if_pos q];exact ry
   · rw [if_neg q,if_neg q];exact r g
 · by_cases q:g=f
   · rw [q];exact (keys_putF f y fs).1
   · refine (keys_putF f y fs).2 g (wi g fun z=>hg ?_)
     show (if g=f then some u else mA g)=none
     rw [if_neg q];exact z
theorem Inv.made (I:Inv X pins σ H s):Inv X pins σ (upd (upd H s.heap.objs.size (.own (s.heap.objs.size+1))) (s.heap.objs.size+1) (.ins C s.heap.objs.size []))
 {s with heap:=(s.heap.push PySem.W.emptyDict).push (PySem.W.instObj C s.heap.objs.size)}:=by
 have e1:(s.heap.push PySem.W.emptyDict).get? s.heap.objs.size=some PySem.W.emptyDict:=Heap.get?_push_size s.heap rfl
 have e2:((s.heap.push PySem.W.emptyDict).push (PySem.W.instObj C s.heap.objs.size)).get? (s.heap.objs.size+1)=some (PySem.W.instObj C s.heap.objs.size):=by
  have:=Heap.get?_push_size (s.heap.push PySem.W.emptyDict) (o:=PySem.W.instObj C s.heap.objs.size) rfl
  rwa [Heap.size_push] at this
 have e3:(s.heap.push PySem.W.emptyDict).Ns s.heap.objs.size (fun _=>none):=⟨PySem.W.emptyDict, #[],_,e1,rfl,(fun e he=>absurd he (by simp)),fun _=>rfl⟩
 have I1:=I.laid (a:=s.heap.objs.size) (o:= .own (s.heap.objs.size+1)) (h':=s.heap.push PySem.W.emptyDict) (t':=s.toks) (fun b u q=>Heap.get?_push_of_some _ q) (Nat.le_refl _) ⟨_,e1⟩
 refine I1.laid (a:=s.heap.objs.size+1) (o:= .ins C s.heap.objs.size []) (t':=s.toks) (fun b u q=>Heap.get?_push_of_some _ q) (Nat.le_of_eq (Heap.size_push _ _)) ?_
 have ne:s.heap.objs.size≠s.heap.objs.size+1:=Nat.ne_of_lt (Nat.lt_succ_self _)
 refine ⟨by rw [upd_ne ne,upd_same],Nat.zero_le _,ne,e2,fun _=>none,(Heap.Ns1.of_empty e3).at fun o q=>Heap.get?_push_of_some _ q,fun _=>True.intro,fun y hy=>absurd rfl hy⟩
theorem attr_of {prog:Program} {w:World} {env:Env} {e:Expr} {f:Str} {pos:Pos} {s:Shared} {Q:Value→Shared→Prop} (hb:attributeBase e f env (eval e env)=eval e env)
 (h:wpAny (model prog w) A (eval e env) (fun o s₁=>wpAny (model prog w) A (getAttr o f true) Q E s₁) E s):wpAny (model prog w) A (eval (.Attribute e f pos) env) Q E s:=
 Attribute_any_ h (by rw [arm_eval_Attribute,hb])
end
def tFld (K:PySem.W.Frag) (ta:TE) (f:Str):TE:=fun σ H Q=>ta σ H fun x H1=>∃a C dx fs v,x= .ref a∧H1 a=some (.ins C dx fs)∧Cls K C∧NoAttr K C f∧fs.lookup f=some v∧Q v H1
def sFld (K:PySem.W.Frag) (ta tv:TE) (f:Str):TS:=fun D σ H=>tv σ H fun y H1=>ta σ H1 fun x H2=>∃a C dx fs,x= .ref a∧H2 a=some (.ins C dx fs)∧Cls K C∧NoAttr K C f∧fs.length < 1000∧
 D.nx σ (upd H2 a (.ins C dx (putF f y fs)))
section
variable {X:Cx} {o e value:Expr} {f:Str} {pos pos' tpos:Pos} {ta tv:TE}
theorem pe_fld (he:PE X e ta) (hb:attributeBase e f X.env (eval e X.env)=eval e X.env):PE X (.Attribute e f pos) (tFld X.K ta f):=by
 intro pins s σ H Q I h
 refine attr_of hb (thn (he pins s σ H _ I h) fun u s1 ⟨x,H1,I1,rx,a,C,dx,fs,v,ex,ea,c,n,l,q⟩=> ?_)
 subst ex
 obtain rfl:u=Value.ref a:=rx
 exact getattr_ok I1 ea c n l fun u' s2 I2 ru=>⟨v,H1,I2,ru,q⟩
theorem ps_fld (ha:PE X o ta) (hv:PE X value tv) (hs:swapsWith value (some (.Attribute o f pos')) pos.line X.env=pure false):PS X (.Assign [.Attribute o f pos'] value pos) (sFld X.K ta tv f):=by
 intro pins s σ H D I h
 refine plainObj_wpAny_Assign_Attribute (thn (hv pins s σ H _ I h) fun u s1 ⟨y,H1,I1,ry,q⟩=>thn (ha pins s1 σ H1 _ I1 q) fun ov s2 ⟨x,H2,I2,rx,a,C,dx,fs,ex,ea,c,n,l,q2⟩=> ?_) hs
 subst ex
 obtain rfl:ov=Value.ref a:=rx
 exact setattr_ok I2 ea c n l ry fun s3 I3=>⟨σ,_,I3,q2⟩
end
section
variable {X:Cx} {pins:List (Addr×Obj)} {σ:St} {H:Hp} {s:Shared} {A:Around} {E:Value→Shared→Prop} {Q:Value→Shared→Prop} {c:Value} {b:Bool}
inductive TyOf (K:PySem.W.Frag) (H:Hp):V→Value→Prop where
 |non:TyOf K H .non (.type "NoneType")
 |bl (x:Bool):TyOf K H (.bl x) (.type "bool")
 |int (i:Int):TyOf K H (.int i) (.type "int")
 |str (x:Str):TyOf K H (.str x) (.type "str")
 |flt (x:UInt64):TyOf K H (.flt x) (.type "float")
 |lst {a:Addr} {xs:List V} (e:H a=some (.lst xs)):TyOf K H (.ref a) (.type "list")
 |frz {a:Addr} {o:Obj} {xs:List V} (e:H a=some (.frz o (.lst xs))):TyOf K H (.ref a) (.type "list")
 |tup {a:Addr} {xs:List V} (e:H a=some (.tup xs)):TyOf K H (.ref a) (.type "tuple")
 |dK {a:Addr} {kvs:List (Key×V)} (e:H a=some (.dK kvs)):TyOf K H (.ref a) (.type "dict")
 |dT {a:Addr} {kvs:List (List Key×V)} (e:H a=some (.dT kvs)):TyOf K H (.ref a) (.type "dict")
 |ins {a C dx:Addr} {fs:List (Str×V)} (e:H a=some (.ins C dx fs)) (cl:Cls K C) (ha:PySem.W.findIn K (.ref C) "__class__"=some (some (.builtin "object.__class__")))
  (hn:PySem.W.specialIn K (.builtin "object.__class__") "__get__"=some (some (.builtin "getset_descriptor.__get__"))) (htk:PySem.W.takesIn K (.builtin "object.__class__")=some true)
  (hm:PySem.W.mroIn K C (.type "object")=some true):TyOf K H (.ref a) (.ref C)
end
open PySem PySem.Spec PyProof.Rows
structure Room (k:Nat) (A:Around):Prop where
 hd:A.handled=none
 dp:A.depth+3*k+5 < recursionLimit
 un:A.units+16*k+200 < cLine
 gd:A.guards=some []
theorem Room.mono {j k:Nat} {A:Around} (r:Room k A) (h:j≤k):Room j A:=⟨r.hd,by have:=r.dp;omega,by have:=r.un;omega,r.gd⟩
theorem Room.deeper {k:Nat} {A:Around} (r:Room (k+1) A) (env:Env):Room k (A.deeper env):=
 ⟨r.hd,by have:=r.dp;show A.depth+1+3*k+5 < _;omega,by have:=r.un;show A.units+3+16*k+200 < _;omega,by first|exact r.gd|(have:=r.gd;simpa [Around.deeper,Around.under] using this)⟩
theorem Room.in1 {k:Nat} {A:Around} (r:Room (k+1) A):Room k A.in1:=
 ⟨r.hd,by have:=r.dp;show A.depth+3*k+5 < _;omega,by have:=r.un;show A.units+1+16*k+200 < _;omega,r.gd⟩
theorem make_depth {A:Around} {C:Addr} {us:List Value} {kw:List (Str×Value)}:(A.under (.builtin "type.__call__" ⟨.ref C::us,kw⟩)).depth=A.depth+1:=by
 first|rfl|simp [Around.under,Code.weight,Code.isCreation,Code.isGuard,Code.isCaller,Code.frames,Code.isFrame,guardIds]
theorem make_units {A:Around} {C:Addr} {us:List Value} {kw:List (Str×Value)}:(A.under (.builtin "type.__call__" ⟨.ref C::us,kw⟩)).units=A.units+1:=by
 first|rfl|simp [Around.under,Code.cUnits,Code.frames,Code.isFrame]
theorem Room.make {k:Nat} {A:Around} (r:Room (k+1) A) (C:Addr) (us:List Value) (kw:List (Str×Value)):Room k (A.under (.builtin "type.__call__" ⟨.ref C::us,kw⟩)):=
 ⟨r.hd,by have:=r.dp;rw [make_depth];omega,by have:=r.un;rw [make_units];omega,by have:=r.gd;simp [Around.under,Code.guards,Code.isGuard,guardIds,pushGuards,this]⟩
theorem Room.depth {k:Nat} {A:Around} (r:Room k A):A.depth < recursionLimit:=by have:=r.dp;omega
theorem Room.units {k:Nat} {A:Around} (r:Room k A):A.units+64 < cLine:=by have:=r.un;omega
def tNil:TA:=fun _ H Q=>Q [] H
def tCons (ta:TE) (tr:TA):TA:=fun σ H Q=>ta σ H fun x H1=>tr σ H1 fun xs H2=>Q (x::xs) H2
section
variable {X:Cx} {e:Expr} {es:List Expr} {te:TE} {t:TA} {pos:Pos}
theorem pa_nil:PA X [] tNil:=fun _ _ _ _ H Q I h=>Calls.spliced_nil ⟨[],H,I, .nil,h⟩
theorem pa_cons (ha:PE X e te) (hr:PA X es t) (hs:starEach (e::es) X.env=(false,eval e X.env)::starEach es X.env:=by rfl):PA X (e::es) (tCons te t):=by
 intro pos pins s σ H Q I h
 rw [hs]
 show wpAny _ _ (spliced ((false,eval e X.env)::backTo pos (starEach es X.env))) _ _ s
 refine Calls.spliced_cons (thn (ha pins s σ H _ I h) fun u s1 ⟨x,H1,I1,r1,q1⟩=> ?_)
 exact thn (hr pos pins s1 σ H1 _ I1 q1) fun us s2 ⟨xs,H2,I2,r2,q2⟩=>⟨x::xs,H2,I2, .cons r1 r2,q2⟩
def tTup (t:TA):TE:=fun σ H Q=>t σ H fun xs H1=>xs.length≤sizeLine∧∀p,H1 p=none→Q (.ref p) (upd H1 p (.tup xs))
def tLst (t:TA):TE:=fun σ H Q=>t σ H fun xs H1=>xs.length≤sizeLine∧∀p,H1 p=none→Q (.ref p) (upd H1 p (.lst xs))
theorem pe_tup {x1} (h:PA X es t):PE X (.Tuple es x1 pos) (tTup t):=by
 intro pins s σ H Q I hq
 refine wpAny_Tuple_spliced (thn (h pos pins s σ H _ I hq) fun us s1 ⟨xs,H1,I1,r,z,q⟩=>⟨by rw [←r.length];exact z,?_⟩)
 have hf:H1 s1.heap.objs.size=none:=I1.hok.fresh (Nat.le_refl _)
 refine ⟨.ref s1.heap.objs.size,upd H1 s1.heap.objs.size (.tup xs),I1.laid (t':=s1.toks) (fun b u e=>Heap.get?_push_of_some _ e) (Nat.le_refl _) ?_,rfl,q _ hf⟩
 exact ⟨z,us,r,⟨_,Heap.get?_push_size _ rfl,rfl,_,rfl⟩⟩
theorem pe_lst (h:PA X es t):PE X (.List es pos) (tLst t):=by
 intro pins s σ H Q I hq
 refine wpAny_List_spliced (thn (h pos pins s σ H _ I hq) fun us s1 ⟨xs,H1,I1,r,z,q⟩=>⟨by rw [←r.length];exact z,?_⟩)
 have hf:H1 s1.heap.objs.size=none:=I1.hok.fresh (Nat.le_refl _)
 refine ⟨.ref s1.heap.objs.size,upd H1 s1.heap.objs.size (.lst xs),I1.laid (t':=s1.toks) (fun b u e=>Heap.get?_push_of_some _ e) (Nat.le_refl _) ?_,rfl,q _ hf⟩
 exact ⟨z,us,0,r,Heap.get?_push_size _ rfl⟩
end
abbrev Sp:=List V→Hp→VK→XK→Prop
abbrev CXT:=List Env→Hp→Shared→XK→Value→Shared→Prop
structure Env0 (P:Program) (w:World) (K:PySem.W.Frag) (mg:Str→Option Value) (base:Heap) (A:Around) (outer:List Env) (s:Shared) (H:Hp):Prop where
 frames:A.frames=some outer
 mod:Mod K mg base
 bs:∀b o,base.get? b=some o→s.heap.get? b=some o∧H b=none
 bsz:base.objs.size≤s.heap.objs.size
 funs:s.heap.FunFrames base outer
 frf:∀b∈frs outer,H b=none
 hok:HOk P w H s.heap
 bare:AllBare s.gens
def CE (outer:List Env) (P:Program) (w:World) (H:Hp) (s:Shared) (Q:VK) (u:Value) (s':Shared):Prop:=
 ∃v H',s'.os=s.os∧AllBare s'.gens∧Un (frs outer) [] H H' s.heap s'.heap∧HOk P w H' s'.heap∧RelV v u∧Q v H'
def CR (CX:CXT) (outer:List Env) (P:Program) (w:World) (H:Hp) (s:Shared) (Q:VK) (E:XK) (r:Result) (s':Shared):Prop:=
 match r with
 | .ok (.ret u)=>CE outer P w H s Q u s'
 | .ok _=>False
 | .error e=>CX outer H s E e s'
structure FnOk (P:Program) (w:World) (K:PySem.W.Frag) (mg:Str→Option Value) (base:Heap) (CX:CXT) (k:Nat) (f:Addr) (fd:FuncData) (ps:List Str) (sp:Sp):Prop where
 len:∀vs H Q E,sp vs H Q E→vs.length=ps.length
 run:∀(A:Around) (outer:List Env) (s:Shared) (H:Hp) (args:Args) (us:List Value) (vs:List V) (Q:VK) (E:XK),Room k A→Env0 P w K mg base A outer s H→BindsTo s fd args (ps.zip us)→Vals vs us→sp vs H Q E→
  codeAny (model P w) A (.call (.ref f) args) (CR CX outer P w H s Q E) s
theorem FnOk.mono {P:Program} {w:World} {K:PySem.W.Frag} {mg:Str→Option Value} {base:Heap} {CX:CXT} {j k:Nat} {f:Addr} {fd:FuncData} {ps:List Str} {sp:Sp} (F:FnOk P w K mg base CX j f fd ps sp) (h:j≤k):
 FnOk P w K mg base CX k f fd ps sp:=⟨F.len,fun A outer s H args us vs Q E hr=>F.run A outer s H args us vs Q E (hr.mono h)⟩
theorem FnOk.imp {P:Program} {w:World} {K:PySem.W.Frag} {mg:Str→Option Value} {base:Heap} {CX:CXT} {k:Nat} {f:Addr} {fd:FuncData} {ps:List Str} {sp sp':Sp} (F:FnOk P w K mg base CX k f fd ps sp)
 (h:∀vs H Q E,sp' vs H Q E→sp vs H Q E):FnOk P w K mg base CX k f fd ps sp':=
 ⟨fun vs H Q E q=>F.len vs H Q E (h _ _ _ _ q),fun A outer s H args us vs Q E hr he hb hv hs=>F.run A outer s H args us vs Q E hr he hb hv (h _ _ _ _ hs)⟩
theorem Env0.make {P:Program} {w:World} {K:PySem.W.Frag} {mg:Str→Option Value} {base:Heap} {A:Around} {outer:List Env} {s:Shared} {H:Hp} (e:Env0 P w K mg base A outer s H) (C:Addr) (us:List Value) (kw:List (Str×Value)):
 Env0 P w K mg base (A.under (.builtin "type.__call__" ⟨.ref C::us,kw⟩)) outer s H:=⟨by first|exact e.frames|(simpa [Around.under,Code.envs,Code.isFrame,pushEnvs] using e.frames),e.mod,e.bs,e.bsz,e.funs,e.frf,e.hok,e.bare⟩
theorem Env0.in1 {P:Program} {w:World} {K:PySem.W.Frag} {mg:Str→Option Value} {base:Heap} {A:Around} {outer:List Env} {s:Shared} {H:Hp} (e:Env0 P w K mg base A outer s H):
 Env0 P w K mg base A.in1 outer s H:=⟨e.frames,e.mod,e.bs,e.bsz,e.funs,e.frf,e.hok,e.bare⟩
section
variable {X:Cx} {pins:List (Addr×Obj)} {σ:St} {H:Hp} {s s':Shared}
theorem Inv.env0 (I:Inv X pins σ H s):Env0 X.prog X.w X.K X.mg X.base X.A X.stack s H:=
 ⟨I.ok.frames,I.ok.mod,I.bs,Nat.le_trans I.ok.bsz I.sz,I.stack,I.stkFree,I.hok,I.bare⟩
theorem Inv.after {Q:VK} {u:Value} (I:Inv X pins σ H s) (h:CE X.stack X.prog X.w H s Q u s'):EP X pins σ Q u s':=by
 obtain ⟨v,H',os,bare,un,hok,r,q⟩:=h
 obtain ⟨hh,g,d,t,os'⟩:=s'
 obtain rfl:os'=s.os:=os
 exact ⟨v,H',I.call (h':=hh) (g':=g) (d':=d) (t':=t) (ch:= []) un hok bare (fun b z=>absurd z (by simp)),r,q⟩
end
def tCall (sp:Sp) (dvs:List V) (E:XK) (t:TA):TE:=fun σ H Q=>t σ H fun vs H1=>sp (vs++dvs) H1 Q E
def tMeth (C:Addr) (m:Str) (sp:Sp) (dvs:List V) (E:XK) (ta:TE) (t:TA):TE:=fun σ H Q=>ta σ H fun x H1=>∃a dx fs,x= .ref a∧H1 a=some (.ins C dx fs)∧fs.lookup m=none∧
 t σ H1 fun vs H2=>sp (x::(vs++dvs)) H2 Q E
def tMake (C:Addr) (sp:Sp) (dvs:List V) (E:XK) (t:TA):TE:=fun σ H Q=>t σ H fun vs H1=>∀x dx,H1 x=none→H1 dx=none→dx≠x→
 sp (.ref x::(vs++dvs)) (upd (upd H1 dx (.own x)) x (.ins C dx [])) (fun v H2=>v= .non∧Q (.ref x) H2) E
def Binds (K:PySem.W.Frag) (fd:FuncData) (ps:List Str) (ds:List Value):Prop:=
 ∀(s:Shared) (us:List Value),K.In s.heap→(us++ds).length=ps.length→BindsTo s fd ⟨us,[]⟩ (ps.zip (us++ds))
theorem Binds.all {K:PySem.W.Frag} {fd:FuncData} {ps:List Str} (h:∀us:List Value,us.length=ps.length→bindArgs fd ⟨us,[]⟩=pure (ps.zip us)):Binds K fd ps []:=fun s us _ hl=>by
 rw [List.append_nil] at hl ⊢
 exact .of_eq (h us hl)
def Passes (CX:CXT) (X:Cx) (E:XK):Prop:=∀(pins:List (Addr×Obj)) (σ:St) (H:Hp) (s:Shared) (e:Value) (s':Shared),Inv X pins σ H s→CX X.stack H s E e s'→X.xe e s'
section
variable {X:Cx} {CX:CXT} {k:Nat} {f C:Addr} {fd:FuncData} {ps:List Str} {sp:Sp} {dvs:List V} {ds:List Value} {E:XK} {x m:Str} {p pos apos:Pos} {e o:Expr} {es:List Expr} {ta:TE} {t:TA}
theorem run_fn {pins:List (Addr×Obj)} {σ:St} {H:Hp} {s:Shared} {Q:VK} {us:List Value} {vs:List V} (F:FnOk X.prog X.w X.K X.mg X.base CX k f fd ps sp) (hr:Room k X.A) (hb:Binds X.K fd ps ds) (hd:Vals dvs ds) (hx:Passes CX X E)
 (I:Inv X pins σ H s) (r:Vals vs us) (h:sp (vs++dvs) H Q E):wpAny (model X.prog X.w) X.A (call (.ref f) us) (EP X pins σ Q) X.xe s:=by
 have r2:Vals (vs++dvs) (us++ds):=r.append hd
 have hl:(us++ds).length=ps.length:=by rw [←r2.length];exact F.len _ _ _ _ h
 refine wpAny_call (codeAny_mono (F.run X.A X.stack s H ⟨us,[]⟩ (us++ds) (vs++dvs) Q E hr I.env0 (hb s us I.kIn hl) r2 h) fun r s' hq=> ?_)
 cases r with
 |error e=>exact hx pins σ H s e s' I hq
 |ok fl=>
  cases fl with
  |ret u=>exact I.after hq
  |next=>exact False.elim hq
  |brk=>exact False.elim hq
  |cont=>exact False.elim hq
theorem pe_call (F:FnOk X.prog X.w X.K X.mg X.base CX k f fd ps sp) (hr:Room k X.A) (hg:Gl X x) (hm:X.mg x=some (.ref f)) (hk:PySem.W.keepIn X.K (.ref f)=true) (hb:Binds X.K fd ps ds) (hd:Vals dvs ds) (hx:Passes CX X E)
 (ha:PA X (e::es) t) (hdb:(x==("__debug__":Str))=false:=by decide) (he:starEach (e::es) X.env=(false,eval e X.env)::starEach es X.env:=by rfl) (hpl:(backTo pos (starEach es X.env)).any (·.1)=false:=by rfl):
 PE X (.Call (.Name x p) (e::es) [] pos) (tCall sp dvs E t):=by
 intro pins s σ H Q I h
 refine wpAny_Call_Name_kw (ld_glob I hg hm ?_ hdb)
 refine PySem.W.callWith_K (h₀:=X.base) I.ok.mod.kin hk (thn (ha pos pins s σ H _ I h) fun us s1 ⟨vs,H1,I1,r,q⟩=>⟨I1.kIn,?_⟩) he hpl
 exact run_fn F hr hb hd hx I1 r q
theorem pe_meth {pl:Sem Bool} (he:PE X o ta) (c:Cls X.K C) (hm:Meth X.K C m f) (F:FnOk X.prog X.w X.K X.mg X.base CX k f fd ps sp) (hr:Room k X.A) (hb:Binds X.K fd ps ds) (hd:Vals dvs ds) (hx:Passes CX X E) (ha:PA X (e::es) t)
 (hst:starEach (e::es) X.env=(false,eval e X.env)::starEach es X.env:=by rfl) (hpl:(backTo pos (starEach es X.env)).any (·.1)=false:=by rfl)
 (ht:eval (.Call (.Attribute o m apos) (e::es) [] pos) X.env=(do
  let ov←eval o X.env
  standAt apos.atName
  let (f,first)←holding [ov] (getMethod ov m pl)
  callWith pos f first (backTo pos (starEach (e::es) X.env)) (backToKw pos (keywordEach [] X.env))):=by rfl):
 PE X (.Call (.Attribute o m apos) (e::es) [] pos) (tMeth C m sp dvs E ta t):=by
 intro pins s σ H Q I h
 refine PySem.W.methodCall_KW (pl:=pl) (thn (he pins s σ H _ I h) fun u s1 ⟨x,H1,I1,rx,a,dx,fs,ex,ea,l,q⟩=> ?_) ht
 subst ex
 obtain rfl:u=Value.ref a:=rx
 refine getmeth_ok I1 ea c hm l ?_
 refine PySem.W.callWith_K (first:= [.ref a]) (h₀:=X.base) I.ok.mod.kin hm.kp (thn (ha pos pins s1 σ H1 _ I1 q) fun us s2 ⟨vs,H2,I2,r,q2⟩=>⟨I2.kIn,?_⟩) hst hpl
 exact run_fn (us:= .ref a::us) (vs:= .ref a::vs) F hr hb hd hx I2 (.cons rfl r) q2
theorem pe_meth0 {pl:Sem Bool} (he:PE X o ta) (c:Cls X.K C) (hm:Meth X.K C m f) (F:FnOk X.prog X.w X.K X.mg X.base CX k f fd ps sp) (hr:Room k X.A) (hb:Binds X.K fd ps ds) (hd:Vals dvs ds) (hx:Passes CX X E)
 (ht:eval (.Call (.Attribute o m apos) [] [] pos) X.env=(do
  let ov←eval o X.env
  standAt apos.atName
  let (f,first)←holding [ov] (getMethod ov m pl)
  callWith pos f first (backTo pos (starEach [] X.env)) (backToKw pos (keywordEach [] X.env))):=by rfl):
 PE X (.Call (.Attribute o m apos) [] [] pos) (tMeth C m sp dvs E ta tNil):=by
 intro pins s σ H Q I h
 refine PySem.W.methodCall_KW (pl:=pl) (thn (he pins s σ H _ I h) fun u s1 ⟨x,H1,I1,rx,a,dx,fs,ex,ea,l,q⟩=> ?_) ht
 subst ex
 obtain rfl:u=Value.ref a:=rx
 refine getmeth_ok I1 ea c hm l ?_
 exact PySem.W.callWith_K0 (first:= [.ref a]) I1.kIn hm.kp (run_fn (us:= [.ref a]) (vs:= [.ref a]) F hr hb hd hx I1 (.cons rfl .nil) q)
structure Mk (K:PySem.W.Frag) (C f:Addr):Prop where
 makes:PySem.W.makesIn K C=true
 init:PySem.W.findIn K (.ref C) "__init__"=some (some (.ref f))
 fn:PySem.W.isFn K (.ref f)=true
 kp:PySem.W.keepIn K (.ref C)=true
theorem run_make {pins:List (Addr×Obj)} {σ:St} {H:Hp} {s:Shared} {Q:VK} {us:List Value} {vs:List V} (M:Mk X.K C f) (F:FnOk X.prog X.w X.K X.mg X.base CX k f fd ps sp) (hr:Room (k+1) X.A) (hb:Binds X.K fd ps ds) (hd:Vals dvs ds)
 (hx:Passes CX X E) (I:Inv X pins σ H s) (r:Vals vs us)
 (h:∀x dx,H x=none→H dx=none→dx≠x→sp (.ref x::(vs++dvs)) (upd (upd H dx (.own x)) x (.ins C dx [])) (fun v H2=>v= .non∧Q (.ref x) H2) E):
 wpAny (model X.prog X.w) X.A (call (.ref C) us) (EP X pins σ Q) X.xe s:=by
 have hq:=h (s.heap.objs.size+1) s.heap.objs.size (I.hok.fresh (Nat.le_succ _)) (I.hok.fresh (Nat.le_refl _)) (Nat.ne_of_lt (Nat.lt_succ_self _))
 have I2:=Inv.made (C:=C) I
 have r2:Vals (V.ref (s.heap.objs.size+1)::(vs++dvs)) (Value.ref (s.heap.objs.size+1)::(us++ds)):= .cons rfl (r.append hd)
 have hl:(Value.ref (s.heap.objs.size+1)::us++ds).length=ps.length:=by
  have e:=r2.length
  rw [F.len _ _ _ _ hq] at e
  exact e.symm
 refine wpAny_call (make_map (f:=f) I.kIn M.makes M.init (beq_iff_eq.mp M.fn) (codeAny_mono (F.run _ X.stack _ _ ⟨Value.ref (s.heap.objs.size+1)::us,[]⟩ (Value.ref (s.heap.objs.size+1)::(us++ds)) _ _ E (hr.make C us [])
  (I2.env0.make C us []) (hb _ (Value.ref (s.heap.objs.size+1)::us) I2.kIn hl) r2 hq) fun r s' hq'=> ?_))
 cases r with
 |error e=>exact hx pins σ _ _ e s' I2 hq'
 |ok fl=>
  cases fl with
  |ret u=>
   obtain ⟨v,H',I3,rv,ev,q3⟩:=I2.after hq'
   subst ev
   exact ⟨rv,⟨V.ref (s.heap.objs.size+1),H',I3,rfl,q3⟩⟩
  |next=>exact False.elim hq'
  |brk=>exact False.elim hq'
  |cont=>exact False.elim hq'
theorem pe_make0 (M:Mk X.K C f) (F:FnOk X.prog X.w X.K X.mg X.base CX k f fd ps sp) (hr:Room (k+1) X.A) (hg:Gl X x) (hm:X.mg x=some (.ref C)) (hb:Binds X.K fd ps ds) (hd:Vals dvs ds) (hx:Passes CX X E)
 (hdb:(x==("__debug__":Str))=false:=by decide):PE X (.Call (.Name x p) [] [] pos) (tMake C sp dvs E tNil):=by
 intro pins s σ H Q I h
 refine wpAny_Call_Name_kw (ld_glob I hg hm ?_ hdb)
 exact PySem.W.callWith_K0 I.kIn M.kp (run_make (us:= []) M F hr hb hd hx I .nil h)
end
section
variable {X:Cx} {CX:CXT} {k:Nat} {f C:Addr} {fd:FuncData} {ps ks:List Str} {sp:Sp} {E:XK} {x m:Str} {p pos apos kpos:Pos} {e o:Expr} {es:List Expr} {kws:List Keyword} {te ta:TE} {t tk:TA} {nm:Option Str}
variable {g:List Value→List Value→List Value} {gV:List V→List V→List V}
end
structure FnScope (N P:List Str) (sc:Scope):Prop where
 kind:sc.kind= .function
 co:sc.isCoroutine=false
 gen:sc.isGenerator=false
 nd:N.Nodup
 pre:N.take P.length=P
 par:∀x∈P,sc.names.lookup x=some .local∨sc.names.lookup x=some .cell
 nofree:∀y∈sc.names,y.2≠ .free
theorem bindL_out {kindOf:Str→Option NameKind} {x:Str}:∀ {binds:List (Str×Value)} {m:Str→Option Value},(∀v,(x,v)∉binds)→bindL kindOf binds m x=m x
 | [],_,_=>rfl
 |(n,v)::r,m,h=>by
  unfold bindL
  rw [bindL_out fun w hw=>h w (List.mem_cons_of_mem _ hw)]
  split
  · have:x≠n:=by rintro rfl;exact h v List.mem_cons_self
    simp [this]
  · rfl
theorem bindC_out {kindOf:Str→Option NameKind} {x:Str}:∀ {binds:List (Str×Value)} {m:Str→Option Value},(∀v,(x,v)∉binds)→bindC kindOf binds m x=m x
 | [],_,_=>rfl
 |(n,v)::r,m,h=>by
  unfold bindC
  rw [bindC_out fun w hw=>h w (List.mem_cons_of_mem _ hw)]
  split
  · rfl
  · have:x≠n:=by rintro rfl;exact h v List.mem_cons_self
    simp [this]
theorem bindL_get {kindOf:Str→Option NameKind} {x:Str} {v:Value}:∀ {P:List Str} {vs:List Value} {i:Nat} {m:Str→Option Value},P.Nodup→P[i]?=some x→vs[i]?=some v→kindOf x=some .local→
 bindL kindOf (P.zip vs) m x=some v
 | [],_,_,_,_,h,_,_=>by simp at h
 |_::_,[],_,_,_,_,h,_=>by simp at h
 |p::P,w::vs,0,m,nd,h1,h2,hk=>by
  simp at h1 h2;subst h1;subst h2
  show bindL kindOf ((p,w)::P.zip vs) m p=_
  unfold bindL
  rw [bindL_out fun v hv=>(List.nodup_cons.mp nd).1 (List.of_mem_zip hv).1,if_pos hk]
  simp
 |p::P,w::vs,i+1,m,nd,h1,h2,hk=>by
  show bindL kindOf ((p,w)::P.zip vs) m x=_
  unfold bindL
  exact bindL_get (i:=i) (List.nodup_cons.mp nd).2 (by simpa using h1) (by simpa using h2) hk
theorem bindC_get {kindOf:Str→Option NameKind} {x:Str} {v:Value}:∀ {P:List Str} {vs:List Value} {i:Nat} {m:Str→Option Value},P.Nodup→P[i]?=some x→vs[i]?=some v→kindOf x≠some .local→
 bindC kindOf (P.zip vs) m x=some v
 | [],_,_,_,_,h,_,_=>by simp at h
 |_::_,[],_,_,_,_,h,_=>by simp at h
 |p::P,w::vs,0,m,nd,h1,h2,hk=>by
  simp at h1 h2;subst h1;subst h2
  show bindC kindOf ((p,w)::P.zip vs) m p=_
  unfold bindC
  rw [bindC_out fun v hv=>(List.nodup_cons.mp nd).1 (List.of_mem_zip hv).1,if_neg hk]
  simp
 |p::P,w::vs,i+1,m,nd,h1,h2,hk=>by
  show bindC kindOf ((p,w)::P.zip vs) m x=_
  unfold bindC
  exact bindC_get (i:=i) (List.nodup_cons.mp nd).2 (by simpa using h1) (by simpa using h2) hk
noncomputable def start (N:List Str) (vs:List V):St:=vs.map some++List.replicate (N.length - vs.length) none
noncomputable def cxOf (CX:CXT) (P:Program) (w:World) (K:PySem.W.Frag) (mg:Str→Option Value) (base:Heap) (N:List Str) (qual:Str) (scope:Scope) (f:Addr) (cd:Value) (A:Around) (outer:List Env) (s:Shared) (H:Hp) (E:XK):Cx where
 prog:=P
 w:=w
 K:=K
 mg:=mg
 base:=base
 A:=A.deeper (envOfC qual scope s.heap.objs.size f cd)
 N:=N
 s₀:=s
 H₀:=H
 env:=envOfC qual scope s.heap.objs.size f cd
 outer:=outer
 stack:=envOfC qual scope s.heap.objs.size f cd::outer
 ex:= []
 calm:=true
 fn:=fun _=>true
 pn:= []
 xe:=fun e s'=>wpAny (model P w) (A.deeper (envOfC qual scope s.heap.objs.size f cd)) (leaving (envOfC qual scope s.heap.objs.size f cd) e) (fun _ s''=>CX outer H s E e s'') (fun e' s''=>CX outer H s E e' s'') s'
theorem cell_has {sc:Scope} {n:Nat} {x:Str} (h:sc.names.lookup x=some .cell):∃c,(cellsFrom n sc.names []).lookup x=some c:=by
 have q:=PySem.W.cellsFrom_some sc.names n [] (.inl h)
 exact Option.isSome_iff_exists.mp q
theorem inv_start {CX:CXT} {P:Program} {w:World} {K:PySem.W.Frag} {mg:Str→Option Value} {base:Heap} {N ps:List Str} {qual:Str} {scope:Scope} {f:Addr} {cd:Value} {A:Around} {outer:List Env} {s s1:Shared} {H:Hp} {E:XK} {us:List Value} {vs:List V}
 (S:FnScope N ps scope) (hd:A.handled=none) (e0:Env0 P w K mg base A outer s H) (hl:vs.length=ps.length) (r:Vals vs us)
 (x:InCallC s s.heap.objs.size (bindL (envOfC qual scope s.heap.objs.size f cd).kindOf (ps.zip us) fun _=>none) (cellsFrom (s.heap.objs.size+1) scope.names []) (bindC (envOfC qual scope s.heap.objs.size f cd).kindOf (ps.zip us) fun _=>none) s1):
 Inv (cxOf CX P w K mg base N qual scope f cd A outer s H E) [] (start N vs) H s1:=by
 have hpl:ps.length≤N.length:=by have:=congrArg List.length S.pre;rw [List.length_take] at this;omega
 obtain ⟨h1,tk,rfl,hk⟩:=x.done
 have noA:∀b:Addr,b∉(cxOf CX P w K mg base N qual scope f cd A outer s H E).ex:=fun b z=>absurd (show b∈([]:List Addr) from z) (by simp)
 refine ⟨⟨e0.mod,S.kind,rfl,rfl,Nat.le_refl _,fun y z c h1 h2=> ?_,fun y hy=> ?_,fun y c _ h=> ?_,fun _=>hd,Around.frames_deeper e0.frames, .inr ⟨rfl,rfl⟩,fun b z=>absurd z (noA b),e0.bs,e0.bsz,fun b _ _=>noA b,fun b z=>absurd z (noA b),e0.funs,e0.frf⟩,
  rfl,e0.bare,Un.kept hk,⟨_,x.toInCall.ns,fun i y v h1 h2 h3=> ?_⟩,fun y c h=>⟨_,x.cell y c h⟩,e0.hok.fresh (Nat.le_refl _),fun y c h=> ?_,fun p hp=>absurd (show p∈([]:List (Addr×Obj)) from hp) (by simp),e0.hok.kept hk,?_⟩
 · exact name_of_addr x.apart (PySem.mem_of_lookup h1) (PySem.mem_of_lookup h2)
 · have hy:scope.names.lookup y=some .cell∨scope.names.lookup y=some .free:=hy
   rcases hy with hy|hy
   · exact cell_has hy
   · exact absurd rfl (S.nofree _ (PySem.mem_of_lookup hy))
 · exact Nat.le_of_lt (x.above y c (PySem.mem_of_lookup h))
 · have hi:i < vs.length:=by
    unfold start at h2
    by_cases hi:i < vs.length
    · exact hi
    · rw [List.getElem?_append_right (by simpa using hi)] at h2
      rw [List.getElem?_replicate] at h2
      split at h2<;>cases h2
   have ha:vs[i]?=some v:=by
    unfold start at h2
    rw [List.getElem?_append_left (by simpa using hi),List.getElem?_map] at h2
    cases e:vs[i]? with
    |none=>rw [e] at h2;cases h2
    |some a=>rw [e] at h2;cases h2;rfl
   obtain ⟨u,hu,rv⟩:=r.get ha
   have hp:ps[i]?=some y:=by
    rw [←S.pre,List.getElem?_take_of_lt (by omega)];exact h1
   have ndP:ps.Nodup:=by rw [←S.pre];exact S.nd.sublist (List.take_sublist _ _)
   refine ⟨u,rv,?_⟩
   rcases S.par y (List.mem_of_getElem? hp) with k|k
   · exact .inl ⟨k,bindL_get ndP hp hu k⟩
   · obtain ⟨c,e⟩:=cell_has (n:=s.heap.objs.size+1) k
     refine .inr ⟨.inl k,c,e,?_⟩
     have q:=x.cell y c e
     rw [bindC_get ndP hp hu (by show scope.names.lookup y≠_;rw [k];decide)] at q
     exact q
 · exact e0.hok.fresh (Nat.le_of_lt (x.above y c (PySem.mem_of_lookup h)))
 · unfold start
   show _=N.length
   rw [List.length_append,List.length_map,List.length_replicate]
   omega
theorem fn_of {CX:CXT} {P:Program} {w:World} {K:PySem.W.Frag} {mg:Str→Option Value} {base:Heap} {k:Nat} {f:Addr} {name qual:Str} {params:Arguments} {body:List Stmt} {scope:Scope} {dV kV doc pm cdv ct oc:Value} {an od:Option Addr}
 {osl:Array (Option Value)} {N ps:List Str} {sp:Sp} (lk:K.lookup f=some ⟨oc,od, .func (PySem.W.fnOf name qual params body scope dV kV doc pm an cdv ct),osl⟩) (hcd:PySem.W.codeIn K cdv qual=true) (S:FnScope N ps scope)
 (len:∀vs H Q E,sp vs H Q E→vs.length=ps.length)
 (hbody:∀(A:Around) (outer:List Env) (s:Shared) (H:Hp) (vs:List V) (Q:VK) (E:XK),Room k (A.deeper (envOfC qual scope s.heap.objs.size f cdv))→sp vs H Q E→
  ∃t,PSs (cxOf CX P w K mg base N qual scope f cdv A outer s H E) body t∧t {nx:=fun _ H'=>Q .non H',rt:=Q} (start N vs) H):
 FnOk P w K mg base CX (k+1) f (PySem.W.fnOf name qual params body scope dV kV doc pm an cdv ct) ps sp:=by
 refine ⟨len,fun A outer s H args us vs Q E hr e0 hb r hsp=> ?_⟩
 have hl:=len _ _ _ _ hsp
 have KX:K.In s.heap:=e0.mod.kin.keeps fun b o e=>(e0.bs b o e).1
 have lim:s.heap.NoLimit:=e0.mod.nolimit.keeps fun b o e=>(e0.bs b o e).1
 have hkind:∀y∈ps.zip us,scope.names.lookup y.1=some .local∨(scope.names.lookup y.1=some .cell∧((cellsFrom (s.heap.objs.size+1) scope.names []).lookup y.1).isSome=true):=fun ⟨n,v⟩ hy=>by
  rcases S.par n (List.of_mem_zip hy).1 with q|q
  · exact .inl q
  · exact .inr ⟨q,PySem.W.cellsFrom_some _ _ _ (.inl q)⟩
 refine codeAny_call_function hr.depth (KX _ _ lk) rfl S.co S.gen rfl (PySem.W.codeRec_of KX hcd) (hb _ _ _ _ ?_)
 refine wpAny_newFunctionEnv_cells S.kind hkind fun env he s1 x=> ?_
 subst he
 refine ⟨lim.keeps x.toInCall.keep,codeAny_func ?_⟩
 obtain ⟨t,ht,hq⟩:=hbody A outer s H vs Q E (hr.deeper _) hsp
 have I:Inv (cxOf CX P w K mg base N qual scope f cdv A outer s H E) [] (start N vs) H s1:=inv_start S hr.hd e0 hl r x
 refine wpAny_mono (ht [] s1 (start N vs) H _ I hq) (fun fl s' hs=> ?_) fun e s' hs=>hs
 have fin:∀ {σ':St} {H':Hp} {v:V} {u:Value},Inv (cxOf CX P w K mg base N qual scope f cdv A outer s H E) [] σ' H' s'→RelV v u→Q v H'→CE outer P w H s Q u s':=
  fun {σ' H' v u} J rv q=>⟨v,H',J.os,J.bare,J.base,J.hok,rv,q⟩
 cases fl with
 |ret u=>
  obtain ⟨v,σ',H',J,rv,q⟩:=hs
  exact fin J rv q
 |next=>
  obtain ⟨σ',H',J,q⟩:=hs
  exact fin (v:=V.non) (u:=Value.none) J rfl q
 |brk=>
  obtain ⟨_,_,_,q⟩:=hs
  exact False.elim q
 |cont=>
  obtain ⟨_,_,_,q⟩:=hs
  exact False.elim q
open PySem PySem.Spec PyProof.Rows
section
variable {X:Cx} {x:Str} {p pos:Pos} {e:Expr} {es:List Expr} {t:TA} {id T:String} {r:List V→Hp→VK→Prop}
def tCB (r:List V→Hp→VK→Prop) (t:TA):TE:=fun σ H Q=>t σ H fun vs H1=>r vs H1 Q
theorem pe_callB (hc:CallR X (.builtin id) r) (hg:Gl X x) (hm:X.mg x=none) (hv:bootBuiltins x=some (.builtin id)) (ha:PA X (e::es) t) (hn:x≠"__name__":=by decide) (hdb:(x==("__debug__":Str))=false:=by decide)
 (he:starEach (e::es) X.env=(false,eval e X.env)::starEach es X.env:=by rfl) (hpl:(backTo pos (starEach es X.env)).any (·.1)=false:=by rfl):PE X (.Call (.Name x p) (e::es) [] pos) (tCB r t):=by
 intro pins s σ H Q I h
 refine wpAny_Call_Name_kw (ld_blt I hg hm hv ?_ hn hdb)
 exact PyProof.Rows.callWith_builtin1 (thn (ha pos pins s σ H _ I h) fun us s1 ⟨vs,H1,I1,r1,q1⟩=>hc pins s1 σ H1 vs us Q I1 r1 q1) he hpl
theorem pe_callTy (hc:CallR X (.type T) r) (hg:Gl X x) (hm:X.mg x=none) (hv:bootBuiltins x=some (.type T)) (ha:PA X (e::es) t) (hn:x≠"__name__":=by decide) (hdb:(x==("__debug__":Str))=false:=by decide)
 (he:starEach (e::es) X.env=(false,eval e X.env)::starEach es X.env:=by rfl) (hpl:(backTo pos (starEach es X.env)).any (·.1)=false:=by rfl):PE X (.Call (.Name x p) (e::es) [] pos) (tCB r t):=by
 intro pins s σ H Q I h
 refine wpAny_Call_Name_kw (ld_blt I hg hm hv ?_ hn hdb)
 exact PyProof.Rows.callWith_type1 (thn (ha pos pins s σ H _ I h) fun us s1 ⟨vs,H1,I1,r1,q1⟩=>hc pins s1 σ H1 vs us Q I1 r1 q1) he hpl
end
end L2
namespace HT
open PySem PyProof.Rows
section
open PySem.SeqAt
open PySem.AutoSeq1 (wpAny_loadPart')
open PySem.MeetsSeq PySem.MeetsSeq2 PySem.MeetsSeq3
end
section
variable {prog:Program} {w:World} {A:Around} {E:Value→Shared→Prop} {s:Shared}
noncomputable def sIx (n d:Nat):Option Int→Nat
 |none=>d
 |some v=>if v < 0 then (v+(n:Int)).toNat else min v.toNat n
theorem sIx_none (n d:Nat):sIx n d none=d:=rfl
theorem sIx_nat (n d k:Nat):sIx n d (some (k:Int))=min k n:=by
 show (if (k:Int) < 0 then ((k:Int)+(n:Int)).toNat else min (k:Int).toNat n)=min k n
 rw [if_neg (by omega),Int.toNat_natCast]
theorem sIx_le (n d:Nat) (hd:d≤n) (o:Option Int):sIx n d o≤n:=by
 cases o with
 |none=>exact hd
 |some v=>
  show (if v < 0 then (v+(n:Int)).toNat else min v.toNat n)≤n
  by_cases hv:v < 0
  · rw [if_pos hv];omega
  · rw [if_neg hv];exact Nat.min_le_right _ _
theorem clip_eq (v:Int) (n d:Nat):(if v < 0 then max (v+(n:Int)) 0 else min v (n:Int))=((sIx n d (some v):Nat):Int):=by
 show (if v < 0 then max (v+(n:Int)) 0 else min v (n:Int))=(((if v < 0 then (v+(n:Int)).toNat else min v.toNat n):Nat):Int)
 by_cases hv:v < 0
 · simp only [if_pos hv];omega
 · simp only [if_neg hv];omega
theorem adjust_gen (lo hi:Option Int) (n:Nat):Builtin.Slice.sliceAdjust lo hi 1 (n:Int)=(((sIx n 0 lo:Nat):Int),((sIx n n hi:Nat):Int)):=by
 have h1:¬((1:Int) < 0):=by omega
 unfold Builtin.Slice.sliceAdjust
 simp only [h1,if_false]
 refine Prod.ext ?_ ?_
 · cases lo with
   |none=>rfl
   |some v=>exact clip_eq v n 0
 · cases hi with
   |none=>rfl
   |some v=>exact clip_eq v n n
theorem places_gen (i j:Nat):Builtin.Slice.slicePlaces (i:Int) (j:Int) 1=j - i:=by
 unfold Builtin.Slice.slicePlaces
 have h1:(1:Int) > 0:=by omega
 simp only [h1,if_true,Int.ediv_one]
 split<;>omega
theorem slicePart_ {v:Value} {o:Option Int} {Q:Option Int→Shared→Prop} (p:IsPart v o) (h:Q o s):wpAny (model prog w) A (Builtin.Slice.slicePartIndex v) Q E s:=by
 cases p with
 |none=>exact slicePart_none h
 |int i t=>exact slicePart_int h
theorem sliceApplied_gen {sl:Addr} {vl vu:Value} {lo hi:Option Int} {n:Nat} {Q:Int×Int×Nat→Shared→Prop} (hs:s.heap.IsSliceOf sl vl vu .none) (pl:IsPart vl lo) (pu:IsPart vu hi)
 (h:Q (((sIx n 0 lo:Nat):Int),1,sIx n n hi - sIx n 0 lo) s):wpAny (model prog w) A (Builtin.Slice.sliceApplied (.ref sl) (pure (n:Int))) Q E s:=by
 obtain ⟨os,hos,hcs,hds⟩:=id hs
 unfold Builtin.Slice.sliceApplied Builtin.Slice.sliceFields
 refine wpAny_bind (wpAny_bind (wpAny_field hos hds (x:=vl) rfl (wpAny_bind (wpAny_field hos hds (x:=vu) rfl (wpAny_bind (wpAny_field hos hds (x:= .none) rfl (wpAny_pure ?_)))))))
 refine wpAny_bind (slicePart_none ?_)
 show wpAny _ _ (if ((1:Int)==0)=true then _ else _) _ _ s
 rw [if_neg (by decide)]
 refine wpAny_bind (slicePart_ pl (wpAny_bind (slicePart_ pu (wpAny_bind (wpAny_pure ?_)))))
 show wpAny _ _ (match Builtin.Slice.sliceAdjust lo hi 1 (n:Int) with|(lo,hi)=>pure (lo,(1:Int),Builtin.Slice.slicePlaces lo hi 1)) _ _ s
 rw [adjust_gen lo hi n]
 show wpAny _ _ (pure (((sIx n 0 lo:Nat):Int),(1:Int),Builtin.Slice.slicePlaces ((sIx n 0 lo:Nat):Int) ((sIx n n hi:Nat):Int) 1)) _ _ s
 rw [places_gen]
 exact wpAny_pure h
theorem pick_gen (xs:Array Value) (i k:Nat):((List.range k).filterMap fun (m:Nat)=>xs[((i:Int)+(m:Int)*1).toNat]?).toArray=((xs.toList.drop i).take k).toArray:=by
 have e:(fun (m:Nat)=>xs[((i:Int)+(m:Int)*1).toNat]?)=fun m=>xs[i+m]?:=by
  funext m
  have:((i:Int)+(m:Int)*1).toNat=i+m:=by omega
  rw [this]
 rw [e]
 have:=pick_run xs i k
 rw [List.filterMap_map] at this
 have e2:((fun x=>xs[x]?) ∘ fun x=>i+x)=fun m=>xs[i+m]?:=rfl
 rw [e2] at this
 rw [this]
theorem getItem_tuple_cut {t sl:Addr} {items:Array Value} {vl vu:Value} {lo hi:Option Int} {Q:Value→Shared→Prop} (ht:IsTup s.heap t items) (hs:s.heap.IsSliceOf sl vl vu .none) (pl:IsPart vl lo) (pu:IsPart vu hi)
 (hw:¬(sIx items.size 0 lo=0∧sIx items.size items.size hi=items.size))
 (h:Q (.ref s.heap.objs.size) {s with heap:=s.heap.push {cls:= .type "tuple",data:= .seq ((items.toList.drop (sIx items.size 0 lo)).take (sIx items.size items.size hi - sIx items.size 0 lo)).toArray}})
 (hsz:items.size≤sizeLine):wpAny (model prog w) A (getItem (.ref t) (.ref sl)) Q E s:=by
 have htake:sizeOk (.seq ((items.toList.drop (sIx items.size 0 lo)).take (sIx items.size items.size hi - sIx items.size 0 lo)).toArray):=by
  show ((items.toList.drop (sIx items.size 0 lo)).take (sIx items.size items.size hi - sIx items.size 0 lo)).toArray.size≤sizeLine
  rw [List.size_toArray,List.length_take,List.length_drop,Array.length_toList]
  omega
 have hj:sIx items.size items.size hi≤items.size:=sIx_le _ _ (Nat.le_refl _) hi
 obtain ⟨os,hos,hcs,hds⟩:=id hs
 have hTs:s.TypeIs (.ref sl) "slice":=⟨os,hos,hcs⟩
 unfold getItem
 try with_reducible refine wpAny_holding ?_
 first|refine wpAny_bind (wpAny_pure ?_)|skip
 refine wpAny_bind (wpAny_sequenceKey ht.typeIs (by decide) ?_)
 refine wpAny_bind (wpAny_callSpecial?_slot (name:=Str.ofString "__getitem__") ht.typeIs PyProof.Rows.slot_tuple_getitem
  (wpAny_call_entry PyProof.Rows.slot_tuple_getitem ht.typeIs entry_tuple_getitem ?_ (args_tuple_getitem _ _)))
 show wpAny _ _ (Builtin.Tuple.tupleItemsOf (.ref t) >>=_) _ _ s
 refine wpAny_bind (tupleItemsOf_ ht ?_)
 refine wpAny_bind (wpAny_typeOf hTs ?_)
 rw [if_pos (by decide)]
 refine wpAny_bind (sliceApplied_gen hs pl pu ?_)
 have hno:¬((((sIx items.size 0 lo:Nat):Int)==0&& (1:Int)==1&& (sIx items.size items.size hi - sIx items.size 0 lo)==items.size)=true):=by
  intro q
  rw [Bool.and_eq_true,Bool.and_eq_true] at q
  have q1:((sIx items.size 0 lo:Nat):Int)=0:=eq_of_beq q.1.1
  have q2:sIx items.size items.size hi - sIx items.size 0 lo=items.size:=eq_of_beq q.2
  exact hw ⟨by omega,by omega⟩
 show wpAny _ _ (if (((sIx items.size 0 lo:Nat):Int)==0&& (1:Int)==1&& (sIx items.size items.size hi - sIx items.size 0 lo)==items.size)=true then _ else _) _ _ s
 rw [if_neg hno,pick_gen]
 first
  |exact wpAny_bind (m:=Builtin.Tuple.tupleExact _) (wpAny_newObj_type (wpAny_pure ⟨_,rfl,wpAny_pure h⟩) htake)
  |exact wpAny_bind (m:=Builtin.Tuple.tupleExact _) (wpAny_newObj_type (wpAny_bind (wpAny_pure (wpAny_pure ⟨_,rfl,wpAny_pure h⟩))) htake)
  |exact wpAny_bind (wpAny_bind (m:=Builtin.Tuple.tupleExact _) (wpAny_newObj_type (wpAny_pure (wpAny_pure ⟨_,rfl,wpAny_pure h⟩)) htake))
  |exact wpAny_bind (wpAny_bind (m:=Builtin.Tuple.tupleExact _) (wpAny_newObj_type (wpAny_pure ⟨_,rfl,wpAny_pure h⟩) htake))
end
end HT
namespace L2
open PySem PySem.Spec PyProof.Rows
abbrev TO:=St→Hp→(Option Int→Hp→Prop)→Prop
def PO (X:Cx) (e:Option Expr) (t:TO):Prop:=
 ∀(pins:List (Addr×Obj)) (s:Shared) (σ:St) (H:Hp) (Q:Option Int→Hp→Prop),Inv X pins σ H s→t σ H Q→
  wpAny (model X.prog X.w) X.A (evalPart e X.env) (fun u s'=>∃o H',Inv X pins σ H' s'∧IsPart u o∧Q o H') X.xe s
def tNoPart:TO:=fun _ H Q=>Q none H
def tPart (t:TE):TO:=fun σ H Q=>t σ H fun x H1=>∃i,x= .int i∧Q (some i) H1
theorem intsAre_of {ns:List Int}:∀ {us:List Value},Vals (ns.map V.int) us→IntsAre us ns:=by
 induction ns with
 |nil=>intro us r;rw [List.map_nil] at r;cases r;exact .nil
 |cons n ns ih=>
  intro us r
  rw [List.map_cons] at r
  cases r with
  |cons r1 r2=>
   obtain ⟨t,e⟩:=r1
   subst e
   exact .cons n t (ih r2)
section
variable {X:Cx} {e:Expr} {te:TE} {lo hi:Option Expr} {tl th:TO} {pos p2:Pos}
theorem po_none:PO X none tNoPart:=by
 intro pins s σ H Q I h
 rw [evalPart_none]
 exact wpAny_pure ⟨none,H,I, .none,h⟩
theorem po_some (h:PE X e te):PO X (some e) (tPart te):=by
 intro pins s σ H Q I hw
 rw [evalPart_some]
 refine thn (h pins s σ H _ I hw) fun u s1 ⟨x,H1,I1,r1,q1⟩=> ?_
 obtain ⟨i,rfl,q⟩:=q1
 obtain ⟨t,rfl⟩:=r1
 exact ⟨some i,H1,I1, .int i t,q⟩
def SlR (X:Cx) (r:V→Option Int→Option Int→Hp→VK→Prop):Prop:=
 ∀(pins:List (Addr×Obj)) (s:Shared) (σ:St) (H:Hp) (x:V) (v vl vu:Value) (lo hi:Option Int) (sl:Addr) (Q:VK),Inv X pins σ H s→RelV x v→s.heap.IsSliceOf sl vl vu .none→IsPart vl lo→IsPart vu hi→r x lo hi H Q→
  ∃T id,typeLookup (.type T) "__getitem__"=pure (some (.builtin id))∧s.TypeIs v T∧wpAny (model X.prog X.w) X.A (getItem v (.ref sl)) (EP X pins σ Q) X.xe s
theorem SlR.or {r r':V→Option Int→Option Int→Hp→VK→Prop} (h:SlR X r) (h':SlR X r'):SlR X (fun x lo hi H Q=>r x lo hi H Q∨r' x lo hi H Q):=by
 intro pins s σ H x v vl vu lo hi sl Q I rx hs pl pu q
 rcases q with q|q
 · exact h pins s σ H x v vl vu lo hi sl Q I rx hs pl pu q
 · exact h' pins s σ H x v vl vu lo hi sl Q I rx hs pl pu q
def tSl (r:V→Option Int→Option Int→Hp→VK→Prop) (te:TE) (tl th:TO):TE:=fun σ H Q=>te σ H fun x H1=>tl σ H1 fun l H2=>th σ H2 fun u H3=>r x l u H3 Q
theorem pe_slice {r:V→Option Int→Option Int→Hp→VK→Prop} (hr:SlR X r) (he:PE X e te) (hl:PO X lo tl) (hu:PO X hi th):PE X (.Subscript e (.Slice lo hi none p2) pos) (tSl r te tl th):=by
 intro pins s σ H Q I h
 refine Subscript_ (thn (he pins s σ H _ I h) fun v s1 ⟨x,H1,I1,r1,q1⟩=> ?_)
 refine wpAny_Slice (thn (hl pins s1 σ H1 _ I1 q1) fun vl s2 ⟨l,H2,I2,pl,q2⟩=>thn (hu pins s2 σ H2 _ I2 q2) fun vu s3 ⟨u,H3,I3,pu,q3⟩=> ?_)
 rw [evalPart_none]
 refine wpAny_pure ?_
 have I4:Inv X pins σ H3 {s3 with heap:=s3.heap.push {cls:= .type "slice",data:= .fields #[vl,vu, .none]}}:=I3.kept (t':=s3.toks) fun b ob q=>Heap.get?_push_of_some _ q
 obtain ⟨T,id,hT,ht,hg⟩:=hr pins {s3 with heap:=s3.heap.push {cls:= .type "slice",data:= .fields #[vl,vu, .none]}} σ H3 x v vl vu l u s3.heap.objs.size Q I4 r1 (Heap.IsSliceOf.new ..) pl pu q3
 show wpAny (model X.prog X.w) X.A (subscriptTail e (.Slice lo hi none p2) v (.ref s3.heap.objs.size)) (EP X pins σ Q) X.xe {s3 with heap:=s3.heap.push {cls:= .type "slice",data:= .fields #[vl,vu, .none]}}
 exact tail_any (ops:= [.ref s3.heap.objs.size,v]) ht hT hg (by with_unfolding_all rfl)
noncomputable def cutV (xs:List V) (lo hi:Option Int):List V:=(xs.drop (HT.sIx xs.length 0 lo)).take (HT.sIx xs.length xs.length hi - HT.sIx xs.length 0 lo)
theorem cutV_length (xs:List V) (lo hi:Option Int):(cutV xs lo hi).length≤xs.length:=by
 unfold cutV
 rw [List.length_take,List.length_drop]
 omega
def rSlT (K:PySem.W.Frag):V→Option Int→Option Int→Hp→VK→Prop:=fun x lo hi H Q=>∃a xs,x= .ref a∧SqT K H a xs∧
 ¬(HT.sIx xs.length 0 lo=0∧HT.sIx xs.length xs.length hi=xs.length)∧∀p,H p=none→Q (.ref p) (upd H p (.tup (cutV xs lo hi)))
theorem sl_tup:SlR X (rSlT X.K):=by
 intro pins s σ H x v vl vu lo hi sl Q I rx hs pl pu h
 obtain ⟨a,xs,rfl,hx,hw,q⟩:=h
 cases rx
 obtain ⟨its,r,ht,hz⟩:=I.tuple hx
 have hlen:its.toArray.size=xs.length:=by rw [List.size_toArray];exact r.length.symm
 refine ⟨"tuple",_,PyProof.Rows.slot_tuple_getitem.lookup,ht.typeIs,?_⟩
 refine HT.getItem_tuple_cut ht hs pl pu (by rw [hlen];exact hw) ?_ (by rw [hlen];exact hz)
 rw [hlen]
 refine ⟨.ref s.heap.objs.size,_,I.laid (t':=s.toks) (o:= .tup (cutV xs lo hi)) (fun b ob q=>Heap.get?_push_of_some _ q) (Nat.le_refl _) ?_,rfl,q _ (I.hok.fresh (Nat.le_refl _))⟩
 exact ⟨Nat.le_trans (cutV_length xs lo hi) hz,_,(r.drop (HT.sIx xs.length 0 lo)).take (HT.sIx xs.length xs.length hi - HT.sIx xs.length 0 lo),IsTup.new _ _⟩
end
open PySem PySem.Spec PyProof.Rows
noncomputable def ixN (n:Nat) (i:Int):Option Nat:=if 0≤i then (if i < n then some i.toNat else none) else if -(n:Int)≤i then some (i+n).toNat else none
noncomputable def atI {α:Type} (xs:List α) (i:Int):Option α:=(ixN xs.length i).bind fun j=>xs[j]?
theorem ixN_seq {n:Nat} {i:Int} {j:Nat} (h:ixN n i=some j):seqIndex? i n=some j∧j < n∧ -(n:Int)≤i∧i < n:=by
 unfold ixN at h
 by_cases h0:0≤i
 · rw [if_pos h0] at h
   by_cases h1:i < n
   · rw [if_pos h1] at h
     have e:i.toNat=j:=Option.some.inj h
     exact ⟨by rw [seqIndex_of h0 h1,e],by omega,by omega,h1⟩
   · rw [if_neg h1] at h;cases h
 · rw [if_neg h0] at h
   by_cases h1:-(n:Int)≤i
   · rw [if_pos h1] at h
     have e:(i+n).toNat=j:=Option.some.inj h
     exact ⟨by rw [seqIndex_neg (by omega) h1,e],by omega,h1,by omega⟩
   · rw [if_neg h1] at h;cases h
theorem atI_get {α:Type} {xs:List α} {i:Int} {v:α} (h:atI xs i=some v):∃j,seqIndex? i xs.length=some j∧xs[j]?=some v∧j < xs.length∧ -(xs.length:Int)≤i∧i < xs.length:=by
 unfold atI at h
 cases e:ixN xs.length i with
 |none=>rw [e] at h;cases h
 |some j=>
  rw [e] at h
  obtain ⟨h1,h2,h3,h4⟩:=ixN_seq e
  exact ⟨j,h1,h,h2,h3,h4⟩
theorem atI_nat {α:Type} {xs:List α} {j:Nat} {v:α} (h:xs[j]?=some v):atI xs (j:Int)=some v:=by
 have hj:j < xs.length:=(List.getElem?_eq_some_iff.mp h).1
 have e:ixN xs.length (j:Int)=some j:=by
  unfold ixN
  rw [if_pos (by omega),if_pos (by omega)];simp
 unfold atI;rw [e];exact h
theorem atI_last {α:Type} (xs:List α) (v:α):atI (xs++ [v]) (-1)=some v:=by
 have hl:(xs++ [v]).length=xs.length+1:=by simp
 have e:ixN (xs++ [v]).length (-1)=some xs.length:=by
  unfold ixN
  rw [hl,if_neg (by decide),if_pos (by omega)]
  congr 1
  omega
 unfold atI
 rw [e]
 show (xs++ [v])[xs.length]?=some v
 simp
def PlainIx (b:Expr):Prop:=∀o i,subscripted b false o i=operate [o,i] (getItem o i)
def IxR (X:Cx) (r:R2):Prop:=
 ∀(value slice:Expr) (pins:List (Addr×Obj)) (s:Shared) (σ:St) (H:Hp) (x y:V) (v u:Value) (Q:VK),Inv X pins σ H s→RelV x v→RelV y u→r x y H Q→
  subscripted slice false v u=operate [v,u] (getItem v u)→wpAny (model X.prog X.w) X.A (subscriptTail value slice v u) (EP X pins σ Q) X.xe s
def MtR (X:Cx) (id:String) (r:V→List V→Hp→VK→Prop):Prop:=
 ∀(pins:List (Addr×Obj)) (s:Shared) (σ:St) (H:Hp) (x:V) (xs:List V) (v:Value) (us:List Value) (Q:VK),Inv X pins σ H s→RelV x v→Vals xs us→r x xs H Q→
  wpAny (model X.prog X.w) X.A (call (.builtin id) (v::us)) (EP X pins σ Q) X.xe s
section
variable {X:Cx} {a b:Expr} {ta tb:TE} {pos:Pos}
theorem IxR.or {r r':R2} (h:IxR X r) (h':IxR X r'):IxR X (fun x y H Q=>r x y H Q∨r' x y H Q):=by
 intro value slice pins s σ H x y v u Q I rx ry q hs
 rcases q with q|q
 · exact h value slice pins s σ H x y v u Q I rx ry q hs
 · exact h' value slice pins s σ H x y v u Q I rx ry q hs
theorem MtR.or {id:String} {r r':V→List V→Hp→VK→Prop} (h:MtR X id r) (h':MtR X id r'):MtR X id (fun x xs H Q=>r x xs H Q∨r' x xs H Q):=by
 intro pins s σ H x xs v us Q I rx rs q
 rcases q with q|q
 · exact h pins s σ H x xs v us Q I rx rs q
 · exact h' pins s σ H x xs v us Q I rx rs q
theorem pe_ix {r:R2} (hr:IxR X r) (ha:PE X a ta) (hb:PE X b tb) (hs:PlainIx b):PE X (.Subscript a b pos) (tOp r ta tb):=by
 intro pins s σ H Q I h
 exact Subscript_ (binT ha hb I h fun v u s2 x y H2 I2 rx ry q=>hr a b pins s2 σ H2 x y v u Q I2 rx ry q (hs _ _))
def rIxL (K:PySem.W.Frag):R2:=fun x y H Q=>∃p xs i v,x= .ref p∧y= .int i∧SqL K H p xs∧atI xs i=some v∧Q v H
def rIxT (K:PySem.W.Frag):R2:=fun x y H Q=>∃p xs i v,x= .ref p∧y= .int i∧SqT K H p xs∧atI xs i=some v∧Q v H
theorem ix_list:IxR X (rIxL X.K):=by
 intro value slice pins s σ H x y v u Q I rx ry h hs
 obtain ⟨p,xs,i,z,rfl,rfl,hq,he,q⟩:=h
 cases rx
 obtain ⟨t,rfl⟩:=ry
 obtain ⟨its,r,pl,hz⟩:=I.list hq
 obtain ⟨j,h1,h2,h3,h4,h5⟩:=atI_get he
 obtain ⟨w,ew,rw'⟩:=r.get h2
 have hl:=r.length
 have hn:=line63
 have fin:EP X pins σ Q w s:=⟨z,H,I,rw',q⟩
 by_cases h0:0≤i
 · have hj:i.toNat=j:=by
    rw [seqIndex_of h0 h5] at h1
    exact Option.some.inj h1
   exact item_listR pl.isList h0 (by omega) (by rw [hj];simpa using ew) fin hs
 · have hj:(i+(its.toArray.size:Int)).toNat=j:=by
    rw [seqIndex_neg (by omega) h4] at h1
    rw [List.size_toArray,←hl]
    exact Option.some.inj h1
   exact subscriptTail_builtinR (x:=w) pl.isList.typeIs slot_list_getitem.lookup
    (wpAny_getItem_list_neg (Q:=fun r s'=>r=w∧EP X pins σ Q r s') pl.isList (by omega) (by rw [List.size_toArray]<;>omega) (by omega) (by rw [hj];simpa using ew) ⟨rfl,fin⟩) hs
theorem ix_tup:IxR X (rIxT X.K):=by
 intro value slice pins s σ H x y v u Q I rx ry h hs
 obtain ⟨p,xs,i,z,rfl,rfl,hq,he,q⟩:=h
 cases rx
 obtain ⟨t,rfl⟩:=ry
 obtain ⟨its,r,pl,hz⟩:=I.tuple hq
 obtain ⟨j,h1,h2,h3,h4,h5⟩:=atI_get he
 obtain ⟨w,ew,rw'⟩:=r.get h2
 have hl:=r.length
 have hn:=line63
 have fin:EP X pins σ Q w s:=⟨z,H,I,rw',q⟩
 exact subscriptTail_builtinR (x:=w) pl.typeIs slot_tuple_getitem.lookup
  (getItem_tuple (j:=j) (Q:=fun r s'=>r=w∧EP X pins σ Q r s') pl (by omega) (by omega) (by rw [List.size_toArray,←hl];exact h1) (by simpa using ew) ⟨rfl,fin⟩) hs
theorem Inv.lst {pins:List (Addr×Obj)} {σ:St} {H:Hp} {s:Shared} {p:Addr} {xs:List V} (I:Inv X pins σ H s) (h:H p=some (.lst xs)):
 ∃(its:List Value) (n:Nat),Vals xs its∧s.heap.get? p=some {cls:= .type "list",data:= .seq its.toArray n}∧xs.length≤sizeLine:=by
 obtain ⟨z,its,n,r,e⟩:=I.hok p _ h
 exact ⟨its,n,r,e,z⟩
theorem call_len_seq:CallR X (.builtin "len") (fun xs H Q=>∃p ys,xs= [.ref p]∧(SqL X.K H p ys∨SqT X.K H p ys)∧Q (.int ys.length) H):=by
 intro pins s σ H xs us Q I r h
 obtain ⟨p,ys,rfl,hq,q⟩:=h
 obtain ⟨u,rfl,rx⟩:=vals1 r
 cases rx
 have hn:=line63
 rcases hq with hq|hq
 · obtain ⟨its,r',pl,hz⟩:=I.list hq
   have hlen:=r'.length
   exact Calls.call_len_list pl.isList (by simp only [List.size_toArray]<;>omega) ⟨.int ys.length,H,I.tok _,⟨s.toks+1,by rw [List.size_toArray,hlen]⟩,q⟩
 · obtain ⟨its,r',pl,hz⟩:=I.tuple hq
   have hlen:=r'.length
   exact len_tuple pl (by simp only [List.size_toArray]<;>omega) ⟨.int ys.length,H,I.tok _,⟨s.toks+1,by rw [List.size_toArray,hlen]⟩,q⟩
theorem call_len_str:CallR X (.builtin "len") (fun xs H Q=>∃z,xs= [.str z]∧z.length≤sizeLine∧Q (.int z.length) H):=by
 intro pins s σ H xs us Q I r h
 obtain ⟨z,rfl,hz,q⟩:=h
 obtain ⟨u,rfl,t,rfl⟩:=vals1 r
 have hn:=line63
 exact len_str (by omega) ⟨.int z.length,H,I.tok _,⟨_,rfl⟩,q⟩
theorem CallR.or {f:Value} {r r':List V→Hp→VK→Prop} (h:CallR X f r) (h':CallR X f r'):CallR X f (fun xs H Q=>r xs H Q∨r' xs H Q):=by
 intro pins s σ H xs us Q I rs q
 rcases q with q|q
 · exact h pins s σ H xs us Q I rs q
 · exact h' pins s σ H xs us Q I rs q
theorem call_list_of:CallR X (.type "list") (fun xs H Q=>∃p ys,xs= [.ref p]∧(SqL X.K H p ys∨SqT X.K H p ys)∧∀l,H l=none→Q (.ref l) (upd H l (.lst ys))):=by
 intro pins s σ H xs us Q I r h
 obtain ⟨p,ys,rfl,hq,q⟩:=h
 obtain ⟨u,rfl,rx⟩:=vals1 r
 cases rx
 have fin:∀(its:List Value),Vals ys its→ys.length≤sizeLine→∀(h':Heap) (c':Nat),(∀b o',s.heap.get? b=some o'→h'.get? b=some o')→
  h'.get? s.heap.objs.size=some {cls:= .type "list",dict:=none,data:= .seq its.toArray c',slots:= #[]}→EP X pins σ Q (.ref s.heap.objs.size) {s with heap:=h'}:=fun its r' hz h' c' kp e=>
  ⟨.ref s.heap.objs.size,_,I.laid (t':=s.toks) kp (Nat.le_refl _) (show ObjOk X.prog X.w _ h' _ (.lst ys) from ⟨hz,its,c',r',e⟩),rfl,q _ (I.hok.fresh (Nat.le_refl _))⟩
 rcases hq with hq|hq
 · obtain ⟨its,r',pl,hz⟩:=I.list hq
   have hlen:=r'.length
   obtain ⟨o,ho,hc,n,hd⟩:=pl.isList
   exact call_list_seq p (.inl rfl) ho hc hd (fun h' c' kp e=>fin its r' hz h' c' kp e) (by simp only [List.size_toArray]<;>omega)
 · obtain ⟨its,r',pl,hz⟩:=I.tuple hq
   have hlen:=r'.length
   obtain ⟨o,ho,hc,n,hd⟩:=pl
   exact call_list_seq p (.inr rfl) ho hc hd (fun h' c' kp e=>fin its r' hz h' c' kp e) (by simp only [List.size_toArray]<;>omega)
theorem call_tuple_of:CallR X (.type "tuple") (fun xs H Q=>∃p ys,xs= [.ref p]∧((SqL X.K H p ys∧∀l,H l=none→Q (.ref l) (upd H l (.tup ys)))∨(SqT X.K H p ys∧Q (.ref p) H))):=by
 intro pins s σ H xs us Q I r h
 obtain ⟨p,ys,rfl,h⟩:=h
 obtain ⟨u,rfl,rx⟩:=vals1 r
 cases rx
 rcases h with ⟨hq,q⟩|⟨hq,q⟩
 · obtain ⟨its,r',pl,hz⟩:=I.list hq
   have hlen:=r'.length
   refine call_tuple_list pl.isList (fun h' kp=> ?_) (by simp only [List.size_toArray]<;>omega)
   have I1:Inv X pins σ H {s with heap:=h'}:=I.kept (t':=s.toks) kp
   have I2:Inv X pins σ (upd H h'.objs.size (.tup ys)) {s with heap:=h'.push {cls:= .type "tuple",data:= .seq its.toArray}}:=
    I1.laid (t':=s.toks) (fun b o e=>Heap.get?_push_of_some _ e) (Nat.le_refl _) (show ObjOk X.prog X.w _ _ _ (.tup ys) from ⟨hz,its,r',IsTup.new _ _⟩)
   exact ⟨.ref h'.objs.size,_,I2,rfl,q _ (I1.hok.fresh (Nat.le_refl _))⟩
 · obtain ⟨its,r',pl,hz⟩:=I.tuple hq
   exact call_tuple_same pl ⟨.ref p,H,I,rfl,q⟩
def tyV (K:PySem.W.Frag) (T:String) (x:V) (H:Hp):Prop:=match x with
 | .str _=>T= "str"
 | .int _=>T= "int"
 | .ref p=>(T= "list"∧∃xs,SqL K H p xs)∨(T= "tuple"∧∃o,K.lookup p=some o∧o.cls= .type "tuple"∧o.dict=none)∨
  (T= "dict"∧((∃kvs,H p=some (.dK kvs))∨∃kvs,H p=some (.dT kvs)))∨(T= "set"∧∃S n,H p=some (.set S n))
 |_=>False
theorem tyV_is {pins:List (Addr×Obj)} {σ:St} {H:Hp} {s:Shared} {T:String} {x:V} {v:Value} (I:Inv X pins σ H s) (r:RelV x v) (ty:tyV X.K T x H):
 s.TypeIs v T∧∀a,v= .ref a→∃ob,s.heap.get? a=some ob∧ob.dict=none:=by
 cases x with
 |str z=>
  obtain ⟨t,rfl⟩:=r
  cases (show T= "str" from ty)
  exact ⟨typeIs_str s z t,fun _ e=>nomatch e⟩
 |int i=>
  obtain ⟨t,rfl⟩:=r
  cases (show T= "int" from ty)
  exact ⟨typeIs_int s i t,fun _ e=>nomatch e⟩
 |ref p=>
  cases r
  rcases ty with ⟨rfl,xs,hq⟩|⟨rfl,o,hk,hc,hd⟩|⟨rfl,hk⟩|⟨rfl,S,n,hk⟩
  · obtain ⟨its,_,pl,_⟩:=I.list hq
    refine ⟨pl.isList.typeIs,fun a e=> ?_⟩
    cases e
    obtain ⟨o,n,e,c,hd,_⟩:=pl
    exact ⟨o,e,hd⟩
  · refine ⟨⟨o,I.kIn p o hk,hc⟩,fun a e=> ?_⟩
    cases e
    exact ⟨o,I.kIn _ o hk,hd⟩
  · have z:∃o,s.heap.get? p=some o∧o.ExactDict:=by
     rcases hk with ⟨kvs,hk⟩|⟨kvs,hk⟩
     · obtain ⟨_,_,_,_,o,_,_,e,ex,_⟩:=I.hok p _ hk
       exact ⟨o,e,ex⟩
     · obtain ⟨_,_,_,_,o,_,_,e,ex,_⟩:=I.hok p _ hk
       exact ⟨o,e,ex⟩
    obtain ⟨o,e,ex⟩:=z
    refine ⟨⟨o,e,ex.1⟩,fun a e2=> ?_⟩
    cases e2
    exact ⟨o,e,ex.2.1⟩
  · obtain ⟨o,_,_,_,e,ex,_⟩:=I.hok p _ hk
    refine ⟨⟨o,e,ex.1⟩,fun a e2=> ?_⟩
    cases e2
    exact ⟨o,e,ex.2.1⟩
 |_=>exact False.elim ty
def tBM0 (K:PySem.W.Frag) (T:String) (r:V→List V→Hp→VK→Prop) (to:TE):TE:=fun σ H Q=>to σ H fun x H1=>tyV K T x H1∧r x [] H1 Q
def tBM (K:PySem.W.Frag) (T:String) (r:V→List V→Hp→VK→Prop) (to:TE) (t:TA):TE:=fun σ H Q=>to σ H fun x H1=>tyV K T x H1∧t σ H1 fun xs H2=>r x xs H2 Q
variable {o e:Expr} {es:List Expr} {to:TE} {t:TA} {name:Str} {apos cpos:Pos} {T id:String} {r:V→List V→Hp→VK→Prop}
theorem pe_bm0 (pa:PlainAttrs T) (slot:Slot T name id) (hty:typeOf (.builtin id)=pure (.type "method_descriptor")) (hm:MtR X id r) (ho:PE X o to)
 (hbase:attributeBase o name X.env (eval o X.env)=eval o X.env:=by rfl) (hline:(apos.endLine==cpos.line)=true:=by rfl):PE X (.Call (.Attribute o name apos) [] [] cpos) (tBM0 X.K T r to):=by
 intro pins s σ H Q I h
 refine wpAny_Call_method0_late hbase hline (thn (ho pins s σ H _ I h) fun v s1 ⟨x,H1,I1,r1,ty,q1⟩=> ?_)
 obtain ⟨h1,h2⟩:=tyV_is I1 r1 ty
 exact ⟨T,id,pa,slot,hty,h1,h2,Calls.callWith_builtin rfl (PySem.evalArgs_none (hm pins s1 σ H1 x [] v [] Q I1 r1 .nil q1))⟩
theorem pe_bm (pa:PlainAttrs T) (slot:Slot T name id) (hty:typeOf (.builtin id)=pure (.type "method_descriptor")) (hm:MtR X id r) (ho:PE X o to) (ha:PA X (e::es) t)
 (hbase:attributeBase o name X.env (eval o X.env)=eval o X.env:=by rfl)
 (hfew:((backTo cpos (starEach (e::es) X.env)).all (fun x=> !x.1)&& (backToKw cpos (keywordEach [] X.env)).all (fun x=>x.1.isSome)
  &&decide ((e::es).length+([]:List Keyword).length+(if ([]:List Keyword).isEmpty then 0 else 1) < 30))=true:=by rfl)
 (hline:(apos.endLine==cpos.line)=true:=by rfl) (hs:starEach (e::es) X.env=(false,eval e X.env)::starEach es X.env:=by rfl) (hplain:(backTo cpos (starEach es X.env)).any (·.1)=false:=by rfl):
 PE X (.Call (.Attribute o name apos) (e::es) [] cpos) (tBM X.K T r to t):=by
 intro pins s σ H Q I h
 refine wpAny_Call_method_late hbase hfew hline rfl (thn (ho pins s σ H _ I h) fun v s1 ⟨x,H1,I1,r1,ty,q1⟩=> ?_)
 obtain ⟨h1,h2⟩:=tyV_is I1 r1 ty
 refine ⟨T,id,pa,slot,hty,h1,h2,?_⟩
 have hA:=ha cpos pins s1 σ H1 _ I1 q1
 rw [hs] at hA ⊢
 refine Calls.callWith_builtin (by show (false ||(backTo cpos (starEach es X.env)).any (·.1))=false;rw [hplain]<;>rfl) (Calls.evalArgs_plain ?_)
 exact thn hA fun us s2 ⟨vs,H2,I2,r2,q2⟩=>hm pins s2 σ H2 x vs v us Q I2 r1 r2 q2
end
open PySem PySem.Spec PyProof.Rows
def MtM (X:Cx) (id:String) (r:V→List V→Hp→VK→Prop):Prop:=
 ∀(pins:List (Addr×Obj)) (s:Shared) (σ:St) (H:Hp) (x:V) (xs:List V) (v:Value) (us:List Value) (Q:VK),Inv X pins σ H s→RelV x v→Vals xs us→r x xs H Q→
  wpAny (model X.prog X.w) X.A (call (.builtin id) (v::us)) (EP X pins σ Q) X.xe s
theorem Vals.one:∀ {x:V} {us:List Value},Vals [x] us→∃u,us= [u]∧RelV x u
 |_,_, .cons r .nil=>⟨_,rfl,r⟩
theorem Vals.two {x y:V} {us:List Value} (h:Vals [x,y] us):∃u v,us= [u,v]∧RelV x u∧RelV y v:=by
 cases h with
 |cons r t=>cases t with
  |cons q t'=>cases t';exact ⟨_,_,rfl,r,q⟩
theorem Vals.zero:∀ {us:List Value},Vals [] us→us= []
 |_, .nil=>rfl
theorem Vals.dropLast {xs:List V} {us:List Value} (h:Vals xs us):Vals xs.dropLast us.dropLast:=by
 induction h with
 |nil=>exact .nil
 |cons r t ih=>
  cases t with
  |nil=>exact .nil
  |cons q t'=>exact .cons r ih
theorem Vals.eraseIdx:∀ {xs:List V} {us:List Value} (i:Nat),Vals xs us→Vals (xs.eraseIdx i) (us.eraseIdx i)
 |_,_,_, .nil=> .nil
 |_,_,0, .cons _ t=>t
 |_,_,i+1, .cons r t=> .cons r (Vals.eraseIdx i t)
theorem Vals.reverse {xs:List V} {us:List Value} (h:Vals xs us):Vals xs.reverse us.reverse:=by
 induction h with
 |nil=>exact .nil
 |cons r t ih=>rw [List.reverse_cons,List.reverse_cons];exact Vals.append ih (.cons r .nil)
theorem erase_last {α:Type} (l:List α):l.eraseIdx (l.length - 1)=l.dropLast:=by
 induction l with
 |nil=>rfl
 |cons a r ih=>
  cases r with
  |nil=>rfl
  |cons b r=>
   have e:(a::b::r).length - 1=((b::r).length - 1)+1:=by
    have h1:(a::b::r).length=r.length+2:=rfl
    have h2:(b::r).length=r.length+1:=rfl
    omega
   rw [e,List.eraseIdx_cons_succ,ih]
   all_goals rfl
section
variable {X:Cx} {pins:List (Addr×Obj)} {σ:St} {H:Hp} {s:Shared} {l b:Addr} {xs ys zs:List V}
theorem Inv.lset {its its':List Value} {n:Nat} {f:Array Value→Array Value} {t':Nat} (I:Inv X pins σ H s) (hH:H l=some (.lst xs))
 (e:s.heap.get? l=some {cls:= .type "list",data:= .seq its.toArray n}) (hf:f its.toArray=its'.toArray) (hv:Vals ys its') (hz:ys.length≤sizeLine):
 Inv X pins σ (upd H l (.lst ys)) {s with heap:=s.heap.update l (Obj.mapSeq f),toks:=t'}:=by
 have q:=PySem.IsL.update e f
 rw [hf] at q
 refine I.write (x:=l) (e:=l) (by rw [hH];exact trivial) (.inl rfl) (fun b' u hb hu=>(Heap.get?_update_other s.heap (Obj.mapSeq f) (Ne.symm hb)).trans hu) ⟨_,q⟩ ?_
 exact ⟨hz,its',_,hv,q⟩
theorem Inv.lnew {its:List Value} {t':Nat} (I:Inv X pins σ H s) (hv:Vals ys its) (hz:ys.length≤sizeLine):
 Inv X pins σ (upd H s.heap.objs.size (.lst ys)) {s with heap:=s.heap.push {cls:= .type "list",data:= .seq its.toArray},toks:=t'}:=
 I.laid (fun _ _ q=>Heap.get?_push_of_some _ q) (Nat.le_refl _) ⟨hz,its,0,hv,Heap.get?_push_size _ rfl⟩
theorem Inv.fresh (I:Inv X pins σ H s):H s.heap.objs.size=none:=I.hok.fresh (Nat.le_refl _)
theorem Inv.lstM (I:Inv X pins σ H s) (hH:H l=some (.lst xs)):xs.length≤sizeLine∧∃(its:List Value) (n:Nat),Vals xs its∧xs.length=its.length∧s.heap.get? l=some {cls:= .type "list",data:= .seq its.toArray n}:=by
 obtain ⟨z,its,n,r,e⟩:=I.hok l _ hH
 exact ⟨z,its,n,r,r.length,e⟩
end
section
variable {X:Cx}
def rAppend:V→List V→Hp→VK→Prop:=fun x vs H Q=>∃l xs y,x= .ref l∧vs= [y]∧H l=some (.lst xs)∧xs.length < sizeLine∧Q .non (upd H l (.lst (xs++ [y])))
theorem mt_append:MtM X "list.append" rAppend:=by
 intro pins s σ H x vs v us Q I rx rv h
 obtain ⟨l,xs,y,rfl,rfl,hH,hz,q⟩:=h
 cases rx
 obtain ⟨u,rfl,ru⟩:=rv.one
 obtain ⟨z,its,n,r,hl,e⟩:=I.lstM hH
 refine call_meets F.slot_list_append ⟨_,e,rfl⟩ F.entry_list_append (F.args_list_append_2 _ _) (PySem.list_append l its.toArray n u (by rw [List.size_toArray];omega)) ⟨e,?_⟩
 refine ⟨.non,_,I.lset (its':=its++ [u]) hH e (by simp) (r.append (.cons ru .nil)) ?_,rfl,q⟩
 rw [List.length_append,List.length_singleton]
 omega
def rPop:V→List V→Hp→VK→Prop:=fun x vs H Q=>∃l xs y,x= .ref l∧vs= []∧H l=some (.lst xs)∧xs[xs.length - 1]?=some y∧Q y (upd H l (.lst xs.dropLast))
theorem mt_pop:MtM X "list.pop" rPop:=by
 intro pins s σ H x vs v us Q I rx rv h
 obtain ⟨l,xs,y,rfl,rfl,hH,hy,q⟩:=h
 cases rx
 have hus:=rv.zero
 subst hus
 obtain ⟨z,its,n,r,hl,e⟩:=I.lstM hH
 obtain ⟨u,hu,ru⟩:=r.get hy
 have hy':its.toArray[its.toArray.size - 1]?=some u:=by
  show its.toArray[its.length - 1]?=some u
  rw [←Array.getElem?_toList,←hl]
  exact hu
 refine call_meets F.slot_list_pop ⟨_,e,rfl⟩ F.entry_list_pop (F.args_list_pop_1 _) (MeetsSeq.list_pop_last l its.toArray n u hy' (by rw [List.size_toArray];omega)) ⟨e,?_⟩
 refine ⟨y,_,I.lset (its':=its.dropLast) hH e ?_ r.dropLast ?_,ru,q⟩
 · show its.toArray.eraseIdxIfInBounds (its.toArray.size - 1)=its.dropLast.toArray
   rw [List.size_toArray,List.eraseIdxIfInBounds_toArray,erase_last]
 · rw [List.length_dropLast]
   omega
def rCat:R2:=fun x y H Q=>∃l b xs zs,x= .ref l∧y= .ref b∧H l=some (.lst xs)∧H b=some (.lst zs)∧xs.length+zs.length≤sizeLine∧∀p,H p=none→Q (.ref p) (upd H p (.lst (xs++zs)))
theorem op_cat:OpR X (binaryOp .Add) rCat:=by
 intro pins s σ H x y v u Q I rx ry h
 obtain ⟨l,b,xs,zs,rfl,rfl,hH,hB,hz,q⟩:=h
 cases rx
 cases ry
 obtain ⟨z,its,n,r,hl,e⟩:=I.lstM hH
 obtain ⟨z2,its2,n2,r2,hl2,e2⟩:=I.lstM hB
 refine PySem.P.add_list e e2 ?_ (by rw [List.size_toArray,List.size_toArray];omega)
 have ea:its.toArray++its2.toArray=(its++its2).toArray:=by simp
 rw [ea]
 exact ⟨.ref _,_,I.lnew (t':=s.toks) (r.append r2) (by rw [List.length_append];omega),rfl,q _ I.fresh⟩
end
section
variable {prog:Program} {w:World} {A:Around} {E:Value→Shared→Prop} {s:Shared}
end
section
variable {X:Cx}
end
end L2
namespace Att
open PySem PySem.W PySem.Calls PyProof.Rows
theorem ints_of_wellAll {P:Params} {h:Heap}:∀(ns:List Int) (vs:List Value),WellAll P h vs (ns.map WData.int)→IntsAre vs ns:=by
 intro ns
 induction ns with
 |nil=>
  intro vs w
  rw [List.map_nil] at w
  cases w
  exact .nil
 |cons n ns ih=>
  intro vs w
  rw [List.map_cons] at w
  cases w with
  |cons a b=>
   cases a
   exact .cons _ _ (ih _ b)
theorem script_of {l:OpenLaw} {n:Nat} (hn:l.most=some n) {P:Params} {h:Heap} {args:List WData} {vals:List Value}
 (hpre:l.row.toRowW.claim.pre args=true) (hwl:WellAll P h vals args):
 ∃a vs ns,vals= [Value.ref a]∧args= [WData.list (ns.map WData.int)]∧h.get? a=some {cls:= .type "list",data:= .seq vs.toArray}∧IntsAre vs ns∧ns.length≤n:=by
 have hsh:WShape.hasAll [] args [.list .int]=true:=(pre_splitW hpre).1
 have hc:l.pre.holds [] {args:=args} =true:=(pre_splitW hpre).2
 obtain ⟨d,r,rfl,h1,h2⟩:=hasAllW_cons hsh
 obtain rfl:=hasAllW_nil h2
 obtain ⟨xs,rfl,h3⟩:=hasW_list h1
 obtain ⟨ns,rfl⟩:=items_int h3
 have hlen:ns.length≤n:=by
  unfold OpenLaw.pre at hc
  have h4:(WTm.not (.lt (.lit (.int (n:Int))) (.len (.arg 0)))).holds [] {args:= [.list (ns.map .int)]} =true:=by
   have h4:=(holds_andW hc).1
   rw [hn] at h4
   exact h4
  have h5:=condW_of h4 (w_not (w_lt w_lit (w_len_list (w_arg rfl))))
  rw [List.length_map] at h5
  refine Nat.le_of_not_lt fun q=> ?_
  have q':(n:Int) < ((ns.length:Nat):Int):=by omega
  first
   |(rw [decide_eq_true q'] at h5;exact absurd h5 (by decide))
   |(simp at h5;omega)
 cases hwl with
 |cons w1 w2=>
  cases w2
  cases w1 with
  |list ho hall=>exact ⟨_,_,ns,rfl,rfl,ho,ints_of_wellAll ns _ hall,hlen⟩
theorem post_true (l:OpenLaw) (args:List WData):l.row.toRowW.claim.post args (.bool true) args=true:=
 postW_of (r:=l.row.toRowW) (X:=(true==true))
  (show WShape.has [] (.bool true) .bool=true by first|rfl|decide|simp [WShape.has,WShape.arms,WShape.armsAll])
  (show (WTm.eq .res (.lit (.bool true))).value [] {args:=args,res:=some (.bool true),after:=args} =some (.bool (true==true)) from w_eq_bool (w_res rfl) w_lit) rfl
theorem attach_call {l:OpenLaw} {n:Nat} {q:Program} {loose:List Str} {XP:(Str→Option Value)→Heap→Prop} {YP:World→Heap→Prop} {d:DefRec}
 (hn:l.most=some n) (hdf:d.params.defaults= [])
 (call:∀(w:World) (s₀ s₁:Shared) (mg mb:Str→Option Value) (fa:Addr) (o:Obj) (pm cd doc:Value) (a:Addr) (vs:List Value) (ns:List Int),
  Ground q loose [] XP w s₀ mg mb s₁.heap→YP w s₁.heap→
  s₁.heap.get? fa=some o→o.data= .func (docDef d.name d.params d.body d.scope pm cd doc)→s₁.heap.CodeRec cd d.name→mg d.name=some (.ref fa)→
  s₁.heap.get? a=some {cls:= .type "list",data:= .seq vs.toArray}→IntsAre vs ns→ns.length≤n→s₁.gens= #[]→
  codeAny (model l.prog w) callerA (.call (.ref fa) ⟨[.ref a],[]⟩) (fun r s'=>r= .ok (.ret (.bool true))∧OldK s₁.heap s'.heap∧s'.os=s₁.os∧AllBare s'.gens) s₁):
 WalkO q loose XP YP l.row.toRowW d [] (fun f vs=>PySem.call f vs):=by
 intro w s₀ s₁ mg mb G Y fa o pm cd doc dV kV ho hd hcd hD hmg hg args vals as hpre hlay hrd hwl hlo
 obtain rfl:dV= .none:=Dflts.none hD hdf
 obtain rfl:kV= .none:=Dflts.noKw hD
 obtain ⟨a,vs,ns,rfl,rfl,hobj,hints,hlen⟩:=script_of hn hpre hwl
 refine enter_call (codeAny_mono (call w s₀ s₁ mg mb fa o pm cd doc a vs ns G Y ho (fd_plain hd) hcd hmg hobj hints hlen hg) fun r s' hq=> ?_)
 obtain ⟨rfl,h2,h3,h4⟩:=hq
 exact ⟨.inl ⟨.bool true, .bool true,[],rfl,fun _=>rfl, .bool true,post_true l _,fun _=>⟨List.Pairwise.nil,fun _ hm=>(nomatch hm)⟩⟩,h2,h3,h4⟩
section
variable {prog:Program} {w:World} {A:Around} {E:Value→Shared→Prop} {s:Shared} {K:Frag}
end
end Att
namespace L2
open PySem PySem.Spec PyProof.Rows
theorem vals_ints:∀ {vs:List Value} {ns:List Int},IntsAre vs ns→Vals (ns.map V.int) vs
 |_,_, .nil=> .nil
 |_,_, .cons n t h=> .cons ⟨t,rfl⟩ (vals_ints h)
def Only (H:Hp):Prop:=∀b,H b=none∨∃o xs,H b=some (.frz o (.lst xs))
theorem law_call {P:Program} {w:World} {K:PySem.W.Frag} {mg mb:Str→Option Value} {CX:CXT} {k:Nat} {fa a:Addr} {fd:FuncData} {x:Str} {sp:Sp} {s₁:Shared} {vs:List Value} {ns:List Int}
 (KX:K.In s₁.heap) (hns:s₁.heap.Ns mainGlobals mg) (hb:s₁.heap.Ns builtinsNs mb) (hbb:∀x:Str,x≠"__name__"→mb x=bootBuiltins x) (hlim:s₁.heap.NoLimit) (hg:s₁.gens= #[])
 (ha:s₁.heap.get? a=some {cls:= .type "list",data:= .seq vs.toArray}) (hi:IntsAre vs ns) (hl:ns.length≤sizeLine) (hr:Room k callerA)
 (F:∀base:Heap,K.In base→base.Ns mainGlobals mg→FnOk P w K mg base CX k fa fd [x] sp) (hbind:∀(s:Shared) (u:Value),BindsTo s fd ⟨[u],[]⟩ [(x,u)])
 (hsp:∀H:Hp,Only H→SqL K H a (ns.map V.int)→sp [.ref a] H (fun v _=>v= .bl true) fun _ _ _=>False)
 (hCX:∀H e s',CX [] H s₁ (fun _ _ _=>False) e s'→False):
 codeAny (model P w) callerA (.call (.ref fa) ⟨[.ref a],[]⟩) (fun r s'=>r= .ok (.ret (.bool true))∧OldK s₁.heap s'.heap∧s'.os=s₁.os∧AllBare s'.gens) s₁:=by
 have rv:=vals_ints hi
 have lenV:=hi.length
 have core:∀H:Hp,Only H→SqL K H a (ns.map V.int)→HOk P w H s₁.heap→(∀b,H b≠none→b=a)→(H a≠none→K.lookup a=none)→
  codeAny (model P w) callerA (.call (.ref fa) ⟨[.ref a],[]⟩) (fun r s'=>r= .ok (.ret (.bool true))∧OldK s₁.heap s'.heap∧s'.os=s₁.os∧AllBare s'.gens) s₁:=by
  intro H hO hS hok hA hK
  have base_of:∀ {b:Addr} {o:Obj},s₁.heap.get? b=some o→H b=none→(hidT s₁.heap H).get? b=some o:=fun e n=>hidT_get e n
  have noA:∀ {b:Addr} {o:Obj} {es:Array DictEntry} {ep:Nat},s₁.heap.get? b=some o→o.data= .dict es ep→H b=none:=fun {b o es ep} e d=>by
   cases q:H b with
   |none=>rfl
   |some u=>
    have e':b=a:=hA b (by rw [q];simp)
    subst e'
    rw [ha] at e;cases e
    have d':Data.seq vs.toArray _=Data.dict es ep:=d
    cases d'
  have nsK:∀ {b:Addr} {m:Str→Option Value},s₁.heap.Ns b m→(hidT s₁.heap H).Ns b m:=fun {b m} ⟨o,es,ep,e,d,r⟩=>⟨o,es,ep,base_of e (noA e d),d,r⟩
  have hKb:K.In (hidT s₁.heap H):=fun b o e=>base_of (KX b o e) (by
   cases q:H b with
   |none=>rfl
   |some u=>
    have e':b=a:=hA b (by rw [q];simp)
    subst e'
    rw [hK (by rw [q];simp)] at e;cases e)
  have hM:Mod K mg (hidT s₁.heap H):=⟨hKb,nsK hns,⟨mb,nsK hb,hbb⟩,let ⟨mc,h1,h2⟩:=hlim;⟨mc,nsK h1,h2⟩⟩
  have e0:Env0 P w K mg (hidT s₁.heap H) callerA [] s₁ H:=⟨rfl,hM,fun b o e=>of_hidT e,Nat.le_of_eq (hidT_size _ _),trivial,fun b hb=>absurd (show b∈([]:List Addr) from hb) (by simp),hok, .of_eq hg⟩
  refine codeAny_mono ((F _ hKb (nsK hns)).run callerA [] s₁ H ⟨[.ref a],[]⟩ [.ref a] [.ref a] _ _ hr e0 (hbind s₁ (.ref a)) (.cons rfl .nil) (hsp H hO hS)) fun r s' h=> ?_
  cases r with
  |error e=>exact (hCX H e s' h).elim
  |ok fl=>
   cases fl with
   |next=>exact False.elim h
   |brk=>exact False.elim h
   |cont=>exact False.elim h
   |ret u=>
    obtain ⟨v,H',os,bare,un,hok',r',q⟩:=h
    have q':v= .bl true:=q
    subst q'
    obtain rfl:u=Value.bool true:=r'
    refine ⟨rfl,OldK.of_keep fun b o e=> ?_,os,bare⟩
    cases q:H b with
    |none=>exact un.keep b o e q (by intro z;exact absurd (show b∈([]:List Addr) from z) (by simp)) (by simp)
    |some u=>
     rcases hO b with z|⟨ob,xs,z⟩
     · rw [q] at z;cases z
     · have z2:=un.frzs b ob _ z
       obtain ⟨e1,_⟩:=hok b _ z
       obtain ⟨e2,_⟩:=hok' b _ z2
       rw [e] at e1;cases e1
       exact e2
 cases hk:K.lookup a with
 |some o=>
  have e:=KX a o hk
  rw [ha] at e
  cases e
  refine core (fun _=>none) (fun _=> .inl rfl) (.inr ⟨_,vs.toArray,_,hk,rfl,rfl,rfl,by rw [List.size_toArray,lenV];exact hl,by simpa using rv⟩) (fun b u z=>by have z':(none:Option HO)=some u:=z;cases z') (fun b z=>absurd rfl z) fun z=>absurd rfl z
 |none=>
  refine core (fun b=>if b=a then some (.frz {cls:= .type "list",data:= .seq vs.toArray} (.lst (ns.map V.int))) else none) (fun b=> ?_) (.inl (.inr ⟨{cls:= .type "list",data:= .seq vs.toArray},if_pos rfl⟩)) (fun b u z=> ?_) (fun b z=> ?_) fun _=>hk
  · by_cases hb:b=a
    · exact .inr ⟨_,_,if_pos hb⟩
    · exact .inl (if_neg hb)
  · by_cases hb:b=a
    · have z':=(if_pos hb).symm.trans z
      cases z'
      subst hb
      exact ⟨ha,by rw [List.length_map];exact hl,vs,_,rv,ha⟩
    · have z':=(if_neg hb).symm.trans z
      cases z'
  · by_cases hb:b=a
    · exact hb
    · exact absurd (if_neg hb) z
open PySem PySem.Spec PyProof.Rows
theorem walk_of {l:PySem.W.OpenLaw} {n k:Nat} {q:Program} {loose:List Str} {XP:(Str→Option Value)→Heap→Prop} {YP:World→Heap→Prop} {d:DefRec} {K:Params→PySem.W.Frag} {CX:World→CXT} {sp:World→Sp} {x:Str}
 (hn:l.most=some n) (hn2:n≤sizeLine) (hdf:d.params.defaults= []) (hr:Room k callerA)
 (hY:∀(w:World) (h:Heap),YP w h→(K w.params).In h)
 (F:∀(w:World) (mg:Str→Option Value) (fa:Addr) (h:Heap),(K w.params).In h→h.Ns mainGlobals mg→mg d.name=some (.ref fa)→
  ∃fd:FuncData,(∀(s:Shared) (u:Value),BindsTo s fd ⟨[u],[]⟩ [(x,u)])∧
   ∀base:Heap,(K w.params).In base→base.Ns mainGlobals mg→FnOk l.prog w (K w.params) mg base (CX w) k fa fd [x] (sp w))
 (hsp:∀(w:World) (H:Hp) (a:Addr) (ns:List Int),ns.length≤n→Only H→SqL (K w.params) H a (ns.map V.int)→sp w [.ref a] H (fun v _=>v= .bl true) fun _ _ _=>False)
 (hCX:∀(w:World) (H:Hp) (s:Shared) (e:Value) (s':Shared),CX w [] H s (fun _ _ _=>False) e s'→False):
 PySem.W.WalkO q loose XP YP l.row.toRowW d [] (fun f vs=>PySem.call f vs):=by
 refine Att.attach_call hn hdf fun w s₀ s₁ mg mb fa o pm cd doc a vs ns G Y ho hd hcd hmg hobj hints hlen hg=> ?_
 have KX:=hY w _ Y
 obtain ⟨fd,hb,hF⟩:=F w mg fa _ KX G.T.g hmg
 exact law_call KX G.T.g G.T.b G.T.builtins G.T.nolimit hg hobj hints (Nat.le_trans hlen hn2) hr hF hb (fun H hO hS=>hsp w H a ns hlen hO hS) fun H e s'=>hCX w H s₁ e s'
open PySem PySem.Spec PyProof.Rows
noncomputable def inClass (s:Stmt) (j:Nat):Stmt:=match s with
 | .ClassDef _ _ _ body _ _ _ _ _ _ _=>body.getD j (.Pass ⟨0,0,0,0⟩)
 |_=> .Pass ⟨0,0,0,0⟩
noncomputable def defArgs (s:Stmt):Arguments:=match s with
 | .FunctionDef _ a _ _ _ _ _ _ _ _=>a
 |_=> {posonlyargs:= [],args:= [],vararg:=none,kwonlyargs:= [],kw_defaults:= [],kwarg:=none,defaults:= []}
noncomputable def defBody (s:Stmt):List Stmt:=match s with
 | .FunctionDef _ _ b _ _ _ _ _ _ _=>b
 |_=> []
noncomputable def defScope (s:Stmt):Scope:=match s with
 | .FunctionDef _ _ _ _ _ _ sc _ _ _=>sc
 |_=> {kind:= .function,names:= [],isGenerator:=false,isCoroutine:=false}
abbrev CX0:CXT:=fun _ _ _ _ _ _=>False
abbrev E0:XK:=fun _ _ _=>False
theorem pass0 {X:Cx}:Passes CX0 X E0:=fun _ _ _ _ _ _ _ h=>h.elim
structure Fun (K:PySem.W.Frag) (x qual:Str) (st:Stmt) (f:Addr) (fd:FuncData):Prop where
 ex:∃(oc:Value) (od:Option Addr) (kV doc pm:Value) (an:Option Addr) (cdv ct:Value) (osl:Array (Option Value)),
  fd=PySem.W.fnOf x qual (defArgs st) (defBody st) (defScope st) .none kV doc pm an cdv ct∧K.lookup f=some ⟨oc,od, .func fd,osl⟩∧PySem.W.codeIn K cdv qual=true
 kp:PySem.W.keepIn K (.ref f)=true
section
variable {P:Program} {w:World} {K:PySem.W.Frag} {mg:Str→Option Value} {base:Heap}
theorem Fun.ok {x qual:Str} {st:Stmt} {f:Addr} {fd:FuncData} {N ps:List Str} {k:Nat} {sp:Sp} (F:Fun K x qual st f fd) (S:FnScope N ps (defScope st)) (len:∀vs H Q E,sp vs H Q E→vs.length=ps.length)
 (hbody:∀(cdv:Value) (A:Around) (outer:List Env) (s:Shared) (H:Hp) (vs:List V) (Q:VK) (E:XK),Room k (A.deeper (envOfC qual (defScope st) s.heap.objs.size f cdv))→sp vs H Q E→
  ∃t,PSs (cxOf CX0 P w K mg base N qual (defScope st) f cdv A outer s H E).nox (defBody st) t∧t {nx:=fun _ H'=>Q .non H',rt:=Q} (start N vs) H):FnOk P w K mg base CX0 (k+1) f fd ps sp:=by
 obtain ⟨oc,od,kV,doc,pm,an,cdv,ct,osl,rfl,lk,hcd⟩:=F.ex
 refine fn_of lk hcd S len fun A outer s H vs Q E hr hsp=> ?_
 obtain ⟨t,h,q⟩:=hbody cdv A outer s H vs Q E hr hsp
 exact ⟨t,h.nox,q⟩
theorem Fun.binds {x qual:Str} {st:Stmt} {f:Addr} {fd:FuncData} {ps:List Str} (F:Fun K x qual st f fd)
 (h:∀(kV doc pm:Value) (an:Option Addr) (cdv ct:Value) (us:List Value),us.length=ps.length→bindArgs (PySem.W.fnOf x qual (defArgs st) (defBody st) (defScope st) .none kV doc pm an cdv ct) ⟨us,[]⟩=pure (ps.zip us)):Binds K fd ps []:=by
 obtain ⟨oc,od,kV,doc,pm,an,cdv,ct,osl,rfl,lk,hcd⟩:=F.ex
 exact .all (h kV doc pm an cdv ct)
theorem fun_mk {x qual:Str} {st:Stmt} {f:Addr} {oc:Value} {od an:Option Addr} {osl:Array (Option Value)} {kV doc pm cdv ct:Value} (l:K.lookup f=some ⟨oc,od, .func (PySem.W.fnOf x qual (defArgs st) (defBody st) (defScope st) .none kV doc pm an cdv ct),osl⟩)
 (c:PySem.W.codeIn K cdv qual=true) (k:PySem.W.keepIn K (.ref f)=true):Fun K x qual st f (PySem.W.fnOf x qual (defArgs st) (defBody st) (defScope st) .none kV doc pm an cdv ct):=⟨⟨oc,od,kV,doc,pm,an,cdv,ct,osl,rfl,l,c⟩,k⟩
end
theorem hu_of {A:Around} {k:Nat} (hr:Room k A):A.units+1 < cLine:=Nat.lt_of_le_of_lt (Nat.add_le_add_left (by decide:1≤64) _) hr.units
theorem small1000 {n:Nat} (h:n≤1000):n < sizeLine:=Nat.lt_of_le_of_lt h (by decide)
section
variable {X:Cx}
theorem pv (i:Nat) {x:Str} {pos:Pos} (hN:X.N[i]?=some x:=by rfl) (hv:Vis X.env.scope x:=by first|exact Or.inl rfl|exact Or.inr (Or.inl rfl)|exact Or.inr (Or.inr rfl)) (hd:(x==("__debug__":Str))=false:=by decide)
 (hcd:(x==("__classdict__":Str))=false:=by decide):PE X (.Name x pos) (tVar i):=pe_var hN hv hd hcd
end
theorem iteF {A B:Prop} (h:B):if false=true then A else B:=by
 rw [if_neg Bool.false_ne_true]
 exact h
theorem iteT {A B:Prop} (h:A):if true=true then A else B:=by
 rw [if_pos rfl]
 exact h
theorem ite2 {c A B:Prop} [Decidable c] (h1:c→A) (h2:¬c→B):if c then A else B:=by
 by_cases h:c
 · rw [if_pos h]
   exact h1 h
 · rw [if_neg h]
   exact h2 h
def Same (H H':Hp):Prop:=∀b o,H b=some o→H' b=some o
theorem Same.refl (H:Hp):Same H H:=fun _ _ h=>h
theorem Same.trans {H H1 H2:Hp} (a:Same H H1) (b:Same H1 H2):Same H H2:=fun c o h=>b c o (a c o h)
theorem Same.free {H H':Hp} (e:Same H H') {l:Addr} (h:H' l=Option.none):H l=Option.none:=by
 cases q:H l with
 |none=>rfl
 |some o=>
  rw [e l o q] at h
  cases h
theorem Same.seq {K:PySem.W.Frag} {H H':Hp} {a:Addr} {xs:List V} (e:Same H H') (h:SqL K H a xs):SqL K H' a xs:=by
 rcases h with (h|⟨o,h⟩)|h
 · exact .inl (.inl (e _ _ h))
 · exact .inl (.inr ⟨o,e _ _ h⟩)
 · exact .inr h
end L2
namespace Srt
open PySem PySem.W PyProof.Rows
structure Ord (lt:Nat→Nat→Bool):Prop where
 asym:∀a b,lt a b=true→lt b a=false
 tr:∀a b c,lt b a=false→lt c b=false→lt c a=false
theorem Ord.refl {lt:Nat→Nat→Bool} (O:Ord lt) (a:Nat):lt a a=false:=by
 cases e:lt a a with
 |false=>rfl
 |true=>exact (O.asym a a e).symm.trans e |>.symm
theorem Ord.up {lt:Nat→Nat→Bool} (O:Ord lt) {a b c:Nat} (h:lt a b=true) (h2:lt c b=false):lt a c=true:=by
 cases e:lt a c with
 |true=>rfl
 |false=>
  have:=O.tr b c a h2 e
  rw [h] at this
  cases this
def Tri {α:Type} (lt:Nat→Nat→Bool) (N:Nat) (Post:α→Prop):KasT α→Prop
 | .ret a=>Post a
 | .ask i j k=>i < N∧j < N∧Tri lt N Post (k (lt i j))
variable {lt:Nat→Nat→Bool} {N:Nat}
theorem tri_bind {α β:Type} {Post:β→Prop} {f:α→KasT β}:∀ {t:KasT α},Tri lt N (fun a=>Tri lt N Post (f a)) t→Tri lt N Post (t.bind f)
 | .ret a,h=>h
 | .ask i j k,h=>⟨h.1,h.2.1,tri_bind h.2.2⟩
theorem tri_mono {α:Type} {P Q:α→Prop} (hPQ:∀a,P a→Q a):∀ {t:KasT α},Tri lt N P t→Tri lt N Q t
 | .ret a,h=>hPQ a h
 | .ask i j k,h=>⟨h.1,h.2.1,tri_mono hPQ h.2.2⟩
theorem tri_wp {α:Type} {cmp:Nat→Nat→(Bool→Shared→Prop)→Shared→Prop} {G:Shared→Prop} {Post:α→Prop} {Q:α→Shared→Prop}
 (hc:∀i j (R:Bool→Shared→Prop) s,i < N→j < N→G s→(∀s',G s'→R (lt i j) s')→cmp i j R s) (hQ:∀a s,Post a→G s→Q a s):∀ {t:KasT α} {s:Shared},Tri lt N Post t→G s→t.kasWp cmp Q s
 | .ret a,s,h,g=>hQ a s h g
 | .ask i j k,s,h,g=>hc i j _ s h.1 h.2.1 g fun s' g'=>tri_wp hc hQ h.2.2 g'
def g (p:Array Nat) (k:Nat):Nat:=p.getD k 0
def Pm (N:Nat) (p:Array Nat):Prop:=p.toList.Perm (List.range N)
theorem Pm.size {p:Array Nat} (h:Pm N p):p.size=N:=by
 have:=h.length_eq
 rw [Array.length_toList,List.length_range] at this
 exact this
theorem g_some {p:Array Nat} (k:Nat):g p k=(p[k]?).getD 0:=by
 unfold g
 rw [Array.getD_eq_getD_getElem?]
theorem Pm.bd {p:Array Nat} (h:Pm N p) {k:Nat} (hk:k < N):g p k < N:=by
 have hs:=h.size
 have:p[k]?=some (p[k]'(by omega)):=Array.getElem?_eq_getElem _
 rw [g_some,this]
 have m:p[k]'(by omega)∈p.toList:=Array.mem_toList_iff.mpr (Array.getElem_mem _)
 exact List.mem_range.mp (h.mem_iff.mp m)
theorem Pm.of {p q:Array Nat} (h:Pm N p) (e:q.Perm p):Pm N q:=(Array.perm_iff_toList_perm.mp e).trans h
theorem Pm.rev {p:Array Nat} (h:Pm N p) (i j:Nat):Pm N (kas_rev p i j):=h.of (mirror_perm _ _ _ _)
theorem g_rev {p:Array Nat} {i j:Nat} (hj:j≤p.size) (k:Nat):g (kas_rev p i j) k=if i≤k∧k < j then g p (i+j - 1 - k) else g p k:=by
 rw [g_some]
 unfold kas_rev
 rw [getElem?_mirror_all hj]
 split<;>rw [g_some]
theorem g_bub {p:Array Nat} {src d:Nat} (hs:src < p.size) (hd:d≤src) (k:Nat):g (bubble p src d) k=if k=src - d then g p src else if src - d < k∧k≤src then g p (k - 1) else g p k:=by
 rw [g_some,getElem?_bubble hs d hd]
 split
 · rw [g_some]
 · split<;>rw [g_some]
def Up (lt:Nat→Nat→Bool) (p:Array Nat) (n:Nat):Prop:=∀i j,i≤j→j < n→lt (g p j) (g p i)=false
def Dn (lt:Nat→Nat→Bool) (p:Array Nat) (n:Nat):Prop:=∀i j,i≤j→j < n→lt (g p i) (g p j)=false
theorem up_succ (O:Ord lt) {p:Array Nat} {n:Nat} (h0:1≤n) (h:Up lt p n) (e:lt (g p n) (g p (n - 1))=false):Up lt p (n+1):=by
 intro i j hij hj
 by_cases q:j < n
 · exact h i j hij q
 · have ej:j=n:=by omega
   subst ej
   by_cases qi:i=j
   · subst qi
     exact O.refl _
   · exact O.tr _ _ _ (h i (j - 1) (by omega) (by omega)) e
theorem dn_succ (O:Ord lt) {p:Array Nat} {n:Nat} (h0:1≤n) (h:Dn lt p n) (e:lt (g p (n - 1)) (g p n)=false):Dn lt p (n+1):=by
 intro i j hij hj
 by_cases q:j < n
 · exact h i j hij q
 · have ej:j=n:=by omega
   subst ej
   by_cases qi:i=j
   · subst qi
     exact O.refl _
   · exact O.tr _ _ _ e (h i (j - 1) (by omega) (by omega))
theorem up_rev {p:Array Nat} {n:Nat} (hn:n≤p.size) (h:Dn lt p n):Up lt (kas_rev p 0 n) n:=by
 intro i j hij hj
 rw [g_rev hn,g_rev hn,if_pos ⟨Nat.zero_le _,hj⟩,if_pos ⟨Nat.zero_le _,by omega⟩]
 exact h _ _ (by omega) (by omega)
theorem t_asc (O:Ord lt) {p:Array Nat} (hp:Pm N p):∀(f n:Nat),1≤n→n+f≤N→Up lt p n→Tri lt N (fun m=>n≤m∧m≤n+f∧Up lt p m∧(m < n+f→lt (g p m) (g p (m - 1))=true)) (kas_asc p f n)
 |0,n,h1,h2,h=>⟨Nat.le_refl _,Nat.le_refl _,h,fun q=>absurd q (by omega)⟩
 |f+1,n,h1,h2,h=>by
  refine ⟨Pm.bd hp (by omega),Pm.bd hp (by omega),?_⟩
  show Tri lt N _ (if lt (g p n) (g p (n - 1))=true then .ret n else kas_asc p f (n+1))
  by_cases e:lt (g p n) (g p (n - 1))=true
  · rw [if_pos e]
    exact ⟨Nat.le_refl _,by omega,h,fun _=>e⟩
  · rw [if_neg e]
    refine tri_mono (fun m hm=> ?_) (t_asc O hp f (n+1) (by omega) (by omega) (up_succ O h1 h (by simpa using e)))
    exact ⟨by omega,by omega,hm.2.2.1,fun q=>hm.2.2.2 (by omega)⟩
def Eqv (lt:Nat→Nat→Bool) (p:Array Nat) (n q:Nat):Prop:=∀k,n - 1 - q≤k→k < n→lt (g p k) (g p (n - 1))=false∧lt (g p (n - 1)) (g p k)=false
theorem dn_block (O:Ord lt) {p:Array Nat} {n q:Nat} (hn:n≤p.size) (hq:q+1≤n) (h:Dn lt p n) (he:Eqv lt p n q):Dn lt (kas_rev p (n - (q+1)) n) n:=by
 intro i j hij hj
 rw [g_rev hn,g_rev hn]
 by_cases bi:n - (q+1)≤i
 · rw [if_pos ⟨bi,by omega⟩,if_pos ⟨by omega,hj⟩]
   obtain ⟨a1,a2⟩:=he (n - (q+1)+n - 1 - i) (by omega) (by omega)
   obtain ⟨b1,b2⟩:=he (n - (q+1)+n - 1 - j) (by omega) (by omega)
   exact O.tr _ _ _ b2 a1
 · rw [if_neg (by omega)]
   by_cases bj:n - (q+1)≤j
   · rw [if_pos ⟨bj,hj⟩]
     exact h _ _ (by omega) (by omega)
   · rw [if_neg (by omega)]
     exact h _ _ hij hj
theorem t_desc (O:Ord lt):∀(f:Nat) (p:Array Nat) (n q:Nat),Pm N p→1≤n→n+f≤N→q+1≤n→Dn lt p n→Eqv lt p n q→
 Tri lt N (fun r=>Pm N r.1∧n≤r.2.1∧r.2.1≤n+f∧r.2.2+1≤r.2.1∧Dn lt r.1 r.2.1∧Eqv lt r.1 r.2.1 r.2.2) (kas_desc f p n q)
 |0,p,n,q,hp,h1,h2,hq,h,he=>⟨hp,Nat.le_refl _,Nat.le_refl _,hq,h,he⟩
 |f+1,p,n,q,hp,h1,h2,hq,h,he=>by
  have hs:=hp.size
  refine ⟨Pm.bd hp (by omega),Pm.bd hp (by omega),?_⟩
  show Tri lt N _ (if lt (g p n) (g p (n - 1))=true then (if q > 0 then kas_desc f (kas_rev p (n - (q+1)) n) (n+1) 0 else kas_desc f p (n+1) 0) else .ask (g p (n - 1)) (g p n) fun d=>if d=true then .ret (p,n,q) else kas_desc f p (n+1) (q+1))
  have one:∀p':Array Nat,Eqv lt p' (n+1) 0:=fun p' k k1 k2=>by
   have:k=n:=by omega
   subst this
   exact ⟨O.refl _,O.refl _⟩
  by_cases e:lt (g p n) (g p (n - 1))=true
  · rw [if_pos e]
    have e':=O.asym _ _ e
    by_cases q0:q > 0
    · rw [if_pos q0]
      have d1:=dn_block O (by omega) hq h he
      have d2:Dn lt (kas_rev p (n - (q+1)) n) (n+1):=by
       refine dn_succ O h1 d1 ?_
       rw [g_rev (by omega),g_rev (by omega),if_pos ⟨by omega,by omega⟩,if_neg (by omega)]
       obtain ⟨a1,a2⟩:=he (n - (q+1)+n - 1 - (n - 1)) (by omega) (by omega)
       exact O.tr _ _ _ e' a1
      refine tri_mono (fun r hr=> ?_) (t_desc O f _ (n+1) 0 (hp.rev _ _) (by omega) (by omega) (by omega) d2 (one _))
      exact ⟨hr.1,by omega,by omega,hr.2.2.2⟩
    · rw [if_neg q0]
      refine tri_mono (fun r hr=> ?_) (t_desc O f p (n+1) 0 hp (by omega) (by omega) (by omega) (dn_succ O h1 h e') (one _))
      exact ⟨hr.1,by omega,by omega,hr.2.2.2⟩
  · rw [if_neg e]
    have e1:lt (g p n) (g p (n - 1))=false:=by simpa using e
    refine ⟨Pm.bd hp (by omega),Pm.bd hp (by omega),?_⟩
    show Tri lt N _ (if lt (g p (n - 1)) (g p n)=true then .ret (p,n,q) else kas_desc f p (n+1) (q+1))
    by_cases e2:lt (g p (n - 1)) (g p n)=true
    · rw [if_pos e2]
      exact ⟨hp,Nat.le_refl _,(by show n≤n+(f+1);omega),hq,h,he⟩
    · rw [if_neg e2]
      have e3:lt (g p (n - 1)) (g p n)=false:=by simpa using e2
      refine tri_mono (fun r hr=> ?_) (t_desc O f p (n+1) (q+1) hp (by omega) (by omega) (by omega) (dn_succ O h1 h e3) fun k k1 k2=> ?_)
      · exact ⟨hr.1,by omega,by omega,hr.2.2.2⟩
      · show lt (g p k) (g p n)=false∧lt (g p n) (g p k)=false
        by_cases kn:k=n
        · subst kn
          exact ⟨O.refl _,O.refl _⟩
        · obtain ⟨a1,a2⟩:=he k (by omega) (by omega)
          exact ⟨O.tr _ _ _ e3 a1,O.tr _ _ _ a2 e1⟩
theorem t_tail (O:Ord lt) {p:Array Nat} {n:Nat} (hp:Pm N p) (h1:1≤n) (hn:n≤N) (h:Dn lt p n):Tri lt N (fun r=>Pm N r.2∧1≤r.1∧r.1≤N∧Up lt r.2 r.1) (kas_tail3 n N p):=by
 unfold kas_tail3
 refine tri_bind (tri_mono (fun m hm=> ?_) (t_asc O (hp.rev 0 n) (N - n) n h1 (by omega) (up_rev (by rw [hp.size];exact hn) h)))
 exact ⟨hp.rev 0 n,by omega,by omega,hm.2.2.1⟩
theorem t_descPart (O:Ord lt) {p:Array Nat} {n:Nat} (hp:Pm N p) (hn:n+1≤N) (h:Dn lt p (n+1)):Tri lt N (fun r=>Pm N r.2∧1≤r.1∧r.1≤N∧Up lt r.2 r.1) (kas_descPart n N p):=by
 unfold kas_descPart
 refine tri_bind (tri_mono (fun r hr=> ?_) (t_desc O (N - (n+1)) p (n+1) 0 hp (by omega) (by omega) (by omega) h fun k k1 k2=> ?_))
 · obtain ⟨a1,a2,a3,a4,a5,a6⟩:=hr
   split
   · exact t_tail O (a1.rev _ _) (by omega) (by omega) (dn_block O (by rw [a1.size];omega) a4 a5 a6)
   · exact t_tail O a1 (by omega) (by omega) a5
 · have:k=n:=by omega
   subst this
   exact ⟨O.refl _,O.refl _⟩
theorem t_count (O:Ord lt) {p:Array Nat} (hp:Pm N p) (hN:1≤N):Tri lt N (fun r=>Pm N r.2∧1≤r.1∧r.1≤N∧Up lt r.2 r.1) (kas_count N p):=by
 unfold kas_count
 have u1:Up lt p 1:=fun i j hij hj=>by
  have:i=0:=by omega
  have:j=0:=by omega
  subst_vars
  exact O.refl _
 refine tri_bind (tri_mono (fun n hn=> ?_) (t_asc O hp (N - 1) 1 (Nat.le_refl _) (by omega) u1))
 obtain ⟨b1,b2,b3,b4⟩:=hn
 by_cases e:(n==N)=true
 · rw [if_pos e]
   exact ⟨hp,b1,by omega,b3⟩
 · rw [if_neg e]
   have e':n≠N:=by simpa using e
   have l1:=b4 (by omega)
   by_cases n1:n > 1
   · rw [if_pos n1]
     refine ⟨Pm.bd hp (by omega),Pm.bd hp (by omega),?_⟩
     show Tri lt N _ (if lt (g p 0) (g p (n - 1))=true then .ret (n,p) else kas_descPart n N (kas_rev p 0 n))
     by_cases e2:lt (g p 0) (g p (n - 1))=true
     · rw [if_pos e2]
       exact ⟨hp,b1,by omega,b3⟩
     · rw [if_neg e2]
       have e3:lt (g p 0) (g p (n - 1))=false:=by simpa using e2
       have alike:∀i j,i < n→j < n→lt (g p i) (g p j)=false:=fun i j hi hj=>
        O.tr (g p j) (g p 0) (g p i) (O.tr _ _ _ (b3 j (n - 1) (by omega) (by omega)) e3) (b3 0 i (Nat.zero_le _) hi)
       have hs:=hp.size
       refine t_descPart O (hp.rev 0 n) (by omega) (dn_succ O (by omega) (fun i j hij hj=> ?_) ?_)
       · rw [g_rev (by omega),g_rev (by omega),if_pos ⟨Nat.zero_le _,by omega⟩,if_pos ⟨Nat.zero_le _,hj⟩]
         exact alike _ _ (by omega) (by omega)
       · rw [g_rev (by omega),g_rev (by omega),if_pos ⟨Nat.zero_le _,by omega⟩,if_neg (by omega)]
         exact O.tr _ _ _ (O.asym _ _ l1) (alike _ _ (by omega) (by omega))
   · rw [if_neg n1]
     have en:n=1:=by omega
     subst en
     refine t_descPart O hp (by omega) (dn_succ O (Nat.le_refl _) (fun i j hij hj=> ?_) (O.asym _ _ l1))
     have:i=0:=by omega
     have:j=0:=by omega
     subst_vars
     exact O.refl _
theorem t_place (O:Ord lt) {p:Array Nat} {k:Nat} (hp:Pm N p) (hk:k < N) (h:Up lt p k):∀(f l r:Nat),l≤r→r≤k→r - l≤f→(∀i,i < l→lt (g p k) (g p i)=false)→(∀i,r≤i→i < k→lt (g p k) (g p i)=true)→
 Tri lt N (fun m=>m≤k∧(∀i,i < m→lt (g p k) (g p i)=false)∧∀i,m≤i→i < k→lt (g p k) (g p i)=true) (kas_place p k f l r)
 |0,l,r,h1,h2,h3,a,b=>by
  have:l=r:=by omega
  subst this
  exact ⟨h2,a,b⟩
 |f+1,l,r,h1,h2,h3,a,b=>by
  show Tri lt N _ (if l≥r then .ret l else .ask (p.getD k 0) (p.getD ((l+r) / 2) 0) fun c=>if c=true then kas_place p k f l ((l+r) / 2) else kas_place p k f ((l+r) / 2+1) r)
  by_cases e:l≥r
  · rw [if_pos e]
    have:l=r:=by omega
    subst this
    exact ⟨h2,a,b⟩
  · rw [if_neg e]
    refine ⟨Pm.bd hp hk,Pm.bd hp (by omega),?_⟩
    show Tri lt N _ (if lt (g p k) (g p ((l+r) / 2))=true then kas_place p k f l ((l+r) / 2) else kas_place p k f ((l+r) / 2+1) r)
    by_cases c:lt (g p k) (g p ((l+r) / 2))=true
    · rw [if_pos c]
      refine t_place O hp hk h f l ((l+r) / 2) (by omega) (by omega) (by omega) a fun i i1 i2=> ?_
      by_cases q:r≤i
      · exact b i q i2
      · exact O.up c (h _ _ i1 i2)
    · rw [if_neg c]
      have c':lt (g p k) (g p ((l+r) / 2))=false:=by simpa using c
      refine t_place O hp hk h f ((l+r) / 2+1) r (by omega) h2 (by omega) (fun i i1=> ?_) b
      exact O.tr _ _ _ (h i ((l+r) / 2) (by omega) (by omega)) c'
theorem t_bin (O:Ord lt):∀(f:Nat) (p:Array Nat) (k:Nat),Pm N p→k+f≤N→Up lt p k→Tri lt N (fun q=>Pm N q∧Up lt q (k+f)) (kas_bin f p k)
 |0,p,k,hp,_,h=>⟨hp,h⟩
 |f+1,p,k,hp,hk,h=>by
  have hs:=hp.size
  show Tri lt N _ ((kas_place p k k 0 k).bind fun l=>kas_bin f (bubble p k (k - l)) (k+1))
  refine tri_bind (tri_mono (fun l hl=> ?_) (t_place O hp (by omega) h k 0 k (Nat.zero_le _) (Nat.le_refl _) (by omega) (fun i hi=>absurd hi (by omega)) fun i h1 h2=>absurd h1 (by omega)))
  obtain ⟨l1,l2,l3⟩:=hl
  have el:k - (k - l)=l:=by omega
  have hb:∀i,g (bubble p k (k - l)) i=if i=l then g p k else if l < i∧i≤k then g p (i - 1) else g p i:=fun i=>by
   rw [g_bub (by omega) (by omega),el]
  have u:Up lt (bubble p k (k - l)) (k+1):=by
   intro i j hij hj
   rw [hb,hb]
   by_cases jl:j=l
   · rw [if_pos jl]
     by_cases il:i=l
     · rw [if_pos il]
       exact O.refl _
     · rw [if_neg il,if_neg (by omega)]
       exact l2 i (by omega)
   · rw [if_neg jl]
     by_cases j2:l < j∧j≤k
     · rw [if_pos j2]
       by_cases il:i=l
       · rw [if_pos il]
         exact O.asym _ _ (l3 (j - 1) (by omega) (by omega))
       · rw [if_neg il]
         by_cases i2:l < i∧i≤k
         · rw [if_pos i2]
           exact h _ _ (by omega) (by omega)
         · rw [if_neg i2]
           exact h _ _ (by omega) (by omega)
     · rw [if_neg j2,if_neg (by omega),if_neg (by omega)]
       exact h _ _ hij (by omega)
  refine tri_mono (fun q hq=> ?_) (t_bin O f _ (k+1) (hp.of (bubble_perm _ _ _)) (by omega) u)
  rw [show k+(f+1)=k+1+f by omega]
  exact hq
theorem t_sort (O:Ord lt) (hN:1≤N):Tri lt N (fun p=>Pm N p∧Up lt p N) (kas_sort N):=by
 unfold kas_sort
 have h0:Pm N (List.toArray (List.range N)):=by
  unfold Pm
  simp
 refine tri_bind (tri_mono (fun r hr=> ?_) (t_count O h0 hN))
 obtain ⟨a1,a2,a3,a4⟩:=hr
 by_cases e:r.1 < N
 · rw [if_pos e]
   have em:max r.1 1=r.1:=by omega
   rw [em]
   have:=t_bin O (N - r.1) r.2 r.1 a1 (by omega) a4
   rw [show r.1+(N - r.1)=N by omega] at this
   exact this
 · rw [if_neg e]
   have:r.1=N:=by omega
   rw [this] at a4
   exact ⟨a1,a4⟩
end Srt
namespace L2
open PySem
section
variable {M:Model} {prog:Program} {w:World} {A:Around} {E:Value→Shared→Prop} {h:Heap} {g:Array GenState} {d:Drawn} {t:Nat} {os:OsState}
variable {nm q:Str} {C N:Addr} {bs bm bmB:List Value} {hdct:Bool} {sn:List Str} {sub:List Value} {ab:Bool} {col:Option Bool} {dd:Option Addr} {k0 k1 k2 k3 k5:Option Value} {B newId initId:String}
structure Line (B:String) (bm:List Value):Prop where
 own:bm.contains (.type B)=true
 top:bm.contains (.type "BaseException")=true
 attr:bm.contains (.type "AttributeError")=false
 name:bm.contains (.type "NameError")=false
theorem Line.cons {C:Addr} (l:Line B bm):Line B (.ref C::bm):=
 ⟨by rw [List.contains_cons,l.own,Bool.or_true],by rw [List.contains_cons,l.top,Bool.or_true],by rw [List.contains_cons,l.attr];rfl,by rw [List.contains_cons,l.name];rfl⟩
theorem may_new (Fn:ExcBaseFacts B newId initId bmB) (l:Line B bm) {args:List Value} {Q:Unit→Shared→Prop}
 (oC:h.get? C=some (excClassObj nm q C N bs bm hdct sn sub ab col dd k0 k1 k2 k3 k5 newId)) (z:Q () ⟨h,g,d,t,os⟩):
 wpAny M A (checkBuiltinCall newId ⟨.ref C::args,[]⟩) Q E ⟨h,g,d,t,os⟩:=by
 have own:=(l.cons (C:=C)).own
 have st:=Fn.noStar
 simp only [checkBuiltinCall,Fn.newKind,Fn.newSplit,Fn.newRow]
 repeat
  first
  |refine wpAny_loadPart_at oC ?_
  |(refine wpAny_isSubtype_exc oC ?_;rw [own])
  |refine wpAny_staticBase_exc oC ?_
  |refine wpAny_madeBy_exc oC ?_
  |simp only [bne_self_eq_false,Bool.false_eq_true,if_false]
  |wp_step
 exact z
theorem new_exc (Fn:ExcBaseFacts B newId initId bmB) (l:Line B bm) {args:List Value} {R:Result→Shared→Prop}
 (oC:h.get? C=some (excClassObj nm q C N bs bm hdct sn sub ab col dd k0 k1 k2 k3 k5 newId)) (sz:args.length≤sizeLine)
 (z:R (.ok (.ret (.ref (h.objs.size+1)))) ⟨(h.push {cls:= .type "tuple",data:= .seq args.toArray}).push {cls:= .ref C,data:= .fields #[.ref h.objs.size, .none, .none, .none, .bool false, .none]},g,d,t,os⟩):
 codeAny (model prog w) A (.builtin newId ⟨.ref C::args,[]⟩) R ⟨h,g,d,t,os⟩:=by
 have en:=Fn.ends
 have c1:=(l.cons (C:=C)).own
 have c2:=(l.cons (C:=C)).attr
 have c3:=(l.cons (C:=C)).name
 refine codeAny_builtinAt Fn.entry ?_
 unfold Builtin.«BaseException.__new__»
 refine wpAt_bind ?_
 show wpAt _ _ _ (stack >>=_) _ _ _
 refine wpAt_bind (wpAt_stack fun p below=>wpAt_of_wpAny ?_)
 wp_walk
 refine wpAt_of_wpAny ?_
 rw [Fn.owner]
 repeat
  first
  |with_reducible refine wpAny_madeHere_exc Fn.canon oC ?_
  |with_reducible refine wpAny_loadPart_at oC ?_
  |(with_reducible refine wpAny_isSubtype_exc oC ?_;first|rw [c1]|rw [c2]|rw [c3])
  |wp_step
 show R _ _
 rw [Heap.size_push]
 exact z
theorem type_call_inh (Fn:ExcBaseFacts B newId initId bmB) (l:Line B bm) {K:PySem.W.Frag} {args:List Value} {fI:Addr} {Q:Fin→Shared→Prop}
 (oC:h.get? C=some (excClassObj nm q C N bs bm hdct sn sub ab col dd k0 k1 k2 k3 k5 newId)) (X:K.In h) (hi:PySem.W.findIn K (.ref C) "__init__"=some (some (.ref fI))) (hf:PySem.W.isFn K (.ref fI)=true) (sz:args.length≤sizeLine)
 (z:∀h' e,Heap.MadeExcOf h h' e (.ref C) args→e=h.objs.size+1→
  wpAny (model prog w) A (call (.ref fI) (.ref e::args)) (fun r s'=>r= .none∧Q (.done (.ret (.ref e))) s') E ⟨h',g,d,t,os⟩):
 wpAny (model prog w) A (Builtin.«type.__call__» ⟨.ref C::args,[]⟩) Q E ⟨h,g,d,t,os⟩:=by
 repeat
  first
  |with_reducible refine wpAny_loadPart_at oC ?_
  |with_reducible refine wpAny_madeBy_exc oC ?_
  |wp_step
 refine codeAny_call_builtin_code (Code.quiet_builtin _ Fn.quiet) (may_new Fn l oC ?_)
 refine new_exc Fn l oC sz ?_
 show wpAny _ _ _ _ _ _
 have up:∀b o,h.get? b=some o→((h.push {cls:= .type "tuple",data:= .seq args.toArray}).push {cls:= .ref C,data:= .fields #[.ref h.objs.size, .none, .none, .none, .bool false, .none]}).get? b=some o:=
  fun b o e=>Heap.get?_push_of_some _ (Heap.get?_push_of_some _ e)
 have oC1:=up _ _ oC
 have it:((h.push {cls:= .type "tuple",data:= .seq args.toArray}).push
  {cls:= .ref C,data:= .fields #[.ref h.objs.size, .none, .none, .none, .bool false, .none]}).get? (h.objs.size+1)=some
  {cls:= .ref C,data:= .fields #[.ref h.objs.size, .none, .none, .none, .bool false, .none]}:=by heap_get
 have me:(Value.ref C::bm).contains (.ref C)=true:=by simp
 unfold isInstance
 repeat
  first
  |with_reducible refine wpAny_loadPart_at it ?_
  |(with_reducible refine wpAny_isSubtype_exc oC1 ?_;rw [me])
  |wp_step
 show wpAny _ _ (typeLookup (.ref C) _) _ _ _
 have Lk:=PySem.W.looks_findIn (M:=model prog w) (X.keeps up) hi
 refine Lk.here ?_
 refine wpAny_holding (wpAny_bind ?_)
 have Bf:=PySem.W.bind_fn (M:=model prog w) (X.keeps up) (.ref (h.objs.size+1)) (beq_iff_eq.mp hf)
 refine Bf.here ?_
 refine wpAny_bind (wpAny_mono (z _ (h.objs.size+1) ⟨up,Heap.get?_none_of_le (Nat.le_succ _),h.objs.size,it,Heap.get?_none_of_le (Nat.le_refl _),?_⟩ rfl) (fun r s' hr=> ?_) fun _ _ x=>x)
 · exact Heap.get?_push_of_some _ (Heap.get?_push_at rfl rfl)
 · obtain ⟨rfl,hQ⟩:=hr
   wp_walk
   exact hQ
theorem call_inh (Fn:ExcBaseFacts B newId initId bmB) (l:Line B bm) {K:PySem.W.Frag} {args:List Value} {fI:Addr} {Q:Value→Shared→Prop}
 (oC:h.get? C=some (excClassObj nm q C N bs bm hdct sn sub ab col dd k0 k1 k2 k3 k5 newId)) (X:K.In h) (hi:PySem.W.findIn K (.ref C) "__init__"=some (some (.ref fI))) (hf:PySem.W.isFn K (.ref fI)=true) (sz:args.length≤sizeLine)
 (z:∀h' e,Heap.MadeExcOf h h' e (.ref C) args→e=h.objs.size+1→
  wpAny (model prog w) (A.under (.builtin "type.__call__" ⟨.ref C::args,[]⟩)) (call (.ref fI) (.ref e::args)) (fun r s'=>r= .none∧Q (.ref e) s') E ⟨h',g,d,t,os⟩):
 wpAny (model prog w) A (call (.ref C) args) Q E ⟨h,g,d,t,os⟩:=by
 have f1:=tc_lookup
 have f2:=tc_bind (.ref C)
 have ty:(⟨h,g,d,t,os⟩:Shared).TypeIs (.ref C) "type":=⟨_,oC,rfl⟩
 refine wpAny_call (codeAny_of_tree ?_)
 show wpAny _ _ (callAny (.ref C) _) _ _ _
 repeat
  any_goals
   first
   |assumption
   |with_reducible refine wpAny_loadPart_at oC ?_
   |wp_step
 refine ⟨rfl,?_⟩
 exact codeAny_call_builtin_at (Code.quiet_builtin _ (by decide +kernel)) entry_typeCall (wpAny_check_type_call_sub oC (type_call_inh Fn l oC X hi hf sz fun h' e hm ee=>z h' e hm ee))
end
section
open PySem
variable {prog:Program} {w:World} {A:Around} {E:Value→Shared→Prop} {h:Heap} {g:Array GenState} {d:Drawn} {t:Nat} {os:OsState}
variable {nm q:Str} {C N:Addr} {bs bm bmB:List Value} {hdct:Bool} {sn:List Str} {sub:List Value} {ab:Bool} {col:Option Bool} {dd:Option Addr} {k0 k1 k2 k3 k5:Option Value} {B newId nid initId:String}
theorem may_init (Fn:ExcBaseFacts B nid initId bmB) (l:Line B bm) {M:Model} {e:Addr} {oe:Obj} {args:List Value} {Q:Unit→Shared→Prop}
 (oC:h.get? C=some (excClassObj nm q C N bs bm hdct sn sub ab col dd k0 k1 k2 k3 k5 newId)) (oE:h.get? e=some oe) (cE:oe.cls= .ref C) (z:Q () ⟨h,g,d,t,os⟩):
 wpAny M A (checkBuiltinCall initId ⟨.ref e::args,[]⟩) Q E ⟨h,g,d,t,os⟩:=by
 have own:=(l.cons (C:=C)).own
 have st:=Fn.noStar
 simp only [checkBuiltinCall,Fn.initKind,Fn.initSplit,Fn.initRow]
 repeat
  first
  |(with_reducible refine wpAny_loadPart_at oE ?_;rw [cE])
  |with_reducible refine wpAny_loadPart_at oC ?_
  |(with_reducible refine wpAny_isSubtype_exc oC ?_;rw [own])
  |wp_step
 refine wpAny_onRaise ?_
 rw [show∀(a b:String) (n:Nat),Bind.check ⟨.positional,"*",B, .self,[⟨"args", .varPos,false⟩]⟩ a b n (List.map (fun x=>x.fst) ({pos:=Value.ref e::args}:Args).kw)=pure () from fun a b n=>check_star_args _ _ _ _ _ _]
 exact wpAny_pure z
theorem call_base_init (Fn:ExcBaseFacts B nid initId bmB) (l:Line B bm) {e t0:Addr} {args:List Value} {Q:Value→Shared→Prop}
 (oC:h.get? C=some (excClassObj nm q C N bs bm hdct sn sub ab col dd k0 k1 k2 k3 k5 newId)) (oE:h.get? e=some {cls:= .ref C,data:= .fields #[.ref t0, .none, .none, .none, .bool false, .none]}) (sz:args.length≤sizeLine)
 (z:∀h' t1,(∀b o,b≠e→h.get? b=some o→h'.get? b=some o)→h'.get? e=some {cls:= .ref C,data:= .fields #[.ref t1, .none, .none, .none, .bool false, .none]}→Q .none ⟨h',g,d,t,os⟩):
 wpAny (model prog w) A (call (.builtin initId) (.ref e::args)) Q E ⟨h,g,d,t,os⟩:=by
 refine wpAny_call (codeAny_call_builtin Fn.init.plain Fn.initEntry (may_init Fn l oC oE rfl ?_))
 wp_walk
 refine z _ h.objs.size (fun b o hb e1=> ?_) ?_
 · rw [Heap.get?_update_other _ _ (Ne.symm hb)]
   exact Heap.get?_push_of_some _ e1
 · rw [Heap.get?_update_self _ (Heap.get?_push_of_some _ oE) rfl]
   rfl
end
open PySem PySem.Spec PyProof.Rows
noncomputable def Exo (C e:Addr):HO:= .ext fun h=>∃t,h.get? e=some {cls:= .ref C,data:= .fields #[.ref t, .none, .none, .none, .bool false, .none]}
theorem exo_ok {P:Program} {w:World} {H:Hp} {h:Heap} {C e t:Addr} (x:h.get? e=some {cls:= .ref C,data:= .fields #[.ref t, .none, .none, .none, .bool false, .none]}):ObjOk P w H h e (Exo C e):=
 ⟨⟨t,x⟩,⟨_,x⟩,fun _ _ ⟨t',y⟩ k=>⟨t',k _ y⟩⟩
theorem upd_id {H:Hp} {a:Addr} {o:HO} (e:H a=some o):upd H a o=H:=by
 funext b
 unfold upd
 split
 · rename_i q
   rw [q,e]
 · rfl
structure XCls (K:PySem.W.Frag) (C fI:Addr):Prop where
 ex:∃nm q N bs bm hdct sn sub ab col dd k0 k1 k2 k3 k5,K.lookup C=some (excClassObj nm q C N bs bm hdct sn sub ab col dd k0 k1 k2 k3 k5 "ValueError.__new__")∧Line "ValueError" bm
 init:PySem.W.findIn K (.ref C) "__init__"=some (some (.ref fI))
 fn:PySem.W.isFn K (.ref fI)=true
 kp:PySem.W.keepIn K (.ref C)=true
section
variable {X:Cx} {CX:CXT} {k:Nat} {f C:Addr} {fd:FuncData} {ps:List Str} {sp:Sp} {E:XK} {x:Str} {p pos apos:Pos} {e:Expr} {es:List Expr} {t:TA}
def tMakeX (s₀:Shared) (C:Addr) (sp:Sp) (E:XK) (t:TA):TE:=fun σ H Q=>t σ H fun vs H1=>∀x,H1 x=none→s₀.heap.get? x=none→sp (.ref x::vs) (upd H1 x (Exo C x)) (fun v H2=>v= .non∧Q (.ref x) H2) E
theorem pe_makeX (M:XCls X.K C f) (F:FnOk X.prog X.w X.K X.mg X.base CX k f fd ps sp) (hr:Room (k+1) X.A) (hg:Gl X x) (hm:X.mg x=some (.ref C)) (hb:Binds X.K fd ps []) (hx:Passes CX X E)
 (ha:PA X (e::es) t) (hsz:(e::es).length≤100) (hdb:(x==("__debug__":Str))=false:=by decide) (he:starEach (e::es) X.env=(false,eval e X.env)::starEach es X.env:=by rfl) (hpl:(backTo pos (starEach es X.env)).any (·.1)=false:=by rfl)
 (hlen:∀vs H Q E',sp vs H Q E'→vs.length≤1000):PE X (.Call (.Name x p) (e::es) [] pos) (tMakeX X.s₀ C sp E t):=by
 intro pins s σ H Q I h
 refine wpAny_Call_Name_kw (ld_glob I hg hm ?_ hdb)
 refine PySem.W.callWith_K (h₀:=X.base) I.ok.mod.kin M.kp (thn (ha pos pins s σ H _ I h) fun us s1 ⟨vs,H1,I1,r,z⟩=>⟨I1.kIn,?_⟩) he hpl
 obtain ⟨nm,q,N,bs,bm,hdct,sn,sub,ab,col,dd,k0,k1,k2,k3,k5,hC,hl⟩:=M.ex
 have oC:=I1.kIn _ _ hC
 have f1:H1 (s1.heap.objs.size+1)=none:=I1.hok.fresh (Nat.le_succ _)
 have f2:X.s₀.heap.get? (s1.heap.objs.size+1)=none:=Heap.get?_none_of_le (Nat.le_trans I1.sz (Nat.le_succ _))
 have hq:=z _ f1 f2
 have e1:vs.length=us.length:=r.length
 have l1:=hlen _ _ _ _ hq
 rw [List.length_cons] at l1
 obtain ⟨hh,g,d,tk,os⟩:=s1
 refine call_inh (K:=X.K) PySem.F.excBase_ValueError hl oC I1.kIn M.init M.fn (show us.length≤sizeLine from Nat.le_of_lt (small1000 (by omega))) fun h' e' hm' ee=> ?_
 subst ee
 obtain ⟨t0,ht0,_⟩:=hm'.there
 have I2:=I1.laid (t':=tk) (o:=Exo C (hh.objs.size+1)) (a:=hh.objs.size+1) hm'.keeps (Nat.le_succ _) (exo_ok ht0)
 have r2:Vals (V.ref (hh.objs.size+1)::vs) (Value.ref (hh.objs.size+1)::us):= .cons rfl r
 have hl2:(Value.ref (hh.objs.size+1)::us).length=ps.length:=by
  have e:=r2.length
  rw [F.len _ _ _ _ hq] at e
  exact e.symm
 refine wpAny_call (codeAny_mono (F.run _ X.stack _ _ ⟨Value.ref (hh.objs.size+1)::us,[]⟩ (Value.ref (hh.objs.size+1)::us) _ _ E (hr.make C us [])
  (I2.env0.make C us []) (by have:=hb _ (Value.ref (hh.objs.size+1)::us) I2.kIn (by rw [List.append_nil];exact hl2);rw [List.append_nil] at this;exact this) r2 hq) fun r s' hq'=> ?_)
 cases r with
 |error e=>exact hx pins σ _ _ e s' I2 hq'
 |ok fl=>
  cases fl with
  |ret u=>
   obtain ⟨v,H',I3,rv,ev,q3⟩:=I2.after hq'
   subst ev
   exact ⟨rv,⟨V.ref (hh.objs.size+1),H',I3,rfl,q3⟩⟩
  |next=>exact False.elim hq'
  |brk=>exact False.elim hq'
  |cont=>exact False.elim hq'
def tBaseInit (K:PySem.W.Frag) (t:TA):TE:=fun σ H Q=>t σ H fun vs H1=>∃x C fI r,vs= .ref x::r∧r.length≤1000∧H1 x=some (Exo C x)∧XCls K C fI∧Q .non H1
theorem find_vinit (K:PySem.W.Frag):PySem.W.findCls K (.type "ValueError") (.type "type") "__init__"=some (.val (.builtin "ValueError.__init__")):=by kernel_rfl
theorem pe_baseInit (hg:Gl X "ValueError") (hm:X.mg "ValueError"=none) (ha:PA X (e::es) t) (he:starEach (e::es) X.env=(false,eval e X.env)::starEach es X.env:=by rfl) (hpl:(backTo pos (starEach es X.env)).any (·.1)=false:=by rfl)
 {pl:Sem Bool} (ht:eval (.Call (.Attribute (.Name "ValueError" p) "__init__" apos) (e::es) [] pos) X.env=(do
  let ov←eval (.Name "ValueError" p) X.env
  standAt apos.atName
  let (f,first)←holding [ov] (getMethod ov "__init__" pl)
  callWith pos f first (backTo pos (starEach (e::es) X.env)) (backToKw pos (keywordEach [] X.env))):=by rfl):
 PE X (.Call (.Attribute (.Name "ValueError" p) "__init__" apos) (e::es) [] pos) (tBaseInit X.K t):=by
 intro pins s σ H Q I h
 obtain ⟨m,F⟩:=I.fr
 refine PySem.W.methodCall_KW (pl:=pl) (ld_blt I hg hm (u:= .type "ValueError") (by kernel_rfl) ?_) ht
 refine PySem.W.method_type F I.ok.mod.kin (by kernel_rfl) (by decide +kernel) (find_vinit X.K) (by decide +kernel) ?_
 refine PyProof.Rows.callWith_builtin1 (thn (ha pos pins _ σ H _ (I.tok _) h) fun us s1 ⟨vs,H1,I1,r1,y,C,fI,r,ev,hz,hH,hX,q1⟩=> ?_) he hpl
 subst ev
 cases r1 with
 | @cons _ u0 _ ur q0 r1=>
  cases (show u0=Value.ref y from q0)
  obtain ⟨nm,q,N,bs,bm,hdct,sn,sub,ab,col,dd,k0,k1,k2,k3,k5,hC,hl⟩:=hX.ex
  have oC:=I1.kIn _ _ hC
  obtain ⟨⟨t0,oE⟩,_⟩:=(show ObjOk X.prog X.w H1 s1.heap y (Exo C y) from I1.hok y _ hH)
  have e1:r.length=ur.length:=r1.length
  obtain ⟨hh,g,d,tk,os⟩:=s1
  refine call_base_init PySem.F.excBase_ValueError hl oC oE (Nat.le_of_lt (small1000 (by omega))) fun h' t1 kk oE'=> ?_
  have I2:=I1.write (x:=y) (e:=y) (o:=Exo C y) (t':=tk) (by rw [hH];exact True.intro) (.inl rfl) kk ⟨_,oE'⟩ (exo_ok oE')
  rw [upd_id hH] at I2
  exact ⟨.non,H1,I2,rfl,q1⟩
end
open PySem PySem.Spec PyProof.Rows
def unt (H:Hp) (e:Addr):Hp:=fun b=>if b=e then none else H b
theorem unt_same {H:Hp} {e:Addr}:unt H e e=none:=by unfold unt;rw [if_pos rfl]
theorem unt_ne {H:Hp} {e b:Addr} (h:b≠e):unt H e b=H b:=by unfold unt;rw [if_neg h]
theorem unt_upd {H:Hp} {e:Addr} {o:HO} (h:H e=none):unt (upd H e o) e=H:=by
 funext b
 by_cases q:b=e
 · rw [q,unt_same,h]
 · rw [unt_ne q,upd_ne q]
theorem unt_ok {P:Program} {w:World} {H:Hp} {h:Heap} {C e:Addr} (x:HOk P w H h) (he:H e=some (Exo C e)):HOk P w (unt H e) h:=fun b o q=>by
 have nb:b≠e:=by
  intro z
  rw [z,unt_same] at q
  cases q
 rw [unt_ne nb] at q
 refine (x b o q).stay (fun _ _ _ r=>r) (fun c r=> ?_) (fun c xs r=> ?_)
 · rw [unt_ne]
   · exact r
   · intro z
     rw [z,he] at r
     cases r
 · rw [unt_ne]
   · exact r
   · intro z
     rw [z,he] at r
     cases r
def Throws (X:Cx) (E:XK):Prop:=∀(pins:List (Addr×Obj)) (σ:St) (H:Hp) (s:Shared) (e C:Addr),Inv X pins σ H s→H e=some (Exo C e)→X.s₀.heap.get? e=none→E (.ref C) none (unt H e)→X.xe (.ref e) s
section
variable {X:Cx} {C fI:Addr} {E:XK} {pos:Pos} {ce:Expr} {te:TE}
def tRaise (s₀:Shared) (C:Addr) (E:XK) (te:TE):TS:=fun _ σ H=>te σ H fun v H1=>∃e,v= .ref e∧H1 e=some (Exo C e)∧s₀.heap.get? e=none∧E (.ref C) none (unt H1 e)
theorem ps_raise (hc:X.calm=true) (hX:XCls X.K C fI) (he:PE X ce te) (hx:Throws X E):PS X (.Raise (some ce) none pos) (tRaise X.s₀ C E te):=by
 intro pins s σ H D I h
 obtain ⟨nm,q,N,bs,bm,hdct,sn,sub,ab,col,dd,k0,k1,k2,k3,k5,hC,hl⟩:=hX.ex
 show wpAny (model X.prog X.w) X.A (do standAt pos;raiseStmt X.env (some (do let v←eval ce X.env;standAt pos;pure v)) none) _ _ s
 refine wpAny_bind (wpAny_standAt (wpAny_raiseStmt_made_sub (C:=C) (nm:=nm) (q:=q) (N:=N) (bs:=bs) (bm:=bm) (hdct:=hdct) (sn:=sn) (sub:=sub) (ab:=ab) (col:=col) (dd:=dd) (k0:=k0) (k1:=k1) (k2:=k2) (k3:=k3) (k5:=k5) (newId:="ValueError.__new__") hl.top (I.ok.hd hc) ?_))
 refine wpAny_bind (thn (he pins s σ H _ I h) fun v s1 ⟨x,H1,I1,r1,e,ex,hH,hn,q1⟩=>wpAny_bind (wpAny_standAt (wpAny_pure ?_)))
 subst ex
 cases (show v=Value.ref e from r1)
 obtain ⟨⟨t0,oE⟩,_⟩:=(show ObjOk X.prog X.w H1 s1.heap e (Exo C e) from I1.hok e _ hH)
 exact ⟨e,t0,rfl,I1.kIn _ _ hC,oE,hx pins σ H1 s1 e C I1 hH hn q1⟩
end
noncomputable def CX1 (P:Program) (w:World):CXT:=fun outer H s E e s'=>∃(a C:Addr) (a0:Value) (B:Heap) (H':Hp),e= .ref a∧s'.os=s.os∧AllBare s'.gens∧s.heap.get? a=none∧H' a=none∧HOk P w H' B∧
 Heap.FlyingW B outer a (.ref C) a0 s'.heap∧(∀b o,s.heap.get? b=some o→H b=none→b∉frs outer→B.get? b=some o)∧(∀b o,s.heap.get? b=some o→H b=none→b∈frs outer→∃sl,s'.heap.get? b=some {o with slots:=sl})∧
 (∀b o,s.heap.get? b=some o→H b=none→H' b=none)∧(∀b o,s.heap.get? b=some o→b∉frs outer→∃o',B.get? b=some o')∧
 (∀b xs,H b=some (.tup xs)→H' b=some (.tup xs))∧(∀b o u,H b=some (.frz o u)→H' b=some (.frz o u))∧(∀b ps,H b=some (.tbl ps)→∃more,H' b=some (.tbl (ps++more)))∧E (.ref C) none H'
theorem frs_cons {env:Env} {outer:List Env} {b:Addr}:b∈frs (env::outer)↔env.frame=some b∨b∈frs outer:=by
 unfold frs
 rw [List.filterMap_cons]
 cases q:env.frame with
 |none=>simp
 |some L=>
  simp only [List.mem_cons,Option.some.injEq]
  constructor
  · rintro (z|z)
    · exact .inl z.symm
    · exact .inr z
  · rintro (z|z)
    · exact .inl z.symm
    · exact .inr z
theorem throws_cx {P:Program} {w:World} {K:PySem.W.Frag} {mg:Str→Option Value} {base:Heap} {N:List Str} {qual:Str} {scope:Scope} {f:Addr} {cd:Value} {A:Around} {outer:List Env} {s:Shared} {H:Hp} {E:XK}:
 Throws (cxOf (CX1 P w) P w K mg base N qual scope f cd A outer s H E) E:=by
 intro pins σ H1 s1 e C I hH hn hE
 obtain ⟨⟨t0,oE⟩,_⟩:=(show ObjOk P w H1 s1.heap e (Exo C e) from I.hok e _ hH)
 have stk:s1.heap.FunFrames base (envOfC qual scope s.heap.objs.size f cd::outer):=I.stack
 have fre:∀b∈frs (envOfC qual scope s.heap.objs.size f cd::outer),H1 b=none:=I.stkFree
 have hfl:(envOfC qual scope s.heap.objs.size f cd).frame=some s.heap.objs.size:=rfl
 have hin:∀env∈(envOfC qual scope s.heap.objs.size f cd::outer),∀b,env.frame=some b→b∈e::frs (envOfC qual scope s.heap.objs.size f cd::outer):=fun env he b hb=>List.mem_cons_of_mem _ (List.mem_filterMap.mpr ⟨env,he,hb⟩)
 have kB:∀b o,s1.heap.get? b=some o→b≠e→b∉frs (envOfC qual scope s.heap.objs.size f cd::outer)→(PySem.W.hideAll s1.heap (e::frs (envOfC qual scope s.heap.objs.size f cd::outer))).get? b=some o:=fun b o q h1 h2=>
  PySem.W.hideAll_get _ q fun z=>by
   rcases List.mem_cons.mp z with z|z
   · exact h1 z
   · exact h2 z
 have nL:∀b o,s.heap.get? b=some o→b≠s.heap.objs.size:=fun b o q=>Nat.ne_of_lt (Heap.lt_size q)
 have nfr:∀b o,s.heap.get? b=some o→b∉frs outer→b∉frs (envOfC qual scope s.heap.objs.size f cd::outer):=fun b o q h2 z=>by
  rcases frs_cons.mp z with z|z
  · rw [hfl] at z
    exact nL b o q (Option.some.inj z).symm
  · exact h2 z
 have ne:∀b o,s.heap.get? b=some o→b≠e:=fun b o q z=>by
  rw [z] at q
  have hn':s.heap.get? e=none:=hn
  rw [hn'] at q
  cases q
 refine wpAny_leaving_firstW (base:=PySem.W.hideAll s1.heap (e::frs (envOfC qual scope s.heap.objs.size f cd::outer))) (a0:= .ref t0) (oe:= {cls:= .ref C,data:= .fields #[.ref t0, .none, .none, .none, .bool false, .none]}) (L:=s.heap.objs.size)
  I.ok.frames (PySem.W.funFrames_hide stk hin) hfl oE (fun b o q=>PySem.W.of_hideAll _ q) (PySem.W.hideAll_none _ List.mem_cons_self) rfl rfl rfl fun h' hL=> ?_
 obtain ⟨z1,⟨_,_,z2⟩,z3,z4⟩:=hL
 have un:Un (frs outer) [] H H1 s.heap s1.heap:=I.base
 refine ⟨e,C, .ref t0,_,unt H1 e,rfl,I.os,I.bare,hn,unt_same,?_,⟨z1,PySem.W.hideAll_none _ List.mem_cons_self,z2,z3⟩,?_,?_,?_,?_,?_,?_,?_,hE⟩
 · intro b o q
   have nb:b≠e:=by
    intro z
    rw [z,unt_same] at q
    cases q
   refine (unt_ok I.hok hH b o q).stay (fun c v hc r=>kB c v r ?_ ?_) (fun _ r=>r) fun _ _ r=>r
   · rcases hc with z|z
     · rw [z]
       exact nb
     · intro y
       rw [y,unt_same] at z
       cases z
   · intro y
     have y':=fre c y
     rcases hc with z|z
     · rw [unt_ne nb,←z,y'] at q
       cases q
     · by_cases ce:c=e
       · rw [ce,unt_same] at z
         cases z
       · rw [unt_ne ce,y'] at z
         cases z
 · intro b o q n hb
   exact kB b o (un.keep b o q n hb (by simp)) (ne b o q) (nfr b o q hb)
 · intro b o q n hb
   obtain ⟨sl,e1⟩:=un.slot b o q n hb (by simp)
   have nd:=(stk.mem (b:=b) (frs_cons.mpr (.inr hb))).2
   obtain ⟨o1,e2,d2⟩:=nd
   rw [e1] at e2
   cases e2
   obtain ⟨sl',e3⟩:=z4 b _ e1 d2
   exact ⟨sl',e3⟩
 · intro b o q n
   rw [unt_ne (ne b o q)]
   exact un.free b o q n (by simp)
 · intro b o q hb
   obtain ⟨o',e1⟩:=un.there b o q (by simp)
   exact ⟨o',kB b o' e1 (ne b o q) (nfr b o q hb)⟩
 · intro b xs q
   have q1:=un.tups b xs q
   rw [unt_ne]
   · exact q1
   · intro z
     rw [z,hH] at q1
     cases q1
 · intro b o u q
   have q1:=un.frzs b o u q
   rw [unt_ne]
   · exact q1
   · intro z
     rw [z,hH] at q1
     cases q1
 · intro b ps q
   obtain ⟨more,q1⟩:=un.tbls b ps q
   refine ⟨more,?_⟩
   rw [unt_ne]
   · exact q1
   · intro z
     rw [z,hH] at q1
     cases q1
theorem pass1 {X:Cx} {P:Program} {w:World}:Passes (CX1 P w) X E0:=fun _ _ _ _ _ _ _ h=>by
 obtain ⟨_,_,_,_,_,h⟩:=h
 exact h.2.2.2.2.2.2.2.2.2.2.2.2.2.2.elim
section
open PySem PySem.W Builtin Builtin.ObjectAttr Builtin.Getset_descriptor
variable {prog:Program} {w:World} {A:Around} {E:Value→Shared→Prop} {h:Heap} {g:Array GenState} {d:Drawn} {t:Nat} {os:OsState} {a C:Addr} {o:Obj} {K:Frag}
structure XIs (K:Frag) (C:Addr):Prop where
 cls:(clsIn K C).isSome=true
 ga:findIn K (.ref C) "__getattribute__"=some (some (.builtin "BaseException.__getattribute__"))
 hook:findIn K (.ref C) "__getattr__"=some none
 cl:findIn K (.ref C) "__class__"=some (some (.builtin "object.__class__"))
 mo:mroIn K C (.type "object")=some true
 mb:mroIn K C (.type "BaseException")=some true
theorem look_name {M:Model} {n:Str} {r:Option Value} {Q:Option Value→Shared→Prop} (X:K.In h) (e:findIn K (.ref C) n=some r) (z:Q r ⟨h,g,d,t,os⟩):wpAny M A (typeLookup (.ref C) n) Q E ⟨h,g,d,t,os⟩:=
 (looks_findIn (M:=M) X e).at z
theorem look_mro {M:Model} {b:Value} {r:Bool} {Q:Bool→Shared→Prop} (X:K.In h) (e:mroIn K C b=some r) (z:Q r ⟨h,g,d,t,os⟩):wpAny M A (isSubtype (.ref C) b) Q E ⟨h,g,d,t,os⟩:=
 (looks_mroIn (M:=M) X e).at z
theorem exc_class_get {R:Result→Shared→Prop} {tp:Value} (Z:XIs K C) (X:K.In h) (hx:h.get? a=some o) (hc:o.cls= .ref C) (z:R (.ok (.ret (.ref C))) ⟨h,g,d,t,os⟩):
 codeAny (model prog w) A (.call (.builtin "getset_descriptor.__get__") ⟨[.builtin "object.__class__", .ref a,tp],[]⟩) R ⟨h,g,d,t,os⟩:=by
 have L0:Looks (model prog w) h (typeOf (.ref a)) (.ref C):=by
  have:=((Looks.ld (M:=model prog w) (part:=some headPart) hx).andThen (f:=fun o=>pure o.cls) .now)
  rw [hc] at this
  exact this
 have L1:=looks_mroIn (M:=model prog w) X Z.mo
 refine codeAny_call_builtin KF.slot_gs.plain KF.entry_gs (KF.slot_gs.check _ _ _ _ _ _ _ _ KF.type_class (KF.args_gs _ _ _) ?_)
 unfold Builtin.«getset_descriptor.__get__» descrGet
 rw [dga_obj]
 refine wpAny_bind (wpAny_pure ?_)
 unfold descrGetter descrCheckInstance descrNameAndClass isInstance
 simp only [KF.owner_class]
 repeat lk
 refine ⟨Code.quiet_builtin _ (by decide +kernel),codeAny_builtin KF.entry_class ?_⟩
 unfold Builtin.«object.__class__» shownTypeOf
 repeat lk
 exact z
theorem may_ga {M:Model} {nv:Value} {Q:Unit→Shared→Prop} (Z:XIs K C) (X:K.In h) (hx:h.get? a=some o) (hc:o.cls= .ref C) (z:Q () ⟨h,g,d,t,os⟩):
 wpAny M A (checkBuiltinCall "BaseException.__getattribute__" ⟨[.ref a,nv],[]⟩) Q E ⟨h,g,d,t,os⟩:=by
 have hk:builtinKind "BaseException.__getattribute__"=some .slot:=by decide +kernel
 have hs:splitId "BaseException.__getattribute__"=some ("BaseException","__getattribute__"):=by decide +kernel
 have ha:=PySem.F.args_bexc_ga (.ref a) nv
 simp only [checkBuiltinCall,hk,hs]
 refine wpAny_bind ?_
 unfold isInstance
 repeat
  first
  |(with_reducible refine wpAny_loadPart_at hx ?_;rw [hc])
  |with_reducible refine look_mro X Z.mb ?_
  |wp_step
 exact z
theorem exc_class {Q:Option Value→Shared→Prop} (Z:XIs K C) (X:K.In h) (hx:h.get? a=some o) (hc:o.cls= .ref C) (z:Q (some (.ref C)) ⟨h,g,d,t+1,os⟩):
 wpAny (model prog w) A (getAttr? (.ref a) "__class__") Q E ⟨h,g,d,t,os⟩:=by
 have f3:=PySem.F.excAttr_ValueError.ga.bind (.ref a)
 have b2:(Value.builtin "BaseException.__getattribute__"==Value.builtin "object.__getattribute__")=false:=by decide +kernel
 have b1:(onTheHeap (Value.ref C)&&Value.builtin "BaseException.__getattribute__"==Value.builtin "object.__getattribute__")=false:=by rw [b2];rfl
 have f5:=PySem.F.typeOf_object_class
 have f6:=PySem.F.slot_gs_get.lookup
 have f7:=PySem.F.slot_gs_set.lookup
 have hT5:(⟨h,g,d,t+1,os⟩:Shared).TypeIs (.builtin "object.__class__") "getset_descriptor":=PySem.F.typeOf_object_class
 unfold getAttr? getAttrBy?
 refine wpAny_bind (wpAny_mkText (wpAny_bind (wpAny_attempt ?_)))
 unfold getAttrBy
 repeat
  any_goals
   first
   |assumption
   |(with_reducible refine wpAny_loadPart_at hx ?_;rw [hc])
   |with_reducible refine look_name X Z.ga ?_
   |with_reducible refine look_name X Z.hook ?_
   |wp_step
 refine codeAny_call_builtin PySem.F.excAttr_ValueError.ga.plain PySem.F.entry_bexc_ga (may_ga Z X hx hc ?_)
 repeat
  any_goals
   first
   |assumption
   |(with_reducible refine wpAny_loadPart_at hx ?_;rw [hc])
   |with_reducible refine look_name X Z.cl ?_
   |wp_step
 refine exc_class_get Z X hx hc ?_
 repeat
  any_goals
   first
   |assumption
   |wp_step
end
open PySem PySem.Spec PyProof.Rows
noncomputable def Cau (C a:Addr):HO:= .ext fun h=>∃o,h.get? a=some o∧o.cls= .ref C
theorem cau_ok {P:Program} {w:World} {H:Hp} {h:Heap} {C a:Addr} {o:Obj} (x:h.get? a=some o) (c:o.cls= .ref C):ObjOk P w H h a (Cau C a):=
 ⟨⟨o,x,c⟩,⟨_,x⟩,fun _ _ ⟨o',y,c'⟩ k=>⟨o',k _ y,c'⟩⟩
theorem kitx_exc {K:PySem.W.Frag} {C a:Addr} (Z:XIs K C):PySem.W.KitX K (.ref a) (.ref C) (fun h=>∃o,h.get? a=some o∧o.cls= .ref C) where
 ty:=fun M h _ ⟨o,e,c⟩=>by
  have:=((PySem.W.Looks.ld (M:=M) (part:=some headPart) e).andThen (f:=fun o=>pure o.cls) .now)
  rw [c] at this
  exact this
 it:=fun M h X _=>by
  have hc:=Z.cls
  unfold PySem.W.clsIn at hc
  split at hc
  · rename_i ho
    intro A' Q' E' s' k q
    unfold isType loadHead
    exact wpAny_bind (wpAny_loadPart (k _ _ (X _ _ ho)) (wpAny_pure q))
  · cases hc
 ne:=fun h tp dd its n sl X htp=>by
  have hc:=Z.cls
  refine Bool.eq_false_iff.mpr fun q=> ?_
  have e:C=tp:=Value.ref.inj (beq_iff_eq.mp q)
  subst e
  unfold PySem.W.clsIn at hc
  split at hc
  · rename_i ho
    cases (X _ _ ho).symm.trans htp
  · cases hc
 ca:=fun {prog w A E Q s} X ⟨o,e,c⟩ k=>by
  obtain ⟨h,g,d,t,os⟩:=s
  exact exc_class Z X e c k
noncomputable def clsV:V→Value
 | .ty n=> .type n
 | .ref a=> .ref a
 |_=> .none
def isCls:V→Bool
 | .ty _=>true
 | .ref _=>true
 |_=>false
theorem clsV_of {x:V} {u:Value} (r:RelV x u) (h:isCls x=true):u=clsV x:=by
 cases x with
 |ty n=>exact r
 |ref a=>exact r
 |_=>cases h
theorem clsV_all:∀ {xs:List V} {us:List Value},Vals xs us→xs.all isCls=true→us=xs.map clsV
 |_,_, .nil,_=>rfl
 |_,_, .cons r t,h=>by
  rw [List.all_cons,Bool.and_eq_true] at h
  rw [clsV_of r h.1,clsV_all t h.2,List.map_cons]
inductive TyX (K:PySem.W.Frag) (H:Hp):V→Value→Prop where
 |of {x:V} {t:Value} (h:TyOf K H x t):TyX K H x t
 |exc {a C:Addr} (e:H a=some (Cau C a)) (Z:XIs K C):TyX K H (.ref a) (.ref C)
section
variable {X:Cx}
theorem TyX.kit {pins:List (Addr×Obj)} {σ:St} {H:Hp} {s:Shared} {x:V} {u t:Value} (I:Inv X pins σ H s) (rx:RelV x u) (ty:TyX X.K H x t):∃Hh,PySem.W.KitX X.K u t Hh∧Hh s.heap∧u≠ .builtin "__main__.__loader__#opaque":=by
 cases ty with
 |of ty=>
  cases ty with
  |non=>cases (show u=Value.none from rx);exact ⟨_,PySem.W.kitx_none,True.intro,fun z=>nomatch z⟩
  |bl y=>cases (show u=Value.bool y from rx);exact ⟨_,PySem.W.kitx_bool,True.intro,fun z=>nomatch z⟩
  |int i=>obtain ⟨t,q⟩:=(show∃t,u=Value.int i t from rx);cases q;exact ⟨_,PySem.W.kitx_int,True.intro,fun z=>nomatch z⟩
  |str y=>obtain ⟨t,q⟩:=(show∃t,u=Value.str y t from rx);cases q;exact ⟨_,PySem.W.kitx_str,True.intro,fun z=>nomatch z⟩
  |flt y=>obtain ⟨t,q⟩:=(show∃t,u=Value.float y t from rx);cases q;exact ⟨_,PySem.W.kitx_float,True.intro,fun z=>nomatch z⟩
  | @lst a xs ea=>
   cases (show u=Value.ref a from rx)
   obtain ⟨_,_,n,_,h1⟩:=(show ObjOk X.prog X.w H s.heap a (.lst xs) from I.hok a _ ea)
   exact ⟨_,PySem.W.kitx_list,⟨_,h1,rfl⟩,fun z=>nomatch z⟩
  | @frz a ob xs ea=>
   cases (show u=Value.ref a from rx)
   obtain ⟨_,_,_,n,_,h1⟩:=(show ObjOk X.prog X.w H s.heap a (.frz ob (.lst xs)) from I.hok a _ ea)
   exact ⟨_,PySem.W.kitx_list,⟨_,h1,rfl⟩,fun z=>nomatch z⟩
  | @tup a xs ea=>
   cases (show u=Value.ref a from rx)
   obtain ⟨_,_,_,o,h1,h2,_⟩:=(show ObjOk X.prog X.w H s.heap a (.tup xs) from I.hok a _ ea)
   exact ⟨_,PySem.W.kitx_tuple,⟨o,h1,h2⟩,fun z=>nomatch z⟩
  | @dK a kvs ea=>
   cases (show u=Value.ref a from rx)
   obtain ⟨_,_,vs,_,o,es,ep,h1,h2,_⟩:=(show ObjOk X.prog X.w H s.heap a (.dK kvs) from I.hok a _ ea)
   exact ⟨_,PySem.W.kitx_dict,⟨o,h1,h2.1⟩,fun z=>nomatch z⟩
  | @dT a kvs ea=>
   cases (show u=Value.ref a from rx)
   obtain ⟨_,_,xs,_,o,es,ep,h1,h2,_⟩:=(show ObjOk X.prog X.w H s.heap a (.dT kvs) from I.hok a _ ea)
   exact ⟨_,PySem.W.kitx_dict,⟨o,h1,h2.1⟩,fun z=>nomatch z⟩
  | @ins a C dx fs ea cl ha hn htk hm=>
   cases (show u=Value.ref a from rx)
   obtain ⟨mA,O,_⟩:=ins_get I.hok ea
   obtain ⟨od,J,_⟩:=O.look
   exact ⟨_,PySem.W.kitx_own (cl.get _) cl.hd ha hn htk hm,J,fun z=>nomatch z⟩
 | @exc a C e Z=>
  cases (show u=Value.ref a from rx)
  obtain ⟨h1,_⟩:=(show ObjOk X.prog X.w H s.heap a (Cau C a) from I.hok a _ e)
  exact ⟨_,kitx_exc Z,h1,fun z=>nomatch z⟩
def rIsi (K:PySem.W.Frag):List V→Hp→VK→Prop:=fun xs H Q=>∃x c t b,xs= [x,c]∧TyX K H x t∧
 ((isCls c=true∧PySem.W.kitOne K t (clsV c)=some b)∨(∃p ys,c= .ref p∧H p=some (.tup ys)∧ys.all isCls=true∧PySem.W.kitAny K t (ys.map clsV)=some b))∧Q (.bl b) H
theorem call_isi:CallR X (.builtin "isinstance") (rIsi X.K):=by
 intro pins s σ H xs us Q I r h
 obtain ⟨x,c,t,b,e,ty,h,q⟩:=h
 subst e
 cases r with
 | @cons _ u _ _ rx r=>
  cases r with
  | @cons _ v _ _ rc r=>
   cases r
   obtain ⟨Hh,Z,hp,hne⟩:=ty.kit I rx
   rcases h with ⟨hc,hk⟩|⟨p,ys,e,hH,hall,hk⟩
   · cases clsV_of rc hc
     exact PySem.W.kia_one Z I.kIn hp hk hne fun tk=>⟨.bl b,H,I.tok tk,rfl,q⟩
   · subst e
     cases (show v=Value.ref p from rc)
     obtain ⟨_,its,rv,⟨oc,od,oda,osl⟩,h1,h2,n,h3⟩:=(show ObjOk X.prog X.w H s.heap p (.tup ys) from I.hok p _ hH)
     dsimp only at h2 h3
     subst h2 h3
     cases clsV_all rv hall
     exact PySem.W.kia_tup Z I.kIn hp h1 hk hne fun tk=>⟨.bl b,H,I.tok tk,rfl,q⟩
end
open PySem PySem.Spec PyProof.Rows
abbrev TSX:=Ends→XK→St→Hp→Prop
def PSX (X:Cx) (CX:CXT) (body:List Stmt) (t:TSX):Prop:=
 ∀(pins:List (Addr×Obj)) (s:Shared) (σ:St) (H:Hp) (D:Ends) (E:XK),Inv X pins σ H s→t D E σ H→
  wpAny (model X.prog X.w) X.A (execs body X.env) (SP X pins D) (fun e s'=>∃H0 s0,Inv X pins σ H0 s0∧CX X.stack H0 s0 E e s') s
section
variable {X:Cx} {CX:CXT} {k:Nat} {f:Addr} {fd:FuncData} {ps:List Str} {sp:Sp} {x:Str} {p pos epos:Pos} {e:Expr} {es:List Expr} {t:TA}
end
abbrev Cx.caught (X:Cx) (a:Addr):Cx:= {X with A:=X.A.mark (some (.ref a)),calm:=false,xe:=fun _ _=>False}
section
variable {X:Cx} {pins:List (Addr×Obj)} {σ:St} {H:Hp} {s:Shared} {a:Addr}
theorem Inv.caught (I:Inv X pins σ H s) (a:Addr):Inv (X.caught a) pins σ H s:=
 ⟨⟨I.ok.mod,I.ok.kind,I.ok.glob,I.ok.blt,I.ok.above,I.ok.inj,I.ok.has,I.ok.cab,(fun z=>by cases z),I.ok.frames,I.ok.stk,I.ok.exf,I.ok.bs,I.ok.bsz,I.ok.noex,I.ok.exfs,I.ok.funs,I.ok.frf⟩,I.os,I.bare,I.base,I.loc,I.cell,I.free,I.freeC,I.pin,I.hok,I.len⟩
theorem Inv.uncaught (I:Inv (X.caught a) pins σ H s) (ok:X.Ok):Inv X pins σ H s:=⟨ok,I.os,I.bare,I.base,I.loc,I.cell,I.free,I.freeC,I.pin,I.hok,I.len⟩
theorem Inv.flown {H0 H':Hp} {s0 s1:Shared} {B h6:Heap} {C a:Addr} {a0:Value} (I0:Inv X pins σ H0 s0) (os:s1.os=s0.os) (bare:AllBare s1.gens) (nA:s0.heap.get? a=none) (nH:H' a=none) (okB:HOk X.prog X.w H' B)
 (kB:∀b o,s0.heap.get? b=some o→H0 b=none→b∉frs X.stack→B.get? b=some o) (slB:∀b o,s0.heap.get? b=some o→H0 b=none→b∈frs X.stack→∃sl,s1.heap.get? b=some {o with slots:=sl})
 (frB:∀b o,s0.heap.get? b=some o→H0 b=none→H' b=none) (thB:∀b o,s0.heap.get? b=some o→b∉frs X.stack→∃o',B.get? b=some o')
 (tu:∀b xs,H0 b=some (.tup xs)→H' b=some (.tup xs)) (fz:∀b o u,H0 b=some (.frz o u)→H' b=some (.frz o u)) (tb:∀b ps,H0 b=some (.tbl ps)→∃more,H' b=some (.tbl (ps++more)))
 (fl:Heap.FlyingW B X.stack a (.ref C) a0 s1.heap) (fl6:Heap.FlyingW B X.stack a (.ref C) a0 h6) (sm:s1.heap.UpToSlots h6):Inv X pins σ (upd H' a (Cau C a)) {s1 with heap:=h6}:=by
 have ne:∀b o,s0.heap.get? b=some o→b≠a:=fun b o q z=>by
  rw [z,nA] at q
  cases q
 have ne':∀b o,H' b=some o→b≠a:=fun b o q z=>by
  rw [z,nH] at q
  cases q
 refine I0.call' (s':= {s1 with heap:=h6}) (ch:= []) os ⟨fun b o q n hb _=> ?_,fun b o q n hb _=> ?_,fun b o q n _=> ?_,fun b o q _=> ?_,fun b xs q=> ?_,fun b o u q=> ?_,fun b ps q=> ?_⟩ ?_ bare (fun b z=>absurd z (by simp))
 · exact fl6.1 b o (kB b o q n hb)
 · obtain ⟨sl,e1⟩:=slB b o q n hb
   obtain ⟨_,o1,e2,d2⟩:=fl.2.2.1.mem hb
   rw [e1] at e2
   cases e2
   obtain ⟨sl',e3⟩:=sm b _ e1 d2
   exact ⟨sl',e3⟩
 · rw [upd_ne (ne b o q)]
   exact frB b o q n
 · by_cases hb:b∈frs X.stack
   · obtain ⟨_,o1,e2,_⟩:=fl6.2.2.1.mem hb
     exact ⟨o1,e2⟩
   · obtain ⟨o',e1⟩:=thB b o q hb
     exact ⟨o',fl6.1 b o' e1⟩
 · have:=tu b xs q
   rw [upd_ne (ne' _ _ this)]
   exact this
 · have:=fz b o u q
   rw [upd_ne (ne' _ _ this)]
   exact this
 · obtain ⟨more,this⟩:=tb b ps q
   refine ⟨more,?_⟩
   rw [upd_ne (ne' _ _ this)]
   exact this
 · have ok6:HOk X.prog X.w H' h6:=okB.kept fl6.1
   intro b o q
   by_cases hb:b=a
   · subst hb
     rw [upd_same] at q
     cases q
     obtain ⟨ob,e1,c1⟩:=fl6.there
     exact cau_ok e1 c1
   · rw [upd_ne hb] at q
     exact (ok6 b o q).stay (fun _ _ _ r=>r) (fun c r=>by rw [upd_ne (ne' _ _ r)];exact r) fun c xs r=>by rw [upd_ne (ne' _ _ r)];exact r
end
section
variable {X:Cx} {body suite:List Stmt} {b0:Stmt} {tb:TSX} {ts:TS} {i:Nat} {n cx:Str} {np hpos pos:Pos} {W:Addr}
end
open PySem PySem.Spec PyProof.Rows
section
variable {X:Cx}
def Big (i:Int):Prop:=i.natAbs < 2^8000
theorem op_mulB:OpR X (binaryOp .Mult) (rI (fun i j=>Big i∧Big j) fun i j=> .int (i*j)):=opI fun _ _ _ _ _ _ _ hc q=>
 PyProof.Rows.mul_int q (IntMulOk.of_le (m:=8000) (n:=8000) (intBits_le_iff.mpr hc.1) (intBits_le_iff.mpr hc.2) (by decide))
theorem big_py {i j:Int} (h:Big j):Builtin.divisionGoesByPylong i j=false:=by
 refine PyProof.noPylong_of_log2 ?_
 by_cases z:j.natAbs=0
 · rw [z];decide
 · exact Nat.lt_trans ((Nat.log2_lt z).mpr h) (by decide)
theorem op_fdivC:OpR X (binaryOp .FloorDiv) (rI (fun _ j=>j≠0∧Big j) fun i j=> .int (i.fdiv j)):=opI fun _ _ _ _ _ _ _ hc q=>floordiv_int hc.1 q (.inl (big_py hc.2))
theorem call_sumL (hc:X.calm=true):CallR X (.builtin "sum") (fun xs H Q=>∃(p:Addr) (ns:List Int),xs= [.ref p]∧SqL X.K H p (ns.map V.int)∧Q (.int ns.sum) H):=by
 intro pins s σ H xs us Q I r h
 obtain ⟨p,ns,e,hp,q⟩:=h
 subst e
 cases r with
 | @cons _ u _ _ r rr=>
  cases rr
  cases (show u=Value.ref p from r)
  obtain ⟨its,rv,pl,_⟩:=I.list hp
  have hi:=intsAre_of rv
  obtain ⟨zs,ez⟩:=hi.allInts.items
  have hl:=pl.isList
  rw [ez] at hl
  refine sum_intListG (I.ok.hd hc) hl fun h' tk t' hk=> ?_
  have e2:preSum (numAt zs) zs.size=ns.sum:=by
   have e3:numsOf (intItems zs).toList=ns:=by
    rw [←ez]
    exact hi.numsOf
   rw [preSum_eq,List.take_of_length_le (by simp),←nums_intItems,e3]
  rw [e2]
  exact ⟨.int ns.sum,H,I.kept hk,⟨_,rfl⟩,q⟩
end
theorem Fun.okX {P:Program} {w:World} {K:PySem.W.Frag} {mg:Str→Option Value} {base:Heap} {CX:CXT} {x qual:Str} {st:Stmt} {f:Addr} {fd:FuncData} {N ps:List Str} {k:Nat} {sp:Sp} (F:Fun K x qual st f fd) (S:FnScope N ps (defScope st))
 (len:∀vs H Q E,sp vs H Q E→vs.length=ps.length)
 (hbody:∀(cdv:Value) (A:Around) (outer:List Env) (s:Shared) (H:Hp) (vs:List V) (Q:VK) (E:XK),Room k (A.deeper (envOfC qual (defScope st) s.heap.objs.size f cdv))→sp vs H Q E→
  ∃t,PSs (cxOf CX P w K mg base N qual (defScope st) f cdv A outer s H E) (defBody st) t∧t {nx:=fun _ H'=>Q .non H',rt:=Q} (start N vs) H):FnOk P w K mg base CX (k+1) f fd ps sp:=by
 obtain ⟨oc,od,kV,doc,pm,an,cdv,ct,osl,rfl,lk,hcd⟩:=F.ex
 exact fn_of lk hcd S len fun A outer s H vs Q E hr hsp=>hbody cdv A outer s H vs Q E hr hsp
theorem boot_isinstance:bootBuiltins "isinstance"=some (.builtin "isinstance"):=by decide +kernel
theorem boot_sum:bootBuiltins "sum"=some (.builtin "sum"):=by decide +kernel
theorem boot_abs:bootBuiltins "abs"=some (.builtin "abs"):=by decide +kernel
theorem boot_ve:bootBuiltins "ValueError"=some (.type "ValueError"):=by decide +kernel
open PySem PySem.Spec PyProof.Rows
section
variable {X:Cx}
end
section
variable {X:Cx} {CX:CXT} {k:Nat} {f:Addr} {fd:FuncData} {ps:List Str} {sp:Sp} {x:Str} {p pos rpos:Pos} {e:Expr} {es:List Expr} {t:TA}
end
section
variable {X:Cx} {body suite:List Stmt} {b0:Stmt} {tb:TSX} {ts:TS} {cx:Str} {np hpos pos:Pos} {W:Addr}
end
end L2
namespace Tre
open PySem PySem.Spec PyProof.Rows L2
inductive Tr where
 |non
 |bl (b:Bool)
 |int (i:Int)
 |str (x:Str)
 |tup (ts:List Tr)
 |ls
mutual
noncomputable def Tr.depth:Tr→Nat
 | .tup ts=>Trs.depth ts+1
 |_=>0
noncomputable def Trs.depth:List Tr→Nat
 | []=>0
 |t::ts=>max (Tr.depth t) (Trs.depth ts)
end
mutual
def Tr.pure:Tr→Prop
 | .tup ts=>Trs.pure ts
 | .ls=>False
 |_=>True
def Trs.pure:List Tr→Prop
 | []=>True
 |t::ts=>Tr.pure t∧Trs.pure ts
end
mutual
def TrAt (H:Hp):V→Tr→Prop
 |v, .non=>v= .non
 |v, .bl b=>v= .bl b
 |v, .int i=>v= .int i
 |v, .str x=>v= .str x
 |v, .tup ts=>∃r vs,v= .ref r∧H r=some (.tup vs)∧TrsAt H vs ts
 |v, .ls=>∃r xs,v= .ref r∧H r=some (.lst xs)
def TrsAt (H:Hp):List V→List Tr→Prop
 |vs,[]=>vs= []
 |vs,t::ts=>∃v r,vs=v::r∧TrAt H v t∧TrsAt H r ts
end
structure Kd (H H':Hp):Prop where
 tup:∀a xs,H a=some (.tup xs)→H' a=some (.tup xs)
 lst:∀a xs,H a=some (.lst xs)→∃ys,H' a=some (.lst ys)
theorem Kd.refl (H:Hp):Kd H H:=⟨fun _ _ e=>e,fun _ xs e=>⟨xs,e⟩⟩
theorem Kd.trans {H H1 H2:Hp} (a:Kd H H1) (b:Kd H1 H2):Kd H H2:=⟨fun x o e=>b.tup x o (a.tup x o e),fun x o e=>by
 obtain ⟨ys,e1⟩:=a.lst x o e
 exact b.lst x ys e1⟩
theorem Kd.of_same {H H':Hp} (s:Same H H'):Kd H H':=⟨fun a xs e=>s a _ e,fun a xs e=>⟨xs,s a _ e⟩⟩
theorem Kd.upd {H:Hp} {p:Addr} {xs ys:List V} (h:H p=some (.lst xs)):Kd H (upd H p (.lst ys)):=by
 refine ⟨fun a zs e=> ?_,fun a zs e=> ?_⟩
 · rw [upd_ne]
   · exact e
   · intro z
     rw [z,h] at e
     cases e
 · by_cases z:a=p
   · subst z
     exact ⟨ys,upd_same⟩
   · exact ⟨zs,(upd_ne z).trans e⟩
mutual
theorem TrAt.mono {H H':Hp} (k:Kd H H'):∀ {v:V} {t:Tr},TrAt H v t→TrAt H' v t
 |v, .non,h=>by unfold TrAt at h ⊢;exact h
 |v, .bl b,h=>by unfold TrAt at h ⊢;exact h
 |v, .int i,h=>by unfold TrAt at h ⊢;exact h
 |v, .str x,h=>by unfold TrAt at h ⊢;exact h
 |v, .ls,h=>by
  unfold TrAt at h ⊢
  obtain ⟨r,xs,e,h⟩:=h
  obtain ⟨ys,h'⟩:=k.lst r xs h
  exact ⟨r,ys,e,h'⟩
 |v, .tup ts,h=>by
  unfold TrAt at h ⊢
  obtain ⟨r,vs,e,h1,h2⟩:=h
  exact ⟨r,vs,e,k.tup _ _ h1,TrsAt.mono k h2⟩
theorem TrsAt.mono {H H':Hp} (k:Kd H H'):∀ {vs:List V} {ts:List Tr},TrsAt H vs ts→TrsAt H' vs ts
 |vs,[],h=>by unfold TrsAt at h ⊢;exact h
 |vs,t::ts,h=>by
  unfold TrsAt at h ⊢
  obtain ⟨v,r,e,h1,h2⟩:=h
  exact ⟨v,r,e,TrAt.mono k h1,TrsAt.mono k h2⟩
end
theorem TrsAt.nil {H:Hp}:TrsAt H [] []:=by unfold TrsAt;rfl
theorem TrsAt.cons {H:Hp} {v:V} {t:Tr} {vs:List V} {ts:List Tr} (h:TrAt H v t) (r:TrsAt H vs ts):TrsAt H (v::vs) (t::ts):=by
 unfold TrsAt
 exact ⟨v,vs,rfl,h,r⟩
theorem TrsAt.inv {H:Hp} {t:Tr} {vs:List V} {ts:List Tr} (h:TrsAt H vs (t::ts)):∃v r,vs=v::r∧TrAt H v t∧TrsAt H r ts:=by
 unfold TrsAt at h
 exact h
theorem TrsAt.len {H:Hp}:∀ {vs:List V} {ts:List Tr},TrsAt H vs ts→vs.length=ts.length
 |vs,[],h=>by
  unfold TrsAt at h
  rw [h]
  rfl
 |vs,t::ts,h=>by
  obtain ⟨v,r,e,_,h2⟩:=h.inv
  rw [e,List.length_cons,List.length_cons,h2.len]
theorem TrsAt.app {H:Hp} {ws:List V} {us:List Tr} (b:TrsAt H ws us):∀ {vs:List V} {ts:List Tr},TrsAt H vs ts→TrsAt H (vs++ws) (ts++us)
 |vs,[],h=>by
  unfold TrsAt at h
  subst h
  exact b
 |vs,t::ts,h=>by
  obtain ⟨v,r,e,h1,h2⟩:=h.inv
  subst e
  exact .cons h1 (TrsAt.app b h2)
theorem TrsAt.get {H:Hp}:∀ {vs:List V} {ts:List Tr} {i:Nat} {t:Tr},TrsAt H vs ts→ts[i]?=some t→∃v,vs[i]?=some v∧TrAt H v t
 |vs,[],i,t,_,e=>by simp at e
 |vs,a::ts,0,t,h,e=>by
  obtain ⟨v,r,rfl,h1,h2⟩:=h.inv
  simp at e
  subst e
  exact ⟨v,rfl,h1⟩
 |vs,a::ts,i+1,t,h,e=>by
  obtain ⟨v,r,rfl,h1,h2⟩:=h.inv
  obtain ⟨u,e1,e2⟩:=h2.get (i:=i) (by simpa using e)
  exact ⟨u,by simpa using e1,e2⟩
theorem TrsAt.get' {H:Hp} {vs:List V} {ts:List Tr} {i:Nat} {v:V} (h:TrsAt H vs ts) (e:vs[i]?=some v):∃t,ts[i]?=some t∧TrAt H v t:=by
 have hl:=h.len
 have hi:i < vs.length:=(List.getElem?_eq_some_iff.mp e).1
 obtain ⟨u,e1,e2⟩:=h.get (i:=i) (t:=ts[i]'(by omega)) (List.getElem?_eq_getElem _)
 rw [e] at e1
 cases e1
 exact ⟨_,List.getElem?_eq_getElem _,e2⟩
mutual
theorem TrAt.det {H:Hp}:∀ {v:V} {t u:Tr},TrAt H v t→TrAt H v u→t=u
 |v, .non,u,h1,h2=>by
  unfold TrAt at h1
  subst h1
  cases u<;>unfold TrAt at h2<;>first|rfl|(cases h2;done)|(obtain ⟨_,_,e,_⟩:=h2;cases e)
 |v, .bl b,u,h1,h2=>by
  unfold TrAt at h1
  subst h1
  cases u<;>unfold TrAt at h2<;>first|(cases h2;rfl)|(cases h2;done)|(obtain ⟨_,_,e,_⟩:=h2;cases e)
 |v, .int b,u,h1,h2=>by
  unfold TrAt at h1
  subst h1
  cases u<;>unfold TrAt at h2<;>first|(cases h2;rfl)|(cases h2;done)|(obtain ⟨_,_,e,_⟩:=h2;cases e)
 |v, .str b,u,h1,h2=>by
  unfold TrAt at h1
  subst h1
  cases u<;>unfold TrAt at h2<;>first|(cases h2;rfl)|(cases h2;done)|(obtain ⟨_,_,e,_⟩:=h2;cases e)
 |v, .ls,u,h1,h2=>by
  unfold TrAt at h1
  obtain ⟨r,xs,rfl,h1⟩:=h1
  cases u<;>unfold TrAt at h2<;>first|rfl|(cases h2;done)|(obtain ⟨_,_,e,h2,_⟩:=h2;cases e;rw [h1] at h2;cases h2)
 |v, .tup ts, .tup us,h1,h2=>by
  unfold TrAt at h1 h2
  obtain ⟨r,vs,rfl,h1,h3⟩:=h1
  obtain ⟨r',vs',e,h2,h4⟩:=h2
  cases e
  rw [h1] at h2
  cases h2
  rw [TrsAt.det h3 h4]
 |v, .tup ts, .non,h1,h2=>by unfold TrAt at h1 h2;obtain ⟨_,_,e,_⟩:=h1;rw [h2] at e;cases e
 |v, .tup ts, .bl _,h1,h2=>by unfold TrAt at h1 h2;obtain ⟨_,_,e,_⟩:=h1;rw [h2] at e;cases e
 |v, .tup ts, .int _,h1,h2=>by unfold TrAt at h1 h2;obtain ⟨_,_,e,_⟩:=h1;rw [h2] at e;cases e
 |v, .tup ts, .str _,h1,h2=>by unfold TrAt at h1 h2;obtain ⟨_,_,e,_⟩:=h1;rw [h2] at e;cases e
 |v, .tup ts, .ls,h1,h2=>by
  unfold TrAt at h1 h2
  obtain ⟨r,vs,rfl,h1,_⟩:=h1
  obtain ⟨r',xs,e,h2⟩:=h2
  cases e
  rw [h1] at h2
  cases h2
theorem TrsAt.det {H:Hp}:∀ {vs:List V} {ts us:List Tr},TrsAt H vs ts→TrsAt H vs us→ts=us
 |vs,[],[],_,_=>rfl
 |vs,[],u::us,h1,h2=>by
  have a:=h1.len
  have b:=h2.len
  rw [a] at b
  simp at b
 |vs,t::ts,[],h1,h2=>by
  have a:=h1.len
  have b:=h2.len
  rw [a] at b
  simp at b
 |vs,t::ts,u::us,h1,h2=>by
  obtain ⟨v,r,rfl,h3,h4⟩:=h1.inv
  obtain ⟨v',r',e,h5,h6⟩:=h2.inv
  cases e
  rw [TrAt.det h3 h5,TrsAt.det h4 h6]
end
mutual
noncomputable def eqT:Tr→Tr→Bool
 | .non, .non=>true
 | .bl a, .bl b=>a==b
 | .bl a, .int i=>(if a then 1 else 0)==i
 | .int i, .bl b=>i==(if b then 1 else 0)
 | .int i, .int j=>i==j
 | .str x, .str y=>x==y
 | .tup ts, .tup us=>eqTs ts us
 | .ls, .ls=>true
 |_,_=>false
noncomputable def eqTs:List Tr→List Tr→Bool
 | [],[]=>true
 |t::ts,u::us=>eqT t u&&eqTs ts us
 |_,_=>false
end
mutual
theorem eqT_refl:∀t:Tr,eqT t t=true
 | .non=>by simp [eqT]
 | .bl _=>by simp [eqT]
 | .int _=>by simp [eqT]
 | .str _=>by simp [eqT]
 | .ls=>by simp [eqT]
 | .tup ts=>by simp only [eqT];exact eqTs_refl ts
theorem eqTs_refl:∀ts:List Tr,eqTs ts ts=true
 | []=>by simp [eqTs]
 |t::ts=>by simp [eqTs,eqT_refl t,eqTs_refl ts]
end
noncomputable def eqJ (ts us:List Tr) (j:Nat):Bool:=match ts[j]?,us[j]? with
 |some t,some u=>eqT t u
 |_,_=>true
theorem eqJ_at {ts us:List Tr} {j:Nat} {t u:Tr} (h1:ts[j]?=some t) (h2:us[j]?=some u):eqJ ts us j=eqT t u:=by
 unfold eqJ
 rw [h1,h2]
theorem eqTs_all:∀(ts us:List Tr),eqTs ts us=((List.range (min ts.length us.length)).all (eqJ ts us)&&ts.length==us.length)
 | [],[]=>by simp [eqTs]
 | [],u::us=>by simp [eqTs]
 |t::ts,[]=>by simp [eqTs]
 |t::ts,u::us=>by
  simp only [eqTs,List.length_cons]
  rw [eqTs_all ts us,show min (ts.length+1) (us.length+1)=min ts.length us.length+1 by omega,List.range_succ_eq_map,List.all_cons,List.all_map]
  have e:(eqJ (t::ts) (u::us)) ∘ Nat.succ=eqJ ts us:=by
   funext j
   simp [eqJ]
  rw [e]
  simp [eqJ,Bool.and_assoc]
open PySem PySem.Spec PyProof.Rows L2
section
variable {X:Cx} {pins:List (Addr×Obj)} {σ:L2.St} {H:Hp} {s:Shared} {A:Around}
theorem tups_eqAt {a b:Addr} {xs ys:List V} (I:Inv X pins σ H s) (ha:H a=some (.tup xs)) (hb:H b=some (.tup ys)) (hu:A.units < cLine) (e:Nat→Bool) (hne:a≠b)
 (he:∀j x y u v,xs[j]?=some x→ys[j]?=some y→RelV x u→RelV y v→SeqAt.EqAt A.in1 s u v (e j)):
 SeqAt.EqAt A s (.ref a) (.ref b) ((List.range (min xs.length ys.length)).all e&&xs.length==ys.length):=by
 obtain ⟨us,r1,p1,_⟩:=I.tuple (SqT.of ha)
 obtain ⟨ws,r2,p2,_⟩:=I.tuple (SqT.of hb)
 have l1:=r1.length
 have l2:=r2.length
 have:=SeqAt.RcAt.tuples (A:=A) (e:=e) (show s.heap.IsTuple a us.toArray from p1) (show s.heap.IsTuple b ws.toArray from p2) hu fun j h1 h2=>by
  have h1':j < us.length:=by simpa using h1
  have h2':j < ws.length:=by simpa using h2
  obtain ⟨u,e1,q1⟩:=r1.get (i:=j) (x:=xs[j]'(by omega)) (List.getElem?_eq_getElem _)
  obtain ⟨v,e2,q2⟩:=r2.get (i:=j) (x:=ys[j]'(by omega)) (List.getElem?_eq_getElem _)
  have z1:us.toArray[j]=u:=by rw [List.getElem_toArray];rw [List.getElem?_eq_getElem h1'] at e1;exact Option.some.inj e1
  have z2:ws.toArray[j]=v:=by rw [List.getElem_toArray];rw [List.getElem?_eq_getElem h2'] at e2;exact Option.some.inj e2
  rw [z1,z2]
  exact he j _ _ u v (List.getElem?_eq_getElem _) (List.getElem?_eq_getElem _) q1 q2
 rw [List.size_toArray,List.size_toArray,←l1,←l2] at this
 exact SeqAt.EqAt.of_refs hne this
theorem depth_memT:∀ {ts:List Tr} {t:Tr},t∈ts→t.depth≤Trs.depth ts
 |a::ts,t,h=>by
  unfold Trs.depth
  rcases List.mem_cons.mp h with rfl|h
  · omega
  · have:=depth_memT h
    omega
theorem pure_mem:∀ {ts:List Tr} {t:Tr},Trs.pure ts→t∈ts→t.pure
 |a::ts,t,p,h=>by
  unfold Trs.pure at p
  rcases List.mem_cons.mp h with rfl|h
  · exact p.1
  · exact pure_mem p.2 h
theorem tr_tupAt {r:Addr} {vs:List V} (I:Inv X pins σ H s) (h:H r=some (.tup vs)):∃its:Array Value,s.heap.IsTuple r its:=by
 obtain ⟨us,_,p,_⟩:=I.tuple (SqT.of h)
 exact ⟨_,p⟩
theorem tr_lstAt {r:Addr} {vs:List V} (I:Inv X pins σ H s) (h:H r=some (.lst vs)):∃its:Array Value,s.heap.IsList r its:=by
 obtain ⟨us,_,p,_⟩:=I.list (SqL.of h)
 exact ⟨_,p.isList⟩
theorem sc_eqAt (I:Inv X pins σ H s) {A:Around} {t u:Tr} {v w:V} {a b:Value} (hd:∀ts,t≠ .tup ts) (hp:t.pure∨u.pure) (h1:TrAt H v t) (h2:TrAt H w u) (r1:RelV v a) (r2:RelV w b) (hu0:A.units < cLine):SeqAt.EqAt A s a b (eqT t u):=by
 cases t with
 |tup ts=>exact (hd ts rfl).elim
 |non=>
  unfold TrAt at h1
  subst h1
  cases (show a=Value.none from r1)
  cases u with
  |non=>unfold TrAt at h2;subst h2;cases (show b=Value.none from r2);simp only [eqT];exact SeqAt.EqAt.same _
  |bl c=>unfold TrAt at h2;subst h2;cases (show b=Value.bool c from r2);simp only [eqT];exact SeqAt.EqAt.none_bool c
  |int c=>unfold TrAt at h2;subst h2;obtain ⟨t',rfl⟩:=r2;simp only [eqT];exact SeqAt.EqAt.none_int c t'
  |str c=>unfold TrAt at h2;subst h2;obtain ⟨t',rfl⟩:=r2;simp only [eqT];exact SeqAt.EqAt.none_str c t'
  |tup us=>unfold TrAt at h2;obtain ⟨r,vs,rfl,g1,_⟩:=h2;cases r2;obtain ⟨its,p⟩:=tr_tupAt I g1;simp only [eqT];exact SeqAt.EqAt.none_tuple p hu0
  |ls=>unfold TrAt at h2;obtain ⟨r,vs,rfl,g1⟩:=h2;cases r2;obtain ⟨its,p⟩:=tr_lstAt I g1;simp only [eqT];exact SeqAt.EqAt.none_list p hu0
 |bl d=>
  unfold TrAt at h1
  subst h1
  cases (show a=Value.bool d from r1)
  cases u with
  |non=>unfold TrAt at h2;subst h2;cases (show b=Value.none from r2);simp only [eqT];exact SeqAt.EqAt.bool_none d
  |bl c=>unfold TrAt at h2;subst h2;cases (show b=Value.bool c from r2);simp only [eqT];exact SeqAt.EqAt.bool_bool d c
  |int c=>unfold TrAt at h2;subst h2;obtain ⟨t',rfl⟩:=r2;simp only [eqT];exact SeqAt.EqAt.bool_int d c t'
  |str c=>unfold TrAt at h2;subst h2;obtain ⟨t',rfl⟩:=r2;simp only [eqT];exact SeqAt.EqAt.bool_str d c t'
  |tup us=>unfold TrAt at h2;obtain ⟨r,vs,rfl,g1,_⟩:=h2;cases r2;obtain ⟨its,p⟩:=tr_tupAt I g1;simp only [eqT];exact SeqAt.EqAt.bool_tuple d p hu0
  |ls=>unfold TrAt at h2;obtain ⟨r,vs,rfl,g1⟩:=h2;cases r2;obtain ⟨its,p⟩:=tr_lstAt I g1;simp only [eqT];exact SeqAt.EqAt.bool_list d p hu0
 |int d=>
  unfold TrAt at h1
  subst h1
  obtain ⟨t0,rfl⟩:=r1
  cases u with
  |non=>unfold TrAt at h2;subst h2;cases (show b=Value.none from r2);simp only [eqT];exact SeqAt.EqAt.int_none d t0
  |bl c=>unfold TrAt at h2;subst h2;cases (show b=Value.bool c from r2);simp only [eqT];exact SeqAt.EqAt.int_bool d t0 c
  |int c=>unfold TrAt at h2;subst h2;obtain ⟨t',rfl⟩:=r2;simp only [eqT];exact SeqAt.EqAt.int_int d t0 c t'
  |str c=>unfold TrAt at h2;subst h2;obtain ⟨t',rfl⟩:=r2;simp only [eqT];exact SeqAt.EqAt.int_str d t0 c t'
  |tup us=>unfold TrAt at h2;obtain ⟨r,vs,rfl,g1,_⟩:=h2;cases r2;obtain ⟨its,p⟩:=tr_tupAt I g1;simp only [eqT];exact SeqAt.EqAt.int_tuple d t0 p hu0
  |ls=>unfold TrAt at h2;obtain ⟨r,vs,rfl,g1⟩:=h2;cases r2;obtain ⟨its,p⟩:=tr_lstAt I g1;simp only [eqT];exact SeqAt.EqAt.int_list d t0 p hu0
 |str d=>
  unfold TrAt at h1
  subst h1
  obtain ⟨t0,rfl⟩:=r1
  cases u with
  |non=>unfold TrAt at h2;subst h2;cases (show b=Value.none from r2);simp only [eqT];exact SeqAt.EqAt.str_none d t0
  |bl c=>unfold TrAt at h2;subst h2;cases (show b=Value.bool c from r2);simp only [eqT];exact SeqAt.EqAt.str_bool d t0 c
  |int c=>unfold TrAt at h2;subst h2;obtain ⟨t',rfl⟩:=r2;simp only [eqT];exact SeqAt.EqAt.str_int d t0 c t'
  |str c=>unfold TrAt at h2;subst h2;obtain ⟨t',rfl⟩:=r2;simp only [eqT];exact SeqAt.EqAt.str_str d t0 c t'
  |tup us=>unfold TrAt at h2;obtain ⟨r,vs,rfl,g1,_⟩:=h2;cases r2;obtain ⟨its,p⟩:=tr_tupAt I g1;simp only [eqT];exact SeqAt.EqAt.str_tuple d t0 p hu0
  |ls=>unfold TrAt at h2;obtain ⟨r,vs,rfl,g1⟩:=h2;cases r2;obtain ⟨its,p⟩:=tr_lstAt I g1;simp only [eqT];exact SeqAt.EqAt.str_list d t0 p hu0
 |ls=>
  unfold TrAt at h1
  obtain ⟨r0,vs0,rfl,g0⟩:=h1
  cases r1
  obtain ⟨its0,p0⟩:=tr_lstAt I g0
  cases u with
  |non=>unfold TrAt at h2;subst h2;cases (show b=Value.none from r2);simp only [eqT];exact SeqAt.EqAt.list_none p0 hu0
  |bl c=>unfold TrAt at h2;subst h2;cases (show b=Value.bool c from r2);simp only [eqT];exact SeqAt.EqAt.list_bool c p0 hu0
  |int c=>unfold TrAt at h2;subst h2;obtain ⟨t',rfl⟩:=r2;simp only [eqT];exact SeqAt.EqAt.list_int c t' p0 hu0
  |str c=>unfold TrAt at h2;subst h2;obtain ⟨t',rfl⟩:=r2;simp only [eqT];exact SeqAt.EqAt.list_str c t' p0 hu0
  |tup us=>unfold TrAt at h2;obtain ⟨r,vs,rfl,g1,_⟩:=h2;cases r2;obtain ⟨its,p⟩:=tr_tupAt I g1;simp only [eqT];exact SeqAt.EqAt.list_tuple p0 p hu0
  |ls=>rcases hp with hp|hp<;>simp [Tr.pure] at hp
theorem tr_eqAt (I:Inv X pins σ H s):∀(n:Nat) {A:Around} {t u:Tr} {v w:V} {a b:Value},t.depth≤n→(t.pure∨u.pure)→TrAt H v t→TrAt H w u→RelV v a→RelV w b→A.units+n+1 < cLine→SeqAt.EqAt A s a b (eqT t u):=by
 intro n
 induction n with
 |zero=>
  intro A t u v w a b hd hp h1 h2 r1 r2 hu
  refine sc_eqAt I (fun ts e=> ?_) hp h1 h2 r1 r2 (by omega)
  subst e
  simp [Tr.depth] at hd
 |succ n ih=>
  intro A t u v w a b hd hp h1 h2 r1 r2 hu
  have hu0:A.units < cLine:=by omega
  cases t with
  |tup ts=>
   have h1':=h1
   have h2':=h2
   unfold TrAt at h1
   obtain ⟨r0,vs0,rfl,g0,k0⟩:=h1
   cases r1
   obtain ⟨its0,p0⟩:=tr_tupAt I g0
   unfold Tr.depth at hd
   cases u with
   |non=>unfold TrAt at h2;subst h2;cases (show b=Value.none from r2);simp only [eqT];exact SeqAt.EqAt.tuple_none p0 hu0
   |bl c=>unfold TrAt at h2;subst h2;cases (show b=Value.bool c from r2);simp only [eqT];exact SeqAt.EqAt.tuple_bool c p0 hu0
   |int c=>unfold TrAt at h2;subst h2;obtain ⟨t',rfl⟩:=r2;simp only [eqT];exact SeqAt.EqAt.tuple_int c t' p0 hu0
   |str c=>unfold TrAt at h2;subst h2;obtain ⟨t',rfl⟩:=r2;simp only [eqT];exact SeqAt.EqAt.tuple_str c t' p0 hu0
   |ls=>unfold TrAt at h2;obtain ⟨r,vs,rfl,g1⟩:=h2;cases r2;obtain ⟨its,p⟩:=tr_lstAt I g1;simp only [eqT];exact SeqAt.EqAt.tuple_list p0 p hu0
   |tup us=>
    unfold TrAt at h2
    obtain ⟨r,vs,rfl,g1,k1⟩:=h2
    cases r2
    by_cases z:r0=r
    · subst z
      rw [←TrAt.det h1' h2',eqT_refl]
      exact SeqAt.EqAt.same _
    · have:=tups_eqAt I g0 g1 hu0 (eqJ ts us) z fun j x y u' v' m1 m2 q1 q2=>by
       obtain ⟨t1,n1,a1⟩:=k0.get' m1
       obtain ⟨t2,n2,a2⟩:=k1.get' m2
       rw [eqJ_at n1 n2]
       refine ih (A:=A.in1) (by have:=depth_memT (List.mem_of_getElem? n1);omega) ?_ a1 a2 q1 q2 (by show A.units+1+n+1 < cLine;omega)
       rcases hp with hp|hp
       · unfold Tr.pure at hp
         exact .inl (pure_mem hp (List.mem_of_getElem? n1))
       · unfold Tr.pure at hp
         exact .inr (pure_mem hp (List.mem_of_getElem? n2))
      rw [k0.len,k1.len,←eqTs_all] at this
      simp only [eqT]
      exact this
  |_=>exact sc_eqAt I (fun ts e=>by cases e) hp h1 h2 r1 r2 hu0
end
open PySem PySem.Spec PyProof.Rows L2
open PySem.AutoSeq1 (wpAny_loadPart')
def LtAt (A:Around) (s:Shared) (y x:Value) (b:Bool):Prop:=
 ∀(prog:Program) (w:World) (E:Value→Shared→Prop) (Q:Value→Shared→Prop),Q (.bool b) s→wpAny (model prog w) A (richCompare .Lt y x) Q E s
def LexAt (A:Around) (s:Shared):List Value→List Value→List (Bool×Bool)→Prop
 |v::vs,w::ws,(e,l)::q=>SeqAt.EqAt A s v w e∧(e=false→LtAt A s v w l)∧(e=true→LexAt A s vs ws q)
 | [],_,q=>q= []
 |_,[],q=>q= []
 |_,_,_=>False
noncomputable def lexV (fin:Bool):List (Bool×Bool)→Bool
 | []=>fin
 |(e,l)::q=>if e=true then lexV fin q else l
theorem tuple_lt_any (l b:Addr) (items items2:Array Value) (n n2:Nat) (dd dd2:Option Addr) (sl sl2:Array (Option Value)) (q:List (Bool×Bool)):
 Meets (Builtin.«tuple.__lt__» ⟨[.ref l, .ref b],[]⟩)
  (fun A R s=>s.heap.get? l=some {cls:= .type "tuple",dict:=dd,data:= .seq items n,slots:=sl}∧s.heap.get? b=some {cls:= .type "tuple",dict:=dd2,data:= .seq items2 n2,slots:=sl2}∧
   LexAt A.in1 s items.toList items2.toList q∧R (.ok (.ret (.bool (lexV (decide (items.size < items2.size)) q)))) s):=
 .of_wp fun prog w A R s h=>by
  obtain ⟨hp,g,d,tk,os⟩:=s;obtain ⟨hl,hb,hx,h⟩:=h
  have f2:=AutoSeq1.sub_tuple_tuple
  wp_walk using wpAny_loadPart' hl,wpAny_loadPart' hb,wpAny_forIn_list _ (fun rest b s'=>b.1=none∧s'=⟨hp,g,d,tk,os⟩∧∃(vs ws:List Value) (q':List (Bool×Bool)),rest=vs.zip ws∧
   LexAt A.in1 ⟨hp,g,d,tk,os⟩ vs ws q'∧R (.ok (.ret (.bool (lexV (decide (items.size < items2.size)) q')))) ⟨hp,g,d,tk,os⟩) _
  case turn=>
   rintro ⟨y,x⟩ rest b s' ⟨hb',rfl,vs,ws,q',hz,hlx,hR⟩
   match vs,ws,q',hz,hlx,hR with
   | [],_,_,hz,_,_=>rw [List.zip_nil_left] at hz;cases hz
   |_::_,[],_,hz,_,_=>rw [List.zip_nil_right] at hz;cases hz
   |v::vs,w'::ws,[],_,hlx,_=>exact hlx.elim
   |v::vs,w'::ws,(e,lo)::q',hz,hlx,hR=>
    rw [List.zip_cons_cons] at hz
    injection hz with hyx hrest
    injection hyx with hy hx'
    subst hy hx'
    obtain ⟨he,hlt,hlx⟩:=hlx
    refine wpAny_bind (he prog w _ _ ?_)
    cases e with
    |true=>
     wp_walk
     exact ⟨rfl,rfl,_,_,_,hrest,hlx rfl,hR⟩
    |false=>
     have hri:=hlt rfl prog w
     wp_walk using hri
     exact ⟨_,rfl,hR⟩
  case fin=>
   rintro ⟨b1,b2⟩ s' ⟨hb',rfl,vs,ws,q',hz,hlx,hR⟩
   simp only at hb'
   subst hb'
   have hq:q'= []:=by
    match vs,ws,q',hz,hlx with
    | [],_,_,_,hlx=>unfold LexAt at hlx;exact hlx
    |_::_,[],_,_,hlx=>unfold LexAt at hlx;exact hlx
    |_::_,_::_,_,hz,_=>rw [List.zip_cons_cons] at hz;cases hz
   subst hq
   wp_walk
   exact ⟨_,rfl,by simpa [Builtin.Tuple.tupleCompareSizes,lexV] using hR⟩
  case h=>
   exact ⟨rfl,rfl,items.toList,items2.toList,q,rfl,hx,h⟩
theorem tuple_ltAt {A:Around} {s:Shared} {l b:Addr} {items items2:Array Value} {q:List (Bool×Bool)} (hl:s.heap.IsTuple l items) (hb:s.heap.IsTuple b items2) (hu:A.units < cLine)
 (hx:LexAt A.in1 s items.toList items2.toList q):LtAt A s (.ref l) (.ref b) (lexV (decide (items.size < items2.size)) q):=by
 intro prog w E Q h
 obtain ⟨⟨cls,dd,data,sl⟩,ho,hc,n,hd⟩:=id hl
 obtain ⟨⟨cls2,dd2,data2,sl2⟩,ho2,hc2,n2,hd2⟩:=id hb
 simp only at hc hd hc2 hd2
 subst hc hd hc2 hd2
 exact richCompare_meets_room (op:= .Lt) ⟨_,ho,rfl⟩ ⟨_,ho2,rfl⟩ PySem.F.slot_tuple_lt PySem.F.entry_tuple_lt (PySem.F.args_tuple_lt_2 _ _) (tuple_lt_any l b items items2 n n2 dd dd2 sl sl2 q)
  ⟨ho,ho2,hx,show Value.bool (lexV (decide (items.size < items2.size)) q)≠Value.notImplemented∧Q (.bool (lexV (decide (items.size < items2.size)) q)) s from ⟨(fun x=>nomatch x),h⟩⟩ hu
open PySem L2
inductive Co where
 |non
 |num (i:Int)
 |str (l:List Nat)
 |tup (cs:List Co)
 |ls
noncomputable def Co.kind:Co→Nat
 | .non=>0
 | .num _=>1
 | .str _=>2
 | .tup _=>3
 | .ls=>4
mutual
noncomputable def code:Tr→Co
 | .non=> .non
 | .bl b=> .num (if b then 1 else 0)
 | .int i=> .num i
 | .str x=> .str x.cps.toList
 | .tup ts=> .tup (codes ts)
 | .ls=> .ls
noncomputable def codes:List Tr→List Co
 | []=> []
 |t::ts=>code t::codes ts
end
theorem str_beq (x y:Str):((x==y)=true)↔x.cps.toList=y.cps.toList:=by
 rw [beq_iff_eq]
 constructor
 · rintro rfl
   rfl
 · intro h
   cases x
   cases y
   simp only [Str.mk.injEq]
   exact Array.toList_inj.mp h
mutual
theorem eqT_code:∀(t u:Tr),(eqT t u=true)↔code t=code u
 | .non,u=>by cases u<;>simp [eqT,code]
 | .bl a,u=>by cases u<;>simp [eqT,code];cases a<;>rename_i b<;>cases b<;>simp
 | .int i,u=>by cases u<;>simp [eqT,code]
 | .str x, .str y=>by simp only [eqT,code,Co.str.injEq];exact str_beq x y
 | .str x, .non=>by simp [eqT,code]
 | .str x, .bl _=>by simp [eqT,code]
 | .str x, .int _=>by simp [eqT,code]
 | .str x, .tup _=>by simp [eqT,code]
 | .str x, .ls=>by simp [eqT,code]
 | .ls,u=>by cases u<;>simp [eqT,code]
 | .tup ts, .tup us=>by simp only [eqT,code,Co.tup.injEq];exact eqTs_code ts us
 | .tup ts, .non=>by simp [eqT,code]
 | .tup ts, .bl _=>by simp [eqT,code]
 | .tup ts, .int _=>by simp [eqT,code]
 | .tup ts, .str _=>by simp [eqT,code]
 | .tup ts, .ls=>by simp [eqT,code]
theorem eqTs_code:∀(ts us:List Tr),(eqTs ts us=true)↔codes ts=codes us
 | [],[]=>by simp [eqTs,codes]
 | [],u::us=>by simp [eqTs,codes]
 |t::ts,[]=>by simp [eqTs,codes]
 |t::ts,u::us=>by
  simp only [eqTs,codes,Bool.and_eq_true,List.cons.injEq]
  rw [eqT_code t u,eqTs_code ts us]
end
mutual
def LtC:Co→Co→Prop
 | .num i, .num j=>i < j
 | .str l, .str m=>l < m
 | .tup cs, .tup ds=>LtCs cs ds
 |c,d=>c.kind < d.kind
def LtCs:List Co→List Co→Prop
 | [],[]=>False
 | [],_::_=>True
 |_::_,[]=>False
 |c::cs,d::ds=>LtC c d∨(c=d∧LtCs cs ds)
end
theorem ltC_kind {c d:Co} (h:LtC c d):c.kind≤d.kind:=by
 cases c<;>cases d<;>simp [LtC,Co.kind] at h ⊢
theorem ltC_of_kind {c d:Co} (h:c.kind < d.kind):LtC c d:=by
 cases c<;>cases d<;>simp [LtC,Co.kind] at h ⊢
mutual
theorem ltC_irr:∀c:Co,¬LtC c c
 | .non=>by simp [LtC,Co.kind]
 | .num _=>by simp [LtC]
 | .str l=>by simp only [LtC];exact List.lt_irrefl l
 | .tup cs=>by simp only [LtC];exact ltCs_irr cs
 | .ls=>by simp [LtC,Co.kind]
theorem ltCs_irr:∀cs:List Co,¬LtCs cs cs
 | []=>by simp [LtCs]
 |c::cs=>by
  simp only [LtCs,not_or]
  exact ⟨ltC_irr c,fun h=>ltCs_irr cs h.2⟩
end
mutual
theorem ltC_tri:∀c d:Co,LtC c d∨c=d∨LtC d c
 | .num i, .num j=>by simp only [LtC,Co.num.injEq];omega
 | .str l, .str m=>by
  simp only [LtC,Co.str.injEq]
  by_cases h1:l < m
  · exact .inl h1
  · by_cases h2:m < l
    · exact .inr (.inr h2)
    · exact .inr (.inl (List.le_antisymm (List.not_lt.mp h2) (List.not_lt.mp h1)))
 | .tup cs, .tup ds=>by simp only [LtC,Co.tup.injEq];exact ltCs_tri cs ds
 | .non,d=>by cases d<;>simp [LtC,Co.kind]
 | .ls,d=>by cases d<;>simp [LtC,Co.kind]
 | .num i, .non=>by simp [LtC,Co.kind]
 | .num i, .str _=>by simp [LtC,Co.kind]
 | .num i, .tup _=>by simp [LtC,Co.kind]
 | .num i, .ls=>by simp [LtC,Co.kind]
 | .str i, .non=>by simp [LtC,Co.kind]
 | .str i, .num _=>by simp [LtC,Co.kind]
 | .str i, .tup _=>by simp [LtC,Co.kind]
 | .str i, .ls=>by simp [LtC,Co.kind]
 | .tup i, .non=>by simp [LtC,Co.kind]
 | .tup i, .num _=>by simp [LtC,Co.kind]
 | .tup i, .str _=>by simp [LtC,Co.kind]
 | .tup i, .ls=>by simp [LtC,Co.kind]
theorem ltCs_tri:∀cs ds:List Co,LtCs cs ds∨cs=ds∨LtCs ds cs
 | [],[]=>by simp
 | [],d::ds=>by simp [LtCs]
 |c::cs,[]=>by simp [LtCs]
 |c::cs,d::ds=>by
  simp only [LtCs,List.cons.injEq]
  rcases ltC_tri c d with h|h|h
  · exact .inl (.inl h)
  · rcases ltCs_tri cs ds with g|g|g
    · exact .inl (.inr ⟨h,g⟩)
    · exact .inr (.inl ⟨h,g⟩)
    · exact .inr (.inr (.inr ⟨h.symm,g⟩))
  · exact .inr (.inr (.inl h))
end
theorem ltC_mixed {a b c:Co} (h1:LtC a b) (h2:LtC b c) (hk:a.kind < b.kind∨b.kind < c.kind):LtC a c:=by
 have k1:=ltC_kind h1
 have k2:=ltC_kind h2
 exact ltC_of_kind (by omega)
mutual
theorem ltC_trans:∀ {a b c:Co},LtC a b→LtC b c→LtC a c
 | .num i, .num j, .num k,h1,h2=>by simp only [LtC] at *;omega
 | .str i, .str j, .str k,h1,h2=>by simp only [LtC] at *;exact List.lt_trans h1 h2
 | .tup i, .tup j, .tup k,h1,h2=>by simp only [LtC] at *;exact ltCs_trans h1 h2
 | .num _, .num _, .str _,h1,h2=>ltC_mixed h1 h2 (by simp [LtC,Co.kind] at h1 h2 ⊢)
 | .num _, .num _, .tup _,h1,h2=>ltC_mixed h1 h2 (by simp [LtC,Co.kind] at h1 h2 ⊢)
 | .num _, .num _, .non,h1,h2=>ltC_mixed h1 h2 (by simp [LtC,Co.kind] at h1 h2 ⊢)
 | .num _, .num _, .ls,h1,h2=>ltC_mixed h1 h2 (by simp [LtC,Co.kind] at h1 h2 ⊢)
 | .num _, .str _,_,h1,h2=>ltC_mixed h1 h2 (by simp [LtC,Co.kind] at h1 h2 ⊢)
 | .num _, .tup _,_,h1,h2=>ltC_mixed h1 h2 (by simp [LtC,Co.kind] at h1 h2 ⊢)
 | .num _, .non,_,h1,h2=>ltC_mixed h1 h2 (by simp [LtC,Co.kind] at h1 h2 ⊢)
 | .num _, .ls,_,h1,h2=>ltC_mixed h1 h2 (by simp [LtC,Co.kind] at h1 h2 ⊢)
 | .str _, .str _, .num _,h1,h2=>ltC_mixed h1 h2 (by simp [LtC,Co.kind] at h1 h2 ⊢)
 | .str _, .str _, .tup _,h1,h2=>ltC_mixed h1 h2 (by simp [LtC,Co.kind] at h1 h2 ⊢)
 | .str _, .str _, .non,h1,h2=>ltC_mixed h1 h2 (by simp [LtC,Co.kind] at h1 h2 ⊢)
 | .str _, .str _, .ls,h1,h2=>ltC_mixed h1 h2 (by simp [LtC,Co.kind] at h1 h2 ⊢)
 | .str _, .num _,_,h1,h2=>ltC_mixed h1 h2 (by simp [LtC,Co.kind] at h1 h2 ⊢)
 | .str _, .tup _,_,h1,h2=>ltC_mixed h1 h2 (by simp [LtC,Co.kind] at h1 h2 ⊢)
 | .str _, .non,_,h1,h2=>ltC_mixed h1 h2 (by simp [LtC,Co.kind] at h1 h2 ⊢)
 | .str _, .ls,_,h1,h2=>ltC_mixed h1 h2 (by simp [LtC,Co.kind] at h1 h2 ⊢)
 | .tup _, .tup _, .num _,h1,h2=>ltC_mixed h1 h2 (by simp [LtC,Co.kind] at h1 h2 ⊢)
 | .tup _, .tup _, .str _,h1,h2=>ltC_mixed h1 h2 (by simp [LtC,Co.kind] at h1 h2 ⊢)
 | .tup _, .tup _, .non,h1,h2=>ltC_mixed h1 h2 (by simp [LtC,Co.kind] at h1 h2 ⊢)
 | .tup _, .tup _, .ls,h1,h2=>ltC_mixed h1 h2 (by simp [LtC,Co.kind] at h1 h2 ⊢)
 | .tup _, .num _,_,h1,h2=>ltC_mixed h1 h2 (by simp [LtC,Co.kind] at h1 h2 ⊢)
 | .tup _, .str _,_,h1,h2=>ltC_mixed h1 h2 (by simp [LtC,Co.kind] at h1 h2 ⊢)
 | .tup _, .non,_,h1,h2=>ltC_mixed h1 h2 (by simp [LtC,Co.kind] at h1 h2 ⊢)
 | .tup _, .ls,_,h1,h2=>ltC_mixed h1 h2 (by simp [LtC,Co.kind] at h1 h2 ⊢)
 | .non,b,_,h1,h2=>ltC_mixed h1 h2 (by cases b<;>simp [LtC,Co.kind] at h1 h2 ⊢)
 | .ls,b,_,h1,h2=>ltC_mixed h1 h2 (by cases b<;>simp [LtC,Co.kind] at h1 h2 ⊢)
theorem ltCs_trans:∀ {a b c:List Co},LtCs a b→LtCs b c→LtCs a c
 | [],[],_,h1,_=>by simp [LtCs] at h1
 | [],_::_,[],_,h2=>by simp [LtCs] at h2
 | [],_::_,_::_,_,_=>by simp [LtCs]
 |_::_,[],_,h1,_=>by simp [LtCs] at h1
 |_::_,_::_,[],_,h2=>by simp [LtCs] at h2
 |x::a,y::b,z::c,h1,h2=>by
  simp only [LtCs] at*
  rcases h1 with h1|⟨e1,h1⟩
  · rcases h2 with h2|⟨e2,h2⟩
    · exact .inl (ltC_trans h1 h2)
    · exact .inl (e2▸h1)
  · rcases h2 with h2|⟨e2,h2⟩
    · exact .inl (e1▸h2)
    · exact .inr ⟨e1.trans e2,ltCs_trans h1 h2⟩
end
open Classical in
noncomputable def ltT (t u:Tr):Bool:=decide (LtC (code t) (code u))
open Classical in
theorem ltT_iff {t u:Tr}:(ltT t u=true)↔LtC (code t) (code u):=by
 unfold ltT
 exact decide_eq_true_iff
theorem ltT_asym {t u:Tr} (h:ltT t u=true):ltT u t=false:=by
 cases e:ltT u t with
 |false=>rfl
 |true=>exact absurd (ltC_trans (ltT_iff.mp h) (ltT_iff.mp e)) (ltC_irr _)
theorem ltT_le {a b c:Tr} (h1:ltT b a=false) (h2:ltT c b=false):ltT c a=false:=by
 cases e:ltT c a with
 |false=>rfl
 |true=>
  have n1:¬LtC (code b) (code a):=fun z=>by rw [ltT_iff.mpr z] at h1;cases h1
  have n2:¬LtC (code c) (code b):=fun z=>by rw [ltT_iff.mpr z] at h2;cases h2
  have l:=ltT_iff.mp e
  rcases ltC_tri (code a) (code b) with q|q|q
  · exact absurd (ltC_trans l q) n2
  · rw [q] at l
    exact absurd l n2
  · exact absurd q n1
theorem ltT_eq {a b:Tr} (h1:ltT a b=false) (h2:ltT b a=false):eqT a b=true:=by
 rw [eqT_code]
 rcases ltC_tri (code a) (code b) with q|q|q
 · rw [ltT_iff.mpr q] at h1
   cases h1
 · exact q
 · rw [ltT_iff.mpr q] at h2
   cases h2
open PySem PySem.Spec PyProof.Rows L2
mutual
def Cm:Tr→Tr→Prop
 | .bl _, .bl _=>True
 | .int _, .int _=>True
 | .str _, .str _=>True
 | .tup ts, .tup us=>Cms ts us
 |_,_=>False
def Cms:List Tr→List Tr→Prop
 |t::ts,u::us=>(eqT t u=true∧Cms ts us)∨(eqT t u=false∧Cm t u)
 | [],_=>True
 |_::_,[]=>True
end
noncomputable def qs:List Tr→List Tr→List (Bool×Bool)
 |t::ts,u::us=>(eqT t u,ltT t u)::qs ts us
 | [],_=> []
 |_::_,[]=> []
theorem lexV_qs:∀(ts us:List Tr),(lexV (decide (ts.length < us.length)) (qs ts us)=true)↔LtCs (codes ts) (codes us)
 | [],[]=>by simp [qs,lexV,codes,LtCs]
 | [],u::us=>by simp [qs,lexV,codes,LtCs]
 |t::ts,[]=>by simp [qs,lexV,codes,LtCs]
 |t::ts,u::us=>by
  have ih:=lexV_qs ts us
  have e:decide ((t::ts).length < (u::us).length)=decide (ts.length < us.length):=by simp
  rw [e]
  simp only [qs,lexV,codes,LtCs]
  by_cases h:eqT t u=true
  · rw [if_pos h,ih]
    have hc:=(eqT_code t u).mp h
    rw [hc]
    constructor
    · intro z
      exact .inr ⟨rfl,z⟩
    · rintro (z|⟨_,z⟩)
      · exact absurd z (ltC_irr _)
      · exact z
  · rw [if_neg h]
    have hc:¬code t=code u:=fun z=>h ((eqT_code t u).mpr z)
    constructor
    · intro z
      exact .inl (ltT_iff.mp z)
    · rintro (z|⟨z,_⟩)
      · exact ltT_iff.mpr z
      · exact absurd z hc
theorem bool_of_iff {a b:Bool} (h:(a=true)↔(b=true)):a=b:=Bool.eq_iff_iff.mpr h
section
variable {X:Cx} {pins:List (Addr×Obj)} {σ:L2.St} {H:Hp} {s:Shared}
theorem lex_of (I:Inv X pins σ H s) {n:Nat} {A:Around} (hu:A.units+n+1 < cLine)
 (ih:∀ {t u:Tr} {v w:V} {a b:Value},t.depth≤n→(t.pure∨u.pure)→Cm t u→TrAt H v t→TrAt H w u→RelV v a→RelV w b→LtAt A s a b (ltT t u)):
 ∀ {ts us:List Tr} {vs ws:List V} {as bs:List Value},Trs.depth ts≤n→(Trs.pure ts∨Trs.pure us)→Cms ts us→TrsAt H vs ts→TrsAt H ws us→Vals vs as→Vals ws bs→LexAt A s as bs (qs ts us)
 | [],us,vs,ws,as,bs,hd,hp,hc,h1,h2,r1,r2=>by
  unfold TrsAt at h1
  subst h1
  cases r1
  cases us<;>simp [LexAt,qs]
 |t::ts,[],vs,ws,as,bs,hd,hp,hc,h1,h2,r1,r2=>by
  unfold TrsAt at h2
  subst h2
  cases r2
  obtain ⟨v,r,rfl,_,_⟩:=h1.inv
  cases r1
  simp [LexAt,qs]
 |t::ts,u::us,vs,ws,as,bs,hd,hp,hc,h1,h2,r1,r2=>by
  obtain ⟨v,r,rfl,g1,g2⟩:=h1.inv
  obtain ⟨v',r',rfl,g3,g4⟩:=h2.inv
  unfold Trs.depth at hd
  have hp1:t.pure∨u.pure:=by
   rcases hp with hp|hp<;>unfold Trs.pure at hp
   · exact .inl hp.1
   · exact .inr hp.1
  have hp2:Trs.pure ts∨Trs.pure us:=by
   rcases hp with hp|hp<;>unfold Trs.pure at hp
   · exact .inl hp.2
   · exact .inr hp.2
  cases r1 with
  |cons q1 q2=>
   cases r2 with
   |cons q3 q4=>
    simp only [LexAt,qs]
    refine ⟨tr_eqAt I n (by omega) hp1 g1 g3 q1 q3 hu,fun e=> ?_,fun e=> ?_⟩
    · unfold Cms at hc
      rcases hc with ⟨e',_⟩|⟨_,hc⟩
      · rw [e] at e'
        cases e'
      · exact ih (by omega) hp1 hc g1 g3 q1 q3
    · unfold Cms at hc
      rcases hc with ⟨_,hc⟩|⟨e',_⟩
      · exact lex_of I hu ih (by omega) hp2 hc g2 g4 q2 q4
      · rw [e] at e'
        cases e'
theorem sc_ltAt {A:Around} {t u:Tr} {v w:V} {a b:Value} (hd:∀ts,t≠ .tup ts) (hc:Cm t u) (h1:TrAt H v t) (h2:TrAt H w u) (r1:RelV v a) (r2:RelV w b):LtAt A s a b (ltT t u):=by
 cases t<;>cases u<;>unfold Cm at hc<;>first|exact hc.elim|skip
 · rename_i x y
   unfold TrAt at h1 h2
   subst h1 h2
   cases (show a=Value.bool x from r1)
   cases (show b=Value.bool y from r2)
   intro prog w' E Q h
   refine lt_bool ?_
   have e:decide (b2i x < b2i y)=ltT (.bl x) (.bl y):=by
    refine bool_of_iff ?_
    rw [ltT_iff,decide_eq_true_iff]
    cases x<;>cases y<;>simp [code,LtC,b2i]
   rw [e]
   exact h
 · rename_i x y
   unfold TrAt at h1 h2
   subst h1 h2
   obtain ⟨t1,rfl⟩:=r1
   obtain ⟨t2,rfl⟩:=r2
   intro prog w' E Q h
   refine lt_int ?_
   have e:decide (x < y)=ltT (.int x) (.int y):=by
    refine bool_of_iff ?_
    rw [ltT_iff,decide_eq_true_iff]
    simp [code,LtC]
   rw [e]
   exact h
 · rename_i x y
   unfold TrAt at h1 h2
   subst h1 h2
   obtain ⟨t1,rfl⟩:=r1
   obtain ⟨t2,rfl⟩:=r2
   intro prog w' E Q h
   refine lt_str ?_
   have e:decide (x.cps.toList < y.cps.toList)=ltT (.str x) (.str y):=by
    refine bool_of_iff ?_
    rw [ltT_iff,decide_eq_true_iff]
    simp [code,LtC]
   rw [e]
   exact h
 · exact (hd _ rfl).elim
theorem tr_ltAt (I:Inv X pins σ H s):∀(n:Nat) {A:Around} {t u:Tr} {v w:V} {a b:Value},t.depth≤n→(t.pure∨u.pure)→Cm t u→TrAt H v t→TrAt H w u→RelV v a→RelV w b→A.units+n+1 < cLine→LtAt A s a b (ltT t u):=by
 intro n
 induction n with
 |zero=>
  intro A t u v w a b hd hp hc h1 h2 r1 r2 hu
  refine sc_ltAt (fun ts e=> ?_) hc h1 h2 r1 r2
  subst e
  simp [Tr.depth] at hd
 |succ n ih=>
  intro A t u v w a b hd hp hc h1 h2 r1 r2 hu
  cases t with
  |tup ts=>
   cases u<;>first|(unfold Cm at hc;exact hc.elim)|skip
   rename_i us
   unfold Cm at hc
   unfold TrAt at h1 h2
   obtain ⟨r0,vs0,rfl,g0,k0⟩:=h1
   obtain ⟨r,vs,rfl,g1,k1⟩:=h2
   cases r1
   cases r2
   obtain ⟨as,q0,p0,_⟩:=I.tuple (SqT.of g0)
   obtain ⟨bs,q1,p1,_⟩:=I.tuple (SqT.of g1)
   unfold Tr.depth at hd
   have hp':Trs.pure ts∨Trs.pure us:=by
    rcases hp with hp|hp<;>unfold Tr.pure at hp
    · exact .inl hp
    · exact .inr hp
   have hu1:A.in1.units+n+1 < cLine:=by show A.units+1+n+1 < cLine;omega
   have hx:=lex_of (A:=A.in1) I hu1 (fun d pp cc a1 a2 b1 b2=>ih d pp cc a1 a2 b1 b2 hu1) (by omega) hp' hc k0 k1 q0 q1
   have:=tuple_ltAt (A:=A) (show s.heap.IsTuple r0 as.toArray from p0) (show s.heap.IsTuple r bs.toArray from p1) (by omega) (by simpa using hx)
   have e:lexV (decide (as.toArray.size < bs.toArray.size)) (qs ts us)=ltT (.tup ts) (.tup us):=by
    have l0:=k0.len
    have l1:=k1.len
    have l2:=q0.length
    have l3:=q1.length
    have e2:decide (as.toArray.size < bs.toArray.size)=decide (ts.length < us.length):=by
     rw [List.size_toArray,List.size_toArray,←l2,←l3,l0,l1]
    rw [e2]
    refine bool_of_iff ?_
    rw [lexV_qs,ltT_iff]
    simp [code,LtC]
   rw [←e]
   exact this
  |_=>exact sc_ltAt (fun ts e=>by cases e) hc h1 h2 r1 r2
end
end Tre
namespace Srt
open PySem PySem.W PySem.Calls PyProof.Rows
theorem range_get {α:Type} (d:α):∀(vs:List α),(List.range vs.length).map (fun i=>vs.getD i d)=vs
 | []=>rfl
 |v::vs=>by
  rw [List.length_cons,List.range_succ_eq_map,List.map_cons,List.map_map]
  have:=range_get d vs
  simp only [Function.comp_def]
  show v::List.map (fun i=>vs.getD i d) (List.range vs.length)=v::vs
  rw [this]
theorem zip_snd {α:Type}:∀(vs:List α),List.map (fun x=>x.snd) (vs.zip vs)=vs
 | []=>rfl
 |v::vs=>by
  rw [List.zip_cons_cons,List.map_cons,zip_snd vs]
section
variable {prog:Program} {w:World} {A:Around} {E:Value→Shared→Prop} {s:Shared} {lt:Nat→Nat→Bool} {κ:SortKind}
def Stay (s:Shared) (a:Addr) (h':Heap):Prop:=∀b o,b≠a→s.heap.get? b=some o→h'.get? b=some o
theorem list_sort_any {a:Addr} {vs:List Value} {n:Nat} {P:PySem.Fin→Shared→Prop} (O:Ord lt) (ho:s.heap.get? a=some (seqObj "list" vs.toArray n)) (h64:vs.length < 64)
 (hkind:2≤vs.length→∀h',Stay s a h'→∀R:SortKind→Shared→Prop,R κ {s with heap:=h'}→wpAny (model prog w) A (keyKind' vs.toArray) R E {s with heap:=h'})
 (hask:∀h',Stay s a h'→∀i j (R:Bool→Shared→Prop),i < vs.length→j < vs.length→R (lt i j) {s with heap:=h'}→kas_ask prog w A κ vs i j R {s with heap:=h'})
 (h:∀p:Array Nat,Pm vs.length p→Up lt p vs.length→P (.done (.ret .none)) {s with heap:=sortedHeap s.heap a vs (List.toArray (p.toList.map fun i=>vs.getD i Value.none))}):
 wpAny (model prog w) A (Builtin.«list.sort» ⟨[.ref a],[]⟩) P E s:=by
 have ha:a < s.heap.objs.size:=Heap.lt_size ho
 rw [list_sort_plain]
 refine wpAny_bind (listItems_at ho rfl ?_)
 refine wpAny_bind (listUpdate_at ho rfl ?_ (by rw [List.size_toArray,sizeLine_eq];omega) (Nat.zero_le _))
 obtain ⟨e1,ho1⟩:∃e1,(s.heap.update a (Obj.mapSeq fun _=>(#[]:Array Value))).get? a=some (seqObj "list" #[] e1):=⟨_,get?_update_seq ho fun _=> #[]⟩
 refine wpAny_bind (seqEpoch_at ho1 rfl ?_)
 refine wpAny_bind (wpAny_newTuple ?_ (by show vs.length≤_;rw [sizeLine_eq];omega))
 refine wpAny_bind (wpAny_newList ?_ (Nat.zero_le _))
 refine wpAny_holding ?_
 have s1:=Heap.SameBut.update s.heap a (Obj.mapSeq fun _=>(#[]:Array Value))
 have st:Stay s a (((s.heap.update a (Obj.mapSeq fun _=>(#[]:Array Value))).push (seqObj "tuple" vs.toArray 0)).push (seqObj "list" #[] 0)):=fun b o hb e=>
  Heap.get?_push_of_some _ (Heap.get?_push_of_some _ ((s1.2 b hb).trans e))
 have ho6:(((s.heap.update a (Obj.mapSeq fun _=>(#[]:Array Value))).push (seqObj "tuple" vs.toArray 0)).push (seqObj "list" #[] 0)).get? a=some (seqObj "list" #[] e1):=Heap.get?_push_of_some _ (Heap.get?_push_of_some _ ho1)
 show wpAny (model prog w) A _ P E {s with heap:=((s.heap.update a (Obj.mapSeq fun _=>(#[]:Array Value))).push (seqObj "tuple" vs.toArray 0)).push (seqObj "list" #[] 0)}
 dsimp only
 have out:∀p:Array Nat,Pm vs.length p→(List.toArray (p.toList.map fun i=>vs.getD i Value.none)).size≤sizeLine:=fun p hp=>by
  rw [List.size_toArray,List.length_map,Array.length_toList,hp.size,sizeLine_eq]
  omega
 by_cases h2:vs.toArray.size < 2
 · rw [if_pos h2,if_pos h2]
   refine wpAny_bind (wpAny_pure ?_)
   rw [StateT.run_pure]
   refine wpAny_bind (wpAny_pure ?_)
   dsimp only
   refine wpAny_bind (seqEpoch_at ho6 rfl ?_)
   have h0:Pm vs.length (List.toArray (List.range vs.length)):=by
    unfold Pm
    simp
   have eo:(arrOf (SortSt.mk' general' (vs.toArray.zip vs.toArray) #[] 7 none)).map (·.2)=List.toArray ((List.toArray (List.range vs.length)).toList.map fun i=>vs.getD i Value.none):=by
    rw [List.toList_toArray,range_get]
    show (vs.toArray.zip vs.toArray).map (·.2)=vs.toArray
    apply Array.toList_inj.mp
    simp
    exact zip_snd vs
   rw [eo]
   refine wpAny_bind (listUpdate_at ho6 rfl ?_ (Nat.zero_le _) (Nat.le_succ_of_le (out _ h0)))
   simp only [bne_self_eq_false,Bool.false_eq_true,if_false]
   refine wpAny_pure (h _ h0 fun i j hij hj=> ?_)
   have hv:vs.length < 2:=by simpa using h2
   have:i=j:=by omega
   subst this
   exact O.refl _
 · rw [if_neg h2,if_neg h2]
   have h2':2≤vs.length:=by
    rw [List.size_toArray] at h2
    omega
   refine wpAny_bind (hkind h2' _ st _ ?_)
   have run:(kas_sort vs.length).kasWp (kas_ask prog w A κ vs) (fun p s'=>(Pm vs.length p∧Up lt p vs.length)∧s'= {s with heap:=((s.heap.update a (Obj.mapSeq fun _=>(#[]:Array Value))).push (seqObj "tuple" vs.toArray 0)).push (seqObj "list" #[] 0)})
    {s with heap:=((s.heap.update a (Obj.mapSeq fun _=>(#[]:Array Value))).push (seqObj "tuple" vs.toArray 0)).push (seqObj "list" #[] 0)}:=
    tri_wp (lt:=lt) (N:=vs.length) (G:=fun s'=>s'= {s with heap:=((s.heap.update a (Obj.mapSeq fun _=>(#[]:Array Value))).push (seqObj "tuple" vs.toArray 0)).push (seqObj "list" #[] 0)})
     (fun i j R s' hi hj hg hR=>by subst hg;exact hask _ st i j R hi hj (hR _ rfl)) (fun p s' hp hg=>⟨hp,hg⟩) (t_sort O (by omega)) rfl
   refine wpAny_bind (wpAny_mono (kat_run (ks:=vs) (Q:=fun st' s'=>∃p:Array Nat,(Pm vs.length p∧Up lt p vs.length)∧arrOf st'=p.map (kas_item (vs.toArray.zip vs.toArray))∧failedOf st'=none∧s'= {s with heap:=((s.heap.update a (Obj.mapSeq fun _=>(#[]:Array Value))).push (seqObj "tuple" vs.toArray 0)).push (seqObj "list" #[] 0)})
    rfl h2' h64 (fun p st' s' a1 a2 a3 a4=>⟨p,a4.1,a2,a3,a4.2⟩) run) ?_ fun _ _ e=>e)
   rintro ⟨⟨⟩,st'⟩ s' ⟨p,hp,har,hf,rfl⟩
   dsimp only
   refine wpAny_bind (seqEpoch_at ho6 rfl ?_)
   rw [kat_snds rfl har]
   refine wpAny_bind (listUpdate_at ho6 rfl ?_ (Nat.zero_le _) (Nat.le_succ_of_le (out p hp.1)))
   rw [hf]
   simp only [bne_self_eq_false,Bool.false_eq_true,if_false]
   exact wpAny_pure (h p hp.1 hp.2)
theorem sorted_any {l:Addr} {vs:List Value} {Q:Value→Shared→Prop} (O:Ord lt) (hl:s.heap.IsList l vs.toArray) (h64:vs.length < 64)
 (hkind:2≤vs.length→∀h',(∀b o,s.heap.get? b=some o→h'.get? b=some o)→∀(E':Value→Shared→Prop) (R:SortKind→Shared→Prop),R κ {s with heap:=h'}→wpAny (model prog w) A.in1.in1 (keyKind' vs.toArray) R E' {s with heap:=h'})
 (hask:∀h',(∀b o,s.heap.get? b=some o→h'.get? b=some o)→∀i j (R:Bool→Shared→Prop),i < vs.length→j < vs.length→R (lt i j) {s with heap:=h'}→kas_ask prog w A.in1.in1 κ vs i j R {s with heap:=h'})
 (h:∀p:Array Nat,Pm vs.length p→Up lt p vs.length→Q (.ref (s.heap.objs.size+1)) {s with heap:=sortedAll s.heap vs (List.toArray (p.toList.map fun i=>vs.getD i Value.none))}):
 wpAny (model prog w) A (call (.builtin "sorted") [.ref l]) Q E s:=by
 refine Calls.call_function_entry kind_sorted plain_sorted entry_sorted (args_sorted1 _) ?_
 unfold Builtin.«sorted»
 refine wpAny_bind (m:=checkCount "sorted" 1 1 _) (wpAny_pure ?_)
 refine wpAny_bind (collect_list hl ?_ (by rw [sizeLine_eq];omega))
 refine wpAny_bind (wpAny_newList ?_ (by rw [sizeLine_eq];omega))
 have hsz:((s.heap.push (seqObj "list" #[] 0)).update s.heap.objs.size (Obj.mapSeq (· ++vs.toArray))).objs.size=s.heap.objs.size+1:=by
  rw [Heap.size_update,size_push']
 have hoL:(((s.heap.push (seqObj "list" #[] 0)).update s.heap.objs.size (Obj.mapSeq (· ++vs.toArray))).push (seqObj "list" vs.toArray 0)).get? (s.heap.objs.size+1)=some (seqObj "list" vs.toArray 0):=by
  rw [←hsz];exact Heap.get?_push_size _ rfl
 have keep:∀b o,s.heap.get? b=some o→(((s.heap.push (seqObj "list" #[] 0)).update s.heap.objs.size (Obj.mapSeq (· ++vs.toArray))).push (seqObj "list" vs.toArray 0)).get? b=some o∧b≠s.heap.objs.size+1:=fun b o q=>by
  have hlt:b < s.heap.objs.size:=Heap.lt_size q
  refine ⟨?_,Nat.ne_of_lt (Nat.lt_succ_of_lt hlt)⟩
  rw [Heap.get?_push_ne _ _ _ (by rw [hsz];exact Nat.ne_of_lt (Nat.lt_succ_of_lt hlt)),Heap.get?_update_ne _ _ _ _ (Nat.ne_of_lt hlt),Heap.get?_push_ne _ _ _ (Nat.ne_of_lt hlt)]
  exact q
 show wpAny _ _ _ _ _ {s with heap:=((s.heap.push (seqObj "list" #[] 0)).update s.heap.objs.size (Obj.mapSeq (· ++vs.toArray))).push (seqObj "list" vs.toArray 0)}
 rw [hsz]
 refine wpAny_bind (wpAny_holding (wpAny_call_entry slot_list_sort ⟨_,hoL,rfl⟩ entry_list_sort (list_sort_any (lt:=lt) (κ:=κ) O hoL h64 (fun h2 h' st R hR=>hkind h2 h' (fun b o e=>st b o (keep b o e).2 (keep b o e).1) _ R hR)
  (fun h' st i j R hi hj hR=>hask h' (fun b o e=>st b o (keep b o e).2 (keep b o e).1) i j R hi hj hR) fun p a1 a2=>⟨_,rfl,?_⟩) (args_list_sort _)))
 exact wpAny_pure ⟨_,rfl,h p a1 a2⟩
end
end Srt
namespace Tre
open PySem PySem.Spec PyProof.Rows L2 Srt
theorem katlex_of {prog:Program} {w:World} {A:Around} {s:Shared} {fin:Bool} {Q:Bool→Shared→Prop}:∀ {as bs:List Value} {q:List (Bool×Bool)} {i:Nat},LexAt A s as bs q→Q (lexV fin q) s→PySem.W.KatLex prog w A false fin Q (as.zip bs) i s
 | [],_,q,i,h,hq=>by
  unfold LexAt at h
  subst h
  rw [List.zip_nil_left]
  exact PySem.W.kat_nil hq
 |_::_,[],q,i,h,hq=>by
  unfold LexAt at h
  subst h
  rw [List.zip_nil_right]
  exact PySem.W.kat_nil hq
 |a::as,b::bs,[],i,h,hq=>h.elim
 |a::as,b::bs,(e,l)::q,i,h,hq=>by
  obtain ⟨h1,h2,h3⟩:=h
  rw [List.zip_cons_cons]
  refine PySem.W.kat_cons (h1 prog w _ _ ?_)
  cases e with
  |true=>exact PySem.W.kat_yes (katlex_of (h3 rfl) hq)
  |false=>
   refine PySem.W.kat_no ?_
   show wpAny _ _ (oneLt' false a b) _ _ _
   exact PySem.W.kat_one a b (h2 rfl prog w _ _ hq)
def Hd (t:Tr):Prop:=∃fs r,t= .tup (.tup fs::r)
theorem TrsAt.map {H:Hp} {vs:List V} {ts:List Tr} (h:TrsAt H vs ts):∀ {is:List Nat},(∀i∈is,i < ts.length)→TrsAt H (is.map fun i=>vs.getD i .non) (is.map fun i=>ts.getD i .non)
 | [],_=> .nil
 |i::is,hi=>by
  have h0:i < ts.length:=hi i List.mem_cons_self
  have hl:=h.len
  obtain ⟨v,e1,e2⟩:=h.get (i:=i) (t:=ts[i]) (List.getElem?_eq_getElem h0)
  have ev:vs.getD i .non=v:=by rw [List.getD_eq_getElem?_getD,e1];rfl
  have et:ts.getD i .non=ts[i]:=by rw [List.getD_eq_getElem?_getD,List.getElem?_eq_getElem h0];rfl
  rw [List.map_cons,List.map_cons,ev,et]
  exact .cons e2 (TrsAt.map h fun j m=>hi j (List.mem_cons_of_mem _ m))
theorem Vals.map {vs:List V} {as:List Value} (h:Vals vs as):∀ {is:List Nat},(∀i∈is,i < vs.length)→Vals (is.map fun i=>vs.getD i .non) (is.map fun i=>as.getD i Value.none)
 | [],_=> .nil
 |i::is,hi=>by
  have h0:i < vs.length:=hi i List.mem_cons_self
  obtain ⟨u,e1,e2⟩:=h.get (i:=i) (x:=vs[i]) (List.getElem?_eq_getElem h0)
  have ev:vs.getD i .non=vs[i]:=by rw [List.getD_eq_getElem?_getD,List.getElem?_eq_getElem h0];rfl
  have et:as.getD i Value.none=u:=by rw [List.getD_eq_getElem?_getD,e1];rfl
  rw [List.map_cons,List.map_cons,ev,et]
  exact .cons e2 (Vals.map h fun j m=>hi j (List.mem_cons_of_mem _ m))
section
variable {X:Cx} {pins:List (Addr×Obj)} {σ:L2.St} {H:Hp} {s:Shared}
theorem tup_obj (I:Inv X pins σ H s) {r:Addr} {vs:List V} (h:H r=some (.tup vs)):∃(as:List Value) (o:Obj) (n:Nat),Vals vs as∧s.heap.get? r=some o∧o.cls= .type "tuple"∧o.data= .seq as.toArray n:=by
 obtain ⟨as,q,p,_⟩:=I.tuple (SqT.of h)
 obtain ⟨o,ho,hc,n,hd⟩:=(show s.heap.IsTuple r as.toArray from p)
 exact ⟨as,o,n,q,ho,hc,hd⟩
theorem katTups_of (I:Inv X pins σ H s):∀ {vs:List V} {ts:List Tr} {as:List Value},TrsAt H vs ts→Vals vs as→(∀t∈ts,Hd t)→∃fs,PySem.W.KatTups s.heap as fs∧fs.length=as.length∧∀v∈fs,∃(r:Addr) (o:Obj),v= .ref r∧s.heap.get? r=some o∧o.cls= .type "tuple"
 |vs,[],as,h,r,_=>by
  unfold TrsAt at h
  subst h
  cases r
  exact ⟨[],PySem.W.KatTups.nil,rfl,fun v m=>by cases m⟩
 |vs,t::ts,as,h,r,hh=>by
  obtain ⟨v,vr,rfl,h1,h2⟩:=h.inv
  cases r with
  |cons q1 q2=>
   obtain ⟨fs,k1,k2,k3⟩:=katTups_of I h2 q2 fun t m=>hh t (List.mem_cons_of_mem _ m)
   obtain ⟨gs,gr,rfl⟩:=hh t List.mem_cons_self
   unfold TrAt at h1
   obtain ⟨r0,vs0,rfl,g0,g1⟩:=h1
   cases q1
   obtain ⟨f,fr,rfl,h3,h4⟩:=g1.inv
   obtain ⟨as0,o,n,q3,ho,hc,hd⟩:=tup_obj I g0
   cases q3 with
   |cons q5 q6=>
    unfold TrAt at h3
    obtain ⟨r1,vs1,rfl,g2,_⟩:=h3
    cases q5
    obtain ⟨_,o1,_,_,ho1,hc1,_⟩:=tup_obj I g2
    refine ⟨.ref r1::fs,PySem.W.KatTups.cons ho hc hd (by simp) k1,by simp [k2],fun v m=> ?_⟩
    rcases List.mem_cons.mp m with rfl|m
    · exact ⟨r1,o1,rfl,ho1,hc1⟩
    · exact k3 v m
def rSorted:List V→Hp→VK→Prop:=fun xs H Q=>∃(l:Addr) (vs:List V) (ts:List Tr),xs= [.ref l]∧H l=some (.lst vs)∧TrsAt H vs ts∧ts.length < 64∧(∀t∈ts,Hd t∧t.pure∧t.depth≤40)∧(∀t∈ts,∀u∈ts,Cm t u)∧
 ∀(D:Addr) (ws:List V) (us:List Tr),H D=none→us.Perm ts→TrsAt H ws us→(∀(i j:Nat) (t u:Tr),i≤j→us[i]?=some t→us[j]?=some u→ltT u t=false)→Q (.ref D) (upd H D (.lst ws))
theorem call_sorted (hu:X.A.units+60 < cLine):CallR X (.builtin "sorted") rSorted:=by
 intro pins s σ H xs us Q I r h
 obtain ⟨l,vs,ts,rfl,hl,hT,hlen,hts,hcm,q⟩:=h
 obtain ⟨u,rfl,ru⟩:=vals1 r
 cases ru
 obtain ⟨as,rv,pl,_⟩:=I.list (SqL.of hl)
 have l1:=hT.len
 have l2:=rv.length
 have O:Srt.Ord fun i j=>ltT (ts.getD i .non) (ts.getD j .non):=⟨fun a b h=>ltT_asym h,fun a b c h1 h2=>ltT_le h1 h2⟩
 have at_:∀i,i < as.length→∃t v a,ts.getD i .non=t∧t∈ts∧TrAt H v t∧RelV v a∧as.getD i Value.none=a:=fun i hi=>by
  have hi':i < ts.length:=by omega
  obtain ⟨v,e1,e2⟩:=hT.get (i:=i) (t:=ts[i]) (List.getElem?_eq_getElem hi')
  obtain ⟨a,e3,e4⟩:=rv.get e1
  exact ⟨ts[i],v,a,by rw [List.getD_eq_getElem?_getD,List.getElem?_eq_getElem hi'];rfl,List.getElem_mem hi',e2,e4,by rw [List.getD_eq_getElem?_getD,e3];rfl⟩
 refine sorted_any (κ:=tuples' false) O pl.isList (by omega) (fun h2 h' kp E' R hR=> ?_) (fun h' kp i j R hi hj hR=> ?_) fun p hp hup=> ?_
 · have I':Inv X pins σ H {s with heap:=h'}:=I.kept (t':=s.toks) kp
   obtain ⟨fs,k1,k2,k3⟩:=katTups_of I' hT rv fun t m=>(hts t m).1
   refine PySem.W.kat_kind (T:=Value.type "tuple") k1 (by omega) (fun v m=> ?_) (by decide +kernel) ?_
   · obtain ⟨r,o,rfl,ho,hc⟩:=k3 v m
     have:PySem.W.Looks (model X.prog X.w) h' (typeOf (.ref r)) o.cls:=(PySem.W.Looks.ld ho).andThen .now
     rw [hc] at this
     exact this
   · rw [show (Value.type "tuple" !=Value.type "tuple")=false by decide +kernel]
     exact hR
 · have I':Inv X pins σ H {s with heap:=h'}:=I.kept (t':=s.toks) kp
   obtain ⟨t,v,a,et,mt,ht,ra,ea⟩:=at_ i hi
   obtain ⟨u,v',b,eu,mu,hu',rb,eb⟩:=at_ j hj
   have hc:=hcm t mt u mu
   obtain ⟨⟨f1,r1,rfl⟩,p1,d1⟩:=hts t mt
   obtain ⟨⟨f2,r2,rfl⟩,p2,d2⟩:=hts u mu
   unfold TrAt at ht hu'
   obtain ⟨x0,vs0,rfl,g0,g1⟩:=ht
   obtain ⟨y0,ws0,rfl,g2,g3⟩:=hu'
   cases ra
   cases rb
   obtain ⟨as0,o,n,q3,ho,hcl,hd⟩:=tup_obj I' g0
   obtain ⟨bs0,o',n',q4,ho',hcl',hd'⟩:=tup_obj I' g2
   unfold Tr.depth at d1
   unfold Tr.pure at p1
   unfold Cm at hc
   have hu1:X.A.in1.in1.units+40+1 < cLine:=by show X.A.units+1+1+40+1 < cLine;omega
   have hx:=lex_of (A:=X.A.in1.in1) I' hu1 (fun d pp cc a1 a2 b1 b2=>tr_ltAt I' 40 d pp cc a1 a2 b1 b2 hu1) (by omega) (.inl p1) hc g1 g3 q3 q4
   unfold PySem.W.kas_ask
   rw [ea,eb]
   refine PySem.W.kat_lt (b:=false) ho hd ho' hd' ?_
   rw [List.toList_toArray,List.toList_toArray]
   refine katlex_of hx ?_
   have e:lexV (decide (as0.toArray.size < bs0.toArray.size)) (qs (.tup f1::r1) (.tup f2::r2))=ltT (ts.getD i .non) (ts.getD j .non):=by
    have z0:=g1.len
    have z1:=g3.len
    have z2:=q3.length
    have z3:=q4.length
    have e2:decide (as0.toArray.size < bs0.toArray.size)=decide ((Tr.tup f1::r1).length < (Tr.tup f2::r2).length):=by
     rw [List.size_toArray,List.size_toArray,←z2,←z3,z0,z1]
    rw [e2,et,eu]
    refine bool_of_iff ?_
    rw [lexV_qs,ltT_iff]
    simp [code,LtC]
   rw [e]
   exact hR
 · have hin:∀i∈p.toList,i < ts.length:=fun i m=>by
    have:=List.mem_range.mp (List.Perm.mem_iff hp |>.mp m)
    omega
   refine ⟨.ref (s.heap.objs.size+1),upd H (s.heap.objs.size+1) (.lst (p.toList.map fun i=>vs.getD i .non)),I.laid (t':=s.toks) (fun b o e=>sortedAll_old e) (Nat.le_succ _) ?_,rfl,?_⟩
   · obtain ⟨e,he⟩:=sortedAll_at s.heap as (List.toArray (p.toList.map fun i=>as.getD i Value.none))
     refine ⟨?_,p.toList.map fun i=>as.getD i Value.none,e,Vals.map rv fun i m=>by have:=hin i m;omega,he⟩
     rw [List.length_map,Array.length_toList,hp.size]
     have:(64:Nat)≤sizeLine:=by decide +kernel
     omega
   · refine q _ _ (p.toList.map fun i=>ts.getD i .non) (I.hok.fresh (Nat.le_succ _)) ?_ (TrsAt.map hT hin) fun i j t u hij e1 e2=> ?_
     · have:=List.Perm.map (fun i=>ts.getD i Tr.non) hp
       rw [show as.length=ts.length by omega,range_get] at this
       exact this
     · rw [List.getElem?_map] at e1 e2
       obtain ⟨a,ea,rfl⟩:=Option.map_eq_some_iff.mp e1
       obtain ⟨b,eb,rfl⟩:=Option.map_eq_some_iff.mp e2
       have hj:j < as.length:=by
        have:=(List.getElem?_eq_some_iff.mp eb).1
        rw [Array.length_toList,hp.size] at this
        exact this
       have:=hup i j hij hj
       rw [g_some,g_some,←Array.getElem?_toList,←Array.getElem?_toList,ea,eb] at this
       exact this
end
open PySem L2
inductive So where
 |tm|fr|pr|ws|lt
abbrev s_ (x:String):Tr:= .str (Str.ofString x)
inductive Ty:So→Tr→Prop
 |nm (x:Str):Ty .tm (.tup [s_ "name", .str x])
 |ap (x:Str) (ts:List Tr):ts.length≤3→(∀t∈ts,Ty .tm t)→Ty .tm (.tup [s_ "call", .str x, .tup ts])
 |fr (a b:Int):Ty .fr (.tup [.int a, .int b])
 |pr (t f:Tr):Ty .tm t→Ty .fr f→Ty .pr (.tup [t,f])
 |fl (x:Str):Ty .ws (.tup [s_ "flag", .str x])
 |mo (ps:List Tr) (f:Tr):(∀p∈ps,Ty .pr p)→Ty .fr f→Ty .ws (.tup [s_ "most", .tup ps,f])
 |li (t u:Tr):Ty .tm t→Ty .tm u→Ty .ws (.tup [s_ "like",t,u])
 |no (w:Tr):Ty .ws w→Ty .ws (.tup [s_ "not",w])
 |bo (l:List Tr):(∀w∈l,Ty .ws w)→Ty .ws (.tup [s_ "both", .tup l])
 |ei (l:List Tr):(∀w∈l,Ty .ws w)→Ty .ws (.tup [s_ "either", .tup l])
 |lt (w:Tr) (b:Bool):Ty .ws w→Ty .lt (.tup [w, .bl b])
theorem cms_step {t u:Tr} {ts us:List Tr} (h1:eqT t u=false→Cm t u) (h2:Cms ts us):Cms (t::ts) (u::us):=by
 unfold Cms
 cases e:eqT t u with
 |true=>exact .inl ⟨rfl,h2⟩
 |false=>exact .inr ⟨rfl,h1 e⟩
theorem cms_ne {t u:Tr} {ts us:List Tr} (h0:eqT t u=false) (h1:Cm t u):Cms (t::ts) (u::us):=by
 unfold Cms
 exact .inr ⟨h0,h1⟩
theorem cms_nil {us:List Tr}:Cms [] us:=by
 cases us<;>simp [Cms]
theorem cm_str (x y:Str):Cm (.str x) (.str y):=by simp [Cm]
theorem cm_int (x y:Int):Cm (.int x) (.int y):=by simp [Cm]
theorem cm_bl (x y:Bool):Cm (.bl x) (.bl y):=by simp [Cm]
theorem cm_tup {ts us:List Tr} (h:Cms ts us):Cm (.tup ts) (.tup us):=by
 unfold Cm
 exact h
theorem cms_all {ts us:List Tr} (h:∀t∈ts,∀u∈us,Cm t u):Cms ts us:=by
 induction ts generalizing us with
 |nil=>exact cms_nil
 |cons t ts ih=>
  cases us with
  |nil=>simp [Cms]
  |cons u us=>exact cms_step (fun _=>h t List.mem_cons_self u List.mem_cons_self) (ih fun a ma b mb=>h a (List.mem_cons_of_mem _ ma) b (List.mem_cons_of_mem _ mb))
theorem ty_cm:∀(n:Nat) {k:So} {t u:Tr},t.depth≤n→Ty k t→Ty k u→Cm t u:=by
 intro n
 induction n with
 |zero=>
  intro k t u hd h1 h2
  cases h1<;>simp [Tr.depth] at hd
 |succ n ih=>
  intro k t u hd h1 h2
  have sub:∀ {ts:List Tr} {t:Tr},(Tr.tup ts).depth≤n+1→t∈ts→t.depth≤n:=fun h m=>by
   unfold Tr.depth at h
   have:=depth_memT m
   omega
  have sub2:∀ {ts l:List Tr} {t:Tr},(Tr.tup ts).depth≤n+1→Tr.tup l∈ts→t∈l→t.depth≤n:=fun h m m2=>by
   have h3:=sub h m
   unfold Tr.depth at h3
   have:=depth_memT m2
   omega
  cases h1<;>cases h2<;>refine cm_tup ?_
  all_goals first
   |exact cms_ne (by decide +kernel) (cm_str _ _)
   |skip
  · exact cms_step (fun _=>cm_str _ _) (cms_step (fun _=>cm_str _ _) cms_nil)
  · rename_i x ts _ h1 y us _ h2
    exact cms_step (fun _=>cm_str _ _) (cms_step (fun _=>cm_str _ _) (cms_step (fun _=>cm_tup (cms_all fun a ma b mb=>ih (sub2 hd (by simp) ma) (h1 a ma) (h2 b mb))) cms_nil))
  · exact cms_step (fun _=>cm_int _ _) (cms_step (fun _=>cm_int _ _) cms_nil)
  · rename_i t1 f1 a1 b1 t2 f2 a2 b2
    exact cms_step (fun _=>ih (sub hd (by simp)) a1 a2) (cms_step (fun _=>ih (sub hd (by simp)) b1 b2) cms_nil)
  · exact cms_step (fun _=>cm_str _ _) (cms_step (fun _=>cm_str _ _) cms_nil)
  · rename_i p1 f1 a1 b1 p2 f2 a2 b2
    exact cms_step (fun _=>cm_str _ _) (cms_step (fun _=>cm_tup (cms_all fun a ma b mb=>ih (sub2 hd (by simp) ma) (a1 a ma) (a2 b mb))) (cms_step (fun _=>ih (sub hd (by simp)) b1 b2) cms_nil))
  · rename_i t1 u1 a1 b1 t2 u2 a2 b2
    exact cms_step (fun _=>cm_str _ _) (cms_step (fun _=>ih (sub hd (by simp)) a1 a2) (cms_step (fun _=>ih (sub hd (by simp)) b1 b2) cms_nil))
  · rename_i w1 a1 w2 a2
    exact cms_step (fun _=>cm_str _ _) (cms_step (fun _=>ih (sub hd (by simp)) a1 a2) cms_nil)
  · rename_i l1 a1 l2 a2
    exact cms_step (fun _=>cm_str _ _) (cms_step (fun _=>cm_tup (cms_all fun a ma b mb=>ih (sub2 hd (by simp) ma) (a1 a ma) (a2 b mb))) cms_nil)
  · rename_i l1 a1 l2 a2
    exact cms_step (fun _=>cm_str _ _) (cms_step (fun _=>cm_tup (cms_all fun a ma b mb=>ih (sub2 hd (by simp) ma) (a1 a ma) (a2 b mb))) cms_nil)
  · rename_i w1 b1 a1 w2 b2 a2
    exact cms_step (fun _=>ih (sub hd (by simp)) a1 a2) (cms_step (fun _=>cm_bl _ _) cms_nil)
theorem pure_all {ts:List Tr} (h:∀t∈ts,t.pure):Trs.pure ts:=by
 induction ts with
 |nil=>unfold Trs.pure;trivial
 |cons t ts ih=>
  unfold Trs.pure
  exact ⟨h t List.mem_cons_self,ih fun u m=>h u (List.mem_cons_of_mem _ m)⟩
theorem ty_pure {k:So} {t:Tr} (h:Ty k t):t.pure:=by
 induction h with
 |nm x=>simp [Tr.pure,Trs.pure]
 |ap x ts _ _ ih=>simp only [Tr.pure,Trs.pure];exact ⟨trivial,trivial,pure_all ih,trivial⟩
 |fr a b=>simp [Tr.pure,Trs.pure]
 |pr t f _ _ h1 h2=>simp only [Tr.pure,Trs.pure];exact ⟨h1,h2,trivial⟩
 |fl x=>simp [Tr.pure,Trs.pure]
 |mo ps f _ _ h1 h2=>simp only [Tr.pure,Trs.pure];exact ⟨trivial,pure_all h1,h2,trivial⟩
 |li t u _ _ h1 h2=>simp only [Tr.pure,Trs.pure];exact ⟨trivial,h1,h2,trivial⟩
 |no w _ h1=>simp only [Tr.pure,Trs.pure];exact ⟨trivial,h1,trivial⟩
 |bo l _ h1=>simp only [Tr.pure,Trs.pure];exact ⟨trivial,pure_all h1,trivial⟩
 |ei l _ h1=>simp only [Tr.pure,Trs.pure];exact ⟨trivial,pure_all h1,trivial⟩
 |lt w b _ h1=>simp only [Tr.pure,Trs.pure];exact ⟨h1,trivial,trivial⟩
theorem ty_hd {t:Tr} (h:Ty .lt t∨Ty .pr t):Hd t:=by
 rcases h with h|h
 · cases h with
   |lt w b hw=>cases hw<;>exact ⟨_,_,rfl⟩
 · cases h with
   |pr t f ht hf=>cases ht<;>exact ⟨_,_,rfl⟩
end Tre
namespace Mth
theorem gcd_fmod (a b:Int):Int.gcd b (a.fmod b)=Int.gcd a b:=by
 have e:a.fmod b=a - b*a.fdiv b:=Int.fmod_def a b
 rw [e,Int.gcd_comm a b]
 have:a - b*a.fdiv b=a+b*(-(a.fdiv b)):=by rw [Int.mul_neg,Int.sub_eq_add_neg]
 rw [this]
 exact Int.gcd_add_mul_left_right ..
theorem fmod_lt {a b:Int} (h:b≠0):(a.fmod b).natAbs < b.natAbs:=by
 by_cases hb:0 < b
 · have h1:=Int.fmod_nonneg_of_pos a hb
   have h2:=Int.fmod_lt_of_pos a hb
   omega
 · have h3:0 < -b:=by omega
   have e:a.fmod b= -((-a).fmod (-b)):=by
    rw [Int.neg_fmod_neg,Int.neg_neg]
   have h1:=Int.fmod_nonneg_of_pos (-a) h3
   have h2:=Int.fmod_lt_of_pos (-a) h3
   omega
noncomputable def dv (t b:Int):Int:=if b < 0 then -(Int.gcd t b:Int) else (Int.gcd t b:Int)
noncomputable def fx (t b:Int):Int:=t.fdiv (dv t b)
noncomputable def fy (t b:Int):Int:=b.fdiv (dv t b)
theorem dv_ne {t b:Int} (h:b≠0):dv t b≠0:=by
 have:0 < Int.gcd t b:=Int.gcd_pos_of_ne_zero_right t h
 unfold dv
 split<;>omega
theorem dv_abs {t b:Int}:(dv t b).natAbs=Int.gcd t b:=by
 unfold dv
 split<;>omega
theorem dv_dvd {t b:Int}:dv t b∣t∧dv t b∣b:=by
 have h1:((Int.gcd t b:Nat):Int)∣t:=Int.gcd_dvd_left ..
 have h2:((Int.gcd t b:Nat):Int)∣b:=Int.gcd_dvd_right ..
 unfold dv
 split
 · exact ⟨Int.neg_dvd.mpr h1,Int.neg_dvd.mpr h2⟩
 · exact ⟨h1,h2⟩
theorem parts {t b:Int} (h:b≠0):t=dv t b*fx t b∧b=dv t b*fy t b:=by
 obtain ⟨⟨x,hx⟩,⟨y,hy⟩⟩:=dv_dvd (t:=t) (b:=b)
 have n:=dv_ne (t:=t) h
 have e1:fx t b=x:=by
  unfold fx
  generalize dv t b=d at*
  rw [hx]
  exact Int.mul_fdiv_cancel_left _ n
 have e2:fy t b=y:=by
  unfold fy
  generalize dv t b=d at*
  rw [hy]
  exact Int.mul_fdiv_cancel_left _ n
 rw [e1,e2]
 exact ⟨hx,hy⟩
theorem lowest {t b:Int} (h:b≠0):Int.gcd (fx t b) (fy t b)=1:=by
 obtain ⟨e1,e2⟩:=parts (t:=t) h
 have g:0 < Int.gcd t b:=Int.gcd_pos_of_ne_zero_right t h
 have e:Int.gcd t b=(dv t b).natAbs*Int.gcd (fx t b) (fy t b):=by
  have:Int.gcd t b=Int.gcd (dv t b*fx t b) (dv t b*fy t b):=by rw [←e1,←e2]
  rw [this,Int.gcd_mul_left]
 rw [dv_abs] at e
 have:=Nat.eq_of_mul_eq_mul_left g (show Int.gcd t b*1=Int.gcd t b*Int.gcd (fx t b) (fy t b) by rw [←e,Nat.mul_one])
 exact this.symm
def Share (x y:Int):Prop:=0 < y∧Int.gcd x y=1
theorem cop_mul {x y z:Int} (h1:Int.gcd x y=1) (h2:Int.gcd x z=1):Int.gcd x (y*z)=1:=by
 show Nat.gcd x.natAbs (y*z).natAbs=1
 rw [Int.natAbs_mul]
 exact Nat.Coprime.mul_right h1 h2
theorem cop_mul' {x y z:Int} (h1:Int.gcd y x=1) (h2:Int.gcd z x=1):Int.gcd (y*z) x=1:=by
 rw [Int.gcd_comm]
 exact cop_mul (by rw [Int.gcd_comm];exact h1) (by rw [Int.gcd_comm];exact h2)
theorem cop_left {x x' y:Int} (h:Int.gcd (x'*x) y=1):Int.gcd x' y=1:=by
 have e:Nat.gcd (x'*x).natAbs y.natAbs=1:=h
 rw [Int.natAbs_mul] at e
 exact Nat.Coprime.coprime_mul_right e
theorem cop_left' {x x' y:Int} (h:Int.gcd (x*x') y=1):Int.gcd x' y=1:=by
 rw [Int.mul_comm] at h
 exact cop_left h
theorem cop_right {x y y':Int} (h:Int.gcd x (y*y')=1):Int.gcd x y'=1:=by
 rw [Int.gcd_comm] at h ⊢
 exact cop_left' h
theorem two_parts {x y:Int} (h:y≠0):∃x' y':Int,x=(Int.gcd x y:Int)*x'∧y=(Int.gcd x y:Int)*y'∧Int.gcd x' y'=1∧x / (Int.gcd x y:Int)=x'∧y / (Int.gcd x y:Int)=y':=by
 have g:0 < Int.gcd x y:=Int.gcd_pos_of_ne_zero_right x h
 obtain ⟨x',hx⟩:((Int.gcd x y:Nat):Int)∣x:=Int.gcd_dvd_left ..
 obtain ⟨y',hy⟩:((Int.gcd x y:Nat):Int)∣y:=Int.gcd_dvd_right ..
 have n:((Int.gcd x y:Nat):Int)≠0:=by omega
 refine ⟨x',y',hx,hy,?_,?_,?_⟩
 · have e:Int.gcd x y=Int.gcd x y*Int.gcd x' y':=by
    have:Int.gcd x y=Int.gcd ((Int.gcd x y:Int)*x') ((Int.gcd x y:Int)*y'):=by rw [←hx,←hy]
    rw [Int.gcd_mul_left,Int.natAbs_natCast] at this
    exact this
   have:=Nat.eq_of_mul_eq_mul_left g (show Int.gcd x y*1=Int.gcd x y*Int.gcd x' y' by rw [←e,Nat.mul_one])
   exact this.symm
 · generalize ((Int.gcd x y:Nat):Int)=k at*
   rw [hx]
   exact Int.mul_ediv_cancel_left _ n
 · generalize ((Int.gcd x y:Nat):Int)=k at*
   rw [hy]
   exact Int.mul_ediv_cancel_left _ n
theorem pos_of_mul {k x:Int} (hk:0≤k) (h:0 < k*x):0 < x:=by
 by_cases q:0 < x
 · exact q
 · have:=Int.mul_nonpos_of_nonneg_of_nonpos hk (show x≤0 by omega)
   omega
noncomputable def pT (a b c d:Int):Int:=a*(d / (Int.gcd b d:Int))+c*(b / (Int.gcd b d:Int))
noncomputable def pE (a b c d:Int):Int:=(Int.gcd (pT a b c d) (Int.gcd b d:Int):Int)
noncomputable def pX (a b c d:Int):Int:=pT a b c d / pE a b c d
noncomputable def pY (a b c d:Int):Int:=b / (Int.gcd b d:Int)*(d / pE a b c d)
theorem plus_ok {a b c d:Int} (h1:Share a b) (h2:Share c d):Share (pX a b c d) (pY a b c d)∧pX a b c d*(b*d)=(a*d+c*b)*pY a b c d:=by
 obtain ⟨b0,g1⟩:=h1
 obtain ⟨d0,g2⟩:=h2
 obtain ⟨b',d',eb,ed,g3,qb,qd⟩:=two_parts (x:=b) (y:=d) (by omega)
 have s0:(0:Int) < (Int.gcd b d:Int):=by
  have:0 < Int.gcd b d:=Int.gcd_pos_of_ne_zero_right b (by omega)
  omega
 have eT:pT a b c d=a*d'+c*b':=by unfold pT;rw [qb,qd]
 unfold pX pY
 have eE:pE a b c d=(Int.gcd (a*d'+c*b') (Int.gcd b d:Int):Int):=by unfold pE;rw [eT]
 rw [eE,eT,qb]
 generalize ((Int.gcd b d:Nat):Int)=s at*
 obtain ⟨t',s',et,es,g4,qt,qs⟩:=two_parts (x:=a*d'+c*b') (y:=s) (by omega)
 have e0:(0:Int) < (Int.gcd (a*d'+c*b') s:Int):=by
  have:0 < Int.gcd (a*d'+c*b') s:=Int.gcd_pos_of_ne_zero_right _ (by omega)
  omega
 have b0':0 < b':=pos_of_mul (k:=s) (by omega) (by omega)
 have d0':0 < d':=pos_of_mul (k:=s) (by omega) (by omega)
 have cT1:Int.gcd (a*d'+c*b') b'=1:=by
  have:Int.gcd (a*d'+c*b') b'=Int.gcd (a*d') b':=by
   rw [Int.gcd_comm,Int.gcd_comm (a*d')]
   have e:a*d'+c*b'=a*d'+b'*c:=by rw [Int.mul_comm c b']
   rw [e]
   exact Int.gcd_add_mul_left_right ..
  rw [this]
  refine cop_mul' ?_ (by rw [Int.gcd_comm];exact g3)
  rw [eb] at g1
  exact cop_right g1
 have cT2:Int.gcd (a*d'+c*b') d'=1:=by
  have:Int.gcd (a*d'+c*b') d'=Int.gcd (c*b') d':=by
   rw [Int.gcd_comm,Int.gcd_comm (c*b')]
   have e:a*d'+c*b'=c*b'+d'*a:=by rw [Int.mul_comm a d',Int.add_comm]
   rw [e]
   exact Int.gcd_add_mul_left_right ..
  rw [this]
  refine cop_mul' ?_ g3
  rw [ed] at g2
  exact cop_right g2
 rw [qt]
 generalize ((Int.gcd (a*d'+c*b') s:Nat):Int)=e at*
 have s0':0 < s':=pos_of_mul (k:=e) (by omega) (by omega)
 have qd2:d / e=d'*s':=by
  rw [ed,es,Int.mul_assoc,Int.mul_ediv_cancel_left _ (by omega),Int.mul_comm]
 rw [qd2]
 generalize ht:a*d'+c*b'=t at*
 refine ⟨⟨Int.mul_pos b0' (Int.mul_pos d0' s0'),?_⟩,?_⟩
 · rw [et] at cT1 cT2
   exact cop_mul (cop_left' cT1) (cop_mul (cop_left' cT2) g4)
 · have e1:a*d+c*b=s*t:=by
    rw [ed,eb,←ht,Int.mul_add]
    simp only [Int.mul_left_comm]
   rw [e1,et,eb,ed]
   have e2:s*(e*t')*(b'*(d'*s'))=s*t'*b'*d'*(e*s'):=by
    simp only [Int.mul_assoc,Int.mul_left_comm,Int.mul_comm]
   rw [e2,←es]
   simp only [Int.mul_assoc,Int.mul_left_comm,Int.mul_comm]
noncomputable def tX (a b c d:Int):Int:=a / (Int.gcd a d:Int)*(c / (Int.gcd c b:Int))
noncomputable def tY (a b c d:Int):Int:=b / (Int.gcd c b:Int)*(d / (Int.gcd a d:Int))
end Mth
namespace L2
section
open PySem
variable {prog:Program} {w:World} {A:Around} {R:Result→Shared→Prop} {s:Shared}
theorem comp_turns {elt target iter:Expr} {ifs:List Expr} {scope:Scope} {pos:Pos} {it acc:Value} {env:Env} (I:Nat→Shared→Prop)
 (turn:∀n s,I n s→wpAny (model prog w) A (pyNext it) (fun r s₁=>match r with
  |none=>R (.ok .next) s₁
  |some v=>wpAny (model prog w) A (letOwnedTupleGo target it v) (fun _ s₁'=>wpAny (model prog w) A (assign target env v) (fun _ s₂=>
   wpAny (model prog w) A (forIn ifs true fun c r=>if r=true then do let ok←isTrue c env (eval c env);pure (ForInStep.yield ok) else pure (ForInStep.yield r)) (fun ok s₃=>
    if ok=true then wpAny (model prog w) A (eval elt env) (fun x s₄=>
     wpAny (model prog w) A (call (.builtin "list.append") [acc,x]) (fun _ s₅=>∃m,m < n∧I m s₅) (fun _ _=>False) s₄) (fun _ _=>False) s₃
    else∃m,m < n∧I m s₃) (fun _ _=>False) s₂) (fun _ _=>False) s₁') (fun _ _=>False) s₁) (fun _ _=>False) s)
 (n:Nat) (h:I n s):codeAny (model prog w) A (.compLoop (.ListComp elt [⟨target,iter,ifs,0⟩] scope pos) 0 it acc env) R s:=by
 refine codeAny_loop rfl I (fun n s hI=> ?_) n h
 show wpAny _ A ((compTurn (.ListComp elt [⟨target,iter,ifs,0⟩] scope pos) 0 it acc env).onRaise (fun x=>do noteFrame x env;theTreesLotGoes x)) _ _ s
 refine wpAny_noted ?_
 rw [compTurn_list]
 refine wpAny_bind (wpAny_standAt (wpAny_bind (wpAny_mono (turn n s hI) (fun r s₁ h₁=> ?_) fun _ _ z=>z.elim)))
 cases r with
 |none=>exact wpAny_pure h₁
 |some v=>
  refine wpAny_bind (wpAny_mono h₁ (fun _ s₁' h₁'=> ?_) fun _ _ z=>z.elim)
  refine wpAny_bind (wpAny_mono h₁' (fun _ s₂ h₂=>wpAny_bind (wpAny_mono h₂ (fun ok s₃ h₃=> ?_) fun _ _ z=>z.elim)) fun _ _ z=>z.elim)
  cases ok with
  |false=>exact wpAny_pure ⟨rfl,h₃⟩
  |true=>
   exact wpAny_bind (wpAny_bind (wpAny_mono h₃ (fun x s₄ h₄=>wpAny_bind (wpAny_mono h₄ (fun _ s₅ h₅=>wpAny_pure (wpAny_pure ⟨rfl,h₅⟩)) fun _ _ z=>z.elim)) fun _ _ z=>z.elim))
noncomputable def closOf (names:List (Str×NameKind)) (cells:List (Str×Addr)):List (Str×Addr)→List (Str×Addr):=match names with
 | []=>fun cs=>cs
 |(n,k)::r=>fun cs=>closOf r cells (if (k== .free)=true then (n,(cells.lookup n).getD 0)::cs else cs)
noncomputable def hasCells (names:List (Str×NameKind)) (cells:List (Str×Addr)):Bool:=names.all fun y=> !(y.2== .free) ||(cells.lookup y.1).isSome
theorem clos_go (env:Env):∀(names:List (Str×NameKind)) (cs:List (Str×Addr)),hasCells names env.cells=true→
 (forIn names cs fun (x:Str×NameKind) (r:List (Str×Addr))=>match x with
  |(name,kind)=>if (kind==NameKind.free)=true then do let __do_lift←cellOf env name;pure (ForInStep.yield ((name,__do_lift)::r)) else pure (ForInStep.yield r):Sem (List (Str×Addr)))=pure (closOf names env.cells cs)
 | [],cs,_=>rfl
 |(n,k)::r,cs,h=>by
  unfold hasCells at h
  rw [List.all_cons,Bool.and_eq_true] at h
  rw [List.forIn_cons]
  unfold closOf
  by_cases hk:(k==NameKind.free)=true
  · rw [if_pos hk]
    dsimp only
    rw [if_pos hk]
    have h1:(env.cells.lookup n).isSome=true:=by
     have:=h.1
     rw [hk] at this
     simpa using this
    obtain ⟨c,hc⟩:=Option.isSome_iff_exists.mp h1
    have e:cellOf env n=pure c:=by unfold cellOf;rw [hc]
    rw [e,hc]
    exact clos_go env r _ h.2
  · rw [if_neg hk]
    dsimp only
    rw [if_neg hk]
    exact clos_go env r _ h.2
theorem clos_eq {scope:Scope} {env:Env} (h:hasCells scope.names env.cells=true):closureFor scope env=pure (closOf scope.names env.cells []):=by
 unfold closureFor
 have:=clos_go env scope.names [] h
 simp only [bind_pure]
 exact this
theorem clos_sub {cells:List (Str×Addr)}:∀(names:List (Str×NameKind)) (cs:List (Str×Addr)),hasCells names cells=true→(∀y c,cs.lookup y=some c→cells.lookup y=some c)→∀y c,(closOf names cells cs).lookup y=some c→cells.lookup y=some c
 | [],cs,_,hc,y,c,e=>hc y c e
 |(n,k)::r,cs,h,hc,y,c,e=>by
  unfold hasCells at h
  rw [List.all_cons,Bool.and_eq_true] at h
  refine clos_sub r _ h.2 (fun z d q=> ?_) y c e
  by_cases hk:(k==NameKind.free)=true
  · rw [if_pos hk,List.lookup_cons] at q
    cases zn:(z==n) with
    |true=>
     rw [zn] at q
     have h1:(cells.lookup n).isSome=true:=by
      have:=h.1
      rw [hk] at this
      simpa using this
     obtain ⟨c',hc'⟩:=Option.isSome_iff_exists.mp h1
     have zn':z=n:=by simpa using zn
     rw [zn',hc']
     have q':some ((cells.lookup n).getD 0)=some d:=q
     rw [hc'] at q'
     exact q'
    |false=>
     rw [zn] at q
     exact hc z d q
  · rw [if_neg hk] at q
    exact hc z d q
theorem clos_keep {cells:List (Str×Addr)}:∀(names:List (Str×NameKind)) (cs:List (Str×Addr)) (y:Str),(∃c,cs.lookup y=some c)→∃c,(closOf names cells cs).lookup y=some c
 | [],cs,y,h=>h
 |(n,k)::r,cs,y,h=>by
  refine clos_keep r _ y ?_
  by_cases hk:(k==NameKind.free)=true
  · rw [if_pos hk,List.lookup_cons]
    cases zn:(y==n) with
    |true=>exact ⟨_,rfl⟩
    |false=>exact h
  · rw [if_neg hk]
    exact h
theorem clos_has {cells:List (Str×Addr)}:∀(names:List (Str×NameKind)) (cs:List (Str×Addr)) (y:Str),(y,NameKind.free)∈names→∃c,(closOf names cells cs).lookup y=some c
 | [],_,y,h=>by cases h
 |(n,k)::r,cs,y,h=>by
  rcases List.mem_cons.mp h with e|h
  · obtain ⟨e1,e2⟩:=Prod.mk.inj e
    subst e1
    subst e2
    unfold closOf
    refine clos_keep r _ y ?_
    rw [if_pos (show (NameKind.free==NameKind.free)=true from rfl),List.lookup_cons]
    have:(y==y)=true:=by simp
    rw [this]
    exact ⟨_,rfl⟩
  · exact clos_has r _ y h
end
open PySem PySem.Spec PyProof.Rows
noncomputable abbrev XC (X:Cx) (scope:Scope) (NC:List Str) (C:Addr) (s:Shared) (H:Hp) (fp:List Addr) (pn:List (Addr×Obj)):Cx:=
 {X with N:=NC,s₀:=s,H₀:=H,env:=compEnvC scope (closOf scope.names X.env.cells []) C X.env,outer:=X.stack,stack:=X.stack,ex:=fp,fn:=fun _=>false,pn:=pn,xe:=fun _ _=>False}
noncomputable def subS (mp:List (Option Nat)) (σ:St):St:=mp.map fun o=>match o with
 |some i=>(σ[i]?).getD none
 |none=>none
noncomputable def okMap (N NC:List Str) (mp:List (Option Nat)) (names outer:List (Str×NameKind)):Bool:=(List.range mp.length).all fun j=>match mp[j]? with
 |some (some i)=>(match NC[j]?,N[i]? with
  |some y,some z=>y==z&&names.lookup y==some NameKind.free&& (outer.lookup y==some NameKind.cell ||outer.lookup y==some NameKind.free)
  |_,_=>false)
 |_=>true
theorem okMap_at {N NC:List Str} {mp:List (Option Nat)} {names outer:List (Str×NameKind)} (h:okMap N NC mp names outer=true) {j i:Nat} (e:mp[j]?=some (some i)):∃y,NC[j]?=some y∧N[i]?=some y∧names.lookup y=some .free∧(outer.lookup y=some .cell∨outer.lookup y=some .free):=by
 unfold okMap at h
 rw [List.all_eq_true] at h
 have hj:j < mp.length:=(List.getElem?_eq_some_iff.mp e).1
 have:=h j (List.mem_range.mpr hj)
 rw [e] at this
 dsimp only at this
 split at this
 · rename_i y z e1 e2
   simp only [Bool.and_eq_true,Bool.or_eq_true,beq_iff_eq] at this
   obtain ⟨⟨rfl,h2⟩,h3⟩:=this
   exact ⟨y,e1,e2,h2,h3⟩
 · cases this
def PTs (X:Cx) (ifs:List Expr) (t:TT):Prop:=
 ∀(pins:List (Addr×Obj)) (s:Shared) (σ:St) (H:Hp) (Q:Bool→Hp→Prop),Inv X pins σ H s→t σ H Q→
  wpAny (model X.prog X.w) X.A (forIn ifs true fun c r=>if r=true then do let ok←isTrue c X.env (eval c X.env);pure (ForInStep.yield ok) else pure (ForInStep.yield r)) (TP X pins σ Q) X.xe s
def tNoTest:TT:=fun _ H Q=>Q true H
theorem pts_nil {X:Cx}:PTs X [] tNoTest:=fun _ _ σ H Q I h=>wpAny_tests_nil ⟨H,I,h⟩
def Ext (σ σ':St):Prop:=∀(j:Nat) (v:V),σ[j]?=some (some v)→σ'[j]?=some (some v)
theorem Ext.refl (σ:St):Ext σ σ:=fun _ _ e=>e
theorem ext1 {o:Option V} {r:St}:Ext (none::r) (o::r)
 |0,v,e=>by cases (Option.some.inj (show some (none:Option V)=some (some v) from e))
 |j+1,v,e=>e
theorem ext2 {o p:Option V} {r:St}:Ext (none::none::r) (o::p::r)
 |0,v,e=>by cases (Option.some.inj (show some (none:Option V)=some (some v) from e))
 |1,v,e=>by cases (Option.some.inj (show some (none:Option V)=some (some v) from e))
 |j+2,v,e=>e
def tComp (mp:List (Option Nat)) (wi:TI) (g:TG) (tc:TT) (te:TE):TE:=fun σ H Q=>wi σ H fun J H1=>∀D,H1 D=none→
 ∃W:Nat→Nat→List V→Hp→Prop,(∃m,W 0 m [] (upd H1 D (.lst [])))∧∀i m acc H2,W i m acc H2→
  (J.stop i H2∧Q (.ref D) H2)∨
  (J.go i H2∧∀x H3,J.yld i H2 x H3→g x (subS mp σ) H3 fun σ4 H4=>Ext (subS mp σ) σ4∧tc σ4 H4 fun b H5=>if b=true then te σ4 H5 fun v H6=>H6 D=some (.lst acc)∧acc.length < sizeLine∧∃m',m' < m∧W (i+1) m' (acc++ [v]) (upd H6 D (.lst (acc++ [v])))
   else∃m',m' < m∧W (i+1) m' acc H5)
open PySem PySem.Spec PyProof.Rows
theorem lookup_relabel_free {env:Env}:∀ {names:List (Str×NameKind)} {x:Str},names.lookup x=some .free→
 (names.map fun (n,k)=>if (k==NameKind.free&&env.scope.kind== .function&&env.kindOf n==some .cell) then (n,NameKind.cell) else (n,k)).lookup x=some .cell∨
 (names.map fun (n,k)=>if (k==NameKind.free&&env.scope.kind== .function&&env.kindOf n==some .cell) then (n,NameKind.cell) else (n,k)).lookup x=some .free
 | [],_,h=>by simp at h
 |(n,k)::r,x,h=>by
  have ih:= @lookup_relabel_free env r x
  show List.lookup x ((if (k==NameKind.free&&env.scope.kind== .function&&env.kindOf n==some .cell)=true then (n,NameKind.cell) else (n,k))::_)=_∨List.lookup x ((if (k==NameKind.free&&env.scope.kind== .function&&env.kindOf n==some .cell)=true then (n,NameKind.cell) else (n,k))::_)=_
  cases hx:x==n with
  |true=>
   simp only [List.lookup_cons,hx] at h
   cases h
   by_cases hc:(NameKind.free==NameKind.free&&env.scope.kind== .function&&env.kindOf n==some .cell)=true
   · rw [if_pos hc]
     left
     simp only [List.lookup_cons,hx]
   · rw [if_neg hc]
     right
     simp only [List.lookup_cons,hx]
  |false=>
   simp only [List.lookup_cons,hx] at h
   by_cases hc:(k==NameKind.free&&env.scope.kind== .function&&env.kindOf n==some .cell)=true
   · rw [if_pos hc]
     simp only [List.lookup_cons,hx]
     exact ih h
   · rw [if_neg hc]
     simp only [List.lookup_cons,hx]
     exact ih h
theorem relabel_mem {env:Env}:∀ {names:List (Str×NameKind)} {x:Str},(∀y∈names,y.2≠ .cell)→
 ((names.map fun (n,k)=>if (k==NameKind.free&&env.scope.kind== .function&&env.kindOf n==some .cell) then (n,NameKind.cell) else (n,k)).lookup x=some .cell∨
 (names.map fun (n,k)=>if (k==NameKind.free&&env.scope.kind== .function&&env.kindOf n==some .cell) then (n,NameKind.cell) else (n,k)).lookup x=some .free)→(x,NameKind.free)∈names
 | [],_,_,h=>by simp at h
 |(n,k)::r,x,hn,h=>by
  have ih:= @relabel_mem env r x (fun y hy=>hn y (List.mem_cons_of_mem _ hy))
  have nk:k≠ .cell:=hn (n,k) List.mem_cons_self
  rw [List.map_cons] at h
  dsimp only at h
  cases hx:x==n with
  |true=>
   have xn:x=n:=by simpa using hx
   subst xn
   by_cases hc:(k==NameKind.free&&env.scope.kind== .function&&env.kindOf x==some .cell)=true
   · have:k= .free:=by
      have:=hc
      rw [Bool.and_eq_true,Bool.and_eq_true] at this
      simpa using this.1.1
     rw [this]
     exact List.mem_cons_self
   · rw [if_neg hc,List.lookup_cons,hx] at h
     rcases h with h|h
     · exact absurd (Option.some.inj h) nk
     · cases (Option.some.inj h)
       exact List.mem_cons_self
  |false=>
   refine List.mem_cons_of_mem _ (ih ?_)
   by_cases hc:(k==NameKind.free&&env.scope.kind== .function&&env.kindOf n==some .cell)=true
   · rw [if_pos hc,List.lookup_cons,hx] at h
     exact h
   · rw [if_neg hc,List.lookup_cons,hx] at h
     exact h
section
variable {X:Cx} {pins:List (Addr×Obj)} {σ:St} {H:Hp} {s:Shared}
theorem Inv.block {scope:Scope} {NC:List Str} {mp:List (Option Nat)} {fp:List Addr} {h1:Heap} {tk:Nat} {m:Str→Option Value} (I:Inv X pins σ H s) (hf:∀b∈fp,FpOk X pins H b) (hlt:∀b∈fp,b < s.heap.objs.size) (hk:scope.kind= .function) (hnc:∀y∈scope.names,y.2≠ .cell)
 (hc:hasCells scope.names X.env.cells=true) (hl:mp.length=NC.length) (hm:okMap X.N NC mp scope.names X.env.scope.names=true) (kp:∀b o,s.heap.get? b=some o→h1.get? b=some o) (hn:h1.Ns s.heap.objs.size m):
 Inv (XC X scope NC s.heap.objs.size s H fp (X.pn++pins)) [] (subS mp σ) H {s with heap:=h1,toks:=tk}:=by
 have sub:=clos_sub (cells:=X.env.cells) scope.names [] hc (fun y c e=>by cases e)
 have lt:∀b o,s.heap.get? b=some o→b≠s.heap.objs.size:=fun b o e=>Nat.ne_of_lt (Heap.lt_size e)
 have nst:∀b,b≠X.env.locals→b∉X.fs→b∉frs X.stack:=fun b h1 h2 z=>by
  rcases List.mem_cons.mp (I.stkSub b z) with e|e
  · exact h1 e
  · exact h2 e
 refine ⟨⟨I.ok.mod,hk,I.ok.glob,I.ok.blt,Nat.le_refl _,fun x y c e1 e2=>I.ok.inj x y c (sub x c e1) (sub y c e2),fun x hx=> ?_,(fun _ _ z=>by cases z),I.ok.hd,I.ok.frames, .inl rfl,fun b hb=> ?_,fun b o e=> ?_,Nat.le_trans I.ok.bsz I.sz,fun b o e hb=> ?_,fun b hb=> ?_,I.stack,I.stkFree⟩,
  rfl,I.bare,Un.kept kp,⟨m,hn,fun j y v e1 e2 e3=> ?_⟩,fun y c e=> ?_,I.hok.fresh (Nat.le_refl _),fun y c e=>I.freeC y c (sub y c e),fun p hp=> ?_,I.hok.kept kp,?_⟩
 · exact clos_has scope.names [] x (relabel_mem hnc hx)
 · obtain ⟨f0,f1,f2,f3,f4,f5⟩:=hf b hb
   exact ⟨Nat.ne_of_lt (hlt b hb),fun x c e=>f4 x c (sub x c e)⟩
 · obtain ⟨h1,h2⟩:=I.bs b o e
   exact ⟨h1,h2⟩
 · obtain ⟨f0,f1,f2,f3,f4,f5⟩:=hf b hb
   rcases f3 with z|z
   · exact I.ok.noex b o e z
   · exact absurd (Nat.lt_of_lt_of_le (Heap.lt_size e) (Nat.le_trans I.ok.bsz z)) (Nat.lt_irrefl _)
 · obtain ⟨f0,f1,f2,f3,f4,f5⟩:=hf b hb
   exact nst b f1 f2
 ·
  unfold subS at e2
  rw [List.getElem?_map] at e2
  cases q:mp[j]? with
  |none=>rw [q] at e2;cases e2
  |some o=>
   rw [q] at e2
   cases o with
   |none=>cases e2
   |some i=>
    have e2':some ((σ[i]?).getD none)=some (some v):=e2
    obtain ⟨z,y1,y2,y3,y4⟩:=okMap_at hm q
    have yz:y=z:=Option.some.inj ((show NC[j]?=some y from e1).symm.trans y1)
    subst yz
    have e4:σ[i]?=some (some v):=by
     cases w:σ[i]? with
     |none=>rw [w] at e2';cases e2'
     |some t=>rw [w] at e2';exact e2'
    obtain ⟨m0,hn0,hl0⟩:=I.loc
    obtain ⟨c,hcl⟩:=clos_has (cells:=X.env.cells) scope.names [] y (PySem.mem_of_lookup y3)
    have hcx:=sub y c hcl
    have vis:Vis X.env.scope y:= .inr y4
    obtain ⟨u,ru,lk⟩:=hl0 i y v y2 e4 vis
    refine ⟨u,ru, .inr ⟨lookup_relabel_free y3,c,hcl,?_⟩⟩
    rcases lk with ⟨k1,_⟩|⟨_,c',k2,k3⟩
    · have k1':X.env.scope.names.lookup y=some .local:=k1
      rcases y4 with y4|y4<;>(rw [y4] at k1';cases k1')
    · rw [hcx] at k2
      cases k2
      obtain ⟨oc,q1,q2⟩:=k3
      exact ⟨oc,kp _ _ q1,q2⟩
 · obtain ⟨v,oc,q1,q2⟩:=I.cell y c (sub y c e)
   exact ⟨v,oc,kp _ _ q1,q2⟩
 · have hp':p∈X.pn++pins:=by simpa using hp
   obtain ⟨q1,q2,q3,q4,q5⟩:=I.pin p hp'
   exact ⟨kp _ _ q1,q2,lt _ _ q1,nst _ q3 q4,q5⟩
 · show (subS mp σ).length=NC.length
   unfold subS
   rw [List.length_map,hl]
variable {elt target iter:Expr} {ifs:List Expr} {scope:Scope} {NC:List Str} {mp:List (Option Nat)} {pos:Pos} {wi:TI} {g:TG} {tc:TT} {te:TE}
theorem pe_comp (hcalm:X.calm=true) (hi:PI X target iter wi) (hg:∀C s H fp pn,PG (XC X scope NC C s H fp pn) target g) (ht:∀C s H fp pn,PTs (XC X scope NC C s H fp pn) ifs tc) (he:∀C s H fp pn,PE (XC X scope NC C s H fp pn) elt te)
 (hl:mp.length=NC.length:=by rfl) (hm:okMap X.N NC mp scope.names X.env.scope.names=true:=by rfl) (hc:hasCells scope.names X.env.cells=true:=by rfl) (hk:scope.kind= .function:=by rfl)
 (hnc:∀y∈scope.names,y.2≠ .cell:=by decide +kernel) (hnm:∀y∈scope.names,y.2= .local→scope.names.lookup y.1=some .local:=by decide +kernel) (hs:∀x,foldedSetIterable iter X.env x=pure x:=by intro _;rfl):
 PE X (.ListComp elt [⟨target,iter,ifs,0⟩] scope pos) (tComp mp wi g tc te):=by
 intro pins s σ H Q I h
 rw [eval_ListComp]
 refine wpAny_comprehension_free (use:=none) rfl hs (clos_eq hc) hk hnm (thn (hi pins s σ H _ I h) fun v s1 h1=>thn h1 fun itv s2 h2=> ?_)
 obtain ⟨it,fp,tn,J,H2,e,I2,T,st2,f2,W⟩:=h2
 subst e
 refine wpAny_newObj_type ?_ (by show 0≤sizeLine;decide)
 have nD:H2 s2.heap.objs.size=none:=I2.hok.fresh (Nat.le_refl _)
 have I3:Inv X pins σ (upd H2 s2.heap.objs.size (.lst [])) {s2 with heap:=s2.heap.push {cls:= .type "list",data:= .seq ([]:List Value).toArray}}:=
  I2.laid (t':=s2.toks) (fun b u e=>Heap.get?_push_of_some _ e) (Nat.le_refl _) ⟨by show 0≤sizeLine;decide,[],0, .nil,Heap.get?_push_size _ rfl⟩
 obtain ⟨W,⟨m0,w0⟩,turn⟩:=W _ nD
 have lt2:∀b∈fp,b < s2.heap.objs.size:=fun b hb=>by
  obtain ⟨o,e,_⟩:=T.obj 0 _ st2 b hb
  exact Heap.lt_size e
 have nDf:∀b∈fp,b≠s2.heap.objs.size:=fun b hb=>Nat.ne_of_lt (lt2 b hb)
 have f3:∀b∈fp,FpOk X pins (upd H2 s2.heap.objs.size (.lst [])) b:=fun b hb=>by
  obtain ⟨g0,g1⟩:=f2 b hb
  exact ⟨by rw [upd_ne (nDf b hb)];exact g0,g1⟩
 have st3:tn 0 (s2.heap.push {cls:= .type "list",data:= .seq ([]:List Value).toArray}):=T.keep 0 _ _ st2 fun b _ o e=>Heap.get?_push_of_some _ e
 have lt3:∀b∈fp,b < (s2.heap.push {cls:= .type "list",data:= .seq ([]:List Value).toArray}).objs.size:=fun b hb=>by
  rw [Heap.size_push]
  exact Nat.lt_succ_of_lt (lt2 b hb)
 generalize hD:s2.heap.objs.size=D at*
 generalize hs3:({s2 with heap:=s2.heap.push {cls:= .type "list",data:= .seq ([]:List Value).toArray}}:Shared)=s3 at*
 have hh3:s3.heap=s2.heap.push {cls:= .type "list",data:= .seq ([]:List Value).toArray}:=by rw [←hs3]
 rw [←hh3] at st3 lt3
 generalize hH3:upd H2 D (.lst [])=H3 at*
 refine wpAny_newFunctionEnv (around:=some X.env) hnc (by intro y hy;cases hy) (fun h4 hn4 hsb4=> ?_) hk
 have kp4:∀b o,s3.heap.get? b=some o→h4.get? b=some o:=fun b o e=>hsb4.extBut b o (Nat.ne_of_lt (Heap.lt_size e)) (Heap.get?_push_of_some _ e)
 have I4:=I3.block (tk:=s3.toks+([]:List (Str×Value)).length) f3 lt3 hk hnc hc hl hm kp4 hn4
 have st4:tn 0 h4:=T.keep 0 _ _ st3 fun b _ o e=>kp4 b o e
 have fin:∀(s5:Shared) (σ5:St) (H5:Hp),Inv (XC X scope NC s3.heap.objs.size s3 H3 fp (X.pn++pins)) [] σ5 H5 s5→Q (.ref D) H5→compPost (model X.prog X.w) X.A X.xe none (EP X pins σ Q) (.ref D) s3.heap.objs.size (.ok .next) s5:=by
  intro s5 σ5 H5 I5 q5
  obtain ⟨m5,hn5,_⟩:=id I5.loc
  refine ⟨m5,hn5,fun h6 sb6=>⟨.ref D,H5,?_,rfl,q5⟩⟩
  have kp6:∀b o,b≠s3.heap.objs.size→s5.heap.get? b=some o→h6.get? b=some o:=fun b o hb e=>sb6.extBut b o hb e
  have nC:∀b o,s3.heap.get? b=some o→b≠s3.heap.objs.size:=fun b o e=>Nat.ne_of_lt (Heap.lt_size e)
  have un:Un (frs X.stack) fp H3 H5 s3.heap s5.heap:=I5.base
  have hfree:H5 s3.heap.objs.size=none:=I5.free
  refine I3.call' (s':= {s5 with heap:=h6}) (ch:=fp) I5.os ⟨fun b o e n hb hx=>kp6 b o (nC b o e) (un.keep b o e n hb hx),fun b o e n hb hx=> ?_,un.free,fun b o e hx=> ?_,un.tups,un.frzs,un.tbls⟩ ?_ I5.bare (fun b hb=> ?_)
  · obtain ⟨sl,e1⟩:=un.slot b o e n hb hx
    exact ⟨sl,kp6 b _ (nC b o e) e1⟩
  · obtain ⟨o',e1⟩:=un.there b o e hx
    exact ⟨o',kp6 b o' (nC b o e) e1⟩
  · intro b o e
    have nb:b≠s3.heap.objs.size:=fun z=>by rw [z,hfree] at e;cases e
    refine (I5.hok b o e).stay (fun c v hc' r=>kp6 c v ?_ r) (fun _ r=>r) fun _ _ r=>r
    rcases hc' with z|z
    · rw [z];exact nb
    · intro y
      rw [y,hfree] at z
      cases z
  · obtain ⟨g0,g1,g2,g3,g4,g5⟩:=f3 b hb
    exact ⟨g3,g1,g4,g5⟩
 have loop:codeAny (model X.prog X.w) X.A (.compLoop (.ListComp elt [⟨target,iter,ifs,0⟩] scope pos) 0 (.ref it) (.ref D) (compEnvC scope (closOf scope.names X.env.cells []) s3.heap.objs.size X.env)) (compPost (model X.prog X.w) X.A X.xe none (EP X pins σ Q) (.ref D) s3.heap.objs.size)
  {s3 with heap:=h4,toks:=s3.toks+([]:List (Str×Value)).length}:=by
  refine comp_turns (fun n s'=>∃i acc σ' H',Inv (XC X scope NC s3.heap.objs.size s3 H3 fp (X.pn++pins)) [] σ' H' s'∧Ext (subS mp σ) σ'∧tn i s'.heap∧(∀b∈fp,H' b=none)∧W i n acc H') ?_ m0
   ⟨0,[],subS mp σ,H3,I4,fun _ _ e=>e,st4,fun b hb=>(f3 b hb).1,w0⟩
  rintro n s5 ⟨i,acc,σ5,H5,I5,hσ,st5,fr5,w5⟩
  have I5':Inv (XC X scope NC s3.heap.objs.size s3 H3 fp (X.pn++pins)) [] (subS mp σ) H5 s5:=I5.weak (by rw [I5.len];unfold subS;rw [List.length_map];exact hl) hσ
  have fpk:∀ {H':Hp},(∀b∈fp,H' b=none)→∀b∈fp,FpOk (XC X scope NC s3.heap.objs.size s3 H3 fp (X.pn++pins)) [] H' b:=fun hn b hb=>by
   obtain ⟨g0,g1,g2,g3,g4,g5⟩:=f3 b hb
   refine ⟨hn b hb,Nat.ne_of_lt (lt3 b hb),?_, .inl hb,(I4.ok.exf b hb).2,fun p hp=>g5 p (by simpa using hp)⟩
   exact I4.ok.exfs b hb
  rcases turn i n acc H5 w5 with ⟨stop,q⟩|⟨go,step⟩
  · refine thn (T.done (XC X scope NC s3.heap.objs.size s3 H3 fp (X.pn++pins)) rfl rfl rfl hcalm i [] s5 _ H5 (fun _ _=>False) I5' (fpk fr5) st5 stop) fun r s6 ⟨hr,I6⟩=> ?_
    subst hr
    exact fin s6 _ H5 I6 q
  · refine thn (T.item (XC X scope NC s3.heap.objs.size s3 H3 fp (X.pn++pins)) rfl rfl rfl hcalm i [] s5 _ H5 (fun _ _=>False) I5' (fpk fr5) st5 go) fun r s6 ⟨u,hr,h6⟩=> ?_
    subst hr
    refine thn h6 fun _ s7 ⟨x,H7,I7,r7,y7,st7,fr7⟩=> ?_
    have I7':=I7.pinned (fpk fr7) (T.obj _ _ st7)
    refine thn (hg _ _ _ _ _ _ s7 _ H7 x u _ I7' r7 (step x H7 y7)) fun _ s8 ⟨σ8,H8,I8,ext8,q8⟩=> ?_
    refine thn (ht _ _ _ _ _ _ s8 σ8 H8 _ I8 q8) fun ok s9 ⟨H9,I9,q9⟩=> ?_
    have again:∀ {σ':St} {H':Hp} {s':Shared} {acc':List V} {m':Nat},Inv (XC X scope NC s3.heap.objs.size s3 H3 fp (X.pn++pins)) ([]++pinsAt fp s7.heap) σ' H' s'→Ext (subS mp σ) σ'→m' < n→W (i+1) m' acc' H'→
     ∃m,m < n∧∃i acc σ' H',Inv (XC X scope NC s3.heap.objs.size s3 H3 fp (X.pn++pins)) [] σ' H' s'∧Ext (subS mp σ) σ'∧tn i s'.heap∧(∀b∈fp,H' b=none)∧W i m acc H':=by
     intro σ' H' s' acc' m' I' hσ' hm' w'
     refine ⟨m',hm',i+1,acc',σ',H',I'.unpinned,hσ',T.keep _ _ _ st7 fun b hb o e=>(I'.pin (b,o) (List.mem_append_right _ (List.mem_append_right _ (mem_pinsAt hb e)))).1,fun b hb=> ?_,w'⟩
     obtain ⟨o,e,d⟩:=T.obj _ _ st7 b hb
     exact (I'.pin (b,o) (List.mem_append_right _ (List.mem_append_right _ (mem_pinsAt hb e)))).2.1
    cases ok with
    |false=>
     rw [if_neg Bool.false_ne_true] at q9
     rw [if_neg Bool.false_ne_true]
     obtain ⟨m',hm',w'⟩:=q9
     exact again I9 ext8 hm' w'
    |true=>
     rw [if_pos rfl] at q9
     rw [if_pos rfl]
     refine thn (he _ _ _ _ _ _ s9 σ8 H9 _ I9 q9) fun v s10 ⟨y,H10,I10,r10,hD10,hz,m',hm',w'⟩=> ?_
     refine thn (mt_append (X:=XC X scope NC s3.heap.objs.size s3 H3 fp (X.pn++pins)) _ s10 σ8 H10 (.ref D) [y] (.ref D) [v] (fun _ H'=>H'=upd H10 D (.lst (acc++ [y]))) I10 rfl (.cons r10 .nil) ⟨D,acc,y,rfl,rfl,hD10,hz,rfl⟩) fun _ s11 ⟨_,H11,I11,_,e11⟩=> ?_
     subst e11
     exact again I11 ext8 hm' w'
 exact codeAny_compStart_list loop (T.self _ 0 _ _ _ st4 loop)
end
open PySem PySem.Spec PyProof.Rows
section
variable {X:Cx} {pins:List (Addr×Obj)} {σ:St} {H:Hp} {s:Shared}
theorem Ns_same {h h':Heap} {a b:Addr} {m:Str→Option Value} (hn:h.Ns a m) (sb:Heap.SameBut b h h') (ne:a≠b):h'.Ns a m:=by
 obtain ⟨o,es,ep,ho,r⟩:=hn
 exact ⟨o,es,ep,(sb.2 a ne).trans ho,r⟩
variable {elt target iter:Expr} {ifs:List Expr} {scope:Scope} {NC:List Str} {mp:List (Option Nat)} {pos spos:Pos} {wi:TI} {g:TG} {tc:TT} {te:TE} {i:Nat} {x:Str} {px:Pos}
theorem ps_setC (hcalm:X.calm=true) (hN:X.N.Nodup) (hix:X.N[i]?=some x) (hx:X.env.scope.names.lookup x=some .local) (hsw:swapsWith (.ListComp elt [⟨target,iter,ifs,0⟩] scope pos) (some (.Name x px)) spos.line X.env=pure true)
 (hi:PI X target iter wi) (hg:∀C s H fp pn,PG (XC X scope NC C s H fp pn) target g) (ht:∀C s H fp pn,PTs (XC X scope NC C s H fp pn) ifs tc) (he:∀C s H fp pn,PE (XC X scope NC C s H fp pn) elt te)
 (hl:mp.length=NC.length:=by rfl) (hm:okMap X.N NC mp scope.names X.env.scope.names=true:=by rfl) (hc:hasCells scope.names X.env.cells=true:=by rfl) (hk:scope.kind= .function:=by rfl)
 (hnc:∀y∈scope.names,y.2≠ .cell:=by decide +kernel) (hnm:∀y∈scope.names,y.2= .local→scope.names.lookup y.1=some .local:=by decide +kernel) (hs:∀x,foldedSetIterable iter X.env x=pure x:=by intro _;rfl):
 PS X (.Assign [.Name x px] (.ListComp elt [⟨target,iter,ifs,0⟩] scope pos) spos) (tAsg (tComp mp wi g tc te) (gName i)):=by
 intro pins s σ H Z I h
 rw [exec_Assign_Name_used _ _ _ _ hsw]
 refine wpAny_bind (wpAny_standAt (wpAny_bind ?_))
 show wpAny _ _ (do let _←comprehension (.ListComp elt [⟨target,iter,ifs,0⟩] scope pos) scope X.env _ (newList []) false (eval iter X.env) (some (assign (.Name x px) X.env))) _ _ s
 refine wpAny_bind (wpAny_mono (wpAny_comprehension_free (use:=some (assign (.Name x px) X.env)) (Q:=fun _ s'=>SP X pins Z .next s') (E:=X.xe) rfl hs (clos_eq hc) hk hnm
  (thn (hi pins s σ H _ I h) fun v s1 h1=>thn h1 fun itv s2 h2=> ?_)) (fun _ s' q=>wpAny_pure (wpAny_pure q)) fun _ _ e=>e)
 obtain ⟨it,fp,tn,J,H2,e,I2,T,st2,f2,W⟩:=h2
 subst e
 refine wpAny_newObj_type ?_ (by show 0≤sizeLine;decide)
 have nD:H2 s2.heap.objs.size=none:=I2.hok.fresh (Nat.le_refl _)
 have I3:Inv X pins σ (upd H2 s2.heap.objs.size (.lst [])) {s2 with heap:=s2.heap.push {cls:= .type "list",data:= .seq ([]:List Value).toArray}}:=
  I2.laid (t':=s2.toks) (fun b u e=>Heap.get?_push_of_some _ e) (Nat.le_refl _) ⟨by show 0≤sizeLine;decide,[],0, .nil,Heap.get?_push_size _ rfl⟩
 obtain ⟨W,⟨m0,w0⟩,turn⟩:=W _ nD
 have lt2:∀b∈fp,b < s2.heap.objs.size:=fun b hb=>by
  obtain ⟨o,e,_⟩:=T.obj 0 _ st2 b hb
  exact Heap.lt_size e
 have nDf:∀b∈fp,b≠s2.heap.objs.size:=fun b hb=>Nat.ne_of_lt (lt2 b hb)
 have f3:∀b∈fp,FpOk X pins (upd H2 s2.heap.objs.size (.lst [])) b:=fun b hb=>by
  obtain ⟨g0,g1⟩:=f2 b hb
  exact ⟨by rw [upd_ne (nDf b hb)];exact g0,g1⟩
 have st3:tn 0 (s2.heap.push {cls:= .type "list",data:= .seq ([]:List Value).toArray}):=T.keep 0 _ _ st2 fun b _ o e=>Heap.get?_push_of_some _ e
 have lt3:∀b∈fp,b < (s2.heap.push {cls:= .type "list",data:= .seq ([]:List Value).toArray}).objs.size:=fun b hb=>by
  rw [Heap.size_push]
  exact Nat.lt_succ_of_lt (lt2 b hb)
 generalize hD:s2.heap.objs.size=D at*
 generalize hs3:({s2 with heap:=s2.heap.push {cls:= .type "list",data:= .seq ([]:List Value).toArray}}:Shared)=s3 at*
 have hh3:s3.heap=s2.heap.push {cls:= .type "list",data:= .seq ([]:List Value).toArray}:=by rw [←hs3]
 rw [←hh3] at st3 lt3
 generalize hH3:upd H2 D (.lst [])=H3 at*
 refine wpAny_newFunctionEnv (around:=some X.env) hnc (by intro y hy;cases hy) (fun h4 hn4 hsb4=> ?_) hk
 have kp4:∀b o,s3.heap.get? b=some o→h4.get? b=some o:=fun b o e=>hsb4.extBut b o (Nat.ne_of_lt (Heap.lt_size e)) (Heap.get?_push_of_some _ e)
 have I4:=I3.block (tk:=s3.toks+([]:List (Str×Value)).length) f3 lt3 hk hnc hc hl hm kp4 hn4
 have st4:tn 0 h4:=T.keep 0 _ _ st3 fun b _ o e=>kp4 b o e
 have nC:∀b o,s3.heap.get? b=some o→b≠s3.heap.objs.size:=fun b o e=>Nat.ne_of_lt (Heap.lt_size e)
 have out:∀(s5:Shared) (σ5:St) (H5:Hp) (h6:Heap),Inv (XC X scope NC s3.heap.objs.size s3 H3 fp (X.pn++pins)) [] σ5 H5 s5→Heap.SameBut s3.heap.objs.size s5.heap h6→Inv X pins σ H5 {s5 with heap:=h6}:=by
  intro s5 σ5 H5 h6 I5 sb6
  have kp6:∀b o,b≠s3.heap.objs.size→s5.heap.get? b=some o→h6.get? b=some o:=fun b o hb e=>sb6.extBut b o hb e
  have un:Un (frs X.stack) fp H3 H5 s3.heap s5.heap:=I5.base
  have hfree:H5 s3.heap.objs.size=none:=I5.free
  refine I3.call' (s':= {s5 with heap:=h6}) (ch:=fp) I5.os ⟨fun b o e n hb hx=>kp6 b o (nC b o e) (un.keep b o e n hb hx),fun b o e n hb hx=> ?_,un.free,fun b o e hx=> ?_,un.tups,un.frzs,un.tbls⟩ ?_ I5.bare (fun b hb=> ?_)
  · obtain ⟨sl,e1⟩:=un.slot b o e n hb hx
    exact ⟨sl,kp6 b _ (nC b o e) e1⟩
  · obtain ⟨o',e1⟩:=un.there b o e hx
    exact ⟨o',kp6 b o' (nC b o e) e1⟩
  · intro b o e
    have nb:b≠s3.heap.objs.size:=fun z=>by rw [z,hfree] at e;cases e
    refine (I5.hok b o e).stay (fun c v hc' r=>kp6 c v ?_ r) (fun _ r=>r) fun _ _ r=>r
    rcases hc' with z|z
    · rw [z];exact nb
    · intro y
      rw [y,hfree] at z
      cases z
  · obtain ⟨g0,g1,g2,g3,g4,g5⟩:=f3 b hb
    exact ⟨g3,g1,g4,g5⟩
 have fin:∀(s5:Shared) (σ5:St) (H5:Hp),Inv (XC X scope NC s3.heap.objs.size s3 H3 fp (X.pn++pins)) [] σ5 H5 s5→Z.nx (σ.set i (some (.ref D))) H5→compPost (model X.prog X.w) X.A X.xe (some (assign (.Name x px) X.env)) (fun _ s'=>SP X pins Z .next s') (.ref D) s3.heap.objs.size (.ok .next) s5:=by
  intro s5 σ5 H5 I5 q5
  obtain ⟨m5,hn5,_⟩:=id I5.loc
  have I6:=out s5 σ5 H5 s5.heap I5 (.refl ..)
  have lC:X.env.locals≠s3.heap.objs.size:=Nat.ne_of_lt I3.lt
  show wpAny _ _ (assign (.Name x px) X.env (.ref D)) _ _ _
  refine wpAny_assign_Name (store_ok2 (X:=X) (v:= .ref D) I6 hN hix (.inl hx) rfl (fun s7 I7 hch=> ?_) (.inr hx))
  obtain ⟨a,sb7,ha⟩:=hch
  have aC:s3.heap.objs.size≠a:=by
   rcases ha with z|z
   · rw [z];exact Ne.symm lC
   · obtain ⟨v,oc,q1,_⟩:=I3.cell x a z
     exact Ne.symm (nC a oc q1)
  refine ⟨m5,Ns_same hn5 sb7 aC,fun h8 sb8=>⟨σ.set i (some (.ref D)),H5,?_,q5⟩⟩
  have hfree:H5 s3.heap.objs.size=none:=I5.free
  have kp8:∀b o,b≠s3.heap.objs.size→s7.heap.get? b=some o→h8.get? b=some o:=fun b o hb e=>sb8.extBut b o hb e
  have s0lt:∀b o,X.s₀.heap.get? b=some o→b≠s3.heap.objs.size:=fun b o e=>Nat.ne_of_lt (Nat.lt_of_lt_of_le (Heap.lt_size e) I3.sz)
  refine ⟨I7.ok,I7.os,I7.bare,⟨fun b o e n hb hx=>kp8 b o (s0lt b o e) (I7.base.keep b o e n hb hx),fun b o e n hb hx=> ?_,I7.base.free,fun b o e hx=> ?_,I7.base.tups,I7.base.frzs,I7.base.tbls⟩,?_,fun y c e=> ?_,I7.free,I7.freeC,fun p hp=> ?_,?_,I7.len⟩
  · obtain ⟨sl,e1⟩:=I7.base.slot b o e n hb hx
    exact ⟨sl,kp8 b _ (s0lt b o e) e1⟩
  · obtain ⟨o',e1⟩:=I7.base.there b o e hx
    exact ⟨o',kp8 b o' (s0lt b o e) e1⟩
  · obtain ⟨m7,hn7,hl7⟩:=I7.loc
    have cellN:∀y c,X.env.cells.lookup y=some c→c≠s3.heap.objs.size:=fun y c e=>by
     obtain ⟨v,oc,q1,_⟩:=I3.cell y c e
     exact nC c oc q1
    refine ⟨m7,Ns_same hn7 sb8 lC,fun j y v e1 e2 e3=> ?_⟩
    obtain ⟨u,ru,lk⟩:=hl7 j y v e1 e2 e3
    refine ⟨u,ru,?_⟩
    rcases lk with lk|⟨k1,c,k2,k3⟩
    · exact .inl lk
    · exact .inr ⟨k1,c,k2,k3.sameBut sb8 (cellN y c k2)⟩
  · obtain ⟨w',z⟩:=I7.cell y c e
    obtain ⟨v,oc,q1,_⟩:=I3.cell y c e
    exact ⟨w',z.sameBut sb8 (nC c oc q1)⟩
  · obtain ⟨e,n1,n2,n3,n4⟩:=I7.pin p hp
    obtain ⟨e3,_⟩:=I3.pin p hp
    exact ⟨kp8 _ _ (nC _ _ e3) e,n1,n2,n3,n4⟩
  · intro b o e
    have nb:b≠s3.heap.objs.size:=fun z=>by rw [z,hfree] at e;cases e
    refine (I7.hok b o e).stay (fun c v hc' r=>kp8 c v ?_ r) (fun _ r=>r) fun _ _ r=>r
    rcases hc' with z|z
    · rw [z];exact nb
    · intro y
      rw [y,hfree] at z
      cases z
 have loop:codeAny (model X.prog X.w) X.A (.compLoop (.ListComp elt [⟨target,iter,ifs,0⟩] scope pos) 0 (.ref it) (.ref D) (compEnvC scope (closOf scope.names X.env.cells []) s3.heap.objs.size X.env)) (compPost (model X.prog X.w) X.A X.xe (some (assign (.Name x px) X.env)) (fun _ s'=>SP X pins Z .next s') (.ref D) s3.heap.objs.size)
  {s3 with heap:=h4,toks:=s3.toks+([]:List (Str×Value)).length}:=by
  refine comp_turns (fun n s'=>∃i acc σ' H',Inv (XC X scope NC s3.heap.objs.size s3 H3 fp (X.pn++pins)) [] σ' H' s'∧Ext (subS mp σ) σ'∧tn i s'.heap∧(∀b∈fp,H' b=none)∧W i n acc H') ?_ m0
   ⟨0,[],subS mp σ,H3,I4,fun _ _ e=>e,st4,fun b hb=>(f3 b hb).1,w0⟩
  rintro n s5 ⟨i,acc,σ5,H5,I5,hσ,st5,fr5,w5⟩
  have I5':Inv (XC X scope NC s3.heap.objs.size s3 H3 fp (X.pn++pins)) [] (subS mp σ) H5 s5:=I5.weak (by rw [I5.len];unfold subS;rw [List.length_map];exact hl) hσ
  have fpk:∀ {H':Hp},(∀b∈fp,H' b=none)→∀b∈fp,FpOk (XC X scope NC s3.heap.objs.size s3 H3 fp (X.pn++pins)) [] H' b:=fun hn b hb=>by
   obtain ⟨g0,g1,g2,g3,g4,g5⟩:=f3 b hb
   refine ⟨hn b hb,Nat.ne_of_lt (lt3 b hb),?_, .inl hb,(I4.ok.exf b hb).2,fun p hp=>g5 p (by simpa using hp)⟩
   exact I4.ok.exfs b hb
  rcases turn i n acc H5 w5 with ⟨stop,q⟩|⟨go,step⟩
  · refine thn (T.done (XC X scope NC s3.heap.objs.size s3 H3 fp (X.pn++pins)) rfl rfl rfl hcalm i [] s5 _ H5 (fun _ _=>False) I5' (fpk fr5) st5 stop) fun r s6 ⟨hr,I6⟩=> ?_
    subst hr
    exact fin s6 _ H5 I6 q
  · refine thn (T.item (XC X scope NC s3.heap.objs.size s3 H3 fp (X.pn++pins)) rfl rfl rfl hcalm i [] s5 _ H5 (fun _ _=>False) I5' (fpk fr5) st5 go) fun r s6 ⟨u,hr,h6⟩=> ?_
    subst hr
    refine thn h6 fun _ s7 ⟨x,H7,I7,r7,y7,st7,fr7⟩=> ?_
    have I7':=I7.pinned (fpk fr7) (T.obj _ _ st7)
    refine thn (hg _ _ _ _ _ _ s7 _ H7 x u _ I7' r7 (step x H7 y7)) fun _ s8 ⟨σ8,H8,I8,ext8,q8⟩=> ?_
    refine thn (ht _ _ _ _ _ _ s8 σ8 H8 _ I8 q8) fun ok s9 ⟨H9,I9,q9⟩=> ?_
    have again:∀ {σ':St} {H':Hp} {s':Shared} {acc':List V} {m':Nat},Inv (XC X scope NC s3.heap.objs.size s3 H3 fp (X.pn++pins)) ([]++pinsAt fp s7.heap) σ' H' s'→Ext (subS mp σ) σ'→m' < n→W (i+1) m' acc' H'→
     ∃m,m < n∧∃i acc σ' H',Inv (XC X scope NC s3.heap.objs.size s3 H3 fp (X.pn++pins)) [] σ' H' s'∧Ext (subS mp σ) σ'∧tn i s'.heap∧(∀b∈fp,H' b=none)∧W i m acc H':=by
     intro σ' H' s' acc' m' I' hσ' hm' w'
     refine ⟨m',hm',i+1,acc',σ',H',I'.unpinned,hσ',T.keep _ _ _ st7 fun b hb o e=>(I'.pin (b,o) (List.mem_append_right _ (List.mem_append_right _ (mem_pinsAt hb e)))).1,fun b hb=> ?_,w'⟩
     obtain ⟨o,e,d⟩:=T.obj _ _ st7 b hb
     exact (I'.pin (b,o) (List.mem_append_right _ (List.mem_append_right _ (mem_pinsAt hb e)))).2.1
    cases ok with
    |false=>
     rw [if_neg Bool.false_ne_true] at q9
     rw [if_neg Bool.false_ne_true]
     obtain ⟨m',hm',w'⟩:=q9
     exact again I9 ext8 hm' w'
    |true=>
     rw [if_pos rfl] at q9
     rw [if_pos rfl]
     refine thn (he _ _ _ _ _ _ s9 σ8 H9 _ I9 q9) fun v s10 ⟨y,H10,I10,r10,hD10,hz,m',hm',w'⟩=> ?_
     refine thn (mt_append (X:=XC X scope NC s3.heap.objs.size s3 H3 fp (X.pn++pins)) _ s10 σ8 H10 (.ref D) [y] (.ref D) [v] (fun _ H'=>H'=upd H10 D (.lst (acc++ [y]))) I10 rfl (.cons r10 .nil) ⟨D,acc,y,rfl,rfl,hD10,hz,rfl⟩) fun _ s11 ⟨_,H11,I11,_,e11⟩=> ?_
     subst e11
     exact again I11 ext8 hm' w'
 exact codeAny_compStart_list loop (T.self _ 0 _ _ _ st4 loop)
end
open PySem PySem.Spec PyProof.Rows
section
variable {κ:Type} [DecidableEq κ]
noncomputable def valV (kvs:List (κ×V)) (k:κ):Option V:=(kvs.find? fun kv=>decide (kv.1=k)).map (·.2)
noncomputable def putK (kvs:List (κ×V)) (k:κ) (v:V):List (κ×V):=
 if (kvs.any fun kv=>decide (kv.1=k))=true then kvs.map (fun kv=>if kv.1=k then (kv.1,v) else kv) else kvs++ [(k,v)]
noncomputable def dropK (kvs:List (κ×V)) (k:κ):List (κ×V):=kvs.filter fun kv=>decide (kv.1≠k)
theorem valV_pos {p:κ×V} {r:List (κ×V)} {k:κ} (e:p.1=k):valV (p::r) k=some p.2:=by simp [valV,List.find?_cons,e]
theorem valV_neg {p:κ×V} {r:List (κ×V)} {k:κ} (e:¬p.1=k):valV (p::r) k=valV r k:=by simp [valV,List.find?_cons,e]
theorem valV_any (k:κ):∀kvs:List (κ×V),(kvs.any fun kv=>decide (kv.1=k))=(valV kvs k).isSome
 | []=>rfl
 |p::r=>by
  rw [List.any_cons]
  by_cases e:p.1=k
  · simp only [valV_pos e,decide_eq_true e,Bool.true_or,Option.isSome_some]
  · rw [valV_neg e,decide_eq_false e,Bool.false_or];exact valV_any k r
theorem valV_map (k j:κ) (y:V):∀kvs:List (κ×V),valV (kvs.map fun kv=>if kv.1=k then (kv.1,y) else kv) j=(valV kvs j).map fun x=>if j=k then y else x
 | []=>rfl
 |p::r=>by
  have ih:=valV_map k j y r
  rw [List.map_cons]
  by_cases h:p.1=k
  · rw [if_pos h]
    by_cases e:p.1=j
    · rw [valV_pos (p:=(p.1,y)) e,valV_pos e,Option.map_some,if_pos (e.symm.trans h)]
    · rw [valV_neg (p:=(p.1,y)) e,valV_neg e,ih]
  · rw [if_neg h]
    by_cases e:p.1=j
    · rw [valV_pos (p:=p) e,valV_pos e,Option.map_some,if_neg (fun z=>h (e.trans z))]
    · rw [valV_neg (p:=p) e,valV_neg e,ih]
theorem valV_snoc (k j:κ) (y:V):∀kvs:List (κ×V),valV kvs k=none→valV (kvs++ [(k,y)]) j=if j=k then some y else valV kvs j
 | [],_=>by
  by_cases e:k=j
  · rw [if_pos e.symm];exact valV_pos (p:=(k,y)) e
  · rw [if_neg (fun z=>e z.symm)];exact valV_neg (p:=(k,y)) e
 |p::r,hn=>by
  rw [List.cons_append]
  have hk:¬p.1=k:=fun z=>by rw [valV_pos z] at hn;cases hn
  rw [valV_neg hk] at hn
  have ih:=valV_snoc k j y r hn
  by_cases e:p.1=j
  · rw [valV_pos e,valV_pos e,if_neg (fun z=>hk (e.trans z))]
  · rw [valV_neg e,valV_neg e,ih]
theorem valV_put (kvs:List (κ×V)) (k j:κ) (y:V):valV (putK kvs k y) j=if j=k then some y else valV kvs j:=by
 unfold putK
 by_cases a:(kvs.any fun kv=>decide (kv.1=k))=true
 · rw [if_pos a,valV_map]
   rw [valV_any] at a
   by_cases e:j=k
   · obtain ⟨x,hx⟩:=Option.isSome_iff_exists.mp a
     rw [if_pos e,e,hx,Option.map_some,if_pos rfl]
   · rw [if_neg e]
     cases valV kvs j with
     |none=>rfl
     |some x=>rw [Option.map_some,if_neg e]
 · rw [if_neg a]
   refine valV_snoc k j y kvs ?_
   rw [valV_any] at a
   cases q:valV kvs k with
   |none=>rfl
   |some x=>rw [q] at a;exact (a rfl).elim
theorem length_putK (kvs:List (κ×V)) (k:κ) (v:V):(putK kvs k v).length≤kvs.length+1:=by
 unfold putK
 split
 · rw [List.length_map];omega
 · rw [List.length_append,List.length_cons,List.length_nil];omega
theorem RelO.isSome_eq {o:Option V} {u:Option Value} (r:RelO o u):o.isSome=u.isSome:=by
 cases o with
 |none=>cases u with
  |none=>rfl
  |some _=>exact (show False from r).elim
 |some _=>cases u with
  |none=>exact (show False from r).elim
  |some _=>rfl
theorem RelO.getD {o:Option V} {u:Option Value} {d:V} {d':Value} (r:RelO o u) (rd:RelV d d'):RelV (o.getD d) (u.getD d'):=by
 cases o with
 |none=>cases u with
  |none=>exact rd
  |some _=>exact (show False from r).elim
 |some _=>cases u with
  |none=>exact (show False from r).elim
  |some _=>exact r
theorem KV.val {kvs:List (κ×V)} {vs:List (κ×Value)} (r:KV kvs vs) (k:κ):RelO (valV kvs k) (valueAt vs k):=by
 unfold KV at r
 induction r with
 |nil=>exact True.intro
 | @cons p q ps qs h t ih=>
  obtain ⟨h1,h2⟩:=h
  by_cases e:p.1=k
  · have e':q.1=k:=h1.symm.trans e
    have b:valueAt (q::qs) k=some q.2:=by simp [valueAt,List.find?_cons,e']
    rw [valV_pos e,b];exact h2
  · have e':¬q.1=k:=fun z=>e (h1.trans z)
    have b:valueAt (q::qs) k=valueAt qs k:=by simp [valueAt,List.find?_cons,e']
    rw [valV_neg e,b];exact ih
theorem KV.any {kvs:List (κ×V)} {vs:List (κ×Value)} (r:KV kvs vs) (k:κ):(kvs.any fun kv=>decide (kv.1=k))=vs.any fun kv=>decide (kv.1=k):=by
 unfold KV at r
 induction r with
 |nil=>rfl
 |cons h t ih=>rw [List.any_cons,List.any_cons,ih,h.1]
theorem KV.repl {kvs:List (κ×V)} {vs:List (κ×Value)} (r:KV kvs vs) (k:κ) {y:V} {u:Value} (ry:RelV y u):
 KV (kvs.map fun kv=>if kv.1=k then (kv.1,y) else kv) (vs.map fun kv=>if kv.1=k then (kv.1,u) else kv):=by
 unfold KV at r ⊢
 induction r with
 |nil=>exact .nil
 | @cons p q ps qs h t ih=>
  rw [List.map_cons,List.map_cons]
  refine .cons ?_ ih
  obtain ⟨h1,h2⟩:=h
  by_cases e:p.1=k
  · rw [if_pos e,if_pos (h1.symm.trans e)];exact ⟨h1,ry⟩
  · rw [if_neg e,if_neg (fun z=>e (h1.trans z))];exact ⟨h1,h2⟩
theorem KV.put {kvs:List (κ×V)} {vs:List (κ×Value)} (r:KV kvs vs) (k:κ) {y:V} {u:Value} (ry:RelV y u):KV (putK kvs k y) (stored vs k u):=by
 unfold putK stored
 rw [r.any k]
 by_cases e:(vs.any fun kv=>decide (kv.1=k))=true
 · rw [if_pos e,if_pos e];exact r.repl k ry
 · rw [if_neg e,if_neg e];exact Paired.snoc r ⟨rfl,ry⟩
theorem KV.drop {kvs:List (κ×V)} {vs:List (κ×Value)} (r:KV kvs vs) (k:κ):KV (dropK kvs k) (without vs k):=by
 unfold KV at r ⊢
 unfold dropK without
 induction r with
 |nil=>exact .nil
 | @cons p q ps qs h t ih=>
  obtain ⟨h1,h2⟩:=h
  rw [List.filter_cons,List.filter_cons]
  by_cases e:p.1=k
  · have a:¬decide (p.1≠k)=true:=by simp [e]
    have b:¬decide (q.1≠k)=true:=by simp [h1.symm.trans e]
    rw [if_neg a,if_neg b];exact ih
  · have e':¬q.1=k:=fun z=>e (h1.trans z)
    have a:decide (p.1≠k)=true:=by simp [e]
    have b:decide (q.1≠k)=true:=by simp [e']
    rw [if_pos a,if_pos b];exact .cons ⟨h1,h2⟩ ih
theorem KV.keys {kvs:List (κ×V)} {vs:List (κ×Value)} (r:KV kvs vs):kvs.map (·.1)=vs.map (·.1):=by
 unfold KV at r
 induction r with
 |nil=>rfl
 |cons h t ih=>rw [List.map_cons,List.map_cons,ih,h.1]
theorem KV.length {kvs:List (κ×V)} {vs:List (κ×Value)} (r:KV kvs vs):kvs.length=vs.length:=Paired.length r
end
theorem kV_is {P:Program} {w:World} {k:Key} {u:Value} (r:RelV (kV k) u):(mixKind P w).is k u=true:=by
 cases k with
 |inl i=>obtain ⟨t,e⟩:=(show∃t,u=Value.int i t from r);subst e;exact mixKind_int P w i t
 |inr x=>obtain ⟨t,e⟩:=(show∃t,u=Value.str x t from r);subst e;exact mixKind_str P w x t
abbrev KT (H:Hp):List (List Key×V)→List (List Key×Addr×Value)→Prop:=Paired fun p q=>p.1=q.1∧H q.2.1=some (.tup (p.1.map kV))∧RelV p.2 q.2.2
theorem KT.val {H:Hp} {kvs:List (List Key×V)} {xs:List (List Key×Addr×Value)} (r:KT H kvs xs) (k:List Key):RelO (valV kvs k) ((atKey xs k).map (·.2)):=by
 induction r with
 |nil=>exact True.intro
 | @cons p q ps qs h t ih=>
  obtain ⟨h1,_,h2⟩:=h
  by_cases e:p.1=k
  · have e':q.1=k:=h1.symm.trans e
    have b:atKey (q::qs) k=some q.2:=by simp [atKey,List.find?_cons,e']
    rw [valV_pos e,b];exact h2
  · have e':¬q.1=k:=fun z=>e (h1.trans z)
    have b:atKey (q::qs) k=atKey qs k:=by simp [atKey,List.find?_cons,e']
    rw [valV_neg e,b];exact ih
theorem KT.repl {H:Hp} {kvs:List (List Key×V)} {xs:List (List Key×Addr×Value)} (r:KT H kvs xs) (k:List Key) {y:V} {u:Value} (ry:RelV y u):
 KT H (kvs.map fun kv=>if kv.1=k then (kv.1,y) else kv) (xs.map (putAt k u)):=by
 induction r with
 |nil=>exact .nil
 | @cons p q ps qs h t ih=>
  rw [List.map_cons,List.map_cons]
  refine .cons ?_ ih
  obtain ⟨h1,h2,h3⟩:=h
  unfold putAt
  by_cases e:p.1=k
  · rw [if_pos e,if_pos (h1.symm.trans e)];exact ⟨h1,h2,ry⟩
  · rw [if_neg e,if_neg (fun z=>e (h1.trans z))];exact ⟨h1,h2,h3⟩
theorem KT.put {H:Hp} {kvs:List (List Key×V)} {xs:List (List Key×Addr×Value)} (r:KT H kvs xs) (k:List Key) {b:Addr} {y:V} {u:Value} (hb:H b=some (.tup (k.map kV))) (ry:RelV y u):
 KT H (putK kvs k y) (storedH xs k b u):=by
 have e:(kvs.any fun kv=>decide (kv.1=k))=(atKey xs k).isSome:=by
  rw [valV_any,(r.val k).isSome_eq,Option.isSome_map]
 unfold putK storedH
 rw [e]
 by_cases q:(atKey xs k).isSome=true
 · rw [if_pos q,if_pos q];exact r.repl k ry
 · rw [if_neg q,if_neg q];exact Paired.snoc r ⟨rfl,hb,ry⟩
theorem KT.keeps {H H':Hp} {kvs:List (List Key×V)} {xs:List (List Key×Addr×Value)} (r:KT H kvs xs) (ht:∀b ys,H b=some (.tup ys)→H' b=some (.tup ys)):KT H' kvs xs:=
 Paired.mapP r fun _ _ z=>⟨z.1,ht _ _ z.2.1,z.2.2⟩
section
variable {P:Program} {w:World} {H:Hp} {h:Heap} {a:Addr}
theorem rd_of {u:HO} (ok:HOk P w H h) (e:Rd H a u):ObjOk P w H h a u:=e.ok ok
theorem dk_rd {kvs:List (Key×V)} (ok:HOk P w H h) (e:Rd H a (.dK kvs)):kvs.length≤sizeLine∧(a==sysModules)=false∧∃vs,KV kvs vs∧h.DictOf (mixKind P w) a vs:=
 show ObjOk P w H h a (.dK kvs) from rd_of ok e
theorem dk_of {kvs:List (Key×V)} (ok:HOk P w H h) (e:H a=some (.dK kvs)):kvs.length≤sizeLine∧(a==sysModules)=false∧∃vs,KV kvs vs∧h.DictOf (mixKind P w) a vs:=dk_rd ok (.inl e)
end
def DGet (H:Hp) (a:Addr) (y:V) (r:Option V):Prop:=
 (∃kvs k,Rd H a (.dK kvs)∧y=kV k∧r=valV kvs k)∨∃kvs k b,Rd H a (.dT kvs)∧y= .ref b∧H b=some (.tup (k.map kV))∧r=valV kvs k
def DPut (H:Hp) (a:Addr) (y v:V) (H':Hp):Prop:=
 (∃kvs k,H a=some (.dK kvs)∧y=kV k∧kvs.length < sizeLine∧H'=upd H a (.dK (putK kvs k v)))∨
 ∃kvs k b,H a=some (.dT kvs)∧y= .ref b∧H b=some (.tup (k.map kV))∧kvs.length < sizeLine∧H'=upd H a (.dT (putK kvs k v))
theorem DGet.k {H:Hp} {a:Addr} {kvs:List (Key×V)} {k:Key} (e:H a=some (.dK kvs)):DGet H a (kV k) (valV kvs k):= .inl ⟨kvs,k, .inl e,rfl,rfl⟩
theorem DGet.t {H:Hp} {a b:Addr} {kvs:List (List Key×V)} {k:List Key} (e:H a=some (.dT kvs)) (eb:H b=some (.tup (k.map kV))):DGet H a (.ref b) (valV kvs k):= .inr ⟨kvs,k,b, .inl e,rfl,eb,rfl⟩
theorem DPut.k {H:Hp} {a:Addr} {kvs:List (Key×V)} {k:Key} {v:V} (e:H a=some (.dK kvs)) (hl:kvs.length < sizeLine):DPut H a (kV k) v (upd H a (.dK (putK kvs k v))):= .inl ⟨kvs,k,e,rfl,hl,rfl⟩
theorem DPut.t {H:Hp} {a b:Addr} {kvs:List (List Key×V)} {k:List Key} {v:V} (e:H a=some (.dT kvs)) (eb:H b=some (.tup (k.map kV))) (hl:kvs.length < sizeLine):
 DPut H a (.ref b) v (upd H a (.dT (putK kvs k v))):= .inr ⟨kvs,k,b,e,rfl,eb,hl,rfl⟩
section
variable {X:Cx} {pins:List (Addr×Obj)} {σ:St} {H:Hp} {s:Shared} {a:Addr} {y v:V} {u r:Value} {o:Option V} {A:Around} {E:Value→Shared→Prop}
theorem Inv.big (I:Inv X pins σ H s):sysModules < s.heap.objs.size:=by
 have h:mainGlobals < s.heap.objs.size:=(I.mod.glob.keeps I.bk).lt
 exact Nat.lt_trans (by decide) h
theorem d_write {h':Heap} {t':Nat} {ob:HO} (I:Inv X pins σ H s) (mu:Mut (H a)) (hs:Heap.SameBut a s.heap h') (he:∃q,h'.get? a=some q) (new:ObjOk X.prog X.w (upd H a ob) h' a ob):
 Inv X pins σ (upd H a ob) {s with heap:=h',toks:=t'}:=
 I.write (x:=a) (e:=a) mu (.inl rfl) (fun b q hb z=>(hs.2 b hb).trans z) he new
theorem dk_new {P:Program} {w:World} {H':Hp} {h':Heap} {kvs:List (Key×V)} {vs:List (Key×Value)} (z:kvs.length≤sizeLine) (hd:(a==sysModules)=false) (rel:KV kvs vs) (dd:h'.DictOf (mixKind P w) a vs):
 ObjOk P w H' h' a (.dK kvs):=⟨z,hd,vs,rel,dd⟩
end
section
variable {X:Cx} {pins:List (Addr×Obj)} {σ:St} {H:Hp} {s:Shared} {a:Addr} {kvs:List (Key×V)} {k:Key} {u:Value} {A:Around} {E:Value→Shared→Prop}
end
def NoSl (i:Expr):Prop:=∀ov iv,subscripted i false ov iv=operate [ov,iv] (getItem ov iv)
theorem subD_of {prog:Program} {w:World} {A:Around} {E:Value→Shared→Prop} {s:Shared} {env:Env} {value slice:Expr} {pos:Pos} {T id:String} {Q:Value→Shared→Prop}
 (hl:typeLookup (.type T) "__getitem__"=pure (some (.builtin id))) (hs:NoSl slice)
 (h:wpAny (model prog w) A (eval value env) (fun o s₁=>wpAny (model prog w) A (eval slice env) (fun i s₂=>s₂.TypeIs o T∧wpAny (model prog w) A (getItem o i) Q E s₂) E s₁) E s):
 wpAny (model prog w) A (eval (.Subscript value slice pos) env) Q E s:=by
 refine Subscript_ (wpAny_mono h (fun o s₁ h₁=>wpAny_mono h₁ (fun i s₂ h₂=> ?_) fun _ _ x=>x) fun _ _ x=>x)
 obtain ⟨hT,h₂⟩:=h₂
 unfold subscriptTail
 refine wpAny_bind ?_
 rw [getitemInPython_of_ne hT.not_modules]
 refine wpAny_bind (wpAny_specialOf hT hl ?_)
 have fin:wpAny (model prog w) A (subscripted slice false o i) (fun r s₃=>wpAny (model prog w) A (letTemporaryGo value o r >>=fun _=>pure r) Q E s₃) E s₂:=by
  rw [hs o i]
  exact wpAny_operating (wpAny_mono h₂ (fun r s₃ h₃=>wpAny_bind (wpAny_letTemporaryGo (wpAny_pure h₃))) fun _ _ x=>x)
 first
  |exact wpAny_pure (wpAny_bind fin)
  |exact wpAny_bind (wpAny_pure (wpAny_bind fin))
  |exact wpAny_bind fin
section
variable {X:Cx} {o i e value:Expr} {pos pos' tpos:Pos} {td ty tv:TE}
end
theorem dk_empty {P:Program} {w:World} {H:Hp} (h:Heap) (hb:sysModules < h.objs.size):ObjOk P w H (h.push {cls:= .type "dict",data:= .dict #[]}) h.objs.size (.dK []):=
 ⟨Nat.zero_le _,beq_eq_false_iff_ne.mpr (Ne.symm (Nat.ne_of_lt hb)),[], .nil,Heap.DictOf.new h⟩
section
variable {X:Cx} {pos:Pos}
end
def tPairs:List (TE×TE)→St→Hp→(List (V×V)→Hp→Prop)→Prop
 | [],_,H,Q=>Q [] H
 |(tk,tv)::r,σ,H,Q=>tk σ H fun x H1=>tv σ H1 fun y H2=>tPairs r σ H2 fun ps H3=>Q ((x,y)::ps) H3
abbrev VV:List (V×V)→List (Value×Value)→Prop:=Paired fun p q=>RelV p.1 q.1∧RelV p.2 q.2
def PPs (X:Cx) (pos:Pos) (keys:List (Option Expr)) (values:List Expr) (trs:List (TE×TE)):Prop:=
 ∀(pins:List (Addr×Obj)) (s:Shared) (σ:St) (H:Hp) (Q:List (V×V)→Hp→Prop),Inv X pins σ H s→tPairs trs σ H Q→
  wpAny (model X.prog X.w) X.A (evalPairs (pairTrees keys values X.env pos)) (fun vs s'=>∃ps H',Inv X pins σ H' s'∧VV ps vs∧Q ps H') X.xe s
theorem pps_nil {X:Cx} {pos:Pos}:PPs X pos [] [] []:=fun pins s σ H Q I h=>pairTrees_nil_walk ⟨[],H,I, .nil,h⟩
theorem pps_cons {X:Cx} {pos:Pos} {k v:Expr} {ks:List (Option Expr)} {vs:List Expr} {tk tv:TE} {trs:List (TE×TE)} (hk:PE X k tk) (hv:PE X v tv) (hr:PPs X pos ks vs trs):
 PPs X pos (some k::ks) (v::vs) ((tk,tv)::trs):=fun pins s σ H Q I h=>
 pairTrees_cons_walk (thn (hk pins s σ H _ I h) fun u s1 ⟨x,H1,I1,rx,q1⟩=>thn (hv pins s1 σ H1 _ I1 q1) fun w2 s2 ⟨y,H2,I2,ry,q2⟩=>
  thn (hr pins s2 σ H2 _ I2 q2) fun ws s3 ⟨ps,H3,I3,rel,q3⟩=>⟨(x,y)::ps,H3,I3, .cons ⟨rx,ry⟩ rel,q3⟩)
noncomputable def mergeK (kvs more:List (Key×V)):List (Key×V):=more.foldl (fun acc kv=>putK acc kv.1 kv.2) kvs
theorem KV.merge:∀ {more:List (Key×V)} {rs:List (Key×Value)} {kvs:List (Key×V)} {vs:List (Key×Value)},KV more rs→KV kvs vs→KV (mergeK kvs more) (merged vs rs):=by
 intro more rs kvs vs r
 unfold KV at r
 induction r generalizing kvs vs with
 |nil=>intro q;exact q
 | @cons p q ps qs h t ih=>
  intro r0
  have e:KV (putK kvs p.1 p.2) (stored vs q.1 q.2):=by
   have:=r0.put p.1 h.2
   rw [←h.1];exact this
  exact ih e
theorem length_mergeK:∀(more kvs:List (Key×V)),(mergeK kvs more).length≤kvs.length+more.length
 | [],kvs=>by show kvs.length≤kvs.length+0;omega
 |p::r,kvs=>by
  have h1:=length_mergeK r (putK kvs p.1 p.2)
  have h2:=length_putK kvs p.1 p.2
  show (mergeK (putK kvs p.1 p.2) r).length≤_
  rw [List.length_cons];omega
theorem carries_of {P:Program} {w:World}:∀ {kvs:List (Key×V)} {ws:List (Value×Value)},VV (kvs.map fun kv=>(kV kv.1,kv.2)) ws→∃rs,Carries (mixKind P w) ws rs∧KV kvs rs
 | [],_,r=>by rw [List.map_nil] at r;cases r;exact ⟨[],True.intro, .nil⟩
 |p::kvs,_,r=>by
  rw [List.map_cons] at r
  cases r with
  | @cons a b as bs h t=>
   obtain ⟨rs,c,q⟩:=carries_of (P:=P) (w:=w) t
   obtain ⟨b1,b2⟩:=b
   exact ⟨(p.1,b2)::rs,⟨kV_is h.1,rfl,c⟩, .cons ⟨rfl,h.2⟩ q⟩
def tDisp (trs:List (TE×TE)):TE:=fun σ H Q=>∀p,H p=none→tPairs trs σ (upd H p (.dK [])) fun ps H2=>H2 p=some (.dK [])∧∃kvs:List (Key×V),ps=kvs.map (fun kv=>(kV kv.1,kv.2))∧kvs.length≤15∧Q (.ref p) (upd H2 p (.dK (mergeK [] kvs)))
theorem pe_disp {X:Cx} {pos:Pos} {keys:List (Option Expr)} {values:List Expr} {trs:List (TE×TE)} (h:PPs X pos keys values trs) (hall:keys.all (·.isSome)=true) (hl:keys.length=values.length) (h0:keys≠ [])
 (h15:keys.length≤15):PE X (.Dict keys values pos) (tDisp trs):=by
 intro pins s σ H Q I q
 have hn:=I.hok.fresh (Nat.le_refl s.heap.objs.size)
 have I1:=I.laid (a:=s.heap.objs.size) (o:= .dK []) (h':=s.heap.push {cls:= .type "dict",data:= .dict #[]}) (t':=s.toks) (fun _ _ q=>Heap.get?_push_of_some _ q) (Nat.le_refl _) (dk_empty s.heap I.big)
 refine wpAny_Dict_walk (knd:=mixKind X.prog X.w) hall hl h0 h15 (thn (h pins _ σ _ _ I1 (q _ hn)) fun ws s2 ⟨ps,H2,I2,rel,e,kvs,ep,lk,q2⟩=> ?_)
 subst ep
 obtain ⟨rs,c,rk⟩:=carries_of (P:=X.prog) (w:=X.w) rel
 obtain ⟨z,hd,vs0,r0,dd⟩:=dk_of I2.hok e
 cases r0
 refine ⟨rs,c,dd,fun h' dd' hs=>⟨.ref s.heap.objs.size,_,?_,rfl,q2⟩⟩
 have hz:(mergeK [] kvs).length≤sizeLine:=by
  have h1:=length_mergeK kvs []
  rw [List.length_nil] at h1
  rw [sizeLine_eq];omega
 have he:∃q,h'.get? s.heap.objs.size=some q:=let ⟨q,_,_,hq,_⟩:=dd';⟨q,hq⟩
 exact d_write I2 (by rw [e];exact True.intro) hs he (dk_new hz hd (rk.merge .nil) dd')
structure M2 (X:Cx) (o:Expr) (m:Str) (apos:Pos) (e f:Expr) (cpos:Pos):Prop where
 base:attributeBase o m X.env (eval o X.env)=eval o X.env
 few:((backTo cpos (starEach [e,f] X.env)).all (fun x=> !x.1)&& (backToKw cpos (keywordEach [] X.env)).all (fun x=>x.1.isSome)
  &&decide (([e,f]:List Expr).length+([]:List Keyword).length+(if ([]:List Keyword).isEmpty then 0 else 1) < 30))=true
 line:(apos.endLine==cpos.line)=true
 trees:backTo cpos (starEach [e,f] X.env)= [(false,eval e X.env),(false,eval f X.env)]
section
variable {X:Cx} {pins:List (Addr×Obj)} {σ:St} {H:Hp} {s:Shared} {a:Addr} {y d:V} {u r:Value} {o:Option V} {A:Around} {E:Value→Shared→Prop}
end
section
variable {X:Cx} {o e f:Expr} {apos cpos:Pos} {td ty tx:TE}
end
section
variable {X:Cx} {pins:List (Addr×Obj)} {σ:St} {H:Hp} {s:Shared} {a:Addr} {kvs:List (Key×V)} {A:Around} {E:Value→Shared→Prop}
end
section
variable {X:Cx} {pins:List (Addr×Obj)} {σ:St} {H:Hp} {s:Shared} {a:Addr} {y:V} {u:Value} {A:Around} {E:Value→Shared→Prop}
end
open PySem PySem.Spec PyProof.Rows
def CompW (J:It) (D:Addr) (te:TE) (rest:L2.St) (Q:VK) (H1:Hp):Prop:=
 ∃W:Nat→Nat→List V→Hp→Prop,(∃m,W 0 m [] (upd H1 D (.lst [])))∧∀i m acc H2,W i m acc H2→
  (J.stop i H2∧Q (.ref D) H2)∨
  (J.go i H2∧∀x H3,J.yld i H2 x H3→gName 0 x (none::rest) H3 fun σ4 H4=>Ext (none::rest) σ4∧tNoTest σ4 H4 fun b H5=>if b=true then te σ4 H5 fun v H6=>H6 D=some (.lst acc)∧acc.length < sizeLine∧∃m',m' < m∧W (i+1) m' (acc++ [v]) (upd H6 D (.lst (acc++ [v])))
   else∃m',m' < m∧W (i+1) m' acc H5)
theorem tcomp_of {mp:List (Option Nat)} {wi:TI} {te:TE} {σ rest:L2.St} {H:Hp} {Q:VK} (e:subS mp σ=none::rest) (h:wi σ H fun J H1=>∀D,H1 D=none→CompW J D te rest Q H1):tComp mp wi (gName 0) tNoTest te σ H Q:=by
 unfold tComp
 rw [e]
 exact h
theorem tset_of {mp:List (Option Nat)} {wi:TI} {te:TE} {u:TS} {Z:Ends} {i:Nat} {σ rest:L2.St} {H:Hp} (e:subS mp σ=none::rest) (h:wi σ H fun J H1=>∀D,H1 D=none→CompW J D te rest (fun x H2=>gName i x σ H2 (u Z)) H1):
 tSeq (tAsg (tComp mp wi (gName 0) tNoTest te) (gName i)) u Z σ H:=tcomp_of e h
def CompN (n i:Nat) (D:Addr) (acc:List V) (Pv:Nat→List V→Hp→Prop):VK:=fun v H6=>H6 D=some (.lst acc)∧acc.length < sizeLine∧∃m',m' < n - i∧(m'=n - (i+1)∧i+1≤n∧Pv (i+1) (acc++ [v]) (upd H6 D (.lst (acc++ [v]))))
theorem CompN.mk {n i:Nat} {D:Addr} {acc:List V} {Pv:Nat→List V→Hp→Prop} {v:V} {H6:Hp} (hi:i < n) (hl:acc.length < sizeLine) (h1:H6 D=some (.lst acc)) (h2:Pv (i+1) (acc++ [v]) (upd H6 D (.lst (acc++ [v])))):CompN n i D acc Pv v H6:=
 ⟨h1,hl,n - (i+1),by omega,rfl,hi,h2⟩
theorem comp_go {J:It} {D:Addr} {te:TE} {rest:L2.St} {Q:VK} {H1:Hp} (n:Nat) (Pv:Nat→List V→Hp→Prop) (h0:Pv 0 [] (upd H1 D (.lst [])))
 (hgo:∀i acc H,i < n→Pv i acc H→J.go i H)
 (hs:∀i x acc H H',i < n→Pv i acc H→J.yld i H x H'→te (some x::rest) H' (CompN n i D acc Pv))
 (hd:∀acc H,Pv n acc H→J.stop n H∧Q (.ref D) H):CompW J D te rest Q H1:=by
 refine ⟨fun i m acc H=>m=n - i∧i≤n∧Pv i acc H,⟨n,by simp,Nat.zero_le _,h0⟩,?_⟩
 rintro i m acc H ⟨rfl,hi,p⟩
 by_cases hlt:i < n
 · refine .inr ⟨hgo i acc H hlt p,fun x H' y=> ?_⟩
   refine ⟨ext1,?_⟩
   show (if true=true then te (some x::rest) H' (CompN n i D acc Pv) else∃m',m' < n - i∧(m'=n - (i+1)∧i+1≤n∧Pv (i+1) acc H'))
   exact iteT (hs i x acc H H' hlt p y)
 · have e:i=n:=by omega
   subst e
   exact .inl (hd acc H p)
theorem comp_tup {K:PySem.W.Frag} {a D:Addr} {xs:List V} {te:TE} {rest:L2.St} {Q:VK} {H1:Hp} (Pv:Nat→List V→Hp→Prop) (h0:Pv 0 [] (upd H1 D (.lst [])))
 (hl:∀i acc H,Pv i acc H→SqT K H a xs)
 (hs:∀i x acc H,i < xs.length→xs[i]?=some x→Pv i acc H→te (some x::rest) H (CompN xs.length i D acc Pv))
 (hd:∀acc H,Pv xs.length acc H→Q (.ref D) H):CompW (Itt K a) D te rest Q H1:=by
 refine comp_go xs.length Pv h0 (fun i acc H hi p=>⟨xs,xs[i],hl i acc H p,by simp [hi]⟩) (fun i x acc H H' hi p y=> ?_) fun acc H p=>⟨⟨xs,hl _ acc H p,Nat.le_refl _⟩,hd acc H p⟩
 obtain ⟨e,y⟩:=y
 subst e
 exact hs i x acc _ hi (y xs (hl i acc _ p)) p
theorem comp_list {K:PySem.W.Frag} {a D:Addr} {xs:List V} {te:TE} {rest:L2.St} {Q:VK} {H1:Hp} (Pv:Nat→List V→Hp→Prop) (h0:Pv 0 [] (upd H1 D (.lst [])))
 (hl:∀i acc H,Pv i acc H→SqL K H a xs)
 (hs:∀i x acc H,i < xs.length→xs[i]?=some x→Pv i acc H→te (some x::rest) H (CompN xs.length i D acc Pv))
 (hd:∀acc H,Pv xs.length acc H→Q (.ref D) H):CompW (Itl K a) D te rest Q H1:=by
 refine comp_go xs.length Pv h0 (fun i acc H hi p=>⟨xs,xs[i],hl i acc H p,by simp [hi]⟩) (fun i x acc H H' hi p y=> ?_) fun acc H p=>⟨⟨xs,hl _ acc H p,Nat.le_refl _⟩,hd acc H p⟩
 obtain ⟨e,y⟩:=y
 subst e
 exact hs i x acc _ hi (y xs (hl i acc _ p)) p
theorem comp_range {n:Nat} {D:Addr} {te:TE} {rest:L2.St} {Q:VK} {H1:Hp} (Pv:Nat→List V→Hp→Prop) (h0:Pv 0 [] (upd H1 D (.lst [])))
 (hs:∀(i:Nat) acc H,i < n→Pv i acc H→te (some (.int (0+(i:Int)))::rest) H (CompN n i D acc Pv))
 (hd:∀acc H,Pv n acc H→Q (.ref D) H):CompW (Itr 0 n) D te rest Q H1:=by
 refine comp_go n Pv h0 (fun i acc H hi p=>hi) (fun i x acc H H' hi p y=> ?_) fun acc H p=>⟨Nat.le_refl _,hd acc H p⟩
 obtain ⟨e,y⟩:=y
 subst e y
 exact hs i acc _ hi p
end L2
namespace Tk
open PySem PySem.Spec PyProof.Rows L2
inductive KT where
 |lf (k:Key)
 |tp (ts:List KT)
noncomputable instance:DecidableEq KT:=Classical.typeDecidableEq KT
mutual
noncomputable def KT.depth:KT→Nat
 | .lf _=>0
 | .tp ts=>KTs.depth ts+1
noncomputable def KTs.depth:List KT→Nat
 | []=>0
 |t::ts=>max (KT.depth t) (KTs.depth ts)
end
theorem depth_memK:∀ {ts:List KT} {t:KT},t∈ts→t.depth≤KTs.depth ts
 |a::ts,t,h=>by
  unfold KTs.depth
  rcases List.mem_cons.mp h with rfl|h
  · omega
  · have:=depth_memK h
    omega
mutual
def KAt (h:Heap):Value→KT→Prop
 |v, .lf k=>keyIs k v=true
 |v, .tp ts=>∃a o items n,v= .ref a∧h.get? a=some o∧o.cls= .type "tuple"∧o.data= .seq items n∧KsAt h items.toList ts
def KsAt (h:Heap):List Value→List KT→Prop
 |vs,[]=>vs= []
 |vs,t::ts=>∃v r,vs=v::r∧KAt h v t∧KsAt h r ts
end
mutual
theorem KAt.keep {h h':Heap} (k:∀a o items n,h.get? a=some o→o.data= .seq items n→h'.get? a=some o):∀ {v:Value} {t:KT},KAt h v t→KAt h' v t
 |v, .lf k,x=>by unfold KAt at x ⊢;exact x
 |v, .tp ts,x=>by
  unfold KAt at x ⊢
  obtain ⟨a,o,items,n,e,g,c,d,r⟩:=x
  exact ⟨a,o,items,n,e,k a o items n g d,c,d,KsAt.keep k r⟩
theorem KsAt.keep {h h':Heap} (k:∀a o items n,h.get? a=some o→o.data= .seq items n→h'.get? a=some o):∀ {vs:List Value} {ts:List KT},KsAt h vs ts→KsAt h' vs ts
 |vs,[],x=>by unfold KsAt at x ⊢;exact x
 |vs,t::ts,x=>by
  unfold KsAt at x ⊢
  obtain ⟨v,r,e,x1,x2⟩:=x
  exact ⟨v,r,e,KAt.keep k x1,KsAt.keep k x2⟩
end
mutual
theorem KAt.det {h:Heap}:∀ {v:Value} {t u:KT},KAt h v t→KAt h v u→t=u
 |v, .lf k, .lf j,x,y=>by
  unfold KAt at x y
  rcases keyIs_shape x with ⟨i,t,rfl,rfl⟩|⟨x',t,rfl,rfl⟩
  · rcases keyIs_shape y with ⟨i',t',rfl,e⟩|⟨y',t',rfl,e⟩
    · injection e with e1 _
      rw [e1]
    · cases e
  · rcases keyIs_shape y with ⟨i',t',rfl,e⟩|⟨y',t',rfl,e⟩
    · cases e
    · injection e with e1 _
      rw [e1]
 |v, .lf k, .tp us,x,y=>by
  unfold KAt at x y
  obtain ⟨a,o,items,n,rfl,_⟩:=y
  rcases keyIs_shape x with ⟨i,t,rfl,e⟩|⟨x',t,rfl,e⟩<;>cases e
 |v, .tp ts, .lf k,x,y=>by
  unfold KAt at x y
  obtain ⟨a,o,items,n,rfl,_⟩:=x
  rcases keyIs_shape y with ⟨i,t,rfl,e⟩|⟨x',t,rfl,e⟩<;>cases e
 |v, .tp ts, .tp us,x,y=>by
  unfold KAt at x y
  obtain ⟨a,o,items,n,rfl,g,c,d,r⟩:=x
  obtain ⟨a',o',items',n',e,g',c',d',r'⟩:=y
  injection e with e
  subst e
  rw [g] at g'
  cases g'
  rw [d] at d'
  injection d' with d1 _
  subst d1
  rw [KsAt.det r r']
theorem KsAt.det {h:Heap}:∀ {vs:List Value} {ts us:List KT},KsAt h vs ts→KsAt h vs us→ts=us
 |vs,[],[],_,_=>rfl
 |vs,[],u::us,x,y=>by
  unfold KsAt at x y
  obtain ⟨v,r,e,_⟩:=y
  rw [x] at e
  cases e
 |vs,t::ts,[],x,y=>by
  unfold KsAt at x y
  obtain ⟨v,r,e,_⟩:=x
  rw [y] at e
  cases e
 |vs,t::ts,u::us,x,y=>by
  unfold KsAt at x y
  obtain ⟨v,r,rfl,x1,x2⟩:=x
  obtain ⟨v',r',e,y1,y2⟩:=y
  cases e
  rw [KAt.det x1 y1,KsAt.det x2 y2]
end
theorem KsAt.len {h:Heap}:∀ {vs:List Value} {ts:List KT},KsAt h vs ts→vs.length=ts.length
 |vs,[],x=>by unfold KsAt at x;rw [x];rfl
 |vs,t::ts,x=>by
  unfold KsAt at x
  obtain ⟨v,r,rfl,_,x2⟩:=x
  rw [List.length_cons,List.length_cons,KsAt.len x2]
theorem KsAt.get {h:Heap}:∀ {vs:List Value} {ts:List KT} {j:Nat} {v:Value},KsAt h vs ts→vs[j]?=some v→∃t,ts[j]?=some t∧KAt h v t
 |vs,[],j,v,x,e=>by
  unfold KsAt at x
  rw [x] at e
  cases e
 |vs,t::ts,0,v,x,e=>by
  unfold KsAt at x
  obtain ⟨v',r,rfl,x1,_⟩:=x
  cases e
  exact ⟨t,rfl,x1⟩
 |vs,t::ts,j+1,v,x,e=>by
  unfold KsAt at x
  obtain ⟨v',r,rfl,_,x2⟩:=x
  exact KsAt.get (j:=j) x2 e
section
variable (prog:Program) (w:World)
mutual
noncomputable def KT.hash:KT→Int
 | .lf k=>(mixKind prog w).hash k
 | .tp ts=>reduceHash (Builtin.Tuple.tupleHashOf (KTs.hash ts))
noncomputable def KTs.hash:List KT→List Int
 | []=> []
 |t::ts=>KT.hash t::KTs.hash ts
end
end
mutual
noncomputable def KT.draws:KT→Nat
 | .lf _=>1
 | .tp ts=>KTs.draws ts+1
noncomputable def KTs.draws:List KT→Nat
 | []=>0
 |t::ts=>KT.draws t+KTs.draws ts
end
theorem hash_app (prog:Program) (w:World):∀(a b:List KT),KTs.hash prog w (a++b)=KTs.hash prog w a++KTs.hash prog w b
 | [],b=>by simp [KTs.hash]
 |t::a,b=>by simp [KTs.hash,hash_app prog w a b]
theorem draws_app:∀(a b:List KT),KTs.draws (a++b)=KTs.draws a+KTs.draws b
 | [],b=>by simp [KTs.draws]
 |t::a,b=>by simp [KTs.draws,draws_app a b,Nat.add_assoc]
section
variable {prog:Program} {w:World}
theorem hash_at:∀(n:Nat) {A:Around} {E:Value→Shared→Prop} {s:Shared} {t:KT} {v:Value} {Q:Int→Shared→Prop},t.depth≤n→A.units+n < cLine→KAt s.heap v t→Q (t.hash prog w) {s with toks:=s.toks+t.draws}→wpAny (model prog w) A (pyHash v) Q E s:=by
 intro n
 induction n with
 |zero=>
  intro A E s t v Q hd hu hk h
  cases t with
  |tp ts=>simp [KT.depth] at hd
  |lf k=>
   unfold KAt at hk
   simp only [KT.hash,KT.draws] at h
   exact (mixKind prog w).pyHash hk h
 |succ n ih=>
  intro A E s t v Q hd hu hk h
  cases t with
  |lf k=>
   unfold KAt at hk
   simp only [KT.hash,KT.draws] at h
   exact (mixKind prog w).pyHash hk h
  |tp ts=>
   unfold KAt at hk
   obtain ⟨a,o,items,m,rfl,g,c,d,r⟩:=hk
   have ty:s.TypeIs (.ref a) "tuple":=⟨o,g,c⟩
   have hd':KTs.depth ts≤n:=by
    unfold KT.depth at hd
    omega
   simp only [KT.hash,KT.draws] at h
   unfold pyHash
   unfold pyHashByItsType
   refine wpAny_bind (wpAny_cRoomFor_or (.inr (by omega)) (wpAny_bind (wpAny_specialOf ty F.slot_tuple_hash.lookup ?_)))
   show wpAny _ _ (if (some (Value.builtin "tuple.__hash__")==some Value.none)=true then _ else _) _ _ _
   rw [if_neg (fun z=>by rw [beq_builtin_none] at z;cases z)]
   refine wpAny_bind (wpAny_specialOf ty F.slot_tuple_hash.lookup ?_)
   show wpAny _ _ (do let y←callSpecialIfBoundUnlessNone? (.ref a) "__hash__" _;_) _ _ _
   refine wpAny_bind (wpAny_callSpecialIfBoundUnlessNone?_slot ty F.slot_tuple_hash (wpAny_call_entry F.slot_tuple_hash ty F.entry_tuple_hash ?_ (F.args_tuple_hash_1 _)))
   show wpAny _ _ (do let y←Builtin.Tuple.tupleItemsOf (.ref a);_) _ _ _
   refine wpAny_bind (wpAny_tupleItemsOf g d (wpAny_bind ?_))
   rw [←Array.forIn_toList]
   refine wpAny_forIn_list _ (fun rest (b:Array Int) s'=>∃done left,ts=done++left∧KsAt s.heap rest left∧b.toList=KTs.hash prog w done∧s'= {s with toks:=s.toks+KTs.draws done}) _ ?_ ?_ _ _ ⟨[],ts,rfl,r,rfl,by simp [KTs.draws]⟩
   · rintro x rest b s' ⟨done,left,rfl,hl,hb,rfl⟩
     cases left with
     |nil=>
      unfold KsAt at hl
      cases hl
     |cons t left=>
      unfold KsAt at hl
      obtain ⟨v,rr,e,h1,h2⟩:=hl
      cases e
      have dt:t.depth≤n:=by
       have:=depth_memK (show t∈done++t::left by simp)
       omega
      refine wpAny_bind (ih (s:= {s with toks:=s.toks+KTs.draws done}) dt (by first|(show A.units+1+n < cLine;omega)|(show A.units+n < cLine;omega)) h1 ?_)
      have fin:∃done' left',done++t::left=done'++left'∧KsAt s.heap rest left'∧(b.push (KT.hash prog w t)).toList=KTs.hash prog w done'∧({s with toks:=s.toks+KTs.draws done+t.draws}:Shared)= {s with toks:=s.toks+KTs.draws done'}:=by
       refine ⟨done++ [t],left,by simp,h2,by rw [hash_app,Array.toList_push,hb];simp [KTs.hash],?_⟩
       rw [draws_app]
       simp [KTs.draws,Nat.add_assoc]
      first
       |exact wpAny_pure fin
       |exact wpAny_bind (wpAny_pure (wpAny_pure fin))
   · rintro b s' ⟨done,left,rfl,hl,hb,rfl⟩
     cases left with
     |cons t left=>
      unfold KsAt at hl
      obtain ⟨v,rr,e,_⟩:=hl
      cases e
     |nil=>
      rw [List.append_nil] at h
      show wpAny _ _ (retInt (Builtin.Tuple.tupleHashOf b.toList)) _ _ _
      rw [hb]
      refine wpAny_ret_mkInt ?_
      show wpAny _ _ (if (decide (-(2:Int)^63≤Builtin.Tuple.tupleHashOf (KTs.hash prog w done))&&decide (Builtin.Tuple.tupleHashOf (KTs.hash prog w done) < 2^63))=true then _ else _) _ _ _
      unfold reduceHash at h
      by_cases hr:(decide (-(2:Int)^63≤Builtin.Tuple.tupleHashOf (KTs.hash prog w done))&&decide (Builtin.Tuple.tupleHashOf (KTs.hash prog w done) < 2^63))=true
      · rw [if_pos hr] at h ⊢
        exact wpAny_pure (by simpa [Nat.add_assoc] using h)
      · rw [if_neg hr] at h ⊢
        exact wpAny_bind (wpAny_rule (wpAny_pure (by simpa [Nat.add_assoc] using h)))
end
open PySem PySem.Spec PyProof.Rows L2
theorem all_get {ts us:List KT}:((List.range (min ts.length us.length)).all (fun j=>decide (ts[j]?=us[j]?))&&ts.length==us.length)=decide (ts=us):=by
 by_cases h:ts=us
 · subst h
   simp
 · rw [decide_eq_false h]
   by_cases hl:ts.length=us.length
   · have:∃j,j < ts.length∧ts[j]?≠us[j]?:=by
      refine Classical.byContradiction fun n=>h (List.ext_getElem? fun j=> ?_)
      by_cases hj:j < ts.length
      · exact Classical.byContradiction fun z=>n ⟨j,hj,z⟩
      · rw [List.getElem?_eq_none (by omega),List.getElem?_eq_none (by omega)]
     obtain ⟨j,hj,ne⟩:=this
     rw [Bool.and_eq_false_iff]
     left
     refine List.all_eq_false.mpr ⟨j,List.mem_range.mpr (by omega),?_⟩
     simp [ne]
   · rw [Bool.and_eq_false_iff]
     right
     simp [hl]
theorem eq_at:∀(n:Nat) {A:Around} {s:Shared} {t u:KT} {a b:Value},t.depth≤n→A.units+n+1 < cLine→KAt s.heap a t→KAt s.heap b u→SeqAt.EqAt A s a b (decide (t=u)):=by
 intro n
 induction n with
 |zero=>
  intro A s t u a b hd hu h1 h2
  cases t with
  |tp ts=>simp [KT.depth] at hd
  |lf k=>
   unfold KAt at h1
   cases u with
   |lf j=>
    unfold KAt at h2
    intro prog w E Q q
    refine (mixKind prog w).eqBool h1 h2 ?_
    have e:decide (k=j)=decide (KT.lf k=KT.lf j):=by simp
    rw [e]
    exact q
   |tp us=>
    unfold KAt at h2
    obtain ⟨r,o,items,m,rfl,g,c,d,_⟩:=h2
    rw [decide_eq_false (by intro z;cases z)]
    rcases keyIs_shape h1 with ⟨i,t,rfl,rfl⟩|⟨x,t,rfl,rfl⟩
    · exact SeqAt.EqAt.int_tuple i t (items:=items) ⟨o,g,c,m,d⟩ (by omega)
    · exact SeqAt.EqAt.str_tuple x t (items:=items) ⟨o,g,c,m,d⟩ (by omega)
 |succ n ih=>
  intro A s t u a b hd hu h1 h2
  cases t with
  |lf k=>
   unfold KAt at h1
   cases u with
   |lf j=>
    unfold KAt at h2
    intro prog w E Q q
    refine (mixKind prog w).eqBool h1 h2 ?_
    have e:decide (k=j)=decide (KT.lf k=KT.lf j):=by simp
    rw [e]
    exact q
   |tp us=>
    unfold KAt at h2
    obtain ⟨r,o,items,m,rfl,g,c,d,_⟩:=h2
    rw [decide_eq_false (by intro z;cases z)]
    rcases keyIs_shape h1 with ⟨i,t,rfl,rfl⟩|⟨x,t,rfl,rfl⟩
    · exact SeqAt.EqAt.int_tuple i t (items:=items) ⟨o,g,c,m,d⟩ (by omega)
    · exact SeqAt.EqAt.str_tuple x t (items:=items) ⟨o,g,c,m,d⟩ (by omega)
  |tp ts=>
   have h1':=h1
   have h2':=h2
   unfold KAt at h1
   obtain ⟨r,o,items,m,rfl,g,c,d,k1⟩:=h1
   cases u with
   |lf j=>
    unfold KAt at h2
    rw [decide_eq_false (by intro z;cases z)]
    rcases keyIs_shape h2 with ⟨i,t,rfl,rfl⟩|⟨x,t,rfl,rfl⟩
    · exact SeqAt.EqAt.tuple_int i t (items:=items) ⟨o,g,c,m,d⟩ (by omega)
    · exact SeqAt.EqAt.tuple_str x t (items:=items) ⟨o,g,c,m,d⟩ (by omega)
   |tp us=>
    unfold KAt at h2
    obtain ⟨r',o',items',m',rfl,g',c',d',k2⟩:=h2
    by_cases z:r=r'
    · subst z
      rw [decide_eq_true (KAt.det h1' h2')]
      exact SeqAt.EqAt.same _
    · have hd':KTs.depth ts≤n:=by
       unfold KT.depth at hd
       omega
      have l1:=k1.len
      have l2:=k2.len
      have:=SeqAt.RcAt.tuples (A:=A) (e:=fun j=>decide (ts[j]?=us[j]?)) (show s.heap.IsTuple r items from ⟨o,g,c,m,d⟩) (show s.heap.IsTuple r' items' from ⟨o',g',c',m',d'⟩) (by omega) fun j g1 g2=>by
       obtain ⟨t1,e1,a1⟩:=k1.get (j:=j) (v:=items[j]) (by rw [Array.getElem?_toList];simp [g1])
       obtain ⟨t2,e2,a2⟩:=k2.get (j:=j) (v:=items'[j]) (by rw [Array.getElem?_toList];simp [g2])
       have e:decide (ts[j]?=us[j]?)=decide (t1=t2):=by rw [e1,e2];simp
       rw [e]
       refine ih (A:=A.in1) ?_ (by show A.units+1+n+1 < cLine;omega) a1 a2
       have:=depth_memK (List.mem_of_getElem? e1)
       omega
      have hs1:items.size=ts.length:=by rw [←l1,Array.length_toList]
      have hs2:items'.size=us.length:=by rw [←l2,Array.length_toList]
      rw [hs1,hs2,all_get] at this
      have e:decide (KT.tp ts=KT.tp us)=decide (ts=us):=by simp
      rw [e]
      exact SeqAt.EqAt.of_refs z this
theorem quiet_at:∀(n:Nat) {prog:Program} {w:World} {A:Around} {E:Value→Shared→Prop} {s:Shared} {t:KT} {v:Value} {Q:Bool→Shared→Prop},KAt s.heap v t→t.depth≤n→Q true s→wpAny (model prog w) A (eqIsQuiet n v) Q E s:=by
 have leaf:∀(n:Nat) {prog:Program} {w:World} {A:Around} {E:Value→Shared→Prop} {s:Shared} {k:Key} {v:Value} {Q:Bool→Shared→Prop},keyIs k v=true→Q true s→wpAny (model prog w) A (eqIsQuiet n v) Q E s:=by
  intro n prog w A E s k v Q h q
  rw [eqIsQuiet_byValue _ ((mixKind prog w).byValue k v h)]
  exact wpAny_pure q
 intro n
 induction n with
 |zero=>
  intro prog w A E s t v Q h hd q
  cases t with
  |tp ts=>simp [KT.depth] at hd
  |lf k=>
   unfold KAt at h
   exact leaf 0 h q
 |succ n ih=>
  intro prog w A E s t v Q h hd q
  cases t with
  |lf k=>
   unfold KAt at h
   exact leaf _ h q
  |tp ts=>
   unfold KAt at h
   obtain ⟨a,o,items,m,rfl,g,c,d,r⟩:=h
   have ty:s.TypeIs (.ref a) "tuple":=⟨o,g,c⟩
   have hd':KTs.depth ts≤n:=by
    unfold KT.depth at hd
    omega
   unfold eqIsQuiet
   refine wpAny_bind (wpAny_specialOf ty F.slot_tuple_eq.lookup ?_)
   show wpAny _ _ (do let y←isInstance (.ref a) (.type "tuple");_) _ _ _
   refine wpAny_bind (wpAny_isInstance ty isSubtype_tuple_tuple ?_)
   simp only [Bool.not_true,if_false,Bool.false_eq_true]
   refine wpAny_bind (wpAny_seqItems g d (wpAny_bind ?_))
   show wpAny _ _ (forIn items _ _) _ _ _
   rw [←Array.forIn_toList]
   refine wpAny_forIn_list _ (fun rest b s'=>b.1=none∧s'=s∧∃left,KsAt s.heap rest left∧KTs.depth left≤n) _ ?_ ?_ _ _ ⟨rfl,rfl,ts,r,hd'⟩
   · rintro x rest b s' ⟨hb,rfl,left,hl,hd2⟩
     cases left with
     |nil=>
      unfold KsAt at hl
      cases hl
     |cons t left=>
      unfold KsAt at hl
      obtain ⟨v,rr,e,h1,h2⟩:=hl
      cases e
      unfold KTs.depth at hd2
      refine wpAny_bind (ih h1 (by omega) ?_)
      simp only [Bool.not_true,if_false,Bool.false_eq_true]
      exact wpAny_pure ⟨rfl,rfl,left,h2,by omega⟩
   · rintro ⟨b1,b2⟩ s' ⟨hb,rfl,_⟩
     simp only at hb
     subst hb
     exact wpAny_pure q
noncomputable def treeKind (prog:Program) (w:World):HeapKind prog w (List KT) where
 is:=fun h ts a=>KAt h (.ref a) (.tp ts)∧(KT.tp ts).depth≤8
 hash:=fun ts=>(KT.tp ts).hash prog w
 draws:=fun ts=>(KT.tp ts).draws
 room:=fun A=>A.units+20 < cLine
 inj:=fun x y=>by
  have:=KAt.det x.1 y.1
  injection this
 keeps:=fun {h h' k a d o es ep} x g hd sb=>⟨x.1.keep fun b ob items n e dt=>by
  have ne:b≠d:=fun z=>by
   subst z
   rw [g] at e
   cases e
   rw [hd] at dt
   cases dt
  exact (sb.2 b ne).trans e,x.2⟩
 pyHash:=fun hu x q=>hash_at 8 x.2 (by omega) x.1 q
 eqBool:=fun {A E s x y a b Q} hu hx hy q=>by
  refine eq_at 8 (t:= .tp x) (u:= .tp y) hx.2 (by omega) hx.1 hy.1 prog w E Q ?_
  have e:decide (KT.tp x=KT.tp y)=decide (x=y):=by simp
  rw [e]
  exact q
 quiet:=fun x q=>quiet_at 8 x.1 x.2 q
end Tk
namespace Dj
open PySem PySem.Spec PyProof.Rows L2 Tre
def SqX (K:PySem.W.Frag) (H:Hp) (a:Addr) (xs:List V):Prop:=
 H a=some (.tup xs)∨∃(o:Obj) (its:Array Value) (n:Nat),K.lookup a=some o∧o.cls= .type "tuple"∧o.data= .seq its n∧its.size≤sizeLine∧Vals xs its.toList
theorem SqX.sq {K:PySem.W.Frag} {H:Hp} {a:Addr} {xs:List V} (h:SqX K H a xs):SqT K H a xs:=h.elim (fun e=> .inl (.inl e)) .inr
theorem SqX.mono {K:PySem.W.Frag} {H H':Hp} {a:Addr} {xs:List V} (d:Kd H H') (h:SqX K H a xs):SqX K H' a xs:=h.elim (fun e=> .inl (d.tup _ _ e)) .inr
mutual
def KVt (K:PySem.W.Frag) (H:Hp):V→Tk.KT→Prop
 |v, .lf (.inl i)=>v= .int i
 |v, .lf (.inr x)=>v= .str x
 |v, .tp ts=>∃r vs,v= .ref r∧SqX K H r vs∧KVts K H vs ts
def KVts (K:PySem.W.Frag) (H:Hp):List V→List Tk.KT→Prop
 |vs,[]=>vs= []
 |vs,t::ts=>∃v r,vs=v::r∧KVt K H v t∧KVts K H r ts
end
section
variable {P:Program} {w:World} {K:PySem.W.Frag} {H H':Hp} {h:Heap}
mutual
theorem KVt.mono (d:Kd H H'):∀ {v:V} {t:Tk.KT},KVt K H v t→KVt K H' v t
 |v, .lf (.inl i),a=>by unfold KVt at a ⊢;exact a
 |v, .lf (.inr x),a=>by unfold KVt at a ⊢;exact a
 |v, .tp ts,a=>by
  unfold KVt at a ⊢
  obtain ⟨r,vs,e,s,q⟩:=a
  exact ⟨r,vs,e,s.mono d,KVts.mono d q⟩
theorem KVts.mono (d:Kd H H'):∀ {vs:List V} {ts:List Tk.KT},KVts K H vs ts→KVts K H' vs ts
 |vs,[],a=>by unfold KVts at a ⊢;exact a
 |vs,t::ts,a=>by
  unfold KVts at a ⊢
  obtain ⟨v,r,e,a1,a2⟩:=a
  exact ⟨v,r,e,KVt.mono d a1,KVts.mono d a2⟩
end
theorem sqx_at (ok:HOk P w H h) (kin:K.In h) {q:Addr} {vs:List V} (e:SqX K H q vs):∃its:List Value,Vals vs its∧∃o n,h.get? q=some o∧o.cls= .type "tuple"∧o.data= .seq its.toArray n:=by
 rcases e with e|⟨o,its,n,hk,hc,hs,hz,r⟩
 · obtain ⟨_,its,rv,o,h1,h2,n,h3⟩:=(show ObjOk P w H h q (.tup vs) from ok q _ e)
   exact ⟨its,rv,o,n,h1,h2,h3⟩
 · exact ⟨its.toList,r,o,n,kin q o hk,hc,by simpa using hs⟩
mutual
theorem kat_of (ok:HOk P w H h) (kin:K.In h):∀ {v:V} {t:Tk.KT} {u:Value},KVt K H v t→RelV v u→Tk.KAt h u t
 |v, .lf (.inl i),u,a,r=>by
  unfold KVt at a
  subst a
  obtain ⟨t,rfl⟩:=r
  simp only [Tk.KAt]
  exact keyIs_int i t
 |v, .lf (.inr x),u,a,r=>by
  unfold KVt at a
  subst a
  obtain ⟨t,rfl⟩:=r
  simp only [Tk.KAt]
  exact keyIs_str x t
 |v, .tp ts,u,a,r=>by
  unfold KVt at a
  obtain ⟨q,vs,rfl,e,as⟩:=a
  obtain rfl:u=Value.ref q:=r
  obtain ⟨its,rv,o,n,h1,h2,h3⟩:=sqx_at ok kin e
  simp only [Tk.KAt]
  exact ⟨q,o,its.toArray,n,rfl,h1,h2,h3,by simpa using kats_of ok kin as rv⟩
theorem kats_of (ok:HOk P w H h) (kin:K.In h):∀ {vs:List V} {ts:List Tk.KT} {us:List Value},KVts K H vs ts→Vals vs us→Tk.KsAt h us ts
 |vs,[],us,a,r=>by
  unfold KVts at a
  subst a
  cases r
  simp [Tk.KsAt]
 |vs,t::ts,us,a,r=>by
  unfold KVts at a
  obtain ⟨v,q,rfl,a1,a2⟩:=a
  cases r with
  |cons r1 r2=>
   simp only [Tk.KsAt]
   exact ⟨_,_,rfl,kat_of ok kin a1 r1,kats_of ok kin a2 r2⟩
end
end
def KeyAt (K:PySem.W.Frag) (H:Hp) (k:List Tk.KT) (b:Addr):Prop:=∃vs,SqX K H b vs∧KVts K H vs k∧(Tk.KT.tp k).depth≤8
theorem KeyAt.mono {K:PySem.W.Frag} {H H':Hp} {k:List Tk.KT} {b:Addr} (d:Kd H H') (h:KeyAt K H k b):KeyAt K H' k b:=by
 obtain ⟨ts,h1,h2,h3⟩:=h
 exact ⟨ts,h1.mono d,h2.mono d,h3⟩
theorem KeyAt.is {P:Program} {w:World} {K:PySem.W.Frag} {H:Hp} {h:Heap} {k:List Tk.KT} {b:Addr} (ok:HOk P w H h) (kin:K.In h) (x:KeyAt K H k b):(Tk.treeKind P w).is h k b:=by
 obtain ⟨vs,h1,h2,h4⟩:=x
 have:=kat_of ok kin (v:= .ref b) (t:= .tp k) (u:= .ref b) (by unfold KVt;exact ⟨b,vs,rfl,h1,h2⟩) rfl
 exact ⟨this,h4⟩
abbrev Ent:=List Tk.KT×Addr×V
abbrev RE:List Ent→List (List Tk.KT×Addr×Value)→Prop:=Paired fun p q=>p.1=q.1∧p.2.1=q.2.1∧RelV p.2.2 q.2.2
noncomputable def dJ (P:Program) (w:World) (a:Addr) (kvs:List Ent):HO:= .ext fun h=>kvs.length≤sizeLine∧(a==sysModules)=false∧
 ∃xs:List (List Tk.KT×Addr×Value),RE kvs xs∧∃o es ep,h.get? a=some o∧o.ExactDict∧o.data= .dict es ep∧es.toList=xs.map (entryOfKey (Tk.treeKind P w))∧(xs.map (·.1)).Nodup
structure DJ (P:Program) (w:World) (K:PySem.W.Frag) (H:Hp) (a:Addr) (kvs:List Ent):Prop where
 at_:H a=some (dJ P w a kvs)
 keys:∀p∈kvs,KeyAt K H p.1 p.2.1
noncomputable def valJ (kvs:List Ent) (k:List Tk.KT):Option V:=(kvs.find? fun p=>decide (p.1=k)).map (·.2.2)
noncomputable def putJ (kvs:List Ent) (k:List Tk.KT) (b:Addr) (v:V):List Ent:=
 if (valJ kvs k).isSome then kvs.map (fun p=>if p.1=k then (p.1,p.2.1,v) else p) else kvs++ [(k,b,v)]
theorem valJ_pos {p:Ent} {r:List Ent} {k:List Tk.KT} (e:p.1=k):valJ (p::r) k=some p.2.2:=by simp [valJ,List.find?_cons,e]
theorem valJ_neg {p:Ent} {r:List Ent} {k:List Tk.KT} (e:¬p.1=k):valJ (p::r) k=valJ r k:=by simp [valJ,List.find?_cons,e]
theorem length_putJ (kvs:List Ent) (k:List Tk.KT) (b:Addr) (v:V):(putJ kvs k b v).length≤kvs.length+1:=by
 unfold putJ
 split
 · rw [List.length_map];omega
 · rw [List.length_append,List.length_cons,List.length_nil];omega
theorem RE.val {kvs:List Ent} {xs:List (List Tk.KT×Addr×Value)} (r:RE kvs xs) (k:List Tk.KT):RelO (valJ kvs k) ((atKey xs k).map (·.2)):=by
 induction r with
 |nil=>exact True.intro
 | @cons p q ps qs h t ih=>
  obtain ⟨h1,_,h2⟩:=h
  by_cases e:p.1=k
  · have e':q.1=k:=h1.symm.trans e
    have b:atKey (q::qs) k=some q.2:=by simp [atKey,List.find?_cons,e']
    rw [valJ_pos e,b];exact h2
  · have e':¬q.1=k:=fun z=>e (h1.trans z)
    have b:atKey (q::qs) k=atKey qs k:=by simp [atKey,List.find?_cons,e']
    rw [valJ_neg e,b];exact ih
theorem RE.repl {kvs:List Ent} {xs:List (List Tk.KT×Addr×Value)} (r:RE kvs xs) (k:List Tk.KT) {y:V} {u:Value} (ry:RelV y u):
 RE (kvs.map fun p=>if p.1=k then (p.1,p.2.1,y) else p) (xs.map (putAt k u)):=by
 induction r with
 |nil=>exact .nil
 | @cons p q ps qs h t ih=>
  rw [List.map_cons,List.map_cons]
  refine .cons ?_ ih
  obtain ⟨h1,h2,h3⟩:=h
  unfold putAt
  by_cases e:p.1=k
  · rw [if_pos e,if_pos (h1.symm.trans e)];exact ⟨h1,h2,ry⟩
  · rw [if_neg e,if_neg (fun z=>e (h1.trans z))];exact ⟨h1,h2,h3⟩
theorem RE.put {kvs:List Ent} {xs:List (List Tk.KT×Addr×Value)} (r:RE kvs xs) (k:List Tk.KT) {b:Addr} {y:V} {u:Value} (ry:RelV y u):RE (putJ kvs k b y) (storedH xs k b u):=by
 have e:(valJ kvs k).isSome=(atKey xs k).isSome:=by
  rw [(r.val k).isSome_eq,Option.isSome_map]
 unfold putJ storedH
 rw [e]
 by_cases q:(atKey xs k).isSome=true
 · rw [if_pos q,if_pos q];exact r.repl k ry
 · rw [if_neg q,if_neg q];exact Paired.snoc r ⟨rfl,rfl,ry⟩
theorem putJ_mem {kvs:List Ent} {k:List Tk.KT} {b:Addr} {v:V} {p:Ent} (h:p∈putJ kvs k b v):(∃q∈kvs,p.1=q.1∧p.2.1=q.2.1)∨(p.1=k∧p.2.1=b):=by
 unfold putJ at h
 split at h
 · obtain ⟨q,m,e⟩:=List.mem_map.mp h
   split at e
   · subst e;exact .inl ⟨q,m,rfl,rfl⟩
   · subst e;exact .inl ⟨q,m,rfl,rfl⟩
 · rcases List.mem_append.mp h with m|m
   · exact .inl ⟨p,m,rfl,rfl⟩
   · rw [List.mem_singleton.mp m];exact .inr ⟨rfl,rfl⟩
theorem Kd.updJ {P:Program} {w:World} {H:Hp} {a:Addr} {kvs:List Ent} {o:HO} (h:H a=some (dJ P w a kvs)):Kd H (upd H a o):=by
 refine ⟨fun b zs e=> ?_,fun b zs e=>⟨zs,?_⟩⟩
 · rw [upd_ne (fun z=>by rw [z,h] at e;cases e)];exact e
 · rw [upd_ne (fun z=>by rw [z,h] at e;cases e)];exact e
theorem Kd.updK {H:Hp} {a:Addr} {kvs:List (Key×V)} {o:HO} (h:H a=some (.dK kvs)):Kd H (upd H a o):=by
 refine ⟨fun b zs e=> ?_,fun b zs e=>⟨zs,?_⟩⟩
 · rw [upd_ne (fun z=>by rw [z,h] at e;cases e)];exact e
 · rw [upd_ne (fun z=>by rw [z,h] at e;cases e)];exact e
theorem DJ.put {P:Program} {w:World} {K:PySem.W.Frag} {H:Hp} {a b:Addr} {kvs:List Ent} {k:List Tk.KT} {v:V} (d:DJ P w K H a kvs) (hk:KeyAt K H k b):DJ P w K (upd H a (dJ P w a (putJ kvs k b v))) a (putJ kvs k b v):=by
 refine ⟨upd_same,fun p m=> ?_⟩
 refine KeyAt.mono (Kd.updJ d.at_) ?_
 rcases putJ_mem m with ⟨q,mq,e1,e2⟩|⟨e1,e2⟩
 · rw [e1,e2];exact d.keys q mq
 · rw [e1,e2];exact hk
theorem DJ.kd {P:Program} {w:World} {K:PySem.W.Frag} {H H':Hp} {a:Addr} {kvs:List Ent} (d:DJ P w K H a kvs) (k:Kd H H') (e:H' a=some (dJ P w a kvs)):DJ P w K H' a kvs:=⟨e,fun p m=>(d.keys p m).mono k⟩
section
variable {P:Program} {w:World} {H:Hp} {h:Heap} {a:Addr}
theorem dj_of {K:PySem.W.Frag} {kvs:List Ent} (ok:HOk P w H h) (kin:K.In h) (d:DJ P w K H a kvs):kvs.length≤sizeLine∧(a==sysModules)=false∧∃xs,RE kvs xs∧h.DictOfH (Tk.treeKind P w) a xs:=by
 obtain ⟨⟨z,y,xs,r,o,es,ep,h1,h2,h3,h4,h5⟩,_⟩:=(show ObjOk P w H h a (dJ P w a kvs) from ok a _ d.at_)
 refine ⟨z,y,xs,r,o,es,ep,h1,h2,h3,h4,?_,h5⟩
 have all:∀ {l:List Ent} {m:List (List Tk.KT×Addr×Value)},RE l m→(∀p∈l,KeyAt K H p.1 p.2.1)→∀x∈m,(Tk.treeKind P w).is h x.1 x.2.1:=by
  intro l m q
  induction q with
  |nil=>intro _ x hx;exact nomatch hx
  | @cons p q ps qs hq t ih=>
   intro kp x hx
   rcases List.mem_cons.mp hx with e|hx
   · subst e
     rw [←hq.1,←hq.2.1]
     exact (kp p List.mem_cons_self).is ok kin
   · exact ih (fun p m=>kp p (List.mem_cons_of_mem _ m)) x hx
 exact all r d.keys
theorem dj_new {kvs:List Ent} {xs:List (List Tk.KT×Addr×Value)} {H':Hp} {h':Heap} (z:kvs.length≤sizeLine) (y:(a==sysModules)=false) (r:RE kvs xs)
 (d:∃o es ep,h'.get? a=some o∧o.ExactDict∧o.data= .dict es ep∧es.toList=xs.map (entryOfKey (Tk.treeKind P w))∧(xs.map (·.1)).Nodup):ObjOk P w H' h' a (dJ P w a kvs):=by
 obtain ⟨o,es,ep,h1,h2⟩:=d
 refine ⟨⟨z,y,xs,r,o,es,ep,h1,h2⟩,⟨o,h1⟩,?_⟩
 rintro g1 g2 ⟨z,y,xs,r,o,es,ep,h1,h2⟩ st
 exact ⟨z,y,xs,r,o,es,ep,st _ h1,h2⟩
end
noncomputable def tDNewJ (P:Program) (w:World):TE:=fun _ H Q=>∀p,H p=none→Q (.ref p) (upd H p (dJ P w p []))
noncomputable def sDPutJ (P:Program) (w:World) (K:PySem.W.Frag) (td ty tv:TE):TS:=fun D σ H=>tv σ H fun v H1=>td σ H1 fun x H2=>ty σ H2 fun y H3=>∃a b k kvs,x= .ref a∧y= .ref b∧DJ P w K H3 a kvs∧KeyAt K H3 k b∧kvs.length < sizeLine∧D.nx σ (upd H3 a (dJ P w a (putJ kvs k b v)))
section
variable {X:Cx} {pos pos' apos cpos:Pos} {o i e f value:Expr} {td ty tv tx:TE}
theorem dj_empty {P:Program} {w:World} {H:Hp} (h:Heap) (hb:sysModules < h.objs.size):ObjOk P w H (h.push {cls:= .type "dict",data:= .dict #[]}) h.objs.size (dJ P w h.objs.size []):=
 dj_new (Nat.zero_le _) (beq_eq_false_iff_ne.mpr (Ne.symm (Nat.ne_of_lt hb))) .nil ⟨_, #[],0,Heap.get?_push_size _ rfl,⟨rfl,rfl,rfl⟩,rfl,rfl,List.nodup_nil⟩
theorem pe_dnewJ:PE X (.Dict [] [] pos) (tDNewJ X.prog X.w):=fun pins s σ H Q I h=>
 wpAny_Dict_empty ⟨.ref s.heap.objs.size,_,I.laid (a:=s.heap.objs.size) (o:=dJ X.prog X.w s.heap.objs.size []) (t':=s.toks) (fun _ _ q=>Heap.get?_push_of_some _ q) (Nat.le_refl _) (dj_empty s.heap I.big),rfl,h _ (I.hok.fresh (Nat.le_refl _))⟩
theorem ps_dputJ (hu:X.A.units+30 < cLine) (ho:PE X o td) (hi:PE X i ty) (hv:PE X value tv) (hs:swapsWith value (some (.Subscript o i pos')) pos.line X.env=pure false):
 PS X (.Assign [.Subscript o i pos'] value pos) (sDPutJ X.prog X.w X.K td ty tv):=by
 intro pins s σ H D I h
 refine wpAny_Assign_Subscript (thn (hv pins s σ H _ I h) fun r s1 ⟨v,H1,I1,rv,q1⟩=>thn (ho pins s1 σ H1 _ I1 q1) fun u s2 ⟨x,H2,I2,rx,q2⟩=>thn (hi pins s2 σ H2 _ I2 q2) fun iv s3 ⟨y,H3,I3,ry,a,b,k,kvs,ex,ey,d,kb,hl,q3⟩=> ?_) hs
 subst ex ey
 obtain rfl:u=Value.ref a:=rx
 obtain rfl:iv=Value.ref b:=ry
 obtain ⟨z,hd,xs,rel,dd⟩:=dj_of I3.hok I3.kIn d
 have hz:xs.length≤sizeLine:=by rw [←Paired.length rel];exact z
 have hl2:(putJ kvs k b v).length≤sizeLine:=by have:=length_putJ kvs k b v;omega
 refine wpAny_setItem_heap (hsz:=hz) (by show X.A.units+1+20 < cLine;omega) (kb.is I3.hok I3.kIn) dd fun h' dd' hs=>⟨σ,_,?_,q3⟩
 obtain ⟨q,es,ep,hq,h2,h3,h4,_,h5⟩:=dd'
 exact d_write I3 (by rw [d.at_];exact True.intro) hs ⟨q,hq⟩ (dj_new hl2 hd (rel.put k rv) ⟨q,es,ep,hq,h2,h3,h4,h5⟩)
variable {P:Program} {w:World} {K:PySem.W.Frag}
theorem pe_newJ (hP:X.prog=P) (hw:X.w=w):PE X (.Dict [] [] pos) (tDNewJ P w):=by
 subst hP hw
 exact pe_dnewJ
theorem ps_putJ (hP:X.prog=P) (hw:X.w=w) (hK:X.K=K) (hu:X.A.units+30 < cLine) (ho:PE X o td) (hi:PE X i ty) (hv:PE X value tv) (hs:swapsWith value (some (.Subscript o i pos')) pos.line X.env=pure false):
 PS X (.Assign [.Subscript o i pos'] value pos) (sDPutJ P w K td ty tv):=by
 subst hP hw hK
 exact ps_dputJ hu ho hi hv hs
end
end Dj
namespace Tre
open PySem L2
theorem str_code {x y:Str} (h:x.cps.toList=y.cps.toList):x=y:=by
 cases x
 cases y
 simp only [Str.mk.injEq]
 exact Array.toList_inj.mp h
theorem codes_eq {ts us:List Tr} (h:∀t∈ts,∀u∈us,code t=code u→t=u) (e:codes ts=codes us):ts=us:=by
 induction ts generalizing us with
 |nil=>cases us with
  |nil=>rfl
  |cons u us=>simp [codes] at e
 |cons t ts ih=>
  cases us with
  |nil=>simp [codes] at e
  |cons u us=>
   simp only [codes,List.cons.injEq] at e
   rw [h t List.mem_cons_self u List.mem_cons_self e.1,ih (fun a ma b mb=>h a (List.mem_cons_of_mem _ ma) b (List.mem_cons_of_mem _ mb)) e.2]
theorem nl {x y:String} (h:(Str.ofString x).cps.toList≠(Str.ofString y).cps.toList) {r s:List Co}:Co.tup (.str (Str.ofString x).cps.toList::r)=Co.tup (.str (Str.ofString y).cps.toList::s)→False:=fun e=>by
 simp only [Co.tup.injEq,List.cons.injEq,Co.str.injEq] at e
 exact h e.1
theorem ty_eq:∀(n:Nat) {k:So} {t u:Tr},t.depth≤n→Ty k t→Ty k u→code t=code u→t=u:=by
 intro n
 induction n with
 |zero=>
  intro k t u hd h1 h2
  cases h1<;>simp [Tr.depth] at hd
 |succ n ih=>
  intro k t u hd h1 h2 e
  have sub:∀ {ts:List Tr} {t:Tr},(Tr.tup ts).depth≤n+1→t∈ts→t.depth≤n:=fun h m=>by
   unfold Tr.depth at h
   have:=depth_memT m
   omega
  have sub2:∀ {ts l:List Tr} {t:Tr},(Tr.tup ts).depth≤n+1→Tr.tup l∈ts→t∈l→t.depth≤n:=fun h m m2=>by
   have h3:=sub h m
   unfold Tr.depth at h3
   have:=depth_memT m2
   omega
  cases h1<;>cases h2<;>simp only [code,codes] at e
  all_goals first
   |exact (nl (by decide +kernel) e).elim
   |skip
  all_goals simp only [Co.tup.injEq,List.cons.injEq,Co.str.injEq,Co.num.injEq,and_true,true_and] at e
  · rw [str_code e]
  · rename_i x ts _ h1 y us _ h2
    rw [str_code e.1,codes_eq (fun a ma b mb=>ih (sub2 hd (by simp) ma) (h1 a ma) (h2 b mb)) e.2]
  · rw [e.1,e.2]
  · rename_i t1 f1 a1 b1 t2 f2 a2 b2
    rw [ih (sub hd (by simp)) a1 a2 e.1,ih (sub hd (by simp)) b1 b2 e.2]
  · rw [str_code e]
  · rename_i p1 f1 a1 b1 p2 f2 a2 b2
    rw [codes_eq (fun a ma b mb=>ih (sub2 hd (by simp) ma) (a1 a ma) (a2 b mb)) e.1,ih (sub hd (by simp)) b1 b2 e.2]
  · rename_i t1 u1 a1 b1 t2 u2 a2 b2
    rw [ih (sub hd (by simp)) a1 a2 e.1,ih (sub hd (by simp)) b1 b2 e.2]
  · rename_i w1 a1 w2 a2
    rw [ih (sub hd (by simp)) a1 a2 e]
  · rename_i l1 a1 l2 a2
    rw [codes_eq (fun a ma b mb=>ih (sub2 hd (by simp) ma) (a1 a ma) (a2 b mb)) e]
  · rename_i l1 a1 l2 a2
    rw [codes_eq (fun a ma b mb=>ih (sub2 hd (by simp) ma) (a1 a ma) (a2 b mb)) e]
  · rename_i w1 b1 a1 w2 b2 a2
    have e2:b1=b2:=by
     have:=e.2
     cases b1<;>cases b2<;>simp at this ⊢
    rw [ih (sub hd (by simp)) a1 a2 e.1,e2]
def Rise (us:List Tr):Prop:=∀(i j:Nat) (t u:Tr),i≤j→us[i]?=some t→us[j]?=some u→ltT u t=false
theorem Rise.tail {a:Tr} {us:List Tr} (h:Rise (a::us)):Rise us:=fun i j t u hij e1 e2=>h (i+1) (j+1) t u (by omega) (by simpa using e1) (by simpa using e2)
theorem Rise.head {a b:Tr} {us:List Tr} (h:Rise (a::us)) (m:b∈us):ltT b a=false:=by
 obtain ⟨j,hj,e⟩:=List.getElem_of_mem m
 exact h 0 (j+1) a b (by omega) rfl (by simp [hj,e])
end Tre
namespace Wd
open PySem L2 Tre Mth Dj
def Lt2 (e:Nat) (x:Int):Prop:=x.natAbs < 2^e
theorem Lt2.mono {m n:Nat} {x:Int} (h:Lt2 m x) (hn:m≤n):Lt2 n x:=Nat.lt_of_lt_of_le h (Nat.pow_le_pow_right (by decide) hn)
theorem Lt2.big {n:Nat} {x:Int} (h:Lt2 n x) (hn:n≤8000):Big x:=h.mono hn
theorem Lt2.add {m:Nat} {x y:Int} (h1:Lt2 m x) (h2:Lt2 m y):Lt2 (m+1) (x+y):=by
 unfold Lt2 at*
 have:=Int.natAbs_add_le x y
 rw [Nat.pow_succ]
 omega
abbrev Fr:=Int×Int
def frT (p:Fr):Tr:= .tup [.int p.1, .int p.2]
def frK (p:Fr):Tk.KT:= .tp [.lf (.inl p.1), .lf (.inl p.2)]
structure Gf (e:Nat) (p:Fr):Prop where
 pos:0 < p.2
 top:Lt2 e p.1
 bot:Lt2 e p.2
theorem Gf.mono {m n:Nat} {p:Fr} (h:Gf m p) (hn:m≤n):Gf n p:=⟨h.pos,h.top.mono hn,h.bot.mono hn⟩
def zero:Fr:=(0,1)
def Gv (p:Fr):Prop:=Gf 200 p∧Share p.1 p.2
theorem gf_zero:Gf 200 zero:=⟨by decide,by show (0:Nat) < 2^200;exact Nat.pow_pos (by decide),by show (1:Nat) < 2^200;decide +kernel⟩
theorem gv_zero:Gv zero:=⟨gf_zero,by decide,by decide⟩
noncomputable def plusF (p q:Fr):Fr:=(pX p.1 p.2 q.1 q.2,pY p.1 p.2 q.1 q.2)
noncomputable def timesF (p q:Fr):Fr:=(tX p.1 p.2 q.1 q.2,tY p.1 p.2 q.1 q.2)
structure Wld where
 fl:Str→Bool
 va:Str→Fr
 ca:List Tk.KT→Fr
structure Wld.Ok (W:Wld):Prop where
 va:∀x,Gv (W.va x)
 ca:∀k,Gv (W.ca k)
mutual
noncomputable def valT (W:Wld):Tr→Fr
 | .tup (_:: .str x::r)=>match r with
  | []=>W.va x
  |t::_=>W.ca [.lf (.inr x), .tp (keyT W t)]
 |_=>zero
noncomputable def keyT (W:Wld):Tr→List Tk.KT
 | .tup ts=>valsT W ts
 |_=> []
noncomputable def valsT (W:Wld):List Tr→List Tk.KT
 | []=> []
 |t::ts=>frK (valT W t)::valsT W ts
end
def shareOf:Tr→Fr
 | .tup [.int a, .int b]=>(a,b)
 |_=>zero
noncomputable def sum1 (W:Wld) (acc:Fr):Tr→Fr
 | .tup [t,f]=>plusF acc (timesF (shareOf f) (valT W t))
 |_=>acc
noncomputable def sumT (W:Wld) (ps:List Tr):Fr:=ps.foldl (sum1 W) zero
def Gp (p:Tr):Prop:=∃tm f,p= .tup [tm,frT f]∧Ty .tm tm∧tm.depth≤5∧Gf 603 f
inductive Gw:Tr→Prop
 |fl (x:Str):Gw (.tup [s_ "flag", .str x])
 |mo (ps:List Tr) (f:Fr):ps.length≤3→(∀p∈ps,Gp p)→Gf 900 f→Gw (.tup [s_ "most", .tup ps,frT f])
 |li (t u:Tr):Ty .tm t→Ty .tm u→t.depth≤7→u.depth≤7→Gw (.tup [s_ "like",t,u])
 |no (w:Tr):Gw w→Gw (.tup [s_ "not",w])
 |bo (l:List Tr):l.length≤3→(∀w∈l,Gw w)→Gw (.tup [s_ "both", .tup l])
 |ei (l:List Tr):l.length≤3→(∀w∈l,Gw w)→Gw (.tup [s_ "either", .tup l])
theorem Gw.ty {t:Tr} (h:Gw t):Ty .ws t:=by
 induction h with
 |fl x=>exact .fl x
 |mo ps f _ hp _=>
  refine .mo ps _ (fun p m=> ?_) (.fr _ _)
  obtain ⟨tm,f,rfl,h1,_⟩:=hp p m
  exact .pr _ _ h1 (.fr _ _)
 |li t u h1 h2 _ _=>exact .li t u h1 h2
 |no w _ ih=>exact .no w ih
 |bo l _ _ ih=>exact .bo l ih
 |ei l _ _ ih=>exact .ei l ih
inductive Gl:Tr→Prop
 |mk (t:Tr) (b:Bool):Gw t→Gl (.tup [t, .bl b])
theorem Gl.ty {t:Tr} (h:Gl t):Ty .lt t:=by
 cases h with
 |mk t b h=>exact .lt t b h.ty
def flagOf (W:Wld):Tr→Bool
 | .str x=>W.fl x
 |_=>false
def psOf:Tr→List Tr
 | .tup ps=>ps
 |_=> []
mutual
noncomputable def hold (W:Wld):Tr→Bool
 | .tup (.str k::t::r)=>match r with
  | []=>if k=Str.ofString "flag" then flagOf W t else if k=Str.ofString "not" then !hold W t else if k=Str.ofString "both" then allT W t else anyT W t
  |u::_=>if k=Str.ofString "like" then decide (valT W t=valT W u) else decide ((sumT W (psOf t)).1*(shareOf u).2≤(shareOf u).1*(sumT W (psOf t)).2)
 |_=>false
noncomputable def allT (W:Wld):Tr→Bool
 | .tup ts=>allTs W ts
 |_=>true
noncomputable def anyT (W:Wld):Tr→Bool
 | .tup ts=>anyTs W ts
 |_=>false
noncomputable def allTs (W:Wld):List Tr→Bool
 | []=>true
 |t::ts=>hold W t&&allTs W ts
noncomputable def anyTs (W:Wld):List Tr→Bool
 | []=>false
 |t::ts=>hold W t ||anyTs W ts
end
end Wd
namespace K81
open PySem L2 Mth
noncomputable def top (i:Nat):Stmt:=PySem.Challenge.pw_smallword_k81_levels_of_a_bench.main.body.getD i (.Pass ⟨0,0,0,0⟩)
noncomputable abbrev sInit:Stmt:=inClass (top 2) 0
noncomputable abbrev sCd:Stmt:=top 14
noncomputable abbrev sFr:Stmt:=top 15
noncomputable abbrev sIw:Stmt:=top 19
noncomputable abbrev sIto:Stmt:=top 20
noncomputable abbrev sNmQ:Stmt:=top 21
noncomputable abbrev sFrQ:Stmt:=top 22
noncomputable abbrev sTmQ:Stmt:=top 23
noncomputable abbrev sCtQ:Stmt:=top 24
noncomputable abbrev sPrQ:Stmt:=top 26
noncomputable abbrev sSmQ:Stmt:=top 27
noncomputable abbrev sAtQ:Stmt:=top 29
noncomputable abbrev sWsQ:Stmt:=top 30
noncomputable abbrev sBinit:Stmt:=inClass (top 32) 0
noncomputable abbrev sBput:Stmt:=inClass (top 32) 1
noncomputable abbrev sBpush:Stmt:=inClass (top 32) 2
noncomputable abbrev sBpop:Stmt:=inClass (top 32) 3
noncomputable abbrev sBlevel:Stmt:=inClass (top 32) 4
noncomputable abbrev sBwishes:Stmt:=inClass (top 32) 5
noncomputable abbrev sDraw:Stmt:=top 34
noncomputable abbrev sTerm:Stmt:=top 35
noncomputable abbrev sShare:Stmt:=top 36
noncomputable abbrev sAtom:Stmt:=top 37
noncomputable abbrev sWish:Stmt:=top 38
noncomputable abbrev sWishes:Stmt:=top 39
noncomputable abbrev sRefu:Stmt:=top 40
noncomputable abbrev sStr:Stmt:=top 41
noncomputable abbrev sAsk:Stmt:=top 42
noncomputable abbrev sDeed:Stmt:=top 43
noncomputable abbrev sTold:Stmt:=top 44
noncomputable abbrev sLaw:Stmt:=top 45
section
variable {P:Program} {w:World} {K:PySem.W.Frag} {mg:Str→Option Value} {base:Heap}
structure Blt (mg:Str→Option Value):Prop where
 ab:mg "abs"=none
 le:mg "len"=none
 ra:mg "range"=none
 isi:mg "isinstance"=none
 tu:mg "tuple"=none
 it:mg "int"=none
 bo:mg "bool"=none
 li:mg "list"=none
 st:mg "str"=none
 al:mg "all"=none
 an:mg "any"=none
 su:mg "sum"=none
 zi:mg "zip"=none
 so:mg "sorted"=none
 ve:mg "ValueError"=none
def spCd:Sp:=fun vs H Q _=>∃(a b:Int),vs= [.int a, .int b]∧Q (.int (Int.gcd a b:Int)) H
theorem scC:FnScope ["one","other"] ["one","other"] (defScope sCd):=⟨rfl,rfl,rfl,by decide +kernel,rfl,by decide +kernel,by decide +kernel⟩
theorem abs_gcd (a:Int):(if a < 0 then -a else a)=(Int.gcd a 0:Int):=by
 rw [Int.gcd_zero_right]
 split<;>omega
theorem ok_cd {f:Addr} {fd:FuncData} (F:Fun K "common_divisor" "common_divisor" sCd f fd) (B:Blt mg):FnOk P w K mg base CX0 1 f fd ["one","other"] spCd:=by
 refine F.ok scC (fun vs H Q E h=> ?_) (fun cdv A outer s H vs Q E hr h=> ?_)
 · obtain ⟨a,b,rfl,_⟩:=h
   rfl
 · obtain ⟨a,b,rfl,k⟩:=h
   refine ⟨_,pss_cons (ps_while PassesOwn.never (pt_cmpR op_ne (pv 1) pe_int (nomark _)) (pss_one (ps_par (i:=0) (j:=1) rfl scC.nd rfl rfl (by decide) rfl rfl (pa_cons (pv 1) (pa_cons (pe_op op_modN (pv 0) (pv 1)) pa_nil)) rfl)))
    (pss_one (ps_ret (pe_callB call_abs rfl B.ab boot_abs (pa_cons (pv 0) pa_nil)))),?_⟩
   refine while_by (fun σ H'=>H'=H∧∃x y:Int,σ= [some (.int x),some (.int y)]∧Int.gcd x y=Int.gcd a b) (fun σ _=>match σ with| [_,some (.int y)]=>y.natAbs|_=>0) ⟨rfl,a,b,rfl,rfl⟩ ?_ ?_
   · rintro σ H' ⟨rfl,x,y,rfl,e⟩
     refine ⟨_,rfl,rfl,_,rfl,?_⟩
     by_cases z:y=0
     · subst z
       rw [decide_eq_true rfl]
       refine iteF ?_
       refine ⟨_,rfl,x,rfl,?_⟩
       rw [abs_gcd,e]
       exact k
     · have z':¬(V.int y=V.int 0):=fun q=>z (V.int.inj q)
       rw [decide_eq_false z']
       refine iteT ?_
       refine ⟨_,rfl,_,rfl,_,rfl,x,y,rfl,rfl,z,_,_,rfl,?_⟩
       refine ⟨⟨rfl,y,x.fmod y,rfl,?_⟩,?_⟩
       · rw [gcd_fmod,e]
       · exact fmod_lt z
   · intro σ H' R R' hR h
     obtain ⟨v,e1,e2,q,e3,h⟩:=h
     exact ⟨v,e1,e2,q,e3,hR _ _ h⟩
theorem big_gcd {t b:Int} (h:Big b) (z:b≠0):Big (Int.gcd t b:Int):=by
 have:Int.gcd t b≤b.natAbs:=Int.gcd_le_natAbs_right t (by omega)
 unfold Big at*
 omega
end
open PySem L2 Mth Tre
theorem same_upd {H:Hp} {p:Addr} {o:HO} (h:H p=none):Same H (upd H p o):=fun b u e=>by
 rw [upd_ne (ne_of_none e h)]
 exact e
theorem same_wr {H H':Hp} {D:Addr} {o:HO} (h:H D=none) (s:Same H H'):Same H (upd H' D o):=fun b u e=>by
 rw [upd_ne (ne_of_none e h)]
 exact s b u e
end K81
namespace L2
open PySem PySem.Spec PyProof.Rows
def CompS (n i:Nat) (acc:List V) (Pv:Nat→List V→Hp→Prop):Hp→Prop:=fun H5=>∃m',m' < n - i∧(m'=n - (i+1)∧i+1≤n∧Pv (i+1) acc H5)
theorem CompS.mk {n i:Nat} {acc:List V} {Pv:Nat→List V→Hp→Prop} {H5:Hp} (hi:i < n) (h:Pv (i+1) acc H5):CompS n i acc Pv H5:=⟨n - (i+1),by omega,rfl,hi,h⟩
end L2
namespace Zp
open PySem
inductive Src where
 |lst|tup
def Src.It (k:Src) (h:Heap) (it l:Addr) (i:Nat):Prop:=match k with
 | .lst=>h.IsListIter it l i
 | .tup=>h.IsTupleIter it l i
def Src.Sq (k:Src) (h:Heap) (l:Addr) (xs:Array Value):Prop:=match k with
 | .lst=>h.IsList l xs
 | .tup=>h.IsTuple l xs
theorem it_at {k:Src} {h h':Heap} {a l:Addr} {i:Nat} (x:k.It h a l i) (e:∀o,h.get? a=some o→h'.get? a=some o):k.It h' a l i:=by
 cases k
 · exact Heap.IsListIter.at x e
 · exact Heap.IsTupleIter.at x e
theorem sq_at {k:Src} {h h':Heap} {l:Addr} {xs:Array Value} (x:k.Sq h l xs) (e:∀o,h.get? l=some o→h'.get? l=some o):k.Sq h' l xs:=by
 cases k
 · exact Heap.IsList.at x e
 · exact Heap.IsTuple.at x e
theorem it_obj {k:Src} {h:Heap} {a l:Addr} {i:Nat} (x:k.It h a l i):∃o,h.get? a=some o∧∀v,o.data≠ .cell v:=by
 cases k
 all_goals
  obtain ⟨o,e,_,d⟩:=x
  exact ⟨o,e,fun v z=>by rw [d] at z;cases z⟩
section
variable {prog:Program} {w:World} {A:Around} {E:Value→Shared→Prop} {s:Shared} {k:Src} {it l:Addr} {i:Nat} {xs:Array Value} {x:Value} {Q:Value→Shared→Prop}
theorem nx_item (st:k.It s.heap it l i) (sq:k.Sq s.heap l xs) (hx:xs[i]?=some x) (q:∀h',k.It h' it l (i+1)→Heap.SameBut it s.heap h'→Q x {s with heap:=h'}):
 wpAny (model prog w) A (Builtin.SmallTypes.nextOf (.ref it)) Q E s:=by
 cases k
 · exact wpAny_nextOf_list_item st sq hx q
 · obtain ⟨o,e1,e2,e3⟩:=id st
   obtain ⟨p,f1,_,n,f3⟩:=sq
   have ty:=Heap.IsTupleIter.typeIs st
   rw [Builtin.SmallTypes.nextOf]
   refine wpAny_bind (wpAny_callSpecial?_slot (name:=Str.ofString "__next__") ty F.slot_tuple_iterator_next (wpAny_call_entry F.slot_tuple_iterator_next ty F.entry_tuple_iterator_next ?_ (F.args_tuple_iterator_next_1 _)))
   show wpAny _ _ (do let y←field (.ref it) 0;_) _ _ s
   refine wpAny_bind (wpAny_field e1 e3 (x:= .ref l) rfl ?_)
   show wpAny _ _ (if (Value.ref l==Value.none)=true then _ else _) _ _ _
   refine (if_neg (show¬((Value.ref l==Value.none)=true) from Bool.false_ne_true))▸ ?_
   show wpAny _ _ (do let y←field (.ref it) 1;_) _ _ s
   refine wpAny_bind (wpAny_field e1 e3 (x:= .int i 0) rfl ?_)
   show wpAny _ _ (do let y←seqItems? (.ref l);_) _ _ s
   refine wpAny_bind (wpAny_seqItems f1 f3 ?_)
   simp only [hx,Int.toNat_natCast]
   refine wpAny_bind (wpAny_setField e1 e3 (by simp) (wpAny_pure ⟨x,rfl,wpAny_pure (q _ ?_ (Heap.SameBut.update ..))⟩))
   refine ⟨_,Heap.get?_update_self _ e1 (Obj.isFreed_of_fields (Obj.data_mapFields e3 _)),(Obj.cls_mapFields ..).trans e2,?_⟩
   rw [Obj.data_mapFields e3]
   simp [rawInt]
theorem nx_end (hh:A.handled=none) (st:k.It s.heap it l i) (sq:k.Sq s.heap l xs) (hx:xs[i]?=none) (q:∀h' e,Heap.ExtBut it s.heap h'→(∃o,h'.get? e=some o∧o.cls= .type "StopIteration")→E (.ref e) {s with heap:=h'}):
 wpAny (model prog w) A (Builtin.SmallTypes.nextOf (.ref it)) Q E s:=by
 cases k
 · exact wpAny_nextOf_list_end hh st sq hx q
 · obtain ⟨o,e1,e2,e3⟩:=id st
   obtain ⟨p,f1,_,n,f3⟩:=sq
   have ty:=Heap.IsTupleIter.typeIs st
   rw [Builtin.SmallTypes.nextOf]
   refine wpAny_bind (wpAny_callSpecial?_slot (name:=Str.ofString "__next__") ty F.slot_tuple_iterator_next (wpAny_call_entry F.slot_tuple_iterator_next ty F.entry_tuple_iterator_next ?_ (F.args_tuple_iterator_next_1 _)))
   show wpAny _ _ (do let y←field (.ref it) 0;_) _ _ s
   refine wpAny_bind (wpAny_field e1 e3 (x:= .ref l) rfl ?_)
   show wpAny _ _ (if (Value.ref l==Value.none)=true then _ else _) _ _ _
   refine (if_neg (show¬((Value.ref l==Value.none)=true) from Bool.false_ne_true))▸ ?_
   show wpAny _ _ (do let y←field (.ref it) 1;_) _ _ s
   refine wpAny_bind (wpAny_field e1 e3 (x:= .int i 0) rfl ?_)
   show wpAny _ _ (do let y←seqItems? (.ref l);_) _ _ s
   refine wpAny_bind (wpAny_seqItems f1 f3 ?_)
   simp only [hx,Int.toNat_natCast]
   refine wpAny_bind (wpAny_rule (wpAny_bind (wpAny_setField e1 e3 (by simp) ?_)))
   show wpAny _ _ (do let y←newExc (.type "StopIteration") [];_) _ _ _
   refine wpAny_bind ?_
   simp only [newTuple,newExc]
   refine wpAny_bind (wpAny_newObj_type (wpAny_bind (m:=firstArgMember _ _) (wpAny_of_eq (a:=Value.none) (by first|rfl|(simp only [firstArgMember];rfl)) (wpAny_newObj_type ?_ (by size_fits)))) (by size_fits))
   simp only [raiseNew]
   refine wpAny_bind (wpAny_handled ?_)
   first|rw [show A.in1.handled=none from hh]|rw [hh]
   exact wpAny_bind (wpAny_pure (wpAny_throw (q _ _ (((Heap.SameBut.update ..).extBut.push _).push _) ⟨_,Heap.get?_push_size _ rfl,rfl⟩)))
end
open PySem
section
variable {prog:Program} {w:World} {A:Around} {E:Value→Shared→Prop} {s:Shared} {k:Src} {z TI TO i1 i2 l1 l2:Addr} {j:Nat} {xs ys:Array Value} {x y a b:Value}
theorem zp_item {Q:Value→Shared→Prop} (D:ZipApart z TI TO i1 i2 l1 l2) (hz:IsZip s.heap z TI TO .none) (hI:IsPair s.heap TI (.ref i1) (.ref i2)) (hO:IsPair s.heap TO a b)
 (t1:k.It s.heap i1 l1 j) (t2:k.It s.heap i2 l2 j) (q1:k.Sq s.heap l1 xs) (q2:k.Sq s.heap l2 ys) (ex:xs[j]?=some x) (ey:ys[j]?=some y)
 (q:∀h',IsZip h' z TI TO (rawInt s.heap.objs.size)→IsPair h' TO x y→k.It h' i1 l1 (j+1)→k.It h' i2 l2 (j+1)→IsPair h' s.heap.objs.size x y→h'.objs.size=s.heap.objs.size+1→
  (∀c o,c≠z→c≠TO→c≠i1→c≠i2→s.heap.get? c=some o→h'.get? c=some o)→Q (.ref s.heap.objs.size) {s with heap:=h'}):
 wpAny (model prog w) A (Builtin.«zip.__next__» ⟨[.ref z],[]⟩) (fun r s'=>∃v,r= .done (.ret v)∧Q v s') E s:=by
 show wpAny _ _ (do let u←field (.ref z) 2;_) _ _ _
 refine wpAny_bind (wpAny_field hz rfl (x:= .bool false) rfl ?_)
 show wpAny _ _ (do let u←field (.ref z) 3;_) _ _ _
 refine wpAny_bind (wpAny_field hz rfl (x:= .ref TI) rfl (wpAny_bind (wpAny_seqItems hI rfl ?_)))
 show wpAny _ _ (do let u←Builtin.SmallTypes.ownedTupleIsFree (.ref z);_) _ _ _
 refine wpAny_bind ?_
 rw [Builtin.SmallTypes.ownedTupleIsFree]
 refine wpAny_bind (wpAny_field hz rfl (x:= .none) rfl (wpAny_pure ?_))
 simp only [if_true]
 refine wpAny_bind (wpAny_rule (wpAny_bind (wpAny_field hz rfl (x:= .ref TO) rfl (wpAny_bind (wpAny_setField_rec hz (by simp) fun g1 y1 s1=> ?_)))))
 have y1:IsZip g1 z TI TO .ellipsis:=y1
 refine wpAny_bind ?_
 simp only [List.forIn_cons,List.forIn_nil,List.zipIdx_nil,List.zipIdx_cons]
 refine wpAny_bind (wpAny_bind (wpAny_onRaise ?_))
 show wpAny _ _ (do let u←Builtin.SmallTypes.nextOf (.ref i1);_) _ _ _
 refine wpAny_bind (nx_item (s:= {s with heap:=g1}) (it_at t1 fun o e=>s1.extBut _ o D.i1z e) (sq_at q1 fun o e=>s1.extBut _ o D.l1z e) ex fun g2 u1 s2=>wpAny_pure ?_)
 have o2:IsPair g2 TO a b:=s2.extBut _ _ D.TOi1 (s1.extBut _ _ D.TOz hO)
 refine wpAny_bind (wpAny_seqItems o2 rfl (wpAny_bind (wpAny_updateSeq_pair (s:= {s with heap:=g2}) o2 fun g3 o3 s3=> ?_)))
 have o3:IsPair g3 TO x b:=o3
 refine wpAny_bind (wpAny_letGo (wpAny_pure (wpAny_bind (wpAny_bind (wpAny_onRaise ?_)))))
 show wpAny _ _ (do let u←Builtin.SmallTypes.nextOf (.ref i2);_) _ _ _
 refine wpAny_bind (nx_item (s:= {s with heap:=g3}) (it_at t2 fun o e=>s3.extBut _ o D.TOi2.symm (s2.extBut _ o D.i12.symm (s1.extBut _ o D.i2z e))) (sq_at q2 fun o e=>s3.extBut _ o D.l2TO (s2.extBut _ o D.l2i1 (s1.extBut _ o D.l2z e))) ey fun g4 u2 s4=>wpAny_pure ?_)
 have o4:IsPair g4 TO x b:=s4.extBut _ _ D.TOi2 o3
 refine wpAny_bind (wpAny_seqItems o4 rfl (wpAny_bind (wpAny_updateSeq_pair (s:= {s with heap:=g4}) o4 fun g5 o5 s5=> ?_)))
 have o5:IsPair g5 TO x y:=o5
 refine wpAny_bind (wpAny_letGo (wpAny_pure (wpAny_pure (wpAny_bind (wpAny_seqItems o5 rfl (wpAny_bind (wpAny_newTuple ?_)))))))
 have sz:g5.objs.size=s.heap.objs.size:=by rw [s5.1,s4.1,s3.1,s2.1,s1.1]
 have all:∀c o,c≠z→c≠TO→c≠i1→c≠i2→s.heap.get? c=some o→g5.get? c=some o:=fun c o c1 c2 c3 c4 e=>s5.extBut _ _ c2 (s4.extBut _ _ c4 (s3.extBut _ _ c2 (s2.extBut _ _ c3 (s1.extBut _ _ c1 e))))
 have y5:IsZip g5 z TI TO .ellipsis:=s5.extBut _ _ D.TOz.symm (s4.extBut _ _ D.i2z.symm (s3.extBut _ _ D.TOz.symm (s2.extBut _ _ D.i1z.symm y1)))
 have v1:k.It g5 i1 l1 (j+1):=it_at u1 fun o e=>s5.extBut _ o D.TOi1.symm (s4.extBut _ o D.i12 (s3.extBut _ o D.TOi1.symm e))
 have v2:k.It g5 i2 l2 (j+1):=it_at u2 fun o e=>s5.extBut _ o D.TOi2.symm e
 have lz:z < g5.objs.size:=Heap.lt_size y5
 show wpAny _ _ (do let u←Builtin.SmallTypes.ownedTupleHandOut (.ref z) (.ref g5.objs.size);_) _ _ _
 refine wpAny_bind ?_
 rw [Builtin.SmallTypes.ownedTupleHandOut]
 have y6:IsZip (g5.push {cls:= .type "tuple",data:= .seq #[x,y]}) z TI TO .ellipsis:=Heap.get?_push_of_some _ y5
 refine wpAny_bind (wpAny_setField_rec y6 (by simp) fun g7 y7 s7=> ?_)
 have y7:IsZip g7 z TI TO (rawInt g5.objs.size):=y7
 refine wpAny_setField_rec y7 (by simp) fun g8 y8 s8=> ?_
 have y8:IsZip g8 z TI TO (rawInt g5.objs.size):=y8
 have up:∀c o,c≠z→g5.get? c=some o→g8.get? c=some o:=fun c o n e=>s8.extBut _ _ n (s7.extBut _ _ n (Heap.get?_push_of_some _ e))
 have p8:IsPair g8 g5.objs.size x y:=s8.extBut _ _ (Nat.ne_of_gt lz) (s7.extBut _ _ (Nat.ne_of_gt lz) (Heap.get?_push_size _ rfl))
 have z8:g8.objs.size=g5.objs.size+1:=by rw [s8.1,s7.1,Heap.size_push]
 rw [sz] at y8 p8 z8
 refine wpAny_pure ⟨_,rfl,?_⟩
 show Q (.ref g5.objs.size) _
 rw [sz]
 exact q g8 y8 (up _ _ D.TOz o5) (it_at v1 fun o e=>up _ o D.i1z e) (it_at v2 fun o e=>up _ o D.i2z e) p8 z8 fun c o c1 c2 c3 c4 e=>up c o c1 (all c o c1 c2 c3 c4 e)
theorem zp_end {Q:Fin→Shared→Prop} (hh:A.handled=none) (D:ZipApart z TI TO i1 i2 l1 l2) (hz:IsZip s.heap z TI TO .none) (hI:IsPair s.heap TI (.ref i1) (.ref i2)) (hO:IsPair s.heap TO a b)
 (t1:k.It s.heap i1 l1 j) (t2:k.It s.heap i2 l2 j) (q1:k.Sq s.heap l1 xs) (q2:k.Sq s.heap l2 ys) (ends:xs[j]?=none)
 (q:∀h' e,(∀c o,c≠z→c≠TO→c≠i1→c≠i2→s.heap.get? c=some o→h'.get? c=some o)→(∃o,h'.get? e=some o∧o.cls= .type "StopIteration")→E (.ref e) {s with heap:=h'}):
 wpAny (model prog w) A (Builtin.«zip.__next__» ⟨[.ref z],[]⟩) Q E s:=by
 show wpAny _ _ (do let u←field (.ref z) 2;_) _ _ _
 refine wpAny_bind (wpAny_field hz rfl (x:= .bool false) rfl ?_)
 show wpAny _ _ (do let u←field (.ref z) 3;_) _ _ _
 refine wpAny_bind (wpAny_field hz rfl (x:= .ref TI) rfl (wpAny_bind (wpAny_seqItems hI rfl ?_)))
 show wpAny _ _ (do let u←Builtin.SmallTypes.ownedTupleIsFree (.ref z);_) _ _ _
 refine wpAny_bind ?_
 rw [Builtin.SmallTypes.ownedTupleIsFree]
 refine wpAny_bind (wpAny_field hz rfl (x:= .none) rfl (wpAny_pure ?_))
 simp only [if_true]
 refine wpAny_bind (wpAny_rule (wpAny_bind (wpAny_field hz rfl (x:= .ref TO) rfl (wpAny_bind (wpAny_setField_rec hz (by simp) fun g1 y1 s1=> ?_)))))
 have y1:IsZip g1 z TI TO .ellipsis:=y1
 refine wpAny_bind ?_
 simp only [List.forIn_cons,List.forIn_nil,List.zipIdx_nil,List.zipIdx_cons]
 refine wpAny_bind (wpAny_bind (wpAny_onRaise ?_))
 show wpAny _ _ (do let u←Builtin.SmallTypes.nextOf (.ref i1);_) _ _ _
 refine wpAny_bind (nx_end (s:= {s with heap:=g1}) hh (it_at t1 fun o e=>s1.extBut _ o D.i1z e) (sq_at q1 fun o e=>s1.extBut _ o D.l1z e) ends fun g2 e s2 he=> ?_)
 obtain ⟨oe,e1,e2⟩:=he
 have y2:IsZip g2 z TI TO .ellipsis:=s2 _ _ D.i1z.symm y1
 have ne:e≠z:=fun n=>by subst n;rw [y2] at e1;cases e1;simp at e2
 exact wpAny_setField_rec y2 (by simp) fun g3 _ s3=>q g3 e (fun c o c1 _ c3 _ n=>s3.extBut _ _ c1 (s2 _ _ c3 (s1.extBut _ _ c1 n))) ⟨oe,s3.extBut _ _ ne e1,e2⟩
theorem zn_item {Q:Option Value→Shared→Prop} (D:ZipApart z TI TO i1 i2 l1 l2) (hz:IsZip s.heap z TI TO .none) (hI:IsPair s.heap TI (.ref i1) (.ref i2)) (hO:IsPair s.heap TO a b)
 (t1:k.It s.heap i1 l1 j) (t2:k.It s.heap i2 l2 j) (q1:k.Sq s.heap l1 xs) (q2:k.Sq s.heap l2 ys) (ex:xs[j]?=some x) (ey:ys[j]?=some y)
 (q:∀h',IsZip h' z TI TO (rawInt s.heap.objs.size)→IsPair h' TO x y→k.It h' i1 l1 (j+1)→k.It h' i2 l2 (j+1)→IsPair h' s.heap.objs.size x y→h'.objs.size=s.heap.objs.size+1→
  (∀c o,c≠z→c≠TO→c≠i1→c≠i2→s.heap.get? c=some o→h'.get? c=some o)→Q (some (.ref s.heap.objs.size)) {s with heap:=h'}):
 wpAny (model prog w) A (pyNext (.ref z)) Q E s:=by
 have ty:s.TypeIs (.ref z) "zip":=⟨_,hz,rfl⟩
 rw [pyNext]
 exact wpAny_bind (wpAny_attempt (wpAny_callSpecial?_slot (name:=Str.ofString "__next__") ty F.slot_zip_next (wpAny_call_entry F.slot_zip_next ty F.entry_zip_next
  (zp_item D hz hI hO t1 t2 q1 q2 ex ey fun h' a1 a2 a3 a4 a5 a6 a7=>wpAny_pure (q h' a1 a2 a3 a4 a5 a6 a7)) (F.args_zip_next_1 _))))
theorem zn_end {Q:Option Value→Shared→Prop} (hh:A.handled=none) (D:ZipApart z TI TO i1 i2 l1 l2) (hz:IsZip s.heap z TI TO .none) (hI:IsPair s.heap TI (.ref i1) (.ref i2)) (hO:IsPair s.heap TO a b)
 (t1:k.It s.heap i1 l1 j) (t2:k.It s.heap i2 l2 j) (q1:k.Sq s.heap l1 xs) (q2:k.Sq s.heap l2 ys) (ends:xs[j]?=none)
 (q:∀h',(∀c o,c≠z→c≠TO→c≠i1→c≠i2→s.heap.get? c=some o→h'.get? c=some o)→Q none {s with heap:=h'}):wpAny (model prog w) A (pyNext (.ref z)) Q E s:=by
 have ty:s.TypeIs (.ref z) "zip":=⟨_,hz,rfl⟩
 rw [pyNext]
 refine wpAny_bind (wpAny_attempt (wpAny_callSpecial?_slot (name:=Str.ofString "__next__") ty F.slot_zip_next (wpAny_call_entry F.slot_zip_next ty F.entry_zip_next (zp_end hh D hz hI hO t1 t2 q1 q2 ends fun h' e up he=> ?_) (F.args_zip_next_1 _))))
 obtain ⟨o,e1,e2⟩:=he
 exact wpAny_bind (wpAny_isInstance (T:="StopIteration") (b:=true) ⟨o,e1,e2⟩ isSubtype_stop (wpAny_pure (q _ up)))
end
open PySem
abbrev zA (h:Heap) (l:Addr):Heap:=h.push {cls:= .type "tuple_iterator",data:= .fields #[.ref l, .int 0 0]}
abbrev zB (h:Heap) (l m:Addr):Heap:=zA (zA h l) m
noncomputable abbrev zC (h:Heap) (l m:Addr):Heap:=(zB h l m).push {cls:= .type "tuple",data:= .seq #[.ref h.objs.size, .ref (zA h l).objs.size]}
noncomputable abbrev zD (h:Heap) (l m:Addr):Heap:=(zC h l m).push {cls:= .type "tuple",data:= .seq #[.none, .none]}
noncomputable abbrev zE (h:Heap) (l m:Addr):Heap:=(zD h l m).push {cls:= .type "zip",data:= .fields #[.none, .bool false, .bool false, .ref (zB h l m).objs.size, .ref (zC h l m).objs.size]}
theorem new_zip (l m:Addr) (xs ys:Array Value):Meets (Builtin.«zip.__new__» ⟨[.type "zip", .ref l, .ref m],[]⟩) (fun _ R s=>s.heap.IsTuple l xs∧s.heap.IsTuple m ys∧
 R (.ok (.ret (.ref (zD s.heap l m).objs.size))) {s with heap:=zE s.heap l m}):=
 .of_wp fun prog w A R s h=>by
  obtain ⟨hp,g,d,tk,os⟩:=s
  obtain ⟨p1,p2,h⟩:=h
  have hsub:=sub_zip
  have p1:Heap.IsTuple (Shared.heap ⟨hp,g,d,tk,os⟩) l xs:=p1
  have p2:Heap.IsTuple (Shared.heap ⟨zA hp l,g,d,tk,os⟩) m ys:=Heap.IsTuple.at p2 fun o e=>Heap.get?_push_of_some _ e
  wp_walk using wpAny_pyIter_tuple p1,wpAny_pyIter_tuple p2
  exact ⟨_,rfl,h⟩
section
variable {prog:Program} {w:World} {A:Around} {E:Value→Shared→Prop} {s:Shared}
theorem call_zip {k:Src} {l m:Addr} {xs ys:Array Value} {Q:Value→Shared→Prop} (p1:k.Sq s.heap l xs) (p2:k.Sq s.heap m ys)
 (q:∀h',IsZip h' (s.heap.objs.size+4) (s.heap.objs.size+2) (s.heap.objs.size+3) .none→IsPair h' (s.heap.objs.size+2) (.ref s.heap.objs.size) (.ref (s.heap.objs.size+1))→
  IsPair h' (s.heap.objs.size+3) .none .none→k.It h' s.heap.objs.size l 0→k.It h' (s.heap.objs.size+1) m 0→h'.objs.size=s.heap.objs.size+5→
  (∀c o,s.heap.get? c=some o→h'.get? c=some o)→Q (.ref (s.heap.objs.size+4)) {s with heap:=h'}):
 wpAny (model prog w) A (call (.type "zip") [.ref l, .ref m]) Q E s:=by
 cases k
 · exact call_zip_2 p1 p2 q
 · refine callType_new F.called_zip (by decide) (F.typeCall_zip_2 _ _) (F.newCall_zip_2 _ _) (fun obj=>F.args_object_init_3 obj _ _) F.entry_zip_new (new_zip l m xs ys) ⟨p1,p2,?_⟩
   have a1:(zA s.heap l).objs.size=s.heap.objs.size+1:=Heap.size_push ..
   have a2:(zB s.heap l m).objs.size=s.heap.objs.size+2:=by rw [Heap.size_push,a1]
   have a3:(zC s.heap l m).objs.size=s.heap.objs.size+3:=by rw [Heap.size_push,a2]
   have a4:(zD s.heap l m).objs.size=s.heap.objs.size+4:=by rw [Heap.size_push,a3]
   have a5:(zE s.heap l m).objs.size=s.heap.objs.size+5:=by rw [Heap.size_push,a4]
   have b5:(zE s.heap l m).get? (zD s.heap l m).objs.size=some _:=Heap.get?_push_size _ rfl
   have b4:(zE s.heap l m).get? (zC s.heap l m).objs.size=some _:=Heap.get?_push_of_some _ (Heap.get?_push_size _ rfl)
   have b3:(zE s.heap l m).get? (zB s.heap l m).objs.size=some _:=Heap.get?_push_of_some _ (Heap.get?_push_of_some _ (Heap.get?_push_size _ rfl))
   have b2:(zE s.heap l m).get? (zA s.heap l).objs.size=some _:=Heap.get?_push_of_some _ (Heap.get?_push_of_some _ (Heap.get?_push_of_some _ (Heap.get?_push_size _ rfl)))
   have b1:(zE s.heap l m).get? s.heap.objs.size=some _:=Heap.get?_push_of_some _ (Heap.get?_push_of_some _ (Heap.get?_push_of_some _ (Heap.get?_push_of_some _ (Heap.get?_push_size _ rfl))))
   show _∧_
   rw [a2,a3,a4] at b5
   rw [a1,a2] at b3
   rw [a3] at b4
   rw [a1] at b2
   rw [a4]
   exact ⟨⟨_,b5,rfl⟩,q _ b5 b3 b4 ⟨_,b1,rfl,rfl⟩ ⟨_,b2,rfl,rfl⟩ a5 fun c o e=>Heap.get?_push_of_some _ (Heap.get?_push_of_some _ (Heap.get?_push_of_some _ (Heap.get?_push_of_some _ (Heap.get?_push_of_some _ e))))⟩
end
end Zp
namespace L2
open PySem PySem.Spec PyProof.Rows Zp
def Sqk (k:Src) (K:PySem.W.Frag) (H:Hp) (a:Addr) (xs:List V):Prop:=match k with
 | .lst=>SqL K H a xs
 | .tup=>SqT K H a xs
theorem Inv.sqk {X:Cx} {pins:List (Addr×Obj)} {σ:St} {H:Hp} {s:Shared} {k:Src} {a:Addr} {xs:List V} (I:Inv X pins σ H s) (h:Sqk k X.K H a xs):∃its:List Value,Vals xs its∧k.Sq s.heap a its.toArray∧xs.length≤sizeLine:=by
 cases k
 · obtain ⟨its,r,p,z⟩:=I.list h
   exact ⟨its,r,p.isList,z⟩
 · obtain ⟨its,r,p,z⟩:=I.tuple h
   exact ⟨its,r,p,z⟩
theorem Inv.sqk_inj {X:Cx} {pins:List (Addr×Obj)} {σ:St} {H:Hp} {s:Shared} {k:Src} {a:Addr} {xs ys:List V} (I:Inv X pins σ H s) (h:Sqk k X.K H a xs) (h':Sqk k X.K H a ys):xs=ys:=by
 cases k
 · exact I.list_inj h h'
 · exact I.tuple_inj h h'
def Itz (k:Src) (K:PySem.W.Frag) (a b:Addr):It:=
 ⟨fun i H=>∃xs ys x y,Sqk k K H a xs∧Sqk k K H b ys∧xs[i]?=some x∧ys[i]?=some y,
  fun i H v H'=>∃T x y,v= .ref T∧H T=none∧H'=upd H T (.tup [x,y])∧(∀xs,Sqk k K H a xs→xs[i]?=some x)∧(∀ys,Sqk k K H b ys→ys[i]?=some y)∧i < sizeLine,
  fun i H=>∃xs ys,Sqk k K H a xs∧Sqk k K H b ys∧xs.length≤i⟩
section
variable {X:Cx} {pins:List (Addr×Obj)} {σ:St} {H:Hp} {s:Shared}
theorem Inv.turneds {h':Heap} {t':Nat} {fp:List Addr} (I:Inv X pins σ H s) (k:∀b o,b∉fp→s.heap.get? b=some o→h'.get? b=some o) (hf:∀b∈fp,FpOk X pins H b):Inv X pins σ H {s with heap:=h',toks:=t'}:=by
 refine I.call' (s':= {s with heap:=h',toks:=t'}) (ch:=fp) rfl ⟨fun b o e _ _ hx=>k b o hx e,fun b o e _ _ hx=>⟨o.slots,k b o hx e⟩,fun _ _ _ n _=>n,fun b o e hx=>⟨o,k b o hx e⟩,fun _ _ e=>e,fun _ _ _ e=>e,fun b ps e=>⟨#[],by rw [e];simp⟩⟩ ?_ I.bare fun b hb=> ?_
 · intro b o e
   have nb:∀c u,H c=some u→c∉fp:=fun c u e z=>by rw [(hf c z).1] at e;cases e
   refine (I.hok b o e).stay (fun c v hc q=>k c v ?_ q) (fun _ q=>q) fun _ _ q=>q
   rcases hc with z|z
   · rw [z];exact nb b o e
   · exact nb c _ z
 · obtain ⟨g0,g1,g2,g3,g4,g5⟩:=hf b hb
   exact ⟨g3,g1,g4,g5⟩
end
theorem turn_zip {P:Program} {w:World} {K:PySem.W.Frag} {es:List Expr} {kk:Nat} {pos:Pos} {k:Src} (a b z TI TO i1 i2:Addr) (hd: [z,TI,TO,i1,i2].Nodup):
 Turn P w K (.Tuple es kk pos) (Itz k K a b) [z,TI,TO,i1,i2] z (fun i h=>IsZip h z TI TO .none∧IsPair h TI (.ref i1) (.ref i2)∧(∃u v,IsPair h TO u v)∧k.It h i1 a i∧k.It h i2 b i∧a∉ [z,TI,TO,i1,i2]∧b∉ [z,TI,TO,i1,i2]) where
 mem:=by simp
 obj:=fun i h ⟨h1,h2,⟨u,v,h3⟩,h4,h5,_⟩ c hc=>by
  simp only [List.mem_cons,List.not_mem_nil,or_false] at hc
  rcases hc with rfl|rfl|rfl|rfl|rfl
  · exact ⟨_,h1,fun v e=>by cases (show Data.fields _=Data.cell v from e)⟩
  · exact ⟨_,h2,fun v e=>by cases (show Data.seq _ _=Data.cell v from e)⟩
  · exact ⟨_,h3,fun v e=>by cases (show Data.seq _ _=Data.cell v from e)⟩
  · exact it_obj h4
  · exact it_obj h5
 keep:=fun i h h' ⟨h1,h2,⟨u,v,h3⟩,h4,h5,h6⟩ kp=>⟨kp z (by simp) _ h1,kp TI (by simp) _ h2,⟨u,v,kp TO (by simp) _ h3⟩,it_at h4 fun o e=>kp i1 (by simp) o e,it_at h5 fun o e=>kp i2 (by simp) o e,h6⟩
 item:=by
  intro X hP hw hK hc i pins s σ H E I hf ⟨h1,h2,⟨u0,v0,h3⟩,h4,h5,h6,h7⟩ hg
  subst hP hw hK
  obtain ⟨xs,ys,x,y,g1,g2,g3,g4⟩:=hg
  obtain ⟨as,r1,p1,z1⟩:=I.sqk g1
  obtain ⟨bs,r2,p2,z2⟩:=I.sqk g2
  obtain ⟨u,e1,q1⟩:=r1.get g3
  obtain ⟨v,e2,q2⟩:=r2.get g4
  simp only [List.nodup_cons,List.mem_cons,List.not_mem_nil,or_false,not_or,List.nodup_nil,and_true,not_false_eq_true] at hd h6 h7
  obtain ⟨⟨d1,d2,d3,d4⟩,⟨d5,d6,d7⟩,⟨d8,d9⟩,d10⟩:=hd
  have D:ZipApart z TI TO i1 i2 a b:=⟨Ne.symm d1,Ne.symm d2,Ne.symm d3,Ne.symm d4,d5,d6,d7,d8,d9,d10,h6.1,h6.2.2.1,h6.2.2.2.1,h6.2.2.2.2,h7.1,h7.2.2.1,h7.2.2.2.1,h7.2.2.2.2⟩
  refine zn_item D h1 h2 h3 h4 h5 p1 p2 (x:=u) (y:=v) (by simpa using e1) (by simpa using e2) fun h' a1 a2 a3 a4 a5 a6 up=>⟨_,rfl,?_⟩
  refine wpAny_letOwnedTupleGo_zip (s:= {s with heap:=h'}) a1 fun h'' b1 sb=> ?_
  have T:=s.heap.objs.size
  have fr:H s.heap.objs.size=none:=I.hok.fresh (Nat.le_refl _)
  have lt:∀ {c:Addr} {o:Obj},s.heap.get? c=some o→c≠s.heap.objs.size:=fun e=>Nat.ne_of_lt (Heap.lt_size e)
  have all:∀c o,c∉ [z,TI,TO,i1,i2]→s.heap.get? c=some o→h''.get? c=some o:=fun c o n e=>by
   simp only [List.mem_cons,List.not_mem_nil,or_false,not_or] at n
   exact sb.extBut c o n.1 (up c o n.1 n.2.2.1 n.2.2.2.1 n.2.2.2.2 e)
  have nz:s.heap.objs.size≠z:=(lt h1).symm
  have pT:IsPair h'' s.heap.objs.size u v:=sb.extBut _ _ nz a5
  have fp:∀b∈ [z,TI,TO,i1,i2],upd H s.heap.objs.size (.tup [x,y]) b=none:=fun c hc=>by
   have nc:c≠s.heap.objs.size:=by
    simp only [List.mem_cons,List.not_mem_nil,or_false] at hc
    rcases hc with rfl|rfl|rfl|rfl|rfl
    · exact lt h1
    · exact lt h2
    · exact lt h3
    · obtain ⟨o,e,_⟩:=it_obj h4
      exact lt e
    · obtain ⟨o,e,_⟩:=it_obj h5
      exact lt e
   rw [upd_ne nc]
   exact (hf c hc).1
  refine ⟨.ref s.heap.objs.size,upd H s.heap.objs.size (.tup [x,y]),?_,rfl,⟨_,x,y,rfl,fr,rfl,fun zs hz=> ?_,fun zs hz=> ?_,Nat.lt_of_lt_of_le (List.getElem?_eq_some_iff.mp g3).1 z1⟩,⟨b1,?_,⟨u,v,?_⟩,?_,?_,?_,?_⟩,fp⟩
  ·
   refine I.call' (s':= {s with heap:=h''}) (ch:= [z,TI,TO,i1,i2]) rfl ⟨fun b o e _ _ hx=>all b o hx e,fun b o e _ _ hx=>⟨o.slots,all b o hx e⟩,fun c o e n _=>by rw [upd_ne (lt e)];exact n,fun b o e hx=>⟨o,all b o hx e⟩,fun c zs e=>by rw [upd_ne (ne_of_none e fr)];exact e,fun c o zs e=>by rw [upd_ne (ne_of_none e fr)];exact e,fun c ps e=>⟨#[],by rw [upd_ne (ne_of_none e fr),e];simp⟩⟩ ?_ I.bare fun b hb=> ?_
   · intro c o e
     by_cases hcT:c=s.heap.objs.size
     · subst hcT
       rw [upd_same] at e
       cases e
       exact ⟨by show 2≤sizeLine;decide,[u,v], .cons q1 (.cons q2 .nil),⟨_,pT,rfl,_,rfl⟩⟩
     · rw [upd_ne hcT] at e
       have nb:∀c u,H c=some u→c∉ [z,TI,TO,i1,i2]:=fun c u e hz=>by rw [(hf c hz).1] at e;cases e
       refine (I.hok c o e).stay (fun d v hc q=>all d v ?_ q) (fun d q=> ?_) fun d m q=> ?_
       · rcases hc with hz|hz
         · rw [hz];exact nb c o e
         · exact nb d _ hz
       · rw [upd_ne (ne_of_none q fr)];exact q
       · rw [upd_ne (ne_of_none q fr)];exact q
   · obtain ⟨g0,g1,g2,g3,g4,g5⟩:=hf b hb
     exact ⟨g3,g1,g4,g5⟩
  · rw [I.sqk_inj hz g1];exact g3
  · rw [I.sqk_inj hz g2];exact g4
  · exact sb.extBut _ _ D.TIz (up _ _ D.TIz D.TITO D.TIi1 D.TIi2 h2)
  · exact sb.extBut _ _ D.TOz a2
  · exact it_at a3 fun o e=>sb.extBut _ o D.i1z e
  · exact it_at a4 fun o e=>sb.extBut _ o D.i2z e
  · simpa using h6
  · simpa using h7
 done:=by
  intro X hP hw hK hc i pins s σ H E I hf ⟨h1,h2,⟨u0,v0,h3⟩,h4,h5,h6,h7⟩ hg
  subst hP hw hK
  obtain ⟨xs,ys,g1,g2,g3⟩:=hg
  obtain ⟨as,r1,p1,z1⟩:=I.sqk g1
  obtain ⟨bs,r2,p2,z2⟩:=I.sqk g2
  have hl:=r1.length
  simp only [List.nodup_cons,List.mem_cons,List.not_mem_nil,or_false,not_or,List.nodup_nil,and_true,not_false_eq_true] at hd h6 h7
  obtain ⟨⟨d1,d2,d3,d4⟩,⟨d5,d6,d7⟩,⟨d8,d9⟩,d10⟩:=hd
  have D:ZipApart z TI TO i1 i2 a b:=⟨Ne.symm d1,Ne.symm d2,Ne.symm d3,Ne.symm d4,d5,d6,d7,d8,d9,d10,h6.1,h6.2.2.1,h6.2.2.2.1,h6.2.2.2.2,h7.1,h7.2.2.1,h7.2.2.2.1,h7.2.2.2.2⟩
  refine zn_end (I.ok.hd hc) D h1 h2 h3 h4 h5 p1 p2 (by simp;omega) fun h' up=>⟨rfl,I.turneds (t':=s.toks) (fun c o n e=> ?_) hf⟩
  simp only [List.mem_cons,List.not_mem_nil,or_false,not_or] at n
  exact up c o n.1 n.2.2.1 n.2.2.2.1 n.2.2.2.2 e
 self:=fun _ _ _ _ _ st h=>wpAny_pyIter_zip st.1 h
section
variable {X:Cx}
end
open PySem PySem.Spec PyProof.Rows Zp
section
variable {X:Cx}
end
section
variable {X:Cx}
theorem bools_are:∀ {bs:List Bool} {us:List Value},Vals (bs.map V.bl) us→us=bs.map Value.bool
 | [],_,r=>by cases r;rfl
 |b::bs,_,r=>by
  rw [List.map_cons] at r
  cases r with
  |cons r1 r2=>rw [bools_are r2,(show _=Value.bool b from r1)];rfl
theorem call_allT (hc:X.calm=true):CallR X (.builtin "all") (fun xs H Q=>∃(p:Addr) (bs:List Bool),xs= [.ref p]∧SqL X.K H p (bs.map V.bl)∧Q (.bl (bs.all id)) H):=by
 intro pins s σ H xs us Q I r h
 obtain ⟨p,bs,rfl,hp,q⟩:=h
 obtain ⟨u,rfl,ru⟩:=vals1 r
 cases ru
 obtain ⟨its,rv,pl,_⟩:=I.list hp
 have e:=bools_are rv
 subst e
 have hlt:p < s.heap.objs.size:=by obtain ⟨_,e,_⟩:=pl.isList;exact Heap.lt_size e
 refine call_all_walk (wpAny_pyIter_list pl.isList ⟨s.heap.objs.size,[s.heap.objs.size,p],[s.heap.objs.size],(bs.map Value.bool).toArray.size,_,_,fun i=>(bs[i]?).getD true,rfl,Walks.list (A:=X.A.in1) (I.ok.hd hc) _ p (Nat.ne_of_lt hlt) _,
  ⟨⟨_,Heap.get?_push_size _ rfl,rfl,rfl⟩,pl.isList.push _⟩,fun i v s' Q' E' hP hQ=> ?_,fun h' tk hk=> ?_⟩)
 · have hP':(bs.map Value.bool)[i]?=some v:=by simpa using hP
   rw [List.getElem?_map] at hP'
   obtain ⟨b,e,rfl⟩:=Option.map_eq_some_iff.mp hP'
   dsimp only at hQ
   rw [e] at hQ
   exact wpAny_truthy_bool hQ
 · have e:((List.range (bs.map Value.bool).toArray.size).all fun i=>(bs[i]?).getD true)=bs.all id:=by
    rw [List.size_toArray,List.length_map]
    exact PyProof.Rows.LSm.range_all bs
   rw [e]
   refine ⟨.bl _,H,I.kept (t':=tk) fun b x ex=>hk b x (fun hm=> ?_) (Heap.get?_push_of_some _ ex),rfl,q⟩
   rw [List.mem_singleton.mp hm] at ex
   exact Nat.lt_irrefl _ (Heap.lt_size ex)
end
end L2
namespace Tre
open PySem L2 Zp
def Sm (H:Hp):Nat→V→V→Prop
 |0,_,_=>False
 |n+1,v,w=>(∃x,v= .str x∧w= .str x)∨(∃i,v= .int i∧w= .int i)∨(∃b,v= .bl b∧w= .bl b)∨(v= .non∧w= .non)∨
  ∃a b xs ys,v= .ref a∧w= .ref b∧((H a=some (.lst xs)∧H b=some (.lst ys))∨(H a=some (.tup xs)∧H b=some (.tup ys)))∧ys.length=xs.length∧∀(j:Nat) x y,xs[j]?=some x→ys[j]?=some y→Sm H n x y
theorem Sm.mono {H H':Hp} (s:Same H H'):∀ {n:Nat} {v w:V},Sm H n v w→Sm H' n v w
 |0,_,_,h=>h.elim
 |n+1,v,w,h=>by
  rcases h with h|h|h|h|⟨a,b,xs,ys,e1,e2,h1,h2,h4⟩
  · exact .inl h
  · exact .inr (.inl h)
  · exact .inr (.inr (.inl h))
  · exact .inr (.inr (.inr (.inl h)))
  · refine .inr (.inr (.inr (.inr ⟨a,b,xs,ys,e1,e2,?_,h2,fun j x y q1 q2=>Sm.mono s (h4 j x y q1 q2)⟩)))
    rcases h1 with ⟨q1,q2⟩|⟨q1,q2⟩
    · exact .inl ⟨s _ _ q1,s _ _ q2⟩
    · exact .inr ⟨s _ _ q1,s _ _ q2⟩
open PySem PySem.Spec PyProof.Rows L2
section
variable {X:Cx}
end
open PySem PySem.Spec PyProof.Rows L2
section
variable {X:Cx}
theorem beq_t (b:Bool):(b==true)=b:=by cases b<;>rfl
theorem beq_f (b:Bool):(b==false)= !b:=by cases b<;>rfl
end
end Tre
namespace L2
open PySem PySem.Spec PyProof.Rows
section
variable {X:Cx}
end
end L2
namespace Wd
open PySem L2 Tre Mth Dj
def FlG (kF:List (Key×V)):Prop:=∀x v,valV kF (.inr x)=some v→∃b,v=V.bl b
def VaG (H:Hp) (kV:List (Key×V)):Prop:=∀x v,valV kV (.inr x)=some v→∃p,TrAt H v (frT p)∧Gv p
def CaG (H:Hp) (kC:List Ent):Prop:=∀k v,valJ kC k=some v→∃p,TrAt H v (frT p)∧Gv p
structure WS (P:Program) (w:World) (K:PySem.W.Frag) (H:Hp) (F D C:Addr) (n:Nat):Prop where
 ne:F≠D
 fl:∃kF,H F=some (.dK kF)∧FlG kF∧kF.length≤n
 va:∃kV,H D=some (.dK kV)∧VaG H kV∧kV.length≤n
 ca:∃kC,DJ P w K H C kC∧CaG H kC∧kC.length≤n
theorem VaG.mono {H H':Hp} {kV:List (Key×V)} (k:Kd H H') (h:VaG H kV):VaG H' kV:=fun x v e=>by
 obtain ⟨p,h1,h2⟩:=h x v e
 exact ⟨p,h1.mono k,h2⟩
theorem CaG.mono {H H':Hp} {kC:List Ent} (k:Kd H H') (h:CaG H kC):CaG H' kC:=fun x v e=>by
 obtain ⟨p,h1,h2⟩:=h x v e
 exact ⟨p,h1.mono k,h2⟩
section
variable {P:Program} {w:World} {K:PySem.W.Frag} {H H':Hp} {F D C:Addr} {n:Nat}
theorem WS.kd (h:WS P w K H F D C n) (k:Kd H H') (hs:∀a o,a=F∨a=D∨a=C→H a=some o→H' a=some o):WS P w K H' F D C n:=by
 obtain ⟨kF,f1,f2,f3⟩:=h.fl
 obtain ⟨kV,v1,v2,v3⟩:=h.va
 obtain ⟨kC,c1,c2,c3⟩:=h.ca
 exact ⟨h.ne,⟨kF,hs _ _ (.inl rfl) f1,f2,f3⟩,⟨kV,hs _ _ (.inr (.inl rfl)) v1,v2.mono k,v3⟩,⟨kC,c1.kd k (hs _ _ (.inr (.inr rfl)) c1.at_),c2.mono k,c3⟩⟩
theorem WS.same (h:WS P w K H F D C n) (s:Same H H'):WS P w K H' F D C n:=h.kd (Kd.of_same s) fun a o _ e=>s a o e
theorem WS.mono {m:Nat} (h:WS P w K H F D C n) (hn:n≤m):WS P w K H F D C m:=by
 obtain ⟨kF,f1,f2,f3⟩:=h.fl
 obtain ⟨kV,v1,v2,v3⟩:=h.va
 obtain ⟨kC,c1,c2,c3⟩:=h.ca
 exact ⟨h.ne,⟨kF,f1,f2,by omega⟩,⟨kV,v1,v2,by omega⟩,⟨kC,c1,c2,by omega⟩⟩
theorem WS.nFC (h:WS P w K H F D C n):F≠C∧D≠C:=by
 obtain ⟨kF,f1,f2,f3⟩:=h.fl
 obtain ⟨kV,v1,v2,v3⟩:=h.va
 obtain ⟨kC,c1,c2,c3⟩:=h.ca
 exact ⟨fun z=>(by rw [z,c1.at_] at f1;cases f1),fun z=>(by rw [z,c1.at_] at v1;cases v1)⟩
theorem WS.putF {kF:List (Key×V)} {x:Str} {b:Bool} (h:WS P w K H F D C n) (e:H F=some (.dK kF)):WS P w K (upd H F (.dK (putK kF (.inr x) (.bl b)))) F D C (n+1):=by
 obtain ⟨kF',f1,f2,f3⟩:=h.fl
 rw [e] at f1
 cases f1
 obtain ⟨kV,v1,v2,v3⟩:=h.va
 obtain ⟨kC,c1,c2,c3⟩:=h.ca
 have k:=Kd.updK (o:= .dK (putK kF (.inr x) (.bl b))) e
 refine ⟨h.ne,⟨_,upd_same,fun y v q=> ?_,?_⟩,⟨kV,(upd_ne h.ne.symm).trans v1,v2.mono k,by omega⟩,⟨kC,c1.kd k ((upd_ne h.nFC.1.symm).trans c1.at_),c2.mono k,by omega⟩⟩
 · rw [valV_put] at q
   split at q
   · cases q;exact ⟨b,rfl⟩
   · exact f2 y v q
 · have:=length_putK kF (.inr x) (.bl b)
   omega
end
def WAt (P:Program) (w:World) (K:PySem.W.Frag) (H:Hp) (v:V) (W:Wld):Prop:=∃r F D C kF kV kC,v= .ref r∧H r=some (.tup [.ref F, .ref D, .ref C])∧
 (H F=some (.dK kF)∧∀x,(valV kF (.inr x)).getD (.bl false)= .bl (W.fl x))∧
 (H D=some (.dK kV)∧∀x,(∃u,valV kV (.inr x)=some u∧TrAt H u (frT (W.va x)))∨(valV kV (.inr x)=none∧W.va x=zero))∧
 (DJ P w K H C kC∧∀k,(∃u,valJ kC k=some u∧TrAt H u (frT (W.ca k)))∨(valJ kC k=none∧W.ca k=zero))
section
variable {P:Program} {w:World} {K:PySem.W.Frag} {H H':Hp} {F D C r:Addr} {n:Nat} {v:V} {W:Wld}
theorem WS.at_ (h:WS P w K H F D C n) (e:H r=some (.tup [.ref F, .ref D, .ref C])):∃W:Wld,W.Ok∧WAt P w K H (.ref r) W:=by
 obtain ⟨kF,f1,f2,f3⟩:=h.fl
 obtain ⟨kV,v1,v2,v3⟩:=h.va
 obtain ⟨kC,c1,c2,c3⟩:=h.ca
 have hF:∀x:Str,∃b,(valV kF (.inr x)).getD (.bl false)= .bl b:=fun x=>by
  cases q:valV kF (.inr x) with
  |none=>exact ⟨false,rfl⟩
  |some v=>
   obtain ⟨b,rfl⟩:=f2 x v q
   exact ⟨b,rfl⟩
 have hV:∀x:Str,∃p,Gv p∧((∃u,valV kV (.inr x)=some u∧TrAt H u (frT p))∨(valV kV (.inr x)=none∧p=zero)):=fun x=>by
  cases q:valV kV (.inr x) with
  |none=>exact ⟨zero,gv_zero, .inr ⟨rfl,rfl⟩⟩
  |some v=>
   obtain ⟨p,h1,h2⟩:=v2 x v q
   exact ⟨p,h2, .inl ⟨v,rfl,h1⟩⟩
 have hC:∀k:List Tk.KT,∃p,Gv p∧((∃u,valJ kC k=some u∧TrAt H u (frT p))∨(valJ kC k=none∧p=zero)):=fun k=>by
  cases q:valJ kC k with
  |none=>exact ⟨zero,gv_zero, .inr ⟨rfl,rfl⟩⟩
  |some v=>
   obtain ⟨p,h1,h2⟩:=c2 k v q
   exact ⟨p,h2, .inl ⟨v,rfl,h1⟩⟩
 exact ⟨⟨fun x=>Classical.choose (hF x),fun x=>Classical.choose (hV x),fun k=>Classical.choose (hC k)⟩,⟨fun x=>(Classical.choose_spec (hV x)).1,fun k=>(Classical.choose_spec (hC k)).1⟩,
  r,F,D,C,kF,kV,kC,rfl,e,⟨f1,fun x=>Classical.choose_spec (hF x)⟩,⟨v1,fun x=>(Classical.choose_spec (hV x)).2⟩,⟨c1,fun k=>(Classical.choose_spec (hC k)).2⟩⟩
theorem WAt.kd (h:WAt P w K H v W) (k:Kd H H') (hs:∀a o,(∀xs,o≠ .lst xs)→H a=some o→H' a=some o):WAt P w K H' v W:=by
 obtain ⟨r,F,D,C,kF,kV,kC,e,h1,⟨h2,h3⟩,⟨h4,h5⟩,h6,h7⟩:=h
 refine ⟨r,F,D,C,kF,kV,kC,e,k.tup _ _ h1,⟨hs _ _ (fun _ z=>by cases z) h2,h3⟩,⟨hs _ _ (fun _ z=>by cases z) h4,fun x=> ?_⟩,h6.kd k (hs _ _ (fun _ z=>by cases z) h6.at_),fun j=> ?_⟩
 · rcases h5 x with ⟨u,e1,e2⟩|q
   · exact .inl ⟨u,e1,e2.mono k⟩
   · exact .inr q
 · rcases h7 j with ⟨u,e1,e2⟩|q
   · exact .inl ⟨u,e1,e2.mono k⟩
   · exact .inr q
theorem WAt.same (h:WAt P w K H v W) (s:Same H H'):WAt P w K H' v W:=h.kd (Kd.of_same s) fun a o _ e=>s a o e
end
def FrAt (K:PySem.W.Frag) (H:Hp) (v:V) (p:Fr):Prop:=∃r,v= .ref r∧SqX K H r [.int p.1, .int p.2]
def FrsAt (K:PySem.W.Frag) (H:Hp):List V→List Fr→Prop
 |vs,[]=>vs= []
 |vs,p::ps=>∃v r,vs=v::r∧FrAt K H v p∧FrsAt K H r ps
theorem FrAt.mono {K:PySem.W.Frag} {H H':Hp} {v:V} {p:Fr} (d:Kd H H') (h:FrAt K H v p):FrAt K H' v p:=by
 obtain ⟨r,e,s⟩:=h
 exact ⟨r,e,s.mono d⟩
theorem FrsAt.mono {K:PySem.W.Frag} {H H':Hp} (d:Kd H H'):∀ {vs:List V} {ps:List Fr},FrsAt K H vs ps→FrsAt K H' vs ps
 |vs,[],h=>h
 |vs,p::ps,h=>by
  obtain ⟨v,r,e,h1,h2⟩:=h
  exact ⟨v,r,e,h1.mono d,FrsAt.mono d h2⟩
theorem FrsAt.snoc {K:PySem.W.Frag} {H:Hp} {u:V} {q:Fr} (hu:FrAt K H u q):∀ {vs:List V} {ps:List Fr},FrsAt K H vs ps→FrsAt K H (vs++ [u]) (ps++ [q])
 |vs,[],h=>by
  cases (show vs= [] from h)
  exact ⟨u,[],rfl,hu,rfl⟩
 |vs,p::ps,h=>by
  obtain ⟨v,r,rfl,h1,h2⟩:=h
  exact ⟨v,r++ [u],rfl,h1,FrsAt.snoc hu h2⟩
end Wd
namespace L2
open PySem Tre Wd
theorem seq_any {t rest:TS} {Z:Ends} {σ:L2.St} {H:Hp} (R:L2.St→Hp→Prop) (hR:∀σ' H',R σ' H'→rest Z σ' H') (h:∀nx:L2.St→Hp→Prop,(∀σ' H',R σ' H'→nx σ' H')→t {Z with nx:=nx} σ H):tSeq t rest Z σ H:=h _ hR
theorem gname_of {i:Nat} {v:V} {σ:L2.St} {H:Hp} {k:L2.St→Hp→Prop} (h:k (σ.set i (some v)) H):gName i v σ H k:=h
theorem tnx_of {Z:Ends} {σ:L2.St} {H:Hp} (h:Z.nx σ H):tNext Z σ H:=h
theorem tset_cb {r:List V→Hp→VK→Prop} {te:TE} {i:Nat} {u:TS} {Z:Ends} {σ:L2.St} {H:Hp} (h:te σ H fun v H1=>r [v] H1 fun x H2=>gName i x σ H2 (u Z)):tSeq (tAsg (tCB r (tCons te tNil)) (gName i)) u Z σ H:=h
theorem tret_cb {r:List V→Hp→VK→Prop} {te:TE} {Z:Ends} {σ:L2.St} {H:Hp} (h:te σ H fun v H1=>r [v] H1 Z.rt):tRet (tCB r (tCons te tNil)) Z σ H:=h
theorem tret_of {te:TE} {Z:Ends} {σ:L2.St} {H:Hp} (h:te σ H Z.rt):tRet te Z σ H:=h
theorem at_str {H:Hp} {x:Str}:TrAt H (.str x) (.str x):=by unfold TrAt;rfl
theorem at_tup {H:Hp} {r:Addr} {vs:List V} {ts:List Tr} (h:H r=some (.tup vs)) (h1:TrsAt H vs ts):TrAt H (.ref r) (.tup ts):=by
 unfold TrAt
 exact ⟨r,vs,rfl,h,h1⟩
theorem at_pair {H:Hp} {r:Addr} {x y:V} {a b:Tr} (h:H r=some (.tup [x,y])) (h1:TrAt H x a) (h2:TrAt H y b):TrAt H (.ref r) (.tup [a,b]):=by
 unfold TrAt
 exact ⟨r,_,rfl,h, .cons h1 (.cons h2 .nil)⟩
theorem at_ints {H:Hp} {r:Addr} {a b:Int} (h:H r=some (.tup [.int a, .int b])):TrAt H (.ref r) (.tup [.int a, .int b]):=at_pair h (by unfold TrAt;rfl) (by unfold TrAt;rfl)
theorem depths_le {n:Nat}:∀ {ts:List Tr},(∀t∈ts,t.depth≤n)→Trs.depth ts≤n
 | [],_=>by unfold Trs.depth;omega
 |t::ts,h=>by
  unfold Trs.depth
  have h1:=h t List.mem_cons_self
  have h2:=depths_le fun u m=>h u (List.mem_cons_of_mem t m)
  omega
end L2
namespace K81
open PySem L2 Mth Tre
theorem SqL.same {K:PySem.W.Frag} {H H':Hp} {a:Addr} {xs:List V} (s:Same H H') (h:SqL K H a xs):SqL K H' a xs:=h.imp (fun x=>x.imp (fun e=>s _ _ e) fun ⟨o,e⟩=>⟨o,s _ _ e⟩) id
theorem at_ixs {ns:List Int} {i:Int} (h0:0≤i) (h1:i < ns.length):∃(z:Int),atI (ns.map V.int) i=some (.int z):=by
 obtain ⟨j,rfl⟩:∃j:Nat,i=(j:Int):=⟨i.toNat,by omega⟩
 have hj:j < ns.length:=by omega
 exact ⟨ns[j],atI_nat (by rw [List.getElem?_map,List.getElem?_eq_getElem hj];rfl)⟩
theorem big_of {m:Int} (h0:0≤m) (h:m≤1000000000000):Big m:=by
 unfold Big
 have:(1000000000000:Nat) < 2^8000:=by decide +kernel
 exact Nat.lt_of_le_of_lt (by omega) this
section
variable {P:Program} {w:World} {K:PySem.W.Frag} {mg:Str→Option Value} {base:Heap}
def spDraw (K:PySem.W.Frag):Sp:=fun vs H Q _=>∃(a:Addr) (ns:List Int) (kk m:Int),vs= [.ref a, .int kk, .int m]∧SqL K H a (ns.map V.int)∧ns.length≤63∧0≤kk∧kk≤100000∧0 < m∧∀r:Int,0≤r→r < m→Q (.int r) H
theorem scD:FnScope ["_law_script","_law_k","_law_many","_law_cell","_law_seed"] ["_law_script","_law_k","_law_many"] (defScope sDraw):=⟨rfl,rfl,rfl,by decide +kernel,rfl,by decide +kernel,by decide +kernel⟩
theorem ok_draw {f:Addr} {fd:FuncData} (F:Fun K "_law_draw" "_law_draw" sDraw f fd) (B:Blt mg):FnOk P w K mg base CX0 1 f fd ["_law_script","_law_k","_law_many"] (spDraw K):=by
 refine F.ok scD (fun vs H Q E h=> ?_) (fun cdv A outer s H vs Q E hr h=> ?_)
 · obtain ⟨a,ns,kk,m,rfl,_⟩:=h
   rfl
 obtain ⟨a,ns,kk,m,rfl,hS,h63,k0,k5,m0,k⟩:=h
 refine ⟨_,pss_cons (ps_set (i:=3) scD.nd rfl (Or.inl rfl) (pe_ifExp (pt_cmpR op_gt (pe_callB call_len_seq rfl B.le PySem.boot_len (pa_cons (pv 0) pa_nil)) pe_int (nomark _))
  (pe_ix ix_list (pv 0) (pe_op op_mod (pv 1) (pe_callB call_len_seq rfl B.le PySem.boot_len (pa_cons (pv 0) pa_nil))) fun _ _=>rfl) pe_int))
  (pss_cons (ps_if (PW.pt (pw_and (pt_cmpR op_gt (pe_callB call_len_seq rfl B.le PySem.boot_len (pa_cons (pv 0) pa_nil)) pe_int (nomark _)) (pw_and1 (pt_cmpR op_eq (pe_op op_mod (pe_ix ix_list (pv 0) pe_int fun _ _=>rfl) pe_int) pe_int (nomark _)))))
   (pss_one (ps_ret (pe_op op_mod (pe_op op_mod (pe_op op_shr (pv 3) (pe_op op_add (pe_op op_mul pe_int (pe_op op_fdiv (pv 1) (pe_callB call_len_seq rfl B.le PySem.boot_len (pa_cons (pv 0) pa_nil)))) pe_int)) pe_int) (pv 2)))) pss_nil)
  (pss_cons (ps_set (i:=4) scD.nd rfl (Or.inl rfl) (pe_op op_add (pe_op op_add (pe_op op_mod (pv 3) pe_int) (pe_op op_mulB (pe_op op_mul pe_int (pv 1)) (pv 1))) pe_int))
  (pss_one (ps_ret (pe_op op_mod (pe_op op_mod (pe_op op_mul (pe_op op_mod (pe_op op_mul (pv 4) pe_int) pe_int) pe_int) pe_int) (pv 2)))))),?_⟩
 by_cases z0:ns.length=0
 · have e0:ns= []:=List.length_eq_zero_iff.mp z0
   subst e0
   refine ⟨_,rfl,a,_,rfl, .inl hS,_,0,rfl,rfl,_,rfl,?_⟩
   refine iteF ?_
   refine ⟨_,rfl,a,_,rfl, .inl hS,_,0,rfl,rfl,_,rfl,?_⟩
   refine iteF ?_
   refine iteF ?_
   refine ⟨_,rfl,0,1000003,rfl,rfl,(by show (0:Int) < 1000003;decide),_,rfl,31,kk,rfl,rfl, .inl ⟨by decide,by decide⟩,_,rfl,_,kk,rfl,rfl,⟨big_of (by omega) (by omega),big_of k0 (by omega)⟩,_,_,rfl,rfl,_,_,rfl,rfl,?_⟩
   refine ⟨_,rfl,_,48271,rfl,rfl, .inr ⟨by decide,by decide⟩,_,999983,rfl,rfl,(by show (0:Int) < 999983;decide),_,7919,rfl,rfl, .inr ⟨by decide,by decide⟩,_,524287,rfl,rfl,(by show (0:Int) < 524287;decide),_,rfl,_,m,rfl,rfl,m0,?_⟩
   exact k _ (Int.emod_nonneg _ (by omega)) (Int.emod_lt_of_pos _ m0)
 · have lp:(0:Int) < (ns.length:Int):=by omega
   obtain ⟨z,hz⟩:=at_ixs (ns:=ns) (i:=kk%(ns.length:Int)) (Int.emod_nonneg _ (by omega)) (Int.emod_lt_of_pos _ lp)
   obtain ⟨y,hy⟩:=at_ixs (ns:=ns) (i:=0) (by omega) lp
   have g0:decide ((0:Int) < (ns.length:Int))=true:=decide_eq_true lp
   refine ⟨_,rfl,a,_,rfl, .inl hS,_,0,rfl,rfl,_,rfl,?_⟩
   rw [List.length_map,g0]
   refine iteT ?_
   refine ⟨_,rfl,_,rfl,_,rfl,a,_,rfl, .inl hS,kk,_,rfl,rfl,(by rw [List.length_map];omega),a,_,kk%(ns.length:Int), .int z,rfl,(by rw [List.length_map]),hS,hz,?_⟩
   refine ⟨_,rfl,a,_,rfl, .inl hS,_,0,rfl,rfl,_,rfl,?_⟩
   rw [List.length_map,g0]
   refine iteT ?_
   refine ⟨_,rfl,a,_,0, .int y,rfl,rfl,hS,hy,_,2,rfl,rfl,(by show (0:Int) < 2;decide),rfl,_,rfl,?_⟩
   refine ite2 (fun _=> ?_) (fun _=> ?_)
   · refine ⟨_,rfl,_,rfl,_,rfl,a,_,rfl, .inl hS,kk,_,rfl,rfl,⟨by rw [List.length_map];omega,by rw [List.length_map];omega⟩,20,_,rfl,rfl, .inl ⟨by decide,by decide⟩,_,1,rfl,rfl,z,_,rfl,rfl,?_,_,1048576,rfl,rfl,(by show (0:Int) < 1048576;decide),_,rfl,_,m,rfl,rfl,m0,?_⟩
     · have:=Int.ediv_nonneg k0 (b:=((ns.map V.int).length:Int)) (by omega)
       omega
     · exact k _ (Int.emod_nonneg _ (by omega)) (Int.emod_lt_of_pos _ m0)
   · refine ⟨_,rfl,z,1000003,rfl,rfl,(by show (0:Int) < 1000003;decide),_,rfl,31,kk,rfl,rfl, .inl ⟨by decide,by decide⟩,_,rfl,_,kk,rfl,rfl,⟨big_of (by omega) (by omega),big_of k0 (by omega)⟩,_,_,rfl,rfl,_,_,rfl,rfl,?_⟩
     refine ⟨_,rfl,_,48271,rfl,rfl, .inr ⟨by decide,by decide⟩,_,999983,rfl,rfl,(by show (0:Int) < 999983;decide),_,7919,rfl,rfl, .inr ⟨by decide,by decide⟩,_,524287,rfl,rfl,(by show (0:Int) < 524287;decide),_,rfl,_,m,rfl,rfl,m0,?_⟩
     exact k _ (Int.emod_nonneg _ (by omega)) (Int.emod_lt_of_pos _ m0)
end
end K81
namespace L2
open PySem PySem.Spec PyProof.Rows
section
variable {X:Cx}
def rS0 (f:Str→V):V→List V→Hp→VK→Prop:=fun x vs H Q=>∃z,x= .str z∧vs= []∧Q (f z) H
theorem mt_isascii:MtM X "str.isascii" (rS0 fun z=> .bl (Txt.isascii z)):=by
 intro pins s σ H x vs v us Q I rx rv h
 obtain ⟨z,rfl,rfl,q⟩:=h
 obtain ⟨t,rfl⟩:=rx
 cases rv
 exact SC.isascii ⟨.bl _,H,I,rfl,q⟩
end
end L2
namespace Trm
open PySem
inductive Tm where
 |nm (x:Str)
 |ap (f:Str) (ts:List Tm)
def Ltr (c:Nat):Prop:=97≤c∧c≤122
structure Nm (x:Str):Prop where
 pos:0 < x.length
 le:x.length≤8
 ltr:∀c∈x.cps.toList,Ltr c
mutual
noncomputable def Tm.depth:Tm→Nat
 | .nm _=>0
 | .ap _ ts=>Tms.depth ts+1
noncomputable def Tms.depth:List Tm→Nat
 | []=>0
 |t::ts=>max (Tm.depth t) (Tms.depth ts)
end
mutual
noncomputable def Tm.all:Tm→List Tm
 | .nm x=> [.nm x]
 | .ap f ts=>Tms.all ts++ [.ap f ts]
noncomputable def Tms.all:List Tm→List Tm
 | []=> []
 |t::ts=>Tm.all t++Tms.all ts
end
mutual
noncomputable def Tm.shown:Tm→Str
 | .nm x=>x
 | .ap f ts=>Str.ofString "("++Txt.join (Str.ofString " ") (f::Tms.shown ts)++Str.ofString ")"
noncomputable def Tms.shown:List Tm→List Str
 | []=> []
 |t::ts=>Tm.shown t::Tms.shown ts
end
end Trm
namespace L2
open PySem
theorem asc_kind:∀c:Nat,c < 128→(Unicode.isAlpha c=true∧Unicode.isLower c=true∧Unicode.isUpper c=false∧Unicode.isTitle c=false∧(97≤c∧c≤122))∨(Unicode.isAlpha c=true∧Unicode.isLower c=false∧Unicode.isUpper c=true∧¬(97≤c∧c≤122))∨(Unicode.isAlpha c=false∧¬(97≤c∧c≤122)):=by
 decide +kernel
theorem all_arr {p:Nat→Bool} {a:Array Nat}:a.all p=a.toList.all p:=by simp
theorem any_arr {p:Nat→Bool} {a:Array Nat}:a.any p=a.toList.any p:=by simp
theorem name_iff (x:Str):(Txt.isascii x&& (Txt.isalpha x&&Txt.islower x))=true↔0 < x.length∧∀c∈x.cps.toList,97≤c∧c≤122:=by
 unfold Txt.isascii Txt.isalpha Txt.islower
 simp only [Bool.and_eq_true,all_arr,any_arr,List.all_eq_true,List.any_eq_true,decide_eq_true_eq,Bool.not_eq_true',Bool.or_eq_true]
 constructor
 · rintro ⟨h1,⟨h2,h3⟩,h4,h5⟩
   refine ⟨h2,fun c m=> ?_⟩
   rcases asc_kind c (h1 c m) with ⟨_,_,_,_,k⟩|⟨_,_,k,_⟩|⟨k,_⟩
   · exact k
   · exfalso
     have:(x.cps.toList.any fun c=>Unicode.isUpper c ||Unicode.isTitle c)=true:=List.any_eq_true.mpr ⟨c,m,by rw [k];rfl⟩
     rw [h5] at this
     cases this
   · rw [h3 c m] at k
     cases k
 · rintro ⟨h1,h2⟩
   have asc:∀c∈x.cps.toList,c < 128:=fun c m=>by have:=h2 c m;omega
   have kd:∀c∈x.cps.toList,Unicode.isAlpha c=true∧Unicode.isLower c=true∧Unicode.isUpper c=false∧Unicode.isTitle c=false:=fun c m=>by
    rcases asc_kind c (asc c m) with ⟨a,b,d,e,_⟩|⟨_,_,_,k⟩|⟨_,k⟩
    · exact ⟨a,b,d,e⟩
    · exact absurd (h2 c m) k
    · exact absurd (h2 c m) k
   refine ⟨asc,⟨h1,fun c m=>(kd c m).1⟩,?_,?_⟩
   · cases e:x.cps.toList with
     |nil=>
      have:x.length=0:=by
       show x.cps.size=0
       rw [←Array.length_toList,e]
       rfl
      omega
     |cons c l=>exact ⟨c,List.mem_cons_self,(kd c (by rw [e];exact List.mem_cons_self)).2.1⟩
   · cases e:(x.cps.toList.any fun c=>Unicode.isUpper c ||Unicode.isTitle c) with
     |false=>rfl
     |true=>
      obtain ⟨c,m,k⟩:=List.any_eq_true.mp e
      obtain ⟨_,_,k1,k2⟩:=kd c m
      rw [k1,k2] at k
      cases k
section
variable {X:Cx}
def rBs (g:Str→Bool):V→List V→Hp→VK→Prop:=fun x vs H Q=>∃z,x= .str z∧vs= []∧Q (.bl (g z)) H
theorem mt_isalpha:MtM X "str.isalpha" (rBs Txt.isalpha):=by
 intro pins s σ H x vs v us Q I rx rv h
 obtain ⟨z,rfl,rfl,q⟩:=h
 obtain ⟨t,rfl⟩:=rx
 cases rv.zero
 exact SC.isalpha ⟨.bl _,H,I,rfl,q⟩
theorem mt_islower:MtM X "str.islower" (rBs Txt.islower):=by
 intro pins s σ H x vs v us Q I rx rv h
 obtain ⟨z,rfl,rfl,q⟩:=h
 obtain ⟨t,rfl⟩:=rx
 cases rv.zero
 exact SC.islower ⟨.bl _,H,I,rfl,q⟩
end
end L2
namespace EqD
open PySem PySem.Spec PyProof.Rows SeqAt
theorem dict_no (d:Addr) (o:Obj) (es:Array DictEntry) (ep:Nat) (hc:o.cls= .type "dict") (hd:o.data= .dict es ep) (z:Str) (k:Tok):
 Meets (Builtin.«dict.__eq__» ⟨[.ref d, .str z k],[]⟩) (fun _ R s=>s.heap.get? d=some o∧R (.ok (.ret .notImplemented)) s):=
 .of_wp fun prog w A R s h=>by
  obtain ⟨hp,g,dr,tk,os⟩:=s
  obtain ⟨ho,h⟩:=h
  obtain ⟨cls,dd,data,sl⟩:=o
  simp only at hc hd
  subst hc hd
  have f1:=F.sub_str_dict
  wp_walk using wpAny_loadPart' ho,wpAny_load ho
  exact ⟨_,rfl,h⟩
theorem str_no (d:Addr) (o:Obj) (es:Array DictEntry) (ep:Nat) (hc:o.cls= .type "dict") (hd:o.data= .dict es ep) (z:Str) (k:Tok):
 Meets (Builtin.«str.__eq__» ⟨[.str z k, .ref d],[]⟩) (fun _ R s=>s.heap.get? d=some o∧R (.ok (.ret .notImplemented)) s):=
 .of_wp fun prog w A R s h=>by
  obtain ⟨hp,g,dr,tk,os⟩:=s
  obtain ⟨ho,h⟩:=h
  obtain ⟨cls,dd,data,sl⟩:=o
  simp only at hc hd
  subst hc hd
  wp_walk using wpAny_loadPart' ho,wpAny_load ho
  exact ⟨_,rfl,h⟩
open PySem PySem.Spec PyProof.Rows SeqAt L2
theorem rc_ds {A:Around} {s:Shared} {d:Addr} {o:Obj} {es:Array DictEntry} {ep:Nat} {z:Str} {k:Tok} (ho:s.heap.get? d=some o) (hc:o.cls= .type "dict") (hd:o.data= .dict es ep) (hu:A.units < cLine):RcAt A s (.ref d) (.str z k) false:=by
 intro prog w E Q h
 have T1:s.TypeIs (.ref d) "dict":=⟨o,ho,hc⟩
 have T2:s.TypeIs (.str z k) "str":=typeIs_str s z k
 refine rc_eq_decline_or (k:=false) T1 T2 (by decide) F.sub_str_dict F.slot_dict_eq F.slot_str_eq_refl (fun _ q=> ?_) (fun _ q=> ?_) (fun _ q=> ?_) (.inr hu) h
 · exact call_meets F.slot_dict_eq T1 F.entry_dict_eq (F.args_dict_eq_2 _ _) (dict_no d o es ep hc hd z k) ⟨ho,q⟩
 · exact call_meets F.slot_str_eq_refl T2 F.entry_str_eq (F.args_str_eq_2 _ _) (str_no d o es ep hc hd z k) ⟨ho,q⟩
 · exact wpAny_of_eq rfl q
inductive Pl where
 |non
 |bl (b:Bool)
 |int (i:Int)
 |str (x:Str)
 |tup (ts:List Pl)
 |lst
 |dct
mutual
def PlAt (H:Hp):V→Pl→Prop
 |v, .non=>v= .non
 |v, .bl b=>v= .bl b
 |v, .int i=>v= .int i
 |v, .str x=>v= .str x
 |v, .tup ts=>∃r vs,v= .ref r∧H r=some (.tup vs)∧PlsAt H vs ts
 |v, .lst=>∃r xs,v= .ref r∧H r=some (.lst xs)
 |v, .dct=>∃r kvs,v= .ref r∧H r=some (.dK kvs)
def PlsAt (H:Hp):List V→List Pl→Prop
 |vs,[]=>vs= []
 |vs,t::ts=>∃v r,vs=v::r∧PlAt H v t∧PlsAt H r ts
end
structure Ke (H H':Hp):Prop where
 tup:∀a xs,H a=some (.tup xs)→H' a=some (.tup xs)
 lst:∀a xs,H a=some (.lst xs)→∃ys,H' a=some (.lst ys)
 dct:∀a xs,H a=some (.dK xs)→∃ys,H' a=some (.dK ys)
theorem Ke.refl (H:Hp):Ke H H:=⟨fun _ _ e=>e,fun _ xs e=>⟨xs,e⟩,fun _ xs e=>⟨xs,e⟩⟩
theorem Ke.trans {H H1 H2:Hp} (a:Ke H H1) (b:Ke H1 H2):Ke H H2:=⟨fun x o e=>b.tup x o (a.tup x o e),fun x o e=>by
 obtain ⟨ys,e1⟩:=a.lst x o e
 exact b.lst x ys e1,fun x o e=>by
 obtain ⟨ys,e1⟩:=a.dct x o e
 exact b.dct x ys e1⟩
theorem Ke.of_same {H H':Hp} (s:Same H H'):Ke H H':=⟨fun a xs e=>s a _ e,fun a xs e=>⟨xs,s a _ e⟩,fun a xs e=>⟨xs,s a _ e⟩⟩
mutual
theorem PlAt.mono {H H':Hp} (k:Ke H H'):∀ {v:V} {t:Pl},PlAt H v t→PlAt H' v t
 |v, .non,h=>by unfold PlAt at h ⊢;exact h
 |v, .bl b,h=>by unfold PlAt at h ⊢;exact h
 |v, .int i,h=>by unfold PlAt at h ⊢;exact h
 |v, .str x,h=>by unfold PlAt at h ⊢;exact h
 |v, .lst,h=>by
  unfold PlAt at h ⊢
  obtain ⟨r,xs,e,h⟩:=h
  obtain ⟨ys,h'⟩:=k.lst r xs h
  exact ⟨r,ys,e,h'⟩
 |v, .dct,h=>by
  unfold PlAt at h ⊢
  obtain ⟨r,xs,e,h⟩:=h
  obtain ⟨ys,h'⟩:=k.dct r xs h
  exact ⟨r,ys,e,h'⟩
 |v, .tup ts,h=>by
  unfold PlAt at h ⊢
  obtain ⟨r,vs,e,h1,h2⟩:=h
  exact ⟨r,vs,e,k.tup _ _ h1,PlsAt.mono k h2⟩
theorem PlsAt.mono {H H':Hp} (k:Ke H H'):∀ {vs:List V} {ts:List Pl},PlsAt H vs ts→PlsAt H' vs ts
 |vs,[],h=>by unfold PlsAt at h ⊢;exact h
 |vs,t::ts,h=>by
  unfold PlsAt at h ⊢
  obtain ⟨v,r,e,h1,h2⟩:=h
  exact ⟨v,r,e,PlAt.mono k h1,PlsAt.mono k h2⟩
end
theorem PlsAt.nil {H:Hp}:PlsAt H [] []:=by unfold PlsAt;rfl
theorem PlsAt.cons {H:Hp} {v:V} {t:Pl} {vs:List V} {ts:List Pl} (h:PlAt H v t) (r:PlsAt H vs ts):PlsAt H (v::vs) (t::ts):=by
 unfold PlsAt
 exact ⟨v,vs,rfl,h,r⟩
theorem PlsAt.inv {H:Hp} {t:Pl} {vs:List V} {ts:List Pl} (h:PlsAt H vs (t::ts)):∃v r,vs=v::r∧PlAt H v t∧PlsAt H r ts:=by
 unfold PlsAt at h
 exact h
theorem PlsAt.len {H:Hp}:∀ {vs:List V} {ts:List Pl},PlsAt H vs ts→vs.length=ts.length
 |vs,[],h=>by
  unfold PlsAt at h
  rw [h]
  rfl
 |vs,t::ts,h=>by
  obtain ⟨v,r,e,_,h2⟩:=h.inv
  rw [e,List.length_cons,List.length_cons,h2.len]
theorem PlsAt.app {H:Hp} {ws:List V} {us:List Pl} (b:PlsAt H ws us):∀ {vs:List V} {ts:List Pl},PlsAt H vs ts→PlsAt H (vs++ws) (ts++us)
 |vs,[],h=>by
  unfold PlsAt at h
  subst h
  exact b
 |vs,t::ts,h=>by
  obtain ⟨v,r,e,h1,h2⟩:=h.inv
  subst e
  exact .cons h1 (PlsAt.app b h2)
theorem PlsAt.get' {H:Hp}:∀ {vs:List V} {ts:List Pl} {i:Nat} {v:V},PlsAt H vs ts→vs[i]?=some v→∃t,ts[i]?=some t∧PlAt H v t
 |vs,[],i,v,h,e=>by
  unfold PlsAt at h
  subst h
  simp at e
 |vs,a::ts,0,v,h,e=>by
  obtain ⟨u,r,rfl,h1,h2⟩:=h.inv
  simp at e
  subst e
  exact ⟨a,rfl,h1⟩
 |vs,a::ts,i+1,v,h,e=>by
  obtain ⟨u,r,rfl,h1,h2⟩:=h.inv
  obtain ⟨t,e1,e2⟩:=h2.get' (i:=i) (by simpa using e)
  exact ⟨t,by simpa using e1,e2⟩
def isS (z:Str):Pl→Bool
 | .str x=>x==z
 |_=>false
def rEqS:R2:=fun x y H Q=>∃p z,PlAt H x p∧y= .str z∧Q (.bl (isS z p)) H
theorem op_eqS {X:Cx} (hu:X.A.units < cLine):OpR X (compareOp .Eq) rEqS:=by
 intro pins s σ H x y v u Q I rx ry h
 obtain ⟨p,z,hx,rfl,q⟩:=h
 obtain ⟨t,rfl⟩:=ry
 cases p with
 |non=>
  unfold PlAt at hx
  subst hx
  cases (show v=Value.none from rx)
  exact RcAt.none_str z t X.prog X.w _ _ ⟨.bl _,H,I,rfl,q⟩
 |bl b=>
  unfold PlAt at hx
  subst hx
  cases (show v=Value.bool b from rx)
  exact RcAt.bool_str b z t X.prog X.w _ _ ⟨.bl _,H,I,rfl,q⟩
 |int i=>
  unfold PlAt at hx
  subst hx
  obtain ⟨t0,rfl⟩:=rx
  exact RcAt.int_str i t0 z t X.prog X.w _ _ ⟨.bl _,H,I,rfl,q⟩
 |str w=>
  unfold PlAt at hx
  subst hx
  obtain ⟨t0,rfl⟩:=rx
  exact RcAt.str_str w t0 z t X.prog X.w _ _ ⟨.bl _,H,I,rfl,q⟩
 |tup ts=>
  unfold PlAt at hx
  obtain ⟨r,vs,rfl,g,_⟩:=hx
  cases rx
  obtain ⟨us,_,p1,_⟩:=I.tuple (SqT.of g)
  exact RcAt.tuple_str z t p1 hu X.prog X.w _ _ ⟨.bl _,H,I,rfl,q⟩
 |lst=>
  unfold PlAt at hx
  obtain ⟨r,vs,rfl,g⟩:=hx
  cases rx
  obtain ⟨us,_,p1,_⟩:=I.list (SqL.of g)
  exact RcAt.list_str z t p1.isList hu X.prog X.w _ _ ⟨.bl _,H,I,rfl,q⟩
 |dct=>
  unfold PlAt at hx
  obtain ⟨r,kvs,rfl,g⟩:=hx
  cases rx
  obtain ⟨_,_,vs,r',ob,es,ep,e,c⟩:=(show ObjOk X.prog X.w H s.heap r (.dK kvs) from I.hok r _ g)
  exact rc_ds e c.1.1 c.2.1 hu X.prog X.w _ _ ⟨.bl _,H,I,rfl,q⟩
end EqD
namespace L2
open PySem PySem.Spec PyProof.Rows
section
variable {X:Cx}
end
section
variable {X:Cx}
end
end L2
namespace K81
open PySem L2 Mth EqD
noncomputable def tyP:Pl→Value
 | .non=> .type "NoneType"
 | .bl _=> .type "bool"
 | .int _=> .type "int"
 | .str _=> .type "str"
 | .tup _=> .type "tuple"
 | .lst=> .type "list"
 | .dct=> .type "dict"
theorem ty_pl {K:PySem.W.Frag} {H:Hp} {x:V} {p:Pl} (h:PlAt H x p):TyX K H x (tyP p):=by
 cases p with
 |non=>unfold PlAt at h;subst h;exact .of .non
 |bl b=>unfold PlAt at h;subst h;exact .of (.bl b)
 |int i=>unfold PlAt at h;subst h;exact .of (.int i)
 |str z=>unfold PlAt at h;subst h;exact .of (.str z)
 |tup ts=>unfold PlAt at h;obtain ⟨r,vs,rfl,g,_⟩:=h;exact .of (.tup g)
 |lst=>unfold PlAt at h;obtain ⟨r,vs,rfl,g⟩:=h;exact .of (.lst g)
 |dct=>unfold PlAt at h;obtain ⟨r,vs,rfl,g⟩:=h;exact .of (.dK g)
def isInt:Pl→Bool
 | .int _=>true
 | .bl _=>true
 |_=>false
def isBl:Pl→Bool
 | .bl _=>true
 |_=>false
def isStr:Pl→Bool
 | .str _=>true
 |_=>false
def isTup:Pl→Bool
 | .tup _=>true
 |_=>false
theorem kit_int (K:PySem.W.Frag) (p:Pl):PySem.W.kitOne K (tyP p) (.type "int")=some (isInt p):=by cases p<;>kernel_rfl
theorem kit_bl (K:PySem.W.Frag) (p:Pl):PySem.W.kitOne K (tyP p) (.type "bool")=some (isBl p):=by cases p<;>kernel_rfl
theorem kit_str (K:PySem.W.Frag) (p:Pl):PySem.W.kitOne K (tyP p) (.type "str")=some (isStr p):=by cases p<;>kernel_rfl
theorem kit_tup (K:PySem.W.Frag) (p:Pl):PySem.W.kitOne K (tyP p) (.type "tuple")=some (isTup p):=by cases p<;>kernel_rfl
def whB (p:Pl):Bool:=isInt p&& !isBl p
noncomputable def toB (n:Int):Pl→Bool
 | .tup ts=>decide ((ts.length:Int)=n)
 |_=>false
noncomputable def nmB:Pl→Bool
 | .str x=> !decide (8 < (x.length:Int))&& (Txt.isascii x&& (Txt.isalpha x&&Txt.islower x))
 |_=>false
section
variable {P:Program} {w:World} {K:PySem.W.Frag} {mg:Str→Option Value} {base:Heap}
def spIw:Sp:=fun vs H Q _=>∃(v:V) (p:Pl),vs= [v]∧PlAt H v p∧Q (.bl (whB p)) H
theorem scIw:FnScope ["thing"] ["thing"] (defScope sIw):=⟨rfl,rfl,rfl,by decide +kernel,rfl,by decide +kernel,by decide +kernel⟩
theorem ok_iw {f:Addr} {fd:FuncData} (F:Fun K "is_whole" "is_whole" sIw f fd) (B:Blt mg):FnOk P w K mg base CX0 1 f fd ["thing"] spIw:=by
 refine F.ok scIw (fun vs H Q E h=> ?_) (fun cdv A outer s H vs Q E hr h=> ?_)
 · obtain ⟨v,p,rfl,_⟩:=h
   rfl
 obtain ⟨v,p,rfl,hv,k⟩:=h
 refine ⟨_,pss_one (ps_ret (pe_and (pe_callB (r:=rIsi K) call_isi rfl B.isi boot_isinstance (pa_cons (pv 0) (pa_cons (pe_bltn (v:= .ty "int") rfl B.it PyProof.Rows.boot_int rfl) pa_nil))) (pe_one (pe_not (pe_callB (r:=rIsi K) call_isi rfl B.isi boot_isinstance (pa_cons (pv 0) (pa_cons (pe_bltn (v:= .ty "bool") rfl B.bo PyProof.Rows.boot_bool rfl) pa_nil))))))),?_⟩
 refine ⟨_,rfl,v, .ty "int",_,isInt p,rfl,ty_pl hv, .inl ⟨rfl,kit_int K p⟩,_,rfl,?_⟩
 cases e:isInt p with
 |false=>
  refine iteF ?_
  have:whB p=false:=by unfold whB;rw [e];rfl
  rw [this] at k
  exact k
 |true=>
  refine iteT ?_
  refine ⟨_,rfl,v, .ty "bool",_,isBl p,rfl,ty_pl hv, .inl ⟨rfl,kit_bl K p⟩,_,rfl,?_⟩
  have:whB p= !isBl p:=by unfold whB;rw [e];rfl
  rw [this] at k
  exact k
def spTo:Sp:=fun vs H Q _=>∃(v:V) (p:Pl) (n:Int),vs= [v, .int n]∧PlAt H v p∧Q (.bl (toB n p)) H
theorem scTo:FnScope ["thing","count"] ["thing","count"] (defScope sIto):=⟨rfl,rfl,rfl,by decide +kernel,rfl,by decide +kernel,by decide +kernel⟩
theorem ok_to {f:Addr} {fd:FuncData} (F:Fun K "is_tuple_of" "is_tuple_of" sIto f fd) (B:Blt mg):FnOk P w K mg base CX0 1 f fd ["thing","count"] spTo:=by
 refine F.ok scTo (fun vs H Q E h=> ?_) (fun cdv A outer s H vs Q E hr h=> ?_)
 · obtain ⟨v,p,n,rfl,_⟩:=h
   rfl
 obtain ⟨v,p,n,rfl,hv,k⟩:=h
 refine ⟨_,pss_one (ps_ret (pe_and (pe_callB (r:=rIsi K) call_isi rfl B.isi boot_isinstance (pa_cons (pv 0) (pa_cons (pe_bltn (v:= .ty "tuple") rfl B.tu PyProof.Rows.boot_tuple rfl) pa_nil))) (pe_one (pe_cmpR op_eq (pe_callB call_len_seq rfl B.le PySem.boot_len (pa_cons (pv 0) pa_nil)) (pv 1) (nomark _))))),?_⟩
 refine ⟨_,rfl,v, .ty "tuple",_,isTup p,rfl,ty_pl hv, .inl ⟨rfl,kit_tup K p⟩,_,rfl,?_⟩
 cases p with
 |tup ts=>
  unfold PlAt at hv
  obtain ⟨r,vs,rfl,g,hT⟩:=hv
  have tl:=hT.len
  refine iteT ?_
  refine ⟨_,rfl,r,vs,rfl, .inr (SqT.of g),_,rfl,rfl,?_⟩
  have e:decide (V.int (vs.length:Int)=V.int n)=toB n (.tup ts):=by
   show _=decide ((ts.length:Int)=n)
   rw [tl]
   by_cases z:(ts.length:Int)=n
   · rw [decide_eq_true z,decide_eq_true (congrArg V.int z)]
   · rw [decide_eq_false z,decide_eq_false (fun q=>z (V.int.inj q))]
  rw [e]
  exact k
 |non=>exact iteF k
 |bl b=>exact iteF k
 |int i=>exact iteF k
 |str z=>exact iteF k
 |lst=>exact iteF k
 |dct=>exact iteF k
def spNm:Sp:=fun vs H Q _=>∃(v:V) (p:Pl),vs= [v]∧PlAt H v p∧(∀x,p= .str x→x.length≤1000)∧Q (.bl (nmB p)) H
theorem scNQ:FnScope ["thing"] ["thing"] (defScope sNmQ):=⟨rfl,rfl,rfl,by decide +kernel,rfl,by decide +kernel,by decide +kernel⟩
theorem ok_nm {f:Addr} {fd:FuncData} {tk:Tok} (F:Fun K "is_name" "is_name" sNmQ f fd) (B:Blt mg) (mL:mg "MOST_LETTERS"=some (.int 8 tk)):FnOk P w K mg base CX0 1 f fd ["thing"] spNm:=by
 refine F.ok scNQ (fun vs H Q E h=> ?_) (fun cdv A outer s H vs Q E hr h=> ?_)
 · obtain ⟨v,p,rfl,_⟩:=h
   rfl
 obtain ⟨v,p,rfl,hv,hsm,k⟩:=h
 refine ⟨_,pss_cons (ps_if (PW.pt (pw_or (pt_not (pt_val (pe_callB (r:=rIsi K) call_isi rfl B.isi boot_isinstance (pa_cons (pv 0) (pa_cons (pe_bltn (v:= .ty "str") rfl B.st PyProof.Rows.boot_str rfl) pa_nil))))) (pw_or1 (pt_cmpR op_gt (pe_callB call_len_str rfl B.le PySem.boot_len (pa_cons (pv 0) pa_nil)) (pe_glob (v:= .int 8) rfl mL ⟨_,rfl⟩) (nomark _))))) (pss_one (ps_ret pe_bl)) pss_nil)
  (pss_one (ps_ret (pe_and (pe_bm0 PySem.F.plainAttrs_str PySem.F.slot_str_isascii PySem.F.type_str_isascii mt_isascii (pv 0)) (pe_and (pe_bm0 PySem.F.plainAttrs_str PySem.F.slot_str_isalpha PySem.F.type_str_isalpha mt_isalpha (pv 0)) (pe_one (pe_bm0 PySem.F.plainAttrs_str PySem.F.slot_str_islower PySem.F.type_str_islower mt_islower (pv 0))))))),?_⟩
 refine ⟨_,rfl,v, .ty "str",_,isStr p,rfl,ty_pl hv, .inl ⟨rfl,kit_str K p⟩,_,rfl,?_⟩
 cases p with
 |str x=>
  unfold PlAt at hv
  subst hv
  refine iteF ?_
  refine ⟨_,rfl,x,rfl,Nat.le_trans (hsm x rfl) (by decide +kernel),_,8,rfl,rfl,_,rfl,?_⟩
  by_cases z:(8:Int) < (x.length:Int)
  · rw [decide_eq_true z]
    refine iteT ?_
    have e:nmB (.str x)=false:=by
     show (!decide _&&_)=false
     rw [decide_eq_true z]
     rfl
    rw [e] at k
    exact k
  · rw [decide_eq_false z]
    refine iteF ?_
    have e:nmB (.str x)=(Txt.isascii x&& (Txt.isalpha x&&Txt.islower x)):=by
     show (!decide _&&_)=_
     rw [decide_eq_false z]
     rfl
    rw [e] at k
    refine ⟨_,rfl,rfl,x,rfl,rfl,_,rfl,?_⟩
    cases e1:Txt.isascii x with
    |false=>
     rw [e1] at k
     exact iteF k
    |true=>
     rw [e1] at k
     refine iteT ⟨_,rfl,rfl,x,rfl,rfl,_,rfl,?_⟩
     cases e2:Txt.isalpha x with
     |false=>
      rw [e2] at k
      exact iteF k
     |true=>
      rw [e2] at k
      exact iteT ⟨_,rfl,rfl,x,rfl,rfl,k⟩
 |non=>exact iteT k
 |bl b=>exact iteT k
 |int i=>exact iteT k
 |tup ts=>exact iteT k
 |lst=>exact iteT k
 |dct=>exact iteT k
mutual
noncomputable def tmB:Nat→Pl→Bool
 |0,_=>false
 |n+1, .tup ts=>match ts with
  | [k,x]=>isS "name" k&&nmB x
  | [k,f,x]=>isS "call" k&& (nmB f&&ctB n x)
  |_=>false
 |_+1,_=>false
noncomputable def ctB:Nat→Pl→Bool
 |n, .tup ts=>decide (1≤(ts.length:Int))&& (decide ((ts.length:Int)≤3)&&tmsB n ts)
 |_,_=>false
noncomputable def tmsB:Nat→List Pl→Bool
 |_,[]=>true
 |n,t::ts=>tmB n t&&tmsB n ts
end
end
open PySem L2 Mth EqD
mutual
noncomputable def pdep:Pl→Nat
 | .tup ts=>psdep ts+1
 |_=>0
noncomputable def psdep:List Pl→Nat
 | []=>0
 |t::ts=>max (pdep t) (psdep ts)
end
mutual
def Sm:Pl→Prop
 | .str x=>x.length≤1000
 | .tup ts=>ts.length≤1000∧Sms ts
 |_=>True
def Sms:List Pl→Prop
 | []=>True
 |t::ts=>Sm t∧Sms ts
end
theorem sm_mem:∀ {ts:List Pl} {t:Pl},Sms ts→t∈ts→Sm t
 |a::ts,t,h,m=>by
  unfold Sms at h
  rcases List.mem_cons.mp m with rfl|m
  · exact h.1
  · exact sm_mem h.2 m
theorem dep_mem:∀ {ts:List Pl} {t:Pl},t∈ts→pdep t≤psdep ts
 |a::ts,t,m=>by
  unfold psdep
  rcases List.mem_cons.mp m with rfl|m
  · omega
  · have:=dep_mem m
    omega
theorem sm_nm {p:Pl} (h:Sm p):∀x,p= .str x→x.length≤1000:=fun x e=>by
 subst e
 unfold Sm at h
 exact h
theorem tms_all (n:Nat):∀ts:List Pl,tmsB n ts=ts.all (tmB n)
 | []=>by rw [tmsB];rfl
 |t::ts=>by rw [tmsB,tms_all n ts,List.all_cons]
theorem shape (p:Pl):(∃a b,p= .tup [a,b])∨(∃a b c,p= .tup [a,b,c])∨(toB 2 p=false∧toB 3 p=false∧∀n,tmB (n+1) p=false):=by
 cases p with
 |tup ts=>
  match ts with
  | []=>exact .inr (.inr ⟨rfl,rfl,fun n=>by simp [tmB]⟩)
  | [a]=>exact .inr (.inr ⟨rfl,rfl,fun n=>by simp [tmB]⟩)
  | [a,b]=>exact .inl ⟨a,b,rfl⟩
  | [a,b,c]=>exact .inr (.inl ⟨a,b,c,rfl⟩)
  |a::b::c::d::l=>
   have len:((a::b::c::d::l).length:Int)=(l.length:Int)+4:=by simp;omega
   refine .inr (.inr ⟨?_,?_,fun n=>by simp [tmB]⟩)
   · show decide (((a::b::c::d::l).length:Int)=2)=false
     exact decide_eq_false (by omega)
   · show decide (((a::b::c::d::l).length:Int)=3)=false
     exact decide_eq_false (by omega)
 |non=>exact .inr (.inr ⟨rfl,rfl,fun n=>by rw [tmB];intro ts h;cases h⟩)
 |bl b=>exact .inr (.inr ⟨rfl,rfl,fun n=>by rw [tmB];intro ts h;cases h⟩)
 |int i=>exact .inr (.inr ⟨rfl,rfl,fun n=>by rw [tmB];intro ts h;cases h⟩)
 |str z=>exact .inr (.inr ⟨rfl,rfl,fun n=>by rw [tmB];intro ts h;cases h⟩)
 |lst=>exact .inr (.inr ⟨rfl,rfl,fun n=>by rw [tmB];intro ts h;cases h⟩)
 |dct=>exact .inr (.inr ⟨rfl,rfl,fun n=>by rw [tmB];intro ts h;cases h⟩)
theorem pl2 {H:Hp} {v:V} {a b:Pl} (h:PlAt H v (.tup [a,b])):∃r x y,v= .ref r∧H r=some (.tup [x,y])∧PlAt H x a∧PlAt H y b:=by
 unfold PlAt at h
 obtain ⟨r,vs,rfl,g,h⟩:=h
 obtain ⟨x,r1,rfl,h1,h⟩:=h.inv
 obtain ⟨y,r2,rfl,h2,h⟩:=h.inv
 unfold PlsAt at h
 subst h
 exact ⟨r,x,y,rfl,g,h1,h2⟩
theorem pl3 {H:Hp} {v:V} {a b c:Pl} (h:PlAt H v (.tup [a,b,c])):∃r x y z,v= .ref r∧H r=some (.tup [x,y,z])∧PlAt H x a∧PlAt H y b∧PlAt H z c:=by
 unfold PlAt at h
 obtain ⟨r,vs,rfl,g,h⟩:=h
 obtain ⟨x,r1,rfl,h1,h⟩:=h.inv
 obtain ⟨y,r2,rfl,h2,h⟩:=h.inv
 obtain ⟨z,r3,rfl,h3,h⟩:=h.inv
 unfold PlsAt at h
 subst h
 exact ⟨r,x,y,z,rfl,g,h1,h2,h3⟩
section
variable {P:Program} {w:World} {K:PySem.W.Frag} {mg:Str→Option Value} {base:Heap}
def spTm (n:Nat):Sp:=fun vs H Q _=>∃(v:V) (p:Pl),vs= [v]∧PlAt H v p∧Sm p∧pdep p < n∧∀H',Same H H'→Q (.bl (tmB n p)) H'
def spCt (n:Nat):Sp:=fun vs H Q _=>∃(v:V) (p:Pl),vs= [v]∧PlAt H v p∧Sm p∧pdep p < n+1∧∀H',Same H H'→Q (.bl (ctB n p)) H'
theorem scTmQ:FnScope ["thing"] ["thing"] (defScope sTmQ):=⟨rfl,rfl,rfl,by decide +kernel,rfl,by decide +kernel,by decide +kernel⟩
theorem ok_tm1 {f fT fN fC:Addr} {fd dT dN dC:FuncData} {n:Nat} (F:Fun K "is_term" "is_term" sTmQ f fd)
 (gT:FnOk P w K mg base CX0 1 fT dT ["thing","count"] spTo) (kT:PySem.W.keepIn K (.ref fT)=true) (bT:Binds K dT ["thing","count"] []) (mT:mg "is_tuple_of"=some (.ref fT))
 (gN:FnOk P w K mg base CX0 1 fN dN ["thing"] spNm) (kN:PySem.W.keepIn K (.ref fN)=true) (bN:Binds K dN ["thing"] []) (mN:mg "is_name"=some (.ref fN))
 (gC:FnOk P w K mg base CX0 (2*n+2) fC dC ["thing"] (spCt n)) (kC:PySem.W.keepIn K (.ref fC)=true) (bC:Binds K dC ["thing"] []) (mC:mg "are_call_terms"=some (.ref fC)):FnOk P w K mg base CX0 (2*n+3) f fd ["thing"] (spTm (n+1)):=by
 refine F.ok scTmQ (fun vs H Q E h=> ?_) (fun cdv A outer s H vs Q E hr h=> ?_)
 · obtain ⟨v,p,rfl,_⟩:=h
   rfl
 obtain ⟨v,p,rfl,hv,hs,hd,k⟩:=h
 have hr1:Room 1 _:=hr.mono (by omega)
 have hu0:=Nat.lt_of_le_of_lt (Nat.add_le_add_left (show 0≤64 by decide) _) hr.units
 refine ⟨_,pss_cons (ps_if (pt_val (pe_call gT hr1 rfl mT kT bT .nil pass0 (pa_cons (pv 0) (pa_cons pe_int pa_nil)))) (pss_one (ps_ret (pe_and (pe_cmpR (op_eqS hu0) (pe_ix ix_tup (pv 0) pe_int fun _ _=>rfl) pe_str (nomark _)) (pe_one (pe_call gN hr1 rfl mN kN bN .nil pass0 (pa_cons (pe_ix ix_tup (pv 0) pe_int fun _ _=>rfl) pa_nil)))))) pss_nil)
  (pss_cons (ps_if (pt_val (pe_call gT hr1 rfl mT kT bT .nil pass0 (pa_cons (pv 0) (pa_cons pe_int pa_nil)))) (pss_one (ps_ret (pe_and (pe_cmpR (op_eqS hu0) (pe_ix ix_tup (pv 0) pe_int fun _ _=>rfl) pe_str (nomark _)) (pe_and (pe_call gN hr1 rfl mN kN bN .nil pass0 (pa_cons (pe_ix ix_tup (pv 0) pe_int fun _ _=>rfl) pa_nil)) (pe_one (pe_call gC hr rfl mC kC bC .nil pass0 (pa_cons (pe_ix ix_tup (pv 0) pe_int fun _ _=>rfl) pa_nil))))))) pss_nil)
  (pss_one (ps_ret pe_bl))),?_⟩
 rcases shape p with ⟨a,b,rfl⟩|⟨a,b,c,rfl⟩|⟨e2,e3,et⟩
 · obtain ⟨r,x,y,rfl,g,hx,hy⟩:=pl2 hv
   have hs2:Sm a∧Sm b:=by
    unfold Sm Sms Sms Sms at hs
    exact ⟨hs.2.1,hs.2.2.1⟩
   have k':=k H (Same.refl H)
   rw [tmB] at k'
   refine ⟨_,rfl, .ref r,_,2,rfl,hv,_,rfl,?_⟩
   refine iteT ?_
   refine ⟨_,rfl,r,_,0,x,rfl,rfl,SqT.of g,rfl,a,_,hx,rfl,_,rfl,?_⟩
   cases e:isS "name" a with
   |false=>
    rw [e] at k'
    exact iteF k'
   |true=>
    rw [e] at k'
    exact iteT ⟨_,rfl,r,_,1,y,rfl,rfl,SqT.of g,rfl,y,b,rfl,hy,sm_nm hs2.2,k'⟩
 · obtain ⟨r,x,y,z,rfl,g,hx,hy,hz⟩:=pl3 hv
   have hs2:Sm a∧Sm b∧Sm c:=by
    unfold Sm Sms Sms Sms Sms at hs
    exact ⟨hs.2.1,hs.2.2.1,hs.2.2.2.1⟩
   have hd2:pdep c < n+1:=by
    simp only [pdep,psdep] at hd
    omega
   refine ⟨_,rfl, .ref r,_,2,rfl,hv,_,rfl,?_⟩
   refine iteF ?_
   refine ⟨_,rfl, .ref r,_,3,rfl,hv,_,rfl,?_⟩
   refine iteT ?_
   refine ⟨_,rfl,r,_,0,x,rfl,rfl,SqT.of g,rfl,a,_,hx,rfl,_,rfl,?_⟩
   cases e:isS "call" a with
   |false=>
    have k':=k H (Same.refl H)
    rw [tmB,e] at k'
    exact iteF k'
   |true=>
    refine iteT ⟨_,rfl,r,_,1,y,rfl,rfl,SqT.of g,rfl,y,b,rfl,hy,sm_nm hs2.2.1,_,rfl,?_⟩
    cases e2:nmB b with
    |false=>
     have k':=k H (Same.refl H)
     rw [tmB,e,e2] at k'
     exact iteF k'
    |true=>
     refine iteT ⟨_,rfl,r,_,2,z,rfl,rfl,SqT.of g,rfl,z,c,rfl,hz,hs2.2.2,hd2,fun H1 s1=> ?_⟩
     have k':=k H1 s1
     rw [tmB,e,e2] at k'
     exact k'
 · refine ⟨_,rfl,v,p,2,rfl,hv,_,rfl,?_⟩
   rw [e2]
   refine iteF ?_
   refine ⟨_,rfl,v,p,3,rfl,hv,_,rfl,?_⟩
   rw [e3]
   refine iteF ?_
   have k':=k H (Same.refl H)
   rw [et] at k'
   exact k'
end
open PySem L2 Mth EqD
section
variable {P:Program} {w:World} {K:PySem.W.Frag} {mg:Str→Option Value} {base:Heap}
theorem scCtQ:FnScope ["thing"] ["thing"] (defScope sCtQ):=⟨rfl,rfl,rfl,by decide +kernel,rfl,by decide +kernel,by decide +kernel⟩
theorem ok_ct1 {f fT:Addr} {fd dT:FuncData} {n:Nat} {tk:Tok} (F:Fun K "are_call_terms" "are_call_terms" sCtQ f fd) (B:Blt mg) (mC:mg "MOST_IN_CALL"=some (.int 3 tk))
 (gT:FnOk P w K mg base CX0 (2*n+1) fT dT ["thing"] (spTm n)) (kT:PySem.W.keepIn K (.ref fT)=true) (bT:Binds K dT ["thing"] []) (mT:mg "is_term"=some (.ref fT)):FnOk P w K mg base CX0 (2*n+2) f fd ["thing"] (spCt n):=by
 refine F.ok scCtQ (fun vs H Q E h=> ?_) (fun cdv A outer s H vs Q E hr h=> ?_)
 · obtain ⟨v,p,rfl,_⟩:=h
   rfl
 obtain ⟨v,p,rfl,hv,hs,hd,k⟩:=h
 refine ⟨_,pss_cons (ps_if (PW.pt (pw_or (pt_not (pt_val (pe_callB (r:=rIsi K) call_isi rfl B.isi boot_isinstance (pa_cons (pv 0) (pa_cons (pe_bltn (v:= .ty "tuple") rfl B.tu PyProof.Rows.boot_tuple rfl) pa_nil))))) (pw_or1 (pt_not (pt_chain op_le op_le pe_int (pe_callB call_len_seq rfl B.le PySem.boot_len (pa_cons (pv 0) pa_nil)) (pe_glob (v:= .int 3) rfl mC ⟨_,rfl⟩)))))) (pss_one (ps_ret pe_bl)) pss_nil)
  (pss_one (ps_ret (pe_callB (call_allT rfl) rfl B.al PyProof.Rows.boot_all (pa_cons (pe_comp (NC:= ["inner"]) (mp:= [none]) rfl (pi_tup (pv 0)) (fun _ _ _ _ _=>pg_name (i:=0) (show (["inner"]:List Str).Nodup by decide +kernel) rfl (Or.inl rfl)) (fun _ _ _ _ _=>pts_nil) (fun _ _ _ _ _=>pe_call gT hr rfl mT kT bT .nil pass0 (pa_cons (pv 0) pa_nil))) pa_nil)))),?_⟩
 have hL:(20000:Nat)≤sizeLine:=by decide +kernel
 refine ⟨_,rfl,v, .ty "tuple",_,isTup p,rfl,ty_pl hv, .inl ⟨rfl,kit_tup K p⟩,_,rfl,?_⟩
 cases p with
 |tup ts=>
  have hv':=hv
  unfold PlAt at hv'
  obtain ⟨r,vs,rfl,g,hT⟩:=hv'
  have tl:=hT.len
  have hsm:ts.length≤1000∧Sms ts:=by
   unfold Sm at hs
   exact hs
  refine iteF ?_
  refine ⟨_,rfl,r,vs,rfl, .inr (SqT.of g),_,_,rfl,rfl,_,rfl,?_⟩
  by_cases z1:(1:Int)≤(vs.length:Int)
  · rw [decide_eq_true z1]
    refine iteT ?_
    refine ⟨_,_,rfl,rfl,_,rfl,?_⟩
    by_cases z2:(vs.length:Int)≤3
    · rw [decide_eq_true z2]
      refine iteF ?_
      refine tnx_of ?_
      dsimp only
      refine tret_cb ?_
      refine tcomp_of rfl ?_
      refine ⟨_,rfl,r,rfl,⟨vs,SqT.of g⟩,fun D nD=> ?_⟩
      refine comp_tup (xs:=vs) (fun i acc H'=>Same H H'∧H' D=some (.lst acc)∧acc=((ts.take i).map (tmB n)).map V.bl) ⟨same_upd nD,upd_same,rfl⟩ (fun i acc H' p=>SqT.of (p.1 _ _ g)) ?_ ?_
      · rintro i x acc H1 hi ex ⟨s1,hD,rfl⟩
        obtain ⟨t,et,ht⟩:=hT.get' ex
        have mt:=List.mem_of_getElem? et
        refine ⟨_,rfl,x,t,rfl,ht.mono (Ke.of_same s1),sm_mem hsm.2 mt,?_,fun H2 s2=> ?_⟩
        · have:=dep_mem mt
          simp only [pdep] at hd
          omega
        · refine CompN.mk hi ?_ (s2 _ _ hD) ⟨same_wr nD (s1.trans s2),upd_same,?_⟩
          · rw [List.length_map,List.length_map,List.length_take]
            omega
          · rw [List.take_add_one,et]
            simp
      · rintro acc H1 ⟨s1,hD,rfl⟩
        rw [tl,List.take_length] at hD
        refine ⟨D,_,rfl,SqL.of hD,?_⟩
        have e:((ts.map (tmB n)).all id)=ctB n (.tup ts):=by
         rw [ctB,decide_eq_true (show (1:Int)≤(ts.length:Int) by omega),decide_eq_true (show (ts.length:Int)≤3 by omega),tms_all]
         simp
        rw [e]
        exact k H1 s1
    · rw [decide_eq_false z2]
      refine iteT ?_
      have e:ctB n (.tup ts)=false:=by
       rw [ctB,decide_eq_false (show¬(ts.length:Int)≤3 by omega)]
       simp
      have k':=k H (Same.refl H)
      rw [e] at k'
      exact k'
  · rw [decide_eq_false z1]
    refine iteF ⟨_,rfl,?_⟩
    refine iteT ?_
    have e:ctB n (.tup ts)=false:=by
     rw [ctB,decide_eq_false (show¬(1:Int)≤(ts.length:Int) by omega)]
     rfl
    have k':=k H (Same.refl H)
    rw [e] at k'
    exact k'
 |non=>exact iteT (k H (Same.refl H))
 |bl b=>exact iteT (k H (Same.refl H))
 |int i=>exact iteT (k H (Same.refl H))
 |str z=>exact iteT (k H (Same.refl H))
 |lst=>exact iteT (k H (Same.refl H))
 |dct=>exact iteT (k H (Same.refl H))
theorem ok_tm {f fT fN fC:Addr} {fd dT dN dC:FuncData} {tk:Tok} (F:Fun K "is_term" "is_term" sTmQ f fd) (kF:PySem.W.keepIn K (.ref f)=true) (bF:Binds K fd ["thing"] []) (mF:mg "is_term"=some (.ref f)) (B:Blt mg) (mM:mg "MOST_IN_CALL"=some (.int 3 tk))
 (gT:FnOk P w K mg base CX0 1 fT dT ["thing","count"] spTo) (kT:PySem.W.keepIn K (.ref fT)=true) (bT:Binds K dT ["thing","count"] []) (mT:mg "is_tuple_of"=some (.ref fT))
 (gN:FnOk P w K mg base CX0 1 fN dN ["thing"] spNm) (kN:PySem.W.keepIn K (.ref fN)=true) (bN:Binds K dN ["thing"] []) (mN:mg "is_name"=some (.ref fN))
 (FC:Fun K "are_call_terms" "are_call_terms" sCtQ fC dC) (kC:PySem.W.keepIn K (.ref fC)=true) (bC:Binds K dC ["thing"] []) (mC:mg "are_call_terms"=some (.ref fC)):∀n,FnOk P w K mg base CX0 (2*n+1) f fd ["thing"] (spTm n)
 |0=>⟨fun vs H Q E ⟨_,_,_,_,_,h,_⟩=>absurd h (by omega),fun A outer s H args us vs Q E _ _ _ _ ⟨_,_,_,_,_,h,_⟩=>absurd h (by omega)⟩
 |n+1=>ok_tm1 F gT kT bT mT gN kN bN mN (ok_ct1 FC B mM (ok_tm F kF bF mF B mM gT kT bT mT gN kN bN mN FC kC bC mC n) kF bF mF) kC bC mC
end
open PySem L2 Mth
section
variable {P:Program} {w:World} {K:PySem.W.Frag} {mg:Str→Option Value} {base:Heap}
def spInit (K:PySem.W.Frag):Sp:=fun vs H Q _=>∃(x C fI:Addr) (y:V),vs= [.ref x,y]∧H x=some (Exo C x)∧XCls K C fI∧Q .non H
theorem scI:FnScope ["self","words"] ["self","words"] (defScope sInit):=⟨rfl,rfl,rfl,by decide +kernel,rfl,by decide +kernel,by decide +kernel⟩
theorem ok_init {f:Addr} {fd:FuncData} (F:Fun K "__init__" "WishError.__init__" sInit f fd) (B:Blt mg):FnOk P w K mg base CX0 1 f fd ["self","words"] (spInit K):=by
 refine F.ok scI (fun vs H Q E h=> ?_) (fun cdv A outer s H vs Q E hr h=> ?_)
 · obtain ⟨x,C,fI,y,rfl,_⟩:=h
   rfl
 · obtain ⟨x,C,fI,y,rfl,hH,hX,k⟩:=h
   refine ⟨_,pss_one (ps_expr (pe_baseInit rfl B.ve (pa_cons (pv 0) (pa_cons (pv 1) pa_nil)))),?_⟩
   exact ⟨_,rfl,_,rfl,x,C,fI,[y],rfl,by show 1≤1000;decide,hH,hX,k⟩
def spFr (C:Addr):Sp:=fun vs H Q E=>∃(t b:Int),vs= [.int t, .int b]∧Big t∧Big b∧(b=0→E (.ref C) none H)∧(b≠0→∀p,H p=none→Q (.ref p) (upd H p (.tup [.int (fx t b), .int (fy t b)])))
theorem scF:FnScope ["top","bottom","divisor"] ["top","bottom"] (defScope sFr):=⟨rfl,rfl,rfl,by decide +kernel,rfl,by decide +kernel,by decide +kernel⟩
theorem ok_fr {f fC fI C:Addr} {fd fdC fdI:FuncData} (F:Fun K "fraction" "fraction" sFr f fd) (FC:Fun K "common_divisor" "common_divisor" sCd fC fdC) (bC:Binds K fdC ["one","other"] []) (mC:mg "common_divisor"=some (.ref fC))
 (FI:Fun K "__init__" "WishError.__init__" sInit fI fdI) (bI:Binds K fdI ["self","words"] []) (mX:mg "NoShare"=some (.ref C)) (XC:XCls K C fI) (B:Blt mg):FnOk P w K mg base (CX1 P w) 3 f fd ["top","bottom"] (spFr C):=by
 have GC:FnOk P w K mg base CX0 1 fC fdC ["one","other"] spCd:=ok_cd FC B
 have GI:FnOk P w K mg base CX0 1 fI fdI ["self","words"] (spInit K):=ok_init FI B
 refine F.okX scF (fun vs H Q E h=> ?_) (fun cdv A outer s H vs Q E hr h=> ?_)
 · obtain ⟨a,b,rfl,_⟩:=h
   rfl
 · obtain ⟨t,b,rfl,ht,hb,kE,kQ⟩:=h
   have hr1:Room 1 _:=hr.mono (by decide)
   refine ⟨_,pss_cons (ps_if (pt_cmpR op_eq (pv 1) pe_int (nomark _)) (pss_one (ps_raise rfl XC (pe_makeX XC GI hr rfl mX bI pass0 (pa_cons pe_str pa_nil) (by decide) (hlen:=fun vs H Q E ⟨_,_,_,_,e,_⟩=>by rw [e];show 2≤1000;decide)) throws_cx)) pss_nil)
    (pss_cons (ps_set (i:=2) scF.nd rfl (Or.inl rfl) (pe_call GC hr1 rfl mC FC.kp bC .nil pass0 (pa_cons (pv 0) (pa_cons (pv 1) pa_nil))))
    (pss_cons (ps_if (pt_cmpR op_lt (pv 1) pe_int (nomark _)) (pss_one (ps_set (i:=2) scF.nd rfl (Or.inl rfl) (pe_un un_neg (pv 2)))) pss_nil)
    (pss_one (ps_ret (pe_tup (pa_cons (pe_op op_fdivC (pv 0) (pv 2)) (pa_cons (pe_op op_fdivC (pv 1) (pv 2)) pa_nil))))))),?_⟩
   refine ⟨_,rfl,rfl,_,rfl,?_⟩
   by_cases z:b=0
   · subst z
     rw [decide_eq_true rfl]
     refine iteT ?_
     intro x nx ns
     refine ⟨x,C,fI,_,rfl,upd_same,XC,rfl,x,rfl,upd_same,ns,?_⟩
     rw [unt_upd nx]
     exact kE rfl
   · have z':¬(V.int b=V.int 0):=fun q=>z (V.int.inj q)
     rw [decide_eq_false z']
     refine iteF ?_
     refine ⟨_,rfl,_,rfl,t,b,rfl,?_⟩
     have bg:=big_gcd (t:=t) hb z
     have n0:=dv_ne (t:=t) z
     have last:∀d:Int,d=dv t b→∀H':Hp,H'=H→((tRet (tTup (tCons (tOp (rI (fun _ j=>j≠0∧Big j) fun i j=> .int (i.fdiv j)) (tVar 0) (tVar 2)) (tCons (tOp (rI (fun _ j=>j≠0∧Big j) fun i j=> .int (i.fdiv j)) (tVar 1) (tVar 2)) tNil))))
      {nx:=fun _ H'=>Q .non H',rt:=Q} [some (.int t),some (.int b),some (.int d)] H'):=by
      intro d hd H' hH
      subst hH
      have bd:Big d:=by
       rw [hd]
       unfold Big at*
       rw [dv_abs]
       omega
      have nd:d≠0:=by rw [hd];exact n0
      refine ⟨_,rfl,_,rfl,t,d,rfl,rfl,⟨nd,bd⟩,_,rfl,_,rfl,b,d,rfl,rfl,⟨nd,bd⟩,by show 2≤sizeLine;decide,fun p hp=> ?_⟩
      have:=kQ z p hp
      unfold fx fy at this
      rw [←hd] at this
      exact this
     refine ⟨_,rfl,b,0,rfl,rfl,_,rfl,?_⟩
     by_cases zb:b < 0
     · rw [decide_eq_true zb]
       refine iteT ?_
       refine ⟨_,rfl,_,rfl,?_⟩
       exact last _ (by unfold dv;rw [if_pos zb]) H rfl
     · rw [decide_eq_false zb]
       refine iteF ?_
       exact last _ (by unfold dv;rw [if_neg zb]) H rfl
end
end K81
namespace Tre
open PySem PySem.Spec PyProof.Rows L2
section
variable {X:Cx}
def rEqT:R2:=fun x y H Q=>∃ts us,TrAt H x (.tup ts)∧TrAt H y (.tup us)∧(Trs.pure ts∨Trs.pure us)∧Trs.depth ts≤40∧Q (.bl (eqTs ts us)) H
theorem items_eq {pins:List (Addr×Obj)} {σ:L2.St} {H:Hp} {s:Shared} {A:Around} {ts us:List Tr} {vs ws:List V} {as bs:List Value} (I:Inv X pins σ H s) (hu:A.units+42 < cLine) (h1:TrsAt H vs ts) (h2:TrsAt H ws us) (hp:Trs.pure ts∨Trs.pure us) (hd:Trs.depth ts≤40) (r1:Vals vs as) (r2:Vals ws bs)
 (j:Nat) (g1:j < as.toArray.size) (g2:j < bs.toArray.size):SeqAt.EqAt A s as.toArray[j] bs.toArray[j] (eqJ ts us j):=by
 have l1:=h1.len
 have l2:=h2.len
 have l3:=r1.length
 have l4:=r2.length
 have h1':j < as.length:=by simpa using g1
 have h2':j < bs.length:=by simpa using g2
 have t1:ts[j]?=some (ts[j]'(by omega)):=List.getElem?_eq_getElem _
 have t2:us[j]?=some (us[j]'(by omega)):=List.getElem?_eq_getElem _
 obtain ⟨v,e1,a1⟩:=h1.get t1
 obtain ⟨w,e2,a2⟩:=h2.get t2
 obtain ⟨u1,e3,q1⟩:=r1.get e1
 obtain ⟨u2,e4,q2⟩:=r2.get e2
 have z1:as.toArray[j]=u1:=by rw [List.getElem_toArray];rw [List.getElem?_eq_getElem h1'] at e3;exact Option.some.inj e3
 have z2:bs.toArray[j]=u2:=by rw [List.getElem_toArray];rw [List.getElem?_eq_getElem h2'] at e4;exact Option.some.inj e4
 rw [z1,z2,eqJ_at t1 t2]
 refine tr_eqAt I 40 ?_ ?_ a1 a2 q1 q2 (by omega)
 · have:=depth_memT (List.mem_of_getElem? t1)
   omega
 · rcases hp with hp|hp
   · exact .inl (pure_mem hp (List.mem_of_getElem? t1))
   · exact .inr (pure_mem hp (List.mem_of_getElem? t2))
theorem op_eqT (hu:X.A.units+50 < cLine):OpR X (compareOp .Eq) rEqT:=by
 intro pins s σ H x y v u Q I rx ry h
 obtain ⟨ts,us,h1,h2,hp,hd,q⟩:=h
 unfold TrAt at h1 h2
 obtain ⟨a,vs,rfl,g1,k1⟩:=h1
 obtain ⟨b,ws,rfl,g2,k2⟩:=h2
 cases rx
 cases ry
 obtain ⟨as,r1,p1,_⟩:=I.tuple (SqT.of g1)
 obtain ⟨bs,r2,p2,_⟩:=I.tuple (SqT.of g2)
 refine PySem.SeqAt.eq_tupleAt (e:=eqJ ts us) (show s.heap.IsTuple a as.toArray from p1) (show s.heap.IsTuple b bs.toArray from p2) (by omega) (fun j g1 g2=>items_eq I (by first|omega|(show X.A.units+1+42 < cLine;omega)) k1 k2 hp hd r1 r2 j g1 g2) ?_
 refine ⟨.bl (eqTs ts us),H,I,?_,q⟩
 rw [List.size_toArray,List.size_toArray,←r1.length,←r2.length,k1.len,k2.len,←eqTs_all]
 rfl
end
end Tre
namespace K81
open PySem L2 Mth EqD Tre
noncomputable def frB:Pl→Bool
 | .tup [.int a, .int b]=>decide (1≤b)&&decide (Int.gcd a b=1)
 |_=>false
theorem whB_int {p:Pl}:whB p=true↔∃i,p= .int i:=by
 cases p with
 |int i=>exact ⟨fun _=>⟨i,rfl⟩,fun _=>rfl⟩
 |bl b=>exact ⟨fun h=>(by cases h),fun ⟨i,e⟩=>(by cases e)⟩
 |non=>exact ⟨fun h=>(by cases h),fun ⟨i,e⟩=>(by cases e)⟩
 |str z=>exact ⟨fun h=>(by cases h),fun ⟨i,e⟩=>(by cases e)⟩
 |tup ts=>exact ⟨fun h=>(by cases h),fun ⟨i,e⟩=>(by cases e)⟩
 |lst=>exact ⟨fun h=>(by cases h),fun ⟨i,e⟩=>(by cases e)⟩
 |dct=>exact ⟨fun h=>(by cases h),fun ⟨i,e⟩=>(by cases e)⟩
theorem low_same {a b:Int} (hb:1≤b):(a / (Int.gcd a b:Int)=a∧b / (Int.gcd a b:Int)=b)↔Int.gcd a b=1:=by
 have g0:0 < Int.gcd a b:=Int.gcd_pos_of_ne_zero_right a (by omega)
 constructor
 · rintro ⟨_,h⟩
   have hm:b / (Int.gcd a b:Int)*(Int.gcd a b:Int)=b:=Int.ediv_mul_cancel (Int.gcd_dvd_right ..)
   rw [h] at hm
   have h1:b*((Int.gcd a b:Int) - 1)=0:=by rw [Int.mul_sub,hm,Int.mul_one,Int.sub_self]
   rcases Int.mul_eq_zero.mp h1 with z|z
   · omega
   · omega
 · intro h
   rw [h]
   exact ⟨Int.ediv_one a,Int.ediv_one b⟩
section
variable {P:Program} {w:World} {K:PySem.W.Frag} {mg:Str→Option Value} {base:Heap}
def spFq:Sp:=fun vs H Q _=>∃(v:V) (p:Pl),vs= [v]∧PlAt H v p∧(∀a b,p= .tup [.int a, .int b]→Big a∧Big b)∧∀H',Same H H'→Q (.bl (frB p)) H'
theorem scFq:FnScope ["thing"] ["thing"] (defScope sFrQ):=⟨rfl,rfl,rfl,by decide +kernel,rfl,by decide +kernel,by decide +kernel⟩
theorem ok_fq {f fT fW fF C:Addr} {fd dT dW dF:FuncData} (F:Fun K "is_fraction" "is_fraction" sFrQ f fd)
 (gT:FnOk P w K mg base CX0 1 fT dT ["thing","count"] spTo) (kT:PySem.W.keepIn K (.ref fT)=true) (bT:Binds K dT ["thing","count"] []) (mT:mg "is_tuple_of"=some (.ref fT))
 (gW:FnOk P w K mg base CX0 1 fW dW ["thing"] spIw) (kW:PySem.W.keepIn K (.ref fW)=true) (bW:Binds K dW ["thing"] []) (mW:mg "is_whole"=some (.ref fW))
 (gF:FnOk P w K mg base (CX1 P w) 3 fF dF ["top","bottom"] (spFr C)) (kF:PySem.W.keepIn K (.ref fF)=true) (bF:Binds K dF ["top","bottom"] []) (mF:mg "fraction"=some (.ref fF)):FnOk P w K mg base CX0 4 f fd ["thing"] spFq:=by
 refine F.ok scFq (fun vs H Q E h=> ?_) (fun cdv A outer s H vs Q E hr h=> ?_)
 · obtain ⟨v,p,rfl,_⟩:=h
   rfl
 obtain ⟨v,p,rfl,hv,hbig,k⟩:=h
 have hr1:Room 1 _:=hr.mono (by decide)
 have hu50:=Nat.lt_of_le_of_lt (Nat.add_le_add_left (show 50≤64 by decide) _) hr.units
 refine ⟨_,pss_cons (ps_if (PW.pt (pw_or (pt_not (pt_val (pe_call gT hr1 rfl mT kT bT .nil pass0 (pa_cons (pv 0) (pa_cons pe_int pa_nil))))) (pw_or (pt_not (pt_val (pe_call gW hr1 rfl mW kW bW .nil pass0 (pa_cons (pe_ix ix_tup (pv 0) pe_int fun _ _=>rfl) pa_nil)))) (pw_or1 (pt_not (pt_val (pe_call gW hr1 rfl mW kW bW .nil pass0 (pa_cons (pe_ix ix_tup (pv 0) pe_int fun _ _=>rfl) pa_nil)))))))) (pss_one (ps_ret pe_bl)) pss_nil)
  (pss_one (ps_ret (pe_and (pe_cmpR op_ge (pe_ix ix_tup (pv 0) pe_int fun _ _=>rfl) pe_int (nomark _)) (pe_one (pe_cmpR (op_eqT hu50) (pe_call gF (hr.mono (by decide)) rfl mF kF bF .nil pass1 (pa_cons (pe_ix ix_tup (pv 0) pe_int fun _ _=>rfl) (pa_cons (pe_ix ix_tup (pv 0) pe_int fun _ _=>rfl) pa_nil))) (pv 0) (nomark _)))))),?_⟩
 have no:frB p=false→Q (.bl false) H:=fun e=>by
  have k':=k H (Same.refl H)
  rw [e] at k'
  exact k'
 refine ⟨_,rfl,v,p,2,rfl,hv,_,rfl,?_⟩
 cases e2:toB 2 p with
 |false=>
  refine iteT (iteT (no ?_))
  unfold frB
  split
  · exact absurd e2 (by simp [toB])
  · rfl
 |true=>
  obtain ⟨a,b,rfl⟩:∃a b,p= .tup [a,b]:=by
   rcases shape p with h|⟨a,b,c,rfl⟩|⟨h,_⟩
   · exact h
   · simp [toB] at e2
   · rw [h] at e2
     cases e2
  obtain ⟨r,x,y,rfl,g,hx,hy⟩:=pl2 hv
  refine iteF ?_
  refine ⟨_,rfl,r,_,0,x,rfl,rfl,SqT.of g,rfl,x,a,rfl,hx,_,rfl,?_⟩
  cases ea:whB a with
  |false=>
   refine iteT (iteT (no ?_))
   unfold frB
   split
   · rename_i i j e
     simp only [Pl.tup.injEq,List.cons.injEq,and_true] at e
     rw [e.1] at ea
     cases ea
   · rfl
  |true=>
   obtain ⟨i,rfl⟩:=whB_int.mp ea
   refine iteF ?_
   refine ⟨_,rfl,r,_,1,y,rfl,rfl,SqT.of g,rfl,y,b,rfl,hy,_,rfl,?_⟩
   cases eb:whB b with
   |false=>
    refine iteT (no ?_)
    unfold frB
    split
    · rename_i i' j e
      simp only [Pl.tup.injEq,List.cons.injEq,and_true] at e
      rw [e.2] at eb
      cases eb
    · rfl
   |true=>
    obtain ⟨j,rfl⟩:=whB_int.mp eb
    refine iteF ?_
    have hx':x= .int i:=by unfold PlAt at hx;exact hx
    have hy':y= .int j:=by unfold PlAt at hy;exact hy
    subst hx' hy'
    have kk:∀H',Same H H'→Q (.bl (decide (1≤j)&&decide (Int.gcd i j=1))) H':=k
    refine ⟨_,rfl,r,_,1, .int j,rfl,rfl,SqT.of g,rfl,_,_,rfl,rfl,_,rfl,?_⟩
    by_cases z:(1:Int)≤j
    · rw [decide_eq_true z] at kk
      rw [decide_eq_true z]
      obtain ⟨b1,b2⟩:=hbig i j rfl
      refine iteT ⟨_,rfl,r,_,0, .int i,rfl,rfl,SqT.of g,rfl,_,rfl,r,_,1, .int j,rfl,rfl,SqT.of g,rfl,i,j,rfl,b1,b2,fun q=>by omega,fun _ q nq=> ?_⟩
      have sq:=same_upd (o:= .tup [.int (fx i j), .int (fy i j)]) nq
      refine ⟨_,rfl,[.int (fx i j), .int (fy i j)],[.int i, .int j],at_ints upd_same,at_ints (sq _ _ g), .inl (by simp [Trs.pure,Tr.pure]),(by simp [Trs.depth,Tr.depth]),?_⟩
      have e:eqTs [.int (fx i j), .int (fy i j)] [.int i, .int j]=decide (Int.gcd i j=1):=by
       have h1:fx i j=i / (Int.gcd i j:Int):=by
        unfold fx dv
        rw [if_neg (by omega),Int.fdiv_eq_ediv_of_nonneg _ (by omega)]
       have h2:fy i j=j / (Int.gcd i j:Int):=by
        unfold fy dv
        rw [if_neg (by omega),Int.fdiv_eq_ediv_of_nonneg _ (by omega)]
       rw [h1,h2,Bool.eq_iff_iff,decide_eq_true_iff,←low_same z]
       simp [eqTs,eqT]
      rw [e]
      exact kk _ sq
    · rw [decide_eq_false z] at kk
      rw [decide_eq_false z]
      exact iteF (kk H (Same.refl H))
end
end K81
namespace SlW
open PySem PySem.Spec PyProof.Rows SeqAt L2 Tre
section
variable {prog:Program} {w:World} {A:Around} {E:Value→Shared→Prop} {s:Shared}
theorem same_up {H:Hp} {p:Addr} {o:HO} (h:H p=none):Same H (upd H p o):=fun b u e=>by
 rw [upd_ne (ne_of_none e h)]
 exact e
theorem cut_whole {t sl:Addr} {xs:Array Value} {vl vu:Value} {lo hi:Option Int} {Q:Value→Shared→Prop} (ht:IsTup s.heap t xs) (hs:s.heap.IsSliceOf sl vl vu .none) (pl:IsPart vl lo) (pu:IsPart vu hi)
 (h1:HT.sIx xs.size 0 lo=0) (h2:HT.sIx xs.size xs.size hi=xs.size) (h:Q (.ref t) s):wpAny (model prog w) A (getItem (.ref t) (.ref sl)) Q E s:=by
 obtain ⟨os,hos,hcs,hds⟩:=id hs
 have hT:s.TypeIs (.ref sl) "slice":=⟨os,hos,hcs⟩
 unfold getItem
 try with_reducible refine wpAny_holding ?_
 first|refine wpAny_bind (wpAny_pure ?_)|skip
 refine wpAny_bind (wpAny_sequenceKey ht.typeIs (by decide) ?_)
 refine wpAny_bind (wpAny_callSpecial?_slot (name:=Str.ofString "__getitem__") ht.typeIs slot_tuple_getitem (wpAny_call_entry slot_tuple_getitem ht.typeIs entry_tuple_getitem ?_ (args_tuple_getitem _ _)))
 show wpAny _ _ (Builtin.Tuple.tupleItemsOf (.ref t) >>=_) _ _ s
 refine wpAny_bind (tupleItemsOf_ ht ?_)
 refine wpAny_bind (wpAny_typeOf hT ?_)
 rw [if_pos (by decide)]
 refine wpAny_bind (HT.sliceApplied_gen hs pl pu ?_)
 have q:(((HT.sIx xs.size 0 lo:Nat):Int)==0&& (1:Int)==1&& (HT.sIx xs.size xs.size hi - HT.sIx xs.size 0 lo)==xs.size)=true:=by
  rw [h1,h2]
  simp
 show wpAny _ _ (if (((HT.sIx xs.size 0 lo:Nat):Int)==0&& (1:Int)==1&& (HT.sIx xs.size xs.size hi - HT.sIx xs.size 0 lo)==xs.size)=true then _ else _) _ _ s
 rw [if_pos q]
 refine wpAny_bind (m:=Builtin.Tuple.tupleIsExact (.ref t)) (wpAny_bind (wpAny_typeOf ht.typeIs (wpAny_pure ?_)))
 rw [if_pos (by decide)]
 first
  |exact wpAny_pure ⟨_,rfl,wpAny_pure h⟩
  |exact wpAny_bind (wpAny_pure ⟨_,rfl,wpAny_pure h⟩)
  |exact wpAny_bind (wpAny_rule (wpAny_pure ⟨_,rfl,wpAny_pure h⟩))
  |(trace_state;exact wpAny_pure (wpAny_pure ⟨_,rfl,wpAny_pure h⟩))
end
section
variable {X:Cx}
def rSlA:V→Option Int→Option Int→Hp→VK→Prop:=fun x lo hi H Q=>∃a xs,x= .ref a∧H a=some (.tup xs)∧∀r H',Same H H'→H' r=some (.tup (cutV xs lo hi))→Q (.ref r) H'
theorem sl_A:SlR X rSlA:=by
 intro pins s σ H x v vl vu lo hi sl Q I rx hs pl pu h
 obtain ⟨a,xs,rfl,hx,q⟩:=h
 by_cases z:HT.sIx xs.length 0 lo=0∧HT.sIx xs.length xs.length hi=xs.length
 · cases rx
   obtain ⟨its,r,ht,hz⟩:=I.tuple (SqT.of hx)
   have hlen:its.toArray.size=xs.length:=by rw [List.size_toArray];exact r.length.symm
   refine ⟨"tuple",_,slot_tuple_getitem.lookup,ht.typeIs,?_⟩
   refine cut_whole ht hs pl pu (by rw [hlen];exact z.1) (by rw [hlen];exact z.2) ⟨.ref a,H,I,rfl,q a H (Same.refl H) ?_⟩
   have e:cutV xs lo hi=xs:=by
    unfold cutV
    rw [z.1,z.2]
    simp
   rw [e]
   exact hx
 · exact sl_tup pins s σ H _ v vl vu lo hi sl Q I rx hs pl pu ⟨a,xs,rfl,SqT.of hx,z,fun p np=>q p _ (same_up np) upd_same⟩
end
end SlW
namespace Zp
open PySem
section
variable {prog:Program} {w:World} {A:Around} {E:Value→Shared→Prop} {s:Shared} {k:Src} {z TI TO i1 i2 l1 l2:Addr} {j:Nat} {xs ys:Array Value} {x y a b:Value}
theorem zp_end2 {Q:Fin→Shared→Prop} (hh:A.handled=none) (D:ZipApart z TI TO i1 i2 l1 l2) (hz:IsZip s.heap z TI TO .none) (hI:IsPair s.heap TI (.ref i1) (.ref i2)) (hO:IsPair s.heap TO a b)
 (t1:k.It s.heap i1 l1 j) (t2:k.It s.heap i2 l2 j) (q1:k.Sq s.heap l1 xs) (q2:k.Sq s.heap l2 ys) (ex:xs[j]?=some x) (ends:ys[j]?=none)
 (q:∀h' e,(∀c o,c≠z→c≠TO→c≠i1→c≠i2→s.heap.get? c=some o→h'.get? c=some o)→(∃o,h'.get? e=some o∧o.cls= .type "StopIteration")→E (.ref e) {s with heap:=h'}):
 wpAny (model prog w) A (Builtin.«zip.__next__» ⟨[.ref z],[]⟩) Q E s:=by
 show wpAny _ _ (do let u←field (.ref z) 2;_) _ _ _
 refine wpAny_bind (wpAny_field hz rfl (x:= .bool false) rfl ?_)
 show wpAny _ _ (do let u←field (.ref z) 3;_) _ _ _
 refine wpAny_bind (wpAny_field hz rfl (x:= .ref TI) rfl (wpAny_bind (wpAny_seqItems hI rfl ?_)))
 show wpAny _ _ (do let u←Builtin.SmallTypes.ownedTupleIsFree (.ref z);_) _ _ _
 refine wpAny_bind ?_
 rw [Builtin.SmallTypes.ownedTupleIsFree]
 refine wpAny_bind (wpAny_field hz rfl (x:= .none) rfl (wpAny_pure ?_))
 simp only [if_true]
 refine wpAny_bind (wpAny_rule (wpAny_bind (wpAny_field hz rfl (x:= .ref TO) rfl (wpAny_bind (wpAny_setField_rec hz (by simp) fun g1 y1 s1=> ?_)))))
 have y1:IsZip g1 z TI TO .ellipsis:=y1
 refine wpAny_bind ?_
 simp only [List.forIn_cons,List.forIn_nil,List.zipIdx_nil,List.zipIdx_cons]
 refine wpAny_bind (wpAny_bind (wpAny_onRaise ?_))
 show wpAny _ _ (do let u←Builtin.SmallTypes.nextOf (.ref i1);_) _ _ _
 refine wpAny_bind (nx_item (s:= {s with heap:=g1}) (it_at t1 fun o e=>s1.extBut _ o D.i1z e) (sq_at q1 fun o e=>s1.extBut _ o D.l1z e) ex fun g2 u1 s2=>wpAny_pure ?_)
 have o2:IsPair g2 TO a b:=s2.extBut _ _ D.TOi1 (s1.extBut _ _ D.TOz hO)
 refine wpAny_bind (wpAny_seqItems o2 rfl (wpAny_bind (wpAny_updateSeq_pair (s:= {s with heap:=g2}) o2 fun g3 o3 s3=> ?_)))
 have o3:IsPair g3 TO x b:=o3
 refine wpAny_bind (wpAny_letGo (wpAny_pure (wpAny_bind (wpAny_bind (wpAny_onRaise ?_)))))
 show wpAny _ _ (do let u←Builtin.SmallTypes.nextOf (.ref i2);_) _ _ _
 refine wpAny_bind (nx_end (s:= {s with heap:=g3}) hh (it_at t2 fun o e=>s3.extBut _ o D.TOi2.symm (s2.extBut _ o D.i12.symm (s1.extBut _ o D.i2z e))) (sq_at q2 fun o e=>s3.extBut _ o D.l2TO (s2.extBut _ o D.l2i1 (s1.extBut _ o D.l2z e))) ends fun g4 e s4 he=> ?_)
 obtain ⟨oe,e1,e2⟩:=he
 have y4:IsZip g4 z TI TO .ellipsis:=s4 _ _ D.i2z.symm (s3.extBut _ _ D.TOz.symm (s2.extBut _ _ D.i1z.symm y1))
 have ne:e≠z:=fun n=>by subst n;rw [y4] at e1;cases e1;simp at e2
 exact wpAny_setField_rec y4 (by simp) fun g5 _ s5=>q g5 e (fun c o c1 c2 c3 c4 n=>s5.extBut _ _ c1 (s4 _ _ c4 (s3.extBut _ _ c2 (s2.extBut _ _ c3 (s1.extBut _ _ c1 n))))) ⟨oe,s5.extBut _ _ ne e1,e2⟩
theorem zn_end2 {Q:Option Value→Shared→Prop} (hh:A.handled=none) (D:ZipApart z TI TO i1 i2 l1 l2) (hz:IsZip s.heap z TI TO .none) (hI:IsPair s.heap TI (.ref i1) (.ref i2)) (hO:IsPair s.heap TO a b)
 (t1:k.It s.heap i1 l1 j) (t2:k.It s.heap i2 l2 j) (q1:k.Sq s.heap l1 xs) (q2:k.Sq s.heap l2 ys) (ex:xs[j]?=some x) (ends:ys[j]?=none)
 (q:∀h',(∀c o,c≠z→c≠TO→c≠i1→c≠i2→s.heap.get? c=some o→h'.get? c=some o)→Q none {s with heap:=h'}):wpAny (model prog w) A (pyNext (.ref z)) Q E s:=by
 have ty:s.TypeIs (.ref z) "zip":=⟨_,hz,rfl⟩
 rw [pyNext]
 refine wpAny_bind (wpAny_attempt (wpAny_callSpecial?_slot (name:=Str.ofString "__next__") ty F.slot_zip_next (wpAny_call_entry F.slot_zip_next ty F.entry_zip_next (zp_end2 hh D hz hI hO t1 t2 q1 q2 ex ends fun h' e up he=> ?_) (F.args_zip_next_1 _))))
 obtain ⟨o,e1,e2⟩:=he
 exact wpAny_bind (wpAny_isInstance (T:="StopIteration") (b:=true) ⟨o,e1,e2⟩ isSubtype_stop (wpAny_pure (q _ up)))
end
end Zp
namespace L2
open PySem PySem.Spec PyProof.Rows Zp
def Itz2 (k:Src) (K:PySem.W.Frag) (a b:Addr):It:=⟨(Itz k K a b).go,(Itz k K a b).yld,fun i H=>(Itz k K a b).stop i H∨∃xs ys,Sqk k K H a xs∧Sqk k K H b ys∧i < xs.length∧ys.length≤i⟩
theorem turn_zip2 {P:Program} {w:World} {K:PySem.W.Frag} {es:List Expr} {kk:Nat} {pos:Pos} {k:Src} (a b z TI TO i1 i2:Addr) (hd: [z,TI,TO,i1,i2].Nodup):
 Turn P w K (.Tuple es kk pos) (Itz2 k K a b) [z,TI,TO,i1,i2] z (fun i h=>IsZip h z TI TO .none∧IsPair h TI (.ref i1) (.ref i2)∧(∃u v,IsPair h TO u v)∧k.It h i1 a i∧k.It h i2 b i∧a∉ [z,TI,TO,i1,i2]∧b∉ [z,TI,TO,i1,i2]) where
 mem:=(turn_zip (P:=P) (w:=w) (es:=es) (kk:=kk) (pos:=pos) (k:=k) (K:=K) a b z TI TO i1 i2 hd).mem
 obj:=(turn_zip (P:=P) (w:=w) (es:=es) (kk:=kk) (pos:=pos) (k:=k) (K:=K) a b z TI TO i1 i2 hd).obj
 keep:=(turn_zip (P:=P) (w:=w) (es:=es) (kk:=kk) (pos:=pos) (k:=k) (K:=K) a b z TI TO i1 i2 hd).keep
 item:=(turn_zip (P:=P) (w:=w) (es:=es) (kk:=kk) (pos:=pos) (k:=k) (K:=K) a b z TI TO i1 i2 hd).item
 self:=(turn_zip (P:=P) (w:=w) (es:=es) (kk:=kk) (pos:=pos) (k:=k) (K:=K) a b z TI TO i1 i2 hd).self
 done:=by
  intro X hP hw hK hc i pins s σ H E I hf st hg
  rcases hg with hg|hg
  · exact (turn_zip (P:=P) (w:=w) (es:=es) (kk:=kk) (pos:=pos) (k:=k) (K:=K) a b z TI TO i1 i2 hd).done X hP hw hK hc i pins s σ H E I hf st hg
  · obtain ⟨h1,h2,⟨u0,v0,h3⟩,h4,h5,h6,h7⟩:=st
    subst hP hw hK
    obtain ⟨xs,ys,g1,g2,g3,g4⟩:=hg
    obtain ⟨as,r1,p1,z1⟩:=I.sqk g1
    obtain ⟨bs,r2,p2,z2⟩:=I.sqk g2
    have hl:=r1.length
    have hl2:=r2.length
    simp only [List.nodup_cons,List.mem_cons,List.not_mem_nil,or_false,not_or,List.nodup_nil,and_true,not_false_eq_true] at hd h6 h7
    obtain ⟨⟨d1,d2,d3,d4⟩,⟨d5,d6,d7⟩,⟨d8,d9⟩,d10⟩:=hd
    have D:ZipApart z TI TO i1 i2 a b:=⟨Ne.symm d1,Ne.symm d2,Ne.symm d3,Ne.symm d4,d5,d6,d7,d8,d9,d10,h6.1,h6.2.2.1,h6.2.2.2.1,h6.2.2.2.2,h7.1,h7.2.2.1,h7.2.2.2.1,h7.2.2.2.2⟩
    have hi:i < as.length:=by omega
    refine zn_end2 (I.ok.hd hc) D h1 h2 h3 h4 h5 p1 p2 (x:=as[i]) (by simp [hi]) (by simp;omega) fun h' up=>⟨rfl,I.turneds (t':=s.toks) (fun c o n e=> ?_) hf⟩
    simp only [List.mem_cons,List.not_mem_nil,or_false,not_or] at n
    exact up c o n.1 n.2.2.1 n.2.2.2.1 n.2.2.2.2 e
section
variable {X:Cx}
def iZip2 (k:Src) (K:PySem.W.Frag) (ta:TA):TI:=fun σ H R=>ta σ H fun vs H1=>∃a b xs ys,vs= [.ref a, .ref b]∧Sqk k K H1 a xs∧Sqk k K H1 b ys∧R (Itz2 k K a b) H1
theorem pi_zip2 {k:Src} {es:List Expr} {kk:Nat} {pt:Pos} {x y:Expr} {ta:TA} {p pos:Pos} (hg:Gl X "zip") (hm:X.mg "zip"=none) (ha:PA X [x,y] ta) (hs:starEach [x,y] X.env= [(false,eval x X.env),(false,eval y X.env)]:=by rfl) (hs2:starEach [y] X.env= [(false,eval y X.env)]:=by rfl):
 PI X (.Tuple es kk pt) (.Call (.Name "zip" p) [x,y] [] pos) (iZip2 k X.K ta):=by
 intro pins s σ H R I h
 refine Call_ (ld_blt I hg hm PyProof.Rows.boot_zip (PyProof.Rows.callWith_type1 (thn (ha pos pins s σ H _ I h) fun us s1 ⟨vs,H1,I1,r1,q1⟩=> ?_) (by rw [hs,hs2]) (by rw [hs2];rfl)))
 obtain ⟨a,b,xs,ys,e,k1,k2,q⟩:=q1
 subst e
 cases r1 with
 |cons r rr=>
  cases rr with
  |cons r' rr=>
   cases rr
   cases r
   cases r'
   obtain ⟨as,_,p1,_⟩:=I1.sqk k1
   obtain ⟨bs,_,p2,_⟩:=I1.sqk k2
   refine call_zip p1 p2 fun h' hz hI hO t1 t2 sz up=> ?_
   refine wpAny_pyIter_zip (s:= {s1 with heap:=h'}) hz ?_
   have lta:a < s1.heap.objs.size:=by
    cases k
    · obtain ⟨o,e,_⟩:=p1
      exact Heap.lt_size e
    · obtain ⟨o,e,_⟩:=p1
      exact Heap.lt_size e
   have ltb:b < s1.heap.objs.size:=by
    cases k
    · obtain ⟨o,e,_⟩:=p2
      exact Heap.lt_size e
    · obtain ⟨o,e,_⟩:=p2
      exact Heap.lt_size e
   have na:∀j,a≠s1.heap.objs.size+j:=fun j=>Nat.ne_of_lt (Nat.lt_of_lt_of_le lta (Nat.le_add_right ..))
   have nb:∀j,b≠s1.heap.objs.size+j:=fun j=>Nat.ne_of_lt (Nat.lt_of_lt_of_le ltb (Nat.le_add_right ..))
   have le:∀c∈ [s1.heap.objs.size+4,s1.heap.objs.size+2,s1.heap.objs.size+3,s1.heap.objs.size+0,s1.heap.objs.size+1],s1.heap.objs.size≤c:=fun c hc=>by
    simp only [List.mem_cons,List.not_mem_nil,or_false] at hc
    rcases hc with rfl|rfl|rfl|rfl|rfl<;>exact Nat.le_add_right ..
   refine ⟨s1.heap.objs.size+4,[s1.heap.objs.size+4,s1.heap.objs.size+2,s1.heap.objs.size+3,s1.heap.objs.size+0,s1.heap.objs.size+1],_,_,H1,rfl,I1.kept (t':=s1.toks) up,turn_zip2 a b _ _ _ _ _ (by simp),⟨hz,hI,⟨_,_,hO⟩,t1,t2,?_,?_⟩,fun c hc=>I1.fpOk (le c hc) (I1.hok.fresh (le c hc)),q⟩
   · simp only [List.mem_cons,List.not_mem_nil,or_false,not_or]
     exact ⟨na 4,na 2,na 3,na 0,na 1⟩
   · simp only [List.mem_cons,List.not_mem_nil,or_false,not_or]
     exact ⟨nb 4,nb 2,nb 3,nb 0,nb 1⟩
end
def CompZ (J:It) (mp:List (Option Nat)) (g:TG) (te:TE) (σ:L2.St) (Q:VK) (H1:Hp):Prop:=∀D,H1 D=none→
 ∃W:Nat→Nat→List V→Hp→Prop,(∃m,W 0 m [] (upd H1 D (.lst [])))∧∀i m acc H2,W i m acc H2→
  (J.stop i H2∧Q (.ref D) H2)∨
  (J.go i H2∧∀x H3,J.yld i H2 x H3→g x (subS mp σ) H3 fun σ4 H4=>Ext (subS mp σ) σ4∧tNoTest σ4 H4 fun b H5=>if b=true then te σ4 H5 fun v H6=>H6 D=some (.lst acc)∧acc.length < sizeLine∧∃m',m' < m∧W (i+1) m' (acc++ [v]) (upd H6 D (.lst (acc++ [v]))) else∃m',m' < m∧W (i+1) m' acc H5)
theorem tcompZ_of {k:Src} {K:PySem.W.Frag} {mp:List (Option Nat)} {ta:TA} {g:TG} {te:TE} {σ:L2.St} {H:Hp} {Q:VK} (h:ta σ H fun vs H1=>∃a b xs ys,vs= [.ref a, .ref b]∧Sqk k K H1 a xs∧Sqk k K H1 b ys∧CompZ (Itz2 k K a b) mp g te σ Q H1):tComp mp (iZip2 k K ta) g tNoTest te σ H Q:=h
theorem compZ_mk {k:Src} {K K':PySem.W.Frag} {a b:Addr} {mp:List (Option Nat)} {te:TE} {Q:VK} {σ rest:L2.St} {H1:Hp} {xs ys:List V} (e:subS mp σ=none::none::rest) (hl:ys.length≤xs.length)
 (h:∀D,H1 D=none→∃Pv:Nat→List V→Hp→Prop,Pv 0 [] (upd H1 D (.lst []))∧(∀i acc H,Pv i acc H→Sqk k K H a xs∧Sqk k K H b ys)∧
  (∀i T x y acc H,i < ys.length→i < sizeLine→Pv i acc H→xs[i]?=some x→ys[i]?=some y→H T=none→te (some x::some y::rest) (upd H T (.tup [x,y])) (CompN ys.length i D acc Pv))∧∀acc H,Pv ys.length acc H→Q (.ref D) H):
 CompZ (Itz2 k K a b) mp (gTup K' 2 (gCons (gName 0) (gCons (gName 1) gNil))) te σ Q H1:=by
 intro D nD
 rw [e]
 obtain ⟨Pv,p0,pq,ps,pd⟩:=h D nD
 refine ⟨fun i m acc H=>m=ys.length - i∧i≤ys.length∧Pv i acc H,⟨ys.length,by simp,Nat.zero_le _,p0⟩,?_⟩
 rintro i m acc H ⟨rfl,hi,p⟩
 obtain ⟨q1,q2⟩:=pq i acc H p
 by_cases hlt:i < ys.length
 · refine .inr ⟨⟨xs,ys,xs[i],ys[i],q1,q2,by simp,by simp [hlt]⟩,?_⟩
   rintro v H' ⟨T,x,y,rfl,nT,rfl,y1,y2,z⟩
   refine ⟨T,[x,y],rfl,SqT.of upd_same,rfl,x,[y],rfl,y,[],rfl,rfl,ext2,?_⟩
   exact ps i T x y acc H hlt z p (y1 xs q1) (y2 ys q2) nT
 · have ei:i=ys.length:=by omega
   subst ei
   refine .inl ⟨?_,pd acc H p⟩
   by_cases hx:xs.length≤ys.length
   · exact .inl ⟨xs,ys,q1,q2,hx⟩
   · exact .inr ⟨xs,ys,q1,q2,by omega,Nat.le_refl _⟩
end L2
namespace Su
open PySem L2 Tre Mth Wd
def rv (p:Fr):Rat:=(p.1:Rat) / (p.2:Rat)
abbrev Sh (p:Fr):Prop:=Share p.1 p.2
theorem ne0 {b:Int} (h:0 < b):(b:Rat)≠0:=by
 simp only [ne_eq,Rat.intCast_eq_zero_iff]
 omega
theorem rv_eq {p q:Fr} (h1:0 < p.2) (h2:0 < q.2):rv p=rv q↔p.1*q.2=q.1*p.2:=by
 have a:=ne0 h1
 have b:=ne0 h2
 unfold rv
 constructor
 · intro h
   have:(p.1:Rat)*q.2=q.1*p.2:=by grind
   exact_mod_cast this
 · intro h
   have:(p.1:Rat)*q.2=q.1*p.2:=by exact_mod_cast h
   grind
theorem rv_inj {p q:Fr} (h1:Sh p) (h2:Sh q) (e:rv p=rv q):p=q:=by
 rw [rv_eq h1.1 h2.1] at e
 obtain ⟨a,b⟩:=p
 obtain ⟨c,d⟩:=q
 obtain ⟨b0,g1⟩:=h1
 obtain ⟨d0,g2⟩:=h2
 dsimp only at*
 have n1:a.natAbs*d.natAbs=c.natAbs*b.natAbs:=by rw [←Int.natAbs_mul,←Int.natAbs_mul,e]
 have g1':Nat.Coprime b.natAbs a.natAbs:=by rw [Nat.coprime_comm];exact g1
 have g2':Nat.Coprime d.natAbs c.natAbs:=by rw [Nat.coprime_comm];exact g2
 have d1:b.natAbs∣d.natAbs:=g1'.dvd_of_dvd_mul_left ⟨c.natAbs,by rw [n1,Nat.mul_comm]⟩
 have d2:d.natAbs∣b.natAbs:=g2'.dvd_of_dvd_mul_left ⟨a.natAbs,by rw [←n1,Nat.mul_comm]⟩
 have e1:=Nat.dvd_antisymm d1 d2
 have e2:b=d:=by omega
 subst e2
 have e3:a=c:=Int.eq_of_mul_eq_mul_right (by omega) e
 rw [e3]
theorem sh_plus {p q:Fr} (h1:Sh p) (h2:Sh q):Sh (plusF p q):=(plus_ok h1 h2).1
theorem rv_plus {p q:Fr} (h1:Sh p) (h2:Sh q):rv (plusF p q)=rv p+rv q:=by
 obtain ⟨s,e⟩:=plus_ok h1 h2
 have a:=ne0 h1.1
 have b:=ne0 h2.1
 have c:=ne0 s.1
 have e':((pX p.1 p.2 q.1 q.2:Int):Rat)*(p.2*q.2)=(p.1*q.2+q.1*p.2)*(pY p.1 p.2 q.1 q.2:Int):=by exact_mod_cast e
 unfold rv plusF
 dsimp only
 grind
theorem sh_zero:Sh zero:=⟨by decide,by decide⟩
theorem rv_zero:rv zero=0:=by
 show ((0:Int):Rat) / ((1:Int):Rat)=0
 have:((0:Int):Rat)=0:=by simp
 rw [this]
 grind
theorem rv_ne {p:Fr} (h:Sh p):rv p=0↔p=zero:=by
 constructor
 · intro e
   exact rv_inj h sh_zero (e.trans rv_zero.symm)
 · rintro rfl
   exact rv_zero
noncomputable def low (t b:Int):Fr:=(t / (Int.gcd t b:Int),b / (Int.gcd t b:Int))
abbrev Pq:=Tr×Fr
def prT (p:Pq):Tr:= .tup [p.1,frT p.2]
open Classical in
noncomputable def tot (t:Tr):List Pq→Rat
 | []=>0
 |p::r=>(if p.1=t then rv p.2 else 0)+tot t r
theorem tot_app (t:Tr) (a b:List Pq):tot t (a++b)=tot t a+tot t b:=by
 induction a with
 |nil=>simp only [List.nil_append,tot];grind
 |cons p r ih=>simp only [List.cons_append,tot,ih];grind
open Classical in
theorem tot_one (t:Tr) (p:Pq):tot t [p]=if p.1=t then rv p.2 else 0:=by
 simp only [tot]
 grind
theorem tot_none {t:Tr}:∀ {l:List Pq},(∀p∈l,p.1≠t)→tot t l=0
 | [],_=>rfl
 |p::r,h=>by
  simp only [tot]
  rw [if_neg (h p List.mem_cons_self),tot_none fun q m=>h q (List.mem_cons_of_mem _ m)]
  grind
abbrev Asc (us:List Pq):Prop:=us.Pairwise fun a b=>ltT a.1 b.1=true
theorem lt_irr (t:Tr):ltT t t=false:=by
 cases e:ltT t t with
 |false=>rfl
 |true=>exact (ltT_asym e).symm.trans e |>.symm
theorem lt_ne {t u:Tr} (h:ltT t u=true):t≠u:=fun z=>by
 rw [z,lt_irr] at h
 cases h
theorem asc_tot {us:List Pq} (h:Asc us) {p:Pq} (m:p∈us):tot p.1 us=rv p.2:=by
 induction us with
 |nil=>cases m
 |cons q r ih=>
  obtain ⟨h1,h2⟩:=List.pairwise_cons.mp h
  simp only [tot]
  rcases List.mem_cons.mp m with e|m
  · subst e
    rw [if_pos rfl,tot_none fun x mx=>(lt_ne (h1 x mx)).symm]
    grind
  · rw [if_neg (lt_ne (h1 p m)),ih h2 m]
    grind
structure Can (ps us:List Pq):Prop where
 asc:Asc us
 sh:∀p∈us,Sh p.2∧p.2≠zero
 eq:∀t,tot t us=tot t ps
theorem Can.mem {ps us vs:List Pq} (h1:Can ps us) (h2:Can ps vs) {p:Pq} (m:p∈us):p∈vs:=by
 have e1:=asc_tot h1.asc m
 rw [h1.eq,←h2.eq] at e1
 have n0:rv p.2≠0:=fun z=>(h1.sh p m).2 ((rv_ne (h1.sh p m).1).mp z)
 refine Classical.byContradiction fun no=> ?_
 by_cases q:∀x∈vs,x.1≠p.1
 · rw [tot_none q] at e1
   exact n0 e1.symm
 · obtain ⟨x,hx⟩:=Classical.not_forall.mp q
   obtain ⟨mx,ex⟩:=Classical.not_imp.mp hx
   have ex:=Classical.not_not.mp ex
   have e2:=asc_tot h2.asc mx
   rw [ex,e1] at e2
   have e3:=rv_inj (h1.sh p m).1 (h2.sh x mx).1 e2
   have:x=p:=Prod.ext ex e3.symm
   rw [this] at mx
   exact no mx
theorem Can.to {ps qs us:List Pq} (h:Can ps us) (e:∀t,tot t ps=tot t qs):Can qs us:=⟨h.asc,h.sh,fun t=>(h.eq t).trans (e t)⟩
structure Run (ds us:List Pq):Prop where
 asc:Asc us
 sh:∀p∈us,Sh p.2
 eq:∀t,tot t us=tot t ds
 key:∀p∈us,∃d∈ds,d.1=p.1
theorem Run.nil:Run [] []:=⟨.nil,(fun p m=>by cases m),fun t=>rfl,fun p m=>by cases m⟩
theorem Run.app {ds us:List Pq} {u:Pq} (h:Run ds us) (hl:∀p∈us,ltT p.1 u.1=true) (hs:Sh u.2):Run (ds++ [u]) (us++ [u]):=by
 refine ⟨?_,fun p m=> ?_,fun t=>by rw [tot_app,tot_app,h.eq],fun p m=> ?_⟩
 · refine List.pairwise_append.mpr ⟨h.asc,List.pairwise_singleton _ _,fun a ma b mb=> ?_⟩
   rw [List.mem_singleton.mp mb]
   exact hl a ma
 · rcases List.mem_append.mp m with m|m
   · exact h.sh p m
   · rw [List.mem_singleton.mp m]
     exact hs
 · rcases List.mem_append.mp m with m|m
   · obtain ⟨d,md,e⟩:=h.key p m
     exact ⟨d,List.mem_append_left _ md,e⟩
   · rw [List.mem_singleton.mp m]
     exact ⟨u,List.mem_append_right _ List.mem_cons_self,rfl⟩
theorem Run.add {ds us:List Pq} {t:Tr} {f g:Fr} (h:Run ds (us++ [(t,f)])) (hs:Sh g):Run (ds++ [(t,g)]) (us++ [(t,plusF f g)]):=by
 have hf:Sh f:=h.sh (t,f) (List.mem_append_right _ List.mem_cons_self)
 obtain ⟨a1,_,a3⟩:=List.pairwise_append.mp h.asc
 refine ⟨?_,fun p m=> ?_,fun u=> ?_,fun p m=> ?_⟩
 · refine List.pairwise_append.mpr ⟨a1,List.pairwise_singleton _ _,fun a ma b mb=> ?_⟩
   rw [List.mem_singleton.mp mb]
   exact a3 a ma (t,f) List.mem_cons_self
 · rcases List.mem_append.mp m with m|m
   · exact h.sh p (List.mem_append_left _ m)
   · rw [List.mem_singleton.mp m]
     exact sh_plus hf hs
 · have e:=h.eq u
   rw [tot_app,tot_one] at e
   rw [tot_app,tot_app,tot_one,tot_one,←e,rv_plus hf hs]
   dsimp only
   by_cases z:t=u
   · simp only [if_pos z];grind
   · simp only [if_neg z];grind
 · rcases List.mem_append.mp m with m|m
   · obtain ⟨d,md,e⟩:=h.key p (List.mem_append_left _ m)
     exact ⟨d,List.mem_append_left _ md,e⟩
   · rw [List.mem_singleton.mp m]
     exact ⟨(t,g),List.mem_append_right _ List.mem_cons_self,rfl⟩
theorem tot_filter (t:Tr) {us:List Pq} (h:∀p∈us,Sh p.2):tot t (us.filter fun p=>decide (p.2≠zero))=tot t us:=by
 induction us with
 |nil=>rfl
 |cons p r ih=>
  have ih:=ih fun q m=>h q (List.mem_cons_of_mem _ m)
  rw [List.filter_cons]
  by_cases z:p.2=zero
  · have e:decide (p.2≠zero)=false:=by simp [z]
    rw [e,if_neg (by decide),ih]
    simp only [tot,z,rv_zero]
    grind
  · have e:decide (p.2≠zero)=true:=by simp [z]
    rw [e,if_pos rfl]
    simp only [tot,ih]
theorem Run.fin {ps us:List Pq} (h:Run ps us):Can ps (us.filter fun p=>decide (p.2≠zero)):=by
 refine ⟨h.asc.filter _,fun p m=> ?_,fun t=>(tot_filter t h.sh).trans (h.eq t)⟩
 obtain ⟨m1,m2⟩:=List.mem_filter.mp m
 exact ⟨h.sh p m1,by simpa using m2⟩
theorem lt_pair {p q:Pq} (h:ltT p.1 q.1=true):ltT (prT p) (prT q)=true:=by
 rw [ltT_iff] at h ⊢
 show LtC (.tup (code p.1::_)) (.tup (code q.1::_))
 simp only [LtC,LtCs]
 exact .inl h
theorem le_pair {p q:Pq} (h:ltT (prT q) (prT p)=false):ltT q.1 p.1=false:=by
 cases e:ltT q.1 p.1 with
 |false=>rfl
 |true=>rw [lt_pair e] at h;cases h
theorem lt_of {t u:Tr} (h1:ltT u t=false) (h2:eqT t u=false):ltT t u=true:=by
 cases e:ltT t u with
 |true=>rfl
 |false=>rw [ltT_eq e h1] at h2;cases h2
end Su
namespace L2
open PySem PySem.Spec PyProof.Rows
section
variable {X:Cx}
def rNeP (K:PySem.W.Frag):R2:=fun x y H Q=>∃(p q:Addr) (a b c d:Int),x= .ref p∧y= .ref q∧SqT K H p [.int a, .int b]∧SqT K H q [.int c, .int d]∧Q (.bl (!decide (a=c∧b=d))) H
theorem op_neP (hu:X.A.units+1 < cLine):OpR X (compareOp .NotEq) (rNeP X.K):=by
 intro pins s σ H x y v u Q I rx ry h
 obtain ⟨p,q,a,b,c,d,e1,e2,hp,hq,k⟩:=h
 subst e1 e2
 cases (show v=Value.ref p from rx)
 cases (show u=Value.ref q from ry)
 obtain ⟨its,r1,t1,_⟩:=I.tuple hp
 obtain ⟨its2,r2,t2,_⟩:=I.tuple hq
 obtain ⟨u1,u2,rfl,⟨w1,rfl⟩,⟨w2,rfl⟩⟩:=Vals.two r1
 obtain ⟨u3,u4,rfl,⟨w3,rfl⟩,⟨w4,rfl⟩⟩:=Vals.two r2
 refine SeqAt.RcNeAt.tuples (A:=X.A) (e:=fun j=>if j=0 then a==c else b==d) (show s.heap.IsTuple p _ from t1) (show s.heap.IsTuple q _ from t2) (by omega) (fun j h1 h2=> ?_) X.prog X.w X.xe _ ?_
 · match j,h1,h2 with
   |0,_,_=>exact PySem.SeqAt.EqAt.int_int a w1 c w3
   |1,_,_=>exact PySem.SeqAt.EqAt.int_int b w2 d w4
   |j+2,h1,_=>
    have:j+2 < 2:=h1
    omega
 · refine ⟨.bl (!decide (a=c∧b=d)),H,I,?_,k⟩
   show Value.bool (!(((a==c)&& ((b==d)&&true))&&true))=Value.bool (!decide (a=c∧b=d))
   congr 2
   rw [Bool.and_true,Bool.and_true,Bool.eq_iff_iff]
   simp
end
end L2
namespace Tre
open PySem L2
theorem TrsAt.set {H:Hp} {v:V} {t:Tr} (hv:TrAt H v t):∀ {vs:List V} {ts:List Tr} {i:Nat},TrsAt H vs ts→TrsAt H (vs.set i v) (ts.set i t)
 |vs,[],i,h=>by
  unfold TrsAt at h
  subst h
  simp
  exact .nil
 |vs,u::ts,0,h=>by
  obtain ⟨w,r,rfl,h1,h2⟩:=h.inv
  exact .cons hv h2
 |vs,u::ts,i+1,h=>by
  obtain ⟨w,r,rfl,h1,h2⟩:=h.inv
  exact .cons h1 (TrsAt.set hv h2)
theorem tm_tup {t:Tr} (h:Ty .tm t):∃ts,t= .tup ts:=by
 cases h<;>exact ⟨_,rfl⟩
end Tre
namespace Su
open PySem L2 Tre Mth Wd
structure Gq (e:Nat) (p:Pq):Prop where
 ty:Ty .tm p.1
 dep:p.1.depth≤7
 gf:Gf e p.2
 sh:Sh p.2
theorem Gq.mono {m n:Nat} {p:Pq} (h:Gq m p) (hn:m≤n):Gq n p:=⟨h.ty,h.dep,h.gf.mono hn,h.sh⟩
theorem Gq.pr {e:Nat} {p:Pq} (h:Gq e p):Ty .pr (prT p)∧(prT p).depth≤8:=by
 refine ⟨.pr _ _ h.ty (.fr _ _),?_⟩
 have:=h.dep
 unfold prT frT
 simp only [Tr.depth,Trs.depth]
 omega
open PySem L2 Tre Mth Wd
def m1:Fr:=(-1,1)
def p1:Fr:=(1,1)
end Su
namespace L2
theorem if_f {c:Bool} {p q:Prop} (h:c=false) (hq:q):if c=true then p else q:=by
 rw [h,if_neg (by decide)]
 exact hq
theorem ne_int {a b:Int} (h:a=b):(!decide (V.int a=V.int b))=false:=by
 rw [h,decide_eq_true rfl]
 rfl
theorem if_t {c:Bool} {p q:Prop} (h:c=true) (hp:p):if c=true then p else q:=by
 rw [h,if_pos rfl]
 exact hp
end L2
namespace EqD
open PySem PySem.Spec PyProof.Rows SeqAt L2 Tre
section
variable {X:Cx}
def rLtR:R2:=fun x y H Q=>∃t u,TrAt H x t∧TrAt H y u∧(t.pure∨u.pure)∧Cm t u∧t.depth≤40∧Q (.bl (ltT t u)) H
theorem op_ltR (hu:X.A.units+50 < cLine):OpR X (compareOp .Lt) rLtR:=by
 intro pins s σ H x y v u Q I rx ry h
 obtain ⟨t,r,h1,h2,hp,hc,hd,q⟩:=h
 exact tr_ltAt I 40 hd hp hc h1 h2 rx ry (by omega) X.prog X.w X.xe _ ⟨.bl (ltT t r),H,I,rfl,q⟩
end
theorem cut1 (xs:List V):cutV xs (some 1) none=xs.drop 1:=by
 cases xs with
 |nil=>rfl
 |cons x xs=>
  unfold cutV
  rw [show (1:Int)=((1:Nat):Int) by rfl,HT.sIx_nat,HT.sIx_none,Nat.min_eq_left (by simp)]
  simp
theorem tcb_one {r:List V→Hp→VK→Prop} {te:TE} {σ:L2.St} {H:Hp} {Q:VK} (h:te σ H fun v H1=>r [v] H1 Q):tCB r (tCons te tNil) σ H Q:=h
theorem tret_one {te:TE} {Z:Ends} {σ:L2.St} {H:Hp} (h:te σ H Z.rt):tRet te Z σ H:=h
theorem tnb_one {r:List V→Hp→VK→Prop} {te:TE} {σ:L2.St} {H:Hp} {Q:Bool→Hp→Prop} (h:te σ H fun v H1=>r [v] H1 fun x H2=>∃c,x= .bl c∧Q (!c) H2):tNot (tB (tCB r (tCons te tNil))) σ H Q:=h
theorem tand_all {ta:TE} {r:List V→Hp→VK→Prop} {te:TE} {σ:L2.St} {H:Hp} {Q:VK} (h:ta σ H fun x H1=>∃c,x= .bl c∧if c=true then te σ H1 fun v H2=>r [v] H2 Q else Q (.bl false) H1):tAndV ta (tCB r (tCons te tNil)) σ H Q:=h
theorem tseq_or {ta tb:TT} {t u rest:TS} {Z:Ends} {σ:L2.St} {H:Hp} {b1 b2:Bool} (h1:∀Q:Bool→Hp→Prop,Q b1 H→ta σ H Q) (h2:∀Q:Bool→Hp→Prop,Q b2 H→tb σ H Q) (h:if (b1 ||b2)=true then t {Z with nx:=rest Z} σ H else u {Z with nx:=rest Z} σ H):tSeq (tIfS (tOr ta tb) t u) rest Z σ H:=by
 refine h1 _ ?_
 cases b1 with
 |true=>exact iteT h
 |false=>exact iteF (h2 _ h)
mutual
noncomputable def toTr:Pl→Tr
 | .non=> .non
 | .bl b=> .bl b
 | .int i=> .int i
 | .str x=> .str x
 | .tup ts=> .tup (toTrs ts)
 | .lst=> .ls
 | .dct=> .ls
noncomputable def toTrs:List Pl→List Tr
 | []=> []
 |t::ts=>toTr t::toTrs ts
end
theorem toTrs_map:∀ts:List Pl,toTrs ts=ts.map toTr
 | []=>by rw [toTrs];rfl
 |t::ts=>by rw [toTrs,toTrs_map ts];rfl
mutual
noncomputable def toPl:Tr→Pl
 | .non=> .non
 | .bl b=> .bl b
 | .int i=> .int i
 | .str x=> .str x
 | .tup ts=> .tup (toPls ts)
 | .ls=> .lst
noncomputable def toPls:List Tr→List Pl
 | []=> []
 |t::ts=>toPl t::toPls ts
end
theorem toPls_map:∀ts:List Tr,toPls ts=ts.map toPl
 | []=>by rw [toPls];rfl
 |t::ts=>by rw [toPls,toPls_map ts];rfl
mutual
theorem pl_of {H:Hp}:∀ {v:V} {t:Tr},TrAt H v t→PlAt H v (toPl t)
 |v, .non,h=>by unfold TrAt at h;rw [toPl];unfold PlAt;exact h
 |v, .bl b,h=>by unfold TrAt at h;rw [toPl];unfold PlAt;exact h
 |v, .int i,h=>by unfold TrAt at h;rw [toPl];unfold PlAt;exact h
 |v, .str x,h=>by unfold TrAt at h;rw [toPl];unfold PlAt;exact h
 |v, .ls,h=>by unfold TrAt at h;rw [toPl];unfold PlAt;exact h
 |v, .tup ts,h=>by
  unfold TrAt at h
  rw [toPl]
  unfold PlAt
  obtain ⟨r,vs,e,g,hs⟩:=h
  exact ⟨r,vs,e,g,pls_of hs⟩
theorem pls_of {H:Hp}:∀ {vs:List V} {ts:List Tr},TrsAt H vs ts→PlsAt H vs (toPls ts)
 |vs,[],h=>by unfold TrsAt at h;rw [toPls];unfold PlsAt;exact h
 |vs,t::ts,h=>by
  unfold TrsAt at h
  rw [toPls]
  unfold PlsAt
  obtain ⟨v,r,e,h1,h2⟩:=h
  exact ⟨v,r,e,pl_of h1,pls_of h2⟩
end
mutual
theorem tr_of {H:Hp}:∀ {v:V} {p:Pl},PlAt H v p→(toTr p).pure→TrAt H v (toTr p)
 |v, .non,h,_=>by unfold PlAt at h;rw [toTr];unfold TrAt;exact h
 |v, .bl b,h,_=>by unfold PlAt at h;rw [toTr];unfold TrAt;exact h
 |v, .int i,h,_=>by unfold PlAt at h;rw [toTr];unfold TrAt;exact h
 |v, .str x,h,_=>by unfold PlAt at h;rw [toTr];unfold TrAt;exact h
 |v, .lst,_,q=>by rw [toTr] at q;exact absurd q (by simp [Tr.pure])
 |v, .dct,_,q=>by rw [toTr] at q;exact absurd q (by simp [Tr.pure])
 |v, .tup ts,h,q=>by
  unfold PlAt at h
  rw [toTr] at q ⊢
  unfold TrAt
  unfold Tr.pure at q
  obtain ⟨r,vs,e,g,hs⟩:=h
  exact ⟨r,vs,e,g,trs_of hs q⟩
theorem trs_of {H:Hp}:∀ {vs:List V} {ts:List Pl},PlsAt H vs ts→Trs.pure (toTrs ts)→TrsAt H vs (toTrs ts)
 |vs,[],h,_=>by unfold PlsAt at h;rw [toTrs];unfold TrsAt;exact h
 |vs,t::ts,h,q=>by
  unfold PlsAt at h
  rw [toTrs] at q ⊢
  unfold TrsAt
  unfold Trs.pure at q
  obtain ⟨v,r,e,h1,h2⟩:=h
  exact ⟨v,r,e,tr_of h1 q.1,trs_of h2 q.2⟩
end
end EqD
namespace K81
open PySem L2 Mth EqD Tre Wd Su
mutual
def Ok:Pl→Prop
 | .str x=>x.length≤1000
 | .int i=>Big i
 | .tup ts=>ts.length≤1000∧Oks ts
 |_=>True
def Oks:List Pl→Prop
 | []=>True
 |t::ts=>Ok t∧Oks ts
end
theorem ok_mem:∀ {ts:List Pl} {t:Pl},Oks ts→t∈ts→Ok t
 |a::ts,t,h,m=>by
  unfold Oks at h
  rcases List.mem_cons.mp m with rfl|m
  · exact h.1
  · exact ok_mem h.2 m
mutual
theorem Ok.sm:∀ {p:Pl},Ok p→Sm p
 | .str x,h=>by unfold Ok at h;unfold Sm;exact h
 | .tup ts,h=>by unfold Ok at h;unfold Sm;exact ⟨h.1,Oks.sm h.2⟩
 | .int i,_=>by unfold Sm;trivial
 | .non,_=>by unfold Sm;trivial
 | .bl _,_=>by unfold Sm;trivial
 | .lst,_=>by unfold Sm;trivial
 | .dct,_=>by unfold Sm;trivial
theorem Oks.sm:∀ {ts:List Pl},Oks ts→Sms ts
 | [],_=>by unfold Sms;trivial
 |t::ts,h=>by unfold Oks at h;unfold Sms;exact ⟨Ok.sm h.1,Oks.sm h.2⟩
end
theorem Ok.big {p:Pl} (h:Ok p):∀a b,p= .tup [.int a, .int b]→Big a∧Big b:=fun a b e=>by
 subst e
 unfold Ok Oks Oks at h
 have h1:=h.2.1
 have h2:=h.2.2.1
 unfold Ok at h1 h2
 exact ⟨h1,h2⟩
theorem ok2 {a b:Pl} (h:Ok (.tup [a,b])):Ok a∧Ok b:=by
 unfold Ok Oks Oks at h
 exact ⟨h.2.1,h.2.2.1⟩
theorem ok3 {a b c:Pl} (h:Ok (.tup [a,b,c])):Ok a∧Ok b∧Ok c:=by
 unfold Ok Oks Oks Oks at h
 exact ⟨h.2.1,h.2.2.1,h.2.2.2.1⟩
theorem dep2 {a b:Pl} {n:Nat} (h:pdep (.tup [a,b]) < n+1):pdep a < n∧pdep b < n:=by
 simp only [pdep,psdep] at h
 omega
theorem dep3 {a b c:Pl} {n:Nat} (h:pdep (.tup [a,b,c]) < n+1):pdep a < n∧pdep b < n∧pdep c < n:=by
 simp only [pdep,psdep] at h
 omega
theorem tm_ty:∀(n:Nat) {p:Pl},tmB n p=true→Ty .tm (toTr p)∧(toTr p).depth≤2*n
 |0,p,h=>by simp [tmB] at h
 |n+1,p,h=>by
  rcases shape p with ⟨a,b,rfl⟩|⟨a,b,c,rfl⟩|⟨_,_,e⟩
  · rw [tmB,Bool.and_eq_true] at h
    obtain ⟨h1,h2⟩:=h
    cases a with
    |str k=>
     cases b with
     |str x=>
      have ek:k=Str.ofString "name":=by
       simpa [isS] using h1
      subst ek
      simp only [toTr,toTrs]
      exact ⟨.nm x,by simp only [Tr.depth,Trs.depth];omega⟩
     |_=>cases h2
    |_=>cases h1
  · rw [tmB,Bool.and_eq_true,Bool.and_eq_true] at h
    obtain ⟨h1,h2,h3⟩:=h
    cases a with
    |str k=>
     cases b with
     |str x=>
      have ek:k=Str.ofString "call":=by
       simpa [isS] using h1
      subst ek
      cases c with
      |tup ts=>
       rw [ctB,Bool.and_eq_true,Bool.and_eq_true,tms_all,List.all_eq_true] at h3
       obtain ⟨_,h4,h5⟩:=h3
       have h4:=of_decide_eq_true h4
       have ih:=fun t m=>tm_ty n (h5 t m)
       simp only [toTr,toTrs]
       rw [toTrs_map]
       refine ⟨.ap x _ (by rw [List.length_map];omega) fun t m=> ?_,?_⟩
       · obtain ⟨u,mu,rfl⟩:=List.mem_map.mp m
         exact (ih u mu).1
       · have:Trs.depth (ts.map toTr)≤2*n:=depths_le fun t m=>by
          obtain ⟨u,mu,rfl⟩:=List.mem_map.mp m
          exact (ih u mu).2
         simp only [Tr.depth,Trs.depth]
         omega
      |_=>cases h3
     |_=>cases h2
    |_=>cases h1
  · rw [e n] at h
    cases h
noncomputable def zB:Pl→Bool
 | .tup [.int a, .int b]=>decide (a=0∧b=1)
 |_=>false
noncomputable def prB:Pl→Bool
 | .tup [a,b]=>tmB 12 a&& (frB b&& !zB b)
 |_=>false
def fstP:Pl→Pl
 | .tup (a::_)=>a
 |p=>p
noncomputable def ascB (ts:List Pl):Bool:=(ts.zip (ts.drop 1)).all fun x=>ltT (toTr (fstP x.1)) (toTr (fstP x.2))
noncomputable def smB:Pl→Bool
 | .tup ts=>ts.all prB&&ascB ts
 |_=>false
theorem prB_no {p:Pl} (h:toB 2 p=false):prB p=false:=by
 unfold prB
 split
 · simp [toB] at h
 · rfl
theorem fr_ints {b:Pl} (h:frB b=true):∃x y,b= .tup [.int x, .int y]:=by
 unfold frB at h
 split at h
 · exact ⟨_,_,rfl⟩
 · cases h
section
variable {P:Program} {w:World} {K:PySem.W.Frag} {mg:Str→Option Value} {base:Heap}
def spPr:Sp:=fun vs H Q _=>∃(v:V) (p:Pl),vs= [v]∧PlAt H v p∧Ok p∧pdep p < 13∧∀H',Same H H'→Q (.bl (prB p)) H'
theorem scPr:FnScope ["thing"] ["thing"] (defScope sPrQ):=⟨rfl,rfl,rfl,by decide +kernel,rfl,by decide +kernel,by decide +kernel⟩
theorem ok_pr {f fO fT fF Z:Addr} {fd dO dT dF:FuncData} (F:Fun K "is_pair" "is_pair" sPrQ f fd)
 (gO:FnOk P w K mg base CX0 1 fO dO ["thing","count"] spTo) (kO:PySem.W.keepIn K (.ref fO)=true) (bO:Binds K dO ["thing","count"] []) (mO:mg "is_tuple_of"=some (.ref fO))
 (gT:FnOk P w K mg base CX0 25 fT dT ["thing"] (spTm 12)) (kT:PySem.W.keepIn K (.ref fT)=true) (bT:Binds K dT ["thing"] []) (mT:mg "is_term"=some (.ref fT))
 (gF:FnOk P w K mg base CX0 4 fF dF ["thing"] spFq) (kF:PySem.W.keepIn K (.ref fF)=true) (bF:Binds K dF ["thing"] []) (mF:mg "is_fraction"=some (.ref fF))
 (mZ:mg "ZERO"=some (.ref Z)) (hZ:∀H:Hp,SqT K H Z [.int 0, .int 1]):FnOk P w K mg base CX0 26 f fd ["thing"] spPr:=by
 refine F.ok scPr (fun vs H Q E h=> ?_) (fun cdv A outer s H vs Q E hr h=> ?_)
 · obtain ⟨v,u,rfl,_⟩:=h
   rfl
 obtain ⟨v,p,rfl,hv,ok,hd,k⟩:=h
 have hr1:Room 1 _:=hr.mono (by decide)
 have hr4:Room 4 _:=hr.mono (by decide)
 have hu1:=hu_of hr
 refine ⟨_,pss_one (ps_ret (pe_and (pe_call gO hr1 rfl mO kO bO .nil pass0 (pa_cons (pv 0) (pa_cons pe_int pa_nil))) (pe_and (pe_call gT hr rfl mT kT bT .nil pass0 (pa_cons (pe_ix ix_tup (pv 0) pe_int fun _ _=>rfl) pa_nil)) (pe_and (pe_call gF hr4 rfl mF kF bF .nil pass0 (pa_cons (pe_ix ix_tup (pv 0) pe_int fun _ _=>rfl) pa_nil))
  (pe_one (pe_cmpR (op_neP hu1) (pe_ix ix_tup (pv 0) pe_int fun _ _=>rfl) (pe_glob (v:= .ref Z) rfl mZ rfl) (nomark _))))))),?_⟩
 refine ⟨_,rfl,v,p,2,rfl,hv,_,rfl,?_⟩
 cases e2:toB 2 p with
 |false=>
  have k':=k H (Same.refl H)
  rw [prB_no e2] at k'
  exact iteF k'
 |true=>
  obtain ⟨a,b,rfl⟩:∃a b,p= .tup [a,b]:=by
   rcases shape p with h|⟨a,b,c,rfl⟩|⟨h,_⟩
   · exact h
   · simp [toB] at e2
   · rw [h] at e2
     cases e2
  obtain ⟨r,x,y,rfl,g,hx,hy⟩:=pl2 hv
  obtain ⟨oa,ob⟩:=ok2 ok
  obtain ⟨da,db⟩:=dep2 hd
  have k2:∀H',Same H H'→Q (.bl (tmB 12 a&& (frB b&& !zB b))) H':=k
  refine iteT ⟨_,rfl,r,_,0,_,rfl,rfl,SqT.of g,rfl,x,a,rfl,hx,oa.sm,da,fun H1 s1=>⟨_,rfl,?_⟩⟩
  cases e3:tmB 12 a with
  |false=>
   rw [e3] at k2
   exact iteF (k2 _ s1)
  |true=>
   rw [e3] at k2
   have g1:=s1 _ _ g
   refine iteT ⟨_,rfl,r,_,1,_,rfl,rfl,SqT.of g1,rfl,y,b,rfl,hy.mono (Ke.of_same s1),ob.big,fun H2 s2=>⟨_,rfl,?_⟩⟩
   have s12:=s1.trans s2
   cases e4:frB b with
   |false=>
    rw [e4] at k2
    exact iteF (k2 _ s12)
   |true=>
    rw [e4] at k2
    obtain ⟨i,j,rfl⟩:=fr_ints e4
    obtain ⟨q,y1,y2,rfl,gq,h1,h2⟩:=pl2 (hy.mono (Ke.of_same s12))
    unfold PlAt at h1 h2
    subst h1 h2
    refine iteT ⟨_,rfl,r,_,1,_,rfl,rfl,SqT.of (s12 _ _ g),rfl,q,Z,i,j,0,1,rfl,rfl,SqT.of gq,hZ _,?_⟩
    exact k2 _ s12
def spSq:Sp:=fun vs H Q _=>∃(v:V) (p:Pl),vs= [v]∧PlAt H v p∧Ok p∧pdep p < 14∧∀H',Same H H'→Q (.bl (smB p)) H'
theorem scSq:FnScope ["thing"] ["thing"] (defScope sSmQ):=⟨rfl,rfl,rfl,by decide +kernel,rfl,by decide +kernel,by decide +kernel⟩
theorem zip_take {α:Type} (l:List α) (i:Nat) {x y:α} (ex:l[i]?=some x) (ey:l[1+i]?=some y):(l.zip (l.drop 1)).take (i+1)=(l.zip (l.drop 1)).take i++ [(x,y)]:=by
 rw [List.take_add_one]
 have:(l.zip (l.drop 1))[i]?=some (x,y):=by
  rw [List.getElem?_zip_eq_some]
  refine ⟨ex,?_⟩
  rw [List.getElem?_drop]
  exact ey
 rw [this]
 rfl
theorem ok_sq {f fP:Addr} {fd dP:FuncData} (F:Fun K "is_sum" "is_sum" sSmQ f fd) (B:Blt mg)
 (gP:FnOk P w K mg base CX0 26 fP dP ["thing"] spPr) (kP:PySem.W.keepIn K (.ref fP)=true) (bP:Binds K dP ["thing"] []) (mP:mg "is_pair"=some (.ref fP)):FnOk P w K mg base CX0 27 f fd ["thing"] spSq:=by
 refine F.ok scSq (fun vs H Q E h=> ?_) (fun cdv A outer s H vs Q E hr h=> ?_)
 · obtain ⟨v,us,rfl,_⟩:=h
   rfl
 obtain ⟨v,p,rfl,hv,ok,hd,k⟩:=h
 have hun:=hr.units
 have hu50:_+50 < cLine:=Nat.lt_of_le_of_lt (Nat.add_le_add_left (by decide) _) hun
 have nd2:(["one","other"]:List Str).Nodup:=by decide +kernel
 refine ⟨_,pss_cons (ps_if (PW.pt (pw_or (pt_not (pt_val (pe_callB (r:=rIsi K) call_isi rfl B.isi boot_isinstance (pa_cons (pv 0) (pa_cons (pe_bltn (v:= .ty "tuple") rfl B.tu PyProof.Rows.boot_tuple rfl) pa_nil))))) (pw_or1 (pt_not (pt_val (pe_callB (call_allT rfl) rfl B.al PyProof.Rows.boot_all (pa_cons (pe_comp (NC:= ["pair"]) (mp:= [none]) rfl (pi_tup (pv 0)) (fun _ _ _ _ _=>pg_name (i:=0) (by simp) rfl (Or.inl rfl)) (fun _ _ _ _ _=>pts_nil) (fun _ _ _ _ _=>pe_call gP hr rfl mP kP bP .nil pass0 (pa_cons (pv 0) pa_nil))) pa_nil))))))) (pss_one (ps_ret pe_bl)) pss_nil)
  (pss_one (ps_ret (pe_callB (call_allT rfl) rfl B.al PyProof.Rows.boot_all (pa_cons (pe_comp (NC:= ["one","other"]) (mp:= [none,none]) (g:=gTup K 2 (gCons (gName 0) (gCons (gName 1) gNil))) rfl (pi_zip2 (k:= .tup) rfl B.zi (pa_cons (pv 0) (pa_cons (pe_slice SlW.sl_A (pv 0) (po_some pe_int) po_none) pa_nil))) (fun _ _ _ _ _=>pg_tup (n:=2) rfl (pgs_cons (pg_name (i:=0) nd2 rfl (Or.inl rfl)) (pgs_cons (pg_name (i:=1) nd2 rfl (Or.inl rfl)) pgs_nil))) (fun _ _ _ _ _=>pts_nil)
   (fun _ _ _ _ _=>pe_cmpR (r:=rLtR) (op_ltR hu50) (pe_ix (r:=rIxT K) ix_tup (pv 0) pe_int fun _ _=>rfl) (pe_ix (r:=rIxT K) ix_tup (pv 1) pe_int fun _ _=>rfl) (nomark _))) pa_nil)))),?_⟩
 have hL20:(20000:Nat)≤sizeLine:=by decide +kernel
 refine ⟨_,rfl,v, .ty "tuple",_,isTup p,rfl,ty_pl hv, .inl ⟨rfl,kit_tup K p⟩,_,rfl,?_⟩
 cases p with
 |tup ts=>
  have hv':=hv
  unfold PlAt at hv'
  obtain ⟨r,xs,rfl,g,hT⟩:=hv'
  have tl:=hT.len
  have okt:ts.length≤1000∧Oks ts:=by
   unfold Ok at ok
   exact ok
  have dts:∀t∈ts,pdep t < 13:=fun t m=>by
   have:=dep_mem m
   simp only [pdep] at hd
   omega
  refine iteF ?_
  refine tnb_one ?_
  refine tcomp_of (rest:= []) rfl ?_
  refine ⟨_,rfl,r,rfl,⟨xs,SqT.of g⟩,fun L nL=> ?_⟩
  refine comp_tup (xs:=xs) (fun i acc H'=>Same H H'∧H' L=some (.lst acc)∧acc=((ts.take i).map prB).map V.bl) ⟨same_upd nL,upd_same,rfl⟩ (fun i acc H' p=>SqT.of (p.1 _ _ g)) ?_ ?_
  · rintro i x acc H1 hi ex ⟨s1,hD,rfl⟩
    obtain ⟨t,et,ht⟩:=hT.get' ex
    have mt:=List.mem_of_getElem? et
    refine ⟨_,rfl,x,t,rfl,ht.mono (Ke.of_same s1),ok_mem okt.2 mt,dts t mt,fun H2 s2=> ?_⟩
    refine CompN.mk hi ?_ (s2 _ _ hD) ⟨same_wr nL (s1.trans s2),upd_same,?_⟩
    · rw [List.length_map,List.length_map,List.length_take]
      omega
    · rw [List.take_add_one,et]
      simp
  rintro acc H1 ⟨s1,hL,rfl⟩
  rw [tl,List.take_length] at hL
  refine ⟨L,_,rfl,SqL.of hL,?_⟩
  rw [show ((ts.map prB).all id)=ts.all prB by rw [List.all_map];rfl]
  have k2:∀H',Same H H'→Q (.bl (ts.all prB&&ascB ts)) H':=k
  refine ⟨_,rfl,?_⟩
  cases ea:ts.all prB with
  |false=>
   rw [ea] at k2
   exact iteT (k2 _ s1)
  |true=>
  rw [ea] at k2
  have pall:=List.all_eq_true.mp ea
  refine iteF ?_
  refine tnx_of ?_
  try dsimp only
  refine tret_one ?_
  refine tcb_one ?_
  refine tcompZ_of ?_
  refine ⟨_,rfl,_,rfl,_,rfl,r,xs,rfl,s1 _ _ g,fun q H2 s2 hp=> ?_⟩
  rw [cut1 xs] at hp
  have s12:=s1.trans s2
  have g2:=s12 _ _ g
  refine ⟨r,q,xs,xs.drop 1,rfl,SqT.of g2,SqT.of hp,?_⟩
  refine compZ_mk (K':=K) (rest:= []) (xs:=xs) (ys:=xs.drop 1) rfl (by rw [List.length_drop];omega) fun D nD=> ?_
  refine ⟨fun i acc H'=>Same H2 H'∧H' D=some (.lst acc)∧acc=(((ts.zip (ts.drop 1)).take i).map fun x=>ltT (toTr (fstP x.1)) (toTr (fstP x.2))).map V.bl,⟨same_upd nD,upd_same,rfl⟩,fun i acc H' q=>⟨SqT.of (q.1 _ _ g2),SqT.of (q.1 _ _ hp)⟩,?_,?_⟩
  · rintro i T x y acc H3 hi _ ⟨s3,hD,rfl⟩ ex ey nT
    rw [List.length_drop] at hi
    rw [List.getElem?_drop] at ey
    have sT:=same_upd (o:= .tup [x,y]) nT
    have s13:=(s12.trans s3).trans sT
    obtain ⟨u,eu,hu⟩:=(hT.mono (Ke.of_same s13)).get' ex
    obtain ⟨z,ez,hz⟩:=(hT.mono (Ke.of_same s13)).get' ey
    have pair:∀ {t:Pl},t∈ts→∃a b,t= .tup [a,b]∧tmB 12 a=true:=fun {t} m=>by
     have:=pall t m
     unfold prB at this
     split at this
     · rw [Bool.and_eq_true] at this
       exact ⟨_,_,rfl,this.1⟩
     · cases this
    obtain ⟨u1,u2,rfl,tu⟩:=pair (List.mem_of_getElem? eu)
    obtain ⟨z1,z2,rfl,tz⟩:=pair (List.mem_of_getElem? ez)
    obtain ⟨a,a1,a2,rfl,ga,q1,_⟩:=pl2 hu
    obtain ⟨b,b1,b2,rfl,gb,q2,_⟩:=pl2 hz
    have yu:=tm_ty 12 tu
    have yz:=tm_ty 12 tz
    refine ⟨_,rfl,a,_,0,_,rfl,rfl,SqT.of ga,atI_nat (j:=0) rfl,_,rfl,b,_,0,_,rfl,rfl,SqT.of gb,atI_nat (j:=0) rfl,toTr u1,toTr z1,tr_of q1 (ty_pure yu.1),tr_of q2 (ty_pure yz.1), .inl (ty_pure yu.1),ty_cm 30 (by omega) yu.1 yz.1,by omega,?_⟩
    refine CompN.mk (by rw [List.length_drop];exact hi) ?_ (sT _ _ hD) ⟨same_wr nD (s3.trans sT),upd_same,?_⟩
    · rw [List.length_map,List.length_map,List.length_take]
      omega
    · rw [zip_take ts i eu ez]
      simp [fstP]
  rintro acc H3 ⟨s3,hD,rfl⟩
  refine ⟨D,_,rfl,SqL.of hD,?_⟩
  have e:(((ts.zip (ts.drop 1)).take (xs.drop 1).length).map fun x=>ltT (toTr (fstP x.1)) (toTr (fstP x.2))).all id=ascB ts:=by
   rw [List.take_of_length_le (by rw [List.length_zip,List.length_drop,List.length_drop];omega),List.all_map]
   rfl
  rw [e]
  exact k2 _ (s12.trans s3)
 |non=>exact iteT (iteT (k H (Same.refl H)))
 |bl b=>exact iteT (iteT (k H (Same.refl H)))
 |int i=>exact iteT (iteT (k H (Same.refl H)))
 |str z=>exact iteT (iteT (k H (Same.refl H)))
 |lst=>exact iteT (iteT (k H (Same.refl H)))
 |dct=>exact iteT (iteT (k H (Same.refl H)))
end
open PySem L2 Mth EqD Tre Wd Su
noncomputable def atB:Pl→Bool
 | .tup [k,x]=>isS "flag" k&&nmB x
 | .tup [k,a,b]=>if isS "most" k=true then smB a&&frB b else isS "like" k&& (tmB 12 a&&tmB 12 b)
 |_=>false
def isT:Pl→List Pl
 | .tup ts=>ts
 |_=> []
noncomputable def wsB:Nat→Pl→Bool
 |0,_=>false
 |n+1,p=>if toB 2 p=true then
  (match isT p with
   | [k,x]=>if isS "not" k=true then wsB n x else if (isS "both" k ||isS "either" k)=true then isTup x&& (isT x).all (wsB n) else atB p
   |_=>false)
  else atB p
theorem at_no {p:Pl} (h2:toB 2 p=false) (h3:toB 3 p=false):atB p=false:=by
 unfold atB
 split
 · simp [toB] at h2
 · simp [toB] at h3
 · rfl
section
variable {P:Program} {w:World} {K:PySem.W.Frag} {mg:Str→Option Value} {base:Heap}
def spAq:Sp:=fun vs H Q _=>∃(v:V) (p:Pl),vs= [v]∧PlAt H v p∧Ok p∧pdep p < 13∧∀H',Same H H'→Q (.bl (atB p)) H'
theorem scAq:FnScope ["thing"] ["thing"] (defScope sAtQ):=⟨rfl,rfl,rfl,by decide +kernel,rfl,by decide +kernel,by decide +kernel⟩
theorem ok_aq {f fO fN fS fF fT:Addr} {fd dO dN dS dF dT:FuncData} (F:Fun K "is_atom" "is_atom" sAtQ f fd)
 (gO:FnOk P w K mg base CX0 1 fO dO ["thing","count"] spTo) (kO:PySem.W.keepIn K (.ref fO)=true) (bO:Binds K dO ["thing","count"] []) (mO:mg "is_tuple_of"=some (.ref fO))
 (gN:FnOk P w K mg base CX0 1 fN dN ["thing"] spNm) (kN:PySem.W.keepIn K (.ref fN)=true) (bN:Binds K dN ["thing"] []) (mN:mg "is_name"=some (.ref fN))
 (gS:FnOk P w K mg base CX0 27 fS dS ["thing"] spSq) (kS:PySem.W.keepIn K (.ref fS)=true) (bS:Binds K dS ["thing"] []) (mS:mg "is_sum"=some (.ref fS))
 (gF:FnOk P w K mg base CX0 4 fF dF ["thing"] spFq) (kF:PySem.W.keepIn K (.ref fF)=true) (bF:Binds K dF ["thing"] []) (mF:mg "is_fraction"=some (.ref fF))
 (gT:FnOk P w K mg base CX0 25 fT dT ["thing"] (spTm 12)) (kT:PySem.W.keepIn K (.ref fT)=true) (bT:Binds K dT ["thing"] []) (mT:mg "is_term"=some (.ref fT)):FnOk P w K mg base CX0 28 f fd ["thing"] spAq:=by
 refine F.ok scAq (fun vs H Q E h=> ?_) (fun cdv A outer s H vs Q E hr h=> ?_)
 · obtain ⟨v,u,rfl,_⟩:=h
   rfl
 obtain ⟨v,p,rfl,hv,ok,hd,k⟩:=h
 have hr1:Room 1 _:=hr.mono (by decide)
 have hr4:Room 4 _:=hr.mono (by decide)
 have hr25:Room 25 _:=hr.mono (by decide)
 have hu0:=Nat.lt_of_le_of_lt (Nat.add_le_add_left (show 0≤64 by decide) _) hr.units
 refine ⟨_,pss_cons (ps_if (pt_val (pe_call gO hr1 rfl mO kO bO .nil pass0 (pa_cons (pv 0) (pa_cons pe_int pa_nil)))) (pss_one (ps_ret (pe_and (pe_cmpR (op_eqS hu0) (pe_ix ix_tup (pv 0) pe_int fun _ _=>rfl) pe_str (nomark _)) (pe_one (pe_call gN hr1 rfl mN kN bN .nil pass0 (pa_cons (pe_ix ix_tup (pv 0) pe_int fun _ _=>rfl) pa_nil)))))) pss_nil)
  (pss_cons (ps_if (pt_not (pt_val (pe_call gO hr1 rfl mO kO bO .nil pass0 (pa_cons (pv 0) (pa_cons pe_int pa_nil))))) (pss_one (ps_ret pe_bl)) pss_nil)
  (pss_cons (ps_if (pt_cmpR (op_eqS hu0) (pe_ix ix_tup (pv 0) pe_int fun _ _=>rfl) pe_str (nomark _)) (pss_one (ps_ret (pe_and (pe_call gS hr rfl mS kS bS .nil pass0 (pa_cons (pe_ix ix_tup (pv 0) pe_int fun _ _=>rfl) pa_nil)) (pe_one (pe_call gF hr4 rfl mF kF bF .nil pass0 (pa_cons (pe_ix ix_tup (pv 0) pe_int fun _ _=>rfl) pa_nil)))))) pss_nil)
  (pss_one (ps_ret (pe_and (pe_cmpR (op_eqS hu0) (pe_ix ix_tup (pv 0) pe_int fun _ _=>rfl) pe_str (nomark _)) (pe_and (pe_call gT hr25 rfl mT kT bT .nil pass0 (pa_cons (pe_ix ix_tup (pv 0) pe_int fun _ _=>rfl) pa_nil)) (pe_one (pe_call gT hr25 rfl mT kT bT .nil pass0 (pa_cons (pe_ix ix_tup (pv 0) pe_int fun _ _=>rfl) pa_nil))))))))),?_⟩
 refine ⟨_,rfl,v,p,2,rfl,hv,_,rfl,?_⟩
 rcases shape p with ⟨a,b,rfl⟩|⟨a,b,c,rfl⟩|⟨e2,e3,_⟩
 · obtain ⟨r,x,y,rfl,g,hx,hy⟩:=pl2 hv
   obtain ⟨oa,ob⟩:=ok2 ok
   have k':Q (.bl (isS "flag" a&&nmB b)) H:=k H (Same.refl H)
   refine iteT ?_
   refine ⟨_,rfl,r,_,0,x,rfl,rfl,SqT.of g,rfl,a,_,hx,rfl,_,rfl,?_⟩
   cases e:isS "flag" a with
   |false=>
    rw [e] at k'
    exact iteF k'
   |true=>
    rw [e] at k'
    exact iteT ⟨_,rfl,r,_,1,y,rfl,rfl,SqT.of g,rfl,y,b,rfl,hy,sm_nm ob.sm,k'⟩
 · obtain ⟨r,x,y,z,rfl,g,hx,hy,hz⟩:=pl3 hv
   obtain ⟨oa,ob,oc⟩:=ok3 ok
   obtain ⟨da,db,dc⟩:=dep3 hd
   have k2:∀H',Same H H'→Q (.bl (if isS "most" a=true then smB b&&frB c else isS "like" a&& (tmB 12 b&&tmB 12 c))) H':=k
   refine iteF ?_
   refine ⟨_,rfl, .ref r,_,3,rfl,hv,_,rfl,iteF ?_⟩
   refine ⟨_,rfl,r,_,0,x,rfl,rfl,SqT.of g,rfl,a,_,hx,rfl,_,rfl,?_⟩
   cases e:isS "most" a with
   |true=>
    simp only [e,if_true] at k2
    refine iteT ⟨_,rfl,r,_,1,y,rfl,rfl,SqT.of g,rfl,y,b,rfl,hy,ob,by omega,fun H1 s1=>⟨_,rfl,?_⟩⟩
    cases e2:smB b with
    |false=>
     rw [e2] at k2
     exact iteF (k2 _ s1)
    |true=>
     rw [e2] at k2
     exact iteT ⟨_,rfl,r,_,2,z,rfl,rfl,SqT.of (s1 _ _ g),rfl,z,c,rfl,hz.mono (Ke.of_same s1),oc.big,fun H2 s2=>k2 _ (s1.trans s2)⟩
   |false=>
    simp only [e,Bool.false_eq_true,if_false] at k2
    refine iteF ⟨_,rfl,r,_,0,x,rfl,rfl,SqT.of g,rfl,a,_,hx,rfl,_,rfl,?_⟩
    cases e2:isS "like" a with
    |false=>
     rw [e2] at k2
     exact iteF (k2 _ (Same.refl H))
    |true=>
     rw [e2] at k2
     refine iteT ⟨_,rfl,r,_,1,y,rfl,rfl,SqT.of g,rfl,y,b,rfl,hy,ob.sm,db,fun H1 s1=>⟨_,rfl,?_⟩⟩
     cases e3:tmB 12 b with
     |false=>
      rw [e3] at k2
      exact iteF (k2 _ s1)
     |true=>
      rw [e3] at k2
      exact iteT ⟨_,rfl,r,_,2,z,rfl,rfl,SqT.of (s1 _ _ g),rfl,z,c,rfl,hz.mono (Ke.of_same s1),oc.sm,dc,fun H2 s2=>k2 _ (s1.trans s2)⟩
 · rw [e2]
   refine iteF ⟨_,rfl,v,p,3,rfl,hv,_,rfl,?_⟩
   rw [e3]
   have k':=k H (Same.refl H)
   rw [at_no e2 e3] at k'
   exact iteT k'
def spWq (n:Nat):Sp:=fun vs H Q _=>∃(v:V) (p:Pl),vs= [v]∧PlAt H v p∧Ok p∧pdep p < n∧∀H',Same H H'→Q (.bl (wsB n p)) H'
theorem scWq:FnScope ["thing"] ["thing"] (defScope sWsQ):=⟨rfl,rfl,rfl,by decide +kernel,rfl,by decide +kernel,by decide +kernel⟩
theorem ok_wq {f fO fA:Addr} {fd dO dA:FuncData} (F:Fun K "is_wish" "is_wish" sWsQ f fd) (bF:Binds K fd ["thing"] []) (mF:mg "is_wish"=some (.ref f)) (B:Blt mg)
 (gO:FnOk P w K mg base CX0 1 fO dO ["thing","count"] spTo) (kO:PySem.W.keepIn K (.ref fO)=true) (bO:Binds K dO ["thing","count"] []) (mO:mg "is_tuple_of"=some (.ref fO))
 (gA:FnOk P w K mg base CX0 28 fA dA ["thing"] spAq) (kA:PySem.W.keepIn K (.ref fA)=true) (bA:Binds K dA ["thing"] []) (mA:mg "is_atom"=some (.ref fA)):∀n,n≤13→FnOk P w K mg base CX0 (n+29) f fd ["thing"] (spWq n):=by
 intro n
 induction n with
 |zero=>exact fun _=>⟨fun vs H Q E ⟨_,_,_,_,_,h,_⟩=>absurd h (by omega),fun A outer s H args us vs Q E _ _ _ _ ⟨_,_,_,_,_,h,_⟩=>absurd h (by omega)⟩
 |succ n ih=>
  intro hn
  replace ih:=ih (by omega)
  refine F.ok scWq (fun vs H Q E h=> ?_) (fun cdv A outer s H vs Q E hr h=> ?_)
  · obtain ⟨v,u,rfl,_⟩:=h
    rfl
  obtain ⟨v,p,rfl,hv,ok,hd,k⟩:=h
  have hr1:Room 1 _:=hr.mono (by omega)
  have hr28:Room 28 _:=hr.mono (by omega)
  have hu0:=Nat.lt_of_le_of_lt (Nat.add_le_add_left (show 0≤64 by decide) _) hr.units
  refine ⟨_,pss_cons (ps_if (pt_not (pt_val (pe_call gO hr1 rfl mO kO bO .nil pass0 (pa_cons (pv 0) (pa_cons pe_int pa_nil))))) (pss_one (ps_ret (pe_call gA hr28 rfl mA kA bA .nil pass0 (pa_cons (pv 0) pa_nil)))) pss_nil)
   (pss_cons (ps_if (pt_cmpR (op_eqS hu0) (pe_ix ix_tup (pv 0) pe_int fun _ _=>rfl) pe_str (nomark _)) (pss_one (ps_ret (pe_call ih hr rfl mF F.kp bF .nil pass0 (pa_cons (pe_ix ix_tup (pv 0) pe_int fun _ _=>rfl) pa_nil)))) pss_nil)
   (pss_cons (ps_if (PW.pt (pw_or (pt_cmpR (op_eqS hu0) (pe_ix ix_tup (pv 0) pe_int fun _ _=>rfl) pe_str (nomark _)) (pw_or1 (pt_cmpR (op_eqS hu0) (pe_ix ix_tup (pv 0) pe_int fun _ _=>rfl) pe_str (nomark _)))))
    (pss_one (ps_ret (pe_and (pe_callB (r:=rIsi K) call_isi rfl B.isi boot_isinstance (pa_cons (pe_ix ix_tup (pv 0) pe_int fun _ _=>rfl) (pa_cons (pe_bltn (v:= .ty "tuple") rfl B.tu PyProof.Rows.boot_tuple rfl) pa_nil))) (pe_one (pe_callB (call_allT rfl) rfl B.al PyProof.Rows.boot_all (pa_cons (pe_comp (NC:= ["inner"]) (mp:= [none]) rfl (pi_tup (pe_ix ix_tup (pv 0) pe_int fun _ _=>rfl)) (fun _ _ _ _ _=>pg_name (i:=0) (by simp) rfl (Or.inl rfl)) (fun _ _ _ _ _=>pts_nil) (fun _ _ _ _ _=>pe_call ih hr rfl mF F.kp bF .nil pass0 (pa_cons (pv 0) pa_nil))) pa_nil)))))) pss_nil)
   (pss_one (ps_ret (pe_call gA hr28 rfl mA kA bA .nil pass0 (pa_cons (pv 0) pa_nil)))))),?_⟩
  have hL20:(20000:Nat)≤sizeLine:=by decide +kernel
  refine ⟨_,rfl,v,p,2,rfl,hv,_,rfl,?_⟩
  cases e2:toB 2 p with
  |false=>
   have ew:wsB (n+1) p=atB p:=by rw [wsB,if_neg (by rw [e2];exact Bool.false_ne_true)]
   rw [ew] at k
   exact iteT ⟨_,rfl,v,p,rfl,hv,ok,by omega,fun H1 s1=>k _ s1⟩
  |true=>
   obtain ⟨a,b,rfl⟩:∃a b,p= .tup [a,b]:=by
    rcases shape p with h|⟨a,b,c,rfl⟩|⟨h,_⟩
    · exact h
    · simp [toB] at e2
    · rw [h] at e2
      cases e2
   have ew:wsB (n+1) (.tup [a,b])=if isS "not" a=true then wsB n b else if (isS "both" a ||isS "either" a)=true then isTup b&& (isT b).all (wsB n) else atB (.tup [a,b]):=by
    rw [wsB,if_pos e2]
    rfl
   rw [ew] at k
   obtain ⟨r,x,y,rfl,g,hx,hy⟩:=pl2 hv
   obtain ⟨oa,ob⟩:=ok2 ok
   obtain ⟨da,db⟩:=dep2 hd
   refine iteF ?_
   refine ⟨_,rfl,r,_,0,x,rfl,rfl,SqT.of g,rfl,a,_,hx,rfl,_,rfl,?_⟩
   cases en:isS "not" a with
   |true=>
    simp only [en,if_true] at k
    exact iteT ⟨_,rfl,r,_,1,y,rfl,rfl,SqT.of g,rfl,y,b,rfl,hy,ob,db,fun H1 s1=>k _ s1⟩
   |false=>
   simp only [en,Bool.false_eq_true,if_false] at k
   refine iteF ?_
   refine tnx_of ?_
   try dsimp only
   refine tseq_or (b1:=isS "both" a) (b2:=isS "either" a) (fun Q q=>⟨_,rfl,r,_,0,x,rfl,rfl,SqT.of g,rfl,a,_,hx,rfl,_,rfl,q⟩) (fun Q q=>⟨_,rfl,r,_,0,x,rfl,rfl,SqT.of g,rfl,a,_,hx,rfl,_,rfl,q⟩) ?_
   cases ebe:(isS "both" a ||isS "either" a) with
   |false=>
    simp only [ebe,Bool.false_eq_true,if_false] at k
    exact iteF ⟨_,rfl, .ref r,_,rfl,hv,ok,by omega,fun H1 s1=>k _ s1⟩
   |true=>
   simp only [ebe,if_true] at k
   refine iteT ?_
   refine tret_one ?_
   refine tand_all ?_
   refine ⟨_,rfl,r,_,1,y,rfl,rfl,SqT.of g,rfl,y, .ty "tuple",_,isTup b,rfl,ty_pl hy, .inl ⟨rfl,kit_tup K b⟩,_,rfl,?_⟩
   cases et:isTup b with
   |false=>
    rw [et] at k
    exact iteF (k _ (Same.refl H))
   |true=>
   rw [et] at k
   cases b with
   |tup ts=>
    have hv':=hy
    unfold PlAt at hv'
    obtain ⟨c,cs,rfl,gc,hT⟩:=hv'
    have tl:=hT.len
    have okt:ts.length≤1000∧Oks ts:=by
     unfold Ok at ob
     exact ob
    refine iteT ?_
    refine tcomp_of (rest:= []) rfl ?_
    refine ⟨_,rfl,r,_,1,_,rfl,rfl,SqT.of g,rfl,c,rfl,⟨cs,SqT.of gc⟩,fun L nL=> ?_⟩
    refine comp_tup (xs:=cs) (fun i acc H'=>Same H H'∧H' L=some (.lst acc)∧acc=((ts.take i).map (wsB n)).map V.bl) ⟨same_upd nL,upd_same,rfl⟩ (fun i acc H' p=>SqT.of (p.1 _ _ gc)) ?_ ?_
    · rintro i z acc H1 hi ex ⟨s1,hD,rfl⟩
      obtain ⟨t,et,ht⟩:=hT.get' ex
      have mt:=List.mem_of_getElem? et
      refine ⟨_,rfl,z,t,rfl,ht.mono (Ke.of_same s1),ok_mem okt.2 mt,?_,fun H2 s2=> ?_⟩
      · have:=dep_mem mt
        simp only [pdep] at db
        omega
      refine CompN.mk hi ?_ (s2 _ _ hD) ⟨same_wr nL (s1.trans s2),upd_same,?_⟩
      · rw [List.length_map,List.length_map,List.length_take]
        omega
      · rw [List.take_add_one,et]
        simp
    · rintro acc H1 ⟨s1,hL,rfl⟩
      rw [tl,List.take_length] at hL
      refine ⟨L,_,rfl,SqL.of hL,?_⟩
      rw [show ((ts.map (wsB n)).all id)=ts.all (wsB n) by rw [List.all_map];rfl]
      exact k _ s1
   |_=>cases et
end
end K81
namespace L2
open PySem PySem.Spec PyProof.Rows
section
variable {X:Cx} {tg:Expr}
end
section
variable {X:Cx} {tg:Expr}
end
open PySem PySem.Spec PyProof.Rows
section
variable {prog:Program} {w:World} {A:Around} {E:Value→Shared→Prop} {s:Shared}
end
section
variable {X:Cx}
end
end L2
namespace Dec
open PySem PySem.NumText
def cl (x:Str):List Nat:=x.cps.toList
theorem cl_inj {x y:Str} (h:cl x=cl y):x=y:=by
 cases x
 cases y
 simp only [Str.mk.injEq]
 exact Array.toList_inj.mp h
theorem cl_len (x:Str):(cl x).length=x.length:=by simp [cl,Str.length]
def ds (n:Nat):List Nat:=(Nat.toDigits 10 n).map Char.toNat
theorem digit_code:∀d:Nat,d < 10→(Nat.digitChar d).toNat=48+d:=by decide
theorem ds_lt {n:Nat} (h:n < 10):ds n= [48+n]:=by
 unfold ds
 rw [Nat.toDigits_of_lt_base h]
 show [(Nat.digitChar n).toNat]=_
 rw [digit_code n h]
theorem ds_step {n:Nat} (h:10≤n):ds n=ds (n / 10)++ [48+n%10]:=by
 have hm:n%10 < 10:=Nat.mod_lt n (by decide)
 have t:Nat.toDigits 10 (n / 10)++Nat.toDigits 10 (n%10)=Nat.toDigits 10 (10*(n / 10)+n%10):=Nat.toDigits_append_toDigits (by decide) (by omega) hm
 rw [Nat.div_add_mod] at t
 have e:=ds_lt hm
 unfold ds at e ⊢
 rw [←t,List.map_append,e]
theorem ds_val (n:Nat):digitsVal (ds n)=n:=PySem.W.KIN.val_back n
theorem ds_dig:∀n:Nat,AllDigits (ds n):=by
 intro n
 induction n using Nat.strongRecOn with
 |_ n ih=>
  by_cases h:n < 10
  · rw [ds_lt h]
    intro c m
    rw [List.mem_singleton.mp m]
    omega
  · rw [ds_step (by omega)]
    intro c m
    rcases List.mem_append.mp m with m|m
    · exact ih (n / 10) (by omega) c m
    · rw [List.mem_singleton.mp m]
      omega
theorem ds_ne (n:Nat):ds n≠ []:=by
 by_cases h:n < 10
 · rw [ds_lt h]
   simp
 · rw [ds_step (by omega)]
   simp
theorem ds_len:∀(k:Nat) {n:Nat},n < 10^(k+1)→(ds n).length≤k+1
 |0,n,h=>by rw [ds_lt (by simpa using h)];simp
 |k+1,n,h=>by
  by_cases q:n < 10
  · rw [ds_lt q]
    simp
  · rw [ds_step (by omega),List.length_append]
    have:=ds_len k (n:=n / 10) (by rw [Nat.pow_succ] at h;omega)
    simp only [List.length_cons,List.length_nil]
    omega
theorem ds_inj {m n:Nat} (h:ds m=ds n):m=n:=by rw [←ds_val m,h,ds_val]
open PySem PySem.NumText L2 Mth
def sl:Str:=Str.ofString "/"
open PySem PySem.NumText L2 Mth
def sg (x:Int):List Nat:=if x < 0 then [45] else []
noncomputable def low (x y:Int):List Nat:=ds x.natAbs++(if y=1 then [] else 47::ds y.natAbs)
noncomputable def txt (x y:Int):List Nat:=sg x++low x y
def side (y:Int):List Nat:=if y=1 then [49] else ds y.natAbs
open PySem PySem.NumText L2 Mth
theorem txt_len {x y:Int} (hx:x.natAbs < 10^200) (hy:y.natAbs < 10^200):(txt x y).length≤402:=by
 unfold txt sg low
 have h1:=ds_len 199 hx
 have h2:=ds_len 199 hy
 simp only [List.length_append]
 split<;>split<;>simp<;>omega
end Dec
namespace Tw
open PySem L2 Tre Wd Mth Dec Su
mutual
noncomputable def tmC:Tr→List Nat
 | .tup (_:: .str x::r)=>match r with
  | []=>cl x
  |t::_=>40::cl x++tmK t++ [41]
 |_=> []
noncomputable def tmK:Tr→List Nat
 | .tup ts=>tmsC ts
 |_=> []
noncomputable def tmsC:List Tr→List Nat
 | []=> []
 |t::ts=>32::tmC t++tmsC ts
end
theorem tm_name (k x:Str):tmC (.tup [.str k, .str x])=cl x:=by rw [tmC]
theorem tm_call (k x:Str) (ts:List Tr):tmC (.tup [.str k, .str x, .tup ts])=40::cl x++tmsC ts++ [41]:=by rw [tmC,tmK]
noncomputable def spC (cs:List (List Nat)):List Nat:=(cs.map (32:: ·)).flatten
theorem tmsC_eq:∀ts,tmsC ts=spC (ts.map tmC)
 | []=>by rw [tmsC];rfl
 |t::ts=>by
  rw [tmsC,tmsC_eq ts]
  rfl
theorem spC_one (c:List Nat):spC [c]=32::c:=by simp [spC]
theorem spC_len {B:Nat}:∀ {cs:List (List Nat)},(∀c∈cs,c.length≤B)→(spC cs).length≤cs.length*(B+1)
 | [],_=>Nat.zero_le _
 |c::cs,h=>by
  have h1:=h c List.mem_cons_self
  have h2:=spC_len fun d m=>h d (List.mem_cons_of_mem c m)
  have e:spC (c::cs)=(32::c)++spC cs:=rfl
  rw [e,List.length_append,List.length_cons,List.length_cons,Nat.succ_mul]
  omega
noncomputable def frC (p:Fr):List Nat:=txt p.1 p.2
theorem ten200:(2:Nat)^200≤10^200:=Nat.pow_le_pow_left (by decide) _
theorem Gfl {p:Fr} (h:Gf 200 p):p.1.natAbs < 10^200∧p.2.natAbs < 10^200:=⟨Nat.lt_of_lt_of_le h.top ten200,Nat.lt_of_lt_of_le h.bot ten200⟩
theorem frC_len {p:Fr} (h:Gf 200 p):(frC p).length≤402:=txt_len (Gfl h).1 (Gfl h).2
structure Tb (t:Tr):Prop where
 ty:Ty .tm t
 dep:t.depth≤7
 len:(tmC t).length≤1000
structure Pb (p:Pq):Prop where
 tb:Tb p.1
 gf:Gf 200 p.2
noncomputable def prC (p:Pq):List (List Nat):= [frC p.2,tmC p.1]
def hd (k:Str):List Nat:=40::cl k
inductive Wx:Nat→Tr→List Nat→Prop
 |fl (n:Nat) (x:Str):x.length≤8→Wx n (.tup [s_ "flag", .str x]) (cl x)
 |mo (n:Nat) (ps:List Pq) (f:Fr):ps.length≤3→(∀p∈ps,Pb p)→Gf 200 f→Wx n (.tup [s_ "most", .tup (ps.map prT),frT f]) (hd "most"++spC (ps.flatMap prC++ [frC f])++ [41])
 |li (n:Nat) (t u:Tr):Tb t→Tb u→Wx n (.tup [s_ "like",t,u]) (hd "like"++spC [tmC t,tmC u]++ [41])
 |no (n:Nat) (t:Tr) (c:List Nat):Wx n t c→Wx (n+1) (.tup [s_ "not",t]) (hd "not"++spC [c]++ [41])
 |bo (n:Nat) (l:List (Tr×List Nat)):l.length≤3→(∀p∈l,Wx n p.1 p.2)→Wx (n+1) (.tup [s_ "both", .tup (l.map (·.1))]) (hd "all"++spC (l.map (·.2))++ [41])
 |ei (n:Nat) (l:List (Tr×List Nat)):l.length≤3→(∀p∈l,Wx n p.1 p.2)→Wx (n+1) (.tup [s_ "either", .tup (l.map (·.1))]) (hd "any"++spC (l.map (·.2))++ [41])
theorem hd_len:(hd "most").length=5∧(hd "like").length=5∧(hd "not").length=4∧(hd "all").length=4∧(hd "any").length=4:=by decide +kernel
theorem prs_len {ps:List Pq} (h:∀p∈ps,Pb p):∀c∈ps.flatMap prC,c.length≤1000:=fun c m=>by
 obtain ⟨p,mp,mc⟩:=List.mem_flatMap.mp m
 have hp:=h p mp
 rcases List.mem_cons.mp mc with rfl|mc
 · have:=frC_len hp.gf
   omega
 · rw [List.mem_singleton.mp mc]
   exact hp.tb.len
theorem prs_many (ps:List Pq):(ps.flatMap prC).length=2*ps.length:=by
 induction ps with
 |nil=>rfl
 |cons p ps ih=>
  rw [List.flatMap_cons,List.length_append,ih,List.length_cons]
  show 2+_=_
  omega
theorem Wx.len {n:Nat} {t:Tr} {c:List Nat} (h:Wx n t c):c.length≤8000*4^n:=by
 have hh:=hd_len
 induction h with
 |fl n x h=>
  rw [cl_len]
  have:=Nat.pow_pos (n:=n) (show 0 < 4 by decide)
  omega
 |mo n ps f h1 h2 h3=>
  have h4:=spC_len (B:=1000) (cs:=ps.flatMap prC++ [frC f]) (fun c m=>by
   rcases List.mem_append.mp m with m|m
   · exact prs_len h2 c m
   · rw [List.mem_singleton.mp m]
     have:=frC_len h3
     omega)
  rw [List.length_append,prs_many,List.length_singleton] at h4
  have h5:(2*ps.length+1)*(1000+1)≤7*1001:=Nat.mul_le_mul_right _ (by omega)
  have:=Nat.pow_pos (n:=n) (show 0 < 4 by decide)
  simp only [List.length_append,List.length_singleton,hh.1]
  omega
 |li n t u h1 h2=>
  have h3:=h1.len
  have h4:=h2.len
  have:=Nat.pow_pos (n:=n) (show 0 < 4 by decide)
  simp only [List.length_append,List.length_singleton,hh.2.1,spC,List.map_cons,List.map_nil,List.flatten_cons,List.flatten_nil,List.length_cons,List.length_nil]
  omega
 |no n t c _ ih=>
  have:=Nat.pow_pos (n:=n) (show 0 < 4 by decide)
  rw [spC_one,Nat.pow_succ]
  simp only [List.length_append,List.length_singleton,hh.2.2.1,List.length_cons,List.length_nil]
  omega
 |bo n l h1 h2 ih=>
  have h4:=spC_len (B:=8000*4^n) (cs:=l.map (·.2)) (fun c m=>by
   obtain ⟨p,mp,rfl⟩:=List.mem_map.mp m
   exact ih p mp)
  rw [List.length_map] at h4
  have h5:l.length*(8000*4^n+1)≤3*(8000*4^n+1):=Nat.mul_le_mul_right _ h1
  have:=Nat.pow_pos (n:=n) (show 0 < 4 by decide)
  rw [Nat.pow_succ]
  simp only [List.length_append,List.length_singleton,hh.2.2.2.1]
  omega
 |ei n l h1 h2 ih=>
  have h4:=spC_len (B:=8000*4^n) (cs:=l.map (·.2)) (fun c m=>by
   obtain ⟨p,mp,rfl⟩:=List.mem_map.mp m
   exact ih p mp)
  rw [List.length_map] at h4
  have h5:l.length*(8000*4^n+1)≤3*(8000*4^n+1):=Nat.mul_le_mul_right _ h1
  have:=Nat.pow_pos (n:=n) (show 0 < 4 by decide)
  rw [Nat.pow_succ]
  simp only [List.length_append,List.length_singleton,hh.2.2.2.2]
  omega
theorem pow_le {n:Nat} (h:n≤3):8000*4^n≤512000:=by
 have:4^n≤4^3:=Nat.pow_le_pow_right (by decide) h
 omega
open PySem PyProof.Rows L2 Tre Wd Mth Dec Su
inductive Wi:Nat→Str→Tr→List (List Nat)→Prop
 |mo (n:Nat) (ps:List Pq) (f:Fr):ps.length≤3→(∀p∈ps,Pb p)→Gf 200 f→Wi n "most" (.tup [s_ "most", .tup (ps.map prT),frT f]) (ps.flatMap prC++ [frC f])
 |li (n:Nat) (t u:Tr):Tb t→Tb u→Wi n "like" (.tup [s_ "like",t,u]) [tmC t,tmC u]
 |no (n:Nat) (t:Tr) (c:List Nat):Wx n t c→Wi (n+1) "not" (.tup [s_ "not",t]) [c]
 |bo (n:Nat) (l:List (Tr×List Nat)):l.length≤3→(∀p∈l,Wx n p.1 p.2)→Wi (n+1) "both" (.tup [s_ "both", .tup (l.map (·.1))]) (l.map (·.2))
 |ei (n:Nat) (l:List (Tr×List Nat)):l.length≤3→(∀p∈l,Wx n p.1 p.2)→Wi (n+1) "either" (.tup [s_ "either", .tup (l.map (·.1))]) (l.map (·.2))
def FwP (k k':Str):Prop:=(k= "not"∧k'= "not")∨(k= "both"∧k'= "all")∨(k= "either"∧k'= "any")∨(k= "like"∧k'= "like")∨(k= "most"∧k'= "most")
theorem FwP.len {k k':Str} (h:FwP k k'):k'.length≤10:=by
 rcases h with ⟨_,rfl⟩|⟨_,rfl⟩|⟨_,rfl⟩|⟨_,rfl⟩|⟨_,rfl⟩<;>decide +kernel
theorem Wx.inner {n:Nat} {t:Tr} {c:List Nat} (h:Wx n t c):(∃x:Str,t= .tup [s_ "flag", .str x]∧c=cl x∧x.length≤8)∨∃k k' cs,Wi n k t cs∧FwP k k'∧c=hd k'++spC cs++ [41]:=by
 cases h with
 |fl _ x h=>exact .inl ⟨x,rfl,rfl,h⟩
 |mo _ ps f h1 h2 h3=>exact .inr ⟨_,_,_, .mo n ps f h1 h2 h3, .inr (.inr (.inr (.inr ⟨rfl,rfl⟩))),rfl⟩
 |li _ t u h1 h2=>exact .inr ⟨_,_,_, .li n t u h1 h2, .inr (.inr (.inr (.inl ⟨rfl,rfl⟩))),rfl⟩
 |no m t c h=>exact .inr ⟨_,_,_, .no m t c h, .inl ⟨rfl,rfl⟩,rfl⟩
 |bo m l h1 h2=>exact .inr ⟨_,_,_, .bo m l h1 h2, .inr (.inl ⟨rfl,rfl⟩),rfl⟩
 |ei m l h1 h2=>exact .inr ⟨_,_,_, .ei m l h1 h2, .inr (.inr (.inl ⟨rfl,rfl⟩)),rfl⟩
theorem Wi.head {n:Nat} {k:Str} {t:Tr} {cs:List (List Nat)} (h:Wi n k t cs):(∃r,t= .tup (.str k::r))∧k≠"flag":=by
 cases h with
 |mo _ ps f h1 h2 h3=>exact ⟨⟨_,rfl⟩,by decide +kernel⟩
 |li _ t u h1 h2=>exact ⟨⟨_,rfl⟩,by decide +kernel⟩
 |no m t c h=>exact ⟨⟨_,rfl⟩,by decide +kernel⟩
 |bo m l h1 h2=>exact ⟨⟨_,rfl⟩,by decide +kernel⟩
 |ei m l h1 h2=>exact ⟨⟨_,rfl⟩,by decide +kernel⟩
theorem Wi.small {n:Nat} {k:Str} {t:Tr} {cs:List (List Nat)} (h:Wi n k t cs) (hn:n≤3):cs.length≤10∧∀c∈cs,c.length≤600000:=by
 cases h with
 |mo _ ps f h1 h2 h3=>
  refine ⟨by rw [List.length_append,prs_many,List.length_singleton];omega,fun c m=> ?_⟩
  rcases List.mem_append.mp m with m|m
  · have:=prs_len h2 c m
    omega
  · rw [List.mem_singleton.mp m]
    have:=frC_len h3
    omega
 |li _ t u h1 h2=>
  have:=h1.len
  have:=h2.len
  refine ⟨by simp,fun c m=> ?_⟩
  rcases List.mem_cons.mp m with rfl|m
  · omega
  · rw [List.mem_singleton.mp m]
    omega
 |no m t c h=>
  refine ⟨by simp,fun d md=> ?_⟩
  rw [List.mem_singleton.mp md]
  have:=h.len
  have:=pow_le (n:=m) (by omega)
  omega
 |bo m l h1 h2=>
  refine ⟨by rw [List.length_map];omega,fun d md=> ?_⟩
  obtain ⟨p,mp,rfl⟩:=List.mem_map.mp md
  have:=(h2 p mp).len
  have:=pow_le (n:=m) (by omega)
  omega
 |ei m l h1 h2=>
  refine ⟨by rw [List.length_map];omega,fun d md=> ?_⟩
  obtain ⟨p,mp,rfl⟩:=List.mem_map.mp md
  have:=(h2 p mp).len
  have:=pow_le (n:=m) (by omega)
  omega
section
variable {X:Cx} {D:Addr}
end
end Tw
namespace Trm
open PySem
def cl (x:Str):List Nat:=x.cps.toList
theorem cl_inj {x y:Str} (h:cl x=cl y):x=y:=by
 cases x
 cases y
 simp only [Str.mk.injEq]
 exact Array.toList_inj.mp h
theorem cl_len (x:Str):(cl x).length=x.length:=by simp [cl,Str.length]
mutual
noncomputable def Tm.code:Tm→List Nat
 | .nm x=>cl x
 | .ap f ts=>40::(cl f++(Tms.code ts++ [41]))
noncomputable def Tms.code:List Tm→List Nat
 | []=> []
 |t::ts=>32::(Tm.code t++Tms.code ts)
end
theorem nm_cl {x:Str} (h:Nm x):∃c l,cl x=c::l∧Ltr c:=by
 cases e:cl x with
 |nil=>
  have:=cl_len x
  rw [e] at this
  have:=h.pos
  simp at*
  omega
 |cons c l=>exact ⟨c,l,rfl,h.ltr c (by show c∈cl x;rw [e];exact List.mem_cons_self)⟩
open Classical in
noncomputable def add (acc:List Tm) (t:Tm):List Tm:=if t∈acc then acc else acc++ [t]
end Trm
namespace Tw
open PySem L2 Tre Wd Mth Dec Su
abbrev Nm:=Trm.Nm
abbrev Ltr:=Trm.Ltr
inductive Lt:Tr→Prop
 |nm (x:Str):Nm x→Lt (.tup [s_ "name", .str x])
 |ap (f:Str) (ts:List Tr):Nm f→0 < ts.length→(∀t∈ts,Lt t)→Lt (.tup [s_ "call", .str f, .tup ts])
inductive Lw:Tr→Prop
 |fl (x:Str):Nm x→Lw (.tup [s_ "flag", .str x])
 |mo (ps:List Pq) (f:Fr):(∀p∈ps,Lt p.1)→Lw (.tup [s_ "most", .tup (ps.map prT),frT f])
 |li (t u:Tr):Lt t→Lt u→Lw (.tup [s_ "like",t,u])
 |no (t:Tr):Lw t→Lw (.tup [s_ "not",t])
 |bo (l:List Tr):(∀t∈l,Lw t)→Lw (.tup [s_ "both", .tup l])
 |ei (l:List Tr):(∀t∈l,Lw t)→Lw (.tup [s_ "either", .tup l])
def St (Q:Nat→Prop) (r:List Nat):Prop:=∀c l,r=c::l→¬Q c
theorem run_eq {Q:Nat→Prop}:∀ {x y r s:List Nat},(∀c∈x,Q c)→(∀c∈y,Q c)→St Q r→St Q s→x++r=y++s→x=y∧r=s
 | [],[],_,_,_,_,_,_,e=>⟨rfl,e⟩
 | [],b::y,r,s,_,hy,hr,_,e=>absurd (hy b List.mem_cons_self) (hr b _ e)
 |a::x,[],r,s,hx,_,_,hs,e=>absurd (hx a List.mem_cons_self) (hs a _ e.symm)
 |a::x,b::y,r,s,hx,hy,hr,hs,e=>by
  rw [List.cons_append,List.cons_append] at e
  obtain ⟨e1,e2⟩:=List.cons.inj e
  obtain ⟨q1,q2⟩:=run_eq (fun c m=>hx c (List.mem_cons_of_mem _ m)) (fun c m=>hy c (List.mem_cons_of_mem _ m)) hr hs e2
  exact ⟨by rw [e1,q1],q2⟩
theorem st_cons {Q:Nat→Prop} {c:Nat} {l:List Nat} (h:¬Q c):St Q (c::l):=fun d m e=>by
 cases e
 exact h
def En (r:List Nat):Prop:=∀c l,r=c::l→c=32∨c=41
theorem En.st {Q:Nat→Prop} {r:List Nat} (h:En r) (h1:¬Q 32) (h2:¬Q 41):St Q r:=fun c l e=>by
 rcases h c l e with rfl|rfl
 · exact h1
 · exact h2
theorem En.nil:En []:=fun c l e=>by cases e
theorem En.b (l:List Nat):En (32::l):=fun c m e=>by cases e;exact .inl rfl
theorem En.k (l:List Nat):En (41::l):=fun c m e=>by cases e;exact .inr rfl
theorem sp_end (cs:List (List Nat)) (r:List Nat):En (spC cs++41::r):=by
 cases cs with
 |nil=>exact En.k r
 |cons c cs=>exact En.b _
theorem nl32:¬Ltr 32:=by unfold Ltr Trm.Ltr;omega
theorem nl41:¬Ltr 41:=by unfold Ltr Trm.Ltr;omega
theorem sp_inj {α:Type} (c:α→List Nat) {Q:α→Prop}:∀ {ts us:List α} {r s:List Nat},(∀t∈ts,∀u,Q u→∀r s,En r→En s→c t++r=c u++s→t=u∧r=s)→(∀u∈us,Q u)→
 spC (ts.map c)++41::r=spC (us.map c)++41::s→ts=us∧r=s
 | [],[],r,s,_,_,e=>by
  simp only [spC,List.map_nil,List.flatten_nil,List.nil_append] at e
  exact ⟨rfl,(List.cons.inj e).2⟩
 | [],u::us,r,s,_,_,e=>by
  have e':41::r=32::(c u++spC (us.map c)++41::s):=by simpa [spC] using e
  cases e'
 |t::ts,[],r,s,_,_,e=>by
  have e':32::(c t++spC (ts.map c)++41::r)=41::s:=by simpa [spC] using e
  cases e'
 |t::ts,u::us,r,s,ht,hu,e=>by
  have e':32::(c t++(spC (ts.map c)++41::r))=32::(c u++(spC (us.map c)++41::s)):=by simpa [spC] using e
  obtain ⟨e1,e2⟩:=ht t List.mem_cons_self u (hu u List.mem_cons_self) _ _ (sp_end _ _) (sp_end _ _) (List.cons.inj e').2
  obtain ⟨e3,e4⟩:=sp_inj c (fun t m=>ht t (List.mem_cons_of_mem _ m)) (fun u m=>hu u (List.mem_cons_of_mem _ m)) e2
  exact ⟨by rw [e1,e3],e4⟩
theorem nm_cl {x:Str} (h:Nm x):∃c l,cl x=c::l∧Ltr c:=Trm.nm_cl h
theorem nm_ltr {x:Str} (h:Nm x):∀c∈cl x,Ltr c:=h.ltr
theorem tm_inj {t:Tr} (h:Lt t):∀(u:Tr),Lt u→∀(r s:List Nat),En r→En s→tmC t++r=tmC u++s→t=u∧r=s:=by
 induction h with
 |nm x hx=>
  intro u hu r s hr hs e
  cases hu with
  |nm y hy=>
   unfold s_ at e ⊢
   rw [tm_name,tm_name] at e
   obtain ⟨e1,e2⟩:=run_eq (nm_ltr hx) (nm_ltr hy) (hr.st nl32 nl41) (hs.st nl32 nl41) e
   exact ⟨by rw [cl_inj e1],e2⟩
  |ap g us hg h0 hu=>
   unfold s_ at e
   rw [tm_name,tm_call] at e
   obtain ⟨c,l,q,hc⟩:=nm_cl hx
   rw [q,List.cons_append] at e
   have:c=40:=(List.cons.inj e).1
   subst this
   unfold Ltr Trm.Ltr at hc
   omega
 |ap f ts hf h0 ht ih=>
  intro u hu r s hr hs e
  cases hu with
  |nm y hy=>
   unfold s_ at e
   rw [tm_name,tm_call] at e
   obtain ⟨c,l,q,hc⟩:=nm_cl hy
   rw [q,List.cons_append] at e
   have:40=c:=(List.cons.inj e).1
   subst this
   unfold Ltr Trm.Ltr at hc
   omega
  |ap g us hg h0' hu=>
   unfold s_ at e ⊢
   rw [tm_call,tm_call,tmsC_eq,tmsC_eq] at e
   have e':cl f++(spC (ts.map tmC)++41::r)=cl g++(spC (us.map tmC)++41::s):=by simpa using e
   obtain ⟨e1,e2⟩:=run_eq (nm_ltr hf) (nm_ltr hg) ((sp_end _ _).st nl32 nl41) ((sp_end _ _).st nl32 nl41) e'
   obtain ⟨e3,e4⟩:=sp_inj tmC ih hu e2
   exact ⟨by rw [cl_inj e1,e3],e4⟩
def Dg (c:Nat):Prop:=48≤c∧c≤57
theorem ds_dg (n:Nat):∀c∈ds n,Dg c:=fun c m=>ds_dig n c m
theorem nd32:¬Dg 32:=by unfold Dg;omega
theorem nd41:¬Dg 41:=by unfold Dg;omega
theorem nd47:¬Dg 47:=by unfold Dg;omega
theorem ds_ne (n:Nat):∃c l,ds n=c::l∧Dg c:=by
 cases e:ds n with
 |nil=>
  have:=ds_val n
  have h1:ds n≠ []:=by
   unfold ds
   intro z
   have:(Nat.toDigits 10 n)= []:=by simpa using z
   have:=Nat.length_toDigits_pos (b:=10) (n:=n)
   simp_all
  exact absurd e h1
 |cons c l=>exact ⟨c,l,rfl,ds_dg n c (by rw [e];exact List.mem_cons_self)⟩
theorem fr_inj {p q:Fr} {r s:List Nat} (hp:0 < p.2) (hq:0 < q.2) (hr:En r) (hs:En s) (e:frC p++r=frC q++s):p=q∧r=s:=by
 obtain ⟨x,y⟩:=p
 obtain ⟨x',y'⟩:=q
 dsimp only at hp hq
 unfold frC txt Dec.low at e
 dsimp only at e
 have low_inj:∀ {r s:List Nat},En r→En s→ds x.natAbs++((if y=1 then [] else 47::ds y.natAbs)++r)=ds x'.natAbs++((if y'=1 then [] else 47::ds y'.natAbs)++s)→x.natAbs=x'.natAbs∧y=y'∧r=s:=by
  intro r s hr hs e
  have st:∀ {y:Int} {r:List Nat},En r→St Dg ((if y=1 then [] else 47::ds y.natAbs)++r):=fun {y r} hr=>by
   split
   · exact hr.st nd32 nd41
   · exact st_cons nd47
  obtain ⟨e1,e2⟩:=run_eq (ds_dg _) (ds_dg _) (st hr) (st hs) e
  refine ⟨ds_inj e1,?_⟩
  by_cases z:y=1
  · by_cases z':y'=1
    · rw [if_pos z,if_pos z'] at e2
      exact ⟨by omega,e2⟩
    · rw [if_pos z,if_neg z',List.nil_append,List.cons_append] at e2
      rcases hr _ _ e2 with h|h<;>omega
  · by_cases z':y'=1
    · rw [if_neg z,if_pos z',List.nil_append,List.cons_append] at e2
      rcases hs _ _ e2.symm with h|h<;>omega
    · rw [if_neg z,if_neg z',List.cons_append,List.cons_append] at e2
      obtain ⟨e3,e4⟩:=run_eq (ds_dg _) (ds_dg _) (hr.st nd32 nd41) (hs.st nd32 nd41) (List.cons.inj e2).2
      have:=ds_inj e3
      exact ⟨by omega,e4⟩
 obtain ⟨c,l,ec,hc⟩:=ds_ne x.natAbs
 obtain ⟨c',l',ec',hc'⟩:=ds_ne x'.natAbs
 unfold sg at e
 by_cases z:x < 0
 · by_cases z':x' < 0
   · rw [if_pos z,if_pos z'] at e
     obtain ⟨e1,e2,e3⟩:=low_inj hr hs (by simpa using e)
     exact ⟨by rw [show x=x' by omega,e2],e3⟩
   · rw [if_pos z,if_neg z',ec'] at e
     have:45=c':=(List.cons.inj (by simpa using e)).1
     unfold Dg at hc'
     omega
 · by_cases z':x' < 0
   · rw [if_neg z,if_pos z',ec] at e
     have:c=45:=(List.cons.inj (by simpa using e)).1
     unfold Dg at hc
     omega
   · rw [if_neg z,if_neg z'] at e
     obtain ⟨e1,e2,e3⟩:=low_inj hr hs (by simpa using e)
     exact ⟨by rw [show x=x' by omega,e2],e3⟩
theorem mo_inj:∀ {ps qs:List Pq} {f g:Fr} {r s:List Nat},(∀p∈ps,Lt p.1∧0 < p.2.2)→(∀p∈qs,Lt p.1∧0 < p.2.2)→0 < f.2→0 < g.2→
 spC (ps.flatMap prC++ [frC f])++41::r=spC (qs.flatMap prC++ [frC g])++41::s→ps=qs∧f=g∧r=s
 | [],[],f,g,r,s,_,_,hf,hg,e=>by
  have e':32::(frC f++41::r)=32::(frC g++41::s):=by simpa [spC] using e
  obtain ⟨e1,e2⟩:=fr_inj hf hg (En.k r) (En.k s) (List.cons.inj e').2
  exact ⟨rfl,e1,(List.cons.inj e2).2⟩
 | [],q::qs,f,g,r,s,_,hq,hf,hg,e=>by
  have e':32::(frC f++41::r)=32::(frC q.2++32::(tmC q.1++(spC (qs.flatMap prC++ [frC g])++41::s))):=by simpa [spC,prC] using e
  obtain ⟨_,e2⟩:=fr_inj hf (hq q List.mem_cons_self).2 (En.k r) (En.b _) (List.cons.inj e').2
  cases e2
 |p::ps,[],f,g,r,s,hp,_,hf,hg,e=>by
  have e':32::(frC p.2++32::(tmC p.1++(spC (ps.flatMap prC++ [frC f])++41::r)))=32::(frC g++41::s):=by simpa [spC,prC] using e
  obtain ⟨_,e2⟩:=fr_inj (hp p List.mem_cons_self).2 hg (En.b _) (En.k s) (List.cons.inj e').2
  cases e2
 |p::ps,q::qs,f,g,r,s,hp,hq,hf,hg,e=>by
  have e':32::(frC p.2++32::(tmC p.1++(spC (ps.flatMap prC++ [frC f])++41::r)))=32::(frC q.2++32::(tmC q.1++(spC (qs.flatMap prC++ [frC g])++41::s))):=by simpa [spC,prC] using e
  obtain ⟨e1,e2⟩:=fr_inj (hp p List.mem_cons_self).2 (hq q List.mem_cons_self).2 (En.b _) (En.b _) (List.cons.inj e').2
  obtain ⟨e3,e4⟩:=tm_inj (hp p List.mem_cons_self).1 _ (hq q List.mem_cons_self).1 _ _ (sp_end _ _) (sp_end _ _) (List.cons.inj e2).2
  obtain ⟨e5,e6,e7⟩:=mo_inj (fun p m=>hp p (List.mem_cons_of_mem _ m)) (fun p m=>hq p (List.mem_cons_of_mem _ m)) hf hg e4
  exact ⟨by rw [e5,Prod.ext e3 e1],e6,e7⟩
theorem frT_inj {f g:Fr} (h:frT f=frT g):f=g:=by
 obtain ⟨a,b⟩:=f
 obtain ⟨c,d⟩:=g
 unfold frT at h
 simp only [Tr.tup.injEq,List.cons.injEq,Tr.int.injEq,and_true] at h
 exact Prod.ext h.1 h.2
theorem prT_inj {p q:Pq} (h:prT p=prT q):p=q:=by
 obtain ⟨a,b⟩:=p
 obtain ⟨c,d⟩:=q
 unfold prT at h
 simp only [Tr.tup.injEq,List.cons.injEq,and_true] at h
 exact Prod.ext h.1 (frT_inj h.2)
theorem prs_inj:∀ {ps qs:List Pq},ps.map prT=qs.map prT→ps=qs
 | [],[],_=>rfl
 | [],_::_,h=>by cases h
 |_::_,[],h=>by cases h
 |p::ps,q::qs,h=>by
  rw [List.map_cons,List.map_cons] at h
  obtain ⟨h1,h2⟩:=List.cons.inj h
  rw [prT_inj h1,prs_inj h2]
theorem s_ne {a b:Str} {x y:List Tr} (h:a≠b):Tr.tup (.str a::x)≠Tr.tup (.str b::y):=fun e=>by
 simp only [Tr.tup.injEq,List.cons.injEq,Tr.str.injEq] at e
 exact h e.1
theorem lw_fl {x:Str} (h:Lw (.tup [s_ "flag", .str x])):Nm x:=by
 generalize e:Tr.tup [s_ "flag", .str x]=t at h
 cases h with
 |fl y hy=>
  simp only [Tr.tup.injEq,List.cons.injEq,Tr.str.injEq,and_true,true_and] at e
  rw [e]
  exact hy
 |mo qs g hq=>exact absurd e (s_ne (by decide +kernel))
 |li t u ht hu=>exact absurd e (s_ne (by decide +kernel))
 |no t ht=>exact absurd e (s_ne (by decide +kernel))
 |bo l hl=>exact absurd e (s_ne (by decide +kernel))
 |ei l hl=>exact absurd e (s_ne (by decide +kernel))
theorem lw_mo {ps:List Pq} {f:Fr} (h:Lw (.tup [s_ "most", .tup (ps.map prT),frT f])):∀p∈ps,Lt p.1:=by
 generalize e:Tr.tup [s_ "most", .tup (ps.map prT),frT f]=t at h
 cases h with
 |mo qs g hq=>
  simp only [Tr.tup.injEq,List.cons.injEq,and_true,true_and] at e
  rw [prs_inj e.1]
  exact hq
 |fl x hx=>exact absurd e (s_ne (by decide +kernel))
 |li t u ht hu=>exact absurd e (s_ne (by decide +kernel))
 |no t ht=>exact absurd e (s_ne (by decide +kernel))
 |bo l hl=>exact absurd e (s_ne (by decide +kernel))
 |ei l hl=>exact absurd e (s_ne (by decide +kernel))
theorem lw_li {a b:Tr} (h:Lw (.tup [s_ "like",a,b])):Lt a∧Lt b:=by
 generalize e:Tr.tup [s_ "like",a,b]=t at h
 cases h with
 |li t u ht hu=>
  simp only [Tr.tup.injEq,List.cons.injEq,and_true,true_and] at e
  rw [e.1,e.2]
  exact ⟨ht,hu⟩
 |fl x hx=>exact absurd e (s_ne (by decide +kernel))
 |mo qs g hq=>exact absurd e (s_ne (by decide +kernel))
 |no t ht=>exact absurd e (s_ne (by decide +kernel))
 |bo l hl=>exact absurd e (s_ne (by decide +kernel))
 |ei l hl=>exact absurd e (s_ne (by decide +kernel))
theorem lw_no {a:Tr} (h:Lw (.tup [s_ "not",a])):Lw a:=by
 generalize e:Tr.tup [s_ "not",a]=t at h
 cases h with
 |no t ht=>
  simp only [Tr.tup.injEq,List.cons.injEq,and_true,true_and] at e
  rw [e]
  exact ht
 |fl x hx=>exact absurd e (s_ne (by decide +kernel))
 |mo qs g hq=>exact absurd e (s_ne (by decide +kernel))
 |li t u ht hu=>exact absurd e (s_ne (by decide +kernel))
 |bo l hl=>exact absurd e (s_ne (by decide +kernel))
 |ei l hl=>exact absurd e (s_ne (by decide +kernel))
theorem lw_bo {l:List Tr} (h:Lw (.tup [s_ "both", .tup l])):∀t∈l,Lw t:=by
 generalize e:Tr.tup [s_ "both", .tup l]=t at h
 cases h with
 |bo l' hl=>
  simp only [Tr.tup.injEq,List.cons.injEq,and_true,true_and] at e
  rw [e]
  exact hl
 |fl x hx=>exact absurd e (s_ne (by decide +kernel))
 |mo qs g hq=>exact absurd e (s_ne (by decide +kernel))
 |li t u ht hu=>exact absurd e (s_ne (by decide +kernel))
 |no t ht=>exact absurd e (s_ne (by decide +kernel))
 |ei l' hl=>exact absurd e (s_ne (by decide +kernel))
theorem lw_ei {l:List Tr} (h:Lw (.tup [s_ "either", .tup l])):∀t∈l,Lw t:=by
 generalize e:Tr.tup [s_ "either", .tup l]=t at h
 cases h with
 |ei l' hl=>
  simp only [Tr.tup.injEq,List.cons.injEq,and_true,true_and] at e
  rw [e]
  exact hl
 |fl x hx=>exact absurd e (s_ne (by decide +kernel))
 |mo qs g hq=>exact absurd e (s_ne (by decide +kernel))
 |li t u ht hu=>exact absurd e (s_ne (by decide +kernel))
 |no t ht=>exact absurd e (s_ne (by decide +kernel))
 |bo l' hl=>exact absurd e (s_ne (by decide +kernel))
theorem brk {k l:Str} {cs ds:List (List Nat)} {r s:List Nat} (hk:∀c∈cl k,Ltr c) (hl:∀c∈cl l,Ltr c) (e:(hd k++spC cs++ [41])++r=(hd l++spC ds++ [41])++s):k=l∧spC cs++41::r=spC ds++41::s:=by
 have e':cl k++(spC cs++41::r)=cl l++(spC ds++41::s):=by simpa [hd] using e
 obtain ⟨e1,e2⟩:=run_eq hk hl ((sp_end _ _).st nl32 nl41) ((sp_end _ _).st nl32 nl41) e'
 exact ⟨cl_inj e1,e2⟩
theorem brk0 {x l:Str} {ds:List (List Nat)} {r s:List Nat} (hx:Nm x) (e:cl x++r=(hd l++spC ds++ [41])++s):False:=by
 obtain ⟨c,m,q,hc⟩:=nm_cl hx
 rw [q,List.cons_append] at e
 have:c=40:=by
  have:=(List.cons.inj (show c::(m++r)=40::(cl l++spC ds++ [41]++s) by simpa [hd] using e)).1
  exact this
 subst this
 unfold Ltr Trm.Ltr at hc
 omega
theorem w_mo:∀c∈cl (Str.ofString "most"),Ltr c:=by show∀c∈cl (Str.ofString "most"),97≤c∧c≤122;decide +kernel
theorem w_li:∀c∈cl (Str.ofString "like"),Ltr c:=by show∀c∈cl (Str.ofString "like"),97≤c∧c≤122;decide +kernel
theorem w_no:∀c∈cl (Str.ofString "not"),Ltr c:=by show∀c∈cl (Str.ofString "not"),97≤c∧c≤122;decide +kernel
theorem w_al:∀c∈cl (Str.ofString "all"),Ltr c:=by show∀c∈cl (Str.ofString "all"),97≤c∧c≤122;decide +kernel
theorem w_an:∀c∈cl (Str.ofString "any"),Ltr c:=by show∀c∈cl (Str.ofString "any"),97≤c∧c≤122;decide +kernel
theorem wx_inj {n:Nat} {t:Tr} {c:List Nat} (h:Wx n t c):Lw t→∀(m:Nat) (u:Tr) (d:List Nat),Wx m u d→Lw u→∀r s,En r→En s→c++r=d++s→t=u∧c=d∧r=s:=by
 have fin:∀ {t u:Tr} {c d r s:List Nat},t=u→r=s→c++r=d++s→t=u∧c=d∧r=s:=fun h1 h2 e=>⟨h1,by subst h2;exact List.append_cancel_right e,h2⟩
 have many:∀ {l l':List (Tr×List Nat)} {r s:List Nat} {m':Nat},(∀p∈l,Lw p.1→∀(m:Nat) (u:Tr) (d:List Nat),Wx m u d→Lw u→∀r s,En r→En s→p.2++r=d++s→p.1=u∧p.2=d∧r=s)→(∀p∈l,Lw p.1)→(∀p∈l',Wx m' p.1 p.2)→(∀p∈l',Lw p.1)→
  spC (l.map (·.2))++41::r=spC (l'.map (·.2))++41::s→l=l'∧r=s:=fun {l l' r s m'} ih h1 h2 h3 e=>
  sp_inj (fun p:Tr×List Nat=>p.2) (Q:=fun p=>Wx m' p.1 p.2∧Lw p.1) (fun p mp q hq r s hr hs e=>by
   obtain ⟨e1,e2,e3⟩:=ih p mp (h1 p mp) m' q.1 q.2 hq.1 hq.2 r s hr hs e
   exact ⟨Prod.ext e1 e2,e3⟩) (fun q mq=>⟨h2 q mq,h3 q mq⟩) e
 induction h with
 |fl n x hx=>
  intro ht m u d hu hlu r s hr hs e
  have hx:=lw_fl ht
  cases hu with
  |fl _ y hy=>
   obtain ⟨e1,e2⟩:=run_eq (nm_ltr hx) (nm_ltr (lw_fl hlu)) (hr.st nl32 nl41) (hs.st nl32 nl41) e
   exact fin (by rw [cl_inj e1]) e2 e
  |mo=>exact (brk0 hx e).elim
  |li=>exact (brk0 hx e).elim
  |no=>exact (brk0 hx e).elim
  |bo=>exact (brk0 hx e).elim
  |ei=>exact (brk0 hx e).elim
 |mo n ps f h3 hp hf=>
  intro ht m u d hu hlu r s hr hs e
  cases hu with
  |fl _ y hy=>exact (brk0 (lw_fl hlu) e.symm).elim
  |mo _ qs g h3' hq hg=>
   obtain ⟨_,e2⟩:=brk w_mo w_mo e
   obtain ⟨e3,e4,e5⟩:=mo_inj (fun p m=>⟨lw_mo ht p m,(hp p m).gf.pos⟩) (fun p m=>⟨lw_mo hlu p m,(hq p m).gf.pos⟩) hf.pos hg.pos e2
   exact fin (by rw [e3,e4]) e5 e
  |li=>exact absurd (brk w_mo w_li e).1 (by decide +kernel)
  |no=>exact absurd (brk w_mo w_no e).1 (by decide +kernel)
  |bo=>exact absurd (brk w_mo w_al e).1 (by decide +kernel)
  |ei=>exact absurd (brk w_mo w_an e).1 (by decide +kernel)
 |li n t1 t2 h1 h2=>
  intro ht m u d hu hlu r s hr hs e
  cases hu with
  |fl _ y hy=>exact (brk0 (lw_fl hlu) e.symm).elim
  |mo=>exact absurd (brk w_li w_mo e).1 (by decide +kernel)
  |li _ u1 u2 h1' h2'=>
   obtain ⟨_,e2⟩:=brk w_li w_li e
   obtain ⟨e3,e4⟩:=sp_inj tmC (ts:= [t1,t2]) (us:= [u1,u2]) (Q:=Lt) (fun t m=>by
    rcases List.mem_cons.mp m with rfl|m
    · exact tm_inj (lw_li ht).1
    · rw [List.mem_singleton.mp m]
      exact tm_inj (lw_li ht).2) (fun t m=>by
    rcases List.mem_cons.mp m with rfl|m
    · exact (lw_li hlu).1
    · rw [List.mem_singleton.mp m]
      exact (lw_li hlu).2) e2
   simp only [List.cons.injEq,and_true] at e3
   exact fin (by rw [e3.1,e3.2]) e4 e
  |no=>exact absurd (brk w_li w_no e).1 (by decide +kernel)
  |bo=>exact absurd (brk w_li w_al e).1 (by decide +kernel)
  |ei=>exact absurd (brk w_li w_an e).1 (by decide +kernel)
 |no n t c hx ih=>
  intro ht m u d hu hlu r s hr hs e
  cases hu with
  |fl _ y hy=>exact (brk0 (lw_fl hlu) e.symm).elim
  |mo=>exact absurd (brk w_no w_mo e).1 (by decide +kernel)
  |li=>exact absurd (brk w_no w_li e).1 (by decide +kernel)
  |no m' u' d' hx'=>
   obtain ⟨_,e2⟩:=brk w_no w_no e
   obtain ⟨e3,e4⟩:=many (l:= [(t,c)]) (l':= [(u',d')]) (m':=m') (fun p mp=>by rw [List.mem_singleton.mp mp];exact ih) (fun p mp=>by rw [List.mem_singleton.mp mp];exact lw_no ht) (fun p mp=>by rw [List.mem_singleton.mp mp];exact hx') (fun p mp=>by rw [List.mem_singleton.mp mp];exact lw_no hlu) e2
   simp only [List.cons.injEq,and_true,Prod.mk.injEq] at e3
   exact fin (by rw [e3.1]) e4 e
  |bo=>exact absurd (brk w_no w_al e).1 (by decide +kernel)
  |ei=>exact absurd (brk w_no w_an e).1 (by decide +kernel)
 |bo n l h3 hl ih=>
  intro ht m u d hu hlu r s hr hs e
  cases hu with
  |fl _ y hy=>exact (brk0 (lw_fl hlu) e.symm).elim
  |mo=>exact absurd (brk w_al w_mo e).1 (by decide +kernel)
  |li=>exact absurd (brk w_al w_li e).1 (by decide +kernel)
  |no=>exact absurd (brk w_al w_no e).1 (by decide +kernel)
  |bo m' l' h3' hl'=>
   obtain ⟨_,e2⟩:=brk w_al w_al e
   obtain ⟨e3,e4⟩:=many ih (fun p mp=>lw_bo ht _ (List.mem_map_of_mem mp)) hl' (fun p mp=>lw_bo hlu _ (List.mem_map_of_mem mp)) e2
   exact fin (by rw [e3]) e4 e
  |ei=>exact absurd (brk w_al w_an e).1 (by decide +kernel)
 |ei n l h3 hl ih=>
  intro ht m u d hu hlu r s hr hs e
  cases hu with
  |fl _ y hy=>exact (brk0 (lw_fl hlu) e.symm).elim
  |mo=>exact absurd (brk w_an w_mo e).1 (by decide +kernel)
  |li=>exact absurd (brk w_an w_li e).1 (by decide +kernel)
  |no=>exact absurd (brk w_an w_no e).1 (by decide +kernel)
  |bo=>exact absurd (brk w_an w_al e).1 (by decide +kernel)
  |ei m' l' h3' hl'=>
   obtain ⟨_,e2⟩:=brk w_an w_an e
   obtain ⟨e3,e4⟩:=many ih (fun p mp=>lw_ei ht _ (List.mem_map_of_mem mp)) hl' (fun p mp=>lw_ei hlu _ (List.mem_map_of_mem mp)) e2
   exact fin (by rw [e3]) e4 e
structure Wy (n:Nat) (t:Tr) (c:List Nat):Prop where
 wx:Wx n t c
 lw:Lw t
theorem Wy.inj {n m:Nat} {t u:Tr} {c:List Nat} (h1:Wy n t c) (h2:Wy m u c):t=u:=(wx_inj h1.wx h1.lw m u c h2.wx h2.lw [] [] En.nil En.nil rfl).1
end Tw
namespace K81
open PySem L2 Mth Tre Wd Su Tw EqD
theorem nmB_ok {x:Str} (h:Nm x):nmB (.str x)=true:=by
 have h1:=(L2.name_iff x).mpr ⟨h.pos,h.ltr⟩
 show (!decide (8 < (x.length:Int))&& (Txt.isascii x&& (Txt.isalpha x&&Txt.islower x)))=true
 rw [h1,decide_eq_false (show¬(8:Int) < (x.length:Int) by have:=h.le;omega)]
 rfl
mutual
theorem pdep_pl:∀t:Tr,pdep (toPl t)=t.depth
 | .tup ts=>by rw [toPl,pdep,psdep_pl ts,Tr.depth]
 | .non=>by rw [toPl,pdep,Tr.depth]<;>simp
 | .bl _=>by rw [toPl,pdep,Tr.depth]<;>simp
 | .int _=>by rw [toPl,pdep,Tr.depth]<;>simp
 | .str _=>by rw [toPl,pdep,Tr.depth]<;>simp
 | .ls=>by rw [toPl,pdep,Tr.depth]<;>simp
theorem psdep_pl:∀ts:List Tr,psdep (toPls ts)=Trs.depth ts
 | []=>by rw [toPls,psdep,Trs.depth]
 |t::ts=>by rw [toPls,psdep,Trs.depth,pdep_pl t,psdep_pl ts]
end
theorem oks_of:∀ {ts:List Pl},(∀t∈ts,Ok t)→Oks ts
 | [],_=>by unfold Oks;trivial
 |t::ts,h=>by unfold Oks;exact ⟨h t List.mem_cons_self,oks_of fun u m=>h u (List.mem_cons_of_mem _ m)⟩
theorem okS {x:Str} (h:x.length≤8):Ok (.str x):=by unfold Ok;omega
theorem okT {ts:List Pl} (hl:ts.length≤1000) (h:∀t∈ts,Ok t):Ok (.tup ts):=by unfold Ok;exact ⟨hl,oks_of h⟩
theorem tmB_nm {x:Str} (h:Nm x) (n:Nat):tmB (n+1) (toPl (.tup [s_ "name", .str x]))=true:=by
 simp only [toPl,toPls]
 rw [tmB,nmB_ok h,show isS (Str.ofString "name") (.str (Str.ofString "name"))=true by decide +kernel]
 rfl
theorem tmB_ap {f:Str} {ts:List Tr} (h:Nm f) (h0:0 < ts.length) (h3:ts.length≤3) {n:Nat} (ht:∀t∈ts,tmB n (toPl t)=true):tmB (n+1) (toPl (.tup [s_ "call", .str f, .tup ts]))=true:=by
 simp only [toPl,toPls]
 rw [tmB,nmB_ok h,show isS (Str.ofString "call") (.str (Str.ofString "call"))=true by decide +kernel,ctB,toPls_map,List.length_map,decide_eq_true (show (1:Int)≤(ts.length:Int) by omega),decide_eq_true (show (ts.length:Int)≤3 by omega),tms_all,List.all_map]
 rw [show ts.all (tmB n ∘ toPl)=true from List.all_eq_true.mpr fun t m=>ht t m]
 rfl
theorem ok_nm' {x:Str} (h:Nm x):Ok (toPl (.tup [s_ "name", .str x])):=by
 simp only [toPl,toPls]
 refine okT (by simp) fun t m=> ?_
 simp only [List.mem_cons,List.not_mem_nil,or_false] at m
 rcases m with rfl|rfl
 · exact okS (by decide +kernel)
 · exact okS h.le
theorem ok_ap' {f:Str} {ts:List Tr} (h:Nm f) (h3:ts.length≤3) (ht:∀t∈ts,Ok (toPl t)):Ok (toPl (.tup [s_ "call", .str f, .tup ts])):=by
 simp only [toPl,toPls]
 refine okT (by simp) fun t m=> ?_
 simp only [List.mem_cons,List.not_mem_nil,or_false] at m
 rcases m with rfl|rfl|rfl
 · exact okS (by decide +kernel)
 · exact okS h.le
 · rw [toPls_map]
   refine okT (by rw [List.length_map];omega) fun u mu=> ?_
   obtain ⟨t,mt,rfl⟩:=List.mem_map.mp mu
   exact ht t mt
end K81
namespace L2
open PySem Tre
noncomputable def litEs (f:Expr→Option Tr):List Expr→Option (List Tr)
 | []=>some []
 |e::es=>match f e,litEs f es with
  |some t,some ts=>some (t::ts)
  |_,_=>none
noncomputable def litE:Nat→Expr→Option Tr
 |0,_=>none
 |n+1,e=>match e with
  | .Constant (.str x) _ _=>some (.str x)
  | .Constant (.int i) _ _=>some (.int i)
  | .UnaryOp .USub (.Constant (.int i) _ _) _=>some (.int (-i))
  | .Tuple es _ _=>if es.length≤100 then (litEs (litE n) es).map .tup else none
  |_=>none
noncomputable def litL (n:Nat):Expr→Option (List Tr)
 | .List es _=>if es.length≤100 then litEs (litE n) es else none
 |_=>none
def tLit (t:Tr):TE:=fun _ H Q=>∀v H',Same H H'→TrAt H' v t→Q v H'
def tLits (ts:List Tr):TA:=fun _ H Q=>∀vs H',Same H H'→TrsAt H' vs ts→Q vs H'
def tLitL (ts:List Tr):TE:=fun _ H Q=>∀r vs H',Same H H'→H r=none→H' r=some (.lst vs)→TrsAt H' vs ts→Q (.ref r) H'
section
variable {X:Cx}
theorem PE.imp {e:Expr} {t u:TE} (h:PE X e t) (k:∀σ H Q,u σ H Q→t σ H Q):PE X e u:=fun pins s σ H Q I q=>h pins s σ H Q I (k σ H Q q)
theorem PA.imp {es:List Expr} {t u:TA} (h:PA X es t) (k:∀σ H Q,u σ H Q→t σ H Q):PA X es u:=fun pos pins s σ H Q I q=>h pos pins s σ H Q I (k σ H Q q)
theorem same_up {H:Hp} {p:Addr} {o:HO} (h:H p=none):Same H (upd H p o):=fun b u e=>by
 rw [upd_ne (ne_of_none e h)]
 exact e
theorem Same.none {H H':Hp} {p:Addr} (s:Same H H') (h:H' p=none):H p=none:=by
 cases e:H p with
 |none=>rfl
 |some o=>rw [s p o e] at h;cases h
theorem lits_len:∀ {n:Nat} {es:List Expr} {ts:List Tr},litEs (litE n) es=some ts→ts.length=es.length
 |n,[],ts,h=>by
  rw [litEs] at h
  cases h
  rfl
 |n,e::es,ts,h=>by
  rw [litEs] at h
  split at h
  · rename_i t us h1 h2
    cases h
    rw [List.length_cons,List.length_cons,lits_len h2]
  · cases h
theorem pe_litB:∀n,∀e t,litE n e=some t→PE X e (tLit t)∧∀es,starEach (e::es) X.env=(false,eval e X.env)::starEach es X.env:=by
 intro n
 induction n with
 |zero=>
  intro e t h
  rw [litE] at h
  cases h
 |succ n ih=>
  have many:∀es ts,litEs (litE n) es=some ts→PA X es (tLits ts):=by
   intro es
   induction es with
   |nil=>
    intro ts h
    rw [litEs] at h
    cases h
    exact PA.imp pa_nil fun σ H Q q=>q [] H (Same.refl H) .nil
   |cons e es ih2=>
    intro ts h
    rw [litEs] at h
    split at h
    · rename_i t us h1 h2
      cases h
      obtain ⟨a1,a2⟩:=ih e t h1
      refine PA.imp (pa_cons a1 (ih2 us h2) (a2 es)) fun σ H Q q=> ?_
      intro v H1 s1 hv ws H2 s2 hw
      exact q (v::ws) H2 (s1.trans s2) (.cons (hv.mono (Kd.of_same s2)) hw)
    · cases h
  intro e t h
  unfold litE at h
  split at h
  · cases h
    exact ⟨PE.imp pe_str fun σ H Q q=>q _ H (Same.refl H) at_str,fun es=>rfl⟩
  · cases h
    exact ⟨PE.imp pe_int fun σ H Q q=>q _ H (Same.refl H) (by unfold TrAt;rfl),fun es=>rfl⟩
  · cases h
    exact ⟨PE.imp (pe_un un_neg pe_int) fun σ H Q q=>⟨_,rfl,q _ H (Same.refl H) (by unfold TrAt;rfl)⟩,fun es=>rfl⟩
  · rename_i es k pos
    split at h
    · rename_i hl
      obtain ⟨ts,h1,h2⟩:=Option.map_eq_some_iff.mp h
      cases h2
      refine ⟨PE.imp (pe_tup (many es ts h1)) fun σ H Q q=> ?_,fun es=>rfl⟩
      intro vs H1 s1 hv
      have l1:=hv.len
      have l2:=lits_len h1
      refine ⟨by have:(100:Nat)≤sizeLine:=by decide +kernel
                 omega,fun p np=> ?_⟩
      have s2:=same_up (o:= .tup vs) np
      exact q (.ref p) _ (s1.trans s2) (at_tup upd_same (hv.mono (Kd.of_same s2)))
    · cases h
  · cases h
theorem pa_lits (n:Nat):∀ {es:List Expr} {ts:List Tr},litEs (litE n) es=some ts→PA X es (tLits ts)
 | [],ts,h=>by
  rw [litEs] at h
  cases h
  exact PA.imp pa_nil fun σ H Q q=>q [] H (Same.refl H) .nil
 |e::es,ts,h=>by
  rw [litEs] at h
  split at h
  · rename_i t us h1 h2
    cases h
    obtain ⟨a1,a2⟩:=pe_litB (X:=X) n e t h1
    refine PA.imp (pa_cons a1 (pa_lits n h2) (a2 es)) fun σ H Q q=> ?_
    intro v H1 s1 hv ws H2 s2 hw
    exact q (v::ws) H2 (s1.trans s2) (.cons (hv.mono (Kd.of_same s2)) hw)
  · cases h
theorem pe_litL (n:Nat) {e:Expr} {ts:List Tr} (h:litL n e=some ts):PE X e (tLitL ts):=by
 unfold litL at h
 split at h
 · rename_i es pos
   split at h
   · rename_i hl
     refine PE.imp (pe_lst (pa_lits n h)) fun σ H Q q=> ?_
     intro vs H1 s1 hv
     have l1:=hv.len
     have l2:=lits_len h
     refine ⟨by have:(100:Nat)≤sizeLine:=by decide +kernel
                omega,fun p np=> ?_⟩
     have s2:=same_up (o:= .lst vs) np
     exact q p vs _ (s1.trans s2) (s1.none np) upd_same (hv.mono (Kd.of_same s2))
   · cases h
 · cases h
end
open PySem
section
variable {X:Cx} {es rest:List Expr} {t tr:TA}
theorem pa_cc {a b:Str} {j p j' p' k q k2 q2} (h:PA X es t) (hr:PA X rest tr):PA X (.Tuple [.Constant (.str a) j p, .Constant (.str b) j' p', .Tuple es k q] k2 q2::rest) (tCons (tTup (tCons (tC (.str a)) (tCons (tC (.str b)) (tCons (tTup t) tNil)))) tr):=by
 refine pa_cons (pe_tup ?_) hr rfl
 refine pa_cons pe_str ?_ rfl
 refine pa_cons pe_str ?_ rfl
 exact pa_cons (pe_tup h) pa_nil rfl
theorem pe_cc {a b:Str} {j p j' p' k q k2 q2} (h:PA X es t):PE X (.Tuple [.Constant (.str a) j p, .Constant (.str b) j' p', .Tuple es k q] k2 q2) (tTup (tCons (tC (.str a)) (tCons (tC (.str b)) (tCons (tTup t) tNil)))):=by
 refine pe_tup ?_
 refine pa_cons pe_str ?_ rfl
 refine pa_cons pe_str ?_ rfl
 exact pa_cons (pe_tup h) pa_nil rfl
theorem ps_rcc {a b:Str} {j p j' p' k q k2 q2 q3} (h:PA X es t):PSs X [.Return (some (.Tuple [.Constant (.str a) j p, .Constant (.str b) j' p', .Tuple es k q] k2 q2)) q3] (tRet (tTup (tCons (tC (.str a)) (tCons (tC (.str b)) (tCons (tTup t) tNil))))):=pss_one (ps_ret (pe_cc h))
end
end L2
namespace K81
open PySem L2 Mth Tre Wd Su Tw EqD
theorem nm_a:Nm (Str.ofString "a"):=⟨by decide +kernel,by decide +kernel,by show∀c∈(Str.ofString "a").cps.toList,97≤c∧c≤122;decide +kernel⟩
theorem nm_b:Nm (Str.ofString "b"):=⟨by decide +kernel,by decide +kernel,by show∀c∈(Str.ofString "b").cps.toList,97≤c∧c≤122;decide +kernel⟩
theorem nm_ab:Nm (Str.ofString "ab"):=⟨by decide +kernel,by decide +kernel,by show∀c∈(Str.ofString "ab").cps.toList,97≤c∧c≤122;decide +kernel⟩
theorem nm_f:Nm (Str.ofString "f"):=⟨by decide +kernel,by decide +kernel,by show∀c∈(Str.ofString "f").cps.toList,97≤c∧c≤122;decide +kernel⟩
theorem nm_p:Nm (Str.ofString "p"):=⟨by decide +kernel,by decide +kernel,by show∀c∈(Str.ofString "p").cps.toList,97≤c∧c≤122;decide +kernel⟩
theorem nm_q:Nm (Str.ofString "q"):=⟨by decide +kernel,by decide +kernel,by show∀c∈(Str.ofString "q").cps.toList,97≤c∧c≤122;decide +kernel⟩
structure Tz (d:Nat) (t:Tr):Prop where
 ty:Ty .tm t
 lt:Lt t
 dep:t.depth≤2*d+1
 pl:Ok (toPl t)
 tb:∀n,t.depth < n→tmB n (toPl t)=true
theorem Tz.nm {x:Str} (h:Nm x) (d:Nat):Tz d (.tup [s_ "name", .str x]):=⟨.nm x, .nm x h,by simp only [Tr.depth,Trs.depth];omega,ok_nm' h,fun n hn=>by
 cases n with
 |zero=>omega
 |succ n=>exact tmB_nm h n⟩
theorem Tz.ap {f:Str} {ts:List Tr} {d:Nat} (h:Nm f) (h0:0 < ts.length) (h3:ts.length≤3) (ht:∀t∈ts,Tz d t):Tz (d+1) (.tup [s_ "call", .str f, .tup ts]):=by
 refine ⟨.ap f ts h3 fun t m=>(ht t m).ty, .ap f ts h h0 fun t m=>(ht t m).lt,?_,ok_ap' h h3 fun t m=>(ht t m).pl,fun n hn=> ?_⟩
 rotate_left
 · cases n with
   |zero=>omega
   |succ n=>
    refine tmB_ap h h0 h3 fun t m=>(ht t m).tb n ?_
    have:=depth_memT m
    simp only [Tr.depth,Trs.depth] at hn
    omega
 have:=depths_le fun t m=>(ht t m).dep
 simp only [Tr.depth,Trs.depth]
 omega
theorem Tz.mono {d e:Nat} {t:Tr} (h:Tz d t) (l:d≤e):Tz e t:=⟨h.ty,h.lt,by have:=h.dep;omega,h.pl,h.tb⟩
theorem pick {H:Hp} {vs:List V} {ts:List Tr} {r:Int} (h:TrsAt H vs ts) (h0:0≤r) (h1:r < (ts.length:Int)):∃v t,atI vs r=some v∧t∈ts∧TrAt H v t:=by
 obtain ⟨j,rfl⟩:∃j:Nat,r=(j:Int):=⟨r.toNat,by omega⟩
 have hj:j < ts.length:=by omega
 obtain ⟨v,e1,e2⟩:=h.get (i:=j) (t:=ts[j]) (List.getElem?_eq_getElem hj)
 exact ⟨v,_,atI_nat e1,List.getElem_mem hj,e2⟩
noncomputable def asgV:Stmt→Expr
 | .Assign _ v _=>v
 |_=> .Constant .none 0 ⟨0,0,0,0⟩
noncomputable def asgW (s:Stmt) (L:Expr):Stmt:=match s with
 | .Assign ts _ p=> .Assign ts L p
 |s=>s
theorem swaps_lit {n:Nat} {L:Expr} {ts:List Tr} (h:litL n L=some ts) {tg:Option Expr} {line:Nat} {env:Env}:swapsWith L tg line env=pure false:=by
 unfold litL at h
 split at h
 · rfl
 · cases h
section
variable {P:Program} {w:World} {K:PySem.W.Frag} {mg:Str→Option Value} {base:Heap}
def spTerm (K:PySem.W.Frag):Sp:=fun vs H Q _=>∃(a:Addr) (ns:List Int) (kk:Int),vs= [.ref a, .int kk]∧SqL K H a (ns.map V.int)∧ns.length≤63∧0≤kk∧kk≤90000∧∀v t H',Same H H'→TrAt H' v t→Tz 2 t→Q v H'
theorem scTe:FnScope ["_law_script","_law_k","_law_names","_law_one","_law_way"] ["_law_script","_law_k"] (defScope sTerm):=⟨rfl,rfl,rfl,by decide +kernel,rfl,by decide +kernel,by decide +kernel⟩
theorem ok_term {f fD:Addr} {fd dD:FuncData} (F:Fun K "_law_term" "_law_term" sTerm f fd)
 (gD:FnOk P w K mg base CX0 1 fD dD ["_law_script","_law_k","_law_many"] (spDraw K)) (kD:PySem.W.keepIn K (.ref fD)=true) (bD:Binds K dD ["_law_script","_law_k","_law_many"] []) (mD:mg "_law_draw"=some (.ref fD)):FnOk P w K mg base CX0 2 f fd ["_law_script","_law_k"] (spTerm K):=by
 refine F.ok scTe (fun vs H Q E h=> ?_) (fun cdv A outer s H vs Q E hr h=> ?_)
 · obtain ⟨a,ns,kk,rfl,_⟩:=h
   rfl
 obtain ⟨a,ns,kk,rfl,hS,h63,k0,k9,k⟩:=h
 have hr1:Room 1 _:=hr.mono (by decide)
 have eB:defBody sTerm=asgW ((defBody sTerm).headD (.Pass ⟨0,0,0,0⟩)) (asgV ((defBody sTerm).headD (.Pass ⟨0,0,0,0⟩)))::(defBody sTerm).tail:=rfl
 have eL:litL 9 (asgV ((defBody sTerm).headD (.Pass ⟨0,0,0,0⟩)))=some [Tr.tup [.str (Str.ofString "name"), .str (Str.ofString "a")], .tup [.str (Str.ofString "name"), .str (Str.ofString "b")], .tup [.str (Str.ofString "name"), .str (Str.ofString "ab")], .tup [.str (Str.ofString "name"), .str (Str.ofString "f")]]:=rfl
 rw [eB]
 clear eB
 generalize asgV ((defBody sTerm).headD (.Pass ⟨0,0,0,0⟩))=LE at eL ⊢
 refine ⟨_,pss_cons (ps_set (i:=2) scTe.nd rfl (Or.inl rfl) (pe_litL 9 eL) (swaps_lit eL))
  (pss_cons (ps_set (i:=3) scTe.nd rfl (Or.inl rfl) (pe_ix ix_list (pv 2) (pe_call gD hr1 rfl mD kD bD .nil pass0 (pa_cons (pv 0) (pa_cons (pv 1) (pa_cons pe_int pa_nil)))) fun _ _=>rfl))
  (pss_cons (ps_set (i:=4) scTe.nd rfl (Or.inl rfl) (pe_call gD hr1 rfl mD kD bD .nil pass0 (pa_cons (pv 0) (pa_cons (pe_op op_add (pv 1) pe_int) (pa_cons pe_int pa_nil)))))
  (pss_cons (ps_if (pt_cmpR op_lt (pv 4) pe_int (nomark _)) (pss_one (ps_ret (pv 3))) pss_nil)
  (pss_cons (ps_if (pt_cmpR op_eq (pv 4) pe_int (nomark _)) (ps_rcc (pa_cons (pv 3) (pa_cons (pe_ix ix_list (pv 2) pe_int fun _ _=>rfl) pa_nil))) pss_nil)
  (pss_cons (ps_if (pt_cmpR op_eq (pv 4) pe_int (nomark _)) (ps_rcc (pa_cc (pa_cons (pv 3) pa_nil) pa_nil)) pss_nil)
  (ps_rcc (pa_cons (pv 3) pa_nil))))))),?_⟩
 have h1:(1:Nat)≤sizeLine:=by decide
 have h2:(2:Nat)≤sizeLine:=by decide
 have h3:(3:Nat)≤sizeLine:=by decide
 have h4:(4:Nat)≤sizeLine:=by decide
 intro L ws H5 sA _ hL hT
 have hS5:=SqL.same sA hS
 have tz:∀t∈ [Tr.tup [.str (Str.ofString "name"), .str (Str.ofString "a")], .tup [.str (Str.ofString "name"), .str (Str.ofString "b")], .tup [.str (Str.ofString "name"), .str (Str.ofString "ab")], .tup [.str (Str.ofString "name"), .str (Str.ofString "f")]],Tz 0 t:=fun t m=>by
  simp only [List.mem_cons,List.not_mem_nil,or_false] at m
  rcases m with rfl|rfl|rfl|rfl
  · exact Tz.nm nm_a 0
  · exact Tz.nm nm_b 0
  · exact Tz.nm nm_ab 0
  · exact Tz.nm nm_f 0
 obtain ⟨v0,t0,e0,m0,hv0⟩:=pick hT (r:=0) (by decide) (by decide)
 refine ⟨_,rfl,_,rfl,_,rfl,a,ns,kk,4,rfl,hS5,h63,k0,by omega,by decide,fun r r0 r4=> ?_⟩
 obtain ⟨v,t,ev,mt,hv⟩:=pick hT r0 r4
 have zt:=tz t mt
 refine ⟨L,_,r,v,rfl,rfl,SqL.of hL,ev,?_⟩
 refine ⟨_,rfl,_,rfl,_,_,rfl,rfl,a,ns,kk+1,6,rfl,hS5,h63,by omega,by omega,by decide,fun y _ _=> ?_⟩
 refine ⟨_,rfl,_,_,rfl,rfl,_,rfl,?_⟩
 refine ite2 (fun _=>⟨_,rfl,k v t H5 sA hv (zt.mono (by decide))⟩) (fun _=> ?_)
 refine ⟨_,rfl,rfl,_,rfl,?_⟩
 refine ite2 (fun _=> ?_) (fun _=> ?_)
 · refine ⟨_,rfl,_,rfl,L,_,0,v0,rfl,rfl,SqL.of hL,e0,h2,fun q nq=>⟨h3,fun q2 nq2=> ?_⟩⟩
   have sq:=same_upd (o:= .tup [v,v0]) nq
   have sq2:=same_upd (o:= .tup [.str (Str.ofString "call"), .str (Str.ofString "a"), .ref q]) nq2
   refine k (.ref q2) (.tup [s_ "call",s_ "a", .tup [t,t0]]) _ (sA.trans (sq.trans sq2)) (at_tup upd_same (.cons at_str (.cons at_str (.cons (at_tup (sq2 _ _ upd_same) (.cons (hv.mono (Kd.of_same (sq.trans sq2))) (.cons (hv0.mono (Kd.of_same (sq.trans sq2))) .nil))) .nil)))) (Tz.mono (Tz.ap (d:=0) nm_a (by simp) (by simp) fun u mu=> ?_) (by decide))
   simp only [List.mem_cons,List.not_mem_nil,or_false] at mu
   rcases mu with rfl|rfl
   · exact zt
   · exact tz _ m0
 have one:∀ {q:Addr} {H6:Hp},H6 q=some (.tup [v])→Same H5 H6→TrAt H6 (.ref q) (.tup [t]):=fun hq s6=>at_tup hq (.cons (hv.mono (Kd.of_same s6)) .nil)
 have z1:Tz 1 (.tup [s_ "call",s_ "f", .tup [t]]):=Tz.ap (d:=0) nm_f (by simp) (by simp) fun u mu=>by rw [List.mem_singleton.mp mu];exact zt
 refine ⟨_,rfl,rfl,_,rfl,?_⟩
 refine ite2 (fun _=> ?_) (fun _=> ?_)
 · refine ⟨_,rfl,h1,fun q nq=>⟨h3,fun q2 nq2=>⟨h1,fun q3 nq3=>⟨h3,fun q4 nq4=> ?_⟩⟩⟩⟩
   have sq:=same_upd (o:= .tup [v]) nq
   have sq2:=same_upd (o:= .tup [.str (Str.ofString "call"), .str (Str.ofString "f"), .ref q]) nq2
   have sq3:=same_upd (o:= .tup [.ref q2]) nq3
   have sq4:=same_upd (o:= .tup [.str (Str.ofString "call"), .str (Str.ofString "f"), .ref q3]) nq4
   have hq:TrAt _ (.ref q2) (.tup [s_ "call",s_ "f", .tup [t]]):=at_tup (H:=upd (upd H5 q (.tup [v])) q2 (.tup [.str (Str.ofString "call"), .str (Str.ofString "f"), .ref q])) upd_same (.cons at_str (.cons at_str (.cons (one (sq2 _ _ upd_same) (sq.trans sq2)) .nil)))
   refine k (.ref q4) (.tup [s_ "call",s_ "f", .tup [.tup [s_ "call",s_ "f", .tup [t]]]]) _ (sA.trans (sq.trans (sq2.trans (sq3.trans sq4)))) (at_tup upd_same (.cons at_str (.cons at_str (.cons (at_tup (sq4 _ _ upd_same) (.cons (hq.mono (Kd.of_same (sq3.trans sq4))) .nil)) .nil)))) (Tz.ap (d:=1) nm_f (by simp) (by simp) fun u mu=>by rw [List.mem_singleton.mp mu];exact z1)
 · refine ⟨_,rfl,h1,fun q nq=>⟨h3,fun q2 nq2=> ?_⟩⟩
   have sq:=same_upd (o:= .tup [v]) nq
   have sq2:=same_upd (o:= .tup [.str (Str.ofString "call"), .str (Str.ofString "f"), .ref q]) nq2
   exact k (.ref q2) (.tup [s_ "call",s_ "f", .tup [t]]) _ (sA.trans (sq.trans sq2)) (at_tup upd_same (.cons at_str (.cons at_str (.cons (one (sq2 _ _ upd_same) (sq.trans sq2)) .nil)))) (z1.mono (by decide))
end
open PySem L2 Mth Tre Wd Su Tw
structure Fz (f:Fr):Prop where
 b1:1≤f.2
 gc:Int.gcd f.1 f.2=1
section
variable {P:Program} {w:World} {K:PySem.W.Frag} {mg:Str→Option Value} {base:Heap}
theorem gf_i {a b:Int} (h:0 < b) (h1:a.natAbs≤100000) (h2:b.natAbs≤100000):Gf 200 (a,b):=by
 have:(100000:Nat) < 2^200:=by decide +kernel
 exact ⟨h,Nat.lt_of_le_of_lt h1 this,Nat.lt_of_le_of_lt h2 this⟩
def spShr (K:PySem.W.Frag):Sp:=fun vs H Q _=>∃(a:Addr) (ns:List Int) (kk:Int),vs= [.ref a, .int kk]∧SqL K H a (ns.map V.int)∧ns.length≤63∧0≤kk∧kk≤90000∧∀v fr H',Same H H'→TrAt H' v (frT fr)→Gf 200 fr→Fz fr→fr.1≠0→Q v H'
theorem scSh:FnScope ["_law_script","_law_k","_law_some"] ["_law_script","_law_k"] (defScope sShare):=⟨rfl,rfl,rfl,by decide +kernel,rfl,by decide +kernel,by decide +kernel⟩
theorem ok_shr {f fD:Addr} {fd dD:FuncData} (F:Fun K "_law_share" "_law_share" sShare f fd)
 (gD:FnOk P w K mg base CX0 1 fD dD ["_law_script","_law_k","_law_many"] (spDraw K)) (kD:PySem.W.keepIn K (.ref fD)=true) (bD:Binds K dD ["_law_script","_law_k","_law_many"] []) (mD:mg "_law_draw"=some (.ref fD)):FnOk P w K mg base CX0 2 f fd ["_law_script","_law_k"] (spShr K):=by
 refine F.ok scSh (fun vs H Q E h=> ?_) (fun cdv A outer s H vs Q E hr h=> ?_)
 · obtain ⟨a,ns,kk,rfl,_⟩:=h
   rfl
 obtain ⟨a,ns,kk,rfl,hS,h63,k0,k9,k⟩:=h
 have hr1:Room 1 _:=hr.mono (by decide)
 refine ⟨_,pss_cons (ps_set (i:=2) scSh.nd rfl (Or.inl rfl) (pe_litL 9 rfl))
  (pss_cons (ps_if (pt_cmpR op_eq (pe_call gD hr1 rfl mD kD bD .nil pass0 (pa_cons (pv 0) (pa_cons (pe_op op_add (pv 1) pe_int) (pa_cons pe_int pa_nil)))) pe_int (nomark _)) (pss_one (ps_ret (pe_tup (pa_cons pe_int (pa_cons pe_int pa_nil))))) pss_nil)
  (pss_one (ps_ret (pe_ix ix_list (pv 2) (pe_call gD hr1 rfl mD kD bD .nil pass0 (pa_cons (pv 0) (pa_cons (pv 1) (pa_cons pe_int pa_nil)))) fun _ _=>rfl)))),?_⟩
 have h2:(2:Nat)≤sizeLine:=by decide
 have h8:(8:Nat)≤sizeLine:=by decide
 intro L ws H9 sA _ hL hT
 have hS9:=SqL.same sA hS
 refine ⟨_,rfl,_,rfl,_,_,rfl,rfl,a,ns,kk+1,16,rfl,hS9,h63,by omega,by omega,by decide,fun y _ _=> ?_⟩
 refine ⟨rfl,_,rfl,?_⟩
 refine ite2 (fun _=>⟨h2,fun q nq=>k (.ref q) (9999,9998) _ (sA.trans (same_upd nq)) (at_ints upd_same) (gf_i (by decide) (by decide) (by decide)) ⟨by decide,by decide⟩ (by decide)⟩) (fun _=> ?_)
 refine ⟨_,rfl,_,rfl,_,rfl,a,ns,kk,8,rfl,hS9,h63,k0,by omega,by decide,fun r r0 r8=> ?_⟩
 obtain ⟨v,t,ev,mt,hv⟩:=pick hT r0 r8
 refine ⟨L,_,r,v,rfl,rfl,SqL.of hL,ev,?_⟩
 simp only [List.mem_cons,List.not_mem_nil,or_false] at mt
 rcases mt with rfl|rfl|rfl|rfl|rfl|rfl|rfl|rfl
 · exact k v (1,1) H9 sA hv (gf_i (by decide) (by decide) (by decide)) ⟨by decide,by decide⟩ (by decide)
 · exact k v (-1,1) H9 sA hv (gf_i (by decide) (by decide) (by decide)) ⟨by decide,by decide⟩ (by decide)
 · exact k v (2,1) H9 sA hv (gf_i (by decide) (by decide) (by decide)) ⟨by decide,by decide⟩ (by decide)
 · exact k v (-1,2) H9 sA hv (gf_i (by decide) (by decide) (by decide)) ⟨by decide,by decide⟩ (by decide)
 · exact k v (3,1) H9 sA hv (gf_i (by decide) (by decide) (by decide)) ⟨by decide,by decide⟩ (by decide)
 · exact k v (-2,3) H9 sA hv (gf_i (by decide) (by decide) (by decide)) ⟨by decide,by decide⟩ (by decide)
 · exact k v (1,1) H9 sA hv (gf_i (by decide) (by decide) (by decide)) ⟨by decide,by decide⟩ (by decide)
 · exact k v (-1,1) H9 sA hv (gf_i (by decide) (by decide) (by decide)) ⟨by decide,by decide⟩ (by decide)
end
end K81
namespace Dj
open PySem PySem.Spec PySem.W PyProof.Rows L2 Tre
def RawD (h:Heap) (d:Addr) (es:Array DictEntry) (ep:Nat):Prop:=∃o,h.get? d=some o∧o.ExactDict∧o.data= .dict es ep
theorem RawD.kp {h h':Heap} {d:Addr} {es:Array DictEntry} {ep:Nat} (x:RawD h d es ep) (e:∀o,h.get? d=some o→h'.get? d=some o):RawD h' d es ep:=by
 obtain ⟨o,h1,h2⟩:=x
 exact ⟨o,e o h1,h2⟩
theorem RawD.lt {h:Heap} {d:Addr} {es:Array DictEntry} {ep:Nat} (x:RawD h d es ep):d < h.objs.size:=by
 obtain ⟨o,h1,_⟩:=x
 exact Heap.lt_size h1
section
variable {prog:Program} {w:World} {A:Around} {E:Value→Shared→Prop} {s:Shared} {d it:Addr} {es:Array DictEntry} {ep:Nat}
theorem RawD.ty (x:RawD s.heap d es ep):s.TypeIs (.ref d) "dict":=by
 obtain ⟨o,h1,h2,_⟩:=x
 exact ⟨o,h1,h2.1⟩
theorem raw_iter {Q:Value→Shared→Prop} (hd:(d==sysModules)=false) (hm:RawD s.heap d es ep)
 (hQ:Q (.ref s.heap.objs.size) {s with heap:=s.heap.push {cls:= .type "dict_keyiterator",data:= .fields #[.ref d, .int 0 0, .int es.size 0, .int ep 0]}}):wpAny (model prog w) A (pyIter (.ref d)) Q E s:=by
 have hT:=hm.ty
 obtain ⟨o,ho,hc,hdat⟩:=hm
 refine wpAny_pyIter_slot hT F.slot_dict_iter (wpAny_call_entry F.slot_dict_iter hT F.entry_dict_iter (A:=A) ?_ (F.args_dict_iter_1 _))
 unfold Builtin.«dict.__iter__»;refine wpAny_bind ?_;unfold Builtin.Dict.dictSlotNone;refine wpAny_bind (wpAny_notOrdered_dict hT ?_)
 show wpAny _ _ (pure (Value.ref d)) _ _ s;refine wpAny_pure ?_;show wpAny _ _ (Builtin.Dict.showsAll d >>=_) _ _ s
 unfold Builtin.Dict.showsAll;rw [if_neg (by rw [hd];exact Bool.false_ne_true)];refine wpAny_bind (wpAny_pure ?_)
 refine wpAny_bind (wpAny_dictEntries ho hdat (wpAny_bind (wpAny_dictEpoch ho hdat ?_)))
 refine wpAny_bind (wpAny_newObj_type (wpAny_pure ⟨_,rfl,"dict_keyiterator",_,⟨_,Heap.get?_push_size _ rfl,rfl⟩,F.slot_dict_keyiterator_next.lookup,by simpa [rawInt] using hQ⟩))
theorem raw_next {i:Nat} {Q:Option Value→Shared→Prop} (hit:s.heap.IsKeyIter it d i es.size ep) (hm:RawD s.heap d es ep) (hi:i < es.size)
 (hQ:∀h',h'.IsKeyIter it d (i+1) es.size ep→Heap.SameBut it s.heap h'→Q (some es[i].key) {s with heap:=h'}):wpAny (model prog w) A (pyNext (.ref it)) Q E s:=by
 obtain ⟨o,ho,hc,hd⟩:=id hit;obtain ⟨od,hod,hcd,hdd⟩:=id hm;have hown:Builtin.Dict_items.ownsTuple "dict_keyiterator"=false:=by decide
 unfold pyNext;refine wpAny_bind (wpAny_attempt (wpAny_callSpecial?_slot (name:=Str.ofString "__next__") hit.typeIs F.slot_dict_keyiterator_next (wpAny_call_entry F.slot_dict_keyiterator_next hit.typeIs F.entry_dict_keyiterator_next ?_ (F.args_dict_keyiterator_next_1 _))))
 refine wpAny_bind (wpAny_pure (wpAny_bind (wpAny_bind ?_)))
 first|refine wpAny_bind (wpAny_typeNameOfWhole_keyiter hit.typeIs (wpAny_pure (wpAny_bind (wpAny_fieldsOf ho hd ?_))))|refine wpAny_bind (wpAny_typeNameOf_keyiter hit.typeIs (wpAny_pure (wpAny_bind (wpAny_fieldsOf ho hd ?_))))
 simp only [hown,Bool.false_eq_true,if_false];show wpAny _ _ (if (Value.ref d==Value.none)=true then _ else _) _ _ s
 rw [if_neg (show¬((Value.ref d==Value.none)=true) from Bool.false_ne_true)];refine wpAny_bind (wpAny_pure (wpAny_bind (wpAny_dictEntries hod hdd ?_)))
 rw [if_neg (by simp)];refine wpAny_bind (wpAny_pure (wpAny_bind (wpAny_dictEpoch hod hdd ?_)));rw [if_neg (by simp)];refine wpAny_pure ?_
 simp only [show¬((i:Int) < 0) from by omega,if_false,Int.toNat_natCast,Array.getElem?_eq_getElem hi];refine wpAny_bind ?_
 first|refine wpAny_bind (wpAny_typeNameOfWhole_keyiter hit.typeIs (wpAny_pure (wpAny_bind (wpAny_isOneOf_keyiter hit.typeIs ?_))))|refine wpAny_bind (wpAny_typeNameOf_keyiter hit.typeIs (wpAny_pure (wpAny_bind (wpAny_isOneOf_keyiter hit.typeIs ?_))))
 show wpAny _ _ (setField (.ref it) 1 (rawInt ((i:Int)+1)) >>=_) _ _ s;refine wpAny_bind (wpAny_setField ho hd (by simp) ?_)
 have hit':(s.heap.update it (Obj.mapFields (·.setIfInBounds 1 (rawInt ((i:Int)+1))))).IsKeyIter it d (i+1) es.size ep:=⟨_,Heap.get?_update_self _ ho (Obj.isFreed_of_fields (Obj.data_mapFields hd _)),(Obj.cls_mapFields ..).trans hc,by rw [Obj.data_mapFields hd];simp [rawInt]⟩
 refine wpAny_bind (wpAny_holding (wpAny_bind (wpAny_isOneOf_keyiter (s:= {s with heap:=s.heap.update it (Obj.mapFields (·.setIfInBounds 1 (rawInt ((i:Int)+1))))}) hit'.typeIs ?_)))
 show wpAny _ _ (pure es[i].key) _ _ _;exact wpAny_pure (wpAny_pure ⟨_,rfl,wpAny_pure (hQ _ hit' (Heap.SameBut.update ..))⟩)
theorem raw_end {i:Nat} {Q:Option Value→Shared→Prop} (hh:A.handled=none) (hit:s.heap.IsKeyIter it d i es.size ep) (hm:RawD s.heap d es ep) (hi:es.size≤i)
 (hQ:∀h',Heap.ExtBut it s.heap h'→Q none {s with heap:=h'}):wpAny (model prog w) A (pyNext (.ref it)) Q E s:=by
 obtain ⟨o,ho,hc,hd⟩:=id hit;obtain ⟨od,hod,hcd,hdd⟩:=id hm;have hown:Builtin.Dict_items.ownsTuple "dict_keyiterator"=false:=by decide
 unfold pyNext;refine wpAny_bind (wpAny_attempt (wpAny_callSpecial?_slot (name:=Str.ofString "__next__") hit.typeIs F.slot_dict_keyiterator_next (wpAny_call_entry F.slot_dict_keyiterator_next hit.typeIs F.entry_dict_keyiterator_next ?_ (F.args_dict_keyiterator_next_1 _))))
 refine wpAny_bind (wpAny_pure (wpAny_bind (wpAny_bind ?_)))
 first|refine wpAny_bind (wpAny_typeNameOfWhole_keyiter hit.typeIs (wpAny_pure (wpAny_bind (wpAny_fieldsOf ho hd ?_))))|refine wpAny_bind (wpAny_typeNameOf_keyiter hit.typeIs (wpAny_pure (wpAny_bind (wpAny_fieldsOf ho hd ?_))))
 simp only [hown,Bool.false_eq_true,if_false];show wpAny _ _ (if (Value.ref d==Value.none)=true then _ else _) _ _ s
 rw [if_neg (show¬((Value.ref d==Value.none)=true) from Bool.false_ne_true)];refine wpAny_bind (wpAny_pure (wpAny_bind (wpAny_dictEntries hod hdd ?_)))
 rw [if_neg (by simp)];refine wpAny_bind (wpAny_pure (wpAny_bind (wpAny_dictEpoch hod hdd ?_)));rw [if_neg (by simp)];refine wpAny_pure ?_
 simp only [show¬((i:Int) < 0) from by omega,if_false,Int.toNat_natCast,Array.getElem?_eq_none hi];refine wpAny_bind ?_
 first|refine wpAny_bind (wpAny_typeNameOfWhole_keyiter hit.typeIs (wpAny_pure ?_))|refine wpAny_bind (wpAny_typeNameOf_keyiter hit.typeIs (wpAny_pure (A:=A.in1) ?_))
 show wpAny _ _ (setField (.ref it) 0 .none >>=_) _ _ s;refine wpAny_bind (wpAny_setField ho hd (by simp) ?_)
 show wpAny _ _ (newExc (.type "StopIteration") [] >>=_) _ _ _;refine wpAny_bind ?_;simp only [newExc,newTuple]
 refine wpAny_bind (wpAny_newObj_type (wpAny_bind (m:=firstArgMember _ _) (wpAny_of_eq (a:=Value.none) (by first|rfl|(simp only [firstArgMember];rfl)) (wpAny_newObj_type ?_ (by size_fits)))) (by size_fits))
 simp only [raiseNew];refine wpAny_bind (wpAny_handled ?_);rw [show A.in1.handled=none from hh]
 refine wpAny_bind (wpAny_pure (wpAny_throw ?_));refine wpAny_bind (wpAny_isInstance (T:="StopIteration") (b:=true) ⟨_,Heap.get?_push_size _ rfl,rfl⟩ isSubtype_stop ?_);exact wpAny_pure (hQ _ (((Heap.SameBut.update ..).extBut.push _).push _))
end
open PySem PySem.Spec PySem.W PyProof.Rows L2 Tre Srt
section
variable {prog:Program} {w:World} {A:Around} {E:Value→Shared→Prop} {s:Shared} {T:String} {r d:Addr} {n:Nat} {P:Nat→Value→Prop} {OK:Heap→Prop}
end
section
variable {prog:Program} {w:World} {A:Around} {E:Value→Shared→Prop} {s:Shared} {lt:Nat→Nat→Bool} {κ:SortKind}
end
section
variable {X:Cx} {pins:List (Addr×Obj)} {σ:L2.St} {H:Hp} {s:Shared}
theorem re_refs {kvs:List Ent} {xs:List (List Tk.KT×Addr×Value)} (r:RE kvs xs):(kvs.map fun e=>V.ref e.2.1)=xs.map fun x=>V.ref x.2.1:=by
 induction r with
 |nil=>rfl
 |cons h _ ih=>rw [List.map_cons,List.map_cons,ih,h.2.1]
end
end Dj
namespace Su
open PySem L2 Tre Mth Wd
theorem Can.key {ps us:List Pq} (h:Can ps us) {p:Pq} (m:p∈us):∃q∈ps,q.1=p.1:=by
 refine Classical.byContradiction fun no=> ?_
 have e:=asc_tot h.asc m
 rw [h.eq,tot_none fun q mq ez=>no ⟨q,mq,ez⟩] at e
 exact (h.sh p m).2 ((rv_ne (h.sh p m).1).mp e.symm)
noncomputable def vl (W:Wld) (t:Tr):Rat:=rv (valT W t)
end Su
namespace Dj
open PySem PySem.Spec PyProof.Rows L2 Tre Wd Su
section
variable {X:Cx} {pos:Pos} {o i:Expr} {td ty:TE} {P:Program} {w:World} {K:PySem.W.Frag}
end
mutual
noncomputable def ktT:Tr→Tk.KT
 | .int i=> .lf (.inl i)
 | .str x=> .lf (.inr x)
 | .tup ts=> .tp (ktTs ts)
 |_=> .tp []
noncomputable def ktTs:List Tr→List Tk.KT
 | []=> []
 |t::ts=>ktT t::ktTs ts
end
noncomputable def ktL:Tr→List Tk.KT
 | .tup ts=>ktTs ts
 |_=> []
mutual
def Kp:Tr→Prop
 | .int _=>True
 | .str _=>True
 | .tup ts=>Kps ts
 |_=>False
def Kps:List Tr→Prop
 | []=>True
 |t::ts=>Kp t∧Kps ts
end
theorem kps_all {ts:List Tr} (h:∀t∈ts,Kp t):Kps ts:=by
 induction ts with
 |nil=>trivial
 |cons t ts ih=>exact ⟨h t List.mem_cons_self,ih fun u m=>h u (List.mem_cons_of_mem _ m)⟩
theorem tm_kp {t:Tr} (h:Ty .tm t):Kp t:=by
 generalize e:So.tm=k at h
 induction h with
 |nm x=>simp only [Kp,Kps,and_self]
 |ap x ts _ _ ih=>simp only [Kp,Kps,and_true,true_and];exact kps_all fun t m=>ih t m e
 |fr=>cases e
 |pr=>cases e
 |fl=>cases e
 |mo=>cases e
 |li=>cases e
 |no=>cases e
 |bo=>cases e
 |ei=>cases e
 |lt=>cases e
mutual
theorem kt_inj:∀ {t u:Tr},Kp t→Kp u→ktT t=ktT u→t=u
 | .int i, .int j,_,_,e=>by simp only [ktT,Tk.KT.lf.injEq,Sum.inl.injEq] at e;rw [e]
 | .int i, .str y,_,_,e=>by simp [ktT] at e
 | .int i, .tup us,_,_,e=>by simp [ktT] at e
 | .str x, .int j,_,_,e=>by simp [ktT] at e
 | .str x, .str y,_,_,e=>by simp only [ktT,Tk.KT.lf.injEq,Sum.inr.injEq] at e;rw [e]
 | .str x, .tup us,_,_,e=>by simp [ktT] at e
 | .tup ts, .int j,_,_,e=>by simp [ktT] at e
 | .tup ts, .str y,_,_,e=>by simp [ktT] at e
 | .tup ts, .tup us,h1,h2,e=>by
  simp only [ktT,Tk.KT.tp.injEq] at e
  rw [kts_inj h1 h2 e]
theorem kts_inj:∀ {ts us:List Tr},Kps ts→Kps us→ktTs ts=ktTs us→ts=us
 | [],[],_,_,_=>rfl
 | [],_::_,_,_,e=>by simp [ktTs] at e
 |_::_,[],_,_,e=>by simp [ktTs] at e
 |t::ts,u::us,h1,h2,e=>by
  simp only [ktTs,List.cons.injEq] at e
  rw [kt_inj h1.1 h2.1 e.1,kts_inj h1.2 h2.2 e.2]
end
theorem ktL_inj {t u:Tr} (h1:Ty .tm t) (h2:Ty .tm u) (e:ktL t=ktL u):t=u:=by
 have k1:=tm_kp h1
 have k2:=tm_kp h2
 obtain ⟨ts,rfl⟩:=tm_tup h1
 obtain ⟨us,rfl⟩:=tm_tup h2
 rw [kts_inj k1 k2 e]
mutual
theorem kt_dep:∀ {t:Tr},Kp t→(ktT t).depth=t.depth
 | .int i,_=>by simp [ktT,Tk.KT.depth,Tr.depth]
 | .str x,_=>by simp [ktT,Tk.KT.depth,Tr.depth]
 | .tup ts,k=>by
  simp only [ktT,Tk.KT.depth,Tr.depth]
  rw [kts_dep k]
theorem kts_dep:∀ {ts:List Tr},Kps ts→Tk.KTs.depth (ktTs ts)=Trs.depth ts
 | [],_=>by simp [ktTs,Tk.KTs.depth,Trs.depth]
 |t::ts,k=>by
  simp only [ktTs,Tk.KTs.depth,Trs.depth]
  rw [kt_dep k.1,kts_dep k.2]
end
section
variable {K:PySem.W.Frag} {H:Hp}
mutual
theorem kvt_of:∀ {v:V} {t:Tr},Kp t→TrAt H v t→KVt K H v (ktT t)
 |v, .int i,_,h=>by unfold TrAt at h;simp only [ktT,KVt];exact h
 |v, .str x,_,h=>by unfold TrAt at h;simp only [ktT,KVt];exact h
 |v, .tup ts,k,h=>by
  unfold TrAt at h
  obtain ⟨r,vs,e,h1,h2⟩:=h
  simp only [ktT,KVt]
  exact ⟨r,vs,e, .inl h1,kvts_of k h2⟩
theorem kvts_of:∀ {vs:List V} {ts:List Tr},Kps ts→TrsAt H vs ts→KVts K H vs (ktTs ts)
 |vs,[],_,h=>by unfold TrsAt at h;simp only [ktTs,KVts];exact h
 |vs,t::ts,k,h=>by
  obtain ⟨v,r,e,h1,h2⟩:=h.inv
  simp only [ktTs,KVts]
  exact ⟨v,r,e,kvt_of k.1 h1,kvts_of k.2 h2⟩
end
theorem key_tm {b:Addr} {t:Tr} (ty:Ty .tm t) (hd:t.depth≤7) (h:TrAt H (.ref b) t):KeyAt K H (ktL t) b:=by
 have kp:=tm_kp ty
 obtain ⟨ts,rfl⟩:=tm_tup ty
 unfold TrAt at h
 obtain ⟨r,vs,e,h1,h2⟩:=h
 cases e
 refine ⟨vs, .inl h1,kvts_of kp h2,?_⟩
 have:= @kts_dep ts kp
 simp only [Tr.depth] at hd
 simp only [ktL,Tk.KT.depth]
 omega
end
theorem tm_ref {H:Hp} {v:V} {t:Tr} (ty:Ty .tm t) (h:TrAt H v t):∃b,v= .ref b:=by
 obtain ⟨ts,rfl⟩:=tm_tup ty
 unfold TrAt at h
 obtain ⟨r,vs,e,_⟩:=h
 exact ⟨r,e⟩
def En (H:Hp) (g:Tr→Fr) (e:Ent) (t:Tr):Prop:=e.1=ktL t∧TrAt H (.ref e.2.1) t∧TrAt H e.2.2 (frT (g t))
structure DAt (P:Program) (w:World) (K:PySem.W.Frag) (H:Hp) (a:Addr) (ks:List Tr) (g:Tr→Fr):Prop where
 ex:∃kvs,DJ P w K H a kvs∧Paired (En H g) kvs ks
 ty:∀t∈ks,Ty .tm t∧t.depth≤7
 nd:ks.Nodup
section
variable {P:Program} {w:World} {K:PySem.W.Frag} {H H':Hp} {a:Addr} {ks:List Tr} {g:Tr→Fr}
theorem en_mono {kvs:List Ent} (k:Kd H H') (h:Paired (En H g) kvs ks):Paired (En H' g) kvs ks:=Paired.imp' (fun e t x=>⟨x.1,x.2.1.mono k,x.2.2.mono k⟩) h
theorem DAt.kd (x:DAt P w K H a ks g) (k:Kd H H') (hs:∀o,(∀xs,o≠ .lst xs)→H a=some o→H' a=some o):DAt P w K H' a ks g:=by
 obtain ⟨kvs,d,p⟩:=x.ex
 exact ⟨⟨kvs,d.kd k (hs _ (fun _ z=>by cases z) d.at_),en_mono k p⟩,x.ty,x.nd⟩
theorem DAt.same (x:DAt P w K H a ks g) (s:Same H H'):DAt P w K H' a ks g:=x.kd (Kd.of_same s) fun o _ e=>s _ _ e
theorem en_val {kvs:List Ent} (h:Paired (En H g) kvs ks) (ty:∀t∈ks,Ty .tm t) {t:Tr} (tt:Ty .tm t):(t∈ks→∃v,valJ kvs (ktL t)=some v∧TrAt H v (frT (g t)))∧(t∉ks→valJ kvs (ktL t)=none):=by
 induction h with
 |nil=>exact ⟨fun m=>(by cases m),fun _=>rfl⟩
 | @cons e u es us h1 _ ih=>
  obtain ⟨i1,i2⟩:=ih fun x m=>ty x (List.mem_cons_of_mem _ m)
  by_cases z:u=t
  · subst z
    exact ⟨fun _=>⟨e.2.2,valJ_pos h1.1,h1.2.2⟩,fun n=>absurd List.mem_cons_self n⟩
  · have ne:¬e.1=ktL t:=fun q=>z (ktL_inj (ty u List.mem_cons_self) tt (h1.1.symm.trans q))
    refine ⟨fun m=> ?_,fun n=> ?_⟩
    · rw [valJ_neg ne]
      rcases List.mem_cons.mp m with e'|m
      · exact absurd e'.symm z
      · exact i1 m
    · rw [valJ_neg ne]
      exact i2 fun m=>n (List.mem_cons_of_mem _ m)
theorem DAt.val (x:DAt P w K H a ks g) {t:Tr} (tt:Ty .tm t):∃kvs,DJ P w K H a kvs∧kvs.length=ks.length∧(t∈ks→∃v,valJ kvs (ktL t)=some v∧TrAt H v (frT (g t)))∧(t∉ks→valJ kvs (ktL t)=none):=by
 obtain ⟨kvs,d,p⟩:=x.ex
 exact ⟨kvs,d,Paired.length p,en_val p (fun t m=>(x.ty t m).1) tt⟩
open Classical in
noncomputable def setG (g:Tr→Fr) (t:Tr) (f:Fr):Tr→Fr:=fun u=>if u=t then f else g u
open Classical in
noncomputable def addK (ks:List Tr) (t:Tr):List Tr:=if t∈ks then ks else ks++ [t]
theorem en_map {kvs:List Ent} {t:Tr} {f:Fr} {v:V} (hv:TrAt H v (frT f)) (tt:Ty .tm t) (h:Paired (En H g) kvs ks) (ty:∀t∈ks,Ty .tm t):Paired (En H (setG g t f)) (kvs.map fun p=>if p.1=ktL t then (p.1,p.2.1,v) else p) ks:=by
 induction h with
 |nil=>exact .nil
 | @cons e u es us h1 _ ih=>
  rw [List.map_cons]
  refine .cons ?_ (ih fun x m=>ty x (List.mem_cons_of_mem _ m))
  by_cases z:u=t
  · subst z
    rw [if_pos h1.1]
    refine ⟨h1.1,h1.2.1,?_⟩
    unfold setG
    rw [if_pos rfl]
    exact hv
  · have ne:¬e.1=ktL t:=fun q=>z (ktL_inj (ty u List.mem_cons_self) tt (h1.1.symm.trans q))
    rw [if_neg ne]
    refine ⟨h1.1,h1.2.1,?_⟩
    unfold setG
    rw [if_neg z]
    exact h1.2.2
theorem en_set {kvs:List Ent} {t:Tr} {f:Fr} (n:t∉ks) (h:Paired (En H g) kvs ks):Paired (En H (setG g t f)) kvs ks:=by
 induction h with
 |nil=>exact .nil
 | @cons e u es us h1 _ ih=>
  refine .cons ⟨h1.1,h1.2.1,?_⟩ (ih fun m=>n (List.mem_cons_of_mem _ m))
  unfold setG
  rw [if_neg (fun z=>n (by rw [←z];exact List.mem_cons_self))]
  exact h1.2.2
theorem DAt.put (x:DAt P w K H a ks g) {t:Tr} {b:Addr} {v:V} {f:Fr} (tt:Ty .tm t) (hd:t.depth≤7) (hb:TrAt H (.ref b) t) (hv:TrAt H v (frT f)) {kvs:List Ent} (d:DJ P w K H a kvs) (hk:DAt P w K H a ks g→Paired (En H g) kvs ks):
 DAt P w K (upd H a (dJ P w a (putJ kvs (ktL t) b v))) a (addK ks t) (setG g t f):=by
 have p:=hk x
 have kd:=Kd.updJ (o:=dJ P w a (putJ kvs (ktL t) b v)) d.at_
 have ev:=en_val p (fun t m=>(x.ty t m).1) tt
 refine ⟨⟨_,d.put (key_tm tt hd hb),?_⟩,fun u m=> ?_,?_⟩
 · refine en_mono kd ?_
   unfold putJ addK
   by_cases m:t∈ks
   · obtain ⟨v',e',_⟩:=ev.1 m
     rw [e',if_pos m,if_pos (show (some v').isSome=true from rfl)]
     exact en_map hv tt p fun t m=>(x.ty t m).1
   · rw [ev.2 m,if_neg m,if_neg (by simp)]
     refine Paired.snoc (en_set m p) ⟨rfl,hb,?_⟩
     unfold setG
     rw [if_pos rfl]
     exact hv
 · unfold addK at m
   split at m
   · exact x.ty u m
   · rcases List.mem_append.mp m with m|m
     · exact x.ty u m
     · rw [List.mem_singleton.mp m]
       exact ⟨tt,hd⟩
 · unfold addK
   split
   · exact x.nd
   · rename_i n
     exact List.nodup_append.mpr ⟨x.nd,(by simp),fun u mu y my=>by rw [List.mem_singleton.mp my];exact fun z=>n (by rw [←z];exact mu)⟩
theorem DAt.keys (x:DAt P w K H a ks g):∃kvs,DJ P w K H a kvs∧TrsAt H (kvs.map fun e=>V.ref e.2.1) ks:=by
 obtain ⟨kvs,d,p⟩:=x.ex
 refine ⟨kvs,d,?_⟩
 clear d x
 induction p with
 |nil=>exact .nil
 |cons h1 _ ih=>exact .cons h1.2.1 ih
end
open Classical in
structure Sd (ds:List Pq) (ks:List Tr) (g:Tr→Fr):Prop where
 sh:∀t∈ks,Sh (g t)
 eq:∀t,tot t ds=if t∈ks then rv (g t) else 0
theorem Sd.nil (g:Tr→Fr):Sd [] [] g:=⟨fun t m=>(by cases m),fun t=>(by rw [if_neg (by simp)];rfl)⟩
open Classical in
theorem Sd.add {ds:List Pq} {ks:List Tr} {g:Tr→Fr} (h:Sd ds ks g) {p:Pq} {f:Fr} (hf:Sh f) (e:rv f=(if p.1∈ks then rv (g p.1) else 0)+rv p.2):Sd (ds++ [p]) (addK ks p.1) (setG g p.1 f):=by
 refine ⟨fun t m=> ?_,fun t=> ?_⟩
 · unfold setG
   by_cases z:t=p.1
   · rw [if_pos z];exact hf
   · rw [if_neg z]
     unfold addK at m
     split at m
     · exact h.sh t m
     · rcases List.mem_append.mp m with m|m
       · exact h.sh t m
       · exact absurd (List.mem_singleton.mp m) z
 · rw [tot_app,tot_one,h.eq]
   unfold addK setG
   by_cases z:t=p.1
   · subst z
     rw [if_pos rfl]
     by_cases m:p.1∈ks
     · rw [if_pos m,if_pos m,if_pos m,if_pos rfl,e,if_pos m]
     · have m2:p.1∈ks++ [p.1]:=List.mem_append_right _ List.mem_cons_self
       rw [if_neg m,if_neg m,if_pos m2,if_pos rfl,e,if_neg m]
   · have z':¬p.1=t:=fun q=>z q.symm
     have ek:(t∈(if p.1∈ks then ks else ks++ [p.1]))↔t∈ks:=by
      split
      · exact Iff.rfl
      · rw [List.mem_append,List.mem_singleton]
        exact ⟨fun q=>q.elim id fun q=>absurd q z, .inl⟩
     simp only [ek,z,z',if_false]
     grind
open PySem PySem.Spec PyProof.Rows L2 Tre Wd Su
def Itd (a:Addr) (o:Obj) (u:HO) (ks:List V):It:=⟨fun i H=>H a=some (.frz o u)∧i < ks.length,fun i H x H'=>H'=H∧ks[i]?=some x,fun i H=>H a=some (.frz o u)∧ks.length≤i⟩
theorem turn_dict {P:Program} {w:World} {K:PySem.W.Frag} {tg:Expr} {a it:Addr} {o:Obj} {u:HO} {es:Array DictEntry} {ep:Nat} {ks:List V} (hx:o.ExactDict) (hd:o.data= .dict es ep) (hl:ks.length=es.size) (hk:∀i (h:i < es.size),∃v,ks[i]?=some v∧RelV v es[i].key):
 Turn P w K tg (Itd a o u ks) [it] it (fun i h=>h.IsKeyIter it a i es.size ep) where
 mem:=by simp
 obj:=fun i h st b hb=>by
  have e:b=it:=by simpa using hb
  subst e
  obtain ⟨o,e,c,d⟩:=st
  exact ⟨o,e,fun v z=>by rw [d] at z;cases z⟩
 keep:=fun i h h' st k=>st.at fun o e=>k it (by simp) o e
 item:=by
  intro X hP hw hK hc i pins s σ H E I hf st hg
  subst hP hw hK
  obtain ⟨ha,hi⟩:=hg
  have raw:RawD s.heap a es ep:=⟨o,(I.hok a _ ha).1,hx,hd⟩
  obtain ⟨f0,f1,f2,f3,f4,f5⟩:=hf it (by simp)
  obtain ⟨v,hv,rv⟩:=hk i (by omega)
  refine raw_next st raw (by omega) fun h' st' sb=> ?_
  have I1:Inv X pins σ H {s with heap:=h'}:=I.turned (t':=s.toks) (fun b o hb e=>(sb.2 b hb).trans e) f0 f1 f3 f4 f5
  obtain ⟨o',e,c,d⟩:=id st'
  exact ⟨_,rfl,go_of (s:= {s with heap:=h'}) e c d (by decide) ⟨v,H,I1,rv,⟨rfl,hv⟩,st',fun b hb=>(hf b hb).1⟩⟩
 done:=by
  intro X hP hw hK hc i pins s σ H E I hf st hg
  subst hP hw hK
  obtain ⟨ha,hi⟩:=hg
  have raw:RawD s.heap a es ep:=⟨o,(I.hok a _ ha).1,hx,hd⟩
  obtain ⟨f0,f1,f2,f3,f4,f5⟩:=hf it (by simp)
  exact raw_end (I.ok.hd hc) st raw (by omega) fun h' eb=>⟨rfl,I.turned (t':=s.toks) (fun b o hb e=>eb b o hb e) f0 f1 f3 f4 f5⟩
 self:=fun A i s Q E st hq=>wpAny_pyIter_keyiter st hq
section
variable {X:Cx} {pins:List (Addr×Obj)} {σ:L2.St} {H:Hp} {s:Shared} {a:Addr}
theorem frz_inv {kvs:List Ent} {o:Obj} {P:Program} {w:World} (I:Inv X pins σ H s) (ha:H a=some (dJ P w a kvs)) (ho:s.heap.get? a=some o):Inv X pins σ (upd H a (.frz o (dJ P w a kvs))) s:=by
 have ne:∀ {b:Addr} {u:HO},H b=some u→(∀z,dJ P w a kvs=z→u≠z)→b≠a:=fun e q z=>by
  rw [z,ha] at e
  exact q _ rfl (Option.some.inj e).symm
 have st:∀ {b:Addr} {u:HO},ObjOk X.prog X.w H s.heap b u→ObjOk X.prog X.w (upd H a (.frz o (dJ P w a kvs))) s.heap b u:=fun x=>
  x.stay (fun _ _ _ q=>q) (fun b q=>by rw [upd_ne (ne q fun z e=>by subst e;intro t;cases t)];exact q) fun b xs q=>by rw [upd_ne (ne q fun z e=>by subst e;intro t;cases t)];exact q
 exact I.step (h':=s.heap) (g':=s.gens) (d':=s.drawn) (t':=s.toks) (ch:= []) (fun _ z=>nomatch z) (fun b o _ _ _ e _=>e) (fun b o _ _ _ e _=>⟨o.slots,e⟩)
  (fun b o _ e n=>by rw [upd_ne (fun z=>by rw [z,ha] at n;cases n)];exact n) (fun b o _ e=>⟨o,e⟩)
  (fun b xs e=>by rw [upd_ne (ne e fun z q=>by subst q;intro t;cases t)];exact e) (fun b o' u e=>by rw [upd_ne (ne e fun z q=>by subst q;intro t;cases t)];exact e)
  (fun b ps e=>⟨#[],by rw [upd_ne (ne e fun z q=>by subst q;intro t;cases t),e];simp⟩) (fun m hm=>hm) (fun b u e=>by
   by_cases z:b=a
   · subst z
     rw [upd_same] at e
     cases e
     exact ⟨ho,st (I.hok b _ ha)⟩
   · rw [upd_ne z] at e
     exact st (I.hok b u e)) I.bare
noncomputable def iDictJ (P:Program) (w:World) (K:PySem.W.Frag) (tl:TE):TI:=fun σ H R=>tl σ H fun x H1=>∃a kvs,x= .ref a∧DJ P w K H1 a kvs∧∀o,R (Itd a o (dJ P w a kvs) (kvs.map fun e=>V.ref e.2.1)) (upd H1 a (.frz o (dJ P w a kvs)))
theorem pi_dictJ0 {tg l:Expr} {tl:TE} (hl:PE X l tl):PI X tg l (iDictJ X.prog X.w X.K tl):=by
 intro pins s σ H R I h
 refine thn (hl pins s σ H _ I h) fun v s1 ⟨x,H1,I1,r1,q1⟩=> ?_
 obtain ⟨a,kvs,e,d,q⟩:=q1
 subst e
 cases r1
 obtain ⟨z,hd,xs,rel,o,es,ep,h1,h2,h3,h4,h5⟩:=dj_of I1.hok I1.kIn d
 have raw:RawD s1.heap a es ep:=⟨o,h1,h2,h3⟩
 have le:es.size=xs.length:=by
  have:=congrArg List.length h4
  simpa using this
 have lk:(kvs.map fun e=>V.ref e.2.1).length=es.size:=by rw [List.length_map,Paired.length rel,le]
 refine raw_iter hd raw ?_
 have I2:=frz_inv I1 d.at_ h1
 refine ⟨s1.heap.objs.size,[s1.heap.objs.size],_,_,_,rfl,I2.kept (t':=s1.toks) fun b o e=>Heap.get?_push_of_some _ e,turn_dict h2 h3 lk (fun i hi=> ?_),⟨_,Heap.get?_push_size _ rfl,rfl,rfl⟩,fun b hb=> ?_,q o⟩
 · rw [re_refs rel]
   have hi':i < xs.length:=by omega
   refine ⟨.ref (xs[i]).2.1,by rw [List.getElem?_map,List.getElem?_eq_getElem hi'];rfl,?_⟩
   have e1:es[i]=entryOfKey (Tk.treeKind X.prog X.w) xs[i]:=by
    have:es.toList[i]?=(xs.map (entryOfKey (Tk.treeKind X.prog X.w)))[i]?:=by rw [h4]
    rw [List.getElem?_map,List.getElem?_eq_getElem hi',Array.getElem?_toList,Array.getElem?_eq_getElem hi] at this
    exact Option.some.inj this
   rw [e1]
   rfl
 · have e:b=s1.heap.objs.size:=by simpa using hb
   subst e
   exact I2.fpOk (Nat.le_refl _) (I2.hok.fresh (Nat.le_refl _))
end
theorem pi_dictJ {X:Cx} {tg l:Expr} {tl:TE} {P:Program} {w:World} {K:PySem.W.Frag} (hP:X.prog=P) (hw:X.w=w) (hK:X.K=K) (hl:PE X l tl):PI X tg l (iDictJ P w K tl):=by
 subst hP hw hK
 exact pi_dictJ0 hl
theorem comp_dict {a D:Addr} {o:Obj} {u:HO} {ks:List V} {te:TE} {rest:L2.St} {Q:VK} {H1:Hp} (Pv:Nat→List V→Hp→Prop) (h0:Pv 0 [] (upd H1 D (.lst [])))
 (hl:∀i acc H,Pv i acc H→H a=some (.frz o u))
 (hs:∀i x acc H,i < ks.length→ks[i]?=some x→Pv i acc H→te (some x::rest) H (CompN ks.length i D acc Pv))
 (hd:∀acc H,Pv ks.length acc H→Q (.ref D) H):CompW (Itd a o u ks) D te rest Q H1:=by
 refine comp_go ks.length Pv h0 (fun i acc H hi p=>⟨hl i acc H p,hi⟩) (fun i x acc H H' hi p y=> ?_) fun acc H p=>⟨⟨hl _ acc H p,Nat.le_refl _⟩,hd acc H p⟩
 obtain ⟨e,y⟩:=y
 subst e
 exact hs i x acc _ hi y p
structure DJr (P:Program) (w:World) (K:PySem.W.Frag) (H:Hp) (a:Addr) (kvs:List Ent):Prop where
 at_:Rd H a (dJ P w a kvs)
 keys:∀p∈kvs,KeyAt K H p.1 p.2.1
theorem djr_of {P:Program} {w:World} {H:Hp} {h:Heap} {a:Addr} {K:PySem.W.Frag} {kvs:List Ent} (ok:HOk P w H h) (kin:K.In h) (d:DJr P w K H a kvs):kvs.length≤sizeLine∧(a==sysModules)=false∧∃xs,RE kvs xs∧h.DictOfH (Tk.treeKind P w) a xs:=by
 obtain ⟨⟨z,y,xs,r,o,es,ep,h1,h2,h3,h4,h5⟩,_⟩:=(show ObjOk P w H h a (dJ P w a kvs) from d.at_.ok ok)
 refine ⟨z,y,xs,r,o,es,ep,h1,h2,h3,h4,?_,h5⟩
 have all:∀ {l:List Ent} {m:List (List Tk.KT×Addr×Value)},RE l m→(∀p∈l,KeyAt K H p.1 p.2.1)→∀x∈m,(Tk.treeKind P w).is h x.1 x.2.1:=by
  intro l m q
  induction q with
  |nil=>intro _ x hx;exact nomatch hx
  | @cons p q ps qs hq t ih=>
   intro kp x hx
   rcases List.mem_cons.mp hx with e|hx
   · subst e
     rw [←hq.1,←hq.2.1]
     exact (kp p List.mem_cons_self).is ok kin
   · exact ih (fun p m=>kp p (List.mem_cons_of_mem _ m)) x hx
 exact all r d.keys
noncomputable def tDIxR (P:Program) (w:World) (K:PySem.W.Frag) (td ty:TE):TE:=fun σ H Q=>td σ H fun x H1=>ty σ H1 fun y H2=>∃a b k kvs v,x= .ref a∧y= .ref b∧DJr P w K H2 a kvs∧KeyAt K H2 k b∧valJ kvs k=some v∧Q v H2
theorem pe_ixR {X:Cx} {pos:Pos} {o i:Expr} {td ty:TE} {P:Program} {w:World} {K:PySem.W.Frag} (hP:X.prog=P) (hw:X.w=w) (hK:X.K=K) (hu:X.A.units+30 < cLine) (ho:PE X o td) (hi:PE X i ty) (hs:NoSl i):PE X (.Subscript o i pos) (tDIxR P w K td ty):=by
 subst hP hw hK
 intro pins s σ H Q I h
 refine subD_of PySem.F.slot_dict_getitem.lookup hs (thn (ho pins s σ H _ I h) fun u s1 ⟨x,H1,I1,rx,q1⟩=>thn (hi pins s1 σ H1 _ I1 q1) fun iv s2 ⟨y,H2,I2,ry,a,b,k,kvs,v,ex,ey,d,kb,e,q2⟩=> ?_)
 subst ex ey
 obtain rfl:u=Value.ref a:=rx
 obtain rfl:iv=Value.ref b:=ry
 obtain ⟨z,hd,xs,rel,dd⟩:=djr_of I2.hok I2.kIn d
 have rr:=rel.val k
 rw [e] at rr
 cases ea:atKey xs k with
 |none=>rw [ea] at rr;exact rr.elim
 |some p=>
  rw [ea] at rr
  exact ⟨dd.typeIs,wpAny_getItem_heap (by show X.A.units+1+20 < cLine;omega) (kb.is I2.hok I2.kIn) dd ea ⟨v,H2,I2.tok _,rr,q2⟩⟩
end Dj
namespace K81
open PySem L2 Mth Tre Wd Su Dj Tw
theorem tcons_cb2 {r:List V→Hp→VK→Prop} {te:TE} {tr:TA} {σ:L2.St} {H:Hp} {Q:List V→Hp→Prop} (h:te σ H fun v H1=>r [v] H1 fun u H2=>tr σ H2 fun us H3=>Q (u::us) H3):tCons (tCB r (tCons te tNil)) tr σ H Q:=h
theorem tcb1 {r:List V→Hp→VK→Prop} {te:TE} {σ:L2.St} {H:Hp} {Q:VK} (h:te σ H fun v H1=>r [v] H1 Q):tCB r (tCons te tNil) σ H Q:=h
theorem tret_tc {v:V} {tr:TA} {Z:Ends} {σ:L2.St} {H:Hp} (h:tr σ H fun xs H1=>(v::xs).length≤sizeLine∧∀p,H1 p=none→Z.rt (.ref p) (upd H1 p (.tup (v::xs)))):tRet (tTup (tCons (tC v) tr)) Z σ H:=h
theorem prs_of {Good:Pq→Prop}:∀ {us:List Tr},(∀u∈us,∃p:Pq,u=prT p∧Good p)→∃ps:List Pq,us=ps.map prT∧ps.length=us.length∧∀p∈ps,Good p
 | [],_=>⟨[],rfl,rfl,fun p m=>by cases m⟩
 |u::us,h=>by
  obtain ⟨p,e,hp⟩:=h u List.mem_cons_self
  obtain ⟨ps,e2,e3,hps⟩:=prs_of fun v m=>h v (List.mem_cons_of_mem _ m)
  refine ⟨p::ps,by rw [List.map_cons,e,e2],by rw [List.length_cons,List.length_cons,e3],fun q m=> ?_⟩
  rcases List.mem_cons.mp m with rfl|m
  · exact hp
  · exact hps q m
theorem en_keys {H:Hp} {g:Tr→Fr}:∀ {kvs:List Ent} {ks:List Tr},Paired (Dj.En H g) kvs ks→TrsAt H (kvs.map fun e=>V.ref e.2.1) ks:=by
 intro kvs ks h
 induction h with
 |nil=>exact .nil
 |cons h1 _ ih=>exact .cons h1.2.1 ih
inductive Gz:Nat→Tr→Prop
 |fl (n:Nat) (x:Str):Nm x→Gz n (.tup [s_ "flag", .str x])
 |li (n:Nat) (t u:Tr):Tz 2 t→Tz 2 u→Gz n (.tup [s_ "like",t,u])
 |mo (n:Nat) (ps:List Pq) (f:Fr):ps.length≤3→Asc ps→(∀q∈ps,Tz 2 q.1∧Gf 200 q.2∧Fz q.2∧q.2.1≠0)→Gf 200 f→Fz f→Gz n (.tup [s_ "most", .tup (ps.map prT),frT f])
 |no (n:Nat) (t:Tr):Gz n t→Gz (n+1) (.tup [s_ "not",t])
 |bo (n:Nat) (l:List Tr):l.length≤3→(∀u∈l,Gz n u)→Gz (n+1) (.tup [s_ "both", .tup l])
 |ei (n:Nat) (l:List Tr):l.length≤3→(∀u∈l,Gz n u)→Gz (n+1) (.tup [s_ "either", .tup l])
theorem asc_sorted {ps:List Pq} {ks:List Tr} {g:Tr→Fr} (nd:ks.Nodup) (ty:∀t∈ks,Ty .tm t) (pm:(ps.map prT).Perm (ks.map fun t=>prT (t,g t))) (srt:∀(i j:Nat) (t u:Tr),i≤j→(ps.map prT)[i]?=some t→(ps.map prT)[j]?=some u→ltT u t=false):Asc ps:=by
 have inj:∀p q:Pq,prT p=prT q→p.1=q.1:=fun p q e=>by
  unfold prT at e
  injection e with e
  injection e with e _
 have mem:∀p∈ps,p.1∈ks:=fun p m=>by
  obtain ⟨t,mt,e⟩:=List.mem_map.mp (pm.mem_iff.mp (List.mem_map_of_mem m))
  rw [←inj _ _ e]
  exact mt
 have pm2:(ps.map (·.1)).Perm ks:=by
  have f:Tr→Tr:=fun t=>match t with| .tup (a::_)=>a|t=>t
  have:=pm.map (fun t=>match t with| .tup (a::_)=>a|t=>t)
  rw [List.map_map,List.map_map] at this
  have e1:ps.map ((fun t=>match t with| .tup (a::_)=>a|t=>t) ∘ prT)=ps.map (·.1):=List.map_congr_left fun p _=>rfl
  have e2:ks.map ((fun t=>match t with| .tup (a::_)=>a|t=>t) ∘ fun t=>prT (t,g t))=ks:=by
   conv=>rhs;rw [←List.map_id ks]
   exact List.map_congr_left fun p _=>rfl
  rw [e1,e2] at this
  exact this
 have nd2:(ps.map (·.1)).Nodup:=pm2.nodup_iff.mpr nd
 refine List.pairwise_iff_getElem.mpr fun i j hi hj hij=> ?_
 have e1:(ps.map prT)[i]?=some (prT ps[i]):=by rw [List.getElem?_map,List.getElem?_eq_getElem hi];rfl
 have e2:(ps.map prT)[j]?=some (prT ps[j]):=by rw [List.getElem?_map,List.getElem?_eq_getElem hj];rfl
 have h1:=le_pair (srt i j _ _ (by omega) e1 e2)
 refine lt_of h1 ?_
 cases e:eqT ps[i].1 ps[j].1 with
 |false=>rfl
 |true=>
  have:=ty_eq _ (Nat.le_refl _) (ty _ (mem _ (List.getElem_mem hi))) (ty _ (mem _ (List.getElem_mem hj))) ((eqT_code _ _).mp e)
  have z:=(List.pairwise_iff_getElem.mp nd2) i j (by rw [List.length_map];exact hi) (by rw [List.length_map];exact hj) hij
  rw [List.getElem_map,List.getElem_map] at z
  exact absurd this z
section
variable {P:Program} {w:World} {K:PySem.W.Frag} {mg:Str→Option Value} {base:Heap}
def spAtom (K:PySem.W.Frag):Sp:=fun vs H Q _=>∃(a:Addr) (ns:List Int) (kk:Int),vs= [.ref a, .int kk]∧SqL K H a (ns.map V.int)∧ns.length≤63∧0≤kk∧kk≤80000∧∀v t H',Same H H'→TrAt H' v t→(∀n,Gz n t)→Q v H'
theorem scAt:FnScope ["_law_script","_law_k","_law_way","_law_pool","_law_shares","_law_n","_law_bound"] ["_law_script","_law_k"] (defScope sAtom):=⟨rfl,rfl,rfl,by decide +kernel,rfl,by decide +kernel,by decide +kernel⟩
theorem ok_atom {f fD fT fS:Addr} {fd dD dT dS:FuncData} (F:Fun K "_law_atom" "_law_atom" sAtom f fd) (B:Blt mg)
 (gD:FnOk P w K mg base CX0 1 fD dD ["_law_script","_law_k","_law_many"] (spDraw K)) (kD:PySem.W.keepIn K (.ref fD)=true) (bD:Binds K dD ["_law_script","_law_k","_law_many"] []) (mD:mg "_law_draw"=some (.ref fD))
 (gT:FnOk P w K mg base CX0 2 fT dT ["_law_script","_law_k"] (spTerm K)) (kT:PySem.W.keepIn K (.ref fT)=true) (bT:Binds K dT ["_law_script","_law_k"] []) (mT:mg "_law_term"=some (.ref fT))
 (gS:FnOk P w K mg base CX0 2 fS dS ["_law_script","_law_k"] (spShr K)) (kS:PySem.W.keepIn K (.ref fS)=true) (bS:Binds K dS ["_law_script","_law_k"] []) (mS:mg "_law_share"=some (.ref fS)):FnOk P w K mg base CX0 3 f fd ["_law_script","_law_k"] (spAtom K):=by
 refine F.ok scAt (fun vs H Q E h=> ?_) (fun cdv A outer s H vs Q E hr h=> ?_)
 · obtain ⟨a,ns,kk,rfl,_⟩:=h
   rfl
 obtain ⟨a,ns,kk,rfl,hS,h63,k0,k8,k⟩:=h
 have hr1:Room 1 _:=hr.mono (by decide)
 have hr2:Room 2 _:=hr.mono (by decide)
 have hun:=hr.units
 have hu30:=Nat.lt_of_le_of_lt (Nat.add_le_add_left (show 30≤64 by decide) _) hun
 have hu60:=Nat.lt_of_le_of_lt (Nat.add_le_add_left (show 60≤64 by decide) _) hun
 refine ⟨_,pss_cons (ps_set (i:=2) scAt.nd rfl (Or.inl rfl) (pe_call gD hr1 rfl mD kD bD .nil pass0 (pa_cons (pv 0) (pa_cons (pv 1) (pa_cons pe_int pa_nil)))))
  (pss_cons (ps_if (pt_cmpR op_eq (pv 2) pe_int (nomark _)) (pss_one (ps_ret (pe_tup (pa_cons pe_str (pa_cons (pe_ix ix_list (pe_litL 9 rfl) (pe_call gD hr1 rfl mD kD bD .nil pass0 (pa_cons (pv 0) (pa_cons (pe_op op_add (pv 1) pe_int) (pa_cons pe_int pa_nil)))) fun _ _=>rfl) pa_nil))))) pss_nil)
  (pss_cons (ps_if (pt_cmpR op_lt (pv 2) pe_int (nomark _)) (pss_one (ps_ret (pe_tup (pa_cons pe_str (pa_cons (pe_call gT hr2 rfl mT kT bT .nil pass0 (pa_cons (pv 0) (pa_cons (pe_op op_add (pv 1) pe_int) pa_nil))) (pa_cons (pe_call gT hr2 rfl mT kT bT .nil pass0 (pa_cons (pv 0) (pa_cons (pe_op op_add (pv 1) pe_int) pa_nil))) pa_nil)))))) pss_nil)
  (pss_cons (ps_set (i:=3) scAt.nd rfl (Or.inl rfl) (pe_litL 9 rfl))
  (pss_cons (ps_set (i:=3) scAt.nd rfl (Or.inl rfl) (pe_op op_cat (pv 3) (pe_lst (pa_cc (pa_cons (pe_ix ix_list (pv 3) pe_int fun _ _=>rfl) pa_nil) (pa_cc (pa_cons (pe_ix ix_list (pv 3) pe_int fun _ _=>rfl) pa_nil) pa_nil)))))
  (pss_cons (ps_set (i:=4) scAt.nd rfl (Or.inr rfl) (pe_newJ (P:=P) (w:=w) rfl rfl))
  (pss_cons (ps_for PassesOwn.never rfl (pi_range1 rfl B.ra (pa_cons (pe_op op_add pe_int (pe_call gD hr1 rfl mD kD bD .nil pass0 (pa_cons (pv 0) (pa_cons (pe_op op_add (pv 1) pe_int) (pa_cons pe_int pa_nil))))) pa_nil)) (pg_name (i:=5) scAt.nd rfl (Or.inl rfl))
   (pss_one (ps_putJ (P:=P) (w:=w) (K:=K) rfl rfl rfl hu30 (pv 4) (pe_ix ix_list (pv 3) (pe_call gD hr1 rfl mD kD bD .nil pass0 (pa_cons (pv 0) (pa_cons (pe_op op_add (pe_op op_add (pv 1) pe_int) (pv 5)) (pa_cons pe_int pa_nil)))) fun _ _=>rfl)
    (pe_call gS hr2 rfl mS kS bS .nil pass0 (pa_cons (pv 0) (pa_cons (pe_op op_add (pe_op op_add (pv 1) pe_int) (pe_op op_mul pe_int (pv 5))) pa_nil))) rfl)))
  (pss_cons (ps_set (i:=6) scAt.nd rfl (Or.inl rfl) (pe_ix ix_list (pe_litL 9 rfl) (pe_call gD hr1 rfl mD kD bD .nil pass0 (pa_cons (pv 0) (pa_cons (pe_op op_add (pv 1) pe_int) (pa_cons pe_int pa_nil)))) fun _ _=>rfl))
  (pss_one (ps_ret (pe_tup (pa_cons pe_str (pa_cons (pe_callTy call_tuple_of rfl B.tu PyProof.Rows.boot_tuple (pa_cons (pe_callB (call_sorted hu60) rfl B.so PyProof.Rows.boot_sorted (pa_cons
   (pe_comp (NC:= ["_law_term_here","_law_shares"]) (mp:= [none,some 4]) rfl (pi_dictJ (P:=P) (w:=w) (K:=K) rfl rfl rfl (pv 4)) (fun _ _ _ _ _=>pg_name (i:=0) (show (["_law_term_here","_law_shares"]:List Str).Nodup by decide +kernel) rfl (Or.inl rfl)) (fun _ _ _ _ _=>pts_nil)
    (fun _ _ _ _ _=>pe_tup (pa_cons (pv 0) (pa_cons (pe_ixR (P:=P) (w:=w) (K:=K) rfl rfl rfl hu30 (pv 1) (pv 0) (fun _ _=>rfl)) pa_nil)))) pa_nil)) pa_nil)) (pa_cons (pv 6) pa_nil))))))))))))),?_⟩
 have h1:(1:Nat)≤sizeLine:=by decide
 have h2:(2:Nat)≤sizeLine:=by decide
 have h3:(3:Nat)≤sizeLine:=by decide
 have hLb:(20000:Nat)≤sizeLine:=by decide +kernel
 refine ⟨_,rfl,_,rfl,a,ns,kk,5,rfl,hS,h63,k0,by omega,by decide,fun y _ _=> ?_⟩
 refine ⟨_,rfl,rfl,_,rfl,?_⟩
 refine ite2 (fun _=> ?_) (fun _=> ?_)
 · intro L ws H1 s1 _ hL hT
   refine ⟨_,rfl,_,rfl,_,_,rfl,rfl,a,ns,kk+1,3,rfl,SqL.same s1 hS,h63,by omega,by omega,by decide,fun r r0 r3=> ?_⟩
   obtain ⟨v,t,ev,mt,hv⟩:=pick hT r0 r3
   refine ⟨L,_,r,v,rfl,rfl,SqL.of hL,ev,h2,fun q nq=> ?_⟩
   have sq:=same_upd (o:= .tup [.str (Str.ofString "flag"),v]) nq
   have fin:∀x:Str,t= .str x→Nm x→Q (.ref q) (upd H1 q (.tup [.str (Str.ofString "flag"),v])):=fun x e hx=>by
    subst e
    exact k (.ref q) (.tup [s_ "flag", .str x]) _ (s1.trans sq) (at_tup upd_same (.cons at_str (.cons (hv.mono (Kd.of_same sq)) .nil))) fun n=> .fl n x hx
   simp only [List.mem_cons,List.not_mem_nil,or_false] at mt
   rcases mt with rfl|rfl|rfl
   · exact fin _ rfl nm_p
   · exact fin _ rfl nm_q
   · exact fin _ rfl nm_a
 refine ⟨_,rfl,_,_,rfl,rfl,_,rfl,?_⟩
 refine ite2 (fun _=> ?_) (fun _=> ?_)
 · refine ⟨_,rfl,_,rfl,_,_,rfl,rfl,a,ns,kk+2,rfl,hS,h63,by omega,by omega,fun v1 t1 H1 s1 hv1 z1=> ?_⟩
   refine ⟨_,rfl,_,rfl,_,_,rfl,rfl,a,ns,kk+4,rfl,SqL.same s1 hS,h63,by omega,by omega,fun v2 t2 H2 s2 hv2 z2=> ?_⟩
   refine ⟨h3,fun q nq=> ?_⟩
   have sq:=same_upd (o:= .tup [.str (Str.ofString "like"),v1,v2]) nq
   exact k (.ref q) (.tup [s_ "like",t1,t2]) _ (s1.trans (s2.trans sq)) (at_tup upd_same (.cons at_str (.cons (hv1.mono (Kd.of_same (s2.trans sq))) (.cons (hv2.mono (Kd.of_same sq)) .nil)))) fun n=> .li n t1 t2 z1 z2
 intro L ws H1 s1 _ hL hT
 have tz:∀t∈ [Tr.tup [.str (Str.ofString "name"), .str (Str.ofString "a")], .tup [.str (Str.ofString "name"), .str (Str.ofString "b")], .tup [.str (Str.ofString "name"), .str (Str.ofString "ab")]],Tz 0 t:=fun t m=>by
  simp only [List.mem_cons,List.not_mem_nil,or_false] at m
  rcases m with rfl|rfl|rfl
  · exact Tz.nm nm_a 0
  · exact Tz.nm nm_b 0
  · exact Tz.nm nm_ab 0
 obtain ⟨u0,t0,e0,m0,hu0⟩:=pick hT (r:=0) (by decide) (by decide)
 obtain ⟨u1,t1,e1,m1,hu1⟩:=pick hT (r:=1) (by decide) (by decide)
 have zt0:=tz t0 m0
 have zt1:=tz t1 m1
 refine ⟨_,rfl,_,rfl,L,_,0,u0,rfl,rfl,SqL.of hL,e0,h1,fun q1 n1=>⟨h3,fun q2 n2=> ?_⟩⟩
 have a1:=same_upd (o:= .tup [u0]) n1
 have a2:=same_upd (o:= .tup [.str (Str.ofString "call"), .str (Str.ofString "f"), .ref q1]) n2
 have c1:TrAt (upd (upd H1 q1 (.tup [u0])) q2 (.tup [.str (Str.ofString "call"), .str (Str.ofString "f"), .ref q1])) (.ref q2) (.tup [s_ "call",s_ "f", .tup [t0]]):=at_tup upd_same (.cons at_str (.cons at_str (.cons (at_tup (a2 _ _ upd_same) (.cons (hu0.mono (Kd.of_same (a1.trans a2))) .nil)) .nil)))
 have a12:=a1.trans a2
 clear a1 a2 n1 n2
 generalize upd (upd H1 q1 (.tup [u0])) q2 (.tup [.str (Str.ofString "call"), .str (Str.ofString "f"), .ref q1])=H2 at a12 c1 ⊢
 refine ⟨_,rfl,L,_,1,u1,rfl,rfl,SqL.of (a12 _ _ hL),e1,h1,fun q3 n3=>⟨h3,fun q4 n4=> ?_⟩⟩
 have a3:=same_upd (o:= .tup [u1]) n3
 have a4:=same_upd (o:= .tup [.str (Str.ofString "call"), .str (Str.ofString "f"), .ref q3]) n4
 have c2:TrAt (upd (upd H2 q3 (.tup [u1])) q4 (.tup [.str (Str.ofString "call"), .str (Str.ofString "f"), .ref q3])) (.ref q4) (.tup [s_ "call",s_ "f", .tup [t1]]):=at_tup upd_same (.cons at_str (.cons at_str (.cons (at_tup (a4 _ _ upd_same) (.cons (hu1.mono (Kd.of_same (a12.trans (a3.trans a4)))) .nil)) .nil)))
 have a34:=a3.trans a4
 clear a3 a4 n3 n4
 generalize upd (upd H2 q3 (.tup [u1])) q4 (.tup [.str (Str.ofString "call"), .str (Str.ofString "f"), .ref q3])=H3 at a34 c2 ⊢
 refine ⟨h2,fun L2 nL2=> ?_⟩
 have a5:=same_upd (o:= .lst [.ref q2, .ref q4]) nL2
 have wl:=hT.len
 refine ⟨L,L2,ws,_,rfl,rfl,a5 _ _ (a34 _ _ (a12 _ _ hL)),upd_same,by rw [wl];show 3+2≤sizeLine;omega,fun p np=> ?_⟩
 have a6:=same_upd (o:= .lst (ws++ [.ref q2, .ref q4])) np
 have hp:=upd_same (H:=upd H3 L2 (.lst [.ref q2, .ref q4])) (a:=p) (o:= .lst (ws++ [.ref q2, .ref q4]))
 have hTp:=TrsAt.app (.cons (c1.mono (Kd.of_same (a34.trans (a5.trans a6)))) (.cons (c2.mono (Kd.of_same (a5.trans a6))) .nil)) (hT.mono (Kd.of_same (a12.trans (a34.trans (a5.trans a6)))))
 have sp:=s1.trans (a12.trans (a34.trans (a5.trans a6)))
 generalize upd (upd H3 L2 (.lst [.ref q2, .ref q4])) p (.lst (ws++ [.ref q2, .ref q4]))=H4 at hp hTp sp ⊢
 have tz5:∀t∈ [Tr.tup [.str (Str.ofString "name"), .str (Str.ofString "a")], .tup [.str (Str.ofString "name"), .str (Str.ofString "b")], .tup [.str (Str.ofString "name"), .str (Str.ofString "ab")]]++ [.tup [s_ "call",s_ "f", .tup [t0]], .tup [s_ "call",s_ "f", .tup [t1]]],Tz 2 t:=fun t m=>by
  rcases List.mem_append.mp m with m|m
  · exact (tz t m).mono (by decide)
  · simp only [List.mem_cons,List.not_mem_nil,or_false] at m
    rcases m with rfl|rfl
    · exact (Tz.ap (d:=0) nm_f (by simp) (by simp) fun u mu=>by rw [List.mem_singleton.mp mu];exact zt0).mono (by decide)
    · exact (Tz.ap (d:=0) nm_f (by simp) (by simp) fun u mu=>by rw [List.mem_singleton.mp mu];exact zt1).mono (by decide)
 clear a5 a6 a12 a34 c1 c2 hu0 hu1 e0 e1 m0 m1 hT hL np nL2
 intro D nD
 have s5:Same H4 (upd H4 D (dJ P w D [])):=same_upd nD
 have d0:DAt P w K (upd H4 D (dJ P w D [])) D [] (fun _=>zero):=⟨⟨[],⟨upd_same,fun p m=>(by cases m)⟩, .nil⟩,fun t m=>(by cases m),List.nodup_nil⟩
 refine ⟨_,rfl,_,rfl,_,_,rfl,rfl,a,ns,kk+6,3,rfl,SqL.same (sp.trans s5) hS,h63,by omega,by omega,by decide,fun r r0 r3=> ?_⟩
 refine ⟨_,_,rfl,rfl,_,rfl,by omega,by omega,?_⟩
 obtain ⟨j,ej⟩:∃j:Nat,(1+r).toNat=j:=⟨_,rfl⟩
 have jm:j≤3:=by omega
 rw [ej]
 refine for_range (n:=j) (fun i σ H'=>Same H4 H'∧∃(ks:List Tr) (g:Tr→Fr) (v5:Option V),σ= [some (.ref a),some (.int kk),some (.int y),some (.ref p),some (.ref D),v5,none]∧DAt P w K H' D ks g∧ks.length≤i∧∀t∈ks,Tz 2 t∧Gf 200 (g t)∧Fz (g t)∧(g t).1≠0)
  ⟨s5,[],_,none,rfl,d0,Nat.le_refl _,fun t m=>by cases m⟩ ?_ ?_
 · rintro i σ H5 hi ⟨sH,ks,g,v5,rfl,hD,hkl,hkz⟩
   refine gname_of ?_
   dsimp only
   refine ⟨_,rfl,_,rfl,_,_,rfl,rfl,_,rfl,2,_,rfl,rfl, .inl ⟨by decide,by decide⟩,_,_,rfl,rfl,a,ns,_,rfl,SqL.same (sp.trans sH) hS,h63,by omega,by omega,fun vf fr H6 s6 hvf gf fzf nzf=> ?_⟩
   refine ⟨_,rfl,_,rfl,_,rfl,_,rfl,_,_,rfl,rfl,_,rfl,_,_,rfl,rfl,a,ns,_,5,rfl,SqL.same (sp.trans (sH.trans s6)) hS,h63,by omega,by omega,by decide,fun z z0 z5=> ?_⟩
   obtain ⟨v,t,ev,mt,hv⟩:=pick (hTp.mono (Kd.of_same (sH.trans s6))) z0 z5
   have zt:=tz5 t mt
   obtain ⟨bt,rfl⟩:=tm_ref zt.ty hv
   have dpt:t.depth≤7:=(Nat.le_trans zt.dep (by decide))
   have hD6:=hD.same s6
   obtain ⟨kvs,dj,pr⟩:=hD6.ex
   have kl:kvs.length=ks.length:=Paired.length pr
   refine ⟨p,_,z, .ref bt,rfl,rfl,SqL.of ((sH.trans s6) _ _ hp),ev,D,bt,ktL t,kvs,rfl,rfl,dj,key_tm zt.ty dpt hv,by omega,?_⟩
   refine ⟨same_wr nD (sH.trans s6),addK ks t,setG g t fr,_,rfl,hD6.put zt.ty dpt hv hvf dj (fun _=>pr),?_,fun u mu=> ?_⟩
   · unfold addK
     split
     · omega
     · rw [List.length_append,List.length_singleton]
       omega
   · have mu':u=t∨u∈ks:=by
      unfold addK at mu
      split at mu
      · exact .inr mu
      · rcases List.mem_append.mp mu with mu|mu
        · exact .inr mu
        · exact .inl (List.mem_singleton.mp mu)
     unfold setG
     by_cases e:u=t
     · rw [if_pos e,e]
       exact ⟨zt,gf,fzf,nzf⟩
     · rw [if_neg e]
       rcases mu' with q|q
       · exact absurd q e
       · exact hkz u q
 rintro σ H5 ⟨sH,ks,g,v5,rfl,hD,hkl,hkz⟩
 intro LB wb H6 s6 _ hLB hTB
 refine ⟨_,rfl,_,rfl,_,_,rfl,rfl,a,ns,kk+16,6,rfl,SqL.same (sp.trans (sH.trans s6)) hS,h63,by omega,by omega,by decide,fun z z0 z6=> ?_⟩
 obtain ⟨vb,tb,ev,mb,hvb⟩:=pick hTB z0 z6
 refine ⟨LB,_,z,vb,rfl,rfl,SqL.of hLB,ev,?_⟩
 obtain ⟨fb,gfb,rfl⟩:∃fb:Fr,(Gf 200 fb∧Fz fb)∧tb=frT fb:=by
  simp only [List.mem_cons,List.not_mem_nil,or_false] at mb
  rcases mb with rfl|rfl|rfl|rfl|rfl|rfl
  · exact ⟨(0,1),⟨gf_i (by decide) (by decide) (by decide),⟨by decide,by decide⟩⟩,rfl⟩
  · exact ⟨(1,1),⟨gf_i (by decide) (by decide) (by decide),⟨by decide,by decide⟩⟩,rfl⟩
  · exact ⟨(-1,1),⟨gf_i (by decide) (by decide) (by decide),⟨by decide,by decide⟩⟩,rfl⟩
  · exact ⟨(1,2),⟨gf_i (by decide) (by decide) (by decide),⟨by decide,by decide⟩⟩,rfl⟩
  · exact ⟨(-3,1),⟨gf_i (by decide) (by decide) (by decide),⟨by decide,by decide⟩⟩,rfl⟩
  · exact ⟨(5,1),⟨gf_i (by decide) (by decide) (by decide),⟨by decide,by decide⟩⟩,rfl⟩
 have hD6:=hD.same s6
 obtain ⟨kvs,dj,pr⟩:=hD6.ex
 have kl:kvs.length=ks.length:=Paired.length pr
 have hK6:=en_keys pr
 have tyk:∀t∈ks,Ty .tm t:=fun t m=>(hkz t m).1.ty
 refine gname_of ?_
 dsimp only
 refine tret_tc ?_
 refine tcons_cb2 ?_
 refine tcb1 ?_
 refine tcomp_of rfl ?_
 refine ⟨_,rfl,D,kvs,rfl,dj,fun o D2 nD2=> ?_⟩
 have k7:Kd H6 (upd H6 D (.frz o (dJ P w D kvs))):=Kd.updJ dj.at_
 have f7:(upd H6 D (.frz o (dJ P w D kvs))) D=some (.frz o (dJ P w D kvs)):=upd_same
 have s7:Same H4 (upd H6 D (.frz o (dJ P w D kvs))):=same_wr nD (sH.trans s6)
 generalize upd H6 D (.frz o (dJ P w D kvs))=H7 at k7 f7 s7 nD2 ⊢
 have lm:(kvs.map fun e=>V.ref e.2.1).length=ks.length:=by rw [List.length_map,kl]
 have hvb7:=hvb.mono k7
 refine comp_dict (fun i acc H'=>Same H7 H'∧H' D2=some (.lst acc)∧TrsAt H' acc ((ks.take i).map fun t=>prT (t,g t))) ⟨same_upd nD2,upd_same,by rw [List.take_zero];exact .nil⟩ (fun i acc H' q=>q.1 _ _ f7) ?_ ?_
 · rintro i x acc H8 hi ex ⟨s8,hD2,hA⟩
   have k8:=k7.trans (Kd.of_same s8)
   obtain ⟨t,et,ht⟩:=(hK6.mono k8).get' ex
   have mt:=List.mem_of_getElem? et
   have zt:=(hkz t mt).1
   obtain ⟨b,rfl⟩:=tm_ref zt.ty ht
   obtain ⟨v,ev2,hv⟩:=(en_val (en_mono k8 pr) tyk zt.ty).1 mt
   have al:=hA.len
   rw [List.length_map,List.length_take] at al
   refine ⟨_,rfl,_,rfl,_,rfl,D,b,ktL t,kvs,v,rfl,rfl,⟨.inr ⟨o,s8 _ _ f7⟩,fun p m=>(dj.keys p m).mono k8⟩,key_tm zt.ty (Nat.le_trans zt.dep (by decide)) ht,ev2,h2,fun q nq=> ?_⟩
   have sq:=same_upd (o:= .tup [.ref b,v]) nq
   have hD4:=sq _ _ hD2
   have kd:=(Kd.of_same sq).trans (Kd.upd (ys:=acc++ [.ref q]) hD4)
   have nDp:q≠D2:=fun z=>by rw [z,hD2] at nq;cases nq
   refine CompN.mk hi (by omega) hD4 ⟨same_wr nD2 (s8.trans sq),upd_same,?_⟩
   rw [List.take_add_one,et,List.map_append]
   exact TrsAt.app (.cons (at_pair ((upd_ne nDp).trans upd_same) (ht.mono kd) (hv.mono kd)) .nil) (hA.mono kd)
 rintro acc H8 ⟨s8,hD2,hA⟩
 rw [lm,List.take_length] at hA
 have good:∀u∈ks.map fun t=>prT (t,g t),∃q:Pq,u=prT q∧(Tz 2 q.1∧Gf 200 q.2∧Fz q.2∧q.2.1≠0):=fun u mu=>by
  obtain ⟨t,mt,rfl⟩:=List.mem_map.mp mu
  exact ⟨(t,g t),rfl,hkz t mt⟩
 have typ:∀u∈ks.map fun t=>prT (t,g t),Ty .pr u∧u.depth≤30:=fun u mu=>by
  obtain ⟨q,rfl,z,gq⟩:=good u mu
  refine ⟨.pr _ _ z.ty (.fr _ _),?_⟩
  have:=z.dep
  unfold prT frT
  simp only [Tr.depth,Trs.depth]
  omega
 refine ⟨D2,acc,_,rfl,hD2,hA,by rw [List.length_map];omega,fun u mu=>⟨ty_hd (.inr (typ u mu).1),ty_pure (typ u mu).1,by have:=(typ u mu).2;omega⟩,fun u mu u' mu'=>ty_cm 30 (typ u mu).2 (typ u mu).1 (typ u' mu').1,fun DS wS us nS pm hTs srt=> ?_⟩
 have s9:=same_upd (o:= .lst wS) nS
 refine ⟨DS,wS,rfl, .inl ⟨SqL.of upd_same,fun q nq=> ?_⟩⟩
 have s10:=same_upd (o:= .tup wS) nq
 refine ⟨_,rfl,h3,fun q2 nq2=> ?_⟩
 have s11:=same_upd (o:= .tup [.str (Str.ofString "most"), .ref q,vb]) nq2
 obtain ⟨ps,eus,pl,hps⟩:=prs_of (us:=us) fun u mu=>good u (pm.mem_iff.mp mu)
 have ul:=pm.length_eq
 rw [List.length_map] at ul
 have sE:=s7.trans (s8.trans (s9.trans (s10.trans s11)))
 have kE:=Kd.of_same (s9.trans (s10.trans s11))
 subst eus
 refine k (.ref q2) (.tup [s_ "most", .tup (ps.map prT),frT fb]) _ (sp.trans sE) (at_tup upd_same (.cons at_str (.cons (at_tup (s11 _ _ upd_same) (hTs.mono kE)) (.cons (hvb7.mono (Kd.of_same (s8.trans (s9.trans (s10.trans s11))))) .nil)))) fun n=> .mo n ps fb (by omega) (asc_sorted hD.nd tyk pm srt) hps gfb.1 gfb.2
end
open PySem L2 Mth Tre Wd Su Dj Tw
def WsAt (H:Hp) (l:Addr) (n:Nat) (ts:List Tr):Prop:=∃ws,H l=some (.lst ws)∧TrsAt H ws ts∧∀t∈ts,Gz n t
def AsAt (H:Hp) (l:Addr) (ts:List Tr):Prop:=∃ws,H l=some (.lst ws)∧TrsAt H ws ts∧0 < ts.length∧ts.length≤10∧∀t∈ts,∀n,Gz n t
theorem AsAt.same {H H':Hp} {l:Addr} {ts:List Tr} (h:AsAt H l ts) (s:Same H H'):AsAt H' l ts:=by
 obtain ⟨ws,h1,h2,r⟩:=h
 exact ⟨ws,s _ _ h1,h2.mono (Kd.of_same s),r⟩
section
variable {P:Program} {w:World} {K:PySem.W.Frag} {mg:Str→Option Value} {base:Heap}
def spWish (K:PySem.W.Frag) (n:Nat):Sp:=fun vs H Q _=>∃(a l:Addr) (ns:List Int) (kk:Int) (d:Nat) (ts:List Tr),vs= [.ref a, .int kk, .int (d:Int), .ref l]∧SqL K H a (ns.map V.int)∧ns.length≤63∧0≤kk∧kk+1000*d≤50000∧d < n∧AsAt H l ts∧
 ∀v t H',Same H H'→TrAt H' v t→Gz d t→Q v H'
theorem scWi:FnScope ["_law_script","_law_k","_law_deep","_law_atoms","_law_way","_law_some"] ["_law_script","_law_k","_law_deep","_law_atoms"] (defScope sWish):=⟨rfl,rfl,rfl,by decide +kernel,rfl,by decide +kernel,by decide +kernel⟩
theorem ok_wish {f fD:Addr} {fd dD:FuncData} (F:Fun K "_law_wish" "_law_wish" sWish f fd) (bF:Binds K fd ["_law_script","_law_k","_law_deep","_law_atoms"] []) (mF:mg "_law_wish"=some (.ref f)) (B:Blt mg)
 (gD:FnOk P w K mg base CX0 1 fD dD ["_law_script","_law_k","_law_many"] (spDraw K)) (kD:PySem.W.keepIn K (.ref fD)=true) (bD:Binds K dD ["_law_script","_law_k","_law_many"] []) (mD:mg "_law_draw"=some (.ref fD)):
 ∀n,FnOk P w K mg base CX0 (n+2) f fd ["_law_script","_law_k","_law_deep","_law_atoms"] (spWish K n):=by
 intro n
 induction n with
 |zero=>exact ⟨fun vs H Q E ⟨_,_,_,_,_,_,_,_,_,_,_,h,_⟩=>absurd h (by omega),fun A outer s H args us vs Q E _ _ _ _ ⟨_,_,_,_,_,_,_,_,_,_,_,h,_⟩=>absurd h (by omega)⟩
 |succ n ih=>
  refine F.ok scWi (fun vs H Q E h=> ?_) (fun cdv A outer s H vs Q E hr h=> ?_)
  · obtain ⟨a,l,ns,kk,d,ts,rfl,_⟩:=h
    rfl
  obtain ⟨a,l,ns,kk,d,ts,rfl,hS,h63,k0,k5,hd,hA,k⟩:=h
  have hr1:Room 1 _:=hr.mono (by omega)
  refine ⟨_,pss_cons (ps_set (i:=4) scWi.nd rfl (Or.inl rfl) (pe_call gD hr1 rfl mD kD bD .nil pass0 (pa_cons (pv 0) (pa_cons (pv 1) (pa_cons pe_int pa_nil)))))
   (pss_cons (ps_if (PW.pt (pw_or (pt_cmpR op_eq (pv 2) pe_int (nomark _)) (pw_or1 (pt_cmpR op_lt (pv 4) pe_int (nomark _)))))
    (pss_one (ps_ret (pe_ix ix_list (pv 3) (pe_call gD hr1 rfl mD kD bD .nil pass0 (pa_cons (pv 0) (pa_cons (pe_op op_add (pv 1) pe_int) (pa_cons (pe_callB call_len_seq rfl B.le PySem.boot_len (pa_cons (pv 3) pa_nil)) pa_nil)))) fun _ _=>rfl))) pss_nil)
   (pss_cons (ps_if (pt_cmpR op_eq (pv 4) pe_int (nomark _)) (pss_one (ps_ret (pe_tup (pa_cons pe_str (pa_cons (pe_call ih hr rfl mF F.kp bF .nil pass0 (pa_cons (pv 0) (pa_cons (pe_op op_add (pv 1) pe_int) (pa_cons (pe_op op_sub (pv 2) pe_int) (pa_cons (pv 3) pa_nil))))) pa_nil))))) pss_nil)
   (pss_cons (ps_setC (NC:= ["_law_n","_law_atoms","_law_deep","_law_k","_law_script"]) (mp:= [none,some 3,some 2,some 1,some 0]) (i:=5) rfl scWi.nd rfl rfl rfl (pi_range1 rfl B.ra (pa_cons (pe_call gD hr1 rfl mD kD bD .nil pass0 (pa_cons (pv 0) (pa_cons (pe_op op_add (pv 1) pe_int) (pa_cons pe_int pa_nil)))) pa_nil)) (fun _ _ _ _ _=>pg_name (i:=0) (show (["_law_n","_law_atoms","_law_deep","_law_k","_law_script"]:List Str).Nodup by decide +kernel) rfl (Or.inl rfl)) (fun _ _ _ _ _=>pts_nil)
    (fun _ _ _ _ _=>pe_call ih hr rfl mF F.kp bF .nil pass0 (pa_cons (pv 4) (pa_cons (pe_op op_add (pe_op op_add (pv 3) pe_int) (pe_op op_mul pe_int (pv 0))) (pa_cons (pe_op op_sub (pv 2) pe_int) (pa_cons (pv 1) pa_nil))))))
   (pss_one (ps_ret (pe_tup (pa_cons (pe_ix ix_list (pe_litL 9 rfl) (pe_op op_mod (pv 4) pe_int) fun _ _=>rfl) (pa_cons (pe_callTy call_tuple_of rfl B.tu PyProof.Rows.boot_tuple (pa_cons (pv 5) pa_nil)) pa_nil)))))))),?_⟩
  have h2:(2:Nat)≤sizeLine:=by decide
  have hLb:(20000:Nat)≤sizeLine:=by decide +kernel
  refine ⟨_,rfl,_,rfl,a,ns,kk,7,rfl,hS,h63,k0,by omega,by decide,fun y y0 y7=> ?_⟩
  have leaf:(tRet (tOp (rIxL K) (tVar 3) (tCall (spDraw K) [] E0 (tCons (tVar 0) (tCons (tOp (rI0 fun i j=> .int (i+j)) (tVar 1) (tC (.int 1))) (tCons (tCB (fun xs H Q=>∃p ys,xs= [.ref p]∧(SqL K H p ys∨SqT K H p ys)∧Q (.int ys.length) H) (tCons (tVar 3) tNil)) tNil)))))) {nx:=fun _ H'=>Q .non H',rt:=Q} [some (.ref a),some (.int kk),some (.int (d:Int)),some (.ref l),some (.int y),none] H:=by
   obtain ⟨ws,hl,hT,l0,l10,hW⟩:=hA
   have wl:=hT.len
   refine ⟨_,rfl,_,rfl,_,rfl,_,_,rfl,rfl,_,rfl,l,_,rfl, .inl (SqL.of hl),a,ns,kk+1,_,rfl,hS,h63,by omega,by omega,by omega,fun r r0 rl=> ?_⟩
   obtain ⟨v,t,ev,mt,hv⟩:=pick hT r0 (by omega)
   exact ⟨l,_,r,v,rfl,rfl,SqL.of hl,ev,k v t H (Same.refl H) hv (hW t mt d)⟩
  refine ⟨_,rfl,rfl,_,rfl,?_⟩
  refine ite2 (fun _=>leaf) (fun hd0=> ?_)
  have d0:d≠0:=fun z=>hd0 (by rw [z];decide)
  obtain ⟨e,rfl⟩:∃e,d=e+1:=⟨d - 1,by omega⟩
  have ee:((e+1:Nat):Int) - 1=(e:Int):=by omega
  refine ⟨_,rfl,_,_,rfl,rfl,_,rfl,?_⟩
  refine ite2 (fun _=>leaf) (fun _=> ?_)
  refine ⟨_,rfl,rfl,_,rfl,?_⟩
  refine ite2 (fun _=> ?_) (fun _=> ?_)
  · refine ⟨_,rfl,_,rfl,_,_,rfl,rfl,_,rfl,_,_,rfl,rfl,_,rfl,a,l,ns,kk+3,e,ts,?_,hS,h63,by omega,by omega,by omega,hA,fun v t H1 s1 hv hw=> ?_⟩
    · show [V.ref a, .int (kk+3), .int (((e+1:Nat):Int) - 1), .ref l]=_
      rw [ee]
    refine ⟨h2,fun q nq=> ?_⟩
    have sq:=same_upd (o:= .tup [.str (Str.ofString "not"),v]) nq
    exact k (.ref q) (.tup [s_ "not",t]) _ (s1.trans sq) (at_tup upd_same (.cons at_str (.cons (hv.mono (Kd.of_same sq)) .nil))) (.no e t hw)
  refine tnx_of ?_
  dsimp only
  refine tset_of rfl ?_
  refine ⟨_,rfl,_,rfl,_,_,rfl,rfl,a,ns,kk+2,4,rfl,hS,h63,by omega,by omega,by decide,fun r r0 r4=> ?_⟩
  refine ⟨r,rfl,by omega,by omega,fun D nD=> ?_⟩
  obtain ⟨j,ej⟩:∃j:Nat,r.toNat=j:=⟨_,rfl⟩
  have jm:j≤3:=by omega
  rw [ej]
  refine comp_range (n:=j) (fun i acc H'=>Same H H'∧H' D=some (.lst acc)∧∃ps:List Tr,TrsAt H' acc ps∧ps.length=i∧∀p∈ps,Gz e p) ⟨same_upd nD,upd_same,[], .nil,rfl,fun p m=>by cases m⟩ ?_ ?_
  · rintro i acc H1 hi ⟨s1,hD,ps,hT,hl,hw⟩
    refine ⟨_,rfl,_,rfl,_,_,rfl,rfl,_,rfl,20,_,rfl,rfl, .inl ⟨by decide,by decide⟩,_,_,rfl,rfl,_,rfl,_,_,rfl,rfl,_,rfl,a,l,ns,kk+3+20*(0+(i:Int)),e,ts,?_,SqL.same s1 hS,h63,?_,?_,by omega,hA.same s1,fun v t H2 s2 hv hw2=> ?_⟩
    · show [V.ref a, .int (kk+3+20*(0+(i:Int))), .int (((e+1:Nat):Int) - 1), .ref l]=_
      rw [ee]
    · omega
    · omega
    have hD2:=s2 _ _ hD
    have tp:=Kd.upd (ys:=acc++ [v]) hD2
    have al:=hT.len
    refine CompN.mk hi (by omega) hD2 ⟨same_wr nD (s1.trans s2),upd_same,ps++ [t],?_,by simp [hl],fun p m=> ?_⟩
    · exact TrsAt.app (.cons (hv.mono tp) .nil) (hT.mono ((Kd.of_same s2).trans tp))
    · rcases List.mem_append.mp m with m|m
      · exact hw p m
      · rw [List.mem_singleton.mp m]
        exact hw2
  · rintro acc H1 ⟨s1,hD,ps,hT,hl,hw⟩
    refine gname_of ?_
    try dsimp only
    intro L wl H2 s2 _ hL hTL
    have m0:(0:Int)≤y%2:=Int.emod_nonneg _ (by decide)
    have m1:y%2 < 2:=Int.emod_lt_of_pos _ (by decide)
    refine ⟨_,rfl,y,2,rfl,rfl,(by show (0:Int) < 2;decide),?_⟩
    obtain ⟨v,t,ev,mt,hv⟩:=pick hTL m0 m1
    refine ⟨L,_,y%2,v,rfl,rfl,SqL.of hL,ev,?_⟩
    refine ⟨_,rfl,D,acc,rfl, .inl ⟨SqL.of (s2 _ _ hD),fun q nq=> ?_⟩⟩
    have s3:=same_upd (o:= .tup acc) nq
    refine ⟨h2,fun q2 nq2=> ?_⟩
    have s4:=same_upd (o:= .tup [v, .ref q]) nq2
    have hT4:=hT.mono (Kd.of_same (s2.trans (s3.trans s4)))
    have hv4:=hv.mono (Kd.of_same (s3.trans s4))
    have hq:=at_tup (s4 _ _ upd_same) hT4
    simp only [List.mem_cons,List.not_mem_nil,or_false] at mt
    rcases mt with rfl|rfl
    · exact k (.ref q2) (.tup [s_ "both", .tup ps]) _ (s1.trans (s2.trans (s3.trans s4))) (at_tup upd_same (.cons hv4 (.cons hq .nil))) (.bo e ps (by omega) hw)
    · exact k (.ref q2) (.tup [s_ "either", .tup ps]) _ (s1.trans (s2.trans (s3.trans s4))) (at_tup upd_same (.cons hv4 (.cons hq .nil))) (.ei e ps (by omega) hw)
def spWishes (K:PySem.W.Frag):Sp:=fun vs H Q _=>∃(a:Addr) (ns:List Int) (b:Int),vs= [.ref a, .int b]∧SqL K H a (ns.map V.int)∧ns.length≤63∧0≤b∧b≤1000∧
 ∀l H' ts,Same H H'→H l=none→WsAt H' l 2 ts→ts.length≤5→Q (.ref l) H'
theorem scWs:FnScope ["_law_script","_law_base","_law_atoms","_law_many"] ["_law_script","_law_base"] (defScope sWishes):=⟨rfl,rfl,rfl,by decide +kernel,rfl,by decide +kernel,by decide +kernel⟩
theorem ok_wishes {f fD fA fW:Addr} {fd dD dA dW:FuncData} (F:Fun K "_law_wishes" "_law_wishes" sWishes f fd) (B:Blt mg)
 (gD:FnOk P w K mg base CX0 1 fD dD ["_law_script","_law_k","_law_many"] (spDraw K)) (kD:PySem.W.keepIn K (.ref fD)=true) (bD:Binds K dD ["_law_script","_law_k","_law_many"] []) (mD:mg "_law_draw"=some (.ref fD))
 (gA:FnOk P w K mg base CX0 3 fA dA ["_law_script","_law_k"] (spAtom K)) (kA:PySem.W.keepIn K (.ref fA)=true) (bA:Binds K dA ["_law_script","_law_k"] []) (mA:mg "_law_atom"=some (.ref fA))
 (gW:FnOk P w K mg base CX0 5 fW dW ["_law_script","_law_k","_law_deep","_law_atoms"] (spWish K 3)) (kW:PySem.W.keepIn K (.ref fW)=true) (bW:Binds K dW ["_law_script","_law_k","_law_deep","_law_atoms"] []) (mW:mg "_law_wish"=some (.ref fW)):FnOk P w K mg base CX0 6 f fd ["_law_script","_law_base"] (spWishes K):=by
 refine F.ok scWs (fun vs H Q E h=> ?_) (fun cdv A outer s H vs Q E hr h=> ?_)
 · obtain ⟨a,ns,b,rfl,_⟩:=h
   rfl
 obtain ⟨a,ns,b,rfl,hS,h63,b0,b1,k⟩:=h
 have hr1:Room 1 _:=hr.mono (by decide)
 have hr3:Room 3 _:=hr.mono (by decide)
 refine ⟨_,pss_cons (ps_set (i:=2) scWs.nd rfl (Or.inr rfl) (pe_comp (NC:= ["_law_n","_law_base","_law_script"]) (mp:= [none,some 1,some 0]) rfl (pi_range1 rfl B.ra (pa_cons (pe_op op_add pe_int (pe_call gD hr1 rfl mD kD bD .nil pass0 (pa_cons (pv 0) (pa_cons pe_int (pa_cons pe_int pa_nil))))) pa_nil)) (fun _ _ _ _ _=>pg_name (i:=0) (show (["_law_n","_law_base","_law_script"]:List Str).Nodup by decide +kernel) rfl (Or.inl rfl)) (fun _ _ _ _ _=>pts_nil)
  (fun _ _ _ _ _=>pe_call gA hr3 rfl mA kA bA .nil pass0 (pa_cons (pv 2) (pa_cons (pe_op op_add (pv 1) (pe_op op_mul pe_int (pv 0))) pa_nil)))))
  (pss_cons (ps_set (i:=3) scWs.nd rfl (Or.inl rfl) (pe_call gD hr1 rfl mD kD bD .nil pass0 (pa_cons (pv 0) (pa_cons pe_int (pa_cons pe_int pa_nil)))))
  (pss_one (ps_ret (pe_comp (NC:= ["_law_n","_law_atoms","_law_base","_law_script"]) (mp:= [none,some 2,some 1,some 0]) rfl (pi_range1 rfl B.ra (pa_cons (pv 3) pa_nil)) (fun _ _ _ _ _=>pg_name (i:=0) (show (["_law_n","_law_atoms","_law_base","_law_script"]:List Str).Nodup by decide +kernel) rfl (Or.inl rfl)) (fun _ _ _ _ _=>pts_nil)
   (fun _ _ _ _ _=>pe_call gW hr rfl mW kW bW .nil pass0 (pa_cons (pv 3) (pa_cons (pe_op op_add (pe_op op_add (pv 2) pe_int) (pe_op op_mul pe_int (pv 0))) (pa_cons pe_int (pa_cons (pv 1) pa_nil))))))))),?_⟩
 have hLb:(20000:Nat)≤sizeLine:=by decide +kernel
 refine tset_of rfl ?_
 refine ⟨_,rfl,a,ns,2,6,rfl,hS,h63,by decide,by decide,by decide,fun r r0 r6=> ?_⟩
 refine ⟨_,_,rfl,rfl,_,rfl,by omega,by omega,fun D nD=> ?_⟩
 obtain ⟨j,ej⟩:∃j:Nat,(2+r).toNat=j:=⟨_,rfl⟩
 have jm:j≤7∧2≤j:=by omega
 rw [ej]
 refine comp_range (n:=j) (fun i acc H'=>Same H H'∧H' D=some (.lst acc)∧∃ts:List Tr,TrsAt H' acc ts∧ts.length=i∧∀t∈ts,∀n,Gz n t) ⟨same_upd nD,upd_same,[], .nil,rfl,fun p m=>by cases m⟩ ?_ ?_
 · rintro i acc H1 hi ⟨s1,hD,ts,hT,hl,hw⟩
   refine ⟨_,rfl,_,rfl,_,rfl,20,_,rfl,rfl, .inl ⟨by decide,by decide⟩,_,_,rfl,rfl,a,ns,_,rfl,SqL.same s1 hS,h63,by omega,by omega,fun v t H2 s2 hv hw2=> ?_⟩
   have hD2:=s2 _ _ hD
   have tp:=Kd.upd (ys:=acc++ [v]) hD2
   have al:=hT.len
   refine CompN.mk hi (by omega) hD2 ⟨same_wr nD (s1.trans s2),upd_same,ts++ [t],TrsAt.app (.cons (hv.mono tp) .nil) (hT.mono ((Kd.of_same s2).trans tp)),by simp [hl],fun u m=> ?_⟩
   rcases List.mem_append.mp m with m|m
   · exact hw u m
   · rw [List.mem_singleton.mp m]
     exact hw2
 rintro acc H1 ⟨s1,hD,ts,hT,hl,hw⟩
 have hA:AsAt H1 D ts:=⟨acc,hD,hT,by omega,by omega,hw⟩
 refine gname_of ?_
 try dsimp only
 refine ⟨_,rfl,a,ns,3,6,rfl,SqL.same s1 hS,h63,by decide,by decide,by decide,fun m m0 m6=> ?_⟩
 refine gname_of ?_
 try dsimp only
 refine tret_of ?_
 refine tcomp_of rfl ?_
 refine ⟨_,rfl,m,rfl,by omega,by omega,fun D2 nD2=> ?_⟩
 obtain ⟨g,eg⟩:∃g:Nat,m.toNat=g:=⟨_,rfl⟩
 have gm:g≤5:=by omega
 rw [eg]
 have nD20:H D2=none:=by
  cases e:H D2 with
  |none=>rfl
  |some o=>rw [s1 _ _ e] at nD2;cases nD2
 refine comp_range (n:=g) (fun i acc H'=>Same H1 H'∧H' D2=some (.lst acc)∧∃us:List Tr,TrsAt H' acc us∧us.length=i∧∀t∈us,Gz 2 t) ⟨same_upd nD2,upd_same,[], .nil,rfl,fun p m=>by cases m⟩ ?_ ?_
 · rintro i acc2 H2 hi ⟨s2,hD2,us,hU,hul,huw⟩
   refine ⟨_,rfl,_,rfl,_,_,rfl,rfl,_,rfl,70,_,rfl,rfl, .inl ⟨by decide,by decide⟩,_,_,rfl,rfl,_,rfl,a,D,ns,_,2,ts,rfl,SqL.same (s1.trans s2) hS,h63,by omega,by omega,by decide,hA.same s2,fun v t H3 s3 hv hw2=> ?_⟩
   have hD3:=s3 _ _ hD2
   have tp:=Kd.upd (ys:=acc2++ [v]) hD3
   have al:=hU.len
   refine CompN.mk hi (by omega) hD3 ⟨same_wr nD2 (s2.trans s3),upd_same,us++ [t],TrsAt.app (.cons (hv.mono tp) .nil) (hU.mono ((Kd.of_same s3).trans tp)),by simp [hul],fun u m=> ?_⟩
   rcases List.mem_append.mp m with m|m
   · exact huw u m
   · rw [List.mem_singleton.mp m]
     exact hw2
 · rintro acc2 H2 ⟨s2,hD2,us,hU,hul,huw⟩
   exact k D2 H2 us (s1.trans s2) nD20 ⟨acc2,hD2,hU,huw⟩ (by omega)
end
end K81
namespace L2
open PySem PySem.Spec PyProof.Rows
section
variable {X:Cx} {CX:CXT} {k i:Nat} {f:Addr} {fd:FuncData} {ps:List Str} {sp:Sp} {x y:Str} {p py pos epos:Pos} {e:Expr} {es:List Expr} {t:TA}
end
section
variable {X:Cx} {pins:List (Addr×Obj)} {σ σ':St} {H:Hp} {s:Shared} {h9:Heap} {tk:Nat}
theorem Inv.goes (I9:Inv X pins σ H s) (sb9:Heap.SameBut X.env.locals s.heap h9) (hl:σ'.length=σ.length)
 (hloc:∃m,h9.Ns X.env.locals m∧∀(i:Nat) (x:Str) (v:V),X.N[i]?=some x→σ'[i]?=some (some v)→Vis X.env.scope x→∃u,RelV v u∧Look X.env h9 m x u):Inv X pins σ' H {s with heap:=h9,toks:=tk}:=by
 have kp:∀b o,b≠X.env.locals→s.heap.get? b=some o→h9.get? b=some o:=fun b o hb q=>(sb9.2 b hb).trans q
 have nL:∀b o,X.s₀.heap.get? b=some o→b≠X.env.locals:=fun b o e=>Nat.ne_of_lt (Nat.lt_of_lt_of_le (Heap.lt_size e) I9.ok.above)
 refine ⟨I9.ok,I9.os,I9.bare,⟨fun b o e n hb hx=>kp b o (nL b o e) (I9.base.keep b o e n hb hx),fun b o e n hb hx=> ?_,I9.base.free,fun b o e hx=> ?_,I9.base.tups,I9.base.frzs,I9.base.tbls⟩,hloc,fun y c e=> ?_,I9.free,I9.freeC,fun p hp=> ?_,?_,by rw [hl];exact I9.len⟩
 · obtain ⟨sl,e1⟩:=I9.base.slot b o e n hb hx
   exact ⟨sl,kp b _ (nL b o e) e1⟩
 · obtain ⟨o',e1⟩:=I9.base.there b o e hx
   exact ⟨o',kp b o' (nL b o e) e1⟩
 · obtain ⟨w',z⟩:=I9.cell y c e
   exact ⟨w',z.sameBut sb9 (I9.cne y c e)⟩
 · obtain ⟨e,n1,n2,n3,n4⟩:=I9.pin p hp
   exact ⟨kp _ _ n2 e,n1,n2,n3,n4⟩
 · intro b ob' q
   have nb:b≠X.env.locals:=fun z=>by rw [z,I9.free] at q;cases q
   refine (I9.hok b ob' q).stay (fun c u hc r=>kp c u ?_ r) (fun _ r=>r) fun _ _ r=>r
   rcases hc with z|z
   · rw [z];exact nb
   · intro y
     rw [y,I9.free] at z
     cases z
end
section
variable {X:Cx} {body suite:List Stmt} {b0:Stmt} {tb:TSX} {ts:TS} {i:Nat} {n cx:Str} {np hpos pos:Pos} {W:Addr}
def tTryN (K:PySem.W.Frag) (W:Addr) (i:Nat) (tb:TSX) (ts:TS):TS:=fun D σ H=>tb D (fun cls _ H'=>∃C,cls= .ref C∧PySem.W.exmOne K (.ref C) (.ref W)=some true∧
 ∀a,H' a=none→ts {nx:=fun σ' H''=>D.nx (σ'.set i none) H'',rt:=D.rt} (σ.set i (some (.ref a))) (upd H' a (Cau C a))) σ H
theorem ps_tryN (hstk:X.stack=X.env::X.outer) (hfr:X.env.frame=some X.env.locals) (hN:X.N.Nodup) (hi:X.N[i]?=some n) (hn:X.env.scope.names.lookup n=some .local) (hg:Gl X cx) (hm:X.mg cx=some (.ref W))
 (hb:PSX X (CX1 X.prog X.w) body tb) (hs:∀a,PSs (X.caught a) (b0::suite) ts) (hd:(cx==("__debug__":Str))=false:=by decide):
 PS X (.Try body [.ExceptHandler (some (.Name cx np)) (some n) (b0::suite) hpos] [] [] pos) (tTryN X.K W i tb ts):=by
 intro pins s σ H D I h
 show wpAny _ _ (do standAt pos;tryStmt false (execs body X.env) [.ExceptHandler (some (.Name cx np)) (some n) (b0::suite) hpos] (execs [] X.env) [] X.env) _ _ s
 refine wpAny_bind (wpAny_standAt (wpAny_tryStmt_except (wpAny_mono (hb pins s σ H D _ I h) (fun f s1 q=> ?_) fun e s1 ⟨H0,s0,I0,cxq⟩=> ?_)))
 · cases f with
   |next=>exact wpAny_execs_nil q
   |brk=>exact q
   |cont=>exact q
   |ret v=>exact q
 · obtain ⟨a,C,a0,B,H',rfl,os,bare,nA,nH,okB,fl,kB,slB,frB,thB,tu,fz,tbb,C',eC,hx,hsu⟩:=cxq
   cases eC
   have fl':=fl
   rw [hstk] at fl'
   have inv:∀h6,Heap.FlyingW B X.stack a (.ref C) a0 h6→s1.heap.UpToSlots h6→Inv X pins σ (upd H' a (Cau C a)) {s1 with heap:=h6}:=fun h6 q1 q2=>I0.flown os bare nA nH okB kB slB frB thB tu fz tbb fl q1 q2
   refine wpAny_looks_onW (L:=X.env.locals) (by rw [I0.ok.frames,hstk]) hfr fl' fun h4 held4 sm4=> ?_
   refine wpAny_landsW held4 fun h5 fl5 sm5=> ?_
   have sm45:s1.heap.UpToSlots h5:=sm4.trans sm5
   have I5:=inv h5 (by rw [hstk];exact fl5) sm45
   refine wpAny_handleBy_cons (codeAny_handlers_test (ld_glob (X:=X.caught a) (I5.caught a) hg hm ?_ hd)) (by intro q;cases q)
   obtain ⟨ob,hob,hoc⟩:=fl5.there
   have LT:PySem.W.Looks (model X.prog X.w) h5 (typeOf (.ref a)) (.ref C):=by
    have:=((PySem.W.Looks.ld (M:=model X.prog X.w) (part:=some headPart) hob).andThen (f:=fun o=>pure o.cls) .now)
    rw [hoc] at this
    exact this
   refine (PySem.W.exm_one (K:=X.K) (h:=h5) I5.kIn LT hx).here (codeAny_handlers_suite_as ?_)
   refine PyProof.Rows.lands_againW fl5 fun h6 fl6 sm6=> ?_
   have I6:=inv h6 (by rw [hstk];exact fl6) (sm45.trans sm6)
   refine store_ok (X:=X.caught a) (v:= .ref a) (I6.caught a) hN hi (.inl hn) rfl (fun s7 I7=> ?_) (.inr hn)
   refine wpAny_noRaise (wpAny_mono (hs a pins s7 _ _ _ I7 (hsu a nH)) (fun fl s8 q8=> ?_) fun _ _ z=>z)
   cases fl with
   |next=>
    obtain ⟨σ8,H8,I8,z8⟩:=q8
    have I8':=I8.uncaught I.ok
    obtain ⟨m,hnm,hlm⟩:=id I8'.loc
    refine wpAny_nameGoes_keeps hn hnm (by rw [I.ok.kind];rfl) fun h9 v9 hn9 sb9=> ?_
    refine ⟨σ8.set i none,H8,I8'.goes sb9 (by simp) ⟨_,hn9,fun j y v' e1 e2 e3=> ?_⟩,z8⟩
    have hj:j≠i:=fun z=>by
     subst z
     rw [List.getElem?_set] at e2
     simp at e2
    rw [List.getElem?_set_ne (Ne.symm hj)] at e2
    obtain ⟨u,r,q⟩:=hlm j y v' e1 e2 e3
    refine ⟨u,r,?_⟩
    rcases q with ⟨k,e⟩|⟨k,c,e,z⟩
    · refine .inl ⟨k,?_⟩
      have ne:y≠n:=fun e=>hj (nodup_ix hN e1 (e▸hi))
      dsimp only
      rw [if_neg ne]
      exact e
    · exact .inr ⟨k,c,e,z.sameBut sb9 (I8'.cne y c e)⟩
   |brk=>obtain ⟨_,_,_,z⟩:=q8;exact z.elim
   |cont=>obtain ⟨_,_,_,z⟩:=q8;exact z.elim
   |ret u=>
    obtain ⟨v,σ8,H8,I8,r8,z8⟩:=q8
    have I8':=I8.uncaught I.ok
    obtain ⟨m,hnm,_⟩:=id I8'.loc
    refine wpAny_nameGoes hn hnm (by rw [I.ok.kind];rfl) fun h9 m9 hn9 sb9=> ?_
    refine ⟨v,σ8.map fun _=>none,H8,I8'.goes sb9 (by simp) ⟨m9,hn9,fun j y v' e1 e2 e3=> ?_⟩,r8,z8⟩
    rw [List.getElem?_map] at e2
    cases q:σ8[j]? with
    |none=>rw [q] at e2;cases e2
    |some y=>rw [q] at e2;cases e2
end
section
variable {X:Cx} {k:Nat} {f a:Addr} {fd:FuncData} {ps:List Str} {sp:Sp} {E:XK} {x:Str} {p pos:Pos} {e:Expr} {es:List Expr} {t:TA}
end
open PySem PySem.Spec PyProof.Rows
theorem pss_no {X:Cx} {b:List Stmt}:PSs X b (fun _ _ _=>False):=fun _ _ _ _ _ _ h=>h.elim
open PySem PySem.Spec PyProof.Rows
section
variable {X:Cx} {CX:CXT} {c:Expr} {a b:List Stmt} {tc:TT} {tA tB':TSX} {pos:Pos}
theorem psx_if (hxe:∀e s,X.xe e s→False) (hc:PT X c tc) (ha:PSX X CX a tA) (hb:PSX X CX b tB'):PSX X CX [.If c a b pos] (fun D E σ H=>tc σ H fun d H1=>if d=true then tA D E σ H1 else tB' D E σ H1):=by
 intro pins s σ H D E I h
 refine wpAny_execs_cons (wpAny_If (wpAny_mono (hc pins s σ H _ I h) (fun d s1 ⟨H1,I1,q1⟩=> ?_) fun _ _ z=>(hxe _ _ z).elim))
 have fin:∀ {B:List Stmt} {tX:TSX},PSX X CX B tX→tX D E σ H1→wpAny (model X.prog X.w) X.A (execs B X.env) (fun f s'=>match f with| .next=>wpAny (model X.prog X.w) X.A (execs [] X.env) (SP X pins D) (fun e s'=>∃H0 s0,Inv X pins σ H0 s0∧CX X.stack H0 s0 E e s') s'|f=>SP X pins D f s') (fun e s'=>∃H0 s0,Inv X pins σ H0 s0∧CX X.stack H0 s0 E e s') s1:=fun {B tX} hB q=>by
  refine wpAny_mono (hB pins s1 σ H1 D E I1 q) (fun f s2 q2=> ?_) fun _ _ z=>z
  cases f with
  |next=>exact wpAny_execs_nil q2
  |brk=>exact q2
  |cont=>exact q2
  |ret u=>exact q2
 cases d with
 |true=>exact fin ha q1
 |false=>exact fin hb q1
end
section
variable {X:Cx} {CX:CXT} {k:Nat} {f C:Addr} {fd:FuncData} {ps:List Str} {sp:Sp} {x m:Str} {p pos apos epos:Pos} {e o:Expr} {es:List Expr} {ta:TE} {t:TA}
theorem run_fnX {pins:List (Addr×Obj)} {σ:St} {H:Hp} {s:Shared} {Q:VK} {E:XK} {us:List Value} {vs:List V} (F:FnOk X.prog X.w X.K X.mg X.base CX k f fd ps sp) (hr:Room k X.A) (hb:Binds X.K fd ps [])
 (I:Inv X pins σ H s) (r:Vals vs us) (h:sp vs H Q E):wpAny (model X.prog X.w) X.A (call (.ref f) us) (EP X pins σ Q) (fun e s'=>∃H0 s0,Inv X pins σ H0 s0∧CX X.stack H0 s0 E e s') s:=by
 have hl:us.length=ps.length:=by
  have e:=r.length
  rw [F.len _ _ _ _ h] at e
  exact e.symm
 refine wpAny_call (codeAny_mono (F.run X.A X.stack s H ⟨us,[]⟩ us vs Q E hr I.env0 (by have:=hb s us I.kIn (by rw [List.append_nil];exact hl);rw [List.append_nil] at this;exact this) r h) fun r s' hq=> ?_)
 cases r with
 |error e=>exact ⟨H,s,I,hq⟩
 |ok fl=>
  cases fl with
  |ret u=>exact I.after hq
  |next=>exact False.elim hq
  |brk=>exact False.elim hq
  |cont=>exact False.elim hq
theorem psx_meth {pl:Sem Bool} (hxe:∀e s,X.xe e s→False) (he:PE X o ta) (c:Cls X.K C) (hm:Meth X.K C m f) (F:FnOk X.prog X.w X.K X.mg X.base CX k f fd ps sp) (hr:Room k X.A) (hb:Binds X.K fd ps []) (ha:PA X (e::es) t)
 (hst:starEach (e::es) X.env=(false,eval e X.env)::starEach es X.env:=by rfl) (hpl:(backTo pos (starEach es X.env)).any (·.1)=false:=by rfl)
 (ht:eval (.Call (.Attribute o m apos) (e::es) [] pos) X.env=(do
  let ov←eval o X.env
  standAt apos.atName
  let (f,first)←holding [ov] (getMethod ov m pl)
  callWith pos f first (backTo pos (starEach (e::es) X.env)) (backToKw pos (keywordEach [] X.env))):=by rfl)
 (hs:swapsWith (.Call (.Attribute o m apos) (e::es) [] pos) none epos.line X.env=pure false:=by rfl):
 PSX X CX [.Expr (.Call (.Attribute o m apos) (e::es) [] pos) epos] (fun D E σ H=>ta σ H fun x H1=>∃a dx fs,x= .ref a∧H1 a=some (.ins C dx fs)∧fs.lookup m=none∧t σ H1 fun vs H2=>sp (.ref a::vs) H2 (fun _ H3=>D.nx σ H3) E):=by
 intro pins s σ H D E I h
 refine wpAny_execs_cons (wpAny_Expr_any (PySem.W.methodCall_KW (pl:=pl) (wpAny_mono (he pins s σ H _ I h) (fun u s1 ⟨x,H1,I1,rx,a,dx,fs,ex,ea,l,q⟩=> ?_) fun _ _ z=>(hxe _ _ z).elim) ht) I.quiet hs)
 subst ex
 obtain rfl:u=Value.ref a:=rx
 refine getmeth_ok I1 ea c hm l ?_
 refine PySem.W.callWith_K (first:= [.ref a]) (h₀:=X.base) I.ok.mod.kin hm.kp (wpAny_mono (ha pos pins s1 σ H1 _ I1 q) (fun us s2 ⟨vs,H2,I2,r,q2⟩=>⟨I2.kIn,?_⟩) fun _ _ z=>(hxe _ _ z).elim) hst hpl
 refine wpAny_mono (run_fnX (us:= .ref a::us) (vs:= .ref a::vs) F hr hb I2 (.cons rfl r) q2) (fun u s3 ⟨v,H3,I3,rv,q3⟩=> ?_) fun _ _ z=>z
 exact wpAny_execs_nil ⟨σ,H3,I3,q3⟩
theorem psx_meth0 {pl:Sem Bool} (hxe:∀e s,X.xe e s→False) (he:PE X o ta) (c:Cls X.K C) (hm:Meth X.K C m f) (F:FnOk X.prog X.w X.K X.mg X.base CX k f fd ps sp) (hr:Room k X.A) (hb:Binds X.K fd ps [])
 (ht:eval (.Call (.Attribute o m apos) [] [] pos) X.env=(do
  let ov←eval o X.env
  standAt apos.atName
  let (f,first)←holding [ov] (getMethod ov m pl)
  callWith pos f first (backTo pos (starEach [] X.env)) (backToKw pos (keywordEach [] X.env))):=by rfl)
 (hs:swapsWith (.Call (.Attribute o m apos) [] [] pos) none epos.line X.env=pure false:=by rfl):
 PSX X CX [.Expr (.Call (.Attribute o m apos) [] [] pos) epos] (fun D E σ H=>ta σ H fun x H1=>∃a dx fs,x= .ref a∧H1 a=some (.ins C dx fs)∧fs.lookup m=none∧sp [.ref a] H1 (fun _ H3=>D.nx σ H3) E):=by
 intro pins s σ H D E I h
 refine wpAny_execs_cons (wpAny_Expr_any (PySem.W.methodCall_KW (pl:=pl) (wpAny_mono (he pins s σ H _ I h) (fun u s1 ⟨x,H1,I1,rx,a,dx,fs,ex,ea,l,q⟩=> ?_) fun _ _ z=>(hxe _ _ z).elim) ht) I.quiet hs)
 subst ex
 obtain rfl:u=Value.ref a:=rx
 refine getmeth_ok I1 ea c hm l ?_
 refine PySem.W.callWith_K0 (first:= [.ref a]) I1.kIn hm.kp ?_
 refine wpAny_mono (run_fnX (us:= [.ref a]) (vs:= [.ref a]) F hr hb I1 (.cons rfl .nil) q) (fun u s3 ⟨v,H3,I3,rv,q3⟩=> ?_) fun _ _ z=>z
 exact wpAny_execs_nil ⟨σ,H3,I3,q3⟩
end
open PySem PySem.Spec PyProof.Rows
theorem keep_take {f:Value×Nat→Option Value} {n m:Nat} (hf:∀x k,k < m→f (x,k)=if k < n then some x else none):∀(xs:List Value) (k:Nat),k+xs.length≤m→(xs.zipIdx k).filterMap f=xs.take (n - k)
 | [],k,_=>by simp
 |x::xs,k,hm=>by
  rw [List.length_cons] at hm
  rw [List.zipIdx_cons,List.filterMap_cons,hf x k (by omega),keep_take hf xs (k+1) (by omega)]
  by_cases h:k < n
  · rw [if_pos h,show n - k=(n - (k+1))+1 by omega]
    rfl
  · rw [if_neg h,show n - k=0 by omega,show n - (k+1)=0 by omega]
    rfl
section
variable {prog:Program} {w:World} {A:Around} {E:Value→Shared→Prop} {s:Shared}
theorem delItem_tail {l sl:Addr} {its:List Value} {m n:Nat} {vl:Value} {Q:Unit→Shared→Prop} (hl:s.heap.get? l=some {cls:= .type "list",dict:=none,data:= .seq its.toArray m,slots:= #[]})
 (hs:s.heap.IsSliceOf sl vl .none .none) (pl:IsPart vl (some (n:Int))) (hn:n≤its.length) (hsz:its.length≤sizeLine)
 (h:∀f:Array Value→Array Value,f its.toArray=(its.take n).toArray→Q () {s with heap:=s.heap.update l (Obj.mapSeq f)}):wpAny (model prog w) A (delItem (.ref l) (.ref sl)) Q E s:=by
 obtain ⟨os,hos,hcs,hds⟩:=id hs
 have hTs:s.TypeIs (.ref sl) "slice":=⟨os,hos,hcs⟩
 have hTl:s.TypeIs (.ref l) "list":=⟨_,hl,rfl⟩
 refine wpAny_delItem_slot hTl (by decide) F.slot_list_delitem ?_
 refine wpAny_call_entry F.slot_list_delitem hTl F.entry_list_delitem ?_ (F.args_list_delitem_2 _ _)
 show wpAny _ _ (Builtin.List.listSubscript? (.ref sl) >>=_) _ _ s
 refine wpAny_bind ?_
 unfold Builtin.List.listSubscript?
 refine wpAny_bind (wpAny_specialOf hTs slice_no_index ?_)
 simp only [Option.isNone_none,if_true]
 refine wpAny_pure ?_
 show wpAny _ _ (typeOf (.ref sl) >>=_) _ _ s
 refine wpAny_bind (wpAny_typeOf hTs ?_)
 rw [if_neg (by decide)]
 rw [listSliceParts_eq]
 have hstep:¬((rawPart none==rawInt 0)=true):=Bool.false_ne_true
 refine wpAny_bind (wpAny_bind (wpAny_field hos hds (x:= .none) rfl (wpAny_bind (wpAny_listPart .none ?_))))
 rw [if_neg hstep]
 refine wpAny_bind (wpAny_field hos hds (x:=vl) rfl (wpAny_bind (wpAny_listPart pl ?_)))
 refine wpAny_bind (wpAny_field hos hds (x:= .none) rfl (wpAny_bind (wpAny_listPart .none (wpAny_pure ?_))))
 refine wpAny_bind (m:=Builtin.List.listItems (.ref l)) ?_
 unfold Builtin.List.listItems
 refine wpAny_bind (wpAny_seqItems hl rfl (wpAny_pure ?_))
 refine wpAny_bind (wpAny_of_eq (sliceIndices_raw (some (n:Int)) none none its.toArray.size (by simp)) ?_)
 have eb:sliceBounds (some (n:Int)) none none its.toArray.size=((n:Int),(its.length:Int),1):=by
  unfold sliceBounds
  simp only [Option.getD_none,List.size_toArray,show¬((n:Int) < 0) by omega,if_false,show (1:Int) > 0 by decide,if_true]
  rw [Int.min_eq_left (by omega),Int.max_eq_right (by omega)]
 rw [eb]
 dsimp only
 refine wpAny_bind (wpAny_rule ?_)
 refine wpAny_bind ?_
 have e1:∀x k,k < its.length→(if (if (1:Int) > 0 then decide ((n:Int)≤((k:Nat):Int))&&decide (((k:Nat):Int) < (its.length:Int))&& ((((k:Nat):Int) - (n:Int))%1==0) else decide ((its.length:Int) < ((k:Nat):Int))&&decide (((k:Nat):Int)≤(n:Int))&& (((n:Int) - ((k:Nat):Int))%(-1)==0))=true then none else some x)=if k < n then some (x:Value) else none:=fun x k hk=>by
  rw [if_pos (show (1:Int) > 0 by decide)]
  by_cases h:k < n
  · rw [if_pos h,decide_eq_false (show¬(n:Int)≤((k:Nat):Int) by omega)]
    rfl
  · rw [if_neg h,decide_eq_true (show (n:Int)≤((k:Nat):Int) by omega),decide_eq_true (show ((k:Nat):Int) < (its.length:Int) by omega),Int.emod_one]
    rfl
 refine wpAny_updateSeq hl rfl ?_ (by rw [List.size_toArray];exact hsz) (by
  rw [List.size_toArray]
  refine Nat.le_trans (List.length_filterMap_le _ _) ?_
  rw [List.length_zipIdx]
  exact Nat.le_succ_of_le hsz)
 refine wpAny_bind (wpAny_letGo (wpAny_pure ⟨_,rfl,h _ ?_⟩))
 have kt:=fun f hf=>keep_take (f:=f) (n:=n) (m:=its.length) hf its 0 (by omega)
 rw [Nat.sub_zero] at kt
 exact congrArg List.toArray (kt _ e1)
end
section
variable {X:Cx} {o:Expr} {lo:Expr} {p2 tpos pos:Pos} {ta tl:TE}
def sDelT (ta tl:TE):TS:=fun D σ H=>ta σ H fun x H1=>tl σ H1 fun y H2=>∃(l:Addr) (xs:List V) (n:Nat),x= .ref l∧y= .int (n:Int)∧H2 l=some (.lst xs)∧n≤xs.length∧D.nx σ (upd H2 l (.lst (xs.take n)))
theorem ps_delT (ho:PE X o ta) (hl:PE X lo tl):PS X (.Delete [.Subscript o (.Slice (some lo) none none p2) tpos] pos) (sDelT ta tl):=by
 intro pins s σ H D I h
 refine wpAny_Delete (wpAny_deleteEach_cons (wpAny_delete_Subscript (thn (ho pins s σ H _ I h) fun u s1 ⟨x,H1,I1,rx,q1⟩=> ?_)))
 refine wpAny_Slice ?_
 rw [evalPart_some]
 refine thn (hl pins s1 σ H1 _ I1 q1) fun vl s2 ⟨y,H2,I2,ry,l,xs,n,ex,ey,hH,hn,q2⟩=> ?_
 subst ex ey
 cases rx
 obtain ⟨t,rfl⟩:=ry
 rw [evalPart_none]
 refine wpAny_pure ?_
 refine wpAny_pure ?_
 have I4:Inv X pins σ H2 {s2 with heap:=s2.heap.push {cls:= .type "slice",data:= .fields #[.int (n:Int) t, .none, .none]}}:=I2.kept (t':=s2.toks) fun b ob q=>Heap.get?_push_of_some _ q
 obtain ⟨z,its,m,r,hlen,e⟩:=I4.lstM hH
 refine delItem_tail (its:=its) e (Heap.IsSliceOf.new ..) (.int _ t) (by omega) (by omega) fun f hf=> ?_
 refine wpAny_deleteEach_nil ⟨σ,_,I4.lset (t':=s2.toks) (its':=its.take n) hH e hf (r.take n) ?_,q2⟩
 rw [List.length_take]
 omega
end
end L2
namespace K81
open PySem L2 Mth EqD Tre Wd Su
structure Bc (K:PySem.W.Frag) (C:Addr):Prop where
 cls:Cls K C
 nk:NoAttr K C "kept"
 nc:NoAttr K C "counts"
abbrev bfs (kl cl:Addr):List (Str×V):= [(Str.ofString "kept", .ref kl),(Str.ofString "counts", .ref cl)]
theorem putB (y x:V):putF (Str.ofString "counts") y [(Str.ofString "kept",x)]= [(Str.ofString "kept",x),(Str.ofString "counts",y)]:=by
 unfold putF
 rw [if_neg (by decide +kernel)]
 rfl
theorem lk_c {kl cl:Addr}:(bfs kl cl).lookup (Str.ofString "counts")=some (.ref cl):=by
 unfold bfs
 rw [List.lookup_cons,show ((Str.ofString "counts"==Str.ofString "kept")=false) by decide +kernel]
 rfl
theorem lk_k {kl cl:Addr}:(bfs kl cl).lookup (Str.ofString "kept")=some (.ref kl):=by
 unfold bfs
 rw [List.lookup_cons,show ((Str.ofString "kept"==Str.ofString "kept")=true) by decide +kernel]
section
variable {P:Program} {w:World} {K:PySem.W.Frag} {mg:Str→Option Value} {base:Heap}
def spBi (C:Addr):Sp:=fun vs H Q _=>∃(x dx:Addr),vs= [.ref x]∧H x=some (.ins C dx [])∧∀(kl cl:Addr) (H':Hp),kl≠cl→kl≠x→cl≠x→H kl=none→H cl=none→H' x=some (.ins C dx (bfs kl cl))→H' kl=some (.lst [])→H' cl=some (.lst [])→(∀y o,y≠x→H y=some o→H' y=some o)→Q .non H'
theorem scBi:FnScope ["self"] ["self"] (defScope sBinit):=⟨rfl,rfl,rfl,by decide +kernel,rfl,by decide +kernel,by decide +kernel⟩
theorem ok_bi {f C:Addr} {fd:FuncData} (F:Fun K "__init__" "Bench.__init__" sBinit f fd) (hC:Bc K C):FnOk P w K mg base CX0 1 f fd ["self"] (spBi C):=by
 refine F.ok scBi (fun vs H Q E h=> ?_) (fun cdv A outer s H vs Q E hr h=> ?_)
 · obtain ⟨x,dx,rfl,_⟩:=h
   rfl
 obtain ⟨x,dx,rfl,hx,k⟩:=h
 refine ⟨_,pss_cons (ps_fld (pv 0) (pe_lst pa_nil) rfl) (pss_one (ps_fld (pv 0) (pe_lst pa_nil) rfl)),?_⟩
 refine ⟨by show 0≤sizeLine;decide,fun kl nkl=> ?_⟩
 have n1:kl≠x:=fun z=>by rw [z,hx] at nkl;cases nkl
 refine ⟨_,rfl,x,C,dx,[],rfl,(upd_ne n1.symm).trans hx,hC.cls,hC.nk,by decide,?_⟩
 rw [show putF (Str.ofString "kept") (V.ref kl) []= [(Str.ofString "kept",V.ref kl)] from rfl]
 refine ⟨by show 0≤sizeLine;decide,fun cl ncl=> ?_⟩
 have n2:cl≠x:=fun z=>by rw [z,upd_same] at ncl;cases ncl
 have n3:kl≠cl:=fun z=>by rw [←z,upd_ne n1,upd_same] at ncl;cases ncl
 have ncl0:H cl=none:=by rw [upd_ne n2,upd_ne n3.symm] at ncl;exact ncl
 refine ⟨_,rfl,x,C,dx,_,rfl,(upd_ne n2.symm).trans upd_same,hC.cls,hC.nc,by show 1 < 1000;decide,?_⟩
 rw [putB]
 refine k kl cl _ n3 n1 n2 nkl ncl0 upd_same ?_ ?_ fun y o ny e=> ?_
 · rw [upd_ne n1,upd_ne n3,upd_ne n1]
   exact upd_same
 · rw [upd_ne n2]
   exact upd_same
 · rw [upd_ne ny,upd_ne (fun z=>by rw [z,ncl0] at e;cases e),upd_ne ny,upd_ne (fun z=>by rw [z,nkl] at e;cases e)]
   exact e
def spBp (C CW:Addr):Sp:=fun vs H Q E=>∃(b dx kl cl:Addr) (xs:List V) (v:V) (p:Pl),vs= [.ref b,v]∧H b=some (.ins C dx (bfs kl cl))∧H kl=some (.lst xs)∧xs.length < 1000∧PlAt H v p∧Ok p∧pdep p < 13∧
 (wsB 13 p=false→∀H',Same H H'→E (.ref CW) none H')∧(wsB 13 p=true→∀H',Same H H'→Q (.int (xs.length:Int)) (upd H' kl (.lst (xs++ [v]))))
theorem scBp:FnScope ["self","wish"] ["self","wish"] (defScope sBput):=⟨rfl,rfl,rfl,by decide +kernel,rfl,by decide +kernel,by decide +kernel⟩
theorem ok_bp {f C CW fI fW:Addr} {fd fdI dW:FuncData} (F:Fun K "put" "Bench.put" sBput f fd) (hC:Bc K C) (B:Blt mg)
 (FI:Fun K "__init__" "WishError.__init__" sInit fI fdI) (bI:Binds K fdI ["self","words"] []) (mX:mg "NoWish"=some (.ref CW)) (XC:XCls K CW fI)
 (gW:FnOk P w K mg base CX0 42 fW dW ["thing"] (spWq 13)) (kW:PySem.W.keepIn K (.ref fW)=true) (bW:Binds K dW ["thing"] []) (mW:mg "is_wish"=some (.ref fW)):FnOk P w K mg base (CX1 P w) 43 f fd ["self","wish"] (spBp C CW):=by
 have GI:FnOk P w K mg base CX0 1 fI fdI ["self","words"] (spInit K):=ok_init FI B
 refine F.okX scBp (fun vs H Q E h=> ?_) (fun cdv A outer s H vs Q E hr h=> ?_)
 · obtain ⟨b,dx,kl,cl,xs,v,p,rfl,_⟩:=h
   rfl
 obtain ⟨b,dx,kl,cl,xs,v,p,rfl,hb,hk,hl,hv,ok,hd,kE,kQ⟩:=h
 have hr2:Room 2 _:=hr.mono (by decide)
 refine ⟨_,pss_cons (ps_if (pt_not (pt_val (pe_call gW hr rfl mW kW bW .nil pass0 (pa_cons (pv 1) pa_nil)))) (pss_one (ps_raise rfl XC (pe_makeX XC GI hr2 rfl mX bI pass0 (pa_cons pe_str pa_nil) (by decide) (hlen:=fun vs H Q E ⟨_,_,_,_,e,_⟩=>by rw [e];show 2≤1000;decide)) throws_cx)) pss_nil)
  (pss_cons (ps_expr (pe_bm PySem.F.plainAttrs_list PySem.F.slot_list_append PySem.F.type_list_append mt_append (pe_fld (pv 0) rfl) (pa_cons (pv 1) pa_nil)))
  (pss_one (ps_ret (pe_op op_sub (pe_callB call_len_seq rfl B.le PySem.boot_len (pa_cons (pe_fld (pv 0) rfl) pa_nil)) pe_int)))),?_⟩
 have hL20:(20000:Nat)≤sizeLine:=by decide +kernel
 refine ⟨_,rfl,v,p,rfl,hv,ok,hd,fun H1 s1=>⟨_,rfl,?_⟩⟩
 cases e:wsB 13 p with
 |false=>
  refine iteT ?_
  refine fun x nx' ns=>⟨x,CW,fI,_,rfl,upd_same,XC,rfl,x,rfl,upd_same,ns,?_⟩
  rw [unt_upd nx']
  exact kE e H1 s1
 |true=>
  have hb1:=s1 _ _ hb
  have hk1:=s1 _ _ hk
  refine iteF ?_
  refine ⟨_,rfl,b,C,dx,_,_,rfl,hb1,hC.cls,hC.nk,lk_k, .inl ⟨rfl,_,SqL.of hk1⟩,_,rfl,kl,xs,v,rfl,rfl,hk1,by omega,?_⟩
  have nb:b≠kl:=fun z=>by rw [z,hk1] at hb1;cases hb1
  refine ⟨_,rfl,b,C,dx,_,_,rfl,(upd_ne nb).trans hb1,hC.cls,hC.nk,lk_k,kl,_,rfl, .inl (SqL.of upd_same),_,_,rfl,rfl,?_⟩
  have:=kQ e H1 s1
  show Q (.int ((((xs++ [v]).length:Nat):Int) - 1)) _
  rw [show (((xs++ [v]).length:Nat):Int) - 1=(xs.length:Int) by rw [List.length_append,List.length_singleton];omega]
  exact this
def spBu (C:Addr):Sp:=fun vs H Q _=>∃(b dx kl cl:Addr) (xs cs:List V),vs= [.ref b]∧H b=some (.ins C dx (bfs kl cl))∧H kl=some (.lst xs)∧H cl=some (.lst cs)∧kl≠cl∧cs.length < 1000∧Q (.int (cs.length+1)) (upd H cl (.lst (cs++ [.int (xs.length:Int)])))
theorem scBu:FnScope ["self"] ["self"] (defScope sBpush):=⟨rfl,rfl,rfl,by decide +kernel,rfl,by decide +kernel,by decide +kernel⟩
theorem ok_bu {f C:Addr} {fd:FuncData} (F:Fun K "push" "Bench.push" sBpush f fd) (hC:Bc K C) (B:Blt mg):FnOk P w K mg base CX0 1 f fd ["self"] (spBu C):=by
 refine F.ok scBu (fun vs H Q E h=> ?_) (fun cdv A outer s H vs Q E hr h=> ?_)
 · obtain ⟨b,dx,kl,cl,xs,cs,rfl,_⟩:=h
   rfl
 obtain ⟨b,dx,kl,cl,xs,cs,rfl,hb,hk,hc,nkc,hl,kQ⟩:=h
 refine ⟨_,pss_cons (ps_expr (pe_bm PySem.F.plainAttrs_list PySem.F.slot_list_append PySem.F.type_list_append mt_append (pe_fld (pv 0) rfl) (pa_cons (pe_callB call_len_seq rfl B.le PySem.boot_len (pa_cons (pe_fld (pv 0) rfl) pa_nil)) pa_nil)))
  (pss_one (ps_ret (pe_callB call_len_seq rfl B.le PySem.boot_len (pa_cons (pe_fld (pv 0) rfl) pa_nil)))),?_⟩
 have hL20:(20000:Nat)≤sizeLine:=by decide +kernel
 have nb:b≠cl:=fun z=>by rw [z,hc] at hb;cases hb
 refine ⟨_,rfl,b,C,dx,_,_,rfl,hb,hC.cls,hC.nc,lk_c, .inl ⟨rfl,_,SqL.of hc⟩,_,rfl,b,C,dx,_,_,rfl,hb,hC.cls,hC.nk,lk_k,kl,_,rfl, .inl (SqL.of hk),cl,cs,_,rfl,rfl,hc,by omega,?_⟩
 refine ⟨_,rfl,b,C,dx,_,_,rfl,(upd_ne nb).trans hb,hC.cls,hC.nc,lk_c,cl,_,rfl, .inl (SqL.of upd_same),?_⟩
 rw [show (((cs++ [V.int (xs.length:Int)]).length:Nat):Int)=(cs.length:Int)+1 by rw [List.length_append,List.length_singleton];omega]
 exact kQ
def spBl (C:Addr):Sp:=fun vs H Q _=>∃(b dx kl cl:Addr) (cs:List V),vs= [.ref b]∧H b=some (.ins C dx (bfs kl cl))∧H cl=some (.lst cs)∧Q (.int (cs.length:Int)) H
theorem scBl:FnScope ["self"] ["self"] (defScope sBlevel):=⟨rfl,rfl,rfl,by decide +kernel,rfl,by decide +kernel,by decide +kernel⟩
theorem ok_bl {f C:Addr} {fd:FuncData} (F:Fun K "level" "Bench.level" sBlevel f fd) (hC:Bc K C) (B:Blt mg):FnOk P w K mg base CX0 1 f fd ["self"] (spBl C):=by
 refine F.ok scBl (fun vs H Q E h=> ?_) (fun cdv A outer s H vs Q E hr h=> ?_)
 · obtain ⟨b,dx,kl,cl,cs,rfl,_⟩:=h
   rfl
 obtain ⟨b,dx,kl,cl,cs,rfl,hb,hc,kQ⟩:=h
 refine ⟨_,pss_one (ps_ret (pe_callB call_len_seq rfl B.le PySem.boot_len (pa_cons (pe_fld (pv 0) rfl) pa_nil))),?_⟩
 exact ⟨_,rfl,b,C,dx,_,_,rfl,hb,hC.cls,hC.nc,lk_c,cl,_,rfl, .inl (SqL.of hc),kQ⟩
def spBw (C:Addr):Sp:=fun vs H Q _=>∃(b dx kl cl:Addr) (xs:List V),vs= [.ref b]∧H b=some (.ins C dx (bfs kl cl))∧H kl=some (.lst xs)∧∀r,H r=none→Q (.ref r) (upd H r (.lst xs))
theorem scBw:FnScope ["self"] ["self"] (defScope sBwishes):=⟨rfl,rfl,rfl,by decide +kernel,rfl,by decide +kernel,by decide +kernel⟩
theorem ok_bw {f C:Addr} {fd:FuncData} (F:Fun K "wishes" "Bench.wishes" sBwishes f fd) (hC:Bc K C) (B:Blt mg):FnOk P w K mg base CX0 1 f fd ["self"] (spBw C):=by
 refine F.ok scBw (fun vs H Q E h=> ?_) (fun cdv A outer s H vs Q E hr h=> ?_)
 · obtain ⟨b,dx,kl,cl,xs,rfl,_⟩:=h
   rfl
 obtain ⟨b,dx,kl,cl,xs,rfl,hb,hk,kQ⟩:=h
 refine ⟨_,pss_one (ps_ret (pe_callTy call_list_of rfl B.li PyProof.Rows.boot_list (pa_cons (pe_fld (pv 0) rfl) pa_nil))),?_⟩
 exact ⟨_,rfl,b,C,dx,_,_,rfl,hb,hC.cls,hC.nk,lk_k,kl,_,rfl, .inl (SqL.of hk),kQ⟩
def spBo (C CL:Addr):Sp:=fun vs H Q E=>∃(b dx kl cl:Addr) (xs cs:List V),vs= [.ref b]∧H b=some (.ins C dx (bfs kl cl))∧H kl=some (.lst xs)∧H cl=some (.lst cs)∧kl≠cl∧(cs= []→E (.ref CL) none H)∧
 (cs≠ []→∃(ds:List V) (n:Nat),cs=ds++ [.int (n:Int)]∧n≤xs.length∧Q (.int (ds.length:Int)) (upd (upd H cl (.lst ds)) kl (.lst (xs.take n))))
theorem scBo:FnScope ["self","count"] ["self"] (defScope sBpop):=⟨rfl,rfl,rfl,by decide +kernel,rfl,by decide +kernel,by decide +kernel⟩
theorem ok_bo {f C CL fI:Addr} {fd fdI:FuncData} (F:Fun K "pop" "Bench.pop" sBpop f fd) (hC:Bc K C) (B:Blt mg)
 (FI:Fun K "__init__" "WishError.__init__" sInit fI fdI) (bI:Binds K fdI ["self","words"] []) (mX:mg "NoLevel"=some (.ref CL)) (XC:XCls K CL fI):FnOk P w K mg base (CX1 P w) 3 f fd ["self"] (spBo C CL):=by
 have GI:FnOk P w K mg base CX0 1 fI fdI ["self","words"] (spInit K):=ok_init FI B
 refine F.okX scBo (fun vs H Q E h=> ?_) (fun cdv A outer s H vs Q E hr h=> ?_)
 · obtain ⟨b,dx,kl,cl,xs,cs,rfl,_⟩:=h
   rfl
 obtain ⟨b,dx,kl,cl,xs,cs,rfl,hb,hk,hc,nkc,kE,kQ⟩:=h
 refine ⟨_,pss_cons (ps_if (pt_not (pt_truth (pe_fld (pv 0) rfl) (by intro _;rfl))) (pss_one (ps_raise rfl XC (pe_makeX XC GI hr rfl mX bI pass0 (pa_cons pe_str pa_nil) (by decide) (hlen:=fun vs H Q E ⟨_,_,_,_,e,_⟩=>by rw [e];show 2≤1000;decide)) throws_cx)) pss_nil)
  (pss_cons (ps_set (i:=1) scBo.nd rfl (Or.inl rfl) (pe_bm0 PySem.F.plainAttrs_list PySem.F.slot_list_pop PySem.F.type_list_pop mt_pop (pe_fld (pv 0) rfl)))
  (pss_cons (ps_delT (pe_fld (pv 0) rfl) (pv 1))
  (pss_one (ps_ret (pe_callB call_len_seq rfl B.le PySem.boot_len (pa_cons (pe_fld (pv 0) rfl) pa_nil)))))),?_⟩
 refine ⟨_,rfl,b,C,dx,_,_,rfl,hb,hC.cls,hC.nc,lk_c,!cs.isEmpty, .inl ⟨cs,SqL.of hc,rfl⟩,?_⟩
 by_cases z:cs= []
 · subst z
   refine iteT ?_
   refine fun x nx' ns=>⟨x,CL,fI,_,rfl,upd_same,XC,rfl,x,rfl,upd_same,ns,?_⟩
   rw [unt_upd nx']
   exact kE rfl
 · obtain ⟨ds,n,rfl,hn,q⟩:=kQ z
   have nbc:b≠cl:=fun z=>by rw [z,hc] at hb;cases hb
   have nbk:b≠kl:=fun z=>by rw [z,hk] at hb;cases hb
   refine if_f (by simp) ?_
   refine ⟨_,rfl,b,C,dx,_,_,rfl,hb,hC.cls,hC.nc,lk_c, .inl ⟨rfl,_,SqL.of hc⟩,cl,_, .int (n:Int),rfl,rfl,hc,by simp,?_⟩
   rw [List.dropLast_concat]
   refine ⟨_,rfl,b,C,dx,_,_,rfl,(upd_ne nbc).trans hb,hC.cls,hC.nk,lk_k,_,rfl,kl,xs,n,rfl,rfl,(upd_ne nkc).trans hk,hn,?_⟩
   refine ⟨_,rfl,b,C,dx,_,_,rfl,(upd_ne nbk).trans ((upd_ne nbc).trans hb),hC.cls,hC.nc,lk_c,cl,ds,rfl, .inl (SqL.of ((upd_ne nkc.symm).trans upd_same)),q⟩
end
open PySem L2 Mth Tre Wd Su Tw EqD
mutual
theorem tr_pl:∀t:Tr,toTr (toPl t)=t
 | .tup ts=>by rw [toPl,toTr,trs_pl ts]
 | .non=>by rw [toPl,toTr]
 | .bl _=>by rw [toPl,toTr]
 | .int _=>by rw [toPl,toTr]
 | .str _=>by rw [toPl,toTr]
 | .ls=>by rw [toPl,toTr]
theorem trs_pl:∀ts:List Tr,toTrs (toPls ts)=ts
 | []=>by rw [toPls,toTrs]
 |t::ts=>by rw [toPls,toTrs,tr_pl t,trs_pl ts]
end
theorem ws2 (n:Nat) (a b:Pl):wsB (n+1) (.tup [a,b])=if isS "not" a=true then wsB n b else if (isS "both" a ||isS "either" a)=true then isTup b&& (isT b).all (wsB n) else atB (.tup [a,b]):=by
 rw [wsB,if_pos (show toB 2 (.tup [a,b])=true by simp [toB])]
 rfl
theorem ws3 (n:Nat) (a b c:Pl):wsB (n+1) (.tup [a,b,c])=atB (.tup [a,b,c]):=by
 rw [wsB,if_neg (by simp [toB])]
theorem fr_ok {f:Fr} (h:Fz f):frB (toPl (frT f))=true:=by
 unfold frT
 simp only [toPl,toPls]
 show (decide (1≤f.2)&&decide (Int.gcd f.1 f.2=1))=true
 rw [decide_eq_true h.b1,decide_eq_true h.gc]
 rfl
theorem gf_big {n:Nat} {f:Fr} (h:Gf n f) (hn:n≤8000):Big f.1∧Big f.2:=by
 obtain ⟨_,h1,h2⟩:=h
 have:2^n≤2^8000:=Nat.pow_le_pow_right (by decide) hn
 exact ⟨Nat.lt_of_lt_of_le h1 this,Nat.lt_of_lt_of_le h2 this⟩
theorem ok_fr' {n:Nat} {f:Fr} (h:Gf n f) (hn:n≤8000):Ok (toPl (frT f)):=by
 unfold frT
 simp only [toPl,toPls]
 refine okT (by simp) fun t m=> ?_
 simp only [List.mem_cons,List.not_mem_nil,or_false] at m
 rcases m with rfl|rfl
 · unfold Ok;exact (gf_big h hn).1
 · unfold Ok;exact (gf_big h hn).2
theorem pr_ok {q:Pq} (h:Tz 2 q.1∧Gf 200 q.2∧Fz q.2∧q.2.1≠0):prB (toPl (prT q))=true∧Ok (toPl (prT q)):=by
 obtain ⟨h1,h2,h3,h4⟩:=h
 have hz:zB (toPl (frT q.2))=false:=by
  unfold frT
  simp only [toPl,toPls]
  exact decide_eq_false fun z=>h4 z.1
 unfold prT
 simp only [toPl,toPls]
 refine ⟨?_,okT (by simp) fun t m=> ?_⟩
 · show (tmB 12 (toPl q.1)&& (frB (toPl (frT q.2))&& !zB (toPl (frT q.2))))=true
   rw [h1.tb 12 (by have:=h1.dep;omega),fr_ok h3,hz]
   rfl
 · simp only [List.mem_cons,List.not_mem_nil,or_false] at m
   rcases m with rfl|rfl
   · exact h1.pl
   · exact ok_fr' h2 (by decide)
theorem sm_ok {ps:List Pq} (hl:ps.length≤3) (ha:Asc ps) (h:∀q∈ps,Tz 2 q.1∧Gf 200 q.2∧Fz q.2∧q.2.1≠0):smB (toPl (.tup (ps.map prT)))=true∧Ok (toPl (.tup (ps.map prT))):=by
 rw [toPl,toPls_map,List.map_map]
 refine ⟨?_,okT (by rw [List.length_map];omega) fun t m=> ?_⟩
 · show ((ps.map (toPl ∘ prT)).all prB&&ascB (ps.map (toPl ∘ prT)))=true
   rw [Bool.and_eq_true]
   refine ⟨List.all_eq_true.mpr fun t m=> ?_,List.all_eq_true.mpr fun x m=> ?_⟩
   · obtain ⟨q,mq,rfl⟩:=List.mem_map.mp m
     exact (pr_ok (h q mq)).1
   · obtain ⟨i,hi,e⟩:=List.getElem_of_mem m
     have e':((ps.map (toPl ∘ prT)).zip ((ps.map (toPl ∘ prT)).drop 1))[i]?=some x:=by rw [List.getElem?_eq_getElem hi,e]
     rw [List.getElem?_zip_eq_some] at e'
     obtain ⟨e1,e2⟩:=e'
     rw [List.getElem?_drop,List.getElem?_map] at e2
     rw [List.getElem?_map] at e1
     obtain ⟨p,ep,x1⟩:=Option.map_eq_some_iff.mp e1
     obtain ⟨q,eq,x2⟩:=Option.map_eq_some_iff.mp e2
     obtain ⟨i1,p1⟩:=List.getElem?_eq_some_iff.mp ep
     obtain ⟨i2,q1⟩:=List.getElem?_eq_some_iff.mp eq
     have:=List.pairwise_iff_getElem.mp ha i (1+i) i1 i2 (by omega)
     rw [p1,q1] at this
     have fst:∀q:Pq,toTr (fstP ((toPl ∘ prT) q))=q.1:=fun q=>by
      show toTr (fstP (toPl (.tup [q.1,frT q.2])))=q.1
      simp only [toPl,toPls,fstP]
      exact tr_pl q.1
     rw [←x1,←x2,fst,fst]
     exact this
 · obtain ⟨q,mq,rfl⟩:=List.mem_map.mp m
   exact (pr_ok (h q mq)).2
theorem ok_tag {k:Str} {b:Pl} (hk:k.length≤8) (hb:Ok b):Ok (.tup [.str k,b]):=okT (by simp) fun t m=>by
 simp only [List.mem_cons,List.not_mem_nil,or_false] at m
 rcases m with rfl|rfl
 · exact okS hk
 · exact hb
theorem ok_tag3 {k:Str} {b c:Pl} (hk:k.length≤8) (hb:Ok b) (hc:Ok c):Ok (.tup [.str k,b,c]):=okT (by simp) fun t m=>by
 simp only [List.mem_cons,List.not_mem_nil,or_false] at m
 rcases m with rfl|rfl|rfl
 · exact okS hk
 · exact hb
 · exact hc
theorem gz_ws {n:Nat} {t:Tr} (h:Gz n t):Ok (toPl t)∧t.depth≤2*n+8∧t.pure∧∀k,t.depth < k→wsB k (toPl t)=true:=by
 induction h with
 |fl n x hx=>
  refine ⟨?_,by simp only [Tr.depth,Trs.depth];omega,by simp [Tr.pure,Trs.pure],fun k hk=> ?_⟩
  · simp only [toPl,toPls]
    exact ok_tag (by decide +kernel) (okS hx.le)
  · cases k with
    |zero=>omega
    |succ k=>
     simp only [toPl,toPls]
     rw [ws2,if_neg (by decide +kernel),if_neg (by decide +kernel)]
     show (isS "flag" (.str (Str.ofString "flag"))&&nmB (.str x))=true
     rw [nmB_ok hx,show isS "flag" (.str (Str.ofString "flag"))=true by decide +kernel]
     rfl
 |li n t u ht hu=>
  have:=ht.dep
  have:=hu.dep
  refine ⟨?_,by simp only [Tr.depth,Trs.depth];omega,?_,fun k hk=> ?_⟩
  · simp only [toPl,toPls]
    exact ok_tag3 (by decide +kernel) ht.pl hu.pl
  · simp only [Tr.pure,Trs.pure]
    exact ⟨trivial,ty_pure ht.ty,ty_pure hu.ty,trivial⟩
  · cases k with
    |zero=>omega
    |succ k=>
     simp only [toPl,toPls]
     rw [ws3]
     show (if isS "most" (.str (Str.ofString "like"))=true then smB (toPl t)&&frB (toPl u) else isS "like" (.str (Str.ofString "like"))&& (tmB 12 (toPl t)&&tmB 12 (toPl u)))=true
     rw [if_neg (by decide +kernel),ht.tb 12 (by omega),hu.tb 12 (by omega),show isS "like" (.str (Str.ofString "like"))=true by decide +kernel]
     rfl
 |mo n ps f hl ha hp hf fz=>
  obtain ⟨s1,s2⟩:=sm_ok hl ha hp
  have dp:Trs.depth (ps.map prT)≤6:=depths_le fun t m=>by
   obtain ⟨q,mq,rfl⟩:=List.mem_map.mp m
   have:=(hp q mq).1.dep
   unfold prT frT
   simp only [Tr.depth,Trs.depth]
   omega
  refine ⟨?_,?_,?_,fun k hk=> ?_⟩
  · simp only [toPl,toPls]
    rw [toPl] at s2
    exact ok_tag3 (by decide +kernel) s2 (ok_fr' hf (by decide))
  · unfold frT
    simp only [Tr.depth,Trs.depth]
    omega
  · simp only [Tr.pure,Trs.pure]
    refine ⟨trivial,pure_all fun t m=> ?_,by unfold frT;simp [Tr.pure,Trs.pure],trivial⟩
    obtain ⟨q,mq,rfl⟩:=List.mem_map.mp m
    unfold prT frT
    simp only [Tr.pure,Trs.pure]
    exact ⟨ty_pure (hp q mq).1.ty,⟨trivial,trivial,trivial⟩,trivial⟩
  · cases k with
    |zero=>omega
    |succ k=>
     simp only [toPl,toPls]
     rw [ws3]
     rw [toPl] at s1
     show (if isS "most" (.str (Str.ofString "most"))=true then smB (.tup (toPls (ps.map prT)))&&frB (toPl (frT f)) else isS "like" (.str (Str.ofString "most"))&& (tmB 12 (.tup (toPls (ps.map prT)))&&tmB 12 (toPl (frT f))))=true
     rw [if_pos (by decide +kernel),s1,fr_ok fz]
     rfl
 |no n t _ ih=>
  obtain ⟨o1,d1,p1,w1⟩:=ih
  refine ⟨?_,by simp only [Tr.depth,Trs.depth];omega,?_,fun k hk=> ?_⟩
  · simp only [toPl,toPls]
    exact ok_tag (by decide +kernel) o1
  · simp only [Tr.pure,Trs.pure]
    exact ⟨trivial,p1,trivial⟩
  · cases k with
    |zero=>omega
    |succ k=>
     simp only [toPl,toPls]
     rw [ws2,if_pos (by decide +kernel)]
     refine w1 k ?_
     simp only [Tr.depth,Trs.depth] at hk
     omega
 |bo n l hl _ ih=>
  have dl:Trs.depth l≤2*n+8:=depths_le fun t m=>(ih t m).2.1
  refine ⟨?_,by simp only [Tr.depth,Trs.depth];omega,?_,fun k hk=> ?_⟩
  · simp only [toPl,toPls]
    refine ok_tag (by decide +kernel) ?_
    rw [toPls_map]
    refine okT (by rw [List.length_map];omega) fun u mu=> ?_
    obtain ⟨t,mt,rfl⟩:=List.mem_map.mp mu
    exact (ih t mt).1
  · simp only [Tr.pure,Trs.pure]
    exact ⟨trivial,pure_all fun t m=>(ih t m).2.2.1,trivial⟩
  · cases k with
    |zero=>omega
    |succ k=>
     simp only [toPl,toPls]
     rw [ws2,if_neg (by decide +kernel),if_pos (by decide +kernel)]
     show (toPls l).all (wsB k)=true
     rw [toPls_map,List.all_map]
     refine List.all_eq_true.mpr fun t m=>(ih t m).2.2.2 k ?_
     have:=depth_memT m
     simp only [Tr.depth,Trs.depth] at hk
     omega
 |ei n l hl _ ih=>
  have dl:Trs.depth l≤2*n+8:=depths_le fun t m=>(ih t m).2.1
  refine ⟨?_,by simp only [Tr.depth,Trs.depth];omega,?_,fun k hk=> ?_⟩
  · simp only [toPl,toPls]
    refine ok_tag (by decide +kernel) ?_
    rw [toPls_map]
    refine okT (by rw [List.length_map];omega) fun u mu=> ?_
    obtain ⟨t,mt,rfl⟩:=List.mem_map.mp mu
    exact (ih t mt).1
  · simp only [Tr.pure,Trs.pure]
    exact ⟨trivial,pure_all fun t m=>(ih t m).2.2.1,trivial⟩
  · cases k with
    |zero=>omega
    |succ k=>
     simp only [toPl,toPls]
     rw [ws2,if_neg (by decide +kernel),if_pos (by decide +kernel)]
     show (toPls l).all (wsB k)=true
     rw [toPls_map,List.all_map]
     refine List.all_eq_true.mpr fun t m=>(ih t m).2.2.2 k ?_
     have:=depth_memT m
     simp only [Tr.depth,Trs.depth] at hk
     omega
end K81
namespace EqD
open PySem PySem.Spec PyProof.Rows SeqAt L2
section
variable {prog:Program} {w:World} {A:Around} {E:Value→Shared→Prop} {s:Shared}
theorem cut_whole {t sl:Addr} {xs:Array Value} {vl vu:Value} {lo hi:Option Int} {Q:Value→Shared→Prop} (ht:IsTup s.heap t xs) (hs:s.heap.IsSliceOf sl vl vu .none) (pl:IsPart vl lo) (pu:IsPart vu hi)
 (h1:HT.sIx xs.size 0 lo=0) (h2:HT.sIx xs.size xs.size hi=xs.size) (h:Q (.ref t) s):wpAny (model prog w) A (getItem (.ref t) (.ref sl)) Q E s:=by
 obtain ⟨os,hos,hcs,hds⟩:=id hs
 have hT:s.TypeIs (.ref sl) "slice":=⟨os,hos,hcs⟩
 unfold getItem
 try with_reducible refine wpAny_holding ?_
 first|refine wpAny_bind (wpAny_pure ?_)|skip
 refine wpAny_bind (wpAny_sequenceKey ht.typeIs (by decide) ?_)
 refine wpAny_bind (wpAny_callSpecial?_slot (name:=Str.ofString "__getitem__") ht.typeIs slot_tuple_getitem (wpAny_call_entry slot_tuple_getitem ht.typeIs entry_tuple_getitem ?_ (args_tuple_getitem _ _)))
 show wpAny _ _ (Builtin.Tuple.tupleItemsOf (.ref t) >>=_) _ _ s
 refine wpAny_bind (tupleItemsOf_ ht ?_)
 refine wpAny_bind (wpAny_typeOf hT ?_)
 rw [if_pos (by decide)]
 refine wpAny_bind (HT.sliceApplied_gen hs pl pu ?_)
 have q:(((HT.sIx xs.size 0 lo:Nat):Int)==0&& (1:Int)==1&& (HT.sIx xs.size xs.size hi - HT.sIx xs.size 0 lo)==xs.size)=true:=by
  rw [h1,h2]
  simp
 show wpAny _ _ (if (((HT.sIx xs.size 0 lo:Nat):Int)==0&& (1:Int)==1&& (HT.sIx xs.size xs.size hi - HT.sIx xs.size 0 lo)==xs.size)=true then _ else _) _ _ s
 rw [if_pos q]
 refine wpAny_bind (m:=Builtin.Tuple.tupleIsExact (.ref t)) (wpAny_bind (wpAny_typeOf ht.typeIs (wpAny_pure ?_)))
 rw [if_pos (by decide)]
 first
  |exact wpAny_pure ⟨_,rfl,wpAny_pure h⟩
  |exact wpAny_bind (wpAny_pure ⟨_,rfl,wpAny_pure h⟩)
  |exact wpAny_bind (wpAny_rule (wpAny_pure ⟨_,rfl,wpAny_pure h⟩))
  |(trace_state;exact wpAny_pure (wpAny_pure ⟨_,rfl,wpAny_pure h⟩))
end
section
variable {X:Cx}
def rSlA:V→Option Int→Option Int→Hp→VK→Prop:=fun x lo hi H Q=>∃a xs,x= .ref a∧H a=some (.tup xs)∧∀r H',Same H H'→H' r=some (.tup (cutV xs lo hi))→Q (.ref r) H'
theorem sl_A:SlR X rSlA:=by
 intro pins s σ H x v vl vu lo hi sl Q I rx hs pl pu h
 obtain ⟨a,xs,rfl,hx,q⟩:=h
 by_cases z:HT.sIx xs.length 0 lo=0∧HT.sIx xs.length xs.length hi=xs.length
 · cases rx
   obtain ⟨its,r,ht,hz⟩:=I.tuple (SqT.of hx)
   have hlen:its.toArray.size=xs.length:=by rw [List.size_toArray];exact r.length.symm
   refine ⟨"tuple",_,slot_tuple_getitem.lookup,ht.typeIs,?_⟩
   refine cut_whole ht hs pl pu (by rw [hlen];exact z.1) (by rw [hlen];exact z.2) ⟨.ref a,H,I,rfl,q a H (Same.refl H) ?_⟩
   have e:cutV xs lo hi=xs:=by
    unfold cutV
    rw [z.1,z.2]
    simp
   rw [e]
   exact hx
 · exact sl_tup pins s σ H _ v vl vu lo hi sl Q I rx hs pl pu ⟨a,xs,rfl,SqT.of hx,z,fun p np=>q p _ (same_up np) upd_same⟩
end
open PySem L2
noncomputable def litPs (f:Expr→Option Pl):List Expr→Option (List Pl)
 | []=>some []
 |e::es=>match f e,litPs f es with
  |some t,some ts=>some (t::ts)
  |_,_=>none
noncomputable def litP:Nat→Expr→Option Pl
 |0,_=>none
 |n+1,e=>match e with
  | .Constant (.str x) _ _=>some (.str x)
  | .Constant (.int i) _ _=>some (.int i)
  | .Constant (.bool b) _ _=>some (.bl b)
  | .Constant .none _ _=>some .non
  | .UnaryOp .USub (.Constant (.int i) _ _) _=>some (.int (-i))
  | .Tuple es _ _=>if es.length≤100 then (litPs (litP n) es).map .tup else none
  | .List es _=>if es.length≤100 then (litPs (litP n) es).map (fun _=> .lst) else none
  | .Dict [some (.Constant (.str _) _ _)] [.Constant (.int _) _ _] _=>some .dct
  |_=>none
noncomputable def litPL (n:Nat):Expr→Option (List Pl)
 | .List es _=>if es.length≤100 then litPs (litP n) es else none
 |_=>none
def tLitP (t:Pl):TE:=fun _ H Q=>∀v H',Same H H'→PlAt H' v t→Q v H'
def tLitPs (ts:List Pl):TA:=fun _ H Q=>∀vs H',Same H H'→PlsAt H' vs ts→Q vs H'
def tLitPL (ts:List Pl):TE:=fun _ H Q=>∀r vs H',Same H H'→H r=none→H' r=some (.lst vs)→PlsAt H' vs ts→Q (.ref r) H'
section
variable {X:Cx}
theorem litps_len:∀ {n:Nat} {es:List Expr} {ts:List Pl},litPs (litP n) es=some ts→ts.length=es.length
 |n,[],ts,h=>by
  rw [litPs] at h
  cases h
  rfl
 |n,e::es,ts,h=>by
  rw [litPs] at h
  split at h
  · rename_i t us h1 h2
    cases h
    rw [List.length_cons,List.length_cons,litps_len h2]
  · cases h
theorem pe_litPB:∀n,∀e t,litP n e=some t→PE X e (tLitP t)∧∀es,starEach (e::es) X.env=(false,eval e X.env)::starEach es X.env:=by
 intro n
 induction n with
 |zero=>
  intro e t h
  rw [litP] at h
  cases h
 |succ n ih=>
  have many:∀es ts,litPs (litP n) es=some ts→PA X es (tLitPs ts):=by
   intro es
   induction es with
   |nil=>
    intro ts h
    rw [litPs] at h
    cases h
    exact PA.imp pa_nil fun σ H Q q=>q [] H (Same.refl H) .nil
   |cons e es ih2=>
    intro ts h
    rw [litPs] at h
    split at h
    · rename_i t us h1 h2
      cases h
      obtain ⟨a1,a2⟩:=ih e t h1
      refine PA.imp (pa_cons a1 (ih2 us h2) (a2 es)) fun σ H Q q=> ?_
      intro v H1 s1 hv ws H2 s2 hw
      exact q (v::ws) H2 (s1.trans s2) (.cons (hv.mono (Ke.of_same s2)) hw)
    · cases h
  have big:(100:Nat)≤sizeLine:=by decide +kernel
  intro e t h
  unfold litP at h
  split at h
  · cases h
    exact ⟨PE.imp pe_str fun σ H Q q=>q _ H (Same.refl H) (by unfold PlAt;rfl),fun es=>rfl⟩
  · cases h
    exact ⟨PE.imp pe_int fun σ H Q q=>q _ H (Same.refl H) (by unfold PlAt;rfl),fun es=>rfl⟩
  · cases h
    exact ⟨PE.imp pe_bl fun σ H Q q=>q _ H (Same.refl H) (by unfold PlAt;rfl),fun es=>rfl⟩
  · cases h
    exact ⟨PE.imp pe_non fun σ H Q q=>q _ H (Same.refl H) (by unfold PlAt;rfl),fun es=>rfl⟩
  · cases h
    exact ⟨PE.imp (pe_un un_neg pe_int) fun σ H Q q=>⟨_,rfl,q _ H (Same.refl H) (by unfold PlAt;rfl)⟩,fun es=>rfl⟩
  · rename_i es k pos
    split at h
    · rename_i hl
      obtain ⟨ts,h1,h2⟩:=Option.map_eq_some_iff.mp h
      cases h2
      refine ⟨PE.imp (pe_tup (many es ts h1)) fun σ H Q q=> ?_,fun es=>rfl⟩
      intro vs H1 s1 hv
      have l1:=hv.len
      have l2:=litps_len h1
      refine ⟨by omega,fun p np=> ?_⟩
      have s2:=same_up (o:= .tup vs) np
      exact q (.ref p) _ (s1.trans s2) (by unfold PlAt;exact ⟨p,vs,rfl,upd_same,hv.mono (Ke.of_same s2)⟩)
    · cases h
  · rename_i es pos
    split at h
    · rename_i hl
      obtain ⟨ts,h1,h2⟩:=Option.map_eq_some_iff.mp h
      cases h2
      refine ⟨PE.imp (pe_lst (many es ts h1)) fun σ H Q q=> ?_,fun es=>rfl⟩
      intro vs H1 s1 hv
      have l1:=hv.len
      have l2:=litps_len h1
      refine ⟨by omega,fun p np=> ?_⟩
      have s2:=same_up (o:= .lst vs) np
      exact q (.ref p) _ (s1.trans s2) (by unfold PlAt;exact ⟨p,vs,rfl,upd_same⟩)
    · cases h
  · rename_i k _ _ i _ _ _
    cases h
    refine ⟨PE.imp (pe_disp (pps_cons pe_str pe_int pps_nil) rfl rfl (by simp) (by simp)) fun σ H Q q=> ?_,fun es=>rfl⟩
    intro p np
    refine ⟨upd_same,[(.inr k, .int i)],rfl,by simp,q (.ref p) _ ?_ (by unfold PlAt;exact ⟨p,_,rfl,upd_same⟩)⟩
    intro b o e
    have ne:b≠p:=fun z=>by rw [z,np] at e;cases e
    rw [upd_ne ne,upd_ne ne]
    exact e
  · cases h
theorem pa_litPs (n:Nat):∀ {es:List Expr} {ts:List Pl},litPs (litP n) es=some ts→PA X es (tLitPs ts)
 | [],ts,h=>by
  rw [litPs] at h
  cases h
  exact PA.imp pa_nil fun σ H Q q=>q [] H (Same.refl H) .nil
 |e::es,ts,h=>by
  rw [litPs] at h
  split at h
  · rename_i t us h1 h2
    cases h
    obtain ⟨a1,a2⟩:=pe_litPB (X:=X) n e t h1
    refine PA.imp (pa_cons a1 (pa_litPs n h2) (a2 es)) fun σ H Q q=> ?_
    intro v H1 s1 hv ws H2 s2 hw
    exact q (v::ws) H2 (s1.trans s2) (.cons (hv.mono (Ke.of_same s2)) hw)
  · cases h
theorem pe_litPL (n:Nat) {e:Expr} {ts:List Pl} (h:litPL n e=some ts):PE X e (tLitPL ts):=by
 unfold litPL at h
 split at h
 · rename_i es pos
   split at h
   · rename_i hl
     refine PE.imp (pe_lst (pa_litPs n h)) fun σ H Q q=> ?_
     intro vs H1 s1 hv
     have l1:=hv.len
     have l2:=litps_len h
     refine ⟨by have:(100:Nat)≤sizeLine:=by decide +kernel
                omega,fun p np=> ?_⟩
     have s2:=same_up (o:= .lst vs) np
     exact q p vs _ (s1.trans s2) (s1.none np) upd_same (hv.mono (Ke.of_same s2))
   · cases h
 · cases h
end
end EqD
namespace K81
open PySem L2 Mth Tre Wd Su EqD
abbrev sp_ (x:String):Pl:= .str (Str.ofString x)
noncomputable def st1:List Pl:= [.non, .int 7,sp_ "p", .tup [], .lst, .tup [sp_ "flag",sp_ "P"], .tup [sp_ "flag"], .tup [sp_ "flag",sp_ "p",sp_ "q"]]
def flagP:Pl:= .tup [sp_ "flag",sp_ "p"]
def oneP:Pl:= .tup [sp_ "name",sp_ "a"]
noncomputable def st2:List Pl:= [.tup [sp_ "not",flagP,flagP], .tup [sp_ "both", .lst], .tup [sp_ "either",flagP], .tup [sp_ "like",oneP]]
noncomputable def st3:List Pl:= [.tup [sp_ "like",sp_ "a",sp_ "b"], .tup [sp_ "most", .tup [.tup [oneP, .tup [.int 0, .int 1]]], .tup [.int 0, .int 1]], .tup [sp_ "most", .tup [], .int 0]]
noncomputable def st4:List Pl:= [.tup [sp_ "most", .tup [.tup [oneP, .tup [.int 2, .int 2]]], .tup [.int 0, .int 1]]]
theorem atB0 {p:Pl} (h2:toB 2 p=false) (h3:toB 3 p=false):wsB 13 p=false:=by
 rw [wsB,if_neg (by rw [h2];exact Bool.false_ne_true),at_no h2 h3]
theorem at3' {k a b:Pl}:atB (.tup [k,a,b])=if isS "most" k=true then smB a&&frB b else isS "like" k&& (tmB 12 a&&tmB 12 b):=rfl
theorem at2' {k a:Pl}:atB (.tup [k,a])=(isS "flag" k&&nmB a):=rfl
theorem strange_no:∀p∈st1++st2++st3++st4,wsB 13 p=false:=by
 intro p m
 simp only [st1,st2,st3,st4,List.cons_append,List.nil_append,List.mem_cons,List.not_mem_nil,or_false] at m
 rcases m with rfl|rfl|rfl|rfl|rfl|rfl|rfl|rfl|rfl|rfl|rfl|rfl|rfl|rfl|rfl|rfl
 · exact atB0 rfl rfl
 · exact atB0 rfl rfl
 · exact atB0 rfl rfl
 · exact atB0 rfl rfl
 · exact atB0 rfl rfl
 · rw [ws2,if_neg (by decide +kernel),if_neg (by decide +kernel),at2',show nmB (sp_ "P")=false by decide +kernel,Bool.and_false]
 · exact atB0 rfl rfl
 · rw [ws3,at3',if_neg (by decide +kernel),show isS "like" (sp_ "flag")=false by decide +kernel,Bool.false_and]
 · rw [ws3,at3',if_neg (by decide +kernel),show isS "like" (sp_ "not")=false by decide +kernel,Bool.false_and]
 · rw [ws2,if_neg (by decide +kernel),if_pos (by decide +kernel)]
   rfl
 · rw [ws2,if_neg (by decide +kernel),if_pos (by decide +kernel)]
   show ([sp_ "flag",sp_ "p"].all (wsB 12))=false
   rw [List.all_cons,show wsB 12 (sp_ "flag")=false by rw [wsB,if_neg (by decide),at_no rfl rfl],Bool.false_and]
 · rw [ws2,if_neg (by decide +kernel),if_neg (by decide +kernel),at2',show isS "flag" (sp_ "like")=false by decide +kernel,Bool.false_and]
 · rw [ws3,at3',if_neg (by decide +kernel),show tmB 12 (sp_ "a")=false by rw [tmB];intro ts h;cases h]
   simp
 · rw [ws3,at3',if_pos (by decide +kernel)]
   have:smB (.tup [.tup [oneP, .tup [.int 0, .int 1]]])=false:=by
    show ([Pl.tup [oneP, .tup [.int 0, .int 1]]].all prB&&_)=false
    rw [List.all_cons,show prB (.tup [oneP, .tup [.int 0, .int 1]])=false by
     show (tmB 12 oneP&& (frB (.tup [.int 0, .int 1])&& !zB (.tup [.int 0, .int 1])))=false
     rw [show zB (.tup [.int 0, .int 1])=true by decide +kernel]
     simp]
    rfl
   rw [this,Bool.false_and]
 · rw [ws3,at3',if_pos (by decide +kernel),show frB (.int 0)=false from rfl,Bool.and_false]
 · rw [ws3,at3',if_pos (by decide +kernel)]
   have:smB (.tup [.tup [oneP, .tup [.int 2, .int 2]]])=false:=by
    show ([Pl.tup [oneP, .tup [.int 2, .int 2]]].all prB&&_)=false
    rw [List.all_cons,show prB (.tup [oneP, .tup [.int 2, .int 2]])=false by
     show (tmB 12 oneP&& (frB (.tup [.int 2, .int 2])&& !zB (.tup [.int 2, .int 2])))=false
     rw [show frB (.tup [.int 2, .int 2])=false by decide +kernel]
     simp]
    rfl
   rw [this,Bool.false_and]
theorem bigS {i:Int} (h:decide (i.natAbs≤100)=true):Ok (.int i):=by
 unfold Ok Big
 exact Nat.lt_of_le_of_lt (of_decide_eq_true h) (by decide +kernel)
theorem strange_ok:∀p∈st1++st2++st3++st4,Ok p∧pdep p < 13:=by
 have s8:∀ {x:String},decide ((Str.ofString x).length≤8)=true→Ok (sp_ x):=fun h=>okS (of_decide_eq_true h)
 have oF:Ok flagP:=ok_tag (by decide +kernel) (s8 (by decide +kernel))
 have oO:Ok oneP:=ok_tag (by decide +kernel) (s8 (by decide +kernel))
 have oI:∀ {a b:Int},decide (a.natAbs≤100)=true→decide (b.natAbs≤100)=true→Ok (.tup [.int a, .int b]):=fun {a b} ha hb=>okT (by simp) fun t m=>by
  simp only [List.mem_cons,List.not_mem_nil,or_false] at m
  rcases m with rfl|rfl
  · exact bigS ha
  · exact bigS hb
 have oP:∀ {a b:Pl},Ok a→Ok b→Ok (.tup [.tup [a,b]]):=fun {a b} ha hb=>okT (by simp) fun t m=>by
  rw [List.mem_singleton.mp m]
  refine okT (by simp) fun t m=> ?_
  simp only [List.mem_cons,List.not_mem_nil,or_false] at m
  rcases m with rfl|rfl
  · exact ha
  · exact hb
 have oE:Ok (.tup []):=okT (by simp) fun t m=>nomatch m
 have oL:Ok .lst:=by unfold Ok;trivial
 intro p m
 simp only [st1,st2,st3,st4,List.cons_append,List.nil_append,List.mem_cons,List.not_mem_nil,or_false] at m
 rcases m with rfl|rfl|rfl|rfl|rfl|rfl|rfl|rfl|rfl|rfl|rfl|rfl|rfl|rfl|rfl|rfl
 · exact ⟨by unfold Ok;trivial,by simp [pdep]⟩
 · exact ⟨bigS (by decide),by simp [pdep]⟩
 · exact ⟨s8 (by decide +kernel),by simp [pdep]⟩
 · exact ⟨oE,by simp [pdep,psdep]⟩
 · exact ⟨oL,by simp [pdep,psdep]⟩
 · exact ⟨ok_tag (by decide +kernel) (s8 (by decide +kernel)),by simp [pdep,psdep]⟩
 · exact ⟨okT (by simp) fun t m=>by rw [List.mem_singleton.mp m];exact s8 (by decide +kernel),by simp [pdep,psdep]⟩
 · exact ⟨ok_tag3 (by decide +kernel) (s8 (by decide +kernel)) (s8 (by decide +kernel)),by simp [pdep,psdep]⟩
 · exact ⟨ok_tag3 (by decide +kernel) oF oF,by simp [pdep,psdep,flagP]⟩
 · exact ⟨ok_tag (by decide +kernel) oL,by simp [pdep,psdep]⟩
 · exact ⟨ok_tag (by decide +kernel) oF,by simp [pdep,psdep,flagP]⟩
 · exact ⟨ok_tag (by decide +kernel) oO,by simp [pdep,psdep,oneP]⟩
 · exact ⟨ok_tag3 (by decide +kernel) (s8 (by decide +kernel)) (s8 (by decide +kernel)),by simp [pdep,psdep]⟩
 · exact ⟨ok_tag3 (by decide +kernel) (oP oO (oI (by decide) (by decide))) (oI (by decide) (by decide)),by simp [pdep,psdep,oneP]⟩
 · exact ⟨ok_tag3 (by decide +kernel) oE (bigS (by decide)),by simp [pdep,psdep]⟩
 · exact ⟨ok_tag3 (by decide +kernel) (oP oO (oI (by decide) (by decide))) (oI (by decide) (by decide)),by simp [pdep,psdep,oneP]⟩
open PySem L2 Mth Tre Wd Su EqD
noncomputable def bdS (i:Nat):Stmt:=(defBody sStr).getD i (.Pass ⟨0,0,0,0⟩)
theorem swaps_pl {n:Nat} {L:Expr} {ts:List Pl} (h:litPL n L=some ts) {tg:Option Expr} {line:Nat} {env:Env}:swapsWith L tg line env=pure false:=by
 unfold litPL at h
 split at h
 · rfl
 · cases h
theorem pl_tup {H:Hp} {r:Addr} {vs:List V} {ts:List Pl} (h:H r=some (.tup vs)) (h2:PlsAt H vs ts):PlAt H (.ref r) (.tup ts):=by
 unfold PlAt
 exact ⟨r,vs,rfl,h,h2⟩
theorem pl_str {H:Hp} {x:Str}:PlAt H (.str x) (.str x):=by unfold PlAt;rfl
theorem pl_int {H:Hp} {x:Int}:PlAt H (.int x) (.int x):=by unfold PlAt;rfl
theorem pl_lst {H:Hp} {r:Addr} {xs:List V} (h:H r=some (.lst xs)):PlAt H (.ref r) .lst:=by
 unfold PlAt
 exact ⟨r,xs,rfl,h⟩
theorem pickP {H:Hp} {vs:List V} {ts:List Pl} {r:Int} (h:PlsAt H vs ts) (h0:0≤r) (h1:r < (ts.length:Int)):∃v t,atI vs r=some v∧t∈ts∧PlAt H v t:=by
 obtain ⟨j,rfl⟩:∃j:Nat,r=(j:Int):=⟨r.toNat,by omega⟩
 have hl:=h.len
 have hj:j < vs.length:=by omega
 obtain ⟨t,e1,e2⟩:=h.get' (i:=j) (List.getElem?_eq_getElem hj)
 exact ⟨_,t,atI_nat (List.getElem?_eq_getElem hj),List.mem_of_getElem? e1,e2⟩
section
variable {P:Program} {w:World} {K:PySem.W.Frag} {mg:Str→Option Value} {base:Heap}
def spStr (K:PySem.W.Frag):Sp:=fun vs H Q _=>∃(a:Addr) (ns:List Int) (kk:Int),vs= [.ref a, .int kk]∧SqL K H a (ns.map V.int)∧ns.length≤63∧0≤kk∧kk≤90000∧∀v p H',Same H H'→PlAt H' v p→Ok p→pdep p < 13→wsB 13 p=false→Q v H'
theorem scStr:FnScope ["_law_script","_law_k","_law_flag","_law_one","_law_some"] ["_law_script","_law_k"] (defScope sStr):=⟨rfl,rfl,rfl,by decide +kernel,rfl,by decide +kernel,by decide +kernel⟩
theorem ok_str {f fD:Addr} {fd dD:FuncData} (F:Fun K "_law_strange" "_law_strange" sStr f fd)
 (gD:FnOk P w K mg base CX0 1 fD dD ["_law_script","_law_k","_law_many"] (spDraw K)) (kD:PySem.W.keepIn K (.ref fD)=true) (bD:Binds K dD ["_law_script","_law_k","_law_many"] []) (mD:mg "_law_draw"=some (.ref fD)):FnOk P w K mg base CX0 2 f fd ["_law_script","_law_k"] (spStr K):=by
 refine F.ok scStr (fun vs H Q E h=> ?_) (fun cdv A outer s H vs Q E hr h=> ?_)
 · obtain ⟨a,ns,kk,rfl,_⟩:=h
   rfl
 obtain ⟨a,ns,kk,rfl,hS,h63,k0,k9,k⟩:=h
 have eB:defBody sStr=bdS 0::bdS 1::asgW (bdS 2) (asgV (bdS 2))::bdS 3::bdS 4::(defBody sStr).drop 5:=rfl
 have e1:litPL 9 (asgV (bdS 2))=some st1:=rfl
 rw [eB]
 clear eB
 generalize asgV (bdS 2)=L1 at e1 ⊢
 refine ⟨_,pss_cons (ps_set (i:=2) scStr.nd rfl (Or.inl rfl) (pe_tup (pa_cons pe_str (pa_cons pe_str pa_nil))))
  (pss_cons (ps_set (i:=3) scStr.nd rfl (Or.inl rfl) (pe_tup (pa_cons pe_str (pa_cons pe_str pa_nil))))
  (pss_cons (ps_set (i:=4) scStr.nd rfl (Or.inl rfl) (pe_litPL 9 e1) (swaps_pl e1))
  (pss_cons (ps_set (i:=4) scStr.nd rfl (Or.inl rfl) (pe_op op_cat (pv 4) (pe_lst (pa_cons (pe_tup (pa_cons pe_str (pa_cons (pv 2) (pa_cons (pv 2) pa_nil)))) (pa_cons (pe_tup (pa_cons pe_str (pa_cons (pe_lst (pa_cons (pv 2) pa_nil)) pa_nil))) (pa_cons (pe_tup (pa_cons pe_str (pa_cons (pv 2) pa_nil))) (pa_cons (pe_tup (pa_cons pe_str (pa_cons (pv 3) pa_nil))) pa_nil)))))))
  (pss_cons (ps_set (i:=4) scStr.nd rfl (Or.inl rfl) (pe_op op_cat (pv 4) (pe_lst (pa_cons (pe_tup (pa_cons pe_str (pa_cons pe_str (pa_cons pe_str pa_nil)))) (pa_cons (pe_tup (pa_cons pe_str (pa_cons (pe_tup (pa_cons (pe_tup (pa_cons (pv 3) (pa_cons (pe_tup (pa_cons pe_int (pa_cons pe_int pa_nil))) pa_nil))) pa_nil)) (pa_cons (pe_tup (pa_cons pe_int (pa_cons pe_int pa_nil))) pa_nil)))) (pa_cons (pe_tup (pa_cons pe_str (pa_cons (pe_tup pa_nil) (pa_cons pe_int pa_nil)))) pa_nil))))))
  (pss_one (ps_ret (pe_ix ix_list (pe_op op_cat (pv 4) (pe_lst (pa_cons (pe_tup (pa_cons pe_str (pa_cons (pe_tup (pa_cons (pe_tup (pa_cons (pv 3) (pa_cons (pe_tup (pa_cons pe_int (pa_cons pe_int pa_nil))) pa_nil))) pa_nil)) (pa_cons (pe_tup (pa_cons pe_int (pa_cons pe_int pa_nil))) pa_nil)))) pa_nil))) (pe_call gD hr rfl mD kD bD .nil pass0 (pa_cons (pv 0) (pa_cons (pv 1) (pa_cons pe_int pa_nil)))) fun _ _=>rfl))))))),?_⟩
 have h1:(1:Nat)≤sizeLine:=by decide
 have h2:(2:Nat)≤sizeLine:=by decide
 have h3:(3:Nat)≤sizeLine:=by decide
 have h4:(4:Nat)≤sizeLine:=by decide
 have hL:(20000:Nat)≤sizeLine:=by decide +kernel
 refine ⟨h2,fun p np=> ?_⟩
 have s1:=same_upd (o:= .tup [.str (Str.ofString "flag"), .str (Str.ofString "p")]) np
 have hp:PlAt (upd H p (.tup [.str (Str.ofString "flag"), .str (Str.ofString "p")])) (.ref p) flagP:=pl_tup upd_same (.cons pl_str (.cons pl_str .nil))
 generalize upd H p (.tup [.str (Str.ofString "flag"), .str (Str.ofString "p")])=H1 at*
 refine ⟨h2,fun q nq=> ?_⟩
 have s2:=same_upd (o:= .tup [.str (Str.ofString "name"), .str (Str.ofString "a")]) nq
 have hq:PlAt (upd H1 q (.tup [.str (Str.ofString "name"), .str (Str.ofString "a")])) (.ref q) oneP:=pl_tup upd_same (.cons pl_str (.cons pl_str .nil))
 have s02:=s1.trans s2
 replace hp:=hp.mono (Ke.of_same s2)
 clear s1 s2
 generalize upd H1 q (.tup [.str (Str.ofString "name"), .str (Str.ofString "a")])=H2 at*
 intro L ws H3 s3 _ hL3 hT3
 have s03:=s02.trans s3
 replace hp:=hp.mono (Ke.of_same s3)
 replace hq:=hq.mono (Ke.of_same s3)
 clear s3 s02
 refine ⟨_,rfl,_,rfl,_,rfl,h3,fun r1 n1=> ?_⟩
 have t1:=same_upd (o:= .tup [.str (Str.ofString "not"), .ref p, .ref p]) n1
 have g1:PlAt (upd H3 r1 (.tup [.str (Str.ofString "not"), .ref p, .ref p])) (.ref r1) (.tup [sp_ "not",flagP,flagP]):=pl_tup upd_same (.cons pl_str (.cons (hp.mono (Ke.of_same t1)) (.cons (hp.mono (Ke.of_same t1)) .nil)))
 generalize upd H3 r1 (.tup [.str (Str.ofString "not"), .ref p, .ref p])=H4 at*
 refine ⟨_,rfl,h1,fun l1 nl1=>⟨h2,fun r2 n2=> ?_⟩⟩
 have t2:=same_upd (o:= .lst [.ref p]) nl1
 have t3:=same_upd (o:= .tup [.str (Str.ofString "both"), .ref l1]) n2
 have g2:PlAt (upd (upd H4 l1 (.lst [.ref p])) r2 (.tup [.str (Str.ofString "both"), .ref l1])) (.ref r2) (.tup [sp_ "both", .lst]):=pl_tup upd_same (.cons pl_str (.cons (pl_lst (t3 _ _ upd_same)) .nil))
 have t23:=t2.trans t3
 clear t2 t3
 generalize upd (upd H4 l1 (.lst [.ref p])) r2 (.tup [.str (Str.ofString "both"), .ref l1])=H5 at*
 refine ⟨_,rfl,h2,fun r3 n3=> ?_⟩
 have t4:=same_upd (o:= .tup [.str (Str.ofString "either"), .ref p]) n3
 have g3:PlAt (upd H5 r3 (.tup [.str (Str.ofString "either"), .ref p])) (.ref r3) (.tup [sp_ "either",flagP]):=pl_tup upd_same (.cons pl_str (.cons (hp.mono (Ke.of_same (t1.trans (t23.trans t4)))) .nil))
 generalize upd H5 r3 (.tup [.str (Str.ofString "either"), .ref p])=H6 at*
 refine ⟨_,rfl,h2,fun r4 n4=> ?_⟩
 have t5:=same_upd (o:= .tup [.str (Str.ofString "like"), .ref q]) n4
 have g4:PlAt (upd H6 r4 (.tup [.str (Str.ofString "like"), .ref q])) (.ref r4) (.tup [sp_ "like",oneP]):=pl_tup upd_same (.cons pl_str (.cons (hq.mono (Ke.of_same (t1.trans (t23.trans (t4.trans t5))))) .nil))
 generalize upd H6 r4 (.tup [.str (Str.ofString "like"), .ref q])=H7 at*
 refine ⟨h4,fun L2 nL2=> ?_⟩
 have t6:=same_upd (o:= .lst [.ref r1, .ref r2, .ref r3, .ref r4]) nL2
 have hL7:=upd_same (H:=H7) (a:=L2) (o:= .lst [.ref r1, .ref r2, .ref r3, .ref r4])
 have t36:=t1.trans (t23.trans (t4.trans (t5.trans t6)))
 have hT7:PlsAt (upd H7 L2 (.lst [.ref r1, .ref r2, .ref r3, .ref r4])) [.ref r1, .ref r2, .ref r3, .ref r4] st2:= .cons (g1.mono (Ke.of_same (t23.trans (t4.trans (t5.trans t6))))) (.cons (g2.mono (Ke.of_same (t4.trans (t5.trans t6)))) (.cons (g3.mono (Ke.of_same (t5.trans t6))) (.cons (g4.mono (Ke.of_same t6)) .nil)))
 have wl:=hT3.len
 rw [show st1.length=8 from rfl] at wl
 generalize upd H7 L2 (.lst [.ref r1, .ref r2, .ref r3, .ref r4])=H8 at*
 refine ⟨L,L2,ws,_,rfl,rfl,t36 _ _ hL3,hL7,by show ws.length+4≤sizeLine;omega,fun M nM=> ?_⟩
 have u1:=same_upd (o:= .lst (ws++ [.ref r1, .ref r2, .ref r3, .ref r4])) nM
 have hM:=upd_same (H:=H8) (a:=M) (o:= .lst (ws++ [.ref r1, .ref r2, .ref r3, .ref r4]))
 have hTM:=PlsAt.app (hT7.mono (Ke.of_same u1)) (hT3.mono (Ke.of_same (t36.trans u1)))
 have s09:=s03.trans (t36.trans u1)
 replace hq:=hq.mono (Ke.of_same (t36.trans u1))
 clear t1 t23 t4 t5 t6 t36 u1 g1 g2 g3 g4 hT7 hL7 hT3 hL3 hp s03
 generalize upd H8 M (.lst (ws++ [.ref r1, .ref r2, .ref r3, .ref r4]))=H9 at*
 have ml:(ws++ [V.ref r1, .ref r2, .ref r3, .ref r4]).length=12:=by rw [List.length_append,wl];rfl
 generalize ws++ [V.ref r1, .ref r2, .ref r3, .ref r4]=vs2 at*
 refine ⟨_,rfl,h3,fun r5 n5=> ?_⟩
 have t1:=same_upd (o:= .tup [.str (Str.ofString "like"), .str (Str.ofString "a"), .str (Str.ofString "b")]) n5
 have g1:PlAt (upd H9 r5 (.tup [.str (Str.ofString "like"), .str (Str.ofString "a"), .str (Str.ofString "b")])) (.ref r5) (.tup [sp_ "like",sp_ "a",sp_ "b"]):=pl_tup upd_same (.cons pl_str (.cons pl_str (.cons pl_str .nil)))
 generalize upd H9 r5 (.tup [.str (Str.ofString "like"), .str (Str.ofString "a"), .str (Str.ofString "b")])=H10 at*
 have most:∀ {a b:Int} {H':Hp} {p1 p2 p3 p4 p5:Addr} (m1:H' p1=none) (m2:(upd H' p1 (.tup [.int a, .int b])) p2=none) (m3:(upd (upd H' p1 (.tup [.int a, .int b])) p2 (.tup [.ref q, .ref p1])) p3=none) (m4:(upd (upd (upd H' p1 (.tup [.int a, .int b])) p2 (.tup [.ref q, .ref p1])) p3 (.tup [.ref p2])) p4=none) (m5:(upd (upd (upd (upd H' p1 (.tup [.int a, .int b])) p2 (.tup [.ref q, .ref p1])) p3 (.tup [.ref p2])) p4 (.tup [.int 0, .int 1])) p5=none),PlAt H' (.ref q) oneP→
  Same H' (upd (upd (upd (upd (upd H' p1 (.tup [.int a, .int b])) p2 (.tup [.ref q, .ref p1])) p3 (.tup [.ref p2])) p4 (.tup [.int 0, .int 1])) p5 (.tup [.str (Str.ofString "most"), .ref p3, .ref p4]))∧PlAt (upd (upd (upd (upd (upd H' p1 (.tup [.int a, .int b])) p2 (.tup [.ref q, .ref p1])) p3 (.tup [.ref p2])) p4 (.tup [.int 0, .int 1])) p5 (.tup [.str (Str.ofString "most"), .ref p3, .ref p4])) (.ref p5) (.tup [sp_ "most", .tup [.tup [oneP, .tup [.int a, .int b]]], .tup [.int 0, .int 1]]):=fun {a b H' p1 p2 p3 p4 p5} m1 m2 m3 m4 m5 hq'=>by
  have v1:=same_upd (o:= .tup [.int a, .int b]) m1
  have v2:=same_upd (o:= .tup [.ref q, .ref p1]) m2
  have v3:=same_upd (o:= .tup [.ref p2]) m3
  have v4:=same_upd (o:= .tup [.int 0, .int 1]) m4
  have v5:=same_upd (o:= .tup [.str (Str.ofString "most"), .ref p3, .ref p4]) m5
  have v35:=v3.trans (v4.trans v5)
  have v25:=v2.trans v35
  refine ⟨v1.trans v25,pl_tup upd_same (.cons pl_str (.cons (pl_tup ((v4.trans v5) _ _ upd_same) (.cons (pl_tup (v35 _ _ upd_same) (.cons (hq'.mono (Ke.of_same (v1.trans v25))) (.cons (pl_tup (v25 _ _ upd_same) (.cons pl_int (.cons pl_int .nil))) .nil))) .nil)) (.cons (pl_tup (v5 _ _ upd_same) (.cons pl_int (.cons pl_int .nil))) .nil)))⟩
 refine ⟨_,rfl,h2,fun p1 m1=>⟨h2,fun p2 m2=>⟨h1,fun p3 m3=>⟨h2,fun p4 m4=>⟨h3,fun p5 m5=> ?_⟩⟩⟩⟩⟩
 obtain ⟨t2,g2⟩:=most m1 m2 m3 m4 m5 (hq.mono (Ke.of_same t1))
 generalize upd (upd (upd (upd (upd H10 p1 (.tup [.int 0, .int 1])) p2 (.tup [.ref q, .ref p1])) p3 (.tup [.ref p2])) p4 (.tup [.int 0, .int 1])) p5 (.tup [.str (Str.ofString "most"), .ref p3, .ref p4])=H11 at*
 refine ⟨by show 0≤sizeLine;decide,fun r6 n6=>⟨h3,fun r7 n7=> ?_⟩⟩
 have t3:=same_upd (o:= .tup []) n6
 have t4:=same_upd (o:= .tup [.str (Str.ofString "most"), .ref r6, .int 0]) n7
 have g3:PlAt (upd (upd H11 r6 (.tup [])) r7 (.tup [.str (Str.ofString "most"), .ref r6, .int 0])) (.ref r7) (.tup [sp_ "most", .tup [], .int 0]):=pl_tup upd_same (.cons pl_str (.cons (pl_tup (t4 _ _ upd_same) .nil) (.cons pl_int .nil)))
 have t34:=t3.trans t4
 clear t3 t4
 generalize upd (upd H11 r6 (.tup [])) r7 (.tup [.str (Str.ofString "most"), .ref r6, .int 0])=H12 at*
 refine ⟨h3,fun L3 nL3=> ?_⟩
 have t6:=same_upd (o:= .lst [.ref r5, .ref p5, .ref r7]) nL3
 have hL12:=upd_same (H:=H12) (a:=L3) (o:= .lst [.ref r5, .ref p5, .ref r7])
 have t36:=t1.trans (t2.trans (t34.trans t6))
 have hT12:PlsAt (upd H12 L3 (.lst [.ref r5, .ref p5, .ref r7])) [.ref r5, .ref p5, .ref r7] st3:= .cons (g1.mono (Ke.of_same (t2.trans (t34.trans t6)))) (.cons (g2.mono (Ke.of_same (t34.trans t6))) (.cons (g3.mono (Ke.of_same t6)) .nil))
 generalize upd H12 L3 (.lst [.ref r5, .ref p5, .ref r7])=H13 at*
 refine ⟨M,L3,vs2,_,rfl,rfl,t36 _ _ hM,hL12,by show vs2.length+3≤sizeLine;omega,fun M2 nM2=> ?_⟩
 have u1:=same_upd (o:= .lst (vs2++ [.ref r5, .ref p5, .ref r7])) nM2
 have hM2:=upd_same (H:=H13) (a:=M2) (o:= .lst (vs2++ [.ref r5, .ref p5, .ref r7]))
 have hTM2:=PlsAt.app (hT12.mono (Ke.of_same u1)) (hTM.mono (Ke.of_same (t36.trans u1)))
 have s014:=s09.trans (t36.trans u1)
 replace hq:=hq.mono (Ke.of_same (t36.trans u1))
 clear t1 t2 t34 t6 t36 u1 g1 g2 g3 hT12 hL12 hTM hM s09
 generalize upd H13 M2 (.lst (vs2++ [.ref r5, .ref p5, .ref r7]))=H14 at*
 have ml2:(vs2++ [V.ref r5, .ref p5, .ref r7]).length=15:=by rw [List.length_append,ml];rfl
 generalize vs2++ [V.ref r5, .ref p5, .ref r7]=vs3 at*
 refine ⟨_,rfl,_,rfl,h2,fun p1 m1=>⟨h2,fun p2 m2=>⟨h1,fun p3 m3=>⟨h2,fun p4 m4=>⟨h3,fun p5 m5=> ?_⟩⟩⟩⟩⟩
 obtain ⟨t2,g2⟩:=most m1 m2 m3 m4 m5 hq
 generalize upd (upd (upd (upd (upd H14 p1 (.tup [.int 2, .int 2])) p2 (.tup [.ref q, .ref p1])) p3 (.tup [.ref p2])) p4 (.tup [.int 0, .int 1])) p5 (.tup [.str (Str.ofString "most"), .ref p3, .ref p4])=H15 at*
 refine ⟨h1,fun L4 nL4=> ?_⟩
 have t6:=same_upd (o:= .lst [.ref p5]) nL4
 have t26:=t2.trans t6
 refine ⟨M2,L4,vs3,[.ref p5],rfl,rfl,t26 _ _ hM2,upd_same,by show vs3.length+1≤sizeLine;omega,fun M3 nM3=> ?_⟩
 have u1:=same_upd (o:= .lst (vs3++ [.ref p5])) nM3
 have hM3:=upd_same (H:=upd H15 L4 (.lst [.ref p5])) (a:=M3) (o:= .lst (vs3++ [.ref p5]))
 have hTM3:=PlsAt.app (ws:= [.ref p5]) (us:=st4) (.cons (g2.mono (Ke.of_same (t6.trans u1))) .nil) (hTM2.mono (Ke.of_same (t26.trans u1)))
 have s0:=s014.trans (t26.trans u1)
 refine ⟨_,rfl,_,rfl,a,ns,kk,16,rfl,SqL.same s0 hS,h63,k0,by omega,by decide,fun r r0 r16=> ?_⟩
 obtain ⟨v,t,ev,mt,hv⟩:=pickP hTM3 r0 (by show r < (16:Int);omega)
 exact ⟨M3,_,r,v,rfl,rfl,SqL.of hM3,ev,k v t _ s0 hv (strange_ok t mt).1 (strange_ok t mt).2 (strange_no t mt)⟩
end
open PySem L2 Mth Tre Wd Su EqD
structure Cs (K:PySem.W.Frag) (mg:Str→Option Value) (C cL cW cA cN cT c1 c2 c3 c4:Addr) (bL bW:Bool):Prop where
 mL:mg "NoLevel"=some (.ref cL)
 mW:mg "NoWish"=some (.ref cW)
 mA:mg "NoAnswer"=some (.ref cA)
 mN:mg "NoLine"=some (.ref cN)
 mT:mg "NoText"=some (.ref cT)
 m1:mg "BadStep"=some (.ref c1)
 m2:mg "NoPaper"=some (.ref c2)
 m3:mg "NoShare"=some (.ref c3)
 m4:mg "NoStep"=some (.ref c4)
 xi:XIs K C
 kv:PySem.W.kitOne K (.ref C) (.type "ValueError")=some true
 kl:PySem.W.kitOne K (.ref C) (.ref cL)=some bL
 kw:PySem.W.kitOne K (.ref C) (.ref cW)=some bW
 ka:PySem.W.kitOne K (.ref C) (.ref cA)=some false
 kn:PySem.W.kitOne K (.ref C) (.ref cN)=some false
 kt:PySem.W.kitOne K (.ref C) (.ref cT)=some false
 ko:PySem.W.kitAny K (.ref C) [.ref c1, .ref c2, .ref c3, .ref c4]=some false
theorem lk_no {m:Str} {kl cl:Addr} (h1:(m==Str.ofString "kept")=false) (h2:(m==Str.ofString "counts")=false):(bfs kl cl).lookup m=none:=by
 unfold bfs
 rw [List.lookup_cons,h1]
 dsimp only
 rw [List.lookup_cons,h2]
 rfl
section
variable {P:Program} {w:World} {K:PySem.W.Frag} {mg:Str→Option Value} {base:Heap}
def spRefu (C:Addr) (wd:Str):Sp:=fun vs H Q _=>∃a:Addr,vs= [.ref a]∧H a=some (Cau C a)∧∀H',Same H H'→Q (.str wd) H'
theorem scRf:FnScope ["_law_caught","_law_words"] ["_law_caught"] (defScope sRefu):=⟨rfl,rfl,rfl,by decide +kernel,rfl,by decide +kernel,by decide +kernel⟩
theorem ok_refu {f C cL cW cA cN cT c1 c2 c3 c4:Addr} {fd:FuncData} {bL bW:Bool} {wd:Str} (F:Fun K "_law_refusal" "_law_refusal" sRefu f fd) (B:Blt mg) (L:Cs K mg C cL cW cA cN cT c1 c2 c3 c4 bL bW)
 (hw:(bL=true∧bW=false∧wd=Str.ofString "level")∨(bL=false∧bW=true∧wd=Str.ofString "wish")):FnOk P w K mg base CX0 1 f fd ["_law_caught"] (spRefu C wd):=by
 refine F.ok scRf (fun vs H Q E h=> ?_) (fun cdv A outer s H vs Q E hr h=> ?_)
 · obtain ⟨a,rfl,_⟩:=h
   rfl
 obtain ⟨a,rfl,ha,k⟩:=h
 refine ⟨_,pss_cons (ps_if (PW.pt (pw_or (pt_cmpR op_isN (pv 0) pe_non (nomark _)) (pw_or1 (pt_not (pt_val (pe_callB (r:=rIsi K) call_isi rfl B.isi boot_isinstance (pa_cons (pv 0) (pa_cons (pe_bltn (v:= .ty "ValueError") rfl B.ve boot_ve rfl) pa_nil)))))))) (pss_one (ps_ret pe_str)) pss_nil)
  (pss_cons (ps_set (i:=1) scRf.nd rfl (Or.inl rfl) (pe_lst pa_nil))
  (pss_cons (ps_if (pt_val (pe_callB (r:=rIsi K) call_isi rfl B.isi boot_isinstance (pa_cons (pv 0) (pa_cons (pe_glob (v:= .ref cL) rfl L.mL rfl) pa_nil)))) (pss_one (ps_expr (pe_bm PySem.F.plainAttrs_list PySem.F.slot_list_append PySem.F.type_list_append mt_append (pv 1) (pa_cons pe_str pa_nil)))) pss_nil)
  (pss_cons (ps_if (pt_val (pe_callB (r:=rIsi K) call_isi rfl B.isi boot_isinstance (pa_cons (pv 0) (pa_cons (pe_glob (v:= .ref cW) rfl L.mW rfl) pa_nil)))) (pss_one (ps_expr (pe_bm PySem.F.plainAttrs_list PySem.F.slot_list_append PySem.F.type_list_append mt_append (pv 1) (pa_cons pe_str pa_nil)))) pss_nil)
  (pss_cons (ps_if (pt_val (pe_callB (r:=rIsi K) call_isi rfl B.isi boot_isinstance (pa_cons (pv 0) (pa_cons (pe_glob (v:= .ref cA) rfl L.mA rfl) pa_nil)))) pss_no pss_nil)
  (pss_cons (ps_if (pt_val (pe_callB (r:=rIsi K) call_isi rfl B.isi boot_isinstance (pa_cons (pv 0) (pa_cons (pe_glob (v:= .ref cN) rfl L.mN rfl) pa_nil)))) pss_no pss_nil)
  (pss_cons (ps_if (pt_val (pe_callB (r:=rIsi K) call_isi rfl B.isi boot_isinstance (pa_cons (pv 0) (pa_cons (pe_glob (v:= .ref cT) rfl L.mT rfl) pa_nil)))) pss_no pss_nil)
  (pss_cons (ps_if (pt_val (pe_callB (r:=rIsi K) call_isi rfl B.isi boot_isinstance (pa_cons (pv 0) (pa_cons (pe_tup (pa_cons (pe_glob (v:= .ref c1) rfl L.m1 rfl) (pa_cons (pe_glob (v:= .ref c2) rfl L.m2 rfl) (pa_cons (pe_glob (v:= .ref c3) rfl L.m3 rfl) (pa_cons (pe_glob (v:= .ref c4) rfl L.m4 rfl) pa_nil))))) pa_nil)))) pss_no pss_nil)
  (pss_one (ps_ret (pe_ifExp (pt_cmpR op_eq (pe_callB call_len_seq rfl B.le PySem.boot_len (pa_cons (pv 1) pa_nil)) pe_int (nomark _)) (pe_ix ix_list (pv 1) pe_int fun _ _=>rfl) pe_str)))))))))),?_⟩
 have ty:∀H':Hp,Same H H'→TyX K H' (.ref a) (.ref C):=fun H' e=> .exc (e _ _ ha) L.xi
 refine ⟨_,rfl,rfl,_,rfl,if_f (decide_eq_false (fun z=>by cases z)) ?_⟩
 refine ⟨_,rfl, .ref a, .ty "ValueError",_,true,rfl,ty _ (Same.refl H), .inl ⟨rfl,L.kv⟩,true,rfl,iteF ?_⟩
 refine ⟨by show 0≤sizeLine;decide,fun D nD=> ?_⟩
 have s1:=same_upd (o:= .lst []) nD
 have hD1:(upd H D (.lst [])) D=some (.lst []):=upd_same
 generalize upd H D (.lst [])=H1 at*
 refine gname_of ?_
 try dsimp only
 refine seq_any (fun σ' H'=>Same H H'∧H' D=some (.lst (if bL=true then [.str (Str.ofString "level")] else []))∧σ'= [some (.ref a),some (.ref D)]) ?_ fun nx hnx=> ?_
 rotate_left
 · refine ⟨_,rfl, .ref a, .ref cL,_,bL,rfl,ty _ s1, .inl ⟨rfl,L.kl⟩,bL,rfl,?_⟩
   cases bL with
   |true=>exact iteT ⟨_,rfl, .inl ⟨rfl,_,SqL.of hD1⟩,D,[],_,rfl,rfl,hD1,by decide,hnx _ _ ⟨same_wr nD s1,upd_same,rfl⟩⟩
   |false=>exact iteF (hnx _ _ ⟨s1,hD1,rfl⟩)
 rintro σ' H2 ⟨s2,hD2,rfl⟩
 refine seq_any (fun σ' H'=>Same H H'∧H' D=some (.lst [.str wd])∧σ'= [some (.ref a),some (.ref D)]) ?_ fun nx hnx=> ?_
 rotate_left
 · refine ⟨_,rfl, .ref a, .ref cW,_,bW,rfl,ty _ s2, .inl ⟨rfl,L.kw⟩,bW,rfl,?_⟩
   rcases hw with ⟨rfl,rfl,rfl⟩|⟨rfl,rfl,rfl⟩
   · exact iteF (hnx _ _ ⟨s2,hD2,rfl⟩)
   · exact iteT ⟨_,rfl, .inl ⟨rfl,_,SqL.of hD2⟩,D,[],_,rfl,rfl,hD2,by decide,hnx _ _ ⟨same_wr nD s2,upd_same,rfl⟩⟩
 clear hD2 s2 hD1 s1
 rintro σ' H3 ⟨s3,hD3,rfl⟩
 refine ⟨_,rfl, .ref a, .ref cA,_,false,rfl,ty _ s3, .inl ⟨rfl,L.ka⟩,false,rfl,iteF ?_⟩
 refine ⟨_,rfl, .ref a, .ref cN,_,false,rfl,ty _ s3, .inl ⟨rfl,L.kn⟩,false,rfl,iteF ?_⟩
 refine ⟨_,rfl, .ref a, .ref cT,_,false,rfl,ty _ s3, .inl ⟨rfl,L.kt⟩,false,rfl,iteF ?_⟩
 refine ⟨_,rfl,by show 4≤sizeLine;decide,fun p np=> ?_⟩
 have s4:=same_upd (o:= .tup [.ref c1, .ref c2, .ref c3, .ref c4]) np
 refine ⟨.ref a, .ref p,_,false,rfl,ty _ (s3.trans s4), .inr ⟨p,_,rfl,upd_same,rfl,L.ko⟩,false,rfl,iteF ?_⟩
 have hD4:=s4 _ _ hD3
 refine ⟨_,rfl,D,_,rfl, .inl (SqL.of hD4),rfl,_,rfl,if_t (decide_eq_true rfl) ?_⟩
 exact ⟨_,rfl,D,_,0,_,rfl,rfl,SqL.of hD4,rfl,k _ (s3.trans s4)⟩
def spAsk (C:Addr):Sp:=fun vs H Q _=>∃(b dx kl cl:Addr) (xs cs:List V),H b=some (.ins C dx (bfs kl cl))∧H kl=some (.lst xs)∧H cl=some (.lst cs)∧kl≠cl∧xs.length < 1000∧
 ((vs= [.ref b, .int 0, .non]∧cs= []∧∀H',Same H H'→Q (.str (Str.ofString "level")) H')∨∃v p,vs= [.ref b, .int 1,v]∧PlAt H v p∧Ok p∧pdep p < 13∧wsB 13 p=false∧∀H',Same H H'→Q (.str (Str.ofString "wish")) H')
theorem scAk:FnScope ["_law_bench","_law_way","_law_thing","_law_caught","e"] ["_law_bench","_law_way","_law_thing"] (defScope sAsk):=⟨rfl,rfl,rfl,by decide +kernel,rfl,by decide +kernel,by decide +kernel⟩
theorem ok_ask {f C W CL CW fO fP fR:Addr} {fd dO dP dR:FuncData} (F:Fun K "_law_asked" "_law_asked" sAsk f fd) (hC:Bc K C) (mW:mg "WishError"=some (.ref W))
 (hL:PySem.W.exmOne K (.ref CL) (.ref W)=some true) (hWi:PySem.W.exmOne K (.ref CW) (.ref W)=some true)
 (MO:Meth K C "pop" fO) (gO:FnOk P w K mg base (CX1 P w) 3 fO dO ["self"] (spBo C CL)) (bO:Binds K dO ["self"] [])
 (MP:Meth K C "put" fP) (gP:FnOk P w K mg base (CX1 P w) 43 fP dP ["self","wish"] (spBp C CW)) (bP:Binds K dP ["self","wish"] [])
 (gL:FnOk P w K mg base CX0 1 fR dR ["_law_caught"] (spRefu CL (Str.ofString "level"))) (gW:FnOk P w K mg base CX0 1 fR dR ["_law_caught"] (spRefu CW (Str.ofString "wish"))) (kR:PySem.W.keepIn K (.ref fR)=true) (bR:Binds K dR ["_law_caught"] []) (mR:mg "_law_refusal"=some (.ref fR)):
 FnOk P w K mg base CX0 44 f fd ["_law_bench","_law_way","_law_thing"] (spAsk C):=by
 have gR:FnOk P w K mg base CX0 1 fR dR ["_law_caught"] (fun vs H Q E=>spRefu CL (Str.ofString "level") vs H Q E∨spRefu CW (Str.ofString "wish") vs H Q E):=⟨fun vs H Q E h=>h.elim (gL.len vs H Q E) (gW.len vs H Q E),fun A outer s H args us vs Q E hr e0 hb r h=>h.elim (fun h=>gL.run A outer s H args us vs Q E hr e0 hb r h) fun h=>gW.run A outer s H args us vs Q E hr e0 hb r h⟩
 refine F.ok scAk (fun vs H Q E h=> ?_) (fun cdv A outer s H vs Q E hr h=> ?_)
 · obtain ⟨b,dx,kl,cl,xs,cs,_,_,_,_,_,⟨rfl,_⟩|⟨v,p,rfl,_⟩⟩:=h
   · rfl
   · rfl
 obtain ⟨b,dx,kl,cl,xs,cs,hb,hk,hc,nkc,hl,h⟩:=h
 have hr1:Room 1 _:=hr.mono (by decide)
 have hr3:Room 3 _:=hr.mono (by decide)
 refine ⟨_,pss_cons (ps_set (i:=3) scAk.nd rfl (Or.inl rfl) pe_non)
  (pss_cons (ps_tryN (i:=4) (W:=W) (cx:="WishError") rfl rfl scAk.nd rfl rfl rfl mW
   (psx_if (fun _ _ z=>z) (pt_cmpR op_eq (pv 1) pe_int (nomark _)) (psx_meth0 (fun _ _ z=>z) (pv 0) hC.cls MO gO hr3 bO) (psx_meth (fun _ _ z=>z) (pv 0) hC.cls MP gP hr bP (pa_cons (pv 2) pa_nil)))
   (fun a=>pss_one (ps_set (i:=3) scAk.nd rfl (Or.inl rfl) (pv 4))))
  (pss_one (ps_ret (pe_call gR hr1 rfl mR kR bR .nil pass0 (pa_cons (pv 3) pa_nil))))),?_⟩
 rcases h with ⟨rfl,rfl,k⟩|⟨v,p,rfl,hv,ok,hd,ew,k⟩
 · refine ⟨_,rfl,rfl,_,rfl,if_t (decide_eq_true rfl) ?_⟩
   refine ⟨_,rfl,b,dx,_,rfl,hb,lk_no (by decide +kernel) (by decide +kernel),b,dx,kl,cl,xs,[],rfl,hb,hk,hc,nkc,fun _=> ?_,fun z=>absurd rfl z⟩
   refine ⟨CL,rfl,hL,fun a na=> ?_⟩
   have s2:=same_upd (o:=Cau CL a) na
   refine ⟨_,rfl,?_⟩
   exact ⟨_,rfl, .inl ⟨a,rfl,upd_same,fun H' s'=>k _ (s2.trans s')⟩⟩
 · refine ⟨_,rfl,rfl,_,rfl,if_f (decide_eq_false (by decide)) ?_⟩
   refine ⟨_,rfl,b,dx,_,rfl,hb,lk_no (by decide +kernel) (by decide +kernel),_,rfl,b,dx,kl,cl,xs,v,p,rfl,hb,hk,hl,hv,ok,hd,fun _ H1 s1=> ?_,fun z=>absurd z (by rw [ew];exact Bool.false_ne_true)⟩
   refine ⟨CW,rfl,hWi,fun a na=> ?_⟩
   have s2:=same_upd (o:=Cau CW a) na
   refine ⟨_,rfl,?_⟩
   exact ⟨_,rfl, .inr ⟨a,rfl,upd_same,fun H' s'=>k _ (s1.trans (s2.trans s'))⟩⟩
end
end K81
namespace L2
open PySem PySem.Spec PyProof.Rows
section
variable {X:Cx}
end
end L2
namespace Tre
open PySem PySem.Spec PyProof.Rows L2
section
variable {X:Cx}
def rEqL (b:Bool):R2:=fun x y H Q=>∃l m vs ws ts us,x= .ref l∧y= .ref m∧H l=some (.lst vs)∧H m=some (.lst ws)∧TrsAt H vs ts∧TrsAt H ws us∧(Trs.pure ts∨Trs.pure us)∧Trs.depth ts≤40∧Q (.bl (eqTs ts us==b)) H
theorem eqTs_len {ts us:List Tr} (h:ts.length≠us.length):eqTs ts us=false:=by
 rw [eqTs_all,Bool.and_eq_false_iff]
 right
 simp [h]
theorem lists_rc {A:Around} {pins:List (Addr×Obj)} {σ:L2.St} {H:Hp} {s:Shared} {l m:Addr} {vs ws:List V} {ts us:List Tr} (hu:A.units+50 < cLine) (I:Inv X pins σ H s) (h1:H l=some (.lst vs)) (h2:H m=some (.lst ws)) (k1:TrsAt H vs ts) (k2:TrsAt H ws us) (hp:Trs.pure ts∨Trs.pure us) (hd:Trs.depth ts≤40):
 SeqAt.RcAt A s (.ref l) (.ref m) (eqTs ts us)∧SeqAt.RcNeAt A s (.ref l) (.ref m) (!eqTs ts us):=by
 obtain ⟨as,r1,p1,_⟩:=I.list (SqL.of h1)
 obtain ⟨bs,r2,p2,_⟩:=I.list (SqL.of h2)
 have l1:=k1.len
 have l2:=k2.len
 have l3:=r1.length
 have l4:=r2.length
 by_cases z:ts.length=us.length
 · have hsz:as.toArray.size=bs.toArray.size:=by rw [List.size_toArray,List.size_toArray];omega
   have he:=fun j (g1:j < as.toArray.size) (g2:j < bs.toArray.size)=>items_eq (A:=A.in1) I (by show A.units+1+42 < cLine;omega) k1 k2 hp hd r1 r2 j g1 g2
   have a1:=SeqAt.RcAt.lists (A:=A) (e:=eqJ ts us) p1.isList p2.isList hsz (by omega) he
   have a2:=SeqAt.RcNeAt.lists (A:=A) (e:=eqJ ts us) p1.isList p2.isList hsz (by omega) he
   have e:(List.range as.toArray.size).all (eqJ ts us)=eqTs ts us:=by
    rw [eqTs_all,←z,Nat.min_self]
    have:as.toArray.size=ts.length:=by rw [List.size_toArray];omega
    rw [this]
    simp
   rw [e] at a1 a2
   exact ⟨a1,a2⟩
 · have hsz:(as.toArray.size !=bs.toArray.size)=true:=by
    rw [List.size_toArray,List.size_toArray]
    simp only [bne_iff_ne,ne_eq]
    omega
   rw [eqTs_len z]
   exact ⟨SeqAt.RcAt.lists_lengths p1.isList p2.isList hsz (by omega),SeqAt.RcNeAt.lists_lengths p1.isList p2.isList hsz (by omega)⟩
theorem op_eqL (hu:X.A.units+60 < cLine):OpR X (compareOp .Eq) (rEqL true):=by
 intro pins s σ H x y v u Q I rx ry h
 obtain ⟨l,m,vs,ws,ts,us,rfl,rfl,h1,h2,k1,k2,hp,hd,q⟩:=h
 cases rx
 cases ry
 rw [beq_t] at q
 exact (lists_rc (A:=X.A) (by omega) I h1 h2 k1 k2 hp hd).1 X.prog X.w X.xe _ ⟨.bl (eqTs ts us),H,I,rfl,q⟩
theorem op_neL (hu:X.A.units+60 < cLine):OpR X (compareOp .NotEq) (rEqL false):=by
 intro pins s σ H x y v u Q I rx ry h
 obtain ⟨l,m,vs,ws,ts,us,rfl,rfl,h1,h2,k1,k2,hp,hd,q⟩:=h
 cases rx
 cases ry
 rw [beq_f] at q
 exact (lists_rc (A:=X.A) (by omega) I h1 h2 k1 k2 hp hd).2 X.prog X.w X.xe _ ⟨.bl (!eqTs ts us),H,I,rfl,q⟩
end
open PySem PySem.Spec PyProof.Rows L2
section
variable {X:Cx}
end
end Tre
namespace K81
open PySem L2 Mth Tre Wd Su EqD
noncomputable def cnt (us:List (List V)):List V:=(List.range us.length).map fun j=>V.int ((us.take (j+1)).flatten.length:Int)
theorem cnt_len (us:List (List V)):(cnt us).length=us.length:=by simp [cnt]
theorem cnt_snoc (us:List (List V)) (l:List V):cnt (us++ [l])=cnt us++ [.int (((us++ [l]).flatten.length:Nat):Int)]:=by
 unfold cnt
 rw [List.length_append,List.length_singleton,List.range_succ,List.map_append,List.map_singleton]
 congr 1
 · refine List.map_congr_left fun j m=> ?_
   rw [List.take_append_of_le_length (by have:=List.mem_range.mp m;omega)]
 · rw [List.take_of_length_le (by rw [List.length_append,List.length_singleton];omega)]
theorem flat_snoc (us:List (List V)) (l:List V):(us++ [l]).flatten=us.flatten++l:=by simp
def Gd (H:Hp) (v:V):Prop:=∃t,TrAt H v t∧Gz 2 t
theorem Gd.kd {H H':Hp} {v:V} (h:Gd H v) (k:Kd H H'):Gd H' v:=by
 obtain ⟨t,h1,h2⟩:=h
 exact ⟨t,h1.mono k,h2⟩
theorem gd_all {H:Hp}:∀ {vs:List V},(∀v∈vs,Gd H v)→∃ts,TrsAt H vs ts∧∀t∈ts,Gz 2 t
 | [],_=>⟨[], .nil,fun t m=>nomatch m⟩
 |v::vs,h=>by
  obtain ⟨t,h1,h2⟩:=h v List.mem_cons_self
  obtain ⟨ts,h3,h4⟩:=gd_all fun u m=>h u (List.mem_cons_of_mem _ m)
  refine ⟨t::ts, .cons h1 h3,fun u m=> ?_⟩
  rcases List.mem_cons.mp m with rfl|m
  · exact h2
  · exact h4 u m
structure Bx where
 b:Addr
 K:Addr
 dx:Addr
 kl:Addr
 cl:Addr
 js:List Addr
 i:Addr
 us:List (List V)
 l:List V
def Bx.fp (x:Bx):List Addr:=x.b::x.kl::x.cl::x.K::x.i::x.js
def Bx.all (x:Bx):List V:=x.us.flatten++x.l
structure Bn (C:Addr) (H:Hp) (x:Bx) (N:Nat):Prop where
 nd:x.fp.Nodup
 hb:H x.b=some (.ins C x.dx (bfs x.kl x.cl))
 hk:H x.kl=some (.lst x.all)
 hc:H x.cl=some (.lst (cnt x.us))
 hK:H x.K=some (.lst ((x.js++ [x.i]).map V.ref))
 hl:x.js.length=x.us.length
 hj:∀(n:Nat) j u,x.js[n]?=some j→x.us[n]?=some u→H j=some (.lst u)
 hi:H x.i=some (.lst x.l)
 gd:∀v∈x.all,Gd H v
 s1:x.us.length≤N
 s2:x.all.length≤N
theorem Bn.frame {C:Addr} {H H':Hp} {x:Bx} {N M:Nat} (h:Bn C H x N) (hf:∀a o,a∈x.fp→H a=some o→H' a=some o) (kd:Kd H H') (hM:N≤M):Bn C H' x M:=by
 refine ⟨h.nd,hf _ _ (by simp [Bx.fp]) h.hb,hf _ _ (by simp [Bx.fp]) h.hk,hf _ _ (by simp [Bx.fp]) h.hc,hf _ _ (by simp [Bx.fp]) h.hK,h.hl,fun n j u e1 e2=>hf _ _ ?_ (h.hj n j u e1 e2),hf _ _ (by simp [Bx.fp]) h.hi,fun v m=>(h.gd v m).kd kd,Nat.le_trans h.s1 hM,Nat.le_trans h.s2 hM⟩
 simp [Bx.fp,List.mem_of_getElem? e1]
theorem Bn.same {C:Addr} {H H':Hp} {x:Bx} {N:Nat} (h:Bn C H x N) (s:Same H H'):Bn C H' x N:=h.frame (fun a o _ e=>s a o e) (Kd.of_same s) (Nat.le_refl _)
theorem Bn.at {C:Addr} {H:Hp} {x:Bx} {N:Nat} (h:Bn C H x N) {n:Nat} {j:Addr} (e:(x.js++ [x.i])[n]?=some j):∃u,(x.us++ [x.l])[n]?=some u∧H j=some (.lst u):=by
 by_cases z:n < x.js.length
 · rw [List.getElem?_append_left z] at e
   have z':n < x.us.length:=by have:=h.hl;omega
   refine ⟨x.us[n],?_,h.hj n j _ e (List.getElem?_eq_getElem z')⟩
   rw [List.getElem?_append_left z',List.getElem?_eq_getElem z']
 · have hn:n=x.js.length:=by
    have:=(List.getElem?_eq_some_iff.mp e).1
    rw [List.length_append,List.length_singleton] at this
    omega
   rw [List.getElem?_append_right (by omega),hn,Nat.sub_self] at e
   simp at e
   subst e
   refine ⟨x.l,?_,h.hi⟩
   rw [List.getElem?_append_right (by have:=h.hl;omega),show n - x.us.length=0 by have:=h.hl;omega]
   rfl
section
variable {P:Program} {w:World} {K:PySem.W.Frag} {mg:Str→Option Value} {base:Heap}
def spTld (C:Addr):Sp:=fun vs H Q _=>∃(x:Bx),vs= [.ref x.b, .ref x.K]∧Bn C H x 500∧∀H',Same H H'→Q (.bl true) H'
theorem scTl:FnScope ["_law_bench","_law_kept","_law_due","_law_some","_law_found"] ["_law_bench","_law_kept"] (defScope sTold):=⟨rfl,rfl,rfl,by decide +kernel,rfl,by decide +kernel,by decide +kernel⟩
theorem kit_ll (K:PySem.W.Frag):PySem.W.kitOne K (.type "list") (.type "list")=some true:=by kernel_rfl
theorem kit_ib (K:PySem.W.Frag):PySem.W.kitOne K (.type "int") (.type "bool")=some false:=by kernel_rfl
theorem gz_list {H:Hp} {vs:List V} {ts:List Tr} (h:TrsAt H vs ts) (g:∀t∈ts,Gz 2 t):Trs.pure ts∧Trs.depth ts≤40:=
 ⟨pure_all fun t m=>(gz_ws (g t m)).2.2.1,depths_le fun t m=>by have:=(gz_ws (g t m)).2.1;omega⟩
theorem eqTs_refl' (ts:List Tr):eqTs ts ts=true:=eqTs_refl ts
theorem ok_tld {f C fW fL:Addr} {fd dW dL:FuncData} (F:Fun K "_law_is_told" "_law_is_told" sTold f fd) (hC:Bc K C) (B:Blt mg)
 (MW:Meth K C "wishes" fW) (gW:FnOk P w K mg base CX0 1 fW dW ["self"] (spBw C)) (bW:Binds K dW ["self"] [])
 (ML:Meth K C "level" fL) (gL:FnOk P w K mg base CX0 1 fL dL ["self"] (spBl C)) (bL:Binds K dL ["self"] []):FnOk P w K mg base CX0 2 f fd ["_law_bench","_law_kept"] (spTld C):=by
 refine F.ok scTl (fun vs H Q E h=> ?_) (fun cdv A outer s H vs Q E hr h=> ?_)
 · obtain ⟨x,rfl,_⟩:=h
   rfl
 obtain ⟨x,rfl,bn,k⟩:=h
 have hun:=hr.units
 have hu60:_+60 < cLine:=Nat.lt_of_le_of_lt (Nat.add_le_add_left (by decide) _) hun
 refine ⟨_,pss_cons (ps_set (i:=2) scTl.nd rfl (Or.inl rfl) (pe_lst pa_nil))
  (pss_cons (ps_for PassesOwn.never rfl (pi_list (pv 1)) (pg_name (i:=3) scTl.nd rfl (Or.inl rfl)) (pss_one (ps_set (i:=2) scTl.nd rfl (Or.inl rfl) (pe_op op_cat (pv 2) (pv 3)))))
  (pss_cons (ps_set (i:=4) scTl.nd rfl (Or.inl rfl) (pe_meth0 (pv 0) hC.cls MW gW hr bW .nil pass0))
  (pss_cons (ps_if (PW.pt (pw_or (pt_not (pt_val (pe_callB (r:=rIsi K) call_isi rfl B.isi boot_isinstance (pa_cons (pv 4) (pa_cons (pe_bltn (v:= .ty "list") rfl B.li PyProof.Rows.boot_list rfl) pa_nil))))) (pw_or (pt_cmpR (op_neL hu60) (pv 4) (pv 2) (nomark _)) (pw_or1 (pt_cmpR op_ne (pe_meth0 (pv 0) hC.cls ML gL hr bL .nil pass0) (pe_op op_sub (pe_callB call_len_seq rfl B.le PySem.boot_len (pa_cons (pv 1) pa_nil)) pe_int) (nomark _)))))) (pss_one (ps_ret pe_bl)) pss_nil)
  (pss_cons (ps_if (pt_val (pe_callB (r:=rIsi K) call_isi rfl B.isi boot_isinstance (pa_cons (pe_meth0 (pv 0) hC.cls ML gL hr bL .nil pass0) (pa_cons (pe_bltn (v:= .ty "bool") rfl B.bo PyProof.Rows.boot_bool rfl) pa_nil)))) (pss_one (ps_ret pe_bl)) pss_nil)
  (pss_cons (ps_expr (pe_bm PySem.F.plainAttrs_list PySem.F.slot_list_append PySem.F.type_list_append mt_append (pv 4) (pa_cons pe_non pa_nil)))
  (pss_one (ps_ret (pe_cmpR (op_eqL hu60) (pe_meth0 (pv 0) hC.cls MW gW hr bW .nil pass0) (pv 2) (nomark _))))))))),?_⟩
 have hL:(20000:Nat)≤sizeLine:=by decide +kernel
 refine ⟨by show 0≤sizeLine;decide,fun D nD=> ?_⟩
 have sD:=same_upd (o:= .lst []) nD
 refine gname_of ?_
 try dsimp only
 have hK1:=sD _ _ bn.hK
 have a500:=bn.s2
 have u500:=bn.s1
 have hl:=bn.hl
 refine ⟨_,rfl,x.K,rfl,⟨_,SqL.of hK1⟩,?_⟩
 refine for_list (xs:=(x.js++ [x.i]).map V.ref) (fun n σ H'=>Same H H'∧∃D v3,σ= [some (.ref x.b),some (.ref x.K),some (.ref D),v3,none]∧H' D=some (.lst ((x.us++ [x.l]).take n).flatten))
  ⟨sD,D,none,rfl,by simp only [List.take_zero,List.flatten_nil];exact upd_same⟩ (fun n σ H' _ p=>SqL.of (p.1 _ _ bn.hK)) ?_ ?_
 · rintro n v σ H1 ev ⟨s1,D1,v3,rfl,hD1⟩
   rw [List.getElem?_map] at ev
   obtain ⟨j,ej,rfl⟩:=Option.map_eq_some_iff.mp ev
   obtain ⟨u,eu,hu⟩:=bn.at ej
   refine gname_of ?_
   try dsimp only
   have e1:(x.us++ [x.l]).take (n+1)=(x.us++ [x.l]).take n++ [u]:=by rw [List.take_add_one,eu];rfl
   have lt:(((x.us++ [x.l]).take (n+1)).flatten).length≤500:=by
    have h1:(((x.us++ [x.l]).take (n+1)).flatten) <+:((x.us++ [x.l]).flatten):=by
     refine ⟨((x.us++ [x.l]).drop (n+1)).flatten,?_⟩
     rw [←List.flatten_append,List.take_append_drop]
    have h2:=h1.length_le
    rw [flat_snoc] at h2
    exact Nat.le_trans h2 a500
   rw [e1,List.flatten_append] at lt
   simp only [List.flatten_cons,List.flatten_nil,List.append_nil,List.length_append] at lt
   refine ⟨_,rfl,_,rfl,D1,j,_,u,rfl,rfl,hD1,s1 _ _ hu,by omega,fun M nM=> ?_⟩
   refine ⟨s1.trans (same_upd nM),M,_,rfl,?_⟩
   rw [upd_same,e1,List.flatten_append]
   simp
 rintro σ H1 ⟨s1,D1,v3,rfl,hD1⟩
 rw [List.length_map,List.length_append,List.length_singleton,List.take_of_length_le (by rw [List.length_append,List.length_singleton];omega),flat_snoc] at hD1
 have bn1:=bn.same s1
 obtain ⟨ts,hT,gT⟩:=gd_all bn1.gd
 have pd:=gz_list hT gT
 refine ⟨_,rfl,x.b,x.dx,_,rfl,bn1.hb,lk_no (by decide +kernel) (by decide +kernel),x.b,x.dx,x.kl,x.cl,_,rfl,bn1.hb,bn1.hk,fun R nR=> ?_⟩
 have sR:=same_upd (o:= .lst x.all) nR
 have hR2:(upd H1 R (.lst x.all)) R=some (.lst x.all):=upd_same
 have bn2:=bn1.same sR
 have hD2:=sR _ _ hD1
 have hT2:=hT.mono (Kd.of_same sR)
 have s2:=s1.trans sR
 have nRD:D1≠R:=fun z=>by rw [z,nR] at hD1;cases hD1
 generalize upd H1 R (.lst x.all)=H2 at*
 refine gname_of ?_
 try dsimp only
 refine ⟨_,rfl, .ref R, .ty "list", .type "list",true,rfl, .of (.lst hR2), .inl ⟨rfl,kit_ll K⟩,_,rfl,iteF ?_⟩
 refine ⟨_,rfl,_,rfl,R,D1,_,_,ts,ts,rfl,rfl,hR2,hD2,hT2,hT2, .inl pd.1,pd.2,_,rfl,if_f (by rw [eqTs_refl'];rfl) ?_⟩
 refine ⟨_,rfl,x.b,x.dx,_,rfl,bn2.hb,lk_no (by decide +kernel) (by decide +kernel),x.b,x.dx,x.kl,x.cl,_,rfl,bn2.hb,bn2.hc,?_⟩
 refine ⟨_,rfl,x.K,_,rfl, .inl (SqL.of bn2.hK),_,_,rfl,rfl,rfl,_,rfl,if_f ?_ ?_⟩
 · rw [cnt_len,List.length_map,List.length_append,List.length_singleton]
   rw [decide_eq_true (show V.int (x.us.length:Int)=V.int (((x.js.length+1:Nat):Int) - 1) by congr 1;omega)]
   rfl
 refine ⟨_,rfl,x.b,x.dx,_,rfl,bn2.hb,lk_no (by decide +kernel) (by decide +kernel),x.b,x.dx,x.kl,x.cl,_,rfl,bn2.hb,bn2.hc,?_⟩
 refine ⟨.int _, .ty "bool", .type "int",false,rfl, .of (.int _), .inl ⟨rfl,kit_ib K⟩,_,rfl,iteF ?_⟩
 refine ⟨_,rfl, .inl ⟨rfl,_,SqL.of hR2⟩,R,_,_,rfl,rfl,hR2,by omega,?_⟩
 have nR1:H R=none:=by
  cases e:H R with
  |none=>rfl
  |some o=>rw [s1 _ _ e] at nR;cases nR
 have s3:Same H (upd H2 R (.lst (x.all++ [.non]))):=same_wr nR1 s2
 have hD3:(upd H2 R (.lst (x.all++ [.non]))) D1=some (.lst x.all):=(upd_ne nRD).trans hD2
 have bn3:=bn.same s3
 have hT3:=hT2.mono (Kd.upd (ys:=x.all++ [.non]) hR2)
 generalize upd H2 R (.lst (x.all++ [.non]))=H3 at*
 refine ⟨_,rfl,x.b,x.dx,_,rfl,bn3.hb,lk_no (by decide +kernel) (by decide +kernel),x.b,x.dx,x.kl,x.cl,_,rfl,bn3.hb,bn3.hk,fun R2 nR2=> ?_⟩
 have sR2:=same_upd (o:= .lst x.all) nR2
 refine ⟨_,rfl,R2,D1,_,_,ts,ts,rfl,rfl,upd_same,sR2 _ _ hD3,hT3.mono (Kd.of_same sR2),hT3.mono (Kd.of_same sR2), .inl pd.1,pd.2,?_⟩
 rw [eqTs_refl']
 exact k _ (s3.trans sR2)
end
open PySem L2 Mth Tre Wd Su EqD
structure Done (C:Addr) (H H':Hp) (x y:Bx) (N:Nat):Prop where
 bn:Bn C H' y N
 eb:y.b=x.b
 eK:y.K=x.K
 out:∀a o,a∉x.fp→H a=some o→H' a=some o
 kd:Kd H H'
 fp:∀a∈y.fp,a∈x.fp∨H a=none
theorem Done.same {C:Addr} {H H1 H':Hp} {x y:Bx} {N:Nat} (s:Same H H1) (d:Done C H1 H' x y N):Done C H H' x y N:=
 ⟨d.bn,d.eb,d.eK,fun a o n e=>d.out a o n (s _ _ e),(Kd.of_same s).trans d.kd,fun a m=>(d.fp a m).imp id fun e=>s.none e⟩
theorem Done.refl {C:Addr} {H H':Hp} {x:Bx} {N M:Nat} (s:Same H H') (b:Bn C H x N) (hM:N≤M):Done C H H' x x M:=
 ⟨b.frame (fun a o _ e=>s a o e) (Kd.of_same s) hM,rfl,rfl,fun a o _ e=>s a o e,Kd.of_same s,fun a m=> .inl m⟩
def rLen (K:PySem.W.Frag):List V→Hp→VK→Prop:=fun xs H Q=>∃p ys,xs= [.ref p]∧(SqL K H p ys∨SqT K H p ys)∧Q (.int ys.length) H
theorem Bn.ex {C:Addr} {H:Hp} {x:Bx} {N:Nat} (h:Bn C H x N) {a:Addr} (m:a∈x.fp):∃o,H a=some o:=by
 simp only [Bx.fp,List.mem_cons] at m
 rcases m with rfl|rfl|rfl|rfl|rfl|m
 · exact ⟨_,h.hb⟩
 · exact ⟨_,h.hk⟩
 · exact ⟨_,h.hc⟩
 · exact ⟨_,h.hK⟩
 · exact ⟨_,h.hi⟩
 · obtain ⟨n,hn,e⟩:=List.getElem_of_mem m
   have e1:x.js[n]?=some a:=by rw [List.getElem?_eq_getElem hn,e]
   have z:n < x.us.length:=by have:=h.hl;omega
   exact ⟨_,h.hj n a _ e1 (List.getElem?_eq_getElem z)⟩
theorem Bn.new {C:Addr} {H:Hp} {x:Bx} {N:Nat} (h:Bn C H x N) {a:Addr} (e:H a=none):a∉x.fp:=fun m=>by
 obtain ⟨o,e'⟩:=h.ex m
 rw [e] at e'
 cases e'
structure Df (x:Bx):Prop where
 bk:x.b≠x.kl
 bc:x.b≠x.cl
 bK:x.b≠x.K
 bi:x.b≠x.i
 bj:x.b∉x.js
 kc:x.kl≠x.cl
 kK:x.kl≠x.K
 ki:x.kl≠x.i
 kj:x.kl∉x.js
 cK:x.cl≠x.K
 ci:x.cl≠x.i
 cj:x.cl∉x.js
 Ki:x.K≠x.i
 Kj:x.K∉x.js
 ij:x.i∉x.js
 jn:x.js.Nodup
theorem Bn.df {C:Addr} {H:Hp} {x:Bx} {N:Nat} (h:Bn C H x N):Df x:=by
 have:=h.nd
 simp only [Bx.fp,List.nodup_cons,List.mem_cons,not_or] at this
 obtain ⟨⟨a1,a2,a3,a4,a5⟩,⟨b1,b2,b3,b4⟩,⟨c1,c2,c3⟩,⟨d1,d2⟩,e1,e2⟩:=this
 exact ⟨a1,a2,a3,a4,a5,b1,b2,b3,b4,c1,c2,c3,d1,d2,e1,e2⟩
section
variable {P:Program} {w:World} {K:PySem.W.Frag} {mg:Str→Option Value} {base:Heap}
theorem sum_lens (us:List (List V)):(us.map fun u=>(u.length:Int)).sum=(us.flatten.length:Int):=by
 induction us with
 |nil=>rfl
 |cons u us ih=>rw [List.map_cons,List.sum_cons,ih,List.flatten_cons,List.length_append];omega
def spDeed (K:PySem.W.Frag) (C:Addr):Sp:=fun vs H Q _=>∃(a:Addr) (ns:List Int) (kk:Int) (x:Bx) (v:V) (N:Nat),vs= [.ref a, .int kk, .ref x.b, .ref x.K,v]∧SqL K H a (ns.map V.int)∧ns.length≤63∧0≤kk∧kk≤80000∧Bn C H x N∧N < 400∧Gd H v∧
 ∀y H',Done C H H' x y (N+1)→Q (.bl true) H'
theorem scDe:FnScope ["_law_script","_law_k","_law_bench","_law_kept","_law_wish_here","_law_way","_law_number"] ["_law_script","_law_k","_law_bench","_law_kept","_law_wish_here"] (defScope sDeed):=⟨rfl,rfl,rfl,by decide +kernel,rfl,by decide +kernel,by decide +kernel⟩
theorem ok_deed {f C CL CW fD fU fO fP fA fS:Addr} {fd dD dU dO dP dA dS:FuncData} (F:Fun K "_law_deed" "_law_deed" sDeed f fd) (hC:Bc K C) (B:Blt mg)
 (gD:FnOk P w K mg base CX0 1 fD dD ["_law_script","_law_k","_law_many"] (spDraw K)) (kD:PySem.W.keepIn K (.ref fD)=true) (bD:Binds K dD ["_law_script","_law_k","_law_many"] []) (mD:mg "_law_draw"=some (.ref fD))
 (MU:Meth K C "push" fU) (gU:FnOk P w K mg base CX0 1 fU dU ["self"] (spBu C)) (bU:Binds K dU ["self"] [])
 (MO:Meth K C "pop" fO) (gO:FnOk P w K mg base (CX1 P w) 3 fO dO ["self"] (spBo C CL)) (bO:Binds K dO ["self"] [])
 (MP:Meth K C "put" fP) (gP:FnOk P w K mg base (CX1 P w) 43 fP dP ["self","wish"] (spBp C CW)) (bP:Binds K dP ["self","wish"] [])
 (gA:FnOk P w K mg base CX0 44 fA dA ["_law_bench","_law_way","_law_thing"] (spAsk C)) (kA:PySem.W.keepIn K (.ref fA)=true) (bA:Binds K dA ["_law_bench","_law_way","_law_thing"] []) (mA:mg "_law_asked"=some (.ref fA))
 (gS:FnOk P w K mg base CX0 2 fS dS ["_law_script","_law_k"] (spStr K)) (kS:PySem.W.keepIn K (.ref fS)=true) (bS:Binds K dS ["_law_script","_law_k"] []) (mS:mg "_law_strange"=some (.ref fS)):
 FnOk P w K mg base CX0 45 f fd ["_law_script","_law_k","_law_bench","_law_kept","_law_wish_here"] (spDeed K C):=by
 refine F.ok scDe (fun vs H Q E h=> ?_) (fun cdv A outer s H vs Q E hr h=> ?_)
 · obtain ⟨a,ns,kk,x,v,N,rfl,_⟩:=h
   rfl
 obtain ⟨a,ns,kk,x,v,N,rfl,hS,h63,k0,k9,bn,hN,gv,k⟩:=h
 have hr1:Room 1 _:=hr.mono (by decide)
 have hr2:Room 2 _:=hr.mono (by decide)
 have hr3:Room 3 _:=hr.mono (by decide)
 have hr43:Room 43 _:=hr.mono (by decide)
 refine ⟨_,pss_cons (ps_set (i:=5) scDe.nd rfl (Or.inl rfl) (pe_call gD hr1 rfl mD kD bD .nil pass0 (pa_cons (pv 0) (pa_cons (pv 1) (pa_cons pe_int pa_nil)))))
  (pss_cons (ps_if (pt_cmpR op_eq (pv 5) pe_int (nomark _))
   (pss_cons (ps_expr (pe_bm PySem.F.plainAttrs_list PySem.F.slot_list_append PySem.F.type_list_append mt_append (pv 3) (pa_cons (pe_lst pa_nil) pa_nil)))
   (pss_one (ps_ret (pe_cmpR op_eq (pe_meth0 (pv 2) hC.cls MU gU hr1 bU .nil pass0) (pe_op op_sub (pe_callB call_len_seq rfl B.le PySem.boot_len (pa_cons (pv 3) pa_nil)) pe_int) (nomark _))))) pss_nil)
  (pss_cons (ps_if (PW.pt (pw_and (pt_cmpR op_eq (pv 5) pe_int (nomark _)) (pw_and1 (pt_cmpR op_gt (pe_callB call_len_seq rfl B.le PySem.boot_len (pa_cons (pv 3) pa_nil)) pe_int (nomark _)))))
   (pss_cons (ps_expr (pe_bm0 PySem.F.plainAttrs_list PySem.F.slot_list_pop PySem.F.type_list_pop mt_pop (pv 3)))
   (pss_one (ps_ret (pe_cmpR op_eq (pe_meth0 (pv 2) hC.cls MO gO hr3 bO .nil pass1) (pe_op op_sub (pe_callB call_len_seq rfl B.le PySem.boot_len (pa_cons (pv 3) pa_nil)) pe_int) (nomark _))))) pss_nil)
  (pss_cons (ps_if (pt_cmpR op_eq (pv 5) pe_int (nomark _)) (pss_one (ps_ret (pe_cmpR op_eq (pe_call gA hr rfl mA kA bA .nil pass0 (pa_cons (pv 2) (pa_cons pe_int (pa_cons pe_non pa_nil)))) pe_str (nomark _)))) pss_nil)
  (pss_cons (ps_if (pt_cmpR op_eq (pv 5) pe_int (nomark _)) (pss_one (ps_ret (pe_cmpR op_eq (pe_call gA hr rfl mA kA bA .nil pass0 (pa_cons (pv 2) (pa_cons pe_int (pa_cons (pe_call gS hr2 rfl mS kS bS .nil pass0 (pa_cons (pv 0) (pa_cons (pe_op op_add (pv 1) pe_int) pa_nil))) pa_nil)))) pe_str (nomark _)))) pss_nil)
  (pss_cons (ps_set (i:=6) scDe.nd rfl (Or.inl rfl) (pe_callB (call_sumL rfl) rfl B.su PyProof.Rows.boot_sum (pa_cons (pe_comp (NC:= ["_law_some"]) (mp:= [none]) rfl (pi_list (pv 3)) (fun _ _ _ _ _=>pg_name (i:=0) (by simp) rfl (Or.inl rfl)) (fun _ _ _ _ _=>pts_nil) (fun _ _ _ _ _=>pe_callB (r:=rLen K) call_len_seq rfl B.le PySem.boot_len (pa_cons (pv 0) pa_nil))) pa_nil)))
  (pss_cons (ps_expr (pe_bm PySem.F.plainAttrs_list PySem.F.slot_list_append PySem.F.type_list_append mt_append (pe_ix ix_list (pv 3) (pe_un un_neg pe_int) fun _ _=>rfl) (pa_cons (pv 4) pa_nil)))
  (pss_one (ps_ret (pe_cmpR op_eq (pe_meth (pv 2) hC.cls MP gP hr43 bP .nil pass1 (pa_cons (pv 4) pa_nil)) (pv 6) (nomark _)))))))))),?_⟩
 have hL:(20000:Nat)≤sizeLine:=by decide +kernel
 have df:=bn.df
 have a5:=bn.s2
 have u5:=bn.s1
 have hl:=bn.hl
 refine ⟨_,rfl,_,rfl,a,ns,kk,8,rfl,hS,h63,k0,by omega,by decide,fun r r0 r8=> ?_⟩
 refine gname_of ?_
 try dsimp only
 refine ⟨_,rfl,rfl,_,rfl,?_⟩
 by_cases z0:r=0
 ·
  subst z0
  refine if_t (decide_eq_true rfl) ?_
  refine ⟨_,rfl, .inl ⟨rfl,_,SqL.of bn.hK⟩,by show 0≤sizeLine;decide,fun E' nE=> ?_⟩
  have s1:=same_upd (o:= .lst []) nE
  have hE1:(upd H E' (.lst [])) E'=some (.lst []):=upd_same
  have bn1:=bn.same s1
  have nEf:=bn.new nE
  generalize upd H E' (.lst [])=H1 at*
  refine ⟨x.K,_,_,rfl,rfl,bn1.hK,by rw [List.length_map,List.length_append,List.length_singleton];omega,?_⟩
  have k2:=Kd.upd (ys:=(x.js++ [x.i]).map V.ref++ [.ref E']) bn1.hK
  have hK2:(upd H1 x.K (.lst ((x.js++ [x.i]).map V.ref++ [.ref E']))) x.K=some (.lst ((x.js++ [x.i]).map V.ref++ [.ref E'])):=upd_same
  have o2:∀c o,c≠x.K→H1 c=some o→(upd H1 x.K (.lst ((x.js++ [x.i]).map V.ref++ [.ref E']))) c=some o:=fun c o n e=>(upd_ne n).trans e
  generalize upd H1 x.K (.lst ((x.js++ [x.i]).map V.ref++ [.ref E']))=H2 at*
  have hc2:=o2 _ _ df.cK bn1.hc
  refine ⟨_,rfl,x.b,x.dx,_,rfl,o2 _ _ df.bK bn1.hb,lk_no (by decide +kernel) (by decide +kernel),x.b,x.dx,x.kl,x.cl,_,_,rfl,o2 _ _ df.bK bn1.hb,o2 _ _ df.kK bn1.hk,hc2,df.kc,by rw [cnt_len];omega,?_⟩
  have k3:=Kd.upd (ys:=cnt x.us++ [.int (x.all.length:Int)]) hc2
  have o3:∀c o,c≠x.cl→H2 c=some o→(upd H2 x.cl (.lst (cnt x.us++ [.int (x.all.length:Int)]))) c=some o:=fun c o n e=>(upd_ne n).trans e
  have hc3:(upd H2 x.cl (.lst (cnt x.us++ [.int (x.all.length:Int)]))) x.cl=some (.lst (cnt x.us++ [.int (x.all.length:Int)])):=upd_same
  generalize upd H2 x.cl (.lst (cnt x.us++ [.int (x.all.length:Int)]))=H3 at*
  have hK3:=o3 _ _ df.cK.symm hK2
  refine ⟨_,rfl,x.K,_,rfl, .inl (SqL.of hK3),_,_,rfl,rfl,rfl,?_⟩
  have ev:decide (V.int (((cnt x.us).length:Int)+1)=V.int ((((x.js++ [x.i]).map V.ref++ [V.ref E']).length:Int) - 1))=true:=by
   refine decide_eq_true ?_
   congr 1
   rw [cnt_len,List.length_append,List.length_map,List.length_append,List.length_singleton,List.length_singleton]
   omega
  show Q (.bl (decide (V.int (((cnt x.us).length:Int)+1)=V.int ((((x.js++ [x.i]).map V.ref++ [V.ref E']).length:Int) - 1)))) H3
  rw [ev]
  have nE2:E'≠x.b∧E'≠x.kl∧E'≠x.cl∧E'≠x.K∧E'≠x.i∧E'∉x.js:=by
   simp only [Bx.fp,List.mem_cons,not_or] at nEf
   exact nEf
  have tr:∀c o,c≠x.K→c≠x.cl→H1 c=some o→H3 c=some o:=fun c o n1 n2 e=>o3 c o n2 (o2 c o n1 e)
  refine k {x with js:=x.js++ [x.i],i:=E',us:=x.us++ [x.l],l:= []} H3 ⟨⟨?_,tr _ _ df.bK df.bc bn1.hb,?_,?_,?_,by simp [hl],?_,tr _ _ nE2.2.2.2.1 nE2.2.2.1 hE1,?_,by simp;omega,?_⟩,rfl,rfl,?_,(Kd.of_same s1).trans (k2.trans k3),?_⟩
  · show (x.b::x.kl::x.cl::x.K::E'::(x.js++ [x.i])).Nodup
    simp only [List.nodup_cons,List.mem_cons,List.mem_append,List.mem_singleton,not_or,List.nodup_append]
    refine ⟨⟨df.bk,df.bc,df.bK,nE2.1.symm,df.bj,df.bi,by simp⟩,⟨df.kc,df.kK,nE2.2.1.symm,df.kj,df.ki,by simp⟩,⟨df.cK,nE2.2.2.1.symm,df.cj,df.ci,by simp⟩,⟨nE2.2.2.2.1.symm,df.Kj,df.Ki,by simp⟩,⟨nE2.2.2.2.2.2,nE2.2.2.2.2.1,by simp⟩,df.jn,⟨by simp,by simp⟩,?_⟩
    intro c m d md e
    rcases md with md|md
    · rw [e,md] at m
      exact df.ij m
    · cases md
  · show H3 x.kl=some (.lst ((x.us++ [x.l]).flatten++ []))
    rw [List.append_nil,flat_snoc]
    exact tr _ _ df.kK df.kc bn1.hk
  · show H3 x.cl=some (.lst (cnt (x.us++ [x.l])))
    rw [cnt_snoc,flat_snoc]
    exact hc3
  · show H3 x.K=some (.lst (((x.js++ [x.i])++ [E']).map V.ref))
    rw [List.map_append]
    exact hK3
  · intro n j u e1 e2
    obtain ⟨u',eu,hu⟩:=bn1.at e1
    have:u'=u:=Option.some.inj (eu.symm.trans e2)
    subst this
    have mj:=List.mem_of_getElem? e1
    refine tr _ _ (fun z=> ?_) (fun z=> ?_) hu
    · rcases List.mem_append.mp mj with m|m
      · rw [z] at m;exact df.Kj m
      · rw [List.mem_singleton.mp m] at z;exact df.Ki z.symm
    · rcases List.mem_append.mp mj with m|m
      · rw [z] at m;exact df.cj m
      · rw [List.mem_singleton.mp m] at z;exact df.ci z.symm
  · intro v m
    have m:v∈(x.us++ [x.l]).flatten++ []:=m
    rw [List.append_nil,flat_snoc] at m
    exact (bn1.gd v m).kd (k2.trans k3)
  · show ((x.us++ [x.l]).flatten++ []).length≤N+1
    rw [List.append_nil,flat_snoc]
    exact Nat.le_succ_of_le a5
  · intro c o n e
    simp only [Bx.fp,List.mem_cons,not_or] at n
    exact tr c o n.2.2.2.1 n.2.2.1 (s1 _ _ e)
  · intro c m
    have m:c∈x.b::x.kl::x.cl::x.K::E'::(x.js++ [x.i]):=m
    simp only [List.mem_cons,List.mem_append,List.mem_singleton,List.not_mem_nil,or_false] at m
    simp only [Bx.fp,List.mem_cons]
    rcases m with m|m|m|m|m|m|m
    · exact .inl (.inl m)
    · exact .inl (.inr (.inl m))
    · exact .inl (.inr (.inr (.inl m)))
    · exact .inl (.inr (.inr (.inr (.inl m))))
    · exact .inr (m▸nE)
    · exact .inl (.inr (.inr (.inr (.inr (.inr m)))))
    · exact .inl (.inr (.inr (.inr (.inr (.inl m)))))
 refine if_f (decide_eq_false fun z=>z0 (V.int.inj z)) ?_
 refine ⟨_,rfl,rfl,_,rfl,?_⟩
 by_cases z1:r=1
 · subst z1
   refine if_t (decide_eq_true rfl) ?_
   refine ⟨_,rfl,x.K,_,rfl, .inl (SqL.of bn.hK),_,_,rfl,rfl,_,rfl,?_⟩
   rw [List.length_map,List.length_append,List.length_singleton]
   rcases List.eq_nil_or_concat x.js with ej|⟨js',i',ej⟩
   ·
    have eu:x.us= []:=by
     rw [ej] at hl
     exact List.eq_nil_of_length_eq_zero hl.symm
    refine if_f (decide_eq_false (by rw [ej];simp)) ?_
    refine ⟨_,rfl,rfl,_,rfl,if_t (decide_eq_true rfl) ?_⟩
    refine ⟨_,rfl,x.b,x.dx,x.kl,x.cl,_,_,bn.hb,bn.hk,bn.hc,df.kc,by omega, .inl ⟨rfl,by rw [eu];rfl,fun H1 s1=> ?_⟩⟩
    refine ⟨rfl,?_⟩
    show Q (.bl (decide (V.str (Str.ofString "level")=V.str (Str.ofString "level")))) H1
    rw [decide_eq_true rfl]
    exact k x H1 (Done.refl s1 bn (by omega))
   ·
    obtain ⟨us',l',eu⟩:∃us' l',x.us=us'++ [l']:=by
     rcases List.eq_nil_or_concat x.us with z|⟨us',l',z⟩
     · rw [z,ej] at hl
       simp at hl
     · exact ⟨us',l',by rw [z,List.concat_eq_append]⟩
    rw [List.concat_eq_append] at ej
    have hl':js'.length=us'.length:=by
     rw [ej,eu] at hl
     simpa using hl
    refine if_t (decide_eq_true (by rw [ej,List.length_append,List.length_singleton];omega)) ?_
    refine ⟨_,rfl, .inl ⟨rfl,_,SqL.of bn.hK⟩,x.K,_, .ref x.i,rfl,rfl,bn.hK,by simp,?_⟩
    rw [List.map_append,List.map_singleton,List.dropLast_concat]
    have k1:=Kd.upd (ys:=x.js.map V.ref) bn.hK
    have hK1:(upd H x.K (.lst (x.js.map V.ref))) x.K=some (.lst (x.js.map V.ref)):=upd_same
    have o1:∀c o,c≠x.K→H c=some o→(upd H x.K (.lst (x.js.map V.ref))) c=some o:=fun c o n e=>(upd_ne n).trans e
    generalize upd H x.K (.lst (x.js.map V.ref))=H1 at*
    have hc1:=o1 _ _ df.cK bn.hc
    have hk1:=o1 _ _ df.kK bn.hk
    have ecnt:cnt x.us=cnt us'++ [.int (((us'++ [l']).flatten.length:Nat):Int)]:=by rw [eu,cnt_snoc]
    have eall:x.all=(us'++ [l']).flatten++x.l:=by unfold Bx.all;rw [eu]
    refine ⟨_,rfl,x.b,x.dx,_,rfl,o1 _ _ df.bK bn.hb,lk_no (by decide +kernel) (by decide +kernel),x.b,x.dx,x.kl,x.cl,_,_,rfl,o1 _ _ df.bK bn.hb,hk1,hc1,df.kc,fun z=> ?_,fun _=>⟨cnt us',(us'++ [l']).flatten.length,ecnt,by rw [eall,List.length_append];omega,?_⟩⟩
    · rw [ecnt] at z
      simp at z
    have etk:x.all.take (us'++ [l']).flatten.length=us'.flatten++l':=by rw [eall,List.take_left,flat_snoc]
    rw [etk]
    have k2:=Kd.upd (ys:=cnt us') hc1
    have o2:∀c o,c≠x.cl→H1 c=some o→(upd H1 x.cl (.lst (cnt us'))) c=some o:=fun c o n e=>(upd_ne n).trans e
    have hc2:(upd H1 x.cl (.lst (cnt us'))) x.cl=some (.lst (cnt us')):=upd_same
    generalize upd H1 x.cl (.lst (cnt us'))=H2 at*
    have hk2:=o2 _ _ df.kc hk1
    have k3:=Kd.upd (ys:=us'.flatten++l') hk2
    have o3:∀c o,c≠x.kl→H2 c=some o→(upd H2 x.kl (.lst (us'.flatten++l'))) c=some o:=fun c o n e=>(upd_ne n).trans e
    have hk3:(upd H2 x.kl (.lst (us'.flatten++l'))) x.kl=some (.lst (us'.flatten++l')):=upd_same
    generalize upd H2 x.kl (.lst (us'.flatten++l'))=H3 at*
    have hK3:=o3 _ _ df.kK.symm (o2 _ _ df.cK.symm hK1)
    have tr:∀c o,c≠x.K→c≠x.cl→c≠x.kl→H c=some o→H3 c=some o:=fun c o n1 n2 n3 e=>o3 c o n3 (o2 c o n2 (o1 c o n1 e))
    refine ⟨_,rfl,x.K,_,rfl, .inl (SqL.of hK3),_,_,rfl,rfl,rfl,?_⟩
    have ev:decide (V.int ((cnt us').length:Int)=V.int (((x.js.map V.ref).length:Int) - 1))=true:=by
     refine decide_eq_true ?_
     congr 1
     rw [cnt_len,List.length_map,ej,List.length_append,List.length_singleton]
     omega
    show Q (.bl (decide (V.int ((cnt us').length:Int)=V.int (((x.js.map V.ref).length:Int) - 1)))) H3
    rw [ev]
    have jn:=df.jn
    rw [ej] at jn
    have jn2:=List.nodup_append.mp jn
    have mi:i'∈x.js:=by rw [ej];simp
    have mj:∀ {c},c∈js'→c∈x.js:=fun {c} m=>by rw [ej];exact List.mem_append_left _ m
    have hji:i'∉js':=fun m=>by
     have:=jn2.2.2 i' m i' (by simp)
     exact this rfl
    have ne:∀ {c d:Addr},c∈x.js→d∉x.js→c≠d:=fun m n e=>n (e▸m)
    have hin:∀ {n:Nat} {j:Addr} {u:List V},(js'++ [i'])[n]?=some j→(us'++ [l'])[n]?=some u→H3 j=some (.lst u):=fun {n j u} e1 e2=>by
     have m1:x.js[n]?=some j:=by rw [ej];exact e1
     have m2:x.us[n]?=some u:=by rw [eu];exact e2
     have mm:=List.mem_of_getElem? m1
     exact tr _ _ (ne mm df.Kj) (ne mm df.cj) (ne mm df.kj) (bn.hj n j u m1 m2)
    refine k {x with js:=js',i:=i',us:=us',l:=l'} H3 ⟨⟨?_,tr _ _ df.bK df.bc df.bk bn.hb,hk3,o3 _ _ df.kc.symm hc2,?_,hl',fun n j u e1 e2=> ?_,?_,fun v m=> ?_,?_,?_⟩,rfl,rfl,fun c o n e=> ?_,k1.trans (k2.trans k3),fun c m=> .inl ?_⟩
    · show (x.b::x.kl::x.cl::x.K::i'::js').Nodup
      simp only [List.nodup_cons,List.mem_cons,not_or]
      exact ⟨⟨df.bk,df.bc,df.bK,(ne mi df.bj).symm,fun m=>df.bj (mj m)⟩,⟨df.kc,df.kK,(ne mi df.kj).symm,fun m=>df.kj (mj m)⟩,⟨df.cK,(ne mi df.cj).symm,fun m=>df.cj (mj m)⟩,⟨(ne mi df.Kj).symm,fun m=>df.Kj (mj m)⟩,hji,jn2.1⟩
    · show H3 x.K=some (.lst ((js'++ [i']).map V.ref))
      rw [←ej]
      exact hK3
    · have e1:js'[n]?=some j:=e1
      have e2:us'[n]?=some u:=e2
      refine hin (n:=n) ?_ ?_
      · rw [List.getElem?_append_left (List.getElem?_eq_some_iff.mp e1).1];exact e1
      · rw [List.getElem?_append_left (List.getElem?_eq_some_iff.mp e2).1];exact e2
    · refine hin (n:=js'.length) ?_ ?_
      · simp
      · rw [hl'];simp
    · refine (bn.gd v ?_).kd (k1.trans (k2.trans k3))
      rw [eall,flat_snoc]
      exact List.mem_append_left _ m
    · show us'.length≤N+1
      rw [eu,List.length_append] at u5
      omega
    · show (us'.flatten++l').length≤N+1
      rw [eall,flat_snoc,List.length_append] at a5
      omega
    · simp only [Bx.fp,List.mem_cons,not_or] at n
      exact tr c o n.2.2.2.1 n.2.2.1 n.2.1 e
    · have m:c∈x.b::x.kl::x.cl::x.K::i'::js':=m
      simp only [List.mem_cons] at m
      simp only [Bx.fp,List.mem_cons]
      rcases m with m|m|m|m|m|m
      · exact .inl m
      · exact .inr (.inl m)
      · exact .inr (.inr (.inl m))
      · exact .inr (.inr (.inr (.inl m)))
      · exact .inr (.inr (.inr (.inr (.inr (m▸mi)))))
      · exact .inr (.inr (.inr (.inr (.inr (mj m)))))
 refine if_f (decide_eq_false fun z=>z1 (V.int.inj z)) ?_
 refine iteF ?_
 refine ⟨_,rfl,rfl,_,rfl,if_f (decide_eq_false fun z=>z1 (V.int.inj z)) ?_⟩
 refine ⟨_,rfl,rfl,_,rfl,?_⟩
 by_cases z2:r=2
 ·
  subst z2
  refine if_t (decide_eq_true rfl) ?_
  refine ⟨_,rfl,_,rfl,_,rfl,_,_,rfl,rfl,a,ns,kk+1,rfl,hS,h63,by omega,by omega,fun v' p' H1 s1 hv' ok hd ew=> ?_⟩
  have bn1:=bn.same s1
  refine ⟨x.b,x.dx,x.kl,x.cl,_,_,bn1.hb,bn1.hk,bn1.hc,df.kc,by omega, .inr ⟨v',p',rfl,hv',ok,hd,ew,fun H2 s2=> ?_⟩⟩
  refine ⟨rfl,?_⟩
  show Q (.bl (decide (V.str (Str.ofString "wish")=V.str (Str.ofString "wish")))) H2
  rw [decide_eq_true rfl]
  exact k x H2 (Done.refl (s1.trans s2) bn (by omega))
 refine if_f (decide_eq_false fun z=>z2 (V.int.inj z)) ?_
 refine tnx_of ?_
 try dsimp only
 refine tset_cb ?_
 refine tcomp_of (rest:= []) rfl ?_
 refine ⟨_,rfl,x.K,rfl,⟨_,SqL.of bn.hK⟩,fun D nD=> ?_⟩
 refine comp_list (xs:=(x.js++ [x.i]).map V.ref) (fun n acc H'=>Same H H'∧H' D=some (.lst acc)∧acc=(((x.us++ [x.l]).take n).map fun u=>(u.length:Int)).map V.int) ⟨same_upd nD,upd_same,rfl⟩ (fun n acc H' p=>SqL.of (p.1 _ _ bn.hK)) ?_ ?_
 · rintro n z acc H1 hi ez ⟨s1,hD,rfl⟩
   rw [List.getElem?_map] at ez
   obtain ⟨j,ej,rfl⟩:=Option.map_eq_some_iff.mp ez
   obtain ⟨u,eu,hu⟩:=bn.at ej
   refine ⟨_,rfl,j,u,rfl, .inl (SqL.of (s1 _ _ hu)),?_⟩
   rw [List.length_map,List.length_append,List.length_singleton] at hi
   refine CompN.mk (by rw [List.length_map,List.length_append,List.length_singleton];exact hi) ?_ hD ⟨same_wr nD s1,upd_same,?_⟩
   · rw [List.length_map,List.length_map,List.length_take]
     omega
   · rw [List.take_add_one,eu]
     simp
 rintro acc H1 ⟨s1,hD,rfl⟩
 rw [List.length_map,List.length_append,List.length_singleton,List.take_of_length_le (by rw [List.length_append,List.length_singleton];omega)] at hD
 refine ⟨D,_,rfl,SqL.of hD,?_⟩
 rw [sum_lens,flat_snoc]
 have bn1:=bn.same s1
 have gv1:=gv.kd (Kd.of_same s1)
 refine gname_of ?_
 try dsimp only
 refine ⟨_,rfl,_,rfl,x.K,_,-1, .ref x.i,rfl,rfl,SqL.of bn1.hK,by rw [List.map_append];exact atI_last _ _, .inl ⟨rfl,_,SqL.of bn1.hi⟩,_,rfl,x.i,_,v,rfl,rfl,bn1.hi,?_,?_⟩
 · have:x.l.length≤x.all.length:=by unfold Bx.all;rw [List.length_append];omega
   omega
 have k2:=Kd.upd (ys:=x.l++ [v]) bn1.hi
 have hi2:(upd H1 x.i (.lst (x.l++ [v]))) x.i=some (.lst (x.l++ [v])):=upd_same
 have o2:∀c o,c≠x.i→H1 c=some o→(upd H1 x.i (.lst (x.l++ [v]))) c=some o:=fun c o n e=>(upd_ne n).trans e
 generalize upd H1 x.i (.lst (x.l++ [v]))=H2 at*
 obtain ⟨t,ht,gt⟩:=gv1.kd k2
 obtain ⟨okp,dpt,_,hws⟩:=gz_ws gt
 refine ⟨_,rfl,x.b,x.dx,_,rfl,o2 _ _ df.bi bn1.hb,lk_no (by decide +kernel) (by decide +kernel),_,rfl,x.b,x.dx,x.kl,x.cl,_,v,toPl t,rfl,o2 _ _ df.bi bn1.hb,o2 _ _ df.ki bn1.hk,by omega,pl_of ht,okp,by rw [pdep_pl];omega,fun z=> ?_,fun _ H3 s3=> ?_⟩
 · rw [hws 13 (by omega)] at z
   cases z
 have hk3:=s3 _ _ (o2 _ _ df.ki bn1.hk)
 have k4:=Kd.upd (ys:=x.all++ [v]) hk3
 have o4:∀c o,c≠x.kl→H3 c=some o→(upd H3 x.kl (.lst (x.all++ [v]))) c=some o:=fun c o n e=>(upd_ne n).trans e
 have hk4:(upd H3 x.kl (.lst (x.all++ [v]))) x.kl=some (.lst (x.all++ [v])):=upd_same
 generalize upd H3 x.kl (.lst (x.all++ [v]))=H4 at*
 have tr:∀c o,c≠x.i→c≠x.kl→H1 c=some o→H4 c=some o:=fun c o n1 n2 e=>o4 c o n2 (s3 _ _ (o2 c o n1 e))
 refine ⟨_,rfl,rfl,?_⟩
 show Q (.bl (decide (V.int (x.all.length:Int)=V.int ((x.us.flatten++x.l).length:Int)))) H4
 rw [decide_eq_true (show V.int (x.all.length:Int)=V.int ((x.us.flatten++x.l).length:Int) from rfl)]
 have kd:=(Kd.of_same s1).trans (k2.trans ((Kd.of_same s3).trans k4))
 have eall:({x with l:=x.l++ [v]}:Bx).all=x.all++ [v]:=by
  show x.us.flatten++(x.l++ [v])=(x.us.flatten++x.l)++ [v]
  rw [List.append_assoc]
 refine k {x with l:=x.l++ [v]} H4 ⟨⟨bn.nd,tr _ _ df.bi df.bk bn1.hb,?_,tr _ _ df.ci df.kc.symm bn1.hc,tr _ _ df.Ki df.kK.symm bn1.hK,hl,fun n j u e1 e2=> ?_,o4 _ _ df.ki.symm (s3 _ _ hi2),fun u m=> ?_,Nat.le_succ_of_le u5,?_⟩,rfl,rfl,fun c o n e=> ?_,kd,fun c m=> .inl m⟩
 · rw [eall]
   exact hk4
 · have mj:=List.mem_of_getElem? e1
   exact tr _ _ (fun z=>df.ij (z▸mj)) (fun z=>df.kj (z▸mj)) (bn1.hj n j u e1 e2)
 · rw [eall] at m
   rcases List.mem_append.mp m with m|m
   · exact (bn.gd u m).kd kd
   · rw [List.mem_singleton.mp m]
     exact gv.kd kd
 · rw [eall,List.length_append,List.length_singleton]
   omega
 · simp only [Bx.fp,List.mem_cons,not_or] at n
   exact tr c o n.2.2.2.2.1 n.2.1 (s1 _ _ e)
end
open PySem L2 Mth Tre Wd Su EqD
structure Al (H0 H:Hp) (As:List Addr):Prop where
 nd:As.Nodup
 so:∀c∈As,∃o,H c=some o
 no:∀c∈As,H0 c=none
 sm:Same H0 H
theorem Al.add {H0 H:Hp} {As:List Addr} (h:Al H0 H As) {c:Addr} (n:H c=none) (o:HO):Al H0 (upd H c o) (c::As):=by
 refine ⟨List.nodup_cons.mpr ⟨fun m=> ?_,h.nd⟩,fun d m=> ?_,fun d m=> ?_,h.sm.trans (same_upd n)⟩
 · obtain ⟨o',e⟩:=h.so c m
   rw [n] at e
   cases e
 · rcases List.mem_cons.mp m with rfl|m
   · exact ⟨o,upd_same⟩
   · obtain ⟨o',e⟩:=h.so d m
     exact ⟨o',same_upd n _ _ e⟩
 · rcases List.mem_cons.mp m with rfl|m
   · exact h.sm.none n
   · exact h.no d m
theorem Al.same {H0 H H':Hp} {As:List Addr} (h:Al H0 H As) (s:Same H H'):Al H0 H' As:=⟨h.nd,fun c m=>by
 obtain ⟨o,e⟩:=h.so c m
 exact ⟨o,s _ _ e⟩,h.no,h.sm.trans s⟩
theorem Al.bench {C:Addr} {H0 H H':Hp} {As:List Addr} (h:Al H0 H As) {x dx kl cl:Addr} (n1:H x=none) (n2:H dx=none) (n3:dx≠x) (n4:kl≠cl) (n5:kl≠x) (n6:cl≠x)
 (n7:(upd (upd H dx (.own x)) x (.ins C dx [])) kl=none) (n8:(upd (upd H dx (.own x)) x (.ins C dx [])) cl=none) (e1:H' x=some (.ins C dx (bfs kl cl))) (e2:H' kl=some (.lst [])) (e3:H' cl=some (.lst []))
 (e4:∀y o,y≠x→(upd (upd H dx (.own x)) x (.ins C dx [])) y=some o→H' y=some o):Al H0 H' (cl::kl::x::As)∧Same H H':=by
 have fr:∀ {y},y≠x→(upd (upd H dx (.own x)) x (.ins C dx [])) y=none→H y=none:=fun {y} ny e=>by
  rw [upd_ne ny] at e
  by_cases z:y=dx
  · rw [z];exact n2
  · rw [upd_ne z] at e;exact e
 have sm:Same H H':=fun y o e=>by
  have ny:y≠x:=fun z=>by rw [z,n1] at e;cases e
  have nd:y≠dx:=fun z=>by rw [z,n2] at e;cases e
  exact e4 y o ny (by rw [upd_ne ny,upd_ne nd];exact e)
 have f1:=fr n5 n7
 have f2:=fr n6 n8
 have out:∀ {y},H y=none→y∉As:=fun {y} e m=>by
  obtain ⟨o,e'⟩:=h.so y m
  rw [e] at e'
  cases e'
 refine ⟨⟨?_,fun c m=> ?_,fun c m=> ?_,h.sm.trans sm⟩,sm⟩
 · simp only [List.nodup_cons,List.mem_cons,not_or]
   exact ⟨⟨n4.symm,n6,out f2⟩,⟨n5,out f1⟩,out n1,h.nd⟩
 · simp only [List.mem_cons] at m
   rcases m with rfl|rfl|rfl|m
   · exact ⟨_,e3⟩
   · exact ⟨_,e2⟩
   · exact ⟨_,e1⟩
   · obtain ⟨o,e⟩:=h.so c m
     exact ⟨o,sm _ _ e⟩
 · simp only [List.mem_cons] at m
   rcases m with rfl|rfl|rfl|m
   · exact h.sm.none f2
   · exact h.sm.none f1
   · exact h.sm.none n1
   · exact h.no c m
structure Lw (C:Addr) (H0 H:Hp) (BL KL wl:Addr) (wvs:List V) (x y:Bx) (N:Nat):Prop where
 s0:Same H0 H
 bx:Bn C H x N
 by_:Bn C H y N
 dis:∀c∈x.fp,c∉y.fp
 ox:∀c∈x.fp,H0 c=none
 oy:∀c∈y.fp,H0 c=none
 hB:H BL=some (.lst [.ref x.b, .ref y.b])
 hK:H KL=some (.lst [.ref x.K, .ref y.K])
 hw:H wl=some (.lst wvs)
 gw:∀v∈wvs,Gd H v
 nx:BL∉x.fp∧KL∉x.fp∧wl∉x.fp
 ny:BL∉y.fp∧KL∉y.fp∧wl∉y.fp
section
variable {C:Addr} {H0 H H':Hp} {BL KL wl:Addr} {wvs:List V} {x y z:Bx} {N:Nat}
theorem Done.keep {M:Nat} (d:Done C H H' x z M) {c:Addr} {o:HO} (n:c∉x.fp) (e:H c=some o):c∉z.fp:=fun m=>by
 rcases d.fp c m with m|m
 · exact n m
 · rw [m] at e;cases e
theorem Lw.same (h:Lw C H0 H BL KL wl wvs x y N) (s:Same H H'):Lw C H0 H' BL KL wl wvs x y N:=
 ⟨h.s0.trans s,h.bx.same s,h.by_.same s,h.dis,h.ox,h.oy,s _ _ h.hB,s _ _ h.hK,s _ _ h.hw,fun v m=>(h.gw v m).kd (Kd.of_same s),h.nx,h.ny⟩
theorem Lw.left (h:Lw C H0 H BL KL wl wvs x y N) (d:Done C H H' x z (N+1)):Lw C H0 H' BL KL wl wvs z y (N+1):=by
 refine ⟨fun c o e=>d.out c o (fun m=>by rw [h.ox c m] at e;cases e) (h.s0 _ _ e),d.bn,h.by_.frame (fun c o m e=>d.out c o (fun m'=>h.dis c m' m) e) d.kd (by omega),fun c m m'=> ?_,fun c m=> ?_,h.oy,?_,?_,d.out _ _ h.nx.2.2 h.hw,fun v m=>(h.gw v m).kd d.kd,⟨d.keep h.nx.1 h.hB,d.keep h.nx.2.1 h.hK,d.keep h.nx.2.2 h.hw⟩,h.ny⟩
 · rcases d.fp c m with m|m
   · exact h.dis c m m'
   · exact h.by_.new m m'
 · rcases d.fp c m with m|m
   · exact h.ox c m
   · exact h.s0.none m
 · rw [d.eb];exact d.out _ _ h.nx.1 h.hB
 · rw [d.eK];exact d.out _ _ h.nx.2.1 h.hK
theorem Lw.right (h:Lw C H0 H BL KL wl wvs x y N) (d:Done C H H' y z (N+1)):Lw C H0 H' BL KL wl wvs x z (N+1):=by
 refine ⟨fun c o e=>d.out c o (fun m=>by rw [h.oy c m] at e;cases e) (h.s0 _ _ e),h.bx.frame (fun c o m e=>d.out c o (fun m'=>h.dis c m m') e) d.kd (by omega),d.bn,fun c m m'=> ?_,h.ox,fun c m=> ?_,?_,?_,d.out _ _ h.ny.2.2 h.hw,fun v m=>(h.gw v m).kd d.kd,h.nx,⟨d.keep h.ny.1 h.hB,d.keep h.ny.2.1 h.hK,d.keep h.ny.2.2 h.hw⟩⟩
 · rcases d.fp c m' with m'|m'
   · exact h.dis c m m'
   · exact h.bx.new m' m
 · rcases d.fp c m with m|m
   · exact h.oy c m
   · exact h.s0.none m
 · rw [d.eb];exact d.out _ _ h.ny.1 h.hB
 · rw [d.eK];exact d.out _ _ h.ny.2.1 h.hK
end
section
variable {P:Program} {w:World} {K:PySem.W.Frag} {mg:Str→Option Value} {base:Heap}
def spLaw (K:PySem.W.Frag):Sp:=fun vs H Q _=>∃(a:Addr) (ns:List Int),vs= [.ref a]∧SqL K H a (ns.map V.int)∧ns.length≤63∧∀H',Q (.bl true) H'
theorem scL:FnScope ["_law_script","_law_benches","_law_kept","_law_wishes_here","_law_k","_law_which","_law_wish_here"] ["_law_script"] (defScope sLaw):=⟨rfl,rfl,rfl,by decide +kernel,rfl,by decide +kernel,by decide +kernel⟩
theorem bn_new {C:Addr} {H:Hp} {b dx kl cl K' E':Addr} (nd: [b,kl,cl,K',E'].Nodup) (h1:H b=some (.ins C dx (bfs kl cl))) (h2:H kl=some (.lst [])) (h3:H cl=some (.lst [])) (h4:H K'=some (.lst [.ref E'])) (h5:H E'=some (.lst [])):Bn C H ⟨b,K',dx,kl,cl,[],E',[],[]⟩ 0:=
 ⟨nd,h1,h2,h3,h4,rfl,fun n j u e=>by simp at e,h5,fun v m=>by simp [Bx.all] at m,Nat.le_refl _,Nat.le_refl _⟩
theorem nd5 {b k c K' E':Addr} (h1:b≠k) (h2:b≠c) (h3:b≠K') (h4:b≠E') (h5:k≠c) (h6:k≠K') (h7:k≠E') (h8:c≠K') (h9:c≠E') (h10:K'≠E'): [b,k,c,K',E'].Nodup:=by
 simp only [List.nodup_cons,List.mem_cons,List.not_mem_nil,not_or,or_false]
 exact ⟨⟨h1,h2,h3,h4⟩,⟨h5,h6,h7⟩,⟨h8,h9⟩,h10,not_false,List.nodup_nil⟩
theorem ok_law {f C fI fDr fWs fTd fDe:Addr} {fd dI dDr dWs dTd dDe:FuncData} (F:Fun K "law" "law" sLaw f fd) (B:Blt mg)
 (M:Mk K C fI) (mB:mg "Bench"=some (.ref C)) (gI:FnOk P w K mg base CX0 1 fI dI ["self"] (spBi C)) (bI:Binds K dI ["self"] [])
 (gDr:FnOk P w K mg base CX0 1 fDr dDr ["_law_script","_law_k","_law_many"] (spDraw K)) (kDr:PySem.W.keepIn K (.ref fDr)=true) (bDr:Binds K dDr ["_law_script","_law_k","_law_many"] []) (mDr:mg "_law_draw"=some (.ref fDr))
 (gWs:FnOk P w K mg base CX0 6 fWs dWs ["_law_script","_law_base"] (spWishes K)) (kWs:PySem.W.keepIn K (.ref fWs)=true) (bWs:Binds K dWs ["_law_script","_law_base"] []) (mWs:mg "_law_wishes"=some (.ref fWs))
 (gTd:FnOk P w K mg base CX0 2 fTd dTd ["_law_bench","_law_kept"] (spTld C)) (kTd:PySem.W.keepIn K (.ref fTd)=true) (bTd:Binds K dTd ["_law_bench","_law_kept"] []) (mTd:mg "_law_is_told"=some (.ref fTd))
 (gDe:FnOk P w K mg base CX0 45 fDe dDe ["_law_script","_law_k","_law_bench","_law_kept","_law_wish_here"] (spDeed K C)) (kDe:PySem.W.keepIn K (.ref fDe)=true) (bDe:Binds K dDe ["_law_script","_law_k","_law_bench","_law_kept","_law_wish_here"] []) (mDe:mg "_law_deed"=some (.ref fDe)):
 FnOk P w K mg base CX0 46 f fd ["_law_script"] (spLaw K):=by
 refine F.ok scL (fun vs H Q E h=> ?_) (fun cdv A outer s H vs Q E hr h=> ?_)
 · obtain ⟨a,ns,rfl,_⟩:=h
   rfl
 obtain ⟨a,ns,rfl,hS,h63,k⟩:=h
 have hr1:Room 1 _:=hr.mono (by decide)
 have hr2:Room 2 _:=hr.mono (by decide)
 have hr6:Room 6 _:=hr.mono (by decide)
 refine ⟨_,pss_cons (ps_set (i:=1) scL.nd rfl (Or.inl rfl) (pe_lst (pa_cons (pe_make0 M gI hr2 rfl mB bI .nil pass0) (pa_cons (pe_make0 M gI hr2 rfl mB bI .nil pass0) pa_nil))))
  (pss_cons (ps_set (i:=2) scL.nd rfl (Or.inl rfl) (pe_lst (pa_cons (pe_lst (pa_cons (pe_lst pa_nil) pa_nil)) (pa_cons (pe_lst (pa_cons (pe_lst pa_nil) pa_nil)) pa_nil))))
  (pss_cons (ps_set (i:=3) scL.nd rfl (Or.inl rfl) (pe_op op_cat (pe_call gWs hr6 rfl mWs kWs bWs .nil pass0 (pa_cons (pv 0) (pa_cons pe_int pa_nil))) (pe_lst (pa_cons (pe_tup (pa_cons pe_str (pa_cons pe_str pa_nil))) (pa_cons (pe_tup (pa_cons pe_str (pa_cons (pe_tup pa_nil) pa_nil))) pa_nil)))))
  (pss_cons (ps_if (pt_not (pt_val (pe_call gTd hr2 rfl mTd kTd bTd .nil pass0 (pa_cons (pe_ix ix_list (pv 1) pe_int fun _ _=>rfl) (pa_cons (pe_ix ix_list (pv 2) pe_int fun _ _=>rfl) pa_nil))))) (pss_one (ps_ret pe_bl)) pss_nil)
  (pss_cons (ps_for PassesOwn.never rfl (pi_range1 rfl B.ra (pa_cons (pe_call gDr hr1 rfl mDr kDr bDr .nil pass0 (pa_cons (pv 0) (pa_cons pe_int (pa_cons pe_int pa_nil)))) pa_nil)) (pg_name (i:=4) scL.nd rfl (Or.inl rfl))
   (pss_cons (ps_set (i:=5) scL.nd rfl (Or.inl rfl) (pe_callTy call_int1 rfl B.it PyProof.Rows.boot_int (pa_cons (pe_cmpR op_eq (pe_call gDr hr1 rfl mDr kDr bDr .nil pass0 (pa_cons (pv 0) (pa_cons (pe_op op_add pe_int (pe_op op_mul pe_int (pv 4))) (pa_cons pe_int pa_nil)))) pe_int (nomark _)) pa_nil)))
   (pss_cons (ps_set (i:=6) scL.nd rfl (Or.inl rfl) (pe_ix ix_list (pv 3) (pe_call gDr hr1 rfl mDr kDr bDr .nil pass0 (pa_cons (pv 0) (pa_cons (pe_op op_add pe_int (pe_op op_mul pe_int (pv 4))) (pa_cons (pe_callB call_len_seq rfl B.le PySem.boot_len (pa_cons (pv 3) pa_nil)) pa_nil)))) fun _ _=>rfl))
   (pss_cons (ps_if (pt_not (pt_val (pe_call gDe hr rfl mDe kDe bDe .nil pass0 (pa_cons (pv 0) (pa_cons (pe_op op_add pe_int (pe_op op_mul pe_int (pv 4))) (pa_cons (pe_ix ix_list (pv 1) (pv 5) fun _ _=>rfl) (pa_cons (pe_ix ix_list (pv 2) (pv 5) fun _ _=>rfl) (pa_cons (pv 6) pa_nil)))))))) (pss_one (ps_ret pe_bl)) pss_nil)
   (pss_one (ps_if (PW.pt (pw_or (pt_not (pt_val (pe_call gTd hr2 rfl mTd kTd bTd .nil pass0 (pa_cons (pe_ix ix_list (pv 1) pe_int fun _ _=>rfl) (pa_cons (pe_ix ix_list (pv 2) pe_int fun _ _=>rfl) pa_nil))))) (pw_or1 (pt_not (pt_val (pe_call gTd hr2 rfl mTd kTd bTd .nil pass0 (pa_cons (pe_ix ix_list (pv 1) pe_int fun _ _=>rfl) (pa_cons (pe_ix ix_list (pv 2) pe_int fun _ _=>rfl) pa_nil)))))))) (pss_one (ps_ret pe_bl)) pss_nil))))))
  (pss_one (ps_ret pe_bl)))))),?_⟩
 have hL:(20000:Nat)≤sizeLine:=by decide +kernel
 have h1:(1:Nat)≤sizeLine:=by decide
 have h2:(2:Nat)≤sizeLine:=by decide
 have al0:Al H H []:=⟨List.nodup_nil,fun c m=>(nomatch m),fun c m=>(nomatch m),Same.refl H⟩
 intro b0 dx0 p1 p2 p3
 refine ⟨b0,dx0,rfl,upd_same,fun kl0 cl0 H1 n4 n5 n6 n7 n8 e1 e2 e3 e4=>⟨rfl,?_⟩⟩
 obtain ⟨al1,s1⟩:=al0.bench p1 p2 p3 n4 n5 n6 n7 n8 e1 e2 e3 e4
 clear p1 p2 p3 n4 n5 n6 n7 n8 e4
 intro b1 dx1 p1 p2 p3
 refine ⟨b1,dx1,rfl,upd_same,fun kl1 cl1 H2 n4 n5 n6 n7 n8 f1 f2 f3 e4=>⟨rfl,?_⟩⟩
 obtain ⟨al2,s2⟩:=al1.bench p1 p2 p3 n4 n5 n6 n7 n8 f1 f2 f3 e4
 clear p1 p2 p3 n4 n5 n6 n7 n8 e4 al1
 replace e1:=s2 _ _ e1
 replace e2:=s2 _ _ e2
 replace e3:=s2 _ _ e3
 refine ⟨h2,fun BL nBL=> ?_⟩
 have al3:=al2.add nBL (.lst [.ref b0, .ref b1])
 have s3:=same_upd (o:= .lst [.ref b0, .ref b1]) nBL
 have hB:(upd H2 BL (.lst [.ref b0, .ref b1])) BL=some (.lst [.ref b0, .ref b1]):=upd_same
 generalize upd H2 BL (.lst [.ref b0, .ref b1])=H3 at*
 refine gname_of ?_
 try dsimp only
 refine ⟨by show 0≤sizeLine;decide,fun E0' nE0=> ?_⟩
 have al4:=al3.add nE0 (.lst [])
 have s4:=same_upd (o:= .lst []) nE0
 have hE0:(upd H3 E0' (.lst [])) E0'=some (.lst []):=upd_same
 generalize upd H3 E0' (.lst [])=H4 at*
 refine ⟨h1,fun K0 nK0=> ?_⟩
 have al5:=al4.add nK0 (.lst [.ref E0'])
 have s5:=same_upd (o:= .lst [.ref E0']) nK0
 have hK0:(upd H4 K0 (.lst [.ref E0'])) K0=some (.lst [.ref E0']):=upd_same
 generalize upd H4 K0 (.lst [.ref E0'])=H5 at*
 refine ⟨by show 0≤sizeLine;decide,fun E1 nE1=> ?_⟩
 have al6:=al5.add nE1 (.lst [])
 have s6:=same_upd (o:= .lst []) nE1
 have hE1:(upd H5 E1 (.lst [])) E1=some (.lst []):=upd_same
 generalize upd H5 E1 (.lst [])=H6 at*
 refine ⟨h1,fun K1 nK1=> ?_⟩
 have al7:=al6.add nK1 (.lst [.ref E1])
 have s7:=same_upd (o:= .lst [.ref E1]) nK1
 have hK1:(upd H6 K1 (.lst [.ref E1])) K1=some (.lst [.ref E1]):=upd_same
 generalize upd H6 K1 (.lst [.ref E1])=H7 at*
 refine ⟨h2,fun KL nKL=> ?_⟩
 have al8:=al7.add nKL (.lst [.ref K0, .ref K1])
 have s8:=same_upd (o:= .lst [.ref K0, .ref K1]) nKL
 have hKL:(upd H7 KL (.lst [.ref K0, .ref K1])) KL=some (.lst [.ref K0, .ref K1]):=upd_same
 generalize upd H7 KL (.lst [.ref K0, .ref K1])=H8 at*
 have s78:=s7.trans s8
 have s68:=s6.trans s78
 have s58:=s5.trans s68
 have s48:=s4.trans s58
 have s38:=s3.trans s48
 have ne:∀(i j:Nat) (hi:i < 12) (hj:j < 12),i < j→([KL,K1,E1,K0,E0',BL,cl1,kl1,b1,cl0,kl0,b0])[i]≠([KL,K1,E1,K0,E0',BL,cl1,kl1,b1,cl0,kl0,b0])[j]:=fun i j hi hj h=>List.pairwise_iff_getElem.mp al8.nd i j hi hj h
 have bn0:Bn C H8 ⟨b0,K0,dx0,kl0,cl0,[],E0',[],[]⟩ 0:=bn_new (nd5 (ne 10 11 (by decide) (by decide) (by decide)).symm (ne 9 11 (by decide) (by decide) (by decide)).symm (ne 3 11 (by decide) (by decide) (by decide)).symm (ne 4 11 (by decide) (by decide) (by decide)).symm (ne 9 10 (by decide) (by decide) (by decide)).symm (ne 3 10 (by decide) (by decide) (by decide)).symm (ne 4 10 (by decide) (by decide) (by decide)).symm (ne 3 9 (by decide) (by decide) (by decide)).symm (ne 4 9 (by decide) (by decide) (by decide)).symm (ne 3 4 (by decide) (by decide) (by decide))) (s38 _ _ e1) (s38 _ _ e2) (s38 _ _ e3) (s68 _ _ hK0) (s58 _ _ hE0)
 have bn1:Bn C H8 ⟨b1,K1,dx1,kl1,cl1,[],E1,[],[]⟩ 0:=bn_new (nd5 (ne 7 8 (by decide) (by decide) (by decide)).symm (ne 6 8 (by decide) (by decide) (by decide)).symm (ne 1 8 (by decide) (by decide) (by decide)).symm (ne 2 8 (by decide) (by decide) (by decide)).symm (ne 6 7 (by decide) (by decide) (by decide)).symm (ne 1 7 (by decide) (by decide) (by decide)).symm (ne 2 7 (by decide) (by decide) (by decide)).symm (ne 1 6 (by decide) (by decide) (by decide)).symm (ne 2 6 (by decide) (by decide) (by decide)).symm (ne 1 2 (by decide) (by decide) (by decide))) (s38 _ _ f1) (s38 _ _ f2) (s38 _ _ f3) (s8 _ _ hK1) (s78 _ _ hE1)
 have fx:∀c,c∈(⟨b0,K0,dx0,kl0,cl0,[],E0',[],[]⟩:Bx).fp↔c=b0∨c=kl0∨c=cl0∨c=K0∨c=E0':=fun c=>by simp [Bx.fp]
 have fy:∀c,c∈(⟨b1,K1,dx1,kl1,cl1,[],E1,[],[]⟩:Bx).fp↔c=b1∨c=kl1∨c=cl1∨c=K1∨c=E1:=fun c=>by simp [Bx.fp]
 have dis:∀c∈(⟨b0,K0,dx0,kl0,cl0,[],E0',[],[]⟩:Bx).fp,c∉(⟨b1,K1,dx1,kl1,cl1,[],E1,[],[]⟩:Bx).fp:=fun c m m'=>by
  have q1:=(fx c).mp m
  have q2:=(fy c).mp m'
  rcases q1 with rfl|rfl|rfl|rfl|rfl
  · rcases q2 with z|z|z|z|z
    · exact ne 8 11 (by decide) (by decide) (by decide) z.symm
    · exact ne 7 11 (by decide) (by decide) (by decide) z.symm
    · exact ne 6 11 (by decide) (by decide) (by decide) z.symm
    · exact ne 1 11 (by decide) (by decide) (by decide) z.symm
    · exact ne 2 11 (by decide) (by decide) (by decide) z.symm
  · rcases q2 with z|z|z|z|z
    · exact ne 8 10 (by decide) (by decide) (by decide) z.symm
    · exact ne 7 10 (by decide) (by decide) (by decide) z.symm
    · exact ne 6 10 (by decide) (by decide) (by decide) z.symm
    · exact ne 1 10 (by decide) (by decide) (by decide) z.symm
    · exact ne 2 10 (by decide) (by decide) (by decide) z.symm
  · rcases q2 with z|z|z|z|z
    · exact ne 8 9 (by decide) (by decide) (by decide) z.symm
    · exact ne 7 9 (by decide) (by decide) (by decide) z.symm
    · exact ne 6 9 (by decide) (by decide) (by decide) z.symm
    · exact ne 1 9 (by decide) (by decide) (by decide) z.symm
    · exact ne 2 9 (by decide) (by decide) (by decide) z.symm
  · rcases q2 with z|z|z|z|z
    · exact ne 3 8 (by decide) (by decide) (by decide) z
    · exact ne 3 7 (by decide) (by decide) (by decide) z
    · exact ne 3 6 (by decide) (by decide) (by decide) z
    · exact ne 1 3 (by decide) (by decide) (by decide) z.symm
    · exact ne 2 3 (by decide) (by decide) (by decide) z.symm
  · rcases q2 with z|z|z|z|z
    · exact ne 4 8 (by decide) (by decide) (by decide) z
    · exact ne 4 7 (by decide) (by decide) (by decide) z
    · exact ne 4 6 (by decide) (by decide) (by decide) z
    · exact ne 1 4 (by decide) (by decide) (by decide) z.symm
    · exact ne 2 4 (by decide) (by decide) (by decide) z.symm
 have ox:∀c∈(⟨b0,K0,dx0,kl0,cl0,[],E0',[],[]⟩:Bx).fp,H c=none:=fun c m=>al8.no c (by
  rcases (fx c).mp m with rfl|rfl|rfl|rfl|rfl<;>simp)
 have oy:∀c∈(⟨b1,K1,dx1,kl1,cl1,[],E1,[],[]⟩:Bx).fp,H c=none:=fun c m=>al8.no c (by
  rcases (fy c).mp m with rfl|rfl|rfl|rfl|rfl<;>simp)
 have nBx:BL∉(⟨b0,K0,dx0,kl0,cl0,[],E0',[],[]⟩:Bx).fp:=fun m=>by
  rcases (fx _).mp m with z|z|z|z|z
  · exact ne 5 11 (by decide) (by decide) (by decide) z
  · exact ne 5 10 (by decide) (by decide) (by decide) z
  · exact ne 5 9 (by decide) (by decide) (by decide) z
  · exact ne 3 5 (by decide) (by decide) (by decide) z.symm
  · exact ne 4 5 (by decide) (by decide) (by decide) z.symm
 have nKx:KL∉(⟨b0,K0,dx0,kl0,cl0,[],E0',[],[]⟩:Bx).fp:=fun m=>by
  rcases (fx _).mp m with z|z|z|z|z
  · exact ne 0 11 (by decide) (by decide) (by decide) z
  · exact ne 0 10 (by decide) (by decide) (by decide) z
  · exact ne 0 9 (by decide) (by decide) (by decide) z
  · exact ne 0 3 (by decide) (by decide) (by decide) z
  · exact ne 0 4 (by decide) (by decide) (by decide) z
 have nBy:BL∉(⟨b1,K1,dx1,kl1,cl1,[],E1,[],[]⟩:Bx).fp:=fun m=>by
  rcases (fy _).mp m with z|z|z|z|z
  · exact ne 5 8 (by decide) (by decide) (by decide) z
  · exact ne 5 7 (by decide) (by decide) (by decide) z
  · exact ne 5 6 (by decide) (by decide) (by decide) z
  · exact ne 1 5 (by decide) (by decide) (by decide) z.symm
  · exact ne 2 5 (by decide) (by decide) (by decide) z.symm
 have nKy:KL∉(⟨b1,K1,dx1,kl1,cl1,[],E1,[],[]⟩:Bx).fp:=fun m=>by
  rcases (fy _).mp m with z|z|z|z|z
  · exact ne 0 8 (by decide) (by decide) (by decide) z
  · exact ne 0 7 (by decide) (by decide) (by decide) z
  · exact ne 0 6 (by decide) (by decide) (by decide) z
  · exact ne 0 1 (by decide) (by decide) (by decide) z
  · exact ne 0 2 (by decide) (by decide) (by decide) z
 have s0:=al8.sm
 replace hB:=s48 _ _ hB
 clear ne fx fy al8 al7 al6 al5 al4 al3 al2 al0
 obtain ⟨x,y,hBL,hKL',bx,by_,dis',ox',oy',nx1,nx2,ny1,ny2⟩:∃x y:Bx,H8 BL=some (.lst [.ref x.b, .ref y.b])∧H8 KL=some (.lst [.ref x.K, .ref y.K])∧Bn C H8 x 0∧Bn C H8 y 0∧(∀c∈x.fp,c∉y.fp)∧(∀c∈x.fp,H c=none)∧(∀c∈y.fp,H c=none)∧BL∉x.fp∧KL∉x.fp∧BL∉y.fp∧KL∉y.fp:=
  ⟨_,_,hB,hKL,bn0,bn1,dis,ox,oy,nBx,nKx,nBy,nKy⟩
 clear bn0 bn1 dis ox oy nBx nKx nBy nKy hB hKL e1 e2 e3 f1 f2 f3 s1 s2 s3 s4 s5 s6 s7 s8 s78 s68 s58 s48 s38 hE0 hE1 hK0 hK1
 refine gname_of ?_
 try dsimp only
 refine ⟨_,rfl,a,ns,400,rfl,SqL.same s0 hS,h63,by decide,by decide,fun wl0 H9 ts s9 _ hW lts=> ?_⟩
 obtain ⟨ws,hw9,hT9,gz9⟩:=hW
 have wl5:=hT9.len
 refine ⟨h2,fun p np=> ?_⟩
 have t1:=same_upd (o:= .tup [.str (Str.ofString "flag"), .str (Str.ofString "p")]) np
 have hp:TrAt (upd H9 p (.tup [.str (Str.ofString "flag"), .str (Str.ofString "p")])) (.ref p) (.tup [s_ "flag",s_ "p"]):=at_tup upd_same (.cons at_str (.cons at_str .nil))
 generalize upd H9 p (.tup [.str (Str.ofString "flag"), .str (Str.ofString "p")])=H10 at*
 refine ⟨by show 0≤sizeLine;decide,fun e ne=>⟨h2,fun q nq=> ?_⟩⟩
 have t2:=same_upd (o:= .tup []) ne
 have t3:=same_upd (o:= .tup [.str (Str.ofString "both"), .ref e]) nq
 have hq:TrAt (upd (upd H10 e (.tup [])) q (.tup [.str (Str.ofString "both"), .ref e])) (.ref q) (.tup [s_ "both", .tup []]):=at_tup upd_same (.cons at_str (.cons (at_tup (t3 _ _ upd_same) .nil) .nil))
 have t23:=t2.trans t3
 generalize upd (upd H10 e (.tup [])) q (.tup [.str (Str.ofString "both"), .ref e])=H11 at*
 refine ⟨h2,fun L2 nL2=> ?_⟩
 have t4:=same_upd (o:= .lst [.ref p, .ref q]) nL2
 have hL2:(upd H11 L2 (.lst [.ref p, .ref q])) L2=some (.lst [.ref p, .ref q]):=upd_same
 generalize upd H11 L2 (.lst [.ref p, .ref q])=H12 at*
 have t14:=t1.trans (t23.trans t4)
 refine ⟨wl0,L2,ws,_,rfl,rfl,t14 _ _ hw9,hL2,by show ws.length+2≤sizeLine;omega,fun wl nwl=> ?_⟩
 have t5:=same_upd (o:= .lst (ws++ [.ref p, .ref q])) nwl
 have s812:=s9.trans t14
 have nwx:=(bx.same s812).new nwl
 have nwy:=(by_.same s812).new nwl
 have s813:=s812.trans t5
 have gw:∀v∈ws++ [.ref p, .ref q],Gd (upd H12 wl (.lst (ws++ [.ref p, .ref q]))) v:=fun v m=>by
  rcases List.mem_append.mp m with m|m
  · obtain ⟨n,hn,en⟩:=List.getElem_of_mem m
    obtain ⟨t,et,ht⟩:=hT9.get' (i:=n) (v:=v) (by rw [List.getElem?_eq_getElem hn,en])
    exact ⟨t,ht.mono (Kd.of_same (t14.trans t5)),gz9 t (List.mem_of_getElem? et)⟩
  · simp only [List.mem_cons,List.not_mem_nil,or_false] at m
    rcases m with rfl|rfl
    · exact ⟨_,hp.mono (Kd.of_same ((t23.trans t4).trans t5)), .fl 2 _ nm_p⟩
    · exact ⟨_,hq.mono (Kd.of_same (t4.trans t5)), .bo 1 [] (by simp) fun u m=>nomatch m⟩
 have lw0:Lw C H (upd H12 wl (.lst (ws++ [.ref p, .ref q]))) BL KL wl (ws++ [.ref p, .ref q]) x y 0:=⟨s0.trans s813,bx.same s813,by_.same s813,dis',ox',oy',s813 _ _ hBL,s813 _ _ hKL',upd_same,gw,⟨nx1,nx2,nwx⟩,⟨ny1,ny2,nwy⟩⟩
 have wl7:(ws++ [V.ref p, .ref q]).length≤7∧0 < (ws++ [V.ref p, .ref q]).length:=by
  rw [List.length_append]
  simp
  omega
 generalize upd H12 wl (.lst (ws++ [.ref p, .ref q]))=H13 at*
 generalize ws++ [V.ref p, .ref q]=wvs at*
 clear gw nwx nwy s812 s813 t14 t5 t4 t23 t3 t2 t1 hp hq hL2 hT9 hw9 gz9 bx by_ dis' ox' oy' hBL hKL' nx1 nx2 ny1 ny2 s9 s0 nwl nL2 nq ne np
 refine gname_of ?_
 try dsimp only
 have told:∀ {H':Hp} {x:Bx} {N:Nat},Bn C H' x N→N≤500→Bn C H' x 500:=fun b h=>b.frame (fun _ _ _ e=>e) (Kd.of_same (Same.refl _)) h
 refine ⟨_,rfl,BL,_,0,_,rfl,rfl,SqL.of lw0.hB,rfl,_,rfl,KL,_,0,_,rfl,rfl,SqL.of lw0.hK,rfl,x,rfl,told lw0.bx (by decide),fun H14 s14=>⟨true,rfl,iteF ?_⟩⟩
 have lw1:=lw0.same s14
 clear lw0
 refine ⟨_,rfl,a,ns,5,25,rfl,SqL.same lw1.s0 hS,h63,by decide,by decide,by decide,fun r r0 r25=> ?_⟩
 refine ⟨r,rfl,by omega,by omega,?_⟩
 obtain ⟨m,em⟩:∃m:Nat,r.toNat=m:=⟨_,rfl⟩
 have m25:m≤24:=by omega
 rw [em]
 refine for_range (n:=m) (fun i σ H'=>(∃x y,Lw C H H' BL KL wl wvs x y i)∧∃v4 v5 v6,σ= [some (.ref a),some (.ref BL),some (.ref KL),some (.ref wl),v4,v5,v6])
  ⟨⟨x,y,lw1⟩,none,none,none,rfl⟩ ?_ ?_
 rotate_left
 · rintro σ H15 _
   exact k _
 clear lw1
 rintro i σ H15 hi ⟨⟨x,y,lw⟩,v4,v5,v6,rfl⟩
 refine gname_of ?_
 try dsimp only
 have hS15:=SqL.same lw.s0 hS
 refine ⟨_,rfl,_,rfl,4,_,rfl,rfl, .inl ⟨by decide,by decide⟩,_,_,rfl,rfl,a,ns,_,4,rfl,hS15,h63,by omega,by omega,by decide,fun r1 _ _=> ?_⟩
 refine ⟨rfl, .inr ⟨_,rfl,?_⟩⟩
 generalize decide (V.int r1=V.int 0)=bb
 refine gname_of ?_
 try dsimp only
 refine ⟨_,rfl,_,rfl,_,rfl,4,_,rfl,rfl, .inl ⟨by decide,by decide⟩,_,_,rfl,rfl,_,rfl,wl,wvs,rfl, .inl (SqL.of lw.hw),a,ns,_,_,rfl,hS15,h63,by omega,by omega,by omega,fun r2 r20 r21=> ?_⟩
 obtain ⟨j,rfl⟩:∃j:Nat,r2=(j:Int):=⟨r2.toNat,by omega⟩
 have hj:j < wvs.length:=by omega
 have ej:wvs[j]?=some wvs[j]:=List.getElem?_eq_getElem hj
 have gv:=lw.gw _ (List.mem_of_getElem? ej)
 generalize wvs[j]=wv at ej gv
 refine ⟨wl,wvs,(j:Int),wv,rfl,rfl,SqL.of lw.hw,atI_nat ej,?_⟩
 refine gname_of ?_
 try dsimp only
 have fin:∀ {x' y':Bx} {H':Hp} {q5 q6:Option V},Lw C H H' BL KL wl wvs x' y' (i+1)→(tIfS (tOr (tNot (tB (tCall (spTld C) [] E0 (tCons (tOp (rIxL K) (tVar 1) (tC (.int 0))) (tCons (tOp (rIxL K) (tVar 2) (tC (.int 0))) tNil))))) (tNot (tB (tCall (spTld C) [] E0 (tCons (tOp (rIxL K) (tVar 1) (tC (.int 1))) (tCons (tOp (rIxL K) (tVar 2) (tC (.int 1))) tNil)))))) (tRet (tC (.bl false))) tNext)
  {nx:=fun σ H'=>(∃x y,Lw C H H' BL KL wl wvs x y (i+1))∧∃v4 v5 v6,σ= [some (.ref a),some (.ref BL),some (.ref KL),some (.ref wl),v4,v5,v6],rt:=Q} [some (.ref a),some (.ref BL),some (.ref KL),some (.ref wl),some (.int (0+(i:Int))),q5,q6] H':=fun {x' y' H' q5 q6} lw'=>by
  refine ⟨_,rfl,BL,_,0,_,rfl,rfl,SqL.of lw'.hB,rfl,_,rfl,KL,_,0,_,rfl,rfl,SqL.of lw'.hK,rfl,x',rfl,told lw'.bx (by omega),fun H17 s17=>⟨true,rfl,iteF ?_⟩⟩
  have lw2:=lw'.same s17
  refine ⟨_,rfl,BL,_,1,_,rfl,rfl,SqL.of lw2.hB,rfl,_,rfl,KL,_,1,_,rfl,rfl,SqL.of lw2.hK,rfl,y',rfl,told lw2.by_ (by omega),fun H18 s18=>⟨true,rfl,iteF ?_⟩⟩
  exact ⟨⟨x',y',lw2.same s18⟩,_,_,_,rfl⟩
 cases bb with
 |false=>
  refine ⟨_,rfl,_,rfl,4,_,rfl,rfl, .inl ⟨by decide,by decide⟩,_,_,rfl,rfl,_,rfl,_,rfl,BL,_,0,_,rfl,rfl,SqL.of lw.hB,rfl,_,rfl,_,rfl,KL,_,0,_,rfl,rfl,SqL.of lw.hK,rfl,_,rfl,a,ns,_,x,wv,i,rfl,hS15,h63,by omega,by omega,lw.bx,by omega,gv,fun z H16 d=>⟨true,rfl,iteF ?_⟩⟩
  exact fin (lw.left d)
 |true=>
  refine ⟨_,rfl,_,rfl,4,_,rfl,rfl, .inl ⟨by decide,by decide⟩,_,_,rfl,rfl,_,rfl,_,rfl,BL,_,1,_,rfl,rfl,SqL.of lw.hB,rfl,_,rfl,_,rfl,KL,_,1,_,rfl,rfl,SqL.of lw.hK,rfl,_,rfl,a,ns,_,y,wv,i,rfl,hS15,h63,by omega,by omega,lw.by_,by omega,gv,fun z H16 d=>⟨true,rfl,iteF ?_⟩⟩
  exact fin (lw.right d)
end
open PySem L2 Mth Wd
theorem ex0 {n:Nat} (us:List Value) (hl:us.length=n+1):∃a vs,us=a::vs∧vs.length=n:=by
 cases us with
 |nil=>cases hl
 |cons a vs=>exact ⟨a,vs,rfl,Nat.succ.inj hl⟩
theorem ex1 (us:List Value) (hl:us.length=1):∃a,us= [a]:=by
 obtain ⟨a,vs,rfl,h⟩:=ex0 us hl
 exact ⟨a,by rw [List.eq_nil_of_length_eq_zero h]⟩
theorem ex2 (us:List Value) (hl:us.length=2):∃a b,us= [a,b]:=by
 obtain ⟨a,vs,rfl,h⟩:=ex0 us hl
 obtain ⟨b,rfl⟩:=ex1 vs h
 exact ⟨a,b,rfl⟩
theorem ex3 (us:List Value) (hl:us.length=3):∃a b c,us= [a,b,c]:=by
 obtain ⟨a,vs,rfl,h⟩:=ex0 us hl
 obtain ⟨b,c,rfl⟩:=ex2 vs h
 exact ⟨a,b,c,rfl⟩
theorem ex4 (us:List Value) (hl:us.length=4):∃a b c d,us= [a,b,c,d]:=by
 obtain ⟨a,vs,rfl,h⟩:=ex0 us hl
 obtain ⟨b,c,d,rfl⟩:=ex3 vs h
 exact ⟨a,b,c,d,rfl⟩
theorem ex5 (us:List Value) (hl:us.length=5):∃a b c d e,us= [a,b,c,d,e]:=by
 obtain ⟨a,vs,rfl,h⟩:=ex0 us hl
 obtain ⟨b,c,d,e,rfl⟩:=ex4 vs h
 exact ⟨a,b,c,d,e,rfl⟩
theorem kit_self (K:PySem.W.Frag) (C:Addr):PySem.W.kitOne K (.ref C) (.ref C)=some true:=by
 unfold PySem.W.kitOne
 rw [if_pos (by simp)]
theorem kit_one {K:PySem.W.Frag} {S Ci:Addr} (e1:(Value.ref S==Value.ref Ci)=false) (e2:PySem.W.isClsIn K Ci=true) (e3:PySem.W.typeIn K (.ref Ci)=some (.type "type")) (e4:PySem.W.subIn K (.ref S) (.ref Ci)=some false):PySem.W.kitOne K (.ref S) (.ref Ci)=some false:=by
 unfold PySem.W.kitOne PySem.W.kitCls
 dsimp only
 rw [e1,show (PySem.W.clsIn K Ci).isSome=true from e2,e3,e4]
 rfl
theorem kit_ve {K:PySem.W.Frag} {S:Addr} (e:PySem.W.subIn K (.ref S) (.type "ValueError")=some true):PySem.W.kitOne K (.ref S) (.type "ValueError")=some true:=by
 unfold PySem.W.kitOne PySem.W.kitCls
 rw [if_neg (by simp)]
 dsimp only
 rw [if_pos (by decide +kernel),e]
theorem exm_w {K:PySem.W.Frag} {S W:Addr} (sW:PySem.W.subIn K (.ref W) (.type "BaseException")=some true) (dW:PySem.W.isClsIn K W=true) (tW:PySem.W.typeIn K (.ref W)=some (.type "type")) (e:PySem.W.subIn K (.ref S) (.ref W)=some true):PySem.W.exmOne K (.ref S) (.ref W)=some true:=by
 unfold PySem.W.exmOne PySem.W.kitCls
 dsimp only
 rw [sW,show (PySem.W.clsIn K W).isSome=true from dW,tW,e]
 rfl
theorem kit_any4 {K:PySem.W.Frag} {S a b c d:Addr} (h1:PySem.W.kitOne K (.ref S) (.ref a)=some false) (h2:PySem.W.kitOne K (.ref S) (.ref b)=some false) (h3:PySem.W.kitOne K (.ref S) (.ref c)=some false) (h4:PySem.W.kitOne K (.ref S) (.ref d)=some false):PySem.W.kitAny K (.ref S) [.ref a, .ref b, .ref c, .ref d]=some false:=by
 unfold PySem.W.kitAny
 try dsimp only
 rw [h1]
 unfold PySem.W.kitAny
 try dsimp only
 rw [h2]
 unfold PySem.W.kitAny
 try dsimp only
 rw [h3]
 unfold PySem.W.kitAny
 try dsimp only
 rw [h4]
 rfl
theorem all_mk {l:PySem.W.OpenLaw} {w:World} {K:PySem.W.Frag} {h:Heap} {mg:Str→Option Value} {fa fI CB C:Addr} (X:K.In h) (G:h.Ns mainGlobals mg) (hfa:mg "law"=some (.ref fa))
 {odI anI:Option Addr} {slI:Array (Option Value)} {ocI kVI dcI pmI cdI ctI:Value}
 {fCD:Addr} {odCD anCD:Option Addr} {slCD:Array (Option Value)} {ocCD kVCD dcCD pmCD cdCD ctCD:Value}
 {fFR:Addr} {odFR anFR:Option Addr} {slFR:Array (Option Value)} {ocFR kVFR dcFR pmFR cdFR ctFR:Value}
 {fIW:Addr} {odIW anIW:Option Addr} {slIW:Array (Option Value)} {ocIW kVIW dcIW pmIW cdIW ctIW:Value}
 {fTO:Addr} {odTO anTO:Option Addr} {slTO:Array (Option Value)} {ocTO kVTO dcTO pmTO cdTO ctTO:Value}
 {fNQ:Addr} {odNQ anNQ:Option Addr} {slNQ:Array (Option Value)} {ocNQ kVNQ dcNQ pmNQ cdNQ ctNQ:Value}
 {fFQ:Addr} {odFQ anFQ:Option Addr} {slFQ:Array (Option Value)} {ocFQ kVFQ dcFQ pmFQ cdFQ ctFQ:Value}
 {fTQ:Addr} {odTQ anTQ:Option Addr} {slTQ:Array (Option Value)} {ocTQ kVTQ dcTQ pmTQ cdTQ ctTQ:Value}
 {fCT:Addr} {odCT anCT:Option Addr} {slCT:Array (Option Value)} {ocCT kVCT dcCT pmCT cdCT ctCT:Value}
 {fPR:Addr} {odPR anPR:Option Addr} {slPR:Array (Option Value)} {ocPR kVPR dcPR pmPR cdPR ctPR:Value}
 {fSM:Addr} {odSM anSM:Option Addr} {slSM:Array (Option Value)} {ocSM kVSM dcSM pmSM cdSM ctSM:Value}
 {fAQ:Addr} {odAQ anAQ:Option Addr} {slAQ:Array (Option Value)} {ocAQ kVAQ dcAQ pmAQ cdAQ ctAQ:Value}
 {fWQ:Addr} {odWQ anWQ:Option Addr} {slWQ:Array (Option Value)} {ocWQ kVWQ dcWQ pmWQ cdWQ ctWQ:Value}
 {fDR:Addr} {odDR anDR:Option Addr} {slDR:Array (Option Value)} {ocDR kVDR dcDR pmDR cdDR ctDR:Value}
 {fTE:Addr} {odTE anTE:Option Addr} {slTE:Array (Option Value)} {ocTE kVTE dcTE pmTE cdTE ctTE:Value}
 {fSH:Addr} {odSH anSH:Option Addr} {slSH:Array (Option Value)} {ocSH kVSH dcSH pmSH cdSH ctSH:Value}
 {fAT:Addr} {odAT anAT:Option Addr} {slAT:Array (Option Value)} {ocAT kVAT dcAT pmAT cdAT ctAT:Value}
 {fWI:Addr} {odWI anWI:Option Addr} {slWI:Array (Option Value)} {ocWI kVWI dcWI pmWI cdWI ctWI:Value}
 {fWS:Addr} {odWS anWS:Option Addr} {slWS:Array (Option Value)} {ocWS kVWS dcWS pmWS cdWS ctWS:Value}
 {fRF:Addr} {odRF anRF:Option Addr} {slRF:Array (Option Value)} {ocRF kVRF dcRF pmRF cdRF ctRF:Value}
 {fST:Addr} {odST anST:Option Addr} {slST:Array (Option Value)} {ocST kVST dcST pmST cdST ctST:Value}
 {fAK:Addr} {odAK anAK:Option Addr} {slAK:Array (Option Value)} {ocAK kVAK dcAK pmAK cdAK ctAK:Value}
 {fDE:Addr} {odDE anDE:Option Addr} {slDE:Array (Option Value)} {ocDE kVDE dcDE pmDE cdDE ctDE:Value}
 {fTD:Addr} {odTD anTD:Option Addr} {slTD:Array (Option Value)} {ocTD kVTD dcTD pmTD cdTD ctTD:Value}
 {fLA:Addr} {odLA anLA:Option Addr} {slLA:Array (Option Value)} {ocLA kVLA dcLA pmLA cdLA ctLA:Value}
 {fBI:Addr} {odBI anBI:Option Addr} {slBI:Array (Option Value)} {ocBI kVBI dcBI pmBI cdBI ctBI:Value}
 {fBP:Addr} {odBP anBP:Option Addr} {slBP:Array (Option Value)} {ocBP kVBP dcBP pmBP cdBP ctBP:Value}
 {fBU:Addr} {odBU anBU:Option Addr} {slBU:Array (Option Value)} {ocBU kVBU dcBU pmBU cdBU ctBU:Value}
 {fBO:Addr} {odBO anBO:Option Addr} {slBO:Array (Option Value)} {ocBO kVBO dcBO pmBO cdBO ctBO:Value}
 {fBL:Addr} {odBL anBL:Option Addr} {slBL:Array (Option Value)} {ocBL kVBL dcBL pmBL cdBL ctBL:Value}
 {fBW:Addr} {odBW anBW:Option Addr} {slBW:Array (Option Value)} {ocBW kVBW dcBW pmBW cdBW ctBW:Value}
 {Z:Addr} {dZ:Option Addr} {nZ:Nat} {sZ:Array (Option Value)} {t0 t1:Tok}
 {tk1 tk2:Tok}
 {W CL CW cA cN cT c1 c2 c4:Addr}
 {nmC qnC:Str} {NnC:Addr} {bsC bmC:List Value} {hdC:Bool} {snC:List Str} {subC:List Value} {abC:Bool} {colC:Option Bool} {ddC:Option Addr} {k0C k1C k2C k3C k5C:Option Value}
 {nmCL qnCL:Str} {NnCL:Addr} {bsCL bmCL:List Value} {hdCL:Bool} {snCL:List Str} {subCL:List Value} {abCL:Bool} {colCL:Option Bool} {ddCL:Option Addr} {k0CL k1CL k2CL k3CL k5CL:Option Value}
 {nmCW qnCW:Str} {NnCW:Addr} {bsCW bmCW:List Value} {hdCW:Bool} {snCW:List Str} {subCW:List Value} {abCW:Bool} {colCW:Option Bool} {ddCW:Option Addr} {k0CW k1CW k2CW k3CW k5CW:Option Value}
 (aC:PySem.W.nsIn K mainGlobals "NoShare"=some (some (.ref C)))
 (iC:PySem.W.findIn K (.ref C) "__init__"=some (some (.ref fI)))
 (fnI:PySem.W.isFn K (.ref fI)=true)
 (lI:K.lookup fI=some ⟨ocI,odI, .func (PySem.W.fnOf "__init__" "WishError.__init__" (defArgs sInit) (defBody sInit) (defScope sInit) .none kVI dcI pmI anI cdI ctI),slI⟩)
 (cI:PySem.W.codeIn K cdI "WishError.__init__"=true)
 (kI:PySem.W.keepIn K (.ref fI)=true)
 (aCD:PySem.W.nsIn K mainGlobals "common_divisor"=some (some (.ref fCD)))
 (lCD:K.lookup fCD=some ⟨ocCD,odCD, .func (PySem.W.fnOf "common_divisor" "common_divisor" (defArgs sCd) (defBody sCd) (defScope sCd) .none kVCD dcCD pmCD anCD cdCD ctCD),slCD⟩)
 (cCD:PySem.W.codeIn K cdCD "common_divisor"=true)
 (kCD:PySem.W.keepIn K (.ref fCD)=true)
 (aFR:PySem.W.nsIn K mainGlobals "fraction"=some (some (.ref fFR)))
 (lFR:K.lookup fFR=some ⟨ocFR,odFR, .func (PySem.W.fnOf "fraction" "fraction" (defArgs sFr) (defBody sFr) (defScope sFr) .none kVFR dcFR pmFR anFR cdFR ctFR),slFR⟩)
 (cFR:PySem.W.codeIn K cdFR "fraction"=true)
 (kFR:PySem.W.keepIn K (.ref fFR)=true)
 (aIW:PySem.W.nsIn K mainGlobals "is_whole"=some (some (.ref fIW)))
 (lIW:K.lookup fIW=some ⟨ocIW,odIW, .func (PySem.W.fnOf "is_whole" "is_whole" (defArgs sIw) (defBody sIw) (defScope sIw) .none kVIW dcIW pmIW anIW cdIW ctIW),slIW⟩)
 (cIW:PySem.W.codeIn K cdIW "is_whole"=true)
 (kIW:PySem.W.keepIn K (.ref fIW)=true)
 (aTO:PySem.W.nsIn K mainGlobals "is_tuple_of"=some (some (.ref fTO)))
 (lTO:K.lookup fTO=some ⟨ocTO,odTO, .func (PySem.W.fnOf "is_tuple_of" "is_tuple_of" (defArgs sIto) (defBody sIto) (defScope sIto) .none kVTO dcTO pmTO anTO cdTO ctTO),slTO⟩)
 (cTO:PySem.W.codeIn K cdTO "is_tuple_of"=true)
 (kTO:PySem.W.keepIn K (.ref fTO)=true)
 (aNQ:PySem.W.nsIn K mainGlobals "is_name"=some (some (.ref fNQ)))
 (lNQ:K.lookup fNQ=some ⟨ocNQ,odNQ, .func (PySem.W.fnOf "is_name" "is_name" (defArgs sNmQ) (defBody sNmQ) (defScope sNmQ) .none kVNQ dcNQ pmNQ anNQ cdNQ ctNQ),slNQ⟩)
 (cNQ:PySem.W.codeIn K cdNQ "is_name"=true)
 (kNQ:PySem.W.keepIn K (.ref fNQ)=true)
 (aFQ:PySem.W.nsIn K mainGlobals "is_fraction"=some (some (.ref fFQ)))
 (lFQ:K.lookup fFQ=some ⟨ocFQ,odFQ, .func (PySem.W.fnOf "is_fraction" "is_fraction" (defArgs sFrQ) (defBody sFrQ) (defScope sFrQ) .none kVFQ dcFQ pmFQ anFQ cdFQ ctFQ),slFQ⟩)
 (cFQ:PySem.W.codeIn K cdFQ "is_fraction"=true)
 (kFQ:PySem.W.keepIn K (.ref fFQ)=true)
 (aTQ:PySem.W.nsIn K mainGlobals "is_term"=some (some (.ref fTQ)))
 (lTQ:K.lookup fTQ=some ⟨ocTQ,odTQ, .func (PySem.W.fnOf "is_term" "is_term" (defArgs sTmQ) (defBody sTmQ) (defScope sTmQ) .none kVTQ dcTQ pmTQ anTQ cdTQ ctTQ),slTQ⟩)
 (cTQ:PySem.W.codeIn K cdTQ "is_term"=true)
 (kTQ:PySem.W.keepIn K (.ref fTQ)=true)
 (aCT:PySem.W.nsIn K mainGlobals "are_call_terms"=some (some (.ref fCT)))
 (lCT:K.lookup fCT=some ⟨ocCT,odCT, .func (PySem.W.fnOf "are_call_terms" "are_call_terms" (defArgs sCtQ) (defBody sCtQ) (defScope sCtQ) .none kVCT dcCT pmCT anCT cdCT ctCT),slCT⟩)
 (cCT:PySem.W.codeIn K cdCT "are_call_terms"=true)
 (kCT:PySem.W.keepIn K (.ref fCT)=true)
 (aPR:PySem.W.nsIn K mainGlobals "is_pair"=some (some (.ref fPR)))
 (lPR:K.lookup fPR=some ⟨ocPR,odPR, .func (PySem.W.fnOf "is_pair" "is_pair" (defArgs sPrQ) (defBody sPrQ) (defScope sPrQ) .none kVPR dcPR pmPR anPR cdPR ctPR),slPR⟩)
 (cPR:PySem.W.codeIn K cdPR "is_pair"=true)
 (kPR:PySem.W.keepIn K (.ref fPR)=true)
 (aSM:PySem.W.nsIn K mainGlobals "is_sum"=some (some (.ref fSM)))
 (lSM:K.lookup fSM=some ⟨ocSM,odSM, .func (PySem.W.fnOf "is_sum" "is_sum" (defArgs sSmQ) (defBody sSmQ) (defScope sSmQ) .none kVSM dcSM pmSM anSM cdSM ctSM),slSM⟩)
 (cSM:PySem.W.codeIn K cdSM "is_sum"=true)
 (kSM:PySem.W.keepIn K (.ref fSM)=true)
 (aAQ:PySem.W.nsIn K mainGlobals "is_atom"=some (some (.ref fAQ)))
 (lAQ:K.lookup fAQ=some ⟨ocAQ,odAQ, .func (PySem.W.fnOf "is_atom" "is_atom" (defArgs sAtQ) (defBody sAtQ) (defScope sAtQ) .none kVAQ dcAQ pmAQ anAQ cdAQ ctAQ),slAQ⟩)
 (cAQ:PySem.W.codeIn K cdAQ "is_atom"=true)
 (kAQ:PySem.W.keepIn K (.ref fAQ)=true)
 (aWQ:PySem.W.nsIn K mainGlobals "is_wish"=some (some (.ref fWQ)))
 (lWQ:K.lookup fWQ=some ⟨ocWQ,odWQ, .func (PySem.W.fnOf "is_wish" "is_wish" (defArgs sWsQ) (defBody sWsQ) (defScope sWsQ) .none kVWQ dcWQ pmWQ anWQ cdWQ ctWQ),slWQ⟩)
 (cWQ:PySem.W.codeIn K cdWQ "is_wish"=true)
 (kWQ:PySem.W.keepIn K (.ref fWQ)=true)
 (aDR:PySem.W.nsIn K mainGlobals "_law_draw"=some (some (.ref fDR)))
 (lDR:K.lookup fDR=some ⟨ocDR,odDR, .func (PySem.W.fnOf "_law_draw" "_law_draw" (defArgs sDraw) (defBody sDraw) (defScope sDraw) .none kVDR dcDR pmDR anDR cdDR ctDR),slDR⟩)
 (cDR:PySem.W.codeIn K cdDR "_law_draw"=true)
 (kDR:PySem.W.keepIn K (.ref fDR)=true)
 (aTE:PySem.W.nsIn K mainGlobals "_law_term"=some (some (.ref fTE)))
 (lTE:K.lookup fTE=some ⟨ocTE,odTE, .func (PySem.W.fnOf "_law_term" "_law_term" (defArgs sTerm) (defBody sTerm) (defScope sTerm) .none kVTE dcTE pmTE anTE cdTE ctTE),slTE⟩)
 (cTE:PySem.W.codeIn K cdTE "_law_term"=true)
 (kTE:PySem.W.keepIn K (.ref fTE)=true)
 (aSH:PySem.W.nsIn K mainGlobals "_law_share"=some (some (.ref fSH)))
 (lSH:K.lookup fSH=some ⟨ocSH,odSH, .func (PySem.W.fnOf "_law_share" "_law_share" (defArgs sShare) (defBody sShare) (defScope sShare) .none kVSH dcSH pmSH anSH cdSH ctSH),slSH⟩)
 (cSH:PySem.W.codeIn K cdSH "_law_share"=true)
 (kSH:PySem.W.keepIn K (.ref fSH)=true)
 (aAT:PySem.W.nsIn K mainGlobals "_law_atom"=some (some (.ref fAT)))
 (lAT:K.lookup fAT=some ⟨ocAT,odAT, .func (PySem.W.fnOf "_law_atom" "_law_atom" (defArgs sAtom) (defBody sAtom) (defScope sAtom) .none kVAT dcAT pmAT anAT cdAT ctAT),slAT⟩)
 (cAT:PySem.W.codeIn K cdAT "_law_atom"=true)
 (kAT:PySem.W.keepIn K (.ref fAT)=true)
 (aWI:PySem.W.nsIn K mainGlobals "_law_wish"=some (some (.ref fWI)))
 (lWI:K.lookup fWI=some ⟨ocWI,odWI, .func (PySem.W.fnOf "_law_wish" "_law_wish" (defArgs sWish) (defBody sWish) (defScope sWish) .none kVWI dcWI pmWI anWI cdWI ctWI),slWI⟩)
 (cWI:PySem.W.codeIn K cdWI "_law_wish"=true)
 (kWI:PySem.W.keepIn K (.ref fWI)=true)
 (aWS:PySem.W.nsIn K mainGlobals "_law_wishes"=some (some (.ref fWS)))
 (lWS:K.lookup fWS=some ⟨ocWS,odWS, .func (PySem.W.fnOf "_law_wishes" "_law_wishes" (defArgs sWishes) (defBody sWishes) (defScope sWishes) .none kVWS dcWS pmWS anWS cdWS ctWS),slWS⟩)
 (cWS:PySem.W.codeIn K cdWS "_law_wishes"=true)
 (kWS:PySem.W.keepIn K (.ref fWS)=true)
 (aRF:PySem.W.nsIn K mainGlobals "_law_refusal"=some (some (.ref fRF)))
 (lRF:K.lookup fRF=some ⟨ocRF,odRF, .func (PySem.W.fnOf "_law_refusal" "_law_refusal" (defArgs sRefu) (defBody sRefu) (defScope sRefu) .none kVRF dcRF pmRF anRF cdRF ctRF),slRF⟩)
 (cRF:PySem.W.codeIn K cdRF "_law_refusal"=true)
 (kRF:PySem.W.keepIn K (.ref fRF)=true)
 (aST:PySem.W.nsIn K mainGlobals "_law_strange"=some (some (.ref fST)))
 (lST:K.lookup fST=some ⟨ocST,odST, .func (PySem.W.fnOf "_law_strange" "_law_strange" (defArgs sStr) (defBody sStr) (defScope sStr) .none kVST dcST pmST anST cdST ctST),slST⟩)
 (cST:PySem.W.codeIn K cdST "_law_strange"=true)
 (kST:PySem.W.keepIn K (.ref fST)=true)
 (aAK:PySem.W.nsIn K mainGlobals "_law_asked"=some (some (.ref fAK)))
 (lAK:K.lookup fAK=some ⟨ocAK,odAK, .func (PySem.W.fnOf "_law_asked" "_law_asked" (defArgs sAsk) (defBody sAsk) (defScope sAsk) .none kVAK dcAK pmAK anAK cdAK ctAK),slAK⟩)
 (cAK:PySem.W.codeIn K cdAK "_law_asked"=true)
 (kAK:PySem.W.keepIn K (.ref fAK)=true)
 (aDE:PySem.W.nsIn K mainGlobals "_law_deed"=some (some (.ref fDE)))
 (lDE:K.lookup fDE=some ⟨ocDE,odDE, .func (PySem.W.fnOf "_law_deed" "_law_deed" (defArgs sDeed) (defBody sDeed) (defScope sDeed) .none kVDE dcDE pmDE anDE cdDE ctDE),slDE⟩)
 (cDE:PySem.W.codeIn K cdDE "_law_deed"=true)
 (kDE:PySem.W.keepIn K (.ref fDE)=true)
 (aTD:PySem.W.nsIn K mainGlobals "_law_is_told"=some (some (.ref fTD)))
 (lTD:K.lookup fTD=some ⟨ocTD,odTD, .func (PySem.W.fnOf "_law_is_told" "_law_is_told" (defArgs sTold) (defBody sTold) (defScope sTold) .none kVTD dcTD pmTD anTD cdTD ctTD),slTD⟩)
 (cTD:PySem.W.codeIn K cdTD "_law_is_told"=true)
 (kTD:PySem.W.keepIn K (.ref fTD)=true)
 (aLA:PySem.W.nsIn K mainGlobals "law"=some (some (.ref fLA)))
 (lLA:K.lookup fLA=some ⟨ocLA,odLA, .func (PySem.W.fnOf "law" "law" (defArgs sLaw) (defBody sLaw) (defScope sLaw) .none kVLA dcLA pmLA anLA cdLA ctLA),slLA⟩)
 (cLA:PySem.W.codeIn K cdLA "law"=true)
 (kLA:PySem.W.keepIn K (.ref fLA)=true)
 (aCB:PySem.W.nsIn K mainGlobals "Bench"=some (some (.ref CB)))
 (aBI:PySem.W.findIn K (.ref CB) "__init__"=some (some (.ref fBI)))
 (nBI:PySem.W.isFn K (.ref fBI)=true)
 (lBI:K.lookup fBI=some ⟨ocBI,odBI, .func (PySem.W.fnOf "__init__" "Bench.__init__" (defArgs sBinit) (defBody sBinit) (defScope sBinit) .none kVBI dcBI pmBI anBI cdBI ctBI),slBI⟩)
 (cBI:PySem.W.codeIn K cdBI "Bench.__init__"=true)
 (kBI:PySem.W.keepIn K (.ref fBI)=true)
 (aBP:PySem.W.findIn K (.ref CB) "put"=some (some (.ref fBP)))
 (nBP:PySem.W.isFn K (.ref fBP)=true)
 (lBP:K.lookup fBP=some ⟨ocBP,odBP, .func (PySem.W.fnOf "put" "Bench.put" (defArgs sBput) (defBody sBput) (defScope sBput) .none kVBP dcBP pmBP anBP cdBP ctBP),slBP⟩)
 (cBP:PySem.W.codeIn K cdBP "Bench.put"=true)
 (kBP:PySem.W.keepIn K (.ref fBP)=true)
 (aBU:PySem.W.findIn K (.ref CB) "push"=some (some (.ref fBU)))
 (nBU:PySem.W.isFn K (.ref fBU)=true)
 (lBU:K.lookup fBU=some ⟨ocBU,odBU, .func (PySem.W.fnOf "push" "Bench.push" (defArgs sBpush) (defBody sBpush) (defScope sBpush) .none kVBU dcBU pmBU anBU cdBU ctBU),slBU⟩)
 (cBU:PySem.W.codeIn K cdBU "Bench.push"=true)
 (kBU:PySem.W.keepIn K (.ref fBU)=true)
 (aBO:PySem.W.findIn K (.ref CB) "pop"=some (some (.ref fBO)))
 (nBO:PySem.W.isFn K (.ref fBO)=true)
 (lBO:K.lookup fBO=some ⟨ocBO,odBO, .func (PySem.W.fnOf "pop" "Bench.pop" (defArgs sBpop) (defBody sBpop) (defScope sBpop) .none kVBO dcBO pmBO anBO cdBO ctBO),slBO⟩)
 (cBO:PySem.W.codeIn K cdBO "Bench.pop"=true)
 (kBO:PySem.W.keepIn K (.ref fBO)=true)
 (aBL:PySem.W.findIn K (.ref CB) "level"=some (some (.ref fBL)))
 (nBL:PySem.W.isFn K (.ref fBL)=true)
 (lBL:K.lookup fBL=some ⟨ocBL,odBL, .func (PySem.W.fnOf "level" "Bench.level" (defArgs sBlevel) (defBody sBlevel) (defScope sBlevel) .none kVBL dcBL pmBL anBL cdBL ctBL),slBL⟩)
 (cBL:PySem.W.codeIn K cdBL "Bench.level"=true)
 (kBL:PySem.W.keepIn K (.ref fBL)=true)
 (aBW:PySem.W.findIn K (.ref CB) "wishes"=some (some (.ref fBW)))
 (nBW:PySem.W.isFn K (.ref fBW)=true)
 (lBW:K.lookup fBW=some ⟨ocBW,odBW, .func (PySem.W.fnOf "wishes" "Bench.wishes" (defArgs sBwishes) (defBody sBwishes) (defScope sBwishes) .none kVBW dcBW pmBW anBW cdBW ctBW),slBW⟩)
 (cBW:PySem.W.codeIn K cdBW "Bench.wishes"=true)
 (kBW:PySem.W.keepIn K (.ref fBW)=true)
 (kCB:PySem.W.keepIn K (.ref CB)=true)
 (qM:PySem.W.makesIn K CB=true)
 (qG:PySem.W.plainGet K CB Str.empty=true)
 (qD:PySem.W.hasDictIn K CB=true)
 (qO:PySem.W.plainOver K CB=true)
 (qS:PySem.W.findIn K (.ref CB) "__setattr__"=some (some (.builtin "object.__setattr__")))
 (qP:PySem.W.findIn K (.ref CB) "kept"=some none)
 (qN:PySem.W.findIn K (.ref CB) "counts"=some none)
 (aZ:PySem.W.nsIn K mainGlobals "ZERO"=some (some (.ref Z)))
 (lZ:K.lookup Z=some ⟨.type "tuple",dZ, .seq #[.int 0 t0, .int 1 t1] nZ,sZ⟩)
 (aML:PySem.W.nsIn K mainGlobals "MOST_LETTERS"=some (some (.int 8 tk1)))
 (aMC:PySem.W.nsIn K mainGlobals "MOST_IN_CALL"=some (some (.int 3 tk2)))
 (aW:PySem.W.nsIn K mainGlobals "WishError"=some (some (.ref W)))
 (aCL:PySem.W.nsIn K mainGlobals "NoLevel"=some (some (.ref CL)))
 (aCW:PySem.W.nsIn K mainGlobals "NoWish"=some (some (.ref CW)))
 (acA:PySem.W.nsIn K mainGlobals "NoAnswer"=some (some (.ref cA)))
 (acN:PySem.W.nsIn K mainGlobals "NoLine"=some (some (.ref cN)))
 (acT:PySem.W.nsIn K mainGlobals "NoText"=some (some (.ref cT)))
 (ac1:PySem.W.nsIn K mainGlobals "BadStep"=some (some (.ref c1)))
 (ac2:PySem.W.nsIn K mainGlobals "NoPaper"=some (some (.ref c2)))
 (ac4:PySem.W.nsIn K mainGlobals "NoStep"=some (some (.ref c4)))
 (kC:PySem.W.keepIn K (.ref C)=true)
 (lC:K.lookup C=some (excClassObj nmC qnC C NnC bsC bmC hdC snC subC abC colC ddC k0C k1C k2C k3C k5C "ValueError.__new__"))
 (iCL:PySem.W.findIn K (.ref CL) "__init__"=some (some (.ref fI)))
 (kCL:PySem.W.keepIn K (.ref CL)=true)
 (lCL:K.lookup CL=some (excClassObj nmCL qnCL CL NnCL bsCL bmCL hdCL snCL subCL abCL colCL ddCL k0CL k1CL k2CL k3CL k5CL "ValueError.__new__"))
 (iCW:PySem.W.findIn K (.ref CW) "__init__"=some (some (.ref fI)))
 (kCW:PySem.W.keepIn K (.ref CW)=true)
 (lCW:K.lookup CW=some (excClassObj nmCW qnCW CW NnCW bsCW bmCW hdCW snCW subCW abCW colCW ddCW k0CW k1CW k2CW k3CW k5CW "ValueError.__new__"))
 (sW:PySem.W.subIn K (.ref W) (.type "BaseException")=some true)
 (dW:PySem.W.isClsIn K W=true)
 (tW:PySem.W.typeIn K (.ref W)=some (.type "type"))
 (dC:PySem.W.isClsIn K C=true)
 (tC:PySem.W.typeIn K (.ref C)=some (.type "type"))
 (dCL:PySem.W.isClsIn K CL=true)
 (tCL:PySem.W.typeIn K (.ref CL)=some (.type "type"))
 (dCW:PySem.W.isClsIn K CW=true)
 (tCW:PySem.W.typeIn K (.ref CW)=some (.type "type"))
 (dcA:PySem.W.isClsIn K cA=true)
 (tcA:PySem.W.typeIn K (.ref cA)=some (.type "type"))
 (dcN:PySem.W.isClsIn K cN=true)
 (tcN:PySem.W.typeIn K (.ref cN)=some (.type "type"))
 (dcT:PySem.W.isClsIn K cT=true)
 (tcT:PySem.W.typeIn K (.ref cT)=some (.type "type"))
 (dc1:PySem.W.isClsIn K c1=true)
 (tc1:PySem.W.typeIn K (.ref c1)=some (.type "type"))
 (dc2:PySem.W.isClsIn K c2=true)
 (tc2:PySem.W.typeIn K (.ref c2)=some (.type "type"))
 (dc4:PySem.W.isClsIn K c4=true)
 (tc4:PySem.W.typeIn K (.ref c4)=some (.type "type"))
 (gCL:PySem.W.findIn K (.ref CL) "__getattribute__"=some (some (.builtin "BaseException.__getattribute__")))
 (hgCL:PySem.W.findIn K (.ref CL) "__getattr__"=some none)
 (oCL:PySem.W.findIn K (.ref CL) "__class__"=some (some (.builtin "object.__class__")))
 (moCL:PySem.W.mroIn K CL (.type "object")=some true)
 (mbCL:PySem.W.mroIn K CL (.type "BaseException")=some true)
 (swCL:PySem.W.subIn K (.ref CL) (.ref W)=some true)
 (svCL:PySem.W.subIn K (.ref CL) (.type "ValueError")=some true)
 (sCLC:PySem.W.subIn K (.ref CL) (.ref C)=some false)
 (sCLCW:PySem.W.subIn K (.ref CL) (.ref CW)=some false)
 (sCLcA:PySem.W.subIn K (.ref CL) (.ref cA)=some false)
 (sCLcN:PySem.W.subIn K (.ref CL) (.ref cN)=some false)
 (sCLcT:PySem.W.subIn K (.ref CL) (.ref cT)=some false)
 (sCLc1:PySem.W.subIn K (.ref CL) (.ref c1)=some false)
 (sCLc2:PySem.W.subIn K (.ref CL) (.ref c2)=some false)
 (sCLc4:PySem.W.subIn K (.ref CL) (.ref c4)=some false)
 (gCW:PySem.W.findIn K (.ref CW) "__getattribute__"=some (some (.builtin "BaseException.__getattribute__")))
 (hgCW:PySem.W.findIn K (.ref CW) "__getattr__"=some none)
 (oCW:PySem.W.findIn K (.ref CW) "__class__"=some (some (.builtin "object.__class__")))
 (moCW:PySem.W.mroIn K CW (.type "object")=some true)
 (mbCW:PySem.W.mroIn K CW (.type "BaseException")=some true)
 (swCW:PySem.W.subIn K (.ref CW) (.ref W)=some true)
 (svCW:PySem.W.subIn K (.ref CW) (.type "ValueError")=some true)
 (sCWC:PySem.W.subIn K (.ref CW) (.ref C)=some false)
 (sCWCL:PySem.W.subIn K (.ref CW) (.ref CL)=some false)
 (sCWcA:PySem.W.subIn K (.ref CW) (.ref cA)=some false)
 (sCWcN:PySem.W.subIn K (.ref CW) (.ref cN)=some false)
 (sCWcT:PySem.W.subIn K (.ref CW) (.ref cT)=some false)
 (sCWc1:PySem.W.subIn K (.ref CW) (.ref c1)=some false)
 (sCWc2:PySem.W.subIn K (.ref CW) (.ref c2)=some false)
 (sCWc4:PySem.W.subIn K (.ref CW) (.ref c4)=some false)
 (z_abs:PySem.W.nsIn K mainGlobals "abs"=some none)
 (z_len:PySem.W.nsIn K mainGlobals "len"=some none)
 (z_range:PySem.W.nsIn K mainGlobals "range"=some none)
 (z_isinstance:PySem.W.nsIn K mainGlobals "isinstance"=some none)
 (z_tuple:PySem.W.nsIn K mainGlobals "tuple"=some none)
 (z_int:PySem.W.nsIn K mainGlobals "int"=some none)
 (z_bool:PySem.W.nsIn K mainGlobals "bool"=some none)
 (z_list:PySem.W.nsIn K mainGlobals "list"=some none)
 (z_str:PySem.W.nsIn K mainGlobals "str"=some none)
 (z_all:PySem.W.nsIn K mainGlobals "all"=some none)
 (z_any:PySem.W.nsIn K mainGlobals "any"=some none)
 (z_sum:PySem.W.nsIn K mainGlobals "sum"=some none)
 (z_zip:PySem.W.nsIn K mainGlobals "zip"=some none)
 (z_sorted:PySem.W.nsIn K mainGlobals "sorted"=some none)
 (z_ValueError:PySem.W.nsIn K mainGlobals "ValueError"=some none)
 (lnC:Line "ValueError" bmC)
 (lnCL:Line "ValueError" bmCL)
 (lnCW:Line "ValueError" bmCW)
 (nCLC:(Value.ref CL==Value.ref C)=false)
 (nCLCW:(Value.ref CL==Value.ref CW)=false)
 (nCLcA:(Value.ref CL==Value.ref cA)=false)
 (nCLcN:(Value.ref CL==Value.ref cN)=false)
 (nCLcT:(Value.ref CL==Value.ref cT)=false)
 (nCLc1:(Value.ref CL==Value.ref c1)=false)
 (nCLc2:(Value.ref CL==Value.ref c2)=false)
 (nCLc4:(Value.ref CL==Value.ref c4)=false)
 (nCWC:(Value.ref CW==Value.ref C)=false)
 (nCWCL:(Value.ref CW==Value.ref CL)=false)
 (nCWcA:(Value.ref CW==Value.ref cA)=false)
 (nCWcN:(Value.ref CW==Value.ref cN)=false)
 (nCWcT:(Value.ref CW==Value.ref cT)=false)
 (nCWc1:(Value.ref CW==Value.ref c1)=false)
 (nCWc2:(Value.ref CW==Value.ref c2)=false)
 (nCWc4:(Value.ref CW==Value.ref c4)=false):
 ∃fd:FuncData,(∀(s:Shared) (v:Value),BindsTo s fd ⟨[v],[]⟩ [("_law_script",v)])∧∀base:Heap,K.In base→base.Ns mainGlobals mg→FnOk l.prog w K mg base CX0 46 fa fd ["_law_script"] (spLaw K):=by
 have e:=hfa.symm.trans (PySem.W.mg_of X G aLA)
 cases e
 have B:Blt mg:=⟨PySem.W.mg_none_of X G z_abs,PySem.W.mg_none_of X G z_len,PySem.W.mg_none_of X G z_range,PySem.W.mg_none_of X G z_isinstance,PySem.W.mg_none_of X G z_tuple,PySem.W.mg_none_of X G z_int,PySem.W.mg_none_of X G z_bool,PySem.W.mg_none_of X G z_list,PySem.W.mg_none_of X G z_str,PySem.W.mg_none_of X G z_all,PySem.W.mg_none_of X G z_any,PySem.W.mg_none_of X G z_sum,PySem.W.mg_none_of X G z_zip,PySem.W.mg_none_of X G z_sorted,PySem.W.mg_none_of X G z_ValueError⟩
 have FI:=fun_mk (st:=sInit) lI cI kI
 have bI:=FI.binds (ps:= ["self","words"]) fun _ _ _ _ _ _ us hl=>by obtain ⟨_,_,rfl⟩:=ex2 us hl;rfl
 have FCD:=fun_mk (st:=sCd) lCD cCD kCD
 have bCD:=FCD.binds (ps:= ["one","other"]) fun _ _ _ _ _ _ us hl=>by obtain ⟨_,_,rfl⟩:=ex2 us hl;rfl
 have mCD:=PySem.W.mg_of X G aCD
 have FFR:=fun_mk (st:=sFr) lFR cFR kFR
 have bFR:=FFR.binds (ps:= ["top","bottom"]) fun _ _ _ _ _ _ us hl=>by obtain ⟨_,_,rfl⟩:=ex2 us hl;rfl
 have mFR:=PySem.W.mg_of X G aFR
 have FIW:=fun_mk (st:=sIw) lIW cIW kIW
 have bIW:=FIW.binds (ps:= ["thing"]) fun _ _ _ _ _ _ us hl=>by obtain ⟨_,rfl⟩:=ex1 us hl;rfl
 have mIW:=PySem.W.mg_of X G aIW
 have FTO:=fun_mk (st:=sIto) lTO cTO kTO
 have bTO:=FTO.binds (ps:= ["thing","count"]) fun _ _ _ _ _ _ us hl=>by obtain ⟨_,_,rfl⟩:=ex2 us hl;rfl
 have mTO:=PySem.W.mg_of X G aTO
 have FNQ:=fun_mk (st:=sNmQ) lNQ cNQ kNQ
 have bNQ:=FNQ.binds (ps:= ["thing"]) fun _ _ _ _ _ _ us hl=>by obtain ⟨_,rfl⟩:=ex1 us hl;rfl
 have mNQ:=PySem.W.mg_of X G aNQ
 have FFQ:=fun_mk (st:=sFrQ) lFQ cFQ kFQ
 have bFQ:=FFQ.binds (ps:= ["thing"]) fun _ _ _ _ _ _ us hl=>by obtain ⟨_,rfl⟩:=ex1 us hl;rfl
 have mFQ:=PySem.W.mg_of X G aFQ
 have FTQ:=fun_mk (st:=sTmQ) lTQ cTQ kTQ
 have bTQ:=FTQ.binds (ps:= ["thing"]) fun _ _ _ _ _ _ us hl=>by obtain ⟨_,rfl⟩:=ex1 us hl;rfl
 have mTQ:=PySem.W.mg_of X G aTQ
 have FCT:=fun_mk (st:=sCtQ) lCT cCT kCT
 have bCT:=FCT.binds (ps:= ["thing"]) fun _ _ _ _ _ _ us hl=>by obtain ⟨_,rfl⟩:=ex1 us hl;rfl
 have mCT:=PySem.W.mg_of X G aCT
 have FPR:=fun_mk (st:=sPrQ) lPR cPR kPR
 have bPR:=FPR.binds (ps:= ["thing"]) fun _ _ _ _ _ _ us hl=>by obtain ⟨_,rfl⟩:=ex1 us hl;rfl
 have mPR:=PySem.W.mg_of X G aPR
 have FSM:=fun_mk (st:=sSmQ) lSM cSM kSM
 have bSM:=FSM.binds (ps:= ["thing"]) fun _ _ _ _ _ _ us hl=>by obtain ⟨_,rfl⟩:=ex1 us hl;rfl
 have mSM:=PySem.W.mg_of X G aSM
 have FAQ:=fun_mk (st:=sAtQ) lAQ cAQ kAQ
 have bAQ:=FAQ.binds (ps:= ["thing"]) fun _ _ _ _ _ _ us hl=>by obtain ⟨_,rfl⟩:=ex1 us hl;rfl
 have mAQ:=PySem.W.mg_of X G aAQ
 have FWQ:=fun_mk (st:=sWsQ) lWQ cWQ kWQ
 have bWQ:=FWQ.binds (ps:= ["thing"]) fun _ _ _ _ _ _ us hl=>by obtain ⟨_,rfl⟩:=ex1 us hl;rfl
 have mWQ:=PySem.W.mg_of X G aWQ
 have FDR:=fun_mk (st:=sDraw) lDR cDR kDR
 have bDR:=FDR.binds (ps:= ["_law_script","_law_k","_law_many"]) fun _ _ _ _ _ _ us hl=>by obtain ⟨_,_,_,rfl⟩:=ex3 us hl;rfl
 have mDR:=PySem.W.mg_of X G aDR
 have FTE:=fun_mk (st:=sTerm) lTE cTE kTE
 have bTE:=FTE.binds (ps:= ["_law_script","_law_k"]) fun _ _ _ _ _ _ us hl=>by obtain ⟨_,_,rfl⟩:=ex2 us hl;rfl
 have mTE:=PySem.W.mg_of X G aTE
 have FSH:=fun_mk (st:=sShare) lSH cSH kSH
 have bSH:=FSH.binds (ps:= ["_law_script","_law_k"]) fun _ _ _ _ _ _ us hl=>by obtain ⟨_,_,rfl⟩:=ex2 us hl;rfl
 have mSH:=PySem.W.mg_of X G aSH
 have FAT:=fun_mk (st:=sAtom) lAT cAT kAT
 have bAT:=FAT.binds (ps:= ["_law_script","_law_k"]) fun _ _ _ _ _ _ us hl=>by obtain ⟨_,_,rfl⟩:=ex2 us hl;rfl
 have mAT:=PySem.W.mg_of X G aAT
 have FWI:=fun_mk (st:=sWish) lWI cWI kWI
 have bWI:=FWI.binds (ps:= ["_law_script","_law_k","_law_deep","_law_atoms"]) fun _ _ _ _ _ _ us hl=>by obtain ⟨_,_,_,_,rfl⟩:=ex4 us hl;rfl
 have mWI:=PySem.W.mg_of X G aWI
 have FWS:=fun_mk (st:=sWishes) lWS cWS kWS
 have bWS:=FWS.binds (ps:= ["_law_script","_law_base"]) fun _ _ _ _ _ _ us hl=>by obtain ⟨_,_,rfl⟩:=ex2 us hl;rfl
 have mWS:=PySem.W.mg_of X G aWS
 have FRF:=fun_mk (st:=sRefu) lRF cRF kRF
 have bRF:=FRF.binds (ps:= ["_law_caught"]) fun _ _ _ _ _ _ us hl=>by obtain ⟨_,rfl⟩:=ex1 us hl;rfl
 have mRF:=PySem.W.mg_of X G aRF
 have FST:=fun_mk (st:=sStr) lST cST kST
 have bST:=FST.binds (ps:= ["_law_script","_law_k"]) fun _ _ _ _ _ _ us hl=>by obtain ⟨_,_,rfl⟩:=ex2 us hl;rfl
 have mST:=PySem.W.mg_of X G aST
 have FAK:=fun_mk (st:=sAsk) lAK cAK kAK
 have bAK:=FAK.binds (ps:= ["_law_bench","_law_way","_law_thing"]) fun _ _ _ _ _ _ us hl=>by obtain ⟨_,_,_,rfl⟩:=ex3 us hl;rfl
 have mAK:=PySem.W.mg_of X G aAK
 have FDE:=fun_mk (st:=sDeed) lDE cDE kDE
 have bDE:=FDE.binds (ps:= ["_law_script","_law_k","_law_bench","_law_kept","_law_wish_here"]) fun _ _ _ _ _ _ us hl=>by obtain ⟨_,_,_,_,_,rfl⟩:=ex5 us hl;rfl
 have mDE:=PySem.W.mg_of X G aDE
 have FTD:=fun_mk (st:=sTold) lTD cTD kTD
 have bTD:=FTD.binds (ps:= ["_law_bench","_law_kept"]) fun _ _ _ _ _ _ us hl=>by obtain ⟨_,_,rfl⟩:=ex2 us hl;rfl
 have mTD:=PySem.W.mg_of X G aTD
 have FLA:=fun_mk (st:=sLaw) lLA cLA kLA
 have FBI:=fun_mk (st:=sBinit) lBI cBI kBI
 have bBI:=FBI.binds (ps:= ["self"]) fun _ _ _ _ _ _ us hl=>by obtain ⟨_,rfl⟩:=ex1 us hl;rfl
 have MBI:Meth K CB "__init__" fBI:=⟨aBI,nBI,kBI⟩
 have FBP:=fun_mk (st:=sBput) lBP cBP kBP
 have bBP:=FBP.binds (ps:= ["self","wish"]) fun _ _ _ _ _ _ us hl=>by obtain ⟨_,_,rfl⟩:=ex2 us hl;rfl
 have MBP:Meth K CB "put" fBP:=⟨aBP,nBP,kBP⟩
 have FBU:=fun_mk (st:=sBpush) lBU cBU kBU
 have bBU:=FBU.binds (ps:= ["self"]) fun _ _ _ _ _ _ us hl=>by obtain ⟨_,rfl⟩:=ex1 us hl;rfl
 have MBU:Meth K CB "push" fBU:=⟨aBU,nBU,kBU⟩
 have FBO:=fun_mk (st:=sBpop) lBO cBO kBO
 have bBO:=FBO.binds (ps:= ["self"]) fun _ _ _ _ _ _ us hl=>by obtain ⟨_,rfl⟩:=ex1 us hl;rfl
 have MBO:Meth K CB "pop" fBO:=⟨aBO,nBO,kBO⟩
 have FBL:=fun_mk (st:=sBlevel) lBL cBL kBL
 have bBL:=FBL.binds (ps:= ["self"]) fun _ _ _ _ _ _ us hl=>by obtain ⟨_,rfl⟩:=ex1 us hl;rfl
 have MBL:Meth K CB "level" fBL:=⟨aBL,nBL,kBL⟩
 have FBW:=fun_mk (st:=sBwishes) lBW cBW kBW
 have bBW:=FBW.binds (ps:= ["self"]) fun _ _ _ _ _ _ us hl=>by obtain ⟨_,rfl⟩:=ex1 us hl;rfl
 have MBW:Meth K CB "wishes" fBW:=⟨aBW,nBW,kBW⟩
 have hC:Bc K CB:=⟨⟨qG,qD,qO,qS⟩,qP,qN⟩
 have hM:Mk K CB fBI:=⟨qM,aBI,nBI,kCB⟩
 have mZ:=PySem.W.mg_of X G aZ
 have hZ:∀H:Hp,SqT K H Z [.int 0, .int 1]:=fun H=> .inr ⟨_,_,_,lZ,rfl,rfl,(by show 2≤sizeLine;decide), .cons ⟨t0,rfl⟩ (.cons ⟨t1,rfl⟩ .nil)⟩
 have XC:XCls K C fI:=⟨⟨_,_,_,_,_,_,_,_,_,_,_,_,_,_,_,_,lC,lnC⟩,iC,fnI,kC⟩
 have XCL:XCls K CL fI:=⟨⟨_,_,_,_,_,_,_,_,_,_,_,_,_,_,_,_,lCL,lnCL⟩,iCL,fnI,kCL⟩
 have XCW:XCls K CW fI:=⟨⟨_,_,_,_,_,_,_,_,_,_,_,_,_,_,_,_,lCW,lnCW⟩,iCW,fnI,kCW⟩
 have LCL:Cs K mg CL CL CW cA cN cT c1 c2 C c4 true false:=⟨PySem.W.mg_of X G aCL,PySem.W.mg_of X G aCW,PySem.W.mg_of X G acA,PySem.W.mg_of X G acN,PySem.W.mg_of X G acT,PySem.W.mg_of X G ac1,PySem.W.mg_of X G ac2,PySem.W.mg_of X G aC,PySem.W.mg_of X G ac4,⟨dCL,gCL,hgCL,oCL,moCL,mbCL⟩,kit_ve svCL,(kit_self K CL),(kit_one nCLCW dCW tCW sCLCW),(kit_one nCLcA dcA tcA sCLcA),(kit_one nCLcN dcN tcN sCLcN),(kit_one nCLcT dcT tcT sCLcT),kit_any4 (kit_one nCLc1 dc1 tc1 sCLc1) (kit_one nCLc2 dc2 tc2 sCLc2) (kit_one nCLC dC tC sCLC) (kit_one nCLc4 dc4 tc4 sCLc4)⟩
 have LCW:Cs K mg CW CL CW cA cN cT c1 c2 C c4 false true:=⟨PySem.W.mg_of X G aCL,PySem.W.mg_of X G aCW,PySem.W.mg_of X G acA,PySem.W.mg_of X G acN,PySem.W.mg_of X G acT,PySem.W.mg_of X G ac1,PySem.W.mg_of X G ac2,PySem.W.mg_of X G aC,PySem.W.mg_of X G ac4,⟨dCW,gCW,hgCW,oCW,moCW,mbCW⟩,kit_ve svCW,(kit_one nCWCL dCL tCL sCWCL),(kit_self K CW),(kit_one nCWcA dcA tcA sCWcA),(kit_one nCWcN dcN tcN sCWcN),(kit_one nCWcT dcT tcT sCWcT),kit_any4 (kit_one nCWc1 dc1 tc1 sCWc1) (kit_one nCWc2 dc2 tc2 sCWc2) (kit_one nCWC dC tC sCWC) (kit_one nCWc4 dc4 tc4 sCWc4)⟩
 refine ⟨PySem.W.fnOf "law" "law" (defArgs sLaw) (defBody sLaw) (defScope sLaw) .none kVLA dcLA pmLA anLA cdLA ctLA,fun s v=> .of_eq rfl,fun base _ _=> ?_⟩
 have gFR:FnOk l.prog w K mg base (CX1 l.prog w) 3 fFR _ ["top","bottom"] (spFr C):=ok_fr FFR FCD bCD mCD FI bI (PySem.W.mg_of X G aC) XC B
 have gIW:FnOk l.prog w K mg base CX0 1 fIW _ ["thing"] spIw:=ok_iw FIW B
 have gTO:FnOk l.prog w K mg base CX0 1 fTO _ ["thing","count"] spTo:=ok_to FTO B
 have gNQ:FnOk l.prog w K mg base CX0 1 fNQ _ ["thing"] spNm:=ok_nm FNQ B (PySem.W.mg_of X G aML)
 have gFQ:FnOk l.prog w K mg base CX0 4 fFQ _ ["thing"] spFq:=ok_fq FFQ gTO kTO bTO mTO gIW kIW bIW mIW gFR kFR bFR mFR
 have gTQ:FnOk l.prog w K mg base CX0 25 fTQ _ ["thing"] (spTm 12):=ok_tm FTQ kTQ bTQ mTQ B (PySem.W.mg_of X G aMC) gTO kTO bTO mTO gNQ kNQ bNQ mNQ FCT kCT bCT mCT 12
 have gPR:FnOk l.prog w K mg base CX0 26 fPR _ ["thing"] spPr:=ok_pr FPR gTO kTO bTO mTO gTQ kTQ bTQ mTQ gFQ kFQ bFQ mFQ mZ hZ
 have gSM:FnOk l.prog w K mg base CX0 27 fSM _ ["thing"] spSq:=ok_sq FSM B gPR kPR bPR mPR
 have gAQ:FnOk l.prog w K mg base CX0 28 fAQ _ ["thing"] spAq:=ok_aq FAQ gTO kTO bTO mTO gNQ kNQ bNQ mNQ gSM kSM bSM mSM gFQ kFQ bFQ mFQ gTQ kTQ bTQ mTQ
 have gWQ:FnOk l.prog w K mg base CX0 42 fWQ _ ["thing"] (spWq 13):=ok_wq FWQ bWQ mWQ B gTO kTO bTO mTO gAQ kAQ bAQ mAQ 13 (by decide)
 have gBI:FnOk l.prog w K mg base CX0 1 fBI _ ["self"] (spBi CB):=ok_bi FBI hC
 have gBP:FnOk l.prog w K mg base (CX1 l.prog w) 43 fBP _ ["self","wish"] (spBp CB CW):=ok_bp FBP hC B FI bI (PySem.W.mg_of X G aCW) XCW gWQ kWQ bWQ mWQ
 have gBU:FnOk l.prog w K mg base CX0 1 fBU _ ["self"] (spBu CB):=ok_bu FBU hC B
 have gBL:FnOk l.prog w K mg base CX0 1 fBL _ ["self"] (spBl CB):=ok_bl FBL hC B
 have gBW:FnOk l.prog w K mg base CX0 1 fBW _ ["self"] (spBw CB):=ok_bw FBW hC B
 have gBO:FnOk l.prog w K mg base (CX1 l.prog w) 3 fBO _ ["self"] (spBo CB CL):=ok_bo FBO hC B FI bI (PySem.W.mg_of X G aCL) XCL
 have gDR:FnOk l.prog w K mg base CX0 1 fDR _ ["_law_script","_law_k","_law_many"] (spDraw K):=ok_draw FDR B
 have gTE:FnOk l.prog w K mg base CX0 2 fTE _ ["_law_script","_law_k"] (spTerm K):=ok_term FTE gDR kDR bDR mDR
 have gSH:FnOk l.prog w K mg base CX0 2 fSH _ ["_law_script","_law_k"] (spShr K):=ok_shr FSH gDR kDR bDR mDR
 have gAT:FnOk l.prog w K mg base CX0 3 fAT _ ["_law_script","_law_k"] (spAtom K):=ok_atom FAT B gDR kDR bDR mDR gTE kTE bTE mTE gSH kSH bSH mSH
 have gWI:FnOk l.prog w K mg base CX0 5 fWI _ ["_law_script","_law_k","_law_deep","_law_atoms"] (spWish K 3):=ok_wish FWI bWI mWI B gDR kDR bDR mDR 3
 have gWS:FnOk l.prog w K mg base CX0 6 fWS _ ["_law_script","_law_base"] (spWishes K):=ok_wishes FWS B gDR kDR bDR mDR gAT kAT bAT mAT gWI kWI bWI mWI
 have gST:FnOk l.prog w K mg base CX0 2 fST _ ["_law_script","_law_k"] (spStr K):=ok_str FST gDR kDR bDR mDR
 have gAK:FnOk l.prog w K mg base CX0 44 fAK _ ["_law_bench","_law_way","_law_thing"] (spAsk CB):=ok_ask FAK hC (PySem.W.mg_of X G aW) (exm_w sW dW tW swCL) (exm_w sW dW tW swCW) MBO gBO bBO MBP gBP bBP (ok_refu FRF B LCL (.inl ⟨rfl,rfl,rfl⟩)) (ok_refu FRF B LCW (.inr ⟨rfl,rfl,rfl⟩)) kRF bRF mRF
 have gDE:FnOk l.prog w K mg base CX0 45 fDE _ ["_law_script","_law_k","_law_bench","_law_kept","_law_wish_here"] (spDeed K CB):=ok_deed FDE hC B gDR kDR bDR mDR MBU gBU bBU MBO gBO bBO MBP gBP bBP gAK kAK bAK mAK gST kST bST mST
 have gTD:FnOk l.prog w K mg base CX0 2 fTD _ ["_law_bench","_law_kept"] (spTld CB):=ok_tld FTD hC B MBW gBW bBW MBL gBL bBL
 exact ok_law FLA B hM (PySem.W.mg_of X G aCB) gBI bBI gDR kDR bDR mDR gWS kWS bWS mWS gTD kTD bTD mTD gDE kDE bDE mDE
theorem walk {l:PySem.W.OpenLaw} {q:Program} {loose:List Str} {XP:(Str→Option Value)→Heap→Prop} {YP:World→Heap→Prop} {d:DefRec} {K:Params→PySem.W.Frag} (hn:l.most=some 63) (hdf:d.params.defaults= [])
 (hY:∀(w:World) (h:Heap),YP w h→(K w.params).In h)
 (F:∀(w:World) (mg:Str→Option Value) (fa:Addr) (h:Heap),(K w.params).In h→h.Ns mainGlobals mg→mg d.name=some (.ref fa)→
  ∃fd:FuncData,(∀(s:Shared) (u:Value),BindsTo s fd ⟨[u],[]⟩ [("_law_script",u)])∧∀base:Heap,(K w.params).In base→base.Ns mainGlobals mg→FnOk l.prog w (K w.params) mg base CX0 46 fa fd ["_law_script"] (spLaw (K w.params))):
 PySem.W.WalkO q loose XP YP l.row.toRowW d [] (fun f vs=>PySem.call f vs):=
 L2.walk_of (n:=63) (k:=46) (x:="_law_script") (CX:=fun _=>CX0) (sp:=fun w=>spLaw (K w.params)) hn (by decide) hdf ⟨rfl,by decide,by decide,rfl⟩ hY F (fun _ _ a ns hl _ hS=>⟨a,ns,rfl,hS,hl,fun _=>rfl⟩) fun _ _ _ _ _ z=>z
end K81
def PySem.W.Fast.tw7289553405152745661:Unit:=()
def PySem.W.Fast.tw9264966388217758322:Unit:=()
def PySem.W.Fast.tw12836751284236494747:Unit:=()
def PySem.W.Fast.tw695548491126574355:Unit:=()
def PySem.W.Fast.tw16553530441808709047:Unit:=()
def PySem.W.Fast.tw12369069523585470748:Unit:=()
def PySem.W.Fast.tw8824395455993804897:Unit:=()
def PySem.W.Fast.tw14011202478432698789:Unit:=()
def PySem.W.Fast.tw7873308102830995238:Unit:=()
def PySem.W.Fast.tw12788793537020582215:Unit:=()
def PySem.W.Fast.tw11565843648127088267:Unit:=()
def PySem.W.Fast.tw4651136607665224088:Unit:=()
def PySem.W.Fast.tw16662428445725213083:Unit:=()
def PySem.W.Fast.tw8480506582743405248:Unit:=()
def PySem.W.Fast.tw3875643168420589285:Unit:=()
def PySem.W.Fast.tw11768469811559335395:Unit:=()
def PySem.W.Fast.tw6113000623942876881:Unit:=()
def PySem.W.Fast.tw11166429020805046669:Unit:=()
def PySem.W.Fast.tw16329530217118232603:Unit:=()
def PySem.W.Fast.tw4499647054674729903:Unit:=()
def PySem.W.Fast.tw442449199390407427:Unit:=()
def PySem.W.Fast.tw8942989419771744986:Unit:=()
def PySem.W.Fast.tw9122222873534022696:Unit:=()
def PySem.W.Fast.tw16042630479125830191:Unit:=()
def PySem.W.Fast.tw1672711612355060597:Unit:=()
def PySem.W.Fast.tw5691971166569376243:Unit:=()
def PySem.W.Fast.tw8331400650356858073:Unit:=()
def PySem.W.Fast.tw3912462811788481559:Unit:=()
def PySem.W.Fast.tw2432187600177314368:Unit:=()
def PySem.W.Fast.tw10781004810502746279:Unit:=()
def PySem.W.Fast.tw10367038888100425404:Unit:=()
def PySem.W.Fast.tw3239334996072425370:Unit:=()
def PySem.W.Fast.tw3886559002085477118:Unit:=()
def PySem.W.Fast.tw8247944277469284117:Unit:=()
def PySem.W.Fast.tw6123448633884302400:Unit:=()
def PySem.W.Fast.tw12982828049456877745:Unit:=()
def PySem.W.Fast.tw12306801673999772167:Unit:=()
def PySem.W.Fast.tw4559592560852533682:Unit:=()
open PySem PySem.W PyProof.Rows
set_option maxRecDepth 100000 in
set_option maxHeartbeats 0 in
theorem PySem.Challenge.cw_smallword_k81_levels_of_a_bench_holds : PySem.Challenge.rw_smallword_k81_levels_of_a_bench.Holds := by
  w_on; o_law; k_head; (case hw => w_witness2)
  k_fill
  refine K81.walk (l := PySem.Challenge.rw_smallword_k81_levels_of_a_bench) rfl rfl (fun w h Y => PySem.W.kIn_of Y) ?F
  case F =>
    intro w mg fa h KX G hmg
    refine' K81.all_mk KX G hmg ?aC ?iC ?fnI ?lI ?cI ?kI ?aCD ?lCD ?cCD ?kCD ?aFR ?lFR ?cFR ?kFR ?aIW ?lIW ?cIW ?kIW ?aTO ?lTO ?cTO ?kTO ?aNQ ?lNQ ?cNQ ?kNQ ?aFQ ?lFQ ?cFQ ?kFQ ?aTQ ?lTQ ?cTQ ?kTQ ?aCT ?lCT ?cCT ?kCT ?aPR ?lPR ?cPR ?kPR ?aSM ?lSM ?cSM ?kSM ?aAQ ?lAQ ?cAQ ?kAQ ?aWQ ?lWQ ?cWQ ?kWQ ?aDR ?lDR ?cDR ?kDR ?aTE ?lTE ?cTE ?kTE ?aSH ?lSH ?cSH ?kSH ?aAT ?lAT ?cAT ?kAT ?aWI ?lWI ?cWI ?kWI ?aWS ?lWS ?cWS ?kWS ?aRF ?lRF ?cRF ?kRF ?aST ?lST ?cST ?kST ?aAK ?lAK ?cAK ?kAK ?aDE ?lDE ?cDE ?kDE ?aTD ?lTD ?cTD ?kTD ?aLA ?lLA ?cLA ?kLA ?aCB ?aBI ?nBI ?lBI ?cBI ?kBI ?aBP ?nBP ?lBP ?cBP ?kBP ?aBU ?nBU ?lBU ?cBU ?kBU ?aBO ?nBO ?lBO ?cBO ?kBO ?aBL ?nBL ?lBL ?cBL ?kBL ?aBW ?nBW ?lBW ?cBW ?kBW ?kCB ?qM ?qG ?qD ?qO ?qS ?qP ?qN ?aZ ?lZ ?aML ?aMC ?aW ?aCL ?aCW ?acA ?acN ?acT ?ac1 ?ac2 ?ac4 ?kC ?lC ?iCL ?kCL ?lCL ?iCW ?kCW ?lCW ?sW ?dW ?tW ?dC ?tC ?dCL ?tCL ?dCW ?tCW ?dcA ?tcA ?dcN ?tcN ?dcT ?tcT ?dc1 ?tc1 ?dc2 ?tc2 ?dc4 ?tc4 ?gCL ?hgCL ?oCL ?moCL ?mbCL ?swCL ?svCL ?sCLC ?sCLCW ?sCLcA ?sCLcN ?sCLcT ?sCLc1 ?sCLc2 ?sCLc4 ?gCW ?hgCW ?oCW ?moCW ?mbCW ?swCW ?svCW ?sCWC ?sCWCL ?sCWcA ?sCWcN ?sCWcT ?sCWc1 ?sCWc2 ?sCWc4 ?z_abs ?z_len ?z_range ?z_isinstance ?z_tuple ?z_int ?z_bool ?z_list ?z_str ?z_all ?z_any ?z_sum ?z_zip ?z_sorted ?z_ValueError ?lnC ?lnCL ?lnCW ?nCLC ?nCLCW ?nCLcA ?nCLcN ?nCLcT ?nCLc1 ?nCLc2 ?nCLc4 ?nCWC ?nCWCL ?nCWcA ?nCWcN ?nCWcT ?nCWc1 ?nCWc2 ?nCWc4
    (case aC => k_is); (case iC => k_is); (case fnI => k_is); (case lI => k_is); (case cI => k_is); (case kI => k_is); (case aCD => k_is); (case lCD => k_is)
    (case cCD => k_is); (case kCD => k_is); (case aFR => k_is); (case lFR => k_is); (case cFR => k_is); (case kFR => k_is); (case aIW => k_is); (case lIW => k_is)
    (case cIW => k_is); (case kIW => k_is); (case aTO => k_is); (case lTO => k_is); (case cTO => k_is); (case kTO => k_is); (case aNQ => k_is); (case lNQ => k_is)
    (case cNQ => k_is); (case kNQ => k_is); (case aFQ => k_is); (case lFQ => k_is); (case cFQ => k_is); (case kFQ => k_is); (case aTQ => k_is); (case lTQ => k_is)
    (case cTQ => k_is); (case kTQ => k_is); (case aCT => k_is); (case lCT => k_is); (case cCT => k_is); (case kCT => k_is); (case aPR => k_is); (case lPR => k_is)
    (case cPR => k_is); (case kPR => k_is); (case aSM => k_is); (case lSM => k_is); (case cSM => k_is); (case kSM => k_is); (case aAQ => k_is); (case lAQ => k_is)
    (case cAQ => k_is); (case kAQ => k_is); (case aWQ => k_is); (case lWQ => k_is); (case cWQ => k_is); (case kWQ => k_is); (case aDR => k_is); (case lDR => k_is)
    (case cDR => k_is); (case kDR => k_is); (case aTE => k_is); (case lTE => k_is); (case cTE => k_is); (case kTE => k_is); (case aSH => k_is); (case lSH => k_is)
    (case cSH => k_is); (case kSH => k_is); (case aAT => k_is); (case lAT => k_is); (case cAT => k_is); (case kAT => k_is); (case aWI => k_is); (case lWI => k_is)
    (case cWI => k_is); (case kWI => k_is); (case aWS => k_is); (case lWS => k_is); (case cWS => k_is); (case kWS => k_is); (case aRF => k_is); (case lRF => k_is)
    (case cRF => k_is); (case kRF => k_is); (case aST => k_is); (case lST => k_is); (case cST => k_is); (case kST => k_is); (case aAK => k_is); (case lAK => k_is)
    (case cAK => k_is); (case kAK => k_is); (case aDE => k_is); (case lDE => k_is); (case cDE => k_is); (case kDE => k_is); (case aTD => k_is); (case lTD => k_is)
    (case cTD => k_is); (case kTD => k_is); (case aLA => k_is); (case lLA => k_is); (case cLA => k_is); (case kLA => k_is); (case aCB => k_is); (case aBI => k_is)
    (case nBI => k_is); (case lBI => k_is); (case cBI => k_is); (case kBI => k_is); (case aBP => k_is); (case nBP => k_is); (case lBP => k_is); (case cBP => k_is)
    (case kBP => k_is); (case aBU => k_is); (case nBU => k_is); (case lBU => k_is); (case cBU => k_is); (case kBU => k_is); (case aBO => k_is); (case nBO => k_is)
    (case lBO => k_is); (case cBO => k_is); (case kBO => k_is); (case aBL => k_is); (case nBL => k_is); (case lBL => k_is); (case cBL => k_is); (case kBL => k_is)
    (case aBW => k_is); (case nBW => k_is); (case lBW => k_is); (case cBW => k_is); (case kBW => k_is); (case kCB => k_is); (case qM => k_is); (case qG => k_is)
    (case qD => k_is); (case qO => k_is); (case qS => k_is); (case qP => k_is); (case qN => k_is); (case aZ => k_is); (case lZ => k_is); (case aML => k_is)
    (case aMC => k_is); (case aW => k_is); (case aCL => k_is); (case aCW => k_is); (case acA => k_is); (case acN => k_is); (case acT => k_is); (case ac1 => k_is)
    (case ac2 => k_is); (case ac4 => k_is); (case kC => k_is); (case lC => k_is); (case iCL => k_is); (case kCL => k_is); (case lCL => k_is); (case iCW => k_is)
    (case kCW => k_is); (case lCW => k_is); (case sW => k_is); (case dW => k_is); (case tW => k_is); (case dC => k_is); (case tC => k_is); (case dCL => k_is)
    (case tCL => k_is); (case dCW => k_is); (case tCW => k_is); (case dcA => k_is); (case tcA => k_is); (case dcN => k_is); (case tcN => k_is); (case dcT => k_is)
    (case tcT => k_is); (case dc1 => k_is); (case tc1 => k_is); (case dc2 => k_is); (case tc2 => k_is); (case dc4 => k_is); (case tc4 => k_is); (case gCL => k_is)
    (case hgCL => k_is); (case oCL => k_is); (case moCL => k_is); (case mbCL => k_is); (case swCL => k_is); (case svCL => k_is); (case sCLC => k_is); (case sCLCW => k_is)
    (case sCLcA => k_is); (case sCLcN => k_is); (case sCLcT => k_is); (case sCLc1 => k_is); (case sCLc2 => k_is); (case sCLc4 => k_is); (case gCW => k_is); (case hgCW => k_is)
    (case oCW => k_is); (case moCW => k_is); (case mbCW => k_is); (case swCW => k_is); (case svCW => k_is); (case sCWC => k_is); (case sCWCL => k_is); (case sCWcA => k_is)
    (case sCWcN => k_is); (case sCWcT => k_is); (case sCWc1 => k_is); (case sCWc2 => k_is); (case sCWc4 => k_is); (case z_abs => k_is); (case z_len => k_is); (case z_range => k_is)
    (case z_isinstance => k_is); (case z_tuple => k_is); (case z_int => k_is); (case z_bool => k_is); (case z_list => k_is); (case z_str => k_is); (case z_all => k_is); (case z_any => k_is)
    (case z_sum => k_is); (case z_zip => k_is); (case z_sorted => k_is); (case z_ValueError => k_is)
    (case lnC => exact ⟨by decide, by decide, by decide, by decide⟩)
    (case lnCL => exact ⟨by decide, by decide, by decide, by decide⟩)
    (case lnCW => exact ⟨by decide, by decide, by decide, by decide⟩)
    (case nCLC => decide)
    (case nCLCW => decide)
    (case nCLcA => decide)
    (case nCLcN => decide)
    (case nCLcT => decide)
    (case nCLc1 => decide)
    (case nCLc2 => decide)
    (case nCLc4 => decide)
    (case nCWC => decide)
    (case nCWCL => decide)
    (case nCWcA => decide)
    (case nCWcN => decide)
    (case nCWcT => decide)
    (case nCWc1 => decide)
    (case nCWc2 => decide)
    (case nCWc4 => decide)
